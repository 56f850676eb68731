import PyProof.Rows.All
import Wide.All
import OpenK.AllK
import Wide.FinOn
import Lean
import PyProof.EqAt
import PyProof.EqKinds
import PyProof.TupleCall
import PyProof.NeKinds
import KE.IntBitsLaws
import KE.LcSums
import PyProof.ConsumeWalk
import PyProof.DictWalks
import PyProof.Rows.DictUnroll
import PySem.Challenge.RW_watchyard_k24_a_point
set_option Elab.async false
set_option linter.all false
set_option maxRecDepth 100000
set_option Elab.async false
set_option linter.all false
set_option maxRecDepth 100000
set_option maxHeartbeats 4000000
abbrev Za:=@Option.bind_eq_some_iff
abbrev Zb:=@Option.map_eq_some_iff
abbrev Zc:=@Option.bind_some
abbrev Zd:=@List.getElem?_cons_zero
abbrev Ze:=@List.getElem?_cons_succ
abbrev Zf:=@List.set_cons_zero
abbrev Zg:=@List.set_cons_succ
abbrev Zh:=@List.length_append
abbrev Zi:=@List.length_map
abbrev Zj:=@List.length_singleton
abbrev Zk:=@List.mem_cons_self
abbrev Zl:=@List.mem_cons_of_mem
abbrev Zm:=@List.mem_singleton
abbrev Zn:=@List.mem_map
abbrev Zo:=@List.mem_range
abbrev Zp:=@List.mem_append
abbrev Zq:=@List.mem_cons
abbrev Zr:=@List.map_cons
abbrev Zs:=@List.getD_eq_getElem?_getD
abbrev Zt:=@List.getElem?_eq_getElem
namespace L2
open PySem PySem.Spec PyProof.Rows
def dw (s:Stmt):Arguments:=match s with
 | .FunctionDef _ a _ _ _ _ _ _ _ _=>a
 | _=>{ posonlyargs:=[],args:=[],vararg:=none,kwonlyargs:=[],kw_defaults:=[],kwarg:=none,defaults:=[] }
def bH (s:Stmt):List Stmt:=match s with
 | .FunctionDef _ _ b _ _ _ _ _ _ _=>b
 | _=>[]
def ap (s:Stmt):Scope:=match s with
 | .FunctionDef _ _ _ _ _ _ sc _ _ _=>sc
 | _=>{ kind:=.function,names:=[],isGenerator:=false,isCoroutine:=false }
end L2
namespace Hd
open PySem PySem.Spec PyProof.Rows L2 PySem.W
def Kof (as:List Addr) (h:Heap):PySem.W.Frag:=as.filterMap fun a=>(h.get? a).map fun o=>(a,o)
theorem vh:∀ (as:List Addr) (h:Heap),(Kof as h).In h
 | [],h,a,o,e=>by cases e
 | b :: r,h,a,o,e=>by
  unfold Kof at e
  rw [List.filterMap_cons] at e
  cases hb:h.get? b with
  | none=>rw [hb] at e;exact vh r h a o e
  | some o' =>
   rw [hb] at e
   change List.lookup a ((b,o') :: Kof r h)=some o at e
   rw [List.lookup_cons] at e
   cases hc:a == b with
   | true=>rw [hc] at e;cases e;rw [beq_iff_eq.mp hc];exact hb
   | false=>rw [hc] at e;exact vh r h a o e
def hk {α:Type} (as:List Addr) (F:PySem.W.Frag->α) (v:α):PySem.W.Hook where
 α:=α
 obs:=fun s=>F (Kof as s.heap)
 val:=fun _=>v
 says:=fun _ h=>∃ K:PySem.W.Frag,K.In h/\F K=v
 of:=fun _ s e=>⟨_,vh as s.heap,e⟩
 keeps:=fun _ _ _ x k=>Exists.elim x fun K y=>⟨K,y.1.keeps k,y.2⟩
abbrev FT:=Option (Option Value)×Bool×Option (Str×Str×Arguments×FuncBody×Scope×Addr×List (Str×Addr)×Value×Addr×Bool)
def fv (K:PySem.W.Frag) (x:Str) (f:Addr):FT :=
 (PySem.W.nsIn K mainGlobals x,PySem.W.keepIn K (.ref f),match K.lookup f with
  | some ⟨_,_,.func d,_⟩=>some (d.name,d.qualname,d.params,d.body,d.scope,d.globals,d.closure,d.defaults,d.builtins,PySem.W.codeIn K d.code x)
  | _=>none)
def fe (x:Str) (st:Stmt) (dV:Value) (f:Addr):FT:=(some (some (Value.ref f)),true,some (x,x,dw st,FuncBody.stmts (bH st),ap st,mainGlobals,[],dV,builtinsNs,true))
theorem fv_inv {K:PySem.W.Frag} {x:Str} {st:Stmt} {dV:Value} {f:Addr} (e:fv K x f=fe x st dV f):PySem.W.nsIn K mainGlobals x=some (some (.ref f))/\PySem.W.keepIn K (.ref f)=true /\
 ∃ (oc:Value) (od:Option Addr) (kV doc pm:Value) (an:Option Addr) (cdv ct:Value) (osl:Array (Option Value)),K.lookup f=some ⟨oc,od,.func (PySem.W.fnOf x x (dw st) (bH st) (ap st) dV kV doc pm an cdv ct),osl⟩/\PySem.W.codeIn K cdv x=true:=by
 obtain ⟨e1,e2⟩:=Prod.mk.inj e
 obtain ⟨e2,e3⟩:=Prod.mk.inj e2
 refine ⟨e1,e2,?_⟩
 revert e3
 cases K.lookup f with
 | none=>intro e3;cases e3
 | some o =>
  obtain ⟨oc,od,dt,osl⟩:=o
  cases dt with
  | func d =>
   intro e3
   obtain ⟨a1,a2,a3,a4,a5,a6,a7,a8,a9,b1,b2,b3,b4,b5,b6⟩:=d
   obtain ⟨h1,y1⟩:=Prod.mk.inj (Option.some.inj e3)
   obtain ⟨h2,y2⟩:=Prod.mk.inj y1
   obtain ⟨h3,y3⟩:=Prod.mk.inj y2
   obtain ⟨h4,y4⟩:=Prod.mk.inj y3
   obtain ⟨h5,y5⟩:=Prod.mk.inj y4
   obtain ⟨h6,y6⟩:=Prod.mk.inj y5
   obtain ⟨h7,y7⟩:=Prod.mk.inj y6
   obtain ⟨h8,y8⟩:=Prod.mk.inj y7
   obtain ⟨h9,y9⟩:=Prod.mk.inj y8
   clear e3 y1 y2 y3 y4 y5 y6 y7 y8
   dsimp only at h1 h2 h3 h4 h5 h6 h7 h8 h9 y9
   subst h1 h2 h3 h4 h5 h6 h7 h8 h9
   exact ⟨oc,od,a9,b1,b2,b3,b4,b5,osl,rfl,y9⟩
  | _=>intro e3;cases e3
def intsAt (K:PySem.W.Frag) (T:Addr):Option (List (Option Int)):=match K.lookup T with
 | some ⟨_,_,.seq xs _,_⟩=>some (xs.toList.map fun v=>match v with | .int i _=>some i | _=>none)
 | _=>none
theorem intsAt_inv {K:PySem.W.Frag} {T:Addr} {i:Int} (e:intsAt K T=some [some i]):∃ (oT:Value) (dT:Option Addr) (tk:Tok) (nT:Nat) (sT:Array (Option Value)),K.lookup T=some ⟨oT,dT,.seq #[.int i tk] nT,sT⟩:=by
 unfold intsAt at e
 revert e
 cases K.lookup T with
 | none=>intro e;cases e
 | some o =>
  obtain ⟨oc,od,dt,osl⟩:=o
  cases dt with
  | seq xs n =>
   intro e
   obtain ⟨l⟩:=xs
   cases l with
   | nil=>cases e
   | cons v r =>
    cases r with
    | cons v' r'=>cases (List.cons.inj (Option.some.inj e)).2
    | nil =>
     cases v with
     | int j t=>cases e;exact ⟨_,_,_,_,_,rfl⟩
     | _=>cases e
  | _=>intro e;cases e
theorem left_one {p q:Program} {loose:List Str} {Xt:Shared->Bool} {α:Type} {Yf:Shared->α} {Ya:World->α} {N:Nat} {g0:Bool} {m₀:Nat} {ann:Option Value}
 (e:opening p=plainProg p.main.scope.names) (hN:Nat.ble 600 N=true) (f:∀ s,fenceModules? p s=some s)
 (size:∀ w:World,((boot_heap w.params).isNs mainGlobals,(boot_heap w.params).objs.size,(boot_heap w.params).nsMap mainGlobals "__annotations__")=(true,m₀,ann))
 (B6:∀ (w:World) (os:OsState),(topRun treeTable p w m₀ ann N ⟨boot_heap w.params,Array.mk [],boot_drawn,boot_toks,os⟩ (topStub p)).map (fun s=>((staticsOk (importedModules p.main.body) (boot_heap w.params) s.heap && namesBound p s.heap && gensDone s && laidKept (boot_heap w.params) s.heap),Yf s))=some (true,Ya w))
 (B5:∀ (w:World) (os:OsState),(topRun treeTable p w m₀ ann N ⟨boot_heap w.params,Array.mk [],boot_drawn,boot_toks,os⟩ (topStub p)).map (fun s=>openSeen q loose (importedModules p.main.body) Xt g0 s)=some (openGood q loose)):LeftO p q loose Xt Yf Ya N g0:=fun w=>by
 obtain ⟨⟨h,gs,d,k,os⟩,e,e'⟩:=Zb.mp (boot_open e hN f w)
 obtain ⟨rfl,e'⟩:=Prod.mk.inj e'
 obtain ⟨rfl,e'⟩:=Prod.mk.inj e'
 obtain ⟨rfl,rfl⟩:=Prod.mk.inj e'
 obtain ⟨z1,z2⟩:=Prod.mk.inj (size w)
 obtain ⟨z2,z3⟩:=Prod.mk.inj z2
 obtain ⟨s₁,r,l⟩:=Zb.mp (B6 w os)
 obtain ⟨l1,l3⟩:=Prod.mk.inj l
 have l2:=B5 w os
 rw [r] at l2
 have t:topFrom treeTable p w N ⟨boot_heap w.params,Array.mk [],boot_drawn,boot_toks,os⟩=some s₁:=by
  unfold topFrom
  dsimp only
  rw [z1,z2,z3]
  show (topRun treeTable p w m₀ ann N ⟨boot_heap w.params,Array.mk [],boot_drawn,boot_toks,os⟩ (topStub p)).bind _=_
  rw [r]
  show (match staticsOk (importedModules p.main.body) (boot_heap w.params) s₁.heap && namesBound p s₁.heap && gensDone s₁ && laidKept (boot_heap w.params) s₁.heap with | true=>_ | false=>_)=_
  rw [l1]
 unfold openEnds
 rw [e]
 show ((topFrom treeTable p w N _).map _)=_
 rw [t]
 exact congrArg some (Prod.ext (Option.some.inj l2) l3)
end Hd
namespace Mine
open PySem PySem.Spec PyProof.Rows L2
def top (i:Nat):Stmt:=PySem.Challenge.pw_watchyard_k24_a_point.main.body.getD i (.Pass ⟨0,0,0,0⟩)
abbrev iH:Stmt:=top 10
abbrev dQ:Stmt:=top 11
abbrev qR:Stmt:=top 18
abbrev jB:Stmt:=top 21
abbrev gZ:Stmt:=top 22
abbrev kK:Stmt:=top 24
abbrev eF:Stmt:=top 28
abbrev fE:Stmt:=top 40
abbrev gy:Stmt:=top 41
abbrev fV:Stmt:=top 42
abbrev g7:Stmt:=top 43
abbrev gw:Stmt:=top 48
abbrev iJ:Stmt:=top 49
abbrev ft:Stmt:=top 50
abbrev gz:Stmt:=top 52
abbrev cC:Stmt:=top 54
abbrev kH:Stmt:=top 13
abbrev kG:Stmt:=top 16
abbrev mP:Stmt:=top 17
abbrev eY:Stmt:=top 27
abbrev fq:Stmt:=top 30
abbrev iI:Stmt:=top 37
abbrev mR:Stmt:=top 38
abbrev dR:Stmt:=top 44
abbrev g4:Stmt:=top 45
abbrev fu:Stmt:=top 46
abbrev fW:Stmt:=top 51
abbrev g6:Stmt:=top 53
abbrev eJ:Stmt:=top 55
abbrev eM:Stmt:=top 12
abbrev qQ:Stmt:=top 14
abbrev mQ:Stmt:=top 15
abbrev eI:Stmt:=top 47
abbrev mS:Stmt:=top 20
abbrev jC:Stmt:=top 36
abbrev gA:Stmt:=top 56
abbrev fg:Stmt:=top 29
abbrev eZ:Stmt:=top 35
abbrev kL:Stmt:=top 26
abbrev kJ:Stmt:=top 34
abbrev ck:Stmt:=top 33
abbrev gG:Stmt:=top 32
abbrev jT:Stmt:=top 57
abbrev PW:Program:=PySem.Challenge.pw_watchyard_k24_a_point
abbrev VW:Program:=PySem.W.view PW [1,2,3,4,5,6,7,8,10,11,13,14,15,16,17,18,20,21,22,24,26,27,28,29,30,32,33,34,35,36,37,38,40,41,42,43,44,45,46,47,48,49,50,51,52,53,54,55,56,57]
abbrev LO:List Str:=["fraction"]
def ads:List Addr:=[mainGlobals,146,153,161,168,175,182,189,196,203,210,217,224,229,236,243,248,255,262,269,276,281,286,293,300,307,314,321,328,335,342,349,356,361,368,375,382,387,394,401,408,413,418,423,145,152,160,167,174,181,188,195,202,209,216,223,228,235,242,247,254,261,268,275,280,285,292,299,306,313,320,327,334,341,348,355,360,367,374,381,386,393,400,407,412,417,422,154,24,23,49,48,118,117,61,60,37,36,137,136,80,79,99,98]
abbrev FF (K:PySem.W.Frag):=(Hd.fv K "is_whole" 146,
 Hd.fv K "common_divisor" 153,
 Hd.fv K "fraction" 161,
 Hd.intsAt K 154,
 Hd.fv K "lowest" 168,
 Hd.fv K "plus" 175,
 Hd.fv K "minus" 182,
 Hd.fv K "summed" 189,
 Hd.fv K "times" 196,
 Hd.fv K "less" 203,
 Hd.fv K "keeps" 210,
 Hd.fv K "tighter" 217,
 Hd.fv K "bound_sum" 224,
 Hd.fv K "copied" 229,
 Hd.fv K "closed" 236,
 Hd.fv K "with_noughts" 243,
 Hd.fv K "straight_ways" 248,
 Hd.fv K "ring_through" 255,
 Hd.fv K "lead_through" 262,
 Hd.fv K "point_of" 269,
 Hd.fv K "closed_or_refused" 276,
 Hd.fv K "filled" 281,
 Hd.fv K "value_beside" 286,
 Hd.fv K "between" 293,
 Hd.fv K "greatest" 300,
 Hd.fv K "least" 307,
 Hd.fv K "_law_cell_at" 314,
 Hd.fv K "_law_mixed" 321,
 Hd.fv K "_law_lowest" 328,
 Hd.fv K "_law_less" 335,
 Hd.fv K "_law_any_table" 342,
 Hd.fv K "_law_part" 349,
 Hd.fv K "_law_planted" 356,
 Hd.fv K "_law_table_by" 361,
 Hd.fv K "_law_whole" 368,
 Hd.fv K "_law_sum" 375,
 Hd.fv K "_law_tighter" 382,
 Hd.fv K "_law_closed" 387,
 Hd.fv K "_law_keeps" 394,
 Hd.fv K "_law_lies" 401,
 Hd.fv K "_law_is_no_point" 408,
 Hd.fv K "_law_is_point" 413,
 Hd.fv K "_law_asked" 418,
 Hd.fv K "law" 423,
 PySem.W.nsIn K mainGlobals "isinstance",
 PySem.W.nsIn K mainGlobals "int",
 PySem.W.nsIn K mainGlobals "bool",
 PySem.W.nsIn K mainGlobals "list",
 PySem.W.nsIn K mainGlobals "range",
 PySem.W.nsIn K mainGlobals "len",
 PySem.W.nsIn K mainGlobals "dict",
 PySem.W.nsIn K mainGlobals "abs",
 PySem.W.nsIn K mainGlobals "any",
 PySem.W.nsIn K mainGlobals "ValueError",
 PySem.W.nsIn K mainGlobals "tuple",
 PySem.W.nsIn K mainGlobals "all",
 PySem.W.nsIn K mainGlobals "WatchError",
 PySem.W.nsIn K mainGlobals "NoPoint",
 PySem.W.nsIn K mainGlobals "NoAct",
 PySem.W.nsIn K mainGlobals "NoAsk",
 PySem.W.nsIn K mainGlobals "NoFraction",
 PySem.W.nsIn K mainGlobals "NoMove",
 PySem.W.nsIn K mainGlobals "NoNet",
 PySem.W.nsIn K mainGlobals "NoWait",
 PySem.W.isClsIn K 49,
 PySem.W.findIn K (.ref 49) "__getattribute__",
 PySem.W.findIn K (.ref 49) "__getattr__",
 PySem.W.findIn K (.ref 49) "__class__",
 PySem.W.specialIn K (.builtin "object.__class__") "__get__",
 PySem.W.takesIn K (.builtin "object.__class__"),
 PySem.W.mroIn K 49 (.type "object"),
 PySem.W.subIn K (.ref 49) (.type "BaseException"),
 PySem.W.excIn K 49 [.type "ValueError",.type "Exception",.type "BaseException",.type "object"] "ValueError.__new__",
 PySem.W.isClsIn K 24,
 PySem.W.typeIn K (.ref 24),
 PySem.W.subIn K (.ref 24) (.type "BaseException"),
 PySem.W.subIn K (.ref 49) (.ref 24),
 PySem.W.kitOne K (.ref 49) (.ref 49),
 PySem.W.kitOne K (.ref 49) (.type "ValueError"),
 PySem.W.kitAny K (.ref 49) [.ref 118,.ref 61,.ref 37,.ref 137,.ref 80,.ref 99])
abbrev FE:=(Hd.fe "is_whole" iH .none 146,
 Hd.fe "common_divisor" dQ .none 153,
 Hd.fe "fraction" eM (.ref 154) 161,
 (some [some (1:Int)]),
 Hd.fe "lowest" kH .none 168,
 Hd.fe "plus" qQ .none 175,
 Hd.fe "minus" mQ .none 182,
 Hd.fe "summed" kG .none 189,
 Hd.fe "times" mP .none 196,
 Hd.fe "less" qR .none 203,
 Hd.fe "keeps" mS .none 210,
 Hd.fe "tighter" jB .none 217,
 Hd.fe "bound_sum" gZ .none 224,
 Hd.fe "copied" kK .none 229,
 Hd.fe "closed" kL .none 236,
 Hd.fe "with_noughts" eY .none 243,
 Hd.fe "straight_ways" eF .none 248,
 Hd.fe "ring_through" fg .none 255,
 Hd.fe "lead_through" fq .none 262,
 Hd.fe "point_of" gG .none 269,
 Hd.fe "closed_or_refused" ck .none 276,
 Hd.fe "filled" kJ .none 281,
 Hd.fe "value_beside" eZ .none 286,
 Hd.fe "between" jC .none 293,
 Hd.fe "greatest" iI .none 300,
 Hd.fe "least" mR .none 307,
 Hd.fe "_law_cell_at" fE .none 314,
 Hd.fe "_law_mixed" gy .none 321,
 Hd.fe "_law_lowest" fV .none 328,
 Hd.fe "_law_less" g7 .none 335,
 Hd.fe "_law_any_table" dR .none 342,
 Hd.fe "_law_part" g4 .none 349,
 Hd.fe "_law_planted" fu .none 356,
 Hd.fe "_law_table_by" eI .none 361,
 Hd.fe "_law_whole" gw .none 368,
 Hd.fe "_law_sum" iJ .none 375,
 Hd.fe "_law_tighter" ft .none 382,
 Hd.fe "_law_closed" fW .none 387,
 Hd.fe "_law_keeps" gz .none 394,
 Hd.fe "_law_lies" g6 .none 401,
 Hd.fe "_law_is_no_point" cC .none 408,
 Hd.fe "_law_is_point" eJ .none 413,
 Hd.fe "_law_asked" gA .none 418,
 Hd.fe "law" jT .none 423,
 (some none:Option (Option Value)),
 (some none:Option (Option Value)),
 (some none:Option (Option Value)),
 (some none:Option (Option Value)),
 (some none:Option (Option Value)),
 (some none:Option (Option Value)),
 (some none:Option (Option Value)),
 (some none:Option (Option Value)),
 (some none:Option (Option Value)),
 (some none:Option (Option Value)),
 (some none:Option (Option Value)),
 (some none:Option (Option Value)),
 (some (some (.ref 24)):Option (Option Value)),
 (some (some (.ref 49)):Option (Option Value)),
 (some (some (.ref 118)):Option (Option Value)),
 (some (some (.ref 61)):Option (Option Value)),
 (some (some (.ref 37)):Option (Option Value)),
 (some (some (.ref 137)):Option (Option Value)),
 (some (some (.ref 80)):Option (Option Value)),
 (some (some (.ref 99)):Option (Option Value)),
 (true:Bool),
 (some (some (.builtin "BaseException.__getattribute__")):Option (Option Value)),
 (some none:Option (Option Value)),
 (some (some (.builtin "object.__class__")):Option (Option Value)),
 (some (some (.builtin "getset_descriptor.__get__")):Option (Option Value)),
 (some true:Option Bool),
 (some true:Option Bool),
 (some true:Option Bool),
 (true:Bool),
 (true:Bool),
 (some (.type "type"):Option Value),
 (some true:Option Bool),
 (some true:Option Bool),
 (some true:Option Bool),
 (some true:Option Bool),
 (some false:Option Bool))
abbrev HK:PySem.W.Hook:=Hd.hk ads FF FE
abbrev XT (s:Shared):Bool:=PySem.W.xlAt VW [] s && PySem.W.recOk [] s
theorem B6 (w:World) (os:OsState):(PySem.W.topRun treeTable PW w 11 (some (.ref 6)) 7064 ⟨PySem.W.boot_heap w.params,Array.mk [],PySem.W.boot_drawn,PySem.W.boot_toks,os⟩ (PySem.W.topStub PW)).map (fun s=>((PySem.W.staticsOk (importedModules PW.main.body) (PySem.W.boot_heap w.params) s.heap && PySem.W.namesBound PW s.heap && PySem.W.gensDone s && PySem.W.laidKept (PySem.W.boot_heap w.params) s.heap),PySem.W.Hook.obs HK s))=some (true,PySem.W.Hook.val HK w):=by
 rw [PySem.W.Fast.te14082659384304107361]
 kernel_rfl
theorem B5 (w:World) (os:OsState):(PySem.W.topRun treeTable PW w 11 (some (.ref 6)) 7064 ⟨PySem.W.boot_heap w.params,Array.mk [],PySem.W.boot_drawn,PySem.W.boot_toks,os⟩ (PySem.W.topStub PW)).map (fun s=>PySem.W.openSeen VW LO (importedModules PW.main.body) XT true s)=some (PySem.W.openGood VW LO):=by
 rw [PySem.W.Fast.te14082659384304107361,PySem.W.Fast.te4187177175401517315]
 kernel_rfl
theorem left:PySem.W.LeftO PW VW LO XT (PySem.W.Hook.obs HK) (PySem.W.Hook.val HK) 7064 :=
 Hd.left_one (m₀:=11) (ann:=some (.ref 6)) (by kernel_rfl) (by kernel_rfl) (fun s=>by kernel_rfl) (fun w=>by kernel_rfl) B6 B5
theorem said:PySem.Challenge.rw_watchyard_k24_a_point.wellSaid=true:=by
 rw [PySem.W.Fast.te9446332074065402090]
 kernel_rfl
end Mine
namespace L2
open PySem PySem.Spec PyProof.Rows
abbrev Key:=Sum Int Str
def oz:Key->Value->Bool
 | .inl k,v=>Value.isInt k v
 | .inr x,v=>Value.isStrOf x v
def E4 (w:World):Key->Int
 | .inl k=>hashInt k
 | .inr x=>hashStr w x
theorem cv:∀ {k:Key} {v:Value},oz k v=true->(∃ i t,k=Sum.inl i/\v=Value.int i t) \/ (∃ x t,k=Sum.inr x/\v=Value.str x t)
 | .inl i,v,h=>by
  obtain ⟨t,e⟩:=Value.isInt_shape (k:=i) (v:=v) h
  exact .inl ⟨i,t,rfl,e⟩
 | .inr x,v,h=>by
  obtain ⟨t,e⟩:=Value.isStrOf_shape (x:=x) (v:=v) h
  exact .inr ⟨x,t,rfl,e⟩
theorem xu (i:Int) (t:Tok):oz (.inl i) (.int i t)=true:=by simp [oz,Value.isInt]
theorem xr (x:Str) (t:Tok):oz (.inr x) (.str x t)=true:=by simp [oz,Value.isStrOf]
theorem CS (a b:Int):decide ((Sum.inl a:Key)=Sum.inl b)=(a == b):=by
 by_cases e:a=b
 . subst e;simp
 . have h:¬ (Sum.inl a:Key)=Sum.inl b:=fun q=>e (Sum.inl.inj q)
   rw [decide_eq_false h]
   exact (beq_eq_false_iff_ne.mpr e).symm
theorem CO (a b:Str):decide ((Sum.inr a:Key)=Sum.inr b)=decide (a=b):=by
 by_cases e:a=b
 . subst e;simp
 . have h:¬ (Sum.inr a:Key)=Sum.inr b:=fun q=>e (Sum.inr.inj q)
   rw [decide_eq_false h,decide_eq_false e]
theorem CQ (a:Int) (b:Str):decide ((Sum.inl a:Key)=Sum.inr b)=false:=decide_eq_false (fun q=>nomatch q)
theorem CP (a:Str) (b:Int):decide ((Sum.inr a:Key)=Sum.inl b)=false:=decide_eq_false (fun q=>nomatch q)
def ce (prog:Program) (w:World):PySem.KeyKind prog w Key where
 is:=oz
 hash:=E4 w
 inj:=fun v a b ha hb=>by
  rcases cv ha with ⟨i,t,rfl,rfl⟩ | ⟨x,t,rfl,rfl⟩
  . rcases cv hb with ⟨j,u,rfl,e⟩ | ⟨y,u,rfl,e⟩
    . injection e with e1 _;rw [e1]
    . exact nomatch e
  . rcases cv hb with ⟨j,u,rfl,e⟩ | ⟨y,u,rfl,e⟩
    . exact nomatch e
    . injection e with e1 _;rw [e1]
 byValue:=fun k v h=>by
  rcases cv h with ⟨i,t,rfl,rfl⟩ | ⟨x,t,rfl,rfl⟩ <;> rfl
 pyHash:=fun hv h=>by
  rcases cv hv with ⟨i,t,rfl,rfl⟩ | ⟨x,t,rfl,rfl⟩
  . exact wpAny_pyHash_int h
  . exact wpAny_pyHash_str h
 eqBool:=fun hu hv h=>by
  rcases cv hu with ⟨i,t,rfl,rfl⟩ | ⟨x,t,rfl,rfl⟩
  . rcases cv hv with ⟨j,u,rfl,rfl⟩ | ⟨y,u,rfl,rfl⟩
    . rw [CS] at h;exact wpAny_eqBool_int h
    . rw [CQ] at h;exact SeqAt.EqAt.int_str i t y u _ _ _ _ h
  . rcases cv hv with ⟨j,u,rfl,rfl⟩ | ⟨y,u,rfl,rfl⟩
    . rw [CP] at h;exact SeqAt.EqAt.str_int x t j u _ _ _ _ h
    . rw [CO] at h;exact wpAny_eqBool_str h
 «strs»:=fun k x t v h=>by
  rcases cv h with ⟨i,u,rfl,e⟩ | ⟨y,u,rfl,e⟩
  . exact nomatch e
  . injection e with e1 _
    subst e1
    cases v <;> rfl
theorem tJ (prog:Program) (w:World) (i:Int) (t:Tok):(ce prog w).is (.inl i) (.int i t)=true:=xu i t
theorem tI (prog:Program) (w:World) (x:Str) (t:Tok):(ce prog w).is (.inr x) (.str x t)=true:=xr x t
end L2
namespace L2
open PySem PySem.Spec PyProof.Rows
inductive V where
 | non | bl (b:Bool) | int (i:Int) | str (x:Str) | byt (b:Array UInt8) | flt (b:UInt64) | ref (a:Addr) | ty (n:String)
 deriving DecidableEq
def RelV:V->Value->Prop
 | .non,u=>u=Value.none
 | .bl b,u=>u=Value.bool b
 | .int i,u=>∃ t,u=Value.int i t
 | .str x,u=>∃ t,u=Value.str x t
 | .byt b,u=>∃ t,u=Value.bytes b t
 | .flt b,u=>∃ t,u=Value.float b t
 | .ref a,u=>u=Value.ref a
 | .ty n,u=>u=Value.type n
abbrev Vals:List V->List Value->Prop:=Paired RelV
theorem Vals.length {xs:List V} {us:List Value} (r:Vals xs us):xs.length=us.length:=Paired.length r
theorem Vals.get:∀ {xs:List V} {us:List Value} {i:Nat} {x:V},Vals xs us->xs[i]? = some x->∃ u,us[i]? = some u/\RelV x u
 | _,_,_,_,.nil,e=>by simp at e
 | _,_,0,_,.cons r _,e=>by simp at e;subst e;exact ⟨_,rfl,r⟩
 | _,_,i+1,x,.cons _ t,e=>by
  obtain ⟨u,h1,h2⟩:=Vals.get (i:=i) (x:=x) t (by simpa using e)
  exact ⟨u,by simpa using h1,h2⟩
theorem Vals.set {x:V} {u:Value} (r:RelV x u):∀ {xs:List V} {us:List Value} (i:Nat),Vals xs us->Vals (xs.set i x) (us.set i u)
 | _,_,_,.nil=>.nil
 | _,_,0,.cons _ t=>.cons r t
 | _,_,i+1,.cons q t=>.cons q (Vals.set r i t)
theorem Vals.append:∀ {xs ys:List V} {us ws:List Value},Vals xs us->Vals ys ws->Vals (xs++ys) (us++ws)
 | _,_,_,_,.nil,s=>s
 | _,_,_,_,.cons r t,s=>.cons r (Vals.append t s)
def RelO:Option V->Option Value->Prop
 | some v,some u=>RelV v u
 | none,none=>True
 | _,_=>False
def KV {κ:Type}:List (κ×V)->List (κ×Value)->Prop:=Paired fun (p:κ×V) (q:κ×Value)=>p.1=q.1/\RelV p.2 q.2
def kV:Key->V
 | .inl i=>.int i
 | .inr x=>.str x
inductive HO where
 | lst (xs:List V)
 | tup (xs:List V)
 | dK (kvs:List (Key×V)) | dT (kvs:List (List Key×V))
 | set (S:Int->Bool) (n:Nat)
 | ins (C dx:Addr) (fs:List (Str×V))
 | own (x:Addr)
 | xd (fs:List (Str×V))
 | met (f x:Addr)
 | rng (lo hi:Int)
 | frz (o:Obj) (u:HO)
 | tbl (ps:Array Value)
 | ext (φ:Heap->Prop)
abbrev Hp:=Addr->Option HO
def upd (H:Hp) (a:Addr) (o:HO):Hp:=fun b=>if b=a then some o else H b
theorem bc {H:Hp} {a:Addr} {o:HO}:upd H a o a=some o:=by unfold upd;rw [if_pos rfl]
theorem aD {H:Hp} {a b:Addr} {o:HO} (h:b ≠ a):upd H a o b=H b:=by unfold upd;rw [if_neg h]
theorem Ea {H:Hp} {a b:Addr} {o u:HO} (h:H a=some o) (h':H b=some u) (d:o ≠ u):a ≠ b:=by
 intro e;subst e;rw [h] at h';exact d (Option.some.inj h')
theorem dq {H:Hp} {a b:Addr} {o:HO} (h:H a=some o) (h':H b=none):a ≠ b:=by
 intro e;subst e;rw [h] at h';cases h'
section
variable (P:Program) (w:World)
def ObjOk (H:Hp) (h:Heap) (a:Addr):HO->Prop
 | .lst xs=>xs.length<=sizeLine/\∃ (its:List Value) (n:Nat),Vals xs its/\h.get? a=some { cls:=.type "list",data:=.seq its.toArray n }
 | .tup xs=>xs.length<=sizeLine/\∃ its:List Value,Vals xs its/\IsTup h a its.toArray
 | .dK kvs=>kvs.length<=sizeLine/\(a == sysModules)=false/\∃ vs,KV kvs vs/\h.DictOf (ce P w) a vs
 | .dT kvs=>kvs.length<=sizeLine/\(a == sysModules)=false/\∃ xs:List (List Key×Addr×Value),
  Paired (fun (p:List Key×V) (q:List Key×Addr×Value)=>p.1=q.1/\H q.2.1=some (.tup (p.1.map kV))/\RelV p.2 q.2.2) kvs xs /\
  ∃ o es ep,h.get? a=some o/\o.ExactDict/\o.data=.dict es ep/\es.toList=xs.map (entryOfKey (tupleKind (ce P w)))/\(xs.map (·.1)).Nodup
 | .set S n=>h.SetOf (intKind P w) a S n
 | .ins C dx fs=>H dx=some (.own a)/\fs.length<=1000/\dx ≠ a/\h.get? a=some (PySem.W.instObj C dx) /\
  ∃ mA,h.Ns1 dx mA/\(∀ f,RelO (fs.lookup f) (mA f))/\PySem.Within mA (fs.map (·.1))
 | .own _=>∃ o,h.get? a=some o
 | .xd fs=>∃ mA,h.Ns1 a mA/\∀ f,RelO (fs.lookup f) (mA f)
 | .rng lo hi=>∃ t u v,h.get? a=some { cls:=.type "range",data:=.fields #[.int lo t,.int hi u,.int 1 v] }
 | .frz o u=>h.get? a=some o/\ObjOk H h a u
 | .tbl ps=>h.get? a=some { cls:=.none,data:=.fields ps }
 | .met f x=>h.get? a=some (PySem.W.methodObj (.ref f) (.ref x))
 | .ext φ=>φ h/\(∃ o,h.get? a=some o)/\∀ h1 h2:Heap,φ h1->(∀ o,h1.get? a=some o->h2.get? a=some o)->φ h2
def HOk (H:Hp) (h:Heap):Prop:=∀ a o,H a=some o->ObjOk P w H h a o
end
section
variable {P:Program} {w:World} {H H':Hp} {h h':Heap} {a:Addr} {o:HO}
theorem ObjOk.lt (x:ObjOk P w H h a o):a < h.objs.size:=by
 cases o with
 | lst xs=>obtain ⟨_,_,_,_,e⟩:=x;exact Heap.lt_size e
 | tup xs=>obtain ⟨_,_,_,p⟩:=x;exact p.lt
 | dK kvs=>obtain ⟨_,_,_,_,o,_,_,e,_⟩:=x;exact Heap.lt_size e
 | dT kvs=>obtain ⟨_,_,_,_,o,_,_,e,_⟩:=x;exact Heap.lt_size e
 | set S n=>obtain ⟨o,_,_,_,e,_⟩:=x;exact Heap.lt_size e
 | ins C dx fs=>obtain ⟨_,_,_,e,_⟩:=x;exact Heap.lt_size e
 | own y=>obtain ⟨_,e⟩:=x;exact Heap.lt_size e
 | xd fs=>obtain ⟨_,⟨_,_,_,e,_⟩,_⟩:=x;exact Heap.lt_size e
 | rng lo hi=>obtain ⟨_,_,_,e⟩:=x;exact Heap.lt_size e
 | frz ob u=>obtain ⟨e,_⟩:=x;exact Heap.lt_size e
 | tbl ps=>exact Heap.lt_size (show h.get? a=some _ from x)
 | met f y=>exact Heap.lt_size (show h.get? a=some _ from x)
 | ext φ=>obtain ⟨_,⟨_,e⟩,_⟩:=x;exact Heap.lt_size e
theorem Paired.mapP {α β:Type} {F G:α->β->Prop}:∀ {l₁:List α} {l₂:List β},Paired F l₁ l₂->(∀ a b,F a b->G a b)->Paired G l₁ l₂
 | _,_,.nil,_=>.nil
 | _,_,.cons r t,f=>.cons (f _ _ r) (Paired.mapP t f)
theorem ObjOk.stay (x:ObjOk P w H h a o) (k:∀ b u,(b=a \/ H b=some (.own a))->h.get? b=some u->h'.get? b=some u)
 (ho:∀ b,H b=some (.own a)->H' b=some (.own a)) (ht:∀ b xs,H b=some (.tup xs)->H' b=some (.tup xs)):ObjOk P w H' h' a o:=by
 induction o with
 | lst xs=>obtain ⟨z,its,n,r,e⟩:=x;exact ⟨z,its,n,r,k _ _ (.inl rfl) e⟩
 | tup xs=>obtain ⟨z,its,r,ob,e,c⟩:=x;exact ⟨z,its,r,ob,k _ _ (.inl rfl) e,c⟩
 | dK kvs=>obtain ⟨z,y,vs,r,ob,es,ep,e,c⟩:=x;exact ⟨z,y,vs,r,ob,es,ep,k _ _ (.inl rfl) e,c⟩
 | dT kvs =>
  obtain ⟨z,y,xs,r,ob,es,ep,e,c⟩:=x
  exact ⟨z,y,xs,Paired.mapP r fun p q z=>⟨z.1,ht _ _ z.2.1,z.2.2⟩,ob,es,ep,k _ _ (.inl rfl) e,c⟩
 | set S n=>obtain ⟨ob,es,ep,t,e,c⟩:=x;exact ⟨ob,es,ep,t,k _ _ (.inl rfl) e,c⟩
 | ins C dx fs =>
  obtain ⟨d,z,ne,e,mA,⟨od,es,ep,e2,c⟩,r⟩:=x
  exact ⟨ho _ d,z,ne,k _ _ (.inl rfl) e,mA,⟨od,es,ep,k _ _ (.inr d) e2,c⟩,r⟩
 | own y=>obtain ⟨ob,e⟩:=x;exact ⟨ob,k _ _ (.inl rfl) e⟩
 | xd fs=>obtain ⟨mA,⟨od,es,ep,e,c⟩,r⟩:=x;exact ⟨mA,⟨od,es,ep,k _ _ (.inl rfl) e,c⟩,r⟩
 | rng lo hi=>obtain ⟨t,u,v,e⟩:=x;exact ⟨t,u,v,k _ _ (.inl rfl) e⟩
 | frz ob u ih=>obtain ⟨e,q⟩:=x;exact ⟨k _ _ (.inl rfl) e,ih q⟩
 | tbl ps =>
  have e:h.get? a=some { cls:=.none,data:=.fields ps }:=x
  show h'.get? a=some { cls:=.none,data:=.fields ps }
  exact k a _ (.inl rfl) e
 | met f y =>
  have e:h.get? a=some (PySem.W.methodObj (.ref f) (.ref y)):=x
  show h'.get? a=some (PySem.W.methodObj (.ref f) (.ref y))
  exact k a _ (.inl rfl) e
 | ext φ=>obtain ⟨p,⟨o,e⟩,st⟩:=x;exact ⟨st _ _ p fun o q=>k _ _ (.inl rfl) q,⟨o,k _ _ (.inl rfl) e⟩,st⟩
theorem HOk.lt (x:HOk P w H h) (e:H a=some o):a < h.objs.size:=(x a o e).lt
theorem HOk.fresh (x:HOk P w H h) (e:h.objs.size<=a):H a=none:=by
 cases q:H a with
 | none=>rfl
 | some u=>exact absurd (Nat.lt_of_lt_of_le (x.lt q) e) (Nat.lt_irrefl _)
theorem HOk.kept (x:HOk P w H h) (k:∀ b u,h.get? b=some u->h'.get? b=some u):HOk P w H h':=fun a o e =>
 (x a o e).stay (fun b u _ q=>k b u q) (fun _ q=>q) fun _ _ q=>q
theorem HOk.laid (x:HOk P w H h) (k:∀ b u,h.get? b=some u->h'.get? b=some u) (hp:h.objs.size<=a) (new:ObjOk P w (upd H a o) h' a o):HOk P w (upd H a o) h':=fun b u e=>by
 have hn:=x.fresh hp
 by_cases hb:b=a
 . subst hb;rw [bc] at e;cases e;exact new
 . rw [aD hb] at e
   exact (x b u e).stay (fun c v _ q=>k c v q) (fun c q=>by rw [aD (dq q hn)];exact q) fun c xs q=>by rw [aD (dq q hn)];exact q
end
def Rd (H:Hp) (a:Addr) (u:HO):Prop:=H a=some u \/ ∃ o,H a=some (.frz o u)
theorem Rd.ok {P:Program} {w:World} {H:Hp} {h:Heap} {a:Addr} {u:HO} (r:Rd H a u) (x:HOk P w H h):ObjOk P w H h a u:=by
 rcases r with r | ⟨o,r⟩
 . exact x a u r
 . obtain ⟨_,q⟩:=x a _ r
   exact q
def Mut:Option HO->Prop
 | some (.lst _)=>True
 | some (.dK _)=>True
 | some (.dT _)=>True
 | some (.set _ _)=>True
 | some (.ins _ _ _)=>True
 | some (.ext _)=>True
 | _=>False
section
variable {P:Program} {w:World} {H:Hp} {h h':Heap} {x e:Addr} {o':HO}
theorem HOk.write (ok:HOk P w H h) (mu:Mut (H x)) (he:e=x \/ H e=some (.own x)) (k:∀ b u,b ≠ e->h.get? b=some u->h'.get? b=some u) (heo:∃ u,h'.get? e=some u)
 (new:ObjOk P w (upd H x o') h' x o'):HOk P w (upd H x o') h':=fun b u q=>by
 have nown:∀ c y,H c=some (.own y)->c ≠ x:=fun c y r z=>by subst z;rw [r] at mu;exact mu
 have ntup:∀ c xs,H c=some (.tup xs)->c ≠ x:=fun c xs r z=>by subst z;rw [r] at mu;exact mu
 by_cases hb:b=x
 . subst hb;rw [bc] at q;cases q;exact new
 . rw [aD hb] at q
   by_cases hbe:b=e
   . have q':H b=some (.own x):=by
      rcases he with z | z
      . exact absurd (hbe.trans z) hb
      . rw [hbe];exact z
     rw [q] at q';cases q'
     obtain ⟨v,hv⟩:=heo
     exact ⟨v,by rw [hbe];exact hv⟩
   . refine (ok b u q).stay (fun c v hc r=>k c v ?_ r) (fun c r=>by rw [aD (nown c b r)];exact r) fun c xs r=>by rw [aD (ntup c xs r)];exact r
     rcases hc with rfl | hc
     . exact hbe
     . rintro rfl
       rcases he with z | z
       . exact nown c b hc z
       . rw [hc] at z;cases z;exact hb rfl
end
structure Un (fs ex:List Addr) (H H':Hp) (h h':Heap):Prop where
 keep:∀ b o,h.get? b=some o->H b=none->b ∉ fs->b ∉ ex->h'.get? b=some o
 slot:∀ b o,h.get? b=some o->H b=none->b∈fs->b ∉ ex->∃ sl,h'.get? b=some { o with slots:=sl }
 free:∀ b o,h.get? b=some o->H b=none->b ∉ ex->H' b=none
 there:∀ b o,h.get? b=some o->b ∉ ex->∃ o',h'.get? b=some o'
 tups:∀ b xs,H b=some (.tup xs)->H' b=some (.tup xs)
 frzs:∀ b o u,H b=some (.frz o u)->H' b=some (.frz o u)
 tbls:∀ b ps,H b=some (.tbl ps)->∃ more,H' b=some (.tbl (ps++more))
section
variable {fs fs' ex ex':List Addr} {H H1 H2:Hp} {h h1 h2 h':Heap} {a x e:Addr} {o:HO}
theorem Un.any (u:Un fs ex H H1 h h1) {b:Addr} {ob:Obj} (q:h.get? b=some ob) (n:H b=none) (hx:b ∉ ex):∃ sl,h1.get? b=some { ob with slots:=sl }:=by
 by_cases hb:b∈fs
 . exact u.slot b ob q n hb hx
 . exact ⟨ob.slots,u.keep b ob q n hb hx⟩
theorem Un.kept (k:∀ b u,h.get? b=some u->h'.get? b=some u):Un fs ex H H h h' :=
 ⟨fun b ob q _ _ _=>k b ob q,fun b ob q _ _ _=>⟨ob.slots,k b ob q⟩,fun _ _ _ n _=>n,fun b ob q _=>⟨ob,k b ob q⟩,fun _ _ q=>q,fun _ _ _ q=>q,fun _ ps q=>⟨#[],by rw [q];simp⟩⟩
theorem Un.refl:Un fs ex H H h h:=Un.kept fun _ _ q=>q
theorem Un.laid (k:∀ b u,h.get? b=some u->h'.get? b=some u) (hp:h.objs.size<=a) (hn:H a=none):Un fs ex H (upd H a o) h h' where
 keep:=fun b u q _ _ _=>k b u q
 slot:=fun b u q _ _ _=>⟨u.slots,k b u q⟩
 free:=fun b u q n _=>by rw [aD (Nat.ne_of_lt (Nat.lt_of_lt_of_le (Heap.lt_size q) hp))];exact n
 there:=fun b u q _=>⟨u,k b u q⟩
 tups:=fun b xs q=>by rw [aD (dq q hn)];exact q
 frzs:=fun b u xs q=>by rw [aD (dq q hn)];exact q
 tbls:=fun b ps q=>⟨#[],by rw [aD (dq q hn),q];simp⟩
theorem Un.write (mu:Mut (H x)) (he:e=x \/ H e=some (.own x)) (k:∀ b u,b ≠ e->h.get? b=some u->h'.get? b=some u) (heo:∃ u,h'.get? e=some u):Un fs ex H (upd H x o) h h':=by
 have hx:∀ b,H b=none->b ≠ x:=fun b n z=>by subst z;rw [n] at mu;exact mu
 have hb:∀ b,H b=none->b ≠ e:=fun b n z=>by
  subst z
  rcases he with r | r
  . exact hx b n r
  . rw [n] at r;cases r
 have hm:∀ b u,H b=some u->¬ Mut (some u)->b ≠ x:=fun b u q nm z=>by subst z;rw [q] at mu;exact nm mu
 refine ⟨fun b u q n _ _=>k b u (hb b n) q,fun b u q n _ _=>⟨u.slots,k b u (hb b n) q⟩,fun b u q n _=>by rw [aD (hx b n)];exact n,fun b u q _=>?_,
  fun b xs q=>by rw [aD (hm b _ q fun z=>z)];exact q,fun b u xs q=>by rw [aD (hm b _ q fun z=>z)];exact q,fun b ps q=>⟨#[],by rw [aD (hm b _ q fun z=>z),q];simp⟩⟩
 by_cases hbe:b=e
 . subst hbe;exact heo
 . exact ⟨u,k b u hbe q⟩
end
def trk (h:Heap) (H:Hp):List Addr:=(List.range h.objs.size).filter fun a=>(H a).isSome
def rM (h:Heap) (H:Hp):Heap:=PySem.W.hideAll h (trk h H)
theorem xx (h:Heap) (H:Hp):(rM h H).objs.size=h.objs.size:=PySem.W.hideAll_size _ _
theorem zr {h:Heap} {H:Hp} {b:Addr} {o:Obj} (e:h.get? b=some o) (n:H b=none):(rM h H).get? b=some o :=
 PySem.W.hideAll_get _ e fun hm=>by
  have q:(H b).isSome=true:=(List.mem_filter.mp hm).2
  rw [n] at q;simp at q
theorem AQ {h:Heap} {H:Hp} {b:Addr} {o:Obj} (e:(rM h H).get? b=some o):h.get? b=some o/\H b=none:=by
 have e':h.get? b=some o:=PySem.W.of_hideAll (trk h H) e
 refine ⟨e',?_⟩
 cases q:H b with
 | none=>rfl
 | some x =>
  have hm:b∈trk h H:=List.mem_filter.mpr ⟨Zo.mpr (Heap.lt_size e'),by simp [q]⟩
  have z:(rM h H).get? b=none:=PySem.W.hideAll_none (trk h H) hm
  rw [z] at e;cases e
def Bu (g h:Heap) (L:Addr):List (Addr×Obj):=(List.range h.objs.size).filterMap fun a=>if a=L \/ (g.get? a).isSome=true then none else (h.get? a).map fun o=>(a,o)
def rest (g h:Heap) (L d:Addr):List (Addr×Obj):=(Bu g h L).filter fun p=>decide (p.1 ≠ d)
end L2
namespace L2
open PySem PySem.Spec PyProof.Rows
structure Mod (K:PySem.W.Frag) (mg:Str->Option Value) (base:Heap):Prop where
 kin:K.In base
 glob:base.Ns mainGlobals mg
 blt:∃ mb,base.Ns builtinsNs mb/\∀ x:Str,x ≠ "__name__"->mb x=bootBuiltins x
 nolimit:base.NoLimit
structure Cx where
 prog:Program
 w:World
 K:PySem.W.Frag
 mg:Str->Option Value
 base:Heap
 A:Around
 N:List Str
 s₀:Shared
 H₀:Hp
 env:Env
 outer:List Env
 stack:List Env
 ex:List Addr
 fn:Str->Bool
 calm:Bool
 pn:List (Addr×Obj)
 xe:Value->Shared->Prop
def frs (l:List Env):List Addr:=l.filterMap (·.frame)
abbrev Cx.fs (X:Cx):List Addr:=frs X.outer
def Vis (sc:Scope) (x:Str):Prop:=sc.names.lookup x=some .local \/ sc.names.lookup x=some .cell \/ sc.names.lookup x=some .free
def Loc (sc:Scope) (x:Str):Prop:=sc.names.lookup x=some .local \/ sc.names.lookup x=some .cell
def EK (env:Env) (h:Heap) (m:Str->Option Value) (x:Str) (u:Value):Prop :=
 (env.kindOf x=some .local/\m x=some u) \/ ((env.kindOf x=some .cell \/ env.kindOf x=some .free)/\∃ c,env.cells.lookup x=some c/\h.IsCell c (some u))
structure Cx.Ok (X:Cx):Prop where
 mod:Mod X.K X.mg X.base
 kind:X.env.scope.kind=.function
 glob:X.env.globals=mainGlobals
 blt:X.env.builtins=builtinsNs
 above:X.s₀.heap.objs.size<=X.env.locals
 inj:∀ x y c,X.env.cells.lookup x=some c->X.env.cells.lookup y=some c->x=y
 has:∀ x,(X.env.kindOf x=some .cell \/ X.env.kindOf x=some .free)->∃ c,X.env.cells.lookup x=some c
 cab:∀ x c,X.fn x=true->X.env.cells.lookup x=some c->X.s₀.heap.objs.size<=c
 hd:X.calm=true->X.A.handled=none
 frames:X.A.frames=some X.stack
 stk:X.stack=X.outer \/ (X.stack=X.env :: X.outer/\X.env.frame=some X.env.locals)
 exf:∀ b∈X.ex,b ≠ X.env.locals/\∀ x c,X.env.cells.lookup x=some c->c ≠ b
 bs:∀ b o,X.base.get? b=some o->X.s₀.heap.get? b=some o/\X.H₀ b=none
 bsz:X.base.objs.size<=X.s₀.heap.objs.size
 noex:∀ b o,X.base.get? b=some o->b ∉ X.ex
 exfs:∀ b∈X.ex,b ∉ X.fs
 funs:X.s₀.heap.FunFrames X.base X.outer
 frf:∀ b∈X.fs,X.H₀ b=none
structure Inv (X:Cx) (pins:List (Addr×Obj)) (σ:List (Option V)) (H:Hp) (s:Shared):Prop where
 ok:X.Ok
 os:s.os=X.s₀.os
 bare:AllBare s.gens
 base:Un X.fs X.ex X.H₀ H X.s₀.heap s.heap
 loc:∃ m,s.heap.Ns X.env.locals m/\∀ (i:Nat) (x:Str) (v:V),X.N[i]? = some x->σ[i]? = some (some v)->Vis X.env.scope x->∃ u,RelV v u/\EK X.env s.heap m x u
 cell:∀ x c,X.env.cells.lookup x=some c->∃ v,s.heap.IsCell c v
 free:H X.env.locals=none
 freeC:∀ x c,X.env.cells.lookup x=some c->H c=none
 pin:∀ p∈X.pn++pins,s.heap.get? p.1=some p.2/\H p.1=none/\p.1 ≠ X.env.locals/\p.1 ∉ X.fs/\∀ v,p.2.data ≠ .cell v
 hok:HOk X.prog X.w H s.heap
 len:σ.length=X.N.length
section
variable {X:Cx} {pins:List (Addr×Obj)} {σ:List (Option V)} {H H':Hp} {s:Shared} {h':Heap}
theorem Cx.Ok.nofr (ok:X.Ok) {b:Addr} {o:Obj} (e:X.base.get? b=some o):b ∉ X.fs:=fun hb=>by
 have:=(ok.funs.mem hb).1
 rw [e] at this;cases this
theorem Inv.bs (I:Inv X pins σ H s):∀ b o,X.base.get? b=some o->s.heap.get? b=some o/\H b=none:=fun b o e =>
 ⟨I.base.keep b o (I.ok.bs b o e).1 (I.ok.bs b o e).2 (I.ok.nofr e) (I.ok.noex b o e),I.base.free b o (I.ok.bs b o e).1 (I.ok.bs b o e).2 (I.ok.noex b o e)⟩
theorem Inv.bk (I:Inv X pins σ H s):∀ b o,X.base.get? b=some o->s.heap.get? b=some o:=fun b o e=>(I.bs b o e).1
theorem Inv.mod (I:Inv X pins σ H s):Mod X.K X.mg X.base:=I.ok.mod
theorem Inv.kIn (I:Inv X pins σ H s):X.K.In s.heap:=I.ok.mod.kin.keeps I.bk
theorem Inv.lt (I:Inv X pins σ H s):X.env.locals < s.heap.objs.size:=let ⟨_,hn,_⟩:=I.loc;hn.lt
theorem Inv.sz (I:Inv X pins σ H s):X.s₀.heap.objs.size<=s.heap.objs.size:=Nat.le_trans I.ok.above (Nat.le_of_lt I.lt)
theorem Inv.nofs (I:Inv X pins σ H s) {a:Addr} (h:s.heap.objs.size<=a):a ∉ X.fs:=fun hb=>by
 obtain ⟨_,o,ho,_⟩:=I.ok.funs.mem hb
 exact absurd (Nat.lt_of_lt_of_le (Heap.lt_size ho) (Nat.le_trans I.sz h)) (Nat.lt_irrefl _)
theorem Inv.cne (I:Inv X pins σ H s):∀ x c,X.env.cells.lookup x=some c->c ≠ X.env.locals:=fun x c e z=>by
 obtain ⟨v,o,ho,hd⟩:=I.cell x c e
 obtain ⟨m,⟨o',es,ep,ho',hd',_⟩,_⟩:=I.loc
 rw [z,ho'] at ho;cases ho;rw [hd'] at hd;cases hd
theorem Inv.funs (I:Inv X pins σ H s):s.heap.FunFrames X.base X.outer:=by
 have all:∀ (l:List Env),(∀ b∈frs l,b∈X.fs)->X.s₀.heap.FunFrames X.base l->s.heap.FunFrames X.base l:=by
  intro l
  induction l with
  | nil=>intro _ _;trivial
  | cons env r ih =>
   intro hs hl
   obtain ⟨hk,⟨L,o,hf,hn,ho,hd⟩,hr⟩:=hl
   have hL:L∈X.fs:=hs L (by unfold frs;rw [List.filterMap_cons,hf];exact Zk)
   obtain ⟨sl,e⟩:=I.base.slot L o ho (I.ok.frf L hL) hL fun z=>I.ok.exfs L z hL
   exact ⟨hk,⟨L,_,hf,hn,e,hd⟩,ih (fun b hb=>hs b (by unfold frs;rw [List.filterMap_cons,hf];exact Zl _ hb)) hr⟩
 exact all X.outer (fun _ hb=>hb) I.ok.funs
theorem Inv.stack (I:Inv X pins σ H s):s.heap.FunFrames X.base X.stack:=by
 rcases I.ok.stk with e | ⟨e,hf⟩
 . rw [e];exact I.funs
 . rw [e]
   obtain ⟨m,hn,_⟩:=I.loc
   refine .cons (by rw [I.ok.kind];decide) hf hn ?_ I.funs
   exact Heap.get?_none_of_le (Nat.le_trans I.ok.bsz I.ok.above)
theorem Inv.stkSub (I:Inv X pins σ H s):∀ b∈frs X.stack,b∈X.env.locals :: X.fs:=fun b hb=>by
 rcases I.ok.stk with e | ⟨e,hf⟩
 . rw [e] at hb;exact Zl _ hb
 . rw [e] at hb
   unfold frs at hb
   rw [List.filterMap_cons,hf] at hb
   exact hb
theorem Inv.stkFree (I:Inv X pins σ H s):∀ b∈frs X.stack,H b=none:=fun b hb=>by
 rcases Zq.mp (I.stkSub b hb) with e | hb
 . rw [e];exact I.free
 . obtain ⟨_,o,ho,_⟩:=I.ok.funs.mem hb
   exact I.base.free b o ho (I.ok.frf b hb) fun z=>I.ok.exfs b z hb
theorem Inv.step {g':Array GenState} {t':Nat} {d':Drawn} {ch:List Addr} (I:Inv X pins σ H s)
 (hch:∀ b∈ch,(b∈X.ex \/ X.s₀.heap.objs.size<=b)/\b ≠ X.env.locals/\(∀ x c,X.env.cells.lookup x=some c->c ≠ b)/\∀ p∈X.pn++pins,p.1 ≠ b)
 (keep:∀ b o,b ≠ X.env.locals->b ∉ X.fs->b ∉ ch->s.heap.get? b=some o->H b=none->h'.get? b=some o)
 (slot:∀ b o,b ≠ X.env.locals->b∈X.fs->b ∉ ch->s.heap.get? b=some o->H b=none->∃ sl,h'.get? b=some { o with slots:=sl }) (free:∀ b o,b ∉ ch->s.heap.get? b=some o->H b=none->H' b=none)
 (there:∀ b o,b ∉ ch->s.heap.get? b=some o->∃ o',h'.get? b=some o')
 (tups:∀ b xs,H b=some (.tup xs)->H' b=some (.tup xs)) (frzs:∀ b o u,H b=some (.frz o u)->H' b=some (.frz o u)) (tbls:∀ b ps,H b=some (.tbl ps)->∃ more,H' b=some (.tbl (ps++more)))
 (ns:∀ m,s.heap.Ns X.env.locals m->h'.Ns X.env.locals m) (hok:HOk X.prog X.w H' h') (hg:AllBare g') :
 Inv X pins σ H' { s with heap:=h',gens:=g',drawn:=d',toks:=t' }:=by
 have neL:∀ b o,X.s₀.heap.get? b=some o->b ≠ X.env.locals:=fun b o e=>Nat.ne_of_lt (Nat.lt_of_lt_of_le (Heap.lt_size e) I.ok.above)
 have neC:∀ b o,X.s₀.heap.get? b=some o->b ∉ X.ex->b ∉ ch:=fun b o e hx hb=>by
  rcases (hch b hb).1 with z | z
  . exact hx z
  . exact absurd (Nat.lt_of_lt_of_le (Heap.lt_size e) z) (Nat.lt_irrefl _)
 have cellK:∀ x c,X.env.cells.lookup x=some c->∀ v,s.heap.IsCell c v->h'.IsCell c v:=fun x c e v ⟨o,ho,hd⟩=>by
  have nch:c ∉ ch:=fun z=>(hch c z).2.2.1 x c e rfl
  by_cases hc:c∈X.fs
  . obtain ⟨sl,q⟩:=slot c o (I.cne x c e) hc nch ho (I.freeC x c e)
    exact ⟨_,q,hd⟩
  . exact ⟨o,keep c o (I.cne x c e) hc nch ho (I.freeC x c e),hd⟩
 refine ⟨I.ok,I.os,hg,⟨fun b o e n hb hx=>?_,fun b o e n hb hx=>?_,fun b o e n hx=>?_,fun b o e hx=>?_,fun b xs e=>tups b xs (I.base.tups b xs e),fun b o xs e=>frzs b o xs (I.base.frzs b o xs e),fun b ps e=>?_⟩,?_,fun x c e=>?_,?_,fun x c e=>?_,fun p hp=>?_,hok,I.len⟩
 . exact keep b o (neL b o e) hb (neC b o e hx) (I.base.keep b o e n hb hx) (I.base.free b o e n hx)
 . obtain ⟨sl,e1⟩:=I.base.slot b o e n hb hx
   obtain ⟨sl',e2⟩:=slot b _ (neL b o e) hb (neC b o e hx) e1 (I.base.free b o e n hx)
   exact ⟨sl',e2⟩
 . obtain ⟨o',e1⟩:=I.base.there b o e hx
   exact free b o' (neC b o e hx) e1 (I.base.free b o e n hx)
 . obtain ⟨o',e1⟩:=I.base.there b o e hx
   exact there b o' (neC b o e hx) e1
 . obtain ⟨m1,e1⟩:=I.base.tbls b ps e
   obtain ⟨m2,e2⟩:=tbls b _ e1
   exact ⟨m1++m2,by rw [e2,Array.append_assoc]⟩
 . obtain ⟨m,hn,hl⟩:=I.loc
   refine ⟨m,ns m hn,fun i x v e1 e2 e3=>?_⟩
   obtain ⟨u,r,l⟩:=hl i x v e1 e2 e3
   refine ⟨u,r,?_⟩
   rcases l with l | ⟨k,c,e,z⟩
   . exact .inl l
   . exact .inr ⟨k,c,e,cellK x c e _ z⟩
 . obtain ⟨v,z⟩:=I.cell x c e
   exact ⟨v,cellK x c e v z⟩
 . obtain ⟨m,⟨o,_,_,ho,_⟩,_⟩:=I.loc
   exact free _ o (fun z=>(hch _ z).2.1 rfl) ho I.free
 . obtain ⟨v,o,ho,hd⟩:=I.cell x c e
   exact free c o (fun z=>(hch c z).2.2.1 x c e rfl) ho (I.freeC x c e)
 . obtain ⟨e,n,ne,nf,d⟩:=I.pin p hp
   have nch:p.1 ∉ ch:=fun z=>(hch p.1 z).2.2.2 p hp rfl
   exact ⟨keep p.1 p.2 ne nf nch e n,free p.1 p.2 nch e n,ne,nf,d⟩
theorem Inv.un {t':Nat} (I:Inv X pins σ H s) (u:Un X.fs [] H H' s.heap h') (hok:HOk X.prog X.w H' h'):Inv X pins σ H' { s with heap:=h',toks:=t' }:=by
 obtain ⟨m,⟨o,es,ep,ho,r⟩,_⟩:=id I.loc
 obtain ⟨sl,hL⟩:=u.any ho I.free (by simp)
 exact I.step (g':=s.gens) (d':=s.drawn) (ch:=[]) (fun _ z=>nomatch z) (fun b o _ hb _ e n=>u.keep b o e n hb (by simp)) (fun b o _ hb _ e n=>u.slot b o e n hb (by simp)) (fun b o _ e n=>u.free b o e n (by simp)) (fun b o _ e=>u.there b o e (by simp)) u.tups u.frzs u.tbls (fun m' hm=>by
  obtain ⟨o',es',ep',ho',r'⟩:=hm
  rw [ho] at ho';cases ho'
  exact ⟨_,es',ep',hL,r'⟩) hok I.bare
theorem Inv.call {g':Array GenState} {t':Nat} {d':Drawn} {ch:List Addr} (I:Inv X pins σ H s) (u:Un (frs X.stack) ch H H' s.heap h') (hok:HOk X.prog X.w H' h') (hg:AllBare g')
 (hch:∀ b∈ch,(b∈X.ex \/ X.s₀.heap.objs.size<=b)/\b ≠ X.env.locals/\(∀ x c,X.env.cells.lookup x=some c->c ≠ b)/\∀ p∈X.pn++pins,p.1 ≠ b) :
 Inv X pins σ H' { s with heap:=h',gens:=g',drawn:=d',toks:=t' }:=by
 obtain ⟨m,⟨o,es,ep,ho,r⟩,_⟩:=id I.loc
 obtain ⟨sl,hL⟩:=u.any ho I.free fun z=>(hch _ z).2.1 rfl
 exact I.step (ch:=ch) hch (fun b o hL hb hc e n=>u.keep b o e n (fun z=>(Zq.mp (I.stkSub b z)).elim hL hb) hc) (fun b o _ _ hc e n=>u.any e n hc) (fun b o hc e n=>u.free b o e n hc) (fun b o hc e=>u.there b o e hc) u.tups u.frzs u.tbls (fun m' hm=>by
  obtain ⟨o',es',ep',ho',r'⟩:=hm
  rw [ho] at ho';cases ho'
  exact ⟨_,es',ep',hL,r'⟩) hok hg
theorem Inv.turned {t':Nat} {it:Addr} (I:Inv X pins σ H s) (k:∀ b o,b ≠ it->s.heap.get? b=some o->h'.get? b=some o) (hn:H it=none) (hL:it ≠ X.env.locals)
 (h1:it∈X.ex \/ X.s₀.heap.objs.size<=it) (h2:∀ x c,X.env.cells.lookup x=some c->c ≠ it) (h3:∀ p∈X.pn++pins,p.1 ≠ it):Inv X pins σ H { s with heap:=h',toks:=t' }:=by
 have nit:∀ b u,H b=some u->b ≠ it:=fun b u e z=>by rw [z,hn] at e;cases e
 refine I.step (g':=s.gens) (d':=s.drawn) (ch:=[it]) (fun b hb=>?_) (fun b o _ _ hc e _=>k b o (fun z=>hc (by simp [z])) e) (fun b o _ _ hc e _=>⟨o.slots,k b o (fun z=>hc (by simp [z])) e⟩) (fun _ _ _ _ n=>n)
  (fun b o hc e=>⟨o,k b o (fun z=>hc (by simp [z])) e⟩) (fun _ _ e=>e) (fun _ _ _ e=>e) (fun b ps e=>⟨#[],by rw [e];simp⟩) (fun m hm=>?_) (fun b u e=>?_) I.bare
 . have e:b=it:=by simpa using hb
   subst e
   exact ⟨h1,hL,h2,h3⟩
 . obtain ⟨o,es,ep,ho,r⟩:=hm
   exact ⟨o,es,ep,k _ o (Ne.symm hL) ho,r⟩
 . refine (I.hok b u e).stay (fun c v hc q=>k c v ?_ q) (fun _ q=>q) fun _ _ q=>q
   rcases hc with z | z
   . rw [z];exact nit b u e
   . exact nit c _ z
theorem Inv.tok (I:Inv X pins σ H s) (t:Nat):Inv X pins σ H { s with toks:=t }:=I.un (h':=s.heap) (t':=t) Un.refl I.hok
theorem Inv.kept {t':Nat} (I:Inv X pins σ H s) (k:∀ b u,s.heap.get? b=some u->h'.get? b=some u):Inv X pins σ H { s with heap:=h',toks:=t' }:=I.un (Un.kept k) (I.hok.kept k)
theorem Inv.laid {a:Addr} {o:HO} {t':Nat} (I:Inv X pins σ H s) (k:∀ b u,s.heap.get? b=some u->h'.get? b=some u) (hp:s.heap.objs.size<=a) (new:ObjOk X.prog X.w (upd H a o) h' a o) :
 Inv X pins σ (upd H a o) { s with heap:=h',toks:=t' }:=I.un (Un.laid k hp (I.hok.fresh hp)) (I.hok.laid k hp new)
theorem Inv.write {x e:Addr} {o:HO} {t':Nat} (I:Inv X pins σ H s) (mu:Mut (H x)) (he:e=x \/ H e=some (.own x)) (k:∀ b u,b ≠ e->s.heap.get? b=some u->h'.get? b=some u) (heo:∃ u,h'.get? e=some u)
 (new:ObjOk X.prog X.w (upd H x o) h' x o):Inv X pins σ (upd H x o) { s with heap:=h',toks:=t' }:=I.un (Un.write mu he k heo) (I.hok.write mu he k heo new)
theorem Inv.pins_of {pins':List (Addr×Obj)} (I:Inv X pins σ H s) (h:∀ p∈pins',s.heap.get? p.1=some p.2/\H p.1=none/\p.1 ≠ X.env.locals/\p.1 ∉ X.fs/\∀ v,p.2.data ≠ .cell v):Inv X pins' σ H s :=
 ⟨I.ok,I.os,I.bare,I.base,I.loc,I.cell,I.free,I.freeC,fun p hp=>(Zp.mp hp).elim (fun z=>I.pin p (List.mem_append_left _ z)) (h p),I.hok,I.len⟩
theorem oh {N:List Str} (hN:N.Nodup) {i j:Nat} {x:Str} (a:N[i]? = some x) (b:N[j]? = some x):i=j:=by
 obtain ⟨h1,e1⟩:=List.getElem?_eq_some_iff.mp a
 obtain ⟨h2,e2⟩:=List.getElem?_eq_some_iff.mp b
 exact (List.getElem_inj hN).mp (e1.trans e2.symm)
theorem lr {M:Model} {A:Around} {E:Value->Shared->Prop} {i:Nat} {x:Str} {v:V} {u:Value} {Q:Unit->Shared->Prop} (I:Inv X pins σ H s) (hN:X.N.Nodup) (hi:X.N[i]? = some x) (hx:Loc X.env.scope x) (r:RelV v u)
 (h:∀ s',Inv X pins (σ.set i (some v)) H s'->(∃ a,Heap.SameBut a s.heap s'.heap/\(a=X.env.locals \/ X.env.cells.lookup x=some a))->Q () s') (hf:X.fn x=true \/ X.env.scope.names.lookup x=some .local:=by first | exact .inl rfl | exact .inr rfl | assumption):wpAny M A (storeName X.env x u) Q E s:=by
 obtain ⟨m,hn,hl⟩:=id I.loc
 have hcls:(X.env.scope.kind == .class || (X.env.scope.kind == .module && X.env.locals != X.env.globals))=false:=by rw [I.ok.kind];rfl
 have hiσ:i < σ.length:=by rw [I.len];exact (List.getElem?_eq_some_iff.mp hi).1
 have cne:=I.cne
 have tracked:∀ {a:Addr} {h':Heap},(∃ o,s.heap.get? a=some o/\H a=none)->Heap.SameBut a s.heap h'->HOk X.prog X.w H h':=fun {a h'} ha hs b ob e=>by
  obtain ⟨_,_,hfree⟩:=ha
  refine (I.hok b ob e).stay (fun c w' hc q=>(hs.2 c ?_).trans q) (fun _ q=>q) fun _ _ q=>q
  rintro rfl
  rcases hc with rfl | hc
  . rw [hfree] at e;cases e
  . rw [hfree] at hc;cases hc
 rcases hx with hk | hk
 . refine wpAny_storeName_local hk hn (fun h' hn' hs=>?_) hcls
   obtain ⟨oL,_,_,hoL,_⟩:=id hn
   refine h _ ⟨I.ok,I.os,I.bare,⟨fun b o e n hb hx=>?_,fun b o e n hb hx=>?_,I.base.free,fun b o e hx=>?_,I.base.tups,I.base.frzs,I.base.tbls⟩,⟨_,hn',fun j y v' e1 e2 e3=>?_⟩,fun y c e=>?_,I.free,I.freeC,fun p hp=>?_,tracked ⟨oL,hoL,I.free⟩ hs,by simpa using I.len⟩ ⟨_,hs,.inl rfl⟩
   . exact (hs.2 b (Nat.ne_of_lt (Nat.lt_of_lt_of_le (Heap.lt_size e) I.ok.above))).trans (I.base.keep b o e n hb hx)
   . obtain ⟨sl,e1⟩:=I.base.slot b o e n hb hx
     exact ⟨sl,(hs.2 b (Nat.ne_of_lt (Nat.lt_of_lt_of_le (Heap.lt_size e) I.ok.above))).trans e1⟩
   . obtain ⟨o',e1⟩:=I.base.there b o e hx
     exact ⟨o',(hs.2 b (Nat.ne_of_lt (Nat.lt_of_lt_of_le (Heap.lt_size e) I.ok.above))).trans e1⟩
   . by_cases hj:j=i
     . subst hj
       rw [hi] at e1;cases e1
       rw [List.getElem?_set_self hiσ] at e2
       cases e2
       exact ⟨u,r,.inl ⟨hk,by simp⟩⟩
     . rw [List.getElem?_set_ne (Ne.symm hj)] at e2
       obtain ⟨u',r',q⟩:=hl j y v' e1 e2 e3
       refine ⟨u',r',?_⟩
       rcases q with ⟨k,e⟩ | ⟨k,c,e,z⟩
       . refine .inl ⟨k,?_⟩
         have:y ≠ x:=fun e=>hj (oh hN e1 (e ▸ hi))
         simp [this,e]
       . exact .inr ⟨k,c,e,z.sameBut hs (cne y c e)⟩
   . obtain ⟨w',z⟩:=I.cell y c e
     exact ⟨w',z.sameBut hs (cne y c e)⟩
   . obtain ⟨e,n,ne,nf,d⟩:=I.pin p hp
     exact ⟨(hs.2 p.1 ne).trans e,n,ne,nf,d⟩
 . have hfn:X.fn x=true:=by
    rcases hf with z | z
    . exact z
    . rw [z] at hk;cases hk
   obtain ⟨c,hc⟩:=I.ok.has x (.inl hk)
   obtain ⟨w',z⟩:=I.cell x c hc
   refine wpAny_storeName_cell I.ok.kind hk hc z (fun h' hc' hs=>?_)
   obtain ⟨oc,hoc,hocd⟩:=id z
   refine h { s with heap:=h' } ⟨I.ok,I.os,I.bare,⟨fun b o e n hb hx=>?_,fun b o e n hb hx=>?_,I.base.free,fun b o e hx=>?_,I.base.tups,I.base.frzs,I.base.tbls⟩,⟨m,hn.sameBut hs (Ne.symm (cne x c hc)),fun j y v' e1 e2 e3=>?_⟩,fun y c' e=>?_,I.free,I.freeC,fun p hp=>?_,tracked ⟨oc,hoc,I.freeC x c hc⟩ hs,by simpa using I.len⟩ ⟨c,hs,.inr hc⟩
   . exact (hs.2 b (Nat.ne_of_lt (Nat.lt_of_lt_of_le (Heap.lt_size e) (I.ok.cab x c hfn hc)))).trans (I.base.keep b o e n hb hx)
   . obtain ⟨sl,e1⟩:=I.base.slot b o e n hb hx
     exact ⟨sl,(hs.2 b (Nat.ne_of_lt (Nat.lt_of_lt_of_le (Heap.lt_size e) (I.ok.cab x c hfn hc)))).trans e1⟩
   . obtain ⟨o',e1⟩:=I.base.there b o e hx
     exact ⟨o',(hs.2 b (Nat.ne_of_lt (Nat.lt_of_lt_of_le (Heap.lt_size e) (I.ok.cab x c hfn hc)))).trans e1⟩
   . by_cases hj:j=i
     . subst hj
       rw [hi] at e1;cases e1
       rw [List.getElem?_set_self hiσ] at e2
       cases e2
       exact ⟨u,r,.inr ⟨.inl hk,c,hc,hc'⟩⟩
     . rw [List.getElem?_set_ne (Ne.symm hj)] at e2
       obtain ⟨u',r',q⟩:=hl j y v' e1 e2 e3
       refine ⟨u',r',?_⟩
       rcases q with q | ⟨k,c',e,z'⟩
       . exact .inl q
       . refine .inr ⟨k,c',e,z'.sameBut hs ?_⟩
         rintro rfl
         exact hj (oh hN e1 (I.ok.inj _ _ _ e hc ▸ hi))
   . by_cases hcc:c'=c
     . subst hcc;exact ⟨_,hc'⟩
     . obtain ⟨w2,z2⟩:=I.cell y c' e
       exact ⟨w2,z2.sameBut hs hcc⟩
   . obtain ⟨e,n,ne,nf,d⟩:=I.pin p hp
     refine ⟨(hs.2 p.1 ?_).trans e,n,ne,nf,d⟩
     intro q
     rw [q,hoc] at e
     have q':oc=p.2:=Option.some.inj e
     exact d w' (by rw [<- q'];exact hocd)
theorem jb {M:Model} {A:Around} {E:Value->Shared->Prop} {i:Nat} {x:Str} {v:V} {u:Value} {Q:Unit->Shared->Prop} (I:Inv X pins σ H s) (hN:X.N.Nodup) (hi:X.N[i]? = some x) (hx:Loc X.env.scope x) (r:RelV v u)
 (h:∀ s',Inv X pins (σ.set i (some v)) H s'->Q () s') (hf:X.fn x=true \/ X.env.scope.names.lookup x=some .local:=by first | exact .inl rfl | exact .inr rfl | assumption):wpAny M A (storeName X.env x u) Q E s :=
 lr I hN hi hx r (fun s' I' _=>h s' I') hf
theorem Inv.call' {s':Shared} {ch:List Addr} (I:Inv X pins σ H s) (ho:s'.os=s.os) (u:Un (frs X.stack) ch H H' s.heap s'.heap) (hok:HOk X.prog X.w H' s'.heap) (hg:AllBare s'.gens)
 (hch:∀ b∈ch,(b∈X.ex \/ X.s₀.heap.objs.size<=b)/\b ≠ X.env.locals/\(∀ x c,X.env.cells.lookup x=some c->c ≠ b)/\∀ p∈X.pn++pins,p.1 ≠ b):Inv X pins σ H' s':=by
 obtain ⟨h',g',d',t',o'⟩:=s'
 have e:o'=s.os:=ho
 subst e
 exact I.call (g':=g') (t':=t') (d':=d') u hok hg hch
end
abbrev XK:=Value->Option Addr->Hp->Prop
abbrev St:=List (Option V)
abbrev VK:=V->Hp->Prop
abbrev TE:=St->Hp->VK->Prop
abbrev TT:=St->Hp->(Bool->Hp->Prop)->Prop
abbrev TA:=St->Hp->(List V->Hp->Prop)->Prop
structure pd where
 nx:St->Hp->Prop
 rt:VK
 bk:St->Hp->Prop:=fun _ _=>False
 ct:St->Hp->Prop:=fun _ _=>False
abbrev TS:=pd->St->Hp->Prop
def EP (X:Cx) (pins:List (Addr×Obj)) (σ:St) (Q:VK) (u:Value) (s':Shared):Prop:=∃ v H',Inv X pins σ H' s'/\RelV v u/\Q v H'
def TP (X:Cx) (pins:List (Addr×Obj)) (σ:St) (Q:Bool->Hp->Prop) (b:Bool) (s':Shared):Prop:=∃ H',Inv X pins σ H' s'/\Q b H'
def AP (X:Cx) (pins:List (Addr×Obj)) (σ:St) (Q:List V->Hp->Prop) (us:List Value) (s':Shared):Prop:=∃ vs H',Inv X pins σ H' s'/\Vals vs us/\Q vs H'
def SP (X:Cx) (pins:List (Addr×Obj)) (D:pd) (f:Flow) (s':Shared):Prop :=
 match f with
 | .next=>∃ σ' H',Inv X pins σ' H' s'/\D.nx σ' H'
 | .brk=>∃ σ' H',Inv X pins σ' H' s'/\D.bk σ' H'
 | .cont=>∃ σ' H',Inv X pins σ' H' s'/\D.ct σ' H'
 | .ret u=>∃ v σ' H',Inv X pins σ' H' s'/\RelV v u/\D.rt v H'
def PE (X:Cx) (e:Expr) (t:TE):Prop :=
 ∀ (pins:List (Addr×Obj)) (s:Shared) (σ:St) (H:Hp) (Q:VK),Inv X pins σ H s->t σ H Q->wpAny (model X.prog X.w) X.A (eval e X.env) (EP X pins σ Q) X.xe s
def PT (X:Cx) (e:Expr) (t:TT):Prop :=
 ∀ (pins:List (Addr×Obj)) (s:Shared) (σ:St) (H:Hp) (Q:Bool->Hp->Prop),Inv X pins σ H s->t σ H Q->wpAny (model X.prog X.w) X.A (isTrue e X.env (eval e X.env)) (TP X pins σ Q) X.xe s
def PW (X:Cx) (e:Expr) (t:TT):Prop :=
 ∀ (whole:Sem Value) (pins:List (Addr×Obj)) (s:Shared) (σ:St) (H:Hp) (Q:Bool->Hp->Prop),Inv X pins σ H s->t σ H Q->wpAny (model X.prog X.w) X.A (isTrue e X.env whole) (TP X pins σ Q) X.xe s
def PA (X:Cx) (es:List Expr) (t:TA):Prop :=
 ∀ (pos:Pos) (pins:List (Addr×Obj)) (s:Shared) (σ:St) (H:Hp) (Q:List V->Hp->Prop),Inv X pins σ H s->t σ H Q->wpAny (model X.prog X.w) X.A (spliced (backTo pos (starEach es X.env))) (AP X pins σ Q) X.xe s
def PS (X:Cx) (st:Stmt) (t:TS):Prop :=
 ∀ (pins:List (Addr×Obj)) (s:Shared) (σ:St) (H:Hp) (D:pd),Inv X pins σ H s->t D σ H->wpAny (model X.prog X.w) X.A (exec st X.env) (SP X pins D) X.xe s
def PSs (X:Cx) (st:List Stmt) (t:TS):Prop :=
 ∀ (pins:List (Addr×Obj)) (s:Shared) (σ:St) (H:Hp) (D:pd),Inv X pins σ H s->t D σ H->wpAny (model X.prog X.w) X.A (execs st X.env) (SP X pins D) X.xe s
theorem thn {α:Type} {t:Sem α} {Q Q':α->Shared->Prop} {M:Model} {A:Around} {E:Value->Shared->Prop} {s:Shared} (h:wpAny M A t Q E s) (hQ:∀ a s,Q a s->Q' a s):wpAny M A t Q' E s:=wpAny_mono h hQ fun _ _ x=>x
end L2
namespace L2
open PySem PySem.Spec PyProof.Rows
section
variable {X:Cx}
def pi (i:Nat):TE:=fun σ H Q=>∃ v,σ[i]? = some (some v)/\Q v H
def tC (v:V):TE:=fun _ H Q=>Q v H
theorem nV {i:Nat} {x:Str} {pos:Pos} (hN:X.N[i]? = some x) (hv:Vis X.env.scope x) (hd:(x == ("__debug__":Str))=false:=by decide) (hcd:(x == ("__classdict__":Str))=false:=by decide):PE X (.Name x pos) (pi i):=by
 intro pins s σ H Q I h
 obtain ⟨v,e,h⟩:=h
 obtain ⟨m,hn,hl⟩:=I.loc
 obtain ⟨u,r,l⟩:=hl i x v hN e hv
 have fin:EP X pins σ Q u s:=⟨v,H,I,r,h⟩
 rcases l with ⟨hk,hm⟩ | ⟨hk,c,hc,hcell⟩
 . exact wpAny_Name (wpAny_loadName_local I.ok.kind hk hn hm fin) hd
 . rcases hk with hk | hk
   . exact wpAny_Name (wpAny_loadName_cell I.ok.kind hk hc hcell fin) hd
   . exact wpAny_Name (wpAny_loadName_free I.ok.kind hk hc hcell fin hcd) hd
theorem Cp {i j pos}:PE X (.Constant (.int i) j pos) (tC (.int i)):=fun _ _ _ H _ I h=>wpAny_Constant_int ⟨.int i,H,I.tok _,⟨_,rfl⟩,h⟩
theorem D5 {b j pos}:PE X (.Constant (.bool b) j pos) (tC (.bl b)):=fun _ _ _ H _ I h=>Constant_bool ⟨.bl b,H,I,rfl,h⟩
theorem Co {j pos}:PE X (.Constant .none j pos) (tC .non):=fun _ _ _ H _ I h=>Constant_none ⟨.non,H,I,rfl,h⟩
theorem Cl {x j pos}:PE X (.Constant (.str x) j pos) (tC (.str x)):=fun _ _ _ H _ I h=>Calls.Constant_str ⟨.str x,H,I.tok _,⟨_,rfl⟩,h⟩
def Gl (X:Cx) (x:Str):Prop:=X.env.kindOf x=some .globalImplicit
theorem iN {E:Value->Shared->Prop} {pins:List (Addr×Obj)} {s:Shared} {σ:St} {H:Hp} {x:Str} {u:Value} {pos:Pos} {Q:Value->Shared->Prop} (I:Inv X pins σ H s) (hg:Gl X x) (hm:X.mg x=some u) (h:Q u s)
 (hd:(x == ("__debug__":Str))=false:=by decide):wpAny (model X.prog X.w) X.A (eval (.Name x pos) X.env) Q E s :=
 Calls.Name_function_global I.ok.kind hg (Calls.loadGlobal_global (by rw [I.ok.glob];exact I.mod.glob.keeps I.bk) hm h) hd
theorem ou {E:Value->Shared->Prop} {pins:List (Addr×Obj)} {s:Shared} {σ:St} {H:Hp} {x:Str} {u:Value} {pos:Pos} {Q:Value->Shared->Prop} (I:Inv X pins σ H s) (hg:Gl X x) (hm:X.mg x=none) (hv:bootBuiltins x=some u) (h:Q u s)
 (hn:x ≠ "__name__":=by decide) (hd:(x == ("__debug__":Str))=false:=by decide):wpAny (model X.prog X.w) X.A (eval (.Name x pos) X.env) Q E s:=by
 obtain ⟨mb,h1,h2⟩:=I.mod.blt
 exact Calls.Name_function_global I.ok.kind hg (Calls.loadGlobal_builtin (by rw [I.ok.glob];exact I.mod.glob.keeps I.bk) hm (by rw [I.ok.blt];exact h1.keeps I.bk) ((h2 x hn).trans hv) h) hd
theorem AA {x:Str} {v:V} {u:Value} {pos:Pos} (hg:Gl X x) (hm:X.mg x=some u) (r:RelV v u) (hd:(x == ("__debug__":Str))=false:=by decide):PE X (.Name x pos) (tC v) :=
 fun _ _ _ H _ I h=>iN I hg hm ⟨v,H,I,r,h⟩ hd
theorem AE {x:Str} {v:V} {u:Value} {pos:Pos} (hg:Gl X x) (hm:X.mg x=none) (hv:bootBuiltins x=some u) (r:RelV v u) (hn:x ≠ "__name__":=by decide) (hd:(x == ("__debug__":Str))=false:=by decide):PE X (.Name x pos) (tC v) :=
 fun _ _ _ H _ I h=>ou I hg hm hv ⟨v,H,I,r,h⟩ hn hd
variable {a b:Expr} {ta tb:TE} {pos:Pos}
def PC (X:Cx) (op:CmpOp) (a b:Expr) (t:TE):Prop :=
 ∀ (pins:List (Addr×Obj)) (s:Shared) (σ:St) (H:Hp) (Q:VK),Inv X pins σ H s->t σ H Q ->
  wpAny (model X.prog X.w) X.A (eval a X.env) (fun v s₁=>wpAny (model X.prog X.w) X.A (eval b X.env) (fun u s₂=>wpAny (model X.prog X.w) X.A (compareOp op v u) (EP X pins σ Q) X.xe s₂) X.xe s₁) X.xe s
theorem yY (b:Expr) {op:CmpOp} (h:op ≠ .In) (h2:op ≠ .NotIn):behindInMarks op b=false:=by
 have e1:(op == CmpOp.In)=false:=by cases op <;> first | rfl | exact absurd rfl h
 have e2:(op == CmpOp.NotIn)=false:=by cases op <;> first | rfl | exact absurd rfl h2
 cases b <;> simp [behindInMarks,e1,e2]
def tB (t:TE):TT:=fun σ H Q=>t σ H fun x H1=>∃ c,x=.bl c/\Q c H1
theorem Cg {op:CmpOp} {t:TE} (h:PC X op a b t) (h1:behindInMarks op b=false:=by first | exact yY _ (by decide) (by decide) | rfl):PT X (.Compare a [op] [b] pos) (tB t):=by
 intro pins s σ H Q I hw
 refine wpAny_isTrue_Compare1 (thn (h pins s σ H _ I hw) fun v s1 h1=>thn h1 fun u s2 h2=>thn h2 fun c s3 ⟨x,H1,I1,r1,q1⟩=>?_) h1
 obtain ⟨d,rfl,q⟩:=q1
 cases r1
 exact wpAny_truthy_bool ⟨H1,I1,q⟩
theorem Ce {e:Expr} {t:TE} (h:PE X e t) (he:∀ whole,isTrue e X.env whole=(do let v <- whole;standAt e.pos;holding [v] (truthy v)):=by intro _;rfl):PT X e (tB t):=by
 intro pins s σ H Q I hw
 refine isTrue_plain (thn (h pins s σ H _ I hw) fun v s1 ⟨x,H1,I1,r1,q1⟩=>?_) (he _)
 obtain ⟨d,rfl,q⟩:=q1
 cases r1
 exact wpAny_truthy_bool ⟨H1,I1,q⟩
variable {tA tB':TT} {rest:List Expr}
def EZ (t u:TT):TT:=fun σ H Q=>t σ H fun c H1=>if c=true then u σ H1 Q else Q false H1
def tOr (t u:TT):TT:=fun σ H Q=>t σ H fun c H1=>if c=true then Q true H1 else u σ H1 Q
def EV (t:TT):TT:=fun σ H Q=>t σ H fun c H1=>Q (!c) H1
theorem Ao (ha:PT X a tA):PW X (.BoolOp .And [a] pos) tA:=by
 intro wh pins s σ H Q I h
 refine isTrue_and (thn (ha pins s σ H Q I h) fun c s1 e=>?_)
 cases c with
 | true=>exact isTrue_and_nil e
 | false=>exact e
theorem Cb (ha:PT X a tA):PW X (.BoolOp .Or [a] pos) tA:=by
 intro wh pins s σ H Q I h
 refine isTrue_or (thn (ha pins s σ H Q I h) fun c s1 e=>?_)
 cases c with
 | false=>exact isTrue_or_nil e
 | true=>exact e
theorem Cc (ha:PT X a tA) (hb:PW X (.BoolOp .And (b :: rest) pos) tB'):PW X (.BoolOp .And (a :: b :: rest) pos) (EZ tA tB'):=by
 intro wh pins s σ H Q I h
 refine isTrue_and (thn (ha pins s σ H _ I h) fun c s1 ⟨H1,I1,q1⟩=>?_)
 cases c with
 | true=>exact hb wh pins s1 σ H1 Q I1 q1
 | false=>exact ⟨H1,I1,q1⟩
theorem DY (ha:PT X a tA) (hb:PW X (.BoolOp .Or (b :: rest) pos) tB'):PW X (.BoolOp .Or (a :: b :: rest) pos) (tOr tA tB'):=by
 intro wh pins s σ H Q I h
 refine isTrue_or (thn (ha pins s σ H _ I h) fun c s1 ⟨H1,I1,q1⟩=>?_)
 cases c with
 | true=>exact ⟨H1,I1,q1⟩
 | false=>exact hb wh pins s1 σ H1 Q I1 q1
theorem Cf (ha:PT X a tA):PT X (.UnaryOp .Not a pos) (EV tA):=by
 intro pins s σ H Q I h
 exact isTrue_not (ha pins s σ H (fun c H1=>Q (!c) H1) I h)
def DG (ta tb:TE):TE:=fun σ H Q=>ta σ H fun x H1=>∃ c,x=.bl c/\if c=true then tb σ H1 Q else Q (.bl false) H1
def EU (ta tb:TE):TE:=fun σ H Q=>ta σ H fun x H1=>∃ c,x=.bl c/\if c=true then Q (.bl true) H1 else tb σ H1 Q
def Dx (ta:TE):TE:=fun σ H Q=>ta σ H fun x H1=>∃ c,x=.bl c/\Q (.bl (!c)) H1
theorem Cm {op} {t:TE} (h:PE X a t):PE X (.BoolOp op [a] pos) t:=fun pins s σ H Q I hw=>BoolOp_one (h pins s σ H Q I hw)
theorem Cr (ha:PE X a ta) (hb:PE X (.BoolOp .And (b :: rest) pos) tb):PE X (.BoolOp .And (a :: b :: rest) pos) (DG ta tb):=by
 intro pins s σ H Q I h
 refine BoolOp_and (thn (ha pins s σ H _ I h) fun v s1 ⟨x,H1,I1,r1,q1⟩=>?_)
 obtain ⟨c,rfl,q1⟩:=q1
 cases r1
 refine wpAny_truthy_bool ?_
 cases c with
 | true=>exact hb pins s1 σ H1 Q I1 q1
 | false=>exact ⟨.bl false,H1,I1,rfl,q1⟩
theorem D4 (ha:PE X a ta) (hb:PE X (.BoolOp .Or (b :: rest) pos) tb):PE X (.BoolOp .Or (a :: b :: rest) pos) (EU ta tb):=by
 intro pins s σ H Q I h
 refine BoolOp_or (thn (ha pins s σ H _ I h) fun v s1 ⟨x,H1,I1,r1,q1⟩=>?_)
 obtain ⟨c,rfl,q1⟩:=q1
 cases r1
 refine wpAny_truthy_bool ?_
 cases c with
 | false=>exact hb pins s1 σ H1 Q I1 q1
 | true=>exact ⟨.bl true,H1,I1,rfl,q1⟩
theorem Cn (ha:PE X a ta):PE X (.UnaryOp .Not a pos) (Dx ta):=by
 intro pins s σ H Q I h
 refine UnaryOp_ (thn (ha pins s σ H _ I h) fun v s1 ⟨x,H1,I1,r1,q1⟩=>?_)
 obtain ⟨c,rfl,q1⟩:=q1
 cases r1
 exact not_of (wpAny_truthy_bool ⟨.bl (!c),H1,I1,rfl,q1⟩)
end
end L2
namespace L2
open PySem PySem.Spec PyProof.Rows
def SqL (K:PySem.W.Frag) (H:Hp) (a:Addr) (xs:List V):Prop :=
 Rd H a (.lst xs) \/
  ∃ (o:Obj) (its:Array Value) (n:Nat),K.lookup a=some o/\o.cls=.type "list"/\o.dict=none/\o.data=.seq its n/\its.size<=sizeLine/\Vals xs its.toList
def SqT (K:PySem.W.Frag) (H:Hp) (a:Addr) (xs:List V):Prop :=
 Rd H a (.tup xs) \/
  ∃ (o:Obj) (its:Array Value) (n:Nat),K.lookup a=some o/\o.cls=.type "tuple"/\o.data=.seq its n/\its.size<=sizeLine/\Vals xs its.toList
def E7:Value->Option V
 | .none=>some .non
 | .bool b=>some (.bl b)
 | .int i _=>some (.int i)
 | .str x _=>some (.str x)
 | .bytes b _=>some (.byt b)
 | .float b _=>some (.flt b)
 | .ref a=>some (.ref a)
 | .type n=>some (.ty n)
 | _=>none
theorem RelV.abs {x:V} {u:Value} (r:RelV x u):E7 u=some x:=by
 cases x with
 | non=>cases r;rfl
 | bl _=>cases r;rfl
 | int _=>obtain ⟨t,rfl⟩:=r;rfl
 | str _=>obtain ⟨t,rfl⟩:=r;rfl
 | byt _=>obtain ⟨t,rfl⟩:=r;rfl
 | flt _=>obtain ⟨t,rfl⟩:=r;rfl
 | ref _=>cases r;rfl
 | ty _=>cases r;rfl
theorem RelV.inj {x y:V} {u:Value} (r:RelV x u) (q:RelV y u):x=y:=Option.some.inj (r.abs.symm.trans q.abs)
theorem Vals.inj:∀ {xs ys:List V} {us:List Value},Vals xs us->Vals ys us->xs=ys
 | _,_,_,.nil,.nil=>rfl
 | _,_,_,.cons r t,.cons r' t'=>by rw [r.inj r',Vals.inj t t']
section
variable {X:Cx} {pins:List (Addr×Obj)} {σ:St} {H:Hp} {s:Shared} {a:Addr} {xs ys:List V}
theorem SqL.of {K:PySem.W.Frag} (h:H a=some (.lst xs)):SqL K H a xs:=.inl (.inl h)
theorem SqT.of {K:PySem.W.Frag} (h:H a=some (.tup xs)):SqT K H a xs:=.inl (.inl h)
theorem Inv.list (I:Inv X pins σ H s) (h:SqL X.K H a xs):∃ its:List Value,Vals xs its/\PlainL s.heap a its.toArray/\xs.length<=sizeLine:=by
 rcases h with h | ⟨o,its,n,hk,hc,hd,hs,hz,r⟩
 . obtain ⟨z,its,n,r,e⟩:=h.ok I.hok
   exact ⟨its,r,⟨_,n,e,rfl,rfl,rfl⟩,z⟩
 . refine ⟨its.toList,r,⟨o,n,I.kIn a o hk,hc,hd,by simpa using hs⟩,?_⟩
   have e:=r.length
   simp only [Array.length_toList] at e
   omega
theorem Inv.tuple (I:Inv X pins σ H s) (h:SqT X.K H a xs):∃ its:List Value,Vals xs its/\IsTup s.heap a its.toArray/\xs.length<=sizeLine:=by
 rcases h with h | ⟨o,its,n,hk,hc,hs,hz,r⟩
 . obtain ⟨z,its,r,p⟩:=h.ok I.hok
   exact ⟨its,r,p,z⟩
 . refine ⟨its.toList,r,⟨o,I.kIn a o hk,hc,n,by simpa using hs⟩,?_⟩
   have e:=r.length
   simp only [Array.length_toList] at e
   omega
theorem Inv.list_inj (I:Inv X pins σ H s) (h:SqL X.K H a xs) (h':SqL X.K H a ys):xs=ys:=by
 obtain ⟨its,r,⟨o,n,e,_,_,d⟩,_⟩:=I.list h
 obtain ⟨its',r',⟨o',n',e',_,_,d'⟩,_⟩:=I.list h'
 rw [e] at e';cases e'
 rw [d] at d'
 injection d' with d1 _
 have:its=its':=by simpa using congrArg Array.toList d1
 subst this
 exact r.inj r'
theorem Inv.tuple_inj (I:Inv X pins σ H s) (h:SqT X.K H a xs) (h':SqT X.K H a ys):xs=ys:=by
 obtain ⟨its,r,⟨o,e,_,n,d⟩,_⟩:=I.tuple h
 obtain ⟨its',r',⟨o',e',_,n',d'⟩,_⟩:=I.tuple h'
 rw [e] at e';cases e'
 rw [d] at d'
 injection d' with d1 _
 have:its=its':=by simpa using congrArg Array.toList d1
 subst this
 exact r.inj r'
end
abbrev Cx.wish (X:Cx) (E:Value->Shared->Prop):Cx:={ X with xe:=E }
abbrev Cx.nox (X:Cx):Cx:=X.wish fun _ _=>False
theorem Cx.Ok.wish {X:Cx} (ok:X.Ok) (E:Value->Shared->Prop):(X.wish E).Ok :=
 ⟨ok.mod,ok.kind,ok.glob,ok.blt,ok.above,ok.inj,ok.has,ok.cab,ok.hd,ok.frames,ok.stk,ok.exf,ok.bs,ok.bsz,ok.noex,ok.exfs,ok.funs,ok.frf⟩
theorem Cx.Ok.unwish {X:Cx} {E:Value->Shared->Prop} (ok:(X.wish E).Ok):X.Ok :=
 ⟨ok.mod,ok.kind,ok.glob,ok.blt,ok.above,ok.inj,ok.has,ok.cab,ok.hd,ok.frames,ok.stk,ok.exf,ok.bs,ok.bsz,ok.noex,ok.exfs,ok.funs,ok.frf⟩
section
variable {X:Cx} {pins:List (Addr×Obj)} {σ:St} {H:Hp} {s:Shared} {E:Value->Shared->Prop}
theorem Inv.wish (I:Inv X pins σ H s) (E:Value->Shared->Prop):Inv (X.wish E) pins σ H s:=⟨I.ok.wish E,I.os,I.bare,I.base,I.loc,I.cell,I.free,I.freeC,I.pin,I.hok,I.len⟩
theorem Inv.unwish (I:Inv (X.wish E) pins σ H s):Inv X pins σ H s:=⟨I.ok.unwish,I.os,I.bare,I.base,I.loc,I.cell,I.free,I.freeC,I.pin,I.hok,I.len⟩
theorem SP.unwish {D:pd} {f:Flow} {s':Shared} (h:SP (X.wish E) pins D f s'):SP X pins D f s':=by
 cases f with
 | next=>obtain ⟨σ',H',I,q⟩:=h;exact ⟨σ',H',I.unwish,q⟩
 | brk=>obtain ⟨σ',H',I,q⟩:=h;exact ⟨σ',H',I.unwish,q⟩
 | cont=>obtain ⟨σ',H',I,q⟩:=h;exact ⟨σ',H',I.unwish,q⟩
 | ret u=>obtain ⟨v,σ',H',I,r,q⟩:=h;exact ⟨v,σ',H',I.unwish,r,q⟩
theorem PSs.nox {st:List Stmt} {t:TS} (h:PSs X.nox st t):PSs X st t:=fun pins s σ H D I hw =>
 wpAny_mono (h pins s σ H D (I.wish _) hw) (fun _ _ q=>q.unwish) fun _ _ z=>False.elim z
end
section
variable {X:Cx} {st:Stmt} {rest:List Stmt} {t u:TS} {e:Expr} {te:TE} {pos:Pos}
def Dz:TS:=fun D σ H=>D.nx σ H
def ER (t u:TS):TS:=fun D σ H=>t { D with nx:=u D } σ H
theorem qY:PSs X [] Dz:=fun _ _ σ H _ I h=>wpAny_execs_nil ⟨σ,H,I,h⟩
theorem nU (h1:PS X st t) (h2:PSs X rest u):PSs X (st :: rest) (ER t u):=by
 intro pins s σ H D I h
 refine wpAny_execs_cons (thn (h1 pins s σ H { D with nx:=u D } I h) fun f s1 q=>?_)
 cases f with
 | next =>
  obtain ⟨σ',H',I',q⟩:=q
  exact h2 pins s1 σ' H' D I' q
 | ret v=>exact q
 | brk=>exact q
 | cont=>exact q
theorem qX (h1:PS X st t):PSs X [st] t:=by
 intro pins s σ H D I h
 refine wpAny_execs_cons (thn (h1 pins s σ H D I h) fun f s1 q=>?_)
 cases f with
 | next=>exact wpAny_execs_nil q
 | ret v=>exact q
 | brk=>exact q
 | cont=>exact q
theorem Inv.quiet {pins:List (Addr×Obj)} {σ:St} {H:Hp} {s:Shared} (I:Inv X pins σ H s):interactive X.env=false:=by simp [interactive,I.ok.kind]
def DB (te:TE):TS:=fun D σ H=>te σ H fun _ H1=>D.nx σ H1
theorem mX (he:PE X e te) (hs:swapsWith e none pos.line X.env=pure false:=by rfl):PS X (.Expr e pos) (DB te):=by
 intro pins s σ H D I h
 exact wpAny_Expr_any (thn (he pins s σ H _ I h) fun v s1 ⟨x,H1,I1,r1,q1⟩=>⟨σ,H1,I1,q1⟩) I.quiet hs
def ES (te:TE):TS:=fun D σ H=>te σ H D.rt
theorem uH (he:PE X e te):PS X (.Return (some e) pos) (ES te):=by
 intro pins s σ H D I h
 exact wpAny_Return_some (thn (he pins s σ H _ I h) fun v s1 ⟨x,H1,I1,r1,q1⟩=>⟨x,σ,H1,I1,r1,q1⟩)
def EX (c:TT) (t u:TS):TS:=fun D σ H=>c σ H fun b H1=>if b=true then t D σ H1 else u D σ H1
theorem yu {c:Expr} {a b:List Stmt} {tc:TT} (hc:PT X c tc) (ha:PSs X a t) (hb:PSs X b u):PS X (.If c a b pos) (EX tc t u):=by
 intro pins s σ H D I h
 refine wpAny_If (thn (hc pins s σ H _ I h) fun d s1 ⟨H1,I1,q1⟩=>?_)
 cases d with
 | true=>exact ha pins s1 σ H1 D I1 q1
 | false=>exact hb pins s1 σ H1 D I1 q1
def BX:TS:=fun _ _ _=>False
theorem sY:PS X st BX:=fun _ _ _ _ _ _ h=>h.elim
end
abbrev TG:=V->St->Hp->(St->Hp->Prop)->Prop
abbrev TGs:=List V->St->Hp->(St->Hp->Prop)->Prop
def PG (X:Cx) (target:Expr) (t:TG):Prop :=
 ∀ (pins:List (Addr×Obj)) (s:Shared) (σ:St) (H:Hp) (v:V) (u:Value) (Q:St->Hp->Prop),Inv X pins σ H s->RelV v u->t v σ H Q ->
  wpAny (model X.prog X.w) X.A (assign target X.env u) (fun _ s'=>∃ σ' H',Inv X pins σ' H' s'/\Q σ' H') X.xe s
def PGs (X:Cx) (ts:List Expr) (t:TGs):Prop :=
 ∀ (pins:List (Addr×Obj)) (s:Shared) (σ:St) (H:Hp) (vs:List V) (us:List Value) (Q:St->Hp->Prop),Inv X pins σ H s->Vals vs us->t vs σ H Q ->
  wpAny (model X.prog X.w) X.A (assignInOrder ((assignEach ts X.env).map (·.2)) us) (fun _ s'=>∃ σ' H',Inv X pins σ' H' s'/\Q σ' H') X.xe s
abbrev Di:=V->V->V->Hp->(Hp->Prop)->Prop
def EJ (X:Cx) (t:Di):Prop :=
 ∀ (pins:List (Addr×Obj)) (s:Shared) (σ:St) (H:Hp) (o i v:V) (ov iv u:Value) (Q:Hp->Prop),Inv X pins σ H s->RelV o ov->RelV i iv->RelV v u->t o i v H Q ->
  wpAny (model X.prog X.w) X.A (setItem ov iv u) (fun _ s'=>∃ H',Inv X pins σ H' s'/\Q H') X.xe s
section
variable {X:Cx} {pos:Pos}
def wg (i:Nat):TG:=fun v σ H Q=>Q (σ.set i (some v)) H
theorem jF {i:Nat} {x:Str} (hN:X.N.Nodup) (hi:X.N[i]? = some x) (hx:Loc X.env.scope x) (hf:X.fn x=true \/ X.env.scope.names.lookup x=some .local:=by first | exact .inl rfl | exact .inr rfl | assumption):PG X (.Name x pos) (wg i):=by
 intro pins s σ H v u Q I r h
 exact wpAny_assign_Name (jb I hN hi hx r (fun s' I'=>⟨_,H,I',h⟩) hf)
def Ey:TGs:=fun vs σ H Q=>vs=[]/\Q σ H
def BQ (t:TG) (u:TGs):TGs:=fun vs σ H Q=>∃ v r,vs=v :: r/\t v σ H fun σ' H'=>u r σ' H' Q
theorem vO:PGs X [] Ey:=by
 intro pins s σ H vs us Q I r h
 obtain ⟨e,h⟩:=h
 subst e
 cases r
 exact assignInOrder_nil ⟨σ,H,I,h⟩
theorem kQ {e:Expr} {es:List Expr} {t:TG} {u:TGs} (h1:PG X e t) (h2:PGs X es u)
 (hs:(assignEach (e :: es) X.env).map (·.2)=assign e X.env :: (assignEach es X.env).map (·.2):=by rfl):PGs X (e :: es) (BQ t u):=by
 intro pins s σ H vs us Q I r h
 obtain ⟨v,vr,e1,h⟩:=h
 subst e1
 cases r with
 | cons r rr =>
  rw [hs]
  refine assignInOrder_cons (thn (h1 pins s σ H _ _ _ I r h) fun _ s1 ⟨σ1,H1,I1,q1⟩=>?_)
  exact h2 pins s1 σ1 H1 _ _ Q I1 rr q1
def CY (K:PySem.W.Frag) (n:Nat) (t:TGs):TG:=fun v σ H Q=>∃ a xs,v=.ref a/\SqT K H a xs/\xs.length=n/\t xs σ H Q
theorem yE {es:List Expr} {k:Nat} {t:TGs} {n:Nat} (hc:X.calm=true) (h:PGs X es t)
 (hn:(assignEach es X.env).length=n:=by rfl) (hst:(assignEach es X.env).findIdx? (·.1)=none:=by rfl):PG X (.Tuple es k pos) (CY X.K n t):=by
 intro pins s σ H v u Q I r hw
 obtain ⟨a,xs,e1,hq,hl,hw⟩:=hw
 subst e1
 cases r
 obtain ⟨its,rv,ht,hz⟩:=I.tuple hq
 refine assign_Tuple_tuple (I.ok.hd hc) ht (by simp [hn,<- hl,rv.length]) hst fun h' hx=>?_
 have I1:Inv X pins σ H { s with heap:=h' }:=I.kept (t':=s.toks) fun b o e=>hx b o (Nat.ne_of_lt (Heap.lt_size e)) e
 exact h pins _ σ H xs _ Q I1 (by simpa using rv) hw
def A9 (to ti:TE) (t:Di):TG:=fun v σ H Q=>to σ H fun o H1=>ti σ H1 fun i H2=>t o i v H2 fun H3=>Q σ H3
theorem lB {o i:Expr} {to ti:TE} {t:Di} (ho:PE X o to) (hi:PE X i ti) (hs:EJ X t)
 (ha:∀ v,assign (.Subscript o i pos) X.env v=(do
  let ov <- holding [v] (eval o X.env)
  let iv <- holding [v,ov] (eval i X.env)
  standAt pos
  holding [v,ov,iv] (setItem ov iv v)
  release [v,ov,iv] []):=by intro _;rfl):PG X (.Subscript o i pos) (A9 to ti t):=by
 intro pins s σ H v u Q I r h
 rw [ha]
 refine wpAny_bind (wpAny_holding (thn (ho pins s σ H _ I h) fun ov s1 ⟨x,H1,I1,r1,q1⟩=>?_))
 refine wpAny_bind (wpAny_holding (thn (hi pins s1 σ H1 _ I1 q1) fun iv s2 ⟨y,H2,I2,r2,q2⟩=>?_))
 refine wpAny_bind (wpAny_standAt (wpAny_bind (wpAny_holding (thn (hs pins s2 σ H2 x y v ov iv u _ I2 r1 r2 r q2) fun _ s3 ⟨H3,I3,q3⟩=>?_))))
 exact wpAny_release ⟨σ,H3,I3,q3⟩
def BY (te:TE) (g:TG):TS:=fun D σ H=>te σ H fun x H1=>g x σ H1 D.nx
theorem rc {tg e:Expr} {te:TE} {g:TG} (he:PE X e te) (hg:PG X tg g) (hs:swapsWithSole [tg] e pos.line X.env=pure false:=by rfl) (hw:swappedStores [tg] e X.env=pure none:=by rfl)
 (h1:(assignEach [tg] X.env).map (·.2)=[assign tg X.env]:=by rfl):PS X (.Assign [tg] e pos) (BY te g):=by
 intro pins s σ H D I h
 refine wpAny_Assign_stores (thn (he pins s σ H _ I h) fun v s1 ⟨x,H1,I1,r1,q1⟩=>?_) hs hw
 rw [h1]
 exact thn (hg pins s1 σ H1 x v _ I1 r1 q1) fun _ s2 q=>q
theorem qZ {i:Nat} {x:Str} {e:Expr} {te:TE} {pos':Pos} (hN:X.N.Nodup) (hi:X.N[i]? = some x) (hx:Loc X.env.scope x) (he:PE X e te) (hs:swapsWith e (some (.Name x pos')) pos.line X.env=pure false:=by rfl) (hf:X.fn x=true \/ X.env.scope.names.lookup x=some .local:=by first | exact .inl rfl | exact .inr rfl | assumption) :
 PS X (.Assign [.Name x pos'] e pos) (BY te (wg i)):=by
 intro pins s σ H D I h
 refine wpAny_Assign_Name (thn (he pins s σ H _ I h) fun v s1 ⟨y,H1,I1,r1,q1⟩=>?_) hs
 exact jb I1 hN hi hx r1 (fun s2 I2=>⟨_,H1,I2,q1⟩) hf
def ET (i j:Nat) (ta:TA):TS:=fun D σ H=>ta σ H fun vs H1=>∃ v w,vs=[v,w]/\D.nx ((σ.set i (some v)).set j (some w)) H1
theorem Ch {i j:Nat} {x y:Str} {a b:Expr} {ta:TA} {px py pt:Pos} {kt k2 pt2} (hc:X.calm=true) (hN:X.N.Nodup) (hi:X.N[i]? = some x) (hj:X.N[j]? = some y) (hij:i ≠ j)
 (hx:X.env.scope.names.lookup x=some .local) (hy:X.env.scope.names.lookup y=some .local) (ha:PA X [a,b] ta)
 (hw:swappedStores [.Tuple [.Name x px,.Name y py] kt pt] (.Tuple [a,b] k2 pt2) X.env=pure (some [x,y]))
 (hs:swapsWithSole [.Tuple [.Name x px,.Name y py] kt pt] (.Tuple [a,b] k2 pt2) pos.line X.env=pure false:=by rfl) :
 PS X (.Assign [.Tuple [.Name x px,.Name y py] kt pt] (.Tuple [a,b] k2 pt2) pos) (ET i j ta):=by
 intro pins s σ H D I h
 rw [exec_Assign_arm]
 refine wpAny_bind (wpAny_standAt ?_)
 rw [hs]
 refine wpAny_bind (wpAny_pure ?_)
 rw [if_neg (by decide)]
 refine wpAny_bind (Tuple_ (thn (ha _ pins s σ H _ I h) fun us s1 ⟨vs,H1,I1,r1,q1⟩=>?_))
 obtain ⟨v,w,e1,q1⟩:=q1
 subst e1
 obtain ⟨u1,u2,rfl,rv,rw'⟩:∃ u1 u2,us=[u1,u2]/\RelV v u1/\RelV w u2:=by
  cases r1 with
  | cons p q =>
   cases q with
   | cons p' q' =>
    cases q'
    exact ⟨_,_,rfl,p,p'⟩
 refine wpAny_newObj_type ?_ (by show 2<=sizeLine;decide)
 have I2:Inv X pins σ H1 { s1 with heap:=s1.heap.push { cls:=.type "tuple",data:=.seq [u1,u2].toArray } }:=I1.kept (t':=s1.toks) fun b o e=>Heap.get?_push_of_some _ e
 rw [hw]
 refine wpAny_bind (wpAny_pure ?_)
 show wpAny (model X.prog X.w) X.A (do rule "assign.swapped-stores";let items <- unpackItems (.ref s1.heap.objs.size) 2 none;assignInOrder [fun v=>bindName X.env y v,fun v=>bindName X.env x v] items.reverse;pure Flow.next) _ _ _
 refine wpAny_bind (wpAny_rule (wpAny_bind (unpackItems_tuple (items:=#[u1,u2]) (I.ok.hd hc) (IsTup.new s1.heap _) fun h' hx'=>?_)))
 have I3:=I2.kept (h':=h') (t':=s1.toks) fun b o e=>hx' b o (Nat.ne_of_lt (Heap.lt_size e)) e
 show wpAny _ _ (assignInOrder [fun v=>bindName X.env y v,fun v=>bindName X.env x v] [u2,u1] >>= fun _=>pure Flow.next) _ _ _
 refine wpAny_bind (assignInOrder_cons (wpAny_bindName (jb I3 hN hj (.inl hy) rw' (fun s2 I4=>?_) (.inr hy))))
 refine assignInOrder_cons (wpAny_bindName (jb I4 hN hi (.inl hx) rv (fun s3 I5=>assignInOrder_nil (wpAny_pure ?_)) (.inr hx)))
 rw [List.set_comm _ _ (Ne.symm hij)] at I5
 exact ⟨_,H1,I5,q1⟩
end
section
variable {X:Cx} {pos:Pos}
def BV (c:TT) (tb:TS):TS:=fun D σ H=>∃ W:Nat->St->Hp->Prop,(∃ m,W m σ H)/\∀ m σ H,W m σ H ->
 c σ H fun b H1=>if b=true then ∃ N:St->Hp->Prop,(∀ σ' H',N σ' H'->∃ m',m' < m/\W m' σ' H')/\tb { D with nx:=N,ct:=N,bk:=D.nx } σ H1 else D.nx σ H1
theorem yt {c:Expr} {body:List Stmt} {tc:TT} {tb:TS} (hp:PassesOwn (model X.prog X.w) X.A X.env X.xe) (hc:PT X c tc) (hb:PSs X body tb):PS X (.While c body [] pos) (BV tc tb):=by
 intro pins s σ H D I h
 obtain ⟨W,⟨m0,w0⟩,turn⟩:=h
 refine wpAny_While (codeAny_whileLoop (fun n s'=>∃ σ' H',Inv X pins σ' H' s'/\W n σ' H') ?_ m0 ⟨σ,H,I,w0⟩)
 rintro n s1 ⟨σ1,H1,I1,w1⟩
 refine wpAny_passesOwn hp (thn (hc pins s1 σ1 H1 _ I1 (turn n σ1 H1 w1)) fun b s2 ⟨H2,I2,q2⟩=>?_)
 cases b with
 | true =>
  obtain ⟨N,hN,q2⟩:=q2
  rw [if_pos rfl]
  refine wpAny_passesOwn hp (thn (hb pins s2 σ1 H2 _ I2 q2) fun f s3 q3=>?_)
  cases f with
  | next =>
   obtain ⟨σ3,H3,I3,n3⟩:=q3
   obtain ⟨m',hm,w3⟩:=hN σ3 H3 n3
   exact ⟨m',hm,σ3,H3,I3,w3⟩
  | cont =>
   obtain ⟨σ3,H3,I3,n3⟩:=q3
   obtain ⟨m',hm,w3⟩:=hN σ3 H3 n3
   exact ⟨m',hm,σ3,H3,I3,w3⟩
  | brk=>exact q3
  | ret v=>exact q3
 | false =>
  rw [if_neg Bool.false_ne_true]
  exact wpAny_execs_nil ⟨σ1,H2,I2,q2⟩
end
structure It where
 go:Nat->Hp->Prop
 yld:Nat->Hp->V->Hp->Prop
 stop:Nat->Hp->Prop
def jN (X:Cx) (pins:List (Addr×Obj)) (H:Hp) (b:Addr):Prop :=
 H b=none/\b ≠ X.env.locals/\b ∉ X.fs/\(b∈X.ex \/ X.s₀.heap.objs.size<=b)/\(∀ x c,X.env.cells.lookup x=some c->c ≠ b)/\∀ p∈X.pn++pins,p.1 ≠ b
theorem Inv.fpOk {X:Cx} {pins:List (Addr×Obj)} {σ:St} {H H':Hp} {s:Shared} {b:Addr} (I:Inv X pins σ H s) (hb:s.heap.objs.size<=b) (hn:H' b=none):jN X pins H' b:=by
 refine ⟨hn,Nat.ne_of_gt (Nat.lt_of_lt_of_le I.lt hb),I.nofs hb,.inr (Nat.le_trans I.sz hb),fun x c e z=>?_,fun p hp z=>?_⟩
 . obtain ⟨v,q⟩:=I.cell x c e
   exact absurd (Nat.lt_of_lt_of_le q.lt (by rw [z];exact hb)) (Nat.lt_irrefl _)
 . exact absurd (Nat.lt_of_lt_of_le (Heap.lt_size (I.pin p hp).1) (by rw [z];exact hb)) (Nat.lt_irrefl _)
structure ut (P:Program) (w:World) (K:PySem.W.Frag) (tg:Expr) (J:It) (fp:List Addr) (it:Addr) (tn:Nat->Heap->Prop):Prop where
 mem:it∈fp
 obj:∀ i h,tn i h->∀ b∈fp,∃ o,h.get? b=some o/\∀ v,o.data ≠ .cell v
 keep:∀ i h h',tn i h->(∀ b∈fp,∀ o,h.get? b=some o->h'.get? b=some o)->tn i h'
 item:∀ (X:Cx),X.prog=P->X.w=w->X.K=K->X.calm=true->∀ (i:Nat) (pins:List (Addr×Obj)) (s:Shared) (σ:St) (H:Hp) (E:Value->Shared->Prop),Inv X pins σ H s->(∀ b∈fp,jN X pins H b)->tn i s.heap->J.go i H ->
  wpAny (model P w) X.A (pyNext (.ref it)) (fun r s1=>∃ u,r=some u /\
   wpAny (model P w) X.A (letOwnedTupleGo tg (.ref it) u) (fun _ s2=>∃ x H',Inv X pins σ H' s2/\RelV x u/\J.yld i H x H'/\tn (i+1) s2.heap/\∀ b∈fp,H' b=none) E s1) E s
 done:∀ (X:Cx),X.prog=P->X.w=w->X.K=K->X.calm=true->∀ (i:Nat) (pins:List (Addr×Obj)) (s:Shared) (σ:St) (H:Hp) (E:Value->Shared->Prop),Inv X pins σ H s->(∀ b∈fp,jN X pins H b)->tn i s.heap->J.stop i H ->
  wpAny (model P w) X.A (pyNext (.ref it)) (fun r s1=>r=none/\Inv X pins σ H s1) E s
 self:∀ (A:Around) (i:Nat) (s:Shared) (Q:Value->Shared->Prop) (E:Value->Shared->Prop),tn i s.heap->Q (.ref it) s->wpAny (model P w) A (pyIter (.ref it)) Q E s
abbrev TI:=St->Hp->(It->Hp->Prop)->Prop
def PIE (X:Cx) (pins:List (Addr×Obj)) (σ:St) (tg:Expr) (R:It->Hp->Prop) (itv:Value) (s2:Shared):Prop :=
 ∃ (it:Addr) (fp:List Addr) (tn:Nat->Heap->Prop) (J:It) (H':Hp),itv=.ref it/\Inv X pins σ H' s2/\ut X.prog X.w X.K tg J fp it tn/\tn 0 s2.heap/\(∀ b∈fp,jN X pins H' b)/\R J H'
def PI (X:Cx) (tg iter:Expr) (wi:TI):Prop :=
 ∀ (pins:List (Addr×Obj)) (s:Shared) (σ:St) (H:Hp) (R:It->Hp->Prop),Inv X pins σ H s->wi σ H R ->
  wpAny (model X.prog X.w) X.A (eval iter X.env) (fun v s1=>wpAny (model X.prog X.w) X.A (pyIter v) (PIE X pins σ tg R) X.xe s1) X.xe s
theorem zu {M:Model} {A:Around} {E:Value->Shared->Prop} {s:Shared} {tg:Expr} {it:Addr} {u:Value} {o:Obj} {n:String} {vs:Array Value} {Q:Unit->Shared->Prop} (ho:s.heap.get? it=some o) (hc:o.cls=.type n) (hd:o.data=.fields vs)
 (hn:["enumerate","zip","dict_itemiterator","dict_reverseitemiterator","odict_iterator","itertools.zip_longest","itertools.pairwise"].contains n=false) (hQ:Q () s):wpAny M A (letOwnedTupleGo tg (.ref it) u) Q E s:=by
 unfold letOwnedTupleGo
 cases tg <;> first
  | exact wpAny_pure hQ
  | (cases u <;> first
   | exact wpAny_pure hQ
   | (refine wpAny_bind (wpAny_load ho ?_)
      rw [hc,hd]
      show wpAny M A (if (["enumerate","zip","dict_itemiterator","dict_reverseitemiterator","odict_iterator","itertools.zip_longest","itertools.pairwise"].contains n && vs[0]? == some (rawInt _))=true then _ else _) Q E s
      rw [if_neg (by intro h;rw [hn,Bool.false_and] at h;cases h)]
      exact wpAny_pure hQ))
def Itl (K:PySem.W.Frag) (a:Addr):It :=
 ⟨fun i H=>∃ xs x,SqL K H a xs/\xs[i]? = some x,fun i H x H'=>H'=H/\∀ xs,SqL K H a xs->xs[i]? = some x,fun i H=>∃ xs,SqL K H a xs/\xs.length<=i⟩
def Itt (K:PySem.W.Frag) (a:Addr):It :=
 ⟨fun i H=>∃ xs x,SqT K H a xs/\xs[i]? = some x,fun i H x H'=>H'=H/\∀ xs,SqT K H a xs->xs[i]? = some x,fun i H=>∃ xs,SqT K H a xs/\xs.length<=i⟩
def Itr (lo:Int) (n:Nat):It:=⟨fun i _=>i < n,fun i H x H'=>H'=H/\x=.int (lo+i),fun i _=>n<=i⟩
theorem wV {P:Program} {w:World} {K:PySem.W.Frag} {tg:Expr} (a it:Addr):ut P w K tg (Itl K a) [it] it (fun i h=>h.IsListIter it a i) where
 mem:=by simp
 obj:=fun i h st b hb=>by
  have e:b=it:=by simpa using hb
  subst e
  obtain ⟨o,e,c,d⟩:=st
  exact ⟨o,e,fun v z=>by rw [d] at z;cases z⟩
 keep:=fun i h h' st k=>st.at fun o e=>k it (by simp) o e
 item:=by
  intro X hP hw hK hc i pins s σ H E I hf st hg
  subst hP hw hK
  obtain ⟨xs,x,hq,hx⟩:=hg
  obtain ⟨its,rv,p,hz⟩:=I.list hq
  obtain ⟨u,hu,ru⟩:=rv.get hx
  obtain ⟨f0,f1,f2,f3,f4,f5⟩:=hf it (by simp)
  refine wpAny_pyNext_list_item st p.isList (x:=u) (by simpa using hu) fun h' st' sb=>?_
  have I1:Inv X pins σ H { s with heap:=h' }:=I.turned (t':=s.toks) (fun b o hb e=>(sb.2 b hb).trans e) f0 f1 f3 f4 f5
  obtain ⟨o,e,c,d⟩:=id st'
  exact ⟨u,rfl,zu (s:={ s with heap:=h' }) e c d (by decide) ⟨x,H,I1,ru,⟨rfl,fun ys hy=>by rw [I.list_inj hy hq];exact hx⟩,st',fun b hb=>(hf b hb).1⟩⟩
 done:=by
  intro X hP hw hK hc i pins s σ H E I hf st hg
  subst hP hw hK
  obtain ⟨xs,hq,hx⟩:=hg
  obtain ⟨its,rv,p,hz⟩:=I.list hq
  obtain ⟨f0,f1,f2,f3,f4,f5⟩:=hf it (by simp)
  have hl:=rv.length
  exact wpAny_pyNext_list_end (I.ok.hd hc) st p.isList (by simp;omega) fun h' eb=>⟨rfl,I.turned (t':=s.toks) (fun b o hb e=>eb b o hb e) f0 f1 f3 f4 f5⟩
 self:=fun _ _ _ _ _ st h=>wpAny_pyIter_listiter st h
theorem uw {P:Program} {w:World} {K:PySem.W.Frag} {tg:Expr} (a it:Addr):ut P w K tg (Itt K a) [it] it (fun i h=>h.IsTupleIter it a i) where
 mem:=by simp
 obj:=fun i h st b hb=>by
  have e:b=it:=by simpa using hb
  subst e
  obtain ⟨o,e,c,d⟩:=st
  exact ⟨o,e,fun v z=>by rw [d] at z;cases z⟩
 keep:=fun i h h' st k=>st.at fun o e=>k it (by simp) o e
 item:=by
  intro X hP hw hK hc i pins s σ H E I hf st hg
  subst hP hw hK
  obtain ⟨xs,x,hq,hx⟩:=hg
  obtain ⟨its,rv,p,hz⟩:=I.tuple hq
  obtain ⟨u,hu,ru⟩:=rv.get hx
  obtain ⟨f0,f1,f2,f3,f4,f5⟩:=hf it (by simp)
  refine wpAny_pyNext_tuple_item st (show s.heap.IsTuple a its.toArray from p) (x:=u) (by simpa using hu) fun h' st' sb=>?_
  have I1:Inv X pins σ H { s with heap:=h' }:=I.turned (t':=s.toks) (fun b o hb e=>(sb.2 b hb).trans e) f0 f1 f3 f4 f5
  obtain ⟨o,e,c,d⟩:=id st'
  exact ⟨u,rfl,zu (s:={ s with heap:=h' }) e c d (by decide) ⟨x,H,I1,ru,⟨rfl,fun ys hy=>by rw [I.tuple_inj hy hq];exact hx⟩,st',fun b hb=>(hf b hb).1⟩⟩
 done:=by
  intro X hP hw hK hc i pins s σ H E I hf st hg
  subst hP hw hK
  obtain ⟨xs,hq,hx⟩:=hg
  obtain ⟨its,rv,p,hz⟩:=I.tuple hq
  obtain ⟨f0,f1,f2,f3,f4,f5⟩:=hf it (by simp)
  have hl:=rv.length
  exact wpAny_pyNext_tuple_end (I.ok.hd hc) st (show s.heap.IsTuple a its.toArray from p) (by simp;omega) fun h' eb=>⟨rfl,I.turned (t':=s.toks) (fun b o hb e=>eb b o hb e) f0 f1 f3 f4 f5⟩
 self:=fun _ _ _ _ _ st h=>wpAny_pyIter_tupleiter st h
theorem ux {P:Program} {w:World} {K:PySem.W.Frag} {tg:Expr} (it:Addr) (lo:Int) (n:Nat):ut P w K tg (Itr lo n) [it] it (fun i h=>IsRangeIter h it (lo+(i:Nat)*1) ((n:Int) - (i:Nat)) 1) where
 mem:=by simp
 obj:=fun i h st b hb=>by
  have e:b=it:=by simpa using hb
  subst e
  exact ⟨_,st,fun v z=>by
   have z':Data.fields _=Data.cell v:=z
   cases z'⟩
 keep:=fun i h h' st k=>k it (by simp) _ st
 item:=by
  intro X hP hw hK hc i pins s σ H E I hf st hg
  subst hP hw hK
  obtain ⟨f0,f1,f2,f3,f4,f5⟩:=hf it (by simp)
  have W:=Walks.range (prog:=X.prog) (w:=X.w) (I.ok.hd hc) it lo 1 n
  refine W.item i s _ _ hg st fun v h' tk hv st' kk=>?_
  obtain ⟨t,rfl⟩:=hv
  have I1:Inv X pins σ H { s with heap:=h',toks:=tk }:=I.turned (fun b o hb e=>kk b o (by simpa using hb) e) f0 f1 f3 f4 f5
  refine ⟨_,rfl,zu (s:={ s with heap:=h',toks:=tk }) (n:="range_iterator") st' rfl rfl (by decide) ⟨.int (lo+i),H,I1,⟨t,?_⟩,⟨rfl,rfl⟩,st',fun b hb=>(hf b hb).1⟩⟩
  rw [Int.mul_one]
 done:=by
  intro X hP hw hK hc i pins s σ H E I hf st hg
  subst hP hw hK
  obtain ⟨f0,f1,f2,f3,f4,f5⟩:=hf it (by simp)
  exact wpAny_pyNext_range_end (I.ok.hd hc) st (by have:n<=i:=hg;omega) fun h' eb=>⟨rfl,I.turned (t':=s.toks) (fun b o hb e=>eb b o hb e) f0 f1 f3 f4 f5⟩
 self:=fun _ _ _ _ _ st h=>wpAny_pyIter_rangeiter st h
end L2
namespace L2
open PySem PySem.Spec PyProof.Rows
section
variable {X:Cx} {tg:Expr}
def Eu (K:PySem.W.Frag) (tl:TE):TI:=fun σ H R=>tl σ H fun x H1=>∃ a,x=.ref a/\(∃ xs,SqL K H1 a xs)/\R (Itl K a) H1
def E5 (K:PySem.W.Frag) (tl:TE):TI:=fun σ H R=>tl σ H fun x H1=>∃ a,x=.ref a/\(∃ xs,SqT K H1 a xs)/\R (Itt K a) H1
theorem vN {l:Expr} {tl:TE} (hl:PE X l tl):PI X tg l (Eu X.K tl):=by
 intro pins s σ H R I h
 refine thn (hl pins s σ H _ I h) fun v s1 ⟨x,H1,I1,r1,q1⟩=>?_
 obtain ⟨a,e,⟨xs,hq⟩,q⟩:=q1
 subst e
 cases r1
 obtain ⟨its,rv,p,hz⟩:=I1.list hq
 refine wpAny_pyIter_list p.isList ?_
 refine ⟨s1.heap.objs.size,[s1.heap.objs.size],_,_,H1,rfl,I1.kept (t':=s1.toks) fun b o e=>Heap.get?_push_of_some _ e,wV a _,⟨_,Heap.get?_push_size _ rfl,rfl,rfl⟩,fun b hb=>?_,q⟩
 have e:b=s1.heap.objs.size:=by simpa using hb
 subst e
 exact I1.fpOk (Nat.le_refl _) (I1.hok.fresh (Nat.le_refl _))
theorem Ck {l:Expr} {tl:TE} (hl:PE X l tl):PI X tg l (E5 X.K tl):=by
 intro pins s σ H R I h
 refine thn (hl pins s σ H _ I h) fun v s1 ⟨x,H1,I1,r1,q1⟩=>?_
 obtain ⟨a,e,⟨xs,hq⟩,q⟩:=q1
 subst e
 cases r1
 obtain ⟨its,rv,p,hz⟩:=I1.tuple hq
 refine wpAny_pyIter_tuple (show s1.heap.IsTuple a its.toArray from p) ?_
 refine ⟨s1.heap.objs.size,[s1.heap.objs.size],_,_,H1,rfl,I1.kept (t':=s1.toks) fun b o e=>Heap.get?_push_of_some _ e,uw a _,⟨_,Heap.get?_push_size _ rfl,rfl,rfl⟩,fun b hb=>?_,q⟩
 have e:b=s1.heap.objs.size:=by simpa using hb
 subst e
 exact I1.fpOk (Nat.le_refl _) (I1.hok.fresh (Nat.le_refl _))
theorem sW {pins:List (Addr×Obj)} {σ:St} {H:Hp} {s:Shared} {R:It->Hp->Prop} {E:Value->Shared->Prop} {lo hi:Int} {t u v:Tok} {tk:Nat} (I:Inv X pins σ H s) (h1:-(2 ^ 62)<=lo) (h2:lo < 2 ^ 62) (h3:-(2 ^ 62)<=hi) (h4:hi < 2 ^ 62)
 (q:R (Itr lo (hi - lo).toNat) H):wpAny (model X.prog X.w) X.A (pyIter (.ref s.heap.objs.size)) (PIE X pins σ tg R) E { s with heap:=s.heap.push { cls:=.type "range",data:=.fields #[.int lo t,.int hi u,.int 1 v] },toks:=tk }:=by
 refine wpAny_pyIter_range (IsRange.new ..) (small_one h1 h2 h3 h4) ?_
 have I1:Inv X pins σ H { s with heap:=s.heap.push { cls:=.type "range",data:=.fields #[.int lo t,.int hi u,.int 1 v] },toks:=tk }:=I.kept fun b o e=>Heap.get?_push_of_some _ e
 refine ⟨(s.heap.push { cls:=.type "range",data:=.fields #[.int lo t,.int hi u,.int 1 v] }).objs.size,[(s.heap.push { cls:=.type "range",data:=.fields #[.int lo t,.int hi u,.int 1 v] }).objs.size],_,_,H,rfl,
  I1.kept (t':=tk) fun b o e=>Heap.get?_push_of_some _ e,ux _ lo (hi - lo).toNat,?_,fun b hb=>?_,q⟩
 . have e1:lo+((0:Nat):Int)*1=lo:=by simp
   have e2:(((hi - lo).toNat:Nat):Int) - ((0:Nat):Int)=Builtin.Range.rangeSize lo hi 1:=by rw [rangeSize_one];split <;> omega
   show IsRangeIter _ _ (lo+((0:Nat):Int)*1) ((((hi - lo).toNat:Nat):Int) - ((0:Nat):Int)) 1
   rw [e1,e2]
   exact Heap.get?_push_size _ rfl
 . have e:b=(s.heap.push { cls:=.type "range",data:=.fields #[.int lo t,.int hi u,.int 1 v] }).objs.size:=by simpa using hb
   subst e
   exact I1.fpOk (Nat.le_refl _) (I1.hok.fresh (Nat.le_refl _))
def Et (ta:TA):TI:=fun σ H R=>ta σ H fun vs H1=>∃ j:Int,vs=[.int j]/\-(2 ^ 62)<=j/\j < 2 ^ 62/\R (Itr 0 j.toNat) H1
def Es (ta:TA):TI:=fun σ H R=>ta σ H fun vs H1=>∃ i j:Int,vs=[.int i,.int j]/\(-(2 ^ 62)<=i/\i < 2 ^ 62/\-(2 ^ 62)<=j/\j < 2 ^ 62)/\R (Itr i (j - i).toNat) H1
theorem pV {a:Expr} {ta:TA} {p pos:Pos} (hg:Gl X "range") (hm:X.mg "range" = none) (ha:PA X [a] ta) (hs:starEach [a] X.env=[(false,eval a X.env)]:=by rfl):PI X tg (.Call (.Name "range" p) [a] [] pos) (Et ta):=by
 intro pins s σ H R I h
 refine Call_ (ou I hg hm boot_range (PyProof.Rows.callWith_type1 (thn (ha pos pins s σ H _ I h) fun us s1 ⟨vs,H1,I1,r1,q1⟩=>?_) hs rfl))
 obtain ⟨j,e,q1,q2,q⟩:=q1
 subst e
 cases r1 with
 | cons r rr =>
  cases rr
  obtain ⟨t,rfl⟩:=r
  exact call_range_1 (sW I1 (by omega) (by omega) q1 q2 (by simpa using q))
theorem xh {a b:Expr} {ta:TA} {p pos:Pos} (hg:Gl X "range") (hm:X.mg "range" = none) (ha:PA X [a,b] ta) (hs:starEach [a,b] X.env=[(false,eval a X.env),(false,eval b X.env)]:=by rfl) (hs2:starEach [b] X.env=[(false,eval b X.env)]:=by rfl) :
 PI X tg (.Call (.Name "range" p) [a,b] [] pos) (Es ta):=by
 intro pins s σ H R I h
 refine Call_ (ou I hg hm boot_range (PyProof.Rows.callWith_type1 (thn (ha pos pins s σ H _ I h) fun us s1 ⟨vs,H1,I1,r1,q1⟩=>?_) (by rw [hs,hs2]) (by rw [hs2];rfl)))
 obtain ⟨i,j,e,⟨q1,q2,q3,q4⟩,q⟩:=q1
 subst e
 cases r1 with
 | cons r rr =>
  cases rr with
  | cons r' rr =>
   cases rr
   obtain ⟨t,rfl⟩:=r
   obtain ⟨t',rfl⟩:=r'
   exact call_range_2 (sW I1 q1 q2 q3 q4 q)
def EY (wi:TI) (g:TG) (tb:TS):TS:=fun D σ H=>wi σ H fun J H1=>∃ W:Nat->Nat->St->Hp->Prop,(∃ m,W 0 m σ H1)/\∀ i m σ H,W i m σ H ->
 (J.stop i H/\D.nx σ H) \/ (J.go i H/\∃ N:St->Hp->Prop,(∀ σ' H',N σ' H'->∃ m',m' < m/\W (i+1) m' σ' H')/\∀ x H',J.yld i H x H'->g x σ H' fun σ2 H2=>tb { D with nx:=N,ct:=N,bk:=D.nx } σ2 H2)
def rf (fp:List Addr) (h:Heap):List (Addr×Obj):=fp.filterMap fun b=>(h.get? b).map fun o=>(b,o)
theorem fS {fp:List Addr} {h:Heap} {b:Addr} {o:Obj} (hb:b∈fp) (e:h.get? b=some o):(b,o)∈rf fp h:=List.mem_filterMap.mpr ⟨b,hb,by rw [e];rfl⟩
theorem xq {fp:List Addr} {h:Heap} {p:Addr×Obj} (hp:p∈rf fp h):p.1∈fp/\h.get? p.1=some p.2:=by
 obtain ⟨b,hb,e⟩:=List.mem_filterMap.mp hp
 cases q:h.get? b with
 | none=>rw [q] at e;cases e
 | some o =>
  rw [q] at e
  have e':(b,o)=p:=Option.some.inj e
  subst e'
  exact ⟨hb,q⟩
theorem Inv.pinned {pins:List (Addr×Obj)} {σ:St} {H:Hp} {s:Shared} {fp:List Addr} (I:Inv X pins σ H s) (hf:∀ b∈fp,jN X pins H b) (ho:∀ b∈fp,∃ o,s.heap.get? b=some o/\∀ v,o.data ≠ .cell v):Inv X (pins++rf fp s.heap) σ H s :=
 I.pins_of fun p hp=>(Zp.mp hp).elim (fun z=>I.pin p (List.mem_append_right _ z)) fun z=>by
  obtain ⟨hb,e⟩:=xq z
  obtain ⟨f0,f1,f2,_⟩:=hf p.1 hb
  obtain ⟨o,e',d⟩:=ho p.1 hb
  rw [e] at e';cases e'
  exact ⟨e,f0,f1,f2,d⟩
theorem Inv.unpinned {pins pl:List (Addr×Obj)} {σ:St} {H:Hp} {s:Shared} (I:Inv X (pins++pl) σ H s):Inv X pins σ H s:=I.pins_of fun p hp=>I.pin p (List.mem_append_right _ (List.mem_append_left _ hp))
theorem uI {iter:Expr} {body:List Stmt} {wi:TI} {g:TG} {tb:TS} {pos:Pos} (hp:PassesOwn (model X.prog X.w) X.A X.env X.xe) (hc:X.calm=true) (hi:PI X tg iter wi) (hg:PG X tg g) (hb:PSs X body tb)
 (hs:∀ x,foldedSetIterable iter X.env x=pure x:=by intro _;rfl):PS X (.For tg iter body [] pos) (EY wi g tb):=by
 intro pins s σ H D I h
 refine wpAny_For (thn (hi pins s σ H _ I h) fun v s1 h1=>thn h1 fun itv s2 h2=>?_) hs
 obtain ⟨it,fp,tn,J,H2,e,I2,T,st2,f2,W,⟨m0,w0⟩,turn⟩:=h2
 subst e
 have stat:∀ {H':Hp},(∀ b∈fp,H' b=none)->∀ b∈fp,jN X pins H' b:=fun hn b hb=>⟨hn b hb,(f2 b hb).2⟩
 refine codeAny_forLoop_any (fun n s'=>∃ i σ' H',Inv X pins σ' H' s'/\tn i s'.heap/\(∀ b∈fp,H' b=none)/\W i n σ' H') ?_ m0 ⟨0,σ,H2,I2,st2,fun b hb=>(f2 b hb).1,w0⟩
 rintro n s3 ⟨i,σ3,H3,I3,st3,fr3,w3⟩
 rcases turn i n σ3 H3 w3 with ⟨stop,qn⟩ | ⟨go,N,hN,step⟩
 . refine wpAny_passesOwn hp (thn (T.done X rfl rfl rfl hc i pins s3 σ3 H3 X.xe I3 (stat fr3) st3 stop) fun r s4 ⟨hr,I4⟩=>?_)
   subst hr
   exact wpAny_execs_nil ⟨σ3,H3,I4,qn⟩
 . refine wpAny_passesOwn hp (thn (T.item X rfl rfl rfl hc i pins s3 σ3 H3 X.xe I3 (stat fr3) st3 go) fun r s4 ⟨u,hr,h4⟩=>?_)
   subst hr
   refine wpAny_passesOwn hp (thn h4 fun _ s5 ⟨x,H5,I5,r5,y5,st5,fr5⟩=>?_)
   have I5':=I5.pinned (stat fr5) (T.obj _ _ st5)
   refine wpAny_passesOwn hp (thn (hg _ s5 σ3 H5 x u _ I5' r5 (step x H5 y5)) fun _ s6 ⟨σ6,H6,I6,q6⟩=>?_)
   refine wpAny_passesOwn hp (thn (hb _ s6 σ6 H6 _ I6 q6) fun f s7 q7=>?_)
   have again:∀ {σ7:St} {H7:Hp},Inv X (pins++rf fp s5.heap) σ7 H7 s7->N σ7 H7->∃ m,m < n/\∃ i σ' H',Inv X pins σ' H' s7/\tn i s7.heap/\(∀ b∈fp,H' b=none)/\W i m σ' H':=fun {σ7 H7} I7 n7=>by
    obtain ⟨m',hm,w7⟩:=hN σ7 H7 n7
    refine ⟨m',hm,i+1,σ7,H7,I7.unpinned,T.keep _ _ _ st5 fun b hb o e=>(I7.pin (b,o) (List.mem_append_right _ (List.mem_append_right _ (fS hb e)))).1,fun b hb=>?_,w7⟩
    obtain ⟨o,e,d⟩:=T.obj _ _ st5 b hb
    exact (I7.pin (b,o) (List.mem_append_right _ (List.mem_append_right _ (fS hb e)))).2.1
   cases f with
   | next=>obtain ⟨σ7,H7,I7,n7⟩:=q7;exact again I7 n7
   | cont=>obtain ⟨σ7,H7,I7,n7⟩:=q7;exact again I7 n7
   | brk=>obtain ⟨σ7,H7,I7,q7⟩:=q7;exact ⟨σ7,H7,I7.unpinned,q7⟩
   | ret v=>obtain ⟨x7,σ7,H7,I7,r7,q7⟩:=q7;exact ⟨x7,σ7,H7,I7.unpinned,r7,q7⟩
end
end L2
namespace L2
open PySem PySem.Spec PyProof.Rows
abbrev R2:=V->V->Hp->VK->Prop
def OpR (X:Cx) (f:Value->Value->Sem Value) (r:R2):Prop :=
 ∀ (pins:List (Addr×Obj)) (s:Shared) (σ:St) (H:Hp) (x y:V) (v u:Value) (Q:VK),Inv X pins σ H s->RelV x v->RelV y u->r x y H Q ->
  wpAny (model X.prog X.w) X.A (f v u) (EP X pins σ Q) X.xe s
def UnR (X:Cx) (f:Value->Sem Value) (r:V->Hp->VK->Prop):Prop :=
 ∀ (pins:List (Addr×Obj)) (s:Shared) (σ:St) (H:Hp) (x:V) (v:Value) (Q:VK),Inv X pins σ H s->RelV x v->r x H Q ->
  wpAny (model X.prog X.w) X.A (f v) (EP X pins σ Q) X.xe s
def iD (X:Cx) (f:Value) (r:List V->Hp->VK->Prop):Prop :=
 ∀ (pins:List (Addr×Obj)) (s:Shared) (σ:St) (H:Hp) (xs:List V) (us:List Value) (Q:VK),Inv X pins σ H s->Vals xs us->r xs H Q ->
  wpAny (model X.prog X.w) X.A (call f us) (EP X pins σ Q) X.xe s
def tOp (r:R2) (ta tb:TE):TE:=fun σ H Q=>ta σ H fun x H1=>tb σ H1 fun y H2=>r x y H2 Q
def tUn (r:V->Hp->VK->Prop) (ta:TE):TE:=fun σ H Q=>ta σ H fun x H1=>r x H1 Q
def rI (C:Int->Int->Prop) (g:Int->Int->V):R2:=fun x y H Q=>∃ i j,x=.int i/\y=.int j/\C i j/\Q (g i j) H
def rI0 (g:Int->Int->V):R2:=fun x y H Q=>∃ i j,x=.int i/\y=.int j/\Q (g i j) H
def rU (g:Int->V):V->Hp->VK->Prop:=fun x H Q=>∃ i,x=.int i/\Q (g i) H
section
variable {X:Cx} {a b c:Expr} {ta tb tc:TE} {pos:Pos}
theorem Df (ha:PE X a ta) (hb:PE X b tb) {pins:List (Addr×Obj)} {s:Shared} {σ:St} {H:Hp} {R:V->V->Hp->Prop} (I:Inv X pins σ H s)
 (h:ta σ H fun x H1=>tb σ H1 fun y H2=>R x y H2) {Q:Value->Shared->Prop} {f:Value->Value->Sem Value}
 (hf:∀ v u s2 x y H2,Inv X pins σ H2 s2->RelV x v->RelV y u->R x y H2->wpAny (model X.prog X.w) X.A (f v u) Q X.xe s2) :
 wpAny (model X.prog X.w) X.A (eval a X.env) (fun v s₁=>wpAny (model X.prog X.w) X.A (eval b X.env) (fun u s₂=>wpAny (model X.prog X.w) X.A (f v u) Q X.xe s₂) X.xe s₁) X.xe s:=by
 refine thn (ha pins s σ H _ I h) fun v s1 ⟨x,H1,I1,r1,q1⟩=>?_
 refine thn (hb pins s1 σ H1 _ I1 q1) fun u s2 ⟨y,H2,I2,r2,q2⟩=>?_
 exact hf v u s2 x y H2 I2 r1 r2 q2
theorem BF {op:Operator} {r:R2} (ho:OpR X (binaryOp op) r) (ha:PE X a ta) (hb:PE X b tb):PE X (.BinOp a op b pos) (tOp r ta tb):=by
 intro pins s σ H Q I h
 exact wpAny_BinOp (Df ha hb I h fun v u s2 x y H2 I2 rx ry q=>ho pins s2 σ H2 x y v u Q I2 rx ry q)
theorem D3 {op:UnaryOp} {r:V->Hp->VK->Prop} (ho:UnR X (unaryOp op) r) (ha:PE X a ta):PE X (.UnaryOp op a pos) (tUn r ta):=by
 intro pins s σ H Q I h
 exact UnaryOp_ (thn (ha pins s σ H _ I h) fun v s1 ⟨x,H1,I1,r1,q1⟩=>ho pins s1 σ H1 x v Q I1 r1 q1)
theorem opI {f:Value->Value->Sem Value} {C:Int->Int->Prop} {g:Int->Int->Int}
 (rule:∀ (i j:Int) (t u:Tok) (s:Shared) (Q:Value->Shared->Prop) (E:Value->Shared->Prop),C i j->Q (.int (g i j) s.toks) { s with toks:=s.toks+1 }->wpAny (model X.prog X.w) X.A (f (.int i t) (.int j u)) Q E s) :
 OpR X f (rI C fun i j=>.int (g i j)):=by
 intro pins s σ H x y v u Q I rx ry h
 obtain ⟨i,j,rfl,rfl,hc,q⟩:=h
 obtain ⟨t,rfl⟩:=rx
 obtain ⟨t',rfl⟩:=ry
 exact rule i j t t' s _ _ hc ⟨.int (g i j),H,I.tok _,⟨_,rfl⟩,q⟩
theorem D6 {f:Value->Value->Sem Value} {g:Int->Int->Int}
 (rule:∀ (i j:Int) (t u:Tok) (s:Shared) (Q:Value->Shared->Prop) (E:Value->Shared->Prop),Q (.int (g i j) s.toks) { s with toks:=s.toks+1 }->wpAny (model X.prog X.w) X.A (f (.int i t) (.int j u)) Q E s) :
 OpR X f (rI0 fun i j=>.int (g i j)):=by
 intro pins s σ H x y v u Q I rx ry h
 obtain ⟨i,j,rfl,rfl,q⟩:=h
 obtain ⟨t,rfl⟩:=rx
 obtain ⟨t',rfl⟩:=ry
 exact rule i j t t' s _ _ ⟨.int (g i j),H,I.tok _,⟨_,rfl⟩,q⟩
theorem D7 {f:Value->Value->Sem Value} {g:Int->Int->Bool}
 (rule:∀ (i j:Int) (t u:Tok) (s:Shared) (Q:Value->Shared->Prop) (E:Value->Shared->Prop),Q (.bool (g i j)) s->wpAny (model X.prog X.w) X.A (f (.int i t) (.int j u)) Q E s) :
 OpR X f (rI0 fun i j=>.bl (g i j)):=by
 intro pins s σ H x y v u Q I rx ry h
 obtain ⟨i,j,rfl,rfl,q⟩:=h
 obtain ⟨t,rfl⟩:=rx
 obtain ⟨t',rfl⟩:=ry
 exact rule i j t t' s _ _ ⟨.bl (g i j),H,I,rfl,q⟩
def mL (i j:Int):Prop:=0<=j/\j<=1000000/\i.natAbs < 2 ^ 64
def CMul (i j:Int):Prop:=(-(2 ^ 64) < i/\i < 2 ^ 64) \/ (-(2 ^ 64) < j/\j < 2 ^ 64)
theorem CMul.ok {i j:Int} (h:CMul i j):IntMulOk i j:=by
 rcases h with ⟨h1,h2⟩ | ⟨h1,h2⟩
 . exact .of_left (intBits_le_64 h1 h2)
 . exact .of_right (intBits_le_64 h1 h2)
theorem op_add:OpR X (binaryOp .Add) (rI0 fun i j=>.int (i+j)):=D6 fun _ _ _ _ _ _ _ q=>add_int q
theorem CB:OpR X (binaryOp .Sub) (rI0 fun i j=>.int (i - j)):=D6 fun _ _ _ _ _ _ _ q=>sub_int q
theorem CF:OpR X (binaryOp .Mod) (rI (fun _ j=>0 < j) fun i j=>.int (i % j)):=opI fun i j _ _ _ _ _ hc q=>by
 have h1:(0:Int) < j:=hc
 exact mod_int' (by omega) (by rw [Int.fmod_eq_emod_of_nonneg i (by omega)];exact q)
theorem CC:OpR X (binaryOp .Pow) (rI mL fun i j=>.int (i ^ j.toNat)):=opI fun _ _ _ _ _ _ _ hc q=>pow_int_small hc.1 hc.2.1 hc.2.2 q
theorem unI {f:Value->Sem Value} {g:Int->Int}
 (rule:∀ (i:Int) (t:Tok) (s:Shared) (Q:Value->Shared->Prop) (E:Value->Shared->Prop),Q (.int (g i) s.toks) { s with toks:=s.toks+1 }->wpAny (model X.prog X.w) X.A (f (.int i t)) Q E s) :
 UnR X f (rU fun i=>.int (g i)):=by
 intro pins s σ H x v Q I rx h
 obtain ⟨i,rfl,q⟩:=h
 obtain ⟨t,rfl⟩:=rx
 exact rule i t s _ _ ⟨.int (g i),H,I.tok _,⟨_,rfl⟩,q⟩
theorem BU:UnR X (unaryOp .USub) (rU fun i=>.int (-i)):=unI fun _ _ _ _ _ q=>neg_int q
end
section
variable {X:Cx} {a b c:Expr} {ta tb tc:TE} {pos:Pos}
theorem zG {pins:List (Addr×Obj)} {σ:St} {H:Hp} {s:Shared} {Q:VK} {k k':Bool} (I:Inv X pins σ H s) (q:Q (.bl k) H) (e:k=k'):EP X pins σ Q (.bool k') s:=by
 subst e
 exact ⟨.bl k,H,I,rfl,q⟩
theorem BJ:OpR X (compareOp .Lt) (rI0 fun i j=>.bl (decide (i < j))):=D7 fun _ _ _ _ _ _ _ q=>lt_int q
theorem BK:OpR X (compareOp .Gt) (rI0 fun i j=>.bl (decide (j < i))):=D7 fun _ _ _ _ _ _ _ q=>gt_int q
theorem yO:OpR X (compareOp .Is) (fun x y H Q=>y=.non/\Q (.bl (decide (x=.non))) H):=by
 intro pins s σ H x y v u Q I rx ry h
 obtain ⟨rfl,q⟩:=h
 cases ry
 refine is_none_gen (zG I q ?_)
 cases x <;> first
  | (cases rx;rfl)
  | (obtain ⟨t,rfl⟩:=rx;rfl)
theorem vT:OpR X (compareOp .IsNot) (fun x y H Q=>y=.non/\Q (.bl (!decide (x=.non))) H):=by
 intro pins s σ H x y v u Q I rx ry h
 obtain ⟨rfl,q⟩:=h
 cases ry
 refine isnot_none_gen (zG I q ?_)
 cases x <;> first
  | (cases rx;rfl)
  | (obtain ⟨t,rfl⟩:=rx;rfl)
def Ep:HO->Bool
 | .lst _=>true
 | .ins _ _ _=>true
 | _=>false
theorem pY {pins:List (Addr×Obj)} {s:Shared} {σ:St} {H:Hp} {a:Addr} {o:HO} (I:Inv X pins σ H s) (h:H a=some o) (p:Ep o=true):∃ ob,s.heap.get? a=some ob/\ob.cls ≠ .type "tuple":=by
 cases o with
 | lst xs =>
  obtain ⟨_,its,n,_,e⟩:xs.length<=sizeLine/\∃ (its:List Value) (n:Nat),Vals xs its/\s.heap.get? a=some { cls:=.type "list",data:=.seq its.toArray n }:=I.hok a _ h
  exact ⟨_,e,(by show Value.type "list" ≠ .type "tuple";decide +kernel)⟩
 | ins C dx fs =>
  have x:=I.hok a _ h
  obtain ⟨_,_,_,e,_⟩:=x
  exact ⟨_,e,(by show Value.ref C ≠ .type "tuple";exact fun z=>by cases z)⟩
 | _=>exact absurd (show false=true from p) Bool.false_ne_true
theorem OpR.or {f:Value->Value->Sem Value} {r r':R2} (h:OpR X f r) (h':OpR X f r'):OpR X f (fun x y H Q=>r x y H Q \/ r' x y H Q):=by
 intro pins s σ H x y v u Q I rx ry q
 rcases q with q | q
 . exact h pins s σ H x y v u Q I rx ry q
 . exact h' pins s σ H x y v u Q I rx ry q
theorem eN (b:Expr) {op:CmpOp} (h:op ≠ .In:=by decide) (h2:op ≠ .NotIn:=by decide):behindInMarks op b=false:=by
 have e1:(op == CmpOp.In)=false:=by cases op <;> first | rfl | exact absurd rfl h
 have e2:(op == CmpOp.NotIn)=false:=by cases op <;> first | rfl | exact absurd rfl h2
 cases b <;> simp [behindInMarks,e1,e2]
theorem AD {op:CmpOp} {r:R2} (ho:OpR X (compareOp op) r) (ha:PE X a ta) (hb:PE X b tb) (hm:behindInMarks op b=false):PE X (.Compare a [op] [b] pos) (tOp r ta tb):=by
 intro pins s σ H Q I h
 exact wpAny_Compare1 (Df ha hb I h fun v u s2 x y H2 I2 rx ry q=>ho pins s2 σ H2 x y v u Q I2 rx ry q) hm
def Dw (t:TE):TT:=fun σ H Q=>t σ H fun x H'=>∃ k,x=.bl k/\Q k H'
theorem Ap {op:CmpOp} {r:R2} (ho:OpR X (compareOp op) r) (ha:PE X a ta) (hb:PE X b tb) (hm:behindInMarks op b=false):PT X (.Compare a [op] [b] pos) (Dw (tOp r ta tb)):=by
 intro pins s σ H Q I h
 refine wpAny_isTrue_Compare1 (thn (ha pins s σ H _ I h) fun v s1 ⟨x,H1,I1,r1,q1⟩=>thn (hb pins s1 σ H1 _ I1 q1) fun u s2 ⟨y,H2,I2,r2,q2⟩ =>
  thn (ho pins s2 σ H2 x y v u _ I2 r1 r2 q2) fun c s3 ⟨z,H3,I3,r3,k,e,q3⟩=>?_) hm
 subst e
 cases r3
 exact wpAny_truthy_bool ⟨H3,I3,q3⟩
theorem rF:(sizeLine:Nat) < 2 ^ 63:=by rw [sizeLine_eq];decide
theorem lT {x:V} {us:List Value} (r:Vals [x] us):∃ u,us=[u]/\RelV x u:=by
 cases r with
 | cons r1 r2=>cases r2;exact ⟨_,rfl,r1⟩
theorem Bx {x y:V} {us:List Value} (r:Vals [x,y] us):∃ u w',us=[u,w']/\RelV x u/\RelV y w':=by
 cases r with
 | cons r1 r2 =>
  cases r2 with
  | cons r3 r4=>cases r4;exact ⟨_,_,rfl,r1,r3⟩
theorem zV:iD X (.builtin "abs") (fun xs H Q=>∃ i,xs=[.int i]/\Q (.int (if i < 0 then -i else i)) H):=by
 intro pins s σ H xs us Q I r h
 obtain ⟨i,rfl,q⟩:=h
 obtain ⟨u,rfl,t,rfl⟩:=lT r
 exact call_abs_int fun u tk=>⟨.int (if i < 0 then -i else i),H,I.tok _,⟨_,rfl⟩,q⟩
theorem xK:iD X (.type "int") (fun xs H Q=>(∃ i,xs=[.int i]/\Q (.int i) H) \/ ∃ k,xs=[.bl k]/\Q (.int (if k then 1 else 0)) H):=by
 intro pins s σ H xs us Q I r h
 rcases h with ⟨i,rfl,q⟩ | ⟨k,rfl,q⟩
 . obtain ⟨u,rfl,t,rfl⟩:=lT r
   exact call_int_int ⟨.int i,H,I,⟨_,rfl⟩,q⟩
 . obtain ⟨u,rfl,r1⟩:=lT r
   cases r1
   exact call_int_bool ⟨.int (if k then 1 else 0),H,I.tok _,⟨_,rfl⟩,q⟩
end
end L2
namespace L2
open PySem PySem.Spec PyProof.Rows
section
variable {prog:Program} {w:World} {A:Around} {E:Value->Shared->Prop} {s:Shared} {K:PySem.W.Frag} {x dx C f:Addr} {mA:Str->Option Value} {name:Str} {v:Value}
end
theorem RelO.some_of {v:V} {o:Option Value} (r:RelO (some v) o):∃ u,o=some u/\RelV v u:=by
 cases o with
 | none=>exact (show False from r).elim
 | some u=>exact ⟨u,rfl,r⟩
section
variable {P:Program} {w:World} {H H':Hp} {h h':Heap} {a C dx:Addr} {fs fs':List (Str×V)}
end
section
variable {X:Cx} {pins:List (Addr×Obj)} {σ:St} {H:Hp} {s:Shared} {a C dx:Addr} {fs:List (Str×V)} {f:Str} {v:V} {A:Around} {E:Value->Shared->Prop}
end
section
variable {X:Cx} {o e value:Expr} {f:Str} {pos pos' tpos:Pos} {ta tv:TE}
end
section
variable {X:Cx} {pins:List (Addr×Obj)} {σ:St} {H:Hp} {s:Shared} {A:Around} {E:Value->Shared->Prop} {Q:Value->Shared->Prop} {c:Value} {b:Bool}
end
end L2
namespace L2
open PySem PySem.Spec PyProof.Rows
structure Room (k:Nat) (A:Around):Prop where
 hd:A.handled=none
 dp:A.depth+3*k+5 < recursionLimit
 un:A.units+16*k+200 < cLine
theorem Room.mono {j k:Nat} {A:Around} (r:Room k A) (h:j<=k):Room j A:=⟨r.hd,by have:=r.dp;omega,by have:=r.un;omega⟩
theorem Room.deeper {k:Nat} {A:Around} (r:Room (k+1) A) (env:Env):Room k (A.deeper env) :=
 ⟨r.hd,by have:=r.dp;show A.depth+1+3*k+5 < _;omega,by have:=r.un;show A.units+3+16*k+200 < _;omega⟩
theorem Room.depth {k:Nat} {A:Around} (r:Room k A):A.depth < recursionLimit:=by have:=r.dp;omega
theorem Room.units {k:Nat} {A:Around} (r:Room k A):A.units+64 < cLine:=by have:=r.un;omega
theorem Room.units0 {k:Nat} {A:Around} (r:Room k A):A.units < cLine:=by have:=r.un;omega
def BW:TA:=fun _ H Q=>Q [] H
def pC (ta:TE) (tr:TA):TA:=fun σ H Q=>ta σ H fun x H1=>tr σ H1 fun xs H2=>Q (x :: xs) H2
section
variable {X:Cx} {e:Expr} {es:List Expr} {te:TE} {t:TA} {pos:Pos}
theorem j9:PA X [] BW:=fun _ _ _ _ H Q I h=>Calls.spliced_nil ⟨[],H,I,.nil,h⟩
theorem fX (ha:PE X e te) (hr:PA X es t) (hs:starEach (e :: es) X.env=(false,eval e X.env) :: starEach es X.env:=by rfl):PA X (e :: es) (pC te t):=by
 intro pos pins s σ H Q I h
 rw [hs]
 show wpAny _ _ (spliced ((false,eval e X.env) :: backTo pos (starEach es X.env))) _ _ s
 refine Calls.spliced_cons (thn (ha pins s σ H _ I h) fun u s1 ⟨x,H1,I1,r1,q1⟩=>?_)
 exact thn (hr pos pins s1 σ H1 _ I1 q1) fun us s2 ⟨xs,H2,I2,r2,q2⟩=>⟨x :: xs,H2,I2,.cons r1 r2,q2⟩
def EQ (t:TA):TE:=fun σ H Q=>t σ H fun xs H1=>xs.length<=sizeLine/\∀ p,H1 p=none->Q (.ref p) (upd H1 p (.tup xs))
def EW (t:TA):TE:=fun σ H Q=>t σ H fun xs H1=>xs.length<=sizeLine/\∀ p,H1 p=none->Q (.ref p) (upd H1 p (.lst xs))
theorem yF {x1} (h:PA X es t):PE X (.Tuple es x1 pos) (EQ t):=by
 intro pins s σ H Q I hq
 refine wpAny_Tuple_spliced (thn (h pos pins s σ H _ I hq) fun us s1 ⟨xs,H1,I1,r,z,q⟩=>⟨by rw [<- r.length];exact z,?_⟩)
 have hf:H1 s1.heap.objs.size=none:=I1.hok.fresh (Nat.le_refl _)
 refine ⟨.ref s1.heap.objs.size,upd H1 s1.heap.objs.size (.tup xs),I1.laid (t':=s1.toks) (fun b u e=>Heap.get?_push_of_some _ e) (Nat.le_refl _) ?_,rfl,q _ hf⟩
 exact ⟨z,us,r,⟨_,Heap.get?_push_size _ rfl,rfl,_,rfl⟩⟩
theorem yG (h:PA X es t):PE X (.List es pos) (EW t):=by
 intro pins s σ H Q I hq
 refine wpAny_List_spliced (thn (h pos pins s σ H _ I hq) fun us s1 ⟨xs,H1,I1,r,z,q⟩=>⟨by rw [<- r.length];exact z,?_⟩)
 have hf:H1 s1.heap.objs.size=none:=I1.hok.fresh (Nat.le_refl _)
 refine ⟨.ref s1.heap.objs.size,upd H1 s1.heap.objs.size (.lst xs),I1.laid (t':=s1.toks) (fun b u e=>Heap.get?_push_of_some _ e) (Nat.le_refl _) ?_,rfl,q _ hf⟩
 exact ⟨z,us,0,r,Heap.get?_push_size _ rfl⟩
end
abbrev Sp:=List V->Hp->VK->XK->Prop
abbrev CXT:=List Env->Hp->Shared->XK->Value->Shared->Prop
structure xO (P:Program) (w:World) (K:PySem.W.Frag) (mg:Str->Option Value) (base:Heap) (A:Around) (outer:List Env) (s:Shared) (H:Hp):Prop where
 frames:A.frames=some outer
 mod:Mod K mg base
 bs:∀ b o,base.get? b=some o->s.heap.get? b=some o/\H b=none
 bsz:base.objs.size<=s.heap.objs.size
 funs:s.heap.FunFrames base outer
 frf:∀ b∈frs outer,H b=none
 hok:HOk P w H s.heap
 bare:AllBare s.gens
def CE (outer:List Env) (P:Program) (w:World) (H:Hp) (s:Shared) (Q:VK) (u:Value) (s':Shared):Prop :=
 ∃ v H',s'.os=s.os/\AllBare s'.gens/\Un (frs outer) [] H H' s.heap s'.heap/\HOk P w H' s'.heap/\RelV v u/\Q v H'
def CR (CX:CXT) (outer:List Env) (P:Program) (w:World) (H:Hp) (s:Shared) (Q:VK) (E:XK) (r:Result) (s':Shared):Prop :=
 match r with
 | .ok (.ret u)=>CE outer P w H s Q u s'
 | .ok _=>False
 | .error e=>CX outer H s E e s'
structure FnOk (P:Program) (w:World) (K:PySem.W.Frag) (mg:Str->Option Value) (base:Heap) (CX:CXT) (k:Nat) (f:Addr) (fd:FuncData) (ps:List Str) (sp:Sp):Prop where
 len:∀ vs H Q E,sp vs H Q E->vs.length=ps.length
 run:∀ (A:Around) (outer:List Env) (s:Shared) (H:Hp) (args:Args) (us:List Value) (vs:List V) (Q:VK) (E:XK),Room k A->xO P w K mg base A outer s H->BindsTo s fd args (ps.zip us)->Vals vs us->sp vs H Q E ->
  codeAny (model P w) A (.call (.ref f) args) (CR CX outer P w H s Q E) s
theorem FnOk.imp {P:Program} {w:World} {K:PySem.W.Frag} {mg:Str->Option Value} {base:Heap} {CX:CXT} {k:Nat} {f:Addr} {fd:FuncData} {ps:List Str} {sp sp':Sp} (F:FnOk P w K mg base CX k f fd ps sp)
 (h:∀ vs H Q E,sp' vs H Q E->sp vs H Q E):FnOk P w K mg base CX k f fd ps sp' :=
 ⟨fun vs H Q E q=>F.len vs H Q E (h _ _ _ _ q),fun A outer s H args us vs Q E hr he hb hv hs=>F.run A outer s H args us vs Q E hr he hb hv (h _ _ _ _ hs)⟩
section
variable {X:Cx} {pins:List (Addr×Obj)} {σ:St} {H:Hp} {s s':Shared}
theorem Inv.env0 (I:Inv X pins σ H s):xO X.prog X.w X.K X.mg X.base X.A X.stack s H :=
 ⟨I.ok.frames,I.ok.mod,I.bs,Nat.le_trans I.ok.bsz I.sz,I.stack,I.stkFree,I.hok,I.bare⟩
theorem Inv.after {Q:VK} {u:Value} (I:Inv X pins σ H s) (h:CE X.stack X.prog X.w H s Q u s'):EP X pins σ Q u s':=by
 obtain ⟨v,H',os,bare,un,hok,r,q⟩:=h
 obtain ⟨hh,g,d,t,os'⟩:=s'
 obtain rfl:os'=s.os:=os
 exact ⟨v,H',I.call (h':=hh) (g':=g) (d':=d) (t':=t) (ch:=[]) un hok bare (fun b z=>absurd z (by simp)),r,q⟩
end
def DE (sp:Sp) (dvs:List V) (E:XK) (t:TA):TE:=fun σ H Q=>t σ H fun vs H1=>sp (vs++dvs) H1 Q E
def Binds (K:PySem.W.Frag) (fd:FuncData) (ps:List Str) (ds:List Value):Prop :=
 ∀ (s:Shared) (us:List Value),K.In s.heap->(us++ds).length=ps.length->BindsTo s fd ⟨us,[]⟩ (ps.zip (us++ds))
theorem Binds.all {K:PySem.W.Frag} {fd:FuncData} {ps:List Str} (h:∀ us:List Value,us.length=ps.length->bindArgs fd ⟨us,[]⟩=pure (ps.zip us)):Binds K fd ps []:=fun s us _ hl=>by
 rw [List.append_nil] at hl ⊢
 exact .of_eq (h us hl)
def vg (CX:CXT) (X:Cx) (E:XK):Prop:=∀ (pins:List (Addr×Obj)) (σ:St) (H:Hp) (s:Shared) (e:Value) (s':Shared),Inv X pins σ H s->CX X.stack H s E e s'->X.xe e s'
section
variable {X:Cx} {CX:CXT} {k:Nat} {f C:Addr} {fd:FuncData} {ps:List Str} {sp:Sp} {dvs:List V} {ds:List Value} {E:XK} {x m:Str} {p pos apos:Pos} {e o:Expr} {es:List Expr} {ta:TE} {t:TA}
theorem B4 {pins:List (Addr×Obj)} {σ:St} {H:Hp} {s:Shared} {Q:VK} {us:List Value} {vs:List V} (F:FnOk X.prog X.w X.K X.mg X.base CX k f fd ps sp) (hr:Room k X.A) (hb:Binds X.K fd ps ds) (hd:Vals dvs ds) (hx:vg CX X E)
 (I:Inv X pins σ H s) (r:Vals vs us) (h:sp (vs++dvs) H Q E):wpAny (model X.prog X.w) X.A (call (.ref f) us) (EP X pins σ Q) X.xe s:=by
 have r2:Vals (vs++dvs) (us++ds):=r.append hd
 have hl:(us++ds).length=ps.length:=by rw [<- r2.length];exact F.len _ _ _ _ h
 refine wpAny_call (codeAny_mono (F.run X.A X.stack s H ⟨us,[]⟩ (us++ds) (vs++dvs) Q E hr I.env0 (hb s us I.kIn hl) r2 h) fun r s' hq=>?_)
 cases r with
 | error e=>exact hx pins σ H s e s' I hq
 | ok fl =>
  cases fl with
  | ret u=>exact I.after hq
  | next=>exact False.elim hq
  | brk=>exact False.elim hq
  | cont=>exact False.elim hq
theorem m3 (F:FnOk X.prog X.w X.K X.mg X.base CX k f fd ps sp) (hr:Room k X.A) (hg:Gl X x) (hm:X.mg x=some (.ref f)) (hk:PySem.W.keepIn X.K (.ref f)=true) (hb:Binds X.K fd ps ds) (hd:Vals dvs ds) (hx:vg CX X E)
 (ha:PA X (e :: es) t) (hdb:(x == ("__debug__":Str))=false:=by decide) (he:starEach (e :: es) X.env=(false,eval e X.env) :: starEach es X.env:=by rfl) (hpl:(backTo pos (starEach es X.env)).any (·.1)=false:=by rfl) :
 PE X (.Call (.Name x p) (e :: es) [] pos) (DE sp dvs E t):=by
 intro pins s σ H Q I h
 refine wpAny_Call_Name_kw (iN I hg hm ?_ hdb)
 refine PySem.W.callWith_K (h₀:=X.base) I.ok.mod.kin hk (thn (ha pos pins s σ H _ I h) fun us s1 ⟨vs,H1,I1,r,q⟩=>⟨I1.kIn,?_⟩) he hpl
 exact B4 F hr hb hd hx I1 r q
end
section
variable {X:Cx} {CX:CXT} {k:Nat} {f C:Addr} {fd:FuncData} {ps ks:List Str} {sp:Sp} {E:XK} {x m:Str} {p pos apos kpos:Pos} {e o:Expr} {es:List Expr} {kws:List Keyword} {te ta:TE} {t tk:TA} {nm:Option Str}
variable {g:List Value->List Value->List Value} {gV:List V->List V->List V}
end
structure aF (N P:List Str) (sc:Scope):Prop where
 kind:sc.kind=.function
 co:sc.isCoroutine=false
 gen:sc.isGenerator=false
 nd:N.Nodup
 pre:N.take P.length=P
 par:∀ x∈P,sc.names.lookup x=some .local \/ sc.names.lookup x=some .cell
 nofree:∀ y∈sc.names,y.2 ≠ .free
theorem qw {kindOf:Str->Option NameKind} {x:Str}:∀ {binds:List (Str×Value)} {m:Str->Option Value},(∀ v,(x,v) ∉ binds)->bindL kindOf binds m x=m x
 | [],_,_=>rfl
 | (n,v) :: r,m,h=>by
  unfold bindL
  rw [qw fun w hw=>h w (Zl _ hw)]
  split
  . have:x ≠ n:=by rintro rfl;exact h v Zk
    simp [this]
  . rfl
theorem qy {kindOf:Str->Option NameKind} {x:Str}:∀ {binds:List (Str×Value)} {m:Str->Option Value},(∀ v,(x,v) ∉ binds)->bindC kindOf binds m x=m x
 | [],_,_=>rfl
 | (n,v) :: r,m,h=>by
  unfold bindC
  rw [qy fun w hw=>h w (Zl _ hw)]
  split
  . rfl
  . have:x ≠ n:=by rintro rfl;exact h v Zk
    simp [this]
theorem qx {kindOf:Str->Option NameKind} {x:Str} {v:Value}:∀ {P:List Str} {vs:List Value} {i:Nat} {m:Str->Option Value},P.Nodup->P[i]? = some x->vs[i]? = some v->kindOf x=some .local ->
 bindL kindOf (P.zip vs) m x=some v
 | [],_,_,_,_,h,_,_=>by simp at h
 | _ :: _,[],_,_,_,_,h,_=>by simp at h
 | p :: P,w :: vs,0,m,nd,h1,h2,hk=>by
  simp at h1 h2;subst h1;subst h2
  show bindL kindOf ((p,w) :: P.zip vs) m p=_
  unfold bindL
  rw [qw fun v hv=>(List.nodup_cons.mp nd).1 (List.of_mem_zip hv).1,if_pos hk]
  simp
 | p :: P,w :: vs,i+1,m,nd,h1,h2,hk=>by
  show bindL kindOf ((p,w) :: P.zip vs) m x=_
  unfold bindL
  exact qx (i:=i) (List.nodup_cons.mp nd).2 (by simpa using h1) (by simpa using h2) hk
theorem qz {kindOf:Str->Option NameKind} {x:Str} {v:Value}:∀ {P:List Str} {vs:List Value} {i:Nat} {m:Str->Option Value},P.Nodup->P[i]? = some x->vs[i]? = some v->kindOf x ≠ some .local ->
 bindC kindOf (P.zip vs) m x=some v
 | [],_,_,_,_,h,_,_=>by simp at h
 | _ :: _,[],_,_,_,_,h,_=>by simp at h
 | p :: P,w :: vs,0,m,nd,h1,h2,hk=>by
  simp at h1 h2;subst h1;subst h2
  show bindC kindOf ((p,w) :: P.zip vs) m p=_
  unfold bindC
  rw [qy fun v hv=>(List.nodup_cons.mp nd).1 (List.of_mem_zip hv).1,if_neg hk]
  simp
 | p :: P,w :: vs,i+1,m,nd,h1,h2,hk=>by
  show bindC kindOf ((p,w) :: P.zip vs) m x=_
  unfold bindC
  exact qz (i:=i) (List.nodup_cons.mp nd).2 (by simpa using h1) (by simpa using h2) hk
def start (N:List Str) (vs:List V):St:=vs.map some++List.replicate (N.length - vs.length) none
def gj (CX:CXT) (P:Program) (w:World) (K:PySem.W.Frag) (mg:Str->Option Value) (base:Heap) (N:List Str) (qual:Str) (scope:Scope) (f:Addr) (cd:Value) (A:Around) (outer:List Env) (s:Shared) (H:Hp) (E:XK):Cx where
 prog:=P
 w:=w
 K:=K
 mg:=mg
 base:=base
 A:=A.deeper (envOfC qual scope s.heap.objs.size f cd)
 N:=N
 s₀:=s
 H₀:=H
 env:=envOfC qual scope s.heap.objs.size f cd
 outer:=outer
 stack:=envOfC qual scope s.heap.objs.size f cd :: outer
 ex:=[]
 calm:=true
 fn:=fun _=>true
 pn:=[]
 xe:=fun e s'=>wpAny (model P w) (A.deeper (envOfC qual scope s.heap.objs.size f cd)) (leaving (envOfC qual scope s.heap.objs.size f cd) e) (fun _ s''=>CX outer H s E e s'') (fun e' s''=>CX outer H s E e' s'') s'
theorem uo {sc:Scope} {n:Nat} {x:Str} (h:sc.names.lookup x=some .cell):∃ c,(cellsFrom n sc.names []).lookup x=some c:=by
 have q:=PySem.W.cellsFrom_some sc.names n [] (.inl h)
 exact Option.isSome_iff_exists.mp q
theorem qj {CX:CXT} {P:Program} {w:World} {K:PySem.W.Frag} {mg:Str->Option Value} {base:Heap} {N ps:List Str} {qual:Str} {scope:Scope} {f:Addr} {cd:Value} {A:Around} {outer:List Env} {s s1:Shared} {H:Hp} {E:XK} {us:List Value} {vs:List V}
 (S:aF N ps scope) (hd:A.handled=none) (e0:xO P w K mg base A outer s H) (hl:vs.length=ps.length) (r:Vals vs us)
 (x:InCallC s s.heap.objs.size (bindL (envOfC qual scope s.heap.objs.size f cd).kindOf (ps.zip us) fun _=>none) (cellsFrom (s.heap.objs.size+1) scope.names []) (bindC (envOfC qual scope s.heap.objs.size f cd).kindOf (ps.zip us) fun _=>none) s1) :
 Inv (gj CX P w K mg base N qual scope f cd A outer s H E) [] (start N vs) H s1:=by
 have hpl:ps.length<=N.length:=by have:=congrArg List.length S.pre;rw [List.length_take] at this;omega
 obtain ⟨h1,tk,rfl,hk⟩:=x.done
 have noA:∀ b:Addr,b ∉ (gj CX P w K mg base N qual scope f cd A outer s H E).ex:=fun b z=>absurd (show b∈([]:List Addr) from z) (by simp)
 refine ⟨⟨e0.mod,S.kind,rfl,rfl,Nat.le_refl _,fun y z c h1 h2=>?_,fun y hy=>?_,fun y c _ h=>?_,fun _=>hd,Around.frames_deeper e0.frames,.inr ⟨rfl,rfl⟩,fun b z=>absurd z (noA b),e0.bs,e0.bsz,fun b _ _=>noA b,fun b z=>absurd z (noA b),e0.funs,e0.frf⟩,
  rfl,e0.bare,Un.kept hk,⟨_,x.toInCall.ns,fun i y v h1 h2 h3=>?_⟩,fun y c h=>⟨_,x.cell y c h⟩,e0.hok.fresh (Nat.le_refl _),fun y c h=>?_,fun p hp=>absurd (show p∈([]:List (Addr×Obj)) from hp) (by simp),e0.hok.kept hk,?_⟩
 . exact name_of_addr x.apart (PySem.mem_of_lookup h1) (PySem.mem_of_lookup h2)
 . have hy:scope.names.lookup y=some .cell \/ scope.names.lookup y=some .free:=hy
   rcases hy with hy | hy
   . exact uo hy
   . exact absurd rfl (S.nofree _ (PySem.mem_of_lookup hy))
 . exact Nat.le_of_lt (x.above y c (PySem.mem_of_lookup h))
 . have hi:i < vs.length:=by
    unfold start at h2
    by_cases hi:i < vs.length
    . exact hi
    . rw [List.getElem?_append_right (by simpa using hi)] at h2
      rw [List.getElem?_replicate] at h2
      split at h2 <;> cases h2
   have ha:vs[i]? = some v:=by
    unfold start at h2
    rw [List.getElem?_append_left (by simpa using hi),List.getElem?_map] at h2
    cases e:vs[i]? with
    | none=>rw [e] at h2;cases h2
    | some a=>rw [e] at h2;cases h2;rfl
   obtain ⟨u,hu,rv⟩:=r.get ha
   have hp:ps[i]? = some y:=by
    rw [<- S.pre,List.getElem?_take_of_lt (by omega)];exact h1
   have ndP:ps.Nodup:=by rw [<- S.pre];exact S.nd.sublist (List.take_sublist _ _)
   refine ⟨u,rv,?_⟩
   rcases S.par y (List.mem_of_getElem? hp) with k | k
   . exact .inl ⟨k,qx ndP hp hu k⟩
   . obtain ⟨c,e⟩:=uo (n:=s.heap.objs.size+1) k
     refine .inr ⟨.inl k,c,e,?_⟩
     have q:=x.cell y c e
     rw [qz ndP hp hu (by show scope.names.lookup y ≠ _;rw [k];decide)] at q
     exact q
 . exact e0.hok.fresh (Nat.le_of_lt (x.above y c (PySem.mem_of_lookup h)))
 . unfold start
   show _=N.length
   rw [Zh,Zi,List.length_replicate]
   omega
theorem zE {CX:CXT} {P:Program} {w:World} {K:PySem.W.Frag} {mg:Str->Option Value} {base:Heap} {k:Nat} {f:Addr} {name qual:Str} {params:Arguments} {body:List Stmt} {scope:Scope} {dV kV doc pm cdv ct oc:Value} {an od:Option Addr}
 {osl:Array (Option Value)} {N ps:List Str} {sp:Sp} (lk:K.lookup f=some ⟨oc,od,.func (PySem.W.fnOf name qual params body scope dV kV doc pm an cdv ct),osl⟩) (hcd:PySem.W.codeIn K cdv qual=true) (S:aF N ps scope)
 (len:∀ vs H Q E,sp vs H Q E->vs.length=ps.length)
 (hbody:∀ (A:Around) (outer:List Env) (s:Shared) (H:Hp) (vs:List V) (Q:VK) (E:XK),Room k (A.deeper (envOfC qual scope s.heap.objs.size f cdv))->sp vs H Q E ->
  ∃ t,PSs (gj CX P w K mg base N qual scope f cdv A outer s H E) body t/\t { nx:=fun _ H'=>Q .non H',rt:=Q } (start N vs) H) :
 FnOk P w K mg base CX (k+1) f (PySem.W.fnOf name qual params body scope dV kV doc pm an cdv ct) ps sp:=by
 refine ⟨len,fun A outer s H args us vs Q E hr e0 hb r hsp=>?_⟩
 have hl:=len _ _ _ _ hsp
 have KX:K.In s.heap:=e0.mod.kin.keeps fun b o e=>(e0.bs b o e).1
 have lim:s.heap.NoLimit:=e0.mod.nolimit.keeps fun b o e=>(e0.bs b o e).1
 have hkind:∀ y∈ps.zip us,scope.names.lookup y.1=some .local \/ (scope.names.lookup y.1=some .cell/\((cellsFrom (s.heap.objs.size+1) scope.names []).lookup y.1).isSome=true):=fun ⟨n,v⟩ hy=>by
  rcases S.par n (List.of_mem_zip hy).1 with q | q
  . exact .inl q
  . exact .inr ⟨q,PySem.W.cellsFrom_some _ _ _ (.inl q)⟩
 refine codeAny_call_function hr.depth (KX _ _ lk) rfl S.co S.gen rfl (PySem.W.codeRec_of KX hcd) (hb _ _ _ _ ?_)
 refine wpAny_newFunctionEnv_cells S.kind hkind fun env he s1 x=>?_
 subst he
 refine ⟨lim.keeps x.toInCall.keep,codeAny_func ?_⟩
 obtain ⟨t,ht,hq⟩:=hbody A outer s H vs Q E (hr.deeper _) hsp
 have I:Inv (gj CX P w K mg base N qual scope f cdv A outer s H E) [] (start N vs) H s1:=qj S hr.hd e0 hl r x
 refine wpAny_mono (ht [] s1 (start N vs) H _ I hq) (fun fl s' hs=>?_) fun e s' hs=>hs
 have fin:∀ {σ':St} {H':Hp} {v:V} {u:Value},Inv (gj CX P w K mg base N qual scope f cdv A outer s H E) [] σ' H' s'->RelV v u->Q v H'->CE outer P w H s Q u s' :=
  fun {σ' H' v u} J rv q=>⟨v,H',J.os,J.bare,J.base,J.hok,rv,q⟩
 cases fl with
 | ret u =>
  obtain ⟨v,σ',H',J,rv,q⟩:=hs
  exact fin J rv q
 | next =>
  obtain ⟨σ',H',J,q⟩:=hs
  exact fin (v:=V.non) (u:=Value.none) J rfl q
 | brk =>
  obtain ⟨_,_,_,q⟩:=hs
  exact False.elim q
 | cont =>
  obtain ⟨_,_,_,q⟩:=hs
  exact False.elim q
end L2
namespace L2
open PySem PySem.Spec PyProof.Rows
section
variable {X:Cx} {x:Str} {p pos:Pos} {e:Expr} {es:List Expr} {t:TA} {id T:String} {r:List V->Hp->VK->Prop}
def tCB (r:List V->Hp->VK->Prop) (t:TA):TE:=fun σ H Q=>t σ H fun vs H1=>r vs H1 Q
theorem yH (hc:iD X (.builtin id) r) (hg:Gl X x) (hm:X.mg x=none) (hv:bootBuiltins x=some (.builtin id)) (ha:PA X (e :: es) t) (hn:x ≠ "__name__":=by decide) (hdb:(x == ("__debug__":Str))=false:=by decide)
 (he:starEach (e :: es) X.env=(false,eval e X.env) :: starEach es X.env:=by rfl) (hpl:(backTo pos (starEach es X.env)).any (·.1)=false:=by rfl):PE X (.Call (.Name x p) (e :: es) [] pos) (tCB r t):=by
 intro pins s σ H Q I h
 refine wpAny_Call_Name_kw (ou I hg hm hv ?_ hn hdb)
 exact PyProof.Rows.callWith_builtin1 (thn (ha pos pins s σ H _ I h) fun us s1 ⟨vs,H1,I1,r1,q1⟩=>hc pins s1 σ H1 vs us Q I1 r1 q1) he hpl
theorem lC (hc:iD X (.type T) r) (hg:Gl X x) (hm:X.mg x=none) (hv:bootBuiltins x=some (.type T)) (ha:PA X (e :: es) t) (hn:x ≠ "__name__":=by decide) (hdb:(x == ("__debug__":Str))=false:=by decide)
 (he:starEach (e :: es) X.env=(false,eval e X.env) :: starEach es X.env:=by rfl) (hpl:(backTo pos (starEach es X.env)).any (·.1)=false:=by rfl):PE X (.Call (.Name x p) (e :: es) [] pos) (tCB r t):=by
 intro pins s σ H Q I h
 refine wpAny_Call_Name_kw (ou I hg hm hv ?_ hn hdb)
 exact PyProof.Rows.callWith_type1 (thn (ha pos pins s σ H _ I h) fun us s1 ⟨vs,H1,I1,r1,q1⟩=>hc pins s1 σ H1 vs us Q I1 r1 q1) he hpl
end
end L2
namespace HT
open PySem PyProof.Rows
section
open PySem.SeqAt
open PySem.AutoSeq1 (wpAny_loadPart')
open PySem.MeetsSeq PySem.MeetsSeq2 PySem.MeetsSeq3
end
section
variable {prog:Program} {w:World} {A:Around} {E:Value->Shared->Prop} {s:Shared}
end
end HT
namespace L2
open PySem PySem.Spec PyProof.Rows
abbrev TO:=St->Hp->(Option Int->Hp->Prop)->Prop
section
variable {X:Cx} {e:Expr} {te:TE} {lo hi:Option Expr} {tl th:TO} {pos p2:Pos}
end
end L2
namespace L2
open PySem PySem.Spec PyProof.Rows
def ixN (n:Nat) (i:Int):Option Nat:=if 0<=i then (if i < n then some i.toNat else none) else if -(n:Int)<=i then some (i+n).toNat else none
def atI {α:Type} (xs:List α) (i:Int):Option α:=(ixN xs.length i).bind fun j=>xs[j]?
theorem m7 {n:Nat} {i:Int} {j:Nat} (h:ixN n i=some j):seqIndex? i n=some j/\j < n/\-(n:Int)<=i/\i < n:=by
 unfold ixN at h
 by_cases h0:0<=i
 . rw [if_pos h0] at h
   by_cases h1:i < n
   . rw [if_pos h1] at h
     have e:i.toNat=j:=Option.some.inj h
     exact ⟨by rw [seqIndex_of h0 h1,e],by omega,by omega,h1⟩
   . rw [if_neg h1] at h;cases h
 . rw [if_neg h0] at h
   by_cases h1:-(n:Int)<=i
   . rw [if_pos h1] at h
     have e:(i+n).toNat=j:=Option.some.inj h
     exact ⟨by rw [seqIndex_neg (by omega) h1,e],by omega,h1,by omega⟩
   . rw [if_neg h1] at h;cases h
theorem wM {α:Type} {xs:List α} {i:Int} {v:α} (h:atI xs i=some v):∃ j,seqIndex? i xs.length=some j/\xs[j]? = some v/\j < xs.length/\-(xs.length:Int)<=i/\i < xs.length:=by
 unfold atI at h
 cases e:ixN xs.length i with
 | none=>rw [e] at h;cases h
 | some j =>
  rw [e] at h
  obtain ⟨h1,h2,h3,h4⟩:=m7 e
  exact ⟨j,h1,h,h2,h3,h4⟩
theorem atI_nat {α:Type} {xs:List α} {j:Nat} {v:α} (h:xs[j]? = some v):atI xs (j:Int)=some v:=by
 have hj:j < xs.length:=(List.getElem?_eq_some_iff.mp h).1
 have e:ixN xs.length (j:Int)=some j:=by
  unfold ixN
  rw [if_pos (by omega),if_pos (by omega)];simp
 unfold atI;rw [e];exact h
def nz (b:Expr):Prop:=∀ o i,subscripted b false o i=operate [o,i] (getItem o i)
def IxR (X:Cx) (r:R2):Prop :=
 ∀ (value slice:Expr) (pins:List (Addr×Obj)) (s:Shared) (σ:St) (H:Hp) (x y:V) (v u:Value) (Q:VK),Inv X pins σ H s->RelV x v->RelV y u->r x y H Q ->
  subscripted slice false v u=operate [v,u] (getItem v u)->wpAny (model X.prog X.w) X.A (subscriptTail value slice v u) (EP X pins σ Q) X.xe s
def MtR (X:Cx) (id:String) (r:V->List V->Hp->VK->Prop):Prop :=
 ∀ (pins:List (Addr×Obj)) (s:Shared) (σ:St) (H:Hp) (x:V) (xs:List V) (v:Value) (us:List Value) (Q:VK),Inv X pins σ H s->RelV x v->Vals xs us->r x xs H Q ->
  wpAny (model X.prog X.w) X.A (call (.builtin id) (v :: us)) (EP X pins σ Q) X.xe s
section
variable {X:Cx} {a b:Expr} {ta tb:TE} {pos:Pos}
theorem IxR.or {r r':R2} (h:IxR X r) (h':IxR X r'):IxR X (fun x y H Q=>r x y H Q \/ r' x y H Q):=by
 intro value slice pins s σ H x y v u Q I rx ry q hs
 rcases q with q | q
 . exact h value slice pins s σ H x y v u Q I rx ry q hs
 . exact h' value slice pins s σ H x y v u Q I rx ry q hs
theorem jU {r:R2} (hr:IxR X r) (ha:PE X a ta) (hb:PE X b tb) (hs:nz b):PE X (.Subscript a b pos) (tOp r ta tb):=by
 intro pins s σ H Q I h
 exact Subscript_ (Df ha hb I h fun v u s2 x y H2 I2 rx ry q=>hr a b pins s2 σ H2 x y v u Q I2 rx ry q (hs _ _))
def xc (K:PySem.W.Frag):R2:=fun x y H Q=>∃ p xs i v,x=.ref p/\y=.int i/\SqL K H p xs/\atI xs i=some v/\Q v H
def DN (K:PySem.W.Frag):R2:=fun x y H Q=>∃ p xs i v,x=.ref p/\y=.int i/\SqT K H p xs/\atI xs i=some v/\Q v H
theorem ix_list:IxR X (xc X.K):=by
 intro value slice pins s σ H x y v u Q I rx ry h hs
 obtain ⟨p,xs,i,z,rfl,rfl,hq,he,q⟩:=h
 cases rx
 obtain ⟨t,rfl⟩:=ry
 obtain ⟨its,r,pl,hz⟩:=I.list hq
 obtain ⟨j,h1,h2,h3,h4,h5⟩:=wM he
 obtain ⟨w,ew,rw'⟩:=r.get h2
 have hl:=r.length
 have hn:=rF
 have fin:EP X pins σ Q w s:=⟨z,H,I,rw',q⟩
 by_cases h0:0<=i
 . have hj:i.toNat=j:=by
    rw [seqIndex_of h0 h5] at h1
    exact Option.some.inj h1
   exact item_listR pl.isList h0 (by omega) (by rw [hj];simpa using ew) fin hs
 . have hj:(i+(its.toArray.size:Int)).toNat=j:=by
    rw [seqIndex_neg (by omega) h4] at h1
    rw [List.size_toArray,<- hl]
    exact Option.some.inj h1
   exact subscriptTail_builtinR (x:=w) pl.isList.typeIs slot_list_getitem.lookup
    (wpAny_getItem_list_neg (Q:=fun r s'=>r=w/\EP X pins σ Q r s') pl.isList (by omega) (by rw [List.size_toArray] <;> omega) (by omega) (by rw [hj];simpa using ew) ⟨rfl,fin⟩) hs
theorem zn:IxR X (DN X.K):=by
 intro value slice pins s σ H x y v u Q I rx ry h hs
 obtain ⟨p,xs,i,z,rfl,rfl,hq,he,q⟩:=h
 cases rx
 obtain ⟨t,rfl⟩:=ry
 obtain ⟨its,r,pl,hz⟩:=I.tuple hq
 obtain ⟨j,h1,h2,h3,h4,h5⟩:=wM he
 obtain ⟨w,ew,rw'⟩:=r.get h2
 have hl:=r.length
 have hn:=rF
 have fin:EP X pins σ Q w s:=⟨z,H,I,rw',q⟩
 exact subscriptTail_builtinR (x:=w) pl.typeIs slot_tuple_getitem.lookup
  (getItem_tuple (j:=j) (Q:=fun r s'=>r=w/\EP X pins σ Q r s') pl (by omega) (by omega) (by rw [List.size_toArray,<- hl];exact h1) (by simpa using ew) ⟨rfl,fin⟩) hs
theorem uQ (its:List Value) (n j:Nat) (u:Value):Obj.mapSeq (·.setIfInBounds j u) { cls:=.type "list",data:=.seq its.toArray n }={ cls:=.type "list",data:=.seq (its.set j u).toArray n }:=by
 simp [Obj.mapSeq]
theorem Inv.lst {pins:List (Addr×Obj)} {σ:St} {H:Hp} {s:Shared} {p:Addr} {xs:List V} (I:Inv X pins σ H s) (h:H p=some (.lst xs)) :
 ∃ (its:List Value) (n:Nat),Vals xs its/\s.heap.get? p=some { cls:=.type "list",data:=.seq its.toArray n }/\xs.length<=sizeLine:=by
 obtain ⟨z,its,n,r,e⟩:=I.hok p _ h
 exact ⟨its,n,r,e,z⟩
theorem Inv.lstUpd {pins:List (Addr×Obj)} {σ:St} {H:Hp} {s:Shared} {p:Addr} {xs ys:List V} {its its':List Value} {n n':Nat} {f:Obj->Obj} (I:Inv X pins σ H s) (h:H p=some (.lst xs))
 (ho:s.heap.get? p=some { cls:=.type "list",data:=.seq its.toArray n }) (hf:f { cls:=.type "list",data:=.seq its.toArray n }={ cls:=.type "list",data:=.seq its'.toArray n' }) (r:Vals ys its') (hz:ys.length<=sizeLine) (t:Nat) :
 Inv X pins σ (upd H p (.lst ys)) { s with heap:=s.heap.update p f,toks:=t }:=by
 have e:(s.heap.update p f).get? p=some { cls:=.type "list",data:=.seq its'.toArray n' }:=by
  rw [Heap.get?_update_self f ho (by rw [hf] <;> rfl),hf]
 refine I.write (x:=p) (e:=p) (by rw [h];trivial) (.inl rfl) (fun b u hb q=>(Heap.get?_update_other _ _ (Ne.symm hb)).trans q) ⟨_,e⟩ ?_
 exact ⟨hz,its',n',r,e⟩
def vF:V->V->V->Hp->(Hp->Prop)->Prop:=fun o i v H Q=>∃ p xs k j,o=.ref p/\i=.int k/\H p=some (.lst xs)/\ixN xs.length k=some j/\Q (upd H p (.lst (xs.set j v)))
theorem ij:EJ X vF:=by
 intro pins s σ H o i v ov iv u Q I ro ri rv h
 obtain ⟨p,xs,k,j,rfl,rfl,hp,hj,q⟩:=h
 cases ro
 obtain ⟨t,rfl⟩:=ri
 obtain ⟨its,n,r,ho,hz⟩:=I.lst hp
 obtain ⟨h1,h2,h3,h4⟩:=m7 hj
 have hl:=r.length
 have hn:=rF
 have I':Inv X pins σ (upd H p (.lst (xs.set j v))) { s with heap:=s.heap.update p (Obj.mapSeq (·.setIfInBounds j u)) } :=
  I.lstUpd hp ho (uQ its n j u) (r.set rv j) (by rw [List.length_set];exact hz) s.toks
 by_cases h0:0<=k
 . have hk:k.toNat=j:=by
    rw [seqIndex_of h0 h4] at h1
    exact Option.some.inj h1
   exact PySem.W.ki_setAt ho h0 (by omega) (by rw [List.size_toArray,<- hl];exact h4) (by rw [hk];exact ⟨_,I',q⟩)
 . have hk:(k+(its.toArray.size:Int)).toNat=j:=by
    rw [seqIndex_neg (by omega) h3] at h1
    rw [List.size_toArray,<- hl]
    exact Option.some.inj h1
   exact PySem.W.ki_setBack ho (by omega) (by rw [List.size_toArray,<- hl];exact h3) (by omega) (by rw [hk];exact ⟨_,I',q⟩)
def jX:V->Bool
 | .non=>true
 | .bl _=>true
 | .int _=>true
 | .str _=>true
 | _=>false
def eqV:V->V->Bool
 | .non,.non=>true
 | .bl a,.bl b=>a == b
 | .bl a,.int b=>(if a then 1 else 0) == b
 | .int a,.bl b=>a == (if b then 1 else 0)
 | .int a,.int b=>a == b
 | .str a,.str b=>a == b
 | _,_=>false
theorem uY {A:Around} {s:Shared} {y x:V} {u v:Value} (ry:RelV y u) (rx:RelV x v) (fy:jX y=true) (fx:jX x=true):SeqAt.EqAt A s u v (eqV y x):=by
 cases y with
 | non =>
  cases ry
  cases x with
  | non=>cases rx;exact SeqAt.EqAt.same _
  | bl b=>cases rx;exact SeqAt.EqAt.none_bool b
  | int b=>obtain ⟨t,rfl⟩:=rx;exact SeqAt.EqAt.none_int b t
  | str b=>obtain ⟨t,rfl⟩:=rx;exact SeqAt.EqAt.none_str b t
  | _=>exact absurd (show false=true from fx) Bool.false_ne_true
 | bl a =>
  cases ry
  cases x with
  | non=>cases rx;exact SeqAt.EqAt.bool_none a
  | bl b=>cases rx;exact SeqAt.EqAt.bool_bool a b
  | int b=>obtain ⟨t,rfl⟩:=rx;exact SeqAt.EqAt.bool_int a b t
  | str b=>obtain ⟨t,rfl⟩:=rx;exact SeqAt.EqAt.bool_str a b t
  | _=>exact absurd (show false=true from fx) Bool.false_ne_true
 | int a =>
  obtain ⟨t',rfl⟩:=ry
  cases x with
  | non=>cases rx;exact SeqAt.EqAt.int_none a t'
  | bl b=>cases rx;exact SeqAt.EqAt.int_bool a t' b
  | int b=>obtain ⟨t,rfl⟩:=rx;exact SeqAt.EqAt.int_int a t' b t
  | str b=>obtain ⟨t,rfl⟩:=rx;exact SeqAt.EqAt.int_str a t' b t
  | _=>exact absurd (show false=true from fx) Bool.false_ne_true
 | str a =>
  obtain ⟨t',rfl⟩:=ry
  cases x with
  | non=>cases rx;exact SeqAt.EqAt.str_none a t'
  | bl b=>cases rx;exact SeqAt.EqAt.str_bool a t' b
  | int b=>obtain ⟨t,rfl⟩:=rx;exact SeqAt.EqAt.str_int a t' b t
  | str b=>obtain ⟨t,rfl⟩:=rx;exact SeqAt.EqAt.str_str a t' b t
  | _=>exact absurd (show false=true from fx) Bool.false_ne_true
 | _=>exact absurd (show false=true from fy) Bool.false_ne_true
def eqU (x:V) (u:Value):Bool:=match u with
 | .none=>eqV .non x
 | .bool b=>eqV (.bl b) x
 | .int i _=>eqV (.int i) x
 | .str z _=>eqV (.str z) x
 | _=>false
theorem zK {x y:V} {u:Value} (r:RelV y u) (f:jX y=true):eqU x u=eqV y x:=by
 cases y with
 | non=>cases r;rfl
 | bl b=>cases r;rfl
 | int i=>obtain ⟨t,rfl⟩:=r;rfl
 | str z=>obtain ⟨t,rfl⟩:=r;rfl
 | _=>exact absurd (show false=true from f) Bool.false_ne_true
theorem r9 {x:V}:∀ {xs:List V} {us:List Value},Vals xs us->xs.all jX=true->us.any (eqU x)=xs.any fun y=>eqV y x
 | _,_,.nil,_=>rfl
 | y :: xs,u :: us,.cons r t,f=>by
  rw [List.all_cons,Bool.and_eq_true] at f
  rw [List.any_cons,List.any_cons,zK r f.1,r9 t f.2]
theorem ol {A:Around} {s:Shared} {x:V} {v:Value} (rx:RelV x v) (fx:jX x=true):∀ {xs:List V} {us:List Value},Vals xs us->xs.all jX=true->∀ u∈us,SeqAt.EqAt A s u v (eqU x u)
 | _,_,.nil,_=>fun u hu=>by cases hu
 | y :: xs,u :: us,.cons r t,f=>fun u' hu=>by
  rw [List.all_cons,Bool.and_eq_true] at f
  rcases Zq.mp hu with rfl | hu
  . rw [zK r f.1];exact uY r rx f.1 fx
  . exact ol rx fx t f.2 u' hu
def inV (x:V) (xs:List V):Bool:=xs.any fun y=>eqV y x
def rIn (K:PySem.W.Frag) (neg:Bool):R2:=fun x y H Q=>∃ p xs,y=.ref p/\(SqL K H p xs \/ SqT K H p xs)/\jX x=true/\xs.all jX=true/\Q (.bl (if neg then !inV x xs else inV x xs)) H
theorem xk:OpR X (compareOp .In) (rIn X.K false):=by
 intro pins s σ H x y v u Q I rx ry h
 obtain ⟨p,xs,rfl,hq,fx,fs,q⟩:=h
 cases ry
 rcases hq with hq | hq
 . obtain ⟨its,r,pl,hz⟩:=I.list hq
   refine SeqAt.in_listAt (eqU x) pl.isList (fun w hw=>ol rx fx r fs w (by simpa using hw)) ⟨.bl _,H,I,rfl,?_⟩
   rw [show its.toArray.any (eqU x)=its.any (eqU x) by simp,r9 r fs]
   exact q
 . obtain ⟨its,r,pl,hz⟩:=I.tuple hq
   refine SeqAt.in_tupleAt (eqU x) pl (fun w hw=>ol rx fx r fs w (by simpa using hw)) ⟨.bl _,H,I,rfl,?_⟩
   rw [show its.toArray.any (eqU x)=its.any (eqU x) by simp,r9 r fs]
   exact q
theorem aM:iD X (.builtin "len") (fun xs H Q=>∃ p ys,xs=[.ref p]/\(SqL X.K H p ys \/ SqT X.K H p ys)/\Q (.int ys.length) H):=by
 intro pins s σ H xs us Q I r h
 obtain ⟨p,ys,rfl,hq,q⟩:=h
 obtain ⟨u,rfl,rx⟩:=lT r
 cases rx
 have hn:=rF
 rcases hq with hq | hq
 . obtain ⟨its,r',pl,hz⟩:=I.list hq
   have hlen:=r'.length
   exact Calls.call_len_list pl.isList (by simp only [List.size_toArray] <;> omega) ⟨.int ys.length,H,I.tok _,⟨s.toks+1,by rw [List.size_toArray,hlen]⟩,q⟩
 . obtain ⟨its,r',pl,hz⟩:=I.tuple hq
   have hlen:=r'.length
   exact len_tuple pl (by simp only [List.size_toArray] <;> omega) ⟨.int ys.length,H,I.tok _,⟨s.toks+1,by rw [List.size_toArray,hlen]⟩,q⟩
theorem rZ:iD X (.type "list") (fun xs H Q=>∃ p ys,xs=[.ref p]/\(SqL X.K H p ys \/ SqT X.K H p ys)/\∀ l,H l=none->Q (.ref l) (upd H l (.lst ys))):=by
 intro pins s σ H xs us Q I r h
 obtain ⟨p,ys,rfl,hq,q⟩:=h
 obtain ⟨u,rfl,rx⟩:=lT r
 cases rx
 have fin:∀ (its:List Value),Vals ys its->ys.length<=sizeLine->∀ (h':Heap) (c':Nat),(∀ b o',s.heap.get? b=some o'->h'.get? b=some o') ->
  h'.get? s.heap.objs.size=some { cls:=.type "list",dict:=none,data:=.seq its.toArray c',slots:=#[] }->EP X pins σ Q (.ref s.heap.objs.size) { s with heap:=h' }:=fun its r' hz h' c' kp e =>
  ⟨.ref s.heap.objs.size,_,I.laid (t':=s.toks) kp (Nat.le_refl _) (show ObjOk X.prog X.w _ h' _ (.lst ys) from ⟨hz,its,c',r',e⟩),rfl,q _ (I.hok.fresh (Nat.le_refl _))⟩
 rcases hq with hq | hq
 . obtain ⟨its,r',pl,hz⟩:=I.list hq
   have hlen:=r'.length
   obtain ⟨o,ho,hc,n,hd⟩:=pl.isList
   exact call_list_seq p (.inl rfl) ho hc hd (fun h' c' kp e=>fin its r' hz h' c' kp e) (by simp only [List.size_toArray] <;> omega)
 . obtain ⟨its,r',pl,hz⟩:=I.tuple hq
   have hlen:=r'.length
   obtain ⟨o,ho,hc,n,hd⟩:=pl
   exact call_list_seq p (.inr rfl) ho hc hd (fun h' c' kp e=>fin its r' hz h' c' kp e) (by simp only [List.size_toArray] <;> omega)
def tyV (K:PySem.W.Frag) (T:String) (x:V) (H:Hp):Prop:=match x with
 | .str _=>T = "str"
 | .int _=>T = "int"
 | .ref p=>(T = "list"/\∃ xs,SqL K H p xs) \/ (T = "tuple"/\∃ o,K.lookup p=some o/\o.cls=.type "tuple"/\o.dict=none) \/
  (T = "dict"/\((∃ kvs,H p=some (.dK kvs)) \/ ∃ kvs,H p=some (.dT kvs))) \/ (T = "set"/\∃ S n,H p=some (.set S n))
 | _=>False
theorem xX {pins:List (Addr×Obj)} {σ:St} {H:Hp} {s:Shared} {T:String} {x:V} {v:Value} (I:Inv X pins σ H s) (r:RelV x v) (ty:tyV X.K T x H) :
 s.TypeIs v T/\∀ a,v=.ref a->∃ ob,s.heap.get? a=some ob/\ob.dict=none:=by
 cases x with
 | str z =>
  obtain ⟨t,rfl⟩:=r
  cases (show T = "str" from ty)
  exact ⟨typeIs_str s z t,fun _ e=>nomatch e⟩
 | int i =>
  obtain ⟨t,rfl⟩:=r
  cases (show T = "int" from ty)
  exact ⟨typeIs_int s i t,fun _ e=>nomatch e⟩
 | ref p =>
  cases r
  rcases ty with ⟨rfl,xs,hq⟩ | ⟨rfl,o,hk,hc,hd⟩ | ⟨rfl,hk⟩ | ⟨rfl,S,n,hk⟩
  . obtain ⟨its,_,pl,_⟩:=I.list hq
    refine ⟨pl.isList.typeIs,fun a e=>?_⟩
    cases e
    obtain ⟨o,n,e,c,hd,_⟩:=pl
    exact ⟨o,e,hd⟩
  . refine ⟨⟨o,I.kIn p o hk,hc⟩,fun a e=>?_⟩
    cases e
    exact ⟨o,I.kIn _ o hk,hd⟩
  . have z:∃ o,s.heap.get? p=some o/\o.ExactDict:=by
     rcases hk with ⟨kvs,hk⟩ | ⟨kvs,hk⟩
     . obtain ⟨_,_,_,_,o,_,_,e,ex,_⟩:=I.hok p _ hk
       exact ⟨o,e,ex⟩
     . obtain ⟨_,_,_,_,o,_,_,e,ex,_⟩:=I.hok p _ hk
       exact ⟨o,e,ex⟩
    obtain ⟨o,e,ex⟩:=z
    refine ⟨⟨o,e,ex.1⟩,fun a e2=>?_⟩
    cases e2
    exact ⟨o,e,ex.2.1⟩
  . obtain ⟨o,_,_,_,e,ex,_⟩:=I.hok p _ hk
    refine ⟨⟨o,e,ex.1⟩,fun a e2=>?_⟩
    cases e2
    exact ⟨o,e,ex.2.1⟩
 | _=>exact False.elim ty
def DF (K:PySem.W.Frag) (T:String) (r:V->List V->Hp->VK->Prop) (to:TE):TE:=fun σ H Q=>to σ H fun x H1=>tyV K T x H1/\r x [] H1 Q
def tBM (K:PySem.W.Frag) (T:String) (r:V->List V->Hp->VK->Prop) (to:TE) (t:TA):TE:=fun σ H Q=>to σ H fun x H1=>tyV K T x H1/\t σ H1 fun xs H2=>r x xs H2 Q
variable {o e:Expr} {es:List Expr} {to:TE} {t:TA} {name:Str} {apos cpos:Pos} {T id:String} {r:V->List V->Hp->VK->Prop}
theorem Cq (pa:PlainAttrs T) (slot:Slot T name id) (hty:typeOf (.builtin id)=pure (.type "method_descriptor")) (hm:MtR X id r) (ho:PE X o to)
 (hbase:attributeBase o name X.env (eval o X.env)=eval o X.env:=by rfl) (hline:(apos.endLine == cpos.line)=true:=by rfl):PE X (.Call (.Attribute o name apos) [] [] cpos) (DF X.K T r to):=by
 intro pins s σ H Q I h
 refine wpAny_Call_method0_late hbase hline (thn (ho pins s σ H _ I h) fun v s1 ⟨x,H1,I1,r1,ty,q1⟩=>?_)
 obtain ⟨h1,h2⟩:=xX I1 r1 ty
 exact ⟨T,id,pa,slot,hty,h1,h2,Calls.callWith_builtin rfl (PySem.evalArgs_none (hm pins s1 σ H1 x [] v [] Q I1 r1 .nil q1))⟩
theorem tq (pa:PlainAttrs T) (slot:Slot T name id) (hty:typeOf (.builtin id)=pure (.type "method_descriptor")) (hm:MtR X id r) (ho:PE X o to) (ha:PA X (e :: es) t)
 (hbase:attributeBase o name X.env (eval o X.env)=eval o X.env:=by rfl)
 (hfew:((backTo cpos (starEach (e :: es) X.env)).all (fun x=>!x.1) && (backToKw cpos (keywordEach [] X.env)).all (fun x=>x.1.isSome)
  && decide ((e :: es).length+([]:List Keyword).length+(if ([]:List Keyword).isEmpty then 0 else 1) < 30))=true:=by rfl)
 (hline:(apos.endLine == cpos.line)=true:=by rfl) (hs:starEach (e :: es) X.env=(false,eval e X.env) :: starEach es X.env:=by rfl) (hplain:(backTo cpos (starEach es X.env)).any (·.1)=false:=by rfl) :
 PE X (.Call (.Attribute o name apos) (e :: es) [] cpos) (tBM X.K T r to t):=by
 intro pins s σ H Q I h
 refine wpAny_Call_method_late hbase hfew hline rfl (thn (ho pins s σ H _ I h) fun v s1 ⟨x,H1,I1,r1,ty,q1⟩=>?_)
 obtain ⟨h1,h2⟩:=xX I1 r1 ty
 refine ⟨T,id,pa,slot,hty,h1,h2,?_⟩
 have hA:=ha cpos pins s1 σ H1 _ I1 q1
 rw [hs] at hA ⊢
 refine Calls.callWith_builtin (by show (false || (backTo cpos (starEach es X.env)).any (·.1))=false;rw [hplain] <;> rfl) (Calls.evalArgs_plain ?_)
 exact thn hA fun us s2 ⟨vs,H2,I2,r2,q2⟩=>hm pins s2 σ H2 x vs v us Q I2 r1 r2 q2
end
end L2
namespace L2
open PySem PySem.Spec PyProof.Rows
def MtM (X:Cx) (id:String) (r:V->List V->Hp->VK->Prop):Prop :=
 ∀ (pins:List (Addr×Obj)) (s:Shared) (σ:St) (H:Hp) (x:V) (xs:List V) (v:Value) (us:List Value) (Q:VK),Inv X pins σ H s->RelV x v->Vals xs us->r x xs H Q ->
  wpAny (model X.prog X.w) X.A (call (.builtin id) (v :: us)) (EP X pins σ Q) X.xe s
theorem Vals.one:∀ {x:V} {us:List Value},Vals [x] us->∃ u,us=[u]/\RelV x u
 | _,_,.cons r .nil=>⟨_,rfl,r⟩
theorem Vals.zero:∀ {us:List Value},Vals [] us->us=[]
 | _,.nil=>rfl
section
variable {X:Cx} {pins:List (Addr×Obj)} {σ:St} {H:Hp} {s:Shared} {l b:Addr} {xs ys zs:List V}
theorem Inv.lset {its its':List Value} {n:Nat} {f:Array Value->Array Value} {t':Nat} (I:Inv X pins σ H s) (hH:H l=some (.lst xs))
 (e:s.heap.get? l=some { cls:=.type "list",data:=.seq its.toArray n }) (hf:f its.toArray=its'.toArray) (hv:Vals ys its') (hz:ys.length<=sizeLine) :
 Inv X pins σ (upd H l (.lst ys)) { s with heap:=s.heap.update l (Obj.mapSeq f),toks:=t' }:=by
 have q:=PySem.IsL.update e f
 rw [hf] at q
 refine I.write (x:=l) (e:=l) (by rw [hH];exact trivial) (.inl rfl) (fun b' u hb hu=>(Heap.get?_update_other s.heap (Obj.mapSeq f) (Ne.symm hb)).trans hu) ⟨_,q⟩ ?_
 exact ⟨hz,its',_,hv,q⟩
theorem Inv.lnew {its:List Value} {t':Nat} (I:Inv X pins σ H s) (hv:Vals ys its) (hz:ys.length<=sizeLine) :
 Inv X pins σ (upd H s.heap.objs.size (.lst ys)) { s with heap:=s.heap.push { cls:=.type "list",data:=.seq its.toArray },toks:=t' } :=
 I.laid (fun _ _ q=>Heap.get?_push_of_some _ q) (Nat.le_refl _) ⟨hz,its,0,hv,Heap.get?_push_size _ rfl⟩
theorem Inv.fresh (I:Inv X pins σ H s):H s.heap.objs.size=none:=I.hok.fresh (Nat.le_refl _)
theorem Inv.lstM (I:Inv X pins σ H s) (hH:H l=some (.lst xs)):xs.length<=sizeLine/\∃ (its:List Value) (n:Nat),Vals xs its/\xs.length=its.length/\s.heap.get? l=some { cls:=.type "list",data:=.seq its.toArray n }:=by
 obtain ⟨z,its,n,r,e⟩:=I.hok l _ hH
 exact ⟨z,its,n,r,r.length,e⟩
end
section
variable {X:Cx}
def qV:V->List V->Hp->VK->Prop:=fun x vs H Q=>∃ l xs y,x=.ref l/\vs=[y]/\H l=some (.lst xs)/\xs.length < sizeLine/\Q .non (upd H l (.lst (xs++[y])))
theorem iw:MtM X "list.append" qV:=by
 intro pins s σ H x vs v us Q I rx rv h
 obtain ⟨l,xs,y,rfl,rfl,hH,hz,q⟩:=h
 cases rx
 obtain ⟨u,rfl,ru⟩:=rv.one
 obtain ⟨z,its,n,r,hl,e⟩:=I.lstM hH
 refine call_meets F.slot_list_append ⟨_,e,rfl⟩ F.entry_list_append (F.args_list_append_2 _ _) (PySem.list_append l its.toArray n u (by rw [List.size_toArray];omega)) ⟨e,?_⟩
 refine ⟨.non,_,I.lset (its':=its++[u]) hH e (by simp) (r.append (.cons ru .nil)) ?_,rfl,q⟩
 rw [Zh,Zj]
 omega
def yg:V->List V->Hp->VK->Prop:=fun x vs H Q=>∃ l xs,x=.ref l/\vs=[]/\H l=some (.lst xs)/\Q .non (upd H l (.lst []))
theorem yZ:MtM X "list.clear" yg:=by
 intro pins s σ H x vs v us Q I rx rv h
 obtain ⟨l,xs,rfl,rfl,hH,q⟩:=h
 cases rx
 have hus:=rv.zero
 subst hus
 obtain ⟨z,its,n,r,hl,e⟩:=I.lstM hH
 refine call_meets F.slot_list_clear ⟨_,e,rfl⟩ F.entry_list_clear (F.args_list_clear_1 _) (AutoSeq1.list_clear_list_0 l its.toArray n (by rw [List.size_toArray];omega)) ⟨e,?_⟩
 exact ⟨.non,_,I.lset (its':=[]) (ys:=[]) hH e rfl .nil (Nat.zero_le _),rfl,q⟩
def DT:R2:=fun x y H Q=>∃ l b xs zs,x=.ref l/\y=.ref b/\H l=some (.lst xs)/\H b=some (.lst zs)/\xs.length+zs.length<=sizeLine/\∀ p,H p=none->Q (.ref p) (upd H p (.lst (xs++zs)))
theorem CG:OpR X (binaryOp .Add) DT:=by
 intro pins s σ H x y v u Q I rx ry h
 obtain ⟨l,b,xs,zs,rfl,rfl,hH,hB,hz,q⟩:=h
 cases rx
 cases ry
 obtain ⟨z,its,n,r,hl,e⟩:=I.lstM hH
 obtain ⟨z2,its2,n2,r2,hl2,e2⟩:=I.lstM hB
 refine PySem.P.add_list e e2 ?_ (by rw [List.size_toArray,List.size_toArray];omega)
 have ea:its.toArray++its2.toArray=(its++its2).toArray:=by simp
 rw [ea]
 exact ⟨.ref _,_,I.lnew (t':=s.toks) (r.append r2) (by rw [Zh];omega),rfl,q _ I.fresh⟩
end
section
variable {prog:Program} {w:World} {A:Around} {E:Value->Shared->Prop} {s:Shared}
end
section
variable {X:Cx}
end
end L2
namespace Att
open PySem PySem.W PySem.Calls PyProof.Rows
theorem mG {P:Params} {h:Heap}:∀ (ns:List Int) (vs:List Value),WellAll P h vs (ns.map WData.int)->IntsAre vs ns:=by
 intro ns
 induction ns with
 | nil =>
  intro vs w
  rw [List.map_nil] at w
  cases w
  exact .nil
 | cons n ns ih =>
  intro vs w
  rw [Zr] at w
  cases w with
  | cons a b =>
   cases a
   exact .cons _ _ (ih _ b)
theorem xa {l:OpenLaw} {n:Nat} (hn:l.most=some n) {P:Params} {h:Heap} {args:List WData} {db:List Value}
 (hpre:l.row.toRowW.claim.pre args=true) (hwl:WellAll P h db args) :
 ∃ a vs ns,db=[Value.ref a]/\args=[WData.list (ns.map WData.int)]/\h.get? a=some { cls:=.type "list",data:=.seq vs.toArray }/\IntsAre vs ns/\ns.length<=n:=by
 have hsh:WShape.hasAll [] args [.list .int]=true:=(pre_splitW hpre).1
 have hc:l.pre.holds [] { args:=args }=true:=(pre_splitW hpre).2
 obtain ⟨d,r,rfl,h1,h2⟩:=hasAllW_cons hsh
 obtain rfl:=hasAllW_nil h2
 obtain ⟨xs,rfl,h3⟩:=hasW_list h1
 obtain ⟨ns,rfl⟩:=items_int h3
 have hlen:ns.length<=n:=by
  unfold OpenLaw.pre at hc
  have h4:(WTm.not (.lt (.lit (.int (n:Int))) (.len (.arg 0)))).holds [] { args:=[.list (ns.map .int)] }=true:=by
   have h4:=(holds_andW hc).1
   rw [hn] at h4
   exact h4
  have h5:=condW_of h4 (w_not (w_lt w_lit (w_len_list (w_arg rfl))))
  rw [Zi] at h5
  refine Nat.le_of_not_lt fun q=>?_
  have q':(n:Int) < ((ns.length:Nat):Int):=by omega
  first
   | (rw [decide_eq_true q'] at h5;exact absurd h5 (by decide))
   | (simp at h5;omega)
 cases hwl with
 | cons w1 w2 =>
  cases w2
  cases w1 with
  | list ho hall=>exact ⟨_,_,ns,rfl,rfl,ho,mG ns _ hall,hlen⟩
theorem xg (l:OpenLaw) (args:List WData):l.row.toRowW.claim.post args (.bool true) args=true :=
 postW_of (r:=l.row.toRowW) (X:=(true == true))
  (show WShape.has [] (.bool true) .bool=true by first | rfl | decide | simp [WShape.has,WShape.arms,WShape.armsAll])
  (show (WTm.eq .res (.lit (.bool true))).value [] { args:=args,res:=some (.bool true),after:=args }=some (.bool (true == true)) from w_eq_bool (w_res rfl) w_lit) rfl
theorem attach_call {l:OpenLaw} {n:Nat} {q:Program} {loose:List Str} {XP:(Str->Option Value)->Heap->Prop} {YP:World->Heap->Prop} {d:DefRec}
 (hn:l.most=some n) (hdf:d.params.defaults=[])
 (call:∀ (w:World) (s₀ s₁:Shared) (mg mb:Str->Option Value) (fa:Addr) (o:Obj) (pm cd doc:Value) (a:Addr) (vs:List Value) (ns:List Int),
  Ground q loose [] XP w s₀ mg mb s₁.heap->YP w s₁.heap ->
  s₁.heap.get? fa=some o->o.data=.func (docDef d.name d.params d.body d.scope pm cd doc)->s₁.heap.CodeRec cd d.name->mg d.name=some (.ref fa) ->
  s₁.heap.get? a=some { cls:=.type "list",data:=.seq vs.toArray }->IntsAre vs ns->ns.length<=n->s₁.gens = #[] ->
  codeAny (model l.prog w) callerA (.call (.ref fa) ⟨[.ref a],[]⟩) (fun r s'=>r=.ok (.ret (.bool true))/\OldK s₁.heap s'.heap/\s'.os=s₁.os/\AllBare s'.gens) s₁) :
 WalkO q loose XP YP l.row.toRowW d [] (fun f vs=>PySem.call f vs):=by
 intro w s₀ s₁ mg mb G Y fa o pm cd doc dV kV ho hd hcd hD hmg hg args db as hpre hlay hrd hwl hlo
 obtain rfl:dV=.none:=Dflts.none hD hdf
 obtain rfl:kV=.none:=Dflts.noKw hD
 obtain ⟨a,vs,ns,rfl,rfl,hobj,hints,hlen⟩:=xa hn hpre hwl
 refine enter_call (codeAny_mono (call w s₀ s₁ mg mb fa o pm cd doc a vs ns G Y ho (fd_plain hd) hcd hmg hobj hints hlen hg) fun r s' hq=>?_)
 obtain ⟨rfl,h2,h3,h4⟩:=hq
 exact ⟨.inl ⟨.bool true,.bool true,[],rfl,fun _=>rfl,.bool true,xg l _,fun _=>⟨List.Pairwise.nil,fun _ hm=>(nomatch hm)⟩⟩,h2,h3,h4⟩
section
variable {prog:Program} {w:World} {A:Around} {E:Value->Shared->Prop} {s:Shared} {K:Frag}
def E3 (h:Heap) (L d:Addr):List (Addr×Obj):=(List.range h.objs.size).filterMap fun a=>if a=L \/ a=d then none else (h.get? a).map fun o=>(a,o)
end
end Att
namespace L2
open PySem PySem.Spec PyProof.Rows
theorem jx:∀ {vs:List Value} {ns:List Int},IntsAre vs ns->Vals (ns.map V.int) vs
 | _,_,.nil=>.nil
 | _,_,.cons n t h=>.cons ⟨t,rfl⟩ (jx h)
def Dk (H:Hp):Prop:=∀ b,H b=none \/ ∃ o xs,H b=some (.frz o (.lst xs))
theorem zj {P:Program} {w:World} {K:PySem.W.Frag} {mg mb:Str->Option Value} {CX:CXT} {k:Nat} {fa a:Addr} {fd:FuncData} {x:Str} {sp:Sp} {s₁:Shared} {vs:List Value} {ns:List Int}
 (KX:K.In s₁.heap) (hns:s₁.heap.Ns mainGlobals mg) (hb:s₁.heap.Ns builtinsNs mb) (hbb:∀ x:Str,x ≠ "__name__"->mb x=bootBuiltins x) (hlim:s₁.heap.NoLimit) (hg:s₁.gens = #[])
 (ha:s₁.heap.get? a=some { cls:=.type "list",data:=.seq vs.toArray }) (hi:IntsAre vs ns) (hl:ns.length<=sizeLine) (hr:Room k callerA)
 (F:∀ base:Heap,K.In base->base.Ns mainGlobals mg->FnOk P w K mg base CX k fa fd [x] sp) (hbind:∀ (s:Shared) (u:Value),BindsTo s fd ⟨[u],[]⟩ [(x,u)])
 (hsp:∀ H:Hp,Dk H->SqL K H a (ns.map V.int)->sp [.ref a] H (fun v _=>v=.bl true) fun _ _ _=>False)
 (hCX:∀ H e s',CX [] H s₁ (fun _ _ _=>False) e s'->False) :
 codeAny (model P w) callerA (.call (.ref fa) ⟨[.ref a],[]⟩) (fun r s'=>r=.ok (.ret (.bool true))/\OldK s₁.heap s'.heap/\s'.os=s₁.os/\AllBare s'.gens) s₁:=by
 have rv:=jx hi
 have lenV:=hi.length
 have core:∀ H:Hp,Dk H->SqL K H a (ns.map V.int)->HOk P w H s₁.heap->(∀ b,H b ≠ none->b=a)->(H a ≠ none->K.lookup a=none) ->
  codeAny (model P w) callerA (.call (.ref fa) ⟨[.ref a],[]⟩) (fun r s'=>r=.ok (.ret (.bool true))/\OldK s₁.heap s'.heap/\s'.os=s₁.os/\AllBare s'.gens) s₁:=by
  intro H hO hS hok hA hK
  have base_of:∀ {b:Addr} {o:Obj},s₁.heap.get? b=some o->H b=none->(rM s₁.heap H).get? b=some o:=fun e n=>zr e n
  have noA:∀ {b:Addr} {o:Obj} {es:Array DictEntry} {ep:Nat},s₁.heap.get? b=some o->o.data=.dict es ep->H b=none:=fun {b o es ep} e d=>by
   cases q:H b with
   | none=>rfl
   | some u =>
    have e':b=a:=hA b (by rw [q];simp)
    subst e'
    rw [ha] at e;cases e
    have d':Data.seq vs.toArray _=Data.dict es ep:=d
    cases d'
  have nsK:∀ {b:Addr} {m:Str->Option Value},s₁.heap.Ns b m->(rM s₁.heap H).Ns b m:=fun {b m} ⟨o,es,ep,e,d,r⟩=>⟨o,es,ep,base_of e (noA e d),d,r⟩
  have hKb:K.In (rM s₁.heap H):=fun b o e=>base_of (KX b o e) (by
   cases q:H b with
   | none=>rfl
   | some u =>
    have e':b=a:=hA b (by rw [q];simp)
    subst e'
    rw [hK (by rw [q];simp)] at e;cases e)
  have hM:Mod K mg (rM s₁.heap H):=⟨hKb,nsK hns,⟨mb,nsK hb,hbb⟩,let ⟨mc,h1,h2⟩:=hlim;⟨mc,nsK h1,h2⟩⟩
  have e0:xO P w K mg (rM s₁.heap H) callerA [] s₁ H:=⟨rfl,hM,fun b o e=>AQ e,Nat.le_of_eq (xx _ _),trivial,fun b hb=>absurd (show b∈([]:List Addr) from hb) (by simp),hok,.of_eq hg⟩
  refine codeAny_mono ((F _ hKb (nsK hns)).run callerA [] s₁ H ⟨[.ref a],[]⟩ [.ref a] [.ref a] _ _ hr e0 (hbind s₁ (.ref a)) (.cons rfl .nil) (hsp H hO hS)) fun r s' h=>?_
  cases r with
  | error e=>exact (hCX H e s' h).elim
  | ok fl =>
   cases fl with
   | next=>exact False.elim h
   | brk=>exact False.elim h
   | cont=>exact False.elim h
   | ret u =>
    obtain ⟨v,H',os,bare,un,hok',r',q⟩:=h
    have q':v=.bl true:=q
    subst q'
    obtain rfl:u=Value.bool true:=r'
    refine ⟨rfl,OldK.of_keep fun b o e=>?_,os,bare⟩
    cases q:H b with
    | none=>exact un.keep b o e q (by intro z;exact absurd (show b∈([]:List Addr) from z) (by simp)) (by simp)
    | some u =>
     rcases hO b with z | ⟨ob,xs,z⟩
     . rw [q] at z;cases z
     . have z2:=un.frzs b ob _ z
       obtain ⟨e1,_⟩:=hok b _ z
       obtain ⟨e2,_⟩:=hok' b _ z2
       rw [e] at e1;cases e1
       exact e2
 cases hk:K.lookup a with
 | some o =>
  have e:=KX a o hk
  rw [ha] at e
  cases e
  refine core (fun _=>none) (fun _=>.inl rfl) (.inr ⟨_,vs.toArray,_,hk,rfl,rfl,rfl,by rw [List.size_toArray,lenV];exact hl,by simpa using rv⟩) (fun b u z=>by have z':(none:Option HO)=some u:=z;cases z') (fun b z=>absurd rfl z) fun z=>absurd rfl z
 | none =>
  refine core (fun b=>if b=a then some (.frz { cls:=.type "list",data:=.seq vs.toArray } (.lst (ns.map V.int))) else none) (fun b=>?_) (.inl (.inr ⟨{ cls:=.type "list",data:=.seq vs.toArray },if_pos rfl⟩)) (fun b u z=>?_) (fun b z=>?_) fun _=>hk
  . by_cases hb:b=a
    . exact .inr ⟨_,_,if_pos hb⟩
    . exact .inl (if_neg hb)
  . by_cases hb:b=a
    . have z':=(if_pos hb).symm.trans z
      cases z'
      subst hb
      exact ⟨ha,by rw [Zi];exact hl,vs,_,rv,ha⟩
    . have z':=(if_neg hb).symm.trans z
      cases z'
  . by_cases hb:b=a
    . exact hb
    . exact absurd (if_neg hb) z
end L2
namespace L2
open PySem PySem.Spec PyProof.Rows
end L2
namespace L2
open PySem PySem.Spec PyProof.Rows
abbrev CX0:CXT:=fun _ _ _ _ _ _=>False
abbrev E0:XK:=fun _ _ _=>False
theorem vR {X:Cx}:vg CX0 X E0:=fun _ _ _ _ _ _ _ h=>h.elim
structure Fun (K:PySem.W.Frag) (x qual:Str) (st:Stmt) (f:Addr) (fd:FuncData):Prop where
 ex:∃ (oc:Value) (od:Option Addr) (kV doc pm:Value) (an:Option Addr) (cdv ct:Value) (osl:Array (Option Value)),
  fd=PySem.W.fnOf x qual (dw st) (bH st) (ap st) .none kV doc pm an cdv ct/\K.lookup f=some ⟨oc,od,.func fd,osl⟩/\PySem.W.codeIn K cdv qual=true
 kp:PySem.W.keepIn K (.ref f)=true
section
variable {P:Program} {w:World} {K:PySem.W.Frag} {mg:Str->Option Value} {base:Heap}
theorem Fun.ok {x qual:Str} {st:Stmt} {f:Addr} {fd:FuncData} {N ps:List Str} {k:Nat} {sp:Sp} (F:Fun K x qual st f fd) (S:aF N ps (ap st)) (len:∀ vs H Q E,sp vs H Q E->vs.length=ps.length)
 (hbody:∀ (cdv:Value) (A:Around) (outer:List Env) (s:Shared) (H:Hp) (vs:List V) (Q:VK) (E:XK),Room k (A.deeper (envOfC qual (ap st) s.heap.objs.size f cdv))->sp vs H Q E ->
  ∃ t,PSs (gj CX0 P w K mg base N qual (ap st) f cdv A outer s H E).nox (bH st) t/\t { nx:=fun _ H'=>Q .non H',rt:=Q } (start N vs) H):FnOk P w K mg base CX0 (k+1) f fd ps sp:=by
 obtain ⟨oc,od,kV,doc,pm,an,cdv,ct,osl,rfl,lk,hcd⟩:=F.ex
 refine zE lk hcd S len fun A outer s H vs Q E hr hsp=>?_
 obtain ⟨t,h,q⟩:=hbody cdv A outer s H vs Q E hr hsp
 exact ⟨t,h.nox,q⟩
theorem Fun.binds {x qual:Str} {st:Stmt} {f:Addr} {fd:FuncData} {ps:List Str} (F:Fun K x qual st f fd)
 (h:∀ (kV doc pm:Value) (an:Option Addr) (cdv ct:Value) (us:List Value),us.length=ps.length->bindArgs (PySem.W.fnOf x qual (dw st) (bH st) (ap st) .none kV doc pm an cdv ct) ⟨us,[]⟩=pure (ps.zip us)):Binds K fd ps []:=by
 obtain ⟨oc,od,kV,doc,pm,an,cdv,ct,osl,rfl,lk,hcd⟩:=F.ex
 exact .all (h kV doc pm an cdv ct)
theorem zA {x qual:Str} {st:Stmt} {f:Addr} {oc:Value} {od an:Option Addr} {osl:Array (Option Value)} {kV doc pm cdv ct:Value} (l:K.lookup f=some ⟨oc,od,.func (PySem.W.fnOf x qual (dw st) (bH st) (ap st) .none kV doc pm an cdv ct),osl⟩)
 (c:PySem.W.codeIn K cdv qual=true) (k:PySem.W.keepIn K (.ref f)=true):Fun K x qual st f (PySem.W.fnOf x qual (dw st) (bH st) (ap st) .none kV doc pm an cdv ct):=⟨⟨oc,od,kV,doc,pm,an,cdv,ct,osl,rfl,l,c⟩,k⟩
end
theorem qp {A:Around} {k:Nat} (hr:Room k A):A.units+1 < cLine:=Nat.lt_of_le_of_lt (Nat.add_le_add_left (by decide:1<=64) _) hr.units
theorem jz {n:Nat} (h:n<=1000):n < sizeLine:=Nat.lt_of_le_of_lt h (by decide)
section
variable {X:Cx}
end
def Same (H H':Hp):Prop:=∀ b o,H b=some o->H' b=some o
theorem Same.refl (H:Hp):Same H H:=fun _ _ h=>h
theorem Same.trans {H H1 H2:Hp} (a:Same H H1) (b:Same H1 H2):Same H H2:=fun c o h=>b c o (a c o h)
theorem Same.seq {K:PySem.W.Frag} {H H':Hp} {a:Addr} {xs:List V} (e:Same H H') (h:SqL K H a xs):SqL K H' a xs:=by
 rcases h with (h | ⟨o,h⟩) | h
 . exact .inl (.inl (e _ _ h))
 . exact .inl (.inr ⟨o,e _ _ h⟩)
 . exact .inr h
end L2
namespace L2
open PySem PySem.Spec PyProof.Rows
end L2
namespace L2
open PySem PySem.Spec PyProof.Rows
section
variable (P:Program) (w:World)
end
section
variable {P:Program} {w:World} {H H':Hp} {h h':Heap} {a:Addr} {o:HO}
end
section
variable {P:Program} {w:World} {H:Hp} {h h':Heap} {x e:Addr} {o':HO}
end
section
variable {fs fs' ex ex':List Addr} {H H1 H2:Hp} {h h1 h2 h':Heap} {a x e:Addr} {o:HO}
end
end L2
namespace L2
open PySem PySem.Spec PyProof.Rows
section
variable {X:Cx} {pins:List (Addr×Obj)} {σ:List (Option V)} {H H':Hp} {s:Shared} {h':Heap}
end
end L2
namespace L2
open PySem PySem.Spec PyProof.Rows
section
variable {X:Cx}
variable {a b:Expr} {ta tb:TE} {pos:Pos}
variable {tA tB':TT} {rest:List Expr}
end
end L2
namespace L2
open PySem PySem.Spec PyProof.Rows
section
variable {X:Cx} {pins:List (Addr×Obj)} {σ:St} {H:Hp} {s:Shared} {a:Addr} {xs ys:List V}
end
section
variable {X:Cx} {pins:List (Addr×Obj)} {σ:St} {H:Hp} {s:Shared} {E:Value->Shared->Prop}
end
section
variable {X:Cx} {st:Stmt} {rest:List Stmt} {t u:TS} {e:Expr} {te:TE} {pos:Pos}
end
section
variable {X:Cx} {pos:Pos}
end
section
variable {X:Cx} {pos:Pos}
end
end L2
namespace L2
open PySem PySem.Spec PyProof.Rows
section
variable {X:Cx} {tg:Expr}
end
end L2
namespace L2
open PySem PySem.Spec PyProof.Rows
section
variable {X:Cx} {a b c:Expr} {ta tb tc:TE} {pos:Pos}
end
section
variable {X:Cx} {a b c:Expr} {ta tb tc:TE} {pos:Pos}
end
end L2
namespace L2
open PySem PySem.Spec PyProof.Rows
section
variable {prog:Program} {w:World} {A:Around} {E:Value->Shared->Prop} {s:Shared} {K:PySem.W.Frag} {x dx C f:Addr} {mA:Str->Option Value} {name:Str} {v:Value}
end
section
variable {P:Program} {w:World} {H H':Hp} {h h':Heap} {a C dx:Addr} {fs fs':List (Str×V)}
end
section
variable {X:Cx} {pins:List (Addr×Obj)} {σ:St} {H:Hp} {s:Shared} {a C dx:Addr} {fs:List (Str×V)} {f:Str} {v:V} {A:Around} {E:Value->Shared->Prop}
end
section
variable {X:Cx} {o e value:Expr} {f:Str} {pos pos' tpos:Pos} {ta tv:TE}
end
section
variable {X:Cx} {pins:List (Addr×Obj)} {σ:St} {H:Hp} {s:Shared} {A:Around} {E:Value->Shared->Prop} {Q:Value->Shared->Prop} {c:Value} {b:Bool}
end
end L2
namespace L2
open PySem PySem.Spec PyProof.Rows
section
variable {X:Cx} {e:Expr} {es:List Expr} {te:TE} {t:TA} {pos:Pos}
end
section
variable {X:Cx} {pins:List (Addr×Obj)} {σ:St} {H:Hp} {s s':Shared}
end
section
variable {X:Cx} {CX:CXT} {k:Nat} {f C:Addr} {fd:FuncData} {ps:List Str} {sp:Sp} {dvs:List V} {ds:List Value} {E:XK} {x m:Str} {p pos apos:Pos} {e o:Expr} {es:List Expr} {ta:TE} {t:TA}
end
section
variable {X:Cx} {CX:CXT} {k:Nat} {f C:Addr} {fd:FuncData} {ps ks:List Str} {sp:Sp} {E:XK} {x m:Str} {p pos apos kpos:Pos} {e o:Expr} {es:List Expr} {kws:List Keyword} {te ta:TE} {t tk:TA} {nm:Option Str}
variable {g:List Value->List Value->List Value} {gV:List V->List V->List V}
end
end L2
namespace L2
open PySem PySem.Spec PyProof.Rows
section
variable {X:Cx} {x:Str} {p pos:Pos} {e:Expr} {es:List Expr} {t:TA} {id T:String} {r:List V->Hp->VK->Prop}
end
end L2
namespace L2
open PySem PySem.Spec PyProof.Rows
section
variable {κ:Type} [DecidableEq κ]
def ko (kvs:List (κ×V)) (k:κ):Option V:=(kvs.find? fun kv=>decide (kv.1=k)).map (·.2)
def jf (kvs:List (κ×V)) (k:κ) (v:V):List (κ×V) :=
 if (kvs.any fun kv=>decide (kv.1=k))=true then kvs.map (fun kv=>if kv.1=k then (kv.1,v) else kv) else kvs++[(k,v)]
theorem kl {p:κ×V} {r:List (κ×V)} {k:κ} (e:p.1=k):ko (p :: r) k=some p.2:=by simp [ko,List.find?_cons,e]
theorem km {p:κ×V} {r:List (κ×V)} {k:κ} (e:¬ p.1=k):ko (p :: r) k=ko r k:=by simp [ko,List.find?_cons,e]
theorem sk (k:κ):∀ kvs:List (κ×V),(kvs.any fun kv=>decide (kv.1=k))=(ko kvs k).isSome
 | []=>rfl
 | p :: r=>by
  rw [List.any_cons]
  by_cases e:p.1=k
  . simp only [kl e,decide_eq_true e,Bool.true_or,Option.isSome_some]
  . rw [km e,decide_eq_false e,Bool.false_or];exact sk k r
theorem jn (kvs:List (κ×V)) (k:κ) (v:V):(jf kvs k v).length<=kvs.length+1:=by
 unfold jf
 split
 . rw [Zi];omega
 . rw [Zh,List.length_cons,List.length_nil];omega
theorem RelO.isSome_eq {o:Option V} {u:Option Value} (r:RelO o u):o.isSome=u.isSome:=by
 cases o with
 | none=>cases u with
  | none=>rfl
  | some _=>exact (show False from r).elim
 | some _=>cases u with
  | none=>exact (show False from r).elim
  | some _=>rfl
theorem KV.val {kvs:List (κ×V)} {vs:List (κ×Value)} (r:KV kvs vs) (k:κ):RelO (ko kvs k) (valueAt vs k):=by
 unfold KV at r
 induction r with
 | nil=>exact True.intro
 | @cons p q ps qs h t ih =>
  obtain ⟨h1,h2⟩:=h
  by_cases e:p.1=k
  . have e':q.1=k:=h1.symm.trans e
    have b:valueAt (q :: qs) k=some q.2:=by simp [valueAt,List.find?_cons,e']
    rw [kl e,b];exact h2
  . have e':¬ q.1=k:=fun z=>e (h1.trans z)
    have b:valueAt (q :: qs) k=valueAt qs k:=by simp [valueAt,List.find?_cons,e']
    rw [km e,b];exact ih
theorem KV.any {kvs:List (κ×V)} {vs:List (κ×Value)} (r:KV kvs vs) (k:κ):(kvs.any fun kv=>decide (kv.1=k))=vs.any fun kv=>decide (kv.1=k):=by
 unfold KV at r
 induction r with
 | nil=>rfl
 | cons h t ih=>rw [List.any_cons,List.any_cons,ih,h.1]
theorem KV.repl {kvs:List (κ×V)} {vs:List (κ×Value)} (r:KV kvs vs) (k:κ) {y:V} {u:Value} (ry:RelV y u) :
 KV (kvs.map fun kv=>if kv.1=k then (kv.1,y) else kv) (vs.map fun kv=>if kv.1=k then (kv.1,u) else kv):=by
 unfold KV at r ⊢
 induction r with
 | nil=>exact .nil
 | @cons p q ps qs h t ih =>
  rw [Zr,Zr]
  refine .cons ?_ ih
  obtain ⟨h1,h2⟩:=h
  by_cases e:p.1=k
  . rw [if_pos e,if_pos (h1.symm.trans e)];exact ⟨h1,ry⟩
  . rw [if_neg e,if_neg (fun z=>e (h1.trans z))];exact ⟨h1,h2⟩
theorem KV.put {kvs:List (κ×V)} {vs:List (κ×Value)} (r:KV kvs vs) (k:κ) {y:V} {u:Value} (ry:RelV y u):KV (jf kvs k y) (stored vs k u):=by
 unfold jf stored
 rw [r.any k]
 by_cases e:(vs.any fun kv=>decide (kv.1=k))=true
 . rw [if_pos e,if_pos e];exact r.repl k ry
 . rw [if_neg e,if_neg e];exact Paired.snoc r ⟨rfl,ry⟩
theorem KV.keys {kvs:List (κ×V)} {vs:List (κ×Value)} (r:KV kvs vs):kvs.map (·.1)=vs.map (·.1):=by
 unfold KV at r
 induction r with
 | nil=>rfl
 | cons h t ih=>rw [Zr,Zr,ih,h.1]
theorem KV.length {kvs:List (κ×V)} {vs:List (κ×Value)} (r:KV kvs vs):kvs.length=vs.length:=Paired.length r
end
theorem tM {P:Program} {w:World} {k:Key} {u:Value} (r:RelV (kV k) u):(ce P w).is k u=true:=by
 cases k with
 | inl i=>obtain ⟨t,e⟩:=(show ∃ t,u=Value.int i t from r);subst e;exact tJ P w i t
 | inr x=>obtain ⟨t,e⟩:=(show ∃ t,u=Value.str x t from r);subst e;exact tI P w x t
theorem qi {P:Program} {w:World}:∀ {ks:List Key} {us:List Value},Vals (ks.map kV) us->ItemsAre (ce P w) ks us
 | [],_,r=>by rw [List.map_nil] at r;cases r;exact .nil
 | k :: ks,_,r=>by
  rw [Zr] at r
  cases r with
  | cons h t=>exact .cons (tM h) (qi t)
abbrev KT (H:Hp):List (List Key×V)->List (List Key×Addr×Value)->Prop:=Paired fun p q=>p.1=q.1/\H q.2.1=some (.tup (p.1.map kV))/\RelV p.2 q.2.2
theorem KT.val {H:Hp} {kvs:List (List Key×V)} {xs:List (List Key×Addr×Value)} (r:KT H kvs xs) (k:List Key):RelO (ko kvs k) ((atKey xs k).map (·.2)):=by
 induction r with
 | nil=>exact True.intro
 | @cons p q ps qs h t ih =>
  obtain ⟨h1,_,h2⟩:=h
  by_cases e:p.1=k
  . have e':q.1=k:=h1.symm.trans e
    have b:atKey (q :: qs) k=some q.2:=by simp [atKey,List.find?_cons,e']
    rw [kl e,b];exact h2
  . have e':¬ q.1=k:=fun z=>e (h1.trans z)
    have b:atKey (q :: qs) k=atKey qs k:=by simp [atKey,List.find?_cons,e']
    rw [km e,b];exact ih
theorem KT.repl {H:Hp} {kvs:List (List Key×V)} {xs:List (List Key×Addr×Value)} (r:KT H kvs xs) (k:List Key) {y:V} {u:Value} (ry:RelV y u) :
 KT H (kvs.map fun kv=>if kv.1=k then (kv.1,y) else kv) (xs.map (putAt k u)):=by
 induction r with
 | nil=>exact .nil
 | @cons p q ps qs h t ih =>
  rw [Zr,Zr]
  refine .cons ?_ ih
  obtain ⟨h1,h2,h3⟩:=h
  unfold putAt
  by_cases e:p.1=k
  . rw [if_pos e,if_pos (h1.symm.trans e)];exact ⟨h1,h2,ry⟩
  . rw [if_neg e,if_neg (fun z=>e (h1.trans z))];exact ⟨h1,h2,h3⟩
theorem KT.put {H:Hp} {kvs:List (List Key×V)} {xs:List (List Key×Addr×Value)} (r:KT H kvs xs) (k:List Key) {b:Addr} {y:V} {u:Value} (hb:H b=some (.tup (k.map kV))) (ry:RelV y u) :
 KT H (jf kvs k y) (storedH xs k b u):=by
 have e:(kvs.any fun kv=>decide (kv.1=k))=(atKey xs k).isSome:=by
  rw [sk,(r.val k).isSome_eq,Option.isSome_map]
 unfold jf storedH
 rw [e]
 by_cases q:(atKey xs k).isSome=true
 . rw [if_pos q,if_pos q];exact r.repl k ry
 . rw [if_neg q,if_neg q];exact Paired.snoc r ⟨rfl,hb,ry⟩
theorem KT.keeps {H H':Hp} {kvs:List (List Key×V)} {xs:List (List Key×Addr×Value)} (r:KT H kvs xs) (ht:∀ b ys,H b=some (.tup ys)->H' b=some (.tup ys)):KT H' kvs xs :=
 Paired.mapP r fun _ _ z=>⟨z.1,ht _ _ z.2.1,z.2.2⟩
section
variable {P:Program} {w:World} {H:Hp} {h:Heap} {a:Addr}
theorem BB {u:HO} (ok:HOk P w H h) (e:Rd H a u):ObjOk P w H h a u:=e.ok ok
theorem ug {kvs:List (Key×V)} (ok:HOk P w H h) (e:Rd H a (.dK kvs)):kvs.length<=sizeLine/\(a == sysModules)=false/\∃ vs,KV kvs vs/\h.DictOf (ce P w) a vs :=
 show ObjOk P w H h a (.dK kvs) from BB ok e
theorem BR {kvs:List (Key×V)} (ok:HOk P w H h) (e:H a=some (.dK kvs)):kvs.length<=sizeLine/\(a == sysModules)=false/\∃ vs,KV kvs vs/\h.DictOf (ce P w) a vs:=ug ok (.inl e)
theorem rL {ks:List Key} (ok:HOk P w H h) (e:H a=some (.tup (ks.map kV))):(tupleKind (ce P w)).is h ks a:=by
 obtain ⟨_,its,r,o,h1,h2,n,h3⟩:=(show ObjOk P w H h a (.tup (ks.map kV)) from ok a _ e)
 exact ⟨o,its.toArray,n,h1,h2,h3,by simpa using qi r⟩
theorem wH {kvs:List (List Key×V)} (ok:HOk P w H h) (e:Rd H a (.dT kvs)):kvs.length<=sizeLine/\(a == sysModules)=false /\
 ∃ xs,KT H kvs xs/\h.DictOfH (tupleKind (ce P w)) a xs:=by
 obtain ⟨z,y,xs,r,o,es,ep,h1,h2,h3,h4,h5⟩:=(show ObjOk P w H h a (.dT kvs) from BB ok e)
 refine ⟨z,y,xs,r,o,es,ep,h1,h2,h3,h4,fun x hx=>?_,h5⟩
 have all:∀ {l:List (List Key×V)} {m:List (List Key×Addr×Value)},KT H l m->∀ x∈m,(tupleKind (ce P w)).is h x.1 x.2.1:=by
  intro l m q
  induction q with
  | nil=>intro x hx;exact nomatch hx
  | @cons p q ps qs hq t ih =>
   intro x hx
   rcases Zq.mp hx with e | hx
   . subst e
     exact rL ok (by rw [<- hq.1];exact hq.2.1)
   . exact ih x hx
 exact all r x hx
theorem EE {kvs:List (List Key×V)} (ok:HOk P w H h) (e:H a=some (.dT kvs)):kvs.length<=sizeLine/\(a == sysModules)=false /\
 ∃ xs,KT H kvs xs/\h.DictOfH (tupleKind (ce P w)) a xs:=wH ok (.inl e)
end
def xP (H:Hp) (a:Addr) (y:V) (r:Option V):Prop :=
 (∃ kvs k,Rd H a (.dK kvs)/\y=kV k/\r=ko kvs k) \/ ∃ kvs k b,Rd H a (.dT kvs)/\y=.ref b/\H b=some (.tup (k.map kV))/\r=ko kvs k
def DPut (H:Hp) (a:Addr) (y v:V) (H':Hp):Prop :=
 (∃ kvs k,H a=some (.dK kvs)/\y=kV k/\kvs.length < sizeLine/\H'=upd H a (.dK (jf kvs k v))) \/
 ∃ kvs k b,H a=some (.dT kvs)/\y=.ref b/\H b=some (.tup (k.map kV))/\kvs.length < sizeLine/\H'=upd H a (.dT (jf kvs k v))
theorem DPut.k {H:Hp} {a:Addr} {kvs:List (Key×V)} {k:Key} {v:V} (e:H a=some (.dK kvs)) (hl:kvs.length < sizeLine):DPut H a (kV k) v (upd H a (.dK (jf kvs k v))):=.inl ⟨kvs,k,e,rfl,hl,rfl⟩
section
variable {X:Cx} {pins:List (Addr×Obj)} {σ:St} {H:Hp} {s:Shared} {a:Addr} {y v:V} {u r:Value} {o:Option V} {A:Around} {E:Value->Shared->Prop}
theorem Inv.big (I:Inv X pins σ H s):sysModules < s.heap.objs.size:=by
 have h:mainGlobals < s.heap.objs.size:=(I.mod.glob.keeps I.bk).lt
 exact Nat.lt_trans (by decide) h
theorem xH {Q:Value->Shared->Prop} (hu:A.units+1 < cLine) (I:Inv X pins σ H s) (g:xP H a y (some v)) (ry:RelV y u) (h:∀ w' s',Inv X pins σ H s'->RelV v w'->Q w' s') :
 wpAny (model X.prog X.w) A (getItem (.ref a) u) Q E s:=by
 rcases g with ⟨kvs,k,e,ey,l⟩ | ⟨kvs,k,b,e,ey,eb,l⟩
 . subst ey
   obtain ⟨z,hd,vs,rel,dd⟩:=ug I.hok e
   obtain ⟨w',hw,rw'⟩:=RelO.some_of (v:=v) (o:=valueAt vs k) (by rw [l];exact rel.val k)
   exact wpAny_getItem_of (tM ry) dd.mapOf hw (h w' _ (I.tok _) rw')
 . subst ey
   cases (show u=Value.ref b from ry)
   obtain ⟨z,hd,xs,rel,dd⟩:=wH I.hok e
   obtain ⟨w',hw,rw'⟩:=RelO.some_of (v:=v) (o:=(atKey xs k).map (·.2)) (by rw [l];exact rel.val k)
   obtain ⟨p,hp,hp2⟩:=Zb.mp hw
   refine wpAny_getItem_heap (tupleKind_room_in1 hu) (rL I.hok eb) dd hp ?_
   rw [hp2]
   exact h w' _ (I.tok _) rw'
theorem Bp {Q:Value->Shared->Prop} (hu:A.units+1 < cLine) (I:Inv X pins σ H s) (g:xP H a y o) (ry:RelV y u) (h:∀ s',Inv X pins σ H s'->Q (.bool (!o.isSome)) s') :
 wpAny (model X.prog X.w) A (compareOp .NotIn u (.ref a)) Q E s:=by
 rcases g with ⟨kvs,k,e,ey,l⟩ | ⟨kvs,k,b,e,ey,eb,l⟩
 . subst ey
   obtain ⟨z,hd,vs,rel,dd⟩:=ug I.hok e
   refine wpAny_notIn_of (tM ry) hd dd.mapOf ?_
   rw [<- (rel.val k).isSome_eq,<- l]
   exact h _ (I.tok _)
 . subst ey
   cases (show u=Value.ref b from ry)
   obtain ⟨z,hd,xs,rel,dd⟩:=wH I.hok e
   refine wpAny_notIn_heap (tupleKind_room_in1 hu) (rL I.hok eb) hd dd ?_
   have q:=(rel.val k).isSome_eq
   rw [Option.isSome_map] at q
   rw [<- q,<- l]
   exact h _ (I.tok _)
theorem rY {h':Heap} {t':Nat} {ob:HO} (I:Inv X pins σ H s) (mu:Mut (H a)) (hs:Heap.SameBut a s.heap h') (he:∃ q,h'.get? a=some q) (new:ObjOk X.prog X.w (upd H a ob) h' a ob) :
 Inv X pins σ (upd H a ob) { s with heap:=h',toks:=t' } :=
 I.write (x:=a) (e:=a) mu (.inl rfl) (fun b q hb z=>(hs.2 b hb).trans z) he new
theorem u7 {P:Program} {w:World} {H':Hp} {h':Heap} {kvs:List (Key×V)} {vs:List (Key×Value)} (z:kvs.length<=sizeLine) (hd:(a == sysModules)=false) (rel:KV kvs vs) (dd:h'.DictOf (ce P w) a vs) :
 ObjOk P w H' h' a (.dK kvs):=⟨z,hd,vs,rel,dd⟩
theorem xG {H':Hp} {Q:Unit->Shared->Prop} (hu:A.units+1 < cLine) (I:Inv X pins σ H s) (g:DPut H a y v H') (ry:RelV y u) (rv:RelV v r) (h:∀ s',Inv X pins σ H' s'->Q () s') :
 wpAny (model X.prog X.w) A (setItem (.ref a) u r) Q E s:=by
 rcases g with ⟨kvs,k,e,ey,l,eH⟩ | ⟨kvs,k,b,e,ey,eb,l,eH⟩
 . subst ey eH
   obtain ⟨z,hd,vs,rel,dd⟩:=BR I.hok e
   have hz:vs.length<=sizeLine:=by rw [<- rel.length];exact z
   have hl:(jf kvs k v).length<=sizeLine:=by have:=jn kvs k v;omega
   refine wpAny_setItem_pairs (hsz:=hz) (tM ry) dd fun h' dd' hs=>h _ ?_
   have he:∃ q,h'.get? a=some q:=let ⟨q,_,_,hq,_⟩:=dd';⟨q,hq⟩
   exact rY I (by rw [e];exact True.intro) hs he (u7 hl hd (rel.put k rv) dd')
 . subst ey eH
   cases (show u=Value.ref b from ry)
   obtain ⟨z,hd,xs,rel,dd⟩:=EE I.hok e
   have hz:xs.length<=sizeLine:=by rw [<- Paired.length rel];exact z
   have hl:(jf kvs k v).length<=sizeLine:=by have:=jn kvs k v;omega
   refine wpAny_setItem_heap (hsz:=hz) (tupleKind_room_in1 hu) (rL I.hok eb) dd fun h' dd' hs=>h _ ?_
   obtain ⟨q,es,ep,hq,h2,h3,h4,_,h5⟩:=dd'
   refine rY I (by rw [e];exact True.intro) hs ⟨q,hq⟩ ⟨hl,hd,_,(rel.put k eb rv).keeps fun c ys ec=>?_,q,es,ep,hq,h2,h3,h4,h5⟩
   rw [aD (Ea ec e (fun z=>nomatch z))]
   exact ec
end
section
variable {X:Cx} {pins:List (Addr×Obj)} {σ:St} {H:Hp} {s:Shared} {a:Addr} {kvs:List (Key×V)} {k:Key} {u:Value} {A:Around} {E:Value->Shared->Prop}
end
def Dm (i:Expr):Prop:=∀ ov iv,subscripted i false ov iv=operate [ov,iv] (getItem ov iv)
theorem Ac {prog:Program} {w:World} {A:Around} {E:Value->Shared->Prop} {s:Shared} {env:Env} {value slice:Expr} {pos:Pos} {T id:String} {Q:Value->Shared->Prop}
 (hl:typeLookup (.type T) "__getitem__" = pure (some (.builtin id))) (hs:Dm slice)
 (h:wpAny (model prog w) A (eval value env) (fun o s₁=>wpAny (model prog w) A (eval slice env) (fun i s₂=>s₂.TypeIs o T/\wpAny (model prog w) A (getItem o i) Q E s₂) E s₁) E s) :
 wpAny (model prog w) A (eval (.Subscript value slice pos) env) Q E s:=by
 refine Subscript_ (wpAny_mono h (fun o s₁ h₁=>wpAny_mono h₁ (fun i s₂ h₂=>?_) fun _ _ x=>x) fun _ _ x=>x)
 obtain ⟨hT,h₂⟩:=h₂
 unfold subscriptTail
 refine wpAny_bind ?_
 rw [getitemInPython_of_ne hT.not_modules]
 refine wpAny_bind (wpAny_specialOf hT hl ?_)
 have fin:wpAny (model prog w) A (subscripted slice false o i) (fun r s₃=>wpAny (model prog w) A (letTemporaryGo value o r >>= fun _=>pure r) Q E s₃) E s₂:=by
  rw [hs o i]
  exact wpAny_operating (wpAny_mono h₂ (fun r s₃ h₃=>wpAny_bind (wpAny_letTemporaryGo (wpAny_pure h₃))) fun _ _ x=>x)
 first
  | exact wpAny_pure (wpAny_bind fin)
  | exact wpAny_bind (wpAny_pure (wpAny_bind fin))
  | exact wpAny_bind fin
theorem uh {X:Cx} {pins:List (Addr×Obj)} {σ:St} {H:Hp} {s:Shared} {a:Addr} {y:V} {o:Option V} (I:Inv X pins σ H s) (g:xP H a y o):s.TypeIs (.ref a) "dict":=by
 rcases g with ⟨kvs,k,e,_,_⟩ | ⟨kvs,k,b,e,_,_,_⟩
 . obtain ⟨_,_,vs,_,dd⟩:=ug I.hok e
   exact dd.typeIs
 . obtain ⟨_,_,xs,_,dd⟩:=wH I.hok e
   exact dd.typeIs
def DD (td ty:TE):TE:=fun σ H Q=>td σ H fun x H1=>ty σ H1 fun y H2=>∃ a v,x=.ref a/\xP H2 a y (some v)/\Q v H2
def vo (ty td:TE):TE:=fun σ H Q=>ty σ H fun y H1=>td σ H1 fun x H2=>∃ a o,x=.ref a/\xP H2 a y o/\Q (.bl (!o.isSome)) H2
def DJ (td ty tv:TE):TS:=fun D σ H=>tv σ H fun v H1=>td σ H1 fun x H2=>ty σ H2 fun y H3=>∃ a H4,x=.ref a/\DPut H3 a y v H4/\D.nx σ H4
section
variable {X:Cx} {o i e value:Expr} {pos pos' tpos:Pos} {td ty tv:TE}
theorem AC (hu:X.A.units+1 < cLine) (ho:PE X o td) (hi:PE X i ty) (hs:Dm i):PE X (.Subscript o i pos) (DD td ty):=by
 intro pins s σ H Q I h
 refine Ac PySem.F.slot_dict_getitem.lookup hs (thn (ho pins s σ H _ I h) fun u s1 ⟨x,H1,I1,rx,q1⟩=>thn (hi pins s1 σ H1 _ I1 q1) fun iv s2 ⟨y,H2,I2,ry,a,v,ex,g,q2⟩=>?_)
 subst ex
 obtain rfl:u=Value.ref a:=rx
 exact ⟨uh I2 g,xH hu I2 g ry fun w' s3 I3 rw'=>⟨v,H2,I3,rw',q2⟩⟩
theorem xj (hu:X.A.units+1 < cLine) (hi:PE X i ty) (ho:PE X o td):PC X .NotIn i o (vo ty td):=by
 intro pins s σ H Q I h
 refine thn (hi pins s σ H _ I h) fun iv s1 ⟨y,H1,I1,ry,q1⟩=>thn (ho pins s1 σ H1 _ I1 q1) fun u s2 ⟨x,H2,I2,rx,a,ov,ex,g,q2⟩=>?_
 subst ex
 obtain rfl:u=Value.ref a:=rx
 exact Bp hu I2 g ry fun s3 I3=>⟨.bl (!ov.isSome),H2,I3,rfl,q2⟩
theorem Ar (hu:X.A.units+1 < cLine) (ho:PE X o td) (hi:PE X i ty) (hv:PE X value tv) (hs:swapsWith value (some (.Subscript o i pos')) pos.line X.env=pure false) :
 PS X (.Assign [.Subscript o i pos'] value pos) (DJ td ty tv):=by
 intro pins s σ H D I h
 refine wpAny_Assign_Subscript (thn (hv pins s σ H _ I h) fun r s1 ⟨v,H1,I1,rv,q1⟩=>thn (ho pins s1 σ H1 _ I1 q1) fun u s2 ⟨x,H2,I2,rx,q2⟩=>thn (hi pins s2 σ H2 _ I2 q2) fun iv s3 ⟨y,H3,I3,ry,a,H4,ex,g,q3⟩=>?_) hs
 subst ex
 obtain rfl:u=Value.ref a:=rx
 exact xG hu I3 g ry rv fun s4 I4=>⟨σ,H4,I4,q3⟩
end
theorem zQ {P:Program} {w:World} {H:Hp} (h:Heap) (hb:sysModules < h.objs.size):ObjOk P w H (h.push { cls:=.type "dict",data:=.dict #[] }) h.objs.size (.dK []) :=
 ⟨Nat.zero_le _,beq_eq_false_iff_ne.mpr (Ne.symm (Nat.ne_of_lt hb)),[],.nil,Heap.DictOf.new h⟩
section
variable {X:Cx} {pos:Pos}
end
def uz:List (TE×TE)->St->Hp->(List (V×V)->Hp->Prop)->Prop
 | [],_,H,Q=>Q [] H
 | (tk,tv) :: r,σ,H,Q=>tk σ H fun x H1=>tv σ H1 fun y H2=>uz r σ H2 fun ps H3=>Q ((x,y) :: ps) H3
abbrev VV:List (V×V)->List (Value×Value)->Prop:=Paired fun p q=>RelV p.1 q.1/\RelV p.2 q.2
def PPs (X:Cx) (pos:Pos) (keys:List (Option Expr)) (values:List Expr) (trs:List (TE×TE)):Prop :=
 ∀ (pins:List (Addr×Obj)) (s:Shared) (σ:St) (H:Hp) (Q:List (V×V)->Hp->Prop),Inv X pins σ H s->uz trs σ H Q ->
  wpAny (model X.prog X.w) X.A (evalPairs (pairTrees keys values X.env pos)) (fun vs s'=>∃ ps H',Inv X pins σ H' s'/\VV ps vs/\Q ps H') X.xe s
theorem At {X:Cx} {pos:Pos}:PPs X pos [] [] []:=fun pins s σ H Q I h=>pairTrees_nil_walk ⟨[],H,I,.nil,h⟩
theorem yx {X:Cx} {pos:Pos} {k v:Expr} {ks:List (Option Expr)} {vs:List Expr} {tk tv:TE} {trs:List (TE×TE)} (hk:PE X k tk) (hv:PE X v tv) (hr:PPs X pos ks vs trs) :
 PPs X pos (some k :: ks) (v :: vs) ((tk,tv) :: trs):=fun pins s σ H Q I h =>
 pairTrees_cons_walk (thn (hk pins s σ H _ I h) fun u s1 ⟨x,H1,I1,rx,q1⟩=>thn (hv pins s1 σ H1 _ I1 q1) fun w2 s2 ⟨y,H2,I2,ry,q2⟩ =>
  thn (hr pins s2 σ H2 _ I2 q2) fun ws s3 ⟨ps,H3,I3,rel,q3⟩=>⟨(x,y) :: ps,H3,I3,.cons ⟨rx,ry⟩ rel,q3⟩)
def oj (kvs more:List (Key×V)):List (Key×V):=more.foldl (fun acc kv=>jf acc kv.1 kv.2) kvs
theorem KV.merge:∀ {more:List (Key×V)} {rs:List (Key×Value)} {kvs:List (Key×V)} {vs:List (Key×Value)},KV more rs->KV kvs vs->KV (oj kvs more) (merged vs rs):=by
 intro more rs kvs vs r
 unfold KV at r
 induction r generalizing kvs vs with
 | nil=>intro q;exact q
 | @cons p q ps qs h t ih =>
  intro r0
  have e:KV (jf kvs p.1 p.2) (stored vs q.1 q.2):=by
   have:=r0.put p.1 h.2
   rw [<- h.1];exact this
  exact ih e
theorem jW:∀ (more kvs:List (Key×V)),(oj kvs more).length<=kvs.length+more.length
 | [],kvs=>by show kvs.length<=kvs.length+0;omega
 | p :: r,kvs=>by
  have h1:=jW r (jf kvs p.1 p.2)
  have h2:=jn kvs p.1 p.2
  show (oj (jf kvs p.1 p.2) r).length<=_
  rw [List.length_cons];omega
theorem oV {P:Program} {w:World}:∀ {kvs:List (Key×V)} {ws:List (Value×Value)},VV (kvs.map fun kv=>(kV kv.1,kv.2)) ws->∃ rs,Carries (ce P w) ws rs/\KV kvs rs
 | [],_,r=>by rw [List.map_nil] at r;cases r;exact ⟨[],True.intro,.nil⟩
 | p :: kvs,_,r=>by
  rw [Zr] at r
  cases r with
  | @cons a b as bs h t =>
   obtain ⟨rs,c,q⟩:=oV (P:=P) (w:=w) t
   obtain ⟨b1,b2⟩:=b
   exact ⟨(p.1,b2) :: rs,⟨tM h.1,rfl,c⟩,.cons ⟨rfl,h.2⟩ q⟩
def DC (trs:List (TE×TE)):TE:=fun σ H Q=>∀ p,H p=none->uz trs σ (upd H p (.dK [])) fun ps H2=>H2 p=some (.dK [])/\∃ kvs:List (Key×V),ps=kvs.map (fun kv=>(kV kv.1,kv.2))/\kvs.length<=15/\Q (.ref p) (upd H2 p (.dK (oj [] kvs)))
theorem AB {X:Cx} {pos:Pos} {keys:List (Option Expr)} {values:List Expr} {trs:List (TE×TE)} (h:PPs X pos keys values trs) (hall:keys.all (·.isSome)=true) (hl:keys.length=values.length) (h0:keys ≠ [])
 (h15:keys.length<=15):PE X (.Dict keys values pos) (DC trs):=by
 intro pins s σ H Q I q
 have hn:=I.hok.fresh (Nat.le_refl s.heap.objs.size)
 have I1:=I.laid (a:=s.heap.objs.size) (o:=.dK []) (h':=s.heap.push { cls:=.type "dict",data:=.dict #[] }) (t':=s.toks) (fun _ _ q=>Heap.get?_push_of_some _ q) (Nat.le_refl _) (zQ s.heap I.big)
 refine wpAny_Dict_walk (knd:=ce X.prog X.w) hall hl h0 h15 (thn (h pins _ σ _ _ I1 (q _ hn)) fun ws s2 ⟨ps,H2,I2,rel,e,kvs,ep,lk,q2⟩=>?_)
 subst ep
 obtain ⟨rs,c,rk⟩:=oV (P:=X.prog) (w:=X.w) rel
 obtain ⟨z,hd,vs0,r0,dd⟩:=BR I2.hok e
 cases r0
 refine ⟨rs,c,dd,fun h' dd' hs=>⟨.ref s.heap.objs.size,_,?_,rfl,q2⟩⟩
 have hz:(oj [] kvs).length<=sizeLine:=by
  have h1:=jW kvs []
  rw [List.length_nil] at h1
  rw [sizeLine_eq];omega
 have he:∃ q,h'.get? s.heap.objs.size=some q:=let ⟨q,_,_,hq,_⟩:=dd';⟨q,hq⟩
 exact rY I2 (by rw [e];exact True.intro) hs he (u7 hz hd (rk.merge .nil) dd')
section
variable {X:Cx} {pins:List (Addr×Obj)} {σ:St} {H:Hp} {s:Shared} {a:Addr} {y d:V} {u r:Value} {o:Option V} {A:Around} {E:Value->Shared->Prop}
end
section
variable {X:Cx} {o e f:Expr} {apos cpos:Pos} {td ty tx:TE}
end
section
variable {X:Cx} {pins:List (Addr×Obj)} {σ:St} {H:Hp} {s:Shared} {a:Addr} {kvs:List (Key×V)} {A:Around} {E:Value->Shared->Prop}
theorem zR {Q:Value->Shared->Prop} (I:Inv X pins σ H s) (e:Rd H a (.dK kvs)) (h:∀ p s',H p=none->Inv X pins σ (upd H p (.dK kvs)) s'->Q (.ref p) s'):wpAny (model X.prog X.w) A (call (.type "dict") [.ref a]) Q E s:=by
 obtain ⟨z,hd,vs,rel,dd⟩:=ug I.hok e
 refine kt_call_dict hd dd (by rw [<- rel.length];exact z) fun h' dd' hs=>?_
 refine h _ _ (I.hok.fresh (Nat.le_refl _)) (I.laid (a:=s.heap.objs.size) (o:=.dK kvs) (t':=s.toks) (fun b q hq=>?_) (Nat.le_refl _) (u7 z (beq_eq_false_iff_ne.mpr (Ne.symm (Nat.ne_of_lt I.big))) rel dd'))
 exact (hs.2 b (Nat.ne_of_lt (Heap.lt_size hq))).trans (Heap.get?_push_of_some _ hq)
end
section
variable {X:Cx} {pins:List (Addr×Obj)} {σ:St} {H:Hp} {s:Shared} {a:Addr} {y:V} {u:Value} {A:Around} {E:Value->Shared->Prop}
end
end L2
namespace Mth
def gc (t b:Int):Int:=(Int.gcd t b:Int)
theorem dr {t b:Int} (h:0 < b):0 < gc t b:=by
 unfold gc
 have:0 < Int.gcd t b:=Int.gcd_pos_of_ne_zero_right t (by omega)
 omega
theorem wa {t b:Int}:gc b (t % b)=gc t b:=by
 unfold gc
 have h:t % b=t+(-(t / b))*b:=by
  have:=Int.emod_add_mul_ediv t b
  grind
 rw [h,Int.gcd_add_mul_right_right,Int.gcd_comm]
theorem v8 {t:Int} (h:0<=t):gc t 0=t:=by
 unfold gc
 rw [Int.gcd_zero_right];omega
theorem dO {t b:Int}:gc t b ∣ t:=Int.gcd_dvd_left t b
theorem cM {t b:Int}:gc t b ∣ b:=Int.gcd_dvd_right t b
theorem qq {t b:Int} (h:0 < b):gc t b<=b:=Int.le_of_dvd h cM
theorem CW {t b:Int}:gc (t.natAbs:Int) b=gc t b:=by
 unfold gc;simp [Int.gcd]
def rd (t b:Int):Int×Int:=(t / gc t b,b / gc t b)
structure Lo (a b:Int):Prop where
 pos:0 < b
 one:gc a b=1
theorem B7 {t b:Int}:(rd t b).1*gc t b=t:=Int.ediv_mul_cancel dO
theorem An {t b:Int}:(rd t b).2*gc t b=b:=Int.ediv_mul_cancel cM
theorem kM {t b:Int} (h:0 < b):Lo (rd t b).1 (rd t b).2:=by
 have hg:=dr (t:=t) h
 constructor
 . have e:=An (t:=t) (b:=b)
   have:0 < (rd t b).2*gc t b:=by omega
   exact Int.pos_of_mul_pos_left this hg
 . unfold gc rd
   simp only
   have:=Int.gcd_ediv_gcd_ediv_gcd (i:=t) (j:=b) (by unfold gc at hg;omega)
   unfold gc
   rw [this];rfl
theorem sV {t b:Int}:(rd t b).1*b=t*(rd t b).2:=by
 have e1:=B7 (t:=t) (b:=b)
 have e2:=An (t:=t) (b:=b)
 generalize (rd t b).1=x at *
 generalize (rd t b).2=y at *
 generalize gc t b=g at *
 subst e1 e2
 grind
theorem Lo.ext {a b c d:Int} (h:Lo a b) (k:Lo c d) (e:a*d=c*b):a=c/\b=d:=by
 have hb:=h.pos
 have hd:=k.pos
 have h1:b ∣ d:=by
  have:b ∣ a*d:=⟨c,by rw [e,Int.mul_comm]⟩
  have hg:Int.gcd b a=1:=by have:=h.one;unfold gc at this;rw [Int.gcd_comm];omega
  have h3:=Int.dvd_gcd_mul_iff_dvd_mul.mpr this
  rw [hg] at h3
  simpa using h3
 have h2:d ∣ b:=by
  have:d ∣ c*b:=⟨a,by rw [<- e,Int.mul_comm]⟩
  have hg:Int.gcd d c=1:=by have:=k.one;unfold gc at this;rw [Int.gcd_comm];omega
  have h3:=Int.dvd_gcd_mul_iff_dvd_mul.mpr this
  rw [hg] at h3
  simpa using h3
 have hbd:b=d:=Int.le_antisymm (Int.le_of_dvd hd h1) (Int.le_of_dvd hb h2)
 subst hbd
 exact ⟨Int.eq_of_mul_eq_mul_right (by omega) e,rfl⟩
theorem yf {t b a c:Int} (h:0 < b) (k:Lo a c) (e:t*c=a*b):rd t b=(a,c):=by
 have x:=(kM (t:=t) h).ext k (by
  have e1:=B7 (t:=t) (b:=b)
  have e2:=An (t:=t) (b:=b)
  have hg:=dr (t:=t) h
  generalize (rd t b).1=x at *
  generalize (rd t b).2=y at *
  generalize gc t b=g at *
  have:g*(x*c)=g*(a*y):=by grind
  exact Int.eq_of_mul_eq_mul_left (by omega) this)
 exact Prod.ext x.1 x.2
theorem sU {a b:Int} (h:Lo a b):rd a b=(a,b):=yf h.pos h rfl
def pl (p q:Int×Int):Int×Int:=rd (p.1*q.2+q.1*p.2) (p.2*q.2)
def mi (p q:Int×Int):Int×Int:=rd (p.1*q.2 - q.1*p.2) (p.2*q.2)
def ti (p q:Int×Int):Int×Int:=rd (p.1*q.1) (p.2*q.2)
abbrev Lw (p:Int×Int):Prop:=Lo p.1 p.2
theorem BC {t b:Int} (h:0 < b):Lw (rd t b):=kM h
theorem tf {p q:Int×Int} (h:0 < p.2) (k:0 < q.2):Lw (pl p q):=kM (Int.mul_pos h k)
theorem y0 {p q:Int×Int} (h:0 < p.2) (k:0 < q.2):Lw (mi p q):=kM (Int.mul_pos h k)
theorem Dt {p q:Int×Int} (h:0 < p.2) (k:0 < q.2):Lw (ti p q):=kM (Int.mul_pos h k)
theorem Lo.neg {a b:Int} (h:Lo a b):Lo (-a) b:=⟨h.pos,by have:=h.one;unfold gc at *;rw [Int.neg_gcd];exact this⟩
def Sm (k:Nat) (x:Int):Prop:=x.natAbs < 2 ^ k
theorem Sm.mono {k l:Nat} {x:Int} (h:Sm k x) (e:k<=l):Sm l x:=Nat.lt_of_lt_of_le h (Nat.pow_le_pow_right (by decide) e)
theorem Sm.mul {k l:Nat} {x y:Int} (h:Sm k x) (g:Sm l y):Sm (k+l) (x*y):=by
 unfold Sm at *
 rw [Int.natAbs_mul,Nat.pow_add]
 exact Nat.mul_lt_mul'' h g
theorem Sm.add {k:Nat} {x y:Int} (h:Sm k x) (g:Sm k y):Sm (k+1) (x+y):=by
 unfold Sm at *
 rw [Nat.pow_succ];omega
theorem Sm.sub {k:Nat} {x y:Int} (h:Sm k x) (g:Sm k y):Sm (k+1) (x - y):=by
 unfold Sm at *
 rw [Nat.pow_succ];omega
theorem Sm.neg {k:Nat} {x:Int} (h:Sm k x):Sm k (-x):=by unfold Sm at *;omega
theorem Sm.of {k:Nat} {x:Int} (h:-(2 ^ k:Nat) < x) (g:x < (2 ^ k:Nat)):Sm k x:=by unfold Sm;omega
theorem Sm.div {k:Nat} {x g:Int} (h:Sm k x) (hg:0 < g) (d:g ∣ x):Sm k (x / g):=by
 obtain ⟨c,rfl⟩:=d
 rw [Int.mul_ediv_cancel_left _ (by omega)]
 unfold Sm at *
 rw [Int.natAbs_mul] at h
 have:1*c.natAbs<=g.natAbs*c.natAbs:=Nat.mul_le_mul_right _ (by omega)
 omega
theorem pR {k:Nat} {t b:Int} (hb:0 < b) (h:Sm k t) (g:Sm k b):Sm k (rd t b).1/\Sm k (rd t b).2 :=
 ⟨h.div (dr hb) dO,g.div (dr hb) cM⟩
structure Fr (k:Nat) (p:Int×Int):Prop where
 lw:Lw p
 s1:Sm k p.1
 s2:Sm k p.2
theorem Fr.mono {k l:Nat} {p:Int×Int} (h:Fr k p) (e:k<=l):Fr l p:=⟨h.lw,h.s1.mono e,h.s2.mono e⟩
theorem Fr.pos {k:Nat} {p:Int×Int} (h:Fr k p):0 < p.2:=h.lw.pos
theorem Fr.pl {k:Nat} {p q:Int×Int} (h:Fr k p) (g:Fr k q):Fr (k+k+1) (pl p q) :=
 have z:=pR (k:=k+k+1) (Int.mul_pos h.pos g.pos) ((h.s1.mul g.s2).add (g.s1.mul h.s2)) ((h.s2.mul g.s2).mono (by omega))
 ⟨tf h.pos g.pos,z.1,z.2⟩
theorem Fr.mi {k:Nat} {p q:Int×Int} (h:Fr k p) (g:Fr k q):Fr (k+k+1) (mi p q) :=
 have z:=pR (k:=k+k+1) (Int.mul_pos h.pos g.pos) ((h.s1.mul g.s2).sub (g.s1.mul h.s2)) ((h.s2.mul g.s2).mono (by omega))
 ⟨y0 h.pos g.pos,z.1,z.2⟩
theorem Fr.rd {k:Nat} {t b:Int} (h:0 < b) (s:Sm k t) (g:Sm k b):Fr k (rd t b):=⟨BC h,(pR h s g).1,(pR h s g).2⟩
def low (t b:Int):Int×Int:=if b < 0 then rd (-t) (-b) else rd t b
theorem AS {t b:Int} (h:0 < b):low t b=rd t b:=by unfold low;rw [if_neg (by omega)]
theorem zb {k:Nat} {t b:Int} (h:b ≠ 0) (s:Sm k t) (g:Sm k b):Fr k (low t b):=by
 unfold low
 split
 . exact Fr.rd (by omega) s.neg g.neg
 . exact Fr.rd (by omega) s g
end Mth
namespace Mth
abbrev Bn:=Option (Int×Bool)
def kp (p:Int×Int):Bn->Bool
 | none=>true
 | some (n,true)=>decide (p.1*1 < n*p.2)
 | some (n,false)=>!decide (n*p.2 < p.1*1)
def bs:Bn->Bn->Bn
 | some (n,s),some (m,t)=>some (n+m,s || t)
 | _,_=>none
theorem r8 (a b:Bn):bs b a=bs a b:=by
 rcases a with _ | ⟨n,s⟩ <;> rcases b with _ | ⟨m,t⟩ <;> simp [bs,Int.add_comm,Bool.or_comm]
theorem gk (a b c:Bn):bs (bs a b) c=bs a (bs b c):=by
 rcases a with _ | ⟨n,s⟩ <;> rcases b with _ | ⟨m,t⟩ <;> rcases c with _ | ⟨l,u⟩ <;> simp [bs,Int.add_assoc,Bool.or_assoc]
theorem fI (a:Bn):bs a (some (0,false))=a:=by
 rcases a with _ | ⟨n,s⟩ <;> simp [bs]
def Kp (p:Int×Int):Bn->Prop
 | none=>True
 | some (n,true)=>p.1 < n*p.2
 | some (n,false)=>p.1<=n*p.2
theorem uT {p:Int×Int} {b:Bn}:kp p b=true <-> Kp p b:=by
 rcases b with _ | ⟨n,_ | _⟩
 . simp [kp,Kp]
 . simp [kp,Kp]
 . simp [kp,Kp]
def b2 (s:Bool):Int:=if s then 1 else 0
def far (f:Int) (s:Bool):Int:=if f=0/\s=true then 1 else f
end Mth
namespace Mth
def tgt:Bn->Bn->Bool
 | none,_=>false
 | some _,none=>true
 | some (n,s),some (m,t)=>if n=m then s && !t else decide (n < m)
theorem uy (n m:Int) (s t:Bool):tgt (some (n,s)) (some (m,t))=if n=m then s && !t else decide (n < m):=rfl
theorem i9 (a:Bn):tgt a a=false:=by
 rcases a with _ | ⟨n,s⟩
 . rfl
 . simp [tgt]
def BL:Bn->List Int
 | none=>[]
 | some (n,_)=>[n]
def E2 (a b:Bn):List Int:=0 :: (BL a++BL b)
def E6 (n:Int):List (Int×Int):=[(n,1),(2*n - 1,2),(2*n+1,2),(n+1,1),(n - 1,1)]
def half:Bn->Bn->Int
 | none,none=>0+0
 | none,some (m,_)=>m+0
 | some (n,_),none=>n+0
 | some (n,_),some (m,_)=>m+n
def tr (a b:Bn):List (Int×Int):=(E2 a b).flatMap E6++[low (half a b) 2]
end Mth
namespace Mth
end Mth
namespace Mth
def Le (a b:Bn):Prop:=tgt b a=false
theorem Le.refl (a:Bn):Le a a:=i9 a
theorem jG (a:Bn):Le a none:=rfl
theorem ot {n m:Int} {s t:Bool}:Le (some (n,s)) (some (m,t)) <-> n < m \/ (n=m/\(t=true->s=true)):=by
 unfold Le
 rw [uy]
 by_cases h:m=n
 . subst h
   rw [if_pos rfl]
   cases s <;> cases t <;> simp
 . rw [if_neg h,decide_eq_false_iff_not]
   constructor
   . intro g
     exact .inl (by omega)
   . rintro (g | ⟨g,_⟩)
     . omega
     . exact absurd g.symm h
theorem dN {n:Int} {s:Bool}:¬ Le none (some (n,s)):=fun h=>by cases h
theorem Le.trans {a b c:Bn} (h:Le a b) (g:Le b c):Le a c:=by
 rcases c with _ | ⟨p,u⟩
 . exact jG a
 rcases b with _ | ⟨m,t⟩
 . exact absurd g dN
 rcases a with _ | ⟨n,s⟩
 . exact absurd h dN
 rw [ot] at *
 rcases h with h | ⟨h,h'⟩ <;> rcases g with g | ⟨g,g'⟩
 . exact .inl (by omega)
 . exact .inl (by omega)
 . exact .inl (by omega)
 . exact .inr ⟨by omega,fun z=>h' (g' z)⟩
theorem Le.total (a b:Bn):Le a b \/ Le b a:=by
 rcases a with _ | ⟨n,s⟩
 . exact .inr (jG b)
 rcases b with _ | ⟨m,t⟩
 . exact .inl (jG _)
 rw [ot,ot]
 by_cases h:n=m
 . subst h
   cases s <;> cases t <;> simp
 . by_cases g:n < m
   . exact .inl (.inl g)
   . exact .inr (.inl (by omega))
theorem Le.antisymm {a b:Bn} (h:Le a b) (g:Le b a):a=b:=by
 rcases a with _ | ⟨n,s⟩
 . rcases b with _ | ⟨m,t⟩
   . rfl
   . exact absurd h dN
 rcases b with _ | ⟨m,t⟩
 . exact absurd g dN
 rw [ot] at *
 have e:n=m:=by omega
 subst e
 have h':t=true->s=true:=by rcases h with h | h;omega;exact h.2
 have g':s=true->t=true:=by rcases g with g | g;omega;exact g.2
 cases s <;> cases t <;> simp_all
theorem p0 {a b:Bn} (h:tgt a b=true):Le a b:=by
 rcases Le.total a b with z | z
 . exact z
 . unfold Le at z
   rw [h] at z;cases z
theorem Le.sum {a b c d:Bn} (h:Le a b) (g:Le c d):Le (bs a c) (bs b d):=by
 rcases b with _ | ⟨m,t⟩
 . exact jG _
 rcases d with _ | ⟨q,v⟩
 . exact jG _
 rcases a with _ | ⟨n,s⟩
 . exact absurd h dN
 rcases c with _ | ⟨p,u⟩
 . exact absurd g dN
 show Le (some (n+p,s || u)) (some (m+q,t || v))
 rw [ot] at *
 rcases h with h | ⟨h,h'⟩ <;> rcases g with g | ⟨g,g'⟩
 . exact .inl (by omega)
 . exact .inl (by omega)
 . exact .inl (by omega)
 . refine .inr ⟨by omega,fun z=>?_⟩
   rw [Bool.or_eq_true] at *
   rcases z with z | z
   . exact .inl (h' z)
   . exact .inr (g' z)
abbrev b0:Bn:=some (0,false)
theorem jY (a:Bn):bs b0 a=a:=by rw [r8,fI]
def Nn (a:Bn):Prop:=Le b0 a
theorem nn_kp {a:Bn}:kp (0,1) a=true <-> Nn a:=by
 rw [uT]
 rcases a with _ | ⟨n,s⟩
 . exact ⟨fun _=>jG _,fun _=>trivial⟩
 unfold Nn
 rw [ot]
 cases s with
 | false =>
  show 0<=n*1 <-> _
  constructor
  . intro h
    by_cases z:0=n
    . exact .inr ⟨z,by simp⟩
    . exact .inl (by omega)
  . rintro (h | ⟨h,_⟩) <;> omega
 | true =>
  show 0 < n*1 <-> _
  constructor
  . intro h
    exact .inl (by omega)
  . rintro (h | ⟨h,g⟩)
    . omega
    . exact absurd (g rfl) (by decide)
section
variable (c:Nat->Nat->Bn)
def dm:Nat->Nat->Nat->Bn
 | 0=>c
 | m+1=>fun i j=>if tgt (bs (dm m i m) (dm m m j)) (dm m i j) then bs (dm m i m) (dm m m j) else dm m i j
def Ok (n m:Nat):Prop:=∀ k,k < m->∀ i,i < n->Nn (bs (dm c k i k) (dm c k k i))
variable {c} {n:Nat}
theorem zO (m i j:Nat):Le (dm c (m+1) i j) (dm c m i j):=by
 show Le (if _ then _ else _) _
 split
 . rename_i h;exact p0 h
 . exact Le.refl _
theorem rW (m i j:Nat):Le (dm c (m+1) i j) (bs (dm c m i m) (dm c m m j)):=by
 show Le (if _ then _ else _) _
 split
 . exact Le.refl _
 . rename_i h
   cases q:tgt (bs (dm c m i m) (dm c m m j)) (dm c m i j) with
   | true=>exact absurd q h
   | false=>exact q
theorem l7 (m i j:Nat):dm c (m+1) i j=dm c m i j \/ dm c (m+1) i j=bs (dm c m i m) (dm c m m j):=by
 show (if _ then _ else _)=_ \/ (if _ then _ else _)=_
 split
 . exact .inr rfl
 . exact .inl rfl
structure Fw (c:Nat->Nat->Bn) (n m:Nat):Prop where
 dia:∀ i,i < n->dm c m i i=b0
 clo:∀ k,k < m->∀ i j,i < n->j < n->Le (dm c m i j) (bs (dm c m i k) (dm c m k j))
theorem wo (h:∀ i,i < n->c i i=b0):Fw c n 0:=⟨h,fun k hk=>by omega⟩
theorem C0 {m:Nat} (w:Fw c n m) (hm:m < n) (j:Nat):dm c (m+1) m j=dm c m m j:=by
 rcases l7 (c:=c) m m j with h | h
 . exact h
 . rw [h,w.dia m hm,jY]
theorem C2 {m:Nat} (w:Fw c n m) (hm:m < n) (i:Nat):dm c (m+1) i m=dm c m i m:=by
 rcases l7 (c:=c) m i m with h | h
 . exact h
 . rw [h,w.dia m hm,fI]
theorem wu {m:Nat} (w:Fw c n m) (hm:m < n) (ok:∀ i,i < n->Nn (bs (dm c m i m) (dm c m m i))):Fw c n (m+1):=by
 refine ⟨fun i hi=>?_,fun k hk i j hi hj=>?_⟩
 . refine Le.antisymm ((zO m i i).trans (by rw [w.dia i hi];exact Le.refl _)) ?_
   rcases l7 (c:=c) m i i with h | h
   . rw [h,w.dia i hi];exact Le.refl _
   . rw [h];exact ok i hi
 . by_cases hkm:k=m
   . subst hkm
     rw [C2 w hm,C0 w hm]
     exact rW k i j
   . have hkm:k < m:=by omega
     have hkn:k < n:=by omega
     have mid:Le (bs (dm c m i m) (dm c m m j)) (bs (bs (dm c m i m) (dm c m m k)) (dm c m k j)):=by
      rw [gk]
      exact Le.sum (Le.refl _) (w.clo k hkm m j hm hj)
     have mid2:Le (bs (dm c m i m) (dm c m m j)) (bs (dm c m i k) (bs (dm c m k m) (dm c m m j))):=by
      rw [<- gk]
      exact Le.sum (w.clo k hkm i m hi hm) (Le.refl _)
     rcases l7 (c:=c) m i k with h1 | h1 <;> rcases l7 (c:=c) m k j with h2 | h2 <;> rw [h1,h2]
     . exact (zO m i j).trans (w.clo k hkm i j hi hj)
     . exact (rW m i j).trans mid2
     . exact (rW m i j).trans mid
     . refine (rW m i j).trans ?_
       have z:Nn (bs (dm c m m k) (dm c m k m)):=by
        have:=w.clo k hkm m m hm hm
        rw [w.dia m hm] at this
        exact this
       have e:bs (bs (dm c m i m) (dm c m m k)) (bs (dm c m k m) (dm c m m j))=bs (dm c m i m) (bs (bs (dm c m m k) (dm c m k m)) (dm c m m j)):=by
        rw [gk,gk]
       rw [e]
       refine Le.sum (Le.refl _) ?_
       have:=Le.sum z (Le.refl (dm c m m j))
       rw [jY] at this
       exact this
theorem zy (h:∀ i,i < n->c i i=b0):∀ m,m<=n->Ok c n m->Fw c n m
 | 0,_,_=>wo h
 | m+1,hm,ok=>wu (zy h m (by omega) fun k hk=>ok k (by omega)) (by omega) (ok m (by omega))
variable (c) in
def wt:List Nat->Bn
 | []=>b0
 | [_]=>b0
 | a :: b :: r=>bs (c a b) (wt (b :: r))
theorem j0:∀ (xs:List Nat) (v:Nat) (ys:List Nat),wt c (xs++v :: ys)=bs (wt c (xs++[v])) (wt c (v :: ys))
 | [],v,ys=>by
  show wt c (v :: ys)=bs b0 (wt c (v :: ys))
  rw [jY]
 | [a],v,ys=>by
  show bs (c a v) (wt c (v :: ys))=bs (bs (c a v) b0) (wt c (v :: ys))
  rw [fI]
 | a :: b :: xs,v,ys=>by
  show bs (c a b) (wt c ((b :: xs)++v :: ys))=bs (bs (c a b) (wt c ((b :: xs)++[v]))) (wt c (v :: ys))
  rw [j0 (b :: xs) v ys,gk]
theorem zP (a z:Nat):∀ k,Le (dm c k a z) (c a z)
 | 0=>Le.refl _
 | k+1=>(zO k a z).trans (zP a z k)
theorem sg {m:Nat} (w:Fw c n m) (hm:m<=n):∀ (xs:List Nat) (a z:Nat),a < n->z < n->(∀ x∈xs,x < m)->Le (dm c m a z) (wt c (a :: (xs++[z])))
 | [],a,z,ha,hz,_=>by
  show Le _ (bs (c a z) b0)
  rw [fI]
  exact zP a z m
 | x :: xs,a,z,ha,hz,h=>by
  have hx:=h x Zk
  have ih:=sg w hm xs x z (by omega) hz fun y my=>h y (Zl _ my)
  show Le _ (bs (c a x) (wt c (x :: (xs++[z]))))
  exact (w.clo x hx a z ha hz).trans (Le.sum (zP a x m) ih)
structure Way (c:Nat->Nat->Bn) (n m i j:Nat) (p:List Nat):Prop where
 hd:∃ xs,p=i :: xs/\∀ x∈xs,x < m
 nd:i ≠ j->(p++[j]).Nodup
 sm:wt c (p++[j])=dm c m i j
theorem Way.lt {m i j:Nat} {p:List Nat} (w:Way c n m i j p) (hi:i < n) (hm:m<=n):∀ x∈p,x < n:=fun x mx=>by
 obtain ⟨xs,rfl,h⟩:=w.hd
 rcases Zq.mp mx with e | e
 . omega
 . have:=h x e;omega
theorem Ee {m i j v:Nat} {p q:List Nat} (w:Fw c n m) (hm:m < n) (hi:i < n) (hj:j < n) (wp:Way c n m i m p) (wq:Way c n m m j q) (hv:v < m) (vp:v∈p) (vq:v∈q++[j]) :
 Le (bs (dm c m i v) (dm c m v j)) (bs (dm c m i m) (dm c m m j)):=by
 have hvn:v < n:=by omega
 obtain ⟨xs,rfl,hx⟩:=wp.hd
 obtain ⟨ys,rfl,hy⟩:=wq.hd
 have c1:Le (bs (dm c m i v) (dm c m v m)) (dm c m i m):=by
  rcases Zq.mp vp with e | e
  . subst e
    rw [w.dia v hvn,jY]
    exact Le.refl _
  . obtain ⟨s,t,rfl⟩:=List.append_of_mem e
    rw [<- wp.sm]
    have e1:i :: (s++v :: t)++[m]=(i :: s)++v :: (t++[m]):=by simp
    rw [e1,j0]
    exact Le.sum (sg w (by omega) s i v hi hvn fun x mx=>hx x (List.mem_append_left _ mx)) (sg w (by omega) t v m hvn hm fun x mx=>hx x (List.mem_append_right _ (Zl _ mx)))
 have c2:Le (bs (dm c m m v) (dm c m v j)) (dm c m m j):=by
  rcases Zp.mp vq with e | e
  . rcases Zq.mp e with e | e
    . omega
    . obtain ⟨s,t,rfl⟩:=List.append_of_mem e
      rw [<- wq.sm]
      have e1:m :: (s++v :: t)++[j]=(m :: s)++v :: (t++[j]):=by simp
      rw [e1,j0]
      exact Le.sum (sg w (by omega) s m v hm hvn fun x mx=>hy x (List.mem_append_left _ mx)) (sg w (by omega) t v j hvn hj fun x mx=>hy x (List.mem_append_right _ (Zl _ mx)))
  . have:v=j:=by simpa using e
    subst this
    rw [w.dia v hvn,fI]
    exact Le.refl _
 refine Le.trans ?_ (Le.sum c1 c2)
 have z:Nn (bs (dm c m v m) (dm c m m v)):=by
  have:=w.clo v hv m m hm hm
  rw [w.dia m hm,r8] at this
  exact this
 have e:bs (bs (dm c m i v) (dm c m v m)) (bs (dm c m m v) (dm c m v j))=bs (dm c m i v) (bs (bs (dm c m v m) (dm c m m v)) (dm c m v j)):=by
  rw [gk,gk]
 rw [e]
 refine Le.sum (Le.refl _) ?_
 have:=Le.sum z (Le.refl (dm c m v j))
 rw [jY] at this
 exact this
theorem og {p q:List Nat} (h:p.Nodup) (g:q.Nodup) (d:∀ x,x∈p->x ∉ q):(p++q).Nodup:=List.nodup_append.mpr ⟨h,g,fun x hx y hy e=>by subst e;exact d x hx hy⟩
theorem xT {m i j:Nat} {p:List Nat} (w:Way c n m i j p) (e:dm c (m+1) i j=dm c m i j):Way c n (m+1) i j p:=by
 obtain ⟨xs,h,hx⟩:=w.hd
 exact ⟨⟨xs,h,fun x mx=>Nat.lt_succ_of_lt (hx x mx)⟩,w.nd,w.sm.trans e.symm⟩
theorem z8 {m i j:Nat} {p q:List Nat} (w:Fw c n m) (hm:m < n) (hi:i < n) (hj:j < n) (wp:Way c n m i m p) (wq:Way c n m m j q) (ok:Nn (bs (dm c m i m) (dm c m m i))) (t:tgt (bs (dm c m i m) (dm c m m j)) (dm c m i j)=true):Way c n (m+1) i j (p++q):=by
 have him:i ≠ m:=fun e=>by
  subst e
  rw [w.dia i hi,jY,i9] at t
  cases t
 have hmj:m ≠ j:=fun e=>by
  subst e
  rw [w.dia m hm,fI,i9] at t
  cases t
 have e1:dm c (m+1) i j=bs (dm c m i m) (dm c m m j):=if_pos t
 have ndp:=List.nodup_append.mp (wp.nd him)
 have ndq:=wq.nd hmj
 obtain ⟨xs,ep,hx⟩:=wp.hd
 obtain ⟨ys,eq,hy⟩:=wq.hd
 refine ⟨⟨xs++q,by rw [ep];rfl,fun x mx=>?_⟩,fun hij=>?_,?_⟩
 . rcases Zp.mp mx with z | z
   . have:=hx x z;omega
   . rw [eq] at z
     rcases Zq.mp z with z | z
     . omega
     . have:=hy x z;omega
 . rw [List.append_assoc]
   refine og ndp.1 ndq fun v vp vq=>?_
   have no:∀ v,v < m->v∈p->v∈q++[j]->False:=fun v hv vp vq=>by
    have h1:=Ee w hm hi hj wp wq hv vp vq
    have h2:=(w.clo v hv i j hi hj).trans h1
    unfold Le at h2
    rw [t] at h2
    cases h2
   have vm:v ≠ m:=fun e=>ndp.2.2 v vp m (by simp) e
   have vp':=vp
   rw [ep] at vp'
   rcases Zq.mp vp' with e | e
   . -- v is i
     subst e
     rcases Zp.mp vq with z | z
     . rw [eq] at z
       rcases Zq.mp z with z | z
       . exact vm z
       . exact no v (hy v z) vp vq
     . exact hij (by simpa using z)
   . exact no v (hx v e) vp vq
 . rw [List.append_assoc]
   rw [eq]
   rw [List.cons_append,j0,<- List.cons_append,<- eq,wp.sm,wq.sm,e1]
theorem Al {m i:Nat} {p q:List Nat} (w:Fw c n m) (hm:m < n) (hi:i < n) (wp:Way c n m i m p) (wq:Way c n m m i q) (bad:¬ Nn (bs (dm c m i m) (dm c m m i))):(p++q).Nodup/\i ≠ m/\wt c (p++q++[i])=bs (dm c m i m) (dm c m m i):=by
 have him:i ≠ m:=fun e=>bad (by subst e;rw [w.dia i hi,jY];exact Le.refl _)
 have ndp:=List.nodup_append.mp (wp.nd him)
 have ndq:=List.nodup_append.mp (wq.nd (Ne.symm him))
 obtain ⟨xs,ep,hx⟩:=wp.hd
 obtain ⟨ys,eq,hy⟩:=wq.hd
 refine ⟨og ndp.1 ndq.1 fun v vp vq=>?_,him,?_⟩
 . have vm:v ≠ m:=fun e=>ndp.2.2 v vp m (by simp) e
   have hv:v < m:=by
    rw [eq] at vq
    rcases Zq.mp vq with z | z
    . exact absurd z vm
    . exact hy v z
   have h1:=Ee w hm hi hi wp wq hv vp (List.mem_append_left _ vq)
   have h2:=w.clo v hv i i hi hi
   rw [w.dia i hi] at h2
   exact bad (h2.trans h1)
 . rw [List.append_assoc,eq,List.cons_append,j0,<- List.cons_append,<- eq,wp.sm,wq.sm]
theorem xS (i j:Nat):Way c n 0 i j [i]:=⟨⟨[],rfl,fun _ m=>nomatch m⟩,fun h=>by simp [h],by show bs (c i j) b0=c i j;rw [fI]⟩
end
def tg2 (a b:Bn):Bn:=if tgt b a then b else a
theorem Dv (a b:Bn):Le (tg2 a b) a:=by
 unfold tg2
 split
 . rename_i h;exact p0 h
 . exact Le.refl _
theorem Du (a b:Bn):Le (tg2 a b) b:=by
 unfold tg2
 split
 . exact Le.refl _
 . rename_i h
   cases q:tgt b a with
   | true=>exact absurd q h
   | false=>exact q
theorem Ab {x a b:Bn} (h:Le x a) (g:Le x b):Le x (tg2 a b):=by
 unfold tg2
 split
 . exact g
 . exact h
def sqf (f:Nat->Nat->Bn) (i j:Nat) (ms:List Nat) (x:Bn):Bn:=ms.foldl (fun x m=>tg2 x (bs (f i m) (f m j))) x
theorem qM (f:Nat->Nat->Bn) (i j:Nat):∀ (ms:List Nat) (x:Bn),Le (sqf f i j ms x) x
 | [],x=>Le.refl _
 | m :: ms,x=>(qM f i j ms _).trans (Dv _ _)
theorem vy (f:Nat->Nat->Bn) (i j:Nat):∀ (ms:List Nat) (x:Bn) (m:Nat),m∈ms->Le (sqf f i j ms x) (bs (f i m) (f m j))
 | [],x,m,h=>nomatch h
 | k :: ms,x,m,h=>by
  rcases Zq.mp h with e | e
  . subst e
    exact (qM f i j ms _).trans (Du _ _)
  . exact vy f i j ms _ m e
theorem vz (f:Nat->Nat->Bn) (i j:Nat) {y:Bn}:∀ (ms:List Nat) (x:Bn),Le y x->(∀ m∈ms,Le y (bs (f i m) (f m j)))->Le y (sqf f i j ms x)
 | [],x,h,_=>h
 | k :: ms,x,h,g=>vz f i j ms _ (Ab h (g k Zk)) fun m hm=>g m (Zl _ hm)
def sq (n:Nat) (f:Nat->Nat->Bn) (i j:Nat):Bn:=sqf f i j (List.range n) (f i j)
def sqs (n:Nat) (f:Nat->Nat->Bn):Nat->Nat->Nat->Bn
 | 0=>f
 | k+1=>sq n (sqs n f k)
section
variable {c:Nat->Nat->Bn} {n:Nat}
theorem sw (k i j:Nat):Le (sqs n c k i j) (c i j):=by
 induction k with
 | zero=>exact Le.refl _
 | succ k ih=>exact (qM _ i j _ _).trans ih
theorem qL (w:Fw c n n):∀ (k i j:Nat),i < n->j < n->Le (dm c n i j) (sqs n c k i j)
 | 0,i,j,_,_=>zP i j n
 | k+1,i,j,hi,hj=>vz _ i j _ _ (qL w k i j hi hj) fun m hm=>by
  have hm:=Zo.mp hm
  exact (w.clo m hm i j hi hj).trans (Le.sum (qL w k i m hi hm) (qL w k m j hm hj))
theorem nJ (d:∀ i,i < n->c i i=b0):∀ (k:Nat) (xs:List Nat) (a z:Nat),a < n->z < n->(∀ x∈xs,x < n)->xs.length+1<=2 ^ k->Le (sqs n c k a z) (wt c (a :: (xs++[z])))
 | 0,[],a,z,_,_,_,_=>by
  show Le (c a z) (bs (c a z) b0)
  rw [fI]
  exact Le.refl _
 | 0,x :: xs,a,z,_,_,_,h=>by simp at h
 | k+1,xs,a,z,ha,hz,hx,h=>by
  by_cases hl:xs.length+1<=2 ^ k
  . exact (qM _ a z _ _).trans (nJ d k xs a z ha hz hx hl)
  . have hp:0 < 2 ^ k:=Nat.pos_of_ne_zero (by simp)
    have h2:2 ^ (k+1)=2 ^ k+2 ^ k:=by omega
    have hlt:2 ^ k - 1 < xs.length:=by omega
    have e:xs=xs.take (2 ^ k - 1)++xs[2 ^ k - 1] :: xs.drop (2 ^ k - 1+1):=by
     rw [<- List.drop_eq_getElem_cons hlt,List.take_append_drop]
    generalize hv:xs[2 ^ k - 1]=v at e
    have hvn:v < n:=by rw [<- hv];exact hx _ (List.getElem_mem _)
    have l1:(xs.take (2 ^ k - 1)).length=2 ^ k - 1:=by rw [List.length_take];omega
    have l2:(xs.drop (2 ^ k - 1+1)).length=xs.length - (2 ^ k - 1+1):=List.length_drop
    have m1:∀ x∈xs.take (2 ^ k - 1),x < n:=fun x m=>hx x (List.mem_of_mem_take m)
    have m2:∀ x∈xs.drop (2 ^ k - 1+1),x < n:=fun x m=>hx x (List.mem_of_mem_drop m)
    generalize xs.take (2 ^ k - 1)=p at *
    generalize xs.drop (2 ^ k - 1+1)=q at *
    have e1:a :: (xs++[z])=(a :: p)++v :: (q++[z]):=by rw [e];simp
    rw [e1,j0]
    exact (vy _ a z _ _ v (Zo.mpr hvn)).trans (Le.sum (nJ d k p a v ha hvn m1 (by omega)) (nJ d k q v z hvn hz m2 (by omega)))
theorem iu:∀ (n:Nat) (p:List Nat),p.Nodup->(∀ x∈p,x < n)->p.length<=n
 | 0,[],_,_=>Nat.le_refl _
 | 0,x :: p,_,h=>absurd (h x Zk) (by omega)
 | n+1,p,nd,h=>by
  have ih:=iu n (p.erase n) (nd.erase n) fun x m=>by
   have m':=(List.Nodup.mem_erase_iff nd).mp m
   have:=h x m'.2
   omega
  have:=List.length_erase (a:=n) (l:=p)
  split at this <;> omega
theorem um (d:∀ i,i < n->c i i=b0) (ok:Ok c n n) (hn:n<=16) (ways:∀ i j,i < n->j < n->∃ p,Way c n n i j p) {i j:Nat} (hi:i < n) (hj:j < n):sqs n c 4 i j=dm c n i j:=by
 have w:=zy d n (Nat.le_refl n) ok
 refine Le.antisymm ?_ (qL w 4 i j hi hj)
 by_cases hij:i=j
 . subst hij
   rw [w.dia i hi]
   have:=sw (n:=n) (c:=c) 4 i i
   rw [d i hi] at this
   exact this
 . obtain ⟨p,wp⟩:=ways i j hi hj
   have nd:=List.nodup_append.mp (wp.nd hij)
   have lt:=wp.lt hi (Nat.le_refl n)
   have ln:=iu n p nd.1 lt
   obtain ⟨xs,ep,hx⟩:=wp.hd
   rw [<- wp.sm,ep,List.cons_append]
   rw [ep] at ln
   exact nJ d 4 xs i j hi hj hx (by rw [List.length_cons] at ln;omega)
theorem uD (d:∀ i,i < n->c i i=b0) (hn:n<=16) {r:List Nat} {i:Nat} (h:∃ xs,r=i :: xs) (nd:r.Nodup) (lt:∀ x∈r,x < n) (bad:¬ Nn (wt c (r++[i]))):sqs n c 4 i i ≠ b0:=fun e=>by
 obtain ⟨xs,rfl⟩:=h
 have ln:=iu n _ nd lt
 have hi:=lt i Zk
 have:=nJ d 4 xs i i hi hi (fun x m=>lt x (Zl _ m)) (by rw [List.length_cons] at ln;omega)
 rw [e] at this
 exact bad this
theorem vi (xs:List Nat) (a b:Nat):wt c (xs++[a,b])=bs (wt c (xs++[a])) (c a b):=by
 rw [j0 xs a [b]]
 show bs _ (bs (c a b) b0)=_
 rw [fI]
theorem sj {c c':Nat->Nat->Bn}:∀ (l:List Nat),l.Nodup->(∀ a b,a∈l->b∈l->a ≠ b->c a b=c' a b)->wt c l=wt c' l
 | [],_,_=>rfl
 | [_],_,_=>rfl
 | a :: b :: r,nd,h=>by
  have n1:=List.nodup_cons.mp nd
  show bs (c a b) (wt c (b :: r))=bs (c' a b) (wt c' (b :: r))
  rw [h a b Zk (Zl _ Zk) fun e=>n1.1 (e ▸ Zk),sj (b :: r) n1.2 fun x y hx hy=>h x y (Zl _ hx) (Zl _ hy)]
end
end Mth
namespace Mth
theorem ju (n:Int):Rat.divInt n 1=(n:Rat):=by simp [Rat.divInt,Rat.mkRat_one]
def vl (p:Int×Int):Rat:=Rat.divInt p.1 p.2
theorem xU {t b:Int} (h:0 < b):vl (rd t b)=Rat.divInt t b:=by
 unfold vl
 have l:=(kM (t:=t) h).pos
 rw [Rat.divInt_eq_divInt_iff (by omega) (by omega)]
 exact sV
theorem vj {p q:Int×Int} (hp:0 < p.2) (hq:0 < q.2):vl (pl p q)=vl p+vl q:=by
 unfold pl
 rw [xU (Int.mul_pos hp hq)]
 unfold vl
 rw [Rat.divInt_add_divInt _ _ (by omega) (by omega)]
theorem nC {p q:Int×Int} (hp:0 < p.2) (hq:0 < q.2):vl (mi p q)=vl p - vl q:=by
 unfold mi
 rw [xU (Int.mul_pos hp hq)]
 unfold vl
 rw [Rat.divInt_sub_divInt _ _ (by omega) (by omega)]
theorem Dp {p q:Int×Int} (hp:0 < p.2) (hq:0 < q.2):vl (ti p q)=vl p*vl q:=by
 unfold ti
 rw [xU (Int.mul_pos hp hq)]
 unfold vl
 rw [Rat.divInt_mul_divInt]
theorem hU (n:Int):vl (n,1)=(n:Rat):=by
 unfold vl
 exact ju n
theorem u8 {t b:Int} (hb:0 < b):0 < Rat.divInt t b <-> 0 < t:=by
 have hb':(0:Rat) < (b:Rat):=by
  have:=(Rat.intCast_lt_intCast (a:=0) (b:=b)).mpr hb
  simpa using this
 have e:Rat.divInt t b*(b:Rat)=(t:Rat):=by
  have h1:(b:Rat)=Rat.divInt b 1:=(ju b).symm
  have h2:(t:Rat)=Rat.divInt t 1:=(ju t).symm
  rw [h1,h2,Rat.divInt_mul_divInt,Rat.divInt_eq_divInt_iff (by omega) (by omega)]
  grind
 constructor
 . intro h
   have:=Rat.mul_pos h hb'
   rw [e] at this
   exact (Rat.intCast_lt_intCast (a:=0)).mp (by simpa using this)
 . intro h
   have ht:(0:Rat) < (t:Rat):=by
    have:=(Rat.intCast_lt_intCast (a:=0) (b:=t)).mpr h
    simpa using this
   rw [<- e] at ht
   by_cases q:0 < Rat.divInt t b
   . exact q
   . have:Rat.divInt t b*(b:Rat)<=0:=by
      have h3:Rat.divInt t b<=0:=by grind
      have:=Rat.mul_le_mul_of_nonneg_right h3 (Rat.le_of_lt hb')
      grind
     grind
theorem pz {p q:Int×Int} (hp:0 < p.2) (hq:0 < q.2):vl p < vl q <-> p.1*q.2 < q.1*p.2:=by
 have h:=u8 (t:=q.1*p.2 - p.1*q.2) (b:=q.2*p.2) (Int.mul_pos hq hp)
 have e:Rat.divInt (q.1*p.2 - p.1*q.2) (q.2*p.2)=vl q - vl p:=by
  unfold vl
  rw [Rat.divInt_sub_divInt _ _ (by omega) (by omega)]
 rw [e] at h
 constructor
 . intro g
   have:=h.mp (by grind)
   omega
 . intro g
   have:=h.mpr (by omega)
   grind
def Kq (x:Rat):Bn->Prop
 | none=>True
 | some (n,true)=>x < (n:Rat)
 | some (n,false)=>x<=(n:Rat)
theorem BN {p:Int×Int} {b:Bn} (hp:0 < p.2):kp p b=true <-> Kq (vl p) b:=by
 rw [uT]
 rcases b with _ | ⟨n,s⟩
 . exact Iff.rfl
 have h1:=pz (p:=p) (q:=(n,1)) hp (show (0:Int) < 1 by decide)
 have h2:=pz (p:=(n,1)) (q:=p) (show (0:Int) < 1 by decide) hp
 rw [hU] at h1 h2
 cases s with
 | true =>
  show p.1 < n*p.2 <-> vl p < (n:Rat)
  rw [h1]
  simp
 | false =>
  show p.1<=n*p.2 <-> vl p<=(n:Rat)
  constructor
  . intro g
    have:¬ (n:Rat) < vl p:=fun z=>by
     have:=h2.mp z
     simp at this
     omega
    grind
  . intro g
    by_cases z:n*p.2 < p.1
    . have:=h2.mpr (by simpa using z)
      grind
    . omega
theorem Kq.sum {x y:Rat} {a b:Bn} (h:Kq x a) (g:Kq y b):Kq (x+y) (bs a b):=by
 rcases a with _ | ⟨n,s⟩
 . trivial
 rcases b with _ | ⟨m,t⟩
 . trivial
 cases s <;> cases t
 . show x+y<=((n+m:Int):Rat)
   have h':x<=(n:Rat):=h
   have g':y<=(m:Rat):=g
   rw [Rat.intCast_add]
   grind
 . show x+y < ((n+m:Int):Rat)
   have h':x<=(n:Rat):=h
   have g':y < (m:Rat):=g
   rw [Rat.intCast_add]
   grind
 . show x+y < ((n+m:Int):Rat)
   have h':x < (n:Rat):=h
   have g':y<=(m:Rat):=g
   rw [Rat.intCast_add]
   grind
 . show x+y < ((n+m:Int):Rat)
   have h':x < (n:Rat):=h
   have g':y < (m:Rat):=g
   rw [Rat.intCast_add]
   grind
theorem Kq.le {x:Rat} {a b:Bn} (h:Kq x a) (g:Le a b):Kq x b:=by
 rcases b with _ | ⟨m,t⟩
 . trivial
 rcases a with _ | ⟨n,s⟩
 . exact absurd g dN
 rw [ot] at g
 have mn:n<=m->(n:Rat)<=(m:Rat):=fun z=>Rat.intCast_le_intCast.mpr z
 have ml:n < m->(n:Rat) < (m:Rat):=fun z=>Rat.intCast_lt_intCast.mpr z
 cases s <;> cases t
 . have h':x<=(n:Rat):=h
   show x<=(m:Rat)
   have:=mn (by omega)
   grind
 . have h':x<=(n:Rat):=h
   show x < (m:Rat)
   rcases g with g | ⟨_,g⟩
   . have:=ml g
     grind
   . exact absurd (g rfl) (by decide)
 . have h':x < (n:Rat):=h
   show x<=(m:Rat)
   have:=mn (by omega)
   grind
 . have h':x < (n:Rat):=h
   show x < (m:Rat)
   have:=mn (by omega)
   grind
theorem rJ {a:Bn}:Kq 0 a <-> Nn a:=by
 rw [<- nn_kp,BN (by decide)]
 have:vl (0,1)=0:=by rw [hU];rfl
 rw [this]
def Li (c:Nat->Nat->Bn) (n:Nat) (x:Nat->Rat):Prop:=∀ i j,i < n->j < n->Kq (x i - x j) (c i j)
section
variable {c:Nat->Nat->Bn} {n:Nat} {x:Nat->Rat}
theorem zf (h:Li c n x):∀ m,m<=n->Li (dm c m) n x
 | 0,_=>h
 | m+1,hm=>fun i j hi hj=>by
  have ih:=zf h m (by omega)
  rcases l7 (c:=c) m i j with e | e
  . rw [e];exact ih i j hi hj
  . rw [e]
    have:=(ih i m hi (by omega)).sum (ih m j (by omega) hj)
    have e2:x i - x m+(x m - x j)=x i - x j:=by grind
    rw [e2] at this
    exact this
theorem ze {m:Nat} (h:Li (dm c m) n x):Li c n x:=fun i j hi hj=>(h i j hi hj).le (zP i j m)
theorem Ef {m i:Nat} (hm:m < n) (hi:i < n) (bad:¬ Nn (bs (dm c m i m) (dm c m m i))):¬ Li c n x:=fun h=>by
 have d:=zf h m (by omega)
 have:=(d i m hi hm).sum (d m i hm hi)
 have e2:x i - x m+(x m - x i)=0:=by grind
 rw [e2,rJ] at this
 exact bad this
theorem AU {i:Nat} (hi:i < n) (h:Li c n x):Nn (c i i):=by
 have:=h i i hi hi
 have e2:x i - x i=0:=by grind
 rw [e2,rJ] at this
 exact this
def iy (x:Nat->Rat) (d:Nat->Nat->Bn) (t j:Nat):Option Rat:=match d j t with
 | none=>none
 | some (k,_)=>some (x j - (k:Rat))
def fH (x:Nat->Rat) (d:Nat->Nat->Bn) (t j:Nat):Option Rat:=match d t j with
 | none=>none
 | some (k,_)=>some (x j+(k:Rat))
theorem oo {d:Nat->Nat->Bn} {t i j:Nat} {lo hi:Rat} (hij:Kq (x i - x j) (d i j)) (clo:Le (d i j) (bs (d i t) (d t j))) (h1:iy x d t i=some lo) (h2:fH x d t j=some hi):lo<=hi/\((∃ k,d i t=some (k,true)) \/ (∃ k,d t j=some (k,true))->lo < hi):=by
 have s:=hij.le clo
 unfold iy at h1
 unfold fH at h2
 rcases e1:d i t with _ | ⟨k,s1⟩
 . rw [e1] at h1;cases h1
 rcases e2:d t j with _ | ⟨l,s2⟩
 . rw [e2] at h2;cases h2
 rw [e1] at h1
 rw [e2] at h2
 cases h1
 cases h2
 rw [e1,e2] at s
 have s':Kq (x i - x j) (some (k+l,s1 || s2)):=s
 cases s1 <;> cases s2
 . have z:x i - x j<=((k+l:Int):Rat):=s'
   rw [Rat.intCast_add] at z
   refine ⟨by grind,fun w=>?_⟩
   rcases w with ⟨_,w⟩ | ⟨_,w⟩ <;> cases w
 . have z:x i - x j < ((k+l:Int):Rat):=s'
   rw [Rat.intCast_add] at z
   exact ⟨by grind,fun _=>by grind⟩
 . have z:x i - x j < ((k+l:Int):Rat):=s'
   rw [Rat.intCast_add] at z
   exact ⟨by grind,fun _=>by grind⟩
 . have z:x i - x j < ((k+l:Int):Rat):=s'
   rw [Rat.intCast_add] at z
   exact ⟨by grind,fun _=>by grind⟩
theorem qh {d:Nat->Nat->Bn} {t j:Nat} {y lo:Rat} (h1:iy x d t j=some lo) (h2:lo<=y) (h3:(∃ k,d j t=some (k,true))->lo < y):Kq (x j - y) (d j t):=by
 unfold iy at h1
 rcases e1:d j t with _ | ⟨k,s⟩
 . trivial
 rw [e1] at h1
 cases h1
 cases s
 . show x j - y<=(k:Rat)
   grind
 . have:=h3 ⟨k,e1⟩
   show x j - y < (k:Rat)
   grind
theorem oA {d:Nat->Nat->Bn} {t j:Nat} {y hi:Rat} (h1:fH x d t j=some hi) (h2:y<=hi) (h3:(∃ k,d t j=some (k,true))->y < hi):Kq (y - x j) (d t j):=by
 unfold fH at h1
 rcases e1:d t j with _ | ⟨k,s⟩
 . trivial
 rw [e1] at h1
 cases h1
 cases s
 . show y - x j<=(k:Rat)
   grind
 . have:=h3 ⟨k,e1⟩
   show y - x j < (k:Rat)
   grind
end
end Mth
namespace Mth
def btw (lo hi:Option (Int×Int)):Int×Int:=match lo,hi with
 | none,none=>(0,1)
 | none,some h=>mi h (1,1)
 | some l,none=>pl l (1,1)
 | some l,some h=>ti (pl l h) (1,2)
def gre:List (Int×Int)->Option (Int×Int)->Option (Int×Int)
 | [],o=>o
 | p :: ps,none=>gre ps (some p)
 | p :: ps,some q=>gre ps (some (if q.1*p.2 < p.1*q.2 then p else q))
def lea:List (Int×Int)->Option (Int×Int)->Option (Int×Int)
 | [],o=>o
 | p :: ps,none=>lea ps (some p)
 | p :: ps,some q=>lea ps (some (if p.1*q.2 < q.1*p.2 then p else q))
theorem oC:∀ {ps:List (Int×Int)} {q:Int×Int},(∀ p∈ps,0 < p.2)->0 < q.2->∃ g,gre ps (some q)=some g/\(g=q \/ g∈ps)/\vl q<=vl g/\∀ p∈ps,vl p<=vl g
 | [],q,_,_=>⟨q,rfl,.inl rfl,Rat.le_refl,fun p m=>nomatch m⟩
 | p :: ps,q,hp,hq=>by
  have h1:=hp p Zk
  have h2:∀ r∈ps,0 < r.2:=fun r m=>hp r (Zl _ m)
  show ∃ g,gre ps (some (if q.1*p.2 < p.1*q.2 then p else q))=some g/\_
  by_cases h:q.1*p.2 < p.1*q.2
  . rw [if_pos h]
    obtain ⟨g,e,m,a,b⟩:=oC h2 h1
    have l:=(pz hq h1).mpr h
    refine ⟨g,e,.inr ?_,Rat.le_trans (Rat.le_of_lt l) a,fun r mr=>?_⟩
    . rcases m with m | m
      . rw [m];exact Zk
      . exact Zl _ m
    . rcases Zq.mp mr with z | z
      . rw [z];exact a
      . exact b r z
  . rw [if_neg h]
    obtain ⟨g,e,m,a,b⟩:=oC h2 hq
    have l:vl p<=vl q:=Rat.not_lt.mp fun z=>h ((pz hq h1).mp z)
    refine ⟨g,e,?_,a,fun r mr=>?_⟩
    . rcases m with m | m
      . exact .inl m
      . exact .inr (Zl _ m)
    . rcases Zq.mp mr with z | z
      . rw [z];exact Rat.le_trans l a
      . exact b r z
theorem oq:∀ {ps:List (Int×Int)} {q:Int×Int},(∀ p∈ps,0 < p.2)->0 < q.2->∃ g,lea ps (some q)=some g/\(g=q \/ g∈ps)/\vl g<=vl q/\∀ p∈ps,vl g<=vl p
 | [],q,_,_=>⟨q,rfl,.inl rfl,Rat.le_refl,fun p m=>nomatch m⟩
 | p :: ps,q,hp,hq=>by
  have h1:=hp p Zk
  have h2:∀ r∈ps,0 < r.2:=fun r m=>hp r (Zl _ m)
  show ∃ g,lea ps (some (if p.1*q.2 < q.1*p.2 then p else q))=some g/\_
  by_cases h:p.1*q.2 < q.1*p.2
  . rw [if_pos h]
    obtain ⟨g,e,m,a,b⟩:=oq h2 h1
    have l:=(pz h1 hq).mpr h
    refine ⟨g,e,.inr ?_,Rat.le_trans a (Rat.le_of_lt l),fun r mr=>?_⟩
    . rcases m with m | m
      . rw [m];exact Zk
      . exact Zl _ m
    . rcases Zq.mp mr with z | z
      . rw [z];exact a
      . exact b r z
  . rw [if_neg h]
    obtain ⟨g,e,m,a,b⟩:=oq h2 hq
    have l:vl q<=vl p:=Rat.not_lt.mp fun z=>h ((pz h1 hq).mp z)
    refine ⟨g,e,?_,a,fun r mr=>?_⟩
    . rcases m with m | m
      . exact .inl m
      . exact .inr (Zl _ m)
    . rcases Zq.mp mr with z | z
      . rw [z];exact Rat.le_trans a l
      . exact b r z
theorem zt {ps:List (Int×Int)} (hp:∀ p∈ps,0 < p.2):(ps=[]/\gre ps none=none) \/ ∃ g,gre ps none=some g/\g∈ps/\∀ p∈ps,vl p<=vl g:=by
 cases ps with
 | nil=>exact .inl ⟨rfl,rfl⟩
 | cons p ps =>
  obtain ⟨g,e,m,a,b⟩:=oC (fun r m=>hp r (Zl _ m)) (hp p Zk)
  refine .inr ⟨g,e,?_,fun r mr=>?_⟩
  . rcases m with m | m
    . rw [m];exact Zk
    . exact Zl _ m
  . rcases Zq.mp mr with z | z
    . rw [z];exact a
    . exact b r z
theorem tL {ps:List (Int×Int)} (hp:∀ p∈ps,0 < p.2):(ps=[]/\lea ps none=none) \/ ∃ g,lea ps none=some g/\g∈ps/\∀ p∈ps,vl g<=vl p:=by
 cases ps with
 | nil=>exact .inl ⟨rfl,rfl⟩
 | cons p ps =>
  obtain ⟨g,e,m,a,b⟩:=oq (fun r m=>hp r (Zl _ m)) (hp p Zk)
  refine .inr ⟨g,e,?_,fun r mr=>?_⟩
  . rcases m with m | m
    . rw [m];exact Zk
    . exact Zl _ m
  . rcases Zq.mp mr with z | z
    . rw [z];exact a
    . exact b r z
abbrev Pl:=List (Nat×(Int×Int))
def eO (d:Nat->Nat->Bn) (ps:Pl) (t:Nat):List (Int×Int):=ps.filterMap fun p=>(d p.1 t).map fun b=>mi p.2 (b.1,1)
def dW (d:Nat->Nat->Bn) (ps:Pl) (t:Nat):List (Int×Int):=ps.filterMap fun p=>(d t p.1).map fun b=>pl p.2 (b.1,1)
def eQ (d:Nat->Nat->Bn) (ps:Pl) (t:Nat):Int×Int:=btw (gre (eO d ps t) none) (lea (dW d ps t) none)
section
variable {d:Nat->Nat->Bn} {ps:Pl} {t:Nat} {x:Nat->Rat}
theorem vW {g:Int×Int} (hp:∀ p∈ps,0 < p.2.2) (hx:∀ p∈ps,x p.1=vl p.2) (m:g∈eO d ps t):0 < g.2/\∃ p∈ps,iy x d t p.1=some (vl g):=by
 obtain ⟨p,mp,e⟩:=List.mem_filterMap.mp m
 rcases q:d p.1 t with _ | ⟨k,s⟩
 . rw [q] at e;cases e
 . rw [q] at e
   cases e
   refine ⟨(y0 (hp p mp) Int.zero_lt_one).pos,p,mp,?_⟩
   unfold iy
   rw [q]
   show some (x p.1 - (k:Rat))=_
   rw [nC (hp p mp) Int.zero_lt_one,hU,hx p mp]
theorem tZ {g:Int×Int} (hp:∀ p∈ps,0 < p.2.2) (hx:∀ p∈ps,x p.1=vl p.2) (m:g∈dW d ps t):0 < g.2/\∃ p∈ps,fH x d t p.1=some (vl g):=by
 obtain ⟨p,mp,e⟩:=List.mem_filterMap.mp m
 rcases q:d t p.1 with _ | ⟨k,s⟩
 . rw [q] at e;cases e
 . rw [q] at e
   cases e
   refine ⟨(tf (hp p mp) Int.zero_lt_one).pos,p,mp,?_⟩
   unfold fH
   rw [q]
   show some (x p.1+(k:Rat))=_
   rw [vj (hp p mp) Int.zero_lt_one,hU,hx p mp]
theorem rD {p:Nat×(Int×Int)} {lo:Rat} (hp:∀ p∈ps,0 < p.2.2) (hx:∀ p∈ps,x p.1=vl p.2) (m:p∈ps) (h:iy x d t p.1=some lo):∃ g∈eO d ps t,vl g=lo:=by
 unfold iy at h
 rcases q:d p.1 t with _ | ⟨k,s⟩
 . rw [q] at h;cases h
 . rw [q] at h
   cases h
   refine ⟨mi p.2 (k,1),List.mem_filterMap.mpr ⟨p,m,by rw [q];rfl⟩,?_⟩
   rw [nC (hp p m) Int.zero_lt_one,hU,hx p m]
theorem kZ {p:Nat×(Int×Int)} {hi:Rat} (hp:∀ p∈ps,0 < p.2.2) (hx:∀ p∈ps,x p.1=vl p.2) (m:p∈ps) (h:fH x d t p.1=some hi):∃ g∈dW d ps t,vl g=hi:=by
 unfold fH at h
 rcases q:d t p.1 with _ | ⟨k,s⟩
 . rw [q] at h;cases h
 . rw [q] at h
   cases h
   refine ⟨pl p.2 (k,1),List.mem_filterMap.mpr ⟨p,m,by rw [q];rfl⟩,?_⟩
   rw [vj (hp p m) Int.zero_lt_one,hU,hx p m]
theorem z9 {l h:Int×Int} (hl:0 < l.2) (hh:0 < h.2):vl (ti (pl l h) (1,2))+vl (ti (pl l h) (1,2))=vl l+vl h:=by
 rw [Dp (tf hl hh).pos (by decide),vj hl hh]
 have:vl (1,2)=1 / 2:=by unfold vl;rw [Rat.divInt_eq_div];rfl
 rw [this]
 grind
theorem wT (hp:∀ p∈ps,0 < p.2.2) (hx:∀ p∈ps,x p.1=vl p.2) (am:∀ p∈ps,∀ q∈ps,Kq (x p.1 - x q.1) (d p.1 q.1)) (clo:∀ p∈ps,∀ q∈ps,Le (d p.1 q.1) (bs (d p.1 t) (d t q.1))) :
 0 < (eQ d ps t).2/\∀ p∈ps,Kq (x p.1 - vl (eQ d ps t)) (d p.1 t)/\Kq (vl (eQ d ps t) - x p.1) (d t p.1):=by
 have lp:∀ g∈eO d ps t,0 < g.2:=fun g m=>(vW hp hx m).1
 have hpp:∀ g∈dW d ps t,0 < g.2:=fun g m=>(tZ hp hx m).1
 unfold eQ
 rcases zt lp with ⟨le,lo⟩ | ⟨l,lo,ml,la⟩
 . have nl:∀ p∈ps,d p.1 t=none:=fun p m=>by
    cases q:d p.1 t with
    | none=>rfl
    | some b =>
     obtain ⟨g,mg,_⟩:=rD (d:=d) (t:=t) (lo:=x p.1 - (b.1:Rat)) hp hx m (by unfold iy;rw [q])
     rw [le] at mg;cases mg
   rcases tL hpp with ⟨he,hi⟩ | ⟨h,hi,mh,ha⟩
   . have nh:∀ p∈ps,d t p.1=none:=fun p m=>by
      cases q:d t p.1 with
      | none=>rfl
      | some b =>
       obtain ⟨g,mg,_⟩:=kZ (d:=d) (t:=t) (hi:=x p.1+(b.1:Rat)) hp hx m (by unfold fH;rw [q])
       rw [he] at mg;cases mg
     rw [lo,hi]
     exact ⟨by decide,fun p m=>by rw [nl p m,nh p m];exact ⟨trivial,trivial⟩⟩
   . rw [lo,hi]
     have e:vl (btw none (some h))=vl h - 1:=by
      show vl (mi h (1,1))=_
      rw [nC (hpp h mh) (by decide),hU];rfl
     refine ⟨(y0 (hpp h mh) (by decide)).pos,fun p m=>⟨by rw [nl p m];trivial,?_⟩⟩
     rw [e]
     cases q:fH x d t p.1 with
     | none =>
      unfold fH at q
      cases q2:d t p.1 with
      | none=>trivial
      | some b=>rw [q2] at q;cases q
     | some u =>
      obtain ⟨g,mg,eg⟩:=kZ hp hx m q
      have:=ha g mg
      exact oA q (by grind) (fun _=>by grind)
 . rcases tL hpp with ⟨he,hi⟩ | ⟨h,hi,mh,ha⟩
   . have nh:∀ p∈ps,d t p.1=none:=fun p m=>by
      cases q:d t p.1 with
      | none=>rfl
      | some b =>
       obtain ⟨g,mg,_⟩:=kZ (d:=d) (t:=t) (hi:=x p.1+(b.1:Rat)) hp hx m (by unfold fH;rw [q])
       rw [he] at mg;cases mg
     rw [lo,hi]
     have e:vl (btw (some l) none)=vl l+1:=by
      show vl (pl l (1,1))=_
      rw [vj (lp l ml) (by decide),hU];rfl
     refine ⟨(tf (lp l ml) (by decide)).pos,fun p m=>⟨?_,by rw [nh p m];trivial⟩⟩
     rw [e]
     cases q:iy x d t p.1 with
     | none =>
      unfold iy at q
      cases q2:d p.1 t with
      | none=>trivial
      | some b=>rw [q2] at q;cases q
     | some u =>
      obtain ⟨g,mg,eg⟩:=rD hp hx m q
      have:=la g mg
      exact qh q (by grind) (fun _=>by grind)
   . rw [lo,hi]
     have e:=z9 (lp l ml) (hpp h mh)
     obtain ⟨_,pl',mpl,el⟩:=vW (x:=x) hp hx ml
     obtain ⟨_,ph,mph,eh⟩:=tZ (x:=x) hp hx mh
     have lh:=(oo (am _ mpl _ mph) (clo _ mpl _ mph) el eh).1
     refine ⟨(Dt (tf (lp l ml) (hpp h mh)).pos (by decide)).pos,fun p m=>⟨?_,?_⟩⟩
     . show Kq (x p.1 - vl (ti (pl l h) (1,2))) (d p.1 t)
       cases q:iy x d t p.1 with
       | none =>
        unfold iy at q
        cases q2:d p.1 t with
        | none=>trivial
        | some b=>rw [q2] at q;cases q
       | some u =>
        obtain ⟨g,mg,eg⟩:=rD hp hx m q
        have:=la g mg
        have z:=oo (am _ m _ mph) (clo _ m _ mph) q eh
        refine qh q (by grind) (fun w=>?_)
        have:=z.2 (.inl w)
        grind
     . show Kq (vl (ti (pl l h) (1,2)) - x p.1) (d t p.1)
       cases q:fH x d t p.1 with
       | none =>
        unfold fH at q
        cases q2:d t p.1 with
        | none=>trivial
        | some b=>rw [q2] at q;cases q
       | some u =>
        obtain ⟨g,mg,eg⟩:=kZ hp hx m q
        have:=ha g mg
        have z:=oo (am _ mpl _ m) (clo _ mpl _ m) el q
        refine oA q (by grind) (fun w=>?_)
        have:=z.2 (.inr w)
        grind
end
end Mth
namespace Mth
def Dy (W M:Int) (p:Int×Int):Prop:=0 < W/\Lw p/\∃ a:Int,p.1*W=a*p.2/\-(M*W)<=a/\a<=M*W
theorem Dy.w {W M:Int} {p:Int×Int} (h:Dy W M p):0 < W:=h.1
theorem Dy.lw {W M:Int} {p:Int×Int} (h:Dy W M p):Lw p:=h.2.1
theorem Dy.pos {W M:Int} {p:Int×Int} (h:Dy W M p):0 < p.2:=h.2.1.pos
theorem Dy.le {W M N:Int} {p:Int×Int} (h:Dy W M p) (e:M<=N):Dy W N p:=by
 obtain ⟨w,l,a,e1,e2,e3⟩:=h
 have z:=Int.mul_le_mul_of_nonneg_right e (Int.le_of_lt w)
 exact ⟨w,l,a,e1,by omega,by omega⟩
theorem Dy.up {W M:Int} {p:Int×Int} (h:Dy W M p):Dy (W*2) M p:=by
 obtain ⟨w,l,a,e1,e2,e3⟩:=h
 refine ⟨by omega,l,a*2,?_,?_,?_⟩
 . rw [<- Int.mul_assoc,e1,Int.mul_right_comm]
 . rw [<- Int.mul_assoc];omega
 . rw [<- Int.mul_assoc];omega
theorem zM {W M t b a:Int} (w:0 < W) (hb:0 < b) (e:t*W=a*b) (h1:-(M*W)<=a) (h2:a<=M*W):Dy W M (rd t b):=by
 refine ⟨w,BC hb,a,?_,h1,h2⟩
 have c:(rd t b).1*b=t*(rd t b).2:=sV
 have:((rd t b).1*W)*b=(a*(rd t b).2)*b:=by
  rw [Int.mul_right_comm,c,Int.mul_right_comm,e,Int.mul_right_comm]
 exact Int.eq_of_mul_eq_mul_right (by omega) this
theorem Dy.pl {W M N:Int} {p q:Int×Int} (h:Dy W M p) (g:Dy W N q):Dy W (M+N) (pl p q):=by
 obtain ⟨w,l,a,e1,e2,e3⟩:=h
 obtain ⟨_,l',b,f1,f2,f3⟩:=g
 refine zM (a:=a+b) w (Int.mul_pos l.pos l'.pos) ?_ (by rw [Int.add_mul];omega) (by rw [Int.add_mul];omega)
 have x1:p.1*q.2*W=a*p.2*q.2:=by rw [Int.mul_right_comm,e1]
 have x2:q.1*p.2*W=b*q.2*p.2:=by rw [Int.mul_right_comm,f1]
 rw [Int.add_mul,x1,x2,Int.add_mul,Int.mul_assoc,Int.mul_assoc b,Int.mul_comm q.2 p.2]
theorem Dy.mi {W M N:Int} {p q:Int×Int} (h:Dy W M p) (g:Dy W N q):Dy W (M+N) (mi p q):=by
 obtain ⟨w,l,a,e1,e2,e3⟩:=h
 obtain ⟨_,l',b,f1,f2,f3⟩:=g
 refine zM (a:=a - b) w (Int.mul_pos l.pos l'.pos) ?_ (by rw [Int.add_mul];omega) (by rw [Int.add_mul];omega)
 have x1:p.1*q.2*W=a*p.2*q.2:=by rw [Int.mul_right_comm,e1]
 have x2:q.1*p.2*W=b*q.2*p.2:=by rw [Int.mul_right_comm,f1]
 rw [Int.sub_mul,x1,x2,Int.sub_mul,Int.mul_assoc,Int.mul_assoc b,Int.mul_comm q.2 p.2]
theorem Dy.half {W M:Int} {p:Int×Int} (h:Dy W (M+M) p):Dy (W*2) M (ti p (1,2)):=by
 obtain ⟨w,l,a,e1,e2,e3⟩:=h
 refine zM (a:=a) (by omega) (Int.mul_pos l.pos (by decide)) ?_ ?_ ?_
 . show p.1*1*(W*2)=a*(p.2*2)
   rw [Int.mul_one,<- Int.mul_assoc,e1,Int.mul_assoc]
 . rw [<- Int.mul_assoc];rw [Int.add_mul] at e2;omega
 . rw [<- Int.mul_assoc];rw [Int.add_mul] at e3;omega
theorem jt {n M:Int} (h1:-M<=n) (h2:n<=M) {W:Int} (w:0 < W):Dy W M (n,1):=by
 refine ⟨w,⟨by show (0:Int) < 1;decide,?_⟩,n*W,by show n*W=n*W*1;rw [Int.mul_one],?_,?_⟩
 . show gc n 1=1
   unfold gc
   simp
 . rw [<- Int.neg_mul];exact Int.mul_le_mul_of_nonneg_right h1 (Int.le_of_lt w)
 . exact Int.mul_le_mul_of_nonneg_right h2 (Int.le_of_lt w)
theorem Dy.dvd {W M:Int} {p:Int×Int} (h:Dy W M p):p.2 ∣ W:=by
 obtain ⟨w,l,a,e1,_⟩:=h
 have d:p.2 ∣ p.1*W:=⟨a,by rw [e1,Int.mul_comm]⟩
 have g:Nat.Coprime p.2.natAbs p.1.natAbs:=by
  have:=l.one
  unfold gc at this
  rw [Int.gcd_comm] at this
  have z:Int.gcd p.2 p.1=1:=by omega
  exact z
 have d':=Int.natAbs_dvd_natAbs.mpr d
 rw [Int.natAbs_mul] at d'
 exact Int.natAbs_dvd_natAbs.mp (g.dvd_of_dvd_mul_left d')
theorem Dy.bot {W M:Int} {p:Int×Int} (h:Dy W M p):p.2<=W:=Int.le_of_dvd h.w h.dvd
theorem Dy.top {W M:Int} {p:Int×Int} (h:Dy W M p):-(M*W)<=p.1/\p.1<=M*W:=by
 have hb:=h.bot
 obtain ⟨w,l,a,e1,e2,e3⟩:=h
 have hp:=l.pos
 have h2:=w
 constructor
 . refine Int.not_lt.mp fun z=>?_
   have hM:(0:Int)<=M*W:=by omega
   have:p.1*W < -(M*W)*W:=Int.mul_lt_mul_of_pos_right z h2
   rw [e1] at this
   have q:-(M*W)*p.2<=a*p.2:=Int.mul_le_mul_of_nonneg_right e2 (by omega)
   have q2:(M*W)*p.2<=(M*W)*W:=Int.mul_le_mul_of_nonneg_left hb hM
   rw [Int.neg_mul] at this q
   omega
 . refine Int.not_lt.mp fun z=>?_
   have hM:(0:Int)<=M*W:=by omega
   have:(M*W)*W < p.1*W:=Int.mul_lt_mul_of_pos_right z h2
   rw [e1] at this
   have q:a*p.2<=(M*W)*p.2:=Int.mul_le_mul_of_nonneg_right e3 (by omega)
   have q2:(M*W)*p.2<=(M*W)*W:=Int.mul_le_mul_of_nonneg_left hb hM
   omega
def Bo (N:Int):Bn->Prop
 | none=>True
 | some (k,_)=>-N<=k/\k<=N
theorem De {W M:Int} (w:0 < W) {lo hi:Option (Int×Int)} (h0:0<=M) (h1:∀ p,lo=some p->Dy W M p) (h2:∀ p,hi=some p->Dy W M p):Dy (W*2) (M+1) (btw lo hi):=by
 cases lo with
 | none=>cases hi with
  | none=>exact jt (by omega) (by omega) (by omega)
  | some h=>exact ((h2 h rfl).mi (jt (M:=1) (by decide) (by decide) w)).up
 | some l=>cases hi with
  | none=>exact ((h1 l rfl).pl (jt (M:=1) (by decide) (by decide) w)).up
  | some h=>exact ((h1 l rfl).pl (h2 h rfl)).half.le (by omega)
theorem nc:∀ {ps:List (Int×Int)} {o:Option (Int×Int)} {g:Int×Int},gre ps o=some g->g∈ps \/ o=some g
 | [],o,g,h=>.inr h
 | p :: ps,none,g,h=>by
  rcases nc (ps:=ps) (o:=some p) h with z | z
  . exact .inl (Zl _ z)
  . cases z;exact .inl Zk
 | p :: ps,some q,g,h=>by
  rcases nc (ps:=ps) h with z | z
  . exact .inl (Zl _ z)
  . split at z
    . cases z;exact .inl Zk
    . exact .inr z
theorem m6:∀ {ps:List (Int×Int)} {o:Option (Int×Int)} {g:Int×Int},lea ps o=some g->g∈ps \/ o=some g
 | [],o,g,h=>.inr h
 | p :: ps,none,g,h=>by
  rcases m6 (ps:=ps) (o:=some p) h with z | z
  . exact .inl (Zl _ z)
  . cases z;exact .inl Zk
 | p :: ps,some q,g,h=>by
  rcases m6 (ps:=ps) h with z | z
  . exact .inl (Zl _ z)
  . split at z
    . cases z;exact .inl Zk
    . exact .inr z
theorem AR {d:Nat->Nat->Bn} {ps:Pl} {t:Nat} {W M N:Int} (hp:∀ p∈ps,Dy W M p.2) (hd:∀ p∈ps,Bo N (d p.1 t)):∀ g∈eO d ps t,Dy W (M+N) g:=fun g m=>by
 obtain ⟨p,mp,e⟩:=List.mem_filterMap.mp m
 have b:=hd p mp
 rcases q:d p.1 t with _ | ⟨n,s⟩
 . rw [q] at e;cases e
 . rw [q] at e b
   cases e
   exact (hp p mp).mi (jt b.1 b.2 (hp p mp).w)
theorem zq {d:Nat->Nat->Bn} {ps:Pl} {t:Nat} {W M N:Int} (hp:∀ p∈ps,Dy W M p.2) (hd:∀ p∈ps,Bo N (d t p.1)):∀ g∈dW d ps t,Dy W (M+N) g:=fun g m=>by
 obtain ⟨p,mp,e⟩:=List.mem_filterMap.mp m
 have b:=hd p mp
 rcases q:d t p.1 with _ | ⟨n,s⟩
 . rw [q] at e;cases e
 . rw [q] at e b
   cases e
   exact (hp p mp).pl (jt b.1 b.2 (hp p mp).w)
theorem BT {d:Nat->Nat->Bn} {ps:Pl} {t:Nat} {W M N:Int} (w:0 < W) (h0:0<=M+N) (hp:∀ p∈ps,Dy W M p.2) (hd:∀ p∈ps,Bo N (d p.1 t)) (hd':∀ p∈ps,Bo N (d t p.1)):Dy (W*2) (M+N+1) (eQ d ps t):=by
 refine De w h0 (fun g e=>?_) fun g e=>?_
 . rcases nc e with z | z
   . exact AR hp hd g z
   . cases z
 . rcases m6 e with z | z
   . exact zq hp hd' g z
   . cases z
end Mth
namespace Mth
def has (ps:Pl) (t:Nat):Prop:=∃ v,(t,v)∈ps
instance (ps:Pl) (t:Nat):Decidable (has ps t):=decidable_of_iff (t∈ps.map (·.1)) ⟨fun h=>by
 obtain ⟨p,m,e⟩:=Zn.mp h
 exact ⟨p.2,by rw [<- e];exact m⟩,fun ⟨v,m⟩=>Zn.mpr ⟨_,m,rfl⟩⟩
def bF (d:Nat->Nat->Bn) (ps:Pl):Nat->Pl
 | 0=>ps
 | m+1=>if has (bF d ps m) m then bF d ps m else bF d ps m++[(m,eQ d (bF d ps m) m)]
structure uv (d:Nat->Nat->Bn) (n:Nat) (ps:Pl) (x:Nat->Rat):Prop where
 lt:∀ p∈ps,p.1 < n
 nd:(ps.map (·.1)).Nodup
 pos:∀ p∈ps,0 < p.2.2
 val:∀ p∈ps,x p.1=vl p.2
 am:∀ p∈ps,∀ q∈ps,Kq (x p.1 - x q.1) (d p.1 q.1)
theorem xz {d:Nat->Nat->Bn} {n t:Nat} {ps:Pl} {x:Nat->Rat} (g:uv d n ps x) (ht:t < n) (nt:¬ has ps t) (dia:∀ i,i < n->d i i=b0) (clo:∀ k i j,k < n->i < n->j < n->Le (d i j) (bs (d i k) (d k j))) :
 uv d n (ps++[(t,eQ d ps t)]) (fun j=>if j=t then vl (eQ d ps t) else x j):=by
 obtain ⟨h1,h2⟩:=wT (t:=t) g.pos g.val g.am (fun p mp q mq=>clo t _ _ ht (g.lt p mp) (g.lt q mq))
 have ne:∀ p∈ps,p.1 ≠ t:=fun p m e=>nt ⟨p.2,by rw [<- e];exact m⟩
 have zero:Kq (vl (eQ d ps t) - vl (eQ d ps t)) (d t t):=by
  rw [dia t ht]
  show vl (eQ d ps t) - vl (eQ d ps t)<=((0:Int):Rat)
  grind
 refine ⟨fun p m=>?_,?_,fun p m=>?_,fun p m=>?_,fun p mp q mq=>?_⟩
 . rcases Zp.mp m with z | z
   . exact g.lt p z
   . rw [Zm.mp z];exact ht
 . rw [List.map_append]
   refine List.nodup_append.mpr ⟨g.nd,by simp,fun a ha b hb e=>?_⟩
   obtain ⟨p,mp,rfl⟩:=Zn.mp ha
   have:b=t:=by simpa using hb
   exact ne p mp (e.trans this)
 . rcases Zp.mp m with z | z
   . exact g.pos p z
   . rw [Zm.mp z];exact h1
 . rcases Zp.mp m with z | z
   . show (if p.1=t then _ else x p.1)=_
     rw [if_neg (ne p z)];exact g.val p z
   . rw [Zm.mp z]
     exact if_pos rfl
 . show Kq ((if p.1=t then vl (eQ d ps t) else x p.1) - (if q.1=t then vl (eQ d ps t) else x q.1)) (d p.1 q.1)
   rcases Zp.mp mp with z | z
   . rw [if_neg (ne p z)]
     rcases Zp.mp mq with y | y
     . rw [if_neg (ne q y)];exact g.am p z q y
     . rw [Zm.mp y,if_pos rfl];exact (h2 p z).1
   . rw [Zm.mp z,if_pos rfl]
     rcases Zp.mp mq with y | y
     . rw [if_neg (ne q y)];exact (h2 q y).2
     . rw [Zm.mp y,if_pos rfl];exact zero
theorem lO {d:Nat->Nat->Bn} {n:Nat} {ps:Pl} (dia:∀ i,i < n->d i i=b0) (clo:∀ k i j,k < n->i < n->j < n->Le (d i j) (bs (d i k) (d k j))) (g:∃ x,uv d n ps x):∀ m,m<=n->(∃ x,uv d n (bF d ps m) x)/\(∀ t,t < m->has (bF d ps m) t)/\∀ p∈ps,p∈bF d ps m
 | 0,_=>⟨g,fun t h=>absurd h (Nat.not_lt_zero t),fun p m=>m⟩
 | m+1,hm=>by
  obtain ⟨⟨x,g1⟩,h1,h2⟩:=lO dia clo g m (by omega)
  show (∃ x,uv d n (if has (bF d ps m) m then bF d ps m else _) x)/\(∀ t,t < m+1->has (if has (bF d ps m) m then bF d ps m else _) t)/\∀ p∈ps,p∈(if has (bF d ps m) m then bF d ps m else _)
  by_cases h:has (bF d ps m) m
  . rw [if_pos h]
    refine ⟨⟨x,g1⟩,fun t ht=>?_,h2⟩
    by_cases e:t=m
    . rw [e];exact h
    . exact h1 t (by omega)
  . rw [if_neg h]
    refine ⟨⟨_,xz g1 (by omega) h dia clo⟩,fun t ht=>?_,fun p mp=>List.mem_append_left _ (h2 p mp)⟩
    by_cases e:t=m
    . rw [e];exact ⟨_,List.mem_append_right _ Zk⟩
    . obtain ⟨v,mv⟩:=h1 t (by omega)
      exact ⟨v,List.mem_append_left _ mv⟩
theorem iF (k:Nat):(0:Int) < 2 ^ k:=Int.pow_pos (by decide)
theorem wC {d:Nat->Nat->Bn} {ps:Pl} {W M N:Int} (w:0 < W) (hN:0<=N) (hM:0<=M) (hd:∀ i j,Bo N (d i j)) (h:∀ p∈ps,Dy W M p.2):∀ m,∀ p∈bF d ps m,Dy (W*2 ^ m) (M+m*(N+1)) p.2
 | 0=>fun p m=>by
  rw [Int.pow_zero,Int.mul_one]
  exact (h p m).le (by show M<=M+((0:Nat):Int)*(N+1);rw [show ((0:Nat):Int)=0 from rfl,Int.zero_mul];omega)
 | m+1=>fun p mp=>by
  have e:((m+1:Nat):Int)*(N+1)=(m:Int)*(N+1)+(N+1):=by
   rw [show ((m+1:Nat):Int)=(m:Int)+1 from rfl,Int.add_mul,Int.one_mul]
  have ih:=wC w hN hM hd h m
  have nn:0<=(m:Int)*(N+1):=Int.mul_nonneg (by omega) (by omega)
  have wm:0 < W*2 ^ m:=Int.mul_pos w (iF m)
  have we:W*2 ^ (m+1)=W*2 ^ m*2:=by rw [Int.pow_succ,Int.mul_assoc]
  rw [we]
  have old:∀ p∈bF d ps m,Dy (W*2 ^ m*2) (M+((m+1:Nat):Int)*(N+1)) p.2:=fun p mp=>((ih p mp).up).le (by rw [e];omega)
  have mp':p∈(if has (bF d ps m) m then bF d ps m else bF d ps m++[(m,eQ d (bF d ps m) m)]):=mp
  split at mp'
  . exact old p mp'
  . rcases Zp.mp mp' with z | z
    . exact old p z
    . rw [Zm.mp z]
      exact (BT wm (by omega) ih (fun _ _=>hd _ _) (fun _ _=>hd _ _)).le (by rw [e];omega)
def atP (ps:Pl) (t:Nat):Int×Int:=((ps.find? fun p=>p.1 == t).map (·.2)).getD (0,1)
theorem jw {ps:Pl} {t:Nat} {v:Int×Int} (nd:(ps.map (·.1)).Nodup) (m:(t,v)∈ps):atP ps t=v:=by
 unfold atP
 induction ps with
 | nil=>cases m
 | cons p ps ih =>
  rw [Zr,List.nodup_cons] at nd
  rw [List.find?_cons]
  rcases Zq.mp m with z | z
  . rw [<- z];simp
  . have:p.1 ≠ t:=fun e=>nd.1 (Zn.mpr ⟨_,z,e.symm⟩)
    rw [show (p.1 == t)=false from beq_eq_false_iff_ne.mpr this]
    exact ih nd.2 z
theorem Bi {d:Nat->Nat->Bn} {n:Nat} {ps:Pl} (hn:0 < n) (dia:∀ i,i < n->d i i=b0) (clo:∀ k i j,k < n->i < n->j < n->Le (d i j) (bs (d i k) (d k j))) (g:∃ x,uv d n ps x) :
 Li d n (fun t=>vl (mi (atP (bF d ps n) t) (atP (bF d ps n) 0))):=by
 obtain ⟨⟨x,g1⟩,h1,_⟩:=lO dia clo g n (Nat.le_refl n)
 intro i j hi hj
 obtain ⟨v,mv⟩:=h1 i hi
 obtain ⟨w,mw⟩:=h1 j hj
 obtain ⟨z,mz⟩:=h1 0 hn
 show Kq (vl (mi (atP (bF d ps n) i) (atP (bF d ps n) 0)) - vl (mi (atP (bF d ps n) j) (atP (bF d ps n) 0))) (d i j)
 rw [jw g1.nd mv,jw g1.nd mw,jw g1.nd mz,nC (g1.pos _ mv) (g1.pos _ mz),nC (g1.pos _ mw) (g1.pos _ mz)]
 have k:=g1.am _ mv _ mw
 rw [g1.val _ mv,g1.val _ mw] at k
 have e:vl v - vl z - (vl w - vl z)=vl v - vl w:=by grind
 rw [e]
 exact k
end Mth
namespace Mth
theorem rN {a b:Int}:gc a b=1 <-> Nat.Coprime a.natAbs b.natAbs:=by
 unfold gc Nat.Coprime
 rw [Int.gcd]
 omega
theorem gi {a b:Int} (h:gc a b=1):gc b a=1:=by
 rw [rN] at *;exact h.symm
theorem iQ {t a b:Int} (h:gc t a=1) (k:gc t b=1):gc t (a*b)=1:=by
 rw [rN] at *
 rw [Int.natAbs_mul]
 exact h.mul_right k
theorem jI {t s a b:Int} (h:gc t a=1) (k:s ∣ t) (l:b ∣ a):gc s b=1:=by
 rw [rN] at *
 exact Nat.Coprime.coprime_dvd_left (Int.natAbs_dvd_natAbs.mpr k) (Nat.Coprime.coprime_dvd_right (Int.natAbs_dvd_natAbs.mpr l) h)
theorem wd {a b m:Int} (h:gc a b=1):gc (a+m*b) b=1:=by
 unfold gc at *
 rw [Int.gcd_comm,Int.gcd_add_mul_right_right,Int.gcd_comm]
 exact h
theorem ng {a b:Int} (h:0 < b):gc (a / gc a b) (b / gc a b)=1:=(kM (t:=a) h).one
theorem iR {d a:Int} (h:d ∣ a):a / d ∣ a:=⟨d,(Int.ediv_mul_cancel h).symm⟩
def sm (a b c e:Int):Int×Int :=
 ((a*(e / gc b e)+c*(b / gc b e)) / gc (a*(e / gc b e)+c*(b / gc b e)) (gc b e),
  b / gc b e*(e / gc (a*(e / gc b e)+c*(b / gc b e)) (gc b e)))
theorem Bz {a b c e:Int} (h:Lo a b) (k:Lo c e):sm a b c e=rd (a*e+c*b) (b*e):=by
 have hb:=h.pos
 have he:=k.pos
 have hg:=dr (t:=b) he
 have d1:gc b e ∣ b:=dO
 have d2:gc b e ∣ e:=cM
 have e1:=Int.ediv_mul_cancel d1
 have e2:=Int.ediv_mul_cancel d2
 have q:=ng (a:=b) he
 have p1:=iR d1
 have p2:=iR d2
 unfold sm
 generalize hg':gc b e=g at *
 generalize hP:b / g=P at *
 generalize hE:e / g=E at *
 generalize hT:a*E+c*P=T at *
 have hl:=dr (t:=T) hg
 have l1:gc T g ∣ T:=dO
 have l2:gc T g ∣ g:=cM
 have l3:gc T g ∣ e:=Int.dvd_trans l2 d2
 have f1:=Int.ediv_mul_cancel l1
 have f2:=Int.ediv_mul_cancel l2
 have f3:=Int.ediv_mul_cancel l3
 have u:=ng (a:=T) hg
 have tP:gc T P=1:=by
  rw [<- hT]
  refine wd ?_
  have x1:gc P a=1:=jI (gi h.one) p1 (Int.dvd_refl a)
  exact gi (iQ x1 q)
 have tE:gc T E=1:=by
  rw [<- hT,Int.add_comm]
  refine wd ?_
  have x1:gc E c=1:=jI (gi k.one) p2 (Int.dvd_refl c)
  exact gi (iQ x1 (gi q))
 have p3:=iR l1
 generalize hl':gc T g=l at *
 generalize hT':T / l=T' at *
 generalize hG':g / l=G' at *
 have ee:e / l=E*G':=by
  rw [<- e2,<- f2]
  have:E*(G'*l)=E*G'*l:=by grind
  rw [this,Int.mul_ediv_cancel _ (by omega)]
 rw [ee]
 have hP0:0 < P:=by
  have:0 < P*g:=by omega
  exact Int.pos_of_mul_pos_left this hg
 have hE0:0 < E:=by
  have:0 < E*g:=by omega
  exact Int.pos_of_mul_pos_left this hg
 have hG0:0 < G':=by
  have:0 < G'*l:=by omega
  exact Int.pos_of_mul_pos_left this hl
 refine (yf (Int.mul_pos hb he) ⟨Int.mul_pos hP0 (Int.mul_pos hE0 hG0),?_⟩ ?_).symm
 . exact iQ (jI tP p3 (Int.dvd_refl P)) (iQ (jI tE p3 (Int.dvd_refl E)) u)
 . have:a*e+c*b=T*g:=by rw [<- hT,<- e1,<- e2];grind
   rw [this,<- f1,<- e1,<- e2]
   rw [<- f2]
   grind
def tm (a b c e:Int):Int×Int:=(a / gc a e*(c / gc c b),b / gc c b*(e / gc a e))
theorem Dr {a b c e:Int} (h:Lo a b) (k:Lo c e):tm a b c e=rd (a*c) (b*e):=by
 have hb:=h.pos
 have he:=k.pos
 have hf:=dr (t:=a) he
 have hs:=dr (t:=c) hb
 have a1:gc a e ∣ a:=dO
 have a2:gc a e ∣ e:=cM
 have b1:gc c b ∣ c:=dO
 have b2:gc c b ∣ b:=cM
 have u:=ng (a:=a) he
 have v:=ng (a:=c) hb
 have p1:=iR a1
 have p2:=iR a2
 have p3:=iR b1
 have p4:=iR b2
 have e1:=Int.ediv_mul_cancel a1
 have e2:=Int.ediv_mul_cancel a2
 have e3:=Int.ediv_mul_cancel b1
 have e4:=Int.ediv_mul_cancel b2
 unfold tm
 generalize gc a e=f at *
 generalize gc c b=s at *
 generalize a / f=A at *
 generalize e / f=E at *
 generalize c / s=C at *
 generalize b / s=B at *
 have hE0:0 < E:=by
  have:0 < E*f:=by omega
  exact Int.pos_of_mul_pos_left this hf
 have hB0:0 < B:=by
  have:0 < B*s:=by omega
  exact Int.pos_of_mul_pos_left this hs
 refine (yf (Int.mul_pos hb he) ⟨Int.mul_pos hB0 hE0,?_⟩ ?_).symm
 . have x1:gc A B=1:=jI h.one p1 p4
   have x2:gc C E=1:=jI k.one p3 p2
   have y1:gc A (B*E)=1:=iQ x1 u
   have y2:gc C (B*E)=1:=iQ v x2
   exact gi (iQ (gi y1) (gi y2))
 . rw [<- e1,<- e2,<- e3,<- e4];grind
theorem D1 {p q:Int×Int} (h:Lw p) (k:Lw q):pl p q=sm p.1 p.2 q.1 q.2:=(Bz h k).symm
theorem Ed {p q:Int×Int} (h:Lw p) (k:Lw q):mi p q=sm p.1 p.2 (-q.1) q.2:=by
 rw [Bz h (Lo.neg k)]
 unfold mi
 rw [Int.neg_mul,<- Int.sub_eq_add_neg]
theorem Ds {p q:Int×Int} (h:Lw p) (k:Lw q):ti p q=tm p.1 p.2 q.1 q.2:=(Dr h k).symm
end Mth
namespace Mth
theorem zN {W M:Int} {a b k:Nat} {p:Int×Int} (h:Dy W M p) (hW:W<=2 ^ a) (hM:M<=2 ^ b) (hk:a+b < k):Fr k p:=by
 have hw:=h.w
 have ht:=h.top
 have hb:=h.bot
 have hp:=h.pos
 have h2a:(0:Int) < 2 ^ a:=iF a
 have h2b:(0:Int) < 2 ^ b:=iF b
 have m1:M*W<=2 ^ b*W:=Int.mul_le_mul_of_nonneg_right hM (Int.le_of_lt hw)
 have m2:(2:Int) ^ b*W<=2 ^ b*2 ^ a:=Int.mul_le_mul_of_nonneg_left hW (Int.le_of_lt h2b)
 have e1:(2:Int) ^ b*2 ^ a=2 ^ (a+b):=by rw [<- Int.pow_add,Nat.add_comm]
 have q:2 ^ (a+b) < 2 ^ k:=Nat.pow_lt_pow_right (by decide) hk
 have q2:2 ^ a < 2 ^ k:=Nat.pow_lt_pow_right (by decide) (by omega)
 have c1:((2 ^ (a+b):Nat):Int)=2 ^ (a+b):=by rw [Int.natCast_pow];rfl
 have c2:((2 ^ a:Nat):Int)=2 ^ a:=by rw [Int.natCast_pow];rfl
 refine ⟨h.lw,?_,?_⟩
 . unfold Sm
   omega
 . unfold Sm
   omega
end Mth
namespace Mth
end Mth
namespace Mth
section
variable {d:Nat->Nat->Bn} {n i j:Nat} {e:Int×Int}
end
end Mth
namespace Dl
open PySem PySem.Spec PyProof.Rows L2
structure FlyB (P:Program) (w:World) (H H':Hp) (s:Shared) (l:List Env) (B:Heap) (s':Shared):Prop where
 os:s'.os=s.os
 bare:AllBare s'.gens
 un:Un (frs l) [] H H' s.heap s'.heap
 hok:HOk P w H' B
 keepB:∀ b o,s.heap.get? b=some o->H b=none->b ∉ frs l->B.get? b=some o
 thereB:∀ b o,s.heap.get? b=some o->b ∉ frs l->∃ o',B.get? b=some o'
def EL (P:Program) (w:World) (H H':Hp) (s:Shared) (l:List Env) (x C:Addr) (s':Shared):Prop :=
 ∃ (B:Heap) (t:Addr),FlyB P w H H' s l B s'/\Heap.FlyingW B l x (.ref C) (.ref t) s'.heap
def CX1 (P:Program) (w:World):CXT:=fun outer H s E e s'=>∃ x C H',e=.ref x/\EL P w H H' s outer x C s'/\E (.ref C) none H'
section
variable {P:Program} {w:World} {H H':Hp} {s s':Shared} {l:List Env} {B:Heap} {h':Heap}
theorem FlyB.turn (F:FlyB P w H H' s l B s') (hf:s'.heap.FunFrames B l) (st:B.StaysIn h') (up:s'.heap.UpToSlots h'):FlyB P w H H' s l B { s' with heap:=h' } where
 os:=F.os
 bare:=F.bare
 hok:=F.hok
 keepB:=F.keepB
 thereB:=F.thereB
 un:=by
  have sl:∀ b o,s.heap.get? b=some o->H b=none->b∈frs l->∃ sl,h'.get? b=some { o with slots:=sl }:=fun b o e n hb=>by
   obtain ⟨sl,e1⟩:=F.un.slot b o e n hb (by simp)
   obtain ⟨_,o2,ho2,hd⟩:=hf.mem hb
   rw [e1] at ho2
   cases ho2
   obtain ⟨sl2,e2⟩:=up b _ e1 hd
   exact ⟨sl2,e2⟩
  refine ⟨fun b o e n hb _=>st b o (F.keepB b o e n hb),fun b o e n hb _=>sl b o e n hb,F.un.free,fun b o e _=>?_,F.un.tups,F.un.frzs,F.un.tbls⟩
  by_cases hb:b∈frs l
  . obtain ⟨o1,e1⟩:=F.un.there b o e (by simp)
    obtain ⟨_,o2,ho2,hd⟩:=hf.mem hb
    obtain ⟨sl2,e2⟩:=up b _ ho2 hd
    exact ⟨_,e2⟩
  . obtain ⟨o1,e1⟩:=F.thereB b o e hb
    exact ⟨o1,st b o1 e1⟩
theorem FlyB.inv {X:Cx} {pins:List (Addr×Obj)} {σ:L2.St} (I:L2.Inv X pins σ H s) (F:FlyB X.prog X.w H H' s X.stack B s') (st:B.StaysIn s'.heap):L2.Inv X pins σ H' s' :=
 I.call' (ch:=[]) F.os F.un (F.hok.kept fun b u e=>st b u e) F.bare (fun b z=>absurd z (by simp))
end
def zY (X:Cx) (C:Addr) (σ:L2.St) (H:Hp):Prop:=∀ (pins:List (Addr×Obj)) (s:Shared) (h':Heap) (e:Addr) (vs:List Value),L2.Inv X pins σ H s->Heap.MadeExcOf s.heap h' e (.ref C) vs->X.xe (.ref e) { s with heap:=h' }
def ve (X:Cx) (C:Addr) (σ:L2.St) (H:Hp):Prop:=∀ (pins:List (Addr×Obj)) (H₀:Hp) (s:Shared) (x:Addr) (s':Shared),L2.Inv X pins σ H₀ s->EL X.prog X.w H₀ H s X.stack x C s'->X.xe (.ref x) s'
section
variable {P:Program} {w:World} {K:PySem.W.Frag} {mg:Str->Option Value} {base:Heap} {N:List Str} {qual:Str} {scope:Scope} {f:Addr} {cd:Value} {A:Around} {outer:List Env} {s:Shared} {H:Hp} {E:XK}
theorem za {C:Addr} {σ:L2.St} {H1:Hp} (q:E (.ref C) none H1):zY (gj (CX1 P w) P w K mg base N qual scope f cd A outer s H E) C σ H1:=by
 intro pins s1 h2 e vs I hx
 have hin:∀ env∈(gj (CX1 P w) P w K mg base N qual scope f cd A outer s H E).stack,∀ b,env.frame=some b->b∈frs (gj (CX1 P w) P w K mg base N qual scope f cd A outer s H E).stack:=fun env he b hb=>List.mem_filterMap.mpr ⟨env,he,hb⟩
 have fr:=I.stack
 have keepB:∀ b o,s.heap.get? b=some o->H b=none->b ∉ frs outer->(PySem.W.hideAll s1.heap (frs (gj (CX1 P w) P w K mg base N qual scope f cd A outer s H E).stack)).get? b=some o:=fun b o e n hb=>by
  refine PySem.W.hideAll_get _ (I.base.keep b o e n hb (fun z=>absurd (show b∈([]:List Addr) from z) (by simp))) fun z=>?_
  rcases Zq.mp (I.stkSub b z) with q | q
  . exact absurd (Heap.lt_size e) (by rw [q];exact Nat.lt_irrefl _)
  . exact hb q
 have thereB:∀ b o,s.heap.get? b=some o->b ∉ frs outer->∃ o',(PySem.W.hideAll s1.heap (frs (gj (CX1 P w) P w K mg base N qual scope f cd A outer s H E).stack)).get? b=some o':=fun b o e hb=>by
  obtain ⟨o',e1⟩:=I.base.there b o e (fun z=>absurd (show b∈([]:List Addr) from z) (by simp))
  refine ⟨o',PySem.W.hideAll_get _ e1 fun z=>?_⟩
  rcases Zq.mp (I.stkSub b z) with q | q
  . exact absurd (Heap.lt_size e) (by rw [q];exact Nat.lt_irrefl _)
  . exact hb q
 show wpAny _ _ (leaving _ (.ref e)) _ _ _
 refine wpAny_leaves_madeW (base:=PySem.W.hideAll s1.heap (frs (gj (CX1 P w) P w K mg base N qual scope f cd A outer s H E).stack)) (h:=s1.heap) I.ok.frames rfl (fun b o q=>PySem.W.of_hideAll _ q) (PySem.W.funFrames_hide fr hin) hx fun h' t x1 x2 x3 x4=>?_
 refine ⟨e,C,H1,rfl,⟨_,t,⟨I.os,I.bare,⟨fun b o e n hb _=>x1.1 b o (keepB b o e n hb),?_,fun b o e n _=>I.base.free b o e n (fun z=>absurd (show b∈([]:List Addr) from z) (by simp)),?_,I.base.tups,I.base.frzs,I.base.tbls⟩,?_,keepB,thereB⟩,x1⟩,q⟩
 . intro b o e n hb _
   obtain ⟨sl,e1⟩:=I.base.slot b o e n hb (fun z=>absurd (show b∈([]:List Addr) from z) (by simp))
   obtain ⟨_,o2,ho2,hd⟩:=I.funs.mem hb
   rw [e1] at ho2
   cases ho2
   obtain ⟨sl2,e2⟩:=x4 b _ (hx.keeps b _ e1) hd
   exact ⟨sl2,e2⟩
 . intro b o e _
   by_cases hb:b∈frs outer
   . obtain ⟨_,o2,ho2,hd⟩:=I.funs.mem hb
     obtain ⟨sl2,e2⟩:=x4 b _ (hx.keeps b _ ho2) hd
     exact ⟨_,e2⟩
   . obtain ⟨o1,e1⟩:=thereB b o e hb
     exact ⟨o1,x1.1 b o1 e1⟩
 . intro b u eb
   refine (I.hok b u eb).stay (fun c v hc qc=>PySem.W.hideAll_get _ qc fun z=>?_) (fun _ q=>q) (fun _ _ q=>q)
   have:=I.stkFree c z
   rcases hc with hc | hc
   . rw [hc,eb] at this;cases this
   . rw [hc] at this;cases this
theorem Bg {C:Addr} {σ:L2.St} {H1:Hp} (q:E (.ref C) none H1):ve (gj (CX1 P w) P w K mg base N qual scope f cd A outer s H E) C σ H1:=by
 intro pins H₀ s1 x s' I ⟨B,t,F,hfl⟩
 show wpAny _ _ (leaving _ (.ref x)) _ _ _
 refine wpAny_leaves_onW I.ok.frames rfl hfl fun h' x1 x4=>?_
 have I1:=FlyB.inv I F hfl.1
 have sub:∀ b,b∈frs outer->b∈frs (gj (CX1 P w) P w K mg base N qual scope f cd A outer s H E).stack:=fun b hb=>by
  show b∈List.filterMap _ (_ :: outer)
  rw [List.filterMap_cons]
  exact Zl _ hb
 have nin:∀ b o,s.heap.get? b=some o->b ∉ frs outer->b ∉ frs (gj (CX1 P w) P w K mg base N qual scope f cd A outer s H E).stack:=fun b o e hb z=>by
  rcases Zq.mp (I.stkSub b z) with q | q
  . exact absurd (Heap.lt_size e) (by rw [q];exact Nat.lt_irrefl _)
  . exact hb q
 have keepB:∀ b o,s.heap.get? b=some o->H b=none->b ∉ frs outer->B.get? b=some o:=fun b o e n hb =>
  F.keepB b o (I.base.keep b o e n hb (fun z=>absurd (show b∈([]:List Addr) from z) (by simp))) (I.base.free b o e n (fun z=>absurd (show b∈([]:List Addr) from z) (by simp))) (nin b o e hb)
 have thereB:∀ b o,s.heap.get? b=some o->b ∉ frs outer->∃ o',B.get? b=some o':=fun b o e hb=>by
  obtain ⟨o',e1⟩:=I.base.there b o e (fun z=>absurd (show b∈([]:List Addr) from z) (by simp))
  exact F.thereB b o' e1 (nin b o e hb)
 refine ⟨x,C,H1,rfl,⟨B,t,⟨F.os.trans I.os,F.bare,⟨fun b o e n hb _=>x1.1 b o (keepB b o e n hb),?_,fun b o e n _=>I1.base.free b o e n (fun z=>absurd (show b∈([]:List Addr) from z) (by simp)),?_,I1.base.tups,I1.base.frzs,I1.base.tbls⟩,F.hok,keepB,thereB⟩,x1⟩,q⟩
 . intro b o e n hb _
   obtain ⟨sl,e1⟩:=I1.base.slot b o e n hb (fun z=>absurd (show b∈([]:List Addr) from z) (by simp))
   obtain ⟨_,o2,ho2,hd⟩:=I1.funs.mem hb
   rw [e1] at ho2
   cases ho2
   obtain ⟨sl2,e2⟩:=x4 b _ e1 hd
   exact ⟨sl2,e2⟩
 . intro b o e _
   by_cases hb:b∈frs outer
   . obtain ⟨_,o2,ho2,hd⟩:=I1.funs.mem hb
     obtain ⟨sl2,e2⟩:=x4 b _ ho2 hd
     exact ⟨_,e2⟩
   . obtain ⟨o1,e1⟩:=thereB b o e hb
     exact ⟨o1,x1.1 b o1 e1⟩
end
end Dl
namespace Dl
open PySem PySem.Spec PyProof.Rows L2
inductive D where
 | non
 | bl (b:Bool)
 | int (i:Int)
 | str (x:Str)
 | tup (ds:List D)
 | lst (ds:List D)
 | seq (ds:List D)
 | ty (n:String)
 | dct
 | exc (C:Addr)
 | cls (C:Addr)
 | ms (ks:List Int) (ds:List D)
 | mf (ks:List Int) (ds:List D)
 | md (ks:List Int) (ds:List D)
def E8 (a:Addr):HO:=.ext fun h=>∃ o,h.get? a=some o/\o.cls=.type "dict"
def z7 (a C:Addr):HO:=.ext fun h=>∃ o vs,h.get? a=some o/\o.cls=.ref C/\o.data=.fields vs
mutual
inductive Rep (K:PySem.W.Frag) (H:Hp):V->D->Prop
 | non:Rep K H .non .non
 | bl (b:Bool):Rep K H (.bl b) (.bl b)
 | int (i:Int):Rep K H (.int i) (.int i)
 | str (x:Str):Rep K H (.str x) (.str x)
 | ty (n:String):Rep K H (.ty n) (.ty n)
 | tup {a:Addr} {vs:List V} {ds:List D} (h:SqT K H a vs) (r:Reps K H vs ds):Rep K H (.ref a) (.tup ds)
 | lst {a:Addr} {vs:List V} {ds:List D} (h:H a=some (.lst vs)) (r:Reps K H vs ds):Rep K H (.ref a) (.lst ds)
 | seq {a:Addr} {vs:List V} {ds:List D} (h:SqL K H a vs) (r:Reps K H vs ds):Rep K H (.ref a) (.seq ds)
 | dct {a:Addr} (h:H a=some (E8 a)):Rep K H (.ref a) .dct
 | exc {a C:Addr} (h:H a=some (z7 a C)):Rep K H (.ref a) (.exc C)
 | cls (C:Addr):Rep K H (.ref C) (.cls C)
 | ms {a:Addr} {ks:List Int} {vs:List V} {ds:List D} (h:Rd H a (.dK ((ks.map Sum.inl).zip vs))) (l:ks.length=ds.length) (r:Reps K H vs ds):Rep K H (.ref a) (.ms ks ds)
 | mf {a:Addr} {ks:List Int} {vs:List V} {ds:List D} (h:∃ o,H a=some (.frz o (.dK ((ks.map Sum.inl).zip vs)))) (l:ks.length=ds.length) (r:Reps K H vs ds):Rep K H (.ref a) (.mf ks ds)
 | md {a:Addr} {ks:List Int} {vs:List V} {ds:List D} (h:H a=some (.dK ((ks.map Sum.inl).zip vs))) (l:ks.length=ds.length) (r:Reps K H vs ds):Rep K H (.ref a) (.md ks ds)
inductive Reps (K:PySem.W.Frag) (H:Hp):List V->List D->Prop
 | nil:Reps K H [] []
 | cons {v:V} {d:D} {vs:List V} {ds:List D} (r:Rep K H v d) (t:Reps K H vs ds):Reps K H (v :: vs) (d :: ds)
end
theorem nK {K:PySem.W.Frag} {H H':Hp} {a:Addr} {xs:List V} (e:Same H H') (h:SqT K H a xs):SqT K H' a xs:=by
 rcases h with (h | ⟨o,h⟩) | h
 . exact .inl (.inl (e _ _ h))
 . exact .inl (.inr ⟨o,e _ _ h⟩)
 . exact .inr h
mutual
theorem Rep.mono {K:PySem.W.Frag} {H H':Hp} (e:Same H H'):∀ {v:V} {d:D},Rep K H v d->Rep K H' v d
 | _,_,.non=>.non
 | _,_,.bl b=>.bl b
 | _,_,.int i=>.int i
 | _,_,.str x=>.str x
 | _,_,.ty n=>.ty n
 | _,_,.tup h r=>.tup (nK e h) (Reps.mono e r)
 | _,_,.lst h r=>.lst (e _ _ h) (Reps.mono e r)
 | _,_,.seq h r=>.seq (e.seq h) (Reps.mono e r)
 | _,_,.dct h=>.dct (e _ _ h)
 | _,_,.exc h=>.exc (e _ _ h)
 | _,_,.cls C=>.cls C
 | _,_,.ms h l r=>.ms (h.imp (e _ _) fun ⟨o,h⟩=>⟨o,e _ _ h⟩) l (Reps.mono e r)
 | _,_,.mf ⟨o,h⟩ l r=>.mf ⟨o,e _ _ h⟩ l (Reps.mono e r)
 | _,_,.md h l r=>.md (e _ _ h) l (Reps.mono e r)
theorem Reps.mono {K:PySem.W.Frag} {H H':Hp} (e:Same H H'):∀ {vs:List V} {ds:List D},Reps K H vs ds->Reps K H' vs ds
 | _,_,.nil=>.nil
 | _,_,.cons r t=>.cons (Rep.mono e r) (Reps.mono e t)
end
theorem Reps.length {K:PySem.W.Frag} {H:Hp}:∀ {vs:List V} {ds:List D},Reps K H vs ds->vs.length=ds.length
 | _,_,.nil=>rfl
 | _,_,.cons _ t=>congrArg (· + 1) (Reps.length t)
theorem Reps.get {K:PySem.W.Frag} {H:Hp}:∀ {vs:List V} {ds:List D} {i:Nat} {d:D},Reps K H vs ds->ds[i]? = some d->∃ v,vs[i]? = some v/\Rep K H v d
 | _,_,_,_,.nil,e=>by simp at e
 | _,_,0,_,.cons r _,e=>by simp at e;subst e;exact ⟨_,rfl,r⟩
 | _,_,i+1,d,.cons _ t,e=>by
  obtain ⟨v,h1,h2⟩:=Reps.get (i:=i) (d:=d) t (by simpa using e)
  exact ⟨v,by simpa using h1,h2⟩
theorem Reps.getV {K:PySem.W.Frag} {H:Hp}:∀ {vs:List V} {ds:List D} {i:Nat} {v:V},Reps K H vs ds->vs[i]? = some v->∃ d,ds[i]? = some d/\Rep K H v d
 | _,_,_,_,.nil,e=>by simp at e
 | _,_,0,_,.cons r _,e=>by simp at e;subst e;exact ⟨_,rfl,r⟩
 | _,_,i+1,d,.cons _ t,e=>by
  obtain ⟨v,h1,h2⟩:=Reps.getV (i:=i) (v:=d) t (by simpa using e)
  exact ⟨v,by simpa using h1,h2⟩
theorem Reps.append {K:PySem.W.Frag} {H:Hp}:∀ {vs us:List V} {ds es:List D},Reps K H vs ds->Reps K H us es->Reps K H (vs++us) (ds++es)
 | _,_,_,_,.nil,s=>s
 | _,_,_,_,.cons r t,s=>.cons r (Reps.append t s)
theorem Reps.ints {K:PySem.W.Frag} {H:Hp}:∀ (ns:List Int),Reps K H (ns.map V.int) (ns.map D.int)
 | []=>.nil
 | n :: r=>.cons (.int n) (Reps.ints r)
theorem Reps.atI {K:PySem.W.Frag} {H:Hp} {vs:List V} {ds:List D} {i:Int} {d:D} (r:Reps K H vs ds) (e:L2.atI ds i=some d):∃ v,L2.atI vs i=some v/\Rep K H v d:=by
 unfold L2.atI at e ⊢
 rw [<- r.length] at e
 obtain ⟨j,h1,h2⟩:=Za.mp e
 obtain ⟨v,h3,h4⟩:=r.get h2
 exact ⟨v,by rw [h1];exact h3,h4⟩
abbrev DS:=List (Option D)
structure RepS (K:PySem.W.Frag) (H:Hp) (σ:L2.St) (δ:DS):Prop where
 len:σ.length=δ.length
 val:∀ (i:Nat) (d:D),δ[i]? = some (some d)->∃ v,σ[i]? = some (some v)/\Rep K H v d
theorem RepS.mono {K:PySem.W.Frag} {H H':Hp} {σ:L2.St} {δ:DS} (e:Same H H') (h:RepS K H σ δ):RepS K H' σ δ :=
 ⟨h.len,fun i d q=>let ⟨v,a,b⟩:=h.val i d q;⟨v,a,b.mono e⟩⟩
theorem RepS.set {K:PySem.W.Frag} {H:Hp} {σ:L2.St} {δ:DS} {v:V} {d:D} (h:RepS K H σ δ) (i:Nat) (r:Rep K H v d):RepS K H (σ.set i (some v)) (δ.set i (some d)):=by
 refine ⟨by rw [List.length_set,List.length_set];exact h.len,fun j e q=>?_⟩
 have hl:=h.len
 rw [List.getElem?_set] at q ⊢
 by_cases hj:i=j
 . subst hj
   rw [if_pos rfl] at q ⊢
   by_cases hi:i < δ.length
   . rw [if_pos hi] at q
     rw [if_pos (by omega)]
     have:d=e:=by simpa using q
     subst this
     exact ⟨v,rfl,r⟩
   . rw [if_neg hi] at q;cases q
 . rw [if_neg hj] at q ⊢
   exact h.val j e q
theorem RepS.start {K:PySem.W.Frag} {H:Hp} {N:List Str} {vs:List V} {ds:List D} (r:Reps K H vs ds):RepS K H (L2.start N vs) (ds.map some++List.replicate (N.length - ds.length) none):=by
 unfold L2.start
 refine ⟨by simp [r.length],fun i d q=>?_⟩
 have hi:i < ds.length:=by
  by_cases hi:i < ds.length
  . exact hi
  . rw [List.getElem?_append_right (by simpa using hi),List.getElem?_replicate] at q
    split at q <;> cases q
 rw [List.getElem?_append_left (by simpa using hi),List.getElem?_map] at q
 obtain ⟨e,h1,h2⟩:=Zb.mp q
 cases h2
 obtain ⟨v,h3,h4⟩:=r.get h1
 have hv:i < vs.length:=by rw [r.length];exact hi
 exact ⟨v,by rw [List.getElem?_append_left (by simpa using hv),List.getElem?_map,h3];rfl,h4⟩
abbrev FD:=DS->Option D
def up (K:PySem.W.Frag) (f:FD):TE:=fun σ H Q=>∃ δ d,RepS K H σ δ/\f δ=some d/\∀ v H',Same H H'->Rep K H' v d->Q v H'
def PD (X:Cx) (e:Expr) (f:FD):Prop:=PE X e (up X.K f)
theorem imp {X:Cx} {e:Expr} {t t':TE} (h:PE X e t) (w:∀ σ H Q,t' σ H Q->t σ H Q):PE X e t':=fun pins s σ H Q I q=>h pins s σ H Q I (w σ H Q q)
theorem dM {H:Hp} {p:Addr} (h:H p=none) (o:HO):Same H (upd H p o):=fun b u q=>by rw [aD (dq q h)];exact q
def ae (i:Nat):FD:=fun δ=>match δ[i]? with
 | some (some d)=>some d
 | _=>none
def fC (d:D):FD:=fun _=>some d
def f2 (g:D->D->Option D) (fa fb:FD):FD:=fun δ=>(fa δ).bind fun x=>(fb δ).bind fun y=>g x y
def f1 (g:D->Option D) (fa:FD):FD:=fun δ=>(fa δ).bind g
section
variable {X:Cx} {a b e:Expr} {fa fb f:FD} {pos:Pos}
theorem ad (i:Nat) {x:Str} (hN:X.N[i]? = some x:=by rfl) (hv:Vis X.env.scope x:=by first | exact Or.inl rfl | exact Or.inr (Or.inl rfl) | exact Or.inr (Or.inr rfl)) (hd:(x == ("__debug__":Str))=false:=by decide)
 (hcd:(x == ("__classdict__":Str))=false:=by decide):PD X (.Name x pos) (ae i) :=
 imp (nV hN hv hd hcd) fun σ H Q ⟨δ,d,R,e,k⟩=>by
  unfold ae at e
  split at e
  . rename_i d' h
    cases e
    obtain ⟨v,h1,h2⟩:=R.val i _ h
    exact ⟨v,h1,k v H (Same.refl H) h2⟩
  . cases e
theorem aj {i j}:PD X (.Constant (.int i) j pos) (fC (.int i)):=imp Cp fun σ H Q ⟨δ,d,R,e,k⟩=>by cases e;exact k _ H (Same.refl H) (.int i)
theorem eT {b j}:PD X (.Constant (.bool b) j pos) (fC (.bl b)):=imp D5 fun σ H Q ⟨δ,d,R,e,k⟩=>by cases e;exact k _ H (Same.refl H) (.bl b)
theorem bC {j}:PD X (.Constant .none j pos) (fC .non):=imp Co fun σ H Q ⟨δ,d,R,e,k⟩=>by cases e;exact k _ H (Same.refl H) .non
theorem lD {x j}:PD X (.Constant (.str x) j pos) (fC (.str x)):=imp Cl fun σ H Q ⟨δ,d,R,e,k⟩=>by cases e;exact k _ H (Same.refl H) (.str x)
theorem lY {x:Str} {n:String} (hg:Gl X x) (hm:X.mg x=none) (hv:bootBuiltins x=some (.type n)) (hn:x ≠ "__name__":=by decide) (hd:(x == ("__debug__":Str))=false:=by decide):PD X (.Name x pos) (fC (.ty n)) :=
 imp (AE (v:=.ty n) hg hm hv rfl hn hd) fun σ H Q ⟨δ,d,R,e,k⟩=>by cases e;exact k _ H (Same.refl H) (.ty n)
def R2D (K:PySem.W.Frag) (r:R2) (g:D->D->Option D):Prop :=
 ∀ (x y:V) (H:Hp) (Q:VK) (a b d:D),Rep K H x a->Rep K H y b->g a b=some d->(∀ w H',Same H H'->Rep K H' w d->Q w H')->r x y H Q
theorem A7 {r:R2} {g:D->D->Option D} (hg:R2D X.K r g) {σ:L2.St} {H:Hp} {Q:VK} (h:up X.K (f2 g fa fb) σ H Q):tOp r (up X.K fa) (up X.K fb) σ H Q:=by
 obtain ⟨δ,d,R,e,k⟩:=h
 unfold f2 at e
 obtain ⟨x,ex,e⟩:=Za.mp e
 obtain ⟨y,ey,e⟩:=Za.mp e
 exact ⟨δ,x,R,ex,fun v H1 s1 r1=>⟨δ,y,R.mono s1,ey,fun w H2 s2 r2=>hg v w H2 Q x y d (r1.mono s2) r2 e fun z H' s3=>k z H' ((s1.trans s2).trans s3)⟩⟩
theorem nW {op:Operator} {r:R2} {g:D->D->Option D} (ho:OpR X (binaryOp op) r) (hg:R2D X.K r g) (ha:PD X a fa) (hb:PD X b fb):PD X (.BinOp a op b pos) (f2 g fa fb) :=
 imp (BF ho ha hb) fun _ _ _=>A7 hg
theorem j8 {op:CmpOp} {r:R2} {g:D->D->Option D} (ho:OpR X (compareOp op) r) (hg:R2D X.K r g) (ha:PD X a fa) (hb:PD X b fb) (hm:behindInMarks op b=false):PD X (.Compare a [op] [b] pos) (f2 g fa fb) :=
 imp (AD ho ha hb hm) fun _ _ _=>A7 hg
theorem Cu {r:R2} {g:D->D->Option D} (hr:IxR X r) (hg:R2D X.K r g) (ha:PD X a fa) (hb:PD X b fb) (hs:nz b):PD X (.Subscript a b pos) (f2 g fa fb) :=
 imp (jU hr ha hb hs) fun _ _ _=>A7 hg
theorem R2D.or {K:PySem.W.Frag} {r r':R2} {g g':D->D->Option D} (h:R2D K r g) (h':R2D K r' g'):R2D K (fun x y H Q=>r x y H Q \/ r' x y H Q) (fun a b=>(g a b).or (g' a b)):=by
 intro x y H Q a b d ra rb e k
 cases q:g a b with
 | some z =>
  have e':(g a b).or (g' a b)=some d:=e
  rw [q] at e'
  cases e'
  exact .inl (h x y H Q a b _ ra rb q k)
 | none =>
  have e':(g a b).or (g' a b)=some d:=e
  rw [q] at e'
  exact .inr (h' x y H Q a b d ra rb e' k)
end
def Bd (x:Int):Prop:=x.natAbs < 2 ^ 9000
instance (x:Int):Decidable (Bd x):=by unfold Bd;exact inferInstance
theorem Bd.bits {x:Int} (h:Bd x):Builtin.Int.intBits x<=2 ^ 20:=by
 have h':x.natAbs < 2 ^ (2 ^ 20):=Nat.lt_of_lt_of_le h (Nat.pow_le_pow_right (by decide) (by decide))
 exact PySem.intBits_le_iff.mpr h'
theorem Bd.log {x:Int} (h:Bd x) (h0:x ≠ 0):x.natAbs.log2 < 9000:=(Nat.log2_lt (by omega)).mpr h
section
variable {X:Cx} {K:PySem.W.Frag}
def aR (i j:Int):Prop:=Bd i/\Bd j
theorem AK:OpR X (binaryOp .Mult) (rI aR fun i j=>.int (i*j)):=opI fun _ _ _ _ _ _ _ hc q=>mul_int q (.of_bits hc.1.bits hc.2.bits)
def aH (_ j:Int):Prop:=0 < j/\Bd j
theorem yP:OpR X (binaryOp .FloorDiv) (rI aH fun i j=>.int (i / j)):=opI fun i j _ _ _ _ _ hc q=>by
 have h1:(0:Int) < j:=hc.1
 exact floordiv_int (by omega) (by rw [Int.fdiv_eq_ediv_of_nonneg i (by omega)];exact q) (.inl (PyProof.noPylong_of_log2 (hc.2.log (by omega))))
def gI0 (g:Int->Int->D):D->D->Option D
 | .int i,.int j=>some (g i j)
 | _,_=>none
def gI (C:Int->Int->Prop) [∀ i j,Decidable (C i j)] (g:Int->Int->D):D->D->Option D
 | .int i,.int j=>if C i j then some (g i j) else none
 | _,_=>none
instance (i j:Int):Decidable (aR i j):=by unfold aR;exact inferInstance
instance (i j:Int):Decidable (aH i j):=by unfold aH;exact inferInstance
instance (i j:Int):Decidable (mL i j):=by unfold mL;exact inferInstance
theorem pS {g:Int->Int->V} {g':Int->Int->D} (h:∀ H i j,Rep K H (g i j) (g' i j)):R2D K (rI0 g) (gI0 g'):=by
 intro x y H Q a b d ra rb e k
 cases ra with
 | int i =>
  cases rb with
  | int j=>cases e;exact ⟨i,j,rfl,rfl,k _ H (Same.refl H) (h H i j)⟩
  | _=>cases e
 | _=>cases e
theorem yk {C:Int->Int->Prop} [∀ i j,Decidable (C i j)] {g:Int->Int->V} {g':Int->Int->D} (h:∀ H i j,Rep K H (g i j) (g' i j)):R2D K (rI C g) (gI C g'):=by
 intro x y H Q a b d ra rb e k
 cases ra with
 | int i =>
  cases rb with
  | int j =>
   have e':(if C i j then some (g' i j) else none)=some d:=e
   by_cases hc:C i j
   . rw [if_pos hc] at e';cases e';exact ⟨i,j,rfl,rfl,hc,k _ H (Same.refl H) (h H i j)⟩
   . rw [if_neg hc] at e';cases e'
  | _=>cases e
 | _=>cases e
end
def Ez:D->D->Option D
 | .lst xs,.lst ys=>if xs.length+ys.length<=1000 then some (.lst (xs++ys)) else none
 | _,_=>none
theorem eL {n:Nat} (h:n<=1000):n<=sizeLine:=Nat.le_of_lt (jz h)
theorem B8 {K:PySem.W.Frag}:R2D K DT Ez:=by
 intro x y H Q a b d ra rb e k
 cases ra with
 | @lst p xs ds hp rp =>
  cases rb with
  | @lst q ys es hq rq =>
   have e':(if ds.length+es.length<=1000 then some (D.lst (ds++es)) else none)=some d:=e
   by_cases hc:ds.length+es.length<=1000
   . rw [if_pos hc] at e';cases e'
     refine ⟨p,q,xs,ys,rfl,rfl,hp,hq,eL (by rw [rp.length,rq.length];exact hc),fun l hl=>?_⟩
     have s:=dM hl (.lst (xs++ys))
     exact k _ _ s (.lst bc ((rp.append rq).mono s))
   . rw [if_neg hc] at e';cases e'
  | _=>cases e
 | _=>cases e
def bD:D->D->Option D:=fun a b=>(gI0 (fun i j=>.int (i+j)) a b).or (Ez a b)
def gIx:D->D->Option D
 | .tup ds,.int i=>L2.atI ds i
 | .lst ds,.int i=>L2.atI ds i
 | .seq ds,.int i=>L2.atI ds i
 | _,_=>none
theorem DV {K:PySem.W.Frag}:R2D K (fun x y H Q=>xc K x y H Q \/ DN K x y H Q) gIx:=by
 intro x y H Q a b d ra rb e k
 cases rb with
 | int i =>
  cases ra with
  | @tup p vs ds hp rp =>
   have e':L2.atI ds i=some d:=e
   obtain ⟨v,h1,h2⟩:=rp.atI e'
   exact .inr ⟨p,vs,i,v,rfl,rfl,hp,h1,k v H (Same.refl H) h2⟩
  | @lst p vs ds hp rp =>
   have e':L2.atI ds i=some d:=e
   obtain ⟨v,h1,h2⟩:=rp.atI e'
   exact .inl ⟨p,vs,i,v,rfl,rfl,SqL.of hp,h1,k v H (Same.refl H) h2⟩
  | @seq p vs ds hp rp =>
   have e':L2.atI ds i=some d:=e
   obtain ⟨v,h1,h2⟩:=rp.atI e'
   exact .inl ⟨p,vs,i,v,rfl,rfl,hp,h1,k v H (Same.refl H) h2⟩
  | _=>cases e
 | _=>cases ra <;> cases e
section
variable {X:Cx} {a b e:Expr} {fa fb f:FD} {pos:Pos}
theorem bX (ha:PD X a fa) (hb:PD X b fb):PD X (.BinOp a .Add b pos) (f2 bD fa fb):=nW (op_add.or CG) ((pS fun _ _ _=>.int _).or B8) ha hb
theorem jh (ha:PD X a fa) (hb:PD X b fb):PD X (.BinOp a .Sub b pos) (f2 (gI0 fun i j=>.int (i - j)) fa fb):=nW CB (pS fun _ _ _=>.int _) ha hb
theorem cR (ha:PD X a fa) (hb:PD X b fb):PD X (.BinOp a .Mult b pos) (f2 (gI aR fun i j=>.int (i*j)) fa fb):=nW AK (yk fun _ _ _=>.int _) ha hb
theorem bw (ha:PD X a fa) (hb:PD X b fb):PD X (.BinOp a .FloorDiv b pos) (f2 (gI aH fun i j=>.int (i / j)) fa fb):=nW yP (yk fun _ _ _=>.int _) ha hb
theorem bR (ha:PD X a fa) (hb:PD X b fb):PD X (.BinOp a .Mod b pos) (f2 (gI (fun _ j=>0 < j) fun i j=>.int (i % j)) fa fb):=nW CF (yk fun _ _ _=>.int _) ha hb
theorem uL (ha:PD X a fa) (hb:PD X b fb):PD X (.BinOp a .Pow b pos) (f2 (gI mL fun i j=>.int (i ^ j.toNat)) fa fb):=nW CC (yk fun _ _ _=>.int _) ha hb
theorem ax (ha:PD X a fa) (hb:PD X b fb) (hs:nz b:=by intro _ _;rfl):PD X (.Subscript a b pos) (f2 gIx fa fb):=Cu (ix_list.or zn) DV ha hb hs
def iA:D->Option D
 | .int i=>some (.int (-i))
 | _=>none
theorem lE (ha:PD X a fa):PD X (.UnaryOp .USub a pos) (f1 iA fa):=imp (D3 BU ha) fun σ H Q ⟨δ,d,R,e,k⟩=>by
 unfold f1 at e
 obtain ⟨x,ex,e⟩:=Za.mp e
 refine ⟨δ,x,R,ex,fun v H1 s1 r1=>?_⟩
 cases r1 with
 | int i=>cases e;exact ⟨i,rfl,k _ H1 s1 (.int _)⟩
 | _=>cases e
end
abbrev FT:=DS->Option Bool
def upT (K:PySem.W.Frag) (f:FT):TT:=fun σ H Q=>∃ δ b,RepS K H σ δ/\f δ=some b/\∀ H',Same H H'->Q b H'
def PTD (X:Cx) (e:Expr) (f:FT):Prop:=PT X e (upT X.K f)
def PWD (X:Cx) (e:Expr) (f:FT):Prop:=PW X e (upT X.K f)
theorem A4 {X:Cx} {e:Expr} {t t':TT} (h:PT X e t) (w:∀ σ H Q,t' σ H Q->t σ H Q):PT X e t':=fun pins s σ H Q I q=>h pins s σ H Q I (w σ H Q q)
theorem Er {X:Cx} {e:Expr} {t t':TT} (h:PW X e t) (w:∀ σ H Q,t' σ H Q->t σ H Q):PW X e t':=fun wh pins s σ H Q I q=>h wh pins s σ H Q I (w σ H Q q)
def asB:D->Option Bool
 | .bl b=>some b
 | _=>none
def fT (f:FD):FT:=fun δ=>(f δ).bind asB
def bT (f:FT):FT:=fun δ=>(f δ).map not
def dY (f g:FT):FT:=fun δ=>(f δ).bind fun b=>match b with
 | true=>g δ
 | false=>some false
def cO (f g:FT):FT:=fun δ=>(f δ).bind fun b=>match b with
 | true=>some true
 | false=>g δ
section
variable {X:Cx} {a b e:Expr} {fa fb f:FD} {ta tb:FT} {rest:List Expr} {pos:Pos}
theorem vd {K:PySem.W.Frag} {t:TE} (w:∀ σ H Q,up K f σ H Q->t σ H Q) {σ:L2.St} {H:Hp} {Q:Bool->Hp->Prop} (h:upT K (fT f) σ H Q):t σ H fun x H1=>∃ c,x=.bl c/\Q c H1:=by
 obtain ⟨δ,b,R,e,k⟩:=h
 unfold fT at e
 obtain ⟨d,ed,e⟩:=Za.mp e
 refine w σ H _ ⟨δ,d,R,ed,fun v H' s r=>?_⟩
 cases r with
 | bl c=>cases e;exact ⟨_,rfl,k H' s⟩
 | _=>cases e
theorem bO (h:PD X e f) (he:∀ whole,isTrue e X.env whole=(do let v <- whole;standAt e.pos;holding [v] (truthy v)):=by intro _;rfl):PTD X e (fT f) :=
 A4 (Ce h he) fun _ _ _ q=>vd (fun _ _ _ z=>z) q
theorem gB {op:CmpOp} {r:R2} {g:D->D->Option D} (ho:OpR X (compareOp op) r) (hg:R2D X.K r g) (ha:PD X a fa) (hb:PD X b fb) (hm:behindInMarks op b=false):PTD X (.Compare a [op] [b] pos) (fT (f2 g fa fb)) :=
 A4 (Ap ho ha hb hm) fun _ _ _ q=>vd (fun _ _ _ z=>A7 hg z) q
theorem dU (ha:PTD X a ta):PTD X (.UnaryOp .Not a pos) (bT ta):=A4 (Cf ha) fun σ H Q ⟨δ,b,R,e,k⟩=>by
 unfold bT at e
 obtain ⟨c,ec,e⟩:=Zb.mp e
 exact ⟨δ,c,R,ec,fun H' s=>by have:=k H' s;rw [<- e] at this;exact this⟩
theorem PWD.pt (h:PWD X e ta):PTD X e ta:=h _
theorem kO (ha:PTD X a ta):PWD X (.BoolOp .And [a] pos) ta:=Ao ha
theorem eK (ha:PTD X a ta):PWD X (.BoolOp .Or [a] pos) ta:=Cb ha
theorem mT (ha:PTD X a ta) (hb:PWD X (.BoolOp .And (b :: rest) pos) tb):PWD X (.BoolOp .And (a :: b :: rest) pos) (dY ta tb):=Er (Cc ha hb) fun σ H Q ⟨δ,c,R,e,k⟩=>by
 unfold dY at e
 obtain ⟨d,ed,e⟩:=Za.mp e
 refine ⟨δ,d,R,ed,fun H' s=>?_⟩
 cases d with
 | true=>exact ⟨δ,c,R.mono s,e,fun H2 s2=>k H2 (s.trans s2)⟩
 | false=>cases e;exact k H' s
theorem fR (ha:PTD X a ta) (hb:PWD X (.BoolOp .Or (b :: rest) pos) tb):PWD X (.BoolOp .Or (a :: b :: rest) pos) (cO ta tb):=Er (DY ha hb) fun σ H Q ⟨δ,c,R,e,k⟩=>by
 unfold cO at e
 obtain ⟨d,ed,e⟩:=Za.mp e
 refine ⟨δ,d,R,ed,fun H' s=>?_⟩
 cases d with
 | false=>exact ⟨δ,c,R.mono s,e,fun H2 s2=>k H2 (s.trans s2)⟩
 | true=>cases e;exact k H' s
def fN (f g:FD):FD:=fun δ=>(f δ).bind fun x=>match x with
 | .bl true=>g δ
 | .bl false=>some (.bl false)
 | _=>none
def t8 (f g:FD):FD:=fun δ=>(f δ).bind fun x=>match x with
 | .bl true=>some (.bl true)
 | .bl false=>g δ
 | _=>none
def oD:D->Option D
 | .bl b=>some (.bl (!b))
 | _=>none
theorem gm {op} (h:PD X a f):PD X (.BoolOp op [a] pos) f:=Cm h
theorem gL (ha:PD X a fa) (hb:PD X (.BoolOp .And (b :: rest) pos) fb):PD X (.BoolOp .And (a :: b :: rest) pos) (fN fa fb):=imp (Cr ha hb) fun σ H Q ⟨δ,d,R,e,k⟩=>by
 unfold fN at e
 obtain ⟨x,ex,e⟩:=Za.mp e
 refine ⟨δ,x,R,ex,fun v H1 s1 r1=>?_⟩
 cases r1 with
 | bl c =>
  refine ⟨c,rfl,?_⟩
  cases c with
  | true=>rw [if_pos rfl];exact ⟨δ,d,R.mono s1,e,fun w H2 s2=>k w H2 (s1.trans s2)⟩
  | false=>rw [if_neg Bool.false_ne_true];cases e;exact k _ H1 s1 (.bl false)
 | _=>cases e
theorem tt (ha:PD X a fa) (hb:PD X (.BoolOp .Or (b :: rest) pos) fb):PD X (.BoolOp .Or (a :: b :: rest) pos) (t8 fa fb):=imp (D4 ha hb) fun σ H Q ⟨δ,d,R,e,k⟩=>by
 unfold t8 at e
 obtain ⟨x,ex,e⟩:=Za.mp e
 refine ⟨δ,x,R,ex,fun v H1 s1 r1=>?_⟩
 cases r1 with
 | bl c =>
  refine ⟨c,rfl,?_⟩
  cases c with
  | true=>rw [if_pos rfl];cases e;exact k _ H1 s1 (.bl true)
  | false=>rw [if_neg Bool.false_ne_true];exact ⟨δ,d,R.mono s1,e,fun w H2 s2=>k w H2 (s1.trans s2)⟩
 | _=>cases e
theorem ji (ha:PD X a fa):PD X (.UnaryOp .Not a pos) (f1 oD fa):=imp (Cn ha) fun σ H Q ⟨δ,d,R,e,k⟩=>by
 unfold f1 at e
 obtain ⟨x,ex,e⟩:=Za.mp e
 refine ⟨δ,x,R,ex,fun v H1 s1 r1=>?_⟩
 cases r1 with
 | bl c=>cases e;exact ⟨c,rfl,k _ H1 s1 (.bl _)⟩
 | _=>cases e
end
abbrev FA:=DS->Option (List D)
def upA (K:PySem.W.Frag) (n:Nat) (f:FA):TA:=fun σ H Q=>∃ δ ds,RepS K H σ δ/\f δ=some ds/\∀ vs H',Same H H'->Reps K H' vs ds->vs.length=n->Q vs H'
def PAD (X:Cx) (es:List Expr) (f:FA):Prop:=PA X es (upA X.K es.length f)
theorem A6 {X:Cx} {es:List Expr} {t t':TA} (h:PA X es t) (w:∀ σ H Q,t' σ H Q->t σ H Q):PA X es t':=fun pos pins s σ H Q I q=>h pos pins s σ H Q I (w σ H Q q)
def af:FA:=fun _=>some []
def aa (f:FD) (g:FA):FA:=fun δ=>(f δ).bind fun x=>(g δ).bind fun xs=>some (x :: xs)
def bi (K:PySem.W.Frag) (n:Nat) (G:List D->Option D):Sp:=fun vs H Q _=>vs.length=n/\∃ ds d,Reps K H vs ds/\G ds=some d/\∀ v H',Same H H'->Rep K H' v d->Q v H'
def cV (g:FA):FD:=fun δ=>(g δ).bind fun ds=>some (.tup ds)
def ib (g:FA):FD:=fun δ=>(g δ).bind fun ds=>some (.lst ds)
def ak (G:List D->Option D) (g:FA):FD:=fun δ=>(g δ).bind G
section
variable {X:Cx} {e:Expr} {es:List Expr} {f:FD} {g:FA} {pos p:Pos}
theorem ah:PAD X [] af:=A6 j9 fun σ H Q ⟨δ,ds,R,e,k⟩=>by cases e;exact k [] H (Same.refl H) .nil rfl
theorem ac (ha:PD X e f) (hr:PAD X es g) (hs:starEach (e :: es) X.env=(false,eval e X.env) :: starEach es X.env:=by rfl):PAD X (e :: es) (aa f g):=A6 (fX ha hr hs) fun σ H Q ⟨δ,ds,R,q,k⟩=>by
 unfold aa at q
 obtain ⟨x,ex,q⟩:=Za.mp q
 obtain ⟨xs,exs,q⟩:=Za.mp q
 cases q
 exact ⟨δ,x,R,ex,fun v H1 s1 r1=>⟨δ,xs,R.mono s1,exs,fun vs H2 s2 r2 l=>k (v :: vs) H2 (s1.trans s2) (.cons (r1.mono s2) r2) (congrArg (· + 1) l)⟩⟩
theorem di {x1} (h:PAD X es g) (hz:es.length<=1000:=by decide):PD X (.Tuple es x1 pos) (cV g):=imp (yF h) fun σ H Q ⟨δ,d,R,q,k⟩=>by
 unfold cV at q
 obtain ⟨ds,eds,q⟩:=Za.mp q
 cases q
 refine ⟨δ,ds,R,eds,fun vs H1 s1 r1 l=>⟨eL (by rw [l];exact hz),fun p hp=>?_⟩⟩
 have s:=dM hp (.tup vs)
 exact k _ _ (s1.trans s) (.tup (SqT.of bc) (r1.mono s))
theorem nX (h:PAD X es g) (hz:es.length<=1000:=by decide):PD X (.List es pos) (ib g):=imp (yG h) fun σ H Q ⟨δ,d,R,q,k⟩=>by
 unfold ib at q
 obtain ⟨ds,eds,q⟩:=Za.mp q
 cases q
 refine ⟨δ,ds,R,eds,fun vs H1 s1 r1 l=>⟨eL (by rw [l];exact hz),fun p hp=>?_⟩⟩
 have s:=dM hp (.lst vs)
 exact k _ _ (s1.trans s) (.lst bc (r1.mono s))
theorem AH {k n:Nat} {x:Str} {f:Addr} {fd:FuncData} {ps:List Str} {G:List D->Option D} (F:FnOk X.prog X.w X.K X.mg X.base CX0 k f fd ps (bi X.K n G)) (hr:Room k X.A) (hg:Gl X x) (hm:X.mg x=some (.ref f)) (hk:PySem.W.keepIn X.K (.ref f)=true) (hb:Binds X.K fd ps [])
 (ha:PAD X (e :: es) g) (hn:(e :: es).length=n:=by rfl) (hdb:(x == ("__debug__":Str))=false:=by decide) (he:starEach (e :: es) X.env=(false,eval e X.env) :: starEach es X.env:=by rfl) (hpl:(backTo pos (starEach es X.env)).any (·.1)=false:=by rfl) :
 PD X (.Call (.Name x p) (e :: es) [] pos) (ak G g):=imp (m3 F hr hg hm hk hb .nil (vR) ha hdb he hpl) fun σ H Q ⟨δ,d,R,q,k⟩=>by
 unfold ak at q
 obtain ⟨ds,eds,q⟩:=Za.mp q
 refine ⟨δ,ds,R,eds,fun vs H1 s1 r1 l=>?_⟩
 show bi X.K n G (vs++[]) H1 Q E0
 rw [List.append_nil]
 exact ⟨l.trans hn,ds,d,r1,q,fun v H' s=>k v H' (s1.trans s)⟩
def jZ (K:PySem.W.Frag) (r:List V->Hp->VK->Prop) (G:List D->Option D):Prop :=
 ∀ (xs:List V) (H:Hp) (Q:VK) (ds:List D) (d:D),Reps K H xs ds->G ds=some d->(∀ w H',Same H H'->Rep K H' w d->Q w H')->r xs H Q
theorem zp {r:List V->Hp->VK->Prop} {G:List D->Option D} {n:Nat} (hG:jZ X.K r G) {σ:L2.St} {H:Hp} {Q:VK} (h:up X.K (ak G g) σ H Q):tCB r (upA X.K n g) σ H Q:=by
 obtain ⟨δ,d,R,q,k⟩:=h
 unfold ak at q
 obtain ⟨ds,eds,q⟩:=Za.mp q
 exact ⟨δ,ds,R,eds,fun vs H1 s1 r1 _=>hG vs H1 Q ds d r1 q fun w H' s=>k w H' (s1.trans s)⟩
theorem aN {id:String} {x:Str} {r:List V->Hp->VK->Prop} {G:List D->Option D} (hc:iD X (.builtin id) r) (hG:jZ X.K r G) (hg:Gl X x) (hm:X.mg x=none) (hv:bootBuiltins x=some (.builtin id)) (ha:PAD X (e :: es) g) (hn:x ≠ "__name__":=by decide) (hdb:(x == ("__debug__":Str))=false:=by decide)
 (he:starEach (e :: es) X.env=(false,eval e X.env) :: starEach es X.env:=by rfl) (hpl:(backTo pos (starEach es X.env)).any (·.1)=false:=by rfl):PD X (.Call (.Name x p) (e :: es) [] pos) (ak G g) :=
 imp (yH hc hg hm hv ha hn hdb he hpl) fun _ _ _ h=>zp hG h
theorem xi {T:String} {x:Str} {r:List V->Hp->VK->Prop} {G:List D->Option D} (hc:iD X (.type T) r) (hG:jZ X.K r G) (hg:Gl X x) (hm:X.mg x=none) (hv:bootBuiltins x=some (.type T)) (ha:PAD X (e :: es) g) (hn:x ≠ "__name__":=by decide) (hdb:(x == ("__debug__":Str))=false:=by decide)
 (he:starEach (e :: es) X.env=(false,eval e X.env) :: starEach es X.env:=by rfl) (hpl:(backTo pos (starEach es X.env)).any (·.1)=false:=by rfl):PD X (.Call (.Name x p) (e :: es) [] pos) (ak G g) :=
 imp (lC hc hg hm hv ha hn hdb he hpl) fun _ _ _ h=>zp hG h
end
theorem gK {K:PySem.W.Frag} {H:Hp} {xs:List V} {d:D} (r:Reps K H xs [d]):∃ x,xs=[x]/\Rep K H x d:=by
 cases r with
 | cons a t=>cases t;exact ⟨_,rfl,a⟩
theorem pQ {K:PySem.W.Frag} {H:Hp} {xs:List V} {d e:D} (r:Reps K H xs [d,e]):∃ x y,xs=[x,y]/\Rep K H x d/\Rep K H y e:=by
 cases r with
 | cons a t =>
  obtain ⟨y,h1,h2⟩:=gK t
  subst h1
  exact ⟨_,y,rfl,a,h2⟩
def EA:List D->Option D
 | [.int i]=>some (.int (i.natAbs:Int))
 | _=>none
theorem Dd {K:PySem.W.Frag}:jZ K (fun xs H Q=>∃ i,xs=[.int i]/\Q (.int (if i < 0 then -i else i)) H) EA:=by
 intro xs H Q ds d r e k
 unfold EA at e
 split at e
 . rename_i i
   cases e
   obtain ⟨x,rfl,rx⟩:=gK r
   cases rx
   refine ⟨i,rfl,?_⟩
   have e:(if i < 0 then -i else i)=(i.natAbs:Int):=by split <;> omega
   rw [e]
   exact k _ H (Same.refl H) (.int _)
 . cases e
def uX:List D->Option D
 | [.int i]=>some (.int i)
 | [.bl b]=>some (.int (if b then 1 else 0))
 | _=>none
theorem Da {K:PySem.W.Frag}:jZ K (fun xs H Q=>(∃ i,xs=[.int i]/\Q (.int i) H) \/ ∃ k,xs=[.bl k]/\Q (.int (if k then 1 else 0)) H) uX:=by
 intro xs H Q ds d r e k
 unfold uX at e
 split at e
 . rename_i i
   cases e
   obtain ⟨x,rfl,rx⟩:=gK r
   cases rx
   exact .inl ⟨i,rfl,k _ H (Same.refl H) (.int _)⟩
 . rename_i b
   cases e
   obtain ⟨x,rfl,rx⟩:=gK r
   cases rx
   exact .inr ⟨b,rfl,k _ H (Same.refl H) (.int _)⟩
 . cases e
def cH:List D->Option D
 | [.tup ds]=>some (.int ds.length)
 | [.lst ds]=>some (.int ds.length)
 | [.seq ds]=>some (.int ds.length)
 | _=>none
theorem cF {K:PySem.W.Frag}:jZ K (fun xs H Q=>∃ p ys,xs=[.ref p]/\(SqL K H p ys \/ SqT K H p ys)/\Q (.int ys.length) H) cH:=by
 intro xs H Q ds d r e k
 unfold cH at e
 split at e
 . cases e
   obtain ⟨x,rfl,rx⟩:=gK r
   cases rx with
   | @tup p vs _ hp rp=>exact ⟨p,vs,rfl,.inr hp,by rw [rp.length];exact k _ H (Same.refl H) (.int _)⟩
 . cases e
   obtain ⟨x,rfl,rx⟩:=gK r
   cases rx with
   | @lst p vs _ hp rp=>exact ⟨p,vs,rfl,.inl (SqL.of hp),by rw [rp.length];exact k _ H (Same.refl H) (.int _)⟩
 . cases e
   obtain ⟨x,rfl,rx⟩:=gK r
   cases rx with
   | @seq p vs _ hp rp=>exact ⟨p,vs,rfl,.inl hp,by rw [rp.length];exact k _ H (Same.refl H) (.int _)⟩
 . cases e
def EO:D->Option String
 | .non=>some "NoneType"
 | .bl _=>some "bool"
 | .int _=>some "int"
 | .str _=>some "str"
 | .tup _=>some "tuple"
 | .lst _=>some "list"
 | .seq _=>some "list"
 | .dct=>some "dict"
 | .ty _=>none
 | .exc _=>none
 | .cls _=>none
 | .ms _ _=>none
 | .mf _ _=>none
 | .md _ _=>none
def qD (n:String) (d:D) (b:Bool):Prop:=∃ t,EO d=some t/\∀ K:PySem.W.Frag,PySem.W.kitOne K (.type t) (.type n)=some b
def DO (K:PySem.W.Frag):List V->Hp->VK->Prop:=fun xs H Q=>∃ x n d b,xs=[x,.ty n]/\Rep K H x d/\qD n d b/\Q (.bl b) H
theorem iB {X:Cx}:iD X (.builtin "isinstance") (DO X.K):=by
 intro pins s σ H xs us Q I r h
 obtain ⟨x,n,d,b,rfl,rx,⟨t,ht,hk⟩,q⟩:=h
 obtain ⟨u,w',rfl,ru,rw'⟩:=Bx r
 cases (show w'=Value.type n from rw')
 have e:=hk X.K
 have fin:∀ tk,EP X pins σ Q (.bool b) { s with toks:=tk }:=fun tk=>⟨.bl b,H,I.tok _,rfl,q⟩
 cases rx with
 | non=>cases ht;cases (show u=Value.none from ru);exact PySem.W.kia_one PySem.W.kitx_none I.kIn True.intro e (fun z=>nomatch z) fin
 | bl y=>cases ht;cases (show u=Value.bool y from ru);exact PySem.W.kia_one PySem.W.kitx_bool I.kIn True.intro e (fun z=>nomatch z) fin
 | int i=>cases ht;obtain ⟨t,z⟩:=(show ∃ t,u=Value.int i t from ru);cases z;exact PySem.W.kia_one PySem.W.kitx_int I.kIn True.intro e (fun z=>nomatch z) fin
 | str y=>cases ht;obtain ⟨t,z⟩:=(show ∃ t,u=Value.str y t from ru);cases z;exact PySem.W.kia_one PySem.W.kitx_str I.kIn True.intro e (fun z=>nomatch z) fin
 | ty n=>cases ht
 | exc h=>cases ht
 | cls C=>cases ht
 | ms h l r=>cases ht
 | mf h l r=>cases ht
 | md h l r=>cases ht
 | @dct a h =>
  cases ht
  cases (show u=Value.ref a from ru)
  exact PySem.W.kia_one PySem.W.kitx_dict I.kIn (I.hok a _ h).1 e (fun z=>nomatch z) fin
 | @tup a vs ds hp rp =>
  cases ht
  cases (show u=Value.ref a from ru)
  obtain ⟨its,_,⟨o,h1,h2,_⟩,_⟩:=I.tuple hp
  exact PySem.W.kia_one PySem.W.kitx_tuple I.kIn ⟨o,h1,h2⟩ e (fun z=>nomatch z) fin
 | @lst a vs ds hp rp =>
  cases ht
  cases (show u=Value.ref a from ru)
  obtain ⟨its,_,⟨o,n',h1,h2,_⟩,_⟩:=I.list (SqL.of (K:=X.K) hp)
  exact PySem.W.kia_one PySem.W.kitx_list I.kIn ⟨o,h1,h2⟩ e (fun z=>nomatch z) fin
 | @seq a vs ds hp rp =>
  cases ht
  cases (show u=Value.ref a from ru)
  obtain ⟨its,_,⟨o,n',h1,h2,_⟩,_⟩:=I.list hp
  exact PySem.W.kia_one PySem.W.kitx_list I.kIn ⟨o,h1,h2⟩ e (fun z=>nomatch z) fin
def isInt:D->Option Bool
 | .int _=>some true
 | .bl _=>some true
 | .ty _=>none
 | .exc _=>none
 | .cls _=>none
 | .ms _ _=>none
 | .mf _ _=>none
 | .md _ _=>none
 | _=>some false
def CV:D->Option Bool
 | .bl _=>some true
 | .ty _=>none
 | .exc _=>none
 | .cls _=>none
 | .ms _ _=>none
 | .mf _ _=>none
 | .md _ _=>none
 | _=>some false
def isTup:D->Option Bool
 | .tup _=>some true
 | .ty _=>none
 | .exc _=>none
 | .cls _=>none
 | .ms _ _=>none
 | .mf _ _=>none
 | .md _ _=>none
 | _=>some false
def Ba (n:String) (p:D->Option Bool):List D->Option D
 | [d,.ty m]=>if m=n then (p d).map D.bl else none
 | _=>none
theorem lP {K:PySem.W.Frag} {n:String} {p:D->Option Bool} (hp:∀ d b,p d=some b->qD n d b):jZ K (DO K) (Ba n p):=by
 intro xs H Q ds d r e k
 unfold Ba at e
 split at e
 . rename_i x m
   by_cases hm:m=n
   . subst hm
     rw [if_pos rfl] at e
     obtain ⟨b,hb,e⟩:=Zb.mp e
     cases e
     obtain ⟨v,w,rfl,rv,rw'⟩:=pQ r
     cases rw'
     exact ⟨v,m,x,b,rfl,rv,hp x b hb,k _ H (Same.refl H) (.bl b)⟩
   . rw [if_neg hm] at e;cases e
 . cases e
theorem rK (n:String) (K:PySem.W.Frag):PySem.W.kitOne K (.type n) (.type n)=some true:=by
 unfold PySem.W.kitOne
 rw [if_pos (beq_self_eq_true _)]
theorem tD (d:D) (b:Bool) (h:isInt d=some b):qD "int" d b:=by
 cases d <;> (first | cases h) <;> first
  | exact ⟨_,rfl,fun K=>rK _ K⟩
  | exact ⟨_,rfl,fun K=>by kernel_rfl⟩
theorem pX (d:D) (b:Bool) (h:CV d=some b):qD "bool" d b:=by
 cases d <;> (first | cases h) <;> first
  | exact ⟨_,rfl,fun K=>rK _ K⟩
  | exact ⟨_,rfl,fun K=>by kernel_rfl⟩
theorem yW (d:D) (b:Bool) (h:isTup d=some b):qD "tuple" d b:=by
 cases d <;> (first | cases h) <;> first
  | exact ⟨_,rfl,fun K=>rK _ K⟩
  | exact ⟨_,rfl,fun K=>by kernel_rfl⟩
def toV:D->Option V
 | .non=>some .non
 | .bl b=>some (.bl b)
 | .int i=>some (.int i)
 | .str x=>some (.str x)
 | _=>none
def c9 (d:D):Bool:=(toV d).isSome
def eqF:D->D->Bool
 | .non,.non=>true
 | .bl a,.bl b=>a == b
 | .bl a,.int b=>(if a then 1 else 0) == b
 | .int a,.bl b=>a == (if b then 1 else 0)
 | .int a,.int b=>a == b
 | .str a,.str b=>a == b
 | _,_=>false
def pr:List D->List D->Bool
 | [],[]=>true
 | a :: as,b :: bs=>eqF a b && pr as bs
 | _,_=>false
theorem Rep.flat {K:PySem.W.Frag} {H:Hp} {v:V} {d:D} (r:Rep K H v d) (f:c9 d=true):jX v=true/\toV d=some v:=by
 cases r <;> first | exact ⟨rfl,rfl⟩ | (exact absurd f (by decide)) | (exact absurd f Bool.false_ne_true)
theorem nu {a b:D} {x y:V} (ha:toV a=some x) (hb:toV b=some y):eqV x y=eqF a b:=by
 cases a <;> (first | cases ha) <;> cases b <;> (first | cases hb) <;> rfl
theorem oH:∀ (as bs:List D) (e:Nat->Bool),(∀ j a b,as[j]? = some a->bs[j]? = some b->e j=eqF a b)->((List.range (min as.length bs.length)).all e && as.length == bs.length)=pr as bs
 | [],[],e,_=>rfl
 | [],b :: bs,e,_=>by simp [pr]
 | a :: as,[],e,_=>by simp [pr]
 | a :: as,b :: bs,e,h=>by
  have ih:=oH as bs (fun j=>e (j+1)) (fun j x y h1 h2=>h (j+1) x y (by simpa using h1) (by simpa using h2))
  have h0:e 0=eqF a b:=h 0 a b rfl rfl
  show ((List.range (min (as.length+1) (bs.length+1))).all e && (as.length+1) == (bs.length+1))=(eqF a b && pr as bs)
  rw [<- ih,<- h0,show min (as.length+1) (bs.length+1)=min as.length bs.length+1 by omega,List.range_succ_eq_map,List.all_cons,List.all_map,Bool.and_assoc]
  have:((as.length+1) == (bs.length+1))=(as.length == bs.length):=by rw [Bool.eq_iff_iff];simp
  rw [this]
  rfl
def xA:D->D->Option Bool
 | .tup as,.tup bs=>if as.all c9 && bs.all c9 then some (pr as bs) else none
 | .lst as,.lst bs=>if as.all c9 && bs.all c9 then some (pr as bs) else none
 | .non,.tup _=>some false
 | .tup _,.non=>some false
 | .non,.lst _=>some false
 | .lst _,.non=>some false
 | a,b=>if c9 a && c9 b then some (eqF a b) else none
def gEq (a b:D):Option D:=(xA a b).map D.bl
def gNe (a b:D):Option D:=(xA a b).map fun c=>D.bl (!c)
section
variable {K:PySem.W.Frag} {H:Hp}
theorem kY {A:Around} {s:Shared} {vs ws:List V} {us zs:List Value} {as bs:List D} (r1:Vals vs us) (r2:Vals ws zs) (q1:Reps K H vs as) (q2:Reps K H ws bs) (g1:as.all c9=true) (g2:bs.all c9=true) :
 ∀ j (h1:j < us.toArray.size) (h2:j < zs.toArray.size),SeqAt.EqAt A s us.toArray[j] zs.toArray[j] (eqF (as.getD j .non) (bs.getD j .non)):=by
 intro j h1 h2
 have l1:=r1.length
 have l2:=r2.length
 rw [List.size_toArray] at h1 h2
 have k1:j < vs.length:=by omega
 have k2:j < ws.length:=by omega
 obtain ⟨u,e1,p1⟩:=r1.get (i:=j) (x:=vs[j]) (by simp [k1])
 obtain ⟨z,e2,p2⟩:=r2.get (i:=j) (x:=ws[j]) (by simp [k2])
 obtain ⟨a,e3,p3⟩:=q1.getV (i:=j) (v:=vs[j]) (by simp [k1])
 obtain ⟨b,e4,p4⟩:=q2.getV (i:=j) (v:=ws[j]) (by simp [k2])
 have f1:c9 a=true:=List.all_eq_true.mp g1 a (List.mem_of_getElem? e3)
 have f2:c9 b=true:=List.all_eq_true.mp g2 b (List.mem_of_getElem? e4)
 have w1:us.toArray[j]=u:=by
  have:us[j]? = some us[j]:=by simp [h1]
  rw [this] at e1
  simpa using e1
 have w2:zs.toArray[j]=z:=by
  have:zs[j]? = some zs[j]:=by simp [h2]
  rw [this] at e2
  simpa using e2
 rw [w1,w2,Zs,Zs,e3,e4]
 show SeqAt.EqAt A s u z (eqF a b)
 rw [<- nu (p3.flat f1).2 (p4.flat f2).2]
 exact uY p1 p2 (p3.flat f1).1 (p4.flat f2).1
theorem oY {as bs:List D}:((List.range (min as.length bs.length)).all (fun j=>eqF (as.getD j .non) (bs.getD j .non)) && as.length == bs.length)=pr as bs :=
 oH as bs _ fun j a b h1 h2=>by
  show eqF (as.getD j .non) (bs.getD j .non)=eqF a b
  rw [Zs,Zs,h1,h2] <;> rfl
theorem vE {A:Around} {s:Shared} {x y:V} {u v:Value} {a b:D} (rx:RelV x u) (ry:RelV y v) (ra:Rep K H x a) (rb:Rep K H y b) (g1:c9 a=true) (g2:c9 b=true):SeqAt.RcAt A s u v (eqF a b)/\SeqAt.RcNeAt A s u v (!eqF a b):=by
 cases ra with
 | non =>
  cases (show u=Value.none from rx)
  cases rb with
  | non=>cases (show v=Value.none from ry);exact ⟨SeqAt.RcAt.none_none,SeqAt.RcNeAt.none_none⟩
  | bl c=>cases (show v=Value.bool c from ry);exact ⟨SeqAt.RcAt.none_bool c,SeqAt.RcNeAt.none_bool c⟩
  | int j=>obtain ⟨t,rfl⟩:=(show ∃ t,v=Value.int j t from ry);exact ⟨SeqAt.RcAt.none_int j t,SeqAt.RcNeAt.none_int j t⟩
  | str j=>obtain ⟨t,rfl⟩:=(show ∃ t,v=Value.str j t from ry);exact ⟨SeqAt.RcAt.none_str j t,SeqAt.RcNeAt.none_str j t⟩
  | _=>exact absurd g2 Bool.false_ne_true
 | bl i =>
  cases (show u=Value.bool i from rx)
  cases rb with
  | non=>cases (show v=Value.none from ry);exact ⟨SeqAt.RcAt.bool_none i,SeqAt.RcNeAt.bool_none i⟩
  | bl c=>cases (show v=Value.bool c from ry);exact ⟨SeqAt.RcAt.bool_bool i c,SeqAt.RcNeAt.bool_bool i c⟩
  | int j=>obtain ⟨t,rfl⟩:=(show ∃ t,v=Value.int j t from ry);exact ⟨SeqAt.RcAt.bool_int i j t,SeqAt.RcNeAt.bool_int i j t⟩
  | str j=>obtain ⟨t,rfl⟩:=(show ∃ t,v=Value.str j t from ry);exact ⟨SeqAt.RcAt.bool_str i j t,SeqAt.RcNeAt.bool_str i j t⟩
  | _=>exact absurd g2 Bool.false_ne_true
 | int i =>
  obtain ⟨t',rfl⟩:=(show ∃ t,u=Value.int i t from rx)
  cases rb with
  | non=>cases (show v=Value.none from ry);exact ⟨SeqAt.RcAt.int_none i t',SeqAt.RcNeAt.int_none i t'⟩
  | bl c=>cases (show v=Value.bool c from ry);exact ⟨SeqAt.RcAt.int_bool i t' c,SeqAt.RcNeAt.int_bool i t' c⟩
  | int j=>obtain ⟨t,rfl⟩:=(show ∃ t,v=Value.int j t from ry);exact ⟨SeqAt.RcAt.int_int i t' j t,SeqAt.RcNeAt.int_int i t' j t⟩
  | str j=>obtain ⟨t,rfl⟩:=(show ∃ t,v=Value.str j t from ry);exact ⟨SeqAt.RcAt.int_str i t' j t,SeqAt.RcNeAt.int_str i t' j t⟩
  | _=>exact absurd g2 Bool.false_ne_true
 | str i =>
  obtain ⟨t',rfl⟩:=(show ∃ t,u=Value.str i t from rx)
  cases rb with
  | non=>cases (show v=Value.none from ry);exact ⟨SeqAt.RcAt.str_none i t',SeqAt.RcNeAt.str_none i t'⟩
  | bl c=>cases (show v=Value.bool c from ry);exact ⟨SeqAt.RcAt.str_bool i t' c,SeqAt.RcNeAt.str_bool i t' c⟩
  | int j=>obtain ⟨t,rfl⟩:=(show ∃ t,v=Value.int j t from ry);exact ⟨SeqAt.RcAt.str_int i t' j t,SeqAt.RcNeAt.str_int i t' j t⟩
  | str j=>obtain ⟨t,rfl⟩:=(show ∃ t,v=Value.str j t from ry);exact ⟨SeqAt.RcAt.str_str i t' j t,SeqAt.RcNeAt.str_str i t' j t⟩
  | _=>exact absurd g2 Bool.false_ne_true
 | _=>exact absurd g1 Bool.false_ne_true
end
theorem DK {X:Cx} {pins:List (Addr×Obj)} {σ:L2.St} {H:Hp} {s:Shared} (I:Inv X pins σ H s) (hu:X.A.units < cLine) {x y:V} {u v:Value} {a b:D} {c:Bool} (rx:RelV x u) (ry:RelV y v) (ra:Rep X.K H x a) (rb:Rep X.K H y b) (e:xA a b=some c) :
 SeqAt.RcAt X.A s u v c/\SeqAt.RcNeAt X.A s u v (!c):=by
 unfold xA at e
 split at e
 . -- two tuples
   rename_i as bs
   cases ra with
   | @tup p vs _ hp rp =>
    cases rb with
    | @tup q ws _ hq rq =>
     split at e
     . rename_i hf
       cases e
       rw [Bool.and_eq_true] at hf
       cases (show u=Value.ref p from rx)
       cases (show v=Value.ref q from ry)
       obtain ⟨its,r1,t1,_⟩:=I.tuple hp
       obtain ⟨jts,r2,t2,_⟩:=I.tuple hq
       have l1:its.toArray.size=as.length:=by rw [List.size_toArray,<- r1.length,rp.length]
       have l2:jts.toArray.size=bs.length:=by rw [List.size_toArray,<- r2.length,rq.length]
       have h1:=SeqAt.RcAt.tuples (A:=X.A) (s:=s) t1 t2 hu (kY r1 r2 rp rq hf.1 hf.2)
       have h2:=SeqAt.RcNeAt.tuples (A:=X.A) (s:=s) t1 t2 hu (kY r1 r2 rp rq hf.1 hf.2)
       rw [l1,l2,oY] at h1 h2
       exact ⟨h1,h2⟩
     . cases e
 . -- two lists
   rename_i as bs
   cases ra with
   | @lst p vs _ hp rp =>
    cases rb with
    | @lst q ws _ hq rq =>
     split at e
     . rename_i hf
       cases e
       rw [Bool.and_eq_true] at hf
       cases (show u=Value.ref p from rx)
       cases (show v=Value.ref q from ry)
       obtain ⟨its,r1,t1,_⟩:=I.list (SqL.of (K:=X.K) hp)
       obtain ⟨jts,r2,t2,_⟩:=I.list (SqL.of (K:=X.K) hq)
       have l1:its.toArray.size=as.length:=by rw [List.size_toArray,<- r1.length,rp.length]
       have l2:jts.toArray.size=bs.length:=by rw [List.size_toArray,<- r2.length,rq.length]
       by_cases hl:its.toArray.size=jts.toArray.size
       . have h1:=SeqAt.RcAt.lists (A:=X.A) (s:=s) t1.isList t2.isList hl hu (kY r1 r2 rp rq hf.1 hf.2)
         have h2:=SeqAt.RcNeAt.lists (A:=X.A) (s:=s) t1.isList t2.isList hl hu (kY r1 r2 rp rq hf.1 hf.2)
         have h3:(List.range its.toArray.size).all (fun j=>eqF (as.getD j .non) (bs.getD j .non))=pr as bs:=by
          rw [<- oY,l1,show min as.length bs.length=as.length by omega,show (as.length == bs.length)=true by rw [beq_iff_eq];omega,Bool.and_true]
         rw [h3] at h1 h2
         exact ⟨h1,h2⟩
       . have h1:=SeqAt.RcAt.lists_lengths (A:=X.A) (s:=s) t1.isList t2.isList (by simpa [bne_iff_ne] using hl) hu
         have h2:=SeqAt.RcNeAt.lists_lengths (A:=X.A) (s:=s) t1.isList t2.isList (by simpa [bne_iff_ne] using hl) hu
         have h3:pr as bs=false:=by
          rw [<- oY,show (as.length == bs.length)=false by rw [beq_eq_false_iff_ne];omega,Bool.and_false]
         rw [h3]
         exact ⟨h1,h2⟩
     . cases e
 . cases e
   cases ra
   cases rb with
   | @tup q ws bs hq rq =>
    cases (show u=Value.none from rx)
    cases (show v=Value.ref q from ry)
    obtain ⟨its,r1,t1,_⟩:=I.tuple hq
    exact ⟨SeqAt.RcAt.none_tuple t1 hu,SeqAt.RcNeAt.none_tuple t1 hu⟩
 . cases e
   cases rb
   cases ra with
   | @tup q ws bs hq rq =>
    cases (show v=Value.none from ry)
    cases (show u=Value.ref q from rx)
    obtain ⟨its,r1,t1,_⟩:=I.tuple hq
    exact ⟨SeqAt.RcAt.tuple_none t1 hu,SeqAt.RcNeAt.tuple_none t1 hu⟩
 . cases e
   cases ra
   cases rb with
   | @lst q ws bs hq rq =>
    cases (show u=Value.none from rx)
    cases (show v=Value.ref q from ry)
    obtain ⟨its,r1,t1,_⟩:=I.list (SqL.of (K:=X.K) hq)
    exact ⟨SeqAt.RcAt.none_list t1.isList hu,SeqAt.RcNeAt.none_list t1.isList hu⟩
 . cases e
   cases rb
   cases ra with
   | @lst q ws bs hq rq =>
    cases (show v=Value.none from ry)
    cases (show u=Value.ref q from rx)
    obtain ⟨its,r1,t1,_⟩:=I.list (SqL.of (K:=X.K) hq)
    exact ⟨SeqAt.RcAt.list_none t1.isList hu,SeqAt.RcNeAt.list_none t1.isList hu⟩
 . split at e
   . rename_i hf
     cases e
     rw [Bool.and_eq_true] at hf
     exact vE rx ry ra rb hf.1 hf.2
   . cases e
def DQ (K:PySem.W.Frag):R2:=fun x y H Q=>∃ a b c,Rep K H x a/\Rep K H y b/\xA a b=some c/\Q (.bl c) H
def DM (K:PySem.W.Frag):R2:=fun x y H Q=>∃ a b c,Rep K H x a/\Rep K H y b/\xA a b=some c/\Q (.bl (!c)) H
theorem yR {X:Cx} (hu:X.A.units < cLine):OpR X (compareOp .Eq) (DQ X.K):=by
 intro pins s σ H x y v u Q I rx ry h
 obtain ⟨a,b,c,ra,rb,e,q⟩:=h
 exact (DK I hu rx ry ra rb e).1 X.prog X.w _ _ ⟨.bl c,H,I,rfl,q⟩
theorem CD {X:Cx} (hu:X.A.units < cLine):OpR X (compareOp .NotEq) (DM X.K):=by
 intro pins s σ H x y v u Q I rx ry h
 obtain ⟨a,b,c,ra,rb,e,q⟩:=h
 exact (DK I hu rx ry ra rb e).2 X.prog X.w _ _ ⟨.bl (!c),H,I,rfl,q⟩
theorem BE {K:PySem.W.Frag}:R2D K (DQ K) gEq:=by
 intro x y H Q a b d ra rb e k
 unfold gEq at e
 obtain ⟨c,hc,e⟩:=Zb.mp e
 cases e
 exact ⟨a,b,c,ra,rb,hc,k _ H (Same.refl H) (.bl _)⟩
theorem DU {K:PySem.W.Frag}:R2D K (DM K) gNe:=by
 intro x y H Q a b d ra rb e k
 unfold gNe at e
 obtain ⟨c,hc,e⟩:=Zb.mp e
 cases e
 exact ⟨a,b,c,ra,rb,hc,k _ H (Same.refl H) (.bl _)⟩
section
variable {X:Cx} {a b e:Expr} {fa fb f:FD} {pos:Pos}
theorem BH (hu:X.A.units < cLine) (ha:PD X a fa) (hb:PD X b fb):PD X (.Compare a [.Eq] [b] pos) (f2 gEq fa fb):=j8 (yR hu) BE ha hb (eN _)
theorem yr (hu:X.A.units < cLine) (ha:PD X a fa) (hb:PD X b fb):PTD X (.Compare a [.Eq] [b] pos) (fT (f2 gEq fa fb)):=gB (yR hu) BE ha hb (eN _)
theorem yp (hu:X.A.units < cLine) (ha:PD X a fa) (hb:PD X b fb):PTD X (.Compare a [.NotEq] [b] pos) (fT (f2 gNe fa fb)):=gB (CD hu) DU ha hb (eN _)
abbrev gLt:D->D->Option D:=gI0 fun i j=>.bl (decide (i < j))
abbrev gGt:D->D->Option D:=gI0 fun i j=>.bl (decide (j < i))
theorem vP (ha:PD X a fa) (hb:PD X b fb):PD X (.Compare a [.Lt] [b] pos) (f2 gLt fa fb):=j8 BJ (pS fun _ _ _=>.bl _) ha hb (eN _)
theorem BG (ha:PD X a fa) (hb:PD X b fb):PD X (.Compare a [.Gt] [b] pos) (f2 gGt fa fb):=j8 BK (pS fun _ _ _=>.bl _) ha hb (eN _)
theorem lA (ha:PD X a fa) (hb:PD X b fb):PTD X (.Compare a [.Lt] [b] pos) (fT (f2 gLt fa fb)):=gB BJ (pS fun _ _ _=>.bl _) ha hb (eN _)
theorem yq (ha:PD X a fa) (hb:PD X b fb):PTD X (.Compare a [.Gt] [b] pos) (fT (f2 gGt fa fb)):=gB BK (pS fun _ _ _=>.bl _) ha hb (eN _)
def bn:D->Bool
 | .non=>true
 | _=>false
def du (a b:D):Option D:=match b with
 | .non=>some (.bl (bn a))
 | _=>none
def eV (a b:D):Option D:=match b with
 | .non=>some (.bl (!bn a))
 | _=>none
theorem tQ {K:PySem.W.Frag} {H:Hp} {x:V} {a:D} (r:Rep K H x a):decide (x=.non)=bn a:=by
 cases r <;> rfl
theorem yi {K:PySem.W.Frag}:R2D K (fun x y H Q=>y=.non/\Q (.bl (decide (x=.non))) H) du:=by
 intro x y H Q a b d ra rb e k
 cases rb with
 | non=>cases e;exact ⟨rfl,by rw [tQ ra];exact k _ H (Same.refl H) (.bl _)⟩
 | _=>cases e
theorem vG {K:PySem.W.Frag}:R2D K (fun x y H Q=>y=.non/\Q (.bl (!decide (x=.non))) H) eV:=by
 intro x y H Q a b d ra rb e k
 cases rb with
 | non=>cases e;exact ⟨rfl,by rw [tQ ra];exact k _ H (Same.refl H) (.bl _)⟩
 | _=>cases e
theorem Cv (ha:PD X a fa) (hb:PD X b fb):PD X (.Compare a [.Is] [b] pos) (f2 du fa fb):=j8 yO yi ha hb (eN _)
theorem AG (ha:PD X a fa) (hb:PD X b fb):PD X (.Compare a [.IsNot] [b] pos) (f2 eV fa fb):=j8 vT vG ha hb (eN _)
theorem de (ha:PD X a fa) (hb:PD X b fb):PTD X (.Compare a [.Is] [b] pos) (fT (f2 du fa fb)):=gB yO yi ha hb (eN _)
theorem jg (ha:PD X a fa) (hb:PD X b fb):PTD X (.Compare a [.IsNot] [b] pos) (fT (f2 eV fa fb)):=gB vT vG ha hb (eN _)
end
inductive Res where
 | nx (δ:DS)
 | rt (d:D)
 | bk (δ:DS)
 | ct (δ:DS)
 | ex (C:Addr) (δ:DS)
 | mk (C:Addr) (δ:DS)
abbrev SD:=DS->Option Res
def RP (X:Cx) (E:pd) (H:Hp):Res->Prop
 | .nx δ=>∀ σ' H',Same H H'->RepS X.K H' σ' δ->E.nx σ' H'
 | .rt d=>∀ v H',Same H H'->Rep X.K H' v d->E.rt v H'
 | .bk δ=>∀ σ' H',Same H H'->RepS X.K H' σ' δ->E.bk σ' H'
 | .ct δ=>∀ σ' H',Same H H'->RepS X.K H' σ' δ->E.ct σ' H'
 | .ex C δ=>∀ σ' H',Same H H'->RepS X.K H' σ' δ->ve X C σ' H'
 | .mk C δ=>∀ σ' H',Same H H'->RepS X.K H' σ' δ->zY X C σ' H'
theorem RP.mono {X:Cx} {E:pd} {H H1:Hp} {r:Res} (s:Same H H1) (h:RP X E H r):RP X E H1 r:=by
 cases r with
 | nx δ=>exact fun σ' H' s2 R=>h σ' H' (s.trans s2) R
 | rt d=>exact fun v H' s2 R=>h v H' (s.trans s2) R
 | bk δ=>exact fun σ' H' s2 R=>h σ' H' (s.trans s2) R
 | ct δ=>exact fun σ' H' s2 R=>h σ' H' (s.trans s2) R
 | ex C δ=>exact fun σ' H' s2 R=>h σ' H' (s.trans s2) R
 | mk C δ=>exact fun σ' H' s2 R=>h σ' H' (s.trans s2) R
def upS (X:Cx) (s:SD):TS:=fun E σ H=>∃ δ r,RepS X.K H σ δ/\s δ=some r/\RP X E H r
def PSD (X:Cx) (st:Stmt) (s:SD):Prop:=PS X st (upS X s)
def pc (X:Cx) (sts:List Stmt) (s:SD):Prop:=PSs X sts (upS X s)
theorem gh {X:Cx} {st:Stmt} {t t':TS} (h:PS X st t) (w:∀ E σ H,t' E σ H->t E σ H):PS X st t':=fun pins s σ H E I q=>h pins s σ H E I (w E σ H q)
theorem ql {X:Cx} {st:List Stmt} {t t':TS} (h:PSs X st t) (w:∀ E σ H,t' E σ H->t E σ H):PSs X st t':=fun pins s σ H E I q=>h pins s σ H E I (w E σ H q)
def aW:SD:=fun δ=>some (.nx δ)
def cJ (u:SD):Res->Option Res
 | .nx δ=>u δ
 | r=>some r
def aC (s u:SD):SD:=fun δ=>(s δ).bind (cJ u)
def dJ (f:FD):SD:=fun δ=>(f δ).bind fun d=>some (.rt d)
def fQ (i:Nat) (f:FD):SD:=fun δ=>(f δ).bind fun d=>some (.nx (δ.set i (some d)))
def sIf (c:FT) (s u:SD):SD:=fun δ=>(c δ).bind fun b=>match b with
 | true=>s δ
 | false=>u δ
def yd:SD:=fun _=>none
section
variable {X:Cx} {st:Stmt} {rest:List Stmt} {s u:SD} {e:Expr} {f:FD} {c:FT} {pos:Pos}
theorem cr:pc X [] aW:=ql qY fun E σ H ⟨δ,r,R,e,k⟩=>by cases e;exact k σ H (Same.refl H) R
theorem aL (h1:PSD X st s) (h2:pc X rest u):pc X (st :: rest) (aC s u):=ql (nU h1 h2) fun E σ H ⟨δ,r,R,e,k⟩=>by
 unfold aC at e
 obtain ⟨r1,e1,e⟩:=Za.mp e
 refine ⟨δ,r1,R,e1,?_⟩
 cases r1 with
 | nx δ'=>exact fun σ' H' s1 R1=>⟨δ',r,R1,e,k.mono s1⟩
 | rt d=>cases e;exact k
 | bk d=>cases e;exact k
 | ct d=>cases e;exact k
 | ex C d=>cases e;exact k
 | mk C d=>cases e;exact k
theorem aJ (h:PSD X st s):pc X [st] s:=qX h
theorem aS (he:PD X e f):PSD X (.Return (some e) pos) (dJ f):=gh (uH he) fun E σ H ⟨δ,r,R,q,k⟩=>by
 unfold dJ at q
 obtain ⟨d,ed,q⟩:=Za.mp q
 cases q
 exact ⟨δ,d,R,ed,k⟩
theorem bU (i:Nat) {x:Str} {pos':Pos} (hN:X.N.Nodup) (he:PD X e f) (hi:X.N[i]? = some x:=by rfl) (hx:Loc X.env.scope x:=by first | exact Or.inl rfl | exact Or.inr rfl) (hs:swapsWith e (some (.Name x pos')) pos.line X.env=pure false:=by rfl) (hf:X.fn x=true \/ X.env.scope.names.lookup x=some .local:=by first | exact .inl rfl | exact .inr rfl | assumption) :
 PSD X (.Assign [.Name x pos'] e pos) (fQ i f):=gh (qZ hN hi hx he hs hf) fun E σ H ⟨δ,r,R,q,k⟩=>by
 unfold fQ at q
 obtain ⟨d,ed,q⟩:=Za.mp q
 cases q
 exact ⟨δ,d,R,ed,fun v H' s1 r1=>k (σ.set i (some v)) H' s1 ((R.mono s1).set i r1)⟩
theorem df {cx:Expr} {a b:List Stmt} (hc:PTD X cx c) (ha:pc X a s) (hb:pc X b u):PSD X (.If cx a b pos) (sIf c s u):=gh (yu hc ha hb) fun E σ H ⟨δ,r,R,q,k⟩=>by
 unfold sIf at q
 obtain ⟨d,ed,q⟩:=Za.mp q
 refine ⟨δ,d,R,ed,fun H' s1=>?_⟩
 cases d with
 | true=>rw [if_pos rfl];exact ⟨δ,r,R.mono s1,q,k.mono s1⟩
 | false=>rw [if_neg Bool.false_ne_true];exact ⟨δ,r,R.mono s1,q,k.mono s1⟩
theorem pU:PSD X st yd:=gh sY fun E σ H ⟨δ,r,R,e,k⟩=>by cases e
def Aj (i j:Nat) (g:FA):SD:=fun δ=>(g δ).bind fun ds=>match ds with
 | [a,b]=>some (.nx ((δ.set i (some a)).set j (some b)))
 | _=>none
theorem Aq (i j:Nat) {x y:Str} {a b:Expr} {g:FA} {px py pt:Pos} {kt k2 pt2} (hc:X.calm=true) (hN:X.N.Nodup) (ha:PAD X [a,b] g) (hi:X.N[i]? = some x:=by rfl) (hj:X.N[j]? = some y:=by rfl) (hij:i ≠ j:=by decide)
 (hx:X.env.scope.names.lookup x=some .local:=by rfl) (hy:X.env.scope.names.lookup y=some .local:=by rfl)
 (hw:swappedStores [.Tuple [.Name x px,.Name y py] kt pt] (.Tuple [a,b] k2 pt2) X.env=pure (some [x,y]):=by rfl)
 (hs:swapsWithSole [.Tuple [.Name x px,.Name y py] kt pt] (.Tuple [a,b] k2 pt2) pos.line X.env=pure false:=by rfl) :
 PSD X (.Assign [.Tuple [.Name x px,.Name y py] kt pt] (.Tuple [a,b] k2 pt2) pos) (Aj i j g):=gh (Ch hc hN hi hj hij hx hy ha hw hs) fun E σ H ⟨δ,r,R,q,k⟩=>by
 unfold Aj at q
 obtain ⟨ds,ed,q⟩:=Za.mp q
 split at q
 . rename_i d1 d2
   cases q
   refine ⟨δ,_,R,ed,fun vs H' s1 r1 _=>?_⟩
   obtain ⟨v,w,rfl,rv,rw'⟩:=pQ r1
   exact ⟨v,w,rfl,k _ H' s1 (((R.mono s1).set i rv).set j rw')⟩
 . cases q
end
def gH:Nat->FT->SD->SD
 | 0,_,_=>fun _=>none
 | n+1,c,s=>fun δ=>(c δ).bind fun b=>match b with
  | true=>(s δ).bind fun r=>match r with
   | .nx δ'=>gH n c s δ'
   | .ct δ'=>gH n c s δ'
   | .bk δ'=>some (.nx δ')
   | .rt d=>some (.rt d)
   | .ex C δ'=>some (.ex C δ')
   | .mk C δ'=>some (.mk C δ')
  | false=>some (.nx δ)
theorem pT {X:Cx} {cx:Expr} {body:List Stmt} {c:FT} {s:SD} {pos:Pos} (n:Nat) (hp:PassesOwn (model X.prog X.w) X.A X.env X.xe) (hc:PTD X cx c) (hb:pc X body s):PSD X (.While cx body [] pos) (gH n c s):=gh (yt hp hc hb) fun E σ H ⟨δ,r,R,e,k⟩=>by
 refine ⟨fun m σ H=>∃ δ r,RepS X.K H σ δ/\gH m c s δ=some r/\RP X E H r,⟨n,δ,r,R,e,k⟩,?_⟩
 rintro m σ H ⟨δ,r,R,e,k⟩
 cases m with
 | zero=>exact absurd e (by intro z;cases z)
 | succ m =>
  obtain ⟨b,eb,e⟩:=Za.mp (show ((c δ).bind _)=some r from e)
  refine ⟨δ,b,R,eb,fun H1 s1=>?_⟩
  cases b with
  | true =>
   rw [if_pos rfl]
   obtain ⟨r1,e1,e⟩:=Za.mp (show ((s δ).bind _)=some r from e)
   refine ⟨fun σ' H'=>∃ m',m' < m+1/\∃ δ r,RepS X.K H' σ' δ/\gH m' c s δ=some r/\RP X E H' r,fun _ _ z=>z,⟨δ,r1,R.mono s1,e1,?_⟩⟩
   cases r1 with
   | nx δ'=>exact fun σ' H' s2 R2=>⟨m,Nat.lt_succ_self m,δ',r,R2,e,k.mono (s1.trans s2)⟩
   | ct δ'=>exact fun σ' H' s2 R2=>⟨m,Nat.lt_succ_self m,δ',r,R2,e,k.mono (s1.trans s2)⟩
   | bk δ'=>cases e;exact fun σ' H' s2 R2=>k σ' H' (s1.trans s2) R2
   | rt d=>cases e;exact fun v H' s2 R2=>k v H' (s1.trans s2) R2
   | ex C δ'=>cases e;exact fun σ' H' s2 R2=>k σ' H' (s1.trans s2) R2
   | mk C δ'=>cases e;exact fun σ' H' s2 R2=>k σ' H' (s1.trans s2) R2
  | false =>
   rw [if_neg Bool.false_ne_true]
   cases e
   exact k σ H1 s1 (R.mono s1)
def ItD (K:PySem.W.Frag) (J:It) (H1:Hp) (ds:List D):Prop:=∀ i H2,Same H1 H2 ->
 (i < ds.length->J.go i H2/\∀ x H',J.yld i H2 x H'->Same H2 H'/\∃ d,ds[i]? = some d/\Rep K H' x d)/\(ds.length<=i->J.stop i H2)
def upI (K:PySem.W.Frag) (src:FA):TI:=fun σ H R=>∃ δ ds,RepS K H σ δ/\src δ=some ds/\∀ J H1,Same H H1->ItD K J H1 ds->R J H1
def PID (X:Cx) (tg iter:Expr) (src:FA):Prop:=PI X tg iter (upI X.K src)
theorem uV {X:Cx} {tg iter:Expr} {t t':TI} (h:PI X tg iter t) (w:∀ σ H R,t' σ H R->t σ H R):PI X tg iter t':=fun pins s σ H R I q=>h pins s σ H R I (w σ H R q)
def asL:D->Option (List D)
 | .lst ds=>some ds
 | .seq ds=>some ds
 | _=>none
theorem v6 {K:PySem.W.Frag} {H1:Hp} {a:Addr} {vs:List V} {ds:List D} (hq:SqL K H1 a vs) (r:Reps K H1 vs ds):ItD K (Itl K a) H1 ds:=by
 intro i H2 s
 have hq2:=s.seq hq
 have r2:=r.mono s
 have hl:=r2.length
 refine ⟨fun hi=>⟨⟨vs,vs[i],hq2,by simp [show i < vs.length by omega]⟩,fun x H' y=>?_⟩,fun hi=>⟨vs,hq2,by omega⟩⟩
 obtain ⟨e,y⟩:=y
 subst e
 obtain ⟨d,h1,h2⟩:=r2.getV (y vs hq2)
 exact ⟨Same.refl _,d,h1,h2⟩
theorem ir {X:Cx} {tg l:Expr} {f:FD} (hl:PD X l f):PID X tg l (fun δ=>(f δ).bind asL):=uV (vN hl) fun σ H R ⟨δ,ds,R0,e,k⟩=>by
 obtain ⟨d,ed,e⟩:=Za.mp e
 refine ⟨δ,d,R0,ed,fun v H1 s1 r1=>?_⟩
 cases r1 with
 | @lst p vs es hp rp=>cases e;exact ⟨p,rfl,⟨vs,SqL.of hp⟩,k _ H1 s1 (v6 (SqL.of hp) rp)⟩
 | @seq p vs es hp rp=>cases e;exact ⟨p,rfl,⟨vs,hp⟩,k _ H1 s1 (v6 hp rp)⟩
 | _=>cases e
def upG (K:PySem.W.Frag) (g:D->DS->Option DS):TG:=fun v σ H Q=>∃ d δ δ',Rep K H v d/\RepS K H σ δ/\g d δ=some δ'/\∀ σ',RepS K H σ' δ'->Q σ' H
def PGD (X:Cx) (tg:Expr) (g:D->DS->Option DS):Prop:=PG X tg (upG X.K g)
def k6 (i:Nat):D->DS->Option DS:=fun d δ=>some (δ.set i (some d))
theorem kR {X:Cx} (i:Nat) {x:Str} {pos:Pos} (hN:X.N.Nodup) (hi:X.N[i]? = some x:=by rfl) (hx:Loc X.env.scope x:=by first | exact Or.inl rfl | exact Or.inr rfl) (hf:X.fn x=true \/ X.env.scope.names.lookup x=some .local:=by first | exact .inl rfl | exact .inr rfl | assumption):PGD X (.Name x pos) (k6 i) :=
 fun pins s σ H v u Q I r ⟨d,δ,δ',rv,R,e,k⟩=>by
  cases e
  exact jF hN hi hx hf pins s σ H v u Q I r (k _ (R.set i rv))
def ki (g:D->DS->Option DS) (s:SD):List D->SD
 | []=>fun δ=>some (.nx δ)
 | d :: ds=>fun δ=>(g d δ).bind fun δ1=>(s δ1).bind fun r=>match r with
  | .nx δ'=>ki g s ds δ'
  | .ct δ'=>ki g s ds δ'
  | .bk δ'=>some (.nx δ')
  | .rt d=>some (.rt d)
  | .ex C δ'=>some (.ex C δ')
  | .mk C δ'=>some (.mk C δ')
def Ak (src:FA) (g:D->DS->Option DS) (s:SD):SD:=fun δ=>(src δ).bind fun ds=>ki g s ds δ
theorem vK {X:Cx} {tg iter:Expr} {body:List Stmt} {src:FA} {g:D->DS->Option DS} {s:SD} {pos:Pos} (hp:PassesOwn (model X.prog X.w) X.A X.env X.xe) (hc:X.calm=true) (hi:PID X tg iter src) (hg:PGD X tg g) (hb:pc X body s)
 (hs:∀ x,foldedSetIterable iter X.env x=pure x:=by intro _;rfl):PSD X (.For tg iter body [] pos) (Ak src g s):=gh (uI hp hc hi hg hb hs) fun E σ H ⟨δ,r,R,e,k⟩=>by
 unfold Ak at e
 obtain ⟨ds,eds,e⟩:=Za.mp e
 refine ⟨δ,ds,R,eds,fun J H1 s1 it=>?_⟩
 refine ⟨fun i m σ H=>m=ds.length - i/\i<=ds.length/\Same H1 H/\∃ δ,RepS X.K H σ δ/\ki g s (ds.drop i) δ=some r/\RP X E H r,⟨ds.length,rfl,Nat.zero_le _,Same.refl _,δ,R.mono s1,e,k.mono s1⟩,?_⟩
 rintro i m σ H2 ⟨rfl,hil,s2,δ2,R2,e2,k2⟩
 by_cases hlt:i < ds.length
 . obtain ⟨go,yl⟩:=(it i H2 s2).1 hlt
   rw [List.drop_eq_getElem_cons hlt] at e2
   obtain ⟨δ3,e3,e2⟩:=Za.mp (show ((g ds[i] δ2).bind _)=some r from e2)
   obtain ⟨r4,e4,e2⟩:=Za.mp e2
   refine .inr ⟨go,fun σ' H'=>Same H1 H'/\∃ δ,RepS X.K H' σ' δ/\ki g s (ds.drop (i+1)) δ=some r/\RP X E H' r,fun σ' H' z=>⟨ds.length - (i+1),by omega,rfl,hlt,z⟩,fun x H' y=>?_⟩
   obtain ⟨s3,d,hd,rx⟩:=yl x H' y
   have hd':d=ds[i]:=by
    rw [Zt hlt] at hd
    exact (Option.some.inj hd).symm
   subst hd'
   refine ⟨ds[i],δ2,δ3,rx,R2.mono s3,e3,fun σ3 R3=>⟨δ3,r4,R3,e4,?_⟩⟩
   cases r4 with
   | nx δ'=>exact fun σ' H'' s4 R4=>⟨(s2.trans s3).trans s4,δ',R4,e2,(k2.mono s3).mono s4⟩
   | ct δ'=>exact fun σ' H'' s4 R4=>⟨(s2.trans s3).trans s4,δ',R4,e2,(k2.mono s3).mono s4⟩
   | bk δ'=>cases e2;exact fun σ' H'' s4 R4=>k2 σ' H'' (s3.trans s4) R4
   | rt d=>cases e2;exact fun v H'' s4 R4=>k2 v H'' (s3.trans s4) R4
   | ex C δ'=>cases e2;exact fun σ' H'' s4 R4=>k2 σ' H'' (s3.trans s4) R4
   | mk C δ'=>cases e2;exact fun σ' H'' s4 R4=>k2 σ' H'' (s3.trans s4) R4
 . have e:i=ds.length:=by omega
   subst e
   rw [List.drop_length] at e2
   cases e2
   exact .inl ⟨(it _ H2 s2).2 (Nat.le_refl _),k2 σ H2 (Same.refl _) R2⟩
def aI:Option Res->Option D
 | some (.rt d)=>some d
 | some (.nx _)=>some .non
 | _=>none
def start (n:Nat) (ds:List D):DS:=ds.map some++List.replicate (n - ds.length) none
section
variable {P:Program} {w:World} {K:PySem.W.Frag} {mg:Str->Option Value} {base:Heap}
theorem bK {x qual:Str} {st:Stmt} {f:Addr} {fd:FuncData} {N ps:List Str} {k:Nat} {G:List D->Option D} (F:Fun K x qual st f fd) (S:aF N ps (ap st))
 (hbody:∀ (cdv:Value) (A:Around) (outer:List Env) (s:Shared) (H:Hp) (E:XK) (ds:List D) (d:D),Room k (A.deeper (envOfC qual (ap st) s.heap.objs.size f cdv))->G ds=some d->ds.length=ps.length ->
  ∃ t,pc (gj CX0 P w K mg base N qual (ap st) f cdv A outer s H E).nox (bH st) t/\aI (t (start N.length ds))=some d):FnOk P w K mg base CX0 (k+1) f fd ps (bi K ps.length G):=by
 refine F.ok S (fun vs H Q E h=>h.1) (fun cdv A outer s H vs Q E hr h=>?_)
 obtain ⟨hl,ds,d,r,e,q⟩:=h
 obtain ⟨t,ht,hq⟩:=hbody cdv A outer s H E ds d hr e (r.length.symm.trans hl)
 refine ⟨_,ht,start N.length ds,?_⟩
 cases z:t (start N.length ds) with
 | none=>rw [z] at hq;cases hq
 | some res =>
  rw [z] at hq
  refine ⟨res,RepS.start r,rfl,?_⟩
  cases res with
  | rt d'=>cases hq;exact q
  | nx δ=>cases hq;exact fun σ' H' s1 _=>q _ H' s1 .non
  | bk δ=>cases hq
  | ct δ=>cases hq
  | ex C δ=>cases hq
  | mk C δ=>cases hq
structure Has (P:Program) (w:World) (K:PySem.W.Frag) (mg:Str->Option Value) (base:Heap) (k:Nat) (x:Str) (ps:List Str) (G:List D->Option D):Prop where
 ex:∃ f fd,FnOk P w K mg base CX0 k f fd ps (bi K ps.length G)/\mg x=some (.ref f)/\PySem.W.keepIn K (.ref f)=true/\Binds K fd ps []
end
theorem aw {X:Cx} {e:Expr} {es:List Expr} {g:FA} {pos p:Pos} {k j:Nat} {x:Str} {ps:List Str} {G:List D->Option D} (F:Has X.prog X.w X.K X.mg X.base k x ps G) (hr:Room j X.A) (ha:PAD X (e :: es) g) (hk:k<=j:=by decide) (hg:Gl X x:=by rfl)
 (hn:(e :: es).length=ps.length:=by rfl) (hdb:(x == ("__debug__":Str))=false:=by decide) (he:starEach (e :: es) X.env=(false,eval e X.env) :: starEach es X.env:=by rfl) (hpl:(backTo pos (starEach es X.env)).any (·.1)=false:=by rfl) :
 PD X (.Call (.Name x p) (e :: es) [] pos) (ak G g):=by
 obtain ⟨f,fd,F,hm,kp,hb⟩:=F.ex
 exact AH F (hr.mono hk) hg hm kp hb ha hn hdb he hpl
end Dl
namespace Dl
open PySem PySem.Spec PyProof.Rows L2
def spLaw (K:PySem.W.Frag):Sp:=fun vs H Q _=>∃ (a:Addr) (ns:List Int),vs=[.ref a]/\SqL K H a (ns.map V.int)/\ns.length<=63/\∀ H',Q (.bl true) H'
end Dl
namespace Dl
noncomputable def fn (S:List D->D->Prop):List D->Option D:=fun ds=>by
 classical exact if h:∃ d,S ds d then some h.choose else none
theorem aV {S:List D->D->Prop} {ds:List D} {d:D} (h:fn S ds=some d):S ds d:=by
 unfold fn at h
 split at h
 . rename_i q
   have e:=Option.some.inj h
   rw [<- e]
   exact q.choose_spec
 . cases h
theorem cg {S:List D->D->Prop} {ds:List D} {d:D} (u:∀ d',S ds d'->d'=d) (h:S ds d):fn S ds=some d:=by
 unfold fn
 have q:∃ d,S ds d:=⟨d,h⟩
 rw [dif_pos q]
 exact congrArg some (u _ q.choose_spec)
theorem wf (a b:Int):gNe (.int a) (.int b)=some (.bl (!(a == b))):=rfl
theorem dX (a b:Int):gEq (.int a) (.int b)=some (.bl (a == b)):=rfl
theorem cn (a b:Int):bD (.int a) (.int b)=some (.int (a+b)):=rfl
theorem aq {C:Int->Int->Prop} [∀ i j,Decidable (C i j)] {g:Int->Int->D} {i j:Int} (h:C i j):gI C g (.int i) (.int j)=some (g i j):=if_pos h
end Dl
namespace Dl
theorem qr (n:String) (p:D->Option Bool) (d:D):Ba n p [d,.ty n]=(p d).map D.bl:=if_pos rfl
theorem c4 (a b:D):gIx (.tup [a,b]) (.int 0)=some a:=rfl
theorem d6 (a b:D):gIx (.tup [a,b]) (.int 1)=some b:=rfl
theorem t4 (ds:List D):cH [.seq ds]=some (.int ds.length):=rfl
theorem sI {n:Nat} {c:FT} {s:SD} {δ δ':DS} (hc:c δ=some true) (hs:s δ=some (.nx δ')):gH (n+1) c s δ=gH n c s δ':=by
 simp only [gH,hc,hs,Zc]
theorem qA {x y:Int} (h0:0<=x) (h:x<=y) (hy:Bd y):Bd x:=Nat.lt_of_le_of_lt (show x.natAbs<=y.natAbs by omega) hy
end Dl
namespace Dl
open PySem PySem.Spec PyProof.Rows L2
abbrev FO:=DS->Option (Option Int)
def dfl (G:List D->Option D) (dv:List Int):List D->Option D:=fun ds=>G (ds++dv.map D.int)
def lJ (g:D->Option D):List D->Option (List D)
 | []=>some []
 | d :: ds=>(g d).bind fun x=>(lJ g ds).bind fun xs=>some (x :: xs)
def bv (js:List Nat) (δ:DS):DS:=js.map fun j=>match δ[j]? with
 | some o=>o
 | none=>none
def oG (src:FA) (js:List Nat) (elt:FD):FD:=fun δ=>(src δ).bind fun ds=>(lJ (fun d=>elt (some d :: bv js δ)) ds).bind fun xs=>if xs.length<=1000 then some (.lst xs) else none
def fF (a b c:Int):List D:=(List.range ((b - a+c - 1) / c).toNat).map fun i=>.int (a+(i:Nat)*c)
def asR:List D->Option (List D)
 | [.int b]=>if -(2 ^ 62)<=b/\b < 2 ^ 62 then some (fF 0 b 1) else none
 | [.int a,.int b]=>if -(2 ^ 62)<=a/\a < 2 ^ 62/\-(2 ^ 62)<=b/\b < 2 ^ 62 then some (fF a b 1) else none
 | [.int a,.int b,.int c]=>if -(2 ^ 62)<=a/\a < 2 ^ 62/\-(2 ^ 62)<=b/\b < 2 ^ 62/\c=2 then some (fF a b c) else none
 | _=>none
def me (g:FA):FA:=fun δ=>(g δ).bind asR
end Dl
namespace Dl
end Dl
namespace Dl
open PySem PySem.Spec PyProof.Rows L2
structure FunD (K:PySem.W.Frag) (x qual:Str) (st:Stmt) (f:Addr) (fd:FuncData) (dV:Value):Prop where
 ex:∃ (oc:Value) (od:Option Addr) (kV doc pm:Value) (an:Option Addr) (cdv ct:Value) (osl:Array (Option Value)),
  fd=PySem.W.fnOf x qual (dw st) (bH st) (ap st) dV kV doc pm an cdv ct/\K.lookup f=some ⟨oc,od,.func fd,osl⟩/\PySem.W.codeIn K cdv qual=true
 kp:PySem.W.keepIn K (.ref f)=true
section
variable {P:Program} {w:World} {K:PySem.W.Frag} {mg:Str->Option Value} {base:Heap}
theorem yn {x qual:Str} {st:Stmt} {f:Addr} {fd:FuncData} {dV:Value} {N ps:List Str} {k:Nat} {G:List D->Option D} (F:FunD K x qual st f fd dV) (S:aF N ps (ap st))
 (hbody:∀ (cdv:Value) (A:Around) (outer:List Env) (s:Shared) (H:Hp) (E:XK) (ds:List D) (d:D),Room k (A.deeper (envOfC qual (ap st) s.heap.objs.size f cdv))->G ds=some d->ds.length=ps.length ->
  ∃ t,pc (gj CX0 P w K mg base N qual (ap st) f cdv A outer s H E).nox (bH st) t/\aI (t (start N.length ds))=some d):FnOk P w K mg base CX0 (k+1) f fd ps (bi K ps.length G):=by
 obtain ⟨oc,od,kV,doc,pm,an,cdv,ct,osl,rfl,lk,hcd⟩:=F.ex
 refine zE lk hcd S (fun vs H Q E h=>h.1) fun A outer s H vs Q E hr hsp=>?_
 obtain ⟨hl,ds,d,r,e,q⟩:=hsp
 obtain ⟨t,ht,hq⟩:=hbody cdv A outer s H E ds d hr e (r.length.symm.trans hl)
 refine ⟨_,ht.nox,start N.length ds,?_⟩
 cases z:t (start N.length ds) with
 | none=>rw [z] at hq;cases hq
 | some res =>
  rw [z] at hq
  refine ⟨res,RepS.start r,rfl,?_⟩
  cases res with
  | rt d'=>cases hq;exact q
  | nx δ=>cases hq;exact fun σ' H' s1 _=>q _ H' s1 .non
  | bk δ=>cases hq
  | ct δ=>cases hq
  | ex C δ=>cases hq
  | mk C δ=>cases hq
theorem FunD.binds {x qual:Str} {st:Stmt} {f T:Addr} {fd:FuncData} {ps:List Str} {o:Obj} {items:Array Value} {n:Nat} {ds:List Value} (F:FunD K x qual st f fd (.ref T)) (ho:K.lookup T=some o) (hs:o.data=.seq items n)
 (h:∀ (kV doc pm:Value) (an:Option Addr) (cdv ct:Value) (us:List Value),(us++ds).length=ps.length->∃ k,bindArgs (PySem.W.fnOf x qual (dw st) (bH st) (ap st) (.ref T) kV doc pm an cdv ct) ⟨us,[]⟩=seqItems? (.ref T) >>= k/\k (some items)=pure (ps.zip (us++ds))):Binds K fd ps ds:=by
 obtain ⟨oc,od,kV,doc,pm,an,cdv,ct,osl,rfl,lk,hcd⟩:=F.ex
 intro s us KI hl
 obtain ⟨k,h1,h2⟩:=h kV doc pm an cdv ct us hl
 exact PySem.W.binds_K KI rfl ho hs h1 h2
theorem Bc {x qual:Str} {st:Stmt} {f:Addr} {oc dV:Value} {od an:Option Addr} {osl:Array (Option Value)} {kV doc pm cdv ct:Value} (l:K.lookup f=some ⟨oc,od,.func (PySem.W.fnOf x qual (dw st) (bH st) (ap st) dV kV doc pm an cdv ct),osl⟩)
 (c:PySem.W.codeIn K cdv qual=true) (k:PySem.W.keepIn K (.ref f)=true):FunD K x qual st f (PySem.W.fnOf x qual (dw st) (bH st) (ap st) dV kV doc pm an cdv ct) dV:=⟨⟨oc,od,kV,doc,pm,an,cdv,ct,osl,rfl,l,c⟩,k⟩
structure sd (P:Program) (w:World) (K:PySem.W.Frag) (mg:Str->Option Value) (base:Heap) (k:Nat) (x:Str) (ps:List Str) (dv:List Int) (G:List D->Option D):Prop where
 ex:∃ f fd ds,FnOk P w K mg base CX0 k f fd ps (bi K ps.length G)/\mg x=some (.ref f)/\PySem.W.keepIn K (.ref f)=true/\Vals (dv.map V.int) ds/\Binds K fd ps ds
end
theorem d9 {X:Cx} {e:Expr} {es:List Expr} {g:FA} {pos p:Pos} {k j:Nat} {x:Str} {ps:List Str} {dv:List Int} {G:List D->Option D} (F:sd X.prog X.w X.K X.mg X.base k x ps dv G) (hr:Room j X.A) (ha:PAD X (e :: es) g) (hk:k<=j:=by decide) (hg:Gl X x:=by rfl)
 (hn:(e :: es).length+dv.length=ps.length:=by rfl) (hdb:(x == ("__debug__":Str))=false:=by decide) (he:starEach (e :: es) X.env=(false,eval e X.env) :: starEach es X.env:=by rfl) (hpl:(backTo pos (starEach es X.env)).any (·.1)=false:=by rfl) :
 PD X (.Call (.Name x p) (e :: es) [] pos) (ak (dfl G dv) g):=by
 obtain ⟨f,fd,ds,F,hm,kp,hv,hb⟩:=F.ex
 refine imp (m3 F (hr.mono hk) hg hm kp hb hv vR ha hdb he hpl) fun σ H Q ⟨δ,d,R,q,k⟩=>?_
 unfold ak at q
 obtain ⟨ds,eds,q⟩:=Za.mp q
 refine ⟨δ,ds,R,eds,fun vs H1 s1 r1 l=>?_⟩
 exact ⟨by rw [Zh,l,Zi];exact hn,ds++dv.map D.int,d,r1.append (Reps.ints dv),q,fun v H' s=>k v H' (s1.trans s)⟩
section
variable {X:Cx} {e:Expr} {f:FD} {lo hi:Option Expr} {fl fh:FO} {pos p2:Pos}
end
section
variable {prog:Program} {w:World} {A:Around} {E:Value->Shared->Prop}
end
theorem uE {K:PySem.W.Frag} {H:Hp} {lo:Int} {n:Nat}:ItD K (Itr lo n) H ((List.range n).map fun (i:Nat)=>D.int (lo+(i:Int)*1)):=by
 intro i H2 s
 refine ⟨fun hi=>?_,fun hi=>(show n<=i by simpa using hi)⟩
 have hi':i < n:=by simpa using hi
 refine ⟨hi',fun x H' y=>?_⟩
 obtain ⟨e,y⟩:=y
 subst e y
 refine ⟨Same.refl _,.int (lo+(i:Int)*1),?_,by rw [Int.mul_one];exact .int _⟩
 rw [List.getElem?_map,List.getElem?_range hi']
 rfl
theorem iL {X:Cx} {tg a:Expr} {g:FA} {p pos:Pos} (hg:Gl X "range") (hm:X.mg "range" = none) (ha:PAD X [a] g) (hs:starEach [a] X.env=[(false,eval a X.env)]:=by rfl):PID X tg (.Call (.Name "range" p) [a] [] pos) (me g) :=
 uV (pV hg hm ha hs) fun σ H R ⟨δ,ds,R0,e,k⟩=>by
 unfold me at e
 obtain ⟨xs,exs,e⟩:=Za.mp e
 refine ⟨δ,xs,R0,exs,fun vs H1 s1 r1 l=>?_⟩
 match xs,r1,e with
 | [.int b],r1,e =>
  obtain ⟨v,rfl,rv⟩:=gK r1
  cases rv
  have e':(if -(2 ^ 62)<=b/\b < 2 ^ 62 then some (fF 0 b 1) else none)=some ds:=e
  by_cases hb:-(2 ^ 62)<=b/\b < 2 ^ 62
  . rw [if_pos hb] at e'
    have e2:fF 0 b 1=ds:=Option.some.inj e'
    refine ⟨b,rfl,hb.1,hb.2,k _ H1 s1 ?_⟩
    have h:=uE (K:=X.K) (H:=H1) (lo:=0) (n:=b.toNat)
    have e3:((b - 0+1 - 1) / 1).toNat=b.toNat:=by congr 1;omega
    unfold fF at e2
    rw [e3] at e2
    rw [<- e2]
    exact h
  . rw [if_neg hb] at e';cases e'
 | [],r1,e=>cases r1;cases l
 | _ :: _ :: _,r1,e=>
  have:=r1.length
  rw [l] at this
  cases this
 | [.non],r1,e=>cases e
 | [.bl _],r1,e=>cases e
 | [.str _],r1,e=>cases e
 | [.tup _],r1,e=>cases e
 | [.lst _],r1,e=>cases e
 | [.seq _],r1,e=>cases e
 | [.ty _],r1,e=>cases e
 | [.dct],r1,e=>cases e
 | [.exc _],r1,e=>cases e
 | [.cls _],r1,e=>cases e
 | [.ms _ _],r1,e=>cases e
 | [.mf _ _],r1,e=>cases e
 | [.md _ _],r1,e=>cases e
end Dl
namespace Dl
open PySem PySem.Spec PyProof.Rows L2
structure CompOk (X:Cx) (scope:Scope) (cl:List (Str×Addr)) (x:Str) (N:List Str) (js:List Nat):Prop where
 clos:closureFor scope X.env=pure cl
 nocell:∀ y∈scope.names,y.2 ≠ .cell
 kind:scope.kind=.function
 names:∀ y∈scope.names,y.2=.local->scope.names.lookup y.1=some .local
 hx:scope.names.lookup x=some .local
 nd:N.Nodup
 h0:N[0]? = some x
 len:N.length=js.length+1
 clx:cl.lookup x=none
 cls:∀ y c,cl.lookup y=some c->X.env.cells.lookup y=some c
 has:∀ y,((relabel scope X.env).names.lookup y=some .cell \/ (relabel scope X.env).names.lookup y=some .free)->∃ c,cl.lookup y=some c
 fr:∀ i y j,N[i+1]? = some y->js[i]? = some j->X.N[j]? = some y/\X.env.scope.names.lookup y=some .cell/\(relabel scope X.env).names.lookup y=some .cell/\∀ c,X.env.cells.lookup y=some c->cl.lookup y=some c
abbrev cS (X:Cx) (scope:Scope) (cl:List (Str×Addr)) (x:Str) (N:List Str) (C:Addr) (s₂:Shared) (H₂:Hp) (fp:List Addr) (pn:List (Addr×Obj)):Cx :=
 { X with env:=compEnvC scope cl C X.env,N:=N,s₀:=s₂,H₀:=H₂,outer:=X.stack,stack:=X.stack,ex:=fp,fn:=fun y=>y == x,calm:=true,pn:=pn,xe:=fun _ _=>False }
section
variable {X:Cx} {pins:List (Addr×Obj)} {σ:L2.St} {H₂:Hp} {s₂:Shared} {scope:Scope} {cl:List (Str×Addr)} {x:Str} {N:List Str} {js:List Nat} {C:Addr} {fp:List Addr}
theorem xI (I:L2.Inv X pins σ H₂ s₂) (hcm:X.calm=true) (O:CompOk X scope cl x N js) (hC:s₂.heap.objs.size<=C) (hf:∀ b∈fp,jN X pins H₂ b) (ho:∀ b∈fp,∃ o,s₂.heap.get? b=some o):(cS X scope cl x N C s₂ H₂ fp (X.pn++pins)).Ok where
 mod:=I.ok.mod
 kind:=O.kind
 glob:=I.ok.glob
 blt:=I.ok.blt
 above:=hC
 inj:=fun y z c h1 h2=>I.ok.inj y z c (O.cls y c h1) (O.cls z c h2)
 has:=fun y h=>O.has y h
 cab:=fun y c h1 h2=>by
  have e:y=x:=by simpa using h1
  subst e
  have:cl.lookup y=some c:=h2
  rw [O.clx] at this
  cases this
 hd:=fun _=>I.ok.hd hcm
 frames:=I.ok.frames
 stk:=.inl rfl
 exf:=fun b hb=>by
  obtain ⟨o,e⟩:=ho b hb
  refine ⟨Nat.ne_of_lt (Nat.lt_of_lt_of_le (Heap.lt_size e) hC),fun y c h z=>?_⟩
  exact (hf b hb).2.2.2.2.1 y c (O.cls y c h) z
 bs:=I.bs
 bsz:=Nat.le_trans I.ok.bsz I.sz
 noex:=fun b o e hb=>by
  rcases (hf b hb).2.2.2.1 with z | z
  . exact I.ok.noex b o e z
  . exact absurd (Nat.lt_of_lt_of_le (Heap.lt_size e) (Nat.le_trans I.ok.bsz z)) (Nat.lt_irrefl _)
 exfs:=fun b hb z=>by
  rcases Zq.mp (I.stkSub b z) with e | e
  . exact (hf b hb).2.1 e
  . exact (hf b hb).2.2.1 e
 funs:=I.stack
 frf:=I.stkFree
end
theorem om {g:D->Option D}:∀ {ds xs:List D},lJ g ds=some xs->xs.length=ds.length/\∀ (i:Nat) d,ds[i]? = some d->∃ e,g d=some e/\xs[i]? = some e
 | [],xs,h=>by
  cases h
  exact ⟨rfl,fun i d e=>by simp at e⟩
 | d :: ds,xs,h=>by
  obtain ⟨x,ex,h⟩:=Za.mp (show ((g d).bind _)=some xs from h)
  obtain ⟨ys,ey,h⟩:=Za.mp h
  cases h
  obtain ⟨h1,h2⟩:=om ey
  refine ⟨by simp [h1],fun i e he=>?_⟩
  cases i with
  | zero=>simp at he;subst he;exact ⟨x,ex,rfl⟩
  | succ i =>
   obtain ⟨z,hz1,hz2⟩:=h2 i e (by simpa using he)
   exact ⟨z,hz1,by simpa using hz2⟩
def d5 (js:List Nat) (σ:L2.St):L2.St:=js.map fun j=>match σ[j]? with
 | some o=>o
 | none=>none
theorem ls {K:PySem.W.Frag} {H:Hp} {σ:L2.St} {δ:DS} (R:RepS K H σ δ) (js:List Nat):RepS K H (none :: d5 js σ) (none :: bv js δ):=by
 refine ⟨by simp [d5,bv],fun i d q=>?_⟩
 cases i with
 | zero=>simp at q
 | succ i =>
  have q':(bv js δ)[i]? = some (some d):=by simpa using q
  unfold bv at q'
  rw [List.getElem?_map] at q'
  obtain ⟨j,h1,h2⟩:=Zb.mp q'
  cases h3:δ[j]? with
  | none=>rw [h3] at h2;cases h2
  | some o =>
   rw [h3] at h2
   have h2':o=some d:=h2
   subst h2'
   obtain ⟨v,h4,h5⟩:=R.val j d h3
   refine ⟨v,?_,h5⟩
   show (d5 js σ)[i]? = some (some v)
   unfold d5
   rw [List.getElem?_map,h1]
   show some (match σ[j]? with | some o=>o | none=>none)=some (some v)
   rw [h4]
theorem bindF {α β:Type} {M:Model} {A:Around} {m:Sem α} {f:α->Sem β} {Q:α->Shared->Prop} {R:β->Shared->Prop} {E:Value->Shared->Prop} {s:Shared} (h:wpAny M A m Q (fun _ _=>False) s) (k:∀ a s',Q a s'->wpAny M A (f a) R E s'):wpAny M A (m>>=f) R E s:=wpAny_bind (wpAny_mono h k fun _ _=>False.elim)
theorem k9 {prog:Program} {w:World} {A:Around} {R:Result->Shared->Prop} {s:Shared} {elt target iter:Expr} {scope:Scope} {pos:Pos} {it acc:Value} {env:Env} (J:Nat->Shared->Prop)
 (turn:∀ n s,J n s->wpAny (model prog w) A (pyNext it) (fun r s₁=>match r with
  | none=>R (.ok .next) s₁
  | some v=>wpAny (model prog w) A (letOwnedTupleGo target it v) (fun _ s₂=>wpAny (model prog w) A (assign target env v) (fun _ s₃=>wpAny (model prog w) A (eval elt env) (fun y s₄ =>
   wpAny (model prog w) A (call (.builtin "list.append") [acc,y]) (fun _ s₅=>∃ m,m < n/\J m s₅) (fun _ _=>False) s₄) (fun _ _=>False) s₃) (fun _ _=>False) s₂) (fun _ _=>False) s₁) (fun _ _=>False) s)
 (n:Nat) (h:J n s):codeAny (model prog w) A (.compLoop (.ListComp elt [⟨target,iter,[],0⟩] scope pos) 0 it acc env) R s:=by
 refine codeAny_loop rfl J (fun n s j=>wpAny_noted (m:=compTurn (.ListComp elt [⟨target,iter,[],0⟩] scope pos) 0 it acc env) (compTurn_list1 elt target iter scope pos it acc env▸wpAny_bind (wpAny_standAt (bindF (turn n s j) fun r _ q=>?_)))) n h
 cases r with
 | none=>exact wpAny_pure q
 | some v=>
  exact bindF q fun _ _ q=>bindF q fun _ _ q=>wpAny_bind (bindF q fun _ _ q=>bindF q fun _ _ q=>wpAny_pure (wpAny_pure ⟨rfl,q⟩))
section
variable {X:Cx} {pins:List (Addr×Obj)} {σ:L2.St} {H₂:Hp} {s₂:Shared} {scope:Scope} {cl:List (Str×Addr)} {x:Str} {N:List Str} {js:List Nat} {C:Addr} {fp:List Addr}
theorem jm (I:L2.Inv X pins σ H₂ s₂) {a:Addr} (h:s₂.heap.objs.size<=a):a ∉ frs X.stack:=fun z=>by
 rcases Zq.mp (I.stkSub a z) with e | e
 . exact absurd (Nat.lt_of_lt_of_le I.lt (by rw [<- e];exact h)) (Nat.lt_irrefl _)
 . exact I.nofs h e
theorem oQ {h₁:Heap} {m:Str->Option Value} {tk:Nat} (I:L2.Inv X pins σ H₂ s₂) (hcm:X.calm=true) (O:CompOk X scope cl x N js) (hC:s₂.heap.objs.size<=C) (hf:∀ b∈fp,jN X pins H₂ b) (ho:∀ b∈fp,∃ o,s₂.heap.get? b=some o)
 (old:∀ b o,s₂.heap.get? b=some o->h₁.get? b=some o) (hns:h₁.Ns C m) (hl:σ.length=X.N.length):L2.Inv (cS X scope cl x N C s₂ H₂ fp (X.pn++pins)) [] (none :: d5 js σ) H₂ { s₂ with heap:=h₁,toks:=tk } where
 ok:=xI I hcm O hC hf ho
 os:=rfl
 bare:=I.bare
 base:=Un.kept old
 loc:=by
  refine ⟨m,hns,fun i y v h1 h2 h3=>?_⟩
  cases i with
  | zero=>simp at h2
  | succ i =>
   have h2':(d5 js σ)[i]? = some (some v):=by simpa using h2
   unfold d5 at h2'
   rw [List.getElem?_map] at h2'
   obtain ⟨j,hj,h4⟩:=Zb.mp h2'
   have h5:σ[j]? = some (some v):=by
    cases q:σ[j]? with
    | none=>rw [q] at h4;cases h4
    | some o=>rw [q] at h4;exact congrArg some h4
   obtain ⟨f1,f2,f3,f4⟩:=O.fr i y j h1 hj
   obtain ⟨m',hn',hl'⟩:=I.loc
   obtain ⟨u,ru,lk⟩:=hl' j y v f1 h5 (.inr (.inl f2))
   refine ⟨u,ru,?_⟩
   rcases lk with ⟨k1,_⟩ | ⟨_,c,hc,o,hco,hcd⟩
   . have:X.env.scope.names.lookup y=some .local:=k1
     rw [f2] at this
     cases this
   . exact .inr ⟨.inl f3,c,f4 c hc,o,old c o hco,hcd⟩
 cell:=fun y c e=>by
  obtain ⟨v,o,h1,h2⟩:=I.cell y c (O.cls y c e)
  exact ⟨v,o,old c o h1,h2⟩
 free:=I.hok.fresh hC
 freeC:=fun y c e=>I.freeC y c (O.cls y c e)
 pin:=fun p hp=>by
  have hp':p∈X.pn++pins:=by simpa using hp
  obtain ⟨h1,h2,h3,h4,h5⟩:=I.pin p hp'
  refine ⟨old _ _ h1,h2,Nat.ne_of_lt (Nat.lt_of_lt_of_le (Heap.lt_size h1) hC),fun z=>?_,h5⟩
  rcases Zq.mp (I.stkSub p.1 z) with e | e
  . exact h3 e
  . exact h4 e
 hok:=I.hok.kept old
 len:=by
  show (none :: d5 js σ).length=N.length
  rw [O.len]
  simp [d5]
theorem u9 {elt iter:Expr} {px pos:Pos} {it:Addr} {tn:Nat->Heap->Prop} {J:It} {ds xs:List D} {δ:DS} {felt:FD} {RR:Value->Addr->Result->Shared->Prop} {E:Value->Shared->Prop} (I:L2.Inv X pins σ H₂ s₂) (hcm:X.calm=true) (O:CompOk X scope cl x N js)
 (T:ut X.prog X.w X.K (.Name x px) J fp it tn) (st:tn 0 s₂.heap) (hf:∀ b∈fp,jN X pins H₂ b) (itd:ItD X.K J H₂ ds) (R:RepS X.K H₂ σ δ) (he:∀ C s₂ H₂ fp pn,PD (cS X scope cl x N C s₂ H₂ fp pn) elt felt)
 (hm:lJ (fun d=>felt (some d :: bv js δ)) ds=some xs) (hz:xs.length<=1000)
 (hRR:∀ (D C:Addr) (s':Shared) (Hend:Hp) (vs:List V),s₂.heap.objs.size<=C->L2.Inv X pins σ Hend s'->Same H₂ Hend->Hend D=some (.lst vs)->Reps X.K Hend vs xs->(∃ m,s'.heap.Ns C m)->Hend C=none->RR (.ref D) C (.ok .next) s') :
 wpAny (model X.prog X.w) X.A (newList []) (fun acc s₃=>wpAny (model X.prog X.w) X.A (newFunctionEnv scope X.env.globals cl [] X.env.qual none .none (some X.env)) (fun cenv s₄ =>
  codeAny (model X.prog X.w) X.A (.compStart (.ListComp elt [⟨.Name x px,iter,[],0⟩] scope pos) 0 (.ref it) acc { cenv with scope:=relabel scope X.env }) (RR acc cenv.locals) s₄) E s₃) E s₂:=by
 obtain ⟨ml,mg'⟩:=om hm
 have objs:=T.obj 0 s₂.heap st
 have objs':∀ b∈fp,∃ o,s₂.heap.get? b=some o:=fun b hb=>let ⟨o,h,_⟩:=objs b hb;⟨o,h⟩
 refine wpAny_newObj_type (wpAny_newFunctionEnv O.nocell (by intro y hy;simp at hy) (fun h₁ hns₁ hsb₁=>?_) O.kind)
 dsimp only at hns₁ hsb₁ ⊢
 generalize hP:s₂.heap.push { cls:=.type "list",dict:=none,data:=.seq ([]:List Value).toArray }=P2 at hns₁ hsb₁ ⊢
 have hC:P2.objs.size=s₂.heap.objs.size+1:=by rw [<- hP,Heap.size_push]
 generalize hCC:P2.objs.size=C at *
 have hCle:s₂.heap.objs.size<=C:=by omega
 have hDle:s₂.heap.objs.size<=s₂.heap.objs.size:=by omega
 have hDC:s₂.heap.objs.size ≠ C:=by omega
 have old:∀ b o,s₂.heap.get? b=some o->h₁.get? b=some o:=fun b o e=>by
  refine hsb₁.extBut b o (Nat.ne_of_lt (Nat.lt_of_lt_of_le (Heap.lt_size e) hCle)) (Heap.get?_push_of_some _ ?_)
  rw [<- hP]
  exact Heap.get?_push_of_some _ e
 have hacc:h₁.get? s₂.heap.objs.size=some { cls:=.type "list",data:=.seq ([]:List Value).toArray }:=by
  refine hsb₁.extBut s₂.heap.objs.size _ hDC (Heap.get?_push_of_some _ ?_)
  rw [<- hP]
  exact Heap.get?_push_size _ rfl
 have I0:=fun tk=>oQ (C:=C) (tk:=tk) I hcm O hCle hf objs' old hns₁ I.len
 have dstk:s₂.heap.objs.size ∉ frs X.stack:=jm I hDle
 have fne:∀ b∈fp,b ≠ s₂.heap.objs.size:=fun b hb e=>by
  obtain ⟨o,h⟩:=objs' b hb
  exact absurd (Heap.lt_size h) (by rw [e];exact Nat.lt_irrefl _)
 have cne:∀ y c,cl.lookup y=some c->c ≠ s₂.heap.objs.size:=fun y c e z=>by
  obtain ⟨v,o,h1,_⟩:=I.cell y c (O.cls y c e)
  exact absurd (Heap.lt_size h1) (by rw [z];exact Nat.lt_irrefl _)
 have pne:∀ p∈X.pn++pins,p.1 ≠ s₂.heap.objs.size:=fun p hp e=>by
  exact absurd (Heap.lt_size (I.pin p hp).1) (by rw [e];exact Nat.lt_irrefl _)
 have stat:∀ {H':Hp} {pl:List (Addr×Obj)},(∀ b∈fp,H' b=none)->(∀ p∈pl,∀ b∈fp,p.1 ≠ b)->∀ b∈fp,jN (cS X scope cl x N C s₂ H₂ fp (X.pn++pins)) pl H' b:=fun {H' pl} hn hpl b hb=>by
  obtain ⟨o,h⟩:=objs' b hb
  refine ⟨hn b hb,Nat.ne_of_lt (Nat.lt_of_lt_of_le (Heap.lt_size h) hCle),fun z=>?_,.inl hb,fun y c e=>(hf b hb).2.2.2.2.1 y c (O.cls y c e),fun p hp=>?_⟩
  . rcases Zq.mp (I.stkSub b z) with e | e
    . exact (hf b hb).2.1 e
    . exact (hf b hb).2.2.1 e
  . rcases Zp.mp hp with q | q
    . exact (hf b hb).2.2.2.2.2 p q
    . exact hpl p q b hb
 have loop:∀ s₃:Shared,s₃={ s₂ with heap:=h₁,toks:=s₂.toks+([]:List (Str×Value)).length } ->
  codeAny (model X.prog X.w) X.A (.compLoop (.ListComp elt [⟨.Name x px,iter,[],0⟩] scope pos) 0 (.ref it) (.ref s₂.heap.objs.size) (compEnvC scope cl C X.env)) (RR (.ref s₂.heap.objs.size) C) s₃:=by
  rintro s₃ rfl
  refine k9 (fun n s=>∃ (i:Nat) (σ':L2.St) (H':Hp) (vs:List V) (o:Option D),n=ds.length - i/\i<=ds.length/\L2.Inv (cS X scope cl x N C s₂ H₂ fp (X.pn++pins)) [] σ' H' s/\Same H₂ H'/\RepS X.K H' σ' (o :: bv js δ)/\tn i s.heap/\(∀ b∈fp,H' b=none) /\
   (∃ (its:List Value) (k:Nat),Vals vs its/\s.heap.get? s₂.heap.objs.size=some { cls:=.type "list",data:=.seq its.toArray k })/\H' s₂.heap.objs.size=none/\Reps X.K H' vs (xs.take i)/\vs.length=i) ?_ ds.length
   ⟨0,_,H₂,[],none,rfl,Nat.zero_le _,I0 _,Same.refl _,ls R js,T.keep 0 _ _ st (fun b hb o e=>old b o e),fun b hb=>(hf b hb).1,⟨[],0,.nil,hacc⟩,I.hok.fresh hDle,.nil,rfl⟩
  rintro n s ⟨i,σ',H',vs,o,rfl,hi,I',sm,R',st',fr',⟨its,k,rv,hD⟩,fD,rr,hl⟩
  by_cases hlt:i < ds.length
  . -- one more
    obtain ⟨go,yl⟩:=(itd i H' sm).1 hlt
    have hd0:ds[i]? = some ds[i]:=by simp [hlt]
    obtain ⟨e,ge,xe⟩:=mg' i _ hd0
    have I1:L2.Inv (cS X scope cl x N C s₂ H₂ fp (X.pn++pins)) [(s₂.heap.objs.size,{ cls:=.type "list",data:=.seq its.toArray k })] σ' H' s:=I'.pins_of fun p hp=>by
     have:p=(s₂.heap.objs.size,{ cls:=.type "list",data:=.seq its.toArray k }):=by simpa using hp
     subst this
     exact ⟨hD,fD,hDC,dstk,fun v z=>by cases z⟩
    refine thn (T.item (cS X scope cl x N C s₂ H₂ fp (X.pn++pins)) rfl rfl rfl rfl i _ s σ' H' (fun _ _=>False) I1 (stat fr' fun p hp b hb=>by
     have:p=(s₂.heap.objs.size,{ cls:=.type "list",data:=.seq its.toArray k }):=by simpa using hp
     subst this
     exact (fne b hb).symm) st' go) fun r s1 ⟨u,hr,h4⟩=>?_
    subst hr
    refine thn h4 fun _ s2 ⟨y,H'',I2,ru,yy,st2,fr2⟩=>?_
    obtain ⟨s3,d,hd,rd⟩:=yl y H'' yy
    have hd':d=ds[i]:=by rw [hd0] at hd;exact (Option.some.inj hd).symm
    subst hd'
    have I3:=I2.pinned (stat fr2 fun p hp b hb=>by
     have:p=(s₂.heap.objs.size,{ cls:=.type "list",data:=.seq its.toArray k }):=by simpa using hp
     subst this
     exact (fne b hb).symm) (T.obj _ _ st2)
    refine thn (jF (X:=cS X scope cl x N C s₂ H₂ fp (X.pn++pins)) (i:=0) O.nd O.h0 (.inl (lookup_relabel_local O.hx)) (.inl (by simp)) _ s2 σ' H'' y u (fun σ4 H4=>σ4=σ'.set 0 (some y)/\H4=H'') I3 ru ⟨rfl,rfl⟩) fun _ s4 ⟨σ4,H4,I4,e1,e2⟩=>?_
    subst e1 e2
    have R4:RepS X.K H4 (σ'.set 0 (some y)) (some ds[i] :: bv js δ):=(R'.mono s3).set 0 rd
    refine thn (he C s₂ H₂ fp (X.pn++pins) _ s4 (σ'.set 0 (some y)) H4 (fun v H5=>Same H4 H5/\Rep X.K H5 v e) I4 ⟨_,e,R4,ge,fun v H5 s5 r5=>⟨s5,r5⟩⟩) fun wv s5 ⟨v,H5,I5,rw5,s45,r5⟩=>?_
    have hD5:s5.heap.get? s₂.heap.objs.size=some { cls:=.type "list",data:=.seq its.toArray k }:=(I5.pin (s₂.heap.objs.size,{ cls:=.type "list",data:=.seq its.toArray k }) (by simp)).1
    have fD5:H5 s₂.heap.objs.size=none:=(I5.pin (s₂.heap.objs.size,{ cls:=.type "list",data:=.seq its.toArray k }) (by simp)).2.1
    have pf:∀ b∈fp,∀ ob,s2.heap.get? b=some ob->s5.heap.get? b=some ob/\H5 b=none:=fun b hb ob hob=>by
     have:=I5.pin (b,ob) (List.mem_append_right _ (List.mem_append_right _ (fS hb hob)))
     exact ⟨this.1,this.2.1⟩
    have lz:its.length<=1000:=by
     have:=rv.length
     omega
    refine call_meets F.slot_list_append ⟨_,hD5,rfl⟩ F.entry_list_append (F.args_list_append_2 _ _) (PySem.list_append s₂.heap.objs.size its.toArray k wv (by rw [List.size_toArray];exact eL lz)) ⟨hD5,?_⟩
    have q:=PySem.IsL.update hD5 (fun a=>a.push wv)
    have I6:L2.Inv (cS X scope cl x N C s₂ H₂ fp (X.pn++pins)) [] (σ'.set 0 (some y)) H5 { s5 with heap:=s5.heap.update s₂.heap.objs.size (Obj.mapSeq fun a=>a.push wv),toks:=s5.toks } :=
     (I5.pins_of (pins':=[]) fun p hp=>by simp at hp).turned (it:=s₂.heap.objs.size) (t':=s5.toks) (fun b ob hb hu=>(Heap.get?_update_other s5.heap _ (Ne.symm hb)).trans hu) fD5 hDC (.inr hDle) cne (fun p hp=>by
      rcases Zp.mp hp with z | z
      . exact pne p z
      . simp at z)
    refine ⟨ds.length - (i+1),by omega,i+1,σ'.set 0 (some y),H5,vs++[v],some ds[i],rfl,hlt,I6,(sm.trans s3).trans s45,R4.mono s45,?_,?_,?_,fD5,?_,by simp [hl]⟩
    . refine T.keep _ _ _ st2 fun b hb ob hob=>?_
      exact (Heap.get?_update_other s5.heap _ (Ne.symm (fne b hb))).trans (pf b hb ob hob).1
    . intro b hb
      obtain ⟨ob,hob,_⟩:=T.obj _ _ st2 b hb
      exact (pf b hb ob hob).2
    . have hf7:its.toArray.push wv=(its++[wv]).toArray:=by simp
      rw [hf7] at q
      exact ⟨its++[wv],_,rv.append (.cons rw5 .nil),q⟩
    . have e8:xs.take (i+1)=xs.take i++[e]:=by
       rw [List.take_add_one,xe];rfl
      rw [e8]
      exact ((rr.mono s3).mono s45).append (.cons r5 .nil)
  . -- the end
    have hie:i=ds.length:=by omega
    refine thn (T.done (cS X scope cl x N C s₂ H₂ fp (X.pn++pins)) rfl rfl rfl rfl i [(s₂.heap.objs.size,{ cls:=.type "list",data:=.seq its.toArray k })] s σ' H' (fun _ _=>False) (I'.pins_of fun p hp=>by
     have:p=(s₂.heap.objs.size,{ cls:=.type "list",data:=.seq its.toArray k }):=by simpa using hp
     subst this
     exact ⟨hD,fD,hDC,dstk,fun v z=>by cases z⟩) (stat fr' fun p hp b hb=>by
     have:p=(s₂.heap.objs.size,{ cls:=.type "list",data:=.seq its.toArray k }):=by simpa using hp
     subst this
     exact (fne b hb).symm) st' ((itd i H' sm).2 (by omega))) fun r s1 ⟨hr,I8⟩=>?_
    subst hr
    have hD8:s1.heap.get? s₂.heap.objs.size=some { cls:=.type "list",data:=.seq its.toArray k }:=(I8.pin (s₂.heap.objs.size,{ cls:=.type "list",data:=.seq its.toArray k }) (by simp)).1
    have hxs:xs.take i=xs:=List.take_of_length_le (by omega)
    rw [hxs] at rr
    have sn:=dM fD (.lst vs)
    have dn:∀ b,∀ u,H' b=some u->b ≠ s₂.heap.objs.size:=fun b u z=>dq z fD
    have un:Un (frs X.stack) fp H₂ (upd H' s₂.heap.objs.size (.lst vs)) s₂.heap s1.heap:=by
     have b0:=I8.base
     refine ⟨fun b ob e n1 n2 n3=>b0.keep b ob e n1 n2 n3,fun b ob e n1 n2 n3=>b0.slot b ob e n1 n2 n3,fun b ob e n1 n3=>?_,fun b ob e n3=>b0.there b ob e n3,fun b zs e=>?_,fun b ob u e=>?_,fun b ps e=>?_⟩
     . rw [aD (Nat.ne_of_lt (Heap.lt_size e))]
       exact b0.free b ob e n1 n3
     . have z:=b0.tups b zs e
       rw [aD (dn _ _ z)]
       exact z
     . have z:=b0.frzs b ob u e
       rw [aD (dn _ _ z)]
       exact z
     . obtain ⟨more,z⟩:=b0.tbls b ps e
       exact ⟨more,by rw [aD (dn _ _ z)];exact z⟩
    have hok:HOk X.prog X.w (upd H' s₂.heap.objs.size (.lst vs)) s1.heap:=fun b u z=>by
     by_cases hb:b=s₂.heap.objs.size
     . rw [hb] at z ⊢
       rw [bc] at z
       cases z
       exact ⟨eL (by omega),its,k,rv,hD8⟩
     . rw [aD hb] at z
       exact (I8.hok b u z).stay (fun _ _ _ q=>q) (fun c q=>by rw [aD (dn _ _ q)];exact q) fun c ys q=>by rw [aD (dn _ _ q)];exact q
    have IX:L2.Inv X pins σ (upd H' s₂.heap.objs.size (.lst vs)) s1:=I.call' I8.os un hok I8.bare fun b hb=>⟨(hf b hb).2.2.2.1,(hf b hb).2.1,(hf b hb).2.2.2.2.1,(hf b hb).2.2.2.2.2⟩
    obtain ⟨m8,hn8,_⟩:=I8.loc
    refine hRR s₂.heap.objs.size C s1 _ vs hCle IX (sm.trans sn) bc (rr.mono sn) ⟨m8,hn8⟩ ?_
    rw [aD (Ne.symm hDC)]
    exact I8.free
 exact codeAny_compStart_list (loop _ rfl) (T.self X.A 0 _ _ _ (T.keep 0 _ _ st (fun b hb o e=>old b o e)) (loop _ rfl))
theorem qk {C:Addr} {h':Heap} {s':Shared} {Hend:Hp} (I:L2.Inv X pins σ Hend s') (I0:L2.Inv X pins σ H₂ s₂) (hC:s₂.heap.objs.size<=C) (fC:Hend C=none) (hs:Heap.SameBut C s'.heap h'):L2.Inv X pins σ Hend { s' with heap:=h' } :=
 I.turned (it:=C) (t':=s'.toks) (fun b o hb e=>(hs.2 b hb).trans e) fC (Nat.ne_of_gt (Nat.lt_of_lt_of_le I0.lt hC)) (.inr (Nat.le_trans I0.sz hC))
  (fun y c e z=>by
   obtain ⟨v,o,h1,_⟩:=I0.cell y c e
   exact absurd (Nat.lt_of_lt_of_le (Heap.lt_size h1) (by rw [z];exact hC)) (Nat.lt_irrefl _))
  (fun p hp z=>absurd (Nat.lt_of_lt_of_le (Heap.lt_size (I0.pin p hp).1) (by rw [z];exact hC)) (Nat.lt_irrefl _))
theorem vQ {elt iter:Expr} {px pos:Pos} {src:FA} {felt:FD} (hi:PID X (.Name x px) iter src) {N:List Str} {js:List Nat} (he:∀ C s₂ H₂ fp pn,PD (cS X scope cl x N C s₂ H₂ fp pn) elt felt) (O:CompOk X scope cl x N js) (hcm:X.calm=true:=by rfl)
 (hs:∀ v,foldedSetIterable iter X.env v=pure v:=by intro _;rfl):PD X (.ListComp elt [⟨.Name x px,iter,[],0⟩] scope pos) (oG src js felt):=by
 intro pins s σ H Q I ⟨δ,d,R,q,k⟩
 unfold oG at q
 obtain ⟨ds,eds,q⟩:=Za.mp q
 obtain ⟨xs,exs,q⟩:=Za.mp q
 by_cases hz:xs.length<=1000
 . rw [if_pos hz] at q
   cases q
   rw [eval_ListComp]
   refine wpAny_comprehension_free (use:=none) rfl hs O.clos O.kind O.names ?_
   refine wpAny_mono (hi pins s σ H (fun J H1=>Same H H1/\ItD X.K J H1 ds) I ⟨δ,ds,R,eds,fun J H1 s1 itd=>⟨s1,itd⟩⟩) (fun v s1 h1=>wpAny_mono h1 (fun itv s2 h2=>?_) fun _ _ z=>z) fun _ _ z=>z
   obtain ⟨it,fp,tn,J,H2,rfl,I2,T,st,hf,s1,itd⟩:=h2
   refine u9 (RR:=fun acc C=>compPost (model X.prog X.w) X.A X.xe none (EP X pins σ Q) acc C) I2 hcm O T st hf itd (R.mono s1) he exs hz ?_
   intro D C s' Hend vs hC IX sm hD rr ⟨m,hn⟩ fC
   exact ⟨m,hn,fun h' hs'=>⟨.ref D,Hend,qk IX I2 hC fC hs',rfl,k _ _ (s1.trans sm) (.lst hD rr)⟩⟩
 . rw [if_neg hz] at q;cases q
end
end Dl
namespace Dl
open PySem PySem.Spec PyProof.Rows L2
theorem CompOk.one {X:Cx} {scope:Scope} {c:Addr} {x z:Str} {j:Nat} (clos:closureFor scope X.env=pure [(z,c)]:=by rfl) (nocell:∀ y∈scope.names,y.2 ≠ .cell:=by decide +kernel) (kind:scope.kind=.function:=by rfl)
 (names:∀ y∈scope.names,y.2=.local->scope.names.lookup y.1=some .local:=by decide +kernel) (hx:scope.names.lookup x=some .local:=by rfl) (hne:x ≠ z:=by decide +kernel) (hcell:X.env.cells.lookup z=some c:=by rfl)
 (hfr:∀ p∈scope.names,p.2=.free->p.1=z:=by decide +kernel) (hj:X.N[j]? = some z:=by rfl) (hk:X.env.scope.names.lookup z=some .cell:=by rfl) (hk':(relabel scope X.env).names.lookup z=some .cell:=by rfl):CompOk X scope [(z,c)] x [x,z] [j] where
 clos:=clos
 nocell:=nocell
 kind:=kind
 names:=names
 hx:=hx
 nd:=by simp [hne]
 h0:=rfl
 len:=rfl
 clx:=by
  show List.lookup x [(z,c)]=none
  have q:(x == z)=false:=beq_eq_false_iff_ne.mpr hne
  rw [List.lookup_cons,q]
  rfl
 cls:=fun y a h=>by
  have h':List.lookup y [(z,c)]=some a:=h
  by_cases hy:y=z
  . subst hy
    simp at h'
    subst h'
    exact hcell
  . have q:(y == z)=false:=beq_eq_false_iff_ne.mpr hy
    rw [List.lookup_cons,q] at h'
    cases h'
 has:=fun y h=>by
  have key:∀ k,(k=NameKind.cell \/ k=NameKind.free)->(relabel scope X.env).names.lookup y=some k->y=z:=fun k hk h=>by
   have m:=PySem.mem_of_lookup h
   unfold relabel at m
   obtain ⟨⟨n,k'⟩,m1,m2⟩:=Zn.mp m
   dsimp only at m2
   have hk1:k'=NameKind.free:=by
    split at m2
    . rename_i hc
      rw [Bool.and_eq_true,Bool.and_eq_true] at hc
      exact beq_iff_eq.mp hc.1.1
    . have e:k'=k:=congrArg Prod.snd m2
      rcases hk with z1 | z1
      . exact absurd (e.trans z1) (nocell _ m1)
      . exact e.trans z1
   have hn:n=y:=by split at m2 <;> exact congrArg Prod.fst m2
   rw [<- hn]
   exact hfr _ m1 hk1
  have e:y=z:=by
   rcases h with h | h
   . exact key _ (.inl rfl) h
   . exact key _ (.inr rfl) h
  subst e
  exact ⟨c,by simp⟩
 fr:=fun i y k h1 h2=>by
  cases i with
  | zero =>
   have e1:z=y:=Option.some.inj h1
   have e2:j=k:=Option.some.inj h2
   subst e1 e2
   refine ⟨hj,hk,hk',fun a ha=>?_⟩
   rw [hcell] at ha
   cases ha
   simp
  | succ i=>cases h2
end Dl
namespace Dl
open PySem PySem.Spec PyProof.Rows L2
end Dl
namespace Dl
open PySem PySem.Spec PyProof.Rows L2
theorem AI {K:PySem.W.Frag} {h:Heap} {C:Addr} {bmB:List Value} {newId:String} (X:K.In h) (q:PySem.W.excIn K C bmB newId=true) :
 ∃ bm N nm qn bs hdct sn sub ab col dd k0 k1 k2 k3 k5 mN,h.get? C=some (excClassObj nm qn C N bs bm hdct sn sub ab col dd k0 k1 k2 k3 k5 newId)/\h.Ns N mN/\mN "__init__" = none/\OwnTail h bmB bm:=by
 unfold PySem.W.excIn at q
 split at q
 next dd cd sl ho =>
  split at q
  next C' bm k0 k1 k2 k3 n k5 hm hs =>
   simp only [beq_iff_eq,Bool.not_eq_true',Bool.and_eq_true] at q
   obtain ⟨⟨⟨⟨⟨e1,e2⟩,e3⟩,e4⟩,e5⟩,e6⟩:=q
   subst e1 e2
   obtain ⟨nm,bs,mro,ns,qn,hd,sn,sub,ab,col,del⟩:=cd
   dsimp only at hm e3 e5 e6
   subst hm e3
   have hsl:sl = #[k0,k1,k2,k3,some (.builtin n),k5]:=by
    cases sl with
    | mk l=>exact congrArg Array.mk hs
   subst hsl
   exact ⟨bm,ns,nm,qn,bs,hd,sn,sub,ab,col,dd,k0,k1,k2,k3,k5,h.nsMap ns,X _ _ ho,.of_isNs (PySem.W.isNs_of_in X e5),PySem.W.nsMap_none_of_in X e5 e6,PySem.W.tail_of_in X e4⟩
  next=>cases q
 next=>cases q
def yc (C:Addr) (g:FA):SD:=fun δ=>(g δ).bind fun _=>some (.mk C δ)
abbrev GX:=List D->Option (Except Addr D)
def n6:Option Res->Option (Except Addr D)
 | some (.rt d)=>some (.ok d)
 | some (.nx _)=>some (.ok .non)
 | some (.ex C _)=>some (.error C)
 | some (.mk C _)=>some (.error C)
 | _=>none
section
variable {P:Program} {w:World} {K:PySem.W.Frag} {mg:Str->Option Value} {base:Heap}
end
section
variable {X:Cx} {a b:Expr} {fa fb:FD} {pos:Pos}
theorem fG {y:Str} {C:Addr} (hg:Gl X y) (hm:X.mg y=some (.ref C)) (hd:(y == ("__debug__":Str))=false:=by decide):PD X (.Name y pos) (fC (.cls C)) :=
 imp (AA (v:=.ref C) hg hm rfl hd) fun σ H Q ⟨δ,d,R,e,k⟩=>by cases e;exact k _ H (Same.refl H) (.cls C)
end
end Dl
namespace Dl
open PySem PySem.Spec PyProof.Rows L2
structure se (K:PySem.W.Frag) (C:Addr):Prop where
 cls:PySem.W.isClsIn K C=true
 ga:PySem.W.findIn K (.ref C) "__getattribute__" = some (some (.builtin "BaseException.__getattribute__"))
 nh:PySem.W.findIn K (.ref C) "__getattr__" = some none
 cl:PySem.W.findIn K (.ref C) "__class__" = some (some (.builtin "object.__class__"))
 gt:PySem.W.specialIn K (.builtin "object.__class__") "__get__" = some (some (.builtin "getset_descriptor.__get__"))
 tk:PySem.W.takesIn K (.builtin "object.__class__")=some true
 ob:PySem.W.mroIn K C (.type "object")=some true
 bx:PySem.W.subIn K (.ref C) (.type "BaseException")=some true
theorem wK {K:PySem.W.Frag} {C:Addr} (e:PySem.W.isClsIn K C=true):∃ c d cd sl,K.lookup C=some ⟨c,d,.cls cd,sl⟩:=by
 unfold PySem.W.isClsIn PySem.W.clsIn at e
 split at e
 next ho=>exact ⟨_,_,_,_,ho⟩
 next=>cases e
theorem kX {K:PySem.W.Frag} {M:Model} {h:Heap} {C:Addr} (X:K.In h) (e:PySem.W.isClsIn K C=true):PySem.W.Looks M h (isType (.ref C)) true:=by
 obtain ⟨c,d,cd,sl,ho⟩:=wK e
 intro A Q E s k q
 unfold isType loadHead
 have z:=k _ _ (X _ _ ho)
 exact wpAny_bind (wpAny_loadPart z (wpAny_pure q))
def pe (x C:Addr) (h:Heap):Prop:=∃ o vs,h.get? x=some o/\o.cls=.ref C/\o.data=.fields vs
theorem k7 {M:Model} {h:Heap} {x C:Addr} (p:pe x C h):PySem.W.Looks M h (typeOf (.ref x)) (.ref C):=by
 obtain ⟨o,vs,h1,h2,h3⟩:=p
 rw [<- h2]
 exact (PySem.W.Looks.ld h1).andThen .now
theorem zI {M:Model} {h:Heap} {K:PySem.W.Frag} {x C:Addr} (k:se K C) (X:K.In h):PySem.W.Looks M h (Builtin.ObjectAttr.find (.ref x) (.ref C) "__class__") (.bind (.builtin "getset_descriptor.__get__") (.builtin "object.__class__")):=by
 have L1:=PySem.W.looks_findIn (M:=M) X k.cl
 have L2:=PySem.W.looks_specialIn (M:=M) X k.gt
 have L3:=PySem.W.looks_takesIn (M:=M) X k.tk
 unfold Builtin.ObjectAttr.find
 refine L1.andThen ?_
 unfold Builtin.ObjectAttr.getOf
 refine L2.andThen ?_
 unfold Builtin.ObjectAttr.dataDescriptor?
 refine PySem.W.Looks.andThen (a:=some (.builtin "getset_descriptor.__get__",.builtin "object.__class__")) ?_ (PySem.W.Looks.tag .now)
 exact L3.andThen .now
theorem Bj {prog:Program} {w:World} {A:Around} {R:Result->Shared->Prop} {s:Shared} {K:PySem.W.Frag} {x C:Addr} (k:se K C) (X:K.In s.heap) (p:pe x C s.heap) (h:R (.ok (.ret (.ref C))) s) :
 codeAny (model prog w) A (.call (.builtin "getset_descriptor.__get__") ⟨[.builtin "object.__class__",.ref x,.ref C],[]⟩) R s:=by
 obtain ⟨hh,g,d,t,os⟩:=s
 have L0:=k7 (M:=model prog w) p
 have LM:=PySem.W.looks_mroIn (M:=model prog w) X k.ob
 refine codeAny_call_builtin PySem.W.KF.slot_gs.plain PySem.W.KF.entry_gs (PySem.W.KF.slot_gs.check _ _ _ _ _ _ _ _ PySem.W.KF.type_class (PySem.W.KF.args_gs _ _ _) ?_)
 unfold Builtin.«getset_descriptor.__get__» Builtin.Getset_descriptor.descrGet
 rw [PySem.W.dga_obj]
 refine wpAny_bind (wpAny_pure ?_)
 have LI:PySem.W.Looks (model prog w) hh (isInstance (.ref x) (.type "object")) true:=L0.andThen LM
 unfold Builtin.Getset_descriptor.descrGetter Builtin.Getset_descriptor.descrCheckInstance Builtin.Getset_descriptor.descrNameAndClass
 simp only [PySem.W.KF.owner_class]
 repeat (first | with_reducible refine LI.at ?_ | lk)
 refine ⟨Code.quiet_builtin _ (by decide +kernel),codeAny_builtin PySem.W.KF.entry_class ?_⟩
 unfold Builtin.«object.__class__»
 unfold shownTypeOf
 repeat lk
 exact h
theorem xD {prog:Program} {w:World} {A:Around} {E:Value->Shared->Prop} {Q:Option Value->Shared->Prop} {s:Shared} {K:PySem.W.Frag} {x C:Addr} (k:se K C) (X:K.In s.heap) (p:pe x C s.heap) (h:Q (some (.ref C)) { s with toks:=s.toks+1 }) :
 wpAny (model prog w) A (getAttr? (.ref x) "__class__") Q E s:=by
 obtain ⟨hh,g,d,t,os⟩:=s
 have L0:=k7 (M:=model prog w) p
 have L1:=PySem.W.looks_findIn (M:=model prog w) X k.ga
 have L2:=PySem.W.looks_findIn (M:=model prog w) X k.nh
 have LF:=zI (M:=model prog w) (x:=x) k X
 have LB:=PySem.W.looks_subIn (M:=model prog w) X k.bx
 have LM:=PySem.W.looks_mroIn (M:=model prog w) X k.ob
 unfold getAttr? getAttrBy? getAttrBy
 refine wpAny_bind (wpAny_mkText (wpAny_bind (wpAny_attempt (wpAny_holding (wpAny_bind (L0.at (wpAny_bind (L1.at ?_))))))))
 show wpAny _ _ (getAttrByItsOwn _ _ _ _ _ _) _ _ _
 unfold getAttrByItsOwn hookBefore
 refine wpAny_bind (L2.at ?_)
 refine wpAny_bind (wpAny_attempt (wpAny_holding ?_))
 show wpAny _ _ (boundAndCalled _ _ _) _ _ _
 unfold boundAndCalled
 have hbs:=F.excAttr_ValueError.ga.bind (.ref x)
 rw [hbs]
 refine wpAny_bind (wpAny_pure ?_)
 dsimp only
 refine wpAny_call (codeAny_call_builtin F.excAttr_ValueError.ga.plain F.entry_bexc_ga ?_)
 have kd:builtinKind "BaseException.__getattribute__" = some .slot:=by decide +kernel
 have sp:splitId "BaseException.__getattribute__" = some ("BaseException","__getattribute__"):=by decide +kernel
 have ag:=F.args_bexc_ga (.ref x) (.str "__class__" t)
 have LI:PySem.W.Looks (model prog w) hh (isInstance (.ref x) (.type "BaseException")) true:=L0.andThen LB
 simp only [checkBuiltinCall,kd,sp,List.cons_append,List.nil_append]
 refine wpAny_bind (LI.at ?_)
 simp only [Bool.not_true,Bool.false_eq_true,if_false]
 repeat wp_step
 obtain ⟨o,vs,h1,h2,h3⟩:=p
 refine wpAny_loadPart_at h1 ?_
 refine wpAny_pure ?_
 rw [h2]
 refine wpAny_bind (LF.at ?_)
 dsimp only
 unfold Builtin.ObjectAttr.bindTo
 refine wpAny_bind (wpAny_holding (wpAny_call (Bj k X ⟨o,vs,h1,h2,h3⟩ ?_)))
 refine wpAny_pure ?_
 exact PySem.W.handed_on rfl (wpAny_pure h)
theorem oy {K:PySem.W.Frag} {x C:Addr} (k:se K C):PySem.W.KitX K (.ref x) (.ref C) (pe x C) where
 ty:=fun M h _ p=>k7 p
 it:=fun M h X _=>kX X k.cls
 ne:=fun h tp dd its n sl X htp=>by
  obtain ⟨c,d,cd,sl',ho⟩:=wK k.cls
  refine Bool.eq_false_iff.mpr fun q=>?_
  obtain rfl:C=tp:=Value.ref.inj (beq_iff_eq.mp q)
  have z:=X _ _ ho
  rw [htp] at z
  cases z
 ca:=fun X p h=>xD k X p h
def oS:List D->Option (List Addr)
 | []=>some []
 | .cls C :: r=>(oS r).bind fun Cs=>some (C :: Cs)
 | _=>none
def wk (K:PySem.W.Frag) (ok:Addr->Bool):List D->Option D
 | [.exc C,.cls C']=>if ok C then (PySem.W.kitOne K (.ref C) (.ref C')).map D.bl else none
 | [.exc C,.ty n]=>if ok C then (PySem.W.kitOne K (.ref C) (.type n)).map D.bl else none
 | [.exc C,.tup ds]=>if ok C then (oS ds).bind fun Cs=>(PySem.W.kitAny K (.ref C) (Cs.map Value.ref)).map D.bl else none
 | _=>none
def BD (K:PySem.W.Frag):List V->Hp->VK->Prop:=fun xs H Q=>∃ x y C b,xs=[x,y]/\Rep K H x (.exc C)/\se K C /\
 ((∃ C',Rep K H y (.cls C')/\PySem.W.kitOne K (.ref C) (.ref C')=some b) \/ (∃ n,Rep K H y (.ty n)/\PySem.W.kitOne K (.ref C) (.type n)=some b) \/
   ∃ ds Cs,Rep K H y (.tup ds)/\oS ds=some Cs/\PySem.W.kitAny K (.ref C) (Cs.map Value.ref)=some b)/\Q (.bl b) H
theorem ul {K:PySem.W.Frag} {H:Hp}:∀ {ds:List D} {Cs:List Addr} {vs:List V} {us:List Value},oS ds=some Cs->Reps K H vs ds->Vals vs us->us=Cs.map Value.ref
 | [],_,_,_,e,r,v=>by cases e;cases r;cases v;rfl
 | .cls C :: ds,Cs,_,_,e,r,v=>by
  obtain ⟨Cs',e',e⟩:=Za.mp (show ((oS ds).bind _)=some Cs from e)
  cases e
  cases r with
  | cons r1 r2 =>
   cases r1
   cases v with
   | cons v1 v2 =>
    have z:=ul e' r2 v2
    subst z
    rw [show _=Value.ref C from v1]
    rfl
theorem gE {X:Cx}:iD X (.builtin "isinstance") (BD X.K):=by
 intro pins s σ H xs us Q I r h
 obtain ⟨x,y,C,b,rfl,rx,k,alt,q⟩:=h
 obtain ⟨u,w',rfl,ru,rw'⟩:=Bx r
 have fin:∀ tk,EP X pins σ Q (.bool b) { s with toks:=tk }:=fun tk=>⟨.bl b,H,I.tok _,rfl,q⟩
 cases rx with
 | @exc a _ hx =>
  cases (show u=Value.ref a from ru)
  have p:pe a C s.heap:=(I.hok a _ hx).1
  rcases alt with ⟨C',ry,e⟩ | ⟨n,ry,e⟩ | ⟨ds,Cs,ry,ec,e⟩
  . cases ry
    cases (show w'=Value.ref C' from rw')
    exact PySem.W.kia_one (oy k) I.kIn p e (fun z=>nomatch z) fin
  . cases ry
    cases (show w'=Value.type n from rw')
    exact PySem.W.kia_one (oy k) I.kIn p e (fun z=>nomatch z) fin
  . cases ry with
    | @tup tp vs _ hp rp =>
     cases (show w'=Value.ref tp from rw')
     obtain ⟨its,rv,⟨o,h1,h2,n,h3⟩,_⟩:=I.tuple hp
     have z:=ul ec rp rv
     subst z
     obtain ⟨oc,od,oda,osl⟩:=o
     dsimp only at h2 h3
     subst h2 h3
     exact PySem.W.kia_tup (oy k) I.kIn p h1 e (fun z=>nomatch z) fin
theorem jK {K:PySem.W.Frag} {ok:Addr->Bool} (hk:∀ C,ok C=true->se K C):jZ K (BD K) (wk K ok):=by
 intro xs H Q ds d r e k
 unfold wk at e
 split at e
 . rename_i C C'
   cases ho:ok C with
   | false=>rw [ho] at e;cases e
   | true =>
    rw [ho,if_pos rfl] at e
    obtain ⟨b,hb,e⟩:=Zb.mp e
    cases e
    obtain ⟨v,w,rfl,rv,rw'⟩:=pQ r
    exact ⟨v,w,C,b,rfl,rv,hk C ho,.inl ⟨C',rw',hb⟩,k _ H (Same.refl H) (.bl b)⟩
 . rename_i C n
   cases ho:ok C with
   | false=>rw [ho] at e;cases e
   | true =>
    rw [ho,if_pos rfl] at e
    obtain ⟨b,hb,e⟩:=Zb.mp e
    cases e
    obtain ⟨v,w,rfl,rv,rw'⟩:=pQ r
    exact ⟨v,w,C,b,rfl,rv,hk C ho,.inr (.inl ⟨n,rw',hb⟩),k _ H (Same.refl H) (.bl b)⟩
 . rename_i C ds
   cases ho:ok C with
   | false=>rw [ho] at e;cases e
   | true =>
    rw [ho,if_pos rfl] at e
    obtain ⟨Cs,hc,e⟩:=Za.mp e
    obtain ⟨b,hb,e⟩:=Zb.mp e
    cases e
    obtain ⟨v,w,rfl,rv,rw'⟩:=pQ r
    exact ⟨v,w,C,b,rfl,rv,hk C ho,.inr (.inr ⟨ds,Cs,rw',hc,hb⟩),k _ H (Same.refl H) (.bl b)⟩
 . cases e
theorem t9 {prog:Program} {w:World} {A:Around} {E:Value->Shared->Prop} {Q:Bool->Shared->Prop} {s:Shared} {K:PySem.W.Frag} {x C Cy:Addr} (X:K.In s.heap) (p:pe x C s.heap) (hc:PySem.W.isClsIn K Cy=true) (ht:PySem.W.typeIn K (.ref Cy)=some (.type "type"))
 (hb:PySem.W.subIn K (.ref Cy) (.type "BaseException")=some true) (hs:PySem.W.subIn K (.ref C) (.ref Cy)=some true) (h:Q true s):wpAny (model prog w) A (excMatches (.ref x) (.ref Cy)) Q E s:=by
 obtain ⟨hh,g,d,t,os⟩:=s
 have L0:=k7 (M:=model prog w) p
 have L1:=kX (M:=model prog w) X hc
 have L2:=PySem.W.looks_typeIn (M:=model prog w) X ht
 have L3:=PySem.W.looks_subIn (M:=model prog w) X hb
 have L4:=PySem.W.looks_subIn (M:=model prog w) X hs
 have f:=tc_notTuple
 have L5:PySem.W.Looks (model prog w) hh (isInstance (.ref Cy) (.type "tuple")) false:=L2.andThen (.of_pure f)
 have L6:PySem.W.Looks (model prog w) hh (isExcClass (.ref Cy)) true:=L1.andThen L3
 unfold excMatches
 refine wpAny_bind (L5.at ?_)
 dsimp only
 rw [if_neg Bool.false_ne_true]
 refine wpAny_bind (wpAny_pure ?_)
 refine wpAny_bind ?_
 simp only [List.forIn_cons,List.forIn_nil]
 refine wpAny_bind (wpAny_bind (L6.at ?_))
 simp only [Bool.not_true,Bool.false_eq_true,if_false]
 refine wpAny_pure ?_
 refine wpAny_pure ?_
 refine wpAny_bind (L0.at ?_)
 refine wpAny_bind (wpAny_bind (wpAny_bind (L4.at ?_)))
 simp only [if_true]
 refine wpAny_pure (wpAny_pure ?_)
 exact wpAny_pure h
theorem pY {P:Program} {w:World} {H:Hp} {h:Heap} {a:Addr} {o:HO} (x:ObjOk P w H h a o):∃ ob,h.get? a=some ob:=by
 cases o with
 | lst xs=>obtain ⟨_,_,_,_,e⟩:=x;exact ⟨_,e⟩
 | tup xs=>obtain ⟨_,_,_,ob,e,_⟩:=x;exact ⟨_,e⟩
 | dK kvs=>obtain ⟨_,_,_,_,o,_,_,e,_⟩:=x;exact ⟨_,e⟩
 | dT kvs=>obtain ⟨_,_,_,_,o,_,_,e,_⟩:=x;exact ⟨_,e⟩
 | set S n=>obtain ⟨o,_,_,_,e,_⟩:=x;exact ⟨_,e⟩
 | ins C dx fs=>obtain ⟨_,_,_,e,_⟩:=x;exact ⟨_,e⟩
 | own y=>obtain ⟨_,e⟩:=x;exact ⟨_,e⟩
 | xd fs=>obtain ⟨_,⟨_,_,_,e,_⟩,_⟩:=x;exact ⟨_,e⟩
 | rng lo hi=>obtain ⟨_,_,_,e⟩:=x;exact ⟨_,e⟩
 | frz ob u=>obtain ⟨e,_⟩:=x;exact ⟨_,e⟩
 | tbl ps=>exact ⟨_,(show h.get? a=some _ from x)⟩
 | met f y=>exact ⟨_,(show h.get? a=some _ from x)⟩
 | ext φ=>obtain ⟨_,⟨_,e⟩,_⟩:=x;exact ⟨_,e⟩
section
variable {X:Cx} {pins:List (Addr×Obj)} {σ:L2.St} {H H₀ H':Hp} {s s':Shared} {B:Heap} {x C t:Addr}
theorem wA (F:FlyB X.prog X.w H₀ H' s X.stack B s') (fl:Heap.FlyingW B X.stack x (.ref C) (.ref t) s'.heap):s.heap.get? x=none/\H' x=none:=by
 constructor
 . cases e:s.heap.get? x with
   | none=>rfl
   | some o =>
    by_cases hb:x∈frs X.stack
    . obtain ⟨_,o2,ho2,hd⟩:=fl.2.2.1.mem hb
      obtain ⟨oe,vs,h1,_,h3,_⟩:=fl.first
      rw [h1] at ho2
      cases ho2
      exact absurd h3 (hd vs)
    . obtain ⟨o',e'⟩:=F.thereB x o e hb
      rw [fl.2.1] at e'
      cases e'
 . cases e:H' x with
   | none=>rfl
   | some u =>
    obtain ⟨ob,z⟩:=pY (F.hok x u e)
    rw [fl.2.1] at z
    cases z
theorem xB (I:L2.Inv X pins σ H₀ s) (F:FlyB X.prog X.w H₀ H' s X.stack B s') (fl:Heap.FlyingW B X.stack x (.ref C) (.ref t) s'.heap):L2.Inv X pins σ (upd H' x (z7 x C)) s':=by
 obtain ⟨n1,n2⟩:=wA F fl
 obtain ⟨oe,vs,h1,h2,h3,_⟩:=fl.first
 have ne:∀ b u,H' b=some u->b ≠ x:=fun b u e z=>by rw [z,n2] at e;cases e
 refine I.call' (ch:=[]) F.os ⟨F.un.keep,F.un.slot,fun b o e n hb=>?_,F.un.there,fun b xs e=>?_,fun b o u e=>?_,fun b ps e=>?_⟩ (fun b u e=>?_) F.bare (fun b z=>absurd z (by simp))
 . have:b ≠ x:=fun z=>by rw [z,n1] at e;cases e
   rw [aD this]
   exact F.un.free b o e n hb
 . have z:=F.un.tups b xs e
   rw [aD (ne b _ z)]
   exact z
 . have z:=F.un.frzs b o u e
   rw [aD (ne b _ z)]
   exact z
 . obtain ⟨more,z⟩:=F.un.tbls b ps e
   exact ⟨more,by rw [aD (ne b _ z)];exact z⟩
 . by_cases hb:b=x
   . subst hb
     rw [bc] at e
     cases e
     refine ⟨⟨oe,vs,h1,h2,h3⟩,⟨oe,h1⟩,?_⟩
     rintro ha hb ⟨o,ws,e1,e2,e3⟩ kp
     exact ⟨o,ws,kp o e1,e2,e3⟩
   . rw [aD hb] at e
     refine (F.hok b u e).stay (fun c v _ q=>fl.1 c v q) (fun c q=>?_) (fun c xs q=>?_)
     . rw [aD (ne c _ q)];exact q
     . rw [aD (ne c _ q)];exact q
end
section
variable {X:Cx} {pins:List (Addr×Obj)} {σ:L2.St} {H:Hp} {s:Shared} {h':Heap}
theorem tS {i:Nat} {n:Str} {m:Str->Option Value} {v:Option Value} {tk:Nat} (I:L2.Inv X pins σ H s) (hN:X.N.Nodup) (hi:X.N[i]? = some n) (hm:∀ (j:Nat) (y:Str) (v:V),X.N[j]? = some y->σ[j]? = some (some v)->Vis X.env.scope y->∃ u,RelV v u/\EK X.env s.heap m y u)
 (hn':h'.Ns X.env.locals (fun y=>if y=n then v else m y)) (hs:Heap.SameBut X.env.locals s.heap h') (hns:s.heap.Ns X.env.locals m):L2.Inv X pins (σ.set i none) H { s with heap:=h',toks:=tk }:=by
 obtain ⟨oL,_,_,hoL,_⟩:=id hns
 have cne:=I.cne
 refine ⟨I.ok,I.os,I.bare,⟨fun b o e n hb hx=>?_,fun b o e n hb hx=>?_,I.base.free,fun b o e hx=>?_,I.base.tups,I.base.frzs,I.base.tbls⟩,⟨_,hn',fun j y v' e1 e2 e3=>?_⟩,fun y c e=>?_,I.free,I.freeC,fun p hp=>?_,fun b ob e=>?_,by simpa using I.len⟩
 . exact (hs.2 b (Nat.ne_of_lt (Nat.lt_of_lt_of_le (Heap.lt_size e) I.ok.above))).trans (I.base.keep b o e n hb hx)
 . obtain ⟨sl,e1⟩:=I.base.slot b o e n hb hx
   exact ⟨sl,(hs.2 b (Nat.ne_of_lt (Nat.lt_of_lt_of_le (Heap.lt_size e) I.ok.above))).trans e1⟩
 . obtain ⟨o',e1⟩:=I.base.there b o e hx
   exact ⟨o',(hs.2 b (Nat.ne_of_lt (Nat.lt_of_lt_of_le (Heap.lt_size e) I.ok.above))).trans e1⟩
 . have hj:i ≠ j:=fun z=>by
    subst z
    rw [List.getElem?_set] at e2
    rw [if_pos rfl] at e2
    split at e2 <;> cases e2
   rw [List.getElem?_set_ne hj] at e2
   obtain ⟨u',r',q⟩:=hm j y v' e1 e2 e3
   refine ⟨u',r',?_⟩
   rcases q with ⟨k,e⟩ | ⟨k,c,e,z⟩
   . refine .inl ⟨k,?_⟩
     have:y ≠ n:=fun e=>hj (oh hN (e ▸ hi) e1)
     simp [this,e]
   . exact .inr ⟨k,c,e,z.sameBut hs (cne y c e)⟩
 . obtain ⟨w',z⟩:=I.cell y c e
   exact ⟨w',z.sameBut hs (cne y c e)⟩
 . obtain ⟨e,n,ne,nf,d⟩:=I.pin p hp
   exact ⟨(hs.2 p.1 ne).trans e,n,ne,nf,d⟩
 . refine (I.hok b ob e).stay (fun c w' hc q=>(hs.2 c ?_).trans q) (fun _ q=>q) fun _ _ q=>q
   rintro rfl
   rcases hc with rfl | hc
   . rw [I.free] at e;cases e
   . rw [I.free] at hc;cases hc
end
abbrev Cx.within (X:Cx) (x:Addr):Cx:={ X with A:=X.A.mark (some (.ref x)),calm:=false,xe:=fun _ _=>False }
def sL (i:Nat) (sub:Addr->Bool) (sb sh:SD):SD:=fun δ=>(sb δ).bind fun r=>match r with
 | .ex C δ1=>if sub C then (sh (δ1.set i (some (.exc C)))).bind fun r2=>match r2 with
  | .nx δ2=>some (.nx (δ2.set i none))
  | .rt d=>some (.rt d)
  | _=>none
  else none
 | .mk _ _=>none
 | r=>some r
theorem Cx.Ok.marked {X:Cx} (ok:X.Ok) (x:Addr):(Cx.within X x).Ok :=
 ⟨ok.mod,ok.kind,ok.glob,ok.blt,ok.above,ok.inj,ok.has,ok.cab,fun z=>Bool.noConfusion z,ok.frames,ok.stk,ok.exf,ok.bs,ok.bsz,ok.noex,ok.exfs,ok.funs,ok.frf⟩
theorem kh {X:Cx} {pins:List (Addr×Obj)} {σ:L2.St} {H:Hp} {s:Shared} (I:L2.Inv X pins σ H s) (x:Addr):L2.Inv (Cx.within X x) pins σ H s:=⟨Cx.Ok.marked I.ok x,I.os,I.bare,I.base,I.loc,I.cell,I.free,I.freeC,I.pin,I.hok,I.len⟩
theorem l5 {X:Cx} {pins:List (Addr×Obj)} {σ:L2.St} {H:Hp} {s:Shared} {x:Addr} (ok:X.Ok) (I:L2.Inv (Cx.within X x) pins σ H s):L2.Inv X pins σ H s:=⟨ok,I.os,I.bare,I.base,I.loc,I.cell,I.free,I.freeC,I.pin,I.hok,I.len⟩
abbrev Cx.tried (X:Cx) (W:Value->Shared->Prop) (pn:List (Addr×Obj)):Cx:={ X with xe:=W,pn:=pn }
theorem xw {X:Cx} {pins:List (Addr×Obj)} {σ:L2.St} {H:Hp} {s:Shared} (I:L2.Inv X pins σ H s) (W:Value->Shared->Prop):L2.Inv (Cx.tried X W (X.pn++pins)) [] σ H s :=
 ⟨⟨I.ok.mod,I.ok.kind,I.ok.glob,I.ok.blt,I.ok.above,I.ok.inj,I.ok.has,I.ok.cab,I.ok.hd,I.ok.frames,I.ok.stk,I.ok.exf,I.ok.bs,I.ok.bsz,I.ok.noex,I.ok.exfs,I.ok.funs,I.ok.frf⟩,I.os,I.bare,I.base,I.loc,I.cell,I.free,I.freeC,fun p hp=>I.pin p (by simpa using hp),I.hok,I.len⟩
theorem gg {X:Cx} {pins pins':List (Addr×Obj)} {σ:L2.St} {H:Hp} {s:Shared} {W:Value->Shared->Prop} (I:L2.Inv (Cx.tried X W (X.pn++pins)) pins' σ H s):L2.Inv X pins σ H s :=
 ⟨⟨I.ok.mod,I.ok.kind,I.ok.glob,I.ok.blt,I.ok.above,I.ok.inj,I.ok.has,I.ok.cab,I.ok.hd,I.ok.frames,I.ok.stk,I.ok.exf,I.ok.bs,I.ok.bsz,I.ok.noex,I.ok.exfs,I.ok.funs,I.ok.frf⟩,I.os,I.bare,I.base,I.loc,I.cell,I.free,I.freeC,fun p hp=>I.pin p (List.mem_append_left _ hp),I.hok,I.len⟩
end Dl
namespace Dl
open PySem PySem.Spec PyProof.Rows L2
mutual
def imm:D->Bool
 | .tup ds=>cA ds
 | .lst _=>false
 | .seq _=>false
 | .ms _ _=>false
 | .mf _ _=>false
 | .md _ _=>false
 | _=>true
def cA:List D->Bool
 | []=>true
 | d :: ds=>imm d && cA ds
end
mutual
def own:D->Bool
 | .tup ds=>hX ds
 | .lst ds=>hX ds
 | .seq _=>false
 | .ms _ _=>false
 | .mf _ _=>false
 | _=>true
def hX:List D->Bool
 | []=>true
 | d :: ds=>own d && hX ds
end
mutual
def sh:D->D
 | .tup ds=>.tup (shs ds)
 | .lst ds=>.seq (shs ds)
 | .seq ds=>.seq (shs ds)
 | .ms ks ds=>.ms ks (shs ds)
 | .mf ks ds=>.mf ks (shs ds)
 | .md ks ds=>.ms ks (shs ds)
 | d=>d
def shs:List D->List D
 | []=>[]
 | d :: ds=>sh d :: shs ds
end
theorem eE:∀ (ds:List D),shs ds=ds.map sh
 | []=>rfl
 | d :: ds=>by rw [shs,eE ds];rfl
mutual
theorem B3:∀ {d:D},imm d=true->sh d=d
 | .non,_=>rfl
 | .bl _,_=>rfl
 | .int _,_=>rfl
 | .str _,_=>rfl
 | .ty _,_=>rfl
 | .dct,_=>rfl
 | .exc _,_=>rfl
 | .cls _,_=>rfl
 | .ms _ _,h=>by rw [imm] at h;cases h
 | .mf _ _,h=>by rw [imm] at h;cases h
 | .md _ _,h=>by rw [imm] at h;cases h
 | .tup ds,h=>by rw [sh,qN (by rw [imm] at h;exact h)]
 | .lst _,h=>by rw [imm] at h;cases h
 | .seq _,h=>by rw [imm] at h;cases h
theorem qN:∀ {ds:List D},cA ds=true->shs ds=ds
 | [],_=>rfl
 | d :: ds,h=>by
  rw [cA,Bool.and_eq_true] at h
  rw [shs,B3 h.1,qN h.2]
end
mutual
theorem BA:∀ (d:D),sh (sh d)=sh d
 | .non=>rfl
 | .bl _=>rfl
 | .int _=>rfl
 | .str _=>rfl
 | .ty _=>rfl
 | .dct=>rfl
 | .exc _=>rfl
 | .cls _=>rfl
 | .ms ks ds=>by rw [sh,sh,iG ds]
 | .mf ks ds=>by rw [sh,sh,iG ds]
 | .md ks ds=>by rw [sh,sh,iG ds]
 | .tup ds=>by rw [sh,sh,iG ds]
 | .lst ds=>by rw [sh,sh,iG ds]
 | .seq ds=>by rw [sh,sh,iG ds]
theorem iG:∀ (ds:List D),shs (shs ds)=shs ds
 | []=>rfl
 | d :: ds=>by rw [shs,shs,BA d,iG ds]
end
def mtb:HO->Bool
 | .lst _=>true
 | .dK _=>true
 | .frz _ (.dK _)=>true
 | _=>false
abbrev MO:={u:HO // mtb u=true}
def fO (H H':Hp):Prop:=∀ a u,H a=some u->mtb u=false->H' a=some u
theorem ci {H H':Hp} (s:Same H H'):fO H H':=fun a u e _=>s a u e
theorem iz {H:Hp} {a:Addr} {u:HO} {o:HO} (h:H a=some u) (m:mtb u=true):fO H (upd H a o):=fun b w e n=>by
 by_cases hb:b=a
 . subst hb;rw [h] at e;cases e;rw [m] at n;cases n
 . rw [aD hb];exact e
theorem jp {H:Hp} {a:Addr} {vs:List V} {o:HO} (h:H a=some (.lst vs)):fO H (upd H a o):=iz h rfl
theorem ku {K:PySem.W.Frag} {H H':Hp} {a:Addr} {xs:List V} (k:fO H H') (h:SqT K H a xs):SqT K H' a xs:=by
 rcases h with (h | ⟨o,h⟩) | h
 . exact .inl (.inl (k _ _ h rfl))
 . exact .inl (.inr ⟨o,k _ _ h rfl⟩)
 . exact .inr h
mutual
theorem je {K:PySem.W.Frag} {H H':Hp} (k:fO H H'):∀ {v:V} {d:D},Rep K H v d->imm d=true->Rep K H' v d
 | _,_,.non,_=>.non
 | _,_,.bl b,_=>.bl b
 | _,_,.int i,_=>.int i
 | _,_,.str x,_=>.str x
 | _,_,.ty n,_=>.ty n
 | _,_,.tup h r,i=>.tup (ku k h) (eS k r (by rw [imm] at i;exact i))
 | _,_,.lst h r,i=>by rw [imm] at i;cases i
 | _,_,.seq h r,i=>by rw [imm] at i;cases i
 | _,_,.dct h,_=>.dct (k _ _ h rfl)
 | _,_,.exc h,_=>.exc (k _ _ h rfl)
 | _,_,.cls C,_=>.cls C
 | _,_,.ms h l r,i=>by rw [imm] at i;cases i
 | _,_,.mf h l r,i=>by rw [imm] at i;cases i
 | _,_,.md h l r,i=>by rw [imm] at i;cases i
theorem eS {K:PySem.W.Frag} {H H':Hp} (k:fO H H'):∀ {vs:List V} {ds:List D},Reps K H vs ds->cA ds=true->Reps K H' vs ds
 | _,_,.nil,_=>.nil
 | _,_,.cons r t,i=>by
  rw [cA,Bool.and_eq_true] at i
  exact .cons (je k r i.1) (eS k t i.2)
end
mutual
theorem nS {K:PySem.W.Frag} {H:Hp}:∀ {v:V} {d:D},Rep K H v d->Rep K H v (sh d)
 | _,_,.non=>.non
 | _,_,.bl b=>.bl b
 | _,_,.int i=>.int i
 | _,_,.str x=>.str x
 | _,_,.ty n=>.ty n
 | _,_,.tup h r=>by rw [sh];exact .tup h (dS r)
 | _,_,.lst h r=>by rw [sh];exact .seq (SqL.of h) (dS r)
 | _,_,.seq h r=>by rw [sh];exact .seq h (dS r)
 | _,_,.dct h=>.dct h
 | _,_,.exc h=>.exc h
 | _,_,.cls C=>.cls C
 | _,_,.ms h l r=>by rw [sh];exact .ms h (by rw [eE,Zi];exact l) (dS r)
 | _,_,.mf h l r=>by rw [sh];exact .mf h (by rw [eE,Zi];exact l) (dS r)
 | _,_,.md h l r=>by rw [sh];exact .ms (.inl h) (by rw [eE,Zi];exact l) (dS r)
theorem dS {K:PySem.W.Frag} {H:Hp}:∀ {vs:List V} {ds:List D},Reps K H vs ds->Reps K H vs (shs ds)
 | _,_,.nil=>.nil
 | _,_,.cons r t=>by rw [shs];exact .cons (nS r) (dS t)
end
mutual
inductive RepO (K:PySem.W.Frag) (F H:Hp):V->D->List Addr->Prop
 | imm {v:V} {d:D} (i:imm d=true) (h:Rep K H v d):RepO K F H v d []
 | shr {v:V} {ds:List D} (h:Rep K F v (.seq ds)):RepO K F H v (.seq ds) []
 | shm {v:V} {ks:List Int} {ds:List D} (h:Rep K F v (.ms ks ds)):RepO K F H v (.ms ks ds) []
 | shf {v:V} {ks:List Int} {ds:List D} (h:Rep K F v (.mf ks ds)):RepO K F H v (.mf ks ds) []
 | tup {a:Addr} {vs:List V} {ds:List D} {A:List Addr} (h:SqT K H a vs) (r:RepOs K F H vs ds A):RepO K F H (.ref a) (.tup ds) A
 | lst {a:Addr} {vs:List V} {ds:List D} {A:List Addr} (h:H a=some (.lst vs)) (n:F a=none) (r:RepOs K F H vs ds A):RepO K F H (.ref a) (.lst ds) (a :: A)
 | md {a:Addr} {ks:List Int} {vs:List V} {ds:List D} (h:H a=some (.dK ((ks.map Sum.inl).zip vs))) (n:F a=none) (l:ks.length=ds.length) (i:cA ds=true) (r:Reps K H vs ds):RepO K F H (.ref a) (.md ks ds) [a]
inductive RepOs (K:PySem.W.Frag) (F H:Hp):List V->List D->List Addr->Prop
 | nil:RepOs K F H [] [] []
 | cons {v:V} {d:D} {vs:List V} {ds:List D} {A B C:List Addr} (r:RepO K F H v d A) (t:RepOs K F H vs ds B) (e:C=A++B):RepOs K F H (v :: vs) (d :: ds) C
end
section
variable {K:PySem.W.Frag} {F H F' H':Hp}
mutual
theorem RepO.rep (s:Same F H):∀ {v:V} {d:D} {A:List Addr},RepO K F H v d A->Rep K H v d
 | _,_,_,.imm _ h=>h
 | _,_,_,.shr h=>h.mono s
 | _,_,_,.shm h=>h.mono s
 | _,_,_,.shf h=>h.mono s
 | _,_,_,.tup h r=>.tup h (RepOs.reps s r)
 | _,_,_,.lst h _ r=>.lst h (RepOs.reps s r)
 | _,_,_,.md h _ l _ r=>.md h l r
theorem RepOs.reps (s:Same F H):∀ {vs:List V} {ds:List D} {A:List Addr},RepOs K F H vs ds A->Reps K H vs ds
 | _,_,_,.nil=>.nil
 | _,_,_,.cons r t _=>.cons (RepO.rep s r) (RepOs.reps s t)
end
mutual
theorem RepO.dom:∀ {v:V} {d:D} {A:List Addr},RepO K F H v d A->∀ a∈A,(∃ u:MO,H a=some u.1)/\F a=none
 | _,_,_,.imm _ _,_,m=>nomatch m
 | _,_,_,.shr _,_,m=>nomatch m
 | _,_,_,.shm _,_,m=>nomatch m
 | _,_,_,.shf _,_,m=>nomatch m
 | _,_,_,.tup _ r,a,m=>RepOs.dom r a m
 | _,_,_,.lst h n r,a,m=>by
  rcases Zq.mp m with e | e
  . subst e;exact ⟨⟨⟨_,rfl⟩,h⟩,n⟩
  . exact RepOs.dom r a e
 | _,_,_,.md h n _ _ _,a,m=>by
  rcases Zm.mp m with rfl
  exact ⟨⟨⟨_,rfl⟩,h⟩,n⟩
theorem RepOs.dom:∀ {vs:List V} {ds:List D} {A:List Addr},RepOs K F H vs ds A->∀ a∈A,(∃ u:MO,H a=some u.1)/\F a=none
 | _,_,_,.nil,_,m=>nomatch m
 | _,_,_,.cons r t e,a,m=>by
  subst e
  rcases Zp.mp m with z | z
  . exact RepO.dom r a z
  . exact RepOs.dom t a z
end
mutual
theorem RepO.frame (k:fO H H'):∀ {v:V} {d:D} {A:List Addr},RepO K F H v d A->(∀ a∈A,H' a=H a)->RepO K F H' v d A
 | _,_,_,.imm i h,_=>.imm i (je k h i)
 | _,_,_,.shr h,_=>.shr h
 | _,_,_,.shm h,_=>.shm h
 | _,_,_,.shf h,_=>.shf h
 | _,_,_,.tup h r,e=>.tup (ku k h) (RepOs.frame k r e)
 | _,_,_,.lst h n r,e=>.lst ((e _ Zk).trans h) n (RepOs.frame k r fun a m=>e a (Zl _ m))
 | _,_,_,.md h n l i r,e=>.md ((e _ Zk).trans h) n l i (eS k r i)
theorem RepOs.frame (k:fO H H'):∀ {vs:List V} {ds:List D} {A:List Addr},RepOs K F H vs ds A->(∀ a∈A,H' a=H a)->RepOs K F H' vs ds A
 | _,_,_,.nil,_=>.nil
 | _,_,_,.cons r t e,q=>by
  subst e
  exact .cons (RepO.frame k r fun a m=>q a (List.mem_append_left _ m)) (RepOs.frame k t fun a m=>q a (List.mem_append_right _ m)) rfl
end
mutual
theorem RepO.froz (s:Same F F'):∀ {v:V} {d:D} {A:List Addr},RepO K F H v d A->(∀ a∈A,F' a=none)->RepO K F' H v d A
 | _,_,_,.imm i h,_=>.imm i h
 | _,_,_,.shr h,_=>.shr (h.mono s)
 | _,_,_,.shm h,_=>.shm (h.mono s)
 | _,_,_,.shf h,_=>.shf (h.mono s)
 | _,_,_,.tup h r,e=>.tup h (RepOs.froz s r e)
 | _,_,_,.lst h n r,e=>.lst h (e _ Zk) (RepOs.froz s r fun a m=>e a (Zl _ m))
 | _,_,_,.md h n l i r,e=>.md h (e _ Zk) l i r
theorem RepOs.froz (s:Same F F'):∀ {vs:List V} {ds:List D} {A:List Addr},RepOs K F H vs ds A->(∀ a∈A,F' a=none)->RepOs K F' H vs ds A
 | _,_,_,.nil,_=>.nil
 | _,_,_,.cons r t e,q=>by
  subst e
  exact .cons (RepO.froz s r fun a m=>q a (List.mem_append_left _ m)) (RepOs.froz s t fun a m=>q a (List.mem_append_right _ m)) rfl
end
mutual
theorem RepO.thaw (s:Same F' F):∀ {v:V} {d:D} {A:List Addr},RepO K F H v d A->own d=true->RepO K F' H v d A
 | _,_,_,.imm i h,_=>.imm i h
 | _,_,_,.shr h,o=>by rw [own] at o;cases o
 | _,_,_,.shm h,o=>by rw [own] at o;cases o
 | _,_,_,.shf h,o=>by rw [own] at o;cases o
 | _,_,_,.tup h r,o=>.tup h (RepOs.thaw s r (by rw [own] at o;exact o))
 | _,_,_,.lst (a:=a) h n r,o=>.lst h (by
  cases q:F' a with
  | none=>rfl
  | some u=>rw [s a u q] at n;cases n) (RepOs.thaw s r (by rw [own] at o;exact o))
 | _,_,_,.md (a:=a) h n l i r,o=>.md h (by
  cases q:F' a with
  | none=>rfl
  | some u=>rw [s a u q] at n;cases n) l i r
theorem RepOs.thaw (s:Same F' F):∀ {vs:List V} {ds:List D} {A:List Addr},RepOs K F H vs ds A->hX ds=true->RepOs K F' H vs ds A
 | _,_,_,.nil,_=>.nil
 | _,_,_,.cons r t e,o=>by
  rw [hX,Bool.and_eq_true] at o
  exact .cons (RepO.thaw s r o.1) (RepOs.thaw s t o.2) e
end
mutual
theorem RepO.none_of:∀ {v:V} {d:D} {A:List Addr},RepO K F H v d A->imm d=true->A=[]
 | _,_,_,.imm _ _,_=>rfl
 | _,_,_,.shr _,_=>rfl
 | _,_,_,.shm _,_=>rfl
 | _,_,_,.shf _,_=>rfl
 | _,_,_,.tup _ r,i=>RepOs.none_of r (by rw [imm] at i;exact i)
 | _,_,_,.lst _ _ _,i=>by rw [imm] at i;cases i
 | _,_,_,.md _ _ _ _ _,i=>by rw [imm] at i;cases i
theorem RepOs.none_of:∀ {vs:List V} {ds:List D} {A:List Addr},RepOs K F H vs ds A->cA ds=true->A=[]
 | _,_,_,.nil,_=>rfl
 | _,_,_,.cons r t e,i=>by
  rw [cA,Bool.and_eq_true] at i
  rw [e,RepO.none_of r i.1,RepOs.none_of t i.2]
  rfl
end
theorem RepO.seq_nil {v:V} {ds:List D}:∀ {d:D} {A:List Addr},RepO K F H v d A->d=.seq ds->A=[]
 | _,_,.imm i _,e=>rfl
 | _,_,.shr _,_=>rfl
 | _,_,.shm _,_=>rfl
 | _,_,.shf _,_=>rfl
 | _,_,.tup _ _,e=>nomatch e
 | _,_,.lst _ _ _,e=>nomatch e
 | _,_,.md _ _ _ _ _,e=>nomatch e
noncomputable def frz (F H:Hp) (A:List Addr):Hp:=fun a=>match H a with
 | some u=>if mtb u=true then (if (F a).isSome=true \/ a∈A then some u else none) else some u
 | none=>none
theorem ww {A:List Addr} {a:Addr} {u:HO} (h:H a=some u) (m:a∈A):frz F H A a=some u:=by
 unfold frz;rw [h]
 show (if mtb u=true then (if (F a).isSome=true \/ a∈A then some u else none) else some u)=some u
 rw [if_pos (show (F a).isSome=true \/ a∈A from .inr m)]
 split <;> rfl
theorem t7 {A:List Addr}:fO H (frz F H A):=fun a u e n=>by
 unfold frz
 rw [e]
 exact if_neg (by rw [n];exact fun z=>nomatch z)
theorem t6 {A:List Addr} (s:Same F H):Same F (frz F H A):=fun a u e=>by
 have h:=s a u e
 unfold frz;rw [h]
 show (if mtb u=true then (if (F a).isSome=true \/ a∈A then some u else none) else some u)=some u
 rw [if_pos (show (F a).isSome=true \/ a∈A from .inl (by rw [e];rfl))]
 split <;> rfl
theorem zB {A:List Addr}:Same (frz F H A) H:=fun a u e=>by
 unfold frz at e
 split at e
 . rename_i w h
   rw [h]
   split at e
   . split at e
     . exact e
     . cases e
   . exact e
 . cases e
theorem rP {A:List Addr} {a:Addr} {u:MO} (h:H a=some u.1) (n:F a=none) (m:a ∉ A):frz F H A a=none:=by
 unfold frz;rw [h]
 show (if mtb u.1=true then (if (F a).isSome=true \/ a∈A then some u.1 else none) else some u.1)=none
 rw [if_pos u.2]
 refine if_neg fun z=>?_
 rcases z with z | z
 . rw [n] at z;cases z
 . exact m z
mutual
theorem RepO.freeze (s:Same F F') (k:fO H F'):∀ {v:V} {d:D} {A:List Addr},RepO K F H v d A->(∀ a u,a∈A->H a=some u->F' a=some u)->Rep K F' v (sh d)
 | _,_,_,.imm i h,_=>nS (je k h i)
 | _,_,_,.shr h,_=>nS (h.mono s)
 | _,_,_,.shm h,_=>nS (h.mono s)
 | _,_,_,.shf h,_=>nS (h.mono s)
 | _,_,_,.tup h r,e=>by rw [sh];exact .tup (ku k h) (RepOs.freeze s k r e)
 | _,_,_,.lst h _ r,e=>by rw [sh];exact .seq (SqL.of (e _ _ Zk h)) (RepOs.freeze s k r fun a vs m=>e a vs (Zl _ m))
 | _,_,_,.md h _ l i r,e=>by rw [sh];exact .ms (.inl (e _ _ Zk h)) (by rw [eE,Zi];exact l) (dS (eS k r i))
theorem RepOs.freeze (s:Same F F') (k:fO H F'):∀ {vs:List V} {ds:List D} {A:List Addr},RepOs K F H vs ds A->(∀ a u,a∈A->H a=some u->F' a=some u)->Reps K F' vs (shs ds)
 | _,_,_,.nil,_=>.nil
 | _,_,_,.cons r t e,q=>by
  subst e
  rw [shs]
  exact .cons (RepO.freeze s k r fun a vs m=>q a vs (List.mem_append_left _ m)) (RepOs.freeze s k t fun a vs m=>q a vs (List.mem_append_right _ m))
end
mutual
theorem RepO.of_sh (s:Same F H):∀ {v:V} {d:D},Rep K F v d->RepO K F H v (sh d) []
 | _,_,.non=>.imm rfl .non
 | _,_,.bl b=>.imm rfl (.bl b)
 | _,_,.int i=>.imm rfl (.int i)
 | _,_,.str x=>.imm rfl (.str x)
 | _,_,.ty n=>.imm rfl (.ty n)
 | _,_,.tup h r=>by rw [sh];exact .tup (nK s h) (RepOs.of_sh s r)
 | _,_,.lst h r=>by rw [sh];exact .shr (.seq (SqL.of h) (dS r))
 | _,_,.seq h r=>by rw [sh];exact .shr (.seq h (dS r))
 | _,_,.dct h=>.imm rfl (.dct (s _ _ h))
 | _,_,.exc h=>.imm rfl (.exc (s _ _ h))
 | _,_,.cls C=>.imm rfl (.cls C)
 | _,_,.ms h l r=>by rw [sh];exact .shm (.ms h (by rw [eE,Zi];exact l) (dS r))
 | _,_,.mf h l r=>by rw [sh];exact .shf (.mf h (by rw [eE,Zi];exact l) (dS r))
 | _,_,.md h l r=>by rw [sh];exact .shm (.ms (.inl h) (by rw [eE,Zi];exact l) (dS r))
theorem RepOs.of_sh (s:Same F H):∀ {vs:List V} {ds:List D},Reps K F vs ds->RepOs K F H vs (shs ds) []
 | _,_,.nil=>.nil
 | _,_,.cons r t=>by rw [shs];exact .cons (RepO.of_sh s r) (RepOs.of_sh s t) rfl
end
theorem RepOs.length:∀ {vs:List V} {ds:List D} {A:List Addr},RepOs K F H vs ds A->vs.length=ds.length
 | _,_,_,.nil=>rfl
 | _,_,_,.cons _ t _=>congrArg (· + 1) (RepOs.length t)
theorem RepOs.snoc:∀ {vs:List V} {ds:List D} {A B:List Addr} {v:V} {d:D},RepOs K F H vs ds A->RepO K F H v d B->RepOs K F H (vs++[v]) (ds++[d]) (A++B)
 | _,_,_,_,_,_,.nil,r=>.cons r .nil (by simp)
 | _,_,_,_,_,_,.cons q t e,r=>.cons q (RepOs.snoc t r) (by rw [e,List.append_assoc])
theorem RepOs.pick:∀ {vs:List V} {ds:List D} {A:List Addr} {i:Nat} {d:D},RepOs K F H vs ds A->ds[i]? = some d->∃ v A1 B A2,vs[i]? = some v/\RepO K F H v d B/\A=A1++(B++A2) /\
 ∀ {H':Hp} {v':V} {d':D} {B':List Addr},fO H H'->(∀ a,a∈A1 \/ a∈A2->H' a=H a)->RepO K F H' v' d' B'->RepOs K F H' (vs.set i v') (ds.set i d') (A1++(B'++A2))
 | _,_,_,_,_,.nil,e=>by simp at e
 | _,_,_,0,_,.cons (A:=A) (B:=B) r t e,q=>by
  simp at q
  subst q
  refine ⟨_,[],A,B,rfl,r,by simpa using e,fun k h r'=>?_⟩
  exact .cons r' (t.frame k fun a m=>h a (.inr m)) (by simp)
 | _,_,_,i+1,d,.cons (A:=A0) (B:=B0) r t e,q=>by
  obtain ⟨v,A1,B,A2,h1,h2,h3,h4⟩:=RepOs.pick (i:=i) (d:=d) t (by simpa using q)
  refine ⟨v,A0++A1,B,A2,by simpa using h1,h2,by rw [e,h3,List.append_assoc],fun k h r'=>?_⟩
  refine .cons (r.frame k fun a m=>h a (.inl (List.mem_append_left _ m))) (h4 k (fun a m=>h a ?_) r') (by rw [List.append_assoc])
  rcases m with m | m
  . exact .inl (List.mem_append_right _ m)
  . exact .inr m
end
end Dl
namespace Dl
open PySem PySem.Spec PyProof.Rows L2
structure RepA (K:PySem.W.Frag) (F H:Hp) (σ:L2.St) (δ:DS) (As:Nat->List Addr):Prop where
 fz:Same F H
 len:σ.length=δ.length
 val:∀ (i:Nat) (d:D),δ[i]? = some (some d)->∃ v,σ[i]? = some (some v)/\RepO K F H v d (As i)
 non:∀ (i:Nat),(∀ d,δ[i]? ≠ some (some d))->As i=[]
 nd:∀ i,(As i).Nodup
 dj:∀ i j a,i ≠ j->a∈As i->a ∉ As j
def gl (K:PySem.W.Frag) (F H:Hp) (σ:L2.St) (δ:DS):Prop:=∃ As,RepA K F H σ δ As
section
variable {K:PySem.W.Frag} {F H F' H':Hp} {σ:L2.St} {δ:DS} {As:Nat->List Addr}
theorem RepA.toS (R:RepA K F H σ δ As):RepS K H σ δ:=⟨R.len,fun i d q=>let ⟨v,h1,h2⟩:=R.val i d q;⟨v,h1,h2.rep R.fz⟩⟩
theorem RepA.dom (R:RepA K F H σ δ As) {i:Nat} {a:Addr} (m:a∈As i):(∃ u:MO,H a=some u.1)/\F a=none:=by
 by_cases h:∃ d,δ[i]? = some (some d)
 . obtain ⟨d,h⟩:=h
   obtain ⟨v,_,h2⟩:=R.val i d h
   exact h2.dom a m
 . rw [R.non i fun d z=>h ⟨d,z⟩] at m;cases m
theorem RepA.grow (R:RepA K F H σ δ As) (s:Same H H'):RepA K F H' σ δ As :=
 ⟨R.fz.trans s,R.len,fun i d q=>by
  obtain ⟨v,h1,h2⟩:=R.val i d q
  refine ⟨v,h1,h2.frame (ci s) fun a m=>?_⟩
  obtain ⟨⟨vs,e⟩,_⟩:=h2.dom a m
  rw [e];exact s a _ e,R.non,R.nd,R.dj⟩
theorem RepA.froz (R:RepA K F H σ δ As) (s:Same F F') (s':Same F' H) (n:∀ i a,a∈As i->F' a=none):RepA K F' H σ δ As :=
 ⟨s',R.len,fun i d q=>let ⟨v,h1,h2⟩:=R.val i d q;⟨v,h1,h2.froz s (n i)⟩,R.non,R.nd,R.dj⟩
def lc (As:Nat->List Addr) (i:Nat) (A:List Addr):Nat->List Addr:=fun j=>if j=i then A else As j
theorem aQ {i:Nat} {A:List Addr}:lc As i A i=A:=if_pos rfl
theorem aP {i j:Nat} {A:List Addr} (h:j ≠ i):lc As i A j=As j:=if_neg h
theorem RepA.set {v:V} {d:D} {A:List Addr} (R:RepA K F H σ δ As) (i:Nat) (hi:i < δ.length) (r:RepO K F H v d A) (nd:A.Nodup) (dj:∀ j a,j ≠ i->a∈As j->a ∉ A):RepA K F H (σ.set i (some v)) (δ.set i (some d)) (lc As i A):=by
 have hl:=R.len
 refine ⟨R.fz,by rw [List.length_set,List.length_set];exact hl,fun j e q=>?_,fun j h=>?_,fun j=>?_,fun j k a hjk m=>?_⟩
 . rw [List.getElem?_set] at q ⊢
   by_cases hj:i=j
   . subst hj
     rw [if_pos rfl,if_pos hi] at q
     rw [if_pos rfl,if_pos (by omega),aQ]
     have:d=e:=by simpa using q
     subst this
     exact ⟨v,rfl,r⟩
   . rw [if_neg hj] at q ⊢
     rw [aP (Ne.symm hj)]
     exact R.val j e q
 . by_cases hj:j=i
   . subst hj
     exact absurd (by rw [List.getElem?_set,if_pos rfl,if_pos hi]) (h d)
   . rw [aP hj]
     refine R.non j fun e z=>h e ?_
     rw [List.getElem?_set_ne (Ne.symm hj)]
     exact z
 . by_cases hj:j=i
   . subst hj;rw [aQ];exact nd
   . rw [aP hj];exact R.nd j
 . by_cases hj:j=i
   . subst hj
     rw [aQ] at m
     rw [aP (Ne.symm hjk)]
     exact fun z=>dj k a (Ne.symm hjk) z m
   . rw [aP hj] at m
     by_cases hk:k=i
     . subst hk;rw [aQ];exact dj j a hj m
     . rw [aP hk];exact R.dj j k a hjk m
theorem RepA.drop (R:RepA K F H σ δ As) (i:Nat):RepA K F H σ (δ.set i none) (lc As i []):=by
 refine ⟨R.fz,by rw [List.length_set];exact R.len,fun j e q=>?_,fun j h=>?_,fun j=>?_,fun j k a hjk m=>?_⟩
 . rw [List.getElem?_set] at q
   by_cases hj:i=j
   . subst hj;rw [if_pos rfl] at q;split at q <;> cases q
   . rw [if_neg hj] at q
     rw [aP (Ne.symm hj)]
     exact R.val j e q
 . by_cases hj:j=i
   . subst hj;rw [aQ]
   . rw [aP hj]
     refine R.non j fun e z=>h e ?_
     rw [List.getElem?_set_ne (Ne.symm hj)]
     exact z
 . by_cases hj:j=i
   . subst hj;rw [aQ];exact List.nodup_nil
   . rw [aP hj];exact R.nd j
 . by_cases hj:j=i
   . subst hj;rw [aQ] at m;cases m
   . rw [aP hj] at m
     by_cases hk:k=i
     . subst hk;rw [aQ];exact fun z=>nomatch z
     . rw [aP hk];exact R.dj j k a hjk m
theorem RepA.write {v:V} {d:D} {A:List Addr} {i:Nat} (R:RepA K F H σ δ As) (hi:i < δ.length) (hσ:σ[i]? = some (some v)) (k:fO H H') (fz:Same F H') (e:∀ j a,j ≠ i->a∈As j->H' a=H a) (r:RepO K F H' v d A) (nd:A.Nodup) (dj:∀ j a,j ≠ i->a∈As j->a ∉ A) :
 RepA K F H' σ (δ.set i (some d)) (lc As i A):=by
 refine ⟨fz,by rw [List.length_set];exact R.len,fun j e' q=>?_,fun j h=>?_,fun j=>?_,fun j k a hjk m=>?_⟩
 . rw [List.getElem?_set] at q
   by_cases hj:i=j
   . subst hj
     rw [if_pos rfl,if_pos hi] at q
     have:d=e':=by simpa using q
     subst this
     rw [aQ]
     exact ⟨v,hσ,r⟩
   . rw [if_neg hj] at q
     rw [aP (Ne.symm hj)]
     obtain ⟨w,h1,h2⟩:=R.val j e' q
     exact ⟨w,h1,h2.frame k (fun a m=>e j a (Ne.symm hj) m)⟩
 . by_cases hj:j=i
   . subst hj
     exact absurd (by rw [List.getElem?_set,if_pos rfl,if_pos hi]) (h d)
   . rw [aP hj]
     refine R.non j fun e z=>h e ?_
     rw [List.getElem?_set_ne (Ne.symm hj)]
     exact z
 . by_cases hj:j=i
   . subst hj;rw [aQ];exact nd
   . rw [aP hj];exact R.nd j
 . by_cases hj:j=i
   . subst hj
     rw [aQ] at m
     rw [aP (Ne.symm hjk)]
     exact fun z=>dj k a (Ne.symm hjk) z m
   . rw [aP hj] at m
     by_cases hk:k=i
     . subst hk;rw [aQ];exact dj j a hj m
     . rw [aP hk];exact R.dj j k a hjk m
end
abbrev FM:=DS->Option (D×DS)
abbrev FMA:=DS->Option (List D×DS)
structure Ev (F H:Hp) (As:Nat->List Addr) (F' H':Hp) (As':Nat->List Addr) (A:List Addr):Prop where
 fs:Same F F'
 hs:Same H H'
 nf:∀ a (u:MO),H a=some u.1->F a=none->(∀ i,a ∉ As i)->F' a=none
 fa:∀ i a,a∈As' i->(∃ j,a∈As j) \/ H a=none
 fA:∀ a,a∈A->(∃ j,a∈As j) \/ H a=none
 nd:A.Nodup
 dj:∀ i a,a∈As' i->a ∉ A
theorem Ev.pure {F H H':Hp} {As:Nat->List Addr} (s:Same H H'):Ev F H As F H' As [] :=
 ⟨Same.refl F,s,fun _ _ _ n _=>n,fun i _ m=>.inl ⟨i,m⟩,fun _ m=>(nomatch m),List.nodup_nil,fun _ _ _ z=>(nomatch z)⟩
theorem Ev.fresh {F H H':Hp} {As:Nat->List Addr} {A:List Addr} (s:Same H H') (h:∀ a∈A,H a=none) (nd:A.Nodup) (dom:∀ i a,a∈As i->∃ u:MO,H a=some u.1):Ev F H As F H' As A :=
 ⟨Same.refl F,s,fun _ _ _ n _=>n,fun i _ m=>.inl ⟨i,m⟩,fun a m=>.inr (h a m),nd,fun i a m z=>by
  obtain ⟨vs,e⟩:=dom i a m
  rw [h a z] at e;cases e⟩
theorem Ev.seq {F H F1 H1 F2 H2:Hp} {As As1 As2:Nat->List Addr} {A B:List Addr} (a:Ev F H As F1 H1 As1 A) (b:Ev F1 H1 As1 F2 H2 As2 B) (dA:∀ x∈A,∃ u:MO,H1 x=some u.1):Ev F H As F2 H2 As2 (A++B) where
 fs:=a.fs.trans b.fs
 hs:=a.hs.trans b.hs
 nf:=fun x vs e n h=>b.nf x vs (a.hs x _ e) (a.nf x vs e n h) fun i m=>by
  rcases a.fa i x m with ⟨j,z⟩ | z
  . exact h j z
  . rw [e] at z;cases z
 fa:=fun i x m=>by
  rcases b.fa i x m with ⟨j,z⟩ | z
  . exact a.fa j x z
  . refine .inr ?_
    cases q:H x with
    | none=>rfl
    | some u=>rw [a.hs x u q] at z;cases z
 fA:=fun x m=>by
  rcases Zp.mp m with z | z
  . exact a.fA x z
  . rcases b.fA x z with ⟨j,y⟩ | y
    . exact a.fa j x y
    . refine .inr ?_
      cases q:H x with
      | none=>rfl
      | some u=>rw [a.hs x u q] at y;cases y
 nd:=by
  refine List.nodup_append.mpr ⟨a.nd,b.nd,fun x hx y hy e=>?_⟩
  subst e
  rcases b.fA x hy with ⟨j,z⟩ | z
  . exact a.dj j x z hx
  . obtain ⟨vs,e⟩:=dA x hx
    rw [z] at e;cases e
 dj:=fun i x m z=>by
  rcases Zp.mp z with z | z
  . rcases b.fa i x m with ⟨j,y⟩ | y
    . exact a.dj j x y z
    . obtain ⟨vs,e⟩:=dA x z
      rw [y] at e;cases e
  . exact b.dj i x m z
theorem Ev.stays {K:PySem.W.Frag} {F1 H1 F2 H2:Hp} {As1 As2:Nat->List Addr} {A B:List Addr} {v:V} {d:D} (b:Ev F1 H1 As1 F2 H2 As2 B) (r:RepO K F1 H1 v d A) (dj:∀ i a,a∈As1 i->a ∉ A):RepO K F2 H2 v d A:=by
 have h1:RepO K F1 H2 v d A:=r.frame (ci b.hs) fun a m=>by
  obtain ⟨⟨vs,e⟩,_⟩:=r.dom a m
  rw [e];exact b.hs a _ e
 refine h1.froz b.fs fun a m=>?_
 obtain ⟨⟨vs,e⟩,n⟩:=r.dom a m
 exact b.nf a vs e n fun i z=>dj i a z m
def upV (K:PySem.W.Frag) (f:FM):TE:=fun σ H Q=>∃ F δ As d δ',RepA K F H σ δ As/\f δ=some (d,δ')/\∀ v F' H' A As',Ev F H As F' H' As' A->RepA K F' H' σ δ' As'->RepO K F' H' v d A->Q v H'
def EM (K:PySem.W.Frag) (n:Nat) (f:FMA):TA:=fun σ H Q=>∃ F δ As ds δ',RepA K F H σ δ As/\f δ=some (ds,δ')/\∀ vs F' H' A As',Ev F H As F' H' As' A->RepA K F' H' σ δ' As'->RepOs K F' H' vs ds A->vs.length=n->Q vs H'
def PV (X:Cx) (e:Expr) (f:FM):Prop:=PE X e (upV X.K f)
def PVA (X:Cx) (es:List Expr) (f:FMA):Prop:=PA X es (EM X.K es.length f)
def vI (f:FD):FM:=fun δ=>(f δ).bind fun d=>if imm d then some (d,δ) else none
def bE (i:Nat):FM:=fun δ=>match δ[i]? with
 | some (some (.seq ds))=>some (.seq ds,δ)
 | some (some d)=>if imm d then some (d,δ) else some (d,δ.set i none)
 | _=>none
def j2 (i:Nat):FM:=fun δ=>match δ[i]? with
 | some (some d)=>some (sh d,δ.set i (some (sh d)))
 | _=>none
def ig:FMA:=fun δ=>some ([],δ)
def cZ (f:FM) (g:FMA):FMA:=fun δ=>(f δ).bind fun p=>(g p.2).bind fun q=>some (p.1 :: q.1,q.2)
def pg (g:FMA):FM:=fun δ=>(g δ).bind fun p=>some (.lst p.1,p.2)
def kq (g:FMA):FM:=fun δ=>(g δ).bind fun p=>some (.tup p.1,p.2)
def dL (G:List D->Option D) (g:FA):FM:=fun δ=>(g δ).bind fun ds=>(G ds).bind fun d=>if own d then some (d,δ) else none
def cf (K:PySem.W.Frag) (n:Nat) (G:List D->Option D):Sp:=fun vs H Q _=>vs.length=n/\∃ ds d,Reps K H vs ds/\G ds=some d/\∀ v H' A,Same H H'->RepO K H H' v d A->A.Nodup->Q v H'
section
variable {X:Cx} {e:Expr} {es:List Expr} {f:FD} {fm:FM} {g:FMA} {ga:FA} {pos p:Pos}
theorem aU (h:PD X e f):PV X e (vI f):=imp h fun σ H Q ⟨F,δ,As,d,δ',R,q,k⟩=>by
 unfold vI at q
 obtain ⟨d0,ed,q⟩:=Za.mp q
 split at q
 . rename_i hi
   cases q
   exact ⟨δ,d,R.toS,ed,fun v H' s r=>k v F H' [] As (.pure s) (R.grow s) (.imm hi r)⟩
 . cases q
theorem cb (i:Nat) {x:Str} (hN:X.N[i]? = some x:=by rfl) (hv:Vis X.env.scope x:=by first | exact Or.inl rfl | exact Or.inr (Or.inl rfl) | exact Or.inr (Or.inr rfl)) (hd:(x == ("__debug__":Str))=false:=by decide)
 (hcd:(x == ("__classdict__":Str))=false:=by decide):PV X (.Name x pos) (bE i) :=
 imp (nV hN hv hd hcd) fun σ H Q ⟨F,δ,As,d,δ',R,q,k⟩=>by
  unfold bE at q
  split at q
  . rename_i ds h
    cases q
    obtain ⟨v,h1,h2⟩:=R.val i _ h
    rw [h2.seq_nil rfl] at h2
    exact ⟨v,h1,k v F H [] As (.pure (Same.refl H)) R h2⟩
  . rename_i d0 _ h
    obtain ⟨v,h1,h2⟩:=R.val i _ h
    split at q
    . rename_i hi
      cases q
      have z:=h2.none_of hi
      rw [z] at h2
      exact ⟨v,h1,k v F H [] As (.pure (Same.refl H)) R h2⟩
    . cases q
      refine ⟨v,h1,k v F H (As i) (lc As i []) ⟨Same.refl F,Same.refl H,fun _ _ _ n _=>n,fun j a m=>?_,fun a m=>.inl ⟨i,m⟩,R.nd i,fun j a m=>?_⟩ (R.drop i) h2⟩
      . by_cases hj:j=i
        . subst hj;rw [aQ] at m;cases m
        . rw [aP hj] at m;exact .inl ⟨j,m⟩
      . by_cases hj:j=i
        . subst hj;rw [aQ] at m;cases m
        . rw [aP hj] at m;exact R.dj j i a hj m
  . cases q
theorem sX (i:Nat) {x:Str} (hN:X.N[i]? = some x:=by rfl) (hv:Vis X.env.scope x:=by first | exact Or.inl rfl | exact Or.inr (Or.inl rfl) | exact Or.inr (Or.inr rfl)) (hd:(x == ("__debug__":Str))=false:=by decide)
 (hcd:(x == ("__classdict__":Str))=false:=by decide):PV X (.Name x pos) (j2 i) :=
 imp (nV hN hv hd hcd) fun σ H Q ⟨F,δ,As,d,δ',R,q,k⟩=>by
  unfold j2 at q
  split at q
  . rename_i d0 h
    cases q
    obtain ⟨v,h1,h2⟩:=R.val i _ h
    have hi:i < δ.length:=(List.getElem?_eq_some_iff.mp h).1
    have s1:=t6 (A:=As i) R.fz
    have s2:Same (frz F H (As i)) H:=zB
    have z:Rep X.K (frz F H (As i)) v (sh d0):=h2.freeze s1 t7 fun a vs m e=>ww e m
    have z2:RepO X.K (frz F H (As i)) H v (sh (sh d0)) []:=RepO.of_sh s2 z
    rw [BA d0] at z2
    have R1:=(R.drop i).froz s1 s2 (fun j a m=>by
     by_cases hj:j=i
     . subst hj;rw [aQ] at m;cases m
     . rw [aP hj] at m
       obtain ⟨⟨vs,e⟩,n⟩:=R.dom m
       exact rP e n (R.dj j i a hj m))
    have R2:=R1.set i (by rw [List.length_set];exact hi) z2 List.nodup_nil fun _ _ _ _ z=>nomatch z
    have hσ:σ.set i (some v)=σ:=by
     refine List.ext_getElem? fun j=>?_
     rw [List.getElem?_set]
     split
     . rename_i hj;subst hj
       rw [h1,if_pos (by rw [R.len];exact hi)]
     . rfl
    rw [hσ,List.set_set] at R2
    refine ⟨v,h1,k v _ H [] _ ⟨s1,Same.refl H,fun a vs e n h=>rP e n (h i),fun j a m=>?_,fun _ m=>(nomatch m),List.nodup_nil,fun _ _ _ z=>(nomatch z)⟩ R2 z2⟩
    by_cases hj:j=i
    . subst hj;rw [aQ] at m;cases m
    . rw [aP hj,aP hj] at m;exact .inl ⟨j,m⟩
  . cases q
theorem dF:PVA X [] ig:=A6 j9 fun σ H Q ⟨F,δ,As,ds,δ',R,q,k⟩=>by
 cases q
 exact k [] F H [] As (.pure (Same.refl H)) R .nil rfl
theorem cm (ha:PV X e fm) (hr:PVA X es g) (hs:starEach (e :: es) X.env=(false,eval e X.env) :: starEach es X.env:=by rfl):PVA X (e :: es) (cZ fm g):=A6 (fX ha hr hs) fun σ H Q ⟨F,δ,As,ds,δ',R,q,k⟩=>by
 unfold cZ at q
 obtain ⟨⟨d1,δ1⟩,e1,q⟩:=Za.mp q
 obtain ⟨⟨ds2,δ2⟩,e2,q⟩:=Za.mp q
 cases q
 refine ⟨F,δ,As,d1,δ1,R,e1,fun v F1 H1 A As1 ev1 R1 r1=>⟨F1,δ1,As1,ds2,δ2,R1,e2,fun vs F2 H2 B As2 ev2 R2 r2 l=>?_⟩⟩
 exact k (v :: vs) F2 H2 (A++B) As2 (ev1.seq ev2 fun x m=>(r1.dom x m).1) R2 (.cons (ev2.stays r1 ev1.dj) r2 rfl) (congrArg (· + 1) l)
theorem j6 {x1} (h:PVA X es g) (hz:es.length<=1000:=by decide):PV X (.Tuple es x1 pos) (kq g):=imp (yF h) fun σ H Q ⟨F,δ,As,d,δ',R,q,k⟩=>by
 unfold kq at q
 obtain ⟨⟨ds,δ1⟩,e1,q⟩:=Za.mp q
 cases q
 refine ⟨F,δ,As,ds,_,R,e1,fun vs F1 H1 A As1 ev R1 r1 l=>⟨eL (by rw [l];exact hz),fun p hp=>?_⟩⟩
 have s:=dM hp (.tup vs)
 have ev':Ev F H As F1 (upd H1 p (.tup vs)) As1 A:=⟨ev.fs,ev.hs.trans s,ev.nf,ev.fa,ev.fA,ev.nd,ev.dj⟩
 refine k _ F1 _ A As1 ev' (R1.grow s) (.tup (SqT.of bc) (r1.frame (ci s) fun a m=>?_))
 obtain ⟨⟨ws,e⟩,_⟩:=r1.dom a m
 rw [e];exact s a _ e
theorem j7 (h:PVA X es g) (hz:es.length<=1000:=by decide):PV X (.List es pos) (pg g):=imp (yG h) fun σ H Q ⟨F,δ,As,d,δ',R,q,k⟩=>by
 unfold pg at q
 obtain ⟨⟨ds,δ1⟩,e1,q⟩:=Za.mp q
 cases q
 refine ⟨F,δ,As,ds,_,R,e1,fun vs F1 H1 A As1 ev R1 r1 l=>⟨eL (by rw [l];exact hz),fun p hp=>?_⟩⟩
 have s:=dM hp (.lst vs)
 have np:∀ {u:Hp},Same u H1->u p=none:=fun {u} su=>by
  cases q:u p with
  | none=>rfl
  | some o=>rw [su p o q] at hp;cases hp
 have ev':Ev F H As F1 (upd H1 p (.lst vs)) As1 (p :: A):=⟨ev.fs,ev.hs.trans s,ev.nf,ev.fa,fun a m=>by
  rcases Zq.mp m with z | z
  . subst z;exact .inr (np ev.hs)
  . exact ev.fA a z,List.nodup_cons.mpr ⟨fun m=>(by
    obtain ⟨⟨ws,e⟩,_⟩:=r1.dom p m
    rw [hp] at e;cases e),ev.nd⟩,fun i a m z=>by
  rcases Zq.mp z with z | z
  . subst z
    obtain ⟨⟨ws,e⟩,_⟩:=R1.dom m
    rw [hp] at e;cases e
  . exact ev.dj i a m z⟩
 refine k _ F1 _ (p :: A) As1 ev' (R1.grow s) (.lst bc (np R1.fz) (r1.frame (ci s) fun a m=>?_))
 obtain ⟨⟨ws,e⟩,_⟩:=r1.dom a m
 rw [e];exact s a _ e
end
end Dl
namespace Dl
open PySem PySem.Spec PyProof.Rows L2
def RPM (X:Cx) (E:pd) (F:Hp):Res->Prop
 | .nx δ=>∀ σ' F' H',Same F F'->gl X.K F' H' σ' δ->E.nx σ' H'
 | .rt d=>∀ v F' H' A,Same F F'->Same F' H'->RepO X.K F' H' v d A->A.Nodup->E.rt v H'
 | .bk δ=>∀ σ' F' H',Same F F'->gl X.K F' H' σ' δ->E.bk σ' H'
 | .ct δ=>∀ σ' F' H',Same F F'->gl X.K F' H' σ' δ->E.ct σ' H'
 | .ex C δ=>∀ σ' F' H',Same F F'->gl X.K F' H' σ' δ->ve X C σ' H'
 | .mk C δ=>∀ σ' F' H',Same F F'->gl X.K F' H' σ' δ->zY X C σ' H'
theorem RPM.mono {X:Cx} {E:pd} {F F1:Hp} {r:Res} (s:Same F F1) (h:RPM X E F r):RPM X E F1 r:=by
 cases r with
 | nx δ=>exact fun σ' F' H' s2 R=>h σ' F' H' (s.trans s2) R
 | rt d=>exact fun v F' H' A s2=>h v F' H' A (s.trans s2)
 | bk δ=>exact fun σ' F' H' s2 R=>h σ' F' H' (s.trans s2) R
 | ct δ=>exact fun σ' F' H' s2 R=>h σ' F' H' (s.trans s2) R
 | ex C δ=>exact fun σ' F' H' s2 R=>h σ' F' H' (s.trans s2) R
 | mk C δ=>exact fun σ' F' H' s2 R=>h σ' F' H' (s.trans s2) R
def upM (X:Cx) (s:SD):TS:=fun E σ H=>∃ F δ r,gl X.K F H σ δ/\s δ=some r/\RPM X E F r
def PMD (X:Cx) (st:Stmt) (s:SD):Prop:=PS X st (upM X s)
def PMs (X:Cx) (sts:List Stmt) (s:SD):Prop:=PSs X sts (upM X s)
section
variable {K:PySem.W.Frag} {F H:Hp} {σ:L2.St} {δ:DS} {As:Nat->List Addr}
theorem RepA.setM {v:V} {d:D} {A:List Addr} (R:RepA K F H σ δ As) (i:Nat) (r:RepO K F H v d A) (nd:A.Nodup) (dj:∀ j a,a∈As j->a ∉ A):gl K F H (σ.set i (some v)) (δ.set i (some d)):=by
 by_cases hi:i < δ.length
 . exact ⟨_,R.set i hi r nd fun j a _ m=>dj j a m⟩
 . have hl:=R.len
   rw [List.set_eq_of_length_le (by omega),List.set_eq_of_length_le (by omega)]
   exact ⟨As,R⟩
end
section
variable {X:Cx} {st:Stmt} {rest:List Stmt} {s u:SD} {e:Expr} {f:FD} {fm:FM} {c:FT} {pos:Pos}
theorem cu:PMs X [] aW:=ql qY fun E σ H ⟨F,δ,r,R,e,k⟩=>by cases e;exact k σ F H (Same.refl F) R
theorem av (h1:PMD X st s) (h2:PMs X rest u):PMs X (st :: rest) (aC s u):=ql (nU h1 h2) fun E σ H ⟨F,δ,r,R,e,k⟩=>by
 unfold aC at e
 obtain ⟨r1,e1,e⟩:=Za.mp e
 refine ⟨F,δ,r1,R,e1,?_⟩
 cases r1 with
 | nx δ'=>exact fun σ' F' H' s1 R1=>⟨F',δ',r,R1,e,k.mono s1⟩
 | rt d=>cases e;exact k
 | bk d=>cases e;exact k
 | ct d=>cases e;exact k
 | ex C d=>cases e;exact k
 | mk C d=>cases e;exact k
theorem aG (h:PMD X st s):PMs X [st] s:=qX h
theorem yA:PMD X st yd:=gh sY fun E σ H ⟨F,δ,r,R,e,k⟩=>by cases e
theorem dH {cx:Expr} {a b:List Stmt} (hc:PTD X cx c) (ha:PMs X a s) (hb:PMs X b u):PMD X (.If cx a b pos) (sIf c s u):=gh (yu hc ha hb) fun E σ H ⟨F,δ,r,⟨As,R⟩,q,k⟩=>by
 unfold sIf at q
 obtain ⟨d,ed,q⟩:=Za.mp q
 refine ⟨δ,d,R.toS,ed,fun H' s1=>?_⟩
 cases d with
 | true=>rw [if_pos rfl];exact ⟨F,δ,r,⟨As,R.grow s1⟩,q,k⟩
 | false=>rw [if_neg Bool.false_ne_true];exact ⟨F,δ,r,⟨As,R.grow s1⟩,q,k⟩
def aB (i:Nat) (f:FM):SD:=fun δ=>(f δ).bind fun p=>some (.nx (p.2.set i (some p.1)))
def cD (f:FM):SD:=fun δ=>(f δ).bind fun p=>some (.rt p.1)
theorem bj (i:Nat) {x:Str} {pos':Pos} (hN:X.N.Nodup) (he:PV X e fm) (hi:X.N[i]? = some x:=by rfl) (hx:Loc X.env.scope x:=by first | exact Or.inl rfl | exact Or.inr rfl) (hs:swapsWith e (some (.Name x pos')) pos.line X.env=pure false:=by rfl) (hf:X.fn x=true \/ X.env.scope.names.lookup x=some .local:=by first | exact .inl rfl | exact .inr rfl | assumption) :
 PMD X (.Assign [.Name x pos'] e pos) (aB i fm):=gh (qZ hN hi hx he hs hf) fun E σ H ⟨F,δ,r,⟨As,R⟩,q,k⟩=>by
 unfold aB at q
 obtain ⟨⟨d,δ'⟩,ed,q⟩:=Za.mp q
 cases q
 exact ⟨F,δ,As,d,δ',R,ed,fun v F' H' A As' ev R' r'=>k (σ.set i (some v)) F' H' ev.fs (R'.setM i r' ev.nd ev.dj)⟩
theorem br (he:PV X e fm):PMD X (.Return (some e) pos) (cD fm):=gh (uH he) fun E σ H ⟨F,δ,r,⟨As,R⟩,q,k⟩=>by
 unfold cD at q
 obtain ⟨⟨d,δ'⟩,ed,q⟩:=Za.mp q
 cases q
 exact ⟨F,δ,As,d,δ',R,ed,fun v F' H' A As' ev R' r'=>k v F' H' A ev.fs R'.fz r' ev.nd⟩
end
def ItF (K:PySem.W.Frag) (J:It) (F:Hp) (ds:List D):Prop:=∀ i H2,Same F H2 ->
 (i < ds.length->J.go i H2/\∀ x H',J.yld i H2 x H'->H'=H2/\∃ d,ds[i]? = some d/\Rep K F x d)/\(ds.length<=i->J.stop i H2)
def EN (K:PySem.W.Frag) (src:FMA):TI:=fun σ H R=>∃ F δ As ds δ',RepA K F H σ δ As/\src δ=some (ds,δ')/\∀ J F' H1 As',Same F F'->RepA K F' H1 σ δ' As'->ItF K J F' ds->R J H1
def PIM (X:Cx) (tg iter:Expr) (src:FMA):Prop:=PI X tg iter (EN X.K src)
theorem zo {K:PySem.W.Frag} {F:Hp} {a:Addr} {vs:List V} {ds:List D} (hq:SqL K F a vs) (r:Reps K F vs ds):ItF K (Itl K a) F ds:=by
 intro i H2 s
 have hq2:=s.seq hq
 have hl:=r.length
 refine ⟨fun hi=>⟨⟨vs,vs[i],hq2,by simp [show i < vs.length by omega]⟩,fun x H' y=>?_⟩,fun hi=>⟨vs,hq2,by omega⟩⟩
 obtain ⟨e,y⟩:=y
 subst e
 obtain ⟨d,h1,h2⟩:=r.getV (y vs hq2)
 exact ⟨rfl,d,h1,h2⟩
def vk (f:FM):FMA:=fun δ=>(f δ).bind fun p=>match sh p.1 with
 | .seq ds=>some (ds,p.2)
 | _=>none
theorem yD {X:Cx} {tg l:Expr} {fm:FM} (hl:PV X l fm):PIM X tg l (vk fm):=uV (vN hl) fun σ H R ⟨F,δ,As,ds,δ',R0,e,k⟩=>by
 unfold vk at e
 obtain ⟨⟨d,δ1⟩,ed,e⟩:=Za.mp e
 dsimp only at e
 split at e
 . rename_i es hs
   cases e
   refine ⟨F,δ,As,d,_,R0,ed,fun v F1 H1 A As1 ev R1 r1=>?_⟩
   have s1:=t6 (A:=A) R1.fz
   have s2:Same (frz F1 H1 A) H1:=zB
   have z:Rep X.K (frz F1 H1 A) v (sh d):=r1.freeze s1 t7 fun a vs m e=>ww e m
   rw [hs] at z
   have R2:=R1.froz s1 s2 (fun j a m=>by
    obtain ⟨⟨vs,e⟩,n⟩:=R1.dom m
    exact rP e n (ev.dj j a m))
   cases z with
   | @seq p vs _ hp rp=>exact ⟨p,rfl,⟨vs,s2.seq hp⟩,k _ _ H1 As1 (ev.fs.trans s1) R2 (zo hp rp)⟩
 . cases e
theorem xv {K:PySem.W.Frag} {F:Hp} {lo:Int} {n:Nat}:ItF K (Itr lo n) F ((List.range n).map fun (i:Nat)=>D.int (lo+(i:Int)*1)):=by
 intro i H2 s
 refine ⟨fun hi=>?_,fun hi=>(show n<=i by simpa using hi)⟩
 have hi':i < n:=by simpa using hi
 refine ⟨hi',fun x H' y=>?_⟩
 obtain ⟨e,y⟩:=y
 subst e y
 refine ⟨rfl,.int (lo+(i:Int)*1),?_,by rw [Int.mul_one];exact .int _⟩
 rw [List.getElem?_map,List.getElem?_range hi']
 rfl
def cB (g:FA):FMA:=fun δ=>(g δ).bind fun ds=>(asR ds).bind fun rs=>if ds.length<=2 then some (rs,δ) else none
theorem ba {X:Cx} {tg a:Expr} {g:FA} {p pos:Pos} (hg:Gl X "range") (hm:X.mg "range" = none) (ha:PAD X [a] g) (hs:starEach [a] X.env=[(false,eval a X.env)]:=by rfl):PIM X tg (.Call (.Name "range" p) [a] [] pos) (cB g) :=
 uV (pV hg hm ha hs) fun σ H R ⟨F,δ,As,ds,δ',R0,e,k⟩=>by
 unfold cB at e
 obtain ⟨xs,exs,e⟩:=Za.mp e
 obtain ⟨rs,ers,e⟩:=Za.mp e
 split at e
 . cases e
   refine ⟨δ,xs,R0.toS,exs,fun vs H1 s1 r1 l=>?_⟩
   match xs,r1,ers with
   | [.int b],r1,e =>
    obtain ⟨v,rfl,rv⟩:=gK r1
    cases rv
    have e':(if -(2 ^ 62)<=b/\b < 2 ^ 62 then some (fF 0 b 1) else none)=some ds:=e
    by_cases hb:-(2 ^ 62)<=b/\b < 2 ^ 62
    . rw [if_pos hb] at e'
      have e2:fF 0 b 1=ds:=Option.some.inj e'
      refine ⟨b,rfl,hb.1,hb.2,k _ F H1 As (Same.refl F) (R0.grow s1) ?_⟩
      have h:=xv (K:=X.K) (F:=F) (lo:=0) (n:=b.toNat)
      have e3:((b - 0+1 - 1) / 1).toNat=b.toNat:=by congr 1;omega
      unfold fF at e2
      rw [e3] at e2
      rw [<- e2]
      exact h
    . rw [if_neg hb] at e';cases e'
   | [],r1,e=>cases r1;cases l
   | _ :: _ :: _,r1,e =>
    have:=r1.length
    rw [l] at this
    cases this
   | [.non],r1,e=>cases e
   | [.bl _],r1,e=>cases e
   | [.str _],r1,e=>cases e
   | [.tup _],r1,e=>cases e
   | [.lst _],r1,e=>cases e
   | [.seq _],r1,e=>cases e
   | [.ty _],r1,e=>cases e
   | [.dct],r1,e=>cases e
   | [.exc _],r1,e=>cases e
   | [.cls _],r1,e=>cases e
   | [.ms _ _],r1,e=>cases e
   | [.mf _ _],r1,e=>cases e
   | [.md _ _],r1,e=>cases e
 . cases e
def forM (i:Nat) (s:SD):List D->SD
 | []=>fun δ=>some (.nx δ)
 | d :: ds=>fun δ=>(s (δ.set i (some (sh d)))).bind fun r=>match r with
  | .nx δ'=>forM i s ds δ'
  | .ct δ'=>forM i s ds δ'
  | .bk δ'=>some (.nx δ')
  | .rt d=>some (.rt d)
  | .ex C δ'=>some (.ex C δ')
  | .mk C δ'=>some (.mk C δ')
def dE (src:FMA) (i:Nat) (s:SD):SD:=fun δ=>(src δ).bind fun p=>forM i s p.1 p.2
theorem dh {X:Cx} {iter:Expr} {body:List Stmt} {src:FMA} {s:SD} {x:Str} {px pos:Pos} (i:Nat) (hN:X.N.Nodup) (hp:PassesOwn (model X.prog X.w) X.A X.env X.xe) (hc:X.calm=true) (hi:PIM X (.Name x px) iter src) (hb:PMs X body s)
 (hx:X.N[i]? = some x:=by rfl) (hl:Loc X.env.scope x:=by first | exact Or.inl rfl | exact Or.inr rfl) (hf:X.fn x=true \/ X.env.scope.names.lookup x=some .local:=by first | exact .inl rfl | exact .inr rfl | assumption)
 (hs:∀ x,foldedSetIterable iter X.env x=pure x:=by intro _;rfl):PMD X (.For (.Name x px) iter body [] pos) (dE src i s):=gh (uI hp hc hi (jF hN hx hl hf) hb hs) fun E σ H ⟨F,δ,r,⟨As,R⟩,e,k⟩=>by
 unfold dE at e
 obtain ⟨⟨ds,δ1⟩,eds,e⟩:=Za.mp e
 refine ⟨F,δ,As,ds,δ1,R,eds,fun J F1 H1 As1 s1 R1 it=>?_⟩
 refine ⟨fun j m σ H=>m=ds.length - j/\j<=ds.length/\∃ F2 δ,Same F1 F2/\gl X.K F2 H σ δ/\forM i s (ds.drop j) δ=some r/\RPM X E F2 r,⟨ds.length,rfl,Nat.zero_le _,F1,δ1,Same.refl _,⟨As1,R1⟩,e,k.mono s1⟩,?_⟩
 rintro j m σ H2 ⟨rfl,hjl,F2,δ2,s2,⟨As2,R2⟩,e2,k2⟩
 by_cases hlt:j < ds.length
 . obtain ⟨go,yl⟩:=(it j H2 (s2.trans R2.fz)).1 hlt
   rw [List.drop_eq_getElem_cons hlt] at e2
   obtain ⟨r4,e4,e2⟩:=Za.mp (show ((s (δ2.set i (some (sh ds[j])))).bind _)=some r from e2)
   refine .inr ⟨go,fun σ' H'=>∃ F3 δ,Same F1 F3/\gl X.K F3 H' σ' δ/\forM i s (ds.drop (j+1)) δ=some r/\RPM X E F3 r,fun σ' H' z=>⟨ds.length - (j+1),by omega,rfl,hlt,z⟩,fun y H' yy=>?_⟩
   obtain ⟨eH,d,hd,rx⟩:=yl y H' yy
   subst eH
   have hd':d=ds[j]:=by
    rw [Zt hlt] at hd
    exact (Option.some.inj hd).symm
   subst hd'
   have R3:=R2.setM i (RepO.of_sh R2.fz (rx.mono s2)) List.nodup_nil fun _ _ _ z=>nomatch z
   refine ⟨F2,δ2.set i (some (sh ds[j])),r4,R3,e4,?_⟩
   cases r4 with
   | nx δ'=>exact fun σ' F' H'' s4 R4=>⟨F',δ',s2.trans s4,R4,e2,k2.mono s4⟩
   | ct δ'=>exact fun σ' F' H'' s4 R4=>⟨F',δ',s2.trans s4,R4,e2,k2.mono s4⟩
   | bk δ'=>cases e2;exact k2
   | rt d=>cases e2;exact k2
   | ex C δ'=>cases e2;exact k2
   | mk C δ'=>cases e2;exact k2
 . have e:j=ds.length:=by omega
   subst e
   rw [List.drop_length] at e2
   cases e2
   exact .inl ⟨(it _ H2 (s2.trans R2.fz)).2 (Nat.le_refl _),k2 σ F2 H2 (Same.refl _) ⟨As2,R2⟩⟩
def aK (n:Nat) (ds:List D):DS:=(shs ds).map some++List.replicate (n - ds.length) none
theorem iK {K:PySem.W.Frag} {H:Hp} {N:List Str} {vs:List V} {ds:List D} (r:Reps K H vs ds):gl K H H (L2.start N vs) (aK N.length ds):=by
 have l2:(shs ds).length=ds.length:=by rw [eE,Zi]
 refine ⟨fun _=>[],Same.refl H,by unfold L2.start aK;simp [r.length,l2],fun i d q=>?_,fun _ _=>rfl,fun _=>List.nodup_nil,fun _ _ _ _ m=>nomatch m⟩
 unfold aK at q
 unfold L2.start
 have hi:i < ds.length:=by
  by_cases hi:i < ds.length
  . exact hi
  . rw [List.getElem?_append_right (by simpa [l2] using hi),List.getElem?_replicate] at q
    split at q <;> cases q
 rw [List.getElem?_append_left (by simpa [l2] using hi),List.getElem?_map] at q
 obtain ⟨e,h1,h2⟩:=Zb.mp q
 cases h2
 rw [eE,List.getElem?_map] at h1
 obtain ⟨d0,h3,h4⟩:=Zb.mp h1
 subst h4
 obtain ⟨v,h5,h6⟩:=r.get h3
 have hv:i < vs.length:=by rw [r.length];exact hi
 exact ⟨v,by rw [List.getElem?_append_left (by simpa using hv),List.getElem?_map,h5];rfl,RepO.of_sh (Same.refl H) h6⟩
section
variable {P:Program} {w:World} {K:PySem.W.Frag} {mg:Str->Option Value} {base:Heap}
theorem cq {x qual:Str} {st:Stmt} {f:Addr} {fd:FuncData} {N ps:List Str} {k:Nat} {G:List D->Option D} (F:Fun K x qual st f fd) (S:aF N ps (ap st))
 (hbody:∀ (cdv:Value) (A:Around) (outer:List Env) (s:Shared) (H:Hp) (E:XK) (ds:List D) (d:D),Room k (A.deeper (envOfC qual (ap st) s.heap.objs.size f cdv))->G ds=some d->ds.length=ps.length ->
  ∃ t,PMs (gj CX0 P w K mg base N qual (ap st) f cdv A outer s H E).nox (bH st) t/\aI (t (aK N.length ds))=some d/\own d=true):FnOk P w K mg base CX0 (k+1) f fd ps (cf K ps.length G):=by
 refine F.ok S (fun vs H Q E h=>h.1) (fun cdv A outer s H vs Q E hr h=>?_)
 obtain ⟨hl,ds,d,r,e,q⟩:=h
 obtain ⟨t,ht,hq,ho⟩:=hbody cdv A outer s H E ds d hr e (r.length.symm.trans hl)
 refine ⟨_,ht,H,aK N.length ds,?_⟩
 cases z:t (aK N.length ds) with
 | none=>rw [z] at hq;cases hq
 | some res =>
  rw [z] at hq
  refine ⟨res,iK r,rfl,?_⟩
  cases res with
  | rt d'=>cases hq;exact fun v F' H' A s1 s2 r1 nd=>q v H' A (s1.trans s2) (r1.thaw s1 ho) nd
  | nx δ=>cases hq;exact fun σ' F' H' s1 ⟨As,R⟩=>q _ H' [] (s1.trans R.fz) (.imm rfl .non) List.nodup_nil
  | bk δ=>cases hq
  | ct δ=>cases hq
  | ex C δ=>cases hq
  | mk C δ=>cases hq
structure HasF (P:Program) (w:World) (K:PySem.W.Frag) (mg:Str->Option Value) (base:Heap) (k:Nat) (x:Str) (ps:List Str) (G:List D->Option D):Prop where
 ex:∃ f fd,FnOk P w K mg base CX0 k f fd ps (cf K ps.length G)/\mg x=some (.ref f)/\PySem.W.keepIn K (.ref f)=true/\Binds K fd ps []
theorem HasF.has {k:Nat} {x:Str} {ps:List Str} {G:List D->Option D} (h:HasF P w K mg base k x ps G):Has P w K mg base k x ps G:=by
 obtain ⟨f,fd,F,h1,h2,h3⟩:=h.ex
 refine ⟨f,fd,F.imp fun vs H Q E ⟨l,ds,d,r,e,q⟩=>⟨l,ds,d,r,e,fun v H' A s r1 _=>q v H' s (r1.rep s)⟩,h1,h2,h3⟩
theorem AX {x qual q:Str} {st:Stmt} {f:Addr} {fd:FuncData} {N:List Str} {k:Nat} (F:Fun K x qual st f fd) (S:aF N [q] (ap st))
 (hbody:∀ (cdv:Value) (A:Around) (outer:List Env) (s:Shared) (H:Hp) (E:XK) (ns:List Int),Room k (A.deeper (envOfC qual (ap st) s.heap.objs.size f cdv))->ns.length<=63 ->
  ∃ t,PMs (gj CX0 P w K mg base N qual (ap st) f cdv A outer s H E).nox (bH st) t/\aI (t (aK N.length [.seq (ns.map D.int)]))=some (.bl true)):FnOk P w K mg base CX0 (k+1) f fd [q] (spLaw K):=by
 refine F.ok S (fun vs H Q E h=>?_) (fun cdv A outer s H vs Q E hr h=>?_)
 . obtain ⟨a,ns,rfl,_⟩:=h
   rfl
 obtain ⟨a,ns,rfl,hS,hl,q⟩:=h
 obtain ⟨t,ht,hq⟩:=hbody cdv A outer s H E ns hr hl
 refine ⟨_,ht,H,aK N.length [.seq (ns.map D.int)],?_⟩
 cases z:t (aK N.length [.seq (ns.map D.int)]) with
 | none=>rw [z] at hq;cases hq
 | some res =>
  rw [z] at hq
  refine ⟨res,iK (.cons (.seq hS (Reps.ints ns)) .nil),rfl,?_⟩
  cases res with
  | rt d' =>
   cases hq
   intro v F' H' A s1 s2 r1 nd
   cases r1.rep s2
   exact q H'
  | nx δ=>cases hq
  | bk δ=>cases hq
  | ct δ=>cases hq
  | ex C δ=>cases hq
  | mk C δ=>cases hq
end
theorem dG {X:Cx} {e:Expr} {es:List Expr} {g:FA} {pos p:Pos} {k j:Nat} {x:Str} {ps:List Str} {G:List D->Option D} (F:HasF X.prog X.w X.K X.mg X.base k x ps G) (hr:Room j X.A) (ha:PAD X (e :: es) g) (hk:k<=j:=by decide) (hg:Gl X x:=by rfl)
 (hn:(e :: es).length=ps.length:=by rfl) (hdb:(x == ("__debug__":Str))=false:=by decide) (he:starEach (e :: es) X.env=(false,eval e X.env) :: starEach es X.env:=by rfl) (hpl:(backTo pos (starEach es X.env)).any (·.1)=false:=by rfl) :
 PV X (.Call (.Name x p) (e :: es) [] pos) (dL G g):=by
 obtain ⟨f,fd,F,hm,kp,hb⟩:=F.ex
 refine imp (m3 F (hr.mono hk) hg hm kp hb .nil vR ha hdb he hpl) fun σ H Q ⟨F0,δ,As,d,δ',R,q,k⟩=>?_
 unfold dL at q
 obtain ⟨ds,eds,q⟩:=Za.mp q
 obtain ⟨d0,ed,q⟩:=Za.mp q
 split at q
 . rename_i ho
   cases q
   refine ⟨δ,ds,R.toS,eds,fun vs H1 s1 r1 l=>?_⟩
   show cf X.K ps.length G (vs++[]) H1 Q E0
   rw [List.append_nil]
   refine ⟨l.trans hn,ds,d,r1,ed,fun v H' A s2 r2 nd=>?_⟩
   have nA:∀ a∈A,H a=none:=fun a m=>by
    cases z:H a with
    | none=>rfl
    | some u=>have:=(r2.dom a m).2;rw [s1 a u z] at this;cases this
   exact k v F0 H' A As (.fresh (s1.trans s2) nA nd fun i a m=>(R.dom m).1) (R.grow (s1.trans s2)) (r2.thaw (R.fz.trans s1) ho)
 . cases q
end Dl
namespace Dl
open PySem PySem.Spec PyProof.Rows L2
section
variable {K:PySem.W.Frag} {F H:Hp} {σ:L2.St} {δ:DS} {As:Nat->List Addr}
theorem RepO.lst_inv {ds:List D}:∀ {v:V} {d:D} {A:List Addr},RepO K F H v d A->d=.lst ds->∃ a vs A0,v=.ref a/\A=a :: A0/\H a=some (.lst vs)/\F a=none/\RepOs K F H vs ds A0
 | _,_,_,.imm i _,e=>by subst e;rw [Dl.imm] at i;cases i
 | _,_,_,.shr _,e=>nomatch e
 | _,_,_,.tup _ _,e=>nomatch e
 | _,_,_,.lst h n r,e=>by cases e;exact ⟨_,_,_,rfl,rfl,h,n,r⟩
theorem RepA.lst {i:Nat} {ds:List D} (R:RepA K F H σ δ As) (h:δ[i]? = some (some (.lst ds))):∃ a vs A0,σ[i]? = some (some (.ref a))/\As i=a :: A0/\H a=some (.lst vs)/\F a=none/\RepOs K F H vs ds A0:=by
 obtain ⟨v,h1,h2⟩:=R.val i _ h
 obtain ⟨a,vs,A0,rfl,e,h3,h4,h5⟩:=h2.lst_inv rfl
 exact ⟨a,vs,A0,h1,e,h3,h4,h5⟩
theorem kF {a:Addr} {o:HO} (s:Same F H) (n:F a=none):Same F (upd H a o):=fun b u e=>by
 have:b ≠ a:=fun z=>by rw [z,n] at e;cases e
 rw [aD this];exact s b u e
theorem RepA.wr {i:Nat} {a:Addr} {vs vs':List V} {ds ds':List D} {A0 A':List Addr} (R:RepA K F H σ δ As) (h:δ[i]? = some (some (.lst ds))) (hσ:σ[i]? = some (some (.ref a))) (hA:As i=a :: A0) (ha:H a=some (.lst vs)) (hF:F a=none)
 (r:RepOs K F H vs' ds' A') (na:a ∉ A') (nd:A'.Nodup) (dj:∀ j x,j ≠ i->x∈As j->x ∉ A'):gl K F (upd H a (.lst vs')) σ (δ.set i (some (.lst ds'))):=by
 have hi:i < δ.length:=(List.getElem?_eq_some_iff.mp h).1
 have nj:∀ j x,j ≠ i->x∈As j->x ≠ a:=fun j x hj m z=>R.dj j i x hj m (by rw [hA,z];exact Zk)
 refine ⟨_,R.write hi hσ (jp ha) (kF R.fz hF) (fun j x hj m=>aD (nj j x hj m)) (.lst bc hF (r.frame (jp ha) fun x m=>aD fun z=>na (z ▸ m))) (List.nodup_cons.mpr ⟨na,nd⟩) fun j x hj m z=>?_⟩
 rcases Zq.mp z with z | z
 . exact nj j x hj m z
 . exact dj j x hj m z
theorem RepA.row {i j:Nat} {ds row:List D} (R:RepA K F H σ δ As) (h:δ[i]? = some (some (.lst ds))) (hj:ds[j]? = some (.lst row)):∃ (a:Addr) (vs:List V) (b:Addr) (ws:List V) (B0 O:List Addr),σ[i]? = some (some (.ref a))/\H a=some (.lst vs)/\vs[j]? = some (.ref b)/\H b=some (.lst ws)/\RepOs K F H ws row B0/\(b :: B0).Nodup/\(∀ x,x∈b :: B0->x∈As i) /\
 (∀ x,x∈O->x∈As i)/\a∈O/\(∀ x,x∈b :: B0->x ∉ O) /\
 ∀ {ws':List V} {row':List D} {B':List Addr},RepOs K F H ws' row' B'->b ∉ B'->B'.Nodup->(∀ x,x∈B'->x ∉ O)->(∀ k x,k ≠ i->x∈As k->x ∉ B')->gl K F (upd H b (.lst ws')) σ (δ.set i (some (.lst (ds.set j (.lst row'))))):=by
 obtain ⟨a,vs,A0,s1,eA,g1,n1,ro⟩:=R.lst h
 obtain ⟨v0,A1,B,A3,hv,rB,e0,pk⟩:=ro.pick hj
 obtain ⟨b,ws,B0,rfl,eB,g2,n2,rr⟩:=rB.lst_inv rfl
 subst eB
 have nd0:=R.nd i
 rw [eA,e0] at nd0
 have nd1:=List.nodup_cons.mp nd0
 have nd2:=List.nodup_append.mp nd1.2
 have nd3:=List.nodup_append.mp nd2.2.1
 have inB:∀ x,x∈b :: B0->x∈As i:=fun x m=>by rw [eA,e0];exact Zl _ (List.mem_append_right _ (List.mem_append_left _ m))
 have inO:∀ x,x∈a :: (A1++A3)->x∈As i:=fun x m=>by
  rw [eA,e0]
  rcases Zq.mp m with z | z
  . rw [z];exact Zk
  . refine Zl _ ?_
    rcases Zp.mp z with z | z
    . exact List.mem_append_left _ z
    . exact List.mem_append_right _ (List.mem_append_right _ z)
 have sep:∀ x,x∈b :: B0->x ∉ a :: (A1++A3):=fun x m z=>by
  rcases Zq.mp z with z | z
  . rw [z] at m;exact nd1.1 (List.mem_append_right _ (List.mem_append_left _ m))
  . rcases Zp.mp z with z | z
    . exact nd2.2.2 x z x (List.mem_append_left _ m) rfl
    . exact nd3.2.2 x m x z rfl
 refine ⟨a,vs,b,ws,B0,a :: (A1++A3),s1,g1,hv,g2,rr,nd3.1,inB,inO,Zk,sep,fun {ws' row' B'} r' nb nd' sO sK=>?_⟩
 have hi:i < δ.length:=(List.getElem?_eq_some_iff.mp h).1
 have hab:a ≠ b:=fun z=>sep b Zk (by rw [z];exact Zk)
 have nO:∀ x,x∈a :: (A1++A3)->x ≠ b:=fun x m z=>sep b Zk (z ▸ m)
 have rowN:RepO K F (upd H b (.lst ws')) (.ref b) (.lst row') (b :: B'):=.lst bc n2 (r'.frame (jp g2) fun x m=>aD fun z=>nb (z ▸ m))
 have tree:=pk (jp (o:=.lst ws') g2) (fun x m=>aD (nO x (Zl _ (by
  rcases m with m | m
  . exact List.mem_append_left _ m
  . exact List.mem_append_right _ m)))) rowN
 have hset:vs.set j (.ref b)=vs:=by
  refine List.ext_getElem? fun k=>?_
  rw [List.getElem?_set]
  split
  . rename_i hk;subst hk
    rw [hv,if_pos (List.getElem?_eq_some_iff.mp hv).1]
  . rfl
 rw [hset] at tree
 have nj:∀ k x,k ≠ i->x∈As k->x ≠ b:=fun k x hk m z=>R.dj k i x hk m (z ▸ inB b Zk)
 refine ⟨_,R.write hi s1 (jp g2) (kF R.fz n2) (fun k x hk m=>aD (nj k x hk m)) (.lst (by rw [aD hab];exact g1) n1 tree) ?_ fun k x hk m z=>?_⟩
 . refine List.nodup_cons.mpr ⟨fun z=>?_,List.nodup_append.mpr ⟨nd2.1,List.nodup_append.mpr ⟨List.nodup_cons.mpr ⟨nb,nd'⟩,nd3.2.1,fun x hx y hy e=>?_⟩,fun x hx y hy e=>?_⟩⟩
   . rcases Zp.mp z with z | z
     . exact nd1.1 (List.mem_append_left _ z)
     . rcases Zp.mp z with z | z
       . rcases Zq.mp z with z | z
         . exact hab z
         . exact sO a z Zk
       . exact nd1.1 (List.mem_append_right _ (List.mem_append_right _ z))
   . subst e
     rcases Zq.mp hx with z | z
     . exact nO x (Zl _ (List.mem_append_right _ hy)) z
     . exact sO x z (Zl _ (List.mem_append_right _ hy))
   . subst e
     rcases Zp.mp hy with z | z
     . rcases Zq.mp z with z | z
       . exact nO x (Zl _ (List.mem_append_left _ hx)) z
       . exact sO x z (Zl _ (List.mem_append_left _ hx))
     . exact nd2.2.2 x hx x (List.mem_append_right _ z) rfl
 . rcases Zq.mp z with z | z
   . exact R.dj k i x hk m (inO x (by rw [z];exact Zk))
   . rcases Zp.mp z with z | z
     . exact R.dj k i x hk m (inO x (Zl _ (List.mem_append_left _ z)))
     . rcases Zp.mp z with z | z
       . rcases Zq.mp z with z | z
         . exact nj k x hk m z
         . exact sK k x hk m z
       . exact R.dj k i x hk m (inO x (Zl _ (List.mem_append_right _ z)))
end
def qT (i:Nat) (fm:FM):SD:=fun δ=>match δ[i]? with
 | some (some (.lst _))=>(fm δ).bind fun p=>match p.2[i]? with
  | some (some (.lst ds))=>if ds.length<=999 then some (.nx (p.2.set i (some (.lst (ds++[p.1]))))) else none
  | _=>none
 | _=>none
section
variable {X:Cx} {e ei:Expr} {fk:FD} {fm:FM} {pos p1 p2 p3 p4:Pos}
theorem uJ (i:Nat) {c:Expr} (hc:PE X c (tBM X.K "list" qV (pi i) (pC (upV X.K fm) BW))) (hs:swapsWith c none pos.line X.env=pure false:=by rfl):PMD X (.Expr c pos) (qT i fm):=gh (mX hc hs) fun E σ H ⟨F,δ,r,⟨As,R⟩,q,k⟩=>by
 unfold qT at q
 split at q
 . rename_i ds0 h0
   obtain ⟨⟨d,δ'⟩,ed,q⟩:=Za.mp q
   dsimp only at q
   split at q
   . rename_i ds h1
     split at q
     . rename_i hz
       cases q
       obtain ⟨a,vs0,A00,s0,_,g0,_,_⟩:=R.lst h0
       refine ⟨.ref a,s0,.inl ⟨rfl,_,SqL.of g0⟩,F,δ,As,d,δ',R,ed,fun v F' H' A As' ev R' r'=>?_⟩
       obtain ⟨a1,vs,A0,s1,eA,g1,n1,ro⟩:=R'.lst h1
       have ea:a1=a:=by rw [s0] at s1;cases s1;rfl
       subst ea
       refine ⟨a1,vs,v,rfl,rfl,g1,Nat.lt_of_le_of_lt (by rw [ro.length];exact hz) (jz (show 999<=1000 by decide)),?_⟩
       have nd0:=R'.nd i
       rw [eA] at nd0
       have nd1:=List.nodup_cons.mp nd0
       have ai:a1∈As' i:=by rw [eA];exact Zk
       refine k σ F' _ ev.fs (R'.wr h1 s1 eA g1 n1 (ro.snoc r') (fun z=>?_) (List.nodup_append.mpr ⟨nd1.2,ev.nd,fun x hx y hy e=>?_⟩) fun j x hj m z=>?_)
       . rcases Zp.mp z with z | z
         . exact nd1.1 z
         . exact ev.dj i a1 ai z
       . subst e
         exact ev.dj i x (by rw [eA];exact Zl _ hx) hy
       . rcases Zp.mp z with z | z
         . exact R'.dj j i x hj m (by rw [eA];exact Zl _ z)
         . exact ev.dj j x m z
     . cases q
   . cases q
 . cases q
def i5 (i:Nat) (fk:FD) (fm:FM):SD:=fun δ=>match δ[i]? with
 | some (some (.lst ds))=>(fk δ).bind fun kd=>match kd with
  | .int k=>(ixN ds.length k).bind fun j=>match ds[j]? with
   | some (.lst _)=>(fm δ).bind fun p=>match p.2[i]? with
    | some (some (.lst es))=>match es[j]? with
     | some (.lst row)=>if row.length<=999/\es.length=ds.length then some (.nx (p.2.set i (some (.lst (es.set j (.lst (row++[p.1]))))))) else none
     | _=>none
    | _=>none
   | _=>none
  | _=>none
 | _=>none
theorem vL (i:Nat) {c:Expr} (hc:PE X c (tBM X.K "list" qV (tOp (xc X.K) (pi i) (up X.K fk)) (pC (upV X.K fm) BW))) (hs:swapsWith c none pos.line X.env=pure false:=by rfl):PMD X (.Expr c pos) (i5 i fk fm):=gh (mX hc hs) fun E σ H ⟨F,δ,r,⟨As,R⟩,q,k⟩=>by
 unfold i5 at q
 split at q
 . rename_i ds h0
   obtain ⟨kd,ek,q⟩:=Za.mp q
   split at q
   . rename_i kk
     obtain ⟨j,hj,q⟩:=Za.mp q
     split at q
     . rename_i row0 hrow0
       obtain ⟨⟨d,δ'⟩,ed,q⟩:=Za.mp q
       dsimp only at q
       split at q
       . rename_i es h1
         split at q
         . rename_i row hrow
           split at q
           . rename_i hz
             cases q
             obtain ⟨a,vs,b,ws,B0,O,s0,g0,hv0,gb,rr0,_,_,_,_,_⟩:=R.row h0 hrow0
             have ro0:=(R.lst h0)
             obtain ⟨a',vs',A0',s0',_,g0',_,rl⟩:=ro0
             have ea:a'=a:=by rw [s0] at s0';cases s0';rfl
             subst ea
             have ev':vs'=vs:=by rw [g0] at g0';cases g0';rfl
             subst ev'
             refine ⟨.ref a',s0,δ,.int kk,R.toS,ek,fun iv H1 s1 ri=>?_⟩
             cases ri
             refine ⟨a',vs',kk,.ref b,rfl,rfl,SqL.of (s1 _ _ g0),?_,.inl ⟨rfl,ws,SqL.of (s1 _ _ gb)⟩,?_⟩
             . unfold L2.atI;rw [rl.length,hj];exact hv0
             refine ⟨F,δ,As,d,δ',R.grow s1,ed,fun v F' H' A As' ev R' r'=>?_⟩
             obtain ⟨a1,vs1,b1,ws1,B1,O1,t0,u0,hv1,ub,rr1,ndB,inB,inO,aO,sep,fin⟩:=R'.row h1 hrow
             have ea:a1=a':=by rw [s0] at t0;cases t0;rfl
             subst ea
             have es1:vs1=vs':=by
              have:=(ev.hs _ _ (s1 _ _ g0))
              rw [u0] at this;cases this;rfl
             subst es1
             have eb:b1=b:=by rw [hv0] at hv1;cases hv1;rfl
             subst eb
             have nB:=List.nodup_cons.mp ndB
             refine ⟨b1,ws1,v,rfl,rfl,ub,Nat.lt_of_le_of_lt (by rw [rr1.length];exact hz.1) (jz (show 999<=1000 by decide)),?_⟩
             refine k σ F' _ ev.fs (fin (rr1.snoc r') (fun z=>?_) (List.nodup_append.mpr ⟨nB.2,ev.nd,fun x hx y hy e=>?_⟩) (fun x m z=>?_) fun kx x hk m z=>?_)
             . rcases Zp.mp z with z | z
               . exact nB.1 z
               . exact ev.dj i b1 (inB b1 Zk) z
             . subst e;exact ev.dj i x (inB x (Zl _ hx)) hy
             . rcases Zp.mp m with m | m
               . exact sep x (Zl _ m) z
               . exact ev.dj i x (inO x z) m
             . rcases Zp.mp z with z | z
               . exact R'.dj kx i x hk m (inB x (Zl _ z))
               . exact ev.dj kx x m z
           . cases q
         . cases q
       . cases q
     . cases q
   . cases q
 . cases q
def fM (i:Nat) (fk fl:FD) (fm:FM):SD:=fun δ=>(fm δ).bind fun p=>if imm p.1 then match p.2[i]? with
 | some (some (.lst ds))=>(fk p.2).bind fun kd=>match kd with
  | .int k=>(ixN ds.length k).bind fun j=>match ds[j]? with
   | some (.lst row)=>(fl p.2).bind fun ld=>match ld with
    | .int l=>(ixN row.length l).bind fun m=>some (.nx (p.2.set i (some (.lst (ds.set j (.lst (row.set m p.1)))))))
    | _=>none
   | _=>none
  | _=>none
 | _=>none else none
theorem mY (i:Nat) {tg:Expr} {fl:FD} (he:PV X e fm) (hg:PG X tg (A9 (tOp (xc X.K) (pi i) (up X.K fk)) (up X.K fl) vF)) (hs:swapsWithSole [tg] e pos.line X.env=pure false:=by rfl) (hw:swappedStores [tg] e X.env=pure none:=by rfl)
 (h1:(assignEach [tg] X.env).map (·.2)=[assign tg X.env]:=by rfl):PMD X (.Assign [tg] e pos) (fM i fk fl fm):=gh (rc he hg hs hw h1) fun E σ H ⟨F,δ,r,⟨As,R⟩,q,k⟩=>by
 unfold fM at q
 obtain ⟨⟨d,δ'⟩,ed,q⟩:=Za.mp q
 dsimp only at q
 split at q
 . rename_i hi
   split at q
   . rename_i ds h1
     obtain ⟨kd,ek,q⟩:=Za.mp q
     split at q
     . rename_i kk
       obtain ⟨j,hj,q⟩:=Za.mp q
       split at q
       . rename_i row hrow
         obtain ⟨ld,el,q⟩:=Za.mp q
         split at q
         . rename_i ll
           obtain ⟨m,hm,q⟩:=Za.mp q
           cases q
           refine ⟨F,δ,As,d,δ',R,ed,fun v F' H' A As' ev R' r'=>?_⟩
           have eA:A=[]:=r'.none_of hi
           subst eA
           obtain ⟨a,vs,A0,s0,_,g0,_,rl⟩:=R'.lst h1
           refine ⟨.ref a,s0,δ',.int kk,R'.toS,ek,fun iv H1 s1 ri=>?_⟩
           cases ri
           have R1:=R'.grow s1
           obtain ⟨a1,vs1,b,ws,B0,O,t0,u0,hv1,ub,rr1,ndB,inB,inO,aO,sep,_⟩:=R1.row h1 hrow
           have ea:a1=a:=by rw [s0] at t0;cases t0;rfl
           subst ea
           have es1:vs1=vs:=by
            have:=s1 _ _ g0
            rw [u0] at this;cases this;rfl
           subst es1
           refine ⟨a1,vs1,kk,.ref b,rfl,rfl,SqL.of u0,by unfold L2.atI;rw [rl.length,hj];exact hv1,?_⟩
           refine ⟨δ',.int ll,R1.toS,el,fun iv2 H2 s2 ri2=>?_⟩
           cases ri2
           have R2:=R1.grow s2
           obtain ⟨a2,vs2,b2,ws2,B2,O2,t2,u2,hv2,ub2,rr2,ndB2,inB2,inO2,aO2,sep2,fin⟩:=R2.row h1 hrow
           have ea:a2=a1:=by rw [s0] at t2;cases t2;rfl
           subst ea
           have es2:vs2=vs1:=by
            have:=s2 _ _ u0
            rw [u2] at this;cases this;rfl
           subst es2
           have eb:b2=b:=by rw [hv1] at hv2;cases hv2;rfl
           subst eb
           refine ⟨b2,ws2,ll,m,rfl,rfl,ub2,by rw [rr2.length];exact hm,?_⟩
           have ml:m < row.length:=(m7 hm).2.1
           obtain ⟨v0,C1,C,C3,_,_,eC,pk⟩:=rr2.pick (i:=m) (d:=row[m]) (Zt ml)
           have rv:RepO X.K F' H2 v d []:=r'.frame (ci (s1.trans s2)) fun x mm=>nomatch mm
           have rn:=pk (H':=H2) (fun _ _ e _=>e) (fun _ _=>rfl) rv
           have nB:=List.nodup_cons.mp ndB2
           have nB2:=nB.2
           rw [eC] at nB2
           have n1:=List.nodup_append.mp nB2
           have n2:=List.nodup_append.mp n1.2.1
           have inC:∀ x,x∈C1++([]++C3)->x∈B2:=fun x mm=>by
            rw [eC]
            rcases Zp.mp mm with z | z
            . exact List.mem_append_left _ z
            . exact List.mem_append_right _ (List.mem_append_right _ (by simpa using z))
           refine k σ F' _ ev.fs (fin rn (fun z=>nB.1 (inC _ z)) (List.nodup_append.mpr ⟨n1.1,by simpa using n2.2.1,fun x hx y hy e=>?_⟩) (fun x mm=>sep2 x (Zl _ (inC x mm))) fun kx x hk mm z=>R2.dj kx i x hk mm (inB2 x (Zl _ (inC x z))))
           subst e
           exact n1.2.2 x hx x (List.mem_append_right _ (by simpa using hy)) rfl
         . cases q
       . cases q
     . cases q
   . cases q
 . cases q
end
end Dl
namespace Dl
open PySem PySem.Spec PyProof.Rows L2
def shO (δ:DS):DS:=δ.map (Option.map sh)
def ownOf (f:FM) (δ:DS):Option D:=(f δ).bind fun p=>if own p.1 then some p.1 else none
theorem RepS.toA {K:PySem.W.Frag} {H:Hp} {σ:L2.St} {δ:DS} (R:RepS K H σ δ):RepA K H H σ (shO δ) (fun _=>[]):=by
 refine ⟨Same.refl H,by unfold shO;rw [Zi];exact R.len,fun i d q=>?_,fun _ _=>rfl,fun _=>List.nodup_nil,fun _ _ _ _ m=>nomatch m⟩
 unfold shO at q
 rw [List.getElem?_map] at q
 obtain ⟨o,h1,h2⟩:=Zb.mp q
 cases o with
 | none=>cases h2
 | some d0 =>
  cases h2
  obtain ⟨v,h3,h4⟩:=R.val i d0 h1
  exact ⟨v,h3,RepO.of_sh (Same.refl H) h4⟩
theorem BI {K:PySem.W.Frag} {H₂ H4:Hp} {σ:L2.St} {δ:DS} {f:FM} {e:D} (h:ownOf f (shO δ)=some e) (R:RepS K H4 σ δ) (s:Same H₂ H4):upV K f σ H4 fun v H5=>Same H4 H5/\∃ A,RepO K H₂ H5 v e A/\A.Nodup/\∀ a∈A,H4 a=none:=by
 unfold ownOf at h
 obtain ⟨⟨d,δ'⟩,e1,h⟩:=Za.mp h
 split at h
 . rename_i ho
   cases h
   refine ⟨H4,shO δ,fun _=>[],d,δ',R.toA,e1,fun v F' H' A As' ev R' r'=>⟨ev.hs,A,(r'.thaw ev.fs ho).thaw s ho,ev.nd,fun a m=>?_⟩⟩
   rcases ev.fA a m with ⟨j,z⟩ | z
   . cases z
   . exact z
 . cases h
theorem cL {H H':Hp} {a:Addr} (s:Same H H') (h:H' a=none):H a=none:=by
 cases q:H a with
 | none=>rfl
 | some u=>rw [s a u q] at h;cases h
theorem wQ {K:PySem.W.Frag} {F H H':Hp} {vs:List V} {ds:List D} {Acc A:List Addr} {v:V} {e:D} (r:RepOs K F H vs ds Acc) (nd:Acc.Nodup) (s:Same H H') (r':RepO K F H' v e A) (nd':A.Nodup) (fr:∀ a∈A,H a=none):∃ Acc',RepOs K F H' (vs++[v]) (ds++[e]) Acc'/\Acc'.Nodup:=by
 refine ⟨Acc++A,(r.frame (ci s) fun a m=>?_).snoc r',List.nodup_append.mpr ⟨nd,nd',fun x hx y hy q=>?_⟩⟩
 . obtain ⟨⟨ws,e⟩,_⟩:=r.dom a m
   rw [e];exact s a _ e
 . subst q
   obtain ⟨⟨ws,e⟩,_⟩:=r.dom x hx
   rw [fr x hy] at e;cases e
section
variable {X:Cx} {pins:List (Addr×Obj)} {σ:L2.St} {H₂:Hp} {s₂:Shared} {scope:Scope} {cl:List (Str×Addr)} {x:Str} {N:List Str} {js:List Nat} {C:Addr} {fp:List Addr}
theorem l8 {elt iter:Expr} {px pos:Pos} {it:Addr} {tn:Nat->Heap->Prop} {J:It} {ds xs:List D} {δ:DS} {felt:FM} {RR:Value->Addr->Result->Shared->Prop} {E:Value->Shared->Prop} (I:L2.Inv X pins σ H₂ s₂) (hcm:X.calm=true) (O:CompOk X scope cl x N js)
 (T:ut X.prog X.w X.K (.Name x px) J fp it tn) (st:tn 0 s₂.heap) (hf:∀ b∈fp,jN X pins H₂ b) (itd:ItD X.K J H₂ ds) (R:RepS X.K H₂ σ δ) (he:∀ C s₂ H₂ fp pn,PV (cS X scope cl x N C s₂ H₂ fp pn) elt felt)
 (hm:lJ (fun d=>ownOf felt (shO (some d :: bv js δ))) ds=some xs) (hz:xs.length<=1000)
 (hRR:∀ (D C:Addr) (s':Shared) (Hend:Hp) (vs:List V),s₂.heap.objs.size<=C->L2.Inv X pins σ Hend s'->Same H₂ Hend->Hend D=some (.lst vs)->(∃ Acc,RepOs X.K H₂ Hend vs xs Acc/\Acc.Nodup/\D ∉ Acc/\H₂ D=none)->(∃ m,s'.heap.Ns C m)->Hend C=none->RR (.ref D) C (.ok .next) s') :
 wpAny (model X.prog X.w) X.A (newList []) (fun acc s₃=>wpAny (model X.prog X.w) X.A (newFunctionEnv scope X.env.globals cl [] X.env.qual none .none (some X.env)) (fun cenv s₄ =>
  codeAny (model X.prog X.w) X.A (.compStart (.ListComp elt [⟨.Name x px,iter,[],0⟩] scope pos) 0 (.ref it) acc { cenv with scope:=relabel scope X.env }) (RR acc cenv.locals) s₄) E s₃) E s₂:=by
 obtain ⟨ml,mg'⟩:=om hm
 have objs:=T.obj 0 s₂.heap st
 have objs':∀ b∈fp,∃ o,s₂.heap.get? b=some o:=fun b hb=>let ⟨o,h,_⟩:=objs b hb;⟨o,h⟩
 refine wpAny_newObj_type (wpAny_newFunctionEnv O.nocell (by intro y hy;simp at hy) (fun h₁ hns₁ hsb₁=>?_) O.kind)
 dsimp only at hns₁ hsb₁ ⊢
 generalize hP:s₂.heap.push { cls:=.type "list",dict:=none,data:=.seq ([]:List Value).toArray }=P2 at hns₁ hsb₁ ⊢
 have hC:P2.objs.size=s₂.heap.objs.size+1:=by rw [<- hP,Heap.size_push]
 generalize hCC:P2.objs.size=C at *
 have hCle:s₂.heap.objs.size<=C:=by omega
 have hDle:s₂.heap.objs.size<=s₂.heap.objs.size:=by omega
 have hDC:s₂.heap.objs.size ≠ C:=by omega
 have old:∀ b o,s₂.heap.get? b=some o->h₁.get? b=some o:=fun b o e=>by
  refine hsb₁.extBut b o (Nat.ne_of_lt (Nat.lt_of_lt_of_le (Heap.lt_size e) hCle)) (Heap.get?_push_of_some _ ?_)
  rw [<- hP]
  exact Heap.get?_push_of_some _ e
 have hacc:h₁.get? s₂.heap.objs.size=some { cls:=.type "list",data:=.seq ([]:List Value).toArray }:=by
  refine hsb₁.extBut s₂.heap.objs.size _ hDC (Heap.get?_push_of_some _ ?_)
  rw [<- hP]
  exact Heap.get?_push_size _ rfl
 have I0:=fun tk=>oQ (C:=C) (tk:=tk) I hcm O hCle hf objs' old hns₁ I.len
 have dstk:s₂.heap.objs.size ∉ frs X.stack:=jm I hDle
 have fne:∀ b∈fp,b ≠ s₂.heap.objs.size:=fun b hb e=>by
  obtain ⟨o,h⟩:=objs' b hb
  exact absurd (Heap.lt_size h) (by rw [e];exact Nat.lt_irrefl _)
 have cne:∀ y c,cl.lookup y=some c->c ≠ s₂.heap.objs.size:=fun y c e z=>by
  obtain ⟨v,o,h1,_⟩:=I.cell y c (O.cls y c e)
  exact absurd (Heap.lt_size h1) (by rw [z];exact Nat.lt_irrefl _)
 have pne:∀ p∈X.pn++pins,p.1 ≠ s₂.heap.objs.size:=fun p hp e=>by
  exact absurd (Heap.lt_size (I.pin p hp).1) (by rw [e];exact Nat.lt_irrefl _)
 have stat:∀ {H':Hp} {pl:List (Addr×Obj)},(∀ b∈fp,H' b=none)->(∀ p∈pl,∀ b∈fp,p.1 ≠ b)->∀ b∈fp,jN (cS X scope cl x N C s₂ H₂ fp (X.pn++pins)) pl H' b:=fun {H' pl} hn hpl b hb=>by
  obtain ⟨o,h⟩:=objs' b hb
  refine ⟨hn b hb,Nat.ne_of_lt (Nat.lt_of_lt_of_le (Heap.lt_size h) hCle),fun z=>?_,.inl hb,fun y c e=>(hf b hb).2.2.2.2.1 y c (O.cls y c e),fun p hp=>?_⟩
  . rcases Zq.mp (I.stkSub b z) with e | e
    . exact (hf b hb).2.1 e
    . exact (hf b hb).2.2.1 e
  . rcases Zp.mp hp with q | q
    . exact (hf b hb).2.2.2.2.2 p q
    . exact hpl p q b hb
 have loop:∀ s₃:Shared,s₃={ s₂ with heap:=h₁,toks:=s₂.toks+([]:List (Str×Value)).length } ->
  codeAny (model X.prog X.w) X.A (.compLoop (.ListComp elt [⟨.Name x px,iter,[],0⟩] scope pos) 0 (.ref it) (.ref s₂.heap.objs.size) (compEnvC scope cl C X.env)) (RR (.ref s₂.heap.objs.size) C) s₃:=by
  rintro s₃ rfl
  refine k9 (fun n s=>∃ (i:Nat) (σ':L2.St) (H':Hp) (vs:List V) (o:Option D),n=ds.length - i/\i<=ds.length/\L2.Inv (cS X scope cl x N C s₂ H₂ fp (X.pn++pins)) [] σ' H' s/\Same H₂ H'/\RepS X.K H' σ' (o :: bv js δ)/\tn i s.heap/\(∀ b∈fp,H' b=none) /\
   (∃ (its:List Value) (k:Nat),Vals vs its/\s.heap.get? s₂.heap.objs.size=some { cls:=.type "list",data:=.seq its.toArray k })/\H' s₂.heap.objs.size=none/\(∃ Acc,RepOs X.K H₂ H' vs (xs.take i) Acc/\Acc.Nodup)/\vs.length=i) ?_ ds.length
   ⟨0,_,H₂,[],none,rfl,Nat.zero_le _,I0 _,Same.refl _,ls R js,T.keep 0 _ _ st (fun b hb o e=>old b o e),fun b hb=>(hf b hb).1,⟨[],0,.nil,hacc⟩,I.hok.fresh hDle,⟨[],.nil,List.nodup_nil⟩,rfl⟩
  rintro n s ⟨i,σ',H',vs,o,rfl,hi,I',sm,R',st',fr',⟨its,k,rv,hD⟩,fD,⟨Acc,rr,nda⟩,hl⟩
  by_cases hlt:i < ds.length
  . -- one more
    obtain ⟨go,yl⟩:=(itd i H' sm).1 hlt
    have hd0:ds[i]? = some ds[i]:=by simp [hlt]
    obtain ⟨e,ge,xe⟩:=mg' i _ hd0
    have I1:L2.Inv (cS X scope cl x N C s₂ H₂ fp (X.pn++pins)) [(s₂.heap.objs.size,{ cls:=.type "list",data:=.seq its.toArray k })] σ' H' s:=I'.pins_of fun p hp=>by
     have:p=(s₂.heap.objs.size,{ cls:=.type "list",data:=.seq its.toArray k }):=by simpa using hp
     subst this
     exact ⟨hD,fD,hDC,dstk,fun v z=>by cases z⟩
    refine thn (T.item (cS X scope cl x N C s₂ H₂ fp (X.pn++pins)) rfl rfl rfl rfl i _ s σ' H' (fun _ _=>False) I1 (stat fr' fun p hp b hb=>by
     have:p=(s₂.heap.objs.size,{ cls:=.type "list",data:=.seq its.toArray k }):=by simpa using hp
     subst this
     exact (fne b hb).symm) st' go) fun r s1 ⟨u,hr,h4⟩=>?_
    subst hr
    refine thn h4 fun _ s2 ⟨y,H'',I2,ru,yy,st2,fr2⟩=>?_
    obtain ⟨s3,d,hd,rd⟩:=yl y H'' yy
    have hd':d=ds[i]:=by rw [hd0] at hd;exact (Option.some.inj hd).symm
    subst hd'
    have I3:=I2.pinned (stat fr2 fun p hp b hb=>by
     have:p=(s₂.heap.objs.size,{ cls:=.type "list",data:=.seq its.toArray k }):=by simpa using hp
     subst this
     exact (fne b hb).symm) (T.obj _ _ st2)
    refine thn (jF (X:=cS X scope cl x N C s₂ H₂ fp (X.pn++pins)) (i:=0) O.nd O.h0 (.inl (lookup_relabel_local O.hx)) (.inl (by simp)) _ s2 σ' H'' y u (fun σ4 H4=>σ4=σ'.set 0 (some y)/\H4=H'') I3 ru ⟨rfl,rfl⟩) fun _ s4 ⟨σ4,H4,I4,e1,e2⟩=>?_
    subst e1 e2
    have R4:RepS X.K H4 (σ'.set 0 (some y)) (some ds[i] :: bv js δ):=(R'.mono s3).set 0 rd
    refine thn (he C s₂ H₂ fp (X.pn++pins) _ s4 (σ'.set 0 (some y)) H4 (fun v H5=>Same H4 H5/\∃ A,RepO X.K H₂ H5 v e A/\A.Nodup/\∀ a∈A,H4 a=none) I4 (BI ge R4 (sm.trans s3))) fun wv s5 ⟨v,H5,I5,rw5,s45,A5,r5,nd5,fr5⟩=>?_
    have hD5:s5.heap.get? s₂.heap.objs.size=some { cls:=.type "list",data:=.seq its.toArray k }:=(I5.pin (s₂.heap.objs.size,{ cls:=.type "list",data:=.seq its.toArray k }) (by simp)).1
    have fD5:H5 s₂.heap.objs.size=none:=(I5.pin (s₂.heap.objs.size,{ cls:=.type "list",data:=.seq its.toArray k }) (by simp)).2.1
    have pf:∀ b∈fp,∀ ob,s2.heap.get? b=some ob->s5.heap.get? b=some ob/\H5 b=none:=fun b hb ob hob=>by
     have:=I5.pin (b,ob) (List.mem_append_right _ (List.mem_append_right _ (fS hb hob)))
     exact ⟨this.1,this.2.1⟩
    have lz:its.length<=1000:=by
     have:=rv.length
     omega
    refine call_meets F.slot_list_append ⟨_,hD5,rfl⟩ F.entry_list_append (F.args_list_append_2 _ _) (PySem.list_append s₂.heap.objs.size its.toArray k wv (by rw [List.size_toArray];exact eL lz)) ⟨hD5,?_⟩
    have q:=PySem.IsL.update hD5 (fun a=>a.push wv)
    have I6:L2.Inv (cS X scope cl x N C s₂ H₂ fp (X.pn++pins)) [] (σ'.set 0 (some y)) H5 { s5 with heap:=s5.heap.update s₂.heap.objs.size (Obj.mapSeq fun a=>a.push wv),toks:=s5.toks } :=
     (I5.pins_of (pins':=[]) fun p hp=>by simp at hp).turned (it:=s₂.heap.objs.size) (t':=s5.toks) (fun b ob hb hu=>(Heap.get?_update_other s5.heap _ (Ne.symm hb)).trans hu) fD5 hDC (.inr hDle) cne (fun p hp=>by
      rcases Zp.mp hp with z | z
      . exact pne p z
      . simp at z)
    refine ⟨ds.length - (i+1),by omega,i+1,σ'.set 0 (some y),H5,vs++[v],some ds[i],rfl,hlt,I6,(sm.trans s3).trans s45,R4.mono s45,?_,?_,?_,fD5,?_,by simp [hl]⟩
    . refine T.keep _ _ _ st2 fun b hb ob hob=>?_
      exact (Heap.get?_update_other s5.heap _ (Ne.symm (fne b hb))).trans (pf b hb ob hob).1
    . intro b hb
      obtain ⟨ob,hob,_⟩:=T.obj _ _ st2 b hb
      exact (pf b hb ob hob).2
    . have hf7:its.toArray.push wv=(its++[wv]).toArray:=by simp
      rw [hf7] at q
      exact ⟨its++[wv],_,rv.append (.cons rw5 .nil),q⟩
    . have e8:xs.take (i+1)=xs.take i++[e]:=by
       rw [List.take_add_one,xe];rfl
      rw [e8]
      exact wQ rr nda (s3.trans s45) r5 nd5 fun a m=>(cL s3 (fr5 a m))
  . -- the end
    have hie:i=ds.length:=by omega
    refine thn (T.done (cS X scope cl x N C s₂ H₂ fp (X.pn++pins)) rfl rfl rfl rfl i [(s₂.heap.objs.size,{ cls:=.type "list",data:=.seq its.toArray k })] s σ' H' (fun _ _=>False) (I'.pins_of fun p hp=>by
     have:p=(s₂.heap.objs.size,{ cls:=.type "list",data:=.seq its.toArray k }):=by simpa using hp
     subst this
     exact ⟨hD,fD,hDC,dstk,fun v z=>by cases z⟩) (stat fr' fun p hp b hb=>by
     have:p=(s₂.heap.objs.size,{ cls:=.type "list",data:=.seq its.toArray k }):=by simpa using hp
     subst this
     exact (fne b hb).symm) st' ((itd i H' sm).2 (by omega))) fun r s1 ⟨hr,I8⟩=>?_
    subst hr
    have hD8:s1.heap.get? s₂.heap.objs.size=some { cls:=.type "list",data:=.seq its.toArray k }:=(I8.pin (s₂.heap.objs.size,{ cls:=.type "list",data:=.seq its.toArray k }) (by simp)).1
    have hxs:xs.take i=xs:=List.take_of_length_le (by omega)
    rw [hxs] at rr
    have sn:=dM fD (.lst vs)
    have dn:∀ b,∀ u,H' b=some u->b ≠ s₂.heap.objs.size:=fun b u z=>dq z fD
    have un:Un (frs X.stack) fp H₂ (upd H' s₂.heap.objs.size (.lst vs)) s₂.heap s1.heap:=by
     have b0:=I8.base
     refine ⟨fun b ob e n1 n2 n3=>b0.keep b ob e n1 n2 n3,fun b ob e n1 n2 n3=>b0.slot b ob e n1 n2 n3,fun b ob e n1 n3=>?_,fun b ob e n3=>b0.there b ob e n3,fun b zs e=>?_,fun b ob u e=>?_,fun b ps e=>?_⟩
     . rw [aD (Nat.ne_of_lt (Heap.lt_size e))]
       exact b0.free b ob e n1 n3
     . have z:=b0.tups b zs e
       rw [aD (dn _ _ z)]
       exact z
     . have z:=b0.frzs b ob u e
       rw [aD (dn _ _ z)]
       exact z
     . obtain ⟨more,z⟩:=b0.tbls b ps e
       exact ⟨more,by rw [aD (dn _ _ z)];exact z⟩
    have hok:HOk X.prog X.w (upd H' s₂.heap.objs.size (.lst vs)) s1.heap:=fun b u z=>by
     by_cases hb:b=s₂.heap.objs.size
     . rw [hb] at z ⊢
       rw [bc] at z
       cases z
       exact ⟨eL (by omega),its,k,rv,hD8⟩
     . rw [aD hb] at z
       exact (I8.hok b u z).stay (fun _ _ _ q=>q) (fun c q=>by rw [aD (dn _ _ q)];exact q) fun c ys q=>by rw [aD (dn _ _ q)];exact q
    have IX:L2.Inv X pins σ (upd H' s₂.heap.objs.size (.lst vs)) s1:=I.call' I8.os un hok I8.bare fun b hb=>⟨(hf b hb).2.2.2.1,(hf b hb).2.1,(hf b hb).2.2.2.2.1,(hf b hb).2.2.2.2.2⟩
    obtain ⟨m8,hn8,_⟩:=I8.loc
    refine hRR s₂.heap.objs.size C s1 _ vs hCle IX (sm.trans sn) bc ⟨Acc,rr.frame (ci sn) (fun a m=>by
     obtain ⟨⟨ws,e⟩,_⟩:=rr.dom a m
     rw [e];exact sn a _ e),nda,fun m=>(by
     obtain ⟨⟨ws,e⟩,_⟩:=rr.dom _ m
     rw [fD] at e;cases e),I.hok.fresh hDle⟩ ⟨m8,hn8⟩ ?_
    rw [aD (Ne.symm hDC)]
    exact I8.free
 exact codeAny_compStart_list (loop _ rfl) (T.self X.A 0 _ _ _ (T.keep 0 _ _ st (fun b hb o e=>old b o e)) (loop _ rfl))
def eX (src:FA) (js:List Nat) (felt:FM):FM:=fun δ=>(src δ).bind fun ds=>(lJ (fun d=>ownOf felt (shO (some d :: bv js δ))) ds).bind fun xs=>if xs.length<=1000 then some (.lst xs,δ) else none
theorem lI {f:FM} {g:D->DS}:∀ {ds xs:List D},lJ (fun d=>ownOf f (g d)) ds=some xs->hX xs=true
 | [],xs,h=>by cases h;rfl
 | d :: ds,xs,h=>by
  obtain ⟨x,ex,h⟩:=Za.mp (show ((ownOf f (g d)).bind _)=some xs from h)
  obtain ⟨ys,ey,h⟩:=Za.mp h
  cases h
  rw [hX,lI ey,Bool.and_true]
  unfold ownOf at ex
  obtain ⟨p,_,ex⟩:=Za.mp ex
  split at ex
  . rename_i ho;cases ex;exact ho
  . cases ex
theorem wJ {K:PySem.W.Frag} {F H H1 Hend:Hp} {σ:L2.St} {δ:DS} {As:Nat->List Addr} {xs:List D} {vs:List V} {D:Addr} (RA:RepA K F H σ δ As) (ho:hX xs=true) (s:Same H Hend) (s1:Same H H1) (hD:Hend D=some (.lst vs)) (h:∃ Acc,RepOs K H1 Hend vs xs Acc/\Acc.Nodup/\D ∉ Acc/\H1 D=none) :
 ∃ A,Ev F H As F Hend As A/\RepA K F Hend σ δ As/\RepO K F Hend (.ref D) (.lst xs) A:=by
 obtain ⟨Acc,r,nd,nD,hn⟩:=h
 refine ⟨D :: Acc,.fresh s (fun a m=>?_) (List.nodup_cons.mpr ⟨nD,nd⟩) (fun i a m=>(RA.dom m).1),RA.grow s,.lst hD ?_ (r.thaw (RA.fz.trans s1) ho)⟩
 . rcases Zq.mp m with z | z
   . rw [z];exact cL s1 hn
   . exact cL s1 (r.dom a z).2
 . exact cL (RA.fz.trans s1) hn
theorem Bq {K:PySem.W.Frag} {F H H1 Hend:Hp} {σ:L2.St} {δ:DS} {As:Nat->List Addr} {xs:List D} {vs:List V} {D:Addr} {Q:VK} (RA:RepA K F H σ δ As) (k:∀ v F' H' A As',Ev F H As F' H' As' A->RepA K F' H' σ δ As'->RepO K F' H' v (.lst xs) A->Q v H') (ho:hX xs=true) (s:Same H Hend) (s1:Same H H1) (hD:Hend D=some (.lst vs)) (h:∃ Acc,RepOs K H1 Hend vs xs Acc/\Acc.Nodup/\D ∉ Acc/\H1 D=none):Q (.ref D) Hend:=by
 obtain ⟨A,ev,R',r'⟩:=wJ RA ho s s1 hD h
 exact k _ F Hend A As ev R' r'
theorem uk {K:PySem.W.Frag} {F H H1 Hend:Hp} {σ:L2.St} {δ:DS} {As:Nat->List Addr} {xs:List D} {vs:List V} {D:Addr} {Q:L2.St->Hp->Prop} (i:Nat) (RA:RepA K F H σ δ As) (k:∀ σ' F' H',Same F F'->gl K F' H' σ' (δ.set i (some (.lst xs)))->Q σ' H') (ho:hX xs=true) (s:Same H Hend) (s1:Same H H1) (hD:Hend D=some (.lst vs)) (h:∃ Acc,RepOs K H1 Hend vs xs Acc/\Acc.Nodup/\D ∉ Acc/\H1 D=none):Q (σ.set i (some (.ref D))) Hend:=by
 obtain ⟨A,ev,R',r'⟩:=wJ RA ho s s1 hD h
 exact k _ F Hend (Same.refl F) (R'.setM i r' ev.nd ev.dj)
theorem mU {elt iter:Expr} {px pos:Pos} {src:FA} {felt:FM} (hi:PID X (.Name x px) iter src) {N:List Str} {js:List Nat} (he:∀ C s₂ H₂ fp pn,PV (cS X scope cl x N C s₂ H₂ fp pn) elt felt) (O:CompOk X scope cl x N js) (hcm:X.calm=true:=by rfl)
 (hs:∀ v,foldedSetIterable iter X.env v=pure v:=by intro _;rfl):PV X (.ListComp elt [⟨.Name x px,iter,[],0⟩] scope pos) (eX src js felt):=by
 intro pins s σ H Q I ⟨F,δ,As,d,δ',RA,q,k⟩
 have R:=RA.toS
 unfold eX at q
 obtain ⟨ds,eds,q⟩:=Za.mp q
 obtain ⟨xs,exs,q⟩:=Za.mp q
 by_cases hz:xs.length<=1000
 . rw [if_pos hz] at q
   cases q
   rw [eval_ListComp]
   refine wpAny_comprehension_free (use:=none) rfl hs O.clos O.kind O.names ?_
   refine wpAny_mono (hi pins s σ H (fun J H1=>Same H H1/\ItD X.K J H1 ds) I ⟨δ,ds,R,eds,fun J H1 s1 itd=>⟨s1,itd⟩⟩) (fun v s1 h1=>wpAny_mono h1 (fun itv s2 h2=>?_) fun _ _ z=>z) fun _ _ z=>z
   obtain ⟨it,fp,tn,J,H2,rfl,I2,T,st,hf,s1,itd⟩:=h2
   refine l8 (RR:=fun acc C=>compPost (model X.prog X.w) X.A X.xe none (EP X pins σ Q) acc C) I2 hcm O T st hf itd (R.mono s1) he exs hz ?_
   intro D C s' Hend vs hC IX sm hD rr ⟨m,hn⟩ fC
   exact ⟨m,hn,fun h' hs'=>⟨.ref D,Hend,qk IX I2 hC fC hs',rfl,Bq RA k (lI exs) (s1.trans sm) s1 hD rr⟩⟩
 . rw [if_neg hz] at q;cases q
theorem mZ (i:Nat) {y:Str} {elt iter:Expr} {px py pos spos:Pos} {src:FA} {felt:FM} (hN:X.N.Nodup) (hi:PID X (.Name x px) iter src) {N:List Str} {js:List Nat} (he:∀ C s₂ H₂ fp pn,PV (cS X scope cl x N C s₂ H₂ fp pn) elt felt) (O:CompOk X scope cl x N js)
 (hsw:swapsWith (.ListComp elt [⟨.Name x px,iter,[],0⟩] scope pos) (some (.Name y py)) spos.line X.env=pure true:=by rfl) (hy:X.N[i]? = some y:=by rfl) (hl:Loc X.env.scope y:=by first | exact Or.inl rfl | exact Or.inr rfl) (hcm:X.calm=true:=by rfl)
 (hs:∀ v,foldedSetIterable iter X.env v=pure v:=by intro _;rfl) (hfn:X.fn y=true \/ X.env.scope.names.lookup y=some .local:=by first | exact .inl rfl | exact .inr rfl | assumption) :
 PMD X (.Assign [.Name y py] (.ListComp elt [⟨.Name x px,iter,[],0⟩] scope pos) spos) (aB i (eX src js felt)):=by
 intro pins s σ H D I ⟨F,δ,r,⟨As,RA⟩,q,k⟩
 have R:=RA.toS
 unfold aB at q
 obtain ⟨⟨d,δ'⟩,ed,q⟩:=Za.mp q
 cases q
 unfold eX at ed
 obtain ⟨ds,eds,q⟩:=Za.mp ed
 obtain ⟨xs,exs,q⟩:=Za.mp q
 by_cases hz:xs.length<=1000
 . rw [if_pos hz] at q
   cases q
   rw [exec_Assign_Name_used _ _ _ _ hsw]
   refine wpAny_bind (wpAny_standAt (wpAny_bind ?_))
   show wpAny _ X.A (do let _ <- comprehension (.ListComp elt [⟨.Name x px,iter,[],0⟩] scope pos) scope X.env _ (newList []) false (eval iter X.env) (some (assign (.Name y py) X.env))) _ _ s
   refine wpAny_bind (wpAny_mono (wpAny_comprehension_free (use:=some (assign (.Name y py) X.env)) (Q:=fun _ s'=>SP X pins D .next s') rfl hs O.clos O.kind O.names ?_) (fun _ s' hq=>wpAny_pure (wpAny_pure hq)) fun _ _ z=>z)
   refine wpAny_mono (hi pins s σ H (fun J H1=>Same H H1/\ItD X.K J H1 ds) I ⟨δ,ds,R,eds,fun J H1 s1 itd=>⟨s1,itd⟩⟩) (fun v s1 h1=>wpAny_mono h1 (fun itv s2 h2=>?_) fun _ _ z=>z) fun _ _ z=>z
   obtain ⟨it,fp,tn,J,H2,rfl,I2,T,st,hf,s1,itd⟩:=h2
   refine l8 (RR:=fun acc C=>compPost (model X.prog X.w) X.A X.xe (some (assign (.Name y py) X.env)) (fun _ s'=>SP X pins D .next s') acc C) I2 hcm O T st hf itd (R.mono s1) he exs hz ?_
   intro DA C s' Hend vs hC IX sm hD rr ⟨m,hn⟩ fC
   show wpAny _ X.A (assign (.Name y py) X.env (.ref DA)) _ _ s'
   refine wpAny_assign_Name (lr (v:=.ref DA) IX hN hy hl rfl (fun s9 I9 ⟨a,hsb,ha⟩=>?_) hfn)
   have hCa:C ≠ a:=by
    rintro rfl
    rcases ha with z | z
    . exact absurd (Nat.lt_of_lt_of_le I2.lt (by rw [<- z];exact hC)) (Nat.lt_irrefl _)
    . obtain ⟨v,o,h1,_⟩:=I2.cell y _ z
      exact absurd (Nat.lt_of_lt_of_le (Heap.lt_size h1) hC) (Nat.lt_irrefl _)
   refine ⟨m,hn.at' fun o e=>(hsb.2 C hCa).trans e,fun h' hs'=>⟨_,Hend,?_,uk i RA k (lI exs) (s1.trans sm) s1 hD rr⟩⟩
   exact I9.turned (it:=C) (t':=s9.toks) (fun b o hb e=>(hs'.2 b hb).trans e) fC (Nat.ne_of_gt (Nat.lt_of_lt_of_le I2.lt hC)) (.inr (Nat.le_trans I2.sz hC))
    (fun y c e z=>by
     obtain ⟨v,o,h1,_⟩:=I2.cell y c e
     exact absurd (Nat.lt_of_lt_of_le (Heap.lt_size h1) (by rw [z];exact hC)) (Nat.lt_irrefl _))
    (fun p hp z=>absurd (Nat.lt_of_lt_of_le (Heap.lt_size (I2.pin p hp).1) (by rw [z];exact hC)) (Nat.lt_irrefl _))
 . rw [if_neg hz] at q;cases q
end
end Dl
namespace Dl
open PySem PySem.Spec PyProof.Rows L2
section
variable {K:PySem.W.Frag} {F H:Hp} {σ:L2.St} {δ:DS} {As:Nat->List Addr}
theorem RepOs.of_imm:∀ {vs:List V} {ds:List D},Reps K H vs ds->cA ds=true->RepOs K F H vs ds []
 | _,_,.nil,_=>.nil
 | _,_,.cons r t,i=>by
  rw [cA,Bool.and_eq_true] at i
  exact .cons (.imm i.1 r) (RepOs.of_imm t i.2) rfl
theorem rC {H1:Hp} {vs:List V} {ds:List D} {p:Addr} {Q:VK} (R:RepA K F H σ δ As) (s:Same H H1) (r:Reps K H1 vs ds) (i:cA ds=true) (hp:H1 p=none)
 (k:∀ v F' H' A As',Ev F H As F' H' As' A->RepA K F' H' σ δ As'->RepO K F' H' v (.lst ds) A->Q v H'):Q (.ref p) (upd H1 p (.lst vs)):=by
 have sn:=dM hp (.lst vs)
 have np:=cL s hp
 refine k _ F _ [p] As (.fresh (s.trans sn) (fun a m=>?_) (List.nodup_cons.mpr ⟨fun z=>(nomatch z),List.nodup_nil⟩) (fun i a m=>(R.dom m).1)) (R.grow (s.trans sn)) (.lst bc (cL R.fz np) (RepOs.of_imm (r.mono sn) i))
 rw [Zm.mp m]
 exact np
end
def lL (d:D) (δ:DS):Option (D×DS):=match d with
 | .lst ds=>if cA ds then some (.lst ds,δ) else none
 | _=>none
theorem on {d d':D} {δ δ':DS} (h:lL d δ=some (d',δ')):∃ ds,d=.lst ds/\d'=.lst ds/\δ'=δ/\cA ds=true:=by
 unfold lL at h
 split at h
 . rename_i ds
   split at h
   . rename_i hi
     cases h
     exact ⟨ds,rfl,rfl,rfl,hi⟩
   . cases h
 . cases h
def wj:List D->Option D
 | [.lst ds]=>some (.lst ds)
 | [.seq ds]=>some (.lst ds)
 | [.tup ds]=>some (.lst ds)
 | _=>none
def gS (g:FA):FM:=fun δ=>(g δ).bind fun ds=>(wj ds).bind fun d=>lL d δ
section
variable {X:Cx} {e a b:Expr} {f fa fb:FD} {lo hi:Option Expr} {fl fh:FO} {g:FA} {pos p2 p:Pos}
theorem jE (hg:Gl X "list") (hm:X.mg "list" = none) (hv:bootBuiltins "list" = some (.type "list")) (ha:PAD X [e] g) (he:starEach [e] X.env=(false,eval e X.env) :: starEach [] X.env:=by rfl) (hpl:(backTo pos (starEach [] X.env)).any (·.1)=false:=by rfl) :
 PV X (.Call (.Name "list" p) [e] [] pos) (gS g):=imp (lC rZ hg hm hv ha (by decide) (by decide) he hpl) fun σ H Q ⟨F,δ,As,d,δ',RA,q,k⟩=>by
 unfold gS at q
 obtain ⟨xs,exs,q⟩:=Za.mp q
 obtain ⟨d0,e0,q⟩:=Za.mp q
 obtain ⟨ds,rfl,rfl,rfl,hi⟩:=on q
 refine ⟨_,xs,RA.toS,exs,fun vs H1 s1 r1 l=>?_⟩
 unfold wj at e0
 split at e0
 . cases e0
   obtain ⟨v,rfl,rv⟩:=gK r1
   cases rv with
   | @lst p vs _ hp rp=>exact ⟨p,vs,rfl,.inl (SqL.of hp),fun l hl=>rC RA s1 rp hi hl k⟩
 . cases e0
   obtain ⟨v,rfl,rv⟩:=gK r1
   cases rv with
   | @seq p vs _ hp rp=>exact ⟨p,vs,rfl,.inl hp,fun l hl=>rC RA s1 rp hi hl k⟩
 . cases e0
   obtain ⟨v,rfl,rv⟩:=gK r1
   cases rv with
   | @tup p vs _ hp rp=>exact ⟨p,vs,rfl,.inr hp,fun l hl=>rC RA s1 rp hi hl k⟩
 . cases e0
end
def ly (i:Nat):SD:=fun δ=>match δ[i]? with
 | some (some (.lst _))=>some (.nx (δ.set i (some (.lst []))))
 | _=>none
theorem imms_mem:∀ {ds:List D},cA ds=true <-> ∀ d∈ds,imm d=true
 | []=>⟨fun _ _ m=>(nomatch m),fun _=>rfl⟩
 | d :: ds=>by
  rw [cA,Bool.and_eq_true,imms_mem (ds:=ds)]
  exact ⟨fun h e m=>(Zq.mp m).elim (fun z=>z ▸ h.1) (h.2 e),fun h=>⟨h d Zk,fun e m=>h e (Zl _ m)⟩⟩
section
variable {K:PySem.W.Frag} {F H:Hp} {σ:L2.St} {δ:DS} {As:Nat->List Addr}
theorem RepA.wrI {i:Nat} {ds es:List D} {a:Addr} {vs ws:List V} {A0:List Addr} (R:RepA K F H σ δ As) (h:δ[i]? = some (some (.lst ds))) (hσ:σ[i]? = some (some (.ref a))) (hA:As i=a :: A0) (ha:H a=some (.lst vs)) (hF:F a=none) (r:Reps K H ws es) (hi:cA es=true) :
 gl K F (upd H a (.lst ws)) σ (δ.set i (some (.lst es))):=R.wr h hσ hA ha hF (RepOs.of_imm r hi) (fun z=>nomatch z) List.nodup_nil fun _ _ _ _ z=>nomatch z
end
section
variable {X:Cx} {pos:Pos}
theorem yB (i:Nat) {c:Expr} (hc:PE X c (DF X.K "list" yg (pi i))) (hs:swapsWith c none pos.line X.env=pure false:=by rfl):PMD X (.Expr c pos) (ly i):=gh (mX hc hs) fun E σ H ⟨F,δ,r,⟨As,R⟩,q,k⟩=>by
 unfold ly at q
 split at q
 . rename_i ds h
   cases q
   obtain ⟨a,vs,A0,s0,eA,g0,n0,ro⟩:=R.lst h
   exact ⟨.ref a,s0,.inl ⟨rfl,_,SqL.of g0⟩,a,vs,rfl,rfl,g0,k σ F _ (Same.refl F) (R.wrI h s0 eA g0 n0 .nil rfl)⟩
 . cases q
end
end Dl
namespace Dl
open PySem PySem.Spec PyProof.Rows L2
end Dl
namespace Dl
open PySem PySem.Spec PyProof.Rows L2
def eqL (f:D->D->Option Bool):List D->List D->Option Bool
 | [],[]=>some true
 | [],_ :: _=>some false
 | _ :: _,[]=>some false
 | a :: as,b :: bs=>(f a b).bind fun x=>(eqL f as bs).bind fun y=>some (x && y)
def eqN:Nat->D->D->Option Bool
 | 0,a,b=>if c9 a && c9 b then some (eqF a b) else none
 | n+1,a,b=>match a,b with
  | .tup as,.tup bs=>eqL (eqN n) as bs
  | .lst as,.lst bs=>eqL (eqN n) as bs
  | .lst as,.seq bs=>eqL (eqN n) as bs
  | .seq as,.lst bs=>eqL (eqN n) as bs
  | .seq as,.seq bs=>eqL (eqN n) as bs
  | .non,.tup _=>some false
  | .tup _,.non=>some false
  | .non,.lst _=>some false
  | .lst _,.non=>some false
  | .non,.seq _=>some false
  | .seq _,.non=>some false
  | a,b=>if c9 a && c9 b then some (eqF a b) else none
theorem wG {f:D->D->Option Bool}:∀ {as bs:List D} {c:Bool},eqL f as bs=some c->∀ (j:Nat) (a b:D),as[j]? = some a->bs[j]? = some b->∃ x,f a b=some x
 | [],_,_,_,_,_,_,h,_=>by simp at h
 | _ :: _,[],_,_,_,_,_,_,h=>by simp at h
 | a :: as,b :: bs,c,h,j,x,y,h1,h2=>by
  obtain ⟨u,e1,h⟩:=Za.mp (show ((f a b).bind _)=some c from h)
  obtain ⟨v,e2,h⟩:=Za.mp h
  cases j with
  | zero=>simp at h1 h2;subst h1 h2;exact ⟨u,e1⟩
  | succ j=>exact wG e2 j x y (by simpa using h1) (by simpa using h2)
theorem rR {f:D->D->Option Bool}:∀ {as bs:List D} {c:Bool} {e:Nat->Bool},eqL f as bs=some c->(∀ (j:Nat) (a b:D) (x:Bool),as[j]? = some a->bs[j]? = some b->f a b=some x->e j=x)->((List.range (min as.length bs.length)).all e && as.length == bs.length)=c
 | [],[],c,e,h,_=>by cases h;rfl
 | [],_ :: _,c,e,h,_=>by cases h;simp
 | _ :: _,[],c,e,h,_=>by cases h;simp
 | a :: as,b :: bs,c,e,h,he=>by
  obtain ⟨u,e1,h⟩:=Za.mp (show ((f a b).bind _)=some c from h)
  obtain ⟨v,e2,h⟩:=Za.mp h
  cases h
  have ih:=rR (e:=fun j=>e (j+1)) e2 fun j x y z h1 h2 h3=>he (j+1) x y z (by simpa using h1) (by simpa using h2) h3
  have h0:e 0=u:=he 0 a b u rfl rfl e1
  show ((List.range (min (as.length+1) (bs.length+1))).all e && (as.length+1) == (bs.length+1))=(u && v)
  have hm:min (as.length+1) (bs.length+1)=min as.length bs.length+1:=by omega
  have hq:((as.length+1) == (bs.length+1))=(as.length == bs.length):=by rw [Bool.eq_iff_iff];simp
  rw [<- ih,<- h0,hm,List.range_succ_eq_map,List.all_cons,List.all_map,Bool.and_assoc,hq]
  rfl
theorem wF {f:D->D->Option Bool}:∀ {as bs:List D} {c:Bool},eqL f as bs=some c->as.length ≠ bs.length->c=false
 | [],[],_,_,n=>absurd rfl n
 | [],_ :: _,c,h,_=>by cases h;rfl
 | _ :: _,[],c,h,_=>by cases h;rfl
 | a :: as,b :: bs,c,h,n=>by
  obtain ⟨u,e1,h⟩:=Za.mp (show ((f a b).bind _)=some c from h)
  obtain ⟨v,e2,h⟩:=Za.mp h
  cases h
  rw [wF e2 (fun z=>n (congrArg (· + 1) z)),Bool.and_false]
theorem rT {A:Around} {s:Shared} {b:Addr} {k:Bool} (h:SeqAt.RcAt A s .none (.ref b) k):SeqAt.EqAt A s .none (.ref b) k:=fun prog w E Q hq=>by
 unfold eqBool
 refine wpAny_holding (wpAny_ite_split (fun z=>nomatch (eq_of_beq z:Value.none=Value.ref b)) fun _=>?_)
 have z:=h prog w E (fun a s'=>wpAny (model prog w) A (truthOfDropped a) Q E s') (wpAny_truthy_bool hq)
 exact wpAny_bind z
theorem rS {A:Around} {s:Shared} {b:Addr} {k:Bool} (h:SeqAt.RcAt A s (.ref b) .none k):SeqAt.EqAt A s (.ref b) .none k:=fun prog w E Q hq=>by
 unfold eqBool
 refine wpAny_holding (wpAny_ite_split (fun z=>nomatch (eq_of_beq z:Value.ref b=Value.none)) fun _=>?_)
 have z:=h prog w E (fun a s'=>wpAny (model prog w) A (truthOfDropped a) Q E s') (wpAny_truthy_bool hq)
 exact wpAny_bind z
section
variable {X:Cx} {pins:List (Addr×Obj)} {σ:L2.St} {H:Hp} {s:Shared}
theorem lx (I:L2.Inv X pins σ H s):∀ (n:Nat) {v:V} {a b:D} {c:Bool},Rep X.K H v a->Rep X.K H v b->eqN n a b=some c->c=true
 | 0,v,a,b,c,ra,rb,h=>by
  unfold eqN at h
  split at h
  . rename_i hf
    cases h
    rw [Bool.and_eq_true] at hf
    have e1:=(ra.flat hf.1).2
    have e2:=(rb.flat hf.2).2
    rw [<- nu e1 e2]
    cases ra <;> first | rfl | (simp [eqV];done) | exact absurd hf.1 Bool.false_ne_true
  . cases h
 | n+1,v,a,b,c,ra,rb,h=>by
  have many:∀ {vs:List V} {as bs:List D},Reps X.K H vs as->Reps X.K H vs bs->∀ {c:Bool},eqL (eqN n) as bs=some c->c=true:=by
   intro vs
   induction vs with
   | nil=>intro as bs r1 r2 c h;cases r1;cases r2;cases h;rfl
   | cons v vs ih =>
    intro as bs r1 r2 c h
    cases r1 with
    | cons p1 t1 =>
     cases r2 with
     | cons p2 t2 =>
      obtain ⟨u,e1,h⟩:=Za.mp (show ((eqN n _ _).bind _)=some c from h)
      obtain ⟨w,e2,h⟩:=Za.mp h
      cases h
      rw [lx I n p1 p2 e1,ih t1 t2 e2]
      rfl
  have flatC:∀ {a b:D},Rep X.K H v a->Rep X.K H v b->(if c9 a && c9 b then some (eqF a b) else none)=some c->c=true:=fun {a b} ra rb h=>by
   refine lx I 0 ra rb ?_
   unfold eqN
   exact h
  cases ra with
  | non=>cases rb;exact flatC .non .non h
  | bl x=>cases rb;exact flatC (.bl x) (.bl x) h
  | int x=>cases rb;exact flatC (.int x) (.int x) h
  | str x=>cases rb;exact flatC (.str x) (.str x) h
  | ty x=>cases rb;exact flatC (.ty x) (.ty x) h
  | @tup p vs as hp rp =>
   cases rb with
   | @tup _ ws bs hq rq =>
    have e:=I.tuple_inj hp hq
    subst e
    exact many rp rq h
   | lst _ _=>cases h
   | seq _ _=>cases h
   | dct _=>cases h
   | exc _=>cases h
   | cls _=>cases h
   | ms _ _ _=>cases h
   | mf _ _ _=>cases h
   | md _ _ _=>cases h
  | @lst p vs as hp rp =>
   cases rb with
   | @lst _ ws bs hq rq =>
    have e:=I.list_inj (SqL.of (K:=X.K) hp) (SqL.of hq)
    subst e
    exact many rp rq h
   | @seq _ ws bs hq rq =>
    have e:=I.list_inj (SqL.of hp) hq
    subst e
    exact many rp rq h
   | tup _ _=>cases h
   | dct _=>cases h
   | exc _=>cases h
   | cls _=>cases h
   | ms _ _ _=>cases h
   | mf _ _ _=>cases h
   | md _ _ _=>cases h
  | @seq p vs as hp rp =>
   cases rb with
   | @lst _ ws bs hq rq =>
    have e:=I.list_inj hp (SqL.of hq)
    subst e
    exact many rp rq h
   | @seq _ ws bs hq rq =>
    have e:=I.list_inj hp hq
    subst e
    exact many rp rq h
   | tup _ _=>cases h
   | dct _=>cases h
   | exc _=>cases h
   | cls _=>cases h
   | ms _ _ _=>cases h
   | mf _ _ _=>cases h
   | md _ _ _=>cases h
  | dct h1=>cases rb <;> cases h
  | exc h1=>cases rb <;> cases h
  | cls C=>cases rb <;> cases h
  | ms=>cases rb <;> cases h
  | mf=>cases rb <;> cases h
  | md=>cases rb <;> cases h
theorem wD (I:L2.Inv X pins σ H s):∀ (n:Nat) (A:Around),A.units+n < cLine->∀ {x y:V} {u v:Value} {a b:D} {c:Bool},RelV x u->RelV y v->Rep X.K H x a->Rep X.K H y b->eqN n a b=some c->SeqAt.RcAt A s u v c/\SeqAt.RcNeAt A s u v (!c)/\SeqAt.EqAt A s u v c
 | 0,A,hu,x,y,u,v,a,b,c,rx,ry,ra,rb,h=>by
  unfold eqN at h
  split at h
  . rename_i hf
    cases h
    rw [Bool.and_eq_true] at hf
    have z:=vE (A:=A) (s:=s) rx ry ra rb hf.1 hf.2
    refine ⟨z.1,z.2,?_⟩
    rw [<- nu (ra.flat hf.1).2 (rb.flat hf.2).2]
    exact uY rx ry (ra.flat hf.1).1 (rb.flat hf.2).1
  . cases h
 | n+1,A,hu,x,y,u,v,a,b,c,rx,ry,ra,rb,h=>by
  have hu0:A.units < cLine:=by omega
  have hu1:A.in1.units+n < cLine:=by show A.units+1+n < cLine;omega
  have items:∀ {vs ws:List V} {us zs:List Value} {as bs:List D} {c:Bool},Vals vs us->Vals ws zs->Reps X.K H vs as->Reps X.K H ws bs->eqL (eqN n) as bs=some c ->
   ∃ e:Nat->Bool,(∀ j (h1:j < us.toArray.size) (h2:j < zs.toArray.size),SeqAt.EqAt A.in1 s us.toArray[j] zs.toArray[j] (e j))/\∀ (j:Nat) (a b:D) (x:Bool),as[j]? = some a->bs[j]? = some b->eqN n a b=some x->e j=x:=by
   intro vs ws us zs as bs c r1 r2 q1 q2 h
   refine ⟨fun j=>((as[j]?).bind fun a=>(bs[j]?).bind fun b=>eqN n a b).getD true,fun j h1 h2=>?_,fun j a b x e1 e2 e3=>by dsimp only;rw [e1,e2,Zc,Zc,e3];rfl⟩
   have l1:=r1.length
   have l2:=r2.length
   rw [List.size_toArray] at h1 h2
   have k1:j < vs.length:=by omega
   have k2:j < ws.length:=by omega
   obtain ⟨u',e1,p1⟩:=r1.get (i:=j) (x:=vs[j]) (by simp [k1])
   obtain ⟨z',e2,p2⟩:=r2.get (i:=j) (x:=ws[j]) (by simp [k2])
   obtain ⟨a',e3,p3⟩:=q1.getV (i:=j) (v:=vs[j]) (by simp [k1])
   obtain ⟨b',e4,p4⟩:=q2.getV (i:=j) (v:=ws[j]) (by simp [k2])
   have w1:us.toArray[j]=u':=by
    have z:us[j]? = some us[j]:=by simp [h1]
    rw [z] at e1;simpa using e1
   have w2:zs.toArray[j]=z':=by
    have z:zs[j]? = some zs[j]:=by simp [h2]
    rw [z] at e2;simpa using e2
   obtain ⟨x',ex⟩:=wG h j a' b' e3 e4
   dsimp only
   rw [w1,w2,e3,e4,Zc,Zc,ex]
   exact (wD I n A.in1 hu1 p1 p2 p3 p4 ex).2.2
  have refs:∀ {p q:Addr},u=.ref p->v=.ref q->SeqAt.RcAt A s (.ref p) (.ref q) c->SeqAt.RcNeAt A s (.ref p) (.ref q) (!c)->SeqAt.RcAt A s u v c/\SeqAt.RcNeAt A s u v (!c)/\SeqAt.EqAt A s u v c:=fun {p q} e1 e2 z1 z2=>by
   subst e1 e2
   refine ⟨z1,z2,?_⟩
   by_cases hpq:p=q
   . subst hpq
     have exy:x=y:=rx.inj ry
     subst exy
     rw [lx I (n+1) ra rb h]
     exact SeqAt.EqAt.same _
   . exact SeqAt.EqAt.of_refs hpq z1
  have lists:∀ {p q:Addr} {vs ws:List V} {as bs:List D},u=.ref p->v=.ref q->SqL X.K H p vs->SqL X.K H q ws->Reps X.K H vs as->Reps X.K H ws bs->eqL (eqN n) as bs=some c->SeqAt.RcAt A s u v c/\SeqAt.RcNeAt A s u v (!c)/\SeqAt.EqAt A s u v c:=fun {p q vs ws as bs} e1 e2 hp hq rp rq hc=>by
   obtain ⟨its,r1,t1,_⟩:=I.list hp
   obtain ⟨jts,r2,t2,_⟩:=I.list hq
   have l1:its.toArray.size=as.length:=by rw [List.size_toArray,<- r1.length,rp.length]
   have l2:jts.toArray.size=bs.length:=by rw [List.size_toArray,<- r2.length,rq.length]
   obtain ⟨e,he,hx⟩:=items r1 r2 rp rq hc
   by_cases hl:its.toArray.size=jts.toArray.size
   . have z:=rR hc hx
     have hb:(as.length == bs.length)=true:=by rw [beq_iff_eq];omega
     have hm:min as.length bs.length=its.toArray.size:=by omega
     rw [hb,hm,Bool.and_true] at z
     have z1:=SeqAt.RcAt.lists (A:=A) (s:=s) t1.isList t2.isList hl hu0 he
     have z2:=SeqAt.RcNeAt.lists (A:=A) (s:=s) t1.isList t2.isList hl hu0 he
     rw [z] at z1 z2
     exact refs e1 e2 z1 z2
   . have z1:=SeqAt.RcAt.lists_lengths (A:=A) (s:=s) t1.isList t2.isList (by simpa [bne_iff_ne] using hl) hu0
     have z2:=SeqAt.RcNeAt.lists_lengths (A:=A) (s:=s) t1.isList t2.isList (by simpa [bne_iff_ne] using hl) hu0
     have z:=wF hc (by omega)
     subst z
     exact refs e1 e2 z1 z2
  have flatC:(if c9 a && c9 b then some (eqF a b) else none)=some c->SeqAt.RcAt A s u v c/\SeqAt.RcNeAt A s u v (!c)/\SeqAt.EqAt A s u v c:=fun h=>wD I 0 A (by omega) rx ry ra rb (by unfold eqN;exact h)
  cases ra with
  | non =>
   cases (show u=Value.none from rx)
   cases rb with
   | @tup q ws bs hq rq =>
    cases h
    cases (show v=Value.ref q from ry)
    obtain ⟨its,r1,t1,_⟩:=I.tuple hq
    exact ⟨SeqAt.RcAt.none_tuple t1 hu0,SeqAt.RcNeAt.none_tuple t1 hu0,rT (SeqAt.RcAt.none_tuple t1 hu0)⟩
   | @lst q ws bs hq rq =>
    cases h
    cases (show v=Value.ref q from ry)
    obtain ⟨its,r1,t1,_⟩:=I.list (SqL.of (K:=X.K) hq)
    exact ⟨SeqAt.RcAt.none_list t1.isList hu0,SeqAt.RcNeAt.none_list t1.isList hu0,rT (SeqAt.RcAt.none_list t1.isList hu0)⟩
   | @seq q ws bs hq rq =>
    cases h
    cases (show v=Value.ref q from ry)
    obtain ⟨its,r1,t1,_⟩:=I.list hq
    exact ⟨SeqAt.RcAt.none_list t1.isList hu0,SeqAt.RcNeAt.none_list t1.isList hu0,rT (SeqAt.RcAt.none_list t1.isList hu0)⟩
   | _=>exact flatC h
  | @tup p vs as hp rp =>
   cases rb with
   | @tup q ws bs hq rq =>
    obtain ⟨its,r1,t1,_⟩:=I.tuple hp
    obtain ⟨jts,r2,t2,_⟩:=I.tuple hq
    have l1:its.toArray.size=as.length:=by rw [List.size_toArray,<- r1.length,rp.length]
    have l2:jts.toArray.size=bs.length:=by rw [List.size_toArray,<- r2.length,rq.length]
    have hc:eqL (eqN n) as bs=some c:=h
    obtain ⟨e,he,hx⟩:=items r1 r2 rp rq hc
    have z:=rR hc hx
    have z1:=SeqAt.RcAt.tuples (A:=A) (s:=s) t1 t2 hu0 he
    have z2:=SeqAt.RcNeAt.tuples (A:=A) (s:=s) t1 t2 hu0 he
    rw [l1,l2,z] at z1 z2
    exact refs (show u=Value.ref p from rx) (show v=Value.ref q from ry) z1 z2
   | non =>
    cases h
    cases (show u=Value.ref p from rx)
    cases (show v=Value.none from ry)
    obtain ⟨its,r1,t1,_⟩:=I.tuple hp
    exact ⟨SeqAt.RcAt.tuple_none t1 hu0,SeqAt.RcNeAt.tuple_none t1 hu0,rS (SeqAt.RcAt.tuple_none t1 hu0)⟩
   | _=>cases h
  | @lst p vs as hp rp =>
   cases rb with
   | @lst q ws bs hq rq=>exact lists (show u=Value.ref p from rx) (show v=Value.ref q from ry) (SqL.of hp) (SqL.of hq) rp rq h
   | @seq q ws bs hq rq=>exact lists (show u=Value.ref p from rx) (show v=Value.ref q from ry) (SqL.of hp) hq rp rq h
   | non =>
    cases h
    cases (show u=Value.ref p from rx)
    cases (show v=Value.none from ry)
    obtain ⟨its,r1,t1,_⟩:=I.list (SqL.of (K:=X.K) hp)
    exact ⟨SeqAt.RcAt.list_none t1.isList hu0,SeqAt.RcNeAt.list_none t1.isList hu0,rS (SeqAt.RcAt.list_none t1.isList hu0)⟩
   | _=>cases h
  | @seq p vs as hp rp =>
   cases rb with
   | @lst q ws bs hq rq=>exact lists (show u=Value.ref p from rx) (show v=Value.ref q from ry) hp (SqL.of hq) rp rq h
   | @seq q ws bs hq rq=>exact lists (show u=Value.ref p from rx) (show v=Value.ref q from ry) hp hq rp rq h
   | non =>
    cases h
    cases (show u=Value.ref p from rx)
    cases (show v=Value.none from ry)
    obtain ⟨its,r1,t1,_⟩:=I.list hp
    exact ⟨SeqAt.RcAt.list_none t1.isList hu0,SeqAt.RcNeAt.list_none t1.isList hu0,rS (SeqAt.RcAt.list_none t1.isList hu0)⟩
   | _=>cases h
  | bl x=>cases rb <;> first | exact flatC h | cases h
  | int x=>cases rb <;> first | exact flatC h | cases h
  | str x=>cases rb <;> first | exact flatC h | cases h
  | ty x=>cases rb <;> first | exact flatC h | cases h
  | dct h1=>cases rb <;> first | exact flatC h | cases h
  | exc h1=>cases rb <;> first | exact flatC h | cases h
  | cls C=>cases rb <;> first | exact flatC h | cases h
  | ms=>cases rb <;> first | exact flatC h | cases h
  | mf=>cases rb <;> first | exact flatC h | cases h
  | md=>cases rb <;> first | exact flatC h | cases h
end
def eP (a b:D):Option D:=(eqN 6 a b).map D.bl
def i8 (a b:D):Option D:=(eqN 6 a b).map fun c=>D.bl (!c)
def DP (K:PySem.W.Frag):R2:=fun x y H Q=>∃ a b c,Rep K H x a/\Rep K H y b/\eqN 6 a b=some c/\Q (.bl c) H
def DL (K:PySem.W.Frag):R2:=fun x y H Q=>∃ a b c,Rep K H x a/\Rep K H y b/\eqN 6 a b=some c/\Q (.bl (!c)) H
section
variable {X:Cx} {a b:Expr} {fa fb:FD} {pos:Pos}
theorem yQ (hu:X.A.units+64 < cLine):OpR X (compareOp .Eq) (DP X.K):=by
 intro pins s σ H x y v u Q I rx ry ⟨a,b,c,ra,rb,e,q⟩
 exact (wD I 6 X.A (by omega) rx ry ra rb e).1 X.prog X.w _ _ ⟨.bl c,H,I,rfl,q⟩
theorem yN (hu:X.A.units+64 < cLine):OpR X (compareOp .NotEq) (DL X.K):=by
 intro pins s σ H x y v u Q I rx ry ⟨a,b,c,ra,rb,e,q⟩
 exact (wD I 6 X.A (by omega) rx ry ra rb e).2.1 X.prog X.w _ _ ⟨.bl (!c),H,I,rfl,q⟩
theorem yj {K:PySem.W.Frag}:R2D K (DP K) eP:=by
 intro x y H Q a b d ra rb e k
 unfold eP at e
 obtain ⟨c,hc,e⟩:=Zb.mp e
 cases e
 exact ⟨a,b,c,ra,rb,hc,k _ H (Same.refl H) (.bl _)⟩
theorem yh {K:PySem.W.Frag}:R2D K (DL K) i8:=by
 intro x y H Q a b d ra rb e k
 unfold i8 at e
 obtain ⟨c,hc,e⟩:=Zb.mp e
 cases e
 exact ⟨a,b,c,ra,rb,hc,k _ H (Same.refl H) (.bl _)⟩
theorem uM (hu:X.A.units+64 < cLine) (ha:PD X a fa) (hb:PD X b fb):PD X (.Compare a [.Eq] [b] pos) (f2 eP fa fb):=j8 (yQ hu) yj ha hb (eN _)
theorem Ct (hu:X.A.units+64 < cLine) (ha:PD X a fa) (hb:PD X b fb):PD X (.Compare a [.NotEq] [b] pos) (f2 i8 fa fb):=j8 (yN hu) yh ha hb (eN _)
theorem kP (hu:X.A.units+64 < cLine) (ha:PD X a fa) (hb:PD X b fb):PTD X (.Compare a [.Eq] [b] pos) (fT (f2 eP fa fb)):=gB (yQ hu) yj ha hb (eN _)
theorem mW (hu:X.A.units+64 < cLine) (ha:PD X a fa) (hb:PD X b fb):PTD X (.Compare a [.NotEq] [b] pos) (fT (f2 i8 fa fb)):=gB (yN hu) yh ha hb (eN _)
end
end Dl
namespace Dl
open PySem PySem.Spec PyProof.Rows L2
section
open PySem.SeqAt
open PySem.AutoSeq1 (wpAny_loadPart')
open PySem.MeetsSeq PySem.MeetsSeq2 PySem.MeetsSeq3
end
section
variable {X:Cx} {a b:Expr} {fa fb:FD} {pos:Pos}
end
def BP:D->Option Bool
 | .lst _=>some true
 | .seq _=>some true
 | .ty _=>none
 | .exc _=>none
 | .cls _=>none
 | .ms _ _=>none
 | .mf _ _=>none
 | .md _ _=>none
 | _=>some false
theorem yX (d:D) (b:Bool) (h:BP d=some b):qD "list" d b:=by
 cases d <;> (first | cases h) <;> first
  | exact ⟨_,rfl,fun K=>rK _ K⟩
  | exact ⟨_,rfl,fun K=>by kernel_rfl⟩
theorem pvi {X:Cx} (i:Nat) {x:Str} {pos:Pos} (hN:X.N[i]? = some x:=by rfl) (hv:Vis X.env.scope x:=by first | exact Or.inl rfl | exact Or.inr (Or.inl rfl) | exact Or.inr (Or.inr rfl)) (hd:(x == ("__debug__":Str))=false:=by decide)
 (hcd:(x == ("__classdict__":Str))=false:=by decide):PE X (.Name x pos) (pi i):=nV hN hv hd hcd
end Dl
namespace Dl
open PySem PySem.Spec PyProof.Rows L2
section
variable {X:Cx} {pos:Pos} {r:Nat} {c e:Expr} {f:FD} {g:List D->Option (List D)} {rest:List Stmt}
end
end Dl
namespace Dl
open PySem PySem.Spec PyProof.Rows L2
theorem CompOk.nil {X:Cx} {scope:Scope} {x:Str} (clos:closureFor scope X.env=pure []:=by rfl) (nocell:∀ y∈scope.names,y.2 ≠ .cell:=by decide +kernel) (kind:scope.kind=.function:=by rfl)
 (names:∀ y∈scope.names,y.2=.local->scope.names.lookup y.1=some .local:=by decide +kernel) (hx:scope.names.lookup x=some .local:=by rfl) (hfr:∀ p∈scope.names,p.2 ≠ .free:=by decide +kernel):CompOk X scope [] x [x] [] where
 clos:=clos
 nocell:=nocell
 kind:=kind
 names:=names
 hx:=hx
 nd:=by simp
 h0:=rfl
 len:=rfl
 clx:=rfl
 cls:=fun y a h=>by cases h
 has:=fun y h=>by
  have key:∀ k,(k=NameKind.cell \/ k=NameKind.free)->(relabel scope X.env).names.lookup y=some k->False:=fun k hk h=>by
   have m:=PySem.mem_of_lookup h
   unfold relabel at m
   obtain ⟨⟨n,k'⟩,m1,m2⟩:=Zn.mp m
   dsimp only at m2
   refine hfr _ m1 ?_
   show k'=NameKind.free
   split at m2
   . rename_i hc
     rw [Bool.and_eq_true,Bool.and_eq_true] at hc
     exact beq_iff_eq.mp hc.1.1
   . have e:k'=k:=congrArg Prod.snd m2
     rcases hk with z1 | z1
     . exact absurd (e.trans z1) (nocell _ m1)
     . exact e.trans z1
  rcases h with h | h
  . exact (key _ (.inl rfl) h).elim
  . exact (key _ (.inr rfl) h).elim
 fr:=fun i y k h1 h2=>by simp at h2
theorem oF (i:Int):c9 (.int i)=true:=rfl
theorem wB (b:Bool):c9 (.bl b)=true:=rfl
end Dl
namespace Dl
open PySem PySem.Spec PyProof.Rows L2
def nH:List Nat->TGs
 | []=>Ey
 | i :: is=>BQ (wg i) (nH is)
def sA:List Nat->List D->DS->DS
 | i :: is,d :: ds,δ=>sA is ds (δ.set i (some d))
 | _,_,δ=>δ
def tU (is:List Nat) (n:Nat):Bool:=is.all fun i=>decide (i < n)
theorem sQ {K:PySem.W.Frag} {F H:Hp}:∀ {vs:List V} {ds:List D},Reps K H vs ds->cA ds=true->RepOs K F H vs ds []
 | _,_,.nil,_=>.nil
 | _,_,.cons r t,i=>by
  rw [cA,Bool.and_eq_true] at i
  exact .cons (.imm i.1 r) (sQ t i.2) rfl
theorem RepO.parts {K:PySem.W.Frag} {F H:Hp} {v:V} {ds:List D} {A:List Addr} (r:RepO K F H v (.tup ds) A):∃ a vs,v=.ref a/\SqT K H a vs/\RepOs K F H vs ds A:=by
 cases r with
 | imm i h =>
  cases h with
  | tup h r=>exact ⟨_,_,rfl,h,sQ r (by rw [Dl.imm] at i;exact i)⟩
 | tup h r=>exact ⟨_,_,rfl,h,r⟩
theorem RepOs.len {K:PySem.W.Frag} {F H:Hp}:∀ {vs:List V} {ds:List D} {A:List Addr},RepOs K F H vs ds A->vs.length=ds.length
 | _,_,_,.nil=>rfl
 | _,_,_,.cons _ t _=>by rw [List.length_cons,List.length_cons,RepOs.len t]
theorem oi {K:PySem.W.Frag} {F H:Hp}:∀ (is:List Nat) {vs:List V} {ds:List D} {A:List Addr} {σ:L2.St} {δ:DS} {As:Nat->List Addr} {Q:L2.St->Hp->Prop},RepOs K F H vs ds A->A.Nodup->(∀ j a,a∈As j->a ∉ A)->RepA K F H σ δ As->ds.length=is.length->tU is δ.length=true->(∀ σ',gl K F H σ' (sA is ds δ)->Q σ' H)->nH is vs σ H Q
 | [],_,_,_,σ,δ,As,Q,.nil,_,_,R,_,_,k=>⟨rfl,k σ ⟨As,R⟩⟩
 | [],_,_,_,_,_,_,_,.cons _ _ _,_,_,_,l,_,_=>by cases l
 | _ :: _,_,_,_,_,_,_,_,.nil,_,_,_,l,_,_=>by cases l
 | i :: is,_,_,_,σ,δ,As,Q,.cons (v:=v) (d:=d) (vs:=vs) (ds:=ds) (A:=A) (B:=B) r t e,nd,dj,R,l,hi,k=>by
  subst e
  have hi':(decide (i < δ.length) && tU is δ.length)=true:=hi
  rw [Bool.and_eq_true] at hi'
  have h1:i < δ.length:=of_decide_eq_true hi'.1
  rw [List.nodup_append] at nd
  have R1:=R.set i h1 r nd.1 fun j a _ m z=>dj j a m (List.mem_append_left _ z)
  refine ⟨v,vs,rfl,?_⟩
  show nH is vs (σ.set i (some v)) H Q
  refine oi is t nd.2.1 (fun j a m z=>?_) R1 (by simpa using l) (by rw [List.length_set];exact hi'.2) k
  unfold lc at m
  by_cases hj:j=i
  . rw [if_pos hj] at m
    exact nd.2.2 a m a z rfl
  . rw [if_neg hj] at m
    exact dj j a m (List.mem_append_right _ z)
def sJ (is:List Nat) (fm:FM):SD:=fun δ=>(fm δ).bind fun p=>match p.1 with
 | .tup ds=>if ds.length=is.length/\tU is p.2.length=true then some (.nx (sA is ds p.2)) else none
 | _=>none
theorem pgN {X:Cx} (i:Nat) {x:Str} {pos:Pos} (hN:X.N.Nodup) (hi:X.N[i]? = some x:=by rfl) (hx:Loc X.env.scope x:=by first | exact Or.inl rfl | exact Or.inr rfl) (hf:X.fn x=true \/ X.env.scope.names.lookup x=some .local:=by first | exact .inl rfl | exact .inr rfl | assumption):PG X (.Name x pos) (wg i):=jF hN hi hx hf
theorem D0 {X:Cx} {e:Expr} {es:List Expr} {kt:Nat} {pt pos:Pos} {fm:FM} (is:List Nat) (he:PV X e fm) (hg:PG X (.Tuple es kt pt) (CY X.K is.length (nH is)))
 (hs:swapsWithSole [.Tuple es kt pt] e pos.line X.env=pure false:=by rfl) (hw:swappedStores [.Tuple es kt pt] e X.env=pure none:=by rfl)
 (h1:(assignEach [.Tuple es kt pt] X.env).map (·.2)=[assign (.Tuple es kt pt) X.env]:=by rfl):PMD X (.Assign [.Tuple es kt pt] e pos) (sJ is fm):=gh (rc he hg hs hw h1) fun E σ H ⟨F,δ,r,⟨As,R⟩,q,k⟩=>by
 unfold sJ at q
 obtain ⟨⟨d,δ'⟩,ed,q⟩:=Za.mp q
 dsimp only at q
 split at q
 . rename_i ds
   split at q
   . rename_i hl
     cases q
     refine ⟨F,δ,As,_,δ',R,ed,fun v F' H' A As' ev R' r'=>?_⟩
     obtain ⟨a,vs,rfl,sq,ro⟩:=r'.parts
     exact ⟨a,vs,rfl,sq,ro.len.trans hl.1,oi is ro ev.nd ev.dj R' hl.1 hl.2 fun σ' R2=>k σ' F' H' ev.fs R2⟩
   . cases q
 . cases q
end Dl
namespace Dl
open PySem PySem.Spec PyProof.Rows L2
theorem Be {X:Cx} {scope:Scope} {y:Str} (nocell:∀ y∈scope.names,y.2 ≠ .cell) (h:(relabel scope X.env).names.lookup y=some .cell \/ (relabel scope X.env).names.lookup y=some .free):∃ p∈scope.names,p.2=.free/\p.1=y:=by
 have key:∀ k,(k=NameKind.cell \/ k=NameKind.free)->(relabel scope X.env).names.lookup y=some k->∃ p∈scope.names,p.2=.free/\p.1=y:=fun k hk h=>by
  have m:=PySem.mem_of_lookup h
  unfold relabel at m
  obtain ⟨⟨n,k'⟩,m1,m2⟩:=Zn.mp m
  dsimp only at m2
  refine ⟨_,m1,?_,?_⟩
  . show k'=NameKind.free
    split at m2
    . rename_i hc
      rw [Bool.and_eq_true,Bool.and_eq_true] at hc
      exact beq_iff_eq.mp hc.1.1
    . have e:k'=k:=congrArg Prod.snd m2
      rcases hk with z1 | z1
      . exact absurd (e.trans z1) (nocell _ m1)
      . exact e.trans z1
  . show n=y
    split at m2 <;> exact congrArg Prod.fst m2
 rcases h with h | h
 . exact key _ (.inl rfl) h
 . exact key _ (.inr rfl) h
end Dl
namespace Dl
open PySem PySem.Spec PyProof.Rows L2
end Dl
namespace Dl
open PySem PySem.Spec PyProof.Rows L2
def hR (i j:Int):Prop:=(Bd i/\Bd j) \/ L2.CMul i j
instance (i j:Int):Decidable (hR i j):=by unfold hR L2.CMul;exact inferInstance
theorem AJ {X:Cx}:OpR X (binaryOp .Mult) (rI hR fun i j=>.int (i*j)):=opI fun _ _ _ _ _ _ _ hc q=>by
 rcases hc with hc | hc
 . exact mul_int q (.of_bits hc.1.bits hc.2.bits)
 . exact mul_int q hc.ok
theorem kS {X:Cx} {a b:Expr} {fa fb:FD} {pos:Pos} (ha:PD X a fa) (hb:PD X b fb):PD X (.BinOp a .Mult b pos) (f2 (gI hR fun i j=>.int (i*j)) fa fb):=nW AJ (yk fun _ _ _=>.int _) ha hb
def AY:D->Option (List D)
 | .tup ds=>some ds
 | .lst ds=>some ds
 | .seq ds=>some ds
 | _=>none
def gIn (a b:D):Option D:=(AY b).bind fun ds=>if c9 a && ds.all c9 then some (.bl (ds.any fun y=>eqF y a)) else none
theorem jD {K:PySem.W.Frag} {H:Hp} {a:D} {x:V} (ha:toV a=some x):∀ {vs:List V} {ds:List D},Reps K H vs ds->ds.all c9=true->vs.all jX=true/\inV x vs=ds.any fun y=>eqF y a
 | _,_,.nil,_=>⟨rfl,rfl⟩
 | v :: vs,d :: ds,.cons r t,f=>by
  rw [List.all_cons,Bool.and_eq_true] at f
  obtain ⟨h1,h2⟩:=r.flat f.1
  obtain ⟨h3,h4⟩:=jD ha t f.2
  refine ⟨by rw [List.all_cons,h1,h3];rfl,?_⟩
  unfold inV at h4 ⊢
  rw [List.any_cons,List.any_cons,h4,nu h2 ha]
theorem DW {K:PySem.W.Frag}:R2D K (rIn K false) gIn:=by
 intro x y H Q a b d ra rb e k
 unfold gIn at e
 obtain ⟨ds,ed,e⟩:=Za.mp e
 split at e
 . rename_i hf
   rw [Bool.and_eq_true] at hf
   cases e
   obtain ⟨fx,tx⟩:=ra.flat hf.1
   cases rb with
   | @tup p vs _ hp rp =>
    cases ed
    obtain ⟨h1,h2⟩:=jD tx rp hf.2
    refine ⟨p,vs,rfl,.inr hp,fx,h1,?_⟩
    show Q (.bl (inV x vs)) H
    rw [h2]
    exact k _ H (Same.refl H) (.bl _)
   | @lst p vs _ hp rp =>
    cases ed
    obtain ⟨h1,h2⟩:=jD tx rp hf.2
    refine ⟨p,vs,rfl,.inl (SqL.of hp),fx,h1,?_⟩
    show Q (.bl (inV x vs)) H
    rw [h2]
    exact k _ H (Same.refl H) (.bl _)
   | @seq p vs _ hp rp =>
    cases ed
    obtain ⟨h1,h2⟩:=jD tx rp hf.2
    refine ⟨p,vs,rfl,.inl hp,fx,h1,?_⟩
    show Q (.bl (inV x vs)) H
    rw [h2]
    exact k _ H (Same.refl H) (.bl _)
   | _=>cases ed
 . cases e
theorem Cd {X:Cx} {a b:Expr} {fa fb:FD} {pos:Pos} (ha:PD X a fa) (hb:PD X b fb) (hm:behindInMarks .In b=false:=by with_unfolding_all rfl):PTD X (.Compare a [.In] [b] pos) (fT (f2 gIn fa fb)):=gB xk DW ha hb hm
def g8:List D->Option (List Bool)
 | []=>some []
 | .bl b :: ds=>(g8 ds).bind fun bs=>some (b :: bs)
 | _ :: _=>none
def Bt:List D->Option (List D)
 | [.lst ds]=>some ds
 | [.seq ds]=>some ds
 | _=>none
def Bb (as:List D):Option D:=(Bt as).bind fun ds=>(g8 ds).bind fun bs=>some (.bl (bs.all id))
def CZ (as:List D):Option D:=(Bt as).bind fun ds=>(g8 ds).bind fun bs=>some (.bl (bs.any id))
theorem j5 {K:PySem.W.Frag} {H:Hp}:∀ {vs:List V} {ds:List D} {bs:List Bool},Reps K H vs ds->g8 ds=some bs->vs=bs.map V.bl
 | _,_,_,.nil,h=>by cases h;rfl
 | v :: vs,d :: ds,bs,.cons r t,h=>by
  cases d with
  | bl b =>
   obtain ⟨cs,h1,h2⟩:=Za.mp (show ((g8 ds).bind fun bs=>some (b :: bs))=some bs from h)
   cases h2
   cases r
   rw [j5 t h1]
   rfl
  | _=>cases h
theorem j1:∀ {bs:List Bool} {us:List Value},Vals (bs.map V.bl) us->LSm.BoolsAre us bs
 | [],_,.nil=>.nil
 | b :: bs,u :: us,.cons r t=>by
  have e:u=.bool b:=r
  subst e
  exact .cons b (j1 t)
theorem zU {X:Cx} (hc:X.calm=true):iD X (.builtin "all") (fun xs H Q=>∃ p ys,∃ bs:List Bool,xs=[.ref p]/\SqL X.K H p ys/\ys=bs.map V.bl/\Q (.bl (bs.all id)) H):=by
 intro pins s σ H xs us Q I r h
 obtain ⟨p,ys,bs,rfl,hq,rfl,q⟩:=h
 obtain ⟨u,rfl,rx⟩:=lT r
 cases rx
 obtain ⟨its,r',pl,hz⟩:=I.list hq
 have hb:=j1 r'
 have hlt:p < s.heap.objs.size:=by obtain ⟨_,e,_⟩:=pl.isList;exact Heap.lt_size e
 refine call_all_walk (wpAny_pyIter_list pl.isList ?_)
 refine ⟨s.heap.objs.size,[s.heap.objs.size,p],[s.heap.objs.size],its.toArray.size,_,_,fun i=>(bs[i]?).getD true,rfl,Walks.list (A:=X.A.in1) (I.ok.hd hc) _ p (Nat.ne_of_lt hlt) its.toArray,
  ⟨⟨_,Heap.get?_push_size _ rfl,rfl,rfl⟩,pl.isList.push _⟩,fun i v s' Q' E' hP hQ=>?_,fun h' tk hk=>?_⟩
 . obtain ⟨b,e,rfl⟩:=hb.get i v (by simpa using hP)
   simp only [e,Option.getD_some] at hQ
   exact wpAny_truthy_bool hQ
 . have e:((List.range its.toArray.size).all fun i=>(bs[i]?).getD true)=bs.all id:=by
    rw [List.size_toArray,hb.length];exact LSm.range_all bs
   rw [e]
   exact ⟨.bl _,H,I.kept (t':=tk) (LSm.kept_iter hk),rfl,q⟩
theorem zT {X:Cx} (hc:X.calm=true):iD X (.builtin "any") (fun xs H Q=>∃ p ys,∃ bs:List Bool,xs=[.ref p]/\SqL X.K H p ys/\ys=bs.map V.bl/\Q (.bl (bs.any id)) H):=by
 intro pins s σ H xs us Q I r h
 obtain ⟨p,ys,bs,rfl,hq,rfl,q⟩:=h
 obtain ⟨u,rfl,rx⟩:=lT r
 cases rx
 obtain ⟨its,r',pl,hz⟩:=I.list hq
 have hb:=j1 r'
 have hlt:p < s.heap.objs.size:=by obtain ⟨_,e,_⟩:=pl.isList;exact Heap.lt_size e
 refine call_any_walk (wpAny_pyIter_list pl.isList ?_)
 refine ⟨s.heap.objs.size,[s.heap.objs.size,p],[s.heap.objs.size],its.toArray.size,_,_,fun i=>(bs[i]?).getD false,rfl,Walks.list (A:=X.A.in1) (I.ok.hd hc) _ p (Nat.ne_of_lt hlt) its.toArray,
  ⟨⟨_,Heap.get?_push_size _ rfl,rfl,rfl⟩,pl.isList.push _⟩,fun i v s' Q' E' hP hQ=>?_,fun h' tk hk=>?_⟩
 . obtain ⟨b,e,rfl⟩:=hb.get i v (by simpa using hP)
   simp only [e,Option.getD_some] at hQ
   exact wpAny_truthy_bool hQ
 . have e:((List.range its.toArray.size).any fun i=>(bs[i]?).getD false)=bs.any id:=by
    rw [List.size_toArray,hb.length];exact LSm.range_any bs
   rw [e]
   exact ⟨.bl _,H,I.kept (t':=tk) (LSm.kept_iter hk),rfl,q⟩
theorem ur {K:PySem.W.Frag} {H:Hp} {xs:List V} {as ds:List D} (r:Reps K H xs as) (e:Bt as=some ds):∃ p ys,xs=[.ref p]/\SqL K H p ys/\Reps K H ys ds:=by
 unfold Bt at e
 split at e
 . cases e
   obtain ⟨x,rfl,rx⟩:=gK r
   cases rx with
   | @lst p vs _ hp rp=>exact ⟨p,vs,rfl,SqL.of hp,rp⟩
 . cases e
   obtain ⟨x,rfl,rx⟩:=gK r
   cases rx with
   | @seq p vs _ hp rp=>exact ⟨p,vs,rfl,hp,rp⟩
 . cases e
theorem Dc {K:PySem.W.Frag}:jZ K (fun xs H Q=>∃ p ys,∃ bs:List Bool,xs=[.ref p]/\SqL K H p ys/\ys=bs.map V.bl/\Q (.bl (bs.all id)) H) Bb:=by
 intro xs H Q as d r e k
 unfold Bb at e
 obtain ⟨ds,e1,e⟩:=Za.mp e
 obtain ⟨bs,e2,e⟩:=Za.mp e
 cases e
 obtain ⟨p,ys,h1,h2,h3⟩:=ur r e1
 exact ⟨p,ys,bs,h1,h2,j5 h3 e2,k _ H (Same.refl H) (.bl _)⟩
theorem Db {K:PySem.W.Frag}:jZ K (fun xs H Q=>∃ p ys,∃ bs:List Bool,xs=[.ref p]/\SqL K H p ys/\ys=bs.map V.bl/\Q (.bl (bs.any id)) H) CZ:=by
 intro xs H Q as d r e k
 unfold CZ at e
 obtain ⟨ds,e1,e⟩:=Za.mp e
 obtain ⟨bs,e2,e⟩:=Za.mp e
 cases e
 obtain ⟨p,ys,h1,h2,h3⟩:=ur r e1
 exact ⟨p,ys,bs,h1,h2,j5 h3 e2,k _ H (Same.refl H) (.bl _)⟩
theorem xN:bootBuiltins "all" = some (.builtin "all"):=by decide +kernel
theorem xM:bootBuiltins "any" = some (.builtin "any"):=by decide +kernel
end Dl
namespace Dl
open PySem PySem.Spec PyProof.Rows L2
def asT:D->Option (List D)
 | .tup ds=>some ds
 | _=>none
theorem ya {K:PySem.W.Frag} {H H':Hp} (s:Same H H') {a:Addr} {vs:List V} (h:SqT K H a vs):SqT K H' a vs:=ku (ci s) h
theorem CT {K:PySem.W.Frag} {H1:Hp} {a:Addr} {vs:List V} {ds:List D} (hq:SqT K H1 a vs) (r:Reps K H1 vs ds):ItD K (Itt K a) H1 ds:=by
 intro i H2 s
 have hq2:=ya s hq
 have r2:=r.mono s
 have hl:=r2.length
 refine ⟨fun hi=>⟨⟨vs,vs[i],hq2,by simp [show i < vs.length by omega]⟩,fun x H' y=>?_⟩,fun hi=>⟨vs,hq2,by omega⟩⟩
 obtain ⟨e,y⟩:=y
 subst e
 obtain ⟨d,h1,h2⟩:=r2.getV (y vs hq2)
 exact ⟨Same.refl _,d,h1,h2⟩
theorem Ay {X:Cx} {tg l:Expr} {f:FD} (hl:PD X l f):PID X tg l (fun δ=>(f δ).bind asT):=uV (Ck hl) fun σ H R ⟨δ,ds,R0,e,k⟩=>by
 obtain ⟨d,ed,e⟩:=Za.mp e
 refine ⟨δ,d,R0,ed,fun v H1 s1 r1=>?_⟩
 cases r1 with
 | @tup p vs es hp rp=>cases e;exact ⟨p,rfl,⟨vs,hp⟩,k _ H1 s1 (CT hp rp)⟩
 | _=>cases e
end Dl
namespace Dl
open PySem PySem.Spec PyProof.Rows L2
def DR (K:PySem.W.Frag):R2:=fun x y H Q=>∃ l b xs zs,x=.ref l/\y=.ref b/\SqL K H l xs/\SqL K H b zs/\xs.length+zs.length<=sizeLine/\∀ p,H p=none->Q (.ref p) (upd H p (.lst (xs++zs)))
theorem AL {X:Cx}:OpR X (binaryOp .Add) (DR X.K):=by
 intro pins s σ H x y v u Q I rx ry h
 obtain ⟨l,b,xs,zs,rfl,rfl,h1,h2,hz,q⟩:=h
 cases rx
 cases ry
 obtain ⟨vs,r1,p1,_⟩:=I.list h1
 obtain ⟨ws,r2,p2,_⟩:=I.list h2
 obtain ⟨⟨k1,g1,a1,t1⟩,n1,o1,c1,_,i1⟩:=p1
 obtain ⟨⟨k2,g2,a2,t2⟩,n2,o2,c2,_,i2⟩:=p2
 simp only at c1 i1 c2 i2
 subst c1 i1 c2 i2
 have hl:=r1.length
 have hl2:=r2.length
 have ea:vs.toArray++ws.toArray=(vs++ws).toArray:=by simp
 refine concat_meets ⟨_,o1,rfl⟩ ⟨_,o2,rfl⟩ noFill_list_add seq_list_add PySem.F.slot_list_add
  PySem.F.entry_list_add (PySem.F.args_list_add_2 _ _)
  (list_addW l b vs.toArray ws.toArray n1 n2 g1 g2 t1 t2 (by rw [List.size_toArray,List.size_toArray];omega)) ⟨o1,o2,?_⟩
 rw [ea]
 exact ⟨.ref _,_,I.lnew (t':=s.toks) (r1.append r2) (by rw [Zh];omega),rfl,q _ I.fresh⟩
def wn (a b:D):Option D:=(asL a).bind fun xs=>(asL b).bind fun ys=>if xs.length+ys.length<=1000 then some (.lst (xs++ys)) else none
def ii (fa fb:FD):FM:=fun δ=>(f2 wn fa fb δ).bind fun d=>lL d δ
theorem wO {K:PySem.W.Frag} {H:Hp} {v:V} {d:D} {xs:List D} (r:Rep K H v d) (e:asL d=some xs):∃ p vs,v=.ref p/\SqL K H p vs/\Reps K H vs xs:=by
 cases r with
 | @lst p vs es hp rp=>cases e;exact ⟨p,vs,rfl,SqL.of hp,rp⟩
 | @seq p vs es hp rp=>cases e;exact ⟨p,vs,rfl,hp,rp⟩
 | _=>cases e
theorem mV {X:Cx} {a b:Expr} {fa fb:FD} {pos:Pos} (ha:PD X a fa) (hb:PD X b fb):PV X (.BinOp a .Add b pos) (ii fa fb):=imp (BF AL ha hb) fun σ H Q ⟨F,δ,As,d,δ',RA,q,k⟩=>by
 unfold ii at q
 obtain ⟨d0,e0,q⟩:=Za.mp q
 obtain ⟨ds,rfl,rfl,rfl,hi⟩:=on q
 unfold f2 at e0
 obtain ⟨x,ex,e0⟩:=Za.mp e0
 obtain ⟨y,ey,e0⟩:=Za.mp e0
 refine ⟨_,x,RA.toS,ex,fun v H1 s1 r1=>⟨_,y,RA.toS.mono s1,ey,fun w H2 s2 r2=>?_⟩⟩
 unfold wn at e0
 obtain ⟨xs,e1,e0⟩:=Za.mp e0
 obtain ⟨ys,e2,e0⟩:=Za.mp e0
 split at e0
 . rename_i hz
   cases e0
   obtain ⟨p,vs,rfl,h1,h2⟩:=wO (r1.mono s2) e1
   obtain ⟨q,ws,rfl,h3,h4⟩:=wO r2 e2
   exact ⟨p,q,vs,ws,rfl,rfl,h1,h3,by rw [h2.length,h4.length];exact eL hz,fun l hl=>rC RA (s1.trans s2) (h2.append h4) hi hl k⟩
 . cases e0
end Dl
namespace Dl
open PySem PySem.Spec PyProof.Rows L2
theorem RepA.side {K:PySem.W.Frag} {F H:Hp} {σ:L2.St} {δ:DS} {As:Nat->List Addr} (R:RepA K F H σ δ As) {a:Addr} {vs ws:List V} (h:H a=some (.lst vs)) (n:F a=none) (dj:∀ i,a ∉ As i):RepA K F (upd H a (.lst ws)) σ δ As:=by
 have ne:∀ x,x ≠ a->upd H a (.lst ws) x=H x:=fun x hx=>aD hx
 refine ⟨fun x u e=>?_,R.len,fun i d q=>?_,R.non,R.nd,R.dj⟩
 . have hx:x ≠ a:=fun z=>by rw [z,n] at e;cases e
   rw [ne x hx]
   exact R.fz x u e
 . obtain ⟨v,h1,h2⟩:=R.val i d q
   refine ⟨v,h1,h2.frame (fun x u e k=>?_) fun x m=>ne x fun z=>dj i (z ▸ m)⟩
   have hx:x ≠ a:=fun z=>by rw [z,h] at e;cases e;exact nomatch (show true=false from k)
   rw [ne x hx]
   exact e
end Dl
namespace Dl
open PySem PySem.Spec PyProof.Rows L2
structure CompG (X:Cx) (scope:Scope) (cl:List (Str×Addr)) (T N:List Str) (js:List Nat):Prop where
 clos:closureFor scope X.env=pure cl
 nocell:∀ y∈scope.names,y.2 ≠ .cell
 kind:scope.kind=.function
 names:∀ y∈scope.names,y.2=.local->scope.names.lookup y.1=some .local
 nd:N.Nodup
 len:N.length=T.length+js.length
 clx:∀ y,T.contains y=true->cl.lookup y=none
 cls:∀ y c,cl.lookup y=some c->X.env.cells.lookup y=some c
 has:∀ y,((relabel scope X.env).names.lookup y=some .cell \/ (relabel scope X.env).names.lookup y=some .free)->∃ c,cl.lookup y=some c
 fr:∀ i y j,N[T.length+i]? = some y->js[i]? = some j->X.N[j]? = some y/\X.env.scope.names.lookup y=some .cell/\(relabel scope X.env).names.lookup y=some .cell/\∀ c,X.env.cells.lookup y=some c->cl.lookup y=some c
abbrev dI (X:Cx) (scope:Scope) (cl:List (Str×Addr)) (T N:List Str) (C:Addr) (s₂:Shared) (H₂:Hp) (fp:List Addr) (pn:List (Addr×Obj)):Cx :=
 { X with env:=compEnvC scope cl C X.env,N:=N,s₀:=s₂,H₀:=H₂,outer:=X.stack,stack:=X.stack,ex:=fp,fn:=fun y=>T.contains y,calm:=true,pn:=pn,xe:=fun _ _=>False }
theorem kf {y:Str}:∀ {cl:List (Str×Addr)},y∈cl.map (·.1)->∃ c,cl.lookup y=some c
 | [],h=>by cases h
 | (z,c) :: cl,h=>by
  by_cases hy:y=z
  . subst hy
    exact ⟨c,by simp⟩
  . have q:(y == z)=false:=beq_eq_false_iff_ne.mpr hy
    rw [List.lookup_cons,q]
    refine kf ?_
    rcases Zq.mp h with e | e
    . exact absurd e hy
    . exact e
theorem CompG.of {X:Cx} {scope:Scope} {cl:List (Str×Addr)} {T Z Y:List Str} {js:List Nat} (clos:closureFor scope X.env=pure cl:=by rfl) (hY:cl.map (·.1)=Y:=by rfl) (nocell:∀ y∈scope.names,y.2 ≠ .cell:=by decide +kernel) (kind:scope.kind=.function:=by rfl)
 (names:∀ y∈scope.names,y.2=.local->scope.names.lookup y.1=some .local:=by decide +kernel) (nd:(T++Z).Nodup:=by decide +kernel) (len:Z.length=js.length:=by rfl) (dis:∀ y∈T,y ∉ Y:=by decide +kernel)
 (hcl:∀ p∈cl,X.env.cells.lookup p.1=some p.2) (hfr:∀ p∈scope.names,p.2=.free->p.1∈Y:=by decide +kernel) (hZ:∀ y∈Z,y∈Y:=by decide +kernel)
 (hN:∀ (i:Nat) y j,Z[i]? = some y->js[i]? = some j->X.N[j]? = some y/\X.env.scope.names.lookup y=some .cell/\(relabel scope X.env).names.lookup y=some .cell):CompG X scope cl T (T++Z) js where
 clos:=clos
 nocell:=nocell
 kind:=kind
 names:=names
 nd:=nd
 len:=by rw [Zh,len]
 clx:=fun y hy=>by
  cases q:cl.lookup y with
  | none=>rfl
  | some c =>
   have m:y∈Y:=by
    rw [<- hY]
    exact Zn.mpr ⟨_,PySem.mem_of_lookup q,rfl⟩
   exact absurd m (dis y (List.contains_iff_mem.mp hy))
 cls:=fun y c h=>hcl _ (PySem.mem_of_lookup h)
 has:=fun y h=>by
  obtain ⟨p,m,f,rfl⟩:=Be nocell h
  exact kf (by rw [hY];exact hfr p m f)
 fr:=fun i y j h1 h2=>by
  rw [List.getElem?_append_right (Nat.le_add_right _ _),Nat.add_sub_cancel_left] at h1
  obtain ⟨a,b,c⟩:=hN i y j h1 h2
  refine ⟨a,b,c,fun e he=>?_⟩
  obtain ⟨e',he'⟩:=kf (cl:=cl) (y:=y) (by rw [hY];exact hZ y (List.mem_of_getElem? h1))
  have:=hcl _ (PySem.mem_of_lookup he')
  dsimp only at this
  rw [he] at this
  cases this
  exact he'
def Dj (X:Cx) (ifs:List Expr) (f:FT):Prop:=∀ (pins:List (Addr×Obj)) (s:Shared) (σ:L2.St) (H:Hp) (Q:Bool->Hp->Prop),L2.Inv X pins σ H s->upT X.K f σ H Q ->
 wpAny (model X.prog X.w) X.A (forIn ifs true fun c r=>if r=true then do let ok <- isTrue c X.env (eval c X.env);pure (ForInStep.yield ok) else pure (ForInStep.yield r)) (TP X pins σ Q) X.xe s
theorem vM {X:Cx} {c:Expr} {f:FT} (h:PTD X c f):Dj X [c] f:=fun pins s σ H Q I q=>wpAny_tests_one (h pins s σ H Q I q)
def Bv (δ δ':DS):Prop:=δ'.length=δ.length/\∀ (i:Nat) d,δ[i]? = some (some d)->δ'[i]? = some (some d)
theorem RepS.weak {K:PySem.W.Frag} {H:Hp} {σ:L2.St} {δ δ':DS} (R:RepS K H σ δ') (w:Bv δ δ'):RepS K H σ δ:=⟨R.len.trans w.1,fun i d q=>R.val i d (w.2 i d q)⟩
def gn (n:Nat) (δ:DS):DS:=List.replicate n none++δ
theorem pH:∀ (is:List Nat) (ds:List D) {n:Nat} {δ0 δ:DS},(∀ i∈is,i < n)->Bv (gn n δ0) δ->Bv (gn n δ0) (sA is ds δ)
 | [],_,_,_,_,_,k=>k
 | _ :: _,[],_,_,_,_,k=>k
 | i :: is,d :: ds,n,δ0,δ,hi,k=>pH is ds (fun j m=>hi j (Zl _ m)) ⟨by rw [List.length_set];exact k.1,fun j e q=>by
  have hj:n<=j:=Nat.le_of_not_lt fun hlt=>by
   unfold gn at q
   rw [List.getElem?_append_left (by simpa using hlt),List.getElem?_replicate,if_pos hlt] at q
   cases q
  have:=hi i Zk
  rw [List.getElem?_set_ne (by omega)]
  exact k.2 j e q⟩
def z6 (n:Nat) (g:D->DS->Option DS):Prop:=∀ d δ0 δ1,g d (gn n δ0)=some δ1->Bv (gn n δ0) δ1
theorem qt {n:Nat} (i:Nat) (h:i < n):z6 n (k6 i):=fun d δ0 δ1 e=>by
 cases e
 exact pH [i] [d] (fun j m=>by simp at m;subst m;exact h) ⟨rfl,fun _ _ q=>q⟩
def iM (f:D->Option (Option D)):List D->Option (List D)
 | []=>some []
 | d :: ds=>(f d).bind fun o=>(iM f ds).bind fun xs=>some (o.toList++xs)
theorem tK {f:D->Option (Option D)}:∀ {ds es:List D} {xs ys:List D},iM f ds=some xs->iM f es=some ys->iM f (ds++es)=some (xs++ys)
 | [],es,xs,ys,h,g=>by cases h;exact g
 | d :: ds,es,xs,ys,h,g=>by
  obtain ⟨o,eo,h⟩:=Za.mp (show ((f d).bind _)=some xs from h)
  obtain ⟨zs,ez,h⟩:=Za.mp h
  cases h
  show ((f d).bind _)=_
  rw [eo]
  show ((iM f (ds++es)).bind _)=_
  rw [tK ez g,List.append_assoc]
  rfl
theorem pZ {f:D->Option (Option D)}:∀ {ds xs:List D},iM f ds=some xs->∀ i,∃ ys,iM f (ds.take i)=some ys/\ys.length<=xs.length
 | [],xs,h,i=>⟨[],by simp [iM],Nat.zero_le _⟩
 | d :: ds,xs,h,0=>⟨[],rfl,Nat.zero_le _⟩
 | d :: ds,xs,h,i+1=>by
  obtain ⟨o,eo,h⟩:=Za.mp (show ((f d).bind _)=some xs from h)
  obtain ⟨zs,ez,h⟩:=Za.mp h
  cases h
  obtain ⟨ys,e,l⟩:=pZ ez i
  refine ⟨o.toList++ys,?_,by simp;exact l⟩
  show ((f d).bind _)=_
  rw [eo]
  show ((iM f (ds.take i)).bind _)=_
  rw [e]
  rfl
theorem vV {f:D->Option (Option D)}:∀ {ds xs:List D},iM f ds=some xs->∀ (i:Nat) d,ds[i]? = some d->∃ o,f d=some o
 | [],_,_,i,d,e=>by simp at e
 | d :: ds,xs,h,0,d',e=>by
  obtain ⟨o,eo,h⟩:=Za.mp (show ((f d).bind _)=some xs from h)
  simp at e
  subst e
  exact ⟨o,eo⟩
 | d :: ds,xs,h,i+1,d',e=>by
  obtain ⟨o,eo,h⟩:=Za.mp (show ((f d).bind _)=some xs from h)
  obtain ⟨zs,ez,h⟩:=Za.mp h
  exact vV ez i d' (by simpa using e)
def gF (n:Nat) (js:List Nat) (g:D->DS->Option DS) (fc:FT) (felt:FM) (δ:DS) (d:D):Option (Option D):=(g d (gn n (bv js δ))).bind fun δ1=>(fc δ1).bind fun b=>if b then (ownOf felt (shO δ1)).map some else some none
def nF (src:FA) (n:Nat) (js:List Nat) (g:D->DS->Option DS) (fc:FT) (felt:FM):FM:=fun δ=>(src δ).bind fun ds=>(iM (gF n js g fc felt δ) ds).bind fun xs=>if xs.length<=1000 then some (.lst xs,δ) else none
theorem oR {prog:Program} {w:World} {A:Around} {R:Result->Shared->Prop} {s:Shared} {elt target iter:Expr} {ifs:List Expr} {scope:Scope} {pos:Pos} {it acc:Value} {env:Env} (J:Nat->Shared->Prop)
 (turn:∀ n s,J n s->wpAny (model prog w) A (pyNext it) (fun r s₁=>match r with
  | none=>R (.ok .next) s₁
  | some v=>wpAny (model prog w) A (letOwnedTupleGo target it v) (fun _ s₂=>wpAny (model prog w) A (assign target env v) (fun _ s₃ =>
   wpAny (model prog w) A (forIn ifs true fun c r=>if r=true then do let ok <- isTrue c env (eval c env);pure (ForInStep.yield ok) else pure (ForInStep.yield r)) (fun ok sT =>
   if ok=true then wpAny (model prog w) A (eval elt env) (fun y s₄ =>
   wpAny (model prog w) A (call (.builtin "list.append") [acc,y]) (fun _ s₅=>∃ m,m < n/\J m s₅) (fun _ _=>False) s₄) (fun _ _=>False) sT else ∃ m,m < n/\J m sT) (fun _ _=>False) s₃) (fun _ _=>False) s₂) (fun _ _=>False) s₁) (fun _ _=>False) s)
 (n:Nat) (h:J n s):codeAny (model prog w) A (.compLoop (.ListComp elt [⟨target,iter,ifs,0⟩] scope pos) 0 it acc env) R s:=by
 refine codeAny_loop rfl J (fun n s j=>wpAny_noted (m:=compTurn (.ListComp elt [⟨target,iter,ifs,0⟩] scope pos) 0 it acc env) (compTurn_list elt target iter ifs scope pos it acc env▸wpAny_bind (wpAny_standAt (bindF (turn n s j) fun r _ q=>?_)))) n h
 cases r with
 | none=>exact wpAny_pure q
 | some v=>
  exact bindF q fun _ _ q=>bindF q fun _ _ q=>bindF q fun b _ q=>by
   cases b with
   | false=>exact wpAny_pure ⟨rfl,q⟩
   | true=>exact wpAny_bind (bindF q fun _ _ q=>bindF q fun _ _ q=>wpAny_pure (wpAny_pure ⟨rfl,q⟩))
section
variable {X:Cx} {pins:List (Addr×Obj)} {σ:L2.St} {H₂:Hp} {s₂:Shared} {scope:Scope} {cl:List (Str×Addr)} {T N:List Str} {js:List Nat} {C:Addr} {fp:List Addr}
theorem va (I:L2.Inv X pins σ H₂ s₂) (hcm:X.calm=true) (O:CompG X scope cl T N js) (hC:s₂.heap.objs.size<=C) (hf:∀ b∈fp,jN X pins H₂ b) (ho:∀ b∈fp,∃ o,s₂.heap.get? b=some o):(dI X scope cl T N C s₂ H₂ fp (X.pn++pins)).Ok where
 mod:=I.ok.mod
 kind:=O.kind
 glob:=I.ok.glob
 blt:=I.ok.blt
 above:=hC
 inj:=fun y z c h1 h2=>I.ok.inj y z c (O.cls y c h1) (O.cls z c h2)
 has:=fun y h=>O.has y h
 cab:=fun y c h1 h2=>by
  have:cl.lookup y=some c:=h2
  rw [O.clx y h1] at this
  cases this
 hd:=fun _=>I.ok.hd hcm
 frames:=I.ok.frames
 stk:=.inl rfl
 exf:=fun b hb=>by
  obtain ⟨o,e⟩:=ho b hb
  refine ⟨Nat.ne_of_lt (Nat.lt_of_lt_of_le (Heap.lt_size e) hC),fun y c h z=>?_⟩
  exact (hf b hb).2.2.2.2.1 y c (O.cls y c h) z
 bs:=I.bs
 bsz:=Nat.le_trans I.ok.bsz I.sz
 noex:=fun b o e hb=>by
  rcases (hf b hb).2.2.2.1 with z | z
  . exact I.ok.noex b o e z
  . exact absurd (Nat.lt_of_lt_of_le (Heap.lt_size e) (Nat.le_trans I.ok.bsz z)) (Nat.lt_irrefl _)
 exfs:=fun b hb z=>by
  rcases Zq.mp (I.stkSub b z) with e | e
  . exact (hf b hb).2.1 e
  . exact (hf b hb).2.2.1 e
 funs:=I.stack
 frf:=I.stkFree
theorem ui {h₁:Heap} {m:Str->Option Value} {tk:Nat} (I:L2.Inv X pins σ H₂ s₂) (hcm:X.calm=true) (O:CompG X scope cl T N js) (hC:s₂.heap.objs.size<=C) (hf:∀ b∈fp,jN X pins H₂ b) (ho:∀ b∈fp,∃ o,s₂.heap.get? b=some o)
 (old:∀ b o,s₂.heap.get? b=some o->h₁.get? b=some o) (hns:h₁.Ns C m) (hl:σ.length=X.N.length):L2.Inv (dI X scope cl T N C s₂ H₂ fp (X.pn++pins)) [] (List.replicate T.length none++d5 js σ) H₂ { s₂ with heap:=h₁,toks:=tk } where
 ok:=va I hcm O hC hf ho
 os:=rfl
 bare:=I.bare
 base:=Un.kept old
 loc:=by
  refine ⟨m,hns,fun i y v h1 h2 h3=>?_⟩
  by_cases hi:i < T.length
  . rw [List.getElem?_append_left (by simpa using hi),List.getElem?_replicate,if_pos hi] at h2
    cases h2
  . obtain ⟨i,rfl⟩:∃ k,i=T.length+k:=⟨i - T.length,by omega⟩
    have h2':(d5 js σ)[i]? = some (some v):=by
     rw [List.getElem?_append_right (by simp)] at h2
     simpa using h2
    unfold d5 at h2'
    rw [List.getElem?_map] at h2'
    obtain ⟨j,hj,h4⟩:=Zb.mp h2'
    have h5:σ[j]? = some (some v):=by
     cases q:σ[j]? with
     | none=>rw [q] at h4;cases h4
     | some o=>rw [q] at h4;exact congrArg some h4
    obtain ⟨f1,f2,f3,f4⟩:=O.fr i y j h1 hj
    obtain ⟨m',hn',hl'⟩:=I.loc
    obtain ⟨u,ru,lk⟩:=hl' j y v f1 h5 (.inr (.inl f2))
    refine ⟨u,ru,?_⟩
    rcases lk with ⟨k1,_⟩ | ⟨_,c,hc,o,hco,hcd⟩
    . have:X.env.scope.names.lookup y=some .local:=k1
      rw [f2] at this
      cases this
    . exact .inr ⟨.inl f3,c,f4 c hc,o,old c o hco,hcd⟩
 cell:=fun y c e=>by
  obtain ⟨v,o,h1,h2⟩:=I.cell y c (O.cls y c e)
  exact ⟨v,o,old c o h1,h2⟩
 free:=I.hok.fresh hC
 freeC:=fun y c e=>I.freeC y c (O.cls y c e)
 pin:=fun p hp=>by
  have hp':p∈X.pn++pins:=by simpa using hp
  obtain ⟨h1,h2,h3,h4,h5⟩:=I.pin p hp'
  refine ⟨old _ _ h1,h2,Nat.ne_of_lt (Nat.lt_of_lt_of_le (Heap.lt_size h1) hC),fun z=>?_,h5⟩
  rcases Zq.mp (I.stkSub p.1 z) with e | e
  . exact h3 e
  . exact h4 e
 hok:=I.hok.kept old
 len:=by
  show (List.replicate T.length none++d5 js σ).length=N.length
  rw [O.len]
  simp [d5]
theorem uB {K:PySem.W.Frag} {H:Hp} {σ:L2.St} {δ:DS} (R:RepS K H σ δ) (n:Nat) (js:List Nat):RepS K H (List.replicate n none++d5 js σ) (gn n (bv js δ)):=by
 refine ⟨by simp [d5,bv,gn],fun i d q=>?_⟩
 unfold gn at q
 by_cases hi:i < n
 . rw [List.getElem?_append_left (by simpa using hi),List.getElem?_replicate,if_pos hi] at q
   cases q
 . obtain ⟨k,rfl⟩:∃ k,i=n+k:=⟨i - n,by omega⟩
   rw [List.getElem?_append_right (by simp)] at q ⊢
   have q':(none :: bv js δ)[k+1]? = some (some d):=by simpa using q
   obtain ⟨v,h1,h2⟩:=(ls R js).val (k+1) d q'
   exact ⟨v,by simpa using h1,h2⟩
theorem uj {elt tg iter:Expr} {ifs:List Expr} {pos:Pos} {it:Addr} {tn:Nat->Heap->Prop} {J:It} {ds xs:List D} {δ:DS} {g:D->DS->Option DS} {fc:FT} {felt:FM} {RR:Value->Addr->Result->Shared->Prop} {E:Value->Shared->Prop} (I:L2.Inv X pins σ H₂ s₂) (hcm:X.calm=true) (O:CompG X scope cl T N js)
 (TT:ut X.prog X.w X.K tg J fp it tn) (st:tn 0 s₂.heap) (hf:∀ b∈fp,jN X pins H₂ b) (itd:ItD X.K J H₂ ds) (R:RepS X.K H₂ σ δ) (hg:∀ C s₂ H₂ fp pn,PGD (dI X scope cl T N C s₂ H₂ fp pn) tg g) (fl:z6 T.length g) (hc:∀ C s₂ H₂ fp pn,Dj (dI X scope cl T N C s₂ H₂ fp pn) ifs fc) (he:∀ C s₂ H₂ fp pn,PV (dI X scope cl T N C s₂ H₂ fp pn) elt felt)
 (hm:iM (gF T.length js g fc felt δ) ds=some xs) (hz:xs.length<=1000)
 (hRR:∀ (D C:Addr) (s':Shared) (Hend:Hp) (vs:List V),s₂.heap.objs.size<=C->L2.Inv X pins σ Hend s'->Same H₂ Hend->Hend D=some (.lst vs)->(∃ Acc,RepOs X.K H₂ Hend vs xs Acc/\Acc.Nodup/\D ∉ Acc/\H₂ D=none)->(∃ m,s'.heap.Ns C m)->Hend C=none->RR (.ref D) C (.ok .next) s') :
 wpAny (model X.prog X.w) X.A (newList []) (fun acc s₃=>wpAny (model X.prog X.w) X.A (newFunctionEnv scope X.env.globals cl [] X.env.qual none .none (some X.env)) (fun cenv s₄ =>
  codeAny (model X.prog X.w) X.A (.compStart (.ListComp elt [⟨tg,iter,ifs,0⟩] scope pos) 0 (.ref it) acc { cenv with scope:=relabel scope X.env }) (RR acc cenv.locals) s₄) E s₃) E s₂:=by
 have objs:=TT.obj 0 s₂.heap st
 have objs':∀ b∈fp,∃ o,s₂.heap.get? b=some o:=fun b hb=>let ⟨o,h,_⟩:=objs b hb;⟨o,h⟩
 refine wpAny_newObj_type (wpAny_newFunctionEnv O.nocell (by intro y hy;simp at hy) (fun h₁ hns₁ hsb₁=>?_) O.kind)
 dsimp only at hns₁ hsb₁ ⊢
 generalize hP:s₂.heap.push { cls:=.type "list",dict:=none,data:=.seq ([]:List Value).toArray }=P2 at hns₁ hsb₁ ⊢
 have hC:P2.objs.size=s₂.heap.objs.size+1:=by rw [<- hP,Heap.size_push]
 generalize hCC:P2.objs.size=C at *
 have hCle:s₂.heap.objs.size<=C:=by omega
 have hDle:s₂.heap.objs.size<=s₂.heap.objs.size:=by omega
 have hDC:s₂.heap.objs.size ≠ C:=by omega
 have old:∀ b o,s₂.heap.get? b=some o->h₁.get? b=some o:=fun b o e=>by
  refine hsb₁.extBut b o (Nat.ne_of_lt (Nat.lt_of_lt_of_le (Heap.lt_size e) hCle)) (Heap.get?_push_of_some _ ?_)
  rw [<- hP]
  exact Heap.get?_push_of_some _ e
 have hacc:h₁.get? s₂.heap.objs.size=some { cls:=.type "list",data:=.seq ([]:List Value).toArray }:=by
  refine hsb₁.extBut s₂.heap.objs.size _ hDC (Heap.get?_push_of_some _ ?_)
  rw [<- hP]
  exact Heap.get?_push_size _ rfl
 have I0:=fun tk=>ui (C:=C) (tk:=tk) I hcm O hCle hf objs' old hns₁ I.len
 have dstk:s₂.heap.objs.size ∉ frs X.stack:=jm I hDle
 have fne:∀ b∈fp,b ≠ s₂.heap.objs.size:=fun b hb e=>by
  obtain ⟨o,h⟩:=objs' b hb
  exact absurd (Heap.lt_size h) (by rw [e];exact Nat.lt_irrefl _)
 have cne:∀ y c,cl.lookup y=some c->c ≠ s₂.heap.objs.size:=fun y c e z=>by
  obtain ⟨v,o,h1,_⟩:=I.cell y c (O.cls y c e)
  exact absurd (Heap.lt_size h1) (by rw [z];exact Nat.lt_irrefl _)
 have pne:∀ p∈X.pn++pins,p.1 ≠ s₂.heap.objs.size:=fun p hp e=>by
  exact absurd (Heap.lt_size (I.pin p hp).1) (by rw [e];exact Nat.lt_irrefl _)
 have stat:∀ {H':Hp} {pl:List (Addr×Obj)},(∀ b∈fp,H' b=none)->(∀ p∈pl,∀ b∈fp,p.1 ≠ b)->∀ b∈fp,jN (dI X scope cl T N C s₂ H₂ fp (X.pn++pins)) pl H' b:=fun {H' pl} hn hpl b hb=>by
  obtain ⟨o,h⟩:=objs' b hb
  refine ⟨hn b hb,Nat.ne_of_lt (Nat.lt_of_lt_of_le (Heap.lt_size h) hCle),fun z=>?_,.inl hb,fun y c e=>(hf b hb).2.2.2.2.1 y c (O.cls y c e),fun p hp=>?_⟩
  . rcases Zq.mp (I.stkSub b z) with e | e
    . exact (hf b hb).2.1 e
    . exact (hf b hb).2.2.1 e
  . rcases Zp.mp hp with q | q
    . exact (hf b hb).2.2.2.2.2 p q
    . exact hpl p q b hb
 have loop:∀ s₃:Shared,s₃={ s₂ with heap:=h₁,toks:=s₂.toks+([]:List (Str×Value)).length } ->
  codeAny (model X.prog X.w) X.A (.compLoop (.ListComp elt [⟨tg,iter,ifs,0⟩] scope pos) 0 (.ref it) (.ref s₂.heap.objs.size) (compEnvC scope cl C X.env)) (RR (.ref s₂.heap.objs.size) C) s₃:=by
  rintro s₃ rfl
  refine oR (fun n s=>∃ (i:Nat) (σ':L2.St) (H':Hp) (vs:List V) (ys:List D),n=ds.length - i/\i<=ds.length/\L2.Inv (dI X scope cl T N C s₂ H₂ fp (X.pn++pins)) [] σ' H' s/\Same H₂ H'/\RepS X.K H' σ' (gn T.length (bv js δ))/\tn i s.heap/\(∀ b∈fp,H' b=none) /\
   (∃ (its:List Value) (k:Nat),Vals vs its/\s.heap.get? s₂.heap.objs.size=some { cls:=.type "list",data:=.seq its.toArray k })/\H' s₂.heap.objs.size=none/\(∃ Acc,RepOs X.K H₂ H' vs ys Acc/\Acc.Nodup)/\iM (gF T.length js g fc felt δ) (ds.take i)=some ys/\ys.length<=1000) ?_ ds.length
   ⟨0,_,H₂,[],[],rfl,Nat.zero_le _,I0 _,Same.refl _,uB R _ js,TT.keep 0 _ _ st (fun b hb o e=>old b o e),fun b hb=>(hf b hb).1,⟨[],0,.nil,hacc⟩,I.hok.fresh hDle,⟨[],.nil,List.nodup_nil⟩,rfl,Nat.zero_le _⟩
  rintro n s ⟨i,σ',H',vs,ys,rfl,hi,I',sm,R',st',fr',⟨its,k,rv,hD⟩,fD,⟨Acc,rr,nda⟩,hys,hyl⟩
  by_cases hlt:i < ds.length
  . -- one more
    obtain ⟨go,yl⟩:=(itd i H' sm).1 hlt
    have hd0:ds[i]? = some ds[i]:=by simp [hlt]
    obtain ⟨oe,ge⟩:=vV hm i _ hd0
    have hys1:iM (gF T.length js g fc felt δ) (ds.take (i+1))=some (ys++oe.toList):=by
     have e8:ds.take (i+1)=ds.take i++[ds[i]]:=by rw [List.take_add_one,hd0];rfl
     rw [e8]
     refine tK hys ?_
     show ((gF T.length js g fc felt δ ds[i]).bind _)=_
     rw [ge]
     simp [iM]
    have hyl1:(ys++oe.toList).length<=1000:=by
     obtain ⟨zs,ez,l⟩:=pZ hm (i+1)
     rw [hys1] at ez
     cases ez
     omega
    unfold gF at ge
    obtain ⟨δ1,eδ1,ge⟩:=Za.mp ge
    obtain ⟨ok,eok,ge⟩:=Za.mp ge
    have kp:=fl _ _ _ eδ1
    have I1:L2.Inv (dI X scope cl T N C s₂ H₂ fp (X.pn++pins)) [(s₂.heap.objs.size,{ cls:=.type "list",data:=.seq its.toArray k })] σ' H' s:=I'.pins_of fun p hp=>by
     have:p=(s₂.heap.objs.size,{ cls:=.type "list",data:=.seq its.toArray k }):=by simpa using hp
     subst this
     exact ⟨hD,fD,hDC,dstk,fun v z=>by cases z⟩
    refine thn (TT.item (dI X scope cl T N C s₂ H₂ fp (X.pn++pins)) rfl rfl rfl rfl i _ s σ' H' (fun _ _=>False) I1 (stat fr' fun p hp b hb=>by
     have:p=(s₂.heap.objs.size,{ cls:=.type "list",data:=.seq its.toArray k }):=by simpa using hp
     subst this
     exact (fne b hb).symm) st' go) fun r s1 ⟨u,hr,h4⟩=>?_
    subst hr
    refine thn h4 fun _ s2 ⟨y,H'',I2,ru,yy,st2,fr2⟩=>?_
    obtain ⟨s3,d,hd,rd⟩:=yl y H'' yy
    have hd':d=ds[i]:=by rw [hd0] at hd;exact (Option.some.inj hd).symm
    subst hd'
    have I3:=I2.pinned (stat fr2 fun p hp b hb=>by
     have:p=(s₂.heap.objs.size,{ cls:=.type "list",data:=.seq its.toArray k }):=by simpa using hp
     subst this
     exact (fne b hb).symm) (TT.obj _ _ st2)
    refine thn (hg C s₂ H₂ fp (X.pn++pins) _ s2 σ' H'' y u (fun σ4 H4=>RepS X.K H4 σ4 δ1/\H4=H'') I3 ru ⟨_,_,δ1,rd,R'.mono s3,eδ1,fun σ4 r4=>⟨r4,rfl⟩⟩) fun _ s4 ⟨σ4,H4,I4,R4,e2⟩=>?_
    subst e2
    refine thn (hc C s₂ H₂ fp (X.pn++pins) _ s4 σ4 H4 (fun b H5=>b=ok/\Same H4 H5) I4 ⟨δ1,ok,R4,eok,fun H5 s5=>⟨rfl,s5⟩⟩) fun okv sT ⟨HT,IT,hok',sT4⟩=>?_
    have hDT:sT.heap.get? s₂.heap.objs.size=some { cls:=.type "list",data:=.seq its.toArray k }:=(IT.pin (s₂.heap.objs.size,{ cls:=.type "list",data:=.seq its.toArray k }) (by simp)).1
    have fDT:HT s₂.heap.objs.size=none:=(IT.pin (s₂.heap.objs.size,{ cls:=.type "list",data:=.seq its.toArray k }) (by simp)).2.1
    have RT:RepS X.K HT σ4 δ1:=R4.mono sT4
    have lz:its.length<=1000:=by
     have:=rv.length
     have:=rr.len
     omega
    cases ok with
    | false =>
     cases ge
     rw [hok',if_neg (by decide)]
     have pf:∀ b∈fp,∀ ob,s2.heap.get? b=some ob->sT.heap.get? b=some ob/\HT b=none:=fun b hb ob hob=>by
      have:=IT.pin (b,ob) (List.mem_append_right _ (List.mem_append_right _ (fS hb hob)))
      exact ⟨this.1,this.2.1⟩
     simp only [Option.toList_none,List.append_nil] at hys1
     refine ⟨ds.length - (i+1),by omega,i+1,σ4,HT,vs,ys,rfl,hlt,IT.pins_of (pins':=[]) (fun p hp=>by simp at hp),(sm.trans s3).trans sT4,RT.weak kp,?_,?_,⟨its,k,rv,hDT⟩,fDT,?_,hys1,hyl⟩
     . refine TT.keep _ _ _ st2 fun b hb ob hob=>(pf b hb ob hob).1
     . intro b hb
       obtain ⟨ob,hob,_⟩:=TT.obj _ _ st2 b hb
       exact (pf b hb ob hob).2
     . refine ⟨Acc,rr.frame (ci (s3.trans sT4)) (fun a m=>?_),nda⟩
       obtain ⟨⟨ws,e⟩,_⟩:=rr.dom a m
       rw [e];exact (s3.trans sT4) a _ e
    | true =>
     rw [hok',if_pos rfl]
     obtain ⟨e,ge2,eo⟩:=Zb.mp (show (ownOf felt (shO δ1)).map some=some oe from ge)
     subst eo
     refine thn (he C s₂ H₂ fp (X.pn++pins) _ sT σ4 HT (fun v H5=>Same HT H5/\∃ A,RepO X.K H₂ H5 v e A/\A.Nodup/\∀ a∈A,HT a=none) IT (BI ge2 RT ((sm.trans s3).trans sT4))) fun wv s5 ⟨v,H5,I5,rw5,s45,A5,r5,nd5,fr5⟩=>?_
     have hD5:s5.heap.get? s₂.heap.objs.size=some { cls:=.type "list",data:=.seq its.toArray k }:=(I5.pin (s₂.heap.objs.size,{ cls:=.type "list",data:=.seq its.toArray k }) (by simp)).1
     have fD5:H5 s₂.heap.objs.size=none:=(I5.pin (s₂.heap.objs.size,{ cls:=.type "list",data:=.seq its.toArray k }) (by simp)).2.1
     have pf:∀ b∈fp,∀ ob,s2.heap.get? b=some ob->s5.heap.get? b=some ob/\H5 b=none:=fun b hb ob hob=>by
      have:=I5.pin (b,ob) (List.mem_append_right _ (List.mem_append_right _ (fS hb hob)))
      exact ⟨this.1,this.2.1⟩
     refine call_meets F.slot_list_append ⟨_,hD5,rfl⟩ F.entry_list_append (F.args_list_append_2 _ _) (PySem.list_append s₂.heap.objs.size its.toArray k wv (by rw [List.size_toArray];exact eL lz)) ⟨hD5,?_⟩
     have q:=PySem.IsL.update hD5 (fun a=>a.push wv)
     have I6:L2.Inv (dI X scope cl T N C s₂ H₂ fp (X.pn++pins)) [] σ4 H5 { s5 with heap:=s5.heap.update s₂.heap.objs.size (Obj.mapSeq fun a=>a.push wv),toks:=s5.toks } :=
      (I5.pins_of (pins':=[]) fun p hp=>by simp at hp).turned (it:=s₂.heap.objs.size) (t':=s5.toks) (fun b ob hb hu=>(Heap.get?_update_other s5.heap _ (Ne.symm hb)).trans hu) fD5 hDC (.inr hDle) cne (fun p hp=>by
       rcases Zp.mp hp with z | z
       . exact pne p z
       . simp at z)
     refine ⟨ds.length - (i+1),by omega,i+1,σ4,H5,vs++[v],ys++[e],rfl,hlt,I6,((sm.trans s3).trans sT4).trans s45,(RT.mono s45).weak kp,?_,?_,?_,fD5,?_,hys1,hyl1⟩
     . refine TT.keep _ _ _ st2 fun b hb ob hob=>?_
       exact (Heap.get?_update_other s5.heap _ (Ne.symm (fne b hb))).trans (pf b hb ob hob).1
     . intro b hb
       obtain ⟨ob,hob,_⟩:=TT.obj _ _ st2 b hb
       exact (pf b hb ob hob).2
     . have hf7:its.toArray.push wv=(its++[wv]).toArray:=by simp
       rw [hf7] at q
       exact ⟨its++[wv],_,rv.append (.cons rw5 .nil),q⟩
     . exact wQ rr nda ((s3.trans sT4).trans s45) r5 nd5 fun a m=>cL (s3.trans sT4) (fr5 a m)
  . -- the end
    have hie:i=ds.length:=by omega
    refine thn (TT.done (dI X scope cl T N C s₂ H₂ fp (X.pn++pins)) rfl rfl rfl rfl i [(s₂.heap.objs.size,{ cls:=.type "list",data:=.seq its.toArray k })] s σ' H' (fun _ _=>False) (I'.pins_of fun p hp=>by
     have:p=(s₂.heap.objs.size,{ cls:=.type "list",data:=.seq its.toArray k }):=by simpa using hp
     subst this
     exact ⟨hD,fD,hDC,dstk,fun v z=>by cases z⟩) (stat fr' fun p hp b hb=>by
     have:p=(s₂.heap.objs.size,{ cls:=.type "list",data:=.seq its.toArray k }):=by simpa using hp
     subst this
     exact (fne b hb).symm) st' ((itd i H' sm).2 (by omega))) fun r s1 ⟨hr,I8⟩=>?_
    subst hr
    have hD8:s1.heap.get? s₂.heap.objs.size=some { cls:=.type "list",data:=.seq its.toArray k }:=(I8.pin (s₂.heap.objs.size,{ cls:=.type "list",data:=.seq its.toArray k }) (by simp)).1
    have hxs:ds.take i=ds:=List.take_of_length_le (by omega)
    rw [hxs,hm] at hys
    cases hys
    have sn:=dM fD (.lst vs)
    have dn:∀ b,∀ u,H' b=some u->b ≠ s₂.heap.objs.size:=fun b u z=>dq z fD
    have un:Un (frs X.stack) fp H₂ (upd H' s₂.heap.objs.size (.lst vs)) s₂.heap s1.heap:=by
     have b0:=I8.base
     refine ⟨fun b ob e n1 n2 n3=>b0.keep b ob e n1 n2 n3,fun b ob e n1 n2 n3=>b0.slot b ob e n1 n2 n3,fun b ob e n1 n3=>?_,fun b ob e n3=>b0.there b ob e n3,fun b zs e=>?_,fun b ob u e=>?_,fun b ps e=>?_⟩
     . rw [aD (Nat.ne_of_lt (Heap.lt_size e))]
       exact b0.free b ob e n1 n3
     . have z:=b0.tups b zs e
       rw [aD (dn _ _ z)]
       exact z
     . have z:=b0.frzs b ob u e
       rw [aD (dn _ _ z)]
       exact z
     . obtain ⟨more,z⟩:=b0.tbls b ps e
       exact ⟨more,by rw [aD (dn _ _ z)];exact z⟩
    have hok:HOk X.prog X.w (upd H' s₂.heap.objs.size (.lst vs)) s1.heap:=fun b u z=>by
     by_cases hb:b=s₂.heap.objs.size
     . rw [hb] at z ⊢
       rw [bc] at z
       cases z
       exact ⟨eL (by have:=rr.len;omega),its,k,rv,hD8⟩
     . rw [aD hb] at z
       exact (I8.hok b u z).stay (fun _ _ _ q=>q) (fun c q=>by rw [aD (dn _ _ q)];exact q) fun c ys q=>by rw [aD (dn _ _ q)];exact q
    have IX:L2.Inv X pins σ (upd H' s₂.heap.objs.size (.lst vs)) s1:=I.call' I8.os un hok I8.bare fun b hb=>⟨(hf b hb).2.2.2.1,(hf b hb).2.1,(hf b hb).2.2.2.2.1,(hf b hb).2.2.2.2.2⟩
    obtain ⟨m8,hn8,_⟩:=I8.loc
    refine hRR s₂.heap.objs.size C s1 _ vs hCle IX (sm.trans sn) bc ⟨Acc,rr.frame (ci sn) (fun a m=>by
     obtain ⟨⟨ws,e⟩,_⟩:=rr.dom a m
     rw [e];exact sn a _ e),nda,fun m=>(by
     obtain ⟨⟨ws,e⟩,_⟩:=rr.dom _ m
     rw [fD] at e;cases e),I.hok.fresh hDle⟩ ⟨m8,hn8⟩ ?_
    rw [aD (Ne.symm hDC)]
    exact I8.free
 exact codeAny_compStart_list (loop _ rfl) (TT.self X.A 0 _ _ _ (TT.keep 0 _ _ st (fun b hb o e=>old b o e)) (loop _ rfl))
theorem lK {n:Nat} {js:List Nat} {g:D->DS->Option DS} {fc:FT} {f:FM} {δ:DS}:∀ {ds xs:List D},iM (gF n js g fc f δ) ds=some xs->hX xs=true
 | [],xs,h=>by cases h;rfl
 | d :: ds,xs,h=>by
  obtain ⟨o,eo,h⟩:=Za.mp (show ((gF n js g fc f δ d).bind _)=some xs from h)
  obtain ⟨ys,ey,h⟩:=Za.mp h
  cases h
  unfold gF at eo
  obtain ⟨δ1,_,eo⟩:=Za.mp eo
  obtain ⟨b,_,eo⟩:=Za.mp eo
  cases b with
  | false=>cases eo;exact lK ey
  | true =>
   obtain ⟨e,ge,eo⟩:=Zb.mp (show (ownOf f (shO δ1)).map some=some o from eo)
   subst eo
   show (own e && hX ys)=true
   rw [lK ey,Bool.and_true]
   unfold ownOf at ge
   obtain ⟨p,_,ge⟩:=Za.mp ge
   split at ge
   . rename_i ho;cases ge;exact ho
   . cases ge
theorem sZ (i:Nat) {y:Str} {elt tg iter:Expr} {ifs:List Expr} {py pos spos:Pos} {src:FA} {g:D->DS->Option DS} {fc:FT} {felt:FM} (hN:X.N.Nodup) (hi:PID X tg iter src) {T N:List Str} {js:List Nat} (hg:∀ C s₂ H₂ fp pn,PGD (dI X scope cl T N C s₂ H₂ fp pn) tg g) (fl:z6 T.length g) (hc:∀ C s₂ H₂ fp pn,Dj (dI X scope cl T N C s₂ H₂ fp pn) ifs fc) (he:∀ C s₂ H₂ fp pn,PV (dI X scope cl T N C s₂ H₂ fp pn) elt felt) (O:CompG X scope cl T N js)
 (hsw:swapsWith (.ListComp elt [⟨tg,iter,ifs,0⟩] scope pos) (some (.Name y py)) spos.line X.env=pure true:=by rfl) (hy:X.N[i]? = some y:=by rfl) (hl:Loc X.env.scope y:=by first | exact Or.inl rfl | exact Or.inr rfl) (hcm:X.calm=true:=by rfl)
 (hs:∀ v,foldedSetIterable iter X.env v=pure v:=by intro _;rfl) (hfn:X.fn y=true \/ X.env.scope.names.lookup y=some .local:=by first | exact .inl rfl | exact .inr rfl | assumption) :
 PMD X (.Assign [.Name y py] (.ListComp elt [⟨tg,iter,ifs,0⟩] scope pos) spos) (aB i (nF src T.length js g fc felt)):=by
 intro pins s σ H D I ⟨F,δ,r,⟨As,RA⟩,q,k⟩
 have R:=RA.toS
 unfold aB at q
 obtain ⟨⟨d,δ'⟩,ed,q⟩:=Za.mp q
 cases q
 unfold nF at ed
 obtain ⟨ds,eds,q⟩:=Za.mp ed
 obtain ⟨xs,exs,q⟩:=Za.mp q
 by_cases hz:xs.length<=1000
 . rw [if_pos hz] at q
   cases q
   rw [exec_Assign_Name_used _ _ _ _ hsw]
   refine wpAny_bind (wpAny_standAt (wpAny_bind ?_))
   show wpAny _ X.A (do let _ <- comprehension (.ListComp elt [⟨tg,iter,ifs,0⟩] scope pos) scope X.env _ (newList []) false (eval iter X.env) (some (assign (.Name y py) X.env))) _ _ s
   refine wpAny_bind (wpAny_mono (wpAny_comprehension_free (use:=some (assign (.Name y py) X.env)) (Q:=fun _ s'=>SP X pins D .next s') rfl hs O.clos O.kind O.names ?_) (fun _ s' hq=>wpAny_pure (wpAny_pure hq)) fun _ _ z=>z)
   refine wpAny_mono (hi pins s σ H (fun J H1=>Same H H1/\ItD X.K J H1 ds) I ⟨δ,ds,R,eds,fun J H1 s1 itd=>⟨s1,itd⟩⟩) (fun v s1 h1=>wpAny_mono h1 (fun itv s2 h2=>?_) fun _ _ z=>z) fun _ _ z=>z
   obtain ⟨it,fp,tn,J,H2,rfl,I2,TT,st,hf,s1,itd⟩:=h2
   refine uj (RR:=fun acc C=>compPost (model X.prog X.w) X.A X.xe (some (assign (.Name y py) X.env)) (fun _ s'=>SP X pins D .next s') acc C) I2 hcm O TT st hf itd (R.mono s1) hg fl hc he exs hz ?_
   intro DA C s' Hend vs hC IX sm hD rr ⟨m,hn⟩ fC
   show wpAny _ X.A (assign (.Name y py) X.env (.ref DA)) _ _ s'
   refine wpAny_assign_Name (lr (v:=.ref DA) IX hN hy hl rfl (fun s9 I9 ⟨a,hsb,ha⟩=>?_) hfn)
   have hCa:C ≠ a:=by
    rintro rfl
    rcases ha with z | z
    . exact absurd (Nat.lt_of_lt_of_le I2.lt (by rw [<- z];exact hC)) (Nat.lt_irrefl _)
    . obtain ⟨v,o,h1,_⟩:=I2.cell y _ z
      exact absurd (Nat.lt_of_lt_of_le (Heap.lt_size h1) hC) (Nat.lt_irrefl _)
   refine ⟨m,hn.at' fun o e=>(hsb.2 C hCa).trans e,fun h' hs'=>⟨_,Hend,?_,uk i RA k (lK exs) (s1.trans sm) s1 hD rr⟩⟩
   exact I9.turned (it:=C) (t':=s9.toks) (fun b o hb e=>(hs'.2 b hb).trans e) fC (Nat.ne_of_gt (Nat.lt_of_lt_of_le I2.lt hC)) (.inr (Nat.le_trans I2.sz hC))
    (fun y c e z=>by
     obtain ⟨v,o,h1,_⟩:=I2.cell y c e
     exact absurd (Nat.lt_of_lt_of_le (Heap.lt_size h1) (by rw [z];exact hC)) (Nat.lt_irrefl _))
    (fun p hp z=>absurd (Nat.lt_of_lt_of_le (Heap.lt_size (I2.pin p hp).1) (by rw [z];exact hC)) (Nat.lt_irrefl _))
 . rw [if_neg hz] at q;cases q
end
end Dl
namespace Dl
open PySem PySem.Spec PyProof.Rows L2
section
variable {X:Cx} {pins:List (Addr×Obj)} {σ:L2.St} {H:Hp} {s:Shared} {h':Heap}
end
end Dl
namespace Dl
open PySem PySem.Spec PyProof.Rows L2
def RPZ (X:Cx) (Z:L2.St->Prop) (E:pd) (F:Hp):Res->Prop
 | .nx δ=>∀ σ' F' H',Same F F'->gl X.K F' H' σ' δ->Z σ'->E.nx σ' H'
 | .rt d=>∀ v F' H' A,Same F F'->Same F' H'->RepO X.K F' H' v d A->A.Nodup->E.rt v H'
 | .bk δ=>∀ σ' F' H',Same F F'->gl X.K F' H' σ' δ->Z σ'->E.bk σ' H'
 | .ct δ=>∀ σ' F' H',Same F F'->gl X.K F' H' σ' δ->Z σ'->E.ct σ' H'
 | .ex _ _=>False
 | .mk _ _=>False
theorem RPZ.mono {X:Cx} {Z:L2.St->Prop} {E:pd} {F F1:Hp} {r:Res} (s:Same F F1) (h:RPZ X Z E F r):RPZ X Z E F1 r:=by
 cases r with
 | nx δ=>exact fun σ' F' H' s2 R=>h σ' F' H' (s.trans s2) R
 | rt d=>exact fun v F' H' A s2=>h v F' H' A (s.trans s2)
 | bk δ=>exact fun σ' F' H' s2 R=>h σ' F' H' (s.trans s2) R
 | ct δ=>exact fun σ' F' H' s2 R=>h σ' F' H' (s.trans s2) R
 | ex C δ=>exact h
 | mk C δ=>exact h
def upZ (X:Cx) (Z:L2.St->Prop) (s:SD):TS:=fun E σ H=>∃ F δ r,gl X.K F H σ δ/\Z σ/\s δ=some r/\RPZ X Z E F r
def PZD (X:Cx) (Z:L2.St->Prop) (st:Stmt) (s:SD):Prop:=PS X st (upZ X Z s)
def PZs (X:Cx) (Z:L2.St->Prop) (sts:List Stmt) (s:SD):Prop:=PSs X sts (upZ X Z s)
def ZOk (Z:L2.St->Prop):Prop:=∀ i,2<=i->∀ σ v,Z σ->Z (σ.set i (some v))
section
variable {X:Cx} {Z:L2.St->Prop} {st:Stmt} {rest:List Stmt} {s u:SD} {e:Expr} {fk fl:FD} {fm:FM} {c:FT} {pos:Pos}
theorem Ca:PZs X Z [] aW:=ql qY fun E σ H ⟨F,δ,r,R,hz,e,k⟩=>by cases e;exact k σ F H (Same.refl F) R hz
theorem vJ (h1:PZD X Z st s) (h2:PZs X Z rest u):PZs X Z (st :: rest) (aC s u):=ql (nU h1 h2) fun E σ H ⟨F,δ,r,R,hz,e,k⟩=>by
 unfold aC at e
 obtain ⟨r1,e1,e⟩:=Za.mp e
 refine ⟨F,δ,r1,R,hz,e1,?_⟩
 cases r1 with
 | nx δ'=>exact fun σ' F' H' s1 R1 z1=>⟨F',δ',r,R1,z1,e,k.mono s1⟩
 | rt d=>cases e;exact k
 | bk d=>cases e;exact k
 | ct d=>cases e;exact k
 | ex C d=>cases e;exact k
 | mk C d=>cases e;exact k
theorem qW (h:PZD X Z st s):PZs X Z [st] s:=qX h
theorem DX {cx:Expr} {a b:List Stmt} (hc:PTD X cx c) (ha:PZs X Z a s) (hb:PZs X Z b u):PZD X Z (.If cx a b pos) (sIf c s u):=gh (yu hc ha hb) fun E σ H ⟨F,δ,r,⟨As,R⟩,hz,q,k⟩=>by
 unfold sIf at q
 obtain ⟨d,ed,q⟩:=Za.mp q
 refine ⟨δ,d,R.toS,ed,fun H' s1=>?_⟩
 cases d with
 | true=>rw [if_pos rfl];exact ⟨F,δ,r,⟨As,R.grow s1⟩,hz,q,k⟩
 | false=>rw [if_neg Bool.false_ne_true];exact ⟨F,δ,r,⟨As,R.grow s1⟩,hz,q,k⟩
theorem B9 (i:Nat) {x:Str} {pos':Pos} (zk:ZOk Z) (hN:X.N.Nodup) (he:PV X e fm) (h2:2<=i:=by decide) (hi:X.N[i]? = some x:=by rfl) (hx:Loc X.env.scope x:=by first | exact Or.inl rfl | exact Or.inr rfl) (hs:swapsWith e (some (.Name x pos')) pos.line X.env=pure false:=by rfl) (hf:X.fn x=true \/ X.env.scope.names.lookup x=some .local:=by first | exact .inl rfl | exact .inr rfl | assumption) :
 PZD X Z (.Assign [.Name x pos'] e pos) (aB i fm):=gh (qZ hN hi hx he hs hf) fun E σ H ⟨F,δ,r,⟨As,R⟩,hz,q,k⟩=>by
 unfold aB at q
 obtain ⟨⟨d,δ'⟩,ed,q⟩:=Za.mp q
 cases q
 exact ⟨F,δ,As,d,δ',R,ed,fun v F' H' A As' ev R' r'=>k (σ.set i (some v)) F' H' ev.fs (R'.setM i r' ev.nd ev.dj) (zk i h2 σ v hz)⟩
theorem ym {iter:Expr} {body:List Stmt} {src:FMA} {x:Str} {px:Pos} (i:Nat) (zk:ZOk Z) (hN:X.N.Nodup) (hp:PassesOwn (model X.prog X.w) X.A X.env X.xe) (hc:X.calm=true) (hi:PIM X (.Name x px) iter src) (hb:PZs X Z body s) (h2:2<=i:=by decide)
 (hx:X.N[i]? = some x:=by rfl) (hl:Loc X.env.scope x:=by first | exact Or.inl rfl | exact Or.inr rfl) (hf:X.fn x=true \/ X.env.scope.names.lookup x=some .local:=by first | exact .inl rfl | exact .inr rfl | assumption)
 (hs:∀ x,foldedSetIterable iter X.env x=pure x:=by intro _;rfl):PZD X Z (.For (.Name x px) iter body [] pos) (dE src i s):=gh (uI hp hc hi (jF hN hx hl hf) hb hs) fun E σ H ⟨F,δ,r,⟨As,R⟩,hz,e,k⟩=>by
 unfold dE at e
 obtain ⟨⟨ds,δ1⟩,eds,e⟩:=Za.mp e
 refine ⟨F,δ,As,ds,δ1,R,eds,fun J F1 H1 As1 s1 R1 it=>?_⟩
 refine ⟨fun j m σ H=>m=ds.length - j/\j<=ds.length/\∃ F2 δ,Same F1 F2/\gl X.K F2 H σ δ/\Z σ/\forM i s (ds.drop j) δ=some r/\RPZ X Z E F2 r,⟨ds.length,rfl,Nat.zero_le _,F1,δ1,Same.refl _,⟨As1,R1⟩,hz,e,k.mono s1⟩,?_⟩
 rintro j m σ H2 ⟨rfl,hjl,F2,δ2,s2,⟨As2,R2⟩,z2,e2,k2⟩
 by_cases hlt:j < ds.length
 . obtain ⟨go,yl⟩:=(it j H2 (s2.trans R2.fz)).1 hlt
   rw [List.drop_eq_getElem_cons hlt] at e2
   obtain ⟨r4,e4,e2⟩:=Za.mp (show ((s (δ2.set i (some (sh ds[j])))).bind _)=some r from e2)
   refine .inr ⟨go,fun σ' H'=>∃ F3 δ,Same F1 F3/\gl X.K F3 H' σ' δ/\Z σ'/\forM i s (ds.drop (j+1)) δ=some r/\RPZ X Z E F3 r,fun σ' H' z=>⟨ds.length - (j+1),by omega,rfl,hlt,z⟩,fun y H' yy=>?_⟩
   obtain ⟨eH,d,hd,rx⟩:=yl y H' yy
   subst eH
   have hd':d=ds[j]:=by
    rw [Zt hlt] at hd
    exact (Option.some.inj hd).symm
   subst hd'
   have R3:=R2.setM i (RepO.of_sh R2.fz (rx.mono s2)) List.nodup_nil fun _ _ _ z=>nomatch z
   refine ⟨F2,δ2.set i (some (sh ds[j])),r4,R3,zk i h2 σ y z2,e4,?_⟩
   cases r4 with
   | nx δ'=>exact fun σ' F' H'' s4 R4 z4=>⟨F',δ',s2.trans s4,R4,z4,e2,k2.mono s4⟩
   | ct δ'=>exact fun σ' F' H'' s4 R4 z4=>⟨F',δ',s2.trans s4,R4,z4,e2,k2.mono s4⟩
   | bk δ'=>cases e2;exact k2
   | rt d=>cases e2;exact k2
   | ex C δ'=>cases e2;exact k2
   | mk C δ'=>cases e2;exact k2
 . have e:j=ds.length:=by omega
   subst e
   rw [List.drop_length] at e2
   cases e2
   exact .inl ⟨(it _ H2 (s2.trans R2.fz)).2 (Nat.le_refl _),k2 σ F2 H2 (Same.refl _) ⟨As2,R2⟩ z2⟩
def gJ (i:Nat) (fk fl:FD) (fm:FM):SD:=fun δ=>(fm δ).bind fun p=>match p.2[i]? with
 | some (some (.lst ds))=>(fk p.2).bind fun kd=>match kd with
  | .int k=>(ixN ds.length k).bind fun j=>match ds[j]? with
   | some (.lst row)=>(fl p.2).bind fun ld=>match ld with
    | .int l=>(ixN row.length l).bind fun m=>some (.nx (p.2.set i (some (.lst (ds.set j (.lst (row.set m p.1)))))))
    | _=>none
   | _=>none
  | _=>none
 | _=>none
theorem E1 {i:Nat} {K:PySem.W.Frag} {F H:Hp} {σ:L2.St} {δ:DS} {As:Nat->List Addr} {Q:L2.St->Hp->Prop} {r:Res} (R:RepA K F H σ δ As) (q:gJ i fk fl fm δ=some r) (k:∀ F' H' δ',r=.nx δ'->Same F F'->gl K F' H' σ δ'->Q σ H') :
 BY (upV K fm) (A9 (tOp (xc K) (pi i) (up K fk)) (up K fl) vF) { nx:=Q,rt:=fun _ _=>True } σ H:=by
 unfold gJ at q
 obtain ⟨⟨d,δ'⟩,ed,q⟩:=Za.mp q
 dsimp only at q
 split at q
 . rename_i ds h1
   obtain ⟨kd,ek,q⟩:=Za.mp q
   split at q
   . rename_i kk
     obtain ⟨j,hj,q⟩:=Za.mp q
     split at q
     . rename_i row hrow
       obtain ⟨ld,el,q⟩:=Za.mp q
       split at q
       . rename_i ll
         obtain ⟨m,hm,q⟩:=Za.mp q
         cases q
         refine ⟨F,δ,As,d,δ',R,ed,fun v F' H' A As' ev R' r'=>?_⟩
         obtain ⟨a,vs,A0,s0,_,g0,_,rl⟩:=R'.lst h1
         refine ⟨.ref a,s0,δ',.int kk,R'.toS,ek,fun iv H1 s1 ri=>?_⟩
         cases ri
         have R1:=R'.grow s1
         obtain ⟨a1,vs1,b,ws,B0,O,t0,u0,hv1,ub,rr1,ndB,inB,inO,aO,sep,_⟩:=R1.row h1 hrow
         have ea:a1=a:=by rw [s0] at t0;cases t0;rfl
         subst ea
         have es1:vs1=vs:=by
          have:=s1 _ _ g0
          rw [u0] at this;cases this;rfl
         subst es1
         refine ⟨a1,vs1,kk,.ref b,rfl,rfl,SqL.of u0,by unfold L2.atI;rw [rl.length,hj];exact hv1,?_⟩
         refine ⟨δ',.int ll,R1.toS,el,fun iv2 H2 s2 ri2=>?_⟩
         cases ri2
         have R2:=R1.grow s2
         obtain ⟨a2,vs2,b2,ws2,B2,O2,t2,u2,hv2,ub2,rr2,ndB2,inB2,inO2,aO2,sep2,fin⟩:=R2.row h1 hrow
         have ea:a2=a1:=by rw [s0] at t2;cases t2;rfl
         subst ea
         have es2:vs2=vs1:=by
          have:=s2 _ _ u0
          rw [u2] at this;cases this;rfl
         subst es2
         have eb:b2=b:=by rw [hv1] at hv2;cases hv2;rfl
         subst eb
         refine ⟨b2,ws2,ll,m,rfl,rfl,ub2,by rw [rr2.length];exact hm,?_⟩
         have ml:m < row.length:=(m7 hm).2.1
         obtain ⟨v0,C1,C,C3,_,_,eC,pk⟩:=rr2.pick (i:=m) (d:=row[m]) (Zt ml)
         have rv:RepO K F' H2 v d A:=r'.frame (ci (s1.trans s2)) fun x mm=>by
          obtain ⟨⟨ws,e⟩,_⟩:=r'.dom x mm
          rw [e];exact (s1.trans s2) x _ e
         have rn:=pk (H':=H2) (fun _ _ e _=>e) (fun _ _=>rfl) rv
         have nB:=List.nodup_cons.mp ndB2
         have nB2:=nB.2
         rw [eC] at nB2
         have n1:=List.nodup_append.mp nB2
         have n2:=List.nodup_append.mp n1.2.1
         have inC:∀ x,x∈C1 \/ x∈C3->x∈B2:=fun x mm=>by
          rw [eC]
          rcases mm with z | z
          . exact List.mem_append_left _ z
          . exact List.mem_append_right _ (List.mem_append_right _ z)
         have inI:∀ x,x∈C1 \/ x∈C3->x∈As' i:=fun x mm=>inB2 x (Zl _ (inC x mm))
         refine k F' _ _ rfl ev.fs (fin rn (fun z=>?_) ?_ (fun x mm z=>?_) fun kx x hk mm z=>?_)
         . rcases Zp.mp z with z | z
           . exact nB.1 (inC _ (.inl z))
           . rcases Zp.mp z with z | z
             . exact ev.dj i b2 (inB2 b2 Zk) z
             . exact nB.1 (inC _ (.inr z))
         . refine List.nodup_append.mpr ⟨n1.1,List.nodup_append.mpr ⟨ev.nd,n2.2.1,fun y hy w hw e=>?_⟩,fun y hy w hw e=>?_⟩
           . subst e;exact ev.dj i y (inI y (.inr hw)) hy
           . subst e
             rcases Zp.mp hw with z | z
             . exact ev.dj i y (inI y (.inl hy)) z
             . exact n1.2.2 y hy y (List.mem_append_right _ z) rfl
         . rcases Zp.mp mm with mm | mm
           . exact sep2 x (Zl _ (inC x (.inl mm))) z
           . rcases Zp.mp mm with mm | mm
             . exact ev.dj i x (inO2 x z) mm
             . exact sep2 x (Zl _ (inC x (.inr mm))) z
         . rcases Zp.mp z with z | z
           . exact R2.dj kx i x hk mm (inI x (.inl z))
           . rcases Zp.mp z with z | z
             . exact ev.dj kx x mm z
             . exact R2.dj kx i x hk mm (inI x (.inr z))
       . cases q
     . cases q
   . cases q
 . cases q
theorem uP {i:Nat} {δ:DS} {r:Res} (q:gJ i fk fl fm δ=some r):∃ δ',r=.nx δ':=by
 unfold gJ at q
 obtain ⟨⟨d,δ'⟩,ed,q⟩:=Za.mp q
 dsimp only at q
 split at q
 . obtain ⟨kd,ek,q⟩:=Za.mp q
   split at q
   . obtain ⟨j,hj,q⟩:=Za.mp q
     split at q
     . obtain ⟨ld,el,q⟩:=Za.mp q
       split at q
       . obtain ⟨m,hm,q⟩:=Za.mp q
         cases q
         exact ⟨_,rfl⟩
       . cases q
     . cases q
   . cases q
 . cases q
theorem vH (i:Nat) {tg:Expr} (he:PV X e fm) (hg:PG X tg (A9 (tOp (xc X.K) (pi i) (up X.K fk)) (up X.K fl) vF)) (hs:swapsWithSole [tg] e pos.line X.env=pure false:=by rfl) (hw:swappedStores [tg] e X.env=pure none:=by rfl)
 (h1:(assignEach [tg] X.env).map (·.2)=[assign tg X.env]:=by rfl):PZD X Z (.Assign [tg] e pos) (gJ i fk fl fm):=gh (rc he hg hs hw h1) fun E σ H ⟨F,δ,r,⟨As,R⟩,hz,q,k⟩=>by
 obtain ⟨δ',rfl⟩:=uP q
 exact E1 (Q:=E.nx) R q fun F' H' δ2 e s1 R1=>by cases e;exact k σ F' H' s1 R1 hz
end
def tH (K:PySem.W.Frag) (n:Nat) (G:List D->Option (D×D)):Sp:=fun vs H Q _=>vs.length=n/\∃ v0 v1 ws F d0 d1 A0 A1 es d0' d1',vs=v0 :: v1 :: ws/\Same F H/\RepO K F H v0 d0 A0/\RepO K F H v1 d1 A1/\(A0++A1).Nodup/\Reps K F ws es/\cA es=true /\
 G (d0 :: d1 :: es)=some (d0',d1')/\∀ F' H' A0' A1',Same F F'->Same F' H'->RepO K F' H' v0 d0' A0'->RepO K F' H' v1 d1' A1'->(A0'++A1').Nodup->Q .non H'
def nI (n:Nat) (d0 d1:D) (es:List D):DS:=some d0 :: some d1 :: (es.map some++List.replicate (n - (es.length+2)) none)
def asZ (A0 A1:List Addr):Nat->List Addr
 | 0=>A0
 | 1=>A1
 | _=>[]
theorem sS {K:PySem.W.Frag} {F H:Hp} {N:List Str} {v0 v1:V} {ws:List V} {d0 d1:D} {es:List D} {A0 A1:List Addr} (s:Same F H) (r0:RepO K F H v0 d0 A0) (r1:RepO K F H v1 d1 A1) (nd:(A0++A1).Nodup) (r:Reps K F ws es) (im:cA es=true):gl K F H (L2.start N (v0 :: v1 :: ws)) (nI N.length d0 d1 es):=by
 have l:=r.length
 have nd':=List.nodup_append.mp nd
 refine ⟨asZ A0 A1,s,by unfold L2.start nI;simp [l],fun i d q=>?_,fun i h=>?_,fun i=>?_,fun i j a hij m=>?_⟩
 . match i,q with
   | 0,q=>cases q;exact ⟨v0,rfl,r0⟩
   | 1,q=>cases q;exact ⟨v1,rfl,r1⟩
   | i+2,q =>
    have q':(es.map some++List.replicate (N.length - (es.length+2)) none)[i]? = some (some d):=q
    have hi:i < es.length:=by
     by_cases hi:i < es.length
     . exact hi
     . rw [List.getElem?_append_right (by simpa using hi),List.getElem?_replicate] at q'
       split at q' <;> cases q'
    rw [List.getElem?_append_left (by simpa using hi),List.getElem?_map] at q'
    obtain ⟨e,h1,h2⟩:=Zb.mp q'
    cases h2
    obtain ⟨v,h5,h6⟩:=r.get h1
    refine ⟨v,?_,.imm (imms_mem.mp im d (List.mem_of_getElem? h1)) (h6.mono s)⟩
    unfold L2.start
    show (ws.map some++_)[i]? = _
    rw [List.getElem?_append_left (by rw [Zi,l];exact hi),List.getElem?_map,h5]
    rfl
 . match i,h with
   | 0,h=>exact absurd rfl (h d0)
   | 1,h=>exact absurd rfl (h d1)
   | i+2,_=>rfl
 . match i with
   | 0=>exact nd'.1
   | 1=>exact nd'.2.1
   | i+2=>exact List.nodup_nil
 . match i,j,hij,m with
   | 0,0,hij,_=>exact absurd rfl hij
   | 0,1,_,m=>exact fun z=>nd'.2.2 a m a z rfl
   | 0,j+2,_,_=>exact fun z=>nomatch z
   | 1,0,_,m=>exact fun z=>nd'.2.2 a z a m rfl
   | 1,1,hij,_=>exact absurd rfl hij
   | 1,j+2,_,_=>exact fun z=>nomatch z
   | i+2,_,_,m=>cases m
section
variable {P:Program} {w:World} {K:PySem.W.Frag} {mg:Str->Option Value} {base:Heap}
theorem CK {x qual:Str} {st:Stmt} {f:Addr} {fd:FuncData} {N ps:List Str} {k:Nat} {G:List D->Option (D×D)} (F:Fun K x qual st f fd) (S:aF N ps (ap st))
 (hbody:∀ (cdv:Value) (A:Around) (outer:List Env) (s:Shared) (H:Hp) (E:XK) (Z:L2.St->Prop) (d0 d1:D) (es:List D) (d0' d1':D),Room k (A.deeper (envOfC qual (ap st) s.heap.objs.size f cdv))->ZOk Z->G (d0 :: d1 :: es)=some (d0',d1') ->
  ∃ t,PZs (gj CX0 P w K mg base N qual (ap st) f cdv A outer s H E).nox Z (bH st) t/\∃ δ',t (nI N.length d0 d1 es)=some (.nx δ')/\δ'[0]? = some (some d0')/\δ'[1]? = some (some d1')):FnOk P w K mg base CX0 (k+1) f fd ps (tH K ps.length G):=by
 refine F.ok S (fun vs H Q E h=>h.1) (fun cdv A outer s H vs Q E hr h=>?_)
 obtain ⟨hl,v0,v1,ws,F0,d0,d1,A0,A1,es,d0',d1',rfl,s0,r0,r1,nd,r,im,e,q⟩:=h
 obtain ⟨t,ht,δ',hq,g0,g1⟩:=hbody cdv A outer s H E (fun σ=>σ[0]? = some (some v0)/\σ[1]? = some (some v1)) d0 d1 es d0' d1' hr (fun i hi σ v ⟨a,b⟩=>⟨by rw [List.getElem?_set_ne (by omega)];exact a,by rw [List.getElem?_set_ne (by omega)];exact b⟩) e
 refine ⟨_,ht,F0,_,_,sS s0 r0 r1 nd r im,⟨rfl,rfl⟩,hq,fun σ' F' H' s1 ⟨As,R⟩ ⟨z0,z1⟩=>?_⟩
 obtain ⟨u0,h0,w0⟩:=R.val 0 _ g0
 obtain ⟨u1,h1,w1⟩:=R.val 1 _ g1
 rw [z0] at h0
 rw [z1] at h1
 cases h0
 cases h1
 exact q F' H' _ _ s1 R.fz w0 w1 (List.nodup_append.mpr ⟨R.nd 0,R.nd 1,fun a m b m' e=>by subst e;exact R.dj 0 1 a (by decide) m m'⟩)
structure Do (P:Program) (w:World) (K:PySem.W.Frag) (mg:Str->Option Value) (base:Heap) (k:Nat) (x:Str) (ps:List Str) (G:List D->Option (D×D)):Prop where
 ex:∃ f fd,FnOk P w K mg base CX0 k f fd ps (tH K ps.length G)/\mg x=some (.ref f)/\PySem.W.keepIn K (.ref f)=true/\Binds K fd ps []
end
def nQ (i j:Nat) (G:List D->Option (D×D)) (g:FA):SD:=fun δ=>match δ[i]?,δ[j]? with
 | some (some (.lst xs)),some (some (.lst ys))=>(g δ).bind fun es=>(G (.lst xs :: .lst ys :: es)).bind fun p=>if cA es=true/\own p.1=true/\own p.2=true/\i ≠ j then some (.nx ((δ.set i (some p.1)).set j (some p.2))) else none
 | _,_=>none
noncomputable def vc (H:Hp) (A:List Addr):Hp:=fun a=>if a∈A then none else H a
theorem Br {H:Hp} {A:List Addr}:Same (vc H A) H:=fun a u e=>by
 unfold vc at e
 split at e
 . cases e
 . exact e
theorem uq {H:Hp} {A:List Addr} {a:Addr} (m:a∈A):vc H A a=none:=if_pos m
theorem nv {H:Hp} {A:List Addr} {a:Addr} (m:a ∉ A):vc H A a=H a:=if_neg m
theorem yC {X:Cx} {e:Expr} {es:List Expr} {g:FA} {pos p spos:Pos} {k l n:Nat} {x:Str} {ps:List Str} {G:List D->Option (D×D)} (i j:Nat) (F:Do X.prog X.w X.K X.mg X.base k x ps G) (hr:Room l X.A) (ha:PA X (e :: es) (pC (pi i) (pC (pi j) (upA X.K n g)))) (hk:k<=l:=by decide) (hg:Gl X x:=by rfl)
 (hn:n+2=ps.length:=by rfl) (hdb:(x == ("__debug__":Str))=false:=by decide) (he:starEach (e :: es) X.env=(false,eval e X.env) :: starEach es X.env:=by rfl) (hpl:(backTo pos (starEach es X.env)).any (·.1)=false:=by rfl) (hs:swapsWith (.Call (.Name x p) (e :: es) [] pos) none spos.line X.env=pure false:=by rfl) :
 PMD X (.Expr (.Call (.Name x p) (e :: es) [] pos) spos) (nQ i j G g):=by
 obtain ⟨f,fd,F,hm,kp,hb⟩:=F.ex
 refine gh (mX (m3 F (hr.mono hk) hg hm kp hb .nil vR ha hdb he hpl) hs) fun E σ H ⟨F0,δ,r,⟨As,R⟩,q,k⟩=>?_
 unfold nQ at q
 split at q
 . rename_i xs ys hi hj
   obtain ⟨ds,eds,q⟩:=Za.mp q
   obtain ⟨⟨d0',d1'⟩,eG,q⟩:=Za.mp q
   dsimp only at q
   split at q
   . rename_i hc
     obtain ⟨im,o0,o1,hij⟩:=hc
     cases q
     obtain ⟨v0,s0,r0⟩:=R.val i _ hi
     obtain ⟨v1,s1,r1⟩:=R.val j _ hj
     refine ⟨v0,s0,v1,s1,δ,ds,R.toS,eds,fun vs H1 t1 rr lv=>?_⟩
     show tH X.K ps.length G ((v0 :: v1 :: vs)++[]) H1 _ E0
     rw [List.append_nil]
     have R1:=R.grow t1
     obtain ⟨v0',s0',r0⟩:=R1.val i _ hi
     rw [s0] at s0'
     cases s0'
     obtain ⟨v1',s1',r1⟩:=R1.val j _ hj
     rw [s1] at s1'
     cases s1'
     have sF:Same F0 (vc H1 (As i++As j)):=fun a u e=>by
      rw [nv fun m=>?_]
      . exact R1.fz a u e
      . rcases Zp.mp m with z | z
        . rw [(R1.dom z).2] at e;cases e
        . rw [(R1.dom z).2] at e;cases e
     have nd:(As i++As j).Nodup:=List.nodup_append.mpr ⟨R1.nd i,R1.nd j,fun a m b m' e=>by subst e;exact R1.dj i j a hij m m'⟩
     refine ⟨by simp [lv,hn],v0,v1,vs,vc H1 (As i++As j),.lst xs,.lst ys,As i,As j,ds,d0',d1',rfl,Br,r0.froz sF fun a m=>uq (List.mem_append_left _ m),r1.froz sF fun a m=>uq (List.mem_append_right _ m),nd,?_,im,eG,fun F' H' A0' A1' sf sh w0 w1 nd'=>?_⟩
     . refine eS (fun a u e nl=>?_) rr im
       rw [nv fun m=>?_]
       . exact e
       . rcases Zp.mp m with z | z
         . obtain ⟨⟨ws,h⟩,_⟩:=R1.dom z
           rw [e] at h;cases h;exact absurd (ws.2.symm.trans nl) (fun z=>nomatch z)
         . obtain ⟨⟨ws,h⟩,_⟩:=R1.dom z
           rw [e] at h;cases h;exact absurd (ws.2.symm.trans nl) (fun z=>nomatch z)
     . have nd2:=List.nodup_append.mp nd'
       have hF:Same F0 H':=(sF.trans sf).trans sh
       have kI:fO H1 H':=fun a u e nl=>by
        refine sh a u (sf a u ?_)
        rw [nv fun m=>?_]
        . exact e
        . rcases Zp.mp m with z | z
          . obtain ⟨⟨ws,h⟩,_⟩:=R1.dom z
            rw [e] at h;cases h;exact absurd (ws.2.symm.trans nl) (fun z=>nomatch z)
          . obtain ⟨⟨ws,h⟩,_⟩:=R1.dom z
            rw [e] at h;cases h;exact absurd (ws.2.symm.trans nl) (fun z=>nomatch z)
       have oth:∀ kx a,kx ≠ i->kx ≠ j->a∈As kx->H' a=H1 a/\F' a ≠ none:=fun kx a h1 h2 m=>by
        obtain ⟨⟨ws,h⟩,_⟩:=R1.dom m
        have b:vc H1 (As i++As j) a=some ws.1:=by
         rw [nv fun z=>?_]
         . exact h
         . rcases Zp.mp z with z | z
           . exact R1.dj kx i a h1 m z
           . exact R1.dj kx j a h2 m z
        have f:=sf a _ b
        exact ⟨by rw [h];exact sh a _ f,by rw [f];exact fun z=>nomatch z⟩
       have t0:=w0.thaw (sF.trans sf) o0
       have t1':=w1.thaw (sF.trans sf) o1
       have il:i < δ.length:=(List.getElem?_eq_some_iff.mp hi).1
       have jl:j < δ.length:=(List.getElem?_eq_some_iff.mp hj).1
       refine k σ F0 H' (Same.refl F0) ⟨lc (lc As i A0') j A1',hF,by rw [List.length_set,List.length_set];exact R.len,fun kx d q=>?_,fun kx h=>?_,fun kx=>?_,fun kx ky a hxy m=>?_⟩
       . by_cases hkj:kx=j
         . subst hkj
           rw [List.getElem?_set_self (by rw [List.length_set];exact jl)] at q
           cases q
           rw [aQ]
           exact ⟨v1,s1,t1'⟩
         . rw [List.getElem?_set_ne (Ne.symm hkj)] at q
           rw [aP hkj]
           by_cases hki:kx=i
           . subst hki
             rw [List.getElem?_set_self il] at q
             cases q
             rw [aQ]
             exact ⟨v0,s0,t0⟩
           . rw [List.getElem?_set_ne (Ne.symm hki)] at q
             rw [aP hki]
             obtain ⟨v,h1,h2⟩:=R1.val kx d q
             exact ⟨v,h1,h2.frame kI fun a m=>(oth kx a hki hkj m).1⟩
       . by_cases hkj:kx=j
         . subst hkj
           exact absurd (List.getElem?_set_self (by rw [List.length_set];exact jl)) (h d1')
         . rw [aP hkj]
           by_cases hki:kx=i
           . subst hki
             refine absurd ?_ (h d0')
             rw [List.getElem?_set_ne (Ne.symm hkj),List.getElem?_set_self il]
           . rw [aP hki]
             refine R1.non kx fun d z=>h d ?_
             rw [List.getElem?_set_ne (Ne.symm hkj),List.getElem?_set_ne (Ne.symm hki)]
             exact z
       . by_cases hkj:kx=j
         . subst hkj;rw [aQ];exact nd2.2.1
         . rw [aP hkj]
           by_cases hki:kx=i
           . subst hki;rw [aQ];exact nd2.1
           . rw [aP hki];exact R1.nd kx
       . have out0:∀ kz,kz ≠ i->kz ≠ j->a∈As kz->a ∉ A0':=fun kz h1 h2 mz z=>(oth kz a h1 h2 mz).2 (w0.dom a z).2
         have out1:∀ kz,kz ≠ i->kz ≠ j->a∈As kz->a ∉ A1':=fun kz h1 h2 mz z=>(oth kz a h1 h2 mz).2 (w1.dom a z).2
         by_cases hkj:kx=j
         . subst hkj
           rw [aQ] at m
           rw [aP (Ne.symm hxy)]
           by_cases hki:ky=i
           . subst hki;rw [aQ];exact fun z=>nd2.2.2 a z a m rfl
           . rw [aP hki];exact fun z=>out1 ky hki (Ne.symm hxy) z m
         . rw [aP hkj] at m
           by_cases hki:kx=i
           . subst hki
             rw [aQ] at m
             by_cases hyj:ky=j
             . subst hyj;rw [aQ];exact fun z=>nd2.2.2 a m a z rfl
             . rw [aP hyj,aP (Ne.symm hxy)];exact fun z=>out0 ky (Ne.symm hxy) hyj z m
           . rw [aP hki] at m
             by_cases hyj:ky=j
             . subst hyj;rw [aQ];exact out1 kx hki hkj m
             . rw [aP hyj]
               by_cases hyi:ky=i
               . subst hyi;rw [aQ];exact out0 kx hki hkj m
               . rw [aP hyi];exact R1.dj kx ky a hxy m
   . cases q
 . cases q
end Dl
namespace Dl
open PySem PySem.Spec PyProof.Rows L2
theorem Ev.sub {F H F' H':Hp} {As As':Nat->List Addr} {A B:List Addr} (ev:Ev F H As F' H' As' A) (h:∀ a∈B,a∈A) (nd:B.Nodup):Ev F H As F' H' As' B :=
 ⟨ev.fs,ev.hs,ev.nf,ev.fa,fun a m=>ev.fA a (h a m),nd,fun i a m z=>ev.dj i a m (h a z)⟩
theorem Ev.grow {F H F' H' H1:Hp} {As As':Nat->List Addr} {A:List Addr} (ev:Ev F H As F' H' As' A) (s:Same H' H1):Ev F H As F' H1 As' A :=
 ⟨ev.fs,ev.hs.trans s,ev.nf,ev.fa,ev.fA,ev.nd,ev.dj⟩
def wU (k:Nat) (fm:FM):FM:=fun δ=>(fm δ).bind fun p=>match p.1 with
 | .tup ds=>(ds[k]?).map fun d=>(d,p.2)
 | _=>none
theorem uF {X:Cx} {e b:Expr} {fm:FM} {pos:Pos} (k:Nat) (he:PV X e fm) (hb:PD X b (fC (.int (k:Int)))) (hs:nz b:=by intro _ _;rfl):PV X (.Subscript e b pos) (wU k fm):=imp (jU zn he hb hs) fun σ H Q ⟨F,δ,As,d,δ',R,q,kk⟩=>by
 unfold wU at q
 obtain ⟨⟨t,δ1⟩,et,q⟩:=Za.mp q
 dsimp only at q
 split at q
 . rename_i ds
   obtain ⟨d1,hd,q⟩:=Zb.mp q
   cases q
   refine ⟨F,δ,As,.tup ds,δ',R,et,fun v F' H' A As' ev R' r'=>?_⟩
   obtain ⟨a,vs,rfl,sq,ro⟩:=r'.parts
   refine ⟨δ',.int (k:Int),R'.toS,rfl,fun iv H1 s1 ri=>?_⟩
   cases ri
   obtain ⟨w,A1,B,A2,hw,rB,eA,_⟩:=ro.pick hd
   have nd:=ev.nd
   rw [eA] at nd
   have n1:=List.nodup_append.mp nd
   have n2:=List.nodup_append.mp n1.2.1
   refine ⟨a,vs,(k:Int),w,rfl,rfl,nK s1 sq,atI_nat hw,?_⟩
   refine kk w F' H1 B As' ((ev.sub (fun x m=>?_) n2.1).grow s1) (R'.grow s1) (rB.frame (ci s1) fun x m=>?_)
   . rw [eA];exact List.mem_append_right _ (List.mem_append_left _ m)
   . obtain ⟨⟨ws,e⟩,_⟩:=rB.dom x m
     rw [e];exact s1 x _ e
 . cases q
theorem jx:∀ {ns:List Int} {us:List Value},Vals (ns.map V.int) us->PyProof.Rows.IntsAre us ns
 | [],_,.nil=>.nil
 | n :: ns,_,.cons r t=>by
  obtain ⟨tk,rfl⟩:=r
  exact .cons n tk (jx t)
section
variable {X:Cx}
end
section
variable {K:PySem.W.Frag} {F H:Hp} {σ:L2.St} {δ:DS} {As:Nat->List Addr} {i:Nat} {x:D} {ds:List D}
end
section
variable {X:Cx} {pos:Pos} {c:Expr} {f:FD}
end
end Dl
namespace Dl
open PySem PySem.Spec PyProof.Rows L2
noncomputable def fnM (S:List D->D×D->Prop) (ds:List D):Option (D×D):=by
 classical exact if h:(∃ d,S ds d)/\∀ d e,S ds d->S ds e->d=e then some h.1.choose else none
theorem C5 {S:List D->D×D->Prop} {ds:List D} {p:D×D} (u:∀ q,S ds q->q=p) (h:S ds p):fnM S ds=some p:=by
 unfold fnM
 rw [dif_pos ⟨⟨p,h⟩,fun d e a b=>(u d a).trans (u e b).symm⟩]
 exact congrArg some (u _ (Exists.choose_spec (⟨p,h⟩:∃ d,S ds d)))
theorem Bf {S:List D->D×D->Prop} {ds:List D} {p:D×D} (h:fnM S ds=some p):S ds p:=by
 unfold fnM at h
 split at h
 . rename_i g
   cases h
   exact g.1.choose_spec
 . cases h
end Dl
namespace Dl
open PySem PySem.Spec PyProof.Rows L2
def lk (ks:List Int) (ds:List D) (k:Int):Option D:=((ks.zip ds).find? fun p=>decide (p.1=k)).map (·.2)
theorem rE {k j:Int} {ks:List Int} {d:D} {ds:List D}:lk (j :: ks) (d :: ds) k=if j=k then some d else lk ks ds k:=by
 unfold lk
 rw [List.zip_cons_cons,List.find?_cons]
 by_cases h:j=k
 . simp [h]
 . simp [h]
def kz (ks:List Int) (vs:List V):List (Key×V):=(ks.map Sum.inl).zip vs
theorem zc {K:PySem.W.Frag} {H:Hp} (k:Int):∀ {ks:List Int} {vs:List V} {ds:List D},ks.length=ds.length->Reps K H vs ds ->
 (∀ d,lk ks ds k=some d->∃ v,ko (kz ks vs) (.inl k)=some v/\Rep K H v d)/\(lk ks ds k=none->ko (kz ks vs) (.inl k)=none)
 | [],_,_,_,_=>⟨fun d e=>(by cases e),fun _=>rfl⟩
 | j :: ks,_,_,l,.nil=>by cases l
 | j :: ks,v :: vs,d :: ds,l,.cons r t=>by
  have ih:=zc k (ks:=ks) (by simpa using l) t
  rw [rE]
  show (∀ d',_->∃ w,ko ((.inl j,v) :: kz ks vs) (.inl k)=some w/\_)/\(_->ko ((.inl j,v) :: kz ks vs) (.inl k)=none)
  by_cases h:j=k
  . subst h
    rw [if_pos rfl,kl rfl]
    exact ⟨fun d' e=>by cases e;exact ⟨v,rfl,r⟩,fun e=>by cases e⟩
  . rw [if_neg h,km (fun z=>h (by cases z;rfl))]
    exact ih
def asM:D->Option (List Int×List D)
 | .ms ks ds=>some (ks,ds)
 | .md ks ds=>some (ks,ds)
 | .mf ks ds=>some (ks,ds)
 | _=>none
theorem Rep.mapD {K:PySem.W.Frag} {H:Hp} {v:V} {d:D} {m:List Int×List D} (r:Rep K H v d) (e:asM d=some m):∃ a vs,v=.ref a/\Rd H a (.dK (kz m.1 vs))/\m.1.length=m.2.length/\Reps K H vs m.2:=by
 cases r with
 | ms h l r=>cases e;exact ⟨_,_,rfl,h,l,r⟩
 | md h l r=>cases e;exact ⟨_,_,rfl,.inl h,l,r⟩
 | mf h l r=>cases e;exact ⟨_,_,rfl,.inr h,l,r⟩
 | _=>cases e
def t5 (a b:D):Option D:=(asM a).bind fun m=>match b with
 | .int k=>lk m.1 m.2 k
 | _=>none
def ni (a b:D):Option D:=(asM b).bind fun m=>match a with
 | .int k=>some (.bl (!(lk m.1 m.2 k).isSome))
 | _=>none
theorem zd {K:PySem.W.Frag} {H:Hp} {k:Int} {a:Addr} {ks:List Int} {vs:List V} {ds:List D} (h:Rd H a (.dK (kz ks vs))) (l:ks.length=ds.length) (r:Reps K H vs ds):∃ o,xP H a (.int k) o/\o.isSome=(lk ks ds k).isSome/\∀ d,lk ks ds k=some d->∃ v,o=some v/\Rep K H v d:=by
 obtain ⟨h1,h2⟩:=zc (H:=H) k l r
 refine ⟨_,.inl ⟨_,.inl k,h,rfl,rfl⟩,?_,fun d e=>?_⟩
 . cases q:lk ks ds k with
   | none=>rw [h2 q];rfl
   | some d=>obtain ⟨v,e,_⟩:=h1 d q;rw [e];rfl
 . exact h1 d e
section
variable {X:Cx} {a b:Expr} {fa fb:FD} {pos:Pos}
theorem m4 (hu:X.A.units+1 < cLine) (ha:PD X a fa) (hb:PD X b fb) (hs:Dm b:=by intro _ _;rfl):PD X (.Subscript a b pos) (f2 t5 fa fb):=imp (AC hu ha hb hs) fun σ H Q ⟨δ,d,R,e,k⟩=>by
 obtain ⟨x,ex,e⟩:=Za.mp e
 obtain ⟨y,ey,e⟩:=Za.mp e
 unfold t5 at e
 obtain ⟨m,em,e⟩:=Za.mp e
 split at e
 . rename_i kk _
   refine ⟨δ,x,R,ex,fun v H1 s1 r1=>⟨δ,_,R.mono s1,ey,fun w H2 s2 r2=>?_⟩⟩
   obtain ⟨p,vs,rfl,h,l,r⟩:=(r1.mono s2).mapD em
   cases r2
   obtain ⟨o,g,_,f⟩:=zd (k:=kk) h l r
   obtain ⟨u,rfl,ru⟩:=f d e
   exact ⟨p,u,rfl,g,k u H2 (s1.trans s2) ru⟩
 . cases e
theorem uU {K:PySem.W.Frag} {σ:L2.St} {H:Hp} {Q:VK} (q:up K (f2 ni fa fb) σ H Q):vo (up K fa) (up K fb) σ H Q:=by
 obtain ⟨δ,d,R,e,k⟩:=q
 obtain ⟨x,ex,e⟩:=Za.mp e
 obtain ⟨y,ey,e⟩:=Za.mp e
 unfold ni at e
 obtain ⟨m,em,e⟩:=Za.mp e
 split at e
 . rename_i kk _ _
   cases e
   refine ⟨δ,_,R,ex,fun v H1 s1 r1=>⟨δ,y,R.mono s1,ey,fun w H2 s2 r2=>?_⟩⟩
   cases r1
   obtain ⟨p,vs,rfl,h,l,r⟩:=r2.mapD em
   obtain ⟨o,g,i,_⟩:=zd (k:=kk) h l r
   refine ⟨p,o,rfl,g,?_⟩
   rw [i]
   exact k _ H2 (s1.trans s2) (.bl _)
 . cases e
theorem uG (hu:X.A.units+1 < cLine) (ha:PD X a fa) (hb:PD X b fb) (hm:behindInMarks .NotIn b=false:=by with_unfolding_all rfl):PTD X (.Compare a [.NotIn] [b] pos) (fT (f2 ni fa fb)):=A4 (Cg (xj hu ha hb) hm) fun _ _ _ q=>vd (fun _ _ _ z=>uU z) q
end
def ptV {α:Type} (ks:List Int) (ds:List α) (k:Int) (x:α):List α:=if k∈ks then (ks.zip ds).map fun p=>if p.1=k then x else p.2 else ds++[x]
def ptK (ks:List Int) (k:Int):List Int:=if k∈ks then ks else ks++[k]
def sM (i:Nat) (fk:FD) (fm:FM):SD:=fun δ=>(fm δ).bind fun p=>match p.2[i]? with
 | some (some (.md ks ds))=>(fk p.2).bind fun kd=>match kd with
  | .int k=>if imm p.1 && decide (ks.length<=999) then some (.nx (p.2.set i (some (.md (ptK ks k) (ptV ks ds k p.1))))) else none
  | _=>none
 | _=>none
section
variable {K:PySem.W.Frag} {F H:Hp} {σ:L2.St} {δ:DS} {As:Nat->List Addr}
theorem RepO.md_inv {ks:List Int} {ds:List D}:∀ {v:V} {d:D} {A:List Addr},RepO K F H v d A->d=.md ks ds->∃ a vs,v=.ref a/\A=[a]/\H a=some (.dK (kz ks vs))/\F a=none/\ks.length=ds.length/\cA ds=true/\Reps K H vs ds
 | _,_,_,.imm i _,e=>by subst e;rw [Dl.imm] at i;cases i
 | _,_,_,.shr _,e=>nomatch e
 | _,_,_,.shm _,e=>nomatch e
 | _,_,_,.shf _,e=>nomatch e
 | _,_,_,.tup _ _,e=>nomatch e
 | _,_,_,.lst _ _ _,e=>nomatch e
 | _,_,_,.md h n l i r,e=>by cases e;exact ⟨_,_,rfl,rfl,h,n,l,i,r⟩
theorem RepA.md {i:Nat} {ks:List Int} {ds:List D} (R:RepA K F H σ δ As) (h:δ[i]? = some (some (.md ks ds))):∃ a vs,σ[i]? = some (some (.ref a))/\As i=[a]/\H a=some (.dK (kz ks vs))/\F a=none/\ks.length=ds.length/\cA ds=true/\Reps K H vs ds:=by
 obtain ⟨v,h1,h2⟩:=R.val i _ h
 obtain ⟨a,vs,rfl,r⟩:=h2.md_inv rfl
 exact ⟨a,vs,h1,r⟩
theorem zX {k:Int}:∀ {ks:List Int} {vs:List V},ks.length=vs.length->((kz ks vs).any fun kv=>decide (kv.1=(.inl k:Key)))=decide (k∈ks)
 | [],_,_=>by simp [kz]
 | j :: ks,[],l=>by cases l
 | j :: ks,v :: vs,l=>by
  show ((Sum.inl j,v) :: kz ks vs).any _=_
  rw [List.any_cons,zX (by simpa using l)]
  by_cases h:j=k
  . subst h;simp
  . have h':¬ k=j:=fun z=>h z.symm
    simp [h,h',Sum.inl.injEq]
theorem zm {ks:List Int} {vs:List V} (l:ks.length=vs.length):(kz ks vs).length=ks.length:=by
 unfold kz;rw [List.length_zip,Zi];omega
theorem zl {k:Int} {v:V}:∀ {ks:List Int} {vs:List V},ks.length=vs.length->((kz ks vs).map fun kv=>if kv.1=(.inl k:Key) then (kv.1,v) else kv)=kz ks ((ks.zip vs).map fun p=>if p.1=k then v else p.2)
 | [],_,_=>by simp [kz]
 | j :: ks,[],l=>by cases l
 | j :: ks,w :: vs,l=>by
  have ih:=zl (k:=k) (v:=v) (ks:=ks) (vs:=vs) (by simpa using l)
  show (if (Sum.inl j:Key)=.inl k then ((Sum.inl j:Key),v) else (.inl j,w)) :: ((kz ks vs).map _)=(.inl j,if j=k then v else w) :: kz ks ((ks.zip vs).map _)
  rw [ih]
  by_cases h:j=k
  . subst h;rw [if_pos rfl,if_pos rfl]
  . rw [if_neg (fun z=>h (by cases z;rfl)),if_neg h]
theorem CM {k:Int} {v:V} {ks:List Int} {vs:List V} (l:ks.length=vs.length):jf (kz ks vs) (.inl k) v=kz (ptK ks k) (ptV ks vs k v):=by
 unfold jf ptK ptV
 rw [zX l]
 by_cases h:k∈ks
 . rw [if_pos (by simpa using h),if_pos h,if_pos h,zl l]
 . rw [if_neg (by simpa using h),if_neg h,if_neg h]
   unfold kz
   rw [List.map_append,List.zip_append (by rw [Zi];exact l)]
   rfl
theorem sR {k:Int} {v:V} {d:D} (rv:Rep K H v d):∀ {ks:List Int} {vs:List V} {ds:List D},ks.length=ds.length->Reps K H vs ds->Reps K H ((ks.zip vs).map fun p=>if p.1=k then v else p.2) ((ks.zip ds).map fun p=>if p.1=k then d else p.2)
 | [],_,_,_,_=>.nil
 | j :: ks,_,_,l,.nil=>by cases l
 | j :: ks,w :: vs,e :: ds,l,.cons r t=>by
  have ih:=sR (k:=k) rv (ks:=ks) (by simpa using l) t
  show Reps K H ((if j=k then v else w) :: _) ((if j=k then d else e) :: _)
  by_cases h:j=k
  . rw [if_pos h,if_pos h];exact .cons rv ih
  . rw [if_neg h,if_neg h];exact .cons r ih
theorem pP {v:V} {d:D} (rv:Rep K H v d):∀ {vs:List V} {ds:List D},Reps K H vs ds->Reps K H (vs++[v]) (ds++[d])
 | _,_,.nil=>.cons rv .nil
 | _,_,.cons r t=>.cons r (pP rv t)
theorem ye {k:Int} {v:V} {d:D} {ks:List Int} {vs:List V} {ds:List D} (rv:Rep K H v d) (l:ks.length=ds.length) (r:Reps K H vs ds):Reps K H (ptV ks vs k v) (ptV ks ds k d):=by
 unfold ptV
 split
 . exact sR rv l r
 . exact pP rv r
theorem tX {k:Int} {d:D} (h:imm d=true):∀ {ks:List Int} {ds:List D},cA ds=true->cA ((ks.zip ds).map fun p=>if p.1=k then d else p.2)=true
 | [],_,_=>rfl
 | j :: ks,[],_=>rfl
 | j :: ks,e :: ds,i=>by
  rw [cA,Bool.and_eq_true] at i
  show cA ((if j=k then d else e) :: _)=true
  rw [cA,Bool.and_eq_true]
  exact ⟨(by split;exact h;exact i.1),tX h i.2⟩
theorem qm {d:D} (h:imm d=true):∀ {ds:List D},cA ds=true->cA (ds++[d])=true
 | [],_=>by show cA [d]=true;rw [cA,h];rfl
 | e :: ds,i=>by
  rw [cA,Bool.and_eq_true] at i
  show cA (e :: (ds++[d]))=true
  rw [cA,Bool.and_eq_true]
  exact ⟨i.1,qm h i.2⟩
theorem tW {k:Int} {d:D} {ks:List Int} {ds:List D} (h:imm d=true) (i:cA ds=true):cA (ptV ks ds k d)=true:=by
 unfold ptV
 split
 . exact tX h i
 . exact qm h i
theorem AV {α:Type} {k:Int} {d:α} {ks:List Int} {ds:List α} (l:ks.length=ds.length):(ptK ks k).length=(ptV ks ds k d).length:=by
 unfold ptK ptV
 split
 . rw [Zi,List.length_zip];omega
 . rw [Zh,Zh,l];rfl
end
section
variable {X:Cx} {e ei:Expr} {fk:FD} {fm:FM} {pos p1 p2 p3 p4:Pos}
theorem Aw (hu:X.A.units+1 < cLine) (i:Nat) {x:Str} (he:PV X e fm) (hk:PD X ei fk) (hN:X.N[i]? = some x:=by rfl) (hv:Vis X.env.scope x:=by first | exact Or.inl rfl | exact Or.inr (Or.inl rfl) | exact Or.inr (Or.inr rfl)) (hd:(x == ("__debug__":Str))=false:=by decide) (hcd:(x == ("__classdict__":Str))=false:=by decide)
 (hs:swapsWith e (some (.Subscript (.Name x p1) ei p2)) pos.line X.env=pure false:=by rfl) :
 PMD X (.Assign [.Subscript (.Name x p1) ei p2] e pos) (sM i fk fm) :=
 gh (Ar hu (nV hN hv hd hcd) hk he hs) fun E σ H ⟨F,δ,r,⟨As,R⟩,q,k⟩=>by
 unfold sM at q
 obtain ⟨⟨d,δ'⟩,ed,q⟩:=Za.mp q
 dsimp only at q
 split at q
 . rename_i ks ds h1
   obtain ⟨kd,ek,q⟩:=Za.mp q
   split at q
   . rename_i kk
     split at q
     . rename_i hc
       cases q
       rw [Bool.and_eq_true,decide_eq_true_eq] at hc
       obtain ⟨hi,hz⟩:=hc
       refine ⟨F,δ,As,d,δ',R,ed,fun v F' H' A As' ev R' r'=>?_⟩
       obtain ⟨a,vs,s1,eA,g1,n1,l1,i1,rp⟩:=R'.md h1
       refine ⟨.ref a,s1,δ',.int kk,R'.toS,ek,fun iv H2 s2 ri=>?_⟩
       cases ri
       have R2:=R'.grow s2
       have r2:=(r'.rep R'.fz).mono s2
       obtain ⟨a2,vs2,s12,eA2,g2,n2,l2,i2,rp2⟩:=R2.md h1
       have ea:a2=a:=by rw [s1] at s12;cases s12;rfl
       subst ea
       have lv:ks.length=vs2.length:=by rw [rp2.length];exact l2
       refine ⟨a2,_,rfl,DPut.k (k:=.inl kk) g2 (Nat.lt_of_le_of_lt (by rw [zm lv];exact hz) (jz (show 999<=1000 by decide))),?_⟩
       rw [CM lv]
       have ai:a2∈As' i:=by rw [eA2];exact Zk
       have hl:i < δ'.length:=(List.getElem?_eq_some_iff.mp h1).1
       have kp:fO H2 (upd H2 a2 (.dK (kz (ptK ks kk) (ptV ks vs2 kk v)))):=iz g2 rfl
       have nj:∀ j x,j ≠ i->x∈As' j->x ≠ a2:=fun j x hj m z=>R2.dj j i x hj m (z ▸ ai)
       have rn:Reps X.K (upd H2 a2 (.dK (kz (ptK ks kk) (ptV ks vs2 kk v)))) (ptV ks vs2 kk v) (ptV ks ds kk d):=eS kp (ye r2 l2 rp2) (tW hi i2)
       exact k σ F' _ ev.fs ⟨_,R2.write hl s12 kp (kF R2.fz n2) (fun j x hj m=>aD (nj j x hj m)) (.md bc n2 (AV l2) (tW hi i2) rn) (List.nodup_cons.mpr ⟨fun z=>(nomatch z),List.nodup_nil⟩) fun j x hj m z=>nj j x hj m (Zm.mp z)⟩
     . cases q
   . cases q
 . cases q
end
section
variable {K:PySem.W.Frag} {F H:Hp} {σ:L2.St} {δ:DS} {As:Nat->List Addr}
theorem CJ {H1:Hp} {ks:List Int} {vs:List V} {ds:List D} {p:Addr} {Q:VK} (R:RepA K F H σ δ As) (s:Same H H1) (r:Reps K H1 vs ds) (l:ks.length=ds.length) (i:cA ds=true) (hp:H p=none) (hm:H1 p=none \/ ∃ es,H1 p=some (.dK es))
 (k:∀ v F' H' A As',Ev F H As F' H' As' A->RepA K F' H' σ δ As'->RepO K F' H' v (.md ks ds) A->Q v H'):Q (.ref p) (upd H1 p (.dK (kz ks vs))):=by
 have sn:Same H (upd H1 p (.dK (kz ks vs))):=fun a u e=>by
  have:a ≠ p:=fun z=>by rw [z,hp] at e;cases e
  rw [aD this];exact s a u e
 have kp:fO H1 (upd H1 p (.dK (kz ks vs))):=fun a u e n=>by
  have:a ≠ p:=fun z=>by
   rw [z] at e
   rcases hm with h | ⟨es,h⟩
   . rw [h] at e;cases e
   . rw [h] at e;cases e;cases n
  rw [aD this];exact e
 refine k _ F _ [p] As (.fresh sn (fun a m=>?_) (List.nodup_cons.mpr ⟨fun z=>(nomatch z),List.nodup_nil⟩) (fun i a m=>(R.dom m).1)) (R.grow sn) (.md bc (cL R.fz hp) l i (eS kp r i))
 rw [Zm.mp m]
 exact hp
end
def wl:List D->Option (List Int×List D)
 | [d]=>asM d
 | _=>none
def vn (g:FA):FM:=fun δ=>(g δ).bind fun xs=>(wl xs).bind fun m=>if cA m.2 then some (.md m.1 m.2,δ) else none
def qG (fk fv:FD):FM:=fun δ=>(fk δ).bind fun kd=>match kd with
 | .int k=>(fv δ).bind fun d=>if imm d then some (.md [k] [d],δ) else none
 | _=>none
section
variable {X:Cx} {e ek ev:Expr} {g:FA} {fk fv:FD} {pos p:Pos}
theorem r6:iD X (.type "dict") (fun xs H Q=>∃ a kvs,xs=[.ref a]/\Rd H a (.dK kvs)/\∀ l,H l=none->Q (.ref l) (upd H l (.dK kvs))):=by
 intro pins s σ H xs us Q I r h
 obtain ⟨a,kvs,rfl,hq,q⟩:=h
 obtain ⟨u,rfl,rx⟩:=lT r
 cases rx
 exact zR I hq fun l s' hl I'=>⟨.ref l,_,I',rfl,q l hl⟩
theorem xf (hg:Gl X "dict") (hm:X.mg "dict" = none) (hv:bootBuiltins "dict" = some (.type "dict")) (ha:PAD X [e] g) (he:starEach [e] X.env=(false,eval e X.env) :: starEach [] X.env:=by rfl) (hpl:(backTo pos (starEach [] X.env)).any (·.1)=false:=by rfl) :
 PV X (.Call (.Name "dict" p) [e] [] pos) (vn g):=imp (lC r6 hg hm hv ha (by decide) (by decide) he hpl) fun σ H Q ⟨F,δ,As,d,δ',RA,q,k⟩=>by
 unfold vn at q
 obtain ⟨xs,exs,q⟩:=Za.mp q
 obtain ⟨m,em,q⟩:=Za.mp q
 split at q
 . rename_i hi
   cases q
   refine ⟨_,xs,RA.toS,exs,fun vs H1 s1 r1 l=>?_⟩
   unfold wl at em
   split at em
   . obtain ⟨v,rfl,rv⟩:=gK r1
     obtain ⟨a,ws,rfl,h,hl,rp⟩:=rv.mapD em
     exact ⟨a,_,rfl,h,fun q hq=>CJ RA s1 rp hl hi (cL s1 hq) (.inl hq) k⟩
   . cases em
 . cases q
def rQ (fk fv:FD):FD:=fun δ=>(qG fk fv δ).map (·.1)
theorem tu (hk:PD X ek fk) (hv:PD X ev fv):PD X (.Dict [some ek] [ev] pos) (rQ fk fv):=imp (AB (yx hk hv At) rfl rfl (by simp) (by simp)) fun σ H Q ⟨δ,d,R,q,k⟩=>by
 unfold rQ qG at q
 obtain ⟨⟨d1,δ1⟩,q2,rfl⟩:=Zb.mp q
 clear q
 obtain ⟨kd,ekd,q⟩:=Za.mp q2
 split at q
 . rename_i kk
   obtain ⟨x,ex,q⟩:=Za.mp q
   split at q
   . rename_i hi
     cases q
     intro p hp
     have s0:=dM hp (.dK [])
     refine ⟨_,.int kk,R.mono s0,ekd,fun kv H1 s1 rk=>⟨_,x,(R.mono s0).mono s1,ex,fun v H2 s2 rv=>?_⟩⟩
     cases rk
     have e2:H2 p=some (.dK []):=s2 _ _ (s1 _ _ bc)
     have kp:fO H2 (upd H2 p (.dK (kz [kk] [v]))):=iz e2 rfl
     have sn:Same H (upd H2 p (.dK (kz [kk] [v]))):=fun b u e=>by
      have:b ≠ p:=fun z=>by rw [z,hp] at e;cases e
      rw [aD this];exact s2 _ _ (s1 _ _ (s0 _ _ e))
     exact ⟨e2,[(.inl kk,v)],rfl,(by simp),k (.ref p) (upd H2 p (.dK (kz [kk] [v]))) sn (.md bc rfl (.cons (je kp rv hi) .nil))⟩
   . cases q
 . cases q
end
end Dl
namespace Dl
open PySem PySem.Spec PyProof.Rows L2
def Itd (d:Addr) (o:Obj) (kvs:List (Key×V)):It :=
 ⟨fun i H=>H d=some (.frz o (.dK kvs))/\i < kvs.length,fun i H v H'=>H'=H/\∃ k x,kvs[i]? = some (k,x)/\v=kV k,fun i H=>H d=some (.frz o (.dK kvs))/\kvs.length<=i⟩
theorem xt {k:Key} {u:Value} (h:oz k u=true):RelV (kV k) u:=by
 rcases cv h with ⟨i,t,rfl,rfl⟩ | ⟨x,t,rfl,rfl⟩
 . exact ⟨t,rfl⟩
 . exact ⟨t,rfl⟩
theorem qv {P:Program} {w:World} {H:Hp} {h:Heap} {d:Addr} {o:Obj} {kvs:List (Key×V)} {ep:Nat} (ok:HOk P w H h) (e:H d=some (.frz o (.dK kvs))) (hd:∃ es,o.data=.dict es ep):(d == sysModules)=false/\∃ vs,KV kvs vs/\h.DictAt (ce P w) d vs ep:=by
 obtain ⟨ho,_,hs,vs,r,o',es,ep',ho',c⟩:=(show h.get? d=some o/\kvs.length<=sizeLine/\(d == sysModules)=false/\∃ vs,KV kvs vs/\h.DictOf (ce P w) d vs from ok d _ e)
 rw [ho] at ho'
 cases ho'
 obtain ⟨es2,hd⟩:=hd
 obtain ⟨c1,c2,c3⟩:=c
 rw [c2] at hd
 cases hd
 exact ⟨hs,vs,r,_,_,ho,c1,c2,c3⟩
theorem wW {P:Program} {w:World} {K:PySem.W.Frag} {tg:Expr} {it d:Addr} {o:Obj} {kvs:List (Key×V)} {ep:Nat} (hd:∃ es,o.data=.dict es ep) (hne:d ≠ it):ut P w K tg (Itd d o kvs) [it] it (fun i h=>h.IsKeyIter it d i kvs.length ep) where
 mem:=by simp
 obj:=fun i h st b hb=>by
  obtain ⟨o1,e1,_,d1⟩:=st
  have e:b=it:=by simpa using hb
  subst e
  exact ⟨o1,e1,fun v q=>by rw [d1] at q;cases q⟩
 keep:=fun i h h' st k=>st.at fun o e=>k it (by simp) o e
 item:=by
  intro X hP hw hK hc i pins s σ H E I hf st hg
  subst hP hw hK
  obtain ⟨f0,f1,f2,f3,f4,f5⟩:=hf it (by simp)
  obtain ⟨e,hi⟩:=hg
  obtain ⟨_,vs,r,da⟩:=qv I.hok e hd
  have hl:=r.length
  rw [hl] at st
  obtain ⟨⟨k,x⟩,hx⟩:∃ p,vs[i]? = some p:=⟨vs[i]'(by omega),by simp [show i < vs.length by omega]⟩
  refine wpAny_pyNext_dict_item st da hx fun key h' hkey hit' hs'=>?_
  refine ⟨key,rfl,letGo_keyiter hit' ⟨kV k,H,?_,xt hkey,⟨rfl,?_⟩,by rw [hl];exact hit',fun b hb=>(hf b hb).1⟩⟩
  . exact I.turned (t':=s.toks) (fun b o hb e=>hs'.extBut b o hb e) f0 f1 f3 f4 f5
  . have hk:=r.keys
    have h1:(kvs.map (·.1))[i]? = some k:=by rw [hk,List.getElem?_map,hx];rfl
    rw [List.getElem?_map] at h1
    cases q:kvs[i]? with
    | none=>rw [q] at h1;cases h1
    | some p=>rw [q] at h1;cases h1;exact ⟨p.1,p.2,rfl,rfl⟩
 done:=by
  intro X hP hw hK hc i pins s σ H E I hf st hg
  subst hP hw hK
  obtain ⟨f0,f1,f2,f3,f4,f5⟩:=hf it (by simp)
  obtain ⟨e,hi⟩:=hg
  obtain ⟨_,vs,r,da⟩:=qv I.hok e hd
  have hl:=r.length
  rw [hl] at st
  exact wpAny_pyNext_dict_end (I.ok.hd hc) st da (by simp;omega) fun h' eb=>⟨rfl,I.turned (t':=s.toks) (fun b o hb e=>eb b o hb e) f0 f1 f3 f4 f5⟩
 self:=fun _ _ _ _ _ st h=>wpAny_pyIter_keyiter st h
def Ew (tl:TE):TI:=fun σ H R=>tl σ H fun x H1=>∃ d o kvs,x=.ref d/\H1 d=some (.frz o (.dK kvs))/\R (Itd d o kvs) H1
theorem Az {X:Cx} {tg l:Expr} {tl:TE} (hl:PE X l tl):PI X tg l (Ew tl):=by
 intro pins s σ H R I h
 refine thn (hl pins s σ H _ I h) fun v s1 ⟨x,H1,I1,r1,q1⟩=>?_
 obtain ⟨d,o,kvs,e,hq,q⟩:=q1
 subst e
 cases r1
 have z:=I1.hok d _ hq
 obtain ⟨ho,_,hs,vs,r,o',es,ep,ho',c1,c2,c3⟩:=(show s1.heap.get? d=some o/\kvs.length<=sizeLine/\(d == sysModules)=false/\∃ vs,KV kvs vs/\s1.heap.DictOf (ce X.prog X.w) d vs from z)
 rw [ho] at ho'
 cases ho'
 have da:s1.heap.DictAt (ce X.prog X.w) d vs ep:=⟨_,_,ho,c1,c2,c3⟩
 refine wpAny_pyIter_dict hs da ?_
 have hlt:d < s1.heap.objs.size:=Heap.lt_size ho
 refine ⟨s1.heap.objs.size,[s1.heap.objs.size],_,_,H1,rfl,I1.kept (t':=s1.toks) fun b o e=>Heap.get?_push_of_some _ e,wW (kvs:=kvs) ⟨es,c2⟩ (Nat.ne_of_lt hlt),⟨_,Heap.get?_push_size _ rfl,rfl,?_⟩,fun b hb=>?_,q⟩
 . show Data.fields _=Data.fields _
   rw [r.length]
   rfl
 . have e:b=s1.heap.objs.size:=by simpa using hb
   subst e
   exact I1.fpOk (Nat.le_refl _) (I1.hok.fresh (Nat.le_refl _))
def Eo (d:D):Option (List D):=match d with
 | .mf ks _=>some (ks.map D.int)
 | _=>none
theorem CN {ks:List Int} {vs:List V} {i:Nat} {k:Key} {x:V} (h:(kz ks vs)[i]? = some (k,x)):∃ j,ks[i]? = some j/\k=.inl j:=by
 unfold kz at h
 rw [List.getElem?_zip_eq_some] at h
 obtain ⟨h1,_⟩:=h
 rw [List.getElem?_map] at h1
 cases q:ks[i]? with
 | none=>rw [q] at h1;cases h1
 | some j=>rw [q] at h1;cases h1;exact ⟨j,rfl,rfl⟩
theorem AZ {K:PySem.W.Frag} {H1:Hp} {d:Addr} {o:Obj} {ks:List Int} {vs:List V} (l:ks.length=vs.length) (h:H1 d=some (.frz o (.dK (kz ks vs)))):ItD K (Itd d o (kz ks vs)) H1 (ks.map D.int):=by
 intro i H2 s
 have h2:=s _ _ h
 have hl:=zm l
 rw [Zi]
 refine ⟨fun hi=>⟨⟨h2,by omega⟩,fun x H' y=>?_⟩,fun hi=>⟨h2,by omega⟩⟩
 obtain ⟨rfl,k,w,e,rfl⟩:=y
 obtain ⟨j,hj,rfl⟩:=CN e
 exact ⟨Same.refl _,.int j,by rw [List.getElem?_map,hj];rfl,.int j⟩
theorem tj {X:Cx} {tg l:Expr} {f:FD} (hl:PD X l f):PID X tg l (fun δ=>(f δ).bind Eo):=uV (Az hl) fun σ H R ⟨δ,ds,R0,e,k⟩=>by
 obtain ⟨d,ed,e⟩:=Za.mp e
 refine ⟨δ,d,R0,ed,fun v H1 s1 r1=>?_⟩
 cases r1 with
 | @mf p ks vs es hp hz rp =>
  cases e
  obtain ⟨o,hp⟩:=hp
  exact ⟨p,o,_,rfl,hp,k _ H1 s1 (AZ (by rw [rp.length];exact hz) hp)⟩
 | _=>cases e
end Dl
namespace Dl
open PySem PySem.Spec PyProof.Rows L2
section
variable {X:Cx} {pins:List (Addr×Obj)} {σ:L2.St} {H:Hp} {s:Shared} {a:Addr} {u u':HO}
theorem tR (I:L2.Inv X pins σ H s) (h:H a=some u) (n1:∀ xs,u ≠ .tup xs) (n2:∀ y,u ≠ .own y) (n3:∀ o w,X.H₀ a ≠ some (.frz o w)) (n4:∀ ps,u ≠ .tbl ps) (new:ObjOk X.prog X.w (upd H a u') s.heap a u'):L2.Inv X pins σ (upd H a u') s where
 ok:=I.ok
 os:=I.os
 bare:=I.bare
 base:={ keep:=I.base.keep,slot:=I.base.slot,there:=I.base.there
         free:=fun b o e n hx=>by
          have z:=I.base.free b o e n hx
          rw [aD fun q=>by rw [q,h] at z;cases z];exact z
         tups:=fun b xs e=>by
          have z:=I.base.tups b xs e
          rw [aD fun q=>by rw [q,h] at z;cases z;exact n1 _ rfl];exact z
         frzs:=fun b o w e=>by
          have z:=I.base.frzs b o w e
          have hb:b ≠ a:=fun q=>by subst q;exact n3 o w e
          rw [aD hb];exact z
         tbls:=fun b ps e=>by
          obtain ⟨m,z⟩:=I.base.tbls b ps e
          exact ⟨m,by rw [aD fun q=>by rw [q,h] at z;cases z;exact n4 _ rfl];exact z⟩ }
 loc:=I.loc
 cell:=I.cell
 free:=by
  have z:=I.free
  rw [aD fun q=>by rw [q,h] at z;cases z];exact z
 freeC:=fun x c e=>by
  have z:=I.freeC x c e
  rw [aD fun q=>by rw [q,h] at z;cases z];exact z
 pin:=fun p hp=>by
  obtain ⟨h1,z,h3⟩:=I.pin p hp
  exact ⟨h1,by rw [aD fun q=>by rw [q,h] at z;cases z];exact z,h3⟩
 hok:=fun b w e=>by
  by_cases hb:b=a
  . subst hb;rw [bc] at e;cases e;exact new
  . rw [aD hb] at e
    refine (I.hok b w e).stay (fun _ _ _ q=>q) (fun c r=>?_) fun c xs r=>?_
    . rw [aD fun q=>by rw [q,h] at r;cases r;exact n2 _ rfl];exact r
    . rw [aD fun q=>by rw [q,h] at r;cases r;exact n1 _ rfl];exact r
 len:=I.len
theorem D8 (I:L2.Inv X pins σ H s) (h:H a=some u) (n:∀ o w,u ≠ .frz o w):∀ o w,X.H₀ a ≠ some (.frz o w):=fun o w e=>by
 have z:=I.base.frzs a o w e
 rw [h] at z;cases z;exact n _ _ rfl
end
def vFz (i:Nat) (f:FD):FM:=fun δ=>match δ[i]? with
 | some (some (.md ks ds))=>(f (δ.set i (some (.mf ks ds)))).bind fun d=>if imm d then some (d,δ) else none
 | _=>none
theorem DZ {X:Cx} {e:Expr} {f:FD} (i:Nat) (h:PD X e f):PV X e (vFz i f):=fun pins s σ H Q I ⟨F,δ,As,d,δ',R,q,k⟩=>by
 unfold vFz at q
 split at q
 . rename_i ks ds hi
   obtain ⟨d0,e0,q⟩:=Za.mp q
   split at q
   . rename_i im
     cases q
     obtain ⟨a,vs,s1,eA,g1,n1,l1,i1,rp⟩:=R.md hi
     have ok:=I.hok a _ g1
     obtain ⟨z1,z2,us,r,o,es,ep,ho,c⟩:=(show (kz ks vs).length<=sizeLine/\(a == sysModules)=false/\∃ us,KV (kz ks vs) us/\s.heap.DictOf (ce X.prog X.w) a us from ok)
     have nf:=D8 I g1 (fun _ _ z=>nomatch z)
     have I1:L2.Inv X pins σ (upd H a (.frz o (.dK (kz ks vs)))) s:=tR I g1 (fun _ z=>nomatch z) (fun _ z=>nomatch z) nf (fun _ z=>nomatch z) ⟨ho,z1,z2,us,r,o,es,ep,ho,c⟩
     have kp:fO H (upd H a (.frz o (.dK (kz ks vs)))):=iz g1 rfl
     have R1:RepS X.K (upd H a (.frz o (.dK (kz ks vs)))) σ (δ.set i (some (.mf ks ds))):=by
      refine ⟨by rw [List.length_set];exact R.len,fun j x q=>?_⟩
      rw [List.getElem?_set] at q
      by_cases hj:i=j
      . subst hj
        rw [if_pos rfl,if_pos (List.getElem?_eq_some_iff.mp hi).1] at q
        cases q
        exact ⟨.ref a,s1,.mf ⟨o,bc⟩ l1 (eS kp rp i1)⟩
      . rw [if_neg hj] at q
        obtain ⟨v,h1,h2⟩:=R.val j x q
        refine ⟨v,h1,(h2.frame kp fun b m=>aD fun z=>?_).rep (kF R.fz n1)⟩
        exact R.dj i j a hj (by rw [eA];exact Zk) (z ▸ m)
     refine thn (h pins s σ _ (fun v H'=>Same (upd H a (.frz o (.dK (kz ks vs)))) H'/\Rep X.K H' v d) I1 ⟨_,d,R1,e0,fun v H' s' r'=>⟨s',r'⟩⟩) fun w s2 ⟨v,H2,I2,rv,sm,rd⟩=>?_
     have fa:H2 a=some (.frz o (.dK (kz ks vs))):=sm _ _ bc
     have okF:=I2.hok a _ fa
     obtain ⟨_,okD⟩:=(show s2.heap.get? a=some o/\ObjOk X.prog X.w H2 s2.heap a (.dK (kz ks vs)) from okF)
     have I3:L2.Inv X pins σ (upd H2 a (.dK (kz ks vs))) s2:=tR I2 fa (fun _ z=>nomatch z) (fun _ z=>nomatch z) nf (fun _ z=>nomatch z) okD
     have sH:Same H (upd H2 a (.dK (kz ks vs))):=fun b w e=>by
      by_cases hb:b=a
      . subst hb;rw [bc,<- g1];exact e
      . rw [aD hb];exact sm b w (by rw [aD hb];exact e)
     exact ⟨v,_,I3,rv,k v F _ [] As (.pure sH) (R.grow sH) (.imm im (je (iz fa rfl) rd im))⟩
   . cases q
 . cases q
end Dl
namespace Dl
open PySem PySem.Spec PyProof.Rows L2
def pD (g:FA):FA:=fun δ=>(g δ).bind fun xs=>match xs with
 | [.int i,.int j]=>if -(2 ^ 62)<=i/\i < 2 ^ 62/\-(2 ^ 62)<=j/\j < 2 ^ 62 then some ((List.range (j - i).toNat).map fun k=>D.int (i+((k:Nat):Int))) else none
 | _=>none
theorem CU {K:PySem.W.Frag} {H1:Hp} {lo:Int} {n:Nat}:ItD K (Itr lo n) H1 ((List.range n).map fun k=>D.int (lo+((k:Nat):Int))):=by
 intro i H2 s
 refine ⟨fun hi=>?_,fun hi=>(show n<=i by simpa using hi)⟩
 have hi':i < n:=by simpa using hi
 refine ⟨hi',fun x H' y=>?_⟩
 obtain ⟨e,y⟩:=y
 subst e y
 refine ⟨Same.refl _,.int (lo+(i:Int)),?_,.int _⟩
 rw [List.getElem?_map,List.getElem?_range hi']
 rfl
theorem uK {X:Cx} {tg a b:Expr} {g:FA} {p pos:Pos} (hg:Gl X "range") (hm:X.mg "range" = none) (ha:PAD X [a,b] g) (hs:starEach [a,b] X.env=[(false,eval a X.env),(false,eval b X.env)]:=by rfl) (hs2:starEach [b] X.env=[(false,eval b X.env)]:=by rfl) :
 PID X tg (.Call (.Name "range" p) [a,b] [] pos) (pD g):=uV (xh hg hm ha hs hs2) fun σ H R ⟨δ,ds,R0,e,k⟩=>by
 unfold pD at e
 obtain ⟨xs,exs,e⟩:=Za.mp e
 split at e
 . rename_i i j
   split at e
   . rename_i hb
     cases e
     refine ⟨δ,_,R0,exs,fun vs H1 s1 r1 l=>?_⟩
     obtain ⟨x,y,rfl,rx,ry⟩:=pQ r1
     cases rx;cases ry
     exact ⟨i,j,rfl,hb,k _ H1 s1 CU⟩
   . cases e
 . cases e
end Dl
namespace Dl
open PySem PySem.Spec PyProof.Rows L2
section
variable {P:Program} {w:World} {K:PySem.W.Frag} {mg:Str->Option Value} {base:Heap}
theorem Am {x qual:Str} {st:Stmt} {f:Addr} {fd:FuncData} {N ps:List Str} {k:Nat} {G:List D->Option D} (F:Fun K x qual st f fd) (S:aF N ps (ap st))
 (hbody:∀ (cdv:Value) (A:Around) (outer:List Env) (s:Shared) (H:Hp) (E:XK) (ds:List D) (d:D),Room k (A.deeper (envOfC qual (ap st) s.heap.objs.size f cdv))->G ds=some d->ds.length=ps.length ->
  ∃ t,PMs (gj CX0 P w K mg base N qual (ap st) f cdv A outer s H E).nox (bH st) t/\aI (t (aK N.length ds))=some d):FnOk P w K mg base CX0 (k+1) f fd ps (bi K ps.length G):=by
 refine F.ok S (fun vs H Q E h=>h.1) (fun cdv A outer s H vs Q E hr h=>?_)
 obtain ⟨hl,ds,d,r,e,q⟩:=h
 obtain ⟨t,ht,hq⟩:=hbody cdv A outer s H E ds d hr e (r.length.symm.trans hl)
 refine ⟨_,ht,H,aK N.length ds,?_⟩
 cases z:t (aK N.length ds) with
 | none=>rw [z] at hq;cases hq
 | some res =>
  rw [z] at hq
  refine ⟨res,iK r,rfl,?_⟩
  cases res with
  | rt d'=>cases hq;exact fun v F' H' A s1 s2 r1 nd=>q v H' (s1.trans s2) (r1.rep s2)
  | nx δ=>cases hq;exact fun σ' F' H' s1 ⟨As,R⟩=>q _ H' (s1.trans R.fz) .non
  | bk δ=>cases hq
  | ct δ=>cases hq
  | ex C δ=>cases hq
  | mk C δ=>cases hq
end
theorem RepA.allSh {K:PySem.W.Frag} {F H H1:Hp} {σ:L2.St} {δ:DS} {As:Nat->List Addr} (R:RepA K F H σ δ As) (s1:Same H H1):RepA K H1 H1 σ (δ.map (Option.map sh)) (fun _=>[]):=by
 refine ⟨Same.refl H1,by rw [Zi];exact R.len,fun i d0 q=>?_,fun _ _=>rfl,fun _=>List.nodup_nil,fun _ _ _ _ m=>nomatch m⟩
 rw [List.getElem?_map] at q
 obtain ⟨o,h1,h2⟩:=Zb.mp q
 obtain ⟨d1,h3,h4⟩:=Zb.mp h2
 subst h4
 subst h3
 obtain ⟨v0,h5,h6⟩:=R.val i _ h1
 exact ⟨v0,h5,RepO.of_sh (Same.refl H1) ((h6.rep R.fz).mono s1)⟩
def Ah (is:List Nat) (f:FD):SD:=fun δ=>(f δ).bind fun d=>match sh d with
 | .tup ds=>if ds.length=is.length/\tU is δ.length=true then some (.nx (sA is ds (δ.map (Option.map sh)))) else none
 | _=>none
theorem Ci {X:Cx} {e:Expr} {es:List Expr} {kt:Nat} {pt pos:Pos} {f:FD} (is:List Nat) (he:PD X e f) (hg:PG X (.Tuple es kt pt) (CY X.K is.length (nH is)))
 (hs:swapsWithSole [.Tuple es kt pt] e pos.line X.env=pure false:=by rfl) (hw:swappedStores [.Tuple es kt pt] e X.env=pure none:=by rfl)
 (h1:(assignEach [.Tuple es kt pt] X.env).map (·.2)=[assign (.Tuple es kt pt) X.env]:=by rfl):PMD X (.Assign [.Tuple es kt pt] e pos) (Ah is f):=gh (rc he hg hs hw h1) fun E σ H ⟨F,δ,r,⟨As,R⟩,q,k⟩=>by
 unfold Ah at q
 obtain ⟨d,ed,q⟩:=Za.mp q
 split at q
 . rename_i ds hd
   split at q
   . rename_i hl
     cases q
     refine ⟨δ,d,R.toS,ed,fun v H1 s1 r1=>?_⟩
     have z0:RepO X.K H1 H1 v (sh d) []:=RepO.of_sh (Same.refl H1) r1
     rw [hd] at z0
     obtain ⟨a,vs,rfl,sq,ro⟩:=z0.parts
     exact ⟨a,vs,rfl,sq,ro.len.trans hl.1,oi is ro List.nodup_nil (fun _ _ _ z=>nomatch z) (R.allSh s1) hl.1 (by rw [Zi];exact hl.2) fun σ' R3=>k σ' H1 H1 (R.fz.trans s1) R3⟩
   . cases q
 . cases q
end Dl
namespace Dl
open PySem PySem.Spec PyProof.Rows L2
theorem yz {X:Cx} {y:Str} {C:Addr} {e:Expr} {g:FA} {np cpos pos:Pos} {B newId initId:String} {bmB:List Value} (FB:ExcBaseFacts B newId initId bmB) (hh:X.A.handled=none) (hg:Gl X y) (hm:X.mg y=some (.ref C)) (hC:PySem.W.excIn X.K C bmB newId=true) (ha:PAD X [e] g)
 (hd:(y == ("__debug__":Str))=false:=by decide) (hs:starEach [e] X.env=(false,eval e X.env) :: starEach [] X.env:=by rfl) (hpl:(backTo cpos (starEach [] X.env)).any (·.1)=false:=by rfl) :
 PMD X (.Raise (some (.Call (.Name y np) [e] [] cpos)) none pos) (yc C g):=by
 intro pins s σ H E I ⟨F,δ,r,⟨As,R⟩,q,k⟩
 unfold yc at q
 obtain ⟨ds,eds,q⟩:=Za.mp q
 cases q
 obtain ⟨tl,N,nm,qn,bs,hdct,sn,sub,ab,col,dd,k0,k1,k2,k3,k5,mN,hCo,hN,hni,T⟩:=AI I.mod.kin hC
 refine wpAny_Raise_call_subT (C:=C) (nm:=nm) (q:=qn) (N:=N) (bs:=bs) (bm:=tl) (hdct:=hdct) (sn:=sn) (sub:=sub) (ab:=ab) (col:=col) (dd:=dd) (k0:=k0) (k1:=k1) (k2:=k2) (k3:=k3) (k5:=k5)
  FB (mN:=mN) (T.hasType FB.hasBase) hh (by rw [hs];show (false || (backTo cpos (starEach [] X.env)).any (·.1))=false;rw [hpl];rfl) hni (iN I hg hm ⟨rfl,?_⟩ hd)
 have hA:=ha cpos pins s σ H (fun vs H'=>Same H H'/\vs.length=1) I ⟨δ,ds,R.toS,eds,fun vs H' s1 _ l=>⟨s1,l⟩⟩
 rw [hs] at hA ⊢
 refine Calls.evalArgs_plain (thn hA fun us s2 ⟨vs,H1,I1,rv,s1,l⟩=>⟨rfl,?_,I1.bk _ _ hCo,hN.keeps I1.bk,T.keeps I1.bk,fun h' x hx=>?_⟩)
 . show us.length<=sizeLine
   rw [<- rv.length,l];decide
 . exact k σ F H1 (Same.refl F) ⟨As,R.grow s1⟩ pins s2 h' x us I1 hx
def ua (K:PySem.W.Frag) (n:Nat) (G:GX):Sp:=fun vs H Q E=>vs.length=n/\∃ ds r,Reps K H vs ds/\G ds=some r/\match r with
 | .ok d=>∀ v H' A,Same H H'->RepO K H H' v d A->A.Nodup->Q v H'
 | .error C=>∀ H',Same H H'->E (.ref C) none H'
section
variable {P:Program} {w:World} {K:PySem.W.Frag} {mg:Str->Option Value} {base:Heap}
theorem zJ {x qual:Str} {st:Stmt} {f:Addr} {fd:FuncData} {N ps:List Str} {k:Nat} {G:GX} (F:Fun K x qual st f fd) (S:aF N ps (ap st))
 (hbody:∀ (cdv:Value) (A:Around) (outer:List Env) (s:Shared) (H:Hp) (E:XK) (ds:List D) (r:Except Addr D),Room k (A.deeper (envOfC qual (ap st) s.heap.objs.size f cdv))->G ds=some r->ds.length=ps.length ->
  ∃ t,PMs (gj (CX1 P w) P w K mg base N qual (ap st) f cdv A outer s H E) (bH st) t/\n6 (t (aK N.length ds))=some r/\∀ d,r=.ok d->own d=true):FnOk P w K mg base (CX1 P w) (k+1) f fd ps (ua K ps.length G):=by
 obtain ⟨oc,od,kV,doc,pm,an,cdv,ct,osl,rfl,lk,hcd⟩:=F.ex
 refine zE lk hcd S (fun vs H Q E h=>h.1) fun A outer s H vs Q E hr hsp=>?_
 obtain ⟨hl,ds,r,rp,e,q⟩:=hsp
 obtain ⟨t,ht,hq,ho⟩:=hbody cdv A outer s H E ds r hr e (rp.length.symm.trans hl)
 refine ⟨_,ht,H,aK N.length ds,?_⟩
 cases z:t (aK N.length ds) with
 | none=>rw [z] at hq;cases hq
 | some res =>
  rw [z] at hq
  refine ⟨res,iK rp,rfl,?_⟩
  cases res with
  | rt d'=>cases hq;exact fun v F' H' A s1 s2 r1 nd=>q v H' A (s1.trans s2) (r1.thaw s1 (ho _ rfl)) nd
  | nx δ=>cases hq;exact fun σ' F' H' s1 ⟨As,R⟩=>q _ H' [] (s1.trans R.fz) (.imm rfl .non) List.nodup_nil
  | bk δ=>cases hq
  | ct δ=>cases hq
  | ex C δ=>cases hq;exact fun σ' F' H' s1 ⟨As,R⟩=>Bg (q H' (s1.trans R.fz))
  | mk C δ=>cases hq;exact fun σ' F' H' s1 ⟨As,R⟩=>za (q H' (s1.trans R.fz))
structure uu (P:Program) (w:World) (K:PySem.W.Frag) (mg:Str->Option Value) (base:Heap) (k:Nat) (x:Str) (ps:List Str) (G:GX):Prop where
 ex:∃ f fd,FnOk P w K mg base (CX1 P w) k f fd ps (ua K ps.length G)/\mg x=some (.ref f)/\PySem.W.keepIn K (.ref f)=true/\Binds K fd ps []
end
def Aa (X:Cx) (G:GX) (g:FA):TE:=fun σ H Q=>∃ F δ As ds r,RepA X.K F H σ δ As/\g δ=some ds/\G ds=some r/\match r with
 | .ok d=>own d=true/\∀ v H' A,Ev F H As F H' As A->RepA X.K F H' σ δ As->RepO X.K F H' v d A->Q v H'
 | .error C=>∀ H',Same H H'->RepA X.K F H' σ δ As->ve X C σ H'
theorem pW {X:Cx} {e:Expr} {es:List Expr} {g:FA} {pos p:Pos} {k j:Nat} {x:Str} {ps:List Str} {G:GX} (F:uu X.prog X.w X.K X.mg X.base k x ps G) (hr:Room j X.A) (ha:PAD X (e :: es) g) (hk:k<=j:=by decide) (hg:Gl X x:=by rfl)
 (hn:(e :: es).length=ps.length:=by rfl) (hdb:(x == ("__debug__":Str))=false:=by decide) (he:starEach (e :: es) X.env=(false,eval e X.env) :: starEach es X.env:=by rfl) (hpl:(backTo pos (starEach es X.env)).any (·.1)=false:=by rfl) :
 PE X (.Call (.Name x p) (e :: es) [] pos) (Aa X G g):=by
 intro pins s σ H Q I ⟨F0,δ,As,ds,r,R,eds,eG,q⟩
 obtain ⟨f,fd,F,hm,kp,hb⟩:=F.ex
 refine wpAny_Call_Name_kw (iN I hg hm ?_ hdb)
 refine PySem.W.callWith_K (h₀:=X.base) I.ok.mod.kin kp (thn (ha pos pins s σ H (fun vs H'=>Same H H'/\Reps X.K H' vs ds/\vs.length=ps.length) I ⟨δ,ds,R.toS,eds,fun vs H' s1 r1 l=>⟨s1,r1,l.trans hn⟩⟩) fun us s1 ⟨vs,H1,I1,rv,s01,rp,l⟩=>⟨I1.kIn,?_⟩) he hpl
 have hl:us.length=ps.length:=by rw [<- rv.length];exact l
 have sp:ua X.K ps.length G vs H1 Q (fun c _ H'=>∃ C,c=.ref C/\ve X C σ H'):=by
  refine ⟨l,ds,r,rp,eG,?_⟩
  cases r with
  | ok d =>
   obtain ⟨ho,q⟩:=q
   intro v H' A s2 r2 nd
   have nA:∀ a∈A,H a=none:=fun a m=>by
    cases z:H a with
    | none=>rfl
    | some u=>have:=(r2.dom a m).2;rw [s01 a u z] at this;cases this
   exact q v H' A (.fresh (s01.trans s2) nA nd fun i a m=>(R.dom m).1) (R.grow (s01.trans s2)) (r2.thaw (R.fz.trans s01) ho)
  | error C=>exact fun H' s2=>⟨C,rfl,q H' (s01.trans s2) (R.grow (s01.trans s2))⟩
 have hB:=hb s1 us I1.kIn (by rw [List.append_nil];exact hl)
 rw [List.append_nil] at hB
 refine wpAny_call (codeAny_mono (F.run X.A X.stack s1 H1 ⟨us,[]⟩ us vs Q _ (hr.mono hk) I1.env0 hB rv sp) fun res s' hq=>?_)
 cases res with
 | error z =>
  obtain ⟨x',C,H',rfl,fly,C',e1,ok⟩:=hq
  cases e1
  exact ok pins H1 s1 x' s' I1 fly
 | ok fl =>
  cases fl with
  | ret u=>exact I1.after hq
  | next=>exact False.elim hq
  | brk=>exact False.elim hq
  | cont=>exact False.elim hq
def hV (i:Nat) (G:GX) (g:FA):SD:=fun δ=>(g δ).bind fun ds=>(G ds).bind fun r=>match r with
 | .ok d=>if own d=true then some (.nx (δ.set i (some d))) else none
 | .error C=>some (.ex C δ)
theorem Au (i:Nat) {X:Cx} {e:Expr} {G:GX} {g:FA} {pos pos':Pos} {x:Str} (hN:X.N.Nodup) (he:PE X e (Aa X G g)) (hi:X.N[i]? = some x:=by rfl) (hx:Loc X.env.scope x:=by first | exact Or.inl rfl | exact Or.inr rfl) (hs:swapsWith e (some (.Name x pos')) pos.line X.env=pure false:=by rfl)
 (hf:X.fn x=true \/ X.env.scope.names.lookup x=some .local:=by first | exact .inl rfl | exact .inr rfl | assumption):PMD X (.Assign [.Name x pos'] e pos) (hV i G g):=gh (qZ hN hi hx he hs hf) fun E σ H ⟨F,δ,r,⟨As,R⟩,q,k⟩=>by
 unfold hV at q
 obtain ⟨ds,eds,q⟩:=Za.mp q
 obtain ⟨r1,er,q⟩:=Za.mp q
 refine ⟨F,δ,As,ds,r1,R,eds,er,?_⟩
 cases r1 with
 | ok d =>
  dsimp only at q
  split at q
  . rename_i ho
    cases q
    exact ⟨ho,fun v H' A ev R' r'=>k (σ.set i (some v)) F H' (Same.refl F) (R'.setM i r' ev.nd ev.dj)⟩
  . cases q
 | error C=>cases q;exact fun H' s1 R'=>k σ F H' (Same.refl F) ⟨As,R'⟩
def Dq (X:Cx) (G:GX) (g:FA):TE:=fun σ H _=>∃ F δ As ds C,RepA X.K F H σ δ As/\g δ=some ds/\G ds=some (.error C)/\∀ H',Same H H'->RepA X.K F H' σ δ As->ve X C σ H'
theorem AF {X:Cx} {e:Expr} {es:List Expr} {g:FA} {pos p:Pos} {x:Str} {f:Addr} {G:GX} (hm:X.mg x=some (.ref f)) (kp:PySem.W.keepIn X.K (.ref f)=true) (ha:PE X e (Aa X G g)) (hg:Gl X x:=by rfl)
 (hdb:(x == ("__debug__":Str))=false:=by decide) (he:starEach (e :: es) X.env=(false,eval e X.env) :: starEach es X.env:=by rfl) (hpl:(backTo pos (starEach es X.env)).any (·.1)=false:=by rfl) :
 PE X (.Call (.Name x p) (e :: es) [] pos) (Dq X G g):=by
 intro pins s σ H Q I ⟨F0,δ,As,ds,C,R,eds,eG,q⟩
 refine wpAny_Call_Name_kw (iN I hg hm ?_ hdb)
 have hA:PA X (e :: es) (pC (Aa X G g) fun _ _ _=>False):=fX ha (fun _ _ _ _ _ _ _ z=>z.elim) he
 refine PySem.W.callWith_K (h₀:=X.base) I.ok.mod.kin kp (thn (hA pos pins s σ H (fun _ _=>False) I ?_) fun us s1 ⟨vs,H1,I1,rv,z⟩=>z.elim) he hpl
 exact ⟨F0,δ,As,ds,.error C,R,eds,eG,q⟩
def yb (G:GX) (g:FA):SD:=fun δ=>(g δ).bind fun ds=>(G ds).bind fun r=>match r with
 | .ok _=>none
 | .error C=>some (.ex C δ)
theorem Av {X:Cx} {e:Expr} {G:GX} {g:FA} {pos:Pos} (he:PE X e (Dq X G g)):PMD X (.Return (some e) pos) (yb G g):=gh (uH he) fun E σ H ⟨F,δ,r,⟨As,R⟩,q,k⟩=>by
 unfold yb at q
 obtain ⟨ds,eds,q⟩:=Za.mp q
 obtain ⟨r1,er,q⟩:=Za.mp q
 cases r1 with
 | ok d=>cases q
 | error C=>cases q;exact ⟨F,δ,As,ds,C,R,eds,er,fun H' s1 R'=>k σ F H' (Same.refl F) ⟨As,R'⟩⟩
theorem RepA.unset {K:PySem.W.Frag} {F H:Hp} {σ:L2.St} {δ:DS} {As:Nat->List Addr} (R:RepA K F H σ δ As) (i:Nat):gl K F H (σ.set i none) (δ.set i none):=by
 have R1:=R.drop i
 refine ⟨_,R1.fz,by rw [List.length_set];exact R1.len,fun j d q=>?_,R1.non,R1.nd,R1.dj⟩
 obtain ⟨v,h1,h2⟩:=R1.val j d q
 refine ⟨v,?_,h2⟩
 rw [List.getElem?_set] at q ⊢
 by_cases hj:i=j
 . subst hj
   rw [if_pos rfl] at q
   split at q <;> cases q
 . rw [if_neg hj];exact h1
theorem Cj {X:Cx} {body:List Stmt} {y n:Str} {b₀:Stmt} {suite:List Stmt} {np hp pos:Pos} {Cy:Addr} {sb sh:SD} (i:Nat) (sub:Addr->Bool) (hN:X.N.Nodup) (hm:X.mg y=some (.ref Cy)) (hc:PySem.W.isClsIn X.K Cy=true) (ht:PySem.W.typeIn X.K (.ref Cy)=some (.type "type"))
 (hbx:PySem.W.subIn X.K (.ref Cy) (.type "BaseException")=some true) (hsub:∀ C,sub C=true->PySem.W.subIn X.K (.ref C) (.ref Cy)=some true)
 (hb:∀ W pn,PMs (Cx.tried X W pn) body sb) (hh:∀ x,PMs (Cx.within X x) (b₀ :: suite) sh)
 (hst:X.stack=X.env :: X.outer:=by rfl) (hfr:X.env.frame=some X.env.locals:=by rfl) (hi:X.N[i]? = some n:=by rfl) (hl:X.env.scope.names.lookup n=some .local:=by rfl) (hg:Gl X y:=by rfl) (hd:(y == ("__debug__":Str))=false:=by decide) :
 PMD X (.Try body [.ExceptHandler (some (.Name y np)) (some n) (b₀ :: suite) hp] [] [] pos) (sL i sub sb sh):=by
 intro pins s σ H E I ⟨F0,δ,r,R,q,k⟩
 unfold sL at q
 obtain ⟨r1,e1,q⟩:=Za.mp q
 refine wpAny_Try_except ?_
 have hkd:(X.env.scope.kind == .class || (X.env.scope.kind == .module && X.env.locals != X.env.globals))=false:=by rw [I.ok.kind];rfl
 have fly:∀ C δ1,r1=.ex C δ1->∀ (W:Value->Shared->Prop),(∀ e s₁,W e s₁=wpAny (model X.prog X.w) X.A (noteFrame e X.env) (fun _ s₂=>wpAny (model X.prog X.w) X.A (setFlight e none) (fun _ s₃=>wpAny (model X.prog X.w) X.A (handleBy e X.env [.ExceptHandler (some (.Name y np)) (some n) (b₀ :: suite) hp]) (SP X pins E) X.xe s₃) X.xe s₂) X.xe s₁) ->
  ∀ σ' F' H',Same F0 F'->gl X.K F' H' σ' δ1->ve (Cx.tried X W (X.pn++pins)) C σ' H':=by
  intro C δ1 er W hW σ' F' H' sm R1 pins' H₀ s1 x s' I1 ⟨B,t,F,fl⟩
  have I1':L2.Inv X pins σ' H₀ s1:=gg I1
  subst er
  dsimp only at q
  cases hsb:sub C with
  | false=>rw [hsb] at q;cases q
  | true =>
   rw [hsb,if_pos rfl] at q
   obtain ⟨r2,e2,q⟩:=Za.mp q
   show W (.ref x) s'
   rw [hW]
   have hA:X.A.frames=some (X.env :: X.outer):=by rw [<- hst];exact I.ok.frames
   have fl0:Heap.FlyingW B X.stack x (.ref C) (.ref t) s'.heap:=fl
   have F0':FlyB X.prog X.w H₀ H' s1 X.stack B s':=F
   refine wpAny_looks_onW hA hfr (by rw [<- hst];exact fl0) fun h4 held4 up4=>?_
   rw [<- hst] at held4
   refine wpAny_landsW held4 fun h5 fl5 up5=>?_
   have F5:=(F0'.turn fl0.2.2.1 held4.1 up4).turn held4.2.2.1 fl5.1 up5
   have I5:=FlyB.inv I1' F5 fl5.1
   have p5:pe x C h5:=by
    obtain ⟨oe,vs,h1,h2,h3,_⟩:=fl5.first
    exact ⟨oe,vs,h1,h2,h3⟩
   refine wpAny_handleBy_cons (codeAny_handlers_test ?_) (by intro z;cases z)
   refine iN (X:=Cx.within X x) (kh I5 x) hg hm ?_ hd
   refine t9 I5.kIn p5 hc ht hbx (hsub C hsb) ?_
   refine codeAny_handlers_suite_as ?_
   refine lands_againW fl5 fun h6 fl6 up6=>?_
   have F6:=F5.turn fl5.2.2.1 fl6.1 up6
   have I6:=xB I1' F6 fl6
   refine jb (X:=Cx.within X x) (v:=.ref x) (kh I6 x) hN hi (Or.inl hl) rfl (fun s7 I7=>?_) (.inr hl)
   have sx:Same H' (upd H' x (z7 x C)):=dM (wA F6 fl6).2 _
   obtain ⟨As1,R1⟩:=R1
   have RM:gl X.K F' (upd H' x (z7 x C)) (σ'.set i (some (.ref x))) (δ1.set i (some (.exc C))):=(R1.grow sx).setM i (.imm rfl (.exc bc)) List.nodup_nil fun _ _ _ z=>nomatch z
   have z:=hh x pins s7 (σ'.set i (some (.ref x))) (upd H' x (z7 x C)) { nx:=fun σ2 H2=>E.nx (σ2.set i none) H2,rt:=E.rt } I7 ⟨F',δ1.set i (some (.exc C)),r2,RM,e2,?_⟩
   . refine wpAny_mono z (fun f s8 h8=>?_) fun _ _ z=>z.elim
     cases f with
     | next =>
      obtain ⟨σ2,H2,I8,q8⟩:=h8
      obtain ⟨m,hn8,hl8⟩:=id I8.loc
      refine wpAny_nameGoes_keeps hl hn8 hkd fun h9 v hn9 hs9=>⟨σ2.set i none,H2,?_,q8⟩
      exact tS (l5 I.ok I8) hN hi hl8 hn9 hs9 hn8
     | ret u =>
      obtain ⟨v,σ2,H2,I8,rv,q8⟩:=h8
      obtain ⟨m,hn8,hl8⟩:=id I8.loc
      refine wpAny_nameGoes_keeps hl hn8 hkd fun h9 v9 hn9 hs9=>⟨v,σ2.set i none,H2,?_,rv,q8⟩
      exact tS (l5 I.ok I8) hN hi hl8 hn9 hs9 hn8
     | brk=>obtain ⟨_,_,_,z⟩:=h8;exact z.elim
     | cont=>obtain ⟨_,_,_,z⟩:=h8;exact z.elim
   . cases r2 with
     | nx δ2=>cases q;exact fun σ2 F2 H2 s2 ⟨As2,R2⟩=>k (σ2.set i none) F2 H2 (sm.trans s2) (R2.unset i)
     | rt d=>cases q;exact fun v F2 H2 A s2=>k v F2 H2 A (sm.trans s2)
     | bk _=>cases q
     | ct _=>cases q
     | ex _ _=>cases q
     | mk _ _=>cases q
 have hB:=hb (fun e s₁=>wpAny (model X.prog X.w) X.A (noteFrame e X.env) (fun _ s₂=>wpAny (model X.prog X.w) X.A (setFlight e none) (fun _ s₃=>wpAny (model X.prog X.w) X.A (handleBy e X.env [.ExceptHandler (some (.Name y np)) (some n) (b₀ :: suite) hp]) (SP X pins E) X.xe s₃) X.xe s₂) X.xe s₁) (X.pn++pins) [] s σ H E (xw I _) ⟨F0,δ,r1,R,e1,?_⟩
 . refine wpAny_mono hB (fun f s1 h1=>?_) fun _ _ z=>z
   cases f with
   | next=>obtain ⟨σ2,H2,I2,q2⟩:=h1;exact wpAny_execs_nil ⟨σ2,H2,gg I2,q2⟩
   | brk=>obtain ⟨σ2,H2,I2,q2⟩:=h1;exact ⟨σ2,H2,gg I2,q2⟩
   | cont=>obtain ⟨σ2,H2,I2,q2⟩:=h1;exact ⟨σ2,H2,gg I2,q2⟩
   | ret u=>obtain ⟨v,σ2,H2,I2,rv,q2⟩:=h1;exact ⟨v,σ2,H2,gg I2,rv,q2⟩
 . cases r1 with
   | nx δ'=>cases q;exact k
   | rt d=>cases q;exact k
   | bk δ'=>cases q;exact k
   | ct δ'=>cases q;exact k
   | ex C δ1=>exact fly C δ1 rfl _ fun _ _=>rfl
   | mk C δ1=>cases q
end Dl
namespace Dl
open PySem PySem.Spec PyProof.Rows L2
structure z5 (P:Program) (w:World) (K:PySem.W.Frag) (mg:Str->Option Value) (base:Heap) (k:Nat) (f:Addr) (fd:FuncData) (ps:List Str) (sp:Sp):Prop where
 run:∀ (A:Around) (z:Addr) (outer:List Env) (s:Shared) (H:Hp) (args:Args) (us:List Value) (vs:List V) (Q:VK),Room k A->xO P w K mg base (A.mark (some (.ref z))) outer s H->BindsTo s fd args (ps.zip us)->Vals vs us->sp vs H Q E0 ->
  codeAny (model P w) (A.mark (some (.ref z))) (.call (.ref f) args) (CR CX0 outer P w H s Q E0) s
section
variable {P:Program} {w:World} {K:PySem.W.Frag} {mg:Str->Option Value} {base:Heap}
theorem yo {x qual:Str} {st:Stmt} {f:Addr} {fd:FuncData} {N ps:List Str} {k:Nat} {G:List D->Option D} (F:Fun K x qual st f fd) (S:aF N ps (ap st))
 (hbody:∀ (cdv:Value) (A:Around) (z:Addr) (outer:List Env) (s:Shared) (H:Hp) (E:XK) (ds:List D) (d:D),Room k (A.deeper (envOfC qual (ap st) s.heap.objs.size f cdv))->G ds=some d->ds.length=ps.length ->
  ∃ t,pc (Cx.within (gj CX0 P w K mg base N qual (ap st) f cdv A outer s H E) z) (bH st) t/\aI (t (start N.length ds))=some d):z5 P w K mg base (k+1) f fd ps (bi K ps.length G):=by
 obtain ⟨oc,od,kV,doc,pm,an,cdv,ct,osl,rfl,lk,hcd⟩:=F.ex
 refine ⟨fun A z outer s H args us vs Q hr e0 hb rv hsp=>?_⟩
 obtain ⟨hl,ds,d,rp,eG,q⟩:=hsp
 have KX:K.In s.heap:=e0.mod.kin.keeps fun b o e=>(e0.bs b o e).1
 have lim:s.heap.NoLimit:=e0.mod.nolimit.keeps fun b o e=>(e0.bs b o e).1
 have e1:xO P w K mg base A outer s H:=⟨e0.frames,e0.mod,e0.bs,e0.bsz,e0.funs,e0.frf,e0.hok,e0.bare⟩
 have hk:∀ y∈ps.zip us,(ap st).names.lookup y.1=some .local \/ ((ap st).names.lookup y.1=some .cell/\((cellsFrom (s.heap.objs.size+1) (ap st).names []).lookup y.1).isSome=true):=fun ⟨n,v⟩ hy =>
  (S.par n (List.of_mem_zip hy).1).elim .inl fun c=>.inr ⟨c,PySem.W.cellsFrom_some _ _ _ (.inl c)⟩
 refine codeAny_call_function (A:=A.mark (some (.ref z))) hr.depth (KX _ _ lk) rfl S.co S.gen rfl (PySem.W.codeRec_of KX hcd) (hb _ _ _ _ ?_)
 refine wpAny_newFunctionEnv_cells S.kind hk fun env he s1 x=>?_
 subst he
 refine ⟨lim.keeps x.toInCall.keep,codeAny_func ?_⟩
 obtain ⟨t,ht,hq⟩:=hbody cdv A z outer s H E0 ds d (hr.deeper _) eG (rp.length.symm.trans hl)
 have I0:L2.Inv (gj CX0 P w K mg base N qual (ap st) f cdv A outer s H E0) [] (L2.start N vs) H s1:=qj S hr.hd e1 hl rv x
 have I:=kh I0 z
 refine wpAny_mono (ht [] s1 (L2.start N vs) H { nx:=fun _ H'=>Q .non H',rt:=Q } I ⟨start N.length ds,?_⟩) (fun fl s' hs=>?_) fun e s' hs=>hs.elim
 . cases zz:t (start N.length ds) with
   | none=>rw [zz] at hq;cases hq
   | some res =>
    rw [zz] at hq
    refine ⟨res,RepS.start rp,rfl,?_⟩
    cases res with
    | rt d'=>cases hq;exact q
    | nx δ=>cases hq;exact fun σ' H' s1 _=>q _ H' s1 .non
    | bk δ=>cases hq
    | ct δ=>cases hq
    | ex C δ=>cases hq
    | mk C δ=>cases hq
 . have fin:∀ {σ':L2.St} {H':Hp} {v:V} {u:Value},L2.Inv (Cx.within (gj CX0 P w K mg base N qual (ap st) f cdv A outer s H E0) z) [] σ' H' s'->RelV v u->Q v H'->CE outer P w H s Q u s' :=
    fun {σ' H' v u} J r q=>⟨v,H',J.os,J.bare,J.base,J.hok,r,q⟩
   cases fl with
   | ret u=>obtain ⟨v,σ',H',J,r,q'⟩:=hs;exact fin J r q'
   | next=>obtain ⟨σ',H',J,q'⟩:=hs;exact fin (v:=V.non) (u:=Value.none) J rfl q'
   | brk=>obtain ⟨_,_,_,z⟩:=hs;exact z.elim
   | cont=>obtain ⟨_,_,_,z⟩:=hs;exact z.elim
structure Dn (P:Program) (w:World) (K:PySem.W.Frag) (mg:Str->Option Value) (base:Heap) (k:Nat) (x:Str) (ps:List Str) (G:List D->Option D):Prop where
 ex:∃ f fd,z5 P w K mg base k f fd ps (bi K ps.length G)/\mg x=some (.ref f)/\PySem.W.keepIn K (.ref f)=true/\Binds K fd ps []
end
theorem yI {X:Cx} {z:Addr} {e:Expr} {es:List Expr} {g:FA} {pos p:Pos} {k j:Nat} {x:Str} {ps:List Str} {G:List D->Option D} (F:Dn X.prog X.w X.K X.mg X.base k x ps G) (hr:Room j X.A) (ha:PAD (Cx.within X z) (e :: es) g) (hk:k<=j:=by decide) (hg:Gl X x:=by rfl)
 (hn:(e :: es).length=ps.length:=by rfl) (hdb:(x == ("__debug__":Str))=false:=by decide) (he:starEach (e :: es) X.env=(false,eval e X.env) :: starEach es X.env:=by rfl) (hpl:(backTo pos (starEach es X.env)).any (·.1)=false:=by rfl) :
 PD (Cx.within X z) (.Call (.Name x p) (e :: es) [] pos) (ak G g):=by
 intro pins s σ H Q I ⟨δ,d,R,q,k'⟩
 unfold ak at q
 obtain ⟨ds,eds,eG⟩:=Za.mp q
 obtain ⟨f,fd,F,hm,kp,hb⟩:=F.ex
 refine wpAny_Call_Name_kw (iN (X:=Cx.within X z) I hg hm ?_ hdb)
 refine PySem.W.callWith_K (h₀:=X.base) I.ok.mod.kin kp (thn (ha pos pins s σ H (fun vs H'=>Same H H'/\Reps X.K H' vs ds/\vs.length=ps.length) I ⟨δ,ds,R,eds,fun vs H' s1 r1 l=>⟨s1,r1,l.trans hn⟩⟩) fun us s1 ⟨vs,H1,I1,rv,s01,rp,l⟩=>⟨I1.kIn,?_⟩) he hpl
 have hl:us.length=ps.length:=by rw [<- rv.length];exact l
 have hB:=hb s1 us I1.kIn (by rw [List.append_nil];exact hl)
 rw [List.append_nil] at hB
 refine wpAny_call (codeAny_mono (F.run X.A z X.stack s1 H1 ⟨us,[]⟩ us vs Q (hr.mono hk) I1.env0 hB rv ⟨l,ds,d,rp,eG,fun v H' s2=>k' v H' (s01.trans s2)⟩) fun res s' hq=>?_)
 cases res with
 | error y=>exact hq.elim
 | ok fl =>
  cases fl with
  | ret u=>exact I1.after hq
  | next=>exact False.elim hq
  | brk=>exact False.elim hq
  | cont=>exact False.elim hq
end Dl
namespace Hd
open PySem PySem.Spec PyProof.Rows L2
theorem walkE {l:PySem.W.OpenLaw} {n k:Nat} {q:Program} {loose:List Str} {XP:(Str->Option Value)->Heap->Prop} {YP:World->Heap->Prop} {d:DefRec} {T:PySem.W.Frag->Prop} {sp:PySem.W.Frag->Sp} {x:Str}
 (hn:l.most=some n) (hn2:n<=sizeLine) (hdf:d.params.defaults=[]) (hr:Room k callerA)
 (hY:∀ (w:World) (h:Heap),YP w h->∃ K:PySem.W.Frag,K.In h/\T K)
 (F:∀ (w:World) (K:PySem.W.Frag) (mg:Str->Option Value) (fa:Addr) (h:Heap),T K->K.In h->h.Ns mainGlobals mg->mg d.name=some (.ref fa) ->
  ∃ fd:FuncData,(∀ (s:Shared) (u:Value),BindsTo s fd ⟨[u],[]⟩ [(x,u)]) /\
   ∀ base:Heap,K.In base->base.Ns mainGlobals mg->FnOk l.prog w K mg base CX0 k fa fd [x] (sp K))
 (hsp:∀ (K:PySem.W.Frag) (H:Hp) (a:Addr) (ns:List Int),ns.length<=n->Dk H->SqL K H a (ns.map V.int)->sp K [.ref a] H (fun v _=>v=.bl true) fun _ _ _=>False) :
 PySem.W.WalkO q loose XP YP l.row.toRowW d [] (fun f vs=>PySem.call f vs):=by
 refine Att.attach_call hn hdf fun w s₀ s₁ mg mb fa o pm cd doc a vs ns G Y ho hd hcd hmg hobj hints hlen hg=>?_
 obtain ⟨K,KX,hT⟩:=hY w _ Y
 obtain ⟨fd,hb,hF⟩:=F w K mg fa _ hT KX G.T.g hmg
 exact zj KX G.T.g G.T.b G.T.builtins G.T.nolimit hg hobj hints (Nat.le_trans hlen hn2) hr hF hb (fun H hO hS=>hsp K H a ns hlen hO hS) fun H e s' z=>z
end Hd
namespace Hd
open PySem PySem.Spec PyProof.Rows PySem.W
end Hd
namespace Mine
open PySem PySem.Spec PyProof.Rows L2 Dl
noncomputable section
open Mth
abbrev fr (p:Int×Int):D:=.tup [.int p.1,.int p.2]
def rO:D->Option Bool
 | .int _=>some true
 | .ty _=>none
 | .exc _=>none
 | .cls _=>none
 | .ms _ _=>none
 | .mf _ _=>none
 | .md _ _=>none
 | _=>some false
abbrev Md (x:Int):Prop:=Sm 4000 x
theorem Md.bd {x:Int} (h:Md x):Bd x:=h.mono (l:=9000) (by decide)
theorem oX {k:Nat} {x:Int} (h:Sm k x) (e:k<=9000:=by decide):Bd x:=h.mono (l:=9000) e
theorem dz {x:Int} (h:x.natAbs < 2 ^ 64:=by decide):Bd x:=oX (k:=64) h
theorem Dg {x:Int} (h:Bd x):Bd (-x):=by unfold Bd at *;rw [Int.natAbs_neg];exact h
structure Fk (p:Int×Int):Prop where
 pos:0 < p.2
 s1:Md p.1
 s2:Md p.2
theorem Fk.of {k:Nat} {p:Int×Int} (h:Fr k p) (e:k<=4000:=by decide):Fk p:=⟨h.pos,h.s1.mono e,h.s2.mono e⟩
def iT (ds:List D) (d:D):Prop:=∃ x b,rO x=some b/\ds=[x]/\d=.bl b
theorem fU {x:D} {b:Bool} (h:rO x=some b):fn iT [x]=some (.bl b):=cg (fun d' h'=>by
 obtain ⟨x',b',h1,h2,rfl⟩:=h'
 cases h2;rw [h] at h1;cases h1;rfl) ⟨x,b,h,rfl,rfl⟩
abbrev iU:=iT
def c8 (ds:List D) (d:D):Prop:=∃ a b,0 < b/\ds=[.int a,.int b]/\d=.int (gc a b)
theorem c5 {a b:Int} (h:0 < b):fn c8 [.int a,.int b]=some (.int (gc a b)):=cg (fun d' h'=>by
 obtain ⟨a',b',h1,h2,rfl⟩:=h'
 cases h2;rfl) ⟨a,b,h,rfl,rfl⟩
def oZ (ds:List D) (d:D):Prop:=∃ t b,0 < b/\Bd b/\ds=[.int t,.int b]/\d=fr (rd t b)
theorem ue {t b:Int} (h:0 < b) (g:Bd b):fn oZ [.int t,.int b]=some (fr (rd t b)):=cg (fun d' h'=>by
 obtain ⟨t',b',_,_,h2,rfl⟩:=h'
 cases h2;rfl) ⟨t,b,h,g,rfl,rfl⟩
def S2 (op:Int×Int->Int×Int->D) (ds:List D) (d:D):Prop:=∃ p q:Int×Int,Fk p/\Fk q/\ds=[fr p,fr q]/\d=op p q
theorem e2 {op:Int×Int->Int×Int->D} {p q:Int×Int} (h:Fk p) (g:Fk q):fn (S2 op) [fr p,fr q]=some (op p q):=cg (fun d' h'=>by
 obtain ⟨⟨a,b⟩,⟨c,e⟩,_,_,h2,rfl⟩:=h'
 obtain ⟨a',b'⟩:=p
 obtain ⟨c',e'⟩:=q
 cases h2;rfl) ⟨p,q,h,g,rfl,rfl⟩
abbrev gr:=S2 fun p q=>.bl (decide (p.1*q.2 < q.1*p.2))
theorem tT:∀ {ns ms:List Int},ns.map D.int=ms.map D.int->ns=ms
 | [],[],_=>rfl
 | [],_ :: _,h=>by cases h
 | _ :: _,[],h=>by cases h
 | n :: ns,m :: ms,h=>by
  have h':D.int n :: ns.map D.int=D.int m :: ms.map D.int:=h
  injection h' with h1 h2
  injection h1 with h1
  rw [h1,tT h2]
def cell (ns:List Int) (k:Int):Int:=ns.getD k.toNat 0
def aA (ds:List D) (d:D):Prop:=∃ (ns:List Int) (k:Int),0<=k/\ds=[.seq (ns.map D.int),.int k]/\d=.int (cell ns k)
theorem gP {ns:List Int} {k:Int} (h:0<=k):fn aA [.seq (ns.map D.int),.int k]=some (.int (cell ns k)):=cg (fun d' h'=>by
 obtain ⟨ns',k',_,h2,rfl⟩:=h'
 injection h2 with h3 h4
 injection h3 with h3
 injection h4 with h4
 injection h4 with h4
 rw [tT h3,h4]) ⟨ns,k,h,rfl,rfl⟩
structure Flw (p:Int×Int):Prop extends Fk p where
 lw:Lw p
theorem Flw.of {k:Nat} {p:Int×Int} (h:Fr k p) (e:k<=4000:=by decide):Flw p:=⟨Fk.of h e,h.lw⟩
def S2w (op:Int×Int->Int×Int->D) (ds:List D) (d:D):Prop:=∃ p q:Int×Int,Flw p/\Flw q/\ds=[fr p,fr q]/\d=op p q
theorem e2w {op:Int×Int->Int×Int->D} {p q:Int×Int} (h:Flw p) (g:Flw q):fn (S2w op) [fr p,fr q]=some (op p q):=cg (fun d' h'=>by
 obtain ⟨⟨a,b⟩,⟨c,e⟩,_,_,h2,rfl⟩:=h'
 obtain ⟨a',b'⟩:=p
 obtain ⟨c',e'⟩:=q
 cases h2;rfl) ⟨p,q,h,g,rfl,rfl⟩
def iC (ds:List D) (d:D):Prop:=∃ p q:Int×Int,Flw p/\Flw q/\ds=[fr p,.int q.1,.int q.2]/\d=fr (sm p.1 p.2 q.1 q.2)
theorem ud {p q:Int×Int} (h:Flw p) (g:Flw q):fn iC [fr p,.int q.1,.int q.2]=some (fr (sm p.1 p.2 q.1 q.2)):=cg (fun d' h'=>by
 obtain ⟨⟨a,b⟩,⟨c,e⟩,_,_,h2,rfl⟩:=h'
 obtain ⟨a',b'⟩:=p
 obtain ⟨c',e'⟩:=q
 cases h2;rfl) ⟨p,q,h,g,rfl,rfl⟩
theorem Flw.neg {p:Int×Int} (h:Flw p):Flw (-p.1,p.2):=⟨⟨h.pos,h.s1.neg,h.s2⟩,h.lw.neg⟩
theorem kc {x g:Int} (h:Md x) (hg:0 < g) (d:g ∣ x):Bd (x / g):=(Sm.div h hg d).mono (l:=9000) (by decide)
abbrev vf:=S2w fun p q=>fr (pl p q)
abbrev ny:=S2w fun p q=>fr (mi p q)
abbrev wR:=S2w fun p q=>fr (ti p q)
def bdD:Bn->D
 | none=>.non
 | some (n,s)=>.tup [.int n,.bl s]
theorem zW:bdD none=.non:=rfl
theorem cG (n:Int) (s:Bool):bdD (some (n,s))=.tup [.int n,.bl s]:=rfl
theorem jL {a b:Bn} (h:bdD a=bdD b):a=b:=by
 rcases a with _ | ⟨n,s⟩ <;> rcases b with _ | ⟨m,t⟩
 . rfl
 . cases h
 . cases h
 . cases h;rfl
def Bk (k:Nat):Bn->Prop
 | none=>True
 | some (n,_)=>Sm k n
theorem Bk.mono {k l:Nat} {b:Bn} (h:Bk k b) (e:k<=l):Bk l b:=by
 rcases b with _ | ⟨n,s⟩
 . trivial
 . exact Sm.mono (show Sm k n from h) e
theorem Bk.sum {k:Nat} {a b:Bn} (h:Bk k a) (g:Bk k b):Bk (k+1) (bs a b):=by
 rcases a with _ | ⟨n,s⟩
 . trivial
 rcases b with _ | ⟨m,t⟩
 . trivial
 . exact Sm.add (show Sm k n from h) (show Sm k m from g)
theorem AT (n:Int):low n 1=(n,1):=by
 rw [AS (by decide)]
 exact sU ⟨by decide,by unfold gc;simp⟩
def bu (ds:List D) (d:D):Prop:=∃ t b,b ≠ 0/\Bd b/\ds=[.int t,.int b]/\d=fr (low t b)
theorem oN {t b:Int} (h:b ≠ 0) (g:Bd b):fn bu [.int t,.int b]=some (fr (low t b)):=cg (fun d' h'=>by
 obtain ⟨t',b',_,_,h2,rfl⟩:=h'
 cases h2;rfl) ⟨t,b,h,g,rfl,rfl⟩
theorem bG {n:Int}:dfl (fn bu) [1] [.int n]=some (.tup [.int n,.int 1]):=by
 have h:=oN (t:=n) (b:=1) (by decide) dz
 rw [AT] at h
 exact h
def iS (ds:List D) (d:D):Prop:=∃ (p:Int×Int) (b:Bn),Fk p/\Bk 4000 b/\ds=[fr p,bdD b]/\d=.bl (kp p b)
theorem rV {p:Int×Int} {b:Bn} (h:Fk p) (g:Bk 4000 b):fn iS [fr p,bdD b]=some (.bl (kp p b)):=cg (fun d' h'=>by
 obtain ⟨⟨a,b'⟩,c,_,_,h2,rfl⟩:=h'
 obtain ⟨x,y⟩:=p
 injection h2 with h3 h4
 injection h4 with h4 _
 cases h3
 rw [jL h4]) ⟨p,b,h,g,rfl,rfl⟩
def eW (ds:List D) (d:D):Prop:=∃ a b:Bn,ds=[bdD a,bdD b]/\d=.bl (tgt a b)
theorem jJ {a b:Bn}:fn eW [bdD a,bdD b]=some (.bl (tgt a b)):=cg (fun d' h'=>by
 obtain ⟨a',b',h2,rfl⟩:=h'
 injection h2 with h3 h4
 injection h4 with h4 _
 rw [jL h3,jL h4]) ⟨a,b,rfl,rfl⟩
abbrev bo:=eW
theorem DI (b:Bn):sh (bdD b)=bdD b:=by rcases b with _ | ⟨n,s⟩ <;> rfl
theorem iP (b:Bn):imm (bdD b)=true:=by rcases b with _ | ⟨n,s⟩ <;> rfl
theorem Cw (b:Bn):own (bdD b)=true:=by rcases b with _ | ⟨n,s⟩ <;> rfl
def bh (r:List Bn):List D:=r.map bdD
theorem mO:∀ (r:List Bn),shs (bh r)=bh r
 | []=>rfl
 | b :: r=>by show sh (bdD b) :: shs (bh r)=_;rw [DI,mO r];rfl
theorem tV:∀ (r:List Bn),cA (bh r)=true
 | []=>rfl
 | b :: r=>by show (imm (bdD b) && cA (bh r))=true;rw [iP,tV r];rfl
theorem nZ:∀ (r:List Bn),hX (bh r)=true
 | []=>rfl
 | b :: r=>by show (own (bdD b) && hX (bh r))=true;rw [Cw,nZ r];rfl
def eR (T:List (List Bn)):List D:=T.map fun r=>.seq (bh r)
def bI (T:List (List Bn)):List D:=T.map fun r=>.lst (bh r)
def az (T:List (List Bn)):D:=.seq (eR T)
def ay (T:List (List Bn)):D:=.lst (bI T)
theorem pG:∀ (T:List (List Bn)),shs (bI T)=eR T
 | []=>rfl
 | r :: T=>by show sh (.lst (bh r)) :: shs (bI T)=_;rw [pG T,sh,mO];rfl
theorem pF:∀ (T:List (List Bn)),shs (eR T)=eR T
 | []=>rfl
 | r :: T=>by show sh (.seq (bh r)) :: shs (eR T)=_;rw [pF T,sh,mO];rfl
theorem qP (T:List (List Bn)):sh (ay T)=az T:=by unfold ay az;rw [sh,pG]
theorem kw (T:List (List Bn)):sh (az T)=az T:=by unfold az;rw [sh,pF]
theorem nY:∀ (T:List (List Bn)),hX (bI T)=true
 | []=>rfl
 | r :: T=>by show (own (.lst (bh r)) && hX (bI T))=true;rw [own,nZ,nY T];rfl
theorem bP (T:List (List Bn)):own (ay T)=true:=by unfold ay;rw [own];exact nY T
theorem sP:∀ {r s:List Bn},bh r=bh s->r=s
 | [],[],_=>rfl
 | [],_ :: _,h=>by cases h
 | _ :: _,[],h=>by cases h
 | a :: r,b :: s,h=>by
  have h':bdD a :: bh r=bdD b :: bh s:=h
  injection h' with h1 h2
  rw [jL h1,sP h2]
theorem pN:∀ {T U:List (List Bn)},eR T=eR U->T=U
 | [],[],_=>rfl
 | [],_ :: _,h=>by cases h
 | _ :: _,[],h=>by cases h
 | a :: r,b :: s,h=>by
  have h':D.seq (bh a) :: eR r=D.seq (bh b) :: eR s:=h
  injection h' with h1 h2
  injection h1 with h1
  rw [sP h1,pN h2]
theorem nG {T U:List (List Bn)} (h:az T=az U):T=U:=by
 unfold az at h
 injection h with h
 exact pN h
structure Sq (T:List (List Bn)) (m:Nat):Prop where
 len:T.length=m
 row:∀ r∈T,r.length=m
theorem kW {α:Type} {f g:α->D} {F:D->Option D}:∀ {xs:List α},(∀ x∈xs,F (f x)=some (g x))->lJ F (xs.map f)=some (xs.map g)
 | [],_=>rfl
 | x :: xs,h=>by
  show ((F (f x)).bind fun y=>(lJ F (xs.map f)).bind fun ys=>some (y :: ys))=_
  rw [h x Zk,kW fun y m=>h y (Zl _ m)]
  rfl
theorem EC (n:Nat) (b:Bn):eqN (n+1) (bdD b) (bdD b)=some true:=by
 rcases b with _ | ⟨k,s⟩
 . rfl
 . cases n with
   | zero=>show eqL (eqN 0) [D.int k,D.bl s] [D.int k,D.bl s]=_;simp [eqL,eqN,oF,wB,eqF]
   | succ n=>show eqL (eqN (n+1)) [D.int k,D.bl s] [D.int k,D.bl s]=_;simp [eqL,eqN,oF,wB,eqF]
theorem uc {f:D->D->Option Bool}:∀ {ds:List D},(∀ d∈ds,f d d=some true)->eqL f ds ds=some true
 | [],_=>rfl
 | d :: ds,h=>by
  show ((f d d).bind fun x=>(eqL f ds ds).bind fun y=>some (x && y))=_
  rw [h d Zk,uc fun e m=>h e (Zl _ m)]
  rfl
theorem C7 (n:Nat) (r:List Bn):eqL (eqN (n+1)) (bh r) (bh r)=some true:=uc fun d m=>by
 obtain ⟨b,_,rfl⟩:=Zn.mp m
 exact EC n b
def ao (T:List (List Bn)) (i j:Nat):Bn:=(T.getD i []).getD j none
def kA (T:List (List Bn)) (i j:Nat) (b:Bn):List (List Bn):=T.set i ((T.getD i []).set j b)
theorem vA {T:List (List Bn)} {m i j:Nat} {b:Bn} (h:Sq T m) (hi:i < m):Sq (kA T i j b) m:=by
 refine ⟨by unfold kA;rw [List.length_set];exact h.len,fun r hr=>?_⟩
 rcases List.mem_or_eq_of_mem_set hr with z | z
 . exact h.row r z
 . rw [z,List.length_set,Zs,Zt (by rw [h.len];exact hi)]
   exact h.row _ (List.getElem_mem _)
theorem ie {α:Type} {xs:List α} {j:Nat} {v:α} (h:xs[j]? = some v):L2.atI xs (j:Int)=some v:=L2.atI_nat h
theorem kg {n j:Nat} (h:j < n):L2.ixN n (j:Int)=some j:=by
 unfold L2.ixN
 rw [if_pos (by omega),if_pos (by omega)]
 simp
theorem gO {T:List (List Bn)} {m i:Nat} (h:Sq T m) (hi:i < m):∃ r,T[i]? = some r/\T.getD i []=r/\r.length=m:=by
 have hl:i < T.length:=by rw [h.len];exact hi
 refine ⟨T[i],Zt hl,?_,h.row _ (List.getElem_mem _)⟩
 rw [Zs,Zt hl];rfl
theorem gN {T:List (List Bn)} {m i j:Nat} (h:Sq T m) (hi:i < m) (hj:j < m):∃ r,gIx (ay T) (.int (i:Int))=some (.lst (bh r))/\gIx (.lst (bh r)) (.int (j:Int))=some (bdD (ao T i j))/\(bI T)[i]? = some (.lst (bh r))/\r.length=m/\T.getD i []=r:=by
 obtain ⟨r,h1,h2,h3⟩:=gO h hi
 have hx:(bI T)[i]? = some (.lst (bh r)):=by unfold bI;rw [List.getElem?_map,h1];rfl
 refine ⟨r,ie hx,?_,hx,h3,h2⟩
 show L2.atI (bh r) (j:Int)=_
 refine ie ?_
 unfold bh ao
 rw [List.getElem?_map,h2,Zs,Zt (by omega)]
 rfl
theorem lM {T:List (List Bn)} {m i j:Nat} (h:Sq T m) (hi:i < m) (hj:j < m):∃ r,gIx (az T) (.int (i:Int))=some (.seq (bh r))/\gIx (.seq (bh r)) (.int (j:Int))=some (bdD (ao T i j)):=by
 obtain ⟨r,h1,h2,h3⟩:=gO h hi
 have hx:(eR T)[i]? = some (.seq (bh r)):=by unfold eR;rw [List.getElem?_map,h1];rfl
 refine ⟨r,ie hx,?_⟩
 show L2.atI (bh r) (j:Int)=_
 refine ie ?_
 unfold bh ao
 rw [List.getElem?_map,h2,Zs,Zt (by omega)]
 rfl
theorem lu {T:List (List Bn)} {i j:Nat} {b:Bn} {r:List Bn} (h:T.getD i []=r):(bI T).set i (.lst ((bh r).set j (bdD b)))=bI (kA T i j b):=by
 unfold bI kA bh
 rw [h,List.map_set,List.map_set]
theorem eU (T:List (List Bn)):(bI T).length=T.length:=by simp [bI]
theorem jo (r:List Bn):(bh r).length=r.length:=by simp [bh]
def IsT (d:D) (T:List (List Bn)):Prop:=sh d=az T
theorem iO (T:List (List Bn)):IsT (ay T) T:=qP T
theorem fY (T:List (List Bn)):IsT (az T) T:=kw T
theorem IsT.inj {d:D} {T U:List (List Bn)} (h:IsT d T) (g:IsT d U):T=U:=nG (h.symm.trans g)
theorem uR (r:List Bn) (δ:DS):lL (.lst (bh r)) δ=some (.lst (bh r),δ):=if_pos (tV r)
theorem oP (r:List Bn) (tl:DS):Dl.ownOf (gS (aa (ae 0) af)) (shO (some (.seq (bh r)) :: tl))=some (.lst (bh r)):=by
 have e:shO (some (.seq (bh r)) :: tl)=some (.seq (bh r)) :: shO tl:=by
  show some (sh (.seq (bh r))) :: _=_
  rw [sh,mO]
  rfl
 rw [e]
 show (((lL (.lst (bh r)) _)).bind _)=_
 rw [uR]
 show (if own (.lst _)=true then _ else _)=_
 rw [if_pos (by rw [own];exact nZ _)]
theorem nE {T:List (List Bn)} {m:Nat} (hs:Sq T m) (hm:m<=41) {δ:DS} {i:Nat} {js:List Nat} (hj:δ[i]? = some (some (az T))) :
 eX (fun δ=>((ae i) δ).bind asL) js (gS (aa (ae 0) af)) δ=some (ay T,δ):=by
 unfold eX
 have e:((ae i) δ).bind asL=some (eR T):=by unfold ae;rw [hj];rfl
 dsimp only
 rw [e]
 show ((lJ _ (eR T)).bind _)=_
 unfold eR
 rw [kW (g:=fun r=>.lst (bh r)) fun r _=>oP r _]
 show (if (bI T).length<=1000 then _ else _)=_
 rw [if_pos (by rw [eU,hs.len];omega)]
 rfl
theorem kr {δ:DS} {i:Nat} {b:Bn} (h:δ[i]? = some (some (bdD b))):bE i δ=some (bdD b,δ):=by
 unfold bE
 rw [h]
 rcases b with _ | ⟨n,s⟩ <;> rfl
theorem qS {T:List (List Bn)} {m i j:Nat} {b:Bn} (hs:Sq T m) (hi:i < m) (hj:j < m) {δ δ':DS} {p:Nat} {fk fl:FD} {fm:FM} (h0:fm δ=some (bdD b,δ')) (h1:δ'[p]? = some (some (ay T))) (h2:fk δ'=some (.int (i:Int))) (h3:fl δ'=some (.int (j:Int))) :
 fM p fk fl fm δ=some (.nx (δ'.set p (some (ay (kA T i j b))))):=by
 obtain ⟨w,q1,q2,q3,q4,q5⟩:=gN hs hi hj
 unfold fM
 rw [h0]
 show (if imm (bdD b)=true then _ else _)=_
 rw [if_pos (iP b)]
 dsimp only
 rw [h1]
 unfold ay
 dsimp only
 rw [h2,h3]
 dsimp only [Option.bind_some]
 rw [kg (show i < (bI T).length by rw [eU,hs.len];exact hi)]
 dsimp only [Option.bind_some]
 rw [q3]
 dsimp only [Option.bind_some]
 rw [kg (show j < (bh w).length by rw [jo,q4];exact hj)]
 dsimp only [Option.bind_some]
 rw [lu q5]
abbrev xQ (ds:List D) (d:D):Prop:=∃ (d0:D) (T:List (List Bn)) (m:Nat),IsT d0 T/\Sq T m/\m<=41/\ds=[d0]/\d=ay T
def pb (ds:List D) (d:D):Prop:=xQ ds d
theorem zL {d0:D} {T:List (List Bn)} {m:Nat} (h:IsT d0 T) (hs:Sq T m) (hm:m<=41):fn pb [d0]=some (ay T):=cg (fun d' h'=>by
 obtain ⟨d1,U,m',g,_,_,h2,rfl⟩:=h'
 cases h2
 rw [h.inj g]) ⟨d0,T,m,h,hs,hm,rfl,rfl⟩
theorem d7 {s:SD} {δ:DS} {d:D} (h:s δ=some (.rt d)):aI (s δ)=some d:=by rw [h];rfl
theorem au {s u:SD} {δ δ':DS} {r:Res} (h:s δ=some (.nx δ')) (g:u δ'=some r):aC s u δ=some r:=by unfold aC;rw [h];exact g
theorem be {i:Nat} {f:FM} {δ δ':DS} {d:D} (h:f δ=some (d,δ')):aB i f δ=some (.nx (δ'.set i (some d))):=by unfold aB;rw [h];rfl
theorem bV {f:FM} {δ δ':DS} {d:D} (h:f δ=some (d,δ')):cD f δ=some (.rt d):=by unfold cD;rw [h];rfl
theorem By {c:FT} {s u:SD} {δ:DS} {r:Res} {b:Bool} (h:c δ=some b) (g:(if b then s δ else u δ)=some r):sIf c s u δ=some r:=by unfold sIf;rw [h];cases b <;> exact g
theorem vv {i:Nat} {f:FD} {δ:DS} {d:D} (h:f δ=some d):fQ i f δ=some (.nx (δ.set i (some d))):=by unfold fQ;rw [h];rfl
theorem Af {f:FD} {δ:DS} {d:D} (h:f δ=some d):dJ f δ=some (.rt d):=by unfold dJ;rw [h];rfl
theorem bW {src:FMA} {i:Nat} {s:SD} {δ δ':DS} {ds:List D} {r:Res} (h:src δ=some (ds,δ')) (g:Dl.forM i s ds δ'=some r):dE src i s δ=some r:=by unfold dE;rw [h];exact g
theorem Ad {i:Nat} {δ:DS} {d:D} {ds:List D} (h:δ[i]? = some (some d)) (g:sh d=.seq ds) (k:sh (.seq ds)=.seq ds):vk (j2 i) δ=some (ds,δ.set i (some (.seq ds))):=by
 unfold vk j2
 rw [h]
 simp only [Zc,g,k]
theorem bB {f:FD} {δ:DS} {d:D} (h:f δ=some d) (g:imm d=true:=by rfl):vI f δ=some (d,δ):=by unfold vI;rw [h];exact if_pos g
theorem dZ {G:List D->Option D} {g:FA} {δ:DS} {ds:List D} {d:D} (h:g δ=some ds) (k:G ds=some d) (o:own d=true):dL G g δ=some (d,δ):=by unfold dL;rw [h];show ((G ds).bind _)=_;rw [k];exact if_pos o
theorem iE {i:Nat} {δ:DS} {ds:List D} (h:δ[i]? = some (some (.lst ds))):bE i δ=some (.lst ds,δ.set i none):=by unfold bE;rw [h];rfl
theorem gf:∀ (ns:List Int),shs (ns.map D.int)=ns.map D.int
 | []=>rfl
 | n :: ns=>by show sh (.int n) :: shs (ns.map D.int)=_;rw [gf ns];rfl
theorem dP (i j:Int):eP (.int i) (.int j)=some (.bl (i == j)):=rfl
theorem x0 {δ:DS} {i:Nat} {ds:List D} (h:δ[i]? = some (some (.lst ds))):ly i δ=some (.nx (δ.set i (some (.lst [])))):=by unfold ly;rw [h]
theorem fa2 {f g:FD} {δ:DS} {a b:D} (h:f δ=some a) (k:g δ=some b):aa f (aa g af) δ=some [a,b]:=by
 unfold aa af
 rw [h,k]
 rfl
theorem lN {i:Nat} {s:SD} (P:DS->Prop):∀ (ds:List D) (δ:DS),P δ->(∀ d∈ds,∀ δ,P δ->∃ δ2,s (δ.set i (some (sh d)))=some (.nx δ2)/\P δ2)->∃ δ',Dl.forM i s ds δ=some (.nx δ')/\P δ'
 | [],δ,p,_=>⟨δ,rfl,p⟩
 | d :: ds,δ,p,h=>by
  obtain ⟨δ2,h2,h3⟩:=h d Zk δ p
  obtain ⟨δ',h4,h5⟩:=lN P ds δ2 h3 fun e he=>h e (Zl _ he)
  refine ⟨δ',?_,h5⟩
  simp only [Dl.forM,h2,Zc,h4]
theorem bQ {c:FT} {s u:SD} {δ:DS} {r:Res} (h:c δ=some false) (g:u δ=some r):sIf c s u δ=some r:=by unfold sIf;rw [h];exact g
theorem dc {c:FT} {s u:SD} {δ:DS} {r:Res} (h:c δ=some true) (g:s δ=some r):sIf c s u δ=some r:=by unfold sIf;rw [h];exact g
theorem gT {s u:SD} {δ:DS} {d:D} (h:s δ=some (.rt d)):aC s u δ=some (.rt d):=by unfold aC;rw [h];rfl
theorem j3 (i:Int):sh (.int i)=.int i:=rfl
theorem cE {α:Type} {i:Nat} {s:SD} {f:α->D} (P:List α->DS->Prop) (all:List α) (step:∀ (pre:List α) (x:α) (post:List α) (δ:DS),all=pre++x :: post->P pre δ->∃ δ2,s (δ.set i (some (sh (f x))))=some (.nx δ2)/\P (pre++[x]) δ2) :
 ∀ (xs pre:List α) (δ:DS),all=pre++xs->P pre δ->∃ δ',Dl.forM i s (xs.map f) δ=some (.nx δ')/\P all δ'
 | [],pre,δ,e,p=>⟨δ,rfl,by rw [e,List.append_nil];exact p⟩
 | x :: xs,pre,δ,e,p=>by
  obtain ⟨δ2,h2,h3⟩:=step pre x xs δ e p
  obtain ⟨δ',h4,h5⟩:=cE P all step xs (pre++[x]) δ2 (by rw [e,List.append_assoc];rfl) h3
  refine ⟨δ',?_,h5⟩
  simp only [Zr,Dl.forM,h2,Zc,h4]
theorem oE {α:Type} {i:Nat} {s:SD} {f:α->D} {d:D} (P:DS->Prop) (b:α->Bool):∀ (xs:List α) (δ:DS),P δ->(∀ x∈xs,∀ δ,P δ->(b x=true->∃ δ2,s (δ.set i (some (sh (f x))))=some (.nx δ2)/\P δ2)/\(b x=false->s (δ.set i (some (sh (f x))))=some (.rt d))) ->
 (xs.all b=true->∃ δ',Dl.forM i s (xs.map f) δ=some (.nx δ')/\P δ')/\(xs.all b=false->Dl.forM i s (xs.map f) δ=some (.rt d))
 | [],δ,p,_=>⟨fun _=>⟨δ,rfl,p⟩,fun h=>by cases h⟩
 | x :: xs,δ,p,h=>by
  obtain ⟨h1,h2⟩:=h x Zk δ p
  cases hb:b x with
  | false =>
   refine ⟨fun q=>(by rw [List.all_cons,hb] at q;cases q),fun _=>?_⟩
   simp only [Zr,Dl.forM,h2 hb,Zc]
  | true =>
   obtain ⟨δ2,g1,g2⟩:=h1 hb
   obtain ⟨k1,k2⟩:=oE P b xs δ2 g2 fun y hy=>h y (Zl _ hy)
   rw [List.all_cons,hb,Bool.true_and]
   refine ⟨fun q=>?_,fun q=>?_⟩
   . obtain ⟨δ',k3,k4⟩:=k1 q
     refine ⟨δ',?_,k4⟩
     simp only [Zr,Dl.forM,g1,Zc,k3]
   . simp only [Zr,Dl.forM,g1,Zc,k2 q]
theorem gD {α:Type} {src:FA} {js:List Nat} {felt:FM} {δ:DS} {xs:List α} {f g:α->D} (hs:src δ=some (xs.map f)) (h:∀ x∈xs,Dl.ownOf felt (shO (some (f x) :: bv js δ))=some (g x)) (hl:xs.length<=1000):eX src js felt δ=some (.lst (xs.map g),δ):=by
 unfold eX
 rw [hs]
 show ((lJ _ (xs.map f)).bind _)=_
 rw [kW h]
 exact if_pos (by rw [Zi];exact hl)
theorem yJ {felt:FM} {δ δ':DS} {d:D} (h:felt δ=some (d,δ')) (o:own d=true):Dl.ownOf felt δ=some d:=by unfold Dl.ownOf;rw [h];exact if_pos o
theorem kN (n:Nat):fF 0 (n:Int) 1=(List.range n).map fun (i:Nat)=>D.int (i:Int):=by
 have e:(((n:Int) - 0+1 - 1) / 1).toNat=n:=by omega
 unfold fF
 rw [e]
 congr 1
 funext i
 congr 1
 omega
theorem wN {b:Int} (h:0<=b) (g:b<=1000):asR [.int b]=some (fF 0 b 1):=by
 show (if -(2 ^ 62)<=b/\b < 2 ^ 62 then some (fF 0 b 1) else none)=_
 rw [if_pos (by omega)]
theorem BS {n:Nat} (h:n<=1000):asR [.int (n:Int)]=some ((List.range n).map fun (i:Nat)=>D.int (i:Int)):=by
 rw [wN (by omega) (by omega),kN]
theorem xW {g:FA} {δ:DS} {b:Int} (h:g δ=some [.int b]) (l:0<=b) (k:b<=1000):cB g δ=some (fF 0 b 1,δ):=by
 unfold cB
 rw [h]
 show ((asR [.int b]).bind _)=_
 rw [wN l k]
 rfl
theorem eD {g:FA} {δ:DS} {n:Nat} (h:g δ=some [.int (n:Int)]) (l:n<=1000):cB g δ=some ((List.range n).map fun (i:Nat)=>D.int (i:Int),δ):=by
 rw [xW h (by omega) (by omega),kN]
theorem vx {g:FA} {δ:DS} {ds xs:List D} (h:g δ=some ds) (k:asR ds=some xs):me g δ=some xs:=by unfold me;rw [h];exact k
theorem bA {n:Nat} {pre post:List Nat} {x:Nat} (h:List.range n=pre++x :: post):x=pre.length/\pre.length < n:=by
 have hl:pre.length < n:=by
  have:=congrArg List.length h
  rw [List.length_range,Zh,List.length_cons] at this
  omega
 have h1:(List.range n)[pre.length]? = some x:=by rw [h,List.getElem?_append_right (Nat.le_refl _),Nat.sub_self];rfl
 rw [List.getElem?_range hl] at h1
 exact ⟨(Option.some.inj h1).symm,hl⟩
theorem uA {δ:DS} {i:Nat} {fm:FM} {ds:List D} {d:D} (h:δ[i]? = some (some (.lst ds))) (g:fm δ=some (d,δ)) (l:ds.length<=999):qT i fm δ=some (.nx (δ.set i (some (.lst (ds++[d]))))):=by
 unfold qT
 rw [h]
 dsimp only
 rw [g]
 dsimp only [Option.bind_some]
 rw [h]
 exact if_pos l
theorem qF {fa fb:FD} {δ:DS} {a b:D} {xs ys:List D} (h:fa δ=some a) (g:fb δ=some b) (h':asL a=some xs) (g':asL b=some ys) (l:xs.length+ys.length<=1000) (m:cA (xs++ys)=true):ii fa fb δ=some (.lst (xs++ys),δ):=by
 have e:wn a b=some (.lst (xs++ys)):=by
  unfold wn
  rw [h',g']
  exact if_pos l
 unfold ii f2
 rw [h]
 dsimp only [Option.bind_some]
 rw [g]
 dsimp only [Option.bind_some]
 rw [e]
 exact if_pos m
theorem DH {is:List Nat} {fm:FM} {δ δ':DS} {ds:List D} (h:fm δ=some (.tup ds,δ')) (l:ds.length=is.length) (i:tU is δ'.length=true):sJ is fm δ=some (.nx (sA is ds δ')):=by
 unfold sJ
 rw [h]
 dsimp only [Option.bind_some]
 rw [if_pos ⟨l,i⟩]
theorem C6 {f g:FD} {δ:DS} {a b:D} (h:f δ=some a) (k:g δ=some b):cV (aa f (aa g af)) δ=some (.tup [a,b]):=by
 unfold cV
 rw [fa2 h k]
 rfl
theorem qE {f g:FM} {δ δ1 δ2:DS} {a b:D} (h:f δ=some (a,δ1)) (k:g δ1=some (b,δ2)):kq (cZ f (cZ g ig)) δ=some (.tup [a,b],δ2):=by
 unfold kq cZ
 rw [h]
 dsimp only [Option.bind_some]
 rw [k]
 rfl
theorem fa3 {f g e:FD} {δ:DS} {a b c:D} (h:f δ=some a) (k:g δ=some b) (l:e δ=some c):aa f (aa g (aa e af)) δ=some [a,b,c]:=by
 unfold aa af
 rw [h,k,l]
 rfl
theorem tY (ps:List (Int×Int)):cA (ps.map fr)=true:=imms_mem.mpr fun d m=>by obtain ⟨p,_,rfl⟩:=Zn.mp m;rfl
theorem gM:∀ (ps:List (Int×Int)),hX (ps.map fr)=true
 | []=>rfl
 | p :: ps=>by show (own (fr p) && hX (ps.map fr))=true;rw [gM ps];rfl
theorem qO:∀ (ps:List (Int×Int)),shs (ps.map fr)=ps.map fr
 | []=>rfl
 | p :: ps=>by show sh (fr p) :: shs (ps.map fr)=_;rw [qO ps];rfl
theorem nq:∀ {ps qs:List (Int×Int)},ps.map fr=qs.map fr->ps=qs
 | [],[],_=>rfl
 | [],_ :: _,h=>by cases h
 | _ :: _,[],h=>by cases h
 | (a,b) :: ps,(c,e) :: qs,h=>by
  have h':fr (a,b) :: ps.map fr=fr (c,e) :: qs.map fr:=h
  injection h' with h1 h2
  cases h1
  rw [nq h2]
def IsP (d:D) (ps:List (Int×Int)):Prop:=sh d=.seq (ps.map fr)
theorem m9 (ps:List (Int×Int)):IsP (.lst (ps.map fr)) ps:=by unfold IsP;rw [sh,qO]
theorem IsP.inj {d:D} {ps qs:List (Int×Int)} (h:IsP d ps) (g:IsP d qs):ps=qs:=by
 have:=h.symm.trans g
 injection this with this
 exact nq this
def db (ps:List (Int×Int)):List (Int×Int):=(0,1) :: ps
def cI (ps:List (Int×Int)) (i:Nat):Int×Int:=(db ps).getD i (0,1)
def dif (ps:List (Int×Int)) (i j:Nat):Int×Int:=mi (cI ps i) (cI ps j)
def rG (T:List (List Bn)) (ps:List (Int×Int)):Bool:=(List.range (ps.length+1)).all fun i=>(List.range (ps.length+1)).all fun j=>kp (dif ps i j) (ao T i j)
theorem mM {k:Nat} (h:1<=k):Fr k ((0,1):Int×Int):=⟨⟨by decide,by unfold gc;simp⟩,Sm.mono (k:=1) (show (0:Int).natAbs < 2 ^ 1 by decide) h,Sm.mono (k:=1) (show (1:Int).natAbs < 2 ^ 1 by decide) h⟩
theorem gd {ps:List (Int×Int)} {k:Nat} (hk:1<=k) (h:∀ p∈ps,Fr k p) (i:Nat):Fr k (cI ps i):=by
 unfold cI
 rw [Zs]
 cases q:(db ps)[i]? with
 | none=>exact mM hk
 | some p =>
  have m:=List.mem_of_getElem? q
  rcases Zq.mp m with rfl | m
  . exact mM hk
  . exact h p m
theorem Bm {k:Nat} {ps:List (Int×Int)} (hk:1<=k) (h:∀ p∈ps,Fr k p) (i j:Nat):Fr (k+k+1) (dif ps i j):=(gd hk h i).mi (gd hk h j)
theorem jH {ps:List (Int×Int)} {i:Nat} (h:i < ps.length+1):gIx (.lst ((db ps).map fr)) (.int (i:Int))=some (fr (cI ps i))/\gIx (.seq ((db ps).map fr)) (.int (i:Int))=some (fr (cI ps i)):=by
 have e:((db ps).map fr)[i]? = some (fr (cI ps i)):=by
  unfold cI
  have hl:i < (db ps).length:=by unfold db;rw [List.length_cons];exact h
  rw [List.getElem?_map,Zs,Zt hl]
  rfl
 exact ⟨ie e,ie e⟩
theorem xJ {T:List (List Bn)} {m i j:Nat} {b:Bn} (hs:Sq T m) (hi:i < m) (hj:j < m) (x y:Nat):ao (kA T i j b) x y=if x=i/\y=j then b else ao T x y:=by
 obtain ⟨r,h1,h2,h3⟩:=gO hs hi
 have hl:i < T.length:=by rw [hs.len];exact hi
 unfold ao kA
 by_cases hx:x=i
 . subst hx
   have e:(T.set x ((T.getD x []).set j b)).getD x []=(T.getD x []).set j b:=by
    rw [Zs,List.getElem?_set_self hl]
    rfl
   rw [e,h2]
   by_cases hy:y=j
   . subst hy
     rw [if_pos ⟨rfl,rfl⟩,Zs,List.getElem?_set_self (by omega)]
     rfl
   . rw [if_neg fun z=>hy z.2,Zs,List.getElem?_set_ne (Ne.symm hy),<- Zs]
 . rw [if_neg fun z=>hx z.1]
   have e:(T.set i ((T.getD i []).set j b)).getD x []=T.getD x []:=by
    rw [Zs,List.getElem?_set_ne (Ne.symm hx),<- Zs]
   rw [e]
def BkT (T:List (List Bn)):Prop:=∀ i j,Bk 4000 (ao T i j)
def qC (ds:List D) (d:D):Prop:=∃ (d0 d1:D) (T:List (List Bn)) (ps:List (Int×Int)),IsT d0 T/\Sq T (ps.length+1)/\ps.length<=40/\BkT T/\IsP d1 ps/\(∀ p∈ps,Fr 1900 p)/\ds=[d0,d1]/\d=.bl (rG T ps)
theorem xE {k:Nat} {d0 d1:D} {T:List (List Bn)} {ps:List (Int×Int)} (h1:IsT d0 T) (h2:Sq T (ps.length+1)) (h3:ps.length<=40) (h4:BkT T) (h5:IsP d1 ps) (h6:∀ p∈ps,Fr k p) (hk:k<=1900:=by decide):fn qC [d0,d1]=some (.bl (rG T ps)):=cg (fun d' h'=>by
 obtain ⟨e0,e1,U,qs,g1,_,_,_,g5,_,h,rfl⟩:=h'
 injection h with a b
 injection b with b _
 subst a b
 rw [h1.inj g1,h5.inj g5]) ⟨d0,d1,T,ps,h1,h2,h3,h4,h5,fun p m=>(h6 p m).mono hk,rfl,rfl⟩
theorem sr {T:List (List Bn)} {m:Nat} (hs:Sq T m) (hm:m<=41) {δ:DS} {i:Nat} {js:List Nat} (hj:δ[i]? = some (some (ay T))) :
 eX (fun δ=>((ae i) δ).bind asL) js (gS (aa (ae 0) af)) δ=some (ay T,δ):=by
 refine gD (f:=fun r=>.lst (bh r)) (g:=fun r=>.lst (bh r)) ?_ (fun r _=>?_) (by rw [hs.len];omega)
 . unfold ae;rw [hj];rfl
 . have e:shO (some (.lst (bh r)) :: bv js δ)=shO (some (.seq (bh r)) :: bv js δ):=by
    show some (sh (.lst (bh r))) :: _=some (sh (.seq (bh r))) :: _
    rw [sh,sh]
   rw [e]
   exact oP r _
def mxd (c k:Int):Int:=(c*48271+k*k*69621+7*k+11) % 2147483647*((c*48271+k*k*69621+7*k+11) % 2147483647) % 2147483629
def bq (ds:List D) (d:D):Prop:=∃ c k,0<=k/\k < 100000/\ds=[.int c,.int k]/\d=.int (mxd c k)
theorem k8 {c k:Int} (h:0<=k) (g:k < 100000):fn bq [.int c,.int k]=some (.int (mxd c k)):=cg (fun d' h'=>by
 obtain ⟨c',k',_,_,h2,rfl⟩:=h'
 cases h2;rfl) ⟨c,k,h,g,rfl,rfl⟩
def ej (ds:List D) (d:D):Prop:=∃ t b,0 < b/\Bd b/\ds=[.int t,.int b]/\d=fr (rd t b)
theorem ic {t b:Int} (h:0 < b) (g:Bd b):fn ej [.int t,.int b]=some (fr (rd t b)):=cg (fun d' h'=>by
 obtain ⟨t',b',_,_,h2,rfl⟩:=h'
 cases h2;rfl) ⟨t,b,h,g,rfl,rfl⟩
def dl (p q:Int×Int):Int×Int:=(p.1*q.2 - q.1*p.2,p.2*q.2)
abbrev cy:=S2 fun p q=>fr (dl p q)
def prt (c:Int):Int×Int:=if c % 8=5 then rd (c / 8 % (2*10 ^ 45+1) - 10 ^ 45) (1+c % 9973) else rd (c / 48 % 41 - 20) (1+c / 8 % 6)
theorem yw (c:Int):Fr 200 (prt c):=by
 unfold prt
 split
 . have hb:0 < 1+c % 9973:=by omega
   have h:=pR (k:=200) hb (Sm.of (x:=c / 8 % (2*10 ^ 45+1) - 10 ^ 45) (by omega) (by omega)) (Sm.of (by omega) (by omega))
   exact ⟨kM hb,h.1,h.2⟩
 . have hb:0 < 1+c / 8 % 6:=by omega
   have h:=pR (k:=200) hb (Sm.of (x:=c / 48 % 41 - 20) (by omega) (by omega)) (Sm.of (by omega) (by omega))
   exact ⟨kM hb,h.1,h.2⟩
theorem yv (c:Int):Sm 151 (prt c).1/\Sm 14 (prt c).2:=by
 unfold prt
 split
 . have hb:0 < 1+c % 9973:=by omega
   exact ⟨(Sm.of (k:=151) (x:=c / 8 % (2*10 ^ 45+1) - 10 ^ 45) (by omega) (by omega)).div (dr hb) dO,(Sm.of (k:=14) (x:=1+c % 9973) (by omega) (by omega)).div (dr hb) cM⟩
 . have hb:0 < 1+c / 8 % 6:=by omega
   exact ⟨(Sm.of (k:=151) (x:=c / 48 % 41 - 20) (by omega) (by omega)).div (dr hb) dO,(Sm.of (k:=14) (x:=1+c / 8 % 6) (by omega) (by omega)).div (dr hb) cM⟩
theorem so {ps:List (Int×Int)} (h:∀ p∈ps,Sm 151 p.1/\Sm 14 p.2) (i:Nat):Sm 151 (cI ps i).1/\Sm 14 (cI ps i).2:=by
 have z:Sm 151 ((0,1):Int×Int).1/\Sm 14 ((0,1):Int×Int).2:=⟨Sm.mono (k:=1) (show (0:Int).natAbs < 2 ^ 1 by decide) (by decide),Sm.mono (k:=1) (show (1:Int).natAbs < 2 ^ 1 by decide) (by decide)⟩
 unfold cI
 rw [Zs]
 cases q:(db ps)[i]? with
 | none=>exact z
 | some p =>
  rcases Zq.mp (List.mem_of_getElem? q) with e | m
  . rw [e];exact z
  . exact h p m
def cw (ds:List D) (d:D):Prop:=∃ c,ds=[.int c]/\d=fr (prt c)
theorem l6 {c:Int}:fn cw [.int c]=some (fr (prt c)):=cg (fun d' h'=>by
 obtain ⟨c',h2,rfl⟩:=h'
 cases h2;rfl) ⟨c,rfl,rfl⟩
theorem qB {δ:DS} {t:Nat} {fk:FD} {fm:FM} {d:D} {Rs row:List D} (h:δ[t]? = some (some (.lst (Rs++[.lst row])))) (hk:fk δ=some (.int (Rs.length:Int))) (hf:fm δ=some (d,δ)) (hl:row.length<=999):i5 t fk fm δ=some (.nx (δ.set t (some (.lst (Rs++[.lst (row++[d])]))))):=by
 have z:L2.ixN (Rs++[D.lst row]).length (Rs.length:Int)=some Rs.length:=kg (by simp)
 have g:(Rs++[D.lst row])[Rs.length]? = some (D.lst row):=by simp
 have e:(Rs++[D.lst row]).set Rs.length (.lst (row++[d]))=Rs++[.lst (row++[d])]:=by simp
 unfold i5
 rw [h]
 dsimp only
 rw [hk]
 dsimp only [Option.bind_some]
 rw [z]
 dsimp only [Option.bind_some]
 rw [g]
 dsimp only
 rw [hf]
 dsimp only [Option.bind_some]
 rw [h]
 dsimp only
 rw [g]
 dsimp only
 rw [if_pos ⟨hl,rfl⟩,e]
theorem Ai {T:List (List Bn)} {m i j:Nat} {b:Bn} (hs:Sq T m) (hi:i < m) (hj:j < m) {δ:DS} {p q r:Nat} {fm:FM} (h1:δ[p]? = some (some (ay T))) (h2:δ[q]? = some (some (.int (i:Int)))) (h3:δ[r]? = some (some (.int (j:Int)))) (h4:fm δ=some (bdD b,δ)) :
 fM p (ae q) (ae r) fm δ=some (.nx (δ.set p (some (ay (kA T i j b))))):=by
 obtain ⟨w,q1,q2,q3,q4,q5⟩:=gN hs hi hj
 unfold fM
 rw [h4]
 show (if imm (bdD b)=true then _ else _)=_
 rw [if_pos (iP b)]
 dsimp only
 rw [h1]
 unfold ay ae
 dsimp only
 rw [h2,h3]
 dsimp only [Option.bind_some]
 rw [kg (show i < (bI T).length by rw [eU,hs.len];exact hi)]
 dsimp only [Option.bind_some]
 rw [q3]
 dsimp only [Option.bind_some]
 rw [kg (show j < (bh w).length by rw [jo,q4];exact hj)]
 dsimp only [Option.bind_some]
 rw [lu q5]
structure Grown (T:List (List Bn)) (n m:Nat):Prop where
 len:T.length=n
 row:∀ r∈T,r.length=m
 bk:∀ r∈T,∀ b∈r,Bk 190 b
theorem Grown.sq {T:List (List Bn)} {m:Nat} (h:Grown T m m):Sq T m:=⟨h.len,h.row⟩
theorem Grown.cell {T:List (List Bn)} {n m:Nat} (h:Grown T n m) (i j:Nat):Bk 190 (ao T i j):=by
 unfold ao
 rw [Zs,Zs]
 cases q:T[i]? with
 | none=>trivial
 | some r =>
  rw [Option.getD_some]
  cases p:r[j]? with
  | none=>trivial
  | some b=>exact h.bk r (List.mem_of_getElem? q) b (List.mem_of_getElem? p)
theorem Grown.snoc {T:List (List Bn)} {n m:Nat} {r:List Bn} (h:Grown T n m) (g:r.length=m) (k:∀ b∈r,Bk 190 b):Grown (T++[r]) (n+1) m:=by
 refine ⟨by rw [Zh,h.len];rfl,fun x hx=>?_,fun x hx=>?_⟩
 . rcases Zp.mp hx with hx | hx
   . exact h.row x hx
   . rw [Zm.mp hx];exact g
 . rcases Zp.mp hx with hx | hx
   . exact h.bk x hx
   . rw [Zm.mp hx];exact k
theorem nR (T:List (List Bn)) (r:List Bn):bI (T++[r])=bI T++[.lst (bh r)]:=by unfold bI;rw [List.map_append];rfl
theorem pO (r:List Bn) (b:Bn):bh (r++[b])=bh r++[bdD b]:=by unfold bh;rw [List.map_append];rfl
theorem Em {t b:Int} (hb:0 < b) (c:Bn):kp (t,b) c=kp (rd t b) c:=by
 have hg:=dr (t:=t) hb
 have e1:(rd t b).1*gc t b=t:=B7
 have e2:(rd t b).2*gc t b=b:=An
 have key:∀ n:Int,(t < n*b <-> (rd t b).1 < n*(rd t b).2)/\(n*b < t <-> n*(rd t b).2 < (rd t b).1):=fun n=>by
  have e3:n*b=n*(rd t b).2*gc t b:=by rw [Int.mul_assoc,e2]
  constructor
  . constructor
    . intro h
      have h':(rd t b).1*gc t b < n*(rd t b).2*gc t b:=by rw [e1,<- e3];exact h
      exact Int.lt_of_mul_lt_mul_right h' (Int.le_of_lt hg)
    . intro h
      have:=Int.mul_lt_mul_of_pos_right h hg
      rw [e1,<- e3] at this
      exact this
  . constructor
    . intro h
      have h':n*(rd t b).2*gc t b < (rd t b).1*gc t b:=by rw [e1,<- e3];exact h
      exact Int.lt_of_mul_lt_mul_right h' (Int.le_of_lt hg)
    . intro h
      have:=Int.mul_lt_mul_of_pos_right h hg
      rw [e1,<- e3] at this
      exact this
 rcases c with _ | ⟨n,s⟩
 . rfl
 . cases s with
   | true =>
    show decide (t*1 < n*b)=decide ((rd t b).1*1 < n*(rd t b).2)
    rw [Int.mul_one,Int.mul_one]
    exact decide_eq_decide.mpr (key n).1
   | false =>
    show (!decide (n*b < t*1)) = !decide (n*(rd t b).2 < (rd t b).1*1)
    rw [Int.mul_one,Int.mul_one,decide_eq_decide.mpr (key n).2]
theorem BO {p q:Int×Int} (hp:0 < p.2) (hq:0 < q.2) (c:Bn):kp (dl p q) c=kp (mi p q) c:=Em (Int.mul_pos hp hq) c
theorem EF {k:Nat} {p q:Int×Int} (hp:Fr k p) (hq:Fr k q) (h:k+k+1<=4000):Fk (dl p q):=⟨Int.mul_pos hp.pos hq.pos,((hp.s1.mul hq.s2).sub (hq.s1.mul hp.s2)).mono h,(hp.s2.mul hq.s2).mono (by omega)⟩
theorem Eb (p:Int×Int):i8 (fr p) (fr p)=some (.bl false):=by
 unfold i8
 have z:eqN 6 (fr p) (fr p)=some true:=by show eqL (eqN 5) [D.int p.1,D.int p.2] [D.int p.1,D.int p.2]=_;simp [eqL,eqN,oF,eqF]
 rw [z]
 rfl
def dB (ds:List D) (d:D):Prop:=∃ (d0:D) (ps:List (Int×Int)),IsP d0 ps/\(∀ p∈ps,Fr 4000 p)/\ds=[d0,.int (ps.length:Int)]/\d=.bl true
theorem mI {d0:D} {ps:List (Int×Int)} (h:IsP d0 ps) (g:∀ p∈ps,Fr 4000 p):fn dB [d0,.int (ps.length:Int)]=some (.bl true):=cg (fun d' h'=>by
 obtain ⟨_,_,_,_,_,rfl⟩:=h'
 rfl) ⟨d0,ps,h,g,rfl,rfl⟩
abbrev fL:=iS
abbrev g9:=qC
theorem En (a n b:Int) (s:Bool):(decide (a < n*b) || (a == n*b && !s))=kp (a,b) (some (n,s)):=by
 cases s with
 | true =>
  show _=decide (a*1 < n*b)
  rw [Int.mul_one,Bool.not_true,Bool.and_false,Bool.or_false]
 | false =>
  show _ = !decide (n*b < a*1)
  rw [Int.mul_one,Bool.not_false,Bool.and_true,Bool.eq_iff_iff,Bool.or_eq_true,Bool.not_eq_true',decide_eq_true_iff,decide_eq_false_iff_not,beq_iff_eq]
  omega
theorem vw {f:FM} {δ:DS} {d:D} (h:f δ=some (d,δ)):cD f δ=some (.rt d):=bV h
theorem dD {i:Nat} {f:FM} {δ:DS} {d:D} (h:f δ=some (d,δ)):aB i f δ=some (.nx (δ.set i (some d))):=be h
theorem pB {n:Nat} {js:List Nat} {g:D->DS->Option DS} {fc:FT} {felt:FM} {δ δ1:DS} {d e:D} (h1:g d (gn n (bv js δ))=some δ1) (h2:fc δ1=some true) (h3:Dl.ownOf felt (shO δ1)=some e):gF n js g fc felt δ d=some (some e):=by
 unfold gF
 rw [h1]
 show ((fc δ1).bind _)=_
 rw [h2]
 show (Dl.ownOf felt (shO δ1)).map some=_
 rw [h3]
 rfl
theorem rg {felt:FM} {δ δ':DS} {e:D} (h:felt δ=some (e,δ')) (o:own e=true):Dl.ownOf felt δ=some e:=by
 unfold Dl.ownOf
 rw [h]
 exact if_pos o
def bZ (ds:List D) (d:D):Prop:=∃ a b:Bn,ds=[bdD a,bdD b]/\d=bdD (bs a b)
theorem jr {a b:Bn}:fn bZ [bdD a,bdD b]=some (bdD (bs a b)):=cg (fun d' h'=>by
 obtain ⟨a',b',h2,rfl⟩:=h'
 injection h2 with h3 h4
 injection h4 with h4 _
 rw [jL h3,jL h4]) ⟨a,b,rfl,rfl⟩
abbrev cT:=bZ
def sN (n:Nat) (f:Nat->Bn):List Bn:=(List.range n).map f
def aE (n:Nat) (f:Nat->Nat->Bn):List (List Bn):=(List.range n).map fun i=>sN n (f i)
theorem bf (n:Nat) (f:Nat->Nat->Bn):Sq (aE n f) n:=⟨by unfold aE;rw [Zi,List.length_range],fun r m=>by
 unfold aE at m
 obtain ⟨i,_,rfl⟩:=Zn.mp m
 unfold sN
 rw [Zi,List.length_range]⟩
theorem bg {α:Type} {n i:Nat} (g:Nat->α) (h:i < n):((List.range n).map g)[i]? = some (g i):=by rw [List.getElem?_map,List.getElem?_range h];rfl
theorem jv {T:List (List Bn)} {i j:Nat} {r:List Bn} (h:T[i]? = some r):ao T i j=r.getD j none:=by
 unfold ao
 have e:T.getD i []=r:=by rw [Zs,h];rfl
 rw [e]
theorem v7 {α:Type} {xs:List α} {i:Nat} {d v:α} (h:xs[i]? = some v):xs.getD i d=v:=by rw [Zs,h];rfl
theorem bz {n i j:Nat} (f:Nat->Nat->Bn) (hi:i < n) (hj:j < n):ao (aE n f) i j=f i j:=by
 rw [jv (show (aE n f)[i]? = some (sN n (f i)) from bg _ hi)]
 exact v7 (bg (f i) hj)
theorem qH {n:Nat} {T U:List (List Bn)} (h:Sq T n) (g:Sq U n) (e:∀ i j,i < n->j < n->ao T i j=ao U i j):T=U:=by
 refine List.ext_getElem? fun i=>?_
 by_cases hi:i < n
 . obtain ⟨r,a1,a2,a3⟩:=gO h hi
   obtain ⟨s,b1,b2,b3⟩:=gO g hi
   rw [a1,b1]
   congr 1
   refine List.ext_getElem? fun j=>?_
   by_cases hj:j < n
   . have:=e i j hi hj
     unfold ao at this
     rw [a2,b2,Zs,Zs,Zt (by omega),Zt (by omega)] at this
     rw [Zt (by omega),Zt (by omega)]
     exact congrArg some this
   . rw [List.getElem?_eq_none (by omega),List.getElem?_eq_none (by omega)]
 . rw [List.getElem?_eq_none (by rw [h.len];omega),List.getElem?_eq_none (by rw [g.len];omega)]
theorem qI {n:Nat} {T:List (List Bn)} (h:Sq T n):aE n (ao T)=T:=qH (bf _ _) h fun i j hi hj=>bz _ hi hj
theorem aZ {n:Nat} {f g:Nat->Nat->Bn} (e:∀ i j,i < n->j < n->f i j=g i j):aE n f=aE n g:=qH (bf _ _) (bf _ _) fun i j hi hj=>by rw [bz _ hi hj,bz _ hi hj,e i j hi hj]
def up2 {α:Type} (f:Nat->Nat->α) (i j:Nat) (b:α):Nat->Nat->α:=fun x y=>if x=i/\y=j then b else f x y
theorem w9 {T:List (List Bn)} {n i j x y:Nat} {b:Bn} (h:Sq T n) (hi:i < n) (hj:j < n) (hx:x < n) (hy:y < n):ao (kA T i j b) x y=if x=i/\y=j then b else ao T x y:=by
 obtain ⟨r,a1,a2,a3⟩:=gO h hi
 obtain ⟨s,b1,b2,b3⟩:=gO h hx
 unfold kA
 rw [a2]
 by_cases e:x=i
 . subst e
   rw [jv (r:=r.set j b) (List.getElem?_set_self (by rw [h.len];exact hi)),jv a1]
   by_cases e2:y=j
   . subst e2
     rw [if_pos ⟨rfl,rfl⟩]
     exact v7 (List.getElem?_set_self (by omega))
   . rw [if_neg (fun z=>e2 z.2),Zs,List.getElem?_set_ne (Ne.symm e2),<- Zs]
 . rw [if_neg (fun z=>e z.1),jv b1,jv (r:=s) (by rw [List.getElem?_set_ne (Ne.symm e)];exact b1)]
theorem jA {n i j:Nat} (f:Nat->Nat->Bn) (b:Bn) (hi:i < n) (hj:j < n):kA (aE n f) i j b=aE n (up2 f i j b):=qH (vA (bf n f) hi) (bf _ _) fun x y hx hy=>by
 rw [w9 (bf n f) hi hj hx hy,bz _ hx hy,bz _ hx hy]
 rfl
def aX {α:Type} (bad:List α->α->Option D):List α->List α->Option D
 | _,[]=>none
 | pre,x :: post=>match bad pre x with
  | some d=>some d
  | none=>aX bad (pre++[x]) post
theorem nr {α:Type} {i:Nat} {s:SD} {f:α->D} (P:List α->DS->Prop) (bad:List α->α->Option D) (all:List α)
 (step:∀ (pre:List α) (x:α) (post:List α) (δ:DS),all=pre++x :: post->P pre δ->(bad pre x=none->∃ δ2,s (δ.set i (some (sh (f x))))=some (.nx δ2)/\P (pre++[x]) δ2)/\∀ d,bad pre x=some d->s (δ.set i (some (sh (f x))))=some (.rt d)) :
 ∀ (xs pre:List α) (δ:DS),all=pre++xs->P pre δ->(aX bad pre xs=none->∃ δ',Dl.forM i s (xs.map f) δ=some (.nx δ')/\P all δ')/\∀ d,aX bad pre xs=some d->Dl.forM i s (xs.map f) δ=some (.rt d)
 | [],pre,δ,e,p=>⟨fun _=>⟨δ,rfl,by rw [e,List.append_nil];exact p⟩,fun d h=>by cases h⟩
 | x :: xs,pre,δ,e,p=>by
  obtain ⟨h1,h2⟩:=step pre x xs δ e p
  cases q:bad pre x with
  | some d0 =>
   have ef:aX bad pre (x :: xs)=some d0:=by show (match bad pre x with | some d=>some d | none=>_)=_;rw [q]
   rw [ef]
   refine ⟨(fun z=>by cases z),fun d z=>?_⟩
   cases z
   simp only [Zr,Dl.forM,h2 d0 q,Zc]
  | none =>
   have ef:aX bad pre (x :: xs)=aX bad (pre++[x]) xs:=by show (match bad pre x with | some d=>some d | none=>_)=_;rw [q]
   rw [ef]
   obtain ⟨δ2,h3,h4⟩:=h1 q
   obtain ⟨g1,g2⟩:=nr P bad all step xs (pre++[x]) δ2 (by rw [e,List.append_assoc];rfl) h4
   refine ⟨fun z=>?_,fun d z=>?_⟩
   . obtain ⟨δ',a,b⟩:=g1 z
     refine ⟨δ',?_,b⟩
     simp only [Zr,Dl.forM,h3,Zc,a]
   . simp only [Zr,Dl.forM,h3,Zc,g2 d z]
theorem dC {α:Type} {bad:List α->α->Option D}:∀ {xs pre:List α},aX bad pre xs=none->∀ a x b,xs=a++x :: b->bad (pre++a) x=none
 | [],pre,_,a,x,b,e=>by simp at e
 | y :: xs,pre,h,a,x,b,e=>by
  have h':(match bad pre y with | some d=>some d | none=>aX bad (pre++[y]) xs)=none:=h
  cases q:bad pre y with
  | some d=>rw [q] at h';cases h'
  | none =>
   rw [q] at h'
   cases a with
   | nil=>cases e;rw [List.append_nil];exact q
   | cons z a =>
    cases e
    have:=dC h' a x b rfl
    rw [List.append_assoc] at this
    exact this
theorem bJ {α:Type} {bad:List α->α->Option D}:∀ {xs pre:List α} {d:D},aX bad pre xs=some d->∃ a x b,xs=a++x :: b/\bad (pre++a) x=some d/\∀ a' y b',a=a'++y :: b'->bad (pre++a') y=none
 | [],pre,d,h=>by cases h
 | y :: xs,pre,d,h=>by
  have h':(match bad pre y with | some d=>some d | none=>aX bad (pre++[y]) xs)=some d:=h
  cases q:bad pre y with
  | some d0 =>
   rw [q] at h'
   cases h'
   exact ⟨[],y,xs,rfl,by rw [List.append_nil];exact q,fun a' z b' e=>by simp at e⟩
  | none =>
   rw [q] at h'
   obtain ⟨a,x,b,e1,e2,e3⟩:=bJ h'
   refine ⟨y :: a,x,b,by rw [e1];rfl,by rw [List.append_assoc] at e2;exact e2,fun a' z b' e=>?_⟩
   cases a' with
   | nil=>cases e;rw [List.append_nil];exact q
   | cons w a' =>
    cases e
    have:=e3 a' z b' rfl
    rw [List.append_assoc] at this
    exact this
def bL (l:List Nat):List D:=l.map fun (k:Nat)=>D.int (k:Int)
theorem w8 (l:List Nat):shs (bL l)=bL l:=qN (imms_mem.mpr fun d m=>by obtain ⟨k,_,rfl⟩:=Zn.mp m;rfl)
theorem oB (l:List Nat):cA (bL l)=true:=imms_mem.mpr fun d m=>by obtain ⟨k,_,rfl⟩:=Zn.mp m;rfl
theorem gC:∀ {ds:List D},(∀ d∈ds,own d=true)->hX ds=true
 | [],_=>rfl
 | d :: ds,h=>by rw [hX,h d Zk,gC fun e m=>h e (Zl _ m)];rfl
theorem kb (l:List Nat):hX (bL l)=true:=gC fun d m=>by obtain ⟨k,_,rfl⟩:=Zn.mp m;rfl
def gu (n:Nat) (p:Nat->List Nat):List D:=(List.range n).map fun j=>D.lst (bL (p j))
def lS (n:Nat) (p:Nat->List Nat):List D:=(List.range n).map fun j=>D.seq (bL (p j))
def aY (n:Nat) (p:Nat->Nat->List Nat):List D:=(List.range n).map fun i=>D.lst (gu n (p i))
def fZ (n:Nat) (p:Nat->Nat->List Nat):List D:=(List.range n).map fun i=>D.seq (lS n (p i))
theorem x6 (n:Nat) (p:Nat->List Nat):shs (gu n p)=lS n p:=by
 rw [eE]
 unfold gu lS
 rw [List.map_map]
 refine List.map_congr_left fun j _=>?_
 show sh (.lst (bL (p j)))=_
 rw [sh,w8]
theorem nL (n:Nat) (p:Nat->Nat->List Nat):shs (aY n p)=fZ n p:=by
 rw [eE]
 unfold aY fZ
 rw [List.map_map]
 refine List.map_congr_left fun i _=>?_
 show sh (.lst (gu n (p i)))=_
 rw [sh,x6]
theorem n5 (n:Nat) (p:Nat->Nat->List Nat):own (.lst (aY n p))=true:=by
 rw [own]
 refine gC fun d m=>?_
 obtain ⟨i,_,rfl⟩:=Zn.mp m
 show own (.lst (gu n (p i)))=true
 rw [own]
 refine gC fun d m=>?_
 obtain ⟨j,_,rfl⟩:=Zn.mp m
 show own (.lst (bL (p i j)))=true
 rw [own]
 exact kb _
theorem tO {n i j:Nat} (p:Nat->Nat->List Nat) (hi:i < n) (hj:j < n):gIx (.lst (aY n p)) (.int (i:Int))=some (.lst (gu n (p i)))/\gIx (.lst (gu n (p i))) (.int (j:Int))=some (.lst (bL (p i j))):=⟨ie (bg _ hi),ie (bg _ hj)⟩
theorem tN {n i j:Nat} (p:Nat->Nat->List Nat) (hi:i < n) (hj:j < n):gIx (.seq (fZ n p)) (.int (i:Int))=some (.seq (lS n (p i)))/\gIx (.seq (lS n (p i))) (.int (j:Int))=some (.seq (bL (p i j))):=⟨ie (bg _ hi),ie (bg _ hj)⟩
theorem jV {α:Type} {n i:Nat} (g:Nat->α) (v:α) (hi:i < n):((List.range n).map g).set i v=(List.range n).map fun x=>if x=i then v else g x:=by
 refine List.ext_getElem? fun k=>?_
 by_cases hk:k < n
 . rw [bg _ hk]
   by_cases e:k=i
   . subst e
     rw [List.getElem?_set_self (by rw [Zi,List.length_range];exact hk),if_pos rfl]
   . rw [List.getElem?_set_ne (Ne.symm e),bg _ hk,if_neg e]
 . rw [List.getElem?_eq_none (by rw [List.length_set,Zi,List.length_range];omega),List.getElem?_eq_none (by rw [Zi,List.length_range];omega)]
theorem x8 {n i j:Nat} (p:Nat->Nat->List Nat) (l:List Nat) (hi:i < n) (hj:j < n):(aY n p).set i (.lst ((gu n (p i)).set j (.lst (bL l))))=aY n (up2 p i j l):=by
 unfold aY
 rw [jV _ _ hi]
 refine List.map_congr_left fun x _=>?_
 by_cases e:x=i
 . subst e
   rw [if_pos rfl]
   unfold gu
   rw [jV _ _ hj]
   congr 1
   refine List.map_congr_left fun y _=>?_
   unfold up2
   by_cases e2:y=j
   . rw [if_pos e2,if_pos ⟨rfl,e2⟩]
   . rw [if_neg e2,if_neg fun z=>e2 z.2]
 . rw [if_neg e]
   congr 1
   unfold gu
   refine List.map_congr_left fun y _=>?_
   unfold up2
   rw [if_neg fun z=>e z.1]
theorem fP {n:Nat} {p q:Nat->Nat->List Nat} (e:∀ i j,i < n->j < n->p i j=q i j):aY n p=aY n q:=by
 unfold aY gu
 refine List.map_congr_left fun i hi=>?_
 congr 1
 refine List.map_congr_left fun j hj=>?_
 rw [e i j (Zo.mp hi) (Zo.mp hj)]
theorem vD {δ δ':DS} {p:Nat} {fk fl:FD} {fm:FM} {v:D} {Rs row:List D} {i j:Nat} (h0:fm δ=some (v,δ')) (h1:δ'[p]? = some (some (.lst Rs))) (h2:fk δ'=some (.int (i:Int))) (h3:Rs[i]? = some (.lst row)) (h4:fl δ'=some (.int (j:Int))) (h5:j < row.length) :
 gJ p fk fl fm δ=some (.nx (δ'.set p (some (.lst (Rs.set i (.lst (row.set j v))))))):=by
 unfold gJ
 simp only [h0,Zc,h1,h2,kg (List.getElem?_eq_some_iff.mp h3).1,h3,h4,kg h5]
def cz (T:List (List Bn)):Nat->Nat->Bn:=fun i j=>if i=j then b0 else ao T i j
def gQ (ds:List D) (d:D):Prop:=∃ (d0:D) (T:List (List Bn)) (n:Nat),IsT d0 T/\Sq T n/\n<=41/\ds=[d0]/\d=ay (aE n (cz T))
theorem oI {d0:D} {T:List (List Bn)} {n:Nat} (h:IsT d0 T) (hs:Sq T n) (hn:n<=41):fn gQ [d0]=some (ay (aE n (cz T))):=cg (fun d' h'=>by
 obtain ⟨d1,U,m,g,gs,_,h2,rfl⟩:=h'
 cases h2
 have:=h.inj g
 subst this
 rw [<- hs.len,<- gs.len]) ⟨d0,T,n,h,hs,hn,rfl,rfl⟩
def gq (ds:List D) (d:D):Prop:=∃ n:Nat,n<=41/\ds=[.int (n:Int)]/\d=.lst (aY n fun i _=>[i])
theorem mH {n:Nat} (hn:n<=41):fn gq [.int (n:Int)]=some (.lst (aY n fun i _=>[i])):=cg (fun d' h'=>by
 obtain ⟨m,_,h2,rfl⟩:=h'
 injection h2 with h2 _
 injection h2 with h2
 have:m=n:=by omega
 subst this
 rfl) ⟨n,hn,rfl,rfl⟩
def mJ (f:Nat->Nat->Bn) (p:Nat->Nat->List Nat) (m:Nat):List Nat->Nat->Option D:=fun _ t=>if kp (0,1) (bs (f t m) (f m t))=true then none else some (.lst (bL (p t m++p m t)))
def rgt (n:Nat) (f:Nat->Nat->Bn) (p:Nat->Nat->List Nat) (m:Nat):D:=(aX (mJ f p m) [] (List.range n)).getD .non
theorem pv {n:Nat} {p q:Nat->Nat->List Nat} (h:fZ n p=fZ n q):∀ i j,i < n->j < n->p i j=q i j:=fun i j hi hj=>by
 have h1:(fZ n p)[i]? = (fZ n q)[i]?:=by rw [h]
 unfold fZ at h1
 rw [bg _ hi,bg _ hi] at h1
 injection h1 with h1
 injection h1 with h1
 have h2:(lS n (p i))[j]? = (lS n (q i))[j]?:=by rw [h1]
 unfold lS at h2
 rw [bg _ hj,bg _ hj] at h2
 injection h2 with h2
 injection h2 with h2
 have key:∀ (a b:List Nat),bL a=bL b->a=b:=by
  intro a
  induction a with
  | nil=>intro b e;cases b with | nil=>rfl | cons y b=>cases e
  | cons x a ih =>
   intro b e
   cases b with
   | nil=>cases e
   | cons y b =>
    have e':D.int (x:Int) :: bL a=D.int (y:Int) :: bL b:=e
    injection e' with e1 e2
    injection e1 with e1
    rw [ih b e2]
    congr 1
    omega
 exact key _ _ h2
structure zZ (n:Nat) (f:Nat->Nat->Bn) (p:Nat->Nat->List Nat) (m:Nat):Prop where
 n41:n<=41
 mn:m < n
 bk:∀ i j,i < n->j < n->Bk 3000 (f i j)
 ln:∀ i j,i < n->j < n->(p i j).length<=400
def fJ (ds:List D) (d:D):Prop:=∃ (d0 d1:D) (n m:Nat) (f:Nat->Nat->Bn) (p:Nat->Nat->List Nat),zZ n f p m/\IsT d0 (aE n f)/\sh d1=.seq (fZ n p)/\ds=[d0,d1,.int (m:Int)]/\d=rgt n f p m
theorem jq {α:Type} {bad bad':List α->α->Option D}:∀ {xs pre:List α},(∀ a x b,xs=a++x :: b->bad (pre++a) x=bad' (pre++a) x)->aX bad pre xs=aX bad' pre xs
 | [],_,_=>rfl
 | x :: xs,pre,h=>by
  have h0:=h [] x xs rfl
  rw [List.append_nil] at h0
  show (match bad pre x with | some d=>some d | none=>aX bad (pre++[x]) xs)=(match bad' pre x with | some d=>some d | none=>aX bad' (pre++[x]) xs)
  rw [h0]
  cases bad' pre x with
  | some d=>rfl
  | none =>
   refine jq fun a y b e=>?_
   have:=h (x :: a) y b (by rw [e];rfl)
   rw [List.append_assoc]
   exact this
theorem xb {n m:Nat} {f g:Nat->Nat->Bn} {p q:Nat->Nat->List Nat} (hm:m < n) (e:∀ i j,i < n->j < n->f i j=g i j) (e2:∀ i j,i < n->j < n->p i j=q i j):rgt n f p m=rgt n g q m:=by
 unfold rgt
 congr 1
 refine jq fun a x b h=>?_
 have hx:x < n:=by
  have:=(bA h)
  omega
 unfold mJ
 rw [e x m hx hm,e m x hm hx,e2 x m hx hm,e2 m x hm hx]
theorem sv {n:Nat} {f g:Nat->Nat->Bn} (h:aE n f=aE n g):∀ i j,i < n->j < n->f i j=g i j:=fun i j hi hj=>by rw [<- bz f hi hj,h,bz g hi hj]
theorem oK {d0 d1:D} {n m:Nat} {f:Nat->Nat->Bn} {p:Nat->Nat->List Nat} (ok:zZ n f p m) (h0:IsT d0 (aE n f)) (h1:sh d1=.seq (fZ n p)):fn fJ [d0,d1,.int (m:Int)]=some (rgt n f p m):=cg (fun d' h'=>by
 obtain ⟨e0,e1,n',m',g,q,ok',g0,g1,h2,rfl⟩:=h'
 injection h2 with a b
 injection b with b c
 injection c with c _
 injection c with c
 subst a b
 have em:m'=m:=by omega
 subst em
 have et:=h0.inj g0
 have en:n'=n:=by rw [<- (bf n f).len,et,(bf n' g).len]
 subst en
 rw [h1] at g1
 injection g1 with g1
 exact (xb ok.mn (sv et) (pv g1)).symm) ⟨d0,d1,n,m,f,p,ok,h0,h1,rfl,rfl⟩
def ldF (f:Nat->Nat->Bn) (m:Nat):Nat->Nat->Bn:=fun i j=>if tgt (bs (f i m) (f m j)) (f i j)=true then bs (f i m) (f m j) else f i j
def ldP (f:Nat->Nat->Bn) (p:Nat->Nat->List Nat) (m:Nat):Nat->Nat->List Nat:=fun i j=>if tgt (bs (f i m) (f m j)) (f i j)=true then p i m++p m j else p i j
theorem vS (n:Nat) (f:Nat->Nat->Bn) (p:Nat->Nat->List Nat) (m:Nat):own (rgt n f p m)=true:=by
 unfold rgt
 cases hb:aX (mJ f p m) [] (List.range n) with
 | none=>rfl
 | some d =>
  obtain ⟨a,x,b,_,h,_⟩:=bJ hb
  unfold mJ at h
  split at h
  . cases h
  . cases h
    show own (.lst _)=true
    rw [own]
    exact kb _
theorem m5 {T:List (List Bn)} {n:Nat} (hs:Sq T n):cH [az T]=some (.int (n:Int)):=by
 show some (D.int ((eR T).length:Int))=_
 unfold eR
 rw [Zi,hs.len]
theorem rH {T:List (List Bn)} {n:Nat} (hs:Sq T n):cH [ay T]=some (.int (n:Int)):=by
 show some (D.int ((bI T).length:Int))=_
 rw [eU,hs.len]
def fK (ds:List D) (d:D×D):Prop:=∃ (n m:Nat) (f:Nat->Nat->Bn) (p:Nat->Nat->List Nat),zZ n f p m/\f m m=b0/\ds=[ay (aE n f),.lst (aY n p),.int (m:Int)]/\d=(ay (aE n (ldF f m)),.lst (aY n (ldP f p m)))
theorem yL {T U:List (List Bn)} (h:ay T=ay U):T=U:=nG (by rw [<- qP,<- qP,h])
theorem wS {n:Nat} {p q:Nat->Nat->List Nat} (h:aY n p=aY n q):∀ i j,i < n->j < n->p i j=q i j:=pv (by rw [<- nL,<- nL,h])
theorem oM {n m:Nat} {f:Nat->Nat->Bn} {p:Nat->Nat->List Nat} (ok:zZ n f p m) (h0:f m m=b0):fnM fK [ay (aE n f),.lst (aY n p),.int (m:Int)]=some (ay (aE n (ldF f m)),.lst (aY n (ldP f p m))):=C5 (fun d' h'=>by
 obtain ⟨n',m',g,q,ok',g0,h2,rfl⟩:=h'
 injection h2 with a b
 injection b with b c
 injection c with c _
 injection c with c
 have em:m'=m:=by omega
 subst em
 have et:=yL a
 have en:n'=n:=by rw [<- (bf n f).len,et,(bf n' g).len]
 subst en
 injection b with b
 have e1:=sv et
 have e2:=wS b
 have hm:=ok.mn
 have t1:aE n' (ldF g m')=aE n' (ldF f m'):=aZ fun i j hi hj=>by unfold ldF;rw [e1 i m' hi hm,e1 m' j hm hj,e1 i j hi hj]
 have t2:aY n' (ldP g q m')=aY n' (ldP f p m'):=fP fun i j hi hj=>by unfold ldP;rw [e1 i m' hi hm,e1 m' j hm hj,e1 i j hi hj,e2 i m' hi hm,e2 m' j hm hj,e2 i j hi hj]
 rw [t1,t2]) ⟨n,m,f,p,ok,h0,rfl,rfl⟩
def pw (c:Nat->Nat->Bn):Nat->Nat->Nat->List Nat
 | 0=>fun i _=>[i]
 | m+1=>ldP (dm c m) (pw c m) m
def lQ (n:Nat) (c:Nat->Nat->Bn):List Nat->Nat->Option D:=fun _ m=>match rgt n (dm c m) (pw c m) m with
 | .non=>none
 | d=>some (.tup [.str "ring",d])
def mK (T:List (List Bn)):List Nat->Nat->Option D:=fun _ t=>if kp (0,1) (ao T t t)=true then none else some (.tup [.str "ring",.lst [.int (t:Int)]])
def cY (n:Nat) (T:List (List Bn)):D:=match aX (mK T) [] (List.range n) with
 | some d=>d
 | none=>match aX (lQ n (cz T)) [] (List.range n) with
  | some d=>d
  | none=>.tup [.str "table",ay (aE n (dm (cz T) n))]
theorem qU {n m:Nat} {f:Nat->Nat->Bn} {p:Nat->Nat->List Nat} (h:rgt n f p m=.non):∀ t,t < n->Nn (bs (f t m) (f m t)):=fun t ht=>by
 unfold rgt at h
 cases hb:aX (mJ f p m) [] (List.range n) with
 | none =>
  obtain ⟨a,b,e⟩:=List.append_of_mem (Zo.mpr ht)
  have:=dC hb a t b e
  unfold mJ at this
  split at this
  . rename_i q;exact nn_kp.mp q
  . cases this
 | some d =>
  rw [hb] at h
  obtain ⟨a,x,b,_,h2,_⟩:=bJ hb
  unfold mJ at h2
  split at h2
  . cases h2
  . cases h2
    cases h
theorem j4 {n m:Nat} (f:Nat->Nat->Bn) (p:Nat->Nat->List Nat):rgt n f p m=.non \/ ∃ t,t < n/\rgt n f p m=.lst (bL (p t m++p m t))/\¬ Nn (bs (f t m) (f m t)):=by
 unfold rgt
 cases hb:aX (mJ f p m) [] (List.range n) with
 | none=>exact .inl rfl
 | some d =>
  obtain ⟨a,x,b,e,h2,_⟩:=bJ hb
  have hx:x < n:=by have:=bA e;omega
  unfold mJ at h2
  split at h2
  . cases h2
  . rename_i q
    cases h2
    exact .inr ⟨x,hx,rfl,fun z=>q (nn_kp.mpr z)⟩
theorem wI {c:Nat->Nat->Bn} (h:∀ i j,Bk 2000 (c i j)):∀ (m i j:Nat),Bk (2000+m) (dm c m i j)
 | 0,i,j=>h i j
 | m+1,i,j=>by
  rcases l7 (c:=c) m i j with e | e
  . rw [e];exact (wI h m i j).mono (by omega)
  . rw [e];exact (wI h m i m).sum (wI h m m j)
structure St (n:Nat) (c:Nat->Nat->Bn) (m:Nat):Prop where
 fw:Fw c n m
 wy:∀ i j,i < n->j < n->Way c n m i j (pw c m i j)
 dg:∀ i,i < n->pw c m i i=[i]
theorem vt {n:Nat} {c:Nat->Nat->Bn} (h:∀ i,i < n->c i i=b0):St n c 0:=⟨wo h,fun i j _ _=>xS i j,fun _ _=>rfl⟩
theorem vu {n m:Nat} {c:Nat->Nat->Bn} (s:St n c m) (hm:m < n) (ok:∀ i,i < n->Nn (bs (dm c m i m) (dm c m m i))):St n c (m+1):=by
 refine ⟨wu s.fw hm ok,fun i j hi hj=>?_,fun i hi=>?_⟩
 . show Way c n (m+1) i j (ldP (dm c m) (pw c m) m i j)
   unfold ldP
   cases q:tgt (bs (dm c m i m) (dm c m m j)) (dm c m i j) with
   | true=>rw [if_pos rfl];exact z8 s.fw hm hi hj (s.wy i m hi hm) (s.wy m j hm hj) (ok i hi) q
   | false =>
    rw [if_neg (by decide)]
    exact xT (s.wy i j hi hj) (if_neg (by rw [q];decide))
 . show ldP (dm c m) (pw c m) m i i=_
   unfold ldP
   have:=ok i hi
   unfold Nn Le at this
   rw [s.fw.dia i hi,this,if_neg (by decide)]
   exact s.dg i hi
theorem St.len {n m:Nat} {c:Nat->Nat->Bn} (s:St n c m) (hm:m<=n) (i j:Nat) (hi:i < n) (hj:j < n):(pw c m i j).length<=n:=by
 by_cases h:i=j
 . subst h
   rw [s.dg i hi]
   show 1<=n
   omega
 . have nd:=List.nodup_append.mp ((s.wy i j hi hj).nd h)
   exact iu n _ nd.1 ((s.wy i j hi hj).lt hi hm)
theorem St.rt {n m:Nat} {c:Nat->Nat->Bn} (s:St n c m) (hb:∀ i j,Bk 2000 (c i j)) (hn:n<=41) (hm:m < n):zZ n (dm c m) (pw c m) m :=
 ⟨hn,hm,fun i j _ _=>(wI hb m i j).mono (by omega),fun i j hi hj=>Nat.le_trans (s.len (by omega) i j hi hj) (by omega)⟩
theorem EG {T:List (List Bn)} (h:∀ i j,Bk 2000 (ao T i j)) (i j:Nat):Bk 2000 (cz T i j):=by
 unfold cz
 split
 . show Sm 2000 0
   exact Sm.mono (k:=1) (show (0:Int).natAbs < 2 ^ 1 by decide) (by decide)
 . exact h i j
theorem lZ (n:Nat) (T:List (List Bn)):own (cY n T)=true:=by
 unfold cY
 cases h1:aX (mK T) [] (List.range n) with
 | some d =>
  obtain ⟨a,x,b,_,h2,_⟩:=bJ h1
  unfold mK at h2
  split at h2
  . cases h2
  . cases h2;rfl
 | none =>
  dsimp only
  cases h3:aX (lQ n (cz T)) [] (List.range n) with
  | some d =>
   obtain ⟨a,x,b,_,h2,_⟩:=bJ h3
   unfold lQ at h2
   rcases j4 (n:=n) (m:=x) (dm (cz T) x) (pw (cz T) x) with e | ⟨t,_,e,_⟩
   . rw [e] at h2;cases h2
   . rw [e] at h2
     cases h2
     show (true && (own (.lst _) && true))=true
     rw [own,kb]
     rfl
  | none =>
   show (true && (own (ay _) && true))=true
   rw [bP]
   rfl
theorem x5 {δ:DS} {i j:Nat} {G:List D->Option (D×D)} {g:FA} {xs ys es:List D} {d0 d1:D} (h1:δ[i]? = some (some (.lst xs))) (h2:δ[j]? = some (some (.lst ys))) (h3:g δ=some es) (h4:G (.lst xs :: .lst ys :: es)=some (d0,d1)) (h5:cA es=true) (h6:own d0=true) (h7:own d1=true) (h8:i ≠ j):nQ i j G g δ=some (.nx ((δ.set i (some d0)).set j (some d1))):=by
 unfold nQ
 simp only [h1,h2,h3,h4,Zc,h5,h6,h7,ne_eq,h8,not_false_eq_true,and_self,if_true]
def lj (ds:List D) (d:D):Prop:=∃ (d0:D) (T:List (List Bn)) (n:Nat),IsT d0 T/\Sq T n/\n<=41/\(∀ i j,Bk 2000 (ao T i j))/\ds=[d0]/\d=cY n T
theorem oO {d0:D} {T:List (List Bn)} {n:Nat} (h:IsT d0 T) (hs:Sq T n) (hn:n<=41) (hb:∀ i j,Bk 2000 (ao T i j)):fn lj [d0]=some (cY n T):=cg (fun d' h'=>by
 obtain ⟨d1,U,m,g,gs,_,_,h2,rfl⟩:=h'
 cases h2
 have:=h.inj g
 subst this
 rw [<- hs.len,<- gs.len]) ⟨d0,T,n,h,hs,hn,hb,rfl,rfl⟩
theorem l9:∀ (bs:List Bool),g8 (bs.map D.bl)=some bs
 | []=>rfl
 | b :: bs=>by show ((g8 (bs.map D.bl)).bind fun bs=>some (b :: bs))=_;rw [l9 bs];rfl
theorem zx (bs:List Bool):CZ [.lst (bs.map D.bl)]=some (.bl (bs.any id)):=by
 show ((g8 (bs.map D.bl)).bind fun bs=>some (D.bl (bs.any id)))=_
 rw [l9]
 rfl
theorem xC {α:Type} {src:FA} {js:List Nat} {elt:FD} {δ:DS} {xs:List α} {f g:α->D} (hs:src δ=some (xs.map f)) (h:∀ x∈xs,elt (some (f x) :: bv js δ)=some (g x)) (hl:xs.length<=1000):oG src js elt δ=some (.lst (xs.map g)):=by
 unfold oG
 rw [hs]
 show ((lJ _ (xs.map f)).bind _)=_
 rw [kW h]
 exact if_pos (by rw [Zi];exact hl)
theorem Ec (x:Bn):i8 (bdD x) (.tup [.int 0,.bl false])=some (.bl (decide (x ≠ b0))):=by
 rcases x with _ | ⟨k,s⟩
 . rfl
 . show some (D.bl (!((k == 0) && ((s == false) && true))))=_
   congr 2
   by_cases h:k=0
   . subst h
     cases s <;> rfl
   . have h1:(k == 0)=false:=by simp [h]
     rw [h1]
     symm
     simp [h]
def cl0 (T:List (List Bn)):Nat->Nat->Bn:=fun i j=>if i=j/\tgt (ao T i i) b0=false then b0 else ao T i j
def ox (n:Nat) (T:List (List Bn)):D:=if ((List.range n).any fun i=>decide (sqs n (cl0 T) 4 i i ≠ b0))=true then .non else ay (aE n (sqs n (cl0 T) 4))
theorem yK (n:Nat) (T:List (List Bn)):own (ox n T)=true:=by
 unfold ox
 split
 . rfl
 . exact bP _
def eu (ds:List D) (d:D):Prop:=∃ (d0:D) (T:List (List Bn)) (n:Nat),IsT d0 T/\Sq T n/\n<=41/\ds=[d0]/\d=ox n T
theorem pu {d0:D} {T:List (List Bn)} {n:Nat} (h:IsT d0 T) (hs:Sq T n) (hn:n<=41):fn eu [d0]=some (ox n T):=cg (fun d' h'=>by
 obtain ⟨d1,U,m,g,gs,_,h2,rfl⟩:=h'
 cases h2
 have:=h.inj g
 subst this
 rw [<- hs.len,<- gs.len]) ⟨d0,T,n,h,hs,hn,rfl,rfl⟩
def lgr (n:Nat) (f:Nat->Nat->Bn) (i j m:Nat):Nat->Nat->Bn:=fun x y=>if x < i \/ (x=i/\y < j) then sq n f x y else if x=i/\y=j then sqf f i j (List.range m) (f i j) else f x y
theorem CL (n:Nat) (f:Nat->Nat->Bn) (i j m:Nat):lgr n f i j m i j=sqf f i j (List.range m) (f i j):=by
 unfold lgr
 rw [if_neg (by omega),if_pos ⟨rfl,rfl⟩]
theorem sy (f:Nat->Nat->Bn) (i j m:Nat) (x:Bn):sqf f i j (List.range (m+1)) x=tg2 (sqf f i j (List.range m) x) (bs (f i m) (f m j)):=by
 unfold sqf
 rw [List.range_succ,List.foldl_append]
 rfl
theorem Ei {n:Nat} (f:Nat->Nat->Bn) {i j m:Nat} (hi:i < n) (hj:j < n):aE n (up2 (lgr n f i j m) i j (tg2 (sqf f i j (List.range m) (f i j)) (bs (f i m) (f m j))))=aE n (lgr n f i j (m+1)):=aZ fun x y _ _=>by
 unfold up2 lgr
 by_cases h:x=i/\y=j
 . rw [if_pos h,if_neg (by omega),if_pos h,sy]
 . rw [if_neg h]
   by_cases z:x < i \/ (x=i/\y < j)
   . rw [if_pos z,if_pos z]
   . rw [if_neg z,if_neg h,if_neg z,if_neg h]
theorem zh {n:Nat} (f:Nat->Nat->Bn) {i j m:Nat} (h:tgt (bs (f i m) (f m j)) (sqf f i j (List.range m) (f i j))=false):aE n (lgr n f i j m)=aE n (lgr n f i j (m+1)):=aZ fun x y _ _=>by
 unfold lgr
 by_cases z:x < i \/ (x=i/\y < j)
 . rw [if_pos z,if_pos z]
 . rw [if_neg z,if_neg z]
   by_cases h2:x=i/\y=j
   . rw [if_pos h2,if_pos h2,sy]
     unfold tg2
     rw [h,if_neg (by decide)]
   . rw [if_neg h2,if_neg h2]
theorem Ej {n:Nat} (f:Nat->Nat->Bn) (i j:Nat):aE n (lgr n f i j n)=aE n (lgr n f i (j+1) 0):=aZ fun x y _ _=>by
 unfold lgr
 by_cases z:x < i \/ (x=i/\y < j)
 . rw [if_pos z,if_pos (by omega)]
 . rw [if_neg z]
   by_cases h2:x=i/\y=j
   . rw [if_pos h2,if_pos (by omega)]
     obtain ⟨rfl,rfl⟩:=h2
     rfl
   . rw [if_neg h2,if_neg (by omega)]
     by_cases h3:x=i/\y=j+1
     . rw [if_pos h3]
       obtain ⟨rfl,rfl⟩:=h3
       rfl
     . rw [if_neg h3]
theorem Ek {n:Nat} (f:Nat->Nat->Bn) (i:Nat):aE n (lgr n f i n 0)=aE n (lgr n f (i+1) 0 0):=aZ fun x y _ hy=>by
 unfold lgr
 by_cases z:x < i \/ (x=i/\y < n)
 . rw [if_pos z,if_pos (by omega)]
 . rw [if_neg z,if_neg (by omega),if_neg (by omega)]
   by_cases h3:x=i+1/\y=0
   . rw [if_pos h3]
     obtain ⟨rfl,rfl⟩:=h3
     rfl
   . rw [if_neg h3]
theorem El {n:Nat} (f:Nat->Nat->Bn):aE n (lgr n f 0 0 0)=aE n f:=aZ fun x y _ _=>by
 unfold lgr
 rw [if_neg (by omega)]
 by_cases h3:x=0/\y=0
 . rw [if_pos h3]
   obtain ⟨rfl,rfl⟩:=h3
   rfl
 . rw [if_neg h3]
theorem Eh {n:Nat} (f:Nat->Nat->Bn):aE n (lgr n f n 0 0)=aE n (sq n f):=aZ fun x y hx _=>by
 unfold lgr
 rw [if_pos (by omega)]
def prv (r:List Nat) (k:Nat):Nat:=if k=0 then r.length - 1 else k - 1
def tot (T:List (List Bn)) (r:List Nat):Nat->Bn
 | 0=>b0
 | k+1=>bs (tot T r k) (ao T (r.getD (prv r k) 0) (r.getD k 0))
theorem lm {r:List Nat} {k:Nat} (h:k < r.length):r.take (k+1)=r.take k++[r.getD k 0]:=by
 rw [List.take_add_one,Zt h,Zs,Zt h]
 rfl
theorem xY (T:List (List Bn)) (r:List Nat):∀ k,k+1<=r.length->tot T r (k+1)=bs (ao T (r.getD (r.length - 1) 0) (r.getD 0 0)) (wt (ao T) (r.take (k+1)))
 | 0,h=>by
  have e:r.take 1=[r.getD 0 0]:=by rw [lm (by omega),List.take_zero,List.nil_append]
  rw [e]
  show bs b0 (ao T (r.getD (prv r 0) 0) (r.getD 0 0))=bs _ b0
  rw [jY,fI]
  rfl
 | k+1,h=>by
  show bs (tot T r (k+1)) (ao T (r.getD (prv r (k+1)) 0) (r.getD (k+1) 0))=_
  rw [xY T r k (by omega),lm (show k+1 < r.length by omega),lm (show k < r.length by omega),List.append_assoc]
  have e:r.take k++([r.getD k 0]++[r.getD (k+1) 0])=r.take k++[r.getD k 0,r.getD (k+1) 0]:=rfl
  have p:prv r (k+1)=k:=by unfold prv;rw [if_neg (by omega)];omega
  rw [e,vi,gk,p]
theorem xZ {T:List (List Bn)} {r:List Nat} {i:Nat} (h:∃ xs,r=i :: xs) (nd:r.Nodup) (l2:2<=r.length):tot T r r.length=wt (cz T) (r++[i]):=by
 obtain ⟨xs,rfl⟩:=h
 have l1:(i :: xs).length=xs.length+1:=rfl
 rw [l1,xY T (i :: xs) xs.length (by rw [l1];omega)]
 have ht:(i :: xs).take (xs.length+1)=i :: xs:=List.take_of_length_le (by rw [l1];omega)
 rw [ht]
 obtain ⟨s,z,e⟩:∃ s z,i :: xs=s++[z]:=by
  refine ⟨(i :: xs).dropLast,(i :: xs).getLast (by simp),?_⟩
  rw [List.dropLast_concat_getLast]
 have hz:(i :: xs).getD ((i :: xs).length - 1) 0=z:=by
  rw [Zs,e,Zh,Zj,Nat.add_sub_cancel,List.getElem?_append_right (Nat.le_refl _),Nat.sub_self]
  rfl
 have h0:(i :: xs).getD 0 0=i:=rfl
 rw [hz,h0]
 have zi:z ≠ i:=fun q=>by
  subst q
  have sl:1<=s.length:=by
   have:=congrArg List.length e
   rw [Zh,Zj] at this
   omega
  cases s with
  | nil=>simp at sl
  | cons a s =>
   have e':z :: xs=a :: (s++[z]):=e
   injection e' with e1 e2
   have n1:=(List.nodup_cons.mp nd).1
   rw [e2] at n1
   exact n1 (by simp)
 have e2:(i :: xs)++[i]=s++[z,i]:=by rw [e,List.append_assoc];rfl
 rw [e2,vi,<- e,r8]
 have c1:cz T z i=ao T z i:=if_neg zi
 rw [c1]
 congr 1
 refine (sj (i :: xs) nd fun a b _ _ hab=>?_).symm
 exact if_neg hab
theorem pE {n:Nat} {f g:Nat->Nat->Bn} (h:∀ i j,i < n->j < n->f i j=g i j) {i j:Nat} (hi:i < n) (hj:j < n):∀ (ms:List Nat) (x:Bn),(∀ m∈ms,m < n)->sqf f i j ms x=sqf g i j ms x
 | [],_,_=>rfl
 | m :: ms,x,hm=>by
  have m1:=hm m Zk
  show sqf f i j ms (tg2 x (bs (f i m) (f m j)))=sqf g i j ms (tg2 x (bs (g i m) (g m j)))
  rw [h i m hi m1,h m j m1 hj]
  exact pE h hi hj ms _ fun k mk=>hm k (Zl _ mk)
theorem jy {n:Nat} {f g:Nat->Nat->Bn} (h:∀ i j,i < n->j < n->f i j=g i j):∀ (k i j:Nat),i < n->j < n->sqs n f k i j=sqs n g k i j
 | 0,i,j,hi,hj=>h i j hi hj
 | k+1,i,j,hi,hj=>by
  show sqf (sqs n f k) i j (List.range n) (sqs n f k i j)=sqf (sqs n g k) i j (List.range n) (sqs n g k i j)
  rw [jy h k i j hi hj]
  exact pE (jy h k) hi hj _ _ fun m hm=>Zo.mp hm
theorem qK {n:Nat} {c:Nat->Nat->Bn} (hd:∀ i,i < n->c i i=b0):∀ m,m<=n->(∀ k,k < m->rgt n (dm c k) (pw c k) k=.non)->St n c m
 | 0,_,_=>vt hd
 | m+1,hm,h=>vu (qK hd m (by omega) fun k hk=>h k (by omega)) (by omega) (qU (h m (by omega)))
theorem wP {n:Nat} {T:List (List Bn)} {i:Nat} (hi:i < n) (h:sqs n (cl0 T) 4 i i ≠ b0):ox n T=.non:=by
 unfold ox
 rw [if_pos]
 exact List.any_eq_true.mpr ⟨i,Zo.mpr hi,decide_eq_true h⟩
theorem lb {T:List (List Bn)} {n:Nat} (hn:n<=16) :
 (∃ r,cY n T=.tup [.str "ring",.lst (bL r)]/\1<=r.length/\r.Nodup/\(∀ x∈r,x < n)/\¬ Nn (tot T r r.length)/\ox n T=.non) \/ ∃ U,Sq U n/\cY n T=.tup [.str "table",ay U]/\ox n T=ay U:=by
 unfold cY
 cases h1:aX (mK T) [] (List.range n) with
 | some d =>
  obtain ⟨a,t,b,e,h2,_⟩:=bJ h1
  have ht:t < n:=by have:=bA e;omega
  unfold mK at h2
  split at h2
  . cases h2
  . rename_i q
    cases h2
    have bad:¬ Nn (ao T t t):=fun z=>q (nn_kp.mpr z)
    refine .inl ⟨[t],rfl,Nat.le_refl _,by simp,fun x m=>by simp at m;omega,?_,wP ht fun z=>?_⟩
    . show ¬ Nn (bs b0 (ao T t t))
      rw [jY]
      exact bad
    . have:=sw (n:=n) (c:=cl0 T) 4 t t
      rw [z] at this
      have e2:cl0 T t t=ao T t t:=by
       unfold cl0
       rw [if_neg]
       intro w
       exact bad w.2
      rw [e2] at this
      exact bad this
 | none =>
  dsimp only
  have dg:∀ i,i < n->tgt (ao T i i) b0=false:=fun i hi=>by
   obtain ⟨a,b,e⟩:=List.append_of_mem (Zo.mpr hi)
   have:=dC h1 a i b e
   unfold mK at this
   split at this
   . rename_i q;exact nn_kp.mp q
   . cases this
  have cc:∀ i j,i < n->j < n->cl0 T i j=cz T i j:=fun i j hi _=>by
   unfold cl0 cz
   by_cases h:i=j
   . rw [if_pos h,if_pos ⟨h,dg i hi⟩]
   . rw [if_neg h,if_neg fun z=>h z.1]
  have hd:∀ i,i < n->cz T i i=b0:=fun i _=>if_pos rfl
  cases h3:aX (lQ n (cz T)) [] (List.range n) with
  | some d =>
   obtain ⟨a,m,b,e,h2,h4⟩:=bJ h3
   obtain ⟨rfl,hm⟩:=bA e
   have st:St n (cz T) a.length:=qK hd _ (by omega) fun k hk=>by
    have hk2:(List.range n)[k]? = some k:=List.getElem?_range (by omega)
    rw [e,List.getElem?_append_left hk] at hk2
    obtain ⟨a',b',ea⟩:=List.append_of_mem (List.mem_of_getElem? hk2)
    have:=h4 a' k b' ea
    unfold lQ at this
    rcases j4 (n:=n) (m:=k) (dm (cz T) k) (pw (cz T) k) with z | ⟨t,_,z,_⟩
    . exact z
    . rw [z] at this;cases this
   generalize a.length=m at *
   unfold lQ at h2
   rcases j4 (n:=n) (m:=m) (dm (cz T) m) (pw (cz T) m) with z | ⟨t,ht,z,bad⟩
   . rw [z] at h2;cases h2
   . rw [z] at h2
     cases h2
     have wp:=st.wy t m ht hm
     have wq:=st.wy m t hm ht
     obtain ⟨nd,htm,sm⟩:=Al st.fw hm ht wp wq bad
     obtain ⟨xs,ep,hx⟩:=wp.hd
     obtain ⟨ys,eq,hy⟩:=wq.hd
     have lt:∀ x∈pw (cz T) m t m++pw (cz T) m m t,x < n:=fun x mx=>by
      rcases Zp.mp mx with z | z
      . exact wp.lt ht (by omega) x z
      . exact wq.lt hm (by omega) x z
     have hdr:∃ zs,pw (cz T) m t m++pw (cz T) m m t=t :: zs:=⟨xs++pw (cz T) m m t,by rw [ep];rfl⟩
     have l2:2<=(pw (cz T) m t m++pw (cz T) m m t).length:=by
      rw [Zh,ep,eq,List.length_cons,List.length_cons]
      omega
     have bad2:¬ Nn (wt (cz T) (pw (cz T) m t m++pw (cz T) m m t++[t])):=by rw [sm];exact bad
     refine .inl ⟨_,rfl,by omega,nd,lt,?_,wP ht ?_⟩
     . rw [xZ hdr nd l2]
       exact bad2
     . rw [jy cc 4 t t ht ht]
       exact uD hd hn hdr nd lt bad2
  | none =>
   have ok:∀ k,k < n->rgt n (dm (cz T) k) (pw (cz T) k) k=.non:=fun k hk=>by
    obtain ⟨a,b,e⟩:=List.append_of_mem (Zo.mpr hk)
    have:=dC h3 a k b e
    unfold lQ at this
    rcases j4 (n:=n) (m:=k) (dm (cz T) k) (pw (cz T) k) with z | ⟨t,_,z,_⟩
    . exact z
    . rw [z] at this;cases this
   have st:=qK hd n (Nat.le_refl n) ok
   have okk:Ok (cz T) n n:=fun k hk i hi=>qU (ok k hk) i hi
   have same:∀ i j,i < n->j < n->sqs n (cl0 T) 4 i j=dm (cz T) n i j:=fun i j hi hj=>by
    rw [jy cc 4 i j hi hj]
    exact um hd okk hn (fun i j hi hj=>⟨_,st.wy i j hi hj⟩) hi hj
   refine .inr ⟨_,bf n _,rfl,?_⟩
   unfold ox
   rw [if_neg,aZ same]
   intro z
   obtain ⟨i,mi,q⟩:=List.any_eq_true.mp z
   have hi:=Zo.mp mi
   have:=of_decide_eq_true q
   rw [same i i hi hi,st.fw.dia i hi] at this
   exact this rfl
theorem wE {α:Type} {f:D->D->Option Bool} {a b:α->D}:∀ (xs:List α),(∀ x∈xs,f (a x) (b x)=some true)->eqL f (xs.map a) (xs.map b)=some true
 | [],_=>rfl
 | x :: xs,h=>by
  show ((f (a x) (b x)).bind fun p=>(eqL f (xs.map a) (xs.map b)).bind fun q=>some (p && q))=_
  rw [h x Zk,wE xs fun y m=>h y (Zl _ m)]
  rfl
theorem xV {k:Nat} {fm:FM} {δ δ':DS} {ds:List D} {d:D} (h:fm δ=some (.tup ds,δ')) (g:ds[k]? = some d):wU k fm δ=some (d,δ'):=by
 unfold wU
 rw [h]
 show (ds[k]?).map _=_
 rw [g]
 rfl
def opD:Option (Int×Int)->D
 | none=>.non
 | some p=>fr p
theorem wx {p q:Int×Int} (h:fr p=fr q):p=q:=by
 obtain ⟨a,b⟩:=p
 obtain ⟨c,e⟩:=q
 cases h;rfl
theorem vU {a b:Option (Int×Int)} (h:opD a=opD b):a=b:=by
 cases a with
 | none=>cases b with
  | none=>rfl
  | some q=>cases h
 | some p=>cases b with
  | none=>cases h
  | some q=>rw [wx h]
abbrev Hs (o:Option (Int×Int)):Prop:=∀ p,o=some p->Fr 1900 p
def lR (ds:List D) (d:D):Prop:=∃ lo hi,Hs lo/\Hs hi/\ds=[opD lo,opD hi]/\d=fr (btw lo hi)
theorem xF {lo hi:Option (Int×Int)} (h1:Hs lo) (h2:Hs hi):fn lR [opD lo,opD hi]=some (fr (btw lo hi)):=cg (fun d' h'=>by
 obtain ⟨a,b,_,_,e,rfl⟩:=h'
 injection e with e1 e2
 injection e2 with e2 _
 rw [vU e1,vU e2]) ⟨lo,hi,h1,h2,rfl,rfl⟩
def kj (ds:List D) (d:D):Prop:=∃ (x:D) (ps:List (Int×Int)),asL x=some (ps.map fr)/\(∀ p∈ps,Fk p)/\ds=[x]/\d=opD (gre ps none)
def sa (ds:List D) (d:D):Prop:=∃ (x:D) (ps:List (Int×Int)),asL x=some (ps.map fr)/\(∀ p∈ps,Fk p)/\ds=[x]/\d=opD (lea ps none)
theorem u6 {x:D} {ps:List (Int×Int)} (hx:asL x=some (ps.map fr)) (h:∀ p∈ps,Fk p):fn kj [x]=some (opD (gre ps none)):=cg (fun d' h'=>by
 obtain ⟨y,a,hy,_,e,rfl⟩:=h'
 injection e with e1 _
 subst e1
 rw [hx] at hy
 injection hy with hy
 rw [nq hy]) ⟨x,ps,hx,h,rfl,rfl⟩
theorem Bl {x:D} {ps:List (Int×Int)} (hx:asL x=some (ps.map fr)) (h:∀ p∈ps,Fk p):fn sa [x]=some (opD (lea ps none)):=cg (fun d' h'=>by
 obtain ⟨y,a,hy,_,e,rfl⟩:=h'
 injection e with e1 _
 subst e1
 rw [hx] at hy
 injection hy with hy
 rw [nq hy]) ⟨x,ps,hx,h,rfl,rfl⟩
def plD (ps:Pl):D:=.mf (ps.map fun p=>((p.1:Nat):Int)) (ps.map fun p=>fr p.2)
theorem nM:∀ (ps:Pl),shs (ps.map fun p=>fr p.2)=ps.map fun p=>fr p.2
 | []=>rfl
 | p :: ps=>by
  show sh (fr p.2) :: shs (ps.map fun p=>fr p.2)=_
  rw [nM ps];rfl
theorem uC (ps:Pl):sh (plD ps)=plD ps:=by unfold plD;rw [sh,nM]
theorem re:∀ {ps qs:Pl},plD ps=plD qs->ps=qs
 | [],[],_=>rfl
 | [],_ :: _,h=>by injection h with h _;cases h
 | _ :: _,[],h=>by injection h with h _;cases h
 | p :: ps,q :: qs,h=>by
  injection h with h1 h2
  rw [Zr,Zr] at h1 h2
  injection h1 with a1 a2
  injection h2 with b1 b2
  have e:=re (ps:=ps) (qs:=qs) (by unfold plD;rw [a2,b2])
  have e1:p.1=q.1:=by omega
  have e2:p.2=q.2:=wx b1
  rw [e,show p=q from Prod.ext e1 e2]
theorem vY:∀ {ps:Pl} {t:Nat} {v:Int×Int},(ps.map (·.1)).Nodup->(t,v)∈ps->lk (ps.map fun p=>((p.1:Nat):Int)) (ps.map fun p=>fr p.2) (t:Int)=some (fr v)
 | [],_,_,_,m=>by cases m
 | p :: ps,t,v,nd,m=>by
  rw [Zr,List.nodup_cons] at nd
  rw [Zr,Zr,rE]
  rcases Zq.mp m with z | z
  . rw [<- z,if_pos rfl]
  . have h:p.1 ≠ t:=fun e=>nd.1 (Zn.mpr ⟨_,z,e.symm⟩)
    rw [if_neg (by omega)]
    exact vY nd.2 z
theorem zv {ps:Pl} {t:Nat} {v:Int×Int} (nd:(ps.map (·.1)).Nodup) (m:(t,v)∈ps):t5 (plD ps) (.int (t:Int))=some (fr v):=vY nd m
theorem l4 {α:Type} {F:D->Option (Option D)} {f:α->D} {h:α->Option D}:∀ {xs:List α},(∀ x∈xs,F (f x)=some (h x))->iM F (xs.map f)=some (xs.filterMap h)
 | [],_=>rfl
 | x :: xs,q=>by
  rw [Zr,List.filterMap_cons]
  have ih:=l4 (F:=F) (f:=f) (h:=h) (xs:=xs) fun y m=>q y (Zl _ m)
  have e:=q x Zk
  show ((F (f x)).bind _)=_
  rw [e]
  show ((iM F (xs.map f)).bind _)=_
  rw [ih]
  cases h x <;> rfl
theorem jO {α:Type} {src:FA} {n:Nat} {js:List Nat} {g:D->DS->Option DS} {fc:FT} {felt:FM} {δ:DS} {f:α->D} {h:α->Option D} {xs:List α} (hs:src δ=some (xs.map f)) (ht:∀ x∈xs,gF n js g fc felt δ (f x)=some (h x)) (hl:xs.length<=1000):nF src n js g fc felt δ=some (.lst (xs.filterMap h),δ):=by
 unfold nF
 rw [hs]
 show ((iM (gF n js g fc felt δ) (xs.map f)).bind _)=_
 rw [l4 ht]
 exact if_pos (Nat.le_trans (List.length_filterMap_le _ _) hl)
theorem ss {n:Nat} {js:List Nat} {g:D->DS->Option DS} {fc:FT} {felt:FM} {δ δ1:DS} {d:D} (h1:g d (gn n (bv js δ))=some δ1) (h2:fc δ1=some false):gF n js g fc felt δ d=some none:=by
 unfold gF
 rw [h1]
 show ((fc δ1).bind _)=_
 rw [h2]
 rfl
structure Vb (T:List (List Bn)) (n:Nat) (ps:Pl) (t:Nat):Prop where
 sq:Sq T n
 ht:t < n
 lt:∀ p∈ps,p.1 < n
 nd:(ps.map (·.1)).Nodup
 len:ps.length<=41
 fr:∀ p∈ps,Fr 900 p.2
 bd:∀ i j,Bk 850 (ao T i j)
def c6 (ds:List D) (d:D):Prop:=∃ T n ps t,Vb T n ps t/\ds=[az T,plD ps,.int ((t:Nat):Int)]/\d=fr (eQ (ao T) ps t)
theorem oJ {T:List (List Bn)} {n:Nat} {ps:Pl} {t:Nat} (h:Vb T n ps t):fn c6 [az T,plD ps,.int ((t:Nat):Int)]=some (fr (eQ (ao T) ps t)):=cg (fun d' h'=>by
 obtain ⟨T',n',ps',t',_,e,rfl⟩:=h'
 injection e with e1 e
 injection e with e2 e
 injection e with e3 _
 injection e3 with e3
 rw [nG e1,re e2,show t=t' by omega]) ⟨T,n,ps,t,h,rfl,rfl⟩
theorem zF {n:Int} (h:Sm 850 n):Flw (n,1):=⟨⟨by show (0:Int) < 1;decide,h.mono (by decide),Nat.one_lt_two_pow (by decide)⟩,(jt (M:=n.natAbs) (by omega) (by omega) (W:=1) (by decide)).lw⟩
theorem zC {n:Int} (h:Sm 850 n):Fr 900 (n,1):=⟨(jt (M:=n.natAbs) (by omega) (by omega) (W:=1) (by decide)).lw,h.mono (by decide),Nat.one_lt_two_pow (by decide)⟩
theorem zb {T:List (List Bn)} {n:Nat} {ps:Pl} {t:Nat} (h:Vb T n ps t):∀ g∈eO (ao T) ps t,Fr 1900 g:=fun g m=>by
 obtain ⟨p,mp,e⟩:=List.mem_filterMap.mp m
 have b:=h.bd p.1 t
 rcases q:ao T p.1 t with _ | ⟨k,s⟩
 . rw [q] at e;cases e
 . rw [q] at e b
   cases e
   exact ((h.fr p mp).mi (zC b)).mono (by decide)
theorem A8 {T:List (List Bn)} {n:Nat} {ps:Pl} {t:Nat} (h:Vb T n ps t):∀ g∈dW (ao T) ps t,Fr 1900 g:=fun g m=>by
 obtain ⟨p,mp,e⟩:=List.mem_filterMap.mp m
 have b:=h.bd t p.1
 rcases q:ao T t p.1 with _ | ⟨k,s⟩
 . rw [q] at e;cases e
 . rw [q] at e b
   cases e
   exact ((h.fr p mp).pl (zC b)).mono (by decide)
def plO (ps:Pl):D:=.md (ps.map fun p=>((p.1:Nat):Int)) (ps.map fun p=>fr p.2)
def plS (ps:Pl):D:=.ms (ps.map fun p=>((p.1:Nat):Int)) (ps.map fun p=>fr p.2)
theorem BZ (ps:Pl):sh (plO ps)=plS ps:=by unfold plO plS;rw [sh,nM]
theorem Ax {ps qs:Pl} (h:plS ps=plS qs):ps=qs:=re (by injection h with h1 h2;unfold plD;rw [h1,h2])
theorem qo:∀ (ps:Pl),cA (ps.map fun p=>fr p.2)=true
 | []=>rfl
 | p :: ps=>by
  show (imm (fr p.2) && cA (ps.map fun p=>fr p.2))=true
  rw [qo ps];rfl
theorem uS:∀ (ps:Pl) (t:Nat),(lk (ps.map fun p=>((p.1:Nat):Int)) (ps.map fun p=>fr p.2) (t:Int)).isSome=decide (has ps t)
 | [],t=>by
  rw [decide_eq_false (fun ⟨v,m⟩=>nomatch m)];rfl
 | p :: ps,t=>by
  rw [Zr,Zr,rE]
  by_cases h:p.1=t
  . rw [if_pos (by omega),decide_eq_true (show has (p :: ps) t from ⟨p.2,by rw [<- h];exact Zk⟩)];rfl
  . rw [if_neg (by omega),uS ps t]
    by_cases g:has ps t
    . obtain ⟨v,m⟩:=g
      rw [decide_eq_true (show has ps t from ⟨v,m⟩),decide_eq_true (show has (p :: ps) t from ⟨v,Zl _ m⟩)]
    . rw [decide_eq_false g,decide_eq_false fun ⟨v,m⟩=>by
       rcases Zq.mp m with z | z
       . exact h (by rw [<- z])
       . exact g ⟨v,z⟩]
structure Fi (T:List (List Bn)) (n:Nat) (ps:Pl):Prop where
 sq:Sq T n
 n0:0 < n
 n1:n<=41
 vb:∀ m,m < n->Vb T n (bF (ao T) ps m) m
 fr:∀ p∈bF (ao T) ps n,Fr 900 p.2
 nd:((bF (ao T) ps n).map (·.1)).Nodup
 all:∀ t,t < n->has (bF (ao T) ps n) t
def fpt (T:List (List Bn)) (n:Nat) (ps:Pl):List (Int×Int):=(List.range (n - 1)).map fun i=>mi (atP (bF (ao T) ps n) (i+1)) (atP (bF (ao T) ps n) 0)
def lg (ds:List D) (d:D):Prop:=∃ d0 d1 T n ps,IsT d0 T/\sh d1=plS ps/\Fi T n ps/\ds=[d0,d1]/\d=.lst ((fpt T n ps).map fr)
theorem uf {d0 d1:D} {T:List (List Bn)} {n:Nat} {ps:Pl} (h0:IsT d0 T) (h1:sh d1=plS ps) (h:Fi T n ps):fn lg [d0,d1]=some (.lst ((fpt T n ps).map fr)):=cg (fun d' h'=>by
 obtain ⟨e0,e1,T',n',ps',g0,g1,g,e,rfl⟩:=h'
 injection e with a1 e
 injection e with a2 _
 subst a1 a2
 have t1:=IsT.inj h0 g0
 subst t1
 have t2:=Ax (h1.symm.trans g1)
 subst t2
 have t3:n=n':=h.sq.len.symm.trans g.sq.len
 subst t3
 rfl) ⟨d0,d1,T,n,ps,h0,h1,h,rfl,rfl⟩
theorem wY {g:FA} {δ:DS} {i j:Int} (h:g δ=some [.int i,.int j]) (h0:0<=i) (h1:i<=1000) (h2:0<=j) (h3:j<=1000):pD g δ=some ((List.range (j - i).toNat).map fun k=>D.int (i+((k:Nat):Int))):=by
 unfold pD
 rw [h]
 show (if -(2 ^ 62)<=i/\i < 2 ^ 62/\-(2 ^ 62)<=j/\j < 2 ^ 62 then some ((List.range (j - i).toNat).map fun k=>D.int (i+((k:Nat):Int))) else none)=_
 rw [if_pos (by omega)]
theorem wX {g:FA} {δ:DS} {n:Nat} (h:g δ=some [.int 1,.int (n:Int)]) (h0:0 < n) (h1:n<=1000):pD g δ=some ((List.range (n - 1)).map fun (i:Nat)=>D.int (((i+1:Nat)):Int)):=by
 rw [wY h (by decide) (by decide) (by omega) (by omega),show ((n:Int) - 1).toNat=n - 1 by omega]
 refine congrArg some (List.map_congr_left fun i _=>?_)
 rw [show (1:Int)+((i:Nat):Int)=((i+1:Nat):Int) by omega]
theorem Bh {d:Nat->Nat->Bn} {ps:Pl} {m:Nat} (h:¬ has (bF d ps m) m):bF d ps (m+1)=bF d ps m++[(m,eQ d (bF d ps m) m)]:=if_neg h
theorem zH {d:Nat->Nat->Bn} {ps:Pl} {m:Nat} (h:has (bF d ps m) m):bF d ps (m+1)=bF d ps m:=if_pos h
theorem xy {d:Nat->Nat->Bn} {n:Nat} (dia:∀ i,i < n+1->d i i=b0):uv d (n+1) [(0,(0,1))] (fun _=>0):=by
 refine ⟨fun p m=>?_,by simp,fun p m=>?_,fun p m=>?_,fun p mp q mq=>?_⟩
 . rw [Zm.mp m];exact Nat.succ_pos n
 . rw [Zm.mp m];show (0:Int) < 1;decide
 . rw [Zm.mp m];show (0:Rat)=vl (0,1);rw [hU];rfl
 . rw [Zm.mp mp,Zm.mp mq]
   show Kq (0 - 0) (d 0 0)
   rw [dia 0 (Nat.succ_pos n)]
   show (0:Rat) - 0<=((0:Int):Rat)
   grind
theorem rX {k:Nat} {c:Nat->Nat->Bn} (h:∀ i j,Bk k (c i j)):∀ (m i j:Nat),Bk (k+m) (dm c m i j)
 | 0,i,j=>h i j
 | m+1,i,j=>by
  rcases l7 (c:=c) m i j with e | e
  . rw [e];exact (rX h m i j).mono (by omega)
  . rw [e];exact (rX h m i m).sum (rX h m m j)
theorem C9 {k:Nat} (hk:1<=k) {T:List (List Bn)} (h:∀ i j,Bk k (ao T i j)) (i j:Nat):Bk k (cz T i j):=by
 unfold cz
 split
 . show Sm k 0
   exact Sm.mono (k:=1) (show (0:Int).natAbs < 2 ^ 1 by decide) hk
 . exact h i j
theorem Bs {k n:Nat} {f:Nat->Nat->Bn} (h:∀ i j,Bk k (f i j)) (i j:Nat):Bk k (ao (aE n f) i j):=by
 unfold ao
 rw [Zs,Zs]
 cases q:(aE n f)[i]? with
 | none=>trivial
 | some r =>
  rw [Option.getD_some]
  have m:=List.mem_of_getElem? q
  unfold aE at m
  obtain ⟨a,_,rfl⟩:=Zn.mp m
  cases p:(sN n (f a))[j]? with
  | none=>trivial
  | some b =>
   have m2:=List.mem_of_getElem? p
   unfold sN at m2
   obtain ⟨c,_,rfl⟩:=Zn.mp m2
   exact h a c
theorem EH {k:Nat} {b:Bn} (h:Bk k b):Bo (2 ^ k) b:=by
 rcases b with _ | ⟨n,s⟩
 . trivial
 . have h':n.natAbs < 2 ^ k:=h
   have c1:((2 ^ k:Nat):Int)=2 ^ k:=by rw [Int.natCast_pow];rfl
   show -(2 ^ k)<=n/\n<=2 ^ k
   omega
structure Cld (n:Nat) (T U:List (List Bn)):Prop where
 sq:Sq U n
 cl:cY n T=.tup [.str "table",ay U]
 dia:∀ i,i < n->ao U i i=b0
 clo:∀ k i j,k < n->i < n->j < n->Le (ao U i j) (bs (ao U i k) (ao U k j))
 li:∀ x,Li (ao T) n x <-> Li (ao U) n x
 is:U=aE n (dm (cz T) n)
theorem zg {c d:Nat->Nat->Bn} {n:Nat} {x:Nat->Rat} (e:∀ i j,i < n->j < n->c i j=d i j):Li c n x <-> Li d n x :=
 ⟨fun h i j hi hj=>by rw [<- e i j hi hj];exact h i j hi hj,fun h i j hi hj=>by rw [e i j hi hj];exact h i j hi hj⟩
theorem BM {T:List (List Bn)} {n:Nat} {x:Nat->Rat} (dg:∀ i,i < n->Nn (ao T i i)):Li (ao T) n x <-> Li (cz T) n x:=by
 constructor
 . intro h i j hi hj
   unfold cz
   split
   . rename_i e
     subst e
     show x i - x i<=((0:Int):Rat)
     grind
   . exact h i j hi hj
 . intro h i j hi hj
   have:=h i j hi hj
   unfold cz at this
   split at this
   . rename_i e
     subst e
     have e2:x i - x i=0:=by grind
     rw [e2,rJ]
     exact dg i hi
   . exact this
theorem oU (T:List (List Bn)) (n:Nat):(∃ r,cY n T=.tup [.str "ring",.lst (bL r)]/\∀ x,¬ Li (ao T) n x) \/ ∃ U,Cld n T U:=by
 cases h1:aX (mK T) [] (List.range n) with
 | some d =>
  obtain ⟨a,t,b,e,h2,_⟩:=bJ h1
  have ht:t < n:=by have:=bA e;omega
  unfold mK at h2
  split at h2
  . cases h2
  . rename_i q
    cases h2
    refine .inl ⟨[t],?_,fun x hx=>q (nn_kp.mpr (AU ht hx))⟩
    unfold cY
    rw [h1]
    rfl
 | none =>
  have dg:∀ i,i < n->Nn (ao T i i):=fun i hi=>by
   obtain ⟨a,b,e⟩:=List.append_of_mem (Zo.mpr hi)
   have:=dC h1 a i b e
   unfold mK at this
   split at this
   . rename_i q;exact nn_kp.mp q
   . cases this
  have hd:∀ i,i < n->cz T i i=b0:=fun i _=>if_pos rfl
  cases h3:aX (lQ n (cz T)) [] (List.range n) with
  | some d =>
   obtain ⟨a,m,b,e,h2,h4⟩:=bJ h3
   obtain ⟨rfl,hm⟩:=bA e
   generalize a.length=m at *
   unfold lQ at h2
   rcases j4 (n:=n) (m:=m) (dm (cz T) m) (pw (cz T) m) with z | ⟨t,ht,z,bad⟩
   . rw [z] at h2;cases h2
   . rw [z] at h2
     cases h2
     refine .inl ⟨pw (cz T) m t m++pw (cz T) m m t,?_,fun x hx=>Ef hm ht bad ((BM dg).mp hx)⟩
     unfold cY
     rw [h1]
     dsimp only
     rw [h3]
  | none =>
   have ok:∀ k,k < n->rgt n (dm (cz T) k) (pw (cz T) k) k=.non:=fun k hk=>by
    obtain ⟨a,b,e⟩:=List.append_of_mem (Zo.mpr hk)
    have:=dC h3 a k b e
    unfold lQ at this
    rcases j4 (n:=n) (m:=k) (dm (cz T) k) (pw (cz T) k) with z | ⟨t,_,z,_⟩
    . exact z
    . rw [z] at this;cases this
   have st:=qK hd n (Nat.le_refl n) ok
   have ec:∀ i j,i < n->j < n->ao (aE n (dm (cz T) n)) i j=dm (cz T) n i j:=fun i j hi hj=>bz _ hi hj
   refine .inr ⟨aE n (dm (cz T) n),bf n _,?_,fun i hi=>?_,fun k i j hk hi hj=>?_,fun x=>?_,rfl⟩
   . unfold cY
     rw [h1]
     dsimp only
     rw [h3]
   . rw [ec i i hi hi];exact st.fw.dia i hi
   . rw [ec i j hi hj,ec i k hi hk,ec k j hk hj];exact st.fw.clo k hk i j hi hj
   . rw [BM dg,zg ec]
     exact ⟨fun h=>zf h n (Nat.le_refl n),ze⟩
theorem Cld.bk {n k:Nat} {T U:List (List Bn)} (c:Cld n T U) (hk:1<=k) (h:∀ i j,Bk k (ao T i j)) (i j:Nat):Bk (k+n) (ao U i j):=by
 rw [c.is]
 exact Bs (rX (C9 hk h) n) i j
structure Beg (U:List (List Bn)) (n:Nat) (ps:Pl):Prop where
 good:∃ x,uv (ao U) n ps x
 dy:∃ W M:Int,0 < W/\0<=M/\W<=2 ^ 240/\M<=2 ^ 602/\∀ p∈ps,Dy W M p.2
theorem qu {U:List (List Bn)} {ps:Pl} {n:Nat} (bk:∀ i j,Bk 600 (ao U i j)) (b:Beg U n ps) (m:Nat) (hm:m<=41):∃ W M:Int,W<=2 ^ 281/\M<=2 ^ 607/\∀ p∈bF (ao U) ps m,Dy W M p.2:=by
 obtain ⟨W,M,h1,h2,h3,h4,h5⟩:=b.dy
 have p1:(0:Int) < 2 ^ 600:=iF 600
 have f:=wC h1 (Int.le_of_lt p1) h2 (fun i j=>EH (bk i j)) h5 m
 refine ⟨_,_,?_,?_,f⟩
 . have e1:(2:Int) ^ m<=2 ^ 41:=by
    have:=Nat.pow_le_pow_right (n:=2) (by decide) hm
    have c1:((2 ^ m:Nat):Int)=2 ^ m:=by rw [Int.natCast_pow];rfl
    have c2:((2 ^ 41:Nat):Int)=2 ^ 41:=by rw [Int.natCast_pow];rfl
    omega
   have e2:W*2 ^ m<=W*2 ^ 41:=Int.mul_le_mul_of_nonneg_left e1 (Int.le_of_lt h1)
   have e3:W*2 ^ 41<=2 ^ 240*2 ^ 41:=Int.mul_le_mul_of_nonneg_right h3 (Int.le_of_lt (iF 41))
   have e4:(2:Int) ^ 240*2 ^ 41=2 ^ 281:=by rw [<- Int.pow_add]
   omega
 . have e1:(m:Int)*(2 ^ 600+1)<=41*(2 ^ 600+1):=Int.mul_le_mul_of_nonneg_right (by omega) (by omega)
   have e4:(2:Int) ^ 607=128*2 ^ 600:=by rw [show (607:Nat)=7+600 from rfl,Int.pow_add];rfl
   have e5:(2:Int) ^ 602=4*2 ^ 600:=by rw [show (602:Nat)=2+600 from rfl,Int.pow_add];rfl
   rw [e5] at h4
   rw [e4]
   generalize (2:Int) ^ 600=z at *
   omega
theorem EB {U:List (List Bn)} {n:Nat} {ps:Pl} (sq:Sq U n) (n0:0 < n) (n1:n<=41) (bk:∀ i j,Bk 600 (ao U i j)) (dia:∀ i,i < n->ao U i i=b0) (clo:∀ k i j,k < n->i < n->j < n->Le (ao U i j) (bs (ao U i k) (ao U k j))) (b:Beg U n ps):Fi U n ps:=by
 have g:=fun m hm=>lO dia clo b.good m hm
 have d:=fun m hm=>qu bk b m hm
 refine ⟨sq,n0,n1,fun m hm=>?_,fun p mp=>?_,?_,(g n (Nat.le_refl n)).2.1⟩
 . obtain ⟨⟨x,gx⟩,_,_⟩:=g m (by omega)
   obtain ⟨W,M,a1,a2,a3⟩:=d m (by omega)
   refine ⟨sq,hm,gx.lt,gx.nd,?_,fun p mp=>zN (a3 p mp) a1 a2 (by decide),fun i j=>(bk i j).mono (by decide)⟩
   have:=iu n _ gx.nd (fun x m=>by obtain ⟨p,mp,rfl⟩:=Zn.mp m;exact gx.lt p mp)
   rw [Zi] at this
   omega
 . obtain ⟨W,M,a1,a2,a3⟩:=d n n1
   exact zN (a3 p mp) a1 a2 (by decide)
 . obtain ⟨⟨x,gx⟩,_,_⟩:=g n (Nat.le_refl n)
   exact gx.nd
theorem AW (T:List (List Bn)) (n:Nat) (ps:Pl):(fpt T n ps).length=n - 1:=by unfold fpt;rw [Zi,List.length_range]
theorem C4 {U:List (List Bn)} {n:Nat} {ps:Pl} (n1:n<=41) (bk:∀ i j,Bk 600 (ao U i j)) (h:Fi U n ps) (b:Beg U n ps):∀ p∈fpt U n ps,Fr 900 p:=fun p m=>by
 unfold fpt at m
 obtain ⟨i,mi',rfl⟩:=Zn.mp m
 have hi:=Zo.mp mi'
 obtain ⟨W,M,a1,a2,a3⟩:=qu bk b n n1
 obtain ⟨v,mv⟩:=h.all (i+1) (by omega)
 obtain ⟨z,mz⟩:=h.all 0 h.n0
 rw [jw h.nd mv,jw h.nd mz]
 refine zN (a:=281) (b:=608) ((a3 _ mv).mi (a3 _ mz)) a1 ?_ (by decide)
 have e4:(2:Int) ^ 608=2*2 ^ 607:=by rw [show (608:Nat)=1+607 from rfl,Int.pow_add];rfl
 rw [e4]
 generalize (2:Int) ^ 607=z at *
 omega
theorem pA {U:List (List Bn)} {n:Nat} {ps:Pl} (h:Fi U n ps) {i:Nat} (hi:i < n):vl (cI (fpt U n ps) i)=vl (mi (atP (bF (ao U) ps n) i) (atP (bF (ao U) ps n) 0)):=by
 cases i with
 | zero =>
  obtain ⟨z,mz⟩:=h.all 0 h.n0
  rw [jw h.nd mz]
  have hp:=(h.fr _ mz).pos
  rw [nC hp hp]
  show vl (0,1)=_
  rw [hU]
  show ((0:Int):Rat)=_
  have:((0:Int):Rat)=0:=rfl
  rw [this]
  grind
 | succ i =>
  unfold cI db fpt
  rw [List.getD_cons_succ,Zs,List.getElem?_map,List.getElem?_range (by omega)]
  rfl
theorem vZ {T:List (List Bn)} {ps:List (Int×Int)} {k:Nat} (hk:1<=k) (h:∀ p∈ps,Fr k p):rG T ps=true <-> Li (ao T) (ps.length+1) (fun i=>vl (cI ps i)):=by
 have key:∀ i j,kp (dif ps i j) (ao T i j)=true <-> Kq (vl (cI ps i) - vl (cI ps j)) (ao T i j):=fun i j=>by
  rw [BN (Bm hk h i j).pos]
  unfold dif
  rw [nC (gd hk h i).pos (gd hk h j).pos]
 unfold rG
 rw [List.all_eq_true]
 constructor
 . intro a i j hi hj
   have:=a i (Zo.mpr hi)
   rw [List.all_eq_true] at this
   exact (key i j).mp (this j (Zo.mpr hj))
 . intro a i mi
   rw [List.all_eq_true]
   intro j mj
   exact (key i j).mpr (a i j (Zo.mp mi) (Zo.mp mj))
theorem zD {U:List (List Bn)} {n:Nat} {ps:Pl} (n1:n<=41) (bk:∀ i j,Bk 600 (ao U i j)) (dia:∀ i,i < n->ao U i i=b0) (clo:∀ k i j,k < n->i < n->j < n->Le (ao U i j) (bs (ao U i k) (ao U k j))) (h:Fi U n ps) (b:Beg U n ps):Li (ao U) n (fun i=>vl (cI (fpt U n ps) i)):=by
 have f:=Bi h.n0 dia clo b.good
 intro i j hi hj
 have:=f i j hi hj
 show Kq (vl (cI (fpt U n ps) i) - vl (cI (fpt U n ps) j)) _
 rw [pA h hi,pA h hj]
 exact this
theorem oW {U:List (List Bn)} {n:Nat} (n0:0 < n) (dia:∀ i,i < n->ao U i i=b0):Beg U n [(0,(0,1))]:=by
 obtain ⟨m,rfl⟩:∃ m,n=m+1:=⟨n - 1,by omega⟩
 have t1:(1:Int)<=2 ^ 240:=by have:=iF 240;omega
 refine ⟨⟨_,xy dia⟩,1,0,by decide,Int.le_refl 0,t1,Int.le_of_lt (iF 602),fun p m=>?_⟩
 rw [Zm.mp m]
 exact jt (by decide) (by decide) (by decide)
def bN (ds:List D) (d:D):Prop:=∃ (d0:D) (T U:List (List Bn)) (n:Nat),IsT d0 T/\Sq T n/\n<=41/\(∀ i j,Bk 2000 (ao T i j))/\Cld n T U/\ds=[d0]/\d=ay U
theorem gv {d0:D} {T U:List (List Bn)} {n:Nat} (h:IsT d0 T) (hs:Sq T n) (hn:n<=41) (hb:∀ i j,Bk 2000 (ao T i j)) (c:Cld n T U):fn bN [d0]=some (ay U):=cg (fun d' h'=>by
 obtain ⟨d1,T',U',m,g,gs,_,_,c',h2,rfl⟩:=h'
 cases h2
 have:=h.inj g
 subst this
 have e:m=n:=by rw [<- hs.len,<- gs.len]
 subst e
 rw [c.is,c'.is]) ⟨d0,T,U,n,h,hs,hn,hb,c,rfl,rfl⟩
abbrev ps0:Pl:=[(0,(0,1))]
def gR (ds:List D) (d:D):Prop:=∃ (d0:D) (T U:List (List Bn)) (n:Nat),IsT d0 T/\Sq T n/\0 < n/\n<=41/\(∀ i j,Bk 550 (ao T i j))/\Cld n T U/\ds=[d0]/\d=.lst ((fpt U n ps0).map fr)
theorem uZ {d0:D} {T U:List (List Bn)} {n:Nat} (h:IsT d0 T) (hs:Sq T n) (n0:0 < n) (hn:n<=41) (hb:∀ i j,Bk 550 (ao T i j)) (c:Cld n T U):fn gR [d0]=some (.lst ((fpt U n ps0).map fr)):=cg (fun d' h'=>by
 obtain ⟨d1,T',U',m,g,gs,_,_,_,c',h2,rfl⟩:=h'
 cases h2
 have:=h.inj g
 subst this
 have e:m=n:=by rw [<- hs.len,<- gs.len]
 subst e
 rw [c.is,c'.is]) ⟨d0,T,U,n,h,hs,n0,hn,hb,c,rfl,rfl⟩
theorem Cld.bk600 {n:Nat} {T U:List (List Bn)} (c:Cld n T U) (hn:n<=41) (h:∀ i j,Bk 550 (ao T i j)) (i j:Nat):Bk 600 (ao U i j):=(c.bk (by decide) h i j).mono (by omega)
theorem Cld.fi {n:Nat} {T U:List (List Bn)} (c:Cld n T U) (n0:0 < n) (hn:n<=41) (h:∀ i j,Bk 550 (ao T i j)):Fi U n ps0:=EB c.sq n0 hn (c.bk600 hn h) c.dia c.clo (oW n0 c.dia)
open Classical in
noncomputable def gX (S:List D->D->Prop) (B:List D->Prop) (C:Addr):GX:=fun ds=>match fn S ds with
 | some d=>some (.ok d)
 | none=>if B ds then some (.error C) else none
theorem Ex {S:List D->D->Prop} {B:List D->Prop} {C:Addr} {ds:List D} {d:D} (h:fn S ds=some d):gX S B C ds=some (.ok d):=by
 unfold gX
 rw [h]
theorem zw {S:List D->D->Prop} {B:List D->Prop} {C:Addr} {ds:List D} (h:fn S ds=none) (b:B ds):gX S B C ds=some (.error C):=by
 unfold gX
 rw [h]
 exact if_pos b
theorem uW {S:List D->D->Prop} {B:List D->Prop} {C:Addr} {ds:List D} {r:Except Addr D} (h:gX S B C ds=some r):(∃ d,fn S ds=some d/\r=.ok d) \/ (B ds/\r=.error C):=by
 unfold gX at h
 split at h
 . rename_i d e
   exact .inl ⟨d,e,(Option.some.inj h).symm⟩
 . split at h
   . rename_i b
     exact .inr ⟨b,(Option.some.inj h).symm⟩
   . cases h
theorem wz {S:List D->D->Prop} {ds:List D} (h:∀ d,¬ S ds d):fn S ds=none:=by
 cases q:fn S ds with
 | none=>rfl
 | some d=>exact absurd (aV q) (h d)
def xR (ds:List D):Prop:=∃ (d0:D) (T:List (List Bn)) (n:Nat) (r:List Nat),IsT d0 T/\Sq T n/\n<=41/\(∀ i j,Bk 2000 (ao T i j))/\cY n T=.tup [.str "ring",.lst (bL r)]/\ds=[d0]
noncomputable abbrev cN (C:Addr):GX:=gX bN xR C
noncomputable abbrev bY (C:Addr):GX:=gX gR xR C
theorem oa {n:Nat} {T U:List (List Bn)} {r:List Nat} (c:Cld n T U) (h:cY n T=.tup [.str "ring",.lst (bL r)]):False:=by
 have:=c.cl.symm.trans h
 injection this with this
 injection this with this _
 injection this with this
 exact absurd this (by decide)
theorem CI {ds:List D} (b:xR ds):fn bN ds=none:=wz fun d h=>by
 obtain ⟨d0,T,n,r,g,gs,_,_,hc,rfl⟩:=b
 obtain ⟨d1,T',U',m,g',gs',_,_,c',h2,rfl⟩:=h
 cases h2
 have:=g.inj g'
 subst this
 have e:m=n:=by rw [<- gs.len,<- gs'.len]
 subst e
 exact oa c' hc
theorem D9 {ds:List D} (b:xR ds):fn gR ds=none:=wz fun d h=>by
 obtain ⟨d0,T,n,r,g,gs,_,_,hc,rfl⟩:=b
 obtain ⟨d1,T',U',m,g',gs',_,_,_,c',h2,rfl⟩:=h
 cases h2
 have:=g.inj g'
 subst this
 have e:m=n:=by rw [<- gs.len,<- gs'.len]
 subst e
 exact oa c' hc
abbrev okN (N:Addr):Addr->Bool:=fun C=>C == N
def aT (C:Addr) (ds:List D) (d:D):Prop:=ds=[.exc C]/\d=.bl true
theorem ED {C:Addr}:fn (aT C) [.exc C]=some (.bl true):=cg (fun d' h'=>h'.2) ⟨rfl,rfl⟩
def Bk5 (T:List (List Bn)):Prop:=∀ i j,Bk 550 (ao T i j)
theorem Eg {T:List (List Bn)} {ps:List (Int×Int)} {k:Nat} (hk:1<=k) (h:∀ p∈ps,Fr k p) (a:∀ i,i < ps.length+1->∀ j,j < ps.length+1->kp (dif ps i j) (ao T i j)=true):Li (ao T) (ps.length+1) (fun i=>vl (cI ps i)):=(vZ hk h).mp (by
 unfold rG
 rw [List.all_eq_true]
 intro i mi
 rw [List.all_eq_true]
 intro j mj
 exact a i (Zo.mp mi) j (Zo.mp mj))
def Due (n:Nat) (T:List (List Bn)):Bool->Prop
 | true=>∃ U,Cld n T U
 | false=>∃ r,cY n T=.tup [.str "ring",.lst (bL r)]
theorem C8 {n:Nat} (T:List (List Bn)) (hn:n<=16):∃ b,Due n T b/\eV (ox n T) .non=some (.bl b):=by
 rcases oU T n with ⟨r,cl,_⟩ | ⟨U,c⟩
 . rcases lb (T:=T) hn with ⟨_,_,_,_,_,_,e2⟩ | ⟨U,_,e1,_⟩
   . exact ⟨false,⟨r,cl⟩,by rw [e2];rfl⟩
   . rw [cl] at e1
     injection e1 with e1
     injection e1 with e1 _
     injection e1 with e1
     exact absurd e1 (by decide)
 . rcases lb (T:=T) hn with ⟨_,e1,_⟩ | ⟨U',_,_,e2⟩
   . exact (oa c e1).elim
   . exact ⟨true,⟨U,c⟩,by rw [e2];rfl⟩
theorem xL:bootBuiltins "dict" = some (.type "dict"):=by decide +kernel
theorem i6:bootBuiltins "ValueError" = some (.type "ValueError"):=by decide +kernel
structure Bw (K:PySem.W.Frag) (cW cP w1 w2 w3 w4 w5 w6:Addr):Prop where
 ek:se K cP
 x:PySem.W.excIn K cP [.type "ValueError",.type "Exception",.type "BaseException",.type "object"] "ValueError.__new__" = true
 wc:PySem.W.isClsIn K cW=true
 wt:PySem.W.typeIn K (.ref cW)=some (.type "type")
 wb:PySem.W.subIn K (.ref cW) (.type "BaseException")=some true
 nw:PySem.W.subIn K (.ref cP) (.ref cW)=some true
 kn:PySem.W.kitOne K (.ref cP) (.ref cP)=some true
 kv:PySem.W.kitOne K (.ref cP) (.type "ValueError")=some true
 ka:PySem.W.kitAny K (.ref cP) [.ref w1,.ref w2,.ref w3,.ref w4,.ref w5,.ref w6]=some false
theorem AO {K:PySem.W.Frag} {cP cW:Addr} (h:PySem.W.subIn K (.ref cP) (.ref cW)=some true):∀ C,okN cP C=true->PySem.W.subIn K (.ref C) (.ref cW)=some true:=fun C q=>by
 have e:C=cP:=beq_iff_eq.mp q
 rw [e]
 exact h
theorem yM {s:SD} {δ:DS} {d:D} (h:s δ=some (.rt d)):n6 (s δ)=some (.ok d):=by rw [h];rfl
theorem Cz {s:SD} {δ δ':DS} {C:Addr} (h:s δ=some (.mk C δ')):n6 (s δ)=some (.error C):=by rw [h];rfl
theorem CA {s:SD} {δ δ':DS} {C:Addr} (h:s δ=some (.ex C δ')):n6 (s δ)=some (.error C):=by rw [h];rfl
theorem Ae {s u:SD} {δ δ':DS} {C:Addr} (h:s δ=some (.mk C δ')):aC s u δ=some (.mk C δ'):=by unfold aC;rw [h];rfl
theorem zS {CX:CXT} {P:Program} {w:World} {K:PySem.W.Frag} {mg:Str->Option Value} {base:Heap} {N:List Str} {qual:Str} {scope:Scope} {f:Addr} {cd:Value} {A:Around} {outer:List Env} {s:Shared} {H:Hp} {E:XK}:(gj CX P w K mg base N qual scope f cd A outer s H E).K=K:=rfl
structure FK (K:PySem.W.Frag) (x:Str) (st:Stmt) (f:Addr):Prop where
 ns:PySem.W.nsIn K mainGlobals x=some (some (.ref f))
 ex:∃ (oc:Value) (od:Option Addr) (kV doc pm:Value) (an:Option Addr) (cdv ct:Value) (osl:Array (Option Value)),K.lookup f=some ⟨oc,od,.func (PySem.W.fnOf x x (dw st) (bH st) (ap st) .none kV doc pm an cdv ct),osl⟩/\PySem.W.codeIn K cdv x=true
 kp:PySem.W.keepIn K (.ref f)=true
theorem FK.get {K:PySem.W.Frag} {x:Str} {st:Stmt} {f:Addr} {ps:List Str} (h:FK K x st f) (b:∀ (kV doc pm:Value) (an:Option Addr) (cdv ct:Value) (us:List Value),us.length=ps.length->bindArgs (PySem.W.fnOf x x (dw st) (bH st) (ap st) .none kV doc pm an cdv ct) ⟨us,[]⟩=pure (ps.zip us)):∃ fd,Fun K x x st f fd/\Binds K fd ps []:=by
 obtain ⟨oc,od,kV,doc,pm,an,cdv,ct,osl,l,c⟩:=h.ex
 have F:=zA (st:=st) l c h.kp
 exact ⟨_,F,F.binds b⟩
theorem FK.of2 {K:PySem.W.Frag} {x:Str} {st:Stmt} {f:Addr} (e:Hd.fv K x f=Hd.fe x st .none f):FK K x st f:=⟨(Hd.fv_inv e).1,(Hd.fv_inv e).2.2,(Hd.fv_inv e).2.1⟩
section
variable (P:Program) (w:World) (base:Heap) {K:PySem.W.Frag} {mg:Str->Option Value} {h:Heap} {k:Nat} {f:Addr} {fd:FuncData} {x:Str} {st:Stmt} {ps:List Str}
theorem mkP {G:List D->Option D} (X:K.In h) (N:h.Ns mainGlobals mg) (a:FK K x st f) (o:FnOk P w K mg base CX0 k f fd ps (bi K ps.length G)) (b:Binds K fd ps []):Has P w K mg base k x ps G:=⟨⟨_,_,o,PySem.W.mg_of X N a.ns,a.kp,b⟩⟩
theorem mkF {G:List D->Option D} (X:K.In h) (N:h.Ns mainGlobals mg) (a:FK K x st f) (o:FnOk P w K mg base CX0 k f fd ps (cf K ps.length G)) (b:Binds K fd ps []):HasF P w K mg base k x ps G:=⟨⟨_,_,o,PySem.W.mg_of X N a.ns,a.kp,b⟩⟩
theorem mkM {G:List D->Option (D×D)} (X:K.In h) (N:h.Ns mainGlobals mg) (a:FK K x st f) (o:FnOk P w K mg base CX0 k f fd ps (tH K ps.length G)) (b:Binds K fd ps []):Do P w K mg base k x ps G:=⟨⟨_,_,o,PySem.W.mg_of X N a.ns,a.kp,b⟩⟩
end
section
variable {P:Program} {w:World} {K:PySem.W.Frag} {mg:Str->Option Value} {base:Heap} {f:Addr} {fd:FuncData}
theorem lU:aF ["thing"] ["thing"] (ap iH):=⟨rfl,rfl,rfl,by decide +kernel,rfl,by decide +kernel,by decide +kernel⟩
theorem tz (F:Fun K "is_whole" "is_whole" iH f fd)    (m_isinstance:mg "isinstance" = none) (m_int:mg "int" = none) (m_bool:mg "bool" = none):FnOk P w K mg base CX0 1 f fd ["thing"] (bi K 1 (fn iT)):=by
 have sc:=lU
 refine bK F lU (fun cdv A outer s H E ds d hr hG hl=>?_)
 obtain ⟨x,b,h,rfl,rfl⟩:=aV hG
 refine ⟨_,(aJ (aS (gL (aN iB (lP tD) rfl m_isinstance boot_isinstance (ac (ad 0) (ac (lY rfl m_int boot_int) ah))) (gm (ji (aN iB (lP pX) rfl m_isinstance boot_isinstance (ac (ad 0) (ac (lY rfl m_bool boot_bool) ah)))))))),?_⟩
 . show aI ((?f:SD) [some _])=_
   cases x <;> simp [rO] at h <;> subst h <;> rfl
theorem gW:aF ["number","above_nought","one","other","rest"] ["number","above_nought"] (ap dQ):=⟨rfl,rfl,rfl,by decide +kernel,rfl,by decide +kernel,by decide +kernel⟩
def cdC:FT:=fT (f2 gNe (ae 3) (fC (.int 0)))
def cdS:SD:=aC (fQ 4 (f2 (gI (fun _ j=>0 < j) fun i j=>.int (i % j)) (ae 2) (ae 3))) (aC (fQ 2 (ae 3)) (fQ 3 (ae 4)))
theorem wL:∀ (n:Nat) (x y:Int) (u v o:Option D),0<=y->(y=0->0<=x)->y.toNat < n->∃ o',gH n cdC cdS [u,v,some (.int x),some (.int y),o]=some (.nx [u,v,some (.int (gc x y)),some (.int 0),o'])
 | 0,x,y,u,v,o,h0,h1,h2=>by omega
 | n+1,x,y,u,v,o,h0,h1,h2=>by
  by_cases h:y=0
  . subst h
    refine ⟨o,?_⟩
    rw [v8 (h1 rfl)]
    rfl
  . have hy:0 < y:=by omega
    have hc:cdC [u,v,some (.int x),some (.int y),o]=some true:=by
     show some (!(y == 0))=some true
     simp [h]
    have hs:cdS [u,v,some (.int x),some (.int y),o]=some (.nx [u,v,some (.int y),some (.int (x % y)),some (.int (x % y))]):=by
     unfold cdS
     simp only [cJ,aC,fQ,ae,f2,Zc,Zd,Ze,Zf,Zg,aq (C:=fun _ j=>0 < j) (i:=x) hy]
    obtain ⟨o',ih⟩:=wL n y (x % y) u v (some (.int (x % y))) (Int.emod_nonneg x h) (fun _=>h0) (by have:=Int.emod_lt_of_pos x hy;omega)
    refine ⟨o',?_⟩
    rw [wa] at ih
    rw [sI hc hs]
    exact ih
theorem kT (F:Fun K "common_divisor" "common_divisor" dQ f fd)    :FnOk P w K mg base CX0 1 f fd ["number","above_nought"] (bi K 2 (fn c8)):=by
 have sc:=gW
 refine bK F gW (fun cdv A outer s H E ds d hr hG hl=>?_)
 obtain ⟨a,b,hb,rfl,rfl⟩:=aV hG
 refine ⟨_,(aL (bU 2 sc.nd (ad 0))
  (aL (bU 3 sc.nd (ad 1))
  (aL (pT (b.toNat+1) PassesOwn.never (yp hr.units0 (ad 3) aj)
   (aL (bU 4 sc.nd (bR (ad 2) (ad 3)))
   (aL (bU 2 sc.nd (ad 3))
   (aJ (bU 3 sc.nd (ad 4))))))
  (aJ (aS (ad 2)))))),?_⟩
 . show aI ((?f:SD) [some _,some _,none,none,none])=_
   obtain ⟨o,ho⟩:=wL (b.toNat+1) a b (some (.int a)) (some (.int b)) none (by omega) (by omega) (by omega)
   show aI ((gH (b.toNat+1) cdC cdS [some (.int a),some (.int b),some (.int a),some (.int b),none]).bind (cJ (dJ (ae 2))))=_
   rw [ho]
   rfl
theorem vC:aF ["one","other"] ["one","other"] (ap qR):=⟨rfl,rfl,rfl,by decide +kernel,rfl,by decide +kernel,by decide +kernel⟩
theorem AN (F:Fun K "less" "less" qR f fd)    :FnOk P w K mg base CX0 1 f fd ["one","other"] (bi K 2 (fn gr)):=by
 have sc:=vC
 refine bK F vC (fun cdv A outer s H E ds d hr hG hl=>?_)
 obtain ⟨⟨a,b⟩,⟨c,e⟩,hp,hq,rfl,rfl⟩:=aV hG
 refine ⟨_,(aJ (aS (vP (cR (ax (ad 0) aj) (ax (ad 1) aj)) (cR (ax (ad 1) aj) (ax (ad 0) aj))))),?_⟩
 . show aI ((?f:SD) [some _,some _])=_
   simp only [aI,dJ,ae,fC,f2,c4,d6,gI0,Zc,Zd,Ze,aq (C:=aR) (i:=a) (j:=e) ⟨hp.s1.bd,hq.s2.bd⟩,aq (C:=aR) (i:=c) (j:=b) ⟨hq.s1.bd,hp.s2.bd⟩]
theorem nN:aF ["one","other"] ["one","other"] (ap jB):=⟨rfl,rfl,rfl,by decide +kernel,rfl,by decide +kernel,by decide +kernel⟩
theorem uN (F:Fun K "tighter" "tighter" jB f fd)    :FnOk P w K mg base CX0 1 f fd ["one","other"] (bi K 2 (fn eW)):=by
 have sc:=nN
 refine bK F nN (fun cdv A outer s H E ds d hr hG hl=>?_)
 obtain ⟨a,b,rfl,rfl⟩:=aV hG
 refine ⟨_,(aL (df (de (ad 0) bC) (aJ (aS eT)) cr)
  (aL (df (de (ad 1) bC) (aJ (aS eT)) cr)
  (aL (df (yp hr.units0 (ax (ad 0) aj) (ax (ad 1) aj)) (aJ (aS (vP (ax (ad 0) aj) (ax (ad 1) aj)))) cr)
  (aJ (aS (gL (ax (ad 0) aj) (gm (ji (ax (ad 1) aj))))))))),?_⟩
 . show aI ((?f:SD) [some _,some _])=_
   rcases a with _ | ⟨n,s⟩
   . rfl
   rcases b with _ | ⟨m,t⟩
   . rfl
   rw [uy]
   by_cases e:n=m
   . subst e
     rw [if_pos rfl]
     cases s <;> cases t <;> (simp only [aI,aW,cJ,aC,dJ,sIf,ae,fC,f2,f1,fT,asB,fN,oD,c4,d6,gI0,wf,Zc,Zd,Ze,Bool.not_true,Bool.not_false,beq_self_eq_true,cG,du,bn] ;rfl)
   . have h1:(n == m)=false:=beq_eq_false_iff_ne.mpr e
     rw [if_neg e]
     simp only [aI,aW,cJ,aC,dJ,sIf,ae,fC,f2,fT,asB,c4,gI0,wf,Zc,Zd,Ze,Bool.not_false,cG,du,bn,h1]
theorem kB:aF ["one","other"] ["one","other"] (ap gZ):=⟨rfl,rfl,rfl,by decide +kernel,rfl,by decide +kernel,by decide +kernel⟩
theorem rj (F:Fun K "bound_sum" "bound_sum" gZ f fd)    :FnOk P w K mg base CX0 1 f fd ["one","other"] (bi K 2 (fn bZ)):=by
 have sc:=kB
 refine bK F kB (fun cdv A outer s H E ds d hr hG hl=>?_)
 obtain ⟨a,b,rfl,rfl⟩:=aV hG
 refine ⟨_,(aL (df (PWD.pt (fR (de (ad 0) bC) (eK (de (ad 1) bC)))) (aJ (aS bC)) cr)
  (aJ (aS (di (ac (bX (ax (ad 0) aj) (ax (ad 1) aj)) (ac (tt (ax (ad 0) aj) (gm (ax (ad 1) aj))) ah)))))),?_⟩
 . show aI ((?f:SD) [some _,some _])=_
   rcases a with _ | ⟨n,s⟩ <;> rcases b with _ | ⟨m,t⟩
   . rfl
   . rfl
   . rfl
   . cases s <;> cases t <;> rfl
theorem pL:aF ["table"] ["table"] (ap kK):=⟨rfl,rfl,rfl,by decide +kernel,rfl,by decide +kernel,by decide +kernel⟩
theorem xo (F:Fun K "copied" "copied" kK f fd)    (m_list:mg "list" = none):FnOk P w K mg base CX0 1 f fd ["table"] (cf K 1 (fn pb)):=by
 have sc:=pL
 refine cq F pL (fun cdv A outer s H E ds d hr hG hl=>?_)
 obtain ⟨d0,T,m,hT,hs,hm,rfl,rfl⟩:=aV hG
 have hown:=bP T
 refine ⟨_,(aG (br (mU (by exact (ir (ad 0))) (N:=["bounds"]) (js:=[]) (cl:=[]) (fun _ _ _ _ _=>by exact (jE rfl m_list boot_list (ac (ad 0) ah))) (by exact CompOk.nil)))),?_,?own⟩
 case own=>first | rfl | exact hown
 . show aI ((?f:SD) (aK 1 _))=_
   have e0:aK 1 [d0]=[some (az T)]:=by
    show [some (sh d0)]=_
    rw [show sh d0=az T from hT]
   rw [e0]
   exact d7 (bV (nE hs hm rfl))
theorem ik:aF ["size","ways","thing"] ["size"] (ap eF):=⟨rfl,rfl,rfl,by decide +kernel,rfl,by decide +kernel,by decide +kernel⟩
theorem lF (F:Fun K "straight_ways" "straight_ways" eF f fd)    (m_range:mg "range" = none):FnOk P w K mg base CX0 1 f fd ["size"] (cf K 1 (fn gq)):=by
 have sc:=ik
 refine cq F ik (fun cdv A outer s H E ds d hr hG hl=>?_)
 obtain ⟨n,hn,rfl,rfl⟩:=aV hG
 have hown:=n5 n fun i _=>[i]
 refine ⟨_,(av (bj 1 sc.nd (j7 dF))
  (av (dh 2 sc.nd PassesOwn.never rfl (ba rfl m_range (ac (ad 0) ah))
   (aG (uJ 1 (tq PySem.F.plainAttrs_list PySem.F.slot_list_append PySem.F.type_list_append iw (pvi 1) (fX (mU (by exact (iL rfl m_range (ac (ad 0) ah))) (N:=["goal","thing"]) (js:=[2]) (cl:=[("thing",_)]) (fun _ _ _ _ _=>by exact (j7 (cm (cb 1) dF))) (by exact CompOk.one)) j9)))))
  (aG (br (cb 1))))),?_,?own⟩
 case own=>first | rfl | exact hown
 . rw [show (["size","ways","thing"]:List Str).length=3 from rfl]
   have e0:aK 3 [.int (n:Int)]=[some (.int (n:Int)),none,none]:=rfl
   rw [e0]
   have hv:=fun o1 o2:Option D=>eD (g:=aa (ae 0) af) (δ:=[some (.int (n:Int)),o1,o2]) (n:=n) rfl (by omega)
   obtain ⟨_,w,o,rfl⟩:=cE (i:=2) (s:=((qT 1 (eX (me (aa (ae 0) af)) [2] (pg (cZ (bE 1) ig)))))) (f:=fun (i:Nat)=>D.int (i:Int)) (fun pre δ=>∃ o,δ=[some (.int (n:Int)),some (.lst ((List.range pre.length).map fun i=>D.lst (gu n fun _=>[i]))),o]) (List.range n) (by
    rintro pre x post _ hx ⟨o,rfl⟩
    obtain ⟨rfl,hl⟩:=bA hx
    refine ⟨_,uA (ds:=(List.range pre.length).map fun i=>D.lst (gu n fun _=>[i])) (d:=.lst (gu n fun _=>[pre.length])) rfl ?_ (by rw [Zi,List.length_range];omega),some (.int (pre.length:Int)),?_⟩
    . refine gD (f:=fun (i:Nat)=>D.int (i:Int)) (g:=fun _=>D.lst (bL [pre.length])) (xs:=List.range n) ?_ (fun i _=>rfl) (by rw [List.length_range];omega)
      refine vx (ds:=[.int (n:Int)]) rfl ?_
      rw [wN (by omega) (by omega),kN]
    . rw [Zh,Zj,List.range_succ,List.map_append]
      rfl) (List.range n) [] [some (.int (n:Int)),some (.lst []),none] rfl ⟨none,rfl⟩
   rw [List.length_range] at w
   exact d7 (au (dD (d:=.lst []) rfl) (au (bW (hv _ _) w) (bV (iE rfl))))
theorem i4:aF ["_law_script","_law_k"] ["_law_script","_law_k"] (ap fE):=⟨rfl,rfl,rfl,by decide +kernel,rfl,by decide +kernel,by decide +kernel⟩
theorem mF (F:Fun K "_law_cell_at" "_law_cell_at" fE f fd)    (m_len:mg "len" = none):FnOk P w K mg base CX0 1 f fd ["_law_script","_law_k"] (bi K 2 (fn aA)):=by
 have sc:=i4
 refine bK F i4 (fun cdv A outer s H E ds d hr hG hl=>?_)
 obtain ⟨ns,k,hk,rfl,rfl⟩:=aV hG
 refine ⟨_,(aL (df (lA (ad 1) (aN aM cF rfl m_len PySem.boot_len (ac (ad 0) ah))) (aJ (aS (ax (ad 0) (ad 1)))) cr)
  (aJ (aS aj))),?_⟩
 . show aI ((?f:SD) [some _,some _])=_
   by_cases hlt:k < (ns.length:Int)
   . have h1:decide (k < (((ns.map D.int).length:Nat):Int))=true:=decide_eq_true (by rw [Zi];exact hlt)
     have h2:gIx (.seq (ns.map D.int)) (.int k)=some (.int (cell ns k)):=by
      show L2.atI (ns.map D.int) k=_
      have ek:k=((k.toNat:Nat):Int):=by omega
      have hk2:k.toNat < ns.length:=by omega
      have h3:=atI_nat (xs:=ns.map D.int) (j:=k.toNat) (v:=D.int ns[k.toNat]) (by rw [List.getElem?_map,Zt hk2] <;> rfl)
      rw [<- ek] at h3
      rw [h3]
      unfold cell
      simp [Zs,hk2]
     simp only [aI,aW,cJ,aC,dJ,sIf,ae,f2,fT,asB,af,aa,ak,t4,gI0,Zc,Zd,Ze,h1,h2]
   . have h1:decide (k < (((ns.map D.int).length:Nat):Int))=false:=decide_eq_false (by rw [Zi];exact hlt)
     have h2:cell ns k=0:=by
      unfold cell
      rw [Zs,List.getElem?_eq_none (by omega)]
      rfl
     simp only [aI,aW,cJ,aC,dJ,sIf,ae,fC,f2,fT,asB,af,aa,ak,t4,gI0,Zc,Zd,Ze,h1,h2]
theorem jQ:aF ["_law_cell","_law_k","_law_number"] ["_law_cell","_law_k"] (ap gy):=⟨rfl,rfl,rfl,by decide +kernel,rfl,by decide +kernel,by decide +kernel⟩
theorem po (F:Fun K "_law_mixed" "_law_mixed" gy f fd)    :FnOk P w K mg base CX0 1 f fd ["_law_cell","_law_k"] (cf K 2 (fn bq)):=by
 have sc:=jQ
 refine cq F jQ (fun cdv A outer s H E ds d hr hG hl=>?_)
 obtain ⟨c,k,hk0,hk1,rfl,rfl⟩:=aV hG
 have hown:own (.int (mxd c k))=true:=rfl
 refine ⟨_,(av (bj 2 sc.nd (aU (bR (bX (bX (bX (kS (ad 0) aj) (kS (kS (ad 1) (ad 1)) aj)) (kS aj (ad 1))) aj) aj)))
  (aG (br (aU (bR (kS (ad 2) (ad 2)) aj))))),?_,?own⟩
 case own=>first | rfl | exact hown
 . show aI ((?f:SD) (aK 3 _))=_
   have e0:aK 3 [.int c,.int k]=[some (.int c),some (.int k),none]:=rfl
   rw [e0]
   have w1:hR c 48271:=.inr (.inr (by decide))
   have w2:hR k k:=.inr (.inl (by omega))
   have w3:hR (k*k) 69621:=.inr (.inr (by decide))
   have w4:hR 7 k:=.inr (.inl (by decide))
   obtain ⟨n,hn⟩:∃ n,n=(c*48271+k*k*69621+7*k+11) % 2147483647:=⟨_,rfl⟩
   have n0:0<=n:=by rw [hn];exact Int.emod_nonneg _ (by decide)
   have n1:n < 2147483647:=by rw [hn];exact Int.emod_lt_of_pos _ (by decide)
   have w5:hR n n:=.inr (.inl (by omega))
   have em:mxd c k=n*n % 2147483629:=by rw [hn];rfl
   rw [em]
   exact d7 (au (be (bB (d:=.int n) (by simp only [ae,fC,f2,cn,Zc,Zd,Ze,aq (C:=hR) w1,aq (C:=hR) w2,aq (C:=hR) w3,aq (C:=hR) w4,aq (C:=fun _ j=>0 < j) (i:=c*48271+k*k*69621+7*k+11) (j:=2147483647) (by decide),hn]))) (bV (bB (by simp only [ae,fC,f2,Zc,Zd,Ze,Zf,Zg,aq (C:=hR) w5,aq (C:=fun _ j=>0 < j) (i:=n*n) (j:=2147483629) (by decide)]))))
theorem jc:aF ["_law_top","_law_bottom","_law_one","_law_other"] ["_law_top","_law_bottom"] (ap fV):=⟨rfl,rfl,rfl,by decide +kernel,rfl,by decide +kernel,by decide +kernel⟩
def llC:FT:=fT (f2 gGt (ae 3) (fC (.int 0)))
def llS:SD:=Aj 2 3 (aa (ae 3) (aa (f2 (gI (fun _ j=>0 < j) fun i j=>.int (i % j)) (ae 2) (ae 3)) af))
theorem vX:∀ (n:Nat) (x y:Int) (u v:Option D),0<=y->(y=0->0<=x)->y.toNat < n->gH n llC llS [u,v,some (.int x),some (.int y)]=some (.nx [u,v,some (.int (gc x y)),some (.int 0)])
 | 0,x,y,u,v,h0,h1,h2=>by omega
 | n+1,x,y,u,v,h0,h1,h2=>by
  by_cases h:y=0
  . subst h
    rw [v8 (h1 rfl)]
    rfl
  . have hy:0 < y:=by omega
    have hc:llC [u,v,some (.int x),some (.int y)]=some true:=by
     show some (decide (y > 0))=some true
     rw [decide_eq_true hy]
    have hs:llS [u,v,some (.int x),some (.int y)]=some (.nx [u,v,some (.int y),some (.int (x % y))]):=by
     unfold llS
     simp only [Aj,ae,f2,af,aa,Zc,Zd,Ze,Zf,Zg,aq (C:=fun _ j=>0 < j) (i:=x) hy]
    have ih:=vX n y (x % y) u v (Int.emod_nonneg x h) (fun _=>h0) (by have:=Int.emod_lt_of_pos x hy;omega)
    rw [wa] at ih
    rw [sI hc hs]
    exact ih
theorem n8 (F:Fun K "_law_lowest" "_law_lowest" fV f fd)    (m_abs:mg "abs" = none):FnOk P w K mg base CX0 1 f fd ["_law_top","_law_bottom"] (bi K 2 (fn ej)):=by
 have sc:=jc
 refine bK F jc (fun cdv A outer s H E ds d hr hG hl=>?_)
 obtain ⟨t,b,hb,hB,rfl,rfl⟩:=aV hG
 refine ⟨_,(aL (bU 2 sc.nd (aN zV Dd rfl m_abs PyProof.Rows.boot_abs (ac (ad 0) ah)))
  (aL (bU 3 sc.nd (ad 1))
  (aL (pT (b.toNat+1) PassesOwn.never (yq (ad 3) aj)
   (aJ (Aq 2 3 rfl sc.nd (ac (ad 3) (ac (bR (ad 2) (ad 3)) ah)))))
  (aJ (aS (di (ac (bw (ad 0) (ad 2)) (ac (bw (ad 1) (ad 2)) ah)))))))),?_⟩
 . show aI ((?f:SD) [some _,some _,none,none])=_
   have hg:=dr (t:=t) hb
   have hgB:Bd (gc t b):=qA (by omega) (qq (t:=t) hb) hB
   have ho:=vX (b.toNat+1) (t.natAbs:Int) b (some (.int t)) (some (.int b)) (by omega) (by omega) (by omega)
   rw [CW] at ho
   refine d7 (au (vv (d:=.int (t.natAbs:Int)) rfl) (au (vv (d:=.int b) rfl) (au ho (Af (d:=fr (rd t b)) ?_))))
   simp only [ae,f2,af,aa,cV,Zc,Zd,Ze,aq (C:=aH) (i:=t) ⟨hg,hgB⟩,aq (C:=aH) (i:=b) ⟨hg,hgB⟩]
   rfl
theorem kE:aF ["_law_one","_law_other"] ["_law_one","_law_other"] (ap g7):=⟨rfl,rfl,rfl,by decide +kernel,rfl,by decide +kernel,by decide +kernel⟩
theorem rA (F:Fun K "_law_less" "_law_less" g7 f fd)    :FnOk P w K mg base CX0 1 f fd ["_law_one","_law_other"] (bi K 2 (fn cy)):=by
 have sc:=kE
 refine bK F kE (fun cdv A outer s H E ds d hr hG hl=>?_)
 obtain ⟨⟨a,b⟩,⟨c,e⟩,hp,hq,rfl,rfl⟩:=aV hG
 refine ⟨_,(aJ (aS (di (ac (jh (cR (ax (ad 0) aj) (ax (ad 1) aj)) (cR (ax (ad 1) aj) (ax (ad 0) aj))) (ac (cR (ax (ad 0) aj) (ax (ad 1) aj)) ah))))),?_⟩
 . show aI ((?f:SD) [some _,some _])=_
   simp only [aI,dJ,ae,fC,f2,af,aa,cV,c4,d6,gI0,Zc,Zd,Ze,aq (C:=aR) (i:=a) (j:=e) ⟨hp.s1.bd,hq.s2.bd⟩,aq (C:=aR) (i:=c) (j:=b) ⟨hq.s1.bd,hp.s2.bd⟩,aq (C:=aR) (i:=b) (j:=e) ⟨hp.s2.bd,hq.s2.bd⟩]
   rfl
theorem jP:aF ["_law_found"] ["_law_found"] (ap gw):=⟨rfl,rfl,rfl,by decide +kernel,rfl,by decide +kernel,by decide +kernel⟩
theorem pj (F:Fun K "_law_whole" "_law_whole" gw f fd)    (m_isinstance:mg "isinstance" = none) (m_int:mg "int" = none) (m_bool:mg "bool" = none):FnOk P w K mg base CX0 1 f fd ["_law_found"] (bi K 1 (fn iU)):=by
 have sc:=jP
 refine bK F jP (fun cdv A outer s H E ds d hr hG hl=>?_)
 obtain ⟨x,b,h,rfl,rfl⟩:=aV hG
 refine ⟨_,(aJ (aS (gL (aN iB (lP tD) rfl m_isinstance boot_isinstance (ac (ad 0) (ac (lY rfl m_int boot_int) ah))) (gm (ji (aN iB (lP pX) rfl m_isinstance boot_isinstance (ac (ad 0) (ac (lY rfl m_bool boot_bool) ah)))))))),?_⟩
 . show aI ((?f:SD) [some _])=_
   cases x <;> simp [rO] at h <;> subst h <;> rfl
theorem lX:aF ["_law_one","_law_other"] ["_law_one","_law_other"] (ap iJ):=⟨rfl,rfl,rfl,by decide +kernel,rfl,by decide +kernel,by decide +kernel⟩
theorem tG (F:Fun K "_law_sum" "_law_sum" iJ f fd)    :FnOk P w K mg base CX0 1 f fd ["_law_one","_law_other"] (bi K 2 (fn cT)):=by
 have sc:=lX
 refine bK F lX (fun cdv A outer s H E ds d hr hG hl=>?_)
 obtain ⟨a,b,rfl,rfl⟩:=aV hG
 refine ⟨_,(aL (df (PWD.pt (fR (de (ad 0) bC) (eK (de (ad 1) bC)))) (aJ (aS bC)) cr)
  (aJ (aS (di (ac (bX (ax (ad 0) aj) (ax (ad 1) aj)) (ac (tt (ax (ad 0) aj) (gm (ax (ad 1) aj))) ah)))))),?_⟩
 . show aI ((?f:SD) [some _,some _])=_
   rcases a with _ | ⟨n,s⟩
   . rfl
   rcases b with _ | ⟨m,t⟩
   . rfl
   show aI _=some (.tup [.int (n+m),.bl (s || t)])
   cases s <;> rfl
theorem iZ:aF ["_law_one","_law_other"] ["_law_one","_law_other"] (ap ft):=⟨rfl,rfl,rfl,by decide +kernel,rfl,by decide +kernel,by decide +kernel⟩
theorem mD (F:Fun K "_law_tighter" "_law_tighter" ft f fd)    :FnOk P w K mg base CX0 1 f fd ["_law_one","_law_other"] (bi K 2 (fn bo)):=by
 have sc:=iZ
 refine bK F iZ (fun cdv A outer s H E ds d hr hG hl=>?_)
 obtain ⟨a,b,rfl,rfl⟩:=aV hG
 refine ⟨_,(aL (df (de (ad 0) bC) (aJ (aS eT)) cr)
  (aJ (aS (tt (Cv (ad 1) bC) (tt (vP (ax (ad 0) aj) (ax (ad 1) aj)) (gm (gL (BH hr.units0 (ax (ad 0) aj) (ax (ad 1) aj)) (gL (ax (ad 0) aj) (gm (ji (ax (ad 1) aj))))))))))),?_⟩
 . show aI ((?f:SD) [some _,some _])=_
   rcases a with _ | ⟨n,s⟩
   . rfl
   rcases b with _ | ⟨m,t⟩
   . rfl
   rw [uy]
   by_cases h:n=m
   . subst h
     have h1:decide (n < n)=false:=by simp
     rw [if_pos rfl]
     cases s <;> simp only [aI,aW,cJ,aC,dJ,sIf,ae,fC,f2,f1,fT,asB,fN,t8,oD,c4,d6,gI0,dX,Zc,Zd,Ze,beq_self_eq_true,cG,du,bn,gLt,h1] <;> rfl
   . rw [if_neg h]
     have h0:(n == m)=false:=by simp [h]
     cases q:decide (n < m) with
     | true=>simp only [aI,aW,cJ,aC,dJ,sIf,ae,fC,f2,f1,fT,asB,fN,t8,oD,c4,d6,gI0,dX,Zc,Zd,Ze,cG,du,bn,gLt,q]
     | false=>simp only [aI,aW,cJ,aC,dJ,sIf,ae,fC,f2,f1,fT,asB,fN,t8,oD,c4,d6,gI0,dX,Zc,Zd,Ze,cG,du,bn,gLt,q,h0]
theorem jR:aF ["_law_part_here","_law_bound"] ["_law_part_here","_law_bound"] (ap gz):=⟨rfl,rfl,rfl,by decide +kernel,rfl,by decide +kernel,by decide +kernel⟩
theorem pp (F:Fun K "_law_keeps" "_law_keeps" gz f fd)    :FnOk P w K mg base CX0 1 f fd ["_law_part_here","_law_bound"] (bi K 2 (fn fL)):=by
 have sc:=jR
 refine bK F jR (fun cdv A outer s H E ds d hr hG hl=>?_)
 obtain ⟨⟨a,b⟩,c,hp,hc,rfl,rfl⟩:=aV hG
 refine ⟨_,(aL (df (de (ad 1) bC) (aJ (aS eT)) cr)
  (aJ (aS (tt (vP (ax (ad 0) aj) (cR (ax (ad 1) aj) (ax (ad 0) aj))) (gm (gL (BH hr.units0 (ax (ad 0) aj) (cR (ax (ad 1) aj) (ax (ad 0) aj))) (gm (ji (ax (ad 1) aj))))))))),?_⟩
 . show aI ((?f:SD) [some _,some _])=_
   rcases c with _ | ⟨n,s⟩
   . rfl
   . have mb:aR n b:=⟨Sm.mono (show Sm 4000 n from hc) (by decide),hp.s2.bd⟩
     rw [<- En]
     cases h1:decide (a < n*b) with
     | true=>simp only [aI,aW,cJ,aC,dJ,sIf,ae,fC,f2,f1,fT,asB,fN,t8,oD,c4,d6,gI0,dX,Zc,Zd,Ze,cG,du,bn,gLt,dX,aq (C:=aR) mb,h1,Bool.true_or]
     | false =>
      cases h2:(a == n*b) with
      | true=>simp only [aI,aW,cJ,aC,dJ,sIf,ae,fC,f2,f1,fT,asB,fN,t8,oD,c4,d6,gI0,dX,Zc,Zd,Ze,cG,du,bn,gLt,dX,aq (C:=aR) mb,h1,h2,Bool.false_or,Bool.true_and]
      | false=>simp only [aI,aW,cJ,aC,dJ,sIf,ae,fC,f2,f1,fT,asB,fN,t8,oD,c4,d6,gI0,dX,Zc,Zd,Ze,cG,du,bn,gLt,dX,aq (C:=aR) mb,h1,h2,Bool.false_or,Bool.false_and]
theorem cX:aF ["_law_e","_law_others"] ["_law_e"] (ap cC):=⟨rfl,rfl,rfl,by decide +kernel,rfl,by decide +kernel,by decide +kernel⟩
theorem jM (F:Fun K "_law_is_no_point" "_law_is_no_point" cC f fd) {cW cP w1 w2 w3 w4 w5 w6:Addr}  (hCK:Bw K cW cP w1 w2 w3 w4 w5 w6) (m_WatchError:mg "WatchError" = some (.ref cW)) (m_NoPoint:mg "NoPoint" = some (.ref cP)) (m_NoAct:mg "NoAct" = some (.ref w1)) (m_NoAsk:mg "NoAsk" = some (.ref w2)) (m_NoFraction:mg "NoFraction" = some (.ref w3)) (m_NoMove:mg "NoMove" = some (.ref w4)) (m_NoNet:mg "NoNet" = some (.ref w5)) (m_NoWait:mg "NoWait" = some (.ref w6)) (m_isinstance:mg "isinstance" = none) (m_ValueError:mg "ValueError" = none):FnOk P w K mg base CX0 1 f fd ["_law_e"] (bi K 1 (fn (aT cP))):=by
 have sc:=cX
 have hEK:∀ C,okN cP C=true->se K C:=fun C h=>by
  have e:C=cP:=beq_iff_eq.mp h
  rw [e]
  exact hCK.ek
 refine bK F cX (fun cdv A outer s H E ds d hr hG hl=>?_)
 obtain ⟨rfl,rfl⟩:=aV hG
 refine ⟨_,(aL (bU 1 sc.nd (aN gE (jK hEK) rfl m_isinstance boot_isinstance (ac (ad 0) (ac (di (ac (fG rfl m_NoAct) (ac (fG rfl m_NoAsk) (ac (fG rfl m_NoFraction) (ac (fG rfl m_NoMove) (ac (fG rfl m_NoNet) (ac (fG rfl m_NoWait) ah))))))) ah))))
  (aJ (aS (gL (aN gE (jK hEK) rfl m_isinstance boot_isinstance (ac (ad 0) (ac (fG rfl m_NoPoint) ah))) (gL (aN gE (jK hEK) rfl m_isinstance boot_isinstance (ac (ad 0) (ac (lY rfl m_ValueError i6) ah))) (gm (ji (ad 1)))))))),?_⟩
 . show aI ((?f:SD) [some _,none])=_
   have k1:(okN cP cP)=true:=beq_self_eq_true cP
   have k2:=hCK.kn
   have k3:=hCK.kv
   have k4:=hCK.ka
   simp only [aI,cJ,aC,dJ,fQ,ae,fC,f1,fN,oD,af,aa,cV,ak,Zc,Option.map_some,Zr,List.map_nil,Zd,Ze,Zf,Zg,Bool.not_false,beq_self_eq_true,zS,wk,if_true,oS,k2,k3,k4]
theorem jj (F:Fun K "_law_is_no_point" "_law_is_no_point" cC f fd) {cW cP w1 w2 w3 w4 w5 w6:Addr}  (m_isinstance:mg "isinstance" = none) (m_ValueError:mg "ValueError" = none) (hCK:Bw K cW cP w1 w2 w3 w4 w5 w6) (m_WatchError:mg "WatchError" = some (.ref cW)) (m_NoPoint:mg "NoPoint" = some (.ref cP)) (m_NoAct:mg "NoAct" = some (.ref w1)) (m_NoAsk:mg "NoAsk" = some (.ref w2)) (m_NoFraction:mg "NoFraction" = some (.ref w3)) (m_NoMove:mg "NoMove" = some (.ref w4)) (m_NoNet:mg "NoNet" = some (.ref w5)) (m_NoWait:mg "NoWait" = some (.ref w6)):z5 P w K mg base 1 f fd ["_law_e"] (bi K 1 (fn (aT cP))):=by
 have sc:=cX
 have hEK:∀ C,okN cP C=true->se K C:=fun C h=>by
  have e:C=cP:=beq_iff_eq.mp h
  rw [e]
  exact hCK.ek
 refine yo F cX (fun cdv A z outer s H E ds d hr hG hl=>?_)
 obtain ⟨rfl,rfl⟩:=aV hG
 refine ⟨_,(aL (bU 1 sc.nd (aN gE (jK hEK) rfl m_isinstance boot_isinstance (ac (ad 0) (ac (di (ac (fG rfl m_NoAct) (ac (fG rfl m_NoAsk) (ac (fG rfl m_NoFraction) (ac (fG rfl m_NoMove) (ac (fG rfl m_NoNet) (ac (fG rfl m_NoWait) ah))))))) ah))))
  (aJ (aS (gL (aN gE (jK hEK) rfl m_isinstance boot_isinstance (ac (ad 0) (ac (fG rfl m_NoPoint) ah))) (gL (aN gE (jK hEK) rfl m_isinstance boot_isinstance (ac (ad 0) (ac (lY rfl m_ValueError i6) ah))) (gm (ji (ad 1)))))))),?_⟩
 . show aI ((?f:SD) [some _,none])=_
   have k1:(okN cP cP)=true:=beq_self_eq_true cP
   have k2:=hCK.kn
   have k3:=hCK.kv
   have k4:=hCK.ka
   simp only [aI,cJ,aC,dJ,fQ,ae,fC,f1,fN,oD,af,aa,cV,ak,Zc,Option.map_some,Zr,List.map_nil,Zd,Ze,Zf,Zg,Bool.not_false,beq_self_eq_true,zS,wk,if_true,oS,k2,k3,k4]
theorem pJ:aF ["top","bottom","divisor"] ["top","bottom"] (ap kH):=⟨rfl,rfl,rfl,by decide +kernel,rfl,by decide +kernel,by decide +kernel⟩
theorem xm (F:Fun K "lowest" "lowest" kH f fd)  (hcommon_divisor:Has P w K mg base 1 "common_divisor" ["number","above_nought"] (fn c8))  :FnOk P w K mg base CX0 2 f fd ["top","bottom"] (bi K 2 (fn oZ)):=by
 have sc:=pJ
 refine bK F pJ (fun cdv A outer s H E ds d hr hG hl=>?_)
 obtain ⟨t,b,hb,hB,rfl,rfl⟩:=aV hG
 refine ⟨_,(aL (bU 2 sc.nd (aw hcommon_divisor hr (ac (ad 0) (ac (ad 1) ah))))
  (aJ (aS (di (ac (bw (ad 0) (ad 2)) (ac (bw (ad 1) (ad 2)) ah)))))),?_⟩
 . show aI ((?f:SD) [some _,some _,none])=_
   have hg:=dr (t:=t) hb
   have hgB:Bd (gc t b):=qA (by omega) (qq (t:=t) hb) hB
   simp only [aI,cJ,aC,dJ,fQ,ae,f2,af,aa,cV,ak,Zc,Zd,Ze,Zf,Zg,c5 (a:=t) hb,aq (C:=aH) (i:=t) ⟨hg,hgB⟩,aq (C:=aH) (i:=b) ⟨hg,hgB⟩]
   rfl
theorem pI:aF ["one","top","bottom","shared","part","total","left"] ["one","top","bottom"] (ap kG):=⟨rfl,rfl,rfl,by decide +kernel,rfl,by decide +kernel,by decide +kernel⟩
theorem xl (F:Fun K "summed" "summed" kG f fd)  (hcommon_divisor:Has P w K mg base 1 "common_divisor" ["number","above_nought"] (fn c8))  :FnOk P w K mg base CX0 2 f fd ["one","top","bottom"] (bi K 3 (fn iC)):=by
 have sc:=pI
 refine bK F pI (fun cdv A outer s H E ds d hr hG hl=>?_)
 obtain ⟨⟨a,b⟩,⟨c,e⟩,hp,hq,rfl,rfl⟩:=aV hG
 refine ⟨_,(aL (bU 3 sc.nd (aw hcommon_divisor hr (ac (ax (ad 0) aj) (ac (ad 2) ah))))
  (aL (bU 4 sc.nd (bw (ax (ad 0) aj) (ad 3)))
  (aL (bU 5 sc.nd (bX (cR (ax (ad 0) aj) (bw (ad 2) (ad 3))) (cR (ad 1) (ad 4))))
  (aL (bU 6 sc.nd (aw hcommon_divisor hr (ac (ad 5) (ac (ad 3) ah))))
  (aJ (aS (di (ac (bw (ad 5) (ad 6)) (ac (cR (ad 4) (bw (ad 2) (ad 6))) ah))))))))),?_⟩
 . show aI ((?f:SD) [some _,some _,some _,none,none,none,none])=_
   have hb:0 < b:=hp.pos
   have he:0 < e:=hq.pos
   have hg:=dr (t:=b) he
   have hgB:Bd (gc b e):=qA (by omega) (qq (t:=b) he) hq.s2.bd
   have b1:Bd (b / gc b e):=kc hp.s2 hg dO
   have b2:Bd (e / gc b e):=kc hq.s2 hg cM
   have hl:=dr (t:=a*(e / gc b e)+c*(b / gc b e)) hg
   have hlB:Bd (gc (a*(e / gc b e)+c*(b / gc b e)) (gc b e)):=qA (by omega) (qq (t:=a*(e / gc b e)+c*(b / gc b e)) hg) hgB
   have b3:Bd (e / gc (a*(e / gc b e)+c*(b / gc b e)) (gc b e)):=kc hq.s2 hl (Int.dvd_trans cM cM)
   simp only [aI,cJ,aC,dJ,fQ,ae,fC,f2,af,aa,cV,ak,c4,d6,cn,Zc,Zd,Ze,Zf,Zg,c5 (a:=b) he,aq (C:=aH) (i:=b) ⟨hg,hgB⟩,aq (C:=aH) (i:=e) ⟨hg,hgB⟩,aq (C:=aR) (i:=a) (j:=e / gc b e) ⟨hp.s1.bd,b2⟩,aq (C:=aR) (i:=c) (j:=b / gc b e) ⟨hq.s1.bd,b1⟩,c5 (a:=a*(e / gc b e)+c*(b / gc b e)) hg,aq (C:=aH) (i:=a*(e / gc b e)+c*(b / gc b e)) ⟨hl,hlB⟩,aq (C:=aH) (i:=e) ⟨hl,hlB⟩,aq (C:=aR) (i:=b / gc b e) ⟨b1,b3⟩]
   rfl
theorem sC:aF ["one","other","first","second"] ["one","other"] (ap mP):=⟨rfl,rfl,rfl,by decide +kernel,rfl,by decide +kernel,by decide +kernel⟩
theorem yS (F:Fun K "times" "times" mP f fd)  (hcommon_divisor:Has P w K mg base 1 "common_divisor" ["number","above_nought"] (fn c8))  :FnOk P w K mg base CX0 2 f fd ["one","other"] (bi K 2 (fn wR)):=by
 have sc:=sC
 refine bK F sC (fun cdv A outer s H E ds d hr hG hl=>?_)
 obtain ⟨⟨a,b⟩,⟨c,e⟩,hp,hq,rfl,rfl⟩:=aV hG
 refine ⟨_,(aL (bU 2 sc.nd (aw hcommon_divisor hr (ac (ax (ad 0) aj) (ac (ax (ad 1) aj) ah))))
  (aL (bU 3 sc.nd (aw hcommon_divisor hr (ac (ax (ad 1) aj) (ac (ax (ad 0) aj) ah))))
  (aJ (aS (di (ac (cR (bw (ax (ad 0) aj) (ad 2)) (bw (ax (ad 1) aj) (ad 3))) (ac (cR (bw (ax (ad 0) aj) (ad 3)) (bw (ax (ad 1) aj) (ad 2))) ah))))))),?_⟩
 . show aI ((?f:SD) [some _,some _,none,none])=_
   have hb:0 < b:=hp.pos
   have he:0 < e:=hq.pos
   have hf:=dr (t:=a) he
   have hs:=dr (t:=c) hb
   have fB:Bd (gc a e):=qA (by omega) (qq (t:=a) he) hq.s2.bd
   have sB:Bd (gc c b):=qA (by omega) (qq (t:=c) hb) hp.s2.bd
   have b1:Bd (a / gc a e):=kc hp.s1 hf dO
   have b2:Bd (e / gc a e):=kc hq.s2 hf cM
   have b3:Bd (c / gc c b):=kc hq.s1 hs dO
   have b4:Bd (b / gc c b):=kc hp.s2 hs cM
   have e0:ti (a,b) (c,e)=tm a b c e:=Ds hp.lw hq.lw
   simp only [aI,cJ,aC,dJ,fQ,ae,fC,f2,af,aa,cV,ak,c4,d6,Zc,Zd,Ze,Zf,Zg,c5 (a:=a) he,c5 (a:=c) hb,aq (C:=aH) (i:=a) ⟨hf,fB⟩,aq (C:=aH) (i:=e) ⟨hf,fB⟩,aq (C:=aH) (i:=c) ⟨hs,sB⟩,aq (C:=aH) (i:=b) ⟨hs,sB⟩,aq (C:=aR) (i:=a / gc a e) (j:=c / gc c b) ⟨b1,b3⟩,aq (C:=aR) (i:=b / gc c b) (j:=e / gc a e) ⟨b4,b2⟩,e0]
   rfl
theorem iV:aF ["table","bounds","thing"] ["table"] (ap eY):=⟨rfl,rfl,rfl,by decide +kernel,rfl,by decide +kernel,by decide +kernel⟩
theorem mo (F:Fun K "with_noughts" "with_noughts" eY f fd)  (hcopied:HasF P w K mg base 1 "copied" ["table"] (fn pb))  (m_range:mg "range" = none) (m_len:mg "len" = none):FnOk P w K mg base CX0 2 f fd ["table"] (cf K 1 (fn gQ)):=by
 have sc:=iV
 refine cq F iV (fun cdv A outer s H E ds d hr hG hl=>?_)
 obtain ⟨d0,T,n,hT,hs,hn,rfl,rfl⟩:=aV hG
 have hown:=bP (aE n (cz T))
 refine ⟨_,(av (bj 1 sc.nd (dG hcopied hr (ac (ad 0) ah)))
  (av (dh 2 sc.nd PassesOwn.never rfl (ba rfl m_range (ac (aN aM cF rfl m_len PySem.boot_len (ac (ad 0) ah)) ah))
   (aG (mY 1 (aU (di (ac aj (ac eT ah)))) (lB (jU ix_list (pvi 1) (ad 2) (fun _ _=>rfl)) (ad 2) ij))))
  (aG (br (cb 1))))),?_,?own⟩
 case own=>first | rfl | exact hown
 . show aI ((?f:SD) (aK 3 _))=_
   have e0:aK 3 [d0]=[some (az T),none,none]:=by
    show [some (sh d0),none,none]=_
    rw [show sh d0=az T from hT]
   rw [e0]
   have len:cH [az T]=some (.int (n:Int)):=m5 hs
   have hv:=fun o1 o2:Option D=>eD (g:=aa (ak cH (aa (ae 0) af)) af) (δ:=[some (az T),o1,o2]) (n:=n) (by simp only [ae,af,aa,ak,Zc,Zd,len]) (by omega)
   obtain ⟨_,w,o,rfl⟩:=cE (i:=2) (s:=((fM 1 (ae 2) (ae 2) (vI (cV (aa (fC (.int 0)) (aa (fC (.bl false)) af))))))) (f:=fun (i:Nat)=>D.int (i:Int)) (fun pre δ=>∃ o,δ=[some (az T),some (ay (aE n fun i j=>if i=j/\i < pre.length then b0 else ao T i j)),o]) (List.range n) (by
    rintro pre x post _ hx ⟨o,rfl⟩
    obtain ⟨rfl,hl⟩:=bA hx
    refine ⟨_,qS (b:=b0) (bf n _) hl hl (bB (d:=bdD b0) rfl (iP b0)) rfl rfl rfl,some (.int (pre.length:Int)),?_⟩
    rw [jA _ _ hl hl]
    have e:aE n (up2 (fun i j=>if i=j/\i < pre.length then b0 else ao T i j) pre.length pre.length b0)=aE n fun i j=>if i=j/\i < (pre++[pre.length]).length then b0 else ao T i j:=aZ fun i j hi hj=>by
     unfold up2
     rw [Zh,Zj]
     by_cases a:i=pre.length/\j=pre.length
     . rw [if_pos a,if_pos ⟨by omega,by omega⟩]
     . rw [if_neg a]
       dsimp only
       by_cases b:i=j/\i < pre.length
       . rw [if_pos b,if_pos ⟨b.1,by omega⟩]
       . rw [if_neg b,if_neg fun z=>?_]
         by_cases q:i < pre.length
         . exact b ⟨z.1,q⟩
         . exact a ⟨by omega,by omega⟩
    rw [e]
    rfl) (List.range n) [] [some (az T),some (ay T),none] rfl ⟨none,by
     have e:aE n (fun i j=>if i=j/\i < ([]:List Nat).length then b0 else ao T i j)=T:=(aZ fun i j _ _=>if_neg fun z=>by have:=z.2;simp at this).trans (qI hs)
     rw [e]⟩
   have e:aE n (fun i j=>if i=j/\i < (List.range n).length then b0 else ao T i j)=aE n (cz T):=aZ fun i j hi hj=>by
    unfold cz
    rw [List.length_range]
    by_cases a:i=j
    . rw [if_pos a,if_pos ⟨a,hi⟩]
    . rw [if_neg a,if_neg fun z=>a z.1]
   rw [e] at w
   exact d7 (au (be (dZ (ds:=[az T]) rfl (zL (fY T) hs hn) (bP T))) (au (bW (hv _ _) w) (bV (iE rfl))))
theorem iY:aF ["bounds","ways","middle","i","j","total"] ["bounds","ways","middle"] (ap fq):=⟨rfl,rfl,rfl,by decide +kernel,rfl,by decide +kernel,by decide +kernel⟩
theorem mC (F:Fun K "lead_through" "lead_through" fq f fd)  (hbound_sum:Has P w K mg base 1 "bound_sum" ["one","other"] (fn bZ)) (htighter:Has P w K mg base 1 "tighter" ["one","other"] (fn eW))  (m_range:mg "range" = none) (m_len:mg "len" = none):FnOk P w K mg base CX0 2 f fd ["bounds","ways","middle"] (tH K 3 (fnM fK)):=by
 have sc:=iY
 refine CK F iY (fun cdv A outer s H E Z d0 d1 es d0' d1' hr zk hG=>?_)
 obtain ⟨n,m,f,p,ok,h0,hds,hp⟩:=Bf hG
 injection hds with a1 hds
 injection hds with a2 hds
 subst a1 a2 hds
 cases hp
 refine ⟨_,(qW (ym 3 zk sc.nd PassesOwn.never rfl (ba rfl m_range (ac (aN aM cF rfl m_len PySem.boot_len (ac (ad 0) ah)) ah))
  (qW (ym 4 zk sc.nd PassesOwn.never rfl (ba rfl m_range (ac (aN aM cF rfl m_len PySem.boot_len (ac (ad 0) ah)) ah))
   (vJ (B9 5 zk sc.nd (aU (aw hbound_sum hr (ac (ax (ax (ad 0) (ad 3)) (ad 2)) (ac (ax (ax (ad 0) (ad 2)) (ad 4)) ah)))))
   (qW (DX (bO (aw htighter hr (ac (ad 5) (ac (ax (ax (ad 0) (ad 3)) (ad 4)) ah)))) (vJ (vH 0 (cb 5) (lB (jU ix_list (pvi 0) (ad 3) (fun _ _=>rfl)) (ad 4) ij))
    (qW (vH 1 (mV (ax (ax (ad 1) (ad 3)) (ad 2)) (ax (ax (ad 1) (ad 2)) (ad 4))) (lB (jU ix_list (pvi 1) (ad 3) (fun _ _=>rfl)) (ad 4) ij)))) Ca))))))),?_⟩
 . show ∃ δ',(?f:SD) (nI 6 _ _ _)=some (.nx δ')/\_
   have hm:=ok.mn
   have hn:=ok.n41
   have e0:nI 6 (ay (aE n f)) (.lst (aY n p)) [.int (m:Int)]=[some (ay (aE n f)),some (.lst (aY n p)),some (.int (m:Int)),none,none,none]:=rfl
   rw [e0]
   have row:∀ j,ldF f m m j=f m j/\ldP f p m m j=p m j:=fun j=>by
    unfold ldF ldP
    rw [h0,jY,i9]
    exact ⟨rfl,rfl⟩
   have col:∀ i,ldF f m i m=f i m/\ldP f p m i m=p i m:=fun i=>by
    unfold ldF ldP
    rw [h0,fI,i9]
    exact ⟨rfl,rfl⟩
   obtain ⟨g,hg⟩:∃ g:Nat->Nat->Nat->Nat->Bn,g=fun i j x y=>if x < i \/ (x=i/\y < j) then ldF f m x y else f x y:=⟨_,rfl⟩
   obtain ⟨r,hr'⟩:∃ r:Nat->Nat->Nat->Nat->List Nat,r=fun i j x y=>if x < i \/ (x=i/\y < j) then ldP f p m x y else p x y:=⟨_,rfl⟩
   have g1:∀ i j x,g i j x m=f x m/\r i j x m=p x m:=fun i j x=>by
    rw [hg,hr']
    dsimp only
    split
    . exact col x
    . exact ⟨rfl,rfl⟩
   have g2:∀ i j y,g i j m y=f m y/\r i j m y=p m y:=fun i j y=>by
    rw [hg,hr']
    dsimp only
    split
    . exact row y
    . exact ⟨rfl,rfl⟩
   have g3:∀ i j,g i j i j=f i j/\r i j i j=p i j:=fun i j=>by
    rw [hg,hr']
    dsimp only
    rw [if_neg (by omega),if_neg (by omega)]
    exact ⟨rfl,rfl⟩
   have lenO:=fun i j=>rH (bf n (g i j))
   have hv:=fun i j (o3 o4 o5:Option D)=>eD (g:=aa (ak cH (aa (ae 0) af)) af) (δ:=[some (ay (aE n (g i j))),some (.lst (aY n (r i j))),some (.int (m:Int)),o3,o4,o5]) (n:=n) (by simp only [ae,af,aa,ak,Zc,Zd,lenO]) (by omega)
   have inn:∀ (i:Nat),i < n->∀ o4 o5:Option D,∃ δ',Dl.forM 4 ((aC (aB 5 (vI (ak (fn bZ) (aa (f2 gIx (f2 gIx (ae 0) (ae 3)) (ae 2)) (aa (f2 gIx (f2 gIx (ae 0) (ae 2)) (ae 4)) af))))) (sIf (fT (ak (fn eW) (aa (ae 5) (aa (f2 gIx (f2 gIx (ae 0) (ae 3)) (ae 4)) af)))) (aC (gJ 0 (ae 3) (ae 4) (bE 5)) (gJ 1 (ae 3) (ae 4) (ii (f2 gIx (f2 gIx (ae 1) (ae 3)) (ae 2)) (f2 gIx (f2 gIx (ae 1) (ae 2)) (ae 4))))) aW))) ((List.range n).map fun (i:Nat)=>D.int (i:Int)) [some (ay (aE n (g i 0))),some (.lst (aY n (r i 0))),some (.int (m:Int)),some (.int (i:Int)),o4,o5]=some (.nx δ')/\∃ o4 o5,δ'=[some (ay (aE n (g i n))),some (.lst (aY n (r i n))),some (.int (m:Int)),some (.int (i:Int)),o4,o5]:=fun i hi o4 o5=>by
    have:=cE (i:=4) (s:=((aC (aB 5 (vI (ak (fn bZ) (aa (f2 gIx (f2 gIx (ae 0) (ae 3)) (ae 2)) (aa (f2 gIx (f2 gIx (ae 0) (ae 2)) (ae 4)) af))))) (sIf (fT (ak (fn eW) (aa (ae 5) (aa (f2 gIx (f2 gIx (ae 0) (ae 3)) (ae 4)) af)))) (aC (gJ 0 (ae 3) (ae 4) (bE 5)) (gJ 1 (ae 3) (ae 4) (ii (f2 gIx (f2 gIx (ae 1) (ae 3)) (ae 2)) (f2 gIx (f2 gIx (ae 1) (ae 2)) (ae 4))))) aW)))) (f:=fun (i:Nat)=>D.int (i:Int)) (fun pre δ=>∃ o4 o5,δ=[some (ay (aE n (g i pre.length))),some (.lst (aY n (r i pre.length))),some (.int (m:Int)),some (.int (i:Int)),o4,o5]) (List.range n) (by
     rintro pre x post _ hx ⟨o4,o5,rfl⟩
     obtain ⟨rfl,hj⟩:=bA hx
     rw [Zh,Zj]
     generalize pre.length=j at *
     obtain ⟨r1,q1,q2,q3,q4,q5⟩:=gN (bf n (g i j)) hi hm
     obtain ⟨r2,u1,u2,u3,u4,u5⟩:=gN (bf n (g i j)) hm hj
     obtain ⟨r3,v1,v2,v3,v4,v5⟩:=gN (bf n (g i j)) hi hj
     rw [bz _ hi hm,(g1 i j i).1] at q2
     rw [bz _ hm hj,(g2 i j j).1] at u2
     rw [bz _ hi hj,(g3 i j).1] at v2
     have s1:((aB 5 (vI (ak (fn bZ) (aa (f2 gIx (f2 gIx (ae 0) (ae 3)) (ae 2)) (aa (f2 gIx (f2 gIx (ae 0) (ae 2)) (ae 4)) af)))))) [some (ay (aE n (g i j))),some (.lst (aY n (r i j))),some (.int (m:Int)),some (.int (i:Int)),some (.int (j:Int)),o5]=some (.nx [some (ay (aE n (g i j))),some (.lst (aY n (r i j))),some (.int (m:Int)),some (.int (i:Int)),some (.int (j:Int)),some (bdD (bs (f i m) (f m j)))]):=dD (bB (d:=bdD (bs (f i m) (f m j))) (by simp only [ae,f2,af,aa,ak,Zc,Zd,Ze,q1,q2,u1,u2,jr]) (iP _))
     cases ht:tgt (bs (f i m) (f m j)) (f i j) with
     | false =>
      refine ⟨_,au s1 (bQ (by simp only [ae,f2,fT,asB,af,aa,ak,Zc,Zd,Ze,v1,v2,jJ,ht]) rfl),some (.int (j:Int)),some (bdD (bs (f i m) (f m j))),?_⟩
      have t1:aE n (g i j)=aE n (g i (j+1)):=aZ fun x y hx hy=>by
       rw [hg]
       dsimp only
       by_cases z:x < i \/ (x=i/\y < j)
       . rw [if_pos z,if_pos (by omega)]
       . rw [if_neg z]
         by_cases z2:x=i/\y=j
         . rw [if_pos (by omega)]
           obtain ⟨rfl,rfl⟩:=z2
           unfold ldF
           rw [ht]
           rfl
         . rw [if_neg (by omega)]
      have t2:aY n (r i j)=aY n (r i (j+1)):=fP fun x y hx hy=>by
       rw [hr']
       dsimp only
       by_cases z:x < i \/ (x=i/\y < j)
       . rw [if_pos z,if_pos (by omega)]
       . rw [if_neg z]
         by_cases z2:x=i/\y=j
         . rw [if_pos (by omega)]
           obtain ⟨rfl,rfl⟩:=z2
           unfold ldP
           rw [ht]
           rfl
         . rw [if_neg (by omega)]
      rw [t1,t2]
     | true =>
      obtain ⟨w1,w2⟩:=tO (r i j) hi hm
      obtain ⟨w3,w4⟩:=tO (r i j) hm hj
      rw [(g1 i j i).2] at w2
      rw [(g2 i j j).2] at w4
      have l1:=ok.ln i m hi hm
      have l2:=ok.ln m j hm hj
      have ei:bL (p i m++p m j)=bL (p i m)++bL (p m j):=List.map_append
      have t1:kA (aE n (g i j)) i j (bs (f i m) (f m j))=aE n (g i (j+1)):=by
       rw [jA _ _ hi hj]
       refine aZ fun x y hx hy=>?_
       rw [hg]
       unfold up2
       dsimp only
       by_cases z2:x=i/\y=j
       . rw [if_pos z2,if_pos (by omega)]
         obtain ⟨rfl,rfl⟩:=z2
         unfold ldF
         rw [ht]
         rfl
       . rw [if_neg z2]
         by_cases z:x < i \/ (x=i/\y < j)
         . rw [if_pos z,if_pos (by omega)]
         . rw [if_neg z,if_neg (by omega)]
      have t2:(aY n (r i j)).set i (.lst ((gu n (r i j i)).set j (.lst (bL (p i m++p m j)))))=aY n (r i (j+1)):=by
       rw [x8 _ _ hi hj]
       refine fP fun x y hx hy=>?_
       rw [hr']
       unfold up2
       dsimp only
       by_cases z2:x=i/\y=j
       . rw [if_pos z2,if_pos (by omega)]
         obtain ⟨rfl,rfl⟩:=z2
         unfold ldP
         rw [ht]
         rfl
       . rw [if_neg z2]
         by_cases z:x < i \/ (x=i/\y < j)
         . rw [if_pos z,if_pos (by omega)]
         . rw [if_neg z,if_neg (by omega)]
      have p1:=vD (δ:=[some (ay (aE n (g i j))),some (.lst (aY n (r i j))),some (.int (m:Int)),some (.int (i:Int)),some (.int (j:Int)),some (bdD (bs (f i m) (f m j)))]) (p:=0) (fk:=ae 3) (fl:=ae 4) (fm:=bE 5) (v:=bdD (bs (f i m) (f m j))) (i:=i) (j:=j) (kr rfl) rfl rfl v3 rfl (by rw [jo,v4];exact hj)
      rw [lu v5,t1] at p1
      have p1':gJ 0 (ae 3) (ae 4) (bE 5) [some (ay (aE n (g i j))),some (.lst (aY n (r i j))),some (.int (m:Int)),some (.int (i:Int)),some (.int (j:Int)),some (bdD (bs (f i m) (f m j)))]=some (.nx [some (ay (aE n (g i (j+1)))),some (.lst (aY n (r i j))),some (.int (m:Int)),some (.int (i:Int)),some (.int (j:Int)),some (bdD (bs (f i m) (f m j)))]):=by
       rw [p1]
       unfold ay
       rfl
      have p2:=vD (δ:=[some (ay (aE n (g i (j+1)))),some (.lst (aY n (r i j))),some (.int (m:Int)),some (.int (i:Int)),some (.int (j:Int)),some (bdD (bs (f i m) (f m j)))]) (p:=1) (fk:=ae 3) (fl:=ae 4) (fm:=ii (f2 gIx (f2 gIx (ae 1) (ae 3)) (ae 2)) (f2 gIx (f2 gIx (ae 1) (ae 2)) (ae 4))) (v:=.lst (bL (p i m++p m j))) (i:=i) (j:=j) (by
       rw [ei]
       exact qF (a:=.lst (bL (p i m))) (b:=.lst (bL (p m j))) (by simp only [ae,f2,Zc,Zd,Ze,w1,w2]) (by simp only [ae,f2,Zc,Zd,Ze,w3,w4]) rfl rfl (by unfold bL;rw [Zi,Zi];omega) (by rw [<- ei];exact oB _)) rfl rfl (bg _ hi) rfl (by unfold gu;rw [Zi,List.length_range];exact hj)
      rw [t2] at p2
      have p2':gJ 1 (ae 3) (ae 4) (ii (f2 gIx (f2 gIx (ae 1) (ae 3)) (ae 2)) (f2 gIx (f2 gIx (ae 1) (ae 2)) (ae 4))) [some (ay (aE n (g i (j+1)))),some (.lst (aY n (r i j))),some (.int (m:Int)),some (.int (i:Int)),some (.int (j:Int)),some (bdD (bs (f i m) (f m j)))]=some (.nx [some (ay (aE n (g i (j+1)))),some (.lst (aY n (r i (j+1)))),some (.int (m:Int)),some (.int (i:Int)),some (.int (j:Int)),some (bdD (bs (f i m) (f m j)))]):=by
       rw [p2]
       rfl
      have cnd:(fT (ak (fn eW) (aa (ae 5) (aa (f2 gIx (f2 gIx (ae 0) (ae 3)) (ae 4)) af)))) [some (ay (aE n (g i j))),some (.lst (aY n (r i j))),some (.int (m:Int)),some (.int (i:Int)),some (.int (j:Int)),some (bdD (bs (f i m) (f m j)))]=some true:=by simp only [ae,f2,fT,asB,af,aa,ak,Zc,Zd,Ze,v1,v2,jJ,ht]
      exact ⟨_,au s1 (dc cnd (au p1' p2')),some (.int (j:Int)),some (bdD (bs (f i m) (f m j))),rfl⟩) (List.range n) [] [some (ay (aE n (g i 0))),some (.lst (aY n (r i 0))),some (.int (m:Int)),some (.int (i:Int)),o4,o5] rfl ⟨_,_,rfl⟩
    rw [List.length_range] at this
    exact this
   have nxt:∀ i,aE n (g i n)=aE n (g (i+1) 0)/\aY n (r i n)=aY n (r (i+1) 0):=fun i=>by
    refine ⟨aZ fun x y hx hy=>?_,fP fun x y hx hy=>?_⟩
    . rw [hg]
      dsimp only
      by_cases z:x < i \/ (x=i/\y < n)
      . rw [if_pos z,if_pos (by omega)]
      . rw [if_neg z,if_neg (by omega)]
    . rw [hr']
      dsimp only
      by_cases z:x < i \/ (x=i/\y < n)
      . rw [if_pos z,if_pos (by omega)]
      . rw [if_neg z,if_neg (by omega)]
   obtain ⟨_,w,o3,o4,o5,rfl⟩:=cE (i:=3) (s:=((dE (cB (aa (ak cH (aa (ae 0) af)) af)) 4 (aC (aB 5 (vI (ak (fn bZ) (aa (f2 gIx (f2 gIx (ae 0) (ae 3)) (ae 2)) (aa (f2 gIx (f2 gIx (ae 0) (ae 2)) (ae 4)) af))))) (sIf (fT (ak (fn eW) (aa (ae 5) (aa (f2 gIx (f2 gIx (ae 0) (ae 3)) (ae 4)) af)))) (aC (gJ 0 (ae 3) (ae 4) (bE 5)) (gJ 1 (ae 3) (ae 4) (ii (f2 gIx (f2 gIx (ae 1) (ae 3)) (ae 2)) (f2 gIx (f2 gIx (ae 1) (ae 2)) (ae 4))))) aW))))) (f:=fun (i:Nat)=>D.int (i:Int)) (fun pre δ=>∃ o3 o4 o5,δ=[some (ay (aE n (g pre.length 0))),some (.lst (aY n (r pre.length 0))),some (.int (m:Int)),o3,o4,o5]) (List.range n) (by
    rintro pre x post _ hx ⟨o3,o4,o5,rfl⟩
    obtain ⟨rfl,hi⟩:=bA hx
    rw [Zh,Zj]
    generalize pre.length=i at *
    obtain ⟨_,f1,o4',o5',rfl⟩:=inn i hi o4 o5
    rw [(nxt i).1,(nxt i).2] at f1
    exact ⟨_,bW (hv i 0 _ _ _) f1,_,_,_,rfl⟩) (List.range n) [] [some (ay (aE n (g 0 0))),some (.lst (aY n (r 0 0))),some (.int (m:Int)),none,none,none] rfl ⟨_,_,_,rfl⟩
   rw [List.length_range] at w
   have z1:aE n (g 0 0)=aE n f:=aZ fun x y hx hy=>by rw [hg];exact if_neg (by omega)
   have z2:aY n (r 0 0)=aY n p:=fP fun x y hx hy=>by rw [hr'];exact if_neg (by omega)
   have z3:aE n (g n 0)=aE n (ldF f m):=aZ fun x y hx hy=>by rw [hg];exact if_pos (by omega)
   have z4:aY n (r n 0)=aY n (ldP f p m):=fP fun x y hx hy=>by rw [hr'];exact if_pos (by omega)
   have hv0:=hv 0 0 none none none
   rw [z1,z2] at w hv0
   rw [z3,z4] at w
   exact ⟨_,bW hv0 w,rfl,rfl⟩
theorem lV:aF ["parts","told","part"] ["parts"] (ap iI):=⟨rfl,rfl,rfl,by decide +kernel,rfl,by decide +kernel,by decide +kernel⟩
theorem ia {S:D}:∀ (ps:List (Int×Int)) (o:Option (Int×Int)) (x:Option D),(∀ p∈ps,Fk p)->(∀ p,o=some p->Fk p)->∃ x',ki (k6 2) ((sIf (cO (fT (f2 du (ae 1) (fC .non))) (fT (ak (fn gr) (aa (ae 1) (aa (ae 2) af))))) (fQ 1 (ae 2)) aW)) (ps.map fr) [some S,some (opD o),x]=some (.nx [some S,some (opD (gre ps o)),x'])
 | [],o,x,_,_=>⟨x,by cases o <;> rfl⟩
 | p :: ps,o,x,hp,ho=>by
  have h1:=hp p Zk
  have h2:∀ r∈ps,Fk r:=fun r m=>hp r (Zl _ m)
  cases o with
  | none =>
   obtain ⟨x',e⟩:=ia (S:=S) ps (some p) (some (fr p)) h2 (fun q e=>by cases e;exact h1)
   refine ⟨x',?_⟩
   rw [Zr]
   simp only [aW,fQ,sIf,k6,ki,ae,fC,f2,fT,asB,cO,af,aa,ak,Zc,Zd,Ze,Zf,Zg,du,bn,opD,du,bn] at e ⊢
   exact e
  | some q =>
   have hq:=ho q rfl
   have el:=e2 (op:=fun p q=>D.bl (decide (p.1*q.2 < q.1*p.2))) hq h1
   obtain ⟨x',e⟩:=ia (S:=S) ps (some (if q.1*p.2 < p.1*q.2 then p else q)) (some (fr p)) h2 (fun r e=>by
    cases e
    split
    . exact h1
    . exact hq)
   refine ⟨x',?_⟩
   rw [Zr]
   by_cases c:q.1*p.2 < p.1*q.2
   . rw [if_pos c] at e
     rw [decide_eq_true c] at el
     simp only [aW,fQ,sIf,k6,ki,ae,fC,f2,fT,asB,cO,af,aa,ak,Zc,Zd,Ze,Zf,Zg,du,bn,opD,du,bn,el] at e ⊢
     rw [show gre (p :: ps) (some q)=gre ps (some p) by show gre ps (some (if q.1*p.2 < p.1*q.2 then p else q))=_;rw [if_pos c]]
     exact e
   . rw [if_neg c] at e
     rw [decide_eq_false c] at el
     simp only [aW,fQ,sIf,k6,ki,ae,fC,f2,fT,asB,cO,af,aa,ak,Zc,Zd,Ze,Zf,Zg,du,bn,opD,du,bn,el] at e ⊢
     rw [show gre (p :: ps) (some q)=gre ps (some q) by show gre ps (some (if q.1*p.2 < p.1*q.2 then p else q))=_;rw [if_neg c]]
     exact e
theorem tF (F:Fun K "greatest" "greatest" iI f fd)  (hless:Has P w K mg base 1 "less" ["one","other"] (fn gr))  :FnOk P w K mg base CX0 2 f fd ["parts"] (bi K 1 (fn kj)):=by
 have sc:=lV
 refine bK F lV (fun cdv A outer s H E ds d hr hG hl=>?_)
 obtain ⟨x,ps,hx,hp,rfl,rfl⟩:=aV hG
 refine ⟨_,(aL (bU 1 sc.nd bC)
  (aL (vK PassesOwn.never rfl (ir (ad 0)) (kR 2 sc.nd)
   (aJ (df (PWD.pt (fR (de (ad 1) bC) (eK (bO (aw hless hr (ac (ad 1) (ac (ad 2) ah))))))) (aJ (bU 1 sc.nd (ad 2))) cr)))
  (aJ (aS (ad 1))))),?_⟩
 . show aI ((?f:SD) [some _,none,none])=_
   obtain ⟨x',e⟩:=ia (S:=x) ps none none hp (fun p e=>nomatch e)
   have e':Ak (fun δ=>(ae 0 δ).bind asL) (k6 2) ((sIf (cO (fT (f2 du (ae 1) (fC .non))) (fT (ak (fn gr) (aa (ae 1) (aa (ae 2) af))))) (fQ 1 (ae 2)) aW)) [some x,some .non,none]=some (.nx [some x,some (opD (gre ps none)),x']):=by
    show ((asL x).bind fun ds=>ki (k6 2) ((sIf (cO (fT (f2 du (ae 1) (fC .non))) (fT (ak (fn gr) (aa (ae 1) (aa (ae 2) af))))) (fQ 1 (ae 2)) aW)) ds [some x,some .non,none])=_
    rw [hx]
    exact e
   exact (congrArg (fun z=>aI (Option.bind z (cJ (dJ (ae 1))))) e').trans rfl
theorem sE:aF ["parts","told","part"] ["parts"] (ap mR):=⟨rfl,rfl,rfl,by decide +kernel,rfl,by decide +kernel,by decide +kernel⟩
theorem ke {S:D}:∀ (ps:List (Int×Int)) (o:Option (Int×Int)) (x:Option D),(∀ p∈ps,Fk p)->(∀ p,o=some p->Fk p)->∃ x',ki (k6 2) ((sIf (cO (fT (f2 du (ae 1) (fC .non))) (fT (ak (fn gr) (aa (ae 2) (aa (ae 1) af))))) (fQ 1 (ae 2)) aW)) (ps.map fr) [some S,some (opD o),x]=some (.nx [some S,some (opD (lea ps o)),x'])
 | [],o,x,_,_=>⟨x,by cases o <;> rfl⟩
 | p :: ps,o,x,hp,ho=>by
  have h1:=hp p Zk
  have h2:∀ r∈ps,Fk r:=fun r m=>hp r (Zl _ m)
  cases o with
  | none =>
   obtain ⟨x',e⟩:=ke (S:=S) ps (some p) (some (fr p)) h2 (fun q e=>by cases e;exact h1)
   refine ⟨x',?_⟩
   rw [Zr]
   simp only [aW,fQ,sIf,k6,ki,ae,fC,f2,fT,asB,cO,af,aa,ak,Zc,Zd,Ze,Zf,Zg,du,bn,opD,du,bn] at e ⊢
   exact e
  | some q =>
   have hq:=ho q rfl
   have el:=e2 (op:=fun p q=>D.bl (decide (p.1*q.2 < q.1*p.2))) h1 hq
   obtain ⟨x',e⟩:=ke (S:=S) ps (some (if p.1*q.2 < q.1*p.2 then p else q)) (some (fr p)) h2 (fun r e=>by
    cases e
    split
    . exact h1
    . exact hq)
   refine ⟨x',?_⟩
   rw [Zr]
   by_cases c:p.1*q.2 < q.1*p.2
   . rw [if_pos c] at e
     rw [decide_eq_true c] at el
     simp only [aW,fQ,sIf,k6,ki,ae,fC,f2,fT,asB,cO,af,aa,ak,Zc,Zd,Ze,Zf,Zg,du,bn,opD,du,bn,el] at e ⊢
     rw [show lea (p :: ps) (some q)=lea ps (some p) by show lea ps (some (if p.1*q.2 < q.1*p.2 then p else q))=_;rw [if_pos c]]
     exact e
   . rw [if_neg c] at e
     rw [decide_eq_false c] at el
     simp only [aW,fQ,sIf,k6,ki,ae,fC,f2,fT,asB,cO,af,aa,ak,Zc,Zd,Ze,Zf,Zg,du,bn,opD,du,bn,el] at e ⊢
     rw [show lea (p :: ps) (some q)=lea ps (some q) by show lea ps (some (if p.1*q.2 < q.1*p.2 then p else q))=_;rw [if_neg c]]
     exact e
theorem yU (F:Fun K "least" "least" mR f fd)  (hless:Has P w K mg base 1 "less" ["one","other"] (fn gr))  :FnOk P w K mg base CX0 2 f fd ["parts"] (bi K 1 (fn sa)):=by
 have sc:=sE
 refine bK F sE (fun cdv A outer s H E ds d hr hG hl=>?_)
 obtain ⟨x,ps,hx,hp,rfl,rfl⟩:=aV hG
 refine ⟨_,(aL (bU 1 sc.nd bC)
  (aL (vK PassesOwn.never rfl (ir (ad 0)) (kR 2 sc.nd)
   (aJ (df (PWD.pt (fR (de (ad 1) bC) (eK (bO (aw hless hr (ac (ad 2) (ac (ad 1) ah))))))) (aJ (bU 1 sc.nd (ad 2))) cr)))
  (aJ (aS (ad 1))))),?_⟩
 . show aI ((?f:SD) [some _,none,none])=_
   obtain ⟨x',e⟩:=ke (S:=x) ps none none hp (fun p e=>nomatch e)
   have e':Ak (fun δ=>(ae 0 δ).bind asL) (k6 2) ((sIf (cO (fT (f2 du (ae 1) (fC .non))) (fT (ak (fn gr) (aa (ae 2) (aa (ae 1) af))))) (fQ 1 (ae 2)) aW)) [some x,some .non,none]=some (.nx [some x,some (opD (lea ps none)),x']):=by
    show ((asL x).bind fun ds=>ki (k6 2) ((sIf (cO (fT (f2 du (ae 1) (fC .non))) (fT (ak (fn gr) (aa (ae 2) (aa (ae 1) af))))) (fQ 1 (ae 2)) aW)) ds [some x,some .non,none])=_
    rw [hx]
    exact e
   exact (congrArg (fun z=>aI (Option.bind z (cJ (dJ (ae 1))))) e').trans rfl
theorem gY:aF ["_law_seed","_law_k","_law_most","_law_cell","_law_table","_law_i","_law_j","_law_digit","_law_bound","_law_drawn"] ["_law_seed","_law_k","_law_most"] (ap dR):=⟨rfl,rfl,rfl,by decide +kernel,rfl,by decide +kernel,by decide +kernel⟩
def bS (ds:List D) (d:D):Prop:=aI (((aC (aB 3 (bE 0)) (aC (aB 4 (pg ig)) (aC (dE (cB (aa (f2 bD (ae 1) (fC (.int 1))) af)) 5 (aC (qT 4 (pg ig)) (dE (cB (aa (f2 bD (ae 1) (fC (.int 1))) af)) 6 (aC (aB 7 (vI (f2 (gI (fun _ j=>0 < j) fun i j=>.int (i % j)) (ae 3) (f2 bD (f2 (gI aR fun i j=>.int (i*j)) (fC (.int 4)) (ae 2)) (fC (.int 3)))))) (aC (sIf (fT (f2 gIn (ae 3) (cV (aa (fC (.int 0)) (aa (f1 iA (fC (.int 1))) af))))) (aC (aB 9 (dL (fn bq) (aa (ae 0) (aa (f2 bD (f2 (gI aR fun i j=>.int (i*j)) (fC (.int 9)) (ae 5)) (ae 6)) af)))) (aB 7 (vI (f2 gIx (ib (aa (fC (.int 0)) (aa (fC (.int 0)) (aa (f2 bD (fC (.int 1)) (f2 (gI (fun _ j=>0 < j) fun i j=>.int (i % j)) (f2 (gI aH fun i j=>.int (i / j)) (ae 9) (fC (.int 3))) (f2 bD (f2 (gI aR fun i j=>.int (i*j)) (fC (.int 4)) (ae 2)) (fC (.int 2))))) af)))) (f2 (gI (fun _ j=>0 < j) fun i j=>.int (i % j)) (ae 9) (fC (.int 3))))))) aW) (aC (aB 3 (vI (f2 (gI aH fun i j=>.int (i / j)) (ae 3) (f2 bD (f2 (gI aR fun i j=>.int (i*j)) (fC (.int 4)) (ae 2)) (fC (.int 3)))))) (aC (aB 8 (vI (fC .non))) (aC (sIf (fT (f2 gGt (ae 7) (fC (.int 0)))) (aB 8 (vI (cV (aa (f2 (gI0 fun i j=>.int (i - j)) (f2 (gI aH fun i j=>.int (i / j)) (f2 (gI0 fun i j=>.int (i - j)) (ae 7) (fC (.int 1))) (fC (.int 2))) (ae 2)) (aa (f2 eP (f2 (gI (fun _ j=>0 < j) fun i j=>.int (i % j)) (ae 7) (fC (.int 2))) (fC (.int 0))) af))))) aW) (i5 4 (ae 5) (bE 8)))))))))) (cD (bE 4)))))) (aK 10 ds))=some d/\own d=true
theorem EI (seed k most c:Int) (T:List (List Bn)) (r:List Bn) (i j:Nat) (o7 o8 o9:Option D) (hm0:0<=most) (hm1:most<=10 ^ 55) (hT:T.length=i) (hr:r.length=j) (hi:i<=40) (hj:j<=40):∃ (c':Int) (b:Bn) (p7 p9:Option D),Bk 190 b /\
 ((aC (aB 7 (vI (f2 (gI (fun _ j=>0 < j) fun i j=>.int (i % j)) (ae 3) (f2 bD (f2 (gI aR fun i j=>.int (i*j)) (fC (.int 4)) (ae 2)) (fC (.int 3)))))) (aC (sIf (fT (f2 gIn (ae 3) (cV (aa (fC (.int 0)) (aa (f1 iA (fC (.int 1))) af))))) (aC (aB 9 (dL (fn bq) (aa (ae 0) (aa (f2 bD (f2 (gI aR fun i j=>.int (i*j)) (fC (.int 9)) (ae 5)) (ae 6)) af)))) (aB 7 (vI (f2 gIx (ib (aa (fC (.int 0)) (aa (fC (.int 0)) (aa (f2 bD (fC (.int 1)) (f2 (gI (fun _ j=>0 < j) fun i j=>.int (i % j)) (f2 (gI aH fun i j=>.int (i / j)) (ae 9) (fC (.int 3))) (f2 bD (f2 (gI aR fun i j=>.int (i*j)) (fC (.int 4)) (ae 2)) (fC (.int 2))))) af)))) (f2 (gI (fun _ j=>0 < j) fun i j=>.int (i % j)) (ae 9) (fC (.int 3))))))) aW) (aC (aB 3 (vI (f2 (gI aH fun i j=>.int (i / j)) (ae 3) (f2 bD (f2 (gI aR fun i j=>.int (i*j)) (fC (.int 4)) (ae 2)) (fC (.int 3)))))) (aC (aB 8 (vI (fC .non))) (aC (sIf (fT (f2 gGt (ae 7) (fC (.int 0)))) (aB 8 (vI (cV (aa (f2 (gI0 fun i j=>.int (i - j)) (f2 (gI aH fun i j=>.int (i / j)) (f2 (gI0 fun i j=>.int (i - j)) (ae 7) (fC (.int 1))) (fC (.int 2))) (ae 2)) (aa (f2 eP (f2 (gI (fun _ j=>0 < j) fun i j=>.int (i % j)) (ae 7) (fC (.int 2))) (fC (.int 0))) af))))) aW) (i5 4 (ae 5) (bE 8)))))))) [some (.int seed),some (.int k),some (.int most),some (.int c),some (.lst (bI T++[.lst (bh r)])),some (.int (i:Int)),some (.int (j:Int)),o7,o8,o9]=some (.nx [some (.int seed),some (.int k),some (.int most),some (.int c'),some (.lst (bI T++[.lst (bh (r++[b]))])),some (.int (i:Int)),some (.int (j:Int)),p7,some (bdD b),p9]):=by
 have m1:aR 4 most:=⟨dz,oX (k:=200) (Sm.of (by omega) (by omega))⟩
 have hd:0 < 4*most+3:=by omega
 have hd2:0 < 4*most+2:=by omega
 have dv:aH c (4*most+3):=⟨hd,oX (k:=200) (Sm.of (by omega) (by omega))⟩
 have mi9:aR 9 (i:Int):=⟨dz,dz (by omega)⟩
 have mx:=k8 (c:=seed) (k:=9*(i:Int)+(j:Int)) (by omega) (by omega)
 obtain ⟨w,hw⟩:∃ w,w=mxd seed (9*(i:Int)+(j:Int)):=⟨_,rfl⟩
 rw [<- hw] at mx
 have d3:aH w 3:=⟨by decide,dz⟩
 have hin:gIn (.int c) (.tup [.int 0,.int (-1)])=some (.bl (c == 0 || c == -1)):=by
  show some (D.bl ([D.int 0,D.int (-1)].any fun y=>eqF y (.int c)))=_
  have e1:((0:Int) == c)=(c == 0):=by rw [Bool.eq_iff_iff,beq_iff_eq,beq_iff_eq];exact eq_comm
  have e2:((-1:Int) == c)=(c == -1):=by rw [Bool.eq_iff_iff,beq_iff_eq,beq_iff_eq];exact eq_comm
  show some (D.bl (((0:Int) == c) || (((-1:Int) == c) || false)))=_
  rw [e1,e2,Bool.or_false]
 obtain ⟨g,p9,hg0,hg1,hst⟩:∃ (g:Int) (p9:Option D),0<=g/\g<=4*most+3/\((sIf (fT (f2 gIn (ae 3) (cV (aa (fC (.int 0)) (aa (f1 iA (fC (.int 1))) af))))) (aC (aB 9 (dL (fn bq) (aa (ae 0) (aa (f2 bD (f2 (gI aR fun i j=>.int (i*j)) (fC (.int 9)) (ae 5)) (ae 6)) af)))) (aB 7 (vI (f2 gIx (ib (aa (fC (.int 0)) (aa (fC (.int 0)) (aa (f2 bD (fC (.int 1)) (f2 (gI (fun _ j=>0 < j) fun i j=>.int (i % j)) (f2 (gI aH fun i j=>.int (i / j)) (ae 9) (fC (.int 3))) (f2 bD (f2 (gI aR fun i j=>.int (i*j)) (fC (.int 4)) (ae 2)) (fC (.int 2))))) af)))) (f2 (gI (fun _ j=>0 < j) fun i j=>.int (i % j)) (ae 9) (fC (.int 3))))))) aW)) [some (.int seed),some (.int k),some (.int most),some (.int c),some (.lst (bI T++[.lst (bh r)])),some (.int (i:Int)),some (.int (j:Int)),some (.int (c % (4*most+3))),o8,o9]=some (.nx [some (.int seed),some (.int k),some (.int most),some (.int c),some (.lst (bI T++[.lst (bh r)])),some (.int (i:Int)),some (.int (j:Int)),some (.int g),o8,p9]):=by
  cases hc:(c == 0 || c == -1) with
  | false =>
   have q0:=Int.emod_nonneg c (show 4*most+3 ≠ 0 by omega)
   have q1:=Int.emod_lt_of_pos c hd
   exact ⟨c % (4*most+3),o9,q0,by omega,bQ (by simp only [ae,fC,f2,f1,fT,asB,iA,af,aa,cV,Zc,Zd,Ze,hin,hc]) rfl⟩
  | true =>
   have r0:=Int.emod_nonneg (w / 3) (show 4*most+2 ≠ 0 by omega)
   have r1:=Int.emod_lt_of_pos (w / 3) hd2
   have w3:w % 3=0 \/ w % 3=1 \/ w % 3=2:=by omega
   obtain ⟨g,hg0,hg1,hg⟩:∃ g:Int,0<=g/\g<=4*most+3/\gIx (.lst [.int 0,.int 0,.int (1+w / 3 % (4*most+2))]) (.int (w % 3))=some (.int g):=by
    rcases w3 with q | q | q
    . exact ⟨0,by omega,by omega,by rw [q];rfl⟩
    . exact ⟨0,by omega,by omega,by rw [q];rfl⟩
    . exact ⟨1+w / 3 % (4*most+2),by omega,by omega,by rw [q];rfl⟩
   exact ⟨g,some (.int w),hg0,hg1,dc (by simp only [ae,fC,f2,f1,fT,asB,iA,af,aa,cV,Zc,Zd,Ze,hin,hc]) (au (be (dZ (ds:=[.int seed,.int (9*(i:Int)+(j:Int))]) (by simp only [ae,fC,f2,af,aa,cn,Zc,Zd,Ze,aq (C:=aR) mi9]) mx rfl)) (be (bB (d:=.int g) (by simp only [ae,fC,f2,af,aa,ib,cn,Zc,Zd,Ze,Zf,Zg,aq (C:=aH) d3,aq (C:=aR) m1,aq (C:=fun _ j=>0 < j) (i:=w / 3) hd2,aq (C:=fun _ j=>0 < j) (i:=w) (j:=3) (by decide),hg]))))⟩
 have dg:aH (g - 1) 2:=⟨by decide,dz⟩
 obtain ⟨b,hb,hst2⟩:∃ b:Bn,Bk 190 b/\((sIf (fT (f2 gGt (ae 7) (fC (.int 0)))) (aB 8 (vI (cV (aa (f2 (gI0 fun i j=>.int (i - j)) (f2 (gI aH fun i j=>.int (i / j)) (f2 (gI0 fun i j=>.int (i - j)) (ae 7) (fC (.int 1))) (fC (.int 2))) (ae 2)) (aa (f2 eP (f2 (gI (fun _ j=>0 < j) fun i j=>.int (i % j)) (ae 7) (fC (.int 2))) (fC (.int 0))) af))))) aW)) [some (.int seed),some (.int k),some (.int most),some (.int (c / (4*most+3))),some (.lst (bI T++[.lst (bh r)])),some (.int (i:Int)),some (.int (j:Int)),some (.int g),some .non,p9]=some (.nx [some (.int seed),some (.int k),some (.int most),some (.int (c / (4*most+3))),some (.lst (bI T++[.lst (bh r)])),some (.int (i:Int)),some (.int (j:Int)),some (.int g),some (bdD b),p9]):=by
  by_cases h:0 < g
  . have h1:decide (0 < g)=true:=decide_eq_true h
    refine ⟨some ((g - 1) / 2 - most,g % 2 == 0),Sm.mono (k:=185) (Sm.of (by omega) (by omega)) (by decide),dc (by simp only [ae,fC,f2,fT,asB,gI0,Zc,Zd,Ze,gGt,h1]) (be (bB (by simp only [ae,fC,f2,af,aa,cV,gI0,Zc,Zd,Ze,cG,dP,aq (C:=aH) dg,aq (C:=fun _ j=>0 < j) (i:=g) (j:=2) (by decide)])))⟩
  . have h1:decide (0 < g)=false:=decide_eq_false h
    exact ⟨none,trivial,bQ (by simp only [ae,fC,f2,fT,asB,gI0,Zc,Zd,Ze,gGt,h1]) rfl⟩
 refine ⟨c / (4*most+3),b,some (.int g),p9,hb,?_⟩
 refine au (be (bB (d:=.int (c % (4*most+3))) (by simp only [ae,fC,f2,cn,Zc,Zd,Ze,aq (C:=aR) m1,aq (C:=fun _ j=>0 < j) (i:=c) hd]))) (au hst (au (be (bB (d:=.int (c / (4*most+3))) (by simp only [ae,fC,f2,cn,Zc,Zd,Ze,aq (C:=aR) m1,aq (C:=aH) dv]))) (au (be (bB (d:=.non) rfl)) (au hst2 ?_))))
 rw [pO]
 exact qB rfl (by rw [eU,hT];rfl) (kr rfl) (by rw [jo];omega)
theorem lq {seed k most:Int} (hk0:0<=k) (hk1:k<=40) (hm0:0<=most) (hm1:most<=10 ^ 55):∃ T,Grown T (k.toNat+1) (k.toNat+1)/\fn bS [.int seed,.int k,.int most]=some (ay T):=by
 obtain ⟨n,rfl⟩:∃ n:Nat,k=(n:Int):=⟨k.toNat,by omega⟩
 have en:((n:Int)).toNat=n:=by omega
 rw [en]
 have hr:=fun o5 o6 o7 o8 o9 c t=>eD (g:=aa (f2 bD (ae 1) (fC (.int 1))) af) (δ:=[some (.int seed),some (.int (n:Int)),some (.int most),c,t,o5,o6,o7,o8,o9]) (n:=n+1) rfl (by omega)
 have inner:∀ (c:Int) (T:List (List Bn)) (i:Nat) (o6 o7 o8 o9:Option D),T.length=i->i<=40->∃ δ',Dl.forM 6 ((aC (aB 7 (vI (f2 (gI (fun _ j=>0 < j) fun i j=>.int (i % j)) (ae 3) (f2 bD (f2 (gI aR fun i j=>.int (i*j)) (fC (.int 4)) (ae 2)) (fC (.int 3)))))) (aC (sIf (fT (f2 gIn (ae 3) (cV (aa (fC (.int 0)) (aa (f1 iA (fC (.int 1))) af))))) (aC (aB 9 (dL (fn bq) (aa (ae 0) (aa (f2 bD (f2 (gI aR fun i j=>.int (i*j)) (fC (.int 9)) (ae 5)) (ae 6)) af)))) (aB 7 (vI (f2 gIx (ib (aa (fC (.int 0)) (aa (fC (.int 0)) (aa (f2 bD (fC (.int 1)) (f2 (gI (fun _ j=>0 < j) fun i j=>.int (i % j)) (f2 (gI aH fun i j=>.int (i / j)) (ae 9) (fC (.int 3))) (f2 bD (f2 (gI aR fun i j=>.int (i*j)) (fC (.int 4)) (ae 2)) (fC (.int 2))))) af)))) (f2 (gI (fun _ j=>0 < j) fun i j=>.int (i % j)) (ae 9) (fC (.int 3))))))) aW) (aC (aB 3 (vI (f2 (gI aH fun i j=>.int (i / j)) (ae 3) (f2 bD (f2 (gI aR fun i j=>.int (i*j)) (fC (.int 4)) (ae 2)) (fC (.int 3)))))) (aC (aB 8 (vI (fC .non))) (aC (sIf (fT (f2 gGt (ae 7) (fC (.int 0)))) (aB 8 (vI (cV (aa (f2 (gI0 fun i j=>.int (i - j)) (f2 (gI aH fun i j=>.int (i / j)) (f2 (gI0 fun i j=>.int (i - j)) (ae 7) (fC (.int 1))) (fC (.int 2))) (ae 2)) (aa (f2 eP (f2 (gI (fun _ j=>0 < j) fun i j=>.int (i % j)) (ae 7) (fC (.int 2))) (fC (.int 0))) af))))) aW) (i5 4 (ae 5) (bE 8)))))))) ((List.range (n+1)).map fun (i:Nat)=>D.int (i:Int)) [some (.int seed),some (.int (n:Int)),some (.int most),some (.int c),some (.lst (bI T++[.lst (bh [])])),some (.int (i:Int)),o6,o7,o8,o9]=some (.nx δ')/\∃ (c:Int) (r:List Bn) (o6 o7 o8 o9:Option D),r.length=(List.range (n+1)).length/\(∀ b∈r,Bk 190 b)/\δ'=[some (.int seed),some (.int (n:Int)),some (.int most),some (.int c),some (.lst (bI T++[.lst (bh r)])),some (.int (i:Int)),o6,o7,o8,o9]:=by
  intro c T i o6 o7 o8 o9 hT hi
  refine cE (f:=fun (i:Nat)=>D.int (i:Int)) (fun pre δ=>∃ (c:Int) (r:List Bn) (o6 o7 o8 o9:Option D),r.length=pre.length/\(∀ b∈r,Bk 190 b)/\δ=[some (.int seed),some (.int (n:Int)),some (.int most),some (.int c),some (.lst (bI T++[.lst (bh r)])),some (.int (i:Int)),o6,o7,o8,o9]) (List.range (n+1)) ?_ (List.range (n+1)) [] _ rfl ⟨c,[],o6,o7,o8,o9,rfl,(fun _ m=>nomatch m),rfl⟩
  rintro pre x post _ hx ⟨c,r,o6,o7,o8,o9,hr,hb,rfl⟩
  obtain ⟨rfl,hl⟩:=bA hx
  obtain ⟨c',b,p7,p9,hbb,st⟩:=EI seed (n:Int) most c T r i pre.length o7 o8 o9 hm0 hm1 hT hr hi (by omega)
  refine ⟨_,st,c',r++[b],_,_,_,_,by rw [Zh,Zh,hr];rfl,fun z hz=>?_,rfl⟩
  rcases Zp.mp hz with hz | hz
  . exact hb z hz
  . rw [Zm.mp hz];exact hbb
 obtain ⟨_,w,c,T,o5,o6,o7,o8,o9,hG,rfl⟩:=cE (i:=5) (s:=((aC (qT 4 (pg ig)) (dE (cB (aa (f2 bD (ae 1) (fC (.int 1))) af)) 6 (aC (aB 7 (vI (f2 (gI (fun _ j=>0 < j) fun i j=>.int (i % j)) (ae 3) (f2 bD (f2 (gI aR fun i j=>.int (i*j)) (fC (.int 4)) (ae 2)) (fC (.int 3)))))) (aC (sIf (fT (f2 gIn (ae 3) (cV (aa (fC (.int 0)) (aa (f1 iA (fC (.int 1))) af))))) (aC (aB 9 (dL (fn bq) (aa (ae 0) (aa (f2 bD (f2 (gI aR fun i j=>.int (i*j)) (fC (.int 9)) (ae 5)) (ae 6)) af)))) (aB 7 (vI (f2 gIx (ib (aa (fC (.int 0)) (aa (fC (.int 0)) (aa (f2 bD (fC (.int 1)) (f2 (gI (fun _ j=>0 < j) fun i j=>.int (i % j)) (f2 (gI aH fun i j=>.int (i / j)) (ae 9) (fC (.int 3))) (f2 bD (f2 (gI aR fun i j=>.int (i*j)) (fC (.int 4)) (ae 2)) (fC (.int 2))))) af)))) (f2 (gI (fun _ j=>0 < j) fun i j=>.int (i % j)) (ae 9) (fC (.int 3))))))) aW) (aC (aB 3 (vI (f2 (gI aH fun i j=>.int (i / j)) (ae 3) (f2 bD (f2 (gI aR fun i j=>.int (i*j)) (fC (.int 4)) (ae 2)) (fC (.int 3)))))) (aC (aB 8 (vI (fC .non))) (aC (sIf (fT (f2 gGt (ae 7) (fC (.int 0)))) (aB 8 (vI (cV (aa (f2 (gI0 fun i j=>.int (i - j)) (f2 (gI aH fun i j=>.int (i / j)) (f2 (gI0 fun i j=>.int (i - j)) (ae 7) (fC (.int 1))) (fC (.int 2))) (ae 2)) (aa (f2 eP (f2 (gI (fun _ j=>0 < j) fun i j=>.int (i % j)) (ae 7) (fC (.int 2))) (fC (.int 0))) af))))) aW) (i5 4 (ae 5) (bE 8))))))))))) (f:=fun (i:Nat)=>D.int (i:Int)) (fun pre δ=>∃ (c:Int) (T:List (List Bn)) (o5 o6 o7 o8 o9:Option D),Grown T pre.length (n+1)/\δ=[some (.int seed),some (.int (n:Int)),some (.int most),some (.int c),some (ay T),o5,o6,o7,o8,o9]) (List.range (n+1)) (by
  rintro pre x post _ hx ⟨c,T,o5,o6,o7,o8,o9,hG,rfl⟩
  obtain ⟨rfl,hl⟩:=bA hx
  obtain ⟨_,w,c',r,p6,p7,p8,p9,h1,h2,rfl⟩:=inner c T pre.length o6 o7 o8 o9 hG.len (by omega)
  refine ⟨_,au (uA (ds:=bI T) (d:=.lst []) rfl rfl (by rw [eU,hG.len];omega)) (bW (hr _ _ _ _ _ _ _) w),c',T++[r],some (.int (pre.length:Int)),p6,p7,p8,p9,?_,?_⟩
  . rw [Zh]
    exact hG.snoc (by rw [h1,List.length_range]) h2
  . unfold ay
    rw [nR]) (List.range (n+1)) [] [some (.int seed),some (.int (n:Int)),some (.int most),some (.int seed),some (.lst []),none,none,none,none,none] rfl ⟨seed,[],none,none,none,none,none,⟨rfl,(fun _ m=>nomatch m),(fun _ m=>nomatch m)⟩,rfl⟩
 have key:bS [.int seed,.int (n:Int),.int most] (ay T):=⟨d7 (δ:=[some (.int seed),some (.int (n:Int)),some (.int most),none,none,none,none,none,none,none]) (au (be (d:=.int seed) rfl) (au (be (d:=.lst []) rfl) (au (bW (hr _ _ _ _ _ _ _) w) (bV (iE rfl))))),bP T⟩
 exact ⟨T,by rw [List.length_range] at hG;exact hG,cg (fun d' h'=>Option.some.inj (h'.1.symm.trans key.1)) key⟩
theorem kU (F:Fun K "_law_any_table" "_law_any_table" dR f fd)  (hLmixed:HasF P w K mg base 1 "_law_mixed" ["_law_cell","_law_k"] (fn bq))  (m_range:mg "range" = none):FnOk P w K mg base CX0 2 f fd ["_law_seed","_law_k","_law_most"] (cf K 3 (fn bS)):=by
 have sc:=gY
 refine cq F gY (fun cdv A outer s H E ds d hr hG hl=>?_)
 have hb:=aV hG
 have hown:=hb.2
 refine ⟨_,(av (bj 3 sc.nd (cb 0))
  (av (bj 4 sc.nd (j7 dF))
  (av (dh 5 sc.nd PassesOwn.never rfl (ba rfl m_range (ac (bX (ad 1) aj) ah))
   (av (uJ 4 (tq PySem.F.plainAttrs_list PySem.F.slot_list_append PySem.F.type_list_append iw (pvi 4) (fX (j7 dF) j9)))
   (aG (dh 6 sc.nd PassesOwn.never rfl (ba rfl m_range (ac (bX (ad 1) aj) ah))
    (av (bj 7 sc.nd (aU (bR (ad 3) (bX (cR aj (ad 2)) aj))))
    (av (dH (Cd (ad 3) (di (ac aj (ac (lE aj) ah)))) (av (bj 9 sc.nd (dG hLmixed hr (ac (ad 0) (ac (bX (cR aj (ad 5)) (ad 6)) ah))))
     (aG (bj 7 sc.nd (aU (ax (nX (ac aj (ac aj (ac (bX aj (bR (bw (ad 9) aj) (bX (cR aj (ad 2)) aj))) ah)))) (bR (ad 9) aj)))))) cu)
    (av (bj 3 sc.nd (aU (bw (ad 3) (bX (cR aj (ad 2)) aj))))
    (av (bj 8 sc.nd (aU bC))
    (av (dH (yq (ad 7) aj) (aG (bj 8 sc.nd (aU (di (ac (jh (bw (jh (ad 7) aj) aj) (ad 2)) (ac (uM hr.units (bR (ad 7) aj) aj) ah)))))) cu)
    (aG (vL 4 (tq PySem.F.plainAttrs_list PySem.F.slot_list_append PySem.F.type_list_append iw (jU ix_list (pvi 4) (ad 5) (fun _ _=>rfl)) (fX (cb 8) j9)))))))))))))
  (aG (br (cb 4)))))),?_,?own⟩
 case own=>first | rfl | exact hown
 . show aI ((?f:SD) (aK 10 _))=_
   exact hb.1
theorem kC:aF ["_law_cell"] ["_law_cell"] (ap g4):=⟨rfl,rfl,rfl,by decide +kernel,rfl,by decide +kernel,by decide +kernel⟩
theorem rm (F:Fun K "_law_part" "_law_part" g4 f fd)  (hLlowest:Has P w K mg base 1 "_law_lowest" ["_law_top","_law_bottom"] (fn ej))  :FnOk P w K mg base CX0 2 f fd ["_law_cell"] (bi K 1 (fn cw)):=by
 have sc:=kC
 refine bK F kC (fun cdv A outer s H E ds d hr hG hl=>?_)
 obtain ⟨c,rfl,rfl⟩:=aV hG
 refine ⟨_,(aL (df (yr hr.units0 (bR (ad 0) aj) aj) (aJ (aS (aw hLlowest hr (ac (jh (bR (bw (ad 0) aj) (bX (cR aj (uL aj aj)) aj)) (uL aj aj)) (ac (bX aj (bR (ad 0) aj)) ah))))) cr)
  (aJ (aS (aw hLlowest hr (ac (jh (bR (bw (ad 0) aj) aj) aj) (ac (bX aj (bR (bw (ad 0) aj) aj)) ah)))))),?_⟩
 . show aI ((?f:SD) [some _])=_
   have b8:aH c 8:=⟨by decide,dz⟩
   have b48:aH c 48:=⟨by decide,dz⟩
   have bp:mL 10 45:=⟨by decide,by decide,by decide⟩
   have e45:(45:Int).toNat=45:=rfl
   have bm:aR 2 (10 ^ 45):=⟨dz,oX (k:=200) (show (10 ^ 45:Int).natAbs < 2 ^ 200 by decide)⟩
   by_cases h:c % 8=5
   . have h1:(c % 8 == 5)=true:=by simp [h]
     simp only [aI,aW,cJ,aC,dJ,sIf,ae,fC,f2,fT,asB,af,aa,ak,gI0,cn,dX,Zc,Zd,aq (C:=fun _ j=>0 < j) (i:=c) (j:=8) (by decide),h1,aq (C:=aH) b8,aq (C:=mL) bp,e45,aq (C:=aR) bm,aq (C:=fun _ j=>0 < j) (i:=c / 8) (j:=2*10 ^ 45+1) (by decide),aq (C:=fun _ j=>0 < j) (i:=c) (j:=9973) (by decide),ic (t:=c / 8 % (2*10 ^ 45+1) - 10 ^ 45) (b:=1+c % 9973) (by omega) (dz (by omega))]
     unfold prt
     rw [if_pos h]
   . have h1:(c % 8 == 5)=false:=by simp [h]
     simp only [aI,aW,cJ,aC,dJ,sIf,ae,fC,f2,fT,asB,af,aa,ak,gI0,cn,dX,Zc,Zd,aq (C:=fun _ j=>0 < j) (i:=c) (j:=8) (by decide),h1,aq (C:=aH) b8,aq (C:=aH) b48,aq (C:=fun _ j=>0 < j) (i:=c / 48) (j:=41) (by decide),aq (C:=fun _ j=>0 < j) (i:=c / 8) (j:=6) (by decide),ic (t:=c / 48 % 41 - 20) (b:=1+c / 8 % 6) (by omega) (dz (by omega))]
     unfold prt
     rw [if_neg h]
theorem i3:aF ["_law_script","_law_point","_law_parts","_law_table","_law_i","_law_j","_law_drawn","_law_number","_law_bound","_law_top","_law_bottom"] ["_law_script","_law_point"] (ap fu):=⟨rfl,rfl,rfl,by decide +kernel,rfl,by decide +kernel,by decide +kernel⟩
def bM (ds:List D) (d:D):Prop:=aI (((aC (aB 2 (ii (ib (aa (cV (aa (fC (.int 0)) (aa (fC (.int 1)) af))) af)) (ae 1))) (aC (aB 3 (pg ig)) (aC (dE (cB (aa (ak cH (aa (ae 2) af)) af)) 4 (aC (qT 3 (pg ig)) (dE (cB (aa (ak cH (aa (ae 2) af)) af)) 5 (aC (sJ [9,10] (vI (ak (fn cy) (aa (f2 gIx (ae 2) (ae 4)) (aa (f2 gIx (ae 2) (ae 5)) af))))) (aC (aB 6 (dL (fn bq) (aa (ak (fn aA) (aa (ae 0) (aa (f2 bD (f2 bD (fC (.int 8)) (f2 (gI aR fun i j=>.int (i*j)) (ak cH (aa (ae 2) af)) (ae 4))) (ae 5)) af))) (aa (f2 bD (f2 (gI aR fun i j=>.int (i*j)) (fC (.int 9)) (ae 4)) (ae 5)) af)))) (aC (aB 7 (vI (f2 bD (f1 iA (f2 (gI aH fun i j=>.int (i / j)) (f1 iA (ae 9)) (ae 10))) (f2 (gI (fun _ j=>0 < j) fun i j=>.int (i % j)) (f2 (gI aH fun i j=>.int (i / j)) (ae 6) (fC (.int 8))) (fC (.int 3)))))) (aC (aB 8 (vI (cV (aa (ae 7) (aa (fN (f2 gGt (f2 (gI aR fun i j=>.int (i*j)) (ae 7) (ae 10)) (ae 9)) (f2 eP (f2 (gI (fun _ j=>0 < j) fun i j=>.int (i % j)) (f2 (gI aH fun i j=>.int (i / j)) (ae 6) (fC (.int 24))) (fC (.int 2))) (fC (.int 1)))) af))))) (aC (sIf (cO (fT (f2 gLt (f2 (gI (fun _ j=>0 < j) fun i j=>.int (i % j)) (ae 6) (fC (.int 8))) (fC (.int 3)))) (dY (fT (f2 eP (ae 4) (ae 5))) (fT (f2 gLt (f2 (gI (fun _ j=>0 < j) fun i j=>.int (i % j)) (ae 6) (fC (.int 8))) (fC (.int 6)))))) (aB 8 (vI (fC .non))) aW) (i5 3 (ae 4) (bE 8)))))))))) (cD (bE 3)))))) (aK 11 ds))=some d/\own d=true
theorem Ag {f:Nat->Int×Int} {r:List Bn} {b:Bn} (h:∀ j,kp (f j) (r.getD j none)=true) (g:kp (f r.length) b=true) (j:Nat):kp (f j) ((r++[b]).getD j none)=true:=by
 rw [Zs]
 by_cases e:j < r.length
 . rw [List.getElem?_append_left e,<- Zs];exact h j
 . by_cases e2:j=r.length
   . subst e2
     rw [List.getElem?_append_right (Nat.le_refl _),Nat.sub_self];exact g
   . rw [List.getElem?_eq_none (by rw [Zh,Zj];omega)];rfl
theorem wZ {f:Nat->Nat->Int×Int} {T:List (List Bn)} {r:List Bn} (h:∀ i j,kp (f i j) (ao T i j)=true) (g:∀ j,kp (f T.length j) (r.getD j none)=true) (i j:Nat):kp (f i j) (ao (T++[r]) i j)=true:=by
 have hh:=h i j
 unfold ao at *
 rw [Zs (l:=T++[r])]
 by_cases e:i < T.length
 . rw [List.getElem?_append_left e,<- Zs];exact hh
 . by_cases e2:i=T.length
   . subst e2
     rw [List.getElem?_append_right (Nat.le_refl _),Nat.sub_self];exact g j
   . rw [List.getElem?_eq_none (by rw [Zh,Zj];omega)];rfl
theorem D2 (ns:List Int) (P:D) (ps:List (Int×Int)) (T:List (List Bn)) (r:List Bn) (i j:Nat) (o6 o7 o8 o9 o10:Option D) (hp:∀ p∈ps,Fr 200 p) (hp2:∀ p∈ps,Sm 151 p.1/\Sm 14 p.2) (hT:T.length=i) (hr:r.length=j) (hl:ps.length<=40) (hi:i < ps.length+1) (hj:j < ps.length+1):∃ (b:Bn) (p6 p7 p9 p10:Option D),(Bk 190 b/\kp (dif ps i j) b=true) /\
 ((aC (sJ [9,10] (vI (ak (fn cy) (aa (f2 gIx (ae 2) (ae 4)) (aa (f2 gIx (ae 2) (ae 5)) af))))) (aC (aB 6 (dL (fn bq) (aa (ak (fn aA) (aa (ae 0) (aa (f2 bD (f2 bD (fC (.int 8)) (f2 (gI aR fun i j=>.int (i*j)) (ak cH (aa (ae 2) af)) (ae 4))) (ae 5)) af))) (aa (f2 bD (f2 (gI aR fun i j=>.int (i*j)) (fC (.int 9)) (ae 4)) (ae 5)) af)))) (aC (aB 7 (vI (f2 bD (f1 iA (f2 (gI aH fun i j=>.int (i / j)) (f1 iA (ae 9)) (ae 10))) (f2 (gI (fun _ j=>0 < j) fun i j=>.int (i % j)) (f2 (gI aH fun i j=>.int (i / j)) (ae 6) (fC (.int 8))) (fC (.int 3)))))) (aC (aB 8 (vI (cV (aa (ae 7) (aa (fN (f2 gGt (f2 (gI aR fun i j=>.int (i*j)) (ae 7) (ae 10)) (ae 9)) (f2 eP (f2 (gI (fun _ j=>0 < j) fun i j=>.int (i % j)) (f2 (gI aH fun i j=>.int (i / j)) (ae 6) (fC (.int 24))) (fC (.int 2))) (fC (.int 1)))) af))))) (aC (sIf (cO (fT (f2 gLt (f2 (gI (fun _ j=>0 < j) fun i j=>.int (i % j)) (ae 6) (fC (.int 8))) (fC (.int 3)))) (dY (fT (f2 eP (ae 4) (ae 5))) (fT (f2 gLt (f2 (gI (fun _ j=>0 < j) fun i j=>.int (i % j)) (ae 6) (fC (.int 8))) (fC (.int 6)))))) (aB 8 (vI (fC .non))) aW) (i5 3 (ae 4) (bE 8)))))))) [some (.seq (ns.map D.int)),some P,some (.lst ((db ps).map fr)),some (.lst (bI T++[.lst (bh r)])),some (.int (i:Int)),some (.int (j:Int)),o6,o7,o8,o9,o10]=some (.nx [some (.seq (ns.map D.int)),some P,some (.lst ((db ps).map fr)),some (.lst (bI T++[.lst (bh (r++[b]))])),some (.int (i:Int)),some (.int (j:Int)),p6,p7,some (bdD b),p9,p10]):=by
 have a:=gd (by decide) hp i
 have b:=gd (by decide) hp j
 obtain ⟨top,htop⟩:∃ t,t=(cI ps i).1*(cI ps j).2 - (cI ps j).1*(cI ps i).2:=⟨_,rfl⟩
 obtain ⟨bot,hbot⟩:∃ t,t=(cI ps i).2*(cI ps j).2:=⟨_,rfl⟩
 have hb:0 < bot:=by rw [hbot];exact Int.mul_pos a.pos b.pos
 have a2:=so hp2 i
 have b2:=so hp2 j
 have s1:Sm 166 top:=by rw [htop];exact (a2.1.mul b2.2).sub (b2.1.mul a2.2)
 have s2:Sm 401 bot:=by rw [hbot];exact (a.s2.mul b.s2).mono (by decide)
 have le:fn cy [fr (cI ps i),fr (cI ps j)]=some (.tup [.int top,.int bot]):=by
  rw [htop,hbot]
  exact e2 (op:=fun p q=>fr (dl p q)) (Fk.of a) (Fk.of b)
 have len:cH [.lst ((db ps).map fr)]=some (.int ((ps.length:Int)+1)):=by
  show some (D.int (((db ps).map fr).length:Int))=_
  rw [Zi]
  rfl
 have ml:aR ((ps.length:Int)+1) (i:Int):=⟨dz (by omega),dz (by omega)⟩
 have mi9:aR 9 (i:Int):=⟨dz,dz (by omega)⟩
 have hli:(0:Int)<=((ps.length:Int)+1)*(i:Int):=Int.mul_nonneg (by omega) (by omega)
 have ca:=gP (ns:=ns) (k:=8+((ps.length:Int)+1)*(i:Int)+(j:Int)) (by omega)
 have mx:=k8 (c:=cell ns (8+((ps.length:Int)+1)*(i:Int)+(j:Int))) (k:=9*(i:Int)+(j:Int)) (by omega) (by omega)
 obtain ⟨w,hw⟩:∃ w,w=mxd (cell ns (8+((ps.length:Int)+1)*(i:Int)+(j:Int))) (9*(i:Int)+(j:Int)):=⟨_,rfl⟩
 rw [<- hw] at mx
 have dn:aH (-top) bot:=⟨hb,oX (k:=401) s2⟩
 have d8:aH w 8:=⟨by decide,dz⟩
 have d24:aH w 24:=⟨by decide,dz⟩
 obtain ⟨nb,hnb⟩:∃ nb,nb = -(-top / bot)+w / 8 % 3:=⟨_,rfl⟩
 have s3:Sm 167 nb:=by
  rw [hnb]
  have h1:Sm 166 (-(-top / bot)):=by
   show (-(-top / bot)).natAbs < 2 ^ 166
   rw [Int.natAbs_neg]
   refine Nat.lt_of_le_of_lt (Int.natAbs_ediv_le_natAbs _ _) ?_
   rw [Int.natAbs_neg]
   exact s1
  exact h1.add (y:=w / 8 % 3) (Sm.mono (k:=10) (Sm.of (by omega) (by omega)) (by decide))
 have mb:aR nb bot:=⟨oX (k:=167) s3,oX (k:=401) s2⟩
 obtain ⟨t,ht,hts⟩:∃ t:Bool,(fN (f2 gGt (f2 (gI aR fun i j=>.int (i*j)) (ae 7) (ae 10)) (ae 9)) (f2 eP (f2 (gI (fun _ j=>0 < j) fun i j=>.int (i % j)) (f2 (gI aH fun i j=>.int (i / j)) (ae 6) (fC (.int 24))) (fC (.int 2))) (fC (.int 1))) [some (.seq (ns.map D.int)),some P,some (.lst ((db ps).map fr)),some (.lst (bI T++[.lst (bh r)])),some (.int (i:Int)),some (.int (j:Int)),some (.int w),some (.int nb),o8,some (.int top),some (.int bot)]=some (.bl t))/\(t=true->top < nb*bot):=by
  by_cases h:top < nb*bot
  . have h1:decide (top < nb*bot)=true:=decide_eq_true h
    exact ⟨w / 24 % 2 == 1,by simp only [ae,fC,f2,fN,gI0,Zc,Zd,Ze,gGt,dP,aq (C:=aR) mb,h1,aq (C:=aH) d24,aq (C:=fun _ j=>0 < j) (i:=w / 24) (j:=2) (by decide)],fun _=>h⟩
  . have h1:decide (top < nb*bot)=false:=decide_eq_false h
    exact ⟨false,by simp only [ae,fC,f2,fN,gI0,Zc,Zd,Ze,gGt,aq (C:=aR) mb,h1],fun z=>nomatch z⟩
 have kn:kp (dif ps i j) none=true:=rfl
 have ks:kp (dif ps i j) (some (nb,t))=true:=by
  have e1:kp (dif ps i j) (some (nb,t))=kp (top,bot) (some (nb,t)):=by
   rw [htop,hbot]
   exact (BO a.pos b.pos _).symm
  rw [e1,uT]
  have c1:-top / bot*bot <= -top:=Int.ediv_mul_le _ (by omega)
  have c2:nb*bot = -(-top / bot*bot)+w / 8 % 3*bot:=by rw [hnb,Int.add_mul,Int.neg_mul]
  have c3:0<=w / 8 % 3*bot:=Int.mul_nonneg (by omega) (by omega)
  cases t with
  | true=>exact hts rfl
  | false=>show top<=nb*bot;omega
 obtain ⟨bb,hbb,hst⟩:∃ b:Bn,(Bk 190 b/\kp (dif ps i j) b=true)/\((sIf (cO (fT (f2 gLt (f2 (gI (fun _ j=>0 < j) fun i j=>.int (i % j)) (ae 6) (fC (.int 8))) (fC (.int 3)))) (dY (fT (f2 eP (ae 4) (ae 5))) (fT (f2 gLt (f2 (gI (fun _ j=>0 < j) fun i j=>.int (i % j)) (ae 6) (fC (.int 8))) (fC (.int 6)))))) (aB 8 (vI (fC .non))) aW)) [some (.seq (ns.map D.int)),some P,some (.lst ((db ps).map fr)),some (.lst (bI T++[.lst (bh r)])),some (.int (i:Int)),some (.int (j:Int)),some (.int w),some (.int nb),some (.tup [.int nb,.bl t]),some (.int top),some (.int bot)]=some (.nx [some (.seq (ns.map D.int)),some P,some (.lst ((db ps).map fr)),some (.lst (bI T++[.lst (bh r)])),some (.int (i:Int)),some (.int (j:Int)),some (.int w),some (.int nb),some (bdD b),some (.int top),some (.int bot)]):=by
  have yes:Bk 190 (some (nb,t))/\kp (dif ps i j) (some (nb,t))=true:=⟨Sm.mono (k:=167) s3 (by decide),ks⟩
  by_cases h3:w % 8 < 3
  . have q3:decide (w % 8 < 3)=true:=decide_eq_true h3
    exact ⟨none,⟨trivial,kn⟩,dc (by simp only [ae,fC,f2,fT,asB,dY,cO,gI0,Zc,Zd,Ze,gLt,aq (C:=fun _ j=>0 < j) (i:=w) (j:=8) (by decide),q3]) rfl⟩
  . have q3:decide (w % 8 < 3)=false:=decide_eq_false h3
    cases hij:((i:Int) == (j:Int)) with
    | false=>exact ⟨some (nb,t),yes,bQ (by simp only [ae,fC,f2,fT,asB,dY,cO,gI0,Zc,Zd,Ze,gLt,dP,aq (C:=fun _ j=>0 < j) (i:=w) (j:=8) (by decide),q3,hij]) rfl⟩
    | true =>
     by_cases h6:w % 8 < 6
     . have q6:decide (w % 8 < 6)=true:=decide_eq_true h6
       exact ⟨none,⟨trivial,kn⟩,dc (by simp only [ae,fC,f2,fT,asB,dY,cO,gI0,Zc,Zd,Ze,gLt,dP,aq (C:=fun _ j=>0 < j) (i:=w) (j:=8) (by decide),q3,hij,q6]) rfl⟩
     . have q6:decide (w % 8 < 6)=false:=decide_eq_false h6
       exact ⟨some (nb,t),yes,bQ (by simp only [ae,fC,f2,fT,asB,dY,cO,gI0,Zc,Zd,Ze,gLt,dP,aq (C:=fun _ j=>0 < j) (i:=w) (j:=8) (by decide),q3,hij,q6]) rfl⟩
 refine ⟨bb,some (.int w),some (.int nb),some (.int top),some (.int bot),hbb,?_⟩
 refine au (DH (ds:=[.int top,.int bot]) (bB (by simp only [ae,f2,af,aa,ak,Zc,Zd,Ze,(jH hi).1,(jH hj).1,le])) rfl rfl) (au (be (dZ (ds:=[.int (cell ns (8+((ps.length:Int)+1)*(i:Int)+(j:Int))),.int (9*(i:Int)+(j:Int))]) ?ar mx rfl)) (au (be (bB (d:=.int nb) ?nb)) (au (be (bB (d:=.tup [.int nb,.bl t]) ?tp)) (au hst ?_))))
 case ar=>simp only [sA,ae,fC,f2,af,aa,ak,cn,Zc,Zd,Ze,Zf,Zg,len,aq (C:=aR) ml,ca,aq (C:=aR) mi9]
 case nb=>simp only [sA,ae,fC,f2,f1,iA,cn,Zc,Zd,Ze,Zf,Zg,aq (C:=aH) dn,aq (C:=aH) d8,aq (C:=fun _ j=>0 < j) (i:=w / 8) (j:=3) (by decide),hnb]
 case tp=>exact C6 (a:=.int nb) (b:=.bl t) rfl ht
 rw [pO]
 exact qB rfl (by rw [eU,hT];rfl) (kr rfl) (by rw [jo];omega)
theorem ja {ns:List Int} {d1:D} {ps:List (Int×Int)} (h1:IsP d1 ps) (hp:∀ p∈ps,Fr 200 p) (hp2:∀ p∈ps,Sm 151 p.1/\Sm 14 p.2) (hl:ps.length<=40):∃ T,Grown T (ps.length+1) (ps.length+1)/\(∀ i,i < ps.length+1->∀ j,j < ps.length+1->kp (dif ps i j) (ao T i j)=true)/\fn bM [.seq (ns.map D.int),d1]=some (ay T):=by
 have e0:aK 11 [.seq (ns.map D.int),d1]=[some (.seq (ns.map D.int)),some (.seq (ps.map fr)),none,none,none,none,none,none,none,none,none]:=by
  show [some (sh (.seq (ns.map D.int))),some (sh d1),none,none,none,none,none,none,none,none,none]=_
  rw [sh,gf,show sh d1=_ from h1]
 have len:cH [.lst ((db ps).map fr)]=some (.int ((ps.length+1:Nat):Int)):=by
  show some (D.int (((db ps).map fr).length:Int))=_
  rw [Zi]
  rfl
 have hr:=fun t o4 o5 o6 o7 o8 o9 o10=>eD (g:=aa (ak cH (aa (ae 2) af)) af) (δ:=[some (.seq (ns.map D.int)),some (.seq (ps.map fr)),some (.lst ((db ps).map fr)),t,o4,o5,o6,o7,o8,o9,o10]) (n:=ps.length+1) (by simp only [ae,af,aa,ak,Zc,Zd,Ze,len]) (by omega)
 have inner:∀ (T:List (List Bn)) (i:Nat) (o5 o6 o7 o8 o9 o10:Option D),T.length=i->i < ps.length+1->∃ δ',Dl.forM 5 ((aC (sJ [9,10] (vI (ak (fn cy) (aa (f2 gIx (ae 2) (ae 4)) (aa (f2 gIx (ae 2) (ae 5)) af))))) (aC (aB 6 (dL (fn bq) (aa (ak (fn aA) (aa (ae 0) (aa (f2 bD (f2 bD (fC (.int 8)) (f2 (gI aR fun i j=>.int (i*j)) (ak cH (aa (ae 2) af)) (ae 4))) (ae 5)) af))) (aa (f2 bD (f2 (gI aR fun i j=>.int (i*j)) (fC (.int 9)) (ae 4)) (ae 5)) af)))) (aC (aB 7 (vI (f2 bD (f1 iA (f2 (gI aH fun i j=>.int (i / j)) (f1 iA (ae 9)) (ae 10))) (f2 (gI (fun _ j=>0 < j) fun i j=>.int (i % j)) (f2 (gI aH fun i j=>.int (i / j)) (ae 6) (fC (.int 8))) (fC (.int 3)))))) (aC (aB 8 (vI (cV (aa (ae 7) (aa (fN (f2 gGt (f2 (gI aR fun i j=>.int (i*j)) (ae 7) (ae 10)) (ae 9)) (f2 eP (f2 (gI (fun _ j=>0 < j) fun i j=>.int (i % j)) (f2 (gI aH fun i j=>.int (i / j)) (ae 6) (fC (.int 24))) (fC (.int 2))) (fC (.int 1)))) af))))) (aC (sIf (cO (fT (f2 gLt (f2 (gI (fun _ j=>0 < j) fun i j=>.int (i % j)) (ae 6) (fC (.int 8))) (fC (.int 3)))) (dY (fT (f2 eP (ae 4) (ae 5))) (fT (f2 gLt (f2 (gI (fun _ j=>0 < j) fun i j=>.int (i % j)) (ae 6) (fC (.int 8))) (fC (.int 6)))))) (aB 8 (vI (fC .non))) aW) (i5 3 (ae 4) (bE 8)))))))) ((List.range (ps.length+1)).map fun (i:Nat)=>D.int (i:Int)) [some (.seq (ns.map D.int)),some (.seq (ps.map fr)),some (.lst ((db ps).map fr)),some (.lst (bI T++[.lst (bh [])])),some (.int (i:Int)),o5,o6,o7,o8,o9,o10]=some (.nx δ')/\∃ (r:List Bn) (o5 o6 o7 o8 o9 o10:Option D),r.length=(List.range (ps.length+1)).length/\(∀ b∈r,Bk 190 b)/\(∀ j,kp (dif ps i j) (r.getD j none)=true)/\δ'=[some (.seq (ns.map D.int)),some (.seq (ps.map fr)),some (.lst ((db ps).map fr)),some (.lst (bI T++[.lst (bh r)])),some (.int (i:Int)),o5,o6,o7,o8,o9,o10]:=by
  intro T i o5 o6 o7 o8 o9 o10 hT hi
  refine cE (f:=fun (i:Nat)=>D.int (i:Int)) (fun pre δ=>∃ (r:List Bn) (o5 o6 o7 o8 o9 o10:Option D),r.length=pre.length/\(∀ b∈r,Bk 190 b)/\(∀ j,kp (dif ps i j) (r.getD j none)=true)/\δ=[some (.seq (ns.map D.int)),some (.seq (ps.map fr)),some (.lst ((db ps).map fr)),some (.lst (bI T++[.lst (bh r)])),some (.int (i:Int)),o5,o6,o7,o8,o9,o10]) (List.range (ps.length+1)) ?_ (List.range (ps.length+1)) [] _ rfl ⟨[],o5,o6,o7,o8,o9,o10,rfl,(fun _ m=>nomatch m),(fun _=>rfl),rfl⟩
  rintro pre x post _ hx ⟨r,o5,o6,o7,o8,o9,o10,hr,hb,hk,rfl⟩
  obtain ⟨rfl,hl'⟩:=bA hx
  obtain ⟨b,p6,p7,p9,p10,hbb,st⟩:=D2 ns (.seq (ps.map fr)) ps T r i pre.length o6 o7 o8 o9 o10 hp hp2 hT hr hl hi hl'
  refine ⟨_,st,r++[b],_,_,_,_,_,_,by rw [Zh,Zh,hr];rfl,fun z hz=>?_,fun j=>Ag hk (by rw [hr];exact hbb.2) j,rfl⟩
  rcases Zp.mp hz with hz | hz
  . exact hb z hz
  . rw [Zm.mp hz];exact hbb.1
 obtain ⟨_,w,T,o4,o5,o6,o7,o8,o9,o10,hG,hK,rfl⟩:=cE (i:=4) (s:=((aC (qT 3 (pg ig)) (dE (cB (aa (ak cH (aa (ae 2) af)) af)) 5 (aC (sJ [9,10] (vI (ak (fn cy) (aa (f2 gIx (ae 2) (ae 4)) (aa (f2 gIx (ae 2) (ae 5)) af))))) (aC (aB 6 (dL (fn bq) (aa (ak (fn aA) (aa (ae 0) (aa (f2 bD (f2 bD (fC (.int 8)) (f2 (gI aR fun i j=>.int (i*j)) (ak cH (aa (ae 2) af)) (ae 4))) (ae 5)) af))) (aa (f2 bD (f2 (gI aR fun i j=>.int (i*j)) (fC (.int 9)) (ae 4)) (ae 5)) af)))) (aC (aB 7 (vI (f2 bD (f1 iA (f2 (gI aH fun i j=>.int (i / j)) (f1 iA (ae 9)) (ae 10))) (f2 (gI (fun _ j=>0 < j) fun i j=>.int (i % j)) (f2 (gI aH fun i j=>.int (i / j)) (ae 6) (fC (.int 8))) (fC (.int 3)))))) (aC (aB 8 (vI (cV (aa (ae 7) (aa (fN (f2 gGt (f2 (gI aR fun i j=>.int (i*j)) (ae 7) (ae 10)) (ae 9)) (f2 eP (f2 (gI (fun _ j=>0 < j) fun i j=>.int (i % j)) (f2 (gI aH fun i j=>.int (i / j)) (ae 6) (fC (.int 24))) (fC (.int 2))) (fC (.int 1)))) af))))) (aC (sIf (cO (fT (f2 gLt (f2 (gI (fun _ j=>0 < j) fun i j=>.int (i % j)) (ae 6) (fC (.int 8))) (fC (.int 3)))) (dY (fT (f2 eP (ae 4) (ae 5))) (fT (f2 gLt (f2 (gI (fun _ j=>0 < j) fun i j=>.int (i % j)) (ae 6) (fC (.int 8))) (fC (.int 6)))))) (aB 8 (vI (fC .non))) aW) (i5 3 (ae 4) (bE 8))))))))))) (f:=fun (i:Nat)=>D.int (i:Int)) (fun pre δ=>∃ (T:List (List Bn)) (o4 o5 o6 o7 o8 o9 o10:Option D),Grown T pre.length (ps.length+1)/\(∀ i j,kp (dif ps i j) (ao T i j)=true)/\δ=[some (.seq (ns.map D.int)),some (.seq (ps.map fr)),some (.lst ((db ps).map fr)),some (ay T),o4,o5,o6,o7,o8,o9,o10]) (List.range (ps.length+1)) (by
  rintro pre x post _ hx ⟨T,o4,o5,o6,o7,o8,o9,o10,hG,hK,rfl⟩
  obtain ⟨rfl,hl'⟩:=bA hx
  obtain ⟨_,w,r,p5,p6,p7,p8,p9,p10,h1,h2,h3,rfl⟩:=inner T pre.length o5 o6 o7 o8 o9 o10 hG.len hl'
  refine ⟨_,au (uA (ds:=bI T) (d:=.lst []) rfl rfl (by rw [eU,hG.len];omega)) (bW (hr _ _ _ _ _ _ _ _) w),T++[r],some (.int (pre.length:Int)),p5,p6,p7,p8,p9,p10,?_,fun i j=>wZ hK (by rw [hG.len];exact h3) i j,?_⟩
  . rw [Zh]
    exact hG.snoc (by rw [h1,List.length_range]) h2
  . unfold ay
    rw [nR]) (List.range (ps.length+1)) [] [some (.seq (ns.map D.int)),some (.seq (ps.map fr)),some (.lst ((db ps).map fr)),some (.lst []),none,none,none,none,none,none,none] rfl ⟨[],none,none,none,none,none,none,none,⟨rfl,(fun _ m=>nomatch m),(fun _ m=>nomatch m)⟩,(fun _ _=>rfl),rfl⟩
 have cat:ii (ib (aa (cV (aa (fC (.int 0)) (aa (fC (.int 1)) af))) af)) (ae 1) [some (.seq (ns.map D.int)),some (.seq (ps.map fr)),none,none,none,none,none,none,none,none,none]=some (.lst ((db ps).map fr),[some (.seq (ns.map D.int)),some (.seq (ps.map fr)),none,none,none,none,none,none,none,none,none]):=qF (a:=.lst [fr (0,1)]) (xs:=[fr (0,1)]) (ys:=ps.map fr) rfl rfl rfl rfl (by rw [Zi];simp only [List.length_cons,List.length_nil];omega) (tY (db ps))
 have key:bM [.seq (ns.map D.int),d1] (ay T):=by
  refine ⟨?_,bP T⟩
  rw [e0]
  exact d7 (au (be cat) (au (be (d:=.lst []) rfl) (au (bW (hr _ _ _ _ _ _ _ _) w) (bV (iE rfl)))))
 exact ⟨T,by rw [List.length_range] at hG;exact hG,fun i _ j _=>hK i j,cg (fun d' h'=>Option.some.inj (h'.1.symm.trans key.1)) key⟩
theorem mE (F:Fun K "_law_planted" "_law_planted" fu f fd)  (hLless:Has P w K mg base 1 "_law_less" ["_law_one","_law_other"] (fn cy)) (hLmixed:HasF P w K mg base 1 "_law_mixed" ["_law_cell","_law_k"] (fn bq)) (hLcell_at:Has P w K mg base 1 "_law_cell_at" ["_law_script","_law_k"] (fn aA))  (m_range:mg "range" = none) (m_len:mg "len" = none):FnOk P w K mg base CX0 2 f fd ["_law_script","_law_point"] (cf K 2 (fn bM)):=by
 have sc:=i3
 refine cq F i3 (fun cdv A outer s H E ds d hr hG hl=>?_)
 have hb:=aV hG
 have hown:=hb.2
 refine ⟨_,(av (bj 2 sc.nd (mV (nX (ac (di (ac aj (ac aj ah))) ah)) (ad 1)))
  (av (bj 3 sc.nd (j7 dF))
  (av (dh 4 sc.nd PassesOwn.never rfl (ba rfl m_range (ac (aN aM cF rfl m_len PySem.boot_len (ac (ad 2) ah)) ah))
   (av (uJ 3 (tq PySem.F.plainAttrs_list PySem.F.slot_list_append PySem.F.type_list_append iw (pvi 3) (fX (j7 dF) j9)))
   (aG (dh 5 sc.nd PassesOwn.never rfl (ba rfl m_range (ac (aN aM cF rfl m_len PySem.boot_len (ac (ad 2) ah)) ah))
    (av (D0 [9,10] (aU (aw hLless hr (ac (ax (ad 2) (ad 4)) (ac (ax (ad 2) (ad 5)) ah)))) (yE rfl (kQ (pgN 9 sc.nd) (kQ (pgN 10 sc.nd) vO))))
    (av (bj 6 sc.nd (dG hLmixed hr (ac (aw hLcell_at hr (ac (ad 0) (ac (bX (bX aj (cR (aN aM cF rfl m_len PySem.boot_len (ac (ad 2) ah)) (ad 4))) (ad 5)) ah))) (ac (bX (cR aj (ad 4)) (ad 5)) ah))))
    (av (bj 7 sc.nd (aU (bX (lE (bw (lE (ad 9)) (ad 10))) (bR (bw (ad 6) aj) aj))))
    (av (bj 8 sc.nd (aU (di (ac (ad 7) (ac (gL (BG (cR (ad 7) (ad 10)) (ad 9)) (gm (uM hr.units (bR (bw (ad 6) aj) aj) aj))) ah)))))
    (av (dH (PWD.pt (fR (lA (bR (ad 6) aj) aj) (eK (PWD.pt (mT (kP hr.units (ad 4) (ad 5)) (kO (lA (bR (ad 6) aj) aj))))))) (aG (bj 8 sc.nd (aU bC))) cu)
    (aG (vL 3 (tq PySem.F.plainAttrs_list PySem.F.slot_list_append PySem.F.type_list_append iw (jU ix_list (pvi 3) (ad 4) (fun _ _=>rfl)) (fX (cb 8) j9)))))))))))))
  (aG (br (cb 3)))))),?_,?own⟩
 case own=>first | rfl | exact hown
 . show aI ((?f:SD) (aK 11 _))=_
   exact hb.1
theorem jd:aF ["_law_table","_law_made","_law_i","_law_turn","_law_longer","_law_j","_law_m","_law_beyond"] ["_law_table"] (ap fW):=⟨rfl,rfl,rfl,by decide +kernel,rfl,by decide +kernel,by decide +kernel⟩
theorem n9 (F:Fun K "_law_closed" "_law_closed" fW f fd)  (hLtighter:Has P w K mg base 1 "_law_tighter" ["_law_one","_law_other"] (fn bo)) (hLsum:Has P w K mg base 1 "_law_sum" ["_law_one","_law_other"] (fn cT))  (m_range:mg "range" = none) (m_any:mg "any" = none) (m_list:mg "list" = none) (m_len:mg "len" = none):FnOk P w K mg base CX0 2 f fd ["_law_table"] (cf K 1 (fn eu)):=by
 have sc:=jd
 refine cq F jd (fun cdv A outer s H E ds d hr hG hl=>?_)
 obtain ⟨d0,T,n,hT,hs,hn,rfl,rfl⟩:=aV hG
 have hown:=yK n T
 refine ⟨_,(av (bj 1 sc.nd (mU (by exact (ir (ad 0))) (N:=["_law_row"]) (js:=[]) (cl:=[]) (fun _ _ _ _ _=>by exact (jE rfl m_list boot_list (ac (ad 0) ah))) (by exact CompOk.nil)))
  (av (dh 2 sc.nd PassesOwn.never rfl (ba rfl m_range (ac (aN aM cF rfl m_len PySem.boot_len (ac (ad 1) ah)) ah))
   (aG (dH (dU (bO (aw hLtighter hr (ac (ax (ax (ad 1) (ad 2)) (ad 2)) (ac (di (ac aj (ac eT ah))) ah))))) (aG (mY 1 (aU (di (ac aj (ac eT ah)))) (lB (jU ix_list (pvi 1) (ad 2) (fun _ _=>rfl)) (ad 2) ij))) cu)))
  (av (dh 3 sc.nd PassesOwn.never rfl (ba rfl m_range (ac aj ah))
   (av (mZ 4 sc.nd (by exact (ir (ad 1))) (N:=["_law_row"]) (js:=[]) (cl:=[]) (fun _ _ _ _ _=>by exact (jE rfl m_list boot_list (ac (ad 0) ah))) (by exact CompOk.nil))
   (av (dh 2 sc.nd PassesOwn.never rfl (ba rfl m_range (ac (aN aM cF rfl m_len PySem.boot_len (ac (ad 1) ah)) ah))
    (aG (dh 5 sc.nd PassesOwn.never rfl (ba rfl m_range (ac (aN aM cF rfl m_len PySem.boot_len (ac (ad 1) ah)) ah))
     (aG (dh 6 sc.nd PassesOwn.never rfl (ba rfl m_range (ac (aN aM cF rfl m_len PySem.boot_len (ac (ad 1) ah)) ah))
      (av (bj 7 sc.nd (aU (aw hLsum hr (ac (ax (ax (ad 1) (ad 2)) (ad 6)) (ac (ax (ax (ad 1) (ad 6)) (ad 5)) ah)))))
      (aG (dH (bO (aw hLtighter hr (ac (ad 7) (ac (ax (ax (ad 4) (ad 2)) (ad 5)) ah)))) (aG (mY 4 (cb 7) (lB (jU ix_list (pvi 4) (ad 2) (fun _ _=>rfl)) (ad 5) ij))) cu))))))))
   (aG (bj 1 sc.nd (cb 4))))))
  (av (dH (bO (aN (zT rfl) Db rfl m_any xM (ac (vQ (by exact (iL rfl m_range (ac (aN aM cF rfl m_len PySem.boot_len (ac (ad 1) ah)) ah))) (N:=["_law_i","_law_made"]) (js:=[1]) (cl:=[("_law_made",_)]) (fun _ _ _ _ _=>by exact (Ct hr.units (ax (ax (ad 1) (ad 0)) (ad 0)) (di (ac aj (ac eT ah))))) (by exact CompOk.one)) ah))) (aG (br (aU bC))) cu)
  (aG (br (cb 1))))))),?_,?own⟩
 case own=>first | rfl | exact hown
 . show aI ((?f:SD) (aK 8 _))=_
   have e0:aK 8 [d0]=[some (az T),none,none,none,none,none,none,none]:=by
    show [some (sh d0),none,none,none,none,none,none,none]=_
    rw [show sh d0=az T from hT]
   rw [e0]
   have hv:=fun (f:Nat->Nat->Bn) (o2 o3 o4 o5 o6 o7:Option D)=>eD (g:=aa (ak cH (aa (ae 1) af)) af) (δ:=[some (az T),some (ay (aE n f)),o2,o3,o4,o5,o6,o7]) (n:=n) (by simp only [ae,af,aa,ak,Zc,Zd,Ze,rH (bf n f)]) (by omega)
   obtain ⟨_,w0,o2,rfl⟩:=cE (i:=2) (s:=((sIf (bT (fT (ak (fn bo) (aa (f2 gIx (f2 gIx (ae 1) (ae 2)) (ae 2)) (aa (cV (aa (fC (.int 0)) (aa (fC (.bl false)) af))) af))))) (fM 1 (ae 2) (ae 2) (vI (cV (aa (fC (.int 0)) (aa (fC (.bl false)) af))))) aW))) (f:=fun (i:Nat)=>D.int (i:Int)) (fun pre δ=>∃ o2,δ=[some (az T),some (ay (aE n fun i j=>if i=j/\i < pre.length/\tgt (ao T i i) b0=false then b0 else ao T i j)),o2,none,none,none,none,none]) (List.range n) (by
    rintro pre x post _ hx ⟨o2,rfl⟩
    obtain ⟨rfl,hl⟩:=bA hx
    rw [Zh,Zj]
    generalize pre.length=k at *
    obtain ⟨r1,q1,q2,q3,q4,q5⟩:=gN (bf n fun i j=>if i=j/\i < k/\tgt (ao T i i) b0=false then b0 else ao T i j) hl hl
    rw [bz _ hl hl,if_neg (by omega)] at q2
    have et:=jJ (a:=ao T k k) (b:=b0)
    have eb:bdD b0=.tup [.int 0,.bl false]:=rfl
    rw [eb] at et
    cases ht:tgt (ao T k k) b0 with
    | false =>
     refine ⟨_,dc (by simp only [ae,fC,f2,fT,asB,bT,af,aa,cV,ak,Zc,Option.map_some,Zd,Ze,Zf,Zg,Bool.not_false,j3,q1,q2,et,ht]) (qS (b:=b0) (bf n _) hl hl (bB (d:=bdD b0) rfl (iP b0)) rfl rfl rfl),some (.int (k:Int)),?_⟩
     rw [jA _ _ hl hl]
     have e:aE n (up2 (fun i j=>if i=j/\i < k/\tgt (ao T i i) b0=false then b0 else ao T i j) k k b0)=aE n fun i j=>if i=j/\i < k+1/\tgt (ao T i i) b0=false then b0 else ao T i j:=aZ fun i j hi hj=>by
      unfold up2
      by_cases a:i=k/\j=k
      . rw [if_pos a,if_pos ⟨by omega,by omega,by rw [a.1];exact ht⟩]
      . rw [if_neg a]
        dsimp only
        by_cases b:i=j/\i < k/\tgt (ao T i i) b0=false
        . rw [if_pos b,if_pos ⟨b.1,by omega,b.2.2⟩]
        . rw [if_neg b,if_neg fun z=>?_]
          by_cases q:i < k
          . exact b ⟨z.1,q,z.2.2⟩
          . exact a ⟨by omega,by omega⟩
     rw [e]
     rfl
    | true =>
     refine ⟨_,bQ (by simp only [ae,fC,f2,fT,asB,bT,af,aa,cV,ak,Zc,Option.map_some,Zd,Ze,Zf,Zg,Bool.not_true,j3,q1,q2,et,ht]) rfl,some (.int (k:Int)),?_⟩
     have e:aE n (fun i j=>if i=j/\i < k/\tgt (ao T i i) b0=false then b0 else ao T i j)=aE n fun i j=>if i=j/\i < k+1/\tgt (ao T i i) b0=false then b0 else ao T i j:=aZ fun i j hi hj=>by
      by_cases b:i=j/\i < k/\tgt (ao T i i) b0=false
      . rw [if_pos b,if_pos ⟨b.1,by omega,b.2.2⟩]
      . rw [if_neg b,if_neg fun z=>?_]
        by_cases q:i < k
        . exact b ⟨z.1,q,z.2.2⟩
        . have:i=k:=by omega
          subst this
          have:=z.2.2
          rw [ht] at this
          cases this
     rw [e]
     rfl) (List.range n) [] [some (az T),some (ay T),none,none,none,none,none,none] rfl ⟨none,by
     have e:aE n (fun i j=>if i=j/\i < ([]:List Nat).length/\tgt (ao T i i) b0=false then b0 else ao T i j)=T:=(aZ fun i j _ _=>if_neg fun z=>by have:=z.2.1;simp at this).trans (qI hs)
     rw [e]⟩
   have e0':aE n (fun i j=>if i=j/\i < (List.range n).length/\tgt (ao T i i) b0=false then b0 else ao T i j)=aE n (sqs n (cl0 T) 0):=aZ fun i j hi hj=>by
    show _=cl0 T i j
    unfold cl0
    rw [List.length_range]
    by_cases a:i=j/\tgt (ao T i i) b0=false
    . rw [if_pos a,if_pos ⟨a.1,hi,a.2⟩]
    . rw [if_neg a,if_neg fun z=>a ⟨z.1,z.2.2⟩]
   rw [e0'] at w0
   have turn:∀ (f:Nat->Nat->Bn) (o2 o3 o4 o5 o6 o7:Option D),∃ δ',((aC (aB 4 (eX (fun δ=>((ae 1) δ).bind asL) [] (gS (aa (ae 0) af)))) (aC (dE (cB (aa (ak cH (aa (ae 1) af)) af)) 2 (dE (cB (aa (ak cH (aa (ae 1) af)) af)) 5 (dE (cB (aa (ak cH (aa (ae 1) af)) af)) 6 (aC (aB 7 (vI (ak (fn cT) (aa (f2 gIx (f2 gIx (ae 1) (ae 2)) (ae 6)) (aa (f2 gIx (f2 gIx (ae 1) (ae 6)) (ae 5)) af))))) (sIf (fT (ak (fn bo) (aa (ae 7) (aa (f2 gIx (f2 gIx (ae 4) (ae 2)) (ae 5)) af)))) (fM 4 (ae 2) (ae 5) (bE 7)) aW))))) (aB 1 (bE 4))))) [some (az T),some (ay (aE n f)),o2,o3,o4,o5,o6,o7]=some (.nx δ')/\∃ o2 o3 o4 o5 o6 o7,δ'=[some (az T),some (ay (aE n (sq n f))),o2,o3,o4,o5,o6,o7]:=by
    intro f o2 o3 o4 o5 o6 o7
    have fm:∀ (i j:Nat),i < n->j < n->∀ (o6 o7:Option D),∃ δ',Dl.forM 6 ((aC (aB 7 (vI (ak (fn cT) (aa (f2 gIx (f2 gIx (ae 1) (ae 2)) (ae 6)) (aa (f2 gIx (f2 gIx (ae 1) (ae 6)) (ae 5)) af))))) (sIf (fT (ak (fn bo) (aa (ae 7) (aa (f2 gIx (f2 gIx (ae 4) (ae 2)) (ae 5)) af)))) (fM 4 (ae 2) (ae 5) (bE 7)) aW))) ((List.range n).map fun (i:Nat)=>D.int (i:Int)) [some (az T),some (ay (aE n f)),some (.int (i:Int)),o3,some (ay (aE n (lgr n f i j 0))),some (.int (j:Int)),o6,o7]=some (.nx δ')/\∃ o6 o7,δ'=[some (az T),some (ay (aE n f)),some (.int (i:Int)),o3,some (ay (aE n (lgr n f i j n))),some (.int (j:Int)),o6,o7]:=fun i j hi hj o6 o7=>by
     have:=cE (i:=6) (s:=((aC (aB 7 (vI (ak (fn cT) (aa (f2 gIx (f2 gIx (ae 1) (ae 2)) (ae 6)) (aa (f2 gIx (f2 gIx (ae 1) (ae 6)) (ae 5)) af))))) (sIf (fT (ak (fn bo) (aa (ae 7) (aa (f2 gIx (f2 gIx (ae 4) (ae 2)) (ae 5)) af)))) (fM 4 (ae 2) (ae 5) (bE 7)) aW)))) (f:=fun (i:Nat)=>D.int (i:Int)) (fun pre δ=>∃ o6 o7,δ=[some (az T),some (ay (aE n f)),some (.int (i:Int)),o3,some (ay (aE n (lgr n f i j pre.length))),some (.int (j:Int)),o6,o7]) (List.range n) (by
      rintro pre x post _ hx ⟨o6,o7,rfl⟩
      obtain ⟨rfl,hm⟩:=bA hx
      rw [Zh,Zj]
      generalize pre.length=m at *
      obtain ⟨r1,q1,q2,q3,q4,q5⟩:=gN (bf n f) hi hm
      obtain ⟨r2,u1,u2,u3,u4,u5⟩:=gN (bf n f) hm hj
      obtain ⟨r3,v1,v2,v3,v4,v5⟩:=gN (bf n (lgr n f i j m)) hi hj
      rw [bz _ hi hm] at q2
      rw [bz _ hm hj] at u2
      rw [bz _ hi hj,CL] at v2
      have s1:((aB 7 (vI (ak (fn cT) (aa (f2 gIx (f2 gIx (ae 1) (ae 2)) (ae 6)) (aa (f2 gIx (f2 gIx (ae 1) (ae 6)) (ae 5)) af)))))) [some (az T),some (ay (aE n f)),some (.int (i:Int)),o3,some (ay (aE n (lgr n f i j m))),some (.int (j:Int)),some (.int (m:Int)),o7]=some (.nx [some (az T),some (ay (aE n f)),some (.int (i:Int)),o3,some (ay (aE n (lgr n f i j m))),some (.int (j:Int)),some (.int (m:Int)),some (bdD (bs (f i m) (f m j)))]):=dD (bB (d:=bdD (bs (f i m) (f m j))) (by simp only [ae,f2,af,aa,ak,Zc,Zd,Ze,q1,q2,u1,u2,jr]) (iP _))
      have et:=jJ (a:=bs (f i m) (f m j)) (b:=sqf f i j (List.range m) (f i j))
      cases ht:tgt (bs (f i m) (f m j)) (sqf f i j (List.range m) (f i j)) with
      | false =>
       refine ⟨_,au s1 (bQ (by simp only [ae,f2,fT,asB,af,aa,ak,Zc,Zd,Ze,v1,v2,et,ht]) rfl),some (.int (m:Int)),some (bdD (bs (f i m) (f m j))),?_⟩
       rw [<- zh f ht]
      | true =>
       have p1:=qS (T:=aE n (lgr n f i j m)) (b:=bs (f i m) (f m j)) (δ:=[some (az T),some (ay (aE n f)),some (.int (i:Int)),o3,some (ay (aE n (lgr n f i j m))),some (.int (j:Int)),some (.int (m:Int)),some (bdD (bs (f i m) (f m j)))]) (p:=4) (fk:=ae 2) (fl:=ae 5) (fm:=bE 7) (bf n _) hi hj (kr rfl) rfl rfl rfl
       have te:bs (f i m) (f m j)=tg2 (sqf f i j (List.range m) (f i j)) (bs (f i m) (f m j)):=by
        unfold tg2
        rw [ht]
        rfl
       have t2:kA (aE n (lgr n f i j m)) i j (bs (f i m) (f m j))=aE n (lgr n f i j (m+1)):=by
        rw [jA _ _ hi hj]
        conv=>lhs;rw [te]
        exact Ei f hi hj
       rw [t2] at p1
       have cnd:(fT (ak (fn bo) (aa (ae 7) (aa (f2 gIx (f2 gIx (ae 4) (ae 2)) (ae 5)) af)))) [some (az T),some (ay (aE n f)),some (.int (i:Int)),o3,some (ay (aE n (lgr n f i j m))),some (.int (j:Int)),some (.int (m:Int)),some (bdD (bs (f i m) (f m j)))]=some true:=by simp only [ae,f2,fT,asB,af,aa,ak,Zc,Zd,Ze,v1,v2,et,ht]
       exact ⟨_,au s1 (dc cnd p1),some (.int (m:Int)),some (bdD (bs (f i m) (f m j))),rfl⟩) (List.range n) [] [some (az T),some (ay (aE n f)),some (.int (i:Int)),o3,some (ay (aE n (lgr n f i j 0))),some (.int (j:Int)),o6,o7] rfl ⟨_,_,rfl⟩
     rw [List.length_range] at this
     exact this
    have fj:∀ (i:Nat),i < n->∀ (o5 o6 o7:Option D),∃ δ',Dl.forM 5 ((dE (cB (aa (ak cH (aa (ae 1) af)) af)) 6 (aC (aB 7 (vI (ak (fn cT) (aa (f2 gIx (f2 gIx (ae 1) (ae 2)) (ae 6)) (aa (f2 gIx (f2 gIx (ae 1) (ae 6)) (ae 5)) af))))) (sIf (fT (ak (fn bo) (aa (ae 7) (aa (f2 gIx (f2 gIx (ae 4) (ae 2)) (ae 5)) af)))) (fM 4 (ae 2) (ae 5) (bE 7)) aW)))) ((List.range n).map fun (i:Nat)=>D.int (i:Int)) [some (az T),some (ay (aE n f)),some (.int (i:Int)),o3,some (ay (aE n (lgr n f i 0 0))),o5,o6,o7]=some (.nx δ')/\∃ o5 o6 o7,δ'=[some (az T),some (ay (aE n f)),some (.int (i:Int)),o3,some (ay (aE n (lgr n f i n 0))),o5,o6,o7]:=fun i hi o5 o6 o7=>by
     have:=cE (i:=5) (s:=((dE (cB (aa (ak cH (aa (ae 1) af)) af)) 6 (aC (aB 7 (vI (ak (fn cT) (aa (f2 gIx (f2 gIx (ae 1) (ae 2)) (ae 6)) (aa (f2 gIx (f2 gIx (ae 1) (ae 6)) (ae 5)) af))))) (sIf (fT (ak (fn bo) (aa (ae 7) (aa (f2 gIx (f2 gIx (ae 4) (ae 2)) (ae 5)) af)))) (fM 4 (ae 2) (ae 5) (bE 7)) aW))))) (f:=fun (i:Nat)=>D.int (i:Int)) (fun pre δ=>∃ o5 o6 o7,δ=[some (az T),some (ay (aE n f)),some (.int (i:Int)),o3,some (ay (aE n (lgr n f i pre.length 0))),o5,o6,o7]) (List.range n) (by
      rintro pre x post _ hx ⟨o5,o6,o7,rfl⟩
      obtain ⟨rfl,hj⟩:=bA hx
      rw [Zh,Zj]
      generalize pre.length=j at *
      obtain ⟨_,f1,o6',o7',rfl⟩:=fm i j hi hj o6 o7
      rw [Ej] at f1
      exact ⟨_,bW (hv f _ _ _ _ _ _) f1,_,_,_,rfl⟩) (List.range n) [] [some (az T),some (ay (aE n f)),some (.int (i:Int)),o3,some (ay (aE n (lgr n f i 0 0))),o5,o6,o7] rfl ⟨_,_,_,rfl⟩
     rw [List.length_range] at this
     exact this
    obtain ⟨_,fi,o2',o5',o6',o7',rfl⟩:=cE (i:=2) (s:=((dE (cB (aa (ak cH (aa (ae 1) af)) af)) 5 (dE (cB (aa (ak cH (aa (ae 1) af)) af)) 6 (aC (aB 7 (vI (ak (fn cT) (aa (f2 gIx (f2 gIx (ae 1) (ae 2)) (ae 6)) (aa (f2 gIx (f2 gIx (ae 1) (ae 6)) (ae 5)) af))))) (sIf (fT (ak (fn bo) (aa (ae 7) (aa (f2 gIx (f2 gIx (ae 4) (ae 2)) (ae 5)) af)))) (fM 4 (ae 2) (ae 5) (bE 7)) aW)))))) (f:=fun (i:Nat)=>D.int (i:Int)) (fun pre δ=>∃ o2 o5 o6 o7,δ=[some (az T),some (ay (aE n f)),o2,o3,some (ay (aE n (lgr n f pre.length 0 0))),o5,o6,o7]) (List.range n) (by
     rintro pre x post _ hx ⟨o2,o5,o6,o7,rfl⟩
     obtain ⟨rfl,hi⟩:=bA hx
     rw [Zh,Zj]
     generalize pre.length=i at *
     obtain ⟨_,f1,o5',o6',o7',rfl⟩:=fj i hi o5 o6 o7
     rw [Ek] at f1
     exact ⟨_,bW (hv f _ _ _ _ _ _) f1,_,_,_,_,rfl⟩) (List.range n) [] [some (az T),some (ay (aE n f)),o2,o3,some (ay (aE n (lgr n f 0 0 0))),o5,o6,o7] rfl ⟨_,_,_,_,rfl⟩
    rw [List.length_range,Eh] at fi
    rw [El] at fi
    exact ⟨_,au (be (sr (bf n f) hn rfl)) (au (bW (hv f _ _ _ _ _ _) fi) (be (iE rfl))),_,_,_,_,_,_,rfl⟩
   obtain ⟨_,w1,o2',o3',o4',o5',o6',o7',rfl⟩:=cE (i:=3) (s:=((aC (aB 4 (eX (fun δ=>((ae 1) δ).bind asL) [] (gS (aa (ae 0) af)))) (aC (dE (cB (aa (ak cH (aa (ae 1) af)) af)) 2 (dE (cB (aa (ak cH (aa (ae 1) af)) af)) 5 (dE (cB (aa (ak cH (aa (ae 1) af)) af)) 6 (aC (aB 7 (vI (ak (fn cT) (aa (f2 gIx (f2 gIx (ae 1) (ae 2)) (ae 6)) (aa (f2 gIx (f2 gIx (ae 1) (ae 6)) (ae 5)) af))))) (sIf (fT (ak (fn bo) (aa (ae 7) (aa (f2 gIx (f2 gIx (ae 4) (ae 2)) (ae 5)) af)))) (fM 4 (ae 2) (ae 5) (bE 7)) aW))))) (aB 1 (bE 4)))))) (f:=fun (i:Nat)=>D.int (i:Int)) (fun pre δ=>∃ o2 o3 o4 o5 o6 o7,δ=[some (az T),some (ay (aE n (sqs n (cl0 T) pre.length))),o2,o3,o4,o5,o6,o7]) (List.range 4) (by
    rintro pre x post _ hx ⟨o2,o3,o4,o5,o6,o7,rfl⟩
    rw [Zh,Zj]
    exact turn (sqs n (cl0 T) pre.length) o2 (some (sh (.int (x:Int)))) o4 o5 o6 o7) (List.range 4) [] [some (az T),some (ay (aE n (sqs n (cl0 T) 0))),o2,none,none,none,none,none] rfl ⟨_,_,_,_,_,_,rfl⟩
   rw [List.length_range] at w1
   have hv4:=fun (f:Nat->Nat->Bn) (o2 o3 o4 o5 o6 o7:Option D)=>eD (g:=aa (fC (.int 4)) af) (δ:=[some (az T),some (ay (aE n f)),o2,o3,o4,o5,o6,o7]) (n:=4) rfl (by decide)
   have hvT:=hv (ao T) none none none none none none
   rw [qI hs] at hvT
   refine d7 (au (be (nE hs hn rfl)) (au (bW hvT w0) (au (bW (hv4 _ _ _ _ _ _ _) w1) ?_)))
   have cmp:oG (me (aa (ak cH (aa (ae 1) af)) af)) [1] (f2 i8 (f2 gIx (f2 gIx (ae 1) (ae 0)) (ae 0)) (cV (aa (fC (.int 0)) (aa (fC (.bl false)) af)))) [some (az T),some (ay (aE n (sqs n (cl0 T) 4))),o2',o3',o4',o5',o6',o7']=some (.lst (((List.range n).map fun i=>decide (sqs n (cl0 T) 4 i i ≠ b0)).map D.bl)):=by
    rw [List.map_map]
    refine xC (f:=fun (i:Nat)=>D.int (i:Int)) (g:=fun i=>D.bl (decide (sqs n (cl0 T) 4 i i ≠ b0))) (vx (ds:=[.int (n:Int)]) (by simp only [ae,af,aa,ak,Zc,Zd,Ze,rH (bf n _)]) (by rw [wN (by omega) (by omega),kN])) (fun i hi=>?_) (by rw [List.length_range];omega)
    have hi:=Zo.mp hi
    obtain ⟨r1,q1,q2,_⟩:=gN (bf n (sqs n (cl0 T) 4)) hi hi
    rw [bz _ hi hi] at q2
    show f2 i8 _ _ [some (D.int (i:Int)),some (ay (aE n (sqs n (cl0 T) 4)))]=_
    have nb:=Ec (sqs n (cl0 T) 4 i i)
    simp only [ae,fC,f2,af,aa,cV,Zc,Zd,Ze,q1,q2,nb]
   have an:=zx ((List.range n).map fun i=>decide (sqs n (cl0 T) 4 i i ≠ b0))
   rw [List.any_map] at an
   unfold ox
   have ec:(id ∘ fun i=>decide (sqs n (cl0 T) 4 i i ≠ b0))=fun i=>decide (sqs n (cl0 T) 4 i i ≠ b0):=rfl
   rw [ec] at an
   cases hz:(List.range n).any fun i=>decide (sqs n (cl0 T) 4 i i ≠ b0) with
   | true =>
    rw [hz] at an
    rw [if_pos rfl]
    exact gT (dc (by simp only [fT,asB,af,aa,ak,Zc,cmp,an]) (bV (bB rfl)))
   | false =>
    rw [hz] at an
    rw [if_neg (by decide)]
    exact au (bQ (by simp only [fT,asB,af,aa,ak,Zc,cmp,an]) rfl) (bV (iE rfl))
theorem kD:aF ["_law_table","_law_point","_law_parts","_law_i","_law_j"] ["_law_table","_law_point"] (ap g6):=⟨rfl,rfl,rfl,by decide +kernel,rfl,by decide +kernel,by decide +kernel⟩
theorem rz (F:Fun K "_law_lies" "_law_lies" g6 f fd)  (hLkeeps:Has P w K mg base 1 "_law_keeps" ["_law_part_here","_law_bound"] (fn fL)) (hLless:Has P w K mg base 1 "_law_less" ["_law_one","_law_other"] (fn cy))  (m_range:mg "range" = none) (m_len:mg "len" = none):FnOk P w K mg base CX0 2 f fd ["_law_table","_law_point"] (cf K 2 (fn g9)):=by
 have sc:=kD
 refine cq F kD (fun cdv A outer s H E ds d hr hG hl=>?_)
 obtain ⟨d0,d1,T,ps,h1,h2,h3,h4,h5,h6,rfl,rfl⟩:=aV hG
 have hown:own (.bl (rG T ps))=true:=rfl
 refine ⟨_,(av (bj 2 sc.nd (mV (nX (ac (di (ac aj (ac aj ah))) ah)) (ad 1)))
  (av (dh 3 sc.nd PassesOwn.never rfl (ba rfl m_range (ac (aN aM cF rfl m_len PySem.boot_len (ac (ad 2) ah)) ah))
   (aG (dh 4 sc.nd PassesOwn.never rfl (ba rfl m_range (ac (aN aM cF rfl m_len PySem.boot_len (ac (ad 2) ah)) ah))
    (aG (dH (dU (bO (aw hLkeeps hr (ac (aw hLless hr (ac (ax (ad 2) (ad 3)) (ac (ax (ad 2) (ad 4)) ah))) (ac (ax (ax (ad 0) (ad 3)) (ad 4)) ah))))) (aG (br (aU eT))) cu)))))
  (aG (br (aU eT))))),?_,?own⟩
 case own=>first | rfl | exact hown
 . show aI ((?f:SD) (aK 5 _))=_
   have e0:aK 5 [d0,d1]=[some (az T),some (.seq (ps.map fr)),none,none,none]:=by
    show [some (sh d0),some (sh d1),none,none,none]=_
    rw [show sh d0=_ from h1,show sh d1=_ from h5]
   rw [e0]
   have len:cH [.lst ((db ps).map fr)]=some (.int ((ps.length+1:Nat):Int)):=by
    show some (D.int (((db ps).map fr).length:Int))=_
    rw [Zi]
    rfl
   have hv:=fun o3 o4:Option D=>eD (g:=aa (ak cH (aa (ae 2) af)) af) (δ:=[some (az T),some (.seq (ps.map fr)),some (.lst ((db ps).map fr)),o3,o4]) (n:=ps.length+1) (by simp only [ae,af,aa,ak,Zc,Zd,Ze,len]) (by omega)
   have inn:=fun (i:Nat) (hi:i < ps.length+1) (o:Option D)=>oE (i:=4) (s:=((sIf (bT (fT (ak (fn fL) (aa (ak (fn cy) (aa (f2 gIx (ae 2) (ae 3)) (aa (f2 gIx (ae 2) (ae 4)) af))) (aa (f2 gIx (f2 gIx (ae 0) (ae 3)) (ae 4)) af))))) (cD (vI (fC (.bl false)))) aW))) (f:=fun (i:Nat)=>D.int (i:Int)) (d:=.bl false) (fun δ=>∃ o,δ=[some (az T),some (.seq (ps.map fr)),some (.lst ((db ps).map fr)),some (.int (i:Int)),o]) (fun j=>kp (dif ps i j) (ao T i j)) (List.range (ps.length+1)) [some (az T),some (.seq (ps.map fr)),some (.lst ((db ps).map fr)),some (.int (i:Int)),o] ⟨_,rfl⟩ (by
    rintro j hj _ ⟨o,rfl⟩
    have hj:=Zo.mp hj
    obtain ⟨r,q1,q2⟩:=lM h2 hi hj
    have fi:=gd (by decide) h6 i
    have fj:=gd (by decide) h6 j
    have kk:fn fL [fr (dl (cI ps i) (cI ps j)),bdD (ao T i j)]=some (.bl (kp (dif ps i j) (ao T i j))):=by
     have:=rV (EF fi fj (by decide)) (h4 i j)
     rw [BO fi.pos fj.pos] at this
     exact this
    refine ⟨fun hb=>⟨_,By (b:=false) (by simp only [ae,f2,fT,asB,bT,af,aa,ak,Zc,Option.map_some,Zd,Ze,Zf,Zg,Bool.not_true,j3,(jH hi).1,(jH hj).1,q1,q2,e2 (op:=fun p q=>fr (dl p q)) (Fk.of fi) (Fk.of fj),kk,hb]) rfl,_,rfl⟩,fun hb=>?_⟩
    exact By (b:=true) (by simp only [ae,f2,fT,asB,bT,af,aa,ak,Zc,Option.map_some,Zd,Ze,Zf,Zg,Bool.not_false,j3,(jH hi).1,(jH hj).1,q1,q2,e2 (op:=fun p q=>fr (dl p q)) (Fk.of fi) (Fk.of fj),kk,hb]) (bV (bB rfl)))
   obtain ⟨k1,k2⟩:=oE (i:=3) (s:=((dE (cB (aa (ak cH (aa (ae 2) af)) af)) 4 (sIf (bT (fT (ak (fn fL) (aa (ak (fn cy) (aa (f2 gIx (ae 2) (ae 3)) (aa (f2 gIx (ae 2) (ae 4)) af))) (aa (f2 gIx (f2 gIx (ae 0) (ae 3)) (ae 4)) af))))) (cD (vI (fC (.bl false)))) aW)))) (f:=fun (i:Nat)=>D.int (i:Int)) (d:=.bl false) (fun δ=>∃ o p,δ=[some (az T),some (.seq (ps.map fr)),some (.lst ((db ps).map fr)),o,p]) (fun i=>(List.range (ps.length+1)).all fun j=>kp (dif ps i j) (ao T i j)) (List.range (ps.length+1)) [some (az T),some (.seq (ps.map fr)),some (.lst ((db ps).map fr)),none,none] ⟨_,_,rfl⟩ (by
    rintro i hi _ ⟨o,p,rfl⟩
    have hi:=Zo.mp hi
    obtain ⟨w1,w2⟩:=inn i hi p
    refine ⟨fun hb=>?_,fun hb=>bW (hv _ _) (w2 hb)⟩
    obtain ⟨_,f1,o',rfl⟩:=w1 hb
    exact ⟨_,bW (hv _ _) f1,_,_,rfl⟩)
   have cat:ii (ib (aa (cV (aa (fC (.int 0)) (aa (fC (.int 1)) af))) af)) (ae 1) [some (az T),some (.seq (ps.map fr)),none,none,none]=some (.lst ((db ps).map fr),[some (az T),some (.seq (ps.map fr)),none,none,none]):=qF (a:=.lst [fr (0,1)]) (xs:=[fr (0,1)]) (ys:=ps.map fr) rfl rfl rfl rfl (by rw [Zi];simp only [List.length_cons,List.length_nil];omega) (tY (db ps))
   have ea:rG T ps=(List.range (ps.length+1)).all fun i=>(List.range (ps.length+1)).all fun j=>kp (dif ps i j) (ao T i j):=rfl
   refine d7 (au (be cat) ?_)
   dsimp only [List.set_cons_zero,List.set_cons_succ]
   cases hq:rG T ps with
   | true =>
    obtain ⟨_,w,o,p,rfl⟩:=k1 (ea ▸ hq)
    exact au (bW (hv _ _) w) (bV (bB rfl))
   | false=>exact gT (bW (hv _ _) (k2 (ea ▸ hq)))
theorem iq:aF ["_law_found","_law_many","_law_part_here"] ["_law_found","_law_many"] (ap eJ):=⟨rfl,rfl,rfl,by decide +kernel,rfl,by decide +kernel,by decide +kernel⟩
theorem lH (F:Fun K "_law_is_point" "_law_is_point" eJ f fd)  (hLlowest:Has P w K mg base 1 "_law_lowest" ["_law_top","_law_bottom"] (fn ej)) (hLwhole:Has P w K mg base 1 "_law_whole" ["_law_found"] (fn iU))  (m_isinstance:mg "isinstance" = none) (m_list:mg "list" = none) (m_len:mg "len" = none) (m_tuple:mg "tuple" = none) (m_all:mg "all" = none):FnOk P w K mg base CX0 2 f fd ["_law_found","_law_many"] (cf K 2 (fn dB)):=by
 have sc:=iq
 refine cq F iq (fun cdv A outer s H E ds d hr hG hl=>?_)
 obtain ⟨d0,ps,h,g,rfl,rfl⟩:=aV hG
 have hown:own (.bl true)=true:=rfl
 refine ⟨_,(av (dH (PWD.pt (fR (dU (bO (aN iB (lP yX) rfl m_isinstance boot_isinstance (ac (ad 0) (ac (lY rfl m_list boot_list) ah))))) (eK (mW hr.units (aN aM cF rfl m_len PySem.boot_len (ac (ad 0) ah)) (ad 1))))) (aG (br (aU eT))) cu)
  (av (dh 2 sc.nd PassesOwn.never rfl (yD (sX 0))
   (av (dH (PWD.pt (fR (dU (bO (aN iB (lP yW) rfl m_isinstance boot_isinstance (ac (ad 2) (ac (lY rfl m_tuple boot_tuple) ah))))) (fR (mW hr.units (aN aM cF rfl m_len PySem.boot_len (ac (ad 2) ah)) aj) (eK (dU (bO (aN (zU rfl) Dc rfl m_all xN (ac (vQ (by exact (Ay (ad 2))) (N:=["_law_one"]) (js:=[]) (cl:=[]) (fun _ _ _ _ _=>by exact (aw hLwhole hr (ac (ad 0) ah))) (by exact CompOk.nil)) ah)))))))) (aG (br (aU eT))) cu)
   (aG (dH (PWD.pt (fR (lA (ax (ad 2) aj) aj) (eK (mW hr.units (aw hLlowest hr (ac (ax (ad 2) aj) (ac (ax (ad 2) aj) ah))) (ad 2))))) (aG (br (aU eT))) cu))))
  (aG (br (aU eT))))),?_,?own⟩
 case own=>first | rfl | exact hown
 . show aI ((?f:SD) (aK 3 _))=_
   have e0:aK 3 [d0,.int (ps.length:Int)]=[some (.seq (ps.map fr)),some (.int (ps.length:Int)),none]:=by
    show [some (sh d0),some (sh (.int (ps.length:Int))),none]=_
    rw [show sh d0=_ from h]
    rfl
   rw [e0]
   have shP:sh (.seq (ps.map fr))=.seq (ps.map fr):=by rw [sh,qO]
   have len:cH [.seq (ps.map fr)]=some (.int (ps.length:Int)):=by
    show some (D.int ((ps.map fr).length:Int))=_
    rw [Zi]
   have nn:i8 (.int (ps.length:Int)) (.int (ps.length:Int))=some (.bl false):=by
    show some (D.bl (!((ps.length:Int) == (ps.length:Int))))=_
    rw [beq_self_eq_true]
    rfl
   have il:BP (.seq (ps.map fr))=some true:=rfl
   obtain ⟨_,w,o,rfl⟩:=lN (i:=2) (s:=((aC (sIf (cO (bT (fT (ak (Ba "tuple" isTup) (aa (ae 2) (aa (fC (.ty "tuple")) af))))) (cO (fT (f2 i8 (ak cH (aa (ae 2) af)) (fC (.int 2)))) (bT (fT (ak Bb (aa (oG (fun δ=>((ae 2) δ).bind asT) [] (ak (fn iU) (aa (ae 0) af))) af)))))) (cD (vI (fC (.bl false)))) aW) (sIf (cO (fT (f2 gLt (f2 gIx (ae 2) (fC (.int 1))) (fC (.int 1)))) (fT (f2 i8 (ak (fn ej) (aa (f2 gIx (ae 2) (fC (.int 0))) (aa (f2 gIx (ae 2) (fC (.int 1))) af))) (ae 2)))) (cD (vI (fC (.bl false)))) aW)))) (fun δ=>∃ o,δ=[some (.seq (ps.map fr)),some (.int (ps.length:Int)),o]) (ps.map fr) [some (.seq (ps.map fr)),some (.int (ps.length:Int)),none] ⟨_,rfl⟩ (by
    rintro d hd _ ⟨o,rfl⟩
    obtain ⟨⟨a,b⟩,hp,rfl⟩:=Zn.mp hd
    have hf:=g _ hp
    have hb:0 < b:=hf.pos
    have lo:=ic (t:=a) (b:=b) hb (hf.s2.mono (by decide))
    have er:rd a b=(a,b):=sU hf.lw
    rw [er] at lo
    have q1:decide (b < 1)=false:=decide_eq_false (by omega)
    have l2:cH [.tup [.int a,.int b]]=some (.int 2):=rfl
    have n2:i8 (.int 2) (.int 2)=some (.bl false):=rfl
    have al:Bb [.lst [.bl true,.bl true]]=some (.bl true):=rfl
    have sf:sh (fr (a,b))=.tup [.int a,.int b]:=rfl
    have nf:i8 (.tup [.int a,.int b]) (.tup [.int a,.int b])=some (.bl false):=Eb (a,b)
    rw [sf]
    refine ⟨_,au (bQ ?_ rfl) (bQ ?_ rfl),_,rfl⟩
    . simp only [ae,fC,f2,fT,asB,bT,cO,af,aa,ak,qr,Dl.isTup,Zc,Option.map_some,List.map_nil,List.length_cons,List.length_nil,Zd,Ze,Zf,Zg,Bool.not_true,l2,n2,oG,bv,asT,lJ,fU (x:=.int a) (b:=true) rfl,fU (x:=.int b) (b:=true) rfl,Nat.reduceAdd,Nat.reduceLeDiff,if_true,al]
    . simp only [ae,fC,f2,fT,asB,cO,af,aa,ak,c4,d6,gI0,Zc,Zd,Ze,Zf,Zg,gLt,q1,lo,nf])
   exact d7 (au (bQ (by simp only [ae,fC,f2,fT,asB,bT,cO,af,aa,ak,qr,Zc,Option.map_some,Zd,Ze,Bool.not_true,il,len,nn]) rfl) (au (bW (Ad rfl shP shP) w) (bV (bB rfl))))
theorem lW:aF ["top","bottom"] ["top","bottom"] (ap eM):=⟨rfl,rfl,rfl,by decide +kernel,rfl,by decide +kernel,by decide +kernel⟩
theorem l0 {dV:Value} (F:FunD K "fraction" "fraction" eM f fd dV)  (hlowest:Has P w K mg base 2 "lowest" ["top","bottom"] (fn oZ)) (his_whole:Has P w K mg base 1 "is_whole" ["thing"] (fn iT))  :FnOk P w K mg base CX0 3 f fd ["top","bottom"] (bi K 2 (fn bu)):=by
 have sc:=lW
 refine yn F lW (fun cdv A outer s H E ds d hr hG hl=>?_)
 obtain ⟨t,b,hb,hB,rfl,rfl⟩:=aV hG
 refine ⟨_,(aL (df (PWD.pt (fR (dU (bO (aw his_whole hr (ac (ad 0) ah)))) (eK (dU (bO (aw his_whole hr (ac (ad 1) ah))))))) (aJ pU) cr)
  (aL (df (yr hr.units0 (ad 1) aj) (aJ pU) cr)
  (aL (df (lA (ad 1) aj) (aJ (aS (aw hlowest hr (ac (lE (ad 0)) (ac (lE (ad 1)) ah))))) cr)
  (aJ (aS (aw hlowest hr (ac (ad 0) (ac (ad 1) ah)))))))),?_⟩
 . show aI ((?f:SD) [some _,some _])=_
   have h0:(b == 0)=false:=by simp [hb]
   by_cases hn:b < 0
   . have h1:decide (b < 0)=true:=decide_eq_true hn
     simp only [aI,aW,cJ,aC,dJ,sIf,ae,fC,f2,f1,fT,asB,bT,cO,iA,af,aa,ak,gI0,dX,Zc,Option.map_some,Zd,Ze,Bool.not_true,fU (x:=.int t) rfl,fU (x:=.int b) rfl,h0,h1,ue (t:=-t) (b:=-b) (by omega) (Dg hB)]
     unfold low
     rw [if_pos hn]
   . have h1:decide (b < 0)=false:=decide_eq_false hn
     simp only [aI,aW,cJ,aC,dJ,sIf,ae,fC,f2,f1,fT,asB,bT,cO,iA,af,aa,ak,gI0,dX,Zc,Option.map_some,Zd,Ze,Bool.not_true,fU (x:=.int t) rfl,fU (x:=.int b) rfl,h0,h1,ue (t:=t) (b:=b) (by omega) hB]
     unfold low
     rw [if_neg hn]
theorem vB:aF ["one","other"] ["one","other"] (ap qQ):=⟨rfl,rfl,rfl,by decide +kernel,rfl,by decide +kernel,by decide +kernel⟩
theorem AM (F:Fun K "plus" "plus" qQ f fd)  (hsummed:Has P w K mg base 2 "summed" ["one","top","bottom"] (fn iC))  :FnOk P w K mg base CX0 3 f fd ["one","other"] (bi K 2 (fn vf)):=by
 have sc:=vB
 refine bK F vB (fun cdv A outer s H E ds d hr hG hl=>?_)
 obtain ⟨⟨a,b⟩,⟨c,e⟩,hp,hq,rfl,rfl⟩:=aV hG
 refine ⟨_,(aJ (aS (aw hsummed hr (ac (ad 0) (ac (ax (ad 1) aj) (ac (ax (ad 1) aj) ah)))))),?_⟩
 . show aI ((?f:SD) [some _,some _])=_
   have h:=ud hp hq
   have h':fn iC [.tup [.int a,.int b],.int c,.int e]=some (fr (pl (a,b) (c,e))):=by rw [D1 hp.lw hq.lw];exact h
   simp only [aI,dJ,ae,fC,f2,af,aa,ak,c4,d6,Zc,Zd,Ze,h']
theorem sD:aF ["one","other"] ["one","other"] (ap mQ):=⟨rfl,rfl,rfl,by decide +kernel,rfl,by decide +kernel,by decide +kernel⟩
theorem yT (F:Fun K "minus" "minus" mQ f fd)  (hsummed:Has P w K mg base 2 "summed" ["one","top","bottom"] (fn iC))  :FnOk P w K mg base CX0 3 f fd ["one","other"] (bi K 2 (fn ny)):=by
 have sc:=sD
 refine bK F sD (fun cdv A outer s H E ds d hr hG hl=>?_)
 obtain ⟨⟨a,b⟩,⟨c,e⟩,hp,hq,rfl,rfl⟩:=aV hG
 refine ⟨_,(aJ (aS (aw hsummed hr (ac (ad 0) (ac (lE (ax (ad 1) aj)) (ac (ax (ad 1) aj) ah)))))),?_⟩
 . show aI ((?f:SD) [some _,some _])=_
   have h:=ud hp hq.neg
   have h':fn iC [.tup [.int a,.int b],.int (-c),.int e]=some (fr (mi (a,b) (c,e))):=by rw [Ed hp.lw hq.lw];exact h
   simp only [aI,dJ,ae,fC,f2,f1,iA,af,aa,ak,c4,d6,Zc,Zd,Ze,h']
theorem io:aF ["_law_script","_law_head","_law_k","_law_point","_law_table","_law_cell","_law_i","_law_j"] ["_law_script"] (ap eI):=⟨rfl,rfl,rfl,by decide +kernel,rfl,by decide +kernel,by decide +kernel⟩
def cj (ds:List D) (d:D):Prop:=aI (((aC (aB 1 (vI (ak (fn aA) (aa (ae 0) (aa (fC (.int 0)) af))))) (aC (aB 2 (vI (f2 (gI (fun _ j=>0 < j) fun i j=>.int (i % j)) (f2 (gI aH fun i j=>.int (i / j)) (ae 1) (fC (.int 4))) (f2 gIx (ib (aa (fC (.int 5)) (aa (fC (.int 7)) af))) (ak uX (aa (f2 gGt (f2 (gI (fun _ j=>0 < j) fun i j=>.int (i % j)) (ae 1) (fC (.int 4))) (fC (.int 1))) af)))))) (aC (aB 3 (eX (me (aa (ae 2) af)) [0] (vI (ak (fn cw) (aa (ak (fn aA) (aa (ae 1) (aa (f2 bD (fC (.int 1)) (ae 0)) af))) af))))) (aC (sIf (fT (f2 gLt (f2 (gI (fun _ j=>0 < j) fun i j=>.int (i % j)) (ae 1) (fC (.int 4))) (fC (.int 2)))) (cD (kq (cZ (dL (fn bS) (aa (ak (fn aA) (aa (ae 0) (aa (fC (.int 1)) af))) (aa (ae 2) (aa (f2 gIx (ib (aa (fC (.int 3)) (aa (fC (.int 9)) (aa (f2 (gI mL fun i j=>.int (i ^ j.toNat)) (fC (.int 10)) (fC (.int 55))) af)))) (f2 (gI (fun _ j=>0 < j) fun i j=>.int (i % j)) (f2 (gI aH fun i j=>.int (i / j)) (ae 1) (fC (.int 20))) (fC (.int 3)))) af)))) (cZ (bE 3) ig)))) aW) (aC (aB 4 (dL (fn bM) (aa (ae 0) (aa (ae 3) af)))) (aC (sIf (fT (f2 eP (f2 (gI (fun _ j=>0 < j) fun i j=>.int (i % j)) (ae 1) (fC (.int 4))) (fC (.int 3)))) (aC (aB 5 (vI (ak (fn aA) (aa (ae 0) (aa (fC (.int 7)) af))))) (aC (aB 6 (vI (f2 (gI (fun _ j=>0 < j) fun i j=>.int (i % j)) (ae 5) (f2 bD (ae 2) (fC (.int 1)))))) (aC (aB 7 (vI (f2 (gI (fun _ j=>0 < j) fun i j=>.int (i % j)) (f2 (gI aH fun i j=>.int (i / j)) (ae 5) (f2 bD (ae 2) (fC (.int 1)))) (f2 bD (ae 2) (fC (.int 1)))))) (sIf (fT (f2 eV (f2 gIx (f2 gIx (ae 4) (ae 6)) (ae 7)) (fC .non))) (fM 4 (ae 6) (ae 7) (vI (cV (aa (f2 (gI0 fun i j=>.int (i - j)) (f2 (gI0 fun i j=>.int (i - j)) (f2 gIx (f2 gIx (f2 gIx (ae 4) (ae 6)) (ae 7)) (fC (.int 0))) (fC (.int 1))) (f2 (gI (fun _ j=>0 < j) fun i j=>.int (i % j)) (f2 (gI aH fun i j=>.int (i / j)) (ae 5) (fC (.int 50))) (fC (.int 4)))) (aa (f2 eP (f2 (gI (fun _ j=>0 < j) fun i j=>.int (i % j)) (f2 (gI aH fun i j=>.int (i / j)) (ae 5) (fC (.int 200))) (fC (.int 2))) (fC (.int 1))) af))))) aW)))) aW) (cD (kq (cZ (bE 4) (cZ (bE 3) ig))))))))))) (aK 8 ds))=some d/\own d=true
theorem ma (ns:List Int):∃ (T:List (List Bn)) (ps:List (Int×Int)),Sq T (ps.length+1)/\Bk5 T/\ps.length<=6/\(∀ p∈ps,Fr 200 p)/\fn cj [.seq (ns.map D.int)]=some (.tup [ay T,.lst (ps.map fr)]):=by
 have e0:aK 8 [.seq (ns.map D.int)]=[some (.seq (ns.map D.int)),none,none,none,none,none,none,none]:=by
  show [some (sh (.seq (ns.map D.int))),none,none,none,none,none,none,none]=_
  rw [sh,gf]
 have ca:=fun (k:Int) (h:0<=k)=>gP (ns:=ns) (k:=k) h
 have c0:=ca 0 (by decide)
 obtain ⟨h,hh⟩:∃ h,h=cell ns 0:=⟨_,rfl⟩
 rw [<- hh] at c0
 have d4:aH h 4:=⟨by decide,dz⟩
 have d20:aH h 20:=⟨by decide,dz⟩
 obtain ⟨n,hn6,hk⟩:∃ n:Nat,n<=6/\f2 (gI (fun _ j=>0 < j) fun i j=>.int (i % j)) (f2 (gI aH fun i j=>.int (i / j)) (ae 1) (fC (.int 4))) (f2 gIx (ib (aa (fC (.int 5)) (aa (fC (.int 7)) af))) (ak uX (aa (f2 gGt (f2 (gI (fun _ j=>0 < j) fun i j=>.int (i % j)) (ae 1) (fC (.int 4))) (fC (.int 1))) af))) [some (.seq (ns.map D.int)),some (.int h),none,none,none,none,none,none]=some (.int (n:Int)):=by
  by_cases q:1 < h % 4
  . have q1:decide (1 < h % 4)=true:=decide_eq_true q
    have ix:gIx (.lst [.int 5,.int 7]) (.int 1)=some (.int 7):=rfl
    refine ⟨(h / 4 % 7).toNat,by omega,?_⟩
    rw [show (((h / 4 % 7).toNat:Nat):Int)=h / 4 % 7 by omega]
    simp only [ae,fC,f2,af,aa,ib,ak,uX,gI0,Zc,Zd,Ze,gGt,aq (C:=fun _ j=>0 < j) (i:=h) (j:=4) (by decide),q1,if_true,aq (C:=aH) d4,ix,aq (C:=fun _ j=>0 < j) (i:=h / 4) (j:=7) (by decide)]
  . have q1:decide (1 < h % 4)=false:=decide_eq_false q
    have ix:gIx (.lst [.int 5,.int 7]) (.int 0)=some (.int 5):=rfl
    refine ⟨(h / 4 % 5).toNat,by omega,?_⟩
    rw [show (((h / 4 % 5).toNat:Nat):Int)=h / 4 % 5 by omega]
    simp only [ae,fC,f2,af,aa,ib,ak,uX,gI0,Zc,Zd,Ze,gGt,aq (C:=fun _ j=>0 < j) (i:=h) (j:=4) (by decide),q1,Bool.false_eq_true,if_false,aq (C:=aH) d4,ix,aq (C:=fun _ j=>0 < j) (i:=h / 4) (j:=5) (by decide)]
 obtain ⟨ps,hps⟩:∃ ps,ps=(List.range n).map fun (i:Nat)=>prt (cell ns (1+(i:Int))):=⟨_,rfl⟩
 have hpl:ps.length=n:=by rw [hps,Zi,List.length_range]
 have hpf:∀ p∈ps,Fr 200 p:=by
  rw [hps]
  intro p m
  obtain ⟨i,_,rfl⟩:=Zn.mp m
  exact yw _
 have hp2:∀ p∈ps,Sm 151 p.1/\Sm 14 p.2:=by
  rw [hps]
  intro p m
  obtain ⟨i,_,rfl⟩:=Zn.mp m
  exact yv _
 have hP:own (.lst (ps.map fr))=true:=by rw [own];exact gM _
 have hcomp:eX (me (aa (ae 2) af)) [0] (vI (ak (fn cw) (aa (ak (fn aA) (aa (ae 1) (aa (f2 bD (fC (.int 1)) (ae 0)) af))) af))) [some (.seq (ns.map D.int)),some (.int h),some (.int (n:Int)),none,none,none,none,none]=some (.lst (ps.map fr),[some (.seq (ns.map D.int)),some (.int h),some (.int (n:Int)),none,none,none,none,none]):=by
  rw [hps,List.map_map]
  refine gD (f:=fun (i:Nat)=>D.int (i:Int)) (vx rfl (BS (by omega))) (fun i hi=>?_) (by rw [List.length_range];omega)
  have es:shO (some (.int (i:Int)) :: bv [0] [some (.seq (ns.map D.int)),some (.int h),some (.int (n:Int)),none,none,none,none,none])=[some (.int (i:Int)),some (.seq (ns.map D.int))]:=by
   have z:sh (.seq (ns.map D.int))=.seq (ns.map D.int):=by rw [sh,gf]
   show [some (.int (i:Int)),some (sh (.seq (ns.map D.int)))]=_
   rw [z]
  rw [es]
  exact yJ (bB (by simp only [ae,fC,f2,af,aa,ak,cn,Zc,Zd,Ze,ca (1+(i:Int)) (by omega),l6];rfl)) rfl
 have oT:∀ T,own (.tup [ay T,.lst (ps.map fr)])=true:=fun T=>by
  rw [own]
  show (own (ay T) && (own (.lst (ps.map fr)) && true))=true
  rw [bP,hP]
  rfl
 have fin:∀ T,Sq T (ps.length+1)->Bk5 T->(((aC (aB 1 (vI (ak (fn aA) (aa (ae 0) (aa (fC (.int 0)) af))))) (aC (aB 2 (vI (f2 (gI (fun _ j=>0 < j) fun i j=>.int (i % j)) (f2 (gI aH fun i j=>.int (i / j)) (ae 1) (fC (.int 4))) (f2 gIx (ib (aa (fC (.int 5)) (aa (fC (.int 7)) af))) (ak uX (aa (f2 gGt (f2 (gI (fun _ j=>0 < j) fun i j=>.int (i % j)) (ae 1) (fC (.int 4))) (fC (.int 1))) af)))))) (aC (aB 3 (eX (me (aa (ae 2) af)) [0] (vI (ak (fn cw) (aa (ak (fn aA) (aa (ae 1) (aa (f2 bD (fC (.int 1)) (ae 0)) af))) af))))) (aC (sIf (fT (f2 gLt (f2 (gI (fun _ j=>0 < j) fun i j=>.int (i % j)) (ae 1) (fC (.int 4))) (fC (.int 2)))) (cD (kq (cZ (dL (fn bS) (aa (ak (fn aA) (aa (ae 0) (aa (fC (.int 1)) af))) (aa (ae 2) (aa (f2 gIx (ib (aa (fC (.int 3)) (aa (fC (.int 9)) (aa (f2 (gI mL fun i j=>.int (i ^ j.toNat)) (fC (.int 10)) (fC (.int 55))) af)))) (f2 (gI (fun _ j=>0 < j) fun i j=>.int (i % j)) (f2 (gI aH fun i j=>.int (i / j)) (ae 1) (fC (.int 20))) (fC (.int 3)))) af)))) (cZ (bE 3) ig)))) aW) (aC (aB 4 (dL (fn bM) (aa (ae 0) (aa (ae 3) af)))) (aC (sIf (fT (f2 eP (f2 (gI (fun _ j=>0 < j) fun i j=>.int (i % j)) (ae 1) (fC (.int 4))) (fC (.int 3)))) (aC (aB 5 (vI (ak (fn aA) (aa (ae 0) (aa (fC (.int 7)) af))))) (aC (aB 6 (vI (f2 (gI (fun _ j=>0 < j) fun i j=>.int (i % j)) (ae 5) (f2 bD (ae 2) (fC (.int 1)))))) (aC (aB 7 (vI (f2 (gI (fun _ j=>0 < j) fun i j=>.int (i % j)) (f2 (gI aH fun i j=>.int (i / j)) (ae 5) (f2 bD (ae 2) (fC (.int 1)))) (f2 bD (ae 2) (fC (.int 1)))))) (sIf (fT (f2 eV (f2 gIx (f2 gIx (ae 4) (ae 6)) (ae 7)) (fC .non))) (fM 4 (ae 6) (ae 7) (vI (cV (aa (f2 (gI0 fun i j=>.int (i - j)) (f2 (gI0 fun i j=>.int (i - j)) (f2 gIx (f2 gIx (f2 gIx (ae 4) (ae 6)) (ae 7)) (fC (.int 0))) (fC (.int 1))) (f2 (gI (fun _ j=>0 < j) fun i j=>.int (i % j)) (f2 (gI aH fun i j=>.int (i / j)) (ae 5) (fC (.int 50))) (fC (.int 4)))) (aa (f2 eP (f2 (gI (fun _ j=>0 < j) fun i j=>.int (i % j)) (f2 (gI aH fun i j=>.int (i / j)) (ae 5) (fC (.int 200))) (fC (.int 2))) (fC (.int 1))) af))))) aW)))) aW) (cD (kq (cZ (bE 4) (cZ (bE 3) ig)))))))))))) [some (.seq (ns.map D.int)),none,none,none,none,none,none,none]=some (.rt (.tup [ay T,.lst (ps.map fr)]))->∃ (T:List (List Bn)) (ps:List (Int×Int)),Sq T (ps.length+1)/\Bk5 T/\ps.length<=6/\(∀ p∈ps,Fr 200 p)/\fn cj [.seq (ns.map D.int)]=some (.tup [ay T,.lst (ps.map fr)]):=fun T hs hB e=>by
  have key:cj [.seq (ns.map D.int)] (.tup [ay T,.lst (ps.map fr)]):=⟨by rw [e0];exact d7 e,oT T⟩
  exact ⟨T,ps,hs,hB,by omega,hpf,cg (fun d' h'=>Option.some.inj (h'.1.symm.trans key.1)) key⟩
 by_cases q2:h % 4 < 2
 . have q1:decide (h % 4 < 2)=true:=decide_eq_true q2
   obtain ⟨most,hm0,hm1,hmo⟩:∃ most:Int,0<=most/\most<=10 ^ 55/\f2 gIx (ib (aa (fC (.int 3)) (aa (fC (.int 9)) (aa (f2 (gI mL fun i j=>.int (i ^ j.toNat)) (fC (.int 10)) (fC (.int 55))) af)))) (f2 (gI (fun _ j=>0 < j) fun i j=>.int (i % j)) (f2 (gI aH fun i j=>.int (i / j)) (ae 1) (fC (.int 20))) (fC (.int 3))) [some (.seq (ns.map D.int)),some (.int h),some (.int (n:Int)),some (.lst (ps.map fr)),none,none,none,none]=some (.int most):=by
    have bp:mL 10 55:=⟨by decide,by decide,by decide⟩
    have e55:(55:Int).toNat=55:=rfl
    have w3:h / 20 % 3=0 \/ h / 20 % 3=1 \/ h / 20 % 3=2:=by omega
    obtain ⟨most,hm0,hm1,hmo⟩:∃ most:Int,0<=most/\most<=10 ^ 55/\gIx (.lst [.int 3,.int 9,.int (10 ^ 55)]) (.int (h / 20 % 3))=some (.int most):=by
     rcases w3 with q | q | q
     . exact ⟨3,by decide,by decide,by rw [q];rfl⟩
     . exact ⟨9,by decide,by decide,by rw [q];rfl⟩
     . exact ⟨10 ^ 55,by decide,by decide,by rw [q];rfl⟩
    exact ⟨most,hm0,hm1,by simp only [ae,fC,f2,af,aa,ib,Zc,Zd,Ze,aq (C:=mL) bp,e55,aq (C:=aH) d20,aq (C:=fun _ j=>0 < j) (i:=h / 20) (j:=3) (by decide),hmo]⟩
   obtain ⟨T,hG,hT⟩:=lq (seed:=cell ns 1) (k:=(n:Int)) (most:=most) (by omega) (by omega) hm0 hm1
   have en:((n:Int)).toNat+1=ps.length+1:=by omega
   rw [en] at hG
   refine fin T hG.sq (fun i j=>(hG.cell i j).mono (by decide)) ?_
   refine au (be (bB (d:=.int h) (by simp only [ae,fC,af,aa,ak,Zc,Zd,c0]))) (au (be (bB hk)) (au (be hcomp) (gT (dc ?_ (bV (δ':=[some (.seq (ns.map D.int)),some (.int h),some (.int (n:Int)),none,none,none,none,none]) ?_)))))
   . simp only [Zf,Zg,ae,fC,f2,fT,asB,gI0,Zc,Zd,Ze,Zf,Zg,gLt,aq (C:=fun _ j=>0 < j) (i:=h) (j:=4) (by decide),q1]
   . have v1:dL (fn bS) (aa (ak (fn aA) (aa (ae 0) (aa (fC (.int 1)) af))) (aa (ae 2) (aa (f2 gIx (ib (aa (fC (.int 3)) (aa (fC (.int 9)) (aa (f2 (gI mL fun i j=>.int (i ^ j.toNat)) (fC (.int 10)) (fC (.int 55))) af)))) (f2 (gI (fun _ j=>0 < j) fun i j=>.int (i % j)) (f2 (gI aH fun i j=>.int (i / j)) (ae 1) (fC (.int 20))) (fC (.int 3)))) af))) [some (.seq (ns.map D.int)),some (.int h),some (.int (n:Int)),some (.lst (ps.map fr)),none,none,none,none]=some (ay T,[some (.seq (ns.map D.int)),some (.int h),some (.int (n:Int)),some (.lst (ps.map fr)),none,none,none,none]):=dZ (ds:=[.int (cell ns 1),.int (n:Int),.int most]) (fa3 (by simp only [ae,fC,af,aa,ak,Zc,Zd,ca 1 (by decide)]) rfl hmo) hT (bP T)
     exact qE v1 (iE rfl)
 . have q1:decide (h % 4 < 2)=false:=decide_eq_false q2
   obtain ⟨T,hG,_,hT⟩:=ja (ns:=ns) (m9 ps) hpf hp2 (by omega)
   obtain ⟨T',o5,o6,o7,hs',hB',hst⟩:∃ (T':List (List Bn)) (o5 o6 o7:Option D),Sq T' (ps.length+1)/\Bk5 T'/\((sIf (fT (f2 eP (f2 (gI (fun _ j=>0 < j) fun i j=>.int (i % j)) (ae 1) (fC (.int 4))) (fC (.int 3)))) (aC (aB 5 (vI (ak (fn aA) (aa (ae 0) (aa (fC (.int 7)) af))))) (aC (aB 6 (vI (f2 (gI (fun _ j=>0 < j) fun i j=>.int (i % j)) (ae 5) (f2 bD (ae 2) (fC (.int 1)))))) (aC (aB 7 (vI (f2 (gI (fun _ j=>0 < j) fun i j=>.int (i % j)) (f2 (gI aH fun i j=>.int (i / j)) (ae 5) (f2 bD (ae 2) (fC (.int 1)))) (f2 bD (ae 2) (fC (.int 1)))))) (sIf (fT (f2 eV (f2 gIx (f2 gIx (ae 4) (ae 6)) (ae 7)) (fC .non))) (fM 4 (ae 6) (ae 7) (vI (cV (aa (f2 (gI0 fun i j=>.int (i - j)) (f2 (gI0 fun i j=>.int (i - j)) (f2 gIx (f2 gIx (f2 gIx (ae 4) (ae 6)) (ae 7)) (fC (.int 0))) (fC (.int 1))) (f2 (gI (fun _ j=>0 < j) fun i j=>.int (i % j)) (f2 (gI aH fun i j=>.int (i / j)) (ae 5) (fC (.int 50))) (fC (.int 4)))) (aa (f2 eP (f2 (gI (fun _ j=>0 < j) fun i j=>.int (i % j)) (f2 (gI aH fun i j=>.int (i / j)) (ae 5) (fC (.int 200))) (fC (.int 2))) (fC (.int 1))) af))))) aW)))) aW)) [some (.seq (ns.map D.int)),some (.int h),some (.int (n:Int)),some (.lst (ps.map fr)),some (ay T),none,none,none]=some (.nx [some (.seq (ns.map D.int)),some (.int h),some (.int (n:Int)),some (.lst (ps.map fr)),some (ay T'),o5,o6,o7]):=by
    by_cases q3:h % 4=3
    . have q4:(h % 4 == 3)=true:=by simp [q3]
      obtain ⟨c,hc⟩:∃ c,c=cell ns 7:=⟨_,rfl⟩
      have c7:=ca 7 (by decide)
      rw [<- hc] at c7
      have hkp:0 < (n:Int)+1:=by omega
      have dk:aH c ((n:Int)+1):=⟨hkp,dz (by omega)⟩
      have d50:aH c 50:=⟨by decide,dz⟩
      have d200:aH c 200:=⟨by decide,dz⟩
      have r0:=Int.emod_nonneg c (show (n:Int)+1 ≠ 0 by omega)
      have r1:=Int.emod_lt_of_pos c hkp
      have r2:=Int.emod_nonneg (c / ((n:Int)+1)) (show (n:Int)+1 ≠ 0 by omega)
      have r3:=Int.emod_lt_of_pos (c / ((n:Int)+1)) hkp
      obtain ⟨I,hI,hI'⟩:∃ I:Nat,c % ((n:Int)+1)=(I:Int)/\I < ps.length+1:=⟨(c % ((n:Int)+1)).toNat,by omega,by omega⟩
      obtain ⟨J,hJ,hJ'⟩:∃ J:Nat,c / ((n:Int)+1) % ((n:Int)+1)=(J:Int)/\J < ps.length+1:=⟨(c / ((n:Int)+1) % ((n:Int)+1)).toNat,by omega,by omega⟩
      obtain ⟨rw',x1,x2,_,_,_⟩:=gN hG.sq hI' hJ'
      have hcell:=hG.cell I J
      rcases hcx:ao T I J with _ | ⟨m,s⟩
      . rw [hcx] at x2
        refine ⟨T,some (.int c),some (.int (I:Int)),some (.int (J:Int)),hG.sq,fun i j=>(hG.cell i j).mono (by decide),?_⟩
        exact dc (by simp only [ae,fC,f2,fT,asB,Zc,Zd,Ze,dP,aq (C:=fun _ j=>0 < j) (i:=h) (j:=4) (by decide),q4]) (au (be (bB (d:=.int c) (by simp only [ae,fC,af,aa,ak,Zc,Zd,c7]))) (au (be (bB (d:=.int (I:Int)) (by simp only [ae,fC,f2,cn,Zc,Zd,Ze,Zf,Zg,aq (C:=fun _ j=>0 < j) (i:=c) hkp,hI]))) (au (be (bB (d:=.int (J:Int)) (by simp only [ae,fC,f2,cn,Zc,Zd,Ze,Zf,Zg,aq (C:=aH) dk,aq (C:=fun _ j=>0 < j) (i:=c / ((n:Int)+1)) hkp,hJ]))) (bQ (by simp only [ae,fC,f2,fT,asB,Zc,Zd,Ze,Zf,Zg,Bool.not_true,zW,bn,eV,x1,x2]) rfl))))
      . rw [hcx] at x2 hcell
        refine ⟨kA T I J (some (m - 1 - c / 50 % 4,c / 200 % 2 == 1)),some (.int c),some (.int (I:Int)),some (.int (J:Int)),vA hG.sq hI',fun i j=>?_,?_⟩
        . rw [xJ hG.sq hI' hJ']
          split
          . exact Sm.mono (k:=192) (((show Sm 190 m from hcell).sub (y:=1) (Sm.mono (k:=10) (Sm.of (by omega) (by omega)) (by decide))).sub (y:=c / 50 % 4) (Sm.mono (k:=10) (Sm.of (by omega) (by omega)) (by decide))) (by decide)
          . exact (hG.cell i j).mono (by decide)
        . exact dc (by simp only [ae,fC,f2,fT,asB,Zc,Zd,Ze,dP,aq (C:=fun _ j=>0 < j) (i:=h) (j:=4) (by decide),q4]) (au (be (bB (d:=.int c) (by simp only [ae,fC,af,aa,ak,Zc,Zd,c7]))) (au (be (bB (d:=.int (I:Int)) (by simp only [ae,fC,f2,cn,Zc,Zd,Ze,Zf,Zg,aq (C:=fun _ j=>0 < j) (i:=c) hkp,hI]))) (au (be (bB (d:=.int (J:Int)) (by simp only [ae,fC,f2,cn,Zc,Zd,Ze,Zf,Zg,aq (C:=aH) dk,aq (C:=fun _ j=>0 < j) (i:=c / ((n:Int)+1)) hkp,hJ]))) (dc (by simp only [ae,fC,f2,fT,asB,Zc,Zd,Ze,Zf,Zg,Bool.not_false,cG,bn,eV,x1,x2]) (Ai hG.sq hI' hJ' rfl rfl rfl (bB (by simp only [ae,fC,f2,af,aa,cV,c4,gI0,Zc,Zd,Ze,Zf,Zg,cG,dP,x1,x2,aq (C:=aH) d50,aq (C:=fun _ j=>0 < j) (i:=c / 50) (j:=4) (by decide),aq (C:=aH) d200,aq (C:=fun _ j=>0 < j) (i:=c / 200) (j:=2) (by decide)]) (iP _)))))))
    . have q4:(h % 4 == 3)=false:=by simp [q3]
      exact ⟨T,none,none,none,hG.sq,fun i j=>(hG.cell i j).mono (by decide),bQ (by simp only [ae,fC,f2,fT,asB,Zc,Zd,Ze,dP,aq (C:=fun _ j=>0 < j) (i:=h) (j:=4) (by decide),q4]) rfl⟩
   refine fin T' hs' hB' ?_
   exact au (be (bB (d:=.int h) (by simp only [ae,fC,af,aa,ak,Zc,Zd,c0]))) (au (be (bB hk)) (au (be hcomp) (au (bQ (by simp only [Zf,Zg,ae,fC,f2,fT,asB,gI0,Zc,Zd,Ze,Zf,Zg,gLt,aq (C:=fun _ j=>0 < j) (i:=h) (j:=4) (by decide),q1]) rfl) (au (be (dZ (ds:=[.seq (ns.map D.int),.lst (ps.map fr)]) rfl hT (bP T))) (au hst (bV (qE (iE rfl) (iE rfl))))))))
theorem lG (F:Fun K "_law_table_by" "_law_table_by" eI f fd)  (hLcell_at:Has P w K mg base 1 "_law_cell_at" ["_law_script","_law_k"] (fn aA)) (hLplanted:HasF P w K mg base 2 "_law_planted" ["_law_script","_law_point"] (fn bM)) (hLpart:Has P w K mg base 2 "_law_part" ["_law_cell"] (fn cw)) (hLany_table:HasF P w K mg base 2 "_law_any_table" ["_law_seed","_law_k","_law_most"] (fn bS))  (m_int:mg "int" = none) (m_range:mg "range" = none):FnOk P w K mg base CX0 3 f fd ["_law_script"] (cf K 1 (fn cj)):=by
 have sc:=io
 refine cq F io (fun cdv A outer s H E ds d hr hG hl=>?_)
 have hb:=aV hG
 have hown:=hb.2
 refine ⟨_,(av (bj 1 sc.nd (aU (aw hLcell_at hr (ac (ad 0) (ac aj ah)))))
  (av (bj 2 sc.nd (aU (bR (bw (ad 1) aj) (ax (nX (ac aj (ac aj ah))) (xi xK Da rfl m_int boot_int (ac (BG (bR (ad 1) aj) aj) ah))))))
  (av (mZ 3 sc.nd (by exact (iL rfl m_range (ac (ad 2) ah))) (N:=["_law_t","_law_script"]) (js:=[0]) (cl:=[("_law_script",_)]) (fun _ _ _ _ _=>by exact (aU (aw hLpart hr (ac (aw hLcell_at hr (ac (ad 1) (ac (bX aj (ad 0)) ah))) ah)))) (by exact CompOk.one))
  (av (dH (lA (bR (ad 1) aj) aj) (aG (br (j6 (cm (dG hLany_table hr (ac (aw hLcell_at hr (ac (ad 0) (ac aj ah))) (ac (ad 2) (ac (ax (nX (ac aj (ac aj (ac (uL aj aj) ah)))) (bR (bw (ad 1) aj) aj)) ah)))) (cm (cb 3) dF))))) cu)
  (av (bj 4 sc.nd (dG hLplanted hr (ac (ad 0) (ac (ad 3) ah))))
  (av (dH (kP hr.units (bR (ad 1) aj) aj) (av (bj 5 sc.nd (aU (aw hLcell_at hr (ac (ad 0) (ac aj ah)))))
   (av (bj 6 sc.nd (aU (bR (ad 5) (bX (ad 2) aj))))
   (av (bj 7 sc.nd (aU (bR (bw (ad 5) (bX (ad 2) aj)) (bX (ad 2) aj))))
   (aG (dH (jg (ax (ax (ad 4) (ad 6)) (ad 7)) bC) (aG (mY 4 (aU (di (ac (jh (jh (ax (ax (ax (ad 4) (ad 6)) (ad 7)) aj) aj) (bR (bw (ad 5) aj) aj)) (ac (uM hr.units (bR (bw (ad 5) aj) aj) aj) ah)))) (lB (jU ix_list (pvi 4) (ad 6) (fun _ _=>rfl)) (ad 7) ij))) cu))))) cu)
  (aG (br (j6 (cm (cb 4) (cm (cb 3) dF))))))))))),?_,?own⟩
 case own=>first | rfl | exact hown
 . show aI ((?f:SD) (aK 8 _))=_
   exact hb.1
theorem sG:aF ["part","bound","limit"] ["part","bound"] (ap mS):=⟨rfl,rfl,rfl,by decide +kernel,rfl,by decide +kernel,by decide +kernel⟩
theorem yV (F:Fun K "keeps" "keeps" mS f fd)  (hfractionD:sd P w K mg base 3 "fraction" ["top","bottom"] [1] (fn bu)) (hless:Has P w K mg base 1 "less" ["one","other"] (fn gr))  :FnOk P w K mg base CX0 4 f fd ["part","bound"] (bi K 2 (fn iS)):=by
 have sc:=sG
 refine bK F sG (fun cdv A outer s H E ds d hr hG hl=>?_)
 obtain ⟨⟨a,b⟩,c,hp,hc,rfl,rfl⟩:=aV hG
 refine ⟨_,(aL (df (de (ad 1) bC) (aJ (aS eT)) cr)
  (aL (bU 2 sc.nd (d9 hfractionD hr (ac (ax (ad 1) aj) ah)))
  (aL (df (bO (ax (ad 1) aj)) (aJ (aS (aw hless hr (ac (ad 0) (ac (ad 2) ah))))) cr)
  (aJ (aS (ji (aw hless hr (ac (ad 2) (ac (ad 0) ah))))))))),?_⟩
 . show aI ((?f:SD) [some _,some _,none])=_
   rcases c with _ | ⟨n,s⟩
   . rfl
   . have hk:Fk (n,1):=⟨show (0:Int) < 1 by decide,hc,show (1:Int).natAbs < 2 ^ 4000 from Nat.lt_of_lt_of_le (show 1 < 2 ^ 1 by decide) (Nat.pow_le_pow_right (by decide) (by decide))⟩
     have l1:fn gr [fr (a,b),.tup [.int n,.int 1]]=some (.bl (decide (a*1 < n*b))):=e2 (op:=fun p q=>.bl (decide (p.1*q.2 < q.1*p.2))) hp hk
     have l2:fn gr [.tup [.int n,.int 1],fr (a,b)]=some (.bl (decide (n*b < a*1))):=e2 (op:=fun p q=>.bl (decide (p.1*q.2 < q.1*p.2))) hk hp
     cases s
     . simp only [aI,aW,cJ,aC,dJ,fQ,sIf,ae,fC,f2,f1,fT,asB,oD,af,aa,ak,c4,d6,Zc,Zd,Ze,Zf,Zg,cG,du,bn,bG,l1,l2]
       rfl
     . simp only [aI,aW,cJ,aC,dJ,fQ,sIf,ae,fC,f2,fT,asB,af,aa,ak,c4,d6,Zc,Zd,Ze,Zf,Zg,cG,du,bn,bG,l1]
       rfl
theorem nP:aF ["low","high"] ["low","high"] (ap jC):=⟨rfl,rfl,rfl,by decide +kernel,rfl,by decide +kernel,by decide +kernel⟩
theorem uO (F:Fun K "between" "between" jC f fd)  (htimes:Has P w K mg base 2 "times" ["one","other"] (fn wR)) (hfraction:Has P w K mg base 3 "fraction" ["top","bottom"] (fn bu)) (hfractionD:sd P w K mg base 3 "fraction" ["top","bottom"] [1] (fn bu)) (hminus:Has P w K mg base 3 "minus" ["one","other"] (fn ny)) (hplus:Has P w K mg base 3 "plus" ["one","other"] (fn vf))  :FnOk P w K mg base CX0 4 f fd ["low","high"] (bi K 2 (fn lR)):=by
 have sc:=nP
 refine bK F nP (fun cdv A outer s H E ds d hr hG hl=>?_)
 obtain ⟨lo,hi,h1,h2,rfl,rfl⟩:=aV hG
 refine ⟨_,(aL (df (PWD.pt (mT (de (ad 0) bC) (kO (de (ad 1) bC)))) (aJ (aS (d9 hfractionD hr (ac aj ah)))) cr)
  (aL (df (de (ad 0) bC) (aJ (aS (aw hminus hr (ac (ad 1) (ac (d9 hfractionD hr (ac aj ah)) ah))))) cr)
  (aL (df (de (ad 1) bC) (aJ (aS (aw hplus hr (ac (ad 0) (ac (d9 hfractionD hr (ac aj ah)) ah))))) cr)
  (aJ (aS (aw htimes hr (ac (aw hplus hr (ac (ad 0) (ac (ad 1) ah))) (ac (aw hfraction hr (ac aj (ac aj ah))) ah)))))))),?_⟩
 . show aI ((?f:SD) [some _,some _])=_
   have o1:Flw ((1,1):Int×Int):=⟨⟨by decide,(by show (1:Int).natAbs < 2 ^ 4000;exact Nat.one_lt_two_pow (by decide)),(by show (1:Int).natAbs < 2 ^ 4000;exact Nat.one_lt_two_pow (by decide))⟩,⟨by decide,by decide⟩⟩
   have o2:Flw ((1,2):Int×Int):=⟨⟨by decide,o1.s1,Nat.lt_of_lt_of_le (show (2:Int).natAbs < 2 ^ 2 by decide) (Nat.pow_le_pow_right (by decide) (by decide))⟩,⟨by decide,by decide⟩⟩
   cases lo with
   | none=>cases hi with
    | none=>simp only [aI,aW,cJ,aC,dJ,sIf,ae,fC,f2,fT,asB,dY,af,aa,ak,Zc,Zd,Ze,du,bn,opD,du,bn,bG];rfl
    | some h=>simp only [aI,aW,cJ,aC,dJ,sIf,ae,fC,f2,fT,asB,dY,af,aa,ak,Zc,Zd,Ze,du,bn,opD,du,bn,bG,e2w (op:=fun p q=>fr (mi p q)) (Flw.of (h2 h rfl)) o1];rfl
   | some l=>cases hi with
    | none=>simp only [aI,aW,cJ,aC,dJ,sIf,ae,fC,f2,fT,asB,dY,af,aa,ak,Zc,Zd,Ze,du,bn,opD,du,bn,bG,e2w (op:=fun p q=>fr (pl p q)) (Flw.of (h1 l rfl)) o1];rfl
    | some h =>
     have e1:=e2w (op:=fun p q=>fr (pl p q)) (Flw.of (h1 l rfl)) (Flw.of (h2 h rfl))
     have e3:=e2w (op:=fun p q=>fr (ti p q)) (Flw.of ((h1 l rfl).pl (h2 h rfl))) o2
     have e4:fn bu [.int 1,.int 2]=some (fr (1,2)):=oN (t:=1) (b:=2) (by decide) dz
     simp only [aI,aW,cJ,aC,dJ,sIf,ae,fC,f2,fT,asB,dY,af,aa,ak,Zc,Zd,Ze,du,bn,opD,du,bn,e1,e3,e4];rfl
theorem jS:aF ["_law_script","_law_table","_law_point"] ["_law_script"] (ap gA):=⟨rfl,rfl,rfl,by decide +kernel,rfl,by decide +kernel,by decide +kernel⟩
def cQ (ds:List D) (d:D):Prop:=aI (((aC (sIf (fT (f2 eP (f2 (gI (fun _ j=>0 < j) fun i j=>.int (i % j)) (ak (fn aA) (aa (ae 0) (aa (fC (.int 0)) af))) (fC (.int 32))) (fC (.int 6)))) (aC (aB 2 (eX (me (aa (fC (.int 40)) af)) [0] (vI (ak (fn cw) (aa (f2 bD (ak (fn aA) (aa (ae 1) (aa (f2 bD (fC (.int 1)) (ae 0)) af))) (f2 (gI aR fun i j=>.int (i*j)) (fC (.int 48)) (ae 0))) af))))) (cD (kq (cZ (dL (fn bM) (aa (ae 0) (aa (ae 2) af))) (cZ (vI (fC (.bl true))) ig))))) aW) (aC (aB 1 (wU 0 (dL (fn cj) (aa (ae 0) af)))) (cD (kq (cZ (j2 1) (cZ (vI (f2 eV (ak (fn eu) (aa (ae 1) af)) (fC .non))) ig))))))) (aK 3 ds))=some d
theorem qJ (ns:List Int):∃ (T:List (List Bn)) (m:Nat) (b:Bool) (d:D),Sq T (m+1)/\Bk5 T/\m<=40/\Due (m+1) T b/\sh d=.tup [az T,.bl b]/\fn cQ [.seq (ns.map D.int)]=some d:=by
 have e0:aK 3 [.seq (ns.map D.int)]=[some (.seq (ns.map D.int)),none,none]:=by
  show [some (sh (.seq (ns.map D.int))),none,none]=_
  rw [sh,gf]
 have fin:∀ d,(((aC (sIf (fT (f2 eP (f2 (gI (fun _ j=>0 < j) fun i j=>.int (i % j)) (ak (fn aA) (aa (ae 0) (aa (fC (.int 0)) af))) (fC (.int 32))) (fC (.int 6)))) (aC (aB 2 (eX (me (aa (fC (.int 40)) af)) [0] (vI (ak (fn cw) (aa (f2 bD (ak (fn aA) (aa (ae 1) (aa (f2 bD (fC (.int 1)) (ae 0)) af))) (f2 (gI aR fun i j=>.int (i*j)) (fC (.int 48)) (ae 0))) af))))) (cD (kq (cZ (dL (fn bM) (aa (ae 0) (aa (ae 2) af))) (cZ (vI (fC (.bl true))) ig))))) aW) (aC (aB 1 (wU 0 (dL (fn cj) (aa (ae 0) af)))) (cD (kq (cZ (j2 1) (cZ (vI (f2 eV (ak (fn eu) (aa (ae 1) af)) (fC .non))) ig)))))))) [some (.seq (ns.map D.int)),none,none]=some (.rt d)->fn cQ [.seq (ns.map D.int)]=some d:=fun d h=>by
  have key:cQ [.seq (ns.map D.int)] d:=by
   unfold cQ
   rw [e0]
   exact d7 h
  exact cg (fun d' h'=>Option.some.inj (h'.symm.trans key)) key
 have ca:=fun (k:Int) (h:0<=k)=>gP (ns:=ns) (k:=k) h
 have c0:=ca 0 (by decide)
 by_cases q:cell ns 0 % 32=6
 . have q1:(cell ns 0 % 32 == 6)=true:=by simp [q]
   obtain ⟨ps,hps⟩:∃ ps,ps=(List.range 40).map fun (i:Nat)=>prt (cell ns (1+(i:Int))+48*(i:Int)):=⟨_,rfl⟩
   have hpl:ps.length=40:=by rw [hps,Zi,List.length_range]
   have hpf:∀ p∈ps,Fr 200 p:=by
    rw [hps]
    intro p m
    obtain ⟨i,_,rfl⟩:=Zn.mp m
    exact yw _
   have hcomp:eX (me (aa (fC (.int 40)) af)) [0] (vI (ak (fn cw) (aa (f2 bD (ak (fn aA) (aa (ae 1) (aa (f2 bD (fC (.int 1)) (ae 0)) af))) (f2 (gI aR fun i j=>.int (i*j)) (fC (.int 48)) (ae 0))) af))) [some (.seq (ns.map D.int)),none,none]=some (.lst (ps.map fr),[some (.seq (ns.map D.int)),none,none]):=by
    rw [hps,List.map_map]
    refine gD (f:=fun (i:Nat)=>D.int (i:Int)) (vx rfl (BS (n:=40) (by decide))) (fun i hi=>?_) (by rw [List.length_range];omega)
    have es:shO (some (.int (i:Int)) :: bv [0] [some (.seq (ns.map D.int)),none,none])=[some (.int (i:Int)),some (.seq (ns.map D.int))]:=by
     show [some (sh (.int (i:Int))),some (sh (.seq (ns.map D.int)))]=_
     rw [j3,sh,gf]
    rw [es]
    have hi':=Zo.mp hi
    have m48:aR 48 (i:Int):=⟨dz,dz (by omega)⟩
    exact yJ (bB (by simp only [ae,fC,f2,af,aa,ak,cn,Zc,Zd,Ze,ca (1+(i:Int)) (by omega),aq (C:=aR) m48,l6];rfl)) rfl
   have hp2:∀ p∈ps,Sm 151 p.1/\Sm 14 p.2:=by
    rw [hps]
    intro p m
    obtain ⟨i,_,rfl⟩:=Zn.mp m
    exact yv _
   obtain ⟨T,hG,hk,hT⟩:=ja (ns:=ns) (m9 ps) hpf hp2 (by omega)
   have hx:=Eg (by decide) hpf hk
   refine ⟨T,ps.length,true,.tup [ay T,.bl true],hG.sq,fun i j=>(hG.cell i j).mono (by decide),by omega,?_,?_,fin _ ?_⟩
   . rcases oU T (ps.length+1) with ⟨r,_,no⟩ | c
     . exact absurd hx (no _)
     . exact c
   . show D.tup [sh (ay T),.bl true]=_
     rw [show sh (ay T)=az T from iO T]
   . refine gT (dc (by simp only [ae,fC,f2,fT,asB,af,aa,ak,Zc,Zd,dP,c0,aq (C:=fun _ j=>0 < j) (i:=cell ns 0) (j:=32) (by decide),q1]) (au (dD hcomp) (bV (qE (dZ (ds:=[.seq (ns.map D.int),.lst (ps.map fr)]) rfl hT (bP T)) (bB rfl)))))
 . have q1:(cell ns 0 % 32 == 6)=false:=by simp [q]
   obtain ⟨T,ps,hs,hb,hl6,hpf,htb⟩:=ma ns
   have ho:own (.tup [ay T,.lst (ps.map fr)])=true:=by
    show (own (ay T) && (own (.lst (ps.map fr)) && true))=true
    rw [bP,own,gM]
    rfl
   obtain ⟨b,hd,hg⟩:=C8 (n:=ps.length+1) T (by omega)
   have ec:=pu (fY T) hs (by omega)
   refine ⟨T,ps.length,b,.tup [az T,.bl b],hs,hb,by omega,hd,?_,fin _ ?_⟩
   . show D.tup [sh (az T),.bl b]=_
     rw [kw]
   . have vs:j2 1 [some (.seq (ns.map D.int)),some (ay T),none]=some (az T,[some (.seq (ns.map D.int)),some (az T),none]):=by
      show some (sh (ay T),[some (.seq (ns.map D.int)),some (sh (ay T)),none])=_
      rw [show sh (ay T)=az T from iO T]
     exact au (bQ (by simp only [ae,fC,f2,fT,asB,af,aa,ak,Zc,Zd,dP,c0,aq (C:=fun _ j=>0 < j) (i:=cell ns 0) (j:=32) (by decide),q1]) rfl) (au (dD (xV (k:=0) (dZ (ds:=[.seq (ns.map D.int)]) rfl htb ho) rfl)) (bV (qE vs (bB (by simp only [ae,fC,f2,af,aa,ak,Zc,Zd,Ze,ec,hg])))))
theorem pq (F:Fun K "_law_asked" "_law_asked" gA f fd)  (hLtable_by:HasF P w K mg base 3 "_law_table_by" ["_law_script"] (fn cj)) (hLcell_at:Has P w K mg base 1 "_law_cell_at" ["_law_script","_law_k"] (fn aA)) (hLpart:Has P w K mg base 2 "_law_part" ["_law_cell"] (fn cw)) (hLplanted:HasF P w K mg base 2 "_law_planted" ["_law_script","_law_point"] (fn bM)) (hLclosed:HasF P w K mg base 2 "_law_closed" ["_law_table"] (fn eu))  (m_range:mg "range" = none):FnOk P w K mg base CX0 4 f fd ["_law_script"] (bi K 1 (fn cQ)):=by
 have sc:=jS
 refine Am F jS (fun cdv A outer s H E ds d hr hG hl=>?_)
 have hb:=aV hG
 refine ⟨_,(av (dH (kP hr.units (bR (aw hLcell_at hr (ac (ad 0) (ac aj ah))) aj) aj) (av (mZ 2 sc.nd (by exact (iL rfl m_range (ac aj ah))) (N:=["_law_t","_law_script"]) (js:=[0]) (cl:=[("_law_script",_)]) (fun _ _ _ _ _=>by exact (aU (aw hLpart hr (ac (bX (aw hLcell_at hr (ac (ad 1) (ac (bX aj (ad 0)) ah))) (cR aj (ad 0))) ah)))) (by exact CompOk.one))
  (aG (br (j6 (cm (dG hLplanted hr (ac (ad 0) (ac (ad 2) ah))) (cm (aU eT) dF)))))) cu)
  (av (bj 1 sc.nd (uF 0 (dG hLtable_by hr (ac (ad 0) ah)) aj))
  (aG (br (j6 (cm (sX 1) (cm (aU (AG (aw hLclosed.has hr (ac (ad 1) ah)) bC)) dF))))))),?_⟩
 . show aI ((?f:SD) (aK 3 _))=_
   exact hb
theorem iX:aF ["bounds","ways","middle","thing","total"] ["bounds","ways","middle"] (ap fg):=⟨rfl,rfl,rfl,by decide +kernel,rfl,by decide +kernel,by decide +kernel⟩
theorem mB (F:Fun K "ring_through" "ring_through" fg f fd)  (hbound_sum:Has P w K mg base 1 "bound_sum" ["one","other"] (fn bZ)) (hkeeps:Has P w K mg base 4 "keeps" ["part","bound"] (fn iS)) (hfractionD:sd P w K mg base 3 "fraction" ["top","bottom"] [1] (fn bu))  (m_range:mg "range" = none) (m_len:mg "len" = none):FnOk P w K mg base CX0 5 f fd ["bounds","ways","middle"] (cf K 3 (fn fJ)):=by
 have sc:=iX
 refine cq F iX (fun cdv A outer s H E ds d hr hG hl=>?_)
 obtain ⟨d0,d1,n,m,f,p,ok,h0,h1,rfl,rfl⟩:=aV hG
 have hown:=vS n f p m
 refine ⟨_,(av (dh 3 sc.nd PassesOwn.never rfl (ba rfl m_range (ac (aN aM cF rfl m_len PySem.boot_len (ac (ad 0) ah)) ah))
  (av (bj 4 sc.nd (aU (aw hbound_sum hr (ac (ax (ax (ad 0) (ad 3)) (ad 2)) (ac (ax (ax (ad 0) (ad 2)) (ad 3)) ah)))))
  (aG (dH (dU (bO (aw hkeeps hr (ac (d9 hfractionD hr (ac aj ah)) (ac (ad 4) ah))))) (aG (br (mV (ax (ax (ad 1) (ad 3)) (ad 2)) (ax (ax (ad 1) (ad 2)) (ad 3))))) cu))))
  (aG (br (aU bC)))),?_,?own⟩
 case own=>first | rfl | exact hown
 . show aI ((?f:SD) (aK 5 _))=_
   have e0:aK 5 [d0,d1,.int (m:Int)]=[some (az (aE n f)),some (.seq (fZ n p)),some (.int (m:Int)),none,none]:=by
    show [some (sh d0),some (sh d1),some (sh (.int (m:Int))),none,none]=_
    rw [show sh d0=_ from h0,h1]
    rfl
   rw [e0]
   have hm:=ok.mn
   have hn:=ok.n41
   have len:cH [az (aE n f)]=some (.int (n:Int)):=m5 (bf n f)
   have hv:=fun o1 o2:Option D=>eD (g:=aa (ak cH (aa (ae 0) af)) af) (δ:=[some (az (aE n f)),some (.seq (fZ n p)),some (.int (m:Int)),o1,o2]) (n:=n) (by simp only [ae,af,aa,ak,Zc,Zd,len]) (by omega)
   have fo:Fk (0,1):=Fk.of (mM (k:=200) (by decide))
   obtain ⟨k1,k2⟩:=nr (i:=3) (s:=((aC (aB 4 (vI (ak (fn bZ) (aa (f2 gIx (f2 gIx (ae 0) (ae 3)) (ae 2)) (aa (f2 gIx (f2 gIx (ae 0) (ae 2)) (ae 3)) af))))) (sIf (bT (fT (ak (fn iS) (aa (ak (dfl (fn bu) [1]) (aa (fC (.int 0)) af)) (aa (ae 4) af))))) (cD (ii (f2 gIx (f2 gIx (ae 1) (ae 3)) (ae 2)) (f2 gIx (f2 gIx (ae 1) (ae 2)) (ae 3)))) aW)))) (f:=fun (i:Nat)=>D.int (i:Int)) (fun _ δ=>∃ o1 o2,δ=[some (az (aE n f)),some (.seq (fZ n p)),some (.int (m:Int)),o1,o2]) (mJ f p m) (List.range n) (by
    rintro pre t post _ hx ⟨o1,o2,rfl⟩
    obtain ⟨rfl,ht⟩:=bA hx
    generalize pre.length=t at *
    obtain ⟨r1,q1,q2⟩:=lM (bf n f) ht hm
    obtain ⟨r2,q3,q4⟩:=lM (bf n f) hm ht
    rw [bz f ht hm] at q2
    rw [bz f hm ht] at q4
    obtain ⟨w1,w2⟩:=tN p ht hm
    obtain ⟨w3,w4⟩:=tN p hm ht
    have kk:=rV (p:=(0,1)) (b:=bs (f t m) (f m t)) fo (((ok.bk t m ht hm).sum (ok.bk m t hm ht)).mono (by decide))
    have s1:((aB 4 (vI (ak (fn bZ) (aa (f2 gIx (f2 gIx (ae 0) (ae 3)) (ae 2)) (aa (f2 gIx (f2 gIx (ae 0) (ae 2)) (ae 3)) af)))))) [some (az (aE n f)),some (.seq (fZ n p)),some (.int (m:Int)),some (.int (t:Int)),o2]=some (.nx [some (az (aE n f)),some (.seq (fZ n p)),some (.int (m:Int)),some (.int (t:Int)),some (bdD (bs (f t m) (f m t)))]):=dD (bB (d:=bdD (bs (f t m) (f m t))) (by simp only [ae,f2,af,aa,ak,Zc,Zd,Ze,q1,q2,q3,q4,jr]) (iP _))
    unfold mJ
    cases hk:kp (0,1) (bs (f t m) (f m t)) with
    | true =>
     refine ⟨fun _=>⟨_,au s1 (bQ (by simp only [ae,fC,fT,asB,bT,af,aa,ak,Zc,Option.map_some,Zd,Ze,Bool.not_true,bG,kk,hk]) rfl),_,_,rfl⟩,fun d z=>?_⟩
     rw [if_pos rfl] at z
     cases z
    | false =>
     refine ⟨fun z=>?_,fun d z=>?_⟩
     . rw [if_neg (by decide)] at z
       cases z
     . rw [if_neg (by decide)] at z
       cases z
       refine au s1 (dc (by simp only [ae,fC,fT,asB,bT,af,aa,ak,Zc,Option.map_some,Zd,Ze,Bool.not_false,bG,kk,hk]) (vw (d:=.lst (bL (p t m++p m t))) ?_))
       have l1:=ok.ln t m ht hm
       have l2:=ok.ln m t hm ht
       have ei:bL (p t m++p m t)=bL (p t m)++bL (p m t):=List.map_append
       rw [ei]
       exact qF (a:=.seq (bL (p t m))) (b:=.seq (bL (p m t))) (by simp only [ae,f2,Zc,Zd,Ze,w1,w2]) (by simp only [ae,f2,Zc,Zd,Ze,w3,w4]) rfl rfl (by unfold bL;rw [Zi,Zi];omega) (by rw [<- ei];exact oB _)) (List.range n) [] [some (az (aE n f)),some (.seq (fZ n p)),some (.int (m:Int)),none,none] rfl ⟨_,_,rfl⟩
   unfold rgt
   cases hb:aX (mJ f p m) [] (List.range n) with
   | none =>
    obtain ⟨_,w,o1,o2,rfl⟩:=k1 hb
    exact d7 (au (bW (hv _ _) w) (bV (bB rfl)))
   | some d=>exact d7 (gT (bW (hv _ _) (k2 d hb)))
theorem iW:aF ["bounds","placed","thing","lows","highs"] ["bounds","placed","thing"] (ap eZ):=⟨rfl,rfl,rfl,by decide +kernel,rfl,by decide +kernel,by decide +kernel⟩
theorem mt (F:Fun K "value_beside" "value_beside" eZ f fd)  (hbetween:Has P w K mg base 4 "between" ["low","high"] (fn lR)) (hminus:Has P w K mg base 3 "minus" ["one","other"] (fn ny)) (hplus:Has P w K mg base 3 "plus" ["one","other"] (fn vf)) (hgreatest:Has P w K mg base 2 "greatest" ["parts"] (fn kj)) (hleast:Has P w K mg base 2 "least" ["parts"] (fn sa)) (hfractionD:sd P w K mg base 3 "fraction" ["top","bottom"] [1] (fn bu))  :FnOk P w K mg base CX0 5 f fd ["bounds","placed","thing"] (cf K 3 (fn c6)):=by
 have sc:=iW
 refine cq F iW (fun cdv A outer s H E ds d hr hG hl=>?_)
 obtain ⟨T,n,ps,t,h,rfl,rfl⟩:=aV hG
 have hown:own (fr (eQ (ao T) ps t))=true:=rfl
 refine ⟨_,(av (sZ 3 sc.nd (by exact (tj (ad 1))) (T:=["j"]) (N:=["j","bounds","placed","thing"]) (js:=[0,1,2]) (cl:=[("thing",_),("placed",_),("bounds",_)]) (fun _ _ _ _ _=>by exact (kR 0 (show List.Nodup (["j","bounds","placed","thing"]:List Str) from by decide +kernel))) (qt 0 (by decide)) (fun _ _ _ _ _=>by exact (vM (jg (ax (ax (ad 1) (ad 0)) (ad 3)) bC))) (fun _ _ _ _ _=>by exact (aU (aw hminus hr (ac (m4 (qp hr) (ad 2) (ad 0)) (ac (d9 hfractionD hr (ac (ax (ax (ax (ad 1) (ad 0)) (ad 3)) aj) ah)) ah))))) (by exact CompG.of (T:=["j"]) (Z:=["bounds","placed","thing"]) (Y:=["thing","placed","bounds"]) (hcl:=(by intro p hp;simp only [Zq,List.not_mem_nil,or_false] at hp;rcases hp with rfl | rfl | rfl <;> rfl)) (hN:=(by intro i y j h1 h2;match i,h1,h2 with | 0,h1,h2=>cases h1;cases h2;exact ⟨rfl,rfl,rfl⟩ | 1,h1,h2=>cases h1;cases h2;exact ⟨rfl,rfl,rfl⟩ | 2,h1,h2=>cases h1;cases h2;exact ⟨rfl,rfl,rfl⟩ | n+3,h1,h2=>cases h1))))
  (av (sZ 4 sc.nd (by exact (tj (ad 1))) (T:=["j"]) (N:=["j","bounds","placed","thing"]) (js:=[0,1,2]) (cl:=[("thing",_),("placed",_),("bounds",_)]) (fun _ _ _ _ _=>by exact (kR 0 (show List.Nodup (["j","bounds","placed","thing"]:List Str) from by decide +kernel))) (qt 0 (by decide)) (fun _ _ _ _ _=>by exact (vM (jg (ax (ax (ad 1) (ad 3)) (ad 0)) bC))) (fun _ _ _ _ _=>by exact (aU (aw hplus hr (ac (m4 (qp hr) (ad 2) (ad 0)) (ac (d9 hfractionD hr (ac (ax (ax (ax (ad 1) (ad 3)) (ad 0)) aj) ah)) ah))))) (by exact CompG.of (T:=["j"]) (Z:=["bounds","placed","thing"]) (Y:=["thing","placed","bounds"]) (hcl:=(by intro p hp;simp only [Zq,List.not_mem_nil,or_false] at hp;rcases hp with rfl | rfl | rfl <;> rfl)) (hN:=(by intro i y j h1 h2;match i,h1,h2 with | 0,h1,h2=>cases h1;cases h2;exact ⟨rfl,rfl,rfl⟩ | 1,h1,h2=>cases h1;cases h2;exact ⟨rfl,rfl,rfl⟩ | 2,h1,h2=>cases h1;cases h2;exact ⟨rfl,rfl,rfl⟩ | n+3,h1,h2=>cases h1))))
  (aG (br (aU (aw hbetween hr (ac (aw hgreatest hr (ac (ad 3) ah)) (ac (aw hleast hr (ac (ad 4) ah)) ah)))))))),?_,?own⟩
 case own=>first | rfl | exact hown
 . show aI ((?f:SD) (aK 5 _))=_
   have e0:aK 5 [az T,plD ps,.int ((t:Nat):Int)]=[some (az T),some (plD ps),some (.int ((t:Nat):Int)),none,none]:=by
    show [some (sh (az T)),some (sh (plD ps)),some (.int ((t:Nat):Int)),none,none]=_
    rw [kw,uC]
   rw [e0]
   have le:ps.filterMap (fun p=>((ao T p.1 t).map fun b=>fr (mi p.2 (b.1,1))))=(eO (ao T) ps t).map fr:=by
    unfold eO
    rw [List.map_filterMap]
    congr 1
    funext p
    cases ao T p.1 t <;> rfl
   have he:ps.filterMap (fun p=>((ao T t p.1).map fun b=>fr (pl p.2 (b.1,1))))=(dW (ao T) ps t).map fr:=by
    unfold dW
    rw [List.map_filterMap]
    congr 1
    funext p
    cases ao T t p.1 <;> rfl
   have lf:=zb h
   have hf:=A8 h
   have g1:=u6 (x:=.lst ((eO (ao T) ps t).map fr)) rfl (fun p m=>Fk.of (lf p m))
   have g2:=Bl (x:=.lst ((dW (ao T) ps t).map fr)) rfl (fun p m=>Fk.of (hf p m))
   have g3:=xF (lo:=gre (eO (ao T) ps t) none) (hi:=lea (dW (ao T) ps t) none) (fun p e=>(nc e).elim (fun z=>lf p z) fun z=>nomatch z) (fun p e=>(m6 e).elim (fun z=>hf p z) fun z=>nomatch z)
   refine d7 (au (be (d:=.lst ((eO (ao T) ps t).map fr)) (δ':=[some (az T),some (plD ps),some (.int ((t:Nat):Int)),none,none]) ?lows) (au (be (d:=.lst ((dW (ao T) ps t).map fr)) (δ':=[some (az T),some (plD ps),some (.int ((t:Nat):Int)),some (.lst ((eO (ao T) ps t).map fr)),none]) ?highs) (bV (δ':=[some (az T),some (plD ps),some (.int ((t:Nat):Int)),some (.lst ((eO (ao T) ps t).map fr)),some (.lst ((dW (ao T) ps t).map fr))]) ?_)))
   case lows =>
    rw [<- le]
    refine jO (f:=fun p:Nat×(Int×Int)=>D.int ((p.1:Nat):Int)) (h:=fun p=>((ao T p.1 t).map fun b=>fr (mi p.2 (b.1,1)))) (xs:=ps) ?hs (fun p m=>?_) (Nat.le_trans h.len (by decide))
    case hs =>
     show some ((ps.map fun p=>((p.1:Nat):Int)).map D.int)=_
     rw [List.map_map]
     rfl
    have bb:=h.bd p.1 t
    obtain ⟨r,i1,i2⟩:=lM h.sq (h.lt p m) h.ht
    have gp:=zv h.nd (show (p.1,p.2)∈ps from m)
    rcases q:ao T p.1 t with _ | ⟨k,s⟩
    . refine ss (δ1:=[some (.int ((p.1:Nat):Int)),some (az T),some (plD ps),some (.int ((t:Nat):Int))]) rfl ?_
      rw [q] at i2
      simp only [ae,fC,f2,fT,asB,Zc,Zd,Ze,Bool.not_true,bn,i1,i2,eV,bn,bdD]
    . rw [q] at i2 bb
      refine pB (δ1:=[some (.int ((p.1:Nat):Int)),some (az T),some (plD ps),some (.int ((t:Nat):Int))]) rfl ?_ ?_
      . simp only [ae,fC,f2,fT,asB,Zc,Zd,Ze,Bool.not_false,bn,i1,i2,eV,bn,bdD]
      . refine rg (δ':=[some (.int ((p.1:Nat):Int)),some (az T),some (plD ps),some (.int ((t:Nat):Int))]) ?_ rfl
        show vI _ [some (.int ((p.1:Nat):Int)),some (sh (az T)),some (sh (plD ps)),some (.int ((t:Nat):Int))]=_
        rw [kw,uC]
        refine bB ?_
        have e5:=e2w (op:=fun p q=>fr (mi p q)) (Flw.of (h.fr p m)) (zF bb)
        have e6:gIx (bdD (some (k,s))) (.int 0)=some (.int k):=rfl
        simp only [ae,fC,f2,af,aa,ak,c4,Zc,Zd,Ze,cG,i1,i2,gp,bG,e5]
   case highs =>
    rw [<- he]
    show nF _ _ _ _ _ _ [some (az T),some (plD ps),some (.int ((t:Nat):Int)),some (.lst ((eO (ao T) ps t).map fr)),none]=_
    refine jO (f:=fun p:Nat×(Int×Int)=>D.int ((p.1:Nat):Int)) (h:=fun p=>((ao T t p.1).map fun b=>fr (pl p.2 (b.1,1)))) (xs:=ps) ?hs (fun p m=>?_) (Nat.le_trans h.len (by decide))
    case hs =>
     show some ((ps.map fun p=>((p.1:Nat):Int)).map D.int)=_
     rw [List.map_map]
     rfl
    have bb:=h.bd t p.1
    obtain ⟨r,i1,i2⟩:=lM h.sq h.ht (h.lt p m)
    have gp:=zv h.nd (show (p.1,p.2)∈ps from m)
    rcases q:ao T t p.1 with _ | ⟨k,s⟩
    . refine ss (δ1:=[some (.int ((p.1:Nat):Int)),some (az T),some (plD ps),some (.int ((t:Nat):Int))]) rfl ?_
      rw [q] at i2
      simp only [ae,fC,f2,fT,asB,Zc,Zd,Ze,Bool.not_true,bn,i1,i2,eV,bn,bdD]
    . rw [q] at i2 bb
      refine pB (δ1:=[some (.int ((p.1:Nat):Int)),some (az T),some (plD ps),some (.int ((t:Nat):Int))]) rfl ?_ ?_
      . simp only [ae,fC,f2,fT,asB,Zc,Zd,Ze,Bool.not_false,bn,i1,i2,eV,bn,bdD]
      . refine rg (δ':=[some (.int ((p.1:Nat):Int)),some (az T),some (plD ps),some (.int ((t:Nat):Int))]) ?_ rfl
        show vI _ [some (.int ((p.1:Nat):Int)),some (sh (az T)),some (sh (plD ps)),some (.int ((t:Nat):Int))]=_
        rw [kw,uC]
        refine bB ?_
        have e5:=e2w (op:=fun p q=>fr (pl p q)) (Flw.of (h.fr p m)) (zF bb)
        have e6:gIx (bdD (some (k,s))) (.int 0)=some (.int k):=rfl
        simp only [ae,fC,f2,af,aa,ak,c4,Zc,Zd,Ze,cG,i1,i2,gp,bG,e5]
   . show vI _ [some (az T),some (plD ps),some (.int ((t:Nat):Int)),some (.lst ((eO (ao T) ps t).map fr)),some (.lst ((dW (ao T) ps t).map fr))]=_
     refine bB ?_
     simp only [ae,af,aa,ak,Zc,Zd,Ze,g1,g2,g3]
     rfl
theorem pM:aF ["table","thing","bounds","ways","middle","ring"] ["table"] (ap kL):=⟨rfl,rfl,rfl,by decide +kernel,rfl,by decide +kernel,by decide +kernel⟩
theorem xp (F:Fun K "closed" "closed" kL f fd)  (hwith_noughts:HasF P w K mg base 2 "with_noughts" ["table"] (fn gQ)) (hstraight_ways:HasF P w K mg base 1 "straight_ways" ["size"] (fn gq)) (hring_through:HasF P w K mg base 5 "ring_through" ["bounds","ways","middle"] (fn fJ)) (hlead_through:Do P w K mg base 2 "lead_through" ["bounds","ways","middle"] (fnM fK)) (hkeeps:Has P w K mg base 4 "keeps" ["part","bound"] (fn iS)) (hfractionD:sd P w K mg base 3 "fraction" ["top","bottom"] [1] (fn bu))  (m_range:mg "range" = none) (m_len:mg "len" = none):FnOk P w K mg base CX0 6 f fd ["table"] (cf K 1 (fn lj)):=by
 have sc:=pM
 refine cq F pM (fun cdv A outer s H E ds d hr hG hl=>?_)
 obtain ⟨d0,T,n,hT,hs,hn,hB,rfl,rfl⟩:=aV hG
 have hown:=lZ n T
 refine ⟨_,(av (dh 1 sc.nd PassesOwn.never rfl (ba rfl m_range (ac (aN aM cF rfl m_len PySem.boot_len (ac (ad 0) ah)) ah))
  (aG (dH (dU (bO (aw hkeeps hr (ac (d9 hfractionD hr (ac aj ah)) (ac (ax (ax (ad 0) (ad 1)) (ad 1)) ah))))) (aG (br (j6 (cm (aU lD) (cm (j7 (cm (cb 1) dF)) dF))))) cu)))
  (av (bj 2 sc.nd (dG hwith_noughts hr (ac (ad 0) ah)))
  (av (bj 3 sc.nd (dG hstraight_ways hr (ac (aN aM cF rfl m_len PySem.boot_len (ac (ad 0) ah)) ah)))
  (av (dh 4 sc.nd PassesOwn.never rfl (ba rfl m_range (ac (aN aM cF rfl m_len PySem.boot_len (ac (ad 0) ah)) ah))
   (av (bj 5 sc.nd (dG hring_through hr (ac (ad 2) (ac (ad 3) (ac (ad 4) ah)))))
   (av (dH (jg (ad 5) bC) (aG (br (j6 (cm (aU lD) (cm (cb 5) dF))))) cu)
   (aG (yC 2 3 hlead_through hr (fX (pvi 2) (fX (pvi 3) (ac (ad 4) ah))))))))
  (aG (br (j6 (cm (aU lD) (cm (cb 2) dF))))))))),?_,?own⟩
 case own=>first | rfl | exact hown
 . show aI ((?f:SD) (aK 6 _))=_
   have e0:aK 6 [d0]=[some (az T),none,none,none,none,none]:=by
    show [some (sh d0),none,none,none,none,none]=_
    rw [show sh d0=az T from hT]
   rw [e0]
   have len:cH [az T]=some (.int (n:Int)):=m5 hs
   have hv:=fun o1 o2 o3 o4 o5:Option D=>eD (g:=aa (ak cH (aa (ae 0) af)) af) (δ:=[some (az T),o1,o2,o3,o4,o5]) (n:=n) (by simp only [ae,af,aa,ak,Zc,Zd,len]) (by omega)
   have fo:Fk (0,1):=Fk.of (mM (k:=200) (by decide))
   obtain ⟨k1,k2⟩:=nr (i:=1) (s:=((sIf (bT (fT (ak (fn iS) (aa (ak (dfl (fn bu) [1]) (aa (fC (.int 0)) af)) (aa (f2 gIx (f2 gIx (ae 0) (ae 1)) (ae 1)) af))))) (cD (kq (cZ (vI (fC (.str "ring"))) (cZ (pg (cZ (bE 1) ig)) ig)))) aW))) (f:=fun (i:Nat)=>D.int (i:Int)) (fun _ δ=>∃ o1,δ=[some (az T),o1,none,none,none,none]) (mK T) (List.range n) (by
    rintro pre t post _ hx ⟨o1,rfl⟩
    obtain ⟨rfl,ht⟩:=bA hx
    generalize pre.length=t at *
    obtain ⟨r1,q1,q2⟩:=lM hs ht ht
    have kk:=rV (p:=(0,1)) (b:=ao T t t) fo ((hB t t).mono (by decide))
    unfold mK
    cases hk:kp (0,1) (ao T t t) with
    | true =>
     refine ⟨fun _=>⟨_,bQ (by simp only [ae,fC,f2,fT,asB,bT,af,aa,ak,Zc,Option.map_some,Zd,Ze,Zf,Zg,Bool.not_true,bG,q1,q2,j3,kk,hk]) rfl,some (.int (t:Int)),rfl⟩,fun d z=>?_⟩
     rw [if_pos rfl] at z
     cases z
    | false =>
     refine ⟨fun z=>?_,fun d z=>?_⟩
     . rw [if_neg (by decide)] at z
       cases z
     . rw [if_neg (by decide)] at z
       cases z
       exact dc (by simp only [ae,fC,f2,fT,asB,bT,af,aa,ak,Zc,Option.map_some,Zd,Ze,Zf,Zg,Bool.not_false,bG,q1,q2,j3,kk,hk]) (vw rfl)) (List.range n) [] [some (az T),none,none,none,none,none] rfl ⟨_,rfl⟩
   obtain ⟨c,hc⟩:∃ c,c=cz T:=⟨_,rfl⟩
   have hcd:∀ i,i < n->c i i=b0:=fun i _=>by rw [hc];exact if_pos rfl
   have hcb:∀ i j,Bk 2000 (c i j):=by rw [hc];exact EG hB
   have lp:=fun o1:Option D=>nr (i:=4) (s:=((aC (aB 5 (dL (fn fJ) (aa (ae 2) (aa (ae 3) (aa (ae 4) af))))) (aC (sIf (fT (f2 eV (ae 5) (fC .non))) (cD (kq (cZ (vI (fC (.str "ring"))) (cZ (bE 5) ig)))) aW) (nQ 2 3 (fnM fK) (aa (ae 4) af)))))) (f:=fun (i:Nat)=>D.int (i:Int)) (fun pre δ=>∃ o1 o4 o5,St n c pre.length/\δ=[some (az T),o1,some (ay (aE n (dm c pre.length))),some (.lst (aY n (pw c pre.length))),o4,o5]) (lQ n c) (List.range n) (by
    rintro pre m post _ hx ⟨o1,o4,o5,st,rfl⟩
    obtain ⟨rfl,hm⟩:=bA hx
    rw [Zh,Zj]
    generalize pre.length=m at *
    have rt:=st.rt hcb hn hm
    have er:=oK rt (iO (aE n (dm c m))) (by rw [sh,nL]:sh (.lst (aY n (pw c m)))=.seq (fZ n (pw c m)))
    have ow:=vS n (dm c m) (pw c m) m
    unfold lQ
    rcases j4 (n:=n) (m:=m) (dm c m) (pw c m) with e | ⟨t,ht,e,bad⟩
    . have ok:=qU e
      have st':=vu st hm ok
      have el:=oM rt (st.fw.dia m hm)
      rw [e] at er ow ⊢
      refine ⟨fun _=>⟨[some (az T),o1,some (ay (aE n (dm c (m+1)))),some (.lst (aY n (pw c (m+1)))),some (.int (m:Int)),some .non],au (dD (dZ (ds:=[ay (aE n (dm c m)),.lst (aY n (pw c m)),.int (m:Int)]) rfl er ow)) (au (bQ rfl rfl) ?_),_,_,_,st',rfl⟩,fun d z=>by cases z⟩
      exact x5 (i:=2) (j:=3) (xs:=bI (aE n (dm c m))) (ys:=aY n (pw c m)) (es:=[.int (m:Int)]) (d0:=ay (aE n (dm c (m+1)))) (d1:=.lst (aY n (pw c (m+1)))) rfl rfl rfl el rfl (bP _) (n5 _ _) (by decide)
    . rw [e] at er ow ⊢
      refine ⟨(fun z=>by cases z),fun d z=>?_⟩
      cases z
      exact au (dD (dZ (ds:=[ay (aE n (dm c m)),.lst (aY n (pw c m)),.int (m:Int)]) rfl er ow)) (gT (dc rfl (bV rfl)))) (List.range n) [] [some (az T),o1,some (ay (aE n (dm c 0))),some (.lst (aY n (pw c 0))),none,none] rfl ⟨_,_,_,vt hcd,rfl⟩
   unfold cY
   rw [<- hc]
   cases hb:aX (mK T) [] (List.range n) with
   | some d=>exact d7 (gT (bW (hv _ _ _ _ _) (k2 d hb)))
   | none =>
    obtain ⟨_,w,o1,rfl⟩:=k1 hb
    obtain ⟨l1,l2⟩:=lp o1
    have ew:=oI (fY T) hs hn
    rw [<- hc] at ew
    refine d7 (au (bW (hv _ _ _ _ _) w) (au (be (dZ (ds:=[az T]) rfl ew (bP _))) (au (be (dZ (ds:=[.int (n:Int)]) (by simp only [ae,af,aa,ak,Zc,Zd,Zf,Zg,len]) (mH hn) (n5 _ _))) ?_)))
    dsimp only [List.set_cons_zero,List.set_cons_succ]
    cases hr2:aX (lQ n c) [] (List.range n) with
    | some d=>exact gT (bW (hv _ _ _ _ _) (l2 d hr2))
    | none =>
     obtain ⟨_,w2,o1',o4,o5,st,rfl⟩:=l1 hr2
     rw [List.length_range] at w2
     exact au (bW (hv _ _ _ _ _) w2) (bV (by rfl))
theorem pK:aF ["bounds","values","placed","thing"] ["bounds","values"] (ap kJ):=⟨rfl,rfl,rfl,by decide +kernel,rfl,by decide +kernel,by decide +kernel⟩
theorem xn (F:Fun K "filled" "filled" kJ f fd)  (hminus:Has P w K mg base 3 "minus" ["one","other"] (fn ny)) (hvalue_beside:HasF P w K mg base 5 "value_beside" ["bounds","placed","thing"] (fn c6))  (m_dict:mg "dict" = none) (m_range:mg "range" = none) (m_len:mg "len" = none):FnOk P w K mg base CX0 6 f fd ["bounds","values"] (cf K 2 (fn lg)):=by
 have sc:=pK
 refine cq F pK (fun cdv A outer s H E ds d hr hG hl=>?_)
 obtain ⟨d0,d1,T,n,ps,h0,h1,h,rfl,rfl⟩:=aV hG
 have hown:own (.lst ((fpt T n ps).map fr))=true:=by rw [own];exact gM _
 refine ⟨_,(av (bj 2 sc.nd (xf rfl m_dict xL (ac (ad 1) ah)))
  (av (dh 3 sc.nd PassesOwn.never rfl (ba rfl m_range (ac (aN aM cF rfl m_len PySem.boot_len (ac (ad 0) ah)) ah))
   (aG (dH (uG (qp hr) (ad 3) (ad 2)) (aG (Aw (qp hr) 2 (DZ 2 (aw hvalue_beside.has hr (ac (ad 0) (ac (ad 2) (ac (ad 3) ah))))) (ad 3))) cu)))
  (aG (br (mU (by exact (uK rfl m_range (ac aj (ac (aN aM cF rfl m_len PySem.boot_len (ac (ad 0) ah)) ah)))) (N:=["thing","placed"]) (js:=[2]) (cl:=[("placed",_)]) (fun _ _ _ _ _=>by exact (aU (aw hminus hr (ac (m4 (qp hr) (ad 1) (ad 0)) (ac (m4 (qp hr) (ad 1) aj) ah))))) (by exact CompOk.one)))))),?_,?own⟩
 case own=>first | rfl | exact hown
 . show aI ((?f:SD) (aK 4 _))=_
   have e0:aK 4 [d0,d1]=[some (az T),some (plS ps),none,none]:=by
    show [some (sh d0),some (sh d1),none,none]=_
    rw [show sh d0=_ from h0,h1]
   rw [e0]
   have tl:(eR T).length=n:=by unfold eR;rw [Zi];exact h.sq.len
   obtain ⟨_,w,o,rfl⟩:=cE (i:=3) (s:=((sIf (fT (f2 ni (ae 3) (ae 2))) (sM 2 (ae 3) (vFz 2 (ak (fn c6) (aa (ae 0) (aa (ae 2) (aa (ae 3) af)))))) aW))) (f:=fun (i:Nat)=>D.int (i:Int)) (fun pre δ=>∃ o,δ=[some (az T),some (plS ps),some (plO (bF (ao T) ps pre.length)),o]) (List.range n) (by
    intro pre x post δ e hP
    obtain ⟨o,rfl⟩:=hP
    obtain ⟨hx,hxn⟩:x=pre.length/\pre.length < n:=by
     have a:=congrArg (fun l=>l[pre.length]?) e
     have b:=congrArg List.length e
     rw [List.length_range,Zh,List.length_cons] at b
     have c:pre.length < n:=by omega
     simp only [List.getElem?_range c,List.getElem?_append_right (Nat.le_refl _),Nat.sub_self,Zd] at a
     exact ⟨(Option.some.inj a).symm,c⟩
    subst hx
    have vb:=h.vb _ hxn
    rw [Zh,Zj]
    by_cases q:has (bF (ao T) ps pre.length) pre.length
    . refine ⟨[some (az T),some (plS ps),some (plO (bF (ao T) ps pre.length)),some (.int (pre.length:Int))],bQ ?_ rfl,some (.int (pre.length:Int)),by rw [zH q]⟩
      show asB (.bl (!(lk _ _ _).isSome))=_
      rw [uS,decide_eq_true q];rfl
    . refine ⟨[some (az T),some (plS ps),some (plO (bF (ao T) ps (pre.length+1))),some (.int (pre.length:Int))],dc ?_ ?_,some (.int (pre.length:Int)),rfl⟩
      . show asB (.bl (!(lk _ _ _).isSome))=_
        rw [uS,decide_eq_false q];rfl
      . have ev:vFz 2 (ak (fn c6) (aa (ae 0) (aa (ae 2) (aa (ae 3) af)))) [some (az T),some (plS ps),some (plO (bF (ao T) ps pre.length)),some (.int (pre.length:Int))]=some (fr (eQ (ao T) (bF (ao T) ps pre.length) pre.length),[some (az T),some (plS ps),some (plO (bF (ao T) ps pre.length)),some (.int (pre.length:Int))]):=by
         show ((fn c6 [az T,plD (bF (ao T) ps pre.length),.int (pre.length:Int)]).bind _)=_
         rw [oJ vb]
         rfl
        show sM 2 (ae 3) _ [some (az T),some (plS ps),some (plO (bF (ao T) ps pre.length)),some (.int (pre.length:Int))]=_
        unfold sM
        rw [ev]
        have nk:¬ ((pre.length:Nat):Int)∈(bF (ao T) ps pre.length).map fun p=>((p.1:Nat):Int):=fun z=>by
         obtain ⟨p,mp,ep⟩:=Zn.mp z
         have e9:p=(pre.length,p.2):=Prod.ext (by show p.1=pre.length;omega) rfl
         rw [e9] at mp
         exact q ⟨p.2,mp⟩
        show (if (imm _ && decide (((bF (ao T) ps pre.length).map fun p=>((p.1:Nat):Int)).length<=999))=true then some (Res.nx [some (az T),some (plS ps),some (.md (ptK _ _) (ptV _ _ _ _)),some (.int (pre.length:Int))]) else none)=_
        rw [if_pos (by rw [Zi,decide_eq_true (Nat.le_trans vb.len (by decide))];rfl)]
        unfold ptK ptV
        rw [if_neg nk,if_neg nk,Bh q]
        unfold plO
        rw [List.map_append,List.map_append]
        rfl) (List.range n) [] [some (az T),some (plS ps),some (plO ps),none] rfl ⟨none,rfl⟩
   rw [List.length_range] at w
   refine d7 (au (be (d:=plO ps) (δ':=[some (az T),some (plS ps),none,none]) ?cp) (au (bW (δ':=[some (az T),some (plS ps),some (plO ps),none]) (eD (n:=n) ?len (Nat.le_trans h.n1 (by decide))) w) (bV (δ':=[some (az T),some (plS ps),some (plO (bF (ao T) ps n)),o]) ?_)))
   case cp=>exact if_pos (qo ps)
   case len =>
    show some [D.int ((eR T).length:Int)]=_
    rw [tl]
   . obtain ⟨z,mz⟩:=h.all 0 h.n0
     have a0:=jw h.nd mz
     have src:pD (aa (fC (.int 1)) (aa (ak cH (aa (ae 0) af)) af)) [some (az T),some (plS ps),some (plO (bF (ao T) ps n)),o]=some ((List.range (n - 1)).map fun (i:Nat)=>D.int (((i+1:Nat)):Int)):=by
      have eb:aa (fC (.int 1)) (aa (ak cH (aa (ae 0) af)) af) [some (az T),some (plS ps),some (plO (bF (ao T) ps n)),o]=some [.int 1,.int ((eR T).length:Int)]:=rfl
      rw [tl] at eb
      exact wX eb h.n0 (Nat.le_trans h.n1 (by decide))
     unfold fpt
     rw [List.map_map]
     refine gD (g:=fun i=>fr (mi (atP (bF (ao T) ps n) (i+1)) (atP (bF (ao T) ps n) 0))) src (fun i m=>?_) ?_
     case refine_2=>rw [List.length_range];have:=h.n1;omega
     . have hi:i+1 < n:=by have:=Zo.mp m;omega
       obtain ⟨v,mv⟩:=h.all (i+1) hi
       have a1:=jw h.nd mv
       rw [a0,a1]
       refine rg (δ':=[some (.int ((i+1:Nat):Int)),some (plS (bF (ao T) ps n))]) ?_ rfl
       show vI _ [some (.int ((i+1:Nat):Int)),some (sh (plO (bF (ao T) ps n)))]=_
       rw [BZ]
       refine bB ?_
       have k1:t5 (plS (bF (ao T) ps n)) (.int ((i+1:Nat):Int))=some (fr v):=vY h.nd mv
       have k0:t5 (plS (bF (ao T) ps n)) (.int 0)=some (fr z):=vY (t:=0) h.nd mz
       have e5:=e2w (op:=fun p q=>fr (mi p q)) (Flw.of (h.fr _ mv)) (Flw.of (h.fr _ mz))
       simp only [ae,fC,f2,af,aa,ak,Zc,Zd,Ze,k1,k0,e5]
theorem cK:aF ["table","answer"] ["table"] (ap ck):=⟨rfl,rfl,rfl,by decide +kernel,rfl,by decide +kernel,by decide +kernel⟩
theorem jk (F:Fun K "closed_or_refused" "closed_or_refused" ck f fd)  (hclosed:HasF P w K mg base 6 "closed" ["table"] (fn lj))  :FnOk P w K mg base CX0 7 f fd ["table"] (cf K 1 (fn bN)):=by
 have sc:=cK
 refine cq F cK (fun cdv A outer s H E ds d hr hG hl=>?_)
 obtain ⟨d0,T,U,n,hT,hs,hn,hb,c,rfl,rfl⟩:=aV hG
 have hown:=bP U
 refine ⟨_,(av (bj 1 sc.nd (dG hclosed hr (ac (ad 0) ah)))
  (av (dH (kP hr.units (ax (ad 1) aj) lD) (aG yA) cu)
  (aG (br (uF 1 (cb 1) aj))))),?_,?own⟩
 case own=>first | rfl | exact hown
 . show aI ((?f:SD) (aK 2 _))=_
   have e0:aK 2 [d0]=[some (az T),none]:=by
    show [some (sh d0),none]=_
    rw [show sh d0=az T from hT]
   rw [e0]
   have ec:=oO (fY T) hs hn hb
   rw [c.cl] at ec
   have ho:own (.tup [.str "table",ay U])=true:=by
    show (true && (own (ay U) && true))=true
    rw [bP];rfl
   have i0:gIx (.tup [.str "table",ay U]) (.int 0)=some (.str "table"):=rfl
   have q:eP (.str "table") (.str "ring")=some (.bl false):=rfl
   exact d7 (au (dD (dZ (ds:=[az T]) rfl ec ho)) (au (bQ (by simp only [ae,fC,f2,fT,asB,Zc,Zd,Ze,Zf,Zg,i0,q]) rfl) (bV (xV (ds:=[.str "table",ay U]) (d:=ay U) rfl rfl))))
theorem i7 {cP:Addr} (F:Fun K "closed_or_refused" "closed_or_refused" ck f fd) (hclosed:HasF P w K mg base 6 "closed" ["table"] (fn lj))  (m_NoPoint:mg "NoPoint" = some (.ref cP)) (x_NoPoint:PySem.W.excIn K cP [.type "ValueError",.type "Exception",.type "BaseException",.type "object"] "ValueError.__new__" = true):FnOk P w K mg base (CX1 P w) 7 f fd ["table"] (ua K 1 (cN cP)):=by
 have sc:=cK
 refine zJ F cK (fun cdv A outer s H E ds r hr hG hl=>?_)
 refine ⟨_,(av (bj 1 sc.nd (dG hclosed hr (ac (ad 0) ah)))
  (av (dH (kP hr.units (ax (ad 1) aj) lD) (aG (yz PySem.F.excBase_ValueError hr.hd rfl m_NoPoint x_NoPoint (ac lD ah))) cu)
  (aG (br (uF 1 (cb 1) aj))))),?_,?_⟩
 . show n6 ((?f:SD) (aK 2 _))=_
   rcases uW hG with ⟨d,hd,rfl⟩ | ⟨hb,rfl⟩
   . obtain ⟨d0,T,U,n,hT,hs,hn,hb,c,rfl,rfl⟩:=aV hd
     have e0:aK 2 [d0]=[some (az T),none]:=by
      show [some (sh d0),none]=_
      rw [show sh d0=az T from hT]
     rw [e0]
     have ec:=oO (fY T) hs hn hb
     rw [c.cl] at ec
     have ho:own (.tup [.str "table",ay U])=true:=by
      show (true && (own (ay U) && true))=true
      rw [bP];rfl
     have i0:gIx (.tup [.str "table",ay U]) (.int 0)=some (.str "table"):=rfl
     have q:eP (.str "table") (.str "ring")=some (.bl false):=rfl
     exact yM (au (dD (dZ (ds:=[az T]) rfl ec ho)) (au (bQ (by simp only [ae,fC,f2,fT,asB,Zc,Zd,Ze,Zf,Zg,i0,q]) rfl) (bV (xV (ds:=[.str "table",ay U]) (d:=ay U) rfl rfl))))
   . obtain ⟨d0,T,n,r,hT,hs,hn,hb,hc,rfl⟩:=hb
     have e0:aK 2 [d0]=[some (az T),none]:=by
      show [some (sh d0),none]=_
      rw [show sh d0=az T from hT]
     rw [e0]
     have ec:=oO (fY T) hs hn hb
     have ho:=lZ n T
     rw [hc] at ec ho
     have i0:gIx (.tup [.str "ring",.lst (bL r)]) (.int 0)=some (.str "ring"):=rfl
     have q:eP (.str "ring") (.str "ring")=some (.bl true):=rfl
     exact Cz (au (dD (dZ (ds:=[az T]) rfl ec ho)) (Ae (dc (by simp only [ae,fC,f2,fT,asB,Zc,Zd,Ze,Zf,Zg,i0,q]) rfl)))
 . intro d e
   subst e
   rcases uW hG with ⟨d',hd,e⟩ | ⟨_,e⟩
   . cases e
     obtain ⟨d0,T,U,n,_,_,_,_,_,_,rfl⟩:=aV hd
     exact bP U
   . cases e
theorem gU:aF ["table"] ["table"] (ap gG):=⟨rfl,rfl,rfl,by decide +kernel,rfl,by decide +kernel,by decide +kernel⟩
theorem tw (F:Fun K "point_of" "point_of" gG f fd)  (hfilled:HasF P w K mg base 6 "filled" ["bounds","values"] (fn lg)) (hclosed_or_refused:HasF P w K mg base 7 "closed_or_refused" ["table"] (fn bN)) (hfractionD:sd P w K mg base 3 "fraction" ["top","bottom"] [1] (fn bu))  :FnOk P w K mg base CX0 8 f fd ["table"] (cf K 1 (fn gR)):=by
 have sc:=gU
 refine cq F gU (fun cdv A outer s H E ds d hr hG hl=>?_)
 obtain ⟨d0,T,U,n,hT,hs,n0,hn,hb,c,rfl,rfl⟩:=aV hG
 have hown:own (.lst ((fpt U n ps0).map fr))=true:=by rw [own];exact gM _
 refine ⟨_,(aG (br (dG hfilled hr (ac (aw hclosed_or_refused.has hr (ac (ad 0) ah)) (ac (tu aj (d9 hfractionD hr (ac aj ah))) ah))))),?_,?own⟩
 case own=>first | rfl | exact hown
 . show aI ((?f:SD) (aK 1 _))=_
   have e0:aK 1 [d0]=[some (az T)]:=by
    show [some (sh d0)]=_
    rw [show sh d0=az T from hT]
   rw [e0]
   have ec:=gv (fY T) hs hn (fun i j=>(hb i j).mono (by decide)) c
   have ef:=uf (d0:=ay U) (d1:=.md [0] [fr (0,1)]) (iO U) (ps:=ps0) rfl (c.fi n0 hn hb)
   exact d7 (bV (dZ (ds:=[ay U,.md [0] [fr (0,1)]]) (by simp only [ae,fC,af,aa,ak,Zc,Zd,ec,rQ,qG,bG];rfl) ef hown))
theorem rh {cP:Addr} (F:Fun K "point_of" "point_of" gG f fd) (hfilled:HasF P w K mg base 6 "filled" ["bounds","values"] (fn lg)) (hclosed_or_refused:HasF P w K mg base 7 "closed_or_refused" ["table"] (fn bN)) (hfractionD:sd P w K mg base 3 "fraction" ["top","bottom"] [1] (fn bu))  (hclosed_or_refusedX:uu P w K mg base 7 "closed_or_refused" ["table"] (cN cP)):FnOk P w K mg base (CX1 P w) 8 f fd ["table"] (ua K 1 (bY cP)):=by
 have sc:=gU
 refine zJ F gU (fun cdv A outer s H E ds r hr hG hl=>?_)
 rcases uW hG with ⟨d,hd,rfl⟩ | ⟨hb,rfl⟩
 . obtain ⟨d0,T,U,n,hT,hs,n0,hn,hb,c,rfl,rfl⟩:=aV hd
   have hown:own (.lst ((fpt U n ps0).map fr))=true:=by rw [own];exact gM _
   refine ⟨_,(aG (br (dG hfilled hr (ac (aw hclosed_or_refused.has hr (ac (ad 0) ah)) (ac (tu aj (d9 hfractionD hr (ac aj ah))) ah))))),?_,?_⟩
   . show n6 ((?f:SD) (aK 1 _))=_
     have e0:aK 1 [d0]=[some (az T)]:=by
      show [some (sh d0)]=_
      rw [show sh d0=az T from hT]
     rw [e0]
     have ec:=gv (fY T) hs hn (fun i j=>(hb i j).mono (by decide)) c
     have ef:=uf (d0:=ay U) (d1:=.md [0] [fr (0,1)]) (iO U) (ps:=ps0) rfl (c.fi n0 hn hb)
     exact yM (bV (dZ (ds:=[ay U,.md [0] [fr (0,1)]]) (by simp only [ae,fC,af,aa,ak,Zc,Zd,ec,rQ,qG,bG];rfl) ef hown))
   . intro d e
     cases e
     exact hown
 . obtain ⟨ff,_,_,hfm,hfk,_⟩:=hfilled.ex
   refine ⟨_,aG (Av (AF hfm hfk (pW hclosed_or_refusedX hr (ac (ad 0) ah)))),?_,fun d e=>nomatch e⟩
   show n6 ((?g:SD) (aK 1 _))=_
   have hb':=hb
   obtain ⟨d0,T,n,r,hT,hs,hn,hb,hc,rfl⟩:=hb
   have e0:aK 1 [d0]=[some (az T)]:=by
    show [some (sh d0)]=_
    rw [show sh d0=az T from hT]
   rw [e0]
   have bt:xR [az T]:=⟨az T,T,n,r,fY T,hs,hn,hb,hc,rfl⟩
   have gx:cN cP [az T]=some (.error cP):=zw (CI bt) bt
   refine CA (δ':=[some (az T)]) ?_
   unfold yb
   have z0:aa (ae 0) af [some (az T)]=some [az T]:=rfl
   rw [z0]
   dsimp only [Option.bind_some]
   rw [gx]
   rfl
theorem x9:aF ["_law_script","_law_handed","_law_turn","_law_table","_law_due","_law_told","_law_e"] ["_law_script"] (ap jT):=⟨rfl,rfl,rfl,by decide +kernel,rfl,by decide +kernel,by decide +kernel⟩
theorem CH (F:Fun K "law" "law" jT f fd) {cW cP w1 w2 w3 w4 w5 w6:Addr} (hLasked:Has P w K mg base 4 "_law_asked" ["_law_script"] (fn cQ)) (hpoint_of:HasF P w K mg base 8 "point_of" ["table"] (fn gR)) (hLis_point:HasF P w K mg base 2 "_law_is_point" ["_law_found","_law_many"] (fn dB)) (hLlies:HasF P w K mg base 2 "_law_lies" ["_law_table","_law_point"] (fn g9)) (hLis_no_point:Has P w K mg base 1 "_law_is_no_point" ["_law_e"] (fn (aT cP))) (hCK:Bw K cW cP w1 w2 w3 w4 w5 w6) (hLis_no_pointW:Dn P w K mg base 1 "_law_is_no_point" ["_law_e"] (fn (aT cP)))  (hpoint_ofX:uu P w K mg base 8 "point_of" ["table"] (bY cP)) (m_WatchError:mg "WatchError" = some (.ref cW)) (m_NoPoint:mg "NoPoint" = some (.ref cP)) (m_NoAct:mg "NoAct" = some (.ref w1)) (m_NoAsk:mg "NoAsk" = some (.ref w2)) (m_NoFraction:mg "NoFraction" = some (.ref w3)) (m_NoMove:mg "NoMove" = some (.ref w4)) (m_NoNet:mg "NoNet" = some (.ref w5)) (m_NoWait:mg "NoWait" = some (.ref w6)) (m_range:mg "range" = none) (m_list:mg "list" = none) (m_len:mg "len" = none):FnOk P w K mg base CX0 9 f fd ["_law_script"] (spLaw K):=by
 have sc:=x9
 refine AX F x9 (fun cdv A outer s H E ns hr hl=>?_)
 refine ⟨_,(av (Ci [3,4] (aw hLasked hr (ac (ad 0) ah)) (yE rfl (kQ (pgN 3 sc.nd) (kQ (pgN 4 sc.nd) vO))))
  (av (mZ 1 sc.nd (by exact (ir (ad 3))) (N:=["_law_row"]) (js:=[]) (cl:=[]) (fun _ _ _ _ _=>by exact (jE rfl m_list boot_list (ac (ad 0) ah))) (by exact CompOk.nil))
  (av (dh 2 sc.nd PassesOwn.never rfl (ba rfl m_range (ac aj ah))
   (av (bj 5 sc.nd (aU bC))
   (av (Cj 6 (okN cP) sc.nd m_WatchError hCK.wc hCK.wt hCK.wb (AO hCK.nw) (fun W pn=>(aG (Au 5 sc.nd (pW hpoint_ofX hr (ac (ad 1) ah))))) (fun z=>(aG (dH (PWD.pt (fR (bO (ad 4)) (eK (dU (bO (yI hLis_no_pointW hr (ac (ad 6) ah))))))) (aG (br (aU eT))) cu))))
   (av (dH (PWD.pt (mT (bO (ad 4)) (kO (PWD.pt (fR (dU (bO (aw hLis_point.has hr (ac (ad 5) (ac (jh (aN aM cF rfl m_len PySem.boot_len (ac (ad 3) ah)) aj) ah))))) (eK (dU (bO (aw hLlies.has hr (ac (ad 3) (ac (ad 5) ah))))))))))) (aG (br (aU eT))) cu)
   (av (dH (PWD.pt (fR (PWD.pt (mT (dU (bO (ad 4))) (kO (jg (ad 5) bC)))) (eK (mW hr.units (ad 1) (ad 3))))) (aG (br (aU eT))) cu)
   (aG (dH (bO (ad 4)) (aG (yB 5 (Cq PySem.F.plainAttrs_list PySem.F.slot_list_clear PySem.F.type_list_clear yZ (pvi 5)))) cu)))))))
  (aG (br (aU eT)))))),?_⟩
 . show aI ((?f:SD) (aK 7 _))=_
   have e0:aK 7 [.seq (ns.map D.int)]=[some (.seq (ns.map D.int)),none,none,none,none,none,none]:=by
    show [some (sh (.seq (ns.map D.int))),none,none,none,none,none,none]=_
    rw [sh,gf]
   rw [e0]
   obtain ⟨T,m,b,d,hs,hb,hm,hdue,hd,hask⟩:=qJ ns
   have hbT:BkT T:=fun i j=>(hb i j).mono (by decide)
   have si:sh (.seq (ns.map D.int))=.seq (ns.map D.int):=by rw [sh,gf]
   have st1:Ah [3,4] (ak (fn cQ) (aa (ae 0) af)) [some (.seq (ns.map D.int)),none,none,none,none,none,none]=some (.nx [some (.seq (ns.map D.int)),none,none,some (az T),some (.bl b),none,none]):=by
    unfold Ah
    have z:ak (fn cQ) (aa (ae 0) af) [some (.seq (ns.map D.int)),none,none,none,none,none,none]=some d:=by simp only [ae,af,aa,ak,Zc,Zd,hask]
    rw [z]
    dsimp only [Option.bind_some]
    rw [hd]
    show some (Res.nx [some (sh (.seq (ns.map D.int))),none,none,some (az T),some (.bl b),none,none])=_
    rw [si]
   have st2:eX (fun δ=>((ae 3) δ).bind asL) [] (gS (aa (ae 0) af)) [some (.seq (ns.map D.int)),none,none,some (az T),some (.bl b),none,none]=some (ay T,[some (.seq (ns.map D.int)),none,none,some (az T),some (.bl b),none,none]):=gD (xs:=T) (f:=fun r=>.seq (bh r)) (g:=fun r=>.lst (bh r)) rfl (fun r _=>oP r _) (by rw [hs.len];omega)
   have len:cH [az T]=some (.int ((m+1:Nat):Int)):=m5 hs
   have ne:i8 (ay T) (az T)=some (.bl false):=by
    unfold i8
    have z:eqN 6 (ay T) (az T)=some true:=wE (f:=eqN 5) T fun r _=>C7 3 r
    rw [z];rfl
   generalize D.seq (ns.map D.int)=S at *
   have k1:okN cP cP=true:=beq_self_eq_true cP
   have hv:=eD (g:=aa (fC (.int 2)) af) (δ:=[some S,some (ay T),none,some (az T),some (.bl b),none,none]) (n:=2) rfl (by decide)
   have body:∀ (i:Int) (o5:Option D),∃ o5',((aC (aB 5 (vI (fC .non))) (aC (sL 6 (okN cP) (hV 5 (bY cP) (aa (ae 1) af)) (sIf (cO (fT (ae 4)) (bT (fT (ak (fn (aT cP)) (aa (ae 6) af))))) (cD (vI (fC (.bl false)))) aW)) (aC (sIf (dY (fT (ae 4)) (cO (bT (fT (ak (fn dB) (aa (ae 5) (aa (f2 (gI0 fun i j=>.int (i - j)) (ak cH (aa (ae 3) af)) (fC (.int 1))) af))))) (bT (fT (ak (fn g9) (aa (ae 3) (aa (ae 5) af))))))) (cD (vI (fC (.bl false)))) aW) (aC (sIf (cO (dY (bT (fT (ae 4))) (fT (f2 eV (ae 5) (fC .non)))) (fT (f2 i8 (ae 1) (ae 3)))) (cD (vI (fC (.bl false)))) aW) (sIf (fT (ae 4)) (ly 5) aW)))))) [some S,some (ay T),some (.int i),some (az T),some (.bl b),o5,none]=some (.nx [some S,some (ay T),some (.int i),some (az T),some (.bl b),o5',none]):=by
    intro i o5
    cases b with
    | true =>
     obtain ⟨U,cU⟩:=hdue
     have epo:=uZ (iO T) hs (by omega) (by omega) hb cU
     have ff:=C4 (by omega) (cU.bk600 (by omega) hb) (cU.fi (by omega) (by omega) hb) (oW (by omega) cU.dia)
     have lf:(fpt U (m+1) ps0).length=m:=by rw [AW];rfl
     have ip:=mI (m9 (fpt U (m+1) ps0)) (fun p mp=>(ff p mp).mono (by decide))
     have em:(((m+1:Nat):Int) - 1)=((fpt U (m+1) ps0).length:Int):=by rw [lf];omega
     have li:rG T (fpt U (m+1) ps0)=true:=by
      have a:=vZ (T:=T) (by decide) ff
      rw [lf] at a
      rw [a]
      refine (cU.li _).mpr ?_
      exact zD (by omega) (cU.bk600 (by omega) hb) cU.dia cU.clo (cU.fi (by omega) (by omega) hb) (oW (by omega) cU.dia)
     have fl:=xE (fY T) (by rw [lf];exact hs) (by omega) hbT (m9 (fpt U (m+1) ps0)) ff
     rw [li] at fl
     have gx:bY cP [ay T]=some (.ok (.lst ((fpt U (m+1) ps0).map fr))):=Ex epo
     have own':own (.lst ((fpt U (m+1) ps0).map fr))=true:=by rw [own];exact gM _
     have tr:sL 6 (okN cP) (hV 5 (bY cP) (aa (ae 1) af)) (sIf (cO (fT (ae 4)) (bT (fT (ak (fn (aT cP)) (aa (ae 6) af))))) (cD (vI (fC (.bl false)))) aW) [some S,some (ay T),some (.int i),some (az T),some (.bl true),some .non,none]=some (.nx [some S,some (ay T),some (.int i),some (az T),some (.bl true),some (.lst ((fpt U (m+1) ps0).map fr)),none]):=by
      unfold sL
      have z:hV 5 (bY cP) (aa (ae 1) af) [some S,some (ay T),some (.int i),some (az T),some (.bl true),some .non,none]=some (.nx [some S,some (ay T),some (.int i),some (az T),some (.bl true),some (.lst ((fpt U (m+1) ps0).map fr)),none]):=by
       unfold hV
       have z0:aa (ae 1) af [some S,some (ay T),some (.int i),some (az T),some (.bl true),some .non,none]=some [ay T]:=rfl
       rw [z0]
       dsimp only [Option.bind_some]
       rw [gx]
       dsimp only [Option.bind_some]
       rw [if_pos own']
       rfl
      rw [z]
      rfl
     refine ⟨some (.lst []),au (dD (bB rfl)) (au tr (au (bQ ?_ rfl) (au (bQ ?_ rfl) (dc rfl (x0 rfl)))))⟩
     . simp only [ae,fC,f2,fT,asB,bT,dY,cO,af,aa,ak,gI0,Zc,Option.map_some,Zd,Ze,Bool.not_true,len,em,ip,fl]
     . simp only [ae,fC,f2,fT,asB,bT,dY,cO,Zc,Option.map_some,Zd,Ze,Bool.not_true,Bool.not_false,bn,eV,bn,ne]
    | false =>
     obtain ⟨r,hr⟩:=hdue
     have bt:xR [ay T]:=⟨ay T,T,m+1,r,iO T,hs,by omega,fun i j=>(hb i j).mono (by decide),hr,rfl⟩
     have gx:bY cP [ay T]=some (.error cP):=zw (D9 bt) bt
     have tr:sL 6 (okN cP) (hV 5 (bY cP) (aa (ae 1) af)) (sIf (cO (fT (ae 4)) (bT (fT (ak (fn (aT cP)) (aa (ae 6) af))))) (cD (vI (fC (.bl false)))) aW) [some S,some (ay T),some (.int i),some (az T),some (.bl false),some .non,none]=some (.nx [some S,some (ay T),some (.int i),some (az T),some (.bl false),some .non,none]):=by
      unfold sL
      have z:hV 5 (bY cP) (aa (ae 1) af) [some S,some (ay T),some (.int i),some (az T),some (.bl false),some .non,none]=some (.ex cP [some S,some (ay T),some (.int i),some (az T),some (.bl false),some .non,none]):=by
       unfold hV
       have z0:aa (ae 1) af [some S,some (ay T),some (.int i),some (az T),some (.bl false),some .non,none]=some [ay T]:=rfl
       rw [z0]
       dsimp only [Option.bind_some]
       rw [gx]
       rfl
      rw [z]
      dsimp only [Option.bind_some]
      rw [if_pos k1]
      have z2:sIf (cO (fT (ae 4)) (bT (fT (ak (fn (aT cP)) (aa (ae 6) af))))) (cD (vI (fC (.bl false)))) aW [some S,some (ay T),some (.int i),some (az T),some (.bl false),some .non,some (.exc cP)]=some (.nx [some S,some (ay T),some (.int i),some (az T),some (.bl false),some .non,some (.exc cP)]):=bQ (by simp only [ae,fT,asB,bT,cO,af,aa,ak,Zc,Option.map_some,Zd,Ze,Bool.not_true,ED]) rfl
      show ((sIf _ _ _ [some S,some (ay T),some (.int i),some (az T),some (.bl false),some .non,some (.exc cP)]).bind _)=_
      rw [z2]
      rfl
     refine ⟨some .non,au (dD (bB rfl)) (au tr (au (bQ rfl rfl) (au (bQ ?_ rfl) (bQ rfl rfl))))⟩
     simp only [ae,fC,f2,fT,asB,bT,dY,cO,Zc,Option.map_some,Zd,Ze,Bool.not_true,Bool.not_false,bn,eV,bn,ne]
   obtain ⟨_,w,o2,o5,rfl⟩:=lN (i:=2) (s:=((aC (aB 5 (vI (fC .non))) (aC (sL 6 (okN cP) (hV 5 (bY cP) (aa (ae 1) af)) (sIf (cO (fT (ae 4)) (bT (fT (ak (fn (aT cP)) (aa (ae 6) af))))) (cD (vI (fC (.bl false)))) aW)) (aC (sIf (dY (fT (ae 4)) (cO (bT (fT (ak (fn dB) (aa (ae 5) (aa (f2 (gI0 fun i j=>.int (i - j)) (ak cH (aa (ae 3) af)) (fC (.int 1))) af))))) (bT (fT (ak (fn g9) (aa (ae 3) (aa (ae 5) af))))))) (cD (vI (fC (.bl false)))) aW) (aC (sIf (cO (dY (bT (fT (ae 4))) (fT (f2 eV (ae 5) (fC .non)))) (fT (f2 i8 (ae 1) (ae 3)))) (cD (vI (fC (.bl false)))) aW) (sIf (fT (ae 4)) (ly 5) aW))))))) (fun δ=>∃ o2 o5,δ=[some S,some (ay T),o2,some (az T),some (.bl b),o5,none]) ((List.range 2).map fun (i:Nat)=>D.int (i:Int)) [some S,some (ay T),none,some (az T),some (.bl b),none,none] ⟨_,_,rfl⟩ (by
    rintro d hd _ ⟨o2,o5,rfl⟩
    obtain ⟨i,_,rfl⟩:=Zn.mp hd
    obtain ⟨o5',h⟩:=body (i:Int) o5
    exact ⟨_,h,_,_,rfl⟩)
   exact d7 (au st1 (au (dD st2) (au (bW hv w) (bV (bB rfl)))))
end
theorem Dh {l:PySem.W.OpenLaw} {w:World} {K:PySem.W.Frag} {h:Heap} {mg:Str->Option Value} {fa:Addr} (X:K.In h) (G:h.Ns mainGlobals mg) (hfa:mg "law" = some (.ref fa)) {f0 f1 f3 f4 f5 f6 f7 f8 f9 f10 f11 f12 f13 f14 f15 f16 f17 f18 f19 f20 f21 f22 f23 f24 f25 f26 f27 f28 f29 f30 f31 f32 f33 f34 f35 f36 f37 f38 f39 f40 f41:Addr} {f2:Addr} {od2 an2:Option Addr} {sl2:Array (Option Value)} {oc2 kV2 dc2 pm2 cd2 ct2:Value} {f42:Addr} {od42 an42:Option Addr} {sl42:Array (Option Value)} {oc42 kV42 dc42 pm42 cd42 ct42:Value} {T2 nT2:Nat} {oT2:Value} {dT2:Option Addr} {sT2:Array (Option Value)} {tk2:Tok} {cW cP w1 w2 w3 w4 w5 w6:Addr}
 (a0:FK K "is_whole" iH f0) (a1:FK K "common_divisor" dQ f1) (a3:FK K "lowest" kH f3) (a4:FK K "plus" qQ f4) (a5:FK K "minus" mQ f5) (a6:FK K "summed" kG f6) (a7:FK K "times" mP f7) (a8:FK K "less" qR f8) (a9:FK K "keeps" mS f9) (a10:FK K "tighter" jB f10) (a11:FK K "bound_sum" gZ f11) (a12:FK K "copied" kK f12) (a13:FK K "closed" kL f13) (a14:FK K "with_noughts" eY f14) (a15:FK K "straight_ways" eF f15) (a16:FK K "ring_through" fg f16) (a17:FK K "lead_through" fq f17) (a18:FK K "point_of" gG f18) (a19:FK K "closed_or_refused" ck f19) (a20:FK K "filled" kJ f20) (a21:FK K "value_beside" eZ f21) (a22:FK K "between" jC f22) (a23:FK K "greatest" iI f23) (a24:FK K "least" mR f24) (a25:FK K "_law_cell_at" fE f25) (a26:FK K "_law_mixed" gy f26) (a27:FK K "_law_lowest" fV f27) (a28:FK K "_law_less" g7 f28) (a29:FK K "_law_any_table" dR f29) (a30:FK K "_law_part" g4 f30) (a31:FK K "_law_planted" fu f31) (a32:FK K "_law_table_by" eI f32) (a33:FK K "_law_whole" gw f33) (a34:FK K "_law_sum" iJ f34) (a35:FK K "_law_tighter" ft f35) (a36:FK K "_law_closed" fW f36) (a37:FK K "_law_keeps" gz f37) (a38:FK K "_law_lies" g6 f38) (a39:FK K "_law_is_no_point" cC f39) (a40:FK K "_law_is_point" eJ f40) (a41:FK K "_law_asked" gA f41)
 (a2:PySem.W.nsIn K mainGlobals "fraction" = some (some (.ref f2))) (l2:K.lookup f2=some ⟨oc2,od2,.func (PySem.W.fnOf "fraction" "fraction" (dw eM) (bH eM) (ap eM) (.ref T2) kV2 dc2 pm2 an2 cd2 ct2),sl2⟩) (t2:K.lookup T2=some ⟨oT2,dT2,.seq #[.int 1 tk2] nT2,sT2⟩) (c2:PySem.W.codeIn K cd2 "fraction" = true) (k2:PySem.W.keepIn K (.ref f2)=true)
 (a42:PySem.W.nsIn K mainGlobals "law" = some (some (.ref f42))) (l42:K.lookup f42=some ⟨oc42,od42,.func (PySem.W.fnOf "law" "law" (dw jT) (bH jT) (ap jT) .none kV42 dc42 pm42 an42 cd42 ct42),sl42⟩) (c42:PySem.W.codeIn K cd42 "law" = true) (k42:PySem.W.keepIn K (.ref f42)=true)
 (n_WatchError:PySem.W.nsIn K mainGlobals "WatchError" = some (some (.ref cW))) (n_NoPoint:PySem.W.nsIn K mainGlobals "NoPoint" = some (some (.ref cP))) (n_NoAct:PySem.W.nsIn K mainGlobals "NoAct" = some (some (.ref w1))) (n_NoAsk:PySem.W.nsIn K mainGlobals "NoAsk" = some (some (.ref w2))) (n_NoFraction:PySem.W.nsIn K mainGlobals "NoFraction" = some (some (.ref w3))) (n_NoMove:PySem.W.nsIn K mainGlobals "NoMove" = some (some (.ref w4))) (n_NoNet:PySem.W.nsIn K mainGlobals "NoNet" = some (some (.ref w5))) (n_NoWait:PySem.W.nsIn K mainGlobals "NoWait" = some (some (.ref w6))) (q1:PySem.W.isClsIn K cP=true) (q2:PySem.W.findIn K (.ref cP) "__getattribute__" = some (some (.builtin "BaseException.__getattribute__"))) (q3:PySem.W.findIn K (.ref cP) "__getattr__" = some none) (q4:PySem.W.findIn K (.ref cP) "__class__" = some (some (.builtin "object.__class__"))) (q5:PySem.W.specialIn K (.builtin "object.__class__") "__get__" = some (some (.builtin "getset_descriptor.__get__"))) (q6:PySem.W.takesIn K (.builtin "object.__class__")=some true) (q7:PySem.W.mroIn K cP (.type "object")=some true) (q8:PySem.W.subIn K (.ref cP) (.type "BaseException")=some true) (q9:PySem.W.excIn K cP [.type "ValueError",.type "Exception",.type "BaseException",.type "object"] "ValueError.__new__" = true) (qa:PySem.W.isClsIn K cW=true) (qb:PySem.W.typeIn K (.ref cW)=some (.type "type")) (qc:PySem.W.subIn K (.ref cW) (.type "BaseException")=some true) (qd:PySem.W.subIn K (.ref cP) (.ref cW)=some true) (qe:PySem.W.kitOne K (.ref cP) (.ref cP)=some true) (qf:PySem.W.kitOne K (.ref cP) (.type "ValueError")=some true) (qg:PySem.W.kitAny K (.ref cP) [.ref w1,.ref w2,.ref w3,.ref w4,.ref w5,.ref w6]=some false)
 (z_isinstance:PySem.W.nsIn K mainGlobals "isinstance" = some none) (z_int:PySem.W.nsIn K mainGlobals "int" = some none) (z_bool:PySem.W.nsIn K mainGlobals "bool" = some none) (z_list:PySem.W.nsIn K mainGlobals "list" = some none) (z_range:PySem.W.nsIn K mainGlobals "range" = some none) (z_len:PySem.W.nsIn K mainGlobals "len" = some none) (z_dict:PySem.W.nsIn K mainGlobals "dict" = some none) (z_abs:PySem.W.nsIn K mainGlobals "abs" = some none) (z_any:PySem.W.nsIn K mainGlobals "any" = some none) (z_ValueError:PySem.W.nsIn K mainGlobals "ValueError" = some none) (z_tuple:PySem.W.nsIn K mainGlobals "tuple" = some none) (z_all:PySem.W.nsIn K mainGlobals "all" = some none) :
 ∃ fd:FuncData,(∀ (s:Shared) (v:Value),BindsTo s fd ⟨[v],[]⟩ [("_law_script",v)])/\∀ base:Heap,K.In base->base.Ns mainGlobals mg->FnOk l.prog w K mg base CX0 9 fa fd ["_law_script"] (spLaw K):=by
 have e:=hfa.symm.trans (PySem.W.mg_of X G a42)
 cases e
 have m_isinstance:=PySem.W.mg_none_of X G z_isinstance
 have m_int:=PySem.W.mg_none_of X G z_int
 have m_bool:=PySem.W.mg_none_of X G z_bool
 have m_list:=PySem.W.mg_none_of X G z_list
 have m_range:=PySem.W.mg_none_of X G z_range
 have m_len:=PySem.W.mg_none_of X G z_len
 have m_dict:=PySem.W.mg_none_of X G z_dict
 have m_abs:=PySem.W.mg_none_of X G z_abs
 have m_any:=PySem.W.mg_none_of X G z_any
 have m_ValueError:=PySem.W.mg_none_of X G z_ValueError
 have m_tuple:=PySem.W.mg_none_of X G z_tuple
 have m_all:=PySem.W.mg_none_of X G z_all
 have m_WatchError:=PySem.W.mg_of X G n_WatchError
 have m_NoPoint:=PySem.W.mg_of X G n_NoPoint
 have m_NoAct:=PySem.W.mg_of X G n_NoAct
 have m_NoAsk:=PySem.W.mg_of X G n_NoAsk
 have m_NoFraction:=PySem.W.mg_of X G n_NoFraction
 have m_NoMove:=PySem.W.mg_of X G n_NoMove
 have m_NoNet:=PySem.W.mg_of X G n_NoNet
 have m_NoWait:=PySem.W.mg_of X G n_NoWait
 have hCK:Bw K cW cP w1 w2 w3 w4 w5 w6:=⟨⟨q1,q2,q3,q4,q5,q6,q7,q8⟩,q9,qa,qb,qc,qd,qe,qf,qg⟩
 obtain ⟨_,F0,b0⟩:=a0.get (ps:=["thing"]) fun _ _ _ _ _ _ us hl=>match us,hl with | [_],_=>rfl
 obtain ⟨_,F1,b1⟩:=a1.get (ps:=["number","above_nought"]) fun _ _ _ _ _ _ us hl=>match us,hl with | [_,_],_=>rfl
 have F2:=Bc (st:=eM) l2 c2 k2
 have b2:=F2.binds (ps:=["top","bottom"]) (ds:=[]) t2 rfl fun _ _ _ _ _ _ us hl=>match us,hl with | [_,_],_=>⟨_,rfl,rfl⟩
 have e2:=F2.binds (ps:=["top","bottom"]) (ds:=[.int 1 tk2]) t2 rfl fun _ _ _ _ _ _ us hl=>by
  have h1:us.length=1:=by simpa using hl
  match us,h1 with
  | [_],_=>exact ⟨_,rfl,rfl⟩
 obtain ⟨_,F3,b3⟩:=a3.get (ps:=["top","bottom"]) fun _ _ _ _ _ _ us hl=>match us,hl with | [_,_],_=>rfl
 obtain ⟨_,F4,b4⟩:=a4.get (ps:=["one","other"]) fun _ _ _ _ _ _ us hl=>match us,hl with | [_,_],_=>rfl
 obtain ⟨_,F5,b5⟩:=a5.get (ps:=["one","other"]) fun _ _ _ _ _ _ us hl=>match us,hl with | [_,_],_=>rfl
 obtain ⟨_,F6,b6⟩:=a6.get (ps:=["one","top","bottom"]) fun _ _ _ _ _ _ us hl=>match us,hl with | [_,_,_],_=>rfl
 obtain ⟨_,F7,b7⟩:=a7.get (ps:=["one","other"]) fun _ _ _ _ _ _ us hl=>match us,hl with | [_,_],_=>rfl
 obtain ⟨_,F8,b8⟩:=a8.get (ps:=["one","other"]) fun _ _ _ _ _ _ us hl=>match us,hl with | [_,_],_=>rfl
 obtain ⟨_,F9,b9⟩:=a9.get (ps:=["part","bound"]) fun _ _ _ _ _ _ us hl=>match us,hl with | [_,_],_=>rfl
 obtain ⟨_,F10,b10⟩:=a10.get (ps:=["one","other"]) fun _ _ _ _ _ _ us hl=>match us,hl with | [_,_],_=>rfl
 obtain ⟨_,F11,b11⟩:=a11.get (ps:=["one","other"]) fun _ _ _ _ _ _ us hl=>match us,hl with | [_,_],_=>rfl
 obtain ⟨_,F12,b12⟩:=a12.get (ps:=["table"]) fun _ _ _ _ _ _ us hl=>match us,hl with | [_],_=>rfl
 obtain ⟨_,F13,b13⟩:=a13.get (ps:=["table"]) fun _ _ _ _ _ _ us hl=>match us,hl with | [_],_=>rfl
 obtain ⟨_,F14,b14⟩:=a14.get (ps:=["table"]) fun _ _ _ _ _ _ us hl=>match us,hl with | [_],_=>rfl
 obtain ⟨_,F15,b15⟩:=a15.get (ps:=["size"]) fun _ _ _ _ _ _ us hl=>match us,hl with | [_],_=>rfl
 obtain ⟨_,F16,b16⟩:=a16.get (ps:=["bounds","ways","middle"]) fun _ _ _ _ _ _ us hl=>match us,hl with | [_,_,_],_=>rfl
 obtain ⟨_,F17,b17⟩:=a17.get (ps:=["bounds","ways","middle"]) fun _ _ _ _ _ _ us hl=>match us,hl with | [_,_,_],_=>rfl
 obtain ⟨_,F18,b18⟩:=a18.get (ps:=["table"]) fun _ _ _ _ _ _ us hl=>match us,hl with | [_],_=>rfl
 obtain ⟨_,F19,b19⟩:=a19.get (ps:=["table"]) fun _ _ _ _ _ _ us hl=>match us,hl with | [_],_=>rfl
 obtain ⟨_,F20,b20⟩:=a20.get (ps:=["bounds","values"]) fun _ _ _ _ _ _ us hl=>match us,hl with | [_,_],_=>rfl
 obtain ⟨_,F21,b21⟩:=a21.get (ps:=["bounds","placed","thing"]) fun _ _ _ _ _ _ us hl=>match us,hl with | [_,_,_],_=>rfl
 obtain ⟨_,F22,b22⟩:=a22.get (ps:=["low","high"]) fun _ _ _ _ _ _ us hl=>match us,hl with | [_,_],_=>rfl
 obtain ⟨_,F23,b23⟩:=a23.get (ps:=["parts"]) fun _ _ _ _ _ _ us hl=>match us,hl with | [_],_=>rfl
 obtain ⟨_,F24,b24⟩:=a24.get (ps:=["parts"]) fun _ _ _ _ _ _ us hl=>match us,hl with | [_],_=>rfl
 obtain ⟨_,F25,b25⟩:=a25.get (ps:=["_law_script","_law_k"]) fun _ _ _ _ _ _ us hl=>match us,hl with | [_,_],_=>rfl
 obtain ⟨_,F26,b26⟩:=a26.get (ps:=["_law_cell","_law_k"]) fun _ _ _ _ _ _ us hl=>match us,hl with | [_,_],_=>rfl
 obtain ⟨_,F27,b27⟩:=a27.get (ps:=["_law_top","_law_bottom"]) fun _ _ _ _ _ _ us hl=>match us,hl with | [_,_],_=>rfl
 obtain ⟨_,F28,b28⟩:=a28.get (ps:=["_law_one","_law_other"]) fun _ _ _ _ _ _ us hl=>match us,hl with | [_,_],_=>rfl
 obtain ⟨_,F29,b29⟩:=a29.get (ps:=["_law_seed","_law_k","_law_most"]) fun _ _ _ _ _ _ us hl=>match us,hl with | [_,_,_],_=>rfl
 obtain ⟨_,F30,b30⟩:=a30.get (ps:=["_law_cell"]) fun _ _ _ _ _ _ us hl=>match us,hl with | [_],_=>rfl
 obtain ⟨_,F31,b31⟩:=a31.get (ps:=["_law_script","_law_point"]) fun _ _ _ _ _ _ us hl=>match us,hl with | [_,_],_=>rfl
 obtain ⟨_,F32,b32⟩:=a32.get (ps:=["_law_script"]) fun _ _ _ _ _ _ us hl=>match us,hl with | [_],_=>rfl
 obtain ⟨_,F33,b33⟩:=a33.get (ps:=["_law_found"]) fun _ _ _ _ _ _ us hl=>match us,hl with | [_],_=>rfl
 obtain ⟨_,F34,b34⟩:=a34.get (ps:=["_law_one","_law_other"]) fun _ _ _ _ _ _ us hl=>match us,hl with | [_,_],_=>rfl
 obtain ⟨_,F35,b35⟩:=a35.get (ps:=["_law_one","_law_other"]) fun _ _ _ _ _ _ us hl=>match us,hl with | [_,_],_=>rfl
 obtain ⟨_,F36,b36⟩:=a36.get (ps:=["_law_table"]) fun _ _ _ _ _ _ us hl=>match us,hl with | [_],_=>rfl
 obtain ⟨_,F37,b37⟩:=a37.get (ps:=["_law_part_here","_law_bound"]) fun _ _ _ _ _ _ us hl=>match us,hl with | [_,_],_=>rfl
 obtain ⟨_,F38,b38⟩:=a38.get (ps:=["_law_table","_law_point"]) fun _ _ _ _ _ _ us hl=>match us,hl with | [_,_],_=>rfl
 obtain ⟨_,F39,b39⟩:=a39.get (ps:=["_law_e"]) fun _ _ _ _ _ _ us hl=>match us,hl with | [_],_=>rfl
 obtain ⟨_,F40,b40⟩:=a40.get (ps:=["_law_found","_law_many"]) fun _ _ _ _ _ _ us hl=>match us,hl with | [_,_],_=>rfl
 obtain ⟨_,F41,b41⟩:=a41.get (ps:=["_law_script"]) fun _ _ _ _ _ _ us hl=>match us,hl with | [_],_=>rfl
 have F42:=zA (st:=jT) l42 c42 k42
 refine ⟨PySem.W.fnOf "law" "law" (dw jT) (bH jT) (ap jT) .none kV42 dc42 pm42 an42 cd42 ct42,fun s v=>.of_eq rfl,fun base _ _=>?_⟩
 have his_whole:=mkP l.prog w base X G a0 (tz F0   m_isinstance m_int m_bool) b0
 have hcommon_divisor:=mkP l.prog w base X G a1 (kT F1   ) b1
 have hless:=mkP l.prog w base X G a8 (AN F8   ) b8
 have htighter:=mkP l.prog w base X G a10 (uN F10   ) b10
 have hbound_sum:=mkP l.prog w base X G a11 (rj F11   ) b11
 have hcopied:=mkF l.prog w base X G a12 (xo F12   m_list) b12
 have hstraight_ways:=mkF l.prog w base X G a15 (lF F15   m_range) b15
 have hLcell_at:=mkP l.prog w base X G a25 (mF F25   m_len) b25
 have hLmixed:=mkF l.prog w base X G a26 (po F26   ) b26
 have hLlowest:=mkP l.prog w base X G a27 (n8 F27   m_abs) b27
 have hLless:=mkP l.prog w base X G a28 (rA F28   ) b28
 have hLwhole:=mkP l.prog w base X G a33 (pj F33   m_isinstance m_int m_bool) b33
 have hLsum:=mkP l.prog w base X G a34 (tG F34   ) b34
 have hLtighter:=mkP l.prog w base X G a35 (mD F35   ) b35
 have hLkeeps:=mkP l.prog w base X G a37 (pp F37   ) b37
 have hLis_no_point:=mkP l.prog w base X G a39 (jM F39  hCK m_WatchError m_NoPoint m_NoAct m_NoAsk m_NoFraction m_NoMove m_NoNet m_NoWait m_isinstance m_ValueError) b39
 have hLis_no_pointW:Dn l.prog w K mg base 1 "_law_is_no_point" ["_law_e"] (fn (aT cP)):=⟨⟨_,_,jj F39 m_isinstance m_ValueError hCK m_WatchError m_NoPoint m_NoAct m_NoAsk m_NoFraction m_NoMove m_NoNet m_NoWait,PySem.W.mg_of X G a39.ns,a39.kp,b39⟩⟩
 have hlowest:=mkP l.prog w base X G a3 (xm F3 hcommon_divisor  ) b3
 have hsummed:=mkP l.prog w base X G a6 (xl F6 hcommon_divisor  ) b6
 have htimes:=mkP l.prog w base X G a7 (yS F7 hcommon_divisor  ) b7
 have hwith_noughts:=mkF l.prog w base X G a14 (mo F14 hcopied  m_range m_len) b14
 have hlead_through:=mkM l.prog w base X G a17 (mC F17 hbound_sum htighter  m_range m_len) b17
 have hgreatest:=mkP l.prog w base X G a23 (tF F23 hless  ) b23
 have hleast:=mkP l.prog w base X G a24 (yU F24 hless  ) b24
 have hLany_table:=mkF l.prog w base X G a29 (kU F29 hLmixed  m_range) b29
 have hLpart:=mkP l.prog w base X G a30 (rm F30 hLlowest  ) b30
 have hLplanted:=mkF l.prog w base X G a31 (mE F31 hLless hLmixed hLcell_at  m_range m_len) b31
 have hLclosed:=mkF l.prog w base X G a36 (n9 F36 hLtighter hLsum  m_range m_any m_list m_len) b36
 have hLlies:=mkF l.prog w base X G a38 (rz F38 hLkeeps hLless  m_range m_len) b38
 have hLis_point:=mkF l.prog w base X G a40 (lH F40 hLlowest hLwhole  m_isinstance m_list m_len m_tuple m_all) b40
 have hfraction:Has l.prog w K mg base 3 "fraction" ["top","bottom"] (fn bu):=⟨⟨_,_,l0 F2 hlowest his_whole  ,PySem.W.mg_of X G a2,k2,b2⟩⟩
 have hfractionD:sd l.prog w K mg base 3 "fraction" ["top","bottom"] [1] (fn bu):=⟨⟨_,_,_,l0 F2 hlowest his_whole  ,PySem.W.mg_of X G a2,k2,.cons ⟨_,rfl⟩ .nil,e2⟩⟩
 have hplus:=mkP l.prog w base X G a4 (AM F4 hsummed  ) b4
 have hminus:=mkP l.prog w base X G a5 (yT F5 hsummed  ) b5
 have hLtable_by:=mkF l.prog w base X G a32 (lG F32 hLcell_at hLplanted hLpart hLany_table  m_int m_range) b32
 have hkeeps:=mkP l.prog w base X G a9 (yV F9 hfractionD hless  ) b9
 have hbetween:=mkP l.prog w base X G a22 (uO F22 htimes hfraction hfractionD hminus hplus  ) b22
 have hLasked:=mkP l.prog w base X G a41 (pq F41 hLtable_by hLcell_at hLpart hLplanted hLclosed  m_range) b41
 have hring_through:=mkF l.prog w base X G a16 (mB F16 hbound_sum hkeeps hfractionD  m_range m_len) b16
 have hvalue_beside:=mkF l.prog w base X G a21 (mt F21 hbetween hminus hplus hgreatest hleast hfractionD  ) b21
 have hclosed:=mkF l.prog w base X G a13 (xp F13 hwith_noughts hstraight_ways hring_through hlead_through hkeeps hfractionD  m_range m_len) b13
 have hfilled:=mkF l.prog w base X G a20 (xn F20 hminus hvalue_beside  m_dict m_range m_len) b20
 have hclosed_or_refused:=mkF l.prog w base X G a19 (jk F19 hclosed  ) b19
 have hclosed_or_refusedX:uu l.prog w K mg base 7 "closed_or_refused" ["table"] (cN cP):=⟨⟨_,_,i7 F19 hclosed   m_NoPoint q9,PySem.W.mg_of X G a19.ns,a19.kp,b19⟩⟩
 have hpoint_of:=mkF l.prog w base X G a18 (tw F18 hfilled hclosed_or_refused hfractionD  ) b18
 have hpoint_ofX:uu l.prog w K mg base 8 "point_of" ["table"] (bY cP):=⟨⟨_,_,rh F18 hfilled hclosed_or_refused hfractionD   hclosed_or_refusedX,PySem.W.mg_of X G a18.ns,a18.kp,b18⟩⟩
 exact CH F42 hLasked hpoint_of hLis_point hLlies hLis_no_point hCK hLis_no_pointW hpoint_ofX m_WatchError m_NoPoint m_NoAct m_NoAsk m_NoFraction m_NoMove m_NoNet m_NoWait m_range m_list m_len
theorem facts {l:PySem.W.OpenLaw} {w:World} {K:PySem.W.Frag} {h:Heap} {mg:Str->Option Value} {fa:Addr} (e:FF K=FE) (X:K.In h) (G:h.Ns mainGlobals mg) (hfa:mg "law" = some (.ref fa)) :
 ∃ fd:FuncData,(∀ (s:Shared) (v:Value),BindsTo s fd ⟨[v],[]⟩ [("_law_script",v)])/\∀ base:Heap,K.In base->base.Ns mainGlobals mg->FnOk l.prog w K mg base CX0 9 fa fd ["_law_script"] (spLaw K):=by
 obtain ⟨e0,e⟩:=Prod.mk.inj e
 obtain ⟨e1,e⟩:=Prod.mk.inj e
 obtain ⟨e2,e⟩:=Prod.mk.inj e
 obtain ⟨t2,e⟩:=Prod.mk.inj e
 obtain ⟨e3,e⟩:=Prod.mk.inj e
 obtain ⟨e4,e⟩:=Prod.mk.inj e
 obtain ⟨e5,e⟩:=Prod.mk.inj e
 obtain ⟨e6,e⟩:=Prod.mk.inj e
 obtain ⟨e7,e⟩:=Prod.mk.inj e
 obtain ⟨e8,e⟩:=Prod.mk.inj e
 obtain ⟨e9,e⟩:=Prod.mk.inj e
 obtain ⟨e10,e⟩:=Prod.mk.inj e
 obtain ⟨e11,e⟩:=Prod.mk.inj e
 obtain ⟨e12,e⟩:=Prod.mk.inj e
 obtain ⟨e13,e⟩:=Prod.mk.inj e
 obtain ⟨e14,e⟩:=Prod.mk.inj e
 obtain ⟨e15,e⟩:=Prod.mk.inj e
 obtain ⟨e16,e⟩:=Prod.mk.inj e
 obtain ⟨e17,e⟩:=Prod.mk.inj e
 obtain ⟨e18,e⟩:=Prod.mk.inj e
 obtain ⟨e19,e⟩:=Prod.mk.inj e
 obtain ⟨e20,e⟩:=Prod.mk.inj e
 obtain ⟨e21,e⟩:=Prod.mk.inj e
 obtain ⟨e22,e⟩:=Prod.mk.inj e
 obtain ⟨e23,e⟩:=Prod.mk.inj e
 obtain ⟨e24,e⟩:=Prod.mk.inj e
 obtain ⟨e25,e⟩:=Prod.mk.inj e
 obtain ⟨e26,e⟩:=Prod.mk.inj e
 obtain ⟨e27,e⟩:=Prod.mk.inj e
 obtain ⟨e28,e⟩:=Prod.mk.inj e
 obtain ⟨e29,e⟩:=Prod.mk.inj e
 obtain ⟨e30,e⟩:=Prod.mk.inj e
 obtain ⟨e31,e⟩:=Prod.mk.inj e
 obtain ⟨e32,e⟩:=Prod.mk.inj e
 obtain ⟨e33,e⟩:=Prod.mk.inj e
 obtain ⟨e34,e⟩:=Prod.mk.inj e
 obtain ⟨e35,e⟩:=Prod.mk.inj e
 obtain ⟨e36,e⟩:=Prod.mk.inj e
 obtain ⟨e37,e⟩:=Prod.mk.inj e
 obtain ⟨e38,e⟩:=Prod.mk.inj e
 obtain ⟨e39,e⟩:=Prod.mk.inj e
 obtain ⟨e40,e⟩:=Prod.mk.inj e
 obtain ⟨e41,e⟩:=Prod.mk.inj e
 obtain ⟨e42,e⟩:=Prod.mk.inj e
 obtain ⟨z_isinstance,e⟩:=Prod.mk.inj e
 obtain ⟨z_int,e⟩:=Prod.mk.inj e
 obtain ⟨z_bool,e⟩:=Prod.mk.inj e
 obtain ⟨z_list,e⟩:=Prod.mk.inj e
 obtain ⟨z_range,e⟩:=Prod.mk.inj e
 obtain ⟨z_len,e⟩:=Prod.mk.inj e
 obtain ⟨z_dict,e⟩:=Prod.mk.inj e
 obtain ⟨z_abs,e⟩:=Prod.mk.inj e
 obtain ⟨z_any,e⟩:=Prod.mk.inj e
 obtain ⟨z_ValueError,e⟩:=Prod.mk.inj e
 obtain ⟨z_tuple,e⟩:=Prod.mk.inj e
 obtain ⟨z_all,e⟩:=Prod.mk.inj e
 obtain ⟨n_WatchError,e⟩:=Prod.mk.inj e
 obtain ⟨n_NoPoint,e⟩:=Prod.mk.inj e
 obtain ⟨n_NoAct,e⟩:=Prod.mk.inj e
 obtain ⟨n_NoAsk,e⟩:=Prod.mk.inj e
 obtain ⟨n_NoFraction,e⟩:=Prod.mk.inj e
 obtain ⟨n_NoMove,e⟩:=Prod.mk.inj e
 obtain ⟨n_NoNet,e⟩:=Prod.mk.inj e
 obtain ⟨n_NoWait,e⟩:=Prod.mk.inj e
 obtain ⟨q1,e⟩:=Prod.mk.inj e
 obtain ⟨q2,e⟩:=Prod.mk.inj e
 obtain ⟨q3,e⟩:=Prod.mk.inj e
 obtain ⟨q4,e⟩:=Prod.mk.inj e
 obtain ⟨q5,e⟩:=Prod.mk.inj e
 obtain ⟨q6,e⟩:=Prod.mk.inj e
 obtain ⟨q7,e⟩:=Prod.mk.inj e
 obtain ⟨q8,e⟩:=Prod.mk.inj e
 obtain ⟨q9,e⟩:=Prod.mk.inj e
 obtain ⟨qa,e⟩:=Prod.mk.inj e
 obtain ⟨qb,e⟩:=Prod.mk.inj e
 obtain ⟨qc,e⟩:=Prod.mk.inj e
 obtain ⟨qd,e⟩:=Prod.mk.inj e
 obtain ⟨qe,e⟩:=Prod.mk.inj e
 obtain ⟨qf,e⟩:=Prod.mk.inj e
 have qg:=e
 obtain ⟨a2,k2,_,_,_,_,_,_,_,_,_,l2,c2⟩:=Hd.fv_inv e2
 obtain ⟨_,_,_,_,_,t2⟩:=Hd.intsAt_inv t2
 obtain ⟨a42,k42,_,_,_,_,_,_,_,_,_,l42,c42⟩:=Hd.fv_inv e42
 exact Dh X G hfa (FK.of2 e0) (FK.of2 e1) (FK.of2 e3) (FK.of2 e4) (FK.of2 e5) (FK.of2 e6) (FK.of2 e7) (FK.of2 e8) (FK.of2 e9) (FK.of2 e10) (FK.of2 e11) (FK.of2 e12) (FK.of2 e13) (FK.of2 e14) (FK.of2 e15) (FK.of2 e16) (FK.of2 e17) (FK.of2 e18) (FK.of2 e19) (FK.of2 e20) (FK.of2 e21) (FK.of2 e22) (FK.of2 e23) (FK.of2 e24) (FK.of2 e25) (FK.of2 e26) (FK.of2 e27) (FK.of2 e28) (FK.of2 e29) (FK.of2 e30) (FK.of2 e31) (FK.of2 e32) (FK.of2 e33) (FK.of2 e34) (FK.of2 e35) (FK.of2 e36) (FK.of2 e37) (FK.of2 e38) (FK.of2 e39) (FK.of2 e40) (FK.of2 e41) a2 l2 t2 c2 k2 a42 l42 c42 k42 n_WatchError n_NoPoint n_NoAct n_NoAsk n_NoFraction n_NoMove n_NoNet n_NoWait q1 q2 q3 q4 q5 q6 q7 q8 q9 qa qb qc qd qe qf qg z_isinstance z_int z_bool z_list z_range z_len z_dict z_abs z_any z_ValueError z_tuple z_all
end
end Mine
open PySem PySem.W PyProof.Rows
set_option maxRecDepth 100000 in
set_option maxHeartbeats 0 in
theorem PySem.Challenge.cw_watchyard_k24_a_point_holds : PySem.Challenge.rw_watchyard_k24_a_point.Holds := by
 w_on;refine holds_law Mine.said fun said=>?_
 refine holds_open (q:=Mine.VW) (loose:=Mine.LO) (Xt:=Mine.XT) (XP:=XL Mine.VW []) (Yf:=Hook.obs Mine.HK) (Ya:=Hook.val Mine.HK) (YP:=Hook.says Mine.HK) (N:=7064) Mine.left (Hook.of Mine.HK) (Hook.keeps Mine.HK) (fun s e=>xl_of s (Bool.and_eq_true_iff.mp e).1) XL.keeps (by rfl) (by rfl) (by rfl) (fun s e=>recFacts_of (Bool.and_eq_true_iff.mp e).2) (by rfl) (by first | assumption | decide +kernel) (by decide +kernel) ⟨rfl,rfl,rfl,rfl,rfl,by decide +kernel⟩ ?hw ?hc
 (case hw=>w_witness2)
 exact Hd.walkE (l:=PySem.Challenge.rw_watchyard_k24_a_point) (n:=63) (k:=9) (x:="_law_script") (T:=fun K=>Mine.FF K=Mine.FE) (sp:=fun K=>Dl.spLaw K) rfl (by decide) rfl ⟨rfl,by decide,by decide⟩ (fun _ _ Y=>Y) (fun _ _ _ _ _ e X G h=>Mine.facts e X G h) fun _ _ a ns hl _ hS=>⟨a,ns,rfl,hS,hl,fun _=>rfl⟩
