import PyProof.Rows.All
import Wide.All
import OpenK.AllK
import Wide.FinOn
import Lean
import PyProof.EqAt
import PyProof.EqKinds
import PyProof.TupleCall
import PyProof.NeKinds
import KE.IntBitsLaws
import KE.KUnpack
import KE.LcSums
import PyProof.ConsumeWalk
import PyProof.DictWalks
import PyProof.Rows.DictUnroll
import PyProof.Rows.Range3
import PyProof.Draws
import PyProof.EnumStmt
import PyProof.EnumFor
import PyProof.Walk
import PyProof.WalkLemmas
import PyProof.AutoSeq1
import PyProof.RaisesAny
import PyProof.MeetsIn
import PyProof.ZipIter
import PyProof.Rows.SetFrom
import PyProof.Rows.SortShell
import PyProof.Rows.SortWalk
import PyProof.CollectWalk
import KE.KDictSum
import KE.BitLaws
import PyProof.SetRoads
import PyProof.SumWalkG
import PyProof.ListRange
import PySem.Challenge.RW_watchyard_k29_whole_chains
set_option Elab.async false
set_option linter.all false
set_option maxRecDepth 100000
set_option Elab.async false
set_option linter.all false
set_option maxRecDepth 100000
set_option maxHeartbeats 4000000
abbrev Za:=@Option.bind_eq_some_iff
abbrev Zb:=@Option.map_eq_some_iff
abbrev Zc:=@Option.bind_some
abbrev Zd:=@List.getElem?_cons_zero
abbrev Ze:=@List.getElem?_cons_succ
abbrev Zf:=@List.set_cons_zero
abbrev Zg:=@List.set_cons_succ
abbrev Zh:=@List.length_append
abbrev Zi:=@List.length_map
abbrev Zj:=@List.length_cons
abbrev Zk:=@List.mem_cons_self
abbrev Zl:=@List.mem_cons_of_mem
abbrev Zm:=@List.mem_singleton
abbrev Zn:=@List.mem_map
abbrev Zo:=@List.mem_range
abbrev Zp:=@List.mem_append
abbrev Zq:=@List.mem_cons
abbrev Zr:=@List.map_cons
abbrev Zs:=@List.getD_eq_getElem?_getD
abbrev Zt:=@List.getElem?_eq_getElem
abbrev Zu:=@PySem.W.Frag
abbrev Zv:=@Bool.false_ne_true
abbrev Zw:=@Nat.lt_of_lt_of_le
abbrev Zx:=@List.mem_append_right
abbrev Zy:=@List.mem_append_left
abbrev Zz:=@List.size_toArray
abbrev ZA:=@Option.some.inj
abbrev ZB:=@Nat.ne_of_lt
abbrev ZC:=@Nat.lt_irrefl
abbrev ZD:=@List.getElem?_map
abbrev ZE:=@List.getElem?_eq_some_iff
abbrev ZF:=@List.length_range
abbrev ZG:=@Nat.le_refl
abbrev ZH:=@Bool.and_eq_true
namespace L2
open PySem PySem.Spec PyProof.Rows
def cQ (s:Stmt):Arguments:=match s with
 | .FunctionDef _ a _ _ _ _ _ _ _ _=>a
 | _=>{ posonlyargs:=[],args:=[],vararg:=none,kwonlyargs:=[],kw_defaults:=[],kwarg:=none,defaults:=[] }
def bD (s:Stmt):List Stmt:=match s with
 | .FunctionDef _ _ b _ _ _ _ _ _ _=>b
 | _=>[]
def aq (s:Stmt):Scope:=match s with
 | .FunctionDef _ _ _ _ _ _ sc _ _ _=>sc
 | _=>{ kind:=.function,names:=[],isGenerator:=false,isCoroutine:=false }
end L2
namespace Hd
open PySem PySem.Spec PyProof.Rows L2 PySem.W
def Kof (as:List Addr) (h:Heap):Zu:=as.filterMap fun a=>(h.get? a).map fun o=>(a,o)
theorem wC:∀ (as:List Addr) (h:Heap),(Kof as h).In h
 | [],h,a,o,e=>by cases e
 | b :: r,h,a,o,e=>by
  unfold Kof at e;rw [List.filterMap_cons] at e;cases hb:h.get? b with
  | none=>rw [hb] at e;exact wC r h a o e
  | some o' =>
   rw [hb] at e;change List.lookup a ((b,o') :: Kof r h)=some o at e;rw [List.lookup_cons] at e;cases hc:a == b with
   | true=>rw [hc] at e;cases e;rw [beq_iff_eq.mp hc];exact hb
   | false=>rw [hc] at e;exact wC r h a o e
def hk {α:Type} (as:List Addr) (F:Zu->α) (v:α):PySem.W.Hook where
 α:=α
 obs:=fun s=>F (Kof as s.heap)
 val:=fun _=>v
 says:=fun _ h=>∃ K:Zu,K.In h/\F K=v
 of:=fun _ s e=>⟨_,wC as s.heap,e⟩
 keeps:=fun _ _ _ x k=>Exists.elim x fun K y=>⟨K,y.1.keeps k,y.2⟩
abbrev FT:=Option (Option Value)×Bool×Option (Str×Str×Arguments×FuncBody×Scope×Addr×List (Str×Addr)×Value×Addr×Bool)
def fv (K:Zu) (x:Str) (f:Addr):FT :=
 (PySem.W.nsIn K mainGlobals x,PySem.W.keepIn K (.ref f),match K.lookup f with
  | some ⟨_,_,.func d,_⟩=>some (d.name,d.qualname,d.params,d.body,d.scope,d.globals,d.closure,d.defaults,d.builtins,PySem.W.codeIn K d.code x)
  | _=>none)
def fe (x:Str) (st:Stmt) (dV:Value) (f:Addr):FT:=(some (some (Value.ref f)),true,some (x,x,cQ st,FuncBody.stmts (bD st),aq st,mainGlobals,[],dV,builtinsNs,true))
theorem fv_inv {K:Zu} {x:Str} {st:Stmt} {dV:Value} {f:Addr} (e:fv K x f=fe x st dV f):PySem.W.nsIn K mainGlobals x=some (some (.ref f))/\PySem.W.keepIn K (.ref f)=true /\
 ∃ (oc:Value) (od:Option Addr) (kV doc pm:Value) (an:Option Addr) (cdv ct:Value) (osl:Array (Option Value)),K.lookup f=some ⟨oc,od,.func (PySem.W.fnOf x x (cQ st) (bD st) (aq st) dV kV doc pm an cdv ct),osl⟩/\PySem.W.codeIn K cdv x=true:=by
 obtain ⟨e1,e2⟩:=Prod.mk.inj e;obtain ⟨e2,e3⟩:=Prod.mk.inj e2;refine ⟨e1,e2,?_⟩;revert e3;cases K.lookup f with
 | none=>intro e3;cases e3
 | some o =>
  obtain ⟨oc,od,dt,osl⟩:=o;cases dt with
  | func d =>
   intro e3;obtain ⟨a1,a2,a3,a4,a5,a6,a7,a8,a9,b1,b2,b3,b4,b5,b6⟩:=d;obtain ⟨h1,y1⟩:=Prod.mk.inj (ZA e3);obtain ⟨h2,y2⟩:=Prod.mk.inj y1;obtain ⟨h3,y3⟩:=Prod.mk.inj y2;obtain ⟨h4,y4⟩:=Prod.mk.inj y3;obtain ⟨h5,y5⟩:=Prod.mk.inj y4;obtain ⟨h6,y6⟩:=Prod.mk.inj y5;obtain ⟨h7,y7⟩:=Prod.mk.inj y6;obtain ⟨h8,y8⟩:=Prod.mk.inj y7;obtain ⟨h9,y9⟩:=Prod.mk.inj y8;clear e3 y1 y2 y3 y4 y5 y6 y7 y8;dsimp only at h1 h2 h3 h4 h5 h6 h7 h8 h9 y9;subst h1 h2 h3 h4 h5 h6 h7 h8 h9;exact ⟨oc,od,a9,b1,b2,b3,b4,b5,osl,rfl,y9⟩
  | _=>intro e3;cases e3
def intsAt (K:Zu) (T:Addr):Option (List (Option Int)):=match K.lookup T with
 | some ⟨_,_,.seq xs _,_⟩=>some (xs.toList.map fun v=>match v with | .int i _=>some i | _=>none)
 | _=>none
theorem intsAt_inv {K:Zu} {T:Addr} {i:Int} (e:intsAt K T=some [some i]):∃ (oT:Value) (dT:Option Addr) (tk:Tok) (nT:Nat) (sT:Array (Option Value)),K.lookup T=some ⟨oT,dT,.seq #[.int i tk] nT,sT⟩:=by
 unfold intsAt at e;revert e;cases K.lookup T with
 | none=>intro e;cases e
 | some o =>
  obtain ⟨oc,od,dt,osl⟩:=o;cases dt with
  | seq xs n =>
   intro e;obtain ⟨l⟩:=xs;cases l with
   | nil=>cases e
   | cons v r =>
    cases r with
    | cons v' r'=>cases (List.cons.inj (ZA e)).2
    | nil =>
     cases v with
     | int j t=>cases e;exact ⟨_,_,_,_,_,rfl⟩
     | _=>cases e
  | _=>intro e;cases e
theorem left_one {p q:Program} {loose:List Str} {Xt:Shared->Bool} {α:Type} {Yf:Shared->α} {Ya:World->α} {N:Nat} {g0:Bool} {m₀:Nat} {ann:Option Value}
 (e:opening p=plainProg p.main.scope.names) (hN:Nat.ble 600 N=true) (f:∀ s,fenceModules? p s=some s)
 (size:∀ w:World,((boot_heap w.params).isNs mainGlobals,(boot_heap w.params).objs.size,(boot_heap w.params).nsMap mainGlobals "__annotations__")=(true,m₀,ann))
 (Ee:∀ (w:World) (os:OsState),(topRun treeTable p w m₀ ann N ⟨boot_heap w.params,Array.mk [],boot_drawn,boot_toks,os⟩ (topStub p)).map (fun s=>((staticsOk (importedModules p.main.body) (boot_heap w.params) s.heap && namesBound p s.heap && gensDone s && laidKept (boot_heap w.params) s.heap),Yf s))=some (true,Ya w))
 (Ed:∀ (w:World) (os:OsState),(topRun treeTable p w m₀ ann N ⟨boot_heap w.params,Array.mk [],boot_drawn,boot_toks,os⟩ (topStub p)).map (fun s=>openSeen q loose (importedModules p.main.body) Xt g0 s)=some (openGood q loose)):LeftO p q loose Xt Yf Ya N g0:=fun w=>by
 obtain ⟨⟨h,gs,d,k,os⟩,e,e'⟩:=Zb.mp (boot_open e hN f w);obtain ⟨rfl,e'⟩:=Prod.mk.inj e';obtain ⟨rfl,e'⟩:=Prod.mk.inj e';obtain ⟨rfl,rfl⟩:=Prod.mk.inj e';obtain ⟨z1,z2⟩:=Prod.mk.inj (size w);obtain ⟨z2,z3⟩:=Prod.mk.inj z2;obtain ⟨s₁,r,l⟩:=Zb.mp (Ee w os);obtain ⟨l1,l3⟩:=Prod.mk.inj l;have l2:=Ed w os;rw [r] at l2;have t:topFrom treeTable p w N ⟨boot_heap w.params,Array.mk [],boot_drawn,boot_toks,os⟩=some s₁:=by
  unfold topFrom;dsimp only;rw [z1,z2,z3];show (topRun treeTable p w m₀ ann N ⟨boot_heap w.params,Array.mk [],boot_drawn,boot_toks,os⟩ (topStub p)).bind _=_;rw [r];show (match staticsOk (importedModules p.main.body) (boot_heap w.params) s₁.heap && namesBound p s₁.heap && gensDone s₁ && laidKept (boot_heap w.params) s₁.heap with | true=>_ | false=>_)=_
  rw [l1]
 unfold openEnds;rw [e];show ((topFrom treeTable p w N _).map _)=_;rw [t];exact congrArg some (Prod.ext (ZA l2) l3)
end Hd
namespace Mine
open PySem PySem.Spec PyProof.Rows L2
def top (i:Nat):Stmt:=PySem.Challenge.pw_watchyard_k29_whole_chains.main.body.getD i (.Pass ⟨0,0,0,0⟩)
abbrev iI:Stmt:=top 10
abbrev c6:Stmt:=top 11
abbrev rH:Stmt:=top 18
abbrev jI:Stmt:=top 21
abbrev g4:Stmt:=top 22
abbrev kK:Stmt:=top 24
abbrev dD:Stmt:=top 28
abbrev dZ:Stmt:=top 42
abbrev gf:Stmt:=top 43
abbrev gb:Stmt:=top 44
abbrev g7:Stmt:=top 45
abbrev gg:Stmt:=top 46
abbrev iK:Stmt:=top 50
abbrev kH:Stmt:=top 13
abbrev kG:Stmt:=top 16
abbrev m6:Stmt:=top 17
abbrev dU:Stmt:=top 27
abbrev dY:Stmt:=top 30
abbrev iJ:Stmt:=top 39
abbrev m9:Stmt:=top 40
abbrev g6:Stmt:=top 47
abbrev gd:Stmt:=top 48
abbrev gh:Stmt:=top 49
abbrev iL:Stmt:=top 51
abbrev dF:Stmt:=top 52
abbrev dM:Stmt:=top 12
abbrev rG:Stmt:=top 14
abbrev m7:Stmt:=top 15
abbrev nc:Stmt:=top 20
abbrev jJ:Stmt:=top 38
abbrev dX:Stmt:=top 29
abbrev gY:Stmt:=top 35
abbrev dW:Stmt:=top 37
abbrev kL:Stmt:=top 26
abbrev kJ:Stmt:=top 36
abbrev bR:Stmt:=top 34
abbrev gD:Stmt:=top 32
abbrev gZ:Stmt:=top 33
abbrev dE:Stmt:=top 53
abbrev c7:Stmt:=top 54
abbrev j0:Stmt:=top 55
abbrev PW:Program:=PySem.Challenge.pw_watchyard_k29_whole_chains
abbrev VW:Program:=PySem.W.view PW [1,2,3,4,5,6,7,8,10,11,13,14,15,16,17,18,20,21,22,24,26,27,28,29,30,32,33,34,35,36,37,38,39,40,42,43,44,45,46,47,48,49,50,51,52,53,54,55]
abbrev LO:List Str:=["fraction"]
def ads:List Addr:=[mainGlobals,146,153,161,168,175,182,189,196,203,210,217,224,229,236,243,248,255,262,269,276,283,290,295,300,307,314,321,328,335,342,349,356,363,370,377,382,387,392,399,406,411,145,152,160,167,174,181,188,195,202,209,216,223,228,235,242,247,254,261,268,275,282,289,294,299,306,313,320,327,334,341,348,355,362,369,376,381,386,391,398,405,410,154,24,23,49,48,118,117,61,60,37,36,137,136,80,79,99,98]
abbrev FF (K:Zu):=(Hd.fv K "is_whole" 146,
 Hd.fv K "common_divisor" 153,
 Hd.fv K "fraction" 161,
 Hd.intsAt K 154,
 Hd.fv K "lowest" 168,
 Hd.fv K "plus" 175,
 Hd.fv K "minus" 182,
 Hd.fv K "summed" 189,
 Hd.fv K "times" 196,
 Hd.fv K "less" 203,
 Hd.fv K "keeps" 210,
 Hd.fv K "tighter" 217,
 Hd.fv K "bound_sum" 224,
 Hd.fv K "copied" 229,
 Hd.fv K "closed" 236,
 Hd.fv K "with_noughts" 243,
 Hd.fv K "straight_ways" 248,
 Hd.fv K "ring_through" 255,
 Hd.fv K "lead_through" 262,
 Hd.fv K "point_of" 269,
 Hd.fv K "far_point" 276,
 Hd.fv K "closed_or_refused" 283,
 Hd.fv K "far_value" 290,
 Hd.fv K "filled" 295,
 Hd.fv K "value_beside" 300,
 Hd.fv K "between" 307,
 Hd.fv K "greatest" 314,
 Hd.fv K "least" 321,
 Hd.fv K "_law_cell_at" 328,
 Hd.fv K "_law_mixed" 335,
 Hd.fv K "_law_whole" 342,
 Hd.fv K "_law_less" 349,
 Hd.fv K "_law_keeps" 356,
 Hd.fv K "_law_lies" 363,
 Hd.fv K "_law_order" 370,
 Hd.fv K "_law_bound" 377,
 Hd.fv K "_law_sum" 382,
 Hd.fv K "_law_due" 387,
 Hd.fv K "_law_is_table" 392,
 Hd.fv K "_law_no_point" 399,
 Hd.fv K "_law_far_right" 406,
 Hd.fv K "law" 411,
 PySem.W.nsIn K mainGlobals "isinstance",
 PySem.W.nsIn K mainGlobals "int",
 PySem.W.nsIn K mainGlobals "bool",
 PySem.W.nsIn K mainGlobals "list",
 PySem.W.nsIn K mainGlobals "range",
 PySem.W.nsIn K mainGlobals "len",
 PySem.W.nsIn K mainGlobals "dict",
 PySem.W.nsIn K mainGlobals "sum",
 PySem.W.nsIn K mainGlobals "any",
 PySem.W.nsIn K mainGlobals "all",
 PySem.W.nsIn K mainGlobals "sorted",
 PySem.W.nsIn K mainGlobals "WatchError",
 PySem.W.nsIn K mainGlobals "NoPoint",
 PySem.W.nsIn K mainGlobals "NoAct",
 PySem.W.nsIn K mainGlobals "NoAsk",
 PySem.W.nsIn K mainGlobals "NoFraction",
 PySem.W.nsIn K mainGlobals "NoMove",
 PySem.W.nsIn K mainGlobals "NoNet",
 PySem.W.nsIn K mainGlobals "NoWait",
 PySem.W.isClsIn K 49,
 PySem.W.findIn K (.ref 49) "__getattribute__",
 PySem.W.findIn K (.ref 49) "__getattr__",
 PySem.W.findIn K (.ref 49) "__class__",
 PySem.W.specialIn K (.builtin "object.__class__") "__get__",
 PySem.W.takesIn K (.builtin "object.__class__"),
 PySem.W.mroIn K 49 (.type "object"),
 PySem.W.subIn K (.ref 49) (.type "BaseException"),
 PySem.W.excIn K 49 [.type "ValueError",.type "Exception",.type "BaseException",.type "object"] "ValueError.__new__",
 PySem.W.isClsIn K 24,
 PySem.W.typeIn K (.ref 24),
 PySem.W.subIn K (.ref 24) (.type "BaseException"),
 PySem.W.subIn K (.ref 49) (.ref 24),
 PySem.W.kitOne K (.ref 49) (.ref 49),
 PySem.W.kitOne K (.ref 49) (.type "ValueError"),
 PySem.W.kitAny K (.ref 49) [.ref 118,.ref 61,.ref 37,.ref 137,.ref 80,.ref 99])
abbrev FE:=(Hd.fe "is_whole" iI .none 146,
 Hd.fe "common_divisor" c6 .none 153,
 Hd.fe "fraction" dM (.ref 154) 161,
 (some [some (1:Int)]),
 Hd.fe "lowest" kH .none 168,
 Hd.fe "plus" rG .none 175,
 Hd.fe "minus" m7 .none 182,
 Hd.fe "summed" kG .none 189,
 Hd.fe "times" m6 .none 196,
 Hd.fe "less" rH .none 203,
 Hd.fe "keeps" nc .none 210,
 Hd.fe "tighter" jI .none 217,
 Hd.fe "bound_sum" g4 .none 224,
 Hd.fe "copied" kK .none 229,
 Hd.fe "closed" kL .none 236,
 Hd.fe "with_noughts" dU .none 243,
 Hd.fe "straight_ways" dD .none 248,
 Hd.fe "ring_through" dX .none 255,
 Hd.fe "lead_through" dY .none 262,
 Hd.fe "point_of" gD .none 269,
 Hd.fe "far_point" gZ .none 276,
 Hd.fe "closed_or_refused" bR .none 283,
 Hd.fe "far_value" gY .none 290,
 Hd.fe "filled" kJ .none 295,
 Hd.fe "value_beside" dW .none 300,
 Hd.fe "between" jJ .none 307,
 Hd.fe "greatest" iJ .none 314,
 Hd.fe "least" m9 .none 321,
 Hd.fe "_law_cell_at" dZ .none 328,
 Hd.fe "_law_mixed" gf .none 335,
 Hd.fe "_law_whole" gb .none 342,
 Hd.fe "_law_less" g7 .none 349,
 Hd.fe "_law_keeps" gg .none 356,
 Hd.fe "_law_lies" g6 .none 363,
 Hd.fe "_law_order" gd .none 370,
 Hd.fe "_law_bound" gh .none 377,
 Hd.fe "_law_sum" iK .none 382,
 Hd.fe "_law_due" iL .none 387,
 Hd.fe "_law_is_table" dF .none 392,
 Hd.fe "_law_no_point" dE .none 399,
 Hd.fe "_law_far_right" c7 .none 406,
 Hd.fe "law" j0 .none 411,
 (some none:Option (Option Value)),
 (some none:Option (Option Value)),
 (some none:Option (Option Value)),
 (some none:Option (Option Value)),
 (some none:Option (Option Value)),
 (some none:Option (Option Value)),
 (some none:Option (Option Value)),
 (some none:Option (Option Value)),
 (some none:Option (Option Value)),
 (some none:Option (Option Value)),
 (some none:Option (Option Value)),
 (some (some (.ref 24)):Option (Option Value)),
 (some (some (.ref 49)):Option (Option Value)),
 (some (some (.ref 118)):Option (Option Value)),
 (some (some (.ref 61)):Option (Option Value)),
 (some (some (.ref 37)):Option (Option Value)),
 (some (some (.ref 137)):Option (Option Value)),
 (some (some (.ref 80)):Option (Option Value)),
 (some (some (.ref 99)):Option (Option Value)),
 (true:Bool),
 (some (some (.builtin "BaseException.__getattribute__")):Option (Option Value)),
 (some none:Option (Option Value)),
 (some (some (.builtin "object.__class__")):Option (Option Value)),
 (some (some (.builtin "getset_descriptor.__get__")):Option (Option Value)),
 (some true:Option Bool),
 (some true:Option Bool),
 (some true:Option Bool),
 (true:Bool),
 (true:Bool),
 (some (.type "type"):Option Value),
 (some true:Option Bool),
 (some true:Option Bool),
 (some true:Option Bool),
 (some true:Option Bool),
 (some false:Option Bool))
abbrev HK:PySem.W.Hook:=Hd.hk ads FF FE
abbrev XT (s:Shared):Bool:=PySem.W.xlAt VW [] s && PySem.W.recOk [] s
theorem Ee (w:World) (os:OsState):(PySem.W.topRun treeTable PW w 11 (some (.ref 6)) 6958 ⟨PySem.W.boot_heap w.params,Array.mk [],PySem.W.boot_drawn,PySem.W.boot_toks,os⟩ (PySem.W.topStub PW)).map (fun s=>((PySem.W.staticsOk (importedModules PW.main.body) (PySem.W.boot_heap w.params) s.heap && PySem.W.namesBound PW s.heap && PySem.W.gensDone s && PySem.W.laidKept (PySem.W.boot_heap w.params) s.heap),PySem.W.Hook.obs HK s))=some (true,PySem.W.Hook.val HK w):=by
 rw [PySem.W.Fast.te14082659384304107361]
 kernel_rfl
theorem Ed (w:World) (os:OsState):(PySem.W.topRun treeTable PW w 11 (some (.ref 6)) 6958 ⟨PySem.W.boot_heap w.params,Array.mk [],PySem.W.boot_drawn,PySem.W.boot_toks,os⟩ (PySem.W.topStub PW)).map (fun s=>PySem.W.openSeen VW LO (importedModules PW.main.body) XT true s)=some (PySem.W.openGood VW LO):=by
 rw [PySem.W.Fast.te14082659384304107361,PySem.W.Fast.te4187177175401517315]
 kernel_rfl
theorem left:PySem.W.LeftO PW VW LO XT (PySem.W.Hook.obs HK) (PySem.W.Hook.val HK) 6958 :=
 Hd.left_one (m₀:=11) (ann:=some (.ref 6)) (by kernel_rfl) (by kernel_rfl) (fun s=>by kernel_rfl) (fun w=>by kernel_rfl) Ee Ed
theorem said:PySem.Challenge.rw_watchyard_k29_whole_chains.wellSaid=true:=by
 rw [PySem.W.Fast.te9446332074065402090]
 kernel_rfl
end Mine
namespace L2
open PySem PySem.Spec PyProof.Rows
abbrev Key:=Sum Int Str
def oQ:Key->Value->Bool
 | .inl k,v=>Value.isInt k v
 | .inr x,v=>Value.isStrOf x v
def Ho (w:World):Key->Int
 | .inl k=>hashInt k
 | .inr x=>hashStr w x
theorem bW:∀ {k:Key} {v:Value},oQ k v=true->(∃ i t,k=Sum.inl i/\v=Value.int i t) \/ (∃ x t,k=Sum.inr x/\v=Value.str x t)
 | .inl i,v,h=>by
  obtain ⟨t,e⟩:=Value.isInt_shape (k:=i) (v:=v) h;exact .inl ⟨i,t,rfl,e⟩
 | .inr x,v,h=>by
  obtain ⟨t,e⟩:=Value.isStrOf_shape (x:=x) (v:=v) h;exact .inr ⟨x,t,rfl,e⟩
theorem yL (i:Int) (t:Tok):oQ (.inl i) (.int i t)=true:=by simp [oQ,Value.isInt]
theorem yJ (x:Str) (t:Tok):oQ (.inr x) (.str x t)=true:=by simp [oQ,Value.isStrOf]
theorem E9 (a b:Int):decide ((Sum.inl a:Key)=Sum.inl b)=(a == b):=by
 by_cases e:a=b
 . subst e;simp
 . have h:¬ (Sum.inl a:Key)=Sum.inl b:=fun q=>e (Sum.inl.inj q)
   rw [decide_eq_false h];exact (beq_eq_false_iff_ne.mpr e).symm
theorem E6 (a b:Str):decide ((Sum.inr a:Key)=Sum.inr b)=decide (a=b):=by
 by_cases e:a=b
 . subst e;simp
 . have h:¬ (Sum.inr a:Key)=Sum.inr b:=fun q=>e (Sum.inr.inj q)
   rw [decide_eq_false h,decide_eq_false e]
theorem E8 (a:Int) (b:Str):decide ((Sum.inl a:Key)=Sum.inr b)=false:=decide_eq_false (fun q=>nomatch q)
theorem E7 (a:Str) (b:Int):decide ((Sum.inr a:Key)=Sum.inl b)=false:=decide_eq_false (fun q=>nomatch q)
def bM (prog:Program) (w:World):PySem.KeyKind prog w Key where
 is:=oQ
 hash:=Ho w
 inj:=fun v a b ha hb=>by
  rcases bW ha with ⟨i,t,rfl,rfl⟩ | ⟨x,t,rfl,rfl⟩
  . rcases bW hb with ⟨j,u,rfl,e⟩ | ⟨y,u,rfl,e⟩
    . injection e with e1 _;rw [e1]
    . exact nomatch e
  . rcases bW hb with ⟨j,u,rfl,e⟩ | ⟨y,u,rfl,e⟩
    . exact nomatch e
    . injection e with e1 _;rw [e1]
 byValue:=fun k v h=>by
  rcases bW h with ⟨i,t,rfl,rfl⟩ | ⟨x,t,rfl,rfl⟩ <;> rfl
 pyHash:=fun hv h=>by
  rcases bW hv with ⟨i,t,rfl,rfl⟩ | ⟨x,t,rfl,rfl⟩
  . exact wpAny_pyHash_int h
  . exact wpAny_pyHash_str h
 eqBool:=fun hu hv h=>by
  rcases bW hu with ⟨i,t,rfl,rfl⟩ | ⟨x,t,rfl,rfl⟩
  . rcases bW hv with ⟨j,u,rfl,rfl⟩ | ⟨y,u,rfl,rfl⟩
    . rw [E9] at h;exact wpAny_eqBool_int h
    . rw [E8] at h;exact SeqAt.EqAt.int_str i t y u _ _ _ _ h
  . rcases bW hv with ⟨j,u,rfl,rfl⟩ | ⟨y,u,rfl,rfl⟩
    . rw [E7] at h;exact SeqAt.EqAt.str_int x t j u _ _ _ _ h
    . rw [E6] at h;exact wpAny_eqBool_str h
 «strs»:=fun k x t v h=>by
  rcases bW h with ⟨i,u,rfl,e⟩ | ⟨y,u,rfl,e⟩
  . exact nomatch e
  . injection e with e1 _
    subst e1;cases v <;> rfl
theorem uc (prog:Program) (w:World) (i:Int) (t:Tok):(bM prog w).is (.inl i) (.int i t)=true:=yL i t
theorem ua (prog:Program) (w:World) (x:Str) (t:Tok):(bM prog w).is (.inr x) (.str x t)=true:=yJ x t
end L2
namespace L2
open PySem PySem.Spec PyProof.Rows
inductive V where
 | non | bl (b:Bool) | int (i:Int) | str (x:Str) | byt (b:Array UInt8) | flt (b:UInt64) | ref (a:Addr) | ty (n:String)
 deriving DecidableEq
def RelV:V->Value->Prop
 | .non,u=>u=Value.none
 | .bl b,u=>u=Value.bool b
 | .int i,u=>∃ t,u=Value.int i t
 | .str x,u=>∃ t,u=Value.str x t
 | .byt b,u=>∃ t,u=Value.bytes b t
 | .flt b,u=>∃ t,u=Value.float b t
 | .ref a,u=>u=Value.ref a
 | .ty n,u=>u=Value.type n
abbrev Vals:List V->List Value->Prop:=Paired RelV
theorem Vals.length {xs:List V} {us:List Value} (r:Vals xs us):xs.length=us.length:=Paired.length r
theorem Vals.get:∀ {xs:List V} {us:List Value} {i:Nat} {x:V},Vals xs us->xs[i]? = some x->∃ u,us[i]? = some u/\RelV x u
 | _,_,_,_,.nil,e=>by simp at e
 | _,_,0,_,.cons r _,e=>by simp at e;subst e;exact ⟨_,rfl,r⟩
 | _,_,i+1,x,.cons _ t,e=>by
  obtain ⟨u,h1,h2⟩:=Vals.get (i:=i) (x:=x) t (by simpa using e)
  exact ⟨u,by simpa using h1,h2⟩
theorem Vals.set {x:V} {u:Value} (r:RelV x u):∀ {xs:List V} {us:List Value} (i:Nat),Vals xs us->Vals (xs.set i x) (us.set i u)
 | _,_,_,.nil=>.nil
 | _,_,0,.cons _ t=>.cons r t
 | _,_,i+1,.cons q t=>.cons q (Vals.set r i t)
theorem Vals.append:∀ {xs ys:List V} {us ws:List Value},Vals xs us->Vals ys ws->Vals (xs++ys) (us++ws)
 | _,_,_,_,.nil,s=>s
 | _,_,_,_,.cons r t,s=>.cons r (Vals.append t s)
theorem Vals.take:∀ {xs:List V} {us:List Value} (n:Nat),Vals xs us->Vals (xs.take n) (us.take n)
 | _,_,0,_=>.nil
 | _,_,_+1,.nil=>.nil
 | _,_,n+1,.cons r t=>.cons r (Vals.take n t)
theorem Vals.drop:∀ {xs:List V} {us:List Value} (n:Nat),Vals xs us->Vals (xs.drop n) (us.drop n)
 | _,_,0,r=>r
 | _,_,_+1,.nil=>.nil
 | _,_,n+1,.cons _ t=>Vals.drop n t
def RelO:Option V->Option Value->Prop
 | some v,some u=>RelV v u
 | none,none=>True
 | _,_=>False
def KV {κ:Type}:List (κ×V)->List (κ×Value)->Prop:=Paired fun (p:κ×V) (q:κ×Value)=>p.1=q.1/\RelV p.2 q.2
def kV:Key->V
 | .inl i=>.int i
 | .inr x=>.str x
inductive HO where
 | lst (xs:List V)
 | tup (xs:List V)
 | dK (kvs:List (Key×V)) | dT (kvs:List (List Key×V))
 | set (S:Int->Bool) (n:Nat)
 | ins (C dx:Addr) (fs:List (Str×V))
 | own (x:Addr)
 | xd (fs:List (Str×V))
 | met (f x:Addr)
 | rng (lo hi:Int)
 | frz (o:Obj) (u:HO)
 | tbl (ps:Array Value)
 | ext (φ:Heap->Prop)
abbrev Hp:=Addr->Option HO
def upd (H:Hp) (a:Addr) (o:HO):Hp:=fun b=>if b=a then some o else H b
theorem aP {H:Hp} {a:Addr} {o:HO}:upd H a o a=some o:=by unfold upd;rw [if_pos rfl]
theorem aB {H:Hp} {a b:Addr} {o:HO} (h:b ≠ a):upd H a o b=H b:=by unfold upd;rw [if_neg h]
theorem GG {H:Hp} {a b:Addr} {o u:HO} (h:H a=some o) (h':H b=some u) (d:o ≠ u):a ≠ b:=by
 intro e;subst e;rw [h] at h';exact d (ZA h')
theorem bw {H:Hp} {a b:Addr} {o:HO} (h:H a=some o) (h':H b=none):a ≠ b:=by
 intro e;subst e;rw [h] at h';cases h'
section
variable (P:Program) (w:World)
def ObjOk (H:Hp) (h:Heap) (a:Addr):HO->Prop
 | .lst xs=>xs.length<=sizeLine/\∃ (its:List Value) (n:Nat),Vals xs its/\h.get? a=some { cls:=.type "list",data:=.seq its.toArray n }
 | .tup xs=>xs.length<=sizeLine/\∃ its:List Value,Vals xs its/\IsTup h a its.toArray
 | .dK kvs=>kvs.length<=sizeLine/\(a == sysModules)=false/\∃ vs,KV kvs vs/\h.DictOf (bM P w) a vs
 | .dT kvs=>kvs.length<=sizeLine/\(a == sysModules)=false/\∃ xs:List (List Key×Addr×Value),
  Paired (fun (p:List Key×V) (q:List Key×Addr×Value)=>p.1=q.1/\H q.2.1=some (.tup (p.1.map kV))/\RelV p.2 q.2.2) kvs xs /\
  ∃ o es ep,h.get? a=some o/\o.ExactDict/\o.data=.dict es ep/\es.toList=xs.map (entryOfKey (tupleKind (bM P w)))/\(xs.map (·.1)).Nodup
 | .set S n=>h.SetOf (intKind P w) a S n
 | .ins C dx fs=>H dx=some (.own a)/\fs.length<=1000/\dx ≠ a/\h.get? a=some (PySem.W.instObj C dx) /\
  ∃ mA,h.Ns1 dx mA/\(∀ f,RelO (fs.lookup f) (mA f))/\PySem.Within mA (fs.map (·.1))
 | .own _=>∃ o,h.get? a=some o
 | .xd fs=>∃ mA,h.Ns1 a mA/\∀ f,RelO (fs.lookup f) (mA f)
 | .rng lo hi=>∃ t u v,h.get? a=some { cls:=.type "range",data:=.fields #[.int lo t,.int hi u,.int 1 v] }
 | .frz o u=>h.get? a=some o/\ObjOk H h a u
 | .tbl ps=>h.get? a=some { cls:=.none,data:=.fields ps }
 | .met f x=>h.get? a=some (PySem.W.methodObj (.ref f) (.ref x))
 | .ext φ=>φ h/\(∃ o,h.get? a=some o)/\∀ h1 h2:Heap,φ h1->(∀ o,h1.get? a=some o->h2.get? a=some o)->φ h2
def HOk (H:Hp) (h:Heap):Prop:=∀ a o,H a=some o->ObjOk P w H h a o
end
section
variable {P:Program} {w:World} {H H':Hp} {h h':Heap} {a:Addr} {o:HO}
theorem ObjOk.lt (x:ObjOk P w H h a o):a < h.objs.size:=by
 cases o with
 | lst xs=>obtain ⟨_,_,_,_,e⟩:=x;exact Heap.lt_size e
 | tup xs=>obtain ⟨_,_,_,p⟩:=x;exact p.lt
 | dK kvs=>obtain ⟨_,_,_,_,o,_,_,e,_⟩:=x;exact Heap.lt_size e
 | dT kvs=>obtain ⟨_,_,_,_,o,_,_,e,_⟩:=x;exact Heap.lt_size e
 | set S n=>obtain ⟨o,_,_,_,e,_⟩:=x;exact Heap.lt_size e
 | ins C dx fs=>obtain ⟨_,_,_,e,_⟩:=x;exact Heap.lt_size e
 | own y=>obtain ⟨_,e⟩:=x;exact Heap.lt_size e
 | xd fs=>obtain ⟨_,⟨_,_,_,e,_⟩,_⟩:=x;exact Heap.lt_size e
 | rng lo hi=>obtain ⟨_,_,_,e⟩:=x;exact Heap.lt_size e
 | frz ob u=>obtain ⟨e,_⟩:=x;exact Heap.lt_size e
 | tbl ps=>exact Heap.lt_size (show h.get? a=some _ from x)
 | met f y=>exact Heap.lt_size (show h.get? a=some _ from x)
 | ext φ=>obtain ⟨_,⟨_,e⟩,_⟩:=x;exact Heap.lt_size e
theorem Paired.mapP {α β:Type} {F G:α->β->Prop}:∀ {l₁:List α} {l₂:List β},Paired F l₁ l₂->(∀ a b,F a b->G a b)->Paired G l₁ l₂
 | _,_,.nil,_=>.nil
 | _,_,.cons r t,f=>.cons (f _ _ r) (Paired.mapP t f)
theorem ObjOk.stay (x:ObjOk P w H h a o) (k:∀ b u,(b=a \/ H b=some (.own a))->h.get? b=some u->h'.get? b=some u)
 (ho:∀ b,H b=some (.own a)->H' b=some (.own a)) (ht:∀ b xs,H b=some (.tup xs)->H' b=some (.tup xs)):ObjOk P w H' h' a o:=by
 induction o with
 | lst xs=>obtain ⟨z,its,n,r,e⟩:=x;exact ⟨z,its,n,r,k _ _ (.inl rfl) e⟩
 | tup xs=>obtain ⟨z,its,r,ob,e,c⟩:=x;exact ⟨z,its,r,ob,k _ _ (.inl rfl) e,c⟩
 | dK kvs=>obtain ⟨z,y,vs,r,ob,es,ep,e,c⟩:=x;exact ⟨z,y,vs,r,ob,es,ep,k _ _ (.inl rfl) e,c⟩
 | dT kvs =>
  obtain ⟨z,y,xs,r,ob,es,ep,e,c⟩:=x;exact ⟨z,y,xs,Paired.mapP r fun p q z=>⟨z.1,ht _ _ z.2.1,z.2.2⟩,ob,es,ep,k _ _ (.inl rfl) e,c⟩
 | set S n=>obtain ⟨ob,es,ep,t,e,c⟩:=x;exact ⟨ob,es,ep,t,k _ _ (.inl rfl) e,c⟩
 | ins C dx fs =>
  obtain ⟨d,z,ne,e,mA,⟨od,es,ep,e2,c⟩,r⟩:=x;exact ⟨ho _ d,z,ne,k _ _ (.inl rfl) e,mA,⟨od,es,ep,k _ _ (.inr d) e2,c⟩,r⟩
 | own y=>obtain ⟨ob,e⟩:=x;exact ⟨ob,k _ _ (.inl rfl) e⟩
 | xd fs=>obtain ⟨mA,⟨od,es,ep,e,c⟩,r⟩:=x;exact ⟨mA,⟨od,es,ep,k _ _ (.inl rfl) e,c⟩,r⟩
 | rng lo hi=>obtain ⟨t,u,v,e⟩:=x;exact ⟨t,u,v,k _ _ (.inl rfl) e⟩
 | frz ob u ih=>obtain ⟨e,q⟩:=x;exact ⟨k _ _ (.inl rfl) e,ih q⟩
 | tbl ps =>
  have e:h.get? a=some { cls:=.none,data:=.fields ps }:=x;show h'.get? a=some { cls:=.none,data:=.fields ps };exact k a _ (.inl rfl) e
 | met f y =>
  have e:h.get? a=some (PySem.W.methodObj (.ref f) (.ref y)):=x;show h'.get? a=some (PySem.W.methodObj (.ref f) (.ref y));exact k a _ (.inl rfl) e
 | ext φ=>obtain ⟨p,⟨o,e⟩,st⟩:=x;exact ⟨st _ _ p fun o q=>k _ _ (.inl rfl) q,⟨o,k _ _ (.inl rfl) e⟩,st⟩
theorem HOk.lt (x:HOk P w H h) (e:H a=some o):a < h.objs.size:=(x a o e).lt
theorem HOk.fresh (x:HOk P w H h) (e:h.objs.size<=a):H a=none:=by
 cases q:H a with
 | none=>rfl
 | some u=>exact absurd (Zw (x.lt q) e) (ZC _)
theorem HOk.kept (x:HOk P w H h) (k:∀ b u,h.get? b=some u->h'.get? b=some u):HOk P w H h':=fun a o e =>
 (x a o e).stay (fun b u _ q=>k b u q) (fun _ q=>q) fun _ _ q=>q
theorem HOk.laid (x:HOk P w H h) (k:∀ b u,h.get? b=some u->h'.get? b=some u) (hp:h.objs.size<=a) (new:ObjOk P w (upd H a o) h' a o):HOk P w (upd H a o) h':=fun b u e=>by
 have hn:=x.fresh hp
 by_cases hb:b=a
 . subst hb;rw [aP] at e;cases e;exact new
 . rw [aB hb] at e;exact (x b u e).stay (fun c v _ q=>k c v q) (fun c q=>by rw [aB (bw q hn)];exact q) fun c xs q=>by rw [aB (bw q hn)];exact q
end
def Rd (H:Hp) (a:Addr) (u:HO):Prop:=H a=some u \/ ∃ o,H a=some (.frz o u)
theorem Rd.ok {P:Program} {w:World} {H:Hp} {h:Heap} {a:Addr} {u:HO} (r:Rd H a u) (x:HOk P w H h):ObjOk P w H h a u:=by
 rcases r with r | ⟨o,r⟩
 . exact x a u r
 . obtain ⟨_,q⟩:=x a _ r;exact q
def Mut:Option HO->Prop
 | some (.lst _)=>True
 | some (.dK _)=>True
 | some (.dT _)=>True
 | some (.set _ _)=>True
 | some (.ins _ _ _)=>True
 | some (.ext _)=>True
 | _=>False
section
variable {P:Program} {w:World} {H:Hp} {h h':Heap} {x e:Addr} {o':HO}
theorem HOk.write (ok:HOk P w H h) (mu:Mut (H x)) (he:e=x \/ H e=some (.own x)) (k:∀ b u,b ≠ e->h.get? b=some u->h'.get? b=some u) (heo:∃ u,h'.get? e=some u)
 (new:ObjOk P w (upd H x o') h' x o'):HOk P w (upd H x o') h':=fun b u q=>by
 have nown:∀ c y,H c=some (.own y)->c ≠ x:=fun c y r z=>by subst z;rw [r] at mu;exact mu
 have ntup:∀ c xs,H c=some (.tup xs)->c ≠ x:=fun c xs r z=>by subst z;rw [r] at mu;exact mu
 by_cases hb:b=x
 . subst hb;rw [aP] at q;cases q;exact new
 . rw [aB hb] at q
   by_cases hbe:b=e
   . have q':H b=some (.own x):=by
      rcases he with z | z
      . exact absurd (hbe.trans z) hb
      . rw [hbe];exact z
     rw [q] at q';cases q';obtain ⟨v,hv⟩:=heo;exact ⟨v,by rw [hbe];exact hv⟩
   . refine (ok b u q).stay (fun c v hc r=>k c v ?_ r) (fun c r=>by rw [aB (nown c b r)];exact r) fun c xs r=>by rw [aB (ntup c xs r)];exact r
     rcases hc with rfl | hc
     . exact hbe
     . rintro rfl
       rcases he with z | z
       . exact nown c b hc z
       . rw [hc] at z;cases z;exact hb rfl
end
structure Un (fs ex:List Addr) (H H':Hp) (h h':Heap):Prop where
 keep:∀ b o,h.get? b=some o->H b=none->b ∉ fs->b ∉ ex->h'.get? b=some o
 slot:∀ b o,h.get? b=some o->H b=none->b∈fs->b ∉ ex->∃ sl,h'.get? b=some { o with slots:=sl }
 free:∀ b o,h.get? b=some o->H b=none->b ∉ ex->H' b=none
 there:∀ b o,h.get? b=some o->b ∉ ex->∃ o',h'.get? b=some o'
 tups:∀ b xs,H b=some (.tup xs)->H' b=some (.tup xs)
 frzs:∀ b o u,H b=some (.frz o u)->H' b=some (.frz o u)
 tbls:∀ b ps,H b=some (.tbl ps)->∃ more,H' b=some (.tbl (ps++more))
section
variable {fs fs' ex ex':List Addr} {H H1 H2:Hp} {h h1 h2 h':Heap} {a x e:Addr} {o:HO}
theorem Un.any (u:Un fs ex H H1 h h1) {b:Addr} {ob:Obj} (q:h.get? b=some ob) (n:H b=none) (hx:b ∉ ex):∃ sl,h1.get? b=some { ob with slots:=sl }:=by
 by_cases hb:b∈fs
 . exact u.slot b ob q n hb hx
 . exact ⟨ob.slots,u.keep b ob q n hb hx⟩
theorem Un.kept (k:∀ b u,h.get? b=some u->h'.get? b=some u):Un fs ex H H h h' :=
 ⟨fun b ob q _ _ _=>k b ob q,fun b ob q _ _ _=>⟨ob.slots,k b ob q⟩,fun _ _ _ n _=>n,fun b ob q _=>⟨ob,k b ob q⟩,fun _ _ q=>q,fun _ _ _ q=>q,fun _ ps q=>⟨#[],by rw [q];simp⟩⟩
theorem Un.refl:Un fs ex H H h h:=Un.kept fun _ _ q=>q
theorem Un.laid (k:∀ b u,h.get? b=some u->h'.get? b=some u) (hp:h.objs.size<=a) (hn:H a=none):Un fs ex H (upd H a o) h h' where
 keep:=fun b u q _ _ _=>k b u q
 slot:=fun b u q _ _ _=>⟨u.slots,k b u q⟩
 free:=fun b u q n _=>by rw [aB (ZB (Zw (Heap.lt_size q) hp))];exact n
 there:=fun b u q _=>⟨u,k b u q⟩
 tups:=fun b xs q=>by rw [aB (bw q hn)];exact q
 frzs:=fun b u xs q=>by rw [aB (bw q hn)];exact q
 tbls:=fun b ps q=>⟨#[],by rw [aB (bw q hn),q];simp⟩
theorem Un.write (mu:Mut (H x)) (he:e=x \/ H e=some (.own x)) (k:∀ b u,b ≠ e->h.get? b=some u->h'.get? b=some u) (heo:∃ u,h'.get? e=some u):Un fs ex H (upd H x o) h h':=by
 have hx:∀ b,H b=none->b ≠ x:=fun b n z=>by subst z;rw [n] at mu;exact mu
 have hb:∀ b,H b=none->b ≠ e:=fun b n z=>by
  subst z;rcases he with r | r
  . exact hx b n r
  . rw [n] at r;cases r
 have hm:∀ b u,H b=some u->¬ Mut (some u)->b ≠ x:=fun b u q nm z=>by subst z;rw [q] at mu;exact nm mu
 refine ⟨fun b u q n _ _=>k b u (hb b n) q,fun b u q n _ _=>⟨u.slots,k b u (hb b n) q⟩,fun b u q n _=>by rw [aB (hx b n)];exact n,fun b u q _=>?_,
  fun b xs q=>by rw [aB (hm b _ q fun z=>z)];exact q,fun b u xs q=>by rw [aB (hm b _ q fun z=>z)];exact q,fun b ps q=>⟨#[],by rw [aB (hm b _ q fun z=>z),q];simp⟩⟩
 by_cases hbe:b=e
 . subst hbe;exact heo
 . exact ⟨u,k b u hbe q⟩
end
def trk (h:Heap) (H:Hp):List Addr:=(List.range h.objs.size).filter fun a=>(H a).isSome
def sr (h:Heap) (H:Hp):Heap:=PySem.W.hideAll h (trk h H)
theorem yQ (h:Heap) (H:Hp):(sr h H).objs.size=h.objs.size:=PySem.W.hideAll_size _ _
theorem AZ {h:Heap} {H:Hp} {b:Addr} {o:Obj} (e:h.get? b=some o) (n:H b=none):(sr h H).get? b=some o :=
 PySem.W.hideAll_get _ e fun hm=>by
  have q:(H b).isSome=true:=(List.mem_filter.mp hm).2;rw [n] at q;simp at q
theorem CI {h:Heap} {H:Hp} {b:Addr} {o:Obj} (e:(sr h H).get? b=some o):h.get? b=some o/\H b=none:=by
 have e':h.get? b=some o:=PySem.W.of_hideAll (trk h H) e;refine ⟨e',?_⟩;cases q:H b with
 | none=>rfl
 | some x =>
  have hm:b∈trk h H:=List.mem_filter.mpr ⟨Zo.mpr (Heap.lt_size e'),by simp [q]⟩
  have z:(sr h H).get? b=none:=PySem.W.hideAll_none (trk h H) hm;rw [z] at e;cases e
def Dw (g h:Heap) (L:Addr):List (Addr×Obj):=(List.range h.objs.size).filterMap fun a=>if a=L \/ (g.get? a).isSome=true then none else (h.get? a).map fun o=>(a,o)
def rest (g h:Heap) (L d:Addr):List (Addr×Obj):=(Dw g h L).filter fun p=>decide (p.1 ≠ d)
end L2
namespace L2
open PySem PySem.Spec PyProof.Rows
structure Mod (K:Zu) (mg:Str->Option Value) (base:Heap):Prop where
 kin:K.In base
 glob:base.Ns mainGlobals mg
 blt:∃ mb,base.Ns builtinsNs mb/\∀ x:Str,x ≠ "__name__"->mb x=bootBuiltins x
 nolimit:base.NoLimit
structure Cx where
 prog:Program
 w:World
 K:Zu
 mg:Str->Option Value
 base:Heap
 A:Around
 N:List Str
 s₀:Shared
 H₀:Hp
 env:Env
 outer:List Env
 stack:List Env
 ex:List Addr
 fn:Str->Bool
 calm:Bool
 pn:List (Addr×Obj)
 xe:Value->Shared->Prop
def frs (l:List Env):List Addr:=l.filterMap (·.frame)
abbrev Cx.fs (X:Cx):List Addr:=frs X.outer
def Vis (sc:Scope) (x:Str):Prop:=sc.names.lookup x=some .local \/ sc.names.lookup x=some .cell \/ sc.names.lookup x=some .free
def Loc (sc:Scope) (x:Str):Prop:=sc.names.lookup x=some .local \/ sc.names.lookup x=some .cell
def G4 (env:Env) (h:Heap) (m:Str->Option Value) (x:Str) (u:Value):Prop :=
 (env.kindOf x=some .local/\m x=some u) \/ ((env.kindOf x=some .cell \/ env.kindOf x=some .free)/\∃ c,env.cells.lookup x=some c/\h.IsCell c (some u))
structure Cx.Ok (X:Cx):Prop where
 mod:Mod X.K X.mg X.base
 kind:X.env.scope.kind=.function
 glob:X.env.globals=mainGlobals
 blt:X.env.builtins=builtinsNs
 above:X.s₀.heap.objs.size<=X.env.locals
 inj:∀ x y c,X.env.cells.lookup x=some c->X.env.cells.lookup y=some c->x=y
 has:∀ x,(X.env.kindOf x=some .cell \/ X.env.kindOf x=some .free)->∃ c,X.env.cells.lookup x=some c
 cab:∀ x c,X.fn x=true->X.env.cells.lookup x=some c->X.s₀.heap.objs.size<=c
 hd:X.calm=true->X.A.handled=none
 frames:X.A.frames=some X.stack
 stk:X.stack=X.outer \/ (X.stack=X.env :: X.outer/\X.env.frame=some X.env.locals)
 exf:∀ b∈X.ex,b ≠ X.env.locals/\∀ x c,X.env.cells.lookup x=some c->c ≠ b
 bs:∀ b o,X.base.get? b=some o->X.s₀.heap.get? b=some o/\X.H₀ b=none
 bsz:X.base.objs.size<=X.s₀.heap.objs.size
 noex:∀ b o,X.base.get? b=some o->b ∉ X.ex
 exfs:∀ b∈X.ex,b ∉ X.fs
 funs:X.s₀.heap.FunFrames X.base X.outer
 frf:∀ b∈X.fs,X.H₀ b=none
structure Inv (X:Cx) (pins:List (Addr×Obj)) (σ:List (Option V)) (H:Hp) (s:Shared):Prop where
 ok:X.Ok
 os:s.os=X.s₀.os
 bare:AllBare s.gens
 base:Un X.fs X.ex X.H₀ H X.s₀.heap s.heap
 loc:∃ m,s.heap.Ns X.env.locals m/\∀ (i:Nat) (x:Str) (v:V),X.N[i]? = some x->σ[i]? = some (some v)->Vis X.env.scope x->∃ u,RelV v u/\G4 X.env s.heap m x u
 cell:∀ x c,X.env.cells.lookup x=some c->∃ v,s.heap.IsCell c v
 free:H X.env.locals=none
 freeC:∀ x c,X.env.cells.lookup x=some c->H c=none
 pin:∀ p∈X.pn++pins,s.heap.get? p.1=some p.2/\H p.1=none/\p.1 ≠ X.env.locals/\p.1 ∉ X.fs/\∀ v,p.2.data ≠ .cell v
 hok:HOk X.prog X.w H s.heap
 len:σ.length=X.N.length
section
variable {X:Cx} {pins:List (Addr×Obj)} {σ:List (Option V)} {H H':Hp} {s:Shared} {h':Heap}
theorem Cx.Ok.nofr (ok:X.Ok) {b:Addr} {o:Obj} (e:X.base.get? b=some o):b ∉ X.fs:=fun hb=>by
 have:=(ok.funs.mem hb).1;rw [e] at this;cases this
theorem Inv.bs (I:Inv X pins σ H s):∀ b o,X.base.get? b=some o->s.heap.get? b=some o/\H b=none:=fun b o e =>
 ⟨I.base.keep b o (I.ok.bs b o e).1 (I.ok.bs b o e).2 (I.ok.nofr e) (I.ok.noex b o e),I.base.free b o (I.ok.bs b o e).1 (I.ok.bs b o e).2 (I.ok.noex b o e)⟩
theorem Inv.bk (I:Inv X pins σ H s):∀ b o,X.base.get? b=some o->s.heap.get? b=some o:=fun b o e=>(I.bs b o e).1
theorem Inv.mod (I:Inv X pins σ H s):Mod X.K X.mg X.base:=I.ok.mod
theorem Inv.kIn (I:Inv X pins σ H s):X.K.In s.heap:=I.ok.mod.kin.keeps I.bk
theorem Inv.lt (I:Inv X pins σ H s):X.env.locals < s.heap.objs.size:=let ⟨_,hn,_⟩:=I.loc;hn.lt
theorem Inv.sz (I:Inv X pins σ H s):X.s₀.heap.objs.size<=s.heap.objs.size:=Nat.le_trans I.ok.above (Nat.le_of_lt I.lt)
theorem Inv.nofs (I:Inv X pins σ H s) {a:Addr} (h:s.heap.objs.size<=a):a ∉ X.fs:=fun hb=>by
 obtain ⟨_,o,ho,_⟩:=I.ok.funs.mem hb;exact absurd (Zw (Heap.lt_size ho) (Nat.le_trans I.sz h)) (ZC _)
theorem Inv.cne (I:Inv X pins σ H s):∀ x c,X.env.cells.lookup x=some c->c ≠ X.env.locals:=fun x c e z=>by
 obtain ⟨v,o,ho,hd⟩:=I.cell x c e;obtain ⟨m,⟨o',es,ep,ho',hd',_⟩,_⟩:=I.loc;rw [z,ho'] at ho;cases ho;rw [hd'] at hd;cases hd
theorem Inv.funs (I:Inv X pins σ H s):s.heap.FunFrames X.base X.outer:=by
 have all:∀ (l:List Env),(∀ b∈frs l,b∈X.fs)->X.s₀.heap.FunFrames X.base l->s.heap.FunFrames X.base l:=by
  intro l
  induction l with
  | nil=>intro _ _;trivial
  | cons env r ih =>
   intro hs hl;obtain ⟨hk,⟨L,o,hf,hn,ho,hd⟩,hr⟩:=hl;have hL:L∈X.fs:=hs L (by unfold frs;rw [List.filterMap_cons,hf];exact Zk)
   obtain ⟨sl,e⟩:=I.base.slot L o ho (I.ok.frf L hL) hL fun z=>I.ok.exfs L z hL
   exact ⟨hk,⟨L,_,hf,hn,e,hd⟩,ih (fun b hb=>hs b (by unfold frs;rw [List.filterMap_cons,hf];exact Zl _ hb)) hr⟩
 exact all X.outer (fun _ hb=>hb) I.ok.funs
theorem Inv.stack (I:Inv X pins σ H s):s.heap.FunFrames X.base X.stack:=by
 rcases I.ok.stk with e | ⟨e,hf⟩
 . rw [e];exact I.funs
 . rw [e];obtain ⟨m,hn,_⟩:=I.loc;refine .cons (by rw [I.ok.kind];decide) hf hn ?_ I.funs
   exact Heap.get?_none_of_le (Nat.le_trans I.ok.bsz I.ok.above)
theorem Inv.stkSub (I:Inv X pins σ H s):∀ b∈frs X.stack,b∈X.env.locals :: X.fs:=fun b hb=>by
 rcases I.ok.stk with e | ⟨e,hf⟩
 . rw [e] at hb;exact Zl _ hb
 . rw [e] at hb;unfold frs at hb;rw [List.filterMap_cons,hf] at hb;exact hb
theorem Inv.stkFree (I:Inv X pins σ H s):∀ b∈frs X.stack,H b=none:=fun b hb=>by
 rcases Zq.mp (I.stkSub b hb) with e | hb
 . rw [e];exact I.free
 . obtain ⟨_,o,ho,_⟩:=I.ok.funs.mem hb;exact I.base.free b o ho (I.ok.frf b hb) fun z=>I.ok.exfs b z hb
theorem Inv.step {g':Array GenState} {t':Nat} {d':Drawn} {ch:List Addr} (I:Inv X pins σ H s)
 (hch:∀ b∈ch,(b∈X.ex \/ X.s₀.heap.objs.size<=b)/\b ≠ X.env.locals/\(∀ x c,X.env.cells.lookup x=some c->c ≠ b)/\∀ p∈X.pn++pins,p.1 ≠ b)
 (keep:∀ b o,b ≠ X.env.locals->b ∉ X.fs->b ∉ ch->s.heap.get? b=some o->H b=none->h'.get? b=some o)
 (slot:∀ b o,b ≠ X.env.locals->b∈X.fs->b ∉ ch->s.heap.get? b=some o->H b=none->∃ sl,h'.get? b=some { o with slots:=sl }) (free:∀ b o,b ∉ ch->s.heap.get? b=some o->H b=none->H' b=none)
 (there:∀ b o,b ∉ ch->s.heap.get? b=some o->∃ o',h'.get? b=some o')
 (tups:∀ b xs,H b=some (.tup xs)->H' b=some (.tup xs)) (frzs:∀ b o u,H b=some (.frz o u)->H' b=some (.frz o u)) (tbls:∀ b ps,H b=some (.tbl ps)->∃ more,H' b=some (.tbl (ps++more)))
 (ns:∀ m,s.heap.Ns X.env.locals m->h'.Ns X.env.locals m) (hok:HOk X.prog X.w H' h') (hg:AllBare g') :
 Inv X pins σ H' { s with heap:=h',gens:=g',drawn:=d',toks:=t' }:=by
 have neL:∀ b o,X.s₀.heap.get? b=some o->b ≠ X.env.locals:=fun b o e=>ZB (Zw (Heap.lt_size e) I.ok.above)
 have neC:∀ b o,X.s₀.heap.get? b=some o->b ∉ X.ex->b ∉ ch:=fun b o e hx hb=>by
  rcases (hch b hb).1 with z | z
  . exact hx z
  . exact absurd (Zw (Heap.lt_size e) z) (ZC _)
 have cellK:∀ x c,X.env.cells.lookup x=some c->∀ v,s.heap.IsCell c v->h'.IsCell c v:=fun x c e v ⟨o,ho,hd⟩=>by
  have nch:c ∉ ch:=fun z=>(hch c z).2.2.1 x c e rfl
  by_cases hc:c∈X.fs
  . obtain ⟨sl,q⟩:=slot c o (I.cne x c e) hc nch ho (I.freeC x c e);exact ⟨_,q,hd⟩
  . exact ⟨o,keep c o (I.cne x c e) hc nch ho (I.freeC x c e),hd⟩
 refine ⟨I.ok,I.os,hg,⟨fun b o e n hb hx=>?_,fun b o e n hb hx=>?_,fun b o e n hx=>?_,fun b o e hx=>?_,fun b xs e=>tups b xs (I.base.tups b xs e),fun b o xs e=>frzs b o xs (I.base.frzs b o xs e),fun b ps e=>?_⟩,?_,fun x c e=>?_,?_,fun x c e=>?_,fun p hp=>?_,hok,I.len⟩
 . exact keep b o (neL b o e) hb (neC b o e hx) (I.base.keep b o e n hb hx) (I.base.free b o e n hx)
 . obtain ⟨sl,e1⟩:=I.base.slot b o e n hb hx;obtain ⟨sl',e2⟩:=slot b _ (neL b o e) hb (neC b o e hx) e1 (I.base.free b o e n hx);exact ⟨sl',e2⟩
 . obtain ⟨o',e1⟩:=I.base.there b o e hx;exact free b o' (neC b o e hx) e1 (I.base.free b o e n hx)
 . obtain ⟨o',e1⟩:=I.base.there b o e hx;exact there b o' (neC b o e hx) e1
 . obtain ⟨m1,e1⟩:=I.base.tbls b ps e;obtain ⟨m2,e2⟩:=tbls b _ e1;exact ⟨m1++m2,by rw [e2,Array.append_assoc]⟩
 . obtain ⟨m,hn,hl⟩:=I.loc;refine ⟨m,ns m hn,fun i x v e1 e2 e3=>?_⟩
   obtain ⟨u,r,l⟩:=hl i x v e1 e2 e3;refine ⟨u,r,?_⟩;rcases l with l | ⟨k,c,e,z⟩
   . exact .inl l
   . exact .inr ⟨k,c,e,cellK x c e _ z⟩
 . obtain ⟨v,z⟩:=I.cell x c e;exact ⟨v,cellK x c e v z⟩
 . obtain ⟨m,⟨o,_,_,ho,_⟩,_⟩:=I.loc;exact free _ o (fun z=>(hch _ z).2.1 rfl) ho I.free
 . obtain ⟨v,o,ho,hd⟩:=I.cell x c e;exact free c o (fun z=>(hch c z).2.2.1 x c e rfl) ho (I.freeC x c e)
 . obtain ⟨e,n,ne,nf,d⟩:=I.pin p hp;have nch:p.1 ∉ ch:=fun z=>(hch p.1 z).2.2.2 p hp rfl
   exact ⟨keep p.1 p.2 ne nf nch e n,free p.1 p.2 nch e n,ne,nf,d⟩
theorem Inv.un {t':Nat} (I:Inv X pins σ H s) (u:Un X.fs [] H H' s.heap h') (hok:HOk X.prog X.w H' h'):Inv X pins σ H' { s with heap:=h',toks:=t' }:=by
 obtain ⟨m,⟨o,es,ep,ho,r⟩,_⟩:=id I.loc;obtain ⟨sl,hL⟩:=u.any ho I.free (by simp)
 exact I.step (g':=s.gens) (d':=s.drawn) (ch:=[]) (fun _ z=>nomatch z) (fun b o _ hb _ e n=>u.keep b o e n hb (by simp)) (fun b o _ hb _ e n=>u.slot b o e n hb (by simp)) (fun b o _ e n=>u.free b o e n (by simp)) (fun b o _ e=>u.there b o e (by simp)) u.tups u.frzs u.tbls (fun m' hm=>by
  obtain ⟨o',es',ep',ho',r'⟩:=hm;rw [ho] at ho';cases ho';exact ⟨_,es',ep',hL,r'⟩) hok I.bare
theorem Inv.call {g':Array GenState} {t':Nat} {d':Drawn} {ch:List Addr} (I:Inv X pins σ H s) (u:Un (frs X.stack) ch H H' s.heap h') (hok:HOk X.prog X.w H' h') (hg:AllBare g')
 (hch:∀ b∈ch,(b∈X.ex \/ X.s₀.heap.objs.size<=b)/\b ≠ X.env.locals/\(∀ x c,X.env.cells.lookup x=some c->c ≠ b)/\∀ p∈X.pn++pins,p.1 ≠ b) :
 Inv X pins σ H' { s with heap:=h',gens:=g',drawn:=d',toks:=t' }:=by
 obtain ⟨m,⟨o,es,ep,ho,r⟩,_⟩:=id I.loc;obtain ⟨sl,hL⟩:=u.any ho I.free fun z=>(hch _ z).2.1 rfl
 exact I.step (ch:=ch) hch (fun b o hL hb hc e n=>u.keep b o e n (fun z=>(Zq.mp (I.stkSub b z)).elim hL hb) hc) (fun b o _ _ hc e n=>u.any e n hc) (fun b o hc e n=>u.free b o e n hc) (fun b o hc e=>u.there b o e hc) u.tups u.frzs u.tbls (fun m' hm=>by
  obtain ⟨o',es',ep',ho',r'⟩:=hm;rw [ho] at ho';cases ho';exact ⟨_,es',ep',hL,r'⟩) hok hg
theorem Inv.turned {t':Nat} {it:Addr} (I:Inv X pins σ H s) (k:∀ b o,b ≠ it->s.heap.get? b=some o->h'.get? b=some o) (hn:H it=none) (hL:it ≠ X.env.locals)
 (h1:it∈X.ex \/ X.s₀.heap.objs.size<=it) (h2:∀ x c,X.env.cells.lookup x=some c->c ≠ it) (h3:∀ p∈X.pn++pins,p.1 ≠ it):Inv X pins σ H { s with heap:=h',toks:=t' }:=by
 have nit:∀ b u,H b=some u->b ≠ it:=fun b u e z=>by rw [z,hn] at e;cases e
 refine I.step (g':=s.gens) (d':=s.drawn) (ch:=[it]) (fun b hb=>?_) (fun b o _ _ hc e _=>k b o (fun z=>hc (by simp [z])) e) (fun b o _ _ hc e _=>⟨o.slots,k b o (fun z=>hc (by simp [z])) e⟩) (fun _ _ _ _ n=>n)
  (fun b o hc e=>⟨o,k b o (fun z=>hc (by simp [z])) e⟩) (fun _ _ e=>e) (fun _ _ _ e=>e) (fun b ps e=>⟨#[],by rw [e];simp⟩) (fun m hm=>?_) (fun b u e=>?_) I.bare
 . have e:b=it:=by simpa using hb
   subst e;exact ⟨h1,hL,h2,h3⟩
 . obtain ⟨o,es,ep,ho,r⟩:=hm;exact ⟨o,es,ep,k _ o (Ne.symm hL) ho,r⟩
 . refine (I.hok b u e).stay (fun c v hc q=>k c v ?_ q) (fun _ q=>q) fun _ _ q=>q
   rcases hc with z | z
   . rw [z];exact nit b u e
   . exact nit c _ z
theorem Inv.tok (I:Inv X pins σ H s) (t:Nat):Inv X pins σ H { s with toks:=t }:=I.un (h':=s.heap) (t':=t) Un.refl I.hok
theorem Inv.kept {t':Nat} (I:Inv X pins σ H s) (k:∀ b u,s.heap.get? b=some u->h'.get? b=some u):Inv X pins σ H { s with heap:=h',toks:=t' }:=I.un (Un.kept k) (I.hok.kept k)
theorem Inv.laid {a:Addr} {o:HO} {t':Nat} (I:Inv X pins σ H s) (k:∀ b u,s.heap.get? b=some u->h'.get? b=some u) (hp:s.heap.objs.size<=a) (new:ObjOk X.prog X.w (upd H a o) h' a o) :
 Inv X pins σ (upd H a o) { s with heap:=h',toks:=t' }:=I.un (Un.laid k hp (I.hok.fresh hp)) (I.hok.laid k hp new)
theorem Inv.write {x e:Addr} {o:HO} {t':Nat} (I:Inv X pins σ H s) (mu:Mut (H x)) (he:e=x \/ H e=some (.own x)) (k:∀ b u,b ≠ e->s.heap.get? b=some u->h'.get? b=some u) (heo:∃ u,h'.get? e=some u)
 (new:ObjOk X.prog X.w (upd H x o) h' x o):Inv X pins σ (upd H x o) { s with heap:=h',toks:=t' }:=I.un (Un.write mu he k heo) (I.hok.write mu he k heo new)
theorem Inv.pins_of {pins':List (Addr×Obj)} (I:Inv X pins σ H s) (h:∀ p∈pins',s.heap.get? p.1=some p.2/\H p.1=none/\p.1 ≠ X.env.locals/\p.1 ∉ X.fs/\∀ v,p.2.data ≠ .cell v):Inv X pins' σ H s :=
 ⟨I.ok,I.os,I.bare,I.base,I.loc,I.cell,I.free,I.freeC,fun p hp=>(Zp.mp hp).elim (fun z=>I.pin p (Zy _ z)) (h p),I.hok,I.len⟩
theorem oI {N:List Str} (hN:N.Nodup) {i j:Nat} {x:Str} (a:N[i]? = some x) (b:N[j]? = some x):i=j:=by
 obtain ⟨h1,e1⟩:=ZE.mp a;obtain ⟨h2,e2⟩:=ZE.mp b;exact (List.getElem_inj hN).mp (e1.trans e2.symm)
theorem lD {M:Model} {A:Around} {E:Value->Shared->Prop} {i:Nat} {x:Str} {v:V} {u:Value} {Q:Unit->Shared->Prop} (I:Inv X pins σ H s) (hN:X.N.Nodup) (hi:X.N[i]? = some x) (hx:Loc X.env.scope x) (r:RelV v u)
 (h:∀ s',Inv X pins (σ.set i (some v)) H s'->(∃ a,Heap.SameBut a s.heap s'.heap/\(a=X.env.locals \/ X.env.cells.lookup x=some a))->Q () s') (hf:X.fn x=true \/ X.env.scope.names.lookup x=some .local:=by first | exact .inl rfl | exact .inr rfl | assumption):wpAny M A (storeName X.env x u) Q E s:=by
 obtain ⟨m,hn,hl⟩:=id I.loc;have hcls:(X.env.scope.kind == .class || (X.env.scope.kind == .module && X.env.locals != X.env.globals))=false:=by rw [I.ok.kind];rfl
 have hiσ:i < σ.length:=by rw [I.len];exact (ZE.mp hi).1
 have cne:=I.cne;have tracked:∀ {a:Addr} {h':Heap},(∃ o,s.heap.get? a=some o/\H a=none)->Heap.SameBut a s.heap h'->HOk X.prog X.w H h':=fun {a h'} ha hs b ob e=>by
  obtain ⟨_,_,hfree⟩:=ha;refine (I.hok b ob e).stay (fun c w' hc q=>(hs.2 c ?_).trans q) (fun _ q=>q) fun _ _ q=>q
  rintro rfl
  rcases hc with rfl | hc
  . rw [hfree] at e;cases e
  . rw [hfree] at hc;cases hc
 rcases hx with hk | hk
 . refine wpAny_storeName_local hk hn (fun h' hn' hs=>?_) hcls
   obtain ⟨oL,_,_,hoL,_⟩:=id hn;refine h _ ⟨I.ok,I.os,I.bare,⟨fun b o e n hb hx=>?_,fun b o e n hb hx=>?_,I.base.free,fun b o e hx=>?_,I.base.tups,I.base.frzs,I.base.tbls⟩,⟨_,hn',fun j y v' e1 e2 e3=>?_⟩,fun y c e=>?_,I.free,I.freeC,fun p hp=>?_,tracked ⟨oL,hoL,I.free⟩ hs,by simpa using I.len⟩ ⟨_,hs,.inl rfl⟩
   . exact (hs.2 b (ZB (Zw (Heap.lt_size e) I.ok.above))).trans (I.base.keep b o e n hb hx)
   . obtain ⟨sl,e1⟩:=I.base.slot b o e n hb hx;exact ⟨sl,(hs.2 b (ZB (Zw (Heap.lt_size e) I.ok.above))).trans e1⟩
   . obtain ⟨o',e1⟩:=I.base.there b o e hx;exact ⟨o',(hs.2 b (ZB (Zw (Heap.lt_size e) I.ok.above))).trans e1⟩
   . by_cases hj:j=i
     . subst hj;rw [hi] at e1;cases e1;rw [List.getElem?_set_self hiσ] at e2;cases e2;exact ⟨u,r,.inl ⟨hk,by simp⟩⟩
     . rw [List.getElem?_set_ne (Ne.symm hj)] at e2;obtain ⟨u',r',q⟩:=hl j y v' e1 e2 e3;refine ⟨u',r',?_⟩;rcases q with ⟨k,e⟩ | ⟨k,c,e,z⟩
       . refine .inl ⟨k,?_⟩;have:y ≠ x:=fun e=>hj (oI hN e1 (e ▸ hi))
         simp [this,e]
       . exact .inr ⟨k,c,e,z.sameBut hs (cne y c e)⟩
   . obtain ⟨w',z⟩:=I.cell y c e;exact ⟨w',z.sameBut hs (cne y c e)⟩
   . obtain ⟨e,n,ne,nf,d⟩:=I.pin p hp;exact ⟨(hs.2 p.1 ne).trans e,n,ne,nf,d⟩
 . have hfn:X.fn x=true:=by
    rcases hf with z | z
    . exact z
    . rw [z] at hk;cases hk
   obtain ⟨c,hc⟩:=I.ok.has x (.inl hk);obtain ⟨w',z⟩:=I.cell x c hc;refine wpAny_storeName_cell I.ok.kind hk hc z (fun h' hc' hs=>?_)
   obtain ⟨oc,hoc,hocd⟩:=id z;refine h { s with heap:=h' } ⟨I.ok,I.os,I.bare,⟨fun b o e n hb hx=>?_,fun b o e n hb hx=>?_,I.base.free,fun b o e hx=>?_,I.base.tups,I.base.frzs,I.base.tbls⟩,⟨m,hn.sameBut hs (Ne.symm (cne x c hc)),fun j y v' e1 e2 e3=>?_⟩,fun y c' e=>?_,I.free,I.freeC,fun p hp=>?_,tracked ⟨oc,hoc,I.freeC x c hc⟩ hs,by simpa using I.len⟩ ⟨c,hs,.inr hc⟩
   . exact (hs.2 b (ZB (Zw (Heap.lt_size e) (I.ok.cab x c hfn hc)))).trans (I.base.keep b o e n hb hx)
   . obtain ⟨sl,e1⟩:=I.base.slot b o e n hb hx;exact ⟨sl,(hs.2 b (ZB (Zw (Heap.lt_size e) (I.ok.cab x c hfn hc)))).trans e1⟩
   . obtain ⟨o',e1⟩:=I.base.there b o e hx;exact ⟨o',(hs.2 b (ZB (Zw (Heap.lt_size e) (I.ok.cab x c hfn hc)))).trans e1⟩
   . by_cases hj:j=i
     . subst hj;rw [hi] at e1;cases e1;rw [List.getElem?_set_self hiσ] at e2;cases e2;exact ⟨u,r,.inr ⟨.inl hk,c,hc,hc'⟩⟩
     . rw [List.getElem?_set_ne (Ne.symm hj)] at e2;obtain ⟨u',r',q⟩:=hl j y v' e1 e2 e3;refine ⟨u',r',?_⟩;rcases q with q | ⟨k,c',e,z'⟩
       . exact .inl q
       . refine .inr ⟨k,c',e,z'.sameBut hs ?_⟩
         rintro rfl
         exact hj (oI hN e1 (I.ok.inj _ _ _ e hc ▸ hi))
   . by_cases hcc:c'=c
     . subst hcc;exact ⟨_,hc'⟩
     . obtain ⟨w2,z2⟩:=I.cell y c' e;exact ⟨w2,z2.sameBut hs hcc⟩
   . obtain ⟨e,n,ne,nf,d⟩:=I.pin p hp;refine ⟨(hs.2 p.1 ?_).trans e,n,ne,nf,d⟩;intro q;rw [q,hoc] at e;have q':oc=p.2:=ZA e;exact d w' (by rw [<- q'];exact hocd)
theorem nX {M:Model} {A:Around} {E:Value->Shared->Prop} {i:Nat} {x:Str} {v:V} {u:Value} {Q:Unit->Shared->Prop} (I:Inv X pins σ H s) (hN:X.N.Nodup) (hi:X.N[i]? = some x) (hx:Loc X.env.scope x) (r:RelV v u)
 (h:∀ s',Inv X pins (σ.set i (some v)) H s'->Q () s') (hf:X.fn x=true \/ X.env.scope.names.lookup x=some .local:=by first | exact .inl rfl | exact .inr rfl | assumption):wpAny M A (storeName X.env x u) Q E s :=
 lD I hN hi hx r (fun s' I' _=>h s' I') hf
theorem Inv.call' {s':Shared} {ch:List Addr} (I:Inv X pins σ H s) (ho:s'.os=s.os) (u:Un (frs X.stack) ch H H' s.heap s'.heap) (hok:HOk X.prog X.w H' s'.heap) (hg:AllBare s'.gens)
 (hch:∀ b∈ch,(b∈X.ex \/ X.s₀.heap.objs.size<=b)/\b ≠ X.env.locals/\(∀ x c,X.env.cells.lookup x=some c->c ≠ b)/\∀ p∈X.pn++pins,p.1 ≠ b):Inv X pins σ H' s':=by
 obtain ⟨h',g',d',t',o'⟩:=s';have e:o'=s.os:=ho;subst e;exact I.call (g':=g') (t':=t') (d':=d') u hok hg hch
end
abbrev XK:=Value->Option Addr->Hp->Prop
abbrev St:=List (Option V)
abbrev VK:=V->Hp->Prop
abbrev TE:=St->Hp->VK->Prop
abbrev TT:=St->Hp->(Bool->Hp->Prop)->Prop
abbrev TA:=St->Hp->(List V->Hp->Prop)->Prop
structure pL where
 nx:St->Hp->Prop
 rt:VK
 bk:St->Hp->Prop:=fun _ _=>False
 ct:St->Hp->Prop:=fun _ _=>False
abbrev TS:=pL->St->Hp->Prop
def EP (X:Cx) (pins:List (Addr×Obj)) (σ:St) (Q:VK) (u:Value) (s':Shared):Prop:=∃ v H',Inv X pins σ H' s'/\RelV v u/\Q v H'
def TP (X:Cx) (pins:List (Addr×Obj)) (σ:St) (Q:Bool->Hp->Prop) (b:Bool) (s':Shared):Prop:=∃ H',Inv X pins σ H' s'/\Q b H'
def AP (X:Cx) (pins:List (Addr×Obj)) (σ:St) (Q:List V->Hp->Prop) (us:List Value) (s':Shared):Prop:=∃ vs H',Inv X pins σ H' s'/\Vals vs us/\Q vs H'
def SP (X:Cx) (pins:List (Addr×Obj)) (D:pL) (f:Flow) (s':Shared):Prop :=
 match f with
 | .next=>∃ σ' H',Inv X pins σ' H' s'/\D.nx σ' H'
 | .brk=>∃ σ' H',Inv X pins σ' H' s'/\D.bk σ' H'
 | .cont=>∃ σ' H',Inv X pins σ' H' s'/\D.ct σ' H'
 | .ret u=>∃ v σ' H',Inv X pins σ' H' s'/\RelV v u/\D.rt v H'
def PE (X:Cx) (e:Expr) (t:TE):Prop :=
 ∀ (pins:List (Addr×Obj)) (s:Shared) (σ:St) (H:Hp) (Q:VK),Inv X pins σ H s->t σ H Q->wpAny (model X.prog X.w) X.A (eval e X.env) (EP X pins σ Q) X.xe s
def PT (X:Cx) (e:Expr) (t:TT):Prop :=
 ∀ (pins:List (Addr×Obj)) (s:Shared) (σ:St) (H:Hp) (Q:Bool->Hp->Prop),Inv X pins σ H s->t σ H Q->wpAny (model X.prog X.w) X.A (isTrue e X.env (eval e X.env)) (TP X pins σ Q) X.xe s
def PW (X:Cx) (e:Expr) (t:TT):Prop :=
 ∀ (whole:Sem Value) (pins:List (Addr×Obj)) (s:Shared) (σ:St) (H:Hp) (Q:Bool->Hp->Prop),Inv X pins σ H s->t σ H Q->wpAny (model X.prog X.w) X.A (isTrue e X.env whole) (TP X pins σ Q) X.xe s
def PA (X:Cx) (es:List Expr) (t:TA):Prop :=
 ∀ (pos:Pos) (pins:List (Addr×Obj)) (s:Shared) (σ:St) (H:Hp) (Q:List V->Hp->Prop),Inv X pins σ H s->t σ H Q->wpAny (model X.prog X.w) X.A (spliced (backTo pos (starEach es X.env))) (AP X pins σ Q) X.xe s
def PS (X:Cx) (st:Stmt) (t:TS):Prop :=
 ∀ (pins:List (Addr×Obj)) (s:Shared) (σ:St) (H:Hp) (D:pL),Inv X pins σ H s->t D σ H->wpAny (model X.prog X.w) X.A (exec st X.env) (SP X pins D) X.xe s
def PSs (X:Cx) (st:List Stmt) (t:TS):Prop :=
 ∀ (pins:List (Addr×Obj)) (s:Shared) (σ:St) (H:Hp) (D:pL),Inv X pins σ H s->t D σ H->wpAny (model X.prog X.w) X.A (execs st X.env) (SP X pins D) X.xe s
theorem thn {α:Type} {t:Sem α} {Q Q':α->Shared->Prop} {M:Model} {A:Around} {E:Value->Shared->Prop} {s:Shared} (h:wpAny M A t Q E s) (hQ:∀ a s,Q a s->Q' a s):wpAny M A t Q' E s:=wpAny_mono h hQ fun _ _ x=>x
end L2
namespace L2
open PySem PySem.Spec PyProof.Rows
section
variable {X:Cx}
def pN (i:Nat):TE:=fun σ H Q=>∃ v,σ[i]? = some (some v)/\Q v H
def tC (v:V):TE:=fun _ H Q=>Q v H
theorem lI {i:Nat} {x:Str} {pos:Pos} (hN:X.N[i]? = some x) (hv:Vis X.env.scope x) (hd:(x == ("__debug__":Str))=false:=by decide) (hcd:(x == ("__classdict__":Str))=false:=by decide):PE X (.Name x pos) (pN i):=by
 intro pins s σ H Q I h;obtain ⟨v,e,h⟩:=h;obtain ⟨m,hn,hl⟩:=I.loc;obtain ⟨u,r,l⟩:=hl i x v hN e hv;have fin:EP X pins σ Q u s:=⟨v,H,I,r,h⟩;rcases l with ⟨hk,hm⟩ | ⟨hk,c,hc,hcell⟩
 . exact wpAny_Name (wpAny_loadName_local I.ok.kind hk hn hm fin) hd
 . rcases hk with hk | hk
   . exact wpAny_Name (wpAny_loadName_cell I.ok.kind hk hc hcell fin) hd
   . exact wpAny_Name (wpAny_loadName_free I.ok.kind hk hc hcell fin hcd) hd
theorem EG {i j pos}:PE X (.Constant (.int i) j pos) (tC (.int i)):=fun _ _ _ H _ I h=>wpAny_Constant_int ⟨.int i,H,I.tok _,⟨_,rfl⟩,h⟩
theorem GB {b j pos}:PE X (.Constant (.bool b) j pos) (tC (.bl b)):=fun _ _ _ H _ I h=>Constant_bool ⟨.bl b,H,I,rfl,h⟩
theorem EF {j pos}:PE X (.Constant .none j pos) (tC .non):=fun _ _ _ H _ I h=>Constant_none ⟨.non,H,I,rfl,h⟩
theorem EC {x j pos}:PE X (.Constant (.str x) j pos) (tC (.str x)):=fun _ _ _ H _ I h=>Calls.Constant_str ⟨.str x,H,I.tok _,⟨_,rfl⟩,h⟩
def Gl (X:Cx) (x:Str):Prop:=X.env.kindOf x=some .globalImplicit
theorem jM {E:Value->Shared->Prop} {pins:List (Addr×Obj)} {s:Shared} {σ:St} {H:Hp} {x:Str} {u:Value} {pos:Pos} {Q:Value->Shared->Prop} (I:Inv X pins σ H s) (hg:Gl X x) (hm:X.mg x=some u) (h:Q u s)
 (hd:(x == ("__debug__":Str))=false:=by decide):wpAny (model X.prog X.w) X.A (eval (.Name x pos) X.env) Q E s :=
 Calls.Name_function_global I.ok.kind hg (Calls.loadGlobal_global (by rw [I.ok.glob];exact I.mod.glob.keeps I.bk) hm h) hd
theorem oO {E:Value->Shared->Prop} {pins:List (Addr×Obj)} {s:Shared} {σ:St} {H:Hp} {x:Str} {u:Value} {pos:Pos} {Q:Value->Shared->Prop} (I:Inv X pins σ H s) (hg:Gl X x) (hm:X.mg x=none) (hv:bootBuiltins x=some u) (h:Q u s)
 (hn:x ≠ "__name__":=by decide) (hd:(x == ("__debug__":Str))=false:=by decide):wpAny (model X.prog X.w) X.A (eval (.Name x pos) X.env) Q E s:=by
 obtain ⟨mb,h1,h2⟩:=I.mod.blt;exact Calls.Name_function_global I.ok.kind hg (Calls.loadGlobal_builtin (by rw [I.ok.glob];exact I.mod.glob.keeps I.bk) hm (by rw [I.ok.blt];exact h1.keeps I.bk) ((h2 x hn).trans hv) h) hd
theorem Cp {x:Str} {v:V} {u:Value} {pos:Pos} (hg:Gl X x) (hm:X.mg x=some u) (r:RelV v u) (hd:(x == ("__debug__":Str))=false:=by decide):PE X (.Name x pos) (tC v) :=
 fun _ _ _ H _ I h=>jM I hg hm ⟨v,H,I,r,h⟩ hd
theorem Ct {x:Str} {v:V} {u:Value} {pos:Pos} (hg:Gl X x) (hm:X.mg x=none) (hv:bootBuiltins x=some u) (r:RelV v u) (hn:x ≠ "__name__":=by decide) (hd:(x == ("__debug__":Str))=false:=by decide):PE X (.Name x pos) (tC v) :=
 fun _ _ _ H _ I h=>oO I hg hm hv ⟨v,H,I,r,h⟩ hn hd
variable {a b:Expr} {ta tb:TE} {pos:Pos}
def PC (X:Cx) (op:CmpOp) (a b:Expr) (t:TE):Prop :=
 ∀ (pins:List (Addr×Obj)) (s:Shared) (σ:St) (H:Hp) (Q:VK),Inv X pins σ H s->t σ H Q ->
  wpAny (model X.prog X.w) X.A (eval a X.env) (fun v s₁=>wpAny (model X.prog X.w) X.A (eval b X.env) (fun u s₂=>wpAny (model X.prog X.w) X.A (compareOp op v u) (EP X pins σ Q) X.xe s₂) X.xe s₁) X.xe s
theorem AD (b:Expr) {op:CmpOp} (h:op ≠ .In) (h2:op ≠ .NotIn):behindInMarks op b=false:=by
 have e1:(op == CmpOp.In)=false:=by cases op <;> first | rfl | exact absurd rfl h
 have e2:(op == CmpOp.NotIn)=false:=by cases op <;> first | rfl | exact absurd rfl h2
 cases b <;> simp [behindInMarks,e1,e2]
def tB (t:TE):TT:=fun σ H Q=>t σ H fun x H1=>∃ c,x=.bl c/\Q c H1
theorem Ey {op:CmpOp} {t:TE} (h:PC X op a b t) (h1:behindInMarks op b=false:=by first | exact AD _ (by decide) (by decide) | rfl):PT X (.Compare a [op] [b] pos) (tB t):=by
 intro pins s σ H Q I hw;refine wpAny_isTrue_Compare1 (thn (h pins s σ H _ I hw) fun v s1 h1=>thn h1 fun u s2 h2=>thn h2 fun c s3 ⟨x,H1,I1,r1,q1⟩=>?_) h1
 obtain ⟨d,rfl,q⟩:=q1;cases r1;exact wpAny_truthy_bool ⟨H1,I1,q⟩
theorem Ew {e:Expr} {t:TE} (h:PE X e t) (he:∀ whole,isTrue e X.env whole=(do let v <- whole;standAt e.pos;holding [v] (truthy v)):=by intro _;rfl):PT X e (tB t):=by
 intro pins s σ H Q I hw;refine isTrue_plain (thn (h pins s σ H _ I hw) fun v s1 ⟨x,H1,I1,r1,q1⟩=>?_) (he _)
 obtain ⟨d,rfl,q⟩:=q1;cases r1;exact wpAny_truthy_bool ⟨H1,I1,q⟩
variable {tA tB':TT} {rest:List Expr}
def Hk (t u:TT):TT:=fun σ H Q=>t σ H fun c H1=>if c=true then u σ H1 Q else Q false H1
def tOr (t u:TT):TT:=fun σ H Q=>t σ H fun c H1=>if c=true then Q true H1 else u σ H1 Q
def Hg (t:TT):TT:=fun σ H Q=>t σ H fun c H1=>Q (!c) H1
theorem Cc (ha:PT X a tA):PW X (.BoolOp .And [a] pos) tA:=by
 intro wh pins s σ H Q I h;refine isTrue_and (thn (ha pins s σ H Q I h) fun c s1 e=>?_)
 cases c with
 | true=>exact isTrue_and_nil e
 | false=>exact e
theorem Er (ha:PT X a tA):PW X (.BoolOp .Or [a] pos) tA:=by
 intro wh pins s σ H Q I h;refine isTrue_or (thn (ha pins s σ H Q I h) fun c s1 e=>?_)
 cases c with
 | false=>exact isTrue_or_nil e
 | true=>exact e
theorem Es (ha:PT X a tA) (hb:PW X (.BoolOp .And (b :: rest) pos) tB'):PW X (.BoolOp .And (a :: b :: rest) pos) (Hk tA tB'):=by
 intro wh pins s σ H Q I h;refine isTrue_and (thn (ha pins s σ H _ I h) fun c s1 ⟨H1,I1,q1⟩=>?_)
 cases c with
 | true=>exact hb wh pins s1 σ H1 Q I1 q1
 | false=>exact ⟨H1,I1,q1⟩
theorem Gw (ha:PT X a tA) (hb:PW X (.BoolOp .Or (b :: rest) pos) tB'):PW X (.BoolOp .Or (a :: b :: rest) pos) (tOr tA tB'):=by
 intro wh pins s σ H Q I h;refine isTrue_or (thn (ha pins s σ H _ I h) fun c s1 ⟨H1,I1,q1⟩=>?_)
 cases c with
 | true=>exact ⟨H1,I1,q1⟩
 | false=>exact hb wh pins s1 σ H1 Q I1 q1
theorem Ex (ha:PT X a tA):PT X (.UnaryOp .Not a pos) (Hg tA):=by
 intro pins s σ H Q I h;exact isTrue_not (ha pins s σ H (fun c H1=>Q (!c) H1) I h)
def Gf (ta tb:TE):TE:=fun σ H Q=>ta σ H fun x H1=>∃ c,x=.bl c/\if c=true then tb σ H1 Q else Q (.bl false) H1
def Hf (ta tb:TE):TE:=fun σ H Q=>ta σ H fun x H1=>∃ c,x=.bl c/\if c=true then Q (.bl true) H1 else tb σ H1 Q
def FZ (ta:TE):TE:=fun σ H Q=>ta σ H fun x H1=>∃ c,x=.bl c/\Q (.bl (!c)) H1
theorem ED {op} {t:TE} (h:PE X a t):PE X (.BoolOp op [a] pos) t:=fun pins s σ H Q I hw=>BoolOp_one (h pins s σ H Q I hw)
theorem EH (ha:PE X a ta) (hb:PE X (.BoolOp .And (b :: rest) pos) tb):PE X (.BoolOp .And (a :: b :: rest) pos) (Gf ta tb):=by
 intro pins s σ H Q I h;refine BoolOp_and (thn (ha pins s σ H _ I h) fun v s1 ⟨x,H1,I1,r1,q1⟩=>?_)
 obtain ⟨c,rfl,q1⟩:=q1;cases r1;refine wpAny_truthy_bool ?_;cases c with
 | true=>exact hb pins s1 σ H1 Q I1 q1
 | false=>exact ⟨.bl false,H1,I1,rfl,q1⟩
theorem GA (ha:PE X a ta) (hb:PE X (.BoolOp .Or (b :: rest) pos) tb):PE X (.BoolOp .Or (a :: b :: rest) pos) (Hf ta tb):=by
 intro pins s σ H Q I h;refine BoolOp_or (thn (ha pins s σ H _ I h) fun v s1 ⟨x,H1,I1,r1,q1⟩=>?_)
 obtain ⟨c,rfl,q1⟩:=q1;cases r1;refine wpAny_truthy_bool ?_;cases c with
 | false=>exact hb pins s1 σ H1 Q I1 q1
 | true=>exact ⟨.bl true,H1,I1,rfl,q1⟩
theorem EE (ha:PE X a ta):PE X (.UnaryOp .Not a pos) (FZ ta):=by
 intro pins s σ H Q I h;refine UnaryOp_ (thn (ha pins s σ H _ I h) fun v s1 ⟨x,H1,I1,r1,q1⟩=>?_)
 obtain ⟨c,rfl,q1⟩:=q1;cases r1;exact not_of (wpAny_truthy_bool ⟨.bl (!c),H1,I1,rfl,q1⟩)
def tIf (t:TT) (ta tb:TE):TE:=fun σ H Q=>t σ H fun c H1=>if c=true then ta σ H1 Q else tb σ H1 Q
theorem Ak {c:Expr} (hc:PT X c tA) (ha:PE X a ta) (hb:PE X b tb):PE X (.IfExp c a b pos) (tIf tA ta tb):=by
 intro pins s σ H Q I h;refine wpAny_IfExp (thn (hc pins s σ H _ I h) fun d s1 ⟨H1,I1,q1⟩=>?_)
 cases d with
 | true=>exact ha pins s1 σ H1 Q I1 q1
 | false=>exact hb pins s1 σ H1 Q I1 q1
end
end L2
namespace L2
open PySem PySem.Spec PyProof.Rows
def SqL (K:Zu) (H:Hp) (a:Addr) (xs:List V):Prop :=
 Rd H a (.lst xs) \/
  ∃ (o:Obj) (its:Array Value) (n:Nat),K.lookup a=some o/\o.cls=.type "list"/\o.dict=none/\o.data=.seq its n/\its.size<=sizeLine/\Vals xs its.toList
def SqT (K:Zu) (H:Hp) (a:Addr) (xs:List V):Prop :=
 Rd H a (.tup xs) \/
  ∃ (o:Obj) (its:Array Value) (n:Nat),K.lookup a=some o/\o.cls=.type "tuple"/\o.data=.seq its n/\its.size<=sizeLine/\Vals xs its.toList
def Ht:Value->Option V
 | .none=>some .non
 | .bool b=>some (.bl b)
 | .int i _=>some (.int i)
 | .str x _=>some (.str x)
 | .bytes b _=>some (.byt b)
 | .float b _=>some (.flt b)
 | .ref a=>some (.ref a)
 | .type n=>some (.ty n)
 | _=>none
theorem RelV.abs {x:V} {u:Value} (r:RelV x u):Ht u=some x:=by
 cases x with
 | non=>cases r;rfl
 | bl _=>cases r;rfl
 | int _=>obtain ⟨t,rfl⟩:=r;rfl
 | str _=>obtain ⟨t,rfl⟩:=r;rfl
 | byt _=>obtain ⟨t,rfl⟩:=r;rfl
 | flt _=>obtain ⟨t,rfl⟩:=r;rfl
 | ref _=>cases r;rfl
 | ty _=>cases r;rfl
theorem RelV.inj {x y:V} {u:Value} (r:RelV x u) (q:RelV y u):x=y:=ZA (r.abs.symm.trans q.abs)
theorem Vals.inj:∀ {xs ys:List V} {us:List Value},Vals xs us->Vals ys us->xs=ys
 | _,_,_,.nil,.nil=>rfl
 | _,_,_,.cons r t,.cons r' t'=>by rw [r.inj r',Vals.inj t t']
section
variable {X:Cx} {pins:List (Addr×Obj)} {σ:St} {H:Hp} {s:Shared} {a:Addr} {xs ys:List V}
theorem SqL.of {K:Zu} (h:H a=some (.lst xs)):SqL K H a xs:=.inl (.inl h)
theorem SqT.of {K:Zu} (h:H a=some (.tup xs)):SqT K H a xs:=.inl (.inl h)
theorem Inv.list (I:Inv X pins σ H s) (h:SqL X.K H a xs):∃ its:List Value,Vals xs its/\PlainL s.heap a its.toArray/\xs.length<=sizeLine:=by
 rcases h with h | ⟨o,its,n,hk,hc,hd,hs,hz,r⟩
 . obtain ⟨z,its,n,r,e⟩:=h.ok I.hok;exact ⟨its,r,⟨_,n,e,rfl,rfl,rfl⟩,z⟩
 . refine ⟨its.toList,r,⟨o,n,I.kIn a o hk,hc,hd,by simpa using hs⟩,?_⟩
   have e:=r.length;simp only [Array.length_toList] at e;omega
theorem Inv.tuple (I:Inv X pins σ H s) (h:SqT X.K H a xs):∃ its:List Value,Vals xs its/\IsTup s.heap a its.toArray/\xs.length<=sizeLine:=by
 rcases h with h | ⟨o,its,n,hk,hc,hs,hz,r⟩
 . obtain ⟨z,its,r,p⟩:=h.ok I.hok;exact ⟨its,r,p,z⟩
 . refine ⟨its.toList,r,⟨o,I.kIn a o hk,hc,n,by simpa using hs⟩,?_⟩
   have e:=r.length;simp only [Array.length_toList] at e;omega
theorem Inv.list_inj (I:Inv X pins σ H s) (h:SqL X.K H a xs) (h':SqL X.K H a ys):xs=ys:=by
 obtain ⟨its,r,⟨o,n,e,_,_,d⟩,_⟩:=I.list h;obtain ⟨its',r',⟨o',n',e',_,_,d'⟩,_⟩:=I.list h';rw [e] at e';cases e';rw [d] at d';injection d' with d1 _
 have:its=its':=by simpa using congrArg Array.toList d1
 subst this;exact r.inj r'
theorem Inv.tuple_inj (I:Inv X pins σ H s) (h:SqT X.K H a xs) (h':SqT X.K H a ys):xs=ys:=by
 obtain ⟨its,r,⟨o,e,_,n,d⟩,_⟩:=I.tuple h;obtain ⟨its',r',⟨o',e',_,n',d'⟩,_⟩:=I.tuple h';rw [e] at e';cases e';rw [d] at d';injection d' with d1 _
 have:its=its':=by simpa using congrArg Array.toList d1
 subst this;exact r.inj r'
end
abbrev Cx.wish (X:Cx) (E:Value->Shared->Prop):Cx:={ X with xe:=E }
abbrev Cx.nox (X:Cx):Cx:=X.wish fun _ _=>False
theorem Cx.Ok.wish {X:Cx} (ok:X.Ok) (E:Value->Shared->Prop):(X.wish E).Ok :=
 ⟨ok.mod,ok.kind,ok.glob,ok.blt,ok.above,ok.inj,ok.has,ok.cab,ok.hd,ok.frames,ok.stk,ok.exf,ok.bs,ok.bsz,ok.noex,ok.exfs,ok.funs,ok.frf⟩
theorem Cx.Ok.unwish {X:Cx} {E:Value->Shared->Prop} (ok:(X.wish E).Ok):X.Ok :=
 ⟨ok.mod,ok.kind,ok.glob,ok.blt,ok.above,ok.inj,ok.has,ok.cab,ok.hd,ok.frames,ok.stk,ok.exf,ok.bs,ok.bsz,ok.noex,ok.exfs,ok.funs,ok.frf⟩
section
variable {X:Cx} {pins:List (Addr×Obj)} {σ:St} {H:Hp} {s:Shared} {E:Value->Shared->Prop}
theorem Inv.wish (I:Inv X pins σ H s) (E:Value->Shared->Prop):Inv (X.wish E) pins σ H s:=⟨I.ok.wish E,I.os,I.bare,I.base,I.loc,I.cell,I.free,I.freeC,I.pin,I.hok,I.len⟩
theorem Inv.unwish (I:Inv (X.wish E) pins σ H s):Inv X pins σ H s:=⟨I.ok.unwish,I.os,I.bare,I.base,I.loc,I.cell,I.free,I.freeC,I.pin,I.hok,I.len⟩
theorem SP.unwish {D:pL} {f:Flow} {s':Shared} (h:SP (X.wish E) pins D f s'):SP X pins D f s':=by
 cases f with
 | next=>obtain ⟨σ',H',I,q⟩:=h;exact ⟨σ',H',I.unwish,q⟩
 | brk=>obtain ⟨σ',H',I,q⟩:=h;exact ⟨σ',H',I.unwish,q⟩
 | cont=>obtain ⟨σ',H',I,q⟩:=h;exact ⟨σ',H',I.unwish,q⟩
 | ret u=>obtain ⟨v,σ',H',I,r,q⟩:=h;exact ⟨v,σ',H',I.unwish,r,q⟩
theorem PSs.nox {st:List Stmt} {t:TS} (h:PSs X.nox st t):PSs X st t:=fun pins s σ H D I hw =>
 wpAny_mono (h pins s σ H D (I.wish _) hw) (fun _ _ q=>q.unwish) fun _ _ z=>False.elim z
end
section
variable {X:Cx} {st:Stmt} {rest:List Stmt} {t u:TS} {e:Expr} {te:TE} {pos:Pos}
def Ga:TS:=fun D σ H=>D.nx σ H
def Hc (t u:TS):TS:=fun D σ H=>t { D with nx:=u D } σ H
theorem rO:PSs X [] Ga:=fun _ _ σ H _ I h=>wpAny_execs_nil ⟨σ,H,I,h⟩
theorem ou (h1:PS X st t) (h2:PSs X rest u):PSs X (st :: rest) (Hc t u):=by
 intro pins s σ H D I h;refine wpAny_execs_cons (thn (h1 pins s σ H { D with nx:=u D } I h) fun f s1 q=>?_)
 cases f with
 | next =>
  obtain ⟨σ',H',I',q⟩:=q;exact h2 pins s1 σ' H' D I' q
 | ret v=>exact q
 | brk=>exact q
 | cont=>exact q
theorem rN (h1:PS X st t):PSs X [st] t:=by
 intro pins s σ H D I h;refine wpAny_execs_cons (thn (h1 pins s σ H D I h) fun f s1 q=>?_)
 cases f with
 | next=>exact wpAny_execs_nil q
 | ret v=>exact q
 | brk=>exact q
 | cont=>exact q
theorem Inv.quiet {pins:List (Addr×Obj)} {σ:St} {H:Hp} {s:Shared} (I:Inv X pins σ H s):interactive X.env=false:=by simp [interactive,I.ok.kind]
def Gb (te:TE):TS:=fun D σ H=>te σ H fun _ H1=>D.nx σ H1
theorem nv (he:PE X e te) (hs:swapsWith e none pos.line X.env=pure false:=by rfl):PS X (.Expr e pos) (Gb te):=by
 intro pins s σ H D I h;exact wpAny_Expr_any (thn (he pins s σ H _ I h) fun v s1 ⟨x,H1,I1,r1,q1⟩=>⟨σ,H1,I1,q1⟩) I.quiet hs
def He (te:TE):TS:=fun D σ H=>te σ H D.rt
theorem vC (he:PE X e te):PS X (.Return (some e) pos) (He te):=by
 intro pins s σ H D I h;exact wpAny_Return_some (thn (he pins s σ H _ I h) fun v s1 ⟨x,H1,I1,r1,q1⟩=>⟨x,σ,H1,I1,r1,q1⟩)
def Hi (c:TT) (t u:TS):TS:=fun D σ H=>c σ H fun b H1=>if b=true then t D σ H1 else u D σ H1
theorem Aa {c:Expr} {a b:List Stmt} {tc:TT} (hc:PT X c tc) (ha:PSs X a t) (hb:PSs X b u):PS X (.If c a b pos) (Hi tc t u):=by
 intro pins s σ H D I h;refine wpAny_If (thn (hc pins s σ H _ I h) fun d s1 ⟨H1,I1,q1⟩=>?_)
 cases d with
 | true=>exact ha pins s1 σ H1 D I1 q1
 | false=>exact hb pins s1 σ H1 D I1 q1
def D7:TS:=fun _ _ _=>False
theorem tM:PS X st D7:=fun _ _ _ _ _ _ h=>h.elim
end
abbrev TG:=V->St->Hp->(St->Hp->Prop)->Prop
abbrev TGs:=List V->St->Hp->(St->Hp->Prop)->Prop
def PG (X:Cx) (target:Expr) (t:TG):Prop :=
 ∀ (pins:List (Addr×Obj)) (s:Shared) (σ:St) (H:Hp) (v:V) (u:Value) (Q:St->Hp->Prop),Inv X pins σ H s->RelV v u->t v σ H Q ->
  wpAny (model X.prog X.w) X.A (assign target X.env u) (fun _ s'=>∃ σ' H',Inv X pins σ' H' s'/\Q σ' H') X.xe s
def PGs (X:Cx) (ts:List Expr) (t:TGs):Prop :=
 ∀ (pins:List (Addr×Obj)) (s:Shared) (σ:St) (H:Hp) (vs:List V) (us:List Value) (Q:St->Hp->Prop),Inv X pins σ H s->Vals vs us->t vs σ H Q ->
  wpAny (model X.prog X.w) X.A (assignInOrder ((assignEach ts X.env).map (·.2)) us) (fun _ s'=>∃ σ' H',Inv X pins σ' H' s'/\Q σ' H') X.xe s
abbrev FJ:=V->V->V->Hp->(Hp->Prop)->Prop
def G3 (X:Cx) (t:FJ):Prop :=
 ∀ (pins:List (Addr×Obj)) (s:Shared) (σ:St) (H:Hp) (o i v:V) (ov iv u:Value) (Q:Hp->Prop),Inv X pins σ H s->RelV o ov->RelV i iv->RelV v u->t o i v H Q ->
  wpAny (model X.prog X.w) X.A (setItem ov iv u) (fun _ s'=>∃ H',Inv X pins σ H' s'/\Q H') X.xe s
section
variable {X:Cx} {pos:Pos}
def xE (i:Nat):TG:=fun v σ H Q=>Q (σ.set i (some v)) H
theorem jL {i:Nat} {x:Str} (hN:X.N.Nodup) (hi:X.N[i]? = some x) (hx:Loc X.env.scope x) (hf:X.fn x=true \/ X.env.scope.names.lookup x=some .local:=by first | exact .inl rfl | exact .inr rfl | assumption):PG X (.Name x pos) (xE i):=by
 intro pins s σ H v u Q I r h;exact wpAny_assign_Name (nX I hN hi hx r (fun s' I'=>⟨_,H,I',h⟩) hf)
def GV:TGs:=fun vs σ H Q=>vs=[]/\Q σ H
def DY (t:TG) (u:TGs):TGs:=fun vs σ H Q=>∃ v r,vs=v :: r/\t v σ H fun σ' H'=>u r σ' H' Q
theorem xj:PGs X [] GV:=by
 intro pins s σ H vs us Q I r h;obtain ⟨e,h⟩:=h;subst e;cases r;exact assignInOrder_nil ⟨σ,H,I,h⟩
theorem kR {e:Expr} {es:List Expr} {t:TG} {u:TGs} (h1:PG X e t) (h2:PGs X es u)
 (hs:(assignEach (e :: es) X.env).map (·.2)=assign e X.env :: (assignEach es X.env).map (·.2):=by rfl):PGs X (e :: es) (DY t u):=by
 intro pins s σ H vs us Q I r h;obtain ⟨v,vr,e1,h⟩:=h;subst e1;cases r with
 | cons r rr =>
  rw [hs];refine assignInOrder_cons (thn (h1 pins s σ H _ _ _ I r h) fun _ s1 ⟨σ1,H1,I1,q1⟩=>?_)
  exact h2 pins s1 σ1 H1 _ _ Q I1 rr q1
def GU (K:Zu) (n:Nat) (t:TGs):TG:=fun v σ H Q=>∃ a xs,v=.ref a/\SqT K H a xs/\xs.length=n/\t xs σ H Q
theorem Ag {es:List Expr} {k:Nat} {t:TGs} {n:Nat} (hc:X.calm=true) (h:PGs X es t)
 (hn:(assignEach es X.env).length=n:=by rfl) (hst:(assignEach es X.env).findIdx? (·.1)=none:=by rfl):PG X (.Tuple es k pos) (GU X.K n t):=by
 intro pins s σ H v u Q I r hw;obtain ⟨a,xs,e1,hq,hl,hw⟩:=hw;subst e1;cases r;obtain ⟨its,rv,ht,hz⟩:=I.tuple hq;refine assign_Tuple_tuple (I.ok.hd hc) ht (by simp [hn,<- hl,rv.length]) hst fun h' hx=>?_
 have I1:Inv X pins σ H { s with heap:=h' }:=I.kept (t':=s.toks) fun b o e=>hx b o (ZB (Heap.lt_size e)) e
 exact h pins _ σ H xs _ Q I1 (by simpa using rv) hw
def C9 (to ti:TE) (t:FJ):TG:=fun v σ H Q=>to σ H fun o H1=>ti σ H1 fun i H2=>t o i v H2 fun H3=>Q σ H3
theorem j7 {o i:Expr} {to ti:TE} {t:FJ} (ho:PE X o to) (hi:PE X i ti) (hs:G3 X t)
 (ha:∀ v,assign (.Subscript o i pos) X.env v=(do
  let ov <- holding [v] (eval o X.env)
  let iv <- holding [v,ov] (eval i X.env)
  standAt pos
  holding [v,ov,iv] (setItem ov iv v)
  release [v,ov,iv] []):=by intro _;rfl):PG X (.Subscript o i pos) (C9 to ti t):=by
 intro pins s σ H v u Q I r h;rw [ha];refine wpAny_bind (wpAny_holding (thn (ho pins s σ H _ I h) fun ov s1 ⟨x,H1,I1,r1,q1⟩=>?_))
 refine wpAny_bind (wpAny_holding (thn (hi pins s1 σ H1 _ I1 q1) fun iv s2 ⟨y,H2,I2,r2,q2⟩=>?_))
 refine wpAny_bind (wpAny_standAt (wpAny_bind (wpAny_holding (thn (hs pins s2 σ H2 x y v ov iv u _ I2 r1 r2 r q2) fun _ s3 ⟨H3,I3,q3⟩=>?_))))
 exact wpAny_release ⟨σ,H3,I3,q3⟩
def D8 (te:TE) (g:TG):TS:=fun D σ H=>te σ H fun x H1=>g x σ H1 D.nx
theorem rP {tg e:Expr} {te:TE} {g:TG} (he:PE X e te) (hg:PG X tg g) (hs:swapsWithSole [tg] e pos.line X.env=pure false:=by rfl) (hw:swappedStores [tg] e X.env=pure none:=by rfl)
 (h1:(assignEach [tg] X.env).map (·.2)=[assign tg X.env]:=by rfl):PS X (.Assign [tg] e pos) (D8 te g):=by
 intro pins s σ H D I h;refine wpAny_Assign_stores (thn (he pins s σ H _ I h) fun v s1 ⟨x,H1,I1,r1,q1⟩=>?_) hs hw
 rw [h1];exact thn (hg pins s1 σ H1 x v _ I1 r1 q1) fun _ s2 q=>q
theorem vB {i:Nat} {x:Str} {e:Expr} {te:TE} {pos':Pos} (hN:X.N.Nodup) (hi:X.N[i]? = some x) (hx:Loc X.env.scope x) (he:PE X e te) (hs:swapsWith e (some (.Name x pos')) pos.line X.env=pure false:=by rfl) (hf:X.fn x=true \/ X.env.scope.names.lookup x=some .local:=by first | exact .inl rfl | exact .inr rfl | assumption) :
 PS X (.Assign [.Name x pos'] e pos) (D8 te (xE i)):=by
 intro pins s σ H D I h;refine wpAny_Assign_Name (thn (he pins s σ H _ I h) fun v s1 ⟨y,H1,I1,r1,q1⟩=>?_) hs
 exact nX I1 hN hi hx r1 (fun s2 I2=>⟨_,H1,I2,q1⟩) hf
end
section
variable {X:Cx} {pos:Pos}
def D6 (c:TT) (tb:TS):TS:=fun D σ H=>∃ W:Nat->St->Hp->Prop,(∃ m,W m σ H)/\∀ m σ H,W m σ H ->
 c σ H fun b H1=>if b=true then ∃ N:St->Hp->Prop,(∀ σ' H',N σ' H'->∃ m',m' < m/\W m' σ' H')/\tb { D with nx:=N,ct:=N,bk:=D.nx } σ H1 else D.nx σ H1
theorem z9 {c:Expr} {body:List Stmt} {tc:TT} {tb:TS} (hp:PassesOwn (model X.prog X.w) X.A X.env X.xe) (hc:PT X c tc) (hb:PSs X body tb):PS X (.While c body [] pos) (D6 tc tb):=by
 intro pins s σ H D I h;obtain ⟨W,⟨m0,w0⟩,turn⟩:=h;refine wpAny_While (codeAny_whileLoop (fun n s'=>∃ σ' H',Inv X pins σ' H' s'/\W n σ' H') ?_ m0 ⟨σ,H,I,w0⟩)
 rintro n s1 ⟨σ1,H1,I1,w1⟩
 refine wpAny_passesOwn hp (thn (hc pins s1 σ1 H1 _ I1 (turn n σ1 H1 w1)) fun b s2 ⟨H2,I2,q2⟩=>?_)
 cases b with
 | true =>
  obtain ⟨N,hN,q2⟩:=q2;rw [if_pos rfl];refine wpAny_passesOwn hp (thn (hb pins s2 σ1 H2 _ I2 q2) fun f s3 q3=>?_)
  cases f with
  | next =>
   obtain ⟨σ3,H3,I3,n3⟩:=q3;obtain ⟨m',hm,w3⟩:=hN σ3 H3 n3;exact ⟨m',hm,σ3,H3,I3,w3⟩
  | cont =>
   obtain ⟨σ3,H3,I3,n3⟩:=q3;obtain ⟨m',hm,w3⟩:=hN σ3 H3 n3;exact ⟨m',hm,σ3,H3,I3,w3⟩
  | brk=>exact q3
  | ret v=>exact q3
 | false =>
  rw [if_neg Zv];exact wpAny_execs_nil ⟨σ1,H2,I2,q2⟩
end
structure It where
 go:Nat->Hp->Prop
 yld:Nat->Hp->V->Hp->Prop
 stop:Nat->Hp->Prop
def jS (X:Cx) (pins:List (Addr×Obj)) (H:Hp) (b:Addr):Prop :=
 H b=none/\b ≠ X.env.locals/\b ∉ X.fs/\(b∈X.ex \/ X.s₀.heap.objs.size<=b)/\(∀ x c,X.env.cells.lookup x=some c->c ≠ b)/\∀ p∈X.pn++pins,p.1 ≠ b
theorem Inv.fpOk {X:Cx} {pins:List (Addr×Obj)} {σ:St} {H H':Hp} {s:Shared} {b:Addr} (I:Inv X pins σ H s) (hb:s.heap.objs.size<=b) (hn:H' b=none):jS X pins H' b:=by
 refine ⟨hn,Nat.ne_of_gt (Zw I.lt hb),I.nofs hb,.inr (Nat.le_trans I.sz hb),fun x c e z=>?_,fun p hp z=>?_⟩
 . obtain ⟨v,q⟩:=I.cell x c e;exact absurd (Zw q.lt (by rw [z];exact hb)) (ZC _)
 . exact absurd (Zw (Heap.lt_size (I.pin p hp).1) (by rw [z];exact hb)) (ZC _)
structure wz (P:Program) (w:World) (K:Zu) (tg:Expr) (J:It) (fp:List Addr) (it:Addr) (tn:Nat->Heap->Prop):Prop where
 mem:it∈fp
 obj:∀ i h,tn i h->∀ b∈fp,∃ o,h.get? b=some o/\∀ v,o.data ≠ .cell v
 keep:∀ i h h',tn i h->(∀ b∈fp,∀ o,h.get? b=some o->h'.get? b=some o)->tn i h'
 item:∀ (X:Cx),X.prog=P->X.w=w->X.K=K->X.calm=true->∀ (i:Nat) (pins:List (Addr×Obj)) (s:Shared) (σ:St) (H:Hp) (E:Value->Shared->Prop),Inv X pins σ H s->(∀ b∈fp,jS X pins H b)->tn i s.heap->J.go i H ->
  wpAny (model P w) X.A (pyNext (.ref it)) (fun r s1=>∃ u,r=some u /\
   wpAny (model P w) X.A (letOwnedTupleGo tg (.ref it) u) (fun _ s2=>∃ x H',Inv X pins σ H' s2/\RelV x u/\J.yld i H x H'/\tn (i+1) s2.heap/\∀ b∈fp,H' b=none) E s1) E s
 done:∀ (X:Cx),X.prog=P->X.w=w->X.K=K->X.calm=true->∀ (i:Nat) (pins:List (Addr×Obj)) (s:Shared) (σ:St) (H:Hp) (E:Value->Shared->Prop),Inv X pins σ H s->(∀ b∈fp,jS X pins H b)->tn i s.heap->J.stop i H ->
  wpAny (model P w) X.A (pyNext (.ref it)) (fun r s1=>r=none/\Inv X pins σ H s1) E s
 self:∀ (A:Around) (i:Nat) (s:Shared) (Q:Value->Shared->Prop) (E:Value->Shared->Prop),tn i s.heap->Q (.ref it) s->wpAny (model P w) A (pyIter (.ref it)) Q E s
abbrev TI:=St->Hp->(It->Hp->Prop)->Prop
def PIE (X:Cx) (pins:List (Addr×Obj)) (σ:St) (tg:Expr) (R:It->Hp->Prop) (itv:Value) (s2:Shared):Prop :=
 ∃ (it:Addr) (fp:List Addr) (tn:Nat->Heap->Prop) (J:It) (H':Hp),itv=.ref it/\Inv X pins σ H' s2/\wz X.prog X.w X.K tg J fp it tn/\tn 0 s2.heap/\(∀ b∈fp,jS X pins H' b)/\R J H'
def PI (X:Cx) (tg iter:Expr) (wi:TI):Prop :=
 ∀ (pins:List (Addr×Obj)) (s:Shared) (σ:St) (H:Hp) (R:It->Hp->Prop),Inv X pins σ H s->wi σ H R ->
  wpAny (model X.prog X.w) X.A (eval iter X.env) (fun v s1=>wpAny (model X.prog X.w) X.A (pyIter v) (PIE X pins σ tg R) X.xe s1) X.xe s
theorem DX {M:Model} {A:Around} {E:Value->Shared->Prop} {s:Shared} {tg:Expr} {it:Addr} {u:Value} {o:Obj} {n:String} {vs:Array Value} {Q:Unit->Shared->Prop} (ho:s.heap.get? it=some o) (hc:o.cls=.type n) (hd:o.data=.fields vs)
 (hn:["enumerate","zip","dict_itemiterator","dict_reverseitemiterator","odict_iterator","itertools.zip_longest","itertools.pairwise"].contains n=false) (hQ:Q () s):wpAny M A (letOwnedTupleGo tg (.ref it) u) Q E s:=by
 unfold letOwnedTupleGo;cases tg <;> first
  | exact wpAny_pure hQ
  | (cases u <;> first
   | exact wpAny_pure hQ
   | (refine wpAny_bind (wpAny_load ho ?_)
      rw [hc,hd];show wpAny M A (if (["enumerate","zip","dict_itemiterator","dict_reverseitemiterator","odict_iterator","itertools.zip_longest","itertools.pairwise"].contains n && vs[0]? == some (rawInt _))=true then _ else _) Q E s
      rw [if_neg (by intro h;rw [hn,Bool.false_and] at h;cases h)]
      exact wpAny_pure hQ))
def Itl (K:Zu) (a:Addr):It :=
 ⟨fun i H=>∃ xs x,SqL K H a xs/\xs[i]? = some x,fun i H x H'=>H'=H/\∀ xs,SqL K H a xs->xs[i]? = some x,fun i H=>∃ xs,SqL K H a xs/\xs.length<=i⟩
def Itr (lo:Int) (n:Nat):It:=⟨fun i _=>i < n,fun i H x H'=>H'=H/\x=.int (lo+i),fun i _=>n<=i⟩
theorem yh {P:Program} {w:World} {K:Zu} {tg:Expr} (a it:Addr):wz P w K tg (Itl K a) [it] it (fun i h=>h.IsListIter it a i) where
 mem:=by simp
 obj:=fun i h st b hb=>by
  have e:b=it:=by simpa using hb
  subst e;obtain ⟨o,e,c,d⟩:=st;exact ⟨o,e,fun v z=>by rw [d] at z;cases z⟩
 keep:=fun i h h' st k=>st.at fun o e=>k it (by simp) o e
 item:=by
  intro X hP hw hK hc i pins s σ H E I hf st hg;subst hP hw hK;obtain ⟨xs,x,hq,hx⟩:=hg;obtain ⟨its,rv,p,hz⟩:=I.list hq;obtain ⟨u,hu,ru⟩:=rv.get hx;obtain ⟨f0,f1,f2,f3,f4,f5⟩:=hf it (by simp)
  refine wpAny_pyNext_list_item st p.isList (x:=u) (by simpa using hu) fun h' st' sb=>?_
  have I1:Inv X pins σ H { s with heap:=h' }:=I.turned (t':=s.toks) (fun b o hb e=>(sb.2 b hb).trans e) f0 f1 f3 f4 f5
  obtain ⟨o,e,c,d⟩:=id st';exact ⟨u,rfl,DX (s:={ s with heap:=h' }) e c d (by decide) ⟨x,H,I1,ru,⟨rfl,fun ys hy=>by rw [I.list_inj hy hq];exact hx⟩,st',fun b hb=>(hf b hb).1⟩⟩
 done:=by
  intro X hP hw hK hc i pins s σ H E I hf st hg;subst hP hw hK;obtain ⟨xs,hq,hx⟩:=hg;obtain ⟨its,rv,p,hz⟩:=I.list hq;obtain ⟨f0,f1,f2,f3,f4,f5⟩:=hf it (by simp)
  have hl:=rv.length;exact wpAny_pyNext_list_end (I.ok.hd hc) st p.isList (by simp;omega) fun h' eb=>⟨rfl,I.turned (t':=s.toks) (fun b o hb e=>eb b o hb e) f0 f1 f3 f4 f5⟩
 self:=fun _ _ _ _ _ st h=>wpAny_pyIter_listiter st h
theorem vf {P:Program} {w:World} {K:Zu} {tg:Expr} (it:Addr) (lo:Int) (n:Nat):wz P w K tg (Itr lo n) [it] it (fun i h=>IsRangeIter h it (lo+(i:Nat)*1) ((n:Int) - (i:Nat)) 1) where
 mem:=by simp
 obj:=fun i h st b hb=>by
  have e:b=it:=by simpa using hb
  subst e;exact ⟨_,st,fun v z=>by
   have z':Data.fields _=Data.cell v:=z;cases z'⟩
 keep:=fun i h h' st k=>k it (by simp) _ st
 item:=by
  intro X hP hw hK hc i pins s σ H E I hf st hg;subst hP hw hK;obtain ⟨f0,f1,f2,f3,f4,f5⟩:=hf it (by simp)
  have W:=Walks.range (prog:=X.prog) (w:=X.w) (I.ok.hd hc) it lo 1 n;refine W.item i s _ _ hg st fun v h' tk hv st' kk=>?_
  obtain ⟨t,rfl⟩:=hv;have I1:Inv X pins σ H { s with heap:=h',toks:=tk }:=I.turned (fun b o hb e=>kk b o (by simpa using hb) e) f0 f1 f3 f4 f5
  refine ⟨_,rfl,DX (s:={ s with heap:=h',toks:=tk }) (n:="range_iterator") st' rfl rfl (by decide) ⟨.int (lo+i),H,I1,⟨t,?_⟩,⟨rfl,rfl⟩,st',fun b hb=>(hf b hb).1⟩⟩
  rw [Int.mul_one]
 done:=by
  intro X hP hw hK hc i pins s σ H E I hf st hg;subst hP hw hK;obtain ⟨f0,f1,f2,f3,f4,f5⟩:=hf it (by simp)
  exact wpAny_pyNext_range_end (I.ok.hd hc) st (by have:n<=i:=hg;omega) fun h' eb=>⟨rfl,I.turned (t':=s.toks) (fun b o hb e=>eb b o hb e) f0 f1 f3 f4 f5⟩
 self:=fun _ _ _ _ _ st h=>wpAny_pyIter_rangeiter st h
end L2
namespace L2
open PySem PySem.Spec PyProof.Rows
section
variable {X:Cx} {tg:Expr}
def GS (K:Zu) (tl:TE):TI:=fun σ H R=>tl σ H fun x H1=>∃ a,x=.ref a/\(∃ xs,SqL K H1 a xs)/\R (Itl K a) H1
theorem xi {l:Expr} {tl:TE} (hl:PE X l tl):PI X tg l (GS X.K tl):=by
 intro pins s σ H R I h;refine thn (hl pins s σ H _ I h) fun v s1 ⟨x,H1,I1,r1,q1⟩=>?_
 obtain ⟨a,e,⟨xs,hq⟩,q⟩:=q1;subst e;cases r1;obtain ⟨its,rv,p,hz⟩:=I1.list hq;refine wpAny_pyIter_list p.isList ?_;refine ⟨s1.heap.objs.size,[s1.heap.objs.size],_,_,H1,rfl,I1.kept (t':=s1.toks) fun b o e=>Heap.get?_push_of_some _ e,yh a _,⟨_,Heap.get?_push_size _ rfl,rfl,rfl⟩,fun b hb=>?_,q⟩
 have e:b=s1.heap.objs.size:=by simpa using hb
 subst e;exact I1.fpOk (ZG _) (I1.hok.fresh (ZG _))
theorem tL {pins:List (Addr×Obj)} {σ:St} {H:Hp} {s:Shared} {R:It->Hp->Prop} {E:Value->Shared->Prop} {lo hi:Int} {t u v:Tok} {tk:Nat} (I:Inv X pins σ H s) (h1:-(2 ^ 62)<=lo) (h2:lo < 2 ^ 62) (h3:-(2 ^ 62)<=hi) (h4:hi < 2 ^ 62)
 (q:R (Itr lo (hi - lo).toNat) H):wpAny (model X.prog X.w) X.A (pyIter (.ref s.heap.objs.size)) (PIE X pins σ tg R) E { s with heap:=s.heap.push { cls:=.type "range",data:=.fields #[.int lo t,.int hi u,.int 1 v] },toks:=tk }:=by
 refine wpAny_pyIter_range (IsRange.new ..) (small_one h1 h2 h3 h4) ?_;have I1:Inv X pins σ H { s with heap:=s.heap.push { cls:=.type "range",data:=.fields #[.int lo t,.int hi u,.int 1 v] },toks:=tk }:=I.kept fun b o e=>Heap.get?_push_of_some _ e
 refine ⟨(s.heap.push { cls:=.type "range",data:=.fields #[.int lo t,.int hi u,.int 1 v] }).objs.size,[(s.heap.push { cls:=.type "range",data:=.fields #[.int lo t,.int hi u,.int 1 v] }).objs.size],_,_,H,rfl,
  I1.kept (t':=tk) fun b o e=>Heap.get?_push_of_some _ e,vf _ lo (hi - lo).toNat,?_,fun b hb=>?_,q⟩
 . have e1:lo+((0:Nat):Int)*1=lo:=by simp
   have e2:(((hi - lo).toNat:Nat):Int) - ((0:Nat):Int)=Builtin.Range.rangeSize lo hi 1:=by rw [rangeSize_one];split <;> omega
   show IsRangeIter _ _ (lo+((0:Nat):Int)*1) ((((hi - lo).toNat:Nat):Int) - ((0:Nat):Int)) 1;rw [e1,e2];exact Heap.get?_push_size _ rfl
 . have e:b=(s.heap.push { cls:=.type "range",data:=.fields #[.int lo t,.int hi u,.int 1 v] }).objs.size:=by simpa using hb
   subst e;exact I1.fpOk (ZG _) (I1.hok.fresh (ZG _))
def GR (ta:TA):TI:=fun σ H R=>ta σ H fun vs H1=>∃ j:Int,vs=[.int j]/\-(2 ^ 62)<=j/\j < 2 ^ 62/\R (Itr 0 j.toNat) H1
def GQ (ta:TA):TI:=fun σ H R=>ta σ H fun vs H1=>∃ i j:Int,vs=[.int i,.int j]/\(-(2 ^ 62)<=i/\i < 2 ^ 62/\-(2 ^ 62)<=j/\j < 2 ^ 62)/\R (Itr i (j - i).toNat) H1
theorem qv {a:Expr} {ta:TA} {p pos:Pos} (hg:Gl X "range") (hm:X.mg "range" = none) (ha:PA X [a] ta) (hs:starEach [a] X.env=[(false,eval a X.env)]:=by rfl):PI X tg (.Call (.Name "range" p) [a] [] pos) (GR ta):=by
 intro pins s σ H R I h;refine Call_ (oO I hg hm boot_range (PyProof.Rows.callWith_type1 (thn (ha pos pins s σ H _ I h) fun us s1 ⟨vs,H1,I1,r1,q1⟩=>?_) hs rfl))
 obtain ⟨j,e,q1,q2,q⟩:=q1;subst e;cases r1 with
 | cons r rr =>
  cases rr;obtain ⟨t,rfl⟩:=r;exact call_range_1 (tL I1 (by omega) (by omega) q1 q2 (by simpa using q))
theorem yz {a b:Expr} {ta:TA} {p pos:Pos} (hg:Gl X "range") (hm:X.mg "range" = none) (ha:PA X [a,b] ta) (hs:starEach [a,b] X.env=[(false,eval a X.env),(false,eval b X.env)]:=by rfl) (hs2:starEach [b] X.env=[(false,eval b X.env)]:=by rfl) :
 PI X tg (.Call (.Name "range" p) [a,b] [] pos) (GQ ta):=by
 intro pins s σ H R I h;refine Call_ (oO I hg hm boot_range (PyProof.Rows.callWith_type1 (thn (ha pos pins s σ H _ I h) fun us s1 ⟨vs,H1,I1,r1,q1⟩=>?_) (by rw [hs,hs2]) (by rw [hs2];rfl)))
 obtain ⟨i,j,e,⟨q1,q2,q3,q4⟩,q⟩:=q1;subst e;cases r1 with
 | cons r rr =>
  cases rr with
  | cons r' rr =>
   cases rr;obtain ⟨t,rfl⟩:=r;obtain ⟨t',rfl⟩:=r';exact call_range_2 (tL I1 q1 q2 q3 q4 q)
def Hj (wi:TI) (g:TG) (tb:TS):TS:=fun D σ H=>wi σ H fun J H1=>∃ W:Nat->Nat->St->Hp->Prop,(∃ m,W 0 m σ H1)/\∀ i m σ H,W i m σ H ->
 (J.stop i H/\D.nx σ H) \/ (J.go i H/\∃ N:St->Hp->Prop,(∀ σ' H',N σ' H'->∃ m',m' < m/\W (i+1) m' σ' H')/\∀ x H',J.yld i H x H'->g x σ H' fun σ2 H2=>tb { D with nx:=N,ct:=N,bk:=D.nx } σ2 H2)
def rR (fp:List Addr) (h:Heap):List (Addr×Obj):=fp.filterMap fun b=>(h.get? b).map fun o=>(b,o)
theorem fq {fp:List Addr} {h:Heap} {b:Addr} {o:Obj} (hb:b∈fp) (e:h.get? b=some o):(b,o)∈rR fp h:=List.mem_filterMap.mpr ⟨b,hb,by rw [e];rfl⟩
theorem yH {fp:List Addr} {h:Heap} {p:Addr×Obj} (hp:p∈rR fp h):p.1∈fp/\h.get? p.1=some p.2:=by
 obtain ⟨b,hb,e⟩:=List.mem_filterMap.mp hp;cases q:h.get? b with
 | none=>rw [q] at e;cases e
 | some o =>
  rw [q] at e;have e':(b,o)=p:=ZA e;subst e';exact ⟨hb,q⟩
theorem Inv.pinned {pins:List (Addr×Obj)} {σ:St} {H:Hp} {s:Shared} {fp:List Addr} (I:Inv X pins σ H s) (hf:∀ b∈fp,jS X pins H b) (ho:∀ b∈fp,∃ o,s.heap.get? b=some o/\∀ v,o.data ≠ .cell v):Inv X (pins++rR fp s.heap) σ H s :=
 I.pins_of fun p hp=>(Zp.mp hp).elim (fun z=>I.pin p (Zx _ z)) fun z=>by
  obtain ⟨hb,e⟩:=yH z;obtain ⟨f0,f1,f2,_⟩:=hf p.1 hb;obtain ⟨o,e',d⟩:=ho p.1 hb;rw [e] at e';cases e';exact ⟨e,f0,f1,f2,d⟩
theorem Inv.unpinned {pins pl:List (Addr×Obj)} {σ:St} {H:Hp} {s:Shared} (I:Inv X (pins++pl) σ H s):Inv X pins σ H s:=I.pins_of fun p hp=>I.pin p (Zx _ (Zy _ hp))
theorem vD {iter:Expr} {body:List Stmt} {wi:TI} {g:TG} {tb:TS} {pos:Pos} (hp:PassesOwn (model X.prog X.w) X.A X.env X.xe) (hc:X.calm=true) (hi:PI X tg iter wi) (hg:PG X tg g) (hb:PSs X body tb)
 (hs:∀ x,foldedSetIterable iter X.env x=pure x:=by intro _;rfl):PS X (.For tg iter body [] pos) (Hj wi g tb):=by
 intro pins s σ H D I h;refine wpAny_For (thn (hi pins s σ H _ I h) fun v s1 h1=>thn h1 fun itv s2 h2=>?_) hs
 obtain ⟨it,fp,tn,J,H2,e,I2,T,st2,f2,W,⟨m0,w0⟩,turn⟩:=h2;subst e;have stat:∀ {H':Hp},(∀ b∈fp,H' b=none)->∀ b∈fp,jS X pins H' b:=fun hn b hb=>⟨hn b hb,(f2 b hb).2⟩
 refine codeAny_forLoop_any (fun n s'=>∃ i σ' H',Inv X pins σ' H' s'/\tn i s'.heap/\(∀ b∈fp,H' b=none)/\W i n σ' H') ?_ m0 ⟨0,σ,H2,I2,st2,fun b hb=>(f2 b hb).1,w0⟩
 rintro n s3 ⟨i,σ3,H3,I3,st3,fr3,w3⟩
 rcases turn i n σ3 H3 w3 with ⟨stop,qn⟩ | ⟨go,N,hN,step⟩
 . refine wpAny_passesOwn hp (thn (T.done X rfl rfl rfl hc i pins s3 σ3 H3 X.xe I3 (stat fr3) st3 stop) fun r s4 ⟨hr,I4⟩=>?_)
   subst hr;exact wpAny_execs_nil ⟨σ3,H3,I4,qn⟩
 . refine wpAny_passesOwn hp (thn (T.item X rfl rfl rfl hc i pins s3 σ3 H3 X.xe I3 (stat fr3) st3 go) fun r s4 ⟨u,hr,h4⟩=>?_)
   subst hr;refine wpAny_passesOwn hp (thn h4 fun _ s5 ⟨x,H5,I5,r5,y5,st5,fr5⟩=>?_)
   have I5':=I5.pinned (stat fr5) (T.obj _ _ st5);refine wpAny_passesOwn hp (thn (hg _ s5 σ3 H5 x u _ I5' r5 (step x H5 y5)) fun _ s6 ⟨σ6,H6,I6,q6⟩=>?_)
   refine wpAny_passesOwn hp (thn (hb _ s6 σ6 H6 _ I6 q6) fun f s7 q7=>?_)
   have again:∀ {σ7:St} {H7:Hp},Inv X (pins++rR fp s5.heap) σ7 H7 s7->N σ7 H7->∃ m,m < n/\∃ i σ' H',Inv X pins σ' H' s7/\tn i s7.heap/\(∀ b∈fp,H' b=none)/\W i m σ' H':=fun {σ7 H7} I7 n7=>by
    obtain ⟨m',hm,w7⟩:=hN σ7 H7 n7;refine ⟨m',hm,i+1,σ7,H7,I7.unpinned,T.keep _ _ _ st5 fun b hb o e=>(I7.pin (b,o) (Zx _ (Zx _ (fq hb e)))).1,fun b hb=>?_,w7⟩
    obtain ⟨o,e,d⟩:=T.obj _ _ st5 b hb;exact (I7.pin (b,o) (Zx _ (Zx _ (fq hb e)))).2.1
   cases f with
   | next=>obtain ⟨σ7,H7,I7,n7⟩:=q7;exact again I7 n7
   | cont=>obtain ⟨σ7,H7,I7,n7⟩:=q7;exact again I7 n7
   | brk=>obtain ⟨σ7,H7,I7,q7⟩:=q7;exact ⟨σ7,H7,I7.unpinned,q7⟩
   | ret v=>obtain ⟨x7,σ7,H7,I7,r7,q7⟩:=q7;exact ⟨x7,σ7,H7,I7.unpinned,r7,q7⟩
end
end L2
namespace L2
open PySem PySem.Spec PyProof.Rows
abbrev R2:=V->V->Hp->VK->Prop
def OpR (X:Cx) (f:Value->Value->Sem Value) (r:R2):Prop :=
 ∀ (pins:List (Addr×Obj)) (s:Shared) (σ:St) (H:Hp) (x y:V) (v u:Value) (Q:VK),Inv X pins σ H s->RelV x v->RelV y u->r x y H Q ->
  wpAny (model X.prog X.w) X.A (f v u) (EP X pins σ Q) X.xe s
def UnR (X:Cx) (f:Value->Sem Value) (r:V->Hp->VK->Prop):Prop :=
 ∀ (pins:List (Addr×Obj)) (s:Shared) (σ:St) (H:Hp) (x:V) (v:Value) (Q:VK),Inv X pins σ H s->RelV x v->r x H Q ->
  wpAny (model X.prog X.w) X.A (f v) (EP X pins σ Q) X.xe s
def fZ (X:Cx) (f:Value) (r:List V->Hp->VK->Prop):Prop :=
 ∀ (pins:List (Addr×Obj)) (s:Shared) (σ:St) (H:Hp) (xs:List V) (us:List Value) (Q:VK),Inv X pins σ H s->Vals xs us->r xs H Q ->
  wpAny (model X.prog X.w) X.A (call f us) (EP X pins σ Q) X.xe s
def tOp (r:R2) (ta tb:TE):TE:=fun σ H Q=>ta σ H fun x H1=>tb σ H1 fun y H2=>r x y H2 Q
def tUn (r:V->Hp->VK->Prop) (ta:TE):TE:=fun σ H Q=>ta σ H fun x H1=>r x H1 Q
def rI (C:Int->Int->Prop) (g:Int->Int->V):R2:=fun x y H Q=>∃ i j,x=.int i/\y=.int j/\C i j/\Q (g i j) H
def rI0 (g:Int->Int->V):R2:=fun x y H Q=>∃ i j,x=.int i/\y=.int j/\Q (g i j) H
def rU (g:Int->V):V->Hp->VK->Prop:=fun x H Q=>∃ i,x=.int i/\Q (g i) H
section
variable {X:Cx} {a b c:Expr} {ta tb tc:TE} {pos:Pos}
theorem FG (ha:PE X a ta) (hb:PE X b tb) {pins:List (Addr×Obj)} {s:Shared} {σ:St} {H:Hp} {R:V->V->Hp->Prop} (I:Inv X pins σ H s)
 (h:ta σ H fun x H1=>tb σ H1 fun y H2=>R x y H2) {Q:Value->Shared->Prop} {f:Value->Value->Sem Value}
 (hf:∀ v u s2 x y H2,Inv X pins σ H2 s2->RelV x v->RelV y u->R x y H2->wpAny (model X.prog X.w) X.A (f v u) Q X.xe s2) :
 wpAny (model X.prog X.w) X.A (eval a X.env) (fun v s₁=>wpAny (model X.prog X.w) X.A (eval b X.env) (fun u s₂=>wpAny (model X.prog X.w) X.A (f v u) Q X.xe s₂) X.xe s₁) X.xe s:=by
 refine thn (ha pins s σ H _ I h) fun v s1 ⟨x,H1,I1,r1,q1⟩=>?_
 refine thn (hb pins s1 σ H1 _ I1 q1) fun u s2 ⟨y,H2,I2,r2,q2⟩=>?_
 exact hf v u s2 x y H2 I2 r1 r2 q2
theorem Ai {op:Operator} {r:R2} (ho:OpR X (binaryOp op) r) (ha:PE X a ta) (hb:PE X b tb):PE X (.BinOp a op b pos) (tOp r ta tb):=by
 intro pins s σ H Q I h;exact wpAny_BinOp (FG ha hb I h fun v u s2 x y H2 I2 rx ry q=>ho pins s2 σ H2 x y v u Q I2 rx ry q)
theorem Gz {op:UnaryOp} {r:V->Hp->VK->Prop} (ho:UnR X (unaryOp op) r) (ha:PE X a ta):PE X (.UnaryOp op a pos) (tUn r ta):=by
 intro pins s σ H Q I h;exact UnaryOp_ (thn (ha pins s σ H _ I h) fun v s1 ⟨x,H1,I1,r1,q1⟩=>ho pins s1 σ H1 x v Q I1 r1 q1)
theorem opI {f:Value->Value->Sem Value} {C:Int->Int->Prop} {g:Int->Int->Int}
 (rule:∀ (i j:Int) (t u:Tok) (s:Shared) (Q:Value->Shared->Prop) (E:Value->Shared->Prop),C i j->Q (.int (g i j) s.toks) { s with toks:=s.toks+1 }->wpAny (model X.prog X.w) X.A (f (.int i t) (.int j u)) Q E s) :
 OpR X f (rI C fun i j=>.int (g i j)):=by
 intro pins s σ H x y v u Q I rx ry h;obtain ⟨i,j,rfl,rfl,hc,q⟩:=h;obtain ⟨t,rfl⟩:=rx;obtain ⟨t',rfl⟩:=ry;exact rule i j t t' s _ _ hc ⟨.int (g i j),H,I.tok _,⟨_,rfl⟩,q⟩
theorem GC {f:Value->Value->Sem Value} {g:Int->Int->Int}
 (rule:∀ (i j:Int) (t u:Tok) (s:Shared) (Q:Value->Shared->Prop) (E:Value->Shared->Prop),Q (.int (g i j) s.toks) { s with toks:=s.toks+1 }->wpAny (model X.prog X.w) X.A (f (.int i t) (.int j u)) Q E s) :
 OpR X f (rI0 fun i j=>.int (g i j)):=by
 intro pins s σ H x y v u Q I rx ry h;obtain ⟨i,j,rfl,rfl,q⟩:=h;obtain ⟨t,rfl⟩:=rx;obtain ⟨t',rfl⟩:=ry;exact rule i j t t' s _ _ ⟨.int (g i j),H,I.tok _,⟨_,rfl⟩,q⟩
theorem GD {f:Value->Value->Sem Value} {g:Int->Int->Bool}
 (rule:∀ (i j:Int) (t u:Tok) (s:Shared) (Q:Value->Shared->Prop) (E:Value->Shared->Prop),Q (.bool (g i j)) s->wpAny (model X.prog X.w) X.A (f (.int i t) (.int j u)) Q E s) :
 OpR X f (rI0 fun i j=>.bl (g i j)):=by
 intro pins s σ H x y v u Q I rx ry h;obtain ⟨i,j,rfl,rfl,q⟩:=h;obtain ⟨t,rfl⟩:=rx;obtain ⟨t',rfl⟩:=ry;exact rule i j t t' s _ _ ⟨.bl (g i j),H,I,rfl,q⟩
def zo (i j:Int):Prop:=0<=j/\j<=1000000/\i.natAbs < 2 ^ 64
def CMul (i j:Int):Prop:=(-(2 ^ 64) < i/\i < 2 ^ 64) \/ (-(2 ^ 64) < j/\j < 2 ^ 64)
theorem CMul.ok {i j:Int} (h:CMul i j):IntMulOk i j:=by
 rcases h with ⟨h1,h2⟩ | ⟨h1,h2⟩
 . exact .of_left (intBits_le_64 h1 h2)
 . exact .of_right (intBits_le_64 h1 h2)
theorem op_add:OpR X (binaryOp .Add) (rI0 fun i j=>.int (i+j)):=GC fun _ _ _ _ _ _ _ q=>add_int q
theorem EN:OpR X (binaryOp .Sub) (rI0 fun i j=>.int (i - j)):=GC fun _ _ _ _ _ _ _ q=>sub_int q
theorem ES:OpR X (binaryOp .Mod) (rI (fun _ j=>0 < j) fun i j=>.int (i % j)):=opI fun i j _ _ _ _ _ hc q=>by
 have h1:(0:Int) < j:=hc;exact mod_int' (by omega) (by rw [Int.fmod_eq_emod_of_nonneg i (by omega)];exact q)
theorem EO:OpR X (binaryOp .Pow) (rI zo fun i j=>.int (i ^ j.toNat)):=opI fun _ _ _ _ _ _ _ hc q=>pow_int_small hc.1 hc.2.1 hc.2.2 q
theorem unI {f:Value->Sem Value} {g:Int->Int}
 (rule:∀ (i:Int) (t:Tok) (s:Shared) (Q:Value->Shared->Prop) (E:Value->Shared->Prop),Q (.int (g i) s.toks) { s with toks:=s.toks+1 }->wpAny (model X.prog X.w) X.A (f (.int i t)) Q E s) :
 UnR X f (rU fun i=>.int (g i)):=by
 intro pins s σ H x v Q I rx h;obtain ⟨i,rfl,q⟩:=h;obtain ⟨t,rfl⟩:=rx;exact rule i t s _ _ ⟨.int (g i),H,I.tok _,⟨_,rfl⟩,q⟩
theorem D4:UnR X (unaryOp .USub) (rU fun i=>.int (-i)):=unI fun _ _ _ _ _ q=>neg_int q
end
section
variable {X:Cx} {a b c:Expr} {ta tb tc:TE} {pos:Pos}
theorem Bh {pins:List (Addr×Obj)} {σ:St} {H:Hp} {s:Shared} {Q:VK} {k k':Bool} (I:Inv X pins σ H s) (q:Q (.bl k) H) (e:k=k'):EP X pins σ Q (.bool k') s:=by
 subst e;exact ⟨.bl k,H,I,rfl,q⟩
theorem DQ:OpR X (compareOp .Lt) (rI0 fun i j=>.bl (decide (i < j))):=GD fun _ _ _ _ _ _ _ q=>lt_int q
theorem DR:OpR X (compareOp .Gt) (rI0 fun i j=>.bl (decide (j < i))):=GD fun _ _ _ _ _ _ _ q=>gt_int q
theorem Au:OpR X (compareOp .Is) (fun x y H Q=>y=.non/\Q (.bl (decide (x=.non))) H):=by
 intro pins s σ H x y v u Q I rx ry h;obtain ⟨rfl,q⟩:=h;cases ry;refine is_none_gen (Bh I q ?_);cases x <;> first
  | (cases rx;rfl)
  | (obtain ⟨t,rfl⟩:=rx;rfl)
theorem CA:OpR X (compareOp .IsNot) (fun x y H Q=>y=.non/\Q (.bl (!decide (x=.non))) H):=by
 intro pins s σ H x y v u Q I rx ry h;obtain ⟨rfl,q⟩:=h;cases ry;refine isnot_none_gen (Bh I q ?_);cases x <;> first
  | (cases rx;rfl)
  | (obtain ⟨t,rfl⟩:=rx;rfl)
def GO:HO->Bool
 | .lst _=>true
 | .ins _ _ _=>true
 | _=>false
theorem qz {pins:List (Addr×Obj)} {s:Shared} {σ:St} {H:Hp} {a:Addr} {o:HO} (I:Inv X pins σ H s) (h:H a=some o) (p:GO o=true):∃ ob,s.heap.get? a=some ob/\ob.cls ≠ .type "tuple":=by
 cases o with
 | lst xs =>
  obtain ⟨_,its,n,_,e⟩:xs.length<=sizeLine/\∃ (its:List Value) (n:Nat),Vals xs its/\s.heap.get? a=some { cls:=.type "list",data:=.seq its.toArray n }:=I.hok a _ h;exact ⟨_,e,(by show Value.type "list" ≠ .type "tuple";decide +kernel)⟩
 | ins C dx fs =>
  have x:=I.hok a _ h;obtain ⟨_,_,_,e,_⟩:=x;exact ⟨_,e,(by show Value.ref C ≠ .type "tuple";exact fun z=>by cases z)⟩
 | _=>exact absurd (show false=true from p) Zv
theorem OpR.or {f:Value->Value->Sem Value} {r r':R2} (h:OpR X f r) (h':OpR X f r'):OpR X f (fun x y H Q=>r x y H Q \/ r' x y H Q):=by
 intro pins s σ H x y v u Q I rx ry q;rcases q with q | q
 . exact h pins s σ H x y v u Q I rx ry q
 . exact h' pins s σ H x y v u Q I rx ry q
theorem fg (b:Expr) {op:CmpOp} (h:op ≠ .In:=by decide) (h2:op ≠ .NotIn:=by decide):behindInMarks op b=false:=by
 have e1:(op == CmpOp.In)=false:=by cases op <;> first | rfl | exact absurd rfl h
 have e2:(op == CmpOp.NotIn)=false:=by cases op <;> first | rfl | exact absurd rfl h2
 cases b <;> simp [behindInMarks,e1,e2]
theorem Cr {op:CmpOp} {r:R2} (ho:OpR X (compareOp op) r) (ha:PE X a ta) (hb:PE X b tb) (hm:behindInMarks op b=false):PE X (.Compare a [op] [b] pos) (tOp r ta tb):=by
 intro pins s σ H Q I h;exact wpAny_Compare1 (FG ha hb I h fun v u s2 x y H2 I2 rx ry q=>ho pins s2 σ H2 x y v u Q I2 rx ry q) hm
def FX (t:TE):TT:=fun σ H Q=>t σ H fun x H'=>∃ k,x=.bl k/\Q k H'
theorem Ce {op:CmpOp} {r:R2} (ho:OpR X (compareOp op) r) (ha:PE X a ta) (hb:PE X b tb) (hm:behindInMarks op b=false):PT X (.Compare a [op] [b] pos) (FX (tOp r ta tb)):=by
 intro pins s σ H Q I h;refine wpAny_isTrue_Compare1 (thn (ha pins s σ H _ I h) fun v s1 ⟨x,H1,I1,r1,q1⟩=>thn (hb pins s1 σ H1 _ I1 q1) fun u s2 ⟨y,H2,I2,r2,q2⟩ =>
  thn (ho pins s2 σ H2 x y v u _ I2 r1 r2 q2) fun c s3 ⟨z,H3,I3,r3,k,e,q3⟩=>?_) hm
 subst e;cases r3;exact wpAny_truthy_bool ⟨H3,I3,q3⟩
theorem sd:(sizeLine:Nat) < 2 ^ 63:=by rw [sizeLine_eq];decide
theorem je {x:V} {us:List Value} (r:Vals [x] us):∃ u,us=[u]/\RelV x u:=by
 cases r with
 | cons r1 r2=>cases r2;exact ⟨_,rfl,r1⟩
theorem DB {x y:V} {us:List Value} (r:Vals [x,y] us):∃ u w',us=[u,w']/\RelV x u/\RelV y w':=by
 cases r with
 | cons r1 r2 =>
  cases r2 with
  | cons r3 r4=>cases r4;exact ⟨_,_,rfl,r1,r3⟩
theorem ze:fZ X (.type "int") (fun xs H Q=>(∃ i,xs=[.int i]/\Q (.int i) H) \/ ∃ k,xs=[.bl k]/\Q (.int (if k then 1 else 0)) H):=by
 intro pins s σ H xs us Q I r h;rcases h with ⟨i,rfl,q⟩ | ⟨k,rfl,q⟩
 . obtain ⟨u,rfl,t,rfl⟩:=je r;exact call_int_int ⟨.int i,H,I,⟨_,rfl⟩,q⟩
 . obtain ⟨u,rfl,r1⟩:=je r;cases r1;exact call_int_bool ⟨.int (if k then 1 else 0),H,I.tok _,⟨_,rfl⟩,q⟩
end
end L2
namespace L2
open PySem PySem.Spec PyProof.Rows
section
variable {prog:Program} {w:World} {A:Around} {E:Value->Shared->Prop} {s:Shared} {K:Zu} {x dx C f:Addr} {mA:Str->Option Value} {name:Str} {v:Value}
end
theorem RelO.some_of {v:V} {o:Option Value} (r:RelO (some v) o):∃ u,o=some u/\RelV v u:=by
 cases o with
 | none=>exact (show False from r).elim
 | some u=>exact ⟨u,rfl,r⟩
section
variable {P:Program} {w:World} {H H':Hp} {h h':Heap} {a C dx:Addr} {fs fs':List (Str×V)}
end
section
variable {X:Cx} {pins:List (Addr×Obj)} {σ:St} {H:Hp} {s:Shared} {a C dx:Addr} {fs:List (Str×V)} {f:Str} {v:V} {A:Around} {E:Value->Shared->Prop}
end
section
variable {X:Cx} {o e value:Expr} {f:Str} {pos pos' tpos:Pos} {ta tv:TE}
end
section
variable {X:Cx} {pins:List (Addr×Obj)} {σ:St} {H:Hp} {s:Shared} {A:Around} {E:Value->Shared->Prop} {Q:Value->Shared->Prop} {c:Value} {b:Bool}
end
end L2
namespace L2
open PySem PySem.Spec PyProof.Rows
structure Room (k:Nat) (A:Around):Prop where
 hd:A.handled=none
 dp:A.depth+3*k+5 < recursionLimit
 un:A.units+16*k+200 < cLine
theorem Room.mono {j k:Nat} {A:Around} (r:Room k A) (h:j<=k):Room j A:=⟨r.hd,by have:=r.dp;omega,by have:=r.un;omega⟩
theorem Room.deeper {k:Nat} {A:Around} (r:Room (k+1) A) (env:Env):Room k (A.deeper env) :=
 ⟨r.hd,by have:=r.dp;show A.depth+1+3*k+5 < _;omega,by have:=r.un;show A.units+3+16*k+200 < _;omega⟩
theorem Room.depth {k:Nat} {A:Around} (r:Room k A):A.depth < recursionLimit:=by have:=r.dp;omega
theorem Room.units {k:Nat} {A:Around} (r:Room k A):A.units+64 < cLine:=by have:=r.un;omega
theorem Room.units0 {k:Nat} {A:Around} (r:Room k A):A.units < cLine:=by have:=r.un;omega
def BW:TA:=fun _ H Q=>Q [] H
def nW (ta:TE) (tr:TA):TA:=fun σ H Q=>ta σ H fun x H1=>tr σ H1 fun xs H2=>Q (x :: xs) H2
section
variable {X:Cx} {e:Expr} {es:List Expr} {te:TE} {t:TA} {pos:Pos}
theorem jo:PA X [] BW:=fun _ _ _ _ H Q I h=>Calls.spliced_nil ⟨[],H,I,.nil,h⟩
theorem d6 (ha:PE X e te) (hr:PA X es t) (hs:starEach (e :: es) X.env=(false,eval e X.env) :: starEach es X.env:=by rfl):PA X (e :: es) (nW te t):=by
 intro pos pins s σ H Q I h;rw [hs];show wpAny _ _ (spliced ((false,eval e X.env) :: backTo pos (starEach es X.env))) _ _ s;refine Calls.spliced_cons (thn (ha pins s σ H _ I h) fun u s1 ⟨x,H1,I1,r1,q1⟩=>?_)
 exact thn (hr pos pins s1 σ H1 _ I1 q1) fun us s2 ⟨xs,H2,I2,r2,q2⟩=>⟨x :: xs,H2,I2,.cons r1 r2,q2⟩
def Hb (t:TA):TE:=fun σ H Q=>t σ H fun xs H1=>xs.length<=sizeLine/\∀ p,H1 p=none->Q (.ref p) (upd H1 p (.tup xs))
def Hh (t:TA):TE:=fun σ H Q=>t σ H fun xs H1=>xs.length<=sizeLine/\∀ p,H1 p=none->Q (.ref p) (upd H1 p (.lst xs))
theorem Ah {x1} (h:PA X es t):PE X (.Tuple es x1 pos) (Hb t):=by
 intro pins s σ H Q I hq;refine wpAny_Tuple_spliced (thn (h pos pins s σ H _ I hq) fun us s1 ⟨xs,H1,I1,r,z,q⟩=>⟨by rw [<- r.length];exact z,?_⟩)
 have hf:H1 s1.heap.objs.size=none:=I1.hok.fresh (ZG _);refine ⟨.ref s1.heap.objs.size,upd H1 s1.heap.objs.size (.tup xs),I1.laid (t':=s1.toks) (fun b u e=>Heap.get?_push_of_some _ e) (ZG _) ?_,rfl,q _ hf⟩
 exact ⟨z,us,r,⟨_,Heap.get?_push_size _ rfl,rfl,_,rfl⟩⟩
theorem Aj (h:PA X es t):PE X (.List es pos) (Hh t):=by
 intro pins s σ H Q I hq;refine wpAny_List_spliced (thn (h pos pins s σ H _ I hq) fun us s1 ⟨xs,H1,I1,r,z,q⟩=>⟨by rw [<- r.length];exact z,?_⟩)
 have hf:H1 s1.heap.objs.size=none:=I1.hok.fresh (ZG _);refine ⟨.ref s1.heap.objs.size,upd H1 s1.heap.objs.size (.lst xs),I1.laid (t':=s1.toks) (fun b u e=>Heap.get?_push_of_some _ e) (ZG _) ?_,rfl,q _ hf⟩
 exact ⟨z,us,0,r,Heap.get?_push_size _ rfl⟩
end
abbrev Sp:=List V->Hp->VK->XK->Prop
abbrev CXT:=List Env->Hp->Shared->XK->Value->Shared->Prop
structure Dz (P:Program) (w:World) (K:Zu) (mg:Str->Option Value) (base:Heap) (A:Around) (outer:List Env) (s:Shared) (H:Hp):Prop where
 frames:A.frames=some outer
 mod:Mod K mg base
 bs:∀ b o,base.get? b=some o->s.heap.get? b=some o/\H b=none
 bsz:base.objs.size<=s.heap.objs.size
 funs:s.heap.FunFrames base outer
 frf:∀ b∈frs outer,H b=none
 hok:HOk P w H s.heap
 bare:AllBare s.gens
def CE (outer:List Env) (P:Program) (w:World) (H:Hp) (s:Shared) (Q:VK) (u:Value) (s':Shared):Prop :=
 ∃ v H',s'.os=s.os/\AllBare s'.gens/\Un (frs outer) [] H H' s.heap s'.heap/\HOk P w H' s'.heap/\RelV v u/\Q v H'
def CR (CX:CXT) (outer:List Env) (P:Program) (w:World) (H:Hp) (s:Shared) (Q:VK) (E:XK) (r:Result) (s':Shared):Prop :=
 match r with
 | .ok (.ret u)=>CE outer P w H s Q u s'
 | .ok _=>False
 | .error e=>CX outer H s E e s'
structure FnOk (P:Program) (w:World) (K:Zu) (mg:Str->Option Value) (base:Heap) (CX:CXT) (k:Nat) (f:Addr) (fd:FuncData) (ps:List Str) (sp:Sp):Prop where
 len:∀ vs H Q E,sp vs H Q E->vs.length=ps.length
 run:∀ (A:Around) (outer:List Env) (s:Shared) (H:Hp) (args:Args) (us:List Value) (vs:List V) (Q:VK) (E:XK),Room k A->Dz P w K mg base A outer s H->BindsTo s fd args (ps.zip us)->Vals vs us->sp vs H Q E ->
  codeAny (model P w) A (.call (.ref f) args) (CR CX outer P w H s Q E) s
theorem FnOk.imp {P:Program} {w:World} {K:Zu} {mg:Str->Option Value} {base:Heap} {CX:CXT} {k:Nat} {f:Addr} {fd:FuncData} {ps:List Str} {sp sp':Sp} (F:FnOk P w K mg base CX k f fd ps sp)
 (h:∀ vs H Q E,sp' vs H Q E->sp vs H Q E):FnOk P w K mg base CX k f fd ps sp' :=
 ⟨fun vs H Q E q=>F.len vs H Q E (h _ _ _ _ q),fun A outer s H args us vs Q E hr he hb hv hs=>F.run A outer s H args us vs Q E hr he hb hv (h _ _ _ _ hs)⟩
section
variable {X:Cx} {pins:List (Addr×Obj)} {σ:St} {H:Hp} {s s':Shared}
theorem Inv.env0 (I:Inv X pins σ H s):Dz X.prog X.w X.K X.mg X.base X.A X.stack s H :=
 ⟨I.ok.frames,I.ok.mod,I.bs,Nat.le_trans I.ok.bsz I.sz,I.stack,I.stkFree,I.hok,I.bare⟩
theorem Inv.after {Q:VK} {u:Value} (I:Inv X pins σ H s) (h:CE X.stack X.prog X.w H s Q u s'):EP X pins σ Q u s':=by
 obtain ⟨v,H',os,bare,un,hok,r,q⟩:=h;obtain ⟨hh,g,d,t,os'⟩:=s';obtain rfl:os'=s.os:=os;exact ⟨v,H',I.call (h':=hh) (g':=g) (d':=d) (t':=t) (ch:=[]) un hok bare (fun b z=>absurd z (by simp)),r,q⟩
end
def Ge (sp:Sp) (dvs:List V) (E:XK) (t:TA):TE:=fun σ H Q=>t σ H fun vs H1=>sp (vs++dvs) H1 Q E
def Binds (K:Zu) (fd:FuncData) (ps:List Str) (ds:List Value):Prop :=
 ∀ (s:Shared) (us:List Value),K.In s.heap->(us++ds).length=ps.length->BindsTo s fd ⟨us,[]⟩ (ps.zip (us++ds))
theorem Binds.all {K:Zu} {fd:FuncData} {ps:List Str} (h:∀ us:List Value,us.length=ps.length->bindArgs fd ⟨us,[]⟩=pure (ps.zip us)):Binds K fd ps []:=fun s us _ hl=>by
 rw [List.append_nil] at hl ⊢;exact .of_eq (h us hl)
def wB (CX:CXT) (X:Cx) (E:XK):Prop:=∀ (pins:List (Addr×Obj)) (σ:St) (H:Hp) (s:Shared) (e:Value) (s':Shared),Inv X pins σ H s->CX X.stack H s E e s'->X.xe e s'
section
variable {X:Cx} {CX:CXT} {k:Nat} {f C:Addr} {fd:FuncData} {ps:List Str} {sp:Sp} {dvs:List V} {ds:List Value} {E:XK} {x m:Str} {p pos apos:Pos} {e o:Expr} {es:List Expr} {ta:TE} {t:TA}
theorem Ec {pins:List (Addr×Obj)} {σ:St} {H:Hp} {s:Shared} {Q:VK} {us:List Value} {vs:List V} (F:FnOk X.prog X.w X.K X.mg X.base CX k f fd ps sp) (hr:Room k X.A) (hb:Binds X.K fd ps ds) (hd:Vals dvs ds) (hx:wB CX X E)
 (I:Inv X pins σ H s) (r:Vals vs us) (h:sp (vs++dvs) H Q E):wpAny (model X.prog X.w) X.A (call (.ref f) us) (EP X pins σ Q) X.xe s:=by
 have r2:Vals (vs++dvs) (us++ds):=r.append hd;have hl:(us++ds).length=ps.length:=by rw [<- r2.length];exact F.len _ _ _ _ h
 refine wpAny_call (codeAny_mono (F.run X.A X.stack s H ⟨us,[]⟩ (us++ds) (vs++dvs) Q E hr I.env0 (hb s us I.kIn hl) r2 h) fun r s' hq=>?_)
 cases r with
 | error e=>exact hx pins σ H s e s' I hq
 | ok fl =>
  cases fl with
  | ret u=>exact I.after hq
  | next=>exact False.elim hq
  | brk=>exact False.elim hq
  | cont=>exact False.elim hq
theorem nC (F:FnOk X.prog X.w X.K X.mg X.base CX k f fd ps sp) (hr:Room k X.A) (hg:Gl X x) (hm:X.mg x=some (.ref f)) (hk:PySem.W.keepIn X.K (.ref f)=true) (hb:Binds X.K fd ps ds) (hd:Vals dvs ds) (hx:wB CX X E)
 (ha:PA X (e :: es) t) (hdb:(x == ("__debug__":Str))=false:=by decide) (he:starEach (e :: es) X.env=(false,eval e X.env) :: starEach es X.env:=by rfl) (hpl:(backTo pos (starEach es X.env)).any (·.1)=false:=by rfl) :
 PE X (.Call (.Name x p) (e :: es) [] pos) (Ge sp dvs E t):=by
 intro pins s σ H Q I h;refine wpAny_Call_Name_kw (jM I hg hm ?_ hdb);refine PySem.W.callWith_K (h₀:=X.base) I.ok.mod.kin hk (thn (ha pos pins s σ H _ I h) fun us s1 ⟨vs,H1,I1,r,q⟩=>⟨I1.kIn,?_⟩) he hpl
 exact Ec F hr hb hd hx I1 r q
end
section
variable {X:Cx} {CX:CXT} {k:Nat} {f C:Addr} {fd:FuncData} {ps ks:List Str} {sp:Sp} {E:XK} {x m:Str} {p pos apos kpos:Pos} {e o:Expr} {es:List Expr} {kws:List Keyword} {te ta:TE} {t tk:TA} {nm:Option Str}
variable {g:List Value->List Value->List Value} {gV:List V->List V->List V}
end
structure aF (N P:List Str) (sc:Scope):Prop where
 kind:sc.kind=.function
 co:sc.isCoroutine=false
 gen:sc.isGenerator=false
 nd:N.Nodup
 pre:N.take P.length=P
 par:∀ x∈P,sc.names.lookup x=some .local \/ sc.names.lookup x=some .cell
 nofree:∀ y∈sc.names,y.2 ≠ .free
theorem qW {kindOf:Str->Option NameKind} {x:Str}:∀ {binds:List (Str×Value)} {m:Str->Option Value},(∀ v,(x,v) ∉ binds)->bindL kindOf binds m x=m x
 | [],_,_=>rfl
 | (n,v) :: r,m,h=>by
  unfold bindL;rw [qW fun w hw=>h w (Zl _ hw)]
  split
  . have:x ≠ n:=by rintro rfl;exact h v Zk
    simp [this]
  . rfl
theorem qY {kindOf:Str->Option NameKind} {x:Str}:∀ {binds:List (Str×Value)} {m:Str->Option Value},(∀ v,(x,v) ∉ binds)->bindC kindOf binds m x=m x
 | [],_,_=>rfl
 | (n,v) :: r,m,h=>by
  unfold bindC;rw [qY fun w hw=>h w (Zl _ hw)]
  split
  . rfl
  . have:x ≠ n:=by rintro rfl;exact h v Zk
    simp [this]
theorem qX {kindOf:Str->Option NameKind} {x:Str} {v:Value}:∀ {P:List Str} {vs:List Value} {i:Nat} {m:Str->Option Value},P.Nodup->P[i]? = some x->vs[i]? = some v->kindOf x=some .local ->
 bindL kindOf (P.zip vs) m x=some v
 | [],_,_,_,_,h,_,_=>by simp at h
 | _ :: _,[],_,_,_,_,h,_=>by simp at h
 | p :: P,w :: vs,0,m,nd,h1,h2,hk=>by
  simp at h1 h2;subst h1;subst h2;show bindL kindOf ((p,w) :: P.zip vs) m p=_;unfold bindL;rw [qW fun v hv=>(List.nodup_cons.mp nd).1 (List.of_mem_zip hv).1,if_pos hk]
  simp
 | p :: P,w :: vs,i+1,m,nd,h1,h2,hk=>by
  show bindL kindOf ((p,w) :: P.zip vs) m x=_;unfold bindL;exact qX (i:=i) (List.nodup_cons.mp nd).2 (by simpa using h1) (by simpa using h2) hk
theorem qZ {kindOf:Str->Option NameKind} {x:Str} {v:Value}:∀ {P:List Str} {vs:List Value} {i:Nat} {m:Str->Option Value},P.Nodup->P[i]? = some x->vs[i]? = some v->kindOf x ≠ some .local ->
 bindC kindOf (P.zip vs) m x=some v
 | [],_,_,_,_,h,_,_=>by simp at h
 | _ :: _,[],_,_,_,_,h,_=>by simp at h
 | p :: P,w :: vs,0,m,nd,h1,h2,hk=>by
  simp at h1 h2;subst h1;subst h2;show bindC kindOf ((p,w) :: P.zip vs) m p=_;unfold bindC;rw [qY fun v hv=>(List.nodup_cons.mp nd).1 (List.of_mem_zip hv).1,if_neg hk]
  simp
 | p :: P,w :: vs,i+1,m,nd,h1,h2,hk=>by
  show bindC kindOf ((p,w) :: P.zip vs) m x=_;unfold bindC;exact qZ (i:=i) (List.nodup_cons.mp nd).2 (by simpa using h1) (by simpa using h2) hk
def start (N:List Str) (vs:List V):St:=vs.map some++List.replicate (N.length - vs.length) none
def ii (CX:CXT) (P:Program) (w:World) (K:Zu) (mg:Str->Option Value) (base:Heap) (N:List Str) (qual:Str) (scope:Scope) (f:Addr) (cd:Value) (A:Around) (outer:List Env) (s:Shared) (H:Hp) (E:XK):Cx where
 prog:=P
 w:=w
 K:=K
 mg:=mg
 base:=base
 A:=A.deeper (envOfC qual scope s.heap.objs.size f cd)
 N:=N
 s₀:=s
 H₀:=H
 env:=envOfC qual scope s.heap.objs.size f cd
 outer:=outer
 stack:=envOfC qual scope s.heap.objs.size f cd :: outer
 ex:=[]
 calm:=true
 fn:=fun _=>true
 pn:=[]
 xe:=fun e s'=>wpAny (model P w) (A.deeper (envOfC qual scope s.heap.objs.size f cd)) (leaving (envOfC qual scope s.heap.objs.size f cd) e) (fun _ s''=>CX outer H s E e s'') (fun e' s''=>CX outer H s E e' s'') s'
theorem uX {sc:Scope} {n:Nat} {x:Str} (h:sc.names.lookup x=some .cell):∃ c,(cellsFrom n sc.names []).lookup x=some c:=by
 have q:=PySem.W.cellsFrom_some sc.names n [] (.inl h);exact Option.isSome_iff_exists.mp q
theorem yO {CX:CXT} {P:Program} {w:World} {K:Zu} {mg:Str->Option Value} {base:Heap} {N ps:List Str} {qual:Str} {scope:Scope} {f:Addr} {cd:Value} {A:Around} {outer:List Env} {s s1:Shared} {H:Hp} {E:XK} {us:List Value} {vs:List V}
 (S:aF N ps scope) (hd:A.handled=none) (e0:Dz P w K mg base A outer s H) (hl:vs.length=ps.length) (r:Vals vs us)
 (x:InCallC s s.heap.objs.size (bindL (envOfC qual scope s.heap.objs.size f cd).kindOf (ps.zip us) fun _=>none) (cellsFrom (s.heap.objs.size+1) scope.names []) (bindC (envOfC qual scope s.heap.objs.size f cd).kindOf (ps.zip us) fun _=>none) s1) :
 Inv (ii CX P w K mg base N qual scope f cd A outer s H E) [] (start N vs) H s1:=by
 have hpl:ps.length<=N.length:=by have:=congrArg List.length S.pre;rw [List.length_take] at this;omega
 obtain ⟨h1,tk,rfl,hk⟩:=x.done;have noA:∀ b:Addr,b ∉ (ii CX P w K mg base N qual scope f cd A outer s H E).ex:=fun b z=>absurd (show b∈([]:List Addr) from z) (by simp)
 refine ⟨⟨e0.mod,S.kind,rfl,rfl,ZG _,fun y z c h1 h2=>?_,fun y hy=>?_,fun y c _ h=>?_,fun _=>hd,Around.frames_deeper e0.frames,.inr ⟨rfl,rfl⟩,fun b z=>absurd z (noA b),e0.bs,e0.bsz,fun b _ _=>noA b,fun b z=>absurd z (noA b),e0.funs,e0.frf⟩,
  rfl,e0.bare,Un.kept hk,⟨_,x.toInCall.ns,fun i y v h1 h2 h3=>?_⟩,fun y c h=>⟨_,x.cell y c h⟩,e0.hok.fresh (ZG _),fun y c h=>?_,fun p hp=>absurd (show p∈([]:List (Addr×Obj)) from hp) (by simp),e0.hok.kept hk,?_⟩
 . exact name_of_addr x.apart (PySem.mem_of_lookup h1) (PySem.mem_of_lookup h2)
 . have hy:scope.names.lookup y=some .cell \/ scope.names.lookup y=some .free:=hy;rcases hy with hy | hy
   . exact uX hy
   . exact absurd rfl (S.nofree _ (PySem.mem_of_lookup hy))
 . exact Nat.le_of_lt (x.above y c (PySem.mem_of_lookup h))
 . have hi:i < vs.length:=by
    unfold start at h2
    by_cases hi:i < vs.length
    . exact hi
    . rw [List.getElem?_append_right (by simpa using hi)] at h2
      rw [List.getElem?_replicate] at h2;split at h2 <;> cases h2
   have ha:vs[i]? = some v:=by
    unfold start at h2;rw [List.getElem?_append_left (by simpa using hi),ZD] at h2
    cases e:vs[i]? with
    | none=>rw [e] at h2;cases h2
    | some a=>rw [e] at h2;cases h2;rfl
   obtain ⟨u,hu,rv⟩:=r.get ha;have hp:ps[i]? = some y:=by
    rw [<- S.pre,List.getElem?_take_of_lt (by omega)];exact h1
   have ndP:ps.Nodup:=by rw [<- S.pre];exact S.nd.sublist (List.take_sublist _ _)
   refine ⟨u,rv,?_⟩;rcases S.par y (List.mem_of_getElem? hp) with k | k
   . exact .inl ⟨k,qX ndP hp hu k⟩
   . obtain ⟨c,e⟩:=uX (n:=s.heap.objs.size+1) k;refine .inr ⟨.inl k,c,e,?_⟩;have q:=x.cell y c e;rw [qZ ndP hp hu (by show scope.names.lookup y ≠ _;rw [k];decide)] at q
     exact q
 . exact e0.hok.fresh (Nat.le_of_lt (x.above y c (PySem.mem_of_lookup h)))
 . unfold start;show _=N.length;rw [Zh,Zi,List.length_replicate];omega
theorem Be {CX:CXT} {P:Program} {w:World} {K:Zu} {mg:Str->Option Value} {base:Heap} {k:Nat} {f:Addr} {name qual:Str} {params:Arguments} {body:List Stmt} {scope:Scope} {dV kV doc pm cdv ct oc:Value} {an od:Option Addr}
 {osl:Array (Option Value)} {N ps:List Str} {sp:Sp} (lk:K.lookup f=some ⟨oc,od,.func (PySem.W.fnOf name qual params body scope dV kV doc pm an cdv ct),osl⟩) (hcd:PySem.W.codeIn K cdv qual=true) (S:aF N ps scope)
 (len:∀ vs H Q E,sp vs H Q E->vs.length=ps.length)
 (hbody:∀ (A:Around) (outer:List Env) (s:Shared) (H:Hp) (vs:List V) (Q:VK) (E:XK),Room k (A.deeper (envOfC qual scope s.heap.objs.size f cdv))->sp vs H Q E ->
  ∃ t,PSs (ii CX P w K mg base N qual scope f cdv A outer s H E) body t/\t { nx:=fun _ H'=>Q .non H',rt:=Q } (start N vs) H) :
 FnOk P w K mg base CX (k+1) f (PySem.W.fnOf name qual params body scope dV kV doc pm an cdv ct) ps sp:=by
 refine ⟨len,fun A outer s H args us vs Q E hr e0 hb r hsp=>?_⟩
 have hl:=len _ _ _ _ hsp;have KX:K.In s.heap:=e0.mod.kin.keeps fun b o e=>(e0.bs b o e).1
 have lim:s.heap.NoLimit:=e0.mod.nolimit.keeps fun b o e=>(e0.bs b o e).1
 have hkind:∀ y∈ps.zip us,scope.names.lookup y.1=some .local \/ (scope.names.lookup y.1=some .cell/\((cellsFrom (s.heap.objs.size+1) scope.names []).lookup y.1).isSome=true):=fun ⟨n,v⟩ hy=>by
  rcases S.par n (List.of_mem_zip hy).1 with q | q
  . exact .inl q
  . exact .inr ⟨q,PySem.W.cellsFrom_some _ _ _ (.inl q)⟩
 refine codeAny_call_function hr.depth (KX _ _ lk) rfl S.co S.gen rfl (PySem.W.codeRec_of KX hcd) (hb _ _ _ _ ?_);refine wpAny_newFunctionEnv_cells S.kind hkind fun env he s1 x=>?_
 subst he;refine ⟨lim.keeps x.toInCall.keep,codeAny_func ?_⟩;obtain ⟨t,ht,hq⟩:=hbody A outer s H vs Q E (hr.deeper _) hsp;have I:Inv (ii CX P w K mg base N qual scope f cdv A outer s H E) [] (start N vs) H s1:=yO S hr.hd e0 hl r x;refine wpAny_mono (ht [] s1 (start N vs) H _ I hq) (fun fl s' hs=>?_) fun e s' hs=>hs
 have fin:∀ {σ':St} {H':Hp} {v:V} {u:Value},Inv (ii CX P w K mg base N qual scope f cdv A outer s H E) [] σ' H' s'->RelV v u->Q v H'->CE outer P w H s Q u s' :=
  fun {σ' H' v u} J rv q=>⟨v,H',J.os,J.bare,J.base,J.hok,rv,q⟩
 cases fl with
 | ret u =>
  obtain ⟨v,σ',H',J,rv,q⟩:=hs;exact fin J rv q
 | next =>
  obtain ⟨σ',H',J,q⟩:=hs;exact fin (v:=V.non) (u:=Value.none) J rfl q
 | brk =>
  obtain ⟨_,_,_,q⟩:=hs;exact False.elim q
 | cont =>
  obtain ⟨_,_,_,q⟩:=hs;exact False.elim q
end L2
namespace L2
open PySem PySem.Spec PyProof.Rows
section
variable {X:Cx} {x:Str} {p pos:Pos} {e:Expr} {es:List Expr} {t:TA} {id T:String} {r:List V->Hp->VK->Prop}
def tCB (r:List V->Hp->VK->Prop) (t:TA):TE:=fun σ H Q=>t σ H fun vs H1=>r vs H1 Q
theorem Al (hc:fZ X (.builtin id) r) (hg:Gl X x) (hm:X.mg x=none) (hv:bootBuiltins x=some (.builtin id)) (ha:PA X (e :: es) t) (hn:x ≠ "__name__":=by decide) (hdb:(x == ("__debug__":Str))=false:=by decide)
 (he:starEach (e :: es) X.env=(false,eval e X.env) :: starEach es X.env:=by rfl) (hpl:(backTo pos (starEach es X.env)).any (·.1)=false:=by rfl):PE X (.Call (.Name x p) (e :: es) [] pos) (tCB r t):=by
 intro pins s σ H Q I h;refine wpAny_Call_Name_kw (oO I hg hm hv ?_ hn hdb);exact PyProof.Rows.callWith_builtin1 (thn (ha pos pins s σ H _ I h) fun us s1 ⟨vs,H1,I1,r1,q1⟩=>hc pins s1 σ H1 vs us Q I1 r1 q1) he hpl
theorem iy (hc:fZ X (.type T) r) (hg:Gl X x) (hm:X.mg x=none) (hv:bootBuiltins x=some (.type T)) (ha:PA X (e :: es) t) (hn:x ≠ "__name__":=by decide) (hdb:(x == ("__debug__":Str))=false:=by decide)
 (he:starEach (e :: es) X.env=(false,eval e X.env) :: starEach es X.env:=by rfl) (hpl:(backTo pos (starEach es X.env)).any (·.1)=false:=by rfl):PE X (.Call (.Name x p) (e :: es) [] pos) (tCB r t):=by
 intro pins s σ H Q I h;refine wpAny_Call_Name_kw (oO I hg hm hv ?_ hn hdb);exact PyProof.Rows.callWith_type1 (thn (ha pos pins s σ H _ I h) fun us s1 ⟨vs,H1,I1,r1,q1⟩=>hc pins s1 σ H1 vs us Q I1 r1 q1) he hpl
end
end L2
namespace HT
open PySem PyProof.Rows
section
open PySem.SeqAt
open PySem.AutoSeq1 (wpAny_loadPart')
open PySem.MeetsSeq PySem.MeetsSeq2 PySem.MeetsSeq3
end
section
variable {prog:Program} {w:World} {A:Around} {E:Value->Shared->Prop} {s:Shared}
def sIx (n d:Nat):Option Int->Nat
 | none=>d
 | some v=>if v < 0 then (v+(n:Int)).toNat else min v.toNat n
end
end HT
namespace L2
open PySem PySem.Spec PyProof.Rows
abbrev TO:=St->Hp->(Option Int->Hp->Prop)->Prop
def PO (X:Cx) (e:Option Expr) (t:TO):Prop :=
 ∀ (pins:List (Addr×Obj)) (s:Shared) (σ:St) (H:Hp) (Q:Option Int->Hp->Prop),Inv X pins σ H s->t σ H Q ->
  wpAny (model X.prog X.w) X.A (evalPart e X.env) (fun u s'=>∃ o H',Inv X pins σ H' s'/\IsPart u o/\Q o H') X.xe s
def BV:TO:=fun _ H Q=>Q none H
def FY (t:TE):TO:=fun σ H Q=>t σ H fun x H1=>∃ i,x=.int i/\Q (some i) H1
section
variable {X:Cx} {e:Expr} {te:TE} {lo hi:Option Expr} {tl th:TO} {pos p2:Pos}
theorem Cj:PO X none BV:=by
 intro pins s σ H Q I h;rw [evalPart_none];exact wpAny_pure ⟨none,H,I,.none,h⟩
theorem Ci (h:PE X e te):PO X (some e) (FY te):=by
 intro pins s σ H Q I hw;rw [evalPart_some];refine thn (h pins s σ H _ I hw) fun u s1 ⟨x,H1,I1,r1,q1⟩=>?_
 obtain ⟨i,rfl,q⟩:=q1;obtain ⟨t,rfl⟩:=r1;exact ⟨some i,H1,I1,.int i t,q⟩
def SlR (X:Cx) (r:V->Option Int->Option Int->Hp->VK->Prop):Prop :=
 ∀ (pins:List (Addr×Obj)) (s:Shared) (σ:St) (H:Hp) (x:V) (v vl vu:Value) (lo hi:Option Int) (sl:Addr) (Q:VK),Inv X pins σ H s->RelV x v->s.heap.IsSliceOf sl vl vu .none->IsPart vl lo->IsPart vu hi->r x lo hi H Q ->
  ∃ T id,typeLookup (.type T) "__getitem__" = pure (some (.builtin id))/\s.TypeIs v T/\wpAny (model X.prog X.w) X.A (getItem v (.ref sl)) (EP X pins σ Q) X.xe s
def tSl (r:V->Option Int->Option Int->Hp->VK->Prop) (te:TE) (tl th:TO):TE:=fun σ H Q=>te σ H fun x H1=>tl σ H1 fun l H2=>th σ H2 fun u H3=>r x l u H3 Q
theorem tS {r:V->Option Int->Option Int->Hp->VK->Prop} (hr:SlR X r) (he:PE X e te) (hl:PO X lo tl) (hu:PO X hi th):PE X (.Subscript e (.Slice lo hi none p2) pos) (tSl r te tl th):=by
 intro pins s σ H Q I h;refine Subscript_ (thn (he pins s σ H _ I h) fun v s1 ⟨x,H1,I1,r1,q1⟩=>?_)
 refine wpAny_Slice (thn (hl pins s1 σ H1 _ I1 q1) fun vl s2 ⟨l,H2,I2,pl,q2⟩=>thn (hu pins s2 σ H2 _ I2 q2) fun vu s3 ⟨u,H3,I3,pu,q3⟩=>?_)
 rw [evalPart_none];refine wpAny_pure ?_;have I4:Inv X pins σ H3 { s3 with heap:=s3.heap.push { cls:=.type "slice",data:=.fields #[vl,vu,.none] } }:=I3.kept (t':=s3.toks) fun b ob q=>Heap.get?_push_of_some _ q
 obtain ⟨T,id,hT,ht,hg⟩:=hr pins { s3 with heap:=s3.heap.push { cls:=.type "slice",data:=.fields #[vl,vu,.none] } } σ H3 x v vl vu l u s3.heap.objs.size Q I4 r1 (Heap.IsSliceOf.new ..) pl pu q3
 show wpAny (model X.prog X.w) X.A (subscriptTail e (.Slice lo hi none p2) v (.ref s3.heap.objs.size)) (EP X pins σ Q) X.xe { s3 with heap:=s3.heap.push { cls:=.type "slice",data:=.fields #[vl,vu,.none] } }
 exact tail_any (ops:=[.ref s3.heap.objs.size,v]) ht hT hg (by with_unfolding_all rfl)
def v7 (xs:List V) (lo hi:Option Int):List V:=(xs.drop (HT.sIx xs.length 0 lo)).take (HT.sIx xs.length xs.length hi - HT.sIx xs.length 0 lo)
theorem uS (xs:List V) (lo hi:Option Int):(v7 xs lo hi).length<=xs.length:=by
 unfold v7;rw [List.length_take,List.length_drop];omega
end
end L2
namespace L2
open PySem PySem.Spec PyProof.Rows
def ixN (n:Nat) (i:Int):Option Nat:=if 0<=i then (if i < n then some i.toNat else none) else if -(n:Int)<=i then some (i+n).toNat else none
def atI {α:Type} (xs:List α) (i:Int):Option α:=(ixN xs.length i).bind fun j=>xs[j]?
theorem k7 {n:Nat} {i:Int} {j:Nat} (h:ixN n i=some j):seqIndex? i n=some j/\j < n/\-(n:Int)<=i/\i < n:=by
 unfold ixN at h
 by_cases h0:0<=i
 . rw [if_pos h0] at h
   by_cases h1:i < n
   . rw [if_pos h1] at h;have e:i.toNat=j:=ZA h;exact ⟨by rw [seqIndex_of h0 h1,e],by omega,by omega,h1⟩
   . rw [if_neg h1] at h;cases h
 . rw [if_neg h0] at h
   by_cases h1:-(n:Int)<=i
   . rw [if_pos h1] at h;have e:(i+n).toNat=j:=ZA h;exact ⟨by rw [seqIndex_neg (by omega) h1,e],by omega,h1,by omega⟩
   . rw [if_neg h1] at h;cases h
theorem x5 {α:Type} {xs:List α} {i:Int} {v:α} (h:atI xs i=some v):∃ j,seqIndex? i xs.length=some j/\xs[j]? = some v/\j < xs.length/\-(xs.length:Int)<=i/\i < xs.length:=by
 unfold atI at h;cases e:ixN xs.length i with
 | none=>rw [e] at h;cases h
 | some j =>
  rw [e] at h;obtain ⟨h1,h2,h3,h4⟩:=k7 e;exact ⟨j,h1,h,h2,h3,h4⟩
theorem atI_nat {α:Type} {xs:List α} {j:Nat} {v:α} (h:xs[j]? = some v):atI xs (j:Int)=some v:=by
 have hj:j < xs.length:=(ZE.mp h).1;have e:ixN xs.length (j:Int)=some j:=by
  unfold ixN;rw [if_pos (by omega),if_pos (by omega)];simp
 unfold atI;rw [e];exact h
def nQ (b:Expr):Prop:=∀ o i,subscripted b false o i=operate [o,i] (getItem o i)
def IxR (X:Cx) (r:R2):Prop :=
 ∀ (value slice:Expr) (pins:List (Addr×Obj)) (s:Shared) (σ:St) (H:Hp) (x y:V) (v u:Value) (Q:VK),Inv X pins σ H s->RelV x v->RelV y u->r x y H Q ->
  subscripted slice false v u=operate [v,u] (getItem v u)->wpAny (model X.prog X.w) X.A (subscriptTail value slice v u) (EP X pins σ Q) X.xe s
def MtR (X:Cx) (id:String) (r:V->List V->Hp->VK->Prop):Prop :=
 ∀ (pins:List (Addr×Obj)) (s:Shared) (σ:St) (H:Hp) (x:V) (xs:List V) (v:Value) (us:List Value) (Q:VK),Inv X pins σ H s->RelV x v->Vals xs us->r x xs H Q ->
  wpAny (model X.prog X.w) X.A (call (.builtin id) (v :: us)) (EP X pins σ Q) X.xe s
section
variable {X:Cx} {a b:Expr} {ta tb:TE} {pos:Pos}
theorem IxR.or {r r':R2} (h:IxR X r) (h':IxR X r'):IxR X (fun x y H Q=>r x y H Q \/ r' x y H Q):=by
 intro value slice pins s σ H x y v u Q I rx ry q hs;rcases q with q | q
 . exact h value slice pins s σ H x y v u Q I rx ry q hs
 . exact h' value slice pins s σ H x y v u Q I rx ry q hs
theorem mC {r:R2} (hr:IxR X r) (ha:PE X a ta) (hb:PE X b tb) (hs:nQ b):PE X (.Subscript a b pos) (tOp r ta tb):=by
 intro pins s σ H Q I h;exact Subscript_ (FG ha hb I h fun v u s2 x y H2 I2 rx ry q=>hr a b pins s2 σ H2 x y v u Q I2 rx ry q (hs _ _))
def zR (K:Zu):R2:=fun x y H Q=>∃ p xs i v,x=.ref p/\y=.int i/\SqL K H p xs/\atI xs i=some v/\Q v H
def Gk (K:Zu):R2:=fun x y H Q=>∃ p xs i v,x=.ref p/\y=.int i/\SqT K H p xs/\atI xs i=some v/\Q v H
theorem ix_list:IxR X (zR X.K):=by
 intro value slice pins s σ H x y v u Q I rx ry h hs;obtain ⟨p,xs,i,z,rfl,rfl,hq,he,q⟩:=h;cases rx;obtain ⟨t,rfl⟩:=ry;obtain ⟨its,r,pl,hz⟩:=I.list hq;obtain ⟨j,h1,h2,h3,h4,h5⟩:=x5 he;obtain ⟨w,ew,rw'⟩:=r.get h2;have hl:=r.length;have hn:=sd;have fin:EP X pins σ Q w s:=⟨z,H,I,rw',q⟩
 by_cases h0:0<=i
 . have hj:i.toNat=j:=by
    rw [seqIndex_of h0 h5] at h1;exact ZA h1
   exact item_listR pl.isList h0 (by omega) (by rw [hj];simpa using ew) fin hs
 . have hj:(i+(its.toArray.size:Int)).toNat=j:=by
    rw [seqIndex_neg (by omega) h4] at h1
    rw [Zz,<- hl];exact ZA h1
   exact subscriptTail_builtinR (x:=w) pl.isList.typeIs slot_list_getitem.lookup
    (wpAny_getItem_list_neg (Q:=fun r s'=>r=w/\EP X pins σ Q r s') pl.isList (by omega) (by rw [Zz] <;> omega) (by omega) (by rw [hj];simpa using ew) ⟨rfl,fin⟩) hs
theorem AS:IxR X (Gk X.K):=by
 intro value slice pins s σ H x y v u Q I rx ry h hs;obtain ⟨p,xs,i,z,rfl,rfl,hq,he,q⟩:=h;cases rx;obtain ⟨t,rfl⟩:=ry;obtain ⟨its,r,pl,hz⟩:=I.tuple hq;obtain ⟨j,h1,h2,h3,h4,h5⟩:=x5 he;obtain ⟨w,ew,rw'⟩:=r.get h2;have hl:=r.length;have hn:=sd;have fin:EP X pins σ Q w s:=⟨z,H,I,rw',q⟩;exact subscriptTail_builtinR (x:=w) pl.typeIs slot_tuple_getitem.lookup
  (getItem_tuple (j:=j) (Q:=fun r s'=>r=w/\EP X pins σ Q r s') pl (by omega) (by omega) (by rw [Zz,<- hl];exact h1) (by simpa using ew) ⟨rfl,fin⟩) hs
theorem vN (its:List Value) (n j:Nat) (u:Value):Obj.mapSeq (·.setIfInBounds j u) { cls:=.type "list",data:=.seq its.toArray n }={ cls:=.type "list",data:=.seq (its.set j u).toArray n }:=by
 simp [Obj.mapSeq]
theorem Inv.lst {pins:List (Addr×Obj)} {σ:St} {H:Hp} {s:Shared} {p:Addr} {xs:List V} (I:Inv X pins σ H s) (h:H p=some (.lst xs)) :
 ∃ (its:List Value) (n:Nat),Vals xs its/\s.heap.get? p=some { cls:=.type "list",data:=.seq its.toArray n }/\xs.length<=sizeLine:=by
 obtain ⟨z,its,n,r,e⟩:=I.hok p _ h;exact ⟨its,n,r,e,z⟩
theorem Inv.lstUpd {pins:List (Addr×Obj)} {σ:St} {H:Hp} {s:Shared} {p:Addr} {xs ys:List V} {its its':List Value} {n n':Nat} {f:Obj->Obj} (I:Inv X pins σ H s) (h:H p=some (.lst xs))
 (ho:s.heap.get? p=some { cls:=.type "list",data:=.seq its.toArray n }) (hf:f { cls:=.type "list",data:=.seq its.toArray n }={ cls:=.type "list",data:=.seq its'.toArray n' }) (r:Vals ys its') (hz:ys.length<=sizeLine) (t:Nat) :
 Inv X pins σ (upd H p (.lst ys)) { s with heap:=s.heap.update p f,toks:=t }:=by
 have e:(s.heap.update p f).get? p=some { cls:=.type "list",data:=.seq its'.toArray n' }:=by
  rw [Heap.get?_update_self f ho (by rw [hf] <;> rfl),hf]
 refine I.write (x:=p) (e:=p) (by rw [h];trivial) (.inl rfl) (fun b u hb q=>(Heap.get?_update_other _ _ (Ne.symm hb)).trans q) ⟨_,e⟩ ?_
 exact ⟨hz,its',n',r,e⟩
def wZ:V->V->V->Hp->(Hp->Prop)->Prop:=fun o i v H Q=>∃ p xs k j,o=.ref p/\i=.int k/\H p=some (.lst xs)/\ixN xs.length k=some j/\Q (upd H p (.lst (xs.set j v)))
theorem gC:G3 X wZ:=by
 intro pins s σ H o i v ov iv u Q I ro ri rv h;obtain ⟨p,xs,k,j,rfl,rfl,hp,hj,q⟩:=h;cases ro;obtain ⟨t,rfl⟩:=ri;obtain ⟨its,n,r,ho,hz⟩:=I.lst hp;obtain ⟨h1,h2,h3,h4⟩:=k7 hj;have hl:=r.length;have hn:=sd;have I':Inv X pins σ (upd H p (.lst (xs.set j v))) { s with heap:=s.heap.update p (Obj.mapSeq (·.setIfInBounds j u)) } :=
  I.lstUpd hp ho (vN its n j u) (r.set rv j) (by rw [List.length_set];exact hz) s.toks
 by_cases h0:0<=k
 . have hk:k.toNat=j:=by
    rw [seqIndex_of h0 h4] at h1;exact ZA h1
   exact PySem.W.ki_setAt ho h0 (by omega) (by rw [Zz,<- hl];exact h4) (by rw [hk];exact ⟨_,I',q⟩)
 . have hk:(k+(its.toArray.size:Int)).toNat=j:=by
    rw [seqIndex_neg (by omega) h3] at h1
    rw [Zz,<- hl];exact ZA h1
   exact PySem.W.ki_setBack ho (by omega) (by rw [Zz,<- hl];exact h3) (by omega) (by rw [hk];exact ⟨_,I',q⟩)
theorem rA (lo hi:Option Int) (n:Nat):(sliceBounds lo hi none n).1=((HT.sIx n 0 lo:Nat):Int)/\(sliceBounds lo hi none n).2.1=((HT.sIx n n hi:Nat):Int)/\(sliceBounds lo hi none n).2.2=1:=by
 refine ⟨?_,?_,rfl⟩
 . cases lo with
   | none=>simp [sliceBounds,HT.sIx]
   | some i =>
    simp only [sliceBounds,HT.sIx,Option.getD_none,show (1:Int) > 0 by decide,if_true]
    by_cases h:i < 0
    . simp only [h,if_true] <;> omega
    . simp only [h,if_false] <;> omega
 . cases hi with
   | none=>simp [sliceBounds,HT.sIx]
   | some i =>
    simp only [sliceBounds,HT.sIx,Option.getD_none,show (1:Int) > 0 by decide,if_true]
    by_cases h:i < 0
    . simp only [h,if_true] <;> omega
    . simp only [h,if_false] <;> omega
theorem pO (its:List Value) (lo hi:Option Int):slicePick its.toArray lo hi none=((its.drop (HT.sIx its.length 0 lo)).take (HT.sIx its.length its.length hi - HT.sIx its.length 0 lo)).toArray:=by
 obtain ⟨h1,h2,h3⟩:=rA lo hi its.toArray.size;unfold slicePick;rw [h1,h2,h3];simp only [sliceRange_one,pick_run,Zz] <;> rfl
def Ei (K:Zu):V->Option Int->Option Int->Hp->VK->Prop:=fun x lo hi H Q=>∃ a xs,x=.ref a/\SqL K H a xs/\∀ p,H p=none->Q (.ref p) (upd H p (.lst (v7 xs lo hi)))
theorem wM:SlR X (Ei X.K):=by
 intro pins s σ H x v vl vu lo hi sl Q I rx hs pl pu h;obtain ⟨a,xs,rfl,hx,q⟩:=h;cases rx;obtain ⟨its,r,ht,hz⟩:=I.list hx;have hlen:=r.length;refine ⟨"list",_,slot_list_getitem.lookup,ht.isList.typeIs,?_⟩;refine wpAny_getItem_list_slice ht.isList hs pl pu .none (by simp) ?_ (by rw [Zz] <;> omega)
 rw [pO,<- hlen];refine ⟨.ref s.heap.objs.size,_,I.laid (t':=s.toks) (o:=.lst (v7 xs lo hi)) (fun b ob q=>Heap.get?_push_of_some _ q) (ZG _) ?_,rfl,q _ (I.hok.fresh (ZG _))⟩
 exact ⟨Nat.le_trans (uS xs lo hi) hz,_,0,(r.drop (HT.sIx xs.length 0 lo)).take (HT.sIx xs.length xs.length hi - HT.sIx xs.length 0 lo),Heap.get?_push_size _ rfl⟩
def Bf:V->Bool
 | .non=>true
 | .bl _=>true
 | .int _=>true
 | .str _=>true
 | _=>false
def eqV:V->V->Bool
 | .non,.non=>true
 | .bl a,.bl b=>a == b
 | .bl a,.int b=>(if a then 1 else 0) == b
 | .int a,.bl b=>a == (if b then 1 else 0)
 | .int a,.int b=>a == b
 | .str a,.str b=>a == b
 | _,_=>false
theorem Bq {A:Around} {s:Shared} {y x:V} {u v:Value} (ry:RelV y u) (rx:RelV x v) (fy:Bf y=true) (fx:Bf x=true):SeqAt.EqAt A s u v (eqV y x):=by
 cases y with
 | non =>
  cases ry;cases x with
  | non=>cases rx;exact SeqAt.EqAt.same _
  | bl b=>cases rx;exact SeqAt.EqAt.none_bool b
  | int b=>obtain ⟨t,rfl⟩:=rx;exact SeqAt.EqAt.none_int b t
  | str b=>obtain ⟨t,rfl⟩:=rx;exact SeqAt.EqAt.none_str b t
  | _=>exact absurd (show false=true from fx) Zv
 | bl a =>
  cases ry;cases x with
  | non=>cases rx;exact SeqAt.EqAt.bool_none a
  | bl b=>cases rx;exact SeqAt.EqAt.bool_bool a b
  | int b=>obtain ⟨t,rfl⟩:=rx;exact SeqAt.EqAt.bool_int a b t
  | str b=>obtain ⟨t,rfl⟩:=rx;exact SeqAt.EqAt.bool_str a b t
  | _=>exact absurd (show false=true from fx) Zv
 | int a =>
  obtain ⟨t',rfl⟩:=ry;cases x with
  | non=>cases rx;exact SeqAt.EqAt.int_none a t'
  | bl b=>cases rx;exact SeqAt.EqAt.int_bool a t' b
  | int b=>obtain ⟨t,rfl⟩:=rx;exact SeqAt.EqAt.int_int a t' b t
  | str b=>obtain ⟨t,rfl⟩:=rx;exact SeqAt.EqAt.int_str a t' b t
  | _=>exact absurd (show false=true from fx) Zv
 | str a =>
  obtain ⟨t',rfl⟩:=ry;cases x with
  | non=>cases rx;exact SeqAt.EqAt.str_none a t'
  | bl b=>cases rx;exact SeqAt.EqAt.str_bool a t' b
  | int b=>obtain ⟨t,rfl⟩:=rx;exact SeqAt.EqAt.str_int a t' b t
  | str b=>obtain ⟨t,rfl⟩:=rx;exact SeqAt.EqAt.str_str a t' b t
  | _=>exact absurd (show false=true from fx) Zv
 | _=>exact absurd (show false=true from fy) Zv
theorem bc:fZ X (.builtin "len") (fun xs H Q=>∃ p ys,xs=[.ref p]/\(SqL X.K H p ys \/ SqT X.K H p ys)/\Q (.int ys.length) H):=by
 intro pins s σ H xs us Q I r h;obtain ⟨p,ys,rfl,hq,q⟩:=h;obtain ⟨u,rfl,rx⟩:=je r;cases rx;have hn:=sd;rcases hq with hq | hq
 . obtain ⟨its,r',pl,hz⟩:=I.list hq;have hlen:=r'.length;exact Calls.call_len_list pl.isList (by simp only [Zz] <;> omega) ⟨.int ys.length,H,I.tok _,⟨s.toks+1,by rw [Zz,hlen]⟩,q⟩
 . obtain ⟨its,r',pl,hz⟩:=I.tuple hq;have hlen:=r'.length;exact len_tuple pl (by simp only [Zz] <;> omega) ⟨.int ys.length,H,I.tok _,⟨s.toks+1,by rw [Zz,hlen]⟩,q⟩
theorem sQ:fZ X (.type "list") (fun xs H Q=>∃ p ys,xs=[.ref p]/\(SqL X.K H p ys \/ SqT X.K H p ys)/\∀ l,H l=none->Q (.ref l) (upd H l (.lst ys))):=by
 intro pins s σ H xs us Q I r h;obtain ⟨p,ys,rfl,hq,q⟩:=h;obtain ⟨u,rfl,rx⟩:=je r;cases rx;have fin:∀ (its:List Value),Vals ys its->ys.length<=sizeLine->∀ (h':Heap) (c':Nat),(∀ b o',s.heap.get? b=some o'->h'.get? b=some o') ->
  h'.get? s.heap.objs.size=some { cls:=.type "list",dict:=none,data:=.seq its.toArray c',slots:=#[] }->EP X pins σ Q (.ref s.heap.objs.size) { s with heap:=h' }:=fun its r' hz h' c' kp e =>
  ⟨.ref s.heap.objs.size,_,I.laid (t':=s.toks) kp (ZG _) (show ObjOk X.prog X.w _ h' _ (.lst ys) from ⟨hz,its,c',r',e⟩),rfl,q _ (I.hok.fresh (ZG _))⟩
 rcases hq with hq | hq
 . obtain ⟨its,r',pl,hz⟩:=I.list hq;have hlen:=r'.length;obtain ⟨o,ho,hc,n,hd⟩:=pl.isList;exact call_list_seq p (.inl rfl) ho hc hd (fun h' c' kp e=>fin its r' hz h' c' kp e) (by simp only [Zz] <;> omega)
 . obtain ⟨its,r',pl,hz⟩:=I.tuple hq;have hlen:=r'.length;obtain ⟨o,ho,hc,n,hd⟩:=pl;exact call_list_seq p (.inr rfl) ho hc hd (fun h' c' kp e=>fin its r' hz h' c' kp e) (by simp only [Zz] <;> omega)
def tyV (K:Zu) (T:String) (x:V) (H:Hp):Prop:=match x with
 | .str _=>T = "str"
 | .int _=>T = "int"
 | .ref p=>(T = "list"/\∃ xs,SqL K H p xs) \/ (T = "tuple"/\∃ o,K.lookup p=some o/\o.cls=.type "tuple"/\o.dict=none) \/
  (T = "dict"/\((∃ kvs,H p=some (.dK kvs)) \/ ∃ kvs,H p=some (.dT kvs))) \/ (T = "set"/\∃ S n,H p=some (.set S n))
 | _=>False
theorem D5 {pins:List (Addr×Obj)} {σ:St} {H:Hp} {s:Shared} {T:String} {x:V} {v:Value} (I:Inv X pins σ H s) (r:RelV x v) (ty:tyV X.K T x H) :
 s.TypeIs v T/\∀ a,v=.ref a->∃ ob,s.heap.get? a=some ob/\ob.dict=none:=by
 cases x with
 | str z =>
  obtain ⟨t,rfl⟩:=r;cases (show T = "str" from ty)
  exact ⟨typeIs_str s z t,fun _ e=>nomatch e⟩
 | int i =>
  obtain ⟨t,rfl⟩:=r;cases (show T = "int" from ty)
  exact ⟨typeIs_int s i t,fun _ e=>nomatch e⟩
 | ref p =>
  cases r;rcases ty with ⟨rfl,xs,hq⟩ | ⟨rfl,o,hk,hc,hd⟩ | ⟨rfl,hk⟩ | ⟨rfl,S,n,hk⟩
  . obtain ⟨its,_,pl,_⟩:=I.list hq;refine ⟨pl.isList.typeIs,fun a e=>?_⟩
    cases e;obtain ⟨o,n,e,c,hd,_⟩:=pl;exact ⟨o,e,hd⟩
  . refine ⟨⟨o,I.kIn p o hk,hc⟩,fun a e=>?_⟩
    cases e;exact ⟨o,I.kIn _ o hk,hd⟩
  . have z:∃ o,s.heap.get? p=some o/\o.ExactDict:=by
     rcases hk with ⟨kvs,hk⟩ | ⟨kvs,hk⟩
     . obtain ⟨_,_,_,_,o,_,_,e,ex,_⟩:=I.hok p _ hk;exact ⟨o,e,ex⟩
     . obtain ⟨_,_,_,_,o,_,_,e,ex,_⟩:=I.hok p _ hk;exact ⟨o,e,ex⟩
    obtain ⟨o,e,ex⟩:=z;refine ⟨⟨o,e,ex.1⟩,fun a e2=>?_⟩
    cases e2;exact ⟨o,e,ex.2.1⟩
  . obtain ⟨o,_,_,_,e,ex,_⟩:=I.hok p _ hk;refine ⟨⟨o,e,ex.1⟩,fun a e2=>?_⟩
    cases e2;exact ⟨o,e,ex.2.1⟩
 | _=>exact False.elim ty
def tBM (K:Zu) (T:String) (r:V->List V->Hp->VK->Prop) (to:TE) (t:TA):TE:=fun σ H Q=>to σ H fun x H1=>tyV K T x H1/\t σ H1 fun xs H2=>r x xs H2 Q
variable {o e:Expr} {es:List Expr} {to:TE} {t:TA} {name:Str} {apos cpos:Pos} {T id:String} {r:V->List V->Hp->VK->Prop}
theorem xl (pa:PlainAttrs T) (slot:Slot T name id) (hty:typeOf (.builtin id)=pure (.type "method_descriptor")) (hm:MtR X id r) (ho:PE X o to) (ha:PA X (e :: es) t)
 (hbase:attributeBase o name X.env (eval o X.env)=eval o X.env:=by rfl)
 (hfew:((backTo cpos (starEach (e :: es) X.env)).all (fun x=>!x.1) && (backToKw cpos (keywordEach [] X.env)).all (fun x=>x.1.isSome)
  && decide ((e :: es).length+([]:List Keyword).length+(if ([]:List Keyword).isEmpty then 0 else 1) < 30))=true:=by rfl)
 (hline:(apos.endLine == cpos.line)=true:=by rfl) (hs:starEach (e :: es) X.env=(false,eval e X.env) :: starEach es X.env:=by rfl) (hplain:(backTo cpos (starEach es X.env)).any (·.1)=false:=by rfl) :
 PE X (.Call (.Attribute o name apos) (e :: es) [] cpos) (tBM X.K T r to t):=by
 intro pins s σ H Q I h;refine wpAny_Call_method_late hbase hfew hline rfl (thn (ho pins s σ H _ I h) fun v s1 ⟨x,H1,I1,r1,ty,q1⟩=>?_)
 obtain ⟨h1,h2⟩:=D5 I1 r1 ty;refine ⟨T,id,pa,slot,hty,h1,h2,?_⟩;have hA:=ha cpos pins s1 σ H1 _ I1 q1;rw [hs] at hA ⊢;refine Calls.callWith_builtin (by show (false || (backTo cpos (starEach es X.env)).any (·.1))=false;rw [hplain] <;> rfl) (Calls.evalArgs_plain ?_)
 exact thn hA fun us s2 ⟨vs,H2,I2,r2,q2⟩=>hm pins s2 σ H2 x vs v us Q I2 r1 r2 q2
end
end L2
namespace L2
open PySem PySem.Spec PyProof.Rows
def MtM (X:Cx) (id:String) (r:V->List V->Hp->VK->Prop):Prop :=
 ∀ (pins:List (Addr×Obj)) (s:Shared) (σ:St) (H:Hp) (x:V) (xs:List V) (v:Value) (us:List Value) (Q:VK),Inv X pins σ H s->RelV x v->Vals xs us->r x xs H Q ->
  wpAny (model X.prog X.w) X.A (call (.builtin id) (v :: us)) (EP X pins σ Q) X.xe s
theorem Vals.one:∀ {x:V} {us:List Value},Vals [x] us->∃ u,us=[u]/\RelV x u
 | _,_,.cons r .nil=>⟨_,rfl,r⟩
theorem Vals.eraseIdx:∀ {xs:List V} {us:List Value} (i:Nat),Vals xs us->Vals (xs.eraseIdx i) (us.eraseIdx i)
 | _,_,_,.nil=>.nil
 | _,_,0,.cons _ t=>t
 | _,_,i+1,.cons r t=>.cons r (Vals.eraseIdx i t)
theorem qD {α:Type}:∀ (l:List α) (i:Nat),(l.eraseIdx i).length<=l.length
 | [],_=>ZG _
 | _ :: _,0=>Nat.le_succ _
 | _ :: r,i+1=>Nat.succ_le_succ (qD r i)
section
variable {X:Cx} {pins:List (Addr×Obj)} {σ:St} {H:Hp} {s:Shared} {l b:Addr} {xs ys zs:List V}
theorem Inv.lset {its its':List Value} {n:Nat} {f:Array Value->Array Value} {t':Nat} (I:Inv X pins σ H s) (hH:H l=some (.lst xs))
 (e:s.heap.get? l=some { cls:=.type "list",data:=.seq its.toArray n }) (hf:f its.toArray=its'.toArray) (hv:Vals ys its') (hz:ys.length<=sizeLine) :
 Inv X pins σ (upd H l (.lst ys)) { s with heap:=s.heap.update l (Obj.mapSeq f),toks:=t' }:=by
 have q:=PySem.IsL.update e f;rw [hf] at q;refine I.write (x:=l) (e:=l) (by rw [hH];exact trivial) (.inl rfl) (fun b' u hb hu=>(Heap.get?_update_other s.heap (Obj.mapSeq f) (Ne.symm hb)).trans hu) ⟨_,q⟩ ?_
 exact ⟨hz,its',_,hv,q⟩
theorem Inv.lnew {its:List Value} {t':Nat} (I:Inv X pins σ H s) (hv:Vals ys its) (hz:ys.length<=sizeLine) :
 Inv X pins σ (upd H s.heap.objs.size (.lst ys)) { s with heap:=s.heap.push { cls:=.type "list",data:=.seq its.toArray },toks:=t' } :=
 I.laid (fun _ _ q=>Heap.get?_push_of_some _ q) (ZG _) ⟨hz,its,0,hv,Heap.get?_push_size _ rfl⟩
theorem Inv.fresh (I:Inv X pins σ H s):H s.heap.objs.size=none:=I.hok.fresh (ZG _)
theorem Inv.lstM (I:Inv X pins σ H s) (hH:H l=some (.lst xs)):xs.length<=sizeLine/\∃ (its:List Value) (n:Nat),Vals xs its/\xs.length=its.length/\s.heap.get? l=some { cls:=.type "list",data:=.seq its.toArray n }:=by
 obtain ⟨z,its,n,r,e⟩:=I.hok l _ hH;exact ⟨z,its,n,r,r.length,e⟩
end
section
variable {X:Cx}
def rJ:V->List V->Hp->VK->Prop:=fun x vs H Q=>∃ l xs y,x=.ref l/\vs=[y]/\H l=some (.lst xs)/\xs.length < sizeLine/\Q .non (upd H l (.lst (xs++[y])))
theorem qA:MtM X "list.append" rJ:=by
 intro pins s σ H x vs v us Q I rx rv h;obtain ⟨l,xs,y,rfl,rfl,hH,hz,q⟩:=h;cases rx;obtain ⟨u,rfl,ru⟩:=rv.one;obtain ⟨z,its,n,r,hl,e⟩:=I.lstM hH;refine call_meets F.slot_list_append ⟨_,e,rfl⟩ F.entry_list_append (F.args_list_append_2 _ _) (PySem.list_append l its.toArray n u (by rw [Zz];omega)) ⟨e,?_⟩
 refine ⟨.non,_,I.lset (its':=its++[u]) hH e (by simp) (r.append (.cons ru .nil)) ?_,rfl,q⟩
 rw [Zh,List.length_singleton];omega
def zQ:V->List V->Hp->VK->Prop:=fun x vs H Q=>∃ l xs i k y,x=.ref l/\vs=[.int i]/\H l=some (.lst xs)/\-(2 ^ 63)<=i/\i < 2 ^ 63/\seqIndex? i xs.length=some k/\xs[k]? = some y/\Q y (upd H l (.lst (xs.eraseIdx k)))
theorem AF:MtM X "list.pop" zQ:=by
 intro pins s σ H x vs v us Q I rx rv h;obtain ⟨l,xs,i,k,y,rfl,rfl,hH,h1,h2,hk,hy,q⟩:=h;cases rx;obtain ⟨u,rfl,ru⟩:=rv.one;obtain ⟨t,rfl⟩:=ru;obtain ⟨z,its,n,r,hl,e⟩:=I.lstM hH;obtain ⟨w,hw,rw'⟩:=r.get hy;refine call_meets F.slot_list_pop ⟨_,e,rfl⟩ F.entry_list_pop (F.args_list_pop_2 _ _)
  (MeetsSeq.list_pop_at l its.toArray n i t k w (fitsIndex_both h1 h2) (by rw [Zz,<- hl];exact hk) (by rw [<- Array.getElem?_toList];exact hw) (by rw [Zz];omega)) ⟨e,?_⟩
 refine ⟨y,_,I.lset (its':=its.eraseIdx k) hH e ?_ (r.eraseIdx k) ?_,rw',q⟩
 . show its.toArray.eraseIdxIfInBounds k=(its.eraseIdx k).toArray;rw [List.eraseIdxIfInBounds_toArray]
 . have:=qD xs k;omega
def Gr:R2:=fun x y H Q=>∃ l b xs zs,x=.ref l/\y=.ref b/\H l=some (.lst xs)/\H b=some (.lst zs)/\xs.length+zs.length<=sizeLine/\∀ p,H p=none->Q (.ref p) (upd H p (.lst (xs++zs)))
theorem Ay:OpR X (binaryOp .Add) Gr:=by
 intro pins s σ H x y v u Q I rx ry h;obtain ⟨l,b,xs,zs,rfl,rfl,hH,hB,hz,q⟩:=h;cases rx;cases ry;obtain ⟨z,its,n,r,hl,e⟩:=I.lstM hH;obtain ⟨z2,its2,n2,r2,hl2,e2⟩:=I.lstM hB;refine PySem.P.add_list e e2 ?_ (by rw [Zz,Zz];omega)
 have ea:its.toArray++its2.toArray=(its++its2).toArray:=by simp
 rw [ea];exact ⟨.ref _,_,I.lnew (t':=s.toks) (r.append r2) (by rw [Zh];omega),rfl,q _ I.fresh⟩
end
section
variable {prog:Program} {w:World} {A:Around} {E:Value->Shared->Prop} {s:Shared}
end
section
variable {X:Cx}
end
end L2
namespace Att
open PySem PySem.W PySem.Calls PyProof.Rows
theorem mT {P:Params} {h:Heap}:∀ (ns:List Int) (vs:List Value),WellAll P h vs (ns.map WData.int)->IntsAre vs ns:=by
 intro ns
 induction ns with
 | nil =>
  intro vs w;rw [List.map_nil] at w;cases w;exact .nil
 | cons n ns ih =>
  intro vs w;rw [Zr] at w;cases w with
  | cons a b =>
   cases a;exact .cons _ _ (ih _ b)
theorem yp {l:OpenLaw} {n:Nat} (hn:l.most=some n) {P:Params} {h:Heap} {args:List WData} {eW:List Value}
 (hpre:l.row.toRowW.claim.pre args=true) (hwl:WellAll P h eW args) :
 ∃ a vs ns,eW=[Value.ref a]/\args=[WData.list (ns.map WData.int)]/\h.get? a=some { cls:=.type "list",data:=.seq vs.toArray }/\IntsAre vs ns/\ns.length<=n:=by
 have hsh:WShape.hasAll [] args [.list .int]=true:=(pre_splitW hpre).1;have hc:l.pre.holds [] { args:=args }=true:=(pre_splitW hpre).2;obtain ⟨d,r,rfl,h1,h2⟩:=hasAllW_cons hsh;obtain rfl:=hasAllW_nil h2;obtain ⟨xs,rfl,h3⟩:=hasW_list h1;obtain ⟨ns,rfl⟩:=items_int h3;have hlen:ns.length<=n:=by
  unfold OpenLaw.pre at hc;have h4:(WTm.not (.lt (.lit (.int (n:Int))) (.len (.arg 0)))).holds [] { args:=[.list (ns.map .int)] }=true:=by
   have h4:=(holds_andW hc).1;rw [hn] at h4;exact h4
  have h5:=condW_of h4 (w_not (w_lt w_lit (w_len_list (w_arg rfl))));rw [Zi] at h5;refine Nat.le_of_not_lt fun q=>?_
  have q':(n:Int) < ((ns.length:Nat):Int):=by omega
  first
   | (rw [decide_eq_true q'] at h5;exact absurd h5 (by decide))
   | (simp at h5;omega)
 cases hwl with
 | cons w1 w2 =>
  cases w2;cases w1 with
  | list ho hall=>exact ⟨_,_,ns,rfl,rfl,ho,mT ns _ hall,hlen⟩
theorem yw (l:OpenLaw) (args:List WData):l.row.toRowW.claim.post args (.bool true) args=true :=
 postW_of (r:=l.row.toRowW) (X:=(true == true))
  (show WShape.has [] (.bool true) .bool=true by first | rfl | decide | simp [WShape.has,WShape.arms,WShape.armsAll])
  (show (WTm.eq .res (.lit (.bool true))).value [] { args:=args,res:=some (.bool true),after:=args }=some (.bool (true == true)) from w_eq_bool (w_res rfl) w_lit) rfl
theorem attach_call {l:OpenLaw} {n:Nat} {q:Program} {loose:List Str} {XP:(Str->Option Value)->Heap->Prop} {YP:World->Heap->Prop} {d:DefRec}
 (hn:l.most=some n) (hdf:d.params.defaults=[])
 (call:∀ (w:World) (s₀ s₁:Shared) (mg mb:Str->Option Value) (fa:Addr) (o:Obj) (pm cd doc:Value) (a:Addr) (vs:List Value) (ns:List Int),
  Ground q loose [] XP w s₀ mg mb s₁.heap->YP w s₁.heap ->
  s₁.heap.get? fa=some o->o.data=.func (docDef d.name d.params d.body d.scope pm cd doc)->s₁.heap.CodeRec cd d.name->mg d.name=some (.ref fa) ->
  s₁.heap.get? a=some { cls:=.type "list",data:=.seq vs.toArray }->IntsAre vs ns->ns.length<=n->s₁.gens = #[] ->
  codeAny (model l.prog w) callerA (.call (.ref fa) ⟨[.ref a],[]⟩) (fun r s'=>r=.ok (.ret (.bool true))/\OldK s₁.heap s'.heap/\s'.os=s₁.os/\AllBare s'.gens) s₁) :
 WalkO q loose XP YP l.row.toRowW d [] (fun f vs=>PySem.call f vs):=by
 intro w s₀ s₁ mg mb G Y fa o pm cd doc dV kV ho hd hcd hD hmg hg args eW as hpre hlay hrd hwl hlo;obtain rfl:dV=.none:=Dflts.none hD hdf;obtain rfl:kV=.none:=Dflts.noKw hD;obtain ⟨a,vs,ns,rfl,rfl,hobj,hints,hlen⟩:=yp hn hpre hwl;refine enter_call (codeAny_mono (call w s₀ s₁ mg mb fa o pm cd doc a vs ns G Y ho (fd_plain hd) hcd hmg hobj hints hlen hg) fun r s' hq=>?_)
 obtain ⟨rfl,h2,h3,h4⟩:=hq;exact ⟨.inl ⟨.bool true,.bool true,[],rfl,fun _=>rfl,.bool true,yw l _,fun _=>⟨List.Pairwise.nil,fun _ hm=>(nomatch hm)⟩⟩,h2,h3,h4⟩
section
variable {prog:Program} {w:World} {A:Around} {E:Value->Shared->Prop} {s:Shared} {K:Frag}
def Hn (h:Heap) (L d:Addr):List (Addr×Obj):=(List.range h.objs.size).filterMap fun a=>if a=L \/ a=d then none else (h.get? a).map fun o=>(a,o)
end
end Att
namespace L2
open PySem PySem.Spec PyProof.Rows
theorem jC:∀ {vs:List Value} {ns:List Int},IntsAre vs ns->Vals (ns.map V.int) vs
 | _,_,.nil=>.nil
 | _,_,.cons n t h=>.cons ⟨t,rfl⟩ (jC h)
def FN (H:Hp):Prop:=∀ b,H b=none \/ ∃ o xs,H b=some (.frz o (.lst xs))
theorem AN {P:Program} {w:World} {K:Zu} {mg mb:Str->Option Value} {CX:CXT} {k:Nat} {fa a:Addr} {fd:FuncData} {x:Str} {sp:Sp} {s₁:Shared} {vs:List Value} {ns:List Int}
 (KX:K.In s₁.heap) (hns:s₁.heap.Ns mainGlobals mg) (hb:s₁.heap.Ns builtinsNs mb) (hbb:∀ x:Str,x ≠ "__name__"->mb x=bootBuiltins x) (hlim:s₁.heap.NoLimit) (hg:s₁.gens = #[])
 (ha:s₁.heap.get? a=some { cls:=.type "list",data:=.seq vs.toArray }) (hi:IntsAre vs ns) (hl:ns.length<=sizeLine) (hr:Room k callerA)
 (F:∀ base:Heap,K.In base->base.Ns mainGlobals mg->FnOk P w K mg base CX k fa fd [x] sp) (hbind:∀ (s:Shared) (u:Value),BindsTo s fd ⟨[u],[]⟩ [(x,u)])
 (hsp:∀ H:Hp,FN H->SqL K H a (ns.map V.int)->sp [.ref a] H (fun v _=>v=.bl true) fun _ _ _=>False)
 (hCX:∀ H e s',CX [] H s₁ (fun _ _ _=>False) e s'->False) :
 codeAny (model P w) callerA (.call (.ref fa) ⟨[.ref a],[]⟩) (fun r s'=>r=.ok (.ret (.bool true))/\OldK s₁.heap s'.heap/\s'.os=s₁.os/\AllBare s'.gens) s₁:=by
 have rv:=jC hi;have lenV:=hi.length;have core:∀ H:Hp,FN H->SqL K H a (ns.map V.int)->HOk P w H s₁.heap->(∀ b,H b ≠ none->b=a)->(H a ≠ none->K.lookup a=none) ->
  codeAny (model P w) callerA (.call (.ref fa) ⟨[.ref a],[]⟩) (fun r s'=>r=.ok (.ret (.bool true))/\OldK s₁.heap s'.heap/\s'.os=s₁.os/\AllBare s'.gens) s₁:=by
  intro H hO hS hok hA hK;have base_of:∀ {b:Addr} {o:Obj},s₁.heap.get? b=some o->H b=none->(sr s₁.heap H).get? b=some o:=fun e n=>AZ e n
  have noA:∀ {b:Addr} {o:Obj} {es:Array DictEntry} {ep:Nat},s₁.heap.get? b=some o->o.data=.dict es ep->H b=none:=fun {b o es ep} e d=>by
   cases q:H b with
   | none=>rfl
   | some u =>
    have e':b=a:=hA b (by rw [q];simp)
    subst e';rw [ha] at e;cases e;have d':Data.seq vs.toArray _=Data.dict es ep:=d;cases d'
  have nsK:∀ {b:Addr} {m:Str->Option Value},s₁.heap.Ns b m->(sr s₁.heap H).Ns b m:=fun {b m} ⟨o,es,ep,e,d,r⟩=>⟨o,es,ep,base_of e (noA e d),d,r⟩
  have hKb:K.In (sr s₁.heap H):=fun b o e=>base_of (KX b o e) (by
   cases q:H b with
   | none=>rfl
   | some u =>
    have e':b=a:=hA b (by rw [q];simp)
    subst e';rw [hK (by rw [q];simp)] at e;cases e)
  have hM:Mod K mg (sr s₁.heap H):=⟨hKb,nsK hns,⟨mb,nsK hb,hbb⟩,let ⟨mc,h1,h2⟩:=hlim;⟨mc,nsK h1,h2⟩⟩;have e0:Dz P w K mg (sr s₁.heap H) callerA [] s₁ H:=⟨rfl,hM,fun b o e=>CI e,Nat.le_of_eq (yQ _ _),trivial,fun b hb=>absurd (show b∈([]:List Addr) from hb) (by simp),hok,.of_eq hg⟩
  refine codeAny_mono ((F _ hKb (nsK hns)).run callerA [] s₁ H ⟨[.ref a],[]⟩ [.ref a] [.ref a] _ _ hr e0 (hbind s₁ (.ref a)) (.cons rfl .nil) (hsp H hO hS)) fun r s' h=>?_
  cases r with
  | error e=>exact (hCX H e s' h).elim
  | ok fl =>
   cases fl with
   | next=>exact False.elim h
   | brk=>exact False.elim h
   | cont=>exact False.elim h
   | ret u =>
    obtain ⟨v,H',os,bare,un,hok',r',q⟩:=h;have q':v=.bl true:=q;subst q';obtain rfl:u=Value.bool true:=r';refine ⟨rfl,OldK.of_keep fun b o e=>?_,os,bare⟩
    cases q:H b with
    | none=>exact un.keep b o e q (by intro z;exact absurd (show b∈([]:List Addr) from z) (by simp)) (by simp)
    | some u =>
     rcases hO b with z | ⟨ob,xs,z⟩
     . rw [q] at z;cases z
     . have z2:=un.frzs b ob _ z;obtain ⟨e1,_⟩:=hok b _ z;obtain ⟨e2,_⟩:=hok' b _ z2;rw [e] at e1;cases e1;exact e2
 cases hk:K.lookup a with
 | some o =>
  have e:=KX a o hk;rw [ha] at e;cases e;refine core (fun _=>none) (fun _=>.inl rfl) (.inr ⟨_,vs.toArray,_,hk,rfl,rfl,rfl,by rw [Zz,lenV];exact hl,by simpa using rv⟩) (fun b u z=>by have z':(none:Option HO)=some u:=z;cases z') (fun b z=>absurd rfl z) fun z=>absurd rfl z
 | none =>
  refine core (fun b=>if b=a then some (.frz { cls:=.type "list",data:=.seq vs.toArray } (.lst (ns.map V.int))) else none) (fun b=>?_) (.inl (.inr ⟨{ cls:=.type "list",data:=.seq vs.toArray },if_pos rfl⟩)) (fun b u z=>?_) (fun b z=>?_) fun _=>hk
  . by_cases hb:b=a
    . exact .inr ⟨_,_,if_pos hb⟩
    . exact .inl (if_neg hb)
  . by_cases hb:b=a
    . have z':=(if_pos hb).symm.trans z;cases z';subst hb;exact ⟨ha,by rw [Zi];exact hl,vs,_,rv,ha⟩
    . have z':=(if_neg hb).symm.trans z;cases z'
  . by_cases hb:b=a
    . exact hb
    . exact absurd (if_neg hb) z
end L2
namespace L2
open PySem PySem.Spec PyProof.Rows
end L2
namespace L2
open PySem PySem.Spec PyProof.Rows
abbrev CX0:CXT:=fun _ _ _ _ _ _=>False
abbrev E0:XK:=fun _ _ _=>False
theorem xn {X:Cx}:wB CX0 X E0:=fun _ _ _ _ _ _ _ h=>h.elim
structure Fun (K:Zu) (x qual:Str) (st:Stmt) (f:Addr) (fd:FuncData):Prop where
 ex:∃ (oc:Value) (od:Option Addr) (kV doc pm:Value) (an:Option Addr) (cdv ct:Value) (osl:Array (Option Value)),
  fd=PySem.W.fnOf x qual (cQ st) (bD st) (aq st) .none kV doc pm an cdv ct/\K.lookup f=some ⟨oc,od,.func fd,osl⟩/\PySem.W.codeIn K cdv qual=true
 kp:PySem.W.keepIn K (.ref f)=true
section
variable {P:Program} {w:World} {K:Zu} {mg:Str->Option Value} {base:Heap}
theorem Fun.ok {x qual:Str} {st:Stmt} {f:Addr} {fd:FuncData} {N ps:List Str} {k:Nat} {sp:Sp} (F:Fun K x qual st f fd) (S:aF N ps (aq st)) (len:∀ vs H Q E,sp vs H Q E->vs.length=ps.length)
 (hbody:∀ (cdv:Value) (A:Around) (outer:List Env) (s:Shared) (H:Hp) (vs:List V) (Q:VK) (E:XK),Room k (A.deeper (envOfC qual (aq st) s.heap.objs.size f cdv))->sp vs H Q E ->
  ∃ t,PSs (ii CX0 P w K mg base N qual (aq st) f cdv A outer s H E).nox (bD st) t/\t { nx:=fun _ H'=>Q .non H',rt:=Q } (start N vs) H):FnOk P w K mg base CX0 (k+1) f fd ps sp:=by
 obtain ⟨oc,od,kV,doc,pm,an,cdv,ct,osl,rfl,lk,hcd⟩:=F.ex;refine Be lk hcd S len fun A outer s H vs Q E hr hsp=>?_
 obtain ⟨t,h,q⟩:=hbody cdv A outer s H vs Q E hr hsp;exact ⟨t,h.nox,q⟩
theorem Fun.binds {x qual:Str} {st:Stmt} {f:Addr} {fd:FuncData} {ps:List Str} (F:Fun K x qual st f fd)
 (h:∀ (kV doc pm:Value) (an:Option Addr) (cdv ct:Value) (us:List Value),us.length=ps.length->bindArgs (PySem.W.fnOf x qual (cQ st) (bD st) (aq st) .none kV doc pm an cdv ct) ⟨us,[]⟩=pure (ps.zip us)):Binds K fd ps []:=by
 obtain ⟨oc,od,kV,doc,pm,an,cdv,ct,osl,rfl,lk,hcd⟩:=F.ex;exact .all (h kV doc pm an cdv ct)
theorem Ba {x qual:Str} {st:Stmt} {f:Addr} {oc:Value} {od an:Option Addr} {osl:Array (Option Value)} {kV doc pm cdv ct:Value} (l:K.lookup f=some ⟨oc,od,.func (PySem.W.fnOf x qual (cQ st) (bD st) (aq st) .none kV doc pm an cdv ct),osl⟩)
 (c:PySem.W.codeIn K cdv qual=true) (k:PySem.W.keepIn K (.ref f)=true):Fun K x qual st f (PySem.W.fnOf x qual (cQ st) (bD st) (aq st) .none kV doc pm an cdv ct):=⟨⟨oc,od,kV,doc,pm,an,cdv,ct,osl,rfl,l,c⟩,k⟩
end
theorem oW {A:Around} {k:Nat} (hr:Room k A):A.units+1 < cLine:=Nat.lt_of_le_of_lt (Nat.add_le_add_left (by decide:1<=64) _) hr.units
theorem jF {n:Nat} (h:n<=1000):n < sizeLine:=Nat.lt_of_le_of_lt h (by decide)
section
variable {X:Cx}
end
def Same (H H':Hp):Prop:=∀ b o,H b=some o->H' b=some o
theorem Same.refl (H:Hp):Same H H:=fun _ _ h=>h
theorem Same.trans {H H1 H2:Hp} (a:Same H H1) (b:Same H1 H2):Same H H2:=fun c o h=>b c o (a c o h)
theorem Same.seq {K:Zu} {H H':Hp} {a:Addr} {xs:List V} (e:Same H H') (h:SqL K H a xs):SqL K H' a xs:=by
 rcases h with (h | ⟨o,h⟩) | h
 . exact .inl (.inl (e _ _ h))
 . exact .inl (.inr ⟨o,e _ _ h⟩)
 . exact .inr h
end L2
namespace L2
open PySem PySem.Spec PyProof.Rows
end L2
namespace L2
open PySem PySem.Spec PyProof.Rows
section
variable (P:Program) (w:World)
end
section
variable {P:Program} {w:World} {H H':Hp} {h h':Heap} {a:Addr} {o:HO}
end
section
variable {P:Program} {w:World} {H:Hp} {h h':Heap} {x e:Addr} {o':HO}
end
section
variable {fs fs' ex ex':List Addr} {H H1 H2:Hp} {h h1 h2 h':Heap} {a x e:Addr} {o:HO}
end
end L2
namespace L2
open PySem PySem.Spec PyProof.Rows
section
variable {X:Cx} {pins:List (Addr×Obj)} {σ:List (Option V)} {H H':Hp} {s:Shared} {h':Heap}
end
end L2
namespace L2
open PySem PySem.Spec PyProof.Rows
section
variable {X:Cx}
variable {a b:Expr} {ta tb:TE} {pos:Pos}
variable {tA tB':TT} {rest:List Expr}
end
end L2
namespace L2
open PySem PySem.Spec PyProof.Rows
section
variable {X:Cx} {pins:List (Addr×Obj)} {σ:St} {H:Hp} {s:Shared} {a:Addr} {xs ys:List V}
end
section
variable {X:Cx} {pins:List (Addr×Obj)} {σ:St} {H:Hp} {s:Shared} {E:Value->Shared->Prop}
end
section
variable {X:Cx} {st:Stmt} {rest:List Stmt} {t u:TS} {e:Expr} {te:TE} {pos:Pos}
end
section
variable {X:Cx} {pos:Pos}
end
section
variable {X:Cx} {pos:Pos}
end
end L2
namespace L2
open PySem PySem.Spec PyProof.Rows
section
variable {X:Cx} {tg:Expr}
end
end L2
namespace L2
open PySem PySem.Spec PyProof.Rows
section
variable {X:Cx} {a b c:Expr} {ta tb tc:TE} {pos:Pos}
end
section
variable {X:Cx} {a b c:Expr} {ta tb tc:TE} {pos:Pos}
end
end L2
namespace L2
open PySem PySem.Spec PyProof.Rows
section
variable {prog:Program} {w:World} {A:Around} {E:Value->Shared->Prop} {s:Shared} {K:Zu} {x dx C f:Addr} {mA:Str->Option Value} {name:Str} {v:Value}
end
section
variable {P:Program} {w:World} {H H':Hp} {h h':Heap} {a C dx:Addr} {fs fs':List (Str×V)}
end
section
variable {X:Cx} {pins:List (Addr×Obj)} {σ:St} {H:Hp} {s:Shared} {a C dx:Addr} {fs:List (Str×V)} {f:Str} {v:V} {A:Around} {E:Value->Shared->Prop}
end
section
variable {X:Cx} {o e value:Expr} {f:Str} {pos pos' tpos:Pos} {ta tv:TE}
end
section
variable {X:Cx} {pins:List (Addr×Obj)} {σ:St} {H:Hp} {s:Shared} {A:Around} {E:Value->Shared->Prop} {Q:Value->Shared->Prop} {c:Value} {b:Bool}
end
end L2
namespace L2
open PySem PySem.Spec PyProof.Rows
section
variable {X:Cx} {e:Expr} {es:List Expr} {te:TE} {t:TA} {pos:Pos}
end
section
variable {X:Cx} {pins:List (Addr×Obj)} {σ:St} {H:Hp} {s s':Shared}
end
section
variable {X:Cx} {CX:CXT} {k:Nat} {f C:Addr} {fd:FuncData} {ps:List Str} {sp:Sp} {dvs:List V} {ds:List Value} {E:XK} {x m:Str} {p pos apos:Pos} {e o:Expr} {es:List Expr} {ta:TE} {t:TA}
end
section
variable {X:Cx} {CX:CXT} {k:Nat} {f C:Addr} {fd:FuncData} {ps ks:List Str} {sp:Sp} {E:XK} {x m:Str} {p pos apos kpos:Pos} {e o:Expr} {es:List Expr} {kws:List Keyword} {te ta:TE} {t tk:TA} {nm:Option Str}
variable {g:List Value->List Value->List Value} {gV:List V->List V->List V}
end
end L2
namespace L2
open PySem PySem.Spec PyProof.Rows
section
variable {X:Cx} {x:Str} {p pos:Pos} {e:Expr} {es:List Expr} {t:TA} {id T:String} {r:List V->Hp->VK->Prop}
end
end L2
namespace L2
open PySem PySem.Spec PyProof.Rows
section
variable {κ:Type} [DecidableEq κ]
def kw (kvs:List (κ×V)) (k:κ):Option V:=(kvs.find? fun kv=>decide (kv.1=k)).map (·.2)
def jb (kvs:List (κ×V)) (k:κ) (v:V):List (κ×V) :=
 if (kvs.any fun kv=>decide (kv.1=k))=true then kvs.map (fun kv=>if kv.1=k then (kv.1,v) else kv) else kvs++[(k,v)]
theorem kr {p:κ×V} {r:List (κ×V)} {k:κ} (e:p.1=k):kw (p :: r) k=some p.2:=by simp [kw,List.find?_cons,e]
theorem ku {p:κ×V} {r:List (κ×V)} {k:κ} (e:¬ p.1=k):kw (p :: r) k=kw r k:=by simp [kw,List.find?_cons,e]
theorem tf (k:κ):∀ kvs:List (κ×V),(kvs.any fun kv=>decide (kv.1=k))=(kw kvs k).isSome
 | []=>rfl
 | p :: r=>by
  rw [List.any_cons]
  by_cases e:p.1=k
  . simp only [kr e,decide_eq_true e,Bool.true_or,Option.isSome_some]
  . rw [ku e,decide_eq_false e,Bool.false_or];exact tf k r
theorem jt (kvs:List (κ×V)) (k:κ) (v:V):(jb kvs k v).length<=kvs.length+1:=by
 unfold jb;split
 . rw [Zi];omega
 . rw [Zh,Zj,List.length_nil];omega
theorem RelO.isSome_eq {o:Option V} {u:Option Value} (r:RelO o u):o.isSome=u.isSome:=by
 cases o with
 | none=>cases u with
  | none=>rfl
  | some _=>exact (show False from r).elim
 | some _=>cases u with
  | none=>exact (show False from r).elim
  | some _=>rfl
theorem KV.val {kvs:List (κ×V)} {vs:List (κ×Value)} (r:KV kvs vs) (k:κ):RelO (kw kvs k) (valueAt vs k):=by
 unfold KV at r
 induction r with
 | nil=>exact True.intro
 | @cons p q ps qs h t ih =>
  obtain ⟨h1,h2⟩:=h
  by_cases e:p.1=k
  . have e':q.1=k:=h1.symm.trans e;have b:valueAt (q :: qs) k=some q.2:=by simp [valueAt,List.find?_cons,e']
    rw [kr e,b];exact h2
  . have e':¬ q.1=k:=fun z=>e (h1.trans z)
    have b:valueAt (q :: qs) k=valueAt qs k:=by simp [valueAt,List.find?_cons,e']
    rw [ku e,b];exact ih
theorem KV.any {kvs:List (κ×V)} {vs:List (κ×Value)} (r:KV kvs vs) (k:κ):(kvs.any fun kv=>decide (kv.1=k))=vs.any fun kv=>decide (kv.1=k):=by
 unfold KV at r
 induction r with
 | nil=>rfl
 | cons h t ih=>rw [List.any_cons,List.any_cons,ih,h.1]
theorem KV.repl {kvs:List (κ×V)} {vs:List (κ×Value)} (r:KV kvs vs) (k:κ) {y:V} {u:Value} (ry:RelV y u) :
 KV (kvs.map fun kv=>if kv.1=k then (kv.1,y) else kv) (vs.map fun kv=>if kv.1=k then (kv.1,u) else kv):=by
 unfold KV at r ⊢
 induction r with
 | nil=>exact .nil
 | @cons p q ps qs h t ih =>
  rw [Zr,Zr];refine .cons ?_ ih;obtain ⟨h1,h2⟩:=h
  by_cases e:p.1=k
  . rw [if_pos e,if_pos (h1.symm.trans e)];exact ⟨h1,ry⟩
  . rw [if_neg e,if_neg (fun z=>e (h1.trans z))];exact ⟨h1,h2⟩
theorem KV.put {kvs:List (κ×V)} {vs:List (κ×Value)} (r:KV kvs vs) (k:κ) {y:V} {u:Value} (ry:RelV y u):KV (jb kvs k y) (stored vs k u):=by
 unfold jb stored;rw [r.any k]
 by_cases e:(vs.any fun kv=>decide (kv.1=k))=true
 . rw [if_pos e,if_pos e];exact r.repl k ry
 . rw [if_neg e,if_neg e];exact Paired.snoc r ⟨rfl,ry⟩
theorem KV.keys {kvs:List (κ×V)} {vs:List (κ×Value)} (r:KV kvs vs):kvs.map (·.1)=vs.map (·.1):=by
 unfold KV at r
 induction r with
 | nil=>rfl
 | cons h t ih=>rw [Zr,Zr,ih,h.1]
theorem KV.length {kvs:List (κ×V)} {vs:List (κ×Value)} (r:KV kvs vs):kvs.length=vs.length:=Paired.length r
end
theorem uh {P:Program} {w:World} {k:Key} {u:Value} (r:RelV (kV k) u):(bM P w).is k u=true:=by
 cases k with
 | inl i=>obtain ⟨t,e⟩:=(show ∃ t,u=Value.int i t from r);subst e;exact uc P w i t
 | inr x=>obtain ⟨t,e⟩:=(show ∃ t,u=Value.str x t from r);subst e;exact ua P w x t
theorem qF {P:Program} {w:World}:∀ {ks:List Key} {us:List Value},Vals (ks.map kV) us->ItemsAre (bM P w) ks us
 | [],_,r=>by rw [List.map_nil] at r;cases r;exact .nil
 | k :: ks,_,r=>by
  rw [Zr] at r;cases r with
  | cons h t=>exact .cons (uh h) (qF t)
abbrev KT (H:Hp):List (List Key×V)->List (List Key×Addr×Value)->Prop:=Paired fun p q=>p.1=q.1/\H q.2.1=some (.tup (p.1.map kV))/\RelV p.2 q.2.2
theorem KT.val {H:Hp} {kvs:List (List Key×V)} {xs:List (List Key×Addr×Value)} (r:KT H kvs xs) (k:List Key):RelO (kw kvs k) ((atKey xs k).map (·.2)):=by
 induction r with
 | nil=>exact True.intro
 | @cons p q ps qs h t ih =>
  obtain ⟨h1,_,h2⟩:=h
  by_cases e:p.1=k
  . have e':q.1=k:=h1.symm.trans e;have b:atKey (q :: qs) k=some q.2:=by simp [atKey,List.find?_cons,e']
    rw [kr e,b];exact h2
  . have e':¬ q.1=k:=fun z=>e (h1.trans z)
    have b:atKey (q :: qs) k=atKey qs k:=by simp [atKey,List.find?_cons,e']
    rw [ku e,b];exact ih
theorem KT.repl {H:Hp} {kvs:List (List Key×V)} {xs:List (List Key×Addr×Value)} (r:KT H kvs xs) (k:List Key) {y:V} {u:Value} (ry:RelV y u) :
 KT H (kvs.map fun kv=>if kv.1=k then (kv.1,y) else kv) (xs.map (putAt k u)):=by
 induction r with
 | nil=>exact .nil
 | @cons p q ps qs h t ih =>
  rw [Zr,Zr];refine .cons ?_ ih;obtain ⟨h1,h2,h3⟩:=h;unfold putAt
  by_cases e:p.1=k
  . rw [if_pos e,if_pos (h1.symm.trans e)];exact ⟨h1,h2,ry⟩
  . rw [if_neg e,if_neg (fun z=>e (h1.trans z))];exact ⟨h1,h2,h3⟩
theorem KT.put {H:Hp} {kvs:List (List Key×V)} {xs:List (List Key×Addr×Value)} (r:KT H kvs xs) (k:List Key) {b:Addr} {y:V} {u:Value} (hb:H b=some (.tup (k.map kV))) (ry:RelV y u) :
 KT H (jb kvs k y) (storedH xs k b u):=by
 have e:(kvs.any fun kv=>decide (kv.1=k))=(atKey xs k).isSome:=by
  rw [tf,(r.val k).isSome_eq,Option.isSome_map]
 unfold jb storedH;rw [e]
 by_cases q:(atKey xs k).isSome=true
 . rw [if_pos q,if_pos q];exact r.repl k ry
 . rw [if_neg q,if_neg q];exact Paired.snoc r ⟨rfl,hb,ry⟩
theorem KT.keeps {H H':Hp} {kvs:List (List Key×V)} {xs:List (List Key×Addr×Value)} (r:KT H kvs xs) (ht:∀ b ys,H b=some (.tup ys)->H' b=some (.tup ys)):KT H' kvs xs :=
 Paired.mapP r fun _ _ z=>⟨z.1,ht _ _ z.2.1,z.2.2⟩
section
variable {P:Program} {w:World} {H:Hp} {h:Heap} {a:Addr}
theorem DJ {u:HO} (ok:HOk P w H h) (e:Rd H a u):ObjOk P w H h a u:=e.ok ok
theorem uP {kvs:List (Key×V)} (ok:HOk P w H h) (e:Rd H a (.dK kvs)):kvs.length<=sizeLine/\(a == sysModules)=false/\∃ vs,KV kvs vs/\h.DictOf (bM P w) a vs :=
 show ObjOk P w H h a (.dK kvs) from DJ ok e
theorem D0 {kvs:List (Key×V)} (ok:HOk P w H h) (e:H a=some (.dK kvs)):kvs.length<=sizeLine/\(a == sysModules)=false/\∃ vs,KV kvs vs/\h.DictOf (bM P w) a vs:=uP ok (.inl e)
theorem lT {ks:List Key} (ok:HOk P w H h) (e:H a=some (.tup (ks.map kV))):(tupleKind (bM P w)).is h ks a:=by
 obtain ⟨_,its,r,o,h1,h2,n,h3⟩:=(show ObjOk P w H h a (.tup (ks.map kV)) from ok a _ e)
 exact ⟨o,its.toArray,n,h1,h2,h3,by simpa using qF r⟩
theorem xT {kvs:List (List Key×V)} (ok:HOk P w H h) (e:Rd H a (.dT kvs)):kvs.length<=sizeLine/\(a == sysModules)=false /\
 ∃ xs,KT H kvs xs/\h.DictOfH (tupleKind (bM P w)) a xs:=by
 obtain ⟨z,y,xs,r,o,es,ep,h1,h2,h3,h4,h5⟩:=(show ObjOk P w H h a (.dT kvs) from DJ ok e)
 refine ⟨z,y,xs,r,o,es,ep,h1,h2,h3,h4,fun x hx=>?_,h5⟩
 have all:∀ {l:List (List Key×V)} {m:List (List Key×Addr×Value)},KT H l m->∀ x∈m,(tupleKind (bM P w)).is h x.1 x.2.1:=by
  intro l m q
  induction q with
  | nil=>intro x hx;exact nomatch hx
  | @cons p q ps qs hq t ih =>
   intro x hx;rcases Zq.mp hx with e | hx
   . subst e;exact lT ok (by rw [<- hq.1];exact hq.2.1)
   . exact ih x hx
 exact all r x hx
theorem GZ {kvs:List (List Key×V)} (ok:HOk P w H h) (e:H a=some (.dT kvs)):kvs.length<=sizeLine/\(a == sysModules)=false /\
 ∃ xs,KT H kvs xs/\h.DictOfH (tupleKind (bM P w)) a xs:=xT ok (.inl e)
end
def zm (H:Hp) (a:Addr) (y:V) (r:Option V):Prop :=
 (∃ kvs k,Rd H a (.dK kvs)/\y=kV k/\r=kw kvs k) \/ ∃ kvs k b,Rd H a (.dT kvs)/\y=.ref b/\H b=some (.tup (k.map kV))/\r=kw kvs k
def DPut (H:Hp) (a:Addr) (y v:V) (H':Hp):Prop :=
 (∃ kvs k,H a=some (.dK kvs)/\y=kV k/\kvs.length < sizeLine/\H'=upd H a (.dK (jb kvs k v))) \/
 ∃ kvs k b,H a=some (.dT kvs)/\y=.ref b/\H b=some (.tup (k.map kV))/\kvs.length < sizeLine/\H'=upd H a (.dT (jb kvs k v))
theorem DPut.k {H:Hp} {a:Addr} {kvs:List (Key×V)} {k:Key} {v:V} (e:H a=some (.dK kvs)) (hl:kvs.length < sizeLine):DPut H a (kV k) v (upd H a (.dK (jb kvs k v))):=.inl ⟨kvs,k,e,rfl,hl,rfl⟩
section
variable {X:Cx} {pins:List (Addr×Obj)} {σ:St} {H:Hp} {s:Shared} {a:Addr} {y v:V} {u r:Value} {o:Option V} {A:Around} {E:Value->Shared->Prop}
theorem Inv.big (I:Inv X pins σ H s):sysModules < s.heap.objs.size:=by
 have h:mainGlobals < s.heap.objs.size:=(I.mod.glob.keeps I.bk).lt;exact Nat.lt_trans (by decide) h
theorem zb {Q:Value->Shared->Prop} (hu:A.units+1 < cLine) (I:Inv X pins σ H s) (g:zm H a y (some v)) (ry:RelV y u) (h:∀ w' s',Inv X pins σ H s'->RelV v w'->Q w' s') :
 wpAny (model X.prog X.w) A (getItem (.ref a) u) Q E s:=by
 rcases g with ⟨kvs,k,e,ey,l⟩ | ⟨kvs,k,b,e,ey,eb,l⟩
 . subst ey;obtain ⟨z,hd,vs,rel,dd⟩:=uP I.hok e;obtain ⟨w',hw,rw'⟩:=RelO.some_of (v:=v) (o:=valueAt vs k) (by rw [l];exact rel.val k)
   exact wpAny_getItem_of (uh ry) dd.mapOf hw (h w' _ (I.tok _) rw')
 . subst ey;cases (show u=Value.ref b from ry)
   obtain ⟨z,hd,xs,rel,dd⟩:=xT I.hok e;obtain ⟨w',hw,rw'⟩:=RelO.some_of (v:=v) (o:=(atKey xs k).map (·.2)) (by rw [l];exact rel.val k)
   obtain ⟨p,hp,hp2⟩:=Zb.mp hw;refine wpAny_getItem_heap (tupleKind_room_in1 hu) (lT I.hok eb) dd hp ?_;rw [hp2];exact h w' _ (I.tok _) rw'
theorem Do {Q:Value->Shared->Prop} (hu:A.units+1 < cLine) (I:Inv X pins σ H s) (g:zm H a y o) (ry:RelV y u) (h:∀ s',Inv X pins σ H s'->Q (.bool (!o.isSome)) s') :
 wpAny (model X.prog X.w) A (compareOp .NotIn u (.ref a)) Q E s:=by
 rcases g with ⟨kvs,k,e,ey,l⟩ | ⟨kvs,k,b,e,ey,eb,l⟩
 . subst ey;obtain ⟨z,hd,vs,rel,dd⟩:=uP I.hok e;refine wpAny_notIn_of (uh ry) hd dd.mapOf ?_;rw [<- (rel.val k).isSome_eq,<- l];exact h _ (I.tok _)
 . subst ey;cases (show u=Value.ref b from ry)
   obtain ⟨z,hd,xs,rel,dd⟩:=xT I.hok e;refine wpAny_notIn_heap (tupleKind_room_in1 hu) (lT I.hok eb) hd dd ?_;have q:=(rel.val k).isSome_eq;rw [Option.isSome_map] at q;rw [<- q,<- l];exact h _ (I.tok _)
theorem sN {h':Heap} {t':Nat} {ob:HO} (I:Inv X pins σ H s) (mu:Mut (H a)) (hs:Heap.SameBut a s.heap h') (he:∃ q,h'.get? a=some q) (new:ObjOk X.prog X.w (upd H a ob) h' a ob) :
 Inv X pins σ (upd H a ob) { s with heap:=h',toks:=t' } :=
 I.write (x:=a) (e:=a) mu (.inl rfl) (fun b q hb z=>(hs.2 b hb).trans z) he new
theorem v6 {P:Program} {w:World} {H':Hp} {h':Heap} {kvs:List (Key×V)} {vs:List (Key×Value)} (z:kvs.length<=sizeLine) (hd:(a == sysModules)=false) (rel:KV kvs vs) (dd:h'.DictOf (bM P w) a vs) :
 ObjOk P w H' h' a (.dK kvs):=⟨z,hd,vs,rel,dd⟩
theorem za {H':Hp} {Q:Unit->Shared->Prop} (hu:A.units+1 < cLine) (I:Inv X pins σ H s) (g:DPut H a y v H') (ry:RelV y u) (rv:RelV v r) (h:∀ s',Inv X pins σ H' s'->Q () s') :
 wpAny (model X.prog X.w) A (setItem (.ref a) u r) Q E s:=by
 rcases g with ⟨kvs,k,e,ey,l,eH⟩ | ⟨kvs,k,b,e,ey,eb,l,eH⟩
 . subst ey eH;obtain ⟨z,hd,vs,rel,dd⟩:=D0 I.hok e;have hz:vs.length<=sizeLine:=by rw [<- rel.length];exact z
   have hl:(jb kvs k v).length<=sizeLine:=by have:=jt kvs k v;omega
   refine wpAny_setItem_pairs (hsz:=hz) (uh ry) dd fun h' dd' hs=>h _ ?_
   have he:∃ q,h'.get? a=some q:=let ⟨q,_,_,hq,_⟩:=dd';⟨q,hq⟩;exact sN I (by rw [e];exact True.intro) hs he (v6 hl hd (rel.put k rv) dd')
 . subst ey eH;cases (show u=Value.ref b from ry)
   obtain ⟨z,hd,xs,rel,dd⟩:=GZ I.hok e;have hz:xs.length<=sizeLine:=by rw [<- Paired.length rel];exact z
   have hl:(jb kvs k v).length<=sizeLine:=by have:=jt kvs k v;omega
   refine wpAny_setItem_heap (hsz:=hz) (tupleKind_room_in1 hu) (lT I.hok eb) dd fun h' dd' hs=>h _ ?_
   obtain ⟨q,es,ep,hq,h2,h3,h4,_,h5⟩:=dd';refine sN I (by rw [e];exact True.intro) hs ⟨q,hq⟩ ⟨hl,hd,_,(rel.put k eb rv).keeps fun c ys ec=>?_,q,es,ep,hq,h2,h3,h4,h5⟩
   rw [aB (GG ec e (fun z=>nomatch z))]
   exact ec
end
section
variable {X:Cx} {pins:List (Addr×Obj)} {σ:St} {H:Hp} {s:Shared} {a:Addr} {kvs:List (Key×V)} {k:Key} {u:Value} {A:Around} {E:Value->Shared->Prop}
end
def FP (i:Expr):Prop:=∀ ov iv,subscripted i false ov iv=operate [ov,iv] (getItem ov iv)
theorem BX {prog:Program} {w:World} {A:Around} {E:Value->Shared->Prop} {s:Shared} {env:Env} {value slice:Expr} {pos:Pos} {T id:String} {Q:Value->Shared->Prop}
 (hl:typeLookup (.type T) "__getitem__" = pure (some (.builtin id))) (hs:FP slice)
 (h:wpAny (model prog w) A (eval value env) (fun o s₁=>wpAny (model prog w) A (eval slice env) (fun i s₂=>s₂.TypeIs o T/\wpAny (model prog w) A (getItem o i) Q E s₂) E s₁) E s) :
 wpAny (model prog w) A (eval (.Subscript value slice pos) env) Q E s:=by
 refine Subscript_ (wpAny_mono h (fun o s₁ h₁=>wpAny_mono h₁ (fun i s₂ h₂=>?_) fun _ _ x=>x) fun _ _ x=>x)
 obtain ⟨hT,h₂⟩:=h₂;unfold subscriptTail;refine wpAny_bind ?_;rw [getitemInPython_of_ne hT.not_modules];refine wpAny_bind (wpAny_specialOf hT hl ?_);have fin:wpAny (model prog w) A (subscripted slice false o i) (fun r s₃=>wpAny (model prog w) A (letTemporaryGo value o r >>= fun _=>pure r) Q E s₃) E s₂:=by
  rw [hs o i];exact wpAny_operating (wpAny_mono h₂ (fun r s₃ h₃=>wpAny_bind (wpAny_letTemporaryGo (wpAny_pure h₃))) fun _ _ x=>x)
 first
  | exact wpAny_pure (wpAny_bind fin)
  | exact wpAny_bind (wpAny_pure (wpAny_bind fin))
  | exact wpAny_bind fin
theorem uQ {X:Cx} {pins:List (Addr×Obj)} {σ:St} {H:Hp} {s:Shared} {a:Addr} {y:V} {o:Option V} (I:Inv X pins σ H s) (g:zm H a y o):s.TypeIs (.ref a) "dict":=by
 rcases g with ⟨kvs,k,e,_,_⟩ | ⟨kvs,k,b,e,_,_,_⟩
 . obtain ⟨_,_,vs,_,dd⟩:=uP I.hok e;exact dd.typeIs
 . obtain ⟨_,_,xs,_,dd⟩:=xT I.hok e;exact dd.typeIs
def Gd (td ty:TE):TE:=fun σ H Q=>td σ H fun x H1=>ty σ H1 fun y H2=>∃ a v,x=.ref a/\zm H2 a y (some v)/\Q v H2
def wH (ty td:TE):TE:=fun σ H Q=>ty σ H fun y H1=>td σ H1 fun x H2=>∃ a o,x=.ref a/\zm H2 a y o/\Q (.bl (!o.isSome)) H2
def Gg (td ty tv:TE):TS:=fun D σ H=>tv σ H fun v H1=>td σ H1 fun x H2=>ty σ H2 fun y H3=>∃ a H4,x=.ref a/\DPut H3 a y v H4/\D.nx σ H4
section
variable {X:Cx} {o i e value:Expr} {pos pos' tpos:Pos} {td ty tv:TE}
theorem Cq (hu:X.A.units+1 < cLine) (ho:PE X o td) (hi:PE X i ty) (hs:FP i):PE X (.Subscript o i pos) (Gd td ty):=by
 intro pins s σ H Q I h;refine BX PySem.F.slot_dict_getitem.lookup hs (thn (ho pins s σ H _ I h) fun u s1 ⟨x,H1,I1,rx,q1⟩=>thn (hi pins s1 σ H1 _ I1 q1) fun iv s2 ⟨y,H2,I2,ry,a,v,ex,g,q2⟩=>?_)
 subst ex;obtain rfl:u=Value.ref a:=rx;exact ⟨uQ I2 g,zb hu I2 g ry fun w' s3 I3 rw'=>⟨v,H2,I3,rw',q2⟩⟩
theorem yB (hu:X.A.units+1 < cLine) (hi:PE X i ty) (ho:PE X o td):PC X .NotIn i o (wH ty td):=by
 intro pins s σ H Q I h;refine thn (hi pins s σ H _ I h) fun iv s1 ⟨y,H1,I1,ry,q1⟩=>thn (ho pins s1 σ H1 _ I1 q1) fun u s2 ⟨x,H2,I2,rx,a,ov,ex,g,q2⟩=>?_
 subst ex;obtain rfl:u=Value.ref a:=rx;exact Do hu I2 g ry fun s3 I3=>⟨.bl (!ov.isSome),H2,I3,rfl,q2⟩
theorem Cf (hu:X.A.units+1 < cLine) (ho:PE X o td) (hi:PE X i ty) (hv:PE X value tv) (hs:swapsWith value (some (.Subscript o i pos')) pos.line X.env=pure false) :
 PS X (.Assign [.Subscript o i pos'] value pos) (Gg td ty tv):=by
 intro pins s σ H D I h;refine wpAny_Assign_Subscript (thn (hv pins s σ H _ I h) fun r s1 ⟨v,H1,I1,rv,q1⟩=>thn (ho pins s1 σ H1 _ I1 q1) fun u s2 ⟨x,H2,I2,rx,q2⟩=>thn (hi pins s2 σ H2 _ I2 q2) fun iv s3 ⟨y,H3,I3,ry,a,H4,ex,g,q3⟩=>?_) hs
 subst ex;obtain rfl:u=Value.ref a:=rx;exact za hu I3 g ry rv fun s4 I4=>⟨σ,H4,I4,q3⟩
end
theorem Bv {P:Program} {w:World} {H:Hp} (h:Heap) (hb:sysModules < h.objs.size):ObjOk P w H (h.push { cls:=.type "dict",data:=.dict #[] }) h.objs.size (.dK []) :=
 ⟨Nat.zero_le _,beq_eq_false_iff_ne.mpr (Ne.symm (ZB hb)),[],.nil,Heap.DictOf.new h⟩
section
variable {X:Cx} {pos:Pos}
end
def vg:List (TE×TE)->St->Hp->(List (V×V)->Hp->Prop)->Prop
 | [],_,H,Q=>Q [] H
 | (tk,tv) :: r,σ,H,Q=>tk σ H fun x H1=>tv σ H1 fun y H2=>vg r σ H2 fun ps H3=>Q ((x,y) :: ps) H3
abbrev VV:List (V×V)->List (Value×Value)->Prop:=Paired fun p q=>RelV p.1 q.1/\RelV p.2 q.2
def PPs (X:Cx) (pos:Pos) (keys:List (Option Expr)) (values:List Expr) (trs:List (TE×TE)):Prop :=
 ∀ (pins:List (Addr×Obj)) (s:Shared) (σ:St) (H:Hp) (Q:List (V×V)->Hp->Prop),Inv X pins σ H s->vg trs σ H Q ->
  wpAny (model X.prog X.w) X.A (evalPairs (pairTrees keys values X.env pos)) (fun vs s'=>∃ ps H',Inv X pins σ H' s'/\VV ps vs/\Q ps H') X.xe s
theorem xf {X:Cx} {pos:Pos}:PPs X pos [] [] []:=fun pins s σ H Q I h=>pairTrees_nil_walk ⟨[],H,I,.nil,h⟩
theorem tO {X:Cx} {pos:Pos} {k v:Expr} {ks:List (Option Expr)} {vs:List Expr} {tk tv:TE} {trs:List (TE×TE)} (hk:PE X k tk) (hv:PE X v tv) (hr:PPs X pos ks vs trs) :
 PPs X pos (some k :: ks) (v :: vs) ((tk,tv) :: trs):=fun pins s σ H Q I h =>
 pairTrees_cons_walk (thn (hk pins s σ H _ I h) fun u s1 ⟨x,H1,I1,rx,q1⟩=>thn (hv pins s1 σ H1 _ I1 q1) fun w2 s2 ⟨y,H2,I2,ry,q2⟩ =>
  thn (hr pins s2 σ H2 _ I2 q2) fun ws s3 ⟨ps,H3,I3,rel,q3⟩=>⟨(x,y) :: ps,H3,I3,.cons ⟨rx,ry⟩ rel,q3⟩)
def oJ (kvs more:List (Key×V)):List (Key×V):=more.foldl (fun acc kv=>jb acc kv.1 kv.2) kvs
theorem KV.merge:∀ {more:List (Key×V)} {rs:List (Key×Value)} {kvs:List (Key×V)} {vs:List (Key×Value)},KV more rs->KV kvs vs->KV (oJ kvs more) (merged vs rs):=by
 intro more rs kvs vs r;unfold KV at r
 induction r generalizing kvs vs with
 | nil=>intro q;exact q
 | @cons p q ps qs h t ih =>
  intro r0;have e:KV (jb kvs p.1 p.2) (stored vs q.1 q.2):=by
   have:=r0.put p.1 h.2;rw [<- h.1];exact this
  exact ih e
theorem j2:∀ (more kvs:List (Key×V)),(oJ kvs more).length<=kvs.length+more.length
 | [],kvs=>by show kvs.length<=kvs.length+0;omega
 | p :: r,kvs=>by
  have h1:=j2 r (jb kvs p.1 p.2);have h2:=jt kvs p.1 p.2;show (oJ (jb kvs p.1 p.2) r).length<=_;rw [Zj];omega
theorem pA {P:Program} {w:World}:∀ {kvs:List (Key×V)} {ws:List (Value×Value)},VV (kvs.map fun kv=>(kV kv.1,kv.2)) ws->∃ rs,Carries (bM P w) ws rs/\KV kvs rs
 | [],_,r=>by rw [List.map_nil] at r;cases r;exact ⟨[],True.intro,.nil⟩
 | p :: kvs,_,r=>by
  rw [Zr] at r;cases r with
  | @cons a b as bs h t =>
   obtain ⟨rs,c,q⟩:=pA (P:=P) (w:=w) t;obtain ⟨b1,b2⟩:=b;exact ⟨(p.1,b2) :: rs,⟨uh h.1,rfl,c⟩,.cons ⟨rfl,h.2⟩ q⟩
def Gc (trs:List (TE×TE)):TE:=fun σ H Q=>∀ p,H p=none->vg trs σ (upd H p (.dK [])) fun ps H2=>H2 p=some (.dK [])/\∃ kvs:List (Key×V),ps=kvs.map (fun kv=>(kV kv.1,kv.2))/\kvs.length<=15/\Q (.ref p) (upd H2 p (.dK (oJ [] kvs)))
theorem xk {X:Cx} {pos:Pos} {keys:List (Option Expr)} {values:List Expr} {trs:List (TE×TE)} (h:PPs X pos keys values trs) (hall:keys.all (·.isSome)=true) (hl:keys.length=values.length) (h0:keys ≠ [])
 (h15:keys.length<=15):PE X (.Dict keys values pos) (Gc trs):=by
 intro pins s σ H Q I q;have hn:=I.hok.fresh (ZG s.heap.objs.size);have I1:=I.laid (a:=s.heap.objs.size) (o:=.dK []) (h':=s.heap.push { cls:=.type "dict",data:=.dict #[] }) (t':=s.toks) (fun _ _ q=>Heap.get?_push_of_some _ q) (ZG _) (Bv s.heap I.big)
 refine wpAny_Dict_walk (knd:=bM X.prog X.w) hall hl h0 h15 (thn (h pins _ σ _ _ I1 (q _ hn)) fun ws s2 ⟨ps,H2,I2,rel,e,kvs,ep,lk,q2⟩=>?_)
 subst ep;obtain ⟨rs,c,rk⟩:=pA (P:=X.prog) (w:=X.w) rel;obtain ⟨z,hd,vs0,r0,dd⟩:=D0 I2.hok e;cases r0;refine ⟨rs,c,dd,fun h' dd' hs=>⟨.ref s.heap.objs.size,_,?_,rfl,q2⟩⟩
 have hz:(oJ [] kvs).length<=sizeLine:=by
  have h1:=j2 kvs [];rw [List.length_nil] at h1;rw [sizeLine_eq];omega
 have he:∃ q,h'.get? s.heap.objs.size=some q:=let ⟨q,_,_,hq,_⟩:=dd';⟨q,hq⟩;exact sN I2 (by rw [e];exact True.intro) hs he (v6 hz hd (rk.merge .nil) dd')
section
variable {X:Cx} {pins:List (Addr×Obj)} {σ:St} {H:Hp} {s:Shared} {a:Addr} {y d:V} {u r:Value} {o:Option V} {A:Around} {E:Value->Shared->Prop}
end
section
variable {X:Cx} {o e f:Expr} {apos cpos:Pos} {td ty tx:TE}
end
section
variable {X:Cx} {pins:List (Addr×Obj)} {σ:St} {H:Hp} {s:Shared} {a:Addr} {kvs:List (Key×V)} {A:Around} {E:Value->Shared->Prop}
theorem Bw {Q:Value->Shared->Prop} (I:Inv X pins σ H s) (e:Rd H a (.dK kvs)) (h:∀ p s',H p=none->Inv X pins σ (upd H p (.dK kvs)) s'->Q (.ref p) s'):wpAny (model X.prog X.w) A (call (.type "dict") [.ref a]) Q E s:=by
 obtain ⟨z,hd,vs,rel,dd⟩:=uP I.hok e;refine kt_call_dict hd dd (by rw [<- rel.length];exact z) fun h' dd' hs=>?_
 refine h _ _ (I.hok.fresh (ZG _)) (I.laid (a:=s.heap.objs.size) (o:=.dK kvs) (t':=s.toks) (fun b q hq=>?_) (ZG _) (v6 z (beq_eq_false_iff_ne.mpr (Ne.symm (ZB I.big))) rel dd'))
 exact (hs.2 b (ZB (Heap.lt_size hq))).trans (Heap.get?_push_of_some _ hq)
end
section
variable {X:Cx} {pins:List (Addr×Obj)} {σ:St} {H:Hp} {s:Shared} {a:Addr} {y:V} {u:Value} {A:Around} {E:Value->Shared->Prop}
end
end L2
namespace Mth
def gc (t b:Int):Int:=(Int.gcd t b:Int)
theorem eE {t b:Int} (h:0 < b):0 < gc t b:=by
 unfold gc;have:0 < Int.gcd t b:=Int.gcd_pos_of_ne_zero_right t (by omega)
 omega
theorem C8 {t b:Int}:gc b (t % b)=gc t b:=by
 unfold gc;have h:t % b=t+(-(t / b))*b:=by
  have:=Int.emod_add_mul_ediv t b
  grind
 rw [h,Int.gcd_add_mul_right_right,Int.gcd_comm]
theorem C7 {t:Int} (h:0<=t):gc t 0=t:=by
 unfold gc;rw [Int.gcd_zero_right];omega
theorem eF {t b:Int}:gc t b ∣ t:=Int.gcd_dvd_left t b
theorem cS {t b:Int}:gc t b ∣ b:=Int.gcd_dvd_right t b
theorem uz {t b:Int} (h:0 < b):gc t b<=b:=Int.le_of_dvd h cS
def rd (t b:Int):Int×Int:=(t / gc t b,b / gc t b)
structure Lo (a b:Int):Prop where
 pos:0 < b
 one:gc a b=1
theorem Eh {t b:Int}:(rd t b).1*gc t b=t:=Int.ediv_mul_cancel eF
theorem B8 {t b:Int}:(rd t b).2*gc t b=b:=Int.ediv_mul_cancel cS
theorem oo {t b:Int} (h:0 < b):Lo (rd t b).1 (rd t b).2:=by
 have hg:=eE (t:=t) h;constructor
 . have e:=B8 (t:=t) (b:=b);have:0 < (rd t b).2*gc t b:=by omega
   exact Int.pos_of_mul_pos_left this hg
 . unfold gc rd;simp only;have:=Int.gcd_ediv_gcd_ediv_gcd (i:=t) (j:=b) (by unfold gc at hg;omega)
   unfold gc;rw [this];rfl
theorem tK {t b:Int}:(rd t b).1*b=t*(rd t b).2:=by
 have e1:=Eh (t:=t) (b:=b);have e2:=B8 (t:=t) (b:=b);generalize (rd t b).1=x at *
 generalize (rd t b).2=y at *
 generalize gc t b=g at *
 subst e1 e2
 grind
theorem Lo.ext {a b c d:Int} (h:Lo a b) (k:Lo c d) (e:a*d=c*b):a=c/\b=d:=by
 have hb:=h.pos;have hd:=k.pos;have h1:b ∣ d:=by
  have:b ∣ a*d:=⟨c,by rw [e,Int.mul_comm]⟩
  have hg:Int.gcd b a=1:=by have:=h.one;unfold gc at this;rw [Int.gcd_comm];omega
  have h3:=Int.dvd_gcd_mul_iff_dvd_mul.mpr this;rw [hg] at h3;simpa using h3
 have h2:d ∣ b:=by
  have:d ∣ c*b:=⟨a,by rw [<- e,Int.mul_comm]⟩
  have hg:Int.gcd d c=1:=by have:=k.one;unfold gc at this;rw [Int.gcd_comm];omega
  have h3:=Int.dvd_gcd_mul_iff_dvd_mul.mpr this;rw [hg] at h3;simpa using h3
 have hbd:b=d:=Int.le_antisymm (Int.le_of_dvd hd h1) (Int.le_of_dvd hb h2);subst hbd;exact ⟨Int.eq_of_mul_eq_mul_right (by omega) e,rfl⟩
theorem zP {t b a c:Int} (h:0 < b) (k:Lo a c) (e:t*c=a*b):rd t b=(a,c):=by
 have x:=(oo (t:=t) h).ext k (by
  have e1:=Eh (t:=t) (b:=b);have e2:=B8 (t:=t) (b:=b);have hg:=eE (t:=t) h;generalize (rd t b).1=x at *
  generalize (rd t b).2=y at *
  generalize gc t b=g at *
  have:g*(x*c)=g*(a*y):=by grind
  exact Int.eq_of_mul_eq_mul_left (by omega) this)
 exact Prod.ext x.1 x.2
theorem zN {a b:Int} (h:Lo a b):rd a b=(a,b):=zP h.pos h rfl
def pl (p q:Int×Int):Int×Int:=rd (p.1*q.2+q.1*p.2) (p.2*q.2)
def mi (p q:Int×Int):Int×Int:=rd (p.1*q.2 - q.1*p.2) (p.2*q.2)
def ti (p q:Int×Int):Int×Int:=rd (p.1*q.1) (p.2*q.2)
abbrev Lw (p:Int×Int):Prop:=Lo p.1 p.2
theorem zO {t b:Int} (h:0 < b):Lw (rd t b):=oo h
theorem ox {p q:Int×Int} (h:0 < p.2) (k:0 < q.2):Lw (pl p q):=oo (Int.mul_pos h k)
theorem xq {p q:Int×Int} (h:0 < p.2) (k:0 < q.2):Lw (mi p q):=oo (Int.mul_pos h k)
theorem DD {p q:Int×Int} (h:0 < p.2) (k:0 < q.2):Lw (ti p q):=oo (Int.mul_pos h k)
theorem Lo.neg {a b:Int} (h:Lo a b):Lo (-a) b:=⟨h.pos,by have:=h.one;unfold gc at *;rw [Int.neg_gcd];exact this⟩
def Sm (k:Nat) (x:Int):Prop:=x.natAbs < 2 ^ k
theorem Sm.mono {k l:Nat} {x:Int} (h:Sm k x) (e:k<=l):Sm l x:=Zw h (Nat.pow_le_pow_right (by decide) e)
theorem Sm.mul {k l:Nat} {x y:Int} (h:Sm k x) (g:Sm l y):Sm (k+l) (x*y):=by
 unfold Sm at *
 rw [Int.natAbs_mul,Nat.pow_add];exact Nat.mul_lt_mul'' h g
theorem Sm.add {k:Nat} {x y:Int} (h:Sm k x) (g:Sm k y):Sm (k+1) (x+y):=by
 unfold Sm at *
 rw [Nat.pow_succ];omega
theorem Sm.sub {k:Nat} {x y:Int} (h:Sm k x) (g:Sm k y):Sm (k+1) (x - y):=by
 unfold Sm at *
 rw [Nat.pow_succ];omega
theorem Sm.neg {k:Nat} {x:Int} (h:Sm k x):Sm k (-x):=by unfold Sm at *;omega
theorem Sm.of {k:Nat} {x:Int} (h:-(2 ^ k:Nat) < x) (g:x < (2 ^ k:Nat)):Sm k x:=by unfold Sm;omega
theorem Sm.div {k:Nat} {x g:Int} (h:Sm k x) (hg:0 < g) (d:g ∣ x):Sm k (x / g):=by
 obtain ⟨c,rfl⟩:=d;rw [Int.mul_ediv_cancel_left _ (by omega)]
 unfold Sm at *
 rw [Int.natAbs_mul] at h;have:1*c.natAbs<=g.natAbs*c.natAbs:=Nat.mul_le_mul_right _ (by omega)
 omega
theorem wX {k:Nat} {t b:Int} (hb:0 < b) (h:Sm k t) (g:Sm k b):Sm k (rd t b).1/\Sm k (rd t b).2 :=
 ⟨h.div (eE hb) eF,g.div (eE hb) cS⟩
structure Fr (k:Nat) (p:Int×Int):Prop where
 lw:Lw p
 s1:Sm k p.1
 s2:Sm k p.2
theorem Fr.mono {k l:Nat} {p:Int×Int} (h:Fr k p) (e:k<=l):Fr l p:=⟨h.lw,h.s1.mono e,h.s2.mono e⟩
theorem Fr.pos {k:Nat} {p:Int×Int} (h:Fr k p):0 < p.2:=h.lw.pos
theorem Fr.pl {k:Nat} {p q:Int×Int} (h:Fr k p) (g:Fr k q):Fr (k+k+1) (pl p q) :=
 have z:=wX (k:=k+k+1) (Int.mul_pos h.pos g.pos) ((h.s1.mul g.s2).add (g.s1.mul h.s2)) ((h.s2.mul g.s2).mono (by omega))
 ⟨ox h.pos g.pos,z.1,z.2⟩
theorem Fr.mi {k:Nat} {p q:Int×Int} (h:Fr k p) (g:Fr k q):Fr (k+k+1) (mi p q) :=
 have z:=wX (k:=k+k+1) (Int.mul_pos h.pos g.pos) ((h.s1.mul g.s2).sub (g.s1.mul h.s2)) ((h.s2.mul g.s2).mono (by omega))
 ⟨xq h.pos g.pos,z.1,z.2⟩
theorem Fr.rd {k:Nat} {t b:Int} (h:0 < b) (s:Sm k t) (g:Sm k b):Fr k (rd t b):=⟨zO h,(wX h s g).1,(wX h s g).2⟩
def low (t b:Int):Int×Int:=if b < 0 then rd (-t) (-b) else rd t b
theorem xu {t b:Int} (h:0 < b):low t b=rd t b:=by unfold low;rw [if_neg (by omega)]
theorem low_fr {k:Nat} {t b:Int} (h:b ≠ 0) (s:Sm k t) (g:Sm k b):Fr k (low t b):=by
 unfold low;split
 . exact Fr.rd (by omega) s.neg g.neg
 . exact Fr.rd (by omega) s g
end Mth
namespace Mth
abbrev Bn:=Option (Int×Bool)
def kp (p:Int×Int):Bn->Bool
 | none=>true
 | some (n,true)=>decide (p.1*1 < n*p.2)
 | some (n,false)=>!decide (n*p.2 < p.1*1)
def bs:Bn->Bn->Bn
 | some (n,s),some (m,t)=>some (n+m,s || t)
 | _,_=>none
theorem sU (a b:Bn):bs b a=bs a b:=by
 rcases a with _ | ⟨n,s⟩ <;> rcases b with _ | ⟨m,t⟩ <;> simp [bs,Int.add_comm,Bool.or_comm]
theorem eM (a b c:Bn):bs (bs a b) c=bs a (bs b c):=by
 rcases a with _ | ⟨n,s⟩ <;> rcases b with _ | ⟨m,t⟩ <;> rcases c with _ | ⟨l,u⟩ <;> simp [bs,Int.add_assoc,Bool.or_assoc]
theorem dJ (a:Bn):bs a (some (0,false))=a:=by
 rcases a with _ | ⟨n,s⟩ <;> simp [bs]
def Kp (p:Int×Int):Bn->Prop
 | none=>True
 | some (n,true)=>p.1 < n*p.2
 | some (n,false)=>p.1<=n*p.2
theorem AR {p:Int×Int} {b:Bn}:kp p b=true <-> Kp p b:=by
 rcases b with _ | ⟨n,_ | _⟩
 . simp [kp,Kp]
 . simp [kp,Kp]
 . simp [kp,Kp]
def b2 (s:Bool):Int:=if s then 1 else 0
def far (f:Int) (s:Bool):Int:=if f=0/\s=true then 1 else f
end Mth
namespace Mth
def tgt:Bn->Bn->Bool
 | none,_=>false
 | some _,none=>true
 | some (n,s),some (m,t)=>if n=m then s && !t else decide (n < m)
theorem zv (n m:Int) (s t:Bool):tgt (some (n,s)) (some (m,t))=if n=m then s && !t else decide (n < m):=rfl
theorem jg (a:Bn):tgt a a=false:=by
 rcases a with _ | ⟨n,s⟩
 . rfl
 . simp [tgt]
def DT:Bn->List Int
 | none=>[]
 | some (n,_)=>[n]
def Hm (a b:Bn):List Int:=0 :: (DT a++DT b)
def Hq (n:Int):List (Int×Int):=[(n,1),(2*n - 1,2),(2*n+1,2),(n+1,1),(n - 1,1)]
def half:Bn->Bn->Int
 | none,none=>0+0
 | none,some (m,_)=>m+0
 | some (n,_),none=>n+0
 | some (n,_),some (m,_)=>m+n
def tr (a b:Bn):List (Int×Int):=(Hm a b).flatMap Hq++[low (half a b) 2]
end Mth
namespace Mth
def Le (a b:Bn):Prop:=tgt b a=false
theorem Le.refl (a:Bn):Le a a:=jg a
theorem gq (a:Bn):Le a none:=rfl
theorem mG {n m:Int} {s t:Bool}:Le (some (n,s)) (some (m,t)) <-> n < m \/ (n=m/\(t=true->s=true)):=by
 unfold Le;rw [zv]
 by_cases h:m=n
 . subst h;rw [if_pos rfl];cases s <;> cases t <;> simp
 . rw [if_neg h,decide_eq_false_iff_not];constructor
   . intro g;exact .inl (by omega)
   . rintro (g | ⟨g,_⟩)
     . omega
     . exact absurd g.symm h
theorem cZ {n:Int} {s:Bool}:¬ Le none (some (n,s)):=fun h=>by cases h
theorem Le.trans {a b c:Bn} (h:Le a b) (g:Le b c):Le a c:=by
 rcases c with _ | ⟨p,u⟩
 . exact gq a
 rcases b with _ | ⟨m,t⟩
 . exact absurd g cZ
 rcases a with _ | ⟨n,s⟩
 . exact absurd h cZ
 rw [mG] at *
 rcases h with h | ⟨h,h'⟩ <;> rcases g with g | ⟨g,g'⟩
 . exact .inl (by omega)
 . exact .inl (by omega)
 . exact .inl (by omega)
 . exact .inr ⟨by omega,fun z=>h' (g' z)⟩
theorem Le.total (a b:Bn):Le a b \/ Le b a:=by
 rcases a with _ | ⟨n,s⟩
 . exact .inr (gq b)
 rcases b with _ | ⟨m,t⟩
 . exact .inl (gq _)
 rw [mG,mG]
 by_cases h:n=m
 . subst h;cases s <;> cases t <;> simp
 . by_cases g:n < m
   . exact .inl (.inl g)
   . exact .inr (.inl (by omega))
theorem Le.antisymm {a b:Bn} (h:Le a b) (g:Le b a):a=b:=by
 rcases a with _ | ⟨n,s⟩
 . rcases b with _ | ⟨m,t⟩
   . rfl
   . exact absurd h cZ
 rcases b with _ | ⟨m,t⟩
 . exact absurd g cZ
 rw [mG] at *
 have e:n=m:=by omega
 subst e;have h':t=true->s=true:=by rcases h with h | h;omega;exact h.2
 have g':s=true->t=true:=by rcases g with g | g;omega;exact g.2
 cases s <;> cases t <;> simp_all
theorem yI {a b:Bn} (h:tgt a b=true):Le a b:=by
 rcases Le.total a b with z | z
 . exact z
 . unfold Le at z;rw [h] at z;cases z
theorem Le.sum {a b c d:Bn} (h:Le a b) (g:Le c d):Le (bs a c) (bs b d):=by
 rcases b with _ | ⟨m,t⟩
 . exact gq _
 rcases d with _ | ⟨q,v⟩
 . exact gq _
 rcases a with _ | ⟨n,s⟩
 . exact absurd h cZ
 rcases c with _ | ⟨p,u⟩
 . exact absurd g cZ
 show Le (some (n+p,s || u)) (some (m+q,t || v))
 rw [mG] at *
 rcases h with h | ⟨h,h'⟩ <;> rcases g with g | ⟨g,g'⟩
 . exact .inl (by omega)
 . exact .inl (by omega)
 . exact .inl (by omega)
 . refine .inr ⟨by omega,fun z=>?_⟩
   rw [Bool.or_eq_true] at *
   rcases z with z | z
   . exact .inl (h' z)
   . exact .inr (g' z)
abbrev b0:Bn:=some (0,false)
theorem j3 (a:Bn):bs b0 a=a:=by rw [sU,dJ]
def Nn (a:Bn):Prop:=Le b0 a
theorem nn_kp {a:Bn}:kp (0,1) a=true <-> Nn a:=by
 rw [AR];rcases a with _ | ⟨n,s⟩
 . exact ⟨fun _=>gq _,fun _=>trivial⟩
 unfold Nn;rw [mG];cases s with
 | false =>
  show 0<=n*1 <-> _;constructor
  . intro h
    by_cases z:0=n
    . exact .inr ⟨z,by simp⟩
    . exact .inl (by omega)
  . rintro (h | ⟨h,_⟩) <;> omega
 | true =>
  show 0 < n*1 <-> _;constructor
  . intro h;exact .inl (by omega)
  . rintro (h | ⟨h,g⟩)
    . omega
    . exact absurd (g rfl) (by decide)
section
variable (c:Nat->Nat->Bn)
def dm:Nat->Nat->Nat->Bn
 | 0=>c
 | m+1=>fun i j=>if tgt (bs (dm m i m) (dm m m j)) (dm m i j) then bs (dm m i m) (dm m m j) else dm m i j
def Ok (n m:Nat):Prop:=∀ k,k < m->∀ i,i < n->Nn (bs (dm c k i k) (dm c k k i))
variable {c} {n:Nat}
theorem Bt (m i j:Nat):Le (dm c (m+1) i j) (dm c m i j):=by
 show Le (if _ then _ else _) _
 split
 . rename_i h;exact yI h
 . exact Le.refl _
theorem sL (m i j:Nat):Le (dm c (m+1) i j) (bs (dm c m i m) (dm c m m j)):=by
 show Le (if _ then _ else _) _
 split
 . exact Le.refl _
 . rename_i h;cases q:tgt (bs (dm c m i m) (dm c m m j)) (dm c m i j) with
   | true=>exact absurd q h
   | false=>exact q
theorem ly (m i j:Nat):dm c (m+1) i j=dm c m i j \/ dm c (m+1) i j=bs (dm c m i m) (dm c m m j):=by
 show (if _ then _ else _)=_ \/ (if _ then _ else _)=_
 split
 . exact .inr rfl
 . exact .inl rfl
structure Fw (c:Nat->Nat->Bn) (n m:Nat):Prop where
 dia:∀ i,i < n->dm c m i i=b0
 clo:∀ k,k < m->∀ i j,i < n->j < n->Le (dm c m i j) (bs (dm c m i k) (dm c m k j))
theorem Da (h:∀ i,i < n->c i i=b0):Fw c n 0:=⟨h,fun k hk=>by omega⟩
theorem Fg {m:Nat} (w:Fw c n m) (hm:m < n) (j:Nat):dm c (m+1) m j=dm c m m j:=by
 rcases ly (c:=c) m m j with h | h
 . exact h
 . rw [h,w.dia m hm,j3]
theorem Fh {m:Nat} (w:Fw c n m) (hm:m < n) (i:Nat):dm c (m+1) i m=dm c m i m:=by
 rcases ly (c:=c) m i m with h | h
 . exact h
 . rw [h,w.dia m hm,dJ]
theorem Db {m:Nat} (w:Fw c n m) (hm:m < n) (ok:∀ i,i < n->Nn (bs (dm c m i m) (dm c m m i))):Fw c n (m+1):=by
 refine ⟨fun i hi=>?_,fun k hk i j hi hj=>?_⟩
 . refine Le.antisymm ((Bt m i i).trans (by rw [w.dia i hi];exact Le.refl _)) ?_
   rcases ly (c:=c) m i i with h | h
   . rw [h,w.dia i hi];exact Le.refl _
   . rw [h];exact ok i hi
 . by_cases hkm:k=m
   . subst hkm;rw [Fh w hm,Fg w hm];exact sL k i j
   . have hkm:k < m:=by omega
     have hkn:k < n:=by omega
     have mid:Le (bs (dm c m i m) (dm c m m j)) (bs (bs (dm c m i m) (dm c m m k)) (dm c m k j)):=by
      rw [eM];exact Le.sum (Le.refl _) (w.clo k hkm m j hm hj)
     have mid2:Le (bs (dm c m i m) (dm c m m j)) (bs (dm c m i k) (bs (dm c m k m) (dm c m m j))):=by
      rw [<- eM];exact Le.sum (w.clo k hkm i m hi hm) (Le.refl _)
     rcases ly (c:=c) m i k with h1 | h1 <;> rcases ly (c:=c) m k j with h2 | h2 <;> rw [h1,h2]
     . exact (Bt m i j).trans (w.clo k hkm i j hi hj)
     . exact (sL m i j).trans mid2
     . exact (sL m i j).trans mid
     . refine (sL m i j).trans ?_;have z:Nn (bs (dm c m m k) (dm c m k m)):=by
        have:=w.clo k hkm m m hm hm;rw [w.dia m hm] at this;exact this
       have e:bs (bs (dm c m i m) (dm c m m k)) (bs (dm c m k m) (dm c m m j))=bs (dm c m i m) (bs (bs (dm c m m k) (dm c m k m)) (dm c m m j)):=by
        rw [eM,eM]
       rw [e];refine Le.sum (Le.refl _) ?_;have:=Le.sum z (Le.refl (dm c m m j));rw [j3] at this;exact this
variable (c) in
def wt:List Nat->Bn
 | []=>b0
 | [_]=>b0
 | a :: b :: r=>bs (c a b) (wt (b :: r))
theorem nR:∀ (xs:List Nat) (v:Nat) (ys:List Nat),wt c (xs++v :: ys)=bs (wt c (xs++[v])) (wt c (v :: ys))
 | [],v,ys=>by
  show wt c (v :: ys)=bs b0 (wt c (v :: ys));rw [j3]
 | [a],v,ys=>by
  show bs (c a v) (wt c (v :: ys))=bs (bs (c a v) b0) (wt c (v :: ys));rw [dJ]
 | a :: b :: xs,v,ys=>by
  show bs (c a b) (wt c ((b :: xs)++v :: ys))=bs (bs (c a b) (wt c ((b :: xs)++[v]))) (wt c (v :: ys));rw [nR (b :: xs) v ys,eM]
theorem Bu (a z:Nat):∀ k,Le (dm c k a z) (c a z)
 | 0=>Le.refl _
 | k+1=>(Bt k a z).trans (Bu a z k)
theorem sY {m:Nat} (w:Fw c n m) (hm:m<=n):∀ (xs:List Nat) (a z:Nat),a < n->z < n->(∀ x∈xs,x < m)->Le (dm c m a z) (wt c (a :: (xs++[z])))
 | [],a,z,ha,hz,_=>by
  show Le _ (bs (c a z) b0);rw [dJ];exact Bu a z m
 | x :: xs,a,z,ha,hz,h=>by
  have hx:=h x Zk;have ih:=sY w hm xs x z (by omega) hz fun y my=>h y (Zl _ my)
  show Le _ (bs (c a x) (wt c (x :: (xs++[z]))));exact (w.clo x hx a z ha hz).trans (Le.sum (Bu a x m) ih)
structure Way (c:Nat->Nat->Bn) (n m i j:Nat) (p:List Nat):Prop where
 hd:∃ xs,p=i :: xs/\∀ x∈xs,x < m
 nd:i ≠ j->(p++[j]).Nodup
 sm:wt c (p++[j])=dm c m i j
theorem Way.lt {m i j:Nat} {p:List Nat} (w:Way c n m i j p) (hi:i < n) (hm:m<=n):∀ x∈p,x < n:=fun x mx=>by
 obtain ⟨xs,rfl,h⟩:=w.hd;rcases Zq.mp mx with e | e
 . omega
 . have:=h x e;omega
theorem GI {m i j v:Nat} {p q:List Nat} (w:Fw c n m) (hm:m < n) (hi:i < n) (hj:j < n) (wp:Way c n m i m p) (wq:Way c n m m j q) (hv:v < m) (vp:v∈p) (vq:v∈q++[j]) :
 Le (bs (dm c m i v) (dm c m v j)) (bs (dm c m i m) (dm c m m j)):=by
 have hvn:v < n:=by omega
 obtain ⟨xs,rfl,hx⟩:=wp.hd;obtain ⟨ys,rfl,hy⟩:=wq.hd;have c1:Le (bs (dm c m i v) (dm c m v m)) (dm c m i m):=by
  rcases Zq.mp vp with e | e
  . subst e;rw [w.dia v hvn,j3];exact Le.refl _
  . obtain ⟨s,t,rfl⟩:=List.append_of_mem e;rw [<- wp.sm];have e1:i :: (s++v :: t)++[m]=(i :: s)++v :: (t++[m]):=by simp
    rw [e1,nR];exact Le.sum (sY w (by omega) s i v hi hvn fun x mx=>hx x (Zy _ mx)) (sY w (by omega) t v m hvn hm fun x mx=>hx x (Zx _ (Zl _ mx)))
 have c2:Le (bs (dm c m m v) (dm c m v j)) (dm c m m j):=by
  rcases Zp.mp vq with e | e
  . rcases Zq.mp e with e | e
    . omega
    . obtain ⟨s,t,rfl⟩:=List.append_of_mem e;rw [<- wq.sm];have e1:m :: (s++v :: t)++[j]=(m :: s)++v :: (t++[j]):=by simp
      rw [e1,nR];exact Le.sum (sY w (by omega) s m v hm hvn fun x mx=>hy x (Zy _ mx)) (sY w (by omega) t v j hvn hj fun x mx=>hy x (Zx _ (Zl _ mx)))
  . have:v=j:=by simpa using e
    subst this;rw [w.dia v hvn,dJ];exact Le.refl _
 refine Le.trans ?_ (Le.sum c1 c2);have z:Nn (bs (dm c m v m) (dm c m m v)):=by
  have:=w.clo v hv m m hm hm;rw [w.dia m hm,sU] at this;exact this
 have e:bs (bs (dm c m i v) (dm c m v m)) (bs (dm c m m v) (dm c m v j))=bs (dm c m i v) (bs (bs (dm c m v m) (dm c m m v)) (dm c m v j)):=by
  rw [eM,eM]
 rw [e];refine Le.sum (Le.refl _) ?_;have:=Le.sum z (Le.refl (dm c m v j));rw [j3] at this;exact this
theorem oH {p q:List Nat} (h:p.Nodup) (g:q.Nodup) (d:∀ x,x∈p->x ∉ q):(p++q).Nodup:=List.nodup_append.mpr ⟨h,g,fun x hx y hy e=>by subst e;exact d x hx hy⟩
theorem zq {m i j:Nat} {p:List Nat} (w:Way c n m i j p) (e:dm c (m+1) i j=dm c m i j):Way c n (m+1) i j p:=by
 obtain ⟨xs,h,hx⟩:=w.hd;exact ⟨⟨xs,h,fun x mx=>Nat.lt_succ_of_lt (hx x mx)⟩,w.nd,w.sm.trans e.symm⟩
theorem BO {m i j:Nat} {p q:List Nat} (w:Fw c n m) (hm:m < n) (hi:i < n) (hj:j < n) (wp:Way c n m i m p) (wq:Way c n m m j q) (ok:Nn (bs (dm c m i m) (dm c m m i))) (t:tgt (bs (dm c m i m) (dm c m m j)) (dm c m i j)=true):Way c n (m+1) i j (p++q):=by
 have him:i ≠ m:=fun e=>by
  subst e;rw [w.dia i hi,j3,jg] at t;cases t
 have hmj:m ≠ j:=fun e=>by
  subst e;rw [w.dia m hm,dJ,jg] at t;cases t
 have e1:dm c (m+1) i j=bs (dm c m i m) (dm c m m j):=if_pos t;have ndp:=List.nodup_append.mp (wp.nd him);have ndq:=wq.nd hmj;obtain ⟨xs,ep,hx⟩:=wp.hd;obtain ⟨ys,eq,hy⟩:=wq.hd;refine ⟨⟨xs++q,by rw [ep];rfl,fun x mx=>?_⟩,fun hij=>?_,?_⟩
 . rcases Zp.mp mx with z | z
   . have:=hx x z;omega
   . rw [eq] at z;rcases Zq.mp z with z | z
     . omega
     . have:=hy x z;omega
 . rw [List.append_assoc];refine oH ndp.1 ndq fun v vp vq=>?_
   have no:∀ v,v < m->v∈p->v∈q++[j]->False:=fun v hv vp vq=>by
    have h1:=GI w hm hi hj wp wq hv vp vq;have h2:=(w.clo v hv i j hi hj).trans h1;unfold Le at h2;rw [t] at h2;cases h2
   have vm:v ≠ m:=fun e=>ndp.2.2 v vp m (by simp) e
   have vp':=vp;rw [ep] at vp';rcases Zq.mp vp' with e | e
   . -- v is i
     subst e;rcases Zp.mp vq with z | z
     . rw [eq] at z;rcases Zq.mp z with z | z
       . exact vm z
       . exact no v (hy v z) vp vq
     . exact hij (by simpa using z)
   . exact no v (hx v e) vp vq
 . rw [List.append_assoc];rw [eq];rw [List.cons_append,nR,<- List.cons_append,<- eq,wp.sm,wq.sm,e1]
theorem B7 {m i:Nat} {p q:List Nat} (w:Fw c n m) (hm:m < n) (hi:i < n) (wp:Way c n m i m p) (wq:Way c n m m i q) (bad:¬ Nn (bs (dm c m i m) (dm c m m i))):(p++q).Nodup/\i ≠ m/\wt c (p++q++[i])=bs (dm c m i m) (dm c m m i):=by
 have him:i ≠ m:=fun e=>bad (by subst e;rw [w.dia i hi,j3];exact Le.refl _)
 have ndp:=List.nodup_append.mp (wp.nd him);have ndq:=List.nodup_append.mp (wq.nd (Ne.symm him));obtain ⟨xs,ep,hx⟩:=wp.hd;obtain ⟨ys,eq,hy⟩:=wq.hd;refine ⟨oH ndp.1 ndq.1 fun v vp vq=>?_,him,?_⟩
 . have vm:v ≠ m:=fun e=>ndp.2.2 v vp m (by simp) e
   have hv:v < m:=by
    rw [eq] at vq;rcases Zq.mp vq with z | z
    . exact absurd z vm
    . exact hy v z
   have h1:=GI w hm hi hi wp wq hv vp (Zy _ vq);have h2:=w.clo v hv i i hi hi;rw [w.dia i hi] at h2;exact bad (h2.trans h1)
 . rw [List.append_assoc,eq,List.cons_append,nR,<- List.cons_append,<- eq,wp.sm,wq.sm]
theorem zp (i j:Nat):Way c n 0 i j [i]:=⟨⟨[],rfl,fun _ m=>nomatch m⟩,fun h=>by simp [h],by show bs (c i j) b0=c i j;rw [dJ]⟩
end
def tg2 (a b:Bn):Bn:=if tgt b a then b else a
def sqf (f:Nat->Nat->Bn) (i j:Nat) (ms:List Nat) (x:Bn):Bn:=ms.foldl (fun x m=>tg2 x (bs (f i m) (f m j))) x
def sq (n:Nat) (f:Nat->Nat->Bn) (i j:Nat):Bn:=sqf f i j (List.range n) (f i j)
section
variable {c:Nat->Nat->Bn} {n:Nat}
theorem gy:∀ (n:Nat) (p:List Nat),p.Nodup->(∀ x∈p,x < n)->p.length<=n
 | 0,[],_,_=>ZG _
 | 0,x :: p,_,h=>absurd (h x Zk) (by omega)
 | n+1,p,nd,h=>by
  have ih:=gy n (p.erase n) (nd.erase n) fun x m=>by
   have m':=(List.Nodup.mem_erase_iff nd).mp m;have:=h x m'.2;omega
  have:=List.length_erase (a:=n) (l:=p);split at this <;> omega
end
end Mth
namespace Mth
theorem jy (n:Int):Rat.divInt n 1=(n:Rat):=by simp [Rat.divInt,Rat.mkRat_one]
def vl (p:Int×Int):Rat:=Rat.divInt p.1 p.2
theorem wD {t b:Int} (h:0 < b):vl (rd t b)=Rat.divInt t b:=by
 unfold vl;have l:=(oo (t:=t) h).pos;rw [Rat.divInt_eq_divInt_iff (by omega) (by omega)]
 exact tK
theorem sZ {p q:Int×Int} (hp:0 < p.2) (hq:0 < q.2):vl (pl p q)=vl p+vl q:=by
 unfold pl;rw [wD (Int.mul_pos hp hq)];unfold vl;rw [Rat.divInt_add_divInt _ _ (by omega) (by omega)]
theorem jT {p q:Int×Int} (hp:0 < p.2) (hq:0 < q.2):vl (mi p q)=vl p - vl q:=by
 unfold mi;rw [wD (Int.mul_pos hp hq)];unfold vl;rw [Rat.divInt_sub_divInt _ _ (by omega) (by omega)]
theorem FR {p q:Int×Int} (hp:0 < p.2) (hq:0 < q.2):vl (ti p q)=vl p*vl q:=by
 unfold ti;rw [wD (Int.mul_pos hp hq)];unfold vl;rw [Rat.divInt_mul_divInt]
theorem cv (n:Int):vl (n,1)=(n:Rat):=by
 unfold vl;exact jy n
theorem pp {t b:Int} (hb:0 < b):0 < Rat.divInt t b <-> 0 < t:=by
 have hb':(0:Rat) < (b:Rat):=by
  have:=(Rat.intCast_lt_intCast (a:=0) (b:=b)).mpr hb;simpa using this
 have e:Rat.divInt t b*(b:Rat)=(t:Rat):=by
  have h1:(b:Rat)=Rat.divInt b 1:=(jy b).symm;have h2:(t:Rat)=Rat.divInt t 1:=(jy t).symm;rw [h1,h2,Rat.divInt_mul_divInt,Rat.divInt_eq_divInt_iff (by omega) (by omega)]
  grind
 constructor
 . intro h;have:=Rat.mul_pos h hb';rw [e] at this;exact (Rat.intCast_lt_intCast (a:=0)).mp (by simpa using this)
 . intro h;have ht:(0:Rat) < (t:Rat):=by
    have:=(Rat.intCast_lt_intCast (a:=0) (b:=t)).mpr h;simpa using this
   rw [<- e] at ht
   by_cases q:0 < Rat.divInt t b
   . exact q
   . have:Rat.divInt t b*(b:Rat)<=0:=by
      have h3:Rat.divInt t b<=0:=by grind
      have:=Rat.mul_le_mul_of_nonneg_right h3 (Rat.le_of_lt hb')
      grind
     grind
theorem l6 {p q:Int×Int} (hp:0 < p.2) (hq:0 < q.2):vl p < vl q <-> p.1*q.2 < q.1*p.2:=by
 have h:=pp (t:=q.1*p.2 - p.1*q.2) (b:=q.2*p.2) (Int.mul_pos hq hp);have e:Rat.divInt (q.1*p.2 - p.1*q.2) (q.2*p.2)=vl q - vl p:=by
  unfold vl;rw [Rat.divInt_sub_divInt _ _ (by omega) (by omega)]
 rw [e] at h;constructor
 . intro g;have:=h.mp (by grind)
   omega
 . intro g;have:=h.mpr (by omega)
   grind
def Kq (x:Rat):Bn->Prop
 | none=>True
 | some (n,true)=>x < (n:Rat)
 | some (n,false)=>x<=(n:Rat)
theorem DW {p:Int×Int} {b:Bn} (hp:0 < p.2):kp p b=true <-> Kq (vl p) b:=by
 rw [AR];rcases b with _ | ⟨n,s⟩
 . exact Iff.rfl
 have h1:=l6 (p:=p) (q:=(n,1)) hp (show (0:Int) < 1 by decide)
 have h2:=l6 (p:=(n,1)) (q:=p) (show (0:Int) < 1 by decide) hp
 rw [cv] at h1 h2;cases s with
 | true =>
  show p.1 < n*p.2 <-> vl p < (n:Rat);rw [h1];simp
 | false =>
  show p.1<=n*p.2 <-> vl p<=(n:Rat);constructor
  . intro g;have:¬ (n:Rat) < vl p:=fun z=>by
     have:=h2.mp z;simp at this;omega
    grind
  . intro g
    by_cases z:n*p.2 < p.1
    . have:=h2.mpr (by simpa using z)
      grind
    . omega
theorem Kq.sum {x y:Rat} {a b:Bn} (h:Kq x a) (g:Kq y b):Kq (x+y) (bs a b):=by
 rcases a with _ | ⟨n,s⟩
 . trivial
 rcases b with _ | ⟨m,t⟩
 . trivial
 cases s <;> cases t
 . show x+y<=((n+m:Int):Rat);have h':x<=(n:Rat):=h;have g':y<=(m:Rat):=g;rw [Rat.intCast_add]
   grind
 . show x+y < ((n+m:Int):Rat);have h':x<=(n:Rat):=h;have g':y < (m:Rat):=g;rw [Rat.intCast_add]
   grind
 . show x+y < ((n+m:Int):Rat);have h':x < (n:Rat):=h;have g':y<=(m:Rat):=g;rw [Rat.intCast_add]
   grind
 . show x+y < ((n+m:Int):Rat);have h':x < (n:Rat):=h;have g':y < (m:Rat):=g;rw [Rat.intCast_add]
   grind
theorem Kq.le {x:Rat} {a b:Bn} (h:Kq x a) (g:Le a b):Kq x b:=by
 rcases b with _ | ⟨m,t⟩
 . trivial
 rcases a with _ | ⟨n,s⟩
 . exact absurd g cZ
 rw [mG] at g;have mn:n<=m->(n:Rat)<=(m:Rat):=fun z=>Rat.intCast_le_intCast.mpr z
 have ml:n < m->(n:Rat) < (m:Rat):=fun z=>Rat.intCast_lt_intCast.mpr z
 cases s <;> cases t
 . have h':x<=(n:Rat):=h;show x<=(m:Rat);have:=mn (by omega)
   grind
 . have h':x<=(n:Rat):=h;show x < (m:Rat);rcases g with g | ⟨_,g⟩
   . have:=ml g
     grind
   . exact absurd (g rfl) (by decide)
 . have h':x < (n:Rat):=h;show x<=(m:Rat);have:=mn (by omega)
   grind
 . have h':x < (n:Rat):=h;show x < (m:Rat);have:=mn (by omega)
   grind
theorem k6 {a:Bn}:Kq 0 a <-> Nn a:=by
 rw [<- nn_kp,DW (by decide)]
 have:vl (0,1)=0:=by rw [cv];rfl
 rw [this]
def Li (c:Nat->Nat->Bn) (n:Nat) (x:Nat->Rat):Prop:=∀ i j,i < n->j < n->Kq (x i - x j) (c i j)
section
variable {c:Nat->Nat->Bn} {n:Nat} {x:Nat->Rat}
theorem AL (h:Li c n x):∀ m,m<=n->Li (dm c m) n x
 | 0,_=>h
 | m+1,hm=>fun i j hi hj=>by
  have ih:=AL h m (by omega)
  rcases ly (c:=c) m i j with e | e
  . rw [e];exact ih i j hi hj
  . rw [e];have:=(ih i m hi (by omega)).sum (ih m j (by omega) hj)
    have e2:x i - x m+(x m - x j)=x i - x j:=by grind
    rw [e2] at this;exact this
theorem AK {m:Nat} (h:Li (dm c m) n x):Li c n x:=fun i j hi hj=>(h i j hi hj).le (Bu i j m)
theorem GJ {m i:Nat} (hm:m < n) (hi:i < n) (bad:¬ Nn (bs (dm c m i m) (dm c m m i))):¬ Li c n x:=fun h=>by
 have d:=AL h m (by omega)
 have:=(d i m hi hm).sum (d m i hm hi);have e2:x i - x m+(x m - x i)=0:=by grind
 rw [e2,k6] at this;exact bad this
theorem CT {i:Nat} (hi:i < n) (h:Li c n x):Nn (c i i):=by
 have:=h i i hi hi;have e2:x i - x i=0:=by grind
 rw [e2,k6] at this;exact this
def iA (x:Nat->Rat) (d:Nat->Nat->Bn) (t j:Nat):Option Rat:=match d j t with
 | none=>none
 | some (k,_)=>some (x j - (k:Rat))
def eD (x:Nat->Rat) (d:Nat->Nat->Bn) (t j:Nat):Option Rat:=match d t j with
 | none=>none
 | some (k,_)=>some (x j+(k:Rat))
theorem oM {d:Nat->Nat->Bn} {t i j:Nat} {lo hi:Rat} (hij:Kq (x i - x j) (d i j)) (clo:Le (d i j) (bs (d i t) (d t j))) (h1:iA x d t i=some lo) (h2:eD x d t j=some hi):lo<=hi/\((∃ k,d i t=some (k,true)) \/ (∃ k,d t j=some (k,true))->lo < hi):=by
 have s:=hij.le clo;unfold iA at h1;unfold eD at h2;rcases e1:d i t with _ | ⟨k,s1⟩
 . rw [e1] at h1;cases h1
 rcases e2:d t j with _ | ⟨l,s2⟩
 . rw [e2] at h2;cases h2
 rw [e1] at h1;rw [e2] at h2;cases h1;cases h2;rw [e1,e2] at s;have s':Kq (x i - x j) (some (k+l,s1 || s2)):=s
 cases s1 <;> cases s2
 . have z:x i - x j<=((k+l:Int):Rat):=s';rw [Rat.intCast_add] at z;refine ⟨by grind,fun w=>?_⟩
   rcases w with ⟨_,w⟩ | ⟨_,w⟩ <;> cases w
 . have z:x i - x j < ((k+l:Int):Rat):=s';rw [Rat.intCast_add] at z;exact ⟨by grind,fun _=>by grind⟩
 . have z:x i - x j < ((k+l:Int):Rat):=s';rw [Rat.intCast_add] at z;exact ⟨by grind,fun _=>by grind⟩
 . have z:x i - x j < ((k+l:Int):Rat):=s';rw [Rat.intCast_add] at z;exact ⟨by grind,fun _=>by grind⟩
theorem qE {d:Nat->Nat->Bn} {t j:Nat} {y lo:Rat} (h1:iA x d t j=some lo) (h2:lo<=y) (h3:(∃ k,d j t=some (k,true))->lo < y):Kq (x j - y) (d j t):=by
 unfold iA at h1;rcases e1:d j t with _ | ⟨k,s⟩
 . trivial
 rw [e1] at h1;cases h1;cases s
 . show x j - y<=(k:Rat)
   grind
 . have:=h3 ⟨k,e1⟩;show x j - y < (k:Rat)
   grind
theorem oR {d:Nat->Nat->Bn} {t j:Nat} {y hi:Rat} (h1:eD x d t j=some hi) (h2:y<=hi) (h3:(∃ k,d t j=some (k,true))->y < hi):Kq (y - x j) (d t j):=by
 unfold eD at h1;rcases e1:d t j with _ | ⟨k,s⟩
 . trivial
 rw [e1] at h1;cases h1;cases s
 . show y - x j<=(k:Rat)
   grind
 . have:=h3 ⟨k,e1⟩;show y - x j < (k:Rat)
   grind
end
end Mth
namespace Mth
def btw (lo hi:Option (Int×Int)):Int×Int:=match lo,hi with
 | none,none=>(0,1)
 | none,some h=>mi h (1,1)
 | some l,none=>pl l (1,1)
 | some l,some h=>ti (pl l h) (1,2)
def gre:List (Int×Int)->Option (Int×Int)->Option (Int×Int)
 | [],o=>o
 | p :: ps,none=>gre ps (some p)
 | p :: ps,some q=>gre ps (some (if q.1*p.2 < p.1*q.2 then p else q))
def lea:List (Int×Int)->Option (Int×Int)->Option (Int×Int)
 | [],o=>o
 | p :: ps,none=>lea ps (some p)
 | p :: ps,some q=>lea ps (some (if p.1*q.2 < q.1*p.2 then p else q))
theorem oX:∀ {ps:List (Int×Int)} {q:Int×Int},(∀ p∈ps,0 < p.2)->0 < q.2->∃ g,gre ps (some q)=some g/\(g=q \/ g∈ps)/\vl q<=vl g/\∀ p∈ps,vl p<=vl g
 | [],q,_,_=>⟨q,rfl,.inl rfl,Rat.le_refl,fun p m=>nomatch m⟩
 | p :: ps,q,hp,hq=>by
  have h1:=hp p Zk;have h2:∀ r∈ps,0 < r.2:=fun r m=>hp r (Zl _ m)
  show ∃ g,gre ps (some (if q.1*p.2 < p.1*q.2 then p else q))=some g/\_
  by_cases h:q.1*p.2 < p.1*q.2
  . rw [if_pos h];obtain ⟨g,e,m,a,b⟩:=oX h2 h1;have l:=(l6 hq h1).mpr h;refine ⟨g,e,.inr ?_,Rat.le_trans (Rat.le_of_lt l) a,fun r mr=>?_⟩
    . rcases m with m | m
      . rw [m];exact Zk
      . exact Zl _ m
    . rcases Zq.mp mr with z | z
      . rw [z];exact a
      . exact b r z
  . rw [if_neg h];obtain ⟨g,e,m,a,b⟩:=oX h2 hq;have l:vl p<=vl q:=Rat.not_lt.mp fun z=>h ((l6 hq h1).mp z)
    refine ⟨g,e,?_,a,fun r mr=>?_⟩
    . rcases m with m | m
      . exact .inl m
      . exact .inr (Zl _ m)
    . rcases Zq.mp mr with z | z
      . rw [z];exact Rat.le_trans l a
      . exact b r z
theorem oN:∀ {ps:List (Int×Int)} {q:Int×Int},(∀ p∈ps,0 < p.2)->0 < q.2->∃ g,lea ps (some q)=some g/\(g=q \/ g∈ps)/\vl g<=vl q/\∀ p∈ps,vl g<=vl p
 | [],q,_,_=>⟨q,rfl,.inl rfl,Rat.le_refl,fun p m=>nomatch m⟩
 | p :: ps,q,hp,hq=>by
  have h1:=hp p Zk;have h2:∀ r∈ps,0 < r.2:=fun r m=>hp r (Zl _ m)
  show ∃ g,lea ps (some (if p.1*q.2 < q.1*p.2 then p else q))=some g/\_
  by_cases h:p.1*q.2 < q.1*p.2
  . rw [if_pos h];obtain ⟨g,e,m,a,b⟩:=oN h2 h1;have l:=(l6 h1 hq).mpr h;refine ⟨g,e,.inr ?_,Rat.le_trans a (Rat.le_of_lt l),fun r mr=>?_⟩
    . rcases m with m | m
      . rw [m];exact Zk
      . exact Zl _ m
    . rcases Zq.mp mr with z | z
      . rw [z];exact a
      . exact b r z
  . rw [if_neg h];obtain ⟨g,e,m,a,b⟩:=oN h2 hq;have l:vl q<=vl p:=Rat.not_lt.mp fun z=>h ((l6 h1 hq).mp z)
    refine ⟨g,e,?_,a,fun r mr=>?_⟩
    . rcases m with m | m
      . exact .inl m
      . exact .inr (Zl _ m)
    . rcases Zq.mp mr with z | z
      . rw [z];exact Rat.le_trans a l
      . exact b r z
theorem ux {ps:List (Int×Int)} (hp:∀ p∈ps,0 < p.2):(ps=[]/\gre ps none=none) \/ ∃ g,gre ps none=some g/\g∈ps/\∀ p∈ps,vl p<=vl g:=by
 cases ps with
 | nil=>exact .inl ⟨rfl,rfl⟩
 | cons p ps =>
  obtain ⟨g,e,m,a,b⟩:=oX (fun r m=>hp r (Zl _ m)) (hp p Zk)
  refine .inr ⟨g,e,?_,fun r mr=>?_⟩
  . rcases m with m | m
    . rw [m];exact Zk
    . exact Zl _ m
  . rcases Zq.mp mr with z | z
    . rw [z];exact a
    . exact b r z
theorem ug {ps:List (Int×Int)} (hp:∀ p∈ps,0 < p.2):(ps=[]/\lea ps none=none) \/ ∃ g,lea ps none=some g/\g∈ps/\∀ p∈ps,vl g<=vl p:=by
 cases ps with
 | nil=>exact .inl ⟨rfl,rfl⟩
 | cons p ps =>
  obtain ⟨g,e,m,a,b⟩:=oN (fun r m=>hp r (Zl _ m)) (hp p Zk)
  refine .inr ⟨g,e,?_,fun r mr=>?_⟩
  . rcases m with m | m
    . rw [m];exact Zk
    . exact Zl _ m
  . rcases Zq.mp mr with z | z
    . rw [z];exact a
    . exact b r z
abbrev Pl:=List (Nat×(Int×Int))
def dN (d:Nat->Nat->Bn) (ps:Pl) (t:Nat):List (Int×Int):=ps.filterMap fun p=>(d p.1 t).map fun b=>mi p.2 (b.1,1)
def dc (d:Nat->Nat->Bn) (ps:Pl) (t:Nat):List (Int×Int):=ps.filterMap fun p=>(d t p.1).map fun b=>pl p.2 (b.1,1)
def dO (d:Nat->Nat->Bn) (ps:Pl) (t:Nat):Int×Int:=btw (gre (dN d ps t) none) (lea (dc d ps t) none)
section
variable {d:Nat->Nat->Bn} {ps:Pl} {t:Nat} {x:Nat->Rat}
theorem xt {g:Int×Int} (hp:∀ p∈ps,0 < p.2.2) (hx:∀ p∈ps,x p.1=vl p.2) (m:g∈dN d ps t):0 < g.2/\∃ p∈ps,iA x d t p.1=some (vl g):=by
 obtain ⟨p,mp,e⟩:=List.mem_filterMap.mp m;rcases q:d p.1 t with _ | ⟨k,s⟩
 . rw [q] at e;cases e
 . rw [q] at e;cases e;refine ⟨(xq (hp p mp) Int.zero_lt_one).pos,p,mp,?_⟩;unfold iA;rw [q];show some (x p.1 - (k:Rat))=_;rw [jT (hp p mp) Int.zero_lt_one,cv,hx p mp]
theorem uw {g:Int×Int} (hp:∀ p∈ps,0 < p.2.2) (hx:∀ p∈ps,x p.1=vl p.2) (m:g∈dc d ps t):0 < g.2/\∃ p∈ps,eD x d t p.1=some (vl g):=by
 obtain ⟨p,mp,e⟩:=List.mem_filterMap.mp m;rcases q:d t p.1 with _ | ⟨k,s⟩
 . rw [q] at e;cases e
 . rw [q] at e;cases e;refine ⟨(ox (hp p mp) Int.zero_lt_one).pos,p,mp,?_⟩;unfold eD;rw [q];show some (x p.1+(k:Rat))=_;rw [sZ (hp p mp) Int.zero_lt_one,cv,hx p mp]
theorem r8 {p:Nat×(Int×Int)} {lo:Rat} (hp:∀ p∈ps,0 < p.2.2) (hx:∀ p∈ps,x p.1=vl p.2) (m:p∈ps) (h:iA x d t p.1=some lo):∃ g∈dN d ps t,vl g=lo:=by
 unfold iA at h;rcases q:d p.1 t with _ | ⟨k,s⟩
 . rw [q] at h;cases h
 . rw [q] at h;cases h;refine ⟨mi p.2 (k,1),List.mem_filterMap.mpr ⟨p,m,by rw [q];rfl⟩,?_⟩
   rw [jT (hp p m) Int.zero_lt_one,cv,hx p m]
theorem lb {p:Nat×(Int×Int)} {hi:Rat} (hp:∀ p∈ps,0 < p.2.2) (hx:∀ p∈ps,x p.1=vl p.2) (m:p∈ps) (h:eD x d t p.1=some hi):∃ g∈dc d ps t,vl g=hi:=by
 unfold eD at h;rcases q:d t p.1 with _ | ⟨k,s⟩
 . rw [q] at h;cases h
 . rw [q] at h;cases h;refine ⟨pl p.2 (k,1),List.mem_filterMap.mpr ⟨p,m,by rw [q];rfl⟩,?_⟩
   rw [sZ (hp p m) Int.zero_lt_one,cv,hx p m]
theorem wE {l h:Int×Int} (hl:0 < l.2) (hh:0 < h.2):vl (ti (pl l h) (1,2))+vl (ti (pl l h) (1,2))=vl l+vl h:=by
 rw [FR (ox hl hh).pos (by decide),sZ hl hh]
 have:vl (1,2)=1 / 2:=by unfold vl;rw [Rat.divInt_eq_div];rfl
 rw [this]
 grind
theorem yf (hp:∀ p∈ps,0 < p.2.2) (hx:∀ p∈ps,x p.1=vl p.2) (am:∀ p∈ps,∀ q∈ps,Kq (x p.1 - x q.1) (d p.1 q.1)) (clo:∀ p∈ps,∀ q∈ps,Le (d p.1 q.1) (bs (d p.1 t) (d t q.1))) :
 0 < (dO d ps t).2/\∀ p∈ps,Kq (x p.1 - vl (dO d ps t)) (d p.1 t)/\Kq (vl (dO d ps t) - x p.1) (d t p.1):=by
 have lp:∀ g∈dN d ps t,0 < g.2:=fun g m=>(xt hp hx m).1
 have hpp:∀ g∈dc d ps t,0 < g.2:=fun g m=>(uw hp hx m).1
 unfold dO;rcases ux lp with ⟨le,lo⟩ | ⟨l,lo,ml,la⟩
 . have nl:∀ p∈ps,d p.1 t=none:=fun p m=>by
    cases q:d p.1 t with
    | none=>rfl
    | some b =>
     obtain ⟨g,mg,_⟩:=r8 (d:=d) (t:=t) (lo:=x p.1 - (b.1:Rat)) hp hx m (by unfold iA;rw [q])
     rw [le] at mg;cases mg
   rcases ug hpp with ⟨he,hi⟩ | ⟨h,hi,mh,ha⟩
   . have nh:∀ p∈ps,d t p.1=none:=fun p m=>by
      cases q:d t p.1 with
      | none=>rfl
      | some b =>
       obtain ⟨g,mg,_⟩:=lb (d:=d) (t:=t) (hi:=x p.1+(b.1:Rat)) hp hx m (by unfold eD;rw [q])
       rw [he] at mg;cases mg
     rw [lo,hi];exact ⟨by decide,fun p m=>by rw [nl p m,nh p m];exact ⟨trivial,trivial⟩⟩
   . rw [lo,hi];have e:vl (btw none (some h))=vl h - 1:=by
      show vl (mi h (1,1))=_;rw [jT (hpp h mh) (by decide),cv];rfl
     refine ⟨(xq (hpp h mh) (by decide)).pos,fun p m=>⟨by rw [nl p m];trivial,?_⟩⟩
     rw [e];cases q:eD x d t p.1 with
     | none =>
      unfold eD at q;cases q2:d t p.1 with
      | none=>trivial
      | some b=>rw [q2] at q;cases q
     | some u =>
      obtain ⟨g,mg,eg⟩:=lb hp hx m q;have:=ha g mg;exact oR q (by grind) (fun _=>by grind)
 . rcases ug hpp with ⟨he,hi⟩ | ⟨h,hi,mh,ha⟩
   . have nh:∀ p∈ps,d t p.1=none:=fun p m=>by
      cases q:d t p.1 with
      | none=>rfl
      | some b =>
       obtain ⟨g,mg,_⟩:=lb (d:=d) (t:=t) (hi:=x p.1+(b.1:Rat)) hp hx m (by unfold eD;rw [q])
       rw [he] at mg;cases mg
     rw [lo,hi];have e:vl (btw (some l) none)=vl l+1:=by
      show vl (pl l (1,1))=_;rw [sZ (lp l ml) (by decide),cv];rfl
     refine ⟨(ox (lp l ml) (by decide)).pos,fun p m=>⟨?_,by rw [nh p m];trivial⟩⟩
     rw [e];cases q:iA x d t p.1 with
     | none =>
      unfold iA at q;cases q2:d p.1 t with
      | none=>trivial
      | some b=>rw [q2] at q;cases q
     | some u =>
      obtain ⟨g,mg,eg⟩:=r8 hp hx m q;have:=la g mg;exact qE q (by grind) (fun _=>by grind)
   . rw [lo,hi];have e:=wE (lp l ml) (hpp h mh);obtain ⟨_,pl',mpl,el⟩:=xt (x:=x) hp hx ml;obtain ⟨_,ph,mph,eh⟩:=uw (x:=x) hp hx mh;have lh:=(oM (am _ mpl _ mph) (clo _ mpl _ mph) el eh).1;refine ⟨(DD (ox (lp l ml) (hpp h mh)).pos (by decide)).pos,fun p m=>⟨?_,?_⟩⟩
     . show Kq (x p.1 - vl (ti (pl l h) (1,2))) (d p.1 t);cases q:iA x d t p.1 with
       | none =>
        unfold iA at q;cases q2:d p.1 t with
        | none=>trivial
        | some b=>rw [q2] at q;cases q
       | some u =>
        obtain ⟨g,mg,eg⟩:=r8 hp hx m q;have:=la g mg;have z:=oM (am _ m _ mph) (clo _ m _ mph) q eh;refine qE q (by grind) (fun w=>?_)
        have:=z.2 (.inl w)
        grind
     . show Kq (vl (ti (pl l h) (1,2)) - x p.1) (d t p.1);cases q:eD x d t p.1 with
       | none =>
        unfold eD at q;cases q2:d t p.1 with
        | none=>trivial
        | some b=>rw [q2] at q;cases q
       | some u =>
        obtain ⟨g,mg,eg⟩:=lb hp hx m q;have:=ha g mg;have z:=oM (am _ mpl _ m) (clo _ mpl _ m) el q;refine oR q (by grind) (fun w=>?_)
        have:=z.2 (.inr w)
        grind
end
end Mth
namespace Mth
def Dy (W M:Int) (p:Int×Int):Prop:=0 < W/\Lw p/\∃ a:Int,p.1*W=a*p.2/\-(M*W)<=a/\a<=M*W
theorem Dy.w {W M:Int} {p:Int×Int} (h:Dy W M p):0 < W:=h.1
theorem Dy.lw {W M:Int} {p:Int×Int} (h:Dy W M p):Lw p:=h.2.1
theorem Dy.pos {W M:Int} {p:Int×Int} (h:Dy W M p):0 < p.2:=h.2.1.pos
theorem Dy.le {W M N:Int} {p:Int×Int} (h:Dy W M p) (e:M<=N):Dy W N p:=by
 obtain ⟨w,l,a,e1,e2,e3⟩:=h;have z:=Int.mul_le_mul_of_nonneg_right e (Int.le_of_lt w);exact ⟨w,l,a,e1,by omega,by omega⟩
theorem Dy.up {W M:Int} {p:Int×Int} (h:Dy W M p):Dy (W*2) M p:=by
 obtain ⟨w,l,a,e1,e2,e3⟩:=h;refine ⟨by omega,l,a*2,?_,?_,?_⟩
 . rw [<- Int.mul_assoc,e1,Int.mul_right_comm]
 . rw [<- Int.mul_assoc];omega
 . rw [<- Int.mul_assoc];omega
theorem xS {W M t b a:Int} (w:0 < W) (hb:0 < b) (e:t*W=a*b) (h1:-(M*W)<=a) (h2:a<=M*W):Dy W M (rd t b):=by
 refine ⟨w,zO hb,a,?_,h1,h2⟩;have c:(rd t b).1*b=t*(rd t b).2:=tK;have:((rd t b).1*W)*b=(a*(rd t b).2)*b:=by
  rw [Int.mul_right_comm,c,Int.mul_right_comm,e,Int.mul_right_comm]
 exact Int.eq_of_mul_eq_mul_right (by omega) this
theorem Dy.pl {W M N:Int} {p q:Int×Int} (h:Dy W M p) (g:Dy W N q):Dy W (M+N) (pl p q):=by
 obtain ⟨w,l,a,e1,e2,e3⟩:=h;obtain ⟨_,l',b,f1,f2,f3⟩:=g;refine xS (a:=a+b) w (Int.mul_pos l.pos l'.pos) ?_ (by rw [Int.add_mul];omega) (by rw [Int.add_mul];omega)
 have x1:p.1*q.2*W=a*p.2*q.2:=by rw [Int.mul_right_comm,e1]
 have x2:q.1*p.2*W=b*q.2*p.2:=by rw [Int.mul_right_comm,f1]
 rw [Int.add_mul,x1,x2,Int.add_mul,Int.mul_assoc,Int.mul_assoc b,Int.mul_comm q.2 p.2]
theorem Dy.mi {W M N:Int} {p q:Int×Int} (h:Dy W M p) (g:Dy W N q):Dy W (M+N) (mi p q):=by
 obtain ⟨w,l,a,e1,e2,e3⟩:=h;obtain ⟨_,l',b,f1,f2,f3⟩:=g;refine xS (a:=a - b) w (Int.mul_pos l.pos l'.pos) ?_ (by rw [Int.add_mul];omega) (by rw [Int.add_mul];omega)
 have x1:p.1*q.2*W=a*p.2*q.2:=by rw [Int.mul_right_comm,e1]
 have x2:q.1*p.2*W=b*q.2*p.2:=by rw [Int.mul_right_comm,f1]
 rw [Int.sub_mul,x1,x2,Int.sub_mul,Int.mul_assoc,Int.mul_assoc b,Int.mul_comm q.2 p.2]
theorem Dy.half {W M:Int} {p:Int×Int} (h:Dy W (M+M) p):Dy (W*2) M (ti p (1,2)):=by
 obtain ⟨w,l,a,e1,e2,e3⟩:=h;refine xS (a:=a) (by omega) (Int.mul_pos l.pos (by decide)) ?_ ?_ ?_
 . show p.1*1*(W*2)=a*(p.2*2);rw [Int.mul_one,<- Int.mul_assoc,e1,Int.mul_assoc]
 . rw [<- Int.mul_assoc];rw [Int.add_mul] at e2;omega
 . rw [<- Int.mul_assoc];rw [Int.add_mul] at e3;omega
theorem gM {n M:Int} (h1:-M<=n) (h2:n<=M) {W:Int} (w:0 < W):Dy W M (n,1):=by
 refine ⟨w,⟨by show (0:Int) < 1;decide,?_⟩,n*W,by show n*W=n*W*1;rw [Int.mul_one],?_,?_⟩
 . show gc n 1=1;unfold gc;simp
 . rw [<- Int.neg_mul];exact Int.mul_le_mul_of_nonneg_right h1 (Int.le_of_lt w)
 . exact Int.mul_le_mul_of_nonneg_right h2 (Int.le_of_lt w)
theorem Dy.dvd {W M:Int} {p:Int×Int} (h:Dy W M p):p.2 ∣ W:=by
 obtain ⟨w,l,a,e1,_⟩:=h;have d:p.2 ∣ p.1*W:=⟨a,by rw [e1,Int.mul_comm]⟩
 have g:Nat.Coprime p.2.natAbs p.1.natAbs:=by
  have:=l.one;unfold gc at this;rw [Int.gcd_comm] at this;have z:Int.gcd p.2 p.1=1:=by omega
  exact z
 have d':=Int.natAbs_dvd_natAbs.mpr d;rw [Int.natAbs_mul] at d';exact Int.natAbs_dvd_natAbs.mp (g.dvd_of_dvd_mul_left d')
theorem Dy.bot {W M:Int} {p:Int×Int} (h:Dy W M p):p.2<=W:=Int.le_of_dvd h.w h.dvd
theorem Dy.top {W M:Int} {p:Int×Int} (h:Dy W M p):-(M*W)<=p.1/\p.1<=M*W:=by
 have hb:=h.bot;obtain ⟨w,l,a,e1,e2,e3⟩:=h;have hp:=l.pos;have h2:=w;constructor
 . refine Int.not_lt.mp fun z=>?_
   have hM:(0:Int)<=M*W:=by omega
   have:p.1*W < -(M*W)*W:=Int.mul_lt_mul_of_pos_right z h2;rw [e1] at this;have q:-(M*W)*p.2<=a*p.2:=Int.mul_le_mul_of_nonneg_right e2 (by omega)
   have q2:(M*W)*p.2<=(M*W)*W:=Int.mul_le_mul_of_nonneg_left hb hM;rw [Int.neg_mul] at this q;omega
 . refine Int.not_lt.mp fun z=>?_
   have hM:(0:Int)<=M*W:=by omega
   have:(M*W)*W < p.1*W:=Int.mul_lt_mul_of_pos_right z h2;rw [e1] at this;have q:a*p.2<=(M*W)*p.2:=Int.mul_le_mul_of_nonneg_right e3 (by omega)
   have q2:(M*W)*p.2<=(M*W)*W:=Int.mul_le_mul_of_nonneg_left hb hM;omega
def Bo (N:Int):Bn->Prop
 | none=>True
 | some (k,_)=>-N<=k/\k<=N
theorem wo {W M:Int} (w:0 < W) {lo hi:Option (Int×Int)} (h0:0<=M) (h1:∀ p,lo=some p->Dy W M p) (h2:∀ p,hi=some p->Dy W M p):Dy (W*2) (M+1) (btw lo hi):=by
 cases lo with
 | none=>cases hi with
  | none=>exact gM (by omega) (by omega) (by omega)
  | some h=>exact ((h2 h rfl).mi (gM (M:=1) (by decide) (by decide) w)).up
 | some l=>cases hi with
  | none=>exact ((h1 l rfl).pl (gM (M:=1) (by decide) (by decide) w)).up
  | some h=>exact ((h1 l rfl).pl (h2 h rfl)).half.le (by omega)
theorem iS:∀ {ps:List (Int×Int)} {o:Option (Int×Int)} {g:Int×Int},gre ps o=some g->g∈ps \/ o=some g
 | [],o,g,h=>.inr h
 | p :: ps,none,g,h=>by
  rcases iS (ps:=ps) (o:=some p) h with z | z
  . exact .inl (Zl _ z)
  . cases z;exact .inl Zk
 | p :: ps,some q,g,h=>by
  rcases iS (ps:=ps) h with z | z
  . exact .inl (Zl _ z)
  . split at z
    . cases z;exact .inl Zk
    . exact .inr z
theorem nF:∀ {ps:List (Int×Int)} {o:Option (Int×Int)} {g:Int×Int},lea ps o=some g->g∈ps \/ o=some g
 | [],o,g,h=>.inr h
 | p :: ps,none,g,h=>by
  rcases nF (ps:=ps) (o:=some p) h with z | z
  . exact .inl (Zl _ z)
  . cases z;exact .inl Zk
 | p :: ps,some q,g,h=>by
  rcases nF (ps:=ps) h with z | z
  . exact .inl (Zl _ z)
  . split at z
    . cases z;exact .inl Zk
    . exact .inr z
theorem CP {d:Nat->Nat->Bn} {ps:Pl} {t:Nat} {W M N:Int} (hp:∀ p∈ps,Dy W M p.2) (hd:∀ p∈ps,Bo N (d p.1 t)):∀ g∈dN d ps t,Dy W (M+N) g:=fun g m=>by
 obtain ⟨p,mp,e⟩:=List.mem_filterMap.mp m;have b:=hd p mp;rcases q:d p.1 t with _ | ⟨n,s⟩
 . rw [q] at e;cases e
 . rw [q] at e b;cases e;exact (hp p mp).mi (gM b.1 b.2 (hp p mp).w)
theorem AY {d:Nat->Nat->Bn} {ps:Pl} {t:Nat} {W M N:Int} (hp:∀ p∈ps,Dy W M p.2) (hd:∀ p∈ps,Bo N (d t p.1)):∀ g∈dc d ps t,Dy W (M+N) g:=fun g m=>by
 obtain ⟨p,mp,e⟩:=List.mem_filterMap.mp m;have b:=hd p mp;rcases q:d t p.1 with _ | ⟨n,s⟩
 . rw [q] at e;cases e
 . rw [q] at e b;cases e;exact (hp p mp).pl (gM b.1 b.2 (hp p mp).w)
theorem D3 {d:Nat->Nat->Bn} {ps:Pl} {t:Nat} {W M N:Int} (w:0 < W) (h0:0<=M+N) (hp:∀ p∈ps,Dy W M p.2) (hd:∀ p∈ps,Bo N (d p.1 t)) (hd':∀ p∈ps,Bo N (d t p.1)):Dy (W*2) (M+N+1) (dO d ps t):=by
 refine wo w h0 (fun g e=>?_) fun g e=>?_
 . rcases iS e with z | z
   . exact CP hp hd g z
   . cases z
 . rcases nF e with z | z
   . exact AY hp hd' g z
   . cases z
end Mth
namespace Mth
def has (ps:Pl) (t:Nat):Prop:=∃ v,(t,v)∈ps
instance (ps:Pl) (t:Nat):Decidable (has ps t):=decidable_of_iff (t∈ps.map (·.1)) ⟨fun h=>by
 obtain ⟨p,m,e⟩:=Zn.mp h;exact ⟨p.2,by rw [<- e];exact m⟩,fun ⟨v,m⟩=>Zn.mpr ⟨_,m,rfl⟩⟩
def bj (d:Nat->Nat->Bn) (ps:Pl):Nat->Pl
 | 0=>ps
 | m+1=>if has (bj d ps m) m then bj d ps m else bj d ps m++[(m,dO d (bj d ps m) m)]
structure u9 (d:Nat->Nat->Bn) (n:Nat) (ps:Pl) (x:Nat->Rat):Prop where
 lt:∀ p∈ps,p.1 < n
 nd:(ps.map (·.1)).Nodup
 pos:∀ p∈ps,0 < p.2.2
 val:∀ p∈ps,x p.1=vl p.2
 am:∀ p∈ps,∀ q∈ps,Kq (x p.1 - x q.1) (d p.1 q.1)
theorem yS {d:Nat->Nat->Bn} {n t:Nat} {ps:Pl} {x:Nat->Rat} (g:u9 d n ps x) (ht:t < n) (nt:¬ has ps t) (dia:∀ i,i < n->d i i=b0) (clo:∀ k i j,k < n->i < n->j < n->Le (d i j) (bs (d i k) (d k j))) :
 u9 d n (ps++[(t,dO d ps t)]) (fun j=>if j=t then vl (dO d ps t) else x j):=by
 obtain ⟨h1,h2⟩:=yf (t:=t) g.pos g.val g.am (fun p mp q mq=>clo t _ _ ht (g.lt p mp) (g.lt q mq))
 have ne:∀ p∈ps,p.1 ≠ t:=fun p m e=>nt ⟨p.2,by rw [<- e];exact m⟩
 have zero:Kq (vl (dO d ps t) - vl (dO d ps t)) (d t t):=by
  rw [dia t ht];show vl (dO d ps t) - vl (dO d ps t)<=((0:Int):Rat)
  grind
 refine ⟨fun p m=>?_,?_,fun p m=>?_,fun p m=>?_,fun p mp q mq=>?_⟩
 . rcases Zp.mp m with z | z
   . exact g.lt p z
   . rw [Zm.mp z];exact ht
 . rw [List.map_append];refine List.nodup_append.mpr ⟨g.nd,by simp,fun a ha b hb e=>?_⟩
   obtain ⟨p,mp,rfl⟩:=Zn.mp ha;have:b=t:=by simpa using hb
   exact ne p mp (e.trans this)
 . rcases Zp.mp m with z | z
   . exact g.pos p z
   . rw [Zm.mp z];exact h1
 . rcases Zp.mp m with z | z
   . show (if p.1=t then _ else x p.1)=_
     rw [if_neg (ne p z)];exact g.val p z
   . rw [Zm.mp z];exact if_pos rfl
 . show Kq ((if p.1=t then vl (dO d ps t) else x p.1) - (if q.1=t then vl (dO d ps t) else x q.1)) (d p.1 q.1)
   rcases Zp.mp mp with z | z
   . rw [if_neg (ne p z)];rcases Zp.mp mq with y | y
     . rw [if_neg (ne q y)];exact g.am p z q y
     . rw [Zm.mp y,if_pos rfl];exact (h2 p z).1
   . rw [Zm.mp z,if_pos rfl];rcases Zp.mp mq with y | y
     . rw [if_neg (ne q y)];exact (h2 q y).2
     . rw [Zm.mp y,if_pos rfl];exact zero
theorem jP {d:Nat->Nat->Bn} {n:Nat} {ps:Pl} (dia:∀ i,i < n->d i i=b0) (clo:∀ k i j,k < n->i < n->j < n->Le (d i j) (bs (d i k) (d k j))) (g:∃ x,u9 d n ps x):∀ m,m<=n->(∃ x,u9 d n (bj d ps m) x)/\(∀ t,t < m->has (bj d ps m) t)/\∀ p∈ps,p∈bj d ps m
 | 0,_=>⟨g,fun t h=>absurd h (Nat.not_lt_zero t),fun p m=>m⟩
 | m+1,hm=>by
  obtain ⟨⟨x,g1⟩,h1,h2⟩:=jP dia clo g m (by omega)
  show (∃ x,u9 d n (if has (bj d ps m) m then bj d ps m else _) x)/\(∀ t,t < m+1->has (if has (bj d ps m) m then bj d ps m else _) t)/\∀ p∈ps,p∈(if has (bj d ps m) m then bj d ps m else _)
  by_cases h:has (bj d ps m) m
  . rw [if_pos h];refine ⟨⟨x,g1⟩,fun t ht=>?_,h2⟩
    by_cases e:t=m
    . rw [e];exact h
    . exact h1 t (by omega)
  . rw [if_neg h];refine ⟨⟨_,yS g1 (by omega) h dia clo⟩,fun t ht=>?_,fun p mp=>Zy _ (h2 p mp)⟩
    by_cases e:t=m
    . rw [e];exact ⟨_,Zx _ Zk⟩
    . obtain ⟨v,mv⟩:=h1 t (by omega)
      exact ⟨v,Zy _ mv⟩
theorem cM (k:Nat):(0:Int) < 2 ^ k:=Int.pow_pos (by decide)
theorem xM {d:Nat->Nat->Bn} {ps:Pl} {W M N:Int} (w:0 < W) (hN:0<=N) (hM:0<=M) (hd:∀ i j,Bo N (d i j)) (h:∀ p∈ps,Dy W M p.2):∀ m,∀ p∈bj d ps m,Dy (W*2 ^ m) (M+m*(N+1)) p.2
 | 0=>fun p m=>by
  rw [Int.pow_zero,Int.mul_one];exact (h p m).le (by show M<=M+((0:Nat):Int)*(N+1);rw [show ((0:Nat):Int)=0 from rfl,Int.zero_mul];omega)
 | m+1=>fun p mp=>by
  have e:((m+1:Nat):Int)*(N+1)=(m:Int)*(N+1)+(N+1):=by
   rw [show ((m+1:Nat):Int)=(m:Int)+1 from rfl,Int.add_mul,Int.one_mul]
  have ih:=xM w hN hM hd h m;have nn:0<=(m:Int)*(N+1):=Int.mul_nonneg (by omega) (by omega)
  have wm:0 < W*2 ^ m:=Int.mul_pos w (cM m);have we:W*2 ^ (m+1)=W*2 ^ m*2:=by rw [Int.pow_succ,Int.mul_assoc]
  rw [we];have old:∀ p∈bj d ps m,Dy (W*2 ^ m*2) (M+((m+1:Nat):Int)*(N+1)) p.2:=fun p mp=>((ih p mp).up).le (by rw [e];omega)
  have mp':p∈(if has (bj d ps m) m then bj d ps m else bj d ps m++[(m,dO d (bj d ps m) m)]):=mp
  split at mp'
  . exact old p mp'
  . rcases Zp.mp mp' with z | z
    . exact old p z
    . rw [Zm.mp z];exact (D3 wm (by omega) ih (fun _ _=>hd _ _) (fun _ _=>hd _ _)).le (by rw [e];omega)
def atP (ps:Pl) (t:Nat):Int×Int:=((ps.find? fun p=>p.1 == t).map (·.2)).getD (0,1)
theorem gO {ps:Pl} {t:Nat} {v:Int×Int} (nd:(ps.map (·.1)).Nodup) (m:(t,v)∈ps):atP ps t=v:=by
 unfold atP
 induction ps with
 | nil=>cases m
 | cons p ps ih =>
  rw [Zr,List.nodup_cons] at nd;rw [List.find?_cons];rcases Zq.mp m with z | z
  . rw [<- z];simp
  . have:p.1 ≠ t:=fun e=>nd.1 (Zn.mpr ⟨_,z,e.symm⟩)
    rw [show (p.1 == t)=false from beq_eq_false_iff_ne.mpr this]
    exact ih nd.2 z
theorem Dh {d:Nat->Nat->Bn} {n:Nat} {ps:Pl} (hn:0 < n) (dia:∀ i,i < n->d i i=b0) (clo:∀ k i j,k < n->i < n->j < n->Le (d i j) (bs (d i k) (d k j))) (g:∃ x,u9 d n ps x) :
 Li d n (fun t=>vl (mi (atP (bj d ps n) t) (atP (bj d ps n) 0))):=by
 obtain ⟨⟨x,g1⟩,h1,_⟩:=jP dia clo g n (ZG n);intro i j hi hj;obtain ⟨v,mv⟩:=h1 i hi;obtain ⟨w,mw⟩:=h1 j hj;obtain ⟨z,mz⟩:=h1 0 hn;show Kq (vl (mi (atP (bj d ps n) i) (atP (bj d ps n) 0)) - vl (mi (atP (bj d ps n) j) (atP (bj d ps n) 0))) (d i j);rw [gO g1.nd mv,gO g1.nd mw,gO g1.nd mz,jT (g1.pos _ mv) (g1.pos _ mz),jT (g1.pos _ mw) (g1.pos _ mz)];have k:=g1.am _ mv _ mw;rw [g1.val _ mv,g1.val _ mw] at k;have e:vl v - vl z - (vl w - vl z)=vl v - vl w:=by grind
 rw [e];exact k
end Mth
namespace Mth
theorem ss {a b:Int}:gc a b=1 <-> Nat.Coprime a.natAbs b.natAbs:=by
 unfold gc Nat.Coprime;rw [Int.gcd];omega
theorem fK {a b:Int} (h:gc a b=1):gc b a=1:=by
 rw [ss] at *;exact h.symm
theorem iT {t a b:Int} (h:gc t a=1) (k:gc t b=1):gc t (a*b)=1:=by
 rw [ss] at *
 rw [Int.natAbs_mul];exact h.mul_right k
theorem jO {t s a b:Int} (h:gc t a=1) (k:s ∣ t) (l:b ∣ a):gc s b=1:=by
 rw [ss] at *
 exact Nat.Coprime.coprime_dvd_left (Int.natAbs_dvd_natAbs.mpr k) (Nat.Coprime.coprime_dvd_right (Int.natAbs_dvd_natAbs.mpr l) h)
theorem xC {a b m:Int} (h:gc a b=1):gc (a+m*b) b=1:=by
 unfold gc at *
 rw [Int.gcd_comm,Int.gcd_add_mul_right_right,Int.gcd_comm];exact h
theorem nH {a b:Int} (h:0 < b):gc (a / gc a b) (b / gc a b)=1:=(oo (t:=a) h).one
theorem iU {d a:Int} (h:d ∣ a):a / d ∣ a:=⟨d,(Int.ediv_mul_cancel h).symm⟩
def sm (a b c e:Int):Int×Int :=
 ((a*(e / gc b e)+c*(b / gc b e)) / gc (a*(e / gc b e)+c*(b / gc b e)) (gc b e),
  b / gc b e*(e / gc (a*(e / gc b e)+c*(b / gc b e)) (gc b e)))
theorem DG {a b c e:Int} (h:Lo a b) (k:Lo c e):sm a b c e=rd (a*e+c*b) (b*e):=by
 have hb:=h.pos;have he:=k.pos;have hg:=eE (t:=b) he;have d1:gc b e ∣ b:=eF;have d2:gc b e ∣ e:=cS;have e1:=Int.ediv_mul_cancel d1;have e2:=Int.ediv_mul_cancel d2;have q:=nH (a:=b) he;have p1:=iU d1;have p2:=iU d2;unfold sm;generalize hg':gc b e=g at *
 generalize hP:b / g=P at *
 generalize hE:e / g=E at *
 generalize hT:a*E+c*P=T at *
 have hl:=eE (t:=T) hg;have l1:gc T g ∣ T:=eF;have l2:gc T g ∣ g:=cS;have l3:gc T g ∣ e:=Int.dvd_trans l2 d2;have f1:=Int.ediv_mul_cancel l1;have f2:=Int.ediv_mul_cancel l2;have f3:=Int.ediv_mul_cancel l3;have u:=nH (a:=T) hg;have tP:gc T P=1:=by
  rw [<- hT];refine xC ?_;have x1:gc P a=1:=jO (fK h.one) p1 (Int.dvd_refl a);exact fK (iT x1 q)
 have tE:gc T E=1:=by
  rw [<- hT,Int.add_comm];refine xC ?_;have x1:gc E c=1:=jO (fK k.one) p2 (Int.dvd_refl c);exact fK (iT x1 (fK q))
 have p3:=iU l1;generalize hl':gc T g=l at *
 generalize hT':T / l=T' at *
 generalize hG':g / l=G' at *
 have ee:e / l=E*G':=by
  rw [<- e2,<- f2];have:E*(G'*l)=E*G'*l:=by grind
  rw [this,Int.mul_ediv_cancel _ (by omega)]
 rw [ee];have hP0:0 < P:=by
  have:0 < P*g:=by omega
  exact Int.pos_of_mul_pos_left this hg
 have hE0:0 < E:=by
  have:0 < E*g:=by omega
  exact Int.pos_of_mul_pos_left this hg
 have hG0:0 < G':=by
  have:0 < G'*l:=by omega
  exact Int.pos_of_mul_pos_left this hl
 refine (zP (Int.mul_pos hb he) ⟨Int.mul_pos hP0 (Int.mul_pos hE0 hG0),?_⟩ ?_).symm
 . exact iT (jO tP p3 (Int.dvd_refl P)) (iT (jO tE p3 (Int.dvd_refl E)) u)
 . have:a*e+c*b=T*g:=by rw [<- hT,<- e1,<- e2];grind
   rw [this,<- f1,<- e1,<- e2];rw [<- f2]
   grind
def tm (a b c e:Int):Int×Int:=(a / gc a e*(c / gc c b),b / gc c b*(e / gc a e))
theorem FV {a b c e:Int} (h:Lo a b) (k:Lo c e):tm a b c e=rd (a*c) (b*e):=by
 have hb:=h.pos;have he:=k.pos;have hf:=eE (t:=a) he;have hs:=eE (t:=c) hb;have a1:gc a e ∣ a:=eF;have a2:gc a e ∣ e:=cS;have b1:gc c b ∣ c:=eF;have b2:gc c b ∣ b:=cS;have u:=nH (a:=a) he;have v:=nH (a:=c) hb;have p1:=iU a1;have p2:=iU a2;have p3:=iU b1;have p4:=iU b2;have e1:=Int.ediv_mul_cancel a1;have e2:=Int.ediv_mul_cancel a2;have e3:=Int.ediv_mul_cancel b1;have e4:=Int.ediv_mul_cancel b2;unfold tm;generalize gc a e=f at *
 generalize gc c b=s at *
 generalize a / f=A at *
 generalize e / f=E at *
 generalize c / s=C at *
 generalize b / s=B at *
 have hE0:0 < E:=by
  have:0 < E*f:=by omega
  exact Int.pos_of_mul_pos_left this hf
 have hB0:0 < B:=by
  have:0 < B*s:=by omega
  exact Int.pos_of_mul_pos_left this hs
 refine (zP (Int.mul_pos hb he) ⟨Int.mul_pos hB0 hE0,?_⟩ ?_).symm
 . have x1:gc A B=1:=jO h.one p1 p4;have x2:gc C E=1:=jO k.one p3 p2;have y1:gc A (B*E)=1:=iT x1 u;have y2:gc C (B*E)=1:=iT v x2;exact fK (iT (fK y1) (fK y2))
 . rw [<- e1,<- e2,<- e3,<- e4];grind
theorem Gy {p q:Int×Int} (h:Lw p) (k:Lw q):pl p q=sm p.1 p.2 q.1 q.2:=(DG h k).symm
theorem GH {p q:Int×Int} (h:Lw p) (k:Lw q):mi p q=sm p.1 p.2 (-q.1) q.2:=by
 rw [DG h (Lo.neg k)];unfold mi;rw [Int.neg_mul,<- Int.sub_eq_add_neg]
theorem FW {p q:Int×Int} (h:Lw p) (k:Lw q):ti p q=tm p.1 p.2 q.1 q.2:=(FV h k).symm
end Mth
namespace Mth
theorem Bs {W M:Int} {a b k:Nat} {p:Int×Int} (h:Dy W M p) (hW:W<=2 ^ a) (hM:M<=2 ^ b) (hk:a+b < k):Fr k p:=by
 have hw:=h.w;have ht:=h.top;have hb:=h.bot;have hp:=h.pos;have h2a:(0:Int) < 2 ^ a:=cM a;have h2b:(0:Int) < 2 ^ b:=cM b;have m1:M*W<=2 ^ b*W:=Int.mul_le_mul_of_nonneg_right hM (Int.le_of_lt hw);have m2:(2:Int) ^ b*W<=2 ^ b*2 ^ a:=Int.mul_le_mul_of_nonneg_left hW (Int.le_of_lt h2b);have e1:(2:Int) ^ b*2 ^ a=2 ^ (a+b):=by rw [<- Int.pow_add,Nat.add_comm]
 have q:2 ^ (a+b) < 2 ^ k:=Nat.pow_lt_pow_right (by decide) hk
 have q2:2 ^ a < 2 ^ k:=Nat.pow_lt_pow_right (by decide) (by omega)
 have c1:((2 ^ (a+b):Nat):Int)=2 ^ (a+b):=by rw [Int.natCast_pow];rfl
 have c2:((2 ^ a:Nat):Int)=2 ^ a:=by rw [Int.natCast_pow];rfl
 refine ⟨h.lw,?_,?_⟩
 . unfold Sm;omega
 . unfold Sm;omega
end Mth
namespace Mth
def eR (back:Bn):List (Int×Int):=match back with
 | none=>[]
 | some (k,_)=>[(-k,1)]
def ig (bound back:Bn) (e:Int×Int):Int×Int:=match bound with
 | none=>btw (gre (eR back++[low e.2 e.1]) none) none
 | some (n,true)=>btw (gre (eR back++[mi (n,1) e]) none) (some (n,1))
 | some (n,false)=>(n,1)
theorem r9 {e:Int×Int} (h:0 < e.1):low e.2 e.1=rd e.2 e.1:=xu h
theorem D2 {e:Int×Int} (h:0 < e.1):vl (low e.2 e.1)=Rat.divInt e.2 e.1:=by rw [r9 h,wD h]
theorem D1 {e:Int×Int} (h:0 < e.1) (g:0 < e.2):0 < vl e:=(pp g).mpr h
theorem uy {ps:List (Int×Int)} {q:Int×Int} (hp:∀ p∈ps,0 < p.2) (hq:0 < q.2):∃ g,gre (ps++[q]) none=some g/\g∈ps++[q]/\0 < g.2/\vl q<=vl g/\∀ p∈ps,vl p<=vl g:=by
 have ha:∀ p∈ps++[q],0 < p.2:=fun p m=>by
  rcases Zp.mp m with z | z
  . exact hp p z
  . rw [Zm.mp z];exact hq
 rcases ux ha with ⟨e,_⟩ | ⟨g,h1,h2,h3⟩
 . have:=congrArg List.length e;rw [Zh] at this;simp at this
 . exact ⟨g,h1,h2,ha g h2,h3 q (Zx _ Zk),fun p m=>h3 p (Zy _ m)⟩
theorem ue {back:Bn}:∀ p∈eR back,0 < p.2:=fun p m=>by
 rcases back with _ | ⟨k,s⟩
 . cases m
 . rw [Zm.mp m];show (0:Int) < 1;decide
theorem pE {back:Bn} {y:Rat} (h:∀ p∈eR back,vl p < y):Kq (0 - y) back:=by
 rcases back with _ | ⟨k,s⟩
 . trivial
 . have:=h (-k,1) Zk;rw [cv,Rat.intCast_neg] at this;cases s with
   | true=>show 0 - y < (k:Rat);grind
   | false=>show 0 - y<=(k:Rat);grind
def G6 (bound:Bn) (e:Int×Int) (y:Rat):Prop:=match bound with
 | none=>Rat.divInt e.2 e.1 < y
 | some (n,true)=>(n:Rat) - vl e < y
 | some (n,false)=>y=(n:Rat)
theorem Bj {bound back:Bn} {e:Int×Int} (e1:0 < e.1) (e2:0 < e.2) (hn:Nn (bs bound back)):0 < (ig bound back e).2/\Kq (vl (ig bound back e)) bound/\Kq (0 - vl (ig bound back e)) back/\G6 bound e (vl (ig bound back e)):=by
 rcases bound with _ | ⟨n,s⟩
 . have hq:0 < (low e.2 e.1).2:=by rw [r9 e1];exact (zO e1).pos
   obtain ⟨g,h1,_,h3,h4,h5⟩:=uy (ue (back:=back)) hq;have ev:vl (ig none back e)=vl g+1:=by
    show vl (btw (gre (eR back++[low e.2 e.1]) none) none)=_;rw [h1];show vl (pl g (1,1))=_;rw [sZ h3 (by decide),cv];rfl
   refine ⟨?_,trivial,pE fun p m=>?_,?_⟩
   . show 0 < (btw (gre (eR back++[low e.2 e.1]) none) none).2;rw [h1];exact (ox h3 (by decide)).pos
   . have:=h5 p m;rw [ev]
     grind
   . show Rat.divInt e.2 e.1 < _;rw [ev];rw [D2 e1] at h4
     grind
 . cases s with
   | true =>
    have hq:0 < (mi (n,1) e).2:=(xq (by show (0:Int) < 1;decide) e2).pos
    obtain ⟨g,h1,h2,h3,h4,h5⟩:=uy (ue (back:=back)) hq;have em:vl (mi (n,1) e)=(n:Rat) - vl e:=by rw [jT (by show (0:Int) < 1;decide) e2,cv]
    have ep:=D1 e1 e2;have gl:vl g < (n:Rat):=by
     rcases Zp.mp h2 with z | z
     . rcases back with _ | ⟨k,t⟩
       . cases z
       . rw [Zm.mp z,cv,Rat.intCast_neg];have h':Nn (some (n+k,true || t)):=hn
         rw [<- k6] at h';have h2:(0:Rat) < ((n+k:Int):Rat):=h';rw [Rat.intCast_add] at h2
         grind
     . rw [Zm.mp z,em]
       grind
    have n1:(0:Int) < ((n,1):Int×Int).2:=by show (0:Int) < 1;decide
    have eh:=wE h3 n1;have ev:vl (ig (some (n,true)) back e)=vl (ti (pl g (n,1)) (1,2)):=by
     show vl (btw (gre (eR back++[mi (n,1) e]) none) (some (n,1)))=_;rw [h1];rfl
    rw [cv] at eh;refine ⟨?_,?_,pE fun p m=>?_,?_⟩
    . show 0 < (btw (gre (eR back++[mi (n,1) e]) none) (some (n,1))).2;rw [h1];exact (DD (ox h3 n1).pos (by decide)).pos
    . show vl _ < (n:Rat);rw [ev]
      grind
    . have:=h5 p m;rw [ev]
      grind
    . show (n:Rat) - vl e < _;rw [ev];rw [em] at h4
      grind
   | false =>
    have ev:vl (ig (some (n,false)) back e)=(n:Rat):=cv n;refine ⟨by show (0:Int) < 1;decide,?_,?_,ev⟩
    . show vl _<=(n:Rat);rw [ev];exact Rat.le_refl
    . rw [ev];rcases back with _ | ⟨k,t⟩
      . trivial
      . have h':Nn (some (n+k,false || t)):=hn
        rw [<- k6] at h';cases t with
        | true =>
         have h2:(0:Rat) < ((n+k:Int):Rat):=h';rw [Rat.intCast_add] at h2;show 0 - (n:Rat) < (k:Rat)
         grind
        | false =>
         have h2:(0:Rat)<=((n+k:Int):Rat):=h';rw [Rat.intCast_add] at h2;show 0 - (n:Rat)<=(k:Rat)
         grind
theorem Fl {bound back:Bn} {e:Int×Int} {N:Int} (e1:0 < e.1) (e2:0 < e.2) (hl:Lw e) (hN:0<=N) (hb:Bo N bound) (hk:Bo N back):Dy (2*e.1*e.2*2) (N+e.1+e.2+1) (ig bound back e):=by
 have w:0 < 2*e.1*e.2:=Int.mul_pos (Int.mul_pos (by decide) e1) e2
 have de:Dy (2*e.1*e.2) e.1 e:=by
  refine ⟨w,hl,2*e.1*e.1,by grind,?_,?_⟩
  . have:=Int.mul_nonneg (Int.le_of_lt e1) (Int.le_of_lt w);have:=Int.mul_nonneg (Int.mul_nonneg (show (0:Int)<=2 by decide) (Int.le_of_lt e1)) (Int.le_of_lt e1)
    omega
  . have h:2*e.1*e.1*1<=2*e.1*e.1*e.2:=Int.mul_le_mul_of_nonneg_left (by omega) (Int.mul_nonneg (Int.mul_nonneg (by decide) (Int.le_of_lt e1)) (Int.le_of_lt e1))
    have e':e.1*(2*e.1*e.2)=2*e.1*e.1*e.2:=by grind
    omega
 have di:Dy (2*e.1*e.2) e.2 (low e.2 e.1):=by
  rw [r9 e1];refine xS (a:=2*e.2*e.2) w e1 (by grind) ?_ ?_
  . have:=Int.mul_nonneg (Int.le_of_lt e2) (Int.le_of_lt w);have:=Int.mul_nonneg (Int.mul_nonneg (show (0:Int)<=2 by decide) (Int.le_of_lt e2)) (Int.le_of_lt e2)
    omega
  . have h:2*e.2*e.2*1<=2*e.2*e.2*e.1:=Int.mul_le_mul_of_nonneg_left (by omega) (Int.mul_nonneg (Int.mul_nonneg (by decide) (Int.le_of_lt e2)) (Int.le_of_lt e2))
    have e':e.2*(2*e.1*e.2)=2*e.2*e.2*e.1:=by grind
    omega
 have dl:∀ p∈eR back,Dy (2*e.1*e.2) (N+e.1+e.2) p:=fun p m=>by
  rcases back with _ | ⟨k,t⟩
  . cases m
  . rw [Zm.mp m];have h':-N<=k/\k<=N:=hk;exact gM (by omega) (by omega) w
 rcases bound with _ | ⟨n,s⟩
 . refine wo (M:=N+e.1+e.2) w (by omega) (fun p h=>?_) (fun p h=>nomatch h)
   rcases iS h with z | z
   . rcases Zp.mp z with z | z
     . exact dl p z
     . rw [Zm.mp z];exact di.le (by omega)
   . cases z
 . have hb':-N<=n/\n<=N:=hb;have dn:∀ {W:Int},0 < W->Dy W N (n,1):=fun w=>gM hb'.1 hb'.2 w
   cases s with
   | true =>
    refine wo (M:=N+e.1+e.2) w (by omega) (fun p h=>?_) (fun p h=>?_)
    . rcases iS h with z | z
      . rcases Zp.mp z with z | z
        . exact dl p z
        . rw [Zm.mp z];exact ((dn w).mi de).le (by omega)
      . cases z
    . cases h;exact (dn w).le (by omega)
   | false=>exact (dn (by omega)).le (by omega)
end Mth
set_option linter.all false
set_option maxHeartbeats 4000000
namespace Mth
def sB:List Bn->Bn
 | []=>b0
 | b :: l=>bs b (sB l)
theorem vt:∀ (l m:List Bn),sB (l++m)=bs (sB l) (sB m)
 | [],m=>(j3 _).symm
 | b :: l,m=>by
  show bs b (sB (l++m))=bs (bs b (sB l)) (sB m);rw [vt l m,eM]
def sg (bl:List Bn) (s t:Nat):Bn:=sB ((bl.drop s).take (t - s))
theorem wO (bl:List Bn) (s:Nat):sg bl s s=b0:=by unfold sg;rw [Nat.sub_self,List.take_zero];rfl
theorem fO {bl:List Bn} {s u t:Nat} (h:s<=u) (g:u<=t):bs (sg bl s u) (sg bl u t)=sg bl s t:=by
 unfold sg;have e:t - s=(u - s)+(t - u):=by omega
 rw [e,List.take_add,vt,List.drop_drop];have e2:s+(u - s)=u:=by omega
 rw [e2]
theorem vn {bl:List Bn} {s:Nat} (h:s < bl.length):sg bl s (s+1)=bl.getD s none:=by
 unfold sg;have e:s+1 - s=1:=by omega
 rw [e,List.drop_eq_getElem_cons h,List.take_succ_cons,List.take_zero,Zs,Zt h];show bs _ b0=_;rw [dJ];rfl
instance:Std.Commutative bs:=⟨fun a b=>(sU a b).symm⟩
instance:Std.Associative bs:=⟨eM⟩
theorem vM {a x:Bn} (h:Nn a):Le x (bs x a):=by
 have:=Le.sum (Le.refl x) h;rw [dJ] at this;exact this
def cy (bl:List Bn) (n s t:Nat):Bn:=if s=t then b0 else if s < t then sg bl s t else bs (sg bl s n) (sg bl 0 t)
theorem g9 (bl:List Bn) (n s:Nat):cy bl n s s=b0:=if_pos rfl
theorem i9 {bl:List Bn} {n s t:Nat} (h:s < t):cy bl n s t=sg bl s t:=by unfold cy;rw [if_neg (by omega),if_pos h]
theorem ja {bl:List Bn} {n s t:Nat} (h:t < s):cy bl n s t=bs (sg bl s n) (sg bl 0 t):=by unfold cy;rw [if_neg (by omega),if_neg (by omega)]
theorem Bx {bl:List Bn} {n s t u:Nat} (hs:s < n) (ht:t < n) (hu:u < n) (h:Nn (sg bl 0 n)):Le (cy bl n s t) (bs (cy bl n s u) (cy bl n u t)):=by
 have tot:∀ v,v<=n->bs (sg bl 0 v) (sg bl v n)=sg bl 0 n:=fun v hv=>fO (Nat.zero_le v) hv
 by_cases a:s=u
 . subst a;rw [g9,j3];exact Le.refl _
 by_cases b:u=t
 . subst b;rw [g9,dJ];exact Le.refl _
 by_cases c:s=t
 . subst c;rw [g9];rcases Nat.lt_or_gt_of_ne a with l | l
   . rw [i9 l,ja l];have e:bs (sg bl s u) (bs (sg bl u n) (sg bl 0 s))=sg bl 0 n:=by
      rw [<- tot s (by omega),<- fO (bl:=bl) (Nat.le_of_lt l) (Nat.le_of_lt hu)]
      ac_rfl
     rw [e];exact h
   . rw [ja l,i9 l];have e:bs (bs (sg bl s n) (sg bl 0 u)) (sg bl u s)=sg bl 0 n:=by
      rw [<- tot s (by omega),<- fO (bl:=bl) (Nat.zero_le u) (Nat.le_of_lt l)]
      ac_rfl
     rw [e];exact h
 rcases Nat.lt_or_gt_of_ne a with l1 | l1 <;> rcases Nat.lt_or_gt_of_ne b with l2 | l2
 . rw [i9 l1,i9 l2,i9 (Nat.lt_trans l1 l2),fO (Nat.le_of_lt l1) (Nat.le_of_lt l2)];exact Le.refl _
 . rw [i9 l1,ja l2];rcases Nat.lt_or_gt_of_ne c with l3 | l3
   . rw [i9 l3];have e:bs (sg bl s u) (bs (sg bl u n) (sg bl 0 t))=bs (sg bl s t) (sg bl 0 n):=by
      rw [<- tot t (by omega),<- fO (bl:=bl) (Nat.le_of_lt l2) (Nat.le_of_lt hu),<- fO (bl:=bl) (Nat.le_of_lt l3) (Nat.le_of_lt l2)]
      ac_rfl
     rw [e];exact vM h
   . rw [ja l3];have e:bs (sg bl s u) (bs (sg bl u n) (sg bl 0 t))=bs (sg bl s n) (sg bl 0 t):=by
      rw [<- fO (bl:=bl) (Nat.le_of_lt l1) (Nat.le_of_lt hu)]
      ac_rfl
     rw [e];exact Le.refl _
 . rw [ja l1,i9 l2];rcases Nat.lt_or_gt_of_ne c with l3 | l3
   . rw [i9 l3];have e:bs (bs (sg bl s n) (sg bl 0 u)) (sg bl u t)=bs (sg bl s t) (sg bl 0 n):=by
      rw [<- tot t (by omega),<- fO (bl:=bl) (Nat.le_of_lt l3) (Nat.le_of_lt ht),<- fO (bl:=bl) (Nat.zero_le u) (Nat.le_of_lt l2)]
      ac_rfl
     rw [e];exact vM h
   . rw [ja l3];have e:bs (bs (sg bl s n) (sg bl 0 u)) (sg bl u t)=bs (sg bl s n) (sg bl 0 t):=by
      rw [<- fO (bl:=bl) (Nat.zero_le u) (Nat.le_of_lt l2)]
      ac_rfl
     rw [e];exact Le.refl _
 . have l3:t < s:=Nat.lt_trans l2 l1;rw [ja l1,ja l2,ja l3];have e:bs (bs (sg bl s n) (sg bl 0 u)) (bs (sg bl u n) (sg bl 0 t))=bs (bs (sg bl s n) (sg bl 0 t)) (sg bl 0 n):=by
    rw [<- tot u (by omega)]
    ac_rfl
   rw [e];exact vM h
structure Chn (n:Nat) (o:List Nat) (bl:List Bn) (c:Nat->Nat->Bn):Prop where
 n2:2<=n
 ol:o.length=n
 ll:bl.length=n
 lt:∀ x∈o,x < n
 nd:o.Nodup
 arc:∀ k,k < n->c (o.getD k 0) (o.getD ((k+1) % n) 0)=bl.getD k none
 non:∀ i j,i < n->j < n->(∀ k,k < n->i=o.getD k 0->j ≠ o.getD ((k+1) % n) 0)->c i j=none
variable {n:Nat} {o:List Nat} {bl:List Bn} {c:Nat->Nat->Bn}
theorem dI {k:Nat} (h:k < o.length):o.getD k 0=o[k]:=by rw [Zs,Zt h];rfl
theorem Chn.lt' (h:Chn n o bl c) {k:Nat} (hk:k < n):o.getD k 0 < n:=by
 rw [dI (by rw [h.ol];exact hk)]
 exact h.lt _ (List.getElem_mem _)
theorem Chn.inj (h:Chn n o bl c) {k l:Nat} (hk:k < n) (hl:l < n) (e:o.getD k 0=o.getD l 0):k=l:=by
 have k':k < o.length:=by rw [h.ol];exact hk
 have l':l < o.length:=by rw [h.ol];exact hl
 rw [dI k',dI l'] at e;have a:=h.nd.idxOf_getElem k k';have b:=h.nd.idxOf_getElem l l';rw [e] at a;exact a.symm.trans b
theorem Chn.mem (h:Chn n o bl c) {i:Nat} (hi:i < n):i∈o:=by
 by_cases m:i∈o
 . exact m
 . have:=gy n (i :: o) (List.nodup_cons.mpr ⟨m,h.nd⟩) fun x mx=>(Zq.mp mx).elim (fun e=>e ▸ hi) (h.lt x)
   rw [Zj,h.ol] at this;omega
theorem Chn.pos (h:Chn n o bl c) {i:Nat} (hi:i < n):o.idxOf i < n/\o.getD (o.idxOf i) 0=i:=by
 have l:=List.idxOf_lt_length_of_mem (h.mem hi);exact ⟨by rw [<- h.ol];exact l,by rw [dI l,List.getElem_idxOf]⟩
def duB (o:List Nat) (bl:List Bn) (n i j:Nat):Bn:=cy bl n (o.idxOf i) (o.idxOf j)
theorem Chn.no_self (h:Chn n o bl c) {i:Nat} (hi:i < n):c i i=none:=h.non i i hi hi fun k hk e e'=>by
 have h2:=h.n2;have k1:(k+1) % n < n:=Nat.mod_lt _ (by omega)
 have:=h.inj hk k1 (e.symm.trans e')
 by_cases z:k+1=n
 . rw [z,Nat.mod_self] at this;omega
 . rw [Nat.mod_eq_of_lt (by omega)] at this;omega
theorem Chn.du_le (h:Chn n o bl c) {i j:Nat} (hi:i < n) (hj:j < n):Le (duB o bl n i j) (c i j):=by
 by_cases e:∃ k,k < n/\i=o.getD k 0/\j=o.getD ((k+1) % n) 0
 . obtain ⟨k,hk,e1,e2⟩:=e;have h2:=h.n2;have k1:(k+1) % n < n:=Nat.mod_lt _ (by omega)
   have p1:=h.inj (h.pos hi).1 hk ((h.pos hi).2.trans e1);have p2:=h.inj (h.pos hj).1 k1 ((h.pos hj).2.trans e2);have ac:=h.arc k hk;rw [<- e1,<- e2] at ac;rw [ac];unfold duB;rw [p1,p2]
   by_cases z:k+1=n
   . have e0:(k+1) % n=0:=by rw [z,Nat.mod_self]
     rw [e0,ja (by omega),wO,dJ]
     have:=vn (bl:=bl) (s:=k) (by rw [h.ll];exact hk)
     rw [z] at this;rw [this];exact Le.refl _
   . rw [Nat.mod_eq_of_lt (by omega),i9 (by omega),vn (by rw [h.ll];exact hk)]
     exact Le.refl _
 . rw [h.non i j hi hj fun k hk e1 e2=>e ⟨k,hk,e1,e2⟩]
   exact gq _
theorem Chn.du_dm (h:Chn n o bl c) (t:Nn (sg bl 0 n)) {c0:Nat->Nat->Bn} (hd:∀ i,i < n->c0 i i=b0) (hc:∀ i j,i < n->j < n->i ≠ j->c0 i j=c i j):∀ (m:Nat),m<=n->∀ i j,i < n->j < n->Le (duB o bl n i j) (dm c0 m i j)
 | 0,_,i,j,hi,hj=>by
  show Le _ (c0 i j)
  by_cases e:i=j
  . subst e;rw [hd i hi];unfold duB;rw [g9];exact Le.refl _
  . rw [hc i j hi hj e];exact h.du_le hi hj
 | m+1,hm,i,j,hi,hj=>by
  rcases ly (c:=c0) m i j with e | e
  . rw [e];exact h.du_dm t hd hc m (by omega) i j hi hj
  . rw [e];have a:=h.du_dm t hd hc m (by omega) i m hi (by omega)
    have b:=h.du_dm t hd hc m (by omega) m j (by omega) hj
    exact (Bx (h.pos hi).1 (h.pos hj).1 (h.pos (i:=m) (by omega)).1 t).trans (Le.sum a b)
theorem Chn.ok (h:Chn n o bl c) (t:Nn (sg bl 0 n)) {c0:Nat->Nat->Bn} (hd:∀ i,i < n->c0 i i=b0) (hc:∀ i j,i < n->j < n->i ≠ j->c0 i j=c i j) {m i:Nat} (hm:m < n) (hi:i < n):Nn (bs (dm c0 m i m) (dm c0 m m i)):=by
 have a:=h.du_dm t hd hc m (by omega) i m hi hm
 have b:=h.du_dm t hd hc m (by omega) m i hm hi
 have k:=Bx (bl:=bl) (h.pos hi).1 (h.pos hi).1 (h.pos hm).1 t;rw [g9] at k;exact Le.trans k (Le.sum a b)
theorem Chn.below (h:Chn n o bl c) {u:Nat->Nat->Bn} (dia:∀ i,i < n->u i i=b0) (clo:∀ k i j,k < n->i < n->j < n->Le (u i j) (bs (u i k) (u k j))) (hu:∀ i j,i < n->j < n->i ≠ j->Le (u i j) (c i j)) :
 (∀ (d s:Nat),s+d < n->Le (u (o.getD s 0) (o.getD (s+d) 0)) (sg bl s (s+d)))/\(∀ s,s < n->Le (u (o.getD s 0) (o.getD 0 0)) (sg bl s n)):=by
 have h2:=h.n2;have ar:∀ k,k < n->Le (u (o.getD k 0) (o.getD ((k+1) % n) 0)) (sg bl k (k+1)):=fun k hk=>by
  have k1:(k+1) % n < n:=Nat.mod_lt _ (by omega)
  rw [vn (by rw [h.ll];exact hk),<- h.arc k hk]
  refine hu _ _ (h.lt' hk) (h.lt' k1) fun e=>?_
  have:=h.inj hk k1 e
  by_cases z:k+1=n
  . rw [z,Nat.mod_self] at this;omega
  . rw [Nat.mod_eq_of_lt (by omega)] at this;omega
 have one:∀ (d s:Nat),s+d < n->Le (u (o.getD s 0) (o.getD (s+d) 0)) (sg bl s (s+d)):=by
  intro d
  induction d with
  | zero=>intro s hs;rw [Nat.add_zero,dia _ (h.lt' (by omega)),wO];exact Le.refl _
  | succ d ih =>
   intro s hs;have a:=ih s (by omega)
   have b:=ar (s+d) (by omega)
   rw [Nat.mod_eq_of_lt (by omega)] at b
   have k:=clo (o.getD (s+d) 0) (o.getD s 0) (o.getD (s+d+1) 0) (h.lt' (by omega)) (h.lt' (by omega)) (h.lt' (by omega))
   have e:=fO (bl:=bl) (s:=s) (u:=s+d) (t:=s+d+1) (by omega) (by omega)
   rw [<- Nat.add_assoc,<- e];exact k.trans (Le.sum a b)
 refine ⟨one,fun s hs=>?_⟩
 have a:=one (n - 1 - s) s (by omega)
 have es:s+(n - 1 - s)=n - 1:=by omega
 rw [es] at a;have b:=ar (n - 1) (by omega)
 have e0:(n - 1+1) % n=0:=by rw [Nat.sub_add_cancel (by omega),Nat.mod_self]
 have e1:n - 1+1=n:=by omega
 rw [e0,e1] at b;have k:=clo (o.getD (n - 1) 0) (o.getD s 0) (o.getD 0 0) (h.lt' (by omega)) (h.lt' hs) (h.lt' (by omega))
 have e:=fO (bl:=bl) (s:=s) (u:=n - 1) (t:=n) (by omega) (by omega)
 rw [<- e];exact k.trans (Le.sum a b)
theorem Chn.tot_nn (h:Chn n o bl c) {u:Nat->Nat->Bn} (dia:∀ i,i < n->u i i=b0) (clo:∀ k i j,k < n->i < n->j < n->Le (u i j) (bs (u i k) (u k j))) (hu:∀ i j,i < n->j < n->i ≠ j->Le (u i j) (c i j)):Nn (sg bl 0 n):=by
 have:=(h.below dia clo hu).2 0 (by have:=h.n2;omega)
 rw [dia _ (h.lt' (by have:=h.n2;omega))] at this
 exact this
theorem Chn.is (h:Chn n o bl c) {u:Nat->Nat->Bn} (dia:∀ i,i < n->u i i=b0) (clo:∀ k i j,k < n->i < n->j < n->Le (u i j) (bs (u i k) (u k j))) (hu:∀ i j,i < n->j < n->i ≠ j->Le (u i j) (c i j)) (lo:∀ i j,i < n->j < n->Le (duB o bl n i j) (u i j)) {i j:Nat} (hi:i < n) (hj:j < n):u i j=duB o bl n i j:=by
 refine Le.antisymm ?_ (lo i j hi hj);obtain ⟨a,b⟩:=h.below dia clo hu;have pi:=h.pos hi;have pj:=h.pos hj;unfold duB;rcases Nat.lt_trichotomy (o.idxOf i) (o.idxOf j) with l | l | l
 . have:=a (o.idxOf j - o.idxOf i) (o.idxOf i) (by omega)
   rw [show o.idxOf i+(o.idxOf j - o.idxOf i)=o.idxOf j by omega,pi.2,pj.2] at this
   rw [i9 l];exact this
 . have e:i=j:=by rw [<- pi.2,<- pj.2,l]
   subst e;rw [g9,dia i hi];exact Le.refl _
 . have x:=b (o.idxOf i) pi.1;have y:=a (o.idxOf j) 0 (by omega)
   rw [Nat.zero_add,pj.2] at y;rw [pi.2] at x;have k:=clo (o.getD 0 0) i j (h.lt' (by have:=h.n2;omega)) hi hj
   rw [ja l];exact k.trans (Le.sum x y)
theorem re:∀ (l:List Nat) (k:Nat),wt c l ≠ none->k+1 < l.length->c (l.getD k 0) (l.getD (k+1) 0) ≠ none
 | [],k,_,h=>by simp at h
 | [_],k,_,h=>by simp at h
 | a :: b :: r,0,w,_=>fun e=>w (by
  have e':c a b=none:=e;show bs (c a b) (wt c (b :: r))=none;rw [e'];rfl)
 | a :: b :: r,k+1,w,h=>by
  refine re (b :: r) k (fun e=>w ?_) (by simpa using h)
  show bs (c a b) (wt c (b :: r))=none;rw [e];cases c a b <;> rfl
theorem Chn.ring (h:Chn n o bl c) {c0:Nat->Nat->Bn} (hc:∀ i j,i < n->j < n->i ≠ j->c0 i j=c i j) {r:List Nat} {x:Nat} {xs:List Nat} (hr:r=x :: xs) (nd:r.Nodup) (l2:2<=r.length) (lt:∀ y∈r,y < n) (bad:¬ Nn (wt c0 (r++[x]))):r=o.drop (o.idxOf x)++o.take (o.idxOf x):=by
 have wn:wt c0 (r++[x]) ≠ none:=fun e=>bad (by rw [e];exact gq _)
 have hx:x < n:=lt x (by rw [hr];exact Zk)
 have n2:=h.n2;have px:=h.pos hx;have rl:r.length<=n:=gy n r nd lt;have getr:∀ k,k < r.length->(r++[x]).getD k 0=r.getD k 0:=fun k hk=>by
  rw [Zs,List.getElem?_append_left hk,<- Zs]
 have getx:(r++[x]).getD r.length 0=x:=by
  rw [Zs,List.getElem?_append_right (ZG _),Nat.sub_self];rfl
 have rlt:∀ k,k < r.length->r.getD k 0 < n:=fun k hk=>by rw [dI hk];exact lt _ (List.getElem_mem _)
 have rinj:∀ k l,k < r.length->l < r.length->r.getD k 0=r.getD l 0->k=l:=fun k l hk hl e=>by
  rw [dI hk,dI hl] at e;have a:=nd.idxOf_getElem k hk;have b:=nd.idxOf_getElem l hl;rw [e] at a;exact a.symm.trans b
 have r0:r.getD 0 0=x:=by rw [hr];rfl
 have step:∀ (a b:Nat),a < n->b < n->a ≠ b->c0 a b ≠ none->∀ k,k < n->a=o.getD k 0->b=o.getD ((k+1) % n) 0:=fun a b ha hb ne q k hk e=>by
  rw [hc a b ha hb ne] at q
  by_cases z:∃ l,l < n/\a=o.getD l 0/\b=o.getD ((l+1) % n) 0
  . obtain ⟨l,hl,e1,e2⟩:=z;have:=h.inj hk hl (e.symm.trans e1);rw [this];exact e2
  . exact absurd (h.non a b ha hb fun l hl e1 e2=>z ⟨l,hl,e1,e2⟩) q
 have at':∀ k,k < r.length->r.getD k 0=o.getD ((o.idxOf x+k) % n) 0:=by
  intro k
  induction k with
  | zero=>intro _;rw [Nat.add_zero,Nat.mod_eq_of_lt px.1,px.2,r0]
  | succ k ih =>
   intro hk;have w:=re (r++[x]) k wn (by rw [Zh,List.length_singleton];omega)
   rw [getr k (by omega),getr (k+1) hk] at w
   have:=step _ _ (rlt k (by omega)) (rlt (k+1) hk) (fun e=>by have:=rinj _ _ (by omega) hk e;omega) w _ (Nat.mod_lt _ (by omega)) (ih (by omega))
   rw [this,Nat.mod_add_mod];rfl
 have full:r.length=n:=by
  have k0:r.length - 1+1=r.length:=by omega
  have w:=re (r++[x]) (r.length - 1) wn (by rw [Zh,List.length_singleton];omega)
  rw [getr _ (by omega),k0,getx] at w
  have ne:r.getD (r.length - 1) 0 ≠ x:=fun e=>by
   have:=rinj (r.length - 1) 0 (by omega) (by omega) (e.trans r0.symm)
   omega
  have:=step _ _ (rlt _ (by omega)) hx ne w _ (Nat.mod_lt _ (by omega)) (at' _ (by omega))
  rw [Nat.mod_add_mod,show o.idxOf x+(r.length - 1)+1=o.idxOf x+r.length by omega] at this
  have q:=h.inj px.1 (Nat.mod_lt _ (by omega)) (px.2.trans this)
  rcases Nat.lt_or_ge (o.idxOf x+r.length) n with z | z
  . rw [Nat.mod_eq_of_lt z] at q;omega
  . have px1:=px.1;rw [Nat.mod_eq_sub_mod z,Nat.mod_eq_of_lt (by omega)] at q
    omega
 refine List.ext_getElem (by rw [Zh,List.length_drop,List.length_take,h.ol,full];have:=px.1;omega) fun k hk hk'=>?_
 rw [<- dI hk,at' k hk];have ol:=h.ol;have px1:=px.1;rcases Nat.lt_or_ge (o.idxOf x+k) n with z | z
 . rw [Nat.mod_eq_of_lt z,dI (by omega),List.getElem_append_left (by rw [List.length_drop];omega),List.getElem_drop]
 . rw [Nat.mod_eq_sub_mod z,Nat.mod_eq_of_lt (by omega),dI (by omega),List.getElem_append_right (by rw [List.length_drop];omega),List.getElem_take]
   congr 1
   rw [List.length_drop];omega
def gS (o:List Nat) (bl:List Bn) (n i j:Nat):Bn:=if o.idxOf j=(o.idxOf i+1) % n then bl.getD (o.idxOf i) none else none
theorem Fu (n2:2<=n) (ol:o.length=n) (ll:bl.length=n) (lt:∀ x∈o,x < n) (nd:o.Nodup):Chn n o bl (gS o bl n):=by
 have ix:∀ k,k < n->o.idxOf (o.getD k 0)=k:=fun k hk=>by
  have k':k < o.length:=by omega
  rw [dI k'];exact nd.idxOf_getElem k k'
 refine ⟨n2,ol,ll,lt,nd,fun k hk=>?_,fun i j hi hj no=>?_⟩
 . unfold gS;rw [ix k hk,ix _ (Nat.mod_lt _ (by omega)),if_pos rfl]
 . unfold gS;split
   . rename_i e;have mem:∀ x,x < n->x∈o:=fun x hx=>by
      by_cases m:x∈o
      . exact m
      . have:=gy n (x :: o) (List.nodup_cons.mpr ⟨m,nd⟩) fun y my=>(Zq.mp my).elim (fun e=>e ▸ hx) (lt y)
        rw [Zj,ol] at this;omega
     have pos:∀ x,x < n->o.idxOf x < n/\o.getD (o.idxOf x) 0=x:=fun x hx=>by
      have l:=List.idxOf_lt_length_of_mem (mem x hx);exact ⟨by rw [<- ol];exact l,by rw [dI l,List.getElem_idxOf]⟩
     exact absurd (by rw [<- e,(pos j hj).2]) (no (o.idxOf i) (pos i hi).1 (pos i hi).2.symm)
   . rfl
def sP (bl:List Bn) (s t:Nat):List Bn:=if t < s then bl.drop s++bl.take t else (bl.drop s).take (t - s)
theorem Ft {s t:Nat} (ll:bl.length=n):sB (sP bl s t)=cy bl n s t:=by
 unfold sP
 by_cases h:t < s
 . rw [if_pos h,ja h,vt];unfold sg;rw [List.drop_zero,Nat.sub_zero,List.take_of_length_le (l:=bl.drop s) (by rw [List.length_drop,ll];exact ZG _)]
 . rw [if_neg h]
   by_cases e:s=t
   . subst e;rw [g9,Nat.sub_self,List.take_zero];rfl
   . rw [i9 (by omega)]
     rfl
theorem zB (ll:bl.length=n):sg bl 0 n=sB bl:=by
 unfold sg;rw [List.drop_zero,Nat.sub_zero,List.take_of_length_le (by omega)]
end Mth
namespace Dl
open PySem PySem.Spec PyProof.Rows L2
structure FlyB (P:Program) (w:World) (H H':Hp) (s:Shared) (l:List Env) (B:Heap) (s':Shared):Prop where
 os:s'.os=s.os
 bare:AllBare s'.gens
 un:Un (frs l) [] H H' s.heap s'.heap
 hok:HOk P w H' B
 keepB:∀ b o,s.heap.get? b=some o->H b=none->b ∉ frs l->B.get? b=some o
 thereB:∀ b o,s.heap.get? b=some o->b ∉ frs l->∃ o',B.get? b=some o'
def G5 (P:Program) (w:World) (H H':Hp) (s:Shared) (l:List Env) (x C:Addr) (s':Shared):Prop :=
 ∃ (B:Heap) (t:Addr),FlyB P w H H' s l B s'/\Heap.FlyingW B l x (.ref C) (.ref t) s'.heap
def CX1 (P:Program) (w:World):CXT:=fun outer H s E e s'=>∃ x C H',e=.ref x/\G5 P w H H' s outer x C s'/\E (.ref C) none H'
section
variable {P:Program} {w:World} {H H':Hp} {s s':Shared} {l:List Env} {B:Heap} {h':Heap}
theorem FlyB.turn (F:FlyB P w H H' s l B s') (hf:s'.heap.FunFrames B l) (st:B.StaysIn h') (up:s'.heap.UpToSlots h'):FlyB P w H H' s l B { s' with heap:=h' } where
 os:=F.os
 bare:=F.bare
 hok:=F.hok
 keepB:=F.keepB
 thereB:=F.thereB
 un:=by
  have sl:∀ b o,s.heap.get? b=some o->H b=none->b∈frs l->∃ sl,h'.get? b=some { o with slots:=sl }:=fun b o e n hb=>by
   obtain ⟨sl,e1⟩:=F.un.slot b o e n hb (by simp)
   obtain ⟨_,o2,ho2,hd⟩:=hf.mem hb;rw [e1] at ho2;cases ho2;obtain ⟨sl2,e2⟩:=up b _ e1 hd;exact ⟨sl2,e2⟩
  refine ⟨fun b o e n hb _=>st b o (F.keepB b o e n hb),fun b o e n hb _=>sl b o e n hb,F.un.free,fun b o e _=>?_,F.un.tups,F.un.frzs,F.un.tbls⟩
  by_cases hb:b∈frs l
  . obtain ⟨o1,e1⟩:=F.un.there b o e (by simp)
    obtain ⟨_,o2,ho2,hd⟩:=hf.mem hb;obtain ⟨sl2,e2⟩:=up b _ ho2 hd;exact ⟨_,e2⟩
  . obtain ⟨o1,e1⟩:=F.thereB b o e hb;exact ⟨o1,st b o1 e1⟩
theorem FlyB.inv {X:Cx} {pins:List (Addr×Obj)} {σ:L2.St} (I:L2.Inv X pins σ H s) (F:FlyB X.prog X.w H H' s X.stack B s') (st:B.StaysIn s'.heap):L2.Inv X pins σ H' s' :=
 I.call' (ch:=[]) F.os F.un (F.hok.kept fun b u e=>st b u e) F.bare (fun b z=>absurd z (by simp))
end
def BK (X:Cx) (C:Addr) (σ:L2.St) (H:Hp):Prop:=∀ (pins:List (Addr×Obj)) (s:Shared) (h':Heap) (e:Addr) (vs:List Value),L2.Inv X pins σ H s->Heap.MadeExcOf s.heap h' e (.ref C) vs->X.xe (.ref e) { s with heap:=h' }
def wx (X:Cx) (C:Addr) (σ:L2.St) (H:Hp):Prop:=∀ (pins:List (Addr×Obj)) (H₀:Hp) (s:Shared) (x:Addr) (s':Shared),L2.Inv X pins σ H₀ s->G5 X.prog X.w H₀ H s X.stack x C s'->X.xe (.ref x) s'
section
variable {P:Program} {w:World} {K:Zu} {mg:Str->Option Value} {base:Heap} {N:List Str} {qual:Str} {scope:Scope} {f:Addr} {cd:Value} {A:Around} {outer:List Env} {s:Shared} {H:Hp} {E:XK}
theorem AH {C:Addr} {σ:L2.St} {H1:Hp} (q:E (.ref C) none H1):BK (ii (CX1 P w) P w K mg base N qual scope f cd A outer s H E) C σ H1:=by
 intro pins s1 h2 e vs I hx;have hin:∀ env∈(ii (CX1 P w) P w K mg base N qual scope f cd A outer s H E).stack,∀ b,env.frame=some b->b∈frs (ii (CX1 P w) P w K mg base N qual scope f cd A outer s H E).stack:=fun env he b hb=>List.mem_filterMap.mpr ⟨env,he,hb⟩
 have fr:=I.stack;have keepB:∀ b o,s.heap.get? b=some o->H b=none->b ∉ frs outer->(PySem.W.hideAll s1.heap (frs (ii (CX1 P w) P w K mg base N qual scope f cd A outer s H E).stack)).get? b=some o:=fun b o e n hb=>by
  refine PySem.W.hideAll_get _ (I.base.keep b o e n hb (fun z=>absurd (show b∈([]:List Addr) from z) (by simp))) fun z=>?_
  rcases Zq.mp (I.stkSub b z) with q | q
  . exact absurd (Heap.lt_size e) (by rw [q];exact ZC _)
  . exact hb q
 have thereB:∀ b o,s.heap.get? b=some o->b ∉ frs outer->∃ o',(PySem.W.hideAll s1.heap (frs (ii (CX1 P w) P w K mg base N qual scope f cd A outer s H E).stack)).get? b=some o':=fun b o e hb=>by
  obtain ⟨o',e1⟩:=I.base.there b o e (fun z=>absurd (show b∈([]:List Addr) from z) (by simp))
  refine ⟨o',PySem.W.hideAll_get _ e1 fun z=>?_⟩
  rcases Zq.mp (I.stkSub b z) with q | q
  . exact absurd (Heap.lt_size e) (by rw [q];exact ZC _)
  . exact hb q
 show wpAny _ _ (leaving _ (.ref e)) _ _ _;refine wpAny_leaves_madeW (base:=PySem.W.hideAll s1.heap (frs (ii (CX1 P w) P w K mg base N qual scope f cd A outer s H E).stack)) (h:=s1.heap) I.ok.frames rfl (fun b o q=>PySem.W.of_hideAll _ q) (PySem.W.funFrames_hide fr hin) hx fun h' t x1 x2 x3 x4=>?_
 refine ⟨e,C,H1,rfl,⟨_,t,⟨I.os,I.bare,⟨fun b o e n hb _=>x1.1 b o (keepB b o e n hb),?_,fun b o e n _=>I.base.free b o e n (fun z=>absurd (show b∈([]:List Addr) from z) (by simp)),?_,I.base.tups,I.base.frzs,I.base.tbls⟩,?_,keepB,thereB⟩,x1⟩,q⟩
 . intro b o e n hb _;obtain ⟨sl,e1⟩:=I.base.slot b o e n hb (fun z=>absurd (show b∈([]:List Addr) from z) (by simp))
   obtain ⟨_,o2,ho2,hd⟩:=I.funs.mem hb;rw [e1] at ho2;cases ho2;obtain ⟨sl2,e2⟩:=x4 b _ (hx.keeps b _ e1) hd;exact ⟨sl2,e2⟩
 . intro b o e _
   by_cases hb:b∈frs outer
   . obtain ⟨_,o2,ho2,hd⟩:=I.funs.mem hb;obtain ⟨sl2,e2⟩:=x4 b _ (hx.keeps b _ ho2) hd;exact ⟨_,e2⟩
   . obtain ⟨o1,e1⟩:=thereB b o e hb;exact ⟨o1,x1.1 b o1 e1⟩
 . intro b u eb;refine (I.hok b u eb).stay (fun c v hc qc=>PySem.W.hideAll_get _ qc fun z=>?_) (fun _ q=>q) (fun _ _ q=>q)
   have:=I.stkFree c z;rcases hc with hc | hc
   . rw [hc,eb] at this;cases this
   . rw [hc] at this;cases this
theorem Df {C:Addr} {σ:L2.St} {H1:Hp} (q:E (.ref C) none H1):wx (ii (CX1 P w) P w K mg base N qual scope f cd A outer s H E) C σ H1:=by
 intro pins H₀ s1 x s' I ⟨B,t,F,hfl⟩;show wpAny _ _ (leaving _ (.ref x)) _ _ _;refine wpAny_leaves_onW I.ok.frames rfl hfl fun h' x1 x4=>?_
 have I1:=FlyB.inv I F hfl.1;have sub:∀ b,b∈frs outer->b∈frs (ii (CX1 P w) P w K mg base N qual scope f cd A outer s H E).stack:=fun b hb=>by
  show b∈List.filterMap _ (_ :: outer);rw [List.filterMap_cons];exact Zl _ hb
 have nin:∀ b o,s.heap.get? b=some o->b ∉ frs outer->b ∉ frs (ii (CX1 P w) P w K mg base N qual scope f cd A outer s H E).stack:=fun b o e hb z=>by
  rcases Zq.mp (I.stkSub b z) with q | q
  . exact absurd (Heap.lt_size e) (by rw [q];exact ZC _)
  . exact hb q
 have keepB:∀ b o,s.heap.get? b=some o->H b=none->b ∉ frs outer->B.get? b=some o:=fun b o e n hb =>
  F.keepB b o (I.base.keep b o e n hb (fun z=>absurd (show b∈([]:List Addr) from z) (by simp))) (I.base.free b o e n (fun z=>absurd (show b∈([]:List Addr) from z) (by simp))) (nin b o e hb)
 have thereB:∀ b o,s.heap.get? b=some o->b ∉ frs outer->∃ o',B.get? b=some o':=fun b o e hb=>by
  obtain ⟨o',e1⟩:=I.base.there b o e (fun z=>absurd (show b∈([]:List Addr) from z) (by simp))
  exact F.thereB b o' e1 (nin b o e hb)
 refine ⟨x,C,H1,rfl,⟨B,t,⟨F.os.trans I.os,F.bare,⟨fun b o e n hb _=>x1.1 b o (keepB b o e n hb),?_,fun b o e n _=>I1.base.free b o e n (fun z=>absurd (show b∈([]:List Addr) from z) (by simp)),?_,I1.base.tups,I1.base.frzs,I1.base.tbls⟩,F.hok,keepB,thereB⟩,x1⟩,q⟩
 . intro b o e n hb _;obtain ⟨sl,e1⟩:=I1.base.slot b o e n hb (fun z=>absurd (show b∈([]:List Addr) from z) (by simp))
   obtain ⟨_,o2,ho2,hd⟩:=I1.funs.mem hb;rw [e1] at ho2;cases ho2;obtain ⟨sl2,e2⟩:=x4 b _ e1 hd;exact ⟨sl2,e2⟩
 . intro b o e _
   by_cases hb:b∈frs outer
   . obtain ⟨_,o2,ho2,hd⟩:=I1.funs.mem hb;obtain ⟨sl2,e2⟩:=x4 b _ ho2 hd;exact ⟨_,e2⟩
   . obtain ⟨o1,e1⟩:=thereB b o e hb;exact ⟨o1,x1.1 b o1 e1⟩
end
end Dl
namespace Dl
open PySem PySem.Spec PyProof.Rows L2
inductive D where
 | non
 | bl (b:Bool)
 | int (i:Int)
 | str (x:Str)
 | tup (ds:List D)
 | lst (ds:List D)
 | seq (ds:List D)
 | ty (n:String)
 | dct
 | exc (C:Addr)
 | cls (C:Addr)
 | ms (ks:List Int) (ds:List D)
 | mf (ks:List Int) (ds:List D)
 | md (ks:List Int) (ds:List D)
def Hu (a:Addr):HO:=.ext fun h=>∃ o,h.get? a=some o/\o.cls=.type "dict"
def BN (a C:Addr):HO:=.ext fun h=>∃ o vs,h.get? a=some o/\o.cls=.ref C/\o.data=.fields vs
mutual
inductive Rep (K:Zu) (H:Hp):V->D->Prop
 | non:Rep K H .non .non
 | bl (b:Bool):Rep K H (.bl b) (.bl b)
 | int (i:Int):Rep K H (.int i) (.int i)
 | str (x:Str):Rep K H (.str x) (.str x)
 | ty (n:String):Rep K H (.ty n) (.ty n)
 | tup {a:Addr} {vs:List V} {ds:List D} (h:SqT K H a vs) (r:Reps K H vs ds):Rep K H (.ref a) (.tup ds)
 | lst {a:Addr} {vs:List V} {ds:List D} (h:H a=some (.lst vs)) (r:Reps K H vs ds):Rep K H (.ref a) (.lst ds)
 | seq {a:Addr} {vs:List V} {ds:List D} (h:SqL K H a vs) (r:Reps K H vs ds):Rep K H (.ref a) (.seq ds)
 | dct {a:Addr} (h:H a=some (Hu a)):Rep K H (.ref a) .dct
 | exc {a C:Addr} (h:H a=some (BN a C)):Rep K H (.ref a) (.exc C)
 | cls (C:Addr):Rep K H (.ref C) (.cls C)
 | ms {a:Addr} {ks:List Int} {vs:List V} {ds:List D} (h:Rd H a (.dK ((ks.map Sum.inl).zip vs))) (l:ks.length=ds.length) (r:Reps K H vs ds):Rep K H (.ref a) (.ms ks ds)
 | mf {a:Addr} {ks:List Int} {vs:List V} {ds:List D} (h:∃ o,H a=some (.frz o (.dK ((ks.map Sum.inl).zip vs)))) (l:ks.length=ds.length) (r:Reps K H vs ds):Rep K H (.ref a) (.mf ks ds)
 | md {a:Addr} {ks:List Int} {vs:List V} {ds:List D} (h:H a=some (.dK ((ks.map Sum.inl).zip vs))) (l:ks.length=ds.length) (r:Reps K H vs ds):Rep K H (.ref a) (.md ks ds)
inductive Reps (K:Zu) (H:Hp):List V->List D->Prop
 | nil:Reps K H [] []
 | cons {v:V} {d:D} {vs:List V} {ds:List D} (r:Rep K H v d) (t:Reps K H vs ds):Reps K H (v :: vs) (d :: ds)
end
theorem nZ {K:Zu} {H H':Hp} {a:Addr} {xs:List V} (e:Same H H') (h:SqT K H a xs):SqT K H' a xs:=by
 rcases h with (h | ⟨o,h⟩) | h
 . exact .inl (.inl (e _ _ h))
 . exact .inl (.inr ⟨o,e _ _ h⟩)
 . exact .inr h
mutual
theorem Rep.mono {K:Zu} {H H':Hp} (e:Same H H'):∀ {v:V} {d:D},Rep K H v d->Rep K H' v d
 | _,_,.non=>.non
 | _,_,.bl b=>.bl b
 | _,_,.int i=>.int i
 | _,_,.str x=>.str x
 | _,_,.ty n=>.ty n
 | _,_,.tup h r=>.tup (nZ e h) (Reps.mono e r)
 | _,_,.lst h r=>.lst (e _ _ h) (Reps.mono e r)
 | _,_,.seq h r=>.seq (e.seq h) (Reps.mono e r)
 | _,_,.dct h=>.dct (e _ _ h)
 | _,_,.exc h=>.exc (e _ _ h)
 | _,_,.cls C=>.cls C
 | _,_,.ms h l r=>.ms (h.imp (e _ _) fun ⟨o,h⟩=>⟨o,e _ _ h⟩) l (Reps.mono e r)
 | _,_,.mf ⟨o,h⟩ l r=>.mf ⟨o,e _ _ h⟩ l (Reps.mono e r)
 | _,_,.md h l r=>.md (e _ _ h) l (Reps.mono e r)
theorem Reps.mono {K:Zu} {H H':Hp} (e:Same H H'):∀ {vs:List V} {ds:List D},Reps K H vs ds->Reps K H' vs ds
 | _,_,.nil=>.nil
 | _,_,.cons r t=>.cons (Rep.mono e r) (Reps.mono e t)
end
theorem Reps.length {K:Zu} {H:Hp}:∀ {vs:List V} {ds:List D},Reps K H vs ds->vs.length=ds.length
 | _,_,.nil=>rfl
 | _,_,.cons _ t=>congrArg (· + 1) (Reps.length t)
theorem Reps.get {K:Zu} {H:Hp}:∀ {vs:List V} {ds:List D} {i:Nat} {d:D},Reps K H vs ds->ds[i]? = some d->∃ v,vs[i]? = some v/\Rep K H v d
 | _,_,_,_,.nil,e=>by simp at e
 | _,_,0,_,.cons r _,e=>by simp at e;subst e;exact ⟨_,rfl,r⟩
 | _,_,i+1,d,.cons _ t,e=>by
  obtain ⟨v,h1,h2⟩:=Reps.get (i:=i) (d:=d) t (by simpa using e)
  exact ⟨v,by simpa using h1,h2⟩
theorem Reps.getV {K:Zu} {H:Hp}:∀ {vs:List V} {ds:List D} {i:Nat} {v:V},Reps K H vs ds->vs[i]? = some v->∃ d,ds[i]? = some d/\Rep K H v d
 | _,_,_,_,.nil,e=>by simp at e
 | _,_,0,_,.cons r _,e=>by simp at e;subst e;exact ⟨_,rfl,r⟩
 | _,_,i+1,d,.cons _ t,e=>by
  obtain ⟨v,h1,h2⟩:=Reps.getV (i:=i) (v:=d) t (by simpa using e)
  exact ⟨v,by simpa using h1,h2⟩
theorem Reps.append {K:Zu} {H:Hp}:∀ {vs us:List V} {ds es:List D},Reps K H vs ds->Reps K H us es->Reps K H (vs++us) (ds++es)
 | _,_,_,_,.nil,s=>s
 | _,_,_,_,.cons r t,s=>.cons r (Reps.append t s)
theorem Reps.take {K:Zu} {H:Hp}:∀ {vs:List V} {ds:List D} (n:Nat),Reps K H vs ds->Reps K H (vs.take n) (ds.take n)
 | _,_,0,_=>.nil
 | _,_,_+1,.nil=>.nil
 | _,_,n+1,.cons r t=>.cons r (Reps.take n t)
theorem Reps.drop {K:Zu} {H:Hp}:∀ {vs:List V} {ds:List D} (n:Nat),Reps K H vs ds->Reps K H (vs.drop n) (ds.drop n)
 | _,_,0,r=>r
 | _,_,_+1,.nil=>.nil
 | _,_,n+1,.cons _ t=>Reps.drop n t
theorem Reps.ints {K:Zu} {H:Hp}:∀ (ns:List Int),Reps K H (ns.map V.int) (ns.map D.int)
 | []=>.nil
 | n :: r=>.cons (.int n) (Reps.ints r)
theorem Reps.atI {K:Zu} {H:Hp} {vs:List V} {ds:List D} {i:Int} {d:D} (r:Reps K H vs ds) (e:L2.atI ds i=some d):∃ v,L2.atI vs i=some v/\Rep K H v d:=by
 unfold L2.atI at e ⊢;rw [<- r.length] at e;obtain ⟨j,h1,h2⟩:=Za.mp e;obtain ⟨v,h3,h4⟩:=r.get h2;exact ⟨v,by rw [h1];exact h3,h4⟩
abbrev DS:=List (Option D)
structure RepS (K:Zu) (H:Hp) (σ:L2.St) (δ:DS):Prop where
 len:σ.length=δ.length
 val:∀ (i:Nat) (d:D),δ[i]? = some (some d)->∃ v,σ[i]? = some (some v)/\Rep K H v d
theorem RepS.mono {K:Zu} {H H':Hp} {σ:L2.St} {δ:DS} (e:Same H H') (h:RepS K H σ δ):RepS K H' σ δ :=
 ⟨h.len,fun i d q=>let ⟨v,a,b⟩:=h.val i d q;⟨v,a,b.mono e⟩⟩
theorem RepS.set {K:Zu} {H:Hp} {σ:L2.St} {δ:DS} {v:V} {d:D} (h:RepS K H σ δ) (i:Nat) (r:Rep K H v d):RepS K H (σ.set i (some v)) (δ.set i (some d)):=by
 refine ⟨by rw [List.length_set,List.length_set];exact h.len,fun j e q=>?_⟩
 have hl:=h.len;rw [List.getElem?_set] at q ⊢
 by_cases hj:i=j
 . subst hj;rw [if_pos rfl] at q ⊢
   by_cases hi:i < δ.length
   . rw [if_pos hi] at q;rw [if_pos (by omega)]
     have:d=e:=by simpa using q
     subst this;exact ⟨v,rfl,r⟩
   . rw [if_neg hi] at q;cases q
 . rw [if_neg hj] at q ⊢;exact h.val j e q
theorem RepS.start {K:Zu} {H:Hp} {N:List Str} {vs:List V} {ds:List D} (r:Reps K H vs ds):RepS K H (L2.start N vs) (ds.map some++List.replicate (N.length - ds.length) none):=by
 unfold L2.start;refine ⟨by simp [r.length],fun i d q=>?_⟩
 have hi:i < ds.length:=by
  by_cases hi:i < ds.length
  . exact hi
  . rw [List.getElem?_append_right (by simpa using hi),List.getElem?_replicate] at q
    split at q <;> cases q
 rw [List.getElem?_append_left (by simpa using hi),ZD] at q
 obtain ⟨e,h1,h2⟩:=Zb.mp q;cases h2;obtain ⟨v,h3,h4⟩:=r.get h1;have hv:i < vs.length:=by rw [r.length];exact hi
 exact ⟨v,by rw [List.getElem?_append_left (by simpa using hv),ZD,h3];rfl,h4⟩
abbrev FD:=DS->Option D
def up (K:Zu) (f:FD):TE:=fun σ H Q=>∃ δ d,RepS K H σ δ/\f δ=some d/\∀ v H',Same H H'->Rep K H' v d->Q v H'
def PD (X:Cx) (e:Expr) (f:FD):Prop:=PE X e (up X.K f)
theorem imp {X:Cx} {e:Expr} {t t':TE} (h:PE X e t) (w:∀ σ H Q,t' σ H Q->t σ H Q):PE X e t':=fun pins s σ H Q I q=>h pins s σ H Q I (w σ H Q q)
theorem bQ {H:Hp} {p:Addr} (h:H p=none) (o:HO):Same H (upd H p o):=fun b u q=>by rw [aB (bw q h)];exact q
def ah (i:Nat):FD:=fun δ=>match δ[i]? with
 | some (some d)=>some d
 | _=>none
def fC (d:D):FD:=fun _=>some d
def f2 (g:D->D->Option D) (fa fb:FD):FD:=fun δ=>(fa δ).bind fun x=>(fb δ).bind fun y=>g x y
def f1 (g:D->Option D) (fa:FD):FD:=fun δ=>(fa δ).bind g
section
variable {X:Cx} {a b e:Expr} {fa fb f:FD} {pos:Pos}
theorem aa (i:Nat) {x:Str} (hN:X.N[i]? = some x:=by rfl) (hv:Vis X.env.scope x:=by first | exact Or.inl rfl | exact Or.inr (Or.inl rfl) | exact Or.inr (Or.inr rfl)) (hd:(x == ("__debug__":Str))=false:=by decide)
 (hcd:(x == ("__classdict__":Str))=false:=by decide):PD X (.Name x pos) (ah i) :=
 imp (lI hN hv hd hcd) fun σ H Q ⟨δ,d,R,e,k⟩=>by
  unfold ah at e;split at e
  . rename_i d' h;cases e;obtain ⟨v,h1,h2⟩:=R.val i _ h;exact ⟨v,h1,k v H (Same.refl H) h2⟩
  . cases e
theorem ao {i j}:PD X (.Constant (.int i) j pos) (fC (.int i)):=imp EG fun σ H Q ⟨δ,d,R,e,k⟩=>by cases e;exact k _ H (Same.refl H) (.int i)
theorem gH {b j}:PD X (.Constant (.bool b) j pos) (fC (.bl b)):=imp GB fun σ H Q ⟨δ,d,R,e,k⟩=>by cases e;exact k _ H (Same.refl H) (.bl b)
theorem bp {j}:PD X (.Constant .none j pos) (fC .non):=imp EF fun σ H Q ⟨δ,d,R,e,k⟩=>by cases e;exact k _ H (Same.refl H) .non
theorem jh {x j}:PD X (.Constant (.str x) j pos) (fC (.str x)):=imp EC fun σ H Q ⟨δ,d,R,e,k⟩=>by cases e;exact k _ H (Same.refl H) (.str x)
theorem oz {x:Str} {n:String} (hg:Gl X x) (hm:X.mg x=none) (hv:bootBuiltins x=some (.type n)) (hn:x ≠ "__name__":=by decide) (hd:(x == ("__debug__":Str))=false:=by decide):PD X (.Name x pos) (fC (.ty n)) :=
 imp (Ct (v:=.ty n) hg hm hv rfl hn hd) fun σ H Q ⟨δ,d,R,e,k⟩=>by cases e;exact k _ H (Same.refl H) (.ty n)
def R2D (K:Zu) (r:R2) (g:D->D->Option D):Prop :=
 ∀ (x y:V) (H:Hp) (Q:VK) (a b d:D),Rep K H x a->Rep K H y b->g a b=some d->(∀ w H',Same H H'->Rep K H' w d->Q w H')->r x y H Q
theorem C4 {r:R2} {g:D->D->Option D} (hg:R2D X.K r g) {σ:L2.St} {H:Hp} {Q:VK} (h:up X.K (f2 g fa fb) σ H Q):tOp r (up X.K fa) (up X.K fb) σ H Q:=by
 obtain ⟨δ,d,R,e,k⟩:=h;unfold f2 at e;obtain ⟨x,ex,e⟩:=Za.mp e;obtain ⟨y,ey,e⟩:=Za.mp e;exact ⟨δ,x,R,ex,fun v H1 s1 r1=>⟨δ,y,R.mono s1,ey,fun w H2 s2 r2=>hg v w H2 Q x y d (r1.mono s2) r2 e fun z H' s3=>k z H' ((s1.trans s2).trans s3)⟩⟩
theorem oA {op:Operator} {r:R2} {g:D->D->Option D} (ho:OpR X (binaryOp op) r) (hg:R2D X.K r g) (ha:PD X a fa) (hb:PD X b fb):PD X (.BinOp a op b pos) (f2 g fa fb) :=
 imp (Ai ho ha hb) fun _ _ _=>C4 hg
theorem oB {op:CmpOp} {r:R2} {g:D->D->Option D} (ho:OpR X (compareOp op) r) (hg:R2D X.K r g) (ha:PD X a fa) (hb:PD X b fb) (hm:behindInMarks op b=false):PD X (.Compare a [op] [b] pos) (f2 g fa fb) :=
 imp (Cr ho ha hb hm) fun _ _ _=>C4 hg
theorem EI {r:R2} {g:D->D->Option D} (hr:IxR X r) (hg:R2D X.K r g) (ha:PD X a fa) (hb:PD X b fb) (hs:nQ b):PD X (.Subscript a b pos) (f2 g fa fb) :=
 imp (mC hr ha hb hs) fun _ _ _=>C4 hg
theorem R2D.or {K:Zu} {r r':R2} {g g':D->D->Option D} (h:R2D K r g) (h':R2D K r' g'):R2D K (fun x y H Q=>r x y H Q \/ r' x y H Q) (fun a b=>(g a b).or (g' a b)):=by
 intro x y H Q a b d ra rb e k;cases q:g a b with
 | some z =>
  have e':(g a b).or (g' a b)=some d:=e;rw [q] at e';cases e';exact .inl (h x y H Q a b _ ra rb q k)
 | none =>
  have e':(g a b).or (g' a b)=some d:=e;rw [q] at e';exact .inr (h' x y H Q a b d ra rb e' k)
end
def Bd (x:Int):Prop:=x.natAbs < 2 ^ 9000
instance (x:Int):Decidable (Bd x):=by unfold Bd;exact inferInstance
theorem Bd.bits {x:Int} (h:Bd x):Builtin.Int.intBits x<=2 ^ 20:=by
 have h':x.natAbs < 2 ^ (2 ^ 20):=Zw h (Nat.pow_le_pow_right (by decide) (by decide))
 exact PySem.intBits_le_iff.mpr h'
theorem Bd.log {x:Int} (h:Bd x) (h0:x ≠ 0):x.natAbs.log2 < 9000:=(Nat.log2_lt (by omega)).mpr h
section
variable {X:Cx} {K:Zu}
def bZ (i j:Int):Prop:=Bd i/\Bd j
theorem CC:OpR X (binaryOp .Mult) (rI bZ fun i j=>.int (i*j)):=opI fun _ _ _ _ _ _ _ hc q=>mul_int q (.of_bits hc.1.bits hc.2.bits)
def ba (_ j:Int):Prop:=0 < j/\Bd j
theorem Av:OpR X (binaryOp .FloorDiv) (rI ba fun i j=>.int (i / j)):=opI fun i j _ _ _ _ _ hc q=>by
 have h1:(0:Int) < j:=hc.1;exact floordiv_int (by omega) (by rw [Int.fdiv_eq_ediv_of_nonneg i (by omega)];exact q) (.inl (PyProof.noPylong_of_log2 (hc.2.log (by omega))))
def gI0 (g:Int->Int->D):D->D->Option D
 | .int i,.int j=>some (g i j)
 | _,_=>none
def gI (C:Int->Int->Prop) [∀ i j,Decidable (C i j)] (g:Int->Int->D):D->D->Option D
 | .int i,.int j=>if C i j then some (g i j) else none
 | _,_=>none
instance (i j:Int):Decidable (bZ i j):=by unfold bZ;exact inferInstance
instance (i j:Int):Decidable (ba i j):=by unfold ba;exact inferInstance
instance (i j:Int):Decidable (zo i j):=by unfold zo;exact inferInstance
theorem qt {g:Int->Int->V} {g':Int->Int->D} (h:∀ H i j,Rep K H (g i j) (g' i j)):R2D K (rI0 g) (gI0 g'):=by
 intro x y H Q a b d ra rb e k;cases ra with
 | int i =>
  cases rb with
  | int j=>cases e;exact ⟨i,j,rfl,rfl,k _ H (Same.refl H) (h H i j)⟩
  | _=>cases e
 | _=>cases e
theorem zU {C:Int->Int->Prop} [∀ i j,Decidable (C i j)] {g:Int->Int->V} {g':Int->Int->D} (h:∀ H i j,Rep K H (g i j) (g' i j)):R2D K (rI C g) (gI C g'):=by
 intro x y H Q a b d ra rb e k;cases ra with
 | int i =>
  cases rb with
  | int j =>
   have e':(if C i j then some (g' i j) else none)=some d:=e
   by_cases hc:C i j
   . rw [if_pos hc] at e';cases e';exact ⟨i,j,rfl,rfl,hc,k _ H (Same.refl H) (h H i j)⟩
   . rw [if_neg hc] at e';cases e'
  | _=>cases e
 | _=>cases e
end
def yW:D->D->Option D
 | .lst xs,.lst ys=>if xs.length+ys.length<=1000 then some (.lst (xs++ys)) else none
 | _,_=>none
theorem db {n:Nat} (h:n<=1000):n<=sizeLine:=Nat.le_of_lt (jF h)
theorem Em {K:Zu}:R2D K Gr yW:=by
 intro x y H Q a b d ra rb e k;cases ra with
 | @lst p xs ds hp rp =>
  cases rb with
  | @lst q ys es hq rq =>
   have e':(if ds.length+es.length<=1000 then some (D.lst (ds++es)) else none)=some d:=e
   by_cases hc:ds.length+es.length<=1000
   . rw [if_pos hc] at e';cases e';refine ⟨p,q,xs,ys,rfl,rfl,hp,hq,db (by rw [rp.length,rq.length];exact hc),fun l hl=>?_⟩
     have s:=bQ hl (.lst (xs++ys));exact k _ _ s (.lst aP ((rp.append rq).mono s))
   . rw [if_neg hc] at e';cases e'
  | _=>cases e
 | _=>cases e
def jd:D->D->Option D:=fun a b=>(gI0 (fun i j=>.int (i+j)) a b).or (yW a b)
def gIx:D->D->Option D
 | .tup ds,.int i=>L2.atI ds i
 | .lst ds,.int i=>L2.atI ds i
 | .seq ds,.int i=>L2.atI ds i
 | _,_=>none
theorem Gu {K:Zu}:R2D K (fun x y H Q=>zR K x y H Q \/ Gk K x y H Q) gIx:=by
 intro x y H Q a b d ra rb e k;cases rb with
 | int i =>
  cases ra with
  | @tup p vs ds hp rp =>
   have e':L2.atI ds i=some d:=e;obtain ⟨v,h1,h2⟩:=rp.atI e';exact .inr ⟨p,vs,i,v,rfl,rfl,hp,h1,k v H (Same.refl H) h2⟩
  | @lst p vs ds hp rp =>
   have e':L2.atI ds i=some d:=e;obtain ⟨v,h1,h2⟩:=rp.atI e';exact .inl ⟨p,vs,i,v,rfl,rfl,SqL.of hp,h1,k v H (Same.refl H) h2⟩
  | @seq p vs ds hp rp =>
   have e':L2.atI ds i=some d:=e;obtain ⟨v,h1,h2⟩:=rp.atI e';exact .inl ⟨p,vs,i,v,rfl,rfl,hp,h1,k v H (Same.refl H) h2⟩
  | _=>cases e
 | _=>cases ra <;> cases e
section
variable {X:Cx} {a b e:Expr} {fa fb f:FD} {pos:Pos}
theorem dk (ha:PD X a fa) (hb:PD X b fb):PD X (.BinOp a .Add b pos) (f2 jd fa fb):=oA (op_add.or Ay) ((qt fun _ _ _=>.int _).or Em) ha hb
theorem rS (ha:PD X a fa) (hb:PD X b fb):PD X (.BinOp a .Sub b pos) (f2 (gI0 fun i j=>.int (i - j)) fa fb):=oA EN (qt fun _ _ _=>.int _) ha hb
theorem cF (ha:PD X a fa) (hb:PD X b fb):PD X (.BinOp a .Mult b pos) (f2 (gI bZ fun i j=>.int (i*j)) fa fb):=oA CC (zU fun _ _ _=>.int _) ha hb
theorem bV (ha:PD X a fa) (hb:PD X b fb):PD X (.BinOp a .FloorDiv b pos) (f2 (gI ba fun i j=>.int (i / j)) fa fb):=oA Av (zU fun _ _ _=>.int _) ha hb
theorem cV (ha:PD X a fa) (hb:PD X b fb):PD X (.BinOp a .Mod b pos) (f2 (gI (fun _ j=>0 < j) fun i j=>.int (i % j)) fa fb):=oA ES (zU fun _ _ _=>.int _) ha hb
theorem Am (ha:PD X a fa) (hb:PD X b fb):PD X (.BinOp a .Pow b pos) (f2 (gI zo fun i j=>.int (i ^ j.toNat)) fa fb):=oA EO (zU fun _ _ _=>.int _) ha hb
theorem av (ha:PD X a fa) (hb:PD X b fb) (hs:nQ b:=by intro _ _;rfl):PD X (.Subscript a b pos) (f2 gIx fa fb):=EI (ix_list.or AS) Gu ha hb hs
def lV:D->Option D
 | .int i=>some (.int (-i))
 | _=>none
theorem jm (ha:PD X a fa):PD X (.UnaryOp .USub a pos) (f1 lV fa):=imp (Gz D4 ha) fun σ H Q ⟨δ,d,R,e,k⟩=>by
 unfold f1 at e;obtain ⟨x,ex,e⟩:=Za.mp e;refine ⟨δ,x,R,ex,fun v H1 s1 r1=>?_⟩
 cases r1 with
 | int i=>cases e;exact ⟨i,rfl,k _ H1 s1 (.int _)⟩
 | _=>cases e
end
abbrev FT:=DS->Option Bool
def upT (K:Zu) (f:FT):TT:=fun σ H Q=>∃ δ b,RepS K H σ δ/\f δ=some b/\∀ H',Same H H'->Q b H'
def PTD (X:Cx) (e:Expr) (f:FT):Prop:=PT X e (upT X.K f)
def PWD (X:Cx) (e:Expr) (f:FT):Prop:=PW X e (upT X.K f)
theorem C0 {X:Cx} {e:Expr} {t t':TT} (h:PT X e t) (w:∀ σ H Q,t' σ H Q->t σ H Q):PT X e t':=fun pins s σ H Q I q=>h pins s σ H Q I (w σ H Q q)
theorem GP {X:Cx} {e:Expr} {t t':TT} (h:PW X e t) (w:∀ σ H Q,t' σ H Q->t σ H Q):PW X e t':=fun wh pins s σ H Q I q=>h wh pins s σ H Q I (w σ H Q q)
def asB:D->Option Bool
 | .bl b=>some b
 | _=>none
def fT (f:FD):FT:=fun δ=>(f δ).bind asB
def bX (f:FT):FT:=fun δ=>(f δ).map not
def jx (f g:FT):FT:=fun δ=>(f δ).bind fun b=>match b with
 | true=>g δ
 | false=>some false
def eK (f g:FT):FT:=fun δ=>(f δ).bind fun b=>match b with
 | true=>some true
 | false=>g δ
section
variable {X:Cx} {a b e:Expr} {fa fb f:FD} {ta tb:FT} {rest:List Expr} {pos:Pos}
theorem wu {K:Zu} {t:TE} (w:∀ σ H Q,up K f σ H Q->t σ H Q) {σ:L2.St} {H:Hp} {Q:Bool->Hp->Prop} (h:upT K (fT f) σ H Q):t σ H fun x H1=>∃ c,x=.bl c/\Q c H1:=by
 obtain ⟨δ,b,R,e,k⟩:=h;unfold fT at e;obtain ⟨d,ed,e⟩:=Za.mp e;refine w σ H _ ⟨δ,d,R,ed,fun v H' s r=>?_⟩
 cases r with
 | bl c=>cases e;exact ⟨_,rfl,k H' s⟩
 | _=>cases e
theorem bU (h:PD X e f) (he:∀ whole,isTrue e X.env whole=(do let v <- whole;standAt e.pos;holding [v] (truthy v)):=by intro _;rfl):PTD X e (fT f) :=
 C0 (Ew h he) fun _ _ _ q=>wu (fun _ _ _ z=>z) q
theorem gk {op:CmpOp} {r:R2} {g:D->D->Option D} (ho:OpR X (compareOp op) r) (hg:R2D X.K r g) (ha:PD X a fa) (hb:PD X b fb) (hm:behindInMarks op b=false):PTD X (.Compare a [op] [b] pos) (fT (f2 g fa fb)) :=
 C0 (Ce ho ha hb hm) fun _ _ _ q=>wu (fun _ _ _ z=>C4 hg z) q
theorem c9 (ha:PTD X a ta):PTD X (.UnaryOp .Not a pos) (bX ta):=C0 (Ex ha) fun σ H Q ⟨δ,b,R,e,k⟩=>by
 unfold bX at e;obtain ⟨c,ec,e⟩:=Zb.mp e;exact ⟨δ,c,R,ec,fun H' s=>by have:=k H' s;rw [<- e] at this;exact this⟩
theorem PWD.pt (h:PWD X e ta):PTD X e ta:=h _
theorem ot (ha:PTD X a ta):PWD X (.BoolOp .And [a] pos) ta:=Cc ha
theorem gj (ha:PTD X a ta):PWD X (.BoolOp .Or [a] pos) ta:=Er ha
theorem rL (ha:PTD X a ta) (hb:PWD X (.BoolOp .And (b :: rest) pos) tb):PWD X (.BoolOp .And (a :: b :: rest) pos) (jx ta tb):=GP (Es ha hb) fun σ H Q ⟨δ,c,R,e,k⟩=>by
 unfold jx at e;obtain ⟨d,ed,e⟩:=Za.mp e;refine ⟨δ,d,R,ed,fun H' s=>?_⟩
 cases d with
 | true=>exact ⟨δ,c,R.mono s,e,fun H2 s2=>k H2 (s.trans s2)⟩
 | false=>cases e;exact k H' s
theorem gG (ha:PTD X a ta) (hb:PWD X (.BoolOp .Or (b :: rest) pos) tb):PWD X (.BoolOp .Or (a :: b :: rest) pos) (eK ta tb):=GP (Gw ha hb) fun σ H Q ⟨δ,c,R,e,k⟩=>by
 unfold eK at e;obtain ⟨d,ed,e⟩:=Za.mp e;refine ⟨δ,d,R,ed,fun H' s=>?_⟩
 cases d with
 | false=>exact ⟨δ,c,R.mono s,e,fun H2 s2=>k H2 (s.trans s2)⟩
 | true=>cases e;exact k H' s
def i8 (f g:FD):FD:=fun δ=>(f δ).bind fun x=>match x with
 | .bl true=>g δ
 | .bl false=>some (.bl false)
 | _=>none
def pW (f g:FD):FD:=fun δ=>(f δ).bind fun x=>match x with
 | .bl true=>some (.bl true)
 | .bl false=>g δ
 | _=>none
def vU:D->Option D
 | .bl b=>some (.bl (!b))
 | _=>none
theorem iO {op} (h:PD X a f):PD X (.BoolOp op [a] pos) f:=ED h
theorem lK (ha:PD X a fa) (hb:PD X (.BoolOp .And (b :: rest) pos) fb):PD X (.BoolOp .And (a :: b :: rest) pos) (i8 fa fb):=imp (EH ha hb) fun σ H Q ⟨δ,d,R,e,k⟩=>by
 unfold i8 at e;obtain ⟨x,ex,e⟩:=Za.mp e;refine ⟨δ,x,R,ex,fun v H1 s1 r1=>?_⟩
 cases r1 with
 | bl c =>
  refine ⟨c,rfl,?_⟩;cases c with
  | true=>rw [if_pos rfl];exact ⟨δ,d,R.mono s1,e,fun w H2 s2=>k w H2 (s1.trans s2)⟩
  | false=>rw [if_neg Zv];cases e;exact k _ H1 s1 (.bl false)
 | _=>cases e
theorem An (ha:PD X a fa) (hb:PD X (.BoolOp .Or (b :: rest) pos) fb):PD X (.BoolOp .Or (a :: b :: rest) pos) (pW fa fb):=imp (GA ha hb) fun σ H Q ⟨δ,d,R,e,k⟩=>by
 unfold pW at e;obtain ⟨x,ex,e⟩:=Za.mp e;refine ⟨δ,x,R,ex,fun v H1 s1 r1=>?_⟩
 cases r1 with
 | bl c =>
  refine ⟨c,rfl,?_⟩;cases c with
  | true=>rw [if_pos rfl];cases e;exact k _ H1 s1 (.bl true)
  | false=>rw [if_neg Zv];exact ⟨δ,d,R.mono s1,e,fun w H2 s2=>k w H2 (s1.trans s2)⟩
 | _=>cases e
theorem lJ (ha:PD X a fa):PD X (.UnaryOp .Not a pos) (f1 vU fa):=imp (EE ha) fun σ H Q ⟨δ,d,R,e,k⟩=>by
 unfold f1 at e;obtain ⟨x,ex,e⟩:=Za.mp e;refine ⟨δ,x,R,ex,fun v H1 s1 r1=>?_⟩
 cases r1 with
 | bl c=>cases e;exact ⟨c,rfl,k _ H1 s1 (.bl _)⟩
 | _=>cases e
end
abbrev FA:=DS->Option (List D)
def upA (K:Zu) (n:Nat) (f:FA):TA:=fun σ H Q=>∃ δ ds,RepS K H σ δ/\f δ=some ds/\∀ vs H',Same H H'->Reps K H' vs ds->vs.length=n->Q vs H'
def PAD (X:Cx) (es:List Expr) (f:FA):Prop:=PA X es (upA X.K es.length f)
theorem C2 {X:Cx} {es:List Expr} {t t':TA} (h:PA X es t) (w:∀ σ H Q,t' σ H Q->t σ H Q):PA X es t':=fun pos pins s σ H Q I q=>h pos pins s σ H Q I (w σ H Q q)
def ak:FA:=fun _=>some []
def af (f:FD) (g:FA):FA:=fun δ=>(f δ).bind fun x=>(g δ).bind fun xs=>some (x :: xs)
def bz (K:Zu) (n:Nat) (G:List D->Option D):Sp:=fun vs H Q _=>vs.length=n/\∃ ds d,Reps K H vs ds/\G ds=some d/\∀ v H',Same H H'->Rep K H' v d->Q v H'
def jR (g:FA):FD:=fun δ=>(g δ).bind fun ds=>some (.tup ds)
def kl (g:FA):FD:=fun δ=>(g δ).bind fun ds=>some (.lst ds)
def au (G:List D->Option D) (g:FA):FD:=fun δ=>(g δ).bind G
section
variable {X:Cx} {e:Expr} {es:List Expr} {f:FD} {g:FA} {pos p:Pos}
theorem aj:PAD X [] ak:=C2 jo fun σ H Q ⟨δ,ds,R,e,k⟩=>by cases e;exact k [] H (Same.refl H) .nil rfl
theorem ae (ha:PD X e f) (hr:PAD X es g) (hs:starEach (e :: es) X.env=(false,eval e X.env) :: starEach es X.env:=by rfl):PAD X (e :: es) (af f g):=C2 (d6 ha hr hs) fun σ H Q ⟨δ,ds,R,q,k⟩=>by
 unfold af at q;obtain ⟨x,ex,q⟩:=Za.mp q;obtain ⟨xs,exs,q⟩:=Za.mp q;cases q;exact ⟨δ,x,R,ex,fun v H1 s1 r1=>⟨δ,xs,R.mono s1,exs,fun vs H2 s2 r2 l=>k (v :: vs) H2 (s1.trans s2) (.cons (r1.mono s2) r2) (congrArg (· + 1) l)⟩⟩
theorem eY {x1} (h:PAD X es g) (hz:es.length<=1000:=by decide):PD X (.Tuple es x1 pos) (jR g):=imp (Ah h) fun σ H Q ⟨δ,d,R,q,k⟩=>by
 unfold jR at q;obtain ⟨ds,eds,q⟩:=Za.mp q;cases q;refine ⟨δ,ds,R,eds,fun vs H1 s1 r1 l=>⟨db (by rw [l];exact hz),fun p hp=>?_⟩⟩
 have s:=bQ hp (.tup vs);exact k _ _ (s1.trans s) (.tup (SqT.of aP) (r1.mono s))
theorem j8 (h:PAD X es g) (hz:es.length<=1000:=by decide):PD X (.List es pos) (kl g):=imp (Aj h) fun σ H Q ⟨δ,d,R,q,k⟩=>by
 unfold kl at q;obtain ⟨ds,eds,q⟩:=Za.mp q;cases q;refine ⟨δ,ds,R,eds,fun vs H1 s1 r1 l=>⟨db (by rw [l];exact hz),fun p hp=>?_⟩⟩
 have s:=bQ hp (.lst vs);exact k _ _ (s1.trans s) (.lst aP (r1.mono s))
theorem Cv {k n:Nat} {x:Str} {f:Addr} {fd:FuncData} {ps:List Str} {G:List D->Option D} (F:FnOk X.prog X.w X.K X.mg X.base CX0 k f fd ps (bz X.K n G)) (hr:Room k X.A) (hg:Gl X x) (hm:X.mg x=some (.ref f)) (hk:PySem.W.keepIn X.K (.ref f)=true) (hb:Binds X.K fd ps [])
 (ha:PAD X (e :: es) g) (hn:(e :: es).length=n:=by rfl) (hdb:(x == ("__debug__":Str))=false:=by decide) (he:starEach (e :: es) X.env=(false,eval e X.env) :: starEach es X.env:=by rfl) (hpl:(backTo pos (starEach es X.env)).any (·.1)=false:=by rfl) :
 PD X (.Call (.Name x p) (e :: es) [] pos) (au G g):=imp (nC F hr hg hm hk hb .nil (xn) ha hdb he hpl) fun σ H Q ⟨δ,d,R,q,k⟩=>by
 unfold au at q;obtain ⟨ds,eds,q⟩:=Za.mp q;refine ⟨δ,ds,R,eds,fun vs H1 s1 r1 l=>?_⟩
 show bz X.K n G (vs++[]) H1 Q E0;rw [List.append_nil];exact ⟨l.trans hn,ds,d,r1,q,fun v H' s=>k v H' (s1.trans s)⟩
def jB (K:Zu) (r:List V->Hp->VK->Prop) (G:List D->Option D):Prop :=
 ∀ (xs:List V) (H:Hp) (Q:VK) (ds:List D) (d:D),Reps K H xs ds->G ds=some d->(∀ w H',Same H H'->Rep K H' w d->Q w H')->r xs H Q
theorem AX {r:List V->Hp->VK->Prop} {G:List D->Option D} {n:Nat} (hG:jB X.K r G) {σ:L2.St} {H:Hp} {Q:VK} (h:up X.K (au G g) σ H Q):tCB r (upA X.K n g) σ H Q:=by
 obtain ⟨δ,d,R,q,k⟩:=h;unfold au at q;obtain ⟨ds,eds,q⟩:=Za.mp q;exact ⟨δ,ds,R,eds,fun vs H1 s1 r1 _=>hG vs H1 Q ds d r1 q fun w H' s=>k w H' (s1.trans s)⟩
theorem aW {id:String} {x:Str} {r:List V->Hp->VK->Prop} {G:List D->Option D} (hc:fZ X (.builtin id) r) (hG:jB X.K r G) (hg:Gl X x) (hm:X.mg x=none) (hv:bootBuiltins x=some (.builtin id)) (ha:PAD X (e :: es) g) (hn:x ≠ "__name__":=by decide) (hdb:(x == ("__debug__":Str))=false:=by decide)
 (he:starEach (e :: es) X.env=(false,eval e X.env) :: starEach es X.env:=by rfl) (hpl:(backTo pos (starEach es X.env)).any (·.1)=false:=by rfl):PD X (.Call (.Name x p) (e :: es) [] pos) (au G g) :=
 imp (Al hc hg hm hv ha hn hdb he hpl) fun _ _ _ h=>AX hG h
theorem yA {T:String} {x:Str} {r:List V->Hp->VK->Prop} {G:List D->Option D} (hc:fZ X (.type T) r) (hG:jB X.K r G) (hg:Gl X x) (hm:X.mg x=none) (hv:bootBuiltins x=some (.type T)) (ha:PAD X (e :: es) g) (hn:x ≠ "__name__":=by decide) (hdb:(x == ("__debug__":Str))=false:=by decide)
 (he:starEach (e :: es) X.env=(false,eval e X.env) :: starEach es X.env:=by rfl) (hpl:(backTo pos (starEach es X.env)).any (·.1)=false:=by rfl):PD X (.Call (.Name x p) (e :: es) [] pos) (au G g) :=
 imp (iy hc hg hm hv ha hn hdb he hpl) fun _ _ _ h=>AX hG h
end
theorem g8 {K:Zu} {H:Hp} {xs:List V} {d:D} (r:Reps K H xs [d]):∃ x,xs=[x]/\Rep K H x d:=by
 cases r with
 | cons a t=>cases t;exact ⟨_,rfl,a⟩
theorem tI {K:Zu} {H:Hp} {xs:List V} {d e:D} (r:Reps K H xs [d,e]):∃ x y,xs=[x,y]/\Rep K H x d/\Rep K H y e:=by
 cases r with
 | cons a t =>
  obtain ⟨y,h1,h2⟩:=g8 t;subst h1;exact ⟨_,y,rfl,a,h2⟩
def yU:List D->Option D
 | [.int i]=>some (.int i)
 | [.bl b]=>some (.int (if b then 1 else 0))
 | _=>none
theorem Fx {K:Zu}:jB K (fun xs H Q=>(∃ i,xs=[.int i]/\Q (.int i) H) \/ ∃ k,xs=[.bl k]/\Q (.int (if k then 1 else 0)) H) yU:=by
 intro xs H Q ds d r e k;unfold yU at e;split at e
 . rename_i i;cases e;obtain ⟨x,rfl,rx⟩:=g8 r;cases rx;exact .inl ⟨i,rfl,k _ H (Same.refl H) (.int _)⟩
 . rename_i b;cases e;obtain ⟨x,rfl,rx⟩:=g8 r;cases rx;exact .inr ⟨b,rfl,k _ H (Same.refl H) (.int _)⟩
 . cases e
def gu:List D->Option D
 | [.tup ds]=>some (.int ds.length)
 | [.lst ds]=>some (.int ds.length)
 | [.seq ds]=>some (.int ds.length)
 | _=>none
theorem eL {K:Zu}:jB K (fun xs H Q=>∃ p ys,xs=[.ref p]/\(SqL K H p ys \/ SqT K H p ys)/\Q (.int ys.length) H) gu:=by
 intro xs H Q ds d r e k;unfold gu at e;split at e
 . cases e;obtain ⟨x,rfl,rx⟩:=g8 r;cases rx with
   | @tup p vs _ hp rp=>exact ⟨p,vs,rfl,.inr hp,by rw [rp.length];exact k _ H (Same.refl H) (.int _)⟩
 . cases e;obtain ⟨x,rfl,rx⟩:=g8 r;cases rx with
   | @lst p vs _ hp rp=>exact ⟨p,vs,rfl,.inl (SqL.of hp),by rw [rp.length];exact k _ H (Same.refl H) (.int _)⟩
 . cases e;obtain ⟨x,rfl,rx⟩:=g8 r;cases rx with
   | @seq p vs _ hp rp=>exact ⟨p,vs,rfl,.inl hp,by rw [rp.length];exact k _ H (Same.refl H) (.int _)⟩
 . cases e
def Ha:D->Option String
 | .non=>some "NoneType"
 | .bl _=>some "bool"
 | .int _=>some "int"
 | .str _=>some "str"
 | .tup _=>some "tuple"
 | .lst _=>some "list"
 | .seq _=>some "list"
 | .dct=>some "dict"
 | .ty _=>none
 | .exc _=>none
 | .cls _=>none
 | .ms _ _=>none
 | .mf _ _=>none
 | .md _ _=>none
def u7 (n:String) (d:D) (b:Bool):Prop:=∃ t,Ha d=some t/\∀ K:Zu,PySem.W.kitOne K (.type t) (.type n)=some b
def Gm (K:Zu):List V->Hp->VK->Prop:=fun xs H Q=>∃ x n d b,xs=[x,.ty n]/\Rep K H x d/\u7 n d b/\Q (.bl b) H
theorem gN {X:Cx}:fZ X (.builtin "isinstance") (Gm X.K):=by
 intro pins s σ H xs us Q I r h;obtain ⟨x,n,d,b,rfl,rx,⟨t,ht,hk⟩,q⟩:=h;obtain ⟨u,w',rfl,ru,rw'⟩:=DB r;cases (show w'=Value.type n from rw')
 have e:=hk X.K;have fin:∀ tk,EP X pins σ Q (.bool b) { s with toks:=tk }:=fun tk=>⟨.bl b,H,I.tok _,rfl,q⟩
 cases rx with
 | non=>cases ht;cases (show u=Value.none from ru);exact PySem.W.kia_one PySem.W.kitx_none I.kIn True.intro e (fun z=>nomatch z) fin
 | bl y=>cases ht;cases (show u=Value.bool y from ru);exact PySem.W.kia_one PySem.W.kitx_bool I.kIn True.intro e (fun z=>nomatch z) fin
 | int i=>cases ht;obtain ⟨t,z⟩:=(show ∃ t,u=Value.int i t from ru);cases z;exact PySem.W.kia_one PySem.W.kitx_int I.kIn True.intro e (fun z=>nomatch z) fin
 | str y=>cases ht;obtain ⟨t,z⟩:=(show ∃ t,u=Value.str y t from ru);cases z;exact PySem.W.kia_one PySem.W.kitx_str I.kIn True.intro e (fun z=>nomatch z) fin
 | ty n=>cases ht
 | exc h=>cases ht
 | cls C=>cases ht
 | ms h l r=>cases ht
 | mf h l r=>cases ht
 | md h l r=>cases ht
 | @dct a h =>
  cases ht;cases (show u=Value.ref a from ru)
  exact PySem.W.kia_one PySem.W.kitx_dict I.kIn (I.hok a _ h).1 e (fun z=>nomatch z) fin
 | @tup a vs ds hp rp =>
  cases ht;cases (show u=Value.ref a from ru)
  obtain ⟨its,_,⟨o,h1,h2,_⟩,_⟩:=I.tuple hp;exact PySem.W.kia_one PySem.W.kitx_tuple I.kIn ⟨o,h1,h2⟩ e (fun z=>nomatch z) fin
 | @lst a vs ds hp rp =>
  cases ht;cases (show u=Value.ref a from ru)
  obtain ⟨its,_,⟨o,n',h1,h2,_⟩,_⟩:=I.list (SqL.of (K:=X.K) hp);exact PySem.W.kia_one PySem.W.kitx_list I.kIn ⟨o,h1,h2⟩ e (fun z=>nomatch z) fin
 | @seq a vs ds hp rp =>
  cases ht;cases (show u=Value.ref a from ru)
  obtain ⟨its,_,⟨o,n',h1,h2,_⟩,_⟩:=I.list hp;exact PySem.W.kia_one PySem.W.kitx_list I.kIn ⟨o,h1,h2⟩ e (fun z=>nomatch z) fin
def isInt:D->Option Bool
 | .int _=>some true
 | .bl _=>some true
 | .ty _=>none
 | .exc _=>none
 | .cls _=>none
 | .ms _ _=>none
 | .mf _ _=>none
 | .md _ _=>none
 | _=>some false
def isBool:D->Option Bool
 | .bl _=>some true
 | .ty _=>none
 | .exc _=>none
 | .cls _=>none
 | .ms _ _=>none
 | .mf _ _=>none
 | .md _ _=>none
 | _=>some false
def lW (n:String) (p:D->Option Bool):List D->Option D
 | [d,.ty m]=>if m=n then (p d).map D.bl else none
 | _=>none
theorem ko {K:Zu} {n:String} {p:D->Option Bool} (hp:∀ d b,p d=some b->u7 n d b):jB K (Gm K) (lW n p):=by
 intro xs H Q ds d r e k;unfold lW at e;split at e
 . rename_i x m
   by_cases hm:m=n
   . subst hm;rw [if_pos rfl] at e;obtain ⟨b,hb,e⟩:=Zb.mp e;cases e;obtain ⟨v,w,rfl,rv,rw'⟩:=tI r;cases rw';exact ⟨v,m,x,b,rfl,rv,hp x b hb,k _ H (Same.refl H) (.bl b)⟩
   . rw [if_neg hm] at e;cases e
 . cases e
theorem vP (n:String) (K:Zu):PySem.W.kitOne K (.type n) (.type n)=some true:=by
 unfold PySem.W.kitOne;rw [if_pos (beq_self_eq_true _)]
theorem tY (d:D) (b:Bool) (h:isInt d=some b):u7 "int" d b:=by
 cases d <;> (first | cases h) <;> first
  | exact ⟨_,rfl,fun K=>vP _ K⟩
  | exact ⟨_,rfl,fun K=>by kernel_rfl⟩
theorem lM (d:D) (b:Bool) (h:isBool d=some b):u7 "bool" d b:=by
 cases d <;> (first | cases h) <;> first
  | exact ⟨_,rfl,fun K=>vP _ K⟩
  | exact ⟨_,rfl,fun K=>by kernel_rfl⟩
def toV:D->Option V
 | .non=>some .non
 | .bl b=>some (.bl b)
 | .int i=>some (.int i)
 | .str x=>some (.str x)
 | _=>none
def c4 (d:D):Bool:=(toV d).isSome
def eqF:D->D->Bool
 | .non,.non=>true
 | .bl a,.bl b=>a == b
 | .bl a,.int b=>(if a then 1 else 0) == b
 | .int a,.bl b=>a == (if b then 1 else 0)
 | .int a,.int b=>a == b
 | .str a,.str b=>a == b
 | _,_=>false
def pX:List D->List D->Bool
 | [],[]=>true
 | a :: as,b :: bs=>eqF a b && pX as bs
 | _,_=>false
theorem Rep.flat {K:Zu} {H:Hp} {v:V} {d:D} (r:Rep K H v d) (f:c4 d=true):Bf v=true/\toV d=some v:=by
 cases r <;> first | exact ⟨rfl,rfl⟩ | (exact absurd f (by decide)) | (exact absurd f Zv)
theorem sC {a b:D} {x y:V} (ha:toV a=some x) (hb:toV b=some y):eqV x y=eqF a b:=by
 cases a <;> (first | cases ha) <;> cases b <;> (first | cases hb) <;> rfl
theorem oZ:∀ (as bs:List D) (e:Nat->Bool),(∀ j a b,as[j]? = some a->bs[j]? = some b->e j=eqF a b)->((List.range (min as.length bs.length)).all e && as.length == bs.length)=pX as bs
 | [],[],e,_=>rfl
 | [],b :: bs,e,_=>by simp [pX]
 | a :: as,[],e,_=>by simp [pX]
 | a :: as,b :: bs,e,h=>by
  have ih:=oZ as bs (fun j=>e (j+1)) (fun j x y h1 h2=>h (j+1) x y (by simpa using h1) (by simpa using h2))
  have h0:e 0=eqF a b:=h 0 a b rfl rfl;show ((List.range (min (as.length+1) (bs.length+1))).all e && (as.length+1) == (bs.length+1))=(eqF a b && pX as bs);rw [<- ih,<- h0,show min (as.length+1) (bs.length+1)=min as.length bs.length+1 by omega,List.range_succ_eq_map,List.all_cons,List.all_map,Bool.and_assoc]
  have:((as.length+1) == (bs.length+1))=(as.length == bs.length):=by rw [Bool.eq_iff_iff];simp
  rw [this];rfl
def yV:D->D->Option Bool
 | .tup as,.tup bs=>if as.all c4 && bs.all c4 then some (pX as bs) else none
 | .lst as,.lst bs=>if as.all c4 && bs.all c4 then some (pX as bs) else none
 | .non,.tup _=>some false
 | .tup _,.non=>some false
 | .non,.lst _=>some false
 | .lst _,.non=>some false
 | a,b=>if c4 a && c4 b then some (eqF a b) else none
def gEq (a b:D):Option D:=(yV a b).map D.bl
def gNe (a b:D):Option D:=(yV a b).map fun c=>D.bl (!c)
section
variable {K:Zu} {H:Hp}
theorem k8 {A:Around} {s:Shared} {vs ws:List V} {us zs:List Value} {as bs:List D} (r1:Vals vs us) (r2:Vals ws zs) (q1:Reps K H vs as) (q2:Reps K H ws bs) (g1:as.all c4=true) (g2:bs.all c4=true) :
 ∀ j (h1:j < us.toArray.size) (h2:j < zs.toArray.size),SeqAt.EqAt A s us.toArray[j] zs.toArray[j] (eqF (as.getD j .non) (bs.getD j .non)):=by
 intro j h1 h2;have l1:=r1.length;have l2:=r2.length;rw [Zz] at h1 h2;have k1:j < vs.length:=by omega
 have k2:j < ws.length:=by omega
 obtain ⟨u,e1,p1⟩:=r1.get (i:=j) (x:=vs[j]) (by simp [k1])
 obtain ⟨z,e2,p2⟩:=r2.get (i:=j) (x:=ws[j]) (by simp [k2])
 obtain ⟨a,e3,p3⟩:=q1.getV (i:=j) (v:=vs[j]) (by simp [k1])
 obtain ⟨b,e4,p4⟩:=q2.getV (i:=j) (v:=ws[j]) (by simp [k2])
 have f1:c4 a=true:=List.all_eq_true.mp g1 a (List.mem_of_getElem? e3);have f2:c4 b=true:=List.all_eq_true.mp g2 b (List.mem_of_getElem? e4);have w1:us.toArray[j]=u:=by
  have:us[j]? = some us[j]:=by simp [h1]
  rw [this] at e1;simpa using e1
 have w2:zs.toArray[j]=z:=by
  have:zs[j]? = some zs[j]:=by simp [h2]
  rw [this] at e2;simpa using e2
 rw [w1,w2,Zs,Zs,e3,e4];show SeqAt.EqAt A s u z (eqF a b);rw [<- sC (p3.flat f1).2 (p4.flat f2).2];exact Bq p1 p2 (p3.flat f1).1 (p4.flat f2).1
theorem pF {as bs:List D}:((List.range (min as.length bs.length)).all (fun j=>eqF (as.getD j .non) (bs.getD j .non)) && as.length == bs.length)=pX as bs :=
 oZ as bs _ fun j a b h1 h2=>by
  show eqF (as.getD j .non) (bs.getD j .non)=eqF a b;rw [Zs,Zs,h1,h2] <;> rfl
theorem wY {A:Around} {s:Shared} {x y:V} {u v:Value} {a b:D} (rx:RelV x u) (ry:RelV y v) (ra:Rep K H x a) (rb:Rep K H y b) (g1:c4 a=true) (g2:c4 b=true):SeqAt.RcAt A s u v (eqF a b)/\SeqAt.RcNeAt A s u v (!eqF a b):=by
 cases ra with
 | non =>
  cases (show u=Value.none from rx)
  cases rb with
  | non=>cases (show v=Value.none from ry);exact ⟨SeqAt.RcAt.none_none,SeqAt.RcNeAt.none_none⟩
  | bl c=>cases (show v=Value.bool c from ry);exact ⟨SeqAt.RcAt.none_bool c,SeqAt.RcNeAt.none_bool c⟩
  | int j=>obtain ⟨t,rfl⟩:=(show ∃ t,v=Value.int j t from ry);exact ⟨SeqAt.RcAt.none_int j t,SeqAt.RcNeAt.none_int j t⟩
  | str j=>obtain ⟨t,rfl⟩:=(show ∃ t,v=Value.str j t from ry);exact ⟨SeqAt.RcAt.none_str j t,SeqAt.RcNeAt.none_str j t⟩
  | _=>exact absurd g2 Zv
 | bl i =>
  cases (show u=Value.bool i from rx)
  cases rb with
  | non=>cases (show v=Value.none from ry);exact ⟨SeqAt.RcAt.bool_none i,SeqAt.RcNeAt.bool_none i⟩
  | bl c=>cases (show v=Value.bool c from ry);exact ⟨SeqAt.RcAt.bool_bool i c,SeqAt.RcNeAt.bool_bool i c⟩
  | int j=>obtain ⟨t,rfl⟩:=(show ∃ t,v=Value.int j t from ry);exact ⟨SeqAt.RcAt.bool_int i j t,SeqAt.RcNeAt.bool_int i j t⟩
  | str j=>obtain ⟨t,rfl⟩:=(show ∃ t,v=Value.str j t from ry);exact ⟨SeqAt.RcAt.bool_str i j t,SeqAt.RcNeAt.bool_str i j t⟩
  | _=>exact absurd g2 Zv
 | int i =>
  obtain ⟨t',rfl⟩:=(show ∃ t,u=Value.int i t from rx)
  cases rb with
  | non=>cases (show v=Value.none from ry);exact ⟨SeqAt.RcAt.int_none i t',SeqAt.RcNeAt.int_none i t'⟩
  | bl c=>cases (show v=Value.bool c from ry);exact ⟨SeqAt.RcAt.int_bool i t' c,SeqAt.RcNeAt.int_bool i t' c⟩
  | int j=>obtain ⟨t,rfl⟩:=(show ∃ t,v=Value.int j t from ry);exact ⟨SeqAt.RcAt.int_int i t' j t,SeqAt.RcNeAt.int_int i t' j t⟩
  | str j=>obtain ⟨t,rfl⟩:=(show ∃ t,v=Value.str j t from ry);exact ⟨SeqAt.RcAt.int_str i t' j t,SeqAt.RcNeAt.int_str i t' j t⟩
  | _=>exact absurd g2 Zv
 | str i =>
  obtain ⟨t',rfl⟩:=(show ∃ t,u=Value.str i t from rx)
  cases rb with
  | non=>cases (show v=Value.none from ry);exact ⟨SeqAt.RcAt.str_none i t',SeqAt.RcNeAt.str_none i t'⟩
  | bl c=>cases (show v=Value.bool c from ry);exact ⟨SeqAt.RcAt.str_bool i t' c,SeqAt.RcNeAt.str_bool i t' c⟩
  | int j=>obtain ⟨t,rfl⟩:=(show ∃ t,v=Value.int j t from ry);exact ⟨SeqAt.RcAt.str_int i t' j t,SeqAt.RcNeAt.str_int i t' j t⟩
  | str j=>obtain ⟨t,rfl⟩:=(show ∃ t,v=Value.str j t from ry);exact ⟨SeqAt.RcAt.str_str i t' j t,SeqAt.RcNeAt.str_str i t' j t⟩
  | _=>exact absurd g2 Zv
 | _=>exact absurd g1 Zv
end
theorem Gh {X:Cx} {pins:List (Addr×Obj)} {σ:L2.St} {H:Hp} {s:Shared} (I:Inv X pins σ H s) (hu:X.A.units < cLine) {x y:V} {u v:Value} {a b:D} {c:Bool} (rx:RelV x u) (ry:RelV y v) (ra:Rep X.K H x a) (rb:Rep X.K H y b) (e:yV a b=some c) :
 SeqAt.RcAt X.A s u v c/\SeqAt.RcNeAt X.A s u v (!c):=by
 unfold yV at e;split at e
 . -- two tuples
   rename_i as bs;cases ra with
   | @tup p vs _ hp rp =>
    cases rb with
    | @tup q ws _ hq rq =>
     split at e
     . rename_i hf;cases e;rw [ZH] at hf;cases (show u=Value.ref p from rx)
       cases (show v=Value.ref q from ry)
       obtain ⟨its,r1,t1,_⟩:=I.tuple hp;obtain ⟨jts,r2,t2,_⟩:=I.tuple hq;have l1:its.toArray.size=as.length:=by rw [Zz,<- r1.length,rp.length]
       have l2:jts.toArray.size=bs.length:=by rw [Zz,<- r2.length,rq.length]
       have h1:=SeqAt.RcAt.tuples (A:=X.A) (s:=s) t1 t2 hu (k8 r1 r2 rp rq hf.1 hf.2);have h2:=SeqAt.RcNeAt.tuples (A:=X.A) (s:=s) t1 t2 hu (k8 r1 r2 rp rq hf.1 hf.2);rw [l1,l2,pF] at h1 h2;exact ⟨h1,h2⟩
     . cases e
 . -- two lists
   rename_i as bs;cases ra with
   | @lst p vs _ hp rp =>
    cases rb with
    | @lst q ws _ hq rq =>
     split at e
     . rename_i hf;cases e;rw [ZH] at hf;cases (show u=Value.ref p from rx)
       cases (show v=Value.ref q from ry)
       obtain ⟨its,r1,t1,_⟩:=I.list (SqL.of (K:=X.K) hp);obtain ⟨jts,r2,t2,_⟩:=I.list (SqL.of (K:=X.K) hq);have l1:its.toArray.size=as.length:=by rw [Zz,<- r1.length,rp.length]
       have l2:jts.toArray.size=bs.length:=by rw [Zz,<- r2.length,rq.length]
       by_cases hl:its.toArray.size=jts.toArray.size
       . have h1:=SeqAt.RcAt.lists (A:=X.A) (s:=s) t1.isList t2.isList hl hu (k8 r1 r2 rp rq hf.1 hf.2);have h2:=SeqAt.RcNeAt.lists (A:=X.A) (s:=s) t1.isList t2.isList hl hu (k8 r1 r2 rp rq hf.1 hf.2);have h3:(List.range its.toArray.size).all (fun j=>eqF (as.getD j .non) (bs.getD j .non))=pX as bs:=by
          rw [<- pF,l1,show min as.length bs.length=as.length by omega,show (as.length == bs.length)=true by rw [beq_iff_eq];omega,Bool.and_true]
         rw [h3] at h1 h2;exact ⟨h1,h2⟩
       . have h1:=SeqAt.RcAt.lists_lengths (A:=X.A) (s:=s) t1.isList t2.isList (by simpa [bne_iff_ne] using hl) hu
         have h2:=SeqAt.RcNeAt.lists_lengths (A:=X.A) (s:=s) t1.isList t2.isList (by simpa [bne_iff_ne] using hl) hu
         have h3:pX as bs=false:=by
          rw [<- pF,show (as.length == bs.length)=false by rw [beq_eq_false_iff_ne];omega,Bool.and_false]
         rw [h3];exact ⟨h1,h2⟩
     . cases e
 . cases e;cases ra;cases rb with
   | @tup q ws bs hq rq =>
    cases (show u=Value.none from rx)
    cases (show v=Value.ref q from ry)
    obtain ⟨its,r1,t1,_⟩:=I.tuple hq;exact ⟨SeqAt.RcAt.none_tuple t1 hu,SeqAt.RcNeAt.none_tuple t1 hu⟩
 . cases e;cases rb;cases ra with
   | @tup q ws bs hq rq =>
    cases (show v=Value.none from ry)
    cases (show u=Value.ref q from rx)
    obtain ⟨its,r1,t1,_⟩:=I.tuple hq;exact ⟨SeqAt.RcAt.tuple_none t1 hu,SeqAt.RcNeAt.tuple_none t1 hu⟩
 . cases e;cases ra;cases rb with
   | @lst q ws bs hq rq =>
    cases (show u=Value.none from rx)
    cases (show v=Value.ref q from ry)
    obtain ⟨its,r1,t1,_⟩:=I.list (SqL.of (K:=X.K) hq);exact ⟨SeqAt.RcAt.none_list t1.isList hu,SeqAt.RcNeAt.none_list t1.isList hu⟩
 . cases e;cases rb;cases ra with
   | @lst q ws bs hq rq =>
    cases (show v=Value.none from ry)
    cases (show u=Value.ref q from rx)
    obtain ⟨its,r1,t1,_⟩:=I.list (SqL.of (K:=X.K) hq);exact ⟨SeqAt.RcAt.list_none t1.isList hu,SeqAt.RcNeAt.list_none t1.isList hu⟩
 . split at e
   . rename_i hf;cases e;rw [ZH] at hf;exact wY rx ry ra rb hf.1 hf.2
   . cases e
def Gp (K:Zu):R2:=fun x y H Q=>∃ a b c,Rep K H x a/\Rep K H y b/\yV a b=some c/\Q (.bl c) H
def Gj (K:Zu):R2:=fun x y H Q=>∃ a b c,Rep K H x a/\Rep K H y b/\yV a b=some c/\Q (.bl (!c)) H
theorem Ax {X:Cx} (hu:X.A.units < cLine):OpR X (compareOp .Eq) (Gp X.K):=by
 intro pins s σ H x y v u Q I rx ry h;obtain ⟨a,b,c,ra,rb,e,q⟩:=h;exact (Gh I hu rx ry ra rb e).1 X.prog X.w _ _ ⟨.bl c,H,I,rfl,q⟩
theorem ER {X:Cx} (hu:X.A.units < cLine):OpR X (compareOp .NotEq) (Gj X.K):=by
 intro pins s σ H x y v u Q I rx ry h;obtain ⟨a,b,c,ra,rb,e,q⟩:=h;exact (Gh I hu rx ry ra rb e).2 X.prog X.w _ _ ⟨.bl (!c),H,I,rfl,q⟩
theorem DL {K:Zu}:R2D K (Gp K) gEq:=by
 intro x y H Q a b d ra rb e k;unfold gEq at e;obtain ⟨c,hc,e⟩:=Zb.mp e;cases e;exact ⟨a,b,c,ra,rb,hc,k _ H (Same.refl H) (.bl _)⟩
theorem Gs {K:Zu}:R2D K (Gj K) gNe:=by
 intro x y H Q a b d ra rb e k;unfold gNe at e;obtain ⟨c,hc,e⟩:=Zb.mp e;cases e;exact ⟨a,b,c,ra,rb,hc,k _ H (Same.refl H) (.bl _)⟩
section
variable {X:Cx} {a b e:Expr} {fa fb f:FD} {pos:Pos}
theorem DO (hu:X.A.units < cLine) (ha:PD X a fa) (hb:PD X b fb):PD X (.Compare a [.Eq] [b] pos) (f2 gEq fa fb):=oB (Ax hu) DL ha hb (fg _)
theorem vz (hu:X.A.units < cLine) (ha:PD X a fa) (hb:PD X b fb):PTD X (.Compare a [.Eq] [b] pos) (fT (f2 gEq fa fb)):=gk (Ax hu) DL ha hb (fg _)
theorem z8 (hu:X.A.units < cLine) (ha:PD X a fa) (hb:PD X b fb):PTD X (.Compare a [.NotEq] [b] pos) (fT (f2 gNe fa fb)):=gk (ER hu) Gs ha hb (fg _)
abbrev gLt:D->D->Option D:=gI0 fun i j=>.bl (decide (i < j))
abbrev gGt:D->D->Option D:=gI0 fun i j=>.bl (decide (j < i))
theorem Ao (ha:PD X a fa) (hb:PD X b fb):PD X (.Compare a [.Lt] [b] pos) (f2 gLt fa fb):=oB DQ (qt fun _ _ _=>.bl _) ha hb (fg _)
theorem DN (ha:PD X a fa) (hb:PD X b fb):PD X (.Compare a [.Gt] [b] pos) (f2 gGt fa fb):=oB DR (qt fun _ _ _=>.bl _) ha hb (fg _)
theorem vy (ha:PD X a fa) (hb:PD X b fb):PTD X (.Compare a [.Lt] [b] pos) (fT (f2 gLt fa fb)):=gk DQ (qt fun _ _ _=>.bl _) ha hb (fg _)
theorem Eu (ha:PD X a fa) (hb:PD X b fb):PTD X (.Compare a [.Gt] [b] pos) (fT (f2 gGt fa fb)):=gk DR (qt fun _ _ _=>.bl _) ha hb (fg _)
def bi:D->Bool
 | .non=>true
 | _=>false
def bP (a b:D):Option D:=match b with
 | .non=>some (.bl (bi a))
 | _=>none
def lj (a b:D):Option D:=match b with
 | .non=>some (.bl (!bi a))
 | _=>none
theorem uk {K:Zu} {H:Hp} {x:V} {a:D} (r:Rep K H x a):decide (x=.non)=bi a:=by
 cases r <;> rfl
theorem zS {K:Zu}:R2D K (fun x y H Q=>y=.non/\Q (.bl (decide (x=.non))) H) bP:=by
 intro x y H Q a b d ra rb e k;cases rb with
 | non=>cases e;exact ⟨rfl,by rw [uk ra];exact k _ H (Same.refl H) (.bl _)⟩
 | _=>cases e
theorem B9 {K:Zu}:R2D K (fun x y H Q=>y=.non/\Q (.bl (!decide (x=.non))) H) lj:=by
 intro x y H Q a b d ra rb e k;cases rb with
 | non=>cases e;exact ⟨rfl,by rw [uk ra];exact k _ H (Same.refl H) (.bl _)⟩
 | _=>cases e
theorem EJ (ha:PD X a fa) (hb:PD X b fb):PD X (.Compare a [.Is] [b] pos) (f2 bP fa fb):=oB Au zS ha hb (fg _)
theorem cN (ha:PD X a fa) (hb:PD X b fb):PTD X (.Compare a [.Is] [b] pos) (fT (f2 bP fa fb)):=gk Au zS ha hb (fg _)
theorem kO (ha:PD X a fa) (hb:PD X b fb):PTD X (.Compare a [.IsNot] [b] pos) (fT (f2 lj fa fb)):=gk CA B9 ha hb (fg _)
end
inductive Res where
 | nx (δ:DS)
 | rt (d:D)
 | bk (δ:DS)
 | ct (δ:DS)
 | ex (C:Addr) (δ:DS)
 | mk (C:Addr) (δ:DS)
abbrev SD:=DS->Option Res
def RP (X:Cx) (E:pL) (H:Hp):Res->Prop
 | .nx δ=>∀ σ' H',Same H H'->RepS X.K H' σ' δ->E.nx σ' H'
 | .rt d=>∀ v H',Same H H'->Rep X.K H' v d->E.rt v H'
 | .bk δ=>∀ σ' H',Same H H'->RepS X.K H' σ' δ->E.bk σ' H'
 | .ct δ=>∀ σ' H',Same H H'->RepS X.K H' σ' δ->E.ct σ' H'
 | .ex C δ=>∀ σ' H',Same H H'->RepS X.K H' σ' δ->wx X C σ' H'
 | .mk C δ=>∀ σ' H',Same H H'->RepS X.K H' σ' δ->BK X C σ' H'
theorem RP.mono {X:Cx} {E:pL} {H H1:Hp} {r:Res} (s:Same H H1) (h:RP X E H r):RP X E H1 r:=by
 cases r with
 | nx δ=>exact fun σ' H' s2 R=>h σ' H' (s.trans s2) R
 | rt d=>exact fun v H' s2 R=>h v H' (s.trans s2) R
 | bk δ=>exact fun σ' H' s2 R=>h σ' H' (s.trans s2) R
 | ct δ=>exact fun σ' H' s2 R=>h σ' H' (s.trans s2) R
 | ex C δ=>exact fun σ' H' s2 R=>h σ' H' (s.trans s2) R
 | mk C δ=>exact fun σ' H' s2 R=>h σ' H' (s.trans s2) R
def upS (X:Cx) (s:SD):TS:=fun E σ H=>∃ δ r,RepS X.K H σ δ/\s δ=some r/\RP X E H r
def PSD (X:Cx) (st:Stmt) (s:SD):Prop:=PS X st (upS X s)
def pY (X:Cx) (sts:List Stmt) (s:SD):Prop:=PSs X sts (upS X s)
theorem gr {X:Cx} {st:Stmt} {t t':TS} (h:PS X st t) (w:∀ E σ H,t' E σ H->t E σ H):PS X st t':=fun pins s σ H E I q=>h pins s σ H E I (w E σ H q)
theorem qK {X:Cx} {st:List Stmt} {t t':TS} (h:PSs X st t) (w:∀ E σ H,t' E σ H->t E σ H):PSs X st t':=fun pins s σ H E I q=>h pins s σ H E I (w E σ H q)
def bF:SD:=fun δ=>some (.nx δ)
def cC (u:SD):Res->Option Res
 | .nx δ=>u δ
 | r=>some r
def bf (s u:SD):SD:=fun δ=>(s δ).bind (cC u)
def du (f:FD):SD:=fun δ=>(f δ).bind fun d=>some (.rt d)
def dR (i:Nat) (f:FD):SD:=fun δ=>(f δ).bind fun d=>some (.nx (δ.set i (some d)))
def sIf (c:FT) (s u:SD):SD:=fun δ=>(c δ).bind fun b=>match b with
 | true=>s δ
 | false=>u δ
def zI:SD:=fun _=>none
section
variable {X:Cx} {st:Stmt} {rest:List Stmt} {s u:SD} {e:Expr} {f:FD} {c:FT} {pos:Pos}
theorem bL:pY X [] bF:=qK rO fun E σ H ⟨δ,r,R,e,k⟩=>by cases e;exact k σ H (Same.refl H) R
theorem aG (h1:PSD X st s) (h2:pY X rest u):pY X (st :: rest) (bf s u):=qK (ou h1 h2) fun E σ H ⟨δ,r,R,e,k⟩=>by
 unfold bf at e;obtain ⟨r1,e1,e⟩:=Za.mp e;refine ⟨δ,r1,R,e1,?_⟩;cases r1 with
 | nx δ'=>exact fun σ' H' s1 R1=>⟨δ',r,R1,e,k.mono s1⟩
 | rt d=>cases e;exact k
 | bk d=>cases e;exact k
 | ct d=>cases e;exact k
 | ex C d=>cases e;exact k
 | mk C d=>cases e;exact k
theorem aK (h:PSD X st s):pY X [st] s:=rN h
theorem aQ (he:PD X e f):PSD X (.Return (some e) pos) (du f):=gr (vC he) fun E σ H ⟨δ,r,R,q,k⟩=>by
 unfold du at q;obtain ⟨d,ed,q⟩:=Za.mp q;cases q;exact ⟨δ,d,R,ed,k⟩
theorem bB (i:Nat) {x:Str} {pos':Pos} (hN:X.N.Nodup) (he:PD X e f) (hi:X.N[i]? = some x:=by rfl) (hx:Loc X.env.scope x:=by first | exact Or.inl rfl | exact Or.inr rfl) (hs:swapsWith e (some (.Name x pos')) pos.line X.env=pure false:=by rfl) (hf:X.fn x=true \/ X.env.scope.names.lookup x=some .local:=by first | exact .inl rfl | exact .inr rfl | assumption) :
 PSD X (.Assign [.Name x pos'] e pos) (dR i f):=gr (vB hN hi hx he hs hf) fun E σ H ⟨δ,r,R,q,k⟩=>by
 unfold dR at q;obtain ⟨d,ed,q⟩:=Za.mp q;cases q;exact ⟨δ,d,R,ed,fun v H' s1 r1=>k (σ.set i (some v)) H' s1 ((R.mono s1).set i r1)⟩
theorem cE {cx:Expr} {a b:List Stmt} (hc:PTD X cx c) (ha:pY X a s) (hb:pY X b u):PSD X (.If cx a b pos) (sIf c s u):=gr (Aa hc ha hb) fun E σ H ⟨δ,r,R,q,k⟩=>by
 unfold sIf at q;obtain ⟨d,ed,q⟩:=Za.mp q;refine ⟨δ,d,R,ed,fun H' s1=>?_⟩
 cases d with
 | true=>rw [if_pos rfl];exact ⟨δ,r,R.mono s1,q,k.mono s1⟩
 | false=>rw [if_neg Zv];exact ⟨δ,r,R.mono s1,q,k.mono s1⟩
theorem qu:PSD X st zI:=gr tM fun E σ H ⟨δ,r,R,e,k⟩=>by cases e
end
def ib:Nat->FT->SD->SD
 | 0,_,_=>fun _=>none
 | n+1,c,s=>fun δ=>(c δ).bind fun b=>match b with
  | true=>(s δ).bind fun r=>match r with
   | .nx δ'=>ib n c s δ'
   | .ct δ'=>ib n c s δ'
   | .bk δ'=>some (.nx δ')
   | .rt d=>some (.rt d)
   | .ex C δ'=>some (.ex C δ')
   | .mk C δ'=>some (.mk C δ')
  | false=>some (.nx δ)
theorem yv {X:Cx} {cx:Expr} {body:List Stmt} {c:FT} {s:SD} {pos:Pos} (n:Nat) (hp:PassesOwn (model X.prog X.w) X.A X.env X.xe) (hc:PTD X cx c) (hb:pY X body s):PSD X (.While cx body [] pos) (ib n c s):=gr (z9 hp hc hb) fun E σ H ⟨δ,r,R,e,k⟩=>by
 refine ⟨fun m σ H=>∃ δ r,RepS X.K H σ δ/\ib m c s δ=some r/\RP X E H r,⟨n,δ,r,R,e,k⟩,?_⟩
 rintro m σ H ⟨δ,r,R,e,k⟩
 cases m with
 | zero=>exact absurd e (by intro z;cases z)
 | succ m =>
  obtain ⟨b,eb,e⟩:=Za.mp (show ((c δ).bind _)=some r from e)
  refine ⟨δ,b,R,eb,fun H1 s1=>?_⟩
  cases b with
  | true =>
   rw [if_pos rfl];obtain ⟨r1,e1,e⟩:=Za.mp (show ((s δ).bind _)=some r from e)
   refine ⟨fun σ' H'=>∃ m',m' < m+1/\∃ δ r,RepS X.K H' σ' δ/\ib m' c s δ=some r/\RP X E H' r,fun _ _ z=>z,⟨δ,r1,R.mono s1,e1,?_⟩⟩
   cases r1 with
   | nx δ'=>exact fun σ' H' s2 R2=>⟨m,Nat.lt_succ_self m,δ',r,R2,e,k.mono (s1.trans s2)⟩
   | ct δ'=>exact fun σ' H' s2 R2=>⟨m,Nat.lt_succ_self m,δ',r,R2,e,k.mono (s1.trans s2)⟩
   | bk δ'=>cases e;exact fun σ' H' s2 R2=>k σ' H' (s1.trans s2) R2
   | rt d=>cases e;exact fun v H' s2 R2=>k v H' (s1.trans s2) R2
   | ex C δ'=>cases e;exact fun σ' H' s2 R2=>k σ' H' (s1.trans s2) R2
   | mk C δ'=>cases e;exact fun σ' H' s2 R2=>k σ' H' (s1.trans s2) R2
  | false =>
   rw [if_neg Zv];cases e;exact k σ H1 s1 (R.mono s1)
def ItD (K:Zu) (J:It) (H1:Hp) (ds:List D):Prop:=∀ i H2,Same H1 H2 ->
 (i < ds.length->J.go i H2/\∀ x H',J.yld i H2 x H'->Same H2 H'/\∃ d,ds[i]? = some d/\Rep K H' x d)/\(ds.length<=i->J.stop i H2)
def upI (K:Zu) (src:FA):TI:=fun σ H R=>∃ δ ds,RepS K H σ δ/\src δ=some ds/\∀ J H1,Same H H1->ItD K J H1 ds->R J H1
def PID (X:Cx) (tg iter:Expr) (src:FA):Prop:=PI X tg iter (upI X.K src)
theorem yP {X:Cx} {tg iter:Expr} {t t':TI} (h:PI X tg iter t) (w:∀ σ H R,t' σ H R->t σ H R):PI X tg iter t':=fun pins s σ H R I q=>h pins s σ H R I (w σ H R q)
def asL:D->Option (List D)
 | .lst ds=>some ds
 | .seq ds=>some ds
 | _=>none
theorem xy {K:Zu} {H1:Hp} {a:Addr} {vs:List V} {ds:List D} (hq:SqL K H1 a vs) (r:Reps K H1 vs ds):ItD K (Itl K a) H1 ds:=by
 intro i H2 s;have hq2:=s.seq hq;have r2:=r.mono s;have hl:=r2.length;refine ⟨fun hi=>⟨⟨vs,vs[i],hq2,by simp [show i < vs.length by omega]⟩,fun x H' y=>?_⟩,fun hi=>⟨vs,hq2,by omega⟩⟩
 obtain ⟨e,y⟩:=y;subst e;obtain ⟨d,h1,h2⟩:=r2.getV (y vs hq2);exact ⟨Same.refl _,d,h1,h2⟩
theorem iw {X:Cx} {tg l:Expr} {f:FD} (hl:PD X l f):PID X tg l (fun δ=>(f δ).bind asL):=yP (xi hl) fun σ H R ⟨δ,ds,R0,e,k⟩=>by
 obtain ⟨d,ed,e⟩:=Za.mp e;refine ⟨δ,d,R0,ed,fun v H1 s1 r1=>?_⟩
 cases r1 with
 | @lst p vs es hp rp=>cases e;exact ⟨p,rfl,⟨vs,SqL.of hp⟩,k _ H1 s1 (xy (SqL.of hp) rp)⟩
 | @seq p vs es hp rp=>cases e;exact ⟨p,rfl,⟨vs,hp⟩,k _ H1 s1 (xy hp rp)⟩
 | _=>cases e
def upG (K:Zu) (g:D->DS->Option DS):TG:=fun v σ H Q=>∃ d δ δ',Rep K H v d/\RepS K H σ δ/\g d δ=some δ'/\∀ σ',RepS K H σ' δ'->Q σ' H
def PGD (X:Cx) (tg:Expr) (g:D->DS->Option DS):Prop:=PG X tg (upG X.K g)
def lg (i:Nat):D->DS->Option DS:=fun d δ=>some (δ.set i (some d))
theorem kS {X:Cx} (i:Nat) {x:Str} {pos:Pos} (hN:X.N.Nodup) (hi:X.N[i]? = some x:=by rfl) (hx:Loc X.env.scope x:=by first | exact Or.inl rfl | exact Or.inr rfl) (hf:X.fn x=true \/ X.env.scope.names.lookup x=some .local:=by first | exact .inl rfl | exact .inr rfl | assumption):PGD X (.Name x pos) (lg i) :=
 fun pins s σ H v u Q I r ⟨d,δ,δ',rv,R,e,k⟩=>by
  cases e;exact jL hN hi hx hf pins s σ H v u Q I r (k _ (R.set i rv))
def kj (g:D->DS->Option DS) (s:SD):List D->SD
 | []=>fun δ=>some (.nx δ)
 | d :: ds=>fun δ=>(g d δ).bind fun δ1=>(s δ1).bind fun r=>match r with
  | .nx δ'=>kj g s ds δ'
  | .ct δ'=>kj g s ds δ'
  | .bk δ'=>some (.nx δ')
  | .rt d=>some (.rt d)
  | .ex C δ'=>some (.ex C δ')
  | .mk C δ'=>some (.mk C δ')
def B6 (src:FA) (g:D->DS->Option DS) (s:SD):SD:=fun δ=>(src δ).bind fun ds=>kj g s ds δ
theorem xc {X:Cx} {tg iter:Expr} {body:List Stmt} {src:FA} {g:D->DS->Option DS} {s:SD} {pos:Pos} (hp:PassesOwn (model X.prog X.w) X.A X.env X.xe) (hc:X.calm=true) (hi:PID X tg iter src) (hg:PGD X tg g) (hb:pY X body s)
 (hs:∀ x,foldedSetIterable iter X.env x=pure x:=by intro _;rfl):PSD X (.For tg iter body [] pos) (B6 src g s):=gr (vD hp hc hi hg hb hs) fun E σ H ⟨δ,r,R,e,k⟩=>by
 unfold B6 at e;obtain ⟨ds,eds,e⟩:=Za.mp e;refine ⟨δ,ds,R,eds,fun J H1 s1 it=>?_⟩
 refine ⟨fun i m σ H=>m=ds.length - i/\i<=ds.length/\Same H1 H/\∃ δ,RepS X.K H σ δ/\kj g s (ds.drop i) δ=some r/\RP X E H r,⟨ds.length,rfl,Nat.zero_le _,Same.refl _,δ,R.mono s1,e,k.mono s1⟩,?_⟩
 rintro i m σ H2 ⟨rfl,hil,s2,δ2,R2,e2,k2⟩
 by_cases hlt:i < ds.length
 . obtain ⟨go,yl⟩:=(it i H2 s2).1 hlt;rw [List.drop_eq_getElem_cons hlt] at e2;obtain ⟨δ3,e3,e2⟩:=Za.mp (show ((g ds[i] δ2).bind _)=some r from e2)
   obtain ⟨r4,e4,e2⟩:=Za.mp e2;refine .inr ⟨go,fun σ' H'=>Same H1 H'/\∃ δ,RepS X.K H' σ' δ/\kj g s (ds.drop (i+1)) δ=some r/\RP X E H' r,fun σ' H' z=>⟨ds.length - (i+1),by omega,rfl,hlt,z⟩,fun x H' y=>?_⟩
   obtain ⟨s3,d,hd,rx⟩:=yl x H' y;have hd':d=ds[i]:=by
    rw [Zt hlt] at hd;exact (ZA hd).symm
   subst hd';refine ⟨ds[i],δ2,δ3,rx,R2.mono s3,e3,fun σ3 R3=>⟨δ3,r4,R3,e4,?_⟩⟩
   cases r4 with
   | nx δ'=>exact fun σ' H'' s4 R4=>⟨(s2.trans s3).trans s4,δ',R4,e2,(k2.mono s3).mono s4⟩
   | ct δ'=>exact fun σ' H'' s4 R4=>⟨(s2.trans s3).trans s4,δ',R4,e2,(k2.mono s3).mono s4⟩
   | bk δ'=>cases e2;exact fun σ' H'' s4 R4=>k2 σ' H'' (s3.trans s4) R4
   | rt d=>cases e2;exact fun v H'' s4 R4=>k2 v H'' (s3.trans s4) R4
   | ex C δ'=>cases e2;exact fun σ' H'' s4 R4=>k2 σ' H'' (s3.trans s4) R4
   | mk C δ'=>cases e2;exact fun σ' H'' s4 R4=>k2 σ' H'' (s3.trans s4) R4
 . have e:i=ds.length:=by omega
   subst e;rw [List.drop_length] at e2;cases e2;exact .inl ⟨(it _ H2 s2).2 (ZG _),k2 σ H2 (Same.refl _) R2⟩
def aJ:Option Res->Option D
 | some (.rt d)=>some d
 | some (.nx _)=>some .non
 | _=>none
def start (n:Nat) (ds:List D):DS:=ds.map some++List.replicate (n - ds.length) none
section
variable {P:Program} {w:World} {K:Zu} {mg:Str->Option Value} {base:Heap}
theorem bK {x qual:Str} {st:Stmt} {f:Addr} {fd:FuncData} {N ps:List Str} {k:Nat} {G:List D->Option D} (F:Fun K x qual st f fd) (S:aF N ps (aq st))
 (hbody:∀ (cdv:Value) (A:Around) (outer:List Env) (s:Shared) (H:Hp) (E:XK) (ds:List D) (d:D),Room k (A.deeper (envOfC qual (aq st) s.heap.objs.size f cdv))->G ds=some d->ds.length=ps.length ->
  ∃ t,pY (ii CX0 P w K mg base N qual (aq st) f cdv A outer s H E).nox (bD st) t/\aJ (t (start N.length ds))=some d):FnOk P w K mg base CX0 (k+1) f fd ps (bz K ps.length G):=by
 refine F.ok S (fun vs H Q E h=>h.1) (fun cdv A outer s H vs Q E hr h=>?_)
 obtain ⟨hl,ds,d,r,e,q⟩:=h;obtain ⟨t,ht,hq⟩:=hbody cdv A outer s H E ds d hr e (r.length.symm.trans hl);refine ⟨_,ht,start N.length ds,?_⟩;cases z:t (start N.length ds) with
 | none=>rw [z] at hq;cases hq
 | some res =>
  rw [z] at hq;refine ⟨res,RepS.start r,rfl,?_⟩;cases res with
  | rt d'=>cases hq;exact q
  | nx δ=>cases hq;exact fun σ' H' s1 _=>q _ H' s1 .non
  | bk δ=>cases hq
  | ct δ=>cases hq
  | ex C δ=>cases hq
  | mk C δ=>cases hq
structure Has (P:Program) (w:World) (K:Zu) (mg:Str->Option Value) (base:Heap) (k:Nat) (x:Str) (ps:List Str) (G:List D->Option D):Prop where
 ex:∃ f fd,FnOk P w K mg base CX0 k f fd ps (bz K ps.length G)/\mg x=some (.ref f)/\PySem.W.keepIn K (.ref f)=true/\Binds K fd ps []
end
theorem ay {X:Cx} {e:Expr} {es:List Expr} {g:FA} {pos p:Pos} {k j:Nat} {x:Str} {ps:List Str} {G:List D->Option D} (F:Has X.prog X.w X.K X.mg X.base k x ps G) (hr:Room j X.A) (ha:PAD X (e :: es) g) (hk:k<=j:=by decide) (hg:Gl X x:=by rfl)
 (hn:(e :: es).length=ps.length:=by rfl) (hdb:(x == ("__debug__":Str))=false:=by decide) (he:starEach (e :: es) X.env=(false,eval e X.env) :: starEach es X.env:=by rfl) (hpl:(backTo pos (starEach es X.env)).any (·.1)=false:=by rfl) :
 PD X (.Call (.Name x p) (e :: es) [] pos) (au G g):=by
 obtain ⟨f,fd,F,hm,kp,hb⟩:=F.ex;exact Cv F (hr.mono hk) hg hm kp hb ha hn hdb he hpl
end Dl
namespace Dl
open PySem PySem.Spec PyProof.Rows L2
def spLaw (K:Zu):Sp:=fun vs H Q _=>∃ (a:Addr) (ns:List Int),vs=[.ref a]/\SqL K H a (ns.map V.int)/\ns.length<=63/\∀ H',Q (.bl true) H'
end Dl
namespace Dl
noncomputable def fn (S:List D->D->Prop):List D->Option D:=fun ds=>by
 classical exact if h:∃ d,S ds d then some h.choose else none
theorem aT {S:List D->D->Prop} {ds:List D} {d:D} (h:fn S ds=some d):S ds d:=by
 unfold fn at h;split at h
 . rename_i q;have e:=ZA h;rw [<- e];exact q.choose_spec
 . cases h
theorem bN {S:List D->D->Prop} {ds:List D} {d:D} (u:∀ d',S ds d'->d'=d) (h:S ds d):fn S ds=some d:=by
 unfold fn;have q:∃ d,S ds d:=⟨d,h⟩;rw [dif_pos q];exact congrArg some (u _ q.choose_spec)
theorem xD (a b:Int):gNe (.int a) (.int b)=some (.bl (!(a == b))):=rfl
theorem eI (a b:Int):gEq (.int a) (.int b)=some (.bl (a == b)):=rfl
theorem dw (a b:Int):jd (.int a) (.int b)=some (.int (a+b)):=rfl
theorem aC {C:Int->Int->Prop} [∀ i j,Decidable (C i j)] {g:Int->Int->D} {i j:Int} (h:C i j):gI C g (.int i) (.int j)=some (g i j):=if_pos h
end Dl
namespace Dl
theorem yT (n:String) (p:D->Option Bool) (d:D):lW n p [d,.ty n]=(p d).map D.bl:=if_pos rfl
theorem cg (a b:D):gIx (.tup [a,b]) (.int 0)=some a:=rfl
theorem cH (a b:D):gIx (.tup [a,b]) (.int 1)=some b:=rfl
theorem uA (ds:List D):gu [.seq ds]=some (.int ds.length):=rfl
theorem zF {n:Nat} {c:FT} {s:SD} {δ δ':DS} (hc:c δ=some true) (hs:s δ=some (.nx δ')):ib (n+1) c s δ=ib n c s δ':=by
 simp only [ib,hc,hs,Zc]
theorem uZ {x y:Int} (h0:0<=x) (h:x<=y) (hy:Bd y):Bd x:=Nat.lt_of_le_of_lt (show x.natAbs<=y.natAbs by omega) hy
end Dl
namespace Dl
open PySem PySem.Spec PyProof.Rows L2
abbrev FO:=DS->Option (Option Int)
def faN:FO:=fun _=>some none
def asI:D->Option (Option Int)
 | .int i=>some (some i)
 | _=>none
def faS (f:FD):FO:=fun δ=>(f δ).bind asI
def zJ (n d:Nat):Option Int->Nat
 | none=>d
 | some v=>if v < 0 then (v+(n:Int)).toNat else min v.toNat n
def cutD (ds:List D) (lo hi:Option Int):List D:=(ds.drop (zJ ds.length 0 lo)).take (zJ ds.length ds.length hi - zJ ds.length 0 lo)
def fSl (f:FD) (lo hi:FO):FD:=fun δ=>(f δ).bind fun d=>(asL d).bind fun ds=>(lo δ).bind fun l=>(hi δ).bind fun h=>some (.lst (cutD ds l h))
def dfl (G:List D->Option D) (dv:List Int):List D->Option D:=fun ds=>G (ds++dv.map D.int)
def mS (g:D->Option D):List D->Option (List D)
 | []=>some []
 | d :: ds=>(g d).bind fun x=>(mS g ds).bind fun xs=>some (x :: xs)
def bv (js:List Nat) (δ:DS):DS:=js.map fun j=>match δ[j]? with
 | some o=>o
 | none=>none
def qP (src:FA) (js:List Nat) (elt:FD):FD:=fun δ=>(src δ).bind fun ds=>(mS (fun d=>elt (some d :: bv js δ)) ds).bind fun xs=>if xs.length<=1000 then some (.lst xs) else none
def d3 (a b c:Int):List D:=(List.range ((b - a+c - 1) / c).toNat).map fun i=>.int (a+(i:Nat)*c)
def asR:List D->Option (List D)
 | [.int b]=>if -(2 ^ 62)<=b/\b < 2 ^ 62 then some (d3 0 b 1) else none
 | [.int a,.int b]=>if -(2 ^ 62)<=a/\a < 2 ^ 62/\-(2 ^ 62)<=b/\b < 2 ^ 62 then some (d3 a b 1) else none
 | [.int a,.int b,.int c]=>if -(2 ^ 62)<=a/\a < 2 ^ 62/\-(2 ^ 62)<=b/\b < 2 ^ 62/\c=2 then some (d3 a b c) else none
 | _=>none
def mL (g:FA):FA:=fun δ=>(g δ).bind asR
end Dl
namespace Dl
end Dl
namespace Dl
open PySem PySem.Spec PyProof.Rows L2
structure FunD (K:Zu) (x qual:Str) (st:Stmt) (f:Addr) (fd:FuncData) (dV:Value):Prop where
 ex:∃ (oc:Value) (od:Option Addr) (kV doc pm:Value) (an:Option Addr) (cdv ct:Value) (osl:Array (Option Value)),
  fd=PySem.W.fnOf x qual (cQ st) (bD st) (aq st) dV kV doc pm an cdv ct/\K.lookup f=some ⟨oc,od,.func fd,osl⟩/\PySem.W.codeIn K cdv qual=true
 kp:PySem.W.keepIn K (.ref f)=true
section
variable {P:Program} {w:World} {K:Zu} {mg:Str->Option Value} {base:Heap}
theorem z7 {x qual:Str} {st:Stmt} {f:Addr} {fd:FuncData} {dV:Value} {N ps:List Str} {k:Nat} {G:List D->Option D} (F:FunD K x qual st f fd dV) (S:aF N ps (aq st))
 (hbody:∀ (cdv:Value) (A:Around) (outer:List Env) (s:Shared) (H:Hp) (E:XK) (ds:List D) (d:D),Room k (A.deeper (envOfC qual (aq st) s.heap.objs.size f cdv))->G ds=some d->ds.length=ps.length ->
  ∃ t,pY (ii CX0 P w K mg base N qual (aq st) f cdv A outer s H E).nox (bD st) t/\aJ (t (start N.length ds))=some d):FnOk P w K mg base CX0 (k+1) f fd ps (bz K ps.length G):=by
 obtain ⟨oc,od,kV,doc,pm,an,cdv,ct,osl,rfl,lk,hcd⟩:=F.ex;refine Be lk hcd S (fun vs H Q E h=>h.1) fun A outer s H vs Q E hr hsp=>?_
 obtain ⟨hl,ds,d,r,e,q⟩:=hsp;obtain ⟨t,ht,hq⟩:=hbody cdv A outer s H E ds d hr e (r.length.symm.trans hl);refine ⟨_,ht.nox,start N.length ds,?_⟩;cases z:t (start N.length ds) with
 | none=>rw [z] at hq;cases hq
 | some res =>
  rw [z] at hq;refine ⟨res,RepS.start r,rfl,?_⟩;cases res with
  | rt d'=>cases hq;exact q
  | nx δ=>cases hq;exact fun σ' H' s1 _=>q _ H' s1 .non
  | bk δ=>cases hq
  | ct δ=>cases hq
  | ex C δ=>cases hq
  | mk C δ=>cases hq
theorem FunD.binds {x qual:Str} {st:Stmt} {f T:Addr} {fd:FuncData} {ps:List Str} {o:Obj} {items:Array Value} {n:Nat} {ds:List Value} (F:FunD K x qual st f fd (.ref T)) (ho:K.lookup T=some o) (hs:o.data=.seq items n)
 (h:∀ (kV doc pm:Value) (an:Option Addr) (cdv ct:Value) (us:List Value),(us++ds).length=ps.length->∃ k,bindArgs (PySem.W.fnOf x qual (cQ st) (bD st) (aq st) (.ref T) kV doc pm an cdv ct) ⟨us,[]⟩=seqItems? (.ref T) >>= k/\k (some items)=pure (ps.zip (us++ds))):Binds K fd ps ds:=by
 obtain ⟨oc,od,kV,doc,pm,an,cdv,ct,osl,rfl,lk,hcd⟩:=F.ex;intro s us KI hl;obtain ⟨k,h1,h2⟩:=h kV doc pm an cdv ct us hl;exact PySem.W.binds_K KI rfl ho hs h1 h2
theorem Dc {x qual:Str} {st:Stmt} {f:Addr} {oc dV:Value} {od an:Option Addr} {osl:Array (Option Value)} {kV doc pm cdv ct:Value} (l:K.lookup f=some ⟨oc,od,.func (PySem.W.fnOf x qual (cQ st) (bD st) (aq st) dV kV doc pm an cdv ct),osl⟩)
 (c:PySem.W.codeIn K cdv qual=true) (k:PySem.W.keepIn K (.ref f)=true):FunD K x qual st f (PySem.W.fnOf x qual (cQ st) (bD st) (aq st) dV kV doc pm an cdv ct) dV:=⟨⟨oc,od,kV,doc,pm,an,cdv,ct,osl,rfl,l,c⟩,k⟩
structure pK (P:Program) (w:World) (K:Zu) (mg:Str->Option Value) (base:Heap) (k:Nat) (x:Str) (ps:List Str) (dv:List Int) (G:List D->Option D):Prop where
 ex:∃ f fd ds,FnOk P w K mg base CX0 k f fd ps (bz K ps.length G)/\mg x=some (.ref f)/\PySem.W.keepIn K (.ref f)=true/\Vals (dv.map V.int) ds/\Binds K fd ps ds
end
theorem cG {X:Cx} {e:Expr} {es:List Expr} {g:FA} {pos p:Pos} {k j:Nat} {x:Str} {ps:List Str} {dv:List Int} {G:List D->Option D} (F:pK X.prog X.w X.K X.mg X.base k x ps dv G) (hr:Room j X.A) (ha:PAD X (e :: es) g) (hk:k<=j:=by decide) (hg:Gl X x:=by rfl)
 (hn:(e :: es).length+dv.length=ps.length:=by rfl) (hdb:(x == ("__debug__":Str))=false:=by decide) (he:starEach (e :: es) X.env=(false,eval e X.env) :: starEach es X.env:=by rfl) (hpl:(backTo pos (starEach es X.env)).any (·.1)=false:=by rfl) :
 PD X (.Call (.Name x p) (e :: es) [] pos) (au (dfl G dv) g):=by
 obtain ⟨f,fd,ds,F,hm,kp,hv,hb⟩:=F.ex;refine imp (nC F (hr.mono hk) hg hm kp hb hv xn ha hdb he hpl) fun σ H Q ⟨δ,d,R,q,k⟩=>?_
 unfold au at q;obtain ⟨ds,eds,q⟩:=Za.mp q;refine ⟨δ,ds,R,eds,fun vs H1 s1 r1 l=>?_⟩
 exact ⟨by rw [Zh,l,Zi];exact hn,ds++dv.map D.int,d,r1.append (Reps.ints dv),q,fun v H' s=>k v H' (s1.trans s)⟩
def upO (K:Zu) (f:FO):TO:=fun σ H Q=>∃ δ o,RepS K H σ δ/\f δ=some o/\∀ H',Same H H'->Q o H'
def POD (X:Cx) (e:Option Expr) (f:FO):Prop:=PO X e (upO X.K f)
theorem wS (n d:Nat) (o:Option Int):zJ n d o=HT.sIx n d o:=by cases o <;> rfl
theorem uR {K:Zu} {H:Hp} {vs:List V} {ds:List D} (r:Reps K H vs ds) (lo hi:Option Int):Reps K H (v7 vs lo hi) (cutD ds lo hi):=by
 unfold v7 cutD;rw [r.length,wS,wS];exact (r.drop _).take _
section
variable {X:Cx} {e:Expr} {f:FD} {lo hi:Option Expr} {fl fh:FO} {pos p2:Pos}
theorem kQ:POD X none faN:=fun pins s σ H Q I ⟨δ,o,R,q,k⟩=>Cj pins s σ H Q I (by cases q;exact k H (Same.refl H))
theorem iu (h:PD X e f):POD X (some e) (faS f):=fun pins s σ H Q I ⟨δ,o,R,q,k⟩=>Ci h pins s σ H Q I (by
 unfold faS at q;obtain ⟨d,ed,q⟩:=Za.mp q;refine ⟨δ,d,R,ed,fun v H1 s1 r1=>?_⟩
 cases r1 with
 | int i=>cases q;exact ⟨i,rfl,k H1 s1⟩
 | _=>cases q)
theorem kT (he:PD X e f) (hl:POD X lo fl) (hu:POD X hi fh):PD X (.Subscript e (.Slice lo hi none p2) pos) (fSl f fl fh):=imp (tS wM he hl hu) fun σ H Q ⟨δ,d,R,q,k⟩=>by
 unfold fSl at q;obtain ⟨x,ex,q⟩:=Za.mp q;obtain ⟨ds,eds,q⟩:=Za.mp q;obtain ⟨l,el,q⟩:=Za.mp q;obtain ⟨h,eh,q⟩:=Za.mp q;cases q;refine ⟨δ,x,R,ex,fun v H1 s1 r1=>⟨δ,l,R.mono s1,el,fun H2 s2=>⟨δ,h,(R.mono s1).mono s2,eh,fun H3 s3=>?_⟩⟩⟩
 have r3:=(r1.mono s2).mono s3;have fin:∀ (a:Addr) (vs:List V),SqL X.K H3 a vs->Reps X.K H3 vs ds->Ei X.K (.ref a) l h H3 Q:=fun a vs hq rp=>by
  refine ⟨a,vs,rfl,hq,fun p hp=>?_⟩
  have s:=bQ hp (.lst (v7 vs l h));exact k _ _ (((s1.trans s2).trans s3).trans s) (.lst aP ((uR rp l h).mono s))
 cases r3 with
 | @lst p vs es hp rp=>cases eds;exact fin p vs (SqL.of hp) rp
 | @seq p vs es hp rp=>cases eds;exact fin p vs hp rp
 | _=>cases eds
end
section
variable {prog:Program} {w:World} {A:Around} {E:Value->Shared->Prop}
end
theorem vw {K:Zu} {H:Hp} {lo:Int} {n:Nat}:ItD K (Itr lo n) H ((List.range n).map fun (i:Nat)=>D.int (lo+(i:Int)*1)):=by
 intro i H2 s;refine ⟨fun hi=>?_,fun hi=>(show n<=i by simpa using hi)⟩
 have hi':i < n:=by simpa using hi
 refine ⟨hi',fun x H' y=>?_⟩
 obtain ⟨e,y⟩:=y;subst e y;refine ⟨Same.refl _,.int (lo+(i:Int)*1),?_,by rw [Int.mul_one];exact .int _⟩
 rw [ZD,List.getElem?_range hi'];rfl
theorem eX {X:Cx} {tg a:Expr} {g:FA} {p pos:Pos} (hg:Gl X "range") (hm:X.mg "range" = none) (ha:PAD X [a] g) (hs:starEach [a] X.env=[(false,eval a X.env)]:=by rfl):PID X tg (.Call (.Name "range" p) [a] [] pos) (mL g) :=
 yP (qv hg hm ha hs) fun σ H R ⟨δ,ds,R0,e,k⟩=>by
 unfold mL at e;obtain ⟨xs,exs,e⟩:=Za.mp e;refine ⟨δ,xs,R0,exs,fun vs H1 s1 r1 l=>?_⟩
 match xs,r1,e with
 | [.int b],r1,e =>
  obtain ⟨v,rfl,rv⟩:=g8 r1;cases rv;have e':(if -(2 ^ 62)<=b/\b < 2 ^ 62 then some (d3 0 b 1) else none)=some ds:=e
  by_cases hb:-(2 ^ 62)<=b/\b < 2 ^ 62
  . rw [if_pos hb] at e';have e2:d3 0 b 1=ds:=ZA e';refine ⟨b,rfl,hb.1,hb.2,k _ H1 s1 ?_⟩;have h:=vw (K:=X.K) (H:=H1) (lo:=0) (n:=b.toNat);have e3:((b - 0+1 - 1) / 1).toNat=b.toNat:=by congr 1;omega
    unfold d3 at e2;rw [e3] at e2;rw [<- e2];exact h
  . rw [if_neg hb] at e';cases e'
 | [],r1,e=>cases r1;cases l
 | _ :: _ :: _,r1,e=>
  have:=r1.length;rw [l] at this;cases this
 | [.non],r1,e=>cases e
 | [.bl _],r1,e=>cases e
 | [.str _],r1,e=>cases e
 | [.tup _],r1,e=>cases e
 | [.lst _],r1,e=>cases e
 | [.seq _],r1,e=>cases e
 | [.ty _],r1,e=>cases e
 | [.dct],r1,e=>cases e
 | [.exc _],r1,e=>cases e
 | [.cls _],r1,e=>cases e
 | [.ms _ _],r1,e=>cases e
 | [.mf _ _],r1,e=>cases e
 | [.md _ _],r1,e=>cases e
end Dl
namespace Dl
open PySem PySem.Spec PyProof.Rows L2
structure CompOk (X:Cx) (scope:Scope) (cl:List (Str×Addr)) (x:Str) (N:List Str) (js:List Nat):Prop where
 clos:closureFor scope X.env=pure cl
 nocell:∀ y∈scope.names,y.2 ≠ .cell
 kind:scope.kind=.function
 names:∀ y∈scope.names,y.2=.local->scope.names.lookup y.1=some .local
 hx:scope.names.lookup x=some .local
 nd:N.Nodup
 h0:N[0]? = some x
 len:N.length=js.length+1
 clx:cl.lookup x=none
 cls:∀ y c,cl.lookup y=some c->X.env.cells.lookup y=some c
 has:∀ y,((relabel scope X.env).names.lookup y=some .cell \/ (relabel scope X.env).names.lookup y=some .free)->∃ c,cl.lookup y=some c
 fr:∀ i y j,N[i+1]? = some y->js[i]? = some j->X.N[j]? = some y/\X.env.scope.names.lookup y=some .cell/\(relabel scope X.env).names.lookup y=some .cell/\∀ c,X.env.cells.lookup y=some c->cl.lookup y=some c
abbrev cA (X:Cx) (scope:Scope) (cl:List (Str×Addr)) (x:Str) (N:List Str) (C:Addr) (s₂:Shared) (H₂:Hp) (fp:List Addr) (pn:List (Addr×Obj)):Cx :=
 { X with env:=compEnvC scope cl C X.env,N:=N,s₀:=s₂,H₀:=H₂,outer:=X.stack,stack:=X.stack,ex:=fp,fn:=fun y=>y == x,calm:=true,pn:=pn,xe:=fun _ _=>False }
section
variable {X:Cx} {pins:List (Addr×Obj)} {σ:L2.St} {H₂:Hp} {s₂:Shared} {scope:Scope} {cl:List (Str×Addr)} {x:Str} {N:List Str} {js:List Nat} {C:Addr} {fp:List Addr}
theorem zc (I:L2.Inv X pins σ H₂ s₂) (hcm:X.calm=true) (O:CompOk X scope cl x N js) (hC:s₂.heap.objs.size<=C) (hf:∀ b∈fp,jS X pins H₂ b) (ho:∀ b∈fp,∃ o,s₂.heap.get? b=some o):(cA X scope cl x N C s₂ H₂ fp (X.pn++pins)).Ok where
 mod:=I.ok.mod
 kind:=O.kind
 glob:=I.ok.glob
 blt:=I.ok.blt
 above:=hC
 inj:=fun y z c h1 h2=>I.ok.inj y z c (O.cls y c h1) (O.cls z c h2)
 has:=fun y h=>O.has y h
 cab:=fun y c h1 h2=>by
  have e:y=x:=by simpa using h1
  subst e;have:cl.lookup y=some c:=h2;rw [O.clx] at this;cases this
 hd:=fun _=>I.ok.hd hcm
 frames:=I.ok.frames
 stk:=.inl rfl
 exf:=fun b hb=>by
  obtain ⟨o,e⟩:=ho b hb;refine ⟨ZB (Zw (Heap.lt_size e) hC),fun y c h z=>?_⟩
  exact (hf b hb).2.2.2.2.1 y c (O.cls y c h) z
 bs:=I.bs
 bsz:=Nat.le_trans I.ok.bsz I.sz
 noex:=fun b o e hb=>by
  rcases (hf b hb).2.2.2.1 with z | z
  . exact I.ok.noex b o e z
  . exact absurd (Zw (Heap.lt_size e) (Nat.le_trans I.ok.bsz z)) (ZC _)
 exfs:=fun b hb z=>by
  rcases Zq.mp (I.stkSub b z) with e | e
  . exact (hf b hb).2.1 e
  . exact (hf b hb).2.2.1 e
 funs:=I.stack
 frf:=I.stkFree
end
theorem oK {g:D->Option D}:∀ {ds xs:List D},mS g ds=some xs->xs.length=ds.length/\∀ (i:Nat) d,ds[i]? = some d->∃ e,g d=some e/\xs[i]? = some e
 | [],xs,h=>by
  cases h;exact ⟨rfl,fun i d e=>by simp at e⟩
 | d :: ds,xs,h=>by
  obtain ⟨x,ex,h⟩:=Za.mp (show ((g d).bind _)=some xs from h)
  obtain ⟨ys,ey,h⟩:=Za.mp h;cases h;obtain ⟨h1,h2⟩:=oK ey;refine ⟨by simp [h1],fun i e he=>?_⟩
  cases i with
  | zero=>simp at he;subst he;exact ⟨x,ex,rfl⟩
  | succ i =>
   obtain ⟨z,hz1,hz2⟩:=h2 i e (by simpa using he)
   exact ⟨z,hz1,by simpa using hz2⟩
def dh (js:List Nat) (σ:L2.St):L2.St:=js.map fun j=>match σ[j]? with
 | some o=>o
 | none=>none
theorem lE {K:Zu} {H:Hp} {σ:L2.St} {δ:DS} (R:RepS K H σ δ) (js:List Nat):RepS K H (none :: dh js σ) (none :: bv js δ):=by
 refine ⟨by simp [dh,bv],fun i d q=>?_⟩
 cases i with
 | zero=>simp at q
 | succ i =>
  have q':(bv js δ)[i]? = some (some d):=by simpa using q
  unfold bv at q';rw [ZD] at q';obtain ⟨j,h1,h2⟩:=Zb.mp q';cases h3:δ[j]? with
  | none=>rw [h3] at h2;cases h2
  | some o =>
   rw [h3] at h2;have h2':o=some d:=h2;subst h2';obtain ⟨v,h4,h5⟩:=R.val j d h3;refine ⟨v,?_,h5⟩;show (dh js σ)[i]? = some (some v);unfold dh;rw [ZD,h1];show some (match σ[j]? with | some o=>o | none=>none)=some (some v)
   rw [h4]
theorem bindF {α β:Type} {M:Model} {A:Around} {m:Sem α} {f:α->Sem β} {Q:α->Shared->Prop} {R:β->Shared->Prop} {E:Value->Shared->Prop} {s:Shared} (h:wpAny M A m Q (fun _ _=>False) s) (k:∀ a s',Q a s'->wpAny M A (f a) R E s'):wpAny M A (m>>=f) R E s:=wpAny_bind (wpAny_mono h k fun _ _=>False.elim)
theorem lA {prog:Program} {w:World} {A:Around} {R:Result->Shared->Prop} {s:Shared} {elt target iter:Expr} {scope:Scope} {pos:Pos} {it acc:Value} {env:Env} (J:Nat->Shared->Prop)
 (turn:∀ n s,J n s->wpAny (model prog w) A (pyNext it) (fun r s₁=>match r with
  | none=>R (.ok .next) s₁
  | some v=>wpAny (model prog w) A (letOwnedTupleGo target it v) (fun _ s₂=>wpAny (model prog w) A (assign target env v) (fun _ s₃=>wpAny (model prog w) A (eval elt env) (fun y s₄ =>
   wpAny (model prog w) A (call (.builtin "list.append") [acc,y]) (fun _ s₅=>∃ m,m < n/\J m s₅) (fun _ _=>False) s₄) (fun _ _=>False) s₃) (fun _ _=>False) s₂) (fun _ _=>False) s₁) (fun _ _=>False) s)
 (n:Nat) (h:J n s):codeAny (model prog w) A (.compLoop (.ListComp elt [⟨target,iter,[],0⟩] scope pos) 0 it acc env) R s:=by
 refine codeAny_loop rfl J (fun n s j=>wpAny_noted (m:=compTurn (.ListComp elt [⟨target,iter,[],0⟩] scope pos) 0 it acc env) (compTurn_list1 elt target iter scope pos it acc env▸wpAny_bind (wpAny_standAt (bindF (turn n s j) fun r _ q=>?_)))) n h
 cases r with
 | none=>exact wpAny_pure q
 | some v=>
  exact bindF q fun _ _ q=>bindF q fun _ _ q=>wpAny_bind (bindF q fun _ _ q=>bindF q fun _ _ q=>wpAny_pure (wpAny_pure ⟨rfl,q⟩))
section
variable {X:Cx} {pins:List (Addr×Obj)} {σ:L2.St} {H₂:Hp} {s₂:Shared} {scope:Scope} {cl:List (Str×Addr)} {x:Str} {N:List Str} {js:List Nat} {C:Addr} {fp:List Addr}
theorem jq (I:L2.Inv X pins σ H₂ s₂) {a:Addr} (h:s₂.heap.objs.size<=a):a ∉ frs X.stack:=fun z=>by
 rcases Zq.mp (I.stkSub a z) with e | e
 . exact absurd (Zw I.lt (by rw [<- e];exact h)) (ZC _)
 . exact I.nofs h e
theorem pq {h₁:Heap} {m:Str->Option Value} {tk:Nat} (I:L2.Inv X pins σ H₂ s₂) (hcm:X.calm=true) (O:CompOk X scope cl x N js) (hC:s₂.heap.objs.size<=C) (hf:∀ b∈fp,jS X pins H₂ b) (ho:∀ b∈fp,∃ o,s₂.heap.get? b=some o)
 (old:∀ b o,s₂.heap.get? b=some o->h₁.get? b=some o) (hns:h₁.Ns C m) (hl:σ.length=X.N.length):L2.Inv (cA X scope cl x N C s₂ H₂ fp (X.pn++pins)) [] (none :: dh js σ) H₂ { s₂ with heap:=h₁,toks:=tk } where
 ok:=zc I hcm O hC hf ho
 os:=rfl
 bare:=I.bare
 base:=Un.kept old
 loc:=by
  refine ⟨m,hns,fun i y v h1 h2 h3=>?_⟩
  cases i with
  | zero=>simp at h2
  | succ i =>
   have h2':(dh js σ)[i]? = some (some v):=by simpa using h2
   unfold dh at h2';rw [ZD] at h2';obtain ⟨j,hj,h4⟩:=Zb.mp h2';have h5:σ[j]? = some (some v):=by
    cases q:σ[j]? with
    | none=>rw [q] at h4;cases h4
    | some o=>rw [q] at h4;exact congrArg some h4
   obtain ⟨f1,f2,f3,f4⟩:=O.fr i y j h1 hj;obtain ⟨m',hn',hl'⟩:=I.loc;obtain ⟨u,ru,lk⟩:=hl' j y v f1 h5 (.inr (.inl f2));refine ⟨u,ru,?_⟩;rcases lk with ⟨k1,_⟩ | ⟨_,c,hc,o,hco,hcd⟩
   . have:X.env.scope.names.lookup y=some .local:=k1;rw [f2] at this;cases this
   . exact .inr ⟨.inl f3,c,f4 c hc,o,old c o hco,hcd⟩
 cell:=fun y c e=>by
  obtain ⟨v,o,h1,h2⟩:=I.cell y c (O.cls y c e);exact ⟨v,o,old c o h1,h2⟩
 free:=I.hok.fresh hC
 freeC:=fun y c e=>I.freeC y c (O.cls y c e)
 pin:=fun p hp=>by
  have hp':p∈X.pn++pins:=by simpa using hp
  obtain ⟨h1,h2,h3,h4,h5⟩:=I.pin p hp';refine ⟨old _ _ h1,h2,ZB (Zw (Heap.lt_size h1) hC),fun z=>?_,h5⟩
  rcases Zq.mp (I.stkSub p.1 z) with e | e
  . exact h3 e
  . exact h4 e
 hok:=I.hok.kept old
 len:=by
  show (none :: dh js σ).length=N.length;rw [O.len];simp [dh]
theorem v8 {elt iter:Expr} {px pos:Pos} {it:Addr} {tn:Nat->Heap->Prop} {J:It} {ds xs:List D} {δ:DS} {felt:FD} {RR:Value->Addr->Result->Shared->Prop} {E:Value->Shared->Prop} (I:L2.Inv X pins σ H₂ s₂) (hcm:X.calm=true) (O:CompOk X scope cl x N js)
 (T:wz X.prog X.w X.K (.Name x px) J fp it tn) (st:tn 0 s₂.heap) (hf:∀ b∈fp,jS X pins H₂ b) (itd:ItD X.K J H₂ ds) (R:RepS X.K H₂ σ δ) (he:∀ C s₂ H₂ fp pn,PD (cA X scope cl x N C s₂ H₂ fp pn) elt felt)
 (hm:mS (fun d=>felt (some d :: bv js δ)) ds=some xs) (hz:xs.length<=1000)
 (hRR:∀ (D C:Addr) (s':Shared) (Hend:Hp) (vs:List V),s₂.heap.objs.size<=C->L2.Inv X pins σ Hend s'->Same H₂ Hend->Hend D=some (.lst vs)->Reps X.K Hend vs xs->(∃ m,s'.heap.Ns C m)->Hend C=none->RR (.ref D) C (.ok .next) s') :
 wpAny (model X.prog X.w) X.A (newList []) (fun acc s₃=>wpAny (model X.prog X.w) X.A (newFunctionEnv scope X.env.globals cl [] X.env.qual none .none (some X.env)) (fun cenv s₄ =>
  codeAny (model X.prog X.w) X.A (.compStart (.ListComp elt [⟨.Name x px,iter,[],0⟩] scope pos) 0 (.ref it) acc { cenv with scope:=relabel scope X.env }) (RR acc cenv.locals) s₄) E s₃) E s₂:=by
 obtain ⟨ml,mg'⟩:=oK hm;have objs:=T.obj 0 s₂.heap st;have objs':∀ b∈fp,∃ o,s₂.heap.get? b=some o:=fun b hb=>let ⟨o,h,_⟩:=objs b hb;⟨o,h⟩
 refine wpAny_newObj_type (wpAny_newFunctionEnv O.nocell (by intro y hy;simp at hy) (fun h₁ hns₁ hsb₁=>?_) O.kind)
 dsimp only at hns₁ hsb₁ ⊢;generalize hP:s₂.heap.push { cls:=.type "list",dict:=none,data:=.seq ([]:List Value).toArray }=P2 at hns₁ hsb₁ ⊢;have hC:P2.objs.size=s₂.heap.objs.size+1:=by rw [<- hP,Heap.size_push]
 generalize hCC:P2.objs.size=C at *
 have hCle:s₂.heap.objs.size<=C:=by omega
 have hDle:s₂.heap.objs.size<=s₂.heap.objs.size:=by omega
 have hDC:s₂.heap.objs.size ≠ C:=by omega
 have old:∀ b o,s₂.heap.get? b=some o->h₁.get? b=some o:=fun b o e=>by
  refine hsb₁.extBut b o (ZB (Zw (Heap.lt_size e) hCle)) (Heap.get?_push_of_some _ ?_);rw [<- hP];exact Heap.get?_push_of_some _ e
 have hacc:h₁.get? s₂.heap.objs.size=some { cls:=.type "list",data:=.seq ([]:List Value).toArray }:=by
  refine hsb₁.extBut s₂.heap.objs.size _ hDC (Heap.get?_push_of_some _ ?_);rw [<- hP];exact Heap.get?_push_size _ rfl
 have I0:=fun tk=>pq (C:=C) (tk:=tk) I hcm O hCle hf objs' old hns₁ I.len
 have dstk:s₂.heap.objs.size ∉ frs X.stack:=jq I hDle;have fne:∀ b∈fp,b ≠ s₂.heap.objs.size:=fun b hb e=>by
  obtain ⟨o,h⟩:=objs' b hb;exact absurd (Heap.lt_size h) (by rw [e];exact ZC _)
 have cne:∀ y c,cl.lookup y=some c->c ≠ s₂.heap.objs.size:=fun y c e z=>by
  obtain ⟨v,o,h1,_⟩:=I.cell y c (O.cls y c e);exact absurd (Heap.lt_size h1) (by rw [z];exact ZC _)
 have pne:∀ p∈X.pn++pins,p.1 ≠ s₂.heap.objs.size:=fun p hp e=>by
  exact absurd (Heap.lt_size (I.pin p hp).1) (by rw [e];exact ZC _)
 have stat:∀ {H':Hp} {pl:List (Addr×Obj)},(∀ b∈fp,H' b=none)->(∀ p∈pl,∀ b∈fp,p.1 ≠ b)->∀ b∈fp,jS (cA X scope cl x N C s₂ H₂ fp (X.pn++pins)) pl H' b:=fun {H' pl} hn hpl b hb=>by
  obtain ⟨o,h⟩:=objs' b hb;refine ⟨hn b hb,ZB (Zw (Heap.lt_size h) hCle),fun z=>?_,.inl hb,fun y c e=>(hf b hb).2.2.2.2.1 y c (O.cls y c e),fun p hp=>?_⟩
  . rcases Zq.mp (I.stkSub b z) with e | e
    . exact (hf b hb).2.1 e
    . exact (hf b hb).2.2.1 e
  . rcases Zp.mp hp with q | q
    . exact (hf b hb).2.2.2.2.2 p q
    . exact hpl p q b hb
 have loop:∀ s₃:Shared,s₃={ s₂ with heap:=h₁,toks:=s₂.toks+([]:List (Str×Value)).length } ->
  codeAny (model X.prog X.w) X.A (.compLoop (.ListComp elt [⟨.Name x px,iter,[],0⟩] scope pos) 0 (.ref it) (.ref s₂.heap.objs.size) (compEnvC scope cl C X.env)) (RR (.ref s₂.heap.objs.size) C) s₃:=by
  rintro s₃ rfl
  refine lA (fun n s=>∃ (i:Nat) (σ':L2.St) (H':Hp) (vs:List V) (o:Option D),n=ds.length - i/\i<=ds.length/\L2.Inv (cA X scope cl x N C s₂ H₂ fp (X.pn++pins)) [] σ' H' s/\Same H₂ H'/\RepS X.K H' σ' (o :: bv js δ)/\tn i s.heap/\(∀ b∈fp,H' b=none) /\
   (∃ (its:List Value) (k:Nat),Vals vs its/\s.heap.get? s₂.heap.objs.size=some { cls:=.type "list",data:=.seq its.toArray k })/\H' s₂.heap.objs.size=none/\Reps X.K H' vs (xs.take i)/\vs.length=i) ?_ ds.length
   ⟨0,_,H₂,[],none,rfl,Nat.zero_le _,I0 _,Same.refl _,lE R js,T.keep 0 _ _ st (fun b hb o e=>old b o e),fun b hb=>(hf b hb).1,⟨[],0,.nil,hacc⟩,I.hok.fresh hDle,.nil,rfl⟩
  rintro n s ⟨i,σ',H',vs,o,rfl,hi,I',sm,R',st',fr',⟨its,k,rv,hD⟩,fD,rr,hl⟩
  by_cases hlt:i < ds.length
  . -- one more
    obtain ⟨go,yl⟩:=(itd i H' sm).1 hlt;have hd0:ds[i]? = some ds[i]:=by simp [hlt]
    obtain ⟨e,ge,xe⟩:=mg' i _ hd0;have I1:L2.Inv (cA X scope cl x N C s₂ H₂ fp (X.pn++pins)) [(s₂.heap.objs.size,{ cls:=.type "list",data:=.seq its.toArray k })] σ' H' s:=I'.pins_of fun p hp=>by
     have:p=(s₂.heap.objs.size,{ cls:=.type "list",data:=.seq its.toArray k }):=by simpa using hp
     subst this;exact ⟨hD,fD,hDC,dstk,fun v z=>by cases z⟩
    refine thn (T.item (cA X scope cl x N C s₂ H₂ fp (X.pn++pins)) rfl rfl rfl rfl i _ s σ' H' (fun _ _=>False) I1 (stat fr' fun p hp b hb=>by
     have:p=(s₂.heap.objs.size,{ cls:=.type "list",data:=.seq its.toArray k }):=by simpa using hp
     subst this;exact (fne b hb).symm) st' go) fun r s1 ⟨u,hr,h4⟩=>?_
    subst hr;refine thn h4 fun _ s2 ⟨y,H'',I2,ru,yy,st2,fr2⟩=>?_
    obtain ⟨s3,d,hd,rd⟩:=yl y H'' yy;have hd':d=ds[i]:=by rw [hd0] at hd;exact (ZA hd).symm
    subst hd';have I3:=I2.pinned (stat fr2 fun p hp b hb=>by
     have:p=(s₂.heap.objs.size,{ cls:=.type "list",data:=.seq its.toArray k }):=by simpa using hp
     subst this;exact (fne b hb).symm) (T.obj _ _ st2)
    refine thn (jL (X:=cA X scope cl x N C s₂ H₂ fp (X.pn++pins)) (i:=0) O.nd O.h0 (.inl (lookup_relabel_local O.hx)) (.inl (by simp)) _ s2 σ' H'' y u (fun σ4 H4=>σ4=σ'.set 0 (some y)/\H4=H'') I3 ru ⟨rfl,rfl⟩) fun _ s4 ⟨σ4,H4,I4,e1,e2⟩=>?_
    subst e1 e2;have R4:RepS X.K H4 (σ'.set 0 (some y)) (some ds[i] :: bv js δ):=(R'.mono s3).set 0 rd;refine thn (he C s₂ H₂ fp (X.pn++pins) _ s4 (σ'.set 0 (some y)) H4 (fun v H5=>Same H4 H5/\Rep X.K H5 v e) I4 ⟨_,e,R4,ge,fun v H5 s5 r5=>⟨s5,r5⟩⟩) fun wv s5 ⟨v,H5,I5,rw5,s45,r5⟩=>?_
    have hD5:s5.heap.get? s₂.heap.objs.size=some { cls:=.type "list",data:=.seq its.toArray k }:=(I5.pin (s₂.heap.objs.size,{ cls:=.type "list",data:=.seq its.toArray k }) (by simp)).1
    have fD5:H5 s₂.heap.objs.size=none:=(I5.pin (s₂.heap.objs.size,{ cls:=.type "list",data:=.seq its.toArray k }) (by simp)).2.1
    have pf:∀ b∈fp,∀ ob,s2.heap.get? b=some ob->s5.heap.get? b=some ob/\H5 b=none:=fun b hb ob hob=>by
     have:=I5.pin (b,ob) (Zx _ (Zx _ (fq hb hob)));exact ⟨this.1,this.2.1⟩
    have lz:its.length<=1000:=by
     have:=rv.length;omega
    refine call_meets F.slot_list_append ⟨_,hD5,rfl⟩ F.entry_list_append (F.args_list_append_2 _ _) (PySem.list_append s₂.heap.objs.size its.toArray k wv (by rw [Zz];exact db lz)) ⟨hD5,?_⟩
    have q:=PySem.IsL.update hD5 (fun a=>a.push wv)
    have I6:L2.Inv (cA X scope cl x N C s₂ H₂ fp (X.pn++pins)) [] (σ'.set 0 (some y)) H5 { s5 with heap:=s5.heap.update s₂.heap.objs.size (Obj.mapSeq fun a=>a.push wv),toks:=s5.toks } :=
     (I5.pins_of (pins':=[]) fun p hp=>by simp at hp).turned (it:=s₂.heap.objs.size) (t':=s5.toks) (fun b ob hb hu=>(Heap.get?_update_other s5.heap _ (Ne.symm hb)).trans hu) fD5 hDC (.inr hDle) cne (fun p hp=>by
      rcases Zp.mp hp with z | z
      . exact pne p z
      . simp at z)
    refine ⟨ds.length - (i+1),by omega,i+1,σ'.set 0 (some y),H5,vs++[v],some ds[i],rfl,hlt,I6,(sm.trans s3).trans s45,R4.mono s45,?_,?_,?_,fD5,?_,by simp [hl]⟩
    . refine T.keep _ _ _ st2 fun b hb ob hob=>?_
      exact (Heap.get?_update_other s5.heap _ (Ne.symm (fne b hb))).trans (pf b hb ob hob).1
    . intro b hb;obtain ⟨ob,hob,_⟩:=T.obj _ _ st2 b hb;exact (pf b hb ob hob).2
    . have hf7:its.toArray.push wv=(its++[wv]).toArray:=by simp
      rw [hf7] at q;exact ⟨its++[wv],_,rv.append (.cons rw5 .nil),q⟩
    . have e8:xs.take (i+1)=xs.take i++[e]:=by
       rw [List.take_add_one,xe];rfl
      rw [e8];exact ((rr.mono s3).mono s45).append (.cons r5 .nil)
  . -- the end
    have hie:i=ds.length:=by omega
    refine thn (T.done (cA X scope cl x N C s₂ H₂ fp (X.pn++pins)) rfl rfl rfl rfl i [(s₂.heap.objs.size,{ cls:=.type "list",data:=.seq its.toArray k })] s σ' H' (fun _ _=>False) (I'.pins_of fun p hp=>by
     have:p=(s₂.heap.objs.size,{ cls:=.type "list",data:=.seq its.toArray k }):=by simpa using hp
     subst this;exact ⟨hD,fD,hDC,dstk,fun v z=>by cases z⟩) (stat fr' fun p hp b hb=>by
     have:p=(s₂.heap.objs.size,{ cls:=.type "list",data:=.seq its.toArray k }):=by simpa using hp
     subst this;exact (fne b hb).symm) st' ((itd i H' sm).2 (by omega))) fun r s1 ⟨hr,I8⟩=>?_
    subst hr;have hD8:s1.heap.get? s₂.heap.objs.size=some { cls:=.type "list",data:=.seq its.toArray k }:=(I8.pin (s₂.heap.objs.size,{ cls:=.type "list",data:=.seq its.toArray k }) (by simp)).1
    have hxs:xs.take i=xs:=List.take_of_length_le (by omega)
    rw [hxs] at rr;have sn:=bQ fD (.lst vs);have dn:∀ b,∀ u,H' b=some u->b ≠ s₂.heap.objs.size:=fun b u z=>bw z fD
    have un:Un (frs X.stack) fp H₂ (upd H' s₂.heap.objs.size (.lst vs)) s₂.heap s1.heap:=by
     have b0:=I8.base;refine ⟨fun b ob e n1 n2 n3=>b0.keep b ob e n1 n2 n3,fun b ob e n1 n2 n3=>b0.slot b ob e n1 n2 n3,fun b ob e n1 n3=>?_,fun b ob e n3=>b0.there b ob e n3,fun b zs e=>?_,fun b ob u e=>?_,fun b ps e=>?_⟩
     . rw [aB (ZB (Heap.lt_size e))];exact b0.free b ob e n1 n3
     . have z:=b0.tups b zs e;rw [aB (dn _ _ z)];exact z
     . have z:=b0.frzs b ob u e;rw [aB (dn _ _ z)];exact z
     . obtain ⟨more,z⟩:=b0.tbls b ps e;exact ⟨more,by rw [aB (dn _ _ z)];exact z⟩
    have hok:HOk X.prog X.w (upd H' s₂.heap.objs.size (.lst vs)) s1.heap:=fun b u z=>by
     by_cases hb:b=s₂.heap.objs.size
     . rw [hb] at z ⊢;rw [aP] at z;cases z;exact ⟨db (by omega),its,k,rv,hD8⟩
     . rw [aB hb] at z;exact (I8.hok b u z).stay (fun _ _ _ q=>q) (fun c q=>by rw [aB (dn _ _ q)];exact q) fun c ys q=>by rw [aB (dn _ _ q)];exact q
    have IX:L2.Inv X pins σ (upd H' s₂.heap.objs.size (.lst vs)) s1:=I.call' I8.os un hok I8.bare fun b hb=>⟨(hf b hb).2.2.2.1,(hf b hb).2.1,(hf b hb).2.2.2.2.1,(hf b hb).2.2.2.2.2⟩
    obtain ⟨m8,hn8,_⟩:=I8.loc;refine hRR s₂.heap.objs.size C s1 _ vs hCle IX (sm.trans sn) aP (rr.mono sn) ⟨m8,hn8⟩ ?_;rw [aB (Ne.symm hDC)];exact I8.free
 exact codeAny_compStart_list (loop _ rfl) (T.self X.A 0 _ _ _ (T.keep 0 _ _ st (fun b hb o e=>old b o e)) (loop _ rfl))
theorem qG {C:Addr} {h':Heap} {s':Shared} {Hend:Hp} (I:L2.Inv X pins σ Hend s') (I0:L2.Inv X pins σ H₂ s₂) (hC:s₂.heap.objs.size<=C) (fC:Hend C=none) (hs:Heap.SameBut C s'.heap h'):L2.Inv X pins σ Hend { s' with heap:=h' } :=
 I.turned (it:=C) (t':=s'.toks) (fun b o hb e=>(hs.2 b hb).trans e) fC (Nat.ne_of_gt (Zw I0.lt hC)) (.inr (Nat.le_trans I0.sz hC))
  (fun y c e z=>by
   obtain ⟨v,o,h1,_⟩:=I0.cell y c e;exact absurd (Zw (Heap.lt_size h1) (by rw [z];exact hC)) (ZC _))
  (fun p hp z=>absurd (Zw (Heap.lt_size (I0.pin p hp).1) (by rw [z];exact hC)) (ZC _))
theorem xm {elt iter:Expr} {px pos:Pos} {src:FA} {felt:FD} (hi:PID X (.Name x px) iter src) {N:List Str} {js:List Nat} (he:∀ C s₂ H₂ fp pn,PD (cA X scope cl x N C s₂ H₂ fp pn) elt felt) (O:CompOk X scope cl x N js) (hcm:X.calm=true:=by rfl)
 (hs:∀ v,foldedSetIterable iter X.env v=pure v:=by intro _;rfl):PD X (.ListComp elt [⟨.Name x px,iter,[],0⟩] scope pos) (qP src js felt):=by
 intro pins s σ H Q I ⟨δ,d,R,q,k⟩;unfold qP at q;obtain ⟨ds,eds,q⟩:=Za.mp q;obtain ⟨xs,exs,q⟩:=Za.mp q
 by_cases hz:xs.length<=1000
 . rw [if_pos hz] at q;cases q;rw [eval_ListComp];refine wpAny_comprehension_free (use:=none) rfl hs O.clos O.kind O.names ?_;refine wpAny_mono (hi pins s σ H (fun J H1=>Same H H1/\ItD X.K J H1 ds) I ⟨δ,ds,R,eds,fun J H1 s1 itd=>⟨s1,itd⟩⟩) (fun v s1 h1=>wpAny_mono h1 (fun itv s2 h2=>?_) fun _ _ z=>z) fun _ _ z=>z
   obtain ⟨it,fp,tn,J,H2,rfl,I2,T,st,hf,s1,itd⟩:=h2;refine v8 (RR:=fun acc C=>compPost (model X.prog X.w) X.A X.xe none (EP X pins σ Q) acc C) I2 hcm O T st hf itd (R.mono s1) he exs hz ?_
   intro D C s' Hend vs hC IX sm hD rr ⟨m,hn⟩ fC;exact ⟨m,hn,fun h' hs'=>⟨.ref D,Hend,qG IX I2 hC fC hs',rfl,k _ _ (s1.trans sm) (.lst hD rr)⟩⟩
 . rw [if_neg hz] at q;cases q
end
end Dl
namespace Dl
open PySem PySem.Spec PyProof.Rows L2
theorem CompOk.one {X:Cx} {scope:Scope} {c:Addr} {x z:Str} {j:Nat} (clos:closureFor scope X.env=pure [(z,c)]:=by rfl) (nocell:∀ y∈scope.names,y.2 ≠ .cell:=by decide +kernel) (kind:scope.kind=.function:=by rfl)
 (names:∀ y∈scope.names,y.2=.local->scope.names.lookup y.1=some .local:=by decide +kernel) (hx:scope.names.lookup x=some .local:=by rfl) (hne:x ≠ z:=by decide +kernel) (hcell:X.env.cells.lookup z=some c:=by rfl)
 (hfr:∀ p∈scope.names,p.2=.free->p.1=z:=by decide +kernel) (hj:X.N[j]? = some z:=by rfl) (hk:X.env.scope.names.lookup z=some .cell:=by rfl) (hk':(relabel scope X.env).names.lookup z=some .cell:=by rfl):CompOk X scope [(z,c)] x [x,z] [j] where
 clos:=clos
 nocell:=nocell
 kind:=kind
 names:=names
 hx:=hx
 nd:=by simp [hne]
 h0:=rfl
 len:=rfl
 clx:=by
  show List.lookup x [(z,c)]=none;have q:(x == z)=false:=beq_eq_false_iff_ne.mpr hne;rw [List.lookup_cons,q];rfl
 cls:=fun y a h=>by
  have h':List.lookup y [(z,c)]=some a:=h
  by_cases hy:y=z
  . subst hy;simp at h';subst h';exact hcell
  . have q:(y == z)=false:=beq_eq_false_iff_ne.mpr hy;rw [List.lookup_cons,q] at h';cases h'
 has:=fun y h=>by
  have key:∀ k,(k=NameKind.cell \/ k=NameKind.free)->(relabel scope X.env).names.lookup y=some k->y=z:=fun k hk h=>by
   have m:=PySem.mem_of_lookup h;unfold relabel at m;obtain ⟨⟨n,k'⟩,m1,m2⟩:=Zn.mp m;dsimp only at m2;have hk1:k'=NameKind.free:=by
    split at m2
    . rename_i hc;rw [ZH,ZH] at hc;exact beq_iff_eq.mp hc.1.1
    . have e:k'=k:=congrArg Prod.snd m2;rcases hk with z1 | z1
      . exact absurd (e.trans z1) (nocell _ m1)
      . exact e.trans z1
   have hn:n=y:=by split at m2 <;> exact congrArg Prod.fst m2
   rw [<- hn];exact hfr _ m1 hk1
  have e:y=z:=by
   rcases h with h | h
   . exact key _ (.inl rfl) h
   . exact key _ (.inr rfl) h
  subst e;exact ⟨c,by simp⟩
 fr:=fun i y k h1 h2=>by
  cases i with
  | zero =>
   have e1:z=y:=ZA h1;have e2:j=k:=ZA h2;subst e1 e2;refine ⟨hj,hk,hk',fun a ha=>?_⟩
   rw [hcell] at ha;cases ha;simp
  | succ i=>cases h2
end Dl
namespace Dl
open PySem PySem.Spec PyProof.Rows L2
end Dl
namespace Dl
open PySem PySem.Spec PyProof.Rows L2
theorem Cw {K:Zu} {h:Heap} {C:Addr} {bmB:List Value} {newId:String} (X:K.In h) (q:PySem.W.excIn K C bmB newId=true) :
 ∃ bm N nm qn bs hdct sn sub ab col dd k0 k1 k2 k3 k5 mN,h.get? C=some (excClassObj nm qn C N bs bm hdct sn sub ab col dd k0 k1 k2 k3 k5 newId)/\h.Ns N mN/\mN "__init__" = none/\OwnTail h bmB bm:=by
 unfold PySem.W.excIn at q;split at q
 next dd cd sl ho =>
  split at q
  next C' bm k0 k1 k2 k3 n k5 hm hs =>
   simp only [beq_iff_eq,Bool.not_eq_true',ZH] at q;obtain ⟨⟨⟨⟨⟨e1,e2⟩,e3⟩,e4⟩,e5⟩,e6⟩:=q;subst e1 e2;obtain ⟨nm,bs,mro,ns,qn,hd,sn,sub,ab,col,del⟩:=cd;dsimp only at hm e3 e5 e6;subst hm e3;have hsl:sl = #[k0,k1,k2,k3,some (.builtin n),k5]:=by
    cases sl with
    | mk l=>exact congrArg Array.mk hs
   subst hsl;exact ⟨bm,ns,nm,qn,bs,hd,sn,sub,ab,col,dd,k0,k1,k2,k3,k5,h.nsMap ns,X _ _ ho,.of_isNs (PySem.W.isNs_of_in X e5),PySem.W.nsMap_none_of_in X e5 e6,PySem.W.tail_of_in X e4⟩
  next=>cases q
 next=>cases q
def zH (C:Addr) (g:FA):SD:=fun δ=>(g δ).bind fun _=>some (.mk C δ)
abbrev GX:=List D->Option (Except Addr D)
def oF:Option Res->Option (Except Addr D)
 | some (.rt d)=>some (.ok d)
 | some (.nx _)=>some (.ok .non)
 | some (.ex C _)=>some (.error C)
 | some (.mk C _)=>some (.error C)
 | _=>none
section
variable {P:Program} {w:World} {K:Zu} {mg:Str->Option Value} {base:Heap}
end
section
variable {X:Cx} {a b:Expr} {fa fb:FD} {pos:Pos}
theorem j9 {y:Str} {C:Addr} (hg:Gl X y) (hm:X.mg y=some (.ref C)) (hd:(y == ("__debug__":Str))=false:=by decide):PD X (.Name y pos) (fC (.cls C)) :=
 imp (Cp (v:=.ref C) hg hm rfl hd) fun σ H Q ⟨δ,d,R,e,k⟩=>by cases e;exact k _ H (Same.refl H) (.cls C)
end
end Dl
namespace Dl
open PySem PySem.Spec PyProof.Rows L2
structure va (K:Zu) (C:Addr):Prop where
 cls:PySem.W.isClsIn K C=true
 ga:PySem.W.findIn K (.ref C) "__getattribute__" = some (some (.builtin "BaseException.__getattribute__"))
 nh:PySem.W.findIn K (.ref C) "__getattr__" = some none
 cl:PySem.W.findIn K (.ref C) "__class__" = some (some (.builtin "object.__class__"))
 gt:PySem.W.specialIn K (.builtin "object.__class__") "__get__" = some (some (.builtin "getset_descriptor.__get__"))
 tk:PySem.W.takesIn K (.builtin "object.__class__")=some true
 ob:PySem.W.mroIn K C (.type "object")=some true
 bx:PySem.W.subIn K (.ref C) (.type "BaseException")=some true
theorem xW {K:Zu} {C:Addr} (e:PySem.W.isClsIn K C=true):∃ c d cd sl,K.lookup C=some ⟨c,d,.cls cd,sl⟩:=by
 unfold PySem.W.isClsIn PySem.W.clsIn at e;split at e
 next ho=>exact ⟨_,_,_,_,ho⟩
 next=>cases e
theorem kZ {K:Zu} {M:Model} {h:Heap} {C:Addr} (X:K.In h) (e:PySem.W.isClsIn K C=true):PySem.W.Looks M h (isType (.ref C)) true:=by
 obtain ⟨c,d,cd,sl,ho⟩:=xW e;intro A Q E s k q;unfold isType loadHead;have z:=k _ _ (X _ _ ho);exact wpAny_bind (wpAny_loadPart z (wpAny_pure q))
def pM (x C:Addr) (h:Heap):Prop:=∃ o vs,h.get? x=some o/\o.cls=.ref C/\o.data=.fields vs
theorem lm {M:Model} {h:Heap} {x C:Addr} (p:pM x C h):PySem.W.Looks M h (typeOf (.ref x)) (.ref C):=by
 obtain ⟨o,vs,h1,h2,h3⟩:=p;rw [<- h2];exact (PySem.W.Looks.ld h1).andThen .now
theorem Bl {M:Model} {h:Heap} {K:Zu} {x C:Addr} (k:va K C) (X:K.In h):PySem.W.Looks M h (Builtin.ObjectAttr.find (.ref x) (.ref C) "__class__") (.bind (.builtin "getset_descriptor.__get__") (.builtin "object.__class__")):=by
 have L1:=PySem.W.looks_findIn (M:=M) X k.cl;have L2:=PySem.W.looks_specialIn (M:=M) X k.gt;have L3:=PySem.W.looks_takesIn (M:=M) X k.tk;unfold Builtin.ObjectAttr.find;refine L1.andThen ?_;unfold Builtin.ObjectAttr.getOf;refine L2.andThen ?_;unfold Builtin.ObjectAttr.dataDescriptor?;refine PySem.W.Looks.andThen (a:=some (.builtin "getset_descriptor.__get__",.builtin "object.__class__")) ?_ (PySem.W.Looks.tag .now);exact L3.andThen .now
theorem Dj {prog:Program} {w:World} {A:Around} {R:Result->Shared->Prop} {s:Shared} {K:Zu} {x C:Addr} (k:va K C) (X:K.In s.heap) (p:pM x C s.heap) (h:R (.ok (.ret (.ref C))) s) :
 codeAny (model prog w) A (.call (.builtin "getset_descriptor.__get__") ⟨[.builtin "object.__class__",.ref x,.ref C],[]⟩) R s:=by
 obtain ⟨hh,g,d,t,os⟩:=s;have L0:=lm (M:=model prog w) p;have LM:=PySem.W.looks_mroIn (M:=model prog w) X k.ob;refine codeAny_call_builtin PySem.W.KF.slot_gs.plain PySem.W.KF.entry_gs (PySem.W.KF.slot_gs.check _ _ _ _ _ _ _ _ PySem.W.KF.type_class (PySem.W.KF.args_gs _ _ _) ?_);unfold Builtin.«getset_descriptor.__get__» Builtin.Getset_descriptor.descrGet;rw [PySem.W.dga_obj];refine wpAny_bind (wpAny_pure ?_);have LI:PySem.W.Looks (model prog w) hh (isInstance (.ref x) (.type "object")) true:=L0.andThen LM;unfold Builtin.Getset_descriptor.descrGetter Builtin.Getset_descriptor.descrCheckInstance Builtin.Getset_descriptor.descrNameAndClass;simp only [PySem.W.KF.owner_class]
 repeat (first | with_reducible refine LI.at ?_ | lk)
 refine ⟨Code.quiet_builtin _ (by decide +kernel),codeAny_builtin PySem.W.KF.entry_class ?_⟩
 unfold Builtin.«object.__class__»;unfold shownTypeOf
 repeat lk
 exact h
theorem yZ {prog:Program} {w:World} {A:Around} {E:Value->Shared->Prop} {Q:Option Value->Shared->Prop} {s:Shared} {K:Zu} {x C:Addr} (k:va K C) (X:K.In s.heap) (p:pM x C s.heap) (h:Q (some (.ref C)) { s with toks:=s.toks+1 }) :
 wpAny (model prog w) A (getAttr? (.ref x) "__class__") Q E s:=by
 obtain ⟨hh,g,d,t,os⟩:=s;have L0:=lm (M:=model prog w) p;have L1:=PySem.W.looks_findIn (M:=model prog w) X k.ga;have L2:=PySem.W.looks_findIn (M:=model prog w) X k.nh;have LF:=Bl (M:=model prog w) (x:=x) k X;have LB:=PySem.W.looks_subIn (M:=model prog w) X k.bx;have LM:=PySem.W.looks_mroIn (M:=model prog w) X k.ob;unfold getAttr? getAttrBy? getAttrBy;refine wpAny_bind (wpAny_mkText (wpAny_bind (wpAny_attempt (wpAny_holding (wpAny_bind (L0.at (wpAny_bind (L1.at ?_))))))));show wpAny _ _ (getAttrByItsOwn _ _ _ _ _ _) _ _ _;unfold getAttrByItsOwn hookBefore;refine wpAny_bind (L2.at ?_);refine wpAny_bind (wpAny_attempt (wpAny_holding ?_));show wpAny _ _ (boundAndCalled _ _ _) _ _ _;unfold boundAndCalled;have hbs:=F.excAttr_ValueError.ga.bind (.ref x);rw [hbs];refine wpAny_bind (wpAny_pure ?_);dsimp only;refine wpAny_call (codeAny_call_builtin F.excAttr_ValueError.ga.plain F.entry_bexc_ga ?_);have kd:builtinKind "BaseException.__getattribute__" = some .slot:=by decide +kernel
 have sp:splitId "BaseException.__getattribute__" = some ("BaseException","__getattribute__"):=by decide +kernel
 have ag:=F.args_bexc_ga (.ref x) (.str "__class__" t);have LI:PySem.W.Looks (model prog w) hh (isInstance (.ref x) (.type "BaseException")) true:=L0.andThen LB;simp only [checkBuiltinCall,kd,sp,List.cons_append,List.nil_append];refine wpAny_bind (LI.at ?_);simp only [Bool.not_true,Bool.false_eq_true,if_false]
 repeat wp_step
 obtain ⟨o,vs,h1,h2,h3⟩:=p;refine wpAny_loadPart_at h1 ?_;refine wpAny_pure ?_;rw [h2];refine wpAny_bind (LF.at ?_);dsimp only;unfold Builtin.ObjectAttr.bindTo;refine wpAny_bind (wpAny_holding (wpAny_call (Dj k X ⟨o,vs,h1,h2,h3⟩ ?_)));refine wpAny_pure ?_;exact PySem.W.handed_on rfl (wpAny_pure h)
theorem oP {K:Zu} {x C:Addr} (k:va K C):PySem.W.KitX K (.ref x) (.ref C) (pM x C) where
 ty:=fun M h _ p=>lm p
 it:=fun M h X _=>kZ X k.cls
 ne:=fun h tp dd its n sl X htp=>by
  obtain ⟨c,d,cd,sl',ho⟩:=xW k.cls;refine Bool.eq_false_iff.mpr fun q=>?_
  obtain rfl:C=tp:=Value.ref.inj (beq_iff_eq.mp q);have z:=X _ _ ho;rw [htp] at z;cases z
 ca:=fun X p h=>yZ k X p h
def qU:List D->Option (List Addr)
 | []=>some []
 | .cls C :: r=>(qU r).bind fun Cs=>some (C :: Cs)
 | _=>none
def A7 (K:Zu) (ok:Addr->Bool):List D->Option D
 | [.exc C,.cls C']=>if ok C then (PySem.W.kitOne K (.ref C) (.ref C')).map D.bl else none
 | [.exc C,.ty n]=>if ok C then (PySem.W.kitOne K (.ref C) (.type n)).map D.bl else none
 | [.exc C,.tup ds]=>if ok C then (qU ds).bind fun Cs=>(PySem.W.kitAny K (.ref C) (Cs.map Value.ref)).map D.bl else none
 | _=>none
def DK (K:Zu):List V->Hp->VK->Prop:=fun xs H Q=>∃ x y C b,xs=[x,y]/\Rep K H x (.exc C)/\va K C /\
 ((∃ C',Rep K H y (.cls C')/\PySem.W.kitOne K (.ref C) (.ref C')=some b) \/ (∃ n,Rep K H y (.ty n)/\PySem.W.kitOne K (.ref C) (.type n)=some b) \/
   ∃ ds Cs,Rep K H y (.tup ds)/\qU ds=some Cs/\PySem.W.kitAny K (.ref C) (Cs.map Value.ref)=some b)/\Q (.bl b) H
theorem uW {K:Zu} {H:Hp}:∀ {ds:List D} {Cs:List Addr} {vs:List V} {us:List Value},qU ds=some Cs->Reps K H vs ds->Vals vs us->us=Cs.map Value.ref
 | [],_,_,_,e,r,v=>by cases e;cases r;cases v;rfl
 | .cls C :: ds,Cs,_,_,e,r,v=>by
  obtain ⟨Cs',e',e⟩:=Za.mp (show ((qU ds).bind _)=some Cs from e)
  cases e;cases r with
  | cons r1 r2 =>
   cases r1;cases v with
   | cons v1 v2 =>
    have z:=uW e' r2 v2;subst z;rw [show _=Value.ref C from v1]
    rfl
theorem qV {X:Cx}:fZ X (.builtin "isinstance") (DK X.K):=by
 intro pins s σ H xs us Q I r h;obtain ⟨x,y,C,b,rfl,rx,k,alt,q⟩:=h;obtain ⟨u,w',rfl,ru,rw'⟩:=DB r;have fin:∀ tk,EP X pins σ Q (.bool b) { s with toks:=tk }:=fun tk=>⟨.bl b,H,I.tok _,rfl,q⟩
 cases rx with
 | @exc a _ hx =>
  cases (show u=Value.ref a from ru)
  have p:pM a C s.heap:=(I.hok a _ hx).1;rcases alt with ⟨C',ry,e⟩ | ⟨n,ry,e⟩ | ⟨ds,Cs,ry,ec,e⟩
  . cases ry;cases (show w'=Value.ref C' from rw')
    exact PySem.W.kia_one (oP k) I.kIn p e (fun z=>nomatch z) fin
  . cases ry;cases (show w'=Value.type n from rw')
    exact PySem.W.kia_one (oP k) I.kIn p e (fun z=>nomatch z) fin
  . cases ry with
    | @tup tp vs _ hp rp =>
     cases (show w'=Value.ref tp from rw')
     obtain ⟨its,rv,⟨o,h1,h2,n,h3⟩,_⟩:=I.tuple hp;have z:=uW ec rp rv;subst z;obtain ⟨oc,od,oda,osl⟩:=o;dsimp only at h2 h3;subst h2 h3;exact PySem.W.kia_tup (oP k) I.kIn p h1 e (fun z=>nomatch z) fin
theorem xY {K:Zu} {ok:Addr->Bool} (hk:∀ C,ok C=true->va K C):jB K (DK K) (A7 K ok):=by
 intro xs H Q ds d r e k;unfold A7 at e;split at e
 . rename_i C C';cases ho:ok C with
   | false=>rw [ho] at e;cases e
   | true =>
    rw [ho,if_pos rfl] at e;obtain ⟨b,hb,e⟩:=Zb.mp e;cases e;obtain ⟨v,w,rfl,rv,rw'⟩:=tI r;exact ⟨v,w,C,b,rfl,rv,hk C ho,.inl ⟨C',rw',hb⟩,k _ H (Same.refl H) (.bl b)⟩
 . rename_i C n;cases ho:ok C with
   | false=>rw [ho] at e;cases e
   | true =>
    rw [ho,if_pos rfl] at e;obtain ⟨b,hb,e⟩:=Zb.mp e;cases e;obtain ⟨v,w,rfl,rv,rw'⟩:=tI r;exact ⟨v,w,C,b,rfl,rv,hk C ho,.inr (.inl ⟨n,rw',hb⟩),k _ H (Same.refl H) (.bl b)⟩
 . rename_i C ds;cases ho:ok C with
   | false=>rw [ho] at e;cases e
   | true =>
    rw [ho,if_pos rfl] at e;obtain ⟨Cs,hc,e⟩:=Za.mp e;obtain ⟨b,hb,e⟩:=Zb.mp e;cases e;obtain ⟨v,w,rfl,rv,rw'⟩:=tI r;exact ⟨v,w,C,b,rfl,rv,hk C ho,.inr (.inr ⟨ds,Cs,rw',hc,hb⟩),k _ H (Same.refl H) (.bl b)⟩
 . cases e
theorem uH {prog:Program} {w:World} {A:Around} {E:Value->Shared->Prop} {Q:Bool->Shared->Prop} {s:Shared} {K:Zu} {x C Cy:Addr} (X:K.In s.heap) (p:pM x C s.heap) (hc:PySem.W.isClsIn K Cy=true) (ht:PySem.W.typeIn K (.ref Cy)=some (.type "type"))
 (hb:PySem.W.subIn K (.ref Cy) (.type "BaseException")=some true) (hs:PySem.W.subIn K (.ref C) (.ref Cy)=some true) (h:Q true s):wpAny (model prog w) A (excMatches (.ref x) (.ref Cy)) Q E s:=by
 obtain ⟨hh,g,d,t,os⟩:=s;have L0:=lm (M:=model prog w) p;have L1:=kZ (M:=model prog w) X hc;have L2:=PySem.W.looks_typeIn (M:=model prog w) X ht;have L3:=PySem.W.looks_subIn (M:=model prog w) X hb;have L4:=PySem.W.looks_subIn (M:=model prog w) X hs;have f:=tc_notTuple;have L5:PySem.W.Looks (model prog w) hh (isInstance (.ref Cy) (.type "tuple")) false:=L2.andThen (.of_pure f);have L6:PySem.W.Looks (model prog w) hh (isExcClass (.ref Cy)) true:=L1.andThen L3;unfold excMatches;refine wpAny_bind (L5.at ?_);dsimp only;rw [if_neg Zv];refine wpAny_bind (wpAny_pure ?_);refine wpAny_bind ?_;simp only [List.forIn_cons,List.forIn_nil];refine wpAny_bind (wpAny_bind (L6.at ?_));simp only [Bool.not_true,Bool.false_eq_true,if_false];refine wpAny_pure ?_;refine wpAny_pure ?_;refine wpAny_bind (L0.at ?_);refine wpAny_bind (wpAny_bind (wpAny_bind (L4.at ?_)));simp only [if_true];refine wpAny_pure (wpAny_pure ?_);exact wpAny_pure h
theorem qz {P:Program} {w:World} {H:Hp} {h:Heap} {a:Addr} {o:HO} (x:ObjOk P w H h a o):∃ ob,h.get? a=some ob:=by
 cases o with
 | lst xs=>obtain ⟨_,_,_,_,e⟩:=x;exact ⟨_,e⟩
 | tup xs=>obtain ⟨_,_,_,ob,e,_⟩:=x;exact ⟨_,e⟩
 | dK kvs=>obtain ⟨_,_,_,_,o,_,_,e,_⟩:=x;exact ⟨_,e⟩
 | dT kvs=>obtain ⟨_,_,_,_,o,_,_,e,_⟩:=x;exact ⟨_,e⟩
 | set S n=>obtain ⟨o,_,_,_,e,_⟩:=x;exact ⟨_,e⟩
 | ins C dx fs=>obtain ⟨_,_,_,e,_⟩:=x;exact ⟨_,e⟩
 | own y=>obtain ⟨_,e⟩:=x;exact ⟨_,e⟩
 | xd fs=>obtain ⟨_,⟨_,_,_,e,_⟩,_⟩:=x;exact ⟨_,e⟩
 | rng lo hi=>obtain ⟨_,_,_,e⟩:=x;exact ⟨_,e⟩
 | frz ob u=>obtain ⟨e,_⟩:=x;exact ⟨_,e⟩
 | tbl ps=>exact ⟨_,(show h.get? a=some _ from x)⟩
 | met f y=>exact ⟨_,(show h.get? a=some _ from x)⟩
 | ext φ=>obtain ⟨_,⟨_,e⟩,_⟩:=x;exact ⟨_,e⟩
section
variable {X:Cx} {pins:List (Addr×Obj)} {σ:L2.St} {H H₀ H':Hp} {s s':Shared} {B:Heap} {x C t:Addr}
theorem xK (F:FlyB X.prog X.w H₀ H' s X.stack B s') (fl:Heap.FlyingW B X.stack x (.ref C) (.ref t) s'.heap):s.heap.get? x=none/\H' x=none:=by
 constructor
 . cases e:s.heap.get? x with
   | none=>rfl
   | some o =>
    by_cases hb:x∈frs X.stack
    . obtain ⟨_,o2,ho2,hd⟩:=fl.2.2.1.mem hb;obtain ⟨oe,vs,h1,_,h3,_⟩:=fl.first
      rw [h1] at ho2;cases ho2;exact absurd h3 (hd vs)
    . obtain ⟨o',e'⟩:=F.thereB x o e hb;rw [fl.2.1] at e';cases e'
 . cases e:H' x with
   | none=>rfl
   | some u =>
    obtain ⟨ob,z⟩:=qz (F.hok x u e);rw [fl.2.1] at z;cases z
theorem yX (I:L2.Inv X pins σ H₀ s) (F:FlyB X.prog X.w H₀ H' s X.stack B s') (fl:Heap.FlyingW B X.stack x (.ref C) (.ref t) s'.heap):L2.Inv X pins σ (upd H' x (BN x C)) s':=by
 obtain ⟨n1,n2⟩:=xK F fl;obtain ⟨oe,vs,h1,h2,h3,_⟩:=fl.first
 have ne:∀ b u,H' b=some u->b ≠ x:=fun b u e z=>by rw [z,n2] at e;cases e
 refine I.call' (ch:=[]) F.os ⟨F.un.keep,F.un.slot,fun b o e n hb=>?_,F.un.there,fun b xs e=>?_,fun b o u e=>?_,fun b ps e=>?_⟩ (fun b u e=>?_) F.bare (fun b z=>absurd z (by simp))
 . have:b ≠ x:=fun z=>by rw [z,n1] at e;cases e
   rw [aB this];exact F.un.free b o e n hb
 . have z:=F.un.tups b xs e;rw [aB (ne b _ z)];exact z
 . have z:=F.un.frzs b o u e;rw [aB (ne b _ z)];exact z
 . obtain ⟨more,z⟩:=F.un.tbls b ps e;exact ⟨more,by rw [aB (ne b _ z)];exact z⟩
 . by_cases hb:b=x
   . subst hb;rw [aP] at e;cases e;refine ⟨⟨oe,vs,h1,h2,h3⟩,⟨oe,h1⟩,?_⟩
     rintro ha hb ⟨o,ws,e1,e2,e3⟩ kp
     exact ⟨o,ws,kp o e1,e2,e3⟩
   . rw [aB hb] at e;refine (F.hok b u e).stay (fun c v _ q=>fl.1 c v q) (fun c q=>?_) (fun c xs q=>?_)
     . rw [aB (ne c _ q)];exact q
     . rw [aB (ne c _ q)];exact q
end
section
variable {X:Cx} {pins:List (Addr×Obj)} {σ:L2.St} {H:Hp} {s:Shared} {h':Heap}
theorem um {i:Nat} {n:Str} {m:Str->Option Value} {v:Option Value} {tk:Nat} (I:L2.Inv X pins σ H s) (hN:X.N.Nodup) (hi:X.N[i]? = some n) (hm:∀ (j:Nat) (y:Str) (v:V),X.N[j]? = some y->σ[j]? = some (some v)->Vis X.env.scope y->∃ u,RelV v u/\G4 X.env s.heap m y u)
 (hn':h'.Ns X.env.locals (fun y=>if y=n then v else m y)) (hs:Heap.SameBut X.env.locals s.heap h') (hns:s.heap.Ns X.env.locals m):L2.Inv X pins (σ.set i none) H { s with heap:=h',toks:=tk }:=by
 obtain ⟨oL,_,_,hoL,_⟩:=id hns;have cne:=I.cne;refine ⟨I.ok,I.os,I.bare,⟨fun b o e n hb hx=>?_,fun b o e n hb hx=>?_,I.base.free,fun b o e hx=>?_,I.base.tups,I.base.frzs,I.base.tbls⟩,⟨_,hn',fun j y v' e1 e2 e3=>?_⟩,fun y c e=>?_,I.free,I.freeC,fun p hp=>?_,fun b ob e=>?_,by simpa using I.len⟩
 . exact (hs.2 b (ZB (Zw (Heap.lt_size e) I.ok.above))).trans (I.base.keep b o e n hb hx)
 . obtain ⟨sl,e1⟩:=I.base.slot b o e n hb hx;exact ⟨sl,(hs.2 b (ZB (Zw (Heap.lt_size e) I.ok.above))).trans e1⟩
 . obtain ⟨o',e1⟩:=I.base.there b o e hx;exact ⟨o',(hs.2 b (ZB (Zw (Heap.lt_size e) I.ok.above))).trans e1⟩
 . have hj:i ≠ j:=fun z=>by
    subst z;rw [List.getElem?_set] at e2;rw [if_pos rfl] at e2;split at e2 <;> cases e2
   rw [List.getElem?_set_ne hj] at e2;obtain ⟨u',r',q⟩:=hm j y v' e1 e2 e3;refine ⟨u',r',?_⟩;rcases q with ⟨k,e⟩ | ⟨k,c,e,z⟩
   . refine .inl ⟨k,?_⟩;have:y ≠ n:=fun e=>hj (oI hN (e ▸ hi) e1)
     simp [this,e]
   . exact .inr ⟨k,c,e,z.sameBut hs (cne y c e)⟩
 . obtain ⟨w',z⟩:=I.cell y c e;exact ⟨w',z.sameBut hs (cne y c e)⟩
 . obtain ⟨e,n,ne,nf,d⟩:=I.pin p hp;exact ⟨(hs.2 p.1 ne).trans e,n,ne,nf,d⟩
 . refine (I.hok b ob e).stay (fun c w' hc q=>(hs.2 c ?_).trans q) (fun _ q=>q) fun _ _ q=>q
   rintro rfl
   rcases hc with rfl | hc
   . rw [I.free] at e;cases e
   . rw [I.free] at hc;cases hc
end
abbrev Cx.within (X:Cx) (x:Addr):Cx:={ X with A:=X.A.mark (some (.ref x)),calm:=false,xe:=fun _ _=>False }
def Eb (i:Nat) (sub:Addr->Bool) (sb sh:SD):SD:=fun δ=>(sb δ).bind fun r=>match r with
 | .ex C δ1=>if sub C then (sh (δ1.set i (some (.exc C)))).bind fun r2=>match r2 with
  | .nx δ2=>some (.nx (δ2.set i none))
  | .rt d=>some (.rt d)
  | _=>none
  else none
 | .mk _ _=>none
 | r=>some r
theorem Cx.Ok.marked {X:Cx} (ok:X.Ok) (x:Addr):(Cx.within X x).Ok :=
 ⟨ok.mod,ok.kind,ok.glob,ok.blt,ok.above,ok.inj,ok.has,ok.cab,fun z=>Bool.noConfusion z,ok.frames,ok.stk,ok.exf,ok.bs,ok.bsz,ok.noex,ok.exfs,ok.funs,ok.frf⟩
theorem oU {X:Cx} {pins:List (Addr×Obj)} {σ:L2.St} {H:Hp} {s:Shared} (I:L2.Inv X pins σ H s) (x:Addr):L2.Inv (Cx.within X x) pins σ H s:=⟨Cx.Ok.marked I.ok x,I.os,I.bare,I.base,I.loc,I.cell,I.free,I.freeC,I.pin,I.hok,I.len⟩
theorem mH {X:Cx} {pins:List (Addr×Obj)} {σ:L2.St} {H:Hp} {s:Shared} {x:Addr} (ok:X.Ok) (I:L2.Inv (Cx.within X x) pins σ H s):L2.Inv X pins σ H s:=⟨ok,I.os,I.bare,I.base,I.loc,I.cell,I.free,I.freeC,I.pin,I.hok,I.len⟩
abbrev Cx.tried (X:Cx) (W:Value->Shared->Prop) (pn:List (Addr×Obj)):Cx:={ X with xe:=W,pn:=pn }
theorem yN {X:Cx} {pins:List (Addr×Obj)} {σ:L2.St} {H:Hp} {s:Shared} (I:L2.Inv X pins σ H s) (W:Value->Shared->Prop):L2.Inv (Cx.tried X W (X.pn++pins)) [] σ H s :=
 ⟨⟨I.ok.mod,I.ok.kind,I.ok.glob,I.ok.blt,I.ok.above,I.ok.inj,I.ok.has,I.ok.cab,I.ok.hd,I.ok.frames,I.ok.stk,I.ok.exf,I.ok.bs,I.ok.bsz,I.ok.noex,I.ok.exfs,I.ok.funs,I.ok.frf⟩,I.os,I.bare,I.base,I.loc,I.cell,I.free,I.freeC,fun p hp=>I.pin p (by simpa using hp),I.hok,I.len⟩
theorem fJ {X:Cx} {pins pins':List (Addr×Obj)} {σ:L2.St} {H:Hp} {s:Shared} {W:Value->Shared->Prop} (I:L2.Inv (Cx.tried X W (X.pn++pins)) pins' σ H s):L2.Inv X pins σ H s :=
 ⟨⟨I.ok.mod,I.ok.kind,I.ok.glob,I.ok.blt,I.ok.above,I.ok.inj,I.ok.has,I.ok.cab,I.ok.hd,I.ok.frames,I.ok.stk,I.ok.exf,I.ok.bs,I.ok.bsz,I.ok.noex,I.ok.exfs,I.ok.funs,I.ok.frf⟩,I.os,I.bare,I.base,I.loc,I.cell,I.free,I.freeC,fun p hp=>I.pin p (Zy _ hp),I.hok,I.len⟩
end Dl
namespace Dl
open PySem PySem.Spec PyProof.Rows L2
mutual
def imm:D->Bool
 | .tup ds=>bG ds
 | .lst _=>false
 | .seq _=>false
 | .ms _ _=>false
 | .mf _ _=>false
 | .md _ _=>false
 | _=>true
def bG:List D->Bool
 | []=>true
 | d :: ds=>imm d && bG ds
end
mutual
def own:D->Bool
 | .tup ds=>gn ds
 | .lst ds=>gn ds
 | .seq _=>false
 | .ms _ _=>false
 | .mf _ _=>false
 | _=>true
def gn:List D->Bool
 | []=>true
 | d :: ds=>own d && gn ds
end
mutual
def sh:D->D
 | .tup ds=>.tup (shs ds)
 | .lst ds=>.seq (shs ds)
 | .seq ds=>.seq (shs ds)
 | .ms ks ds=>.ms ks (shs ds)
 | .mf ks ds=>.mf ks (shs ds)
 | .md ks ds=>.ms ks (shs ds)
 | d=>d
def shs:List D->List D
 | []=>[]
 | d :: ds=>sh d :: shs ds
end
theorem dC:∀ (ds:List D),shs ds=ds.map sh
 | []=>rfl
 | d :: ds=>by rw [shs,dC ds];rfl
mutual
theorem Ea:∀ {d:D},imm d=true->sh d=d
 | .non,_=>rfl
 | .bl _,_=>rfl
 | .int _,_=>rfl
 | .str _,_=>rfl
 | .ty _,_=>rfl
 | .dct,_=>rfl
 | .exc _,_=>rfl
 | .cls _,_=>rfl
 | .ms _ _,h=>by rw [imm] at h;cases h
 | .mf _ _,h=>by rw [imm] at h;cases h
 | .md _ _,h=>by rw [imm] at h;cases h
 | .tup ds,h=>by rw [sh,rC (by rw [imm] at h;exact h)]
 | .lst _,h=>by rw [imm] at h;cases h
 | .seq _,h=>by rw [imm] at h;cases h
theorem rC:∀ {ds:List D},bG ds=true->shs ds=ds
 | [],_=>rfl
 | d :: ds,h=>by
  rw [bG,ZH] at h;rw [shs,Ea h.1,rC h.2]
end
mutual
theorem DH:∀ (d:D),sh (sh d)=sh d
 | .non=>rfl
 | .bl _=>rfl
 | .int _=>rfl
 | .str _=>rfl
 | .ty _=>rfl
 | .dct=>rfl
 | .exc _=>rfl
 | .cls _=>rfl
 | .ms ks ds=>by rw [sh,sh,iH ds]
 | .mf ks ds=>by rw [sh,sh,iH ds]
 | .md ks ds=>by rw [sh,sh,iH ds]
 | .tup ds=>by rw [sh,sh,iH ds]
 | .lst ds=>by rw [sh,sh,iH ds]
 | .seq ds=>by rw [sh,sh,iH ds]
theorem iH:∀ (ds:List D),shs (shs ds)=shs ds
 | []=>rfl
 | d :: ds=>by rw [shs,shs,DH d,iH ds]
end
def mtb:HO->Bool
 | .lst _=>true
 | .dK _=>true
 | .frz _ (.dK _)=>true
 | _=>false
abbrev MO:={u:HO // mtb u=true}
def eT (H H':Hp):Prop:=∀ a u,H a=some u->mtb u=false->H' a=some u
theorem bO {H H':Hp} (s:Same H H'):eT H H':=fun a u e _=>s a u e
theorem iB {H:Hp} {a:Addr} {u:HO} {o:HO} (h:H a=some u) (m:mtb u=true):eT H (upd H a o):=fun b w e n=>by
 by_cases hb:b=a
 . subst hb;rw [h] at e;cases e;rw [m] at n;cases n
 . rw [aB hb];exact e
theorem iC {H:Hp} {a:Addr} {vs:List V} {o:HO} (h:H a=some (.lst vs)):eT H (upd H a o):=iB h rfl
theorem n5 {K:Zu} {H H':Hp} {a:Addr} {xs:List V} (k:eT H H') (h:SqT K H a xs):SqT K H' a xs:=by
 rcases h with (h | ⟨o,h⟩) | h
 . exact .inl (.inl (k _ _ h rfl))
 . exact .inl (.inr ⟨o,k _ _ h rfl⟩)
 . exact .inr h
mutual
theorem ir {K:Zu} {H H':Hp} (k:eT H H'):∀ {v:V} {d:D},Rep K H v d->imm d=true->Rep K H' v d
 | _,_,.non,_=>.non
 | _,_,.bl b,_=>.bl b
 | _,_,.int i,_=>.int i
 | _,_,.str x,_=>.str x
 | _,_,.ty n,_=>.ty n
 | _,_,.tup h r,i=>.tup (n5 k h) (dQ k r (by rw [imm] at i;exact i))
 | _,_,.lst h r,i=>by rw [imm] at i;cases i
 | _,_,.seq h r,i=>by rw [imm] at i;cases i
 | _,_,.dct h,_=>.dct (k _ _ h rfl)
 | _,_,.exc h,_=>.exc (k _ _ h rfl)
 | _,_,.cls C,_=>.cls C
 | _,_,.ms h l r,i=>by rw [imm] at i;cases i
 | _,_,.mf h l r,i=>by rw [imm] at i;cases i
 | _,_,.md h l r,i=>by rw [imm] at i;cases i
theorem dQ {K:Zu} {H H':Hp} (k:eT H H'):∀ {vs:List V} {ds:List D},Reps K H vs ds->bG ds=true->Reps K H' vs ds
 | _,_,.nil,_=>.nil
 | _,_,.cons r t,i=>by
  rw [bG,ZH] at i;exact .cons (ir k r i.1) (dQ k t i.2)
end
mutual
theorem on {K:Zu} {H:Hp}:∀ {v:V} {d:D},Rep K H v d->Rep K H v (sh d)
 | _,_,.non=>.non
 | _,_,.bl b=>.bl b
 | _,_,.int i=>.int i
 | _,_,.str x=>.str x
 | _,_,.ty n=>.ty n
 | _,_,.tup h r=>by rw [sh];exact .tup h (c8 r)
 | _,_,.lst h r=>by rw [sh];exact .seq (SqL.of h) (c8 r)
 | _,_,.seq h r=>by rw [sh];exact .seq h (c8 r)
 | _,_,.dct h=>.dct h
 | _,_,.exc h=>.exc h
 | _,_,.cls C=>.cls C
 | _,_,.ms h l r=>by rw [sh];exact .ms h (by rw [dC,Zi];exact l) (c8 r)
 | _,_,.mf h l r=>by rw [sh];exact .mf h (by rw [dC,Zi];exact l) (c8 r)
 | _,_,.md h l r=>by rw [sh];exact .ms (.inl h) (by rw [dC,Zi];exact l) (c8 r)
theorem c8 {K:Zu} {H:Hp}:∀ {vs:List V} {ds:List D},Reps K H vs ds->Reps K H vs (shs ds)
 | _,_,.nil=>.nil
 | _,_,.cons r t=>by rw [shs];exact .cons (on r) (c8 t)
end
mutual
inductive RepO (K:Zu) (F H:Hp):V->D->List Addr->Prop
 | imm {v:V} {d:D} (i:imm d=true) (h:Rep K H v d):RepO K F H v d []
 | shr {v:V} {ds:List D} (h:Rep K F v (.seq ds)):RepO K F H v (.seq ds) []
 | shm {v:V} {ks:List Int} {ds:List D} (h:Rep K F v (.ms ks ds)):RepO K F H v (.ms ks ds) []
 | shf {v:V} {ks:List Int} {ds:List D} (h:Rep K F v (.mf ks ds)):RepO K F H v (.mf ks ds) []
 | tup {a:Addr} {vs:List V} {ds:List D} {A:List Addr} (h:SqT K H a vs) (r:RepOs K F H vs ds A):RepO K F H (.ref a) (.tup ds) A
 | lst {a:Addr} {vs:List V} {ds:List D} {A:List Addr} (h:H a=some (.lst vs)) (n:F a=none) (r:RepOs K F H vs ds A):RepO K F H (.ref a) (.lst ds) (a :: A)
 | md {a:Addr} {ks:List Int} {vs:List V} {ds:List D} (h:H a=some (.dK ((ks.map Sum.inl).zip vs))) (n:F a=none) (l:ks.length=ds.length) (i:bG ds=true) (r:Reps K H vs ds):RepO K F H (.ref a) (.md ks ds) [a]
inductive RepOs (K:Zu) (F H:Hp):List V->List D->List Addr->Prop
 | nil:RepOs K F H [] [] []
 | cons {v:V} {d:D} {vs:List V} {ds:List D} {A B C:List Addr} (r:RepO K F H v d A) (t:RepOs K F H vs ds B) (e:C=A++B):RepOs K F H (v :: vs) (d :: ds) C
end
section
variable {K:Zu} {F H F' H':Hp}
mutual
theorem RepO.rep (s:Same F H):∀ {v:V} {d:D} {A:List Addr},RepO K F H v d A->Rep K H v d
 | _,_,_,.imm _ h=>h
 | _,_,_,.shr h=>h.mono s
 | _,_,_,.shm h=>h.mono s
 | _,_,_,.shf h=>h.mono s
 | _,_,_,.tup h r=>.tup h (RepOs.reps s r)
 | _,_,_,.lst h _ r=>.lst h (RepOs.reps s r)
 | _,_,_,.md h _ l _ r=>.md h l r
theorem RepOs.reps (s:Same F H):∀ {vs:List V} {ds:List D} {A:List Addr},RepOs K F H vs ds A->Reps K H vs ds
 | _,_,_,.nil=>.nil
 | _,_,_,.cons r t _=>.cons (RepO.rep s r) (RepOs.reps s t)
end
mutual
theorem RepO.dom:∀ {v:V} {d:D} {A:List Addr},RepO K F H v d A->∀ a∈A,(∃ u:MO,H a=some u.1)/\F a=none
 | _,_,_,.imm _ _,_,m=>nomatch m
 | _,_,_,.shr _,_,m=>nomatch m
 | _,_,_,.shm _,_,m=>nomatch m
 | _,_,_,.shf _,_,m=>nomatch m
 | _,_,_,.tup _ r,a,m=>RepOs.dom r a m
 | _,_,_,.lst h n r,a,m=>by
  rcases Zq.mp m with e | e
  . subst e;exact ⟨⟨⟨_,rfl⟩,h⟩,n⟩
  . exact RepOs.dom r a e
 | _,_,_,.md h n _ _ _,a,m=>by
  rcases Zm.mp m with rfl
  exact ⟨⟨⟨_,rfl⟩,h⟩,n⟩
theorem RepOs.dom:∀ {vs:List V} {ds:List D} {A:List Addr},RepOs K F H vs ds A->∀ a∈A,(∃ u:MO,H a=some u.1)/\F a=none
 | _,_,_,.nil,_,m=>nomatch m
 | _,_,_,.cons r t e,a,m=>by
  subst e;rcases Zp.mp m with z | z
  . exact RepO.dom r a z
  . exact RepOs.dom t a z
end
mutual
theorem RepO.frame (k:eT H H'):∀ {v:V} {d:D} {A:List Addr},RepO K F H v d A->(∀ a∈A,H' a=H a)->RepO K F H' v d A
 | _,_,_,.imm i h,_=>.imm i (ir k h i)
 | _,_,_,.shr h,_=>.shr h
 | _,_,_,.shm h,_=>.shm h
 | _,_,_,.shf h,_=>.shf h
 | _,_,_,.tup h r,e=>.tup (n5 k h) (RepOs.frame k r e)
 | _,_,_,.lst h n r,e=>.lst ((e _ Zk).trans h) n (RepOs.frame k r fun a m=>e a (Zl _ m))
 | _,_,_,.md h n l i r,e=>.md ((e _ Zk).trans h) n l i (dQ k r i)
theorem RepOs.frame (k:eT H H'):∀ {vs:List V} {ds:List D} {A:List Addr},RepOs K F H vs ds A->(∀ a∈A,H' a=H a)->RepOs K F H' vs ds A
 | _,_,_,.nil,_=>.nil
 | _,_,_,.cons r t e,q=>by
  subst e;exact .cons (RepO.frame k r fun a m=>q a (Zy _ m)) (RepOs.frame k t fun a m=>q a (Zx _ m)) rfl
end
mutual
theorem RepO.froz (s:Same F F'):∀ {v:V} {d:D} {A:List Addr},RepO K F H v d A->(∀ a∈A,F' a=none)->RepO K F' H v d A
 | _,_,_,.imm i h,_=>.imm i h
 | _,_,_,.shr h,_=>.shr (h.mono s)
 | _,_,_,.shm h,_=>.shm (h.mono s)
 | _,_,_,.shf h,_=>.shf (h.mono s)
 | _,_,_,.tup h r,e=>.tup h (RepOs.froz s r e)
 | _,_,_,.lst h n r,e=>.lst h (e _ Zk) (RepOs.froz s r fun a m=>e a (Zl _ m))
 | _,_,_,.md h n l i r,e=>.md h (e _ Zk) l i r
theorem RepOs.froz (s:Same F F'):∀ {vs:List V} {ds:List D} {A:List Addr},RepOs K F H vs ds A->(∀ a∈A,F' a=none)->RepOs K F' H vs ds A
 | _,_,_,.nil,_=>.nil
 | _,_,_,.cons r t e,q=>by
  subst e;exact .cons (RepO.froz s r fun a m=>q a (Zy _ m)) (RepOs.froz s t fun a m=>q a (Zx _ m)) rfl
end
mutual
theorem RepO.thaw (s:Same F' F):∀ {v:V} {d:D} {A:List Addr},RepO K F H v d A->own d=true->RepO K F' H v d A
 | _,_,_,.imm i h,_=>.imm i h
 | _,_,_,.shr h,o=>by rw [own] at o;cases o
 | _,_,_,.shm h,o=>by rw [own] at o;cases o
 | _,_,_,.shf h,o=>by rw [own] at o;cases o
 | _,_,_,.tup h r,o=>.tup h (RepOs.thaw s r (by rw [own] at o;exact o))
 | _,_,_,.lst (a:=a) h n r,o=>.lst h (by
  cases q:F' a with
  | none=>rfl
  | some u=>rw [s a u q] at n;cases n) (RepOs.thaw s r (by rw [own] at o;exact o))
 | _,_,_,.md (a:=a) h n l i r,o=>.md h (by
  cases q:F' a with
  | none=>rfl
  | some u=>rw [s a u q] at n;cases n) l i r
theorem RepOs.thaw (s:Same F' F):∀ {vs:List V} {ds:List D} {A:List Addr},RepOs K F H vs ds A->gn ds=true->RepOs K F' H vs ds A
 | _,_,_,.nil,_=>.nil
 | _,_,_,.cons r t e,o=>by
  rw [gn,ZH] at o;exact .cons (RepO.thaw s r o.1) (RepOs.thaw s t o.2) e
end
mutual
theorem RepO.none_of:∀ {v:V} {d:D} {A:List Addr},RepO K F H v d A->imm d=true->A=[]
 | _,_,_,.imm _ _,_=>rfl
 | _,_,_,.shr _,_=>rfl
 | _,_,_,.shm _,_=>rfl
 | _,_,_,.shf _,_=>rfl
 | _,_,_,.tup _ r,i=>RepOs.none_of r (by rw [imm] at i;exact i)
 | _,_,_,.lst _ _ _,i=>by rw [imm] at i;cases i
 | _,_,_,.md _ _ _ _ _,i=>by rw [imm] at i;cases i
theorem RepOs.none_of:∀ {vs:List V} {ds:List D} {A:List Addr},RepOs K F H vs ds A->bG ds=true->A=[]
 | _,_,_,.nil,_=>rfl
 | _,_,_,.cons r t e,i=>by
  rw [bG,ZH] at i;rw [e,RepO.none_of r i.1,RepOs.none_of t i.2];rfl
end
theorem RepO.seq_nil {v:V} {ds:List D}:∀ {d:D} {A:List Addr},RepO K F H v d A->d=.seq ds->A=[]
 | _,_,.imm i _,e=>rfl
 | _,_,.shr _,_=>rfl
 | _,_,.shm _,_=>rfl
 | _,_,.shf _,_=>rfl
 | _,_,.tup _ _,e=>nomatch e
 | _,_,.lst _ _ _,e=>nomatch e
 | _,_,.md _ _ _ _ _,e=>nomatch e
noncomputable def frz (F H:Hp) (A:List Addr):Hp:=fun a=>match H a with
 | some u=>if mtb u=true then (if (F a).isSome=true \/ a∈A then some u else none) else some u
 | none=>none
theorem xI {A:List Addr} {a:Addr} {u:HO} (h:H a=some u) (m:a∈A):frz F H A a=some u:=by
 unfold frz;rw [h];show (if mtb u=true then (if (F a).isSome=true \/ a∈A then some u else none) else some u)=some u
 rw [if_pos (show (F a).isSome=true \/ a∈A from .inr m)]
 split <;> rfl
theorem uD {A:List Addr}:eT H (frz F H A):=fun a u e n=>by
 unfold frz;rw [e];exact if_neg (by rw [n];exact fun z=>nomatch z)
theorem uC {A:List Addr} (s:Same F H):Same F (frz F H A):=fun a u e=>by
 have h:=s a u e;unfold frz;rw [h];show (if mtb u=true then (if (F a).isSome=true \/ a∈A then some u else none) else some u)=some u
 rw [if_pos (show (F a).isSome=true \/ a∈A from .inl (by rw [e];rfl))]
 split <;> rfl
theorem Bb {A:List Addr}:Same (frz F H A) H:=fun a u e=>by
 unfold frz at e;split at e
 . rename_i w h;rw [h];split at e
   . split at e
     . exact e
     . cases e
   . exact e
 . cases e
theorem sy {A:List Addr} {a:Addr} {u:MO} (h:H a=some u.1) (n:F a=none) (m:a ∉ A):frz F H A a=none:=by
 unfold frz;rw [h];show (if mtb u.1=true then (if (F a).isSome=true \/ a∈A then some u.1 else none) else some u.1)=none
 rw [if_pos u.2];refine if_neg fun z=>?_
 rcases z with z | z
 . rw [n] at z;cases z
 . exact m z
mutual
theorem RepO.freeze (s:Same F F') (k:eT H F'):∀ {v:V} {d:D} {A:List Addr},RepO K F H v d A->(∀ a u,a∈A->H a=some u->F' a=some u)->Rep K F' v (sh d)
 | _,_,_,.imm i h,_=>on (ir k h i)
 | _,_,_,.shr h,_=>on (h.mono s)
 | _,_,_,.shm h,_=>on (h.mono s)
 | _,_,_,.shf h,_=>on (h.mono s)
 | _,_,_,.tup h r,e=>by rw [sh];exact .tup (n5 k h) (RepOs.freeze s k r e)
 | _,_,_,.lst h _ r,e=>by rw [sh];exact .seq (SqL.of (e _ _ Zk h)) (RepOs.freeze s k r fun a vs m=>e a vs (Zl _ m))
 | _,_,_,.md h _ l i r,e=>by rw [sh];exact .ms (.inl (e _ _ Zk h)) (by rw [dC,Zi];exact l) (c8 (dQ k r i))
theorem RepOs.freeze (s:Same F F') (k:eT H F'):∀ {vs:List V} {ds:List D} {A:List Addr},RepOs K F H vs ds A->(∀ a u,a∈A->H a=some u->F' a=some u)->Reps K F' vs (shs ds)
 | _,_,_,.nil,_=>.nil
 | _,_,_,.cons r t e,q=>by
  subst e;rw [shs];exact .cons (RepO.freeze s k r fun a vs m=>q a vs (Zy _ m)) (RepOs.freeze s k t fun a vs m=>q a vs (Zx _ m))
end
mutual
theorem RepO.of_sh (s:Same F H):∀ {v:V} {d:D},Rep K F v d->RepO K F H v (sh d) []
 | _,_,.non=>.imm rfl .non
 | _,_,.bl b=>.imm rfl (.bl b)
 | _,_,.int i=>.imm rfl (.int i)
 | _,_,.str x=>.imm rfl (.str x)
 | _,_,.ty n=>.imm rfl (.ty n)
 | _,_,.tup h r=>by rw [sh];exact .tup (nZ s h) (RepOs.of_sh s r)
 | _,_,.lst h r=>by rw [sh];exact .shr (.seq (SqL.of h) (c8 r))
 | _,_,.seq h r=>by rw [sh];exact .shr (.seq h (c8 r))
 | _,_,.dct h=>.imm rfl (.dct (s _ _ h))
 | _,_,.exc h=>.imm rfl (.exc (s _ _ h))
 | _,_,.cls C=>.imm rfl (.cls C)
 | _,_,.ms h l r=>by rw [sh];exact .shm (.ms h (by rw [dC,Zi];exact l) (c8 r))
 | _,_,.mf h l r=>by rw [sh];exact .shf (.mf h (by rw [dC,Zi];exact l) (c8 r))
 | _,_,.md h l r=>by rw [sh];exact .shm (.ms (.inl h) (by rw [dC,Zi];exact l) (c8 r))
theorem RepOs.of_sh (s:Same F H):∀ {vs:List V} {ds:List D},Reps K F vs ds->RepOs K F H vs (shs ds) []
 | _,_,.nil=>.nil
 | _,_,.cons r t=>by rw [shs];exact .cons (RepO.of_sh s r) (RepOs.of_sh s t) rfl
end
theorem RepOs.length:∀ {vs:List V} {ds:List D} {A:List Addr},RepOs K F H vs ds A->vs.length=ds.length
 | _,_,_,.nil=>rfl
 | _,_,_,.cons _ t _=>congrArg (· + 1) (RepOs.length t)
theorem RepOs.snoc:∀ {vs:List V} {ds:List D} {A B:List Addr} {v:V} {d:D},RepOs K F H vs ds A->RepO K F H v d B->RepOs K F H (vs++[v]) (ds++[d]) (A++B)
 | _,_,_,_,_,_,.nil,r=>.cons r .nil (by simp)
 | _,_,_,_,_,_,.cons q t e,r=>.cons q (RepOs.snoc t r) (by rw [e,List.append_assoc])
theorem RepOs.pick:∀ {vs:List V} {ds:List D} {A:List Addr} {i:Nat} {d:D},RepOs K F H vs ds A->ds[i]? = some d->∃ v A1 B A2,vs[i]? = some v/\RepO K F H v d B/\A=A1++(B++A2) /\
 ∀ {H':Hp} {v':V} {d':D} {B':List Addr},eT H H'->(∀ a,a∈A1 \/ a∈A2->H' a=H a)->RepO K F H' v' d' B'->RepOs K F H' (vs.set i v') (ds.set i d') (A1++(B'++A2))
 | _,_,_,_,_,.nil,e=>by simp at e
 | _,_,_,0,_,.cons (A:=A) (B:=B) r t e,q=>by
  simp at q;subst q;refine ⟨_,[],A,B,rfl,r,by simpa using e,fun k h r'=>?_⟩
  exact .cons r' (t.frame k fun a m=>h a (.inr m)) (by simp)
 | _,_,_,i+1,d,.cons (A:=A0) (B:=B0) r t e,q=>by
  obtain ⟨v,A1,B,A2,h1,h2,h3,h4⟩:=RepOs.pick (i:=i) (d:=d) t (by simpa using q)
  refine ⟨v,A0++A1,B,A2,by simpa using h1,h2,by rw [e,h3,List.append_assoc],fun k h r'=>?_⟩
  refine .cons (r.frame k fun a m=>h a (.inl (Zy _ m))) (h4 k (fun a m=>h a ?_) r') (by rw [List.append_assoc])
  rcases m with m | m
  . exact .inl (Zx _ m)
  . exact .inr m
end
end Dl
namespace Dl
open PySem PySem.Spec PyProof.Rows L2
structure RepA (K:Zu) (F H:Hp) (σ:L2.St) (δ:DS) (As:Nat->List Addr):Prop where
 fz:Same F H
 len:σ.length=δ.length
 val:∀ (i:Nat) (d:D),δ[i]? = some (some d)->∃ v,σ[i]? = some (some v)/\RepO K F H v d (As i)
 non:∀ (i:Nat),(∀ d,δ[i]? ≠ some (some d))->As i=[]
 nd:∀ i,(As i).Nodup
 dj:∀ i j a,i ≠ j->a∈As i->a ∉ As j
def fN (K:Zu) (F H:Hp) (σ:L2.St) (δ:DS):Prop:=∃ As,RepA K F H σ δ As
section
variable {K:Zu} {F H F' H':Hp} {σ:L2.St} {δ:DS} {As:Nat->List Addr}
theorem RepA.toS (R:RepA K F H σ δ As):RepS K H σ δ:=⟨R.len,fun i d q=>let ⟨v,h1,h2⟩:=R.val i d q;⟨v,h1,h2.rep R.fz⟩⟩
theorem RepA.dom (R:RepA K F H σ δ As) {i:Nat} {a:Addr} (m:a∈As i):(∃ u:MO,H a=some u.1)/\F a=none:=by
 by_cases h:∃ d,δ[i]? = some (some d)
 . obtain ⟨d,h⟩:=h;obtain ⟨v,_,h2⟩:=R.val i d h;exact h2.dom a m
 . rw [R.non i fun d z=>h ⟨d,z⟩] at m;cases m
theorem RepA.grow (R:RepA K F H σ δ As) (s:Same H H'):RepA K F H' σ δ As :=
 ⟨R.fz.trans s,R.len,fun i d q=>by
  obtain ⟨v,h1,h2⟩:=R.val i d q;refine ⟨v,h1,h2.frame (bO s) fun a m=>?_⟩
  obtain ⟨⟨vs,e⟩,_⟩:=h2.dom a m;rw [e];exact s a _ e,R.non,R.nd,R.dj⟩
theorem RepA.froz (R:RepA K F H σ δ As) (s:Same F F') (s':Same F' H) (n:∀ i a,a∈As i->F' a=none):RepA K F' H σ δ As :=
 ⟨s',R.len,fun i d q=>let ⟨v,h1,h2⟩:=R.val i d q;⟨v,h1,h2.froz s (n i)⟩,R.non,R.nd,R.dj⟩
def lB (As:Nat->List Addr) (i:Nat) (A:List Addr):Nat->List Addr:=fun j=>if j=i then A else As j
theorem aM {i:Nat} {A:List Addr}:lB As i A i=A:=if_pos rfl
theorem aL {i j:Nat} {A:List Addr} (h:j ≠ i):lB As i A j=As j:=if_neg h
theorem RepA.set {v:V} {d:D} {A:List Addr} (R:RepA K F H σ δ As) (i:Nat) (hi:i < δ.length) (r:RepO K F H v d A) (nd:A.Nodup) (dj:∀ j a,j ≠ i->a∈As j->a ∉ A):RepA K F H (σ.set i (some v)) (δ.set i (some d)) (lB As i A):=by
 have hl:=R.len;refine ⟨R.fz,by rw [List.length_set,List.length_set];exact hl,fun j e q=>?_,fun j h=>?_,fun j=>?_,fun j k a hjk m=>?_⟩
 . rw [List.getElem?_set] at q ⊢
   by_cases hj:i=j
   . subst hj;rw [if_pos rfl,if_pos hi] at q;rw [if_pos rfl,if_pos (by omega),aM]
     have:d=e:=by simpa using q
     subst this;exact ⟨v,rfl,r⟩
   . rw [if_neg hj] at q ⊢;rw [aL (Ne.symm hj)];exact R.val j e q
 . by_cases hj:j=i
   . subst hj;exact absurd (by rw [List.getElem?_set,if_pos rfl,if_pos hi]) (h d)
   . rw [aL hj];refine R.non j fun e z=>h e ?_
     rw [List.getElem?_set_ne (Ne.symm hj)];exact z
 . by_cases hj:j=i
   . subst hj;rw [aM];exact nd
   . rw [aL hj];exact R.nd j
 . by_cases hj:j=i
   . subst hj;rw [aM] at m;rw [aL (Ne.symm hjk)];exact fun z=>dj k a (Ne.symm hjk) z m
   . rw [aL hj] at m
     by_cases hk:k=i
     . subst hk;rw [aM];exact dj j a hj m
     . rw [aL hk];exact R.dj j k a hjk m
theorem RepA.drop (R:RepA K F H σ δ As) (i:Nat):RepA K F H σ (δ.set i none) (lB As i []):=by
 refine ⟨R.fz,by rw [List.length_set];exact R.len,fun j e q=>?_,fun j h=>?_,fun j=>?_,fun j k a hjk m=>?_⟩
 . rw [List.getElem?_set] at q
   by_cases hj:i=j
   . subst hj;rw [if_pos rfl] at q;split at q <;> cases q
   . rw [if_neg hj] at q;rw [aL (Ne.symm hj)];exact R.val j e q
 . by_cases hj:j=i
   . subst hj;rw [aM]
   . rw [aL hj];refine R.non j fun e z=>h e ?_
     rw [List.getElem?_set_ne (Ne.symm hj)];exact z
 . by_cases hj:j=i
   . subst hj;rw [aM];exact List.nodup_nil
   . rw [aL hj];exact R.nd j
 . by_cases hj:j=i
   . subst hj;rw [aM] at m;cases m
   . rw [aL hj] at m
     by_cases hk:k=i
     . subst hk;rw [aM];exact fun z=>nomatch z
     . rw [aL hk];exact R.dj j k a hjk m
theorem RepA.write {v:V} {d:D} {A:List Addr} {i:Nat} (R:RepA K F H σ δ As) (hi:i < δ.length) (hσ:σ[i]? = some (some v)) (k:eT H H') (fz:Same F H') (e:∀ j a,j ≠ i->a∈As j->H' a=H a) (r:RepO K F H' v d A) (nd:A.Nodup) (dj:∀ j a,j ≠ i->a∈As j->a ∉ A) :
 RepA K F H' σ (δ.set i (some d)) (lB As i A):=by
 refine ⟨fz,by rw [List.length_set];exact R.len,fun j e' q=>?_,fun j h=>?_,fun j=>?_,fun j k a hjk m=>?_⟩
 . rw [List.getElem?_set] at q
   by_cases hj:i=j
   . subst hj;rw [if_pos rfl,if_pos hi] at q;have:d=e':=by simpa using q
     subst this;rw [aM];exact ⟨v,hσ,r⟩
   . rw [if_neg hj] at q;rw [aL (Ne.symm hj)];obtain ⟨w,h1,h2⟩:=R.val j e' q;exact ⟨w,h1,h2.frame k (fun a m=>e j a (Ne.symm hj) m)⟩
 . by_cases hj:j=i
   . subst hj;exact absurd (by rw [List.getElem?_set,if_pos rfl,if_pos hi]) (h d)
   . rw [aL hj];refine R.non j fun e z=>h e ?_
     rw [List.getElem?_set_ne (Ne.symm hj)];exact z
 . by_cases hj:j=i
   . subst hj;rw [aM];exact nd
   . rw [aL hj];exact R.nd j
 . by_cases hj:j=i
   . subst hj;rw [aM] at m;rw [aL (Ne.symm hjk)];exact fun z=>dj k a (Ne.symm hjk) z m
   . rw [aL hj] at m
     by_cases hk:k=i
     . subst hk;rw [aM];exact dj j a hj m
     . rw [aL hk];exact R.dj j k a hjk m
end
abbrev FM:=DS->Option (D×DS)
abbrev FMA:=DS->Option (List D×DS)
structure Ev (F H:Hp) (As:Nat->List Addr) (F' H':Hp) (As':Nat->List Addr) (A:List Addr):Prop where
 fs:Same F F'
 hs:Same H H'
 nf:∀ a (u:MO),H a=some u.1->F a=none->(∀ i,a ∉ As i)->F' a=none
 fa:∀ i a,a∈As' i->(∃ j,a∈As j) \/ H a=none
 fA:∀ a,a∈A->(∃ j,a∈As j) \/ H a=none
 nd:A.Nodup
 dj:∀ i a,a∈As' i->a ∉ A
theorem Ev.pure {F H H':Hp} {As:Nat->List Addr} (s:Same H H'):Ev F H As F H' As [] :=
 ⟨Same.refl F,s,fun _ _ _ n _=>n,fun i _ m=>.inl ⟨i,m⟩,fun _ m=>(nomatch m),List.nodup_nil,fun _ _ _ z=>(nomatch z)⟩
theorem Ev.fresh {F H H':Hp} {As:Nat->List Addr} {A:List Addr} (s:Same H H') (h:∀ a∈A,H a=none) (nd:A.Nodup) (dom:∀ i a,a∈As i->∃ u:MO,H a=some u.1):Ev F H As F H' As A :=
 ⟨Same.refl F,s,fun _ _ _ n _=>n,fun i _ m=>.inl ⟨i,m⟩,fun a m=>.inr (h a m),nd,fun i a m z=>by
  obtain ⟨vs,e⟩:=dom i a m;rw [h a z] at e;cases e⟩
theorem Ev.seq {F H F1 H1 F2 H2:Hp} {As As1 As2:Nat->List Addr} {A B:List Addr} (a:Ev F H As F1 H1 As1 A) (b:Ev F1 H1 As1 F2 H2 As2 B) (dA:∀ x∈A,∃ u:MO,H1 x=some u.1):Ev F H As F2 H2 As2 (A++B) where
 fs:=a.fs.trans b.fs
 hs:=a.hs.trans b.hs
 nf:=fun x vs e n h=>b.nf x vs (a.hs x _ e) (a.nf x vs e n h) fun i m=>by
  rcases a.fa i x m with ⟨j,z⟩ | z
  . exact h j z
  . rw [e] at z;cases z
 fa:=fun i x m=>by
  rcases b.fa i x m with ⟨j,z⟩ | z
  . exact a.fa j x z
  . refine .inr ?_;cases q:H x with
    | none=>rfl
    | some u=>rw [a.hs x u q] at z;cases z
 fA:=fun x m=>by
  rcases Zp.mp m with z | z
  . exact a.fA x z
  . rcases b.fA x z with ⟨j,y⟩ | y
    . exact a.fa j x y
    . refine .inr ?_;cases q:H x with
      | none=>rfl
      | some u=>rw [a.hs x u q] at y;cases y
 nd:=by
  refine List.nodup_append.mpr ⟨a.nd,b.nd,fun x hx y hy e=>?_⟩
  subst e;rcases b.fA x hy with ⟨j,z⟩ | z
  . exact a.dj j x z hx
  . obtain ⟨vs,e⟩:=dA x hx;rw [z] at e;cases e
 dj:=fun i x m z=>by
  rcases Zp.mp z with z | z
  . rcases b.fa i x m with ⟨j,y⟩ | y
    . exact a.dj j x y z
    . obtain ⟨vs,e⟩:=dA x z;rw [y] at e;cases e
  . exact b.dj i x m z
theorem Ev.stays {K:Zu} {F1 H1 F2 H2:Hp} {As1 As2:Nat->List Addr} {A B:List Addr} {v:V} {d:D} (b:Ev F1 H1 As1 F2 H2 As2 B) (r:RepO K F1 H1 v d A) (dj:∀ i a,a∈As1 i->a ∉ A):RepO K F2 H2 v d A:=by
 have h1:RepO K F1 H2 v d A:=r.frame (bO b.hs) fun a m=>by
  obtain ⟨⟨vs,e⟩,_⟩:=r.dom a m;rw [e];exact b.hs a _ e
 refine h1.froz b.fs fun a m=>?_
 obtain ⟨⟨vs,e⟩,n⟩:=r.dom a m;exact b.nf a vs e n fun i z=>dj i a z m
def upV (K:Zu) (f:FM):TE:=fun σ H Q=>∃ F δ As d δ',RepA K F H σ δ As/\f δ=some (d,δ')/\∀ v F' H' A As',Ev F H As F' H' As' A->RepA K F' H' σ δ' As'->RepO K F' H' v d A->Q v H'
def G8 (K:Zu) (n:Nat) (f:FMA):TA:=fun σ H Q=>∃ F δ As ds δ',RepA K F H σ δ As/\f δ=some (ds,δ')/\∀ vs F' H' A As',Ev F H As F' H' As' A->RepA K F' H' σ δ' As'->RepOs K F' H' vs ds A->vs.length=n->Q vs H'
def PV (X:Cx) (e:Expr) (f:FM):Prop:=PE X e (upV X.K f)
def PVA (X:Cx) (es:List Expr) (f:FMA):Prop:=PA X es (G8 X.K es.length f)
def vI (f:FD):FM:=fun δ=>(f δ).bind fun d=>if imm d then some (d,δ) else none
def gA (i:Nat):FM:=fun δ=>match δ[i]? with
 | some (some (.seq ds))=>some (.seq ds,δ)
 | some (some d)=>if imm d then some (d,δ) else some (d,δ.set i none)
 | _=>none
def rh (i:Nat):FM:=fun δ=>match δ[i]? with
 | some (some d)=>some (sh d,δ.set i (some (sh d)))
 | _=>none
def yg:FMA:=fun δ=>some ([],δ)
def l8 (f:FM) (g:FMA):FMA:=fun δ=>(f δ).bind fun p=>(g p.2).bind fun q=>some (p.1 :: q.1,q.2)
def zu (g:FMA):FM:=fun δ=>(g δ).bind fun p=>some (.lst p.1,p.2)
def BP (g:FMA):FM:=fun δ=>(g δ).bind fun p=>some (.tup p.1,p.2)
def fY (G:List D->Option D) (g:FA):FM:=fun δ=>(g δ).bind fun ds=>(G ds).bind fun d=>if own d then some (d,δ) else none
def bC (K:Zu) (n:Nat) (G:List D->Option D):Sp:=fun vs H Q _=>vs.length=n/\∃ ds d,Reps K H vs ds/\G ds=some d/\∀ v H' A,Same H H'->RepO K H H' v d A->A.Nodup->Q v H'
section
variable {X:Cx} {e:Expr} {es:List Expr} {f:FD} {fm:FM} {g:FMA} {ga:FA} {pos p:Pos}
theorem aR (h:PD X e f):PV X e (vI f):=imp h fun σ H Q ⟨F,δ,As,d,δ',R,q,k⟩=>by
 unfold vI at q;obtain ⟨d0,ed,q⟩:=Za.mp q;split at q
 . rename_i hi;cases q;exact ⟨δ,d,R.toS,ed,fun v H' s r=>k v F H' [] As (.pure s) (R.grow s) (.imm hi r)⟩
 . cases q
theorem dG (i:Nat) {x:Str} (hN:X.N[i]? = some x:=by rfl) (hv:Vis X.env.scope x:=by first | exact Or.inl rfl | exact Or.inr (Or.inl rfl) | exact Or.inr (Or.inr rfl)) (hd:(x == ("__debug__":Str))=false:=by decide)
 (hcd:(x == ("__classdict__":Str))=false:=by decide):PV X (.Name x pos) (gA i) :=
 imp (lI hN hv hd hcd) fun σ H Q ⟨F,δ,As,d,δ',R,q,k⟩=>by
  unfold gA at q;split at q
  . rename_i ds h;cases q;obtain ⟨v,h1,h2⟩:=R.val i _ h;rw [h2.seq_nil rfl] at h2;exact ⟨v,h1,k v F H [] As (.pure (Same.refl H)) R h2⟩
  . rename_i d0 _ h;obtain ⟨v,h1,h2⟩:=R.val i _ h;split at q
    . rename_i hi;cases q;have z:=h2.none_of hi;rw [z] at h2;exact ⟨v,h1,k v F H [] As (.pure (Same.refl H)) R h2⟩
    . cases q;refine ⟨v,h1,k v F H (As i) (lB As i []) ⟨Same.refl F,Same.refl H,fun _ _ _ n _=>n,fun j a m=>?_,fun a m=>.inl ⟨i,m⟩,R.nd i,fun j a m=>?_⟩ (R.drop i) h2⟩
      . by_cases hj:j=i
        . subst hj;rw [aM] at m;cases m
        . rw [aL hj] at m;exact .inl ⟨j,m⟩
      . by_cases hj:j=i
        . subst hj;rw [aM] at m;cases m
        . rw [aL hj] at m;exact R.dj j i a hj m
  . cases q
theorem zY (i:Nat) {x:Str} (hN:X.N[i]? = some x:=by rfl) (hv:Vis X.env.scope x:=by first | exact Or.inl rfl | exact Or.inr (Or.inl rfl) | exact Or.inr (Or.inr rfl)) (hd:(x == ("__debug__":Str))=false:=by decide)
 (hcd:(x == ("__classdict__":Str))=false:=by decide):PV X (.Name x pos) (rh i) :=
 imp (lI hN hv hd hcd) fun σ H Q ⟨F,δ,As,d,δ',R,q,k⟩=>by
  unfold rh at q;split at q
  . rename_i d0 h;cases q;obtain ⟨v,h1,h2⟩:=R.val i _ h;have hi:i < δ.length:=(ZE.mp h).1;have s1:=uC (A:=As i) R.fz;have s2:Same (frz F H (As i)) H:=Bb;have z:Rep X.K (frz F H (As i)) v (sh d0):=h2.freeze s1 uD fun a vs m e=>xI e m
    have z2:RepO X.K (frz F H (As i)) H v (sh (sh d0)) []:=RepO.of_sh s2 z;rw [DH d0] at z2;have R1:=(R.drop i).froz s1 s2 (fun j a m=>by
     by_cases hj:j=i
     . subst hj;rw [aM] at m;cases m
     . rw [aL hj] at m;obtain ⟨⟨vs,e⟩,n⟩:=R.dom m;exact sy e n (R.dj j i a hj m))
    have R2:=R1.set i (by rw [List.length_set];exact hi) z2 List.nodup_nil fun _ _ _ _ z=>nomatch z
    have hσ:σ.set i (some v)=σ:=by
     refine List.ext_getElem? fun j=>?_
     rw [List.getElem?_set];split
     . rename_i hj;subst hj;rw [h1,if_pos (by rw [R.len];exact hi)]
     . rfl
    rw [hσ,List.set_set] at R2;refine ⟨v,h1,k v _ H [] _ ⟨s1,Same.refl H,fun a vs e n h=>sy e n (h i),fun j a m=>?_,fun _ m=>(nomatch m),List.nodup_nil,fun _ _ _ z=>(nomatch z)⟩ R2 z2⟩
    by_cases hj:j=i
    . subst hj;rw [aM] at m;cases m
    . rw [aL hj,aL hj] at m;exact .inl ⟨j,m⟩
  . cases q
theorem iN:PVA X [] yg:=C2 jo fun σ H Q ⟨F,δ,As,ds,δ',R,q,k⟩=>by
 cases q;exact k [] F H [] As (.pure (Same.refl H)) R .nil rfl
theorem fI (ha:PV X e fm) (hr:PVA X es g) (hs:starEach (e :: es) X.env=(false,eval e X.env) :: starEach es X.env:=by rfl):PVA X (e :: es) (l8 fm g):=C2 (d6 ha hr hs) fun σ H Q ⟨F,δ,As,ds,δ',R,q,k⟩=>by
 unfold l8 at q;obtain ⟨⟨d1,δ1⟩,e1,q⟩:=Za.mp q;obtain ⟨⟨ds2,δ2⟩,e2,q⟩:=Za.mp q;cases q;refine ⟨F,δ,As,d1,δ1,R,e1,fun v F1 H1 A As1 ev1 R1 r1=>⟨F1,δ1,As1,ds2,δ2,R1,e2,fun vs F2 H2 B As2 ev2 R2 r2 l=>?_⟩⟩
 exact k (v :: vs) F2 H2 (A++B) As2 (ev1.seq ev2 fun x m=>(r1.dom x m).1) R2 (.cons (ev2.stays r1 ev1.dj) r2 rfl) (congrArg (· + 1) l)
theorem vx {x1} (h:PVA X es g) (hz:es.length<=1000:=by decide):PV X (.Tuple es x1 pos) (BP g):=imp (Ah h) fun σ H Q ⟨F,δ,As,d,δ',R,q,k⟩=>by
 unfold BP at q;obtain ⟨⟨ds,δ1⟩,e1,q⟩:=Za.mp q;cases q;refine ⟨F,δ,As,ds,_,R,e1,fun vs F1 H1 A As1 ev R1 r1 l=>⟨db (by rw [l];exact hz),fun p hp=>?_⟩⟩
 have s:=bQ hp (.tup vs);have ev':Ev F H As F1 (upd H1 p (.tup vs)) As1 A:=⟨ev.fs,ev.hs.trans s,ev.nf,ev.fa,ev.fA,ev.nd,ev.dj⟩;refine k _ F1 _ A As1 ev' (R1.grow s) (.tup (SqT.of aP) (r1.frame (bO s) fun a m=>?_))
 obtain ⟨⟨ws,e⟩,_⟩:=r1.dom a m;rw [e];exact s a _ e
theorem rM (h:PVA X es g) (hz:es.length<=1000:=by decide):PV X (.List es pos) (zu g):=imp (Aj h) fun σ H Q ⟨F,δ,As,d,δ',R,q,k⟩=>by
 unfold zu at q;obtain ⟨⟨ds,δ1⟩,e1,q⟩:=Za.mp q;cases q;refine ⟨F,δ,As,ds,_,R,e1,fun vs F1 H1 A As1 ev R1 r1 l=>⟨db (by rw [l];exact hz),fun p hp=>?_⟩⟩
 have s:=bQ hp (.lst vs);have np:∀ {u:Hp},Same u H1->u p=none:=fun {u} su=>by
  cases q:u p with
  | none=>rfl
  | some o=>rw [su p o q] at hp;cases hp
 have ev':Ev F H As F1 (upd H1 p (.lst vs)) As1 (p :: A):=⟨ev.fs,ev.hs.trans s,ev.nf,ev.fa,fun a m=>by
  rcases Zq.mp m with z | z
  . subst z;exact .inr (np ev.hs)
  . exact ev.fA a z,List.nodup_cons.mpr ⟨fun m=>(by
    obtain ⟨⟨ws,e⟩,_⟩:=r1.dom p m;rw [hp] at e;cases e),ev.nd⟩,fun i a m z=>by
  rcases Zq.mp z with z | z
  . subst z;obtain ⟨⟨ws,e⟩,_⟩:=R1.dom m;rw [hp] at e;cases e
  . exact ev.dj i a m z⟩
 refine k _ F1 _ (p :: A) As1 ev' (R1.grow s) (.lst aP (np R1.fz) (r1.frame (bO s) fun a m=>?_))
 obtain ⟨⟨ws,e⟩,_⟩:=r1.dom a m;rw [e];exact s a _ e
end
end Dl
namespace Dl
open PySem PySem.Spec PyProof.Rows L2
def RPM (X:Cx) (E:pL) (F:Hp):Res->Prop
 | .nx δ=>∀ σ' F' H',Same F F'->fN X.K F' H' σ' δ->E.nx σ' H'
 | .rt d=>∀ v F' H' A,Same F F'->Same F' H'->RepO X.K F' H' v d A->A.Nodup->E.rt v H'
 | .bk δ=>∀ σ' F' H',Same F F'->fN X.K F' H' σ' δ->E.bk σ' H'
 | .ct δ=>∀ σ' F' H',Same F F'->fN X.K F' H' σ' δ->E.ct σ' H'
 | .ex C δ=>∀ σ' F' H',Same F F'->fN X.K F' H' σ' δ->wx X C σ' H'
 | .mk C δ=>∀ σ' F' H',Same F F'->fN X.K F' H' σ' δ->BK X C σ' H'
theorem RPM.mono {X:Cx} {E:pL} {F F1:Hp} {r:Res} (s:Same F F1) (h:RPM X E F r):RPM X E F1 r:=by
 cases r with
 | nx δ=>exact fun σ' F' H' s2 R=>h σ' F' H' (s.trans s2) R
 | rt d=>exact fun v F' H' A s2=>h v F' H' A (s.trans s2)
 | bk δ=>exact fun σ' F' H' s2 R=>h σ' F' H' (s.trans s2) R
 | ct δ=>exact fun σ' F' H' s2 R=>h σ' F' H' (s.trans s2) R
 | ex C δ=>exact fun σ' F' H' s2 R=>h σ' F' H' (s.trans s2) R
 | mk C δ=>exact fun σ' F' H' s2 R=>h σ' F' H' (s.trans s2) R
def upM (X:Cx) (s:SD):TS:=fun E σ H=>∃ F δ r,fN X.K F H σ δ/\s δ=some r/\RPM X E F r
def PMD (X:Cx) (st:Stmt) (s:SD):Prop:=PS X st (upM X s)
def PMs (X:Cx) (sts:List Stmt) (s:SD):Prop:=PSs X sts (upM X s)
section
variable {K:Zu} {F H:Hp} {σ:L2.St} {δ:DS} {As:Nat->List Addr}
theorem RepA.setM {v:V} {d:D} {A:List Addr} (R:RepA K F H σ δ As) (i:Nat) (r:RepO K F H v d A) (nd:A.Nodup) (dj:∀ j a,a∈As j->a ∉ A):fN K F H (σ.set i (some v)) (δ.set i (some d)):=by
 by_cases hi:i < δ.length
 . exact ⟨_,R.set i hi r nd fun j a _ m=>dj j a m⟩
 . have hl:=R.len;rw [List.set_eq_of_length_le (by omega),List.set_eq_of_length_le (by omega)]
   exact ⟨As,R⟩
end
section
variable {X:Cx} {st:Stmt} {rest:List Stmt} {s u:SD} {e:Expr} {f:FD} {fm:FM} {c:FT} {pos:Pos}
theorem cO:PMs X [] bF:=qK rO fun E σ H ⟨F,δ,r,R,e,k⟩=>by cases e;exact k σ F H (Same.refl F) R
theorem aA (h1:PMD X st s) (h2:PMs X rest u):PMs X (st :: rest) (bf s u):=qK (ou h1 h2) fun E σ H ⟨F,δ,r,R,e,k⟩=>by
 unfold bf at e;obtain ⟨r1,e1,e⟩:=Za.mp e;refine ⟨F,δ,r1,R,e1,?_⟩;cases r1 with
 | nx δ'=>exact fun σ' F' H' s1 R1=>⟨F',δ',r,R1,e,k.mono s1⟩
 | rt d=>cases e;exact k
 | bk d=>cases e;exact k
 | ct d=>cases e;exact k
 | ex C d=>cases e;exact k
 | mk C d=>cases e;exact k
theorem aI (h:PMD X st s):PMs X [st] s:=rN h
theorem Ac:PMD X st zI:=gr tM fun E σ H ⟨F,δ,r,R,e,k⟩=>by cases e
theorem d4 {cx:Expr} {a b:List Stmt} (hc:PTD X cx c) (ha:PMs X a s) (hb:PMs X b u):PMD X (.If cx a b pos) (sIf c s u):=gr (Aa hc ha hb) fun E σ H ⟨F,δ,r,⟨As,R⟩,q,k⟩=>by
 unfold sIf at q;obtain ⟨d,ed,q⟩:=Za.mp q;refine ⟨δ,d,R.toS,ed,fun H' s1=>?_⟩
 cases d with
 | true=>rw [if_pos rfl];exact ⟨F,δ,r,⟨As,R.grow s1⟩,q,k⟩
 | false=>rw [if_neg Zv];exact ⟨F,δ,r,⟨As,R.grow s1⟩,q,k⟩
def aX (i:Nat) (f:FM):SD:=fun δ=>(f δ).bind fun p=>some (.nx (p.2.set i (some p.1)))
def gE (f:FM):SD:=fun δ=>(f δ).bind fun p=>some (.rt p.1)
theorem bn (i:Nat) {x:Str} {pos':Pos} (hN:X.N.Nodup) (he:PV X e fm) (hi:X.N[i]? = some x:=by rfl) (hx:Loc X.env.scope x:=by first | exact Or.inl rfl | exact Or.inr rfl) (hs:swapsWith e (some (.Name x pos')) pos.line X.env=pure false:=by rfl) (hf:X.fn x=true \/ X.env.scope.names.lookup x=some .local:=by first | exact .inl rfl | exact .inr rfl | assumption) :
 PMD X (.Assign [.Name x pos'] e pos) (aX i fm):=gr (vB hN hi hx he hs hf) fun E σ H ⟨F,δ,r,⟨As,R⟩,q,k⟩=>by
 unfold aX at q;obtain ⟨⟨d,δ'⟩,ed,q⟩:=Za.mp q;cases q;exact ⟨F,δ,As,d,δ',R,ed,fun v F' H' A As' ev R' r'=>k (σ.set i (some v)) F' H' ev.fs (R'.setM i r' ev.nd ev.dj)⟩
theorem bg (he:PV X e fm):PMD X (.Return (some e) pos) (gE fm):=gr (vC he) fun E σ H ⟨F,δ,r,⟨As,R⟩,q,k⟩=>by
 unfold gE at q;obtain ⟨⟨d,δ'⟩,ed,q⟩:=Za.mp q;cases q;exact ⟨F,δ,As,d,δ',R,ed,fun v F' H' A As' ev R' r'=>k v F' H' A ev.fs R'.fz r' ev.nd⟩
end
def ItF (K:Zu) (J:It) (F:Hp) (ds:List D):Prop:=∀ i H2,Same F H2 ->
 (i < ds.length->J.go i H2/\∀ x H',J.yld i H2 x H'->H'=H2/\∃ d,ds[i]? = some d/\Rep K F x d)/\(ds.length<=i->J.stop i H2)
def G9 (K:Zu) (src:FMA):TI:=fun σ H R=>∃ F δ As ds δ',RepA K F H σ δ As/\src δ=some (ds,δ')/\∀ J F' H1 As',Same F F'->RepA K F' H1 σ δ' As'->ItF K J F' ds->R J H1
def PIM (X:Cx) (tg iter:Expr) (src:FMA):Prop:=PI X tg iter (G9 X.K src)
theorem AV {K:Zu} {F:Hp} {a:Addr} {vs:List V} {ds:List D} (hq:SqL K F a vs) (r:Reps K F vs ds):ItF K (Itl K a) F ds:=by
 intro i H2 s;have hq2:=s.seq hq;have hl:=r.length;refine ⟨fun hi=>⟨⟨vs,vs[i],hq2,by simp [show i < vs.length by omega]⟩,fun x H' y=>?_⟩,fun hi=>⟨vs,hq2,by omega⟩⟩
 obtain ⟨e,y⟩:=y;subst e;obtain ⟨d,h1,h2⟩:=r.getV (y vs hq2);exact ⟨rfl,d,h1,h2⟩
def wF (f:FM):FMA:=fun δ=>(f δ).bind fun p=>match sh p.1 with
 | .seq ds=>some (ds,p.2)
 | _=>none
theorem Af {X:Cx} {tg l:Expr} {fm:FM} (hl:PV X l fm):PIM X tg l (wF fm):=yP (xi hl) fun σ H R ⟨F,δ,As,ds,δ',R0,e,k⟩=>by
 unfold wF at e;obtain ⟨⟨d,δ1⟩,ed,e⟩:=Za.mp e;dsimp only at e;split at e
 . rename_i es hs;cases e;refine ⟨F,δ,As,d,_,R0,ed,fun v F1 H1 A As1 ev R1 r1=>?_⟩
   have s1:=uC (A:=A) R1.fz;have s2:Same (frz F1 H1 A) H1:=Bb;have z:Rep X.K (frz F1 H1 A) v (sh d):=r1.freeze s1 uD fun a vs m e=>xI e m
   rw [hs] at z;have R2:=R1.froz s1 s2 (fun j a m=>by
    obtain ⟨⟨vs,e⟩,n⟩:=R1.dom m;exact sy e n (ev.dj j a m))
   cases z with
   | @seq p vs _ hp rp=>exact ⟨p,rfl,⟨vs,s2.seq hp⟩,k _ _ H1 As1 (ev.fs.trans s1) R2 (AV hp rp)⟩
 . cases e
theorem yM {K:Zu} {F:Hp} {lo:Int} {n:Nat}:ItF K (Itr lo n) F ((List.range n).map fun (i:Nat)=>D.int (lo+(i:Int)*1)):=by
 intro i H2 s;refine ⟨fun hi=>?_,fun hi=>(show n<=i by simpa using hi)⟩
 have hi':i < n:=by simpa using hi
 refine ⟨hi',fun x H' y=>?_⟩
 obtain ⟨e,y⟩:=y;subst e y;refine ⟨rfl,.int (lo+(i:Int)*1),?_,by rw [Int.mul_one];exact .int _⟩
 rw [ZD,List.getElem?_range hi'];rfl
def ia (g:FA):FMA:=fun δ=>(g δ).bind fun ds=>(asR ds).bind fun rs=>if ds.length<=2 then some (rs,δ) else none
theorem bo {X:Cx} {tg a:Expr} {g:FA} {p pos:Pos} (hg:Gl X "range") (hm:X.mg "range" = none) (ha:PAD X [a] g) (hs:starEach [a] X.env=[(false,eval a X.env)]:=by rfl):PIM X tg (.Call (.Name "range" p) [a] [] pos) (ia g) :=
 yP (qv hg hm ha hs) fun σ H R ⟨F,δ,As,ds,δ',R0,e,k⟩=>by
 unfold ia at e;obtain ⟨xs,exs,e⟩:=Za.mp e;obtain ⟨rs,ers,e⟩:=Za.mp e;split at e
 . cases e;refine ⟨δ,xs,R0.toS,exs,fun vs H1 s1 r1 l=>?_⟩
   match xs,r1,ers with
   | [.int b],r1,e =>
    obtain ⟨v,rfl,rv⟩:=g8 r1;cases rv;have e':(if -(2 ^ 62)<=b/\b < 2 ^ 62 then some (d3 0 b 1) else none)=some ds:=e
    by_cases hb:-(2 ^ 62)<=b/\b < 2 ^ 62
    . rw [if_pos hb] at e';have e2:d3 0 b 1=ds:=ZA e';refine ⟨b,rfl,hb.1,hb.2,k _ F H1 As (Same.refl F) (R0.grow s1) ?_⟩;have h:=yM (K:=X.K) (F:=F) (lo:=0) (n:=b.toNat);have e3:((b - 0+1 - 1) / 1).toNat=b.toNat:=by congr 1;omega
      unfold d3 at e2;rw [e3] at e2;rw [<- e2];exact h
    . rw [if_neg hb] at e';cases e'
   | [],r1,e=>cases r1;cases l
   | _ :: _ :: _,r1,e =>
    have:=r1.length;rw [l] at this;cases this
   | [.non],r1,e=>cases e
   | [.bl _],r1,e=>cases e
   | [.str _],r1,e=>cases e
   | [.tup _],r1,e=>cases e
   | [.lst _],r1,e=>cases e
   | [.seq _],r1,e=>cases e
   | [.ty _],r1,e=>cases e
   | [.dct],r1,e=>cases e
   | [.exc _],r1,e=>cases e
   | [.cls _],r1,e=>cases e
   | [.ms _ _],r1,e=>cases e
   | [.mf _ _],r1,e=>cases e
   | [.md _ _],r1,e=>cases e
 . cases e
def forM (i:Nat) (s:SD):List D->SD
 | []=>fun δ=>some (.nx δ)
 | d :: ds=>fun δ=>(s (δ.set i (some (sh d)))).bind fun r=>match r with
  | .nx δ'=>forM i s ds δ'
  | .ct δ'=>forM i s ds δ'
  | .bk δ'=>some (.nx δ')
  | .rt d=>some (.rt d)
  | .ex C δ'=>some (.ex C δ')
  | .mk C δ'=>some (.mk C δ')
def i7 (src:FMA) (i:Nat) (s:SD):SD:=fun δ=>(src δ).bind fun p=>forM i s p.1 p.2
theorem d5 {X:Cx} {iter:Expr} {body:List Stmt} {src:FMA} {s:SD} {x:Str} {px pos:Pos} (i:Nat) (hN:X.N.Nodup) (hp:PassesOwn (model X.prog X.w) X.A X.env X.xe) (hc:X.calm=true) (hi:PIM X (.Name x px) iter src) (hb:PMs X body s)
 (hx:X.N[i]? = some x:=by rfl) (hl:Loc X.env.scope x:=by first | exact Or.inl rfl | exact Or.inr rfl) (hf:X.fn x=true \/ X.env.scope.names.lookup x=some .local:=by first | exact .inl rfl | exact .inr rfl | assumption)
 (hs:∀ x,foldedSetIterable iter X.env x=pure x:=by intro _;rfl):PMD X (.For (.Name x px) iter body [] pos) (i7 src i s):=gr (vD hp hc hi (jL hN hx hl hf) hb hs) fun E σ H ⟨F,δ,r,⟨As,R⟩,e,k⟩=>by
 unfold i7 at e;obtain ⟨⟨ds,δ1⟩,eds,e⟩:=Za.mp e;refine ⟨F,δ,As,ds,δ1,R,eds,fun J F1 H1 As1 s1 R1 it=>?_⟩
 refine ⟨fun j m σ H=>m=ds.length - j/\j<=ds.length/\∃ F2 δ,Same F1 F2/\fN X.K F2 H σ δ/\forM i s (ds.drop j) δ=some r/\RPM X E F2 r,⟨ds.length,rfl,Nat.zero_le _,F1,δ1,Same.refl _,⟨As1,R1⟩,e,k.mono s1⟩,?_⟩
 rintro j m σ H2 ⟨rfl,hjl,F2,δ2,s2,⟨As2,R2⟩,e2,k2⟩
 by_cases hlt:j < ds.length
 . obtain ⟨go,yl⟩:=(it j H2 (s2.trans R2.fz)).1 hlt;rw [List.drop_eq_getElem_cons hlt] at e2;obtain ⟨r4,e4,e2⟩:=Za.mp (show ((s (δ2.set i (some (sh ds[j])))).bind _)=some r from e2)
   refine .inr ⟨go,fun σ' H'=>∃ F3 δ,Same F1 F3/\fN X.K F3 H' σ' δ/\forM i s (ds.drop (j+1)) δ=some r/\RPM X E F3 r,fun σ' H' z=>⟨ds.length - (j+1),by omega,rfl,hlt,z⟩,fun y H' yy=>?_⟩
   obtain ⟨eH,d,hd,rx⟩:=yl y H' yy;subst eH;have hd':d=ds[j]:=by
    rw [Zt hlt] at hd;exact (ZA hd).symm
   subst hd';have R3:=R2.setM i (RepO.of_sh R2.fz (rx.mono s2)) List.nodup_nil fun _ _ _ z=>nomatch z
   refine ⟨F2,δ2.set i (some (sh ds[j])),r4,R3,e4,?_⟩;cases r4 with
   | nx δ'=>exact fun σ' F' H'' s4 R4=>⟨F',δ',s2.trans s4,R4,e2,k2.mono s4⟩
   | ct δ'=>exact fun σ' F' H'' s4 R4=>⟨F',δ',s2.trans s4,R4,e2,k2.mono s4⟩
   | bk δ'=>cases e2;exact k2
   | rt d=>cases e2;exact k2
   | ex C δ'=>cases e2;exact k2
   | mk C δ'=>cases e2;exact k2
 . have e:j=ds.length:=by omega
   subst e;rw [List.drop_length] at e2;cases e2;exact .inl ⟨(it _ H2 (s2.trans R2.fz)).2 (ZG _),k2 σ F2 H2 (Same.refl _) ⟨As2,R2⟩⟩
def aH (n:Nat) (ds:List D):DS:=(shs ds).map some++List.replicate (n - ds.length) none
theorem j6 {K:Zu} {H:Hp} {N:List Str} {vs:List V} {ds:List D} (r:Reps K H vs ds):fN K H H (L2.start N vs) (aH N.length ds):=by
 have l2:(shs ds).length=ds.length:=by rw [dC,Zi]
 refine ⟨fun _=>[],Same.refl H,by unfold L2.start aH;simp [r.length,l2],fun i d q=>?_,fun _ _=>rfl,fun _=>List.nodup_nil,fun _ _ _ _ m=>nomatch m⟩
 unfold aH at q;unfold L2.start;have hi:i < ds.length:=by
  by_cases hi:i < ds.length
  . exact hi
  . rw [List.getElem?_append_right (by simpa [l2] using hi),List.getElem?_replicate] at q
    split at q <;> cases q
 rw [List.getElem?_append_left (by simpa [l2] using hi),ZD] at q
 obtain ⟨e,h1,h2⟩:=Zb.mp q;cases h2;rw [dC,ZD] at h1;obtain ⟨d0,h3,h4⟩:=Zb.mp h1;subst h4;obtain ⟨v,h5,h6⟩:=r.get h3;have hv:i < vs.length:=by rw [r.length];exact hi
 exact ⟨v,by rw [List.getElem?_append_left (by simpa using hv),ZD,h5];rfl,RepO.of_sh (Same.refl H) h6⟩
section
variable {P:Program} {w:World} {K:Zu} {mg:Str->Option Value} {base:Heap}
theorem bE {x qual:Str} {st:Stmt} {f:Addr} {fd:FuncData} {N ps:List Str} {k:Nat} {G:List D->Option D} (F:Fun K x qual st f fd) (S:aF N ps (aq st))
 (hbody:∀ (cdv:Value) (A:Around) (outer:List Env) (s:Shared) (H:Hp) (E:XK) (ds:List D) (d:D),Room k (A.deeper (envOfC qual (aq st) s.heap.objs.size f cdv))->G ds=some d->ds.length=ps.length ->
  ∃ t,PMs (ii CX0 P w K mg base N qual (aq st) f cdv A outer s H E).nox (bD st) t/\aJ (t (aH N.length ds))=some d/\own d=true):FnOk P w K mg base CX0 (k+1) f fd ps (bC K ps.length G):=by
 refine F.ok S (fun vs H Q E h=>h.1) (fun cdv A outer s H vs Q E hr h=>?_)
 obtain ⟨hl,ds,d,r,e,q⟩:=h;obtain ⟨t,ht,hq,ho⟩:=hbody cdv A outer s H E ds d hr e (r.length.symm.trans hl);refine ⟨_,ht,H,aH N.length ds,?_⟩;cases z:t (aH N.length ds) with
 | none=>rw [z] at hq;cases hq
 | some res =>
  rw [z] at hq;refine ⟨res,j6 r,rfl,?_⟩;cases res with
  | rt d'=>cases hq;exact fun v F' H' A s1 s2 r1 nd=>q v H' A (s1.trans s2) (r1.thaw s1 ho) nd
  | nx δ=>cases hq;exact fun σ' F' H' s1 ⟨As,R⟩=>q _ H' [] (s1.trans R.fz) (.imm rfl .non) List.nodup_nil
  | bk δ=>cases hq
  | ct δ=>cases hq
  | ex C δ=>cases hq
  | mk C δ=>cases hq
structure HasF (P:Program) (w:World) (K:Zu) (mg:Str->Option Value) (base:Heap) (k:Nat) (x:Str) (ps:List Str) (G:List D->Option D):Prop where
 ex:∃ f fd,FnOk P w K mg base CX0 k f fd ps (bC K ps.length G)/\mg x=some (.ref f)/\PySem.W.keepIn K (.ref f)=true/\Binds K fd ps []
theorem HasF.has {k:Nat} {x:Str} {ps:List Str} {G:List D->Option D} (h:HasF P w K mg base k x ps G):Has P w K mg base k x ps G:=by
 obtain ⟨f,fd,F,h1,h2,h3⟩:=h.ex;refine ⟨f,fd,F.imp fun vs H Q E ⟨l,ds,d,r,e,q⟩=>⟨l,ds,d,r,e,fun v H' A s r1 _=>q v H' s (r1.rep s)⟩,h1,h2,h3⟩
theorem CY {x qual q:Str} {st:Stmt} {f:Addr} {fd:FuncData} {N:List Str} {k:Nat} (F:Fun K x qual st f fd) (S:aF N [q] (aq st))
 (hbody:∀ (cdv:Value) (A:Around) (outer:List Env) (s:Shared) (H:Hp) (E:XK) (ns:List Int),Room k (A.deeper (envOfC qual (aq st) s.heap.objs.size f cdv))->ns.length<=63 ->
  ∃ t,PMs (ii CX0 P w K mg base N qual (aq st) f cdv A outer s H E).nox (bD st) t/\aJ (t (aH N.length [.seq (ns.map D.int)]))=some (.bl true)):FnOk P w K mg base CX0 (k+1) f fd [q] (spLaw K):=by
 refine F.ok S (fun vs H Q E h=>?_) (fun cdv A outer s H vs Q E hr h=>?_)
 . obtain ⟨a,ns,rfl,_⟩:=h;rfl
 obtain ⟨a,ns,rfl,hS,hl,q⟩:=h;obtain ⟨t,ht,hq⟩:=hbody cdv A outer s H E ns hr hl;refine ⟨_,ht,H,aH N.length [.seq (ns.map D.int)],?_⟩;cases z:t (aH N.length [.seq (ns.map D.int)]) with
 | none=>rw [z] at hq;cases hq
 | some res =>
  rw [z] at hq;refine ⟨res,j6 (.cons (.seq hS (Reps.ints ns)) .nil),rfl,?_⟩;cases res with
  | rt d' =>
   cases hq;intro v F' H' A s1 s2 r1 nd;cases r1.rep s2;exact q H'
  | nx δ=>cases hq
  | bk δ=>cases hq
  | ct δ=>cases hq
  | ex C δ=>cases hq
  | mk C δ=>cases hq
end
theorem ck {X:Cx} {e:Expr} {es:List Expr} {g:FA} {pos p:Pos} {k j:Nat} {x:Str} {ps:List Str} {G:List D->Option D} (F:HasF X.prog X.w X.K X.mg X.base k x ps G) (hr:Room j X.A) (ha:PAD X (e :: es) g) (hk:k<=j:=by decide) (hg:Gl X x:=by rfl)
 (hn:(e :: es).length=ps.length:=by rfl) (hdb:(x == ("__debug__":Str))=false:=by decide) (he:starEach (e :: es) X.env=(false,eval e X.env) :: starEach es X.env:=by rfl) (hpl:(backTo pos (starEach es X.env)).any (·.1)=false:=by rfl) :
 PV X (.Call (.Name x p) (e :: es) [] pos) (fY G g):=by
 obtain ⟨f,fd,F,hm,kp,hb⟩:=F.ex;refine imp (nC F (hr.mono hk) hg hm kp hb .nil xn ha hdb he hpl) fun σ H Q ⟨F0,δ,As,d,δ',R,q,k⟩=>?_
 unfold fY at q;obtain ⟨ds,eds,q⟩:=Za.mp q;obtain ⟨d0,ed,q⟩:=Za.mp q;split at q
 . rename_i ho;cases q;refine ⟨δ,ds,R.toS,eds,fun vs H1 s1 r1 l=>?_⟩
   show bC X.K ps.length G (vs++[]) H1 Q E0;rw [List.append_nil];refine ⟨l.trans hn,ds,d,r1,ed,fun v H' A s2 r2 nd=>?_⟩
   have nA:∀ a∈A,H a=none:=fun a m=>by
    cases z:H a with
    | none=>rfl
    | some u=>have:=(r2.dom a m).2;rw [s1 a u z] at this;cases this
   exact k v F0 H' A As (.fresh (s1.trans s2) nA nd fun i a m=>(R.dom m).1) (R.grow (s1.trans s2)) (r2.thaw (R.fz.trans s1) ho)
 . cases q
end Dl
namespace Dl
open PySem PySem.Spec PyProof.Rows L2
section
variable {K:Zu} {F H:Hp} {σ:L2.St} {δ:DS} {As:Nat->List Addr}
theorem RepO.lst_inv {ds:List D}:∀ {v:V} {d:D} {A:List Addr},RepO K F H v d A->d=.lst ds->∃ a vs A0,v=.ref a/\A=a :: A0/\H a=some (.lst vs)/\F a=none/\RepOs K F H vs ds A0
 | _,_,_,.imm i _,e=>by subst e;rw [Dl.imm] at i;cases i
 | _,_,_,.shr _,e=>nomatch e
 | _,_,_,.tup _ _,e=>nomatch e
 | _,_,_,.lst h n r,e=>by cases e;exact ⟨_,_,_,rfl,rfl,h,n,r⟩
theorem RepA.lst {i:Nat} {ds:List D} (R:RepA K F H σ δ As) (h:δ[i]? = some (some (.lst ds))):∃ a vs A0,σ[i]? = some (some (.ref a))/\As i=a :: A0/\H a=some (.lst vs)/\F a=none/\RepOs K F H vs ds A0:=by
 obtain ⟨v,h1,h2⟩:=R.val i _ h;obtain ⟨a,vs,A0,rfl,e,h3,h4,h5⟩:=h2.lst_inv rfl;exact ⟨a,vs,A0,h1,e,h3,h4,h5⟩
theorem kF {a:Addr} {o:HO} (s:Same F H) (n:F a=none):Same F (upd H a o):=fun b u e=>by
 have:b ≠ a:=fun z=>by rw [z,n] at e;cases e
 rw [aB this];exact s b u e
theorem RepA.wr {i:Nat} {a:Addr} {vs vs':List V} {ds ds':List D} {A0 A':List Addr} (R:RepA K F H σ δ As) (h:δ[i]? = some (some (.lst ds))) (hσ:σ[i]? = some (some (.ref a))) (hA:As i=a :: A0) (ha:H a=some (.lst vs)) (hF:F a=none)
 (r:RepOs K F H vs' ds' A') (na:a ∉ A') (nd:A'.Nodup) (dj:∀ j x,j ≠ i->x∈As j->x ∉ A'):fN K F (upd H a (.lst vs')) σ (δ.set i (some (.lst ds'))):=by
 have hi:i < δ.length:=(ZE.mp h).1;have nj:∀ j x,j ≠ i->x∈As j->x ≠ a:=fun j x hj m z=>R.dj j i x hj m (by rw [hA,z];exact Zk)
 refine ⟨_,R.write hi hσ (iC ha) (kF R.fz hF) (fun j x hj m=>aB (nj j x hj m)) (.lst aP hF (r.frame (iC ha) fun x m=>aB fun z=>na (z ▸ m))) (List.nodup_cons.mpr ⟨na,nd⟩) fun j x hj m z=>?_⟩
 rcases Zq.mp z with z | z
 . exact nj j x hj m z
 . exact dj j x hj m z
theorem RepA.row {i j:Nat} {ds row:List D} (R:RepA K F H σ δ As) (h:δ[i]? = some (some (.lst ds))) (hj:ds[j]? = some (.lst row)):∃ (a:Addr) (vs:List V) (b:Addr) (ws:List V) (B0 O:List Addr),σ[i]? = some (some (.ref a))/\H a=some (.lst vs)/\vs[j]? = some (.ref b)/\H b=some (.lst ws)/\RepOs K F H ws row B0/\(b :: B0).Nodup/\(∀ x,x∈b :: B0->x∈As i) /\
 (∀ x,x∈O->x∈As i)/\a∈O/\(∀ x,x∈b :: B0->x ∉ O) /\
 ∀ {ws':List V} {row':List D} {B':List Addr},RepOs K F H ws' row' B'->b ∉ B'->B'.Nodup->(∀ x,x∈B'->x ∉ O)->(∀ k x,k ≠ i->x∈As k->x ∉ B')->fN K F (upd H b (.lst ws')) σ (δ.set i (some (.lst (ds.set j (.lst row'))))):=by
 obtain ⟨a,vs,A0,s1,eA,g1,n1,ro⟩:=R.lst h;obtain ⟨v0,A1,B,A3,hv,rB,e0,pk⟩:=ro.pick hj;obtain ⟨b,ws,B0,rfl,eB,g2,n2,rr⟩:=rB.lst_inv rfl;subst eB;have nd0:=R.nd i;rw [eA,e0] at nd0;have nd1:=List.nodup_cons.mp nd0;have nd2:=List.nodup_append.mp nd1.2;have nd3:=List.nodup_append.mp nd2.2.1;have inB:∀ x,x∈b :: B0->x∈As i:=fun x m=>by rw [eA,e0];exact Zl _ (Zx _ (Zy _ m))
 have inO:∀ x,x∈a :: (A1++A3)->x∈As i:=fun x m=>by
  rw [eA,e0];rcases Zq.mp m with z | z
  . rw [z];exact Zk
  . refine Zl _ ?_;rcases Zp.mp z with z | z
    . exact Zy _ z
    . exact Zx _ (Zx _ z)
 have sep:∀ x,x∈b :: B0->x ∉ a :: (A1++A3):=fun x m z=>by
  rcases Zq.mp z with z | z
  . rw [z] at m;exact nd1.1 (Zx _ (Zy _ m))
  . rcases Zp.mp z with z | z
    . exact nd2.2.2 x z x (Zy _ m) rfl
    . exact nd3.2.2 x m x z rfl
 refine ⟨a,vs,b,ws,B0,a :: (A1++A3),s1,g1,hv,g2,rr,nd3.1,inB,inO,Zk,sep,fun {ws' row' B'} r' nb nd' sO sK=>?_⟩
 have hi:i < δ.length:=(ZE.mp h).1;have hab:a ≠ b:=fun z=>sep b Zk (by rw [z];exact Zk)
 have nO:∀ x,x∈a :: (A1++A3)->x ≠ b:=fun x m z=>sep b Zk (z ▸ m)
 have rowN:RepO K F (upd H b (.lst ws')) (.ref b) (.lst row') (b :: B'):=.lst aP n2 (r'.frame (iC g2) fun x m=>aB fun z=>nb (z ▸ m))
 have tree:=pk (iC (o:=.lst ws') g2) (fun x m=>aB (nO x (Zl _ (by
  rcases m with m | m
  . exact Zy _ m
  . exact Zx _ m)))) rowN
 have hset:vs.set j (.ref b)=vs:=by
  refine List.ext_getElem? fun k=>?_
  rw [List.getElem?_set];split
  . rename_i hk;subst hk;rw [hv,if_pos (ZE.mp hv).1]
  . rfl
 rw [hset] at tree;have nj:∀ k x,k ≠ i->x∈As k->x ≠ b:=fun k x hk m z=>R.dj k i x hk m (z ▸ inB b Zk)
 refine ⟨_,R.write hi s1 (iC g2) (kF R.fz n2) (fun k x hk m=>aB (nj k x hk m)) (.lst (by rw [aB hab];exact g1) n1 tree) ?_ fun k x hk m z=>?_⟩
 . refine List.nodup_cons.mpr ⟨fun z=>?_,List.nodup_append.mpr ⟨nd2.1,List.nodup_append.mpr ⟨List.nodup_cons.mpr ⟨nb,nd'⟩,nd3.2.1,fun x hx y hy e=>?_⟩,fun x hx y hy e=>?_⟩⟩
   . rcases Zp.mp z with z | z
     . exact nd1.1 (Zy _ z)
     . rcases Zp.mp z with z | z
       . rcases Zq.mp z with z | z
         . exact hab z
         . exact sO a z Zk
       . exact nd1.1 (Zx _ (Zx _ z))
   . subst e;rcases Zq.mp hx with z | z
     . exact nO x (Zl _ (Zx _ hy)) z
     . exact sO x z (Zl _ (Zx _ hy))
   . subst e;rcases Zp.mp hy with z | z
     . rcases Zq.mp z with z | z
       . exact nO x (Zl _ (Zy _ hx)) z
       . exact sO x z (Zl _ (Zy _ hx))
     . exact nd2.2.2 x hx x (Zx _ z) rfl
 . rcases Zq.mp z with z | z
   . exact R.dj k i x hk m (inO x (by rw [z];exact Zk))
   . rcases Zp.mp z with z | z
     . exact R.dj k i x hk m (inO x (Zl _ (Zy _ z)))
     . rcases Zp.mp z with z | z
       . rcases Zq.mp z with z | z
         . exact nj k x hk m z
         . exact sK k x hk m z
       . exact R.dj k i x hk m (inO x (Zl _ (Zx _ z)))
end
def zK (i:Nat) (fm:FM):SD:=fun δ=>match δ[i]? with
 | some (some (.lst _))=>(fm δ).bind fun p=>match p.2[i]? with
  | some (some (.lst ds))=>if ds.length<=999 then some (.nx (p.2.set i (some (.lst (ds++[p.1]))))) else none
  | _=>none
 | _=>none
def yq (i:Nat) (fk:FD) (fm:FM):SD:=fun δ=>(fm δ).bind fun p=>match p.2[i]? with
 | some (some (.lst ds))=>(fk p.2).bind fun kd=>match kd with
  | .int k=>(ixN ds.length k).bind fun j=>some (.nx (p.2.set i (some (.lst (ds.set j p.1)))))
  | _=>none
 | _=>none
section
variable {X:Cx} {e ei:Expr} {fk:FD} {fm:FM} {pos p1 p2 p3 p4:Pos}
theorem EB (i:Nat) {c:Expr} (hc:PE X c (tBM X.K "list" rJ (pN i) (nW (upV X.K fm) BW))) (hs:swapsWith c none pos.line X.env=pure false:=by rfl):PMD X (.Expr c pos) (zK i fm):=gr (nv hc hs) fun E σ H ⟨F,δ,r,⟨As,R⟩,q,k⟩=>by
 unfold zK at q;split at q
 . rename_i ds0 h0;obtain ⟨⟨d,δ'⟩,ed,q⟩:=Za.mp q;dsimp only at q;split at q
   . rename_i ds h1;split at q
     . rename_i hz;cases q;obtain ⟨a,vs0,A00,s0,_,g0,_,_⟩:=R.lst h0;refine ⟨.ref a,s0,.inl ⟨rfl,_,SqL.of g0⟩,F,δ,As,d,δ',R,ed,fun v F' H' A As' ev R' r'=>?_⟩
       obtain ⟨a1,vs,A0,s1,eA,g1,n1,ro⟩:=R'.lst h1;have ea:a1=a:=by rw [s0] at s1;cases s1;rfl
       subst ea;refine ⟨a1,vs,v,rfl,rfl,g1,Nat.lt_of_le_of_lt (by rw [ro.length];exact hz) (jF (show 999<=1000 by decide)),?_⟩
       have nd0:=R'.nd i;rw [eA] at nd0;have nd1:=List.nodup_cons.mp nd0;have ai:a1∈As' i:=by rw [eA];exact Zk
       refine k σ F' _ ev.fs (R'.wr h1 s1 eA g1 n1 (ro.snoc r') (fun z=>?_) (List.nodup_append.mpr ⟨nd1.2,ev.nd,fun x hx y hy e=>?_⟩) fun j x hj m z=>?_)
       . rcases Zp.mp z with z | z
         . exact nd1.1 z
         . exact ev.dj i a1 ai z
       . subst e;exact ev.dj i x (by rw [eA];exact Zl _ hx) hy
       . rcases Zp.mp z with z | z
         . exact R'.dj j i x hj m (by rw [eA];exact Zl _ z)
         . exact ev.dj j x m z
     . cases q
   . cases q
 . cases q
theorem EA (i:Nat) {x:Str} (he:PV X e fm) (hk:PD X ei fk) (hN:X.N[i]? = some x:=by rfl) (hv:Vis X.env.scope x:=by first | exact Or.inl rfl | exact Or.inr (Or.inl rfl) | exact Or.inr (Or.inr rfl)) (hd:(x == ("__debug__":Str))=false:=by decide) (hcd:(x == ("__classdict__":Str))=false:=by decide)
 (hs:swapsWithSole [.Subscript (.Name x p1) ei p2] e pos.line X.env=pure false:=by rfl) (hw:swappedStores [.Subscript (.Name x p1) ei p2] e X.env=pure none:=by rfl)
 (h1:(assignEach [.Subscript (.Name x p1) ei p2] X.env).map (·.2)=[assign (.Subscript (.Name x p1) ei p2) X.env]:=by rfl)
 (hA:∀ v,assign (.Subscript (.Name x p1) ei p2) X.env v=(do
  let ov <- holding [v] (eval (.Name x p1) X.env)
  let iv <- holding [v,ov] (eval ei X.env)
  standAt p2
  holding [v,ov,iv] (setItem ov iv v)
  release [v,ov,iv] []):=by intro _;rfl) :
 PMD X (.Assign [.Subscript (.Name x p1) ei p2] e pos) (yq i fk fm) :=
 gr (rP he (j7 (lI hN hv hd hcd) hk gC hA) hs hw h1) fun E σ H ⟨F,δ,r,⟨As,R⟩,q,k⟩=>by
 unfold yq at q;obtain ⟨⟨d,δ'⟩,ed,q⟩:=Za.mp q;dsimp only at q;split at q
 . rename_i ds h1;obtain ⟨kd,ek,q⟩:=Za.mp q;split at q
   . rename_i kk;obtain ⟨j,hj,q⟩:=Za.mp q;cases q;refine ⟨F,δ,As,d,δ',R,ed,fun v F' H' A As' ev R' r'=>?_⟩
     obtain ⟨a,vs,A0,s1,eA,g1,n1,ro⟩:=R'.lst h1;refine ⟨.ref a,s1,δ',.int kk,R'.toS,ek,fun iv H2 s2 ri=>?_⟩
     cases ri;have R2:=R'.grow s2;have r2:RepO X.K F' H2 v d A:=r'.frame (bO s2) fun x m=>by
      obtain ⟨⟨ws,e⟩,_⟩:=r'.dom x m;rw [e];exact s2 x _ e
     obtain ⟨a2,vs2,A2,s12,eA2,g2,n2,ro2⟩:=R2.lst h1;have ea:a2=a:=by rw [s1] at s12;cases s12;rfl
     subst ea;refine ⟨a2,vs2,kk,j,rfl,rfl,g2,by rw [ro2.length];exact hj,?_⟩
     have jl:j < ds.length:=(k7 hj).2.1;obtain ⟨v0,A1,B,A3,_,rB,eA0,pk⟩:=ro2.pick (i:=j) (d:=ds[j]) (Zt jl);have rn:=pk (H':=H2) (fun _ _ e _=>e) (fun _ _=>rfl) r2
     have nd0:=R2.nd i;rw [eA2,eA0] at nd0;have nd1:=List.nodup_cons.mp nd0;have nd2:=List.nodup_append.mp nd1.2;have nd3:=List.nodup_append.mp nd2.2.1;have inI:∀ y,y∈A1 \/ y∈A3->y∈As' i:=fun y m=>by
      rw [eA2,eA0];refine Zl _ ?_;rcases m with m | m
      . exact Zy _ m
      . exact Zx _ (Zx _ m)
     have ai:a2∈As' i:=by rw [eA2];exact Zk
     refine k σ F' _ ev.fs (R2.wr h1 s12 eA2 g2 n2 rn (fun z=>?_) ?_ fun jj y hj m z=>?_)
     . rcases Zp.mp z with z | z
       . exact nd1.1 (Zy _ z)
       . rcases Zp.mp z with z | z
         . exact ev.dj i a2 ai z
         . exact nd1.1 (Zx _ (Zx _ z))
     . refine List.nodup_append.mpr ⟨nd2.1,List.nodup_append.mpr ⟨ev.nd,nd3.2.1,fun y hy w hw e=>?_⟩,fun y hy w hw e=>?_⟩
       . subst e;exact ev.dj i y (inI y (.inr hw)) hy
       . subst e;rcases Zp.mp hw with z | z
         . exact ev.dj i y (inI y (.inl hy)) z
         . exact nd2.2.2 y hy y (Zx _ z) rfl
     . rcases Zp.mp z with z | z
       . exact R2.dj jj i y hj m (inI y (.inl z))
       . rcases Zp.mp z with z | z
         . exact ev.dj jj y m z
         . exact R2.dj jj i y hj m (inI y (.inr z))
   . cases q
 . cases q
def i6 (i:Nat) (fk fl:FD) (fm:FM):SD:=fun δ=>(fm δ).bind fun p=>if imm p.1 then match p.2[i]? with
 | some (some (.lst ds))=>(fk p.2).bind fun kd=>match kd with
  | .int k=>(ixN ds.length k).bind fun j=>match ds[j]? with
   | some (.lst row)=>(fl p.2).bind fun ld=>match ld with
    | .int l=>(ixN row.length l).bind fun m=>some (.nx (p.2.set i (some (.lst (ds.set j (.lst (row.set m p.1)))))))
    | _=>none
   | _=>none
  | _=>none
 | _=>none else none
theorem ny (i:Nat) {tg:Expr} {fl:FD} (he:PV X e fm) (hg:PG X tg (C9 (tOp (zR X.K) (pN i) (up X.K fk)) (up X.K fl) wZ)) (hs:swapsWithSole [tg] e pos.line X.env=pure false:=by rfl) (hw:swappedStores [tg] e X.env=pure none:=by rfl)
 (h1:(assignEach [tg] X.env).map (·.2)=[assign tg X.env]:=by rfl):PMD X (.Assign [tg] e pos) (i6 i fk fl fm):=gr (rP he hg hs hw h1) fun E σ H ⟨F,δ,r,⟨As,R⟩,q,k⟩=>by
 unfold i6 at q;obtain ⟨⟨d,δ'⟩,ed,q⟩:=Za.mp q;dsimp only at q;split at q
 . rename_i hi;split at q
   . rename_i ds h1;obtain ⟨kd,ek,q⟩:=Za.mp q;split at q
     . rename_i kk;obtain ⟨j,hj,q⟩:=Za.mp q;split at q
       . rename_i row hrow;obtain ⟨ld,el,q⟩:=Za.mp q;split at q
         . rename_i ll;obtain ⟨m,hm,q⟩:=Za.mp q;cases q;refine ⟨F,δ,As,d,δ',R,ed,fun v F' H' A As' ev R' r'=>?_⟩
           have eA:A=[]:=r'.none_of hi;subst eA;obtain ⟨a,vs,A0,s0,_,g0,_,rl⟩:=R'.lst h1;refine ⟨.ref a,s0,δ',.int kk,R'.toS,ek,fun iv H1 s1 ri=>?_⟩
           cases ri;have R1:=R'.grow s1;obtain ⟨a1,vs1,b,ws,B0,O,t0,u0,hv1,ub,rr1,ndB,inB,inO,aO,sep,_⟩:=R1.row h1 hrow;have ea:a1=a:=by rw [s0] at t0;cases t0;rfl
           subst ea;have es1:vs1=vs:=by
            have:=s1 _ _ g0;rw [u0] at this;cases this;rfl
           subst es1;refine ⟨a1,vs1,kk,.ref b,rfl,rfl,SqL.of u0,by unfold L2.atI;rw [rl.length,hj];exact hv1,?_⟩
           refine ⟨δ',.int ll,R1.toS,el,fun iv2 H2 s2 ri2=>?_⟩
           cases ri2;have R2:=R1.grow s2;obtain ⟨a2,vs2,b2,ws2,B2,O2,t2,u2,hv2,ub2,rr2,ndB2,inB2,inO2,aO2,sep2,fin⟩:=R2.row h1 hrow;have ea:a2=a1:=by rw [s0] at t2;cases t2;rfl
           subst ea;have es2:vs2=vs1:=by
            have:=s2 _ _ u0;rw [u2] at this;cases this;rfl
           subst es2;have eb:b2=b:=by rw [hv1] at hv2;cases hv2;rfl
           subst eb;refine ⟨b2,ws2,ll,m,rfl,rfl,ub2,by rw [rr2.length];exact hm,?_⟩
           have ml:m < row.length:=(k7 hm).2.1;obtain ⟨v0,C1,C,C3,_,_,eC,pk⟩:=rr2.pick (i:=m) (d:=row[m]) (Zt ml);have rv:RepO X.K F' H2 v d []:=r'.frame (bO (s1.trans s2)) fun x mm=>nomatch mm
           have rn:=pk (H':=H2) (fun _ _ e _=>e) (fun _ _=>rfl) rv
           have nB:=List.nodup_cons.mp ndB2;have nB2:=nB.2;rw [eC] at nB2;have n1:=List.nodup_append.mp nB2;have n2:=List.nodup_append.mp n1.2.1;have inC:∀ x,x∈C1++([]++C3)->x∈B2:=fun x mm=>by
            rw [eC];rcases Zp.mp mm with z | z
            . exact Zy _ z
            . exact Zx _ (Zx _ (by simpa using z))
           refine k σ F' _ ev.fs (fin rn (fun z=>nB.1 (inC _ z)) (List.nodup_append.mpr ⟨n1.1,by simpa using n2.2.1,fun x hx y hy e=>?_⟩) (fun x mm=>sep2 x (Zl _ (inC x mm))) fun kx x hk mm z=>R2.dj kx i x hk mm (inB2 x (Zl _ (inC x z))))
           subst e;exact n1.2.2 x hx x (Zx _ (by simpa using hy)) rfl
         . cases q
       . cases q
     . cases q
   . cases q
 . cases q
end
end Dl
namespace Dl
open PySem PySem.Spec PyProof.Rows L2
def shO (δ:DS):DS:=δ.map (Option.map sh)
def ownOf (f:FM) (δ:DS):Option D:=(f δ).bind fun p=>if own p.1 then some p.1 else none
theorem RepS.toA {K:Zu} {H:Hp} {σ:L2.St} {δ:DS} (R:RepS K H σ δ):RepA K H H σ (shO δ) (fun _=>[]):=by
 refine ⟨Same.refl H,by unfold shO;rw [Zi];exact R.len,fun i d q=>?_,fun _ _=>rfl,fun _=>List.nodup_nil,fun _ _ _ _ m=>nomatch m⟩
 unfold shO at q;rw [ZD] at q;obtain ⟨o,h1,h2⟩:=Zb.mp q;cases o with
 | none=>cases h2
 | some d0 =>
  cases h2;obtain ⟨v,h3,h4⟩:=R.val i d0 h1;exact ⟨v,h3,RepO.of_sh (Same.refl H) h4⟩
theorem DP {K:Zu} {H₂ H4:Hp} {σ:L2.St} {δ:DS} {f:FM} {e:D} (h:ownOf f (shO δ)=some e) (R:RepS K H4 σ δ) (s:Same H₂ H4):upV K f σ H4 fun v H5=>Same H4 H5/\∃ A,RepO K H₂ H5 v e A/\A.Nodup/\∀ a∈A,H4 a=none:=by
 unfold ownOf at h;obtain ⟨⟨d,δ'⟩,e1,h⟩:=Za.mp h;split at h
 . rename_i ho;cases h;refine ⟨H4,shO δ,fun _=>[],d,δ',R.toA,e1,fun v F' H' A As' ev R' r'=>⟨ev.hs,A,(r'.thaw ev.fs ho).thaw s ho,ev.nd,fun a m=>?_⟩⟩
   rcases ev.fA a m with ⟨j,z⟩ | z
   . cases z
   . exact z
 . cases h
theorem cn {H H':Hp} {a:Addr} (s:Same H H') (h:H' a=none):H a=none:=by
 cases q:H a with
 | none=>rfl
 | some u=>rw [s a u q] at h;cases h
theorem yc {K:Zu} {F H H':Hp} {vs:List V} {ds:List D} {Acc A:List Addr} {v:V} {e:D} (r:RepOs K F H vs ds Acc) (nd:Acc.Nodup) (s:Same H H') (r':RepO K F H' v e A) (nd':A.Nodup) (fr:∀ a∈A,H a=none):∃ Acc',RepOs K F H' (vs++[v]) (ds++[e]) Acc'/\Acc'.Nodup:=by
 refine ⟨Acc++A,(r.frame (bO s) fun a m=>?_).snoc r',List.nodup_append.mpr ⟨nd,nd',fun x hx y hy q=>?_⟩⟩
 . obtain ⟨⟨ws,e⟩,_⟩:=r.dom a m;rw [e];exact s a _ e
 . subst q;obtain ⟨⟨ws,e⟩,_⟩:=r.dom x hx;rw [fr x hy] at e;cases e
section
variable {X:Cx} {pins:List (Addr×Obj)} {σ:L2.St} {H₂:Hp} {s₂:Shared} {scope:Scope} {cl:List (Str×Addr)} {x:Str} {N:List Str} {js:List Nat} {C:Addr} {fp:List Addr}
theorem mK {elt iter:Expr} {px pos:Pos} {it:Addr} {tn:Nat->Heap->Prop} {J:It} {ds xs:List D} {δ:DS} {felt:FM} {RR:Value->Addr->Result->Shared->Prop} {E:Value->Shared->Prop} (I:L2.Inv X pins σ H₂ s₂) (hcm:X.calm=true) (O:CompOk X scope cl x N js)
 (T:wz X.prog X.w X.K (.Name x px) J fp it tn) (st:tn 0 s₂.heap) (hf:∀ b∈fp,jS X pins H₂ b) (itd:ItD X.K J H₂ ds) (R:RepS X.K H₂ σ δ) (he:∀ C s₂ H₂ fp pn,PV (cA X scope cl x N C s₂ H₂ fp pn) elt felt)
 (hm:mS (fun d=>ownOf felt (shO (some d :: bv js δ))) ds=some xs) (hz:xs.length<=1000)
 (hRR:∀ (D C:Addr) (s':Shared) (Hend:Hp) (vs:List V),s₂.heap.objs.size<=C->L2.Inv X pins σ Hend s'->Same H₂ Hend->Hend D=some (.lst vs)->(∃ Acc,RepOs X.K H₂ Hend vs xs Acc/\Acc.Nodup/\D ∉ Acc/\H₂ D=none)->(∃ m,s'.heap.Ns C m)->Hend C=none->RR (.ref D) C (.ok .next) s') :
 wpAny (model X.prog X.w) X.A (newList []) (fun acc s₃=>wpAny (model X.prog X.w) X.A (newFunctionEnv scope X.env.globals cl [] X.env.qual none .none (some X.env)) (fun cenv s₄ =>
  codeAny (model X.prog X.w) X.A (.compStart (.ListComp elt [⟨.Name x px,iter,[],0⟩] scope pos) 0 (.ref it) acc { cenv with scope:=relabel scope X.env }) (RR acc cenv.locals) s₄) E s₃) E s₂:=by
 obtain ⟨ml,mg'⟩:=oK hm;have objs:=T.obj 0 s₂.heap st;have objs':∀ b∈fp,∃ o,s₂.heap.get? b=some o:=fun b hb=>let ⟨o,h,_⟩:=objs b hb;⟨o,h⟩
 refine wpAny_newObj_type (wpAny_newFunctionEnv O.nocell (by intro y hy;simp at hy) (fun h₁ hns₁ hsb₁=>?_) O.kind)
 dsimp only at hns₁ hsb₁ ⊢;generalize hP:s₂.heap.push { cls:=.type "list",dict:=none,data:=.seq ([]:List Value).toArray }=P2 at hns₁ hsb₁ ⊢;have hC:P2.objs.size=s₂.heap.objs.size+1:=by rw [<- hP,Heap.size_push]
 generalize hCC:P2.objs.size=C at *
 have hCle:s₂.heap.objs.size<=C:=by omega
 have hDle:s₂.heap.objs.size<=s₂.heap.objs.size:=by omega
 have hDC:s₂.heap.objs.size ≠ C:=by omega
 have old:∀ b o,s₂.heap.get? b=some o->h₁.get? b=some o:=fun b o e=>by
  refine hsb₁.extBut b o (ZB (Zw (Heap.lt_size e) hCle)) (Heap.get?_push_of_some _ ?_);rw [<- hP];exact Heap.get?_push_of_some _ e
 have hacc:h₁.get? s₂.heap.objs.size=some { cls:=.type "list",data:=.seq ([]:List Value).toArray }:=by
  refine hsb₁.extBut s₂.heap.objs.size _ hDC (Heap.get?_push_of_some _ ?_);rw [<- hP];exact Heap.get?_push_size _ rfl
 have I0:=fun tk=>pq (C:=C) (tk:=tk) I hcm O hCle hf objs' old hns₁ I.len
 have dstk:s₂.heap.objs.size ∉ frs X.stack:=jq I hDle;have fne:∀ b∈fp,b ≠ s₂.heap.objs.size:=fun b hb e=>by
  obtain ⟨o,h⟩:=objs' b hb;exact absurd (Heap.lt_size h) (by rw [e];exact ZC _)
 have cne:∀ y c,cl.lookup y=some c->c ≠ s₂.heap.objs.size:=fun y c e z=>by
  obtain ⟨v,o,h1,_⟩:=I.cell y c (O.cls y c e);exact absurd (Heap.lt_size h1) (by rw [z];exact ZC _)
 have pne:∀ p∈X.pn++pins,p.1 ≠ s₂.heap.objs.size:=fun p hp e=>by
  exact absurd (Heap.lt_size (I.pin p hp).1) (by rw [e];exact ZC _)
 have stat:∀ {H':Hp} {pl:List (Addr×Obj)},(∀ b∈fp,H' b=none)->(∀ p∈pl,∀ b∈fp,p.1 ≠ b)->∀ b∈fp,jS (cA X scope cl x N C s₂ H₂ fp (X.pn++pins)) pl H' b:=fun {H' pl} hn hpl b hb=>by
  obtain ⟨o,h⟩:=objs' b hb;refine ⟨hn b hb,ZB (Zw (Heap.lt_size h) hCle),fun z=>?_,.inl hb,fun y c e=>(hf b hb).2.2.2.2.1 y c (O.cls y c e),fun p hp=>?_⟩
  . rcases Zq.mp (I.stkSub b z) with e | e
    . exact (hf b hb).2.1 e
    . exact (hf b hb).2.2.1 e
  . rcases Zp.mp hp with q | q
    . exact (hf b hb).2.2.2.2.2 p q
    . exact hpl p q b hb
 have loop:∀ s₃:Shared,s₃={ s₂ with heap:=h₁,toks:=s₂.toks+([]:List (Str×Value)).length } ->
  codeAny (model X.prog X.w) X.A (.compLoop (.ListComp elt [⟨.Name x px,iter,[],0⟩] scope pos) 0 (.ref it) (.ref s₂.heap.objs.size) (compEnvC scope cl C X.env)) (RR (.ref s₂.heap.objs.size) C) s₃:=by
  rintro s₃ rfl
  refine lA (fun n s=>∃ (i:Nat) (σ':L2.St) (H':Hp) (vs:List V) (o:Option D),n=ds.length - i/\i<=ds.length/\L2.Inv (cA X scope cl x N C s₂ H₂ fp (X.pn++pins)) [] σ' H' s/\Same H₂ H'/\RepS X.K H' σ' (o :: bv js δ)/\tn i s.heap/\(∀ b∈fp,H' b=none) /\
   (∃ (its:List Value) (k:Nat),Vals vs its/\s.heap.get? s₂.heap.objs.size=some { cls:=.type "list",data:=.seq its.toArray k })/\H' s₂.heap.objs.size=none/\(∃ Acc,RepOs X.K H₂ H' vs (xs.take i) Acc/\Acc.Nodup)/\vs.length=i) ?_ ds.length
   ⟨0,_,H₂,[],none,rfl,Nat.zero_le _,I0 _,Same.refl _,lE R js,T.keep 0 _ _ st (fun b hb o e=>old b o e),fun b hb=>(hf b hb).1,⟨[],0,.nil,hacc⟩,I.hok.fresh hDle,⟨[],.nil,List.nodup_nil⟩,rfl⟩
  rintro n s ⟨i,σ',H',vs,o,rfl,hi,I',sm,R',st',fr',⟨its,k,rv,hD⟩,fD,⟨Acc,rr,nda⟩,hl⟩
  by_cases hlt:i < ds.length
  . -- one more
    obtain ⟨go,yl⟩:=(itd i H' sm).1 hlt;have hd0:ds[i]? = some ds[i]:=by simp [hlt]
    obtain ⟨e,ge,xe⟩:=mg' i _ hd0;have I1:L2.Inv (cA X scope cl x N C s₂ H₂ fp (X.pn++pins)) [(s₂.heap.objs.size,{ cls:=.type "list",data:=.seq its.toArray k })] σ' H' s:=I'.pins_of fun p hp=>by
     have:p=(s₂.heap.objs.size,{ cls:=.type "list",data:=.seq its.toArray k }):=by simpa using hp
     subst this;exact ⟨hD,fD,hDC,dstk,fun v z=>by cases z⟩
    refine thn (T.item (cA X scope cl x N C s₂ H₂ fp (X.pn++pins)) rfl rfl rfl rfl i _ s σ' H' (fun _ _=>False) I1 (stat fr' fun p hp b hb=>by
     have:p=(s₂.heap.objs.size,{ cls:=.type "list",data:=.seq its.toArray k }):=by simpa using hp
     subst this;exact (fne b hb).symm) st' go) fun r s1 ⟨u,hr,h4⟩=>?_
    subst hr;refine thn h4 fun _ s2 ⟨y,H'',I2,ru,yy,st2,fr2⟩=>?_
    obtain ⟨s3,d,hd,rd⟩:=yl y H'' yy;have hd':d=ds[i]:=by rw [hd0] at hd;exact (ZA hd).symm
    subst hd';have I3:=I2.pinned (stat fr2 fun p hp b hb=>by
     have:p=(s₂.heap.objs.size,{ cls:=.type "list",data:=.seq its.toArray k }):=by simpa using hp
     subst this;exact (fne b hb).symm) (T.obj _ _ st2)
    refine thn (jL (X:=cA X scope cl x N C s₂ H₂ fp (X.pn++pins)) (i:=0) O.nd O.h0 (.inl (lookup_relabel_local O.hx)) (.inl (by simp)) _ s2 σ' H'' y u (fun σ4 H4=>σ4=σ'.set 0 (some y)/\H4=H'') I3 ru ⟨rfl,rfl⟩) fun _ s4 ⟨σ4,H4,I4,e1,e2⟩=>?_
    subst e1 e2;have R4:RepS X.K H4 (σ'.set 0 (some y)) (some ds[i] :: bv js δ):=(R'.mono s3).set 0 rd;refine thn (he C s₂ H₂ fp (X.pn++pins) _ s4 (σ'.set 0 (some y)) H4 (fun v H5=>Same H4 H5/\∃ A,RepO X.K H₂ H5 v e A/\A.Nodup/\∀ a∈A,H4 a=none) I4 (DP ge R4 (sm.trans s3))) fun wv s5 ⟨v,H5,I5,rw5,s45,A5,r5,nd5,fr5⟩=>?_
    have hD5:s5.heap.get? s₂.heap.objs.size=some { cls:=.type "list",data:=.seq its.toArray k }:=(I5.pin (s₂.heap.objs.size,{ cls:=.type "list",data:=.seq its.toArray k }) (by simp)).1
    have fD5:H5 s₂.heap.objs.size=none:=(I5.pin (s₂.heap.objs.size,{ cls:=.type "list",data:=.seq its.toArray k }) (by simp)).2.1
    have pf:∀ b∈fp,∀ ob,s2.heap.get? b=some ob->s5.heap.get? b=some ob/\H5 b=none:=fun b hb ob hob=>by
     have:=I5.pin (b,ob) (Zx _ (Zx _ (fq hb hob)));exact ⟨this.1,this.2.1⟩
    have lz:its.length<=1000:=by
     have:=rv.length;omega
    refine call_meets F.slot_list_append ⟨_,hD5,rfl⟩ F.entry_list_append (F.args_list_append_2 _ _) (PySem.list_append s₂.heap.objs.size its.toArray k wv (by rw [Zz];exact db lz)) ⟨hD5,?_⟩
    have q:=PySem.IsL.update hD5 (fun a=>a.push wv)
    have I6:L2.Inv (cA X scope cl x N C s₂ H₂ fp (X.pn++pins)) [] (σ'.set 0 (some y)) H5 { s5 with heap:=s5.heap.update s₂.heap.objs.size (Obj.mapSeq fun a=>a.push wv),toks:=s5.toks } :=
     (I5.pins_of (pins':=[]) fun p hp=>by simp at hp).turned (it:=s₂.heap.objs.size) (t':=s5.toks) (fun b ob hb hu=>(Heap.get?_update_other s5.heap _ (Ne.symm hb)).trans hu) fD5 hDC (.inr hDle) cne (fun p hp=>by
      rcases Zp.mp hp with z | z
      . exact pne p z
      . simp at z)
    refine ⟨ds.length - (i+1),by omega,i+1,σ'.set 0 (some y),H5,vs++[v],some ds[i],rfl,hlt,I6,(sm.trans s3).trans s45,R4.mono s45,?_,?_,?_,fD5,?_,by simp [hl]⟩
    . refine T.keep _ _ _ st2 fun b hb ob hob=>?_
      exact (Heap.get?_update_other s5.heap _ (Ne.symm (fne b hb))).trans (pf b hb ob hob).1
    . intro b hb;obtain ⟨ob,hob,_⟩:=T.obj _ _ st2 b hb;exact (pf b hb ob hob).2
    . have hf7:its.toArray.push wv=(its++[wv]).toArray:=by simp
      rw [hf7] at q;exact ⟨its++[wv],_,rv.append (.cons rw5 .nil),q⟩
    . have e8:xs.take (i+1)=xs.take i++[e]:=by
       rw [List.take_add_one,xe];rfl
      rw [e8];exact yc rr nda (s3.trans s45) r5 nd5 fun a m=>(cn s3 (fr5 a m))
  . -- the end
    have hie:i=ds.length:=by omega
    refine thn (T.done (cA X scope cl x N C s₂ H₂ fp (X.pn++pins)) rfl rfl rfl rfl i [(s₂.heap.objs.size,{ cls:=.type "list",data:=.seq its.toArray k })] s σ' H' (fun _ _=>False) (I'.pins_of fun p hp=>by
     have:p=(s₂.heap.objs.size,{ cls:=.type "list",data:=.seq its.toArray k }):=by simpa using hp
     subst this;exact ⟨hD,fD,hDC,dstk,fun v z=>by cases z⟩) (stat fr' fun p hp b hb=>by
     have:p=(s₂.heap.objs.size,{ cls:=.type "list",data:=.seq its.toArray k }):=by simpa using hp
     subst this;exact (fne b hb).symm) st' ((itd i H' sm).2 (by omega))) fun r s1 ⟨hr,I8⟩=>?_
    subst hr;have hD8:s1.heap.get? s₂.heap.objs.size=some { cls:=.type "list",data:=.seq its.toArray k }:=(I8.pin (s₂.heap.objs.size,{ cls:=.type "list",data:=.seq its.toArray k }) (by simp)).1
    have hxs:xs.take i=xs:=List.take_of_length_le (by omega)
    rw [hxs] at rr;have sn:=bQ fD (.lst vs);have dn:∀ b,∀ u,H' b=some u->b ≠ s₂.heap.objs.size:=fun b u z=>bw z fD
    have un:Un (frs X.stack) fp H₂ (upd H' s₂.heap.objs.size (.lst vs)) s₂.heap s1.heap:=by
     have b0:=I8.base;refine ⟨fun b ob e n1 n2 n3=>b0.keep b ob e n1 n2 n3,fun b ob e n1 n2 n3=>b0.slot b ob e n1 n2 n3,fun b ob e n1 n3=>?_,fun b ob e n3=>b0.there b ob e n3,fun b zs e=>?_,fun b ob u e=>?_,fun b ps e=>?_⟩
     . rw [aB (ZB (Heap.lt_size e))];exact b0.free b ob e n1 n3
     . have z:=b0.tups b zs e;rw [aB (dn _ _ z)];exact z
     . have z:=b0.frzs b ob u e;rw [aB (dn _ _ z)];exact z
     . obtain ⟨more,z⟩:=b0.tbls b ps e;exact ⟨more,by rw [aB (dn _ _ z)];exact z⟩
    have hok:HOk X.prog X.w (upd H' s₂.heap.objs.size (.lst vs)) s1.heap:=fun b u z=>by
     by_cases hb:b=s₂.heap.objs.size
     . rw [hb] at z ⊢;rw [aP] at z;cases z;exact ⟨db (by omega),its,k,rv,hD8⟩
     . rw [aB hb] at z;exact (I8.hok b u z).stay (fun _ _ _ q=>q) (fun c q=>by rw [aB (dn _ _ q)];exact q) fun c ys q=>by rw [aB (dn _ _ q)];exact q
    have IX:L2.Inv X pins σ (upd H' s₂.heap.objs.size (.lst vs)) s1:=I.call' I8.os un hok I8.bare fun b hb=>⟨(hf b hb).2.2.2.1,(hf b hb).2.1,(hf b hb).2.2.2.2.1,(hf b hb).2.2.2.2.2⟩
    obtain ⟨m8,hn8,_⟩:=I8.loc;refine hRR s₂.heap.objs.size C s1 _ vs hCle IX (sm.trans sn) aP ⟨Acc,rr.frame (bO sn) (fun a m=>by
     obtain ⟨⟨ws,e⟩,_⟩:=rr.dom a m;rw [e];exact sn a _ e),nda,fun m=>(by
     obtain ⟨⟨ws,e⟩,_⟩:=rr.dom _ m;rw [fD] at e;cases e),I.hok.fresh hDle⟩ ⟨m8,hn8⟩ ?_
    rw [aB (Ne.symm hDC)];exact I8.free
 exact codeAny_compStart_list (loop _ rfl) (T.self X.A 0 _ _ _ (T.keep 0 _ _ st (fun b hb o e=>old b o e)) (loop _ rfl))
def dP (src:FA) (js:List Nat) (felt:FM):FM:=fun δ=>(src δ).bind fun ds=>(mS (fun d=>ownOf felt (shO (some d :: bv js δ))) ds).bind fun xs=>if xs.length<=1000 then some (.lst xs,δ) else none
theorem lP {f:FM} {g:D->DS}:∀ {ds xs:List D},mS (fun d=>ownOf f (g d)) ds=some xs->gn xs=true
 | [],xs,h=>by cases h;rfl
 | d :: ds,xs,h=>by
  obtain ⟨x,ex,h⟩:=Za.mp (show ((ownOf f (g d)).bind _)=some xs from h)
  obtain ⟨ys,ey,h⟩:=Za.mp h;cases h;rw [gn,lP ey,Bool.and_true];unfold ownOf at ex;obtain ⟨p,_,ex⟩:=Za.mp ex;split at ex
  . rename_i ho;cases ex;exact ho
  . cases ex
theorem xV {K:Zu} {F H H1 Hend:Hp} {σ:L2.St} {δ:DS} {As:Nat->List Addr} {xs:List D} {vs:List V} {D:Addr} (RA:RepA K F H σ δ As) (ho:gn xs=true) (s:Same H Hend) (s1:Same H H1) (hD:Hend D=some (.lst vs)) (h:∃ Acc,RepOs K H1 Hend vs xs Acc/\Acc.Nodup/\D ∉ Acc/\H1 D=none) :
 ∃ A,Ev F H As F Hend As A/\RepA K F Hend σ δ As/\RepO K F Hend (.ref D) (.lst xs) A:=by
 obtain ⟨Acc,r,nd,nD,hn⟩:=h;refine ⟨D :: Acc,.fresh s (fun a m=>?_) (List.nodup_cons.mpr ⟨nD,nd⟩) (fun i a m=>(RA.dom m).1),RA.grow s,.lst hD ?_ (r.thaw (RA.fz.trans s1) ho)⟩
 . rcases Zq.mp m with z | z
   . rw [z];exact cn s1 hn
   . exact cn s1 (r.dom a z).2
 . exact cn (RA.fz.trans s1) hn
theorem Ds {K:Zu} {F H H1 Hend:Hp} {σ:L2.St} {δ:DS} {As:Nat->List Addr} {xs:List D} {vs:List V} {D:Addr} {Q:VK} (RA:RepA K F H σ δ As) (k:∀ v F' H' A As',Ev F H As F' H' As' A->RepA K F' H' σ δ As'->RepO K F' H' v (.lst xs) A->Q v H') (ho:gn xs=true) (s:Same H Hend) (s1:Same H H1) (hD:Hend D=some (.lst vs)) (h:∃ Acc,RepOs K H1 Hend vs xs Acc/\Acc.Nodup/\D ∉ Acc/\H1 D=none):Q (.ref D) Hend:=by
 obtain ⟨A,ev,R',r'⟩:=xV RA ho s s1 hD h;exact k _ F Hend A As ev R' r'
theorem uV {K:Zu} {F H H1 Hend:Hp} {σ:L2.St} {δ:DS} {As:Nat->List Addr} {xs:List D} {vs:List V} {D:Addr} {Q:L2.St->Hp->Prop} (i:Nat) (RA:RepA K F H σ δ As) (k:∀ σ' F' H',Same F F'->fN K F' H' σ' (δ.set i (some (.lst xs)))->Q σ' H') (ho:gn xs=true) (s:Same H Hend) (s1:Same H H1) (hD:Hend D=some (.lst vs)) (h:∃ Acc,RepOs K H1 Hend vs xs Acc/\Acc.Nodup/\D ∉ Acc/\H1 D=none):Q (σ.set i (some (.ref D))) Hend:=by
 obtain ⟨A,ev,R',r'⟩:=xV RA ho s s1 hD h;exact k _ F Hend (Same.refl F) (R'.setM i r' ev.nd ev.dj)
theorem kN {elt iter:Expr} {px pos:Pos} {src:FA} {felt:FM} (hi:PID X (.Name x px) iter src) {N:List Str} {js:List Nat} (he:∀ C s₂ H₂ fp pn,PV (cA X scope cl x N C s₂ H₂ fp pn) elt felt) (O:CompOk X scope cl x N js) (hcm:X.calm=true:=by rfl)
 (hs:∀ v,foldedSetIterable iter X.env v=pure v:=by intro _;rfl):PV X (.ListComp elt [⟨.Name x px,iter,[],0⟩] scope pos) (dP src js felt):=by
 intro pins s σ H Q I ⟨F,δ,As,d,δ',RA,q,k⟩;have R:=RA.toS;unfold dP at q;obtain ⟨ds,eds,q⟩:=Za.mp q;obtain ⟨xs,exs,q⟩:=Za.mp q
 by_cases hz:xs.length<=1000
 . rw [if_pos hz] at q;cases q;rw [eval_ListComp];refine wpAny_comprehension_free (use:=none) rfl hs O.clos O.kind O.names ?_;refine wpAny_mono (hi pins s σ H (fun J H1=>Same H H1/\ItD X.K J H1 ds) I ⟨δ,ds,R,eds,fun J H1 s1 itd=>⟨s1,itd⟩⟩) (fun v s1 h1=>wpAny_mono h1 (fun itv s2 h2=>?_) fun _ _ z=>z) fun _ _ z=>z
   obtain ⟨it,fp,tn,J,H2,rfl,I2,T,st,hf,s1,itd⟩:=h2;refine mK (RR:=fun acc C=>compPost (model X.prog X.w) X.A X.xe none (EP X pins σ Q) acc C) I2 hcm O T st hf itd (R.mono s1) he exs hz ?_
   intro D C s' Hend vs hC IX sm hD rr ⟨m,hn⟩ fC;exact ⟨m,hn,fun h' hs'=>⟨.ref D,Hend,qG IX I2 hC fC hs',rfl,Ds RA k (lP exs) (s1.trans sm) s1 hD rr⟩⟩
 . rw [if_neg hz] at q;cases q
theorem nz (i:Nat) {y:Str} {elt iter:Expr} {px py pos spos:Pos} {src:FA} {felt:FM} (hN:X.N.Nodup) (hi:PID X (.Name x px) iter src) {N:List Str} {js:List Nat} (he:∀ C s₂ H₂ fp pn,PV (cA X scope cl x N C s₂ H₂ fp pn) elt felt) (O:CompOk X scope cl x N js)
 (hsw:swapsWith (.ListComp elt [⟨.Name x px,iter,[],0⟩] scope pos) (some (.Name y py)) spos.line X.env=pure true:=by rfl) (hy:X.N[i]? = some y:=by rfl) (hl:Loc X.env.scope y:=by first | exact Or.inl rfl | exact Or.inr rfl) (hcm:X.calm=true:=by rfl)
 (hs:∀ v,foldedSetIterable iter X.env v=pure v:=by intro _;rfl) (hfn:X.fn y=true \/ X.env.scope.names.lookup y=some .local:=by first | exact .inl rfl | exact .inr rfl | assumption) :
 PMD X (.Assign [.Name y py] (.ListComp elt [⟨.Name x px,iter,[],0⟩] scope pos) spos) (aX i (dP src js felt)):=by
 intro pins s σ H D I ⟨F,δ,r,⟨As,RA⟩,q,k⟩;have R:=RA.toS;unfold aX at q;obtain ⟨⟨d,δ'⟩,ed,q⟩:=Za.mp q;cases q;unfold dP at ed;obtain ⟨ds,eds,q⟩:=Za.mp ed;obtain ⟨xs,exs,q⟩:=Za.mp q
 by_cases hz:xs.length<=1000
 . rw [if_pos hz] at q;cases q;rw [exec_Assign_Name_used _ _ _ _ hsw];refine wpAny_bind (wpAny_standAt (wpAny_bind ?_));show wpAny _ X.A (do let _ <- comprehension (.ListComp elt [⟨.Name x px,iter,[],0⟩] scope pos) scope X.env _ (newList []) false (eval iter X.env) (some (assign (.Name y py) X.env))) _ _ s
   refine wpAny_bind (wpAny_mono (wpAny_comprehension_free (use:=some (assign (.Name y py) X.env)) (Q:=fun _ s'=>SP X pins D .next s') rfl hs O.clos O.kind O.names ?_) (fun _ s' hq=>wpAny_pure (wpAny_pure hq)) fun _ _ z=>z)
   refine wpAny_mono (hi pins s σ H (fun J H1=>Same H H1/\ItD X.K J H1 ds) I ⟨δ,ds,R,eds,fun J H1 s1 itd=>⟨s1,itd⟩⟩) (fun v s1 h1=>wpAny_mono h1 (fun itv s2 h2=>?_) fun _ _ z=>z) fun _ _ z=>z
   obtain ⟨it,fp,tn,J,H2,rfl,I2,T,st,hf,s1,itd⟩:=h2;refine mK (RR:=fun acc C=>compPost (model X.prog X.w) X.A X.xe (some (assign (.Name y py) X.env)) (fun _ s'=>SP X pins D .next s') acc C) I2 hcm O T st hf itd (R.mono s1) he exs hz ?_
   intro DA C s' Hend vs hC IX sm hD rr ⟨m,hn⟩ fC;show wpAny _ X.A (assign (.Name y py) X.env (.ref DA)) _ _ s';refine wpAny_assign_Name (lD (v:=.ref DA) IX hN hy hl rfl (fun s9 I9 ⟨a,hsb,ha⟩=>?_) hfn)
   have hCa:C ≠ a:=by
    rintro rfl
    rcases ha with z | z
    . exact absurd (Zw I2.lt (by rw [<- z];exact hC)) (ZC _)
    . obtain ⟨v,o,h1,_⟩:=I2.cell y _ z;exact absurd (Zw (Heap.lt_size h1) hC) (ZC _)
   refine ⟨m,hn.at' fun o e=>(hsb.2 C hCa).trans e,fun h' hs'=>⟨_,Hend,?_,uV i RA k (lP exs) (s1.trans sm) s1 hD rr⟩⟩
   exact I9.turned (it:=C) (t':=s9.toks) (fun b o hb e=>(hs'.2 b hb).trans e) fC (Nat.ne_of_gt (Zw I2.lt hC)) (.inr (Nat.le_trans I2.sz hC))
    (fun y c e z=>by
     obtain ⟨v,o,h1,_⟩:=I2.cell y c e;exact absurd (Zw (Heap.lt_size h1) (by rw [z];exact hC)) (ZC _))
    (fun p hp z=>absurd (Zw (Heap.lt_size (I2.pin p hp).1) (by rw [z];exact hC)) (ZC _))
 . rw [if_neg hz] at q;cases q
end
end Dl
namespace Dl
open PySem PySem.Spec PyProof.Rows L2
section
variable {K:Zu} {F H:Hp} {σ:L2.St} {δ:DS} {As:Nat->List Addr}
theorem RepOs.of_imm:∀ {vs:List V} {ds:List D},Reps K H vs ds->bG ds=true->RepOs K F H vs ds []
 | _,_,.nil,_=>.nil
 | _,_,.cons r t,i=>by
  rw [bG,ZH] at i;exact .cons (.imm i.1 r) (RepOs.of_imm t i.2) rfl
theorem kc {H1:Hp} {vs:List V} {ds:List D} {p:Addr} {Q:VK} (R:RepA K F H σ δ As) (s:Same H H1) (r:Reps K H1 vs ds) (i:bG ds=true) (hp:H1 p=none)
 (k:∀ v F' H' A As',Ev F H As F' H' As' A->RepA K F' H' σ δ As'->RepO K F' H' v (.lst ds) A->Q v H'):Q (.ref p) (upd H1 p (.lst vs)):=by
 have sn:=bQ hp (.lst vs);have np:=cn s hp;refine k _ F _ [p] As (.fresh (s.trans sn) (fun a m=>?_) (List.nodup_cons.mpr ⟨fun z=>(nomatch z),List.nodup_nil⟩) (fun i a m=>(R.dom m).1)) (R.grow (s.trans sn)) (.lst aP (cn R.fz np) (RepOs.of_imm (r.mono sn) i))
 rw [Zm.mp m];exact np
end
def gJ (d:D) (δ:DS):Option (D×DS):=match d with
 | .lst ds=>if bG ds then some (.lst ds,δ) else none
 | _=>none
theorem iQ {d d':D} {δ δ':DS} (h:gJ d δ=some (d',δ')):∃ ds,d=.lst ds/\d'=.lst ds/\δ'=δ/\bG ds=true:=by
 unfold gJ at h;split at h
 . rename_i ds;split at h
   . rename_i hi;cases h;exact ⟨ds,rfl,rfl,rfl,hi⟩
   . cases h
 . cases h
def vSl (f:FD) (lo hi:FO):FM:=fun δ=>(fSl f lo hi δ).bind fun d=>gJ d δ
def xF:List D->Option D
 | [.lst ds]=>some (.lst ds)
 | [.seq ds]=>some (.lst ds)
 | [.tup ds]=>some (.lst ds)
 | _=>none
def m4 (g:FA):FM:=fun δ=>(g δ).bind fun ds=>(xF ds).bind fun d=>gJ d δ
def ve (fa fb:FD):FM:=fun δ=>(f2 yW fa fb δ).bind fun d=>gJ d δ
section
variable {X:Cx} {e a b:Expr} {f fa fb:FD} {lo hi:Option Expr} {fl fh:FO} {g:FA} {pos p2 p:Pos}
theorem zX (he:PD X e f) (hl:POD X lo fl) (hu:POD X hi fh):PV X (.Subscript e (.Slice lo hi none p2) pos) (vSl f fl fh):=imp (tS wM he hl hu) fun σ H Q ⟨F,δ,As,d,δ',RA,q,k⟩=>by
 unfold vSl at q;obtain ⟨d0,e0,q⟩:=Za.mp q;obtain ⟨ds,rfl,rfl,rfl,hi⟩:=iQ q;unfold fSl at e0;obtain ⟨x,ex,e0⟩:=Za.mp e0;obtain ⟨es,eds,e0⟩:=Za.mp e0;obtain ⟨l,el,e0⟩:=Za.mp e0;obtain ⟨h,eh,e0⟩:=Za.mp e0;cases e0;have R:=RA.toS;refine ⟨_,x,R,ex,fun v H1 s1 r1=>⟨_,l,R.mono s1,el,fun H2 s2=>⟨_,h,(R.mono s1).mono s2,eh,fun H3 s3=>?_⟩⟩⟩
 have r3:=(r1.mono s2).mono s3;have fin:∀ (a:Addr) (vs:List V),SqL X.K H3 a vs->Reps X.K H3 vs es->Ei X.K (.ref a) l h H3 Q:=fun a vs hq rp =>
  ⟨a,vs,rfl,hq,fun p hp=>kc RA ((s1.trans s2).trans s3) (uR rp l h) hi hp k⟩
 cases r3 with
 | @lst p vs es hp rp=>cases eds;exact fin p vs (SqL.of hp) rp
 | @seq p vs es hp rp=>cases eds;exact fin p vs hp rp
 | _=>cases eds
theorem yt (hg:Gl X "list") (hm:X.mg "list" = none) (hv:bootBuiltins "list" = some (.type "list")) (ha:PAD X [e] g) (he:starEach [e] X.env=(false,eval e X.env) :: starEach [] X.env:=by rfl) (hpl:(backTo pos (starEach [] X.env)).any (·.1)=false:=by rfl) :
 PV X (.Call (.Name "list" p) [e] [] pos) (m4 g):=imp (iy sQ hg hm hv ha (by decide) (by decide) he hpl) fun σ H Q ⟨F,δ,As,d,δ',RA,q,k⟩=>by
 unfold m4 at q;obtain ⟨xs,exs,q⟩:=Za.mp q;obtain ⟨d0,e0,q⟩:=Za.mp q;obtain ⟨ds,rfl,rfl,rfl,hi⟩:=iQ q;refine ⟨_,xs,RA.toS,exs,fun vs H1 s1 r1 l=>?_⟩
 unfold xF at e0;split at e0
 . cases e0;obtain ⟨v,rfl,rv⟩:=g8 r1;cases rv with
   | @lst p vs _ hp rp=>exact ⟨p,vs,rfl,.inl (SqL.of hp),fun l hl=>kc RA s1 rp hi hl k⟩
 . cases e0;obtain ⟨v,rfl,rv⟩:=g8 r1;cases rv with
   | @seq p vs _ hp rp=>exact ⟨p,vs,rfl,.inl hp,fun l hl=>kc RA s1 rp hi hl k⟩
 . cases e0;obtain ⟨v,rfl,rv⟩:=g8 r1;cases rv with
   | @tup p vs _ hp rp=>exact ⟨p,vs,rfl,.inr hp,fun l hl=>kc RA s1 rp hi hl k⟩
 . cases e0
theorem Et (ha:PD X a fa) (hb:PD X b fb):PV X (.BinOp a .Add b pos) (ve fa fb):=imp (Ai Ay ha hb) fun σ H Q ⟨F,δ,As,d,δ',RA,q,k⟩=>by
 unfold ve at q;obtain ⟨d0,e0,q⟩:=Za.mp q;obtain ⟨ds,rfl,rfl,rfl,hi⟩:=iQ q;unfold f2 at e0;obtain ⟨x,ex,e0⟩:=Za.mp e0;obtain ⟨y,ey,e0⟩:=Za.mp e0;refine ⟨_,x,RA.toS,ex,fun v H1 s1 r1=>⟨_,y,RA.toS.mono s1,ey,fun w H2 s2 r2=>?_⟩⟩
 unfold yW at e0;split at e0
 . rename_i xs ys;split at e0
   . rename_i hz;cases e0;have r1':=r1.mono s2;cases r1' with
     | @lst p vs _ hp rp =>
      cases r2 with
      | @lst q ws _ hq rq=>exact ⟨p,q,vs,ws,rfl,rfl,hp,hq,by rw [rp.length,rq.length];exact db hz,fun l hl=>kc RA (s1.trans s2) (rp.append rq) hi hl k⟩
   . cases e0
 . cases e0
end
theorem imms_mem:∀ {ds:List D},bG ds=true <-> ∀ d∈ds,imm d=true
 | []=>⟨fun _ _ m=>(nomatch m),fun _=>rfl⟩
 | d :: ds=>by
  rw [bG,ZH,imms_mem (ds:=ds)];exact ⟨fun h e m=>(Zq.mp m).elim (fun z=>z ▸ h.1) (h.2 e),fun h=>⟨h d Zk,fun e m=>h e (Zl _ m)⟩⟩
section
variable {K:Zu} {F H:Hp} {σ:L2.St} {δ:DS} {As:Nat->List Addr}
theorem RepA.wrI {i:Nat} {ds es:List D} {a:Addr} {vs ws:List V} {A0:List Addr} (R:RepA K F H σ δ As) (h:δ[i]? = some (some (.lst ds))) (hσ:σ[i]? = some (some (.ref a))) (hA:As i=a :: A0) (ha:H a=some (.lst vs)) (hF:F a=none) (r:Reps K H ws es) (hi:bG es=true) :
 fN K F (upd H a (.lst ws)) σ (δ.set i (some (.lst es))):=R.wr h hσ hA ha hF (RepOs.of_imm r hi) (fun z=>nomatch z) List.nodup_nil fun _ _ _ _ z=>nomatch z
end
section
variable {X:Cx} {pos:Pos}
end
end Dl
namespace Dl
open PySem PySem.Spec PyProof.Rows L2
end Dl
namespace Dl
open PySem PySem.Spec PyProof.Rows L2
def eqL (f:D->D->Option Bool):List D->List D->Option Bool
 | [],[]=>some true
 | [],_ :: _=>some false
 | _ :: _,[]=>some false
 | a :: as,b :: bs=>(f a b).bind fun x=>(eqL f as bs).bind fun y=>some (x && y)
def eqN:Nat->D->D->Option Bool
 | 0,a,b=>if c4 a && c4 b then some (eqF a b) else none
 | n+1,a,b=>match a,b with
  | .tup as,.tup bs=>eqL (eqN n) as bs
  | .lst as,.lst bs=>eqL (eqN n) as bs
  | .lst as,.seq bs=>eqL (eqN n) as bs
  | .seq as,.lst bs=>eqL (eqN n) as bs
  | .seq as,.seq bs=>eqL (eqN n) as bs
  | .non,.tup _=>some false
  | .tup _,.non=>some false
  | .non,.lst _=>some false
  | .lst _,.non=>some false
  | .non,.seq _=>some false
  | .seq _,.non=>some false
  | a,b=>if c4 a && c4 b then some (eqF a b) else none
theorem xR {f:D->D->Option Bool}:∀ {as bs:List D} {c:Bool},eqL f as bs=some c->∀ (j:Nat) (a b:D),as[j]? = some a->bs[j]? = some b->∃ x,f a b=some x
 | [],_,_,_,_,_,_,h,_=>by simp at h
 | _ :: _,[],_,_,_,_,_,_,h=>by simp at h
 | a :: as,b :: bs,c,h,j,x,y,h1,h2=>by
  obtain ⟨u,e1,h⟩:=Za.mp (show ((f a b).bind _)=some c from h)
  obtain ⟨v,e2,h⟩:=Za.mp h;cases j with
  | zero=>simp at h1 h2;subst h1 h2;exact ⟨u,e1⟩
  | succ j=>exact xR e2 j x y (by simpa using h1) (by simpa using h2)
theorem sD {f:D->D->Option Bool}:∀ {as bs:List D} {c:Bool} {e:Nat->Bool},eqL f as bs=some c->(∀ (j:Nat) (a b:D) (x:Bool),as[j]? = some a->bs[j]? = some b->f a b=some x->e j=x)->((List.range (min as.length bs.length)).all e && as.length == bs.length)=c
 | [],[],c,e,h,_=>by cases h;rfl
 | [],_ :: _,c,e,h,_=>by cases h;simp
 | _ :: _,[],c,e,h,_=>by cases h;simp
 | a :: as,b :: bs,c,e,h,he=>by
  obtain ⟨u,e1,h⟩:=Za.mp (show ((f a b).bind _)=some c from h)
  obtain ⟨v,e2,h⟩:=Za.mp h;cases h;have ih:=sD (e:=fun j=>e (j+1)) e2 fun j x y z h1 h2 h3=>he (j+1) x y z (by simpa using h1) (by simpa using h2) h3
  have h0:e 0=u:=he 0 a b u rfl rfl e1;show ((List.range (min (as.length+1) (bs.length+1))).all e && (as.length+1) == (bs.length+1))=(u && v);have hm:min (as.length+1) (bs.length+1)=min as.length bs.length+1:=by omega
  have hq:((as.length+1) == (bs.length+1))=(as.length == bs.length):=by rw [Bool.eq_iff_iff];simp
  rw [<- ih,<- h0,hm,List.range_succ_eq_map,List.all_cons,List.all_map,Bool.and_assoc,hq];rfl
theorem xQ {f:D->D->Option Bool}:∀ {as bs:List D} {c:Bool},eqL f as bs=some c->as.length ≠ bs.length->c=false
 | [],[],_,_,n=>absurd rfl n
 | [],_ :: _,c,h,_=>by cases h;rfl
 | _ :: _,[],c,h,_=>by cases h;rfl
 | a :: as,b :: bs,c,h,n=>by
  obtain ⟨u,e1,h⟩:=Za.mp (show ((f a b).bind _)=some c from h)
  obtain ⟨v,e2,h⟩:=Za.mp h;cases h;rw [xQ e2 (fun z=>n (congrArg (· + 1) z)),Bool.and_false]
theorem sG {A:Around} {s:Shared} {b:Addr} {k:Bool} (h:SeqAt.RcAt A s .none (.ref b) k):SeqAt.EqAt A s .none (.ref b) k:=fun prog w E Q hq=>by
 unfold eqBool;refine wpAny_holding (wpAny_ite_split (fun z=>nomatch (eq_of_beq z:Value.none=Value.ref b)) fun _=>?_)
 have z:=h prog w E (fun a s'=>wpAny (model prog w) A (truthOfDropped a) Q E s') (wpAny_truthy_bool hq)
 exact wpAny_bind z
theorem sE {A:Around} {s:Shared} {b:Addr} {k:Bool} (h:SeqAt.RcAt A s (.ref b) .none k):SeqAt.EqAt A s (.ref b) .none k:=fun prog w E Q hq=>by
 unfold eqBool;refine wpAny_holding (wpAny_ite_split (fun z=>nomatch (eq_of_beq z:Value.ref b=Value.none)) fun _=>?_)
 have z:=h prog w E (fun a s'=>wpAny (model prog w) A (truthOfDropped a) Q E s') (wpAny_truthy_bool hq)
 exact wpAny_bind z
section
variable {X:Cx} {pins:List (Addr×Obj)} {σ:L2.St} {H:Hp} {s:Shared}
theorem lG (I:L2.Inv X pins σ H s):∀ (n:Nat) {v:V} {a b:D} {c:Bool},Rep X.K H v a->Rep X.K H v b->eqN n a b=some c->c=true
 | 0,v,a,b,c,ra,rb,h=>by
  unfold eqN at h;split at h
  . rename_i hf;cases h;rw [ZH] at hf;have e1:=(ra.flat hf.1).2;have e2:=(rb.flat hf.2).2;rw [<- sC e1 e2];cases ra <;> first | rfl | (simp [eqV];done) | exact absurd hf.1 Zv
  . cases h
 | n+1,v,a,b,c,ra,rb,h=>by
  have many:∀ {vs:List V} {as bs:List D},Reps X.K H vs as->Reps X.K H vs bs->∀ {c:Bool},eqL (eqN n) as bs=some c->c=true:=by
   intro vs
   induction vs with
   | nil=>intro as bs r1 r2 c h;cases r1;cases r2;cases h;rfl
   | cons v vs ih =>
    intro as bs r1 r2 c h;cases r1 with
    | cons p1 t1 =>
     cases r2 with
     | cons p2 t2 =>
      obtain ⟨u,e1,h⟩:=Za.mp (show ((eqN n _ _).bind _)=some c from h)
      obtain ⟨w,e2,h⟩:=Za.mp h;cases h;rw [lG I n p1 p2 e1,ih t1 t2 e2];rfl
  have flatC:∀ {a b:D},Rep X.K H v a->Rep X.K H v b->(if c4 a && c4 b then some (eqF a b) else none)=some c->c=true:=fun {a b} ra rb h=>by
   refine lG I 0 ra rb ?_;unfold eqN;exact h
  cases ra with
  | non=>cases rb;exact flatC .non .non h
  | bl x=>cases rb;exact flatC (.bl x) (.bl x) h
  | int x=>cases rb;exact flatC (.int x) (.int x) h
  | str x=>cases rb;exact flatC (.str x) (.str x) h
  | ty x=>cases rb;exact flatC (.ty x) (.ty x) h
  | @tup p vs as hp rp =>
   cases rb with
   | @tup _ ws bs hq rq =>
    have e:=I.tuple_inj hp hq;subst e;exact many rp rq h
   | lst _ _=>cases h
   | seq _ _=>cases h
   | dct _=>cases h
   | exc _=>cases h
   | cls _=>cases h
   | ms _ _ _=>cases h
   | mf _ _ _=>cases h
   | md _ _ _=>cases h
  | @lst p vs as hp rp =>
   cases rb with
   | @lst _ ws bs hq rq =>
    have e:=I.list_inj (SqL.of (K:=X.K) hp) (SqL.of hq);subst e;exact many rp rq h
   | @seq _ ws bs hq rq =>
    have e:=I.list_inj (SqL.of hp) hq;subst e;exact many rp rq h
   | tup _ _=>cases h
   | dct _=>cases h
   | exc _=>cases h
   | cls _=>cases h
   | ms _ _ _=>cases h
   | mf _ _ _=>cases h
   | md _ _ _=>cases h
  | @seq p vs as hp rp =>
   cases rb with
   | @lst _ ws bs hq rq =>
    have e:=I.list_inj hp (SqL.of hq);subst e;exact many rp rq h
   | @seq _ ws bs hq rq =>
    have e:=I.list_inj hp hq;subst e;exact many rp rq h
   | tup _ _=>cases h
   | dct _=>cases h
   | exc _=>cases h
   | cls _=>cases h
   | ms _ _ _=>cases h
   | mf _ _ _=>cases h
   | md _ _ _=>cases h
  | dct h1=>cases rb <;> cases h
  | exc h1=>cases rb <;> cases h
  | cls C=>cases rb <;> cases h
  | ms=>cases rb <;> cases h
  | mf=>cases rb <;> cases h
  | md=>cases rb <;> cases h
theorem uJ (I:L2.Inv X pins σ H s):∀ (n:Nat) (A:Around),A.units+n < cLine->∀ {x y:V} {u v:Value} {a b:D} {c:Bool},RelV x u->RelV y v->Rep X.K H x a->Rep X.K H y b->eqN n a b=some c->SeqAt.RcAt A s u v c/\SeqAt.RcNeAt A s u v (!c)/\SeqAt.EqAt A s u v c
 | 0,A,hu,x,y,u,v,a,b,c,rx,ry,ra,rb,h=>by
  unfold eqN at h;split at h
  . rename_i hf;cases h;rw [ZH] at hf;have z:=wY (A:=A) (s:=s) rx ry ra rb hf.1 hf.2;refine ⟨z.1,z.2,?_⟩;rw [<- sC (ra.flat hf.1).2 (rb.flat hf.2).2];exact Bq rx ry (ra.flat hf.1).1 (rb.flat hf.2).1
  . cases h
 | n+1,A,hu,x,y,u,v,a,b,c,rx,ry,ra,rb,h=>by
  have hu0:A.units < cLine:=by omega
  have hu1:A.in1.units+n < cLine:=by show A.units+1+n < cLine;omega
  have items:∀ {vs ws:List V} {us zs:List Value} {as bs:List D} {c:Bool},Vals vs us->Vals ws zs->Reps X.K H vs as->Reps X.K H ws bs->eqL (eqN n) as bs=some c ->
   ∃ e:Nat->Bool,(∀ j (h1:j < us.toArray.size) (h2:j < zs.toArray.size),SeqAt.EqAt A.in1 s us.toArray[j] zs.toArray[j] (e j))/\∀ (j:Nat) (a b:D) (x:Bool),as[j]? = some a->bs[j]? = some b->eqN n a b=some x->e j=x:=by
   intro vs ws us zs as bs c r1 r2 q1 q2 h;refine ⟨fun j=>((as[j]?).bind fun a=>(bs[j]?).bind fun b=>eqN n a b).getD true,fun j h1 h2=>?_,fun j a b x e1 e2 e3=>by dsimp only;rw [e1,e2,Zc,Zc,e3];rfl⟩
   have l1:=r1.length;have l2:=r2.length;rw [Zz] at h1 h2;have k1:j < vs.length:=by omega
   have k2:j < ws.length:=by omega
   obtain ⟨u',e1,p1⟩:=r1.get (i:=j) (x:=vs[j]) (by simp [k1])
   obtain ⟨z',e2,p2⟩:=r2.get (i:=j) (x:=ws[j]) (by simp [k2])
   obtain ⟨a',e3,p3⟩:=q1.getV (i:=j) (v:=vs[j]) (by simp [k1])
   obtain ⟨b',e4,p4⟩:=q2.getV (i:=j) (v:=ws[j]) (by simp [k2])
   have w1:us.toArray[j]=u':=by
    have z:us[j]? = some us[j]:=by simp [h1]
    rw [z] at e1;simpa using e1
   have w2:zs.toArray[j]=z':=by
    have z:zs[j]? = some zs[j]:=by simp [h2]
    rw [z] at e2;simpa using e2
   obtain ⟨x',ex⟩:=xR h j a' b' e3 e4;dsimp only;rw [w1,w2,e3,e4,Zc,Zc,ex];exact (uJ I n A.in1 hu1 p1 p2 p3 p4 ex).2.2
  have refs:∀ {p q:Addr},u=.ref p->v=.ref q->SeqAt.RcAt A s (.ref p) (.ref q) c->SeqAt.RcNeAt A s (.ref p) (.ref q) (!c)->SeqAt.RcAt A s u v c/\SeqAt.RcNeAt A s u v (!c)/\SeqAt.EqAt A s u v c:=fun {p q} e1 e2 z1 z2=>by
   subst e1 e2;refine ⟨z1,z2,?_⟩
   by_cases hpq:p=q
   . subst hpq;have exy:x=y:=rx.inj ry;subst exy;rw [lG I (n+1) ra rb h];exact SeqAt.EqAt.same _
   . exact SeqAt.EqAt.of_refs hpq z1
  have lists:∀ {p q:Addr} {vs ws:List V} {as bs:List D},u=.ref p->v=.ref q->SqL X.K H p vs->SqL X.K H q ws->Reps X.K H vs as->Reps X.K H ws bs->eqL (eqN n) as bs=some c->SeqAt.RcAt A s u v c/\SeqAt.RcNeAt A s u v (!c)/\SeqAt.EqAt A s u v c:=fun {p q vs ws as bs} e1 e2 hp hq rp rq hc=>by
   obtain ⟨its,r1,t1,_⟩:=I.list hp;obtain ⟨jts,r2,t2,_⟩:=I.list hq;have l1:its.toArray.size=as.length:=by rw [Zz,<- r1.length,rp.length]
   have l2:jts.toArray.size=bs.length:=by rw [Zz,<- r2.length,rq.length]
   obtain ⟨e,he,hx⟩:=items r1 r2 rp rq hc
   by_cases hl:its.toArray.size=jts.toArray.size
   . have z:=sD hc hx;have hb:(as.length == bs.length)=true:=by rw [beq_iff_eq];omega
     have hm:min as.length bs.length=its.toArray.size:=by omega
     rw [hb,hm,Bool.and_true] at z;have z1:=SeqAt.RcAt.lists (A:=A) (s:=s) t1.isList t2.isList hl hu0 he;have z2:=SeqAt.RcNeAt.lists (A:=A) (s:=s) t1.isList t2.isList hl hu0 he;rw [z] at z1 z2;exact refs e1 e2 z1 z2
   . have z1:=SeqAt.RcAt.lists_lengths (A:=A) (s:=s) t1.isList t2.isList (by simpa [bne_iff_ne] using hl) hu0
     have z2:=SeqAt.RcNeAt.lists_lengths (A:=A) (s:=s) t1.isList t2.isList (by simpa [bne_iff_ne] using hl) hu0
     have z:=xQ hc (by omega)
     subst z;exact refs e1 e2 z1 z2
  have flatC:(if c4 a && c4 b then some (eqF a b) else none)=some c->SeqAt.RcAt A s u v c/\SeqAt.RcNeAt A s u v (!c)/\SeqAt.EqAt A s u v c:=fun h=>uJ I 0 A (by omega) rx ry ra rb (by unfold eqN;exact h)
  cases ra with
  | non =>
   cases (show u=Value.none from rx)
   cases rb with
   | @tup q ws bs hq rq =>
    cases h;cases (show v=Value.ref q from ry)
    obtain ⟨its,r1,t1,_⟩:=I.tuple hq;exact ⟨SeqAt.RcAt.none_tuple t1 hu0,SeqAt.RcNeAt.none_tuple t1 hu0,sG (SeqAt.RcAt.none_tuple t1 hu0)⟩
   | @lst q ws bs hq rq =>
    cases h;cases (show v=Value.ref q from ry)
    obtain ⟨its,r1,t1,_⟩:=I.list (SqL.of (K:=X.K) hq);exact ⟨SeqAt.RcAt.none_list t1.isList hu0,SeqAt.RcNeAt.none_list t1.isList hu0,sG (SeqAt.RcAt.none_list t1.isList hu0)⟩
   | @seq q ws bs hq rq =>
    cases h;cases (show v=Value.ref q from ry)
    obtain ⟨its,r1,t1,_⟩:=I.list hq;exact ⟨SeqAt.RcAt.none_list t1.isList hu0,SeqAt.RcNeAt.none_list t1.isList hu0,sG (SeqAt.RcAt.none_list t1.isList hu0)⟩
   | _=>exact flatC h
  | @tup p vs as hp rp =>
   cases rb with
   | @tup q ws bs hq rq =>
    obtain ⟨its,r1,t1,_⟩:=I.tuple hp;obtain ⟨jts,r2,t2,_⟩:=I.tuple hq;have l1:its.toArray.size=as.length:=by rw [Zz,<- r1.length,rp.length]
    have l2:jts.toArray.size=bs.length:=by rw [Zz,<- r2.length,rq.length]
    have hc:eqL (eqN n) as bs=some c:=h;obtain ⟨e,he,hx⟩:=items r1 r2 rp rq hc;have z:=sD hc hx;have z1:=SeqAt.RcAt.tuples (A:=A) (s:=s) t1 t2 hu0 he;have z2:=SeqAt.RcNeAt.tuples (A:=A) (s:=s) t1 t2 hu0 he;rw [l1,l2,z] at z1 z2;exact refs (show u=Value.ref p from rx) (show v=Value.ref q from ry) z1 z2
   | non =>
    cases h;cases (show u=Value.ref p from rx)
    cases (show v=Value.none from ry)
    obtain ⟨its,r1,t1,_⟩:=I.tuple hp;exact ⟨SeqAt.RcAt.tuple_none t1 hu0,SeqAt.RcNeAt.tuple_none t1 hu0,sE (SeqAt.RcAt.tuple_none t1 hu0)⟩
   | _=>cases h
  | @lst p vs as hp rp =>
   cases rb with
   | @lst q ws bs hq rq=>exact lists (show u=Value.ref p from rx) (show v=Value.ref q from ry) (SqL.of hp) (SqL.of hq) rp rq h
   | @seq q ws bs hq rq=>exact lists (show u=Value.ref p from rx) (show v=Value.ref q from ry) (SqL.of hp) hq rp rq h
   | non =>
    cases h;cases (show u=Value.ref p from rx)
    cases (show v=Value.none from ry)
    obtain ⟨its,r1,t1,_⟩:=I.list (SqL.of (K:=X.K) hp);exact ⟨SeqAt.RcAt.list_none t1.isList hu0,SeqAt.RcNeAt.list_none t1.isList hu0,sE (SeqAt.RcAt.list_none t1.isList hu0)⟩
   | _=>cases h
  | @seq p vs as hp rp =>
   cases rb with
   | @lst q ws bs hq rq=>exact lists (show u=Value.ref p from rx) (show v=Value.ref q from ry) hp (SqL.of hq) rp rq h
   | @seq q ws bs hq rq=>exact lists (show u=Value.ref p from rx) (show v=Value.ref q from ry) hp hq rp rq h
   | non =>
    cases h;cases (show u=Value.ref p from rx)
    cases (show v=Value.none from ry)
    obtain ⟨its,r1,t1,_⟩:=I.list hp;exact ⟨SeqAt.RcAt.list_none t1.isList hu0,SeqAt.RcNeAt.list_none t1.isList hu0,sE (SeqAt.RcAt.list_none t1.isList hu0)⟩
   | _=>cases h
  | bl x=>cases rb <;> first | exact flatC h | cases h
  | int x=>cases rb <;> first | exact flatC h | cases h
  | str x=>cases rb <;> first | exact flatC h | cases h
  | ty x=>cases rb <;> first | exact flatC h | cases h
  | dct h1=>cases rb <;> first | exact flatC h | cases h
  | exc h1=>cases rb <;> first | exact flatC h | cases h
  | cls C=>cases rb <;> first | exact flatC h | cases h
  | ms=>cases rb <;> first | exact flatC h | cases h
  | mf=>cases rb <;> first | exact flatC h | cases h
  | md=>cases rb <;> first | exact flatC h | cases h
end
def jv (a b:D):Option D:=(eqN 6 a b).map D.bl
def pV (a b:D):Option D:=(eqN 6 a b).map fun c=>D.bl (!c)
def Go (K:Zu):R2:=fun x y H Q=>∃ a b c,Rep K H x a/\Rep K H y b/\eqN 6 a b=some c/\Q (.bl c) H
def Gi (K:Zu):R2:=fun x y H Q=>∃ a b c,Rep K H x a/\Rep K H y b/\eqN 6 a b=some c/\Q (.bl (!c)) H
section
variable {X:Cx} {a b:Expr} {fa fb:FD} {pos:Pos}
theorem Aw (hu:X.A.units+64 < cLine):OpR X (compareOp .Eq) (Go X.K):=by
 intro pins s σ H x y v u Q I rx ry ⟨a,b,c,ra,rb,e,q⟩;exact (uJ I 6 X.A (by omega) rx ry ra rb e).1 X.prog X.w _ _ ⟨.bl c,H,I,rfl,q⟩
theorem EQ (hu:X.A.units+64 < cLine):OpR X (compareOp .NotEq) (Gi X.K):=by
 intro pins s σ H x y v u Q I rx ry ⟨a,b,c,ra,rb,e,q⟩;exact (uJ I 6 X.A (by omega) rx ry ra rb e).2.1 X.prog X.w _ _ ⟨.bl (!c),H,I,rfl,q⟩
theorem zT {K:Zu}:R2D K (Go K) jv:=by
 intro x y H Q a b d ra rb e k;unfold jv at e;obtain ⟨c,hc,e⟩:=Zb.mp e;cases e;exact ⟨a,b,c,ra,rb,hc,k _ H (Same.refl H) (.bl _)⟩
theorem Ek {K:Zu}:R2D K (Gi K) pV:=by
 intro x y H Q a b d ra rb e k;unfold pV at e;obtain ⟨c,hc,e⟩:=Zb.mp e;cases e;exact ⟨a,b,c,ra,rb,hc,k _ H (Same.refl H) (.bl _)⟩
theorem vF (hu:X.A.units+64 < cLine) (ha:PD X a fa) (hb:PD X b fb):PD X (.Compare a [.Eq] [b] pos) (f2 jv fa fb):=oB (Aw hu) zT ha hb (fg _)
theorem kP (hu:X.A.units+64 < cLine) (ha:PD X a fa) (hb:PD X b fb):PTD X (.Compare a [.Eq] [b] pos) (fT (f2 jv fa fb)):=gk (Aw hu) zT ha hb (fg _)
theorem nu (hu:X.A.units+64 < cLine) (ha:PD X a fa) (hb:PD X b fb):PTD X (.Compare a [.NotEq] [b] pos) (fT (f2 pV fa fb)):=gk (EQ hu) Ek ha hb (fg _)
end
end Dl
namespace Dl
open PySem PySem.Spec PyProof.Rows L2
section
open PySem.SeqAt
open PySem.AutoSeq1 (wpAny_loadPart')
open PySem.MeetsSeq PySem.MeetsSeq2 PySem.MeetsSeq3
end
section
variable {X:Cx} {a b:Expr} {fa fb:FD} {pos:Pos}
end
def oS:D->Option Bool
 | .lst _=>some true
 | .seq _=>some true
 | .ty _=>none
 | .exc _=>none
 | .cls _=>none
 | .ms _ _=>none
 | .mf _ _=>none
 | .md _ _=>none
 | _=>some false
theorem tX (d:D) (b:Bool) (h:oS d=some b):u7 "list" d b:=by
 cases d <;> (first | cases h) <;> first
  | exact ⟨_,rfl,fun K=>vP _ K⟩
  | exact ⟨_,rfl,fun K=>by kernel_rfl⟩
theorem pvi {X:Cx} (i:Nat) {x:Str} {pos:Pos} (hN:X.N[i]? = some x:=by rfl) (hv:Vis X.env.scope x:=by first | exact Or.inl rfl | exact Or.inr (Or.inl rfl) | exact Or.inr (Or.inr rfl)) (hd:(x == ("__debug__":Str))=false:=by decide)
 (hcd:(x == ("__classdict__":Str))=false:=by decide):PE X (.Name x pos) (pN i):=lI hN hv hd hcd
end Dl
namespace Dl
open PySem PySem.Spec PyProof.Rows L2
section
variable {X:Cx} {pos:Pos} {r:Nat} {c e:Expr} {f:FD} {g:List D->Option (List D)} {rest:List Stmt}
end
end Dl
namespace Dl
open PySem PySem.Spec PyProof.Rows L2
theorem CompOk.nil {X:Cx} {scope:Scope} {x:Str} (clos:closureFor scope X.env=pure []:=by rfl) (nocell:∀ y∈scope.names,y.2 ≠ .cell:=by decide +kernel) (kind:scope.kind=.function:=by rfl)
 (names:∀ y∈scope.names,y.2=.local->scope.names.lookup y.1=some .local:=by decide +kernel) (hx:scope.names.lookup x=some .local:=by rfl) (hfr:∀ p∈scope.names,p.2 ≠ .free:=by decide +kernel):CompOk X scope [] x [x] [] where
 clos:=clos
 nocell:=nocell
 kind:=kind
 names:=names
 hx:=hx
 nd:=by simp
 h0:=rfl
 len:=rfl
 clx:=rfl
 cls:=fun y a h=>by cases h
 has:=fun y h=>by
  have key:∀ k,(k=NameKind.cell \/ k=NameKind.free)->(relabel scope X.env).names.lookup y=some k->False:=fun k hk h=>by
   have m:=PySem.mem_of_lookup h;unfold relabel at m;obtain ⟨⟨n,k'⟩,m1,m2⟩:=Zn.mp m;dsimp only at m2;refine hfr _ m1 ?_;show k'=NameKind.free;split at m2
   . rename_i hc;rw [ZH,ZH] at hc;exact beq_iff_eq.mp hc.1.1
   . have e:k'=k:=congrArg Prod.snd m2;rcases hk with z1 | z1
     . exact absurd (e.trans z1) (nocell _ m1)
     . exact e.trans z1
  rcases h with h | h
  . exact (key _ (.inl rfl) h).elim
  . exact (key _ (.inr rfl) h).elim
 fr:=fun i y k h1 h2=>by simp at h2
theorem uF (i:Int):c4 (.int i)=true:=rfl
theorem xL (b:Bool):c4 (.bl b)=true:=rfl
end Dl
namespace Dl
open PySem PySem.Spec PyProof.Rows L2
def rm:List Nat->TGs
 | []=>GV
 | i :: is=>DY (xE i) (rm is)
def zD:List Nat->List D->DS->DS
 | i :: is,d :: ds,δ=>zD is ds (δ.set i (some d))
 | _,_,δ=>δ
def xA (is:List Nat) (n:Nat):Bool:=is.all fun i=>decide (i < n)
theorem tG {K:Zu} {F H:Hp}:∀ {vs:List V} {ds:List D},Reps K H vs ds->bG ds=true->RepOs K F H vs ds []
 | _,_,.nil,_=>.nil
 | _,_,.cons r t,i=>by
  rw [bG,ZH] at i;exact .cons (.imm i.1 r) (tG t i.2) rfl
theorem RepO.parts {K:Zu} {F H:Hp} {v:V} {ds:List D} {A:List Addr} (r:RepO K F H v (.tup ds) A):∃ a vs,v=.ref a/\SqT K H a vs/\RepOs K F H vs ds A:=by
 cases r with
 | imm i h =>
  cases h with
  | tup h r=>exact ⟨_,_,rfl,h,tG r (by rw [Dl.imm] at i;exact i)⟩
 | tup h r=>exact ⟨_,_,rfl,h,r⟩
theorem RepOs.len {K:Zu} {F H:Hp}:∀ {vs:List V} {ds:List D} {A:List Addr},RepOs K F H vs ds A->vs.length=ds.length
 | _,_,_,.nil=>rfl
 | _,_,_,.cons _ t _=>by rw [Zj,Zj,RepOs.len t]
theorem t8 {K:Zu} {F H:Hp}:∀ (is:List Nat) {vs:List V} {ds:List D} {A:List Addr} {σ:L2.St} {δ:DS} {As:Nat->List Addr} {Q:L2.St->Hp->Prop},RepOs K F H vs ds A->A.Nodup->(∀ j a,a∈As j->a ∉ A)->RepA K F H σ δ As->ds.length=is.length->xA is δ.length=true->(∀ σ',fN K F H σ' (zD is ds δ)->Q σ' H)->rm is vs σ H Q
 | [],_,_,_,σ,δ,As,Q,.nil,_,_,R,_,_,k=>⟨rfl,k σ ⟨As,R⟩⟩
 | [],_,_,_,_,_,_,_,.cons _ _ _,_,_,_,l,_,_=>by cases l
 | _ :: _,_,_,_,_,_,_,_,.nil,_,_,_,l,_,_=>by cases l
 | i :: is,_,_,_,σ,δ,As,Q,.cons (v:=v) (d:=d) (vs:=vs) (ds:=ds) (A:=A) (B:=B) r t e,nd,dj,R,l,hi,k=>by
  subst e;have hi':(decide (i < δ.length) && xA is δ.length)=true:=hi;rw [ZH] at hi';have h1:i < δ.length:=of_decide_eq_true hi'.1;rw [List.nodup_append] at nd;have R1:=R.set i h1 r nd.1 fun j a _ m z=>dj j a m (Zy _ z)
  refine ⟨v,vs,rfl,?_⟩;show rm is vs (σ.set i (some v)) H Q;refine t8 is t nd.2.1 (fun j a m z=>?_) R1 (by simpa using l) (by rw [List.length_set];exact hi'.2) k
  unfold lB at m
  by_cases hj:j=i
  . rw [if_pos hj] at m;exact nd.2.2 a m a z rfl
  . rw [if_neg hj] at m;exact dj j a m (Zx _ z)
def vo (is:List Nat) (fm:FM):SD:=fun δ=>(fm δ).bind fun p=>match p.1 with
 | .tup ds=>if ds.length=is.length/\xA is p.2.length=true then some (.nx (zD is ds p.2)) else none
 | _=>none
theorem pgN {X:Cx} (i:Nat) {x:Str} {pos:Pos} (hN:X.N.Nodup) (hi:X.N[i]? = some x:=by rfl) (hx:Loc X.env.scope x:=by first | exact Or.inl rfl | exact Or.inr rfl) (hf:X.fn x=true \/ X.env.scope.names.lookup x=some .local:=by first | exact .inl rfl | exact .inr rfl | assumption):PG X (.Name x pos) (xE i):=jL hN hi hx hf
theorem DM {X:Cx} {e:Expr} {es:List Expr} {kt:Nat} {pt pos:Pos} {fm:FM} (is:List Nat) (he:PV X e fm) (hg:PG X (.Tuple es kt pt) (GU X.K is.length (rm is)))
 (hs:swapsWithSole [.Tuple es kt pt] e pos.line X.env=pure false:=by rfl) (hw:swappedStores [.Tuple es kt pt] e X.env=pure none:=by rfl)
 (h1:(assignEach [.Tuple es kt pt] X.env).map (·.2)=[assign (.Tuple es kt pt) X.env]:=by rfl):PMD X (.Assign [.Tuple es kt pt] e pos) (vo is fm):=gr (rP he hg hs hw h1) fun E σ H ⟨F,δ,r,⟨As,R⟩,q,k⟩=>by
 unfold vo at q;obtain ⟨⟨d,δ'⟩,ed,q⟩:=Za.mp q;dsimp only at q;split at q
 . rename_i ds;split at q
   . rename_i hl;cases q;refine ⟨F,δ,As,_,δ',R,ed,fun v F' H' A As' ev R' r'=>?_⟩
     obtain ⟨a,vs,rfl,sq,ro⟩:=r'.parts;exact ⟨a,vs,rfl,sq,ro.len.trans hl.1,t8 is ro ev.nd ev.dj R' hl.1 hl.2 fun σ' R2=>k σ' F' H' ev.fs R2⟩
   . cases q
 . cases q
end Dl
namespace Dl
open PySem PySem.Spec PyProof.Rows L2
theorem Dd {X:Cx} {scope:Scope} {y:Str} (nocell:∀ y∈scope.names,y.2 ≠ .cell) (h:(relabel scope X.env).names.lookup y=some .cell \/ (relabel scope X.env).names.lookup y=some .free):∃ p∈scope.names,p.2=.free/\p.1=y:=by
 have key:∀ k,(k=NameKind.cell \/ k=NameKind.free)->(relabel scope X.env).names.lookup y=some k->∃ p∈scope.names,p.2=.free/\p.1=y:=fun k hk h=>by
  have m:=PySem.mem_of_lookup h;unfold relabel at m;obtain ⟨⟨n,k'⟩,m1,m2⟩:=Zn.mp m;dsimp only at m2;refine ⟨_,m1,?_,?_⟩
  . show k'=NameKind.free;split at m2
    . rename_i hc;rw [ZH,ZH] at hc;exact beq_iff_eq.mp hc.1.1
    . have e:k'=k:=congrArg Prod.snd m2;rcases hk with z1 | z1
      . exact absurd (e.trans z1) (nocell _ m1)
      . exact e.trans z1
  . show n=y;split at m2 <;> exact congrArg Prod.fst m2
 rcases h with h | h
 . exact key _ (.inl rfl) h
 . exact key _ (.inr rfl) h
end Dl
namespace Dl
open PySem PySem.Spec PyProof.Rows L2
end Dl
namespace Dl
open PySem PySem.Spec PyProof.Rows L2
def hX (i j:Int):Prop:=(Bd i/\Bd j) \/ L2.CMul i j
instance (i j:Int):Decidable (hX i j):=by unfold hX L2.CMul;exact inferInstance
theorem CB {X:Cx}:OpR X (binaryOp .Mult) (rI hX fun i j=>.int (i*j)):=opI fun _ _ _ _ _ _ _ hc q=>by
 rcases hc with hc | hc
 . exact mul_int q (.of_bits hc.1.bits hc.2.bits)
 . exact mul_int q hc.ok
theorem kU {X:Cx} {a b:Expr} {fa fb:FD} {pos:Pos} (ha:PD X a fa) (hb:PD X b fb):PD X (.BinOp a .Mult b pos) (f2 (gI hX fun i j=>.int (i*j)) fa fb):=oA CB (zU fun _ _ _=>.int _) ha hb
def gv:List D->Option (List Bool)
 | []=>some []
 | .bl b :: ds=>(gv ds).bind fun bs=>some (b :: bs)
 | _ :: _=>none
def zl:List D->Option (List D)
 | [.lst ds]=>some ds
 | [.seq ds]=>some ds
 | _=>none
def vV (as:List D):Option D:=(zl as).bind fun ds=>(gv ds).bind fun bs=>some (.bl (bs.all id))
def Ff (as:List D):Option D:=(zl as).bind fun ds=>(gv ds).bind fun bs=>some (.bl (bs.any id))
theorem j5 {K:Zu} {H:Hp}:∀ {vs:List V} {ds:List D} {bs:List Bool},Reps K H vs ds->gv ds=some bs->vs=bs.map V.bl
 | _,_,_,.nil,h=>by cases h;rfl
 | v :: vs,d :: ds,bs,.cons r t,h=>by
  cases d with
  | bl b =>
   obtain ⟨cs,h1,h2⟩:=Za.mp (show ((gv ds).bind fun bs=>some (b :: bs))=some bs from h)
   cases h2;cases r;rw [j5 t h1];rfl
  | _=>cases h
theorem j4:∀ {bs:List Bool} {us:List Value},Vals (bs.map V.bl) us->LSm.BoolsAre us bs
 | [],_,.nil=>.nil
 | b :: bs,u :: us,.cons r t=>by
  have e:u=.bool b:=r;subst e;exact .cons b (j4 t)
theorem BF {X:Cx} (hc:X.calm=true):fZ X (.builtin "all") (fun xs H Q=>∃ p ys,∃ bs:List Bool,xs=[.ref p]/\SqL X.K H p ys/\ys=bs.map V.bl/\Q (.bl (bs.all id)) H):=by
 intro pins s σ H xs us Q I r h;obtain ⟨p,ys,bs,rfl,hq,rfl,q⟩:=h;obtain ⟨u,rfl,rx⟩:=je r;cases rx;obtain ⟨its,r',pl,hz⟩:=I.list hq;have hb:=j4 r';have hlt:p < s.heap.objs.size:=by obtain ⟨_,e,_⟩:=pl.isList;exact Heap.lt_size e
 refine call_all_walk (wpAny_pyIter_list pl.isList ?_);refine ⟨s.heap.objs.size,[s.heap.objs.size,p],[s.heap.objs.size],its.toArray.size,_,_,fun i=>(bs[i]?).getD true,rfl,Walks.list (A:=X.A.in1) (I.ok.hd hc) _ p (ZB hlt) its.toArray,
  ⟨⟨_,Heap.get?_push_size _ rfl,rfl,rfl⟩,pl.isList.push _⟩,fun i v s' Q' E' hP hQ=>?_,fun h' tk hk=>?_⟩
 . obtain ⟨b,e,rfl⟩:=hb.get i v (by simpa using hP)
   simp only [e,Option.getD_some] at hQ;exact wpAny_truthy_bool hQ
 . have e:((List.range its.toArray.size).all fun i=>(bs[i]?).getD true)=bs.all id:=by
    rw [Zz,hb.length];exact LSm.range_all bs
   rw [e];exact ⟨.bl _,H,I.kept (t':=tk) (LSm.kept_iter hk),rfl,q⟩
theorem BE {X:Cx} (hc:X.calm=true):fZ X (.builtin "any") (fun xs H Q=>∃ p ys,∃ bs:List Bool,xs=[.ref p]/\SqL X.K H p ys/\ys=bs.map V.bl/\Q (.bl (bs.any id)) H):=by
 intro pins s σ H xs us Q I r h;obtain ⟨p,ys,bs,rfl,hq,rfl,q⟩:=h;obtain ⟨u,rfl,rx⟩:=je r;cases rx;obtain ⟨its,r',pl,hz⟩:=I.list hq;have hb:=j4 r';have hlt:p < s.heap.objs.size:=by obtain ⟨_,e,_⟩:=pl.isList;exact Heap.lt_size e
 refine call_any_walk (wpAny_pyIter_list pl.isList ?_);refine ⟨s.heap.objs.size,[s.heap.objs.size,p],[s.heap.objs.size],its.toArray.size,_,_,fun i=>(bs[i]?).getD false,rfl,Walks.list (A:=X.A.in1) (I.ok.hd hc) _ p (ZB hlt) its.toArray,
  ⟨⟨_,Heap.get?_push_size _ rfl,rfl,rfl⟩,pl.isList.push _⟩,fun i v s' Q' E' hP hQ=>?_,fun h' tk hk=>?_⟩
 . obtain ⟨b,e,rfl⟩:=hb.get i v (by simpa using hP)
   simp only [e,Option.getD_some] at hQ;exact wpAny_truthy_bool hQ
 . have e:((List.range its.toArray.size).any fun i=>(bs[i]?).getD false)=bs.any id:=by
    rw [Zz,hb.length];exact LSm.range_any bs
   rw [e];exact ⟨.bl _,H,I.kept (t':=tk) (LSm.kept_iter hk),rfl,q⟩
theorem lC {K:Zu} {H:Hp} {xs:List V} {as ds:List D} (r:Reps K H xs as) (e:zl as=some ds):∃ p ys,xs=[.ref p]/\SqL K H p ys/\Reps K H ys ds:=by
 unfold zl at e;split at e
 . cases e;obtain ⟨x,rfl,rx⟩:=g8 r;cases rx with
   | @lst p vs _ hp rp=>exact ⟨p,vs,rfl,SqL.of hp,rp⟩
 . cases e;obtain ⟨x,rfl,rx⟩:=g8 r;cases rx with
   | @seq p vs _ hp rp=>exact ⟨p,vs,rfl,hp,rp⟩
 . cases e
theorem Fz {K:Zu}:jB K (fun xs H Q=>∃ p ys,∃ bs:List Bool,xs=[.ref p]/\SqL K H p ys/\ys=bs.map V.bl/\Q (.bl (bs.all id)) H) vV:=by
 intro xs H Q as d r e k;unfold vV at e;obtain ⟨ds,e1,e⟩:=Za.mp e;obtain ⟨bs,e2,e⟩:=Za.mp e;cases e;obtain ⟨p,ys,h1,h2,h3⟩:=lC r e1;exact ⟨p,ys,bs,h1,h2,j5 h3 e2,k _ H (Same.refl H) (.bl _)⟩
theorem Fy {K:Zu}:jB K (fun xs H Q=>∃ p ys,∃ bs:List Bool,xs=[.ref p]/\SqL K H p ys/\ys=bs.map V.bl/\Q (.bl (bs.any id)) H) Ff:=by
 intro xs H Q as d r e k;unfold Ff at e;obtain ⟨ds,e1,e⟩:=Za.mp e;obtain ⟨bs,e2,e⟩:=Za.mp e;cases e;obtain ⟨p,ys,h1,h2,h3⟩:=lC r e1;exact ⟨p,ys,bs,h1,h2,j5 h3 e2,k _ H (Same.refl H) (.bl _)⟩
theorem zj:bootBuiltins "all" = some (.builtin "all"):=by decide +kernel
theorem zh:bootBuiltins "any" = some (.builtin "any"):=by decide +kernel
end Dl
namespace Dl
open PySem PySem.Spec PyProof.Rows L2
end Dl
namespace Dl
open PySem PySem.Spec PyProof.Rows L2
def Gq (K:Zu):R2:=fun x y H Q=>∃ l b xs zs,x=.ref l/\y=.ref b/\SqL K H l xs/\SqL K H b zs/\xs.length+zs.length<=sizeLine/\∀ p,H p=none->Q (.ref p) (upd H p (.lst (xs++zs)))
theorem CD {X:Cx}:OpR X (binaryOp .Add) (Gq X.K):=by
 intro pins s σ H x y v u Q I rx ry h;obtain ⟨l,b,xs,zs,rfl,rfl,h1,h2,hz,q⟩:=h;cases rx;cases ry;obtain ⟨vs,r1,p1,_⟩:=I.list h1;obtain ⟨ws,r2,p2,_⟩:=I.list h2;obtain ⟨⟨k1,g1,a1,t1⟩,n1,o1,c1,_,i1⟩:=p1;obtain ⟨⟨k2,g2,a2,t2⟩,n2,o2,c2,_,i2⟩:=p2;simp only at c1 i1 c2 i2;subst c1 i1 c2 i2;have hl:=r1.length;have hl2:=r2.length;have ea:vs.toArray++ws.toArray=(vs++ws).toArray:=by simp
 refine concat_meets ⟨_,o1,rfl⟩ ⟨_,o2,rfl⟩ noFill_list_add seq_list_add PySem.F.slot_list_add
  PySem.F.entry_list_add (PySem.F.args_list_add_2 _ _)
  (list_addW l b vs.toArray ws.toArray n1 n2 g1 g2 t1 t2 (by rw [Zz,Zz];omega)) ⟨o1,o2,?_⟩
 rw [ea];exact ⟨.ref _,_,I.lnew (t':=s.toks) (r1.append r2) (by rw [Zh];omega),rfl,q _ I.fresh⟩
def xH (a b:D):Option D:=(asL a).bind fun xs=>(asL b).bind fun ys=>if xs.length+ys.length<=1000 then some (.lst (xs++ys)) else none
def iX (fa fb:FD):FM:=fun δ=>(f2 xH fa fb δ).bind fun d=>gJ d δ
theorem x9 {K:Zu} {H:Hp} {v:V} {d:D} {xs:List D} (r:Rep K H v d) (e:asL d=some xs):∃ p vs,v=.ref p/\SqL K H p vs/\Reps K H vs xs:=by
 cases r with
 | @lst p vs es hp rp=>cases e;exact ⟨p,vs,rfl,SqL.of hp,rp⟩
 | @seq p vs es hp rp=>cases e;exact ⟨p,vs,rfl,hp,rp⟩
 | _=>cases e
theorem nr {X:Cx} {a b:Expr} {fa fb:FD} {pos:Pos} (ha:PD X a fa) (hb:PD X b fb):PV X (.BinOp a .Add b pos) (iX fa fb):=imp (Ai CD ha hb) fun σ H Q ⟨F,δ,As,d,δ',RA,q,k⟩=>by
 unfold iX at q;obtain ⟨d0,e0,q⟩:=Za.mp q;obtain ⟨ds,rfl,rfl,rfl,hi⟩:=iQ q;unfold f2 at e0;obtain ⟨x,ex,e0⟩:=Za.mp e0;obtain ⟨y,ey,e0⟩:=Za.mp e0;refine ⟨_,x,RA.toS,ex,fun v H1 s1 r1=>⟨_,y,RA.toS.mono s1,ey,fun w H2 s2 r2=>?_⟩⟩
 unfold xH at e0;obtain ⟨xs,e1,e0⟩:=Za.mp e0;obtain ⟨ys,e2,e0⟩:=Za.mp e0;split at e0
 . rename_i hz;cases e0;obtain ⟨p,vs,rfl,h1,h2⟩:=x9 (r1.mono s2) e1;obtain ⟨q,ws,rfl,h3,h4⟩:=x9 r2 e2;exact ⟨p,q,vs,ws,rfl,rfl,h1,h3,by rw [h2.length,h4.length];exact db hz,fun l hl=>kc RA (s1.trans s2) (h2.append h4) hi hl k⟩
 . cases e0
end Dl
namespace Dl
open PySem PySem.Spec PyProof.Rows L2
theorem RepA.side {K:Zu} {F H:Hp} {σ:L2.St} {δ:DS} {As:Nat->List Addr} (R:RepA K F H σ δ As) {a:Addr} {vs ws:List V} (h:H a=some (.lst vs)) (n:F a=none) (dj:∀ i,a ∉ As i):RepA K F (upd H a (.lst ws)) σ δ As:=by
 have ne:∀ x,x ≠ a->upd H a (.lst ws) x=H x:=fun x hx=>aB hx
 refine ⟨fun x u e=>?_,R.len,fun i d q=>?_,R.non,R.nd,R.dj⟩
 . have hx:x ≠ a:=fun z=>by rw [z,n] at e;cases e
   rw [ne x hx];exact R.fz x u e
 . obtain ⟨v,h1,h2⟩:=R.val i d q;refine ⟨v,h1,h2.frame (fun x u e k=>?_) fun x m=>ne x fun z=>dj i (z ▸ m)⟩
   have hx:x ≠ a:=fun z=>by rw [z,h] at e;cases e;exact nomatch (show true=false from k)
   rw [ne x hx];exact e
end Dl
namespace Dl
open PySem PySem.Spec PyProof.Rows L2
structure CompG (X:Cx) (scope:Scope) (cl:List (Str×Addr)) (T N:List Str) (js:List Nat):Prop where
 clos:closureFor scope X.env=pure cl
 nocell:∀ y∈scope.names,y.2 ≠ .cell
 kind:scope.kind=.function
 names:∀ y∈scope.names,y.2=.local->scope.names.lookup y.1=some .local
 nd:N.Nodup
 len:N.length=T.length+js.length
 clx:∀ y,T.contains y=true->cl.lookup y=none
 cls:∀ y c,cl.lookup y=some c->X.env.cells.lookup y=some c
 has:∀ y,((relabel scope X.env).names.lookup y=some .cell \/ (relabel scope X.env).names.lookup y=some .free)->∃ c,cl.lookup y=some c
 fr:∀ i y j,N[T.length+i]? = some y->js[i]? = some j->X.N[j]? = some y/\X.env.scope.names.lookup y=some .cell/\(relabel scope X.env).names.lookup y=some .cell/\∀ c,X.env.cells.lookup y=some c->cl.lookup y=some c
abbrev cX (X:Cx) (scope:Scope) (cl:List (Str×Addr)) (T N:List Str) (C:Addr) (s₂:Shared) (H₂:Hp) (fp:List Addr) (pn:List (Addr×Obj)):Cx :=
 { X with env:=compEnvC scope cl C X.env,N:=N,s₀:=s₂,H₀:=H₂,outer:=X.stack,stack:=X.stack,ex:=fp,fn:=fun y=>T.contains y,calm:=true,pn:=pn,xe:=fun _ _=>False }
theorem kh {y:Str}:∀ {cl:List (Str×Addr)},y∈cl.map (·.1)->∃ c,cl.lookup y=some c
 | [],h=>by cases h
 | (z,c) :: cl,h=>by
  by_cases hy:y=z
  . subst hy;exact ⟨c,by simp⟩
  . have q:(y == z)=false:=beq_eq_false_iff_ne.mpr hy;rw [List.lookup_cons,q];refine kh ?_;rcases Zq.mp h with e | e
    . exact absurd e hy
    . exact e
theorem CompG.of {X:Cx} {scope:Scope} {cl:List (Str×Addr)} {T Z Y:List Str} {js:List Nat} (clos:closureFor scope X.env=pure cl:=by rfl) (hY:cl.map (·.1)=Y:=by rfl) (nocell:∀ y∈scope.names,y.2 ≠ .cell:=by decide +kernel) (kind:scope.kind=.function:=by rfl)
 (names:∀ y∈scope.names,y.2=.local->scope.names.lookup y.1=some .local:=by decide +kernel) (nd:(T++Z).Nodup:=by decide +kernel) (len:Z.length=js.length:=by rfl) (dis:∀ y∈T,y ∉ Y:=by decide +kernel)
 (hcl:∀ p∈cl,X.env.cells.lookup p.1=some p.2) (hfr:∀ p∈scope.names,p.2=.free->p.1∈Y:=by decide +kernel) (hZ:∀ y∈Z,y∈Y:=by decide +kernel)
 (hN:∀ (i:Nat) y j,Z[i]? = some y->js[i]? = some j->X.N[j]? = some y/\X.env.scope.names.lookup y=some .cell/\(relabel scope X.env).names.lookup y=some .cell):CompG X scope cl T (T++Z) js where
 clos:=clos
 nocell:=nocell
 kind:=kind
 names:=names
 nd:=nd
 len:=by rw [Zh,len]
 clx:=fun y hy=>by
  cases q:cl.lookup y with
  | none=>rfl
  | some c =>
   have m:y∈Y:=by
    rw [<- hY];exact Zn.mpr ⟨_,PySem.mem_of_lookup q,rfl⟩
   exact absurd m (dis y (List.contains_iff_mem.mp hy))
 cls:=fun y c h=>hcl _ (PySem.mem_of_lookup h)
 has:=fun y h=>by
  obtain ⟨p,m,f,rfl⟩:=Dd nocell h;exact kh (by rw [hY];exact hfr p m f)
 fr:=fun i y j h1 h2=>by
  rw [List.getElem?_append_right (Nat.le_add_right _ _),Nat.add_sub_cancel_left] at h1;obtain ⟨a,b,c⟩:=hN i y j h1 h2;refine ⟨a,b,c,fun e he=>?_⟩
  obtain ⟨e',he'⟩:=kh (cl:=cl) (y:=y) (by rw [hY];exact hZ y (List.mem_of_getElem? h1))
  have:=hcl _ (PySem.mem_of_lookup he');dsimp only at this;rw [he] at this;cases this;exact he'
def FL (X:Cx) (ifs:List Expr) (f:FT):Prop:=∀ (pins:List (Addr×Obj)) (s:Shared) (σ:L2.St) (H:Hp) (Q:Bool->Hp->Prop),L2.Inv X pins σ H s->upT X.K f σ H Q ->
 wpAny (model X.prog X.w) X.A (forIn ifs true fun c r=>if r=true then do let ok <- isTrue c X.env (eval c X.env);pure (ForInStep.yield ok) else pure (ForInStep.yield r)) (TP X pins σ Q) X.xe s
theorem xh {X:Cx} {c:Expr} {f:FT} (h:PTD X c f):FL X [c] f:=fun pins s σ H Q I q=>wpAny_tests_one (h pins s σ H Q I q)
def Dx (δ δ':DS):Prop:=δ'.length=δ.length/\∀ (i:Nat) d,δ[i]? = some (some d)->δ'[i]? = some (some d)
theorem RepS.weak {K:Zu} {H:Hp} {σ:L2.St} {δ δ':DS} (R:RepS K H σ δ') (w:Dx δ δ'):RepS K H σ δ:=⟨R.len.trans w.1,fun i d q=>R.val i d (w.2 i d q)⟩
def fQ (n:Nat) (δ:DS):DS:=List.replicate n none++δ
theorem qj:∀ (is:List Nat) (ds:List D) {n:Nat} {δ0 δ:DS},(∀ i∈is,i < n)->Dx (fQ n δ0) δ->Dx (fQ n δ0) (zD is ds δ)
 | [],_,_,_,_,_,k=>k
 | _ :: _,[],_,_,_,_,k=>k
 | i :: is,d :: ds,n,δ0,δ,hi,k=>qj is ds (fun j m=>hi j (Zl _ m)) ⟨by rw [List.length_set];exact k.1,fun j e q=>by
  have hj:n<=j:=Nat.le_of_not_lt fun hlt=>by
   unfold fQ at q;rw [List.getElem?_append_left (by simpa using hlt),List.getElem?_replicate,if_pos hlt] at q
   cases q
  have:=hi i Zk;rw [List.getElem?_set_ne (by omega)]
  exact k.2 j e q⟩
def BM (n:Nat) (g:D->DS->Option DS):Prop:=∀ d δ0 δ1,g d (fQ n δ0)=some δ1->Dx (fQ n δ0) δ1
theorem qN {n:Nat} (i:Nat) (h:i < n):BM n (lg i):=fun d δ0 δ1 e=>by
 cases e;exact qj [i] [d] (fun j m=>by simp at m;subst m;exact h) ⟨rfl,fun _ _ q=>q⟩
def iP (f:D->Option (Option D)):List D->Option (List D)
 | []=>some []
 | d :: ds=>(f d).bind fun o=>(iP f ds).bind fun xs=>some (o.toList++xs)
theorem ud {f:D->Option (Option D)}:∀ {ds es:List D} {xs ys:List D},iP f ds=some xs->iP f es=some ys->iP f (ds++es)=some (xs++ys)
 | [],es,xs,ys,h,g=>by cases h;exact g
 | d :: ds,es,xs,ys,h,g=>by
  obtain ⟨o,eo,h⟩:=Za.mp (show ((f d).bind _)=some xs from h)
  obtain ⟨zs,ez,h⟩:=Za.mp h;cases h;show ((f d).bind _)=_;rw [eo];show ((iP f (ds++es)).bind _)=_;rw [ud ez g,List.append_assoc];rfl
theorem qB {f:D->Option (Option D)}:∀ {ds xs:List D},iP f ds=some xs->∀ i,∃ ys,iP f (ds.take i)=some ys/\ys.length<=xs.length
 | [],xs,h,i=>⟨[],by simp [iP],Nat.zero_le _⟩
 | d :: ds,xs,h,0=>⟨[],rfl,Nat.zero_le _⟩
 | d :: ds,xs,h,i+1=>by
  obtain ⟨o,eo,h⟩:=Za.mp (show ((f d).bind _)=some xs from h)
  obtain ⟨zs,ez,h⟩:=Za.mp h;cases h;obtain ⟨ys,e,l⟩:=qB ez i;refine ⟨o.toList++ys,?_,by simp;exact l⟩
  show ((f d).bind _)=_;rw [eo];show ((iP f (ds.take i)).bind _)=_;rw [e];rfl
theorem xr {f:D->Option (Option D)}:∀ {ds xs:List D},iP f ds=some xs->∀ (i:Nat) d,ds[i]? = some d->∃ o,f d=some o
 | [],_,_,i,d,e=>by simp at e
 | d :: ds,xs,h,0,d',e=>by
  obtain ⟨o,eo,h⟩:=Za.mp (show ((f d).bind _)=some xs from h)
  simp at e;subst e;exact ⟨o,eo⟩
 | d :: ds,xs,h,i+1,d',e=>by
  obtain ⟨o,eo,h⟩:=Za.mp (show ((f d).bind _)=some xs from h)
  obtain ⟨zs,ez,h⟩:=Za.mp h;exact xr ez i d' (by simpa using e)
def gB (n:Nat) (js:List Nat) (g:D->DS->Option DS) (fc:FT) (felt:FM) (δ:DS) (d:D):Option (Option D):=(g d (fQ n (bv js δ))).bind fun δ1=>(fc δ1).bind fun b=>if b then (ownOf felt (shO δ1)).map some else some none
def nU (src:FA) (n:Nat) (js:List Nat) (g:D->DS->Option DS) (fc:FT) (felt:FM):FM:=fun δ=>(src δ).bind fun ds=>(iP (gB n js g fc felt δ) ds).bind fun xs=>if xs.length<=1000 then some (.lst xs,δ) else none
theorem pv {prog:Program} {w:World} {A:Around} {R:Result->Shared->Prop} {s:Shared} {elt target iter:Expr} {ifs:List Expr} {scope:Scope} {pos:Pos} {it acc:Value} {env:Env} (J:Nat->Shared->Prop)
 (turn:∀ n s,J n s->wpAny (model prog w) A (pyNext it) (fun r s₁=>match r with
  | none=>R (.ok .next) s₁
  | some v=>wpAny (model prog w) A (letOwnedTupleGo target it v) (fun _ s₂=>wpAny (model prog w) A (assign target env v) (fun _ s₃ =>
   wpAny (model prog w) A (forIn ifs true fun c r=>if r=true then do let ok <- isTrue c env (eval c env);pure (ForInStep.yield ok) else pure (ForInStep.yield r)) (fun ok sT =>
   if ok=true then wpAny (model prog w) A (eval elt env) (fun y s₄ =>
   wpAny (model prog w) A (call (.builtin "list.append") [acc,y]) (fun _ s₅=>∃ m,m < n/\J m s₅) (fun _ _=>False) s₄) (fun _ _=>False) sT else ∃ m,m < n/\J m sT) (fun _ _=>False) s₃) (fun _ _=>False) s₂) (fun _ _=>False) s₁) (fun _ _=>False) s)
 (n:Nat) (h:J n s):codeAny (model prog w) A (.compLoop (.ListComp elt [⟨target,iter,ifs,0⟩] scope pos) 0 it acc env) R s:=by
 refine codeAny_loop rfl J (fun n s j=>wpAny_noted (m:=compTurn (.ListComp elt [⟨target,iter,ifs,0⟩] scope pos) 0 it acc env) (compTurn_list elt target iter ifs scope pos it acc env▸wpAny_bind (wpAny_standAt (bindF (turn n s j) fun r _ q=>?_)))) n h
 cases r with
 | none=>exact wpAny_pure q
 | some v=>
  exact bindF q fun _ _ q=>bindF q fun _ _ q=>bindF q fun b _ q=>by
   cases b with
   | false=>exact wpAny_pure ⟨rfl,q⟩
   | true=>exact wpAny_bind (bindF q fun _ _ q=>bindF q fun _ _ q=>wpAny_pure (wpAny_pure ⟨rfl,q⟩))
section
variable {X:Cx} {pins:List (Addr×Obj)} {σ:L2.St} {H₂:Hp} {s₂:Shared} {scope:Scope} {cl:List (Str×Addr)} {T N:List Str} {js:List Nat} {C:Addr} {fp:List Addr}
theorem wa (I:L2.Inv X pins σ H₂ s₂) (hcm:X.calm=true) (O:CompG X scope cl T N js) (hC:s₂.heap.objs.size<=C) (hf:∀ b∈fp,jS X pins H₂ b) (ho:∀ b∈fp,∃ o,s₂.heap.get? b=some o):(cX X scope cl T N C s₂ H₂ fp (X.pn++pins)).Ok where
 mod:=I.ok.mod
 kind:=O.kind
 glob:=I.ok.glob
 blt:=I.ok.blt
 above:=hC
 inj:=fun y z c h1 h2=>I.ok.inj y z c (O.cls y c h1) (O.cls z c h2)
 has:=fun y h=>O.has y h
 cab:=fun y c h1 h2=>by
  have:cl.lookup y=some c:=h2;rw [O.clx y h1] at this;cases this
 hd:=fun _=>I.ok.hd hcm
 frames:=I.ok.frames
 stk:=.inl rfl
 exf:=fun b hb=>by
  obtain ⟨o,e⟩:=ho b hb;refine ⟨ZB (Zw (Heap.lt_size e) hC),fun y c h z=>?_⟩
  exact (hf b hb).2.2.2.2.1 y c (O.cls y c h) z
 bs:=I.bs
 bsz:=Nat.le_trans I.ok.bsz I.sz
 noex:=fun b o e hb=>by
  rcases (hf b hb).2.2.2.1 with z | z
  . exact I.ok.noex b o e z
  . exact absurd (Zw (Heap.lt_size e) (Nat.le_trans I.ok.bsz z)) (ZC _)
 exfs:=fun b hb z=>by
  rcases Zq.mp (I.stkSub b z) with e | e
  . exact (hf b hb).2.1 e
  . exact (hf b hb).2.2.1 e
 funs:=I.stack
 frf:=I.stkFree
theorem uT {h₁:Heap} {m:Str->Option Value} {tk:Nat} (I:L2.Inv X pins σ H₂ s₂) (hcm:X.calm=true) (O:CompG X scope cl T N js) (hC:s₂.heap.objs.size<=C) (hf:∀ b∈fp,jS X pins H₂ b) (ho:∀ b∈fp,∃ o,s₂.heap.get? b=some o)
 (old:∀ b o,s₂.heap.get? b=some o->h₁.get? b=some o) (hns:h₁.Ns C m) (hl:σ.length=X.N.length):L2.Inv (cX X scope cl T N C s₂ H₂ fp (X.pn++pins)) [] (List.replicate T.length none++dh js σ) H₂ { s₂ with heap:=h₁,toks:=tk } where
 ok:=wa I hcm O hC hf ho
 os:=rfl
 bare:=I.bare
 base:=Un.kept old
 loc:=by
  refine ⟨m,hns,fun i y v h1 h2 h3=>?_⟩
  by_cases hi:i < T.length
  . rw [List.getElem?_append_left (by simpa using hi),List.getElem?_replicate,if_pos hi] at h2
    cases h2
  . obtain ⟨i,rfl⟩:∃ k,i=T.length+k:=⟨i - T.length,by omega⟩
    have h2':(dh js σ)[i]? = some (some v):=by
     rw [List.getElem?_append_right (by simp)] at h2
     simpa using h2
    unfold dh at h2';rw [ZD] at h2';obtain ⟨j,hj,h4⟩:=Zb.mp h2';have h5:σ[j]? = some (some v):=by
     cases q:σ[j]? with
     | none=>rw [q] at h4;cases h4
     | some o=>rw [q] at h4;exact congrArg some h4
    obtain ⟨f1,f2,f3,f4⟩:=O.fr i y j h1 hj;obtain ⟨m',hn',hl'⟩:=I.loc;obtain ⟨u,ru,lk⟩:=hl' j y v f1 h5 (.inr (.inl f2));refine ⟨u,ru,?_⟩;rcases lk with ⟨k1,_⟩ | ⟨_,c,hc,o,hco,hcd⟩
    . have:X.env.scope.names.lookup y=some .local:=k1;rw [f2] at this;cases this
    . exact .inr ⟨.inl f3,c,f4 c hc,o,old c o hco,hcd⟩
 cell:=fun y c e=>by
  obtain ⟨v,o,h1,h2⟩:=I.cell y c (O.cls y c e);exact ⟨v,o,old c o h1,h2⟩
 free:=I.hok.fresh hC
 freeC:=fun y c e=>I.freeC y c (O.cls y c e)
 pin:=fun p hp=>by
  have hp':p∈X.pn++pins:=by simpa using hp
  obtain ⟨h1,h2,h3,h4,h5⟩:=I.pin p hp';refine ⟨old _ _ h1,h2,ZB (Zw (Heap.lt_size h1) hC),fun z=>?_,h5⟩
  rcases Zq.mp (I.stkSub p.1 z) with e | e
  . exact h3 e
  . exact h4 e
 hok:=I.hok.kept old
 len:=by
  show (List.replicate T.length none++dh js σ).length=N.length;rw [O.len];simp [dh]
theorem vj {K:Zu} {H:Hp} {σ:L2.St} {δ:DS} (R:RepS K H σ δ) (n:Nat) (js:List Nat):RepS K H (List.replicate n none++dh js σ) (fQ n (bv js δ)):=by
 refine ⟨by simp [dh,bv,fQ],fun i d q=>?_⟩
 unfold fQ at q
 by_cases hi:i < n
 . rw [List.getElem?_append_left (by simpa using hi),List.getElem?_replicate,if_pos hi] at q
   cases q
 . obtain ⟨k,rfl⟩:∃ k,i=n+k:=⟨i - n,by omega⟩
   rw [List.getElem?_append_right (by simp)] at q ⊢
   have q':(none :: bv js δ)[k+1]? = some (some d):=by simpa using q
   obtain ⟨v,h1,h2⟩:=(lE R js).val (k+1) d q';exact ⟨v,by simpa using h1,h2⟩
theorem uU {elt tg iter:Expr} {ifs:List Expr} {pos:Pos} {it:Addr} {tn:Nat->Heap->Prop} {J:It} {ds xs:List D} {δ:DS} {g:D->DS->Option DS} {fc:FT} {felt:FM} {RR:Value->Addr->Result->Shared->Prop} {E:Value->Shared->Prop} (I:L2.Inv X pins σ H₂ s₂) (hcm:X.calm=true) (O:CompG X scope cl T N js)
 (TT:wz X.prog X.w X.K tg J fp it tn) (st:tn 0 s₂.heap) (hf:∀ b∈fp,jS X pins H₂ b) (itd:ItD X.K J H₂ ds) (R:RepS X.K H₂ σ δ) (hg:∀ C s₂ H₂ fp pn,PGD (cX X scope cl T N C s₂ H₂ fp pn) tg g) (fl:BM T.length g) (hc:∀ C s₂ H₂ fp pn,FL (cX X scope cl T N C s₂ H₂ fp pn) ifs fc) (he:∀ C s₂ H₂ fp pn,PV (cX X scope cl T N C s₂ H₂ fp pn) elt felt)
 (hm:iP (gB T.length js g fc felt δ) ds=some xs) (hz:xs.length<=1000)
 (hRR:∀ (D C:Addr) (s':Shared) (Hend:Hp) (vs:List V),s₂.heap.objs.size<=C->L2.Inv X pins σ Hend s'->Same H₂ Hend->Hend D=some (.lst vs)->(∃ Acc,RepOs X.K H₂ Hend vs xs Acc/\Acc.Nodup/\D ∉ Acc/\H₂ D=none)->(∃ m,s'.heap.Ns C m)->Hend C=none->RR (.ref D) C (.ok .next) s') :
 wpAny (model X.prog X.w) X.A (newList []) (fun acc s₃=>wpAny (model X.prog X.w) X.A (newFunctionEnv scope X.env.globals cl [] X.env.qual none .none (some X.env)) (fun cenv s₄ =>
  codeAny (model X.prog X.w) X.A (.compStart (.ListComp elt [⟨tg,iter,ifs,0⟩] scope pos) 0 (.ref it) acc { cenv with scope:=relabel scope X.env }) (RR acc cenv.locals) s₄) E s₃) E s₂:=by
 have objs:=TT.obj 0 s₂.heap st;have objs':∀ b∈fp,∃ o,s₂.heap.get? b=some o:=fun b hb=>let ⟨o,h,_⟩:=objs b hb;⟨o,h⟩
 refine wpAny_newObj_type (wpAny_newFunctionEnv O.nocell (by intro y hy;simp at hy) (fun h₁ hns₁ hsb₁=>?_) O.kind)
 dsimp only at hns₁ hsb₁ ⊢;generalize hP:s₂.heap.push { cls:=.type "list",dict:=none,data:=.seq ([]:List Value).toArray }=P2 at hns₁ hsb₁ ⊢;have hC:P2.objs.size=s₂.heap.objs.size+1:=by rw [<- hP,Heap.size_push]
 generalize hCC:P2.objs.size=C at *
 have hCle:s₂.heap.objs.size<=C:=by omega
 have hDle:s₂.heap.objs.size<=s₂.heap.objs.size:=by omega
 have hDC:s₂.heap.objs.size ≠ C:=by omega
 have old:∀ b o,s₂.heap.get? b=some o->h₁.get? b=some o:=fun b o e=>by
  refine hsb₁.extBut b o (ZB (Zw (Heap.lt_size e) hCle)) (Heap.get?_push_of_some _ ?_);rw [<- hP];exact Heap.get?_push_of_some _ e
 have hacc:h₁.get? s₂.heap.objs.size=some { cls:=.type "list",data:=.seq ([]:List Value).toArray }:=by
  refine hsb₁.extBut s₂.heap.objs.size _ hDC (Heap.get?_push_of_some _ ?_);rw [<- hP];exact Heap.get?_push_size _ rfl
 have I0:=fun tk=>uT (C:=C) (tk:=tk) I hcm O hCle hf objs' old hns₁ I.len
 have dstk:s₂.heap.objs.size ∉ frs X.stack:=jq I hDle;have fne:∀ b∈fp,b ≠ s₂.heap.objs.size:=fun b hb e=>by
  obtain ⟨o,h⟩:=objs' b hb;exact absurd (Heap.lt_size h) (by rw [e];exact ZC _)
 have cne:∀ y c,cl.lookup y=some c->c ≠ s₂.heap.objs.size:=fun y c e z=>by
  obtain ⟨v,o,h1,_⟩:=I.cell y c (O.cls y c e);exact absurd (Heap.lt_size h1) (by rw [z];exact ZC _)
 have pne:∀ p∈X.pn++pins,p.1 ≠ s₂.heap.objs.size:=fun p hp e=>by
  exact absurd (Heap.lt_size (I.pin p hp).1) (by rw [e];exact ZC _)
 have stat:∀ {H':Hp} {pl:List (Addr×Obj)},(∀ b∈fp,H' b=none)->(∀ p∈pl,∀ b∈fp,p.1 ≠ b)->∀ b∈fp,jS (cX X scope cl T N C s₂ H₂ fp (X.pn++pins)) pl H' b:=fun {H' pl} hn hpl b hb=>by
  obtain ⟨o,h⟩:=objs' b hb;refine ⟨hn b hb,ZB (Zw (Heap.lt_size h) hCle),fun z=>?_,.inl hb,fun y c e=>(hf b hb).2.2.2.2.1 y c (O.cls y c e),fun p hp=>?_⟩
  . rcases Zq.mp (I.stkSub b z) with e | e
    . exact (hf b hb).2.1 e
    . exact (hf b hb).2.2.1 e
  . rcases Zp.mp hp with q | q
    . exact (hf b hb).2.2.2.2.2 p q
    . exact hpl p q b hb
 have loop:∀ s₃:Shared,s₃={ s₂ with heap:=h₁,toks:=s₂.toks+([]:List (Str×Value)).length } ->
  codeAny (model X.prog X.w) X.A (.compLoop (.ListComp elt [⟨tg,iter,ifs,0⟩] scope pos) 0 (.ref it) (.ref s₂.heap.objs.size) (compEnvC scope cl C X.env)) (RR (.ref s₂.heap.objs.size) C) s₃:=by
  rintro s₃ rfl
  refine pv (fun n s=>∃ (i:Nat) (σ':L2.St) (H':Hp) (vs:List V) (ys:List D),n=ds.length - i/\i<=ds.length/\L2.Inv (cX X scope cl T N C s₂ H₂ fp (X.pn++pins)) [] σ' H' s/\Same H₂ H'/\RepS X.K H' σ' (fQ T.length (bv js δ))/\tn i s.heap/\(∀ b∈fp,H' b=none) /\
   (∃ (its:List Value) (k:Nat),Vals vs its/\s.heap.get? s₂.heap.objs.size=some { cls:=.type "list",data:=.seq its.toArray k })/\H' s₂.heap.objs.size=none/\(∃ Acc,RepOs X.K H₂ H' vs ys Acc/\Acc.Nodup)/\iP (gB T.length js g fc felt δ) (ds.take i)=some ys/\ys.length<=1000) ?_ ds.length
   ⟨0,_,H₂,[],[],rfl,Nat.zero_le _,I0 _,Same.refl _,vj R _ js,TT.keep 0 _ _ st (fun b hb o e=>old b o e),fun b hb=>(hf b hb).1,⟨[],0,.nil,hacc⟩,I.hok.fresh hDle,⟨[],.nil,List.nodup_nil⟩,rfl,Nat.zero_le _⟩
  rintro n s ⟨i,σ',H',vs,ys,rfl,hi,I',sm,R',st',fr',⟨its,k,rv,hD⟩,fD,⟨Acc,rr,nda⟩,hys,hyl⟩
  by_cases hlt:i < ds.length
  . -- one more
    obtain ⟨go,yl⟩:=(itd i H' sm).1 hlt;have hd0:ds[i]? = some ds[i]:=by simp [hlt]
    obtain ⟨oe,ge⟩:=xr hm i _ hd0;have hys1:iP (gB T.length js g fc felt δ) (ds.take (i+1))=some (ys++oe.toList):=by
     have e8:ds.take (i+1)=ds.take i++[ds[i]]:=by rw [List.take_add_one,hd0];rfl
     rw [e8];refine ud hys ?_;show ((gB T.length js g fc felt δ ds[i]).bind _)=_;rw [ge];simp [iP]
    have hyl1:(ys++oe.toList).length<=1000:=by
     obtain ⟨zs,ez,l⟩:=qB hm (i+1);rw [hys1] at ez;cases ez;omega
    unfold gB at ge;obtain ⟨δ1,eδ1,ge⟩:=Za.mp ge;obtain ⟨ok,eok,ge⟩:=Za.mp ge;have kp:=fl _ _ _ eδ1;have I1:L2.Inv (cX X scope cl T N C s₂ H₂ fp (X.pn++pins)) [(s₂.heap.objs.size,{ cls:=.type "list",data:=.seq its.toArray k })] σ' H' s:=I'.pins_of fun p hp=>by
     have:p=(s₂.heap.objs.size,{ cls:=.type "list",data:=.seq its.toArray k }):=by simpa using hp
     subst this;exact ⟨hD,fD,hDC,dstk,fun v z=>by cases z⟩
    refine thn (TT.item (cX X scope cl T N C s₂ H₂ fp (X.pn++pins)) rfl rfl rfl rfl i _ s σ' H' (fun _ _=>False) I1 (stat fr' fun p hp b hb=>by
     have:p=(s₂.heap.objs.size,{ cls:=.type "list",data:=.seq its.toArray k }):=by simpa using hp
     subst this;exact (fne b hb).symm) st' go) fun r s1 ⟨u,hr,h4⟩=>?_
    subst hr;refine thn h4 fun _ s2 ⟨y,H'',I2,ru,yy,st2,fr2⟩=>?_
    obtain ⟨s3,d,hd,rd⟩:=yl y H'' yy;have hd':d=ds[i]:=by rw [hd0] at hd;exact (ZA hd).symm
    subst hd';have I3:=I2.pinned (stat fr2 fun p hp b hb=>by
     have:p=(s₂.heap.objs.size,{ cls:=.type "list",data:=.seq its.toArray k }):=by simpa using hp
     subst this;exact (fne b hb).symm) (TT.obj _ _ st2)
    refine thn (hg C s₂ H₂ fp (X.pn++pins) _ s2 σ' H'' y u (fun σ4 H4=>RepS X.K H4 σ4 δ1/\H4=H'') I3 ru ⟨_,_,δ1,rd,R'.mono s3,eδ1,fun σ4 r4=>⟨r4,rfl⟩⟩) fun _ s4 ⟨σ4,H4,I4,R4,e2⟩=>?_
    subst e2;refine thn (hc C s₂ H₂ fp (X.pn++pins) _ s4 σ4 H4 (fun b H5=>b=ok/\Same H4 H5) I4 ⟨δ1,ok,R4,eok,fun H5 s5=>⟨rfl,s5⟩⟩) fun okv sT ⟨HT,IT,hok',sT4⟩=>?_
    have hDT:sT.heap.get? s₂.heap.objs.size=some { cls:=.type "list",data:=.seq its.toArray k }:=(IT.pin (s₂.heap.objs.size,{ cls:=.type "list",data:=.seq its.toArray k }) (by simp)).1
    have fDT:HT s₂.heap.objs.size=none:=(IT.pin (s₂.heap.objs.size,{ cls:=.type "list",data:=.seq its.toArray k }) (by simp)).2.1
    have RT:RepS X.K HT σ4 δ1:=R4.mono sT4;have lz:its.length<=1000:=by
     have:=rv.length;have:=rr.len;omega
    cases ok with
    | false =>
     cases ge;rw [hok',if_neg (by decide)]
     have pf:∀ b∈fp,∀ ob,s2.heap.get? b=some ob->sT.heap.get? b=some ob/\HT b=none:=fun b hb ob hob=>by
      have:=IT.pin (b,ob) (Zx _ (Zx _ (fq hb hob)));exact ⟨this.1,this.2.1⟩
     simp only [Option.toList_none,List.append_nil] at hys1;refine ⟨ds.length - (i+1),by omega,i+1,σ4,HT,vs,ys,rfl,hlt,IT.pins_of (pins':=[]) (fun p hp=>by simp at hp),(sm.trans s3).trans sT4,RT.weak kp,?_,?_,⟨its,k,rv,hDT⟩,fDT,?_,hys1,hyl⟩
     . refine TT.keep _ _ _ st2 fun b hb ob hob=>(pf b hb ob hob).1
     . intro b hb;obtain ⟨ob,hob,_⟩:=TT.obj _ _ st2 b hb;exact (pf b hb ob hob).2
     . refine ⟨Acc,rr.frame (bO (s3.trans sT4)) (fun a m=>?_),nda⟩
       obtain ⟨⟨ws,e⟩,_⟩:=rr.dom a m;rw [e];exact (s3.trans sT4) a _ e
    | true =>
     rw [hok',if_pos rfl];obtain ⟨e,ge2,eo⟩:=Zb.mp (show (ownOf felt (shO δ1)).map some=some oe from ge)
     subst eo;refine thn (he C s₂ H₂ fp (X.pn++pins) _ sT σ4 HT (fun v H5=>Same HT H5/\∃ A,RepO X.K H₂ H5 v e A/\A.Nodup/\∀ a∈A,HT a=none) IT (DP ge2 RT ((sm.trans s3).trans sT4))) fun wv s5 ⟨v,H5,I5,rw5,s45,A5,r5,nd5,fr5⟩=>?_
     have hD5:s5.heap.get? s₂.heap.objs.size=some { cls:=.type "list",data:=.seq its.toArray k }:=(I5.pin (s₂.heap.objs.size,{ cls:=.type "list",data:=.seq its.toArray k }) (by simp)).1
     have fD5:H5 s₂.heap.objs.size=none:=(I5.pin (s₂.heap.objs.size,{ cls:=.type "list",data:=.seq its.toArray k }) (by simp)).2.1
     have pf:∀ b∈fp,∀ ob,s2.heap.get? b=some ob->s5.heap.get? b=some ob/\H5 b=none:=fun b hb ob hob=>by
      have:=I5.pin (b,ob) (Zx _ (Zx _ (fq hb hob)));exact ⟨this.1,this.2.1⟩
     refine call_meets F.slot_list_append ⟨_,hD5,rfl⟩ F.entry_list_append (F.args_list_append_2 _ _) (PySem.list_append s₂.heap.objs.size its.toArray k wv (by rw [Zz];exact db lz)) ⟨hD5,?_⟩
     have q:=PySem.IsL.update hD5 (fun a=>a.push wv)
     have I6:L2.Inv (cX X scope cl T N C s₂ H₂ fp (X.pn++pins)) [] σ4 H5 { s5 with heap:=s5.heap.update s₂.heap.objs.size (Obj.mapSeq fun a=>a.push wv),toks:=s5.toks } :=
      (I5.pins_of (pins':=[]) fun p hp=>by simp at hp).turned (it:=s₂.heap.objs.size) (t':=s5.toks) (fun b ob hb hu=>(Heap.get?_update_other s5.heap _ (Ne.symm hb)).trans hu) fD5 hDC (.inr hDle) cne (fun p hp=>by
       rcases Zp.mp hp with z | z
       . exact pne p z
       . simp at z)
     refine ⟨ds.length - (i+1),by omega,i+1,σ4,H5,vs++[v],ys++[e],rfl,hlt,I6,((sm.trans s3).trans sT4).trans s45,(RT.mono s45).weak kp,?_,?_,?_,fD5,?_,hys1,hyl1⟩
     . refine TT.keep _ _ _ st2 fun b hb ob hob=>?_
       exact (Heap.get?_update_other s5.heap _ (Ne.symm (fne b hb))).trans (pf b hb ob hob).1
     . intro b hb;obtain ⟨ob,hob,_⟩:=TT.obj _ _ st2 b hb;exact (pf b hb ob hob).2
     . have hf7:its.toArray.push wv=(its++[wv]).toArray:=by simp
       rw [hf7] at q;exact ⟨its++[wv],_,rv.append (.cons rw5 .nil),q⟩
     . exact yc rr nda ((s3.trans sT4).trans s45) r5 nd5 fun a m=>cn (s3.trans sT4) (fr5 a m)
  . -- the end
    have hie:i=ds.length:=by omega
    refine thn (TT.done (cX X scope cl T N C s₂ H₂ fp (X.pn++pins)) rfl rfl rfl rfl i [(s₂.heap.objs.size,{ cls:=.type "list",data:=.seq its.toArray k })] s σ' H' (fun _ _=>False) (I'.pins_of fun p hp=>by
     have:p=(s₂.heap.objs.size,{ cls:=.type "list",data:=.seq its.toArray k }):=by simpa using hp
     subst this;exact ⟨hD,fD,hDC,dstk,fun v z=>by cases z⟩) (stat fr' fun p hp b hb=>by
     have:p=(s₂.heap.objs.size,{ cls:=.type "list",data:=.seq its.toArray k }):=by simpa using hp
     subst this;exact (fne b hb).symm) st' ((itd i H' sm).2 (by omega))) fun r s1 ⟨hr,I8⟩=>?_
    subst hr;have hD8:s1.heap.get? s₂.heap.objs.size=some { cls:=.type "list",data:=.seq its.toArray k }:=(I8.pin (s₂.heap.objs.size,{ cls:=.type "list",data:=.seq its.toArray k }) (by simp)).1
    have hxs:ds.take i=ds:=List.take_of_length_le (by omega)
    rw [hxs,hm] at hys;cases hys;have sn:=bQ fD (.lst vs);have dn:∀ b,∀ u,H' b=some u->b ≠ s₂.heap.objs.size:=fun b u z=>bw z fD
    have un:Un (frs X.stack) fp H₂ (upd H' s₂.heap.objs.size (.lst vs)) s₂.heap s1.heap:=by
     have b0:=I8.base;refine ⟨fun b ob e n1 n2 n3=>b0.keep b ob e n1 n2 n3,fun b ob e n1 n2 n3=>b0.slot b ob e n1 n2 n3,fun b ob e n1 n3=>?_,fun b ob e n3=>b0.there b ob e n3,fun b zs e=>?_,fun b ob u e=>?_,fun b ps e=>?_⟩
     . rw [aB (ZB (Heap.lt_size e))];exact b0.free b ob e n1 n3
     . have z:=b0.tups b zs e;rw [aB (dn _ _ z)];exact z
     . have z:=b0.frzs b ob u e;rw [aB (dn _ _ z)];exact z
     . obtain ⟨more,z⟩:=b0.tbls b ps e;exact ⟨more,by rw [aB (dn _ _ z)];exact z⟩
    have hok:HOk X.prog X.w (upd H' s₂.heap.objs.size (.lst vs)) s1.heap:=fun b u z=>by
     by_cases hb:b=s₂.heap.objs.size
     . rw [hb] at z ⊢;rw [aP] at z;cases z;exact ⟨db (by have:=rr.len;omega),its,k,rv,hD8⟩
     . rw [aB hb] at z;exact (I8.hok b u z).stay (fun _ _ _ q=>q) (fun c q=>by rw [aB (dn _ _ q)];exact q) fun c ys q=>by rw [aB (dn _ _ q)];exact q
    have IX:L2.Inv X pins σ (upd H' s₂.heap.objs.size (.lst vs)) s1:=I.call' I8.os un hok I8.bare fun b hb=>⟨(hf b hb).2.2.2.1,(hf b hb).2.1,(hf b hb).2.2.2.2.1,(hf b hb).2.2.2.2.2⟩
    obtain ⟨m8,hn8,_⟩:=I8.loc;refine hRR s₂.heap.objs.size C s1 _ vs hCle IX (sm.trans sn) aP ⟨Acc,rr.frame (bO sn) (fun a m=>by
     obtain ⟨⟨ws,e⟩,_⟩:=rr.dom a m;rw [e];exact sn a _ e),nda,fun m=>(by
     obtain ⟨⟨ws,e⟩,_⟩:=rr.dom _ m;rw [fD] at e;cases e),I.hok.fresh hDle⟩ ⟨m8,hn8⟩ ?_
    rw [aB (Ne.symm hDC)];exact I8.free
 exact codeAny_compStart_list (loop _ rfl) (TT.self X.A 0 _ _ _ (TT.keep 0 _ _ st (fun b hb o e=>old b o e)) (loop _ rfl))
theorem lQ {n:Nat} {js:List Nat} {g:D->DS->Option DS} {fc:FT} {f:FM} {δ:DS}:∀ {ds xs:List D},iP (gB n js g fc f δ) ds=some xs->gn xs=true
 | [],xs,h=>by cases h;rfl
 | d :: ds,xs,h=>by
  obtain ⟨o,eo,h⟩:=Za.mp (show ((gB n js g fc f δ d).bind _)=some xs from h)
  obtain ⟨ys,ey,h⟩:=Za.mp h;cases h;unfold gB at eo;obtain ⟨δ1,_,eo⟩:=Za.mp eo;obtain ⟨b,_,eo⟩:=Za.mp eo;cases b with
  | false=>cases eo;exact lQ ey
  | true =>
   obtain ⟨e,ge,eo⟩:=Zb.mp (show (ownOf f (shO δ1)).map some=some o from eo)
   subst eo;show (own e && gn ys)=true;rw [lQ ey,Bool.and_true];unfold ownOf at ge;obtain ⟨p,_,ge⟩:=Za.mp ge;split at ge
   . rename_i ho;cases ge;exact ho
   . cases ge
theorem tQ (i:Nat) {y:Str} {elt tg iter:Expr} {ifs:List Expr} {py pos spos:Pos} {src:FA} {g:D->DS->Option DS} {fc:FT} {felt:FM} (hN:X.N.Nodup) (hi:PID X tg iter src) {T N:List Str} {js:List Nat} (hg:∀ C s₂ H₂ fp pn,PGD (cX X scope cl T N C s₂ H₂ fp pn) tg g) (fl:BM T.length g) (hc:∀ C s₂ H₂ fp pn,FL (cX X scope cl T N C s₂ H₂ fp pn) ifs fc) (he:∀ C s₂ H₂ fp pn,PV (cX X scope cl T N C s₂ H₂ fp pn) elt felt) (O:CompG X scope cl T N js)
 (hsw:swapsWith (.ListComp elt [⟨tg,iter,ifs,0⟩] scope pos) (some (.Name y py)) spos.line X.env=pure true:=by rfl) (hy:X.N[i]? = some y:=by rfl) (hl:Loc X.env.scope y:=by first | exact Or.inl rfl | exact Or.inr rfl) (hcm:X.calm=true:=by rfl)
 (hs:∀ v,foldedSetIterable iter X.env v=pure v:=by intro _;rfl) (hfn:X.fn y=true \/ X.env.scope.names.lookup y=some .local:=by first | exact .inl rfl | exact .inr rfl | assumption) :
 PMD X (.Assign [.Name y py] (.ListComp elt [⟨tg,iter,ifs,0⟩] scope pos) spos) (aX i (nU src T.length js g fc felt)):=by
 intro pins s σ H D I ⟨F,δ,r,⟨As,RA⟩,q,k⟩;have R:=RA.toS;unfold aX at q;obtain ⟨⟨d,δ'⟩,ed,q⟩:=Za.mp q;cases q;unfold nU at ed;obtain ⟨ds,eds,q⟩:=Za.mp ed;obtain ⟨xs,exs,q⟩:=Za.mp q
 by_cases hz:xs.length<=1000
 . rw [if_pos hz] at q;cases q;rw [exec_Assign_Name_used _ _ _ _ hsw];refine wpAny_bind (wpAny_standAt (wpAny_bind ?_));show wpAny _ X.A (do let _ <- comprehension (.ListComp elt [⟨tg,iter,ifs,0⟩] scope pos) scope X.env _ (newList []) false (eval iter X.env) (some (assign (.Name y py) X.env))) _ _ s
   refine wpAny_bind (wpAny_mono (wpAny_comprehension_free (use:=some (assign (.Name y py) X.env)) (Q:=fun _ s'=>SP X pins D .next s') rfl hs O.clos O.kind O.names ?_) (fun _ s' hq=>wpAny_pure (wpAny_pure hq)) fun _ _ z=>z)
   refine wpAny_mono (hi pins s σ H (fun J H1=>Same H H1/\ItD X.K J H1 ds) I ⟨δ,ds,R,eds,fun J H1 s1 itd=>⟨s1,itd⟩⟩) (fun v s1 h1=>wpAny_mono h1 (fun itv s2 h2=>?_) fun _ _ z=>z) fun _ _ z=>z
   obtain ⟨it,fp,tn,J,H2,rfl,I2,TT,st,hf,s1,itd⟩:=h2;refine uU (RR:=fun acc C=>compPost (model X.prog X.w) X.A X.xe (some (assign (.Name y py) X.env)) (fun _ s'=>SP X pins D .next s') acc C) I2 hcm O TT st hf itd (R.mono s1) hg fl hc he exs hz ?_
   intro DA C s' Hend vs hC IX sm hD rr ⟨m,hn⟩ fC;show wpAny _ X.A (assign (.Name y py) X.env (.ref DA)) _ _ s';refine wpAny_assign_Name (lD (v:=.ref DA) IX hN hy hl rfl (fun s9 I9 ⟨a,hsb,ha⟩=>?_) hfn)
   have hCa:C ≠ a:=by
    rintro rfl
    rcases ha with z | z
    . exact absurd (Zw I2.lt (by rw [<- z];exact hC)) (ZC _)
    . obtain ⟨v,o,h1,_⟩:=I2.cell y _ z;exact absurd (Zw (Heap.lt_size h1) hC) (ZC _)
   refine ⟨m,hn.at' fun o e=>(hsb.2 C hCa).trans e,fun h' hs'=>⟨_,Hend,?_,uV i RA k (lQ exs) (s1.trans sm) s1 hD rr⟩⟩
   exact I9.turned (it:=C) (t':=s9.toks) (fun b o hb e=>(hs'.2 b hb).trans e) fC (Nat.ne_of_gt (Zw I2.lt hC)) (.inr (Nat.le_trans I2.sz hC))
    (fun y c e z=>by
     obtain ⟨v,o,h1,_⟩:=I2.cell y c e;exact absurd (Zw (Heap.lt_size h1) (by rw [z];exact hC)) (ZC _))
    (fun p hp z=>absurd (Zw (Heap.lt_size (I2.pin p hp).1) (by rw [z];exact hC)) (ZC _))
 . rw [if_neg hz] at q;cases q
end
end Dl
namespace Dl
open PySem PySem.Spec PyProof.Rows L2
section
variable {X:Cx} {pins:List (Addr×Obj)} {σ:L2.St} {H:Hp} {s:Shared} {h':Heap}
end
theorem x8 {K:Zu} {H:Hp} {v:V} {d:D} {ds:List D} (r:Rep K H v d) (e:asL d=some ds):∃ a vs,v=.ref a/\SqL K H a vs/\Reps K H vs ds:=by
 cases r with
 | @lst p vs es hp rp=>cases e;exact ⟨p,vs,rfl,SqL.of hp,rp⟩
 | @seq p vs es hp rp=>cases e;exact ⟨p,vs,rfl,hp,rp⟩
 | _=>cases e
end Dl
namespace Dl
open PySem PySem.Spec PyProof.Rows L2
def RPZ (X:Cx) (Z:L2.St->Prop) (E:pL) (F:Hp):Res->Prop
 | .nx δ=>∀ σ' F' H',Same F F'->fN X.K F' H' σ' δ->Z σ'->E.nx σ' H'
 | .rt d=>∀ v F' H' A,Same F F'->Same F' H'->RepO X.K F' H' v d A->A.Nodup->E.rt v H'
 | .bk δ=>∀ σ' F' H',Same F F'->fN X.K F' H' σ' δ->Z σ'->E.bk σ' H'
 | .ct δ=>∀ σ' F' H',Same F F'->fN X.K F' H' σ' δ->Z σ'->E.ct σ' H'
 | .ex _ _=>False
 | .mk _ _=>False
theorem RPZ.mono {X:Cx} {Z:L2.St->Prop} {E:pL} {F F1:Hp} {r:Res} (s:Same F F1) (h:RPZ X Z E F r):RPZ X Z E F1 r:=by
 cases r with
 | nx δ=>exact fun σ' F' H' s2 R=>h σ' F' H' (s.trans s2) R
 | rt d=>exact fun v F' H' A s2=>h v F' H' A (s.trans s2)
 | bk δ=>exact fun σ' F' H' s2 R=>h σ' F' H' (s.trans s2) R
 | ct δ=>exact fun σ' F' H' s2 R=>h σ' F' H' (s.trans s2) R
 | ex C δ=>exact h
 | mk C δ=>exact h
def upZ (X:Cx) (Z:L2.St->Prop) (s:SD):TS:=fun E σ H=>∃ F δ r,fN X.K F H σ δ/\Z σ/\s δ=some r/\RPZ X Z E F r
def PZD (X:Cx) (Z:L2.St->Prop) (st:Stmt) (s:SD):Prop:=PS X st (upZ X Z s)
def PZs (X:Cx) (Z:L2.St->Prop) (sts:List Stmt) (s:SD):Prop:=PSs X sts (upZ X Z s)
def ZOk (Z:L2.St->Prop):Prop:=∀ i,2<=i->∀ σ v,Z σ->Z (σ.set i (some v))
section
variable {X:Cx} {Z:L2.St->Prop} {st:Stmt} {rest:List Stmt} {s u:SD} {e:Expr} {fk fl:FD} {fm:FM} {c:FT} {pos:Pos}
theorem Ep:PZs X Z [] bF:=qK rO fun E σ H ⟨F,δ,r,R,hz,e,k⟩=>by cases e;exact k σ F H (Same.refl F) R hz
theorem xb (h1:PZD X Z st s) (h2:PZs X Z rest u):PZs X Z (st :: rest) (bf s u):=qK (ou h1 h2) fun E σ H ⟨F,δ,r,R,hz,e,k⟩=>by
 unfold bf at e;obtain ⟨r1,e1,e⟩:=Za.mp e;refine ⟨F,δ,r1,R,hz,e1,?_⟩;cases r1 with
 | nx δ'=>exact fun σ' F' H' s1 R1 z1=>⟨F',δ',r,R1,z1,e,k.mono s1⟩
 | rt d=>cases e;exact k
 | bk d=>cases e;exact k
 | ct d=>cases e;exact k
 | ex C d=>cases e;exact k
 | mk C d=>cases e;exact k
theorem rK (h:PZD X Z st s):PZs X Z [st] s:=rN h
theorem Gv {cx:Expr} {a b:List Stmt} (hc:PTD X cx c) (ha:PZs X Z a s) (hb:PZs X Z b u):PZD X Z (.If cx a b pos) (sIf c s u):=gr (Aa hc ha hb) fun E σ H ⟨F,δ,r,⟨As,R⟩,hz,q,k⟩=>by
 unfold sIf at q;obtain ⟨d,ed,q⟩:=Za.mp q;refine ⟨δ,d,R.toS,ed,fun H' s1=>?_⟩
 cases d with
 | true=>rw [if_pos rfl];exact ⟨F,δ,r,⟨As,R.grow s1⟩,hz,q,k⟩
 | false=>rw [if_neg Zv];exact ⟨F,δ,r,⟨As,R.grow s1⟩,hz,q,k⟩
theorem Ca (i:Nat) {x:Str} {pos':Pos} (zi:∀ σ v,Z σ->Z (σ.set i (some v))) (hN:X.N.Nodup) (he:PV X e fm) (hi:X.N[i]? = some x:=by rfl) (hx:Loc X.env.scope x:=by first | exact Or.inl rfl | exact Or.inr rfl) (hs:swapsWith e (some (.Name x pos')) pos.line X.env=pure false:=by rfl) (hf:X.fn x=true \/ X.env.scope.names.lookup x=some .local:=by first | exact .inl rfl | exact .inr rfl | assumption) :
 PZD X Z (.Assign [.Name x pos'] e pos) (aX i fm):=gr (vB hN hi hx he hs hf) fun E σ H ⟨F,δ,r,⟨As,R⟩,hz,q,k⟩=>by
 unfold aX at q;obtain ⟨⟨d,δ'⟩,ed,q⟩:=Za.mp q;cases q;exact ⟨F,δ,As,d,δ',R,ed,fun v F' H' A As' ev R' r'=>k (σ.set i (some v)) F' H' ev.fs (R'.setM i r' ev.nd ev.dj) (zi σ v hz)⟩
theorem Eo (i:Nat) {x:Str} {pos':Pos} (zk:ZOk Z) (hN:X.N.Nodup) (he:PV X e fm) (h2:2<=i:=by decide) (hi:X.N[i]? = some x:=by rfl) (hx:Loc X.env.scope x:=by first | exact Or.inl rfl | exact Or.inr rfl) (hs:swapsWith e (some (.Name x pos')) pos.line X.env=pure false:=by rfl) (hf:X.fn x=true \/ X.env.scope.names.lookup x=some .local:=by first | exact .inl rfl | exact .inr rfl | assumption) :
 PZD X Z (.Assign [.Name x pos'] e pos) (aX i fm):=Ca i (zk i h2) hN he hi hx hs hf
theorem Cb {iter:Expr} {body:List Stmt} {src:FMA} {x:Str} {px:Pos} (i:Nat) (zi:∀ σ v,Z σ->Z (σ.set i (some v))) (hN:X.N.Nodup) (hp:PassesOwn (model X.prog X.w) X.A X.env X.xe) (hc:X.calm=true) (hi:PIM X (.Name x px) iter src) (hb:PZs X Z body s)
 (hx:X.N[i]? = some x:=by rfl) (hl:Loc X.env.scope x:=by first | exact Or.inl rfl | exact Or.inr rfl) (hf:X.fn x=true \/ X.env.scope.names.lookup x=some .local:=by first | exact .inl rfl | exact .inr rfl | assumption)
 (hs:∀ x,foldedSetIterable iter X.env x=pure x:=by intro _;rfl):PZD X Z (.For (.Name x px) iter body [] pos) (i7 src i s):=gr (vD hp hc hi (jL hN hx hl hf) hb hs) fun E σ H ⟨F,δ,r,⟨As,R⟩,hz,e,k⟩=>by
 unfold i7 at e;obtain ⟨⟨ds,δ1⟩,eds,e⟩:=Za.mp e;refine ⟨F,δ,As,ds,δ1,R,eds,fun J F1 H1 As1 s1 R1 it=>?_⟩
 refine ⟨fun j m σ H=>m=ds.length - j/\j<=ds.length/\∃ F2 δ,Same F1 F2/\fN X.K F2 H σ δ/\Z σ/\forM i s (ds.drop j) δ=some r/\RPZ X Z E F2 r,⟨ds.length,rfl,Nat.zero_le _,F1,δ1,Same.refl _,⟨As1,R1⟩,hz,e,k.mono s1⟩,?_⟩
 rintro j m σ H2 ⟨rfl,hjl,F2,δ2,s2,⟨As2,R2⟩,z2,e2,k2⟩
 by_cases hlt:j < ds.length
 . obtain ⟨go,yl⟩:=(it j H2 (s2.trans R2.fz)).1 hlt;rw [List.drop_eq_getElem_cons hlt] at e2;obtain ⟨r4,e4,e2⟩:=Za.mp (show ((s (δ2.set i (some (sh ds[j])))).bind _)=some r from e2)
   refine .inr ⟨go,fun σ' H'=>∃ F3 δ,Same F1 F3/\fN X.K F3 H' σ' δ/\Z σ'/\forM i s (ds.drop (j+1)) δ=some r/\RPZ X Z E F3 r,fun σ' H' z=>⟨ds.length - (j+1),by omega,rfl,hlt,z⟩,fun y H' yy=>?_⟩
   obtain ⟨eH,d,hd,rx⟩:=yl y H' yy;subst eH;have hd':d=ds[j]:=by
    rw [Zt hlt] at hd;exact (ZA hd).symm
   subst hd';have R3:=R2.setM i (RepO.of_sh R2.fz (rx.mono s2)) List.nodup_nil fun _ _ _ z=>nomatch z
   refine ⟨F2,δ2.set i (some (sh ds[j])),r4,R3,zi σ y z2,e4,?_⟩;cases r4 with
   | nx δ'=>exact fun σ' F' H'' s4 R4 z4=>⟨F',δ',s2.trans s4,R4,z4,e2,k2.mono s4⟩
   | ct δ'=>exact fun σ' F' H'' s4 R4 z4=>⟨F',δ',s2.trans s4,R4,z4,e2,k2.mono s4⟩
   | bk δ'=>cases e2;exact k2
   | rt d=>cases e2;exact k2
   | ex C δ'=>cases e2;exact k2
   | mk C δ'=>cases e2;exact k2
 . have e:j=ds.length:=by omega
   subst e;rw [List.drop_length] at e2;cases e2;exact .inl ⟨(it _ H2 (s2.trans R2.fz)).2 (ZG _),k2 σ F2 H2 (Same.refl _) ⟨As2,R2⟩ z2⟩
theorem zV {iter:Expr} {body:List Stmt} {src:FMA} {x:Str} {px:Pos} (i:Nat) (zk:ZOk Z) (hN:X.N.Nodup) (hp:PassesOwn (model X.prog X.w) X.A X.env X.xe) (hc:X.calm=true) (hi:PIM X (.Name x px) iter src) (hb:PZs X Z body s) (h2:2<=i:=by decide)
 (hx:X.N[i]? = some x:=by rfl) (hl:Loc X.env.scope x:=by first | exact Or.inl rfl | exact Or.inr rfl) (hf:X.fn x=true \/ X.env.scope.names.lookup x=some .local:=by first | exact .inl rfl | exact .inr rfl | assumption)
 (hs:∀ x,foldedSetIterable iter X.env x=pure x:=by intro _;rfl):PZD X Z (.For (.Name x px) iter body [] pos) (i7 src i s):=Cb i (zk i h2) hN hp hc hi hb hx hl hf hs
def gF (i:Nat) (fk fl:FD) (fm:FM):SD:=fun δ=>(fm δ).bind fun p=>match p.2[i]? with
 | some (some (.lst ds))=>(fk p.2).bind fun kd=>match kd with
  | .int k=>(ixN ds.length k).bind fun j=>match ds[j]? with
   | some (.lst row)=>(fl p.2).bind fun ld=>match ld with
    | .int l=>(ixN row.length l).bind fun m=>some (.nx (p.2.set i (some (.lst (ds.set j (.lst (row.set m p.1)))))))
    | _=>none
   | _=>none
  | _=>none
 | _=>none
theorem Hl {i:Nat} {K:Zu} {F H:Hp} {σ:L2.St} {δ:DS} {As:Nat->List Addr} {Q:L2.St->Hp->Prop} {r:Res} (R:RepA K F H σ δ As) (q:gF i fk fl fm δ=some r) (k:∀ F' H' δ',r=.nx δ'->Same F F'->fN K F' H' σ δ'->Q σ H') :
 D8 (upV K fm) (C9 (tOp (zR K) (pN i) (up K fk)) (up K fl) wZ) { nx:=Q,rt:=fun _ _=>True } σ H:=by
 unfold gF at q;obtain ⟨⟨d,δ'⟩,ed,q⟩:=Za.mp q;dsimp only at q;split at q
 . rename_i ds h1;obtain ⟨kd,ek,q⟩:=Za.mp q;split at q
   . rename_i kk;obtain ⟨j,hj,q⟩:=Za.mp q;split at q
     . rename_i row hrow;obtain ⟨ld,el,q⟩:=Za.mp q;split at q
       . rename_i ll;obtain ⟨m,hm,q⟩:=Za.mp q;cases q;refine ⟨F,δ,As,d,δ',R,ed,fun v F' H' A As' ev R' r'=>?_⟩
         obtain ⟨a,vs,A0,s0,_,g0,_,rl⟩:=R'.lst h1;refine ⟨.ref a,s0,δ',.int kk,R'.toS,ek,fun iv H1 s1 ri=>?_⟩
         cases ri;have R1:=R'.grow s1;obtain ⟨a1,vs1,b,ws,B0,O,t0,u0,hv1,ub,rr1,ndB,inB,inO,aO,sep,_⟩:=R1.row h1 hrow;have ea:a1=a:=by rw [s0] at t0;cases t0;rfl
         subst ea;have es1:vs1=vs:=by
          have:=s1 _ _ g0;rw [u0] at this;cases this;rfl
         subst es1;refine ⟨a1,vs1,kk,.ref b,rfl,rfl,SqL.of u0,by unfold L2.atI;rw [rl.length,hj];exact hv1,?_⟩
         refine ⟨δ',.int ll,R1.toS,el,fun iv2 H2 s2 ri2=>?_⟩
         cases ri2;have R2:=R1.grow s2;obtain ⟨a2,vs2,b2,ws2,B2,O2,t2,u2,hv2,ub2,rr2,ndB2,inB2,inO2,aO2,sep2,fin⟩:=R2.row h1 hrow;have ea:a2=a1:=by rw [s0] at t2;cases t2;rfl
         subst ea;have es2:vs2=vs1:=by
          have:=s2 _ _ u0;rw [u2] at this;cases this;rfl
         subst es2;have eb:b2=b:=by rw [hv1] at hv2;cases hv2;rfl
         subst eb;refine ⟨b2,ws2,ll,m,rfl,rfl,ub2,by rw [rr2.length];exact hm,?_⟩
         have ml:m < row.length:=(k7 hm).2.1;obtain ⟨v0,C1,C,C3,_,_,eC,pk⟩:=rr2.pick (i:=m) (d:=row[m]) (Zt ml);have rv:RepO K F' H2 v d A:=r'.frame (bO (s1.trans s2)) fun x mm=>by
          obtain ⟨⟨ws,e⟩,_⟩:=r'.dom x mm;rw [e];exact (s1.trans s2) x _ e
         have rn:=pk (H':=H2) (fun _ _ e _=>e) (fun _ _=>rfl) rv
         have nB:=List.nodup_cons.mp ndB2;have nB2:=nB.2;rw [eC] at nB2;have n1:=List.nodup_append.mp nB2;have n2:=List.nodup_append.mp n1.2.1;have inC:∀ x,x∈C1 \/ x∈C3->x∈B2:=fun x mm=>by
          rw [eC];rcases mm with z | z
          . exact Zy _ z
          . exact Zx _ (Zx _ z)
         have inI:∀ x,x∈C1 \/ x∈C3->x∈As' i:=fun x mm=>inB2 x (Zl _ (inC x mm))
         refine k F' _ _ rfl ev.fs (fin rn (fun z=>?_) ?_ (fun x mm z=>?_) fun kx x hk mm z=>?_)
         . rcases Zp.mp z with z | z
           . exact nB.1 (inC _ (.inl z))
           . rcases Zp.mp z with z | z
             . exact ev.dj i b2 (inB2 b2 Zk) z
             . exact nB.1 (inC _ (.inr z))
         . refine List.nodup_append.mpr ⟨n1.1,List.nodup_append.mpr ⟨ev.nd,n2.2.1,fun y hy w hw e=>?_⟩,fun y hy w hw e=>?_⟩
           . subst e;exact ev.dj i y (inI y (.inr hw)) hy
           . subst e;rcases Zp.mp hw with z | z
             . exact ev.dj i y (inI y (.inl hy)) z
             . exact n1.2.2 y hy y (Zx _ z) rfl
         . rcases Zp.mp mm with mm | mm
           . exact sep2 x (Zl _ (inC x (.inl mm))) z
           . rcases Zp.mp mm with mm | mm
             . exact ev.dj i x (inO2 x z) mm
             . exact sep2 x (Zl _ (inC x (.inr mm))) z
         . rcases Zp.mp z with z | z
           . exact R2.dj kx i x hk mm (inI x (.inl z))
           . rcases Zp.mp z with z | z
             . exact ev.dj kx x mm z
             . exact R2.dj kx i x hk mm (inI x (.inr z))
       . cases q
     . cases q
   . cases q
 . cases q
theorem vK {i:Nat} {δ:DS} {r:Res} (q:gF i fk fl fm δ=some r):∃ δ',r=.nx δ':=by
 unfold gF at q;obtain ⟨⟨d,δ'⟩,ed,q⟩:=Za.mp q;dsimp only at q;split at q
 . obtain ⟨kd,ek,q⟩:=Za.mp q;split at q
   . obtain ⟨j,hj,q⟩:=Za.mp q;split at q
     . obtain ⟨ld,el,q⟩:=Za.mp q;split at q
       . obtain ⟨m,hm,q⟩:=Za.mp q;cases q;exact ⟨_,rfl⟩
       . cases q
     . cases q
   . cases q
 . cases q
theorem xa (i:Nat) {tg:Expr} (he:PV X e fm) (hg:PG X tg (C9 (tOp (zR X.K) (pN i) (up X.K fk)) (up X.K fl) wZ)) (hs:swapsWithSole [tg] e pos.line X.env=pure false:=by rfl) (hw:swappedStores [tg] e X.env=pure none:=by rfl)
 (h1:(assignEach [tg] X.env).map (·.2)=[assign tg X.env]:=by rfl):PZD X Z (.Assign [tg] e pos) (gF i fk fl fm):=gr (rP he hg hs hw h1) fun E σ H ⟨F,δ,r,⟨As,R⟩,hz,q,k⟩=>by
 obtain ⟨δ',rfl⟩:=vK q;exact Hl (Q:=E.nx) R q fun F' H' δ2 e s1 R1=>by cases e;exact k σ F' H' s1 R1 hz
end
def t9 (K:Zu) (n:Nat) (G:List D->Option (D×D)):Sp:=fun vs H Q _=>vs.length=n/\∃ v0 v1 ws F d0 d1 A0 A1 es d0' d1',vs=v0 :: v1 :: ws/\Same F H/\RepO K F H v0 d0 A0/\RepO K F H v1 d1 A1/\(A0++A1).Nodup/\Reps K F ws es/\bG es=true /\
 G (d0 :: d1 :: es)=some (d0',d1')/\∀ F' H' A0' A1',Same F F'->Same F' H'->RepO K F' H' v0 d0' A0'->RepO K F' H' v1 d1' A1'->(A0'++A1').Nodup->Q .non H'
def nY (n:Nat) (d0 d1:D) (es:List D):DS:=some d0 :: some d1 :: (es.map some++List.replicate (n - (es.length+2)) none)
def asZ (A0 A1:List Addr):Nat->List Addr
 | 0=>A0
 | 1=>A1
 | _=>[]
theorem tJ {K:Zu} {F H:Hp} {N:List Str} {v0 v1:V} {ws:List V} {d0 d1:D} {es:List D} {A0 A1:List Addr} (s:Same F H) (r0:RepO K F H v0 d0 A0) (r1:RepO K F H v1 d1 A1) (nd:(A0++A1).Nodup) (r:Reps K F ws es) (im:bG es=true):fN K F H (L2.start N (v0 :: v1 :: ws)) (nY N.length d0 d1 es):=by
 have l:=r.length;have nd':=List.nodup_append.mp nd;refine ⟨asZ A0 A1,s,by unfold L2.start nY;simp [l],fun i d q=>?_,fun i h=>?_,fun i=>?_,fun i j a hij m=>?_⟩
 . match i,q with
   | 0,q=>cases q;exact ⟨v0,rfl,r0⟩
   | 1,q=>cases q;exact ⟨v1,rfl,r1⟩
   | i+2,q =>
    have q':(es.map some++List.replicate (N.length - (es.length+2)) none)[i]? = some (some d):=q;have hi:i < es.length:=by
     by_cases hi:i < es.length
     . exact hi
     . rw [List.getElem?_append_right (by simpa using hi),List.getElem?_replicate] at q'
       split at q' <;> cases q'
    rw [List.getElem?_append_left (by simpa using hi),ZD] at q'
    obtain ⟨e,h1,h2⟩:=Zb.mp q';cases h2;obtain ⟨v,h5,h6⟩:=r.get h1;refine ⟨v,?_,.imm (imms_mem.mp im d (List.mem_of_getElem? h1)) (h6.mono s)⟩;unfold L2.start;show (ws.map some++_)[i]? = _;rw [List.getElem?_append_left (by rw [Zi,l];exact hi),ZD,h5]
    rfl
 . match i,h with
   | 0,h=>exact absurd rfl (h d0)
   | 1,h=>exact absurd rfl (h d1)
   | i+2,_=>rfl
 . match i with
   | 0=>exact nd'.1
   | 1=>exact nd'.2.1
   | i+2=>exact List.nodup_nil
 . match i,j,hij,m with
   | 0,0,hij,_=>exact absurd rfl hij
   | 0,1,_,m=>exact fun z=>nd'.2.2 a m a z rfl
   | 0,j+2,_,_=>exact fun z=>nomatch z
   | 1,0,_,m=>exact fun z=>nd'.2.2 a z a m rfl
   | 1,1,hij,_=>exact absurd rfl hij
   | 1,j+2,_,_=>exact fun z=>nomatch z
   | i+2,_,_,m=>cases m
section
variable {P:Program} {w:World} {K:Zu} {mg:Str->Option Value} {base:Heap}
theorem EZ {x qual:Str} {st:Stmt} {f:Addr} {fd:FuncData} {N ps:List Str} {k:Nat} {G:List D->Option (D×D)} (F:Fun K x qual st f fd) (S:aF N ps (aq st))
 (hbody:∀ (cdv:Value) (A:Around) (outer:List Env) (s:Shared) (H:Hp) (E:XK) (Z:L2.St->Prop) (d0 d1:D) (es:List D) (d0' d1':D),Room k (A.deeper (envOfC qual (aq st) s.heap.objs.size f cdv))->ZOk Z->G (d0 :: d1 :: es)=some (d0',d1') ->
  ∃ t,PZs (ii CX0 P w K mg base N qual (aq st) f cdv A outer s H E).nox Z (bD st) t/\∃ δ',t (nY N.length d0 d1 es)=some (.nx δ')/\δ'[0]? = some (some d0')/\δ'[1]? = some (some d1')):FnOk P w K mg base CX0 (k+1) f fd ps (t9 K ps.length G):=by
 refine F.ok S (fun vs H Q E h=>h.1) (fun cdv A outer s H vs Q E hr h=>?_)
 obtain ⟨hl,v0,v1,ws,F0,d0,d1,A0,A1,es,d0',d1',rfl,s0,r0,r1,nd,r,im,e,q⟩:=h;obtain ⟨t,ht,δ',hq,g0,g1⟩:=hbody cdv A outer s H E (fun σ=>σ[0]? = some (some v0)/\σ[1]? = some (some v1)) d0 d1 es d0' d1' hr (fun i hi σ v ⟨a,b⟩=>⟨by rw [List.getElem?_set_ne (by omega)];exact a,by rw [List.getElem?_set_ne (by omega)];exact b⟩) e
 refine ⟨_,ht,F0,_,_,tJ s0 r0 r1 nd r im,⟨rfl,rfl⟩,hq,fun σ' F' H' s1 ⟨As,R⟩ ⟨z0,z1⟩=>?_⟩
 obtain ⟨u0,h0,w0⟩:=R.val 0 _ g0;obtain ⟨u1,h1,w1⟩:=R.val 1 _ g1;rw [z0] at h0;rw [z1] at h1;cases h0;cases h1;exact q F' H' _ _ s1 R.fz w0 w1 (List.nodup_append.mpr ⟨R.nd 0,R.nd 1,fun a m b m' e=>by subst e;exact R.dj 0 1 a (by decide) m m'⟩)
structure FQ (P:Program) (w:World) (K:Zu) (mg:Str->Option Value) (base:Heap) (k:Nat) (x:Str) (ps:List Str) (G:List D->Option (D×D)):Prop where
 ex:∃ f fd,FnOk P w K mg base CX0 k f fd ps (t9 K ps.length G)/\mg x=some (.ref f)/\PySem.W.keepIn K (.ref f)=true/\Binds K fd ps []
end
def oj (i j:Nat) (G:List D->Option (D×D)) (g:FA):SD:=fun δ=>match δ[i]?,δ[j]? with
 | some (some (.lst xs)),some (some (.lst ys))=>(g δ).bind fun es=>(G (.lst xs :: .lst ys :: es)).bind fun p=>if bG es=true/\own p.1=true/\own p.2=true/\i ≠ j then some (.nx ((δ.set i (some p.1)).set j (some p.2))) else none
 | _,_=>none
noncomputable def wk (H:Hp) (A:List Addr):Hp:=fun a=>if a∈A then none else H a
theorem Du {H:Hp} {A:List Addr}:Same (wk H A) H:=fun a u e=>by
 unfold wk at e;split at e
 . cases e
 . exact e
theorem uY {H:Hp} {A:List Addr} {a:Addr} (m:a∈A):wk H A a=none:=if_pos m
theorem nP {H:Hp} {A:List Addr} {a:Addr} (m:a ∉ A):wk H A a=H a:=if_neg m
theorem Ae {X:Cx} {e:Expr} {es:List Expr} {g:FA} {pos p spos:Pos} {k l n:Nat} {x:Str} {ps:List Str} {G:List D->Option (D×D)} (i j:Nat) (F:FQ X.prog X.w X.K X.mg X.base k x ps G) (hr:Room l X.A) (ha:PA X (e :: es) (nW (pN i) (nW (pN j) (upA X.K n g)))) (hk:k<=l:=by decide) (hg:Gl X x:=by rfl)
 (hn:n+2=ps.length:=by rfl) (hdb:(x == ("__debug__":Str))=false:=by decide) (he:starEach (e :: es) X.env=(false,eval e X.env) :: starEach es X.env:=by rfl) (hpl:(backTo pos (starEach es X.env)).any (·.1)=false:=by rfl) (hs:swapsWith (.Call (.Name x p) (e :: es) [] pos) none spos.line X.env=pure false:=by rfl) :
 PMD X (.Expr (.Call (.Name x p) (e :: es) [] pos) spos) (oj i j G g):=by
 obtain ⟨f,fd,F,hm,kp,hb⟩:=F.ex;refine gr (nv (nC F (hr.mono hk) hg hm kp hb .nil xn ha hdb he hpl) hs) fun E σ H ⟨F0,δ,r,⟨As,R⟩,q,k⟩=>?_
 unfold oj at q;split at q
 . rename_i xs ys hi hj;obtain ⟨ds,eds,q⟩:=Za.mp q;obtain ⟨⟨d0',d1'⟩,eG,q⟩:=Za.mp q;dsimp only at q;split at q
   . rename_i hc;obtain ⟨im,o0,o1,hij⟩:=hc;cases q;obtain ⟨v0,s0,r0⟩:=R.val i _ hi;obtain ⟨v1,s1,r1⟩:=R.val j _ hj;refine ⟨v0,s0,v1,s1,δ,ds,R.toS,eds,fun vs H1 t1 rr lv=>?_⟩
     show t9 X.K ps.length G ((v0 :: v1 :: vs)++[]) H1 _ E0;rw [List.append_nil];have R1:=R.grow t1;obtain ⟨v0',s0',r0⟩:=R1.val i _ hi;rw [s0] at s0';cases s0';obtain ⟨v1',s1',r1⟩:=R1.val j _ hj;rw [s1] at s1';cases s1';have sF:Same F0 (wk H1 (As i++As j)):=fun a u e=>by
      rw [nP fun m=>?_]
      . exact R1.fz a u e
      . rcases Zp.mp m with z | z
        . rw [(R1.dom z).2] at e;cases e
        . rw [(R1.dom z).2] at e;cases e
     have nd:(As i++As j).Nodup:=List.nodup_append.mpr ⟨R1.nd i,R1.nd j,fun a m b m' e=>by subst e;exact R1.dj i j a hij m m'⟩
     refine ⟨by simp [lv,hn],v0,v1,vs,wk H1 (As i++As j),.lst xs,.lst ys,As i,As j,ds,d0',d1',rfl,Du,r0.froz sF fun a m=>uY (Zy _ m),r1.froz sF fun a m=>uY (Zx _ m),nd,?_,im,eG,fun F' H' A0' A1' sf sh w0 w1 nd'=>?_⟩
     . refine dQ (fun a u e nl=>?_) rr im
       rw [nP fun m=>?_]
       . exact e
       . rcases Zp.mp m with z | z
         . obtain ⟨⟨ws,h⟩,_⟩:=R1.dom z;rw [e] at h;cases h;exact absurd (ws.2.symm.trans nl) (fun z=>nomatch z)
         . obtain ⟨⟨ws,h⟩,_⟩:=R1.dom z;rw [e] at h;cases h;exact absurd (ws.2.symm.trans nl) (fun z=>nomatch z)
     . have nd2:=List.nodup_append.mp nd';have hF:Same F0 H':=(sF.trans sf).trans sh;have kI:eT H1 H':=fun a u e nl=>by
        refine sh a u (sf a u ?_);rw [nP fun m=>?_]
        . exact e
        . rcases Zp.mp m with z | z
          . obtain ⟨⟨ws,h⟩,_⟩:=R1.dom z;rw [e] at h;cases h;exact absurd (ws.2.symm.trans nl) (fun z=>nomatch z)
          . obtain ⟨⟨ws,h⟩,_⟩:=R1.dom z;rw [e] at h;cases h;exact absurd (ws.2.symm.trans nl) (fun z=>nomatch z)
       have oth:∀ kx a,kx ≠ i->kx ≠ j->a∈As kx->H' a=H1 a/\F' a ≠ none:=fun kx a h1 h2 m=>by
        obtain ⟨⟨ws,h⟩,_⟩:=R1.dom m;have b:wk H1 (As i++As j) a=some ws.1:=by
         rw [nP fun z=>?_]
         . exact h
         . rcases Zp.mp z with z | z
           . exact R1.dj kx i a h1 m z
           . exact R1.dj kx j a h2 m z
        have f:=sf a _ b;exact ⟨by rw [h];exact sh a _ f,by rw [f];exact fun z=>nomatch z⟩
       have t0:=w0.thaw (sF.trans sf) o0;have t1':=w1.thaw (sF.trans sf) o1;have il:i < δ.length:=(ZE.mp hi).1;have jl:j < δ.length:=(ZE.mp hj).1;refine k σ F0 H' (Same.refl F0) ⟨lB (lB As i A0') j A1',hF,by rw [List.length_set,List.length_set];exact R.len,fun kx d q=>?_,fun kx h=>?_,fun kx=>?_,fun kx ky a hxy m=>?_⟩
       . by_cases hkj:kx=j
         . subst hkj;rw [List.getElem?_set_self (by rw [List.length_set];exact jl)] at q
           cases q;rw [aM];exact ⟨v1,s1,t1'⟩
         . rw [List.getElem?_set_ne (Ne.symm hkj)] at q;rw [aL hkj]
           by_cases hki:kx=i
           . subst hki;rw [List.getElem?_set_self il] at q;cases q;rw [aM];exact ⟨v0,s0,t0⟩
           . rw [List.getElem?_set_ne (Ne.symm hki)] at q;rw [aL hki];obtain ⟨v,h1,h2⟩:=R1.val kx d q;exact ⟨v,h1,h2.frame kI fun a m=>(oth kx a hki hkj m).1⟩
       . by_cases hkj:kx=j
         . subst hkj;exact absurd (List.getElem?_set_self (by rw [List.length_set];exact jl)) (h d1')
         . rw [aL hkj]
           by_cases hki:kx=i
           . subst hki;refine absurd ?_ (h d0');rw [List.getElem?_set_ne (Ne.symm hkj),List.getElem?_set_self il]
           . rw [aL hki];refine R1.non kx fun d z=>h d ?_
             rw [List.getElem?_set_ne (Ne.symm hkj),List.getElem?_set_ne (Ne.symm hki)];exact z
       . by_cases hkj:kx=j
         . subst hkj;rw [aM];exact nd2.2.1
         . rw [aL hkj]
           by_cases hki:kx=i
           . subst hki;rw [aM];exact nd2.1
           . rw [aL hki];exact R1.nd kx
       . have out0:∀ kz,kz ≠ i->kz ≠ j->a∈As kz->a ∉ A0':=fun kz h1 h2 mz z=>(oth kz a h1 h2 mz).2 (w0.dom a z).2
         have out1:∀ kz,kz ≠ i->kz ≠ j->a∈As kz->a ∉ A1':=fun kz h1 h2 mz z=>(oth kz a h1 h2 mz).2 (w1.dom a z).2
         by_cases hkj:kx=j
         . subst hkj;rw [aM] at m;rw [aL (Ne.symm hxy)]
           by_cases hki:ky=i
           . subst hki;rw [aM];exact fun z=>nd2.2.2 a z a m rfl
           . rw [aL hki];exact fun z=>out1 ky hki (Ne.symm hxy) z m
         . rw [aL hkj] at m
           by_cases hki:kx=i
           . subst hki;rw [aM] at m
             by_cases hyj:ky=j
             . subst hyj;rw [aM];exact fun z=>nd2.2.2 a m a z rfl
             . rw [aL hyj,aL (Ne.symm hxy)];exact fun z=>out0 ky (Ne.symm hxy) hyj z m
           . rw [aL hki] at m
             by_cases hyj:ky=j
             . subst hyj;rw [aM];exact out1 kx hki hkj m
             . rw [aL hyj]
               by_cases hyi:ky=i
               . subst hyi;rw [aM];exact out0 kx hki hkj m
               . rw [aL hyi];exact R1.dj kx ky a hxy m
   . cases q
 . cases q
end Dl
namespace Dl
open PySem PySem.Spec PyProof.Rows L2
theorem Ev.sub {F H F' H':Hp} {As As':Nat->List Addr} {A B:List Addr} (ev:Ev F H As F' H' As' A) (h:∀ a∈B,a∈A) (nd:B.Nodup):Ev F H As F' H' As' B :=
 ⟨ev.fs,ev.hs,ev.nf,ev.fa,fun a m=>ev.fA a (h a m),nd,fun i a m z=>ev.dj i a m (h a z)⟩
theorem Ev.grow {F H F' H' H1:Hp} {As As':Nat->List Addr} {A:List Addr} (ev:Ev F H As F' H' As' A) (s:Same H' H1):Ev F H As F' H1 As' A :=
 ⟨ev.fs,ev.hs.trans s,ev.nf,ev.fa,ev.fA,ev.nd,ev.dj⟩
def BQ (k:Nat) (fm:FM):FM:=fun δ=>(fm δ).bind fun p=>match p.1 with
 | .tup ds=>(ds[k]?).map fun d=>(d,p.2)
 | _=>none
theorem zW {X:Cx} {e b:Expr} {fm:FM} {pos:Pos} (k:Nat) (he:PV X e fm) (hb:PD X b (fC (.int (k:Int)))) (hs:nQ b:=by intro _ _;rfl):PV X (.Subscript e b pos) (BQ k fm):=imp (mC AS he hb hs) fun σ H Q ⟨F,δ,As,d,δ',R,q,kk⟩=>by
 unfold BQ at q;obtain ⟨⟨t,δ1⟩,et,q⟩:=Za.mp q;dsimp only at q;split at q
 . rename_i ds;obtain ⟨d1,hd,q⟩:=Zb.mp q;cases q;refine ⟨F,δ,As,.tup ds,δ',R,et,fun v F' H' A As' ev R' r'=>?_⟩
   obtain ⟨a,vs,rfl,sq,ro⟩:=r'.parts;refine ⟨δ',.int (k:Int),R'.toS,rfl,fun iv H1 s1 ri=>?_⟩
   cases ri;obtain ⟨w,A1,B,A2,hw,rB,eA,_⟩:=ro.pick hd;have nd:=ev.nd;rw [eA] at nd;have n1:=List.nodup_append.mp nd;have n2:=List.nodup_append.mp n1.2.1;refine ⟨a,vs,(k:Int),w,rfl,rfl,nZ s1 sq,atI_nat hw,?_⟩;refine kk w F' H1 B As' ((ev.sub (fun x m=>?_) n2.1).grow s1) (R'.grow s1) (rB.frame (bO s1) fun x m=>?_)
   . rw [eA];exact Zx _ (Zy _ m)
   . obtain ⟨⟨ws,e⟩,_⟩:=rB.dom x m;rw [e];exact s1 x _ e
 . cases q
def gK:List D->Option (List Int)
 | []=>some []
 | .int i :: ds=>(gK ds).map (i :: ·)
 | _ :: _=>none
theorem ju {K:Zu} {H:Hp}:∀ {vs:List V} {ds:List D} {ns:List Int},Reps K H vs ds->gK ds=some ns->vs=ns.map V.int
 | _,_,_,.nil,e=>by cases e;rfl
 | _,_,ns,.cons (d:=.int i) r t,e=>by
  obtain ⟨ms,em,e⟩:=Zb.mp (show (gK _).map (i :: ·)=some ns from e)
  subst e;cases r;rw [ju t em];rfl
 | _,_,_,.cons (d:=.non) _ _,e=>by cases e
 | _,_,_,.cons (d:=.bl _) _ _,e=>by cases e
 | _,_,_,.cons (d:=.str _) _ _,e=>by cases e
 | _,_,_,.cons (d:=.tup _) _ _,e=>by cases e
 | _,_,_,.cons (d:=.lst _) _ _,e=>by cases e
 | _,_,_,.cons (d:=.seq _) _ _,e=>by cases e
 | _,_,_,.cons (d:=.ty _) _ _,e=>by cases e
 | _,_,_,.cons (d:=.dct) _ _,e=>by cases e
 | _,_,_,.cons (d:=.exc _) _ _,e=>by cases e
 | _,_,_,.cons (d:=.cls _) _ _,e=>by cases e
 | _,_,_,.cons (d:=.ms _ _) _ _,e=>by cases e
 | _,_,_,.cons (d:=.mf _ _) _ _,e=>by cases e
 | _,_,_,.cons (d:=.md _ _) _ _,e=>by cases e
theorem jC:∀ {ns:List Int} {us:List Value},Vals (ns.map V.int) us->PyProof.Rows.IntsAre us ns
 | [],_,.nil=>.nil
 | n :: ns,_,.cons r t=>by
  obtain ⟨tk,rfl⟩:=r;exact .cons n tk (jC t)
section
variable {X:Cx}
end
section
variable {K:Zu} {F H:Hp} {σ:L2.St} {δ:DS} {As:Nat->List Addr} {i:Nat} {x:D} {ds:List D}
end
section
variable {X:Cx} {pos:Pos} {c:Expr} {f:FD}
end
end Dl
namespace Dl
open PySem PySem.Spec PyProof.Rows L2
noncomputable def fnM (S:List D->D×D->Prop) (ds:List D):Option (D×D):=by
 classical exact if h:(∃ d,S ds d)/\∀ d e,S ds d->S ds e->d=e then some h.1.choose else none
theorem Fj {S:List D->D×D->Prop} {ds:List D} {p:D×D} (u:∀ q,S ds q->q=p) (h:S ds p):fnM S ds=some p:=by
 unfold fnM;rw [dif_pos ⟨⟨p,h⟩,fun d e a b=>(u d a).trans (u e b).symm⟩]
 exact congrArg some (u _ (Exists.choose_spec (⟨p,h⟩:∃ d,S ds d)))
theorem De {S:List D->D×D->Prop} {ds:List D} {p:D×D} (h:fnM S ds=some p):S ds p:=by
 unfold fnM at h;split at h
 . rename_i g;cases h;exact g.1.choose_spec
 . cases h
end Dl
namespace Dl
open PySem PySem.Spec PyProof.Rows L2
def lk (ks:List Int) (ds:List D) (k:Int):Option D:=((ks.zip ds).find? fun p=>decide (p.1=k)).map (·.2)
theorem sa {k j:Int} {ks:List Int} {d:D} {ds:List D}:lk (j :: ks) (d :: ds) k=if j=k then some d else lk ks ds k:=by
 unfold lk;rw [List.zip_cons_cons,List.find?_cons]
 by_cases h:j=k
 . simp [h]
 . simp [h]
def kz (ks:List Int) (vs:List V):List (Key×V):=(ks.map Sum.inl).zip vs
theorem AI {K:Zu} {H:Hp} (k:Int):∀ {ks:List Int} {vs:List V} {ds:List D},ks.length=ds.length->Reps K H vs ds ->
 (∀ d,lk ks ds k=some d->∃ v,kw (kz ks vs) (.inl k)=some v/\Rep K H v d)/\(lk ks ds k=none->kw (kz ks vs) (.inl k)=none)
 | [],_,_,_,_=>⟨fun d e=>(by cases e),fun _=>rfl⟩
 | j :: ks,_,_,l,.nil=>by cases l
 | j :: ks,v :: vs,d :: ds,l,.cons r t=>by
  have ih:=AI k (ks:=ks) (by simpa using l) t
  rw [sa];show (∀ d',_->∃ w,kw ((.inl j,v) :: kz ks vs) (.inl k)=some w/\_)/\(_->kw ((.inl j,v) :: kz ks vs) (.inl k)=none)
  by_cases h:j=k
  . subst h;rw [if_pos rfl,kr rfl];exact ⟨fun d' e=>by cases e;exact ⟨v,rfl,r⟩,fun e=>by cases e⟩
  . rw [if_neg h,ku (fun z=>h (by cases z;rfl))]
    exact ih
def asM:D->Option (List Int×List D)
 | .ms ks ds=>some (ks,ds)
 | .md ks ds=>some (ks,ds)
 | .mf ks ds=>some (ks,ds)
 | _=>none
theorem Rep.mapD {K:Zu} {H:Hp} {v:V} {d:D} {m:List Int×List D} (r:Rep K H v d) (e:asM d=some m):∃ a vs,v=.ref a/\Rd H a (.dK (kz m.1 vs))/\m.1.length=m.2.length/\Reps K H vs m.2:=by
 cases r with
 | ms h l r=>cases e;exact ⟨_,_,rfl,h,l,r⟩
 | md h l r=>cases e;exact ⟨_,_,rfl,.inl h,l,r⟩
 | mf h l r=>cases e;exact ⟨_,_,rfl,.inr h,l,r⟩
 | _=>cases e
def uB (a b:D):Option D:=(asM a).bind fun m=>match b with
 | .int k=>lk m.1 m.2 k
 | _=>none
def nI (a b:D):Option D:=(asM b).bind fun m=>match a with
 | .int k=>some (.bl (!(lk m.1 m.2 k).isSome))
 | _=>none
theorem AJ {K:Zu} {H:Hp} {k:Int} {a:Addr} {ks:List Int} {vs:List V} {ds:List D} (h:Rd H a (.dK (kz ks vs))) (l:ks.length=ds.length) (r:Reps K H vs ds):∃ o,zm H a (.int k) o/\o.isSome=(lk ks ds k).isSome/\∀ d,lk ks ds k=some d->∃ v,o=some v/\Rep K H v d:=by
 obtain ⟨h1,h2⟩:=AI (H:=H) k l r;refine ⟨_,.inl ⟨_,.inl k,h,rfl,rfl⟩,?_,fun d e=>?_⟩
 . cases q:lk ks ds k with
   | none=>rw [h2 q];rfl
   | some d=>obtain ⟨v,e,_⟩:=h1 d q;rw [e];rfl
 . exact h1 d e
section
variable {X:Cx} {a b:Expr} {fa fb:FD} {pos:Pos}
theorem nE (hu:X.A.units+1 < cLine) (ha:PD X a fa) (hb:PD X b fb) (hs:FP b:=by intro _ _;rfl):PD X (.Subscript a b pos) (f2 uB fa fb):=imp (Cq hu ha hb hs) fun σ H Q ⟨δ,d,R,e,k⟩=>by
 obtain ⟨x,ex,e⟩:=Za.mp e;obtain ⟨y,ey,e⟩:=Za.mp e;unfold uB at e;obtain ⟨m,em,e⟩:=Za.mp e;split at e
 . rename_i kk _;refine ⟨δ,x,R,ex,fun v H1 s1 r1=>⟨δ,_,R.mono s1,ey,fun w H2 s2 r2=>?_⟩⟩
   obtain ⟨p,vs,rfl,h,l,r⟩:=(r1.mono s2).mapD em;cases r2;obtain ⟨o,g,_,f⟩:=AJ (k:=kk) h l r;obtain ⟨u,rfl,ru⟩:=f d e;exact ⟨p,u,rfl,g,k u H2 (s1.trans s2) ru⟩
 . cases e
theorem vS {K:Zu} {σ:L2.St} {H:Hp} {Q:VK} (q:up K (f2 nI fa fb) σ H Q):wH (up K fa) (up K fb) σ H Q:=by
 obtain ⟨δ,d,R,e,k⟩:=q;obtain ⟨x,ex,e⟩:=Za.mp e;obtain ⟨y,ey,e⟩:=Za.mp e;unfold nI at e;obtain ⟨m,em,e⟩:=Za.mp e;split at e
 . rename_i kk _ _;cases e;refine ⟨δ,_,R,ex,fun v H1 s1 r1=>⟨δ,y,R.mono s1,ey,fun w H2 s2 r2=>?_⟩⟩
   cases r1;obtain ⟨p,vs,rfl,h,l,r⟩:=r2.mapD em;obtain ⟨o,g,i,_⟩:=AJ (k:=kk) h l r;refine ⟨p,o,rfl,g,?_⟩;rw [i];exact k _ H2 (s1.trans s2) (.bl _)
 . cases e
theorem vA (hu:X.A.units+1 < cLine) (ha:PD X a fa) (hb:PD X b fb) (hm:behindInMarks .NotIn b=false:=by with_unfolding_all rfl):PTD X (.Compare a [.NotIn] [b] pos) (fT (f2 nI fa fb)):=C0 (Ey (yB hu ha hb) hm) fun _ _ _ q=>wu (fun _ _ _ z=>vS z) q
end
def ptV {α:Type} (ks:List Int) (ds:List α) (k:Int) (x:α):List α:=if k∈ks then (ks.zip ds).map fun p=>if p.1=k then x else p.2 else ds++[x]
def ptK (ks:List Int) (k:Int):List Int:=if k∈ks then ks else ks++[k]
def oi (i:Nat) (fk:FD) (fm:FM):SD:=fun δ=>(fm δ).bind fun p=>match p.2[i]? with
 | some (some (.md ks ds))=>(fk p.2).bind fun kd=>match kd with
  | .int k=>if imm p.1 && decide (ks.length<=999) then some (.nx (p.2.set i (some (.md (ptK ks k) (ptV ks ds k p.1))))) else none
  | _=>none
 | _=>none
section
variable {K:Zu} {F H:Hp} {σ:L2.St} {δ:DS} {As:Nat->List Addr}
theorem RepO.md_inv {ks:List Int} {ds:List D}:∀ {v:V} {d:D} {A:List Addr},RepO K F H v d A->d=.md ks ds->∃ a vs,v=.ref a/\A=[a]/\H a=some (.dK (kz ks vs))/\F a=none/\ks.length=ds.length/\bG ds=true/\Reps K H vs ds
 | _,_,_,.imm i _,e=>by subst e;rw [Dl.imm] at i;cases i
 | _,_,_,.shr _,e=>nomatch e
 | _,_,_,.shm _,e=>nomatch e
 | _,_,_,.shf _,e=>nomatch e
 | _,_,_,.tup _ _,e=>nomatch e
 | _,_,_,.lst _ _ _,e=>nomatch e
 | _,_,_,.md h n l i r,e=>by cases e;exact ⟨_,_,rfl,rfl,h,n,l,i,r⟩
theorem RepA.md {i:Nat} {ks:List Int} {ds:List D} (R:RepA K F H σ δ As) (h:δ[i]? = some (some (.md ks ds))):∃ a vs,σ[i]? = some (some (.ref a))/\As i=[a]/\H a=some (.dK (kz ks vs))/\F a=none/\ks.length=ds.length/\bG ds=true/\Reps K H vs ds:=by
 obtain ⟨v,h1,h2⟩:=R.val i _ h;obtain ⟨a,vs,rfl,r⟩:=h2.md_inv rfl;exact ⟨a,vs,h1,r⟩
theorem BJ {k:Int}:∀ {ks:List Int} {vs:List V},ks.length=vs.length->((kz ks vs).any fun kv=>decide (kv.1=(.inl k:Key)))=decide (k∈ks)
 | [],_,_=>by simp [kz]
 | j :: ks,[],l=>by cases l
 | j :: ks,v :: vs,l=>by
  show ((Sum.inl j,v) :: kz ks vs).any _=_;rw [List.any_cons,BJ (by simpa using l)]
  by_cases h:j=k
  . subst h;simp
  . have h':¬ k=j:=fun z=>h z.symm
    simp [h,h',Sum.inl.injEq]
theorem AQ {ks:List Int} {vs:List V} (l:ks.length=vs.length):(kz ks vs).length=ks.length:=by
 unfold kz;rw [List.length_zip,Zi];omega
theorem AO {k:Int} {v:V}:∀ {ks:List Int} {vs:List V},ks.length=vs.length->((kz ks vs).map fun kv=>if kv.1=(.inl k:Key) then (kv.1,v) else kv)=kz ks ((ks.zip vs).map fun p=>if p.1=k then v else p.2)
 | [],_,_=>by simp [kz]
 | j :: ks,[],l=>by cases l
 | j :: ks,w :: vs,l=>by
  have ih:=AO (k:=k) (v:=v) (ks:=ks) (vs:=vs) (by simpa using l)
  show (if (Sum.inl j:Key)=.inl k then ((Sum.inl j:Key),v) else (.inl j,w)) :: ((kz ks vs).map _)=(.inl j,if j=k then v else w) :: kz ks ((ks.zip vs).map _)
  rw [ih]
  by_cases h:j=k
  . subst h;rw [if_pos rfl,if_pos rfl]
  . rw [if_neg (fun z=>h (by cases z;rfl)),if_neg h]
theorem E4 {k:Int} {v:V} {ks:List Int} {vs:List V} (l:ks.length=vs.length):jb (kz ks vs) (.inl k) v=kz (ptK ks k) (ptV ks vs k v):=by
 unfold jb ptK ptV;rw [BJ l]
 by_cases h:k∈ks
 . rw [if_pos (by simpa using h),if_pos h,if_pos h,AO l]
 . rw [if_neg (by simpa using h),if_neg h,if_neg h]
   unfold kz;rw [List.map_append,List.zip_append (by rw [Zi];exact l)]
   rfl
theorem tH {k:Int} {v:V} {d:D} (rv:Rep K H v d):∀ {ks:List Int} {vs:List V} {ds:List D},ks.length=ds.length->Reps K H vs ds->Reps K H ((ks.zip vs).map fun p=>if p.1=k then v else p.2) ((ks.zip ds).map fun p=>if p.1=k then d else p.2)
 | [],_,_,_,_=>.nil
 | j :: ks,_,_,l,.nil=>by cases l
 | j :: ks,w :: vs,e :: ds,l,.cons r t=>by
  have ih:=tH (k:=k) rv (ks:=ks) (by simpa using l) t
  show Reps K H ((if j=k then v else w) :: _) ((if j=k then d else e) :: _)
  by_cases h:j=k
  . rw [if_pos h,if_pos h];exact .cons rv ih
  . rw [if_neg h,if_neg h];exact .cons r ih
theorem qr {v:V} {d:D} (rv:Rep K H v d):∀ {vs:List V} {ds:List D},Reps K H vs ds->Reps K H (vs++[v]) (ds++[d])
 | _,_,.nil=>.cons rv .nil
 | _,_,.cons r t=>.cons r (qr rv t)
theorem zM {k:Int} {v:V} {d:D} {ks:List Int} {vs:List V} {ds:List D} (rv:Rep K H v d) (l:ks.length=ds.length) (r:Reps K H vs ds):Reps K H (ptV ks vs k v) (ptV ks ds k d):=by
 unfold ptV;split
 . exact tH rv l r
 . exact qr rv r
theorem uu {k:Int} {d:D} (h:imm d=true):∀ {ks:List Int} {ds:List D},bG ds=true->bG ((ks.zip ds).map fun p=>if p.1=k then d else p.2)=true
 | [],_,_=>rfl
 | j :: ks,[],_=>rfl
 | j :: ks,e :: ds,i=>by
  rw [bG,ZH] at i;show bG ((if j=k then d else e) :: _)=true
  rw [bG,ZH];exact ⟨(by split;exact h;exact i.1),uu h i.2⟩
theorem qL {d:D} (h:imm d=true):∀ {ds:List D},bG ds=true->bG (ds++[d])=true
 | [],_=>by show bG [d]=true;rw [bG,h];rfl
 | e :: ds,i=>by
  rw [bG,ZH] at i;show bG (e :: (ds++[d]))=true;rw [bG,ZH];exact ⟨i.1,qL h i.2⟩
theorem ut {k:Int} {d:D} {ks:List Int} {ds:List D} (h:imm d=true) (i:bG ds=true):bG (ptV ks ds k d)=true:=by
 unfold ptV;split
 . exact uu h i
 . exact qL h i
theorem CU {α:Type} {k:Int} {d:α} {ks:List Int} {ds:List α} (l:ks.length=ds.length):(ptK ks k).length=(ptV ks ds k d).length:=by
 unfold ptK ptV;split
 . rw [Zi,List.length_zip];omega
 . rw [Zh,Zh,l];rfl
end
section
variable {X:Cx} {e ei:Expr} {fk:FD} {fm:FM} {pos p1 p2 p3 p4:Pos}
theorem xg (hu:X.A.units+1 < cLine) (i:Nat) {x:Str} (he:PV X e fm) (hk:PD X ei fk) (hN:X.N[i]? = some x:=by rfl) (hv:Vis X.env.scope x:=by first | exact Or.inl rfl | exact Or.inr (Or.inl rfl) | exact Or.inr (Or.inr rfl)) (hd:(x == ("__debug__":Str))=false:=by decide) (hcd:(x == ("__classdict__":Str))=false:=by decide)
 (hs:swapsWith e (some (.Subscript (.Name x p1) ei p2)) pos.line X.env=pure false:=by rfl) :
 PMD X (.Assign [.Subscript (.Name x p1) ei p2] e pos) (oi i fk fm) :=
 gr (Cf hu (lI hN hv hd hcd) hk he hs) fun E σ H ⟨F,δ,r,⟨As,R⟩,q,k⟩=>by
 unfold oi at q;obtain ⟨⟨d,δ'⟩,ed,q⟩:=Za.mp q;dsimp only at q;split at q
 . rename_i ks ds h1;obtain ⟨kd,ek,q⟩:=Za.mp q;split at q
   . rename_i kk;split at q
     . rename_i hc;cases q;rw [ZH,decide_eq_true_eq] at hc;obtain ⟨hi,hz⟩:=hc;refine ⟨F,δ,As,d,δ',R,ed,fun v F' H' A As' ev R' r'=>?_⟩
       obtain ⟨a,vs,s1,eA,g1,n1,l1,i1,rp⟩:=R'.md h1;refine ⟨.ref a,s1,δ',.int kk,R'.toS,ek,fun iv H2 s2 ri=>?_⟩
       cases ri;have R2:=R'.grow s2;have r2:=(r'.rep R'.fz).mono s2;obtain ⟨a2,vs2,s12,eA2,g2,n2,l2,i2,rp2⟩:=R2.md h1;have ea:a2=a:=by rw [s1] at s12;cases s12;rfl
       subst ea;have lv:ks.length=vs2.length:=by rw [rp2.length];exact l2
       refine ⟨a2,_,rfl,DPut.k (k:=.inl kk) g2 (Nat.lt_of_le_of_lt (by rw [AQ lv];exact hz) (jF (show 999<=1000 by decide))),?_⟩
       rw [E4 lv];have ai:a2∈As' i:=by rw [eA2];exact Zk
       have hl:i < δ'.length:=(ZE.mp h1).1;have kp:eT H2 (upd H2 a2 (.dK (kz (ptK ks kk) (ptV ks vs2 kk v)))):=iB g2 rfl;have nj:∀ j x,j ≠ i->x∈As' j->x ≠ a2:=fun j x hj m z=>R2.dj j i x hj m (z ▸ ai)
       have rn:Reps X.K (upd H2 a2 (.dK (kz (ptK ks kk) (ptV ks vs2 kk v)))) (ptV ks vs2 kk v) (ptV ks ds kk d):=dQ kp (zM r2 l2 rp2) (ut hi i2);exact k σ F' _ ev.fs ⟨_,R2.write hl s12 kp (kF R2.fz n2) (fun j x hj m=>aB (nj j x hj m)) (.md aP n2 (CU l2) (ut hi i2) rn) (List.nodup_cons.mpr ⟨fun z=>(nomatch z),List.nodup_nil⟩) fun j x hj m z=>nj j x hj m (Zm.mp z)⟩
     . cases q
   . cases q
 . cases q
end
section
variable {K:Zu} {F H:Hp} {σ:L2.St} {δ:DS} {As:Nat->List Addr}
theorem AE {H1:Hp} {ks:List Int} {vs:List V} {ds:List D} {p:Addr} {Q:VK} (R:RepA K F H σ δ As) (s:Same H H1) (r:Reps K H1 vs ds) (l:ks.length=ds.length) (i:bG ds=true) (hp:H p=none) (hm:H1 p=none \/ ∃ es,H1 p=some (.dK es))
 (k:∀ v F' H' A As',Ev F H As F' H' As' A->RepA K F' H' σ δ As'->RepO K F' H' v (.md ks ds) A->Q v H'):Q (.ref p) (upd H1 p (.dK (kz ks vs))):=by
 have sn:Same H (upd H1 p (.dK (kz ks vs))):=fun a u e=>by
  have:a ≠ p:=fun z=>by rw [z,hp] at e;cases e
  rw [aB this];exact s a u e
 have kp:eT H1 (upd H1 p (.dK (kz ks vs))):=fun a u e n=>by
  have:a ≠ p:=fun z=>by
   rw [z] at e;rcases hm with h | ⟨es,h⟩
   . rw [h] at e;cases e
   . rw [h] at e;cases e;cases n
  rw [aB this];exact e
 refine k _ F _ [p] As (.fresh sn (fun a m=>?_) (List.nodup_cons.mpr ⟨fun z=>(nomatch z),List.nodup_nil⟩) (fun i a m=>(R.dom m).1)) (R.grow sn) (.md aP (cn R.fz hp) l i (dQ kp r i))
 rw [Zm.mp m];exact hp
end
def xG:List D->Option (List Int×List D)
 | [d]=>asM d
 | _=>none
def wG (g:FA):FM:=fun δ=>(g δ).bind fun xs=>(xG xs).bind fun m=>if bG m.2 then some (.md m.1 m.2,δ) else none
def jf (fk fv:FD):FM:=fun δ=>(fk δ).bind fun kd=>match kd with
 | .int k=>(fv δ).bind fun d=>if imm d then some (.md [k] [d],δ) else none
 | _=>none
section
variable {X:Cx} {e ek ev:Expr} {g:FA} {fk fv:FD} {pos p:Pos}
theorem sR:fZ X (.type "dict") (fun xs H Q=>∃ a kvs,xs=[.ref a]/\Rd H a (.dK kvs)/\∀ l,H l=none->Q (.ref l) (upd H l (.dK kvs))):=by
 intro pins s σ H xs us Q I r h;obtain ⟨a,kvs,rfl,hq,q⟩:=h;obtain ⟨u,rfl,rx⟩:=je r;cases rx;exact Bw I hq fun l s' hl I'=>⟨.ref l,_,I',rfl,q l hl⟩
theorem yu (hg:Gl X "dict") (hm:X.mg "dict" = none) (hv:bootBuiltins "dict" = some (.type "dict")) (ha:PAD X [e] g) (he:starEach [e] X.env=(false,eval e X.env) :: starEach [] X.env:=by rfl) (hpl:(backTo pos (starEach [] X.env)).any (·.1)=false:=by rfl) :
 PV X (.Call (.Name "dict" p) [e] [] pos) (wG g):=imp (iy sR hg hm hv ha (by decide) (by decide) he hpl) fun σ H Q ⟨F,δ,As,d,δ',RA,q,k⟩=>by
 unfold wG at q;obtain ⟨xs,exs,q⟩:=Za.mp q;obtain ⟨m,em,q⟩:=Za.mp q;split at q
 . rename_i hi;cases q;refine ⟨_,xs,RA.toS,exs,fun vs H1 s1 r1 l=>?_⟩
   unfold xG at em;split at em
   . obtain ⟨v,rfl,rv⟩:=g8 r1;obtain ⟨a,ws,rfl,h,hl,rp⟩:=rv.mapD em;exact ⟨a,_,rfl,h,fun q hq=>AE RA s1 rp hl hi (cn s1 hq) (.inl hq) k⟩
   . cases em
 . cases q
theorem z6 (hk:PD X ek fk) (hv:PD X ev fv):PV X (.Dict [some ek] [ev] pos) (jf fk fv):=imp (xk (tO hk hv xf) rfl rfl (by simp) (by simp)) fun σ H Q ⟨F,δ,As,d,δ',RA,q,k⟩=>by
 unfold jf at q;obtain ⟨kd,ekd,q⟩:=Za.mp q;split at q
 . rename_i kk;obtain ⟨x,ex,q⟩:=Za.mp q;split at q
   . rename_i hi;cases q;intro p hp;have s0:=bQ hp (.dK []);refine ⟨_,.int kk,RA.toS.mono s0,ekd,fun kv H1 s1 rk=>⟨_,x,(RA.toS.mono s0).mono s1,ex,fun v H2 s2 rv=>?_⟩⟩
     cases rk;have e2:H2 p=some (.dK []):=s2 _ _ (s1 _ _ aP);exact ⟨e2,[(.inl kk,v)],rfl,(by simp),AE (ks:=[kk]) (vs:=[v]) RA ((s0.trans s1).trans s2) (.cons rv .nil) rfl (by rw [bG,hi];rfl) hp (.inr ⟨_,e2⟩) k⟩
   . cases q
 . cases q
def sA (fk fv:FD):FD:=fun δ=>(jf fk fv δ).map (·.1)
theorem tU (hk:PD X ek fk) (hv:PD X ev fv):PD X (.Dict [some ek] [ev] pos) (sA fk fv):=imp (xk (tO hk hv xf) rfl rfl (by simp) (by simp)) fun σ H Q ⟨δ,d,R,q,k⟩=>by
 unfold sA jf at q;obtain ⟨⟨d1,δ1⟩,q2,rfl⟩:=Zb.mp q;clear q;obtain ⟨kd,ekd,q⟩:=Za.mp q2;split at q
 . rename_i kk;obtain ⟨x,ex,q⟩:=Za.mp q;split at q
   . rename_i hi;cases q;intro p hp;have s0:=bQ hp (.dK []);refine ⟨_,.int kk,R.mono s0,ekd,fun kv H1 s1 rk=>⟨_,x,(R.mono s0).mono s1,ex,fun v H2 s2 rv=>?_⟩⟩
     cases rk;have e2:H2 p=some (.dK []):=s2 _ _ (s1 _ _ aP);have kp:eT H2 (upd H2 p (.dK (kz [kk] [v]))):=iB e2 rfl;have sn:Same H (upd H2 p (.dK (kz [kk] [v]))):=fun b u e=>by
      have:b ≠ p:=fun z=>by rw [z,hp] at e;cases e
      rw [aB this];exact s2 _ _ (s1 _ _ (s0 _ _ e))
     exact ⟨e2,[(.inl kk,v)],rfl,(by simp),k (.ref p) (upd H2 p (.dK (kz [kk] [v]))) sn (.md aP rfl (.cons (ir kp rv hi) .nil))⟩
   . cases q
 . cases q
end
end Dl
namespace Dl
open PySem PySem.Spec PyProof.Rows L2
def Itd (d:Addr) (o:Obj) (kvs:List (Key×V)):It :=
 ⟨fun i H=>H d=some (.frz o (.dK kvs))/\i < kvs.length,fun i H v H'=>H'=H/\∃ k x,kvs[i]? = some (k,x)/\v=kV k,fun i H=>H d=some (.frz o (.dK kvs))/\kvs.length<=i⟩
theorem yK {k:Key} {u:Value} (h:oQ k u=true):RelV (kV k) u:=by
 rcases bW h with ⟨i,t,rfl,rfl⟩ | ⟨x,t,rfl,rfl⟩
 . exact ⟨t,rfl⟩
 . exact ⟨t,rfl⟩
theorem qT {P:Program} {w:World} {H:Hp} {h:Heap} {d:Addr} {o:Obj} {kvs:List (Key×V)} {ep:Nat} (ok:HOk P w H h) (e:H d=some (.frz o (.dK kvs))) (hd:∃ es,o.data=.dict es ep):(d == sysModules)=false/\∃ vs,KV kvs vs/\h.DictAt (bM P w) d vs ep:=by
 obtain ⟨ho,_,hs,vs,r,o',es,ep',ho',c⟩:=(show h.get? d=some o/\kvs.length<=sizeLine/\(d == sysModules)=false/\∃ vs,KV kvs vs/\h.DictOf (bM P w) d vs from ok d _ e)
 rw [ho] at ho';cases ho';obtain ⟨es2,hd⟩:=hd;obtain ⟨c1,c2,c3⟩:=c;rw [c2] at hd;cases hd;exact ⟨hs,vs,r,_,_,ho,c1,c2,c3⟩
theorem yi {P:Program} {w:World} {K:Zu} {tg:Expr} {it d:Addr} {o:Obj} {kvs:List (Key×V)} {ep:Nat} (hd:∃ es,o.data=.dict es ep) (hne:d ≠ it):wz P w K tg (Itd d o kvs) [it] it (fun i h=>h.IsKeyIter it d i kvs.length ep) where
 mem:=by simp
 obj:=fun i h st b hb=>by
  obtain ⟨o1,e1,_,d1⟩:=st;have e:b=it:=by simpa using hb
  subst e;exact ⟨o1,e1,fun v q=>by rw [d1] at q;cases q⟩
 keep:=fun i h h' st k=>st.at fun o e=>k it (by simp) o e
 item:=by
  intro X hP hw hK hc i pins s σ H E I hf st hg;subst hP hw hK;obtain ⟨f0,f1,f2,f3,f4,f5⟩:=hf it (by simp)
  obtain ⟨e,hi⟩:=hg;obtain ⟨_,vs,r,da⟩:=qT I.hok e hd;have hl:=r.length;rw [hl] at st;obtain ⟨⟨k,x⟩,hx⟩:∃ p,vs[i]? = some p:=⟨vs[i]'(by omega),by simp [show i < vs.length by omega]⟩
  refine wpAny_pyNext_dict_item st da hx fun key h' hkey hit' hs'=>?_
  refine ⟨key,rfl,letGo_keyiter hit' ⟨kV k,H,?_,yK hkey,⟨rfl,?_⟩,by rw [hl];exact hit',fun b hb=>(hf b hb).1⟩⟩
  . exact I.turned (t':=s.toks) (fun b o hb e=>hs'.extBut b o hb e) f0 f1 f3 f4 f5
  . have hk:=r.keys;have h1:(kvs.map (·.1))[i]? = some k:=by rw [hk,ZD,hx];rfl
    rw [ZD] at h1;cases q:kvs[i]? with
    | none=>rw [q] at h1;cases h1
    | some p=>rw [q] at h1;cases h1;exact ⟨p.1,p.2,rfl,rfl⟩
 done:=by
  intro X hP hw hK hc i pins s σ H E I hf st hg;subst hP hw hK;obtain ⟨f0,f1,f2,f3,f4,f5⟩:=hf it (by simp)
  obtain ⟨e,hi⟩:=hg;obtain ⟨_,vs,r,da⟩:=qT I.hok e hd;have hl:=r.length;rw [hl] at st;exact wpAny_pyNext_dict_end (I.ok.hd hc) st da (by simp;omega) fun h' eb=>⟨rfl,I.turned (t':=s.toks) (fun b o hb e=>eb b o hb e) f0 f1 f3 f4 f5⟩
 self:=fun _ _ _ _ _ st h=>wpAny_pyIter_keyiter st h
def GT (tl:TE):TI:=fun σ H R=>tl σ H fun x H1=>∃ d o kvs,x=.ref d/\H1 d=some (.frz o (.dK kvs))/\R (Itd d o kvs) H1
theorem Co {X:Cx} {tg l:Expr} {tl:TE} (hl:PE X l tl):PI X tg l (GT tl):=by
 intro pins s σ H R I h;refine thn (hl pins s σ H _ I h) fun v s1 ⟨x,H1,I1,r1,q1⟩=>?_
 obtain ⟨d,o,kvs,e,hq,q⟩:=q1;subst e;cases r1;have z:=I1.hok d _ hq;obtain ⟨ho,_,hs,vs,r,o',es,ep,ho',c1,c2,c3⟩:=(show s1.heap.get? d=some o/\kvs.length<=sizeLine/\(d == sysModules)=false/\∃ vs,KV kvs vs/\s1.heap.DictOf (bM X.prog X.w) d vs from z)
 rw [ho] at ho';cases ho';have da:s1.heap.DictAt (bM X.prog X.w) d vs ep:=⟨_,_,ho,c1,c2,c3⟩;refine wpAny_pyIter_dict hs da ?_;have hlt:d < s1.heap.objs.size:=Heap.lt_size ho;refine ⟨s1.heap.objs.size,[s1.heap.objs.size],_,_,H1,rfl,I1.kept (t':=s1.toks) fun b o e=>Heap.get?_push_of_some _ e,yi (kvs:=kvs) ⟨es,c2⟩ (ZB hlt),⟨_,Heap.get?_push_size _ rfl,rfl,?_⟩,fun b hb=>?_,q⟩
 . show Data.fields _=Data.fields _;rw [r.length];rfl
 . have e:b=s1.heap.objs.size:=by simpa using hb
   subst e;exact I1.fpOk (ZG _) (I1.hok.fresh (ZG _))
def GN (d:D):Option (List D):=match d with
 | .mf ks _=>some (ks.map D.int)
 | _=>none
theorem E5 {ks:List Int} {vs:List V} {i:Nat} {k:Key} {x:V} (h:(kz ks vs)[i]? = some (k,x)):∃ j,ks[i]? = some j/\k=.inl j:=by
 unfold kz at h;rw [List.getElem?_zip_eq_some] at h;obtain ⟨h1,_⟩:=h;rw [ZD] at h1;cases q:ks[i]? with
 | none=>rw [q] at h1;cases h1
 | some j=>rw [q] at h1;cases h1;exact ⟨j,rfl,rfl⟩
theorem CZ {K:Zu} {H1:Hp} {d:Addr} {o:Obj} {ks:List Int} {vs:List V} (l:ks.length=vs.length) (h:H1 d=some (.frz o (.dK (kz ks vs)))):ItD K (Itd d o (kz ks vs)) H1 (ks.map D.int):=by
 intro i H2 s;have h2:=s _ _ h;have hl:=AQ l;rw [Zi];refine ⟨fun hi=>⟨⟨h2,by omega⟩,fun x H' y=>?_⟩,fun hi=>⟨h2,by omega⟩⟩
 obtain ⟨rfl,k,w,e,rfl⟩:=y;obtain ⟨j,hj,rfl⟩:=E5 e;exact ⟨Same.refl _,.int j,by rw [ZD,hj];rfl,.int j⟩
theorem tR {X:Cx} {tg l:Expr} {f:FD} (hl:PD X l f):PID X tg l (fun δ=>(f δ).bind GN):=yP (Co hl) fun σ H R ⟨δ,ds,R0,e,k⟩=>by
 obtain ⟨d,ed,e⟩:=Za.mp e;refine ⟨δ,d,R0,ed,fun v H1 s1 r1=>?_⟩
 cases r1 with
 | @mf p ks vs es hp hz rp =>
  cases e;obtain ⟨o,hp⟩:=hp;exact ⟨p,o,_,rfl,hp,k _ H1 s1 (CZ (by rw [rp.length];exact hz) hp)⟩
 | _=>cases e
end Dl
namespace Dl
open PySem PySem.Spec PyProof.Rows L2
section
variable {X:Cx} {pins:List (Addr×Obj)} {σ:L2.St} {H:Hp} {s:Shared} {a:Addr} {u u':HO}
theorem ul (I:L2.Inv X pins σ H s) (h:H a=some u) (n1:∀ xs,u ≠ .tup xs) (n2:∀ y,u ≠ .own y) (n3:∀ o w,X.H₀ a ≠ some (.frz o w)) (n4:∀ ps,u ≠ .tbl ps) (new:ObjOk X.prog X.w (upd H a u') s.heap a u'):L2.Inv X pins σ (upd H a u') s where
 ok:=I.ok
 os:=I.os
 bare:=I.bare
 base:={ keep:=I.base.keep,slot:=I.base.slot,there:=I.base.there
         free:=fun b o e n hx=>by
          have z:=I.base.free b o e n hx;rw [aB fun q=>by rw [q,h] at z;cases z];exact z
         tups:=fun b xs e=>by
          have z:=I.base.tups b xs e;rw [aB fun q=>by rw [q,h] at z;cases z;exact n1 _ rfl];exact z
         frzs:=fun b o w e=>by
          have z:=I.base.frzs b o w e;have hb:b ≠ a:=fun q=>by subst q;exact n3 o w e
          rw [aB hb];exact z
         tbls:=fun b ps e=>by
          obtain ⟨m,z⟩:=I.base.tbls b ps e;exact ⟨m,by rw [aB fun q=>by rw [q,h] at z;cases z;exact n4 _ rfl];exact z⟩ }
 loc:=I.loc
 cell:=I.cell
 free:=by
  have z:=I.free;rw [aB fun q=>by rw [q,h] at z;cases z];exact z
 freeC:=fun x c e=>by
  have z:=I.freeC x c e;rw [aB fun q=>by rw [q,h] at z;cases z];exact z
 pin:=fun p hp=>by
  obtain ⟨h1,z,h3⟩:=I.pin p hp;exact ⟨h1,by rw [aB fun q=>by rw [q,h] at z;cases z];exact z,h3⟩
 hok:=fun b w e=>by
  by_cases hb:b=a
  . subst hb;rw [aP] at e;cases e;exact new
  . rw [aB hb] at e;refine (I.hok b w e).stay (fun _ _ _ q=>q) (fun c r=>?_) fun c xs r=>?_
    . rw [aB fun q=>by rw [q,h] at r;cases r;exact n2 _ rfl];exact r
    . rw [aB fun q=>by rw [q,h] at r;cases r;exact n1 _ rfl];exact r
 len:=I.len
theorem GE (I:L2.Inv X pins σ H s) (h:H a=some u) (n:∀ o w,u ≠ .frz o w):∀ o w,X.H₀ a ≠ some (.frz o w):=fun o w e=>by
 have z:=I.base.frzs a o w e;rw [h] at z;cases z;exact n _ _ rfl
end
def vFz (i:Nat) (f:FD):FM:=fun δ=>match δ[i]? with
 | some (some (.md ks ds))=>(f (δ.set i (some (.mf ks ds)))).bind fun d=>if imm d then some (d,δ) else none
 | _=>none
theorem Gx {X:Cx} {e:Expr} {f:FD} (i:Nat) (h:PD X e f):PV X e (vFz i f):=fun pins s σ H Q I ⟨F,δ,As,d,δ',R,q,k⟩=>by
 unfold vFz at q;split at q
 . rename_i ks ds hi;obtain ⟨d0,e0,q⟩:=Za.mp q;split at q
   . rename_i im;cases q;obtain ⟨a,vs,s1,eA,g1,n1,l1,i1,rp⟩:=R.md hi;have ok:=I.hok a _ g1;obtain ⟨z1,z2,us,r,o,es,ep,ho,c⟩:=(show (kz ks vs).length<=sizeLine/\(a == sysModules)=false/\∃ us,KV (kz ks vs) us/\s.heap.DictOf (bM X.prog X.w) a us from ok)
     have nf:=GE I g1 (fun _ _ z=>nomatch z)
     have I1:L2.Inv X pins σ (upd H a (.frz o (.dK (kz ks vs)))) s:=ul I g1 (fun _ z=>nomatch z) (fun _ z=>nomatch z) nf (fun _ z=>nomatch z) ⟨ho,z1,z2,us,r,o,es,ep,ho,c⟩
     have kp:eT H (upd H a (.frz o (.dK (kz ks vs)))):=iB g1 rfl;have R1:RepS X.K (upd H a (.frz o (.dK (kz ks vs)))) σ (δ.set i (some (.mf ks ds))):=by
      refine ⟨by rw [List.length_set];exact R.len,fun j x q=>?_⟩
      rw [List.getElem?_set] at q
      by_cases hj:i=j
      . subst hj;rw [if_pos rfl,if_pos (ZE.mp hi).1] at q;cases q;exact ⟨.ref a,s1,.mf ⟨o,aP⟩ l1 (dQ kp rp i1)⟩
      . rw [if_neg hj] at q;obtain ⟨v,h1,h2⟩:=R.val j x q;refine ⟨v,h1,(h2.frame kp fun b m=>aB fun z=>?_).rep (kF R.fz n1)⟩
        exact R.dj i j a hj (by rw [eA];exact Zk) (z ▸ m)
     refine thn (h pins s σ _ (fun v H'=>Same (upd H a (.frz o (.dK (kz ks vs)))) H'/\Rep X.K H' v d) I1 ⟨_,d,R1,e0,fun v H' s' r'=>⟨s',r'⟩⟩) fun w s2 ⟨v,H2,I2,rv,sm,rd⟩=>?_
     have fa:H2 a=some (.frz o (.dK (kz ks vs))):=sm _ _ aP;have okF:=I2.hok a _ fa;obtain ⟨_,okD⟩:=(show s2.heap.get? a=some o/\ObjOk X.prog X.w H2 s2.heap a (.dK (kz ks vs)) from okF)
     have I3:L2.Inv X pins σ (upd H2 a (.dK (kz ks vs))) s2:=ul I2 fa (fun _ z=>nomatch z) (fun _ z=>nomatch z) nf (fun _ z=>nomatch z) okD
     have sH:Same H (upd H2 a (.dK (kz ks vs))):=fun b w e=>by
      by_cases hb:b=a
      . subst hb;rw [aP,<- g1];exact e
      . rw [aB hb];exact sm b w (by rw [aB hb];exact e)
     exact ⟨v,_,I3,rv,k v F _ [] As (.pure sH) (R.grow sH) (.imm im (ir (iB fa rfl) rd im))⟩
   . cases q
 . cases q
end Dl
namespace Dl
open PySem PySem.Spec PyProof.Rows L2
def p7 (g:FA):FA:=fun δ=>(g δ).bind fun xs=>match xs with
 | [.int i,.int j]=>if -(2 ^ 62)<=i/\i < 2 ^ 62/\-(2 ^ 62)<=j/\j < 2 ^ 62 then some ((List.range (j - i).toNat).map fun k=>D.int (i+((k:Nat):Int))) else none
 | _=>none
theorem Fc {K:Zu} {H1:Hp} {lo:Int} {n:Nat}:ItD K (Itr lo n) H1 ((List.range n).map fun k=>D.int (lo+((k:Nat):Int))):=by
 intro i H2 s;refine ⟨fun hi=>?_,fun hi=>(show n<=i by simpa using hi)⟩
 have hi':i < n:=by simpa using hi
 refine ⟨hi',fun x H' y=>?_⟩
 obtain ⟨e,y⟩:=y;subst e y;refine ⟨Same.refl _,.int (lo+(i:Int)),?_,.int _⟩;rw [ZD,List.getElem?_range hi'];rfl
theorem vE {X:Cx} {tg a b:Expr} {g:FA} {p pos:Pos} (hg:Gl X "range") (hm:X.mg "range" = none) (ha:PAD X [a,b] g) (hs:starEach [a,b] X.env=[(false,eval a X.env),(false,eval b X.env)]:=by rfl) (hs2:starEach [b] X.env=[(false,eval b X.env)]:=by rfl) :
 PID X tg (.Call (.Name "range" p) [a,b] [] pos) (p7 g):=yP (yz hg hm ha hs hs2) fun σ H R ⟨δ,ds,R0,e,k⟩=>by
 unfold p7 at e;obtain ⟨xs,exs,e⟩:=Za.mp e;split at e
 . rename_i i j;split at e
   . rename_i hb;cases e;refine ⟨δ,_,R0,exs,fun vs H1 s1 r1 l=>?_⟩
     obtain ⟨x,y,rfl,rx,ry⟩:=tI r1;cases rx;cases ry;exact ⟨i,j,rfl,hb,k _ H1 s1 Fc⟩
   . cases e
 . cases e
end Dl
namespace Dl
open PySem PySem.Spec PyProof.Rows L2
section
variable {P:Program} {w:World} {K:Zu} {mg:Str->Option Value} {base:Heap}
end
end Dl
namespace Dl
open PySem PySem.Spec PyProof.Rows L2
theorem Ab {X:Cx} {y:Str} {C:Addr} {e:Expr} {g:FA} {np cpos pos:Pos} {B newId initId:String} {bmB:List Value} (FB:ExcBaseFacts B newId initId bmB) (hh:X.A.handled=none) (hg:Gl X y) (hm:X.mg y=some (.ref C)) (hC:PySem.W.excIn X.K C bmB newId=true) (ha:PAD X [e] g)
 (hd:(y == ("__debug__":Str))=false:=by decide) (hs:starEach [e] X.env=(false,eval e X.env) :: starEach [] X.env:=by rfl) (hpl:(backTo cpos (starEach [] X.env)).any (·.1)=false:=by rfl) :
 PMD X (.Raise (some (.Call (.Name y np) [e] [] cpos)) none pos) (zH C g):=by
 intro pins s σ H E I ⟨F,δ,r,⟨As,R⟩,q,k⟩;unfold zH at q;obtain ⟨ds,eds,q⟩:=Za.mp q;cases q;obtain ⟨tl,N,nm,qn,bs,hdct,sn,sub,ab,col,dd,k0,k1,k2,k3,k5,mN,hCo,hN,hni,T⟩:=Cw I.mod.kin hC;refine wpAny_Raise_call_subT (C:=C) (nm:=nm) (q:=qn) (N:=N) (bs:=bs) (bm:=tl) (hdct:=hdct) (sn:=sn) (sub:=sub) (ab:=ab) (col:=col) (dd:=dd) (k0:=k0) (k1:=k1) (k2:=k2) (k3:=k3) (k5:=k5)
  FB (mN:=mN) (T.hasType FB.hasBase) hh (by rw [hs];show (false || (backTo cpos (starEach [] X.env)).any (·.1))=false;rw [hpl];rfl) hni (jM I hg hm ⟨rfl,?_⟩ hd)
 have hA:=ha cpos pins s σ H (fun vs H'=>Same H H'/\vs.length=1) I ⟨δ,ds,R.toS,eds,fun vs H' s1 _ l=>⟨s1,l⟩⟩
 rw [hs] at hA ⊢;refine Calls.evalArgs_plain (thn hA fun us s2 ⟨vs,H1,I1,rv,s1,l⟩=>⟨rfl,?_,I1.bk _ _ hCo,hN.keeps I1.bk,T.keeps I1.bk,fun h' x hx=>?_⟩)
 . show us.length<=sizeLine;rw [<- rv.length,l];decide
 . exact k σ F H1 (Same.refl F) ⟨As,R.grow s1⟩ pins s2 h' x us I1 hx
def uI (K:Zu) (n:Nat) (G:GX):Sp:=fun vs H Q E=>vs.length=n/\∃ ds r,Reps K H vs ds/\G ds=some r/\match r with
 | .ok d=>∀ v H' A,Same H H'->RepO K H H' v d A->A.Nodup->Q v H'
 | .error C=>∀ H',Same H H'->E (.ref C) none H'
section
variable {P:Program} {w:World} {K:Zu} {mg:Str->Option Value} {base:Heap}
theorem Bm {x qual:Str} {st:Stmt} {f:Addr} {fd:FuncData} {N ps:List Str} {k:Nat} {G:GX} (F:Fun K x qual st f fd) (S:aF N ps (aq st))
 (hbody:∀ (cdv:Value) (A:Around) (outer:List Env) (s:Shared) (H:Hp) (E:XK) (ds:List D) (r:Except Addr D),Room k (A.deeper (envOfC qual (aq st) s.heap.objs.size f cdv))->G ds=some r->ds.length=ps.length ->
  ∃ t,PMs (ii (CX1 P w) P w K mg base N qual (aq st) f cdv A outer s H E) (bD st) t/\oF (t (aH N.length ds))=some r/\∀ d,r=.ok d->own d=true):FnOk P w K mg base (CX1 P w) (k+1) f fd ps (uI K ps.length G):=by
 obtain ⟨oc,od,kV,doc,pm,an,cdv,ct,osl,rfl,lk,hcd⟩:=F.ex;refine Be lk hcd S (fun vs H Q E h=>h.1) fun A outer s H vs Q E hr hsp=>?_
 obtain ⟨hl,ds,r,rp,e,q⟩:=hsp;obtain ⟨t,ht,hq,ho⟩:=hbody cdv A outer s H E ds r hr e (rp.length.symm.trans hl);refine ⟨_,ht,H,aH N.length ds,?_⟩;cases z:t (aH N.length ds) with
 | none=>rw [z] at hq;cases hq
 | some res =>
  rw [z] at hq;refine ⟨res,j6 rp,rfl,?_⟩;cases res with
  | rt d'=>cases hq;exact fun v F' H' A s1 s2 r1 nd=>q v H' A (s1.trans s2) (r1.thaw s1 (ho _ rfl)) nd
  | nx δ=>cases hq;exact fun σ' F' H' s1 ⟨As,R⟩=>q _ H' [] (s1.trans R.fz) (.imm rfl .non) List.nodup_nil
  | bk δ=>cases hq
  | ct δ=>cases hq
  | ex C δ=>cases hq;exact fun σ' F' H' s1 ⟨As,R⟩=>Df (q H' (s1.trans R.fz))
  | mk C δ=>cases hq;exact fun σ' F' H' s1 ⟨As,R⟩=>AH (q H' (s1.trans R.fz))
structure u8 (P:Program) (w:World) (K:Zu) (mg:Str->Option Value) (base:Heap) (k:Nat) (x:Str) (ps:List Str) (G:GX):Prop where
 ex:∃ f fd,FnOk P w K mg base (CX1 P w) k f fd ps (uI K ps.length G)/\mg x=some (.ref f)/\PySem.W.keepIn K (.ref f)=true/\Binds K fd ps []
end
def BR (X:Cx) (G:GX) (g:FA):TE:=fun σ H Q=>∃ F δ As ds r,RepA X.K F H σ δ As/\g δ=some ds/\G ds=some r/\match r with
 | .ok d=>own d=true/\∀ v H' A,Ev F H As F H' As A->RepA X.K F H' σ δ As->RepO X.K F H' v d A->Q v H'
 | .error C=>∀ H',Same H H'->RepA X.K F H' σ δ As->wx X C σ H'
theorem qw {X:Cx} {e:Expr} {es:List Expr} {g:FA} {pos p:Pos} {k j:Nat} {x:Str} {ps:List Str} {G:GX} (F:u8 X.prog X.w X.K X.mg X.base k x ps G) (hr:Room j X.A) (ha:PAD X (e :: es) g) (hk:k<=j:=by decide) (hg:Gl X x:=by rfl)
 (hn:(e :: es).length=ps.length:=by rfl) (hdb:(x == ("__debug__":Str))=false:=by decide) (he:starEach (e :: es) X.env=(false,eval e X.env) :: starEach es X.env:=by rfl) (hpl:(backTo pos (starEach es X.env)).any (·.1)=false:=by rfl) :
 PE X (.Call (.Name x p) (e :: es) [] pos) (BR X G g):=by
 intro pins s σ H Q I ⟨F0,δ,As,ds,r,R,eds,eG,q⟩;obtain ⟨f,fd,F,hm,kp,hb⟩:=F.ex;refine wpAny_Call_Name_kw (jM I hg hm ?_ hdb);refine PySem.W.callWith_K (h₀:=X.base) I.ok.mod.kin kp (thn (ha pos pins s σ H (fun vs H'=>Same H H'/\Reps X.K H' vs ds/\vs.length=ps.length) I ⟨δ,ds,R.toS,eds,fun vs H' s1 r1 l=>⟨s1,r1,l.trans hn⟩⟩) fun us s1 ⟨vs,H1,I1,rv,s01,rp,l⟩=>⟨I1.kIn,?_⟩) he hpl
 have hl:us.length=ps.length:=by rw [<- rv.length];exact l
 have sp:uI X.K ps.length G vs H1 Q (fun c _ H'=>∃ C,c=.ref C/\wx X C σ H'):=by
  refine ⟨l,ds,r,rp,eG,?_⟩;cases r with
  | ok d =>
   obtain ⟨ho,q⟩:=q;intro v H' A s2 r2 nd;have nA:∀ a∈A,H a=none:=fun a m=>by
    cases z:H a with
    | none=>rfl
    | some u=>have:=(r2.dom a m).2;rw [s01 a u z] at this;cases this
   exact q v H' A (.fresh (s01.trans s2) nA nd fun i a m=>(R.dom m).1) (R.grow (s01.trans s2)) (r2.thaw (R.fz.trans s01) ho)
  | error C=>exact fun H' s2=>⟨C,rfl,q H' (s01.trans s2) (R.grow (s01.trans s2))⟩
 have hB:=hb s1 us I1.kIn (by rw [List.append_nil];exact hl)
 rw [List.append_nil] at hB;refine wpAny_call (codeAny_mono (F.run X.A X.stack s1 H1 ⟨us,[]⟩ us vs Q _ (hr.mono hk) I1.env0 hB rv sp) fun res s' hq=>?_)
 cases res with
 | error z =>
  obtain ⟨x',C,H',rfl,fly,C',e1,ok⟩:=hq;cases e1;exact ok pins H1 s1 x' s' I1 fly
 | ok fl =>
  cases fl with
  | ret u=>exact I1.after hq
  | next=>exact False.elim hq
  | brk=>exact False.elim hq
  | cont=>exact False.elim hq
def nq (G:GX) (g:FA):SD:=fun δ=>(g δ).bind fun ds=>(G ds).bind fun r=>match r with
 | .ok d=>if own d=true then some (.nx δ) else none
 | .error C=>some (.ex C δ)
theorem Ad {X:Cx} {e:Expr} {G:GX} {g:FA} {pos:Pos} (he:PE X e (BR X G g)) (hs:swapsWith e none pos.line X.env=pure false:=by rfl):PMD X (.Expr e pos) (nq G g):=gr (nv he hs) fun E σ H ⟨F,δ,r,⟨As,R⟩,q,k⟩=>by
 unfold nq at q;obtain ⟨ds,eds,q⟩:=Za.mp q;obtain ⟨r1,er,q⟩:=Za.mp q;refine ⟨F,δ,As,ds,r1,R,eds,er,?_⟩;cases r1 with
 | ok d =>
  dsimp only at q;split at q
  . rename_i ho;cases q;exact ⟨ho,fun v H' A ev R' r'=>k σ F H' (Same.refl F) ⟨As,R'⟩⟩
  . cases q
 | error C=>cases q;exact fun H' s1 R'=>k σ F H' (Same.refl F) ⟨As,R'⟩
def FU (X:Cx) (G:GX) (g:FA):TE:=fun σ H _=>∃ F δ As ds C,RepA X.K F H σ δ As/\g δ=some ds/\G ds=some (.error C)/\∀ H',Same H H'->RepA X.K F H' σ δ As->wx X C σ H'
theorem Cu {X:Cx} {e:Expr} {es:List Expr} {g:FA} {pos p:Pos} {x:Str} {f:Addr} {G:GX} (hm:X.mg x=some (.ref f)) (kp:PySem.W.keepIn X.K (.ref f)=true) (ha:PE X e (BR X G g)) (hg:Gl X x:=by rfl)
 (hdb:(x == ("__debug__":Str))=false:=by decide) (he:starEach (e :: es) X.env=(false,eval e X.env) :: starEach es X.env:=by rfl) (hpl:(backTo pos (starEach es X.env)).any (·.1)=false:=by rfl) :
 PE X (.Call (.Name x p) (e :: es) [] pos) (FU X G g):=by
 intro pins s σ H Q I ⟨F0,δ,As,ds,C,R,eds,eG,q⟩;refine wpAny_Call_Name_kw (jM I hg hm ?_ hdb);have hA:PA X (e :: es) (nW (BR X G g) fun _ _ _=>False):=d6 ha (fun _ _ _ _ _ _ _ z=>z.elim) he
 refine PySem.W.callWith_K (h₀:=X.base) I.ok.mod.kin kp (thn (hA pos pins s σ H (fun _ _=>False) I ?_) fun us s1 ⟨vs,H1,I1,rv,z⟩=>z.elim) he hpl
 exact ⟨F0,δ,As,ds,.error C,R,eds,eG,q⟩
def zG (G:GX) (g:FA):SD:=fun δ=>(g δ).bind fun ds=>(G ds).bind fun r=>match r with
 | .ok _=>none
 | .error C=>some (.ex C δ)
theorem Ck {X:Cx} {e:Expr} {G:GX} {g:FA} {pos:Pos} (he:PE X e (FU X G g)):PMD X (.Return (some e) pos) (zG G g):=gr (vC he) fun E σ H ⟨F,δ,r,⟨As,R⟩,q,k⟩=>by
 unfold zG at q;obtain ⟨ds,eds,q⟩:=Za.mp q;obtain ⟨r1,er,q⟩:=Za.mp q;cases r1 with
 | ok d=>cases q
 | error C=>cases q;exact ⟨F,δ,As,ds,C,R,eds,er,fun H' s1 R'=>k σ F H' (Same.refl F) ⟨As,R'⟩⟩
theorem RepA.unset {K:Zu} {F H:Hp} {σ:L2.St} {δ:DS} {As:Nat->List Addr} (R:RepA K F H σ δ As) (i:Nat):fN K F H (σ.set i none) (δ.set i none):=by
 have R1:=R.drop i;refine ⟨_,R1.fz,by rw [List.length_set];exact R1.len,fun j d q=>?_,R1.non,R1.nd,R1.dj⟩
 obtain ⟨v,h1,h2⟩:=R1.val j d q;refine ⟨v,?_,h2⟩;rw [List.getElem?_set] at q ⊢
 by_cases hj:i=j
 . subst hj;rw [if_pos rfl] at q;split at q <;> cases q
 . rw [if_neg hj];exact h1
theorem Ez {X:Cx} {body:List Stmt} {y n:Str} {b₀:Stmt} {suite:List Stmt} {np hp pos:Pos} {Cy:Addr} {sb sh:SD} (i:Nat) (sub:Addr->Bool) (hN:X.N.Nodup) (hm:X.mg y=some (.ref Cy)) (hc:PySem.W.isClsIn X.K Cy=true) (ht:PySem.W.typeIn X.K (.ref Cy)=some (.type "type"))
 (hbx:PySem.W.subIn X.K (.ref Cy) (.type "BaseException")=some true) (hsub:∀ C,sub C=true->PySem.W.subIn X.K (.ref C) (.ref Cy)=some true)
 (hb:∀ W pn,PMs (Cx.tried X W pn) body sb) (hh:∀ x,PMs (Cx.within X x) (b₀ :: suite) sh)
 (hst:X.stack=X.env :: X.outer:=by rfl) (hfr:X.env.frame=some X.env.locals:=by rfl) (hi:X.N[i]? = some n:=by rfl) (hl:X.env.scope.names.lookup n=some .local:=by rfl) (hg:Gl X y:=by rfl) (hd:(y == ("__debug__":Str))=false:=by decide) :
 PMD X (.Try body [.ExceptHandler (some (.Name y np)) (some n) (b₀ :: suite) hp] [] [] pos) (Eb i sub sb sh):=by
 intro pins s σ H E I ⟨F0,δ,r,R,q,k⟩;unfold Eb at q;obtain ⟨r1,e1,q⟩:=Za.mp q;refine wpAny_Try_except ?_;have hkd:(X.env.scope.kind == .class || (X.env.scope.kind == .module && X.env.locals != X.env.globals))=false:=by rw [I.ok.kind];rfl
 have fly:∀ C δ1,r1=.ex C δ1->∀ (W:Value->Shared->Prop),(∀ e s₁,W e s₁=wpAny (model X.prog X.w) X.A (noteFrame e X.env) (fun _ s₂=>wpAny (model X.prog X.w) X.A (setFlight e none) (fun _ s₃=>wpAny (model X.prog X.w) X.A (handleBy e X.env [.ExceptHandler (some (.Name y np)) (some n) (b₀ :: suite) hp]) (SP X pins E) X.xe s₃) X.xe s₂) X.xe s₁) ->
  ∀ σ' F' H',Same F0 F'->fN X.K F' H' σ' δ1->wx (Cx.tried X W (X.pn++pins)) C σ' H':=by
  intro C δ1 er W hW σ' F' H' sm R1 pins' H₀ s1 x s' I1 ⟨B,t,F,fl⟩;have I1':L2.Inv X pins σ' H₀ s1:=fJ I1;subst er;dsimp only at q;cases hsb:sub C with
  | false=>rw [hsb] at q;cases q
  | true =>
   rw [hsb,if_pos rfl] at q;obtain ⟨r2,e2,q⟩:=Za.mp q;show W (.ref x) s';rw [hW];have hA:X.A.frames=some (X.env :: X.outer):=by rw [<- hst];exact I.ok.frames
   have fl0:Heap.FlyingW B X.stack x (.ref C) (.ref t) s'.heap:=fl;have F0':FlyB X.prog X.w H₀ H' s1 X.stack B s':=F;refine wpAny_looks_onW hA hfr (by rw [<- hst];exact fl0) fun h4 held4 up4=>?_
   rw [<- hst] at held4;refine wpAny_landsW held4 fun h5 fl5 up5=>?_
   have F5:=(F0'.turn fl0.2.2.1 held4.1 up4).turn held4.2.2.1 fl5.1 up5;have I5:=FlyB.inv I1' F5 fl5.1;have p5:pM x C h5:=by
    obtain ⟨oe,vs,h1,h2,h3,_⟩:=fl5.first
    exact ⟨oe,vs,h1,h2,h3⟩
   refine wpAny_handleBy_cons (codeAny_handlers_test ?_) (by intro z;cases z)
   refine jM (X:=Cx.within X x) (oU I5 x) hg hm ?_ hd;refine uH I5.kIn p5 hc ht hbx (hsub C hsb) ?_;refine codeAny_handlers_suite_as ?_;refine lands_againW fl5 fun h6 fl6 up6=>?_
   have F6:=F5.turn fl5.2.2.1 fl6.1 up6;have I6:=yX I1' F6 fl6;refine nX (X:=Cx.within X x) (v:=.ref x) (oU I6 x) hN hi (Or.inl hl) rfl (fun s7 I7=>?_) (.inr hl)
   have sx:Same H' (upd H' x (BN x C)):=bQ (xK F6 fl6).2 _;obtain ⟨As1,R1⟩:=R1;have RM:fN X.K F' (upd H' x (BN x C)) (σ'.set i (some (.ref x))) (δ1.set i (some (.exc C))):=(R1.grow sx).setM i (.imm rfl (.exc aP)) List.nodup_nil fun _ _ _ z=>nomatch z
   have z:=hh x pins s7 (σ'.set i (some (.ref x))) (upd H' x (BN x C)) { nx:=fun σ2 H2=>E.nx (σ2.set i none) H2,rt:=E.rt } I7 ⟨F',δ1.set i (some (.exc C)),r2,RM,e2,?_⟩
   . refine wpAny_mono z (fun f s8 h8=>?_) fun _ _ z=>z.elim
     cases f with
     | next =>
      obtain ⟨σ2,H2,I8,q8⟩:=h8;obtain ⟨m,hn8,hl8⟩:=id I8.loc;refine wpAny_nameGoes_keeps hl hn8 hkd fun h9 v hn9 hs9=>⟨σ2.set i none,H2,?_,q8⟩
      exact um (mH I.ok I8) hN hi hl8 hn9 hs9 hn8
     | ret u =>
      obtain ⟨v,σ2,H2,I8,rv,q8⟩:=h8;obtain ⟨m,hn8,hl8⟩:=id I8.loc;refine wpAny_nameGoes_keeps hl hn8 hkd fun h9 v9 hn9 hs9=>⟨v,σ2.set i none,H2,?_,rv,q8⟩
      exact um (mH I.ok I8) hN hi hl8 hn9 hs9 hn8
     | brk=>obtain ⟨_,_,_,z⟩:=h8;exact z.elim
     | cont=>obtain ⟨_,_,_,z⟩:=h8;exact z.elim
   . cases r2 with
     | nx δ2=>cases q;exact fun σ2 F2 H2 s2 ⟨As2,R2⟩=>k (σ2.set i none) F2 H2 (sm.trans s2) (R2.unset i)
     | rt d=>cases q;exact fun v F2 H2 A s2=>k v F2 H2 A (sm.trans s2)
     | bk _=>cases q
     | ct _=>cases q
     | ex _ _=>cases q
     | mk _ _=>cases q
 have hB:=hb (fun e s₁=>wpAny (model X.prog X.w) X.A (noteFrame e X.env) (fun _ s₂=>wpAny (model X.prog X.w) X.A (setFlight e none) (fun _ s₃=>wpAny (model X.prog X.w) X.A (handleBy e X.env [.ExceptHandler (some (.Name y np)) (some n) (b₀ :: suite) hp]) (SP X pins E) X.xe s₃) X.xe s₂) X.xe s₁) (X.pn++pins) [] s σ H E (yN I _) ⟨F0,δ,r1,R,e1,?_⟩
 . refine wpAny_mono hB (fun f s1 h1=>?_) fun _ _ z=>z
   cases f with
   | next=>obtain ⟨σ2,H2,I2,q2⟩:=h1;exact wpAny_execs_nil ⟨σ2,H2,fJ I2,q2⟩
   | brk=>obtain ⟨σ2,H2,I2,q2⟩:=h1;exact ⟨σ2,H2,fJ I2,q2⟩
   | cont=>obtain ⟨σ2,H2,I2,q2⟩:=h1;exact ⟨σ2,H2,fJ I2,q2⟩
   | ret u=>obtain ⟨v,σ2,H2,I2,rv,q2⟩:=h1;exact ⟨v,σ2,H2,fJ I2,rv,q2⟩
 . cases r1 with
   | nx δ'=>cases q;exact k
   | rt d=>cases q;exact k
   | bk δ'=>cases q;exact k
   | ct δ'=>cases q;exact k
   | ex C δ1=>exact fly C δ1 rfl _ fun _ _=>rfl
   | mk C δ1=>cases q
end Dl
namespace Dl
open PySem PySem.Spec PyProof.Rows L2
def fIf (c:FT) (a b:FD):FD:=fun δ=>(c δ).bind fun t=>if t then a δ else b δ
theorem EK {X:Cx} {c a b:Expr} {fc:FT} {fa fb:FD} {pos:Pos} (hc:PTD X c fc) (ha:PD X a fa) (hb:PD X b fb):PD X (.IfExp c a b pos) (fIf fc fa fb):=imp (Ak hc ha hb) fun σ H Q ⟨δ,d,R,q,k⟩=>by
 unfold fIf at q;obtain ⟨t,et,q⟩:=Za.mp q;refine ⟨δ,t,R,et,fun H' s1=>?_⟩
 cases t with
 | true=>rw [if_pos rfl] at q ⊢;exact ⟨δ,d,R.mono s1,q,fun v H2 s2 r=>k v H2 (s1.trans s2) r⟩
 | false=>rw [if_neg Zv] at q ⊢;exact ⟨δ,d,R.mono s1,q,fun v H2 s2 r=>k v H2 (s1.trans s2) r⟩
section
variable {P:Program} {w:World} {K:Zu} {mg:Str->Option Value} {base:Heap}
end
end Dl
namespace Dl
open PySem PySem.Spec PyProof.Rows L2
theorem nS:∀ {ns:List Int} {us:List Value},Vals (ns.map V.int) us->us.length=ns.length/\∀ (i:Nat) (v:Value),us[i]? = some v->∃ t,v=.int (ns.getD i 0) t
 | [],_,.nil=>⟨rfl,fun i v h=>by rw [List.getElem?_nil] at h;cases h⟩
 | n :: ns,u :: us,.cons r t=>by
  obtain ⟨l,k⟩:=nS t;refine ⟨by rw [Zj,Zj,l],fun i v h=>?_⟩
  cases i with
  | zero =>
   rw [Zd] at h;cases h;exact r
  | succ i =>
   rw [Ze] at h;obtain ⟨t,e⟩:=k i v h;exact ⟨t,e⟩
end Dl
namespace Dl
open PySem PySem.Spec PyProof.Rows L2
section
variable {X:Cx} {a b:Expr} {pos:Pos} {fa fb:FM}
end
end Dl
namespace Dl
open PySem PySem.Spec PyProof.Rows L2
end Dl
namespace Hd
open PySem PySem.Spec PyProof.Rows L2
theorem walkE {l:PySem.W.OpenLaw} {n k:Nat} {q:Program} {loose:List Str} {XP:(Str->Option Value)->Heap->Prop} {YP:World->Heap->Prop} {d:DefRec} {T:Zu->Prop} {sp:Zu->Sp} {x:Str}
 (hn:l.most=some n) (hn2:n<=sizeLine) (hdf:d.params.defaults=[]) (hr:Room k callerA)
 (hY:∀ (w:World) (h:Heap),YP w h->∃ K:Zu,K.In h/\T K)
 (F:∀ (w:World) (K:Zu) (mg:Str->Option Value) (fa:Addr) (h:Heap),T K->K.In h->h.Ns mainGlobals mg->mg d.name=some (.ref fa) ->
  ∃ fd:FuncData,(∀ (s:Shared) (u:Value),BindsTo s fd ⟨[u],[]⟩ [(x,u)]) /\
   ∀ base:Heap,K.In base->base.Ns mainGlobals mg->FnOk l.prog w K mg base CX0 k fa fd [x] (sp K))
 (hsp:∀ (K:Zu) (H:Hp) (a:Addr) (ns:List Int),ns.length<=n->FN H->SqL K H a (ns.map V.int)->sp K [.ref a] H (fun v _=>v=.bl true) fun _ _ _=>False) :
 PySem.W.WalkO q loose XP YP l.row.toRowW d [] (fun f vs=>PySem.call f vs):=by
 refine Att.attach_call hn hdf fun w s₀ s₁ mg mb fa o pm cd doc a vs ns G Y ho hd hcd hmg hobj hints hlen hg=>?_
 obtain ⟨K,KX,hT⟩:=hY w _ Y;obtain ⟨fd,hb,hF⟩:=F w K mg fa _ hT KX G.T.g hmg;exact AN KX G.T.g G.T.b G.T.builtins G.T.nolimit hg hobj hints (Nat.le_trans hlen hn2) hr hF hb (fun H hO hS=>hsp K H a ns hlen hO hS) fun H e s' z=>z
end Hd
namespace Hd
open PySem PySem.Spec PyProof.Rows PySem.W
end Hd
namespace Sw
open PySem
end Sw
namespace Sw
open PySem
def t7 (led:Bool) (ks:List Nat):SetTable:={ mask:=7,place:=ks.toArray,dummies:=#[],finger:=0,led:=led,moves:=0,plain:=true }
def tb (led:Bool) (ks:List Nat):SetTable:=if ks.length=5 then { mask:=31,place:=ks.toArray,dummies:=#[],finger:=0,led:=led,moves:=1,plain:=true } else t7 led ks
def pos (ks:List Nat) (k:Nat):Nat:=SetTable.below ks.toArray k
def ins (ks:List Nat) (k:Nat):List Nat:=ks.take (pos ks k)++k :: ks.drop (pos ks k)
def jb (ks:List Nat) (k:Nat):List Nat:=if k∈ks then ks else ins ks k
section
variable {prog:Program} {w:World} {A:Around} {E:Value->Shared->Prop} {s:Shared}
end
end Sw
namespace Sw
open PySem PySem.Spec PyProof.Rows
section
variable {prog:Program} {w:World} {A:Around} {E:Value->Shared->Prop} {s:Shared} {a:Addr} {o:Obj} {es:Array (Int×Value)} {ep:Nat} {ks:List Nat}
end
end Sw
namespace Sw
open PySem PySem.Spec PyProof.Rows PySem.W
section
variable {prog:Program} {w:World} {A:Around} {E:Value->Shared->Prop} {s:Shared} {a:Addr} {o:Obj} {es:Array (Int×Value)} {ep:Nat} {ks:List Nat}
end
end Sw
namespace Sw
open PySem PySem.Spec PyProof.Rows
section
variable {prog:Program} {w:World} {A:Around} {E:Value->Shared->Prop} {s:Shared}
theorem Hw {T newId initId:String} {args:List Value} {Q:Value->Shared->Prop} (ft:TypeCalled T newId initId) (ct:checkTypeCall T ⟨args,[]⟩=pure ())
 (h:wpAny (model prog w) A.in1 (call (.builtin newId) (.type T :: args)) (fun obj s1=>s1.TypeIs obj T/\wpAny (model prog w) A.in1 (callSpecial? obj "__init__" args) (fun r s2=>r=some .none/\Q obj s2) E s1) E s):wpAny (model prog w) A (call (.type T) args) Q E s:=by
 obtain ⟨nt,cc,⟨c,tl,mr⟩,mb,_,su,_⟩:=ft;refine wpAny_call (codeAny_of_tree (wpAny_pure ⟨Code.quiet_builtin _ (by decide +kernel),codeAny_builtin F.entry_type_call ?_⟩))
 rw [Around.under_plain (weight_type_call_type T args []) (units_type_call_type T args [])];unfold Builtin.«type.__call__»
 wp_walk using wpAny_mono h
 . rintro obj s1 ⟨hT,hi⟩
   wp_walk using wpAny_mono hi
   . rintro r s2 ⟨rfl,q⟩
     wp_walk
     exact q
   . exact fun _ _ e=>e
 . exact fun _ _ e=>e
end
end Sw
namespace Sw
open PySem PySem.Spec PyProof.Rows
section
variable {prog:Program} {w:World} {A:Around} {E:Value->Shared->Prop} {s:Shared} {a:Addr} {o:Obj} {es:Array (Int×Value)} {ep:Nat} {ks:List Nat}
end
end Sw
namespace Sw
open PySem PySem.Spec PyProof.Rows PySem.W
section
variable {prog:Program} {w:World} {A:Around} {E:Value->Shared->Prop} {s:Shared} {a:Addr} {o:Obj} {es:Array (Int×Value)} {ep:Nat} {ks:List Nat}
end
end Sw
namespace Sw
open PySem
theorem wI {α:Type}:∀ {l m:List α},l.Nodup->(∀ x∈l,x∈m)->l.length<=m.length
 | [],_,_,_=>Nat.zero_le _
 | x :: l,m,n,h=>by
  have n':=List.nodup_cons.mp n;obtain ⟨a,b,rfl⟩:=List.append_of_mem (h x Zk);have:=wI (m:=a++b) n'.2 fun y hy=>by
   have hm:=h y (Zl _ hy);rcases Zp.mp hm with z | z
   . exact Zy _ z
   . rcases Zq.mp z with z | z
     . rw [z] at hy;exact absurd hy n'.1
     . exact Zx _ z
  rw [Zh] at this;rw [Zj,Zh,Zj];omega
theorem yn {t:SetTable} {j i:Nat} (h:t.slot j=.live i):t.place[i]? = some j:=by
 unfold SetTable.slot at h;dsimp only at h;split at h
 . rename_i c;cases h;exact eq_of_beq c
 . split at h <;> cases h
theorem zx {t:SetTable} (hd:t.dummies = #[]) (j:Nat):t.slot j=.empty \/ ∃ i,t.slot j=.live i:=by
 unfold SetTable.slot;dsimp only;split
 . exact .inr ⟨_,rfl⟩
 . rw [hd];exact .inl rfl
theorem ym {t:SetTable} (hd:t.dummies = #[]) (hp:t.place.size<=7):∃ j,j < 8/\t.slot j=.empty:=by
 apply Classical.byContradiction
 intro n;have all:∀ j∈List.range 8,j∈t.place.toList:=fun j m=>by
  rcases zx hd j with e | ⟨i,e⟩
  . exact absurd ⟨j,Zo.mp m,e⟩ n
  . have:=yn e;rw [<- Array.getElem?_toList] at this;exact List.mem_of_getElem? this
 have:=wI List.nodup_range all;rw [ZF,Array.length_toList] at this;omega
def adv (t:SetTable):Nat->SetTable.Probe->SetTable.Probe
 | 0,p=>p
 | n+1,p=>adv t n (t.advance p)
structure P7 (p:SetTable.Probe):Prop where
 more:p.more=0
 ji:p.j=p.i
 lt:p.i < 8
 dm:p.dummy=none
 pt:p.perturb < 2 ^ 64
theorem G2 {t:SetTable} (hm:t.mask=7) {p:SetTable.Probe} (h:P7 p):P7 (t.advance p)/\(t.advance p).i=(p.i*5+1+p.perturb / 32) % 8/\(t.advance p).perturb=p.perturb / 32:=by
 obtain ⟨h1,h2,h3,h4,h5⟩:=h;unfold SetTable.advance SetTable.leap SetTable.runEnd;rw [if_neg (by omega),hm]
 dsimp only;have l:(p.i*5+1+p.perturb / 32) % (7+1) < 8:=Nat.mod_lt _ (by decide)
 refine ⟨⟨?_,rfl,l,h4,by show p.perturb / 32 < 2 ^ 64;omega⟩,rfl,rfl⟩
 show (if _ then _ else _) - _=0
 rw [if_neg (by omega)]
 omega
theorem yb (t:SetTable):∀ (n m:Nat) (p:SetTable.Probe),adv t (n+m) p=adv t m (adv t n p)
 | 0,m,p=>by rw [Nat.zero_add];rfl
 | n+1,m,p=>by
  rw [show n+1+m=(n+m)+1 by omega]
  exact yb t n m (t.advance p)
theorem ww {t:SetTable} (hm:t.mask=7):∀ (n:Nat) {p:SetTable.Probe},P7 p->P7 (adv t n p)/\(adv t n p).perturb=p.perturb / 32 ^ n
 | 0,p,h=>⟨h,by simp [adv]⟩
 | n+1,p,h=>by
  obtain ⟨a,_,c⟩:=G2 hm h;obtain ⟨d,e⟩:=ww hm n a;refine ⟨d,?_⟩;show (adv t n (t.advance p)).perturb=_;rw [e,c,Nat.div_div_eq_div_mul,Nat.pow_succ,Nat.mul_comm]
def lcg:Nat->Nat->Nat
 | 0,i=>i
 | n+1,i=>lcg n ((i*5+1) % 8)
theorem CW:∀ i∈List.range 8,∀ j∈List.range 8,∃ n∈List.range 8,lcg n i=j:=by decide +kernel
theorem ya {t:SetTable} (hm:t.mask=7):∀ (n:Nat) {p:SetTable.Probe},P7 p->p.perturb=0->(adv t n p).i=lcg n p.i
 | 0,_,_,_=>rfl
 | n+1,p,h,z=>by
  obtain ⟨a,b,c⟩:=G2 hm h;show (adv t n (t.advance p)).i=lcg n ((p.i*5+1) % 8);rw [ya hm n a (by rw [c,z])]
  rw [b,z]
theorem Hv {t:SetTable} (hm:t.mask=7) (hd:t.dummies = #[]) (hp:t.place.size<=7) {p:SetTable.Probe} (h:P7 p):∃ n,n<=20/\t.slot (adv t n p).j=.empty:=by
 obtain ⟨j,hj,ej⟩:=ym hd hp;obtain ⟨a,b⟩:=ww hm 13 h;have z:(adv t 13 p).perturb=0:=by
  rw [b];have:=h.pt;exact Nat.div_eq_of_lt (Zw this (by decide))
 obtain ⟨n,hn,en⟩:=CW _ (Zo.mpr a.lt) j (Zo.mpr hj);have hn:=Zo.mp hn;refine ⟨13+n,by omega,?_⟩
 rw [yb,(ww hm n a).1.ji,ya hm n a z,en];exact ej
def lv (o:Array (Option Nat)):List (Nat×Nat):=(List.range 32).filterMap fun j=>(o.getD j none).map (j,·)
end Sw
namespace Sw
open PySem PySem.Spec PyProof.Rows
section
variable {prog:Program} {w:World} {A:Around} {E:Value->Shared->Prop} {s:Shared}
end
end Sw
namespace Sw
open PySem PySem.Spec PyProof.Rows
section
variable {prog:Program} {w:World} {A:Around} {E:Value->Shared->Prop} {s:Shared}
end
end Sw
namespace Sw
open PySem PySem.Spec PyProof.Rows
section
variable {prog:Program} {w:World} {A:Around} {E:Value->Shared->Prop} {s:Shared}
theorem none_size {h:Heap} {n:Nat} (l:h.objs.size<=n):h.get? n=none:=by
 cases z:h.get? n with
 | none=>rfl
 | some o=>exact absurd (Heap.lt_size z) (Nat.not_lt.mpr l)
end
end Sw
namespace Dl
open PySem PySem.Spec PyProof.Rows L2
structure EvW (F H:Hp) (As:Nat->List Addr) (F' H':Hp) (As':Nat->List Addr) (A:List Addr):Prop where
 fs:Same F F'
 ks:∀ a u,H a=some u->(∀ i,a ∉ As i)->H' a=some u
 nf:∀ a (u:MO),H a=some u.1->F a=none->(∀ i,a ∉ As i)->F' a=none
 fa:∀ i a,a∈As' i->(∃ j,a∈As j) \/ H a=none
 fA:∀ a,a∈A->(∃ j,a∈As j) \/ H a=none
 nd:A.Nodup
 dj:∀ i a,a∈As' i->a ∉ A
def upW (K:Zu) (f:FM):TE:=fun σ H Q=>∃ F δ As d δ',RepA K F H σ δ As/\f δ=some (d,δ')/\∀ v F' H' A As',EvW F H As F' H' As' A->RepA K F' H' σ δ' As'->RepO K F' H' v d A->Q v H'
def PW (X:Cx) (e:Expr) (f:FM):Prop:=PE X e (upW X.K f)
section
variable {X:Cx} {e a b:Expr} {es:List Expr} {f:FD} {fm fa fb:FM} {g:FMA} {ga:FA} {pos p:Pos}
end
section
variable {X:Cx} {e:Expr} {es:List Expr} {f:FD} {g:FA} {pos:Pos} {i:Nat}
end
end Dl
namespace Dl
open PySem PySem.Spec PyProof.Rows L2
section
variable {X:Cx} {Z:L2.St->Prop} {st:Stmt} {rest:List Stmt} {s u:SD} {e ei:Expr} {fk fl:FD} {fm:FM} {c:FT} {pos p1 p2:Pos}
end
section
variable {P:Program} {w:World} {K:Zu} {mg:Str->Option Value} {base:Heap}
end
end Dl
namespace Dl
open PySem PySem.Spec PyProof.Rows L2
section
variable {X:Cx} {pins:List (Addr×Obj)} {σ:L2.St} {H₂:Hp} {s₂:Shared} {scope:Scope} {cl:List (Str×Addr)} {x:Str} {N:List Str} {C:Addr} {fp:List Addr} {ip:Nat}
end
end Dl
namespace Dl
open PySem PySem.Spec PyProof.Rows L2
section
variable {X:Cx} {scope:Scope} {cl:List (Str×Addr)} {x:Str} {N:List Str}
end
end Dl
namespace Dl
open PySem
section
variable {prog:Program} {w:World} {A:Around} {E:Value->Shared->Prop} {s:Shared} {its:List Addr} {fp:Nat->List Addr} {S S':Nat->Heap->Prop} {P:Nat->Value->Prop} {En:Prop} {z TI TO:Addr}
def pk {α:Type} (a b:α) (j:Nat):α:=if j=0 then a else b
end
end Dl
namespace Dl
open PySem PySem.Spec PyProof.Rows L2
end Dl
namespace Dl
open PySem PySem.Spec PyProof.Rows L2
end Dl
namespace Dl
open PySem PySem.Spec PyProof.Rows L2
end Dl
namespace Dl
open PySem
section
variable {prog:Program} {w:World} {A:Around} {E:Value->Shared->Prop} {s:Shared}
end
end Dl
namespace Dl
open PySem PySem.Spec PyProof.Rows L2
section
variable {X:Cx} {a b:Expr} {fa fb:FD} {pos:Pos}
open Classical in
open Classical in
end
end Dl
namespace Dl
open PySem PySem.Spec PyProof.Rows L2
end Dl
namespace Dl
open PySem PySem.Spec PyProof.Rows L2
section
variable {X:Cx} {pins:List (Addr×Obj)} {σ:L2.St} {H:Hp} {s:Shared}
end
end Dl
namespace Dl
open PySem PySem.Spec PyProof.Rows L2
section
variable {X:Cx} {Z:L2.St->Prop} {e:Expr} {fm:FM} {pos:Pos}
end
end Dl
namespace Dl
open PySem PySem.Spec PyProof.Rows L2
end Dl
namespace Dl
open PySem PySem.Spec PyProof.Rows L2
def intsD:List D->Option (List Int)
 | []=>some []
 | d :: ds=>match d with
  | .int i=>(intsD ds).bind fun ns=>some (i :: ns)
  | _=>none
def A8 (a b:D):Option D:=match b with
 | .int k=>(asL a).bind fun ds=>(intsD ds).bind fun ns=>(ns.findIdx? fun i=>i == k).bind fun j=>some (.int (j:Int))
 | _=>none
end Dl
namespace Dl
open PySem PySem.Spec PyProof.Rows L2
section
variable {X:Cx} {a b:Expr} {fa fb:FD} {pos:Pos}
end
def isK (k:Int):Value->Bool
 | .int a _=>a == k
 | _=>false
def Ej (K:Zu):V->List V->Hp->VK->Prop:=fun x xs H Q=>∃ (l:Addr) (ns:List Int) (k:Int) (j:Nat),x=.ref l/\xs=[.int k]/\SqL K H l (ns.map V.int)/\(ns.findIdx? fun i=>i == k)=some j/\Q (.int (j:Int)) H
theorem AG {X:Cx}:MtR X "list.index" (Ej X.K):=by
 intro pins s σ H x vs v us Q I rx rv h;obtain ⟨l,ns,k,j,rfl,rfl,hq,hj,q⟩:=h;cases rx;obtain ⟨u,rfl,ru⟩:=rv.one;obtain ⟨t,rfl⟩:=ru;obtain ⟨its,r,p,hz⟩:=I.list hq;obtain ⟨⟨c,dd,dt,sl⟩,ho,hc,n,hd⟩:=p.isList;cases hc;cases hd;have at_:∀ (m:Nat) (y:Int),ns[m]? = some y->∃ t,its[m]? = some (.int y t):=fun m y e=>by
  obtain ⟨u,hu,t,rfl⟩:=r.get (show (ns.map V.int)[m]? = some (V.int y) by rw [ZD,e];rfl)
  exact ⟨t,hu⟩
 have len:its.length=ns.length:=by rw [<- r.length,Zi]
 obtain ⟨jl,jk,jn⟩:=List.findIdx?_eq_some_iff_getElem.mp hj;have val:∀ (m:Nat) (hm:m < its.toArray.size),∃ t,its.toArray[m]=.int (ns[m]'(by rw [Zz] at hm;omega)) t:=fun m hm=>by
  have hm':m < its.length:=by simpa using hm
  obtain ⟨t,ht⟩:=at_ m _ (Zt (by omega))
  rw [Zt hm'] at ht;exact ⟨t,by simpa using ht⟩
 have hjz:j < its.toArray.size:=by rw [Zz];omega
 refine call_meets F.slot_list_index ⟨_,ho,rfl⟩ F.entry_list_index (F.args_list_index_2 _ _) (PySem.SeqAt.list_indexAt l its.toArray n dd sl (.int k t) (isK k) j hjz ?_ ?_ ?_) ⟨ho,fun y m=>?_,?_⟩
 . have:its.length<=2 ^ 24:=by have:(ns.map V.int).length<=2 ^ 24:=hz;rw [Zi] at this;omega
   omega
 . obtain ⟨t',e⟩:=val j hjz;rw [e];exact jk
 . intro m hm hmj;obtain ⟨t',e⟩:=val m hm;rw [e];have:=jn m hmj;simpa [isK] using this
 . obtain ⟨i,hi,e⟩:=Array.getElem_of_mem m;obtain ⟨t',e'⟩:=val i hi;rw [<- e,e'];exact PySem.SeqAt.EqAt.int_int _ _ _ _
 . exact ⟨.int (j:Int),H,I.kept (t':=s.toks+1) fun b o e=>e,⟨_,rfl⟩,q⟩
theorem qH {K:Zu} {H:Hp}:∀ {vs:List V} {ds:List D} {ns:List Int},Reps K H vs ds->intsD ds=some ns->vs=ns.map V.int
 | _,[],ns,r,e=>by
  cases r;cases e;rfl
 | _,d :: ds,ns,r,e=>by
  cases r with
  | cons a t =>
   unfold intsD at e;split at e
   . rename_i i;obtain ⟨ms,em,e⟩:=Za.mp e;cases e;rw [qH t em];cases a;rfl
   . cases e
theorem Aq {X:Cx} {o e:Expr} {fo fe:FD} {apos cpos:Pos} (ho:PD X o fo) (ha:PD X e fe) (hbase:attributeBase o "index" X.env (eval o X.env)=eval o X.env:=by rfl)
 (hfew:((backTo cpos (starEach [e] X.env)).all (fun x=>!x.1) && (backToKw cpos (keywordEach [] X.env)).all (fun x=>x.1.isSome)
  && decide (([e]:List Expr).length+([]:List Keyword).length+(if ([]:List Keyword).isEmpty then 0 else 1) < 30))=true:=by rfl)
 (hline:(apos.endLine == cpos.line)=true:=by rfl) (hs:starEach [e] X.env=(false,eval e X.env) :: starEach [] X.env:=by rfl) (hpl:(backTo cpos (starEach [] X.env)).any (·.1)=false:=by rfl) :
 PD X (.Call (.Attribute o "index" apos) [e] [] cpos) (f2 A8 fo fe):=imp (xl PySem.F.plainAttrs_list PySem.F.slot_list_index PySem.F.type_list_index AG ho (d6 ha jo hs) hbase hfew hline hs hpl) fun σ H Q ⟨δ,d,R,q,k⟩=>by
 unfold f2 at q;obtain ⟨x,ex,q⟩:=Za.mp q;obtain ⟨y,ey,q⟩:=Za.mp q;cases y with
 | int m =>
  obtain ⟨ds,ed,q⟩:=Za.mp (show ((asL x).bind fun ds=>(intsD ds).bind fun ns=>(ns.findIdx? fun i=>i == m).bind fun j=>some (D.int (j:Int)))=some d from q)
  obtain ⟨ns,en,q⟩:=Za.mp q;obtain ⟨j,ej,q⟩:=Za.mp q;cases q;refine ⟨δ,x,R,ex,fun v H1 s1 r1=>?_⟩
  obtain ⟨a,vs,rfl,hq,rp⟩:=x8 r1 ed;have ev:=qH rp en;subst ev;refine ⟨.inl ⟨rfl,_,hq⟩,δ,.int m,R.mono s1,ey,fun w H2 s2 r2=>?_⟩
  cases r2;exact ⟨a,ns,m,j,rfl,rfl,s2.seq hq,ej,k _ H2 (s1.trans s2) (.int _)⟩
 | _=>cases q
end Dl
namespace Dl
open PySem PySem.Spec PyProof.Rows L2
end Dl
namespace Dl
open PySem PySem.Spec PyProof.Rows L2
theorem sk {X:Cx} {pins:List (Addr×Obj)} {σ:L2.St} {H:Hp} {s:Shared} {h':Heap} {t':Nat} {a:Addr} {u:HO} (I:L2.Inv X pins σ H s) (k:∀ b o,s.heap.get? b=some o->h'.get? b=some o) (na:s.heap.get? a=none) (hn:H a=none) (new:ObjOk X.prog X.w (upd H a u) h' a u):L2.Inv X pins σ (upd H a u) { s with heap:=h',toks:=t' }:=by
 have un:Un X.fs [] H (upd H a u) s.heap h':=⟨fun b u e _ _ _=>k b u e,fun b u e _ _ _=>⟨u.slots,k b u e⟩,fun b u e n _=>by rw [aB (fun z=>by subst z;rw [na] at e;cases e)];exact n,fun b u e _=>⟨u,k b u e⟩,fun b xs e=>by rw [aB (bw e hn)];exact e,fun b u xs e=>by rw [aB (bw e hn)];exact e,fun b ps e=>⟨#[],by rw [aB (bw e hn),e];simp⟩⟩
 refine I.un (t':=t') un fun b v e=>?_
 by_cases hb:b=a
 . rw [hb] at e ⊢;rw [aP] at e;cases e;exact new
 . rw [aB hb] at e;exact (I.hok b v e).stay (fun c v _ q=>k c v q) (fun c q=>by rw [aB (bw q hn)];exact q) fun c xs q=>by rw [aB (bw q hn)];exact q
theorem sV:bootBuiltins "sorted" = some (.builtin "sorted"):=by decide +kernel
end Dl
namespace Dl
open PySem PySem.Spec PyProof.Rows L2
theorem lT {prog:Program} {w:World}:∀ {m:List Int} {its:List Value},Vals (m.map V.int) its->ItemsAre (intKind prog w) m its
 | [],_,h=>by cases h;exact .nil
 | k :: m,_,h=>by
  cases h with
  | cons a t =>
   obtain ⟨u,rfl⟩:=a;exact .cons (intKind_is _ _ _ _) (lT t)
def AW:D->Option Int
 | .int k=>some k
 | _=>none
theorem qJ {d:D} {k:Int} (h:AW d=some k):d=.int k:=by
 cases d with
 | int i=>cases h;rfl
 | _=>cases h
theorem Reps.appK {K:Zu} {H:Hp}:∀ {vs ws:List V} {ds es:List D},Reps K H vs ds->Reps K H ws es->Reps K H (vs++ws) (ds++es)
 | _,_,_,_,.nil,r=>r
 | _,_,_,_,.cons a t,r=>.cons a (Reps.appK t r)
end Dl
namespace Dl
open PySem PySem.Spec PyProof.Rows L2
def iG:List Int->Int
 | []=>0
 | n :: ns=>n+iG ns
theorem tt:∀ (ns ms:List Int),iG (ns++ms)=iG ns+iG ms
 | [],ms=>by show iG ms=0+iG ms;omega
 | n :: ns,ms=>by show n+iG (ns++ms)=n+iG ns+iG ms;rw [tt ns ms];omega
theorem tN (ns:List Int):∀ k,k<=ns.length->preSum (fun i=>ns.getD i 0) k=iG (ns.take k)
 | 0,_=>rfl
 | k+1,h=>by
  show preSum (fun i=>ns.getD i 0) k+ns.getD k 0=_
  rw [tN ns k (by omega),List.take_succ_eq_append_getElem (by omega),tt,Zs,Zt (by omega)]
  show iG (ns.take k)+_=iG (ns.take k)+(_+0);rw [Int.add_zero];rfl
def Fe (as:List D):Option D:=(zl as).bind fun ds=>(gK ds).bind fun ns=>some (.int (iG ns))
theorem BC {X:Cx} (hc:X.calm=true):fZ X (.builtin "sum") (fun xs H Q=>∃ p ys,∃ ns:List Int,xs=[.ref p]/\SqL X.K H p ys/\ys=ns.map V.int/\Q (.int (iG ns)) H):=by
 intro pins s σ H xs us Q I r h;obtain ⟨p,ys,ns,rfl,hq,rfl,q⟩:=h;obtain ⟨u,rfl,rx⟩:=je r;cases rx;obtain ⟨its,r',pl,hz⟩:=I.list hq;obtain ⟨hl,hb⟩:=nS r';have hlt:p < s.heap.objs.size:=by obtain ⟨_,e,_⟩:=pl.isList;exact Heap.lt_size e
 refine call_sum_walkG (wpAny_pyIter_list pl.isList ⟨s.heap.objs.size,[s.heap.objs.size,p],[s.heap.objs.size],its.toArray.size,_,_,fun i=>ns.getD i 0,rfl,Walks.list (A:=X.A.in1) (I.ok.hd hc) _ p (ZB hlt) its.toArray,
  ⟨⟨_,Heap.get?_push_size _ rfl,rfl,rfl⟩,pl.isList.push _⟩,fun b mb=>?_,fun i v hP=>hb i v (by rw [<- List.getElem?_toArray];exact hP),fun h' tk t' hk=>?_⟩)
 . show b < (s.heap.push _).objs.size;rw [Heap.size_push];rcases Zq.mp mb with z | z
   . rw [z];exact Nat.lt_succ_self _
   . rw [Zm.mp z];exact Nat.lt_succ_of_lt hlt
 . rw [Zz,hl,tN ns ns.length (ZG _),List.take_length];exact ⟨.int _,H,I.kept (t':=tk) (LSm.kept_iter hk),⟨t',rfl⟩,q⟩
theorem Fv {K:Zu}:jB K (fun xs H Q=>∃ p ys,∃ ns:List Int,xs=[.ref p]/\SqL K H p ys/\ys=ns.map V.int/\Q (.int (iG ns)) H) Fe:=by
 intro xs H Q as d r e k;unfold Fe at e;obtain ⟨ds,e1,e⟩:=Za.mp e;obtain ⟨ns,e2,e⟩:=Za.mp e;cases e;obtain ⟨p,ys,h1,h2,h3⟩:=lC r e1;exact ⟨p,ys,ns,h1,h2,ju h3 e2,k _ H (Same.refl H) (.int _)⟩
theorem zf:bootBuiltins "sum" = some (.builtin "sum"):=by decide +kernel
def rgI (n:Nat):List Int:=(List.range n).map fun (k:Nat)=>(k:Int)
theorem Eg (n:Nat):(rgI n).Pairwise (· <= ·):=by
 unfold rgI;refine List.Pairwise.map _ (R:=fun (a b:Nat)=>a < b) (fun a b h=>by omega) List.pairwise_lt_range
def sw (as:List D):Option D:=(zl as).bind fun ds=>(gK ds).bind fun ns=>if ns.length < 64/\ns.isPerm (rgI ns.length)=true then some (.lst ((rgI ns.length).map D.int)) else none
theorem l7:∀ {us:List Value} {ks:List Int},IntsAre us ks->Vals (ks.map V.int) us
 | _,[],h=>by cases h;exact .nil
 | _,k :: ks,h=>by
  cases h with
  | cons _ t h=>exact .cons ⟨t,rfl⟩ (l7 h)
theorem mI:∀ {us:List Value} {ks:List Int},Vals (ks.map V.int) us->IntsAre us ks
 | _,[],h=>by cases h;exact .nil
 | _,k :: ks,h=>by
  cases h with
  | cons a t =>
   obtain ⟨z,rfl⟩:=a;exact .cons _ z (mI t)
theorem wg {X:Cx}:fZ X (.builtin "sorted") (fun xs H Q=>∃ p ys,∃ ns:List Int,xs=[.ref p]/\SqL X.K H p ys/\ys=ns.map V.int/\ns.length < 64/\ns.Perm (rgI ns.length)/\∀ l,H l=none->Q (.ref l) (upd H l (.lst ((rgI ns.length).map V.int)))):=by
 intro pins s σ H xs us Q I r h;obtain ⟨p,ys,ns,rfl,hq,rfl,h64,pm,q⟩:=h;obtain ⟨u,rfl,rx⟩:=je r;cases rx;obtain ⟨its,r',pl,hz⟩:=I.list hq;have hi:=mI r';have hlen:its.length=ns.length:=by have:=r'.length;rw [Zi] at this;omega
 refine sorted_ints pl.isList hi (by omega) fun out ns' a1 a2 a3=>?_
 have e:ns'=rgI ns.length:=List.Perm.eq_of_pairwise (le:=(· <= ·)) (fun a b _ _ h k=>by omega) a3 (Eg _) (a2.trans pm)
 subst e;obtain ⟨ep,he⟩:=sortedAll_at s.heap its out;have na:s.heap.get? (s.heap.objs.size+1)=none:=Sw.none_size (Nat.le_succ _);have hn:H (s.heap.objs.size+1)=none:=I.hok.fresh (Nat.le_succ _);have l1:(rgI ns.length).length=ns.length:=by unfold rgI;rw [Zi,ZF]
 exact ⟨.ref (s.heap.objs.size+1),_,sk (t':=s.toks) I (fun b o z=>sortedAll_old z) na hn (u:=.lst ((rgI ns.length).map V.int)) ⟨by rw [Zi,l1];exact Nat.le_trans (Nat.le_of_lt h64) (by decide),out.toList,ep,l7 a1,by simpa using he⟩,rfl,q _ hn⟩
theorem jK {K:Zu} {H:Hp}:∀ (ns:List Int),Reps K H (ns.map V.int) (ns.map D.int)
 | []=>.nil
 | n :: ns=>.cons (.int n) (jK ns)
theorem BB {K:Zu}:jB K (fun xs H Q=>∃ p ys,∃ ns:List Int,xs=[.ref p]/\SqL K H p ys/\ys=ns.map V.int/\ns.length < 64/\ns.Perm (rgI ns.length)/\∀ l,H l=none->Q (.ref l) (upd H l (.lst ((rgI ns.length).map V.int)))) sw:=by
 intro xs H Q as d r e k;unfold sw at e;obtain ⟨ds,e1,e⟩:=Za.mp e;obtain ⟨ns,e2,e⟩:=Za.mp e;split at e
 . rename_i hh;cases e;obtain ⟨p,ys,h1,h2,h3⟩:=lC r e1;exact ⟨p,ys,ns,h1,h2,ju h3 e2,hh.1,List.isPerm_iff.mp hh.2,fun l hl=>k _ _ (bQ hl _) (.lst aP (jK _))⟩
 . cases e
def Ef (l:Addr) (n:Nat):HO:=.ext fun h=>∃ t u v,IsRange h l 0 (n:Int) 1 t u v
theorem BD {X:Cx}:fZ X (.type "range") (fun xs H Q=>∃ n:Nat,xs=[.int (n:Int)]/\∀ l,H l=none->Q (.ref l) (upd H l (Ef l n))):=by
 intro pins s σ H xs us Q I r h;obtain ⟨n,rfl,q⟩:=h;obtain ⟨u,rfl,rx⟩:=je r;obtain ⟨t,rfl⟩:=rx;have hn:H s.heap.objs.size=none:=I.hok.fresh (ZG _);have na:s.heap.get? s.heap.objs.size=none:=Sw.none_size (ZG _);refine call_range_1 ⟨.ref s.heap.objs.size,_,sk (t':=s.toks+1+1) I (fun b o e=>Heap.get?_push_of_some _ e) na hn (u:=Ef s.heap.objs.size n) ⟨⟨_,_,_,Heap.get?_push_size _ rfl⟩,⟨_,Heap.get?_push_size _ rfl⟩,fun h1 h2 x k=>?_⟩,rfl,q _ hn⟩
 obtain ⟨t,u,v,e⟩:=x;exact ⟨t,u,v,k _ e⟩
theorem vR {lo:Int}:∀ (n:Nat) (us:List Value),us.length=n->(∀ i v,us[i]? = some v->∃ t,v=Value.int (lo+(i:Nat)) t)->Vals (((List.range n).map fun (k:Nat)=>lo+(k:Int)).map V.int) us
 | n,us,hl,h=>by
  rw [List.map_map]
  induction n generalizing us lo with
  | zero =>
   cases us with
   | nil=>exact .nil
   | cons _ _=>cases hl
  | succ n ih =>
   cases us with
   | nil=>cases hl
   | cons u us =>
    rw [List.range_succ_eq_map,Zr,List.map_map];refine .cons (by obtain ⟨t,e⟩:=h 0 u rfl;exact ⟨t,by rw [e]⟩) ?_
    have:=ih (lo:=lo+1) us (by simpa using hl) fun i v e=>by
     obtain ⟨t,e⟩:=h (i+1) v e;exact ⟨t,by rw [e];congr 1;omega⟩
    have e:((V.int ∘ fun (k:Nat)=>lo+(k:Int)) ∘ Nat.succ)=(V.int ∘ fun (k:Nat)=>lo+1+(k:Int)):=by
     funext k
     show V.int (lo+((k+1:Nat):Int))=V.int (lo+1+(k:Int))
     congr 1
     omega
    rw [e];exact this
theorem wj {X:Cx} (hc:X.calm=true):fZ X (.type "list") (fun xs H Q=>∃ p n,xs=[.ref p]/\H p=some (Ef p n)/\n<=1000/\∀ l,H l=none->Q (.ref l) (upd H l (.lst ((rgI n).map V.int)))):=by
 intro pins s σ H xs us Q I r h;obtain ⟨p,n,rfl,hq,n1,q⟩:=h;obtain ⟨u,rfl,rx⟩:=je r;cases rx;obtain ⟨⟨t,u,v,hr⟩,_,_⟩:=I.hok p _ hq;have hn:H s.heap.objs.size=none:=I.hok.fresh (ZG _);have na:s.heap.get? s.heap.objs.size=none:=Sw.none_size (ZG _);have sz:Builtin.Range.rangeSize 0 (n:Int) 1=((n:Nat):Int):=by
  unfold Builtin.Range.rangeSize;simp;omega
 refine call_list_range (n:=n) (I.ok.hd hc) hr ?_ sz (by omega) fun h' tk acc c' kp e hacc=>?_
 . exact small_one (by decide) (by decide) (by omega) (by omega)
 have l1:(rgI n).length=n:=by unfold rgI;rw [Zi,ZF]
 refine ⟨.ref s.heap.objs.size,_,sk (t':=tk) I kp na hn (u:=.lst ((rgI n).map V.int)) ⟨by rw [Zi,l1];exact Nat.le_trans n1 (by decide),acc.toList,c',?_,by simpa using e⟩,rfl,q _ hn⟩
 have:=vR (lo:=0) n acc.toList (by rw [Array.length_toList];exact hacc.1) fun i v e=>by
  rw [Array.getElem?_toList] at e;obtain ⟨t,e⟩:=hacc.2 i v e;exact ⟨t,by rw [e];congr 1;omega⟩
 unfold rgI;have z:((List.range n).map fun (k:Nat)=>(0:Int)+(k:Int))=(List.range n).map fun (k:Nat)=>(k:Int):=by
  apply List.map_congr_left
  intro k _;omega
 rw [z] at this;exact this
def vv (d:D):Option D:=(AW d).bind fun k=>if 0<=k/\k<=1000 then some (.lst ((rgI k.toNat).map D.int)) else none
def vX (f:FD):FD:=fun δ=>(f δ).bind vv
def vc (f:FD):FM:=fun δ=>(f δ).bind fun d=>(vv d).bind fun x=>some (x,δ)
theorem C5 (ns:List Int):bG (ns.map D.int)=true:=imms_mem.mpr fun d m=>by
 obtain ⟨n,_,rfl⟩:=Zn.mp m;rfl
section
variable {X:Cx} {e:Expr} {f:FD} {p p' pos pos':Pos}
theorem tT (hg:Gl X "list") (hm:X.mg "list" = none) (hg':Gl X "range") (hm':X.mg "range" = none) (h:PD X e f) (hc:X.calm=true:=by rfl)
 (he:starEach [e] X.env=(false,eval e X.env) :: starEach [] X.env:=by rfl) (hpl:(backTo pos' (starEach [] X.env)).any (·.1)=false:=by rfl)
 (he':starEach [.Call (.Name "range" p') [e] [] pos'] X.env=(false,eval (.Call (.Name "range" p') [e] [] pos') X.env) :: starEach [] X.env:=by rfl) (hpl':(backTo pos (starEach [] X.env)).any (·.1)=false:=by rfl) :
 PE X (.Call (.Name "list" p) [.Call (.Name "range" p') [e] [] pos'] [] pos) (fun σ H Q=>∃ δ d x,RepS X.K H σ δ/\f δ=some d/\vv d=some x/\∀ H1,Same H H1->∀ n:Nat,n<=1000->x=.lst ((rgI n).map D.int)->∀ l,H1 l=none->Q (.ref l) (upd H1 l (.lst ((rgI n).map V.int)))) :=
 imp (iy (wj hc) hg hm boot_list (d6 (iy BD hg' hm' boot_range (d6 h jo he) (by decide) (by decide) he hpl) jo he') (by decide) (by decide) he' hpl') fun σ H Q ⟨δ,d,x,R,q,qx,k⟩=>by
  unfold vv at qx;obtain ⟨i,ei,qy⟩:=Za.mp qx;have:=qJ ei;subst this;split at qy
  . rename_i hh;cases qy;refine ⟨δ,.int i,R,q,fun v H1 s1 r1=>?_⟩
    have ev:v=.int ((i.toNat:Nat):Int):=by cases r1;congr 1;omega
    subst ev;exact ⟨i.toNat,rfl,fun l hl=>⟨l,i.toNat,rfl,aP,by omega,fun l2 hl2=>k _ (s1.trans (bQ hl _)) i.toNat (by omega) rfl l2 hl2⟩⟩
  . cases qy
theorem Ap (hg:Gl X "list") (hm:X.mg "list" = none) (hg':Gl X "range") (hm':X.mg "range" = none) (h:PD X e f) (hc:X.calm=true:=by rfl)
 (he:starEach [e] X.env=(false,eval e X.env) :: starEach [] X.env:=by rfl) (hpl:(backTo pos' (starEach [] X.env)).any (·.1)=false:=by rfl)
 (he':starEach [.Call (.Name "range" p') [e] [] pos'] X.env=(false,eval (.Call (.Name "range" p') [e] [] pos') X.env) :: starEach [] X.env:=by rfl) (hpl':(backTo pos (starEach [] X.env)).any (·.1)=false:=by rfl) :
 PD X (.Call (.Name "list" p) [.Call (.Name "range" p') [e] [] pos'] [] pos) (vX f):=imp (tT hg hm hg' hm' h hc he hpl he' hpl') fun σ H Q ⟨δ,d,R,q,k⟩=>by
 unfold vX at q;obtain ⟨y,ey,q⟩:=Za.mp q;exact ⟨δ,y,d,R,ey,q,fun H1 s1 n _ en l hl=>by subst en;exact k _ _ (s1.trans (bQ hl _)) (.lst aP (jK _))⟩
theorem zZ (hg:Gl X "list") (hm:X.mg "list" = none) (hg':Gl X "range") (hm':X.mg "range" = none) (h:PD X e f) (hc:X.calm=true:=by rfl)
 (he:starEach [e] X.env=(false,eval e X.env) :: starEach [] X.env:=by rfl) (hpl:(backTo pos' (starEach [] X.env)).any (·.1)=false:=by rfl)
 (he':starEach [.Call (.Name "range" p') [e] [] pos'] X.env=(false,eval (.Call (.Name "range" p') [e] [] pos') X.env) :: starEach [] X.env:=by rfl) (hpl':(backTo pos (starEach [] X.env)).any (·.1)=false:=by rfl) :
 PV X (.Call (.Name "list" p) [.Call (.Name "range" p') [e] [] pos'] [] pos) (vc f):=imp (tT hg hm hg' hm' h hc he hpl he' hpl') fun σ H Q ⟨F,δ,As,d,δ',RA,q,k⟩=>by
 unfold vc at q;obtain ⟨y,ey,q⟩:=Za.mp q;obtain ⟨x,ex,q⟩:=Za.mp q;cases q;exact ⟨_,y,_,RA.toS,ey,ex,fun H1 s1 n _ en l hl=>by subst en;exact kc RA s1 (jK _) (C5 _) hl k⟩
end
def fP:List D->Option (List Bool)
 | []=>some []
 | .non :: ds=>(fP ds).bind fun bs=>some (true :: bs)
 | .tup _ :: ds=>(fP ds).bind fun bs=>some (false :: bs)
 | _=>none
def A9 (a b:D):Option D:=match a with
 | .non=>(asL b).bind fun ds=>(fP ds).bind fun bs=>some (.bl (bs.any id))
 | _=>none
section
variable {X:Cx} {a b:Expr} {fa fb:FD} {pos:Pos}
def Gn (K:Zu):R2:=fun x y H Q=>∃ q ds bs ys,x=.non/\y=.ref q/\SqL K H q ys/\Reps K H ys ds/\fP ds=some bs/\Q (.bl (bs.any id)) H
open Classical in
theorem u6 {pins:List (Addr×Obj)} {σ:L2.St} {H:Hp} {s:Shared} (I:L2.Inv X pins σ H s) (A:Around) (hu:A.units+6 < cLine):∀ {ys:List V} {us:List Value} {ds:List D} {bs:List Bool},Vals ys us->Reps X.K H ys ds->fP ds=some bs ->
 (∀ u∈us,SeqAt.EqAt A s u .none (decide (u=Value.none)))/\(us.any fun u=>decide (u=Value.none))=bs.any id
 | _,_,_,_,.nil,.nil,e=>by cases e;exact ⟨fun u m=>(nomatch m),rfl⟩
 | y :: ys,u :: us,d :: ds,bs,.cons ru t,.cons r rr,e=>by
  have go:∀ (c:Bool) (cs:List Bool),fP ds=some cs->bs=c :: cs->decide (u=Value.none)=c->eqN 6 d .non=some c->(∀ u'∈u :: us,SeqAt.EqAt A s u' .none (decide (u'=Value.none)))/\((u :: us).any fun u=>decide (u=Value.none))=bs.any id:=fun c cs ec eb eu en=>by
   obtain ⟨h1,h2⟩:=u6 I A hu t rr ec;have eqv:SeqAt.EqAt A s u .none c:=(uJ I 6 A hu ru (show RelV V.non Value.none from rfl) r .non en).2.2
   refine ⟨fun w m=>?_,?_⟩
   . rcases Zq.mp m with z | z
     . rw [z,eu];exact eqv
     . exact h1 w z
   . rw [List.any_cons,h2,eu,eb];rfl
  cases d with
  | non =>
   obtain ⟨cs,ec,e⟩:=Za.mp (show ((fP ds).bind fun bs=>some (true :: bs))=some bs from e)
   cases e;have:u=Value.none:=by cases r;exact ru
   exact go true cs ec rfl (decide_eq_true this) rfl
  | tup xs =>
   obtain ⟨cs,ec,e⟩:=Za.mp (show ((fP ds).bind fun bs=>some (false :: bs))=some bs from e)
   cases e;have:u ≠ Value.none:=by
    cases r;cases ru;exact fun z=>by cases z
   exact go false cs ec rfl (decide_eq_false this) rfl
  | _=>cases e
open Classical in
theorem ET (hu:X.A.units+64 < cLine):OpR X (compareOp .In) (Gn X.K):=by
 intro pins s σ H x y v u Q I rx ry h;obtain ⟨q,ds,bs,ys,rfl,rfl,hq,rr,e,k⟩:=h;cases ry;have ev:v=Value.none:=rx;subst ev;obtain ⟨its,r,pl,hz⟩:=I.list hq;obtain ⟨h1,h2⟩:=u6 I X.A.in1 (by show X.A.units+1+6 < cLine;omega) r rr e
 refine SeqAt.in_listAt _ pl.isList (fun w hw=>h1 w (by simpa using hw)) ⟨.bl _,H,I,rfl,?_⟩
 rw [show its.toArray.any (fun u=>decide (u=Value.none))=its.any (fun u=>decide (u=Value.none)) by simp,h2]
 exact k
theorem El {K:Zu}:R2D K (Gn K) A9:=by
 intro x y H Q a b d ra rb e k;unfold A9 at e;split at e
 . obtain ⟨ds,eds,e⟩:=Za.mp e;obtain ⟨bs,ebs,e⟩:=Za.mp e;cases e;obtain ⟨q,vs,rfl,hq,rr⟩:=x8 rb eds;have:x=.non:=by cases ra;rfl
   exact ⟨q,ds,bs,vs,this,rfl,hq,rr,ebs,k _ H (Same.refl H) (.bl _)⟩
 . cases e
theorem Cd (hu:X.A.units+64 < cLine) (ha:PD X a fa) (hb:PD X b fb) (hm:behindInMarks .In b=false:=by with_unfolding_all rfl):PTD X (.Compare a [.In] [b] pos) (fT (f2 A9 fa fb)):=gk (ET hu) El ha hb hm
end
def iM (i j:Nat) (fk:FD):SD:=fun δ=>match δ[i]?,δ[j]? with
 | some (some (.lst ds)),some (some (.lst es))=>if i ≠ j/\bG ds=true/\ds.length < 1000/\bG es=true/\es.length<=1000 then (fk δ).bind fun x=>(AW x).bind fun k=>if 0<=k then (es[k.toNat]?).bind fun d=>some (.nx ((δ.set j (some (.lst (es.eraseIdx k.toNat)))).set i (some (.lst (ds++[d]))))) else none else none
 | _,_=>none
theorem Reps.eraseK {K:Zu} {H:Hp}:∀ (k:Nat) {vs:List V} {ds:List D},Reps K H vs ds->Reps K H (vs.eraseIdx k) (ds.eraseIdx k)
 | _,_,_,.nil=>.nil
 | 0,_,_,.cons _ t=>t
 | k+1,_,_,.cons a t=>.cons a (Reps.eraseK k t)
theorem Reps.getK {K:Zu} {H:Hp}:∀ (k:Nat) {vs:List V} {ds:List D} {d:D},Reps K H vs ds->ds[k]? = some d->∃ v,vs[k]? = some v/\Rep K H v d
 | _,_,_,_,.nil,h=>by cases h
 | 0,_,_,_,.cons a _,h=>by cases h;exact ⟨_,rfl,a⟩
 | k+1,_,_,_,.cons _ t,h=>Reps.getK k t h
theorem yx {X:Cx} {pos:Pos} {fk:FD} (i j:Nat) {c:Expr} (hc:PE X c (tBM X.K "list" rJ (pN i) (nW (tBM X.K "list" zQ (pN j) (nW (up X.K fk) BW)) BW))) (hs:swapsWith c none pos.line X.env=pure false:=by rfl):PMD X (.Expr c pos) (iM i j fk):=gr (nv hc hs) fun E σ H ⟨F,δ,r,⟨As,R⟩,q,k⟩=>by
 unfold iM at q;split at q
 . rename_i ds es hi hj;split at q
   . rename_i hh;obtain ⟨nij,id,ld,ie,le⟩:=hh;obtain ⟨x,ex,q⟩:=Za.mp q;obtain ⟨m,em',q⟩:=Za.mp q;have e0:=qJ em';rw [e0] at ex;split at q
     . rename_i m0;obtain ⟨d,ed,q⟩:=Za.mp q;cases q;obtain ⟨a,vs,A0,s0,eA,g0,n0,ro⟩:=R.lst hi;obtain ⟨b,ws,B0,t0,eB,y0,z0,so⟩:=R.lst hj;refine ⟨.ref a,s0,.inl ⟨rfl,_,SqL.of g0⟩,.ref b,t0,.inl ⟨rfl,_,SqL.of y0⟩,δ,.int m,R.toS,ex,fun v1 H1 s1 r1=>?_⟩
       have e1:v1=.int m:=by cases r1;rfl
       subst e1;have R2:=R.grow s1;have y1:H1 b=some (.lst ws):=s1 b _ y0;have rp:Reps X.K H1 ws es:=(so.reps R.fz).mono s1;have lw:ws.length=es.length:=so.length;obtain ⟨v,ev,rv⟩:=Reps.getK m.toNat rp ed;have lt:=(ZE.mp ev).1;have em:((m.toNat:Nat):Int)=m:=by omega
       obtain ⟨As2,R3⟩:=R2.wrI hj t0 eB y1 z0 (Reps.eraseK m.toNat rp) (imms_mem.mpr fun x mx=>imms_mem.mp ie x (List.mem_of_mem_eraseIdx mx))
       refine ⟨b,ws,m,m.toNat,v,rfl,rfl,y1,by omega,by omega,seqIndex_of m0 (by omega),ev,?_⟩
       have hi2:(δ.set j (some (.lst (es.eraseIdx m.toNat))))[i]? = some (some (.lst ds)):=by rw [List.getElem?_set_ne (Ne.symm nij)];exact hi
       obtain ⟨a2,vs2,A2,s2,eA2,g2,n2,ro2⟩:=R3.lst hi2;have ea:a2=a:=by rw [s0] at s2;cases s2;rfl
       subst ea;have id':imm d=true:=imms_mem.mp ie d (List.mem_of_getElem? ed);have rv2:Rep X.K (upd H1 b (.lst (ws.eraseIdx m.toNat))) v d:=ir (iC y1) rv id';refine ⟨a2,vs2,v,rfl,rfl,g2,Nat.lt_of_le_of_lt (by rw [ro2.length];exact Nat.le_of_lt_succ ld) (jF (show 999<=1000 by decide)),k σ F _ (Same.refl F) (R3.wrI hi2 s2 eA2 g2 n2 (Reps.appK (ro2.reps R3.fz) (.cons rv2 .nil)) (imms_mem.mpr fun x mx=>?_))⟩
       rcases Zp.mp mx with z | z
       . exact imms_mem.mp id x z
       . rw [Zm.mp z];exact id'
     . cases q
   . cases q
 . cases q
end Dl
namespace Mine
open PySem PySem.Spec PyProof.Rows L2 Dl
noncomputable section
open Mth
abbrev fr (p:Int×Int):D:=.tup [.int p.1,.int p.2]
def sv:D->Option Bool
 | .int _=>some true
 | .ty _=>none
 | .exc _=>none
 | .cls _=>none
 | .ms _ _=>none
 | .mf _ _=>none
 | .md _ _=>none
 | _=>some false
abbrev Md (x:Int):Prop:=Sm 4000 x
theorem Md.bd {x:Int} (h:Md x):Bd x:=h.mono (l:=9000) (by decide)
theorem iE {k:Nat} {x:Int} (h:Sm k x) (e:k<=9000:=by decide):Bd x:=h.mono (l:=9000) e
theorem hI {x:Int} (h:x.natAbs < 2 ^ 64:=by decide):Bd x:=iE (k:=64) h
theorem FH {x:Int} (h:Bd x):Bd (-x):=by unfold Bd at *;rw [Int.natAbs_neg];exact h
structure Fk (p:Int×Int):Prop where
 pos:0 < p.2
 s1:Md p.1
 s2:Md p.2
theorem Fk.of {k:Nat} {p:Int×Int} (h:Fr k p) (e:k<=4000:=by decide):Fk p:=⟨h.pos,h.s1.mono e,h.s2.mono e⟩
def iW (ds:List D) (d:D):Prop:=∃ x b,sv x=some b/\ds=[x]/\d=.bl b
theorem gL {x:D} {b:Bool} (h:sv x=some b):fn iW [x]=some (.bl b):=bN (fun d' h'=>by
 obtain ⟨x',b',h1,h2,rfl⟩:=h';cases h2;rw [h] at h1;cases h1;rfl) ⟨x,b,h,rfl,rfl⟩
abbrev cR:=iW
def cK (ds:List D) (d:D):Prop:=∃ a b,0 < b/\ds=[.int a,.int b]/\d=.int (gc a b)
theorem cI {a b:Int} (h:0 < b):fn cK [.int a,.int b]=some (.int (gc a b)):=bN (fun d' h'=>by
 obtain ⟨a',b',h1,h2,rfl⟩:=h';cases h2;rfl) ⟨a,b,h,rfl,rfl⟩
def pG (ds:List D) (d:D):Prop:=∃ t b,0 < b/\Bd b/\ds=[.int t,.int b]/\d=fr (rd t b)
theorem uL {t b:Int} (h:0 < b) (g:Bd b):fn pG [.int t,.int b]=some (fr (rd t b)):=bN (fun d' h'=>by
 obtain ⟨t',b',_,_,h2,rfl⟩:=h';cases h2;rfl) ⟨t,b,h,g,rfl,rfl⟩
def S2 (op:Int×Int->Int×Int->D) (ds:List D) (d:D):Prop:=∃ p q:Int×Int,Fk p/\Fk q/\ds=[fr p,fr q]/\d=op p q
theorem e2 {op:Int×Int->Int×Int->D} {p q:Int×Int} (h:Fk p) (g:Fk q):fn (S2 op) [fr p,fr q]=some (op p q):=bN (fun d' h'=>by
 obtain ⟨⟨a,b⟩,⟨c,e⟩,_,_,h2,rfl⟩:=h';obtain ⟨a',b'⟩:=p;obtain ⟨c',e'⟩:=q;cases h2;rfl) ⟨p,q,h,g,rfl,rfl⟩
abbrev fU:=S2 fun p q=>.bl (decide (p.1*q.2 < q.1*p.2))
theorem uq:∀ {ns ms:List Int},ns.map D.int=ms.map D.int->ns=ms
 | [],[],_=>rfl
 | [],_ :: _,h=>by cases h
 | _ :: _,[],h=>by cases h
 | n :: ns,m :: ms,h=>by
  have h':D.int n :: ns.map D.int=D.int m :: ms.map D.int:=h;injection h' with h1 h2
  injection h1 with h1
  rw [h1,uq h2]
def cell (ns:List Int) (k:Int):Int:=ns.getD k.toNat 0
def ci (ds:List D) (d:D):Prop:=∃ (ns:List Int) (k:Int),0<=k/\ds=[.seq (ns.map D.int),.int k]/\d=.int (cell ns k)
theorem pg {ns:List Int} {k:Int} (h:0<=k):fn ci [.seq (ns.map D.int),.int k]=some (.int (cell ns k)):=bN (fun d' h'=>by
 obtain ⟨ns',k',_,h2,rfl⟩:=h';injection h2 with h3 h4
 injection h3 with h3
 injection h4 with h4
 injection h4 with h4
 rw [uq h3,h4]) ⟨ns,k,h,rfl,rfl⟩
structure Flw (p:Int×Int):Prop extends Fk p where
 lw:Lw p
theorem Flw.of {k:Nat} {p:Int×Int} (h:Fr k p) (e:k<=4000:=by decide):Flw p:=⟨Fk.of h e,h.lw⟩
def S2w (op:Int×Int->Int×Int->D) (ds:List D) (d:D):Prop:=∃ p q:Int×Int,Flw p/\Flw q/\ds=[fr p,fr q]/\d=op p q
theorem e2w {op:Int×Int->Int×Int->D} {p q:Int×Int} (h:Flw p) (g:Flw q):fn (S2w op) [fr p,fr q]=some (op p q):=bN (fun d' h'=>by
 obtain ⟨⟨a,b⟩,⟨c,e⟩,_,_,h2,rfl⟩:=h';obtain ⟨a',b'⟩:=p;obtain ⟨c',e'⟩:=q;cases h2;rfl) ⟨p,q,h,g,rfl,rfl⟩
def iF (ds:List D) (d:D):Prop:=∃ p q:Int×Int,Flw p/\Flw q/\ds=[fr p,.int q.1,.int q.2]/\d=fr (sm p.1 p.2 q.1 q.2)
theorem uK {p q:Int×Int} (h:Flw p) (g:Flw q):fn iF [fr p,.int q.1,.int q.2]=some (fr (sm p.1 p.2 q.1 q.2)):=bN (fun d' h'=>by
 obtain ⟨⟨a,b⟩,⟨c,e⟩,_,_,h2,rfl⟩:=h';obtain ⟨a',b'⟩:=p;obtain ⟨c',e'⟩:=q;cases h2;rfl) ⟨p,q,h,g,rfl,rfl⟩
theorem Flw.neg {p:Int×Int} (h:Flw p):Flw (-p.1,p.2):=⟨⟨h.pos,h.s1.neg,h.s2⟩,h.lw.neg⟩
theorem ke {x g:Int} (h:Md x) (hg:0 < g) (d:g ∣ x):Bd (x / g):=(Sm.div h hg d).mono (l:=9000) (by decide)
abbrev wA:=S2w fun p q=>fr (pl p q)
abbrev jQ:=S2w fun p q=>fr (mi p q)
abbrev yd:=S2w fun p q=>fr (ti p q)
def bdD:Bn->D
 | none=>.non
 | some (n,s)=>.tup [.int n,.bl s]
theorem pC:bdD none=.non:=rfl
theorem aU (n:Int) (s:Bool):bdD (some (n,s))=.tup [.int n,.bl s]:=rfl
theorem hR {a b:Bn} (h:bdD a=bdD b):a=b:=by
 rcases a with _ | ⟨n,s⟩ <;> rcases b with _ | ⟨m,t⟩
 . rfl
 . cases h
 . cases h
 . cases h;rfl
def Bk (k:Nat):Bn->Prop
 | none=>True
 | some (n,_)=>Sm k n
theorem Bk.mono {k l:Nat} {b:Bn} (h:Bk k b) (e:k<=l):Bk l b:=by
 rcases b with _ | ⟨n,s⟩
 . trivial
 . exact Sm.mono (show Sm k n from h) e
theorem Bk.sum {k:Nat} {a b:Bn} (h:Bk k a) (g:Bk k b):Bk (k+1) (bs a b):=by
 rcases a with _ | ⟨n,s⟩
 . trivial
 rcases b with _ | ⟨m,t⟩
 . trivial
 . exact Sm.add (show Sm k n from h) (show Sm k m from g)
theorem CQ (n:Int):low n 1=(n,1):=by
 rw [xu (by decide)]
 exact zN ⟨by decide,by unfold gc;simp⟩
def aN (ds:List D) (d:D):Prop:=∃ t b,b ≠ 0/\Bd b/\ds=[.int t,.int b]/\d=fr (low t b)
theorem km {t b:Int} (h:b ≠ 0) (g:Bd b):fn aN [.int t,.int b]=some (fr (low t b)):=bN (fun d' h'=>by
 obtain ⟨t',b',_,_,h2,rfl⟩:=h';cases h2;rfl) ⟨t,b,h,g,rfl,rfl⟩
theorem aZ {n:Int}:dfl (fn aN) [1] [.int n]=some (.tup [.int n,.int 1]):=by
 have h:=km (t:=n) (b:=1) (by decide) hI
 rw [CQ] at h;exact h
def iV (ds:List D) (d:D):Prop:=∃ (p:Int×Int) (b:Bn),Fk p/\Bk 4000 b/\ds=[fr p,bdD b]/\d=.bl (kp p b)
theorem sI {p:Int×Int} {b:Bn} (h:Fk p) (g:Bk 4000 b):fn iV [fr p,bdD b]=some (.bl (kp p b)):=bN (fun d' h'=>by
 obtain ⟨⟨a,b'⟩,c,_,_,h2,rfl⟩:=h';obtain ⟨x,y⟩:=p;injection h2 with h3 h4
 injection h4 with h4 _
 cases h3;rw [hR h4]) ⟨p,b,h,g,rfl,rfl⟩
def fu (ds:List D) (d:D):Prop:=∃ a b:Bn,ds=[bdD a,bdD b]/\d=.bl (tgt a b)
theorem qR {a b:Bn}:fn fu [bdD a,bdD b]=some (.bl (tgt a b)):=bN (fun d' h'=>by
 obtain ⟨a',b',h2,rfl⟩:=h';injection h2 with h3 h4
 injection h4 with h4 _
 rw [hR h3,hR h4]) ⟨a,b,rfl,rfl⟩
theorem zA (b:Bn):sh (bdD b)=bdD b:=by rcases b with _ | ⟨n,s⟩ <;> rfl
theorem iR (b:Bn):imm (bdD b)=true:=by rcases b with _ | ⟨n,s⟩ <;> rfl
theorem oE (b:Bn):own (bdD b)=true:=by rcases b with _ | ⟨n,s⟩ <;> rfl
def az (r:List Bn):List D:=r.map bdD
theorem jG:∀ (r:List Bn),shs (az r)=az r
 | []=>rfl
 | b :: r=>by show sh (bdD b) :: shs (az r)=_;rw [zA,jG r];rfl
theorem ur:∀ (r:List Bn),bG (az r)=true
 | []=>rfl
 | b :: r=>by show (imm (bdD b) && bG (az r))=true;rw [iR,ur r];rfl
theorem kW:∀ (r:List Bn),gn (az r)=true
 | []=>rfl
 | b :: r=>by show (own (bdD b) && gn (az r))=true;rw [oE,kW r];rfl
def cY (T:List (List Bn)):List D:=T.map fun r=>.seq (az r)
def eS (T:List (List Bn)):List D:=T.map fun r=>.lst (az r)
def ax (T:List (List Bn)):D:=.seq (cY T)
def aE (T:List (List Bn)):D:=.lst (eS T)
theorem p9:∀ (T:List (List Bn)),shs (eS T)=cY T
 | []=>rfl
 | r :: T=>by show sh (.lst (az r)) :: shs (eS T)=_;rw [p9 T,sh,jG];rfl
theorem p8:∀ (T:List (List Bn)),shs (cY T)=cY T
 | []=>rfl
 | r :: T=>by show sh (.seq (az r)) :: shs (cY T)=_;rw [p8 T,sh,jG];rfl
theorem rD (T:List (List Bn)):sh (aE T)=ax T:=by unfold aE ax;rw [sh,p9]
theorem jH (T:List (List Bn)):sh (ax T)=ax T:=by unfold ax;rw [sh,p8]
theorem oC:∀ (T:List (List Bn)),gn (eS T)=true
 | []=>rfl
 | r :: T=>by show (own (.lst (az r)) && gn (eS T))=true;rw [own,kW,oC T];rfl
theorem cm (T:List (List Bn)):own (aE T)=true:=by unfold aE;rw [own];exact oC T
theorem kM:∀ {r s:List Bn},az r=az s->r=s
 | [],[],_=>rfl
 | [],_ :: _,h=>by cases h
 | _ :: _,[],h=>by cases h
 | a :: r,b :: s,h=>by
  have h':bdD a :: az r=bdD b :: az s:=h;injection h' with h1 h2
  rw [hR h1,kM h2]
theorem qq:∀ {T U:List (List Bn)},cY T=cY U->T=U
 | [],[],_=>rfl
 | [],_ :: _,h=>by cases h
 | _ :: _,[],h=>by cases h
 | a :: r,b :: s,h=>by
  have h':D.seq (az a) :: cY r=D.seq (az b) :: cY s:=h;injection h' with h1 h2
  injection h1 with h1
  rw [kM h1,qq h2]
theorem nV {T U:List (List Bn)} (h:ax T=ax U):T=U:=by
 unfold ax at h;injection h with h
 exact qq h
structure Sq (T:List (List Bn)) (m:Nat):Prop where
 len:T.length=m
 row:∀ r∈T,r.length=m
theorem jr {α:Type} {f g:α->D} {F:D->Option D}:∀ {xs:List α},(∀ x∈xs,F (f x)=some (g x))->mS F (xs.map f)=some (xs.map g)
 | [],_=>rfl
 | x :: xs,h=>by
  show ((F (f x)).bind fun y=>(mS F (xs.map f)).bind fun ys=>some (y :: ys))=_
  rw [h x Zk,jr fun y m=>h y (Zl _ m)]
  rfl
theorem GY (n:Nat) (b:Bn):eqN (n+1) (bdD b) (bdD b)=some true:=by
 rcases b with _ | ⟨k,s⟩
 . rfl
 . cases n with
   | zero=>show eqL (eqN 0) [D.int k,D.bl s] [D.int k,D.bl s]=_;simp [eqL,eqN,uF,xL,eqF]
   | succ n=>show eqL (eqN (n+1)) [D.int k,D.bl s] [D.int k,D.bl s]=_;simp [eqL,eqN,uF,xL,eqF]
theorem ls {f:D->D->Option Bool}:∀ {ds:List D},(∀ d∈ds,f d d=some true)->eqL f ds ds=some true
 | [],_=>rfl
 | d :: ds,h=>by
  show ((f d d).bind fun x=>(eqL f ds ds).bind fun y=>some (x && y))=_
  rw [h d Zk,ls fun e m=>h e (Zl _ m)]
  rfl
theorem Fm (n:Nat) (r:List Bn):eqL (eqN (n+1)) (az r) (az r)=some true:=ls fun d m=>by
 obtain ⟨b,_,rfl⟩:=Zn.mp m;exact GY n b
theorem Bp (n:Nat) (T:List (List Bn)):eqL (eqN (n+2)) (cY T) (cY T)=some true:=ls fun d m=>by
 obtain ⟨r,_,rfl⟩:=Zn.mp m;exact Fm n r
theorem EW (T:List (List Bn)):pV (ax T) (ax T)=some (.bl false):=by
 unfold pV;have z:eqN 6 (ax T) (ax T)=some true:=Bp 3 T;rw [z];rfl
def ap (T:List (List Bn)) (i j:Nat):Bn:=(T.getD i []).getD j none
def pP (T:List (List Bn)) (i j:Nat) (b:Bn):List (List Bn):=T.set i ((T.getD i []).set j b)
theorem B5 {T:List (List Bn)} {m i j:Nat} {b:Bn} (h:Sq T m) (hi:i < m):Sq (pP T i j b) m:=by
 refine ⟨by unfold pP;rw [List.length_set];exact h.len,fun r hr=>?_⟩
 rcases List.mem_or_eq_of_mem_set hr with z | z
 . exact h.row r z
 . rw [z,List.length_set,Zs,Zt (by rw [h.len];exact hi)]
   exact h.row _ (List.getElem_mem _)
theorem fR {α:Type} {xs:List α} {j:Nat} {v:α} (h:xs[j]? = some v):L2.atI xs (j:Int)=some v:=L2.atI_nat h
theorem sj {n j:Nat} (h:j < n):L2.ixN n (j:Int)=some j:=by
 unfold L2.ixN;rw [if_pos (by omega),if_pos (by omega)]
 simp
theorem iD {T:List (List Bn)} {m i:Nat} (h:Sq T m) (hi:i < m):∃ r,T[i]? = some r/\T.getD i []=r/\r.length=m:=by
 have hl:i < T.length:=by rw [h.len];exact hi
 refine ⟨T[i],Zt hl,?_,h.row _ (List.getElem_mem _)⟩;rw [Zs,Zt hl];rfl
theorem ki {T:List (List Bn)} {m i j:Nat} (h:Sq T m) (hi:i < m) (hj:j < m):∃ r,gIx (aE T) (.int (i:Int))=some (.lst (az r))/\gIx (.lst (az r)) (.int (j:Int))=some (bdD (ap T i j))/\(eS T)[i]? = some (.lst (az r))/\r.length=m/\T.getD i []=r:=by
 obtain ⟨r,h1,h2,h3⟩:=iD h hi;have hx:(eS T)[i]? = some (.lst (az r)):=by unfold eS;rw [ZD,h1];rfl
 refine ⟨r,fR hx,?_,hx,h3,h2⟩;show L2.atI (az r) (j:Int)=_;refine fR ?_;unfold az ap;rw [ZD,h2,Zs,Zt (by omega)]
 rfl
theorem lU {T:List (List Bn)} {m i j:Nat} (h:Sq T m) (hi:i < m) (hj:j < m):∃ r,gIx (ax T) (.int (i:Int))=some (.seq (az r))/\gIx (.seq (az r)) (.int (j:Int))=some (bdD (ap T i j)):=by
 obtain ⟨r,h1,h2,h3⟩:=iD h hi;have hx:(cY T)[i]? = some (.seq (az r)):=by unfold cY;rw [ZD,h1];rfl
 refine ⟨r,fR hx,?_⟩;show L2.atI (az r) (j:Int)=_;refine fR ?_;unfold az ap;rw [ZD,h2,Zs,Zt (by omega)]
 rfl
theorem qi {T:List (List Bn)} {i j:Nat} {b:Bn} {r:List Bn} (h:T.getD i []=r):(eS T).set i (.lst ((az r).set j (bdD b)))=eS (pP T i j b):=by
 unfold eS pP az;rw [h,List.map_set,List.map_set]
theorem lS (T:List (List Bn)):(eS T).length=T.length:=by simp [eS]
theorem d7 (r:List Bn):(az r).length=r.length:=by simp [az]
def IsT (d:D) (T:List (List Bn)):Prop:=sh d=ax T
theorem d9 (T:List (List Bn)):IsT (aE T) T:=rD T
theorem dH (T:List (List Bn)):IsT (ax T) T:=jH T
theorem IsT.inj {d:D} {T U:List (List Bn)} (h:IsT d T) (g:IsT d U):T=U:=nV (h.symm.trans g)
theorem kf (r:List Bn) (δ:DS):gJ (.lst (az r)) δ=some (.lst (az r),δ):=if_pos (ur r)
theorem By (r:List Bn) (tl:DS):Dl.ownOf (m4 (af (ah 0) ak)) (shO (some (.seq (az r)) :: tl))=some (.lst (az r)):=by
 have e:shO (some (.seq (az r)) :: tl)=some (.seq (az r)) :: shO tl:=by
  show some (sh (.seq (az r))) :: _=_;rw [sh,jG];rfl
 rw [e];show (((gJ (.lst (az r)) _)).bind _)=_;rw [kf];show (if own (.lst _)=true then _ else _)=_
 rw [if_pos (by rw [own];exact kW _)]
theorem vd {T:List (List Bn)} {m:Nat} (hs:Sq T m) (hm:m<=41) {δ:DS} {i:Nat} {js:List Nat} (hj:δ[i]? = some (some (ax T))) :
 dP (fun δ=>((ah i) δ).bind asL) js (m4 (af (ah 0) ak)) δ=some (aE T,δ):=by
 unfold dP;have e:((ah i) δ).bind asL=some (cY T):=by unfold ah;rw [hj];rfl
 dsimp only;rw [e];show ((mS _ (cY T)).bind _)=_;unfold cY;rw [jr (g:=fun r=>.lst (az r)) fun r _=>By r _]
 show (if (eS T).length<=1000 then _ else _)=_
 rw [if_pos (by rw [lS,hs.len];omega)]
 rfl
theorem zt {δ:DS} {i:Nat} {b:Bn} (h:δ[i]? = some (some (bdD b))):gA i δ=some (bdD b,δ):=by
 unfold gA;rw [h];rcases b with _ | ⟨n,s⟩ <;> rfl
theorem ni {T:List (List Bn)} {m i j:Nat} {b:Bn} (hs:Sq T m) (hi:i < m) (hj:j < m) {δ δ':DS} {p:Nat} {fk fl:FD} {fm:FM} (h0:fm δ=some (bdD b,δ')) (h1:δ'[p]? = some (some (aE T))) (h2:fk δ'=some (.int (i:Int))) (h3:fl δ'=some (.int (j:Int))) :
 i6 p fk fl fm δ=some (.nx (δ'.set p (some (aE (pP T i j b))))):=by
 obtain ⟨w,q1,q2,q3,q4,q5⟩:=ki hs hi hj;unfold i6;rw [h0];show (if imm (bdD b)=true then _ else _)=_
 rw [if_pos (iR b)];dsimp only;rw [h1];unfold aE;dsimp only;rw [h2,h3];dsimp only [Option.bind_some];rw [sj (show i < (eS T).length by rw [lS,hs.len];exact hi)]
 dsimp only [Option.bind_some];rw [q3];dsimp only [Option.bind_some];rw [sj (show j < (az w).length by rw [d7,q4];exact hj)]
 dsimp only [Option.bind_some];rw [qi q5]
abbrev zn (ds:List D) (d:D):Prop:=∃ (d0:D) (T:List (List Bn)) (m:Nat),IsT d0 T/\Sq T m/\m<=41/\ds=[d0]/\d=aE T
def pH (ds:List D) (d:D):Prop:=zn ds d
theorem Br {d0:D} {T:List (List Bn)} {m:Nat} (h:IsT d0 T) (hs:Sq T m) (hm:m<=41):fn pH [d0]=some (aE T):=bN (fun d' h'=>by
 obtain ⟨d1,U,m',g,_,_,h2,rfl⟩:=h';cases h2;rw [h.inj g]) ⟨d0,T,m,h,hs,hm,rfl,rfl⟩
theorem cD {s:SD} {δ:DS} {d:D} (h:s δ=some (.rt d)):aJ (s δ)=some d:=by rw [h];rfl
theorem aw {s u:SD} {δ δ':DS} {r:Res} (h:s δ=some (.nx δ')) (g:u δ'=some r):bf s u δ=some r:=by unfold bf;rw [h];exact g
theorem cT {i:Nat} {f:FM} {δ δ':DS} {d:D} (h:f δ=some (d,δ')):aX i f δ=some (.nx (δ'.set i (some d))):=by unfold aX;rw [h];rfl
theorem bS {f:FM} {δ δ':DS} {d:D} (h:f δ=some (d,δ')):gE f δ=some (.rt d):=by unfold gE;rw [h];rfl
theorem DF {c:FT} {s u:SD} {δ:DS} {r:Res} {b:Bool} (h:c δ=some b) (g:(if b then s δ else u δ)=some r):sIf c s u δ=some r:=by unfold sIf;rw [h];cases b <;> exact g
theorem wL {i:Nat} {f:FD} {δ:DS} {d:D} (h:f δ=some d):dR i f δ=some (.nx (δ.set i (some d))):=by unfold dR;rw [h];rfl
theorem rz {f:FD} {δ:DS} {d:D} (h:f δ=some d):du f δ=some (.rt d):=by unfold du;rw [h];rfl
theorem cw {src:FMA} {i:Nat} {s:SD} {δ δ':DS} {ds:List D} {r:Res} (h:src δ=some (ds,δ')) (g:Dl.forM i s ds δ'=some r):i7 src i s δ=some r:=by unfold i7;rw [h];exact g
theorem BY {i:Nat} {δ:DS} {d:D} {ds:List D} (h:δ[i]? = some (some d)) (g:sh d=.seq ds) (k:sh (.seq ds)=.seq ds):wF (rh i) δ=some (ds,δ.set i (some (.seq ds))):=by
 unfold wF rh;rw [h];simp only [Zc,g,k]
theorem bJ {f:FD} {δ:DS} {d:D} (h:f δ=some d) (g:imm d=true:=by rfl):vI f δ=some (d,δ):=by unfold vI;rw [h];exact if_pos g
theorem cL {G:List D->Option D} {g:FA} {δ:DS} {ds:List D} {d:D} (h:g δ=some ds) (k:G ds=some d) (o:own d=true):fY G g δ=some (d,δ):=by unfold fY;rw [h];show ((G ds).bind _)=_;rw [k];exact if_pos o
theorem rf {i:Nat} {δ:DS} {ds:List D} (h:δ[i]? = some (some (.lst ds))):gA i δ=some (.lst ds,δ.set i none):=by unfold gA;rw [h];rfl
theorem n8:∀ (ns:List Int),shs (ns.map D.int)=ns.map D.int
 | []=>rfl
 | n :: ns=>by show sh (.int n) :: shs (ns.map D.int)=_;rw [n8 ns];rfl
theorem eJ (i j:Int):jv (.int i) (.int j)=some (.bl (i == j)):=rfl
theorem fa2 {f g:FD} {δ:DS} {a b:D} (h:f δ=some a) (k:g δ=some b):af f (af g ak) δ=some [a,b]:=by
 unfold af ak;rw [h,k];rfl
theorem lX {i:Nat} {s:SD} (P:DS->Prop):∀ (ds:List D) (δ:DS),P δ->(∀ d∈ds,∀ δ,P δ->∃ δ2,s (δ.set i (some (sh d)))=some (.nx δ2)/\P δ2)->∃ δ',Dl.forM i s ds δ=some (.nx δ')/\P δ'
 | [],δ,p,_=>⟨δ,rfl,p⟩
 | d :: ds,δ,p,h=>by
  obtain ⟨δ2,h2,h3⟩:=h d Zk δ p;obtain ⟨δ',h4,h5⟩:=lX P ds δ2 h3 fun e he=>h e (Zl _ he)
  refine ⟨δ',?_,h5⟩;simp only [Dl.forM,h2,Zc,h4]
theorem cf {c:FT} {s u:SD} {δ:DS} {r:Res} (h:c δ=some false) (g:u δ=some r):sIf c s u δ=some r:=by unfold sIf;rw [h];exact g
theorem dL {c:FT} {s u:SD} {δ:DS} {r:Res} (h:c δ=some true) (g:s δ=some r):sIf c s u δ=some r:=by unfold sIf;rw [h];exact g
theorem dS {s u:SD} {δ:DS} {d:D} (h:s δ=some (.rt d)):bf s u δ=some (.rt d):=by unfold bf;rw [h];rfl
theorem rF (i:Int):sh (.int i)=.int i:=rfl
theorem dz {α:Type} {i:Nat} {s:SD} {f:α->D} (P:List α->DS->Prop) (all:List α) (step:∀ (pre:List α) (x:α) (post:List α) (δ:DS),all=pre++x :: post->P pre δ->∃ δ2,s (δ.set i (some (sh (f x))))=some (.nx δ2)/\P (pre++[x]) δ2) :
 ∀ (xs pre:List α) (δ:DS),all=pre++xs->P pre δ->∃ δ',Dl.forM i s (xs.map f) δ=some (.nx δ')/\P all δ'
 | [],pre,δ,e,p=>⟨δ,rfl,by rw [e,List.append_nil];exact p⟩
 | x :: xs,pre,δ,e,p=>by
  obtain ⟨δ2,h2,h3⟩:=step pre x xs δ e p;obtain ⟨δ',h4,h5⟩:=dz P all step xs (pre++[x]) δ2 (by rw [e,List.append_assoc];rfl) h3
  refine ⟨δ',?_,h5⟩;simp only [Zr,Dl.forM,h2,Zc,h4]
theorem oY {α:Type} {i:Nat} {s:SD} {f:α->D} {d:D} (P:DS->Prop) (b:α->Bool):∀ (xs:List α) (δ:DS),P δ->(∀ x∈xs,∀ δ,P δ->(b x=true->∃ δ2,s (δ.set i (some (sh (f x))))=some (.nx δ2)/\P δ2)/\(b x=false->s (δ.set i (some (sh (f x))))=some (.rt d))) ->
 (xs.all b=true->∃ δ',Dl.forM i s (xs.map f) δ=some (.nx δ')/\P δ')/\(xs.all b=false->Dl.forM i s (xs.map f) δ=some (.rt d))
 | [],δ,p,_=>⟨fun _=>⟨δ,rfl,p⟩,fun h=>by cases h⟩
 | x :: xs,δ,p,h=>by
  obtain ⟨h1,h2⟩:=h x Zk δ p;cases hb:b x with
  | false =>
   refine ⟨fun q=>(by rw [List.all_cons,hb] at q;cases q),fun _=>?_⟩
   simp only [Zr,Dl.forM,h2 hb,Zc]
  | true =>
   obtain ⟨δ2,g1,g2⟩:=h1 hb;obtain ⟨k1,k2⟩:=oY P b xs δ2 g2 fun y hy=>h y (Zl _ hy)
   rw [List.all_cons,hb,Bool.true_and];refine ⟨fun q=>?_,fun q=>?_⟩
   . obtain ⟨δ',k3,k4⟩:=k1 q;refine ⟨δ',?_,k4⟩;simp only [Zr,Dl.forM,g1,Zc,k3]
   . simp only [Zr,Dl.forM,g1,Zc,k2 q]
theorem gw {α:Type} {src:FA} {js:List Nat} {felt:FM} {δ:DS} {xs:List α} {f g:α->D} (hs:src δ=some (xs.map f)) (h:∀ x∈xs,Dl.ownOf felt (shO (some (f x) :: bv js δ))=some (g x)) (hl:xs.length<=1000):dP src js felt δ=some (.lst (xs.map g),δ):=by
 unfold dP;rw [hs];show ((mS _ (xs.map f)).bind _)=_;rw [jr h];exact if_pos (by rw [Zi];exact hl)
theorem vG {felt:FM} {δ δ':DS} {d:D} (h:felt δ=some (d,δ')) (o:own d=true):Dl.ownOf felt δ=some d:=by unfold Dl.ownOf;rw [h];exact if_pos o
theorem oq (n:Nat):d3 0 (n:Int) 1=(List.range n).map fun (i:Nat)=>D.int (i:Int):=by
 have e:(((n:Int) - 0+1 - 1) / 1).toNat=n:=by omega
 unfold d3;rw [e]
 congr 1
 funext i
 congr 1
 omega
theorem BI {b:Int} (h:0<=b) (g:b<=1000):asR [.int b]=some (d3 0 b 1):=by
 show (if -(2 ^ 62)<=b/\b < 2 ^ 62 then some (d3 0 b 1) else none)=_
 rw [if_pos (by omega)]
theorem x6 {n:Nat} (h:n<=1000):asR [.int (n:Int)]=some ((List.range n).map fun (i:Nat)=>D.int (i:Int)):=by
 rw [BI (by omega) (by omega),oq]
theorem zr {g:FA} {δ:DS} {b:Int} (h:g δ=some [.int b]) (l:0<=b) (k:b<=1000):ia g δ=some (d3 0 b 1,δ):=by
 unfold ia;rw [h];show ((asR [.int b]).bind _)=_;rw [BI l k];rfl
theorem dB {g:FA} {δ:DS} {n:Nat} (h:g δ=some [.int (n:Int)]) (l:n<=1000):ia g δ=some ((List.range n).map fun (i:Nat)=>D.int (i:Int),δ):=by
 rw [zr h (by omega) (by omega),oq]
theorem tu {g:FA} {δ:DS} {ds xs:List D} (h:g δ=some ds) (k:asR ds=some xs):mL g δ=some xs:=by unfold mL;rw [h];exact k
theorem bH {n:Nat} {pre post:List Nat} {x:Nat} (h:List.range n=pre++x :: post):x=pre.length/\pre.length < n:=by
 have hl:pre.length < n:=by
  have:=congrArg List.length h;rw [ZF,Zh,Zj] at this;omega
 have h1:(List.range n)[pre.length]? = some x:=by rw [h,List.getElem?_append_right (ZG _),Nat.sub_self];rfl
 rw [List.getElem?_range hl] at h1;exact ⟨(ZA h1).symm,hl⟩
theorem D9 {δ:DS} {i:Nat} {fm:FM} {ds:List D} {d:D} (h:δ[i]? = some (some (.lst ds))) (g:fm δ=some (d,δ)) (l:ds.length<=999):zK i fm δ=some (.nx (δ.set i (some (.lst (ds++[d]))))):=by
 unfold zK;rw [h];dsimp only;rw [g];dsimp only [Option.bind_some];rw [h];exact if_pos l
theorem rg {fa fb:FD} {δ:DS} {a b:D} {xs ys:List D} (h:fa δ=some a) (g:fb δ=some b) (h':asL a=some xs) (g':asL b=some ys) (l:xs.length+ys.length<=1000) (m:bG (xs++ys)=true):iX fa fb δ=some (.lst (xs++ys),δ):=by
 have e:xH a b=some (.lst (xs++ys)):=by
  unfold xH;rw [h',g'];exact if_pos l
 unfold iX f2;rw [h];dsimp only [Option.bind_some];rw [g];dsimp only [Option.bind_some];rw [e];exact if_pos m
theorem DE {is:List Nat} {fm:FM} {δ δ':DS} {ds:List D} (h:fm δ=some (.tup ds,δ')) (l:ds.length=is.length) (i:xA is δ'.length=true):vo is fm δ=some (.nx (zD is ds δ')):=by
 unfold vo;rw [h];dsimp only [Option.bind_some];rw [if_pos ⟨l,i⟩]
theorem uv (ps:List (Int×Int)):bG (ps.map fr)=true:=imms_mem.mpr fun d m=>by obtain ⟨p,_,rfl⟩:=Zn.mp m;rfl
theorem iz:∀ (ps:List (Int×Int)),gn (ps.map fr)=true
 | []=>rfl
 | p :: ps=>by show (own (fr p) && gn (ps.map fr))=true;rw [iz ps];rfl
theorem wN:∀ (ps:List (Int×Int)),shs (ps.map fr)=ps.map fr
 | []=>rfl
 | p :: ps=>by show sh (fr p) :: shs (ps.map fr)=_;rw [wN ps];rfl
theorem nJ:∀ {ps qs:List (Int×Int)},ps.map fr=qs.map fr->ps=qs
 | [],[],_=>rfl
 | [],_ :: _,h=>by cases h
 | _ :: _,[],h=>by cases h
 | (a,b) :: ps,(c,e) :: qs,h=>by
  have h':fr (a,b) :: ps.map fr=fr (c,e) :: qs.map fr:=h;injection h' with h1 h2
  cases h1;rw [nJ h2]
def IsP (d:D) (ps:List (Int×Int)):Prop:=sh d=.seq (ps.map fr)
theorem xz (ps:List (Int×Int)):IsP (.lst (ps.map fr)) ps:=by unfold IsP;rw [sh,wN]
theorem IsP.inj {d:D} {ps qs:List (Int×Int)} (h:IsP d ps) (g:IsP d qs):ps=qs:=by
 have:=h.symm.trans g;injection this with this
 exact nJ this
def eW (ps:List (Int×Int)):List (Int×Int):=(0,1) :: ps
def bI (ps:List (Int×Int)) (i:Nat):Int×Int:=(eW ps).getD i (0,1)
def dif (ps:List (Int×Int)) (i j:Nat):Int×Int:=mi (bI ps i) (bI ps j)
def se (T:List (List Bn)) (ps:List (Int×Int)):Bool:=(List.range (ps.length+1)).all fun i=>(List.range (ps.length+1)).all fun j=>kp (dif ps i j) (ap T i j)
theorem mZ {k:Nat} (h:1<=k):Fr k ((0,1):Int×Int):=⟨⟨by decide,by unfold gc;simp⟩,Sm.mono (k:=1) (show (0:Int).natAbs < 2 ^ 1 by decide) h,Sm.mono (k:=1) (show (1:Int).natAbs < 2 ^ 1 by decide) h⟩
theorem dr {ps:List (Int×Int)} {k:Nat} (hk:1<=k) (h:∀ p∈ps,Fr k p) (i:Nat):Fr k (bI ps i):=by
 unfold bI;rw [Zs];cases q:(eW ps)[i]? with
 | none=>exact mZ hk
 | some p =>
  have m:=List.mem_of_getElem? q;rcases Zq.mp m with rfl | m
  . exact mZ hk
  . exact h p m
theorem Dn {k:Nat} {ps:List (Int×Int)} (hk:1<=k) (h:∀ p∈ps,Fr k p) (i j:Nat):Fr (k+k+1) (dif ps i j):=(dr hk h i).mi (dr hk h j)
theorem jN {ps:List (Int×Int)} {i:Nat} (h:i < ps.length+1):gIx (.lst ((eW ps).map fr)) (.int (i:Int))=some (fr (bI ps i))/\gIx (.seq ((eW ps).map fr)) (.int (i:Int))=some (fr (bI ps i)):=by
 have e:((eW ps).map fr)[i]? = some (fr (bI ps i)):=by
  unfold bI;have hl:i < (eW ps).length:=by unfold eW;rw [Zj];exact h
  rw [ZD,Zs,Zt hl];rfl
 exact ⟨fR e,fR e⟩
def BkT (T:List (List Bn)):Prop:=∀ i j,Bk 4000 (ap T i j)
def rc (ds:List D) (d:D):Prop:=∃ (d0 d1:D) (T:List (List Bn)) (ps:List (Int×Int)),IsT d0 T/\Sq T (ps.length+1)/\ps.length<=40/\BkT T/\IsP d1 ps/\(∀ p∈ps,Fr 1900 p)/\ds=[d0,d1]/\d=.bl (se T ps)
theorem qS {k:Nat} {d0 d1:D} {T:List (List Bn)} {ps:List (Int×Int)} (h1:IsT d0 T) (h2:Sq T (ps.length+1)) (h3:ps.length<=40) (h4:BkT T) (h5:IsP d1 ps) (h6:∀ p∈ps,Fr k p) (hk:k<=1900:=by decide):fn rc [d0,d1]=some (.bl (se T ps)):=bN (fun d' h'=>by
 obtain ⟨e0,e1,U,qs,g1,_,_,_,g5,_,h,rfl⟩:=h';injection h with a b
 injection b with b _
 subst a b;rw [h1.inj g1,h5.inj g5]) ⟨d0,d1,T,ps,h1,h2,h3,h4,h5,fun p m=>(h6 p m).mono hk,rfl,rfl⟩
def mxd (c k:Int):Int:=(c*48271+k*k*69621+7*k+11) % 2147483647*((c*48271+k*k*69621+7*k+11) % 2147483647) % 2147483629
theorem EX (c k:Int):0<=mxd c k:=Int.emod_nonneg _ (by decide)
theorem EY (c k:Int):mxd c k < 2147483629:=Int.emod_lt_of_pos _ (by decide)
def cu (ds:List D) (d:D):Prop:=∃ c k,0<=k/\k < 100000/\ds=[.int c,.int k]/\d=.int (mxd c k)
theorem lx {c k:Int} (h:0<=k) (g:k < 100000):fn cu [.int c,.int k]=some (.int (mxd c k)):=bN (fun d' h'=>by
 obtain ⟨c',k',_,_,h2,rfl⟩:=h';cases h2;rfl) ⟨c,k,h,g,rfl,rfl⟩
def dl (p q:Int×Int):Int×Int:=(p.1*q.2 - q.1*p.2,p.2*q.2)
abbrev c5:=S2 fun p q=>fr (dl p q)
theorem GK {t b:Int} (hb:0 < b) (c:Bn):kp (t,b) c=kp (rd t b) c:=by
 have hg:=eE (t:=t) hb;have e1:(rd t b).1*gc t b=t:=Eh;have e2:(rd t b).2*gc t b=b:=B8;have key:∀ n:Int,(t < n*b <-> (rd t b).1 < n*(rd t b).2)/\(n*b < t <-> n*(rd t b).2 < (rd t b).1):=fun n=>by
  have e3:n*b=n*(rd t b).2*gc t b:=by rw [Int.mul_assoc,e2]
  constructor
  . constructor
    . intro h;have h':(rd t b).1*gc t b < n*(rd t b).2*gc t b:=by rw [e1,<- e3];exact h
      exact Int.lt_of_mul_lt_mul_right h' (Int.le_of_lt hg)
    . intro h;have:=Int.mul_lt_mul_of_pos_right h hg;rw [e1,<- e3] at this;exact this
  . constructor
    . intro h;have h':n*(rd t b).2*gc t b < (rd t b).1*gc t b:=by rw [e1,<- e3];exact h
      exact Int.lt_of_mul_lt_mul_right h' (Int.le_of_lt hg)
    . intro h;have:=Int.mul_lt_mul_of_pos_right h hg;rw [e1,<- e3] at this;exact this
 rcases c with _ | ⟨n,s⟩
 . rfl
 . cases s with
   | true =>
    show decide (t*1 < n*b)=decide ((rd t b).1*1 < n*(rd t b).2);rw [Int.mul_one,Int.mul_one];exact decide_eq_decide.mpr (key n).1
   | false =>
    show (!decide (n*b < t*1)) = !decide (n*(rd t b).2 < (rd t b).1*1);rw [Int.mul_one,Int.mul_one,decide_eq_decide.mpr (key n).2]
theorem GM {p q:Int×Int} (hp:0 < p.2) (hq:0 < q.2) (c:Bn):kp (dl p q) c=kp (mi p q) c:=GK (Int.mul_pos hp hq) c
theorem G0 {k:Nat} {p q:Int×Int} (hp:Fr k p) (hq:Fr k q) (h:k+k+1<=4000):Fk (dl p q):=⟨Int.mul_pos hp.pos hq.pos,((hp.s1.mul hq.s2).sub (hq.s1.mul hp.s2)).mono h,(hp.s2.mul hq.s2).mono (by omega)⟩
abbrev eP:=iV
abbrev hV:=rc
theorem GL (a n b:Int) (s:Bool):(decide (a < n*b) || (a == n*b && !s))=kp (a,b) (some (n,s)):=by
 cases s with
 | true =>
  show _=decide (a*1 < n*b);rw [Int.mul_one,Bool.not_true,Bool.and_false,Bool.or_false]
 | false =>
  show _ = !decide (n*b < a*1);rw [Int.mul_one,Bool.not_false,Bool.and_true,Bool.eq_iff_iff,Bool.or_eq_true,Bool.not_eq_true',decide_eq_true_iff,decide_eq_false_iff_not,beq_iff_eq];omega
theorem DI (p:Int×Int):sh (fr p)=fr p:=rfl
theorem jE {f:FM} {δ:DS} {d:D} (h:f δ=some (d,δ)):gE f δ=some (.rt d):=bS h
theorem bA {i:Nat} {f:FM} {δ:DS} {d:D} (h:f δ=some (d,δ)):aX i f δ=some (.nx (δ.set i (some d))):=cT h
theorem p0 {n:Nat} {js:List Nat} {g:D->DS->Option DS} {fc:FT} {felt:FM} {δ δ1:DS} {d e:D} (h1:g d (fQ n (bv js δ))=some δ1) (h2:fc δ1=some true) (h3:Dl.ownOf felt (shO δ1)=some e):gB n js g fc felt δ d=some (some e):=by
 unfold gB;rw [h1];show ((fc δ1).bind _)=_;rw [h2];show (Dl.ownOf felt (shO δ1)).map some=_;rw [h3];rfl
theorem rT {felt:FM} {δ δ':DS} {e:D} (h:felt δ=some (e,δ')) (o:own e=true):Dl.ownOf felt δ=some e:=by
 unfold Dl.ownOf;rw [h];exact if_pos o
def bY (ds:List D) (d:D):Prop:=∃ a b:Bn,ds=[bdD a,bdD b]/\d=bdD (bs a b)
theorem mJ {a b:Bn}:fn bY [bdD a,bdD b]=some (bdD (bs a b)):=bN (fun d' h'=>by
 obtain ⟨a',b',h2,rfl⟩:=h';injection h2 with h3 h4
 injection h4 with h4 _
 rw [hR h3,hR h4]) ⟨a,b,rfl,rfl⟩
def om (n:Nat) (f:Nat->Bn):List Bn:=(List.range n).map f
def aD (n:Nat) (f:Nat->Nat->Bn):List (List Bn):=(List.range n).map fun i=>om n (f i)
theorem bu (n:Nat) (f:Nat->Nat->Bn):Sq (aD n f) n:=⟨by unfold aD;rw [Zi,ZF],fun r m=>by
 unfold aD at m;obtain ⟨i,_,rfl⟩:=Zn.mp m;unfold om;rw [Zi,ZF]⟩
theorem aY {α:Type} {n i:Nat} (g:Nat->α) (h:i < n):((List.range n).map g)[i]? = some (g i):=by rw [ZD,List.getElem?_range h];rfl
theorem jz {T:List (List Bn)} {i j:Nat} {r:List Bn} (h:T[i]? = some r):ap T i j=r.getD j none:=by
 unfold ap;have e:T.getD i []=r:=by rw [Zs,h];rfl
 rw [e]
theorem xB {α:Type} {xs:List α} {i:Nat} {d v:α} (h:xs[i]? = some v):xs.getD i d=v:=by rw [Zs,h];rfl
theorem bq {n i j:Nat} (f:Nat->Nat->Bn) (hi:i < n) (hj:j < n):ap (aD n f) i j=f i j:=by
 rw [jz (show (aD n f)[i]? = some (om n (f i)) from aY _ hi)]
 exact xB (aY (f i) hj)
theorem m5 {n:Nat} {T U:List (List Bn)} (h:Sq T n) (g:Sq U n) (e:∀ i j,i < n->j < n->ap T i j=ap U i j):T=U:=by
 refine List.ext_getElem? fun i=>?_
 by_cases hi:i < n
 . obtain ⟨r,a1,a2,a3⟩:=iD h hi;obtain ⟨s,b1,b2,b3⟩:=iD g hi;rw [a1,b1]
   congr 1
   refine List.ext_getElem? fun j=>?_
   by_cases hj:j < n
   . have:=e i j hi hj;unfold ap at this;rw [a2,b2,Zs,Zs,Zt (by omega),Zt (by omega)] at this
     rw [Zt (by omega),Zt (by omega)]
     exact congrArg some this
   . rw [List.getElem?_eq_none (by omega),List.getElem?_eq_none (by omega)]
 . rw [List.getElem?_eq_none (by rw [h.len];omega),List.getElem?_eq_none (by rw [g.len];omega)]
theorem BS {n:Nat} {T:List (List Bn)} (h:Sq T n):aD n (ap T)=T:=m5 (bu _ _) h fun i j hi hj=>bq _ hi hj
theorem be {n:Nat} {f g:Nat->Nat->Bn} (e:∀ i j,i < n->j < n->f i j=g i j):aD n f=aD n g:=m5 (bu _ _) (bu _ _) fun i j hi hj=>by rw [bq _ hi hj,bq _ hi hj,e i j hi hj]
def up2 {α:Type} (f:Nat->Nat->α) (i j:Nat) (b:α):Nat->Nat->α:=fun x y=>if x=i/\y=j then b else f x y
theorem yo {T:List (List Bn)} {n i j x y:Nat} {b:Bn} (h:Sq T n) (hi:i < n) (hj:j < n) (hx:x < n) (hy:y < n):ap (pP T i j b) x y=if x=i/\y=j then b else ap T x y:=by
 obtain ⟨r,a1,a2,a3⟩:=iD h hi;obtain ⟨s,b1,b2,b3⟩:=iD h hx;unfold pP;rw [a2]
 by_cases e:x=i
 . subst e;rw [jz (r:=r.set j b) (List.getElem?_set_self (by rw [h.len];exact hi)),jz a1]
   by_cases e2:y=j
   . subst e2;rw [if_pos ⟨rfl,rfl⟩];exact xB (List.getElem?_set_self (by omega))
   . rw [if_neg (fun z=>e2 z.2),Zs,List.getElem?_set_ne (Ne.symm e2),<- Zs]
 . rw [if_neg (fun z=>e z.1),jz b1,jz (r:=s) (by rw [List.getElem?_set_ne (Ne.symm e)];exact b1)]
theorem ij {n i j:Nat} (f:Nat->Nat->Bn) (b:Bn) (hi:i < n) (hj:j < n):pP (aD n f) i j b=aD n (up2 f i j b):=m5 (B5 (bu n f) hi) (bu _ _) fun x y hx hy=>by
 rw [yo (bu n f) hi hj hx hy,bq _ hx hy,bq _ hx hy];rfl
def aS {α:Type} (bad:List α->α->Option D):List α->List α->Option D
 | _,[]=>none
 | pre,x :: post=>match bad pre x with
  | some d=>some d
  | none=>aS bad (pre++[x]) post
theorem nM {α:Type} {i:Nat} {s:SD} {f:α->D} (P:List α->DS->Prop) (bad:List α->α->Option D) (all:List α)
 (step:∀ (pre:List α) (x:α) (post:List α) (δ:DS),all=pre++x :: post->P pre δ->(bad pre x=none->∃ δ2,s (δ.set i (some (sh (f x))))=some (.nx δ2)/\P (pre++[x]) δ2)/\∀ d,bad pre x=some d->s (δ.set i (some (sh (f x))))=some (.rt d)) :
 ∀ (xs pre:List α) (δ:DS),all=pre++xs->P pre δ->(aS bad pre xs=none->∃ δ',Dl.forM i s (xs.map f) δ=some (.nx δ')/\P all δ')/\∀ d,aS bad pre xs=some d->Dl.forM i s (xs.map f) δ=some (.rt d)
 | [],pre,δ,e,p=>⟨fun _=>⟨δ,rfl,by rw [e,List.append_nil];exact p⟩,fun d h=>by cases h⟩
 | x :: xs,pre,δ,e,p=>by
  obtain ⟨h1,h2⟩:=step pre x xs δ e p;cases q:bad pre x with
  | some d0 =>
   have ef:aS bad pre (x :: xs)=some d0:=by show (match bad pre x with | some d=>some d | none=>_)=_;rw [q]
   rw [ef];refine ⟨(fun z=>by cases z),fun d z=>?_⟩
   cases z;simp only [Zr,Dl.forM,h2 d0 q,Zc]
  | none =>
   have ef:aS bad pre (x :: xs)=aS bad (pre++[x]) xs:=by show (match bad pre x with | some d=>some d | none=>_)=_;rw [q]
   rw [ef];obtain ⟨δ2,h3,h4⟩:=h1 q;obtain ⟨g1,g2⟩:=nM P bad all step xs (pre++[x]) δ2 (by rw [e,List.append_assoc];rfl) h4
   refine ⟨fun z=>?_,fun d z=>?_⟩
   . obtain ⟨δ',a,b⟩:=g1 z;refine ⟨δ',?_,b⟩;simp only [Zr,Dl.forM,h3,Zc,a]
   . simp only [Zr,Dl.forM,h3,Zc,g2 d z]
theorem fG {α:Type} {bad:List α->α->Option D}:∀ {xs pre:List α},aS bad pre xs=none->∀ a x b,xs=a++x :: b->bad (pre++a) x=none
 | [],pre,_,a,x,b,e=>by simp at e
 | y :: xs,pre,h,a,x,b,e=>by
  have h':(match bad pre y with | some d=>some d | none=>aS bad (pre++[y]) xs)=none:=h
  cases q:bad pre y with
  | some d=>rw [q] at h';cases h'
  | none =>
   rw [q] at h';cases a with
   | nil=>cases e;rw [List.append_nil];exact q
   | cons z a =>
    cases e;have:=fG h' a x b rfl;rw [List.append_assoc] at this;exact this
theorem br {α:Type} {bad:List α->α->Option D}:∀ {xs pre:List α} {d:D},aS bad pre xs=some d->∃ a x b,xs=a++x :: b/\bad (pre++a) x=some d/\∀ a' y b',a=a'++y :: b'->bad (pre++a') y=none
 | [],pre,d,h=>by cases h
 | y :: xs,pre,d,h=>by
  have h':(match bad pre y with | some d=>some d | none=>aS bad (pre++[y]) xs)=some d:=h
  cases q:bad pre y with
  | some d0 =>
   rw [q] at h';cases h';exact ⟨[],y,xs,rfl,by rw [List.append_nil];exact q,fun a' z b' e=>by simp at e⟩
  | none =>
   rw [q] at h';obtain ⟨a,x,b,e1,e2,e3⟩:=br h';refine ⟨y :: a,x,b,by rw [e1];rfl,by rw [List.append_assoc] at e2;exact e2,fun a' z b' e=>?_⟩
   cases a' with
   | nil=>cases e;rw [List.append_nil];exact q
   | cons w a' =>
    cases e;have:=e3 a' z b' rfl;rw [List.append_assoc] at this;exact this
def intsD (l:List Nat):List D:=l.map fun (k:Nat)=>D.int (k:Int)
theorem qh (l:List Nat):shs (intsD l)=intsD l:=rC (imms_mem.mpr fun d m=>by obtain ⟨k,_,rfl⟩:=Zn.mp m;rfl)
theorem oV (l:List Nat):bG (intsD l)=true:=imms_mem.mpr fun d m=>by obtain ⟨k,_,rfl⟩:=Zn.mp m;rfl
theorem gm:∀ {ds:List D},(∀ d∈ds,own d=true)->gn ds=true
 | [],_=>rfl
 | d :: ds,h=>by rw [gn,h d Zk,gm fun e m=>h e (Zl _ m)];rfl
theorem eZ (l:List Nat):gn (intsD l)=true:=gm fun d m=>by obtain ⟨k,_,rfl⟩:=Zn.mp m;rfl
def fX (n:Nat) (p:Nat->List Nat):List D:=(List.range n).map fun j=>D.lst (intsD (p j))
def l5 (n:Nat) (p:Nat->List Nat):List D:=(List.range n).map fun j=>D.seq (intsD (p j))
def aV (n:Nat) (p:Nat->Nat->List Nat):List D:=(List.range n).map fun i=>D.lst (fX n (p i))
def fH (n:Nat) (p:Nat->Nat->List Nat):List D:=(List.range n).map fun i=>D.seq (l5 n (p i))
theorem zy (n:Nat) (p:Nat->List Nat):shs (fX n p)=l5 n p:=by
 rw [dC];unfold fX l5;rw [List.map_map];refine List.map_congr_left fun j _=>?_
 show sh (.lst (intsD (p j)))=_;rw [sh,qh]
theorem n6 (n:Nat) (p:Nat->Nat->List Nat):shs (aV n p)=fH n p:=by
 rw [dC];unfold aV fH;rw [List.map_map];refine List.map_congr_left fun i _=>?_
 show sh (.lst (fX n (p i)))=_;rw [sh,zy]
theorem oD (n:Nat) (p:Nat->Nat->List Nat):own (.lst (aV n p))=true:=by
 rw [own];refine gm fun d m=>?_
 obtain ⟨i,_,rfl⟩:=Zn.mp m;show own (.lst (fX n (p i)))=true;rw [own];refine gm fun d m=>?_
 obtain ⟨j,_,rfl⟩:=Zn.mp m;show own (.lst (intsD (p i j)))=true;rw [own];exact eZ _
theorem uj {n i j:Nat} (p:Nat->Nat->List Nat) (hi:i < n) (hj:j < n):gIx (.lst (aV n p)) (.int (i:Int))=some (.lst (fX n (p i)))/\gIx (.lst (fX n (p i))) (.int (j:Int))=some (.lst (intsD (p i j))):=⟨fR (aY _ hi),fR (aY _ hj)⟩
theorem ui {n i j:Nat} (p:Nat->Nat->List Nat) (hi:i < n) (hj:j < n):gIx (.seq (fH n p)) (.int (i:Int))=some (.seq (l5 n (p i)))/\gIx (.seq (l5 n (p i))) (.int (j:Int))=some (.seq (intsD (p i j))):=⟨fR (aY _ hi),fR (aY _ hj)⟩
theorem j1 {α:Type} {n i:Nat} (g:Nat->α) (v:α) (hi:i < n):((List.range n).map g).set i v=(List.range n).map fun x=>if x=i then v else g x:=by
 refine List.ext_getElem? fun k=>?_
 by_cases hk:k < n
 . rw [aY _ hk]
   by_cases e:k=i
   . subst e;rw [List.getElem?_set_self (by rw [Zi,ZF];exact hk),if_pos rfl]
   . rw [List.getElem?_set_ne (Ne.symm e),aY _ hk,if_neg e]
 . rw [List.getElem?_eq_none (by rw [List.length_set,Zi,ZF];omega),List.getElem?_eq_none (by rw [Zi,ZF];omega)]
theorem zC {n i j:Nat} (p:Nat->Nat->List Nat) (l:List Nat) (hi:i < n) (hj:j < n):(aV n p).set i (.lst ((fX n (p i)).set j (.lst (intsD l))))=aV n (up2 p i j l):=by
 unfold aV;rw [j1 _ _ hi];refine List.map_congr_left fun x _=>?_
 by_cases e:x=i
 . subst e;rw [if_pos rfl];unfold fX;rw [j1 _ _ hj]
   congr 1
   refine List.map_congr_left fun y _=>?_
   unfold up2
   by_cases e2:y=j
   . rw [if_pos e2,if_pos ⟨rfl,e2⟩]
   . rw [if_neg e2,if_neg fun z=>e2 z.2]
 . rw [if_neg e]
   congr 1
   unfold fX;refine List.map_congr_left fun y _=>?_
   unfold up2;rw [if_neg fun z=>e z.1]
theorem eV {n:Nat} {p q:Nat->Nat->List Nat} (e:∀ i j,i < n->j < n->p i j=q i j):aV n p=aV n q:=by
 unfold aV fX;refine List.map_congr_left fun i hi=>?_
 congr 1
 refine List.map_congr_left fun j hj=>?_
 rw [e i j (Zo.mp hi) (Zo.mp hj)]
theorem wR {δ δ':DS} {p:Nat} {fk fl:FD} {fm:FM} {v:D} {Rs row:List D} {i j:Nat} (h0:fm δ=some (v,δ')) (h1:δ'[p]? = some (some (.lst Rs))) (h2:fk δ'=some (.int (i:Int))) (h3:Rs[i]? = some (.lst row)) (h4:fl δ'=some (.int (j:Int))) (h5:j < row.length) :
 gF p fk fl fm δ=some (.nx (δ'.set p (some (.lst (Rs.set i (.lst (row.set j v))))))):=by
 unfold gF;simp only [h0,Zc,h1,h2,sj (ZE.mp h3).1,h3,h4,sj h5]
def cz (T:List (List Bn)):Nat->Nat->Bn:=fun i j=>if i=j then b0 else ap T i j
def gP (ds:List D) (d:D):Prop:=∃ (d0:D) (T:List (List Bn)) (n:Nat),IsT d0 T/\Sq T n/\n<=41/\ds=[d0]/\d=aE (aD n (cz T))
theorem o7 {d0:D} {T:List (List Bn)} {n:Nat} (h:IsT d0 T) (hs:Sq T n) (hn:n<=41):fn gP [d0]=some (aE (aD n (cz T))):=bN (fun d' h'=>by
 obtain ⟨d1,U,m,g,gs,_,h2,rfl⟩:=h';cases h2;have:=h.inj g;subst this;rw [<- hs.len,<- gs.len]) ⟨d0,T,n,h,hs,hn,rfl,rfl⟩
def fS (ds:List D) (d:D):Prop:=∃ n:Nat,n<=41/\ds=[.int (n:Int)]/\d=.lst (aV n fun i _=>[i])
theorem mU {n:Nat} (hn:n<=41):fn fS [.int (n:Int)]=some (.lst (aV n fun i _=>[i])):=bN (fun d' h'=>by
 obtain ⟨m,_,h2,rfl⟩:=h';injection h2 with h2 _
 injection h2 with h2
 have:m=n:=by omega
 subst this;rfl) ⟨n,hn,rfl,rfl⟩
def mX (f:Nat->Nat->Bn) (p:Nat->Nat->List Nat) (m:Nat):List Nat->Nat->Option D:=fun _ t=>if kp (0,1) (bs (f t m) (f m t))=true then none else some (.lst (intsD (p t m++p m t)))
def rgt (n:Nat) (f:Nat->Nat->Bn) (p:Nat->Nat->List Nat) (m:Nat):D:=(aS (mX f p m) [] (List.range n)).getD .non
theorem pZ {n:Nat} {p q:Nat->Nat->List Nat} (h:fH n p=fH n q):∀ i j,i < n->j < n->p i j=q i j:=fun i j hi hj=>by
 have h1:(fH n p)[i]? = (fH n q)[i]?:=by rw [h]
 unfold fH at h1;rw [aY _ hi,aY _ hi] at h1;injection h1 with h1
 injection h1 with h1
 have h2:(l5 n (p i))[j]? = (l5 n (q i))[j]?:=by rw [h1]
 unfold l5 at h2;rw [aY _ hj,aY _ hj] at h2;injection h2 with h2
 injection h2 with h2
 have key:∀ (a b:List Nat),intsD a=intsD b->a=b:=by
  intro a
  induction a with
  | nil=>intro b e;cases b with | nil=>rfl | cons y b=>cases e
  | cons x a ih =>
   intro b e;cases b with
   | nil=>cases e
   | cons y b =>
    have e':D.int (x:Int) :: intsD a=D.int (y:Int) :: intsD b:=e;injection e' with e1 e2
    injection e1 with e1
    rw [ih b e2]
    congr 1
    omega
 exact key _ _ h2
structure BL (n:Nat) (f:Nat->Nat->Bn) (p:Nat->Nat->List Nat) (m:Nat):Prop where
 n41:n<=41
 mn:m < n
 bk:∀ i j,i < n->j < n->Bk 3000 (f i j)
 ln:∀ i j,i < n->j < n->(p i j).length<=400
def eN (ds:List D) (d:D):Prop:=∃ (d0 d1:D) (n m:Nat) (f:Nat->Nat->Bn) (p:Nat->Nat->List Nat),BL n f p m/\IsT d0 (aD n f)/\sh d1=.seq (fH n p)/\ds=[d0,d1,.int (m:Int)]/\d=rgt n f p m
theorem jw {α:Type} {bad bad':List α->α->Option D}:∀ {xs pre:List α},(∀ a x b,xs=a++x :: b->bad (pre++a) x=bad' (pre++a) x)->aS bad pre xs=aS bad' pre xs
 | [],_,_=>rfl
 | x :: xs,pre,h=>by
  have h0:=h [] x xs rfl;rw [List.append_nil] at h0;show (match bad pre x with | some d=>some d | none=>aS bad (pre++[x]) xs)=(match bad' pre x with | some d=>some d | none=>aS bad' (pre++[x]) xs)
  rw [h0];cases bad' pre x with
  | some d=>rfl
  | none =>
   refine jw fun a y b e=>?_
   have:=h (x :: a) y b (by rw [e];rfl)
   rw [List.append_assoc];exact this
theorem yr {n m:Nat} {f g:Nat->Nat->Bn} {p q:Nat->Nat->List Nat} (hm:m < n) (e:∀ i j,i < n->j < n->f i j=g i j) (e2:∀ i j,i < n->j < n->p i j=q i j):rgt n f p m=rgt n g q m:=by
 unfold rgt
 congr 1
 refine jw fun a x b h=>?_
 have hx:x < n:=by
  have:=(bH h);omega
 unfold mX;rw [e x m hx hm,e m x hm hx,e2 x m hx hm,e2 m x hm hx]
theorem tq {n:Nat} {f g:Nat->Nat->Bn} (h:aD n f=aD n g):∀ i j,i < n->j < n->f i j=g i j:=fun i j hi hj=>by rw [<- bq f hi hj,h,bq g hi hj]
theorem o9 {d0 d1:D} {n m:Nat} {f:Nat->Nat->Bn} {p:Nat->Nat->List Nat} (ok:BL n f p m) (h0:IsT d0 (aD n f)) (h1:sh d1=.seq (fH n p)):fn eN [d0,d1,.int (m:Int)]=some (rgt n f p m):=bN (fun d' h'=>by
 obtain ⟨e0,e1,n',m',g,q,ok',g0,g1,h2,rfl⟩:=h';injection h2 with a b
 injection b with b c
 injection c with c _
 injection c with c
 subst a b;have em:m'=m:=by omega
 subst em;have et:=h0.inj g0;have en:n'=n:=by rw [<- (bu n f).len,et,(bu n' g).len]
 subst en;rw [h1] at g1;injection g1 with g1
 exact (yr ok.mn (tq et) (pZ g1)).symm) ⟨d0,d1,n,m,f,p,ok,h0,h1,rfl,rfl⟩
def ldF (f:Nat->Nat->Bn) (m:Nat):Nat->Nat->Bn:=fun i j=>if tgt (bs (f i m) (f m j)) (f i j)=true then bs (f i m) (f m j) else f i j
def ldP (f:Nat->Nat->Bn) (p:Nat->Nat->List Nat) (m:Nat):Nat->Nat->List Nat:=fun i j=>if tgt (bs (f i m) (f m j)) (f i j)=true then p i m++p m j else p i j
theorem xo (n:Nat) (f:Nat->Nat->Bn) (p:Nat->Nat->List Nat) (m:Nat):own (rgt n f p m)=true:=by
 unfold rgt;cases hb:aS (mX f p m) [] (List.range n) with
 | none=>rfl
 | some d =>
  obtain ⟨a,x,b,_,h,_⟩:=br hb;unfold mX at h;split at h
  . cases h
  . cases h;show own (.lst _)=true;rw [own];exact eZ _
theorem si {T:List (List Bn)} {n:Nat} (hs:Sq T n):gu [ax T]=some (.int (n:Int)):=by
 show some (D.int ((cY T).length:Int))=_;unfold cY;rw [Zi,hs.len]
theorem CV {T:List (List Bn)} {n:Nat} (hs:Sq T n):gu [aE T]=some (.int (n:Int)):=by
 show some (D.int ((eS T).length:Int))=_;rw [lS,hs.len]
def eO (ds:List D) (d:D×D):Prop:=∃ (n m:Nat) (f:Nat->Nat->Bn) (p:Nat->Nat->List Nat),BL n f p m/\f m m=b0/\ds=[aE (aD n f),.lst (aV n p),.int (m:Int)]/\d=(aE (aD n (ldF f m)),.lst (aV n (ldP f p m)))
theorem Ar {T U:List (List Bn)} (h:aE T=aE U):T=U:=nV (by rw [<- rD,<- rD,h])
theorem ye {n:Nat} {p q:Nat->Nat->List Nat} (h:aV n p=aV n q):∀ i j,i < n->j < n->p i j=q i j:=pZ (by rw [<- n6,<- n6,h])
theorem pb {n m:Nat} {f:Nat->Nat->Bn} {p:Nat->Nat->List Nat} (ok:BL n f p m) (h0:f m m=b0):fnM eO [aE (aD n f),.lst (aV n p),.int (m:Int)]=some (aE (aD n (ldF f m)),.lst (aV n (ldP f p m))):=Fj (fun d' h'=>by
 obtain ⟨n',m',g,q,ok',g0,h2,rfl⟩:=h';injection h2 with a b
 injection b with b c
 injection c with c _
 injection c with c
 have em:m'=m:=by omega
 subst em;have et:=Ar a;have en:n'=n:=by rw [<- (bu n f).len,et,(bu n' g).len]
 subst en;injection b with b
 have e1:=tq et;have e2:=ye b;have hm:=ok.mn;have t1:aD n' (ldF g m')=aD n' (ldF f m'):=be fun i j hi hj=>by unfold ldF;rw [e1 i m' hi hm,e1 m' j hm hj,e1 i j hi hj]
 have t2:aV n' (ldP g q m')=aV n' (ldP f p m'):=eV fun i j hi hj=>by unfold ldP;rw [e1 i m' hi hm,e1 m' j hm hj,e1 i j hi hj,e2 i m' hi hm,e2 m' j hm hj,e2 i j hi hj]
 rw [t1,t2]) ⟨n,m,f,p,ok,h0,rfl,rfl⟩
def pw (c:Nat->Nat->Bn):Nat->Nat->Nat->List Nat
 | 0=>fun i _=>[i]
 | m+1=>ldP (dm c m) (pw c m) m
def mY (n:Nat) (c:Nat->Nat->Bn):List Nat->Nat->Option D:=fun _ m=>match rgt n (dm c m) (pw c m) m with
 | .non=>none
 | d=>some (.tup [.str "ring",d])
def pD (T:List (List Bn)):List Nat->Nat->Option D:=fun _ t=>if kp (0,1) (ap T t t)=true then none else some (.tup [.str "ring",.lst [.int (t:Int)]])
def cr (n:Nat) (T:List (List Bn)):D:=match aS (pD T) [] (List.range n) with
 | some d=>d
 | none=>match aS (mY n (cz T)) [] (List.range n) with
  | some d=>d
  | none=>.tup [.str "table",aE (aD n (dm (cz T) n))]
theorem wV {n m:Nat} {f:Nat->Nat->Bn} {p:Nat->Nat->List Nat} (h:rgt n f p m=.non):∀ t,t < n->Nn (bs (f t m) (f m t)):=fun t ht=>by
 unfold rgt at h;cases hb:aS (mX f p m) [] (List.range n) with
 | none =>
  obtain ⟨a,b,e⟩:=List.append_of_mem (Zo.mpr ht);have:=fG hb a t b e;unfold mX at this;split at this
  . rename_i q;exact nn_kp.mp q
  . cases this
 | some d =>
  rw [hb] at h;obtain ⟨a,x,b,_,h2,_⟩:=br hb;unfold mX at h2;split at h2
  . cases h2
  . cases h2;cases h
theorem lH {n m:Nat} (f:Nat->Nat->Bn) (p:Nat->Nat->List Nat):rgt n f p m=.non \/ ∃ t,t < n/\rgt n f p m=.lst (intsD (p t m++p m t))/\¬ Nn (bs (f t m) (f m t)):=by
 unfold rgt;cases hb:aS (mX f p m) [] (List.range n) with
 | none=>exact .inl rfl
 | some d =>
  obtain ⟨a,x,b,e,h2,_⟩:=br hb;have hx:x < n:=by have:=bH e;omega
  unfold mX at h2;split at h2
  . cases h2
  . rename_i q;cases h2;exact .inr ⟨x,hx,rfl,fun z=>q (nn_kp.mpr z)⟩
theorem xU {c:Nat->Nat->Bn} (h:∀ i j,Bk 2000 (c i j)):∀ (m i j:Nat),Bk (2000+m) (dm c m i j)
 | 0,i,j=>h i j
 | m+1,i,j=>by
  rcases ly (c:=c) m i j with e | e
  . rw [e];exact (xU h m i j).mono (by omega)
  . rw [e];exact (xU h m i m).sum (xU h m m j)
structure St (n:Nat) (c:Nat->Nat->Bn) (m:Nat):Prop where
 fw:Fw c n m
 wy:∀ i j,i < n->j < n->Way c n m i j (pw c m i j)
 dg:∀ i,i < n->pw c m i i=[i]
theorem wJ {n:Nat} {c:Nat->Nat->Bn} (h:∀ i,i < n->c i i=b0):St n c 0:=⟨Da h,fun i j _ _=>zp i j,fun _ _=>rfl⟩
theorem wK {n m:Nat} {c:Nat->Nat->Bn} (s:St n c m) (hm:m < n) (ok:∀ i,i < n->Nn (bs (dm c m i m) (dm c m m i))):St n c (m+1):=by
 refine ⟨Db s.fw hm ok,fun i j hi hj=>?_,fun i hi=>?_⟩
 . show Way c n (m+1) i j (ldP (dm c m) (pw c m) m i j);unfold ldP;cases q:tgt (bs (dm c m i m) (dm c m m j)) (dm c m i j) with
   | true=>rw [if_pos rfl];exact BO s.fw hm hi hj (s.wy i m hi hm) (s.wy m j hm hj) (ok i hi) q
   | false =>
    rw [if_neg (by decide)]
    exact zq (s.wy i j hi hj) (if_neg (by rw [q];decide))
 . show ldP (dm c m) (pw c m) m i i=_;unfold ldP;have:=ok i hi;unfold Nn Le at this;rw [s.fw.dia i hi,this,if_neg (by decide)]
   exact s.dg i hi
theorem St.len {n m:Nat} {c:Nat->Nat->Bn} (s:St n c m) (hm:m<=n) (i j:Nat) (hi:i < n) (hj:j < n):(pw c m i j).length<=n:=by
 by_cases h:i=j
 . subst h;rw [s.dg i hi];show 1<=n;omega
 . have nd:=List.nodup_append.mp ((s.wy i j hi hj).nd h);exact gy n _ nd.1 ((s.wy i j hi hj).lt hi hm)
theorem St.rt {n m:Nat} {c:Nat->Nat->Bn} (s:St n c m) (hb:∀ i j,Bk 2000 (c i j)) (hn:n<=41) (hm:m < n):BL n (dm c m) (pw c m) m :=
 ⟨hn,hm,fun i j _ _=>(xU hb m i j).mono (by omega),fun i j hi hj=>Nat.le_trans (s.len (by omega) i j hi hj) (by omega)⟩
theorem G1 {T:List (List Bn)} (h:∀ i j,Bk 2000 (ap T i j)) (i j:Nat):Bk 2000 (cz T i j):=by
 unfold cz;split
 . show Sm 2000 0;exact Sm.mono (k:=1) (show (0:Int).natAbs < 2 ^ 1 by decide) (by decide)
 . exact h i j
theorem mD (n:Nat) (T:List (List Bn)):own (cr n T)=true:=by
 unfold cr;cases h1:aS (pD T) [] (List.range n) with
 | some d =>
  obtain ⟨a,x,b,_,h2,_⟩:=br h1;unfold pD at h2;split at h2
  . cases h2
  . cases h2;rfl
 | none =>
  dsimp only;cases h3:aS (mY n (cz T)) [] (List.range n) with
  | some d =>
   obtain ⟨a,x,b,_,h2,_⟩:=br h3;unfold mY at h2;rcases lH (n:=n) (m:=x) (dm (cz T) x) (pw (cz T) x) with e | ⟨t,_,e,_⟩
   . rw [e] at h2;cases h2
   . rw [e] at h2;cases h2;show (true && (own (.lst _) && true))=true;rw [own,eZ];rfl
  | none =>
   show (true && (own (aE _) && true))=true;rw [cm];rfl
theorem zw {δ:DS} {i j:Nat} {G:List D->Option (D×D)} {g:FA} {xs ys es:List D} {d0 d1:D} (h1:δ[i]? = some (some (.lst xs))) (h2:δ[j]? = some (some (.lst ys))) (h3:g δ=some es) (h4:G (.lst xs :: .lst ys :: es)=some (d0,d1)) (h5:bG es=true) (h6:own d0=true) (h7:own d1=true) (h8:i ≠ j):oj i j G g δ=some (.nx ((δ.set i (some d0)).set j (some d1))):=by
 unfold oj;simp only [h1,h2,h3,h4,Zc,h5,h6,h7,ne_eq,h8,not_false_eq_true,and_self,if_true]
def gR (ds:List D) (d:D):Prop:=∃ (d0:D) (T:List (List Bn)) (n:Nat),IsT d0 T/\Sq T n/\n<=41/\(∀ i j,Bk 2000 (ap T i j))/\ds=[d0]/\d=cr n T
theorem lu {d0:D} {T:List (List Bn)} {n:Nat} (h:IsT d0 T) (hs:Sq T n) (hn:n<=41) (hb:∀ i j,Bk 2000 (ap T i j)):fn gR [d0]=some (cr n T):=bN (fun d' h'=>by
 obtain ⟨d1,U,m,g,gs,_,_,h2,rfl⟩:=h';cases h2;have:=h.inj g;subst this;rw [<- hs.len,<- gs.len]) ⟨d0,T,n,h,hs,hn,hb,rfl,rfl⟩
def prv (r:List Nat) (k:Nat):Nat:=if k=0 then r.length - 1 else k - 1
def tot (T:List (List Bn)) (r:List Nat):Nat->Bn
 | 0=>b0
 | k+1=>bs (tot T r k) (ap T (r.getD (prv r k) 0) (r.getD k 0))
theorem k9:∀ (r:List Nat),gK (intsD r)=some (r.map fun (k:Nat)=>(k:Int))
 | []=>rfl
 | k :: r=>by
  show (gK (intsD r)).map ((k:Int) :: ·)=_;rw [k9 r];rfl
theorem Fb {xs:List D} {d:D} (h:xs[xs.length - 1]? = some d):L2.atI xs (-1)=some d:=by
 have hl:=(ZE.mp h).1;unfold L2.atI L2.ixN;rw [if_neg (by decide),if_pos (by omega)]
 have e:((-1:Int)+(xs.length:Int)).toNat=xs.length - 1:=by omega
 show xs[((-1:Int)+(xs.length:Int)).toNat]? = _;rw [e];exact h
theorem vi {n:Nat} {c:Nat->Nat->Bn} (hd:∀ i,i < n->c i i=b0):∀ m,m<=n->(∀ k,k < m->rgt n (dm c k) (pw c k) k=.non)->St n c m
 | 0,_,_=>wJ hd
 | m+1,hm,h=>wK (vi hd m (by omega) fun k hk=>h k (by omega)) (by omega) (wV (h m (by omega)))
theorem DC {k:Nat} {fm:FM} {δ δ':DS} {ds:List D} {d:D} (h:fm δ=some (.tup ds,δ')) (g:ds[k]? = some d):BQ k fm δ=some (d,δ'):=by
 unfold BQ;rw [h];show (ds[k]?).map _=_;rw [g];rfl
def opD:Option (Int×Int)->D
 | none=>.non
 | some p=>fr p
theorem nL {p q:Int×Int} (h:fr p=fr q):p=q:=by
 obtain ⟨a,b⟩:=p;obtain ⟨c,e⟩:=q;cases h;rfl
theorem xp {a b:Option (Int×Int)} (h:opD a=opD b):a=b:=by
 cases a with
 | none=>cases b with
  | none=>rfl
  | some q=>cases h
 | some p=>cases b with
  | none=>cases h
  | some q=>rw [nL h]
abbrev Hs (o:Option (Int×Int)):Prop:=∀ p,o=some p->Fr 1900 p
def gz (ds:List D) (d:D):Prop:=∃ lo hi,Hs lo/\Hs hi/\ds=[opD lo,opD hi]/\d=fr (btw lo hi)
theorem lY {lo hi:Option (Int×Int)} (h1:Hs lo) (h2:Hs hi):fn gz [opD lo,opD hi]=some (fr (btw lo hi)):=bN (fun d' h'=>by
 obtain ⟨a,b,_,_,e,rfl⟩:=h';injection e with e1 e2
 injection e2 with e2 _
 rw [xp e1,xp e2]) ⟨lo,hi,h1,h2,rfl,rfl⟩
def gQ (ds:List D) (d:D):Prop:=∃ (x:D) (ps:List (Int×Int)),asL x=some (ps.map fr)/\(∀ p∈ps,Fk p)/\ds=[x]/\d=opD (gre ps none)
def sW (ds:List D) (d:D):Prop:=∃ (x:D) (ps:List (Int×Int)),asL x=some (ps.map fr)/\(∀ p∈ps,Fk p)/\ds=[x]/\d=opD (lea ps none)
theorem pc {x:D} {ps:List (Int×Int)} (hx:asL x=some (ps.map fr)) (h:∀ p∈ps,Fk p):fn gQ [x]=some (opD (gre ps none)):=bN (fun d' h'=>by
 obtain ⟨y,a,hy,_,e,rfl⟩:=h';injection e with e1 _
 subst e1;rw [hx] at hy;injection hy with hy
 rw [nJ hy]) ⟨x,ps,hx,h,rfl,rfl⟩
theorem Dk {x:D} {ps:List (Int×Int)} (hx:asL x=some (ps.map fr)) (h:∀ p∈ps,Fk p):fn sW [x]=some (opD (lea ps none)):=bN (fun d' h'=>by
 obtain ⟨y,a,hy,_,e,rfl⟩:=h';injection e with e1 _
 subst e1;rw [hx] at hy;injection hy with hy
 rw [nJ hy]) ⟨x,ps,hx,h,rfl,rfl⟩
def plD (ps:Pl):D:=.mf (ps.map fun p=>((p.1:Nat):Int)) (ps.map fun p=>fr p.2)
theorem oa:∀ (ps:Pl),shs (ps.map fun p=>fr p.2)=ps.map fun p=>fr p.2
 | []=>rfl
 | p :: ps=>by
  show sh (fr p.2) :: shs (ps.map fun p=>fr p.2)=_
  rw [oa ps];rfl
theorem vk (ps:Pl):sh (plD ps)=plD ps:=by unfold plD;rw [sh,oa]
theorem rQ:∀ {ps qs:Pl},plD ps=plD qs->ps=qs
 | [],[],_=>rfl
 | [],_ :: _,h=>by injection h with h _;cases h
 | _ :: _,[],h=>by injection h with h _;cases h
 | p :: ps,q :: qs,h=>by
  injection h with h1 h2
  rw [Zr,Zr] at h1 h2;injection h1 with a1 a2
  injection h2 with b1 b2
  have e:=rQ (ps:=ps) (qs:=qs) (by unfold plD;rw [a2,b2])
  have e1:p.1=q.1:=by omega
  have e2:p.2=q.2:=nL b1;rw [e,show p=q from Prod.ext e1 e2]
theorem xv:∀ {ps:Pl} {t:Nat} {v:Int×Int},(ps.map (·.1)).Nodup->(t,v)∈ps->lk (ps.map fun p=>((p.1:Nat):Int)) (ps.map fun p=>fr p.2) (t:Int)=some (fr v)
 | [],_,_,_,m=>by cases m
 | p :: ps,t,v,nd,m=>by
  rw [Zr,List.nodup_cons] at nd;rw [Zr,Zr,sa];rcases Zq.mp m with z | z
  . rw [<- z,if_pos rfl]
  . have h:p.1 ≠ t:=fun e=>nd.1 (Zn.mpr ⟨_,z,e.symm⟩)
    rw [if_neg (by omega)]
    exact xv nd.2 z
theorem A4 {ps:Pl} {t:Nat} {v:Int×Int} (nd:(ps.map (·.1)).Nodup) (m:(t,v)∈ps):uB (plD ps) (.int (t:Int))=some (fr v):=xv nd m
theorem mF {α:Type} {F:D->Option (Option D)} {f:α->D} {h:α->Option D}:∀ {xs:List α},(∀ x∈xs,F (f x)=some (h x))->iP F (xs.map f)=some (xs.filterMap h)
 | [],_=>rfl
 | x :: xs,q=>by
  rw [Zr,List.filterMap_cons];have ih:=mF (F:=F) (f:=f) (h:=h) (xs:=xs) fun y m=>q y (Zl _ m)
  have e:=q x Zk;show ((F (f x)).bind _)=_;rw [e];show ((iP F (xs.map f)).bind _)=_;rw [ih];cases h x <;> rfl
theorem jU {α:Type} {src:FA} {n:Nat} {js:List Nat} {g:D->DS->Option DS} {fc:FT} {felt:FM} {δ:DS} {f:α->D} {h:α->Option D} {xs:List α} (hs:src δ=some (xs.map f)) (ht:∀ x∈xs,gB n js g fc felt δ (f x)=some (h x)) (hl:xs.length<=1000):nU src n js g fc felt δ=some (.lst (xs.filterMap h),δ):=by
 unfold nU;rw [hs];show ((iP (gB n js g fc felt δ) (xs.map f)).bind _)=_;rw [mF ht];exact if_pos (Nat.le_trans (List.length_filterMap_le _ _) hl)
theorem tj {n:Nat} {js:List Nat} {g:D->DS->Option DS} {fc:FT} {felt:FM} {δ δ1:DS} {d:D} (h1:g d (fQ n (bv js δ))=some δ1) (h2:fc δ1=some false):gB n js g fc felt δ d=some none:=by
 unfold gB;rw [h1];show ((fc δ1).bind _)=_;rw [h2];rfl
structure Vb (T:List (List Bn)) (n:Nat) (ps:Pl) (t:Nat):Prop where
 sq:Sq T n
 ht:t < n
 lt:∀ p∈ps,p.1 < n
 nd:(ps.map (·.1)).Nodup
 len:ps.length<=41
 fr:∀ p∈ps,Fr 900 p.2
 bd:∀ i j,Bk 850 (ap T i j)
def cJ (ds:List D) (d:D):Prop:=∃ T n ps t,Vb T n ps t/\ds=[ax T,plD ps,.int ((t:Nat):Int)]/\d=fr (dO (ap T) ps t)
theorem o8 {T:List (List Bn)} {n:Nat} {ps:Pl} {t:Nat} (h:Vb T n ps t):fn cJ [ax T,plD ps,.int ((t:Nat):Int)]=some (fr (dO (ap T) ps t)):=bN (fun d' h'=>by
 obtain ⟨T',n',ps',t',_,e,rfl⟩:=h';injection e with e1 e
 injection e with e2 e
 injection e with e3 _
 injection e3 with e3
 rw [nV e1,rQ e2,show t=t' by omega]) ⟨T,n,ps,t,h,rfl,rfl⟩
theorem Bg {n:Int} (h:Sm 850 n):Flw (n,1):=⟨⟨by show (0:Int) < 1;decide,h.mono (by decide),Nat.one_lt_two_pow (by decide)⟩,(gM (M:=n.natAbs) (by omega) (by omega) (W:=1) (by decide)).lw⟩
theorem vW {n:Int} (h:Sm 850 n):Fr 900 (n,1):=⟨(gM (M:=n.natAbs) (by omega) (by omega) (W:=1) (by decide)).lw,h.mono (by decide),Nat.one_lt_two_pow (by decide)⟩
theorem low_fr {T:List (List Bn)} {n:Nat} {ps:Pl} {t:Nat} (h:Vb T n ps t):∀ g∈dN (ap T) ps t,Fr 1900 g:=fun g m=>by
 obtain ⟨p,mp,e⟩:=List.mem_filterMap.mp m;have b:=h.bd p.1 t;rcases q:ap T p.1 t with _ | ⟨k,s⟩
 . rw [q] at e;cases e
 . rw [q] at e b;cases e;exact ((h.fr p mp).mi (vW b)).mono (by decide)
theorem C6 {T:List (List Bn)} {n:Nat} {ps:Pl} {t:Nat} (h:Vb T n ps t):∀ g∈dc (ap T) ps t,Fr 1900 g:=fun g m=>by
 obtain ⟨p,mp,e⟩:=List.mem_filterMap.mp m;have b:=h.bd t p.1;rcases q:ap T t p.1 with _ | ⟨k,s⟩
 . rw [q] at e;cases e
 . rw [q] at e b;cases e;exact ((h.fr p mp).pl (vW b)).mono (by decide)
def plO (ps:Pl):D:=.md (ps.map fun p=>((p.1:Nat):Int)) (ps.map fun p=>fr p.2)
def plS (ps:Pl):D:=.ms (ps.map fun p=>((p.1:Nat):Int)) (ps.map fun p=>fr p.2)
theorem zz (ps:Pl):sh (plO ps)=plS ps:=by unfold plO plS;rw [sh,oa]
theorem Cm {ps qs:Pl} (h:plS ps=plS qs):ps=qs:=rQ (by injection h with h1 h2;unfold plD;rw [h1,h2])
theorem qM:∀ (ps:Pl),bG (ps.map fun p=>fr p.2)=true
 | []=>rfl
 | p :: ps=>by
  show (imm (fr p.2) && bG (ps.map fun p=>fr p.2))=true
  rw [qM ps];rfl
theorem vO:∀ (ps:Pl) (t:Nat),(lk (ps.map fun p=>((p.1:Nat):Int)) (ps.map fun p=>fr p.2) (t:Int)).isSome=decide (has ps t)
 | [],t=>by
  rw [decide_eq_false (fun ⟨v,m⟩=>nomatch m)];rfl
 | p :: ps,t=>by
  rw [Zr,Zr,sa]
  by_cases h:p.1=t
  . rw [if_pos (by omega),decide_eq_true (show has (p :: ps) t from ⟨p.2,by rw [<- h];exact Zk⟩)];rfl
  . rw [if_neg (by omega),vO ps t]
    by_cases g:has ps t
    . obtain ⟨v,m⟩:=g;rw [decide_eq_true (show has ps t from ⟨v,m⟩),decide_eq_true (show has (p :: ps) t from ⟨v,Zl _ m⟩)]
    . rw [decide_eq_false g,decide_eq_false fun ⟨v,m⟩=>by
       rcases Zq.mp m with z | z
       . exact h (by rw [<- z])
       . exact g ⟨v,z⟩]
structure Fi (T:List (List Bn)) (n:Nat) (ps:Pl):Prop where
 sq:Sq T n
 n0:0 < n
 n1:n<=41
 vb:∀ m,m < n->Vb T n (bj (ap T) ps m) m
 fr:∀ p∈bj (ap T) ps n,Fr 900 p.2
 nd:((bj (ap T) ps n).map (·.1)).Nodup
 all:∀ t,t < n->has (bj (ap T) ps n) t
def fpt (T:List (List Bn)) (n:Nat) (ps:Pl):List (Int×Int):=(List.range (n - 1)).map fun i=>mi (atP (bj (ap T) ps n) (i+1)) (atP (bj (ap T) ps n) 0)
def jA (ds:List D) (d:D):Prop:=∃ d0 d1 T n ps,IsT d0 T/\sh d1=plS ps/\Fi T n ps/\ds=[d0,d1]/\d=.lst ((fpt T n ps).map fr)
theorem pd {d0 d1:D} {T:List (List Bn)} {n:Nat} {ps:Pl} (h0:IsT d0 T) (h1:sh d1=plS ps) (h:Fi T n ps):fn jA [d0,d1]=some (.lst ((fpt T n ps).map fr)):=bN (fun d' h'=>by
 obtain ⟨e0,e1,T',n',ps',g0,g1,g,e,rfl⟩:=h';injection e with a1 e
 injection e with a2 _
 subst a1 a2;have t1:=IsT.inj h0 g0;subst t1;have t2:=Cm (h1.symm.trans g1);subst t2;have t3:n=n':=h.sq.len.symm.trans g.sq.len;subst t3;rfl) ⟨d0,d1,T,n,ps,h0,h1,h,rfl,rfl⟩
theorem yk {g:FA} {δ:DS} {i j:Int} (h:g δ=some [.int i,.int j]) (h0:0<=i) (h1:i<=1000) (h2:0<=j) (h3:j<=1000):p7 g δ=some ((List.range (j - i).toNat).map fun k=>D.int (i+((k:Nat):Int))):=by
 unfold p7;rw [h];show (if -(2 ^ 62)<=i/\i < 2 ^ 62/\-(2 ^ 62)<=j/\j < 2 ^ 62 then some ((List.range (j - i).toNat).map fun k=>D.int (i+((k:Nat):Int))) else none)=_
 rw [if_pos (by omega)]
theorem yj {g:FA} {δ:DS} {n:Nat} (h:g δ=some [.int 1,.int (n:Int)]) (h0:0 < n) (h1:n<=1000):p7 g δ=some ((List.range (n - 1)).map fun (i:Nat)=>D.int (((i+1:Nat)):Int)):=by
 rw [yk h (by decide) (by decide) (by omega) (by omega),show ((n:Int) - 1).toNat=n - 1 by omega]
 refine congrArg some (List.map_congr_left fun i _=>?_)
 rw [show (1:Int)+((i:Nat):Int)=((i+1:Nat):Int) by omega]
theorem Dg {d:Nat->Nat->Bn} {ps:Pl} {m:Nat} (h:¬ has (bj d ps m) m):bj d ps (m+1)=bj d ps m++[(m,dO d (bj d ps m) m)]:=if_neg h
theorem Bi {d:Nat->Nat->Bn} {ps:Pl} {m:Nat} (h:has (bj d ps m) m):bj d ps (m+1)=bj d ps m:=if_pos h
theorem yR {d:Nat->Nat->Bn} {n:Nat} (dia:∀ i,i < n+1->d i i=b0):u9 d (n+1) [(0,(0,1))] (fun _=>0):=by
 refine ⟨fun p m=>?_,by simp,fun p m=>?_,fun p m=>?_,fun p mp q mq=>?_⟩
 . rw [Zm.mp m];exact Nat.succ_pos n
 . rw [Zm.mp m];show (0:Int) < 1;decide
 . rw [Zm.mp m];show (0:Rat)=vl (0,1);rw [cv];rfl
 . rw [Zm.mp mp,Zm.mp mq];show Kq (0 - 0) (d 0 0);rw [dia 0 (Nat.succ_pos n)];show (0:Rat) - 0<=((0:Int):Rat)
   grind
theorem sM {k:Nat} {c:Nat->Nat->Bn} (h:∀ i j,Bk k (c i j)):∀ (m i j:Nat),Bk (k+m) (dm c m i j)
 | 0,i,j=>h i j
 | m+1,i,j=>by
  rcases ly (c:=c) m i j with e | e
  . rw [e];exact (sM h m i j).mono (by omega)
  . rw [e];exact (sM h m i m).sum (sM h m m j)
theorem Fo {k:Nat} (hk:1<=k) {T:List (List Bn)} (h:∀ i j,Bk k (ap T i j)) (i j:Nat):Bk k (cz T i j):=by
 unfold cz;split
 . show Sm k 0;exact Sm.mono (k:=1) (show (0:Int).natAbs < 2 ^ 1 by decide) hk
 . exact h i j
theorem Dv {k n:Nat} {f:Nat->Nat->Bn} (h:∀ i j,Bk k (f i j)) (i j:Nat):Bk k (ap (aD n f) i j):=by
 unfold ap;rw [Zs,Zs];cases q:(aD n f)[i]? with
 | none=>trivial
 | some r =>
  rw [Option.getD_some];have m:=List.mem_of_getElem? q;unfold aD at m;obtain ⟨a,_,rfl⟩:=Zn.mp m;cases p:(om n (f a))[j]? with
  | none=>trivial
  | some b =>
   have m2:=List.mem_of_getElem? p;unfold om at m2;obtain ⟨c,_,rfl⟩:=Zn.mp m2;exact h a c
theorem BG {k:Nat} {b:Bn} (h:Bk k b):Bo (2 ^ k) b:=by
 rcases b with _ | ⟨n,s⟩
 . trivial
 . have h':n.natAbs < 2 ^ k:=h;have c1:((2 ^ k:Nat):Int)=2 ^ k:=by rw [Int.natCast_pow];rfl
   show -(2 ^ k)<=n/\n<=2 ^ k;omega
structure Cld (n:Nat) (T U:List (List Bn)):Prop where
 sq:Sq U n
 cl:cr n T=.tup [.str "table",aE U]
 dia:∀ i,i < n->ap U i i=b0
 clo:∀ k i j,k < n->i < n->j < n->Le (ap U i j) (bs (ap U i k) (ap U k j))
 li:∀ x,Li (ap T) n x <-> Li (ap U) n x
 is:U=aD n (dm (cz T) n)
theorem AM {c d:Nat->Nat->Bn} {n:Nat} {x:Nat->Rat} (e:∀ i j,i < n->j < n->c i j=d i j):Li c n x <-> Li d n x :=
 ⟨fun h i j hi hj=>by rw [<- e i j hi hj];exact h i j hi hj,fun h i j hi hj=>by rw [e i j hi hj];exact h i j hi hj⟩
theorem DV {T:List (List Bn)} {n:Nat} {x:Nat->Rat} (dg:∀ i,i < n->Nn (ap T i i)):Li (ap T) n x <-> Li (cz T) n x:=by
 constructor
 . intro h i j hi hj;unfold cz;split
   . rename_i e;subst e;show x i - x i<=((0:Int):Rat)
     grind
   . exact h i j hi hj
 . intro h i j hi hj;have:=h i j hi hj;unfold cz at this;split at this
   . rename_i e;subst e;have e2:x i - x i=0:=by grind
     rw [e2,k6];exact dg i hi
   . exact this
theorem wf (T:List (List Bn)) (n:Nat):(∃ r,cr n T=.tup [.str "ring",.lst (intsD r)]/\∀ x,¬ Li (ap T) n x) \/ ∃ U,Cld n T U:=by
 cases h1:aS (pD T) [] (List.range n) with
 | some d =>
  obtain ⟨a,t,b,e,h2,_⟩:=br h1;have ht:t < n:=by have:=bH e;omega
  unfold pD at h2;split at h2
  . cases h2
  . rename_i q;cases h2;refine .inl ⟨[t],?_,fun x hx=>q (nn_kp.mpr (CT ht hx))⟩
    unfold cr;rw [h1];rfl
 | none =>
  have dg:∀ i,i < n->Nn (ap T i i):=fun i hi=>by
   obtain ⟨a,b,e⟩:=List.append_of_mem (Zo.mpr hi);have:=fG h1 a i b e;unfold pD at this;split at this
   . rename_i q;exact nn_kp.mp q
   . cases this
  have hd:∀ i,i < n->cz T i i=b0:=fun i _=>if_pos rfl
  cases h3:aS (mY n (cz T)) [] (List.range n) with
  | some d =>
   obtain ⟨a,m,b,e,h2,h4⟩:=br h3;obtain ⟨rfl,hm⟩:=bH e;generalize a.length=m at *
   unfold mY at h2;rcases lH (n:=n) (m:=m) (dm (cz T) m) (pw (cz T) m) with z | ⟨t,ht,z,bad⟩
   . rw [z] at h2;cases h2
   . rw [z] at h2;cases h2;refine .inl ⟨pw (cz T) m t m++pw (cz T) m m t,?_,fun x hx=>GJ hm ht bad ((DV dg).mp hx)⟩
     unfold cr;rw [h1];dsimp only;rw [h3]
  | none =>
   have ok:∀ k,k < n->rgt n (dm (cz T) k) (pw (cz T) k) k=.non:=fun k hk=>by
    obtain ⟨a,b,e⟩:=List.append_of_mem (Zo.mpr hk);have:=fG h3 a k b e;unfold mY at this;rcases lH (n:=n) (m:=k) (dm (cz T) k) (pw (cz T) k) with z | ⟨t,_,z,_⟩
    . exact z
    . rw [z] at this;cases this
   have st:=vi hd n (ZG n) ok;have ec:∀ i j,i < n->j < n->ap (aD n (dm (cz T) n)) i j=dm (cz T) n i j:=fun i j hi hj=>bq _ hi hj
   refine .inr ⟨aD n (dm (cz T) n),bu n _,?_,fun i hi=>?_,fun k i j hk hi hj=>?_,fun x=>?_,rfl⟩
   . unfold cr;rw [h1];dsimp only;rw [h3]
   . rw [ec i i hi hi];exact st.fw.dia i hi
   . rw [ec i j hi hj,ec i k hi hk,ec k j hk hj];exact st.fw.clo k hk i j hi hj
   . rw [DV dg,AM ec];exact ⟨fun h=>AL h n (ZG n),AK⟩
theorem Cld.bk {n k:Nat} {T U:List (List Bn)} (c:Cld n T U) (hk:1<=k) (h:∀ i j,Bk k (ap T i j)) (i j:Nat):Bk (k+n) (ap U i j):=by
 rw [c.is];exact Dv (sM (Fo hk h) n) i j
structure Beg (U:List (List Bn)) (n:Nat) (ps:Pl):Prop where
 good:∃ x,u9 (ap U) n ps x
 dy:∃ W M:Int,0 < W/\0<=M/\W<=2 ^ 240/\M<=2 ^ 602/\∀ p∈ps,Dy W M p.2
theorem qO {U:List (List Bn)} {ps:Pl} {n:Nat} (bk:∀ i j,Bk 600 (ap U i j)) (b:Beg U n ps) (m:Nat) (hm:m<=41):∃ W M:Int,W<=2 ^ 281/\M<=2 ^ 607/\∀ p∈bj (ap U) ps m,Dy W M p.2:=by
 obtain ⟨W,M,h1,h2,h3,h4,h5⟩:=b.dy;have p1:(0:Int) < 2 ^ 600:=cM 600;have f:=xM h1 (Int.le_of_lt p1) h2 (fun i j=>BG (bk i j)) h5 m
 refine ⟨_,_,?_,?_,f⟩
 . have e1:(2:Int) ^ m<=2 ^ 41:=by
    have:=Nat.pow_le_pow_right (n:=2) (by decide) hm
    have c1:((2 ^ m:Nat):Int)=2 ^ m:=by rw [Int.natCast_pow];rfl
    have c2:((2 ^ 41:Nat):Int)=2 ^ 41:=by rw [Int.natCast_pow];rfl
    omega
   have e2:W*2 ^ m<=W*2 ^ 41:=Int.mul_le_mul_of_nonneg_left e1 (Int.le_of_lt h1);have e3:W*2 ^ 41<=2 ^ 240*2 ^ 41:=Int.mul_le_mul_of_nonneg_right h3 (Int.le_of_lt (cM 41));have e4:(2:Int) ^ 240*2 ^ 41=2 ^ 281:=by rw [<- Int.pow_add]
   omega
 . have e1:(m:Int)*(2 ^ 600+1)<=41*(2 ^ 600+1):=Int.mul_le_mul_of_nonneg_right (by omega) (by omega)
   have e4:(2:Int) ^ 607=128*2 ^ 600:=by rw [show (607:Nat)=7+600 from rfl,Int.pow_add];rfl
   have e5:(2:Int) ^ 602=4*2 ^ 600:=by rw [show (602:Nat)=2+600 from rfl,Int.pow_add];rfl
   rw [e5] at h4;rw [e4];generalize (2:Int) ^ 600=z at *
   omega
theorem DZ {U:List (List Bn)} {n:Nat} {ps:Pl} (sq:Sq U n) (n0:0 < n) (n1:n<=41) (bk:∀ i j,Bk 600 (ap U i j)) (dia:∀ i,i < n->ap U i i=b0) (clo:∀ k i j,k < n->i < n->j < n->Le (ap U i j) (bs (ap U i k) (ap U k j))) (b:Beg U n ps):Fi U n ps:=by
 have g:=fun m hm=>jP dia clo b.good m hm
 have d:=fun m hm=>qO bk b m hm
 refine ⟨sq,n0,n1,fun m hm=>?_,fun p mp=>?_,?_,(g n (ZG n)).2.1⟩
 . obtain ⟨⟨x,gx⟩,_,_⟩:=g m (by omega)
   obtain ⟨W,M,a1,a2,a3⟩:=d m (by omega)
   refine ⟨sq,hm,gx.lt,gx.nd,?_,fun p mp=>Bs (a3 p mp) a1 a2 (by decide),fun i j=>(bk i j).mono (by decide)⟩
   have:=gy n _ gx.nd (fun x m=>by obtain ⟨p,mp,rfl⟩:=Zn.mp m;exact gx.lt p mp)
   rw [Zi] at this;omega
 . obtain ⟨W,M,a1,a2,a3⟩:=d n n1;exact Bs (a3 p mp) a1 a2 (by decide)
 . obtain ⟨⟨x,gx⟩,_,_⟩:=g n (ZG n);exact gx.nd
theorem xx (T:List (List Bn)) (n:Nat) (ps:Pl):(fpt T n ps).length=n - 1:=by unfold fpt;rw [Zi,ZF]
theorem Bc {U:List (List Bn)} {n:Nat} {ps:Pl} (n1:n<=41) (bk:∀ i j,Bk 600 (ap U i j)) (h:Fi U n ps) (b:Beg U n ps):∀ p∈fpt U n ps,Fr 900 p:=fun p m=>by
 unfold fpt at m;obtain ⟨i,mi',rfl⟩:=Zn.mp m;have hi:=Zo.mp mi';obtain ⟨W,M,a1,a2,a3⟩:=qO bk b n n1;obtain ⟨v,mv⟩:=h.all (i+1) (by omega)
 obtain ⟨z,mz⟩:=h.all 0 h.n0;rw [gO h.nd mv,gO h.nd mz];refine Bs (a:=281) (b:=608) ((a3 _ mv).mi (a3 _ mz)) a1 ?_ (by decide)
 have e4:(2:Int) ^ 608=2*2 ^ 607:=by rw [show (608:Nat)=1+607 from rfl,Int.pow_add];rfl
 rw [e4];generalize (2:Int) ^ 607=z at *
 omega
theorem jD {U:List (List Bn)} {n:Nat} {ps:Pl} (h:Fi U n ps) {i:Nat} (hi:i < n):vl (bI (fpt U n ps) i)=vl (mi (atP (bj (ap U) ps n) i) (atP (bj (ap U) ps n) 0)):=by
 cases i with
 | zero =>
  obtain ⟨z,mz⟩:=h.all 0 h.n0;rw [gO h.nd mz];have hp:=(h.fr _ mz).pos;rw [jT hp hp];show vl (0,1)=_;rw [cv];show ((0:Int):Rat)=_;have:((0:Int):Rat)=0:=rfl;rw [this]
  grind
 | succ i =>
  unfold bI eW fpt;rw [List.getD_cons_succ,Zs,ZD,List.getElem?_range (by omega)]
  rfl
theorem xw {T:List (List Bn)} {ps:List (Int×Int)} {k:Nat} (hk:1<=k) (h:∀ p∈ps,Fr k p):se T ps=true <-> Li (ap T) (ps.length+1) (fun i=>vl (bI ps i)):=by
 have key:∀ i j,kp (dif ps i j) (ap T i j)=true <-> Kq (vl (bI ps i) - vl (bI ps j)) (ap T i j):=fun i j=>by
  rw [DW (Dn hk h i j).pos];unfold dif;rw [jT (dr hk h i).pos (dr hk h j).pos]
 unfold se;rw [List.all_eq_true];constructor
 . intro a i j hi hj;have:=a i (Zo.mpr hi);rw [List.all_eq_true] at this;exact (key i j).mp (this j (Zo.mpr hj))
 . intro a i mi;rw [List.all_eq_true];intro j mj;exact (key i j).mpr (a i j (Zo.mp mi) (Zo.mp mj))
theorem uE {U:List (List Bn)} {n:Nat} {ps:Pl} (n1:n<=41) (bk:∀ i j,Bk 600 (ap U i j)) (dia:∀ i,i < n->ap U i i=b0) (clo:∀ k i j,k < n->i < n->j < n->Le (ap U i j) (bs (ap U i k) (ap U k j))) (h:Fi U n ps) (b:Beg U n ps):Li (ap U) n (fun i=>vl (bI (fpt U n ps) i)):=by
 have f:=Dh h.n0 dia clo b.good;intro i j hi hj;have:=f i j hi hj;show Kq (vl (bI (fpt U n ps) i) - vl (bI (fpt U n ps) j)) _;rw [jD h hi,jD h hj];exact this
theorem pB {U:List (List Bn)} {n:Nat} (n0:0 < n) (dia:∀ i,i < n->ap U i i=b0):Beg U n [(0,(0,1))]:=by
 obtain ⟨m,rfl⟩:∃ m,n=m+1:=⟨n - 1,by omega⟩
 have t1:(1:Int)<=2 ^ 240:=by have:=cM 240;omega
 refine ⟨⟨_,yR dia⟩,1,0,by decide,Int.le_refl 0,t1,Int.le_of_lt (cM 602),fun p m=>?_⟩
 rw [Zm.mp m];exact gM (by decide) (by decide) (by decide)
def bh (ds:List D) (d:D):Prop:=∃ (d0:D) (T U:List (List Bn)) (n:Nat),IsT d0 T/\Sq T n/\n<=41/\(∀ i j,Bk 2000 (ap T i j))/\Cld n T U/\ds=[d0]/\d=aE U
theorem dq {d0:D} {T U:List (List Bn)} {n:Nat} (h:IsT d0 T) (hs:Sq T n) (hn:n<=41) (hb:∀ i j,Bk 2000 (ap T i j)) (c:Cld n T U):fn bh [d0]=some (aE U):=bN (fun d' h'=>by
 obtain ⟨d1,T',U',m,g,gs,_,_,c',h2,rfl⟩:=h';cases h2;have:=h.inj g;subst this;have e:m=n:=by rw [<- hs.len,<- gs.len]
 subst e;rw [c.is,c'.is]) ⟨d0,T,U,n,h,hs,hn,hb,c,rfl,rfl⟩
abbrev ps0:Pl:=[(0,(0,1))]
def fE (ds:List D) (d:D):Prop:=∃ (d0:D) (T U:List (List Bn)) (n:Nat),IsT d0 T/\Sq T n/\0 < n/\n<=41/\(∀ i j,Bk 550 (ap T i j))/\Cld n T U/\ds=[d0]/\d=.lst ((fpt U n ps0).map fr)
theorem vY {d0:D} {T U:List (List Bn)} {n:Nat} (h:IsT d0 T) (hs:Sq T n) (n0:0 < n) (hn:n<=41) (hb:∀ i j,Bk 550 (ap T i j)) (c:Cld n T U):fn fE [d0]=some (.lst ((fpt U n ps0).map fr)):=bN (fun d' h'=>by
 obtain ⟨d1,T',U',m,g,gs,_,_,_,c',h2,rfl⟩:=h';cases h2;have:=h.inj g;subst this;have e:m=n:=by rw [<- hs.len,<- gs.len]
 subst e;rw [c.is,c'.is]) ⟨d0,T,U,n,h,hs,n0,hn,hb,c,rfl,rfl⟩
theorem Cld.bk600 {n:Nat} {T U:List (List Bn)} (c:Cld n T U) (hn:n<=41) (h:∀ i j,Bk 550 (ap T i j)) (i j:Nat):Bk 600 (ap U i j):=(c.bk (by decide) h i j).mono (by omega)
theorem Cld.fi {n:Nat} {T U:List (List Bn)} (c:Cld n T U) (n0:0 < n) (hn:n<=41) (h:∀ i j,Bk 550 (ap T i j)):Fi U n ps0:=DZ c.sq n0 hn (c.bk600 hn h) c.dia c.clo (pB n0 c.dia)
open Classical in
noncomputable def gX (S:List D->D->Prop) (B:List D->Prop) (C:Addr):GX:=fun ds=>match fn S ds with
 | some d=>some (.ok d)
 | none=>if B ds then some (.error C) else none
theorem A6 {S:List D->D->Prop} {B:List D->Prop} {C:Addr} {ds:List D} (h:fn S ds=none) (b:B ds):gX S B C ds=some (.error C):=by
 unfold gX;rw [h];exact if_pos b
theorem vT {S:List D->D->Prop} {B:List D->Prop} {C:Addr} {ds:List D} {r:Except Addr D} (h:gX S B C ds=some r):(∃ d,fn S ds=some d/\r=.ok d) \/ (B ds/\r=.error C):=by
 unfold gX at h;split at h
 . rename_i d e;exact .inl ⟨d,e,(ZA h).symm⟩
 . split at h
   . rename_i b;exact .inr ⟨b,(ZA h).symm⟩
   . cases h
theorem xJ {S:List D->D->Prop} {ds:List D} (h:∀ d,¬ S ds d):fn S ds=none:=by
 cases q:fn S ds with
 | none=>rfl
 | some d=>exact absurd (aT q) (h d)
def sX (ds:List D):Prop:=∃ (d0:D) (T:List (List Bn)) (n:Nat) (r:List Nat),IsT d0 T/\Sq T n/\n<=41/\(∀ i j,Bk 2000 (ap T i j))/\cr n T=.tup [.str "ring",.lst (intsD r)]/\ds=[d0]
noncomputable abbrev cq (C:Addr):GX:=gX bh sX C
noncomputable abbrev fL (C:Addr):GX:=gX fE sX C
theorem t6 {n:Nat} {T U:List (List Bn)} {r:List Nat} (c:Cld n T U) (h:cr n T=.tup [.str "ring",.lst (intsD r)]):False:=by
 have:=c.cl.symm.trans h;injection this with this
 injection this with this _
 injection this with this
 exact absurd this (by decide)
theorem EV {ds:List D} (b:sX ds):fn bh ds=none:=xJ fun d h=>by
 obtain ⟨d0,T,n,r,g,gs,_,_,hc,rfl⟩:=b;obtain ⟨d1,T',U',m,g',gs',_,_,c',h2,rfl⟩:=h;cases h2;have:=g.inj g';subst this;have e:m=n:=by rw [<- gs.len,<- gs'.len]
 subst e;exact t6 c' hc
theorem GF {ds:List D} (b:sX ds):fn fE ds=none:=xJ fun d h=>by
 obtain ⟨d0,T,n,r,g,gs,_,_,hc,rfl⟩:=b;obtain ⟨d1,T',U',m,g',gs',_,_,_,c',h2,rfl⟩:=h;cases h2;have:=g.inj g';subst this;have e:m=n:=by rw [<- gs.len,<- gs'.len]
 subst e;exact t6 c' hc
abbrev okN (N:Addr):Addr->Bool:=fun C=>C == N
structure EOk (e:Int×Int):Prop where
 p1:0 < e.1
 fr:Fr 240 e
 sm:e.1*e.2<=2 ^ 230
theorem EOk.p2 {e:Int×Int} (h:EOk e):0 < e.2:=h.fr.pos
def fM (ds:List D) (d:D):Prop:=∃ (bound back:Bn) (e:Int×Int),Bk 800 bound/\Bk 800 back/\EOk e/\ds=[bdD bound,bdD back,fr e]/\d=fr (ig bound back e)
theorem uM {bound back:Bn} {e:Int×Int} (h1:Bk 800 bound) (h2:Bk 800 back) (h3:EOk e):fn fM [bdD bound,bdD back,fr e]=some (fr (ig bound back e)):=bN (fun d' h'=>by
 obtain ⟨b',k',e',_,_,_,q,rfl⟩:=h';injection q with q1 q
 injection q with q2 q
 injection q with q3 _
 rw [hR q1,hR q2,nL q3]) ⟨bound,back,e,h1,h2,h3,rfl,rfl⟩
theorem nK {n:Int} (h:Sm 800 n):Fr 900 (n,1):=vW (h.mono (by decide))
theorem CS {back:Bn} (h:Bk 800 back):∀ p∈eR back,Fr 900 p:=fun p m=>by
 rcases back with _ | ⟨k,s⟩
 . cases m
 . rw [Zm.mp m];exact nK (show Sm 800 (-k) from Sm.neg h)
theorem Fd {e:Int×Int} (h:EOk e):Fr 900 (low e.2 e.1):=(Mth.low_fr (by have:=h.p1;omega) h.fr.s2 h.fr.s1).mono (by decide)
theorem xZ (xs ys:List (Int×Int)) (h:xs.length+ys.length<=1000):jd (.lst (xs.map fr)) (.lst (ys.map fr))=some (.lst ((xs++ys).map fr)):=by
 rw [List.map_append];show (yW (.lst (xs.map fr)) (.lst (ys.map fr)))=_;show (if (xs.map fr).length+(ys.map fr).length<=1000 then some (D.lst (xs.map fr++ys.map fr)) else none)=_
 rw [Zi,Zi,if_pos h]
theorem uf (back:Bn):(eR back).length<=1:=by rcases back with _ | ⟨k,s⟩ <;> simp [eR]
theorem xN {back:Bn} {q:Int×Int} (h:Bk 800 back) (hq:Fr 1801 q):fn gQ [.lst ((eR back++[q]).map fr)]=some (opD (gre (eR back++[q]) none))/\Hs (gre (eR back++[q]) none):=by
 have a:∀ p∈eR back++[q],Fr 1801 p:=fun p m=>by
  rcases Zp.mp m with z | z
  . exact (CS h p z).mono (by decide)
  . rw [Zm.mp z];exact hq
 refine ⟨pc rfl fun p m=>Fk.of (a p m),fun p e=>?_⟩
 rcases iS e with z | z
 . exact (a p z).mono (by decide)
 . cases z
def psF (U:List (List Bn)) (i j:Nat) (e:Int×Int):Pl:=if i=j then [(i,ig (ap U i j) (ap U j i) e)] else [(j,(0,1)),(i,ig (ap U i j) (ap U j i) e)]
theorem Cg (U:List (List Bn)) (i j:Nat) (e:Int×Int):(i,ig (ap U i j) (ap U j i) e)∈psF U i j e:=by
 unfold psF;split
 . exact Zk
 . exact Zl _ Zk
theorem BH (e:Int×Int):ig b0 b0 e=(0,1):=rfl
theorem Hr {U:List (List Bn)} {n i j:Nat} {e:Int×Int} (he:EOk e) (hi:i < n) (hj:j < n) (bk:∀ i j,Bk 600 (ap U i j)) (dia:∀ i,i < n->ap U i i=b0) (clo:∀ k i j,k < n->i < n->j < n->Le (ap U i j) (bs (ap U i k) (ap U k j))):Beg U n (psF U i j e):=by
 have nn:Nn (bs (ap U i j) (ap U j i)):=by
  have:=clo j i i hj hi hi;rw [dia i hi] at this;exact this
 obtain ⟨f1,f2,f3,_⟩:=Bj he.p1 he.p2 nn;obtain ⟨v,hv⟩:∃ v,v=ig (ap U i j) (ap U j i) e:=⟨_,rfl⟩;have fd:=Fl (N:=2 ^ 600) he.p1 he.p2 he.fr.lw (Int.le_of_lt (cM 600)) (BG (bk i j)) (BG (bk j i));rw [<- hv] at f1 f2 f3 fd;have w0:0 < 2*e.1*e.2*2:=by
  have:=Int.mul_pos he.p1 he.p2;have e1:2*e.1*e.2*2=4*(e.1*e.2):=by grind
  omega
 have wl:2*e.1*e.2*2<=2 ^ 240:=by
  have:=he.sm;have e1:2*e.1*e.2*2=4*(e.1*e.2):=by grind
  have e2:(2:Int) ^ 240=1024*2 ^ 230:=by rw [show (240:Nat)=10+230 from rfl,Int.pow_add];rfl
  rw [e1,e2];have:=cM 230;omega
 have ml:(2:Int) ^ 600+e.1+e.2+1<=2 ^ 602:=by
  have h1:e.1*1<=e.1*e.2:=Int.mul_le_mul_of_nonneg_left (by have:=he.p2;omega) (Int.le_of_lt he.p1)
  have h2:1*e.2<=e.1*e.2:=Int.mul_le_mul_of_nonneg_right (by have:=he.p1;omega) (Int.le_of_lt he.p2)
  have h3:=he.sm;have e2:(2:Int) ^ 602=4*2 ^ 600:=by rw [show (602:Nat)=2+600 from rfl,Int.pow_add];rfl
  have e3:(2:Int) ^ 600=2 ^ 370*2 ^ 230:=by rw [<- Int.pow_add]
  have e4:(1:Int)*2 ^ 230<=2 ^ 370*2 ^ 230:=Int.mul_le_mul_of_nonneg_right (by have:=cM 370;omega) (Int.le_of_lt (cM 230))
  have:=cM 230;rw [e2];omega
 have d0:Dy (2*e.1*e.2*2) (2 ^ 600+e.1+e.2+1) (0,1):=gM (by have:=cM 600;have:=he.p1;have:=he.p2;omega) (by have:=cM 600;have:=he.p1;have:=he.p2;omega) w0
 have m0:(0:Int)<=2 ^ 600+e.1+e.2+1:=by have:=cM 600;have:=he.p1;have:=he.p2;omega
 have z0:vl (0,1)=0:=by rw [cv];rfl
 have k0:∀ t,t < n->Kq (0:Rat) (ap U t t):=fun t ht=>by rw [dia t ht];show (0:Rat)<=((0:Int):Rat);exact Rat.le_refl
 unfold psF;rw [<- hv]
 by_cases h:i=j
 . subst h;rw [if_pos rfl];have ev:v=(0,1):=by rw [hv,dia i hi,BH]
   refine ⟨⟨fun _=>0,⟨fun p m=>?_,by simp,fun p m=>?_,fun p m=>?_,fun p mp q mq=>?_⟩⟩,_,_,w0,m0,wl,ml,fun p m=>?_⟩
   . rw [Zm.mp m];exact hi
   . rw [Zm.mp m];exact f1
   . rw [Zm.mp m];show (0:Rat)=vl v;rw [ev,z0]
   . rw [Zm.mp mp,Zm.mp mq];have e2:(0:Rat) - 0=0:=by grind
     rw [e2];exact k0 i hi
   . rw [Zm.mp m];exact fd
 . rw [if_neg h];have ji:j ≠ i:=fun z=>h z.symm
   refine ⟨⟨fun t=>if t=i then vl v else 0,⟨fun p m=>?_,?_,fun p m=>?_,fun p m=>?_,fun p mp q mq=>?_⟩⟩,_,_,w0,m0,wl,ml,fun p m=>?_⟩
   . rcases Zq.mp m with z | z
     . rw [z];exact hj
     . rw [Zm.mp z];exact hi
   . simp [ji]
   . rcases Zq.mp m with z | z
     . rw [z];show (0:Int) < 1;decide
     . rw [Zm.mp z];exact f1
   . rcases Zq.mp m with z | z
     . rw [z];show (if j=i then vl v else 0)=vl (0,1);rw [if_neg ji,z0]
     . rw [Zm.mp z];exact if_pos rfl
   . have s0:(0:Rat) - 0=0:=by grind
     have s1:vl v - 0=vl v:=by grind
     have s2:vl v - vl v=0:=by grind
     rcases Zq.mp mp with z | z
     . rcases Zq.mp mq with y | y
       . rw [z,y];show Kq ((if j=i then vl v else 0) - (if j=i then vl v else 0)) (ap U j j)
         rw [if_neg ji,s0];exact k0 j hj
       . rw [z,Zm.mp y];show Kq ((if j=i then vl v else 0) - (if i=i then vl v else 0)) (ap U j i)
         rw [if_neg ji,if_pos rfl];exact f3
     . rcases Zq.mp mq with y | y
       . rw [Zm.mp z,y];show Kq ((if i=i then vl v else 0) - (if j=i then vl v else 0)) (ap U i j)
         rw [if_neg ji,if_pos rfl,s1];exact f2
       . rw [Zm.mp z,Zm.mp y];show Kq ((if i=i then vl v else 0) - (if i=i then vl v else 0)) (ap U i i)
         rw [if_pos rfl,s2];exact k0 i hi
   . rcases Zq.mp m with z | z
     . rw [z];exact d0
     . rw [Zm.mp z];exact fd
structure Fp (T:List (List Bn)) (n i j:Nat) (e:Int×Int):Prop where
 sq:Sq T n
 n1:n<=41
 hi:i < n
 hj:j < n
 bk:∀ i j,Bk 550 (ap T i j)
 he:EOk e
theorem Fp.beg {T U:List (List Bn)} {n i j:Nat} {e:Int×Int} (h:Fp T n i j e) (c:Cld n T U):Beg U n (psF U i j e):=Hr h.he h.hi h.hj (c.bk600 h.n1 h.bk) c.dia c.clo
theorem Fp.fi {T U:List (List Bn)} {n i j:Nat} {e:Int×Int} (h:Fp T n i j e) (c:Cld n T U):Fi U n (psF U i j e):=DZ c.sq (by have:=h.hi;omega) h.n1 (c.bk600 h.n1 h.bk) c.dia c.clo (h.beg c)
def hU (ds:List D) (d:D):Prop:=∃ (d0:D) (T U:List (List Bn)) (n i j:Nat) (e:Int×Int),IsT d0 T/\Fp T n i j e/\Cld n T U/\ds=[d0,.int (i:Int),.int (j:Int),fr e]/\d=.lst ((fpt U n (psF U i j e)).map fr)
theorem uN {d0:D} {T U:List (List Bn)} {n i j:Nat} {e:Int×Int} (h:IsT d0 T) (f:Fp T n i j e) (c:Cld n T U):fn hU [d0,.int (i:Int),.int (j:Int),fr e]=some (.lst ((fpt U n (psF U i j e)).map fr)):=bN (fun d' h'=>by
 obtain ⟨d1,T',U',m,i',j',e',g,f',c',q,rfl⟩:=h';injection q with q0 q
 injection q with q1 q
 injection q with q2 q
 injection q with q3 _
 injection q1 with q1
 injection q2 with q2
 subst q0;have z1:=h.inj g;subst z1;have z2:i=i':=by omega
 subst z2;have z3:j=j':=by omega
 subst z3;have z4:=nL q3;subst z4;have z5:n=m:=by rw [<- f.sq.len,<- f'.sq.len]
 subst z5;rw [c.is,c'.is]) ⟨d0,T,U,n,i,j,e,h,f,c,rfl,rfl⟩
theorem Cn (U:List (List Bn)) (i j:Nat) (e:Int×Int):plO (psF U i j e)=.md (ptK [((j:Nat):Int)] (i:Int)) (ptV [((j:Nat):Int)] [fr (0,1)] (i:Int) (fr (ig (ap U i j) (ap U j i) e))):=by
 unfold psF plO ptK ptV
 by_cases h:i=j
 . subst h;have hm:((i:Nat):Int)∈[((i:Nat):Int)]:=Zm.mpr rfl;rw [if_pos rfl,if_pos hm,if_pos hm];show D.md [((i:Nat):Int)] [fr _]=D.md [((i:Nat):Int)] [if ((i:Nat):Int)=(i:Int) then fr _ else fr (0,1)]
   rw [if_pos rfl]
 . have hm:¬ ((i:Nat):Int)∈[((j:Nat):Int)]:=fun z=>h (by have:=Zm.mp z;omega)
   rw [if_neg h,if_neg hm,if_neg hm];rfl
theorem Di {T U:List (List Bn)} {n i j:Nat} {e:Int×Int} (h:Fp T n i j e) (c:Cld n T U):vl (bI (fpt U n (psF U i j e)) i) - vl (bI (fpt U n (psF U i j e)) j)=vl (ig (ap U i j) (ap U j i) e):=by
 have fi:=h.fi c;have keepP:=(jP c.dia c.clo (h.beg c).good n (ZG n)).2.2;rw [jD fi h.hi,jD fi h.hj];obtain ⟨z,mz⟩:=fi.all 0 fi.n0;have mi':=keepP _ (Cg U i j e);have e0:=gO fi.nd mz;have e1:=gO fi.nd mi';have pz:=(fi.fr _ mz).pos;have pi':=(fi.fr _ mi').pos;have ej:vl (atP (bj (ap U) (psF U i j e) n) j)=0/\0 < (atP (bj (ap U) (psF U i j e) n) j).2:=by
  by_cases q:i=j
  . subst q;rw [e1,c.dia i h.hi,BH,cv];exact ⟨rfl,by show (0:Int) < 1;decide⟩
  . have mj:(j,((0,1):Int×Int))∈psF U i j e:=by unfold psF;rw [if_neg q];exact Zk
    rw [gO fi.nd (keepP _ mj),cv];exact ⟨rfl,by show (0:Int) < 1;decide⟩
 rw [jT (by rw [e1];exact pi') (by rw [e0];exact pz),jT ej.2 (by rw [e0];exact pz),ej.1,e1]
 grind
def GW (p:Int×Int) (b:Bn) (e:Int×Int):Bool:=match b with
 | none=>decide (p.2*e.2 < p.1*e.1)
 | some (n,false)=>p.1 == n*p.2
 | some (n,true)=>decide (-e.1*p.2 < (p.1 - n*p.2)*e.2)
theorem FS {p q:Int×Int} (hp:0 < p.2) (hq:0 < q.2):vl (dl p q)=vl p - vl q:=by
 unfold dl vl;rw [Rat.divInt_sub_divInt _ _ (by omega) (by omega)]
theorem yY {p:Int×Int} {b:Bn} {e:Int×Int} (hp:0 < p.2) (e1:0 < e.1) (e2:0 < e.2) (h:G6 b e (vl p)):GW p b e=true:=by
 rcases b with _ | ⟨n,s⟩
 . have h':vl (e.2,e.1) < vl p:=h;rw [l6 e1 hp] at h';refine decide_eq_true ?_;have:e.2*p.2 < p.1*e.1:=h';rw [Int.mul_comm p.2];exact this
 . cases s with
   | true =>
    have h':(n:Rat) - vl e < vl p:=h;have a:vl (-e.1,e.2) = -vl e:=by
     unfold vl;rw [Rat.neg_divInt]
    have b:vl (p.1 - n*p.2,p.2)=vl p - (n:Rat):=by
     rw [<- cv n];unfold vl;rw [Rat.divInt_sub_divInt _ _ (by omega) (by show (1:Int) ≠ 0;decide),Int.mul_one,Int.mul_one]
    have l:vl (-e.1,e.2) < vl (p.1 - n*p.2,p.2):=by rw [a,b];grind
    exact decide_eq_true ((l6 (p:=(-e.1,e.2)) (q:=(p.1 - n*p.2,p.2)) e2 hp).mp l)
   | false =>
    have h':vl p=(n:Rat):=h;rw [<- cv n] at h';unfold vl at h';rw [Rat.divInt_eq_divInt_iff (by omega) (by show (1:Int) ≠ 0;decide)] at h'
    show (p.1 == n*p.2)=true;rw [beq_iff_eq];have:p.1*1=n*p.2:=h';omega
def bnd (c k:Int):Bn:=if mxd c k % 16=3 then none else some (if c % 16=7 then c / 16 % (2*10 ^ 50+1) - 10 ^ 50 else mxd c k / 16 % 11 - 5+3*(c % 2),mxd c k / 256 % 3 == 1)
theorem FC (c k:Int):Bk 200 (bnd c k):=by
 unfold bnd;split
 . trivial
 . show Sm 200 _;split
   . exact Sm.of (by omega) (by omega)
   . exact Sm.of (by omega) (by omega)
def eQ (ds:List D) (d:D):Prop:=∃ c k:Int,0<=k/\k < 100000/\ds=[.int c,.int k]/\d=bdD (bnd c k)
theorem sJ {c k:Int} (h:0<=k) (g:k < 100000):fn eQ [.int c,.int k]=some (bdD (bnd c k)):=bN (fun d' h'=>by
 obtain ⟨c',k',_,_,h2,rfl⟩:=h';cases h2;rfl) ⟨c,k,h,g,rfl,rfl⟩
def cB (ds:List D) (d:D):Prop:=∃ (d0:D) (bl:List Bn),sh d0=.seq (az bl)/\bl.length<=41/\ds=[d0]/\d=bdD (sB bl)
theorem pe {d0:D} {bl:List Bn} (h:sh d0=.seq (az bl)) (l:bl.length<=41):fn cB [d0]=some (bdD (sB bl)):=bN (fun d' h'=>by
 obtain ⟨d1,bl',h1,_,h2,rfl⟩:=h';cases h2;rw [h] at h1;injection h1 with h1
 rw [kM h1]) ⟨d0,bl,h,l,rfl,rfl⟩
theorem rE (r:List Bn):sh (.lst (az r))=.seq (az r):=by rw [sh,jG]
theorem B3 (r:List Bn):sh (.seq (az r))=.seq (az r):=by rw [sh,jG]
theorem B4 (r:List Nat):sh (.lst (intsD r))=.seq (intsD r):=by rw [sh,qh]
theorem qI {r s:List Nat} (h:intsD r=intsD s):r=s:=by
 unfold intsD at h;refine List.map_inj_right (fun a b e=>?_) |>.mp h
 injection e with e
 omega
structure Ord (n:Nat) (o:List Nat) (bl:List Bn):Prop where
 n2:2<=n
 n4:n<=41
 ol:o.length=n
 ll:bl.length=n
 lt:∀ x∈o,x < n
 nd:o.Nodup
def kq (ds:List D) (d:D):Prop:=∃ (d0 d1:D) (n:Nat) (o:List Nat) (bl:List Bn),sh d0=.seq (intsD o)/\sh d1=.seq (az bl)/\Ord n o bl/\ds=[d0,d1]/\d=aE (aD n (duB o bl n))
theorem vZ {d0 d1:D} {n:Nat} {o:List Nat} {bl:List Bn} (h:sh d0=.seq (intsD o)) (g:sh d1=.seq (az bl)) (k:Ord n o bl):fn kq [d0,d1]=some (aE (aD n (duB o bl n))):=bN (fun d' h'=>by
 obtain ⟨e0,e1,m,p,cl,h1,g1,k1,h2,rfl⟩:=h';cases h2;rw [h] at h1;rw [g] at g1;injection h1 with h1
 injection g1 with g1
 have a:=qI h1;have b:=kM g1;subst a b;have e:m=n:=by rw [<- k.ol,<- k1.ol]
 rw [e]) ⟨d0,d1,n,o,bl,h,g,k,rfl,rfl⟩
def fW (ds:List D) (d:D):Prop:=∃ (d0 d1:D) (T:List (List Bn)) (n:Nat),IsT d0 T/\IsT d1 T/\Sq T n/\n<=41/\ds=[d0,d1]/\d=.bl true
theorem mW {d0 d1:D} {T:List (List Bn)} {n:Nat} (h:IsT d0 T) (g:IsT d1 T) (s:Sq T n) (l:n<=41):fn fW [d0,d1]=some (.bl true):=bN (fun d' h'=>by
 obtain ⟨_,_,_,_,_,_,_,_,_,rfl⟩:=h';rfl) ⟨d0,d1,T,n,h,g,s,l,rfl,rfl⟩
def fV (ds:List D) (d:D):Prop:=sX ds/\d=.bl true
theorem mV {ds:List D} (h:sX ds):fn fV ds=some (.bl true):=bN (fun d' h'=>h'.2) ⟨h,rfl⟩
def fF (ds:List D) (d:D):Prop:=∃ (d0:D) (T U:List (List Bn)) (n i j:Nat) (e:Int×Int),IsT d0 T/\Fp T n i j e/\Cld n T U/\ds=[d0,.int (i:Int),.int (j:Int),bdD (ap U i j),fr e]/\d=.bl true
theorem lZ {d0:D} {T U:List (List Bn)} {n i j:Nat} {e:Int×Int} (h:IsT d0 T) (f:Fp T n i j e) (c:Cld n T U):fn fF [d0,.int (i:Int),.int (j:Int),bdD (ap U i j),fr e]=some (.bl true):=bN (fun d' h'=>by
 obtain ⟨_,_,_,_,_,_,_,_,_,_,_,rfl⟩:=h';rfl) ⟨d0,T,U,n,i,j,e,h,f,c,rfl,rfl⟩
theorem zg:bootBuiltins "dict" = some (.type "dict"):=by decide +kernel
structure G7 (K:Zu) (cW cP w1 w2 w3 w4 w5 w6:Addr):Prop where
 ek:va K cP
 x:PySem.W.excIn K cP [.type "ValueError",.type "Exception",.type "BaseException",.type "object"] "ValueError.__new__" = true
 wc:PySem.W.isClsIn K cW=true
 wt:PySem.W.typeIn K (.ref cW)=some (.type "type")
 wb:PySem.W.subIn K (.ref cW) (.type "BaseException")=some true
 nw:PySem.W.subIn K (.ref cP) (.ref cW)=some true
 kn:PySem.W.kitOne K (.ref cP) (.ref cP)=some true
 kv:PySem.W.kitOne K (.ref cP) (.type "ValueError")=some true
 ka:PySem.W.kitAny K (.ref cP) [.ref w1,.ref w2,.ref w3,.ref w4,.ref w5,.ref w6]=some false
theorem CH {K:Zu} {cP cW:Addr} (h:PySem.W.subIn K (.ref cP) (.ref cW)=some true):∀ C,okN cP C=true->PySem.W.subIn K (.ref C) (.ref cW)=some true:=fun C q=>by
 have e:C=cP:=beq_iff_eq.mp q;rw [e];exact h
theorem At {s:SD} {δ:DS} {d:D} (h:s δ=some (.rt d)):oF (s δ)=some (.ok d):=by rw [h];rfl
theorem EL {s:SD} {δ δ':DS} {C:Addr} (h:s δ=some (.mk C δ')):oF (s δ)=some (.error C):=by rw [h];rfl
theorem EM {s:SD} {δ δ':DS} {C:Addr} (h:s δ=some (.ex C δ')):oF (s δ)=some (.error C):=by rw [h];rfl
theorem BZ {s u:SD} {δ δ':DS} {C:Addr} (h:s δ=some (.mk C δ')):bf s u δ=some (.mk C δ'):=by unfold bf;rw [h];rfl
structure FK (K:Zu) (x:Str) (st:Stmt) (f:Addr):Prop where
 ns:PySem.W.nsIn K mainGlobals x=some (some (.ref f))
 ex:∃ (oc:Value) (od:Option Addr) (kV doc pm:Value) (an:Option Addr) (cdv ct:Value) (osl:Array (Option Value)),K.lookup f=some ⟨oc,od,.func (PySem.W.fnOf x x (cQ st) (bD st) (aq st) .none kV doc pm an cdv ct),osl⟩/\PySem.W.codeIn K cdv x=true
 kp:PySem.W.keepIn K (.ref f)=true
theorem FK.get {K:Zu} {x:Str} {st:Stmt} {f:Addr} {ps:List Str} (h:FK K x st f) (b:∀ (kV doc pm:Value) (an:Option Addr) (cdv ct:Value) (us:List Value),us.length=ps.length->bindArgs (PySem.W.fnOf x x (cQ st) (bD st) (aq st) .none kV doc pm an cdv ct) ⟨us,[]⟩=pure (ps.zip us)):∃ fd,Fun K x x st f fd/\Binds K fd ps []:=by
 obtain ⟨oc,od,kV,doc,pm,an,cdv,ct,osl,l,c⟩:=h.ex;have F:=Ba (st:=st) l c h.kp;exact ⟨_,F,F.binds b⟩
theorem FK.of2 {K:Zu} {x:Str} {st:Stmt} {f:Addr} (e:Hd.fv K x f=Hd.fe x st .none f):FK K x st f:=⟨(Hd.fv_inv e).1,(Hd.fv_inv e).2.2,(Hd.fv_inv e).2.1⟩
section
variable (P:Program) (w:World) (base:Heap) {K:Zu} {mg:Str->Option Value} {h:Heap} {k:Nat} {f:Addr} {fd:FuncData} {x:Str} {st:Stmt} {ps:List Str}
theorem mkP {G:List D->Option D} (X:K.In h) (N:h.Ns mainGlobals mg) (a:FK K x st f) (o:FnOk P w K mg base CX0 k f fd ps (bz K ps.length G)) (b:Binds K fd ps []):Has P w K mg base k x ps G:=⟨⟨_,_,o,PySem.W.mg_of X N a.ns,a.kp,b⟩⟩
theorem mkF {G:List D->Option D} (X:K.In h) (N:h.Ns mainGlobals mg) (a:FK K x st f) (o:FnOk P w K mg base CX0 k f fd ps (bC K ps.length G)) (b:Binds K fd ps []):HasF P w K mg base k x ps G:=⟨⟨_,_,o,PySem.W.mg_of X N a.ns,a.kp,b⟩⟩
theorem mkM {G:List D->Option (D×D)} (X:K.In h) (N:h.Ns mainGlobals mg) (a:FK K x st f) (o:FnOk P w K mg base CX0 k f fd ps (t9 K ps.length G)) (b:Binds K fd ps []):FQ P w K mg base k x ps G:=⟨⟨_,_,o,PySem.W.mg_of X N a.ns,a.kp,b⟩⟩
end
section
variable {P:Program} {w:World} {K:Zu} {mg:Str->Option Value} {base:Heap} {f:Addr} {fd:FuncData}
theorem l9:aF ["thing"] ["thing"] (aq iI):=⟨rfl,rfl,rfl,by decide +kernel,rfl,by decide +kernel,by decide +kernel⟩
theorem tW (F:Fun K "is_whole" "is_whole" iI f fd)    (m_isinstance:mg "isinstance" = none) (m_int:mg "int" = none) (m_bool:mg "bool" = none):FnOk P w K mg base CX0 1 f fd ["thing"] (bz K 1 (fn iW)):=by
 have sc:=l9;refine bK F l9 (fun cdv A outer s H E ds d hr hG hl=>?_)
 obtain ⟨x,b,h,rfl,rfl⟩:=aT hG;refine ⟨_,(aK (aQ (lK (aW gN (ko tY) rfl m_isinstance boot_isinstance (ae (aa 0) (ae (oz rfl m_int boot_int) aj))) (iO (lJ (aW gN (ko lM) rfl m_isinstance boot_isinstance (ae (aa 0) (ae (oz rfl m_bool boot_bool) aj)))))))),?_⟩
 . show aJ ((?f:SD) [some _])=_;cases x <;> simp [sv] at h <;> subst h <;> rfl
theorem gU:aF ["number","above_nought","one","other","rest"] ["number","above_nought"] (aq c6):=⟨rfl,rfl,rfl,by decide +kernel,rfl,by decide +kernel,by decide +kernel⟩
def cdC:FT:=fT (f2 gNe (ah 3) (fC (.int 0)))
def cdS:SD:=bf (dR 4 (f2 (gI (fun _ j=>0 < j) fun i j=>.int (i % j)) (ah 2) (ah 3))) (bf (dR 2 (ah 3)) (dR 3 (ah 4)))
theorem xX:∀ (n:Nat) (x y:Int) (u v o:Option D),0<=y->(y=0->0<=x)->y.toNat < n->∃ o',ib n cdC cdS [u,v,some (.int x),some (.int y),o]=some (.nx [u,v,some (.int (gc x y)),some (.int 0),o'])
 | 0,x,y,u,v,o,h0,h1,h2=>by omega
 | n+1,x,y,u,v,o,h0,h1,h2=>by
  by_cases h:y=0
  . subst h;refine ⟨o,?_⟩;rw [C7 (h1 rfl)];rfl
  . have hy:0 < y:=by omega
    have hc:cdC [u,v,some (.int x),some (.int y),o]=some true:=by
     show some (!(y == 0))=some true;simp [h]
    have hs:cdS [u,v,some (.int x),some (.int y),o]=some (.nx [u,v,some (.int y),some (.int (x % y)),some (.int (x % y))]):=by
     unfold cdS;simp only [cC,bf,dR,ah,f2,Zc,Zd,Ze,Zf,Zg,aC (C:=fun _ j=>0 < j) (i:=x) hy]
    obtain ⟨o',ih⟩:=xX n y (x % y) u v (some (.int (x % y))) (Int.emod_nonneg x h) (fun _=>h0) (by have:=Int.emod_lt_of_pos x hy;omega)
    refine ⟨o',?_⟩;rw [C8] at ih;rw [zF hc hs];exact ih
theorem kX (F:Fun K "common_divisor" "common_divisor" c6 f fd)    :FnOk P w K mg base CX0 1 f fd ["number","above_nought"] (bz K 2 (fn cK)):=by
 have sc:=gU;refine bK F gU (fun cdv A outer s H E ds d hr hG hl=>?_)
 obtain ⟨a,b,hb,rfl,rfl⟩:=aT hG;refine ⟨_,(aG (bB 2 sc.nd (aa 0))
  (aG (bB 3 sc.nd (aa 1))
  (aG (yv (b.toNat+1) PassesOwn.never (z8 hr.units0 (aa 3) ao)
   (aG (bB 4 sc.nd (cV (aa 2) (aa 3)))
   (aG (bB 2 sc.nd (aa 3))
   (aK (bB 3 sc.nd (aa 4))))))
  (aK (aQ (aa 2)))))),?_⟩
 . show aJ ((?f:SD) [some _,some _,none,none,none])=_;obtain ⟨o,ho⟩:=xX (b.toNat+1) a b (some (.int a)) (some (.int b)) none (by omega) (by omega) (by omega)
   show aJ ((ib (b.toNat+1) cdC cdS [some (.int a),some (.int b),some (.int a),some (.int b),none]).bind (cC (du (ah 2))))=_;rw [ho];rfl
theorem wQ:aF ["one","other"] ["one","other"] (aq rH):=⟨rfl,rfl,rfl,by decide +kernel,rfl,by decide +kernel,by decide +kernel⟩
theorem CG (F:Fun K "less" "less" rH f fd)    :FnOk P w K mg base CX0 1 f fd ["one","other"] (bz K 2 (fn fU)):=by
 have sc:=wQ;refine bK F wQ (fun cdv A outer s H E ds d hr hG hl=>?_)
 obtain ⟨⟨a,b⟩,⟨c,e⟩,hp,hq,rfl,rfl⟩:=aT hG;refine ⟨_,(aK (aQ (Ao (cF (av (aa 0) ao) (av (aa 1) ao)) (cF (av (aa 1) ao) (av (aa 0) ao))))),?_⟩
 . show aJ ((?f:SD) [some _,some _])=_;simp only [aJ,du,ah,fC,f2,cg,cH,gI0,Zc,Zd,Ze,aC (C:=bZ) (i:=a) (j:=e) ⟨hp.s1.bd,hq.s2.bd⟩,aC (C:=bZ) (i:=c) (j:=b) ⟨hq.s1.bd,hp.s2.bd⟩]
theorem og:aF ["one","other"] ["one","other"] (aq jI):=⟨rfl,rfl,rfl,by decide +kernel,rfl,by decide +kernel,by decide +kernel⟩
theorem vH (F:Fun K "tighter" "tighter" jI f fd)    :FnOk P w K mg base CX0 1 f fd ["one","other"] (bz K 2 (fn fu)):=by
 have sc:=og;refine bK F og (fun cdv A outer s H E ds d hr hG hl=>?_)
 obtain ⟨a,b,rfl,rfl⟩:=aT hG;refine ⟨_,(aG (cE (cN (aa 0) bp) (aK (aQ gH)) bL)
  (aG (cE (cN (aa 1) bp) (aK (aQ gH)) bL)
  (aG (cE (z8 hr.units0 (av (aa 0) ao) (av (aa 1) ao)) (aK (aQ (Ao (av (aa 0) ao) (av (aa 1) ao)))) bL)
  (aK (aQ (lK (av (aa 0) ao) (iO (lJ (av (aa 1) ao))))))))),?_⟩
 . show aJ ((?f:SD) [some _,some _])=_;rcases a with _ | ⟨n,s⟩
   . rfl
   rcases b with _ | ⟨m,t⟩
   . rfl
   rw [zv]
   by_cases e:n=m
   . subst e;rw [if_pos rfl];cases s <;> cases t <;> (simp only [aJ,bF,cC,bf,du,sIf,ah,fC,f2,f1,fT,asB,i8,vU,cg,cH,gI0,xD,Zc,Zd,Ze,Bool.not_true,Bool.not_false,beq_self_eq_true,aU,bP,bi] ;rfl)
   . have h1:(n == m)=false:=beq_eq_false_iff_ne.mpr e;rw [if_neg e];simp only [aJ,bF,cC,bf,du,sIf,ah,fC,f2,fT,asB,cg,gI0,xD,Zc,Zd,Ze,Bool.not_false,aU,bP,bi,h1]
theorem kC:aF ["one","other"] ["one","other"] (aq g4):=⟨rfl,rfl,rfl,by decide +kernel,rfl,by decide +kernel,by decide +kernel⟩
theorem rY (F:Fun K "bound_sum" "bound_sum" g4 f fd)    :FnOk P w K mg base CX0 1 f fd ["one","other"] (bz K 2 (fn bY)):=by
 have sc:=kC;refine bK F kC (fun cdv A outer s H E ds d hr hG hl=>?_)
 obtain ⟨a,b,rfl,rfl⟩:=aT hG;refine ⟨_,(aG (cE (PWD.pt (gG (cN (aa 0) bp) (gj (cN (aa 1) bp)))) (aK (aQ bp)) bL)
  (aK (aQ (eY (ae (dk (av (aa 0) ao) (av (aa 1) ao)) (ae (An (av (aa 0) ao) (iO (av (aa 1) ao))) aj)))))),?_⟩
 . show aJ ((?f:SD) [some _,some _])=_;rcases a with _ | ⟨n,s⟩ <;> rcases b with _ | ⟨m,t⟩
   . rfl
   . rfl
   . rfl
   . cases s <;> cases t <;> rfl
theorem qo:aF ["table"] ["table"] (aq kK):=⟨rfl,rfl,rfl,by decide +kernel,rfl,by decide +kernel,by decide +kernel⟩
theorem yF (F:Fun K "copied" "copied" kK f fd)    (m_list:mg "list" = none):FnOk P w K mg base CX0 1 f fd ["table"] (bC K 1 (fn pH)):=by
 have sc:=qo;refine bE F qo (fun cdv A outer s H E ds d hr hG hl=>?_)
 obtain ⟨d0,T,m,hT,hs,hm,rfl,rfl⟩:=aT hG;have hown:=cm T;refine ⟨_,(aI (bg (kN (by exact (iw (aa 0))) (N:=["bounds"]) (js:=[]) (cl:=[]) (fun _ _ _ _ _=>by exact (yt rfl m_list boot_list (ae (aa 0) aj))) (by exact CompOk.nil)))),?_,?own⟩
 case own=>first | rfl | exact hown
 . show aJ ((?f:SD) (aH 1 _))=_;have e0:aH 1 [d0]=[some (ax T)]:=by
    show [some (sh d0)]=_;rw [show sh d0=ax T from hT]
   rw [e0];exact cD (bS (vd hs hm rfl))
theorem ik:aF ["size","ways","thing"] ["size"] (aq dD):=⟨rfl,rfl,rfl,by decide +kernel,rfl,by decide +kernel,by decide +kernel⟩
theorem lL (F:Fun K "straight_ways" "straight_ways" dD f fd)    (m_range:mg "range" = none):FnOk P w K mg base CX0 1 f fd ["size"] (bC K 1 (fn fS)):=by
 have sc:=ik;refine bE F ik (fun cdv A outer s H E ds d hr hG hl=>?_)
 obtain ⟨n,hn,rfl,rfl⟩:=aT hG;have hown:=oD n fun i _=>[i]
 refine ⟨_,(aA (bn 1 sc.nd (rM iN))
  (aA (d5 2 sc.nd PassesOwn.never rfl (bo rfl m_range (ae (aa 0) aj))
   (aI (EB 1 (xl PySem.F.plainAttrs_list PySem.F.slot_list_append PySem.F.type_list_append qA (pvi 1) (d6 (kN (by exact (eX rfl m_range (ae (aa 0) aj))) (N:=["goal","thing"]) (js:=[2]) (cl:=[("thing",_)]) (fun _ _ _ _ _=>by exact (rM (fI (dG 1) iN))) (by exact CompOk.one)) jo)))))
  (aI (bg (dG 1))))),?_,?own⟩
 case own=>first | rfl | exact hown
 . rw [show (["size","ways","thing"]:List Str).length=3 from rfl]
   have e0:aH 3 [.int (n:Int)]=[some (.int (n:Int)),none,none]:=rfl;rw [e0];have hv:=fun o1 o2:Option D=>dB (g:=af (ah 0) ak) (δ:=[some (.int (n:Int)),o1,o2]) (n:=n) rfl (by omega)
   obtain ⟨_,w,o,rfl⟩:=dz (i:=2) (s:=((zK 1 (dP (mL (af (ah 0) ak)) [2] (zu (l8 (gA 1) yg)))))) (f:=fun (i:Nat)=>D.int (i:Int)) (fun pre δ=>∃ o,δ=[some (.int (n:Int)),some (.lst ((List.range pre.length).map fun i=>D.lst (fX n fun _=>[i]))),o]) (List.range n) (by
    rintro pre x post _ hx ⟨o,rfl⟩
    obtain ⟨rfl,hl⟩:=bH hx;refine ⟨_,D9 (ds:=(List.range pre.length).map fun i=>D.lst (fX n fun _=>[i])) (d:=.lst (fX n fun _=>[pre.length])) rfl ?_ (by rw [Zi,ZF];omega),some (.int (pre.length:Int)),?_⟩
    . refine gw (f:=fun (i:Nat)=>D.int (i:Int)) (g:=fun _=>D.lst (intsD [pre.length])) (xs:=List.range n) ?_ (fun i _=>rfl) (by rw [ZF];omega)
      refine tu (ds:=[.int (n:Int)]) rfl ?_;rw [BI (by omega) (by omega),oq]
    . rw [Zh,List.length_singleton,List.range_succ,List.map_append];rfl) (List.range n) [] [some (.int (n:Int)),some (.lst []),none] rfl ⟨none,rfl⟩
   rw [ZF] at w;exact cD (aw (bA (d:=.lst []) rfl) (aw (cw (hv _ _) w) (bS (rf rfl))))
theorem i5:aF ["_law_script","_law_k"] ["_law_script","_law_k"] (aq dZ):=⟨rfl,rfl,rfl,by decide +kernel,rfl,by decide +kernel,by decide +kernel⟩
theorem mR (F:Fun K "_law_cell_at" "_law_cell_at" dZ f fd)    (m_len:mg "len" = none):FnOk P w K mg base CX0 1 f fd ["_law_script","_law_k"] (bz K 2 (fn ci)):=by
 have sc:=i5;refine bK F i5 (fun cdv A outer s H E ds d hr hG hl=>?_)
 obtain ⟨ns,k,hk,rfl,rfl⟩:=aT hG;refine ⟨_,(aG (cE (vy (aa 1) (aW bc eL rfl m_len PySem.boot_len (ae (aa 0) aj))) (aK (aQ (av (aa 0) (aa 1)))) bL)
  (aK (aQ ao))),?_⟩
 . show aJ ((?f:SD) [some _,some _])=_
   by_cases hlt:k < (ns.length:Int)
   . have h1:decide (k < (((ns.map D.int).length:Nat):Int))=true:=decide_eq_true (by rw [Zi];exact hlt)
     have h2:gIx (.seq (ns.map D.int)) (.int k)=some (.int (cell ns k)):=by
      show L2.atI (ns.map D.int) k=_;have ek:k=((k.toNat:Nat):Int):=by omega
      have hk2:k.toNat < ns.length:=by omega
      have h3:=atI_nat (xs:=ns.map D.int) (j:=k.toNat) (v:=D.int ns[k.toNat]) (by rw [ZD,Zt hk2] <;> rfl)
      rw [<- ek] at h3;rw [h3];unfold cell;simp [Zs,hk2]
     simp only [aJ,bF,cC,bf,du,sIf,ah,f2,fT,asB,ak,af,au,uA,gI0,Zc,Zd,Ze,h1,h2]
   . have h1:decide (k < (((ns.map D.int).length:Nat):Int))=false:=decide_eq_false (by rw [Zi];exact hlt)
     have h2:cell ns k=0:=by
      unfold cell;rw [Zs,List.getElem?_eq_none (by omega)]
      rfl
     simp only [aJ,bF,cC,bf,du,sIf,ah,fC,f2,fT,asB,ak,af,au,uA,gI0,Zc,Zd,Ze,h1,h2]
theorem jX:aF ["_law_cell","_law_k","_law_number"] ["_law_cell","_law_k"] (aq gf):=⟨rfl,rfl,rfl,by decide +kernel,rfl,by decide +kernel,by decide +kernel⟩
theorem pS (F:Fun K "_law_mixed" "_law_mixed" gf f fd)    :FnOk P w K mg base CX0 1 f fd ["_law_cell","_law_k"] (bC K 2 (fn cu)):=by
 have sc:=jX;refine bE F jX (fun cdv A outer s H E ds d hr hG hl=>?_)
 obtain ⟨c,k,hk0,hk1,rfl,rfl⟩:=aT hG;have hown:own (.int (mxd c k))=true:=rfl;refine ⟨_,(aA (bn 2 sc.nd (aR (cV (dk (dk (dk (kU (aa 0) ao) (kU (kU (aa 1) (aa 1)) ao)) (kU ao (aa 1))) ao) ao)))
  (aI (bg (aR (cV (kU (aa 2) (aa 2)) ao))))),?_,?own⟩
 case own=>first | rfl | exact hown
 . show aJ ((?f:SD) (aH 3 _))=_;have e0:aH 3 [.int c,.int k]=[some (.int c),some (.int k),none]:=rfl;rw [e0];have w1:hX c 48271:=.inr (.inr (by decide))
   have w2:hX k k:=.inr (.inl (by omega))
   have w3:hX (k*k) 69621:=.inr (.inr (by decide))
   have w4:hX 7 k:=.inr (.inl (by decide))
   obtain ⟨n,hn⟩:∃ n,n=(c*48271+k*k*69621+7*k+11) % 2147483647:=⟨_,rfl⟩;have n0:0<=n:=by rw [hn];exact Int.emod_nonneg _ (by decide)
   have n1:n < 2147483647:=by rw [hn];exact Int.emod_lt_of_pos _ (by decide)
   have w5:hX n n:=.inr (.inl (by omega))
   have em:mxd c k=n*n % 2147483629:=by rw [hn];rfl
   rw [em];exact cD (aw (cT (bJ (d:=.int n) (by simp only [ah,fC,f2,dw,Zc,Zd,Ze,aC (C:=hX) w1,aC (C:=hX) w2,aC (C:=hX) w3,aC (C:=hX) w4,aC (C:=fun _ j=>0 < j) (i:=c*48271+k*k*69621+7*k+11) (j:=2147483647) (by decide),hn]))) (bS (bJ (by simp only [ah,fC,f2,Zc,Zd,Ze,Zf,Zg,aC (C:=hX) w5,aC (C:=fun _ j=>0 < j) (i:=n*n) (j:=2147483629) (by decide)]))))
theorem jV:aF ["_law_found"] ["_law_found"] (aq gb):=⟨rfl,rfl,rfl,by decide +kernel,rfl,by decide +kernel,by decide +kernel⟩
theorem pQ (F:Fun K "_law_whole" "_law_whole" gb f fd)    (m_isinstance:mg "isinstance" = none) (m_int:mg "int" = none) (m_bool:mg "bool" = none):FnOk P w K mg base CX0 1 f fd ["_law_found"] (bz K 1 (fn cR)):=by
 have sc:=jV;refine bK F jV (fun cdv A outer s H E ds d hr hG hl=>?_)
 obtain ⟨x,b,h,rfl,rfl⟩:=aT hG;refine ⟨_,(aK (aQ (lK (aW gN (ko tY) rfl m_isinstance boot_isinstance (ae (aa 0) (ae (oz rfl m_int boot_int) aj))) (iO (lJ (aW gN (ko lM) rfl m_isinstance boot_isinstance (ae (aa 0) (ae (oz rfl m_bool boot_bool) aj)))))))),?_⟩
 . show aJ ((?f:SD) [some _])=_;cases x <;> simp [sv] at h <;> subst h <;> rfl
theorem kE:aF ["_law_one","_law_other"] ["_law_one","_law_other"] (aq g7):=⟨rfl,rfl,rfl,by decide +kernel,rfl,by decide +kernel,by decide +kernel⟩
theorem r6 (F:Fun K "_law_less" "_law_less" g7 f fd)    :FnOk P w K mg base CX0 1 f fd ["_law_one","_law_other"] (bz K 2 (fn c5)):=by
 have sc:=kE;refine bK F kE (fun cdv A outer s H E ds d hr hG hl=>?_)
 obtain ⟨⟨a,b⟩,⟨c,e⟩,hp,hq,rfl,rfl⟩:=aT hG;refine ⟨_,(aK (aQ (eY (ae (rS (cF (av (aa 0) ao) (av (aa 1) ao)) (cF (av (aa 1) ao) (av (aa 0) ao))) (ae (cF (av (aa 0) ao) (av (aa 1) ao)) aj))))),?_⟩
 . show aJ ((?f:SD) [some _,some _])=_;simp only [aJ,du,ah,fC,f2,ak,af,jR,cg,cH,gI0,Zc,Zd,Ze,aC (C:=bZ) (i:=a) (j:=e) ⟨hp.s1.bd,hq.s2.bd⟩,aC (C:=bZ) (i:=c) (j:=b) ⟨hq.s1.bd,hp.s2.bd⟩,aC (C:=bZ) (i:=b) (j:=e) ⟨hp.s2.bd,hq.s2.bd⟩];rfl
theorem jY:aF ["_law_part","_law_bound_here"] ["_law_part","_law_bound_here"] (aq gg):=⟨rfl,rfl,rfl,by decide +kernel,rfl,by decide +kernel,by decide +kernel⟩
theorem pT (F:Fun K "_law_keeps" "_law_keeps" gg f fd)    :FnOk P w K mg base CX0 1 f fd ["_law_part","_law_bound_here"] (bz K 2 (fn eP)):=by
 have sc:=jY;refine bK F jY (fun cdv A outer s H E ds d hr hG hl=>?_)
 obtain ⟨⟨a,b⟩,c,hp,hc,rfl,rfl⟩:=aT hG;refine ⟨_,(aG (cE (cN (aa 1) bp) (aK (aQ gH)) bL)
  (aK (aQ (An (Ao (av (aa 0) ao) (cF (av (aa 1) ao) (av (aa 0) ao))) (iO (lK (DO hr.units0 (av (aa 0) ao) (cF (av (aa 1) ao) (av (aa 0) ao))) (iO (lJ (av (aa 1) ao))))))))),?_⟩
 . show aJ ((?f:SD) [some _,some _])=_;rcases c with _ | ⟨n,s⟩
   . rfl
   . have mb:bZ n b:=⟨Sm.mono (show Sm 4000 n from hc) (by decide),hp.s2.bd⟩
     rw [<- GL];cases h1:decide (a < n*b) with
     | true=>simp only [aJ,bF,cC,bf,du,sIf,ah,fC,f2,f1,fT,asB,i8,pW,vU,cg,cH,gI0,eI,Zc,Zd,Ze,aU,bP,bi,gLt,eI,aC (C:=bZ) mb,h1,Bool.true_or]
     | false =>
      cases h2:(a == n*b) with
      | true=>simp only [aJ,bF,cC,bf,du,sIf,ah,fC,f2,f1,fT,asB,i8,pW,vU,cg,cH,gI0,eI,Zc,Zd,Ze,aU,bP,bi,gLt,eI,aC (C:=bZ) mb,h1,h2,Bool.false_or,Bool.true_and]
      | false=>simp only [aJ,bF,cC,bf,du,sIf,ah,fC,f2,f1,fT,asB,i8,pW,vU,cg,cH,gI0,eI,Zc,Zd,Ze,aU,bP,bi,gLt,eI,aC (C:=bZ) mb,h1,h2,Bool.false_or,Bool.false_and]
theorem mo:aF ["_law_bounds"] ["_law_bounds"] (aq iK):=⟨rfl,rfl,rfl,by decide +kernel,rfl,by decide +kernel,by decide +kernel⟩
theorem oG:∀ (bl:List Bn),fP (az bl)=some (bl.map Option.isNone)
 | []=>rfl
 | none :: bl=>by show ((fP (az bl)).bind fun bs=>some (true :: bs))=_;rw [oG bl];rfl
 | some (n,s) :: bl=>by show ((fP (az bl)).bind fun bs=>some (false :: bs))=_;rw [oG bl];rfl
theorem wU:∀ {bl:List Bn},(bl.map Option.isNone).any id=true->sB bl=none
 | [],h=>by cases h
 | none :: bl,_=>rfl
 | some (n,s) :: bl,h=>by
  have h':(false || (bl.map Option.isNone).any id)=true:=h
  show bs (some (n,s)) (sB bl)=none;rw [wU (by simpa using h')]
  rfl
def vL (b:Bn):Int:=(b.getD (0,false)).1
def vh (b:Bn):Bool:=(b.getD (0,false)).2
theorem wT:∀ {bl:List Bn},(bl.map Option.isNone).any id=false->sB bl=some (iG (bl.map vL),(bl.map vh).any id)
 | [],_=>rfl
 | none :: bl,h=>by cases h
 | some (n,s) :: bl,h=>by
  have h':(false || (bl.map Option.isNone).any id)=false:=h
  show bs (some (n,s)) (sB bl)=_;rw [wT (by simpa using h')]
  rfl
theorem AU {b:Bn} (h:b.isNone=false):gIx (bdD b) (.int 0)=some (.int (vL b))/\gIx (bdD b) (.int 1)=some (.bl (vh b)):=by
 rcases b with _ | ⟨n,s⟩
 . cases h
 . exact ⟨rfl,rfl⟩
theorem xO {src:FA} {js:List Nat} {felt:FD} {δ:DS} {ds xs:List D} (h:src δ=some ds) (k:mS (fun d=>felt (some d :: bv js δ)) ds=some xs) (l:xs.length<=1000):qP src js felt δ=some (.lst xs):=by
 unfold qP;rw [h];dsimp only [Option.bind_some];rw [k];exact if_pos l
theorem nN {G:List D->Option D} {f:FD} {δ:DS} {a d:D} (h:f δ=some a) (g:G [a]=some d):au G (af f ak) δ=some d:=by
 unfold au af ak;rw [h];exact g
theorem uo:∀ (x:List Int),gK (x.map D.int)=some x
 | []=>rfl
 | i :: x=>by show (gK (x.map D.int)).map (i :: ·)=_;rw [uo x];rfl
theorem l4:∀ (bs:List Bool),gv (bs.map D.bl)=some bs
 | []=>rfl
 | b :: bs=>by show ((gv (bs.map D.bl)).bind fun cs=>some (b :: cs))=_;rw [l4 bs];rfl
theorem t4 (F:Fun K "_law_sum" "_law_sum" iK f fd)    (m_sum:mg "sum" = none) (m_any:mg "any" = none):FnOk P w K mg base CX0 1 f fd ["_law_bounds"] (bC K 1 (fn cB)):=by
 have sc:=mo;refine bE F mo (fun cdv A outer s H E ds d hr hG hl=>?_)
 obtain ⟨d0,bl,h,l,rfl,rfl⟩:=aT hG;have hown:own (bdD (sB bl))=true:=oE _;refine ⟨_,(aA (d4 (Cd hr.units bp (aa 0)) (aI (bg (aR bp))) cO)
  (aI (bg (aR (eY (ae (aW (BC rfl) Fv rfl m_sum zf (ae (xm (by exact (iw (aa 0))) (N:=["_law_bound_here"]) (js:=[]) (cl:=[]) (fun _ _ _ _ _=>by exact (av (aa 0) ao)) (by exact CompOk.nil)) aj)) (ae (aW (BE rfl) Fy rfl m_any zh (ae (xm (by exact (iw (aa 0))) (N:=["_law_bound_here"]) (js:=[]) (cl:=[]) (fun _ _ _ _ _=>by exact (av (aa 0) ao)) (by exact CompOk.nil)) aj)) aj))))))),?_,?own⟩
 case own=>first | rfl | exact hown
 . show aJ ((?f:SD) (aH 1 _))=_;have e0:aH 1 [d0]=[some (.seq (az bl))]:=by
    show [some (sh d0)]=_;rw [h]
   rw [e0];have gi:A9 .non (.seq (az bl))=some (.bl ((bl.map Option.isNone).any id)):=by
    show ((fP (az bl)).bind fun bs=>some (D.bl (bs.any id)))=_
    rw [oG];rfl
   have hc:fT (f2 A9 (fC .non) (ah 0)) [some (.seq (az bl))]=some ((bl.map Option.isNone).any id):=by simp only [ah,fC,f2,fT,asB,Zc,Zd,gi]
   cases q:(bl.map Option.isNone).any id with
   | true =>
    rw [q] at hc;rw [wU q];exact cD (dS (dL hc (bS (bJ (d:=.non) rfl))))
   | false =>
    rw [q] at hc;rw [wT q];have al:∀ b∈bl,b.isNone=false:=fun b m=>by
     cases z:b.isNone with
     | false=>rfl
     | true=>exact absurd (List.any_eq_true.mpr ⟨true,Zn.mpr ⟨b,m,z⟩,rfl⟩) (by rw [q];decide)
    have c1:qP (fun δ=>((ah 0) δ).bind asL) [] (f2 gIx (ah 0) (fC (.int 0))) [some (.seq (az bl))]=some (.lst ((bl.map vL).map D.int)):=by
     refine xO (ds:=az bl) rfl ?_ (by rw [Zi,Zi];omega)
     rw [List.map_map];exact jr fun b m=>(AU (al b m)).1
    have c2:qP (fun δ=>((ah 0) δ).bind asL) [] (f2 gIx (ah 0) (fC (.int 1))) [some (.seq (az bl))]=some (.lst ((bl.map vh).map D.bl)):=by
     refine xO (ds:=az bl) rfl ?_ (by rw [Zi,Zi];omega)
     rw [List.map_map];exact jr fun b m=>(AU (al b m)).2
    have g1:Fe [.lst ((bl.map vL).map D.int)]=some (.int (iG (bl.map vL))):=by
     show ((gK ((bl.map vL).map D.int)).bind fun ns=>some (D.int (iG ns)))=_
     rw [uo];rfl
    have g2:Ff [.lst ((bl.map vh).map D.bl)]=some (.bl ((bl.map vh).any id)):=by
     show ((gv ((bl.map vh).map D.bl)).bind fun bs=>some (D.bl (bs.any id)))=_
     rw [l4];rfl
    refine cD (aw (cf hc rfl) (bS (bJ (d:=.tup [.int (iG (bl.map vL)),.bl ((bl.map vh).any id)]) ?_)));unfold jR;rw [fa2 (nN c1 g1) (nN c2 g2)];rfl
theorem ql:aF ["top","bottom","divisor"] ["top","bottom"] (aq kH):=⟨rfl,rfl,rfl,by decide +kernel,rfl,by decide +kernel,by decide +kernel⟩
theorem yD (F:Fun K "lowest" "lowest" kH f fd)  (hcommon_divisor:Has P w K mg base 1 "common_divisor" ["number","above_nought"] (fn cK))  :FnOk P w K mg base CX0 2 f fd ["top","bottom"] (bz K 2 (fn pG)):=by
 have sc:=ql;refine bK F ql (fun cdv A outer s H E ds d hr hG hl=>?_)
 obtain ⟨t,b,hb,hB,rfl,rfl⟩:=aT hG;refine ⟨_,(aG (bB 2 sc.nd (ay hcommon_divisor hr (ae (aa 0) (ae (aa 1) aj))))
  (aK (aQ (eY (ae (bV (aa 0) (aa 2)) (ae (bV (aa 1) (aa 2)) aj)))))),?_⟩
 . show aJ ((?f:SD) [some _,some _,none])=_;have hg:=eE (t:=t) hb;have hgB:Bd (gc t b):=uZ (by omega) (uz (t:=t) hb) hB
   simp only [aJ,cC,bf,du,dR,ah,f2,ak,af,jR,au,Zc,Zd,Ze,Zf,Zg,cI (a:=t) hb,aC (C:=ba) (i:=t) ⟨hg,hgB⟩,aC (C:=ba) (i:=b) ⟨hg,hgB⟩];rfl
theorem qk:aF ["one","top","bottom","shared","part","total","left"] ["one","top","bottom"] (aq kG):=⟨rfl,rfl,rfl,by decide +kernel,rfl,by decide +kernel,by decide +kernel⟩
theorem yC (F:Fun K "summed" "summed" kG f fd)  (hcommon_divisor:Has P w K mg base 1 "common_divisor" ["number","above_nought"] (fn cK))  :FnOk P w K mg base CX0 2 f fd ["one","top","bottom"] (bz K 3 (fn iF)):=by
 have sc:=qk;refine bK F qk (fun cdv A outer s H E ds d hr hG hl=>?_)
 obtain ⟨⟨a,b⟩,⟨c,e⟩,hp,hq,rfl,rfl⟩:=aT hG;refine ⟨_,(aG (bB 3 sc.nd (ay hcommon_divisor hr (ae (av (aa 0) ao) (ae (aa 2) aj))))
  (aG (bB 4 sc.nd (bV (av (aa 0) ao) (aa 3)))
  (aG (bB 5 sc.nd (dk (cF (av (aa 0) ao) (bV (aa 2) (aa 3))) (cF (aa 1) (aa 4))))
  (aG (bB 6 sc.nd (ay hcommon_divisor hr (ae (aa 5) (ae (aa 3) aj))))
  (aK (aQ (eY (ae (bV (aa 5) (aa 6)) (ae (cF (aa 4) (bV (aa 2) (aa 6))) aj))))))))),?_⟩
 . show aJ ((?f:SD) [some _,some _,some _,none,none,none,none])=_;have hb:0 < b:=hp.pos;have he:0 < e:=hq.pos;have hg:=eE (t:=b) he;have hgB:Bd (gc b e):=uZ (by omega) (uz (t:=b) he) hq.s2.bd
   have b1:Bd (b / gc b e):=ke hp.s2 hg eF;have b2:Bd (e / gc b e):=ke hq.s2 hg cS;have hl:=eE (t:=a*(e / gc b e)+c*(b / gc b e)) hg;have hlB:Bd (gc (a*(e / gc b e)+c*(b / gc b e)) (gc b e)):=uZ (by omega) (uz (t:=a*(e / gc b e)+c*(b / gc b e)) hg) hgB
   have b3:Bd (e / gc (a*(e / gc b e)+c*(b / gc b e)) (gc b e)):=ke hq.s2 hl (Int.dvd_trans cS cS);simp only [aJ,cC,bf,du,dR,ah,fC,f2,ak,af,jR,au,cg,cH,dw,Zc,Zd,Ze,Zf,Zg,cI (a:=b) he,aC (C:=ba) (i:=b) ⟨hg,hgB⟩,aC (C:=ba) (i:=e) ⟨hg,hgB⟩,aC (C:=bZ) (i:=a) (j:=e / gc b e) ⟨hp.s1.bd,b2⟩,aC (C:=bZ) (i:=c) (j:=b / gc b e) ⟨hq.s1.bd,b1⟩,cI (a:=a*(e / gc b e)+c*(b / gc b e)) hg,aC (C:=ba) (i:=a*(e / gc b e)+c*(b / gc b e)) ⟨hl,hlB⟩,aC (C:=ba) (i:=e) ⟨hl,hlB⟩,aC (C:=bZ) (i:=b / gc b e) ⟨b1,b3⟩];rfl
theorem tw:aF ["one","other","first","second"] ["one","other"] (aq m6):=⟨rfl,rfl,rfl,by decide +kernel,rfl,by decide +kernel,by decide +kernel⟩
theorem Az (F:Fun K "times" "times" m6 f fd)  (hcommon_divisor:Has P w K mg base 1 "common_divisor" ["number","above_nought"] (fn cK))  :FnOk P w K mg base CX0 2 f fd ["one","other"] (bz K 2 (fn yd)):=by
 have sc:=tw;refine bK F tw (fun cdv A outer s H E ds d hr hG hl=>?_)
 obtain ⟨⟨a,b⟩,⟨c,e⟩,hp,hq,rfl,rfl⟩:=aT hG;refine ⟨_,(aG (bB 2 sc.nd (ay hcommon_divisor hr (ae (av (aa 0) ao) (ae (av (aa 1) ao) aj))))
  (aG (bB 3 sc.nd (ay hcommon_divisor hr (ae (av (aa 1) ao) (ae (av (aa 0) ao) aj))))
  (aK (aQ (eY (ae (cF (bV (av (aa 0) ao) (aa 2)) (bV (av (aa 1) ao) (aa 3))) (ae (cF (bV (av (aa 0) ao) (aa 3)) (bV (av (aa 1) ao) (aa 2))) aj))))))),?_⟩
 . show aJ ((?f:SD) [some _,some _,none,none])=_;have hb:0 < b:=hp.pos;have he:0 < e:=hq.pos;have hf:=eE (t:=a) he;have hs:=eE (t:=c) hb;have fB:Bd (gc a e):=uZ (by omega) (uz (t:=a) he) hq.s2.bd
   have sB:Bd (gc c b):=uZ (by omega) (uz (t:=c) hb) hp.s2.bd
   have b1:Bd (a / gc a e):=ke hp.s1 hf eF;have b2:Bd (e / gc a e):=ke hq.s2 hf cS;have b3:Bd (c / gc c b):=ke hq.s1 hs eF;have b4:Bd (b / gc c b):=ke hp.s2 hs cS;have e0:ti (a,b) (c,e)=tm a b c e:=FW hp.lw hq.lw;simp only [aJ,cC,bf,du,dR,ah,fC,f2,ak,af,jR,au,cg,cH,Zc,Zd,Ze,Zf,Zg,cI (a:=a) he,cI (a:=c) hb,aC (C:=ba) (i:=a) ⟨hf,fB⟩,aC (C:=ba) (i:=e) ⟨hf,fB⟩,aC (C:=ba) (i:=c) ⟨hs,sB⟩,aC (C:=ba) (i:=b) ⟨hs,sB⟩,aC (C:=bZ) (i:=a / gc a e) (j:=c / gc c b) ⟨b1,b3⟩,aC (C:=bZ) (i:=b / gc c b) (j:=e / gc a e) ⟨b4,b2⟩,e0];rfl
theorem iY:aF ["table","bounds","thing"] ["table"] (aq dU):=⟨rfl,rfl,rfl,by decide +kernel,rfl,by decide +kernel,by decide +kernel⟩
theorem mM (F:Fun K "with_noughts" "with_noughts" dU f fd)  (hcopied:HasF P w K mg base 1 "copied" ["table"] (fn pH))  (m_range:mg "range" = none) (m_len:mg "len" = none):FnOk P w K mg base CX0 2 f fd ["table"] (bC K 1 (fn gP)):=by
 have sc:=iY;refine bE F iY (fun cdv A outer s H E ds d hr hG hl=>?_)
 obtain ⟨d0,T,n,hT,hs,hn,rfl,rfl⟩:=aT hG;have hown:=cm (aD n (cz T));refine ⟨_,(aA (bn 1 sc.nd (ck hcopied hr (ae (aa 0) aj)))
  (aA (d5 2 sc.nd PassesOwn.never rfl (bo rfl m_range (ae (aW bc eL rfl m_len PySem.boot_len (ae (aa 0) aj)) aj))
   (aI (ny 1 (aR (eY (ae ao (ae gH aj)))) (j7 (mC ix_list (pvi 1) (aa 2) (fun _ _=>rfl)) (aa 2) gC))))
  (aI (bg (dG 1))))),?_,?own⟩
 case own=>first | rfl | exact hown
 . show aJ ((?f:SD) (aH 3 _))=_;have e0:aH 3 [d0]=[some (ax T),none,none]:=by
    show [some (sh d0),none,none]=_;rw [show sh d0=ax T from hT]
   rw [e0];have len:gu [ax T]=some (.int (n:Int)):=si hs;have hv:=fun o1 o2:Option D=>dB (g:=af (au gu (af (ah 0) ak)) ak) (δ:=[some (ax T),o1,o2]) (n:=n) (by simp only [ah,ak,af,au,Zc,Zd,len]) (by omega)
   obtain ⟨_,w,o,rfl⟩:=dz (i:=2) (s:=((i6 1 (ah 2) (ah 2) (vI (jR (af (fC (.int 0)) (af (fC (.bl false)) ak))))))) (f:=fun (i:Nat)=>D.int (i:Int)) (fun pre δ=>∃ o,δ=[some (ax T),some (aE (aD n fun i j=>if i=j/\i < pre.length then b0 else ap T i j)),o]) (List.range n) (by
    rintro pre x post _ hx ⟨o,rfl⟩
    obtain ⟨rfl,hl⟩:=bH hx;refine ⟨_,ni (b:=b0) (bu n _) hl hl (bJ (d:=bdD b0) rfl (iR b0)) rfl rfl rfl,some (.int (pre.length:Int)),?_⟩;rw [ij _ _ hl hl];have e:aD n (up2 (fun i j=>if i=j/\i < pre.length then b0 else ap T i j) pre.length pre.length b0)=aD n fun i j=>if i=j/\i < (pre++[pre.length]).length then b0 else ap T i j:=be fun i j hi hj=>by
     unfold up2;rw [Zh,List.length_singleton]
     by_cases a:i=pre.length/\j=pre.length
     . rw [if_pos a,if_pos ⟨by omega,by omega⟩]
     . rw [if_neg a];dsimp only
       by_cases b:i=j/\i < pre.length
       . rw [if_pos b,if_pos ⟨b.1,by omega⟩]
       . rw [if_neg b,if_neg fun z=>?_]
         by_cases q:i < pre.length
         . exact b ⟨z.1,q⟩
         . exact a ⟨by omega,by omega⟩
    rw [e];rfl) (List.range n) [] [some (ax T),some (aE T),none] rfl ⟨none,by
     have e:aD n (fun i j=>if i=j/\i < ([]:List Nat).length then b0 else ap T i j)=T:=(be fun i j _ _=>if_neg fun z=>by have:=z.2;simp at this).trans (BS hs)
     rw [e]⟩
   have e:aD n (fun i j=>if i=j/\i < (List.range n).length then b0 else ap T i j)=aD n (cz T):=be fun i j hi hj=>by
    unfold cz;rw [ZF]
    by_cases a:i=j
    . rw [if_pos a,if_pos ⟨a,hi⟩]
    . rw [if_neg a,if_neg fun z=>a z.1]
   rw [e] at w;exact cD (aw (cT (cL (ds:=[ax T]) rfl (Br (dH T) hs hn) (cm T))) (aw (cw (hv _ _) w) (bS (rf rfl))))
theorem i4:aF ["bounds","ways","middle","i","j","total"] ["bounds","ways","middle"] (aq dY):=⟨rfl,rfl,rfl,by decide +kernel,rfl,by decide +kernel,by decide +kernel⟩
theorem mQ (F:Fun K "lead_through" "lead_through" dY f fd)  (hbound_sum:Has P w K mg base 1 "bound_sum" ["one","other"] (fn bY)) (htighter:Has P w K mg base 1 "tighter" ["one","other"] (fn fu))  (m_range:mg "range" = none) (m_len:mg "len" = none):FnOk P w K mg base CX0 2 f fd ["bounds","ways","middle"] (t9 K 3 (fnM eO)):=by
 have sc:=i4;refine EZ F i4 (fun cdv A outer s H E Z d0 d1 es d0' d1' hr zk hG=>?_)
 obtain ⟨n,m,f,p,ok,h0,hds,hp⟩:=De hG;injection hds with a1 hds
 injection hds with a2 hds
 subst a1 a2 hds;cases hp;refine ⟨_,(rK (zV 3 zk sc.nd PassesOwn.never rfl (bo rfl m_range (ae (aW bc eL rfl m_len PySem.boot_len (ae (aa 0) aj)) aj))
  (rK (zV 4 zk sc.nd PassesOwn.never rfl (bo rfl m_range (ae (aW bc eL rfl m_len PySem.boot_len (ae (aa 0) aj)) aj))
   (xb (Eo 5 zk sc.nd (aR (ay hbound_sum hr (ae (av (av (aa 0) (aa 3)) (aa 2)) (ae (av (av (aa 0) (aa 2)) (aa 4)) aj)))))
   (rK (Gv (bU (ay htighter hr (ae (aa 5) (ae (av (av (aa 0) (aa 3)) (aa 4)) aj)))) (xb (xa 0 (dG 5) (j7 (mC ix_list (pvi 0) (aa 3) (fun _ _=>rfl)) (aa 4) gC))
    (rK (xa 1 (nr (av (av (aa 1) (aa 3)) (aa 2)) (av (av (aa 1) (aa 2)) (aa 4))) (j7 (mC ix_list (pvi 1) (aa 3) (fun _ _=>rfl)) (aa 4) gC)))) Ep))))))),?_⟩
 . show ∃ δ',(?f:SD) (nY 6 _ _ _)=some (.nx δ')/\_;have hm:=ok.mn;have hn:=ok.n41;have e0:nY 6 (aE (aD n f)) (.lst (aV n p)) [.int (m:Int)]=[some (aE (aD n f)),some (.lst (aV n p)),some (.int (m:Int)),none,none,none]:=rfl;rw [e0];have row:∀ j,ldF f m m j=f m j/\ldP f p m m j=p m j:=fun j=>by
    unfold ldF ldP;rw [h0,j3,jg];exact ⟨rfl,rfl⟩
   have col:∀ i,ldF f m i m=f i m/\ldP f p m i m=p i m:=fun i=>by
    unfold ldF ldP;rw [h0,dJ,jg];exact ⟨rfl,rfl⟩
   obtain ⟨g,hg⟩:∃ g:Nat->Nat->Nat->Nat->Bn,g=fun i j x y=>if x < i \/ (x=i/\y < j) then ldF f m x y else f x y:=⟨_,rfl⟩
   obtain ⟨r,hr'⟩:∃ r:Nat->Nat->Nat->Nat->List Nat,r=fun i j x y=>if x < i \/ (x=i/\y < j) then ldP f p m x y else p x y:=⟨_,rfl⟩
   have g1:∀ i j x,g i j x m=f x m/\r i j x m=p x m:=fun i j x=>by
    rw [hg,hr'];dsimp only;split
    . exact col x
    . exact ⟨rfl,rfl⟩
   have g2:∀ i j y,g i j m y=f m y/\r i j m y=p m y:=fun i j y=>by
    rw [hg,hr'];dsimp only;split
    . exact row y
    . exact ⟨rfl,rfl⟩
   have g3:∀ i j,g i j i j=f i j/\r i j i j=p i j:=fun i j=>by
    rw [hg,hr'];dsimp only;rw [if_neg (by omega),if_neg (by omega)]
    exact ⟨rfl,rfl⟩
   have lenO:=fun i j=>CV (bu n (g i j))
   have hv:=fun i j (o3 o4 o5:Option D)=>dB (g:=af (au gu (af (ah 0) ak)) ak) (δ:=[some (aE (aD n (g i j))),some (.lst (aV n (r i j))),some (.int (m:Int)),o3,o4,o5]) (n:=n) (by simp only [ah,ak,af,au,Zc,Zd,lenO]) (by omega)
   have inn:∀ (i:Nat),i < n->∀ o4 o5:Option D,∃ δ',Dl.forM 4 ((bf (aX 5 (vI (au (fn bY) (af (f2 gIx (f2 gIx (ah 0) (ah 3)) (ah 2)) (af (f2 gIx (f2 gIx (ah 0) (ah 2)) (ah 4)) ak))))) (sIf (fT (au (fn fu) (af (ah 5) (af (f2 gIx (f2 gIx (ah 0) (ah 3)) (ah 4)) ak)))) (bf (gF 0 (ah 3) (ah 4) (gA 5)) (gF 1 (ah 3) (ah 4) (iX (f2 gIx (f2 gIx (ah 1) (ah 3)) (ah 2)) (f2 gIx (f2 gIx (ah 1) (ah 2)) (ah 4))))) bF))) ((List.range n).map fun (i:Nat)=>D.int (i:Int)) [some (aE (aD n (g i 0))),some (.lst (aV n (r i 0))),some (.int (m:Int)),some (.int (i:Int)),o4,o5]=some (.nx δ')/\∃ o4 o5,δ'=[some (aE (aD n (g i n))),some (.lst (aV n (r i n))),some (.int (m:Int)),some (.int (i:Int)),o4,o5]:=fun i hi o4 o5=>by
    have:=dz (i:=4) (s:=((bf (aX 5 (vI (au (fn bY) (af (f2 gIx (f2 gIx (ah 0) (ah 3)) (ah 2)) (af (f2 gIx (f2 gIx (ah 0) (ah 2)) (ah 4)) ak))))) (sIf (fT (au (fn fu) (af (ah 5) (af (f2 gIx (f2 gIx (ah 0) (ah 3)) (ah 4)) ak)))) (bf (gF 0 (ah 3) (ah 4) (gA 5)) (gF 1 (ah 3) (ah 4) (iX (f2 gIx (f2 gIx (ah 1) (ah 3)) (ah 2)) (f2 gIx (f2 gIx (ah 1) (ah 2)) (ah 4))))) bF)))) (f:=fun (i:Nat)=>D.int (i:Int)) (fun pre δ=>∃ o4 o5,δ=[some (aE (aD n (g i pre.length))),some (.lst (aV n (r i pre.length))),some (.int (m:Int)),some (.int (i:Int)),o4,o5]) (List.range n) (by
     rintro pre x post _ hx ⟨o4,o5,rfl⟩
     obtain ⟨rfl,hj⟩:=bH hx;rw [Zh,List.length_singleton];generalize pre.length=j at *
     obtain ⟨r1,q1,q2,q3,q4,q5⟩:=ki (bu n (g i j)) hi hm;obtain ⟨r2,u1,u2,u3,u4,u5⟩:=ki (bu n (g i j)) hm hj;obtain ⟨r3,v1,v2,v3,v4,v5⟩:=ki (bu n (g i j)) hi hj;rw [bq _ hi hm,(g1 i j i).1] at q2;rw [bq _ hm hj,(g2 i j j).1] at u2;rw [bq _ hi hj,(g3 i j).1] at v2;have s1:((aX 5 (vI (au (fn bY) (af (f2 gIx (f2 gIx (ah 0) (ah 3)) (ah 2)) (af (f2 gIx (f2 gIx (ah 0) (ah 2)) (ah 4)) ak)))))) [some (aE (aD n (g i j))),some (.lst (aV n (r i j))),some (.int (m:Int)),some (.int (i:Int)),some (.int (j:Int)),o5]=some (.nx [some (aE (aD n (g i j))),some (.lst (aV n (r i j))),some (.int (m:Int)),some (.int (i:Int)),some (.int (j:Int)),some (bdD (bs (f i m) (f m j)))]):=bA (bJ (d:=bdD (bs (f i m) (f m j))) (by simp only [ah,f2,ak,af,au,Zc,Zd,Ze,q1,q2,u1,u2,mJ]) (iR _))
     cases ht:tgt (bs (f i m) (f m j)) (f i j) with
     | false =>
      refine ⟨_,aw s1 (cf (by simp only [ah,f2,fT,asB,ak,af,au,Zc,Zd,Ze,v1,v2,qR,ht]) rfl),some (.int (j:Int)),some (bdD (bs (f i m) (f m j))),?_⟩
      have t1:aD n (g i j)=aD n (g i (j+1)):=be fun x y hx hy=>by
       rw [hg];dsimp only
       by_cases z:x < i \/ (x=i/\y < j)
       . rw [if_pos z,if_pos (by omega)]
       . rw [if_neg z]
         by_cases z2:x=i/\y=j
         . rw [if_pos (by omega)]
           obtain ⟨rfl,rfl⟩:=z2;unfold ldF;rw [ht];rfl
         . rw [if_neg (by omega)]
      have t2:aV n (r i j)=aV n (r i (j+1)):=eV fun x y hx hy=>by
       rw [hr'];dsimp only
       by_cases z:x < i \/ (x=i/\y < j)
       . rw [if_pos z,if_pos (by omega)]
       . rw [if_neg z]
         by_cases z2:x=i/\y=j
         . rw [if_pos (by omega)]
           obtain ⟨rfl,rfl⟩:=z2;unfold ldP;rw [ht];rfl
         . rw [if_neg (by omega)]
      rw [t1,t2]
     | true =>
      obtain ⟨w1,w2⟩:=uj (r i j) hi hm;obtain ⟨w3,w4⟩:=uj (r i j) hm hj;rw [(g1 i j i).2] at w2;rw [(g2 i j j).2] at w4;have l1:=ok.ln i m hi hm;have l2:=ok.ln m j hm hj;have ei:intsD (p i m++p m j)=intsD (p i m)++intsD (p m j):=List.map_append;have t1:pP (aD n (g i j)) i j (bs (f i m) (f m j))=aD n (g i (j+1)):=by
       rw [ij _ _ hi hj];refine be fun x y hx hy=>?_
       rw [hg];unfold up2;dsimp only
       by_cases z2:x=i/\y=j
       . rw [if_pos z2,if_pos (by omega)]
         obtain ⟨rfl,rfl⟩:=z2;unfold ldF;rw [ht];rfl
       . rw [if_neg z2]
         by_cases z:x < i \/ (x=i/\y < j)
         . rw [if_pos z,if_pos (by omega)]
         . rw [if_neg z,if_neg (by omega)]
      have t2:(aV n (r i j)).set i (.lst ((fX n (r i j i)).set j (.lst (intsD (p i m++p m j)))))=aV n (r i (j+1)):=by
       rw [zC _ _ hi hj];refine eV fun x y hx hy=>?_
       rw [hr'];unfold up2;dsimp only
       by_cases z2:x=i/\y=j
       . rw [if_pos z2,if_pos (by omega)]
         obtain ⟨rfl,rfl⟩:=z2;unfold ldP;rw [ht];rfl
       . rw [if_neg z2]
         by_cases z:x < i \/ (x=i/\y < j)
         . rw [if_pos z,if_pos (by omega)]
         . rw [if_neg z,if_neg (by omega)]
      have p1:=wR (δ:=[some (aE (aD n (g i j))),some (.lst (aV n (r i j))),some (.int (m:Int)),some (.int (i:Int)),some (.int (j:Int)),some (bdD (bs (f i m) (f m j)))]) (p:=0) (fk:=ah 3) (fl:=ah 4) (fm:=gA 5) (v:=bdD (bs (f i m) (f m j))) (i:=i) (j:=j) (zt rfl) rfl rfl v3 rfl (by rw [d7,v4];exact hj)
      rw [qi v5,t1] at p1;have p1':gF 0 (ah 3) (ah 4) (gA 5) [some (aE (aD n (g i j))),some (.lst (aV n (r i j))),some (.int (m:Int)),some (.int (i:Int)),some (.int (j:Int)),some (bdD (bs (f i m) (f m j)))]=some (.nx [some (aE (aD n (g i (j+1)))),some (.lst (aV n (r i j))),some (.int (m:Int)),some (.int (i:Int)),some (.int (j:Int)),some (bdD (bs (f i m) (f m j)))]):=by
       rw [p1];unfold aE;rfl
      have p2:=wR (δ:=[some (aE (aD n (g i (j+1)))),some (.lst (aV n (r i j))),some (.int (m:Int)),some (.int (i:Int)),some (.int (j:Int)),some (bdD (bs (f i m) (f m j)))]) (p:=1) (fk:=ah 3) (fl:=ah 4) (fm:=iX (f2 gIx (f2 gIx (ah 1) (ah 3)) (ah 2)) (f2 gIx (f2 gIx (ah 1) (ah 2)) (ah 4))) (v:=.lst (intsD (p i m++p m j))) (i:=i) (j:=j) (by
       rw [ei];exact rg (a:=.lst (intsD (p i m))) (b:=.lst (intsD (p m j))) (by simp only [ah,f2,Zc,Zd,Ze,w1,w2]) (by simp only [ah,f2,Zc,Zd,Ze,w3,w4]) rfl rfl (by unfold intsD;rw [Zi,Zi];omega) (by rw [<- ei];exact oV _)) rfl rfl (aY _ hi) rfl (by unfold fX;rw [Zi,ZF];exact hj)
      rw [t2] at p2;have p2':gF 1 (ah 3) (ah 4) (iX (f2 gIx (f2 gIx (ah 1) (ah 3)) (ah 2)) (f2 gIx (f2 gIx (ah 1) (ah 2)) (ah 4))) [some (aE (aD n (g i (j+1)))),some (.lst (aV n (r i j))),some (.int (m:Int)),some (.int (i:Int)),some (.int (j:Int)),some (bdD (bs (f i m) (f m j)))]=some (.nx [some (aE (aD n (g i (j+1)))),some (.lst (aV n (r i (j+1)))),some (.int (m:Int)),some (.int (i:Int)),some (.int (j:Int)),some (bdD (bs (f i m) (f m j)))]):=by
       rw [p2];rfl
      have cnd:(fT (au (fn fu) (af (ah 5) (af (f2 gIx (f2 gIx (ah 0) (ah 3)) (ah 4)) ak)))) [some (aE (aD n (g i j))),some (.lst (aV n (r i j))),some (.int (m:Int)),some (.int (i:Int)),some (.int (j:Int)),some (bdD (bs (f i m) (f m j)))]=some true:=by simp only [ah,f2,fT,asB,ak,af,au,Zc,Zd,Ze,v1,v2,qR,ht]
      exact ⟨_,aw s1 (dL cnd (aw p1' p2')),some (.int (j:Int)),some (bdD (bs (f i m) (f m j))),rfl⟩) (List.range n) [] [some (aE (aD n (g i 0))),some (.lst (aV n (r i 0))),some (.int (m:Int)),some (.int (i:Int)),o4,o5] rfl ⟨_,_,rfl⟩
    rw [ZF] at this;exact this
   have nxt:∀ i,aD n (g i n)=aD n (g (i+1) 0)/\aV n (r i n)=aV n (r (i+1) 0):=fun i=>by
    refine ⟨be fun x y hx hy=>?_,eV fun x y hx hy=>?_⟩
    . rw [hg];dsimp only
      by_cases z:x < i \/ (x=i/\y < n)
      . rw [if_pos z,if_pos (by omega)]
      . rw [if_neg z,if_neg (by omega)]
    . rw [hr'];dsimp only
      by_cases z:x < i \/ (x=i/\y < n)
      . rw [if_pos z,if_pos (by omega)]
      . rw [if_neg z,if_neg (by omega)]
   obtain ⟨_,w,o3,o4,o5,rfl⟩:=dz (i:=3) (s:=((i7 (ia (af (au gu (af (ah 0) ak)) ak)) 4 (bf (aX 5 (vI (au (fn bY) (af (f2 gIx (f2 gIx (ah 0) (ah 3)) (ah 2)) (af (f2 gIx (f2 gIx (ah 0) (ah 2)) (ah 4)) ak))))) (sIf (fT (au (fn fu) (af (ah 5) (af (f2 gIx (f2 gIx (ah 0) (ah 3)) (ah 4)) ak)))) (bf (gF 0 (ah 3) (ah 4) (gA 5)) (gF 1 (ah 3) (ah 4) (iX (f2 gIx (f2 gIx (ah 1) (ah 3)) (ah 2)) (f2 gIx (f2 gIx (ah 1) (ah 2)) (ah 4))))) bF))))) (f:=fun (i:Nat)=>D.int (i:Int)) (fun pre δ=>∃ o3 o4 o5,δ=[some (aE (aD n (g pre.length 0))),some (.lst (aV n (r pre.length 0))),some (.int (m:Int)),o3,o4,o5]) (List.range n) (by
    rintro pre x post _ hx ⟨o3,o4,o5,rfl⟩
    obtain ⟨rfl,hi⟩:=bH hx;rw [Zh,List.length_singleton];generalize pre.length=i at *
    obtain ⟨_,f1,o4',o5',rfl⟩:=inn i hi o4 o5;rw [(nxt i).1,(nxt i).2] at f1;exact ⟨_,cw (hv i 0 _ _ _) f1,_,_,_,rfl⟩) (List.range n) [] [some (aE (aD n (g 0 0))),some (.lst (aV n (r 0 0))),some (.int (m:Int)),none,none,none] rfl ⟨_,_,_,rfl⟩
   rw [ZF] at w;have z1:aD n (g 0 0)=aD n f:=be fun x y hx hy=>by rw [hg];exact if_neg (by omega)
   have z2:aV n (r 0 0)=aV n p:=eV fun x y hx hy=>by rw [hr'];exact if_neg (by omega)
   have z3:aD n (g n 0)=aD n (ldF f m):=be fun x y hx hy=>by rw [hg];exact if_pos (by omega)
   have z4:aV n (r n 0)=aV n (ldP f p m):=eV fun x y hx hy=>by rw [hr'];exact if_pos (by omega)
   have hv0:=hv 0 0 none none none;rw [z1,z2] at w hv0;rw [z3,z4] at w;exact ⟨_,cw hv0 w,rfl,rfl⟩
theorem ma:aF ["parts","told","part"] ["parts"] (aq iJ):=⟨rfl,rfl,rfl,by decide +kernel,rfl,by decide +kernel,by decide +kernel⟩
theorem ic {S:D}:∀ (ps:List (Int×Int)) (o:Option (Int×Int)) (x:Option D),(∀ p∈ps,Fk p)->(∀ p,o=some p->Fk p)->∃ x',kj (lg 2) ((sIf (eK (fT (f2 bP (ah 1) (fC .non))) (fT (au (fn fU) (af (ah 1) (af (ah 2) ak))))) (dR 1 (ah 2)) bF)) (ps.map fr) [some S,some (opD o),x]=some (.nx [some S,some (opD (gre ps o)),x'])
 | [],o,x,_,_=>⟨x,by cases o <;> rfl⟩
 | p :: ps,o,x,hp,ho=>by
  have h1:=hp p Zk;have h2:∀ r∈ps,Fk r:=fun r m=>hp r (Zl _ m)
  cases o with
  | none =>
   obtain ⟨x',e⟩:=ic (S:=S) ps (some p) (some (fr p)) h2 (fun q e=>by cases e;exact h1)
   refine ⟨x',?_⟩;rw [Zr];simp only [bF,dR,sIf,lg,kj,ah,fC,f2,fT,asB,eK,ak,af,au,Zc,Zd,Ze,Zf,Zg,bP,bi,opD,bP,bi] at e ⊢;exact e
  | some q =>
   have hq:=ho q rfl;have el:=e2 (op:=fun p q=>D.bl (decide (p.1*q.2 < q.1*p.2))) hq h1
   obtain ⟨x',e⟩:=ic (S:=S) ps (some (if q.1*p.2 < p.1*q.2 then p else q)) (some (fr p)) h2 (fun r e=>by
    cases e;split
    . exact h1
    . exact hq)
   refine ⟨x',?_⟩;rw [Zr]
   by_cases c:q.1*p.2 < p.1*q.2
   . rw [if_pos c] at e;rw [decide_eq_true c] at el;simp only [bF,dR,sIf,lg,kj,ah,fC,f2,fT,asB,eK,ak,af,au,Zc,Zd,Ze,Zf,Zg,bP,bi,opD,bP,bi,el] at e ⊢;rw [show gre (p :: ps) (some q)=gre ps (some p) by show gre ps (some (if q.1*p.2 < p.1*q.2 then p else q))=_;rw [if_pos c]]
     exact e
   . rw [if_neg c] at e;rw [decide_eq_false c] at el;simp only [bF,dR,sIf,lg,kj,ah,fC,f2,fT,asB,eK,ak,af,au,Zc,Zd,Ze,Zf,Zg,bP,bi,opD,bP,bi,el] at e ⊢;rw [show gre (p :: ps) (some q)=gre ps (some q) by show gre ps (some (if q.1*p.2 < p.1*q.2 then p else q))=_;rw [if_neg c]]
     exact e
theorem tZ (F:Fun K "greatest" "greatest" iJ f fd)  (hless:Has P w K mg base 1 "less" ["one","other"] (fn fU))  :FnOk P w K mg base CX0 2 f fd ["parts"] (bz K 1 (fn gQ)):=by
 have sc:=ma;refine bK F ma (fun cdv A outer s H E ds d hr hG hl=>?_)
 obtain ⟨x,ps,hx,hp,rfl,rfl⟩:=aT hG;refine ⟨_,(aG (bB 1 sc.nd bp)
  (aG (xc PassesOwn.never rfl (iw (aa 0)) (kS 2 sc.nd)
   (aK (cE (PWD.pt (gG (cN (aa 1) bp) (gj (bU (ay hless hr (ae (aa 1) (ae (aa 2) aj))))))) (aK (bB 1 sc.nd (aa 2))) bL)))
  (aK (aQ (aa 1))))),?_⟩
 . show aJ ((?f:SD) [some _,none,none])=_;obtain ⟨x',e⟩:=ic (S:=x) ps none none hp (fun p e=>nomatch e)
   have e':B6 (fun δ=>(ah 0 δ).bind asL) (lg 2) ((sIf (eK (fT (f2 bP (ah 1) (fC .non))) (fT (au (fn fU) (af (ah 1) (af (ah 2) ak))))) (dR 1 (ah 2)) bF)) [some x,some .non,none]=some (.nx [some x,some (opD (gre ps none)),x']):=by
    show ((asL x).bind fun ds=>kj (lg 2) ((sIf (eK (fT (f2 bP (ah 1) (fC .non))) (fT (au (fn fU) (af (ah 1) (af (ah 2) ak))))) (dR 1 (ah 2)) bF)) ds [some x,some .non,none])=_
    rw [hx];exact e
   exact (congrArg (fun z=>aJ (Option.bind z (cC (du (ah 1))))) e').trans rfl
theorem tD:aF ["parts","told","part"] ["parts"] (aq m9):=⟨rfl,rfl,rfl,by decide +kernel,rfl,by decide +kernel,by decide +kernel⟩
theorem kg {S:D}:∀ (ps:List (Int×Int)) (o:Option (Int×Int)) (x:Option D),(∀ p∈ps,Fk p)->(∀ p,o=some p->Fk p)->∃ x',kj (lg 2) ((sIf (eK (fT (f2 bP (ah 1) (fC .non))) (fT (au (fn fU) (af (ah 2) (af (ah 1) ak))))) (dR 1 (ah 2)) bF)) (ps.map fr) [some S,some (opD o),x]=some (.nx [some S,some (opD (lea ps o)),x'])
 | [],o,x,_,_=>⟨x,by cases o <;> rfl⟩
 | p :: ps,o,x,hp,ho=>by
  have h1:=hp p Zk;have h2:∀ r∈ps,Fk r:=fun r m=>hp r (Zl _ m)
  cases o with
  | none =>
   obtain ⟨x',e⟩:=kg (S:=S) ps (some p) (some (fr p)) h2 (fun q e=>by cases e;exact h1)
   refine ⟨x',?_⟩;rw [Zr];simp only [bF,dR,sIf,lg,kj,ah,fC,f2,fT,asB,eK,ak,af,au,Zc,Zd,Ze,Zf,Zg,bP,bi,opD,bP,bi] at e ⊢;exact e
  | some q =>
   have hq:=ho q rfl;have el:=e2 (op:=fun p q=>D.bl (decide (p.1*q.2 < q.1*p.2))) h1 hq
   obtain ⟨x',e⟩:=kg (S:=S) ps (some (if p.1*q.2 < q.1*p.2 then p else q)) (some (fr p)) h2 (fun r e=>by
    cases e;split
    . exact h1
    . exact hq)
   refine ⟨x',?_⟩;rw [Zr]
   by_cases c:p.1*q.2 < q.1*p.2
   . rw [if_pos c] at e;rw [decide_eq_true c] at el;simp only [bF,dR,sIf,lg,kj,ah,fC,f2,fT,asB,eK,ak,af,au,Zc,Zd,Ze,Zf,Zg,bP,bi,opD,bP,bi,el] at e ⊢;rw [show lea (p :: ps) (some q)=lea ps (some p) by show lea ps (some (if p.1*q.2 < q.1*p.2 then p else q))=_;rw [if_pos c]]
     exact e
   . rw [if_neg c] at e;rw [decide_eq_false c] at el;simp only [bF,dR,sIf,lg,kj,ah,fC,f2,fT,asB,eK,ak,af,au,Zc,Zd,Ze,Zf,Zg,bP,bi,opD,bP,bi,el] at e ⊢;rw [show lea (p :: ps) (some q)=lea ps (some q) by show lea ps (some (if p.1*q.2 < q.1*p.2 then p else q))=_;rw [if_neg c]]
     exact e
theorem AB (F:Fun K "least" "least" m9 f fd)  (hless:Has P w K mg base 1 "less" ["one","other"] (fn fU))  :FnOk P w K mg base CX0 2 f fd ["parts"] (bz K 1 (fn sW)):=by
 have sc:=tD;refine bK F tD (fun cdv A outer s H E ds d hr hG hl=>?_)
 obtain ⟨x,ps,hx,hp,rfl,rfl⟩:=aT hG;refine ⟨_,(aG (bB 1 sc.nd bp)
  (aG (xc PassesOwn.never rfl (iw (aa 0)) (kS 2 sc.nd)
   (aK (cE (PWD.pt (gG (cN (aa 1) bp) (gj (bU (ay hless hr (ae (aa 2) (ae (aa 1) aj))))))) (aK (bB 1 sc.nd (aa 2))) bL)))
  (aK (aQ (aa 1))))),?_⟩
 . show aJ ((?f:SD) [some _,none,none])=_;obtain ⟨x',e⟩:=kg (S:=x) ps none none hp (fun p e=>nomatch e)
   have e':B6 (fun δ=>(ah 0 δ).bind asL) (lg 2) ((sIf (eK (fT (f2 bP (ah 1) (fC .non))) (fT (au (fn fU) (af (ah 2) (af (ah 1) ak))))) (dR 1 (ah 2)) bF)) [some x,some .non,none]=some (.nx [some x,some (opD (lea ps none)),x']):=by
    show ((asL x).bind fun ds=>kj (lg 2) ((sIf (eK (fT (f2 bP (ah 1) (fC .non))) (fT (au (fn fU) (af (ah 2) (af (ah 1) ak))))) (dR 1 (ah 2)) bF)) ds [some x,some .non,none])=_
    rw [hx];exact e
   exact (congrArg (fun z=>aJ (Option.bind z (cC (du (ah 1))))) e').trans rfl
theorem kD:aF ["_law_table","_law_point","_law_parts","_law_i","_law_j"] ["_law_table","_law_point"] (aq g6):=⟨rfl,rfl,rfl,by decide +kernel,rfl,by decide +kernel,by decide +kernel⟩
theorem rZ (F:Fun K "_law_lies" "_law_lies" g6 f fd)  (hLkeeps:Has P w K mg base 1 "_law_keeps" ["_law_part","_law_bound_here"] (fn eP)) (hLless:Has P w K mg base 1 "_law_less" ["_law_one","_law_other"] (fn c5))  (m_range:mg "range" = none) (m_len:mg "len" = none):FnOk P w K mg base CX0 2 f fd ["_law_table","_law_point"] (bC K 2 (fn hV)):=by
 have sc:=kD;refine bE F kD (fun cdv A outer s H E ds d hr hG hl=>?_)
 obtain ⟨d0,d1,T,ps,h1,h2,h3,h4,h5,h6,rfl,rfl⟩:=aT hG;have hown:own (.bl (se T ps))=true:=rfl;refine ⟨_,(aA (bn 2 sc.nd (nr (j8 (ae (eY (ae ao (ae ao aj))) aj)) (aa 1)))
  (aA (d5 3 sc.nd PassesOwn.never rfl (bo rfl m_range (ae (aW bc eL rfl m_len PySem.boot_len (ae (aa 2) aj)) aj))
   (aI (d5 4 sc.nd PassesOwn.never rfl (bo rfl m_range (ae (aW bc eL rfl m_len PySem.boot_len (ae (aa 2) aj)) aj))
    (aI (d4 (c9 (bU (ay hLkeeps hr (ae (ay hLless hr (ae (av (aa 2) (aa 3)) (ae (av (aa 2) (aa 4)) aj))) (ae (av (av (aa 0) (aa 3)) (aa 4)) aj))))) (aI (bg (aR gH))) cO)))))
  (aI (bg (aR gH))))),?_,?own⟩
 case own=>first | rfl | exact hown
 . show aJ ((?f:SD) (aH 5 _))=_;have e0:aH 5 [d0,d1]=[some (ax T),some (.seq (ps.map fr)),none,none,none]:=by
    show [some (sh d0),some (sh d1),none,none,none]=_;rw [show sh d0=_ from h1,show sh d1=_ from h5]
   rw [e0];have len:gu [.lst ((eW ps).map fr)]=some (.int ((ps.length+1:Nat):Int)):=by
    show some (D.int (((eW ps).map fr).length:Int))=_;rw [Zi];rfl
   have hv:=fun o3 o4:Option D=>dB (g:=af (au gu (af (ah 2) ak)) ak) (δ:=[some (ax T),some (.seq (ps.map fr)),some (.lst ((eW ps).map fr)),o3,o4]) (n:=ps.length+1) (by simp only [ah,ak,af,au,Zc,Zd,Ze,len]) (by omega)
   have inn:=fun (i:Nat) (hi:i < ps.length+1) (o:Option D)=>oY (i:=4) (s:=((sIf (bX (fT (au (fn eP) (af (au (fn c5) (af (f2 gIx (ah 2) (ah 3)) (af (f2 gIx (ah 2) (ah 4)) ak))) (af (f2 gIx (f2 gIx (ah 0) (ah 3)) (ah 4)) ak))))) (gE (vI (fC (.bl false)))) bF))) (f:=fun (i:Nat)=>D.int (i:Int)) (d:=.bl false) (fun δ=>∃ o,δ=[some (ax T),some (.seq (ps.map fr)),some (.lst ((eW ps).map fr)),some (.int (i:Int)),o]) (fun j=>kp (dif ps i j) (ap T i j)) (List.range (ps.length+1)) [some (ax T),some (.seq (ps.map fr)),some (.lst ((eW ps).map fr)),some (.int (i:Int)),o] ⟨_,rfl⟩ (by
    rintro j hj _ ⟨o,rfl⟩
    have hj:=Zo.mp hj;obtain ⟨r,q1,q2⟩:=lU h2 hi hj;have fi:=dr (by decide) h6 i
    have fj:=dr (by decide) h6 j
    have kk:fn eP [fr (dl (bI ps i) (bI ps j)),bdD (ap T i j)]=some (.bl (kp (dif ps i j) (ap T i j))):=by
     have:=sI (G0 fi fj (by decide)) (h4 i j)
     rw [GM fi.pos fj.pos] at this;exact this
    refine ⟨fun hb=>⟨_,DF (b:=false) (by simp only [ah,f2,fT,asB,bX,ak,af,au,Zc,Option.map_some,Zd,Ze,Zf,Zg,Bool.not_true,rF,(jN hi).1,(jN hj).1,q1,q2,e2 (op:=fun p q=>fr (dl p q)) (Fk.of fi) (Fk.of fj),kk,hb]) rfl,_,rfl⟩,fun hb=>?_⟩
    exact DF (b:=true) (by simp only [ah,f2,fT,asB,bX,ak,af,au,Zc,Option.map_some,Zd,Ze,Zf,Zg,Bool.not_false,rF,(jN hi).1,(jN hj).1,q1,q2,e2 (op:=fun p q=>fr (dl p q)) (Fk.of fi) (Fk.of fj),kk,hb]) (bS (bJ rfl)))
   obtain ⟨k1,k2⟩:=oY (i:=3) (s:=((i7 (ia (af (au gu (af (ah 2) ak)) ak)) 4 (sIf (bX (fT (au (fn eP) (af (au (fn c5) (af (f2 gIx (ah 2) (ah 3)) (af (f2 gIx (ah 2) (ah 4)) ak))) (af (f2 gIx (f2 gIx (ah 0) (ah 3)) (ah 4)) ak))))) (gE (vI (fC (.bl false)))) bF)))) (f:=fun (i:Nat)=>D.int (i:Int)) (d:=.bl false) (fun δ=>∃ o p,δ=[some (ax T),some (.seq (ps.map fr)),some (.lst ((eW ps).map fr)),o,p]) (fun i=>(List.range (ps.length+1)).all fun j=>kp (dif ps i j) (ap T i j)) (List.range (ps.length+1)) [some (ax T),some (.seq (ps.map fr)),some (.lst ((eW ps).map fr)),none,none] ⟨_,_,rfl⟩ (by
    rintro i hi _ ⟨o,p,rfl⟩
    have hi:=Zo.mp hi;obtain ⟨w1,w2⟩:=inn i hi p;refine ⟨fun hb=>?_,fun hb=>cw (hv _ _) (w2 hb)⟩
    obtain ⟨_,f1,o',rfl⟩:=w1 hb;exact ⟨_,cw (hv _ _) f1,_,_,rfl⟩)
   have cat:iX (kl (af (jR (af (fC (.int 0)) (af (fC (.int 1)) ak))) ak)) (ah 1) [some (ax T),some (.seq (ps.map fr)),none,none,none]=some (.lst ((eW ps).map fr),[some (ax T),some (.seq (ps.map fr)),none,none,none]):=rg (a:=.lst [fr (0,1)]) (xs:=[fr (0,1)]) (ys:=ps.map fr) rfl rfl rfl rfl (by rw [Zi];simp only [Zj,List.length_nil];omega) (uv (eW ps))
   have ea:se T ps=(List.range (ps.length+1)).all fun i=>(List.range (ps.length+1)).all fun j=>kp (dif ps i j) (ap T i j):=rfl
   refine cD (aw (cT cat) ?_);dsimp only [List.set_cons_zero,List.set_cons_succ];cases hq:se T ps with
   | true =>
    obtain ⟨_,w,o,p,rfl⟩:=k1 (ea ▸ hq);exact aw (cw (hv _ _) w) (bS (bJ rfl))
   | false=>exact dS (cw (hv _ _) (k2 (ea ▸ hq)))
theorem jW:aF ["_law_many","_law_seed","_law_left","_law_order_here","_law_k"] ["_law_many","_law_seed"] (aq gd):=⟨rfl,rfl,rfl,by decide +kernel,rfl,by decide +kernel,by decide +kernel⟩
def df (ds:List D) (d:D):Prop:=aJ (((bf (aX 2 (vc (ah 0))) (bf (aX 3 (zu yg)) (bf (i7 (ia (af (ah 0) ak)) 4 (iM 3 2 (f2 (gI (fun _ j=>0 < j) fun i j=>.int (i % j)) (f2 (gI ba fun i j=>.int (i / j)) (au (fn cu) (af (ah 1) (af (ah 4) ak))) (fC (.int 8))) (au gu (af (ah 2) ak))))) (gE (gA 3)))))) (aH 5 ds))=some d/\own d=true
theorem oy:∀ {L:List Nat} {i:Nat} (h:i < L.length),(L[i] :: L.eraseIdx i).Perm L
 | x :: L,0,_=>List.Perm.refl _
 | x :: L,i+1,h=>(List.Perm.swap x (L[i]'(Nat.lt_of_succ_lt_succ h)) (L.eraseIdx i)).trans ((oy (Nat.lt_of_succ_lt_succ h)).cons x)
theorem qQ {f:Nat->D}:∀ (L:List Nat) (i:Nat),(L.map f).eraseIdx i=(L.eraseIdx i).map f
 | [],_=>rfl
 | _ :: _,0=>rfl
 | x :: L,i+1=>by show f x :: (L.map f).eraseIdx i=_;rw [qQ L i];rfl
theorem Cz {n k:Nat} {seed:Int} {O L:List Nat} (hn:n<=41) (pm:(O++L).Perm (List.range n)) (hk:O.length=k) (kn:k < n):∃ O' L':List Nat,(O'++L').Perm (List.range n)/\O'.length=k+1/\((iM 3 2 (f2 (gI (fun _ j=>0 < j) fun i j=>.int (i % j)) (f2 (gI ba fun i j=>.int (i / j)) (au (fn cu) (af (ah 1) (af (ah 4) ak))) (fC (.int 8))) (au gu (af (ah 2) ak))))) [some (.int (n:Int)),some (.int seed),some (.lst (intsD L)),some (.lst (intsD O)),some (.int (k:Int))]=some (.nx [some (.int (n:Int)),some (.int seed),some (.lst (intsD L')),some (.lst (intsD O')),some (.int (k:Int))]):=by
 have len:O.length+L.length=n:=by have:=pm.length_eq;rw [Zh,ZF] at this;exact this
 have l0:0 < L.length:=by omega
 have mx:=lx (c:=seed) (k:=(k:Int)) (by omega) (by omega)
 have nn:=EX seed (k:Int);have lt:=EY seed (k:Int);generalize mxd seed (k:Int)=w at *
 have d8:ba w 8:=⟨by decide,hI⟩
 have i0:0<=w / 8 % (L.length:Int):=Int.emod_nonneg _ (by omega)
 have i1:w / 8 % (L.length:Int) < (L.length:Int):=Int.emod_lt_of_pos _ (by omega)
 obtain ⟨i,ei⟩:∃ i:Nat,w / 8 % (L.length:Int)=(i:Int):=⟨(w / 8 % (L.length:Int)).toNat,by omega⟩
 rw [ei] at i0 i1;have il:i < L.length:=by omega
 refine ⟨O++[L[i]],L.eraseIdx i,?_,by rw [Zh,hk];rfl,?_⟩
 . rw [List.append_assoc];exact ((oy il).append_left O).trans pm
 . have gl:gu [.lst (intsD L)]=some (.int (L.length:Int)):=by
    show some (D.int ((intsD L).length:Int))=_;unfold intsD;rw [Zi]
   have fk:(f2 (gI (fun _ j=>0 < j) fun i j=>.int (i % j)) (f2 (gI ba fun i j=>.int (i / j)) (au (fn cu) (af (ah 1) (af (ah 4) ak))) (fC (.int 8))) (au gu (af (ah 2) ak))) [some (.int (n:Int)),some (.int seed),some (.lst (intsD L)),some (.lst (intsD O)),some (.int (k:Int))]=some (.int (i:Int)):=by
    rw [<- ei];simp only [ah,fC,f2,ak,af,au,Zc,Zd,Ze,mx,aC (C:=ba) d8,gl,aC (C:=fun _ j=>0 < j) (i:=w / 8) (j:=(L.length:Int)) (by omega)]
   show iM 3 2 _ _=_;unfold iM;show (if (3:Nat) ≠ 2/\bG (intsD O)=true/\(intsD O).length < 1000/\bG (intsD L)=true/\(intsD L).length<=1000 then _ else _)=_
   have im:∀ r:List Nat,bG (intsD r)=true:=fun r=>imms_mem.mpr fun d m=>by
    obtain ⟨x,_,rfl⟩:=Zn.mp m;rfl
   have ln:∀ r:List Nat,(intsD r).length=r.length:=fun r=>Zi _
   rw [if_pos ⟨by decide,im O,by rw [ln];omega,im L,by rw [ln];omega⟩,fk]
   show (if 0<=(i:Int) then ((intsD L)[(i:Int).toNat]?).bind _ else none)=_
   rw [if_pos (by omega),Int.toNat_natCast]
   have ge:(intsD L)[i]? = some (.int ((L[i]:Nat):Int)):=by
    unfold intsD;rw [ZD,Zt il];rfl
   rw [ge];have e1:(intsD L).eraseIdx i=intsD (L.eraseIdx i):=by exact qQ L i
   have e2:intsD O++[.int ((L[i]:Nat):Int)]=intsD (O++[L[i]]):=by unfold intsD;rw [List.map_append];rfl
   show some (Res.nx [some (.int (n:Int)),some (.int seed),some (.lst ((intsD L).eraseIdx i)),some (.lst (intsD O++[.int ((L[i]:Nat):Int)])),some (.int (k:Int))])=_;rw [e1,e2]
theorem rj {n:Nat} {seed:Int} (hn:n<=41):∃ o:List Nat,o.Perm (List.range n)/\fn df [.int (n:Int),.int seed]=some (.lst (intsD o)):=by
 have e0:aH 5 [.int (n:Int),.int seed]=[some (.int (n:Int)),some (.int seed),none,none,none]:=rfl;obtain ⟨_,w,O,L,o,rfl,pm,ol⟩:=dz (i:=4) (s:=((iM 3 2 (f2 (gI (fun _ j=>0 < j) fun i j=>.int (i % j)) (f2 (gI ba fun i j=>.int (i / j)) (au (fn cu) (af (ah 1) (af (ah 4) ak))) (fC (.int 8))) (au gu (af (ah 2) ak)))))) (f:=fun (i:Nat)=>D.int (i:Int)) (fun pre δ=>∃ (O L:List Nat) (o:Option D),δ=[some (.int (n:Int)),some (.int seed),some (.lst (intsD L)),some (.lst (intsD O)),o]/\(O++L).Perm (List.range n)/\O.length=pre.length) (List.range n) (by
  rintro pre x post _ hx ⟨O,L,o,rfl,pm,ol⟩
  obtain ⟨rfl,hl⟩:=bH hx;obtain ⟨O',L',pm',ol',st⟩:=Cz (seed:=seed) hn pm ol hl;exact ⟨_,st,O',L',_,rfl,pm',by rw [ol',Zh];rfl⟩) (List.range n) [] [some (.int (n:Int)),some (.int seed),some (.lst (intsD (List.range n))),some (.lst (intsD [])),none] rfl ⟨[],List.range n,none,rfl,List.Perm.refl _,rfl⟩
 rw [ZF] at ol;have len:O.length+L.length=n:=by have:=pm.length_eq;rw [Zh,ZF] at this;exact this
 have l0:L=[]:=List.length_eq_zero_iff.mp (by omega)
 subst l0;rw [List.append_nil] at pm;have key:df [.int (n:Int),.int seed] (.lst (intsD O)):=by
  refine ⟨?_,by show gn (intsD O)=true;exact eZ O⟩
  rw [e0];refine cD (aw (δ':=[some (.int (n:Int)),some (.int seed),some (.lst (intsD (List.range n))),none,none]) (cT (d:=.lst (intsD (List.range n))) (δ':=[some (.int (n:Int)),some (.int seed),none,none,none]) ?_) (aw (δ':=[some (.int (n:Int)),some (.int seed),some (.lst (intsD (List.range n))),some (.lst (intsD [])),none]) rfl (aw (cw (dB (n:=n) rfl (by omega)) w) (bS (rf rfl)))))
  show ((vv (.int (n:Int))).bind fun x=>some (x,_))=_
  have:vv (.int (n:Int))=some (.lst (intsD (List.range n))):=by
   show (if 0<=(n:Int)/\(n:Int)<=1000 then some (D.lst ((rgI (n:Int).toNat).map D.int)) else none)=_
   rw [if_pos (by omega),Int.toNat_natCast]
   unfold rgI intsD;rw [List.map_map];rfl
  rw [this];rfl
 exact ⟨O,pm,bN (fun d' h'=>ZA (h'.1.symm.trans key.1)) key⟩
theorem pR (F:Fun K "_law_order" "_law_order" gd f fd)  (hLmixed:HasF P w K mg base 1 "_law_mixed" ["_law_cell","_law_k"] (fn cu))  (m_list:mg "list" = none) (m_range:mg "range" = none) (m_len:mg "len" = none):FnOk P w K mg base CX0 2 f fd ["_law_many","_law_seed"] (bC K 2 (fn df)):=by
 have sc:=jW;refine bE F jW (fun cdv A outer s H E ds d hr hG hl=>?_)
 obtain ⟨hb,hown⟩:=aT hG;refine ⟨_,(aA (bn 2 sc.nd (zZ rfl m_list rfl m_range (aa 0)))
  (aA (bn 3 sc.nd (rM iN))
  (aA (d5 4 sc.nd PassesOwn.never rfl (bo rfl m_range (ae (aa 0) aj))
   (aI (yx 3 2 (xl PySem.F.plainAttrs_list PySem.F.slot_list_append PySem.F.type_list_append qA (pvi 3) (d6 (xl PySem.F.plainAttrs_list PySem.F.slot_list_pop PySem.F.type_list_pop AF (pvi 2) (d6 (cV (bV (ay hLmixed.has hr (ae (aa 1) (ae (aa 4) aj))) ao) (aW bc eL rfl m_len PySem.boot_len (ae (aa 2) aj))) jo)) jo)))))
  (aI (bg (dG 3)))))),?_,?own⟩
 case own=>first | rfl | exact hown
 . show aJ ((?f:SD) (aH 5 _))=_;exact hb
theorem jZ:aF ["_law_cell","_law_k","_law_drawn","_law_number"] ["_law_cell","_law_k"] (aq gh):=⟨rfl,rfl,rfl,by decide +kernel,rfl,by decide +kernel,by decide +kernel⟩
theorem pU (F:Fun K "_law_bound" "_law_bound" gh f fd)  (hLmixed:Has P w K mg base 1 "_law_mixed" ["_law_cell","_law_k"] (fn cu))  :FnOk P w K mg base CX0 2 f fd ["_law_cell","_law_k"] (bz K 2 (fn eQ)):=by
 have sc:=jZ;refine bK F jZ (fun cdv A outer s H E ds d hr hG hl=>?_)
 obtain ⟨c,k,h0,h1,rfl,rfl⟩:=aT hG;refine ⟨_,(aG (bB 2 sc.nd (ay hLmixed hr (ae (aa 0) (ae (aa 1) aj))))
  (aG (cE (vz hr.units0 (cV (aa 2) ao) ao) (aK (aQ bp)) bL)
  (aG (bB 3 sc.nd (dk (rS (cV (bV (aa 2) ao) ao) ao) (cF ao (cV (aa 0) ao))))
  (aG (cE (vz hr.units0 (cV (aa 0) ao) ao) (aK (bB 3 sc.nd (rS (cV (bV (aa 0) ao) (dk (cF ao (Am ao ao)) ao)) (Am ao ao)))) bL)
  (aK (aQ (eY (ae (aa 3) (ae (DO hr.units0 (cV (bV (aa 2) ao) ao) ao) aj))))))))),?_⟩
 . show aJ ((?f:SD) [some _,some _,none,none])=_;have mx:=lx (c:=c) h0 h1;unfold bnd;generalize mxd c k=w at mx;have p50:zo 10 50:=⟨by decide,by decide,by decide⟩
   have t50:(10:Int) ^ (50:Int).toNat=10 ^ 50:=rfl;have bm:bZ 2 (10 ^ 50):=⟨hI,iE (k:=200) (show (10 ^ 50:Int).natAbs < 2 ^ 200 by decide)⟩
   have c16:ba c 16:=⟨by decide,hI⟩
   have w16:ba w 16:=⟨by decide,hI⟩
   have w256:ba w 256:=⟨by decide,hI⟩
   have m3:bZ 3 (c % 2):=⟨hI,hI (by omega)⟩
   by_cases a:w % 16=3
   . have a1:(w % 16 == 3)=true:=by simp [a]
     rw [if_pos a];simp only [aJ,bF,cC,bf,du,dR,sIf,ah,fC,f2,fT,asB,ak,af,au,eI,Zc,Zd,Ze,Zf,Zg,pC,mx,aC (C:=fun _ j=>0 < j) (i:=w) (j:=16) (by decide),a1]
   . have a1:(w % 16 == 3)=false:=by simp [a]
     rw [if_neg a]
     by_cases b:c % 16=7
     . have b1:(c % 16 == 7)=true:=by simp [b]
       rw [if_pos b];simp only [aJ,bF,cC,bf,du,dR,sIf,ah,fC,f2,fT,asB,ak,af,jR,au,gI0,dw,eI,Zc,Zd,Ze,Zf,Zg,aU,mx,aC (C:=fun _ j=>0 < j) (i:=w) (j:=16) (by decide),a1,aC (C:=ba) w16,aC (C:=fun _ j=>0 < j) (i:=w / 16) (j:=11) (by decide),aC (C:=fun _ j=>0 < j) (i:=c) (j:=2) (by decide),aC (C:=bZ) m3,aC (C:=fun _ j=>0 < j) (i:=c) (j:=16) (by decide),b1,aC (C:=zo) p50,t50,aC (C:=bZ) bm,aC (C:=ba) c16,aC (C:=fun _ j=>0 < j) (i:=c / 16) (j:=2*10 ^ 50+1) (by decide),aC (C:=ba) w256,aC (C:=fun _ j=>0 < j) (i:=w / 256) (j:=3) (by decide)]
     . have b1:(c % 16 == 7)=false:=by simp [b]
       rw [if_neg b];simp only [aJ,bF,cC,bf,du,dR,sIf,ah,fC,f2,fT,asB,ak,af,jR,au,gI0,dw,eI,Zc,Zd,Ze,Zf,Zg,aU,mx,aC (C:=fun _ j=>0 < j) (i:=w) (j:=16) (by decide),a1,aC (C:=ba) w16,aC (C:=fun _ j=>0 < j) (i:=w / 16) (j:=11) (by decide),aC (C:=fun _ j=>0 < j) (i:=c) (j:=2) (by decide),aC (C:=bZ) m3,aC (C:=fun _ j=>0 < j) (i:=c) (j:=16) (by decide),b1,aC (C:=ba) w256,aC (C:=fun _ j=>0 < j) (i:=w / 256) (j:=3) (by decide)]
theorem mB:aF ["_law_order_here","_law_bounds","_law_many","_law_made","_law_s","_law_t","_law_way"] ["_law_order_here","_law_bounds"] (aq iL):=⟨rfl,rfl,rfl,by decide +kernel,rfl,by decide +kernel,by decide +kernel⟩
theorem Ord.chn {n:Nat} {o:List Nat} {bl:List Bn} (k:Ord n o bl):Chn n o bl (gS o bl n):=Fu k.n2 k.ol k.ll k.lt k.nd
theorem lF {m i:Nat} (d:Nat) (h:i<=m):zJ m d (some (i:Int))=i:=by
 show (if (i:Int) < 0 then ((i:Int)+(m:Int)).toNat else min (i:Int).toNat m)=i
 rw [if_neg (by omega),Int.toNat_natCast]
 omega
theorem Dr {bl:List Bn} {s t:Nat} (hs:s<=bl.length) (ht:t<=bl.length):Dl.cutD (az bl) (some (s:Int)) (some (t:Int))=az ((bl.drop s).take (t - s)):=by
 unfold Dl.cutD;rw [lF (i:=s) _ (by rw [d7];exact hs),lF (i:=t) _ (by rw [d7];exact ht)]
 unfold az;rw [<- List.map_drop,<- List.map_take]
theorem Fq {bl:List Bn} {s:Nat} (hs:s<=bl.length):Dl.cutD (az bl) (some (s:Int)) none=az (bl.drop s):=by
 unfold Dl.cutD;rw [lF _ (by rw [d7];exact hs)]
 show ((az bl).drop s).take ((az bl).length - s)=_;rw [List.take_of_length_le (by rw [List.length_drop];exact ZG _)]
 unfold az;rw [<- List.map_drop]
theorem Fs {bl:List Bn} {t:Nat} (ht:t<=bl.length):Dl.cutD (az bl) none (some (t:Int))=az (bl.take t):=by
 unfold Dl.cutD;rw [lF _ (by rw [d7];exact ht)]
 show ((az bl).drop 0).take (t - 0)=_;rw [List.drop_zero,Nat.sub_zero];unfold az;rw [<- List.map_take]
theorem vQ {r:List Nat} {k:Nat} (h:k < r.length):gIx (.seq (intsD r)) (.int (k:Int))=some (.int ((r.getD k 0:Nat):Int)):=by
 show L2.atI (intsD r) (k:Int)=_;refine fR ?_;unfold intsD;rw [ZD,Zt h,Zs,Zt h];rfl
def mdF (o:List Nat) (bl:List Bn) (n s t i j:Nat):Bn:=if o.idxOf i < s \/ (o.idxOf i=s/\o.idxOf j < t) then duB o bl n i j else none
theorem Dm {n:Nat} {o:List Nat} {bl:List Bn} {s t:Nat} {f:Nat->Nat->Bn} {o6:Option D} (k:Ord n o bl) (hs:s < n) (ht:t < n):∃ p6,((bf (aX 6 (vSl (ah 1) (faS (ah 4)) (faS (ah 5)))) (bf (sIf (fT (f2 gGt (ah 4) (ah 5))) (aX 6 (ve (fSl (ah 1) (faS (ah 4)) faN) (fSl (ah 1) faN (faS (ah 5))))) bF) (i6 3 (f2 gIx (ah 0) (ah 4)) (f2 gIx (ah 0) (ah 5)) (fY (fn cB) (af (ah 6) ak)))))) [some (.seq (intsD o)),some (.seq (az bl)),some (.int (n:Int)),some (aE (aD n f)),some (.int (s:Int)),some (.int (t:Int)),o6]=some (.nx [some (.seq (intsD o)),some (.seq (az bl)),some (.int (n:Int)),some (aE (aD n (up2 f (o.getD s 0) (o.getD t 0) (cy bl n s t)))),some (.int (s:Int)),some (.int (t:Int)),p6]):=by
 have ll:=k.ll;have n4:=k.n4;have s1:aX 6 (vSl (ah 1) (faS (ah 4)) (faS (ah 5))) [some (.seq (intsD o)),some (.seq (az bl)),some (.int (n:Int)),some (aE (aD n f)),some (.int (s:Int)),some (.int (t:Int)),o6]=some (.nx [some (.seq (intsD o)),some (.seq (az bl)),some (.int (n:Int)),some (aE (aD n f)),some (.int (s:Int)),some (.int (t:Int)),some (.lst (az ((bl.drop s).take (t - s))))]):=by
  refine cT (d:=.lst (az ((bl.drop s).take (t - s)))) (δ':=[some (.seq (intsD o)),some (.seq (az bl)),some (.int (n:Int)),some (aE (aD n f)),some (.int (s:Int)),some (.int (t:Int)),o6]) ?_;show (gJ (.lst (Dl.cutD (az bl) (some (s:Int)) (some (t:Int)))) _)=_;rw [Dr (by omega) (by omega),kf]
 have s2:sIf (fT (f2 gGt (ah 4) (ah 5))) (aX 6 (ve (fSl (ah 1) (faS (ah 4)) faN) (fSl (ah 1) faN (faS (ah 5))))) bF [some (.seq (intsD o)),some (.seq (az bl)),some (.int (n:Int)),some (aE (aD n f)),some (.int (s:Int)),some (.int (t:Int)),some (.lst (az ((bl.drop s).take (t - s))))]=some (.nx [some (.seq (intsD o)),some (.seq (az bl)),some (.int (n:Int)),some (aE (aD n f)),some (.int (s:Int)),some (.int (t:Int)),some (.lst (az (sP bl s t)))]):=by
  have hc:fT (f2 gGt (ah 4) (ah 5)) [some (.seq (intsD o)),some (.seq (az bl)),some (.int (n:Int)),some (aE (aD n f)),some (.int (s:Int)),some (.int (t:Int)),some (.lst (az ((bl.drop s).take (t - s))))]=some (decide ((t:Int) < (s:Int))):=rfl;unfold sP
  by_cases z:t < s
  . rw [decide_eq_true (by omega)] at hc
    rw [if_pos z];refine dL hc (cT (d:=.lst (az (bl.drop s++bl.take t))) (δ':=[some (.seq (intsD o)),some (.seq (az bl)),some (.int (n:Int)),some (aE (aD n f)),some (.int (s:Int)),some (.int (t:Int)),some (.lst (az ((bl.drop s).take (t - s))))]) ?_);show ((yW (.lst (Dl.cutD (az bl) (some (s:Int)) none)) (.lst (Dl.cutD (az bl) none (some (t:Int))))).bind fun d=>gJ d _)=_
    rw [Fq (by omega),Fs (by omega)]
    show ((if (az (bl.drop s)).length+(az (bl.take t)).length<=1000 then some (D.lst (az (bl.drop s)++az (bl.take t))) else none).bind fun d=>gJ d _)=_
    rw [if_pos (by rw [d7,d7,List.length_drop,List.length_take];omega)]
    have e:az (bl.drop s)++az (bl.take t)=az (bl.drop s++bl.take t):=by unfold az;rw [List.map_append]
    rw [e];exact kf _ _
  . rw [decide_eq_false (by omega)] at hc
    rw [if_neg z];exact cf hc rfl
 have lc:(sP bl s t).length<=41:=by
  unfold sP;split
  . rw [Zh,List.length_drop,List.length_take];omega
  . rw [List.length_take,List.length_drop];omega
 have es:=pe (d0:=.lst (az (sP bl s t))) (rE _) lc;rw [Ft ll] at es;have lo:=k.chn.lt' hs;have lo2:=k.chn.lt' ht;refine ⟨some (.lst (az (sP bl s t))),aw s1 (aw s2 ?_)⟩;rw [<- ij f (cy bl n s t) lo lo2];exact ni (b:=cy bl n s t) (p:=3) (bu n f) lo lo2 (cL (ds:=[.lst (az (sP bl s t))]) rfl es (oE _)) rfl (vQ (by rw [k.ol];exact hs)) (vQ (by rw [k.ol];exact ht))
theorem CL {n:Nat} {o:List Nat} {bl:List Bn} {s t:Nat} (k:Ord n o bl) (hs:s < n) (ht:t < n):aD n (up2 (mdF o bl n s t) (o.getD s 0) (o.getD t 0) (cy bl n s t))=aD n (mdF o bl n s (t+1)):=be fun i j hi hj=>by
 have pi:=k.chn.pos hi;have pj:=k.chn.pos hj;unfold up2 mdF
 by_cases a:i=o.getD s 0/\j=o.getD t 0
 . have e1:=k.chn.inj pi.1 hs (pi.2.trans a.1);have e2:=k.chn.inj pj.1 ht (pj.2.trans a.2);rw [if_pos a,if_pos (.inr ⟨e1,by omega⟩)]
   unfold duB;rw [e1,e2]
 . rw [if_neg a];have ne:¬ (o.idxOf i=s/\o.idxOf j=t):=fun z=>a ⟨by rw [<- z.1,pi.2],by rw [<- z.2,pj.2]⟩
   by_cases b:o.idxOf i < s \/ (o.idxOf i=s/\o.idxOf j < t)
   . rw [if_pos b,if_pos (by omega)]
   . rw [if_neg b,if_neg (by omega)]
theorem E1 {n:Nat} {o:List Nat} {bl:List Bn} {s:Nat} (k:Ord n o bl):aD n (mdF o bl n s n)=aD n (mdF o bl n (s+1) 0):=be fun i j hi hj=>by
 have pj:=k.chn.pos hj;unfold mdF
 by_cases b:o.idxOf i < s \/ (o.idxOf i=s/\o.idxOf j < n)
 . rw [if_pos b,if_pos (by omega)]
 . rw [if_neg b,if_neg (by omega)]
theorem E2 {n:Nat} {o:List Nat} {bl:List Bn} (k:Ord n o bl):aD n (mdF o bl n n 0)=aD n (duB o bl n):=be fun i j hi hj=>by
 have pi:=k.chn.pos hi;unfold mdF;rw [if_pos (.inl pi.1)]
theorem CK {n:Nat} {o:List Nat} {bl:List Bn}:aD n (mdF o bl n 0 0)=aD n fun _ _=>none:=be fun i j hi hj=>by
 unfold mdF;rw [if_neg (by omega)]
theorem DU {n:Nat} {src:FA} {δ:DS} {js:List Nat} (hn:n<=41) (hs:src δ=some ((List.range n).map fun (i:Nat)=>D.int (i:Int))) (hj:bv js δ=[some (.int (n:Int))]):dP src js (dP (mL (af (ah 1) ak)) [] (vI (fC .non))) δ=some (aE (aD n fun _ _=>none),δ):=by
 have e:aE (aD n fun _ _=>none)=.lst ((List.range n).map fun _=>D.lst ((List.range n).map fun _=>D.non)):=by
  unfold aE eS aD om az;rw [List.map_map]
  congr 1
  apply List.map_congr_left
  intro i _;show D.lst (((List.range n).map fun _=>(none:Bn)).map bdD)=_
  rw [List.map_map];rfl
 rw [e];refine gw hs (fun i _=>?_) (by rw [ZF];omega)
 rw [hj];show Dl.ownOf _ [some (.int (i:Int)),some (.int (n:Int))]=_;refine vG (δ':=[some (.int (i:Int)),some (.int (n:Int))]) (gw (tu (ds:=[.int (n:Int)]) rfl (x6 (by omega))) (fun j _=>rfl) (by rw [ZF];omega)) ?_
 show gn _=true;refine kW (List.replicate n none) ▸ ?_;have:((List.range n).map fun _=>D.non)=az (List.replicate n none):=by
  unfold az;rw [List.map_replicate,List.map_const',ZF];rfl
 rw [this]
theorem t5 (F:Fun K "_law_due" "_law_due" iL f fd)  (hLsum:HasF P w K mg base 1 "_law_sum" ["_law_bounds"] (fn cB))  (m_len:mg "len" = none) (m_range:mg "range" = none):FnOk P w K mg base CX0 2 f fd ["_law_order_here","_law_bounds"] (bC K 2 (fn kq)):=by
 have sc:=mB;refine bE F mB (fun cdv A outer s H E ds d hr hG hl=>?_)
 obtain ⟨d0,d1,n,o,bl,h,g,k,rfl,rfl⟩:=aT hG;have hown:=cm (aD n (duB o bl n));refine ⟨_,(aA (bn 2 sc.nd (aR (aW bc eL rfl m_len PySem.boot_len (ae (aa 0) aj))))
  (aA (nz 3 sc.nd (by exact (eX rfl m_range (ae (aa 2) aj))) (N:=["_law_i","_law_many"]) (js:=[2]) (cl:=[("_law_many",_)]) (fun _ _ _ _ _=>by exact (kN (by exact (eX rfl m_range (ae (aa 1) aj))) (N:=["_law_j"]) (js:=[]) (cl:=[]) (fun _ _ _ _ _=>by exact (aR bp)) (by exact CompOk.nil))) (by exact CompOk.one))
  (aA (d5 4 sc.nd PassesOwn.never rfl (bo rfl m_range (ae (aa 2) aj))
   (aI (d5 5 sc.nd PassesOwn.never rfl (bo rfl m_range (ae (aa 2) aj))
    (aA (bn 6 sc.nd (zX (aa 1) (iu (aa 4)) (iu (aa 5))))
    (aA (d4 (Eu (aa 4) (aa 5)) (aI (bn 6 sc.nd (Et (kT (aa 1) (iu (aa 4)) kQ) (kT (aa 1) kQ (iu (aa 5)))))) cO)
    (aI (ny 3 (ck hLsum hr (ae (aa 6) aj)) (j7 (mC ix_list (pvi 3) (av (aa 0) (aa 4)) (fun _ _=>rfl)) (av (aa 0) (aa 5)) gC))))))))
  (aI (bg (dG 3)))))),?_,?own⟩
 case own=>first | rfl | exact hown
 . show aJ ((?f:SD) (aH 7 _))=_;have e0:aH 7 [d0,d1]=[some (.seq (intsD o)),some (.seq (az bl)),none,none,none,none,none]:=by
    show [some (sh d0),some (sh d1),none,none,none,none,none]=_;rw [h,g]
   rw [e0];have n4:=k.n4;have gl:gu [.seq (intsD o)]=some (.int (n:Int)):=by
    show some (D.int ((intsD o).length:Int))=_;unfold intsD;rw [Zi,k.ol]
   have inner:∀ (s:Nat) (o5 o6:Option D),s < n->∃ p5 p6,Dl.forM 5 (((bf (aX 6 (vSl (ah 1) (faS (ah 4)) (faS (ah 5)))) (bf (sIf (fT (f2 gGt (ah 4) (ah 5))) (aX 6 (ve (fSl (ah 1) (faS (ah 4)) faN) (fSl (ah 1) faN (faS (ah 5))))) bF) (i6 3 (f2 gIx (ah 0) (ah 4)) (f2 gIx (ah 0) (ah 5)) (fY (fn cB) (af (ah 6) ak))))))) ((List.range n).map fun (i:Nat)=>D.int (i:Int)) [some (.seq (intsD o)),some (.seq (az bl)),some (.int (n:Int)),some (aE (aD n (mdF o bl n s 0))),some (.int (s:Int)),o5,o6]=some (.nx [some (.seq (intsD o)),some (.seq (az bl)),some (.int (n:Int)),some (aE (aD n (mdF o bl n (s+1) 0))),some (.int (s:Int)),p5,p6]):=by
    intro s o5 o6 hs;obtain ⟨_,w,p5,p6,rfl⟩:=dz (i:=5) (s:=((bf (aX 6 (vSl (ah 1) (faS (ah 4)) (faS (ah 5)))) (bf (sIf (fT (f2 gGt (ah 4) (ah 5))) (aX 6 (ve (fSl (ah 1) (faS (ah 4)) faN) (fSl (ah 1) faN (faS (ah 5))))) bF) (i6 3 (f2 gIx (ah 0) (ah 4)) (f2 gIx (ah 0) (ah 5)) (fY (fn cB) (af (ah 6) ak))))))) (f:=fun (i:Nat)=>D.int (i:Int)) (fun pre δ=>∃ p5 p6,δ=[some (.seq (intsD o)),some (.seq (az bl)),some (.int (n:Int)),some (aE (aD n (mdF o bl n s pre.length))),some (.int (s:Int)),p5,p6]) (List.range n) (by
     rintro pre x post _ hx ⟨p5,p6,rfl⟩
     obtain ⟨rfl,hl⟩:=bH hx;obtain ⟨q6,st⟩:=Dm (f:=mdF o bl n s pre.length) (o6:=p6) k hs hl;rw [CL k hs hl] at st;exact ⟨_,st,_,_,by rw [Zh,List.length_singleton]⟩) (List.range n) [] _ rfl ⟨o5,o6,rfl⟩
    rw [ZF,E1 k] at w;exact ⟨p5,p6,w⟩
   obtain ⟨_,w,o4,o5,o6,rfl⟩:=dz (i:=4) (s:=((i7 (ia (af (ah 2) ak)) 5 (bf (aX 6 (vSl (ah 1) (faS (ah 4)) (faS (ah 5)))) (bf (sIf (fT (f2 gGt (ah 4) (ah 5))) (aX 6 (ve (fSl (ah 1) (faS (ah 4)) faN) (fSl (ah 1) faN (faS (ah 5))))) bF) (i6 3 (f2 gIx (ah 0) (ah 4)) (f2 gIx (ah 0) (ah 5)) (fY (fn cB) (af (ah 6) ak)))))))) (f:=fun (i:Nat)=>D.int (i:Int)) (fun pre δ=>∃ p4 p5 p6,δ=[some (.seq (intsD o)),some (.seq (az bl)),some (.int (n:Int)),some (aE (aD n (mdF o bl n pre.length 0))),p4,p5,p6]) (List.range n) (by
    rintro pre x post _ hx ⟨p4,p5,p6,rfl⟩
    obtain ⟨rfl,hl⟩:=bH hx;obtain ⟨q5,q6,st⟩:=inner pre.length p5 p6 hl;exact ⟨_,cw (dB (n:=n) rfl (by omega)) st,_,_,_,by rw [Zh,List.length_singleton]⟩) (List.range n) [] [some (.seq (intsD o)),some (.seq (az bl)),some (.int (n:Int)),some (aE (aD n (mdF o bl n 0 0))),none,none,none] rfl ⟨none,none,none,rfl⟩
   rw [ZF,E2 k] at w;refine cD (aw (δ':=[some (.seq (intsD o)),some (.seq (az bl)),some (.int (n:Int)),none,none,none,none]) (cT (bJ (d:=.int (n:Int)) (by simp only [ah,ak,af,au,Zc,Zd,gl]))) (aw (δ':=[some (.seq (intsD o)),some (.seq (az bl)),some (.int (n:Int)),some (aE (aD n (mdF o bl n 0 0))),none,none,none]) (cT (d:=aE (aD n (mdF o bl n 0 0))) (δ':=[some (.seq (intsD o)),some (.seq (az bl)),some (.int (n:Int)),none,none,none,none]) ?_) (aw (cw (dB (n:=n) rfl (by omega)) w) (bS (rf rfl)))))
   rw [CK];exact DU n4 (tu (ds:=[.int (n:Int)]) rfl (x6 (by omega))) rfl
theorem iq:aF ["_law_found","_law_due_here","_law_row","_law_kinds"] ["_law_found","_law_due_here"] (aq dF):=⟨rfl,rfl,rfl,by decide +kernel,rfl,by decide +kernel,by decide +kernel⟩
theorem lO (F:Fun K "_law_is_table" "_law_is_table" dF f fd)  (hLwhole:Has P w K mg base 1 "_law_whole" ["_law_found"] (fn cR))  (m_isinstance:mg "isinstance" = none) (m_list:mg "list" = none) (m_all:mg "all" = none) (m_bool:mg "bool" = none):FnOk P w K mg base CX0 2 f fd ["_law_found","_law_due_here"] (bC K 2 (fn fW)):=by
 have sc:=iq;refine bE F iq (fun cdv A outer s H E ds d hr hG hl=>?_)
 obtain ⟨d0,d1,T,n,h,g,hs,hn,rfl,rfl⟩:=aT hG;refine ⟨_,(aA (d4 (PWD.pt (gG (c9 (bU (aW gN (ko tX) rfl m_isinstance boot_isinstance (ae (aa 0) (ae (oz rfl m_list boot_list) aj))))) (gj (nu hr.units (aa 0) (aa 1))))) (aI (bg (aR gH))) cO)
  (aA (d5 2 sc.nd PassesOwn.never rfl (Af (zY 0))
   (aA (nz 3 sc.nd (by exact (iw (aa 2))) (N:=["_law_bound_here"]) (js:=[]) (cl:=[]) (fun _ _ _ _ _=>by exact (aR (An (EJ (aa 0) bp) (iO (lK (ay hLwhole hr (ae (av (aa 0) ao) aj)) (iO (aW gN (ko lM) rfl m_isinstance boot_isinstance (ae (av (aa 0) ao) (ae (oz rfl m_bool boot_bool) aj))))))))) (by exact CompOk.nil))
   (aI (d4 (PWD.pt (gG (c9 (bU (aW gN (ko tX) rfl m_isinstance boot_isinstance (ae (aa 2) (ae (oz rfl m_list boot_list) aj))))) (gj (c9 (bU (aW (BF rfl) Fz rfl m_all zj (ae (aa 3) aj))))))) (aI (bg (aR gH))) cO))))
  (aI (bg (aR gH))))),?_,?own⟩
 case own=>first | rfl | exact hown
 . show aJ ((?f:SD) (aH 4 _))=_;have e0:aH 4 [d0,d1]=[some (ax T),some (ax T),none,none]:=by
    show [some (sh d0),some (sh d1),none,none]=_;rw [show sh d0=ax T from h,show sh d1=ax T from g]
   rw [e0];have wh:∀ i:Int,fn cR [.int i]=some (.bl true):=fun i=>gL rfl
   have c1:eK (bX (fT (au (lW "list" oS) (af (ah 0) (af (fC (.ty "list")) ak))))) (fT (f2 pV (ah 0) (ah 1))) [some (ax T),some (ax T),none,none]=some false:=by
    have a:bX (fT (au (lW "list" oS) (af (ah 0) (af (fC (.ty "list")) ak)))) [some (ax T),some (ax T),none,none]=some false:=rfl;have b:fT (f2 pV (ah 0) (ah 1)) [some (ax T),some (ax T),none,none]=some false:=by
     show ((pV (ax T) (ax T)).bind asB)=_;rw [EW];rfl
    unfold eK;rw [a,b];rfl
   have el:∀ b:Bn,(pW (f2 bP (ah 0) (fC .non)) (i8 (au (fn cR) (af (f2 gIx (ah 0) (fC (.int 0))) ak)) (au (lW "bool" isBool) (af (f2 gIx (ah 0) (fC (.int 1))) (af (fC (.ty "bool")) ak))))) [some (bdD b)]=some (.bl true):=fun b=>by
    rcases b with _ | ⟨m,s⟩
    . rfl
    . have x0:gIx (bdD (some (m,s))) (.int 0)=some (.int m):=rfl;have x1:gIx (bdD (some (m,s))) (.int 1)=some (.bl s):=rfl;have isn:bP (bdD (some (m,s))) .non=some (.bl false):=rfl;simp only [ah,fC,f2,i8,pW,ak,af,au,cg,cH,yT,Dl.isBool,Zc,Option.map_some,Zd,aU,bP,bi,wh]
   have body:∀ (r:List Bn) (o3:Option D),r.length=n->∃ p3,((bf (aX 3 (dP (fun δ=>((ah 2) δ).bind asL) [] (vI (pW (f2 bP (ah 0) (fC .non)) (i8 (au (fn cR) (af (f2 gIx (ah 0) (fC (.int 0))) ak)) (au (lW "bool" isBool) (af (f2 gIx (ah 0) (fC (.int 1))) (af (fC (.ty "bool")) ak)))))))) (sIf (eK (bX (fT (au (lW "list" oS) (af (ah 2) (af (fC (.ty "list")) ak))))) (bX (fT (au vV (af (ah 3) ak))))) (gE (vI (fC (.bl false)))) bF))) [some (ax T),some (ax T),some (.seq (az r)),o3]=some (.nx [some (ax T),some (ax T),some (.seq (az r)),p3]):=fun r o3 lr=>by
    refine ⟨some (.lst (r.map fun _=>D.bl true)),aw (δ':=[some (ax T),some (ax T),some (.seq (az r)),some (.lst (r.map fun _=>D.bl true))]) (cT (d:=.lst (r.map fun _=>D.bl true)) (δ':=[some (ax T),some (ax T),some (.seq (az r)),o3]) ?_) (cf ?_ rfl)⟩
    . refine gw (f:=bdD) rfl (fun b _=>?_) (by omega)
      refine vG (δ':=[some (bdD b)]) ?_ rfl;show vI _ [some (sh (bdD b))]=_;rw [zA];exact bJ (el b)
    . have al:vV [.lst (r.map fun _=>D.bl true)]=some (.bl true):=by
       have e:(r.map fun _=>D.bl true)=(r.map fun _=>true).map D.bl:=by rw [List.map_map];rfl
       rw [e];show ((gv ((r.map fun _=>true).map D.bl)).bind fun bs=>some (D.bl (bs.all id)))=_
       rw [l4];show some (D.bl ((r.map fun _=>true).all id))=_
       congr 2
       simp
      have a:bX (fT (au (lW "list" oS) (af (ah 2) (af (fC (.ty "list")) ak)))) [some (ax T),some (ax T),some (.seq (az r)),some (.lst (r.map fun _=>D.bl true))]=some false:=rfl
      have b:bX (fT (au vV (af (ah 3) ak))) [some (ax T),some (ax T),some (.seq (az r)),some (.lst (r.map fun _=>D.bl true))]=some false:=by
       unfold bX fT;rw [nN (f:=ah 3) (a:=.lst (r.map fun _=>D.bl true)) rfl al]
       rfl
      unfold eK;rw [a,b];rfl
   obtain ⟨_,w,o2,o3,rfl⟩:=lX (i:=2) (s:=((bf (aX 3 (dP (fun δ=>((ah 2) δ).bind asL) [] (vI (pW (f2 bP (ah 0) (fC .non)) (i8 (au (fn cR) (af (f2 gIx (ah 0) (fC (.int 0))) ak)) (au (lW "bool" isBool) (af (f2 gIx (ah 0) (fC (.int 1))) (af (fC (.ty "bool")) ak)))))))) (sIf (eK (bX (fT (au (lW "list" oS) (af (ah 2) (af (fC (.ty "list")) ak))))) (bX (fT (au vV (af (ah 3) ak))))) (gE (vI (fC (.bl false)))) bF)))) (fun δ=>∃ o2 o3,δ=[some (ax T),some (ax T),o2,o3]) (cY T) [some (ax T),some (ax T),none,none] ⟨_,_,rfl⟩ (by
    rintro d hd _ ⟨o2,o3,rfl⟩
    obtain ⟨r,mr,rfl⟩:=Zn.mp hd;obtain ⟨p3,st⟩:=body r o3 (hs.row r mr);refine ⟨[some (ax T),some (ax T),some (.seq (az r)),p3],?_,some (.seq (az r)),p3,rfl⟩;show ((bf (aX 3 (dP (fun δ=>((ah 2) δ).bind asL) [] (vI (pW (f2 bP (ah 0) (fC .non)) (i8 (au (fn cR) (af (f2 gIx (ah 0) (fC (.int 0))) ak)) (au (lW "bool" isBool) (af (f2 gIx (ah 0) (fC (.int 1))) (af (fC (.ty "bool")) ak)))))))) (sIf (eK (bX (fT (au (lW "list" oS) (af (ah 2) (af (fC (.ty "list")) ak))))) (bX (fT (au vV (af (ah 3) ak))))) (gE (vI (fC (.bl false)))) bF))) [some (ax T),some (ax T),some (sh (.seq (az r))),o3]=_
    rw [B3];exact st)
   exact cD (aw (cf c1 rfl) (aw (cw (BY (d:=ax T) rfl (jH T) (jH T)) w) (bS (bJ (d:=.bl true) rfl))))
theorem me:aF ["top","bottom"] ["top","bottom"] (aq dM):=⟨rfl,rfl,rfl,by decide +kernel,rfl,by decide +kernel,by decide +kernel⟩
theorem mE {dV:Value} (F:FunD K "fraction" "fraction" dM f fd dV)  (hlowest:Has P w K mg base 2 "lowest" ["top","bottom"] (fn pG)) (his_whole:Has P w K mg base 1 "is_whole" ["thing"] (fn iW))  :FnOk P w K mg base CX0 3 f fd ["top","bottom"] (bz K 2 (fn aN)):=by
 have sc:=me;refine z7 F me (fun cdv A outer s H E ds d hr hG hl=>?_)
 obtain ⟨t,b,hb,hB,rfl,rfl⟩:=aT hG;refine ⟨_,(aG (cE (PWD.pt (gG (c9 (bU (ay his_whole hr (ae (aa 0) aj)))) (gj (c9 (bU (ay his_whole hr (ae (aa 1) aj))))))) (aK qu) bL)
  (aG (cE (vz hr.units0 (aa 1) ao) (aK qu) bL)
  (aG (cE (vy (aa 1) ao) (aK (aQ (ay hlowest hr (ae (jm (aa 0)) (ae (jm (aa 1)) aj))))) bL)
  (aK (aQ (ay hlowest hr (ae (aa 0) (ae (aa 1) aj)))))))),?_⟩
 . show aJ ((?f:SD) [some _,some _])=_;have h0:(b == 0)=false:=by simp [hb]
   by_cases hn:b < 0
   . have h1:decide (b < 0)=true:=decide_eq_true hn;simp only [aJ,bF,cC,bf,du,sIf,ah,fC,f2,f1,fT,asB,bX,eK,lV,ak,af,au,gI0,eI,Zc,Option.map_some,Zd,Ze,Bool.not_true,gL (x:=.int t) rfl,gL (x:=.int b) rfl,h0,h1,uL (t:=-t) (b:=-b) (by omega) (FH hB)]
     unfold low;rw [if_pos hn]
   . have h1:decide (b < 0)=false:=decide_eq_false hn;simp only [aJ,bF,cC,bf,du,sIf,ah,fC,f2,f1,fT,asB,bX,eK,lV,ak,af,au,gI0,eI,Zc,Option.map_some,Zd,Ze,Bool.not_true,gL (x:=.int t) rfl,gL (x:=.int b) rfl,h0,h1,uL (t:=t) (b:=b) (by omega) hB]
     unfold low;rw [if_neg hn]
theorem wP:aF ["one","other"] ["one","other"] (aq rG):=⟨rfl,rfl,rfl,by decide +kernel,rfl,by decide +kernel,by decide +kernel⟩
theorem CF (F:Fun K "plus" "plus" rG f fd)  (hsummed:Has P w K mg base 2 "summed" ["one","top","bottom"] (fn iF))  :FnOk P w K mg base CX0 3 f fd ["one","other"] (bz K 2 (fn wA)):=by
 have sc:=wP;refine bK F wP (fun cdv A outer s H E ds d hr hG hl=>?_)
 obtain ⟨⟨a,b⟩,⟨c,e⟩,hp,hq,rfl,rfl⟩:=aT hG;refine ⟨_,(aK (aQ (ay hsummed hr (ae (aa 0) (ae (av (aa 1) ao) (ae (av (aa 1) ao) aj)))))),?_⟩
 . show aJ ((?f:SD) [some _,some _])=_;have h:=uK hp hq;have h':fn iF [.tup [.int a,.int b],.int c,.int e]=some (fr (pl (a,b) (c,e))):=by rw [Gy hp.lw hq.lw];exact h
   simp only [aJ,du,ah,fC,f2,ak,af,au,cg,cH,Zc,Zd,Ze,h']
theorem tz:aF ["one","other"] ["one","other"] (aq m7):=⟨rfl,rfl,rfl,by decide +kernel,rfl,by decide +kernel,by decide +kernel⟩
theorem AA (F:Fun K "minus" "minus" m7 f fd)  (hsummed:Has P w K mg base 2 "summed" ["one","top","bottom"] (fn iF))  :FnOk P w K mg base CX0 3 f fd ["one","other"] (bz K 2 (fn jQ)):=by
 have sc:=tz;refine bK F tz (fun cdv A outer s H E ds d hr hG hl=>?_)
 obtain ⟨⟨a,b⟩,⟨c,e⟩,hp,hq,rfl,rfl⟩:=aT hG;refine ⟨_,(aK (aQ (ay hsummed hr (ae (aa 0) (ae (jm (av (aa 1) ao)) (ae (av (aa 1) ao) aj)))))),?_⟩
 . show aJ ((?f:SD) [some _,some _])=_;have h:=uK hp hq.neg;have h':fn iF [.tup [.int a,.int b],.int (-c),.int e]=some (fr (mi (a,b) (c,e))):=by rw [GH hp.lw hq.lw];exact h
   simp only [aJ,du,ah,fC,f2,f1,lV,ak,af,au,cg,cH,Zc,Zd,Ze,h']
theorem tF:aF ["part","bound","limit"] ["part","bound"] (aq nc):=⟨rfl,rfl,rfl,by decide +kernel,rfl,by decide +kernel,by decide +kernel⟩
theorem AC (F:Fun K "keeps" "keeps" nc f fd)  (hfractionD:pK P w K mg base 3 "fraction" ["top","bottom"] [1] (fn aN)) (hless:Has P w K mg base 1 "less" ["one","other"] (fn fU))  :FnOk P w K mg base CX0 4 f fd ["part","bound"] (bz K 2 (fn iV)):=by
 have sc:=tF;refine bK F tF (fun cdv A outer s H E ds d hr hG hl=>?_)
 obtain ⟨⟨a,b⟩,c,hp,hc,rfl,rfl⟩:=aT hG;refine ⟨_,(aG (cE (cN (aa 1) bp) (aK (aQ gH)) bL)
  (aG (bB 2 sc.nd (cG hfractionD hr (ae (av (aa 1) ao) aj)))
  (aG (cE (bU (av (aa 1) ao)) (aK (aQ (ay hless hr (ae (aa 0) (ae (aa 2) aj))))) bL)
  (aK (aQ (lJ (ay hless hr (ae (aa 2) (ae (aa 0) aj))))))))),?_⟩
 . show aJ ((?f:SD) [some _,some _,none])=_;rcases c with _ | ⟨n,s⟩
   . rfl
   . have hk:Fk (n,1):=⟨show (0:Int) < 1 by decide,hc,show (1:Int).natAbs < 2 ^ 4000 from Zw (show 1 < 2 ^ 1 by decide) (Nat.pow_le_pow_right (by decide) (by decide))⟩
     have l1:fn fU [fr (a,b),.tup [.int n,.int 1]]=some (.bl (decide (a*1 < n*b))):=e2 (op:=fun p q=>.bl (decide (p.1*q.2 < q.1*p.2))) hp hk
     have l2:fn fU [.tup [.int n,.int 1],fr (a,b)]=some (.bl (decide (n*b < a*1))):=e2 (op:=fun p q=>.bl (decide (p.1*q.2 < q.1*p.2))) hk hp
     cases s
     . simp only [aJ,bF,cC,bf,du,dR,sIf,ah,fC,f2,f1,fT,asB,vU,ak,af,au,cg,cH,Zc,Zd,Ze,Zf,Zg,aU,bP,bi,aZ,l1,l2];rfl
     . simp only [aJ,bF,cC,bf,du,dR,sIf,ah,fC,f2,fT,asB,ak,af,au,cg,cH,Zc,Zd,Ze,Zf,Zg,aU,bP,bi,aZ,l1];rfl
theorem oh:aF ["low","high"] ["low","high"] (aq jJ):=⟨rfl,rfl,rfl,by decide +kernel,rfl,by decide +kernel,by decide +kernel⟩
theorem vJ (F:Fun K "between" "between" jJ f fd)  (htimes:Has P w K mg base 2 "times" ["one","other"] (fn yd)) (hfraction:Has P w K mg base 3 "fraction" ["top","bottom"] (fn aN)) (hfractionD:pK P w K mg base 3 "fraction" ["top","bottom"] [1] (fn aN)) (hminus:Has P w K mg base 3 "minus" ["one","other"] (fn jQ)) (hplus:Has P w K mg base 3 "plus" ["one","other"] (fn wA))  :FnOk P w K mg base CX0 4 f fd ["low","high"] (bz K 2 (fn gz)):=by
 have sc:=oh;refine bK F oh (fun cdv A outer s H E ds d hr hG hl=>?_)
 obtain ⟨lo,hi,h1,h2,rfl,rfl⟩:=aT hG;refine ⟨_,(aG (cE (PWD.pt (rL (cN (aa 0) bp) (ot (cN (aa 1) bp)))) (aK (aQ (cG hfractionD hr (ae ao aj)))) bL)
  (aG (cE (cN (aa 0) bp) (aK (aQ (ay hminus hr (ae (aa 1) (ae (cG hfractionD hr (ae ao aj)) aj))))) bL)
  (aG (cE (cN (aa 1) bp) (aK (aQ (ay hplus hr (ae (aa 0) (ae (cG hfractionD hr (ae ao aj)) aj))))) bL)
  (aK (aQ (ay htimes hr (ae (ay hplus hr (ae (aa 0) (ae (aa 1) aj))) (ae (ay hfraction hr (ae ao (ae ao aj))) aj)))))))),?_⟩
 . show aJ ((?f:SD) [some _,some _])=_;have o1:Flw ((1,1):Int×Int):=⟨⟨by decide,(by show (1:Int).natAbs < 2 ^ 4000;exact Nat.one_lt_two_pow (by decide)),(by show (1:Int).natAbs < 2 ^ 4000;exact Nat.one_lt_two_pow (by decide))⟩,⟨by decide,by decide⟩⟩
   have o2:Flw ((1,2):Int×Int):=⟨⟨by decide,o1.s1,Zw (show (2:Int).natAbs < 2 ^ 2 by decide) (Nat.pow_le_pow_right (by decide) (by decide))⟩,⟨by decide,by decide⟩⟩
   cases lo with
   | none=>cases hi with
    | none=>simp only [aJ,bF,cC,bf,du,sIf,ah,fC,f2,fT,asB,jx,ak,af,au,Zc,Zd,Ze,bP,bi,opD,bP,bi,aZ];rfl
    | some h=>simp only [aJ,bF,cC,bf,du,sIf,ah,fC,f2,fT,asB,jx,ak,af,au,Zc,Zd,Ze,bP,bi,opD,bP,bi,aZ,e2w (op:=fun p q=>fr (mi p q)) (Flw.of (h2 h rfl)) o1];rfl
   | some l=>cases hi with
    | none=>simp only [aJ,bF,cC,bf,du,sIf,ah,fC,f2,fT,asB,jx,ak,af,au,Zc,Zd,Ze,bP,bi,opD,bP,bi,aZ,e2w (op:=fun p q=>fr (pl p q)) (Flw.of (h1 l rfl)) o1];rfl
    | some h =>
     have e1:=e2w (op:=fun p q=>fr (pl p q)) (Flw.of (h1 l rfl)) (Flw.of (h2 h rfl))
     have e3:=e2w (op:=fun p q=>fr (ti p q)) (Flw.of ((h1 l rfl).pl (h2 h rfl))) o2
     have e4:fn aN [.int 1,.int 2]=some (fr (1,2)):=km (t:=1) (b:=2) (by decide) hI
     simp only [aJ,bF,cC,bf,du,sIf,ah,fC,f2,fT,asB,jx,ak,af,au,Zc,Zd,Ze,bP,bi,opD,bP,bi,e1,e3,e4];rfl
theorem i3:aF ["bounds","ways","middle","thing","total"] ["bounds","ways","middle"] (aq dX):=⟨rfl,rfl,rfl,by decide +kernel,rfl,by decide +kernel,by decide +kernel⟩
theorem mP (F:Fun K "ring_through" "ring_through" dX f fd)  (hbound_sum:Has P w K mg base 1 "bound_sum" ["one","other"] (fn bY)) (hkeeps:Has P w K mg base 4 "keeps" ["part","bound"] (fn iV)) (hfractionD:pK P w K mg base 3 "fraction" ["top","bottom"] [1] (fn aN))  (m_range:mg "range" = none) (m_len:mg "len" = none):FnOk P w K mg base CX0 5 f fd ["bounds","ways","middle"] (bC K 3 (fn eN)):=by
 have sc:=i3;refine bE F i3 (fun cdv A outer s H E ds d hr hG hl=>?_)
 obtain ⟨d0,d1,n,m,f,p,ok,h0,h1,rfl,rfl⟩:=aT hG;have hown:=xo n f p m;refine ⟨_,(aA (d5 3 sc.nd PassesOwn.never rfl (bo rfl m_range (ae (aW bc eL rfl m_len PySem.boot_len (ae (aa 0) aj)) aj))
  (aA (bn 4 sc.nd (aR (ay hbound_sum hr (ae (av (av (aa 0) (aa 3)) (aa 2)) (ae (av (av (aa 0) (aa 2)) (aa 3)) aj)))))
  (aI (d4 (c9 (bU (ay hkeeps hr (ae (cG hfractionD hr (ae ao aj)) (ae (aa 4) aj))))) (aI (bg (nr (av (av (aa 1) (aa 3)) (aa 2)) (av (av (aa 1) (aa 2)) (aa 3))))) cO))))
  (aI (bg (aR bp)))),?_,?own⟩
 case own=>first | rfl | exact hown
 . show aJ ((?f:SD) (aH 5 _))=_;have e0:aH 5 [d0,d1,.int (m:Int)]=[some (ax (aD n f)),some (.seq (fH n p)),some (.int (m:Int)),none,none]:=by
    show [some (sh d0),some (sh d1),some (sh (.int (m:Int))),none,none]=_;rw [show sh d0=_ from h0,h1]
    rfl
   rw [e0];have hm:=ok.mn;have hn:=ok.n41;have len:gu [ax (aD n f)]=some (.int (n:Int)):=si (bu n f);have hv:=fun o1 o2:Option D=>dB (g:=af (au gu (af (ah 0) ak)) ak) (δ:=[some (ax (aD n f)),some (.seq (fH n p)),some (.int (m:Int)),o1,o2]) (n:=n) (by simp only [ah,ak,af,au,Zc,Zd,len]) (by omega)
   have fo:Fk (0,1):=Fk.of (mZ (k:=200) (by decide))
   obtain ⟨k1,k2⟩:=nM (i:=3) (s:=((bf (aX 4 (vI (au (fn bY) (af (f2 gIx (f2 gIx (ah 0) (ah 3)) (ah 2)) (af (f2 gIx (f2 gIx (ah 0) (ah 2)) (ah 3)) ak))))) (sIf (bX (fT (au (fn iV) (af (au (dfl (fn aN) [1]) (af (fC (.int 0)) ak)) (af (ah 4) ak))))) (gE (iX (f2 gIx (f2 gIx (ah 1) (ah 3)) (ah 2)) (f2 gIx (f2 gIx (ah 1) (ah 2)) (ah 3)))) bF)))) (f:=fun (i:Nat)=>D.int (i:Int)) (fun _ δ=>∃ o1 o2,δ=[some (ax (aD n f)),some (.seq (fH n p)),some (.int (m:Int)),o1,o2]) (mX f p m) (List.range n) (by
    rintro pre t post _ hx ⟨o1,o2,rfl⟩
    obtain ⟨rfl,ht⟩:=bH hx;generalize pre.length=t at *
    obtain ⟨r1,q1,q2⟩:=lU (bu n f) ht hm;obtain ⟨r2,q3,q4⟩:=lU (bu n f) hm ht;rw [bq f ht hm] at q2;rw [bq f hm ht] at q4;obtain ⟨w1,w2⟩:=ui p ht hm;obtain ⟨w3,w4⟩:=ui p hm ht;have kk:=sI (p:=(0,1)) (b:=bs (f t m) (f m t)) fo (((ok.bk t m ht hm).sum (ok.bk m t hm ht)).mono (by decide))
    have s1:((aX 4 (vI (au (fn bY) (af (f2 gIx (f2 gIx (ah 0) (ah 3)) (ah 2)) (af (f2 gIx (f2 gIx (ah 0) (ah 2)) (ah 3)) ak)))))) [some (ax (aD n f)),some (.seq (fH n p)),some (.int (m:Int)),some (.int (t:Int)),o2]=some (.nx [some (ax (aD n f)),some (.seq (fH n p)),some (.int (m:Int)),some (.int (t:Int)),some (bdD (bs (f t m) (f m t)))]):=bA (bJ (d:=bdD (bs (f t m) (f m t))) (by simp only [ah,f2,ak,af,au,Zc,Zd,Ze,q1,q2,q3,q4,mJ]) (iR _))
    unfold mX;cases hk:kp (0,1) (bs (f t m) (f m t)) with
    | true =>
     refine ⟨fun _=>⟨_,aw s1 (cf (by simp only [ah,fC,fT,asB,bX,ak,af,au,Zc,Option.map_some,Zd,Ze,Bool.not_true,aZ,kk,hk]) rfl),_,_,rfl⟩,fun d z=>?_⟩
     rw [if_pos rfl] at z;cases z
    | false =>
     refine ⟨fun z=>?_,fun d z=>?_⟩
     . rw [if_neg (by decide)] at z
       cases z
     . rw [if_neg (by decide)] at z
       cases z;refine aw s1 (dL (by simp only [ah,fC,fT,asB,bX,ak,af,au,Zc,Option.map_some,Zd,Ze,Bool.not_false,aZ,kk,hk]) (jE (d:=.lst (intsD (p t m++p m t))) ?_))
       have l1:=ok.ln t m ht hm;have l2:=ok.ln m t hm ht;have ei:intsD (p t m++p m t)=intsD (p t m)++intsD (p m t):=List.map_append;rw [ei];exact rg (a:=.seq (intsD (p t m))) (b:=.seq (intsD (p m t))) (by simp only [ah,f2,Zc,Zd,Ze,w1,w2]) (by simp only [ah,f2,Zc,Zd,Ze,w3,w4]) rfl rfl (by unfold intsD;rw [Zi,Zi];omega) (by rw [<- ei];exact oV _)) (List.range n) [] [some (ax (aD n f)),some (.seq (fH n p)),some (.int (m:Int)),none,none] rfl ⟨_,_,rfl⟩
   unfold rgt;cases hb:aS (mX f p m) [] (List.range n) with
   | none =>
    obtain ⟨_,w,o1,o2,rfl⟩:=k1 hb;exact cD (aw (cw (hv _ _) w) (bS (bJ rfl)))
   | some d=>exact cD (dS (cw (hv _ _) (k2 d hb)))
theorem kA:aF ["bound","back","e","lows","high"] ["bound","back","e"] (aq gY):=⟨rfl,rfl,rfl,by decide +kernel,rfl,by decide +kernel,by decide +kernel⟩
theorem rW (F:Fun K "far_value" "far_value" gY f fd)  (hfraction:Has P w K mg base 3 "fraction" ["top","bottom"] (fn aN)) (hfractionD:pK P w K mg base 3 "fraction" ["top","bottom"] [1] (fn aN)) (hbetween:Has P w K mg base 4 "between" ["low","high"] (fn gz)) (hgreatest:Has P w K mg base 2 "greatest" ["parts"] (fn gQ)) (hminus:Has P w K mg base 3 "minus" ["one","other"] (fn jQ))  :FnOk P w K mg base CX0 5 f fd ["bound","back","e"] (bz K 3 (fn fM)):=by
 have sc:=kA;refine bK F kA (fun cdv A outer s H E ds d hr hG hl=>?_)
 obtain ⟨bound,back,e,hb,hk,he,rfl,rfl⟩:=aT hG;refine ⟨_,(aG (bB 3 sc.nd (EK (cN (aa 1) bp) (j8 aj) (j8 (ae (cG hfractionD hr (ae (jm (av (aa 1) ao)) aj)) aj))))
  (aG (cE (cN (aa 0) bp) (aK (aQ (ay hbetween hr (ae (ay hgreatest hr (ae (dk (aa 3) (j8 (ae (ay hfraction hr (ae (av (aa 2) ao) (ae (av (aa 2) ao) aj))) aj))) aj)) (ae bp aj))))) bL)
  (aG (bB 4 sc.nd (cG hfractionD hr (ae (av (aa 0) ao) aj)))
  (aG (cE (bU (av (aa 0) ao)) (aK (aQ (ay hbetween hr (ae (ay hgreatest hr (ae (dk (aa 3) (j8 (ae (ay hminus hr (ae (aa 4) (ae (aa 2) aj))) aj))) aj)) (ae (aa 4) aj))))) bL)
  (aK (aQ (aa 4))))))),?_⟩
 . show aJ ((?f:SD) [some _,some _,some _,none,none])=_;have l0:fIf (fT (f2 bP (ah 1) (fC .non))) (kl ak) (kl (af (au (dfl (fn aN) [1]) (af (f1 lV (f2 gIx (ah 1) (fC (.int 0)))) ak)) ak)) [some (bdD bound),some (bdD back),some (fr e),none,none]=some (.lst ((eR back).map fr)):=by
    rcases back with _ | ⟨k,s⟩
    . rfl
    . simp only [ah,fC,f2,f1,fT,asB,lV,ak,af,kl,au,cg,Zc,Zd,Ze,aU,bP,bi,fIf,Bool.false_eq_true,if_false,aZ];rfl
   have st1:dR 3 (fIf (fT (f2 bP (ah 1) (fC .non))) (kl ak) (kl (af (au (dfl (fn aN) [1]) (af (f1 lV (f2 gIx (ah 1) (fC (.int 0)))) ak)) ak))) [some (bdD bound),some (bdD back),some (fr e),none,none]=some (.nx [some (bdD bound),some (bdD back),some (fr e),some (.lst ((eR back).map fr)),none]):=wL l0;rcases bound with _ | ⟨n,s⟩
   . obtain ⟨g1,g2⟩:=xN hk ((Fd he).mono (by decide))
     have g3:=lY g2 (fun p z=>nomatch z:Hs none)
     have ef:fn aN [.int e.2,.int e.1]=some (fr (low e.2 e.1)):=km (by have:=he.p1;omega) (iE (he.fr.s1))
     have ca:=xZ (eR back) [low e.2 e.1] (by have:=uf back;simp only [Zj,List.length_nil];omega)
     refine cD (aw st1 (dS (dL rfl (rz (d:=fr (ig none back e)) ?_))));have x1:gIx (fr e) (.int 1)=some (.int e.2):=rfl;have x0:gIx (fr e) (.int 0)=some (.int e.1):=rfl;have cb:jd (.lst ((eR back).map fr)) (.lst [fr (low e.2 e.1)])=some (.lst ((eR back++[low e.2 e.1]).map fr)):=ca;have g3':fn gz [opD (gre (eR back++[low e.2 e.1]) none),.non]=some (fr (ig none back e)):=g3;simp only [ah,fC,f2,ak,af,kl,au,Zc,Zd,Ze,pC,x1,x0,ef,cb,g1,g3']
   . have n1:Sm 800 n:=hb;have f1:dfl (fn aN) [1] [.int n]=some (fr (n,1)):=aZ;have x0:gIx (bdD (some (n,s))) (.int 0)=some (.int n):=rfl;have x1:gIx (bdD (some (n,s))) (.int 1)=some (.bl s):=rfl;have isn:bP (bdD (some (n,s))) .non=some (.bl false):=rfl;have st2:dR 4 (au (dfl (fn aN) [1]) (af (f2 gIx (ah 0) (fC (.int 0))) ak)) [some (bdD (some (n,s))),some (bdD back),some (fr e),some (.lst ((eR back).map fr)),none]=some (.nx [some (bdD (some (n,s))),some (bdD back),some (fr e),some (.lst ((eR back).map fr)),some (fr (n,1))]):=wL (by simp only [ah,fC,f2,f1,ak,af,au,cg,Zc,Zd,aU,f1])
     cases s with
     | true =>
      have hm:Fr 1801 (mi (n,1) e):=(nK n1).mi (he.fr.mono (by decide))
      obtain ⟨g1,g2⟩:=xN hk hm;have g3:=lY g2 (fun p z=>by cases z;exact (nK n1).mono (by decide):Hs (some (n,1)))
      have em:fn jQ [fr (n,1),fr e]=some (fr (mi (n,1) e)):=e2w (op:=fun p q=>fr (mi p q)) (Flw.of (nK n1)) (Flw.of he.fr)
      have ca:=xZ (eR back) [mi (n,1) e] (by have:=uf back;simp only [Zj,List.length_nil];omega)
      have cb:jd (.lst ((eR back).map fr)) (.lst [fr (mi (n,1) e)])=some (.lst ((eR back++[mi (n,1) e]).map fr)):=ca;have g3':fn gz [opD (gre (eR back++[mi (n,1) e]) none),fr (n,1)]=some (fr (ig (some (n,true)) back e)):=g3;exact cD (aw st1 (aw (cf (by simp only [ah,fC,f2,fT,asB,Zc,Zd,aU,bP,bi]) rfl) (aw st2 (dS (dL (by simp only [ah,fC,f2,fT,asB,cH,Zc,Zd,aU]) (rz (by simp only [ah,f2,ak,af,kl,au,Zc,Zd,Ze,aU,em,cb,g1,g3'])))))))
     | false=>exact cD (aw st1 (aw (cf (by simp only [ah,fC,f2,fT,asB,Zc,Zd,aU,bP,bi]) rfl) (aw st2 (aw (cf (by simp only [ah,fC,f2,fT,asB,cH,Zc,Zd,aU]) rfl) (rz rfl)))))
theorem iZ:aF ["bounds","placed","thing","lows","highs"] ["bounds","placed","thing"] (aq dW):=⟨rfl,rfl,rfl,by decide +kernel,rfl,by decide +kernel,by decide +kernel⟩
theorem mO (F:Fun K "value_beside" "value_beside" dW f fd)  (hbetween:Has P w K mg base 4 "between" ["low","high"] (fn gz)) (hminus:Has P w K mg base 3 "minus" ["one","other"] (fn jQ)) (hplus:Has P w K mg base 3 "plus" ["one","other"] (fn wA)) (hgreatest:Has P w K mg base 2 "greatest" ["parts"] (fn gQ)) (hleast:Has P w K mg base 2 "least" ["parts"] (fn sW)) (hfractionD:pK P w K mg base 3 "fraction" ["top","bottom"] [1] (fn aN))  :FnOk P w K mg base CX0 5 f fd ["bounds","placed","thing"] (bC K 3 (fn cJ)):=by
 have sc:=iZ;refine bE F iZ (fun cdv A outer s H E ds d hr hG hl=>?_)
 obtain ⟨T,n,ps,t,h,rfl,rfl⟩:=aT hG;have hown:own (fr (dO (ap T) ps t))=true:=rfl;refine ⟨_,(aA (tQ 3 sc.nd (by exact (tR (aa 1))) (T:=["j"]) (N:=["j","bounds","placed","thing"]) (js:=[0,1,2]) (cl:=[("thing",_),("placed",_),("bounds",_)]) (fun _ _ _ _ _=>by exact (kS 0 (show List.Nodup (["j","bounds","placed","thing"]:List Str) from by decide +kernel))) (qN 0 (by decide)) (fun _ _ _ _ _=>by exact (xh (kO (av (av (aa 1) (aa 0)) (aa 3)) bp))) (fun _ _ _ _ _=>by exact (aR (ay hminus hr (ae (nE (oW hr) (aa 2) (aa 0)) (ae (cG hfractionD hr (ae (av (av (av (aa 1) (aa 0)) (aa 3)) ao) aj)) aj))))) (by exact CompG.of (T:=["j"]) (Z:=["bounds","placed","thing"]) (Y:=["thing","placed","bounds"]) (hcl:=(by intro p hp;simp only [Zq,List.not_mem_nil,or_false] at hp;rcases hp with rfl | rfl | rfl <;> rfl)) (hN:=(by intro i y j h1 h2;match i,h1,h2 with | 0,h1,h2=>cases h1;cases h2;exact ⟨rfl,rfl,rfl⟩ | 1,h1,h2=>cases h1;cases h2;exact ⟨rfl,rfl,rfl⟩ | 2,h1,h2=>cases h1;cases h2;exact ⟨rfl,rfl,rfl⟩ | n+3,h1,h2=>cases h1))))
  (aA (tQ 4 sc.nd (by exact (tR (aa 1))) (T:=["j"]) (N:=["j","bounds","placed","thing"]) (js:=[0,1,2]) (cl:=[("thing",_),("placed",_),("bounds",_)]) (fun _ _ _ _ _=>by exact (kS 0 (show List.Nodup (["j","bounds","placed","thing"]:List Str) from by decide +kernel))) (qN 0 (by decide)) (fun _ _ _ _ _=>by exact (xh (kO (av (av (aa 1) (aa 3)) (aa 0)) bp))) (fun _ _ _ _ _=>by exact (aR (ay hplus hr (ae (nE (oW hr) (aa 2) (aa 0)) (ae (cG hfractionD hr (ae (av (av (av (aa 1) (aa 3)) (aa 0)) ao) aj)) aj))))) (by exact CompG.of (T:=["j"]) (Z:=["bounds","placed","thing"]) (Y:=["thing","placed","bounds"]) (hcl:=(by intro p hp;simp only [Zq,List.not_mem_nil,or_false] at hp;rcases hp with rfl | rfl | rfl <;> rfl)) (hN:=(by intro i y j h1 h2;match i,h1,h2 with | 0,h1,h2=>cases h1;cases h2;exact ⟨rfl,rfl,rfl⟩ | 1,h1,h2=>cases h1;cases h2;exact ⟨rfl,rfl,rfl⟩ | 2,h1,h2=>cases h1;cases h2;exact ⟨rfl,rfl,rfl⟩ | n+3,h1,h2=>cases h1))))
  (aI (bg (aR (ay hbetween hr (ae (ay hgreatest hr (ae (aa 3) aj)) (ae (ay hleast hr (ae (aa 4) aj)) aj)))))))),?_,?own⟩
 case own=>first | rfl | exact hown
 . show aJ ((?f:SD) (aH 5 _))=_;have e0:aH 5 [ax T,plD ps,.int ((t:Nat):Int)]=[some (ax T),some (plD ps),some (.int ((t:Nat):Int)),none,none]:=by
    show [some (sh (ax T)),some (sh (plD ps)),some (.int ((t:Nat):Int)),none,none]=_;rw [jH,vk]
   rw [e0];have le:ps.filterMap (fun p=>((ap T p.1 t).map fun b=>fr (mi p.2 (b.1,1))))=(dN (ap T) ps t).map fr:=by
    unfold dN;rw [List.map_filterMap]
    congr 1
    funext p
    cases ap T p.1 t <;> rfl
   have he:ps.filterMap (fun p=>((ap T t p.1).map fun b=>fr (pl p.2 (b.1,1))))=(dc (ap T) ps t).map fr:=by
    unfold dc;rw [List.map_filterMap]
    congr 1
    funext p
    cases ap T t p.1 <;> rfl
   have lf:=low_fr h;have hf:=C6 h;have g1:=pc (x:=.lst ((dN (ap T) ps t).map fr)) rfl (fun p m=>Fk.of (lf p m))
   have g2:=Dk (x:=.lst ((dc (ap T) ps t).map fr)) rfl (fun p m=>Fk.of (hf p m))
   have g3:=lY (lo:=gre (dN (ap T) ps t) none) (hi:=lea (dc (ap T) ps t) none) (fun p e=>(iS e).elim (fun z=>lf p z) fun z=>nomatch z) (fun p e=>(nF e).elim (fun z=>hf p z) fun z=>nomatch z)
   refine cD (aw (cT (d:=.lst ((dN (ap T) ps t).map fr)) (δ':=[some (ax T),some (plD ps),some (.int ((t:Nat):Int)),none,none]) ?lows) (aw (cT (d:=.lst ((dc (ap T) ps t).map fr)) (δ':=[some (ax T),some (plD ps),some (.int ((t:Nat):Int)),some (.lst ((dN (ap T) ps t).map fr)),none]) ?highs) (bS (δ':=[some (ax T),some (plD ps),some (.int ((t:Nat):Int)),some (.lst ((dN (ap T) ps t).map fr)),some (.lst ((dc (ap T) ps t).map fr))]) ?_)))
   case lows =>
    rw [<- le];refine jU (f:=fun p:Nat×(Int×Int)=>D.int ((p.1:Nat):Int)) (h:=fun p=>((ap T p.1 t).map fun b=>fr (mi p.2 (b.1,1)))) (xs:=ps) ?hs (fun p m=>?_) (Nat.le_trans h.len (by decide))
    case hs =>
     show some ((ps.map fun p=>((p.1:Nat):Int)).map D.int)=_
     rw [List.map_map];rfl
    have bb:=h.bd p.1 t;obtain ⟨r,i1,i2⟩:=lU h.sq (h.lt p m) h.ht;have gp:=A4 h.nd (show (p.1,p.2)∈ps from m)
    rcases q:ap T p.1 t with _ | ⟨k,s⟩
    . refine tj (δ1:=[some (.int ((p.1:Nat):Int)),some (ax T),some (plD ps),some (.int ((t:Nat):Int))]) rfl ?_;rw [q] at i2;simp only [ah,fC,f2,fT,asB,Zc,Zd,Ze,Bool.not_true,bi,i1,i2,lj,bi,bdD]
    . rw [q] at i2 bb;refine p0 (δ1:=[some (.int ((p.1:Nat):Int)),some (ax T),some (plD ps),some (.int ((t:Nat):Int))]) rfl ?_ ?_
      . simp only [ah,fC,f2,fT,asB,Zc,Zd,Ze,Bool.not_false,bi,i1,i2,lj,bi,bdD]
      . refine rT (δ':=[some (.int ((p.1:Nat):Int)),some (ax T),some (plD ps),some (.int ((t:Nat):Int))]) ?_ rfl;show vI _ [some (.int ((p.1:Nat):Int)),some (sh (ax T)),some (sh (plD ps)),some (.int ((t:Nat):Int))]=_;rw [jH,vk];refine bJ ?_;have e5:=e2w (op:=fun p q=>fr (mi p q)) (Flw.of (h.fr p m)) (Bg bb)
        have e6:gIx (bdD (some (k,s))) (.int 0)=some (.int k):=rfl;simp only [ah,fC,f2,ak,af,au,cg,Zc,Zd,Ze,aU,i1,i2,gp,aZ,e5]
   case highs =>
    rw [<- he];show nU _ _ _ _ _ _ [some (ax T),some (plD ps),some (.int ((t:Nat):Int)),some (.lst ((dN (ap T) ps t).map fr)),none]=_;refine jU (f:=fun p:Nat×(Int×Int)=>D.int ((p.1:Nat):Int)) (h:=fun p=>((ap T t p.1).map fun b=>fr (pl p.2 (b.1,1)))) (xs:=ps) ?hs (fun p m=>?_) (Nat.le_trans h.len (by decide))
    case hs =>
     show some ((ps.map fun p=>((p.1:Nat):Int)).map D.int)=_
     rw [List.map_map];rfl
    have bb:=h.bd t p.1;obtain ⟨r,i1,i2⟩:=lU h.sq h.ht (h.lt p m);have gp:=A4 h.nd (show (p.1,p.2)∈ps from m)
    rcases q:ap T t p.1 with _ | ⟨k,s⟩
    . refine tj (δ1:=[some (.int ((p.1:Nat):Int)),some (ax T),some (plD ps),some (.int ((t:Nat):Int))]) rfl ?_;rw [q] at i2;simp only [ah,fC,f2,fT,asB,Zc,Zd,Ze,Bool.not_true,bi,i1,i2,lj,bi,bdD]
    . rw [q] at i2 bb;refine p0 (δ1:=[some (.int ((p.1:Nat):Int)),some (ax T),some (plD ps),some (.int ((t:Nat):Int))]) rfl ?_ ?_
      . simp only [ah,fC,f2,fT,asB,Zc,Zd,Ze,Bool.not_false,bi,i1,i2,lj,bi,bdD]
      . refine rT (δ':=[some (.int ((p.1:Nat):Int)),some (ax T),some (plD ps),some (.int ((t:Nat):Int))]) ?_ rfl;show vI _ [some (.int ((p.1:Nat):Int)),some (sh (ax T)),some (sh (plD ps)),some (.int ((t:Nat):Int))]=_;rw [jH,vk];refine bJ ?_;have e5:=e2w (op:=fun p q=>fr (pl p q)) (Flw.of (h.fr p m)) (Bg bb)
        have e6:gIx (bdD (some (k,s))) (.int 0)=some (.int k):=rfl;simp only [ah,fC,f2,ak,af,au,cg,Zc,Zd,Ze,aU,i1,i2,gp,aZ,e5]
   . show vI _ [some (ax T),some (plD ps),some (.int ((t:Nat):Int)),some (.lst ((dN (ap T) ps t).map fr)),some (.lst ((dc (ap T) ps t).map fr))]=_;refine bJ ?_;simp only [ah,ak,af,au,Zc,Zd,Ze,g1,g2,g3];rfl
theorem qp:aF ["table","thing","bounds","ways","middle","ring"] ["table"] (aq kL):=⟨rfl,rfl,rfl,by decide +kernel,rfl,by decide +kernel,by decide +kernel⟩
theorem yG (F:Fun K "closed" "closed" kL f fd)  (hwith_noughts:HasF P w K mg base 2 "with_noughts" ["table"] (fn gP)) (hstraight_ways:HasF P w K mg base 1 "straight_ways" ["size"] (fn fS)) (hring_through:HasF P w K mg base 5 "ring_through" ["bounds","ways","middle"] (fn eN)) (hlead_through:FQ P w K mg base 2 "lead_through" ["bounds","ways","middle"] (fnM eO)) (hkeeps:Has P w K mg base 4 "keeps" ["part","bound"] (fn iV)) (hfractionD:pK P w K mg base 3 "fraction" ["top","bottom"] [1] (fn aN))  (m_range:mg "range" = none) (m_len:mg "len" = none):FnOk P w K mg base CX0 6 f fd ["table"] (bC K 1 (fn gR)):=by
 have sc:=qp;refine bE F qp (fun cdv A outer s H E ds d hr hG hl=>?_)
 obtain ⟨d0,T,n,hT,hs,hn,hB,rfl,rfl⟩:=aT hG;have hown:=mD n T;refine ⟨_,(aA (d5 1 sc.nd PassesOwn.never rfl (bo rfl m_range (ae (aW bc eL rfl m_len PySem.boot_len (ae (aa 0) aj)) aj))
  (aI (d4 (c9 (bU (ay hkeeps hr (ae (cG hfractionD hr (ae ao aj)) (ae (av (av (aa 0) (aa 1)) (aa 1)) aj))))) (aI (bg (vx (fI (aR jh) (fI (rM (fI (dG 1) iN)) iN))))) cO)))
  (aA (bn 2 sc.nd (ck hwith_noughts hr (ae (aa 0) aj)))
  (aA (bn 3 sc.nd (ck hstraight_ways hr (ae (aW bc eL rfl m_len PySem.boot_len (ae (aa 0) aj)) aj)))
  (aA (d5 4 sc.nd PassesOwn.never rfl (bo rfl m_range (ae (aW bc eL rfl m_len PySem.boot_len (ae (aa 0) aj)) aj))
   (aA (bn 5 sc.nd (ck hring_through hr (ae (aa 2) (ae (aa 3) (ae (aa 4) aj)))))
   (aA (d4 (kO (aa 5) bp) (aI (bg (vx (fI (aR jh) (fI (dG 5) iN))))) cO)
   (aI (Ae 2 3 hlead_through hr (d6 (pvi 2) (d6 (pvi 3) (ae (aa 4) aj))))))))
  (aI (bg (vx (fI (aR jh) (fI (dG 2) iN))))))))),?_,?own⟩
 case own=>first | rfl | exact hown
 . show aJ ((?f:SD) (aH 6 _))=_;have e0:aH 6 [d0]=[some (ax T),none,none,none,none,none]:=by
    show [some (sh d0),none,none,none,none,none]=_;rw [show sh d0=ax T from hT]
   rw [e0];have len:gu [ax T]=some (.int (n:Int)):=si hs;have hv:=fun o1 o2 o3 o4 o5:Option D=>dB (g:=af (au gu (af (ah 0) ak)) ak) (δ:=[some (ax T),o1,o2,o3,o4,o5]) (n:=n) (by simp only [ah,ak,af,au,Zc,Zd,len]) (by omega)
   have fo:Fk (0,1):=Fk.of (mZ (k:=200) (by decide))
   obtain ⟨k1,k2⟩:=nM (i:=1) (s:=((sIf (bX (fT (au (fn iV) (af (au (dfl (fn aN) [1]) (af (fC (.int 0)) ak)) (af (f2 gIx (f2 gIx (ah 0) (ah 1)) (ah 1)) ak))))) (gE (BP (l8 (vI (fC (.str "ring"))) (l8 (zu (l8 (gA 1) yg)) yg)))) bF))) (f:=fun (i:Nat)=>D.int (i:Int)) (fun _ δ=>∃ o1,δ=[some (ax T),o1,none,none,none,none]) (pD T) (List.range n) (by
    rintro pre t post _ hx ⟨o1,rfl⟩
    obtain ⟨rfl,ht⟩:=bH hx;generalize pre.length=t at *
    obtain ⟨r1,q1,q2⟩:=lU hs ht ht;have kk:=sI (p:=(0,1)) (b:=ap T t t) fo ((hB t t).mono (by decide))
    unfold pD;cases hk:kp (0,1) (ap T t t) with
    | true =>
     refine ⟨fun _=>⟨_,cf (by simp only [ah,fC,f2,fT,asB,bX,ak,af,au,Zc,Option.map_some,Zd,Ze,Zf,Zg,Bool.not_true,aZ,q1,q2,rF,kk,hk]) rfl,some (.int (t:Int)),rfl⟩,fun d z=>?_⟩
     rw [if_pos rfl] at z;cases z
    | false =>
     refine ⟨fun z=>?_,fun d z=>?_⟩
     . rw [if_neg (by decide)] at z
       cases z
     . rw [if_neg (by decide)] at z
       cases z;exact dL (by simp only [ah,fC,f2,fT,asB,bX,ak,af,au,Zc,Option.map_some,Zd,Ze,Zf,Zg,Bool.not_false,aZ,q1,q2,rF,kk,hk]) (jE rfl)) (List.range n) [] [some (ax T),none,none,none,none,none] rfl ⟨_,rfl⟩
   obtain ⟨c,hc⟩:∃ c,c=cz T:=⟨_,rfl⟩;have hcd:∀ i,i < n->c i i=b0:=fun i _=>by rw [hc];exact if_pos rfl
   have hcb:∀ i j,Bk 2000 (c i j):=by rw [hc];exact G1 hB
   have lp:=fun o1:Option D=>nM (i:=4) (s:=((bf (aX 5 (fY (fn eN) (af (ah 2) (af (ah 3) (af (ah 4) ak))))) (bf (sIf (fT (f2 lj (ah 5) (fC .non))) (gE (BP (l8 (vI (fC (.str "ring"))) (l8 (gA 5) yg)))) bF) (oj 2 3 (fnM eO) (af (ah 4) ak)))))) (f:=fun (i:Nat)=>D.int (i:Int)) (fun pre δ=>∃ o1 o4 o5,St n c pre.length/\δ=[some (ax T),o1,some (aE (aD n (dm c pre.length))),some (.lst (aV n (pw c pre.length))),o4,o5]) (mY n c) (List.range n) (by
    rintro pre m post _ hx ⟨o1,o4,o5,st,rfl⟩
    obtain ⟨rfl,hm⟩:=bH hx;rw [Zh,List.length_singleton];generalize pre.length=m at *
    have rt:=st.rt hcb hn hm;have er:=o9 rt (d9 (aD n (dm c m))) (by rw [sh,n6]:sh (.lst (aV n (pw c m)))=.seq (fH n (pw c m)))
    have ow:=xo n (dm c m) (pw c m) m;unfold mY;rcases lH (n:=n) (m:=m) (dm c m) (pw c m) with e | ⟨t,ht,e,bad⟩
    . have ok:=wV e;have st':=wK st hm ok;have el:=pb rt (st.fw.dia m hm);rw [e] at er ow ⊢;refine ⟨fun _=>⟨[some (ax T),o1,some (aE (aD n (dm c (m+1)))),some (.lst (aV n (pw c (m+1)))),some (.int (m:Int)),some .non],aw (bA (cL (ds:=[aE (aD n (dm c m)),.lst (aV n (pw c m)),.int (m:Int)]) rfl er ow)) (aw (cf rfl rfl) ?_),_,_,_,st',rfl⟩,fun d z=>by cases z⟩
      exact zw (i:=2) (j:=3) (xs:=eS (aD n (dm c m))) (ys:=aV n (pw c m)) (es:=[.int (m:Int)]) (d0:=aE (aD n (dm c (m+1)))) (d1:=.lst (aV n (pw c (m+1)))) rfl rfl rfl el rfl (cm _) (oD _ _) (by decide)
    . rw [e] at er ow ⊢;refine ⟨(fun z=>by cases z),fun d z=>?_⟩
      cases z;exact aw (bA (cL (ds:=[aE (aD n (dm c m)),.lst (aV n (pw c m)),.int (m:Int)]) rfl er ow)) (dS (dL rfl (bS rfl)))) (List.range n) [] [some (ax T),o1,some (aE (aD n (dm c 0))),some (.lst (aV n (pw c 0))),none,none] rfl ⟨_,_,_,wJ hcd,rfl⟩
   unfold cr;rw [<- hc];cases hb:aS (pD T) [] (List.range n) with
   | some d=>exact cD (dS (cw (hv _ _ _ _ _) (k2 d hb)))
   | none =>
    obtain ⟨_,w,o1,rfl⟩:=k1 hb;obtain ⟨l1,l2⟩:=lp o1;have ew:=o7 (dH T) hs hn;rw [<- hc] at ew;refine cD (aw (cw (hv _ _ _ _ _) w) (aw (cT (cL (ds:=[ax T]) rfl ew (cm _))) (aw (cT (cL (ds:=[.int (n:Int)]) (by simp only [ah,ak,af,au,Zc,Zd,Zf,Zg,len]) (mU hn) (oD _ _))) ?_)))
    dsimp only [List.set_cons_zero,List.set_cons_succ];cases hr2:aS (mY n c) [] (List.range n) with
    | some d=>exact dS (cw (hv _ _ _ _ _) (l2 d hr2))
    | none =>
     obtain ⟨_,w2,o1',o4,o5,st,rfl⟩:=l1 hr2;rw [ZF] at w2;exact aw (cw (hv _ _ _ _ _) w2) (bS (by rfl))
theorem qm:aF ["bounds","values","placed","thing"] ["bounds","values"] (aq kJ):=⟨rfl,rfl,rfl,by decide +kernel,rfl,by decide +kernel,by decide +kernel⟩
theorem yE (F:Fun K "filled" "filled" kJ f fd)  (hminus:Has P w K mg base 3 "minus" ["one","other"] (fn jQ)) (hvalue_beside:HasF P w K mg base 5 "value_beside" ["bounds","placed","thing"] (fn cJ))  (m_dict:mg "dict" = none) (m_range:mg "range" = none) (m_len:mg "len" = none):FnOk P w K mg base CX0 6 f fd ["bounds","values"] (bC K 2 (fn jA)):=by
 have sc:=qm;refine bE F qm (fun cdv A outer s H E ds d hr hG hl=>?_)
 obtain ⟨d0,d1,T,n,ps,h0,h1,h,rfl,rfl⟩:=aT hG;have hown:own (.lst ((fpt T n ps).map fr))=true:=by rw [own];exact iz _
 refine ⟨_,(aA (bn 2 sc.nd (yu rfl m_dict zg (ae (aa 1) aj)))
  (aA (d5 3 sc.nd PassesOwn.never rfl (bo rfl m_range (ae (aW bc eL rfl m_len PySem.boot_len (ae (aa 0) aj)) aj))
   (aI (d4 (vA (oW hr) (aa 3) (aa 2)) (aI (xg (oW hr) 2 (Gx 2 (ay hvalue_beside.has hr (ae (aa 0) (ae (aa 2) (ae (aa 3) aj))))) (aa 3))) cO)))
  (aI (bg (kN (by exact (vE rfl m_range (ae ao (ae (aW bc eL rfl m_len PySem.boot_len (ae (aa 0) aj)) aj)))) (N:=["thing","placed"]) (js:=[2]) (cl:=[("placed",_)]) (fun _ _ _ _ _=>by exact (aR (ay hminus hr (ae (nE (oW hr) (aa 1) (aa 0)) (ae (nE (oW hr) (aa 1) ao) aj))))) (by exact CompOk.one)))))),?_,?own⟩
 case own=>first | rfl | exact hown
 . show aJ ((?f:SD) (aH 4 _))=_;have e0:aH 4 [d0,d1]=[some (ax T),some (plS ps),none,none]:=by
    show [some (sh d0),some (sh d1),none,none]=_;rw [show sh d0=_ from h0,h1]
   rw [e0];have tl:(cY T).length=n:=by unfold cY;rw [Zi];exact h.sq.len
   obtain ⟨_,w,o,rfl⟩:=dz (i:=3) (s:=((sIf (fT (f2 nI (ah 3) (ah 2))) (oi 2 (ah 3) (vFz 2 (au (fn cJ) (af (ah 0) (af (ah 2) (af (ah 3) ak)))))) bF))) (f:=fun (i:Nat)=>D.int (i:Int)) (fun pre δ=>∃ o,δ=[some (ax T),some (plS ps),some (plO (bj (ap T) ps pre.length)),o]) (List.range n) (by
    intro pre x post δ e hP;obtain ⟨o,rfl⟩:=hP;obtain ⟨hx,hxn⟩:x=pre.length/\pre.length < n:=by
     have a:=congrArg (fun l=>l[pre.length]?) e
     have b:=congrArg List.length e;rw [ZF,Zh,Zj] at b;have c:pre.length < n:=by omega
     simp only [List.getElem?_range c,List.getElem?_append_right (ZG _),Nat.sub_self,Zd] at a;exact ⟨(ZA a).symm,c⟩
    subst hx;have vb:=h.vb _ hxn;rw [Zh,List.length_singleton]
    by_cases q:has (bj (ap T) ps pre.length) pre.length
    . refine ⟨[some (ax T),some (plS ps),some (plO (bj (ap T) ps pre.length)),some (.int (pre.length:Int))],cf ?_ rfl,some (.int (pre.length:Int)),by rw [Bi q]⟩
      show asB (.bl (!(lk _ _ _).isSome))=_;rw [vO,decide_eq_true q];rfl
    . refine ⟨[some (ax T),some (plS ps),some (plO (bj (ap T) ps (pre.length+1))),some (.int (pre.length:Int))],dL ?_ ?_,some (.int (pre.length:Int)),rfl⟩
      . show asB (.bl (!(lk _ _ _).isSome))=_;rw [vO,decide_eq_false q];rfl
      . have ev:vFz 2 (au (fn cJ) (af (ah 0) (af (ah 2) (af (ah 3) ak)))) [some (ax T),some (plS ps),some (plO (bj (ap T) ps pre.length)),some (.int (pre.length:Int))]=some (fr (dO (ap T) (bj (ap T) ps pre.length) pre.length),[some (ax T),some (plS ps),some (plO (bj (ap T) ps pre.length)),some (.int (pre.length:Int))]):=by
         show ((fn cJ [ax T,plD (bj (ap T) ps pre.length),.int (pre.length:Int)]).bind _)=_;rw [o8 vb];rfl
        show oi 2 (ah 3) _ [some (ax T),some (plS ps),some (plO (bj (ap T) ps pre.length)),some (.int (pre.length:Int))]=_;unfold oi;rw [ev];have nk:¬ ((pre.length:Nat):Int)∈(bj (ap T) ps pre.length).map fun p=>((p.1:Nat):Int):=fun z=>by
         obtain ⟨p,mp,ep⟩:=Zn.mp z;have e9:p=(pre.length,p.2):=Prod.ext (by show p.1=pre.length;omega) rfl
         rw [e9] at mp;exact q ⟨p.2,mp⟩
        show (if (imm _ && decide (((bj (ap T) ps pre.length).map fun p=>((p.1:Nat):Int)).length<=999))=true then some (Res.nx [some (ax T),some (plS ps),some (.md (ptK _ _) (ptV _ _ _ _)),some (.int (pre.length:Int))]) else none)=_
        rw [if_pos (by rw [Zi,decide_eq_true (Nat.le_trans vb.len (by decide))];rfl)]
        unfold ptK ptV;rw [if_neg nk,if_neg nk,Dg q];unfold plO;rw [List.map_append,List.map_append];rfl) (List.range n) [] [some (ax T),some (plS ps),some (plO ps),none] rfl ⟨none,rfl⟩
   rw [ZF] at w;refine cD (aw (cT (d:=plO ps) (δ':=[some (ax T),some (plS ps),none,none]) ?cp) (aw (cw (δ':=[some (ax T),some (plS ps),some (plO ps),none]) (dB (n:=n) ?len (Nat.le_trans h.n1 (by decide))) w) (bS (δ':=[some (ax T),some (plS ps),some (plO (bj (ap T) ps n)),o]) ?_)))
   case cp=>exact if_pos (qM ps)
   case len =>
    show some [D.int ((cY T).length:Int)]=_;rw [tl]
   . obtain ⟨z,mz⟩:=h.all 0 h.n0;have a0:=gO h.nd mz;have src:p7 (af (fC (.int 1)) (af (au gu (af (ah 0) ak)) ak)) [some (ax T),some (plS ps),some (plO (bj (ap T) ps n)),o]=some ((List.range (n - 1)).map fun (i:Nat)=>D.int (((i+1:Nat)):Int)):=by
      have eb:af (fC (.int 1)) (af (au gu (af (ah 0) ak)) ak) [some (ax T),some (plS ps),some (plO (bj (ap T) ps n)),o]=some [.int 1,.int ((cY T).length:Int)]:=rfl;rw [tl] at eb;exact yj eb h.n0 (Nat.le_trans h.n1 (by decide))
     unfold fpt;rw [List.map_map];refine gw (g:=fun i=>fr (mi (atP (bj (ap T) ps n) (i+1)) (atP (bj (ap T) ps n) 0))) src (fun i m=>?_) ?_
     case refine_2=>rw [ZF];have:=h.n1;omega
     . have hi:i+1 < n:=by have:=Zo.mp m;omega
       obtain ⟨v,mv⟩:=h.all (i+1) hi;have a1:=gO h.nd mv;rw [a0,a1];refine rT (δ':=[some (.int ((i+1:Nat):Int)),some (plS (bj (ap T) ps n))]) ?_ rfl;show vI _ [some (.int ((i+1:Nat):Int)),some (sh (plO (bj (ap T) ps n)))]=_;rw [zz];refine bJ ?_;have k1:uB (plS (bj (ap T) ps n)) (.int ((i+1:Nat):Int))=some (fr v):=xv h.nd mv;have k0:uB (plS (bj (ap T) ps n)) (.int 0)=some (fr z):=xv (t:=0) h.nd mz;have e5:=e2w (op:=fun p q=>fr (mi p q)) (Flw.of (h.fr _ mv)) (Flw.of (h.fr _ mz))
       simp only [ah,fC,f2,ak,af,au,Zc,Zd,Ze,k1,k0,e5]
theorem cj:aF ["table","answer"] ["table"] (aq bR):=⟨rfl,rfl,rfl,by decide +kernel,rfl,by decide +kernel,by decide +kernel⟩
theorem jp (F:Fun K "closed_or_refused" "closed_or_refused" bR f fd)  (hclosed:HasF P w K mg base 6 "closed" ["table"] (fn gR))  :FnOk P w K mg base CX0 7 f fd ["table"] (bC K 1 (fn bh)):=by
 have sc:=cj;refine bE F cj (fun cdv A outer s H E ds d hr hG hl=>?_)
 obtain ⟨d0,T,U,n,hT,hs,hn,hb,c,rfl,rfl⟩:=aT hG;have hown:=cm U;refine ⟨_,(aA (bn 1 sc.nd (ck hclosed hr (ae (aa 0) aj)))
  (aA (d4 (kP hr.units (av (aa 1) ao) jh) (aI Ac) cO)
  (aI (bg (zW 1 (dG 1) ao))))),?_,?own⟩
 case own=>first | rfl | exact hown
 . show aJ ((?f:SD) (aH 2 _))=_;have e0:aH 2 [d0]=[some (ax T),none]:=by
    show [some (sh d0),none]=_;rw [show sh d0=ax T from hT]
   rw [e0];have ec:=lu (dH T) hs hn hb;rw [c.cl] at ec;have ho:own (.tup [.str "table",aE U])=true:=by
    show (true && (own (aE U) && true))=true;rw [cm];rfl
   have i0:gIx (.tup [.str "table",aE U]) (.int 0)=some (.str "table"):=rfl;have q:jv (.str "table") (.str "ring")=some (.bl false):=rfl;exact cD (aw (bA (cL (ds:=[ax T]) rfl ec ho)) (aw (cf (by simp only [ah,fC,f2,fT,asB,Zc,Zd,Ze,Zf,Zg,i0,q]) rfl) (bS (DC (ds:=[.str "table",aE U]) (d:=aE U) rfl rfl))))
theorem jc {cP:Addr} (F:Fun K "closed_or_refused" "closed_or_refused" bR f fd) (hclosed:HasF P w K mg base 6 "closed" ["table"] (fn gR))  (m_NoPoint:mg "NoPoint" = some (.ref cP)) (x_NoPoint:PySem.W.excIn K cP [.type "ValueError",.type "Exception",.type "BaseException",.type "object"] "ValueError.__new__" = true):FnOk P w K mg base (CX1 P w) 7 f fd ["table"] (uI K 1 (cq cP)):=by
 have sc:=cj;refine Bm F cj (fun cdv A outer s H E ds r hr hG hl=>?_)
 refine ⟨_,(aA (bn 1 sc.nd (ck hclosed hr (ae (aa 0) aj)))
  (aA (d4 (kP hr.units (av (aa 1) ao) jh) (aI (Ab PySem.F.excBase_ValueError hr.hd rfl m_NoPoint x_NoPoint (ae jh aj))) cO)
  (aI (bg (zW 1 (dG 1) ao))))),?_,?_⟩
 . show oF ((?f:SD) (aH 2 _))=_;rcases vT hG with ⟨d,hd,rfl⟩ | ⟨hb,rfl⟩
   . obtain ⟨d0,T,U,n,hT,hs,hn,hb,c,rfl,rfl⟩:=aT hd;have e0:aH 2 [d0]=[some (ax T),none]:=by
      show [some (sh d0),none]=_;rw [show sh d0=ax T from hT]
     rw [e0];have ec:=lu (dH T) hs hn hb;rw [c.cl] at ec;have ho:own (.tup [.str "table",aE U])=true:=by
      show (true && (own (aE U) && true))=true;rw [cm];rfl
     have i0:gIx (.tup [.str "table",aE U]) (.int 0)=some (.str "table"):=rfl;have q:jv (.str "table") (.str "ring")=some (.bl false):=rfl;exact At (aw (bA (cL (ds:=[ax T]) rfl ec ho)) (aw (cf (by simp only [ah,fC,f2,fT,asB,Zc,Zd,Ze,Zf,Zg,i0,q]) rfl) (bS (DC (ds:=[.str "table",aE U]) (d:=aE U) rfl rfl))))
   . obtain ⟨d0,T,n,r,hT,hs,hn,hb,hc,rfl⟩:=hb;have e0:aH 2 [d0]=[some (ax T),none]:=by
      show [some (sh d0),none]=_;rw [show sh d0=ax T from hT]
     rw [e0];have ec:=lu (dH T) hs hn hb;have ho:=mD n T;rw [hc] at ec ho;have i0:gIx (.tup [.str "ring",.lst (intsD r)]) (.int 0)=some (.str "ring"):=rfl;have q:jv (.str "ring") (.str "ring")=some (.bl true):=rfl;exact EL (aw (bA (cL (ds:=[ax T]) rfl ec ho)) (BZ (dL (by simp only [ah,fC,f2,fT,asB,Zc,Zd,Ze,Zf,Zg,i0,q]) rfl)))
 . intro d e;subst e;rcases vT hG with ⟨d',hd,e⟩ | ⟨_,e⟩
   . cases e;obtain ⟨d0,T,U,n,_,_,_,_,_,_,rfl⟩:=aT hd;exact cm U
   . cases e
theorem gT:aF ["table"] ["table"] (aq gD):=⟨rfl,rfl,rfl,by decide +kernel,rfl,by decide +kernel,by decide +kernel⟩
theorem tV (F:Fun K "point_of" "point_of" gD f fd)  (hfilled:HasF P w K mg base 6 "filled" ["bounds","values"] (fn jA)) (hclosed_or_refused:HasF P w K mg base 7 "closed_or_refused" ["table"] (fn bh)) (hfractionD:pK P w K mg base 3 "fraction" ["top","bottom"] [1] (fn aN))  :FnOk P w K mg base CX0 8 f fd ["table"] (bC K 1 (fn fE)):=by
 have sc:=gT;refine bE F gT (fun cdv A outer s H E ds d hr hG hl=>?_)
 obtain ⟨d0,T,U,n,hT,hs,n0,hn,hb,c,rfl,rfl⟩:=aT hG;have hown:own (.lst ((fpt U n ps0).map fr))=true:=by rw [own];exact iz _
 refine ⟨_,(aI (bg (ck hfilled hr (ae (ay hclosed_or_refused.has hr (ae (aa 0) aj)) (ae (tU ao (cG hfractionD hr (ae ao aj))) aj))))),?_,?own⟩
 case own=>first | rfl | exact hown
 . show aJ ((?f:SD) (aH 1 _))=_;have e0:aH 1 [d0]=[some (ax T)]:=by
    show [some (sh d0)]=_;rw [show sh d0=ax T from hT]
   rw [e0];have ec:=dq (dH T) hs hn (fun i j=>(hb i j).mono (by decide)) c
   have ef:=pd (d0:=aE U) (d1:=.md [0] [fr (0,1)]) (d9 U) (ps:=ps0) rfl (c.fi n0 hn hb);exact cD (bS (cL (ds:=[aE U,.md [0] [fr (0,1)]]) (by simp only [ah,fC,ak,af,au,Zc,Zd,ec,sA,jf,aZ];rfl) ef hown))
theorem rV {cP:Addr} (F:Fun K "point_of" "point_of" gD f fd) (hfilled:HasF P w K mg base 6 "filled" ["bounds","values"] (fn jA)) (hclosed_or_refused:HasF P w K mg base 7 "closed_or_refused" ["table"] (fn bh)) (hfractionD:pK P w K mg base 3 "fraction" ["top","bottom"] [1] (fn aN))  (hclosed_or_refusedX:u8 P w K mg base 7 "closed_or_refused" ["table"] (cq cP)):FnOk P w K mg base (CX1 P w) 8 f fd ["table"] (uI K 1 (fL cP)):=by
 have sc:=gT;refine Bm F gT (fun cdv A outer s H E ds r hr hG hl=>?_)
 rcases vT hG with ⟨d,hd,rfl⟩ | ⟨hb,rfl⟩
 . obtain ⟨d0,T,U,n,hT,hs,n0,hn,hb,c,rfl,rfl⟩:=aT hd;have hown:own (.lst ((fpt U n ps0).map fr))=true:=by rw [own];exact iz _
   refine ⟨_,(aI (bg (ck hfilled hr (ae (ay hclosed_or_refused.has hr (ae (aa 0) aj)) (ae (tU ao (cG hfractionD hr (ae ao aj))) aj))))),?_,?_⟩
   . show oF ((?f:SD) (aH 1 _))=_;have e0:aH 1 [d0]=[some (ax T)]:=by
      show [some (sh d0)]=_;rw [show sh d0=ax T from hT]
     rw [e0];have ec:=dq (dH T) hs hn (fun i j=>(hb i j).mono (by decide)) c
     have ef:=pd (d0:=aE U) (d1:=.md [0] [fr (0,1)]) (d9 U) (ps:=ps0) rfl (c.fi n0 hn hb);exact At (bS (cL (ds:=[aE U,.md [0] [fr (0,1)]]) (by simp only [ah,fC,ak,af,au,Zc,Zd,ec,sA,jf,aZ];rfl) ef hown))
   . intro d e;cases e;exact hown
 . obtain ⟨ff,_,_,hfm,hfk,_⟩:=hfilled.ex;refine ⟨_,aI (Ck (Cu hfm hfk (qw hclosed_or_refusedX hr (ae (aa 0) aj)))),?_,fun d e=>nomatch e⟩
   show oF ((?g:SD) (aH 1 _))=_;have hb':=hb;obtain ⟨d0,T,n,r,hT,hs,hn,hb,hc,rfl⟩:=hb;have e0:aH 1 [d0]=[some (ax T)]:=by
    show [some (sh d0)]=_;rw [show sh d0=ax T from hT]
   rw [e0];have bt:sX [ax T]:=⟨ax T,T,n,r,dH T,hs,hn,hb,hc,rfl⟩;have gx:cq cP [ax T]=some (.error cP):=A6 (EV bt) bt;refine EM (δ':=[some (ax T)]) ?_;unfold zG;have z0:af (ah 0) ak [some (ax T)]=some [ax T]:=rfl;rw [z0];dsimp only [Option.bind_some];rw [gx];rfl
theorem kB:aF ["table","i","j","e","bounds","values"] ["table","i","j","e"] (aq gZ):=⟨rfl,rfl,rfl,by decide +kernel,rfl,by decide +kernel,by decide +kernel⟩
theorem rX (F:Fun K "far_point" "far_point" gZ f fd)  (hclosed_or_refused:HasF P w K mg base 7 "closed_or_refused" ["table"] (fn bh)) (hfar_value:Has P w K mg base 5 "far_value" ["bound","back","e"] (fn fM)) (hfilled:HasF P w K mg base 6 "filled" ["bounds","values"] (fn jA)) (hfractionD:pK P w K mg base 3 "fraction" ["top","bottom"] [1] (fn aN))  :FnOk P w K mg base CX0 8 f fd ["table","i","j","e"] (bC K 4 (fn hU)):=by
 have sc:=kB;refine bE F kB (fun cdv A outer s H E ds d hr hG hl=>?_)
 obtain ⟨d0,T,U,n,i,j,e,hT,h,c,rfl,rfl⟩:=aT hG;have hown:own (.lst ((fpt U n (psF U i j e)).map fr))=true:=by rw [own];exact iz _
 refine ⟨_,(aA (bn 4 sc.nd (ck hclosed_or_refused hr (ae (aa 0) aj)))
  (aA (bn 5 sc.nd (z6 (aa 2) (cG hfractionD hr (ae ao aj))))
  (aA (xg (oW hr) 5 (aR (ay hfar_value hr (ae (av (av (aa 4) (aa 1)) (aa 2)) (ae (av (av (aa 4) (aa 2)) (aa 1)) (ae (aa 3) aj))))) (aa 1))
  (aI (bg (ck hfilled hr (ae (aa 4) (ae (aa 5) aj)))))))),?_,?own⟩
 case own=>first | rfl | exact hown
 . show aJ ((?f:SD) (aH 6 _))=_;have e0:aH 6 [d0,.int (i:Int),.int (j:Int),fr e]=[some (ax T),some (.int (i:Int)),some (.int (j:Int)),some (fr e),none,none]:=by
    show [some (sh d0),some (.int (i:Int)),some (.int (j:Int)),some (sh (fr e)),none,none]=_;rw [show sh d0=ax T from hT,DI]
   rw [e0];have ec:=dq (dH T) h.sq h.n1 (fun i j=>(h.bk i j).mono (by decide)) c
   have kb:=c.bk600 h.n1 h.bk;have ev:=uM ((kb i j).mono (by decide)) ((kb j i).mono (by decide)) h.he
   obtain ⟨r1,a1,a2⟩:=ki c.sq h.hi h.hj;obtain ⟨r2,b1,b2⟩:=ki c.sq h.hj h.hi;have ef:=pd (d0:=aE U) (d1:=plO (psF U i j e)) (d9 U) (zz _) (h.fi c);have pk:oi 5 (ah 1) (vI (au (fn fM) (af (f2 gIx (f2 gIx (ah 4) (ah 1)) (ah 2)) (af (f2 gIx (f2 gIx (ah 4) (ah 2)) (ah 1)) (af (ah 3) ak))))) [some (ax T),some (.int (i:Int)),some (.int (j:Int)),some (fr e),some (aE U),some (.md [(j:Int)] [fr (0,1)])]=some (.nx [some (ax T),some (.int (i:Int)),some (.int (j:Int)),some (fr e),some (aE U),some (plO (psF U i j e))]):=by
    unfold oi;have z:vI (au (fn fM) (af (f2 gIx (f2 gIx (ah 4) (ah 1)) (ah 2)) (af (f2 gIx (f2 gIx (ah 4) (ah 2)) (ah 1)) (af (ah 3) ak)))) [some (ax T),some (.int (i:Int)),some (.int (j:Int)),some (fr e),some (aE U),some (.md [(j:Int)] [fr (0,1)])]=some (fr (ig (ap U i j) (ap U j i) e),[some (ax T),some (.int (i:Int)),some (.int (j:Int)),some (fr e),some (aE U),some (.md [(j:Int)] [fr (0,1)])]):=bJ (by simp only [ah,f2,ak,af,au,Zc,Zd,Ze,a1,a2.1,b1,b2.1,ev])
    rw [z,Cn];rfl
   have dp:jf (ah 2) (au (dfl (fn aN) [1]) (af (fC (.int 0)) ak)) [some (ax T),some (.int (i:Int)),some (.int (j:Int)),some (fr e),some (aE U),none]=some (.md [(j:Int)] [fr (0,1)],[some (ax T),some (.int (i:Int)),some (.int (j:Int)),some (fr e),some (aE U),none]):=by
    simp only [ah,fC,ak,af,au,Zc,Zd,Ze,jf,aZ];rfl
   exact cD (aw (bA (cL (ds:=[ax T]) rfl ec (cm U))) (aw (bA dp) (aw pk (bS (cL (ds:=[aE U,plO (psF U i j e)]) rfl ef hown)))))
theorem io:aF ["_law_table","_law_told","_law_e","_law_others"] ["_law_table"] (aq dE):=⟨rfl,rfl,rfl,by decide +kernel,rfl,by decide +kernel,by decide +kernel⟩
theorem lN (F:Fun K "_law_no_point" "_law_no_point" dE f fd) {cW cP w1 w2 w3 w4 w5 w6:Addr} (hpoint_of:HasF P w K mg base 8 "point_of" ["table"] (fn fE)) (hCK:G7 K cW cP w1 w2 w3 w4 w5 w6) (hpoint_ofX:u8 P w K mg base 8 "point_of" ["table"] (fL cP)) (m_WatchError:mg "WatchError" = some (.ref cW)) (m_NoPoint:mg "NoPoint" = some (.ref cP)) (m_NoAct:mg "NoAct" = some (.ref w1)) (m_NoAsk:mg "NoAsk" = some (.ref w2)) (m_NoFraction:mg "NoFraction" = some (.ref w3)) (m_NoMove:mg "NoMove" = some (.ref w4)) (m_NoNet:mg "NoNet" = some (.ref w5)) (m_NoWait:mg "NoWait" = some (.ref w6)) (m_isinstance:mg "isinstance" = none):FnOk P w K mg base CX0 9 f fd ["_law_table"] (bC K 1 (fn fV)):=by
 have sc:=io;have hEK:∀ C,okN cP C=true->va K C:=fun C h=>by
  have e:C=cP:=beq_iff_eq.mp h;rw [e];exact hCK.ek
 refine bE F io (fun cdv A outer s H E ds d hr hG hl=>?_)
 obtain ⟨bt,rfl⟩:=aT hG;refine ⟨_,(aA (bn 1 sc.nd (aR gH))
  (aA (Ez 2 (okN cP) sc.nd m_WatchError hCK.wc hCK.wt hCK.wb (CH hCK.nw) (fun W pn=>(aI (Ad (qw hpoint_ofX hr (ae (aa 0) aj))))) (fun z=>(aA (bn 3 sc.nd (aR (aW qV (xY hEK) rfl m_isinstance boot_isinstance (ae (aa 2) (ae (eY (ae (j9 rfl m_NoAct) (ae (j9 rfl m_NoAsk) (ae (j9 rfl m_NoFraction) (ae (j9 rfl m_NoMove) (ae (j9 rfl m_NoNet) (ae (j9 rfl m_NoWait) aj))))))) aj)))))
   (aI (bn 1 sc.nd (aR (lK (aW qV (xY hEK) rfl m_isinstance boot_isinstance (ae (aa 2) (ae (j9 rfl m_NoPoint) aj))) (iO (lJ (aa 3))))))))))
  (aI (bg (dG 1))))),?_,?own⟩
 case own=>rfl
 . show aJ ((?f:SD) (aH 4 _))=_;obtain ⟨d0,T,n,r,hT,hs,hn,hb,hc,rfl⟩:=bt;have e0:aH 4 [d0]=[some (ax T),none,none,none]:=by
    show [some (sh d0),none,none,none]=_;rw [show sh d0=ax T from hT]
   rw [e0];have bt:sX [ax T]:=⟨ax T,T,n,r,dH T,hs,hn,hb,hc,rfl⟩;have gx:fL cP [ax T]=some (.error cP):=A6 (GF bt) bt;have k1:(okN cP cP)=true:=beq_self_eq_true cP;have k2:=hCK.kn;have k4:=hCK.ka;have imF:imm (.bl false)=true:=rfl;have imT:imm (.bl true)=true:=rfl;refine cD (aw (δ':=[some (ax T),some (.bl false),none,none]) (cT (bJ (d:=.bl false) rfl)) (aw (δ':=[some (ax T),some (.bl true),none,some (.bl false)]) ?_ (bS (d:=.bl true) (δ':=[some (ax T),some (.bl true),none,some (.bl false)]) rfl)));unfold Eb;have z:nq (fL cP) (af (ah 0) ak) [some (ax T),some (.bl false),none,none]=some (.ex cP [some (ax T),some (.bl false),none,none]):=by
    unfold nq;have z0:af (ah 0) ak [some (ax T),some (.bl false),none,none]=some [ax T]:=rfl;rw [z0];dsimp only [Option.bind_some];rw [gx];rfl
   rw [z];dsimp only [Option.bind_some];rw [if_pos k1];simp only [cC,bf,ah,fC,f1,i8,vU,ak,af,jR,au,Zc,Option.map_some,Zr,List.map_nil,Zd,Ze,Zf,Zg,Bool.not_false,beq_self_eq_true,aX,vI,A7,if_true,qU,k2,k4,aX,vI,imF,imT]
theorem gW:aF ["_law_table","_law_one","_law_other","_law_bound_here","_law_e","_law_point","_law_parts","_law_top","_law_bottom"] ["_law_table","_law_one","_law_other","_law_bound_here","_law_e"] (aq c7):=⟨rfl,rfl,rfl,by decide +kernel,rfl,by decide +kernel,by decide +kernel⟩
theorem kY (F:Fun K "_law_far_right" "_law_far_right" c7 f fd)  (hfar_point:HasF P w K mg base 8 "far_point" ["table","i","j","e"] (fn hU)) (hLless:Has P w K mg base 1 "_law_less" ["_law_one","_law_other"] (fn c5)) (hLlies:HasF P w K mg base 2 "_law_lies" ["_law_table","_law_point"] (fn hV))  :FnOk P w K mg base CX0 9 f fd ["_law_table","_law_one","_law_other","_law_bound_here","_law_e"] (bC K 5 (fn fF)):=by
 have sc:=gW;refine bE F gW (fun cdv A outer s H E ds d hr hG hl=>?_)
 obtain ⟨d0,T,U,n,i,j,e,hT,fp,cU,rfl,rfl⟩:=aT hG;refine ⟨_,(aA (bn 5 sc.nd (ck hfar_point hr (ae (aa 0) (ae (aa 1) (ae (aa 2) (ae (aa 4) aj))))))
  (aA (bn 6 sc.nd (nr (j8 (ae (eY (ae ao (ae ao aj))) aj)) (aa 5)))
  (aA (DM [7,8] (aR (ay hLless hr (ae (av (aa 6) (aa 1)) (ae (av (aa 6) (aa 2)) aj)))) (Ag rfl (kR (pgN 7 sc.nd) (kR (pgN 8 sc.nd) xj))))
  (aA (d4 (c9 (bU (ay hLlies.has hr (ae (aa 0) (ae (aa 5) aj))))) (aI (bg (aR gH))) cO)
  (aA (d4 (cN (aa 3) bp) (aI (bg (aR (DN (cF (aa 7) (av (aa 4) ao)) (cF (aa 8) (av (aa 4) ao)))))) cO)
  (aA (d4 (c9 (bU (av (aa 3) ao))) (aI (bg (aR (vF hr.units (aa 7) (cF (av (aa 3) ao) (aa 8)))))) cO)
  (aI (bg (aR (DN (cF (rS (aa 7) (cF (av (aa 3) ao) (aa 8))) (av (aa 4) ao)) (cF (jm (av (aa 4) ao)) (aa 8)))))))))))),?_,?own⟩
 case own=>first | rfl | exact hown
 . show aJ ((?f:SD) (aH 9 _))=_;have e0:aH 9 [d0,.int (i:Int),.int (j:Int),bdD (ap U i j),fr e]=[some (ax T),some (.int (i:Int)),some (.int (j:Int)),some (bdD (ap U i j)),some (fr e),none,none,none,none]:=by
    show [some (sh d0),some (.int (i:Int)),some (.int (j:Int)),some (sh (bdD (ap U i j))),some (sh (fr e)),none,none,none,none]=_;rw [show sh d0=ax T from hT,zA,DI]
   rw [e0];have epo:=uN (dH T) fp cU;have hn:=fp.n1;have hi:=fp.hi;have hj:=fp.hj;have he:=fp.he;have hb:=fp.bk;have hs:=fp.sq;obtain ⟨q,hq⟩:∃ q,q=fpt U n (psF U i j e):=⟨_,rfl⟩;have ff:∀ p∈q,Fr 900 p:=by rw [hq];exact Bc (by omega) (cU.bk600 (by omega) hb) (fp.fi cU) (fp.beg cU)
   have lf:q.length=n - 1:=by rw [hq,xx]
   have lq:q.length+1=n:=by omega
   have li:se T q=true:=by
    have a:=xw (T:=T) (by decide) ff
    rw [lq] at a;rw [a];refine (cU.li _).mpr ?_;rw [hq];exact uE (by omega) (cU.bk600 (by omega) hb) cU.dia cU.clo (fp.fi cU) (fp.beg cU)
   have fl:=qS (dH T) (by rw [lq];exact hs) (by omega) (fun i j=>(hb i j).mono (by decide)) (xz q) ff
   rw [li] at fl;have kb:=cU.bk600 (by omega) hb
   have fb:GW (dl (bI q i) (bI q j)) (ap U i j) e=true:=by
    have pI:=(dr (by decide) ff i).pos
    have pJ:=(dr (by decide) ff j).pos
    refine yY (Int.mul_pos pI pJ) he.p1 he.p2 ?_;have nn:Nn (bs (ap U i j) (ap U j i)):=by
     have:=cU.clo j i i hj hi hi;rw [cU.dia i hi] at this;exact this
    have fk:=(Bj he.p1 he.p2 nn).2.2.2;have dd:=Di fp cU;rw [<- hq] at dd;rw [FS pI pJ,dd];exact fk
   have kb2:=kb i j;rw [<- hq] at epo;have a:=dr (by decide) ff i
   have c:=dr (by decide) ff j
   have le:fn c5 [fr (bI q i),fr (bI q j)]=some (.tup [.int (dl (bI q i) (bI q j)).1,.int (dl (bI q i) (bI q j)).2]):=e2 (op:=fun p q=>fr (dl p q)) (Fk.of a) (Fk.of c)
   have s1:Sm 1801 (dl (bI q i) (bI q j)).1:=(a.s1.mul c.s2).sub (c.s1.mul a.s2);have s2:Sm 1801 (dl (bI q i) (bI q j)).2:=(a.s2.mul c.s2).mono (by decide)
   generalize dl (bI q i) (bI q j)=p at *
   generalize ap U i j=b at *
   have own':own (.lst (q.map fr))=true:=by rw [own];exact iz _
   have st1:aX 5 (fY (fn hU) (af (ah 0) (af (ah 1) (af (ah 2) (af (ah 4) ak))))) [some (ax T),some (.int (i:Int)),some (.int (j:Int)),some (bdD b),some (fr e),none,none,none,none]=some (.nx [some (ax T),some (.int (i:Int)),some (.int (j:Int)),some (bdD b),some (fr e),some (.lst (q.map fr)),none,none,none]):=cT (cL (ds:=[ax T,.int (i:Int),.int (j:Int),fr e]) rfl epo own');have cat:iX (kl (af (jR (af (fC (.int 0)) (af (fC (.int 1)) ak))) ak)) (ah 5) [some (ax T),some (.int (i:Int)),some (.int (j:Int)),some (bdD b),some (fr e),some (.lst (q.map fr)),none,none,none]=some (.lst ((eW q).map fr),[some (ax T),some (.int (i:Int)),some (.int (j:Int)),some (bdD b),some (fr e),some (.lst (q.map fr)),none,none,none]):=rg (a:=.lst [fr (0,1)]) (b:=.lst (q.map fr)) (xs:=[fr (0,1)]) (ys:=q.map fr) rfl rfl rfl rfl (by rw [Zi];simp only [Zj,List.length_nil];omega) (uv (eW q))
   have st3:vo [7,8] (vI (au (fn c5) (af (f2 gIx (ah 6) (ah 1)) (af (f2 gIx (ah 6) (ah 2)) ak)))) [some (ax T),some (.int (i:Int)),some (.int (j:Int)),some (bdD b),some (fr e),some (.lst (q.map fr)),some (.lst ((eW q).map fr)),none,none]=some (.nx [some (ax T),some (.int (i:Int)),some (.int (j:Int)),some (bdD b),some (fr e),some (.lst (q.map fr)),some (.lst ((eW q).map fr)),some (.int p.1),some (.int p.2)]):=DE (ds:=[.int p.1,.int p.2]) (bJ (by simp only [ah,f2,ak,af,au,Zc,Zd,Ze,(jN (ps:=q) (i:=i) (by omega)).1,(jN (ps:=q) (i:=j) (by omega)).1,le])) rfl rfl
   have st4:sIf (bX (fT (au (fn hV) (af (ah 0) (af (ah 5) ak))))) (gE (vI (fC (.bl false)))) bF [some (ax T),some (.int (i:Int)),some (.int (j:Int)),some (bdD b),some (fr e),some (.lst (q.map fr)),some (.lst ((eW q).map fr)),some (.int p.1),some (.int p.2)]=some (.nx [some (ax T),some (.int (i:Int)),some (.int (j:Int)),some (bdD b),some (fr e),some (.lst (q.map fr)),some (.lst ((eW q).map fr)),some (.int p.1),some (.int p.2)]):=cf (by simp only [ah,fT,asB,bX,ak,af,au,Zc,Option.map_some,Zd,Ze,Bool.not_true,fl]) rfl
   have x0:gIx (fr e) (.int 0)=some (.int e.1):=rfl;have x1:gIx (fr e) (.int 1)=some (.int e.2):=rfl;have t1:=he.fr.s1;have t2:=he.fr.s2;rcases b with _ | ⟨m,s⟩
   . refine cD (aw st1 (aw (bA cat) (aw st3 (aw st4 (dS (dL rfl (jE (bJ (d:=.bl true) ?_))))))));have fb':decide (p.2*e.2 < p.1*e.1)=true:=fb;simp only [ah,fC,f2,gI0,Zc,Zd,Ze,pC,gGt,x0,x1,aC (C:=bZ) (i:=p.1) (j:=e.1) ⟨iE s1,iE t1⟩,aC (C:=bZ) (i:=p.2) (j:=e.2) ⟨iE s2,iE t2⟩,fb']
   . have y0:gIx (bdD (some (m,s))) (.int 0)=some (.int m):=rfl;have y1:gIx (bdD (some (m,s))) (.int 1)=some (.bl s):=rfl;have isn:bP (bdD (some (m,s))) .non=some (.bl false):=rfl;have n1:Sm 800 m:=(show Bk 600 (some (m,s)) from kb2).mono (by decide)
     have mn:bZ m p.2:=⟨iE n1,iE s2⟩;cases s with
     | false =>
      refine cD (aw st1 (aw (bA cat) (aw st3 (aw st4 (aw (cf (by simp only [ah,fC,f2,fT,asB,Zc,Zd,Ze,aU,bP,bi]) rfl) (dS (dL (by simp only [ah,fC,f2,fT,asB,bX,cH,Zc,Option.map_some,Zd,Ze,Bool.not_false,aU]) (jE (bJ (d:=.bl true) ?_)))))))))
      have fb':(p.1 == m*p.2)=true:=fb;simp only [ah,fC,f2,cg,Zc,Zd,Ze,aU,eJ,aC (C:=bZ) mn,fb']
     | true =>
      refine cD (aw st1 (aw (bA cat) (aw st3 (aw st4 (aw (cf (by simp only [ah,fC,f2,fT,asB,Zc,Zd,Ze,aU,bP,bi]) rfl) (aw (cf (by simp only [ah,fC,f2,fT,asB,bX,cH,Zc,Option.map_some,Zd,Ze,Bool.not_true,aU]) rfl) (jE (bJ (d:=.bl true) ?_))))))))
      have m1:bZ (p.1 - m*p.2) e.2:=⟨iE (k:=2602) ((s1.mono (by decide)).sub (n1.mul s2)),iE t2⟩
      have m2:bZ (-e.1) p.2:=⟨iE t1.neg,iE s2⟩;have fb':decide (-e.1*p.2 < (p.1 - m*p.2)*e.2)=true:=fb;simp only [ah,fC,f2,f1,lV,cg,gI0,Zc,Zd,Ze,aU,gGt,x0,x1,aC (C:=bZ) mn,aC (C:=bZ) m1,aC (C:=bZ) m2,fb']
theorem zE:aF ["_law_script","_law_head","_law_many","_law_order_here","_law_bounds","_law_table","_law_k","_law_total","_law_due_here","_law_last","_law_word","_law_told","_law_at"] ["_law_script"] (aq j0):=⟨rfl,rfl,rfl,by decide +kernel,rfl,by decide +kernel,by decide +kernel⟩
theorem BA {n:Nat} (f:Nat->Nat->Bn) (i j:Nat):ap (aD n f) i j=if i < n/\j < n then f i j else none:=by
 by_cases h:i < n/\j < n
 . rw [if_pos h,bq f h.1 h.2]
 . rw [if_neg h];unfold ap aD om
   by_cases hi:i < n
   . have hj:¬ j < n:=fun z=>h ⟨hi,z⟩
     rw [Zs,Zs,ZD,List.getElem?_range hi];show ((List.range n).map (f i))[j]?.getD none=none;rw [List.getElem?_eq_none (by rw [Zi,ZF];omega)]
     rfl
   . rw [Zs (l:=(List.range n).map _),List.getElem?_eq_none (by rw [Zi,ZF];omega)]
     rfl
theorem BU {n k:Nat} {o:List Nat} {bl:List Bn} (h:∀ b∈bl,Bk k b) (i j:Nat):Bk k (ap (aD n (gS o bl n)) i j):=by
 rw [BA];split
 . unfold gS;split
   . rw [Zs];cases e:bl[o.idxOf i]? with
     | none=>trivial
     | some b=>exact h b (List.mem_of_getElem? e)
   . trivial
 . trivial
theorem zL {n:Nat} {T:List (List Bn)} {r:List Nat} (h:cr n T=.tup [.str "ring",.lst (intsD r)]) (dg:∀ i,i < n->ap T i i=none):∃ t zs m,r=t :: zs/\r.Nodup/\2<=r.length/\(∀ x∈r,x < n)/\¬ Nn (wt (cz T) (r++[t]))/\m < n/\t < n/\¬ Nn (bs (dm (cz T) m t m) (dm (cz T) m m t)):=by
 unfold cr at h;cases h1:aS (pD T) [] (List.range n) with
 | some d =>
  obtain ⟨a,t,b,e,h2,_⟩:=br h1;have ht:t < n:=by have:=bH e;omega
  unfold pD at h2;rw [dg t ht] at h2;cases h2
 | none =>
  rw [h1] at h;dsimp only at h;have hd:∀ i,i < n->cz T i i=b0:=fun i _=>if_pos rfl
  cases h3:aS (mY n (cz T)) [] (List.range n) with
  | none =>
   rw [h3] at h;injection h with h
   injection h with h _
   injection h with h
   exact absurd h (by decide)
  | some d =>
   rw [h3] at h;obtain ⟨a,m,b,e,h2,h4⟩:=br h3;obtain ⟨rfl,hm⟩:=bH e;have st:St n (cz T) a.length:=vi hd _ (by omega) fun k hk=>by
    have hk2:(List.range n)[k]? = some k:=List.getElem?_range (by omega)
    rw [e,List.getElem?_append_left hk] at hk2;obtain ⟨a',b',ea⟩:=List.append_of_mem (List.mem_of_getElem? hk2);have:=h4 a' k b' ea;unfold mY at this;rcases lH (n:=n) (m:=k) (dm (cz T) k) (pw (cz T) k) with z | ⟨t,_,z,_⟩
    . exact z
    . rw [z] at this;cases this
   generalize a.length=m at *
   unfold mY at h2;rcases lH (n:=n) (m:=m) (dm (cz T) m) (pw (cz T) m) with z | ⟨t,ht,z,bad⟩
   . rw [z] at h2;cases h2
   . rw [z] at h2;cases h2;have wp:=st.wy t m ht hm;have wq:=st.wy m t hm ht;obtain ⟨nd,htm,sm⟩:=B7 st.fw hm ht wp wq bad;obtain ⟨xs,ep,hx⟩:=wp.hd;obtain ⟨ys,eq,hy⟩:=wq.hd;injection h with h
     injection h with _ h
     injection h with h
     injection h with h
     have er:=qI h;subst er;refine ⟨t,xs++pw (cz T) m m t,m,by rw [ep];rfl,nd,?_,fun x mx=>?_,by rw [sm];exact bad,hm,ht,bad⟩
     . rw [Zh,ep,eq,Zj,Zj];omega
     . rcases Zp.mp mx with z | z
       . exact wp.lt ht (by omega) x z
       . exact wq.lt hm (by omega) x z
theorem zd {n:Nat} {o:List Nat} {bl:List Bn} (k:Ord n o bl):(Nn (sB bl)/\∃ U,Cld n (aD n (gS o bl n)) U/\U=aD n (duB o bl n)) \/ (¬ Nn (sB bl)/\∃ x,x < n/\cr n (aD n (gS o bl n))=.tup [.str "ring",.lst (intsD (o.drop (o.idxOf x)++o.take (o.idxOf x)))]):=by
 have C:=k.chn;have n2:=k.n2;have ce:∀ i j,i < n->j < n->ap (aD n (gS o bl n)) i j=gS o bl n i j:=fun i j hi hj=>bq _ hi hj
 have hd:∀ i,i < n->cz (aD n (gS o bl n)) i i=b0:=fun i _=>if_pos rfl
 have hc:∀ i j,i < n->j < n->i ≠ j->cz (aD n (gS o bl n)) i j=gS o bl n i j:=fun i j hi hj ne=>by
  unfold cz;rw [if_neg ne,ce i j hi hj]
 have dg:∀ i,i < n->ap (aD n (gS o bl n)) i i=none:=fun i hi=>by rw [ce i i hi hi];exact C.no_self hi
 rcases wf (aD n (gS o bl n)) n with ⟨r,hr,_⟩ | ⟨U,cU⟩
 . right;obtain ⟨t,zs,m,er,nd,l2,lt,bad,hm,ht,bad2⟩:=zL hr dg;refine ⟨fun nn=>bad2 (C.ok (by rw [zB k.ll];exact nn) hd hc hm ht),t,ht,?_⟩
   rw [hr,C.ring hc er nd l2 lt bad]
 . left;have eU:∀ i j,i < n->j < n->ap U i j=dm (cz (aD n (gS o bl n))) n i j:=fun i j hi hj=>by rw [cU.is,bq _ hi hj]
   have hu:∀ i j,i < n->j < n->i ≠ j->Le (ap U i j) (gS o bl n i j):=fun i j hi hj ne=>by
    rw [eU i j hi hj,<- hc i j hi hj ne];exact Bu i j n
   have nn:=C.tot_nn cU.dia cU.clo hu;have nn':=nn;rw [zB k.ll] at nn';refine ⟨nn',U,cU,m5 cU.sq (bu _ _) fun i j hi hj=>?_⟩
   rw [bq _ hi hj];exact C.is cU.dia cU.clo hu (fun a b ha hb=>by rw [eU a b ha hb];exact C.du_dm nn hd hc n (ZG n) a b ha hb) hi hj
def qC (h:Int):Nat:=if h % 16=5 then (if h % 128=21 then 41 else (18+h / 16 % 8).toNat) else (3+h / 8 % 13).toNat
theorem CM (h:Int):3<=qC h/\qC h<=41:=by
 unfold qC;split
 . split
   . exact ⟨by decide,by decide⟩
   . omega
 . omega
def lyF (o:List Nat) (bl:List Bn) (n k i j:Nat):Bn:=if o.idxOf i < k then gS o bl n i j else none
theorem CO {n:Nat} {o:List Nat} {bl:List Bn} {k:Nat} (h:Ord n o bl) (hk:k < n):aD n (up2 (lyF o bl n k) (o.getD k 0) (o.getD ((k+1) % n) 0) (bl.getD k none))=aD n (lyF o bl n (k+1)):=be fun i j hi hj=>by
 have pi:=h.chn.pos hi;have pj:=h.chn.pos hj;have n2:=h.n2;have k1:(k+1) % n < n:=Nat.mod_lt _ (by omega)
 unfold up2 lyF
 by_cases a:i=o.getD k 0/\j=o.getD ((k+1) % n) 0
 . have e1:=h.chn.inj pi.1 hk (pi.2.trans a.1);have e2:=h.chn.inj pj.1 k1 (pj.2.trans a.2);rw [if_pos a,if_pos (by omega)]
   unfold gS;rw [e1,e2,if_pos rfl]
 . rw [if_neg a]
   by_cases b:o.idxOf i < k
   . rw [if_pos b,if_pos (by omega)]
   . rw [if_neg b]
     by_cases c:o.idxOf i=k
     . rw [if_pos (by omega)]
       unfold gS;rw [c,if_neg fun z=>a ⟨by rw [<- c,pi.2],by rw [<- z,pj.2]⟩]
     . rw [if_neg (by omega)]
theorem E3 {n:Nat} {o:List Nat} {bl:List Bn} (h:Ord n o bl):aD n (lyF o bl n n)=aD n (gS o bl n):=be fun i j hi hj=>by
 unfold lyF;rw [if_pos (h.chn.pos hi).1]
theorem CN {n:Nat} {o:List Nat} {bl:List Bn}:aD n (lyF o bl n 0)=aD n fun _ _=>none:=be fun i j hi hj=>by
 unfold lyF;rw [if_neg (by omega)]
theorem Fn {n:Nat} {o:List Nat} {bl:List Bn} (k:Nat):aD n (up2 (duB o bl n) k k b0)=aD n (duB o bl n):=be fun i j hi hj=>by
 unfold up2
 by_cases a:i=k/\j=k
 . rw [if_pos a,a.1,a.2];unfold duB;rw [g9]
 . rw [if_neg a]
theorem nG {r:List Nat} {k:Nat} (h:k < r.length):gIx (.lst (intsD r)) (.int (k:Int))=some (.int ((r.getD k 0:Nat):Int)):=vQ h
theorem AT {r:List Nat} (h:0 < r.length):gIx (.lst (intsD r)) (.int (-1))=some (.int ((r.getD (r.length - 1) 0:Nat):Int)):=by
 show L2.atI (intsD r) (-1)=_;refine Fb ?_;have el:(intsD r).length=r.length:=Zi _;rw [el];unfold intsD;rw [ZD,Zt (by omega),Zs,Zt (by omega)]
 rfl
theorem Fa {r:List Bn} {k:Nat} (h:k < r.length):gIx (.lst (az r)) (.int (k:Int))=some (bdD (r.getD k none)):=by
 show L2.atI (az r) (k:Int)=_;refine fR ?_;unfold az;rw [ZD,Zt h,Zs,Zt h];rfl
theorem Dp {r:List Nat} {s:Nat} (hs:s<=r.length):Dl.cutD (intsD r) (some (s:Int)) none=intsD (r.drop s):=by
 have el:(intsD r).length=r.length:=Zi _;unfold Dl.cutD;rw [lF (i:=s) _ (by rw [el];exact hs)]
 show ((intsD r).drop s).take ((intsD r).length - s)=_;rw [List.take_of_length_le (by rw [List.length_drop];exact ZG _)]
 unfold intsD;rw [<- List.map_drop]
theorem Dq {r:List Nat} {t:Nat} (ht:t<=r.length):Dl.cutD (intsD r) none (some (t:Int))=intsD (r.take t):=by
 have el:(intsD r).length=r.length:=Zi _;unfold Dl.cutD;rw [lF (i:=t) _ (by rw [el];exact ht)]
 show ((intsD r).drop 0).take (t - 0)=_;rw [List.drop_zero,Nat.sub_zero];unfold intsD;rw [<- List.map_take]
theorem uO:∀ (r:List Nat),Dl.intsD (intsD r)=some (r.map fun (k:Nat)=>(k:Int))
 | []=>rfl
 | k :: r=>by
  show ((Dl.intsD (intsD r)).bind fun ns=>some ((k:Int) :: ns))=_
  rw [uO r];rfl
theorem uG:∀ {o:List Nat} {x:Nat},x∈o->((o.map fun (k:Nat)=>(k:Int)).findIdx? fun i=>i == (x:Int))=some (o.idxOf x)
 | [],x,m=>by cases m
 | y :: o,x,m=>by
  rw [Zr,List.findIdx?_cons,List.idxOf_cons]
  by_cases e:y=x
  . subst e;simp
  . have e1:((y:Int) == (x:Int))=false:=by simp;omega
    have e2:(y == x)=false:=by simp [e]
    rw [e1,e2,uG ((Zq.mp m).resolve_left fun z=>e z.symm)]
    rfl
theorem xP (n:Nat) (r:List Nat):eqL (eqN (n+1)) (intsD r) (intsD r)=some true:=ls fun d m=>by
 obtain ⟨k,_,rfl⟩:=Zn.mp m;show some ((k:Int) == (k:Int))=_;simp
theorem B1 {i:Nat} {fk:FD} {fm:FM} {δ δ':DS} {d:D} {ds:List D} {k:Int} {j:Nat} (h0:fm δ=some (d,δ')) (h1:δ'[i]? = some (some (.lst ds))) (h2:fk δ'=some (.int k)) (h3:L2.ixN ds.length k=some j):yq i fk fm δ=some (.nx (δ'.set i (some (.lst (ds.set j d))))):=by
 unfold yq;rw [h0];dsimp only [Option.bind_some];rw [h1];dsimp only;rw [h2];dsimp only [Option.bind_some];rw [h3];rfl
theorem CJ {m:Int} {s:Bool}:Nn (some (m,s)) <-> 0 < m \/ (m=0/\s=false):=by
 unfold Nn;rw [mG];constructor
 . rintro (h | ⟨h,g⟩)
   . exact .inl h
   . refine .inr ⟨h.symm,?_⟩;cases s with
     | false=>rfl
     | true=>exact absurd (g rfl) (by decide)
 . rintro (h | ⟨h,g⟩)
   . exact .inl h
   . exact .inr ⟨h.symm,fun z=>by rw [g] at z;cases z⟩
def Dt:FT:=jx (fT (f2 lj (ah 7) (fC .non))) (eK (fT (f2 gLt (f2 gIx (ah 7) (fC (.int 0))) (fC (.int 0)))) (jx (fT (f2 jv (f2 gIx (ah 7) (fC (.int 0))) (fC (.int 0)))) (fT (f2 gIx (ah 7) (fC (.int 1))))))
theorem Bz {b:Bn} {a0 a1 a2 a3 a4 a5 a6 a8 a9 a10 a11 a12:Option D}:(Nn b->Dt [a0,a1,a2,a3,a4,a5,a6,some (bdD b),a8,a9,a10,a11,a12]=some false)/\(¬ Nn b->Dt [a0,a1,a2,a3,a4,a5,a6,some (bdD b),a8,a9,a10,a11,a12]=some true):=by
 rcases b with _ | ⟨m,s⟩
 . exact ⟨fun _=>rfl,fun z=>absurd (gq _) z⟩
 . have e:Dt [a0,a1,a2,a3,a4,a5,a6,some (bdD (some (m,s))),a8,a9,a10,a11,a12]=some (decide (m < 0) || ((m == 0) && s)):=by
    have x0:gIx (bdD (some (m,s))) (.int 0)=some (.int m):=rfl;have x1:gIx (bdD (some (m,s))) (.int 1)=some (.bl s):=rfl;have n9:lj (bdD (some (m,s))) .non=some (.bl true):=rfl;unfold Dt
    by_cases q:m < 0
    . simp only [ah,fC,f2,fT,asB,jx,eK,cg,cH,gI0,Zc,Zd,Ze,aU,gLt,decide_eq_true q];rfl
    . by_cases z:m=0
      . have z1:(m == 0)=true:=by simp [z]
        simp only [ah,fC,f2,fT,asB,jx,eK,cg,cH,gI0,Zc,Zd,Ze,aU,gLt,decide_eq_false q,eJ,z1];cases s <;> rfl
      . have z1:(m == 0)=false:=by simp [z]
        simp only [ah,fC,f2,fT,asB,jx,eK,cg,cH,gI0,Zc,Zd,Ze,aU,gLt,decide_eq_false q,eJ,z1];rfl
   rw [e,CJ];constructor
   . rintro (g | ⟨g,g2⟩)
     . rw [decide_eq_false (by omega)]
       have:(m == 0)=false:=by simp;omega
       rw [this];rfl
     . rw [g,g2];rfl
   . intro g
     by_cases q:m < 0
     . rw [decide_eq_true q];rfl
     . have m0:m=0:=by
        by_cases z:m=0
        . exact z
        . exact absurd (.inl (by omega)) g
       cases s with
       | false=>exact absurd (.inr ⟨m0,rfl⟩) g
       | true=>rw [m0];rfl
theorem or3 {a b c:FT} {δ:DS} (h:a δ=some false) (g:b δ=some false) (k:c δ=some false):eK a (eK b c) δ=some false:=by
 unfold eK;rw [h];dsimp only [Option.bind_some];rw [g];dsimp only [Option.bind_some];rw [k]
theorem wW (n:Nat):(rgI n).map D.int=intsD (List.range n):=by
 unfold rgI intsD;rw [List.map_map];rfl
theorem EU (F:Fun K "law" "law" j0 f fd)  (hLcell_at:Has P w K mg base 1 "_law_cell_at" ["_law_script","_law_k"] (fn ci)) (hLorder:HasF P w K mg base 2 "_law_order" ["_law_many","_law_seed"] (fn df)) (hclosed:HasF P w K mg base 6 "closed" ["table"] (fn gR)) (hLsum:HasF P w K mg base 1 "_law_sum" ["_law_bounds"] (fn cB)) (hLdue:HasF P w K mg base 2 "_law_due" ["_law_order_here","_law_bounds"] (fn kq)) (hLfar_right:HasF P w K mg base 9 "_law_far_right" ["_law_table","_law_one","_law_other","_law_bound_here","_law_e"] (fn fF)) (hLbound:Has P w K mg base 2 "_law_bound" ["_law_cell","_law_k"] (fn eQ)) (hLis_table:HasF P w K mg base 2 "_law_is_table" ["_law_found","_law_due_here"] (fn fW)) (hLlies:HasF P w K mg base 2 "_law_lies" ["_law_table","_law_point"] (fn hV)) (hLno_point:HasF P w K mg base 9 "_law_no_point" ["_law_table"] (fn fV)) (hpoint_of:HasF P w K mg base 8 "point_of" ["table"] (fn fE))  (m_range:mg "range" = none) (m_int:mg "int" = none) (m_sorted:mg "sorted" = none) (m_list:mg "list" = none):FnOk P w K mg base CX0 10 f fd ["_law_script"] (spLaw K):=by
 have sc:=zE;refine CY F zE (fun cdv A outer s H E ns hr hl=>?_)
 refine ⟨_,(aA (bn 1 sc.nd (aR (ay hLcell_at hr (ae (aa 0) (ae ao aj)))))
  (aA (bn 2 sc.nd (aR (dk ao (cV (bV (aa 1) ao) ao))))
  (aA (d4 (kP hr.units (cV (aa 1) ao) ao) (aI (bn 2 sc.nd (aR (av (j8 (ae (dk ao (cV (bV (aa 1) ao) ao)) (ae ao aj))) (yA ze Fx rfl m_int boot_int (ae (vF hr.units (cV (aa 1) ao) ao) aj)))))) cO)
  (aA (bn 3 sc.nd (ck hLorder hr (ae (aa 2) (ae (bV (aa 1) ao) aj))))
  (aA (nz 4 sc.nd (by exact (eX rfl m_range (ae (aa 2) aj))) (N:=["_law_k","_law_script"]) (js:=[0]) (cl:=[("_law_script",_)]) (fun _ _ _ _ _=>by exact (aR (ay hLbound hr (ae (dk (ay hLcell_at hr (ae (aa 1) (ae (dk ao (cV (aa 0) ao)) aj))) (bV (aa 0) ao)) (ae (aa 0) aj))))) (by exact CompOk.one))
  (aA (d4 (kP hr.units (cV (bV (aa 1) ao) ao) ao) (aI (EA 4 (aR bp) (jm ao))) cO)
  (aA (nz 5 sc.nd (by exact (eX rfl m_range (ae (aa 2) aj))) (N:=["_law_i","_law_many"]) (js:=[2]) (cl:=[("_law_many",_)]) (fun _ _ _ _ _=>by exact (kN (by exact (eX rfl m_range (ae (aa 1) aj))) (N:=["_law_j"]) (js:=[]) (cl:=[]) (fun _ _ _ _ _=>by exact (aR bp)) (by exact CompOk.nil))) (by exact CompOk.one))
  (aA (d5 6 sc.nd PassesOwn.never rfl (bo rfl m_range (ae (aa 2) aj))
   (aI (ny 5 (aR (av (aa 4) (aa 6))) (j7 (mC ix_list (pvi 5) (av (aa 3) (aa 6)) (fun _ _=>rfl)) (av (aa 3) (cV (dk (aa 6) ao) (aa 2))) gC))))
  (aA (DM [10,11] (ck hclosed hr (ae (aa 5) aj)) (Ag rfl (kR (pgN 10 sc.nd) (kR (pgN 11 sc.nd) xj))))
  (aA (bn 7 sc.nd (ck hLsum hr (ae (aa 4) aj)))
  (aA (d4 (PWD.pt (rL (kO (aa 7) bp) (ot (PWD.pt (gG (vy (av (aa 7) ao) ao) (gj (PWD.pt (rL (kP hr.units (av (aa 7) ao) ao) (ot (bU (av (aa 7) ao))))))))))) (aA (d4 (PWD.pt (gG (nu hr.units (aa 10) jh) (gG (nu hr.units (aW wg BB rfl m_sorted sV (ae (aa 11) aj)) (Ap rfl m_list rfl m_range (aa 2))) (gj (c9 (bU (ay hLno_point.has hr (ae (aa 5) aj)))))))) (aI (bg (aR gH))) cO)
   (aA (bn 12 sc.nd (aR (Aq (aa 3) (av (aa 11) ao))))
   (aI (bg (aR (vF hr.units (aa 11) (dk (kT (aa 3) (iu (aa 12)) kQ) (kT (aa 3) kQ (iu (aa 12)))))))))) cO)
  (aA (bn 8 sc.nd (ck hLdue hr (ae (aa 3) (ae (aa 4) aj))))
  (aA (d5 6 sc.nd PassesOwn.never rfl (bo rfl m_range (ae (aa 2) aj))
   (aI (ny 8 (aR (eY (ae ao (ae gH aj)))) (j7 (mC ix_list (pvi 8) (aa 6) (fun _ _=>rfl)) (aa 6) gC))))
  (aA (d4 (PWD.pt (gG (nu hr.units (aa 10) jh) (gG (c9 (bU (ay hLis_table.has hr (ae (aa 11) (ae (aa 8) aj))))) (gj (c9 (bU (ay hLlies.has hr (ae (aa 5) (ae (ay hpoint_of.has hr (ae (aa 5) aj)) aj))))))))) (aI (bg (aR gH))) cO)
  (aA (bn 9 sc.nd (aR (av (av (aa 8) (av (aa 3) ao)) (av (aa 3) (jm ao)))))
  (aI (bg (ck hLfar_right hr (ae (aa 5) (ae (av (aa 3) ao) (ae (av (aa 3) (jm ao)) (ae (aa 9) (ae (eY (ae ao (ae (dk ao (cV (ay hLcell_at hr (ae (aa 0) (ae ao aj))) ao)) aj))) aj))))))))))))))))))))))),?_⟩
 . show aJ ((?f:SD) (aH 13 _))=_;have e0:aH 13 [.seq (ns.map D.int)]=[some (.seq (ns.map D.int)),none,none,none,none,none,none,none,none,none,none,none,none]:=by
    show [some (sh (.seq (ns.map D.int))),none,none,none,none,none,none,none,none,none,none,none,none]=_;rw [sh,n8]
   rw [e0];have sS:sh (.seq (ns.map D.int))=.seq (ns.map D.int):=by rw [sh,n8]
   have ca:=fun (k:Int) (h:0<=k)=>pg (ns:=ns) (k:=k) h
   have c0:=ca 0 (by decide)
   have c1:=ca 1 (by decide)
   generalize hS:D.seq (ns.map D.int)=S at *
   generalize cell ns 0=h at *
   obtain ⟨n3,n41⟩:=CM h;have st1:aX 1 (vI (au (fn ci) (af (ah 0) (af (fC (.int 0)) ak)))) [some S,none,none,none,none,none,none,none,none,none,none,none,none]=some (.nx [some S,some (.int h),none,none,none,none,none,none,none,none,none,none,none]):=bA (bJ (d:=.int h) (by simp only [ah,fC,ak,af,au,Zc,Zd,c0]))
   have d8:ba h 8:=⟨by decide,hI⟩
   have d16:ba h 16:=⟨by decide,hI⟩
   have d136:ba h 136:=⟨by decide,hI⟩
   have d2048:ba h 2048:=⟨by decide,hI⟩
   have st2:aX 2 (vI (f2 jd (fC (.int 3)) (f2 (gI (fun _ j=>0 < j) fun i j=>.int (i % j)) (f2 (gI ba fun i j=>.int (i / j)) (ah 1) (fC (.int 8))) (fC (.int 13))))) [some S,some (.int h),none,none,none,none,none,none,none,none,none,none,none]=some (.nx [some S,some (.int h),some (.int (3+h / 8 % 13)),none,none,none,none,none,none,none,none,none,none]):=bA (bJ (d:=.int (3+h / 8 % 13)) (by simp only [ah,fC,f2,dw,Zc,Zd,Ze,aC (C:=ba) d8,aC (C:=fun _ j=>0 < j) (i:=h / 8) (j:=13) (by decide)]))
   have st3:sIf (fT (f2 jv (f2 (gI (fun _ j=>0 < j) fun i j=>.int (i % j)) (ah 1) (fC (.int 16))) (fC (.int 5)))) (aX 2 (vI (f2 gIx (kl (af (f2 jd (fC (.int 18)) (f2 (gI (fun _ j=>0 < j) fun i j=>.int (i % j)) (f2 (gI ba fun i j=>.int (i / j)) (ah 1) (fC (.int 16))) (fC (.int 8)))) (af (fC (.int 41)) ak))) (au yU (af (f2 jv (f2 (gI (fun _ j=>0 < j) fun i j=>.int (i % j)) (ah 1) (fC (.int 128))) (fC (.int 21))) ak))))) bF [some S,some (.int h),some (.int (3+h / 8 % 13)),none,none,none,none,none,none,none,none,none,none]=some (.nx [some S,some (.int h),some (.int (qC h:Int)),none,none,none,none,none,none,none,none,none,none]):=by
    unfold qC
    by_cases a:h % 16=5
    . have a1:(h % 16 == 5)=true:=by simp [a]
      rw [if_pos a];refine dL (by simp only [ah,fC,f2,fT,asB,Zc,Zd,Ze,eJ,aC (C:=fun _ j=>0 < j) (i:=h) (j:=16) (by decide),a1]) (bA ?_)
      by_cases b:h % 128=21
      . have b1:(h % 128 == 21)=true:=by simp [b]
        rw [if_pos b];refine bJ (d:=.int 41) ?_;have x:gIx (.lst [.int (18+h / 16 % 8),.int 41]) (.int 1)=some (.int 41):=rfl;simp only [ah,fC,f2,ak,af,kl,au,yU,dw,Zc,Zd,Ze,eJ,aC (C:=ba) d16,aC (C:=fun _ j=>0 < j) (i:=h / 16) (j:=8) (by decide),aC (C:=fun _ j=>0 < j) (i:=h) (j:=128) (by decide),b1,if_true,x]
      . have b1:(h % 128 == 21)=false:=by simp [b]
        rw [if_neg b];have e:(((18+h / 16 % 8).toNat:Nat):Int)=18+h / 16 % 8:=by omega
        rw [e];refine bJ (d:=.int (18+h / 16 % 8)) ?_;have x:gIx (.lst [.int (18+h / 16 % 8),.int 41]) (.int 0)=some (.int (18+h / 16 % 8)):=rfl;simp only [ah,fC,f2,ak,af,kl,au,yU,dw,Zc,Zd,Ze,eJ,aC (C:=ba) d16,aC (C:=fun _ j=>0 < j) (i:=h / 16) (j:=8) (by decide),aC (C:=fun _ j=>0 < j) (i:=h) (j:=128) (by decide),b1,Bool.false_eq_true,if_false,x]
    . have a1:(h % 16 == 5)=false:=by simp [a]
      rw [if_neg a];have e:(((3+h / 8 % 13).toNat:Nat):Int)=3+h / 8 % 13:=by omega
      rw [e];exact cf (by simp only [ah,fC,f2,fT,asB,Zc,Zd,Ze,eJ,aC (C:=fun _ j=>0 < j) (i:=h) (j:=16) (by decide),a1]) rfl
   generalize qC h=n at *
   obtain ⟨o,po,ho⟩:=rj (n:=n) (seed:=h / 136) n41;have ol:o.length=n:=by rw [po.length_eq,ZF]
   have st4:aX 3 (fY (fn df) (af (ah 2) (af (f2 (gI ba fun i j=>.int (i / j)) (ah 1) (fC (.int 136))) ak))) [some S,some (.int h),some (.int (n:Int)),none,none,none,none,none,none,none,none,none,none]=some (.nx [some S,some (.int h),some (.int (n:Int)),some (.lst (intsD o)),none,none,none,none,none,none,none,none,none]):=bA (cL (ds:=[.int (n:Int),.int (h / 136)]) (by simp only [ah,fC,f2,ak,af,Zc,Zd,Ze,aC (C:=ba) d136]) ho (eZ o))
   obtain ⟨bl0,hbl0⟩:∃ bl0:List Bn,bl0=(List.range n).map fun (k:Nat)=>bnd (cell ns (1+(k:Int) % 60)+(k:Int) / 60) (k:Int):=⟨_,rfl⟩
   have l0:bl0.length=n:=by rw [hbl0,Zi,ZF]
   have b0k:∀ b∈bl0,Bk 200 b:=by
    rw [hbl0];intro b m;obtain ⟨i,_,rfl⟩:=Zn.mp m;exact FC _ _
   have st5:aX 4 (dP (mL (af (ah 2) ak)) [0] (vI (au (fn eQ) (af (f2 jd (au (fn ci) (af (ah 1) (af (f2 jd (fC (.int 1)) (f2 (gI (fun _ j=>0 < j) fun i j=>.int (i % j)) (ah 0) (fC (.int 60)))) ak))) (f2 (gI ba fun i j=>.int (i / j)) (ah 0) (fC (.int 60)))) (af (ah 0) ak))))) [some S,some (.int h),some (.int (n:Int)),some (.lst (intsD o)),none,none,none,none,none,none,none,none,none]=some (.nx [some S,some (.int h),some (.int (n:Int)),some (.lst (intsD o)),some (.lst (az bl0)),none,none,none,none,none,none,none,none]):=by
    refine bA (d:=.lst (az bl0)) ?_;rw [hbl0];unfold az;rw [List.map_map];refine gw (f:=fun (i:Nat)=>D.int (i:Int)) (tu (ds:=[.int (n:Int)]) rfl (x6 (by omega))) (fun i hi=>?_) (by rw [ZF];omega)
    have es:shO (some (.int (i:Int)) :: bv [0] [some S,some (.int h),some (.int (n:Int)),some (.lst (intsD o)),none,none,none,none,none,none,none,none,none])=[some (.int (i:Int)),some S]:=by
     show [some (sh (.int (i:Int))),some (sh S)]=_;rw [sS];rfl
    rw [es];have hi':=Zo.mp hi;have d60:ba (i:Int) 60:=⟨by decide,hI⟩
    have cc:=ca (1+(i:Int) % 60) (by omega)
    have eb:=sJ (c:=cell ns (1+(i:Int) % 60)+(i:Int) / 60) (k:=(i:Int)) (by omega) (by omega)
    refine vG (bJ (d:=bdD (bnd (cell ns (1+(i:Int) % 60)+(i:Int) / 60) (i:Int))) ?_ (iR _)) (oE _);simp only [ah,fC,f2,ak,af,au,dw,Zc,Zd,Ze,aC (C:=fun _ j=>0 < j) (i:=(i:Int)) (j:=60) (by decide),cc,aC (C:=ba) d60,eb]
   obtain ⟨bl,ll,bk,st6⟩:∃ bl:List Bn,bl.length=n/\(∀ b∈bl,Bk 200 b)/\sIf (fT (f2 jv (f2 (gI (fun _ j=>0 < j) fun i j=>.int (i % j)) (f2 (gI ba fun i j=>.int (i / j)) (ah 1) (fC (.int 2048))) (fC (.int 2))) (fC (.int 1)))) (yq 4 (f1 lV (fC (.int 1))) (vI (fC .non))) bF [some S,some (.int h),some (.int (n:Int)),some (.lst (intsD o)),some (.lst (az bl0)),none,none,none,none,none,none,none,none]=some (.nx [some S,some (.int h),some (.int (n:Int)),some (.lst (intsD o)),some (.lst (az bl)),none,none,none,none,none,none,none,none]):=by
    by_cases a:h / 2048 % 2=1
    . have a1:(h / 2048 % 2 == 1)=true:=by simp [a]
      refine ⟨bl0.set (n - 1) none,by rw [List.length_set,l0],fun b m=>?_,dL (by simp only [ah,fC,f2,fT,asB,Zc,Zd,Ze,eJ,aC (C:=ba) d2048,aC (C:=fun _ j=>0 < j) (i:=h / 2048) (j:=2) (by decide),a1]) ?_⟩
      . rcases List.mem_or_eq_of_mem_set m with z | z
        . exact b0k b z
        . rw [z];trivial
      . have ei:L2.ixN (az bl0).length (-1)=some (n - 1):=by
         rw [d7,l0];unfold L2.ixN;have e:((-1:Int)+(n:Int)).toNat=n - 1:=by omega
         rw [if_neg (by decide),if_pos (by omega),e]
        have er:(az bl0).set (n - 1) .non=az (bl0.set (n - 1) none):=by unfold az;rw [List.map_set];rfl
        rw [<- er];exact B1 (d:=.non) (δ':=[some S,some (.int h),some (.int (n:Int)),some (.lst (intsD o)),some (.lst (az bl0)),none,none,none,none,none,none,none,none]) (bJ rfl) rfl (k:=-1) rfl ei
    . have a1:(h / 2048 % 2 == 1)=false:=by simp [a]
      exact ⟨bl0,l0,b0k,cf (by simp only [ah,fC,f2,fT,asB,Zc,Zd,Ze,eJ,aC (C:=ba) d2048,aC (C:=fun _ j=>0 < j) (i:=h / 2048) (j:=2) (by decide),a1]) rfl⟩
   have K:Ord n o bl:=⟨by omega,n41,ol,ll,fun x m=>Zo.mp (po.subset m),po.nodup_iff.mpr List.nodup_range⟩
   have n2:=K.n2;obtain ⟨T,hT⟩:∃ T,T=aD n (gS o bl n):=⟨_,rfl⟩;have sqT:Sq T n:=by rw [hT];exact bu _ _
   have bT:∀ i j,Bk 200 (ap T i j):=by rw [hT];exact BU bk
   have st7:aX 5 (dP (mL (af (ah 2) ak)) [2] (dP (mL (af (ah 1) ak)) [] (vI (fC .non)))) [some S,some (.int h),some (.int (n:Int)),some (.lst (intsD o)),some (.lst (az bl)),none,none,none,none,none,none,none,none]=some (.nx [some S,some (.int h),some (.int (n:Int)),some (.lst (intsD o)),some (.lst (az bl)),some (aE (aD n (lyF o bl n 0))),none,none,none,none,none,none,none]):=by
    rw [CN];exact bA (DU n41 (tu (ds:=[.int (n:Int)]) rfl (x6 (by omega))) rfl)
   obtain ⟨_,w8,o6,rfl⟩:=dz (i:=6) (s:=((i6 5 (f2 gIx (ah 3) (ah 6)) (f2 gIx (ah 3) (f2 (gI (fun _ j=>0 < j) fun i j=>.int (i % j)) (f2 jd (ah 6) (fC (.int 1))) (ah 2))) (vI (f2 gIx (ah 4) (ah 6)))))) (f:=fun (i:Nat)=>D.int (i:Int)) (fun pre δ=>∃ p6,δ=[some S,some (.int h),some (.int (n:Int)),some (.lst (intsD o)),some (.lst (az bl)),some (aE (aD n (lyF o bl n pre.length))),p6,none,none,none,none,none,none]) (List.range n) (by
    rintro pre x post _ hx ⟨p6,rfl⟩
    obtain ⟨rfl,hl⟩:=bH hx;have k1:(pre.length+1) % n < n:=Nat.mod_lt _ (by omega)
    have em:((pre.length:Int)+1) % (n:Int)=(((pre.length+1) % n:Nat):Int):=(Int.natCast_emod (pre.length+1) n).symm;refine ⟨_,?_,some (.int (pre.length:Int)),by rw [Zh,List.length_singleton]⟩
    rw [<- CO K hl,<- ij _ _ (K.chn.lt' hl) (K.chn.lt' k1)];refine ni (b:=bl.getD pre.length none) (p:=5) (bu n _) (K.chn.lt' hl) (K.chn.lt' k1) (δ':=[some S,some (.int h),some (.int (n:Int)),some (.lst (intsD o)),some (.lst (az bl)),some (aE (aD n (lyF o bl n pre.length))),some (.int (pre.length:Int)),none,none,none,none,none,none]) (bJ (Fa (by omega)) (iR _)) rfl (nG (by omega)) ?_
    have ixm:=nG (r:=o) (k:=(pre.length+1) % n) (by omega)
    show ((f2 (gI (fun _ j=>0 < j) fun i j=>.int (i % j)) (f2 jd (ah 6) (fC (.int 1))) (ah 2) [some S,some (.int h),some (.int (n:Int)),some (.lst (intsD o)),some (.lst (az bl)),some (aE (aD n (lyF o bl n pre.length))),some (.int (pre.length:Int)),none,none,none,none,none,none]).bind fun y=>gIx (.lst (intsD o)) y)=_
    have z:f2 (gI (fun _ j=>0 < j) fun i j=>.int (i % j)) (f2 jd (ah 6) (fC (.int 1))) (ah 2) [some S,some (.int h),some (.int (n:Int)),some (.lst (intsD o)),some (.lst (az bl)),some (aE (aD n (lyF o bl n pre.length))),some (.int (pre.length:Int)),none,none,none,none,none,none]=some (.int (((pre.length+1) % n:Nat):Int)):=by
     rw [<- em];simp only [ah,fC,f2,dw,Zc,Zd,Ze,aC (C:=fun _ j=>0 < j) (i:=(pre.length:Int)+1) (j:=(n:Int)) (by omega)]
    rw [z];exact ixm) (List.range n) [] [some S,some (.int h),some (.int (n:Int)),some (.lst (intsD o)),some (.lst (az bl)),some (aE (aD n (lyF o bl n 0))),none,none,none,none,none,none,none] rfl ⟨none,rfl⟩
   rw [ZF,E3 K,<- hT] at w8;have ecl:=lu (d9 T) sqT n41 (fun i j=>(bT i j).mono (by decide))
   have esm:=pe (d0:=.lst (az bl)) (rE bl) (by omega)
   have cases':=zd K;rw [<- hT] at cases';have un8:∀ (u wd:D),cr n T=.tup [wd,u]->own (.tup [wd,u])=true->vo [10,11] (fY (fn gR) (af (ah 5) ak)) [some S,some (.int h),some (.int (n:Int)),some (.lst (intsD o)),some (.lst (az bl)),some (aE T),o6,none,none,none,none,none,none]=some (.nx [some S,some (.int h),some (.int (n:Int)),some (.lst (intsD o)),some (.lst (az bl)),some (aE T),o6,none,none,none,some wd,some u,none]):=fun u wd hc hw=>by
    rw [hc] at ecl;exact DE (ds:=[wd,u]) (cL (ds:=[aE T]) rfl ecl hw) rfl rfl
   have sm8:∀ (u wd:D),aX 7 (fY (fn cB) (af (ah 4) ak)) [some S,some (.int h),some (.int (n:Int)),some (.lst (intsD o)),some (.lst (az bl)),some (aE T),o6,none,none,none,some wd,some u,none]=some (.nx [some S,some (.int h),some (.int (n:Int)),some (.lst (intsD o)),some (.lst (az bl)),some (aE T),o6,some (bdD (sB bl)),none,none,some wd,some u,none]):=fun u wd=>bA (cL (ds:=[.lst (az bl)]) rfl esm (oE _))
   have head:∀ {rest:SD} {u wd d:D},cr n T=.tup [wd,u]->own (.tup [wd,u])=true->rest [some S,some (.int h),some (.int (n:Int)),some (.lst (intsD o)),some (.lst (az bl)),some (aE T),o6,some (bdD (sB bl)),none,none,some wd,some u,none]=some (.rt d)->aJ ((bf ((aX 1 (vI (au (fn ci) (af (ah 0) (af (fC (.int 0)) ak)))))) (bf ((aX 2 (vI (f2 jd (fC (.int 3)) (f2 (gI (fun _ j=>0 < j) fun i j=>.int (i % j)) (f2 (gI ba fun i j=>.int (i / j)) (ah 1) (fC (.int 8))) (fC (.int 13))))))) (bf ((sIf (fT (f2 jv (f2 (gI (fun _ j=>0 < j) fun i j=>.int (i % j)) (ah 1) (fC (.int 16))) (fC (.int 5)))) (aX 2 (vI (f2 gIx (kl (af (f2 jd (fC (.int 18)) (f2 (gI (fun _ j=>0 < j) fun i j=>.int (i % j)) (f2 (gI ba fun i j=>.int (i / j)) (ah 1) (fC (.int 16))) (fC (.int 8)))) (af (fC (.int 41)) ak))) (au yU (af (f2 jv (f2 (gI (fun _ j=>0 < j) fun i j=>.int (i % j)) (ah 1) (fC (.int 128))) (fC (.int 21))) ak))))) bF)) (bf ((aX 3 (fY (fn df) (af (ah 2) (af (f2 (gI ba fun i j=>.int (i / j)) (ah 1) (fC (.int 136))) ak))))) (bf ((aX 4 (dP (mL (af (ah 2) ak)) [0] (vI (au (fn eQ) (af (f2 jd (au (fn ci) (af (ah 1) (af (f2 jd (fC (.int 1)) (f2 (gI (fun _ j=>0 < j) fun i j=>.int (i % j)) (ah 0) (fC (.int 60)))) ak))) (f2 (gI ba fun i j=>.int (i / j)) (ah 0) (fC (.int 60)))) (af (ah 0) ak))))))) (bf ((sIf (fT (f2 jv (f2 (gI (fun _ j=>0 < j) fun i j=>.int (i % j)) (f2 (gI ba fun i j=>.int (i / j)) (ah 1) (fC (.int 2048))) (fC (.int 2))) (fC (.int 1)))) (yq 4 (f1 lV (fC (.int 1))) (vI (fC .non))) bF)) (bf ((aX 5 (dP (mL (af (ah 2) ak)) [2] (dP (mL (af (ah 1) ak)) [] (vI (fC .non)))))) (bf ((i7 (ia (af (ah 2) ak)) 6 (i6 5 (f2 gIx (ah 3) (ah 6)) (f2 gIx (ah 3) (f2 (gI (fun _ j=>0 < j) fun i j=>.int (i % j)) (f2 jd (ah 6) (fC (.int 1))) (ah 2))) (vI (f2 gIx (ah 4) (ah 6)))))) (bf ((vo [10,11] (fY (fn gR) (af (ah 5) ak)))) (bf ((aX 7 (fY (fn cB) (af (ah 4) ak)))) rest)))))))))) [some S,none,none,none,none,none,none,none,none,none,none,none,none])=some d:=fun hc hw hr=>cD (aw st1 (aw st2 (aw st3 (aw st4 (aw st5 (aw st6 (aw st7 (aw (cw (dB (n:=n) rfl (by omega)) w8) (aw (un8 _ _ hc hw) (aw (sm8 _ _) hr))))))))))
   rcases cases' with ⟨nn,U,cU,eU⟩ | ⟨nn,x,hx,hr⟩
   . have hw:own (.tup [.str "table",aE U])=true:=by
      show (true && (own (aE U) && true))=true;rw [cm];rfl
     have ed:=vZ (d0:=.lst (intsD o)) (d1:=.lst (az bl)) (B4 o) (rE bl) K;rw [<- eU] at ed;have eit:=mW (d9 U) (d9 U) cU.sq n41;have hb5:∀ i j,Bk 550 (ap T i j):=fun i j=>(bT i j).mono (by decide)
     have epo:=vY (d9 T) sqT (by omega) n41 hb5 cU
     have ff:=Bc n41 (cU.bk600 n41 hb5) (cU.fi (by omega) n41 hb5) (pB (by omega) cU.dia)
     have lf:(fpt U n ps0).length=n - 1:=by rw [xx]
     have lq:(fpt U n ps0).length+1=n:=by omega
     have li:se T (fpt U n ps0)=true:=by
      have a:=xw (T:=T) (by decide) ff
      rw [lq] at a;rw [a];exact (cU.li _).mpr (uE n41 (cU.bk600 n41 hb5) cU.dia cU.clo (cU.fi (by omega) n41 hb5) (pB (by omega) cU.dia))
     have fl:=qS (d9 T) (by rw [lq];exact sqT) (by omega) (fun i j=>(hb5 i j).mono (by decide)) (xz (fpt U n ps0)) ff
     rw [li] at fl;have i0:=nG (r:=o) (k:=0) (by omega)
     have i1:=AT (r:=o) (by omega)
     have h0:o.getD 0 0 < n:=K.chn.lt' (by omega)
     have h1:o.getD (o.length - 1) 0 < n:=K.chn.lt' (by omega)
     have he:EOk ((1,1+cell ns 1 % 9):Int×Int):=⟨by show (0:Int) < 1;decide,⟨⟨by show 0 < 1+cell ns 1 % 9;omega,by unfold gc;simp⟩,Sm.mono (k:=1) (show (1:Int).natAbs < 2 ^ 1 by decide) (by decide),Sm.of (by show _ < 1+cell ns 1 % 9;omega) (by show 1+cell ns 1 % 9 < _;omega)⟩,by show 1*(1+cell ns 1 % 9)<=2 ^ 230;omega⟩
     have fp:Fp T n (o.getD 0 0) (o.getD (o.length - 1) 0) (1,1+cell ns 1 % 9):=⟨sqT,n41,h0,h1,hb5,he⟩;have efr:=lZ (d9 T) fp cU;obtain ⟨rw',x1,x2⟩:=ki cU.sq h0 h1;refine head cU.cl hw (aw (cf (Bz.1 nn) rfl) (aw (δ':=[some S,some (.int h),some (.int (n:Int)),some (.lst (intsD o)),some (.lst (az bl)),some (aE T),o6,some (bdD (sB bl)),some (aE U),none,some (.str "table"),some (aE U),none]) (cT (cL (ds:=[.lst (intsD o),.lst (az bl)]) rfl ed (cm U))) ?_));obtain ⟨_,w9,p6,rfl⟩:=lX (i:=6) (s:=((i6 8 (ah 6) (ah 6) (vI (jR (af (fC (.int 0)) (af (fC (.bl false)) ak))))))) (fun δ=>∃ p6,δ=[some S,some (.int h),some (.int (n:Int)),some (.lst (intsD o)),some (.lst (az bl)),some (aE T),p6,some (bdD (sB bl)),some (aE U),none,some (.str "table"),some (aE U),none]) ((List.range n).map fun (i:Nat)=>D.int (i:Int)) [some S,some (.int h),some (.int (n:Int)),some (.lst (intsD o)),some (.lst (az bl)),some (aE T),o6,some (bdD (sB bl)),some (aE U),none,some (.str "table"),some (aE U),none] ⟨_,rfl⟩ (by
      rintro d hd _ ⟨p6,rfl⟩
      obtain ⟨i,mi,rfl⟩:=Zn.mp hd;have hi:=Zo.mp mi;refine ⟨[some S,some (.int h),some (.int (n:Int)),some (.lst (intsD o)),some (.lst (az bl)),some (aE T),some (.int (i:Int)),some (bdD (sB bl)),some (aE U),none,some (.str "table"),some (aE U),none],?_,_,rfl⟩;have e2:pP U i i b0=U:=by
       rw [eU,ij _ _ hi hi,Fn]
      have:=ni (T:=U) (b:=b0) (p:=8) (i:=i) (j:=i) cU.sq hi hi (δ:=[some S,some (.int h),some (.int (n:Int)),some (.lst (intsD o)),some (.lst (az bl)),some (aE T),some (.int (i:Int)),some (bdD (sB bl)),some (aE U),none,some (.str "table"),some (aE U),none]) (fk:=ah 6) (fl:=ah 6) (fm:=vI (jR (af (fC (.int 0)) (af (fC (.bl false)) ak)))) (bJ (d:=bdD b0) rfl (iR b0)) rfl rfl rfl;rw [e2] at this;exact this)
     refine aw (cw (dB (n:=n) rfl (by omega)) w9) (aw (cf (or3 rfl ?_ ?_) rfl) (aw (δ':=[some S,some (.int h),some (.int (n:Int)),some (.lst (intsD o)),some (.lst (az bl)),some (aE T),p6,some (bdD (sB bl)),some (aE U),some (bdD (ap U (o.getD 0 0) (o.getD (o.length - 1) 0))),some (.str "table"),some (aE U),none]) (bA (bJ (d:=bdD (ap U (o.getD 0 0) (o.getD (o.length - 1) 0))) ?_ (iR _))) (bS (cL (ds:=[aE T,.int ((o.getD 0 0:Nat):Int),.int ((o.getD (o.length - 1) 0:Nat):Int),bdD (ap U (o.getD 0 0) (o.getD (o.length - 1) 0)),fr (1,1+cell ns 1 % 9)]) ?_ efr rfl))))
     . simp only [ah,fT,asB,bX,ak,af,au,Zc,Option.map_some,Zd,Ze,Bool.not_true,eit]
     . simp only [ah,fT,asB,bX,ak,af,au,Zc,Option.map_some,Zd,Ze,Bool.not_true,epo,fl]
     . have ng:f1 lV (fC (.int 1)) [some S,some (.int h),some (.int (n:Int)),some (.lst (intsD o)),some (.lst (az bl)),some (aE T),p6,some (bdD (sB bl)),some (aE U),none,some (.str "table"),some (aE U),none]=some (.int (-1)):=rfl;have i0':gIx (.lst (intsD o)) (.int 0)=some (.int ((o.getD 0 0:Nat):Int)):=i0;simp only [ah,fC,f2,f1,lV,Zc,Zd,Ze,i0',i1,x1,x2.1]
     . have i0':gIx (.lst (intsD o)) (.int 0)=some (.int ((o.getD 0 0:Nat):Int)):=i0;simp only [ah,fC,f2,f1,lV,ak,af,jR,au,dw,Zc,Zd,Ze,i0',i1,c1,aC (C:=fun _ j=>0 < j) (i:=cell ns 1) (j:=9) (by decide)]
   . obtain ⟨r,er⟩:∃ r,r=o.drop (o.idxOf x)++o.take (o.idxOf x):=⟨_,rfl⟩;rw [<- er] at hr;have px:=K.chn.pos hx;have mx:=K.chn.mem hx;have pr:r.Perm o:=by
      rw [er];exact (List.perm_append_comm).trans (by rw [List.take_append_drop])
     have lr:r.length=n:=by rw [pr.length_eq,ol]
     have hw:own (.tup [.str "ring",.lst (intsD r)])=true:=by
      show (true && (gn (intsD r) && true))=true;rw [eZ];rfl
     have r0:r.getD 0 0=x:=by
      rw [er,Zs,List.getElem?_append_left (by rw [List.length_drop];omega),List.getElem?_drop,Nat.add_zero,<- Zs]
      exact px.2
     have bt:sX [aE T]:=⟨aE T,T,n,r,d9 T,sqT,n41,fun i j=>(bT i j).mono (by decide),hr,rfl⟩
     have enp:=mV bt;have gs:sw [.lst (intsD r)]=some (.lst (intsD (List.range n))):=by
      show ((gK (intsD r)).bind fun ns=>if ns.length < 64/\ns.isPerm (rgI ns.length)=true then some (D.lst ((rgI ns.length).map D.int)) else none)=_
      rw [k9];dsimp only [Option.bind_some];have l1:(r.map fun (k:Nat)=>(k:Int)).length=n:=by rw [Zi,lr]
      rw [l1,if_pos ⟨by omega,List.isPerm_iff.mpr ((pr.trans po).map _)⟩,wW]
     have lR:vX (ah 2) [some S,some (.int h),some (.int (n:Int)),some (.lst (intsD o)),some (.lst (az bl)),some (aE T),o6,some (bdD (sB bl)),none,none,some (.str "ring"),some (.lst (intsD r)),none]=some (.lst (intsD (List.range n))):=by
      show vv (.int (n:Int))=_;show (if 0<=(n:Int)/\(n:Int)<=1000 then some (D.lst ((rgI (n:Int).toNat).map D.int)) else none)=_
      rw [if_pos (by omega),Int.toNat_natCast,wW]
     have ne:∀ q:List Nat,pV (.lst (intsD q)) (.lst (intsD q))=some (.bl false):=fun q=>by
      show (eqL (eqN 5) (intsD q) (intsD q)).map (fun c=>D.bl (!c))=_
      rw [xP 4 q];rfl
     have gi:A8 (.lst (intsD o)) (.int (x:Int))=some (.int (o.idxOf x:Int)):=by
      show ((Dl.intsD (intsD o)).bind fun ns=>(ns.findIdx? fun i=>i == (x:Int)).bind fun j=>some (D.int (j:Int)))=_
      rw [uO];dsimp only [Option.bind_some];rw [uG mx];rfl
     have it:gIx (.lst (intsD r)) (.int 0)=some (.int (x:Int)):=by
      have:=nG (r:=r) (k:=0) (by omega)
      rw [r0] at this;exact this
     refine head hr hw (dS (dL (Bz.2 nn) (aw (cf (or3 rfl ?_ ?_) rfl) (aw (δ':=[some S,some (.int h),some (.int (n:Int)),some (.lst (intsD o)),some (.lst (az bl)),some (aE T),o6,some (bdD (sB bl)),none,none,some (.str "ring"),some (.lst (intsD r)),some (.int (o.idxOf x:Int))]) (bA (bJ (d:=.int (o.idxOf x:Int)) ?_)) (jE (bJ (d:=.bl true) ?_))))))
     . unfold fT f2;rw [nN (f:=ah 11) (a:=.lst (intsD r)) rfl gs,lR];show ((pV (.lst (intsD (List.range n))) (.lst (intsD (List.range n)))).bind asB)=_;rw [ne];rfl
     . simp only [ah,fT,asB,bX,ak,af,au,Zc,Option.map_some,Zd,Ze,Bool.not_true,enp]
     . simp only [ah,fC,f2,Zc,Zd,Ze,it,gi]
     . show (((jd (.lst (Dl.cutD (intsD o) (some (o.idxOf x:Int)) none)) (.lst (Dl.cutD (intsD o) none (some (o.idxOf x:Int))))).bind fun y=>jv (.lst (intsD r)) y))=_
       rw [Dp (by omega),Dq (by omega)]
       show (((if (intsD (o.drop (o.idxOf x))).length+(intsD (o.take (o.idxOf x))).length<=1000 then some (D.lst (intsD (o.drop (o.idxOf x))++intsD (o.take (o.idxOf x)))) else none).bind fun y=>jv (.lst (intsD r)) y))=_
       have e3:intsD (o.drop (o.idxOf x))++intsD (o.take (o.idxOf x))=intsD r:=by rw [er];unfold intsD;rw [List.map_append]
       have e4:(intsD (o.drop (o.idxOf x))).length+(intsD (o.take (o.idxOf x))).length<=1000:=by
        unfold intsD;rw [Zi,Zi,List.length_drop,List.length_take];omega
       rw [if_pos e4,e3];show (eqL (eqN 5) (intsD r) (intsD r)).map D.bl=_;rw [xP 4 r];rfl
end
theorem FI {l:PySem.W.OpenLaw} {w:World} {K:Zu} {h:Heap} {mg:Str->Option Value} {fa:Addr} (X:K.In h) (G:h.Ns mainGlobals mg) (hfa:mg "law" = some (.ref fa)) {f0 f1 f3 f4 f5 f6 f7 f8 f9 f10 f11 f12 f13 f14 f15 f16 f17 f18 f19 f20 f21 f22 f23 f24 f25 f26 f27 f28 f29 f30 f31 f32 f33 f34 f35 f36 f37 f38 f39:Addr} {f2:Addr} {od2 an2:Option Addr} {sl2:Array (Option Value)} {oc2 kV2 dc2 pm2 cd2 ct2:Value} {f40:Addr} {od40 an40:Option Addr} {sl40:Array (Option Value)} {oc40 kV40 dc40 pm40 cd40 ct40:Value} {T2 nT2:Nat} {oT2:Value} {dT2:Option Addr} {sT2:Array (Option Value)} {tk2:Tok} {cW cP w1 w2 w3 w4 w5 w6:Addr}
 (a0:FK K "is_whole" iI f0) (a1:FK K "common_divisor" c6 f1) (a3:FK K "lowest" kH f3) (a4:FK K "plus" rG f4) (a5:FK K "minus" m7 f5) (a6:FK K "summed" kG f6) (a7:FK K "times" m6 f7) (a8:FK K "less" rH f8) (a9:FK K "keeps" nc f9) (a10:FK K "tighter" jI f10) (a11:FK K "bound_sum" g4 f11) (a12:FK K "copied" kK f12) (a13:FK K "closed" kL f13) (a14:FK K "with_noughts" dU f14) (a15:FK K "straight_ways" dD f15) (a16:FK K "ring_through" dX f16) (a17:FK K "lead_through" dY f17) (a18:FK K "point_of" gD f18) (a19:FK K "far_point" gZ f19) (a20:FK K "closed_or_refused" bR f20) (a21:FK K "far_value" gY f21) (a22:FK K "filled" kJ f22) (a23:FK K "value_beside" dW f23) (a24:FK K "between" jJ f24) (a25:FK K "greatest" iJ f25) (a26:FK K "least" m9 f26) (a27:FK K "_law_cell_at" dZ f27) (a28:FK K "_law_mixed" gf f28) (a29:FK K "_law_whole" gb f29) (a30:FK K "_law_less" g7 f30) (a31:FK K "_law_keeps" gg f31) (a32:FK K "_law_lies" g6 f32) (a33:FK K "_law_order" gd f33) (a34:FK K "_law_bound" gh f34) (a35:FK K "_law_sum" iK f35) (a36:FK K "_law_due" iL f36) (a37:FK K "_law_is_table" dF f37) (a38:FK K "_law_no_point" dE f38) (a39:FK K "_law_far_right" c7 f39)
 (a2:PySem.W.nsIn K mainGlobals "fraction" = some (some (.ref f2))) (l2:K.lookup f2=some ⟨oc2,od2,.func (PySem.W.fnOf "fraction" "fraction" (cQ dM) (bD dM) (aq dM) (.ref T2) kV2 dc2 pm2 an2 cd2 ct2),sl2⟩) (t2:K.lookup T2=some ⟨oT2,dT2,.seq #[.int 1 tk2] nT2,sT2⟩) (c2:PySem.W.codeIn K cd2 "fraction" = true) (k2:PySem.W.keepIn K (.ref f2)=true)
 (a40:PySem.W.nsIn K mainGlobals "law" = some (some (.ref f40))) (l40:K.lookup f40=some ⟨oc40,od40,.func (PySem.W.fnOf "law" "law" (cQ j0) (bD j0) (aq j0) .none kV40 dc40 pm40 an40 cd40 ct40),sl40⟩) (c40:PySem.W.codeIn K cd40 "law" = true) (k40:PySem.W.keepIn K (.ref f40)=true)
 (n_WatchError:PySem.W.nsIn K mainGlobals "WatchError" = some (some (.ref cW))) (n_NoPoint:PySem.W.nsIn K mainGlobals "NoPoint" = some (some (.ref cP))) (n_NoAct:PySem.W.nsIn K mainGlobals "NoAct" = some (some (.ref w1))) (n_NoAsk:PySem.W.nsIn K mainGlobals "NoAsk" = some (some (.ref w2))) (n_NoFraction:PySem.W.nsIn K mainGlobals "NoFraction" = some (some (.ref w3))) (n_NoMove:PySem.W.nsIn K mainGlobals "NoMove" = some (some (.ref w4))) (n_NoNet:PySem.W.nsIn K mainGlobals "NoNet" = some (some (.ref w5))) (n_NoWait:PySem.W.nsIn K mainGlobals "NoWait" = some (some (.ref w6))) (q1:PySem.W.isClsIn K cP=true) (q2:PySem.W.findIn K (.ref cP) "__getattribute__" = some (some (.builtin "BaseException.__getattribute__"))) (q3:PySem.W.findIn K (.ref cP) "__getattr__" = some none) (q4:PySem.W.findIn K (.ref cP) "__class__" = some (some (.builtin "object.__class__"))) (q5:PySem.W.specialIn K (.builtin "object.__class__") "__get__" = some (some (.builtin "getset_descriptor.__get__"))) (q6:PySem.W.takesIn K (.builtin "object.__class__")=some true) (q7:PySem.W.mroIn K cP (.type "object")=some true) (q8:PySem.W.subIn K (.ref cP) (.type "BaseException")=some true) (q9:PySem.W.excIn K cP [.type "ValueError",.type "Exception",.type "BaseException",.type "object"] "ValueError.__new__" = true) (qa:PySem.W.isClsIn K cW=true) (qb:PySem.W.typeIn K (.ref cW)=some (.type "type")) (qc:PySem.W.subIn K (.ref cW) (.type "BaseException")=some true) (qd:PySem.W.subIn K (.ref cP) (.ref cW)=some true) (qe:PySem.W.kitOne K (.ref cP) (.ref cP)=some true) (qf:PySem.W.kitOne K (.ref cP) (.type "ValueError")=some true) (qg:PySem.W.kitAny K (.ref cP) [.ref w1,.ref w2,.ref w3,.ref w4,.ref w5,.ref w6]=some false)
 (z_isinstance:PySem.W.nsIn K mainGlobals "isinstance" = some none) (z_int:PySem.W.nsIn K mainGlobals "int" = some none) (z_bool:PySem.W.nsIn K mainGlobals "bool" = some none) (z_list:PySem.W.nsIn K mainGlobals "list" = some none) (z_range:PySem.W.nsIn K mainGlobals "range" = some none) (z_len:PySem.W.nsIn K mainGlobals "len" = some none) (z_dict:PySem.W.nsIn K mainGlobals "dict" = some none) (z_sum:PySem.W.nsIn K mainGlobals "sum" = some none) (z_any:PySem.W.nsIn K mainGlobals "any" = some none) (z_all:PySem.W.nsIn K mainGlobals "all" = some none) (z_sorted:PySem.W.nsIn K mainGlobals "sorted" = some none) :
 ∃ fd:FuncData,(∀ (s:Shared) (v:Value),BindsTo s fd ⟨[v],[]⟩ [("_law_script",v)])/\∀ base:Heap,K.In base->base.Ns mainGlobals mg->FnOk l.prog w K mg base CX0 10 fa fd ["_law_script"] (spLaw K):=by
 have e:=hfa.symm.trans (PySem.W.mg_of X G a40);cases e;have m_isinstance:=PySem.W.mg_none_of X G z_isinstance;have m_int:=PySem.W.mg_none_of X G z_int;have m_bool:=PySem.W.mg_none_of X G z_bool;have m_list:=PySem.W.mg_none_of X G z_list;have m_range:=PySem.W.mg_none_of X G z_range;have m_len:=PySem.W.mg_none_of X G z_len;have m_dict:=PySem.W.mg_none_of X G z_dict;have m_sum:=PySem.W.mg_none_of X G z_sum;have m_any:=PySem.W.mg_none_of X G z_any;have m_all:=PySem.W.mg_none_of X G z_all;have m_sorted:=PySem.W.mg_none_of X G z_sorted;have m_WatchError:=PySem.W.mg_of X G n_WatchError;have m_NoPoint:=PySem.W.mg_of X G n_NoPoint;have m_NoAct:=PySem.W.mg_of X G n_NoAct;have m_NoAsk:=PySem.W.mg_of X G n_NoAsk;have m_NoFraction:=PySem.W.mg_of X G n_NoFraction;have m_NoMove:=PySem.W.mg_of X G n_NoMove;have m_NoNet:=PySem.W.mg_of X G n_NoNet;have m_NoWait:=PySem.W.mg_of X G n_NoWait;have hCK:G7 K cW cP w1 w2 w3 w4 w5 w6:=⟨⟨q1,q2,q3,q4,q5,q6,q7,q8⟩,q9,qa,qb,qc,qd,qe,qf,qg⟩;obtain ⟨_,F0,b0⟩:=a0.get (ps:=["thing"]) fun _ _ _ _ _ _ us hl=>match us,hl with | [_],_=>rfl
 obtain ⟨_,F1,b1⟩:=a1.get (ps:=["number","above_nought"]) fun _ _ _ _ _ _ us hl=>match us,hl with | [_,_],_=>rfl
 have F2:=Dc (st:=dM) l2 c2 k2;have b2:=F2.binds (ps:=["top","bottom"]) (ds:=[]) t2 rfl fun _ _ _ _ _ _ us hl=>match us,hl with | [_,_],_=>⟨_,rfl,rfl⟩
 have e2:=F2.binds (ps:=["top","bottom"]) (ds:=[.int 1 tk2]) t2 rfl fun _ _ _ _ _ _ us hl=>by
  have h1:us.length=1:=by simpa using hl
  match us,h1 with
  | [_],_=>exact ⟨_,rfl,rfl⟩
 obtain ⟨_,F3,b3⟩:=a3.get (ps:=["top","bottom"]) fun _ _ _ _ _ _ us hl=>match us,hl with | [_,_],_=>rfl
 obtain ⟨_,F4,b4⟩:=a4.get (ps:=["one","other"]) fun _ _ _ _ _ _ us hl=>match us,hl with | [_,_],_=>rfl
 obtain ⟨_,F5,b5⟩:=a5.get (ps:=["one","other"]) fun _ _ _ _ _ _ us hl=>match us,hl with | [_,_],_=>rfl
 obtain ⟨_,F6,b6⟩:=a6.get (ps:=["one","top","bottom"]) fun _ _ _ _ _ _ us hl=>match us,hl with | [_,_,_],_=>rfl
 obtain ⟨_,F7,b7⟩:=a7.get (ps:=["one","other"]) fun _ _ _ _ _ _ us hl=>match us,hl with | [_,_],_=>rfl
 obtain ⟨_,F8,b8⟩:=a8.get (ps:=["one","other"]) fun _ _ _ _ _ _ us hl=>match us,hl with | [_,_],_=>rfl
 obtain ⟨_,F9,b9⟩:=a9.get (ps:=["part","bound"]) fun _ _ _ _ _ _ us hl=>match us,hl with | [_,_],_=>rfl
 obtain ⟨_,F10,b10⟩:=a10.get (ps:=["one","other"]) fun _ _ _ _ _ _ us hl=>match us,hl with | [_,_],_=>rfl
 obtain ⟨_,F11,b11⟩:=a11.get (ps:=["one","other"]) fun _ _ _ _ _ _ us hl=>match us,hl with | [_,_],_=>rfl
 obtain ⟨_,F12,b12⟩:=a12.get (ps:=["table"]) fun _ _ _ _ _ _ us hl=>match us,hl with | [_],_=>rfl
 obtain ⟨_,F13,b13⟩:=a13.get (ps:=["table"]) fun _ _ _ _ _ _ us hl=>match us,hl with | [_],_=>rfl
 obtain ⟨_,F14,b14⟩:=a14.get (ps:=["table"]) fun _ _ _ _ _ _ us hl=>match us,hl with | [_],_=>rfl
 obtain ⟨_,F15,b15⟩:=a15.get (ps:=["size"]) fun _ _ _ _ _ _ us hl=>match us,hl with | [_],_=>rfl
 obtain ⟨_,F16,b16⟩:=a16.get (ps:=["bounds","ways","middle"]) fun _ _ _ _ _ _ us hl=>match us,hl with | [_,_,_],_=>rfl
 obtain ⟨_,F17,b17⟩:=a17.get (ps:=["bounds","ways","middle"]) fun _ _ _ _ _ _ us hl=>match us,hl with | [_,_,_],_=>rfl
 obtain ⟨_,F18,b18⟩:=a18.get (ps:=["table"]) fun _ _ _ _ _ _ us hl=>match us,hl with | [_],_=>rfl
 obtain ⟨_,F19,b19⟩:=a19.get (ps:=["table","i","j","e"]) fun _ _ _ _ _ _ us hl=>match us,hl with | [_,_,_,_],_=>rfl
 obtain ⟨_,F20,b20⟩:=a20.get (ps:=["table"]) fun _ _ _ _ _ _ us hl=>match us,hl with | [_],_=>rfl
 obtain ⟨_,F21,b21⟩:=a21.get (ps:=["bound","back","e"]) fun _ _ _ _ _ _ us hl=>match us,hl with | [_,_,_],_=>rfl
 obtain ⟨_,F22,b22⟩:=a22.get (ps:=["bounds","values"]) fun _ _ _ _ _ _ us hl=>match us,hl with | [_,_],_=>rfl
 obtain ⟨_,F23,b23⟩:=a23.get (ps:=["bounds","placed","thing"]) fun _ _ _ _ _ _ us hl=>match us,hl with | [_,_,_],_=>rfl
 obtain ⟨_,F24,b24⟩:=a24.get (ps:=["low","high"]) fun _ _ _ _ _ _ us hl=>match us,hl with | [_,_],_=>rfl
 obtain ⟨_,F25,b25⟩:=a25.get (ps:=["parts"]) fun _ _ _ _ _ _ us hl=>match us,hl with | [_],_=>rfl
 obtain ⟨_,F26,b26⟩:=a26.get (ps:=["parts"]) fun _ _ _ _ _ _ us hl=>match us,hl with | [_],_=>rfl
 obtain ⟨_,F27,b27⟩:=a27.get (ps:=["_law_script","_law_k"]) fun _ _ _ _ _ _ us hl=>match us,hl with | [_,_],_=>rfl
 obtain ⟨_,F28,b28⟩:=a28.get (ps:=["_law_cell","_law_k"]) fun _ _ _ _ _ _ us hl=>match us,hl with | [_,_],_=>rfl
 obtain ⟨_,F29,b29⟩:=a29.get (ps:=["_law_found"]) fun _ _ _ _ _ _ us hl=>match us,hl with | [_],_=>rfl
 obtain ⟨_,F30,b30⟩:=a30.get (ps:=["_law_one","_law_other"]) fun _ _ _ _ _ _ us hl=>match us,hl with | [_,_],_=>rfl
 obtain ⟨_,F31,b31⟩:=a31.get (ps:=["_law_part","_law_bound_here"]) fun _ _ _ _ _ _ us hl=>match us,hl with | [_,_],_=>rfl
 obtain ⟨_,F32,b32⟩:=a32.get (ps:=["_law_table","_law_point"]) fun _ _ _ _ _ _ us hl=>match us,hl with | [_,_],_=>rfl
 obtain ⟨_,F33,b33⟩:=a33.get (ps:=["_law_many","_law_seed"]) fun _ _ _ _ _ _ us hl=>match us,hl with | [_,_],_=>rfl
 obtain ⟨_,F34,b34⟩:=a34.get (ps:=["_law_cell","_law_k"]) fun _ _ _ _ _ _ us hl=>match us,hl with | [_,_],_=>rfl
 obtain ⟨_,F35,b35⟩:=a35.get (ps:=["_law_bounds"]) fun _ _ _ _ _ _ us hl=>match us,hl with | [_],_=>rfl
 obtain ⟨_,F36,b36⟩:=a36.get (ps:=["_law_order_here","_law_bounds"]) fun _ _ _ _ _ _ us hl=>match us,hl with | [_,_],_=>rfl
 obtain ⟨_,F37,b37⟩:=a37.get (ps:=["_law_found","_law_due_here"]) fun _ _ _ _ _ _ us hl=>match us,hl with | [_,_],_=>rfl
 obtain ⟨_,F38,b38⟩:=a38.get (ps:=["_law_table"]) fun _ _ _ _ _ _ us hl=>match us,hl with | [_],_=>rfl
 obtain ⟨_,F39,b39⟩:=a39.get (ps:=["_law_table","_law_one","_law_other","_law_bound_here","_law_e"]) fun _ _ _ _ _ _ us hl=>match us,hl with | [_,_,_,_,_],_=>rfl
 have F40:=Ba (st:=j0) l40 c40 k40;refine ⟨PySem.W.fnOf "law" "law" (cQ j0) (bD j0) (aq j0) .none kV40 dc40 pm40 an40 cd40 ct40,fun s v=>.of_eq rfl,fun base _ _=>?_⟩
 have his_whole:=mkP l.prog w base X G a0 (tW F0   m_isinstance m_int m_bool) b0;have hcommon_divisor:=mkP l.prog w base X G a1 (kX F1   ) b1;have hless:=mkP l.prog w base X G a8 (CG F8   ) b8;have htighter:=mkP l.prog w base X G a10 (vH F10   ) b10;have hbound_sum:=mkP l.prog w base X G a11 (rY F11   ) b11;have hcopied:=mkF l.prog w base X G a12 (yF F12   m_list) b12;have hstraight_ways:=mkF l.prog w base X G a15 (lL F15   m_range) b15;have hLcell_at:=mkP l.prog w base X G a27 (mR F27   m_len) b27;have hLmixed:=mkF l.prog w base X G a28 (pS F28   ) b28;have hLwhole:=mkP l.prog w base X G a29 (pQ F29   m_isinstance m_int m_bool) b29;have hLless:=mkP l.prog w base X G a30 (r6 F30   ) b30;have hLkeeps:=mkP l.prog w base X G a31 (pT F31   ) b31;have hLsum:=mkF l.prog w base X G a35 (t4 F35   m_sum m_any) b35;have hlowest:=mkP l.prog w base X G a3 (yD F3 hcommon_divisor  ) b3;have hsummed:=mkP l.prog w base X G a6 (yC F6 hcommon_divisor  ) b6;have htimes:=mkP l.prog w base X G a7 (Az F7 hcommon_divisor  ) b7;have hwith_noughts:=mkF l.prog w base X G a14 (mM F14 hcopied  m_range m_len) b14;have hlead_through:=mkM l.prog w base X G a17 (mQ F17 hbound_sum htighter  m_range m_len) b17;have hgreatest:=mkP l.prog w base X G a25 (tZ F25 hless  ) b25;have hleast:=mkP l.prog w base X G a26 (AB F26 hless  ) b26;have hLlies:=mkF l.prog w base X G a32 (rZ F32 hLkeeps hLless  m_range m_len) b32;have hLorder:=mkF l.prog w base X G a33 (pR F33 hLmixed  m_list m_range m_len) b33;have hLbound:=mkP l.prog w base X G a34 (pU F34 hLmixed.has  ) b34;have hLdue:=mkF l.prog w base X G a36 (t5 F36 hLsum  m_len m_range) b36;have hLis_table:=mkF l.prog w base X G a37 (lO F37 hLwhole  m_isinstance m_list m_all m_bool) b37;have hfraction:Has l.prog w K mg base 3 "fraction" ["top","bottom"] (fn aN):=⟨⟨_,_,mE F2 hlowest his_whole  ,PySem.W.mg_of X G a2,k2,b2⟩⟩;have hfractionD:pK l.prog w K mg base 3 "fraction" ["top","bottom"] [1] (fn aN):=⟨⟨_,_,_,mE F2 hlowest his_whole  ,PySem.W.mg_of X G a2,k2,.cons ⟨_,rfl⟩ .nil,e2⟩⟩;have hplus:=mkP l.prog w base X G a4 (CF F4 hsummed  ) b4;have hminus:=mkP l.prog w base X G a5 (AA F5 hsummed  ) b5;have hkeeps:=mkP l.prog w base X G a9 (AC F9 hfractionD hless  ) b9;have hbetween:=mkP l.prog w base X G a24 (vJ F24 htimes hfraction hfractionD hminus hplus  ) b24;have hring_through:=mkF l.prog w base X G a16 (mP F16 hbound_sum hkeeps hfractionD  m_range m_len) b16;have hfar_value:=mkP l.prog w base X G a21 (rW F21 hfraction hfractionD hbetween hgreatest hminus  ) b21;have hvalue_beside:=mkF l.prog w base X G a23 (mO F23 hbetween hminus hplus hgreatest hleast hfractionD  ) b23;have hclosed:=mkF l.prog w base X G a13 (yG F13 hwith_noughts hstraight_ways hring_through hlead_through hkeeps hfractionD  m_range m_len) b13;have hfilled:=mkF l.prog w base X G a22 (yE F22 hminus hvalue_beside  m_dict m_range m_len) b22;have hclosed_or_refused:=mkF l.prog w base X G a20 (jp F20 hclosed  ) b20;have hclosed_or_refusedX:u8 l.prog w K mg base 7 "closed_or_refused" ["table"] (cq cP):=⟨⟨_,_,jc F20 hclosed   m_NoPoint q9,PySem.W.mg_of X G a20.ns,a20.kp,b20⟩⟩;have hpoint_of:=mkF l.prog w base X G a18 (tV F18 hfilled hclosed_or_refused hfractionD  ) b18;have hpoint_ofX:u8 l.prog w K mg base 8 "point_of" ["table"] (fL cP):=⟨⟨_,_,rV F18 hfilled hclosed_or_refused hfractionD   hclosed_or_refusedX,PySem.W.mg_of X G a18.ns,a18.kp,b18⟩⟩;have hfar_point:=mkF l.prog w base X G a19 (rX F19 hclosed_or_refused hfar_value hfilled hfractionD  ) b19;have hLno_point:=mkF l.prog w base X G a38 (lN F38 hpoint_of hCK hpoint_ofX m_WatchError m_NoPoint m_NoAct m_NoAsk m_NoFraction m_NoMove m_NoNet m_NoWait m_isinstance) b38;have hLfar_right:=mkF l.prog w base X G a39 (kY F39 hfar_point hLless hLlies  ) b39;exact EU F40 hLcell_at hLorder hclosed hLsum hLdue hLfar_right hLbound hLis_table hLlies hLno_point hpoint_of  m_range m_int m_sorted m_list
theorem facts {l:PySem.W.OpenLaw} {w:World} {K:Zu} {h:Heap} {mg:Str->Option Value} {fa:Addr} (e:FF K=FE) (X:K.In h) (G:h.Ns mainGlobals mg) (hfa:mg "law" = some (.ref fa)) :
 ∃ fd:FuncData,(∀ (s:Shared) (v:Value),BindsTo s fd ⟨[v],[]⟩ [("_law_script",v)])/\∀ base:Heap,K.In base->base.Ns mainGlobals mg->FnOk l.prog w K mg base CX0 10 fa fd ["_law_script"] (spLaw K):=by
 obtain ⟨e0,e⟩:=Prod.mk.inj e;obtain ⟨e1,e⟩:=Prod.mk.inj e;obtain ⟨e2,e⟩:=Prod.mk.inj e;obtain ⟨t2,e⟩:=Prod.mk.inj e;obtain ⟨e3,e⟩:=Prod.mk.inj e;obtain ⟨e4,e⟩:=Prod.mk.inj e;obtain ⟨e5,e⟩:=Prod.mk.inj e;obtain ⟨e6,e⟩:=Prod.mk.inj e;obtain ⟨e7,e⟩:=Prod.mk.inj e;obtain ⟨e8,e⟩:=Prod.mk.inj e;obtain ⟨e9,e⟩:=Prod.mk.inj e;obtain ⟨e10,e⟩:=Prod.mk.inj e;obtain ⟨e11,e⟩:=Prod.mk.inj e;obtain ⟨e12,e⟩:=Prod.mk.inj e;obtain ⟨e13,e⟩:=Prod.mk.inj e;obtain ⟨e14,e⟩:=Prod.mk.inj e;obtain ⟨e15,e⟩:=Prod.mk.inj e;obtain ⟨e16,e⟩:=Prod.mk.inj e;obtain ⟨e17,e⟩:=Prod.mk.inj e;obtain ⟨e18,e⟩:=Prod.mk.inj e;obtain ⟨e19,e⟩:=Prod.mk.inj e;obtain ⟨e20,e⟩:=Prod.mk.inj e;obtain ⟨e21,e⟩:=Prod.mk.inj e;obtain ⟨e22,e⟩:=Prod.mk.inj e;obtain ⟨e23,e⟩:=Prod.mk.inj e;obtain ⟨e24,e⟩:=Prod.mk.inj e;obtain ⟨e25,e⟩:=Prod.mk.inj e;obtain ⟨e26,e⟩:=Prod.mk.inj e;obtain ⟨e27,e⟩:=Prod.mk.inj e;obtain ⟨e28,e⟩:=Prod.mk.inj e;obtain ⟨e29,e⟩:=Prod.mk.inj e;obtain ⟨e30,e⟩:=Prod.mk.inj e;obtain ⟨e31,e⟩:=Prod.mk.inj e;obtain ⟨e32,e⟩:=Prod.mk.inj e;obtain ⟨e33,e⟩:=Prod.mk.inj e;obtain ⟨e34,e⟩:=Prod.mk.inj e;obtain ⟨e35,e⟩:=Prod.mk.inj e;obtain ⟨e36,e⟩:=Prod.mk.inj e;obtain ⟨e37,e⟩:=Prod.mk.inj e;obtain ⟨e38,e⟩:=Prod.mk.inj e;obtain ⟨e39,e⟩:=Prod.mk.inj e;obtain ⟨e40,e⟩:=Prod.mk.inj e;obtain ⟨z_isinstance,e⟩:=Prod.mk.inj e;obtain ⟨z_int,e⟩:=Prod.mk.inj e;obtain ⟨z_bool,e⟩:=Prod.mk.inj e;obtain ⟨z_list,e⟩:=Prod.mk.inj e;obtain ⟨z_range,e⟩:=Prod.mk.inj e;obtain ⟨z_len,e⟩:=Prod.mk.inj e;obtain ⟨z_dict,e⟩:=Prod.mk.inj e;obtain ⟨z_sum,e⟩:=Prod.mk.inj e;obtain ⟨z_any,e⟩:=Prod.mk.inj e;obtain ⟨z_all,e⟩:=Prod.mk.inj e;obtain ⟨z_sorted,e⟩:=Prod.mk.inj e;obtain ⟨n_WatchError,e⟩:=Prod.mk.inj e;obtain ⟨n_NoPoint,e⟩:=Prod.mk.inj e;obtain ⟨n_NoAct,e⟩:=Prod.mk.inj e;obtain ⟨n_NoAsk,e⟩:=Prod.mk.inj e;obtain ⟨n_NoFraction,e⟩:=Prod.mk.inj e;obtain ⟨n_NoMove,e⟩:=Prod.mk.inj e;obtain ⟨n_NoNet,e⟩:=Prod.mk.inj e;obtain ⟨n_NoWait,e⟩:=Prod.mk.inj e;obtain ⟨q1,e⟩:=Prod.mk.inj e;obtain ⟨q2,e⟩:=Prod.mk.inj e;obtain ⟨q3,e⟩:=Prod.mk.inj e;obtain ⟨q4,e⟩:=Prod.mk.inj e;obtain ⟨q5,e⟩:=Prod.mk.inj e;obtain ⟨q6,e⟩:=Prod.mk.inj e;obtain ⟨q7,e⟩:=Prod.mk.inj e;obtain ⟨q8,e⟩:=Prod.mk.inj e;obtain ⟨q9,e⟩:=Prod.mk.inj e;obtain ⟨qa,e⟩:=Prod.mk.inj e;obtain ⟨qb,e⟩:=Prod.mk.inj e;obtain ⟨qc,e⟩:=Prod.mk.inj e;obtain ⟨qd,e⟩:=Prod.mk.inj e;obtain ⟨qe,e⟩:=Prod.mk.inj e;obtain ⟨qf,e⟩:=Prod.mk.inj e;have qg:=e;obtain ⟨a2,k2,_,_,_,_,_,_,_,_,_,l2,c2⟩:=Hd.fv_inv e2;obtain ⟨_,_,_,_,_,t2⟩:=Hd.intsAt_inv t2;obtain ⟨a40,k40,_,_,_,_,_,_,_,_,_,l40,c40⟩:=Hd.fv_inv e40;exact FI X G hfa (FK.of2 e0) (FK.of2 e1) (FK.of2 e3) (FK.of2 e4) (FK.of2 e5) (FK.of2 e6) (FK.of2 e7) (FK.of2 e8) (FK.of2 e9) (FK.of2 e10) (FK.of2 e11) (FK.of2 e12) (FK.of2 e13) (FK.of2 e14) (FK.of2 e15) (FK.of2 e16) (FK.of2 e17) (FK.of2 e18) (FK.of2 e19) (FK.of2 e20) (FK.of2 e21) (FK.of2 e22) (FK.of2 e23) (FK.of2 e24) (FK.of2 e25) (FK.of2 e26) (FK.of2 e27) (FK.of2 e28) (FK.of2 e29) (FK.of2 e30) (FK.of2 e31) (FK.of2 e32) (FK.of2 e33) (FK.of2 e34) (FK.of2 e35) (FK.of2 e36) (FK.of2 e37) (FK.of2 e38) (FK.of2 e39) a2 l2 t2 c2 k2 a40 l40 c40 k40 n_WatchError n_NoPoint n_NoAct n_NoAsk n_NoFraction n_NoMove n_NoNet n_NoWait q1 q2 q3 q4 q5 q6 q7 q8 q9 qa qb qc qd qe qf qg z_isinstance z_int z_bool z_list z_range z_len z_dict z_sum z_any z_all z_sorted
end
end Mine
open PySem PySem.W PyProof.Rows
set_option maxRecDepth 100000 in
set_option maxHeartbeats 0 in
theorem PySem.Challenge.cw_watchyard_k29_whole_chains_holds : PySem.Challenge.rw_watchyard_k29_whole_chains.Holds := by
 w_on;refine holds_law Mine.said fun said=>?_
 refine holds_open (q:=Mine.VW) (loose:=Mine.LO) (Xt:=Mine.XT) (XP:=XL Mine.VW []) (Yf:=Hook.obs Mine.HK) (Ya:=Hook.val Mine.HK) (YP:=Hook.says Mine.HK) (N:=6958) Mine.left (Hook.of Mine.HK) (Hook.keeps Mine.HK) (fun s e=>xl_of s (Bool.and_eq_true_iff.mp e).1) XL.keeps (by rfl) (by rfl) (by rfl) (fun s e=>recFacts_of (Bool.and_eq_true_iff.mp e).2) (by rfl) (by first | assumption | decide +kernel) (by decide +kernel) ⟨rfl,rfl,rfl,rfl,rfl,by decide +kernel⟩ ?hw ?hc
 (case hw=>w_witness2)
 exact Hd.walkE (l:=PySem.Challenge.rw_watchyard_k29_whole_chains) (n:=63) (k:=10) (x:="_law_script") (T:=fun K=>Mine.FF K=Mine.FE) (sp:=fun K=>Dl.spLaw K) rfl (by decide) rfl ⟨rfl,by decide,by decide⟩ (fun _ _ Y=>Y) (fun _ _ _ _ _ e X G h=>Mine.facts e X G h) fun _ _ a ns hl _ hS=>⟨a,ns,rfl,hS,hl,fun _=>rfl⟩
