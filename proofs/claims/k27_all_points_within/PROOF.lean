import PyProof.Rows.All
import Wide.All
import OpenK.AllK
import Wide.FinOn
import Lean
import PyProof.EqAt
import PyProof.EqKinds
import PyProof.TupleCall
import PyProof.NeKinds
import KE.IntBitsLaws
import KE.LcSums
import PyProof.ConsumeWalk
import PyProof.DictWalks
import PyProof.Rows.DictUnroll
import PySem.Challenge.RW_watchyard_k27_all_points_within
set_option Elab.async false
set_option linter.all false
set_option maxRecDepth 100000
set_option Elab.async false
set_option linter.all false
set_option maxRecDepth 100000
set_option maxHeartbeats 4000000
abbrev Za:=@Option.bind_eq_some_iff
abbrev Zb:=@Option.map_eq_some_iff
abbrev Zc:=@Option.bind_some
abbrev Zd:=@List.getElem?_cons_zero
abbrev Ze:=@List.getElem?_cons_succ
abbrev Zf:=@List.set_cons_zero
abbrev Zg:=@List.set_cons_succ
abbrev Zh:=@List.length_append
abbrev Zi:=@List.length_map
abbrev Zj:=@List.mem_cons_self
abbrev Zk:=@List.mem_cons_of_mem
abbrev Zl:=@List.mem_singleton
abbrev Zm:=@List.mem_map
abbrev Zn:=@List.mem_range
abbrev Zo:=@List.mem_append
abbrev Zp:=@List.mem_cons
abbrev Zq:=@List.map_cons
abbrev Zr:=@List.getD_eq_getElem?_getD
abbrev Zs:=@List.getElem?_eq_getElem
namespace L2
open PySem PySem.Spec PyProof.Rows
def dc (s:Stmt):Arguments:=match s with
 | .FunctionDef _ a _ _ _ _ _ _ _ _=>a
 | _=>{ posonlyargs:=[],args:=[],vararg:=none,kwonlyargs:=[],kw_defaults:=[],kwarg:=none,defaults:=[] }
def bM (s:Stmt):List Stmt:=match s with
 | .FunctionDef _ _ b _ _ _ _ _ _ _=>b
 | _=>[]
def al (s:Stmt):Scope:=match s with
 | .FunctionDef _ _ _ _ _ _ sc _ _ _=>sc
 | _=>{ kind:=.function,names:=[],isGenerator:=false,isCoroutine:=false }
end L2
namespace Hd
open PySem PySem.Spec PyProof.Rows L2 PySem.W
def Kof (as:List Addr) (h:Heap):PySem.W.Frag:=as.filterMap fun a=>(h.get? a).map fun o=>(a,o)
theorem u8:∀ (as:List Addr) (h:Heap),(Kof as h).In h
 | [],h,a,o,e=>by cases e
 | b :: r,h,a,o,e=>by
  unfold Kof at e
  rw [List.filterMap_cons] at e
  cases hb:h.get? b with
  | none=>rw [hb] at e;exact u8 r h a o e
  | some o' =>
   rw [hb] at e
   change List.lookup a ((b,o') :: Kof r h)=some o at e
   rw [List.lookup_cons] at e
   cases hc:a == b with
   | true=>rw [hc] at e;cases e;rw [beq_iff_eq.mp hc];exact hb
   | false=>rw [hc] at e;exact u8 r h a o e
def hk {α:Type} (as:List Addr) (F:PySem.W.Frag->α) (v:α):PySem.W.Hook where
 α:=α
 obs:=fun s=>F (Kof as s.heap)
 val:=fun _=>v
 says:=fun _ h=>∃ K:PySem.W.Frag,K.In h/\F K=v
 of:=fun _ s e=>⟨_,u8 as s.heap,e⟩
 keeps:=fun _ _ _ x k=>Exists.elim x fun K y=>⟨K,y.1.keeps k,y.2⟩
abbrev FT:=Option (Option Value)×Bool×Option (Str×Str×Arguments×FuncBody×Scope×Addr×List (Str×Addr)×Value×Addr×Bool)
def fv (K:PySem.W.Frag) (x:Str) (f:Addr):FT :=
 (PySem.W.nsIn K mainGlobals x,PySem.W.keepIn K (.ref f),match K.lookup f with
  | some ⟨_,_,.func d,_⟩=>some (d.name,d.qualname,d.params,d.body,d.scope,d.globals,d.closure,d.defaults,d.builtins,PySem.W.codeIn K d.code x)
  | _=>none)
def fe (x:Str) (st:Stmt) (dV:Value) (f:Addr):FT:=(some (some (Value.ref f)),true,some (x,x,dc st,FuncBody.stmts (bM st),al st,mainGlobals,[],dV,builtinsNs,true))
theorem fv_inv {K:PySem.W.Frag} {x:Str} {st:Stmt} {dV:Value} {f:Addr} (e:fv K x f=fe x st dV f):PySem.W.nsIn K mainGlobals x=some (some (.ref f))/\PySem.W.keepIn K (.ref f)=true /\
 ∃ (oc:Value) (od:Option Addr) (kV doc pm:Value) (an:Option Addr) (cdv ct:Value) (osl:Array (Option Value)),K.lookup f=some ⟨oc,od,.func (PySem.W.fnOf x x (dc st) (bM st) (al st) dV kV doc pm an cdv ct),osl⟩/\PySem.W.codeIn K cdv x=true:=by
 obtain ⟨e1,e2⟩:=Prod.mk.inj e
 obtain ⟨e2,e3⟩:=Prod.mk.inj e2
 refine ⟨e1,e2,?_⟩
 revert e3
 cases K.lookup f with
 | none=>intro e3;cases e3
 | some o =>
  obtain ⟨oc,od,dt,osl⟩:=o
  cases dt with
  | func d =>
   intro e3
   obtain ⟨a1,a2,a3,a4,a5,a6,a7,a8,a9,b1,b2,b3,b4,b5,b6⟩:=d
   obtain ⟨h1,y1⟩:=Prod.mk.inj (Option.some.inj e3)
   obtain ⟨h2,y2⟩:=Prod.mk.inj y1
   obtain ⟨h3,y3⟩:=Prod.mk.inj y2
   obtain ⟨h4,y4⟩:=Prod.mk.inj y3
   obtain ⟨h5,y5⟩:=Prod.mk.inj y4
   obtain ⟨h6,y6⟩:=Prod.mk.inj y5
   obtain ⟨h7,y7⟩:=Prod.mk.inj y6
   obtain ⟨h8,y8⟩:=Prod.mk.inj y7
   obtain ⟨h9,y9⟩:=Prod.mk.inj y8
   clear e3 y1 y2 y3 y4 y5 y6 y7 y8
   dsimp only at h1 h2 h3 h4 h5 h6 h7 h8 h9 y9
   subst h1 h2 h3 h4 h5 h6 h7 h8 h9
   exact ⟨oc,od,a9,b1,b2,b3,b4,b5,osl,rfl,y9⟩
  | _=>intro e3;cases e3
def intsAt (K:PySem.W.Frag) (T:Addr):Option (List (Option Int)):=match K.lookup T with
 | some ⟨_,_,.seq xs _,_⟩=>some (xs.toList.map fun v=>match v with | .int i _=>some i | _=>none)
 | _=>none
theorem intsAt_inv {K:PySem.W.Frag} {T:Addr} {i:Int} (e:intsAt K T=some [some i]):∃ (oT:Value) (dT:Option Addr) (tk:Tok) (nT:Nat) (sT:Array (Option Value)),K.lookup T=some ⟨oT,dT,.seq #[.int i tk] nT,sT⟩:=by
 unfold intsAt at e
 revert e
 cases K.lookup T with
 | none=>intro e;cases e
 | some o =>
  obtain ⟨oc,od,dt,osl⟩:=o
  cases dt with
  | seq xs n =>
   intro e
   obtain ⟨l⟩:=xs
   cases l with
   | nil=>cases e
   | cons v r =>
    cases r with
    | cons v' r'=>cases (List.cons.inj (Option.some.inj e)).2
    | nil =>
     cases v with
     | int j t=>cases e;exact ⟨_,_,_,_,_,rfl⟩
     | _=>cases e
  | _=>intro e;cases e
theorem left_one {p q:Program} {loose:List Str} {Xt:Shared->Bool} {α:Type} {Yf:Shared->α} {Ya:World->α} {N:Nat} {g0:Bool} {m₀:Nat} {ann:Option Value}
 (e:opening p=plainProg p.main.scope.names) (hN:Nat.ble 600 N=true) (f:∀ s,fenceModules? p s=some s)
 (size:∀ w:World,((boot_heap w.params).isNs mainGlobals,(boot_heap w.params).objs.size,(boot_heap w.params).nsMap mainGlobals "__annotations__")=(true,m₀,ann))
 (Bx:∀ (w:World) (os:OsState),(topRun treeTable p w m₀ ann N ⟨boot_heap w.params,Array.mk [],boot_drawn,boot_toks,os⟩ (topStub p)).map (fun s=>((staticsOk (importedModules p.main.body) (boot_heap w.params) s.heap && namesBound p s.heap && gensDone s && laidKept (boot_heap w.params) s.heap),Yf s))=some (true,Ya w))
 (Bw:∀ (w:World) (os:OsState),(topRun treeTable p w m₀ ann N ⟨boot_heap w.params,Array.mk [],boot_drawn,boot_toks,os⟩ (topStub p)).map (fun s=>openSeen q loose (importedModules p.main.body) Xt g0 s)=some (openGood q loose)):LeftO p q loose Xt Yf Ya N g0:=fun w=>by
 obtain ⟨⟨h,gs,d,k,os⟩,e,e'⟩:=Zb.mp (boot_open e hN f w)
 obtain ⟨rfl,e'⟩:=Prod.mk.inj e'
 obtain ⟨rfl,e'⟩:=Prod.mk.inj e'
 obtain ⟨rfl,rfl⟩:=Prod.mk.inj e'
 obtain ⟨z1,z2⟩:=Prod.mk.inj (size w)
 obtain ⟨z2,z3⟩:=Prod.mk.inj z2
 obtain ⟨s₁,r,l⟩:=Zb.mp (Bx w os)
 obtain ⟨l1,l3⟩:=Prod.mk.inj l
 have l2:=Bw w os
 rw [r] at l2
 have t:topFrom treeTable p w N ⟨boot_heap w.params,Array.mk [],boot_drawn,boot_toks,os⟩=some s₁:=by
  unfold topFrom
  dsimp only
  rw [z1,z2,z3]
  show (topRun treeTable p w m₀ ann N ⟨boot_heap w.params,Array.mk [],boot_drawn,boot_toks,os⟩ (topStub p)).bind _=_
  rw [r]
  show (match staticsOk (importedModules p.main.body) (boot_heap w.params) s₁.heap && namesBound p s₁.heap && gensDone s₁ && laidKept (boot_heap w.params) s₁.heap with | true=>_ | false=>_)=_
  rw [l1]
 unfold openEnds
 rw [e]
 show ((topFrom treeTable p w N _).map _)=_
 rw [t]
 exact congrArg some (Prod.ext (Option.some.inj l2) l3)
end Hd
namespace Mine
open PySem PySem.Spec PyProof.Rows L2
def top (i:Nat):Stmt:=PySem.Challenge.pw_watchyard_k27_all_points_within.main.body.getD i (.Pass ⟨0,0,0,0⟩)
abbrev iJ:Stmt:=top 5
abbrev dH:Stmt:=top 6
abbrev qD:Stmt:=top 13
abbrev jD:Stmt:=top 16
abbrev gZ:Stmt:=top 17
abbrev kQ:Stmt:=top 19
abbrev dX:Stmt:=top 23
abbrev eR:Stmt:=top 38
abbrev gq:Stmt:=top 39
abbrev fN:Stmt:=top 40
abbrev g8:Stmt:=top 41
abbrev gr:Stmt:=top 46
abbrev g6:Stmt:=top 50
abbrev kO:Stmt:=top 8
abbrev kN:Stmt:=top 11
abbrev mR:Stmt:=top 12
abbrev eM:Stmt:=top 22
abbrev eP:Stmt:=top 25
abbrev kM:Stmt:=top 26
abbrev iK:Stmt:=top 35
abbrev mT:Stmt:=top 36
abbrev dI:Stmt:=top 42
abbrev g4:Stmt:=top 43
abbrev eQ:Stmt:=top 44
abbrev g7:Stmt:=top 47
abbrev gn:Stmt:=top 48
abbrev d6:Stmt:=top 7
abbrev qC:Stmt:=top 9
abbrev mS:Stmt:=top 10
abbrev dY:Stmt:=top 45
abbrev mU:Stmt:=top 15
abbrev jE:Stmt:=top 34
abbrev eO:Stmt:=top 24
abbrev gX:Stmt:=top 31
abbrev eN:Stmt:=top 33
abbrev kR:Stmt:=top 21
abbrev kP:Stmt:=top 32
abbrev cK:Stmt:=top 30
abbrev iI:Stmt:=top 28
abbrev gY:Stmt:=top 29
abbrev dZ:Stmt:=top 49
abbrev gk:Stmt:=top 51
abbrev jW:Stmt:=top 52
abbrev PW:Program:=PySem.Challenge.pw_watchyard_k27_all_points_within
abbrev VW:Program:=PySem.W.view PW [1,2,3,5,6,8,9,10,11,12,13,15,16,17,19,21,22,23,24,25,26,28,29,30,31,32,33,34,35,36,38,39,40,41,42,43,44,45,46,47,48,49,50,51,52]
abbrev LO:List Str:=["fraction"]
def ads:List Addr:=[mainGlobals,58,65,73,80,87,94,101,108,115,122,129,136,141,148,155,160,167,174,181,188,195,202,209,214,219,226,233,240,247,254,261,268,275,282,289,294,301,308,313,318,323,328,335,57,64,72,79,86,93,100,107,114,121,128,135,140,147,154,159,166,173,180,187,194,201,208,213,218,225,232,239,246,253,260,267,274,281,288,293,300,307,312,317,322,327,334,66]
abbrev FF (K:PySem.W.Frag):=(Hd.fv K "is_whole" 58,
 Hd.fv K "common_divisor" 65,
 Hd.fv K "fraction" 73,
 Hd.intsAt K 66,
 Hd.fv K "lowest" 80,
 Hd.fv K "plus" 87,
 Hd.fv K "minus" 94,
 Hd.fv K "summed" 101,
 Hd.fv K "times" 108,
 Hd.fv K "less" 115,
 Hd.fv K "keeps" 122,
 Hd.fv K "tighter" 129,
 Hd.fv K "bound_sum" 136,
 Hd.fv K "copied" 141,
 Hd.fv K "closed" 148,
 Hd.fv K "with_noughts" 155,
 Hd.fv K "straight_ways" 160,
 Hd.fv K "ring_through" 167,
 Hd.fv K "lead_through" 174,
 Hd.fv K "within" 181,
 Hd.fv K "point_of" 188,
 Hd.fv K "far_point" 195,
 Hd.fv K "closed_or_refused" 202,
 Hd.fv K "far_value" 209,
 Hd.fv K "filled" 214,
 Hd.fv K "value_beside" 219,
 Hd.fv K "between" 226,
 Hd.fv K "greatest" 233,
 Hd.fv K "least" 240,
 Hd.fv K "_law_cell_at" 247,
 Hd.fv K "_law_mixed" 254,
 Hd.fv K "_law_lowest" 261,
 Hd.fv K "_law_less" 268,
 Hd.fv K "_law_any_table" 275,
 Hd.fv K "_law_part" 282,
 Hd.fv K "_law_planted" 289,
 Hd.fv K "_law_table_by" 294,
 Hd.fv K "_law_keeps" 301,
 Hd.fv K "_law_lies" 308,
 Hd.fv K "_law_other" 313,
 Hd.fv K "_law_far_ones" 318,
 Hd.fv K "_law_most" 323,
 Hd.fv K "_law_right" 328,
 Hd.fv K "law" 335,
 PySem.W.nsIn K mainGlobals "isinstance",
 PySem.W.nsIn K mainGlobals "int",
 PySem.W.nsIn K mainGlobals "bool",
 PySem.W.nsIn K mainGlobals "list",
 PySem.W.nsIn K mainGlobals "range",
 PySem.W.nsIn K mainGlobals "len",
 PySem.W.nsIn K mainGlobals "dict",
 PySem.W.nsIn K mainGlobals "abs",
 PySem.W.nsIn K mainGlobals "max",
 PySem.W.nsIn K mainGlobals "any",
 PySem.W.nsIn K mainGlobals "all")
abbrev FE:=(Hd.fe "is_whole" iJ .none 58,
 Hd.fe "common_divisor" dH .none 65,
 Hd.fe "fraction" d6 (.ref 66) 73,
 (some [some (1:Int)]),
 Hd.fe "lowest" kO .none 80,
 Hd.fe "plus" qC .none 87,
 Hd.fe "minus" mS .none 94,
 Hd.fe "summed" kN .none 101,
 Hd.fe "times" mR .none 108,
 Hd.fe "less" qD .none 115,
 Hd.fe "keeps" mU .none 122,
 Hd.fe "tighter" jD .none 129,
 Hd.fe "bound_sum" gZ .none 136,
 Hd.fe "copied" kQ .none 141,
 Hd.fe "closed" kR .none 148,
 Hd.fe "with_noughts" eM .none 155,
 Hd.fe "straight_ways" dX .none 160,
 Hd.fe "ring_through" eO .none 167,
 Hd.fe "lead_through" eP .none 174,
 Hd.fe "within" kM .none 181,
 Hd.fe "point_of" iI .none 188,
 Hd.fe "far_point" gY .none 195,
 Hd.fe "closed_or_refused" cK .none 202,
 Hd.fe "far_value" gX .none 209,
 Hd.fe "filled" kP .none 214,
 Hd.fe "value_beside" eN .none 219,
 Hd.fe "between" jE .none 226,
 Hd.fe "greatest" iK .none 233,
 Hd.fe "least" mT .none 240,
 Hd.fe "_law_cell_at" eR .none 247,
 Hd.fe "_law_mixed" gq .none 254,
 Hd.fe "_law_lowest" fN .none 261,
 Hd.fe "_law_less" g8 .none 268,
 Hd.fe "_law_any_table" dI .none 275,
 Hd.fe "_law_part" g4 .none 282,
 Hd.fe "_law_planted" eQ .none 289,
 Hd.fe "_law_table_by" dY .none 294,
 Hd.fe "_law_keeps" gr .none 301,
 Hd.fe "_law_lies" g7 .none 308,
 Hd.fe "_law_other" gn .none 313,
 Hd.fe "_law_far_ones" dZ .none 318,
 Hd.fe "_law_most" g6 .none 323,
 Hd.fe "_law_right" gk .none 328,
 Hd.fe "law" jW .none 335,
 (some none:Option (Option Value)),
 (some none:Option (Option Value)),
 (some none:Option (Option Value)),
 (some none:Option (Option Value)),
 (some none:Option (Option Value)),
 (some none:Option (Option Value)),
 (some none:Option (Option Value)),
 (some none:Option (Option Value)),
 (some none:Option (Option Value)),
 (some none:Option (Option Value)),
 (some none:Option (Option Value)))
abbrev HK:PySem.W.Hook:=Hd.hk ads FF FE
abbrev XT (s:Shared):Bool:=PySem.W.xlAt VW [] s && PySem.W.recOk [] s
theorem Bx (w:World) (os:OsState):(PySem.W.topRun treeTable PW w 11 (some (.ref 6)) 4708 ⟨PySem.W.boot_heap w.params,Array.mk [],PySem.W.boot_drawn,PySem.W.boot_toks,os⟩ (PySem.W.topStub PW)).map (fun s=>((PySem.W.staticsOk (importedModules PW.main.body) (PySem.W.boot_heap w.params) s.heap && PySem.W.namesBound PW s.heap && PySem.W.gensDone s && PySem.W.laidKept (PySem.W.boot_heap w.params) s.heap),PySem.W.Hook.obs HK s))=some (true,PySem.W.Hook.val HK w):=by
 rw [PySem.W.Fast.te14082659384304107361]
 kernel_rfl
theorem Bw (w:World) (os:OsState):(PySem.W.topRun treeTable PW w 11 (some (.ref 6)) 4708 ⟨PySem.W.boot_heap w.params,Array.mk [],PySem.W.boot_drawn,PySem.W.boot_toks,os⟩ (PySem.W.topStub PW)).map (fun s=>PySem.W.openSeen VW LO (importedModules PW.main.body) XT true s)=some (PySem.W.openGood VW LO):=by
 rw [PySem.W.Fast.te14082659384304107361,PySem.W.Fast.te4187177175401517315]
 kernel_rfl
theorem left:PySem.W.LeftO PW VW LO XT (PySem.W.Hook.obs HK) (PySem.W.Hook.val HK) 4708 :=
 Hd.left_one (m₀:=11) (ann:=some (.ref 6)) (by kernel_rfl) (by kernel_rfl) (fun s=>by kernel_rfl) (fun w=>by kernel_rfl) Bx Bw
theorem said:PySem.Challenge.rw_watchyard_k27_all_points_within.wellSaid=true:=by
 rw [PySem.W.Fast.te9446332074065402090]
 kernel_rfl
end Mine
namespace L2
open PySem PySem.Spec PyProof.Rows
abbrev Key:=Sum Int Str
def oD:Key->Value->Bool
 | .inl k,v=>Value.isInt k v
 | .inr x,v=>Value.isStrOf x v
def D4 (w:World):Key->Int
 | .inl k=>hashInt k
 | .inr x=>hashStr w x
theorem ci:∀ {k:Key} {v:Value},oD k v=true->(∃ i t,k=Sum.inl i/\v=Value.int i t) \/ (∃ x t,k=Sum.inr x/\v=Value.str x t)
 | .inl i,v,h=>by
  obtain ⟨t,e⟩:=Value.isInt_shape (k:=i) (v:=v) h
  exact .inl ⟨i,t,rfl,e⟩
 | .inr x,v,h=>by
  obtain ⟨t,e⟩:=Value.isStrOf_shape (x:=x) (v:=v) h
  exact .inr ⟨x,t,rfl,e⟩
theorem xp (i:Int) (t:Tok):oD (.inl i) (.int i t)=true:=by simp [oD,Value.isInt]
theorem xn (x:Str) (t:Tok):oD (.inr x) (.str x t)=true:=by simp [oD,Value.isStrOf]
theorem Ce (a b:Int):decide ((Sum.inl a:Key)=Sum.inl b)=(a == b):=by
 by_cases e:a=b
 . subst e;simp
 . have h:¬ (Sum.inl a:Key)=Sum.inl b:=fun q=>e (Sum.inl.inj q)
   rw [decide_eq_false h]
   exact (beq_eq_false_iff_ne.mpr e).symm
theorem Cb (a b:Str):decide ((Sum.inr a:Key)=Sum.inr b)=decide (a=b):=by
 by_cases e:a=b
 . subst e;simp
 . have h:¬ (Sum.inr a:Key)=Sum.inr b:=fun q=>e (Sum.inr.inj q)
   rw [decide_eq_false h,decide_eq_false e]
theorem Cd (a:Int) (b:Str):decide ((Sum.inl a:Key)=Sum.inr b)=false:=decide_eq_false (fun q=>nomatch q)
theorem Cc (a:Str) (b:Int):decide ((Sum.inr a:Key)=Sum.inl b)=false:=decide_eq_false (fun q=>nomatch q)
def bT (prog:Program) (w:World):PySem.KeyKind prog w Key where
 is:=oD
 hash:=D4 w
 inj:=fun v a b ha hb=>by
  rcases ci ha with ⟨i,t,rfl,rfl⟩ | ⟨x,t,rfl,rfl⟩
  . rcases ci hb with ⟨j,u,rfl,e⟩ | ⟨y,u,rfl,e⟩
    . injection e with e1 _;rw [e1]
    . exact nomatch e
  . rcases ci hb with ⟨j,u,rfl,e⟩ | ⟨y,u,rfl,e⟩
    . exact nomatch e
    . injection e with e1 _;rw [e1]
 byValue:=fun k v h=>by
  rcases ci h with ⟨i,t,rfl,rfl⟩ | ⟨x,t,rfl,rfl⟩ <;> rfl
 pyHash:=fun hv h=>by
  rcases ci hv with ⟨i,t,rfl,rfl⟩ | ⟨x,t,rfl,rfl⟩
  . exact wpAny_pyHash_int h
  . exact wpAny_pyHash_str h
 eqBool:=fun hu hv h=>by
  rcases ci hu with ⟨i,t,rfl,rfl⟩ | ⟨x,t,rfl,rfl⟩
  . rcases ci hv with ⟨j,u,rfl,rfl⟩ | ⟨y,u,rfl,rfl⟩
    . rw [Ce] at h;exact wpAny_eqBool_int h
    . rw [Cd] at h;exact SeqAt.EqAt.int_str i t y u _ _ _ _ h
  . rcases ci hv with ⟨j,u,rfl,rfl⟩ | ⟨y,u,rfl,rfl⟩
    . rw [Cc] at h;exact SeqAt.EqAt.str_int x t j u _ _ _ _ h
    . rw [Cb] at h;exact wpAny_eqBool_str h
 «strs»:=fun k x t v h=>by
  rcases ci h with ⟨i,u,rfl,e⟩ | ⟨y,u,rfl,e⟩
  . exact nomatch e
  . injection e with e1 _
    subst e1
    cases v <;> rfl
theorem sU (prog:Program) (w:World) (i:Int) (t:Tok):(bT prog w).is (.inl i) (.int i t)=true:=xp i t
theorem sS (prog:Program) (w:World) (x:Str) (t:Tok):(bT prog w).is (.inr x) (.str x t)=true:=xn x t
end L2
namespace L2
open PySem PySem.Spec PyProof.Rows
inductive V where
 | non | bl (b:Bool) | int (i:Int) | str (x:Str) | byt (b:Array UInt8) | flt (b:UInt64) | ref (a:Addr) | ty (n:String)
 deriving DecidableEq
def RelV:V->Value->Prop
 | .non,u=>u=Value.none
 | .bl b,u=>u=Value.bool b
 | .int i,u=>∃ t,u=Value.int i t
 | .str x,u=>∃ t,u=Value.str x t
 | .byt b,u=>∃ t,u=Value.bytes b t
 | .flt b,u=>∃ t,u=Value.float b t
 | .ref a,u=>u=Value.ref a
 | .ty n,u=>u=Value.type n
abbrev Vals:List V->List Value->Prop:=Paired RelV
theorem Vals.length {xs:List V} {us:List Value} (r:Vals xs us):xs.length=us.length:=Paired.length r
theorem Vals.get:∀ {xs:List V} {us:List Value} {i:Nat} {x:V},Vals xs us->xs[i]? = some x->∃ u,us[i]? = some u/\RelV x u
 | _,_,_,_,.nil,e=>by simp at e
 | _,_,0,_,.cons r _,e=>by simp at e;subst e;exact ⟨_,rfl,r⟩
 | _,_,i+1,x,.cons _ t,e=>by
  obtain ⟨u,h1,h2⟩:=Vals.get (i:=i) (x:=x) t (by simpa using e)
  exact ⟨u,by simpa using h1,h2⟩
theorem Vals.set {x:V} {u:Value} (r:RelV x u):∀ {xs:List V} {us:List Value} (i:Nat),Vals xs us->Vals (xs.set i x) (us.set i u)
 | _,_,_,.nil=>.nil
 | _,_,0,.cons _ t=>.cons r t
 | _,_,i+1,.cons q t=>.cons q (Vals.set r i t)
theorem Vals.append:∀ {xs ys:List V} {us ws:List Value},Vals xs us->Vals ys ws->Vals (xs++ys) (us++ws)
 | _,_,_,_,.nil,s=>s
 | _,_,_,_,.cons r t,s=>.cons r (Vals.append t s)
def RelO:Option V->Option Value->Prop
 | some v,some u=>RelV v u
 | none,none=>True
 | _,_=>False
def KV {κ:Type}:List (κ×V)->List (κ×Value)->Prop:=Paired fun (p:κ×V) (q:κ×Value)=>p.1=q.1/\RelV p.2 q.2
def kV:Key->V
 | .inl i=>.int i
 | .inr x=>.str x
inductive HO where
 | lst (xs:List V)
 | tup (xs:List V)
 | dK (kvs:List (Key×V)) | dT (kvs:List (List Key×V))
 | set (S:Int->Bool) (n:Nat)
 | ins (C dx:Addr) (fs:List (Str×V))
 | own (x:Addr)
 | xd (fs:List (Str×V))
 | met (f x:Addr)
 | rng (lo hi:Int)
 | frz (o:Obj) (u:HO)
 | tbl (ps:Array Value)
 | ext (φ:Heap->Prop)
abbrev Hp:=Addr->Option HO
def upd (H:Hp) (a:Addr) (o:HO):Hp:=fun b=>if b=a then some o else H b
theorem aX {H:Hp} {a:Addr} {o:HO}:upd H a o a=some o:=by unfold upd;rw [if_pos rfl]
theorem aB {H:Hp} {a b:Addr} {o:HO} (h:b ≠ a):upd H a o b=H b:=by unfold upd;rw [if_neg h]
theorem Dq {H:Hp} {a b:Addr} {o u:HO} (h:H a=some o) (h':H b=some u) (d:o ≠ u):a ≠ b:=by
 intro e;subst e;rw [h] at h';exact d (Option.some.inj h')
theorem c5 {H:Hp} {a b:Addr} {o:HO} (h:H a=some o) (h':H b=none):a ≠ b:=by
 intro e;subst e;rw [h] at h';cases h'
section
variable (P:Program) (w:World)
def ObjOk (H:Hp) (h:Heap) (a:Addr):HO->Prop
 | .lst xs=>xs.length<=sizeLine/\∃ (its:List Value) (n:Nat),Vals xs its/\h.get? a=some { cls:=.type "list",data:=.seq its.toArray n }
 | .tup xs=>xs.length<=sizeLine/\∃ its:List Value,Vals xs its/\IsTup h a its.toArray
 | .dK kvs=>kvs.length<=sizeLine/\(a == sysModules)=false/\∃ vs,KV kvs vs/\h.DictOf (bT P w) a vs
 | .dT kvs=>kvs.length<=sizeLine/\(a == sysModules)=false/\∃ xs:List (List Key×Addr×Value),
  Paired (fun (p:List Key×V) (q:List Key×Addr×Value)=>p.1=q.1/\H q.2.1=some (.tup (p.1.map kV))/\RelV p.2 q.2.2) kvs xs /\
  ∃ o es ep,h.get? a=some o/\o.ExactDict/\o.data=.dict es ep/\es.toList=xs.map (entryOfKey (tupleKind (bT P w)))/\(xs.map (·.1)).Nodup
 | .set S n=>h.SetOf (intKind P w) a S n
 | .ins C dx fs=>H dx=some (.own a)/\fs.length<=1000/\dx ≠ a/\h.get? a=some (PySem.W.instObj C dx) /\
  ∃ mA,h.Ns1 dx mA/\(∀ f,RelO (fs.lookup f) (mA f))/\PySem.Within mA (fs.map (·.1))
 | .own _=>∃ o,h.get? a=some o
 | .xd fs=>∃ mA,h.Ns1 a mA/\∀ f,RelO (fs.lookup f) (mA f)
 | .rng lo hi=>∃ t u v,h.get? a=some { cls:=.type "range",data:=.fields #[.int lo t,.int hi u,.int 1 v] }
 | .frz o u=>h.get? a=some o/\ObjOk H h a u
 | .tbl ps=>h.get? a=some { cls:=.none,data:=.fields ps }
 | .met f x=>h.get? a=some (PySem.W.methodObj (.ref f) (.ref x))
 | .ext φ=>φ h/\(∃ o,h.get? a=some o)/\∀ h1 h2:Heap,φ h1->(∀ o,h1.get? a=some o->h2.get? a=some o)->φ h2
def HOk (H:Hp) (h:Heap):Prop:=∀ a o,H a=some o->ObjOk P w H h a o
end
section
variable {P:Program} {w:World} {H H':Hp} {h h':Heap} {a:Addr} {o:HO}
theorem ObjOk.lt (x:ObjOk P w H h a o):a < h.objs.size:=by
 cases o with
 | lst xs=>obtain ⟨_,_,_,_,e⟩:=x;exact Heap.lt_size e
 | tup xs=>obtain ⟨_,_,_,p⟩:=x;exact p.lt
 | dK kvs=>obtain ⟨_,_,_,_,o,_,_,e,_⟩:=x;exact Heap.lt_size e
 | dT kvs=>obtain ⟨_,_,_,_,o,_,_,e,_⟩:=x;exact Heap.lt_size e
 | set S n=>obtain ⟨o,_,_,_,e,_⟩:=x;exact Heap.lt_size e
 | ins C dx fs=>obtain ⟨_,_,_,e,_⟩:=x;exact Heap.lt_size e
 | own y=>obtain ⟨_,e⟩:=x;exact Heap.lt_size e
 | xd fs=>obtain ⟨_,⟨_,_,_,e,_⟩,_⟩:=x;exact Heap.lt_size e
 | rng lo hi=>obtain ⟨_,_,_,e⟩:=x;exact Heap.lt_size e
 | frz ob u=>obtain ⟨e,_⟩:=x;exact Heap.lt_size e
 | tbl ps=>exact Heap.lt_size (show h.get? a=some _ from x)
 | met f y=>exact Heap.lt_size (show h.get? a=some _ from x)
 | ext φ=>obtain ⟨_,⟨_,e⟩,_⟩:=x;exact Heap.lt_size e
theorem Paired.mapP {α β:Type} {F G:α->β->Prop}:∀ {l₁:List α} {l₂:List β},Paired F l₁ l₂->(∀ a b,F a b->G a b)->Paired G l₁ l₂
 | _,_,.nil,_=>.nil
 | _,_,.cons r t,f=>.cons (f _ _ r) (Paired.mapP t f)
theorem ObjOk.stay (x:ObjOk P w H h a o) (k:∀ b u,(b=a \/ H b=some (.own a))->h.get? b=some u->h'.get? b=some u)
 (ho:∀ b,H b=some (.own a)->H' b=some (.own a)) (ht:∀ b xs,H b=some (.tup xs)->H' b=some (.tup xs)):ObjOk P w H' h' a o:=by
 induction o with
 | lst xs=>obtain ⟨z,its,n,r,e⟩:=x;exact ⟨z,its,n,r,k _ _ (.inl rfl) e⟩
 | tup xs=>obtain ⟨z,its,r,ob,e,c⟩:=x;exact ⟨z,its,r,ob,k _ _ (.inl rfl) e,c⟩
 | dK kvs=>obtain ⟨z,y,vs,r,ob,es,ep,e,c⟩:=x;exact ⟨z,y,vs,r,ob,es,ep,k _ _ (.inl rfl) e,c⟩
 | dT kvs =>
  obtain ⟨z,y,xs,r,ob,es,ep,e,c⟩:=x
  exact ⟨z,y,xs,Paired.mapP r fun p q z=>⟨z.1,ht _ _ z.2.1,z.2.2⟩,ob,es,ep,k _ _ (.inl rfl) e,c⟩
 | set S n=>obtain ⟨ob,es,ep,t,e,c⟩:=x;exact ⟨ob,es,ep,t,k _ _ (.inl rfl) e,c⟩
 | ins C dx fs =>
  obtain ⟨d,z,ne,e,mA,⟨od,es,ep,e2,c⟩,r⟩:=x
  exact ⟨ho _ d,z,ne,k _ _ (.inl rfl) e,mA,⟨od,es,ep,k _ _ (.inr d) e2,c⟩,r⟩
 | own y=>obtain ⟨ob,e⟩:=x;exact ⟨ob,k _ _ (.inl rfl) e⟩
 | xd fs=>obtain ⟨mA,⟨od,es,ep,e,c⟩,r⟩:=x;exact ⟨mA,⟨od,es,ep,k _ _ (.inl rfl) e,c⟩,r⟩
 | rng lo hi=>obtain ⟨t,u,v,e⟩:=x;exact ⟨t,u,v,k _ _ (.inl rfl) e⟩
 | frz ob u ih=>obtain ⟨e,q⟩:=x;exact ⟨k _ _ (.inl rfl) e,ih q⟩
 | tbl ps =>
  have e:h.get? a=some { cls:=.none,data:=.fields ps }:=x
  show h'.get? a=some { cls:=.none,data:=.fields ps }
  exact k a _ (.inl rfl) e
 | met f y =>
  have e:h.get? a=some (PySem.W.methodObj (.ref f) (.ref y)):=x
  show h'.get? a=some (PySem.W.methodObj (.ref f) (.ref y))
  exact k a _ (.inl rfl) e
 | ext φ=>obtain ⟨p,⟨o,e⟩,st⟩:=x;exact ⟨st _ _ p fun o q=>k _ _ (.inl rfl) q,⟨o,k _ _ (.inl rfl) e⟩,st⟩
theorem HOk.lt (x:HOk P w H h) (e:H a=some o):a < h.objs.size:=(x a o e).lt
theorem HOk.fresh (x:HOk P w H h) (e:h.objs.size<=a):H a=none:=by
 cases q:H a with
 | none=>rfl
 | some u=>exact absurd (Nat.lt_of_lt_of_le (x.lt q) e) (Nat.lt_irrefl _)
theorem HOk.kept (x:HOk P w H h) (k:∀ b u,h.get? b=some u->h'.get? b=some u):HOk P w H h':=fun a o e =>
 (x a o e).stay (fun b u _ q=>k b u q) (fun _ q=>q) fun _ _ q=>q
theorem HOk.laid (x:HOk P w H h) (k:∀ b u,h.get? b=some u->h'.get? b=some u) (hp:h.objs.size<=a) (new:ObjOk P w (upd H a o) h' a o):HOk P w (upd H a o) h':=fun b u e=>by
 have hn:=x.fresh hp
 by_cases hb:b=a
 . subst hb;rw [aX] at e;cases e;exact new
 . rw [aB hb] at e
   exact (x b u e).stay (fun c v _ q=>k c v q) (fun c q=>by rw [aB (c5 q hn)];exact q) fun c xs q=>by rw [aB (c5 q hn)];exact q
end
def Rd (H:Hp) (a:Addr) (u:HO):Prop:=H a=some u \/ ∃ o,H a=some (.frz o u)
theorem Rd.ok {P:Program} {w:World} {H:Hp} {h:Heap} {a:Addr} {u:HO} (r:Rd H a u) (x:HOk P w H h):ObjOk P w H h a u:=by
 rcases r with r | ⟨o,r⟩
 . exact x a u r
 . obtain ⟨_,q⟩:=x a _ r
   exact q
def Mut:Option HO->Prop
 | some (.lst _)=>True
 | some (.dK _)=>True
 | some (.dT _)=>True
 | some (.set _ _)=>True
 | some (.ins _ _ _)=>True
 | some (.ext _)=>True
 | _=>False
section
variable {P:Program} {w:World} {H:Hp} {h h':Heap} {x e:Addr} {o':HO}
theorem HOk.write (ok:HOk P w H h) (mu:Mut (H x)) (he:e=x \/ H e=some (.own x)) (k:∀ b u,b ≠ e->h.get? b=some u->h'.get? b=some u) (heo:∃ u,h'.get? e=some u)
 (new:ObjOk P w (upd H x o') h' x o'):HOk P w (upd H x o') h':=fun b u q=>by
 have nown:∀ c y,H c=some (.own y)->c ≠ x:=fun c y r z=>by subst z;rw [r] at mu;exact mu
 have ntup:∀ c xs,H c=some (.tup xs)->c ≠ x:=fun c xs r z=>by subst z;rw [r] at mu;exact mu
 by_cases hb:b=x
 . subst hb;rw [aX] at q;cases q;exact new
 . rw [aB hb] at q
   by_cases hbe:b=e
   . have q':H b=some (.own x):=by
      rcases he with z | z
      . exact absurd (hbe.trans z) hb
      . rw [hbe];exact z
     rw [q] at q';cases q'
     obtain ⟨v,hv⟩:=heo
     exact ⟨v,by rw [hbe];exact hv⟩
   . refine (ok b u q).stay (fun c v hc r=>k c v ?_ r) (fun c r=>by rw [aB (nown c b r)];exact r) fun c xs r=>by rw [aB (ntup c xs r)];exact r
     rcases hc with rfl | hc
     . exact hbe
     . rintro rfl
       rcases he with z | z
       . exact nown c b hc z
       . rw [hc] at z;cases z;exact hb rfl
end
structure Un (fs ex:List Addr) (H H':Hp) (h h':Heap):Prop where
 keep:∀ b o,h.get? b=some o->H b=none->b ∉ fs->b ∉ ex->h'.get? b=some o
 slot:∀ b o,h.get? b=some o->H b=none->b∈fs->b ∉ ex->∃ sl,h'.get? b=some { o with slots:=sl }
 free:∀ b o,h.get? b=some o->H b=none->b ∉ ex->H' b=none
 there:∀ b o,h.get? b=some o->b ∉ ex->∃ o',h'.get? b=some o'
 tups:∀ b xs,H b=some (.tup xs)->H' b=some (.tup xs)
 frzs:∀ b o u,H b=some (.frz o u)->H' b=some (.frz o u)
 tbls:∀ b ps,H b=some (.tbl ps)->∃ more,H' b=some (.tbl (ps++more))
section
variable {fs fs' ex ex':List Addr} {H H1 H2:Hp} {h h1 h2 h':Heap} {a x e:Addr} {o:HO}
theorem Un.any (u:Un fs ex H H1 h h1) {b:Addr} {ob:Obj} (q:h.get? b=some ob) (n:H b=none) (hx:b ∉ ex):∃ sl,h1.get? b=some { ob with slots:=sl }:=by
 by_cases hb:b∈fs
 . exact u.slot b ob q n hb hx
 . exact ⟨ob.slots,u.keep b ob q n hb hx⟩
theorem Un.kept (k:∀ b u,h.get? b=some u->h'.get? b=some u):Un fs ex H H h h' :=
 ⟨fun b ob q _ _ _=>k b ob q,fun b ob q _ _ _=>⟨ob.slots,k b ob q⟩,fun _ _ _ n _=>n,fun b ob q _=>⟨ob,k b ob q⟩,fun _ _ q=>q,fun _ _ _ q=>q,fun _ ps q=>⟨#[],by rw [q];simp⟩⟩
theorem Un.refl:Un fs ex H H h h:=Un.kept fun _ _ q=>q
theorem Un.laid (k:∀ b u,h.get? b=some u->h'.get? b=some u) (hp:h.objs.size<=a) (hn:H a=none):Un fs ex H (upd H a o) h h' where
 keep:=fun b u q _ _ _=>k b u q
 slot:=fun b u q _ _ _=>⟨u.slots,k b u q⟩
 free:=fun b u q n _=>by rw [aB (Nat.ne_of_lt (Nat.lt_of_lt_of_le (Heap.lt_size q) hp))];exact n
 there:=fun b u q _=>⟨u,k b u q⟩
 tups:=fun b xs q=>by rw [aB (c5 q hn)];exact q
 frzs:=fun b u xs q=>by rw [aB (c5 q hn)];exact q
 tbls:=fun b ps q=>⟨#[],by rw [aB (c5 q hn),q];simp⟩
theorem Un.write (mu:Mut (H x)) (he:e=x \/ H e=some (.own x)) (k:∀ b u,b ≠ e->h.get? b=some u->h'.get? b=some u) (heo:∃ u,h'.get? e=some u):Un fs ex H (upd H x o) h h':=by
 have hx:∀ b,H b=none->b ≠ x:=fun b n z=>by subst z;rw [n] at mu;exact mu
 have hb:∀ b,H b=none->b ≠ e:=fun b n z=>by
  subst z
  rcases he with r | r
  . exact hx b n r
  . rw [n] at r;cases r
 have hm:∀ b u,H b=some u->¬ Mut (some u)->b ≠ x:=fun b u q nm z=>by subst z;rw [q] at mu;exact nm mu
 refine ⟨fun b u q n _ _=>k b u (hb b n) q,fun b u q n _ _=>⟨u.slots,k b u (hb b n) q⟩,fun b u q n _=>by rw [aB (hx b n)];exact n,fun b u q _=>?_,
  fun b xs q=>by rw [aB (hm b _ q fun z=>z)];exact q,fun b u xs q=>by rw [aB (hm b _ q fun z=>z)];exact q,fun b ps q=>⟨#[],by rw [aB (hm b _ q fun z=>z),q];simp⟩⟩
 by_cases hbe:b=e
 . subst hbe;exact heo
 . exact ⟨u,k b u hbe q⟩
end
def trk (h:Heap) (H:Hp):List Addr:=(List.range h.objs.size).filter fun a=>(H a).isSome
def rj (h:Heap) (H:Hp):Heap:=PySem.W.hideAll h (trk h H)
theorem xu (h:Heap) (H:Hp):(rj h H).objs.size=h.objs.size:=PySem.W.hideAll_size _ _
theorem yZ {h:Heap} {H:Hp} {b:Addr} {o:Obj} (e:h.get? b=some o) (n:H b=none):(rj h H).get? b=some o :=
 PySem.W.hideAll_get _ e fun hm=>by
  have q:(H b).isSome=true:=(List.mem_filter.mp hm).2
  rw [n] at q;simp at q
theorem Ag {h:Heap} {H:Hp} {b:Addr} {o:Obj} (e:(rj h H).get? b=some o):h.get? b=some o/\H b=none:=by
 have e':h.get? b=some o:=PySem.W.of_hideAll (trk h H) e
 refine ⟨e',?_⟩
 cases q:H b with
 | none=>rfl
 | some x =>
  have hm:b∈trk h H:=List.mem_filter.mpr ⟨Zn.mpr (Heap.lt_size e'),by simp [q]⟩
  have z:(rj h H).get? b=none:=PySem.W.hideAll_none (trk h H) hm
  rw [z] at e;cases e
def AK (g h:Heap) (L:Addr):List (Addr×Obj):=(List.range h.objs.size).filterMap fun a=>if a=L \/ (g.get? a).isSome=true then none else (h.get? a).map fun o=>(a,o)
def rest (g h:Heap) (L d:Addr):List (Addr×Obj):=(AK g h L).filter fun p=>decide (p.1 ≠ d)
end L2
namespace L2
open PySem PySem.Spec PyProof.Rows
structure Mod (K:PySem.W.Frag) (mg:Str->Option Value) (base:Heap):Prop where
 kin:K.In base
 glob:base.Ns mainGlobals mg
 blt:∃ mb,base.Ns builtinsNs mb/\∀ x:Str,x ≠ "__name__"->mb x=bootBuiltins x
 nolimit:base.NoLimit
structure Cx where
 prog:Program
 w:World
 K:PySem.W.Frag
 mg:Str->Option Value
 base:Heap
 A:Around
 N:List Str
 s₀:Shared
 H₀:Hp
 env:Env
 outer:List Env
 stack:List Env
 ex:List Addr
 fn:Str->Bool
 calm:Bool
 pn:List (Addr×Obj)
 xe:Value->Shared->Prop
def frs (l:List Env):List Addr:=l.filterMap (·.frame)
abbrev Cx.fs (X:Cx):List Addr:=frs X.outer
def Vis (sc:Scope) (x:Str):Prop:=sc.names.lookup x=some .local \/ sc.names.lookup x=some .cell \/ sc.names.lookup x=some .free
def Loc (sc:Scope) (x:Str):Prop:=sc.names.lookup x=some .local \/ sc.names.lookup x=some .cell
def D8 (env:Env) (h:Heap) (m:Str->Option Value) (x:Str) (u:Value):Prop :=
 (env.kindOf x=some .local/\m x=some u) \/ ((env.kindOf x=some .cell \/ env.kindOf x=some .free)/\∃ c,env.cells.lookup x=some c/\h.IsCell c (some u))
structure Cx.Ok (X:Cx):Prop where
 mod:Mod X.K X.mg X.base
 kind:X.env.scope.kind=.function
 glob:X.env.globals=mainGlobals
 blt:X.env.builtins=builtinsNs
 above:X.s₀.heap.objs.size<=X.env.locals
 inj:∀ x y c,X.env.cells.lookup x=some c->X.env.cells.lookup y=some c->x=y
 has:∀ x,(X.env.kindOf x=some .cell \/ X.env.kindOf x=some .free)->∃ c,X.env.cells.lookup x=some c
 cab:∀ x c,X.fn x=true->X.env.cells.lookup x=some c->X.s₀.heap.objs.size<=c
 hd:X.calm=true->X.A.handled=none
 frames:X.A.frames=some X.stack
 stk:X.stack=X.outer \/ (X.stack=X.env :: X.outer/\X.env.frame=some X.env.locals)
 exf:∀ b∈X.ex,b ≠ X.env.locals/\∀ x c,X.env.cells.lookup x=some c->c ≠ b
 bs:∀ b o,X.base.get? b=some o->X.s₀.heap.get? b=some o/\X.H₀ b=none
 bsz:X.base.objs.size<=X.s₀.heap.objs.size
 noex:∀ b o,X.base.get? b=some o->b ∉ X.ex
 exfs:∀ b∈X.ex,b ∉ X.fs
 funs:X.s₀.heap.FunFrames X.base X.outer
 frf:∀ b∈X.fs,X.H₀ b=none
structure Inv (X:Cx) (pins:List (Addr×Obj)) (σ:List (Option V)) (H:Hp) (s:Shared):Prop where
 ok:X.Ok
 os:s.os=X.s₀.os
 bare:AllBare s.gens
 base:Un X.fs X.ex X.H₀ H X.s₀.heap s.heap
 loc:∃ m,s.heap.Ns X.env.locals m/\∀ (i:Nat) (x:Str) (v:V),X.N[i]? = some x->σ[i]? = some (some v)->Vis X.env.scope x->∃ u,RelV v u/\D8 X.env s.heap m x u
 cell:∀ x c,X.env.cells.lookup x=some c->∃ v,s.heap.IsCell c v
 free:H X.env.locals=none
 freeC:∀ x c,X.env.cells.lookup x=some c->H c=none
 pin:∀ p∈X.pn++pins,s.heap.get? p.1=some p.2/\H p.1=none/\p.1 ≠ X.env.locals/\p.1 ∉ X.fs/\∀ v,p.2.data ≠ .cell v
 hok:HOk X.prog X.w H s.heap
 len:σ.length=X.N.length
section
variable {X:Cx} {pins:List (Addr×Obj)} {σ:List (Option V)} {H H':Hp} {s:Shared} {h':Heap}
theorem Cx.Ok.nofr (ok:X.Ok) {b:Addr} {o:Obj} (e:X.base.get? b=some o):b ∉ X.fs:=fun hb=>by
 have:=(ok.funs.mem hb).1
 rw [e] at this;cases this
theorem Inv.bs (I:Inv X pins σ H s):∀ b o,X.base.get? b=some o->s.heap.get? b=some o/\H b=none:=fun b o e =>
 ⟨I.base.keep b o (I.ok.bs b o e).1 (I.ok.bs b o e).2 (I.ok.nofr e) (I.ok.noex b o e),I.base.free b o (I.ok.bs b o e).1 (I.ok.bs b o e).2 (I.ok.noex b o e)⟩
theorem Inv.bk (I:Inv X pins σ H s):∀ b o,X.base.get? b=some o->s.heap.get? b=some o:=fun b o e=>(I.bs b o e).1
theorem Inv.mod (I:Inv X pins σ H s):Mod X.K X.mg X.base:=I.ok.mod
theorem Inv.kIn (I:Inv X pins σ H s):X.K.In s.heap:=I.ok.mod.kin.keeps I.bk
theorem Inv.lt (I:Inv X pins σ H s):X.env.locals < s.heap.objs.size:=let ⟨_,hn,_⟩:=I.loc;hn.lt
theorem Inv.sz (I:Inv X pins σ H s):X.s₀.heap.objs.size<=s.heap.objs.size:=Nat.le_trans I.ok.above (Nat.le_of_lt I.lt)
theorem Inv.nofs (I:Inv X pins σ H s) {a:Addr} (h:s.heap.objs.size<=a):a ∉ X.fs:=fun hb=>by
 obtain ⟨_,o,ho,_⟩:=I.ok.funs.mem hb
 exact absurd (Nat.lt_of_lt_of_le (Heap.lt_size ho) (Nat.le_trans I.sz h)) (Nat.lt_irrefl _)
theorem Inv.cne (I:Inv X pins σ H s):∀ x c,X.env.cells.lookup x=some c->c ≠ X.env.locals:=fun x c e z=>by
 obtain ⟨v,o,ho,hd⟩:=I.cell x c e
 obtain ⟨m,⟨o',es,ep,ho',hd',_⟩,_⟩:=I.loc
 rw [z,ho'] at ho;cases ho;rw [hd'] at hd;cases hd
theorem Inv.funs (I:Inv X pins σ H s):s.heap.FunFrames X.base X.outer:=by
 have all:∀ (l:List Env),(∀ b∈frs l,b∈X.fs)->X.s₀.heap.FunFrames X.base l->s.heap.FunFrames X.base l:=by
  intro l
  induction l with
  | nil=>intro _ _;trivial
  | cons env r ih =>
   intro hs hl
   obtain ⟨hk,⟨L,o,hf,hn,ho,hd⟩,hr⟩:=hl
   have hL:L∈X.fs:=hs L (by unfold frs;rw [List.filterMap_cons,hf];exact Zj)
   obtain ⟨sl,e⟩:=I.base.slot L o ho (I.ok.frf L hL) hL fun z=>I.ok.exfs L z hL
   exact ⟨hk,⟨L,_,hf,hn,e,hd⟩,ih (fun b hb=>hs b (by unfold frs;rw [List.filterMap_cons,hf];exact Zk _ hb)) hr⟩
 exact all X.outer (fun _ hb=>hb) I.ok.funs
theorem Inv.stack (I:Inv X pins σ H s):s.heap.FunFrames X.base X.stack:=by
 rcases I.ok.stk with e | ⟨e,hf⟩
 . rw [e];exact I.funs
 . rw [e]
   obtain ⟨m,hn,_⟩:=I.loc
   refine .cons (by rw [I.ok.kind];decide) hf hn ?_ I.funs
   exact Heap.get?_none_of_le (Nat.le_trans I.ok.bsz I.ok.above)
theorem Inv.stkSub (I:Inv X pins σ H s):∀ b∈frs X.stack,b∈X.env.locals :: X.fs:=fun b hb=>by
 rcases I.ok.stk with e | ⟨e,hf⟩
 . rw [e] at hb;exact Zk _ hb
 . rw [e] at hb
   unfold frs at hb
   rw [List.filterMap_cons,hf] at hb
   exact hb
theorem Inv.stkFree (I:Inv X pins σ H s):∀ b∈frs X.stack,H b=none:=fun b hb=>by
 rcases Zp.mp (I.stkSub b hb) with e | hb
 . rw [e];exact I.free
 . obtain ⟨_,o,ho,_⟩:=I.ok.funs.mem hb
   exact I.base.free b o ho (I.ok.frf b hb) fun z=>I.ok.exfs b z hb
theorem Inv.step {g':Array GenState} {t':Nat} {d':Drawn} {ch:List Addr} (I:Inv X pins σ H s)
 (hch:∀ b∈ch,(b∈X.ex \/ X.s₀.heap.objs.size<=b)/\b ≠ X.env.locals/\(∀ x c,X.env.cells.lookup x=some c->c ≠ b)/\∀ p∈X.pn++pins,p.1 ≠ b)
 (keep:∀ b o,b ≠ X.env.locals->b ∉ X.fs->b ∉ ch->s.heap.get? b=some o->H b=none->h'.get? b=some o)
 (slot:∀ b o,b ≠ X.env.locals->b∈X.fs->b ∉ ch->s.heap.get? b=some o->H b=none->∃ sl,h'.get? b=some { o with slots:=sl }) (free:∀ b o,b ∉ ch->s.heap.get? b=some o->H b=none->H' b=none)
 (there:∀ b o,b ∉ ch->s.heap.get? b=some o->∃ o',h'.get? b=some o')
 (tups:∀ b xs,H b=some (.tup xs)->H' b=some (.tup xs)) (frzs:∀ b o u,H b=some (.frz o u)->H' b=some (.frz o u)) (tbls:∀ b ps,H b=some (.tbl ps)->∃ more,H' b=some (.tbl (ps++more)))
 (ns:∀ m,s.heap.Ns X.env.locals m->h'.Ns X.env.locals m) (hok:HOk X.prog X.w H' h') (hg:AllBare g') :
 Inv X pins σ H' { s with heap:=h',gens:=g',drawn:=d',toks:=t' }:=by
 have neL:∀ b o,X.s₀.heap.get? b=some o->b ≠ X.env.locals:=fun b o e=>Nat.ne_of_lt (Nat.lt_of_lt_of_le (Heap.lt_size e) I.ok.above)
 have neC:∀ b o,X.s₀.heap.get? b=some o->b ∉ X.ex->b ∉ ch:=fun b o e hx hb=>by
  rcases (hch b hb).1 with z | z
  . exact hx z
  . exact absurd (Nat.lt_of_lt_of_le (Heap.lt_size e) z) (Nat.lt_irrefl _)
 have cellK:∀ x c,X.env.cells.lookup x=some c->∀ v,s.heap.IsCell c v->h'.IsCell c v:=fun x c e v ⟨o,ho,hd⟩=>by
  have nch:c ∉ ch:=fun z=>(hch c z).2.2.1 x c e rfl
  by_cases hc:c∈X.fs
  . obtain ⟨sl,q⟩:=slot c o (I.cne x c e) hc nch ho (I.freeC x c e)
    exact ⟨_,q,hd⟩
  . exact ⟨o,keep c o (I.cne x c e) hc nch ho (I.freeC x c e),hd⟩
 refine ⟨I.ok,I.os,hg,⟨fun b o e n hb hx=>?_,fun b o e n hb hx=>?_,fun b o e n hx=>?_,fun b o e hx=>?_,fun b xs e=>tups b xs (I.base.tups b xs e),fun b o xs e=>frzs b o xs (I.base.frzs b o xs e),fun b ps e=>?_⟩,?_,fun x c e=>?_,?_,fun x c e=>?_,fun p hp=>?_,hok,I.len⟩
 . exact keep b o (neL b o e) hb (neC b o e hx) (I.base.keep b o e n hb hx) (I.base.free b o e n hx)
 . obtain ⟨sl,e1⟩:=I.base.slot b o e n hb hx
   obtain ⟨sl',e2⟩:=slot b _ (neL b o e) hb (neC b o e hx) e1 (I.base.free b o e n hx)
   exact ⟨sl',e2⟩
 . obtain ⟨o',e1⟩:=I.base.there b o e hx
   exact free b o' (neC b o e hx) e1 (I.base.free b o e n hx)
 . obtain ⟨o',e1⟩:=I.base.there b o e hx
   exact there b o' (neC b o e hx) e1
 . obtain ⟨m1,e1⟩:=I.base.tbls b ps e
   obtain ⟨m2,e2⟩:=tbls b _ e1
   exact ⟨m1++m2,by rw [e2,Array.append_assoc]⟩
 . obtain ⟨m,hn,hl⟩:=I.loc
   refine ⟨m,ns m hn,fun i x v e1 e2 e3=>?_⟩
   obtain ⟨u,r,l⟩:=hl i x v e1 e2 e3
   refine ⟨u,r,?_⟩
   rcases l with l | ⟨k,c,e,z⟩
   . exact .inl l
   . exact .inr ⟨k,c,e,cellK x c e _ z⟩
 . obtain ⟨v,z⟩:=I.cell x c e
   exact ⟨v,cellK x c e v z⟩
 . obtain ⟨m,⟨o,_,_,ho,_⟩,_⟩:=I.loc
   exact free _ o (fun z=>(hch _ z).2.1 rfl) ho I.free
 . obtain ⟨v,o,ho,hd⟩:=I.cell x c e
   exact free c o (fun z=>(hch c z).2.2.1 x c e rfl) ho (I.freeC x c e)
 . obtain ⟨e,n,ne,nf,d⟩:=I.pin p hp
   have nch:p.1 ∉ ch:=fun z=>(hch p.1 z).2.2.2 p hp rfl
   exact ⟨keep p.1 p.2 ne nf nch e n,free p.1 p.2 nch e n,ne,nf,d⟩
theorem Inv.un {t':Nat} (I:Inv X pins σ H s) (u:Un X.fs [] H H' s.heap h') (hok:HOk X.prog X.w H' h'):Inv X pins σ H' { s with heap:=h',toks:=t' }:=by
 obtain ⟨m,⟨o,es,ep,ho,r⟩,_⟩:=id I.loc
 obtain ⟨sl,hL⟩:=u.any ho I.free (by simp)
 exact I.step (g':=s.gens) (d':=s.drawn) (ch:=[]) (fun _ z=>nomatch z) (fun b o _ hb _ e n=>u.keep b o e n hb (by simp)) (fun b o _ hb _ e n=>u.slot b o e n hb (by simp)) (fun b o _ e n=>u.free b o e n (by simp)) (fun b o _ e=>u.there b o e (by simp)) u.tups u.frzs u.tbls (fun m' hm=>by
  obtain ⟨o',es',ep',ho',r'⟩:=hm
  rw [ho] at ho';cases ho'
  exact ⟨_,es',ep',hL,r'⟩) hok I.bare
theorem Inv.call {g':Array GenState} {t':Nat} {d':Drawn} {ch:List Addr} (I:Inv X pins σ H s) (u:Un (frs X.stack) ch H H' s.heap h') (hok:HOk X.prog X.w H' h') (hg:AllBare g')
 (hch:∀ b∈ch,(b∈X.ex \/ X.s₀.heap.objs.size<=b)/\b ≠ X.env.locals/\(∀ x c,X.env.cells.lookup x=some c->c ≠ b)/\∀ p∈X.pn++pins,p.1 ≠ b) :
 Inv X pins σ H' { s with heap:=h',gens:=g',drawn:=d',toks:=t' }:=by
 obtain ⟨m,⟨o,es,ep,ho,r⟩,_⟩:=id I.loc
 obtain ⟨sl,hL⟩:=u.any ho I.free fun z=>(hch _ z).2.1 rfl
 exact I.step (ch:=ch) hch (fun b o hL hb hc e n=>u.keep b o e n (fun z=>(Zp.mp (I.stkSub b z)).elim hL hb) hc) (fun b o _ _ hc e n=>u.any e n hc) (fun b o hc e n=>u.free b o e n hc) (fun b o hc e=>u.there b o e hc) u.tups u.frzs u.tbls (fun m' hm=>by
  obtain ⟨o',es',ep',ho',r'⟩:=hm
  rw [ho] at ho';cases ho'
  exact ⟨_,es',ep',hL,r'⟩) hok hg
theorem Inv.turned {t':Nat} {it:Addr} (I:Inv X pins σ H s) (k:∀ b o,b ≠ it->s.heap.get? b=some o->h'.get? b=some o) (hn:H it=none) (hL:it ≠ X.env.locals)
 (h1:it∈X.ex \/ X.s₀.heap.objs.size<=it) (h2:∀ x c,X.env.cells.lookup x=some c->c ≠ it) (h3:∀ p∈X.pn++pins,p.1 ≠ it):Inv X pins σ H { s with heap:=h',toks:=t' }:=by
 have nit:∀ b u,H b=some u->b ≠ it:=fun b u e z=>by rw [z,hn] at e;cases e
 refine I.step (g':=s.gens) (d':=s.drawn) (ch:=[it]) (fun b hb=>?_) (fun b o _ _ hc e _=>k b o (fun z=>hc (by simp [z])) e) (fun b o _ _ hc e _=>⟨o.slots,k b o (fun z=>hc (by simp [z])) e⟩) (fun _ _ _ _ n=>n)
  (fun b o hc e=>⟨o,k b o (fun z=>hc (by simp [z])) e⟩) (fun _ _ e=>e) (fun _ _ _ e=>e) (fun b ps e=>⟨#[],by rw [e];simp⟩) (fun m hm=>?_) (fun b u e=>?_) I.bare
 . have e:b=it:=by simpa using hb
   subst e
   exact ⟨h1,hL,h2,h3⟩
 . obtain ⟨o,es,ep,ho,r⟩:=hm
   exact ⟨o,es,ep,k _ o (Ne.symm hL) ho,r⟩
 . refine (I.hok b u e).stay (fun c v hc q=>k c v ?_ q) (fun _ q=>q) fun _ _ q=>q
   rcases hc with z | z
   . rw [z];exact nit b u e
   . exact nit c _ z
theorem Inv.tok (I:Inv X pins σ H s) (t:Nat):Inv X pins σ H { s with toks:=t }:=I.un (h':=s.heap) (t':=t) Un.refl I.hok
theorem Inv.kept {t':Nat} (I:Inv X pins σ H s) (k:∀ b u,s.heap.get? b=some u->h'.get? b=some u):Inv X pins σ H { s with heap:=h',toks:=t' }:=I.un (Un.kept k) (I.hok.kept k)
theorem Inv.laid {a:Addr} {o:HO} {t':Nat} (I:Inv X pins σ H s) (k:∀ b u,s.heap.get? b=some u->h'.get? b=some u) (hp:s.heap.objs.size<=a) (new:ObjOk X.prog X.w (upd H a o) h' a o) :
 Inv X pins σ (upd H a o) { s with heap:=h',toks:=t' }:=I.un (Un.laid k hp (I.hok.fresh hp)) (I.hok.laid k hp new)
theorem Inv.write {x e:Addr} {o:HO} {t':Nat} (I:Inv X pins σ H s) (mu:Mut (H x)) (he:e=x \/ H e=some (.own x)) (k:∀ b u,b ≠ e->s.heap.get? b=some u->h'.get? b=some u) (heo:∃ u,h'.get? e=some u)
 (new:ObjOk X.prog X.w (upd H x o) h' x o):Inv X pins σ (upd H x o) { s with heap:=h',toks:=t' }:=I.un (Un.write mu he k heo) (I.hok.write mu he k heo new)
theorem Inv.pins_of {pins':List (Addr×Obj)} (I:Inv X pins σ H s) (h:∀ p∈pins',s.heap.get? p.1=some p.2/\H p.1=none/\p.1 ≠ X.env.locals/\p.1 ∉ X.fs/\∀ v,p.2.data ≠ .cell v):Inv X pins' σ H s :=
 ⟨I.ok,I.os,I.bare,I.base,I.loc,I.cell,I.free,I.freeC,fun p hp=>(Zo.mp hp).elim (fun z=>I.pin p (List.mem_append_left _ z)) (h p),I.hok,I.len⟩
theorem sP {N:List Str} (hN:N.Nodup) {i j:Nat} {x:Str} (a:N[i]? = some x) (b:N[j]? = some x):i=j:=by
 obtain ⟨h1,e1⟩:=List.getElem?_eq_some_iff.mp a
 obtain ⟨h2,e2⟩:=List.getElem?_eq_some_iff.mp b
 exact (List.getElem_inj hN).mp (e1.trans e2.symm)
theorem lu {M:Model} {A:Around} {E:Value->Shared->Prop} {i:Nat} {x:Str} {v:V} {u:Value} {Q:Unit->Shared->Prop} (I:Inv X pins σ H s) (hN:X.N.Nodup) (hi:X.N[i]? = some x) (hx:Loc X.env.scope x) (r:RelV v u)
 (h:∀ s',Inv X pins (σ.set i (some v)) H s'->(∃ a,Heap.SameBut a s.heap s'.heap/\(a=X.env.locals \/ X.env.cells.lookup x=some a))->Q () s') (hf:X.fn x=true \/ X.env.scope.names.lookup x=some .local:=by first | exact .inl rfl | exact .inr rfl | assumption):wpAny M A (storeName X.env x u) Q E s:=by
 obtain ⟨m,hn,hl⟩:=id I.loc
 have hcls:(X.env.scope.kind == .class || (X.env.scope.kind == .module && X.env.locals != X.env.globals))=false:=by rw [I.ok.kind];rfl
 have hiσ:i < σ.length:=by rw [I.len];exact (List.getElem?_eq_some_iff.mp hi).1
 have cne:=I.cne
 have tracked:∀ {a:Addr} {h':Heap},(∃ o,s.heap.get? a=some o/\H a=none)->Heap.SameBut a s.heap h'->HOk X.prog X.w H h':=fun {a h'} ha hs b ob e=>by
  obtain ⟨_,_,hfree⟩:=ha
  refine (I.hok b ob e).stay (fun c w' hc q=>(hs.2 c ?_).trans q) (fun _ q=>q) fun _ _ q=>q
  rintro rfl
  rcases hc with rfl | hc
  . rw [hfree] at e;cases e
  . rw [hfree] at hc;cases hc
 rcases hx with hk | hk
 . refine wpAny_storeName_local hk hn (fun h' hn' hs=>?_) hcls
   obtain ⟨oL,_,_,hoL,_⟩:=id hn
   refine h _ ⟨I.ok,I.os,I.bare,⟨fun b o e n hb hx=>?_,fun b o e n hb hx=>?_,I.base.free,fun b o e hx=>?_,I.base.tups,I.base.frzs,I.base.tbls⟩,⟨_,hn',fun j y v' e1 e2 e3=>?_⟩,fun y c e=>?_,I.free,I.freeC,fun p hp=>?_,tracked ⟨oL,hoL,I.free⟩ hs,by simpa using I.len⟩ ⟨_,hs,.inl rfl⟩
   . exact (hs.2 b (Nat.ne_of_lt (Nat.lt_of_lt_of_le (Heap.lt_size e) I.ok.above))).trans (I.base.keep b o e n hb hx)
   . obtain ⟨sl,e1⟩:=I.base.slot b o e n hb hx
     exact ⟨sl,(hs.2 b (Nat.ne_of_lt (Nat.lt_of_lt_of_le (Heap.lt_size e) I.ok.above))).trans e1⟩
   . obtain ⟨o',e1⟩:=I.base.there b o e hx
     exact ⟨o',(hs.2 b (Nat.ne_of_lt (Nat.lt_of_lt_of_le (Heap.lt_size e) I.ok.above))).trans e1⟩
   . by_cases hj:j=i
     . subst hj
       rw [hi] at e1;cases e1
       rw [List.getElem?_set_self hiσ] at e2
       cases e2
       exact ⟨u,r,.inl ⟨hk,by simp⟩⟩
     . rw [List.getElem?_set_ne (Ne.symm hj)] at e2
       obtain ⟨u',r',q⟩:=hl j y v' e1 e2 e3
       refine ⟨u',r',?_⟩
       rcases q with ⟨k,e⟩ | ⟨k,c,e,z⟩
       . refine .inl ⟨k,?_⟩
         have:y ≠ x:=fun e=>hj (sP hN e1 (e ▸ hi))
         simp [this,e]
       . exact .inr ⟨k,c,e,z.sameBut hs (cne y c e)⟩
   . obtain ⟨w',z⟩:=I.cell y c e
     exact ⟨w',z.sameBut hs (cne y c e)⟩
   . obtain ⟨e,n,ne,nf,d⟩:=I.pin p hp
     exact ⟨(hs.2 p.1 ne).trans e,n,ne,nf,d⟩
 . have hfn:X.fn x=true:=by
    rcases hf with z | z
    . exact z
    . rw [z] at hk;cases hk
   obtain ⟨c,hc⟩:=I.ok.has x (.inl hk)
   obtain ⟨w',z⟩:=I.cell x c hc
   refine wpAny_storeName_cell I.ok.kind hk hc z (fun h' hc' hs=>?_)
   obtain ⟨oc,hoc,hocd⟩:=id z
   refine h { s with heap:=h' } ⟨I.ok,I.os,I.bare,⟨fun b o e n hb hx=>?_,fun b o e n hb hx=>?_,I.base.free,fun b o e hx=>?_,I.base.tups,I.base.frzs,I.base.tbls⟩,⟨m,hn.sameBut hs (Ne.symm (cne x c hc)),fun j y v' e1 e2 e3=>?_⟩,fun y c' e=>?_,I.free,I.freeC,fun p hp=>?_,tracked ⟨oc,hoc,I.freeC x c hc⟩ hs,by simpa using I.len⟩ ⟨c,hs,.inr hc⟩
   . exact (hs.2 b (Nat.ne_of_lt (Nat.lt_of_lt_of_le (Heap.lt_size e) (I.ok.cab x c hfn hc)))).trans (I.base.keep b o e n hb hx)
   . obtain ⟨sl,e1⟩:=I.base.slot b o e n hb hx
     exact ⟨sl,(hs.2 b (Nat.ne_of_lt (Nat.lt_of_lt_of_le (Heap.lt_size e) (I.ok.cab x c hfn hc)))).trans e1⟩
   . obtain ⟨o',e1⟩:=I.base.there b o e hx
     exact ⟨o',(hs.2 b (Nat.ne_of_lt (Nat.lt_of_lt_of_le (Heap.lt_size e) (I.ok.cab x c hfn hc)))).trans e1⟩
   . by_cases hj:j=i
     . subst hj
       rw [hi] at e1;cases e1
       rw [List.getElem?_set_self hiσ] at e2
       cases e2
       exact ⟨u,r,.inr ⟨.inl hk,c,hc,hc'⟩⟩
     . rw [List.getElem?_set_ne (Ne.symm hj)] at e2
       obtain ⟨u',r',q⟩:=hl j y v' e1 e2 e3
       refine ⟨u',r',?_⟩
       rcases q with q | ⟨k,c',e,z'⟩
       . exact .inl q
       . refine .inr ⟨k,c',e,z'.sameBut hs ?_⟩
         rintro rfl
         exact hj (sP hN e1 (I.ok.inj _ _ _ e hc ▸ hi))
   . by_cases hcc:c'=c
     . subst hcc;exact ⟨_,hc'⟩
     . obtain ⟨w2,z2⟩:=I.cell y c' e
       exact ⟨w2,z2.sameBut hs hcc⟩
   . obtain ⟨e,n,ne,nf,d⟩:=I.pin p hp
     refine ⟨(hs.2 p.1 ?_).trans e,n,ne,nf,d⟩
     intro q
     rw [q,hoc] at e
     have q':oc=p.2:=Option.some.inj e
     exact d w' (by rw [<- q'];exact hocd)
theorem kB {M:Model} {A:Around} {E:Value->Shared->Prop} {i:Nat} {x:Str} {v:V} {u:Value} {Q:Unit->Shared->Prop} (I:Inv X pins σ H s) (hN:X.N.Nodup) (hi:X.N[i]? = some x) (hx:Loc X.env.scope x) (r:RelV v u)
 (h:∀ s',Inv X pins (σ.set i (some v)) H s'->Q () s') (hf:X.fn x=true \/ X.env.scope.names.lookup x=some .local:=by first | exact .inl rfl | exact .inr rfl | assumption):wpAny M A (storeName X.env x u) Q E s :=
 lu I hN hi hx r (fun s' I' _=>h s' I') hf
theorem Inv.call' {s':Shared} {ch:List Addr} (I:Inv X pins σ H s) (ho:s'.os=s.os) (u:Un (frs X.stack) ch H H' s.heap s'.heap) (hok:HOk X.prog X.w H' s'.heap) (hg:AllBare s'.gens)
 (hch:∀ b∈ch,(b∈X.ex \/ X.s₀.heap.objs.size<=b)/\b ≠ X.env.locals/\(∀ x c,X.env.cells.lookup x=some c->c ≠ b)/\∀ p∈X.pn++pins,p.1 ≠ b):Inv X pins σ H' s':=by
 obtain ⟨h',g',d',t',o'⟩:=s'
 have e:o'=s.os:=ho
 subst e
 exact I.call (g':=g') (t':=t') (d':=d') u hok hg hch
end
abbrev XK:=Value->Option Addr->Hp->Prop
abbrev St:=List (Option V)
abbrev VK:=V->Hp->Prop
abbrev TE:=St->Hp->VK->Prop
abbrev TT:=St->Hp->(Bool->Hp->Prop)->Prop
abbrev TA:=St->Hp->(List V->Hp->Prop)->Prop
structure pp where
 nx:St->Hp->Prop
 rt:VK
 bk:St->Hp->Prop:=fun _ _=>False
 ct:St->Hp->Prop:=fun _ _=>False
abbrev TS:=pp->St->Hp->Prop
def EP (X:Cx) (pins:List (Addr×Obj)) (σ:St) (Q:VK) (u:Value) (s':Shared):Prop:=∃ v H',Inv X pins σ H' s'/\RelV v u/\Q v H'
def TP (X:Cx) (pins:List (Addr×Obj)) (σ:St) (Q:Bool->Hp->Prop) (b:Bool) (s':Shared):Prop:=∃ H',Inv X pins σ H' s'/\Q b H'
def AP (X:Cx) (pins:List (Addr×Obj)) (σ:St) (Q:List V->Hp->Prop) (us:List Value) (s':Shared):Prop:=∃ vs H',Inv X pins σ H' s'/\Vals vs us/\Q vs H'
def SP (X:Cx) (pins:List (Addr×Obj)) (D:pp) (f:Flow) (s':Shared):Prop :=
 match f with
 | .next=>∃ σ' H',Inv X pins σ' H' s'/\D.nx σ' H'
 | .brk=>∃ σ' H',Inv X pins σ' H' s'/\D.bk σ' H'
 | .cont=>∃ σ' H',Inv X pins σ' H' s'/\D.ct σ' H'
 | .ret u=>∃ v σ' H',Inv X pins σ' H' s'/\RelV v u/\D.rt v H'
def PE (X:Cx) (e:Expr) (t:TE):Prop :=
 ∀ (pins:List (Addr×Obj)) (s:Shared) (σ:St) (H:Hp) (Q:VK),Inv X pins σ H s->t σ H Q->wpAny (model X.prog X.w) X.A (eval e X.env) (EP X pins σ Q) X.xe s
def PT (X:Cx) (e:Expr) (t:TT):Prop :=
 ∀ (pins:List (Addr×Obj)) (s:Shared) (σ:St) (H:Hp) (Q:Bool->Hp->Prop),Inv X pins σ H s->t σ H Q->wpAny (model X.prog X.w) X.A (isTrue e X.env (eval e X.env)) (TP X pins σ Q) X.xe s
def PW (X:Cx) (e:Expr) (t:TT):Prop :=
 ∀ (whole:Sem Value) (pins:List (Addr×Obj)) (s:Shared) (σ:St) (H:Hp) (Q:Bool->Hp->Prop),Inv X pins σ H s->t σ H Q->wpAny (model X.prog X.w) X.A (isTrue e X.env whole) (TP X pins σ Q) X.xe s
def PA (X:Cx) (es:List Expr) (t:TA):Prop :=
 ∀ (pos:Pos) (pins:List (Addr×Obj)) (s:Shared) (σ:St) (H:Hp) (Q:List V->Hp->Prop),Inv X pins σ H s->t σ H Q->wpAny (model X.prog X.w) X.A (spliced (backTo pos (starEach es X.env))) (AP X pins σ Q) X.xe s
def PS (X:Cx) (st:Stmt) (t:TS):Prop :=
 ∀ (pins:List (Addr×Obj)) (s:Shared) (σ:St) (H:Hp) (D:pp),Inv X pins σ H s->t D σ H->wpAny (model X.prog X.w) X.A (exec st X.env) (SP X pins D) X.xe s
def PSs (X:Cx) (st:List Stmt) (t:TS):Prop :=
 ∀ (pins:List (Addr×Obj)) (s:Shared) (σ:St) (H:Hp) (D:pp),Inv X pins σ H s->t D σ H->wpAny (model X.prog X.w) X.A (execs st X.env) (SP X pins D) X.xe s
theorem thn {α:Type} {t:Sem α} {Q Q':α->Shared->Prop} {M:Model} {A:Around} {E:Value->Shared->Prop} {s:Shared} (h:wpAny M A t Q E s) (hQ:∀ a s,Q a s->Q' a s):wpAny M A t Q' E s:=wpAny_mono h hQ fun _ _ x=>x
end L2
namespace L2
open PySem PySem.Spec PyProof.Rows
section
variable {X:Cx}
def qx (i:Nat):TE:=fun σ H Q=>∃ v,σ[i]? = some (some v)/\Q v H
def tC (v:V):TE:=fun _ H Q=>Q v H
theorem n9 {i:Nat} {x:Str} {pos:Pos} (hN:X.N[i]? = some x) (hv:Vis X.env.scope x) (hd:(x == ("__debug__":Str))=false:=by decide) (hcd:(x == ("__classdict__":Str))=false:=by decide):PE X (.Name x pos) (qx i):=by
 intro pins s σ H Q I h
 obtain ⟨v,e,h⟩:=h
 obtain ⟨m,hn,hl⟩:=I.loc
 obtain ⟨u,r,l⟩:=hl i x v hN e hv
 have fin:EP X pins σ Q u s:=⟨v,H,I,r,h⟩
 rcases l with ⟨hk,hm⟩ | ⟨hk,c,hc,hcell⟩
 . exact wpAny_Name (wpAny_loadName_local I.ok.kind hk hn hm fin) hd
 . rcases hk with hk | hk
   . exact wpAny_Name (wpAny_loadName_cell I.ok.kind hk hc hcell fin) hd
   . exact wpAny_Name (wpAny_loadName_free I.ok.kind hk hc hcell fin hcd) hd
theorem BS {i j pos}:PE X (.Constant (.int i) j pos) (tC (.int i)):=fun _ _ _ H _ I h=>wpAny_Constant_int ⟨.int i,H,I.tok _,⟨_,rfl⟩,h⟩
theorem Dk {b j pos}:PE X (.Constant (.bool b) j pos) (tC (.bl b)):=fun _ _ _ H _ I h=>Constant_bool ⟨.bl b,H,I,rfl,h⟩
theorem BR {j pos}:PE X (.Constant .none j pos) (tC .non):=fun _ _ _ H _ I h=>Constant_none ⟨.non,H,I,rfl,h⟩
theorem BO {x j pos}:PE X (.Constant (.str x) j pos) (tC (.str x)):=fun _ _ _ H _ I h=>Calls.Constant_str ⟨.str x,H,I.tok _,⟨_,rfl⟩,h⟩
def Gl (X:Cx) (x:Str):Prop:=X.env.kindOf x=some .globalImplicit
theorem An {E:Value->Shared->Prop} {pins:List (Addr×Obj)} {s:Shared} {σ:St} {H:Hp} {x:Str} {u:Value} {pos:Pos} {Q:Value->Shared->Prop} (I:Inv X pins σ H s) (hg:Gl X x) (hm:X.mg x=some u) (h:Q u s)
 (hd:(x == ("__debug__":Str))=false:=by decide):wpAny (model X.prog X.w) X.A (eval (.Name x pos) X.env) Q E s :=
 Calls.Name_function_global I.ok.kind hg (Calls.loadGlobal_global (by rw [I.ok.glob];exact I.mod.glob.keeps I.bk) hm h) hd
theorem oC {E:Value->Shared->Prop} {pins:List (Addr×Obj)} {s:Shared} {σ:St} {H:Hp} {x:Str} {u:Value} {pos:Pos} {Q:Value->Shared->Prop} (I:Inv X pins σ H s) (hg:Gl X x) (hm:X.mg x=none) (hv:bootBuiltins x=some u) (h:Q u s)
 (hn:x ≠ "__name__":=by decide) (hd:(x == ("__debug__":Str))=false:=by decide):wpAny (model X.prog X.w) X.A (eval (.Name x pos) X.env) Q E s:=by
 obtain ⟨mb,h1,h2⟩:=I.mod.blt
 exact Calls.Name_function_global I.ok.kind hg (Calls.loadGlobal_builtin (by rw [I.ok.glob];exact I.mod.glob.keeps I.bk) hm (by rw [I.ok.blt];exact h1.keeps I.bk) ((h2 x hn).trans hv) h) hd
theorem z8 {x:Str} {v:V} {u:Value} {pos:Pos} (hg:Gl X x) (hm:X.mg x=none) (hv:bootBuiltins x=some u) (r:RelV v u) (hn:x ≠ "__name__":=by decide) (hd:(x == ("__debug__":Str))=false:=by decide):PE X (.Name x pos) (tC v) :=
 fun _ _ _ H _ I h=>oC I hg hm hv ⟨v,H,I,r,h⟩ hn hd
variable {a b:Expr} {ta tb:TE} {pos:Pos}
def PC (X:Cx) (op:CmpOp) (a b:Expr) (t:TE):Prop :=
 ∀ (pins:List (Addr×Obj)) (s:Shared) (σ:St) (H:Hp) (Q:VK),Inv X pins σ H s->t σ H Q ->
  wpAny (model X.prog X.w) X.A (eval a X.env) (fun v s₁=>wpAny (model X.prog X.w) X.A (eval b X.env) (fun u s₂=>wpAny (model X.prog X.w) X.A (compareOp op v u) (EP X pins σ Q) X.xe s₂) X.xe s₁) X.xe s
theorem yI (b:Expr) {op:CmpOp} (h:op ≠ .In) (h2:op ≠ .NotIn):behindInMarks op b=false:=by
 have e1:(op == CmpOp.In)=false:=by cases op <;> first | rfl | exact absurd rfl h
 have e2:(op == CmpOp.NotIn)=false:=by cases op <;> first | rfl | exact absurd rfl h2
 cases b <;> simp [behindInMarks,e1,e2]
def tB (t:TE):TT:=fun σ H Q=>t σ H fun x H1=>∃ c,x=.bl c/\Q c H1
theorem BK {op:CmpOp} {t:TE} (h:PC X op a b t) (h1:behindInMarks op b=false:=by first | exact yI _ (by decide) (by decide) | rfl):PT X (.Compare a [op] [b] pos) (tB t):=by
 intro pins s σ H Q I hw
 refine wpAny_isTrue_Compare1 (thn (h pins s σ H _ I hw) fun v s1 h1=>thn h1 fun u s2 h2=>thn h2 fun c s3 ⟨x,H1,I1,r1,q1⟩=>?_) h1
 obtain ⟨d,rfl,q⟩:=q1
 cases r1
 exact wpAny_truthy_bool ⟨H1,I1,q⟩
theorem BI {e:Expr} {t:TE} (h:PE X e t) (he:∀ whole,isTrue e X.env whole=(do let v <- whole;standAt e.pos;holding [v] (truthy v)):=by intro _;rfl):PT X e (tB t):=by
 intro pins s σ H Q I hw
 refine isTrue_plain (thn (h pins s σ H _ I hw) fun v s1 ⟨x,H1,I1,r1,q1⟩=>?_) (he _)
 obtain ⟨d,rfl,q⟩:=q1
 cases r1
 exact wpAny_truthy_bool ⟨H1,I1,q⟩
variable {tA tB':TT} {rest:List Expr}
def DZ (t u:TT):TT:=fun σ H Q=>t σ H fun c H1=>if c=true then u σ H1 Q else Q false H1
def tOr (t u:TT):TT:=fun σ H Q=>t σ H fun c H1=>if c=true then Q true H1 else u σ H1 Q
def DV (t:TT):TT:=fun σ H Q=>t σ H fun c H1=>Q (!c) H1
theorem zR (ha:PT X a tA):PW X (.BoolOp .And [a] pos) tA:=by
 intro wh pins s σ H Q I h
 refine isTrue_and (thn (ha pins s σ H Q I h) fun c s1 e=>?_)
 cases c with
 | true=>exact isTrue_and_nil e
 | false=>exact e
theorem BE (ha:PT X a tA):PW X (.BoolOp .Or [a] pos) tA:=by
 intro wh pins s σ H Q I h
 refine isTrue_or (thn (ha pins s σ H Q I h) fun c s1 e=>?_)
 cases c with
 | false=>exact isTrue_or_nil e
 | true=>exact e
theorem BF (ha:PT X a tA) (hb:PW X (.BoolOp .And (b :: rest) pos) tB'):PW X (.BoolOp .And (a :: b :: rest) pos) (DZ tA tB'):=by
 intro wh pins s σ H Q I h
 refine isTrue_and (thn (ha pins s σ H _ I h) fun c s1 ⟨H1,I1,q1⟩=>?_)
 cases c with
 | true=>exact hb wh pins s1 σ H1 Q I1 q1
 | false=>exact ⟨H1,I1,q1⟩
theorem De (ha:PT X a tA) (hb:PW X (.BoolOp .Or (b :: rest) pos) tB'):PW X (.BoolOp .Or (a :: b :: rest) pos) (tOr tA tB'):=by
 intro wh pins s σ H Q I h
 refine isTrue_or (thn (ha pins s σ H _ I h) fun c s1 ⟨H1,I1,q1⟩=>?_)
 cases c with
 | true=>exact ⟨H1,I1,q1⟩
 | false=>exact hb wh pins s1 σ H1 Q I1 q1
theorem BJ (ha:PT X a tA):PT X (.UnaryOp .Not a pos) (DV tA):=by
 intro pins s σ H Q I h
 exact isTrue_not (ha pins s σ H (fun c H1=>Q (!c) H1) I h)
def CV (ta tb:TE):TE:=fun σ H Q=>ta σ H fun x H1=>∃ c,x=.bl c/\if c=true then tb σ H1 Q else Q (.bl false) H1
def DU (ta tb:TE):TE:=fun σ H Q=>ta σ H fun x H1=>∃ c,x=.bl c/\if c=true then Q (.bl true) H1 else tb σ H1 Q
def CO (ta:TE):TE:=fun σ H Q=>ta σ H fun x H1=>∃ c,x=.bl c/\Q (.bl (!c)) H1
theorem BP {op} {t:TE} (h:PE X a t):PE X (.BoolOp op [a] pos) t:=fun pins s σ H Q I hw=>BoolOp_one (h pins s σ H Q I hw)
theorem BU (ha:PE X a ta) (hb:PE X (.BoolOp .And (b :: rest) pos) tb):PE X (.BoolOp .And (a :: b :: rest) pos) (CV ta tb):=by
 intro pins s σ H Q I h
 refine BoolOp_and (thn (ha pins s σ H _ I h) fun v s1 ⟨x,H1,I1,r1,q1⟩=>?_)
 obtain ⟨c,rfl,q1⟩:=q1
 cases r1
 refine wpAny_truthy_bool ?_
 cases c with
 | true=>exact hb pins s1 σ H1 Q I1 q1
 | false=>exact ⟨.bl false,H1,I1,rfl,q1⟩
theorem Dj (ha:PE X a ta) (hb:PE X (.BoolOp .Or (b :: rest) pos) tb):PE X (.BoolOp .Or (a :: b :: rest) pos) (DU ta tb):=by
 intro pins s σ H Q I h
 refine BoolOp_or (thn (ha pins s σ H _ I h) fun v s1 ⟨x,H1,I1,r1,q1⟩=>?_)
 obtain ⟨c,rfl,q1⟩:=q1
 cases r1
 refine wpAny_truthy_bool ?_
 cases c with
 | false=>exact hb pins s1 σ H1 Q I1 q1
 | true=>exact ⟨.bl true,H1,I1,rfl,q1⟩
theorem BQ (ha:PE X a ta):PE X (.UnaryOp .Not a pos) (CO ta):=by
 intro pins s σ H Q I h
 refine UnaryOp_ (thn (ha pins s σ H _ I h) fun v s1 ⟨x,H1,I1,r1,q1⟩=>?_)
 obtain ⟨c,rfl,q1⟩:=q1
 cases r1
 exact not_of (wpAny_truthy_bool ⟨.bl (!c),H1,I1,rfl,q1⟩)
def tIf (t:TT) (ta tb:TE):TE:=fun σ H Q=>t σ H fun c H1=>if c=true then ta σ H1 Q else tb σ H1 Q
theorem yt {c:Expr} (hc:PT X c tA) (ha:PE X a ta) (hb:PE X b tb):PE X (.IfExp c a b pos) (tIf tA ta tb):=by
 intro pins s σ H Q I h
 refine wpAny_IfExp (thn (hc pins s σ H _ I h) fun d s1 ⟨H1,I1,q1⟩=>?_)
 cases d with
 | true=>exact ha pins s1 σ H1 Q I1 q1
 | false=>exact hb pins s1 σ H1 Q I1 q1
end
end L2
namespace L2
open PySem PySem.Spec PyProof.Rows
def SqL (K:PySem.W.Frag) (H:Hp) (a:Addr) (xs:List V):Prop :=
 Rd H a (.lst xs) \/
  ∃ (o:Obj) (its:Array Value) (n:Nat),K.lookup a=some o/\o.cls=.type "list"/\o.dict=none/\o.data=.seq its n/\its.size<=sizeLine/\Vals xs its.toList
def SqT (K:PySem.W.Frag) (H:Hp) (a:Addr) (xs:List V):Prop :=
 Rd H a (.tup xs) \/
  ∃ (o:Obj) (its:Array Value) (n:Nat),K.lookup a=some o/\o.cls=.type "tuple"/\o.data=.seq its n/\its.size<=sizeLine/\Vals xs its.toList
def D7:Value->Option V
 | .none=>some .non
 | .bool b=>some (.bl b)
 | .int i _=>some (.int i)
 | .str x _=>some (.str x)
 | .bytes b _=>some (.byt b)
 | .float b _=>some (.flt b)
 | .ref a=>some (.ref a)
 | .type n=>some (.ty n)
 | _=>none
theorem RelV.abs {x:V} {u:Value} (r:RelV x u):D7 u=some x:=by
 cases x with
 | non=>cases r;rfl
 | bl _=>cases r;rfl
 | int _=>obtain ⟨t,rfl⟩:=r;rfl
 | str _=>obtain ⟨t,rfl⟩:=r;rfl
 | byt _=>obtain ⟨t,rfl⟩:=r;rfl
 | flt _=>obtain ⟨t,rfl⟩:=r;rfl
 | ref _=>cases r;rfl
 | ty _=>cases r;rfl
theorem RelV.inj {x y:V} {u:Value} (r:RelV x u) (q:RelV y u):x=y:=Option.some.inj (r.abs.symm.trans q.abs)
theorem Vals.inj:∀ {xs ys:List V} {us:List Value},Vals xs us->Vals ys us->xs=ys
 | _,_,_,.nil,.nil=>rfl
 | _,_,_,.cons r t,.cons r' t'=>by rw [r.inj r',Vals.inj t t']
section
variable {X:Cx} {pins:List (Addr×Obj)} {σ:St} {H:Hp} {s:Shared} {a:Addr} {xs ys:List V}
theorem SqL.of {K:PySem.W.Frag} (h:H a=some (.lst xs)):SqL K H a xs:=.inl (.inl h)
theorem SqT.of {K:PySem.W.Frag} (h:H a=some (.tup xs)):SqT K H a xs:=.inl (.inl h)
theorem Inv.list (I:Inv X pins σ H s) (h:SqL X.K H a xs):∃ its:List Value,Vals xs its/\PlainL s.heap a its.toArray/\xs.length<=sizeLine:=by
 rcases h with h | ⟨o,its,n,hk,hc,hd,hs,hz,r⟩
 . obtain ⟨z,its,n,r,e⟩:=h.ok I.hok
   exact ⟨its,r,⟨_,n,e,rfl,rfl,rfl⟩,z⟩
 . refine ⟨its.toList,r,⟨o,n,I.kIn a o hk,hc,hd,by simpa using hs⟩,?_⟩
   have e:=r.length
   simp only [Array.length_toList] at e
   omega
theorem Inv.tuple (I:Inv X pins σ H s) (h:SqT X.K H a xs):∃ its:List Value,Vals xs its/\IsTup s.heap a its.toArray/\xs.length<=sizeLine:=by
 rcases h with h | ⟨o,its,n,hk,hc,hs,hz,r⟩
 . obtain ⟨z,its,r,p⟩:=h.ok I.hok
   exact ⟨its,r,p,z⟩
 . refine ⟨its.toList,r,⟨o,I.kIn a o hk,hc,n,by simpa using hs⟩,?_⟩
   have e:=r.length
   simp only [Array.length_toList] at e
   omega
theorem Inv.list_inj (I:Inv X pins σ H s) (h:SqL X.K H a xs) (h':SqL X.K H a ys):xs=ys:=by
 obtain ⟨its,r,⟨o,n,e,_,_,d⟩,_⟩:=I.list h
 obtain ⟨its',r',⟨o',n',e',_,_,d'⟩,_⟩:=I.list h'
 rw [e] at e';cases e'
 rw [d] at d'
 injection d' with d1 _
 have:its=its':=by simpa using congrArg Array.toList d1
 subst this
 exact r.inj r'
theorem Inv.tuple_inj (I:Inv X pins σ H s) (h:SqT X.K H a xs) (h':SqT X.K H a ys):xs=ys:=by
 obtain ⟨its,r,⟨o,e,_,n,d⟩,_⟩:=I.tuple h
 obtain ⟨its',r',⟨o',e',_,n',d'⟩,_⟩:=I.tuple h'
 rw [e] at e';cases e'
 rw [d] at d'
 injection d' with d1 _
 have:its=its':=by simpa using congrArg Array.toList d1
 subst this
 exact r.inj r'
end
abbrev Cx.wish (X:Cx) (E:Value->Shared->Prop):Cx:={ X with xe:=E }
abbrev Cx.nox (X:Cx):Cx:=X.wish fun _ _=>False
theorem Cx.Ok.wish {X:Cx} (ok:X.Ok) (E:Value->Shared->Prop):(X.wish E).Ok :=
 ⟨ok.mod,ok.kind,ok.glob,ok.blt,ok.above,ok.inj,ok.has,ok.cab,ok.hd,ok.frames,ok.stk,ok.exf,ok.bs,ok.bsz,ok.noex,ok.exfs,ok.funs,ok.frf⟩
theorem Cx.Ok.unwish {X:Cx} {E:Value->Shared->Prop} (ok:(X.wish E).Ok):X.Ok :=
 ⟨ok.mod,ok.kind,ok.glob,ok.blt,ok.above,ok.inj,ok.has,ok.cab,ok.hd,ok.frames,ok.stk,ok.exf,ok.bs,ok.bsz,ok.noex,ok.exfs,ok.funs,ok.frf⟩
section
variable {X:Cx} {pins:List (Addr×Obj)} {σ:St} {H:Hp} {s:Shared} {E:Value->Shared->Prop}
theorem Inv.wish (I:Inv X pins σ H s) (E:Value->Shared->Prop):Inv (X.wish E) pins σ H s:=⟨I.ok.wish E,I.os,I.bare,I.base,I.loc,I.cell,I.free,I.freeC,I.pin,I.hok,I.len⟩
theorem Inv.unwish (I:Inv (X.wish E) pins σ H s):Inv X pins σ H s:=⟨I.ok.unwish,I.os,I.bare,I.base,I.loc,I.cell,I.free,I.freeC,I.pin,I.hok,I.len⟩
theorem SP.unwish {D:pp} {f:Flow} {s':Shared} (h:SP (X.wish E) pins D f s'):SP X pins D f s':=by
 cases f with
 | next=>obtain ⟨σ',H',I,q⟩:=h;exact ⟨σ',H',I.unwish,q⟩
 | brk=>obtain ⟨σ',H',I,q⟩:=h;exact ⟨σ',H',I.unwish,q⟩
 | cont=>obtain ⟨σ',H',I,q⟩:=h;exact ⟨σ',H',I.unwish,q⟩
 | ret u=>obtain ⟨v,σ',H',I,r,q⟩:=h;exact ⟨v,σ',H',I.unwish,r,q⟩
theorem PSs.nox {st:List Stmt} {t:TS} (h:PSs X.nox st t):PSs X st t:=fun pins s σ H D I hw =>
 wpAny_mono (h pins s σ H D (I.wish _) hw) (fun _ _ q=>q.unwish) fun _ _ z=>False.elim z
end
section
variable {X:Cx} {st:Stmt} {rest:List Stmt} {t u:TS} {e:Expr} {te:TE} {pos:Pos}
def CP:TS:=fun D σ H=>D.nx σ H
def DQ (t u:TS):TS:=fun D σ H=>t { D with nx:=u D } σ H
theorem qL:PSs X [] CP:=fun _ _ σ H _ I h=>wpAny_execs_nil ⟨σ,H,I,h⟩
theorem n6 (h1:PS X st t) (h2:PSs X rest u):PSs X (st :: rest) (DQ t u):=by
 intro pins s σ H D I h
 refine wpAny_execs_cons (thn (h1 pins s σ H { D with nx:=u D } I h) fun f s1 q=>?_)
 cases f with
 | next =>
  obtain ⟨σ',H',I',q⟩:=q
  exact h2 pins s1 σ' H' D I' q
 | ret v=>exact q
 | brk=>exact q
 | cont=>exact q
theorem qK (h1:PS X st t):PSs X [st] t:=by
 intro pins s σ H D I h
 refine wpAny_execs_cons (thn (h1 pins s σ H D I h) fun f s1 q=>?_)
 cases f with
 | next=>exact wpAny_execs_nil q
 | ret v=>exact q
 | brk=>exact q
 | cont=>exact q
theorem Inv.quiet {pins:List (Addr×Obj)} {σ:St} {H:Hp} {s:Shared} (I:Inv X pins σ H s):interactive X.env=false:=by simp [interactive,I.ok.kind]
def CQ (te:TE):TS:=fun D σ H=>te σ H fun _ H1=>D.nx σ H1
theorem qM (he:PE X e te) (hs:swapsWith e none pos.line X.env=pure false:=by rfl):PS X (.Expr e pos) (CQ te):=by
 intro pins s σ H D I h
 exact wpAny_Expr_any (thn (he pins s σ H _ I h) fun v s1 ⟨x,H1,I1,r1,q1⟩=>⟨σ,H1,I1,q1⟩) I.quiet hs
def DR (te:TE):TS:=fun D σ H=>te σ H D.rt
theorem yi (he:PE X e te):PS X (.Return (some e) pos) (DR te):=by
 intro pins s σ H D I h
 exact wpAny_Return_some (thn (he pins s σ H _ I h) fun v s1 ⟨x,H1,I1,r1,q1⟩=>⟨x,σ,H1,I1,r1,q1⟩)
def DX (c:TT) (t u:TS):TS:=fun D σ H=>c σ H fun b H1=>if b=true then t D σ H1 else u D σ H1
theorem yj {c:Expr} {a b:List Stmt} {tc:TT} (hc:PT X c tc) (ha:PSs X a t) (hb:PSs X b u):PS X (.If c a b pos) (DX tc t u):=by
 intro pins s σ H D I h
 refine wpAny_If (thn (hc pins s σ H _ I h) fun d s1 ⟨H1,I1,q1⟩=>?_)
 cases d with
 | true=>exact ha pins s1 σ H1 D I1 q1
 | false=>exact hb pins s1 σ H1 D I1 q1
def Bs:TS:=fun _ _ _=>False
theorem sC:PS X st Bs:=fun _ _ _ _ _ _ h=>h.elim
end
abbrev TG:=V->St->Hp->(St->Hp->Prop)->Prop
abbrev TGs:=List V->St->Hp->(St->Hp->Prop)->Prop
def PG (X:Cx) (target:Expr) (t:TG):Prop :=
 ∀ (pins:List (Addr×Obj)) (s:Shared) (σ:St) (H:Hp) (v:V) (u:Value) (Q:St->Hp->Prop),Inv X pins σ H s->RelV v u->t v σ H Q ->
  wpAny (model X.prog X.w) X.A (assign target X.env u) (fun _ s'=>∃ σ' H',Inv X pins σ' H' s'/\Q σ' H') X.xe s
def PGs (X:Cx) (ts:List Expr) (t:TGs):Prop :=
 ∀ (pins:List (Addr×Obj)) (s:Shared) (σ:St) (H:Hp) (vs:List V) (us:List Value) (Q:St->Hp->Prop),Inv X pins σ H s->Vals vs us->t vs σ H Q ->
  wpAny (model X.prog X.w) X.A (assignInOrder ((assignEach ts X.env).map (·.2)) us) (fun _ s'=>∃ σ' H',Inv X pins σ' H' s'/\Q σ' H') X.xe s
abbrev CD:=V->V->V->Hp->(Hp->Prop)->Prop
def DK (X:Cx) (t:CD):Prop :=
 ∀ (pins:List (Addr×Obj)) (s:Shared) (σ:St) (H:Hp) (o i v:V) (ov iv u:Value) (Q:Hp->Prop),Inv X pins σ H s->RelV o ov->RelV i iv->RelV v u->t o i v H Q ->
  wpAny (model X.prog X.w) X.A (setItem ov iv u) (fun _ s'=>∃ H',Inv X pins σ H' s'/\Q H') X.xe s
section
variable {X:Cx} {pos:Pos}
def v7 (i:Nat):TG:=fun v σ H Q=>Q (σ.set i (some v)) H
theorem jH {i:Nat} {x:Str} (hN:X.N.Nodup) (hi:X.N[i]? = some x) (hx:Loc X.env.scope x) (hf:X.fn x=true \/ X.env.scope.names.lookup x=some .local:=by first | exact .inl rfl | exact .inr rfl | assumption):PG X (.Name x pos) (v7 i):=by
 intro pins s σ H v u Q I r h
 exact wpAny_assign_Name (kB I hN hi hx r (fun s' I'=>⟨_,H,I',h⟩) hf)
def DE:TGs:=fun vs σ H Q=>vs=[]/\Q σ H
def Bb (t:TG) (u:TGs):TGs:=fun vs σ H Q=>∃ v r,vs=v :: r/\t v σ H fun σ' H'=>u r σ' H' Q
theorem qQ:PGs X [] DE:=by
 intro pins s σ H vs us Q I r h
 obtain ⟨e,h⟩:=h
 subst e
 cases r
 exact assignInOrder_nil ⟨σ,H,I,h⟩
theorem iB {e:Expr} {es:List Expr} {t:TG} {u:TGs} (h1:PG X e t) (h2:PGs X es u)
 (hs:(assignEach (e :: es) X.env).map (·.2)=assign e X.env :: (assignEach es X.env).map (·.2):=by rfl):PGs X (e :: es) (Bb t u):=by
 intro pins s σ H vs us Q I r h
 obtain ⟨v,vr,e1,h⟩:=h
 subst e1
 cases r with
 | cons r rr =>
  rw [hs]
  refine assignInOrder_cons (thn (h1 pins s σ H _ _ _ I r h) fun _ s1 ⟨σ1,H1,I1,q1⟩=>?_)
  exact h2 pins s1 σ1 H1 _ _ Q I1 rr q1
def DD (K:PySem.W.Frag) (n:Nat) (t:TGs):TG:=fun v σ H Q=>∃ a xs,v=.ref a/\SqT K H a xs/\xs.length=n/\t xs σ H Q
theorem uw {es:List Expr} {k:Nat} {t:TGs} {n:Nat} (hc:X.calm=true) (h:PGs X es t)
 (hn:(assignEach es X.env).length=n:=by rfl) (hst:(assignEach es X.env).findIdx? (·.1)=none:=by rfl):PG X (.Tuple es k pos) (DD X.K n t):=by
 intro pins s σ H v u Q I r hw
 obtain ⟨a,xs,e1,hq,hl,hw⟩:=hw
 subst e1
 cases r
 obtain ⟨its,rv,ht,hz⟩:=I.tuple hq
 refine assign_Tuple_tuple (I.ok.hd hc) ht (by simp [hn,<- hl,rv.length]) hst fun h' hx=>?_
 have I1:Inv X pins σ H { s with heap:=h' }:=I.kept (t':=s.toks) fun b o e=>hx b o (Nat.ne_of_lt (Heap.lt_size e)) e
 exact h pins _ σ H xs _ Q I1 (by simpa using rv) hw
def Aw (to ti:TE) (t:CD):TG:=fun v σ H Q=>to σ H fun o H1=>ti σ H1 fun i H2=>t o i v H2 fun H3=>Q σ H3
theorem lC {o i:Expr} {to ti:TE} {t:CD} (ho:PE X o to) (hi:PE X i ti) (hs:DK X t)
 (ha:∀ v,assign (.Subscript o i pos) X.env v=(do
  let ov <- holding [v] (eval o X.env)
  let iv <- holding [v,ov] (eval i X.env)
  standAt pos
  holding [v,ov,iv] (setItem ov iv v)
  release [v,ov,iv] []):=by intro _;rfl):PG X (.Subscript o i pos) (Aw to ti t):=by
 intro pins s σ H v u Q I r h
 rw [ha]
 refine wpAny_bind (wpAny_holding (thn (ho pins s σ H _ I h) fun ov s1 ⟨x,H1,I1,r1,q1⟩=>?_))
 refine wpAny_bind (wpAny_holding (thn (hi pins s1 σ H1 _ I1 q1) fun iv s2 ⟨y,H2,I2,r2,q2⟩=>?_))
 refine wpAny_bind (wpAny_standAt (wpAny_bind (wpAny_holding (thn (hs pins s2 σ H2 x y v ov iv u _ I2 r1 r2 r q2) fun _ s3 ⟨H3,I3,q3⟩=>?_))))
 exact wpAny_release ⟨σ,H3,I3,q3⟩
def Bt (te:TE) (g:TG):TS:=fun D σ H=>te σ H fun x H1=>g x σ H1 D.nx
theorem ut {tg e:Expr} {te:TE} {g:TG} (he:PE X e te) (hg:PG X tg g) (hs:swapsWithSole [tg] e pos.line X.env=pure false:=by rfl) (hw:swappedStores [tg] e X.env=pure none:=by rfl)
 (h1:(assignEach [tg] X.env).map (·.2)=[assign tg X.env]:=by rfl):PS X (.Assign [tg] e pos) (Bt te g):=by
 intro pins s σ H D I h
 refine wpAny_Assign_stores (thn (he pins s σ H _ I h) fun v s1 ⟨x,H1,I1,r1,q1⟩=>?_) hs hw
 rw [h1]
 exact thn (hg pins s1 σ H1 x v _ I1 r1 q1) fun _ s2 q=>q
theorem uq {i:Nat} {x:Str} {e:Expr} {te:TE} {pos':Pos} (hN:X.N.Nodup) (hi:X.N[i]? = some x) (hx:Loc X.env.scope x) (he:PE X e te) (hs:swapsWith e (some (.Name x pos')) pos.line X.env=pure false:=by rfl) (hf:X.fn x=true \/ X.env.scope.names.lookup x=some .local:=by first | exact .inl rfl | exact .inr rfl | assumption) :
 PS X (.Assign [.Name x pos'] e pos) (Bt te (v7 i)):=by
 intro pins s σ H D I h
 refine wpAny_Assign_Name (thn (he pins s σ H _ I h) fun v s1 ⟨y,H1,I1,r1,q1⟩=>?_) hs
 exact kB I1 hN hi hx r1 (fun s2 I2=>⟨_,H1,I2,q1⟩) hf
def DT (i j:Nat) (ta:TA):TS:=fun D σ H=>ta σ H fun vs H1=>∃ v w,vs=[v,w]/\D.nx ((σ.set i (some v)).set j (some w)) H1
theorem BL {i j:Nat} {x y:Str} {a b:Expr} {ta:TA} {px py pt:Pos} {kt k2 pt2} (hc:X.calm=true) (hN:X.N.Nodup) (hi:X.N[i]? = some x) (hj:X.N[j]? = some y) (hij:i ≠ j)
 (hx:X.env.scope.names.lookup x=some .local) (hy:X.env.scope.names.lookup y=some .local) (ha:PA X [a,b] ta)
 (hw:swappedStores [.Tuple [.Name x px,.Name y py] kt pt] (.Tuple [a,b] k2 pt2) X.env=pure (some [x,y]))
 (hs:swapsWithSole [.Tuple [.Name x px,.Name y py] kt pt] (.Tuple [a,b] k2 pt2) pos.line X.env=pure false:=by rfl) :
 PS X (.Assign [.Tuple [.Name x px,.Name y py] kt pt] (.Tuple [a,b] k2 pt2) pos) (DT i j ta):=by
 intro pins s σ H D I h
 rw [exec_Assign_arm]
 refine wpAny_bind (wpAny_standAt ?_)
 rw [hs]
 refine wpAny_bind (wpAny_pure ?_)
 rw [if_neg (by decide)]
 refine wpAny_bind (Tuple_ (thn (ha _ pins s σ H _ I h) fun us s1 ⟨vs,H1,I1,r1,q1⟩=>?_))
 obtain ⟨v,w,e1,q1⟩:=q1
 subst e1
 obtain ⟨u1,u2,rfl,rv,rw'⟩:∃ u1 u2,us=[u1,u2]/\RelV v u1/\RelV w u2:=by
  cases r1 with
  | cons p q =>
   cases q with
   | cons p' q' =>
    cases q'
    exact ⟨_,_,rfl,p,p'⟩
 refine wpAny_newObj_type ?_ (by show 2<=sizeLine;decide)
 have I2:Inv X pins σ H1 { s1 with heap:=s1.heap.push { cls:=.type "tuple",data:=.seq [u1,u2].toArray } }:=I1.kept (t':=s1.toks) fun b o e=>Heap.get?_push_of_some _ e
 rw [hw]
 refine wpAny_bind (wpAny_pure ?_)
 show wpAny (model X.prog X.w) X.A (do rule "assign.swapped-stores";let items <- unpackItems (.ref s1.heap.objs.size) 2 none;assignInOrder [fun v=>bindName X.env y v,fun v=>bindName X.env x v] items.reverse;pure Flow.next) _ _ _
 refine wpAny_bind (wpAny_rule (wpAny_bind (unpackItems_tuple (items:=#[u1,u2]) (I.ok.hd hc) (IsTup.new s1.heap _) fun h' hx'=>?_)))
 have I3:=I2.kept (h':=h') (t':=s1.toks) fun b o e=>hx' b o (Nat.ne_of_lt (Heap.lt_size e)) e
 show wpAny _ _ (assignInOrder [fun v=>bindName X.env y v,fun v=>bindName X.env x v] [u2,u1] >>= fun _=>pure Flow.next) _ _ _
 refine wpAny_bind (assignInOrder_cons (wpAny_bindName (kB I3 hN hj (.inl hy) rw' (fun s2 I4=>?_) (.inr hy))))
 refine assignInOrder_cons (wpAny_bindName (kB I4 hN hi (.inl hx) rv (fun s3 I5=>assignInOrder_nil (wpAny_pure ?_)) (.inr hx)))
 rw [List.set_comm _ _ (Ne.symm hij)] at I5
 exact ⟨_,H1,I5,q1⟩
end
section
variable {X:Cx} {pos:Pos}
def Bq (c:TT) (tb:TS):TS:=fun D σ H=>∃ W:Nat->St->Hp->Prop,(∃ m,W m σ H)/\∀ m σ H,W m σ H ->
 c σ H fun b H1=>if b=true then ∃ N:St->Hp->Prop,(∀ σ' H',N σ' H'->∃ m',m' < m/\W m' σ' H')/\tb { D with nx:=N,ct:=N,bk:=D.nx } σ H1 else D.nx σ H1
theorem yh {c:Expr} {body:List Stmt} {tc:TT} {tb:TS} (hp:PassesOwn (model X.prog X.w) X.A X.env X.xe) (hc:PT X c tc) (hb:PSs X body tb):PS X (.While c body [] pos) (Bq tc tb):=by
 intro pins s σ H D I h
 obtain ⟨W,⟨m0,w0⟩,turn⟩:=h
 refine wpAny_While (codeAny_whileLoop (fun n s'=>∃ σ' H',Inv X pins σ' H' s'/\W n σ' H') ?_ m0 ⟨σ,H,I,w0⟩)
 rintro n s1 ⟨σ1,H1,I1,w1⟩
 refine wpAny_passesOwn hp (thn (hc pins s1 σ1 H1 _ I1 (turn n σ1 H1 w1)) fun b s2 ⟨H2,I2,q2⟩=>?_)
 cases b with
 | true =>
  obtain ⟨N,hN,q2⟩:=q2
  rw [if_pos rfl]
  refine wpAny_passesOwn hp (thn (hb pins s2 σ1 H2 _ I2 q2) fun f s3 q3=>?_)
  cases f with
  | next =>
   obtain ⟨σ3,H3,I3,n3⟩:=q3
   obtain ⟨m',hm,w3⟩:=hN σ3 H3 n3
   exact ⟨m',hm,σ3,H3,I3,w3⟩
  | cont =>
   obtain ⟨σ3,H3,I3,n3⟩:=q3
   obtain ⟨m',hm,w3⟩:=hN σ3 H3 n3
   exact ⟨m',hm,σ3,H3,I3,w3⟩
  | brk=>exact q3
  | ret v=>exact q3
 | false =>
  rw [if_neg Bool.false_ne_true]
  exact wpAny_execs_nil ⟨σ1,H2,I2,q2⟩
end
structure It where
 go:Nat->Hp->Prop
 yld:Nat->Hp->V->Hp->Prop
 stop:Nat->Hp->Prop
def jQ (X:Cx) (pins:List (Addr×Obj)) (H:Hp) (b:Addr):Prop :=
 H b=none/\b ≠ X.env.locals/\b ∉ X.fs/\(b∈X.ex \/ X.s₀.heap.objs.size<=b)/\(∀ x c,X.env.cells.lookup x=some c->c ≠ b)/\∀ p∈X.pn++pins,p.1 ≠ b
theorem Inv.fpOk {X:Cx} {pins:List (Addr×Obj)} {σ:St} {H H':Hp} {s:Shared} {b:Addr} (I:Inv X pins σ H s) (hb:s.heap.objs.size<=b) (hn:H' b=none):jQ X pins H' b:=by
 refine ⟨hn,Nat.ne_of_gt (Nat.lt_of_lt_of_le I.lt hb),I.nofs hb,.inr (Nat.le_trans I.sz hb),fun x c e z=>?_,fun p hp z=>?_⟩
 . obtain ⟨v,q⟩:=I.cell x c e
   exact absurd (Nat.lt_of_lt_of_le q.lt (by rw [z];exact hb)) (Nat.lt_irrefl _)
 . exact absurd (Nat.lt_of_lt_of_le (Heap.lt_size (I.pin p hp).1) (by rw [z];exact hb)) (Nat.lt_irrefl _)
structure uZ (P:Program) (w:World) (K:PySem.W.Frag) (tg:Expr) (J:It) (fp:List Addr) (it:Addr) (tn:Nat->Heap->Prop):Prop where
 mem:it∈fp
 obj:∀ i h,tn i h->∀ b∈fp,∃ o,h.get? b=some o/\∀ v,o.data ≠ .cell v
 keep:∀ i h h',tn i h->(∀ b∈fp,∀ o,h.get? b=some o->h'.get? b=some o)->tn i h'
 item:∀ (X:Cx),X.prog=P->X.w=w->X.K=K->X.calm=true->∀ (i:Nat) (pins:List (Addr×Obj)) (s:Shared) (σ:St) (H:Hp) (E:Value->Shared->Prop),Inv X pins σ H s->(∀ b∈fp,jQ X pins H b)->tn i s.heap->J.go i H ->
  wpAny (model P w) X.A (pyNext (.ref it)) (fun r s1=>∃ u,r=some u /\
   wpAny (model P w) X.A (letOwnedTupleGo tg (.ref it) u) (fun _ s2=>∃ x H',Inv X pins σ H' s2/\RelV x u/\J.yld i H x H'/\tn (i+1) s2.heap/\∀ b∈fp,H' b=none) E s1) E s
 done:∀ (X:Cx),X.prog=P->X.w=w->X.K=K->X.calm=true->∀ (i:Nat) (pins:List (Addr×Obj)) (s:Shared) (σ:St) (H:Hp) (E:Value->Shared->Prop),Inv X pins σ H s->(∀ b∈fp,jQ X pins H b)->tn i s.heap->J.stop i H ->
  wpAny (model P w) X.A (pyNext (.ref it)) (fun r s1=>r=none/\Inv X pins σ H s1) E s
 self:∀ (A:Around) (i:Nat) (s:Shared) (Q:Value->Shared->Prop) (E:Value->Shared->Prop),tn i s.heap->Q (.ref it) s->wpAny (model P w) A (pyIter (.ref it)) Q E s
abbrev TI:=St->Hp->(It->Hp->Prop)->Prop
def PIE (X:Cx) (pins:List (Addr×Obj)) (σ:St) (tg:Expr) (R:It->Hp->Prop) (itv:Value) (s2:Shared):Prop :=
 ∃ (it:Addr) (fp:List Addr) (tn:Nat->Heap->Prop) (J:It) (H':Hp),itv=.ref it/\Inv X pins σ H' s2/\uZ X.prog X.w X.K tg J fp it tn/\tn 0 s2.heap/\(∀ b∈fp,jQ X pins H' b)/\R J H'
def PI (X:Cx) (tg iter:Expr) (wi:TI):Prop :=
 ∀ (pins:List (Addr×Obj)) (s:Shared) (σ:St) (H:Hp) (R:It->Hp->Prop),Inv X pins σ H s->wi σ H R ->
  wpAny (model X.prog X.w) X.A (eval iter X.env) (fun v s1=>wpAny (model X.prog X.w) X.A (pyIter v) (PIE X pins σ tg R) X.xe s1) X.xe s
theorem Ba {M:Model} {A:Around} {E:Value->Shared->Prop} {s:Shared} {tg:Expr} {it:Addr} {u:Value} {o:Obj} {n:String} {vs:Array Value} {Q:Unit->Shared->Prop} (ho:s.heap.get? it=some o) (hc:o.cls=.type n) (hd:o.data=.fields vs)
 (hn:["enumerate","zip","dict_itemiterator","dict_reverseitemiterator","odict_iterator","itertools.zip_longest","itertools.pairwise"].contains n=false) (hQ:Q () s):wpAny M A (letOwnedTupleGo tg (.ref it) u) Q E s:=by
 unfold letOwnedTupleGo
 cases tg <;> first
  | exact wpAny_pure hQ
  | (cases u <;> first
   | exact wpAny_pure hQ
   | (refine wpAny_bind (wpAny_load ho ?_)
      rw [hc,hd]
      show wpAny M A (if (["enumerate","zip","dict_itemiterator","dict_reverseitemiterator","odict_iterator","itertools.zip_longest","itertools.pairwise"].contains n && vs[0]? == some (rawInt _))=true then _ else _) Q E s
      rw [if_neg (by intro h;rw [hn,Bool.false_and] at h;cases h)]
      exact wpAny_pure hQ))
def Itl (K:PySem.W.Frag) (a:Addr):It :=
 ⟨fun i H=>∃ xs x,SqL K H a xs/\xs[i]? = some x,fun i H x H'=>H'=H/\∀ xs,SqL K H a xs->xs[i]? = some x,fun i H=>∃ xs,SqL K H a xs/\xs.length<=i⟩
def Itr (lo:Int) (n:Nat):It:=⟨fun i _=>i < n,fun i H x H'=>H'=H/\x=.int (lo+i),fun i _=>n<=i⟩
theorem wQ {P:Program} {w:World} {K:PySem.W.Frag} {tg:Expr} (a it:Addr):uZ P w K tg (Itl K a) [it] it (fun i h=>h.IsListIter it a i) where
 mem:=by simp
 obj:=fun i h st b hb=>by
  have e:b=it:=by simpa using hb
  subst e
  obtain ⟨o,e,c,d⟩:=st
  exact ⟨o,e,fun v z=>by rw [d] at z;cases z⟩
 keep:=fun i h h' st k=>st.at fun o e=>k it (by simp) o e
 item:=by
  intro X hP hw hK hc i pins s σ H E I hf st hg
  subst hP hw hK
  obtain ⟨xs,x,hq,hx⟩:=hg
  obtain ⟨its,rv,p,hz⟩:=I.list hq
  obtain ⟨u,hu,ru⟩:=rv.get hx
  obtain ⟨f0,f1,f2,f3,f4,f5⟩:=hf it (by simp)
  refine wpAny_pyNext_list_item st p.isList (x:=u) (by simpa using hu) fun h' st' sb=>?_
  have I1:Inv X pins σ H { s with heap:=h' }:=I.turned (t':=s.toks) (fun b o hb e=>(sb.2 b hb).trans e) f0 f1 f3 f4 f5
  obtain ⟨o,e,c,d⟩:=id st'
  exact ⟨u,rfl,Ba (s:={ s with heap:=h' }) e c d (by decide) ⟨x,H,I1,ru,⟨rfl,fun ys hy=>by rw [I.list_inj hy hq];exact hx⟩,st',fun b hb=>(hf b hb).1⟩⟩
 done:=by
  intro X hP hw hK hc i pins s σ H E I hf st hg
  subst hP hw hK
  obtain ⟨xs,hq,hx⟩:=hg
  obtain ⟨its,rv,p,hz⟩:=I.list hq
  obtain ⟨f0,f1,f2,f3,f4,f5⟩:=hf it (by simp)
  have hl:=rv.length
  exact wpAny_pyNext_list_end (I.ok.hd hc) st p.isList (by simp;omega) fun h' eb=>⟨rfl,I.turned (t':=s.toks) (fun b o hb e=>eb b o hb e) f0 f1 f3 f4 f5⟩
 self:=fun _ _ _ _ _ st h=>wpAny_pyIter_listiter st h
theorem ug {P:Program} {w:World} {K:PySem.W.Frag} {tg:Expr} (it:Addr) (lo:Int) (n:Nat):uZ P w K tg (Itr lo n) [it] it (fun i h=>IsRangeIter h it (lo+(i:Nat)*1) ((n:Int) - (i:Nat)) 1) where
 mem:=by simp
 obj:=fun i h st b hb=>by
  have e:b=it:=by simpa using hb
  subst e
  exact ⟨_,st,fun v z=>by
   have z':Data.fields _=Data.cell v:=z
   cases z'⟩
 keep:=fun i h h' st k=>k it (by simp) _ st
 item:=by
  intro X hP hw hK hc i pins s σ H E I hf st hg
  subst hP hw hK
  obtain ⟨f0,f1,f2,f3,f4,f5⟩:=hf it (by simp)
  have W:=Walks.range (prog:=X.prog) (w:=X.w) (I.ok.hd hc) it lo 1 n
  refine W.item i s _ _ hg st fun v h' tk hv st' kk=>?_
  obtain ⟨t,rfl⟩:=hv
  have I1:Inv X pins σ H { s with heap:=h',toks:=tk }:=I.turned (fun b o hb e=>kk b o (by simpa using hb) e) f0 f1 f3 f4 f5
  refine ⟨_,rfl,Ba (s:={ s with heap:=h',toks:=tk }) (n:="range_iterator") st' rfl rfl (by decide) ⟨.int (lo+i),H,I1,⟨t,?_⟩,⟨rfl,rfl⟩,st',fun b hb=>(hf b hb).1⟩⟩
  rw [Int.mul_one]
 done:=by
  intro X hP hw hK hc i pins s σ H E I hf st hg
  subst hP hw hK
  obtain ⟨f0,f1,f2,f3,f4,f5⟩:=hf it (by simp)
  exact wpAny_pyNext_range_end (I.ok.hd hc) st (by have:n<=i:=hg;omega) fun h' eb=>⟨rfl,I.turned (t':=s.toks) (fun b o hb e=>eb b o hb e) f0 f1 f3 f4 f5⟩
 self:=fun _ _ _ _ _ st h=>wpAny_pyIter_rangeiter st h
end L2
namespace L2
open PySem PySem.Spec PyProof.Rows
section
variable {X:Cx} {tg:Expr}
def DB (K:PySem.W.Frag) (tl:TE):TI:=fun σ H R=>tl σ H fun x H1=>∃ a,x=.ref a/\(∃ xs,SqL K H1 a xs)/\R (Itl K a) H1
theorem vD {l:Expr} {tl:TE} (hl:PE X l tl):PI X tg l (DB X.K tl):=by
 intro pins s σ H R I h
 refine thn (hl pins s σ H _ I h) fun v s1 ⟨x,H1,I1,r1,q1⟩=>?_
 obtain ⟨a,e,⟨xs,hq⟩,q⟩:=q1
 subst e
 cases r1
 obtain ⟨its,rv,p,hz⟩:=I1.list hq
 refine wpAny_pyIter_list p.isList ?_
 refine ⟨s1.heap.objs.size,[s1.heap.objs.size],_,_,H1,rfl,I1.kept (t':=s1.toks) fun b o e=>Heap.get?_push_of_some _ e,wQ a _,⟨_,Heap.get?_push_size _ rfl,rfl,rfl⟩,fun b hb=>?_,q⟩
 have e:b=s1.heap.objs.size:=by simpa using hb
 subst e
 exact I1.fpOk (Nat.le_refl _) (I1.hok.fresh (Nat.le_refl _))
theorem sy {pins:List (Addr×Obj)} {σ:St} {H:Hp} {s:Shared} {R:It->Hp->Prop} {E:Value->Shared->Prop} {lo hi:Int} {t u v:Tok} {tk:Nat} (I:Inv X pins σ H s) (h1:-(2 ^ 62)<=lo) (h2:lo < 2 ^ 62) (h3:-(2 ^ 62)<=hi) (h4:hi < 2 ^ 62)
 (q:R (Itr lo (hi - lo).toNat) H):wpAny (model X.prog X.w) X.A (pyIter (.ref s.heap.objs.size)) (PIE X pins σ tg R) E { s with heap:=s.heap.push { cls:=.type "range",data:=.fields #[.int lo t,.int hi u,.int 1 v] },toks:=tk }:=by
 refine wpAny_pyIter_range (IsRange.new ..) (small_one h1 h2 h3 h4) ?_
 have I1:Inv X pins σ H { s with heap:=s.heap.push { cls:=.type "range",data:=.fields #[.int lo t,.int hi u,.int 1 v] },toks:=tk }:=I.kept fun b o e=>Heap.get?_push_of_some _ e
 refine ⟨(s.heap.push { cls:=.type "range",data:=.fields #[.int lo t,.int hi u,.int 1 v] }).objs.size,[(s.heap.push { cls:=.type "range",data:=.fields #[.int lo t,.int hi u,.int 1 v] }).objs.size],_,_,H,rfl,
  I1.kept (t':=tk) fun b o e=>Heap.get?_push_of_some _ e,ug _ lo (hi - lo).toNat,?_,fun b hb=>?_,q⟩
 . have e1:lo+((0:Nat):Int)*1=lo:=by simp
   have e2:(((hi - lo).toNat:Nat):Int) - ((0:Nat):Int)=Builtin.Range.rangeSize lo hi 1:=by rw [rangeSize_one];split <;> omega
   show IsRangeIter _ _ (lo+((0:Nat):Int)*1) ((((hi - lo).toNat:Nat):Int) - ((0:Nat):Int)) 1
   rw [e1,e2]
   exact Heap.get?_push_size _ rfl
 . have e:b=(s.heap.push { cls:=.type "range",data:=.fields #[.int lo t,.int hi u,.int 1 v] }).objs.size:=by simpa using hb
   subst e
   exact I1.fpOk (Nat.le_refl _) (I1.hok.fresh (Nat.le_refl _))
def Dz (ta:TA):TI:=fun σ H R=>ta σ H fun vs H1=>∃ j:Int,vs=[.int j]/\-(2 ^ 62)<=j/\j < 2 ^ 62/\R (Itr 0 j.toNat) H1
def Dx (ta:TA):TI:=fun σ H R=>ta σ H fun vs H1=>∃ i j:Int,vs=[.int i,.int j]/\(-(2 ^ 62)<=i/\i < 2 ^ 62/\-(2 ^ 62)<=j/\j < 2 ^ 62)/\R (Itr i (j - i).toNat) H1
theorem pX {a:Expr} {ta:TA} {p pos:Pos} (hg:Gl X "range") (hm:X.mg "range" = none) (ha:PA X [a] ta) (hs:starEach [a] X.env=[(false,eval a X.env)]:=by rfl):PI X tg (.Call (.Name "range" p) [a] [] pos) (Dz ta):=by
 intro pins s σ H R I h
 refine Call_ (oC I hg hm boot_range (PyProof.Rows.callWith_type1 (thn (ha pos pins s σ H _ I h) fun us s1 ⟨vs,H1,I1,r1,q1⟩=>?_) hs rfl))
 obtain ⟨j,e,q1,q2,q⟩:=q1
 subst e
 cases r1 with
 | cons r rr =>
  cases rr
  obtain ⟨t,rfl⟩:=r
  exact call_range_1 (sy I1 (by omega) (by omega) q1 q2 (by simpa using q))
theorem w9 {a b:Expr} {ta:TA} {p pos:Pos} (hg:Gl X "range") (hm:X.mg "range" = none) (ha:PA X [a,b] ta) (hs:starEach [a,b] X.env=[(false,eval a X.env),(false,eval b X.env)]:=by rfl) (hs2:starEach [b] X.env=[(false,eval b X.env)]:=by rfl) :
 PI X tg (.Call (.Name "range" p) [a,b] [] pos) (Dx ta):=by
 intro pins s σ H R I h
 refine Call_ (oC I hg hm boot_range (PyProof.Rows.callWith_type1 (thn (ha pos pins s σ H _ I h) fun us s1 ⟨vs,H1,I1,r1,q1⟩=>?_) (by rw [hs,hs2]) (by rw [hs2];rfl)))
 obtain ⟨i,j,e,⟨q1,q2,q3,q4⟩,q⟩:=q1
 subst e
 cases r1 with
 | cons r rr =>
  cases rr with
  | cons r' rr =>
   cases rr
   obtain ⟨t,rfl⟩:=r
   obtain ⟨t',rfl⟩:=r'
   exact call_range_2 (sy I1 q1 q2 q3 q4 q)
def DY (wi:TI) (g:TG) (tb:TS):TS:=fun D σ H=>wi σ H fun J H1=>∃ W:Nat->Nat->St->Hp->Prop,(∃ m,W 0 m σ H1)/\∀ i m σ H,W i m σ H ->
 (J.stop i H/\D.nx σ H) \/ (J.go i H/\∃ N:St->Hp->Prop,(∀ σ' H',N σ' H'->∃ m',m' < m/\W (i+1) m' σ' H')/\∀ x H',J.yld i H x H'->g x σ H' fun σ2 H2=>tb { D with nx:=N,ct:=N,bk:=D.nx } σ2 H2)
def qO (fp:List Addr) (h:Heap):List (Addr×Obj):=fp.filterMap fun b=>(h.get? b).map fun o=>(b,o)
theorem fL {fp:List Addr} {h:Heap} {b:Addr} {o:Obj} (hb:b∈fp) (e:h.get? b=some o):(b,o)∈qO fp h:=List.mem_filterMap.mpr ⟨b,hb,by rw [e];rfl⟩
theorem xl {fp:List Addr} {h:Heap} {p:Addr×Obj} (hp:p∈qO fp h):p.1∈fp/\h.get? p.1=some p.2:=by
 obtain ⟨b,hb,e⟩:=List.mem_filterMap.mp hp
 cases q:h.get? b with
 | none=>rw [q] at e;cases e
 | some o =>
  rw [q] at e
  have e':(b,o)=p:=Option.some.inj e
  subst e'
  exact ⟨hb,q⟩
theorem Inv.pinned {pins:List (Addr×Obj)} {σ:St} {H:Hp} {s:Shared} {fp:List Addr} (I:Inv X pins σ H s) (hf:∀ b∈fp,jQ X pins H b) (ho:∀ b∈fp,∃ o,s.heap.get? b=some o/\∀ v,o.data ≠ .cell v):Inv X (pins++qO fp s.heap) σ H s :=
 I.pins_of fun p hp=>(Zo.mp hp).elim (fun z=>I.pin p (List.mem_append_right _ z)) fun z=>by
  obtain ⟨hb,e⟩:=xl z
  obtain ⟨f0,f1,f2,_⟩:=hf p.1 hb
  obtain ⟨o,e',d⟩:=ho p.1 hb
  rw [e] at e';cases e'
  exact ⟨e,f0,f1,f2,d⟩
theorem Inv.unpinned {pins pl:List (Addr×Obj)} {σ:St} {H:Hp} {s:Shared} (I:Inv X (pins++pl) σ H s):Inv X pins σ H s:=I.pins_of fun p hp=>I.pin p (List.mem_append_right _ (List.mem_append_left _ hp))
theorem ur {iter:Expr} {body:List Stmt} {wi:TI} {g:TG} {tb:TS} {pos:Pos} (hp:PassesOwn (model X.prog X.w) X.A X.env X.xe) (hc:X.calm=true) (hi:PI X tg iter wi) (hg:PG X tg g) (hb:PSs X body tb)
 (hs:∀ x,foldedSetIterable iter X.env x=pure x:=by intro _;rfl):PS X (.For tg iter body [] pos) (DY wi g tb):=by
 intro pins s σ H D I h
 refine wpAny_For (thn (hi pins s σ H _ I h) fun v s1 h1=>thn h1 fun itv s2 h2=>?_) hs
 obtain ⟨it,fp,tn,J,H2,e,I2,T,st2,f2,W,⟨m0,w0⟩,turn⟩:=h2
 subst e
 have stat:∀ {H':Hp},(∀ b∈fp,H' b=none)->∀ b∈fp,jQ X pins H' b:=fun hn b hb=>⟨hn b hb,(f2 b hb).2⟩
 refine codeAny_forLoop_any (fun n s'=>∃ i σ' H',Inv X pins σ' H' s'/\tn i s'.heap/\(∀ b∈fp,H' b=none)/\W i n σ' H') ?_ m0 ⟨0,σ,H2,I2,st2,fun b hb=>(f2 b hb).1,w0⟩
 rintro n s3 ⟨i,σ3,H3,I3,st3,fr3,w3⟩
 rcases turn i n σ3 H3 w3 with ⟨stop,qn⟩ | ⟨go,N,hN,step⟩
 . refine wpAny_passesOwn hp (thn (T.done X rfl rfl rfl hc i pins s3 σ3 H3 X.xe I3 (stat fr3) st3 stop) fun r s4 ⟨hr,I4⟩=>?_)
   subst hr
   exact wpAny_execs_nil ⟨σ3,H3,I4,qn⟩
 . refine wpAny_passesOwn hp (thn (T.item X rfl rfl rfl hc i pins s3 σ3 H3 X.xe I3 (stat fr3) st3 go) fun r s4 ⟨u,hr,h4⟩=>?_)
   subst hr
   refine wpAny_passesOwn hp (thn h4 fun _ s5 ⟨x,H5,I5,r5,y5,st5,fr5⟩=>?_)
   have I5':=I5.pinned (stat fr5) (T.obj _ _ st5)
   refine wpAny_passesOwn hp (thn (hg _ s5 σ3 H5 x u _ I5' r5 (step x H5 y5)) fun _ s6 ⟨σ6,H6,I6,q6⟩=>?_)
   refine wpAny_passesOwn hp (thn (hb _ s6 σ6 H6 _ I6 q6) fun f s7 q7=>?_)
   have again:∀ {σ7:St} {H7:Hp},Inv X (pins++qO fp s5.heap) σ7 H7 s7->N σ7 H7->∃ m,m < n/\∃ i σ' H',Inv X pins σ' H' s7/\tn i s7.heap/\(∀ b∈fp,H' b=none)/\W i m σ' H':=fun {σ7 H7} I7 n7=>by
    obtain ⟨m',hm,w7⟩:=hN σ7 H7 n7
    refine ⟨m',hm,i+1,σ7,H7,I7.unpinned,T.keep _ _ _ st5 fun b hb o e=>(I7.pin (b,o) (List.mem_append_right _ (List.mem_append_right _ (fL hb e)))).1,fun b hb=>?_,w7⟩
    obtain ⟨o,e,d⟩:=T.obj _ _ st5 b hb
    exact (I7.pin (b,o) (List.mem_append_right _ (List.mem_append_right _ (fL hb e)))).2.1
   cases f with
   | next=>obtain ⟨σ7,H7,I7,n7⟩:=q7;exact again I7 n7
   | cont=>obtain ⟨σ7,H7,I7,n7⟩:=q7;exact again I7 n7
   | brk=>obtain ⟨σ7,H7,I7,q7⟩:=q7;exact ⟨σ7,H7,I7.unpinned,q7⟩
   | ret v=>obtain ⟨x7,σ7,H7,I7,r7,q7⟩:=q7;exact ⟨x7,σ7,H7,I7.unpinned,r7,q7⟩
end
end L2
namespace L2
open PySem PySem.Spec PyProof.Rows
abbrev R2:=V->V->Hp->VK->Prop
def OpR (X:Cx) (f:Value->Value->Sem Value) (r:R2):Prop :=
 ∀ (pins:List (Addr×Obj)) (s:Shared) (σ:St) (H:Hp) (x y:V) (v u:Value) (Q:VK),Inv X pins σ H s->RelV x v->RelV y u->r x y H Q ->
  wpAny (model X.prog X.w) X.A (f v u) (EP X pins σ Q) X.xe s
def UnR (X:Cx) (f:Value->Sem Value) (r:V->Hp->VK->Prop):Prop :=
 ∀ (pins:List (Addr×Obj)) (s:Shared) (σ:St) (H:Hp) (x:V) (v:Value) (Q:VK),Inv X pins σ H s->RelV x v->r x H Q ->
  wpAny (model X.prog X.w) X.A (f v) (EP X pins σ Q) X.xe s
def ib (X:Cx) (f:Value) (r:List V->Hp->VK->Prop):Prop :=
 ∀ (pins:List (Addr×Obj)) (s:Shared) (σ:St) (H:Hp) (xs:List V) (us:List Value) (Q:VK),Inv X pins σ H s->Vals xs us->r xs H Q ->
  wpAny (model X.prog X.w) X.A (call f us) (EP X pins σ Q) X.xe s
def tOp (r:R2) (ta tb:TE):TE:=fun σ H Q=>ta σ H fun x H1=>tb σ H1 fun y H2=>r x y H2 Q
def tUn (r:V->Hp->VK->Prop) (ta:TE):TE:=fun σ H Q=>ta σ H fun x H1=>r x H1 Q
def rI (C:Int->Int->Prop) (g:Int->Int->V):R2:=fun x y H Q=>∃ i j,x=.int i/\y=.int j/\C i j/\Q (g i j) H
def rI0 (g:Int->Int->V):R2:=fun x y H Q=>∃ i j,x=.int i/\y=.int j/\Q (g i j) H
def rU (g:Int->V):V->Hp->VK->Prop:=fun x H Q=>∃ i,x=.int i/\Q (g i) H
section
variable {X:Cx} {a b c:Expr} {ta tb tc:TE} {pos:Pos}
theorem CA (ha:PE X a ta) (hb:PE X b tb) {pins:List (Addr×Obj)} {s:Shared} {σ:St} {H:Hp} {R:V->V->Hp->Prop} (I:Inv X pins σ H s)
 (h:ta σ H fun x H1=>tb σ H1 fun y H2=>R x y H2) {Q:Value->Shared->Prop} {f:Value->Value->Sem Value}
 (hf:∀ v u s2 x y H2,Inv X pins σ H2 s2->RelV x v->RelV y u->R x y H2->wpAny (model X.prog X.w) X.A (f v u) Q X.xe s2) :
 wpAny (model X.prog X.w) X.A (eval a X.env) (fun v s₁=>wpAny (model X.prog X.w) X.A (eval b X.env) (fun u s₂=>wpAny (model X.prog X.w) X.A (f v u) Q X.xe s₂) X.xe s₁) X.xe s:=by
 refine thn (ha pins s σ H _ I h) fun v s1 ⟨x,H1,I1,r1,q1⟩=>?_
 refine thn (hb pins s1 σ H1 _ I1 q1) fun u s2 ⟨y,H2,I2,r2,q2⟩=>?_
 exact hf v u s2 x y H2 I2 r1 r2 q2
theorem yq {op:Operator} {r:R2} (ho:OpR X (binaryOp op) r) (ha:PE X a ta) (hb:PE X b tb):PE X (.BinOp a op b pos) (tOp r ta tb):=by
 intro pins s σ H Q I h
 exact wpAny_BinOp (CA ha hb I h fun v u s2 x y H2 I2 rx ry q=>ho pins s2 σ H2 x y v u Q I2 rx ry q)
theorem Di {op:UnaryOp} {r:V->Hp->VK->Prop} (ho:UnR X (unaryOp op) r) (ha:PE X a ta):PE X (.UnaryOp op a pos) (tUn r ta):=by
 intro pins s σ H Q I h
 exact UnaryOp_ (thn (ha pins s σ H _ I h) fun v s1 ⟨x,H1,I1,r1,q1⟩=>ho pins s1 σ H1 x v Q I1 r1 q1)
theorem opI {f:Value->Value->Sem Value} {C:Int->Int->Prop} {g:Int->Int->Int}
 (rule:∀ (i j:Int) (t u:Tok) (s:Shared) (Q:Value->Shared->Prop) (E:Value->Shared->Prop),C i j->Q (.int (g i j) s.toks) { s with toks:=s.toks+1 }->wpAny (model X.prog X.w) X.A (f (.int i t) (.int j u)) Q E s) :
 OpR X f (rI C fun i j=>.int (g i j)):=by
 intro pins s σ H x y v u Q I rx ry h
 obtain ⟨i,j,rfl,rfl,hc,q⟩:=h
 obtain ⟨t,rfl⟩:=rx
 obtain ⟨t',rfl⟩:=ry
 exact rule i j t t' s _ _ hc ⟨.int (g i j),H,I.tok _,⟨_,rfl⟩,q⟩
theorem Dn {f:Value->Value->Sem Value} {g:Int->Int->Int}
 (rule:∀ (i j:Int) (t u:Tok) (s:Shared) (Q:Value->Shared->Prop) (E:Value->Shared->Prop),Q (.int (g i j) s.toks) { s with toks:=s.toks+1 }->wpAny (model X.prog X.w) X.A (f (.int i t) (.int j u)) Q E s) :
 OpR X f (rI0 fun i j=>.int (g i j)):=by
 intro pins s σ H x y v u Q I rx ry h
 obtain ⟨i,j,rfl,rfl,q⟩:=h
 obtain ⟨t,rfl⟩:=rx
 obtain ⟨t',rfl⟩:=ry
 exact rule i j t t' s _ _ ⟨.int (g i j),H,I.tok _,⟨_,rfl⟩,q⟩
theorem Do {f:Value->Value->Sem Value} {g:Int->Int->Bool}
 (rule:∀ (i j:Int) (t u:Tok) (s:Shared) (Q:Value->Shared->Prop) (E:Value->Shared->Prop),Q (.bool (g i j)) s->wpAny (model X.prog X.w) X.A (f (.int i t) (.int j u)) Q E s) :
 OpR X f (rI0 fun i j=>.bl (g i j)):=by
 intro pins s σ H x y v u Q I rx ry h
 obtain ⟨i,j,rfl,rfl,q⟩:=h
 obtain ⟨t,rfl⟩:=rx
 obtain ⟨t',rfl⟩:=ry
 exact rule i j t t' s _ _ ⟨.bl (g i j),H,I,rfl,q⟩
def mI (i j:Int):Prop:=0<=j/\j<=1000000/\i.natAbs < 2 ^ 64
def CMul (i j:Int):Prop:=(-(2 ^ 64) < i/\i < 2 ^ 64) \/ (-(2 ^ 64) < j/\j < 2 ^ 64)
theorem CMul.ok {i j:Int} (h:CMul i j):IntMulOk i j:=by
 rcases h with ⟨h1,h2⟩ | ⟨h1,h2⟩
 . exact .of_left (intBits_le_64 h1 h2)
 . exact .of_right (intBits_le_64 h1 h2)
theorem op_add:OpR X (binaryOp .Add) (rI0 fun i j=>.int (i+j)):=Dn fun _ _ _ _ _ _ _ q=>add_int q
theorem BY:OpR X (binaryOp .Sub) (rI0 fun i j=>.int (i - j)):=Dn fun _ _ _ _ _ _ _ q=>sub_int q
theorem B5:OpR X (binaryOp .Mod) (rI (fun _ j=>0 < j) fun i j=>.int (i % j)):=opI fun i j _ _ _ _ _ hc q=>by
 have h1:(0:Int) < j:=hc
 exact mod_int' (by omega) (by rw [Int.fmod_eq_emod_of_nonneg i (by omega)];exact q)
theorem BZ:OpR X (binaryOp .Pow) (rI mI fun i j=>.int (i ^ j.toNat)):=opI fun _ _ _ _ _ _ _ hc q=>pow_int_small hc.1 hc.2.1 hc.2.2 q
theorem unI {f:Value->Sem Value} {g:Int->Int}
 (rule:∀ (i:Int) (t:Tok) (s:Shared) (Q:Value->Shared->Prop) (E:Value->Shared->Prop),Q (.int (g i) s.toks) { s with toks:=s.toks+1 }->wpAny (model X.prog X.w) X.A (f (.int i t)) Q E s) :
 UnR X f (rU fun i=>.int (g i)):=by
 intro pins s σ H x v Q I rx h
 obtain ⟨i,rfl,q⟩:=h
 obtain ⟨t,rfl⟩:=rx
 exact rule i t s _ _ ⟨.int (g i),H,I.tok _,⟨_,rfl⟩,q⟩
theorem Bm:UnR X (unaryOp .USub) (rU fun i=>.int (-i)):=unI fun _ _ _ _ _ q=>neg_int q
end
section
variable {X:Cx} {a b c:Expr} {ta tb tc:TE} {pos:Pos}
theorem zg {pins:List (Addr×Obj)} {σ:St} {H:Hp} {s:Shared} {Q:VK} {k k':Bool} (I:Inv X pins σ H s) (q:Q (.bl k) H) (e:k=k'):EP X pins σ Q (.bool k') s:=by
 subst e
 exact ⟨.bl k,H,I,rfl,q⟩
theorem AZ:OpR X (compareOp .Lt) (rI0 fun i j=>.bl (decide (i < j))):=Do fun _ _ _ _ _ _ _ q=>lt_int q
theorem A4:OpR X (compareOp .Gt) (rI0 fun i j=>.bl (decide (j < i))):=Do fun _ _ _ _ _ _ _ q=>gt_int q
theorem B6:OpR X (compareOp .Is) (fun x y H Q=>y=.non/\Q (.bl (decide (x=.non))) H):=by
 intro pins s σ H x y v u Q I rx ry h
 obtain ⟨rfl,q⟩:=h
 cases ry
 refine is_none_gen (zg I q ?_)
 cases x <;> first
  | (cases rx;rfl)
  | (obtain ⟨t,rfl⟩:=rx;rfl)
theorem Aa:OpR X (compareOp .IsNot) (fun x y H Q=>y=.non/\Q (.bl (!decide (x=.non))) H):=by
 intro pins s σ H x y v u Q I rx ry h
 obtain ⟨rfl,q⟩:=h
 cases ry
 refine isnot_none_gen (zg I q ?_)
 cases x <;> first
  | (cases rx;rfl)
  | (obtain ⟨t,rfl⟩:=rx;rfl)
theorem OpR.or {f:Value->Value->Sem Value} {r r':R2} (h:OpR X f r) (h':OpR X f r'):OpR X f (fun x y H Q=>r x y H Q \/ r' x y H Q):=by
 intro pins s σ H x y v u Q I rx ry q
 rcases q with q | q
 . exact h pins s σ H x y v u Q I rx ry q
 . exact h' pins s σ H x y v u Q I rx ry q
theorem gd (b:Expr) {op:CmpOp} (h:op ≠ .In:=by decide) (h2:op ≠ .NotIn:=by decide):behindInMarks op b=false:=by
 have e1:(op == CmpOp.In)=false:=by cases op <;> first | rfl | exact absurd rfl h
 have e2:(op == CmpOp.NotIn)=false:=by cases op <;> first | rfl | exact absurd rfl h2
 cases b <;> simp [behindInMarks,e1,e2]
theorem z7 {op:CmpOp} {r:R2} (ho:OpR X (compareOp op) r) (ha:PE X a ta) (hb:PE X b tb) (hm:behindInMarks op b=false):PE X (.Compare a [op] [b] pos) (tOp r ta tb):=by
 intro pins s σ H Q I h
 exact wpAny_Compare1 (CA ha hb I h fun v u s2 x y H2 I2 rx ry q=>ho pins s2 σ H2 x y v u Q I2 rx ry q) hm
def CN (t:TE):TT:=fun σ H Q=>t σ H fun x H'=>∃ k,x=.bl k/\Q k H'
theorem zS {op:CmpOp} {r:R2} (ho:OpR X (compareOp op) r) (ha:PE X a ta) (hb:PE X b tb) (hm:behindInMarks op b=false):PT X (.Compare a [op] [b] pos) (CN (tOp r ta tb)):=by
 intro pins s σ H Q I h
 refine wpAny_isTrue_Compare1 (thn (ha pins s σ H _ I h) fun v s1 ⟨x,H1,I1,r1,q1⟩=>thn (hb pins s1 σ H1 _ I1 q1) fun u s2 ⟨y,H2,I2,r2,q2⟩ =>
  thn (ho pins s2 σ H2 x y v u _ I2 r1 r2 q2) fun c s3 ⟨z,H3,I3,r3,k,e,q3⟩=>?_) hm
 subst e
 cases r3
 exact wpAny_truthy_bool ⟨H3,I3,q3⟩
theorem rf:(sizeLine:Nat) < 2 ^ 63:=by rw [sizeLine_eq];decide
theorem ko {x:V} {us:List Value} (r:Vals [x] us):∃ u,us=[u]/\RelV x u:=by
 cases r with
 | cons r1 r2=>cases r2;exact ⟨_,rfl,r1⟩
theorem CJ {x y:V} {us:List Value} (r:Vals [x,y] us):∃ u w',us=[u,w']/\RelV x u/\RelV y w':=by
 cases r with
 | cons r1 r2 =>
  cases r2 with
  | cons r3 r4=>cases r4;exact ⟨_,_,rfl,r1,r3⟩
theorem t7:ib X (.builtin "abs") (fun xs H Q=>∃ i,xs=[.int i]/\Q (.int (if i < 0 then -i else i)) H):=by
 intro pins s σ H xs us Q I r h
 obtain ⟨i,rfl,q⟩:=h
 obtain ⟨u,rfl,t,rfl⟩:=ko r
 exact call_abs_int fun u tk=>⟨.int (if i < 0 then -i else i),H,I.tok _,⟨_,rfl⟩,q⟩
theorem xC:ib X (.type "int") (fun xs H Q=>(∃ i,xs=[.int i]/\Q (.int i) H) \/ ∃ k,xs=[.bl k]/\Q (.int (if k then 1 else 0)) H):=by
 intro pins s σ H xs us Q I r h
 rcases h with ⟨i,rfl,q⟩ | ⟨k,rfl,q⟩
 . obtain ⟨u,rfl,t,rfl⟩:=ko r
   exact call_int_int ⟨.int i,H,I,⟨_,rfl⟩,q⟩
 . obtain ⟨u,rfl,r1⟩:=ko r
   cases r1
   exact call_int_bool ⟨.int (if k then 1 else 0),H,I.tok _,⟨_,rfl⟩,q⟩
end
end L2
namespace L2
open PySem PySem.Spec PyProof.Rows
section
variable {prog:Program} {w:World} {A:Around} {E:Value->Shared->Prop} {s:Shared} {K:PySem.W.Frag} {x dx C f:Addr} {mA:Str->Option Value} {name:Str} {v:Value}
end
theorem RelO.some_of {v:V} {o:Option Value} (r:RelO (some v) o):∃ u,o=some u/\RelV v u:=by
 cases o with
 | none=>exact (show False from r).elim
 | some u=>exact ⟨u,rfl,r⟩
section
variable {P:Program} {w:World} {H H':Hp} {h h':Heap} {a C dx:Addr} {fs fs':List (Str×V)}
end
section
variable {X:Cx} {pins:List (Addr×Obj)} {σ:St} {H:Hp} {s:Shared} {a C dx:Addr} {fs:List (Str×V)} {f:Str} {v:V} {A:Around} {E:Value->Shared->Prop}
end
section
variable {X:Cx} {o e value:Expr} {f:Str} {pos pos' tpos:Pos} {ta tv:TE}
end
section
variable {X:Cx} {pins:List (Addr×Obj)} {σ:St} {H:Hp} {s:Shared} {A:Around} {E:Value->Shared->Prop} {Q:Value->Shared->Prop} {c:Value} {b:Bool}
end
end L2
namespace L2
open PySem PySem.Spec PyProof.Rows
structure Room (k:Nat) (A:Around):Prop where
 hd:A.handled=none
 dp:A.depth+3*k+5 < recursionLimit
 un:A.units+16*k+200 < cLine
theorem Room.mono {j k:Nat} {A:Around} (r:Room k A) (h:j<=k):Room j A:=⟨r.hd,by have:=r.dp;omega,by have:=r.un;omega⟩
theorem Room.deeper {k:Nat} {A:Around} (r:Room (k+1) A) (env:Env):Room k (A.deeper env) :=
 ⟨r.hd,by have:=r.dp;show A.depth+1+3*k+5 < _;omega,by have:=r.un;show A.units+3+16*k+200 < _;omega⟩
theorem Room.depth {k:Nat} {A:Around} (r:Room k A):A.depth < recursionLimit:=by have:=r.dp;omega
theorem Room.units {k:Nat} {A:Around} (r:Room k A):A.units+64 < cLine:=by have:=r.un;omega
theorem Room.units0 {k:Nat} {A:Around} (r:Room k A):A.units < cLine:=by have:=r.un;omega
def Br:TA:=fun _ H Q=>Q [] H
def r6 (ta:TE) (tr:TA):TA:=fun σ H Q=>ta σ H fun x H1=>tr σ H1 fun xs H2=>Q (x :: xs) H2
section
variable {X:Cx} {e:Expr} {es:List Expr} {te:TE} {t:TA} {pos:Pos}
theorem ka:PA X [] Br:=fun _ _ _ _ H Q I h=>Calls.spliced_nil ⟨[],H,I,.nil,h⟩
theorem gv (ha:PE X e te) (hr:PA X es t) (hs:starEach (e :: es) X.env=(false,eval e X.env) :: starEach es X.env:=by rfl):PA X (e :: es) (r6 te t):=by
 intro pos pins s σ H Q I h
 rw [hs]
 show wpAny _ _ (spliced ((false,eval e X.env) :: backTo pos (starEach es X.env))) _ _ s
 refine Calls.spliced_cons (thn (ha pins s σ H _ I h) fun u s1 ⟨x,H1,I1,r1,q1⟩=>?_)
 exact thn (hr pos pins s1 σ H1 _ I1 q1) fun us s2 ⟨xs,H2,I2,r2,q2⟩=>⟨x :: xs,H2,I2,.cons r1 r2,q2⟩
def DP (t:TA):TE:=fun σ H Q=>t σ H fun xs H1=>xs.length<=sizeLine/\∀ p,H1 p=none->Q (.ref p) (upd H1 p (.tup xs))
def DW (t:TA):TE:=fun σ H Q=>t σ H fun xs H1=>xs.length<=sizeLine/\∀ p,H1 p=none->Q (.ref p) (upd H1 p (.lst xs))
theorem yp {x1} (h:PA X es t):PE X (.Tuple es x1 pos) (DP t):=by
 intro pins s σ H Q I hq
 refine wpAny_Tuple_spliced (thn (h pos pins s σ H _ I hq) fun us s1 ⟨xs,H1,I1,r,z,q⟩=>⟨by rw [<- r.length];exact z,?_⟩)
 have hf:H1 s1.heap.objs.size=none:=I1.hok.fresh (Nat.le_refl _)
 refine ⟨.ref s1.heap.objs.size,upd H1 s1.heap.objs.size (.tup xs),I1.laid (t':=s1.toks) (fun b u e=>Heap.get?_push_of_some _ e) (Nat.le_refl _) ?_,rfl,q _ hf⟩
 exact ⟨z,us,r,⟨_,Heap.get?_push_size _ rfl,rfl,_,rfl⟩⟩
theorem yr (h:PA X es t):PE X (.List es pos) (DW t):=by
 intro pins s σ H Q I hq
 refine wpAny_List_spliced (thn (h pos pins s σ H _ I hq) fun us s1 ⟨xs,H1,I1,r,z,q⟩=>⟨by rw [<- r.length];exact z,?_⟩)
 have hf:H1 s1.heap.objs.size=none:=I1.hok.fresh (Nat.le_refl _)
 refine ⟨.ref s1.heap.objs.size,upd H1 s1.heap.objs.size (.lst xs),I1.laid (t':=s1.toks) (fun b u e=>Heap.get?_push_of_some _ e) (Nat.le_refl _) ?_,rfl,q _ hf⟩
 exact ⟨z,us,0,r,Heap.get?_push_size _ rfl⟩
end
abbrev Sp:=List V->Hp->VK->XK->Prop
abbrev CXT:=List Env->Hp->Shared->XK->Value->Shared->Prop
structure AM (P:Program) (w:World) (K:PySem.W.Frag) (mg:Str->Option Value) (base:Heap) (A:Around) (outer:List Env) (s:Shared) (H:Hp):Prop where
 frames:A.frames=some outer
 mod:Mod K mg base
 bs:∀ b o,base.get? b=some o->s.heap.get? b=some o/\H b=none
 bsz:base.objs.size<=s.heap.objs.size
 funs:s.heap.FunFrames base outer
 frf:∀ b∈frs outer,H b=none
 hok:HOk P w H s.heap
 bare:AllBare s.gens
def CE (outer:List Env) (P:Program) (w:World) (H:Hp) (s:Shared) (Q:VK) (u:Value) (s':Shared):Prop :=
 ∃ v H',s'.os=s.os/\AllBare s'.gens/\Un (frs outer) [] H H' s.heap s'.heap/\HOk P w H' s'.heap/\RelV v u/\Q v H'
def CR (CX:CXT) (outer:List Env) (P:Program) (w:World) (H:Hp) (s:Shared) (Q:VK) (E:XK) (r:Result) (s':Shared):Prop :=
 match r with
 | .ok (.ret u)=>CE outer P w H s Q u s'
 | .ok _=>False
 | .error e=>CX outer H s E e s'
structure FnOk (P:Program) (w:World) (K:PySem.W.Frag) (mg:Str->Option Value) (base:Heap) (CX:CXT) (k:Nat) (f:Addr) (fd:FuncData) (ps:List Str) (sp:Sp):Prop where
 len:∀ vs H Q E,sp vs H Q E->vs.length=ps.length
 run:∀ (A:Around) (outer:List Env) (s:Shared) (H:Hp) (args:Args) (us:List Value) (vs:List V) (Q:VK) (E:XK),Room k A->AM P w K mg base A outer s H->BindsTo s fd args (ps.zip us)->Vals vs us->sp vs H Q E ->
  codeAny (model P w) A (.call (.ref f) args) (CR CX outer P w H s Q E) s
theorem FnOk.imp {P:Program} {w:World} {K:PySem.W.Frag} {mg:Str->Option Value} {base:Heap} {CX:CXT} {k:Nat} {f:Addr} {fd:FuncData} {ps:List Str} {sp sp':Sp} (F:FnOk P w K mg base CX k f fd ps sp)
 (h:∀ vs H Q E,sp' vs H Q E->sp vs H Q E):FnOk P w K mg base CX k f fd ps sp' :=
 ⟨fun vs H Q E q=>F.len vs H Q E (h _ _ _ _ q),fun A outer s H args us vs Q E hr he hb hv hs=>F.run A outer s H args us vs Q E hr he hb hv (h _ _ _ _ hs)⟩
section
variable {X:Cx} {pins:List (Addr×Obj)} {σ:St} {H:Hp} {s s':Shared}
theorem Inv.env0 (I:Inv X pins σ H s):AM X.prog X.w X.K X.mg X.base X.A X.stack s H :=
 ⟨I.ok.frames,I.ok.mod,I.bs,Nat.le_trans I.ok.bsz I.sz,I.stack,I.stkFree,I.hok,I.bare⟩
theorem Inv.after {Q:VK} {u:Value} (I:Inv X pins σ H s) (h:CE X.stack X.prog X.w H s Q u s'):EP X pins σ Q u s':=by
 obtain ⟨v,H',os,bare,un,hok,r,q⟩:=h
 obtain ⟨hh,g,d,t,os'⟩:=s'
 obtain rfl:os'=s.os:=os
 exact ⟨v,H',I.call (h':=hh) (g':=g) (d':=d) (t':=t) (ch:=[]) un hok bare (fun b z=>absurd z (by simp)),r,q⟩
end
def CU (sp:Sp) (dvs:List V) (E:XK) (t:TA):TE:=fun σ H Q=>t σ H fun vs H1=>sp (vs++dvs) H1 Q E
def Binds (K:PySem.W.Frag) (fd:FuncData) (ps:List Str) (ds:List Value):Prop :=
 ∀ (s:Shared) (us:List Value),K.In s.heap->(us++ds).length=ps.length->BindsTo s fd ⟨us,[]⟩ (ps.zip (us++ds))
theorem Binds.all {K:PySem.W.Frag} {fd:FuncData} {ps:List Str} (h:∀ us:List Value,us.length=ps.length->bindArgs fd ⟨us,[]⟩=pure (ps.zip us)):Binds K fd ps []:=fun s us _ hl=>by
 rw [List.append_nil] at hl ⊢
 exact .of_eq (h us hl)
def u7 (CX:CXT) (X:Cx) (E:XK):Prop:=∀ (pins:List (Addr×Obj)) (σ:St) (H:Hp) (s:Shared) (e:Value) (s':Shared),Inv X pins σ H s->CX X.stack H s E e s'->X.xe e s'
section
variable {X:Cx} {CX:CXT} {k:Nat} {f C:Addr} {fd:FuncData} {ps:List Str} {sp:Sp} {dvs:List V} {ds:List Value} {E:XK} {x m:Str} {p pos apos:Pos} {e o:Expr} {es:List Expr} {ta:TE} {t:TA}
theorem Bv {pins:List (Addr×Obj)} {σ:St} {H:Hp} {s:Shared} {Q:VK} {us:List Value} {vs:List V} (F:FnOk X.prog X.w X.K X.mg X.base CX k f fd ps sp) (hr:Room k X.A) (hb:Binds X.K fd ps ds) (hd:Vals dvs ds) (hx:u7 CX X E)
 (I:Inv X pins σ H s) (r:Vals vs us) (h:sp (vs++dvs) H Q E):wpAny (model X.prog X.w) X.A (call (.ref f) us) (EP X pins σ Q) X.xe s:=by
 have r2:Vals (vs++dvs) (us++ds):=r.append hd
 have hl:(us++ds).length=ps.length:=by rw [<- r2.length];exact F.len _ _ _ _ h
 refine wpAny_call (codeAny_mono (F.run X.A X.stack s H ⟨us,[]⟩ (us++ds) (vs++dvs) Q E hr I.env0 (hb s us I.kIn hl) r2 h) fun r s' hq=>?_)
 cases r with
 | error e=>exact hx pins σ H s e s' I hq
 | ok fl =>
  cases fl with
  | ret u=>exact I.after hq
  | next=>exact False.elim hq
  | brk=>exact False.elim hq
  | cont=>exact False.elim hq
theorem mY (F:FnOk X.prog X.w X.K X.mg X.base CX k f fd ps sp) (hr:Room k X.A) (hg:Gl X x) (hm:X.mg x=some (.ref f)) (hk:PySem.W.keepIn X.K (.ref f)=true) (hb:Binds X.K fd ps ds) (hd:Vals dvs ds) (hx:u7 CX X E)
 (ha:PA X (e :: es) t) (hdb:(x == ("__debug__":Str))=false:=by decide) (he:starEach (e :: es) X.env=(false,eval e X.env) :: starEach es X.env:=by rfl) (hpl:(backTo pos (starEach es X.env)).any (·.1)=false:=by rfl) :
 PE X (.Call (.Name x p) (e :: es) [] pos) (CU sp dvs E t):=by
 intro pins s σ H Q I h
 refine wpAny_Call_Name_kw (An I hg hm ?_ hdb)
 refine PySem.W.callWith_K (h₀:=X.base) I.ok.mod.kin hk (thn (ha pos pins s σ H _ I h) fun us s1 ⟨vs,H1,I1,r,q⟩=>⟨I1.kIn,?_⟩) he hpl
 exact Bv F hr hb hd hx I1 r q
end
section
variable {X:Cx} {CX:CXT} {k:Nat} {f C:Addr} {fd:FuncData} {ps ks:List Str} {sp:Sp} {E:XK} {x m:Str} {p pos apos kpos:Pos} {e o:Expr} {es:List Expr} {kws:List Keyword} {te ta:TE} {t tk:TA} {nm:Option Str}
variable {g:List Value->List Value->List Value} {gV:List V->List V->List V}
end
structure aD (N P:List Str) (sc:Scope):Prop where
 kind:sc.kind=.function
 co:sc.isCoroutine=false
 gen:sc.isGenerator=false
 nd:N.Nodup
 pre:N.take P.length=P
 par:∀ x∈P,sc.names.lookup x=some .local \/ sc.names.lookup x=some .cell
 nofree:∀ y∈sc.names,y.2 ≠ .free
theorem qk {kindOf:Str->Option NameKind} {x:Str}:∀ {binds:List (Str×Value)} {m:Str->Option Value},(∀ v,(x,v) ∉ binds)->bindL kindOf binds m x=m x
 | [],_,_=>rfl
 | (n,v) :: r,m,h=>by
  unfold bindL
  rw [qk fun w hw=>h w (Zk _ hw)]
  split
  . have:x ≠ n:=by rintro rfl;exact h v Zj
    simp [this]
  . rfl
theorem qm {kindOf:Str->Option NameKind} {x:Str}:∀ {binds:List (Str×Value)} {m:Str->Option Value},(∀ v,(x,v) ∉ binds)->bindC kindOf binds m x=m x
 | [],_,_=>rfl
 | (n,v) :: r,m,h=>by
  unfold bindC
  rw [qm fun w hw=>h w (Zk _ hw)]
  split
  . rfl
  . have:x ≠ n:=by rintro rfl;exact h v Zj
    simp [this]
theorem ql {kindOf:Str->Option NameKind} {x:Str} {v:Value}:∀ {P:List Str} {vs:List Value} {i:Nat} {m:Str->Option Value},P.Nodup->P[i]? = some x->vs[i]? = some v->kindOf x=some .local ->
 bindL kindOf (P.zip vs) m x=some v
 | [],_,_,_,_,h,_,_=>by simp at h
 | _ :: _,[],_,_,_,_,h,_=>by simp at h
 | p :: P,w :: vs,0,m,nd,h1,h2,hk=>by
  simp at h1 h2;subst h1;subst h2
  show bindL kindOf ((p,w) :: P.zip vs) m p=_
  unfold bindL
  rw [qk fun v hv=>(List.nodup_cons.mp nd).1 (List.of_mem_zip hv).1,if_pos hk]
  simp
 | p :: P,w :: vs,i+1,m,nd,h1,h2,hk=>by
  show bindL kindOf ((p,w) :: P.zip vs) m x=_
  unfold bindL
  exact ql (i:=i) (List.nodup_cons.mp nd).2 (by simpa using h1) (by simpa using h2) hk
theorem qo {kindOf:Str->Option NameKind} {x:Str} {v:Value}:∀ {P:List Str} {vs:List Value} {i:Nat} {m:Str->Option Value},P.Nodup->P[i]? = some x->vs[i]? = some v->kindOf x ≠ some .local ->
 bindC kindOf (P.zip vs) m x=some v
 | [],_,_,_,_,h,_,_=>by simp at h
 | _ :: _,[],_,_,_,_,h,_=>by simp at h
 | p :: P,w :: vs,0,m,nd,h1,h2,hk=>by
  simp at h1 h2;subst h1;subst h2
  show bindC kindOf ((p,w) :: P.zip vs) m p=_
  unfold bindC
  rw [qm fun v hv=>(List.nodup_cons.mp nd).1 (List.of_mem_zip hv).1,if_neg hk]
  simp
 | p :: P,w :: vs,i+1,m,nd,h1,h2,hk=>by
  show bindC kindOf ((p,w) :: P.zip vs) m x=_
  unfold bindC
  exact qo (i:=i) (List.nodup_cons.mp nd).2 (by simpa using h1) (by simpa using h2) hk
def start (N:List Str) (vs:List V):St:=vs.map some++List.replicate (N.length - vs.length) none
def oS (CX:CXT) (P:Program) (w:World) (K:PySem.W.Frag) (mg:Str->Option Value) (base:Heap) (N:List Str) (qual:Str) (scope:Scope) (f:Addr) (cd:Value) (A:Around) (outer:List Env) (s:Shared) (H:Hp) (E:XK):Cx where
 prog:=P
 w:=w
 K:=K
 mg:=mg
 base:=base
 A:=A.deeper (envOfC qual scope s.heap.objs.size f cd)
 N:=N
 s₀:=s
 H₀:=H
 env:=envOfC qual scope s.heap.objs.size f cd
 outer:=outer
 stack:=envOfC qual scope s.heap.objs.size f cd :: outer
 ex:=[]
 calm:=true
 fn:=fun _=>true
 pn:=[]
 xe:=fun e s'=>wpAny (model P w) (A.deeper (envOfC qual scope s.heap.objs.size f cd)) (leaving (envOfC qual scope s.heap.objs.size f cd) e) (fun _ s''=>CX outer H s E e s'') (fun e' s''=>CX outer H s E e' s'') s'
theorem t6 {sc:Scope} {n:Nat} {x:Str} (h:sc.names.lookup x=some .cell):∃ c,(cellsFrom n sc.names []).lookup x=some c:=by
 have q:=PySem.W.cellsFrom_some sc.names n [] (.inl h)
 exact Option.isSome_iff_exists.mp q
theorem xr {CX:CXT} {P:Program} {w:World} {K:PySem.W.Frag} {mg:Str->Option Value} {base:Heap} {N ps:List Str} {qual:Str} {scope:Scope} {f:Addr} {cd:Value} {A:Around} {outer:List Env} {s s1:Shared} {H:Hp} {E:XK} {us:List Value} {vs:List V}
 (S:aD N ps scope) (hd:A.handled=none) (e0:AM P w K mg base A outer s H) (hl:vs.length=ps.length) (r:Vals vs us)
 (x:InCallC s s.heap.objs.size (bindL (envOfC qual scope s.heap.objs.size f cd).kindOf (ps.zip us) fun _=>none) (cellsFrom (s.heap.objs.size+1) scope.names []) (bindC (envOfC qual scope s.heap.objs.size f cd).kindOf (ps.zip us) fun _=>none) s1) :
 Inv (oS CX P w K mg base N qual scope f cd A outer s H E) [] (start N vs) H s1:=by
 have hpl:ps.length<=N.length:=by have:=congrArg List.length S.pre;rw [List.length_take] at this;omega
 obtain ⟨h1,tk,rfl,hk⟩:=x.done
 have noA:∀ b:Addr,b ∉ (oS CX P w K mg base N qual scope f cd A outer s H E).ex:=fun b z=>absurd (show b∈([]:List Addr) from z) (by simp)
 refine ⟨⟨e0.mod,S.kind,rfl,rfl,Nat.le_refl _,fun y z c h1 h2=>?_,fun y hy=>?_,fun y c _ h=>?_,fun _=>hd,Around.frames_deeper e0.frames,.inr ⟨rfl,rfl⟩,fun b z=>absurd z (noA b),e0.bs,e0.bsz,fun b _ _=>noA b,fun b z=>absurd z (noA b),e0.funs,e0.frf⟩,
  rfl,e0.bare,Un.kept hk,⟨_,x.toInCall.ns,fun i y v h1 h2 h3=>?_⟩,fun y c h=>⟨_,x.cell y c h⟩,e0.hok.fresh (Nat.le_refl _),fun y c h=>?_,fun p hp=>absurd (show p∈([]:List (Addr×Obj)) from hp) (by simp),e0.hok.kept hk,?_⟩
 . exact name_of_addr x.apart (PySem.mem_of_lookup h1) (PySem.mem_of_lookup h2)
 . have hy:scope.names.lookup y=some .cell \/ scope.names.lookup y=some .free:=hy
   rcases hy with hy | hy
   . exact t6 hy
   . exact absurd rfl (S.nofree _ (PySem.mem_of_lookup hy))
 . exact Nat.le_of_lt (x.above y c (PySem.mem_of_lookup h))
 . have hi:i < vs.length:=by
    unfold start at h2
    by_cases hi:i < vs.length
    . exact hi
    . rw [List.getElem?_append_right (by simpa using hi)] at h2
      rw [List.getElem?_replicate] at h2
      split at h2 <;> cases h2
   have ha:vs[i]? = some v:=by
    unfold start at h2
    rw [List.getElem?_append_left (by simpa using hi),List.getElem?_map] at h2
    cases e:vs[i]? with
    | none=>rw [e] at h2;cases h2
    | some a=>rw [e] at h2;cases h2;rfl
   obtain ⟨u,hu,rv⟩:=r.get ha
   have hp:ps[i]? = some y:=by
    rw [<- S.pre,List.getElem?_take_of_lt (by omega)];exact h1
   have ndP:ps.Nodup:=by rw [<- S.pre];exact S.nd.sublist (List.take_sublist _ _)
   refine ⟨u,rv,?_⟩
   rcases S.par y (List.mem_of_getElem? hp) with k | k
   . exact .inl ⟨k,ql ndP hp hu k⟩
   . obtain ⟨c,e⟩:=t6 (n:=s.heap.objs.size+1) k
     refine .inr ⟨.inl k,c,e,?_⟩
     have q:=x.cell y c e
     rw [qo ndP hp hu (by show scope.names.lookup y ≠ _;rw [k];decide)] at q
     exact q
 . exact e0.hok.fresh (Nat.le_of_lt (x.above y c (PySem.mem_of_lookup h)))
 . unfold start
   show _=N.length
   rw [Zh,Zi,List.length_replicate]
   omega
theorem Bc {CX:CXT} {P:Program} {w:World} {K:PySem.W.Frag} {mg:Str->Option Value} {base:Heap} {k:Nat} {f:Addr} {name qual:Str} {params:Arguments} {body:List Stmt} {scope:Scope} {dV kV doc pm cdv ct oc:Value} {an od:Option Addr}
 {osl:Array (Option Value)} {N ps:List Str} {sp:Sp} (lk:K.lookup f=some ⟨oc,od,.func (PySem.W.fnOf name qual params body scope dV kV doc pm an cdv ct),osl⟩) (hcd:PySem.W.codeIn K cdv qual=true) (S:aD N ps scope)
 (len:∀ vs H Q E,sp vs H Q E->vs.length=ps.length)
 (hbody:∀ (A:Around) (outer:List Env) (s:Shared) (H:Hp) (vs:List V) (Q:VK) (E:XK),Room k (A.deeper (envOfC qual scope s.heap.objs.size f cdv))->sp vs H Q E ->
  ∃ t,PSs (oS CX P w K mg base N qual scope f cdv A outer s H E) body t/\t { nx:=fun _ H'=>Q .non H',rt:=Q } (start N vs) H) :
 FnOk P w K mg base CX (k+1) f (PySem.W.fnOf name qual params body scope dV kV doc pm an cdv ct) ps sp:=by
 refine ⟨len,fun A outer s H args us vs Q E hr e0 hb r hsp=>?_⟩
 have hl:=len _ _ _ _ hsp
 have KX:K.In s.heap:=e0.mod.kin.keeps fun b o e=>(e0.bs b o e).1
 have lim:s.heap.NoLimit:=e0.mod.nolimit.keeps fun b o e=>(e0.bs b o e).1
 have hkind:∀ y∈ps.zip us,scope.names.lookup y.1=some .local \/ (scope.names.lookup y.1=some .cell/\((cellsFrom (s.heap.objs.size+1) scope.names []).lookup y.1).isSome=true):=fun ⟨n,v⟩ hy=>by
  rcases S.par n (List.of_mem_zip hy).1 with q | q
  . exact .inl q
  . exact .inr ⟨q,PySem.W.cellsFrom_some _ _ _ (.inl q)⟩
 refine codeAny_call_function hr.depth (KX _ _ lk) rfl S.co S.gen rfl (PySem.W.codeRec_of KX hcd) (hb _ _ _ _ ?_)
 refine wpAny_newFunctionEnv_cells S.kind hkind fun env he s1 x=>?_
 subst he
 refine ⟨lim.keeps x.toInCall.keep,codeAny_func ?_⟩
 obtain ⟨t,ht,hq⟩:=hbody A outer s H vs Q E (hr.deeper _) hsp
 have I:Inv (oS CX P w K mg base N qual scope f cdv A outer s H E) [] (start N vs) H s1:=xr S hr.hd e0 hl r x
 refine wpAny_mono (ht [] s1 (start N vs) H _ I hq) (fun fl s' hs=>?_) fun e s' hs=>hs
 have fin:∀ {σ':St} {H':Hp} {v:V} {u:Value},Inv (oS CX P w K mg base N qual scope f cdv A outer s H E) [] σ' H' s'->RelV v u->Q v H'->CE outer P w H s Q u s' :=
  fun {σ' H' v u} J rv q=>⟨v,H',J.os,J.bare,J.base,J.hok,rv,q⟩
 cases fl with
 | ret u =>
  obtain ⟨v,σ',H',J,rv,q⟩:=hs
  exact fin J rv q
 | next =>
  obtain ⟨σ',H',J,q⟩:=hs
  exact fin (v:=V.non) (u:=Value.none) J rfl q
 | brk =>
  obtain ⟨_,_,_,q⟩:=hs
  exact False.elim q
 | cont =>
  obtain ⟨_,_,_,q⟩:=hs
  exact False.elim q
end L2
namespace L2
open PySem PySem.Spec PyProof.Rows
section
variable {X:Cx} {x:Str} {p pos:Pos} {e:Expr} {es:List Expr} {t:TA} {id T:String} {r:List V->Hp->VK->Prop}
def tCB (r:List V->Hp->VK->Prop) (t:TA):TE:=fun σ H Q=>t σ H fun vs H1=>r vs H1 Q
theorem sI (hc:ib X (.builtin id) r) (hg:Gl X x) (hm:X.mg x=none) (hv:bootBuiltins x=some (.builtin id)) (ha:PA X (e :: es) t) (hn:x ≠ "__name__":=by decide) (hdb:(x == ("__debug__":Str))=false:=by decide)
 (he:starEach (e :: es) X.env=(false,eval e X.env) :: starEach es X.env:=by rfl) (hpl:(backTo pos (starEach es X.env)).any (·.1)=false:=by rfl):PE X (.Call (.Name x p) (e :: es) [] pos) (tCB r t):=by
 intro pins s σ H Q I h
 refine wpAny_Call_Name_kw (oC I hg hm hv ?_ hn hdb)
 exact PyProof.Rows.callWith_builtin1 (thn (ha pos pins s σ H _ I h) fun us s1 ⟨vs,H1,I1,r1,q1⟩=>hc pins s1 σ H1 vs us Q I1 r1 q1) he hpl
theorem lD (hc:ib X (.type T) r) (hg:Gl X x) (hm:X.mg x=none) (hv:bootBuiltins x=some (.type T)) (ha:PA X (e :: es) t) (hn:x ≠ "__name__":=by decide) (hdb:(x == ("__debug__":Str))=false:=by decide)
 (he:starEach (e :: es) X.env=(false,eval e X.env) :: starEach es X.env:=by rfl) (hpl:(backTo pos (starEach es X.env)).any (·.1)=false:=by rfl):PE X (.Call (.Name x p) (e :: es) [] pos) (tCB r t):=by
 intro pins s σ H Q I h
 refine wpAny_Call_Name_kw (oC I hg hm hv ?_ hn hdb)
 exact PyProof.Rows.callWith_type1 (thn (ha pos pins s σ H _ I h) fun us s1 ⟨vs,H1,I1,r1,q1⟩=>hc pins s1 σ H1 vs us Q I1 r1 q1) he hpl
end
end L2
namespace HT
open PySem PyProof.Rows
section
open PySem.SeqAt
open PySem.AutoSeq1 (wpAny_loadPart')
open PySem.MeetsSeq PySem.MeetsSeq2 PySem.MeetsSeq3
end
section
variable {prog:Program} {w:World} {A:Around} {E:Value->Shared->Prop} {s:Shared}
end
end HT
namespace L2
open PySem PySem.Spec PyProof.Rows
abbrev TO:=St->Hp->(Option Int->Hp->Prop)->Prop
section
variable {X:Cx} {e:Expr} {te:TE} {lo hi:Option Expr} {tl th:TO} {pos p2:Pos}
end
end L2
namespace L2
open PySem PySem.Spec PyProof.Rows
def ixN (n:Nat) (i:Int):Option Nat:=if 0<=i then (if i < n then some i.toNat else none) else if -(n:Int)<=i then some (i+n).toNat else none
def atI {α:Type} (xs:List α) (i:Int):Option α:=(ixN xs.length i).bind fun j=>xs[j]?
theorem nc {n:Nat} {i:Int} {j:Nat} (h:ixN n i=some j):seqIndex? i n=some j/\j < n/\-(n:Int)<=i/\i < n:=by
 unfold ixN at h
 by_cases h0:0<=i
 . rw [if_pos h0] at h
   by_cases h1:i < n
   . rw [if_pos h1] at h
     have e:i.toNat=j:=Option.some.inj h
     exact ⟨by rw [seqIndex_of h0 h1,e],by omega,by omega,h1⟩
   . rw [if_neg h1] at h;cases h
 . rw [if_neg h0] at h
   by_cases h1:-(n:Int)<=i
   . rw [if_pos h1] at h
     have e:(i+n).toNat=j:=Option.some.inj h
     exact ⟨by rw [seqIndex_neg (by omega) h1,e],by omega,h1,by omega⟩
   . rw [if_neg h1] at h;cases h
theorem wH {α:Type} {xs:List α} {i:Int} {v:α} (h:atI xs i=some v):∃ j,seqIndex? i xs.length=some j/\xs[j]? = some v/\j < xs.length/\-(xs.length:Int)<=i/\i < xs.length:=by
 unfold atI at h
 cases e:ixN xs.length i with
 | none=>rw [e] at h;cases h
 | some j =>
  rw [e] at h
  obtain ⟨h1,h2,h3,h4⟩:=nc e
  exact ⟨j,h1,h,h2,h3,h4⟩
theorem atI_nat {α:Type} {xs:List α} {j:Nat} {v:α} (h:xs[j]? = some v):atI xs (j:Int)=some v:=by
 have hj:j < xs.length:=(List.getElem?_eq_some_iff.mp h).1
 have e:ixN xs.length (j:Int)=some j:=by
  unfold ixN
  rw [if_pos (by omega),if_pos (by omega)];simp
 unfold atI;rw [e];exact h
def nz (b:Expr):Prop:=∀ o i,subscripted b false o i=operate [o,i] (getItem o i)
def IxR (X:Cx) (r:R2):Prop :=
 ∀ (value slice:Expr) (pins:List (Addr×Obj)) (s:Shared) (σ:St) (H:Hp) (x y:V) (v u:Value) (Q:VK),Inv X pins σ H s->RelV x v->RelV y u->r x y H Q ->
  subscripted slice false v u=operate [v,u] (getItem v u)->wpAny (model X.prog X.w) X.A (subscriptTail value slice v u) (EP X pins σ Q) X.xe s
def MtR (X:Cx) (id:String) (r:V->List V->Hp->VK->Prop):Prop :=
 ∀ (pins:List (Addr×Obj)) (s:Shared) (σ:St) (H:Hp) (x:V) (xs:List V) (v:Value) (us:List Value) (Q:VK),Inv X pins σ H s->RelV x v->Vals xs us->r x xs H Q ->
  wpAny (model X.prog X.w) X.A (call (.builtin id) (v :: us)) (EP X pins σ Q) X.xe s
section
variable {X:Cx} {a b:Expr} {ta tb:TE} {pos:Pos}
theorem IxR.or {r r':R2} (h:IxR X r) (h':IxR X r'):IxR X (fun x y H Q=>r x y H Q \/ r' x y H Q):=by
 intro value slice pins s σ H x y v u Q I rx ry q hs
 rcases q with q | q
 . exact h value slice pins s σ H x y v u Q I rx ry q hs
 . exact h' value slice pins s σ H x y v u Q I rx ry q hs
theorem jX {r:R2} (hr:IxR X r) (ha:PE X a ta) (hb:PE X b tb) (hs:nz b):PE X (.Subscript a b pos) (tOp r ta tb):=by
 intro pins s σ H Q I h
 exact Subscript_ (CA ha hb I h fun v u s2 x y H2 I2 rx ry q=>hr a b pins s2 σ H2 x y v u Q I2 rx ry q (hs _ _))
def wZ (K:PySem.W.Frag):R2:=fun x y H Q=>∃ p xs i v,x=.ref p/\y=.int i/\SqL K H p xs/\atI xs i=some v/\Q v H
def C4 (K:PySem.W.Frag):R2:=fun x y H Q=>∃ p xs i v,x=.ref p/\y=.int i/\SqT K H p xs/\atI xs i=some v/\Q v H
theorem ix_list:IxR X (wZ X.K):=by
 intro value slice pins s σ H x y v u Q I rx ry h hs
 obtain ⟨p,xs,i,z,rfl,rfl,hq,he,q⟩:=h
 cases rx
 obtain ⟨t,rfl⟩:=ry
 obtain ⟨its,r,pl,hz⟩:=I.list hq
 obtain ⟨j,h1,h2,h3,h4,h5⟩:=wH he
 obtain ⟨w,ew,rw'⟩:=r.get h2
 have hl:=r.length
 have hn:=rf
 have fin:EP X pins σ Q w s:=⟨z,H,I,rw',q⟩
 by_cases h0:0<=i
 . have hj:i.toNat=j:=by
    rw [seqIndex_of h0 h5] at h1
    exact Option.some.inj h1
   exact item_listR pl.isList h0 (by omega) (by rw [hj];simpa using ew) fin hs
 . have hj:(i+(its.toArray.size:Int)).toNat=j:=by
    rw [seqIndex_neg (by omega) h4] at h1
    rw [List.size_toArray,<- hl]
    exact Option.some.inj h1
   exact subscriptTail_builtinR (x:=w) pl.isList.typeIs slot_list_getitem.lookup
    (wpAny_getItem_list_neg (Q:=fun r s'=>r=w/\EP X pins σ Q r s') pl.isList (by omega) (by rw [List.size_toArray] <;> omega) (by omega) (by rw [hj];simpa using ew) ⟨rfl,fin⟩) hs
theorem yV:IxR X (C4 X.K):=by
 intro value slice pins s σ H x y v u Q I rx ry h hs
 obtain ⟨p,xs,i,z,rfl,rfl,hq,he,q⟩:=h
 cases rx
 obtain ⟨t,rfl⟩:=ry
 obtain ⟨its,r,pl,hz⟩:=I.tuple hq
 obtain ⟨j,h1,h2,h3,h4,h5⟩:=wH he
 obtain ⟨w,ew,rw'⟩:=r.get h2
 have hl:=r.length
 have hn:=rf
 have fin:EP X pins σ Q w s:=⟨z,H,I,rw',q⟩
 exact subscriptTail_builtinR (x:=w) pl.typeIs slot_tuple_getitem.lookup
  (getItem_tuple (j:=j) (Q:=fun r s'=>r=w/\EP X pins σ Q r s') pl (by omega) (by omega) (by rw [List.size_toArray,<- hl];exact h1) (by simpa using ew) ⟨rfl,fin⟩) hs
theorem uE (its:List Value) (n j:Nat) (u:Value):Obj.mapSeq (·.setIfInBounds j u) { cls:=.type "list",data:=.seq its.toArray n }={ cls:=.type "list",data:=.seq (its.set j u).toArray n }:=by
 simp [Obj.mapSeq]
theorem Inv.lst {pins:List (Addr×Obj)} {σ:St} {H:Hp} {s:Shared} {p:Addr} {xs:List V} (I:Inv X pins σ H s) (h:H p=some (.lst xs)) :
 ∃ (its:List Value) (n:Nat),Vals xs its/\s.heap.get? p=some { cls:=.type "list",data:=.seq its.toArray n }/\xs.length<=sizeLine:=by
 obtain ⟨z,its,n,r,e⟩:=I.hok p _ h
 exact ⟨its,n,r,e,z⟩
theorem Inv.lstUpd {pins:List (Addr×Obj)} {σ:St} {H:Hp} {s:Shared} {p:Addr} {xs ys:List V} {its its':List Value} {n n':Nat} {f:Obj->Obj} (I:Inv X pins σ H s) (h:H p=some (.lst xs))
 (ho:s.heap.get? p=some { cls:=.type "list",data:=.seq its.toArray n }) (hf:f { cls:=.type "list",data:=.seq its.toArray n }={ cls:=.type "list",data:=.seq its'.toArray n' }) (r:Vals ys its') (hz:ys.length<=sizeLine) (t:Nat) :
 Inv X pins σ (upd H p (.lst ys)) { s with heap:=s.heap.update p f,toks:=t }:=by
 have e:(s.heap.update p f).get? p=some { cls:=.type "list",data:=.seq its'.toArray n' }:=by
  rw [Heap.get?_update_self f ho (by rw [hf] <;> rfl),hf]
 refine I.write (x:=p) (e:=p) (by rw [h];trivial) (.inl rfl) (fun b u hb q=>(Heap.get?_update_other _ _ (Ne.symm hb)).trans q) ⟨_,e⟩ ?_
 exact ⟨hz,its',n',r,e⟩
def vu:V->V->V->Hp->(Hp->Prop)->Prop:=fun o i v H Q=>∃ p xs k j,o=.ref p/\i=.int k/\H p=some (.lst xs)/\ixN xs.length k=some j/\Q (upd H p (.lst (xs.set j v)))
theorem iu:DK X vu:=by
 intro pins s σ H o i v ov iv u Q I ro ri rv h
 obtain ⟨p,xs,k,j,rfl,rfl,hp,hj,q⟩:=h
 cases ro
 obtain ⟨t,rfl⟩:=ri
 obtain ⟨its,n,r,ho,hz⟩:=I.lst hp
 obtain ⟨h1,h2,h3,h4⟩:=nc hj
 have hl:=r.length
 have hn:=rf
 have I':Inv X pins σ (upd H p (.lst (xs.set j v))) { s with heap:=s.heap.update p (Obj.mapSeq (·.setIfInBounds j u)) } :=
  I.lstUpd hp ho (uE its n j u) (r.set rv j) (by rw [List.length_set];exact hz) s.toks
 by_cases h0:0<=k
 . have hk:k.toNat=j:=by
    rw [seqIndex_of h0 h4] at h1
    exact Option.some.inj h1
   exact PySem.W.ki_setAt ho h0 (by omega) (by rw [List.size_toArray,<- hl];exact h4) (by rw [hk];exact ⟨_,I',q⟩)
 . have hk:(k+(its.toArray.size:Int)).toNat=j:=by
    rw [seqIndex_neg (by omega) h3] at h1
    rw [List.size_toArray,<- hl]
    exact Option.some.inj h1
   exact PySem.W.ki_setBack ho (by omega) (by rw [List.size_toArray,<- hl];exact h3) (by omega) (by rw [hk];exact ⟨_,I',q⟩)
def j0:V->Bool
 | .non=>true
 | .bl _=>true
 | .int _=>true
 | .str _=>true
 | _=>false
def eqV:V->V->Bool
 | .non,.non=>true
 | .bl a,.bl b=>a == b
 | .bl a,.int b=>(if a then 1 else 0) == b
 | .int a,.bl b=>a == (if b then 1 else 0)
 | .int a,.int b=>a == b
 | .str a,.str b=>a == b
 | _,_=>false
theorem uQ {A:Around} {s:Shared} {y x:V} {u v:Value} (ry:RelV y u) (rx:RelV x v) (fy:j0 y=true) (fx:j0 x=true):SeqAt.EqAt A s u v (eqV y x):=by
 cases y with
 | non =>
  cases ry
  cases x with
  | non=>cases rx;exact SeqAt.EqAt.same _
  | bl b=>cases rx;exact SeqAt.EqAt.none_bool b
  | int b=>obtain ⟨t,rfl⟩:=rx;exact SeqAt.EqAt.none_int b t
  | str b=>obtain ⟨t,rfl⟩:=rx;exact SeqAt.EqAt.none_str b t
  | _=>exact absurd (show false=true from fx) Bool.false_ne_true
 | bl a =>
  cases ry
  cases x with
  | non=>cases rx;exact SeqAt.EqAt.bool_none a
  | bl b=>cases rx;exact SeqAt.EqAt.bool_bool a b
  | int b=>obtain ⟨t,rfl⟩:=rx;exact SeqAt.EqAt.bool_int a b t
  | str b=>obtain ⟨t,rfl⟩:=rx;exact SeqAt.EqAt.bool_str a b t
  | _=>exact absurd (show false=true from fx) Bool.false_ne_true
 | int a =>
  obtain ⟨t',rfl⟩:=ry
  cases x with
  | non=>cases rx;exact SeqAt.EqAt.int_none a t'
  | bl b=>cases rx;exact SeqAt.EqAt.int_bool a t' b
  | int b=>obtain ⟨t,rfl⟩:=rx;exact SeqAt.EqAt.int_int a t' b t
  | str b=>obtain ⟨t,rfl⟩:=rx;exact SeqAt.EqAt.int_str a t' b t
  | _=>exact absurd (show false=true from fx) Bool.false_ne_true
 | str a =>
  obtain ⟨t',rfl⟩:=ry
  cases x with
  | non=>cases rx;exact SeqAt.EqAt.str_none a t'
  | bl b=>cases rx;exact SeqAt.EqAt.str_bool a t' b
  | int b=>obtain ⟨t,rfl⟩:=rx;exact SeqAt.EqAt.str_int a t' b t
  | str b=>obtain ⟨t,rfl⟩:=rx;exact SeqAt.EqAt.str_str a t' b t
  | _=>exact absurd (show false=true from fx) Bool.false_ne_true
 | _=>exact absurd (show false=true from fy) Bool.false_ne_true
def eqU (x:V) (u:Value):Bool:=match u with
 | .none=>eqV .non x
 | .bool b=>eqV (.bl b) x
 | .int i _=>eqV (.int i) x
 | .str z _=>eqV (.str z) x
 | _=>false
theorem zl {x y:V} {u:Value} (r:RelV y u) (f:j0 y=true):eqU x u=eqV y x:=by
 cases y with
 | non=>cases r;rfl
 | bl b=>cases r;rfl
 | int i=>obtain ⟨t,rfl⟩:=r;rfl
 | str z=>obtain ⟨t,rfl⟩:=r;rfl
 | _=>exact absurd (show false=true from f) Bool.false_ne_true
theorem rQ {x:V}:∀ {xs:List V} {us:List Value},Vals xs us->xs.all j0=true->us.any (eqU x)=xs.any fun y=>eqV y x
 | _,_,.nil,_=>rfl
 | y :: xs,u :: us,.cons r t,f=>by
  rw [List.all_cons,Bool.and_eq_true] at f
  rw [List.any_cons,List.any_cons,zl r f.1,rQ t f.2]
theorem oq {A:Around} {s:Shared} {x:V} {v:Value} (rx:RelV x v) (fx:j0 x=true):∀ {xs:List V} {us:List Value},Vals xs us->xs.all j0=true->∀ u∈us,SeqAt.EqAt A s u v (eqU x u)
 | _,_,.nil,_=>fun u hu=>by cases hu
 | y :: xs,u :: us,.cons r t,f=>fun u' hu=>by
  rw [List.all_cons,Bool.and_eq_true] at f
  rcases Zp.mp hu with rfl | hu
  . rw [zl r f.1];exact uQ r rx f.1 fx
  . exact oq rx fx t f.2 u' hu
def inV (x:V) (xs:List V):Bool:=xs.any fun y=>eqV y x
def rIn (K:PySem.W.Frag) (neg:Bool):R2:=fun x y H Q=>∃ p xs,y=.ref p/\(SqL K H p xs \/ SqT K H p xs)/\j0 x=true/\xs.all j0=true/\Q (.bl (if neg then !inV x xs else inV x xs)) H
theorem xc:OpR X (compareOp .In) (rIn X.K false):=by
 intro pins s σ H x y v u Q I rx ry h
 obtain ⟨p,xs,rfl,hq,fx,fs,q⟩:=h
 cases ry
 rcases hq with hq | hq
 . obtain ⟨its,r,pl,hz⟩:=I.list hq
   refine SeqAt.in_listAt (eqU x) pl.isList (fun w hw=>oq rx fx r fs w (by simpa using hw)) ⟨.bl _,H,I,rfl,?_⟩
   rw [show its.toArray.any (eqU x)=its.any (eqU x) by simp,rQ r fs]
   exact q
 . obtain ⟨its,r,pl,hz⟩:=I.tuple hq
   refine SeqAt.in_tupleAt (eqU x) pl (fun w hw=>oq rx fx r fs w (by simpa using hw)) ⟨.bl _,H,I,rfl,?_⟩
   rw [show its.toArray.any (eqU x)=its.any (eqU x) by simp,rQ r fs]
   exact q
theorem aK:ib X (.builtin "len") (fun xs H Q=>∃ p ys,xs=[.ref p]/\(SqL X.K H p ys \/ SqT X.K H p ys)/\Q (.int ys.length) H):=by
 intro pins s σ H xs us Q I r h
 obtain ⟨p,ys,rfl,hq,q⟩:=h
 obtain ⟨u,rfl,rx⟩:=ko r
 cases rx
 have hn:=rf
 rcases hq with hq | hq
 . obtain ⟨its,r',pl,hz⟩:=I.list hq
   have hlen:=r'.length
   exact Calls.call_len_list pl.isList (by simp only [List.size_toArray] <;> omega) ⟨.int ys.length,H,I.tok _,⟨s.toks+1,by rw [List.size_toArray,hlen]⟩,q⟩
 . obtain ⟨its,r',pl,hz⟩:=I.tuple hq
   have hlen:=r'.length
   exact len_tuple pl (by simp only [List.size_toArray] <;> omega) ⟨.int ys.length,H,I.tok _,⟨s.toks+1,by rw [List.size_toArray,hlen]⟩,q⟩
theorem rM:ib X (.type "list") (fun xs H Q=>∃ p ys,xs=[.ref p]/\(SqL X.K H p ys \/ SqT X.K H p ys)/\∀ l,H l=none->Q (.ref l) (upd H l (.lst ys))):=by
 intro pins s σ H xs us Q I r h
 obtain ⟨p,ys,rfl,hq,q⟩:=h
 obtain ⟨u,rfl,rx⟩:=ko r
 cases rx
 have fin:∀ (its:List Value),Vals ys its->ys.length<=sizeLine->∀ (h':Heap) (c':Nat),(∀ b o',s.heap.get? b=some o'->h'.get? b=some o') ->
  h'.get? s.heap.objs.size=some { cls:=.type "list",dict:=none,data:=.seq its.toArray c',slots:=#[] }->EP X pins σ Q (.ref s.heap.objs.size) { s with heap:=h' }:=fun its r' hz h' c' kp e =>
  ⟨.ref s.heap.objs.size,_,I.laid (t':=s.toks) kp (Nat.le_refl _) (show ObjOk X.prog X.w _ h' _ (.lst ys) from ⟨hz,its,c',r',e⟩),rfl,q _ (I.hok.fresh (Nat.le_refl _))⟩
 rcases hq with hq | hq
 . obtain ⟨its,r',pl,hz⟩:=I.list hq
   have hlen:=r'.length
   obtain ⟨o,ho,hc,n,hd⟩:=pl.isList
   exact call_list_seq p (.inl rfl) ho hc hd (fun h' c' kp e=>fin its r' hz h' c' kp e) (by simp only [List.size_toArray] <;> omega)
 . obtain ⟨its,r',pl,hz⟩:=I.tuple hq
   have hlen:=r'.length
   obtain ⟨o,ho,hc,n,hd⟩:=pl
   exact call_list_seq p (.inr rfl) ho hc hd (fun h' c' kp e=>fin its r' hz h' c' kp e) (by simp only [List.size_toArray] <;> omega)
def tyV (K:PySem.W.Frag) (T:String) (x:V) (H:Hp):Prop:=match x with
 | .str _=>T = "str"
 | .int _=>T = "int"
 | .ref p=>(T = "list"/\∃ xs,SqL K H p xs) \/ (T = "tuple"/\∃ o,K.lookup p=some o/\o.cls=.type "tuple"/\o.dict=none) \/
  (T = "dict"/\((∃ kvs,H p=some (.dK kvs)) \/ ∃ kvs,H p=some (.dT kvs))) \/ (T = "set"/\∃ S n,H p=some (.set S n))
 | _=>False
theorem Bp {pins:List (Addr×Obj)} {σ:St} {H:Hp} {s:Shared} {T:String} {x:V} {v:Value} (I:Inv X pins σ H s) (r:RelV x v) (ty:tyV X.K T x H) :
 s.TypeIs v T/\∀ a,v=.ref a->∃ ob,s.heap.get? a=some ob/\ob.dict=none:=by
 cases x with
 | str z =>
  obtain ⟨t,rfl⟩:=r
  cases (show T = "str" from ty)
  exact ⟨typeIs_str s z t,fun _ e=>nomatch e⟩
 | int i =>
  obtain ⟨t,rfl⟩:=r
  cases (show T = "int" from ty)
  exact ⟨typeIs_int s i t,fun _ e=>nomatch e⟩
 | ref p =>
  cases r
  rcases ty with ⟨rfl,xs,hq⟩ | ⟨rfl,o,hk,hc,hd⟩ | ⟨rfl,hk⟩ | ⟨rfl,S,n,hk⟩
  . obtain ⟨its,_,pl,_⟩:=I.list hq
    refine ⟨pl.isList.typeIs,fun a e=>?_⟩
    cases e
    obtain ⟨o,n,e,c,hd,_⟩:=pl
    exact ⟨o,e,hd⟩
  . refine ⟨⟨o,I.kIn p o hk,hc⟩,fun a e=>?_⟩
    cases e
    exact ⟨o,I.kIn _ o hk,hd⟩
  . have z:∃ o,s.heap.get? p=some o/\o.ExactDict:=by
     rcases hk with ⟨kvs,hk⟩ | ⟨kvs,hk⟩
     . obtain ⟨_,_,_,_,o,_,_,e,ex,_⟩:=I.hok p _ hk
       exact ⟨o,e,ex⟩
     . obtain ⟨_,_,_,_,o,_,_,e,ex,_⟩:=I.hok p _ hk
       exact ⟨o,e,ex⟩
    obtain ⟨o,e,ex⟩:=z
    refine ⟨⟨o,e,ex.1⟩,fun a e2=>?_⟩
    cases e2
    exact ⟨o,e,ex.2.1⟩
  . obtain ⟨o,_,_,_,e,ex,_⟩:=I.hok p _ hk
    refine ⟨⟨o,e,ex.1⟩,fun a e2=>?_⟩
    cases e2
    exact ⟨o,e,ex.2.1⟩
 | _=>exact False.elim ty
def tBM (K:PySem.W.Frag) (T:String) (r:V->List V->Hp->VK->Prop) (to:TE) (t:TA):TE:=fun σ H Q=>to σ H fun x H1=>tyV K T x H1/\t σ H1 fun xs H2=>r x xs H2 Q
variable {o e:Expr} {es:List Expr} {to:TE} {t:TA} {name:Str} {apos cpos:Pos} {T id:String} {r:V->List V->Hp->VK->Prop}
theorem sJ (pa:PlainAttrs T) (slot:Slot T name id) (hty:typeOf (.builtin id)=pure (.type "method_descriptor")) (hm:MtR X id r) (ho:PE X o to) (ha:PA X (e :: es) t)
 (hbase:attributeBase o name X.env (eval o X.env)=eval o X.env:=by rfl)
 (hfew:((backTo cpos (starEach (e :: es) X.env)).all (fun x=>!x.1) && (backToKw cpos (keywordEach [] X.env)).all (fun x=>x.1.isSome)
  && decide ((e :: es).length+([]:List Keyword).length+(if ([]:List Keyword).isEmpty then 0 else 1) < 30))=true:=by rfl)
 (hline:(apos.endLine == cpos.line)=true:=by rfl) (hs:starEach (e :: es) X.env=(false,eval e X.env) :: starEach es X.env:=by rfl) (hplain:(backTo cpos (starEach es X.env)).any (·.1)=false:=by rfl) :
 PE X (.Call (.Attribute o name apos) (e :: es) [] cpos) (tBM X.K T r to t):=by
 intro pins s σ H Q I h
 refine wpAny_Call_method_late hbase hfew hline rfl (thn (ho pins s σ H _ I h) fun v s1 ⟨x,H1,I1,r1,ty,q1⟩=>?_)
 obtain ⟨h1,h2⟩:=Bp I1 r1 ty
 refine ⟨T,id,pa,slot,hty,h1,h2,?_⟩
 have hA:=ha cpos pins s1 σ H1 _ I1 q1
 rw [hs] at hA ⊢
 refine Calls.callWith_builtin (by show (false || (backTo cpos (starEach es X.env)).any (·.1))=false;rw [hplain] <;> rfl) (Calls.evalArgs_plain ?_)
 exact thn hA fun us s2 ⟨vs,H2,I2,r2,q2⟩=>hm pins s2 σ H2 x vs v us Q I2 r1 r2 q2
end
end L2
namespace L2
open PySem PySem.Spec PyProof.Rows
def MtM (X:Cx) (id:String) (r:V->List V->Hp->VK->Prop):Prop :=
 ∀ (pins:List (Addr×Obj)) (s:Shared) (σ:St) (H:Hp) (x:V) (xs:List V) (v:Value) (us:List Value) (Q:VK),Inv X pins σ H s->RelV x v->Vals xs us->r x xs H Q ->
  wpAny (model X.prog X.w) X.A (call (.builtin id) (v :: us)) (EP X pins σ Q) X.xe s
theorem Vals.one:∀ {x:V} {us:List Value},Vals [x] us->∃ u,us=[u]/\RelV x u
 | _,_,.cons r .nil=>⟨_,rfl,r⟩
section
variable {X:Cx} {pins:List (Addr×Obj)} {σ:St} {H:Hp} {s:Shared} {l b:Addr} {xs ys zs:List V}
theorem Inv.lset {its its':List Value} {n:Nat} {f:Array Value->Array Value} {t':Nat} (I:Inv X pins σ H s) (hH:H l=some (.lst xs))
 (e:s.heap.get? l=some { cls:=.type "list",data:=.seq its.toArray n }) (hf:f its.toArray=its'.toArray) (hv:Vals ys its') (hz:ys.length<=sizeLine) :
 Inv X pins σ (upd H l (.lst ys)) { s with heap:=s.heap.update l (Obj.mapSeq f),toks:=t' }:=by
 have q:=PySem.IsL.update e f
 rw [hf] at q
 refine I.write (x:=l) (e:=l) (by rw [hH];exact trivial) (.inl rfl) (fun b' u hb hu=>(Heap.get?_update_other s.heap (Obj.mapSeq f) (Ne.symm hb)).trans hu) ⟨_,q⟩ ?_
 exact ⟨hz,its',_,hv,q⟩
theorem Inv.lnew {its:List Value} {t':Nat} (I:Inv X pins σ H s) (hv:Vals ys its) (hz:ys.length<=sizeLine) :
 Inv X pins σ (upd H s.heap.objs.size (.lst ys)) { s with heap:=s.heap.push { cls:=.type "list",data:=.seq its.toArray },toks:=t' } :=
 I.laid (fun _ _ q=>Heap.get?_push_of_some _ q) (Nat.le_refl _) ⟨hz,its,0,hv,Heap.get?_push_size _ rfl⟩
theorem Inv.fresh (I:Inv X pins σ H s):H s.heap.objs.size=none:=I.hok.fresh (Nat.le_refl _)
theorem Inv.lstM (I:Inv X pins σ H s) (hH:H l=some (.lst xs)):xs.length<=sizeLine/\∃ (its:List Value) (n:Nat),Vals xs its/\xs.length=its.length/\s.heap.get? l=some { cls:=.type "list",data:=.seq its.toArray n }:=by
 obtain ⟨z,its,n,r,e⟩:=I.hok l _ hH
 exact ⟨z,its,n,r,r.length,e⟩
end
section
variable {X:Cx}
def qH:V->List V->Hp->VK->Prop:=fun x vs H Q=>∃ l xs y,x=.ref l/\vs=[y]/\H l=some (.lst xs)/\xs.length < sizeLine/\Q .non (upd H l (.lst (xs++[y])))
theorem iD:MtM X "list.append" qH:=by
 intro pins s σ H x vs v us Q I rx rv h
 obtain ⟨l,xs,y,rfl,rfl,hH,hz,q⟩:=h
 cases rx
 obtain ⟨u,rfl,ru⟩:=rv.one
 obtain ⟨z,its,n,r,hl,e⟩:=I.lstM hH
 refine call_meets F.slot_list_append ⟨_,e,rfl⟩ F.entry_list_append (F.args_list_append_2 _ _) (PySem.list_append l its.toArray n u (by rw [List.size_toArray];omega)) ⟨e,?_⟩
 refine ⟨.non,_,I.lset (its':=its++[u]) hH e (by simp) (r.append (.cons ru .nil)) ?_,rfl,q⟩
 rw [Zh,List.length_singleton]
 omega
def C9:R2:=fun x y H Q=>∃ l b xs zs,x=.ref l/\y=.ref b/\H l=some (.lst xs)/\H b=some (.lst zs)/\xs.length+zs.length<=sizeLine/\∀ p,H p=none->Q (.ref p) (upd H p (.lst (xs++zs)))
theorem yC:OpR X (binaryOp .Add) C9:=by
 intro pins s σ H x y v u Q I rx ry h
 obtain ⟨l,b,xs,zs,rfl,rfl,hH,hB,hz,q⟩:=h
 cases rx
 cases ry
 obtain ⟨z,its,n,r,hl,e⟩:=I.lstM hH
 obtain ⟨z2,its2,n2,r2,hl2,e2⟩:=I.lstM hB
 refine PySem.P.add_list e e2 ?_ (by rw [List.size_toArray,List.size_toArray];omega)
 have ea:its.toArray++its2.toArray=(its++its2).toArray:=by simp
 rw [ea]
 exact ⟨.ref _,_,I.lnew (t':=s.toks) (r.append r2) (by rw [Zh];omega),rfl,q _ I.fresh⟩
end
section
variable {prog:Program} {w:World} {A:Around} {E:Value->Shared->Prop} {s:Shared}
end
section
variable {X:Cx}
end
end L2
namespace Att
open PySem PySem.W PySem.Calls PyProof.Rows
theorem mE {P:Params} {h:Heap}:∀ (ns:List Int) (vs:List Value),WellAll P h vs (ns.map WData.int)->IntsAre vs ns:=by
 intro ns
 induction ns with
 | nil =>
  intro vs w
  rw [List.map_nil] at w
  cases w
  exact .nil
 | cons n ns ih =>
  intro vs w
  rw [Zq] at w
  cases w with
  | cons a b =>
   cases a
   exact .cons _ _ (ih _ b)
theorem wX {l:OpenLaw} {n:Nat} (hn:l.most=some n) {P:Params} {h:Heap} {args:List WData} {cV:List Value}
 (hpre:l.row.toRowW.claim.pre args=true) (hwl:WellAll P h cV args) :
 ∃ a vs ns,cV=[Value.ref a]/\args=[WData.list (ns.map WData.int)]/\h.get? a=some { cls:=.type "list",data:=.seq vs.toArray }/\IntsAre vs ns/\ns.length<=n:=by
 have hsh:WShape.hasAll [] args [.list .int]=true:=(pre_splitW hpre).1
 have hc:l.pre.holds [] { args:=args }=true:=(pre_splitW hpre).2
 obtain ⟨d,r,rfl,h1,h2⟩:=hasAllW_cons hsh
 obtain rfl:=hasAllW_nil h2
 obtain ⟨xs,rfl,h3⟩:=hasW_list h1
 obtain ⟨ns,rfl⟩:=items_int h3
 have hlen:ns.length<=n:=by
  unfold OpenLaw.pre at hc
  have h4:(WTm.not (.lt (.lit (.int (n:Int))) (.len (.arg 0)))).holds [] { args:=[.list (ns.map .int)] }=true:=by
   have h4:=(holds_andW hc).1
   rw [hn] at h4
   exact h4
  have h5:=condW_of h4 (w_not (w_lt w_lit (w_len_list (w_arg rfl))))
  rw [Zi] at h5
  refine Nat.le_of_not_lt fun q=>?_
  have q':(n:Int) < ((ns.length:Nat):Int):=by omega
  first
   | (rw [decide_eq_true q'] at h5;exact absurd h5 (by decide))
   | (simp at h5;omega)
 cases hwl with
 | cons w1 w2 =>
  cases w2
  cases w1 with
  | list ho hall=>exact ⟨_,_,ns,rfl,rfl,ho,mE ns _ hall,hlen⟩
theorem w8 (l:OpenLaw) (args:List WData):l.row.toRowW.claim.post args (.bool true) args=true :=
 postW_of (r:=l.row.toRowW) (X:=(true == true))
  (show WShape.has [] (.bool true) .bool=true by first | rfl | decide | simp [WShape.has,WShape.arms,WShape.armsAll])
  (show (WTm.eq .res (.lit (.bool true))).value [] { args:=args,res:=some (.bool true),after:=args }=some (.bool (true == true)) from w_eq_bool (w_res rfl) w_lit) rfl
theorem attach_call {l:OpenLaw} {n:Nat} {q:Program} {loose:List Str} {XP:(Str->Option Value)->Heap->Prop} {YP:World->Heap->Prop} {d:DefRec}
 (hn:l.most=some n) (hdf:d.params.defaults=[])
 (call:∀ (w:World) (s₀ s₁:Shared) (mg mb:Str->Option Value) (fa:Addr) (o:Obj) (pm cd doc:Value) (a:Addr) (vs:List Value) (ns:List Int),
  Ground q loose [] XP w s₀ mg mb s₁.heap->YP w s₁.heap ->
  s₁.heap.get? fa=some o->o.data=.func (docDef d.name d.params d.body d.scope pm cd doc)->s₁.heap.CodeRec cd d.name->mg d.name=some (.ref fa) ->
  s₁.heap.get? a=some { cls:=.type "list",data:=.seq vs.toArray }->IntsAre vs ns->ns.length<=n->s₁.gens = #[] ->
  codeAny (model l.prog w) callerA (.call (.ref fa) ⟨[.ref a],[]⟩) (fun r s'=>r=.ok (.ret (.bool true))/\OldK s₁.heap s'.heap/\s'.os=s₁.os/\AllBare s'.gens) s₁) :
 WalkO q loose XP YP l.row.toRowW d [] (fun f vs=>PySem.call f vs):=by
 intro w s₀ s₁ mg mb G Y fa o pm cd doc dV kV ho hd hcd hD hmg hg args cV as hpre hlay hrd hwl hlo
 obtain rfl:dV=.none:=Dflts.none hD hdf
 obtain rfl:kV=.none:=Dflts.noKw hD
 obtain ⟨a,vs,ns,rfl,rfl,hobj,hints,hlen⟩:=wX hn hpre hwl
 refine enter_call (codeAny_mono (call w s₀ s₁ mg mb fa o pm cd doc a vs ns G Y ho (fd_plain hd) hcd hmg hobj hints hlen hg) fun r s' hq=>?_)
 obtain ⟨rfl,h2,h3,h4⟩:=hq
 exact ⟨.inl ⟨.bool true,.bool true,[],rfl,fun _=>rfl,.bool true,w8 l _,fun _=>⟨List.Pairwise.nil,fun _ hm=>(nomatch hm)⟩⟩,h2,h3,h4⟩
section
variable {prog:Program} {w:World} {A:Around} {E:Value->Shared->Prop} {s:Shared} {K:Frag}
def D3 (h:Heap) (L d:Addr):List (Addr×Obj):=(List.range h.objs.size).filterMap fun a=>if a=L \/ a=d then none else (h.get? a).map fun o=>(a,o)
end
end Att
namespace L2
open PySem PySem.Spec PyProof.Rows
theorem jz:∀ {vs:List Value} {ns:List Int},IntsAre vs ns->Vals (ns.map V.int) vs
 | _,_,.nil=>.nil
 | _,_,.cons n t h=>.cons ⟨t,rfl⟩ (jz h)
def CF (H:Hp):Prop:=∀ b,H b=none \/ ∃ o xs,H b=some (.frz o (.lst xs))
theorem yR {P:Program} {w:World} {K:PySem.W.Frag} {mg mb:Str->Option Value} {CX:CXT} {k:Nat} {fa a:Addr} {fd:FuncData} {x:Str} {sp:Sp} {s₁:Shared} {vs:List Value} {ns:List Int}
 (KX:K.In s₁.heap) (hns:s₁.heap.Ns mainGlobals mg) (hb:s₁.heap.Ns builtinsNs mb) (hbb:∀ x:Str,x ≠ "__name__"->mb x=bootBuiltins x) (hlim:s₁.heap.NoLimit) (hg:s₁.gens = #[])
 (ha:s₁.heap.get? a=some { cls:=.type "list",data:=.seq vs.toArray }) (hi:IntsAre vs ns) (hl:ns.length<=sizeLine) (hr:Room k callerA)
 (F:∀ base:Heap,K.In base->base.Ns mainGlobals mg->FnOk P w K mg base CX k fa fd [x] sp) (hbind:∀ (s:Shared) (u:Value),BindsTo s fd ⟨[u],[]⟩ [(x,u)])
 (hsp:∀ H:Hp,CF H->SqL K H a (ns.map V.int)->sp [.ref a] H (fun v _=>v=.bl true) fun _ _ _=>False)
 (hCX:∀ H e s',CX [] H s₁ (fun _ _ _=>False) e s'->False) :
 codeAny (model P w) callerA (.call (.ref fa) ⟨[.ref a],[]⟩) (fun r s'=>r=.ok (.ret (.bool true))/\OldK s₁.heap s'.heap/\s'.os=s₁.os/\AllBare s'.gens) s₁:=by
 have rv:=jz hi
 have lenV:=hi.length
 have core:∀ H:Hp,CF H->SqL K H a (ns.map V.int)->HOk P w H s₁.heap->(∀ b,H b ≠ none->b=a)->(H a ≠ none->K.lookup a=none) ->
  codeAny (model P w) callerA (.call (.ref fa) ⟨[.ref a],[]⟩) (fun r s'=>r=.ok (.ret (.bool true))/\OldK s₁.heap s'.heap/\s'.os=s₁.os/\AllBare s'.gens) s₁:=by
  intro H hO hS hok hA hK
  have base_of:∀ {b:Addr} {o:Obj},s₁.heap.get? b=some o->H b=none->(rj s₁.heap H).get? b=some o:=fun e n=>yZ e n
  have noA:∀ {b:Addr} {o:Obj} {es:Array DictEntry} {ep:Nat},s₁.heap.get? b=some o->o.data=.dict es ep->H b=none:=fun {b o es ep} e d=>by
   cases q:H b with
   | none=>rfl
   | some u =>
    have e':b=a:=hA b (by rw [q];simp)
    subst e'
    rw [ha] at e;cases e
    have d':Data.seq vs.toArray _=Data.dict es ep:=d
    cases d'
  have nsK:∀ {b:Addr} {m:Str->Option Value},s₁.heap.Ns b m->(rj s₁.heap H).Ns b m:=fun {b m} ⟨o,es,ep,e,d,r⟩=>⟨o,es,ep,base_of e (noA e d),d,r⟩
  have hKb:K.In (rj s₁.heap H):=fun b o e=>base_of (KX b o e) (by
   cases q:H b with
   | none=>rfl
   | some u =>
    have e':b=a:=hA b (by rw [q];simp)
    subst e'
    rw [hK (by rw [q];simp)] at e;cases e)
  have hM:Mod K mg (rj s₁.heap H):=⟨hKb,nsK hns,⟨mb,nsK hb,hbb⟩,let ⟨mc,h1,h2⟩:=hlim;⟨mc,nsK h1,h2⟩⟩
  have e0:AM P w K mg (rj s₁.heap H) callerA [] s₁ H:=⟨rfl,hM,fun b o e=>Ag e,Nat.le_of_eq (xu _ _),trivial,fun b hb=>absurd (show b∈([]:List Addr) from hb) (by simp),hok,.of_eq hg⟩
  refine codeAny_mono ((F _ hKb (nsK hns)).run callerA [] s₁ H ⟨[.ref a],[]⟩ [.ref a] [.ref a] _ _ hr e0 (hbind s₁ (.ref a)) (.cons rfl .nil) (hsp H hO hS)) fun r s' h=>?_
  cases r with
  | error e=>exact (hCX H e s' h).elim
  | ok fl =>
   cases fl with
   | next=>exact False.elim h
   | brk=>exact False.elim h
   | cont=>exact False.elim h
   | ret u =>
    obtain ⟨v,H',os,bare,un,hok',r',q⟩:=h
    have q':v=.bl true:=q
    subst q'
    obtain rfl:u=Value.bool true:=r'
    refine ⟨rfl,OldK.of_keep fun b o e=>?_,os,bare⟩
    cases q:H b with
    | none=>exact un.keep b o e q (by intro z;exact absurd (show b∈([]:List Addr) from z) (by simp)) (by simp)
    | some u =>
     rcases hO b with z | ⟨ob,xs,z⟩
     . rw [q] at z;cases z
     . have z2:=un.frzs b ob _ z
       obtain ⟨e1,_⟩:=hok b _ z
       obtain ⟨e2,_⟩:=hok' b _ z2
       rw [e] at e1;cases e1
       exact e2
 cases hk:K.lookup a with
 | some o =>
  have e:=KX a o hk
  rw [ha] at e
  cases e
  refine core (fun _=>none) (fun _=>.inl rfl) (.inr ⟨_,vs.toArray,_,hk,rfl,rfl,rfl,by rw [List.size_toArray,lenV];exact hl,by simpa using rv⟩) (fun b u z=>by have z':(none:Option HO)=some u:=z;cases z') (fun b z=>absurd rfl z) fun z=>absurd rfl z
 | none =>
  refine core (fun b=>if b=a then some (.frz { cls:=.type "list",data:=.seq vs.toArray } (.lst (ns.map V.int))) else none) (fun b=>?_) (.inl (.inr ⟨{ cls:=.type "list",data:=.seq vs.toArray },if_pos rfl⟩)) (fun b u z=>?_) (fun b z=>?_) fun _=>hk
  . by_cases hb:b=a
    . exact .inr ⟨_,_,if_pos hb⟩
    . exact .inl (if_neg hb)
  . by_cases hb:b=a
    . have z':=(if_pos hb).symm.trans z
      cases z'
      subst hb
      exact ⟨ha,by rw [Zi];exact hl,vs,_,rv,ha⟩
    . have z':=(if_neg hb).symm.trans z
      cases z'
  . by_cases hb:b=a
    . exact hb
    . exact absurd (if_neg hb) z
end L2
namespace L2
open PySem PySem.Spec PyProof.Rows
end L2
namespace L2
open PySem PySem.Spec PyProof.Rows
abbrev CX0:CXT:=fun _ _ _ _ _ _=>False
abbrev E0:XK:=fun _ _ _=>False
theorem vG {X:Cx}:u7 CX0 X E0:=fun _ _ _ _ _ _ _ h=>h.elim
structure Fun (K:PySem.W.Frag) (x qual:Str) (st:Stmt) (f:Addr) (fd:FuncData):Prop where
 ex:∃ (oc:Value) (od:Option Addr) (kV doc pm:Value) (an:Option Addr) (cdv ct:Value) (osl:Array (Option Value)),
  fd=PySem.W.fnOf x qual (dc st) (bM st) (al st) .none kV doc pm an cdv ct/\K.lookup f=some ⟨oc,od,.func fd,osl⟩/\PySem.W.codeIn K cdv qual=true
 kp:PySem.W.keepIn K (.ref f)=true
section
variable {P:Program} {w:World} {K:PySem.W.Frag} {mg:Str->Option Value} {base:Heap}
theorem Fun.ok {x qual:Str} {st:Stmt} {f:Addr} {fd:FuncData} {N ps:List Str} {k:Nat} {sp:Sp} (F:Fun K x qual st f fd) (S:aD N ps (al st)) (len:∀ vs H Q E,sp vs H Q E->vs.length=ps.length)
 (hbody:∀ (cdv:Value) (A:Around) (outer:List Env) (s:Shared) (H:Hp) (vs:List V) (Q:VK) (E:XK),Room k (A.deeper (envOfC qual (al st) s.heap.objs.size f cdv))->sp vs H Q E ->
  ∃ t,PSs (oS CX0 P w K mg base N qual (al st) f cdv A outer s H E).nox (bM st) t/\t { nx:=fun _ H'=>Q .non H',rt:=Q } (start N vs) H):FnOk P w K mg base CX0 (k+1) f fd ps sp:=by
 obtain ⟨oc,od,kV,doc,pm,an,cdv,ct,osl,rfl,lk,hcd⟩:=F.ex
 refine Bc lk hcd S len fun A outer s H vs Q E hr hsp=>?_
 obtain ⟨t,h,q⟩:=hbody cdv A outer s H vs Q E hr hsp
 exact ⟨t,h.nox,q⟩
theorem Fun.binds {x qual:Str} {st:Stmt} {f:Addr} {fd:FuncData} {ps:List Str} (F:Fun K x qual st f fd)
 (h:∀ (kV doc pm:Value) (an:Option Addr) (cdv ct:Value) (us:List Value),us.length=ps.length->bindArgs (PySem.W.fnOf x qual (dc st) (bM st) (al st) .none kV doc pm an cdv ct) ⟨us,[]⟩=pure (ps.zip us)):Binds K fd ps []:=by
 obtain ⟨oc,od,kV,doc,pm,an,cdv,ct,osl,rfl,lk,hcd⟩:=F.ex
 exact .all (h kV doc pm an cdv ct)
theorem zc {x qual:Str} {st:Stmt} {f:Addr} {oc:Value} {od an:Option Addr} {osl:Array (Option Value)} {kV doc pm cdv ct:Value} (l:K.lookup f=some ⟨oc,od,.func (PySem.W.fnOf x qual (dc st) (bM st) (al st) .none kV doc pm an cdv ct),osl⟩)
 (c:PySem.W.codeIn K cdv qual=true) (k:PySem.W.keepIn K (.ref f)=true):Fun K x qual st f (PySem.W.fnOf x qual (dc st) (bM st) (al st) .none kV doc pm an cdv ct):=⟨⟨oc,od,kV,doc,pm,an,cdv,ct,osl,rfl,l,c⟩,k⟩
end
theorem oH {A:Around} {k:Nat} (hr:Room k A):A.units+1 < cLine:=Nat.lt_of_le_of_lt (Nat.add_le_add_left (by decide:1<=64) _) hr.units
theorem jC {n:Nat} (h:n<=1000):n < sizeLine:=Nat.lt_of_le_of_lt h (by decide)
section
variable {X:Cx}
end
def Same (H H':Hp):Prop:=∀ b o,H b=some o->H' b=some o
theorem Same.refl (H:Hp):Same H H:=fun _ _ h=>h
theorem Same.trans {H H1 H2:Hp} (a:Same H H1) (b:Same H1 H2):Same H H2:=fun c o h=>b c o (a c o h)
theorem Same.seq {K:PySem.W.Frag} {H H':Hp} {a:Addr} {xs:List V} (e:Same H H') (h:SqL K H a xs):SqL K H' a xs:=by
 rcases h with (h | ⟨o,h⟩) | h
 . exact .inl (.inl (e _ _ h))
 . exact .inl (.inr ⟨o,e _ _ h⟩)
 . exact .inr h
end L2
namespace L2
open PySem PySem.Spec PyProof.Rows
end L2
namespace L2
open PySem PySem.Spec PyProof.Rows
section
variable (P:Program) (w:World)
end
section
variable {P:Program} {w:World} {H H':Hp} {h h':Heap} {a:Addr} {o:HO}
end
section
variable {P:Program} {w:World} {H:Hp} {h h':Heap} {x e:Addr} {o':HO}
end
section
variable {fs fs' ex ex':List Addr} {H H1 H2:Hp} {h h1 h2 h':Heap} {a x e:Addr} {o:HO}
end
end L2
namespace L2
open PySem PySem.Spec PyProof.Rows
section
variable {X:Cx} {pins:List (Addr×Obj)} {σ:List (Option V)} {H H':Hp} {s:Shared} {h':Heap}
end
end L2
namespace L2
open PySem PySem.Spec PyProof.Rows
section
variable {X:Cx}
variable {a b:Expr} {ta tb:TE} {pos:Pos}
variable {tA tB':TT} {rest:List Expr}
end
end L2
namespace L2
open PySem PySem.Spec PyProof.Rows
section
variable {X:Cx} {pins:List (Addr×Obj)} {σ:St} {H:Hp} {s:Shared} {a:Addr} {xs ys:List V}
end
section
variable {X:Cx} {pins:List (Addr×Obj)} {σ:St} {H:Hp} {s:Shared} {E:Value->Shared->Prop}
end
section
variable {X:Cx} {st:Stmt} {rest:List Stmt} {t u:TS} {e:Expr} {te:TE} {pos:Pos}
end
section
variable {X:Cx} {pos:Pos}
end
section
variable {X:Cx} {pos:Pos}
end
end L2
namespace L2
open PySem PySem.Spec PyProof.Rows
section
variable {X:Cx} {tg:Expr}
end
end L2
namespace L2
open PySem PySem.Spec PyProof.Rows
section
variable {X:Cx} {a b c:Expr} {ta tb tc:TE} {pos:Pos}
end
section
variable {X:Cx} {a b c:Expr} {ta tb tc:TE} {pos:Pos}
end
end L2
namespace L2
open PySem PySem.Spec PyProof.Rows
section
variable {prog:Program} {w:World} {A:Around} {E:Value->Shared->Prop} {s:Shared} {K:PySem.W.Frag} {x dx C f:Addr} {mA:Str->Option Value} {name:Str} {v:Value}
end
section
variable {P:Program} {w:World} {H H':Hp} {h h':Heap} {a C dx:Addr} {fs fs':List (Str×V)}
end
section
variable {X:Cx} {pins:List (Addr×Obj)} {σ:St} {H:Hp} {s:Shared} {a C dx:Addr} {fs:List (Str×V)} {f:Str} {v:V} {A:Around} {E:Value->Shared->Prop}
end
section
variable {X:Cx} {o e value:Expr} {f:Str} {pos pos' tpos:Pos} {ta tv:TE}
end
section
variable {X:Cx} {pins:List (Addr×Obj)} {σ:St} {H:Hp} {s:Shared} {A:Around} {E:Value->Shared->Prop} {Q:Value->Shared->Prop} {c:Value} {b:Bool}
end
end L2
namespace L2
open PySem PySem.Spec PyProof.Rows
section
variable {X:Cx} {e:Expr} {es:List Expr} {te:TE} {t:TA} {pos:Pos}
end
section
variable {X:Cx} {pins:List (Addr×Obj)} {σ:St} {H:Hp} {s s':Shared}
end
section
variable {X:Cx} {CX:CXT} {k:Nat} {f C:Addr} {fd:FuncData} {ps:List Str} {sp:Sp} {dvs:List V} {ds:List Value} {E:XK} {x m:Str} {p pos apos:Pos} {e o:Expr} {es:List Expr} {ta:TE} {t:TA}
end
section
variable {X:Cx} {CX:CXT} {k:Nat} {f C:Addr} {fd:FuncData} {ps ks:List Str} {sp:Sp} {E:XK} {x m:Str} {p pos apos kpos:Pos} {e o:Expr} {es:List Expr} {kws:List Keyword} {te ta:TE} {t tk:TA} {nm:Option Str}
variable {g:List Value->List Value->List Value} {gV:List V->List V->List V}
end
end L2
namespace L2
open PySem PySem.Spec PyProof.Rows
section
variable {X:Cx} {x:Str} {p pos:Pos} {e:Expr} {es:List Expr} {t:TA} {id T:String} {r:List V->Hp->VK->Prop}
end
end L2
namespace L2
open PySem PySem.Spec PyProof.Rows
section
variable {κ:Type} [DecidableEq κ]
def kw (kvs:List (κ×V)) (k:κ):Option V:=(kvs.find? fun kv=>decide (kv.1=k)).map (·.2)
def jh (kvs:List (κ×V)) (k:κ) (v:V):List (κ×V) :=
 if (kvs.any fun kv=>decide (kv.1=k))=true then kvs.map (fun kv=>if kv.1=k then (kv.1,v) else kv) else kvs++[(k,v)]
theorem kr {p:κ×V} {r:List (κ×V)} {k:κ} (e:p.1=k):kw (p :: r) k=some p.2:=by simp [kw,List.find?_cons,e]
theorem ku {p:κ×V} {r:List (κ×V)} {k:κ} (e:¬ p.1=k):kw (p :: r) k=kw r k:=by simp [kw,List.find?_cons,e]
theorem rV (k:κ):∀ kvs:List (κ×V),(kvs.any fun kv=>decide (kv.1=k))=(kw kvs k).isSome
 | []=>rfl
 | p :: r=>by
  rw [List.any_cons]
  by_cases e:p.1=k
  . simp only [kr e,decide_eq_true e,Bool.true_or,Option.isSome_some]
  . rw [ku e,decide_eq_false e,Bool.false_or];exact rV k r
theorem jq (kvs:List (κ×V)) (k:κ) (v:V):(jh kvs k v).length<=kvs.length+1:=by
 unfold jh
 split
 . rw [Zi];omega
 . rw [Zh,List.length_cons,List.length_nil];omega
theorem RelO.isSome_eq {o:Option V} {u:Option Value} (r:RelO o u):o.isSome=u.isSome:=by
 cases o with
 | none=>cases u with
  | none=>rfl
  | some _=>exact (show False from r).elim
 | some _=>cases u with
  | none=>exact (show False from r).elim
  | some _=>rfl
theorem KV.val {kvs:List (κ×V)} {vs:List (κ×Value)} (r:KV kvs vs) (k:κ):RelO (kw kvs k) (valueAt vs k):=by
 unfold KV at r
 induction r with
 | nil=>exact True.intro
 | @cons p q ps qs h t ih =>
  obtain ⟨h1,h2⟩:=h
  by_cases e:p.1=k
  . have e':q.1=k:=h1.symm.trans e
    have b:valueAt (q :: qs) k=some q.2:=by simp [valueAt,List.find?_cons,e']
    rw [kr e,b];exact h2
  . have e':¬ q.1=k:=fun z=>e (h1.trans z)
    have b:valueAt (q :: qs) k=valueAt qs k:=by simp [valueAt,List.find?_cons,e']
    rw [ku e,b];exact ih
theorem KV.any {kvs:List (κ×V)} {vs:List (κ×Value)} (r:KV kvs vs) (k:κ):(kvs.any fun kv=>decide (kv.1=k))=vs.any fun kv=>decide (kv.1=k):=by
 unfold KV at r
 induction r with
 | nil=>rfl
 | cons h t ih=>rw [List.any_cons,List.any_cons,ih,h.1]
theorem KV.repl {kvs:List (κ×V)} {vs:List (κ×Value)} (r:KV kvs vs) (k:κ) {y:V} {u:Value} (ry:RelV y u) :
 KV (kvs.map fun kv=>if kv.1=k then (kv.1,y) else kv) (vs.map fun kv=>if kv.1=k then (kv.1,u) else kv):=by
 unfold KV at r ⊢
 induction r with
 | nil=>exact .nil
 | @cons p q ps qs h t ih =>
  rw [Zq,Zq]
  refine .cons ?_ ih
  obtain ⟨h1,h2⟩:=h
  by_cases e:p.1=k
  . rw [if_pos e,if_pos (h1.symm.trans e)];exact ⟨h1,ry⟩
  . rw [if_neg e,if_neg (fun z=>e (h1.trans z))];exact ⟨h1,h2⟩
theorem KV.put {kvs:List (κ×V)} {vs:List (κ×Value)} (r:KV kvs vs) (k:κ) {y:V} {u:Value} (ry:RelV y u):KV (jh kvs k y) (stored vs k u):=by
 unfold jh stored
 rw [r.any k]
 by_cases e:(vs.any fun kv=>decide (kv.1=k))=true
 . rw [if_pos e,if_pos e];exact r.repl k ry
 . rw [if_neg e,if_neg e];exact Paired.snoc r ⟨rfl,ry⟩
theorem KV.keys {kvs:List (κ×V)} {vs:List (κ×Value)} (r:KV kvs vs):kvs.map (·.1)=vs.map (·.1):=by
 unfold KV at r
 induction r with
 | nil=>rfl
 | cons h t ih=>rw [Zq,Zq,ih,h.1]
theorem KV.length {kvs:List (κ×V)} {vs:List (κ×Value)} (r:KV kvs vs):kvs.length=vs.length:=Paired.length r
end
theorem sZ {P:Program} {w:World} {k:Key} {u:Value} (r:RelV (kV k) u):(bT P w).is k u=true:=by
 cases k with
 | inl i=>obtain ⟨t,e⟩:=(show ∃ t,u=Value.int i t from r);subst e;exact sU P w i t
 | inr x=>obtain ⟨t,e⟩:=(show ∃ t,u=Value.str x t from r);subst e;exact sS P w x t
theorem qa {P:Program} {w:World}:∀ {ks:List Key} {us:List Value},Vals (ks.map kV) us->ItemsAre (bT P w) ks us
 | [],_,r=>by rw [List.map_nil] at r;cases r;exact .nil
 | k :: ks,_,r=>by
  rw [Zq] at r
  cases r with
  | cons h t=>exact .cons (sZ h) (qa t)
abbrev KT (H:Hp):List (List Key×V)->List (List Key×Addr×Value)->Prop:=Paired fun p q=>p.1=q.1/\H q.2.1=some (.tup (p.1.map kV))/\RelV p.2 q.2.2
theorem KT.val {H:Hp} {kvs:List (List Key×V)} {xs:List (List Key×Addr×Value)} (r:KT H kvs xs) (k:List Key):RelO (kw kvs k) ((atKey xs k).map (·.2)):=by
 induction r with
 | nil=>exact True.intro
 | @cons p q ps qs h t ih =>
  obtain ⟨h1,_,h2⟩:=h
  by_cases e:p.1=k
  . have e':q.1=k:=h1.symm.trans e
    have b:atKey (q :: qs) k=some q.2:=by simp [atKey,List.find?_cons,e']
    rw [kr e,b];exact h2
  . have e':¬ q.1=k:=fun z=>e (h1.trans z)
    have b:atKey (q :: qs) k=atKey qs k:=by simp [atKey,List.find?_cons,e']
    rw [ku e,b];exact ih
theorem KT.repl {H:Hp} {kvs:List (List Key×V)} {xs:List (List Key×Addr×Value)} (r:KT H kvs xs) (k:List Key) {y:V} {u:Value} (ry:RelV y u) :
 KT H (kvs.map fun kv=>if kv.1=k then (kv.1,y) else kv) (xs.map (putAt k u)):=by
 induction r with
 | nil=>exact .nil
 | @cons p q ps qs h t ih =>
  rw [Zq,Zq]
  refine .cons ?_ ih
  obtain ⟨h1,h2,h3⟩:=h
  unfold putAt
  by_cases e:p.1=k
  . rw [if_pos e,if_pos (h1.symm.trans e)];exact ⟨h1,h2,ry⟩
  . rw [if_neg e,if_neg (fun z=>e (h1.trans z))];exact ⟨h1,h2,h3⟩
theorem KT.put {H:Hp} {kvs:List (List Key×V)} {xs:List (List Key×Addr×Value)} (r:KT H kvs xs) (k:List Key) {b:Addr} {y:V} {u:Value} (hb:H b=some (.tup (k.map kV))) (ry:RelV y u) :
 KT H (jh kvs k y) (storedH xs k b u):=by
 have e:(kvs.any fun kv=>decide (kv.1=k))=(atKey xs k).isSome:=by
  rw [rV,(r.val k).isSome_eq,Option.isSome_map]
 unfold jh storedH
 rw [e]
 by_cases q:(atKey xs k).isSome=true
 . rw [if_pos q,if_pos q];exact r.repl k ry
 . rw [if_neg q,if_neg q];exact Paired.snoc r ⟨rfl,hb,ry⟩
theorem KT.keeps {H H':Hp} {kvs:List (List Key×V)} {xs:List (List Key×Addr×Value)} (r:KT H kvs xs) (ht:∀ b ys,H b=some (.tup ys)->H' b=some (.tup ys)):KT H' kvs xs :=
 Paired.mapP r fun _ _ z=>⟨z.1,ht _ _ z.2.1,z.2.2⟩
section
variable {P:Program} {w:World} {H:Hp} {h:Heap} {a:Addr}
theorem AU {u:HO} (ok:HOk P w H h) (e:Rd H a u):ObjOk P w H h a u:=e.ok ok
theorem tX {kvs:List (Key×V)} (ok:HOk P w H h) (e:Rd H a (.dK kvs)):kvs.length<=sizeLine/\(a == sysModules)=false/\∃ vs,KV kvs vs/\h.DictOf (bT P w) a vs :=
 show ObjOk P w H h a (.dK kvs) from AU ok e
theorem Bf {kvs:List (Key×V)} (ok:HOk P w H h) (e:H a=some (.dK kvs)):kvs.length<=sizeLine/\(a == sysModules)=false/\∃ vs,KV kvs vs/\h.DictOf (bT P w) a vs:=tX ok (.inl e)
theorem rg {ks:List Key} (ok:HOk P w H h) (e:H a=some (.tup (ks.map kV))):(tupleKind (bT P w)).is h ks a:=by
 obtain ⟨_,its,r,o,h1,h2,n,h3⟩:=(show ObjOk P w H h a (.tup (ks.map kV)) from ok a _ e)
 exact ⟨o,its.toArray,n,h1,h2,h3,by simpa using qa r⟩
theorem wx {kvs:List (List Key×V)} (ok:HOk P w H h) (e:Rd H a (.dT kvs)):kvs.length<=sizeLine/\(a == sysModules)=false /\
 ∃ xs,KT H kvs xs/\h.DictOfH (tupleKind (bT P w)) a xs:=by
 obtain ⟨z,y,xs,r,o,es,ep,h1,h2,h3,h4,h5⟩:=(show ObjOk P w H h a (.dT kvs) from AU ok e)
 refine ⟨z,y,xs,r,o,es,ep,h1,h2,h3,h4,fun x hx=>?_,h5⟩
 have all:∀ {l:List (List Key×V)} {m:List (List Key×Addr×Value)},KT H l m->∀ x∈m,(tupleKind (bT P w)).is h x.1 x.2.1:=by
  intro l m q
  induction q with
  | nil=>intro x hx;exact nomatch hx
  | @cons p q ps qs hq t ih =>
   intro x hx
   rcases Zp.mp hx with e | hx
   . subst e
     exact rg ok (by rw [<- hq.1];exact hq.2.1)
   . exact ih x hx
 exact all r x hx
theorem DF {kvs:List (List Key×V)} (ok:HOk P w H h) (e:H a=some (.dT kvs)):kvs.length<=sizeLine/\(a == sysModules)=false /\
 ∃ xs,KT H kvs xs/\h.DictOfH (tupleKind (bT P w)) a xs:=wx ok (.inl e)
end
def xH (H:Hp) (a:Addr) (y:V) (r:Option V):Prop :=
 (∃ kvs k,Rd H a (.dK kvs)/\y=kV k/\r=kw kvs k) \/ ∃ kvs k b,Rd H a (.dT kvs)/\y=.ref b/\H b=some (.tup (k.map kV))/\r=kw kvs k
def DPut (H:Hp) (a:Addr) (y v:V) (H':Hp):Prop :=
 (∃ kvs k,H a=some (.dK kvs)/\y=kV k/\kvs.length < sizeLine/\H'=upd H a (.dK (jh kvs k v))) \/
 ∃ kvs k b,H a=some (.dT kvs)/\y=.ref b/\H b=some (.tup (k.map kV))/\kvs.length < sizeLine/\H'=upd H a (.dT (jh kvs k v))
theorem DPut.k {H:Hp} {a:Addr} {kvs:List (Key×V)} {k:Key} {v:V} (e:H a=some (.dK kvs)) (hl:kvs.length < sizeLine):DPut H a (kV k) v (upd H a (.dK (jh kvs k v))):=.inl ⟨kvs,k,e,rfl,hl,rfl⟩
section
variable {X:Cx} {pins:List (Addr×Obj)} {σ:St} {H:Hp} {s:Shared} {a:Addr} {y v:V} {u r:Value} {o:Option V} {A:Around} {E:Value->Shared->Prop}
theorem Inv.big (I:Inv X pins σ H s):sysModules < s.heap.objs.size:=by
 have h:mainGlobals < s.heap.objs.size:=(I.mod.glob.keeps I.bk).lt
 exact Nat.lt_trans (by decide) h
theorem xA {Q:Value->Shared->Prop} (hu:A.units+1 < cLine) (I:Inv X pins σ H s) (g:xH H a y (some v)) (ry:RelV y u) (h:∀ w' s',Inv X pins σ H s'->RelV v w'->Q w' s') :
 wpAny (model X.prog X.w) A (getItem (.ref a) u) Q E s:=by
 rcases g with ⟨kvs,k,e,ey,l⟩ | ⟨kvs,k,b,e,ey,eb,l⟩
 . subst ey
   obtain ⟨z,hd,vs,rel,dd⟩:=tX I.hok e
   obtain ⟨w',hw,rw'⟩:=RelO.some_of (v:=v) (o:=valueAt vs k) (by rw [l];exact rel.val k)
   exact wpAny_getItem_of (sZ ry) dd.mapOf hw (h w' _ (I.tok _) rw')
 . subst ey
   cases (show u=Value.ref b from ry)
   obtain ⟨z,hd,xs,rel,dd⟩:=wx I.hok e
   obtain ⟨w',hw,rw'⟩:=RelO.some_of (v:=v) (o:=(atKey xs k).map (·.2)) (by rw [l];exact rel.val k)
   obtain ⟨p,hp,hp2⟩:=Zb.mp hw
   refine wpAny_getItem_heap (tupleKind_room_in1 hu) (rg I.hok eb) dd hp ?_
   rw [hp2]
   exact h w' _ (I.tok _) rw'
theorem AH {Q:Value->Shared->Prop} (hu:A.units+1 < cLine) (I:Inv X pins σ H s) (g:xH H a y o) (ry:RelV y u) (h:∀ s',Inv X pins σ H s'->Q (.bool (!o.isSome)) s') :
 wpAny (model X.prog X.w) A (compareOp .NotIn u (.ref a)) Q E s:=by
 rcases g with ⟨kvs,k,e,ey,l⟩ | ⟨kvs,k,b,e,ey,eb,l⟩
 . subst ey
   obtain ⟨z,hd,vs,rel,dd⟩:=tX I.hok e
   refine wpAny_notIn_of (sZ ry) hd dd.mapOf ?_
   rw [<- (rel.val k).isSome_eq,<- l]
   exact h _ (I.tok _)
 . subst ey
   cases (show u=Value.ref b from ry)
   obtain ⟨z,hd,xs,rel,dd⟩:=wx I.hok e
   refine wpAny_notIn_heap (tupleKind_room_in1 hu) (rg I.hok eb) hd dd ?_
   have q:=(rel.val k).isSome_eq
   rw [Option.isSome_map] at q
   rw [<- q,<- l]
   exact h _ (I.tok _)
theorem rK {h':Heap} {t':Nat} {ob:HO} (I:Inv X pins σ H s) (mu:Mut (H a)) (hs:Heap.SameBut a s.heap h') (he:∃ q,h'.get? a=some q) (new:ObjOk X.prog X.w (upd H a ob) h' a ob) :
 Inv X pins σ (upd H a ob) { s with heap:=h',toks:=t' } :=
 I.write (x:=a) (e:=a) mu (.inl rfl) (fun b q hb z=>(hs.2 b hb).trans z) he new
theorem uS {P:Program} {w:World} {H':Hp} {h':Heap} {kvs:List (Key×V)} {vs:List (Key×Value)} (z:kvs.length<=sizeLine) (hd:(a == sysModules)=false) (rel:KV kvs vs) (dd:h'.DictOf (bT P w) a vs) :
 ObjOk P w H' h' a (.dK kvs):=⟨z,hd,vs,rel,dd⟩
theorem xz {H':Hp} {Q:Unit->Shared->Prop} (hu:A.units+1 < cLine) (I:Inv X pins σ H s) (g:DPut H a y v H') (ry:RelV y u) (rv:RelV v r) (h:∀ s',Inv X pins σ H' s'->Q () s') :
 wpAny (model X.prog X.w) A (setItem (.ref a) u r) Q E s:=by
 rcases g with ⟨kvs,k,e,ey,l,eH⟩ | ⟨kvs,k,b,e,ey,eb,l,eH⟩
 . subst ey eH
   obtain ⟨z,hd,vs,rel,dd⟩:=Bf I.hok e
   have hz:vs.length<=sizeLine:=by rw [<- rel.length];exact z
   have hl:(jh kvs k v).length<=sizeLine:=by have:=jq kvs k v;omega
   refine wpAny_setItem_pairs (hsz:=hz) (sZ ry) dd fun h' dd' hs=>h _ ?_
   have he:∃ q,h'.get? a=some q:=let ⟨q,_,_,hq,_⟩:=dd';⟨q,hq⟩
   exact rK I (by rw [e];exact True.intro) hs he (uS hl hd (rel.put k rv) dd')
 . subst ey eH
   cases (show u=Value.ref b from ry)
   obtain ⟨z,hd,xs,rel,dd⟩:=DF I.hok e
   have hz:xs.length<=sizeLine:=by rw [<- Paired.length rel];exact z
   have hl:(jh kvs k v).length<=sizeLine:=by have:=jq kvs k v;omega
   refine wpAny_setItem_heap (hsz:=hz) (tupleKind_room_in1 hu) (rg I.hok eb) dd fun h' dd' hs=>h _ ?_
   obtain ⟨q,es,ep,hq,h2,h3,h4,_,h5⟩:=dd'
   refine rK I (by rw [e];exact True.intro) hs ⟨q,hq⟩ ⟨hl,hd,_,(rel.put k eb rv).keeps fun c ys ec=>?_,q,es,ep,hq,h2,h3,h4,h5⟩
   rw [aB (Dq ec e (fun z=>nomatch z))]
   exact ec
end
section
variable {X:Cx} {pins:List (Addr×Obj)} {σ:St} {H:Hp} {s:Shared} {a:Addr} {kvs:List (Key×V)} {k:Key} {u:Value} {A:Around} {E:Value->Shared->Prop}
end
def CG (i:Expr):Prop:=∀ ov iv,subscripted i false ov iv=operate [ov,iv] (getItem ov iv)
theorem zJ {prog:Program} {w:World} {A:Around} {E:Value->Shared->Prop} {s:Shared} {env:Env} {value slice:Expr} {pos:Pos} {T id:String} {Q:Value->Shared->Prop}
 (hl:typeLookup (.type T) "__getitem__" = pure (some (.builtin id))) (hs:CG slice)
 (h:wpAny (model prog w) A (eval value env) (fun o s₁=>wpAny (model prog w) A (eval slice env) (fun i s₂=>s₂.TypeIs o T/\wpAny (model prog w) A (getItem o i) Q E s₂) E s₁) E s) :
 wpAny (model prog w) A (eval (.Subscript value slice pos) env) Q E s:=by
 refine Subscript_ (wpAny_mono h (fun o s₁ h₁=>wpAny_mono h₁ (fun i s₂ h₂=>?_) fun _ _ x=>x) fun _ _ x=>x)
 obtain ⟨hT,h₂⟩:=h₂
 unfold subscriptTail
 refine wpAny_bind ?_
 rw [getitemInPython_of_ne hT.not_modules]
 refine wpAny_bind (wpAny_specialOf hT hl ?_)
 have fin:wpAny (model prog w) A (subscripted slice false o i) (fun r s₃=>wpAny (model prog w) A (letTemporaryGo value o r >>= fun _=>pure r) Q E s₃) E s₂:=by
  rw [hs o i]
  exact wpAny_operating (wpAny_mono h₂ (fun r s₃ h₃=>wpAny_bind (wpAny_letTemporaryGo (wpAny_pure h₃))) fun _ _ x=>x)
 first
  | exact wpAny_pure (wpAny_bind fin)
  | exact wpAny_bind (wpAny_pure (wpAny_bind fin))
  | exact wpAny_bind fin
theorem tY {X:Cx} {pins:List (Addr×Obj)} {σ:St} {H:Hp} {s:Shared} {a:Addr} {y:V} {o:Option V} (I:Inv X pins σ H s) (g:xH H a y o):s.TypeIs (.ref a) "dict":=by
 rcases g with ⟨kvs,k,e,_,_⟩ | ⟨kvs,k,b,e,_,_,_⟩
 . obtain ⟨_,_,vs,_,dd⟩:=tX I.hok e
   exact dd.typeIs
 . obtain ⟨_,_,xs,_,dd⟩:=wx I.hok e
   exact dd.typeIs
def CT (td ty:TE):TE:=fun σ H Q=>td σ H fun x H1=>ty σ H1 fun y H2=>∃ a v,x=.ref a/\xH H2 a y (some v)/\Q v H2
def vd (ty td:TE):TE:=fun σ H Q=>ty σ H fun y H1=>td σ H1 fun x H2=>∃ a o,x=.ref a/\xH H2 a y o/\Q (.bl (!o.isSome)) H2
def CY (td ty tv:TE):TS:=fun D σ H=>tv σ H fun v H1=>td σ H1 fun x H2=>ty σ H2 fun y H3=>∃ a H4,x=.ref a/\DPut H3 a y v H4/\D.nx σ H4
section
variable {X:Cx} {o i e value:Expr} {pos pos' tpos:Pos} {td ty tv:TE}
theorem z6 (hu:X.A.units+1 < cLine) (ho:PE X o td) (hi:PE X i ty) (hs:CG i):PE X (.Subscript o i pos) (CT td ty):=by
 intro pins s σ H Q I h
 refine zJ PySem.F.slot_dict_getitem.lookup hs (thn (ho pins s σ H _ I h) fun u s1 ⟨x,H1,I1,rx,q1⟩=>thn (hi pins s1 σ H1 _ I1 q1) fun iv s2 ⟨y,H2,I2,ry,a,v,ex,g,q2⟩=>?_)
 subst ex
 obtain rfl:u=Value.ref a:=rx
 exact ⟨tY I2 g,xA hu I2 g ry fun w' s3 I3 rw'=>⟨v,H2,I3,rw',q2⟩⟩
theorem xb (hu:X.A.units+1 < cLine) (hi:PE X i ty) (ho:PE X o td):PC X .NotIn i o (vd ty td):=by
 intro pins s σ H Q I h
 refine thn (hi pins s σ H _ I h) fun iv s1 ⟨y,H1,I1,ry,q1⟩=>thn (ho pins s1 σ H1 _ I1 q1) fun u s2 ⟨x,H2,I2,rx,a,ov,ex,g,q2⟩=>?_
 subst ex
 obtain rfl:u=Value.ref a:=rx
 exact AH hu I2 g ry fun s3 I3=>⟨.bl (!ov.isSome),H2,I3,rfl,q2⟩
theorem zU (hu:X.A.units+1 < cLine) (ho:PE X o td) (hi:PE X i ty) (hv:PE X value tv) (hs:swapsWith value (some (.Subscript o i pos')) pos.line X.env=pure false) :
 PS X (.Assign [.Subscript o i pos'] value pos) (CY td ty tv):=by
 intro pins s σ H D I h
 refine wpAny_Assign_Subscript (thn (hv pins s σ H _ I h) fun r s1 ⟨v,H1,I1,rv,q1⟩=>thn (ho pins s1 σ H1 _ I1 q1) fun u s2 ⟨x,H2,I2,rx,q2⟩=>thn (hi pins s2 σ H2 _ I2 q2) fun iv s3 ⟨y,H3,I3,ry,a,H4,ex,g,q3⟩=>?_) hs
 subst ex
 obtain rfl:u=Value.ref a:=rx
 exact xz hu I3 g ry rv fun s4 I4=>⟨σ,H4,I4,q3⟩
end
theorem zq {P:Program} {w:World} {H:Hp} (h:Heap) (hb:sysModules < h.objs.size):ObjOk P w H (h.push { cls:=.type "dict",data:=.dict #[] }) h.objs.size (.dK []) :=
 ⟨Nat.zero_le _,beq_eq_false_iff_ne.mpr (Ne.symm (Nat.ne_of_lt hb)),[],.nil,Heap.DictOf.new h⟩
section
variable {X:Cx} {pos:Pos}
end
def ui:List (TE×TE)->St->Hp->(List (V×V)->Hp->Prop)->Prop
 | [],_,H,Q=>Q [] H
 | (tk,tv) :: r,σ,H,Q=>tk σ H fun x H1=>tv σ H1 fun y H2=>ui r σ H2 fun ps H3=>Q ((x,y) :: ps) H3
abbrev VV:List (V×V)->List (Value×Value)->Prop:=Paired fun p q=>RelV p.1 q.1/\RelV p.2 q.2
def PPs (X:Cx) (pos:Pos) (keys:List (Option Expr)) (values:List Expr) (trs:List (TE×TE)):Prop :=
 ∀ (pins:List (Addr×Obj)) (s:Shared) (σ:St) (H:Hp) (Q:List (V×V)->Hp->Prop),Inv X pins σ H s->ui trs σ H Q ->
  wpAny (model X.prog X.w) X.A (evalPairs (pairTrees keys values X.env pos)) (fun vs s'=>∃ ps H',Inv X pins σ H' s'/\VV ps vs/\Q ps H') X.xe s
theorem vz {X:Cx} {pos:Pos}:PPs X pos [] [] []:=fun pins s σ H Q I h=>pairTrees_nil_walk ⟨[],H,I,.nil,h⟩
theorem sD {X:Cx} {pos:Pos} {k v:Expr} {ks:List (Option Expr)} {vs:List Expr} {tk tv:TE} {trs:List (TE×TE)} (hk:PE X k tk) (hv:PE X v tv) (hr:PPs X pos ks vs trs) :
 PPs X pos (some k :: ks) (v :: vs) ((tk,tv) :: trs):=fun pins s σ H Q I h =>
 pairTrees_cons_walk (thn (hk pins s σ H _ I h) fun u s1 ⟨x,H1,I1,rx,q1⟩=>thn (hv pins s1 σ H1 _ I1 q1) fun w2 s2 ⟨y,H2,I2,ry,q2⟩ =>
  thn (hr pins s2 σ H2 _ I2 q2) fun ws s3 ⟨ps,H3,I3,rel,q3⟩=>⟨(x,y) :: ps,H3,I3,.cons ⟨rx,ry⟩ rel,q3⟩)
def oo (kvs more:List (Key×V)):List (Key×V):=more.foldl (fun acc kv=>jh acc kv.1 kv.2) kvs
theorem KV.merge:∀ {more:List (Key×V)} {rs:List (Key×Value)} {kvs:List (Key×V)} {vs:List (Key×Value)},KV more rs->KV kvs vs->KV (oo kvs more) (merged vs rs):=by
 intro more rs kvs vs r
 unfold KV at r
 induction r generalizing kvs vs with
 | nil=>intro q;exact q
 | @cons p q ps qs h t ih =>
  intro r0
  have e:KV (jh kvs p.1 p.2) (stored vs q.1 q.2):=by
   have:=r0.put p.1 h.2
   rw [<- h.1];exact this
  exact ih e
theorem jZ:∀ (more kvs:List (Key×V)),(oo kvs more).length<=kvs.length+more.length
 | [],kvs=>by show kvs.length<=kvs.length+0;omega
 | p :: r,kvs=>by
  have h1:=jZ r (jh kvs p.1 p.2)
  have h2:=jq kvs p.1 p.2
  show (oo (jh kvs p.1 p.2) r).length<=_
  rw [List.length_cons];omega
theorem oW {P:Program} {w:World}:∀ {kvs:List (Key×V)} {ws:List (Value×Value)},VV (kvs.map fun kv=>(kV kv.1,kv.2)) ws->∃ rs,Carries (bT P w) ws rs/\KV kvs rs
 | [],_,r=>by rw [List.map_nil] at r;cases r;exact ⟨[],True.intro,.nil⟩
 | p :: kvs,_,r=>by
  rw [Zq] at r
  cases r with
  | @cons a b as bs h t =>
   obtain ⟨rs,c,q⟩:=oW (P:=P) (w:=w) t
   obtain ⟨b1,b2⟩:=b
   exact ⟨(p.1,b2) :: rs,⟨sZ h.1,rfl,c⟩,.cons ⟨rfl,h.2⟩ q⟩
def CS (trs:List (TE×TE)):TE:=fun σ H Q=>∀ p,H p=none->ui trs σ (upd H p (.dK [])) fun ps H2=>H2 p=some (.dK [])/\∃ kvs:List (Key×V),ps=kvs.map (fun kv=>(kV kv.1,kv.2))/\kvs.length<=15/\Q (.ref p) (upd H2 p (.dK (oo [] kvs)))
theorem vE {X:Cx} {pos:Pos} {keys:List (Option Expr)} {values:List Expr} {trs:List (TE×TE)} (h:PPs X pos keys values trs) (hall:keys.all (·.isSome)=true) (hl:keys.length=values.length) (h0:keys ≠ [])
 (h15:keys.length<=15):PE X (.Dict keys values pos) (CS trs):=by
 intro pins s σ H Q I q
 have hn:=I.hok.fresh (Nat.le_refl s.heap.objs.size)
 have I1:=I.laid (a:=s.heap.objs.size) (o:=.dK []) (h':=s.heap.push { cls:=.type "dict",data:=.dict #[] }) (t':=s.toks) (fun _ _ q=>Heap.get?_push_of_some _ q) (Nat.le_refl _) (zq s.heap I.big)
 refine wpAny_Dict_walk (knd:=bT X.prog X.w) hall hl h0 h15 (thn (h pins _ σ _ _ I1 (q _ hn)) fun ws s2 ⟨ps,H2,I2,rel,e,kvs,ep,lk,q2⟩=>?_)
 subst ep
 obtain ⟨rs,c,rk⟩:=oW (P:=X.prog) (w:=X.w) rel
 obtain ⟨z,hd,vs0,r0,dd⟩:=Bf I2.hok e
 cases r0
 refine ⟨rs,c,dd,fun h' dd' hs=>⟨.ref s.heap.objs.size,_,?_,rfl,q2⟩⟩
 have hz:(oo [] kvs).length<=sizeLine:=by
  have h1:=jZ kvs []
  rw [List.length_nil] at h1
  rw [sizeLine_eq];omega
 have he:∃ q,h'.get? s.heap.objs.size=some q:=let ⟨q,_,_,hq,_⟩:=dd';⟨q,hq⟩
 exact rK I2 (by rw [e];exact True.intro) hs he (uS hz hd (rk.merge .nil) dd')
section
variable {X:Cx} {pins:List (Addr×Obj)} {σ:St} {H:Hp} {s:Shared} {a:Addr} {y d:V} {u r:Value} {o:Option V} {A:Around} {E:Value->Shared->Prop}
end
section
variable {X:Cx} {o e f:Expr} {apos cpos:Pos} {td ty tx:TE}
end
section
variable {X:Cx} {pins:List (Addr×Obj)} {σ:St} {H:Hp} {s:Shared} {a:Addr} {kvs:List (Key×V)} {A:Around} {E:Value->Shared->Prop}
theorem zr {Q:Value->Shared->Prop} (I:Inv X pins σ H s) (e:Rd H a (.dK kvs)) (h:∀ p s',H p=none->Inv X pins σ (upd H p (.dK kvs)) s'->Q (.ref p) s'):wpAny (model X.prog X.w) A (call (.type "dict") [.ref a]) Q E s:=by
 obtain ⟨z,hd,vs,rel,dd⟩:=tX I.hok e
 refine kt_call_dict hd dd (by rw [<- rel.length];exact z) fun h' dd' hs=>?_
 refine h _ _ (I.hok.fresh (Nat.le_refl _)) (I.laid (a:=s.heap.objs.size) (o:=.dK kvs) (t':=s.toks) (fun b q hq=>?_) (Nat.le_refl _) (uS z (beq_eq_false_iff_ne.mpr (Ne.symm (Nat.ne_of_lt I.big))) rel dd'))
 exact (hs.2 b (Nat.ne_of_lt (Heap.lt_size hq))).trans (Heap.get?_push_of_some _ hq)
end
section
variable {X:Cx} {pins:List (Addr×Obj)} {σ:St} {H:Hp} {s:Shared} {a:Addr} {y:V} {u:Value} {A:Around} {E:Value->Shared->Prop}
end
end L2
namespace Mth
def gc (t b:Int):Int:=(Int.gcd t b:Int)
theorem c6 {t b:Int} (h:0 < b):0 < gc t b:=by
 unfold gc
 have:0 < Int.gcd t b:=Int.gcd_pos_of_ne_zero_right t (by omega)
 omega
theorem vY {t b:Int}:gc b (t % b)=gc t b:=by
 unfold gc
 have h:t % b=t+(-(t / b))*b:=by
  have:=Int.emod_add_mul_ediv t b
  grind
 rw [h,Int.gcd_add_mul_right_right,Int.gcd_comm]
theorem vX {t:Int} (h:0<=t):gc t 0=t:=by
 unfold gc
 rw [Int.gcd_zero_right];omega
theorem dG {t b:Int}:gc t b ∣ t:=Int.gcd_dvd_left t b
theorem cB {t b:Int}:gc t b ∣ b:=Int.gcd_dvd_right t b
theorem qf {t b:Int} (h:0 < b):gc t b<=b:=Int.le_of_dvd h cB
theorem Ci {t b:Int}:gc (t.natAbs:Int) b=gc t b:=by
 unfold gc;simp [Int.gcd]
def rd (t b:Int):Int×Int:=(t / gc t b,b / gc t b)
structure Lo (a b:Int):Prop where
 pos:0 < b
 one:gc a b=1
theorem By {t b:Int}:(rd t b).1*gc t b=t:=Int.ediv_mul_cancel dG
theorem zP {t b:Int}:(rd t b).2*gc t b=b:=Int.ediv_mul_cancel cB
theorem kS {t b:Int} (h:0 < b):Lo (rd t b).1 (rd t b).2:=by
 have hg:=c6 (t:=t) h
 constructor
 . have e:=zP (t:=t) (b:=b)
   have:0 < (rd t b).2*gc t b:=by omega
   exact Int.pos_of_mul_pos_left this hg
 . unfold gc rd
   simp only
   have:=Int.gcd_ediv_gcd_ediv_gcd (i:=t) (j:=b) (by unfold gc at hg;omega)
   unfold gc
   rw [this];rfl
theorem sx {t b:Int}:(rd t b).1*b=t*(rd t b).2:=by
 have e1:=By (t:=t) (b:=b)
 have e2:=zP (t:=t) (b:=b)
 generalize (rd t b).1=x at *
 generalize (rd t b).2=y at *
 generalize gc t b=g at *
 subst e1 e2
 grind
theorem Lo.ext {a b c d:Int} (h:Lo a b) (k:Lo c d) (e:a*d=c*b):a=c/\b=d:=by
 have hb:=h.pos
 have hd:=k.pos
 have h1:b ∣ d:=by
  have:b ∣ a*d:=⟨c,by rw [e,Int.mul_comm]⟩
  have hg:Int.gcd b a=1:=by have:=h.one;unfold gc at this;rw [Int.gcd_comm];omega
  have h3:=Int.dvd_gcd_mul_iff_dvd_mul.mpr this
  rw [hg] at h3
  simpa using h3
 have h2:d ∣ b:=by
  have:d ∣ c*b:=⟨a,by rw [<- e,Int.mul_comm]⟩
  have hg:Int.gcd d c=1:=by have:=k.one;unfold gc at this;rw [Int.gcd_comm];omega
  have h3:=Int.dvd_gcd_mul_iff_dvd_mul.mpr this
  rw [hg] at h3
  simpa using h3
 have hbd:b=d:=Int.le_antisymm (Int.le_of_dvd hd h1) (Int.le_of_dvd hb h2)
 subst hbd
 exact ⟨Int.eq_of_mul_eq_mul_right (by omega) e,rfl⟩
theorem x5 {t b a c:Int} (h:0 < b) (k:Lo a c) (e:t*c=a*b):rd t b=(a,c):=by
 have x:=(kS (t:=t) h).ext k (by
  have e1:=By (t:=t) (b:=b)
  have e2:=zP (t:=t) (b:=b)
  have hg:=c6 (t:=t) h
  generalize (rd t b).1=x at *
  generalize (rd t b).2=y at *
  generalize gc t b=g at *
  have:g*(x*c)=g*(a*y):=by grind
  exact Int.eq_of_mul_eq_mul_left (by omega) this)
 exact Prod.ext x.1 x.2
theorem x3 {a b:Int} (h:Lo a b):rd a b=(a,b):=x5 h.pos h rfl
def pl (p q:Int×Int):Int×Int:=rd (p.1*q.2+q.1*p.2) (p.2*q.2)
def mi (p q:Int×Int):Int×Int:=rd (p.1*q.2 - q.1*p.2) (p.2*q.2)
def ti (p q:Int×Int):Int×Int:=rd (p.1*q.1) (p.2*q.2)
abbrev Lw (p:Int×Int):Prop:=Lo p.1 p.2
theorem x4 {t b:Int} (h:0 < b):Lw (rd t b):=kS h
theorem n8 {p q:Int×Int} (h:0 < p.2) (k:0 < q.2):Lw (pl p q):=kS (Int.mul_pos h k)
theorem vK {p q:Int×Int} (h:0 < p.2) (k:0 < q.2):Lw (mi p q):=kS (Int.mul_pos h k)
theorem AQ {p q:Int×Int} (h:0 < p.2) (k:0 < q.2):Lw (ti p q):=kS (Int.mul_pos h k)
theorem Lo.neg {a b:Int} (h:Lo a b):Lo (-a) b:=⟨h.pos,by have:=h.one;unfold gc at *;rw [Int.neg_gcd];exact this⟩
def Sm (k:Nat) (x:Int):Prop:=x.natAbs < 2 ^ k
theorem Sm.mono {k l:Nat} {x:Int} (h:Sm k x) (e:k<=l):Sm l x:=Nat.lt_of_lt_of_le h (Nat.pow_le_pow_right (by decide) e)
theorem Sm.mul {k l:Nat} {x y:Int} (h:Sm k x) (g:Sm l y):Sm (k+l) (x*y):=by
 unfold Sm at *
 rw [Int.natAbs_mul,Nat.pow_add]
 exact Nat.mul_lt_mul'' h g
theorem Sm.add {k:Nat} {x y:Int} (h:Sm k x) (g:Sm k y):Sm (k+1) (x+y):=by
 unfold Sm at *
 rw [Nat.pow_succ];omega
theorem Sm.sub {k:Nat} {x y:Int} (h:Sm k x) (g:Sm k y):Sm (k+1) (x - y):=by
 unfold Sm at *
 rw [Nat.pow_succ];omega
theorem Sm.neg {k:Nat} {x:Int} (h:Sm k x):Sm k (-x):=by unfold Sm at *;omega
theorem Sm.of {k:Nat} {x:Int} (h:-(2 ^ k:Nat) < x) (g:x < (2 ^ k:Nat)):Sm k x:=by unfold Sm;omega
theorem Sm.div {k:Nat} {x g:Int} (h:Sm k x) (hg:0 < g) (d:g ∣ x):Sm k (x / g):=by
 obtain ⟨c,rfl⟩:=d
 rw [Int.mul_ediv_cancel_left _ (by omega)]
 unfold Sm at *
 rw [Int.natAbs_mul] at h
 have:1*c.natAbs<=g.natAbs*c.natAbs:=Nat.mul_le_mul_right _ (by omega)
 omega
theorem pT {k:Nat} {t b:Int} (hb:0 < b) (h:Sm k t) (g:Sm k b):Sm k (rd t b).1/\Sm k (rd t b).2 :=
 ⟨h.div (c6 hb) dG,g.div (c6 hb) cB⟩
structure Fr (k:Nat) (p:Int×Int):Prop where
 lw:Lw p
 s1:Sm k p.1
 s2:Sm k p.2
theorem Fr.mono {k l:Nat} {p:Int×Int} (h:Fr k p) (e:k<=l):Fr l p:=⟨h.lw,h.s1.mono e,h.s2.mono e⟩
theorem Fr.pos {k:Nat} {p:Int×Int} (h:Fr k p):0 < p.2:=h.lw.pos
theorem Fr.pl {k:Nat} {p q:Int×Int} (h:Fr k p) (g:Fr k q):Fr (k+k+1) (pl p q) :=
 have z:=pT (k:=k+k+1) (Int.mul_pos h.pos g.pos) ((h.s1.mul g.s2).add (g.s1.mul h.s2)) ((h.s2.mul g.s2).mono (by omega))
 ⟨n8 h.pos g.pos,z.1,z.2⟩
theorem Fr.mi {k:Nat} {p q:Int×Int} (h:Fr k p) (g:Fr k q):Fr (k+k+1) (mi p q) :=
 have z:=pT (k:=k+k+1) (Int.mul_pos h.pos g.pos) ((h.s1.mul g.s2).sub (g.s1.mul h.s2)) ((h.s2.mul g.s2).mono (by omega))
 ⟨vK h.pos g.pos,z.1,z.2⟩
theorem Fr.rd {k:Nat} {t b:Int} (h:0 < b) (s:Sm k t) (g:Sm k b):Fr k (rd t b):=⟨x4 h,(pT h s g).1,(pT h s g).2⟩
def low (t b:Int):Int×Int:=if b < 0 then rd (-t) (-b) else rd t b
theorem vN {t b:Int} (h:0 < b):low t b=rd t b:=by unfold low;rw [if_neg (by omega)]
theorem low_fr {k:Nat} {t b:Int} (h:b ≠ 0) (s:Sm k t) (g:Sm k b):Fr k (low t b):=by
 unfold low
 split
 . exact Fr.rd (by omega) s.neg g.neg
 . exact Fr.rd (by omega) s g
end Mth
namespace Mth
abbrev Bn:=Option (Int×Bool)
def kp (p:Int×Int):Bn->Bool
 | none=>true
 | some (n,true)=>decide (p.1*1 < n*p.2)
 | some (n,false)=>!decide (n*p.2 < p.1*1)
def bs:Bn->Bn->Bn
 | some (n,s),some (m,t)=>some (n+m,s || t)
 | _,_=>none
theorem wF (a b:Bn):bs b a=bs a b:=by
 rcases a with _ | ⟨n,s⟩ <;> rcases b with _ | ⟨m,t⟩ <;> simp [bs,Int.add_comm,Bool.or_comm]
theorem gL (a b c:Bn):bs (bs a b) c=bs a (bs b c):=by
 rcases a with _ | ⟨n,s⟩ <;> rcases b with _ | ⟨m,t⟩ <;> rcases c with _ | ⟨l,u⟩ <;> simp [bs,Int.add_assoc,Bool.or_assoc]
theorem hR (a:Bn):bs a (some (0,false))=a:=by
 rcases a with _ | ⟨n,s⟩ <;> simp [bs]
def Kp (p:Int×Int):Bn->Prop
 | none=>True
 | some (n,true)=>p.1 < n*p.2
 | some (n,false)=>p.1<=n*p.2
theorem uH {p:Int×Int} {b:Bn}:kp p b=true <-> Kp p b:=by
 rcases b with _ | ⟨n,_ | _⟩
 . simp [kp,Kp]
 . simp [kp,Kp]
 . simp [kp,Kp]
def b2 (s:Bool):Int:=if s then 1 else 0
def far (f:Int) (s:Bool):Int:=if f=0/\s=true then 1 else f
end Mth
namespace Mth
def tgt:Bn->Bn->Bool
 | none,_=>false
 | some _,none=>true
 | some (n,s),some (m,t)=>if n=m then s && !t else decide (n < m)
theorem qv (n m:Int) (s t:Bool):tgt (some (n,s)) (some (m,t))=if n=m then s && !t else decide (n < m):=rfl
theorem jd (a:Bn):tgt a a=false:=by
 rcases a with _ | ⟨n,s⟩
 . rfl
 . simp [tgt]
def A6:Bn->List Int
 | none=>[]
 | some (n,_)=>[n]
def D1 (a b:Bn):List Int:=0 :: (A6 a++A6 b)
def D5 (n:Int):List (Int×Int):=[(n,1),(2*n - 1,2),(2*n+1,2),(n+1,1),(n - 1,1)]
def half:Bn->Bn->Int
 | none,none=>0+0
 | none,some (m,_)=>m+0
 | some (n,_),none=>n+0
 | some (n,_),some (m,_)=>m+n
def tr (a b:Bn):List (Int×Int):=(D1 a b).flatMap D5++[low (half a b) 2]
end Mth
namespace Mth
end Mth
namespace Mth
def Le (a b:Bn):Prop:=tgt b a=false
theorem Le.refl (a:Bn):Le a a:=jd a
theorem jK (a:Bn):Le a none:=rfl
theorem oB {n m:Int} {s t:Bool}:Le (some (n,s)) (some (m,t)) <-> n < m \/ (n=m/\(t=true->s=true)):=by
 unfold Le
 rw [qv]
 by_cases h:m=n
 . subst h
   rw [if_pos rfl]
   cases s <;> cases t <;> simp
 . rw [if_neg h,decide_eq_false_iff_not]
   constructor
   . intro g
     exact .inl (by omega)
   . rintro (g | ⟨g,_⟩)
     . omega
     . exact absurd g.symm h
theorem dF {n:Int} {s:Bool}:¬ Le none (some (n,s)):=fun h=>by cases h
theorem Le.trans {a b c:Bn} (h:Le a b) (g:Le b c):Le a c:=by
 rcases c with _ | ⟨p,u⟩
 . exact jK a
 rcases b with _ | ⟨m,t⟩
 . exact absurd g dF
 rcases a with _ | ⟨n,s⟩
 . exact absurd h dF
 rw [oB] at *
 rcases h with h | ⟨h,h'⟩ <;> rcases g with g | ⟨g,g'⟩
 . exact .inl (by omega)
 . exact .inl (by omega)
 . exact .inl (by omega)
 . exact .inr ⟨by omega,fun z=>h' (g' z)⟩
theorem Le.total (a b:Bn):Le a b \/ Le b a:=by
 rcases a with _ | ⟨n,s⟩
 . exact .inr (jK b)
 rcases b with _ | ⟨m,t⟩
 . exact .inl (jK _)
 rw [oB,oB]
 by_cases h:n=m
 . subst h
   cases s <;> cases t <;> simp
 . by_cases g:n < m
   . exact .inl (.inl g)
   . exact .inr (.inl (by omega))
theorem Le.antisymm {a b:Bn} (h:Le a b) (g:Le b a):a=b:=by
 rcases a with _ | ⟨n,s⟩
 . rcases b with _ | ⟨m,t⟩
   . rfl
   . exact absurd h dF
 rcases b with _ | ⟨m,t⟩
 . exact absurd g dF
 rw [oB] at *
 have e:n=m:=by omega
 subst e
 have h':t=true->s=true:=by rcases h with h | h;omega;exact h.2
 have g':s=true->t=true:=by rcases g with g | g;omega;exact g.2
 cases s <;> cases t <;> simp_all
theorem xm {a b:Bn} (h:tgt a b=true):Le a b:=by
 rcases Le.total a b with z | z
 . exact z
 . unfold Le at z
   rw [h] at z;cases z
theorem Le.sum {a b c d:Bn} (h:Le a b) (g:Le c d):Le (bs a c) (bs b d):=by
 rcases b with _ | ⟨m,t⟩
 . exact jK _
 rcases d with _ | ⟨q,v⟩
 . exact jK _
 rcases a with _ | ⟨n,s⟩
 . exact absurd h dF
 rcases c with _ | ⟨p,u⟩
 . exact absurd g dF
 show Le (some (n+p,s || u)) (some (m+q,t || v))
 rw [oB] at *
 rcases h with h | ⟨h,h'⟩ <;> rcases g with g | ⟨g,g'⟩
 . exact .inl (by omega)
 . exact .inl (by omega)
 . exact .inl (by omega)
 . refine .inr ⟨by omega,fun z=>?_⟩
   rw [Bool.or_eq_true] at *
   rcases z with z | z
   . exact .inl (h' z)
   . exact .inr (g' z)
abbrev b0:Bn:=some (0,false)
theorem pc (a:Bn):bs b0 a=a:=by rw [wF,hR]
def Nn (a:Bn):Prop:=Le b0 a
theorem nn_kp {a:Bn}:kp (0,1) a=true <-> Nn a:=by
 rw [uH]
 rcases a with _ | ⟨n,s⟩
 . exact ⟨fun _=>jK _,fun _=>trivial⟩
 unfold Nn
 rw [oB]
 cases s with
 | false =>
  show 0<=n*1 <-> _
  constructor
  . intro h
    by_cases z:0=n
    . exact .inr ⟨z,by simp⟩
    . exact .inl (by omega)
  . rintro (h | ⟨h,_⟩) <;> omega
 | true =>
  show 0 < n*1 <-> _
  constructor
  . intro h
    exact .inl (by omega)
  . rintro (h | ⟨h,g⟩)
    . omega
    . exact absurd (g rfl) (by decide)
section
variable (c:Nat->Nat->Bn)
def dm:Nat->Nat->Nat->Bn
 | 0=>c
 | m+1=>fun i j=>if tgt (bs (dm m i m) (dm m m j)) (dm m i j) then bs (dm m i m) (dm m m j) else dm m i j
def Ok (n m:Nat):Prop:=∀ k,k < m->∀ i,i < n->Nn (bs (dm c k i k) (dm c k k i))
variable {c} {n:Nat}
theorem zp (m i j:Nat):Le (dm c (m+1) i j) (dm c m i j):=by
 show Le (if _ then _ else _) _
 split
 . rename_i h;exact xm h
 . exact Le.refl _
theorem rH (m i j:Nat):Le (dm c (m+1) i j) (bs (dm c m i m) (dm c m m j)):=by
 show Le (if _ then _ else _) _
 split
 . exact Le.refl _
 . rename_i h
   cases q:tgt (bs (dm c m i m) (dm c m m j)) (dm c m i j) with
   | true=>exact absurd q h
   | false=>exact q
theorem l4 (m i j:Nat):dm c (m+1) i j=dm c m i j \/ dm c (m+1) i j=bs (dm c m i m) (dm c m m j):=by
 show (if _ then _ else _)=_ \/ (if _ then _ else _)=_
 split
 . exact .inr rfl
 . exact .inl rfl
structure Fw (c:Nat->Nat->Bn) (n m:Nat):Prop where
 dia:∀ i,i < n->dm c m i i=b0
 clo:∀ k,k < m->∀ i j,i < n->j < n->Le (dm c m i j) (bs (dm c m i k) (dm c m k j))
theorem Ay (h:∀ i,i < n->c i i=b0):Fw c n 0:=⟨h,fun k hk=>by omega⟩
theorem Cn {m:Nat} (w:Fw c n m) (hm:m < n) (j:Nat):dm c (m+1) m j=dm c m m j:=by
 rcases l4 (c:=c) m m j with h | h
 . exact h
 . rw [h,w.dia m hm,pc]
theorem Co {m:Nat} (w:Fw c n m) (hm:m < n) (i:Nat):dm c (m+1) i m=dm c m i m:=by
 rcases l4 (c:=c) m i m with h | h
 . exact h
 . rw [h,w.dia m hm,hR]
theorem Az {m:Nat} (w:Fw c n m) (hm:m < n) (ok:∀ i,i < n->Nn (bs (dm c m i m) (dm c m m i))):Fw c n (m+1):=by
 refine ⟨fun i hi=>?_,fun k hk i j hi hj=>?_⟩
 . refine Le.antisymm ((zp m i i).trans (by rw [w.dia i hi];exact Le.refl _)) ?_
   rcases l4 (c:=c) m i i with h | h
   . rw [h,w.dia i hi];exact Le.refl _
   . rw [h];exact ok i hi
 . by_cases hkm:k=m
   . subst hkm
     rw [Co w hm,Cn w hm]
     exact rH k i j
   . have hkm:k < m:=by omega
     have hkn:k < n:=by omega
     have mid:Le (bs (dm c m i m) (dm c m m j)) (bs (bs (dm c m i m) (dm c m m k)) (dm c m k j)):=by
      rw [gL]
      exact Le.sum (Le.refl _) (w.clo k hkm m j hm hj)
     have mid2:Le (bs (dm c m i m) (dm c m m j)) (bs (dm c m i k) (bs (dm c m k m) (dm c m m j))):=by
      rw [<- gL]
      exact Le.sum (w.clo k hkm i m hi hm) (Le.refl _)
     rcases l4 (c:=c) m i k with h1 | h1 <;> rcases l4 (c:=c) m k j with h2 | h2 <;> rw [h1,h2]
     . exact (zp m i j).trans (w.clo k hkm i j hi hj)
     . exact (rH m i j).trans mid2
     . exact (rH m i j).trans mid
     . refine (rH m i j).trans ?_
       have z:Nn (bs (dm c m m k) (dm c m k m)):=by
        have:=w.clo k hkm m m hm hm
        rw [w.dia m hm] at this
        exact this
       have e:bs (bs (dm c m i m) (dm c m m k)) (bs (dm c m k m) (dm c m m j))=bs (dm c m i m) (bs (bs (dm c m m k) (dm c m k m)) (dm c m m j)):=by
        rw [gL,gL]
       rw [e]
       refine Le.sum (Le.refl _) ?_
       have:=Le.sum z (Le.refl (dm c m m j))
       rw [pc] at this
       exact this
variable (c) in
def wt:List Nat->Bn
 | []=>b0
 | [_]=>b0
 | a :: b :: r=>bs (c a b) (wt (b :: r))
theorem qt:∀ (xs:List Nat) (v:Nat) (ys:List Nat),wt c (xs++v :: ys)=bs (wt c (xs++[v])) (wt c (v :: ys))
 | [],v,ys=>by
  show wt c (v :: ys)=bs b0 (wt c (v :: ys))
  rw [pc]
 | [a],v,ys=>by
  show bs (c a v) (wt c (v :: ys))=bs (bs (c a v) b0) (wt c (v :: ys))
  rw [hR]
 | a :: b :: xs,v,ys=>by
  show bs (c a b) (wt c ((b :: xs)++v :: ys))=bs (bs (c a b) (wt c ((b :: xs)++[v]))) (wt c (v :: ys))
  rw [qt (b :: xs) v ys,gL]
theorem AF (a z:Nat):∀ k,Le (dm c k a z) (c a z)
 | 0=>Le.refl _
 | k+1=>(zp k a z).trans (AF a z k)
theorem rS {m:Nat} (w:Fw c n m) (hm:m<=n):∀ (xs:List Nat) (a z:Nat),a < n->z < n->(∀ x∈xs,x < m)->Le (dm c m a z) (wt c (a :: (xs++[z])))
 | [],a,z,ha,hz,_=>by
  show Le _ (bs (c a z) b0)
  rw [hR]
  exact AF a z m
 | x :: xs,a,z,ha,hz,h=>by
  have hx:=h x Zj
  have ih:=rS w hm xs x z (by omega) hz fun y my=>h y (Zk _ my)
  show Le _ (bs (c a x) (wt c (x :: (xs++[z]))))
  exact (w.clo x hx a z ha hz).trans (Le.sum (AF a x m) ih)
structure Way (c:Nat->Nat->Bn) (n m i j:Nat) (p:List Nat):Prop where
 hd:∃ xs,p=i :: xs/\∀ x∈xs,x < m
 nd:i ≠ j->(p++[j]).Nodup
 sm:wt c (p++[j])=dm c m i j
theorem Way.lt {m i j:Nat} {p:List Nat} (w:Way c n m i j p) (hi:i < n) (hm:m<=n):∀ x∈p,x < n:=fun x mx=>by
 obtain ⟨xs,rfl,h⟩:=w.hd
 rcases Zp.mp mx with e | e
 . omega
 . have:=h x e;omega
theorem D2 {m i j v:Nat} {p q:List Nat} (w:Fw c n m) (hm:m < n) (hi:i < n) (hj:j < n) (wp:Way c n m i m p) (wq:Way c n m m j q) (hv:v < m) (vp:v∈p) (vq:v∈q++[j]) :
 Le (bs (dm c m i v) (dm c m v j)) (bs (dm c m i m) (dm c m m j)):=by
 have hvn:v < n:=by omega
 obtain ⟨xs,rfl,hx⟩:=wp.hd
 obtain ⟨ys,rfl,hy⟩:=wq.hd
 have c1:Le (bs (dm c m i v) (dm c m v m)) (dm c m i m):=by
  rcases Zp.mp vp with e | e
  . subst e
    rw [w.dia v hvn,pc]
    exact Le.refl _
  . obtain ⟨s,t,rfl⟩:=List.append_of_mem e
    rw [<- wp.sm]
    have e1:i :: (s++v :: t)++[m]=(i :: s)++v :: (t++[m]):=by simp
    rw [e1,qt]
    exact Le.sum (rS w (by omega) s i v hi hvn fun x mx=>hx x (List.mem_append_left _ mx)) (rS w (by omega) t v m hvn hm fun x mx=>hx x (List.mem_append_right _ (Zk _ mx)))
 have c2:Le (bs (dm c m m v) (dm c m v j)) (dm c m m j):=by
  rcases Zo.mp vq with e | e
  . rcases Zp.mp e with e | e
    . omega
    . obtain ⟨s,t,rfl⟩:=List.append_of_mem e
      rw [<- wq.sm]
      have e1:m :: (s++v :: t)++[j]=(m :: s)++v :: (t++[j]):=by simp
      rw [e1,qt]
      exact Le.sum (rS w (by omega) s m v hm hvn fun x mx=>hy x (List.mem_append_left _ mx)) (rS w (by omega) t v j hvn hj fun x mx=>hy x (List.mem_append_right _ (Zk _ mx)))
  . have:v=j:=by simpa using e
    subst this
    rw [w.dia v hvn,hR]
    exact Le.refl _
 refine Le.trans ?_ (Le.sum c1 c2)
 have z:Nn (bs (dm c m v m) (dm c m m v)):=by
  have:=w.clo v hv m m hm hm
  rw [w.dia m hm,wF] at this
  exact this
 have e:bs (bs (dm c m i v) (dm c m v m)) (bs (dm c m m v) (dm c m v j))=bs (dm c m i v) (bs (bs (dm c m v m) (dm c m m v)) (dm c m v j)):=by
  rw [gL,gL]
 rw [e]
 refine Le.sum (Le.refl _) ?_
 have:=Le.sum z (Le.refl (dm c m v j))
 rw [pc] at this
 exact this
theorem uC {p q:List Nat} (h:p.Nodup) (g:q.Nodup) (d:∀ x,x∈p->x ∉ q):(p++q).Nodup:=List.nodup_append.mpr ⟨h,g,fun x hx y hy e=>by subst e;exact d x hx hy⟩
theorem xK {m i j:Nat} {p:List Nat} (w:Way c n m i j p) (e:dm c (m+1) i j=dm c m i j):Way c n (m+1) i j p:=by
 obtain ⟨xs,h,hx⟩:=w.hd
 exact ⟨⟨xs,h,fun x mx=>Nat.lt_succ_of_lt (hx x mx)⟩,w.nd,w.sm.trans e.symm⟩
theorem zH {m i j:Nat} {p q:List Nat} (w:Fw c n m) (hm:m < n) (hi:i < n) (hj:j < n) (wp:Way c n m i m p) (wq:Way c n m m j q) (ok:Nn (bs (dm c m i m) (dm c m m i))) (t:tgt (bs (dm c m i m) (dm c m m j)) (dm c m i j)=true):Way c n (m+1) i j (p++q):=by
 have him:i ≠ m:=fun e=>by
  subst e
  rw [w.dia i hi,pc,jd] at t
  cases t
 have hmj:m ≠ j:=fun e=>by
  subst e
  rw [w.dia m hm,hR,jd] at t
  cases t
 have e1:dm c (m+1) i j=bs (dm c m i m) (dm c m m j):=if_pos t
 have ndp:=List.nodup_append.mp (wp.nd him)
 have ndq:=wq.nd hmj
 obtain ⟨xs,ep,hx⟩:=wp.hd
 obtain ⟨ys,eq,hy⟩:=wq.hd
 refine ⟨⟨xs++q,by rw [ep];rfl,fun x mx=>?_⟩,fun hij=>?_,?_⟩
 . rcases Zo.mp mx with z | z
   . have:=hx x z;omega
   . rw [eq] at z
     rcases Zp.mp z with z | z
     . omega
     . have:=hy x z;omega
 . rw [List.append_assoc]
   refine uC ndp.1 ndq fun v vp vq=>?_
   have no:∀ v,v < m->v∈p->v∈q++[j]->False:=fun v hv vp vq=>by
    have h1:=D2 w hm hi hj wp wq hv vp vq
    have h2:=(w.clo v hv i j hi hj).trans h1
    unfold Le at h2
    rw [t] at h2
    cases h2
   have vm:v ≠ m:=fun e=>ndp.2.2 v vp m (by simp) e
   have vp':=vp
   rw [ep] at vp'
   rcases Zp.mp vp' with e | e
   . -- v is i
     subst e
     rcases Zo.mp vq with z | z
     . rw [eq] at z
       rcases Zp.mp z with z | z
       . exact vm z
       . exact no v (hy v z) vp vq
     . exact hij (by simpa using z)
   . exact no v (hx v e) vp vq
 . rw [List.append_assoc]
   rw [eq]
   rw [List.cons_append,qt,<- List.cons_append,<- eq,wp.sm,wq.sm,e1]
theorem xJ (i j:Nat):Way c n 0 i j [i]:=⟨⟨[],rfl,fun _ m=>nomatch m⟩,fun h=>by simp [h],by show bs (c i j) b0=c i j;rw [hR]⟩
end
def tg2 (a b:Bn):Bn:=if tgt b a then b else a
def sqf (f:Nat->Nat->Bn) (i j:Nat) (ms:List Nat) (x:Bn):Bn:=ms.foldl (fun x m=>tg2 x (bs (f i m) (f m j))) x
def sq (n:Nat) (f:Nat->Nat->Bn) (i j:Nat):Bn:=sqf f i j (List.range n) (f i j)
section
variable {c:Nat->Nat->Bn} {n:Nat}
theorem lH:∀ (n:Nat) (p:List Nat),p.Nodup->(∀ x∈p,x < n)->p.length<=n
 | 0,[],_,_=>Nat.le_refl _
 | 0,x :: p,_,h=>absurd (h x Zj) (by omega)
 | n+1,p,nd,h=>by
  have ih:=lH n (p.erase n) (nd.erase n) fun x m=>by
   have m':=(List.Nodup.mem_erase_iff nd).mp m
   have:=h x m'.2
   omega
  have:=List.length_erase (a:=n) (l:=p)
  split at this <;> omega
end
end Mth
namespace Mth
theorem g9 (n:Int):Rat.divInt n 1=(n:Rat):=by simp [Rat.divInt,Rat.mkRat_one]
def vl (p:Int×Int):Rat:=Rat.divInt p.1 p.2
theorem u9 {t b:Int} (h:0 < b):vl (rd t b)=Rat.divInt t b:=by
 unfold vl
 have l:=(kS (t:=t) h).pos
 rw [Rat.divInt_eq_divInt_iff (by omega) (by omega)]
 exact sx
theorem rT {p q:Int×Int} (hp:0 < p.2) (hq:0 < q.2):vl (pl p q)=vl p+vl q:=by
 unfold pl
 rw [u9 (Int.mul_pos hp hq)]
 unfold vl
 rw [Rat.divInt_add_divInt _ _ (by omega) (by omega)]
theorem jR {p q:Int×Int} (hp:0 < p.2) (hq:0 < q.2):vl (mi p q)=vl p - vl q:=by
 unfold mi
 rw [u9 (Int.mul_pos hp hq)]
 unfold vl
 rw [Rat.divInt_sub_divInt _ _ (by omega) (by omega)]
theorem CI {p q:Int×Int} (hp:0 < p.2) (hq:0 < q.2):vl (ti p q)=vl p*vl q:=by
 unfold ti
 rw [u9 (Int.mul_pos hp hq)]
 unfold vl
 rw [Rat.divInt_mul_divInt]
theorem cN (n:Int):vl (n,1)=(n:Rat):=by
 unfold vl
 exact g9 n
theorem oR {t b:Int} (hb:0 < b):0 < Rat.divInt t b <-> 0 < t:=by
 have hb':(0:Rat) < (b:Rat):=by
  have:=(Rat.intCast_lt_intCast (a:=0) (b:=b)).mpr hb
  simpa using this
 have e:Rat.divInt t b*(b:Rat)=(t:Rat):=by
  have h1:(b:Rat)=Rat.divInt b 1:=(g9 b).symm
  have h2:(t:Rat)=Rat.divInt t 1:=(g9 t).symm
  rw [h1,h2,Rat.divInt_mul_divInt,Rat.divInt_eq_divInt_iff (by omega) (by omega)]
  grind
 constructor
 . intro h
   have:=Rat.mul_pos h hb'
   rw [e] at this
   exact (Rat.intCast_lt_intCast (a:=0)).mp (by simpa using this)
 . intro h
   have ht:(0:Rat) < (t:Rat):=by
    have:=(Rat.intCast_lt_intCast (a:=0) (b:=t)).mpr h
    simpa using this
   rw [<- e] at ht
   by_cases q:0 < Rat.divInt t b
   . exact q
   . have:Rat.divInt t b*(b:Rat)<=0:=by
      have h3:Rat.divInt t b<=0:=by grind
      have:=Rat.mul_le_mul_of_nonneg_right h3 (Rat.le_of_lt hb')
      grind
     grind
theorem nC {p q:Int×Int} (hp:0 < p.2) (hq:0 < q.2):vl p < vl q <-> p.1*q.2 < q.1*p.2:=by
 have h:=oR (t:=q.1*p.2 - p.1*q.2) (b:=q.2*p.2) (Int.mul_pos hq hp)
 have e:Rat.divInt (q.1*p.2 - p.1*q.2) (q.2*p.2)=vl q - vl p:=by
  unfold vl
  rw [Rat.divInt_sub_divInt _ _ (by omega) (by omega)]
 rw [e] at h
 constructor
 . intro g
   have:=h.mp (by grind)
   omega
 . intro g
   have:=h.mpr (by omega)
   grind
def Kq (x:Rat):Bn->Prop
 | none=>True
 | some (n,true)=>x < (n:Rat)
 | some (n,false)=>x<=(n:Rat)
theorem A8 {p:Int×Int} {b:Bn} (hp:0 < p.2):kp p b=true <-> Kq (vl p) b:=by
 rw [uH]
 rcases b with _ | ⟨n,s⟩
 . exact Iff.rfl
 have h1:=nC (p:=p) (q:=(n,1)) hp (show (0:Int) < 1 by decide)
 have h2:=nC (p:=(n,1)) (q:=p) (show (0:Int) < 1 by decide) hp
 rw [cN] at h1 h2
 cases s with
 | true =>
  show p.1 < n*p.2 <-> vl p < (n:Rat)
  rw [h1]
  simp
 | false =>
  show p.1<=n*p.2 <-> vl p<=(n:Rat)
  constructor
  . intro g
    have:¬ (n:Rat) < vl p:=fun z=>by
     have:=h2.mp z
     simp at this
     omega
    grind
  . intro g
    by_cases z:n*p.2 < p.1
    . have:=h2.mpr (by simpa using z)
      grind
    . omega
theorem Kq.sum {x y:Rat} {a b:Bn} (h:Kq x a) (g:Kq y b):Kq (x+y) (bs a b):=by
 rcases a with _ | ⟨n,s⟩
 . trivial
 rcases b with _ | ⟨m,t⟩
 . trivial
 cases s <;> cases t
 . show x+y<=((n+m:Int):Rat)
   have h':x<=(n:Rat):=h
   have g':y<=(m:Rat):=g
   rw [Rat.intCast_add]
   grind
 . show x+y < ((n+m:Int):Rat)
   have h':x<=(n:Rat):=h
   have g':y < (m:Rat):=g
   rw [Rat.intCast_add]
   grind
 . show x+y < ((n+m:Int):Rat)
   have h':x < (n:Rat):=h
   have g':y<=(m:Rat):=g
   rw [Rat.intCast_add]
   grind
 . show x+y < ((n+m:Int):Rat)
   have h':x < (n:Rat):=h
   have g':y < (m:Rat):=g
   rw [Rat.intCast_add]
   grind
theorem Kq.le {x:Rat} {a b:Bn} (h:Kq x a) (g:Le a b):Kq x b:=by
 rcases b with _ | ⟨m,t⟩
 . trivial
 rcases a with _ | ⟨n,s⟩
 . exact absurd g dF
 rw [oB] at g
 have mn:n<=m->(n:Rat)<=(m:Rat):=fun z=>Rat.intCast_le_intCast.mpr z
 have ml:n < m->(n:Rat) < (m:Rat):=fun z=>Rat.intCast_lt_intCast.mpr z
 cases s <;> cases t
 . have h':x<=(n:Rat):=h
   show x<=(m:Rat)
   have:=mn (by omega)
   grind
 . have h':x<=(n:Rat):=h
   show x < (m:Rat)
   rcases g with g | ⟨_,g⟩
   . have:=ml g
     grind
   . exact absurd (g rfl) (by decide)
 . have h':x < (n:Rat):=h
   show x<=(m:Rat)
   have:=mn (by omega)
   grind
 . have h':x < (n:Rat):=h
   show x < (m:Rat)
   have:=mn (by omega)
   grind
theorem k5 {a:Bn}:Kq 0 a <-> Nn a:=by
 rw [<- nn_kp,A8 (by decide)]
 have:vl (0,1)=0:=by rw [cN];rfl
 rw [this]
def Li (c:Nat->Nat->Bn) (n:Nat) (x:Nat->Rat):Prop:=∀ i j,i < n->j < n->Kq (x i - x j) (c i j)
section
variable {c:Nat->Nat->Bn} {n:Nat} {x:Nat->Rat}
theorem yP (h:Li c n x):∀ m,m<=n->Li (dm c m) n x
 | 0,_=>h
 | m+1,hm=>fun i j hi hj=>by
  have ih:=yP h m (by omega)
  rcases l4 (c:=c) m i j with e | e
  . rw [e];exact ih i j hi hj
  . rw [e]
    have:=(ih i m hi (by omega)).sum (ih m j (by omega) hj)
    have e2:x i - x m+(x m - x j)=x i - x j:=by grind
    rw [e2] at this
    exact this
theorem yO {m:Nat} (h:Li (dm c m) n x):Li c n x:=fun i j hi hj=>(h i j hi hj).le (AF i j m)
theorem Ds {m i:Nat} (hm:m < n) (hi:i < n) (bad:¬ Nn (bs (dm c m i m) (dm c m m i))):¬ Li c n x:=fun h=>by
 have d:=yP h m (by omega)
 have:=(d i m hi hm).sum (d m i hm hi)
 have e2:x i - x m+(x m - x i)=0:=by grind
 rw [e2,k5] at this
 exact bad this
theorem Ak {i:Nat} (hi:i < n) (h:Li c n x):Nn (c i i):=by
 have:=h i i hi hi
 have e2:x i - x i=0:=by grind
 rw [e2,k5] at this
 exact this
theorem qi {d:Nat->Nat->Bn} (dia:∀ i,i < n->d i i=b0) (clo:∀ k i j,k < n->i < n->j < n->Le (d i j) (bs (d i k) (d k j))):∀ m,m<=n->∀ i j,i < n->j < n->dm d m i j=d i j
 | 0,_,_,_,_,_=>rfl
 | m+1,hm,i,j,hi,hj=>by
  have ih:=qi dia clo m (by omega)
  show (if tgt (bs (dm d m i m) (dm d m m j)) (dm d m i j) then _ else _)=_
  rw [ih i m hi (by omega),ih m j (by omega) hj,ih i j hi hj]
  have:=clo m i j (by omega) hi hj
  unfold Le at this
  rw [this,if_neg (by decide)]
def iE (x:Nat->Rat) (d:Nat->Nat->Bn) (t j:Nat):Option Rat:=match d j t with
 | none=>none
 | some (k,_)=>some (x j - (k:Rat))
def eX (x:Nat->Rat) (d:Nat->Nat->Bn) (t j:Nat):Option Rat:=match d t j with
 | none=>none
 | some (k,_)=>some (x j+(k:Rat))
theorem oz {d:Nat->Nat->Bn} {t i j:Nat} {lo hi:Rat} (hij:Kq (x i - x j) (d i j)) (clo:Le (d i j) (bs (d i t) (d t j))) (h1:iE x d t i=some lo) (h2:eX x d t j=some hi):lo<=hi/\((∃ k,d i t=some (k,true)) \/ (∃ k,d t j=some (k,true))->lo < hi):=by
 have s:=hij.le clo
 unfold iE at h1
 unfold eX at h2
 rcases e1:d i t with _ | ⟨k,s1⟩
 . rw [e1] at h1;cases h1
 rcases e2:d t j with _ | ⟨l,s2⟩
 . rw [e2] at h2;cases h2
 rw [e1] at h1
 rw [e2] at h2
 cases h1
 cases h2
 rw [e1,e2] at s
 have s':Kq (x i - x j) (some (k+l,s1 || s2)):=s
 cases s1 <;> cases s2
 . have z:x i - x j<=((k+l:Int):Rat):=s'
   rw [Rat.intCast_add] at z
   refine ⟨by grind,fun w=>?_⟩
   rcases w with ⟨_,w⟩ | ⟨_,w⟩ <;> cases w
 . have z:x i - x j < ((k+l:Int):Rat):=s'
   rw [Rat.intCast_add] at z
   exact ⟨by grind,fun _=>by grind⟩
 . have z:x i - x j < ((k+l:Int):Rat):=s'
   rw [Rat.intCast_add] at z
   exact ⟨by grind,fun _=>by grind⟩
 . have z:x i - x j < ((k+l:Int):Rat):=s'
   rw [Rat.intCast_add] at z
   exact ⟨by grind,fun _=>by grind⟩
theorem p0 {d:Nat->Nat->Bn} {t j:Nat} {y lo:Rat} (h1:iE x d t j=some lo) (h2:lo<=y) (h3:(∃ k,d j t=some (k,true))->lo < y):Kq (x j - y) (d j t):=by
 unfold iE at h1
 rcases e1:d j t with _ | ⟨k,s⟩
 . trivial
 rw [e1] at h1
 cases h1
 cases s
 . show x j - y<=(k:Rat)
   grind
 . have:=h3 ⟨k,e1⟩
   show x j - y < (k:Rat)
   grind
theorem oE {d:Nat->Nat->Bn} {t j:Nat} {y hi:Rat} (h1:eX x d t j=some hi) (h2:y<=hi) (h3:(∃ k,d t j=some (k,true))->y < hi):Kq (y - x j) (d t j):=by
 unfold eX at h1
 rcases e1:d t j with _ | ⟨k,s⟩
 . trivial
 rw [e1] at h1
 cases h1
 cases s
 . show y - x j<=(k:Rat)
   grind
 . have:=h3 ⟨k,e1⟩
   show y - x j < (k:Rat)
   grind
end
end Mth
namespace Mth
def btw (lo hi:Option (Int×Int)):Int×Int:=match lo,hi with
 | none,none=>(0,1)
 | none,some h=>mi h (1,1)
 | some l,none=>pl l (1,1)
 | some l,some h=>ti (pl l h) (1,2)
def gre:List (Int×Int)->Option (Int×Int)->Option (Int×Int)
 | [],o=>o
 | p :: ps,none=>gre ps (some p)
 | p :: ps,some q=>gre ps (some (if q.1*p.2 < p.1*q.2 then p else q))
def lea:List (Int×Int)->Option (Int×Int)->Option (Int×Int)
 | [],o=>o
 | p :: ps,none=>lea ps (some p)
 | p :: ps,some q=>lea ps (some (if p.1*q.2 < q.1*p.2 then p else q))
theorem oI:∀ {ps:List (Int×Int)} {q:Int×Int},(∀ p∈ps,0 < p.2)->0 < q.2->∃ g,gre ps (some q)=some g/\(g=q \/ g∈ps)/\vl q<=vl g/\∀ p∈ps,vl p<=vl g
 | [],q,_,_=>⟨q,rfl,.inl rfl,Rat.le_refl,fun p m=>nomatch m⟩
 | p :: ps,q,hp,hq=>by
  have h1:=hp p Zj
  have h2:∀ r∈ps,0 < r.2:=fun r m=>hp r (Zk _ m)
  show ∃ g,gre ps (some (if q.1*p.2 < p.1*q.2 then p else q))=some g/\_
  by_cases h:q.1*p.2 < p.1*q.2
  . rw [if_pos h]
    obtain ⟨g,e,m,a,b⟩:=oI h2 h1
    have l:=(nC hq h1).mpr h
    refine ⟨g,e,.inr ?_,Rat.le_trans (Rat.le_of_lt l) a,fun r mr=>?_⟩
    . rcases m with m | m
      . rw [m];exact Zj
      . exact Zk _ m
    . rcases Zp.mp mr with z | z
      . rw [z];exact a
      . exact b r z
  . rw [if_neg h]
    obtain ⟨g,e,m,a,b⟩:=oI h2 hq
    have l:vl p<=vl q:=Rat.not_lt.mp fun z=>h ((nC hq h1).mp z)
    refine ⟨g,e,?_,a,fun r mr=>?_⟩
    . rcases m with m | m
      . exact .inl m
      . exact .inr (Zk _ m)
    . rcases Zp.mp mr with z | z
      . rw [z];exact Rat.le_trans l a
      . exact b r z
theorem oA:∀ {ps:List (Int×Int)} {q:Int×Int},(∀ p∈ps,0 < p.2)->0 < q.2->∃ g,lea ps (some q)=some g/\(g=q \/ g∈ps)/\vl g<=vl q/\∀ p∈ps,vl g<=vl p
 | [],q,_,_=>⟨q,rfl,.inl rfl,Rat.le_refl,fun p m=>nomatch m⟩
 | p :: ps,q,hp,hq=>by
  have h1:=hp p Zj
  have h2:∀ r∈ps,0 < r.2:=fun r m=>hp r (Zk _ m)
  show ∃ g,lea ps (some (if p.1*q.2 < q.1*p.2 then p else q))=some g/\_
  by_cases h:p.1*q.2 < q.1*p.2
  . rw [if_pos h]
    obtain ⟨g,e,m,a,b⟩:=oA h2 h1
    have l:=(nC h1 hq).mpr h
    refine ⟨g,e,.inr ?_,Rat.le_trans a (Rat.le_of_lt l),fun r mr=>?_⟩
    . rcases m with m | m
      . rw [m];exact Zj
      . exact Zk _ m
    . rcases Zp.mp mr with z | z
      . rw [z];exact a
      . exact b r z
  . rw [if_neg h]
    obtain ⟨g,e,m,a,b⟩:=oA h2 hq
    have l:vl q<=vl p:=Rat.not_lt.mp fun z=>h ((nC h1 hq).mp z)
    refine ⟨g,e,?_,a,fun r mr=>?_⟩
    . rcases m with m | m
      . exact .inl m
      . exact .inr (Zk _ m)
    . rcases Zp.mp mr with z | z
      . rw [z];exact Rat.le_trans a l
      . exact b r z
theorem tI {ps:List (Int×Int)} (hp:∀ p∈ps,0 < p.2):(ps=[]/\gre ps none=none) \/ ∃ g,gre ps none=some g/\g∈ps/\∀ p∈ps,vl p<=vl g:=by
 cases ps with
 | nil=>exact .inl ⟨rfl,rfl⟩
 | cons p ps =>
  obtain ⟨g,e,m,a,b⟩:=oI (fun r m=>hp r (Zk _ m)) (hp p Zj)
  refine .inr ⟨g,e,?_,fun r mr=>?_⟩
  . rcases m with m | m
    . rw [m];exact Zj
    . exact Zk _ m
  . rcases Zp.mp mr with z | z
    . rw [z];exact a
    . exact b r z
theorem sY {ps:List (Int×Int)} (hp:∀ p∈ps,0 < p.2):(ps=[]/\lea ps none=none) \/ ∃ g,lea ps none=some g/\g∈ps/\∀ p∈ps,vl g<=vl p:=by
 cases ps with
 | nil=>exact .inl ⟨rfl,rfl⟩
 | cons p ps =>
  obtain ⟨g,e,m,a,b⟩:=oA (fun r m=>hp r (Zk _ m)) (hp p Zj)
  refine .inr ⟨g,e,?_,fun r mr=>?_⟩
  . rcases m with m | m
    . rw [m];exact Zj
    . exact Zk _ m
  . rcases Zp.mp mr with z | z
    . rw [z];exact a
    . exact b r z
abbrev Pl:=List (Nat×(Int×Int))
def eu (d:Nat->Nat->Bn) (ps:Pl) (t:Nat):List (Int×Int):=ps.filterMap fun p=>(d p.1 t).map fun b=>mi p.2 (b.1,1)
def dM (d:Nat->Nat->Bn) (ps:Pl) (t:Nat):List (Int×Int):=ps.filterMap fun p=>(d t p.1).map fun b=>pl p.2 (b.1,1)
def eD (d:Nat->Nat->Bn) (ps:Pl) (t:Nat):Int×Int:=btw (gre (eu d ps t) none) (lea (dM d ps t) none)
section
variable {d:Nat->Nat->Bn} {ps:Pl} {t:Nat} {x:Nat->Rat}
theorem vM {g:Int×Int} (hp:∀ p∈ps,0 < p.2.2) (hx:∀ p∈ps,x p.1=vl p.2) (m:g∈eu d ps t):0 < g.2/\∃ p∈ps,iE x d t p.1=some (vl g):=by
 obtain ⟨p,mp,e⟩:=List.mem_filterMap.mp m
 rcases q:d p.1 t with _ | ⟨k,s⟩
 . rw [q] at e;cases e
 . rw [q] at e
   cases e
   refine ⟨(vK (hp p mp) Int.zero_lt_one).pos,p,mp,?_⟩
   unfold iE
   rw [q]
   show some (x p.1 - (k:Rat))=_
   rw [jR (hp p mp) Int.zero_lt_one,cN,hx p mp]
theorem tH {g:Int×Int} (hp:∀ p∈ps,0 < p.2.2) (hx:∀ p∈ps,x p.1=vl p.2) (m:g∈dM d ps t):0 < g.2/\∃ p∈ps,eX x d t p.1=some (vl g):=by
 obtain ⟨p,mp,e⟩:=List.mem_filterMap.mp m
 rcases q:d t p.1 with _ | ⟨k,s⟩
 . rw [q] at e;cases e
 . rw [q] at e
   cases e
   refine ⟨(n8 (hp p mp) Int.zero_lt_one).pos,p,mp,?_⟩
   unfold eX
   rw [q]
   show some (x p.1+(k:Rat))=_
   rw [rT (hp p mp) Int.zero_lt_one,cN,hx p mp]
theorem q9 {p:Nat×(Int×Int)} {lo:Rat} (hp:∀ p∈ps,0 < p.2.2) (hx:∀ p∈ps,x p.1=vl p.2) (m:p∈ps) (h:iE x d t p.1=some lo):∃ g∈eu d ps t,vl g=lo:=by
 unfold iE at h
 rcases q:d p.1 t with _ | ⟨k,s⟩
 . rw [q] at h;cases h
 . rw [q] at h
   cases h
   refine ⟨mi p.2 (k,1),List.mem_filterMap.mpr ⟨p,m,by rw [q];rfl⟩,?_⟩
   rw [jR (hp p m) Int.zero_lt_one,cN,hx p m]
theorem k7 {p:Nat×(Int×Int)} {hi:Rat} (hp:∀ p∈ps,0 < p.2.2) (hx:∀ p∈ps,x p.1=vl p.2) (m:p∈ps) (h:eX x d t p.1=some hi):∃ g∈dM d ps t,vl g=hi:=by
 unfold eX at h
 rcases q:d t p.1 with _ | ⟨k,s⟩
 . rw [q] at h;cases h
 . rw [q] at h
   cases h
   refine ⟨pl p.2 (k,1),List.mem_filterMap.mpr ⟨p,m,by rw [q];rfl⟩,?_⟩
   rw [rT (hp p m) Int.zero_lt_one,cN,hx p m]
theorem va {l h:Int×Int} (hl:0 < l.2) (hh:0 < h.2):vl (ti (pl l h) (1,2))+vl (ti (pl l h) (1,2))=vl l+vl h:=by
 rw [CI (n8 hl hh).pos (by decide),rT hl hh]
 have:vl (1,2)=1 / 2:=by unfold vl;rw [Rat.divInt_eq_div];rfl
 rw [this]
 grind
theorem wO (hp:∀ p∈ps,0 < p.2.2) (hx:∀ p∈ps,x p.1=vl p.2) (am:∀ p∈ps,∀ q∈ps,Kq (x p.1 - x q.1) (d p.1 q.1)) (clo:∀ p∈ps,∀ q∈ps,Le (d p.1 q.1) (bs (d p.1 t) (d t q.1))) :
 0 < (eD d ps t).2/\∀ p∈ps,Kq (x p.1 - vl (eD d ps t)) (d p.1 t)/\Kq (vl (eD d ps t) - x p.1) (d t p.1):=by
 have lp:∀ g∈eu d ps t,0 < g.2:=fun g m=>(vM hp hx m).1
 have hpp:∀ g∈dM d ps t,0 < g.2:=fun g m=>(tH hp hx m).1
 unfold eD
 rcases tI lp with ⟨le,lo⟩ | ⟨l,lo,ml,la⟩
 . have nl:∀ p∈ps,d p.1 t=none:=fun p m=>by
    cases q:d p.1 t with
    | none=>rfl
    | some b =>
     obtain ⟨g,mg,_⟩:=q9 (d:=d) (t:=t) (lo:=x p.1 - (b.1:Rat)) hp hx m (by unfold iE;rw [q])
     rw [le] at mg;cases mg
   rcases sY hpp with ⟨he,hi⟩ | ⟨h,hi,mh,ha⟩
   . have nh:∀ p∈ps,d t p.1=none:=fun p m=>by
      cases q:d t p.1 with
      | none=>rfl
      | some b =>
       obtain ⟨g,mg,_⟩:=k7 (d:=d) (t:=t) (hi:=x p.1+(b.1:Rat)) hp hx m (by unfold eX;rw [q])
       rw [he] at mg;cases mg
     rw [lo,hi]
     exact ⟨by decide,fun p m=>by rw [nl p m,nh p m];exact ⟨trivial,trivial⟩⟩
   . rw [lo,hi]
     have e:vl (btw none (some h))=vl h - 1:=by
      show vl (mi h (1,1))=_
      rw [jR (hpp h mh) (by decide),cN];rfl
     refine ⟨(vK (hpp h mh) (by decide)).pos,fun p m=>⟨by rw [nl p m];trivial,?_⟩⟩
     rw [e]
     cases q:eX x d t p.1 with
     | none =>
      unfold eX at q
      cases q2:d t p.1 with
      | none=>trivial
      | some b=>rw [q2] at q;cases q
     | some u =>
      obtain ⟨g,mg,eg⟩:=k7 hp hx m q
      have:=ha g mg
      exact oE q (by grind) (fun _=>by grind)
 . rcases sY hpp with ⟨he,hi⟩ | ⟨h,hi,mh,ha⟩
   . have nh:∀ p∈ps,d t p.1=none:=fun p m=>by
      cases q:d t p.1 with
      | none=>rfl
      | some b =>
       obtain ⟨g,mg,_⟩:=k7 (d:=d) (t:=t) (hi:=x p.1+(b.1:Rat)) hp hx m (by unfold eX;rw [q])
       rw [he] at mg;cases mg
     rw [lo,hi]
     have e:vl (btw (some l) none)=vl l+1:=by
      show vl (pl l (1,1))=_
      rw [rT (lp l ml) (by decide),cN];rfl
     refine ⟨(n8 (lp l ml) (by decide)).pos,fun p m=>⟨?_,by rw [nh p m];trivial⟩⟩
     rw [e]
     cases q:iE x d t p.1 with
     | none =>
      unfold iE at q
      cases q2:d p.1 t with
      | none=>trivial
      | some b=>rw [q2] at q;cases q
     | some u =>
      obtain ⟨g,mg,eg⟩:=q9 hp hx m q
      have:=la g mg
      exact p0 q (by grind) (fun _=>by grind)
   . rw [lo,hi]
     have e:=va (lp l ml) (hpp h mh)
     obtain ⟨_,pl',mpl,el⟩:=vM (x:=x) hp hx ml
     obtain ⟨_,ph,mph,eh⟩:=tH (x:=x) hp hx mh
     have lh:=(oz (am _ mpl _ mph) (clo _ mpl _ mph) el eh).1
     refine ⟨(AQ (n8 (lp l ml) (hpp h mh)).pos (by decide)).pos,fun p m=>⟨?_,?_⟩⟩
     . show Kq (x p.1 - vl (ti (pl l h) (1,2))) (d p.1 t)
       cases q:iE x d t p.1 with
       | none =>
        unfold iE at q
        cases q2:d p.1 t with
        | none=>trivial
        | some b=>rw [q2] at q;cases q
       | some u =>
        obtain ⟨g,mg,eg⟩:=q9 hp hx m q
        have:=la g mg
        have z:=oz (am _ m _ mph) (clo _ m _ mph) q eh
        refine p0 q (by grind) (fun w=>?_)
        have:=z.2 (.inl w)
        grind
     . show Kq (vl (ti (pl l h) (1,2)) - x p.1) (d t p.1)
       cases q:eX x d t p.1 with
       | none =>
        unfold eX at q
        cases q2:d t p.1 with
        | none=>trivial
        | some b=>rw [q2] at q;cases q
       | some u =>
        obtain ⟨g,mg,eg⟩:=k7 hp hx m q
        have:=ha g mg
        have z:=oz (am _ mpl _ m) (clo _ mpl _ m) el q
        refine oE q (by grind) (fun w=>?_)
        have:=z.2 (.inr w)
        grind
end
end Mth
namespace Mth
def Dy (W M:Int) (p:Int×Int):Prop:=0 < W/\Lw p/\∃ a:Int,p.1*W=a*p.2/\-(M*W)<=a/\a<=M*W
theorem Dy.w {W M:Int} {p:Int×Int} (h:Dy W M p):0 < W:=h.1
theorem Dy.lw {W M:Int} {p:Int×Int} (h:Dy W M p):Lw p:=h.2.1
theorem Dy.pos {W M:Int} {p:Int×Int} (h:Dy W M p):0 < p.2:=h.2.1.pos
theorem Dy.le {W M N:Int} {p:Int×Int} (h:Dy W M p) (e:M<=N):Dy W N p:=by
 obtain ⟨w,l,a,e1,e2,e3⟩:=h
 have z:=Int.mul_le_mul_of_nonneg_right e (Int.le_of_lt w)
 exact ⟨w,l,a,e1,by omega,by omega⟩
theorem Dy.up {W M:Int} {p:Int×Int} (h:Dy W M p):Dy (W*2) M p:=by
 obtain ⟨w,l,a,e1,e2,e3⟩:=h
 refine ⟨by omega,l,a*2,?_,?_,?_⟩
 . rw [<- Int.mul_assoc,e1,Int.mul_right_comm]
 . rw [<- Int.mul_assoc];omega
 . rw [<- Int.mul_assoc];omega
theorem wu {W M t b a:Int} (w:0 < W) (hb:0 < b) (e:t*W=a*b) (h1:-(M*W)<=a) (h2:a<=M*W):Dy W M (rd t b):=by
 refine ⟨w,x4 hb,a,?_,h1,h2⟩
 have c:(rd t b).1*b=t*(rd t b).2:=sx
 have:((rd t b).1*W)*b=(a*(rd t b).2)*b:=by
  rw [Int.mul_right_comm,c,Int.mul_right_comm,e,Int.mul_right_comm]
 exact Int.eq_of_mul_eq_mul_right (by omega) this
theorem Dy.pl {W M N:Int} {p q:Int×Int} (h:Dy W M p) (g:Dy W N q):Dy W (M+N) (pl p q):=by
 obtain ⟨w,l,a,e1,e2,e3⟩:=h
 obtain ⟨_,l',b,f1,f2,f3⟩:=g
 refine wu (a:=a+b) w (Int.mul_pos l.pos l'.pos) ?_ (by rw [Int.add_mul];omega) (by rw [Int.add_mul];omega)
 have x1:p.1*q.2*W=a*p.2*q.2:=by rw [Int.mul_right_comm,e1]
 have x2:q.1*p.2*W=b*q.2*p.2:=by rw [Int.mul_right_comm,f1]
 rw [Int.add_mul,x1,x2,Int.add_mul,Int.mul_assoc,Int.mul_assoc b,Int.mul_comm q.2 p.2]
theorem Dy.mi {W M N:Int} {p q:Int×Int} (h:Dy W M p) (g:Dy W N q):Dy W (M+N) (mi p q):=by
 obtain ⟨w,l,a,e1,e2,e3⟩:=h
 obtain ⟨_,l',b,f1,f2,f3⟩:=g
 refine wu (a:=a - b) w (Int.mul_pos l.pos l'.pos) ?_ (by rw [Int.add_mul];omega) (by rw [Int.add_mul];omega)
 have x1:p.1*q.2*W=a*p.2*q.2:=by rw [Int.mul_right_comm,e1]
 have x2:q.1*p.2*W=b*q.2*p.2:=by rw [Int.mul_right_comm,f1]
 rw [Int.sub_mul,x1,x2,Int.sub_mul,Int.mul_assoc,Int.mul_assoc b,Int.mul_comm q.2 p.2]
theorem Dy.half {W M:Int} {p:Int×Int} (h:Dy W (M+M) p):Dy (W*2) M (ti p (1,2)):=by
 obtain ⟨w,l,a,e1,e2,e3⟩:=h
 refine wu (a:=a) (by omega) (Int.mul_pos l.pos (by decide)) ?_ ?_ ?_
 . show p.1*1*(W*2)=a*(p.2*2)
   rw [Int.mul_one,<- Int.mul_assoc,e1,Int.mul_assoc]
 . rw [<- Int.mul_assoc];rw [Int.add_mul] at e2;omega
 . rw [<- Int.mul_assoc];rw [Int.add_mul] at e3;omega
theorem gK {n M:Int} (h1:-M<=n) (h2:n<=M) {W:Int} (w:0 < W):Dy W M (n,1):=by
 refine ⟨w,⟨by show (0:Int) < 1;decide,?_⟩,n*W,by show n*W=n*W*1;rw [Int.mul_one],?_,?_⟩
 . show gc n 1=1
   unfold gc
   simp
 . rw [<- Int.neg_mul];exact Int.mul_le_mul_of_nonneg_right h1 (Int.le_of_lt w)
 . exact Int.mul_le_mul_of_nonneg_right h2 (Int.le_of_lt w)
theorem Dy.dvd {W M:Int} {p:Int×Int} (h:Dy W M p):p.2 ∣ W:=by
 obtain ⟨w,l,a,e1,_⟩:=h
 have d:p.2 ∣ p.1*W:=⟨a,by rw [e1,Int.mul_comm]⟩
 have g:Nat.Coprime p.2.natAbs p.1.natAbs:=by
  have:=l.one
  unfold gc at this
  rw [Int.gcd_comm] at this
  have z:Int.gcd p.2 p.1=1:=by omega
  exact z
 have d':=Int.natAbs_dvd_natAbs.mpr d
 rw [Int.natAbs_mul] at d'
 exact Int.natAbs_dvd_natAbs.mp (g.dvd_of_dvd_mul_left d')
theorem Dy.bot {W M:Int} {p:Int×Int} (h:Dy W M p):p.2<=W:=Int.le_of_dvd h.w h.dvd
theorem Dy.top {W M:Int} {p:Int×Int} (h:Dy W M p):-(M*W)<=p.1/\p.1<=M*W:=by
 have hb:=h.bot
 obtain ⟨w,l,a,e1,e2,e3⟩:=h
 have hp:=l.pos
 have h2:=w
 constructor
 . refine Int.not_lt.mp fun z=>?_
   have hM:(0:Int)<=M*W:=by omega
   have:p.1*W < -(M*W)*W:=Int.mul_lt_mul_of_pos_right z h2
   rw [e1] at this
   have q:-(M*W)*p.2<=a*p.2:=Int.mul_le_mul_of_nonneg_right e2 (by omega)
   have q2:(M*W)*p.2<=(M*W)*W:=Int.mul_le_mul_of_nonneg_left hb hM
   rw [Int.neg_mul] at this q
   omega
 . refine Int.not_lt.mp fun z=>?_
   have hM:(0:Int)<=M*W:=by omega
   have:(M*W)*W < p.1*W:=Int.mul_lt_mul_of_pos_right z h2
   rw [e1] at this
   have q:a*p.2<=(M*W)*p.2:=Int.mul_le_mul_of_nonneg_right e3 (by omega)
   have q2:(M*W)*p.2<=(M*W)*W:=Int.mul_le_mul_of_nonneg_left hb hM
   omega
def Bo (N:Int):Bn->Prop
 | none=>True
 | some (k,_)=>-N<=k/\k<=N
theorem uX {W M:Int} (w:0 < W) {lo hi:Option (Int×Int)} (h0:0<=M) (h1:∀ p,lo=some p->Dy W M p) (h2:∀ p,hi=some p->Dy W M p):Dy (W*2) (M+1) (btw lo hi):=by
 cases lo with
 | none=>cases hi with
  | none=>exact gK (by omega) (by omega) (by omega)
  | some h=>exact ((h2 h rfl).mi (gK (M:=1) (by decide) (by decide) w)).up
 | some l=>cases hi with
  | none=>exact ((h1 l rfl).pl (gK (M:=1) (by decide) (by decide) w)).up
  | some h=>exact ((h1 l rfl).pl (h2 h rfl)).half.le (by omega)
theorem iR:∀ {ps:List (Int×Int)} {o:Option (Int×Int)} {g:Int×Int},gre ps o=some g->g∈ps \/ o=some g
 | [],o,g,h=>.inr h
 | p :: ps,none,g,h=>by
  rcases iR (ps:=ps) (o:=some p) h with z | z
  . exact .inl (Zk _ z)
  . cases z;exact .inl Zj
 | p :: ps,some q,g,h=>by
  rcases iR (ps:=ps) h with z | z
  . exact .inl (Zk _ z)
  . split at z
    . cases z;exact .inl Zj
    . exact .inr z
theorem m9:∀ {ps:List (Int×Int)} {o:Option (Int×Int)} {g:Int×Int},lea ps o=some g->g∈ps \/ o=some g
 | [],o,g,h=>.inr h
 | p :: ps,none,g,h=>by
  rcases m9 (ps:=ps) (o:=some p) h with z | z
  . exact .inl (Zk _ z)
  . cases z;exact .inl Zj
 | p :: ps,some q,g,h=>by
  rcases m9 (ps:=ps) h with z | z
  . exact .inl (Zk _ z)
  . split at z
    . cases z;exact .inl Zj
    . exact .inr z
theorem Ah {d:Nat->Nat->Bn} {ps:Pl} {t:Nat} {W M N:Int} (hp:∀ p∈ps,Dy W M p.2) (hd:∀ p∈ps,Bo N (d p.1 t)):∀ g∈eu d ps t,Dy W (M+N) g:=fun g m=>by
 obtain ⟨p,mp,e⟩:=List.mem_filterMap.mp m
 have b:=hd p mp
 rcases q:d p.1 t with _ | ⟨n,s⟩
 . rw [q] at e;cases e
 . rw [q] at e b
   cases e
   exact (hp p mp).mi (gK b.1 b.2 (hp p mp).w)
theorem yY {d:Nat->Nat->Bn} {ps:Pl} {t:Nat} {W M N:Int} (hp:∀ p∈ps,Dy W M p.2) (hd:∀ p∈ps,Bo N (d t p.1)):∀ g∈dM d ps t,Dy W (M+N) g:=fun g m=>by
 obtain ⟨p,mp,e⟩:=List.mem_filterMap.mp m
 have b:=hd p mp
 rcases q:d t p.1 with _ | ⟨n,s⟩
 . rw [q] at e;cases e
 . rw [q] at e b
   cases e
   exact (hp p mp).pl (gK b.1 b.2 (hp p mp).w)
theorem Bl {d:Nat->Nat->Bn} {ps:Pl} {t:Nat} {W M N:Int} (w:0 < W) (h0:0<=M+N) (hp:∀ p∈ps,Dy W M p.2) (hd:∀ p∈ps,Bo N (d p.1 t)) (hd':∀ p∈ps,Bo N (d t p.1)):Dy (W*2) (M+N+1) (eD d ps t):=by
 refine uX w h0 (fun g e=>?_) fun g e=>?_
 . rcases iR e with z | z
   . exact Ah hp hd g z
   . cases z
 . rcases m9 e with z | z
   . exact yY hp hd' g z
   . cases z
end Mth
namespace Mth
def has (ps:Pl) (t:Nat):Prop:=∃ v,(t,v)∈ps
instance (ps:Pl) (t:Nat):Decidable (has ps t):=decidable_of_iff (t∈ps.map (·.1)) ⟨fun h=>by
 obtain ⟨p,m,e⟩:=Zm.mp h
 exact ⟨p.2,by rw [<- e];exact m⟩,fun ⟨v,m⟩=>Zm.mpr ⟨_,m,rfl⟩⟩
def br (d:Nat->Nat->Bn) (ps:Pl):Nat->Pl
 | 0=>ps
 | m+1=>if has (br d ps m) m then br d ps m else br d ps m++[(m,eD d (br d ps m) m)]
structure uc (d:Nat->Nat->Bn) (n:Nat) (ps:Pl) (x:Nat->Rat):Prop where
 lt:∀ p∈ps,p.1 < n
 nd:(ps.map (·.1)).Nodup
 pos:∀ p∈ps,0 < p.2.2
 val:∀ p∈ps,x p.1=vl p.2
 am:∀ p∈ps,∀ q∈ps,Kq (x p.1 - x q.1) (d p.1 q.1)
theorem xv {d:Nat->Nat->Bn} {n t:Nat} {ps:Pl} {x:Nat->Rat} (g:uc d n ps x) (ht:t < n) (nt:¬ has ps t) (dia:∀ i,i < n->d i i=b0) (clo:∀ k i j,k < n->i < n->j < n->Le (d i j) (bs (d i k) (d k j))) :
 uc d n (ps++[(t,eD d ps t)]) (fun j=>if j=t then vl (eD d ps t) else x j):=by
 obtain ⟨h1,h2⟩:=wO (t:=t) g.pos g.val g.am (fun p mp q mq=>clo t _ _ ht (g.lt p mp) (g.lt q mq))
 have ne:∀ p∈ps,p.1 ≠ t:=fun p m e=>nt ⟨p.2,by rw [<- e];exact m⟩
 have zero:Kq (vl (eD d ps t) - vl (eD d ps t)) (d t t):=by
  rw [dia t ht]
  show vl (eD d ps t) - vl (eD d ps t)<=((0:Int):Rat)
  grind
 refine ⟨fun p m=>?_,?_,fun p m=>?_,fun p m=>?_,fun p mp q mq=>?_⟩
 . rcases Zo.mp m with z | z
   . exact g.lt p z
   . rw [Zl.mp z];exact ht
 . rw [List.map_append]
   refine List.nodup_append.mpr ⟨g.nd,by simp,fun a ha b hb e=>?_⟩
   obtain ⟨p,mp,rfl⟩:=Zm.mp ha
   have:b=t:=by simpa using hb
   exact ne p mp (e.trans this)
 . rcases Zo.mp m with z | z
   . exact g.pos p z
   . rw [Zl.mp z];exact h1
 . rcases Zo.mp m with z | z
   . show (if p.1=t then _ else x p.1)=_
     rw [if_neg (ne p z)];exact g.val p z
   . rw [Zl.mp z]
     exact if_pos rfl
 . show Kq ((if p.1=t then vl (eD d ps t) else x p.1) - (if q.1=t then vl (eD d ps t) else x q.1)) (d p.1 q.1)
   rcases Zo.mp mp with z | z
   . rw [if_neg (ne p z)]
     rcases Zo.mp mq with y | y
     . rw [if_neg (ne q y)];exact g.am p z q y
     . rw [Zl.mp y,if_pos rfl];exact (h2 p z).1
   . rw [Zl.mp z,if_pos rfl]
     rcases Zo.mp mq with y | y
     . rw [if_neg (ne q y)];exact (h2 q y).2
     . rw [Zl.mp y,if_pos rfl];exact zero
theorem jO {d:Nat->Nat->Bn} {n:Nat} {ps:Pl} (dia:∀ i,i < n->d i i=b0) (clo:∀ k i j,k < n->i < n->j < n->Le (d i j) (bs (d i k) (d k j))) (g:∃ x,uc d n ps x):∀ m,m<=n->(∃ x,uc d n (br d ps m) x)/\(∀ t,t < m->has (br d ps m) t)/\∀ p∈ps,p∈br d ps m
 | 0,_=>⟨g,fun t h=>absurd h (Nat.not_lt_zero t),fun p m=>m⟩
 | m+1,hm=>by
  obtain ⟨⟨x,g1⟩,h1,h2⟩:=jO dia clo g m (by omega)
  show (∃ x,uc d n (if has (br d ps m) m then br d ps m else _) x)/\(∀ t,t < m+1->has (if has (br d ps m) m then br d ps m else _) t)/\∀ p∈ps,p∈(if has (br d ps m) m then br d ps m else _)
  by_cases h:has (br d ps m) m
  . rw [if_pos h]
    refine ⟨⟨x,g1⟩,fun t ht=>?_,h2⟩
    by_cases e:t=m
    . rw [e];exact h
    . exact h1 t (by omega)
  . rw [if_neg h]
    refine ⟨⟨_,xv g1 (by omega) h dia clo⟩,fun t ht=>?_,fun p mp=>List.mem_append_left _ (h2 p mp)⟩
    by_cases e:t=m
    . rw [e];exact ⟨_,List.mem_append_right _ Zj⟩
    . obtain ⟨v,mv⟩:=h1 t (by omega)
      exact ⟨v,List.mem_append_left _ mv⟩
theorem cX (k:Nat):(0:Int) < 2 ^ k:=Int.pow_pos (by decide)
theorem wd {d:Nat->Nat->Bn} {ps:Pl} {W M N:Int} (w:0 < W) (hN:0<=N) (hM:0<=M) (hd:∀ i j,Bo N (d i j)) (h:∀ p∈ps,Dy W M p.2):∀ m,∀ p∈br d ps m,Dy (W*2 ^ m) (M+m*(N+1)) p.2
 | 0=>fun p m=>by
  rw [Int.pow_zero,Int.mul_one]
  exact (h p m).le (by show M<=M+((0:Nat):Int)*(N+1);rw [show ((0:Nat):Int)=0 from rfl,Int.zero_mul];omega)
 | m+1=>fun p mp=>by
  have e:((m+1:Nat):Int)*(N+1)=(m:Int)*(N+1)+(N+1):=by
   rw [show ((m+1:Nat):Int)=(m:Int)+1 from rfl,Int.add_mul,Int.one_mul]
  have ih:=wd w hN hM hd h m
  have nn:0<=(m:Int)*(N+1):=Int.mul_nonneg (by omega) (by omega)
  have wm:0 < W*2 ^ m:=Int.mul_pos w (cX m)
  have we:W*2 ^ (m+1)=W*2 ^ m*2:=by rw [Int.pow_succ,Int.mul_assoc]
  rw [we]
  have old:∀ p∈br d ps m,Dy (W*2 ^ m*2) (M+((m+1:Nat):Int)*(N+1)) p.2:=fun p mp=>((ih p mp).up).le (by rw [e];omega)
  have mp':p∈(if has (br d ps m) m then br d ps m else br d ps m++[(m,eD d (br d ps m) m)]):=mp
  split at mp'
  . exact old p mp'
  . rcases Zo.mp mp' with z | z
    . exact old p z
    . rw [Zl.mp z]
      exact (Bl wm (by omega) ih (fun _ _=>hd _ _) (fun _ _=>hd _ _)).le (by rw [e];omega)
def atP (ps:Pl) (t:Nat):Int×Int:=((ps.find? fun p=>p.1 == t).map (·.2)).getD (0,1)
theorem gM {ps:Pl} {t:Nat} {v:Int×Int} (nd:(ps.map (·.1)).Nodup) (m:(t,v)∈ps):atP ps t=v:=by
 unfold atP
 induction ps with
 | nil=>cases m
 | cons p ps ih =>
  rw [Zq,List.nodup_cons] at nd
  rw [List.find?_cons]
  rcases Zp.mp m with z | z
  . rw [<- z];simp
  . have:p.1 ≠ t:=fun e=>nd.1 (Zm.mpr ⟨_,z,e.symm⟩)
    rw [show (p.1 == t)=false from beq_eq_false_iff_ne.mpr this]
    exact ih nd.2 z
theorem wc {d:Nat->Nat->Bn} {n:Nat} {ps:Pl} (hn:0 < n) (dia:∀ i,i < n->d i i=b0) (clo:∀ k i j,k < n->i < n->j < n->Le (d i j) (bs (d i k) (d k j))) (g:∃ x,uc d n ps x) :
 Li d n (fun t=>vl (mi (atP (br d ps n) t) (atP (br d ps n) 0))):=by
 obtain ⟨⟨x,g1⟩,h1,_⟩:=jO dia clo g n (Nat.le_refl n)
 intro i j hi hj
 obtain ⟨v,mv⟩:=h1 i hi
 obtain ⟨w,mw⟩:=h1 j hj
 obtain ⟨z,mz⟩:=h1 0 hn
 show Kq (vl (mi (atP (br d ps n) i) (atP (br d ps n) 0)) - vl (mi (atP (br d ps n) j) (atP (br d ps n) 0))) (d i j)
 rw [gM g1.nd mv,gM g1.nd mw,gM g1.nd mz,jR (g1.pos _ mv) (g1.pos _ mz),jR (g1.pos _ mw) (g1.pos _ mz)]
 have k:=g1.am _ mv _ mw
 rw [g1.val _ mv,g1.val _ mw] at k
 have e:vl v - vl z - (vl w - vl z)=vl v - vl w:=by grind
 rw [e]
 exact k
end Mth
namespace Mth
theorem rm {a b:Int}:gc a b=1 <-> Nat.Coprime a.natAbs b.natAbs:=by
 unfold gc Nat.Coprime
 rw [Int.gcd]
 omega
theorem fU {a b:Int} (h:gc a b=1):gc b a=1:=by
 rw [rm] at *;exact h.symm
theorem iS {t a b:Int} (h:gc t a=1) (k:gc t b=1):gc t (a*b)=1:=by
 rw [rm] at *
 rw [Int.natAbs_mul]
 exact h.mul_right k
theorem jM {t s a b:Int} (h:gc t a=1) (k:s ∣ t) (l:b ∣ a):gc s b=1:=by
 rw [rm] at *
 exact Nat.Coprime.coprime_dvd_left (Int.natAbs_dvd_natAbs.mpr k) (Nat.Coprime.coprime_dvd_right (Int.natAbs_dvd_natAbs.mpr l) h)
theorem vZ {a b m:Int} (h:gc a b=1):gc (a+m*b) b=1:=by
 unfold gc at *
 rw [Int.gcd_comm,Int.gcd_add_mul_right_right,Int.gcd_comm]
 exact h
theorem ng {a b:Int} (h:0 < b):gc (a / gc a b) (b / gc a b)=1:=(kS (t:=a) h).one
theorem iX {d a:Int} (h:d ∣ a):a / d ∣ a:=⟨d,(Int.ediv_mul_cancel h).symm⟩
def sm (a b c e:Int):Int×Int :=
 ((a*(e / gc b e)+c*(b / gc b e)) / gc (a*(e / gc b e)+c*(b / gc b e)) (gc b e),
  b / gc b e*(e / gc (a*(e / gc b e)+c*(b / gc b e)) (gc b e)))
theorem AS {a b c e:Int} (h:Lo a b) (k:Lo c e):sm a b c e=rd (a*e+c*b) (b*e):=by
 have hb:=h.pos
 have he:=k.pos
 have hg:=c6 (t:=b) he
 have d1:gc b e ∣ b:=dG
 have d2:gc b e ∣ e:=cB
 have e1:=Int.ediv_mul_cancel d1
 have e2:=Int.ediv_mul_cancel d2
 have q:=ng (a:=b) he
 have p1:=iX d1
 have p2:=iX d2
 unfold sm
 generalize hg':gc b e=g at *
 generalize hP:b / g=P at *
 generalize hE:e / g=E at *
 generalize hT:a*E+c*P=T at *
 have hl:=c6 (t:=T) hg
 have l1:gc T g ∣ T:=dG
 have l2:gc T g ∣ g:=cB
 have l3:gc T g ∣ e:=Int.dvd_trans l2 d2
 have f1:=Int.ediv_mul_cancel l1
 have f2:=Int.ediv_mul_cancel l2
 have f3:=Int.ediv_mul_cancel l3
 have u:=ng (a:=T) hg
 have tP:gc T P=1:=by
  rw [<- hT]
  refine vZ ?_
  have x1:gc P a=1:=jM (fU h.one) p1 (Int.dvd_refl a)
  exact fU (iS x1 q)
 have tE:gc T E=1:=by
  rw [<- hT,Int.add_comm]
  refine vZ ?_
  have x1:gc E c=1:=jM (fU k.one) p2 (Int.dvd_refl c)
  exact fU (iS x1 (fU q))
 have p3:=iX l1
 generalize hl':gc T g=l at *
 generalize hT':T / l=T' at *
 generalize hG':g / l=G' at *
 have ee:e / l=E*G':=by
  rw [<- e2,<- f2]
  have:E*(G'*l)=E*G'*l:=by grind
  rw [this,Int.mul_ediv_cancel _ (by omega)]
 rw [ee]
 have hP0:0 < P:=by
  have:0 < P*g:=by omega
  exact Int.pos_of_mul_pos_left this hg
 have hE0:0 < E:=by
  have:0 < E*g:=by omega
  exact Int.pos_of_mul_pos_left this hg
 have hG0:0 < G':=by
  have:0 < G'*l:=by omega
  exact Int.pos_of_mul_pos_left this hl
 refine (x5 (Int.mul_pos hb he) ⟨Int.mul_pos hP0 (Int.mul_pos hE0 hG0),?_⟩ ?_).symm
 . exact iS (jM tP p3 (Int.dvd_refl P)) (iS (jM tE p3 (Int.dvd_refl E)) u)
 . have:a*e+c*b=T*g:=by rw [<- hT,<- e1,<- e2];grind
   rw [this,<- f1,<- e1,<- e2]
   rw [<- f2]
   grind
def tm (a b c e:Int):Int×Int:=(a / gc a e*(c / gc c b),b / gc c b*(e / gc a e))
theorem CL {a b c e:Int} (h:Lo a b) (k:Lo c e):tm a b c e=rd (a*c) (b*e):=by
 have hb:=h.pos
 have he:=k.pos
 have hf:=c6 (t:=a) he
 have hs:=c6 (t:=c) hb
 have a1:gc a e ∣ a:=dG
 have a2:gc a e ∣ e:=cB
 have b1:gc c b ∣ c:=dG
 have b2:gc c b ∣ b:=cB
 have u:=ng (a:=a) he
 have v:=ng (a:=c) hb
 have p1:=iX a1
 have p2:=iX a2
 have p3:=iX b1
 have p4:=iX b2
 have e1:=Int.ediv_mul_cancel a1
 have e2:=Int.ediv_mul_cancel a2
 have e3:=Int.ediv_mul_cancel b1
 have e4:=Int.ediv_mul_cancel b2
 unfold tm
 generalize gc a e=f at *
 generalize gc c b=s at *
 generalize a / f=A at *
 generalize e / f=E at *
 generalize c / s=C at *
 generalize b / s=B at *
 have hE0:0 < E:=by
  have:0 < E*f:=by omega
  exact Int.pos_of_mul_pos_left this hf
 have hB0:0 < B:=by
  have:0 < B*s:=by omega
  exact Int.pos_of_mul_pos_left this hs
 refine (x5 (Int.mul_pos hb he) ⟨Int.mul_pos hB0 hE0,?_⟩ ?_).symm
 . have x1:gc A B=1:=jM h.one p1 p4
   have x2:gc C E=1:=jM k.one p3 p2
   have y1:gc A (B*E)=1:=iS x1 u
   have y2:gc C (B*E)=1:=iS v x2
   exact fU (iS (fU y1) (fU y2))
 . rw [<- e1,<- e2,<- e3,<- e4];grind
theorem Dg {p q:Int×Int} (h:Lw p) (k:Lw q):pl p q=sm p.1 p.2 q.1 q.2:=(AS h k).symm
theorem Dr {p q:Int×Int} (h:Lw p) (k:Lw q):mi p q=sm p.1 p.2 (-q.1) q.2:=by
 rw [AS h (Lo.neg k)]
 unfold mi
 rw [Int.neg_mul,<- Int.sub_eq_add_neg]
theorem CM {p q:Int×Int} (h:Lw p) (k:Lw q):ti p q=tm p.1 p.2 q.1 q.2:=(CL h k).symm
end Mth
namespace Mth
theorem zo {W M:Int} {a b k:Nat} {p:Int×Int} (h:Dy W M p) (hW:W<=2 ^ a) (hM:M<=2 ^ b) (hk:a+b < k):Fr k p:=by
 have hw:=h.w
 have ht:=h.top
 have hb:=h.bot
 have hp:=h.pos
 have h2a:(0:Int) < 2 ^ a:=cX a
 have h2b:(0:Int) < 2 ^ b:=cX b
 have m1:M*W<=2 ^ b*W:=Int.mul_le_mul_of_nonneg_right hM (Int.le_of_lt hw)
 have m2:(2:Int) ^ b*W<=2 ^ b*2 ^ a:=Int.mul_le_mul_of_nonneg_left hW (Int.le_of_lt h2b)
 have e1:(2:Int) ^ b*2 ^ a=2 ^ (a+b):=by rw [<- Int.pow_add,Nat.add_comm]
 have q:2 ^ (a+b) < 2 ^ k:=Nat.pow_lt_pow_right (by decide) hk
 have q2:2 ^ a < 2 ^ k:=Nat.pow_lt_pow_right (by decide) (by omega)
 have c1:((2 ^ (a+b):Nat):Int)=2 ^ (a+b):=by rw [Int.natCast_pow];rfl
 have c2:((2 ^ a:Nat):Int)=2 ^ a:=by rw [Int.natCast_pow];rfl
 refine ⟨h.lw,?_,?_⟩
 . unfold Sm
   omega
 . unfold Sm
   omega
end Mth
namespace Mth
def fF (back:Bn):List (Int×Int):=match back with
 | none=>[]
 | some (k,_)=>[(-k,1)]
def io (bound back:Bn) (e:Int×Int):Int×Int:=match bound with
 | none=>btw (gre (fF back++[low e.2 e.1]) none) none
 | some (n,true)=>btw (gre (fF back++[mi (n,1) e]) none) (some (n,1))
 | some (n,false)=>(n,1)
theorem rc {e:Int×Int} (h:0 < e.1):low e.2 e.1=rd e.2 e.1:=vN h
theorem Bj {e:Int×Int} (h:0 < e.1):vl (low e.2 e.1)=Rat.divInt e.2 e.1:=by rw [rc h,u9 h]
theorem Bi {e:Int×Int} (h:0 < e.1) (g:0 < e.2):0 < vl e:=(oR g).mpr h
theorem tJ {ps:List (Int×Int)} {q:Int×Int} (hp:∀ p∈ps,0 < p.2) (hq:0 < q.2):∃ g,gre (ps++[q]) none=some g/\g∈ps++[q]/\0 < g.2/\vl q<=vl g/\∀ p∈ps,vl p<=vl g:=by
 have ha:∀ p∈ps++[q],0 < p.2:=fun p m=>by
  rcases Zo.mp m with z | z
  . exact hp p z
  . rw [Zl.mp z];exact hq
 rcases tI ha with ⟨e,_⟩ | ⟨g,h1,h2,h3⟩
 . have:=congrArg List.length e
   rw [Zh] at this
   simp at this
 . exact ⟨g,h1,h2,ha g h2,h3 q (List.mem_append_right _ Zj),fun p m=>h3 p (List.mem_append_left _ m)⟩
theorem sW {back:Bn}:∀ p∈fF back,0 < p.2:=fun p m=>by
 rcases back with _ | ⟨k,s⟩
 . cases m
 . rw [Zl.mp m];show (0:Int) < 1;decide
theorem pb {back:Bn} {y:Rat} (h:∀ p∈fF back,vl p < y):Kq (0 - y) back:=by
 rcases back with _ | ⟨k,s⟩
 . trivial
 . have:=h (-k,1) Zj
   rw [cN,Rat.intCast_neg] at this
   cases s with
   | true=>show 0 - y < (k:Rat);grind
   | false=>show 0 - y<=(k:Rat);grind
def DL (bound:Bn) (e:Int×Int) (y:Rat):Prop:=match bound with
 | none=>Rat.divInt e.2 e.1 < y
 | some (n,true)=>(n:Rat) - vl e < y
 | some (n,false)=>y=(n:Rat)
theorem zi {bound back:Bn} {e:Int×Int} (e1:0 < e.1) (e2:0 < e.2) (hn:Nn (bs bound back)):0 < (io bound back e).2/\Kq (vl (io bound back e)) bound/\Kq (0 - vl (io bound back e)) back/\DL bound e (vl (io bound back e)):=by
 rcases bound with _ | ⟨n,s⟩
 . have hq:0 < (low e.2 e.1).2:=by rw [rc e1];exact (x4 e1).pos
   obtain ⟨g,h1,_,h3,h4,h5⟩:=tJ (sW (back:=back)) hq
   have ev:vl (io none back e)=vl g+1:=by
    show vl (btw (gre (fF back++[low e.2 e.1]) none) none)=_
    rw [h1]
    show vl (pl g (1,1))=_
    rw [rT h3 (by decide),cN];rfl
   refine ⟨?_,trivial,pb fun p m=>?_,?_⟩
   . show 0 < (btw (gre (fF back++[low e.2 e.1]) none) none).2
     rw [h1]
     exact (n8 h3 (by decide)).pos
   . have:=h5 p m
     rw [ev]
     grind
   . show Rat.divInt e.2 e.1 < _
     rw [ev]
     rw [Bj e1] at h4
     grind
 . cases s with
   | true =>
    have hq:0 < (mi (n,1) e).2:=(vK (by show (0:Int) < 1;decide) e2).pos
    obtain ⟨g,h1,h2,h3,h4,h5⟩:=tJ (sW (back:=back)) hq
    have em:vl (mi (n,1) e)=(n:Rat) - vl e:=by rw [jR (by show (0:Int) < 1;decide) e2,cN]
    have ep:=Bi e1 e2
    have gl:vl g < (n:Rat):=by
     rcases Zo.mp h2 with z | z
     . rcases back with _ | ⟨k,t⟩
       . cases z
       . rw [Zl.mp z,cN,Rat.intCast_neg]
         have h':Nn (some (n+k,true || t)):=hn
         rw [<- k5] at h'
         have h2:(0:Rat) < ((n+k:Int):Rat):=h'
         rw [Rat.intCast_add] at h2
         grind
     . rw [Zl.mp z,em]
       grind
    have n1:(0:Int) < ((n,1):Int×Int).2:=by show (0:Int) < 1;decide
    have eh:=va h3 n1
    have ev:vl (io (some (n,true)) back e)=vl (ti (pl g (n,1)) (1,2)):=by
     show vl (btw (gre (fF back++[mi (n,1) e]) none) (some (n,1)))=_
     rw [h1]
     rfl
    rw [cN] at eh
    refine ⟨?_,?_,pb fun p m=>?_,?_⟩
    . show 0 < (btw (gre (fF back++[mi (n,1) e]) none) (some (n,1))).2
      rw [h1]
      exact (AQ (n8 h3 n1).pos (by decide)).pos
    . show vl _ < (n:Rat)
      rw [ev]
      grind
    . have:=h5 p m
      rw [ev]
      grind
    . show (n:Rat) - vl e < _
      rw [ev]
      rw [em] at h4
      grind
   | false =>
    have ev:vl (io (some (n,false)) back e)=(n:Rat):=cN n
    refine ⟨by show (0:Int) < 1;decide,?_,?_,ev⟩
    . show vl _<=(n:Rat)
      rw [ev]
      exact Rat.le_refl
    . rw [ev]
      rcases back with _ | ⟨k,t⟩
      . trivial
      . have h':Nn (some (n+k,false || t)):=hn
        rw [<- k5] at h'
        cases t with
        | true =>
         have h2:(0:Rat) < ((n+k:Int):Rat):=h'
         rw [Rat.intCast_add] at h2
         show 0 - (n:Rat) < (k:Rat)
         grind
        | false =>
         have h2:(0:Rat)<=((n+k:Int):Rat):=h'
         rw [Rat.intCast_add] at h2
         show 0 - (n:Rat)<=(k:Rat)
         grind
theorem Cq {bound back:Bn} {e:Int×Int} {N:Int} (e1:0 < e.1) (e2:0 < e.2) (hl:Lw e) (hN:0<=N) (hb:Bo N bound) (hk:Bo N back):Dy (2*e.1*e.2*2) (N+e.1+e.2+1) (io bound back e):=by
 have w:0 < 2*e.1*e.2:=Int.mul_pos (Int.mul_pos (by decide) e1) e2
 have de:Dy (2*e.1*e.2) e.1 e:=by
  refine ⟨w,hl,2*e.1*e.1,by grind,?_,?_⟩
  . have:=Int.mul_nonneg (Int.le_of_lt e1) (Int.le_of_lt w)
    have:=Int.mul_nonneg (Int.mul_nonneg (show (0:Int)<=2 by decide) (Int.le_of_lt e1)) (Int.le_of_lt e1)
    omega
  . have h:2*e.1*e.1*1<=2*e.1*e.1*e.2:=Int.mul_le_mul_of_nonneg_left (by omega) (Int.mul_nonneg (Int.mul_nonneg (by decide) (Int.le_of_lt e1)) (Int.le_of_lt e1))
    have e':e.1*(2*e.1*e.2)=2*e.1*e.1*e.2:=by grind
    omega
 have di:Dy (2*e.1*e.2) e.2 (low e.2 e.1):=by
  rw [rc e1]
  refine wu (a:=2*e.2*e.2) w e1 (by grind) ?_ ?_
  . have:=Int.mul_nonneg (Int.le_of_lt e2) (Int.le_of_lt w)
    have:=Int.mul_nonneg (Int.mul_nonneg (show (0:Int)<=2 by decide) (Int.le_of_lt e2)) (Int.le_of_lt e2)
    omega
  . have h:2*e.2*e.2*1<=2*e.2*e.2*e.1:=Int.mul_le_mul_of_nonneg_left (by omega) (Int.mul_nonneg (Int.mul_nonneg (by decide) (Int.le_of_lt e2)) (Int.le_of_lt e2))
    have e':e.2*(2*e.1*e.2)=2*e.2*e.2*e.1:=by grind
    omega
 have dl:∀ p∈fF back,Dy (2*e.1*e.2) (N+e.1+e.2) p:=fun p m=>by
  rcases back with _ | ⟨k,t⟩
  . cases m
  . rw [Zl.mp m]
    have h':-N<=k/\k<=N:=hk
    exact gK (by omega) (by omega) w
 rcases bound with _ | ⟨n,s⟩
 . refine uX (M:=N+e.1+e.2) w (by omega) (fun p h=>?_) (fun p h=>nomatch h)
   rcases iR h with z | z
   . rcases Zo.mp z with z | z
     . exact dl p z
     . rw [Zl.mp z];exact di.le (by omega)
   . cases z
 . have hb':-N<=n/\n<=N:=hb
   have dn:∀ {W:Int},0 < W->Dy W N (n,1):=fun w=>gK hb'.1 hb'.2 w
   cases s with
   | true =>
    refine uX (M:=N+e.1+e.2) w (by omega) (fun p h=>?_) (fun p h=>?_)
    . rcases iR h with z | z
      . rcases Zo.mp z with z | z
        . exact dl p z
        . rw [Zl.mp z];exact ((dn w).mi de).le (by omega)
      . cases z
    . cases h
      exact (dn w).le (by omega)
   | false=>exact (dn (by omega)).le (by omega)
end Mth
namespace Mth
section
variable {d:Nat->Nat->Bn} {n i j:Nat} {e:Int×Int}
end
theorem xO {a b:Bn} (h:tgt a b=true):∃ m t,a=some (m,t):=by
 rcases a with _ | ⟨m,t⟩
 . cases h
 . exact ⟨m,t,rfl⟩
end Mth
namespace Dl
open PySem PySem.Spec PyProof.Rows L2
structure Ea (P:Program) (w:World) (H H':Hp) (s:Shared) (l:List Env) (B:Heap) (s':Shared):Prop where
 os:s'.os=s.os
 bare:AllBare s'.gens
 un:Un (frs l) [] H H' s.heap s'.heap
 hok:HOk P w H' B
 keepB:∀ b o,s.heap.get? b=some o->H b=none->b ∉ frs l->B.get? b=some o
 thereB:∀ b o,s.heap.get? b=some o->b ∉ frs l->∃ o',B.get? b=some o'
def D9 (P:Program) (w:World) (H H':Hp) (s:Shared) (l:List Env) (x C:Addr) (s':Shared):Prop :=
 ∃ (B:Heap) (t:Addr),Ea P w H H' s l B s'/\Heap.FlyingW B l x (.ref C) (.ref t) s'.heap
section
variable {P:Program} {w:World} {H H':Hp} {s s':Shared} {l:List Env} {B:Heap} {h':Heap}
end
def Bh (X:Cx) (C:Addr) (σ:L2.St) (H:Hp):Prop:=∀ (pins:List (Addr×Obj)) (s:Shared) (h':Heap) (e:Addr) (vs:List Value),L2.Inv X pins σ H s->Heap.MadeExcOf s.heap h' e (.ref C) vs->X.xe (.ref e) { s with heap:=h' }
def DJ (X:Cx) (C:Addr) (σ:L2.St) (H:Hp):Prop:=∀ (pins:List (Addr×Obj)) (H₀:Hp) (s:Shared) (x:Addr) (s':Shared),L2.Inv X pins σ H₀ s->D9 X.prog X.w H₀ H s X.stack x C s'->X.xe (.ref x) s'
section
variable {P:Program} {w:World} {K:PySem.W.Frag} {mg:Str->Option Value} {base:Heap} {N:List Str} {qual:Str} {scope:Scope} {f:Addr} {cd:Value} {A:Around} {outer:List Env} {s:Shared} {H:Hp} {E:XK}
end
end Dl
namespace Dl
open PySem PySem.Spec PyProof.Rows L2
inductive D where
 | non
 | bl (b:Bool)
 | int (i:Int)
 | str (x:Str)
 | tup (ds:List D)
 | lst (ds:List D)
 | seq (ds:List D)
 | ty (n:String)
 | dct
 | exc (C:Addr)
 | cls (C:Addr)
 | ms (ks:List Int) (ds:List D)
 | mf (ks:List Int) (ds:List D)
 | md (ks:List Int) (ds:List D)
def Ec (a:Addr):HO:=.ext fun h=>∃ o,h.get? a=some o/\o.cls=.type "dict"
def Eb (a C:Addr):HO:=.ext fun h=>∃ o vs,h.get? a=some o/\o.cls=.ref C/\o.data=.fields vs
mutual
inductive Rep (K:PySem.W.Frag) (H:Hp):V->D->Prop
 | non:Rep K H .non .non
 | bl (b:Bool):Rep K H (.bl b) (.bl b)
 | int (i:Int):Rep K H (.int i) (.int i)
 | str (x:Str):Rep K H (.str x) (.str x)
 | ty (n:String):Rep K H (.ty n) (.ty n)
 | tup {a:Addr} {vs:List V} {ds:List D} (h:SqT K H a vs) (r:Reps K H vs ds):Rep K H (.ref a) (.tup ds)
 | lst {a:Addr} {vs:List V} {ds:List D} (h:H a=some (.lst vs)) (r:Reps K H vs ds):Rep K H (.ref a) (.lst ds)
 | seq {a:Addr} {vs:List V} {ds:List D} (h:SqL K H a vs) (r:Reps K H vs ds):Rep K H (.ref a) (.seq ds)
 | dct {a:Addr} (h:H a=some (Ec a)):Rep K H (.ref a) .dct
 | exc {a C:Addr} (h:H a=some (Eb a C)):Rep K H (.ref a) (.exc C)
 | cls (C:Addr):Rep K H (.ref C) (.cls C)
 | ms {a:Addr} {ks:List Int} {vs:List V} {ds:List D} (h:Rd H a (.dK ((ks.map Sum.inl).zip vs))) (l:ks.length=ds.length) (r:Reps K H vs ds):Rep K H (.ref a) (.ms ks ds)
 | mf {a:Addr} {ks:List Int} {vs:List V} {ds:List D} (h:∃ o,H a=some (.frz o (.dK ((ks.map Sum.inl).zip vs)))) (l:ks.length=ds.length) (r:Reps K H vs ds):Rep K H (.ref a) (.mf ks ds)
 | md {a:Addr} {ks:List Int} {vs:List V} {ds:List D} (h:H a=some (.dK ((ks.map Sum.inl).zip vs))) (l:ks.length=ds.length) (r:Reps K H vs ds):Rep K H (.ref a) (.md ks ds)
inductive Reps (K:PySem.W.Frag) (H:Hp):List V->List D->Prop
 | nil:Reps K H [] []
 | cons {v:V} {d:D} {vs:List V} {ds:List D} (r:Rep K H v d) (t:Reps K H vs ds):Reps K H (v :: vs) (d :: ds)
end
theorem nK {K:PySem.W.Frag} {H H':Hp} {a:Addr} {xs:List V} (e:Same H H') (h:SqT K H a xs):SqT K H' a xs:=by
 rcases h with (h | ⟨o,h⟩) | h
 . exact .inl (.inl (e _ _ h))
 . exact .inl (.inr ⟨o,e _ _ h⟩)
 . exact .inr h
mutual
theorem Rep.mono {K:PySem.W.Frag} {H H':Hp} (e:Same H H'):∀ {v:V} {d:D},Rep K H v d->Rep K H' v d
 | _,_,.non=>.non
 | _,_,.bl b=>.bl b
 | _,_,.int i=>.int i
 | _,_,.str x=>.str x
 | _,_,.ty n=>.ty n
 | _,_,.tup h r=>.tup (nK e h) (Reps.mono e r)
 | _,_,.lst h r=>.lst (e _ _ h) (Reps.mono e r)
 | _,_,.seq h r=>.seq (e.seq h) (Reps.mono e r)
 | _,_,.dct h=>.dct (e _ _ h)
 | _,_,.exc h=>.exc (e _ _ h)
 | _,_,.cls C=>.cls C
 | _,_,.ms h l r=>.ms (h.imp (e _ _) fun ⟨o,h⟩=>⟨o,e _ _ h⟩) l (Reps.mono e r)
 | _,_,.mf ⟨o,h⟩ l r=>.mf ⟨o,e _ _ h⟩ l (Reps.mono e r)
 | _,_,.md h l r=>.md (e _ _ h) l (Reps.mono e r)
theorem Reps.mono {K:PySem.W.Frag} {H H':Hp} (e:Same H H'):∀ {vs:List V} {ds:List D},Reps K H vs ds->Reps K H' vs ds
 | _,_,.nil=>.nil
 | _,_,.cons r t=>.cons (Rep.mono e r) (Reps.mono e t)
end
theorem Reps.length {K:PySem.W.Frag} {H:Hp}:∀ {vs:List V} {ds:List D},Reps K H vs ds->vs.length=ds.length
 | _,_,.nil=>rfl
 | _,_,.cons _ t=>congrArg (· + 1) (Reps.length t)
theorem Reps.get {K:PySem.W.Frag} {H:Hp}:∀ {vs:List V} {ds:List D} {i:Nat} {d:D},Reps K H vs ds->ds[i]? = some d->∃ v,vs[i]? = some v/\Rep K H v d
 | _,_,_,_,.nil,e=>by simp at e
 | _,_,0,_,.cons r _,e=>by simp at e;subst e;exact ⟨_,rfl,r⟩
 | _,_,i+1,d,.cons _ t,e=>by
  obtain ⟨v,h1,h2⟩:=Reps.get (i:=i) (d:=d) t (by simpa using e)
  exact ⟨v,by simpa using h1,h2⟩
theorem Reps.getV {K:PySem.W.Frag} {H:Hp}:∀ {vs:List V} {ds:List D} {i:Nat} {v:V},Reps K H vs ds->vs[i]? = some v->∃ d,ds[i]? = some d/\Rep K H v d
 | _,_,_,_,.nil,e=>by simp at e
 | _,_,0,_,.cons r _,e=>by simp at e;subst e;exact ⟨_,rfl,r⟩
 | _,_,i+1,d,.cons _ t,e=>by
  obtain ⟨v,h1,h2⟩:=Reps.getV (i:=i) (v:=d) t (by simpa using e)
  exact ⟨v,by simpa using h1,h2⟩
theorem Reps.append {K:PySem.W.Frag} {H:Hp}:∀ {vs us:List V} {ds es:List D},Reps K H vs ds->Reps K H us es->Reps K H (vs++us) (ds++es)
 | _,_,_,_,.nil,s=>s
 | _,_,_,_,.cons r t,s=>.cons r (Reps.append t s)
theorem Reps.ints {K:PySem.W.Frag} {H:Hp}:∀ (ns:List Int),Reps K H (ns.map V.int) (ns.map D.int)
 | []=>.nil
 | n :: r=>.cons (.int n) (Reps.ints r)
theorem Reps.atI {K:PySem.W.Frag} {H:Hp} {vs:List V} {ds:List D} {i:Int} {d:D} (r:Reps K H vs ds) (e:L2.atI ds i=some d):∃ v,L2.atI vs i=some v/\Rep K H v d:=by
 unfold L2.atI at e ⊢
 rw [<- r.length] at e
 obtain ⟨j,h1,h2⟩:=Za.mp e
 obtain ⟨v,h3,h4⟩:=r.get h2
 exact ⟨v,by rw [h1];exact h3,h4⟩
abbrev DS:=List (Option D)
structure RepS (K:PySem.W.Frag) (H:Hp) (σ:L2.St) (δ:DS):Prop where
 len:σ.length=δ.length
 val:∀ (i:Nat) (d:D),δ[i]? = some (some d)->∃ v,σ[i]? = some (some v)/\Rep K H v d
theorem RepS.mono {K:PySem.W.Frag} {H H':Hp} {σ:L2.St} {δ:DS} (e:Same H H') (h:RepS K H σ δ):RepS K H' σ δ :=
 ⟨h.len,fun i d q=>let ⟨v,a,b⟩:=h.val i d q;⟨v,a,b.mono e⟩⟩
theorem RepS.set {K:PySem.W.Frag} {H:Hp} {σ:L2.St} {δ:DS} {v:V} {d:D} (h:RepS K H σ δ) (i:Nat) (r:Rep K H v d):RepS K H (σ.set i (some v)) (δ.set i (some d)):=by
 refine ⟨by rw [List.length_set,List.length_set];exact h.len,fun j e q=>?_⟩
 have hl:=h.len
 rw [List.getElem?_set] at q ⊢
 by_cases hj:i=j
 . subst hj
   rw [if_pos rfl] at q ⊢
   by_cases hi:i < δ.length
   . rw [if_pos hi] at q
     rw [if_pos (by omega)]
     have:d=e:=by simpa using q
     subst this
     exact ⟨v,rfl,r⟩
   . rw [if_neg hi] at q;cases q
 . rw [if_neg hj] at q ⊢
   exact h.val j e q
theorem RepS.start {K:PySem.W.Frag} {H:Hp} {N:List Str} {vs:List V} {ds:List D} (r:Reps K H vs ds):RepS K H (L2.start N vs) (ds.map some++List.replicate (N.length - ds.length) none):=by
 unfold L2.start
 refine ⟨by simp [r.length],fun i d q=>?_⟩
 have hi:i < ds.length:=by
  by_cases hi:i < ds.length
  . exact hi
  . rw [List.getElem?_append_right (by simpa using hi),List.getElem?_replicate] at q
    split at q <;> cases q
 rw [List.getElem?_append_left (by simpa using hi),List.getElem?_map] at q
 obtain ⟨e,h1,h2⟩:=Zb.mp q
 cases h2
 obtain ⟨v,h3,h4⟩:=r.get h1
 have hv:i < vs.length:=by rw [r.length];exact hi
 exact ⟨v,by rw [List.getElem?_append_left (by simpa using hv),List.getElem?_map,h3];rfl,h4⟩
abbrev FD:=DS->Option D
def up (K:PySem.W.Frag) (f:FD):TE:=fun σ H Q=>∃ δ d,RepS K H σ δ/\f δ=some d/\∀ v H',Same H H'->Rep K H' v d->Q v H'
def PD (X:Cx) (e:Expr) (f:FD):Prop:=PE X e (up X.K f)
theorem imp {X:Cx} {e:Expr} {t t':TE} (h:PE X e t) (w:∀ σ H Q,t' σ H Q->t σ H Q):PE X e t':=fun pins s σ H Q I q=>h pins s σ H Q I (w σ H Q q)
theorem df {H:Hp} {p:Addr} (h:H p=none) (o:HO):Same H (upd H p o):=fun b u q=>by rw [aB (c5 q h)];exact q
def ae (i:Nat):FD:=fun δ=>match δ[i]? with
 | some (some d)=>some d
 | _=>none
def fC (d:D):FD:=fun _=>some d
def f2 (g:D->D->Option D) (fa fb:FD):FD:=fun δ=>(fa δ).bind fun x=>(fb δ).bind fun y=>g x y
def f1 (g:D->Option D) (fa:FD):FD:=fun δ=>(fa δ).bind g
section
variable {X:Cx} {a b e:Expr} {fa fb f:FD} {pos:Pos}
theorem ab (i:Nat) {x:Str} (hN:X.N[i]? = some x:=by rfl) (hv:Vis X.env.scope x:=by first | exact Or.inl rfl | exact Or.inr (Or.inl rfl) | exact Or.inr (Or.inr rfl)) (hd:(x == ("__debug__":Str))=false:=by decide)
 (hcd:(x == ("__classdict__":Str))=false:=by decide):PD X (.Name x pos) (ae i) :=
 imp (n9 hN hv hd hcd) fun σ H Q ⟨δ,d,R,e,k⟩=>by
  unfold ae at e
  split at e
  . rename_i d' h
    cases e
    obtain ⟨v,h1,h2⟩:=R.val i _ h
    exact ⟨v,h1,k v H (Same.refl H) h2⟩
  . cases e
theorem ah {i j}:PD X (.Constant (.int i) j pos) (fC (.int i)):=imp BS fun σ H Q ⟨δ,d,R,e,k⟩=>by cases e;exact k _ H (Same.refl H) (.int i)
theorem jk {b j}:PD X (.Constant (.bool b) j pos) (fC (.bl b)):=imp Dk fun σ H Q ⟨δ,d,R,e,k⟩=>by cases e;exact k _ H (Same.refl H) (.bl b)
theorem bB {j}:PD X (.Constant .none j pos) (fC .non):=imp BR fun σ H Q ⟨δ,d,R,e,k⟩=>by cases e;exact k _ H (Same.refl H) .non
theorem j8 {x j}:PD X (.Constant (.str x) j pos) (fC (.str x)):=imp BO fun σ H Q ⟨δ,d,R,e,k⟩=>by cases e;exact k _ H (Same.refl H) (.str x)
theorem yu {x:Str} {n:String} (hg:Gl X x) (hm:X.mg x=none) (hv:bootBuiltins x=some (.type n)) (hn:x ≠ "__name__":=by decide) (hd:(x == ("__debug__":Str))=false:=by decide):PD X (.Name x pos) (fC (.ty n)) :=
 imp (z8 (v:=.ty n) hg hm hv rfl hn hd) fun σ H Q ⟨δ,d,R,e,k⟩=>by cases e;exact k _ H (Same.refl H) (.ty n)
def R2D (K:PySem.W.Frag) (r:R2) (g:D->D->Option D):Prop :=
 ∀ (x y:V) (H:Hp) (Q:VK) (a b d:D),Rep K H x a->Rep K H y b->g a b=some d->(∀ w H',Same H H'->Rep K H' w d->Q w H')->r x y H Q
theorem Au {r:R2} {g:D->D->Option D} (hg:R2D X.K r g) {σ:L2.St} {H:Hp} {Q:VK} (h:up X.K (f2 g fa fb) σ H Q):tOp r (up X.K fa) (up X.K fb) σ H Q:=by
 obtain ⟨δ,d,R,e,k⟩:=h
 unfold f2 at e
 obtain ⟨x,ex,e⟩:=Za.mp e
 obtain ⟨y,ey,e⟩:=Za.mp e
 exact ⟨δ,x,R,ex,fun v H1 s1 r1=>⟨δ,y,R.mono s1,ey,fun w H2 s2 r2=>hg v w H2 Q x y d (r1.mono s2) r2 e fun z H' s3=>k z H' ((s1.trans s2).trans s3)⟩⟩
theorem oa {op:Operator} {r:R2} {g:D->D->Option D} (ho:OpR X (binaryOp op) r) (hg:R2D X.K r g) (ha:PD X a fa) (hb:PD X b fb):PD X (.BinOp a op b pos) (f2 g fa fb) :=
 imp (yq ho ha hb) fun _ _ _=>Au hg
theorem qR {op:CmpOp} {r:R2} {g:D->D->Option D} (ho:OpR X (compareOp op) r) (hg:R2D X.K r g) (ha:PD X a fa) (hb:PD X b fb) (hm:behindInMarks op b=false):PD X (.Compare a [op] [b] pos) (f2 g fa fb) :=
 imp (z7 ho ha hb hm) fun _ _ _=>Au hg
theorem BV {r:R2} {g:D->D->Option D} (hr:IxR X r) (hg:R2D X.K r g) (ha:PD X a fa) (hb:PD X b fb) (hs:nz b):PD X (.Subscript a b pos) (f2 g fa fb) :=
 imp (jX hr ha hb hs) fun _ _ _=>Au hg
theorem R2D.or {K:PySem.W.Frag} {r r':R2} {g g':D->D->Option D} (h:R2D K r g) (h':R2D K r' g'):R2D K (fun x y H Q=>r x y H Q \/ r' x y H Q) (fun a b=>(g a b).or (g' a b)):=by
 intro x y H Q a b d ra rb e k
 cases q:g a b with
 | some z =>
  have e':(g a b).or (g' a b)=some d:=e
  rw [q] at e'
  cases e'
  exact .inl (h x y H Q a b _ ra rb q k)
 | none =>
  have e':(g a b).or (g' a b)=some d:=e
  rw [q] at e'
  exact .inr (h' x y H Q a b d ra rb e' k)
end
def Bd (x:Int):Prop:=x.natAbs < 2 ^ 9000
instance (x:Int):Decidable (Bd x):=by unfold Bd;exact inferInstance
theorem Bd.bits {x:Int} (h:Bd x):Builtin.Int.intBits x<=2 ^ 20:=by
 have h':x.natAbs < 2 ^ (2 ^ 20):=Nat.lt_of_lt_of_le h (Nat.pow_le_pow_right (by decide) (by decide))
 exact PySem.intBits_le_iff.mpr h'
theorem Bd.log {x:Int} (h:Bd x) (h0:x ≠ 0):x.natAbs.log2 < 9000:=(Nat.log2_lt (by omega)).mpr h
section
variable {X:Cx} {K:PySem.W.Frag}
def aM (i j:Int):Prop:=Bd i/\Bd j
theorem Ac:OpR X (binaryOp .Mult) (rI aM fun i j=>.int (i*j)):=opI fun _ _ _ _ _ _ _ hc q=>mul_int q (.of_bits hc.1.bits hc.2.bits)
def ax (_ j:Int):Prop:=0 < j/\Bd j
theorem yz:OpR X (binaryOp .FloorDiv) (rI ax fun i j=>.int (i / j)):=opI fun i j _ _ _ _ _ hc q=>by
 have h1:(0:Int) < j:=hc.1
 exact floordiv_int (by omega) (by rw [Int.fdiv_eq_ediv_of_nonneg i (by omega)];exact q) (.inl (PyProof.noPylong_of_log2 (hc.2.log (by omega))))
def gI0 (g:Int->Int->D):D->D->Option D
 | .int i,.int j=>some (g i j)
 | _,_=>none
def gI (C:Int->Int->Prop) [∀ i j,Decidable (C i j)] (g:Int->Int->D):D->D->Option D
 | .int i,.int j=>if C i j then some (g i j) else none
 | _,_=>none
instance (i j:Int):Decidable (aM i j):=by unfold aM;exact inferInstance
instance (i j:Int):Decidable (ax i j):=by unfold ax;exact inferInstance
instance (i j:Int):Decidable (mI i j):=by unfold mI;exact inferInstance
theorem pU {g:Int->Int->V} {g':Int->Int->D} (h:∀ H i j,Rep K H (g i j) (g' i j)):R2D K (rI0 g) (gI0 g'):=by
 intro x y H Q a b d ra rb e k
 cases ra with
 | int i =>
  cases rb with
  | int j=>cases e;exact ⟨i,j,rfl,rfl,k _ H (Same.refl H) (h H i j)⟩
  | _=>cases e
 | _=>cases e
theorem x8 {C:Int->Int->Prop} [∀ i j,Decidable (C i j)] {g:Int->Int->V} {g':Int->Int->D} (h:∀ H i j,Rep K H (g i j) (g' i j)):R2D K (rI C g) (gI C g'):=by
 intro x y H Q a b d ra rb e k
 cases ra with
 | int i =>
  cases rb with
  | int j =>
   have e':(if C i j then some (g' i j) else none)=some d:=e
   by_cases hc:C i j
   . rw [if_pos hc] at e';cases e';exact ⟨i,j,rfl,rfl,hc,k _ H (Same.refl H) (h H i j)⟩
   . rw [if_neg hc] at e';cases e'
  | _=>cases e
 | _=>cases e
end
def Cj:D->D->Option D
 | .lst xs,.lst ys=>if xs.length+ys.length<=1000 then some (.lst (xs++ys)) else none
 | _,_=>none
theorem dL {n:Nat} (h:n<=1000):n<=sizeLine:=Nat.le_of_lt (jC h)
theorem BB {K:PySem.W.Frag}:R2D K C9 Cj:=by
 intro x y H Q a b d ra rb e k
 cases ra with
 | @lst p xs ds hp rp =>
  cases rb with
  | @lst q ys es hq rq =>
   have e':(if ds.length+es.length<=1000 then some (D.lst (ds++es)) else none)=some d:=e
   by_cases hc:ds.length+es.length<=1000
   . rw [if_pos hc] at e';cases e'
     refine ⟨p,q,xs,ys,rfl,rfl,hp,hq,dL (by rw [rp.length,rq.length];exact hc),fun l hl=>?_⟩
     have s:=df hl (.lst (xs++ys))
     exact k _ _ s (.lst aX ((rp.append rq).mono s))
   . rw [if_neg hc] at e';cases e'
  | _=>cases e
 | _=>cases e
def bi:D->D->Option D:=fun a b=>(gI0 (fun i j=>.int (i+j)) a b).or (Cj a b)
def gIx:D->D->Option D
 | .tup ds,.int i=>L2.atI ds i
 | .lst ds,.int i=>L2.atI ds i
 | .seq ds,.int i=>L2.atI ds i
 | _,_=>none
theorem Db {K:PySem.W.Frag}:R2D K (fun x y H Q=>wZ K x y H Q \/ C4 K x y H Q) gIx:=by
 intro x y H Q a b d ra rb e k
 cases rb with
 | int i =>
  cases ra with
  | @tup p vs ds hp rp =>
   have e':L2.atI ds i=some d:=e
   obtain ⟨v,h1,h2⟩:=rp.atI e'
   exact .inr ⟨p,vs,i,v,rfl,rfl,hp,h1,k v H (Same.refl H) h2⟩
  | @lst p vs ds hp rp =>
   have e':L2.atI ds i=some d:=e
   obtain ⟨v,h1,h2⟩:=rp.atI e'
   exact .inl ⟨p,vs,i,v,rfl,rfl,SqL.of hp,h1,k v H (Same.refl H) h2⟩
  | @seq p vs ds hp rp =>
   have e':L2.atI ds i=some d:=e
   obtain ⟨v,h1,h2⟩:=rp.atI e'
   exact .inl ⟨p,vs,i,v,rfl,rfl,hp,h1,k v H (Same.refl H) h2⟩
  | _=>cases e
 | _=>cases ra <;> cases e
section
variable {X:Cx} {a b e:Expr} {fa fb f:FD} {pos:Pos}
theorem bC (ha:PD X a fa) (hb:PD X b fb):PD X (.BinOp a .Add b pos) (f2 bi fa fb):=oa (op_add.or yC) ((pU fun _ _ _=>.int _).or BB) ha hb
theorem iO (ha:PD X a fa) (hb:PD X b fb):PD X (.BinOp a .Sub b pos) (f2 (gI0 fun i j=>.int (i - j)) fa fb):=oa BY (pU fun _ _ _=>.int _) ha hb
theorem cF (ha:PD X a fa) (hb:PD X b fb):PD X (.BinOp a .Mult b pos) (f2 (gI aM fun i j=>.int (i*j)) fa fb):=oa Ac (x8 fun _ _ _=>.int _) ha hb
theorem bf (ha:PD X a fa) (hb:PD X b fb):PD X (.BinOp a .FloorDiv b pos) (f2 (gI ax fun i j=>.int (i / j)) fa fb):=oa yz (x8 fun _ _ _=>.int _) ha hb
theorem bn (ha:PD X a fa) (hb:PD X b fb):PD X (.BinOp a .Mod b pos) (f2 (gI (fun _ j=>0 < j) fun i j=>.int (i % j)) fa fb):=oa B5 (x8 fun _ _ _=>.int _) ha hb
theorem ux (ha:PD X a fa) (hb:PD X b fb):PD X (.BinOp a .Pow b pos) (f2 (gI mI fun i j=>.int (i ^ j.toNat)) fa fb):=oa BZ (x8 fun _ _ _=>.int _) ha hb
theorem ay (ha:PD X a fa) (hb:PD X b fb) (hs:nz b:=by intro _ _;rfl):PD X (.Subscript a b pos) (f2 gIx fa fb):=BV (ix_list.or yV) Db ha hb hs
def gH:D->Option D
 | .int i=>some (.int (-i))
 | _=>none
theorem j9 (ha:PD X a fa):PD X (.UnaryOp .USub a pos) (f1 gH fa):=imp (Di Bm ha) fun σ H Q ⟨δ,d,R,e,k⟩=>by
 unfold f1 at e
 obtain ⟨x,ex,e⟩:=Za.mp e
 refine ⟨δ,x,R,ex,fun v H1 s1 r1=>?_⟩
 cases r1 with
 | int i=>cases e;exact ⟨i,rfl,k _ H1 s1 (.int _)⟩
 | _=>cases e
end
abbrev FT:=DS->Option Bool
def upT (K:PySem.W.Frag) (f:FT):TT:=fun σ H Q=>∃ δ b,RepS K H σ δ/\f δ=some b/\∀ H',Same H H'->Q b H'
def PTD (X:Cx) (e:Expr) (f:FT):Prop:=PT X e (upT X.K f)
def PWD (X:Cx) (e:Expr) (f:FT):Prop:=PW X e (upT X.K f)
theorem Ar {X:Cx} {e:Expr} {t t':TT} (h:PT X e t) (w:∀ σ H Q,t' σ H Q->t σ H Q):PT X e t':=fun pins s σ H Q I q=>h pins s σ H Q I (w σ H Q q)
theorem Dw {X:Cx} {e:Expr} {t t':TT} (h:PW X e t) (w:∀ σ H Q,t' σ H Q->t σ H Q):PW X e t':=fun wh pins s σ H Q I q=>h wh pins s σ H Q I (w σ H Q q)
def asB:D->Option Bool
 | .bl b=>some b
 | _=>none
def fT (f:FD):FT:=fun δ=>(f δ).bind asB
def fH (f:FT):FT:=fun δ=>(f δ).map not
def cu (f g:FT):FT:=fun δ=>(f δ).bind fun b=>match b with
 | true=>g δ
 | false=>some false
def eZ (f g:FT):FT:=fun δ=>(f δ).bind fun b=>match b with
 | true=>some true
 | false=>g δ
section
variable {X:Cx} {a b e:Expr} {fa fb f:FD} {ta tb:FT} {rest:List Expr} {pos:Pos}
theorem uY {K:PySem.W.Frag} {t:TE} (w:∀ σ H Q,up K f σ H Q->t σ H Q) {σ:L2.St} {H:Hp} {Q:Bool->Hp->Prop} (h:upT K (fT f) σ H Q):t σ H fun x H1=>∃ c,x=.bl c/\Q c H1:=by
 obtain ⟨δ,b,R,e,k⟩:=h
 unfold fT at e
 obtain ⟨d,ed,e⟩:=Za.mp e
 refine w σ H _ ⟨δ,d,R,ed,fun v H' s r=>?_⟩
 cases r with
 | bl c=>cases e;exact ⟨_,rfl,k H' s⟩
 | _=>cases e
theorem dw (h:PD X e f) (he:∀ whole,isTrue e X.env whole=(do let v <- whole;standAt e.pos;holding [v] (truthy v)):=by intro _;rfl):PTD X e (fT f) :=
 Ar (BI h he) fun _ _ _ q=>uY (fun _ _ _ z=>z) q
theorem gt {op:CmpOp} {r:R2} {g:D->D->Option D} (ho:OpR X (compareOp op) r) (hg:R2D X.K r g) (ha:PD X a fa) (hb:PD X b fb) (hm:behindInMarks op b=false):PTD X (.Compare a [op] [b] pos) (fT (f2 g fa fb)) :=
 Ar (zS ho ha hb hm) fun _ _ _ q=>uY (fun _ _ _ z=>Au hg z) q
theorem iM (ha:PTD X a ta):PTD X (.UnaryOp .Not a pos) (fH ta):=Ar (BJ ha) fun σ H Q ⟨δ,b,R,e,k⟩=>by
 unfold fH at e
 obtain ⟨c,ec,e⟩:=Zb.mp e
 exact ⟨δ,c,R,ec,fun H' s=>by have:=k H' s;rw [<- e] at this;exact this⟩
theorem PWD.pt (h:PWD X e ta):PTD X e ta:=h _
theorem kT (ha:PTD X a ta):PWD X (.BoolOp .And [a] pos) ta:=zR ha
theorem iL (ha:PTD X a ta):PWD X (.BoolOp .Or [a] pos) ta:=BE ha
theorem mV (ha:PTD X a ta) (hb:PWD X (.BoolOp .And (b :: rest) pos) tb):PWD X (.BoolOp .And (a :: b :: rest) pos) (cu ta tb):=Dw (BF ha hb) fun σ H Q ⟨δ,c,R,e,k⟩=>by
 unfold cu at e
 obtain ⟨d,ed,e⟩:=Za.mp e
 refine ⟨δ,d,R,ed,fun H' s=>?_⟩
 cases d with
 | true=>exact ⟨δ,c,R.mono s,e,fun H2 s2=>k H2 (s.trans s2)⟩
 | false=>cases e;exact k H' s
theorem j6 (ha:PTD X a ta) (hb:PWD X (.BoolOp .Or (b :: rest) pos) tb):PWD X (.BoolOp .Or (a :: b :: rest) pos) (eZ ta tb):=Dw (De ha hb) fun σ H Q ⟨δ,c,R,e,k⟩=>by
 unfold eZ at e
 obtain ⟨d,ed,e⟩:=Za.mp e
 refine ⟨δ,d,R,ed,fun H' s=>?_⟩
 cases d with
 | false=>exact ⟨δ,c,R.mono s,e,fun H2 s2=>k H2 (s.trans s2)⟩
 | true=>cases e;exact k H' s
def fV (f g:FD):FD:=fun δ=>(f δ).bind fun x=>match x with
 | .bl true=>g δ
 | .bl false=>some (.bl false)
 | _=>none
def zj (f g:FD):FD:=fun δ=>(f δ).bind fun x=>match x with
 | .bl true=>some (.bl true)
 | .bl false=>g δ
 | _=>none
def uL:D->Option D
 | .bl b=>some (.bl (!b))
 | _=>none
theorem ii {op} (h:PD X a f):PD X (.BoolOp op [a] pos) f:=BP h
theorem jm (ha:PD X a fa) (hb:PD X (.BoolOp .And (b :: rest) pos) fb):PD X (.BoolOp .And (a :: b :: rest) pos) (fV fa fb):=imp (BU ha hb) fun σ H Q ⟨δ,d,R,e,k⟩=>by
 unfold fV at e
 obtain ⟨x,ex,e⟩:=Za.mp e
 refine ⟨δ,x,R,ex,fun v H1 s1 r1=>?_⟩
 cases r1 with
 | bl c =>
  refine ⟨c,rfl,?_⟩
  cases c with
  | true=>rw [if_pos rfl];exact ⟨δ,d,R.mono s1,e,fun w H2 s2=>k w H2 (s1.trans s2)⟩
  | false=>rw [if_neg Bool.false_ne_true];cases e;exact k _ H1 s1 (.bl false)
 | _=>cases e
theorem AW (ha:PD X a fa) (hb:PD X (.BoolOp .Or (b :: rest) pos) fb):PD X (.BoolOp .Or (a :: b :: rest) pos) (zj fa fb):=imp (Dj ha hb) fun σ H Q ⟨δ,d,R,e,k⟩=>by
 unfold zj at e
 obtain ⟨x,ex,e⟩:=Za.mp e
 refine ⟨δ,x,R,ex,fun v H1 s1 r1=>?_⟩
 cases r1 with
 | bl c =>
  refine ⟨c,rfl,?_⟩
  cases c with
  | true=>rw [if_pos rfl];cases e;exact k _ H1 s1 (.bl true)
  | false=>rw [if_neg Bool.false_ne_true];exact ⟨δ,d,R.mono s1,e,fun w H2 s2=>k w H2 (s1.trans s2)⟩
 | _=>cases e
theorem og (ha:PD X a fa):PD X (.UnaryOp .Not a pos) (f1 uL fa):=imp (BQ ha) fun σ H Q ⟨δ,d,R,e,k⟩=>by
 unfold f1 at e
 obtain ⟨x,ex,e⟩:=Za.mp e
 refine ⟨δ,x,R,ex,fun v H1 s1 r1=>?_⟩
 cases r1 with
 | bl c=>cases e;exact ⟨c,rfl,k _ H1 s1 (.bl _)⟩
 | _=>cases e
end
abbrev FA:=DS->Option (List D)
def upA (K:PySem.W.Frag) (n:Nat) (f:FA):TA:=fun σ H Q=>∃ δ ds,RepS K H σ δ/\f δ=some ds/\∀ vs H',Same H H'->Reps K H' vs ds->vs.length=n->Q vs H'
def PAD (X:Cx) (es:List Expr) (f:FA):Prop:=PA X es (upA X.K es.length f)
theorem At {X:Cx} {es:List Expr} {t t':TA} (h:PA X es t) (w:∀ σ H Q,t' σ H Q->t σ H Q):PA X es t':=fun pos pins s σ H Q I q=>h pos pins s σ H Q I (w σ H Q q)
def af:FA:=fun _=>some []
def aa (f:FD) (g:FA):FA:=fun δ=>(f δ).bind fun x=>(g δ).bind fun xs=>some (x :: xs)
def bA (K:PySem.W.Frag) (n:Nat) (G:List D->Option D):Sp:=fun vs H Q _=>vs.length=n/\∃ ds d,Reps K H vs ds/\G ds=some d/\∀ v H',Same H H'->Rep K H' v d->Q v H'
def cJ (g:FA):FD:=fun δ=>(g δ).bind fun ds=>some (.tup ds)
def db (g:FA):FD:=fun δ=>(g δ).bind fun ds=>some (.lst ds)
def ak (G:List D->Option D) (g:FA):FD:=fun δ=>(g δ).bind G
section
variable {X:Cx} {e:Expr} {es:List Expr} {f:FD} {g:FA} {pos p:Pos}
theorem ag:PAD X [] af:=At ka fun σ H Q ⟨δ,ds,R,e,k⟩=>by cases e;exact k [] H (Same.refl H) .nil rfl
theorem ac (ha:PD X e f) (hr:PAD X es g) (hs:starEach (e :: es) X.env=(false,eval e X.env) :: starEach es X.env:=by rfl):PAD X (e :: es) (aa f g):=At (gv ha hr hs) fun σ H Q ⟨δ,ds,R,q,k⟩=>by
 unfold aa at q
 obtain ⟨x,ex,q⟩:=Za.mp q
 obtain ⟨xs,exs,q⟩:=Za.mp q
 cases q
 exact ⟨δ,x,R,ex,fun v H1 s1 r1=>⟨δ,xs,R.mono s1,exs,fun vs H2 s2 r2 l=>k (v :: vs) H2 (s1.trans s2) (.cons (r1.mono s2) r2) (congrArg (· + 1) l)⟩⟩
theorem d9 {x1} (h:PAD X es g) (hz:es.length<=1000:=by decide):PD X (.Tuple es x1 pos) (cJ g):=imp (yp h) fun σ H Q ⟨δ,d,R,q,k⟩=>by
 unfold cJ at q
 obtain ⟨ds,eds,q⟩:=Za.mp q
 cases q
 refine ⟨δ,ds,R,eds,fun vs H1 s1 r1 l=>⟨dL (by rw [l];exact hz),fun p hp=>?_⟩⟩
 have s:=df hp (.tup vs)
 exact k _ _ (s1.trans s) (.tup (SqT.of aX) (r1.mono s))
theorem gE (h:PAD X es g) (hz:es.length<=1000:=by decide):PD X (.List es pos) (db g):=imp (yr h) fun σ H Q ⟨δ,d,R,q,k⟩=>by
 unfold db at q
 obtain ⟨ds,eds,q⟩:=Za.mp q
 cases q
 refine ⟨δ,ds,R,eds,fun vs H1 s1 r1 l=>⟨dL (by rw [l];exact hz),fun p hp=>?_⟩⟩
 have s:=df hp (.lst vs)
 exact k _ _ (s1.trans s) (.lst aX (r1.mono s))
theorem z9 {k n:Nat} {x:Str} {f:Addr} {fd:FuncData} {ps:List Str} {G:List D->Option D} (F:FnOk X.prog X.w X.K X.mg X.base CX0 k f fd ps (bA X.K n G)) (hr:Room k X.A) (hg:Gl X x) (hm:X.mg x=some (.ref f)) (hk:PySem.W.keepIn X.K (.ref f)=true) (hb:Binds X.K fd ps [])
 (ha:PAD X (e :: es) g) (hn:(e :: es).length=n:=by rfl) (hdb:(x == ("__debug__":Str))=false:=by decide) (he:starEach (e :: es) X.env=(false,eval e X.env) :: starEach es X.env:=by rfl) (hpl:(backTo pos (starEach es X.env)).any (·.1)=false:=by rfl) :
 PD X (.Call (.Name x p) (e :: es) [] pos) (ak G g):=imp (mY F hr hg hm hk hb .nil (vG) ha hdb he hpl) fun σ H Q ⟨δ,d,R,q,k⟩=>by
 unfold ak at q
 obtain ⟨ds,eds,q⟩:=Za.mp q
 refine ⟨δ,ds,R,eds,fun vs H1 s1 r1 l=>?_⟩
 show bA X.K n G (vs++[]) H1 Q E0
 rw [List.append_nil]
 exact ⟨l.trans hn,ds,d,r1,q,fun v H' s=>k v H' (s1.trans s)⟩
def jy (K:PySem.W.Frag) (r:List V->Hp->VK->Prop) (G:List D->Option D):Prop :=
 ∀ (xs:List V) (H:Hp) (Q:VK) (ds:List D) (d:D),Reps K H xs ds->G ds=some d->(∀ w H',Same H H'->Rep K H' w d->Q w H')->r xs H Q
theorem yX {r:List V->Hp->VK->Prop} {G:List D->Option D} {n:Nat} (hG:jy X.K r G) {σ:L2.St} {H:Hp} {Q:VK} (h:up X.K (ak G g) σ H Q):tCB r (upA X.K n g) σ H Q:=by
 obtain ⟨δ,d,R,q,k⟩:=h
 unfold ak at q
 obtain ⟨ds,eds,q⟩:=Za.mp q
 exact ⟨δ,ds,R,eds,fun vs H1 s1 r1 _=>hG vs H1 Q ds d r1 q fun w H' s=>k w H' (s1.trans s)⟩
theorem aT {id:String} {x:Str} {r:List V->Hp->VK->Prop} {G:List D->Option D} (hc:ib X (.builtin id) r) (hG:jy X.K r G) (hg:Gl X x) (hm:X.mg x=none) (hv:bootBuiltins x=some (.builtin id)) (ha:PAD X (e :: es) g) (hn:x ≠ "__name__":=by decide) (hdb:(x == ("__debug__":Str))=false:=by decide)
 (he:starEach (e :: es) X.env=(false,eval e X.env) :: starEach es X.env:=by rfl) (hpl:(backTo pos (starEach es X.env)).any (·.1)=false:=by rfl):PD X (.Call (.Name x p) (e :: es) [] pos) (ak G g) :=
 imp (sI hc hg hm hv ha hn hdb he hpl) fun _ _ _ h=>yX hG h
theorem xa {T:String} {x:Str} {r:List V->Hp->VK->Prop} {G:List D->Option D} (hc:ib X (.type T) r) (hG:jy X.K r G) (hg:Gl X x) (hm:X.mg x=none) (hv:bootBuiltins x=some (.type T)) (ha:PAD X (e :: es) g) (hn:x ≠ "__name__":=by decide) (hdb:(x == ("__debug__":Str))=false:=by decide)
 (he:starEach (e :: es) X.env=(false,eval e X.env) :: starEach es X.env:=by rfl) (hpl:(backTo pos (starEach es X.env)).any (·.1)=false:=by rfl):PD X (.Call (.Name x p) (e :: es) [] pos) (ak G g) :=
 imp (lD hc hg hm hv ha hn hdb he hpl) fun _ _ _ h=>yX hG h
end
theorem gC {K:PySem.W.Frag} {H:Hp} {xs:List V} {d:D} (r:Reps K H xs [d]):∃ x,xs=[x]/\Rep K H x d:=by
 cases r with
 | cons a t=>cases t;exact ⟨_,rfl,a⟩
theorem xZ {K:PySem.W.Frag} {H:Hp} {xs:List V} {d e:D} (r:Reps K H xs [d,e]):∃ x y,xs=[x,y]/\Rep K H x d/\Rep K H y e:=by
 cases r with
 | cons a t =>
  obtain ⟨y,h1,h2⟩:=gC t
  subst h1
  exact ⟨_,y,rfl,a,h2⟩
def zb:List D->Option D
 | [.int i]=>some (.int (i.natAbs:Int))
 | _=>none
theorem zt {K:PySem.W.Frag}:jy K (fun xs H Q=>∃ i,xs=[.int i]/\Q (.int (if i < 0 then -i else i)) H) zb:=by
 intro xs H Q ds d r e k
 unfold zb at e
 split at e
 . rename_i i
   cases e
   obtain ⟨x,rfl,rx⟩:=gC r
   cases rx
   refine ⟨i,rfl,?_⟩
   have e:(if i < 0 then -i else i)=(i.natAbs:Int):=by split <;> omega
   rw [e]
   exact k _ H (Same.refl H) (.int _)
 . cases e
def uM:List D->Option D
 | [.int i]=>some (.int i)
 | [.bl b]=>some (.int (if b then 1 else 0))
 | _=>none
theorem Cv {K:PySem.W.Frag}:jy K (fun xs H Q=>(∃ i,xs=[.int i]/\Q (.int i) H) \/ ∃ k,xs=[.bl k]/\Q (.int (if k then 1 else 0)) H) uM:=by
 intro xs H Q ds d r e k
 unfold uM at e
 split at e
 . rename_i i
   cases e
   obtain ⟨x,rfl,rx⟩:=gC r
   cases rx
   exact .inl ⟨i,rfl,k _ H (Same.refl H) (.int _)⟩
 . rename_i b
   cases e
   obtain ⟨x,rfl,rx⟩:=gC r
   cases rx
   exact .inr ⟨b,rfl,k _ H (Same.refl H) (.int _)⟩
 . cases e
def c8:List D->Option D
 | [.tup ds]=>some (.int ds.length)
 | [.lst ds]=>some (.int ds.length)
 | [.seq ds]=>some (.int ds.length)
 | _=>none
theorem cH {K:PySem.W.Frag}:jy K (fun xs H Q=>∃ p ys,xs=[.ref p]/\(SqL K H p ys \/ SqT K H p ys)/\Q (.int ys.length) H) c8:=by
 intro xs H Q ds d r e k
 unfold c8 at e
 split at e
 . cases e
   obtain ⟨x,rfl,rx⟩:=gC r
   cases rx with
   | @tup p vs _ hp rp=>exact ⟨p,vs,rfl,.inr hp,by rw [rp.length];exact k _ H (Same.refl H) (.int _)⟩
 . cases e
   obtain ⟨x,rfl,rx⟩:=gC r
   cases rx with
   | @lst p vs _ hp rp=>exact ⟨p,vs,rfl,.inl (SqL.of hp),by rw [rp.length];exact k _ H (Same.refl H) (.int _)⟩
 . cases e
   obtain ⟨x,rfl,rx⟩:=gC r
   cases rx with
   | @seq p vs _ hp rp=>exact ⟨p,vs,rfl,.inl hp,by rw [rp.length];exact k _ H (Same.refl H) (.int _)⟩
 . cases e
def DO:D->Option String
 | .non=>some "NoneType"
 | .bl _=>some "bool"
 | .int _=>some "int"
 | .str _=>some "str"
 | .tup _=>some "tuple"
 | .lst _=>some "list"
 | .seq _=>some "list"
 | .dct=>some "dict"
 | .ty _=>none
 | .exc _=>none
 | .cls _=>none
 | .ms _ _=>none
 | .mf _ _=>none
 | .md _ _=>none
def wL (n:String) (d:D) (b:Bool):Prop:=∃ t,DO d=some t/\∀ K:PySem.W.Frag,PySem.W.kitOne K (.type t) (.type n)=some b
def C5 (K:PySem.W.Frag):List V->Hp->VK->Prop:=fun xs H Q=>∃ x n d b,xs=[x,.ty n]/\Rep K H x d/\wL n d b/\Q (.bl b) H
theorem oX {X:Cx}:ib X (.builtin "isinstance") (C5 X.K):=by
 intro pins s σ H xs us Q I r h
 obtain ⟨x,n,d,b,rfl,rx,⟨t,ht,hk⟩,q⟩:=h
 obtain ⟨u,w',rfl,ru,rw'⟩:=CJ r
 cases (show w'=Value.type n from rw')
 have e:=hk X.K
 have fin:∀ tk,EP X pins σ Q (.bool b) { s with toks:=tk }:=fun tk=>⟨.bl b,H,I.tok _,rfl,q⟩
 cases rx with
 | non=>cases ht;cases (show u=Value.none from ru);exact PySem.W.kia_one PySem.W.kitx_none I.kIn True.intro e (fun z=>nomatch z) fin
 | bl y=>cases ht;cases (show u=Value.bool y from ru);exact PySem.W.kia_one PySem.W.kitx_bool I.kIn True.intro e (fun z=>nomatch z) fin
 | int i=>cases ht;obtain ⟨t,z⟩:=(show ∃ t,u=Value.int i t from ru);cases z;exact PySem.W.kia_one PySem.W.kitx_int I.kIn True.intro e (fun z=>nomatch z) fin
 | str y=>cases ht;obtain ⟨t,z⟩:=(show ∃ t,u=Value.str y t from ru);cases z;exact PySem.W.kia_one PySem.W.kitx_str I.kIn True.intro e (fun z=>nomatch z) fin
 | ty n=>cases ht
 | exc h=>cases ht
 | cls C=>cases ht
 | ms h l r=>cases ht
 | mf h l r=>cases ht
 | md h l r=>cases ht
 | @dct a h =>
  cases ht
  cases (show u=Value.ref a from ru)
  exact PySem.W.kia_one PySem.W.kitx_dict I.kIn (I.hok a _ h).1 e (fun z=>nomatch z) fin
 | @tup a vs ds hp rp =>
  cases ht
  cases (show u=Value.ref a from ru)
  obtain ⟨its,_,⟨o,h1,h2,_⟩,_⟩:=I.tuple hp
  exact PySem.W.kia_one PySem.W.kitx_tuple I.kIn ⟨o,h1,h2⟩ e (fun z=>nomatch z) fin
 | @lst a vs ds hp rp =>
  cases ht
  cases (show u=Value.ref a from ru)
  obtain ⟨its,_,⟨o,n',h1,h2,_⟩,_⟩:=I.list (SqL.of (K:=X.K) hp)
  exact PySem.W.kia_one PySem.W.kitx_list I.kIn ⟨o,h1,h2⟩ e (fun z=>nomatch z) fin
 | @seq a vs ds hp rp =>
  cases ht
  cases (show u=Value.ref a from ru)
  obtain ⟨its,_,⟨o,n',h1,h2,_⟩,_⟩:=I.list hp
  exact PySem.W.kia_one PySem.W.kitx_list I.kIn ⟨o,h1,h2⟩ e (fun z=>nomatch z) fin
def isInt:D->Option Bool
 | .int _=>some true
 | .bl _=>some true
 | .ty _=>none
 | .exc _=>none
 | .cls _=>none
 | .ms _ _=>none
 | .mf _ _=>none
 | .md _ _=>none
 | _=>some false
def uI:D->Option Bool
 | .bl _=>some true
 | .ty _=>none
 | .exc _=>none
 | .cls _=>none
 | .ms _ _=>none
 | .mf _ _=>none
 | .md _ _=>none
 | _=>some false
def Ax (n:String) (p:D->Option Bool):List D->Option D
 | [d,.ty m]=>if m=n then (p d).map D.bl else none
 | _=>none
theorem uV {K:PySem.W.Frag} {n:String} {p:D->Option Bool} (hp:∀ d b,p d=some b->wL n d b):jy K (C5 K) (Ax n p):=by
 intro xs H Q ds d r e k
 unfold Ax at e
 split at e
 . rename_i x m
   by_cases hm:m=n
   . subst hm
     rw [if_pos rfl] at e
     obtain ⟨b,hb,e⟩:=Zb.mp e
     cases e
     obtain ⟨v,w,rfl,rv,rw'⟩:=xZ r
     cases rw'
     exact ⟨v,m,x,b,rfl,rv,hp x b hb,k _ H (Same.refl H) (.bl b)⟩
   . rw [if_neg hm] at e;cases e
 . cases e
theorem yU (n:String) (K:PySem.W.Frag):PySem.W.kitOne K (.type n) (.type n)=some true:=by
 unfold PySem.W.kitOne
 rw [if_pos (beq_self_eq_true _)]
theorem yH (d:D) (b:Bool) (h:isInt d=some b):wL "int" d b:=by
 cases d <;> (first | cases h) <;> first
  | exact ⟨_,rfl,fun K=>yU _ K⟩
  | exact ⟨_,rfl,fun K=>by kernel_rfl⟩
theorem pY (d:D) (b:Bool) (h:uI d=some b):wL "bool" d b:=by
 cases d <;> (first | cases h) <;> first
  | exact ⟨_,rfl,fun K=>yU _ K⟩
  | exact ⟨_,rfl,fun K=>by kernel_rfl⟩
def toV:D->Option V
 | .non=>some .non
 | .bl b=>some (.bl b)
 | .int i=>some (.int i)
 | .str x=>some (.str x)
 | _=>none
def dD (d:D):Bool:=(toV d).isSome
def eqF:D->D->Bool
 | .non,.non=>true
 | .bl a,.bl b=>a == b
 | .bl a,.int b=>(if a then 1 else 0) == b
 | .int a,.bl b=>a == (if b then 1 else 0)
 | .int a,.int b=>a == b
 | .str a,.str b=>a == b
 | _,_=>false
def pB:List D->List D->Bool
 | [],[]=>true
 | a :: as,b :: bs=>eqF a b && pB as bs
 | _,_=>false
theorem Rep.flat {K:PySem.W.Frag} {H:Hp} {v:V} {d:D} (r:Rep K H v d) (f:dD d=true):j0 v=true/\toV d=some v:=by
 cases r <;> first | exact ⟨rfl,rfl⟩ | (exact absurd f (by decide)) | (exact absurd f Bool.false_ne_true)
theorem nw {a b:D} {x y:V} (ha:toV a=some x) (hb:toV b=some y):eqV x y=eqF a b:=by
 cases a <;> (first | cases ha) <;> cases b <;> (first | cases hb) <;> rfl
theorem oJ:∀ (as bs:List D) (e:Nat->Bool),(∀ j a b,as[j]? = some a->bs[j]? = some b->e j=eqF a b)->((List.range (min as.length bs.length)).all e && as.length == bs.length)=pB as bs
 | [],[],e,_=>rfl
 | [],b :: bs,e,_=>by simp [pB]
 | a :: as,[],e,_=>by simp [pB]
 | a :: as,b :: bs,e,h=>by
  have ih:=oJ as bs (fun j=>e (j+1)) (fun j x y h1 h2=>h (j+1) x y (by simpa using h1) (by simpa using h2))
  have h0:e 0=eqF a b:=h 0 a b rfl rfl
  show ((List.range (min (as.length+1) (bs.length+1))).all e && (as.length+1) == (bs.length+1))=(eqF a b && pB as bs)
  rw [<- ih,<- h0,show min (as.length+1) (bs.length+1)=min as.length bs.length+1 by omega,List.range_succ_eq_map,List.all_cons,List.all_map,Bool.and_assoc]
  have:((as.length+1) == (bs.length+1))=(as.length == bs.length):=by rw [Bool.eq_iff_iff];simp
  rw [this]
  rfl
def xx:D->D->Option Bool
 | .tup as,.tup bs=>if as.all dD && bs.all dD then some (pB as bs) else none
 | .lst as,.lst bs=>if as.all dD && bs.all dD then some (pB as bs) else none
 | .non,.tup _=>some false
 | .tup _,.non=>some false
 | .non,.lst _=>some false
 | .lst _,.non=>some false
 | a,b=>if dD a && dD b then some (eqF a b) else none
def gEq (a b:D):Option D:=(xx a b).map D.bl
def gNe (a b:D):Option D:=(xx a b).map fun c=>D.bl (!c)
section
variable {K:PySem.W.Frag} {H:Hp}
theorem k6 {A:Around} {s:Shared} {vs ws:List V} {us zs:List Value} {as bs:List D} (r1:Vals vs us) (r2:Vals ws zs) (q1:Reps K H vs as) (q2:Reps K H ws bs) (g1:as.all dD=true) (g2:bs.all dD=true) :
 ∀ j (h1:j < us.toArray.size) (h2:j < zs.toArray.size),SeqAt.EqAt A s us.toArray[j] zs.toArray[j] (eqF (as.getD j .non) (bs.getD j .non)):=by
 intro j h1 h2
 have l1:=r1.length
 have l2:=r2.length
 rw [List.size_toArray] at h1 h2
 have k1:j < vs.length:=by omega
 have k2:j < ws.length:=by omega
 obtain ⟨u,e1,p1⟩:=r1.get (i:=j) (x:=vs[j]) (by simp [k1])
 obtain ⟨z,e2,p2⟩:=r2.get (i:=j) (x:=ws[j]) (by simp [k2])
 obtain ⟨a,e3,p3⟩:=q1.getV (i:=j) (v:=vs[j]) (by simp [k1])
 obtain ⟨b,e4,p4⟩:=q2.getV (i:=j) (v:=ws[j]) (by simp [k2])
 have f1:dD a=true:=List.all_eq_true.mp g1 a (List.mem_of_getElem? e3)
 have f2:dD b=true:=List.all_eq_true.mp g2 b (List.mem_of_getElem? e4)
 have w1:us.toArray[j]=u:=by
  have:us[j]? = some us[j]:=by simp [h1]
  rw [this] at e1
  simpa using e1
 have w2:zs.toArray[j]=z:=by
  have:zs[j]? = some zs[j]:=by simp [h2]
  rw [this] at e2
  simpa using e2
 rw [w1,w2,Zr,Zr,e3,e4]
 show SeqAt.EqAt A s u z (eqF a b)
 rw [<- nw (p3.flat f1).2 (p4.flat f2).2]
 exact uQ p1 p2 (p3.flat f1).1 (p4.flat f2).1
theorem pg {as bs:List D}:((List.range (min as.length bs.length)).all (fun j=>eqF (as.getD j .non) (bs.getD j .non)) && as.length == bs.length)=pB as bs :=
 oJ as bs _ fun j a b h1 h2=>by
  show eqF (as.getD j .non) (bs.getD j .non)=eqF a b
  rw [Zr,Zr,h1,h2] <;> rfl
theorem vt {A:Around} {s:Shared} {x y:V} {u v:Value} {a b:D} (rx:RelV x u) (ry:RelV y v) (ra:Rep K H x a) (rb:Rep K H y b) (g1:dD a=true) (g2:dD b=true):SeqAt.RcAt A s u v (eqF a b)/\SeqAt.RcNeAt A s u v (!eqF a b):=by
 cases ra with
 | non =>
  cases (show u=Value.none from rx)
  cases rb with
  | non=>cases (show v=Value.none from ry);exact ⟨SeqAt.RcAt.none_none,SeqAt.RcNeAt.none_none⟩
  | bl c=>cases (show v=Value.bool c from ry);exact ⟨SeqAt.RcAt.none_bool c,SeqAt.RcNeAt.none_bool c⟩
  | int j=>obtain ⟨t,rfl⟩:=(show ∃ t,v=Value.int j t from ry);exact ⟨SeqAt.RcAt.none_int j t,SeqAt.RcNeAt.none_int j t⟩
  | str j=>obtain ⟨t,rfl⟩:=(show ∃ t,v=Value.str j t from ry);exact ⟨SeqAt.RcAt.none_str j t,SeqAt.RcNeAt.none_str j t⟩
  | _=>exact absurd g2 Bool.false_ne_true
 | bl i =>
  cases (show u=Value.bool i from rx)
  cases rb with
  | non=>cases (show v=Value.none from ry);exact ⟨SeqAt.RcAt.bool_none i,SeqAt.RcNeAt.bool_none i⟩
  | bl c=>cases (show v=Value.bool c from ry);exact ⟨SeqAt.RcAt.bool_bool i c,SeqAt.RcNeAt.bool_bool i c⟩
  | int j=>obtain ⟨t,rfl⟩:=(show ∃ t,v=Value.int j t from ry);exact ⟨SeqAt.RcAt.bool_int i j t,SeqAt.RcNeAt.bool_int i j t⟩
  | str j=>obtain ⟨t,rfl⟩:=(show ∃ t,v=Value.str j t from ry);exact ⟨SeqAt.RcAt.bool_str i j t,SeqAt.RcNeAt.bool_str i j t⟩
  | _=>exact absurd g2 Bool.false_ne_true
 | int i =>
  obtain ⟨t',rfl⟩:=(show ∃ t,u=Value.int i t from rx)
  cases rb with
  | non=>cases (show v=Value.none from ry);exact ⟨SeqAt.RcAt.int_none i t',SeqAt.RcNeAt.int_none i t'⟩
  | bl c=>cases (show v=Value.bool c from ry);exact ⟨SeqAt.RcAt.int_bool i t' c,SeqAt.RcNeAt.int_bool i t' c⟩
  | int j=>obtain ⟨t,rfl⟩:=(show ∃ t,v=Value.int j t from ry);exact ⟨SeqAt.RcAt.int_int i t' j t,SeqAt.RcNeAt.int_int i t' j t⟩
  | str j=>obtain ⟨t,rfl⟩:=(show ∃ t,v=Value.str j t from ry);exact ⟨SeqAt.RcAt.int_str i t' j t,SeqAt.RcNeAt.int_str i t' j t⟩
  | _=>exact absurd g2 Bool.false_ne_true
 | str i =>
  obtain ⟨t',rfl⟩:=(show ∃ t,u=Value.str i t from rx)
  cases rb with
  | non=>cases (show v=Value.none from ry);exact ⟨SeqAt.RcAt.str_none i t',SeqAt.RcNeAt.str_none i t'⟩
  | bl c=>cases (show v=Value.bool c from ry);exact ⟨SeqAt.RcAt.str_bool i t' c,SeqAt.RcNeAt.str_bool i t' c⟩
  | int j=>obtain ⟨t,rfl⟩:=(show ∃ t,v=Value.int j t from ry);exact ⟨SeqAt.RcAt.str_int i t' j t,SeqAt.RcNeAt.str_int i t' j t⟩
  | str j=>obtain ⟨t,rfl⟩:=(show ∃ t,v=Value.str j t from ry);exact ⟨SeqAt.RcAt.str_str i t' j t,SeqAt.RcNeAt.str_str i t' j t⟩
  | _=>exact absurd g2 Bool.false_ne_true
 | _=>exact absurd g1 Bool.false_ne_true
end
theorem CZ {X:Cx} {pins:List (Addr×Obj)} {σ:L2.St} {H:Hp} {s:Shared} (I:Inv X pins σ H s) (hu:X.A.units < cLine) {x y:V} {u v:Value} {a b:D} {c:Bool} (rx:RelV x u) (ry:RelV y v) (ra:Rep X.K H x a) (rb:Rep X.K H y b) (e:xx a b=some c) :
 SeqAt.RcAt X.A s u v c/\SeqAt.RcNeAt X.A s u v (!c):=by
 unfold xx at e
 split at e
 . -- two tuples
   rename_i as bs
   cases ra with
   | @tup p vs _ hp rp =>
    cases rb with
    | @tup q ws _ hq rq =>
     split at e
     . rename_i hf
       cases e
       rw [Bool.and_eq_true] at hf
       cases (show u=Value.ref p from rx)
       cases (show v=Value.ref q from ry)
       obtain ⟨its,r1,t1,_⟩:=I.tuple hp
       obtain ⟨jts,r2,t2,_⟩:=I.tuple hq
       have l1:its.toArray.size=as.length:=by rw [List.size_toArray,<- r1.length,rp.length]
       have l2:jts.toArray.size=bs.length:=by rw [List.size_toArray,<- r2.length,rq.length]
       have h1:=SeqAt.RcAt.tuples (A:=X.A) (s:=s) t1 t2 hu (k6 r1 r2 rp rq hf.1 hf.2)
       have h2:=SeqAt.RcNeAt.tuples (A:=X.A) (s:=s) t1 t2 hu (k6 r1 r2 rp rq hf.1 hf.2)
       rw [l1,l2,pg] at h1 h2
       exact ⟨h1,h2⟩
     . cases e
 . -- two lists
   rename_i as bs
   cases ra with
   | @lst p vs _ hp rp =>
    cases rb with
    | @lst q ws _ hq rq =>
     split at e
     . rename_i hf
       cases e
       rw [Bool.and_eq_true] at hf
       cases (show u=Value.ref p from rx)
       cases (show v=Value.ref q from ry)
       obtain ⟨its,r1,t1,_⟩:=I.list (SqL.of (K:=X.K) hp)
       obtain ⟨jts,r2,t2,_⟩:=I.list (SqL.of (K:=X.K) hq)
       have l1:its.toArray.size=as.length:=by rw [List.size_toArray,<- r1.length,rp.length]
       have l2:jts.toArray.size=bs.length:=by rw [List.size_toArray,<- r2.length,rq.length]
       by_cases hl:its.toArray.size=jts.toArray.size
       . have h1:=SeqAt.RcAt.lists (A:=X.A) (s:=s) t1.isList t2.isList hl hu (k6 r1 r2 rp rq hf.1 hf.2)
         have h2:=SeqAt.RcNeAt.lists (A:=X.A) (s:=s) t1.isList t2.isList hl hu (k6 r1 r2 rp rq hf.1 hf.2)
         have h3:(List.range its.toArray.size).all (fun j=>eqF (as.getD j .non) (bs.getD j .non))=pB as bs:=by
          rw [<- pg,l1,show min as.length bs.length=as.length by omega,show (as.length == bs.length)=true by rw [beq_iff_eq];omega,Bool.and_true]
         rw [h3] at h1 h2
         exact ⟨h1,h2⟩
       . have h1:=SeqAt.RcAt.lists_lengths (A:=X.A) (s:=s) t1.isList t2.isList (by simpa [bne_iff_ne] using hl) hu
         have h2:=SeqAt.RcNeAt.lists_lengths (A:=X.A) (s:=s) t1.isList t2.isList (by simpa [bne_iff_ne] using hl) hu
         have h3:pB as bs=false:=by
          rw [<- pg,show (as.length == bs.length)=false by rw [beq_eq_false_iff_ne];omega,Bool.and_false]
         rw [h3]
         exact ⟨h1,h2⟩
     . cases e
 . cases e
   cases ra
   cases rb with
   | @tup q ws bs hq rq =>
    cases (show u=Value.none from rx)
    cases (show v=Value.ref q from ry)
    obtain ⟨its,r1,t1,_⟩:=I.tuple hq
    exact ⟨SeqAt.RcAt.none_tuple t1 hu,SeqAt.RcNeAt.none_tuple t1 hu⟩
 . cases e
   cases rb
   cases ra with
   | @tup q ws bs hq rq =>
    cases (show v=Value.none from ry)
    cases (show u=Value.ref q from rx)
    obtain ⟨its,r1,t1,_⟩:=I.tuple hq
    exact ⟨SeqAt.RcAt.tuple_none t1 hu,SeqAt.RcNeAt.tuple_none t1 hu⟩
 . cases e
   cases ra
   cases rb with
   | @lst q ws bs hq rq =>
    cases (show u=Value.none from rx)
    cases (show v=Value.ref q from ry)
    obtain ⟨its,r1,t1,_⟩:=I.list (SqL.of (K:=X.K) hq)
    exact ⟨SeqAt.RcAt.none_list t1.isList hu,SeqAt.RcNeAt.none_list t1.isList hu⟩
 . cases e
   cases rb
   cases ra with
   | @lst q ws bs hq rq =>
    cases (show v=Value.none from ry)
    cases (show u=Value.ref q from rx)
    obtain ⟨its,r1,t1,_⟩:=I.list (SqL.of (K:=X.K) hq)
    exact ⟨SeqAt.RcAt.list_none t1.isList hu,SeqAt.RcNeAt.list_none t1.isList hu⟩
 . split at e
   . rename_i hf
     cases e
     rw [Bool.and_eq_true] at hf
     exact vt rx ry ra rb hf.1 hf.2
   . cases e
def C7 (K:PySem.W.Frag):R2:=fun x y H Q=>∃ a b c,Rep K H x a/\Rep K H y b/\xx a b=some c/\Q (.bl c) H
def C2 (K:PySem.W.Frag):R2:=fun x y H Q=>∃ a b c,Rep K H x a/\Rep K H y b/\xx a b=some c/\Q (.bl (!c)) H
theorem yB {X:Cx} (hu:X.A.units < cLine):OpR X (compareOp .Eq) (C7 X.K):=by
 intro pins s σ H x y v u Q I rx ry h
 obtain ⟨a,b,c,ra,rb,e,q⟩:=h
 exact (CZ I hu rx ry ra rb e).1 X.prog X.w _ _ ⟨.bl c,H,I,rfl,q⟩
theorem B4 {X:Cx} (hu:X.A.units < cLine):OpR X (compareOp .NotEq) (C2 X.K):=by
 intro pins s σ H x y v u Q I rx ry h
 obtain ⟨a,b,c,ra,rb,e,q⟩:=h
 exact (CZ I hu rx ry ra rb e).2 X.prog X.w _ _ ⟨.bl (!c),H,I,rfl,q⟩
theorem AV {K:PySem.W.Frag}:R2D K (C7 K) gEq:=by
 intro x y H Q a b d ra rb e k
 unfold gEq at e
 obtain ⟨c,hc,e⟩:=Zb.mp e
 cases e
 exact ⟨a,b,c,ra,rb,hc,k _ H (Same.refl H) (.bl _)⟩
theorem Da {K:PySem.W.Frag}:R2D K (C2 K) gNe:=by
 intro x y H Q a b d ra rb e k
 unfold gNe at e
 obtain ⟨c,hc,e⟩:=Zb.mp e
 cases e
 exact ⟨a,b,c,ra,rb,hc,k _ H (Same.refl H) (.bl _)⟩
section
variable {X:Cx} {a b e:Expr} {fa fb f:FD} {pos:Pos}
theorem Dm (hu:X.A.units < cLine) (ha:PD X a fa) (hb:PD X b fb):PD X (.Compare a [.Eq] [b] pos) (f2 gEq fa fb):=qR (yB hu) AV ha hb (gd _)
theorem yg (hu:X.A.units < cLine) (ha:PD X a fa) (hb:PD X b fb):PTD X (.Compare a [.Eq] [b] pos) (fT (f2 gEq fa fb)):=gt (yB hu) AV ha hb (gd _)
theorem ye (hu:X.A.units < cLine) (ha:PD X a fa) (hb:PD X b fb):PTD X (.Compare a [.NotEq] [b] pos) (fT (f2 gNe fa fb)):=gt (B4 hu) Da ha hb (gd _)
abbrev gLt:D->D->Option D:=gI0 fun i j=>.bl (decide (i < j))
abbrev gGt:D->D->Option D:=gI0 fun i j=>.bl (decide (j < i))
theorem yv (ha:PD X a fa) (hb:PD X b fb):PD X (.Compare a [.Lt] [b] pos) (f2 gLt fa fb):=qR AZ (pU fun _ _ _=>.bl _) ha hb (gd _)
theorem AX (ha:PD X a fa) (hb:PD X b fb):PD X (.Compare a [.Gt] [b] pos) (f2 gGt fa fb):=qR A4 (pU fun _ _ _=>.bl _) ha hb (gd _)
theorem n5 (ha:PD X a fa) (hb:PD X b fb):PTD X (.Compare a [.Lt] [b] pos) (fT (f2 gLt fa fb)):=gt AZ (pU fun _ _ _=>.bl _) ha hb (gd _)
theorem yf (ha:PD X a fa) (hb:PD X b fb):PTD X (.Compare a [.Gt] [b] pos) (fT (f2 gGt fa fb)):=gt A4 (pU fun _ _ _=>.bl _) ha hb (gd _)
def bo:D->Bool
 | .non=>true
 | _=>false
def cO (a b:D):Option D:=match b with
 | .non=>some (.bl (bo a))
 | _=>none
def dP (a b:D):Option D:=match b with
 | .non=>some (.bl (!bo a))
 | _=>none
theorem tq {K:PySem.W.Frag} {H:Hp} {x:V} {a:D} (r:Rep K H x a):decide (x=.non)=bo a:=by
 cases r <;> rfl
theorem BA {K:PySem.W.Frag}:R2D K (fun x y H Q=>y=.non/\Q (.bl (decide (x=.non))) H) cO:=by
 intro x y H Q a b d ra rb e k
 cases rb with
 | non=>cases e;exact ⟨rfl,by rw [tq ra];exact k _ H (Same.refl H) (.bl _)⟩
 | _=>cases e
theorem zQ {K:PySem.W.Frag}:R2D K (fun x y H Q=>y=.non/\Q (.bl (!decide (x=.non))) H) dP:=by
 intro x y H Q a b d ra rb e k
 cases rb with
 | non=>cases e;exact ⟨rfl,by rw [tq ra];exact k _ H (Same.refl H) (.bl _)⟩
 | _=>cases e
theorem dB (ha:PD X a fa) (hb:PD X b fb):PTD X (.Compare a [.Is] [b] pos) (fT (f2 cO fa fb)):=gt B6 BA ha hb (gd _)
theorem iA (ha:PD X a fa) (hb:PD X b fb):PTD X (.Compare a [.IsNot] [b] pos) (fT (f2 dP fa fb)):=gt Aa zQ ha hb (gd _)
end
inductive Res where
 | nx (δ:DS)
 | rt (d:D)
 | bk (δ:DS)
 | ct (δ:DS)
 | ex (C:Addr) (δ:DS)
 | mk (C:Addr) (δ:DS)
abbrev SD:=DS->Option Res
def RP (X:Cx) (E:pp) (H:Hp):Res->Prop
 | .nx δ=>∀ σ' H',Same H H'->RepS X.K H' σ' δ->E.nx σ' H'
 | .rt d=>∀ v H',Same H H'->Rep X.K H' v d->E.rt v H'
 | .bk δ=>∀ σ' H',Same H H'->RepS X.K H' σ' δ->E.bk σ' H'
 | .ct δ=>∀ σ' H',Same H H'->RepS X.K H' σ' δ->E.ct σ' H'
 | .ex C δ=>∀ σ' H',Same H H'->RepS X.K H' σ' δ->DJ X C σ' H'
 | .mk C δ=>∀ σ' H',Same H H'->RepS X.K H' σ' δ->Bh X C σ' H'
theorem RP.mono {X:Cx} {E:pp} {H H1:Hp} {r:Res} (s:Same H H1) (h:RP X E H r):RP X E H1 r:=by
 cases r with
 | nx δ=>exact fun σ' H' s2 R=>h σ' H' (s.trans s2) R
 | rt d=>exact fun v H' s2 R=>h v H' (s.trans s2) R
 | bk δ=>exact fun σ' H' s2 R=>h σ' H' (s.trans s2) R
 | ct δ=>exact fun σ' H' s2 R=>h σ' H' (s.trans s2) R
 | ex C δ=>exact fun σ' H' s2 R=>h σ' H' (s.trans s2) R
 | mk C δ=>exact fun σ' H' s2 R=>h σ' H' (s.trans s2) R
def upS (X:Cx) (s:SD):TS:=fun E σ H=>∃ δ r,RepS X.K H σ δ/\s δ=some r/\RP X E H r
def PSD (X:Cx) (st:Stmt) (s:SD):Prop:=PS X st (upS X s)
def pC (X:Cx) (sts:List Stmt) (s:SD):Prop:=PSs X sts (upS X s)
theorem gS {X:Cx} {st:Stmt} {t t':TS} (h:PS X st t) (w:∀ E σ H,t' E σ H->t E σ H):PS X st t':=fun pins s σ H E I q=>h pins s σ H E I (w E σ H q)
theorem qb {X:Cx} {st:List Stmt} {t t':TS} (h:PSs X st t) (w:∀ E σ H,t' E σ H->t E σ H):PSs X st t':=fun pins s σ H E I q=>h pins s σ H E I (w E σ H q)
def bc:SD:=fun δ=>some (.nx δ)
def dh (u:SD):Res->Option Res
 | .nx δ=>u δ
 | r=>some r
def aA (s u:SD):SD:=fun δ=>(s δ).bind (dh u)
def d7 (f:FD):SD:=fun δ=>(f δ).bind fun d=>some (.rt d)
def fK (i:Nat) (f:FD):SD:=fun δ=>(f δ).bind fun d=>some (.nx (δ.set i (some d)))
def sIf (c:FT) (s u:SD):SD:=fun δ=>(c δ).bind fun b=>match b with
 | true=>s δ
 | false=>u δ
def xX:SD:=fun _=>none
section
variable {X:Cx} {st:Stmt} {rest:List Stmt} {s u:SD} {e:Expr} {f:FD} {c:FT} {pos:Pos}
theorem cf:pC X [] bc:=qb qL fun E σ H ⟨δ,r,R,e,k⟩=>by cases e;exact k σ H (Same.refl H) R
theorem aE (h1:PSD X st s) (h2:pC X rest u):pC X (st :: rest) (aA s u):=qb (n6 h1 h2) fun E σ H ⟨δ,r,R,e,k⟩=>by
 unfold aA at e
 obtain ⟨r1,e1,e⟩:=Za.mp e
 refine ⟨δ,r1,R,e1,?_⟩
 cases r1 with
 | nx δ'=>exact fun σ' H' s1 R1=>⟨δ',r,R1,e,k.mono s1⟩
 | rt d=>cases e;exact k
 | bk d=>cases e;exact k
 | ct d=>cases e;exact k
 | ex C d=>cases e;exact k
 | mk C d=>cases e;exact k
theorem aH (h:PSD X st s):pC X [st] s:=qK h
theorem aR (he:PD X e f):PSD X (.Return (some e) pos) (d7 f):=gS (yi he) fun E σ H ⟨δ,r,R,q,k⟩=>by
 unfold d7 at q
 obtain ⟨d,ed,q⟩:=Za.mp q
 cases q
 exact ⟨δ,d,R,ed,k⟩
theorem bL (i:Nat) {x:Str} {pos':Pos} (hN:X.N.Nodup) (he:PD X e f) (hi:X.N[i]? = some x:=by rfl) (hx:Loc X.env.scope x:=by first | exact Or.inl rfl | exact Or.inr rfl) (hs:swapsWith e (some (.Name x pos')) pos.line X.env=pure false:=by rfl) (hf:X.fn x=true \/ X.env.scope.names.lookup x=some .local:=by first | exact .inl rfl | exact .inr rfl | assumption) :
 PSD X (.Assign [.Name x pos'] e pos) (fK i f):=gS (uq hN hi hx he hs hf) fun E σ H ⟨δ,r,R,q,k⟩=>by
 unfold fK at q
 obtain ⟨d,ed,q⟩:=Za.mp q
 cases q
 exact ⟨δ,d,R,ed,fun v H' s1 r1=>k (σ.set i (some v)) H' s1 ((R.mono s1).set i r1)⟩
theorem cZ {cx:Expr} {a b:List Stmt} (hc:PTD X cx c) (ha:pC X a s) (hb:pC X b u):PSD X (.If cx a b pos) (sIf c s u):=gS (yj hc ha hb) fun E σ H ⟨δ,r,R,q,k⟩=>by
 unfold sIf at q
 obtain ⟨d,ed,q⟩:=Za.mp q
 refine ⟨δ,d,R,ed,fun H' s1=>?_⟩
 cases d with
 | true=>rw [if_pos rfl];exact ⟨δ,r,R.mono s1,q,k.mono s1⟩
 | false=>rw [if_neg Bool.false_ne_true];exact ⟨δ,r,R.mono s1,q,k.mono s1⟩
theorem pW:PSD X st xX:=gS sC fun E σ H ⟨δ,r,R,e,k⟩=>by cases e
def zN (i j:Nat) (g:FA):SD:=fun δ=>(g δ).bind fun ds=>match ds with
 | [a,b]=>some (.nx ((δ.set i (some a)).set j (some b)))
 | _=>none
theorem zT (i j:Nat) {x y:Str} {a b:Expr} {g:FA} {px py pt:Pos} {kt k2 pt2} (hc:X.calm=true) (hN:X.N.Nodup) (ha:PAD X [a,b] g) (hi:X.N[i]? = some x:=by rfl) (hj:X.N[j]? = some y:=by rfl) (hij:i ≠ j:=by decide)
 (hx:X.env.scope.names.lookup x=some .local:=by rfl) (hy:X.env.scope.names.lookup y=some .local:=by rfl)
 (hw:swappedStores [.Tuple [.Name x px,.Name y py] kt pt] (.Tuple [a,b] k2 pt2) X.env=pure (some [x,y]):=by rfl)
 (hs:swapsWithSole [.Tuple [.Name x px,.Name y py] kt pt] (.Tuple [a,b] k2 pt2) pos.line X.env=pure false:=by rfl) :
 PSD X (.Assign [.Tuple [.Name x px,.Name y py] kt pt] (.Tuple [a,b] k2 pt2) pos) (zN i j g):=gS (BL hc hN hi hj hij hx hy ha hw hs) fun E σ H ⟨δ,r,R,q,k⟩=>by
 unfold zN at q
 obtain ⟨ds,ed,q⟩:=Za.mp q
 split at q
 . rename_i d1 d2
   cases q
   refine ⟨δ,_,R,ed,fun vs H' s1 r1 _=>?_⟩
   obtain ⟨v,w,rfl,rv,rw'⟩:=xZ r1
   exact ⟨v,w,rfl,k _ H' s1 (((R.mono s1).set i rv).set j rw')⟩
 . cases q
end
def gA:Nat->FT->SD->SD
 | 0,_,_=>fun _=>none
 | n+1,c,s=>fun δ=>(c δ).bind fun b=>match b with
  | true=>(s δ).bind fun r=>match r with
   | .nx δ'=>gA n c s δ'
   | .ct δ'=>gA n c s δ'
   | .bk δ'=>some (.nx δ')
   | .rt d=>some (.rt d)
   | .ex C δ'=>some (.ex C δ')
   | .mk C δ'=>some (.mk C δ')
  | false=>some (.nx δ)
theorem pV {X:Cx} {cx:Expr} {body:List Stmt} {c:FT} {s:SD} {pos:Pos} (n:Nat) (hp:PassesOwn (model X.prog X.w) X.A X.env X.xe) (hc:PTD X cx c) (hb:pC X body s):PSD X (.While cx body [] pos) (gA n c s):=gS (yh hp hc hb) fun E σ H ⟨δ,r,R,e,k⟩=>by
 refine ⟨fun m σ H=>∃ δ r,RepS X.K H σ δ/\gA m c s δ=some r/\RP X E H r,⟨n,δ,r,R,e,k⟩,?_⟩
 rintro m σ H ⟨δ,r,R,e,k⟩
 cases m with
 | zero=>exact absurd e (by intro z;cases z)
 | succ m =>
  obtain ⟨b,eb,e⟩:=Za.mp (show ((c δ).bind _)=some r from e)
  refine ⟨δ,b,R,eb,fun H1 s1=>?_⟩
  cases b with
  | true =>
   rw [if_pos rfl]
   obtain ⟨r1,e1,e⟩:=Za.mp (show ((s δ).bind _)=some r from e)
   refine ⟨fun σ' H'=>∃ m',m' < m+1/\∃ δ r,RepS X.K H' σ' δ/\gA m' c s δ=some r/\RP X E H' r,fun _ _ z=>z,⟨δ,r1,R.mono s1,e1,?_⟩⟩
   cases r1 with
   | nx δ'=>exact fun σ' H' s2 R2=>⟨m,Nat.lt_succ_self m,δ',r,R2,e,k.mono (s1.trans s2)⟩
   | ct δ'=>exact fun σ' H' s2 R2=>⟨m,Nat.lt_succ_self m,δ',r,R2,e,k.mono (s1.trans s2)⟩
   | bk δ'=>cases e;exact fun σ' H' s2 R2=>k σ' H' (s1.trans s2) R2
   | rt d=>cases e;exact fun v H' s2 R2=>k v H' (s1.trans s2) R2
   | ex C δ'=>cases e;exact fun σ' H' s2 R2=>k σ' H' (s1.trans s2) R2
   | mk C δ'=>cases e;exact fun σ' H' s2 R2=>k σ' H' (s1.trans s2) R2
  | false =>
   rw [if_neg Bool.false_ne_true]
   cases e
   exact k σ H1 s1 (R.mono s1)
def ItD (K:PySem.W.Frag) (J:It) (H1:Hp) (ds:List D):Prop:=∀ i H2,Same H1 H2 ->
 (i < ds.length->J.go i H2/\∀ x H',J.yld i H2 x H'->Same H2 H'/\∃ d,ds[i]? = some d/\Rep K H' x d)/\(ds.length<=i->J.stop i H2)
def upI (K:PySem.W.Frag) (src:FA):TI:=fun σ H R=>∃ δ ds,RepS K H σ δ/\src δ=some ds/\∀ J H1,Same H H1->ItD K J H1 ds->R J H1
def PID (X:Cx) (tg iter:Expr) (src:FA):Prop:=PI X tg iter (upI X.K src)
theorem xt {X:Cx} {tg iter:Expr} {t t':TI} (h:PI X tg iter t) (w:∀ σ H R,t' σ H R->t σ H R):PI X tg iter t':=fun pins s σ H R I q=>h pins s σ H R I (w σ H R q)
def asL:D->Option (List D)
 | .lst ds=>some ds
 | .seq ds=>some ds
 | _=>none
theorem vT {K:PySem.W.Frag} {H1:Hp} {a:Addr} {vs:List V} {ds:List D} (hq:SqL K H1 a vs) (r:Reps K H1 vs ds):ItD K (Itl K a) H1 ds:=by
 intro i H2 s
 have hq2:=s.seq hq
 have r2:=r.mono s
 have hl:=r2.length
 refine ⟨fun hi=>⟨⟨vs,vs[i],hq2,by simp [show i < vs.length by omega]⟩,fun x H' y=>?_⟩,fun hi=>⟨vs,hq2,by omega⟩⟩
 obtain ⟨e,y⟩:=y
 subst e
 obtain ⟨d,h1,h2⟩:=r2.getV (y vs hq2)
 exact ⟨Same.refl _,d,h1,h2⟩
theorem eV {X:Cx} {tg l:Expr} {f:FD} (hl:PD X l f):PID X tg l (fun δ=>(f δ).bind asL):=xt (vD hl) fun σ H R ⟨δ,ds,R0,e,k⟩=>by
 obtain ⟨d,ed,e⟩:=Za.mp e
 refine ⟨δ,d,R0,ed,fun v H1 s1 r1=>?_⟩
 cases r1 with
 | @lst p vs es hp rp=>cases e;exact ⟨p,rfl,⟨vs,SqL.of hp⟩,k _ H1 s1 (vT (SqL.of hp) rp)⟩
 | @seq p vs es hp rp=>cases e;exact ⟨p,rfl,⟨vs,hp⟩,k _ H1 s1 (vT hp rp)⟩
 | _=>cases e
def upG (K:PySem.W.Frag) (g:D->DS->Option DS):TG:=fun v σ H Q=>∃ d δ δ',Rep K H v d/\RepS K H σ δ/\g d δ=some δ'/\∀ σ',RepS K H σ' δ'->Q σ' H
def PGD (X:Cx) (tg:Expr) (g:D->DS->Option DS):Prop:=PG X tg (upG X.K g)
def jb (i:Nat):D->DS->Option DS:=fun d δ=>some (δ.set i (some d))
theorem iC {X:Cx} (i:Nat) {x:Str} {pos:Pos} (hN:X.N.Nodup) (hi:X.N[i]? = some x:=by rfl) (hx:Loc X.env.scope x:=by first | exact Or.inl rfl | exact Or.inr rfl) (hf:X.fn x=true \/ X.env.scope.names.lookup x=some .local:=by first | exact .inl rfl | exact .inr rfl | assumption):PGD X (.Name x pos) (jb i) :=
 fun pins s σ H v u Q I r ⟨d,δ,δ',rv,R,e,k⟩=>by
  cases e
  exact jH hN hi hx hf pins s σ H v u Q I r (k _ (R.set i rv))
def kj (g:D->DS->Option DS) (s:SD):List D->SD
 | []=>fun δ=>some (.nx δ)
 | d :: ds=>fun δ=>(g d δ).bind fun δ1=>(s δ1).bind fun r=>match r with
  | .nx δ'=>kj g s ds δ'
  | .ct δ'=>kj g s ds δ'
  | .bk δ'=>some (.nx δ')
  | .rt d=>some (.rt d)
  | .ex C δ'=>some (.ex C δ')
  | .mk C δ'=>some (.mk C δ')
def zO (src:FA) (g:D->DS->Option DS) (s:SD):SD:=fun δ=>(src δ).bind fun ds=>kj g s ds δ
theorem vy {X:Cx} {tg iter:Expr} {body:List Stmt} {src:FA} {g:D->DS->Option DS} {s:SD} {pos:Pos} (hp:PassesOwn (model X.prog X.w) X.A X.env X.xe) (hc:X.calm=true) (hi:PID X tg iter src) (hg:PGD X tg g) (hb:pC X body s)
 (hs:∀ x,foldedSetIterable iter X.env x=pure x:=by intro _;rfl):PSD X (.For tg iter body [] pos) (zO src g s):=gS (ur hp hc hi hg hb hs) fun E σ H ⟨δ,r,R,e,k⟩=>by
 unfold zO at e
 obtain ⟨ds,eds,e⟩:=Za.mp e
 refine ⟨δ,ds,R,eds,fun J H1 s1 it=>?_⟩
 refine ⟨fun i m σ H=>m=ds.length - i/\i<=ds.length/\Same H1 H/\∃ δ,RepS X.K H σ δ/\kj g s (ds.drop i) δ=some r/\RP X E H r,⟨ds.length,rfl,Nat.zero_le _,Same.refl _,δ,R.mono s1,e,k.mono s1⟩,?_⟩
 rintro i m σ H2 ⟨rfl,hil,s2,δ2,R2,e2,k2⟩
 by_cases hlt:i < ds.length
 . obtain ⟨go,yl⟩:=(it i H2 s2).1 hlt
   rw [List.drop_eq_getElem_cons hlt] at e2
   obtain ⟨δ3,e3,e2⟩:=Za.mp (show ((g ds[i] δ2).bind _)=some r from e2)
   obtain ⟨r4,e4,e2⟩:=Za.mp e2
   refine .inr ⟨go,fun σ' H'=>Same H1 H'/\∃ δ,RepS X.K H' σ' δ/\kj g s (ds.drop (i+1)) δ=some r/\RP X E H' r,fun σ' H' z=>⟨ds.length - (i+1),by omega,rfl,hlt,z⟩,fun x H' y=>?_⟩
   obtain ⟨s3,d,hd,rx⟩:=yl x H' y
   have hd':d=ds[i]:=by
    rw [Zs hlt] at hd
    exact (Option.some.inj hd).symm
   subst hd'
   refine ⟨ds[i],δ2,δ3,rx,R2.mono s3,e3,fun σ3 R3=>⟨δ3,r4,R3,e4,?_⟩⟩
   cases r4 with
   | nx δ'=>exact fun σ' H'' s4 R4=>⟨(s2.trans s3).trans s4,δ',R4,e2,(k2.mono s3).mono s4⟩
   | ct δ'=>exact fun σ' H'' s4 R4=>⟨(s2.trans s3).trans s4,δ',R4,e2,(k2.mono s3).mono s4⟩
   | bk δ'=>cases e2;exact fun σ' H'' s4 R4=>k2 σ' H'' (s3.trans s4) R4
   | rt d=>cases e2;exact fun v H'' s4 R4=>k2 v H'' (s3.trans s4) R4
   | ex C δ'=>cases e2;exact fun σ' H'' s4 R4=>k2 σ' H'' (s3.trans s4) R4
   | mk C δ'=>cases e2;exact fun σ' H'' s4 R4=>k2 σ' H'' (s3.trans s4) R4
 . have e:i=ds.length:=by omega
   subst e
   rw [List.drop_length] at e2
   cases e2
   exact .inl ⟨(it _ H2 s2).2 (Nat.le_refl _),k2 σ H2 (Same.refl _) R2⟩
def aF:Option Res->Option D
 | some (.rt d)=>some d
 | some (.nx _)=>some .non
 | _=>none
def start (n:Nat) (ds:List D):DS:=ds.map some++List.replicate (n - ds.length) none
section
variable {P:Program} {w:World} {K:PySem.W.Frag} {mg:Str->Option Value} {base:Heap}
theorem bS {x qual:Str} {st:Stmt} {f:Addr} {fd:FuncData} {N ps:List Str} {k:Nat} {G:List D->Option D} (F:Fun K x qual st f fd) (S:aD N ps (al st))
 (hbody:∀ (cdv:Value) (A:Around) (outer:List Env) (s:Shared) (H:Hp) (E:XK) (ds:List D) (d:D),Room k (A.deeper (envOfC qual (al st) s.heap.objs.size f cdv))->G ds=some d->ds.length=ps.length ->
  ∃ t,pC (oS CX0 P w K mg base N qual (al st) f cdv A outer s H E).nox (bM st) t/\aF (t (start N.length ds))=some d):FnOk P w K mg base CX0 (k+1) f fd ps (bA K ps.length G):=by
 refine F.ok S (fun vs H Q E h=>h.1) (fun cdv A outer s H vs Q E hr h=>?_)
 obtain ⟨hl,ds,d,r,e,q⟩:=h
 obtain ⟨t,ht,hq⟩:=hbody cdv A outer s H E ds d hr e (r.length.symm.trans hl)
 refine ⟨_,ht,start N.length ds,?_⟩
 cases z:t (start N.length ds) with
 | none=>rw [z] at hq;cases hq
 | some res =>
  rw [z] at hq
  refine ⟨res,RepS.start r,rfl,?_⟩
  cases res with
  | rt d'=>cases hq;exact q
  | nx δ=>cases hq;exact fun σ' H' s1 _=>q _ H' s1 .non
  | bk δ=>cases hq
  | ct δ=>cases hq
  | ex C δ=>cases hq
  | mk C δ=>cases hq
structure Has (P:Program) (w:World) (K:PySem.W.Frag) (mg:Str->Option Value) (base:Heap) (k:Nat) (x:Str) (ps:List Str) (G:List D->Option D):Prop where
 ex:∃ f fd,FnOk P w K mg base CX0 k f fd ps (bA K ps.length G)/\mg x=some (.ref f)/\PySem.W.keepIn K (.ref f)=true/\Binds K fd ps []
end
theorem au {X:Cx} {e:Expr} {es:List Expr} {g:FA} {pos p:Pos} {k j:Nat} {x:Str} {ps:List Str} {G:List D->Option D} (F:Has X.prog X.w X.K X.mg X.base k x ps G) (hr:Room j X.A) (ha:PAD X (e :: es) g) (hk:k<=j:=by decide) (hg:Gl X x:=by rfl)
 (hn:(e :: es).length=ps.length:=by rfl) (hdb:(x == ("__debug__":Str))=false:=by decide) (he:starEach (e :: es) X.env=(false,eval e X.env) :: starEach es X.env:=by rfl) (hpl:(backTo pos (starEach es X.env)).any (·.1)=false:=by rfl) :
 PD X (.Call (.Name x p) (e :: es) [] pos) (ak G g):=by
 obtain ⟨f,fd,F,hm,kp,hb⟩:=F.ex
 exact z9 F (hr.mono hk) hg hm kp hb ha hn hdb he hpl
end Dl
namespace Dl
open PySem PySem.Spec PyProof.Rows L2
def spLaw (K:PySem.W.Frag):Sp:=fun vs H Q _=>∃ (a:Addr) (ns:List Int),vs=[.ref a]/\SqL K H a (ns.map V.int)/\ns.length<=63/\∀ H',Q (.bl true) H'
end Dl
namespace Dl
noncomputable def fn (S:List D->D->Prop):List D->Option D:=fun ds=>by
 classical exact if h:∃ d,S ds d then some h.choose else none
theorem aV {S:List D->D->Prop} {ds:List D} {d:D} (h:fn S ds=some d):S ds d:=by
 unfold fn at h
 split at h
 . rename_i q
   have e:=Option.some.inj h
   rw [<- e]
   exact q.choose_spec
 . cases h
theorem bG {S:List D->D->Prop} {ds:List D} {d:D} (u:∀ d',S ds d'->d'=d) (h:S ds d):fn S ds=some d:=by
 unfold fn
 have q:∃ d,S ds d:=⟨d,h⟩
 rw [dif_pos q]
 exact congrArg some (u _ q.choose_spec)
theorem v6 (a b:Int):gNe (.int a) (.int b)=some (.bl (!(a == b))):=rfl
theorem fO (a b:Int):gEq (.int a) (.int b)=some (.bl (a == b)):=rfl
theorem bF (a b:Int):bi (.int a) (.int b)=some (.int (a+b)):=rfl
theorem ap {C:Int->Int->Prop} [∀ i j,Decidable (C i j)] {g:Int->Int->D} {i j:Int} (h:C i j):gI C g (.int i) (.int j)=some (g i j):=if_pos h
end Dl
namespace Dl
theorem c9 (a b:D):gIx (.tup [a,b]) (.int 0)=some a:=rfl
theorem eY (a b:D):gIx (.tup [a,b]) (.int 1)=some b:=rfl
theorem tL (ds:List D):c8 [.seq ds]=some (.int ds.length):=rfl
theorem sj {n:Nat} {c:FT} {s:SD} {δ δ':DS} (hc:c δ=some true) (hs:s δ=some (.nx δ')):gA (n+1) c s δ=gA n c s δ':=by
 simp only [gA,hc,hs,Zc]
theorem qp {x y:Int} (h0:0<=x) (h:x<=y) (hy:Bd y):Bd x:=Nat.lt_of_le_of_lt (show x.natAbs<=y.natAbs by omega) hy
end Dl
namespace Dl
open PySem PySem.Spec PyProof.Rows L2
abbrev FO:=DS->Option (Option Int)
def dfl (G:List D->Option D) (dv:List Int):List D->Option D:=fun ds=>G (ds++dv.map D.int)
def kf (g:D->Option D):List D->Option (List D)
 | []=>some []
 | d :: ds=>(g d).bind fun x=>(kf g ds).bind fun xs=>some (x :: xs)
def bz (js:List Nat) (δ:DS):DS:=js.map fun j=>match δ[j]? with
 | some o=>o
 | none=>none
def wg (src:FA) (js:List Nat) (elt:FD):FD:=fun δ=>(src δ).bind fun ds=>(kf (fun d=>elt (some d :: bz js δ)) ds).bind fun xs=>if xs.length<=1000 then some (.lst xs) else none
def eT (a b c:Int):List D:=(List.range ((b - a+c - 1) / c).toNat).map fun i=>.int (a+(i:Nat)*c)
def asR:List D->Option (List D)
 | [.int b]=>if -(2 ^ 62)<=b/\b < 2 ^ 62 then some (eT 0 b 1) else none
 | [.int a,.int b]=>if -(2 ^ 62)<=a/\a < 2 ^ 62/\-(2 ^ 62)<=b/\b < 2 ^ 62 then some (eT a b 1) else none
 | [.int a,.int b,.int c]=>if -(2 ^ 62)<=a/\a < 2 ^ 62/\-(2 ^ 62)<=b/\b < 2 ^ 62/\c=2 then some (eT a b c) else none
 | _=>none
def qz (g:FA):FA:=fun δ=>(g δ).bind asR
end Dl
namespace Dl
end Dl
namespace Dl
open PySem PySem.Spec PyProof.Rows L2
structure FunD (K:PySem.W.Frag) (x qual:Str) (st:Stmt) (f:Addr) (fd:FuncData) (dV:Value):Prop where
 ex:∃ (oc:Value) (od:Option Addr) (kV doc pm:Value) (an:Option Addr) (cdv ct:Value) (osl:Array (Option Value)),
  fd=PySem.W.fnOf x qual (dc st) (bM st) (al st) dV kV doc pm an cdv ct/\K.lookup f=some ⟨oc,od,.func fd,osl⟩/\PySem.W.codeIn K cdv qual=true
 kp:PySem.W.keepIn K (.ref f)=true
section
variable {P:Program} {w:World} {K:PySem.W.Frag} {mg:Str->Option Value} {base:Heap}
theorem yd {x qual:Str} {st:Stmt} {f:Addr} {fd:FuncData} {dV:Value} {N ps:List Str} {k:Nat} {G:List D->Option D} (F:FunD K x qual st f fd dV) (S:aD N ps (al st))
 (hbody:∀ (cdv:Value) (A:Around) (outer:List Env) (s:Shared) (H:Hp) (E:XK) (ds:List D) (d:D),Room k (A.deeper (envOfC qual (al st) s.heap.objs.size f cdv))->G ds=some d->ds.length=ps.length ->
  ∃ t,pC (oS CX0 P w K mg base N qual (al st) f cdv A outer s H E).nox (bM st) t/\aF (t (start N.length ds))=some d):FnOk P w K mg base CX0 (k+1) f fd ps (bA K ps.length G):=by
 obtain ⟨oc,od,kV,doc,pm,an,cdv,ct,osl,rfl,lk,hcd⟩:=F.ex
 refine Bc lk hcd S (fun vs H Q E h=>h.1) fun A outer s H vs Q E hr hsp=>?_
 obtain ⟨hl,ds,d,r,e,q⟩:=hsp
 obtain ⟨t,ht,hq⟩:=hbody cdv A outer s H E ds d hr e (r.length.symm.trans hl)
 refine ⟨_,ht.nox,start N.length ds,?_⟩
 cases z:t (start N.length ds) with
 | none=>rw [z] at hq;cases hq
 | some res =>
  rw [z] at hq
  refine ⟨res,RepS.start r,rfl,?_⟩
  cases res with
  | rt d'=>cases hq;exact q
  | nx δ=>cases hq;exact fun σ' H' s1 _=>q _ H' s1 .non
  | bk δ=>cases hq
  | ct δ=>cases hq
  | ex C δ=>cases hq
  | mk C δ=>cases hq
theorem FunD.binds {x qual:Str} {st:Stmt} {f T:Addr} {fd:FuncData} {ps:List Str} {o:Obj} {items:Array Value} {n:Nat} {ds:List Value} (F:FunD K x qual st f fd (.ref T)) (ho:K.lookup T=some o) (hs:o.data=.seq items n)
 (h:∀ (kV doc pm:Value) (an:Option Addr) (cdv ct:Value) (us:List Value),(us++ds).length=ps.length->∃ k,bindArgs (PySem.W.fnOf x qual (dc st) (bM st) (al st) (.ref T) kV doc pm an cdv ct) ⟨us,[]⟩=seqItems? (.ref T) >>= k/\k (some items)=pure (ps.zip (us++ds))):Binds K fd ps ds:=by
 obtain ⟨oc,od,kV,doc,pm,an,cdv,ct,osl,rfl,lk,hcd⟩:=F.ex
 intro s us KI hl
 obtain ⟨k,h1,h2⟩:=h kV doc pm an cdv ct us hl
 exact PySem.W.binds_K KI rfl ho hs h1 h2
theorem AA {x qual:Str} {st:Stmt} {f:Addr} {oc dV:Value} {od an:Option Addr} {osl:Array (Option Value)} {kV doc pm cdv ct:Value} (l:K.lookup f=some ⟨oc,od,.func (PySem.W.fnOf x qual (dc st) (bM st) (al st) dV kV doc pm an cdv ct),osl⟩)
 (c:PySem.W.codeIn K cdv qual=true) (k:PySem.W.keepIn K (.ref f)=true):FunD K x qual st f (PySem.W.fnOf x qual (dc st) (bM st) (al st) dV kV doc pm an cdv ct) dV:=⟨⟨oc,od,kV,doc,pm,an,cdv,ct,osl,rfl,l,c⟩,k⟩
structure pD (P:Program) (w:World) (K:PySem.W.Frag) (mg:Str->Option Value) (base:Heap) (k:Nat) (x:Str) (ps:List Str) (dv:List Int) (G:List D->Option D):Prop where
 ex:∃ f fd ds,FnOk P w K mg base CX0 k f fd ps (bA K ps.length G)/\mg x=some (.ref f)/\PySem.W.keepIn K (.ref f)=true/\Vals (dv.map V.int) ds/\Binds K fd ps ds
end
theorem dq {X:Cx} {e:Expr} {es:List Expr} {g:FA} {pos p:Pos} {k j:Nat} {x:Str} {ps:List Str} {dv:List Int} {G:List D->Option D} (F:pD X.prog X.w X.K X.mg X.base k x ps dv G) (hr:Room j X.A) (ha:PAD X (e :: es) g) (hk:k<=j:=by decide) (hg:Gl X x:=by rfl)
 (hn:(e :: es).length+dv.length=ps.length:=by rfl) (hdb:(x == ("__debug__":Str))=false:=by decide) (he:starEach (e :: es) X.env=(false,eval e X.env) :: starEach es X.env:=by rfl) (hpl:(backTo pos (starEach es X.env)).any (·.1)=false:=by rfl) :
 PD X (.Call (.Name x p) (e :: es) [] pos) (ak (dfl G dv) g):=by
 obtain ⟨f,fd,ds,F,hm,kp,hv,hb⟩:=F.ex
 refine imp (mY F (hr.mono hk) hg hm kp hb hv vG ha hdb he hpl) fun σ H Q ⟨δ,d,R,q,k⟩=>?_
 unfold ak at q
 obtain ⟨ds,eds,q⟩:=Za.mp q
 refine ⟨δ,ds,R,eds,fun vs H1 s1 r1 l=>?_⟩
 exact ⟨by rw [Zh,l,Zi];exact hn,ds++dv.map D.int,d,r1.append (Reps.ints dv),q,fun v H' s=>k v H' (s1.trans s)⟩
section
variable {X:Cx} {e:Expr} {f:FD} {lo hi:Option Expr} {fl fh:FO} {pos p2:Pos}
end
section
variable {prog:Program} {w:World} {A:Around} {E:Value->Shared->Prop}
end
theorem um {K:PySem.W.Frag} {H:Hp} {lo:Int} {n:Nat}:ItD K (Itr lo n) H ((List.range n).map fun (i:Nat)=>D.int (lo+(i:Int)*1)):=by
 intro i H2 s
 refine ⟨fun hi=>?_,fun hi=>(show n<=i by simpa using hi)⟩
 have hi':i < n:=by simpa using hi
 refine ⟨hi',fun x H' y=>?_⟩
 obtain ⟨e,y⟩:=y
 subst e y
 refine ⟨Same.refl _,.int (lo+(i:Int)*1),?_,by rw [Int.mul_one];exact .int _⟩
 rw [List.getElem?_map,List.getElem?_range hi']
 rfl
theorem j7 {X:Cx} {tg a:Expr} {g:FA} {p pos:Pos} (hg:Gl X "range") (hm:X.mg "range" = none) (ha:PAD X [a] g) (hs:starEach [a] X.env=[(false,eval a X.env)]:=by rfl):PID X tg (.Call (.Name "range" p) [a] [] pos) (qz g) :=
 xt (pX hg hm ha hs) fun σ H R ⟨δ,ds,R0,e,k⟩=>by
 unfold qz at e
 obtain ⟨xs,exs,e⟩:=Za.mp e
 refine ⟨δ,xs,R0,exs,fun vs H1 s1 r1 l=>?_⟩
 match xs,r1,e with
 | [.int b],r1,e =>
  obtain ⟨v,rfl,rv⟩:=gC r1
  cases rv
  have e':(if -(2 ^ 62)<=b/\b < 2 ^ 62 then some (eT 0 b 1) else none)=some ds:=e
  by_cases hb:-(2 ^ 62)<=b/\b < 2 ^ 62
  . rw [if_pos hb] at e'
    have e2:eT 0 b 1=ds:=Option.some.inj e'
    refine ⟨b,rfl,hb.1,hb.2,k _ H1 s1 ?_⟩
    have h:=um (K:=X.K) (H:=H1) (lo:=0) (n:=b.toNat)
    have e3:((b - 0+1 - 1) / 1).toNat=b.toNat:=by congr 1;omega
    unfold eT at e2
    rw [e3] at e2
    rw [<- e2]
    exact h
  . rw [if_neg hb] at e';cases e'
 | [],r1,e=>cases r1;cases l
 | _ :: _ :: _,r1,e=>
  have:=r1.length
  rw [l] at this
  cases this
 | [.non],r1,e=>cases e
 | [.bl _],r1,e=>cases e
 | [.str _],r1,e=>cases e
 | [.tup _],r1,e=>cases e
 | [.lst _],r1,e=>cases e
 | [.seq _],r1,e=>cases e
 | [.ty _],r1,e=>cases e
 | [.dct],r1,e=>cases e
 | [.exc _],r1,e=>cases e
 | [.cls _],r1,e=>cases e
 | [.ms _ _],r1,e=>cases e
 | [.mf _ _],r1,e=>cases e
 | [.md _ _],r1,e=>cases e
end Dl
namespace Dl
open PySem PySem.Spec PyProof.Rows L2
structure CompOk (X:Cx) (scope:Scope) (cl:List (Str×Addr)) (x:Str) (N:List Str) (js:List Nat):Prop where
 clos:closureFor scope X.env=pure cl
 nocell:∀ y∈scope.names,y.2 ≠ .cell
 kind:scope.kind=.function
 names:∀ y∈scope.names,y.2=.local->scope.names.lookup y.1=some .local
 hx:scope.names.lookup x=some .local
 nd:N.Nodup
 h0:N[0]? = some x
 len:N.length=js.length+1
 clx:cl.lookup x=none
 cls:∀ y c,cl.lookup y=some c->X.env.cells.lookup y=some c
 has:∀ y,((relabel scope X.env).names.lookup y=some .cell \/ (relabel scope X.env).names.lookup y=some .free)->∃ c,cl.lookup y=some c
 fr:∀ i y j,N[i+1]? = some y->js[i]? = some j->X.N[j]? = some y/\X.env.scope.names.lookup y=some .cell/\(relabel scope X.env).names.lookup y=some .cell/\∀ c,X.env.cells.lookup y=some c->cl.lookup y=some c
abbrev cG (X:Cx) (scope:Scope) (cl:List (Str×Addr)) (x:Str) (N:List Str) (C:Addr) (s₂:Shared) (H₂:Hp) (fp:List Addr) (pn:List (Addr×Obj)):Cx :=
 { X with env:=compEnvC scope cl C X.env,N:=N,s₀:=s₂,H₀:=H₂,outer:=X.stack,stack:=X.stack,ex:=fp,fn:=fun y=>y == x,calm:=true,pn:=pn,xe:=fun _ _=>False }
section
variable {X:Cx} {pins:List (Addr×Obj)} {σ:L2.St} {H₂:Hp} {s₂:Shared} {scope:Scope} {cl:List (Str×Addr)} {x:Str} {N:List Str} {js:List Nat} {C:Addr} {fp:List Addr}
theorem xB (I:L2.Inv X pins σ H₂ s₂) (hcm:X.calm=true) (O:CompOk X scope cl x N js) (hC:s₂.heap.objs.size<=C) (hf:∀ b∈fp,jQ X pins H₂ b) (ho:∀ b∈fp,∃ o,s₂.heap.get? b=some o):(cG X scope cl x N C s₂ H₂ fp (X.pn++pins)).Ok where
 mod:=I.ok.mod
 kind:=O.kind
 glob:=I.ok.glob
 blt:=I.ok.blt
 above:=hC
 inj:=fun y z c h1 h2=>I.ok.inj y z c (O.cls y c h1) (O.cls z c h2)
 has:=fun y h=>O.has y h
 cab:=fun y c h1 h2=>by
  have e:y=x:=by simpa using h1
  subst e
  have:cl.lookup y=some c:=h2
  rw [O.clx] at this
  cases this
 hd:=fun _=>I.ok.hd hcm
 frames:=I.ok.frames
 stk:=.inl rfl
 exf:=fun b hb=>by
  obtain ⟨o,e⟩:=ho b hb
  refine ⟨Nat.ne_of_lt (Nat.lt_of_lt_of_le (Heap.lt_size e) hC),fun y c h z=>?_⟩
  exact (hf b hb).2.2.2.2.1 y c (O.cls y c h) z
 bs:=I.bs
 bsz:=Nat.le_trans I.ok.bsz I.sz
 noex:=fun b o e hb=>by
  rcases (hf b hb).2.2.2.1 with z | z
  . exact I.ok.noex b o e z
  . exact absurd (Nat.lt_of_lt_of_le (Heap.lt_size e) (Nat.le_trans I.ok.bsz z)) (Nat.lt_irrefl _)
 exfs:=fun b hb z=>by
  rcases Zp.mp (I.stkSub b z) with e | e
  . exact (hf b hb).2.1 e
  . exact (hf b hb).2.2.1 e
 funs:=I.stack
 frf:=I.stkFree
end
theorem ou {g:D->Option D}:∀ {ds xs:List D},kf g ds=some xs->xs.length=ds.length/\∀ (i:Nat) d,ds[i]? = some d->∃ e,g d=some e/\xs[i]? = some e
 | [],xs,h=>by
  cases h
  exact ⟨rfl,fun i d e=>by simp at e⟩
 | d :: ds,xs,h=>by
  obtain ⟨x,ex,h⟩:=Za.mp (show ((g d).bind _)=some xs from h)
  obtain ⟨ys,ey,h⟩:=Za.mp h
  cases h
  obtain ⟨h1,h2⟩:=ou ey
  refine ⟨by simp [h1],fun i e he=>?_⟩
  cases i with
  | zero=>simp at he;subst he;exact ⟨x,ex,rfl⟩
  | succ i =>
   obtain ⟨z,hz1,hz2⟩:=h2 i e (by simpa using he)
   exact ⟨z,hz1,by simpa using hz2⟩
def dQ (js:List Nat) (σ:L2.St):L2.St:=js.map fun j=>match σ[j]? with
 | some o=>o
 | none=>none
theorem lx {K:PySem.W.Frag} {H:Hp} {σ:L2.St} {δ:DS} (R:RepS K H σ δ) (js:List Nat):RepS K H (none :: dQ js σ) (none :: bz js δ):=by
 refine ⟨by simp [dQ,bz],fun i d q=>?_⟩
 cases i with
 | zero=>simp at q
 | succ i =>
  have q':(bz js δ)[i]? = some (some d):=by simpa using q
  unfold bz at q'
  rw [List.getElem?_map] at q'
  obtain ⟨j,h1,h2⟩:=Zb.mp q'
  cases h3:δ[j]? with
  | none=>rw [h3] at h2;cases h2
  | some o =>
   rw [h3] at h2
   have h2':o=some d:=h2
   subst h2'
   obtain ⟨v,h4,h5⟩:=R.val j d h3
   refine ⟨v,?_,h5⟩
   show (dQ js σ)[i]? = some (some v)
   unfold dQ
   rw [List.getElem?_map,h1]
   show some (match σ[j]? with | some o=>o | none=>none)=some (some v)
   rw [h4]
theorem bindF {α β:Type} {M:Model} {A:Around} {m:Sem α} {f:α->Sem β} {Q:α->Shared->Prop} {R:β->Shared->Prop} {E:Value->Shared->Prop} {s:Shared} (h:wpAny M A m Q (fun _ _=>False) s) (k:∀ a s',Q a s'->wpAny M A (f a) R E s'):wpAny M A (m>>=f) R E s:=wpAny_bind (wpAny_mono h k fun _ _=>False.elim)
theorem lb {prog:Program} {w:World} {A:Around} {R:Result->Shared->Prop} {s:Shared} {elt target iter:Expr} {scope:Scope} {pos:Pos} {it acc:Value} {env:Env} (J:Nat->Shared->Prop)
 (turn:∀ n s,J n s->wpAny (model prog w) A (pyNext it) (fun r s₁=>match r with
  | none=>R (.ok .next) s₁
  | some v=>wpAny (model prog w) A (letOwnedTupleGo target it v) (fun _ s₂=>wpAny (model prog w) A (assign target env v) (fun _ s₃=>wpAny (model prog w) A (eval elt env) (fun y s₄ =>
   wpAny (model prog w) A (call (.builtin "list.append") [acc,y]) (fun _ s₅=>∃ m,m < n/\J m s₅) (fun _ _=>False) s₄) (fun _ _=>False) s₃) (fun _ _=>False) s₂) (fun _ _=>False) s₁) (fun _ _=>False) s)
 (n:Nat) (h:J n s):codeAny (model prog w) A (.compLoop (.ListComp elt [⟨target,iter,[],0⟩] scope pos) 0 it acc env) R s:=by
 refine codeAny_loop rfl J (fun n s j=>wpAny_noted (m:=compTurn (.ListComp elt [⟨target,iter,[],0⟩] scope pos) 0 it acc env) (compTurn_list1 elt target iter scope pos it acc env▸wpAny_bind (wpAny_standAt (bindF (turn n s j) fun r _ q=>?_)))) n h
 cases r with
 | none=>exact wpAny_pure q
 | some v=>
  exact bindF q fun _ _ q=>bindF q fun _ _ q=>wpAny_bind (bindF q fun _ _ q=>bindF q fun _ _ q=>wpAny_pure (wpAny_pure ⟨rfl,q⟩))
section
variable {X:Cx} {pins:List (Addr×Obj)} {σ:L2.St} {H₂:Hp} {s₂:Shared} {scope:Scope} {cl:List (Str×Addr)} {x:Str} {N:List Str} {js:List Nat} {C:Addr} {fp:List Addr}
theorem jp (I:L2.Inv X pins σ H₂ s₂) {a:Addr} (h:s₂.heap.objs.size<=a):a ∉ frs X.stack:=fun z=>by
 rcases Zp.mp (I.stkSub a z) with e | e
 . exact absurd (Nat.lt_of_lt_of_le I.lt (by rw [<- e];exact h)) (Nat.lt_irrefl _)
 . exact I.nofs h e
theorem oU {h₁:Heap} {m:Str->Option Value} {tk:Nat} (I:L2.Inv X pins σ H₂ s₂) (hcm:X.calm=true) (O:CompOk X scope cl x N js) (hC:s₂.heap.objs.size<=C) (hf:∀ b∈fp,jQ X pins H₂ b) (ho:∀ b∈fp,∃ o,s₂.heap.get? b=some o)
 (old:∀ b o,s₂.heap.get? b=some o->h₁.get? b=some o) (hns:h₁.Ns C m) (hl:σ.length=X.N.length):L2.Inv (cG X scope cl x N C s₂ H₂ fp (X.pn++pins)) [] (none :: dQ js σ) H₂ { s₂ with heap:=h₁,toks:=tk } where
 ok:=xB I hcm O hC hf ho
 os:=rfl
 bare:=I.bare
 base:=Un.kept old
 loc:=by
  refine ⟨m,hns,fun i y v h1 h2 h3=>?_⟩
  cases i with
  | zero=>simp at h2
  | succ i =>
   have h2':(dQ js σ)[i]? = some (some v):=by simpa using h2
   unfold dQ at h2'
   rw [List.getElem?_map] at h2'
   obtain ⟨j,hj,h4⟩:=Zb.mp h2'
   have h5:σ[j]? = some (some v):=by
    cases q:σ[j]? with
    | none=>rw [q] at h4;cases h4
    | some o=>rw [q] at h4;exact congrArg some h4
   obtain ⟨f1,f2,f3,f4⟩:=O.fr i y j h1 hj
   obtain ⟨m',hn',hl'⟩:=I.loc
   obtain ⟨u,ru,lk⟩:=hl' j y v f1 h5 (.inr (.inl f2))
   refine ⟨u,ru,?_⟩
   rcases lk with ⟨k1,_⟩ | ⟨_,c,hc,o,hco,hcd⟩
   . have:X.env.scope.names.lookup y=some .local:=k1
     rw [f2] at this
     cases this
   . exact .inr ⟨.inl f3,c,f4 c hc,o,old c o hco,hcd⟩
 cell:=fun y c e=>by
  obtain ⟨v,o,h1,h2⟩:=I.cell y c (O.cls y c e)
  exact ⟨v,o,old c o h1,h2⟩
 free:=I.hok.fresh hC
 freeC:=fun y c e=>I.freeC y c (O.cls y c e)
 pin:=fun p hp=>by
  have hp':p∈X.pn++pins:=by simpa using hp
  obtain ⟨h1,h2,h3,h4,h5⟩:=I.pin p hp'
  refine ⟨old _ _ h1,h2,Nat.ne_of_lt (Nat.lt_of_lt_of_le (Heap.lt_size h1) hC),fun z=>?_,h5⟩
  rcases Zp.mp (I.stkSub p.1 z) with e | e
  . exact h3 e
  . exact h4 e
 hok:=I.hok.kept old
 len:=by
  show (none :: dQ js σ).length=N.length
  rw [O.len]
  simp [dQ]
theorem uT {elt iter:Expr} {px pos:Pos} {it:Addr} {tn:Nat->Heap->Prop} {J:It} {ds xs:List D} {δ:DS} {felt:FD} {RR:Value->Addr->Result->Shared->Prop} {E:Value->Shared->Prop} (I:L2.Inv X pins σ H₂ s₂) (hcm:X.calm=true) (O:CompOk X scope cl x N js)
 (T:uZ X.prog X.w X.K (.Name x px) J fp it tn) (st:tn 0 s₂.heap) (hf:∀ b∈fp,jQ X pins H₂ b) (itd:ItD X.K J H₂ ds) (R:RepS X.K H₂ σ δ) (he:∀ C s₂ H₂ fp pn,PD (cG X scope cl x N C s₂ H₂ fp pn) elt felt)
 (hm:kf (fun d=>felt (some d :: bz js δ)) ds=some xs) (hz:xs.length<=1000)
 (hRR:∀ (D C:Addr) (s':Shared) (Hend:Hp) (vs:List V),s₂.heap.objs.size<=C->L2.Inv X pins σ Hend s'->Same H₂ Hend->Hend D=some (.lst vs)->Reps X.K Hend vs xs->(∃ m,s'.heap.Ns C m)->Hend C=none->RR (.ref D) C (.ok .next) s') :
 wpAny (model X.prog X.w) X.A (newList []) (fun acc s₃=>wpAny (model X.prog X.w) X.A (newFunctionEnv scope X.env.globals cl [] X.env.qual none .none (some X.env)) (fun cenv s₄ =>
  codeAny (model X.prog X.w) X.A (.compStart (.ListComp elt [⟨.Name x px,iter,[],0⟩] scope pos) 0 (.ref it) acc { cenv with scope:=relabel scope X.env }) (RR acc cenv.locals) s₄) E s₃) E s₂:=by
 obtain ⟨ml,mg'⟩:=ou hm
 have objs:=T.obj 0 s₂.heap st
 have objs':∀ b∈fp,∃ o,s₂.heap.get? b=some o:=fun b hb=>let ⟨o,h,_⟩:=objs b hb;⟨o,h⟩
 refine wpAny_newObj_type (wpAny_newFunctionEnv O.nocell (by intro y hy;simp at hy) (fun h₁ hns₁ hsb₁=>?_) O.kind)
 dsimp only at hns₁ hsb₁ ⊢
 generalize hP:s₂.heap.push { cls:=.type "list",dict:=none,data:=.seq ([]:List Value).toArray }=P2 at hns₁ hsb₁ ⊢
 have hC:P2.objs.size=s₂.heap.objs.size+1:=by rw [<- hP,Heap.size_push]
 generalize hCC:P2.objs.size=C at *
 have hCle:s₂.heap.objs.size<=C:=by omega
 have hDle:s₂.heap.objs.size<=s₂.heap.objs.size:=by omega
 have hDC:s₂.heap.objs.size ≠ C:=by omega
 have old:∀ b o,s₂.heap.get? b=some o->h₁.get? b=some o:=fun b o e=>by
  refine hsb₁.extBut b o (Nat.ne_of_lt (Nat.lt_of_lt_of_le (Heap.lt_size e) hCle)) (Heap.get?_push_of_some _ ?_)
  rw [<- hP]
  exact Heap.get?_push_of_some _ e
 have hacc:h₁.get? s₂.heap.objs.size=some { cls:=.type "list",data:=.seq ([]:List Value).toArray }:=by
  refine hsb₁.extBut s₂.heap.objs.size _ hDC (Heap.get?_push_of_some _ ?_)
  rw [<- hP]
  exact Heap.get?_push_size _ rfl
 have I0:=fun tk=>oU (C:=C) (tk:=tk) I hcm O hCle hf objs' old hns₁ I.len
 have dstk:s₂.heap.objs.size ∉ frs X.stack:=jp I hDle
 have fne:∀ b∈fp,b ≠ s₂.heap.objs.size:=fun b hb e=>by
  obtain ⟨o,h⟩:=objs' b hb
  exact absurd (Heap.lt_size h) (by rw [e];exact Nat.lt_irrefl _)
 have cne:∀ y c,cl.lookup y=some c->c ≠ s₂.heap.objs.size:=fun y c e z=>by
  obtain ⟨v,o,h1,_⟩:=I.cell y c (O.cls y c e)
  exact absurd (Heap.lt_size h1) (by rw [z];exact Nat.lt_irrefl _)
 have pne:∀ p∈X.pn++pins,p.1 ≠ s₂.heap.objs.size:=fun p hp e=>by
  exact absurd (Heap.lt_size (I.pin p hp).1) (by rw [e];exact Nat.lt_irrefl _)
 have stat:∀ {H':Hp} {pl:List (Addr×Obj)},(∀ b∈fp,H' b=none)->(∀ p∈pl,∀ b∈fp,p.1 ≠ b)->∀ b∈fp,jQ (cG X scope cl x N C s₂ H₂ fp (X.pn++pins)) pl H' b:=fun {H' pl} hn hpl b hb=>by
  obtain ⟨o,h⟩:=objs' b hb
  refine ⟨hn b hb,Nat.ne_of_lt (Nat.lt_of_lt_of_le (Heap.lt_size h) hCle),fun z=>?_,.inl hb,fun y c e=>(hf b hb).2.2.2.2.1 y c (O.cls y c e),fun p hp=>?_⟩
  . rcases Zp.mp (I.stkSub b z) with e | e
    . exact (hf b hb).2.1 e
    . exact (hf b hb).2.2.1 e
  . rcases Zo.mp hp with q | q
    . exact (hf b hb).2.2.2.2.2 p q
    . exact hpl p q b hb
 have loop:∀ s₃:Shared,s₃={ s₂ with heap:=h₁,toks:=s₂.toks+([]:List (Str×Value)).length } ->
  codeAny (model X.prog X.w) X.A (.compLoop (.ListComp elt [⟨.Name x px,iter,[],0⟩] scope pos) 0 (.ref it) (.ref s₂.heap.objs.size) (compEnvC scope cl C X.env)) (RR (.ref s₂.heap.objs.size) C) s₃:=by
  rintro s₃ rfl
  refine lb (fun n s=>∃ (i:Nat) (σ':L2.St) (H':Hp) (vs:List V) (o:Option D),n=ds.length - i/\i<=ds.length/\L2.Inv (cG X scope cl x N C s₂ H₂ fp (X.pn++pins)) [] σ' H' s/\Same H₂ H'/\RepS X.K H' σ' (o :: bz js δ)/\tn i s.heap/\(∀ b∈fp,H' b=none) /\
   (∃ (its:List Value) (k:Nat),Vals vs its/\s.heap.get? s₂.heap.objs.size=some { cls:=.type "list",data:=.seq its.toArray k })/\H' s₂.heap.objs.size=none/\Reps X.K H' vs (xs.take i)/\vs.length=i) ?_ ds.length
   ⟨0,_,H₂,[],none,rfl,Nat.zero_le _,I0 _,Same.refl _,lx R js,T.keep 0 _ _ st (fun b hb o e=>old b o e),fun b hb=>(hf b hb).1,⟨[],0,.nil,hacc⟩,I.hok.fresh hDle,.nil,rfl⟩
  rintro n s ⟨i,σ',H',vs,o,rfl,hi,I',sm,R',st',fr',⟨its,k,rv,hD⟩,fD,rr,hl⟩
  by_cases hlt:i < ds.length
  . -- one more
    obtain ⟨go,yl⟩:=(itd i H' sm).1 hlt
    have hd0:ds[i]? = some ds[i]:=by simp [hlt]
    obtain ⟨e,ge,xe⟩:=mg' i _ hd0
    have I1:L2.Inv (cG X scope cl x N C s₂ H₂ fp (X.pn++pins)) [(s₂.heap.objs.size,{ cls:=.type "list",data:=.seq its.toArray k })] σ' H' s:=I'.pins_of fun p hp=>by
     have:p=(s₂.heap.objs.size,{ cls:=.type "list",data:=.seq its.toArray k }):=by simpa using hp
     subst this
     exact ⟨hD,fD,hDC,dstk,fun v z=>by cases z⟩
    refine thn (T.item (cG X scope cl x N C s₂ H₂ fp (X.pn++pins)) rfl rfl rfl rfl i _ s σ' H' (fun _ _=>False) I1 (stat fr' fun p hp b hb=>by
     have:p=(s₂.heap.objs.size,{ cls:=.type "list",data:=.seq its.toArray k }):=by simpa using hp
     subst this
     exact (fne b hb).symm) st' go) fun r s1 ⟨u,hr,h4⟩=>?_
    subst hr
    refine thn h4 fun _ s2 ⟨y,H'',I2,ru,yy,st2,fr2⟩=>?_
    obtain ⟨s3,d,hd,rd⟩:=yl y H'' yy
    have hd':d=ds[i]:=by rw [hd0] at hd;exact (Option.some.inj hd).symm
    subst hd'
    have I3:=I2.pinned (stat fr2 fun p hp b hb=>by
     have:p=(s₂.heap.objs.size,{ cls:=.type "list",data:=.seq its.toArray k }):=by simpa using hp
     subst this
     exact (fne b hb).symm) (T.obj _ _ st2)
    refine thn (jH (X:=cG X scope cl x N C s₂ H₂ fp (X.pn++pins)) (i:=0) O.nd O.h0 (.inl (lookup_relabel_local O.hx)) (.inl (by simp)) _ s2 σ' H'' y u (fun σ4 H4=>σ4=σ'.set 0 (some y)/\H4=H'') I3 ru ⟨rfl,rfl⟩) fun _ s4 ⟨σ4,H4,I4,e1,e2⟩=>?_
    subst e1 e2
    have R4:RepS X.K H4 (σ'.set 0 (some y)) (some ds[i] :: bz js δ):=(R'.mono s3).set 0 rd
    refine thn (he C s₂ H₂ fp (X.pn++pins) _ s4 (σ'.set 0 (some y)) H4 (fun v H5=>Same H4 H5/\Rep X.K H5 v e) I4 ⟨_,e,R4,ge,fun v H5 s5 r5=>⟨s5,r5⟩⟩) fun wv s5 ⟨v,H5,I5,rw5,s45,r5⟩=>?_
    have hD5:s5.heap.get? s₂.heap.objs.size=some { cls:=.type "list",data:=.seq its.toArray k }:=(I5.pin (s₂.heap.objs.size,{ cls:=.type "list",data:=.seq its.toArray k }) (by simp)).1
    have fD5:H5 s₂.heap.objs.size=none:=(I5.pin (s₂.heap.objs.size,{ cls:=.type "list",data:=.seq its.toArray k }) (by simp)).2.1
    have pf:∀ b∈fp,∀ ob,s2.heap.get? b=some ob->s5.heap.get? b=some ob/\H5 b=none:=fun b hb ob hob=>by
     have:=I5.pin (b,ob) (List.mem_append_right _ (List.mem_append_right _ (fL hb hob)))
     exact ⟨this.1,this.2.1⟩
    have lz:its.length<=1000:=by
     have:=rv.length
     omega
    refine call_meets F.slot_list_append ⟨_,hD5,rfl⟩ F.entry_list_append (F.args_list_append_2 _ _) (PySem.list_append s₂.heap.objs.size its.toArray k wv (by rw [List.size_toArray];exact dL lz)) ⟨hD5,?_⟩
    have q:=PySem.IsL.update hD5 (fun a=>a.push wv)
    have I6:L2.Inv (cG X scope cl x N C s₂ H₂ fp (X.pn++pins)) [] (σ'.set 0 (some y)) H5 { s5 with heap:=s5.heap.update s₂.heap.objs.size (Obj.mapSeq fun a=>a.push wv),toks:=s5.toks } :=
     (I5.pins_of (pins':=[]) fun p hp=>by simp at hp).turned (it:=s₂.heap.objs.size) (t':=s5.toks) (fun b ob hb hu=>(Heap.get?_update_other s5.heap _ (Ne.symm hb)).trans hu) fD5 hDC (.inr hDle) cne (fun p hp=>by
      rcases Zo.mp hp with z | z
      . exact pne p z
      . simp at z)
    refine ⟨ds.length - (i+1),by omega,i+1,σ'.set 0 (some y),H5,vs++[v],some ds[i],rfl,hlt,I6,(sm.trans s3).trans s45,R4.mono s45,?_,?_,?_,fD5,?_,by simp [hl]⟩
    . refine T.keep _ _ _ st2 fun b hb ob hob=>?_
      exact (Heap.get?_update_other s5.heap _ (Ne.symm (fne b hb))).trans (pf b hb ob hob).1
    . intro b hb
      obtain ⟨ob,hob,_⟩:=T.obj _ _ st2 b hb
      exact (pf b hb ob hob).2
    . have hf7:its.toArray.push wv=(its++[wv]).toArray:=by simp
      rw [hf7] at q
      exact ⟨its++[wv],_,rv.append (.cons rw5 .nil),q⟩
    . have e8:xs.take (i+1)=xs.take i++[e]:=by
       rw [List.take_add_one,xe];rfl
      rw [e8]
      exact ((rr.mono s3).mono s45).append (.cons r5 .nil)
  . -- the end
    have hie:i=ds.length:=by omega
    refine thn (T.done (cG X scope cl x N C s₂ H₂ fp (X.pn++pins)) rfl rfl rfl rfl i [(s₂.heap.objs.size,{ cls:=.type "list",data:=.seq its.toArray k })] s σ' H' (fun _ _=>False) (I'.pins_of fun p hp=>by
     have:p=(s₂.heap.objs.size,{ cls:=.type "list",data:=.seq its.toArray k }):=by simpa using hp
     subst this
     exact ⟨hD,fD,hDC,dstk,fun v z=>by cases z⟩) (stat fr' fun p hp b hb=>by
     have:p=(s₂.heap.objs.size,{ cls:=.type "list",data:=.seq its.toArray k }):=by simpa using hp
     subst this
     exact (fne b hb).symm) st' ((itd i H' sm).2 (by omega))) fun r s1 ⟨hr,I8⟩=>?_
    subst hr
    have hD8:s1.heap.get? s₂.heap.objs.size=some { cls:=.type "list",data:=.seq its.toArray k }:=(I8.pin (s₂.heap.objs.size,{ cls:=.type "list",data:=.seq its.toArray k }) (by simp)).1
    have hxs:xs.take i=xs:=List.take_of_length_le (by omega)
    rw [hxs] at rr
    have sn:=df fD (.lst vs)
    have dn:∀ b,∀ u,H' b=some u->b ≠ s₂.heap.objs.size:=fun b u z=>c5 z fD
    have un:Un (frs X.stack) fp H₂ (upd H' s₂.heap.objs.size (.lst vs)) s₂.heap s1.heap:=by
     have b0:=I8.base
     refine ⟨fun b ob e n1 n2 n3=>b0.keep b ob e n1 n2 n3,fun b ob e n1 n2 n3=>b0.slot b ob e n1 n2 n3,fun b ob e n1 n3=>?_,fun b ob e n3=>b0.there b ob e n3,fun b zs e=>?_,fun b ob u e=>?_,fun b ps e=>?_⟩
     . rw [aB (Nat.ne_of_lt (Heap.lt_size e))]
       exact b0.free b ob e n1 n3
     . have z:=b0.tups b zs e
       rw [aB (dn _ _ z)]
       exact z
     . have z:=b0.frzs b ob u e
       rw [aB (dn _ _ z)]
       exact z
     . obtain ⟨more,z⟩:=b0.tbls b ps e
       exact ⟨more,by rw [aB (dn _ _ z)];exact z⟩
    have hok:HOk X.prog X.w (upd H' s₂.heap.objs.size (.lst vs)) s1.heap:=fun b u z=>by
     by_cases hb:b=s₂.heap.objs.size
     . rw [hb] at z ⊢
       rw [aX] at z
       cases z
       exact ⟨dL (by omega),its,k,rv,hD8⟩
     . rw [aB hb] at z
       exact (I8.hok b u z).stay (fun _ _ _ q=>q) (fun c q=>by rw [aB (dn _ _ q)];exact q) fun c ys q=>by rw [aB (dn _ _ q)];exact q
    have IX:L2.Inv X pins σ (upd H' s₂.heap.objs.size (.lst vs)) s1:=I.call' I8.os un hok I8.bare fun b hb=>⟨(hf b hb).2.2.2.1,(hf b hb).2.1,(hf b hb).2.2.2.2.1,(hf b hb).2.2.2.2.2⟩
    obtain ⟨m8,hn8,_⟩:=I8.loc
    refine hRR s₂.heap.objs.size C s1 _ vs hCle IX (sm.trans sn) aX (rr.mono sn) ⟨m8,hn8⟩ ?_
    rw [aB (Ne.symm hDC)]
    exact I8.free
 exact codeAny_compStart_list (loop _ rfl) (T.self X.A 0 _ _ _ (T.keep 0 _ _ st (fun b hb o e=>old b o e)) (loop _ rfl))
theorem lK {C:Addr} {h':Heap} {s':Shared} {Hend:Hp} (I:L2.Inv X pins σ Hend s') (I0:L2.Inv X pins σ H₂ s₂) (hC:s₂.heap.objs.size<=C) (fC:Hend C=none) (hs:Heap.SameBut C s'.heap h'):L2.Inv X pins σ Hend { s' with heap:=h' } :=
 I.turned (it:=C) (t':=s'.toks) (fun b o hb e=>(hs.2 b hb).trans e) fC (Nat.ne_of_gt (Nat.lt_of_lt_of_le I0.lt hC)) (.inr (Nat.le_trans I0.sz hC))
  (fun y c e z=>by
   obtain ⟨v,o,h1,_⟩:=I0.cell y c e
   exact absurd (Nat.lt_of_lt_of_le (Heap.lt_size h1) (by rw [z];exact hC)) (Nat.lt_irrefl _))
  (fun p hp z=>absurd (Nat.lt_of_lt_of_le (Heap.lt_size (I0.pin p hp).1) (by rw [z];exact hC)) (Nat.lt_irrefl _))
theorem vF {elt iter:Expr} {px pos:Pos} {src:FA} {felt:FD} (hi:PID X (.Name x px) iter src) {N:List Str} {js:List Nat} (he:∀ C s₂ H₂ fp pn,PD (cG X scope cl x N C s₂ H₂ fp pn) elt felt) (O:CompOk X scope cl x N js) (hcm:X.calm=true:=by rfl)
 (hs:∀ v,foldedSetIterable iter X.env v=pure v:=by intro _;rfl):PD X (.ListComp elt [⟨.Name x px,iter,[],0⟩] scope pos) (wg src js felt):=by
 intro pins s σ H Q I ⟨δ,d,R,q,k⟩
 unfold wg at q
 obtain ⟨ds,eds,q⟩:=Za.mp q
 obtain ⟨xs,exs,q⟩:=Za.mp q
 by_cases hz:xs.length<=1000
 . rw [if_pos hz] at q
   cases q
   rw [eval_ListComp]
   refine wpAny_comprehension_free (use:=none) rfl hs O.clos O.kind O.names ?_
   refine wpAny_mono (hi pins s σ H (fun J H1=>Same H H1/\ItD X.K J H1 ds) I ⟨δ,ds,R,eds,fun J H1 s1 itd=>⟨s1,itd⟩⟩) (fun v s1 h1=>wpAny_mono h1 (fun itv s2 h2=>?_) fun _ _ z=>z) fun _ _ z=>z
   obtain ⟨it,fp,tn,J,H2,rfl,I2,T,st,hf,s1,itd⟩:=h2
   refine uT (RR:=fun acc C=>compPost (model X.prog X.w) X.A X.xe none (EP X pins σ Q) acc C) I2 hcm O T st hf itd (R.mono s1) he exs hz ?_
   intro D C s' Hend vs hC IX sm hD rr ⟨m,hn⟩ fC
   exact ⟨m,hn,fun h' hs'=>⟨.ref D,Hend,lK IX I2 hC fC hs',rfl,k _ _ (s1.trans sm) (.lst hD rr)⟩⟩
 . rw [if_neg hz] at q;cases q
end
end Dl
namespace Dl
open PySem PySem.Spec PyProof.Rows L2
theorem CompOk.one {X:Cx} {scope:Scope} {c:Addr} {x z:Str} {j:Nat} (clos:closureFor scope X.env=pure [(z,c)]:=by rfl) (nocell:∀ y∈scope.names,y.2 ≠ .cell:=by decide +kernel) (kind:scope.kind=.function:=by rfl)
 (names:∀ y∈scope.names,y.2=.local->scope.names.lookup y.1=some .local:=by decide +kernel) (hx:scope.names.lookup x=some .local:=by rfl) (hne:x ≠ z:=by decide +kernel) (hcell:X.env.cells.lookup z=some c:=by rfl)
 (hfr:∀ p∈scope.names,p.2=.free->p.1=z:=by decide +kernel) (hj:X.N[j]? = some z:=by rfl) (hk:X.env.scope.names.lookup z=some .cell:=by rfl) (hk':(relabel scope X.env).names.lookup z=some .cell:=by rfl):CompOk X scope [(z,c)] x [x,z] [j] where
 clos:=clos
 nocell:=nocell
 kind:=kind
 names:=names
 hx:=hx
 nd:=by simp [hne]
 h0:=rfl
 len:=rfl
 clx:=by
  show List.lookup x [(z,c)]=none
  have q:(x == z)=false:=beq_eq_false_iff_ne.mpr hne
  rw [List.lookup_cons,q]
  rfl
 cls:=fun y a h=>by
  have h':List.lookup y [(z,c)]=some a:=h
  by_cases hy:y=z
  . subst hy
    simp at h'
    subst h'
    exact hcell
  . have q:(y == z)=false:=beq_eq_false_iff_ne.mpr hy
    rw [List.lookup_cons,q] at h'
    cases h'
 has:=fun y h=>by
  have key:∀ k,(k=NameKind.cell \/ k=NameKind.free)->(relabel scope X.env).names.lookup y=some k->y=z:=fun k hk h=>by
   have m:=PySem.mem_of_lookup h
   unfold relabel at m
   obtain ⟨⟨n,k'⟩,m1,m2⟩:=Zm.mp m
   dsimp only at m2
   have hk1:k'=NameKind.free:=by
    split at m2
    . rename_i hc
      rw [Bool.and_eq_true,Bool.and_eq_true] at hc
      exact beq_iff_eq.mp hc.1.1
    . have e:k'=k:=congrArg Prod.snd m2
      rcases hk with z1 | z1
      . exact absurd (e.trans z1) (nocell _ m1)
      . exact e.trans z1
   have hn:n=y:=by split at m2 <;> exact congrArg Prod.fst m2
   rw [<- hn]
   exact hfr _ m1 hk1
  have e:y=z:=by
   rcases h with h | h
   . exact key _ (.inl rfl) h
   . exact key _ (.inr rfl) h
  subst e
  exact ⟨c,by simp⟩
 fr:=fun i y k h1 h2=>by
  cases i with
  | zero =>
   have e1:z=y:=Option.some.inj h1
   have e2:j=k:=Option.some.inj h2
   subst e1 e2
   refine ⟨hj,hk,hk',fun a ha=>?_⟩
   rw [hcell] at ha
   cases ha
   simp
  | succ i=>cases h2
end Dl
namespace Dl
open PySem PySem.Spec PyProof.Rows L2
end Dl
namespace Dl
open PySem PySem.Spec PyProof.Rows L2
section
variable {P:Program} {w:World} {K:PySem.W.Frag} {mg:Str->Option Value} {base:Heap}
end
section
variable {X:Cx} {a b:Expr} {fa fb:FD} {pos:Pos}
end
end Dl
namespace Dl
open PySem PySem.Spec PyProof.Rows L2
section
variable {X:Cx} {pins:List (Addr×Obj)} {σ:L2.St} {H H₀ H':Hp} {s s':Shared} {B:Heap} {x C t:Addr}
end
section
variable {X:Cx} {pins:List (Addr×Obj)} {σ:L2.St} {H:Hp} {s:Shared} {h':Heap}
end
end Dl
namespace Dl
open PySem PySem.Spec PyProof.Rows L2
mutual
def imm:D->Bool
 | .tup ds=>cn ds
 | .lst _=>false
 | .seq _=>false
 | .ms _ _=>false
 | .mf _ _=>false
 | .md _ _=>false
 | _=>true
def cn:List D->Bool
 | []=>true
 | d :: ds=>imm d && cn ds
end
mutual
def own:D->Bool
 | .tup ds=>gF ds
 | .lst ds=>gF ds
 | .seq _=>false
 | .ms _ _=>false
 | .mf _ _=>false
 | _=>true
def gF:List D->Bool
 | []=>true
 | d :: ds=>own d && gF ds
end
mutual
def sh:D->D
 | .tup ds=>.tup (shs ds)
 | .lst ds=>.seq (shs ds)
 | .seq ds=>.seq (shs ds)
 | .ms ks ds=>.ms ks (shs ds)
 | .mf ks ds=>.mf ks (shs ds)
 | .md ks ds=>.ms ks (shs ds)
 | d=>d
def shs:List D->List D
 | []=>[]
 | d :: ds=>sh d :: shs ds
end
theorem dW:∀ (ds:List D),shs ds=ds.map sh
 | []=>rfl
 | d :: ds=>by rw [shs,dW ds];rfl
mutual
theorem Bu:∀ {d:D},imm d=true->sh d=d
 | .non,_=>rfl
 | .bl _,_=>rfl
 | .int _,_=>rfl
 | .str _,_=>rfl
 | .ty _,_=>rfl
 | .dct,_=>rfl
 | .exc _,_=>rfl
 | .cls _,_=>rfl
 | .ms _ _,h=>by rw [imm] at h;cases h
 | .mf _ _,h=>by rw [imm] at h;cases h
 | .md _ _,h=>by rw [imm] at h;cases h
 | .tup ds,h=>by rw [sh,qA (by rw [imm] at h;exact h)]
 | .lst _,h=>by rw [imm] at h;cases h
 | .seq _,h=>by rw [imm] at h;cases h
theorem qA:∀ {ds:List D},cn ds=true->shs ds=ds
 | [],_=>rfl
 | d :: ds,h=>by
  rw [cn,Bool.and_eq_true] at h
  rw [shs,Bu h.1,qA h.2]
end
mutual
theorem AT:∀ (d:D),sh (sh d)=sh d
 | .non=>rfl
 | .bl _=>rfl
 | .int _=>rfl
 | .str _=>rfl
 | .ty _=>rfl
 | .dct=>rfl
 | .exc _=>rfl
 | .cls _=>rfl
 | .ms ks ds=>by rw [sh,sh,iH ds]
 | .mf ks ds=>by rw [sh,sh,iH ds]
 | .md ks ds=>by rw [sh,sh,iH ds]
 | .tup ds=>by rw [sh,sh,iH ds]
 | .lst ds=>by rw [sh,sh,iH ds]
 | .seq ds=>by rw [sh,sh,iH ds]
theorem iH:∀ (ds:List D),shs (shs ds)=shs ds
 | []=>rfl
 | d :: ds=>by rw [shs,shs,AT d,iH ds]
end
def mtb:HO->Bool
 | .lst _=>true
 | .dK _=>true
 | .frz _ (.dK _)=>true
 | _=>false
abbrev MO:={u:HO // mtb u=true}
def fI (H H':Hp):Prop:=∀ a u,H a=some u->mtb u=false->H' a=some u
theorem bZ {H H':Hp} (s:Same H H'):fI H H':=fun a u e _=>s a u e
theorem iF {H:Hp} {a:Addr} {u:HO} {o:HO} (h:H a=some u) (m:mtb u=true):fI H (upd H a o):=fun b w e n=>by
 by_cases hb:b=a
 . subst hb;rw [h] at e;cases e;rw [m] at n;cases n
 . rw [aB hb];exact e
theorem jt {H:Hp} {a:Addr} {vs:List V} {o:HO} (h:H a=some (.lst vs)):fI H (upd H a o):=iF h rfl
theorem nL {K:PySem.W.Frag} {H H':Hp} {a:Addr} {xs:List V} (k:fI H H') (h:SqT K H a xs):SqT K H' a xs:=by
 rcases h with (h | ⟨o,h⟩) | h
 . exact .inl (.inl (k _ _ h rfl))
 . exact .inl (.inr ⟨o,k _ _ h rfl⟩)
 . exact .inr h
mutual
theorem jg {K:PySem.W.Frag} {H H':Hp} (k:fI H H'):∀ {v:V} {d:D},Rep K H v d->imm d=true->Rep K H' v d
 | _,_,.non,_=>.non
 | _,_,.bl b,_=>.bl b
 | _,_,.int i,_=>.int i
 | _,_,.str x,_=>.str x
 | _,_,.ty n,_=>.ty n
 | _,_,.tup h r,i=>.tup (nL k h) (eJ k r (by rw [imm] at i;exact i))
 | _,_,.lst h r,i=>by rw [imm] at i;cases i
 | _,_,.seq h r,i=>by rw [imm] at i;cases i
 | _,_,.dct h,_=>.dct (k _ _ h rfl)
 | _,_,.exc h,_=>.exc (k _ _ h rfl)
 | _,_,.cls C,_=>.cls C
 | _,_,.ms h l r,i=>by rw [imm] at i;cases i
 | _,_,.mf h l r,i=>by rw [imm] at i;cases i
 | _,_,.md h l r,i=>by rw [imm] at i;cases i
theorem eJ {K:PySem.W.Frag} {H H':Hp} (k:fI H H'):∀ {vs:List V} {ds:List D},Reps K H vs ds->cn ds=true->Reps K H' vs ds
 | _,_,.nil,_=>.nil
 | _,_,.cons r t,i=>by
  rw [cn,Bool.and_eq_true] at i
  exact .cons (jg k r i.1) (eJ k t i.2)
end
mutual
theorem nW {K:PySem.W.Frag} {H:Hp}:∀ {v:V} {d:D},Rep K H v d->Rep K H v (sh d)
 | _,_,.non=>.non
 | _,_,.bl b=>.bl b
 | _,_,.int i=>.int i
 | _,_,.str x=>.str x
 | _,_,.ty n=>.ty n
 | _,_,.tup h r=>by rw [sh];exact .tup h (dJ r)
 | _,_,.lst h r=>by rw [sh];exact .seq (SqL.of h) (dJ r)
 | _,_,.seq h r=>by rw [sh];exact .seq h (dJ r)
 | _,_,.dct h=>.dct h
 | _,_,.exc h=>.exc h
 | _,_,.cls C=>.cls C
 | _,_,.ms h l r=>by rw [sh];exact .ms h (by rw [dW,Zi];exact l) (dJ r)
 | _,_,.mf h l r=>by rw [sh];exact .mf h (by rw [dW,Zi];exact l) (dJ r)
 | _,_,.md h l r=>by rw [sh];exact .ms (.inl h) (by rw [dW,Zi];exact l) (dJ r)
theorem dJ {K:PySem.W.Frag} {H:Hp}:∀ {vs:List V} {ds:List D},Reps K H vs ds->Reps K H vs (shs ds)
 | _,_,.nil=>.nil
 | _,_,.cons r t=>by rw [shs];exact .cons (nW r) (dJ t)
end
mutual
inductive RepO (K:PySem.W.Frag) (F H:Hp):V->D->List Addr->Prop
 | imm {v:V} {d:D} (i:imm d=true) (h:Rep K H v d):RepO K F H v d []
 | shr {v:V} {ds:List D} (h:Rep K F v (.seq ds)):RepO K F H v (.seq ds) []
 | shm {v:V} {ks:List Int} {ds:List D} (h:Rep K F v (.ms ks ds)):RepO K F H v (.ms ks ds) []
 | shf {v:V} {ks:List Int} {ds:List D} (h:Rep K F v (.mf ks ds)):RepO K F H v (.mf ks ds) []
 | tup {a:Addr} {vs:List V} {ds:List D} {A:List Addr} (h:SqT K H a vs) (r:RepOs K F H vs ds A):RepO K F H (.ref a) (.tup ds) A
 | lst {a:Addr} {vs:List V} {ds:List D} {A:List Addr} (h:H a=some (.lst vs)) (n:F a=none) (r:RepOs K F H vs ds A):RepO K F H (.ref a) (.lst ds) (a :: A)
 | md {a:Addr} {ks:List Int} {vs:List V} {ds:List D} (h:H a=some (.dK ((ks.map Sum.inl).zip vs))) (n:F a=none) (l:ks.length=ds.length) (i:cn ds=true) (r:Reps K H vs ds):RepO K F H (.ref a) (.md ks ds) [a]
inductive RepOs (K:PySem.W.Frag) (F H:Hp):List V->List D->List Addr->Prop
 | nil:RepOs K F H [] [] []
 | cons {v:V} {d:D} {vs:List V} {ds:List D} {A B C:List Addr} (r:RepO K F H v d A) (t:RepOs K F H vs ds B) (e:C=A++B):RepOs K F H (v :: vs) (d :: ds) C
end
section
variable {K:PySem.W.Frag} {F H F' H':Hp}
mutual
theorem RepO.rep (s:Same F H):∀ {v:V} {d:D} {A:List Addr},RepO K F H v d A->Rep K H v d
 | _,_,_,.imm _ h=>h
 | _,_,_,.shr h=>h.mono s
 | _,_,_,.shm h=>h.mono s
 | _,_,_,.shf h=>h.mono s
 | _,_,_,.tup h r=>.tup h (RepOs.reps s r)
 | _,_,_,.lst h _ r=>.lst h (RepOs.reps s r)
 | _,_,_,.md h _ l _ r=>.md h l r
theorem RepOs.reps (s:Same F H):∀ {vs:List V} {ds:List D} {A:List Addr},RepOs K F H vs ds A->Reps K H vs ds
 | _,_,_,.nil=>.nil
 | _,_,_,.cons r t _=>.cons (RepO.rep s r) (RepOs.reps s t)
end
mutual
theorem RepO.dom:∀ {v:V} {d:D} {A:List Addr},RepO K F H v d A->∀ a∈A,(∃ u:MO,H a=some u.1)/\F a=none
 | _,_,_,.imm _ _,_,m=>nomatch m
 | _,_,_,.shr _,_,m=>nomatch m
 | _,_,_,.shm _,_,m=>nomatch m
 | _,_,_,.shf _,_,m=>nomatch m
 | _,_,_,.tup _ r,a,m=>RepOs.dom r a m
 | _,_,_,.lst h n r,a,m=>by
  rcases Zp.mp m with e | e
  . subst e;exact ⟨⟨⟨_,rfl⟩,h⟩,n⟩
  . exact RepOs.dom r a e
 | _,_,_,.md h n _ _ _,a,m=>by
  rcases Zl.mp m with rfl
  exact ⟨⟨⟨_,rfl⟩,h⟩,n⟩
theorem RepOs.dom:∀ {vs:List V} {ds:List D} {A:List Addr},RepOs K F H vs ds A->∀ a∈A,(∃ u:MO,H a=some u.1)/\F a=none
 | _,_,_,.nil,_,m=>nomatch m
 | _,_,_,.cons r t e,a,m=>by
  subst e
  rcases Zo.mp m with z | z
  . exact RepO.dom r a z
  . exact RepOs.dom t a z
end
mutual
theorem RepO.frame (k:fI H H'):∀ {v:V} {d:D} {A:List Addr},RepO K F H v d A->(∀ a∈A,H' a=H a)->RepO K F H' v d A
 | _,_,_,.imm i h,_=>.imm i (jg k h i)
 | _,_,_,.shr h,_=>.shr h
 | _,_,_,.shm h,_=>.shm h
 | _,_,_,.shf h,_=>.shf h
 | _,_,_,.tup h r,e=>.tup (nL k h) (RepOs.frame k r e)
 | _,_,_,.lst h n r,e=>.lst ((e _ Zj).trans h) n (RepOs.frame k r fun a m=>e a (Zk _ m))
 | _,_,_,.md h n l i r,e=>.md ((e _ Zj).trans h) n l i (eJ k r i)
theorem RepOs.frame (k:fI H H'):∀ {vs:List V} {ds:List D} {A:List Addr},RepOs K F H vs ds A->(∀ a∈A,H' a=H a)->RepOs K F H' vs ds A
 | _,_,_,.nil,_=>.nil
 | _,_,_,.cons r t e,q=>by
  subst e
  exact .cons (RepO.frame k r fun a m=>q a (List.mem_append_left _ m)) (RepOs.frame k t fun a m=>q a (List.mem_append_right _ m)) rfl
end
mutual
theorem RepO.froz (s:Same F F'):∀ {v:V} {d:D} {A:List Addr},RepO K F H v d A->(∀ a∈A,F' a=none)->RepO K F' H v d A
 | _,_,_,.imm i h,_=>.imm i h
 | _,_,_,.shr h,_=>.shr (h.mono s)
 | _,_,_,.shm h,_=>.shm (h.mono s)
 | _,_,_,.shf h,_=>.shf (h.mono s)
 | _,_,_,.tup h r,e=>.tup h (RepOs.froz s r e)
 | _,_,_,.lst h n r,e=>.lst h (e _ Zj) (RepOs.froz s r fun a m=>e a (Zk _ m))
 | _,_,_,.md h n l i r,e=>.md h (e _ Zj) l i r
theorem RepOs.froz (s:Same F F'):∀ {vs:List V} {ds:List D} {A:List Addr},RepOs K F H vs ds A->(∀ a∈A,F' a=none)->RepOs K F' H vs ds A
 | _,_,_,.nil,_=>.nil
 | _,_,_,.cons r t e,q=>by
  subst e
  exact .cons (RepO.froz s r fun a m=>q a (List.mem_append_left _ m)) (RepOs.froz s t fun a m=>q a (List.mem_append_right _ m)) rfl
end
mutual
theorem RepO.thaw (s:Same F' F):∀ {v:V} {d:D} {A:List Addr},RepO K F H v d A->own d=true->RepO K F' H v d A
 | _,_,_,.imm i h,_=>.imm i h
 | _,_,_,.shr h,o=>by rw [own] at o;cases o
 | _,_,_,.shm h,o=>by rw [own] at o;cases o
 | _,_,_,.shf h,o=>by rw [own] at o;cases o
 | _,_,_,.tup h r,o=>.tup h (RepOs.thaw s r (by rw [own] at o;exact o))
 | _,_,_,.lst (a:=a) h n r,o=>.lst h (by
  cases q:F' a with
  | none=>rfl
  | some u=>rw [s a u q] at n;cases n) (RepOs.thaw s r (by rw [own] at o;exact o))
 | _,_,_,.md (a:=a) h n l i r,o=>.md h (by
  cases q:F' a with
  | none=>rfl
  | some u=>rw [s a u q] at n;cases n) l i r
theorem RepOs.thaw (s:Same F' F):∀ {vs:List V} {ds:List D} {A:List Addr},RepOs K F H vs ds A->gF ds=true->RepOs K F' H vs ds A
 | _,_,_,.nil,_=>.nil
 | _,_,_,.cons r t e,o=>by
  rw [gF,Bool.and_eq_true] at o
  exact .cons (RepO.thaw s r o.1) (RepOs.thaw s t o.2) e
end
mutual
theorem RepO.none_of:∀ {v:V} {d:D} {A:List Addr},RepO K F H v d A->imm d=true->A=[]
 | _,_,_,.imm _ _,_=>rfl
 | _,_,_,.shr _,_=>rfl
 | _,_,_,.shm _,_=>rfl
 | _,_,_,.shf _,_=>rfl
 | _,_,_,.tup _ r,i=>RepOs.none_of r (by rw [imm] at i;exact i)
 | _,_,_,.lst _ _ _,i=>by rw [imm] at i;cases i
 | _,_,_,.md _ _ _ _ _,i=>by rw [imm] at i;cases i
theorem RepOs.none_of:∀ {vs:List V} {ds:List D} {A:List Addr},RepOs K F H vs ds A->cn ds=true->A=[]
 | _,_,_,.nil,_=>rfl
 | _,_,_,.cons r t e,i=>by
  rw [cn,Bool.and_eq_true] at i
  rw [e,RepO.none_of r i.1,RepOs.none_of t i.2]
  rfl
end
theorem RepO.seq_nil {v:V} {ds:List D}:∀ {d:D} {A:List Addr},RepO K F H v d A->d=.seq ds->A=[]
 | _,_,.imm i _,e=>rfl
 | _,_,.shr _,_=>rfl
 | _,_,.shm _,_=>rfl
 | _,_,.shf _,_=>rfl
 | _,_,.tup _ _,e=>nomatch e
 | _,_,.lst _ _ _,e=>nomatch e
 | _,_,.md _ _ _ _ _,e=>nomatch e
noncomputable def frz (F H:Hp) (A:List Addr):Hp:=fun a=>match H a with
 | some u=>if mtb u=true then (if (F a).isSome=true \/ a∈A then some u else none) else some u
 | none=>none
theorem wb {A:List Addr} {a:Addr} {u:HO} (h:H a=some u) (m:a∈A):frz F H A a=some u:=by
 unfold frz;rw [h]
 show (if mtb u=true then (if (F a).isSome=true \/ a∈A then some u else none) else some u)=some u
 rw [if_pos (show (F a).isSome=true \/ a∈A from .inr m)]
 split <;> rfl
theorem tO {A:List Addr}:fI H (frz F H A):=fun a u e n=>by
 unfold frz
 rw [e]
 exact if_neg (by rw [n];exact fun z=>nomatch z)
theorem tN {A:List Addr} (s:Same F H):Same F (frz F H A):=fun a u e=>by
 have h:=s a u e
 unfold frz;rw [h]
 show (if mtb u=true then (if (F a).isSome=true \/ a∈A then some u else none) else some u)=some u
 rw [if_pos (show (F a).isSome=true \/ a∈A from .inl (by rw [e];rfl))]
 split <;> rfl
theorem zd {A:List Addr}:Same (frz F H A) H:=fun a u e=>by
 unfold frz at e
 split at e
 . rename_i w h
   rw [h]
   split at e
   . split at e
     . exact e
     . cases e
   . exact e
 . cases e
theorem rz {A:List Addr} {a:Addr} {u:MO} (h:H a=some u.1) (n:F a=none) (m:a ∉ A):frz F H A a=none:=by
 unfold frz;rw [h]
 show (if mtb u.1=true then (if (F a).isSome=true \/ a∈A then some u.1 else none) else some u.1)=none
 rw [if_pos u.2]
 refine if_neg fun z=>?_
 rcases z with z | z
 . rw [n] at z;cases z
 . exact m z
mutual
theorem RepO.freeze (s:Same F F') (k:fI H F'):∀ {v:V} {d:D} {A:List Addr},RepO K F H v d A->(∀ a u,a∈A->H a=some u->F' a=some u)->Rep K F' v (sh d)
 | _,_,_,.imm i h,_=>nW (jg k h i)
 | _,_,_,.shr h,_=>nW (h.mono s)
 | _,_,_,.shm h,_=>nW (h.mono s)
 | _,_,_,.shf h,_=>nW (h.mono s)
 | _,_,_,.tup h r,e=>by rw [sh];exact .tup (nL k h) (RepOs.freeze s k r e)
 | _,_,_,.lst h _ r,e=>by rw [sh];exact .seq (SqL.of (e _ _ Zj h)) (RepOs.freeze s k r fun a vs m=>e a vs (Zk _ m))
 | _,_,_,.md h _ l i r,e=>by rw [sh];exact .ms (.inl (e _ _ Zj h)) (by rw [dW,Zi];exact l) (dJ (eJ k r i))
theorem RepOs.freeze (s:Same F F') (k:fI H F'):∀ {vs:List V} {ds:List D} {A:List Addr},RepOs K F H vs ds A->(∀ a u,a∈A->H a=some u->F' a=some u)->Reps K F' vs (shs ds)
 | _,_,_,.nil,_=>.nil
 | _,_,_,.cons r t e,q=>by
  subst e
  rw [shs]
  exact .cons (RepO.freeze s k r fun a vs m=>q a vs (List.mem_append_left _ m)) (RepOs.freeze s k t fun a vs m=>q a vs (List.mem_append_right _ m))
end
mutual
theorem RepO.of_sh (s:Same F H):∀ {v:V} {d:D},Rep K F v d->RepO K F H v (sh d) []
 | _,_,.non=>.imm rfl .non
 | _,_,.bl b=>.imm rfl (.bl b)
 | _,_,.int i=>.imm rfl (.int i)
 | _,_,.str x=>.imm rfl (.str x)
 | _,_,.ty n=>.imm rfl (.ty n)
 | _,_,.tup h r=>by rw [sh];exact .tup (nK s h) (RepOs.of_sh s r)
 | _,_,.lst h r=>by rw [sh];exact .shr (.seq (SqL.of h) (dJ r))
 | _,_,.seq h r=>by rw [sh];exact .shr (.seq h (dJ r))
 | _,_,.dct h=>.imm rfl (.dct (s _ _ h))
 | _,_,.exc h=>.imm rfl (.exc (s _ _ h))
 | _,_,.cls C=>.imm rfl (.cls C)
 | _,_,.ms h l r=>by rw [sh];exact .shm (.ms h (by rw [dW,Zi];exact l) (dJ r))
 | _,_,.mf h l r=>by rw [sh];exact .shf (.mf h (by rw [dW,Zi];exact l) (dJ r))
 | _,_,.md h l r=>by rw [sh];exact .shm (.ms (.inl h) (by rw [dW,Zi];exact l) (dJ r))
theorem RepOs.of_sh (s:Same F H):∀ {vs:List V} {ds:List D},Reps K F vs ds->RepOs K F H vs (shs ds) []
 | _,_,.nil=>.nil
 | _,_,.cons r t=>by rw [shs];exact .cons (RepO.of_sh s r) (RepOs.of_sh s t) rfl
end
theorem RepOs.length:∀ {vs:List V} {ds:List D} {A:List Addr},RepOs K F H vs ds A->vs.length=ds.length
 | _,_,_,.nil=>rfl
 | _,_,_,.cons _ t _=>congrArg (· + 1) (RepOs.length t)
theorem RepOs.snoc:∀ {vs:List V} {ds:List D} {A B:List Addr} {v:V} {d:D},RepOs K F H vs ds A->RepO K F H v d B->RepOs K F H (vs++[v]) (ds++[d]) (A++B)
 | _,_,_,_,_,_,.nil,r=>.cons r .nil (by simp)
 | _,_,_,_,_,_,.cons q t e,r=>.cons q (RepOs.snoc t r) (by rw [e,List.append_assoc])
theorem RepOs.pick:∀ {vs:List V} {ds:List D} {A:List Addr} {i:Nat} {d:D},RepOs K F H vs ds A->ds[i]? = some d->∃ v A1 B A2,vs[i]? = some v/\RepO K F H v d B/\A=A1++(B++A2) /\
 ∀ {H':Hp} {v':V} {d':D} {B':List Addr},fI H H'->(∀ a,a∈A1 \/ a∈A2->H' a=H a)->RepO K F H' v' d' B'->RepOs K F H' (vs.set i v') (ds.set i d') (A1++(B'++A2))
 | _,_,_,_,_,.nil,e=>by simp at e
 | _,_,_,0,_,.cons (A:=A) (B:=B) r t e,q=>by
  simp at q
  subst q
  refine ⟨_,[],A,B,rfl,r,by simpa using e,fun k h r'=>?_⟩
  exact .cons r' (t.frame k fun a m=>h a (.inr m)) (by simp)
 | _,_,_,i+1,d,.cons (A:=A0) (B:=B0) r t e,q=>by
  obtain ⟨v,A1,B,A2,h1,h2,h3,h4⟩:=RepOs.pick (i:=i) (d:=d) t (by simpa using q)
  refine ⟨v,A0++A1,B,A2,by simpa using h1,h2,by rw [e,h3,List.append_assoc],fun k h r'=>?_⟩
  refine .cons (r.frame k fun a m=>h a (.inl (List.mem_append_left _ m))) (h4 k (fun a m=>h a ?_) r') (by rw [List.append_assoc])
  rcases m with m | m
  . exact .inl (List.mem_append_right _ m)
  . exact .inr m
end
end Dl
namespace Dl
open PySem PySem.Spec PyProof.Rows L2
structure RepA (K:PySem.W.Frag) (F H:Hp) (σ:L2.St) (δ:DS) (As:Nat->List Addr):Prop where
 fz:Same F H
 len:σ.length=δ.length
 val:∀ (i:Nat) (d:D),δ[i]? = some (some d)->∃ v,σ[i]? = some (some v)/\RepO K F H v d (As i)
 non:∀ (i:Nat),(∀ d,δ[i]? ≠ some (some d))->As i=[]
 nd:∀ i,(As i).Nodup
 dj:∀ i j a,i ≠ j->a∈As i->a ∉ As j
def gT (K:PySem.W.Frag) (F H:Hp) (σ:L2.St) (δ:DS):Prop:=∃ As,RepA K F H σ δ As
section
variable {K:PySem.W.Frag} {F H F' H':Hp} {σ:L2.St} {δ:DS} {As:Nat->List Addr}
theorem RepA.toS (R:RepA K F H σ δ As):RepS K H σ δ:=⟨R.len,fun i d q=>let ⟨v,h1,h2⟩:=R.val i d q;⟨v,h1,h2.rep R.fz⟩⟩
theorem RepA.dom (R:RepA K F H σ δ As) {i:Nat} {a:Addr} (m:a∈As i):(∃ u:MO,H a=some u.1)/\F a=none:=by
 by_cases h:∃ d,δ[i]? = some (some d)
 . obtain ⟨d,h⟩:=h
   obtain ⟨v,_,h2⟩:=R.val i d h
   exact h2.dom a m
 . rw [R.non i fun d z=>h ⟨d,z⟩] at m;cases m
theorem RepA.grow (R:RepA K F H σ δ As) (s:Same H H'):RepA K F H' σ δ As :=
 ⟨R.fz.trans s,R.len,fun i d q=>by
  obtain ⟨v,h1,h2⟩:=R.val i d q
  refine ⟨v,h1,h2.frame (bZ s) fun a m=>?_⟩
  obtain ⟨⟨vs,e⟩,_⟩:=h2.dom a m
  rw [e];exact s a _ e,R.non,R.nd,R.dj⟩
theorem RepA.froz (R:RepA K F H σ δ As) (s:Same F F') (s':Same F' H) (n:∀ i a,a∈As i->F' a=none):RepA K F' H σ δ As :=
 ⟨s',R.len,fun i d q=>let ⟨v,h1,h2⟩:=R.val i d q;⟨v,h1,h2.froz s (n i)⟩,R.non,R.nd,R.dj⟩
def lc (As:Nat->List Addr) (i:Nat) (A:List Addr):Nat->List Addr:=fun j=>if j=i then A else As j
theorem aL {i:Nat} {A:List Addr}:lc As i A i=A:=if_pos rfl
theorem aI {i j:Nat} {A:List Addr} (h:j ≠ i):lc As i A j=As j:=if_neg h
theorem RepA.set {v:V} {d:D} {A:List Addr} (R:RepA K F H σ δ As) (i:Nat) (hi:i < δ.length) (r:RepO K F H v d A) (nd:A.Nodup) (dj:∀ j a,j ≠ i->a∈As j->a ∉ A):RepA K F H (σ.set i (some v)) (δ.set i (some d)) (lc As i A):=by
 have hl:=R.len
 refine ⟨R.fz,by rw [List.length_set,List.length_set];exact hl,fun j e q=>?_,fun j h=>?_,fun j=>?_,fun j k a hjk m=>?_⟩
 . rw [List.getElem?_set] at q ⊢
   by_cases hj:i=j
   . subst hj
     rw [if_pos rfl,if_pos hi] at q
     rw [if_pos rfl,if_pos (by omega),aL]
     have:d=e:=by simpa using q
     subst this
     exact ⟨v,rfl,r⟩
   . rw [if_neg hj] at q ⊢
     rw [aI (Ne.symm hj)]
     exact R.val j e q
 . by_cases hj:j=i
   . subst hj
     exact absurd (by rw [List.getElem?_set,if_pos rfl,if_pos hi]) (h d)
   . rw [aI hj]
     refine R.non j fun e z=>h e ?_
     rw [List.getElem?_set_ne (Ne.symm hj)]
     exact z
 . by_cases hj:j=i
   . subst hj;rw [aL];exact nd
   . rw [aI hj];exact R.nd j
 . by_cases hj:j=i
   . subst hj
     rw [aL] at m
     rw [aI (Ne.symm hjk)]
     exact fun z=>dj k a (Ne.symm hjk) z m
   . rw [aI hj] at m
     by_cases hk:k=i
     . subst hk;rw [aL];exact dj j a hj m
     . rw [aI hk];exact R.dj j k a hjk m
theorem RepA.drop (R:RepA K F H σ δ As) (i:Nat):RepA K F H σ (δ.set i none) (lc As i []):=by
 refine ⟨R.fz,by rw [List.length_set];exact R.len,fun j e q=>?_,fun j h=>?_,fun j=>?_,fun j k a hjk m=>?_⟩
 . rw [List.getElem?_set] at q
   by_cases hj:i=j
   . subst hj;rw [if_pos rfl] at q;split at q <;> cases q
   . rw [if_neg hj] at q
     rw [aI (Ne.symm hj)]
     exact R.val j e q
 . by_cases hj:j=i
   . subst hj;rw [aL]
   . rw [aI hj]
     refine R.non j fun e z=>h e ?_
     rw [List.getElem?_set_ne (Ne.symm hj)]
     exact z
 . by_cases hj:j=i
   . subst hj;rw [aL];exact List.nodup_nil
   . rw [aI hj];exact R.nd j
 . by_cases hj:j=i
   . subst hj;rw [aL] at m;cases m
   . rw [aI hj] at m
     by_cases hk:k=i
     . subst hk;rw [aL];exact fun z=>nomatch z
     . rw [aI hk];exact R.dj j k a hjk m
theorem RepA.write {v:V} {d:D} {A:List Addr} {i:Nat} (R:RepA K F H σ δ As) (hi:i < δ.length) (hσ:σ[i]? = some (some v)) (k:fI H H') (fz:Same F H') (e:∀ j a,j ≠ i->a∈As j->H' a=H a) (r:RepO K F H' v d A) (nd:A.Nodup) (dj:∀ j a,j ≠ i->a∈As j->a ∉ A) :
 RepA K F H' σ (δ.set i (some d)) (lc As i A):=by
 refine ⟨fz,by rw [List.length_set];exact R.len,fun j e' q=>?_,fun j h=>?_,fun j=>?_,fun j k a hjk m=>?_⟩
 . rw [List.getElem?_set] at q
   by_cases hj:i=j
   . subst hj
     rw [if_pos rfl,if_pos hi] at q
     have:d=e':=by simpa using q
     subst this
     rw [aL]
     exact ⟨v,hσ,r⟩
   . rw [if_neg hj] at q
     rw [aI (Ne.symm hj)]
     obtain ⟨w,h1,h2⟩:=R.val j e' q
     exact ⟨w,h1,h2.frame k (fun a m=>e j a (Ne.symm hj) m)⟩
 . by_cases hj:j=i
   . subst hj
     exact absurd (by rw [List.getElem?_set,if_pos rfl,if_pos hi]) (h d)
   . rw [aI hj]
     refine R.non j fun e z=>h e ?_
     rw [List.getElem?_set_ne (Ne.symm hj)]
     exact z
 . by_cases hj:j=i
   . subst hj;rw [aL];exact nd
   . rw [aI hj];exact R.nd j
 . by_cases hj:j=i
   . subst hj
     rw [aL] at m
     rw [aI (Ne.symm hjk)]
     exact fun z=>dj k a (Ne.symm hjk) z m
   . rw [aI hj] at m
     by_cases hk:k=i
     . subst hk;rw [aL];exact dj j a hj m
     . rw [aI hk];exact R.dj j k a hjk m
end
abbrev FM:=DS->Option (D×DS)
abbrev FMA:=DS->Option (List D×DS)
structure Ev (F H:Hp) (As:Nat->List Addr) (F' H':Hp) (As':Nat->List Addr) (A:List Addr):Prop where
 fs:Same F F'
 hs:Same H H'
 nf:∀ a (u:MO),H a=some u.1->F a=none->(∀ i,a ∉ As i)->F' a=none
 fa:∀ i a,a∈As' i->(∃ j,a∈As j) \/ H a=none
 fA:∀ a,a∈A->(∃ j,a∈As j) \/ H a=none
 nd:A.Nodup
 dj:∀ i a,a∈As' i->a ∉ A
theorem Ev.pure {F H H':Hp} {As:Nat->List Addr} (s:Same H H'):Ev F H As F H' As [] :=
 ⟨Same.refl F,s,fun _ _ _ n _=>n,fun i _ m=>.inl ⟨i,m⟩,fun _ m=>(nomatch m),List.nodup_nil,fun _ _ _ z=>(nomatch z)⟩
theorem Ev.fresh {F H H':Hp} {As:Nat->List Addr} {A:List Addr} (s:Same H H') (h:∀ a∈A,H a=none) (nd:A.Nodup) (dom:∀ i a,a∈As i->∃ u:MO,H a=some u.1):Ev F H As F H' As A :=
 ⟨Same.refl F,s,fun _ _ _ n _=>n,fun i _ m=>.inl ⟨i,m⟩,fun a m=>.inr (h a m),nd,fun i a m z=>by
  obtain ⟨vs,e⟩:=dom i a m
  rw [h a z] at e;cases e⟩
theorem Ev.seq {F H F1 H1 F2 H2:Hp} {As As1 As2:Nat->List Addr} {A B:List Addr} (a:Ev F H As F1 H1 As1 A) (b:Ev F1 H1 As1 F2 H2 As2 B) (dA:∀ x∈A,∃ u:MO,H1 x=some u.1):Ev F H As F2 H2 As2 (A++B) where
 fs:=a.fs.trans b.fs
 hs:=a.hs.trans b.hs
 nf:=fun x vs e n h=>b.nf x vs (a.hs x _ e) (a.nf x vs e n h) fun i m=>by
  rcases a.fa i x m with ⟨j,z⟩ | z
  . exact h j z
  . rw [e] at z;cases z
 fa:=fun i x m=>by
  rcases b.fa i x m with ⟨j,z⟩ | z
  . exact a.fa j x z
  . refine .inr ?_
    cases q:H x with
    | none=>rfl
    | some u=>rw [a.hs x u q] at z;cases z
 fA:=fun x m=>by
  rcases Zo.mp m with z | z
  . exact a.fA x z
  . rcases b.fA x z with ⟨j,y⟩ | y
    . exact a.fa j x y
    . refine .inr ?_
      cases q:H x with
      | none=>rfl
      | some u=>rw [a.hs x u q] at y;cases y
 nd:=by
  refine List.nodup_append.mpr ⟨a.nd,b.nd,fun x hx y hy e=>?_⟩
  subst e
  rcases b.fA x hy with ⟨j,z⟩ | z
  . exact a.dj j x z hx
  . obtain ⟨vs,e⟩:=dA x hx
    rw [z] at e;cases e
 dj:=fun i x m z=>by
  rcases Zo.mp z with z | z
  . rcases b.fa i x m with ⟨j,y⟩ | y
    . exact a.dj j x y z
    . obtain ⟨vs,e⟩:=dA x z
      rw [y] at e;cases e
  . exact b.dj i x m z
theorem Ev.stays {K:PySem.W.Frag} {F1 H1 F2 H2:Hp} {As1 As2:Nat->List Addr} {A B:List Addr} {v:V} {d:D} (b:Ev F1 H1 As1 F2 H2 As2 B) (r:RepO K F1 H1 v d A) (dj:∀ i a,a∈As1 i->a ∉ A):RepO K F2 H2 v d A:=by
 have h1:RepO K F1 H2 v d A:=r.frame (bZ b.hs) fun a m=>by
  obtain ⟨⟨vs,e⟩,_⟩:=r.dom a m
  rw [e];exact b.hs a _ e
 refine h1.froz b.fs fun a m=>?_
 obtain ⟨⟨vs,e⟩,n⟩:=r.dom a m
 exact b.nf a vs e n fun i z=>dj i a z m
def upV (K:PySem.W.Frag) (f:FM):TE:=fun σ H Q=>∃ F δ As d δ',RepA K F H σ δ As/\f δ=some (d,δ')/\∀ v F' H' A As',Ev F H As F' H' As' A->RepA K F' H' σ δ' As'->RepO K F' H' v d A->Q v H'
def DM (K:PySem.W.Frag) (n:Nat) (f:FMA):TA:=fun σ H Q=>∃ F δ As ds δ',RepA K F H σ δ As/\f δ=some (ds,δ')/\∀ vs F' H' A As',Ev F H As F' H' As' A->RepA K F' H' σ δ' As'->RepOs K F' H' vs ds A->vs.length=n->Q vs H'
def PV (X:Cx) (e:Expr) (f:FM):Prop:=PE X e (upV X.K f)
def PVA (X:Cx) (es:List Expr) (f:FMA):Prop:=PA X es (DM X.K es.length f)
def vI (f:FD):FM:=fun δ=>(f δ).bind fun d=>if imm d then some (d,δ) else none
def bD (i:Nat):FM:=fun δ=>match δ[i]? with
 | some (some (.seq ds))=>some (.seq ds,δ)
 | some (some d)=>if imm d then some (d,δ) else some (d,δ.set i none)
 | _=>none
def nF (i:Nat):FM:=fun δ=>match δ[i]? with
 | some (some d)=>some (sh d,δ.set i (some (sh d)))
 | _=>none
def gj:FMA:=fun δ=>some ([],δ)
def cI (f:FM) (g:FMA):FMA:=fun δ=>(f δ).bind fun p=>(g p.2).bind fun q=>some (p.1 :: q.1,q.2)
def jc (g:FMA):FM:=fun δ=>(g δ).bind fun p=>some (.lst p.1,p.2)
def pq (g:FMA):FM:=fun δ=>(g δ).bind fun p=>some (.tup p.1,p.2)
def cg (G:List D->Option D) (g:FA):FM:=fun δ=>(g δ).bind fun ds=>(G ds).bind fun d=>if own d then some (d,δ) else none
def bv (K:PySem.W.Frag) (n:Nat) (G:List D->Option D):Sp:=fun vs H Q _=>vs.length=n/\∃ ds d,Reps K H vs ds/\G ds=some d/\∀ v H' A,Same H H'->RepO K H H' v d A->A.Nodup->Q v H'
section
variable {X:Cx} {e:Expr} {es:List Expr} {f:FD} {fm:FM} {g:FMA} {ga:FA} {pos p:Pos}
theorem aQ (h:PD X e f):PV X e (vI f):=imp h fun σ H Q ⟨F,δ,As,d,δ',R,q,k⟩=>by
 unfold vI at q
 obtain ⟨d0,ed,q⟩:=Za.mp q
 split at q
 . rename_i hi
   cases q
   exact ⟨δ,d,R.toS,ed,fun v H' s r=>k v F H' [] As (.pure s) (R.grow s) (.imm hi r)⟩
 . cases q
theorem bK (i:Nat) {x:Str} (hN:X.N[i]? = some x:=by rfl) (hv:Vis X.env.scope x:=by first | exact Or.inl rfl | exact Or.inr (Or.inl rfl) | exact Or.inr (Or.inr rfl)) (hd:(x == ("__debug__":Str))=false:=by decide)
 (hcd:(x == ("__classdict__":Str))=false:=by decide):PV X (.Name x pos) (bD i) :=
 imp (n9 hN hv hd hcd) fun σ H Q ⟨F,δ,As,d,δ',R,q,k⟩=>by
  unfold bD at q
  split at q
  . rename_i ds h
    cases q
    obtain ⟨v,h1,h2⟩:=R.val i _ h
    rw [h2.seq_nil rfl] at h2
    exact ⟨v,h1,k v F H [] As (.pure (Same.refl H)) R h2⟩
  . rename_i d0 _ h
    obtain ⟨v,h1,h2⟩:=R.val i _ h
    split at q
    . rename_i hi
      cases q
      have z:=h2.none_of hi
      rw [z] at h2
      exact ⟨v,h1,k v F H [] As (.pure (Same.refl H)) R h2⟩
    . cases q
      refine ⟨v,h1,k v F H (As i) (lc As i []) ⟨Same.refl F,Same.refl H,fun _ _ _ n _=>n,fun j a m=>?_,fun a m=>.inl ⟨i,m⟩,R.nd i,fun j a m=>?_⟩ (R.drop i) h2⟩
      . by_cases hj:j=i
        . subst hj;rw [aL] at m;cases m
        . rw [aI hj] at m;exact .inl ⟨j,m⟩
      . by_cases hj:j=i
        . subst hj;rw [aL] at m;cases m
        . rw [aI hj] at m;exact R.dj j i a hj m
  . cases q
theorem yb (i:Nat) {x:Str} (hN:X.N[i]? = some x:=by rfl) (hv:Vis X.env.scope x:=by first | exact Or.inl rfl | exact Or.inr (Or.inl rfl) | exact Or.inr (Or.inr rfl)) (hd:(x == ("__debug__":Str))=false:=by decide)
 (hcd:(x == ("__classdict__":Str))=false:=by decide):PV X (.Name x pos) (nF i) :=
 imp (n9 hN hv hd hcd) fun σ H Q ⟨F,δ,As,d,δ',R,q,k⟩=>by
  unfold nF at q
  split at q
  . rename_i d0 h
    cases q
    obtain ⟨v,h1,h2⟩:=R.val i _ h
    have hi:i < δ.length:=(List.getElem?_eq_some_iff.mp h).1
    have s1:=tN (A:=As i) R.fz
    have s2:Same (frz F H (As i)) H:=zd
    have z:Rep X.K (frz F H (As i)) v (sh d0):=h2.freeze s1 tO fun a vs m e=>wb e m
    have z2:RepO X.K (frz F H (As i)) H v (sh (sh d0)) []:=RepO.of_sh s2 z
    rw [AT d0] at z2
    have R1:=(R.drop i).froz s1 s2 (fun j a m=>by
     by_cases hj:j=i
     . subst hj;rw [aL] at m;cases m
     . rw [aI hj] at m
       obtain ⟨⟨vs,e⟩,n⟩:=R.dom m
       exact rz e n (R.dj j i a hj m))
    have R2:=R1.set i (by rw [List.length_set];exact hi) z2 List.nodup_nil fun _ _ _ _ z=>nomatch z
    have hσ:σ.set i (some v)=σ:=by
     refine List.ext_getElem? fun j=>?_
     rw [List.getElem?_set]
     split
     . rename_i hj;subst hj
       rw [h1,if_pos (by rw [R.len];exact hi)]
     . rfl
    rw [hσ,List.set_set] at R2
    refine ⟨v,h1,k v _ H [] _ ⟨s1,Same.refl H,fun a vs e n h=>rz e n (h i),fun j a m=>?_,fun _ m=>(nomatch m),List.nodup_nil,fun _ _ _ z=>(nomatch z)⟩ R2 z2⟩
    by_cases hj:j=i
    . subst hj;rw [aL] at m;cases m
    . rw [aI hj,aI hj] at m;exact .inl ⟨j,m⟩
  . cases q
theorem cy:PVA X [] gj:=At ka fun σ H Q ⟨F,δ,As,ds,δ',R,q,k⟩=>by
 cases q
 exact k [] F H [] As (.pure (Same.refl H)) R .nil rfl
theorem bO (ha:PV X e fm) (hr:PVA X es g) (hs:starEach (e :: es) X.env=(false,eval e X.env) :: starEach es X.env:=by rfl):PVA X (e :: es) (cI fm g):=At (gv ha hr hs) fun σ H Q ⟨F,δ,As,ds,δ',R,q,k⟩=>by
 unfold cI at q
 obtain ⟨⟨d1,δ1⟩,e1,q⟩:=Za.mp q
 obtain ⟨⟨ds2,δ2⟩,e2,q⟩:=Za.mp q
 cases q
 refine ⟨F,δ,As,d1,δ1,R,e1,fun v F1 H1 A As1 ev1 R1 r1=>⟨F1,δ1,As1,ds2,δ2,R1,e2,fun vs F2 H2 B As2 ev2 R2 r2 l=>?_⟩⟩
 exact k (v :: vs) F2 H2 (A++B) As2 (ev1.seq ev2 fun x m=>(r1.dom x m).1) R2 (.cons (ev2.stays r1 ev1.dj) r2 rfl) (congrArg (· + 1) l)
theorem nZ {x1} (h:PVA X es g) (hz:es.length<=1000:=by decide):PV X (.Tuple es x1 pos) (pq g):=imp (yp h) fun σ H Q ⟨F,δ,As,d,δ',R,q,k⟩=>by
 unfold pq at q
 obtain ⟨⟨ds,δ1⟩,e1,q⟩:=Za.mp q
 cases q
 refine ⟨F,δ,As,ds,_,R,e1,fun vs F1 H1 A As1 ev R1 r1 l=>⟨dL (by rw [l];exact hz),fun p hp=>?_⟩⟩
 have s:=df hp (.tup vs)
 have ev':Ev F H As F1 (upd H1 p (.tup vs)) As1 A:=⟨ev.fs,ev.hs.trans s,ev.nf,ev.fa,ev.fA,ev.nd,ev.dj⟩
 refine k _ F1 _ A As1 ev' (R1.grow s) (.tup (SqT.of aX) (r1.frame (bZ s) fun a m=>?_))
 obtain ⟨⟨ws,e⟩,_⟩:=r1.dom a m
 rw [e];exact s a _ e
theorem gD (h:PVA X es g) (hz:es.length<=1000:=by decide):PV X (.List es pos) (jc g):=imp (yr h) fun σ H Q ⟨F,δ,As,d,δ',R,q,k⟩=>by
 unfold jc at q
 obtain ⟨⟨ds,δ1⟩,e1,q⟩:=Za.mp q
 cases q
 refine ⟨F,δ,As,ds,_,R,e1,fun vs F1 H1 A As1 ev R1 r1 l=>⟨dL (by rw [l];exact hz),fun p hp=>?_⟩⟩
 have s:=df hp (.lst vs)
 have np:∀ {u:Hp},Same u H1->u p=none:=fun {u} su=>by
  cases q:u p with
  | none=>rfl
  | some o=>rw [su p o q] at hp;cases hp
 have ev':Ev F H As F1 (upd H1 p (.lst vs)) As1 (p :: A):=⟨ev.fs,ev.hs.trans s,ev.nf,ev.fa,fun a m=>by
  rcases Zp.mp m with z | z
  . subst z;exact .inr (np ev.hs)
  . exact ev.fA a z,List.nodup_cons.mpr ⟨fun m=>(by
    obtain ⟨⟨ws,e⟩,_⟩:=r1.dom p m
    rw [hp] at e;cases e),ev.nd⟩,fun i a m z=>by
  rcases Zp.mp z with z | z
  . subst z
    obtain ⟨⟨ws,e⟩,_⟩:=R1.dom m
    rw [hp] at e;cases e
  . exact ev.dj i a m z⟩
 refine k _ F1 _ (p :: A) As1 ev' (R1.grow s) (.lst aX (np R1.fz) (r1.frame (bZ s) fun a m=>?_))
 obtain ⟨⟨ws,e⟩,_⟩:=r1.dom a m
 rw [e];exact s a _ e
end
end Dl
namespace Dl
open PySem PySem.Spec PyProof.Rows L2
def RPM (X:Cx) (E:pp) (F:Hp):Res->Prop
 | .nx δ=>∀ σ' F' H',Same F F'->gT X.K F' H' σ' δ->E.nx σ' H'
 | .rt d=>∀ v F' H' A,Same F F'->Same F' H'->RepO X.K F' H' v d A->A.Nodup->E.rt v H'
 | .bk δ=>∀ σ' F' H',Same F F'->gT X.K F' H' σ' δ->E.bk σ' H'
 | .ct δ=>∀ σ' F' H',Same F F'->gT X.K F' H' σ' δ->E.ct σ' H'
 | .ex C δ=>∀ σ' F' H',Same F F'->gT X.K F' H' σ' δ->DJ X C σ' H'
 | .mk C δ=>∀ σ' F' H',Same F F'->gT X.K F' H' σ' δ->Bh X C σ' H'
theorem RPM.mono {X:Cx} {E:pp} {F F1:Hp} {r:Res} (s:Same F F1) (h:RPM X E F r):RPM X E F1 r:=by
 cases r with
 | nx δ=>exact fun σ' F' H' s2 R=>h σ' F' H' (s.trans s2) R
 | rt d=>exact fun v F' H' A s2=>h v F' H' A (s.trans s2)
 | bk δ=>exact fun σ' F' H' s2 R=>h σ' F' H' (s.trans s2) R
 | ct δ=>exact fun σ' F' H' s2 R=>h σ' F' H' (s.trans s2) R
 | ex C δ=>exact fun σ' F' H' s2 R=>h σ' F' H' (s.trans s2) R
 | mk C δ=>exact fun σ' F' H' s2 R=>h σ' F' H' (s.trans s2) R
def upM (X:Cx) (s:SD):TS:=fun E σ H=>∃ F δ r,gT X.K F H σ δ/\s δ=some r/\RPM X E F r
def PMD (X:Cx) (st:Stmt) (s:SD):Prop:=PS X st (upM X s)
def PMs (X:Cx) (sts:List Stmt) (s:SD):Prop:=PSs X sts (upM X s)
section
variable {K:PySem.W.Frag} {F H:Hp} {σ:L2.St} {δ:DS} {As:Nat->List Addr}
theorem RepA.setM {v:V} {d:D} {A:List Addr} (R:RepA K F H σ δ As) (i:Nat) (r:RepO K F H v d A) (nd:A.Nodup) (dj:∀ j a,a∈As j->a ∉ A):gT K F H (σ.set i (some v)) (δ.set i (some d)):=by
 by_cases hi:i < δ.length
 . exact ⟨_,R.set i hi r nd fun j a _ m=>dj j a m⟩
 . have hl:=R.len
   rw [List.set_eq_of_length_le (by omega),List.set_eq_of_length_le (by omega)]
   exact ⟨As,R⟩
end
section
variable {X:Cx} {st:Stmt} {rest:List Stmt} {s u:SD} {e:Expr} {f:FD} {fm:FM} {c:FT} {pos:Pos}
theorem c4:PMs X [] bc:=qb qL fun E σ H ⟨F,δ,r,R,e,k⟩=>by cases e;exact k σ F H (Same.refl F) R
theorem av (h1:PMD X st s) (h2:PMs X rest u):PMs X (st :: rest) (aA s u):=qb (n6 h1 h2) fun E σ H ⟨F,δ,r,R,e,k⟩=>by
 unfold aA at e
 obtain ⟨r1,e1,e⟩:=Za.mp e
 refine ⟨F,δ,r1,R,e1,?_⟩
 cases r1 with
 | nx δ'=>exact fun σ' F' H' s1 R1=>⟨F',δ',r,R1,e,k.mono s1⟩
 | rt d=>cases e;exact k
 | bk d=>cases e;exact k
 | ct d=>cases e;exact k
 | ex C d=>cases e;exact k
 | mk C d=>cases e;exact k
theorem aG (h:PMD X st s):PMs X [st] s:=qK h
theorem ym:PMD X st xX:=gS sC fun E σ H ⟨F,δ,r,R,e,k⟩=>by cases e
theorem eU {cx:Expr} {a b:List Stmt} (hc:PTD X cx c) (ha:PMs X a s) (hb:PMs X b u):PMD X (.If cx a b pos) (sIf c s u):=gS (yj hc ha hb) fun E σ H ⟨F,δ,r,⟨As,R⟩,q,k⟩=>by
 unfold sIf at q
 obtain ⟨d,ed,q⟩:=Za.mp q
 refine ⟨δ,d,R.toS,ed,fun H' s1=>?_⟩
 cases d with
 | true=>rw [if_pos rfl];exact ⟨F,δ,r,⟨As,R.grow s1⟩,q,k⟩
 | false=>rw [if_neg Bool.false_ne_true];exact ⟨F,δ,r,⟨As,R.grow s1⟩,q,k⟩
def az (i:Nat) (f:FM):SD:=fun δ=>(f δ).bind fun p=>some (.nx (p.2.set i (some p.1)))
def dO (f:FM):SD:=fun δ=>(f δ).bind fun p=>some (.rt p.1)
theorem aS (i:Nat) {x:Str} {pos':Pos} (hN:X.N.Nodup) (he:PV X e fm) (hi:X.N[i]? = some x:=by rfl) (hx:Loc X.env.scope x:=by first | exact Or.inl rfl | exact Or.inr rfl) (hs:swapsWith e (some (.Name x pos')) pos.line X.env=pure false:=by rfl) (hf:X.fn x=true \/ X.env.scope.names.lookup x=some .local:=by first | exact .inl rfl | exact .inr rfl | assumption) :
 PMD X (.Assign [.Name x pos'] e pos) (az i fm):=gS (uq hN hi hx he hs hf) fun E σ H ⟨F,δ,r,⟨As,R⟩,q,k⟩=>by
 unfold az at q
 obtain ⟨⟨d,δ'⟩,ed,q⟩:=Za.mp q
 cases q
 exact ⟨F,δ,As,d,δ',R,ed,fun v F' H' A As' ev R' r'=>k (σ.set i (some v)) F' H' ev.fs (R'.setM i r' ev.nd ev.dj)⟩
theorem bt (he:PV X e fm):PMD X (.Return (some e) pos) (dO fm):=gS (yi he) fun E σ H ⟨F,δ,r,⟨As,R⟩,q,k⟩=>by
 unfold dO at q
 obtain ⟨⟨d,δ'⟩,ed,q⟩:=Za.mp q
 cases q
 exact ⟨F,δ,As,d,δ',R,ed,fun v F' H' A As' ev R' r'=>k v F' H' A ev.fs R'.fz r' ev.nd⟩
end
def ItF (K:PySem.W.Frag) (J:It) (F:Hp) (ds:List D):Prop:=∀ i H2,Same F H2 ->
 (i < ds.length->J.go i H2/\∀ x H',J.yld i H2 x H'->H'=H2/\∃ d,ds[i]? = some d/\Rep K F x d)/\(ds.length<=i->J.stop i H2)
def DN (K:PySem.W.Frag) (src:FMA):TI:=fun σ H R=>∃ F δ As ds δ',RepA K F H σ δ As/\src δ=some (ds,δ')/\∀ J F' H1 As',Same F F'->RepA K F' H1 σ δ' As'->ItF K J F' ds->R J H1
def PIM (X:Cx) (tg iter:Expr) (src:FMA):Prop:=PI X tg iter (DN X.K src)
theorem yW {K:PySem.W.Frag} {F:Hp} {a:Addr} {vs:List V} {ds:List D} (hq:SqL K F a vs) (r:Reps K F vs ds):ItF K (Itl K a) F ds:=by
 intro i H2 s
 have hq2:=s.seq hq
 have hl:=r.length
 refine ⟨fun hi=>⟨⟨vs,vs[i],hq2,by simp [show i < vs.length by omega]⟩,fun x H' y=>?_⟩,fun hi=>⟨vs,hq2,by omega⟩⟩
 obtain ⟨e,y⟩:=y
 subst e
 obtain ⟨d,h1,h2⟩:=r.getV (y vs hq2)
 exact ⟨rfl,d,h1,h2⟩
def rX (f:FM):FMA:=fun δ=>(f δ).bind fun p=>match sh p.1 with
 | .seq ds=>some (ds,p.2)
 | _=>none
theorem yo {X:Cx} {tg l:Expr} {fm:FM} (hl:PV X l fm):PIM X tg l (rX fm):=xt (vD hl) fun σ H R ⟨F,δ,As,ds,δ',R0,e,k⟩=>by
 unfold rX at e
 obtain ⟨⟨d,δ1⟩,ed,e⟩:=Za.mp e
 dsimp only at e
 split at e
 . rename_i es hs
   cases e
   refine ⟨F,δ,As,d,_,R0,ed,fun v F1 H1 A As1 ev R1 r1=>?_⟩
   have s1:=tN (A:=A) R1.fz
   have s2:Same (frz F1 H1 A) H1:=zd
   have z:Rep X.K (frz F1 H1 A) v (sh d):=r1.freeze s1 tO fun a vs m e=>wb e m
   rw [hs] at z
   have R2:=R1.froz s1 s2 (fun j a m=>by
    obtain ⟨⟨vs,e⟩,n⟩:=R1.dom m
    exact rz e n (ev.dj j a m))
   cases z with
   | @seq p vs _ hp rp=>exact ⟨p,rfl,⟨vs,s2.seq hp⟩,k _ _ H1 As1 (ev.fs.trans s1) R2 (yW hp rp)⟩
 . cases e
theorem xq {K:PySem.W.Frag} {F:Hp} {lo:Int} {n:Nat}:ItF K (Itr lo n) F ((List.range n).map fun (i:Nat)=>D.int (lo+(i:Int)*1)):=by
 intro i H2 s
 refine ⟨fun hi=>?_,fun hi=>(show n<=i by simpa using hi)⟩
 have hi':i < n:=by simpa using hi
 refine ⟨hi',fun x H' y=>?_⟩
 obtain ⟨e,y⟩:=y
 subst e y
 refine ⟨rfl,.int (lo+(i:Int)*1),?_,by rw [Int.mul_one];exact .int _⟩
 rw [List.getElem?_map,List.getElem?_range hi']
 rfl
def dE (g:FA):FMA:=fun δ=>(g δ).bind fun ds=>(asR ds).bind fun rs=>if ds.length<=2 then some (rs,δ) else none
theorem ba {X:Cx} {tg a:Expr} {g:FA} {p pos:Pos} (hg:Gl X "range") (hm:X.mg "range" = none) (ha:PAD X [a] g) (hs:starEach [a] X.env=[(false,eval a X.env)]:=by rfl):PIM X tg (.Call (.Name "range" p) [a] [] pos) (dE g) :=
 xt (pX hg hm ha hs) fun σ H R ⟨F,δ,As,ds,δ',R0,e,k⟩=>by
 unfold dE at e
 obtain ⟨xs,exs,e⟩:=Za.mp e
 obtain ⟨rs,ers,e⟩:=Za.mp e
 split at e
 . cases e
   refine ⟨δ,xs,R0.toS,exs,fun vs H1 s1 r1 l=>?_⟩
   match xs,r1,ers with
   | [.int b],r1,e =>
    obtain ⟨v,rfl,rv⟩:=gC r1
    cases rv
    have e':(if -(2 ^ 62)<=b/\b < 2 ^ 62 then some (eT 0 b 1) else none)=some ds:=e
    by_cases hb:-(2 ^ 62)<=b/\b < 2 ^ 62
    . rw [if_pos hb] at e'
      have e2:eT 0 b 1=ds:=Option.some.inj e'
      refine ⟨b,rfl,hb.1,hb.2,k _ F H1 As (Same.refl F) (R0.grow s1) ?_⟩
      have h:=xq (K:=X.K) (F:=F) (lo:=0) (n:=b.toNat)
      have e3:((b - 0+1 - 1) / 1).toNat=b.toNat:=by congr 1;omega
      unfold eT at e2
      rw [e3] at e2
      rw [<- e2]
      exact h
    . rw [if_neg hb] at e';cases e'
   | [],r1,e=>cases r1;cases l
   | _ :: _ :: _,r1,e =>
    have:=r1.length
    rw [l] at this
    cases this
   | [.non],r1,e=>cases e
   | [.bl _],r1,e=>cases e
   | [.str _],r1,e=>cases e
   | [.tup _],r1,e=>cases e
   | [.lst _],r1,e=>cases e
   | [.seq _],r1,e=>cases e
   | [.ty _],r1,e=>cases e
   | [.dct],r1,e=>cases e
   | [.exc _],r1,e=>cases e
   | [.cls _],r1,e=>cases e
   | [.ms _ _],r1,e=>cases e
   | [.mf _ _],r1,e=>cases e
   | [.md _ _],r1,e=>cases e
 . cases e
def forM (i:Nat) (s:SD):List D->SD
 | []=>fun δ=>some (.nx δ)
 | d :: ds=>fun δ=>(s (δ.set i (some (sh d)))).bind fun r=>match r with
  | .nx δ'=>forM i s ds δ'
  | .ct δ'=>forM i s ds δ'
  | .bk δ'=>some (.nx δ')
  | .rt d=>some (.rt d)
  | .ex C δ'=>some (.ex C δ')
  | .mk C δ'=>some (.mk C δ')
def eS (src:FMA) (i:Nat) (s:SD):SD:=fun δ=>(src δ).bind fun p=>forM i s p.1 p.2
theorem du {X:Cx} {iter:Expr} {body:List Stmt} {src:FMA} {s:SD} {x:Str} {px pos:Pos} (i:Nat) (hN:X.N.Nodup) (hp:PassesOwn (model X.prog X.w) X.A X.env X.xe) (hc:X.calm=true) (hi:PIM X (.Name x px) iter src) (hb:PMs X body s)
 (hx:X.N[i]? = some x:=by rfl) (hl:Loc X.env.scope x:=by first | exact Or.inl rfl | exact Or.inr rfl) (hf:X.fn x=true \/ X.env.scope.names.lookup x=some .local:=by first | exact .inl rfl | exact .inr rfl | assumption)
 (hs:∀ x,foldedSetIterable iter X.env x=pure x:=by intro _;rfl):PMD X (.For (.Name x px) iter body [] pos) (eS src i s):=gS (ur hp hc hi (jH hN hx hl hf) hb hs) fun E σ H ⟨F,δ,r,⟨As,R⟩,e,k⟩=>by
 unfold eS at e
 obtain ⟨⟨ds,δ1⟩,eds,e⟩:=Za.mp e
 refine ⟨F,δ,As,ds,δ1,R,eds,fun J F1 H1 As1 s1 R1 it=>?_⟩
 refine ⟨fun j m σ H=>m=ds.length - j/\j<=ds.length/\∃ F2 δ,Same F1 F2/\gT X.K F2 H σ δ/\forM i s (ds.drop j) δ=some r/\RPM X E F2 r,⟨ds.length,rfl,Nat.zero_le _,F1,δ1,Same.refl _,⟨As1,R1⟩,e,k.mono s1⟩,?_⟩
 rintro j m σ H2 ⟨rfl,hjl,F2,δ2,s2,⟨As2,R2⟩,e2,k2⟩
 by_cases hlt:j < ds.length
 . obtain ⟨go,yl⟩:=(it j H2 (s2.trans R2.fz)).1 hlt
   rw [List.drop_eq_getElem_cons hlt] at e2
   obtain ⟨r4,e4,e2⟩:=Za.mp (show ((s (δ2.set i (some (sh ds[j])))).bind _)=some r from e2)
   refine .inr ⟨go,fun σ' H'=>∃ F3 δ,Same F1 F3/\gT X.K F3 H' σ' δ/\forM i s (ds.drop (j+1)) δ=some r/\RPM X E F3 r,fun σ' H' z=>⟨ds.length - (j+1),by omega,rfl,hlt,z⟩,fun y H' yy=>?_⟩
   obtain ⟨eH,d,hd,rx⟩:=yl y H' yy
   subst eH
   have hd':d=ds[j]:=by
    rw [Zs hlt] at hd
    exact (Option.some.inj hd).symm
   subst hd'
   have R3:=R2.setM i (RepO.of_sh R2.fz (rx.mono s2)) List.nodup_nil fun _ _ _ z=>nomatch z
   refine ⟨F2,δ2.set i (some (sh ds[j])),r4,R3,e4,?_⟩
   cases r4 with
   | nx δ'=>exact fun σ' F' H'' s4 R4=>⟨F',δ',s2.trans s4,R4,e2,k2.mono s4⟩
   | ct δ'=>exact fun σ' F' H'' s4 R4=>⟨F',δ',s2.trans s4,R4,e2,k2.mono s4⟩
   | bk δ'=>cases e2;exact k2
   | rt d=>cases e2;exact k2
   | ex C δ'=>cases e2;exact k2
   | mk C δ'=>cases e2;exact k2
 . have e:j=ds.length:=by omega
   subst e
   rw [List.drop_length] at e2
   cases e2
   exact .inl ⟨(it _ H2 (s2.trans R2.fz)).2 (Nat.le_refl _),k2 σ F2 H2 (Same.refl _) ⟨As2,R2⟩⟩
def aJ (n:Nat) (ds:List D):DS:=(shs ds).map some++List.replicate (n - ds.length) none
theorem nX {K:PySem.W.Frag} {H:Hp} {N:List Str} {vs:List V} {ds:List D} (r:Reps K H vs ds):gT K H H (L2.start N vs) (aJ N.length ds):=by
 have l2:(shs ds).length=ds.length:=by rw [dW,Zi]
 refine ⟨fun _=>[],Same.refl H,by unfold L2.start aJ;simp [r.length,l2],fun i d q=>?_,fun _ _=>rfl,fun _=>List.nodup_nil,fun _ _ _ _ m=>nomatch m⟩
 unfold aJ at q
 unfold L2.start
 have hi:i < ds.length:=by
  by_cases hi:i < ds.length
  . exact hi
  . rw [List.getElem?_append_right (by simpa [l2] using hi),List.getElem?_replicate] at q
    split at q <;> cases q
 rw [List.getElem?_append_left (by simpa [l2] using hi),List.getElem?_map] at q
 obtain ⟨e,h1,h2⟩:=Zb.mp q
 cases h2
 rw [dW,List.getElem?_map] at h1
 obtain ⟨d0,h3,h4⟩:=Zb.mp h1
 subst h4
 obtain ⟨v,h5,h6⟩:=r.get h3
 have hv:i < vs.length:=by rw [r.length];exact hi
 exact ⟨v,by rw [List.getElem?_append_left (by simpa using hv),List.getElem?_map,h5];rfl,RepO.of_sh (Same.refl H) h6⟩
section
variable {P:Program} {w:World} {K:PySem.W.Frag} {mg:Str->Option Value} {base:Heap}
theorem bu {x qual:Str} {st:Stmt} {f:Addr} {fd:FuncData} {N ps:List Str} {k:Nat} {G:List D->Option D} (F:Fun K x qual st f fd) (S:aD N ps (al st))
 (hbody:∀ (cdv:Value) (A:Around) (outer:List Env) (s:Shared) (H:Hp) (E:XK) (ds:List D) (d:D),Room k (A.deeper (envOfC qual (al st) s.heap.objs.size f cdv))->G ds=some d->ds.length=ps.length ->
  ∃ t,PMs (oS CX0 P w K mg base N qual (al st) f cdv A outer s H E).nox (bM st) t/\aF (t (aJ N.length ds))=some d/\own d=true):FnOk P w K mg base CX0 (k+1) f fd ps (bv K ps.length G):=by
 refine F.ok S (fun vs H Q E h=>h.1) (fun cdv A outer s H vs Q E hr h=>?_)
 obtain ⟨hl,ds,d,r,e,q⟩:=h
 obtain ⟨t,ht,hq,ho⟩:=hbody cdv A outer s H E ds d hr e (r.length.symm.trans hl)
 refine ⟨_,ht,H,aJ N.length ds,?_⟩
 cases z:t (aJ N.length ds) with
 | none=>rw [z] at hq;cases hq
 | some res =>
  rw [z] at hq
  refine ⟨res,nX r,rfl,?_⟩
  cases res with
  | rt d'=>cases hq;exact fun v F' H' A s1 s2 r1 nd=>q v H' A (s1.trans s2) (r1.thaw s1 ho) nd
  | nx δ=>cases hq;exact fun σ' F' H' s1 ⟨As,R⟩=>q _ H' [] (s1.trans R.fz) (.imm rfl .non) List.nodup_nil
  | bk δ=>cases hq
  | ct δ=>cases hq
  | ex C δ=>cases hq
  | mk C δ=>cases hq
structure HasF (P:Program) (w:World) (K:PySem.W.Frag) (mg:Str->Option Value) (base:Heap) (k:Nat) (x:Str) (ps:List Str) (G:List D->Option D):Prop where
 ex:∃ f fd,FnOk P w K mg base CX0 k f fd ps (bv K ps.length G)/\mg x=some (.ref f)/\PySem.W.keepIn K (.ref f)=true/\Binds K fd ps []
theorem HasF.has {k:Nat} {x:Str} {ps:List Str} {G:List D->Option D} (h:HasF P w K mg base k x ps G):Has P w K mg base k x ps G:=by
 obtain ⟨f,fd,F,h1,h2,h3⟩:=h.ex
 refine ⟨f,fd,F.imp fun vs H Q E ⟨l,ds,d,r,e,q⟩=>⟨l,ds,d,r,e,fun v H' A s r1 _=>q v H' s (r1.rep s)⟩,h1,h2,h3⟩
theorem Ao {x qual q:Str} {st:Stmt} {f:Addr} {fd:FuncData} {N:List Str} {k:Nat} (F:Fun K x qual st f fd) (S:aD N [q] (al st))
 (hbody:∀ (cdv:Value) (A:Around) (outer:List Env) (s:Shared) (H:Hp) (E:XK) (ns:List Int),Room k (A.deeper (envOfC qual (al st) s.heap.objs.size f cdv))->ns.length<=63 ->
  ∃ t,PMs (oS CX0 P w K mg base N qual (al st) f cdv A outer s H E).nox (bM st) t/\aF (t (aJ N.length [.seq (ns.map D.int)]))=some (.bl true)):FnOk P w K mg base CX0 (k+1) f fd [q] (spLaw K):=by
 refine F.ok S (fun vs H Q E h=>?_) (fun cdv A outer s H vs Q E hr h=>?_)
 . obtain ⟨a,ns,rfl,_⟩:=h
   rfl
 obtain ⟨a,ns,rfl,hS,hl,q⟩:=h
 obtain ⟨t,ht,hq⟩:=hbody cdv A outer s H E ns hr hl
 refine ⟨_,ht,H,aJ N.length [.seq (ns.map D.int)],?_⟩
 cases z:t (aJ N.length [.seq (ns.map D.int)]) with
 | none=>rw [z] at hq;cases hq
 | some res =>
  rw [z] at hq
  refine ⟨res,nX (.cons (.seq hS (Reps.ints ns)) .nil),rfl,?_⟩
  cases res with
  | rt d' =>
   cases hq
   intro v F' H' A s1 s2 r1 nd
   cases r1.rep s2
   exact q H'
  | nx δ=>cases hq
  | bk δ=>cases hq
  | ct δ=>cases hq
  | ex C δ=>cases hq
  | mk C δ=>cases hq
end
theorem bR {X:Cx} {e:Expr} {es:List Expr} {g:FA} {pos p:Pos} {k j:Nat} {x:Str} {ps:List Str} {G:List D->Option D} (F:HasF X.prog X.w X.K X.mg X.base k x ps G) (hr:Room j X.A) (ha:PAD X (e :: es) g) (hk:k<=j:=by decide) (hg:Gl X x:=by rfl)
 (hn:(e :: es).length=ps.length:=by rfl) (hdb:(x == ("__debug__":Str))=false:=by decide) (he:starEach (e :: es) X.env=(false,eval e X.env) :: starEach es X.env:=by rfl) (hpl:(backTo pos (starEach es X.env)).any (·.1)=false:=by rfl) :
 PV X (.Call (.Name x p) (e :: es) [] pos) (cg G g):=by
 obtain ⟨f,fd,F,hm,kp,hb⟩:=F.ex
 refine imp (mY F (hr.mono hk) hg hm kp hb .nil vG ha hdb he hpl) fun σ H Q ⟨F0,δ,As,d,δ',R,q,k⟩=>?_
 unfold cg at q
 obtain ⟨ds,eds,q⟩:=Za.mp q
 obtain ⟨d0,ed,q⟩:=Za.mp q
 split at q
 . rename_i ho
   cases q
   refine ⟨δ,ds,R.toS,eds,fun vs H1 s1 r1 l=>?_⟩
   show bv X.K ps.length G (vs++[]) H1 Q E0
   rw [List.append_nil]
   refine ⟨l.trans hn,ds,d,r1,ed,fun v H' A s2 r2 nd=>?_⟩
   have nA:∀ a∈A,H a=none:=fun a m=>by
    cases z:H a with
    | none=>rfl
    | some u=>have:=(r2.dom a m).2;rw [s1 a u z] at this;cases this
   exact k v F0 H' A As (.fresh (s1.trans s2) nA nd fun i a m=>(R.dom m).1) (R.grow (s1.trans s2)) (r2.thaw (R.fz.trans s1) ho)
 . cases q
end Dl
namespace Dl
open PySem PySem.Spec PyProof.Rows L2
section
variable {K:PySem.W.Frag} {F H:Hp} {σ:L2.St} {δ:DS} {As:Nat->List Addr}
theorem RepO.lst_inv {ds:List D}:∀ {v:V} {d:D} {A:List Addr},RepO K F H v d A->d=.lst ds->∃ a vs A0,v=.ref a/\A=a :: A0/\H a=some (.lst vs)/\F a=none/\RepOs K F H vs ds A0
 | _,_,_,.imm i _,e=>by subst e;rw [Dl.imm] at i;cases i
 | _,_,_,.shr _,e=>nomatch e
 | _,_,_,.tup _ _,e=>nomatch e
 | _,_,_,.lst h n r,e=>by cases e;exact ⟨_,_,_,rfl,rfl,h,n,r⟩
theorem RepA.lst {i:Nat} {ds:List D} (R:RepA K F H σ δ As) (h:δ[i]? = some (some (.lst ds))):∃ a vs A0,σ[i]? = some (some (.ref a))/\As i=a :: A0/\H a=some (.lst vs)/\F a=none/\RepOs K F H vs ds A0:=by
 obtain ⟨v,h1,h2⟩:=R.val i _ h
 obtain ⟨a,vs,A0,rfl,e,h3,h4,h5⟩:=h2.lst_inv rfl
 exact ⟨a,vs,A0,h1,e,h3,h4,h5⟩
theorem kL {a:Addr} {o:HO} (s:Same F H) (n:F a=none):Same F (upd H a o):=fun b u e=>by
 have:b ≠ a:=fun z=>by rw [z,n] at e;cases e
 rw [aB this];exact s b u e
theorem RepA.wr {i:Nat} {a:Addr} {vs vs':List V} {ds ds':List D} {A0 A':List Addr} (R:RepA K F H σ δ As) (h:δ[i]? = some (some (.lst ds))) (hσ:σ[i]? = some (some (.ref a))) (hA:As i=a :: A0) (ha:H a=some (.lst vs)) (hF:F a=none)
 (r:RepOs K F H vs' ds' A') (na:a ∉ A') (nd:A'.Nodup) (dj:∀ j x,j ≠ i->x∈As j->x ∉ A'):gT K F (upd H a (.lst vs')) σ (δ.set i (some (.lst ds'))):=by
 have hi:i < δ.length:=(List.getElem?_eq_some_iff.mp h).1
 have nj:∀ j x,j ≠ i->x∈As j->x ≠ a:=fun j x hj m z=>R.dj j i x hj m (by rw [hA,z];exact Zj)
 refine ⟨_,R.write hi hσ (jt ha) (kL R.fz hF) (fun j x hj m=>aB (nj j x hj m)) (.lst aX hF (r.frame (jt ha) fun x m=>aB fun z=>na (z ▸ m))) (List.nodup_cons.mpr ⟨na,nd⟩) fun j x hj m z=>?_⟩
 rcases Zp.mp z with z | z
 . exact nj j x hj m z
 . exact dj j x hj m z
theorem RepA.row {i j:Nat} {ds row:List D} (R:RepA K F H σ δ As) (h:δ[i]? = some (some (.lst ds))) (hj:ds[j]? = some (.lst row)):∃ (a:Addr) (vs:List V) (b:Addr) (ws:List V) (B0 O:List Addr),σ[i]? = some (some (.ref a))/\H a=some (.lst vs)/\vs[j]? = some (.ref b)/\H b=some (.lst ws)/\RepOs K F H ws row B0/\(b :: B0).Nodup/\(∀ x,x∈b :: B0->x∈As i) /\
 (∀ x,x∈O->x∈As i)/\a∈O/\(∀ x,x∈b :: B0->x ∉ O) /\
 ∀ {ws':List V} {row':List D} {B':List Addr},RepOs K F H ws' row' B'->b ∉ B'->B'.Nodup->(∀ x,x∈B'->x ∉ O)->(∀ k x,k ≠ i->x∈As k->x ∉ B')->gT K F (upd H b (.lst ws')) σ (δ.set i (some (.lst (ds.set j (.lst row'))))):=by
 obtain ⟨a,vs,A0,s1,eA,g1,n1,ro⟩:=R.lst h
 obtain ⟨v0,A1,B,A3,hv,rB,e0,pk⟩:=ro.pick hj
 obtain ⟨b,ws,B0,rfl,eB,g2,n2,rr⟩:=rB.lst_inv rfl
 subst eB
 have nd0:=R.nd i
 rw [eA,e0] at nd0
 have nd1:=List.nodup_cons.mp nd0
 have nd2:=List.nodup_append.mp nd1.2
 have nd3:=List.nodup_append.mp nd2.2.1
 have inB:∀ x,x∈b :: B0->x∈As i:=fun x m=>by rw [eA,e0];exact Zk _ (List.mem_append_right _ (List.mem_append_left _ m))
 have inO:∀ x,x∈a :: (A1++A3)->x∈As i:=fun x m=>by
  rw [eA,e0]
  rcases Zp.mp m with z | z
  . rw [z];exact Zj
  . refine Zk _ ?_
    rcases Zo.mp z with z | z
    . exact List.mem_append_left _ z
    . exact List.mem_append_right _ (List.mem_append_right _ z)
 have sep:∀ x,x∈b :: B0->x ∉ a :: (A1++A3):=fun x m z=>by
  rcases Zp.mp z with z | z
  . rw [z] at m;exact nd1.1 (List.mem_append_right _ (List.mem_append_left _ m))
  . rcases Zo.mp z with z | z
    . exact nd2.2.2 x z x (List.mem_append_left _ m) rfl
    . exact nd3.2.2 x m x z rfl
 refine ⟨a,vs,b,ws,B0,a :: (A1++A3),s1,g1,hv,g2,rr,nd3.1,inB,inO,Zj,sep,fun {ws' row' B'} r' nb nd' sO sK=>?_⟩
 have hi:i < δ.length:=(List.getElem?_eq_some_iff.mp h).1
 have hab:a ≠ b:=fun z=>sep b Zj (by rw [z];exact Zj)
 have nO:∀ x,x∈a :: (A1++A3)->x ≠ b:=fun x m z=>sep b Zj (z ▸ m)
 have rowN:RepO K F (upd H b (.lst ws')) (.ref b) (.lst row') (b :: B'):=.lst aX n2 (r'.frame (jt g2) fun x m=>aB fun z=>nb (z ▸ m))
 have tree:=pk (jt (o:=.lst ws') g2) (fun x m=>aB (nO x (Zk _ (by
  rcases m with m | m
  . exact List.mem_append_left _ m
  . exact List.mem_append_right _ m)))) rowN
 have hset:vs.set j (.ref b)=vs:=by
  refine List.ext_getElem? fun k=>?_
  rw [List.getElem?_set]
  split
  . rename_i hk;subst hk
    rw [hv,if_pos (List.getElem?_eq_some_iff.mp hv).1]
  . rfl
 rw [hset] at tree
 have nj:∀ k x,k ≠ i->x∈As k->x ≠ b:=fun k x hk m z=>R.dj k i x hk m (z ▸ inB b Zj)
 refine ⟨_,R.write hi s1 (jt g2) (kL R.fz n2) (fun k x hk m=>aB (nj k x hk m)) (.lst (by rw [aB hab];exact g1) n1 tree) ?_ fun k x hk m z=>?_⟩
 . refine List.nodup_cons.mpr ⟨fun z=>?_,List.nodup_append.mpr ⟨nd2.1,List.nodup_append.mpr ⟨List.nodup_cons.mpr ⟨nb,nd'⟩,nd3.2.1,fun x hx y hy e=>?_⟩,fun x hx y hy e=>?_⟩⟩
   . rcases Zo.mp z with z | z
     . exact nd1.1 (List.mem_append_left _ z)
     . rcases Zo.mp z with z | z
       . rcases Zp.mp z with z | z
         . exact hab z
         . exact sO a z Zj
       . exact nd1.1 (List.mem_append_right _ (List.mem_append_right _ z))
   . subst e
     rcases Zp.mp hx with z | z
     . exact nO x (Zk _ (List.mem_append_right _ hy)) z
     . exact sO x z (Zk _ (List.mem_append_right _ hy))
   . subst e
     rcases Zo.mp hy with z | z
     . rcases Zp.mp z with z | z
       . exact nO x (Zk _ (List.mem_append_left _ hx)) z
       . exact sO x z (Zk _ (List.mem_append_left _ hx))
     . exact nd2.2.2 x hx x (List.mem_append_right _ z) rfl
 . rcases Zp.mp z with z | z
   . exact R.dj k i x hk m (inO x (by rw [z];exact Zj))
   . rcases Zo.mp z with z | z
     . exact R.dj k i x hk m (inO x (Zk _ (List.mem_append_left _ z)))
     . rcases Zo.mp z with z | z
       . rcases Zp.mp z with z | z
         . exact nj k x hk m z
         . exact sK k x hk m z
       . exact R.dj k i x hk m (inO x (Zk _ (List.mem_append_right _ z)))
end
def qF (i:Nat) (fm:FM):SD:=fun δ=>match δ[i]? with
 | some (some (.lst _))=>(fm δ).bind fun p=>match p.2[i]? with
  | some (some (.lst ds))=>if ds.length<=999 then some (.nx (p.2.set i (some (.lst (ds++[p.1]))))) else none
  | _=>none
 | _=>none
section
variable {X:Cx} {e ei:Expr} {fk:FD} {fm:FM} {pos p1 p2 p3 p4:Pos}
theorem uu (i:Nat) {c:Expr} (hc:PE X c (tBM X.K "list" qH (qx i) (r6 (upV X.K fm) Br))) (hs:swapsWith c none pos.line X.env=pure false:=by rfl):PMD X (.Expr c pos) (qF i fm):=gS (qM hc hs) fun E σ H ⟨F,δ,r,⟨As,R⟩,q,k⟩=>by
 unfold qF at q
 split at q
 . rename_i ds0 h0
   obtain ⟨⟨d,δ'⟩,ed,q⟩:=Za.mp q
   dsimp only at q
   split at q
   . rename_i ds h1
     split at q
     . rename_i hz
       cases q
       obtain ⟨a,vs0,A00,s0,_,g0,_,_⟩:=R.lst h0
       refine ⟨.ref a,s0,.inl ⟨rfl,_,SqL.of g0⟩,F,δ,As,d,δ',R,ed,fun v F' H' A As' ev R' r'=>?_⟩
       obtain ⟨a1,vs,A0,s1,eA,g1,n1,ro⟩:=R'.lst h1
       have ea:a1=a:=by rw [s0] at s1;cases s1;rfl
       subst ea
       refine ⟨a1,vs,v,rfl,rfl,g1,Nat.lt_of_le_of_lt (by rw [ro.length];exact hz) (jC (show 999<=1000 by decide)),?_⟩
       have nd0:=R'.nd i
       rw [eA] at nd0
       have nd1:=List.nodup_cons.mp nd0
       have ai:a1∈As' i:=by rw [eA];exact Zj
       refine k σ F' _ ev.fs (R'.wr h1 s1 eA g1 n1 (ro.snoc r') (fun z=>?_) (List.nodup_append.mpr ⟨nd1.2,ev.nd,fun x hx y hy e=>?_⟩) fun j x hj m z=>?_)
       . rcases Zo.mp z with z | z
         . exact nd1.1 z
         . exact ev.dj i a1 ai z
       . subst e
         exact ev.dj i x (by rw [eA];exact Zk _ hx) hy
       . rcases Zo.mp z with z | z
         . exact R'.dj j i x hj m (by rw [eA];exact Zk _ z)
         . exact ev.dj j x m z
     . cases q
   . cases q
 . cases q
def ja (i:Nat) (fk:FD) (fm:FM):SD:=fun δ=>match δ[i]? with
 | some (some (.lst ds))=>(fk δ).bind fun kd=>match kd with
  | .int k=>(ixN ds.length k).bind fun j=>match ds[j]? with
   | some (.lst _)=>(fm δ).bind fun p=>match p.2[i]? with
    | some (some (.lst es))=>match es[j]? with
     | some (.lst row)=>if row.length<=999/\es.length=ds.length then some (.nx (p.2.set i (some (.lst (es.set j (.lst (row++[p.1]))))))) else none
     | _=>none
    | _=>none
   | _=>none
  | _=>none
 | _=>none
theorem vC (i:Nat) {c:Expr} (hc:PE X c (tBM X.K "list" qH (tOp (wZ X.K) (qx i) (up X.K fk)) (r6 (upV X.K fm) Br))) (hs:swapsWith c none pos.line X.env=pure false:=by rfl):PMD X (.Expr c pos) (ja i fk fm):=gS (qM hc hs) fun E σ H ⟨F,δ,r,⟨As,R⟩,q,k⟩=>by
 unfold ja at q
 split at q
 . rename_i ds h0
   obtain ⟨kd,ek,q⟩:=Za.mp q
   split at q
   . rename_i kk
     obtain ⟨j,hj,q⟩:=Za.mp q
     split at q
     . rename_i row0 hrow0
       obtain ⟨⟨d,δ'⟩,ed,q⟩:=Za.mp q
       dsimp only at q
       split at q
       . rename_i es h1
         split at q
         . rename_i row hrow
           split at q
           . rename_i hz
             cases q
             obtain ⟨a,vs,b,ws,B0,O,s0,g0,hv0,gb,rr0,_,_,_,_,_⟩:=R.row h0 hrow0
             have ro0:=(R.lst h0)
             obtain ⟨a',vs',A0',s0',_,g0',_,rl⟩:=ro0
             have ea:a'=a:=by rw [s0] at s0';cases s0';rfl
             subst ea
             have ev':vs'=vs:=by rw [g0] at g0';cases g0';rfl
             subst ev'
             refine ⟨.ref a',s0,δ,.int kk,R.toS,ek,fun iv H1 s1 ri=>?_⟩
             cases ri
             refine ⟨a',vs',kk,.ref b,rfl,rfl,SqL.of (s1 _ _ g0),?_,.inl ⟨rfl,ws,SqL.of (s1 _ _ gb)⟩,?_⟩
             . unfold L2.atI;rw [rl.length,hj];exact hv0
             refine ⟨F,δ,As,d,δ',R.grow s1,ed,fun v F' H' A As' ev R' r'=>?_⟩
             obtain ⟨a1,vs1,b1,ws1,B1,O1,t0,u0,hv1,ub,rr1,ndB,inB,inO,aO,sep,fin⟩:=R'.row h1 hrow
             have ea:a1=a':=by rw [s0] at t0;cases t0;rfl
             subst ea
             have es1:vs1=vs':=by
              have:=(ev.hs _ _ (s1 _ _ g0))
              rw [u0] at this;cases this;rfl
             subst es1
             have eb:b1=b:=by rw [hv0] at hv1;cases hv1;rfl
             subst eb
             have nB:=List.nodup_cons.mp ndB
             refine ⟨b1,ws1,v,rfl,rfl,ub,Nat.lt_of_le_of_lt (by rw [rr1.length];exact hz.1) (jC (show 999<=1000 by decide)),?_⟩
             refine k σ F' _ ev.fs (fin (rr1.snoc r') (fun z=>?_) (List.nodup_append.mpr ⟨nB.2,ev.nd,fun x hx y hy e=>?_⟩) (fun x m z=>?_) fun kx x hk m z=>?_)
             . rcases Zo.mp z with z | z
               . exact nB.1 z
               . exact ev.dj i b1 (inB b1 Zj) z
             . subst e;exact ev.dj i x (inB x (Zk _ hx)) hy
             . rcases Zo.mp m with m | m
               . exact sep x (Zk _ m) z
               . exact ev.dj i x (inO x z) m
             . rcases Zo.mp z with z | z
               . exact R'.dj kx i x hk m (inB x (Zk _ z))
               . exact ev.dj kx x m z
           . cases q
         . cases q
       . cases q
     . cases q
   . cases q
 . cases q
def eF (i:Nat) (fk fl:FD) (fm:FM):SD:=fun δ=>(fm δ).bind fun p=>if imm p.1 then match p.2[i]? with
 | some (some (.lst ds))=>(fk p.2).bind fun kd=>match kd with
  | .int k=>(ixN ds.length k).bind fun j=>match ds[j]? with
   | some (.lst row)=>(fl p.2).bind fun ld=>match ld with
    | .int l=>(ixN row.length l).bind fun m=>some (.nx (p.2.set i (some (.lst (ds.set j (.lst (row.set m p.1)))))))
    | _=>none
   | _=>none
  | _=>none
 | _=>none else none
theorem mX (i:Nat) {tg:Expr} {fl:FD} (he:PV X e fm) (hg:PG X tg (Aw (tOp (wZ X.K) (qx i) (up X.K fk)) (up X.K fl) vu)) (hs:swapsWithSole [tg] e pos.line X.env=pure false:=by rfl) (hw:swappedStores [tg] e X.env=pure none:=by rfl)
 (h1:(assignEach [tg] X.env).map (·.2)=[assign tg X.env]:=by rfl):PMD X (.Assign [tg] e pos) (eF i fk fl fm):=gS (ut he hg hs hw h1) fun E σ H ⟨F,δ,r,⟨As,R⟩,q,k⟩=>by
 unfold eF at q
 obtain ⟨⟨d,δ'⟩,ed,q⟩:=Za.mp q
 dsimp only at q
 split at q
 . rename_i hi
   split at q
   . rename_i ds h1
     obtain ⟨kd,ek,q⟩:=Za.mp q
     split at q
     . rename_i kk
       obtain ⟨j,hj,q⟩:=Za.mp q
       split at q
       . rename_i row hrow
         obtain ⟨ld,el,q⟩:=Za.mp q
         split at q
         . rename_i ll
           obtain ⟨m,hm,q⟩:=Za.mp q
           cases q
           refine ⟨F,δ,As,d,δ',R,ed,fun v F' H' A As' ev R' r'=>?_⟩
           have eA:A=[]:=r'.none_of hi
           subst eA
           obtain ⟨a,vs,A0,s0,_,g0,_,rl⟩:=R'.lst h1
           refine ⟨.ref a,s0,δ',.int kk,R'.toS,ek,fun iv H1 s1 ri=>?_⟩
           cases ri
           have R1:=R'.grow s1
           obtain ⟨a1,vs1,b,ws,B0,O,t0,u0,hv1,ub,rr1,ndB,inB,inO,aO,sep,_⟩:=R1.row h1 hrow
           have ea:a1=a:=by rw [s0] at t0;cases t0;rfl
           subst ea
           have es1:vs1=vs:=by
            have:=s1 _ _ g0
            rw [u0] at this;cases this;rfl
           subst es1
           refine ⟨a1,vs1,kk,.ref b,rfl,rfl,SqL.of u0,by unfold L2.atI;rw [rl.length,hj];exact hv1,?_⟩
           refine ⟨δ',.int ll,R1.toS,el,fun iv2 H2 s2 ri2=>?_⟩
           cases ri2
           have R2:=R1.grow s2
           obtain ⟨a2,vs2,b2,ws2,B2,O2,t2,u2,hv2,ub2,rr2,ndB2,inB2,inO2,aO2,sep2,fin⟩:=R2.row h1 hrow
           have ea:a2=a1:=by rw [s0] at t2;cases t2;rfl
           subst ea
           have es2:vs2=vs1:=by
            have:=s2 _ _ u0
            rw [u2] at this;cases this;rfl
           subst es2
           have eb:b2=b:=by rw [hv1] at hv2;cases hv2;rfl
           subst eb
           refine ⟨b2,ws2,ll,m,rfl,rfl,ub2,by rw [rr2.length];exact hm,?_⟩
           have ml:m < row.length:=(nc hm).2.1
           obtain ⟨v0,C1,C,C3,_,_,eC,pk⟩:=rr2.pick (i:=m) (d:=row[m]) (Zs ml)
           have rv:RepO X.K F' H2 v d []:=r'.frame (bZ (s1.trans s2)) fun x mm=>nomatch mm
           have rn:=pk (H':=H2) (fun _ _ e _=>e) (fun _ _=>rfl) rv
           have nB:=List.nodup_cons.mp ndB2
           have nB2:=nB.2
           rw [eC] at nB2
           have n1:=List.nodup_append.mp nB2
           have n2:=List.nodup_append.mp n1.2.1
           have inC:∀ x,x∈C1++([]++C3)->x∈B2:=fun x mm=>by
            rw [eC]
            rcases Zo.mp mm with z | z
            . exact List.mem_append_left _ z
            . exact List.mem_append_right _ (List.mem_append_right _ (by simpa using z))
           refine k σ F' _ ev.fs (fin rn (fun z=>nB.1 (inC _ z)) (List.nodup_append.mpr ⟨n1.1,by simpa using n2.2.1,fun x hx y hy e=>?_⟩) (fun x mm=>sep2 x (Zk _ (inC x mm))) fun kx x hk mm z=>R2.dj kx i x hk mm (inB2 x (Zk _ (inC x z))))
           subst e
           exact n1.2.2 x hx x (List.mem_append_right _ (by simpa using hy)) rfl
         . cases q
       . cases q
     . cases q
   . cases q
 . cases q
end
end Dl
namespace Dl
open PySem PySem.Spec PyProof.Rows L2
def shO (δ:DS):DS:=δ.map (Option.map sh)
def ownOf (f:FM) (δ:DS):Option D:=(f δ).bind fun p=>if own p.1 then some p.1 else none
theorem RepS.toA {K:PySem.W.Frag} {H:Hp} {σ:L2.St} {δ:DS} (R:RepS K H σ δ):RepA K H H σ (shO δ) (fun _=>[]):=by
 refine ⟨Same.refl H,by unfold shO;rw [Zi];exact R.len,fun i d q=>?_,fun _ _=>rfl,fun _=>List.nodup_nil,fun _ _ _ _ m=>nomatch m⟩
 unfold shO at q
 rw [List.getElem?_map] at q
 obtain ⟨o,h1,h2⟩:=Zb.mp q
 cases o with
 | none=>cases h2
 | some d0 =>
  cases h2
  obtain ⟨v,h3,h4⟩:=R.val i d0 h1
  exact ⟨v,h3,RepO.of_sh (Same.refl H) h4⟩
theorem AY {K:PySem.W.Frag} {H₂ H4:Hp} {σ:L2.St} {δ:DS} {f:FM} {e:D} (h:ownOf f (shO δ)=some e) (R:RepS K H4 σ δ) (s:Same H₂ H4):upV K f σ H4 fun v H5=>Same H4 H5/\∃ A,RepO K H₂ H5 v e A/\A.Nodup/\∀ a∈A,H4 a=none:=by
 unfold ownOf at h
 obtain ⟨⟨d,δ'⟩,e1,h⟩:=Za.mp h
 split at h
 . rename_i ho
   cases h
   refine ⟨H4,shO δ,fun _=>[],d,δ',R.toA,e1,fun v F' H' A As' ev R' r'=>⟨ev.hs,A,(r'.thaw ev.fs ho).thaw s ho,ev.nd,fun a m=>?_⟩⟩
   rcases ev.fA a m with ⟨j,z⟩ | z
   . cases z
   . exact z
 . cases h
theorem cA {H H':Hp} {a:Addr} (s:Same H H') (h:H' a=none):H a=none:=by
 cases q:H a with
 | none=>rfl
 | some u=>rw [s a u q] at h;cases h
theorem wJ {K:PySem.W.Frag} {F H H':Hp} {vs:List V} {ds:List D} {Acc A:List Addr} {v:V} {e:D} (r:RepOs K F H vs ds Acc) (nd:Acc.Nodup) (s:Same H H') (r':RepO K F H' v e A) (nd':A.Nodup) (fr:∀ a∈A,H a=none):∃ Acc',RepOs K F H' (vs++[v]) (ds++[e]) Acc'/\Acc'.Nodup:=by
 refine ⟨Acc++A,(r.frame (bZ s) fun a m=>?_).snoc r',List.nodup_append.mpr ⟨nd,nd',fun x hx y hy q=>?_⟩⟩
 . obtain ⟨⟨ws,e⟩,_⟩:=r.dom a m
   rw [e];exact s a _ e
 . subst q
   obtain ⟨⟨ws,e⟩,_⟩:=r.dom x hx
   rw [fr x hy] at e;cases e
section
variable {X:Cx} {pins:List (Addr×Obj)} {σ:L2.St} {H₂:Hp} {s₂:Shared} {scope:Scope} {cl:List (Str×Addr)} {x:Str} {N:List Str} {js:List Nat} {C:Addr} {fp:List Addr}
theorem l6 {elt iter:Expr} {px pos:Pos} {it:Addr} {tn:Nat->Heap->Prop} {J:It} {ds xs:List D} {δ:DS} {felt:FM} {RR:Value->Addr->Result->Shared->Prop} {E:Value->Shared->Prop} (I:L2.Inv X pins σ H₂ s₂) (hcm:X.calm=true) (O:CompOk X scope cl x N js)
 (T:uZ X.prog X.w X.K (.Name x px) J fp it tn) (st:tn 0 s₂.heap) (hf:∀ b∈fp,jQ X pins H₂ b) (itd:ItD X.K J H₂ ds) (R:RepS X.K H₂ σ δ) (he:∀ C s₂ H₂ fp pn,PV (cG X scope cl x N C s₂ H₂ fp pn) elt felt)
 (hm:kf (fun d=>ownOf felt (shO (some d :: bz js δ))) ds=some xs) (hz:xs.length<=1000)
 (hRR:∀ (D C:Addr) (s':Shared) (Hend:Hp) (vs:List V),s₂.heap.objs.size<=C->L2.Inv X pins σ Hend s'->Same H₂ Hend->Hend D=some (.lst vs)->(∃ Acc,RepOs X.K H₂ Hend vs xs Acc/\Acc.Nodup/\D ∉ Acc/\H₂ D=none)->(∃ m,s'.heap.Ns C m)->Hend C=none->RR (.ref D) C (.ok .next) s') :
 wpAny (model X.prog X.w) X.A (newList []) (fun acc s₃=>wpAny (model X.prog X.w) X.A (newFunctionEnv scope X.env.globals cl [] X.env.qual none .none (some X.env)) (fun cenv s₄ =>
  codeAny (model X.prog X.w) X.A (.compStart (.ListComp elt [⟨.Name x px,iter,[],0⟩] scope pos) 0 (.ref it) acc { cenv with scope:=relabel scope X.env }) (RR acc cenv.locals) s₄) E s₃) E s₂:=by
 obtain ⟨ml,mg'⟩:=ou hm
 have objs:=T.obj 0 s₂.heap st
 have objs':∀ b∈fp,∃ o,s₂.heap.get? b=some o:=fun b hb=>let ⟨o,h,_⟩:=objs b hb;⟨o,h⟩
 refine wpAny_newObj_type (wpAny_newFunctionEnv O.nocell (by intro y hy;simp at hy) (fun h₁ hns₁ hsb₁=>?_) O.kind)
 dsimp only at hns₁ hsb₁ ⊢
 generalize hP:s₂.heap.push { cls:=.type "list",dict:=none,data:=.seq ([]:List Value).toArray }=P2 at hns₁ hsb₁ ⊢
 have hC:P2.objs.size=s₂.heap.objs.size+1:=by rw [<- hP,Heap.size_push]
 generalize hCC:P2.objs.size=C at *
 have hCle:s₂.heap.objs.size<=C:=by omega
 have hDle:s₂.heap.objs.size<=s₂.heap.objs.size:=by omega
 have hDC:s₂.heap.objs.size ≠ C:=by omega
 have old:∀ b o,s₂.heap.get? b=some o->h₁.get? b=some o:=fun b o e=>by
  refine hsb₁.extBut b o (Nat.ne_of_lt (Nat.lt_of_lt_of_le (Heap.lt_size e) hCle)) (Heap.get?_push_of_some _ ?_)
  rw [<- hP]
  exact Heap.get?_push_of_some _ e
 have hacc:h₁.get? s₂.heap.objs.size=some { cls:=.type "list",data:=.seq ([]:List Value).toArray }:=by
  refine hsb₁.extBut s₂.heap.objs.size _ hDC (Heap.get?_push_of_some _ ?_)
  rw [<- hP]
  exact Heap.get?_push_size _ rfl
 have I0:=fun tk=>oU (C:=C) (tk:=tk) I hcm O hCle hf objs' old hns₁ I.len
 have dstk:s₂.heap.objs.size ∉ frs X.stack:=jp I hDle
 have fne:∀ b∈fp,b ≠ s₂.heap.objs.size:=fun b hb e=>by
  obtain ⟨o,h⟩:=objs' b hb
  exact absurd (Heap.lt_size h) (by rw [e];exact Nat.lt_irrefl _)
 have cne:∀ y c,cl.lookup y=some c->c ≠ s₂.heap.objs.size:=fun y c e z=>by
  obtain ⟨v,o,h1,_⟩:=I.cell y c (O.cls y c e)
  exact absurd (Heap.lt_size h1) (by rw [z];exact Nat.lt_irrefl _)
 have pne:∀ p∈X.pn++pins,p.1 ≠ s₂.heap.objs.size:=fun p hp e=>by
  exact absurd (Heap.lt_size (I.pin p hp).1) (by rw [e];exact Nat.lt_irrefl _)
 have stat:∀ {H':Hp} {pl:List (Addr×Obj)},(∀ b∈fp,H' b=none)->(∀ p∈pl,∀ b∈fp,p.1 ≠ b)->∀ b∈fp,jQ (cG X scope cl x N C s₂ H₂ fp (X.pn++pins)) pl H' b:=fun {H' pl} hn hpl b hb=>by
  obtain ⟨o,h⟩:=objs' b hb
  refine ⟨hn b hb,Nat.ne_of_lt (Nat.lt_of_lt_of_le (Heap.lt_size h) hCle),fun z=>?_,.inl hb,fun y c e=>(hf b hb).2.2.2.2.1 y c (O.cls y c e),fun p hp=>?_⟩
  . rcases Zp.mp (I.stkSub b z) with e | e
    . exact (hf b hb).2.1 e
    . exact (hf b hb).2.2.1 e
  . rcases Zo.mp hp with q | q
    . exact (hf b hb).2.2.2.2.2 p q
    . exact hpl p q b hb
 have loop:∀ s₃:Shared,s₃={ s₂ with heap:=h₁,toks:=s₂.toks+([]:List (Str×Value)).length } ->
  codeAny (model X.prog X.w) X.A (.compLoop (.ListComp elt [⟨.Name x px,iter,[],0⟩] scope pos) 0 (.ref it) (.ref s₂.heap.objs.size) (compEnvC scope cl C X.env)) (RR (.ref s₂.heap.objs.size) C) s₃:=by
  rintro s₃ rfl
  refine lb (fun n s=>∃ (i:Nat) (σ':L2.St) (H':Hp) (vs:List V) (o:Option D),n=ds.length - i/\i<=ds.length/\L2.Inv (cG X scope cl x N C s₂ H₂ fp (X.pn++pins)) [] σ' H' s/\Same H₂ H'/\RepS X.K H' σ' (o :: bz js δ)/\tn i s.heap/\(∀ b∈fp,H' b=none) /\
   (∃ (its:List Value) (k:Nat),Vals vs its/\s.heap.get? s₂.heap.objs.size=some { cls:=.type "list",data:=.seq its.toArray k })/\H' s₂.heap.objs.size=none/\(∃ Acc,RepOs X.K H₂ H' vs (xs.take i) Acc/\Acc.Nodup)/\vs.length=i) ?_ ds.length
   ⟨0,_,H₂,[],none,rfl,Nat.zero_le _,I0 _,Same.refl _,lx R js,T.keep 0 _ _ st (fun b hb o e=>old b o e),fun b hb=>(hf b hb).1,⟨[],0,.nil,hacc⟩,I.hok.fresh hDle,⟨[],.nil,List.nodup_nil⟩,rfl⟩
  rintro n s ⟨i,σ',H',vs,o,rfl,hi,I',sm,R',st',fr',⟨its,k,rv,hD⟩,fD,⟨Acc,rr,nda⟩,hl⟩
  by_cases hlt:i < ds.length
  . -- one more
    obtain ⟨go,yl⟩:=(itd i H' sm).1 hlt
    have hd0:ds[i]? = some ds[i]:=by simp [hlt]
    obtain ⟨e,ge,xe⟩:=mg' i _ hd0
    have I1:L2.Inv (cG X scope cl x N C s₂ H₂ fp (X.pn++pins)) [(s₂.heap.objs.size,{ cls:=.type "list",data:=.seq its.toArray k })] σ' H' s:=I'.pins_of fun p hp=>by
     have:p=(s₂.heap.objs.size,{ cls:=.type "list",data:=.seq its.toArray k }):=by simpa using hp
     subst this
     exact ⟨hD,fD,hDC,dstk,fun v z=>by cases z⟩
    refine thn (T.item (cG X scope cl x N C s₂ H₂ fp (X.pn++pins)) rfl rfl rfl rfl i _ s σ' H' (fun _ _=>False) I1 (stat fr' fun p hp b hb=>by
     have:p=(s₂.heap.objs.size,{ cls:=.type "list",data:=.seq its.toArray k }):=by simpa using hp
     subst this
     exact (fne b hb).symm) st' go) fun r s1 ⟨u,hr,h4⟩=>?_
    subst hr
    refine thn h4 fun _ s2 ⟨y,H'',I2,ru,yy,st2,fr2⟩=>?_
    obtain ⟨s3,d,hd,rd⟩:=yl y H'' yy
    have hd':d=ds[i]:=by rw [hd0] at hd;exact (Option.some.inj hd).symm
    subst hd'
    have I3:=I2.pinned (stat fr2 fun p hp b hb=>by
     have:p=(s₂.heap.objs.size,{ cls:=.type "list",data:=.seq its.toArray k }):=by simpa using hp
     subst this
     exact (fne b hb).symm) (T.obj _ _ st2)
    refine thn (jH (X:=cG X scope cl x N C s₂ H₂ fp (X.pn++pins)) (i:=0) O.nd O.h0 (.inl (lookup_relabel_local O.hx)) (.inl (by simp)) _ s2 σ' H'' y u (fun σ4 H4=>σ4=σ'.set 0 (some y)/\H4=H'') I3 ru ⟨rfl,rfl⟩) fun _ s4 ⟨σ4,H4,I4,e1,e2⟩=>?_
    subst e1 e2
    have R4:RepS X.K H4 (σ'.set 0 (some y)) (some ds[i] :: bz js δ):=(R'.mono s3).set 0 rd
    refine thn (he C s₂ H₂ fp (X.pn++pins) _ s4 (σ'.set 0 (some y)) H4 (fun v H5=>Same H4 H5/\∃ A,RepO X.K H₂ H5 v e A/\A.Nodup/\∀ a∈A,H4 a=none) I4 (AY ge R4 (sm.trans s3))) fun wv s5 ⟨v,H5,I5,rw5,s45,A5,r5,nd5,fr5⟩=>?_
    have hD5:s5.heap.get? s₂.heap.objs.size=some { cls:=.type "list",data:=.seq its.toArray k }:=(I5.pin (s₂.heap.objs.size,{ cls:=.type "list",data:=.seq its.toArray k }) (by simp)).1
    have fD5:H5 s₂.heap.objs.size=none:=(I5.pin (s₂.heap.objs.size,{ cls:=.type "list",data:=.seq its.toArray k }) (by simp)).2.1
    have pf:∀ b∈fp,∀ ob,s2.heap.get? b=some ob->s5.heap.get? b=some ob/\H5 b=none:=fun b hb ob hob=>by
     have:=I5.pin (b,ob) (List.mem_append_right _ (List.mem_append_right _ (fL hb hob)))
     exact ⟨this.1,this.2.1⟩
    have lz:its.length<=1000:=by
     have:=rv.length
     omega
    refine call_meets F.slot_list_append ⟨_,hD5,rfl⟩ F.entry_list_append (F.args_list_append_2 _ _) (PySem.list_append s₂.heap.objs.size its.toArray k wv (by rw [List.size_toArray];exact dL lz)) ⟨hD5,?_⟩
    have q:=PySem.IsL.update hD5 (fun a=>a.push wv)
    have I6:L2.Inv (cG X scope cl x N C s₂ H₂ fp (X.pn++pins)) [] (σ'.set 0 (some y)) H5 { s5 with heap:=s5.heap.update s₂.heap.objs.size (Obj.mapSeq fun a=>a.push wv),toks:=s5.toks } :=
     (I5.pins_of (pins':=[]) fun p hp=>by simp at hp).turned (it:=s₂.heap.objs.size) (t':=s5.toks) (fun b ob hb hu=>(Heap.get?_update_other s5.heap _ (Ne.symm hb)).trans hu) fD5 hDC (.inr hDle) cne (fun p hp=>by
      rcases Zo.mp hp with z | z
      . exact pne p z
      . simp at z)
    refine ⟨ds.length - (i+1),by omega,i+1,σ'.set 0 (some y),H5,vs++[v],some ds[i],rfl,hlt,I6,(sm.trans s3).trans s45,R4.mono s45,?_,?_,?_,fD5,?_,by simp [hl]⟩
    . refine T.keep _ _ _ st2 fun b hb ob hob=>?_
      exact (Heap.get?_update_other s5.heap _ (Ne.symm (fne b hb))).trans (pf b hb ob hob).1
    . intro b hb
      obtain ⟨ob,hob,_⟩:=T.obj _ _ st2 b hb
      exact (pf b hb ob hob).2
    . have hf7:its.toArray.push wv=(its++[wv]).toArray:=by simp
      rw [hf7] at q
      exact ⟨its++[wv],_,rv.append (.cons rw5 .nil),q⟩
    . have e8:xs.take (i+1)=xs.take i++[e]:=by
       rw [List.take_add_one,xe];rfl
      rw [e8]
      exact wJ rr nda (s3.trans s45) r5 nd5 fun a m=>(cA s3 (fr5 a m))
  . -- the end
    have hie:i=ds.length:=by omega
    refine thn (T.done (cG X scope cl x N C s₂ H₂ fp (X.pn++pins)) rfl rfl rfl rfl i [(s₂.heap.objs.size,{ cls:=.type "list",data:=.seq its.toArray k })] s σ' H' (fun _ _=>False) (I'.pins_of fun p hp=>by
     have:p=(s₂.heap.objs.size,{ cls:=.type "list",data:=.seq its.toArray k }):=by simpa using hp
     subst this
     exact ⟨hD,fD,hDC,dstk,fun v z=>by cases z⟩) (stat fr' fun p hp b hb=>by
     have:p=(s₂.heap.objs.size,{ cls:=.type "list",data:=.seq its.toArray k }):=by simpa using hp
     subst this
     exact (fne b hb).symm) st' ((itd i H' sm).2 (by omega))) fun r s1 ⟨hr,I8⟩=>?_
    subst hr
    have hD8:s1.heap.get? s₂.heap.objs.size=some { cls:=.type "list",data:=.seq its.toArray k }:=(I8.pin (s₂.heap.objs.size,{ cls:=.type "list",data:=.seq its.toArray k }) (by simp)).1
    have hxs:xs.take i=xs:=List.take_of_length_le (by omega)
    rw [hxs] at rr
    have sn:=df fD (.lst vs)
    have dn:∀ b,∀ u,H' b=some u->b ≠ s₂.heap.objs.size:=fun b u z=>c5 z fD
    have un:Un (frs X.stack) fp H₂ (upd H' s₂.heap.objs.size (.lst vs)) s₂.heap s1.heap:=by
     have b0:=I8.base
     refine ⟨fun b ob e n1 n2 n3=>b0.keep b ob e n1 n2 n3,fun b ob e n1 n2 n3=>b0.slot b ob e n1 n2 n3,fun b ob e n1 n3=>?_,fun b ob e n3=>b0.there b ob e n3,fun b zs e=>?_,fun b ob u e=>?_,fun b ps e=>?_⟩
     . rw [aB (Nat.ne_of_lt (Heap.lt_size e))]
       exact b0.free b ob e n1 n3
     . have z:=b0.tups b zs e
       rw [aB (dn _ _ z)]
       exact z
     . have z:=b0.frzs b ob u e
       rw [aB (dn _ _ z)]
       exact z
     . obtain ⟨more,z⟩:=b0.tbls b ps e
       exact ⟨more,by rw [aB (dn _ _ z)];exact z⟩
    have hok:HOk X.prog X.w (upd H' s₂.heap.objs.size (.lst vs)) s1.heap:=fun b u z=>by
     by_cases hb:b=s₂.heap.objs.size
     . rw [hb] at z ⊢
       rw [aX] at z
       cases z
       exact ⟨dL (by omega),its,k,rv,hD8⟩
     . rw [aB hb] at z
       exact (I8.hok b u z).stay (fun _ _ _ q=>q) (fun c q=>by rw [aB (dn _ _ q)];exact q) fun c ys q=>by rw [aB (dn _ _ q)];exact q
    have IX:L2.Inv X pins σ (upd H' s₂.heap.objs.size (.lst vs)) s1:=I.call' I8.os un hok I8.bare fun b hb=>⟨(hf b hb).2.2.2.1,(hf b hb).2.1,(hf b hb).2.2.2.2.1,(hf b hb).2.2.2.2.2⟩
    obtain ⟨m8,hn8,_⟩:=I8.loc
    refine hRR s₂.heap.objs.size C s1 _ vs hCle IX (sm.trans sn) aX ⟨Acc,rr.frame (bZ sn) (fun a m=>by
     obtain ⟨⟨ws,e⟩,_⟩:=rr.dom a m
     rw [e];exact sn a _ e),nda,fun m=>(by
     obtain ⟨⟨ws,e⟩,_⟩:=rr.dom _ m
     rw [fD] at e;cases e),I.hok.fresh hDle⟩ ⟨m8,hn8⟩ ?_
    rw [aB (Ne.symm hDC)]
    exact I8.free
 exact codeAny_compStart_list (loop _ rfl) (T.self X.A 0 _ _ _ (T.keep 0 _ _ st (fun b hb o e=>old b o e)) (loop _ rfl))
def fG (src:FA) (js:List Nat) (felt:FM):FM:=fun δ=>(src δ).bind fun ds=>(kf (fun d=>ownOf felt (shO (some d :: bz js δ))) ds).bind fun xs=>if xs.length<=1000 then some (.lst xs,δ) else none
theorem lI {f:FM} {g:D->DS}:∀ {ds xs:List D},kf (fun d=>ownOf f (g d)) ds=some xs->gF xs=true
 | [],xs,h=>by cases h;rfl
 | d :: ds,xs,h=>by
  obtain ⟨x,ex,h⟩:=Za.mp (show ((ownOf f (g d)).bind _)=some xs from h)
  obtain ⟨ys,ey,h⟩:=Za.mp h
  cases h
  rw [gF,lI ey,Bool.and_true]
  unfold ownOf at ex
  obtain ⟨p,_,ex⟩:=Za.mp ex
  split at ex
  . rename_i ho;cases ex;exact ho
  . cases ex
theorem wA {K:PySem.W.Frag} {F H H1 Hend:Hp} {σ:L2.St} {δ:DS} {As:Nat->List Addr} {xs:List D} {vs:List V} {D:Addr} (RA:RepA K F H σ δ As) (ho:gF xs=true) (s:Same H Hend) (s1:Same H H1) (hD:Hend D=some (.lst vs)) (h:∃ Acc,RepOs K H1 Hend vs xs Acc/\Acc.Nodup/\D ∉ Acc/\H1 D=none) :
 ∃ A,Ev F H As F Hend As A/\RepA K F Hend σ δ As/\RepO K F Hend (.ref D) (.lst xs) A:=by
 obtain ⟨Acc,r,nd,nD,hn⟩:=h
 refine ⟨D :: Acc,.fresh s (fun a m=>?_) (List.nodup_cons.mpr ⟨nD,nd⟩) (fun i a m=>(RA.dom m).1),RA.grow s,.lst hD ?_ (r.thaw (RA.fz.trans s1) ho)⟩
 . rcases Zp.mp m with z | z
   . rw [z];exact cA s1 hn
   . exact cA s1 (r.dom a z).2
 . exact cA (RA.fz.trans s1) hn
theorem wB {K:PySem.W.Frag} {F H H1 Hend:Hp} {σ:L2.St} {δ:DS} {As:Nat->List Addr} {xs:List D} {vs:List V} {D:Addr} {Q:VK} (RA:RepA K F H σ δ As) (k:∀ v F' H' A As',Ev F H As F' H' As' A->RepA K F' H' σ δ As'->RepO K F' H' v (.lst xs) A->Q v H') (ho:gF xs=true) (s:Same H Hend) (s1:Same H H1) (hD:Hend D=some (.lst vs)) (h:∃ Acc,RepOs K H1 Hend vs xs Acc/\Acc.Nodup/\D ∉ Acc/\H1 D=none):Q (.ref D) Hend:=by
 obtain ⟨A,ev,R',r'⟩:=wA RA ho s s1 hD h
 exact k _ F Hend A As ev R' r'
theorem t4 {K:PySem.W.Frag} {F H H1 Hend:Hp} {σ:L2.St} {δ:DS} {As:Nat->List Addr} {xs:List D} {vs:List V} {D:Addr} {Q:L2.St->Hp->Prop} (i:Nat) (RA:RepA K F H σ δ As) (k:∀ σ' F' H',Same F F'->gT K F' H' σ' (δ.set i (some (.lst xs)))->Q σ' H') (ho:gF xs=true) (s:Same H Hend) (s1:Same H H1) (hD:Hend D=some (.lst vs)) (h:∃ Acc,RepOs K H1 Hend vs xs Acc/\Acc.Nodup/\D ∉ Acc/\H1 D=none):Q (σ.set i (some (.ref D))) Hend:=by
 obtain ⟨A,ev,R',r'⟩:=wA RA ho s s1 hD h
 exact k _ F Hend (Same.refl F) (R'.setM i r' ev.nd ev.dj)
theorem kU {elt iter:Expr} {px pos:Pos} {src:FA} {felt:FM} (hi:PID X (.Name x px) iter src) {N:List Str} {js:List Nat} (he:∀ C s₂ H₂ fp pn,PV (cG X scope cl x N C s₂ H₂ fp pn) elt felt) (O:CompOk X scope cl x N js) (hcm:X.calm=true:=by rfl)
 (hs:∀ v,foldedSetIterable iter X.env v=pure v:=by intro _;rfl):PV X (.ListComp elt [⟨.Name x px,iter,[],0⟩] scope pos) (fG src js felt):=by
 intro pins s σ H Q I ⟨F,δ,As,d,δ',RA,q,k⟩
 have R:=RA.toS
 unfold fG at q
 obtain ⟨ds,eds,q⟩:=Za.mp q
 obtain ⟨xs,exs,q⟩:=Za.mp q
 by_cases hz:xs.length<=1000
 . rw [if_pos hz] at q
   cases q
   rw [eval_ListComp]
   refine wpAny_comprehension_free (use:=none) rfl hs O.clos O.kind O.names ?_
   refine wpAny_mono (hi pins s σ H (fun J H1=>Same H H1/\ItD X.K J H1 ds) I ⟨δ,ds,R,eds,fun J H1 s1 itd=>⟨s1,itd⟩⟩) (fun v s1 h1=>wpAny_mono h1 (fun itv s2 h2=>?_) fun _ _ z=>z) fun _ _ z=>z
   obtain ⟨it,fp,tn,J,H2,rfl,I2,T,st,hf,s1,itd⟩:=h2
   refine l6 (RR:=fun acc C=>compPost (model X.prog X.w) X.A X.xe none (EP X pins σ Q) acc C) I2 hcm O T st hf itd (R.mono s1) he exs hz ?_
   intro D C s' Hend vs hC IX sm hD rr ⟨m,hn⟩ fC
   exact ⟨m,hn,fun h' hs'=>⟨.ref D,Hend,lK IX I2 hC fC hs',rfl,wB RA k (lI exs) (s1.trans sm) s1 hD rr⟩⟩
 . rw [if_neg hz] at q;cases q
theorem vB (i:Nat) {y:Str} {elt iter:Expr} {px py pos spos:Pos} {src:FA} {felt:FM} (hN:X.N.Nodup) (hi:PID X (.Name x px) iter src) {N:List Str} {js:List Nat} (he:∀ C s₂ H₂ fp pn,PV (cG X scope cl x N C s₂ H₂ fp pn) elt felt) (O:CompOk X scope cl x N js)
 (hsw:swapsWith (.ListComp elt [⟨.Name x px,iter,[],0⟩] scope pos) (some (.Name y py)) spos.line X.env=pure true:=by rfl) (hy:X.N[i]? = some y:=by rfl) (hl:Loc X.env.scope y:=by first | exact Or.inl rfl | exact Or.inr rfl) (hcm:X.calm=true:=by rfl)
 (hs:∀ v,foldedSetIterable iter X.env v=pure v:=by intro _;rfl) (hfn:X.fn y=true \/ X.env.scope.names.lookup y=some .local:=by first | exact .inl rfl | exact .inr rfl | assumption) :
 PMD X (.Assign [.Name y py] (.ListComp elt [⟨.Name x px,iter,[],0⟩] scope pos) spos) (az i (fG src js felt)):=by
 intro pins s σ H D I ⟨F,δ,r,⟨As,RA⟩,q,k⟩
 have R:=RA.toS
 unfold az at q
 obtain ⟨⟨d,δ'⟩,ed,q⟩:=Za.mp q
 cases q
 unfold fG at ed
 obtain ⟨ds,eds,q⟩:=Za.mp ed
 obtain ⟨xs,exs,q⟩:=Za.mp q
 by_cases hz:xs.length<=1000
 . rw [if_pos hz] at q
   cases q
   rw [exec_Assign_Name_used _ _ _ _ hsw]
   refine wpAny_bind (wpAny_standAt (wpAny_bind ?_))
   show wpAny _ X.A (do let _ <- comprehension (.ListComp elt [⟨.Name x px,iter,[],0⟩] scope pos) scope X.env _ (newList []) false (eval iter X.env) (some (assign (.Name y py) X.env))) _ _ s
   refine wpAny_bind (wpAny_mono (wpAny_comprehension_free (use:=some (assign (.Name y py) X.env)) (Q:=fun _ s'=>SP X pins D .next s') rfl hs O.clos O.kind O.names ?_) (fun _ s' hq=>wpAny_pure (wpAny_pure hq)) fun _ _ z=>z)
   refine wpAny_mono (hi pins s σ H (fun J H1=>Same H H1/\ItD X.K J H1 ds) I ⟨δ,ds,R,eds,fun J H1 s1 itd=>⟨s1,itd⟩⟩) (fun v s1 h1=>wpAny_mono h1 (fun itv s2 h2=>?_) fun _ _ z=>z) fun _ _ z=>z
   obtain ⟨it,fp,tn,J,H2,rfl,I2,T,st,hf,s1,itd⟩:=h2
   refine l6 (RR:=fun acc C=>compPost (model X.prog X.w) X.A X.xe (some (assign (.Name y py) X.env)) (fun _ s'=>SP X pins D .next s') acc C) I2 hcm O T st hf itd (R.mono s1) he exs hz ?_
   intro DA C s' Hend vs hC IX sm hD rr ⟨m,hn⟩ fC
   show wpAny _ X.A (assign (.Name y py) X.env (.ref DA)) _ _ s'
   refine wpAny_assign_Name (lu (v:=.ref DA) IX hN hy hl rfl (fun s9 I9 ⟨a,hsb,ha⟩=>?_) hfn)
   have hCa:C ≠ a:=by
    rintro rfl
    rcases ha with z | z
    . exact absurd (Nat.lt_of_lt_of_le I2.lt (by rw [<- z];exact hC)) (Nat.lt_irrefl _)
    . obtain ⟨v,o,h1,_⟩:=I2.cell y _ z
      exact absurd (Nat.lt_of_lt_of_le (Heap.lt_size h1) hC) (Nat.lt_irrefl _)
   refine ⟨m,hn.at' fun o e=>(hsb.2 C hCa).trans e,fun h' hs'=>⟨_,Hend,?_,t4 i RA k (lI exs) (s1.trans sm) s1 hD rr⟩⟩
   exact I9.turned (it:=C) (t':=s9.toks) (fun b o hb e=>(hs'.2 b hb).trans e) fC (Nat.ne_of_gt (Nat.lt_of_lt_of_le I2.lt hC)) (.inr (Nat.le_trans I2.sz hC))
    (fun y c e z=>by
     obtain ⟨v,o,h1,_⟩:=I2.cell y c e
     exact absurd (Nat.lt_of_lt_of_le (Heap.lt_size h1) (by rw [z];exact hC)) (Nat.lt_irrefl _))
    (fun p hp z=>absurd (Nat.lt_of_lt_of_le (Heap.lt_size (I2.pin p hp).1) (by rw [z];exact hC)) (Nat.lt_irrefl _))
 . rw [if_neg hz] at q;cases q
end
end Dl
namespace Dl
open PySem PySem.Spec PyProof.Rows L2
section
variable {K:PySem.W.Frag} {F H:Hp} {σ:L2.St} {δ:DS} {As:Nat->List Addr}
theorem RepOs.of_imm:∀ {vs:List V} {ds:List D},Reps K H vs ds->cn ds=true->RepOs K F H vs ds []
 | _,_,.nil,_=>.nil
 | _,_,.cons r t,i=>by
  rw [cn,Bool.and_eq_true] at i
  exact .cons (.imm i.1 r) (RepOs.of_imm t i.2) rfl
theorem q8 {H1:Hp} {vs:List V} {ds:List D} {p:Addr} {Q:VK} (R:RepA K F H σ δ As) (s:Same H H1) (r:Reps K H1 vs ds) (i:cn ds=true) (hp:H1 p=none)
 (k:∀ v F' H' A As',Ev F H As F' H' As' A->RepA K F' H' σ δ As'->RepO K F' H' v (.lst ds) A->Q v H'):Q (.ref p) (upd H1 p (.lst vs)):=by
 have sn:=df hp (.lst vs)
 have np:=cA s hp
 refine k _ F _ [p] As (.fresh (s.trans sn) (fun a m=>?_) (List.nodup_cons.mpr ⟨fun z=>(nomatch z),List.nodup_nil⟩) (fun i a m=>(R.dom m).1)) (R.grow (s.trans sn)) (.lst aX (cA R.fz np) (RepOs.of_imm (r.mono sn) i))
 rw [Zl.mp m]
 exact np
end
def lJ (d:D) (δ:DS):Option (D×DS):=match d with
 | .lst ds=>if cn ds then some (.lst ds,δ) else none
 | _=>none
theorem oy {d d':D} {δ δ':DS} (h:lJ d δ=some (d',δ')):∃ ds,d=.lst ds/\d'=.lst ds/\δ'=δ/\cn ds=true:=by
 unfold lJ at h
 split at h
 . rename_i ds
   split at h
   . rename_i hi
     cases h
     exact ⟨ds,rfl,rfl,rfl,hi⟩
   . cases h
 . cases h
def v8:List D->Option D
 | [.lst ds]=>some (.lst ds)
 | [.seq ds]=>some (.lst ds)
 | [.tup ds]=>some (.lst ds)
 | _=>none
def fM (g:FA):FM:=fun δ=>(g δ).bind fun ds=>(v8 ds).bind fun d=>lJ d δ
section
variable {X:Cx} {e a b:Expr} {f fa fb:FD} {lo hi:Option Expr} {fl fh:FO} {g:FA} {pos p2 p:Pos}
theorem jG (hg:Gl X "list") (hm:X.mg "list" = none) (hv:bootBuiltins "list" = some (.type "list")) (ha:PAD X [e] g) (he:starEach [e] X.env=(false,eval e X.env) :: starEach [] X.env:=by rfl) (hpl:(backTo pos (starEach [] X.env)).any (·.1)=false:=by rfl) :
 PV X (.Call (.Name "list" p) [e] [] pos) (fM g):=imp (lD rM hg hm hv ha (by decide) (by decide) he hpl) fun σ H Q ⟨F,δ,As,d,δ',RA,q,k⟩=>by
 unfold fM at q
 obtain ⟨xs,exs,q⟩:=Za.mp q
 obtain ⟨d0,e0,q⟩:=Za.mp q
 obtain ⟨ds,rfl,rfl,rfl,hi⟩:=oy q
 refine ⟨_,xs,RA.toS,exs,fun vs H1 s1 r1 l=>?_⟩
 unfold v8 at e0
 split at e0
 . cases e0
   obtain ⟨v,rfl,rv⟩:=gC r1
   cases rv with
   | @lst p vs _ hp rp=>exact ⟨p,vs,rfl,.inl (SqL.of hp),fun l hl=>q8 RA s1 rp hi hl k⟩
 . cases e0
   obtain ⟨v,rfl,rv⟩:=gC r1
   cases rv with
   | @seq p vs _ hp rp=>exact ⟨p,vs,rfl,.inl hp,fun l hl=>q8 RA s1 rp hi hl k⟩
 . cases e0
   obtain ⟨v,rfl,rv⟩:=gC r1
   cases rv with
   | @tup p vs _ hp rp=>exact ⟨p,vs,rfl,.inr hp,fun l hl=>q8 RA s1 rp hi hl k⟩
 . cases e0
end
theorem imms_mem:∀ {ds:List D},cn ds=true <-> ∀ d∈ds,imm d=true
 | []=>⟨fun _ _ m=>(nomatch m),fun _=>rfl⟩
 | d :: ds=>by
  rw [cn,Bool.and_eq_true,imms_mem (ds:=ds)]
  exact ⟨fun h e m=>(Zp.mp m).elim (fun z=>z ▸ h.1) (h.2 e),fun h=>⟨h d Zj,fun e m=>h e (Zk _ m)⟩⟩
section
variable {K:PySem.W.Frag} {F H:Hp} {σ:L2.St} {δ:DS} {As:Nat->List Addr}
end
section
variable {X:Cx} {pos:Pos}
end
end Dl
namespace Dl
open PySem PySem.Spec PyProof.Rows L2
end Dl
namespace Dl
open PySem PySem.Spec PyProof.Rows L2
def eqL (f:D->D->Option Bool):List D->List D->Option Bool
 | [],[]=>some true
 | [],_ :: _=>some false
 | _ :: _,[]=>some false
 | a :: as,b :: bs=>(f a b).bind fun x=>(eqL f as bs).bind fun y=>some (x && y)
def eqN:Nat->D->D->Option Bool
 | 0,a,b=>if dD a && dD b then some (eqF a b) else none
 | n+1,a,b=>match a,b with
  | .tup as,.tup bs=>eqL (eqN n) as bs
  | .lst as,.lst bs=>eqL (eqN n) as bs
  | .lst as,.seq bs=>eqL (eqN n) as bs
  | .seq as,.lst bs=>eqL (eqN n) as bs
  | .seq as,.seq bs=>eqL (eqN n) as bs
  | .non,.tup _=>some false
  | .tup _,.non=>some false
  | .non,.lst _=>some false
  | .lst _,.non=>some false
  | .non,.seq _=>some false
  | .seq _,.non=>some false
  | a,b=>if dD a && dD b then some (eqF a b) else none
theorem wo {f:D->D->Option Bool}:∀ {as bs:List D} {c:Bool},eqL f as bs=some c->∀ (j:Nat) (a b:D),as[j]? = some a->bs[j]? = some b->∃ x,f a b=some x
 | [],_,_,_,_,_,_,h,_=>by simp at h
 | _ :: _,[],_,_,_,_,_,_,h=>by simp at h
 | a :: as,b :: bs,c,h,j,x,y,h1,h2=>by
  obtain ⟨u,e1,h⟩:=Za.mp (show ((f a b).bind _)=some c from h)
  obtain ⟨v,e2,h⟩:=Za.mp h
  cases j with
  | zero=>simp at h1 h2;subst h1 h2;exact ⟨u,e1⟩
  | succ j=>exact wo e2 j x y (by simpa using h1) (by simpa using h2)
theorem rD {f:D->D->Option Bool}:∀ {as bs:List D} {c:Bool} {e:Nat->Bool},eqL f as bs=some c->(∀ (j:Nat) (a b:D) (x:Bool),as[j]? = some a->bs[j]? = some b->f a b=some x->e j=x)->((List.range (min as.length bs.length)).all e && as.length == bs.length)=c
 | [],[],c,e,h,_=>by cases h;rfl
 | [],_ :: _,c,e,h,_=>by cases h;simp
 | _ :: _,[],c,e,h,_=>by cases h;simp
 | a :: as,b :: bs,c,e,h,he=>by
  obtain ⟨u,e1,h⟩:=Za.mp (show ((f a b).bind _)=some c from h)
  obtain ⟨v,e2,h⟩:=Za.mp h
  cases h
  have ih:=rD (e:=fun j=>e (j+1)) e2 fun j x y z h1 h2 h3=>he (j+1) x y z (by simpa using h1) (by simpa using h2) h3
  have h0:e 0=u:=he 0 a b u rfl rfl e1
  show ((List.range (min (as.length+1) (bs.length+1))).all e && (as.length+1) == (bs.length+1))=(u && v)
  have hm:min (as.length+1) (bs.length+1)=min as.length bs.length+1:=by omega
  have hq:((as.length+1) == (bs.length+1))=(as.length == bs.length):=by rw [Bool.eq_iff_iff];simp
  rw [<- ih,<- h0,hm,List.range_succ_eq_map,List.all_cons,List.all_map,Bool.and_assoc,hq]
  rfl
theorem wn {f:D->D->Option Bool}:∀ {as bs:List D} {c:Bool},eqL f as bs=some c->as.length ≠ bs.length->c=false
 | [],[],_,_,n=>absurd rfl n
 | [],_ :: _,c,h,_=>by cases h;rfl
 | _ :: _,[],c,h,_=>by cases h;rfl
 | a :: as,b :: bs,c,h,n=>by
  obtain ⟨u,e1,h⟩:=Za.mp (show ((f a b).bind _)=some c from h)
  obtain ⟨v,e2,h⟩:=Za.mp h
  cases h
  rw [wn e2 (fun z=>n (congrArg (· + 1) z)),Bool.and_false]
theorem rF {A:Around} {s:Shared} {b:Addr} {k:Bool} (h:SeqAt.RcAt A s .none (.ref b) k):SeqAt.EqAt A s .none (.ref b) k:=fun prog w E Q hq=>by
 unfold eqBool
 refine wpAny_holding (wpAny_ite_split (fun z=>nomatch (eq_of_beq z:Value.none=Value.ref b)) fun _=>?_)
 have z:=h prog w E (fun a s'=>wpAny (model prog w) A (truthOfDropped a) Q E s') (wpAny_truthy_bool hq)
 exact wpAny_bind z
theorem rE {A:Around} {s:Shared} {b:Addr} {k:Bool} (h:SeqAt.RcAt A s (.ref b) .none k):SeqAt.EqAt A s (.ref b) .none k:=fun prog w E Q hq=>by
 unfold eqBool
 refine wpAny_holding (wpAny_ite_split (fun z=>nomatch (eq_of_beq z:Value.ref b=Value.none)) fun _=>?_)
 have z:=h prog w E (fun a s'=>wpAny (model prog w) A (truthOfDropped a) Q E s') (wpAny_truthy_bool hq)
 exact wpAny_bind z
section
variable {X:Cx} {pins:List (Addr×Obj)} {σ:L2.St} {H:Hp} {s:Shared}
theorem lB (I:L2.Inv X pins σ H s):∀ (n:Nat) {v:V} {a b:D} {c:Bool},Rep X.K H v a->Rep X.K H v b->eqN n a b=some c->c=true
 | 0,v,a,b,c,ra,rb,h=>by
  unfold eqN at h
  split at h
  . rename_i hf
    cases h
    rw [Bool.and_eq_true] at hf
    have e1:=(ra.flat hf.1).2
    have e2:=(rb.flat hf.2).2
    rw [<- nw e1 e2]
    cases ra <;> first | rfl | (simp [eqV];done) | exact absurd hf.1 Bool.false_ne_true
  . cases h
 | n+1,v,a,b,c,ra,rb,h=>by
  have many:∀ {vs:List V} {as bs:List D},Reps X.K H vs as->Reps X.K H vs bs->∀ {c:Bool},eqL (eqN n) as bs=some c->c=true:=by
   intro vs
   induction vs with
   | nil=>intro as bs r1 r2 c h;cases r1;cases r2;cases h;rfl
   | cons v vs ih =>
    intro as bs r1 r2 c h
    cases r1 with
    | cons p1 t1 =>
     cases r2 with
     | cons p2 t2 =>
      obtain ⟨u,e1,h⟩:=Za.mp (show ((eqN n _ _).bind _)=some c from h)
      obtain ⟨w,e2,h⟩:=Za.mp h
      cases h
      rw [lB I n p1 p2 e1,ih t1 t2 e2]
      rfl
  have flatC:∀ {a b:D},Rep X.K H v a->Rep X.K H v b->(if dD a && dD b then some (eqF a b) else none)=some c->c=true:=fun {a b} ra rb h=>by
   refine lB I 0 ra rb ?_
   unfold eqN
   exact h
  cases ra with
  | non=>cases rb;exact flatC .non .non h
  | bl x=>cases rb;exact flatC (.bl x) (.bl x) h
  | int x=>cases rb;exact flatC (.int x) (.int x) h
  | str x=>cases rb;exact flatC (.str x) (.str x) h
  | ty x=>cases rb;exact flatC (.ty x) (.ty x) h
  | @tup p vs as hp rp =>
   cases rb with
   | @tup _ ws bs hq rq =>
    have e:=I.tuple_inj hp hq
    subst e
    exact many rp rq h
   | lst _ _=>cases h
   | seq _ _=>cases h
   | dct _=>cases h
   | exc _=>cases h
   | cls _=>cases h
   | ms _ _ _=>cases h
   | mf _ _ _=>cases h
   | md _ _ _=>cases h
  | @lst p vs as hp rp =>
   cases rb with
   | @lst _ ws bs hq rq =>
    have e:=I.list_inj (SqL.of (K:=X.K) hp) (SqL.of hq)
    subst e
    exact many rp rq h
   | @seq _ ws bs hq rq =>
    have e:=I.list_inj (SqL.of hp) hq
    subst e
    exact many rp rq h
   | tup _ _=>cases h
   | dct _=>cases h
   | exc _=>cases h
   | cls _=>cases h
   | ms _ _ _=>cases h
   | mf _ _ _=>cases h
   | md _ _ _=>cases h
  | @seq p vs as hp rp =>
   cases rb with
   | @lst _ ws bs hq rq =>
    have e:=I.list_inj hp (SqL.of hq)
    subst e
    exact many rp rq h
   | @seq _ ws bs hq rq =>
    have e:=I.list_inj hp hq
    subst e
    exact many rp rq h
   | tup _ _=>cases h
   | dct _=>cases h
   | exc _=>cases h
   | cls _=>cases h
   | ms _ _ _=>cases h
   | mf _ _ _=>cases h
   | md _ _ _=>cases h
  | dct h1=>cases rb <;> cases h
  | exc h1=>cases rb <;> cases h
  | cls C=>cases rb <;> cases h
  | ms=>cases rb <;> cases h
  | mf=>cases rb <;> cases h
  | md=>cases rb <;> cases h
theorem wj (I:L2.Inv X pins σ H s):∀ (n:Nat) (A:Around),A.units+n < cLine->∀ {x y:V} {u v:Value} {a b:D} {c:Bool},RelV x u->RelV y v->Rep X.K H x a->Rep X.K H y b->eqN n a b=some c->SeqAt.RcAt A s u v c/\SeqAt.RcNeAt A s u v (!c)/\SeqAt.EqAt A s u v c
 | 0,A,hu,x,y,u,v,a,b,c,rx,ry,ra,rb,h=>by
  unfold eqN at h
  split at h
  . rename_i hf
    cases h
    rw [Bool.and_eq_true] at hf
    have z:=vt (A:=A) (s:=s) rx ry ra rb hf.1 hf.2
    refine ⟨z.1,z.2,?_⟩
    rw [<- nw (ra.flat hf.1).2 (rb.flat hf.2).2]
    exact uQ rx ry (ra.flat hf.1).1 (rb.flat hf.2).1
  . cases h
 | n+1,A,hu,x,y,u,v,a,b,c,rx,ry,ra,rb,h=>by
  have hu0:A.units < cLine:=by omega
  have hu1:A.in1.units+n < cLine:=by show A.units+1+n < cLine;omega
  have items:∀ {vs ws:List V} {us zs:List Value} {as bs:List D} {c:Bool},Vals vs us->Vals ws zs->Reps X.K H vs as->Reps X.K H ws bs->eqL (eqN n) as bs=some c ->
   ∃ e:Nat->Bool,(∀ j (h1:j < us.toArray.size) (h2:j < zs.toArray.size),SeqAt.EqAt A.in1 s us.toArray[j] zs.toArray[j] (e j))/\∀ (j:Nat) (a b:D) (x:Bool),as[j]? = some a->bs[j]? = some b->eqN n a b=some x->e j=x:=by
   intro vs ws us zs as bs c r1 r2 q1 q2 h
   refine ⟨fun j=>((as[j]?).bind fun a=>(bs[j]?).bind fun b=>eqN n a b).getD true,fun j h1 h2=>?_,fun j a b x e1 e2 e3=>by dsimp only;rw [e1,e2,Zc,Zc,e3];rfl⟩
   have l1:=r1.length
   have l2:=r2.length
   rw [List.size_toArray] at h1 h2
   have k1:j < vs.length:=by omega
   have k2:j < ws.length:=by omega
   obtain ⟨u',e1,p1⟩:=r1.get (i:=j) (x:=vs[j]) (by simp [k1])
   obtain ⟨z',e2,p2⟩:=r2.get (i:=j) (x:=ws[j]) (by simp [k2])
   obtain ⟨a',e3,p3⟩:=q1.getV (i:=j) (v:=vs[j]) (by simp [k1])
   obtain ⟨b',e4,p4⟩:=q2.getV (i:=j) (v:=ws[j]) (by simp [k2])
   have w1:us.toArray[j]=u':=by
    have z:us[j]? = some us[j]:=by simp [h1]
    rw [z] at e1;simpa using e1
   have w2:zs.toArray[j]=z':=by
    have z:zs[j]? = some zs[j]:=by simp [h2]
    rw [z] at e2;simpa using e2
   obtain ⟨x',ex⟩:=wo h j a' b' e3 e4
   dsimp only
   rw [w1,w2,e3,e4,Zc,Zc,ex]
   exact (wj I n A.in1 hu1 p1 p2 p3 p4 ex).2.2
  have refs:∀ {p q:Addr},u=.ref p->v=.ref q->SeqAt.RcAt A s (.ref p) (.ref q) c->SeqAt.RcNeAt A s (.ref p) (.ref q) (!c)->SeqAt.RcAt A s u v c/\SeqAt.RcNeAt A s u v (!c)/\SeqAt.EqAt A s u v c:=fun {p q} e1 e2 z1 z2=>by
   subst e1 e2
   refine ⟨z1,z2,?_⟩
   by_cases hpq:p=q
   . subst hpq
     have exy:x=y:=rx.inj ry
     subst exy
     rw [lB I (n+1) ra rb h]
     exact SeqAt.EqAt.same _
   . exact SeqAt.EqAt.of_refs hpq z1
  have lists:∀ {p q:Addr} {vs ws:List V} {as bs:List D},u=.ref p->v=.ref q->SqL X.K H p vs->SqL X.K H q ws->Reps X.K H vs as->Reps X.K H ws bs->eqL (eqN n) as bs=some c->SeqAt.RcAt A s u v c/\SeqAt.RcNeAt A s u v (!c)/\SeqAt.EqAt A s u v c:=fun {p q vs ws as bs} e1 e2 hp hq rp rq hc=>by
   obtain ⟨its,r1,t1,_⟩:=I.list hp
   obtain ⟨jts,r2,t2,_⟩:=I.list hq
   have l1:its.toArray.size=as.length:=by rw [List.size_toArray,<- r1.length,rp.length]
   have l2:jts.toArray.size=bs.length:=by rw [List.size_toArray,<- r2.length,rq.length]
   obtain ⟨e,he,hx⟩:=items r1 r2 rp rq hc
   by_cases hl:its.toArray.size=jts.toArray.size
   . have z:=rD hc hx
     have hb:(as.length == bs.length)=true:=by rw [beq_iff_eq];omega
     have hm:min as.length bs.length=its.toArray.size:=by omega
     rw [hb,hm,Bool.and_true] at z
     have z1:=SeqAt.RcAt.lists (A:=A) (s:=s) t1.isList t2.isList hl hu0 he
     have z2:=SeqAt.RcNeAt.lists (A:=A) (s:=s) t1.isList t2.isList hl hu0 he
     rw [z] at z1 z2
     exact refs e1 e2 z1 z2
   . have z1:=SeqAt.RcAt.lists_lengths (A:=A) (s:=s) t1.isList t2.isList (by simpa [bne_iff_ne] using hl) hu0
     have z2:=SeqAt.RcNeAt.lists_lengths (A:=A) (s:=s) t1.isList t2.isList (by simpa [bne_iff_ne] using hl) hu0
     have z:=wn hc (by omega)
     subst z
     exact refs e1 e2 z1 z2
  have flatC:(if dD a && dD b then some (eqF a b) else none)=some c->SeqAt.RcAt A s u v c/\SeqAt.RcNeAt A s u v (!c)/\SeqAt.EqAt A s u v c:=fun h=>wj I 0 A (by omega) rx ry ra rb (by unfold eqN;exact h)
  cases ra with
  | non =>
   cases (show u=Value.none from rx)
   cases rb with
   | @tup q ws bs hq rq =>
    cases h
    cases (show v=Value.ref q from ry)
    obtain ⟨its,r1,t1,_⟩:=I.tuple hq
    exact ⟨SeqAt.RcAt.none_tuple t1 hu0,SeqAt.RcNeAt.none_tuple t1 hu0,rF (SeqAt.RcAt.none_tuple t1 hu0)⟩
   | @lst q ws bs hq rq =>
    cases h
    cases (show v=Value.ref q from ry)
    obtain ⟨its,r1,t1,_⟩:=I.list (SqL.of (K:=X.K) hq)
    exact ⟨SeqAt.RcAt.none_list t1.isList hu0,SeqAt.RcNeAt.none_list t1.isList hu0,rF (SeqAt.RcAt.none_list t1.isList hu0)⟩
   | @seq q ws bs hq rq =>
    cases h
    cases (show v=Value.ref q from ry)
    obtain ⟨its,r1,t1,_⟩:=I.list hq
    exact ⟨SeqAt.RcAt.none_list t1.isList hu0,SeqAt.RcNeAt.none_list t1.isList hu0,rF (SeqAt.RcAt.none_list t1.isList hu0)⟩
   | _=>exact flatC h
  | @tup p vs as hp rp =>
   cases rb with
   | @tup q ws bs hq rq =>
    obtain ⟨its,r1,t1,_⟩:=I.tuple hp
    obtain ⟨jts,r2,t2,_⟩:=I.tuple hq
    have l1:its.toArray.size=as.length:=by rw [List.size_toArray,<- r1.length,rp.length]
    have l2:jts.toArray.size=bs.length:=by rw [List.size_toArray,<- r2.length,rq.length]
    have hc:eqL (eqN n) as bs=some c:=h
    obtain ⟨e,he,hx⟩:=items r1 r2 rp rq hc
    have z:=rD hc hx
    have z1:=SeqAt.RcAt.tuples (A:=A) (s:=s) t1 t2 hu0 he
    have z2:=SeqAt.RcNeAt.tuples (A:=A) (s:=s) t1 t2 hu0 he
    rw [l1,l2,z] at z1 z2
    exact refs (show u=Value.ref p from rx) (show v=Value.ref q from ry) z1 z2
   | non =>
    cases h
    cases (show u=Value.ref p from rx)
    cases (show v=Value.none from ry)
    obtain ⟨its,r1,t1,_⟩:=I.tuple hp
    exact ⟨SeqAt.RcAt.tuple_none t1 hu0,SeqAt.RcNeAt.tuple_none t1 hu0,rE (SeqAt.RcAt.tuple_none t1 hu0)⟩
   | _=>cases h
  | @lst p vs as hp rp =>
   cases rb with
   | @lst q ws bs hq rq=>exact lists (show u=Value.ref p from rx) (show v=Value.ref q from ry) (SqL.of hp) (SqL.of hq) rp rq h
   | @seq q ws bs hq rq=>exact lists (show u=Value.ref p from rx) (show v=Value.ref q from ry) (SqL.of hp) hq rp rq h
   | non =>
    cases h
    cases (show u=Value.ref p from rx)
    cases (show v=Value.none from ry)
    obtain ⟨its,r1,t1,_⟩:=I.list (SqL.of (K:=X.K) hp)
    exact ⟨SeqAt.RcAt.list_none t1.isList hu0,SeqAt.RcNeAt.list_none t1.isList hu0,rE (SeqAt.RcAt.list_none t1.isList hu0)⟩
   | _=>cases h
  | @seq p vs as hp rp =>
   cases rb with
   | @lst q ws bs hq rq=>exact lists (show u=Value.ref p from rx) (show v=Value.ref q from ry) hp (SqL.of hq) rp rq h
   | @seq q ws bs hq rq=>exact lists (show u=Value.ref p from rx) (show v=Value.ref q from ry) hp hq rp rq h
   | non =>
    cases h
    cases (show u=Value.ref p from rx)
    cases (show v=Value.none from ry)
    obtain ⟨its,r1,t1,_⟩:=I.list hp
    exact ⟨SeqAt.RcAt.list_none t1.isList hu0,SeqAt.RcNeAt.list_none t1.isList hu0,rE (SeqAt.RcAt.list_none t1.isList hu0)⟩
   | _=>cases h
  | bl x=>cases rb <;> first | exact flatC h | cases h
  | int x=>cases rb <;> first | exact flatC h | cases h
  | str x=>cases rb <;> first | exact flatC h | cases h
  | ty x=>cases rb <;> first | exact flatC h | cases h
  | dct h1=>cases rb <;> first | exact flatC h | cases h
  | exc h1=>cases rb <;> first | exact flatC h | cases h
  | cls C=>cases rb <;> first | exact flatC h | cases h
  | ms=>cases rb <;> first | exact flatC h | cases h
  | mf=>cases rb <;> first | exact flatC h | cases h
  | md=>cases rb <;> first | exact flatC h | cases h
end
def cv (a b:D):Option D:=(eqN 6 a b).map D.bl
def lL (a b:D):Option D:=(eqN 6 a b).map fun c=>D.bl (!c)
def C6 (K:PySem.W.Frag):R2:=fun x y H Q=>∃ a b c,Rep K H x a/\Rep K H y b/\eqN 6 a b=some c/\Q (.bl c) H
def C0 (K:PySem.W.Frag):R2:=fun x y H Q=>∃ a b c,Rep K H x a/\Rep K H y b/\eqN 6 a b=some c/\Q (.bl (!c)) H
section
variable {X:Cx} {a b:Expr} {fa fb:FD} {pos:Pos}
theorem yA (hu:X.A.units+64 < cLine):OpR X (compareOp .Eq) (C6 X.K):=by
 intro pins s σ H x y v u Q I rx ry ⟨a,b,c,ra,rb,e,q⟩
 exact (wj I 6 X.A (by omega) rx ry ra rb e).1 X.prog X.w _ _ ⟨.bl c,H,I,rfl,q⟩
theorem B3 (hu:X.A.units+64 < cLine):OpR X (compareOp .NotEq) (C0 X.K):=by
 intro pins s σ H x y v u Q I rx ry ⟨a,b,c,ra,rb,e,q⟩
 exact (wj I 6 X.A (by omega) rx ry ra rb e).2.1 X.prog X.w _ _ ⟨.bl (!c),H,I,rfl,q⟩
theorem x6 {K:PySem.W.Frag}:R2D K (C6 K) cv:=by
 intro x y H Q a b d ra rb e k
 unfold cv at e
 obtain ⟨c,hc,e⟩:=Zb.mp e
 cases e
 exact ⟨a,b,c,ra,rb,hc,k _ H (Same.refl H) (.bl _)⟩
theorem Bz {K:PySem.W.Frag}:R2D K (C0 K) lL:=by
 intro x y H Q a b d ra rb e k
 unfold lL at e
 obtain ⟨c,hc,e⟩:=Zb.mp e
 cases e
 exact ⟨a,b,c,ra,rb,hc,k _ H (Same.refl H) (.bl _)⟩
theorem oh (hu:X.A.units+64 < cLine) (ha:PD X a fa) (hb:PD X b fb):PD X (.Compare a [.Eq] [b] pos) (f2 cv fa fb):=qR (yA hu) x6 ha hb (gd _)
theorem iN (hu:X.A.units+64 < cLine) (ha:PD X a fa) (hb:PD X b fb):PTD X (.Compare a [.Eq] [b] pos) (fT (f2 cv fa fb)):=gt (yA hu) x6 ha hb (gd _)
theorem vx (hu:X.A.units+64 < cLine) (ha:PD X a fa) (hb:PD X b fb):PTD X (.Compare a [.NotEq] [b] pos) (fT (f2 lL fa fb)):=gt (B3 hu) Bz ha hb (gd _)
end
end Dl
namespace Dl
open PySem PySem.Spec PyProof.Rows L2
section
open PySem.SeqAt
open PySem.AutoSeq1 (wpAny_loadPart')
open PySem.MeetsSeq PySem.MeetsSeq2 PySem.MeetsSeq3
end
section
variable {X:Cx} {a b:Expr} {fa fb:FD} {pos:Pos}
end
theorem pvi {X:Cx} (i:Nat) {x:Str} {pos:Pos} (hN:X.N[i]? = some x:=by rfl) (hv:Vis X.env.scope x:=by first | exact Or.inl rfl | exact Or.inr (Or.inl rfl) | exact Or.inr (Or.inr rfl)) (hd:(x == ("__debug__":Str))=false:=by decide)
 (hcd:(x == ("__classdict__":Str))=false:=by decide):PE X (.Name x pos) (qx i):=n9 hN hv hd hcd
end Dl
namespace Dl
open PySem PySem.Spec PyProof.Rows L2
section
variable {X:Cx} {pos:Pos} {r:Nat} {c e:Expr} {f:FD} {g:List D->Option (List D)} {rest:List Stmt}
end
end Dl
namespace Dl
open PySem PySem.Spec PyProof.Rows L2
theorem CompOk.nil {X:Cx} {scope:Scope} {x:Str} (clos:closureFor scope X.env=pure []:=by rfl) (nocell:∀ y∈scope.names,y.2 ≠ .cell:=by decide +kernel) (kind:scope.kind=.function:=by rfl)
 (names:∀ y∈scope.names,y.2=.local->scope.names.lookup y.1=some .local:=by decide +kernel) (hx:scope.names.lookup x=some .local:=by rfl) (hfr:∀ p∈scope.names,p.2 ≠ .free:=by decide +kernel):CompOk X scope [] x [x] [] where
 clos:=clos
 nocell:=nocell
 kind:=kind
 names:=names
 hx:=hx
 nd:=by simp
 h0:=rfl
 len:=rfl
 clx:=rfl
 cls:=fun y a h=>by cases h
 has:=fun y h=>by
  have key:∀ k,(k=NameKind.cell \/ k=NameKind.free)->(relabel scope X.env).names.lookup y=some k->False:=fun k hk h=>by
   have m:=PySem.mem_of_lookup h
   unfold relabel at m
   obtain ⟨⟨n,k'⟩,m1,m2⟩:=Zm.mp m
   dsimp only at m2
   refine hfr _ m1 ?_
   show k'=NameKind.free
   split at m2
   . rename_i hc
     rw [Bool.and_eq_true,Bool.and_eq_true] at hc
     exact beq_iff_eq.mp hc.1.1
   . have e:k'=k:=congrArg Prod.snd m2
     rcases hk with z1 | z1
     . exact absurd (e.trans z1) (nocell _ m1)
     . exact e.trans z1
  rcases h with h | h
  . exact (key _ (.inl rfl) h).elim
  . exact (key _ (.inr rfl) h).elim
 fr:=fun i y k h1 h2=>by simp at h2
end Dl
namespace Dl
open PySem PySem.Spec PyProof.Rows L2
def qy:List Nat->TGs
 | []=>DE
 | i :: is=>Bb (v7 i) (qy is)
def r9:List Nat->List D->DS->DS
 | i :: is,d :: ds,δ=>r9 is ds (δ.set i (some d))
 | _,_,δ=>δ
def vU (is:List Nat) (n:Nat):Bool:=is.all fun i=>decide (i < n)
theorem ss {K:PySem.W.Frag} {F H:Hp}:∀ {vs:List V} {ds:List D},Reps K H vs ds->cn ds=true->RepOs K F H vs ds []
 | _,_,.nil,_=>.nil
 | _,_,.cons r t,i=>by
  rw [cn,Bool.and_eq_true] at i
  exact .cons (.imm i.1 r) (ss t i.2) rfl
theorem RepO.parts {K:PySem.W.Frag} {F H:Hp} {v:V} {ds:List D} {A:List Addr} (r:RepO K F H v (.tup ds) A):∃ a vs,v=.ref a/\SqT K H a vs/\RepOs K F H vs ds A:=by
 cases r with
 | imm i h =>
  cases h with
  | tup h r=>exact ⟨_,_,rfl,h,ss r (by rw [Dl.imm] at i;exact i)⟩
 | tup h r=>exact ⟨_,_,rfl,h,r⟩
theorem RepOs.len {K:PySem.W.Frag} {F H:Hp}:∀ {vs:List V} {ds:List D} {A:List Addr},RepOs K F H vs ds A->vs.length=ds.length
 | _,_,_,.nil=>rfl
 | _,_,_,.cons _ t _=>by rw [List.length_cons,List.length_cons,RepOs.len t]
theorem sQ {K:PySem.W.Frag} {F H:Hp}:∀ (is:List Nat) {vs:List V} {ds:List D} {A:List Addr} {σ:L2.St} {δ:DS} {As:Nat->List Addr} {Q:L2.St->Hp->Prop},RepOs K F H vs ds A->A.Nodup->(∀ j a,a∈As j->a ∉ A)->RepA K F H σ δ As->ds.length=is.length->vU is δ.length=true->(∀ σ',gT K F H σ' (r9 is ds δ)->Q σ' H)->qy is vs σ H Q
 | [],_,_,_,σ,δ,As,Q,.nil,_,_,R,_,_,k=>⟨rfl,k σ ⟨As,R⟩⟩
 | [],_,_,_,_,_,_,_,.cons _ _ _,_,_,_,l,_,_=>by cases l
 | _ :: _,_,_,_,_,_,_,_,.nil,_,_,_,l,_,_=>by cases l
 | i :: is,_,_,_,σ,δ,As,Q,.cons (v:=v) (d:=d) (vs:=vs) (ds:=ds) (A:=A) (B:=B) r t e,nd,dj,R,l,hi,k=>by
  subst e
  have hi':(decide (i < δ.length) && vU is δ.length)=true:=hi
  rw [Bool.and_eq_true] at hi'
  have h1:i < δ.length:=of_decide_eq_true hi'.1
  rw [List.nodup_append] at nd
  have R1:=R.set i h1 r nd.1 fun j a _ m z=>dj j a m (List.mem_append_left _ z)
  refine ⟨v,vs,rfl,?_⟩
  show qy is vs (σ.set i (some v)) H Q
  refine sQ is t nd.2.1 (fun j a m z=>?_) R1 (by simpa using l) (by rw [List.length_set];exact hi'.2) k
  unfold lc at m
  by_cases hj:j=i
  . rw [if_pos hj] at m
    exact nd.2.2 a m a z rfl
  . rw [if_neg hj] at m
    exact dj j a m (List.mem_append_right _ z)
def nR (is:List Nat) (fm:FM):SD:=fun δ=>(fm δ).bind fun p=>match p.1 with
 | .tup ds=>if ds.length=is.length/\vU is p.2.length=true then some (.nx (r9 is ds p.2)) else none
 | _=>none
theorem pgN {X:Cx} (i:Nat) {x:Str} {pos:Pos} (hN:X.N.Nodup) (hi:X.N[i]? = some x:=by rfl) (hx:Loc X.env.scope x:=by first | exact Or.inl rfl | exact Or.inr rfl) (hf:X.fn x=true \/ X.env.scope.names.lookup x=some .local:=by first | exact .inl rfl | exact .inr rfl | assumption):PG X (.Name x pos) (v7 i):=jH hN hi hx hf
theorem yk {X:Cx} {e:Expr} {es:List Expr} {kt:Nat} {pt pos:Pos} {fm:FM} (is:List Nat) (he:PV X e fm) (hg:PG X (.Tuple es kt pt) (DD X.K is.length (qy is)))
 (hs:swapsWithSole [.Tuple es kt pt] e pos.line X.env=pure false:=by rfl) (hw:swappedStores [.Tuple es kt pt] e X.env=pure none:=by rfl)
 (h1:(assignEach [.Tuple es kt pt] X.env).map (·.2)=[assign (.Tuple es kt pt) X.env]:=by rfl):PMD X (.Assign [.Tuple es kt pt] e pos) (nR is fm):=gS (ut he hg hs hw h1) fun E σ H ⟨F,δ,r,⟨As,R⟩,q,k⟩=>by
 unfold nR at q
 obtain ⟨⟨d,δ'⟩,ed,q⟩:=Za.mp q
 dsimp only at q
 split at q
 . rename_i ds
   split at q
   . rename_i hl
     cases q
     refine ⟨F,δ,As,_,δ',R,ed,fun v F' H' A As' ev R' r'=>?_⟩
     obtain ⟨a,vs,rfl,sq,ro⟩:=r'.parts
     exact ⟨a,vs,rfl,sq,ro.len.trans hl.1,sQ is ro ev.nd ev.dj R' hl.1 hl.2 fun σ' R2=>k σ' F' H' ev.fs R2⟩
   . cases q
 . cases q
end Dl
namespace Dl
open PySem PySem.Spec PyProof.Rows L2
theorem vO {y z u:Str} {c e a:Addr} (h:List.lookup y [(z,c),(u,e)]=some a):(y=z/\c=a) \/ (y=u/\e=a):=by
 by_cases hy:y=z
 . subst hy
   simp at h
   exact .inl ⟨rfl,h⟩
 . have q:(y == z)=false:=beq_eq_false_iff_ne.mpr hy
   rw [List.lookup_cons,q] at h
   by_cases hu:y=u
   . subst hu
     simp at h
     exact .inr ⟨rfl,h⟩
   . have q2:(y == u)=false:=beq_eq_false_iff_ne.mpr hu
     rw [List.lookup_cons,q2] at h
     cases h
theorem m7 {z u:Str} {c e:Addr}:List.lookup z [(z,c),(u,e)]=some c:=by simp
theorem m6 {z u:Str} {c e:Addr} (h:z ≠ u):List.lookup u [(z,c),(u,e)]=some e:=by
 have q:(u == z)=false:=beq_eq_false_iff_ne.mpr h.symm
 rw [List.lookup_cons,q]
 simp
theorem rA {X:Cx} {scope:Scope} {y:Str} (nocell:∀ y∈scope.names,y.2 ≠ .cell) (h:(relabel scope X.env).names.lookup y=some .cell \/ (relabel scope X.env).names.lookup y=some .free):∃ p∈scope.names,p.2=.free/\p.1=y:=by
 have key:∀ k,(k=NameKind.cell \/ k=NameKind.free)->(relabel scope X.env).names.lookup y=some k->∃ p∈scope.names,p.2=.free/\p.1=y:=fun k hk h=>by
  have m:=PySem.mem_of_lookup h
  unfold relabel at m
  obtain ⟨⟨n,k'⟩,m1,m2⟩:=Zm.mp m
  dsimp only at m2
  refine ⟨_,m1,?_,?_⟩
  . show k'=NameKind.free
    split at m2
    . rename_i hc
      rw [Bool.and_eq_true,Bool.and_eq_true] at hc
      exact beq_iff_eq.mp hc.1.1
    . have e:k'=k:=congrArg Prod.snd m2
      rcases hk with z1 | z1
      . exact absurd (e.trans z1) (nocell _ m1)
      . exact e.trans z1
  . show n=y
    split at m2 <;> exact congrArg Prod.fst m2
 rcases h with h | h
 . exact key _ (.inl rfl) h
 . exact key _ (.inr rfl) h
theorem CompOk.two {X:Cx} {scope:Scope} {c e:Addr} {x z u:Str} {j k:Nat} (clos:closureFor scope X.env=pure [(z,c),(u,e)]:=by rfl) (nocell:∀ y∈scope.names,y.2 ≠ .cell:=by decide +kernel) (kind:scope.kind=.function:=by rfl)
 (names:∀ y∈scope.names,y.2=.local->scope.names.lookup y.1=some .local:=by decide +kernel) (hx:scope.names.lookup x=some .local:=by rfl) (hne:x ≠ z:=by decide +kernel) (hne':x ≠ u:=by decide +kernel) (hzu:z ≠ u:=by decide +kernel) (hcell:X.env.cells.lookup z=some c:=by rfl) (hcell':X.env.cells.lookup u=some e:=by rfl)
 (hfr:∀ p∈scope.names,p.2=.free->p.1=z \/ p.1=u:=by decide +kernel) (hj:X.N[j]? = some z:=by rfl) (hJ:X.N[k]? = some u:=by rfl) (hk:X.env.scope.names.lookup z=some .cell:=by rfl) (hk':(relabel scope X.env).names.lookup z=some .cell:=by rfl) (hu:X.env.scope.names.lookup u=some .cell:=by rfl) (hu':(relabel scope X.env).names.lookup u=some .cell:=by rfl):CompOk X scope [(z,c),(u,e)] x [x,z,u] [j,k] where
 clos:=clos
 nocell:=nocell
 kind:=kind
 names:=names
 hx:=hx
 nd:=by simp [hne,hne',hzu]
 h0:=rfl
 len:=rfl
 clx:=by
  cases q:List.lookup x [(z,c),(u,e)] with
  | none=>rfl
  | some a=>rcases vO q with ⟨h,_⟩ | ⟨h,_⟩ <;> exact absurd h (by assumption)
 cls:=fun y a h=>by
  rcases vO h with ⟨rfl,rfl⟩ | ⟨rfl,rfl⟩
  . exact hcell
  . exact hcell'
 has:=fun y h=>by
  obtain ⟨p,m,f,rfl⟩:=rA nocell h
  rcases hfr p m f with q | q
  . exact ⟨c,by rw [q];exact m7⟩
  . exact ⟨e,by rw [q];exact m6 hzu⟩
 fr:=fun i y l h1 h2=>by
  match i with
  | 0 =>
   have e1:z=y:=Option.some.inj h1
   have e2:j=l:=Option.some.inj h2
   subst e1 e2
   refine ⟨hj,hk,hk',fun a ha=>?_⟩
   rw [hcell] at ha
   cases ha
   exact m7
  | 1 =>
   have e1:u=y:=Option.some.inj h1
   have e2:k=l:=Option.some.inj h2
   subst e1 e2
   refine ⟨hJ,hu,hu',fun a ha=>?_⟩
   rw [hcell'] at ha
   cases ha
   exact m6 hzu
  | i+2=>cases h2
theorem CompOk.swp {X:Cx} {scope:Scope} {c e:Addr} {x z u:Str} {j k:Nat} (clos:closureFor scope X.env=pure [(u,e),(z,c)]:=by rfl) (nocell:∀ y∈scope.names,y.2 ≠ .cell:=by decide +kernel) (kind:scope.kind=.function:=by rfl)
 (names:∀ y∈scope.names,y.2=.local->scope.names.lookup y.1=some .local:=by decide +kernel) (hx:scope.names.lookup x=some .local:=by rfl) (hne:x ≠ z:=by decide +kernel) (hne':x ≠ u:=by decide +kernel) (hzu:u ≠ z:=by decide +kernel) (hcell:X.env.cells.lookup z=some c:=by rfl) (hcell':X.env.cells.lookup u=some e:=by rfl)
 (hfr:∀ p∈scope.names,p.2=.free->p.1=z \/ p.1=u:=by decide +kernel) (hj:X.N[j]? = some z:=by rfl) (hJ:X.N[k]? = some u:=by rfl) (hk:X.env.scope.names.lookup z=some .cell:=by rfl) (hk':(relabel scope X.env).names.lookup z=some .cell:=by rfl) (hu:X.env.scope.names.lookup u=some .cell:=by rfl) (hu':(relabel scope X.env).names.lookup u=some .cell:=by rfl):CompOk X scope [(u,e),(z,c)] x [x,z,u] [j,k] where
 clos:=clos
 nocell:=nocell
 kind:=kind
 names:=names
 hx:=hx
 nd:=by simp [hne,hne',hzu.symm]
 h0:=rfl
 len:=rfl
 clx:=by
  cases q:List.lookup x [(u,e),(z,c)] with
  | none=>rfl
  | some a=>rcases vO q with ⟨h,_⟩ | ⟨h,_⟩ <;> exact absurd h (by assumption)
 cls:=fun y a h=>by
  rcases vO h with ⟨rfl,rfl⟩ | ⟨rfl,rfl⟩
  . exact hcell'
  . exact hcell
 has:=fun y h=>by
  obtain ⟨p,m,f,rfl⟩:=rA nocell h
  rcases hfr p m f with q | q
  . exact ⟨c,by rw [q];exact m6 hzu⟩
  . exact ⟨e,by rw [q];exact m7⟩
 fr:=fun i y l h1 h2=>by
  match i with
  | 0 =>
   have e1:z=y:=Option.some.inj h1
   have e2:j=l:=Option.some.inj h2
   subst e1 e2
   refine ⟨hj,hk,hk',fun a ha=>?_⟩
   rw [hcell] at ha
   cases ha
   exact m6 hzu
  | 1 =>
   have e1:u=y:=Option.some.inj h1
   have e2:k=l:=Option.some.inj h2
   subst e1 e2
   refine ⟨hJ,hu,hu',fun a ha=>?_⟩
   rw [hcell'] at ha
   cases ha
   exact m7
  | i+2=>cases h2
end Dl
namespace Dl
open PySem PySem.Spec PyProof.Rows L2
end Dl
namespace Dl
open PySem PySem.Spec PyProof.Rows L2
def ic (i j:Int):Prop:=(Bd i/\Bd j) \/ L2.CMul i j
instance (i j:Int):Decidable (ic i j):=by unfold ic L2.CMul;exact inferInstance
theorem Ab {X:Cx}:OpR X (binaryOp .Mult) (rI ic fun i j=>.int (i*j)):=opI fun _ _ _ _ _ _ _ hc q=>by
 rcases hc with hc | hc
 . exact mul_int q (.of_bits hc.1.bits hc.2.bits)
 . exact mul_int q hc.ok
theorem kW {X:Cx} {a b:Expr} {fa fb:FD} {pos:Pos} (ha:PD X a fa) (hb:PD X b fb):PD X (.BinOp a .Mult b pos) (f2 (gI ic fun i j=>.int (i*j)) fa fb):=oa Ab (x8 fun _ _ _=>.int _) ha hb
def Ap:D->Option (List D)
 | .tup ds=>some ds
 | .lst ds=>some ds
 | .seq ds=>some ds
 | _=>none
def gIn (a b:D):Option D:=(Ap b).bind fun ds=>if dD a && ds.all dD then some (.bl (ds.any fun y=>eqF y a)) else none
theorem jF {K:PySem.W.Frag} {H:Hp} {a:D} {x:V} (ha:toV a=some x):∀ {vs:List V} {ds:List D},Reps K H vs ds->ds.all dD=true->vs.all j0=true/\inV x vs=ds.any fun y=>eqF y a
 | _,_,.nil,_=>⟨rfl,rfl⟩
 | v :: vs,d :: ds,.cons r t,f=>by
  rw [List.all_cons,Bool.and_eq_true] at f
  obtain ⟨h1,h2⟩:=r.flat f.1
  obtain ⟨h3,h4⟩:=jF ha t f.2
  refine ⟨by rw [List.all_cons,h1,h3];rfl,?_⟩
  unfold inV at h4 ⊢
  rw [List.any_cons,List.any_cons,h4,nw h2 ha]
theorem Dc {K:PySem.W.Frag}:R2D K (rIn K false) gIn:=by
 intro x y H Q a b d ra rb e k
 unfold gIn at e
 obtain ⟨ds,ed,e⟩:=Za.mp e
 split at e
 . rename_i hf
   rw [Bool.and_eq_true] at hf
   cases e
   obtain ⟨fx,tx⟩:=ra.flat hf.1
   cases rb with
   | @tup p vs _ hp rp =>
    cases ed
    obtain ⟨h1,h2⟩:=jF tx rp hf.2
    refine ⟨p,vs,rfl,.inr hp,fx,h1,?_⟩
    show Q (.bl (inV x vs)) H
    rw [h2]
    exact k _ H (Same.refl H) (.bl _)
   | @lst p vs _ hp rp =>
    cases ed
    obtain ⟨h1,h2⟩:=jF tx rp hf.2
    refine ⟨p,vs,rfl,.inl (SqL.of hp),fx,h1,?_⟩
    show Q (.bl (inV x vs)) H
    rw [h2]
    exact k _ H (Same.refl H) (.bl _)
   | @seq p vs _ hp rp =>
    cases ed
    obtain ⟨h1,h2⟩:=jF tx rp hf.2
    refine ⟨p,vs,rfl,.inl hp,fx,h1,?_⟩
    show Q (.bl (inV x vs)) H
    rw [h2]
    exact k _ H (Same.refl H) (.bl _)
   | _=>cases ed
 . cases e
theorem BH {X:Cx} {a b:Expr} {fa fb:FD} {pos:Pos} (ha:PD X a fa) (hb:PD X b fb) (hm:behindInMarks .In b=false:=by with_unfolding_all rfl):PTD X (.Compare a [.In] [b] pos) (fT (f2 gIn fa fb)):=gt xc Dc ha hb hm
def fq:List D->Option (List Bool)
 | []=>some []
 | .bl b :: ds=>(fq ds).bind fun bs=>some (b :: bs)
 | _ :: _=>none
def zB:List D->Option (List D)
 | [.lst ds]=>some ds
 | [.seq ds]=>some ds
 | _=>none
def Cm (as:List D):Option D:=(zB as).bind fun ds=>(fq ds).bind fun bs=>some (.bl (bs.all id))
def Ck (as:List D):Option D:=(zB as).bind fun ds=>(fq ds).bind fun bs=>some (.bl (bs.any id))
theorem j5 {K:PySem.W.Frag} {H:Hp}:∀ {vs:List V} {ds:List D} {bs:List Bool},Reps K H vs ds->fq ds=some bs->vs=bs.map V.bl
 | _,_,_,.nil,h=>by cases h;rfl
 | v :: vs,d :: ds,bs,.cons r t,h=>by
  cases d with
  | bl b =>
   obtain ⟨cs,h1,h2⟩:=Za.mp (show ((fq ds).bind fun bs=>some (b :: bs))=some bs from h)
   cases h2
   cases r
   rw [j5 t h1]
   rfl
  | _=>cases h
theorem j2:∀ {bs:List Bool} {us:List Value},Vals (bs.map V.bl) us->LSm.BoolsAre us bs
 | [],_,.nil=>.nil
 | b :: bs,u :: us,.cons r t=>by
  have e:u=.bool b:=r
  subst e
  exact .cons b (j2 t)
theorem zw {X:Cx} (hc:X.calm=true):ib X (.builtin "all") (fun xs H Q=>∃ p ys,∃ bs:List Bool,xs=[.ref p]/\SqL X.K H p ys/\ys=bs.map V.bl/\Q (.bl (bs.all id)) H):=by
 intro pins s σ H xs us Q I r h
 obtain ⟨p,ys,bs,rfl,hq,rfl,q⟩:=h
 obtain ⟨u,rfl,rx⟩:=ko r
 cases rx
 obtain ⟨its,r',pl,hz⟩:=I.list hq
 have hb:=j2 r'
 have hlt:p < s.heap.objs.size:=by obtain ⟨_,e,_⟩:=pl.isList;exact Heap.lt_size e
 refine call_all_walk (wpAny_pyIter_list pl.isList ?_)
 refine ⟨s.heap.objs.size,[s.heap.objs.size,p],[s.heap.objs.size],its.toArray.size,_,_,fun i=>(bs[i]?).getD true,rfl,Walks.list (A:=X.A.in1) (I.ok.hd hc) _ p (Nat.ne_of_lt hlt) its.toArray,
  ⟨⟨_,Heap.get?_push_size _ rfl,rfl,rfl⟩,pl.isList.push _⟩,fun i v s' Q' E' hP hQ=>?_,fun h' tk hk=>?_⟩
 . obtain ⟨b,e,rfl⟩:=hb.get i v (by simpa using hP)
   simp only [e,Option.getD_some] at hQ
   exact wpAny_truthy_bool hQ
 . have e:((List.range its.toArray.size).all fun i=>(bs[i]?).getD true)=bs.all id:=by
    rw [List.size_toArray,hb.length];exact LSm.range_all bs
   rw [e]
   exact ⟨.bl _,H,I.kept (t':=tk) (LSm.kept_iter hk),rfl,q⟩
theorem zv {X:Cx} (hc:X.calm=true):ib X (.builtin "any") (fun xs H Q=>∃ p ys,∃ bs:List Bool,xs=[.ref p]/\SqL X.K H p ys/\ys=bs.map V.bl/\Q (.bl (bs.any id)) H):=by
 intro pins s σ H xs us Q I r h
 obtain ⟨p,ys,bs,rfl,hq,rfl,q⟩:=h
 obtain ⟨u,rfl,rx⟩:=ko r
 cases rx
 obtain ⟨its,r',pl,hz⟩:=I.list hq
 have hb:=j2 r'
 have hlt:p < s.heap.objs.size:=by obtain ⟨_,e,_⟩:=pl.isList;exact Heap.lt_size e
 refine call_any_walk (wpAny_pyIter_list pl.isList ?_)
 refine ⟨s.heap.objs.size,[s.heap.objs.size,p],[s.heap.objs.size],its.toArray.size,_,_,fun i=>(bs[i]?).getD false,rfl,Walks.list (A:=X.A.in1) (I.ok.hd hc) _ p (Nat.ne_of_lt hlt) its.toArray,
  ⟨⟨_,Heap.get?_push_size _ rfl,rfl,rfl⟩,pl.isList.push _⟩,fun i v s' Q' E' hP hQ=>?_,fun h' tk hk=>?_⟩
 . obtain ⟨b,e,rfl⟩:=hb.get i v (by simpa using hP)
   simp only [e,Option.getD_some] at hQ
   exact wpAny_truthy_bool hQ
 . have e:((List.range its.toArray.size).any fun i=>(bs[i]?).getD false)=bs.any id:=by
    rw [List.size_toArray,hb.length];exact LSm.range_any bs
   rw [e]
   exact ⟨.bl _,H,I.kept (t':=tk) (LSm.kept_iter hk),rfl,q⟩
theorem pd {K:PySem.W.Frag} {H:Hp} {xs:List V} {as ds:List D} (r:Reps K H xs as) (e:zB as=some ds):∃ p ys,xs=[.ref p]/\SqL K H p ys/\Reps K H ys ds:=by
 unfold zB at e
 split at e
 . cases e
   obtain ⟨x,rfl,rx⟩:=gC r
   cases rx with
   | @lst p vs _ hp rp=>exact ⟨p,vs,rfl,SqL.of hp,rp⟩
 . cases e
   obtain ⟨x,rfl,rx⟩:=gC r
   cases rx with
   | @seq p vs _ hp rp=>exact ⟨p,vs,rfl,hp,rp⟩
 . cases e
theorem Cy {K:PySem.W.Frag}:jy K (fun xs H Q=>∃ p ys,∃ bs:List Bool,xs=[.ref p]/\SqL K H p ys/\ys=bs.map V.bl/\Q (.bl (bs.all id)) H) Cm:=by
 intro xs H Q as d r e k
 unfold Cm at e
 obtain ⟨ds,e1,e⟩:=Za.mp e
 obtain ⟨bs,e2,e⟩:=Za.mp e
 cases e
 obtain ⟨p,ys,h1,h2,h3⟩:=pd r e1
 exact ⟨p,ys,bs,h1,h2,j5 h3 e2,k _ H (Same.refl H) (.bl _)⟩
theorem Cw {K:PySem.W.Frag}:jy K (fun xs H Q=>∃ p ys,∃ bs:List Bool,xs=[.ref p]/\SqL K H p ys/\ys=bs.map V.bl/\Q (.bl (bs.any id)) H) Ck:=by
 intro xs H Q as d r e k
 unfold Ck at e
 obtain ⟨ds,e1,e⟩:=Za.mp e
 obtain ⟨bs,e2,e⟩:=Za.mp e
 cases e
 obtain ⟨p,ys,h1,h2,h3⟩:=pd r e1
 exact ⟨p,ys,bs,h1,h2,j5 h3 e2,k _ H (Same.refl H) (.bl _)⟩
theorem xG:bootBuiltins "all" = some (.builtin "all"):=by decide +kernel
theorem xF:bootBuiltins "any" = some (.builtin "any"):=by decide +kernel
end Dl
namespace Dl
open PySem PySem.Spec PyProof.Rows L2
end Dl
namespace Dl
open PySem PySem.Spec PyProof.Rows L2
def C8 (K:PySem.W.Frag):R2:=fun x y H Q=>∃ l b xs zs,x=.ref l/\y=.ref b/\SqL K H l xs/\SqL K H b zs/\xs.length+zs.length<=sizeLine/\∀ p,H p=none->Q (.ref p) (upd H p (.lst (xs++zs)))
theorem Ad {X:Cx}:OpR X (binaryOp .Add) (C8 X.K):=by
 intro pins s σ H x y v u Q I rx ry h
 obtain ⟨l,b,xs,zs,rfl,rfl,h1,h2,hz,q⟩:=h
 cases rx
 cases ry
 obtain ⟨vs,r1,p1,_⟩:=I.list h1
 obtain ⟨ws,r2,p2,_⟩:=I.list h2
 obtain ⟨⟨k1,g1,a1,t1⟩,n1,o1,c1,_,i1⟩:=p1
 obtain ⟨⟨k2,g2,a2,t2⟩,n2,o2,c2,_,i2⟩:=p2
 simp only at c1 i1 c2 i2
 subst c1 i1 c2 i2
 have hl:=r1.length
 have hl2:=r2.length
 have ea:vs.toArray++ws.toArray=(vs++ws).toArray:=by simp
 refine concat_meets ⟨_,o1,rfl⟩ ⟨_,o2,rfl⟩ noFill_list_add seq_list_add PySem.F.slot_list_add
  PySem.F.entry_list_add (PySem.F.args_list_add_2 _ _)
  (list_addW l b vs.toArray ws.toArray n1 n2 g1 g2 t1 t2 (by rw [List.size_toArray,List.size_toArray];omega)) ⟨o1,o2,?_⟩
 rw [ea]
 exact ⟨.ref _,_,I.lnew (t':=s.toks) (r1.append r2) (by rw [Zh];omega),rfl,q _ I.fresh⟩
def wa (a b:D):Option D:=(asL a).bind fun xs=>(asL b).bind fun ys=>if xs.length+ys.length<=1000 then some (.lst (xs++ys)) else none
def ir (fa fb:FD):FM:=fun δ=>(f2 wa fa fb δ).bind fun d=>lJ d δ
theorem wI {K:PySem.W.Frag} {H:Hp} {v:V} {d:D} {xs:List D} (r:Rep K H v d) (e:asL d=some xs):∃ p vs,v=.ref p/\SqL K H p vs/\Reps K H vs xs:=by
 cases r with
 | @lst p vs es hp rp=>cases e;exact ⟨p,vs,rfl,SqL.of hp,rp⟩
 | @seq p vs es hp rp=>cases e;exact ⟨p,vs,rfl,hp,rp⟩
 | _=>cases e
theorem mW {X:Cx} {a b:Expr} {fa fb:FD} {pos:Pos} (ha:PD X a fa) (hb:PD X b fb):PV X (.BinOp a .Add b pos) (ir fa fb):=imp (yq Ad ha hb) fun σ H Q ⟨F,δ,As,d,δ',RA,q,k⟩=>by
 unfold ir at q
 obtain ⟨d0,e0,q⟩:=Za.mp q
 obtain ⟨ds,rfl,rfl,rfl,hi⟩:=oy q
 unfold f2 at e0
 obtain ⟨x,ex,e0⟩:=Za.mp e0
 obtain ⟨y,ey,e0⟩:=Za.mp e0
 refine ⟨_,x,RA.toS,ex,fun v H1 s1 r1=>⟨_,y,RA.toS.mono s1,ey,fun w H2 s2 r2=>?_⟩⟩
 unfold wa at e0
 obtain ⟨xs,e1,e0⟩:=Za.mp e0
 obtain ⟨ys,e2,e0⟩:=Za.mp e0
 split at e0
 . rename_i hz
   cases e0
   obtain ⟨p,vs,rfl,h1,h2⟩:=wI (r1.mono s2) e1
   obtain ⟨q,ws,rfl,h3,h4⟩:=wI r2 e2
   exact ⟨p,q,vs,ws,rfl,rfl,h1,h3,by rw [h2.length,h4.length];exact dL hz,fun l hl=>q8 RA (s1.trans s2) (h2.append h4) hi hl k⟩
 . cases e0
end Dl
namespace Dl
open PySem PySem.Spec PyProof.Rows L2
theorem RepA.side {K:PySem.W.Frag} {F H:Hp} {σ:L2.St} {δ:DS} {As:Nat->List Addr} (R:RepA K F H σ δ As) {a:Addr} {vs ws:List V} (h:H a=some (.lst vs)) (n:F a=none) (dj:∀ i,a ∉ As i):RepA K F (upd H a (.lst ws)) σ δ As:=by
 have ne:∀ x,x ≠ a->upd H a (.lst ws) x=H x:=fun x hx=>aB hx
 refine ⟨fun x u e=>?_,R.len,fun i d q=>?_,R.non,R.nd,R.dj⟩
 . have hx:x ≠ a:=fun z=>by rw [z,n] at e;cases e
   rw [ne x hx]
   exact R.fz x u e
 . obtain ⟨v,h1,h2⟩:=R.val i d q
   refine ⟨v,h1,h2.frame (fun x u e k=>?_) fun x m=>ne x fun z=>dj i (z ▸ m)⟩
   have hx:x ≠ a:=fun z=>by rw [z,h] at e;cases e;exact nomatch (show true=false from k)
   rw [ne x hx]
   exact e
end Dl
namespace Dl
open PySem PySem.Spec PyProof.Rows L2
structure CompG (X:Cx) (scope:Scope) (cl:List (Str×Addr)) (T N:List Str) (js:List Nat):Prop where
 clos:closureFor scope X.env=pure cl
 nocell:∀ y∈scope.names,y.2 ≠ .cell
 kind:scope.kind=.function
 names:∀ y∈scope.names,y.2=.local->scope.names.lookup y.1=some .local
 nd:N.Nodup
 len:N.length=T.length+js.length
 clx:∀ y,T.contains y=true->cl.lookup y=none
 cls:∀ y c,cl.lookup y=some c->X.env.cells.lookup y=some c
 has:∀ y,((relabel scope X.env).names.lookup y=some .cell \/ (relabel scope X.env).names.lookup y=some .free)->∃ c,cl.lookup y=some c
 fr:∀ i y j,N[T.length+i]? = some y->js[i]? = some j->X.N[j]? = some y/\X.env.scope.names.lookup y=some .cell/\(relabel scope X.env).names.lookup y=some .cell/\∀ c,X.env.cells.lookup y=some c->cl.lookup y=some c
abbrev cD (X:Cx) (scope:Scope) (cl:List (Str×Addr)) (T N:List Str) (C:Addr) (s₂:Shared) (H₂:Hp) (fp:List Addr) (pn:List (Addr×Obj)):Cx :=
 { X with env:=compEnvC scope cl C X.env,N:=N,s₀:=s₂,H₀:=H₂,outer:=X.stack,stack:=X.stack,ex:=fp,fn:=fun y=>T.contains y,calm:=true,pn:=pn,xe:=fun _ _=>False }
theorem kh {y:Str}:∀ {cl:List (Str×Addr)},y∈cl.map (·.1)->∃ c,cl.lookup y=some c
 | [],h=>by cases h
 | (z,c) :: cl,h=>by
  by_cases hy:y=z
  . subst hy
    exact ⟨c,by simp⟩
  . have q:(y == z)=false:=beq_eq_false_iff_ne.mpr hy
    rw [List.lookup_cons,q]
    refine kh ?_
    rcases Zp.mp h with e | e
    . exact absurd e hy
    . exact e
theorem CompG.of {X:Cx} {scope:Scope} {cl:List (Str×Addr)} {T Z Y:List Str} {js:List Nat} (clos:closureFor scope X.env=pure cl:=by rfl) (hY:cl.map (·.1)=Y:=by rfl) (nocell:∀ y∈scope.names,y.2 ≠ .cell:=by decide +kernel) (kind:scope.kind=.function:=by rfl)
 (names:∀ y∈scope.names,y.2=.local->scope.names.lookup y.1=some .local:=by decide +kernel) (nd:(T++Z).Nodup:=by decide +kernel) (len:Z.length=js.length:=by rfl) (dis:∀ y∈T,y ∉ Y:=by decide +kernel)
 (hcl:∀ p∈cl,X.env.cells.lookup p.1=some p.2) (hfr:∀ p∈scope.names,p.2=.free->p.1∈Y:=by decide +kernel) (hZ:∀ y∈Z,y∈Y:=by decide +kernel)
 (hN:∀ (i:Nat) y j,Z[i]? = some y->js[i]? = some j->X.N[j]? = some y/\X.env.scope.names.lookup y=some .cell/\(relabel scope X.env).names.lookup y=some .cell):CompG X scope cl T (T++Z) js where
 clos:=clos
 nocell:=nocell
 kind:=kind
 names:=names
 nd:=nd
 len:=by rw [Zh,len]
 clx:=fun y hy=>by
  cases q:cl.lookup y with
  | none=>rfl
  | some c =>
   have m:y∈Y:=by
    rw [<- hY]
    exact Zm.mpr ⟨_,PySem.mem_of_lookup q,rfl⟩
   exact absurd m (dis y (List.contains_iff_mem.mp hy))
 cls:=fun y c h=>hcl _ (PySem.mem_of_lookup h)
 has:=fun y h=>by
  obtain ⟨p,m,f,rfl⟩:=rA nocell h
  exact kh (by rw [hY];exact hfr p m f)
 fr:=fun i y j h1 h2=>by
  rw [List.getElem?_append_right (Nat.le_add_right _ _),Nat.add_sub_cancel_left] at h1
  obtain ⟨a,b,c⟩:=hN i y j h1 h2
  refine ⟨a,b,c,fun e he=>?_⟩
  obtain ⟨e',he'⟩:=kh (cl:=cl) (y:=y) (by rw [hY];exact hZ y (List.mem_of_getElem? h1))
  have:=hcl _ (PySem.mem_of_lookup he')
  dsimp only at this
  rw [he] at this
  cases this
  exact he'
def zG (X:Cx) (ifs:List Expr) (f:FT):Prop:=∀ (pins:List (Addr×Obj)) (s:Shared) (σ:L2.St) (H:Hp) (Q:Bool->Hp->Prop),L2.Inv X pins σ H s->upT X.K f σ H Q ->
 wpAny (model X.prog X.w) X.A (forIn ifs true fun c r=>if r=true then do let ok <- isTrue c X.env (eval c X.env);pure (ForInStep.yield ok) else pure (ForInStep.yield r)) (TP X pins σ Q) X.xe s
theorem zY {X:Cx}:zG X [] (fun _=>some true):=fun pins s σ H Q I ⟨δ,b,R,e,k⟩=>by
 cases e
 exact wpAny_tests_nil ⟨H,I,k H (Same.refl H)⟩
theorem qP {X:Cx} {c:Expr} {f:FT} (h:PTD X c f):zG X [c] f:=fun pins s σ H Q I q=>wpAny_tests_one (h pins s σ H Q I q)
def AL (δ δ':DS):Prop:=δ'.length=δ.length/\∀ (i:Nat) d,δ[i]? = some (some d)->δ'[i]? = some (some d)
theorem RepS.weak {K:PySem.W.Frag} {H:Hp} {σ:L2.St} {δ δ':DS} (R:RepS K H σ δ') (w:AL δ δ'):RepS K H σ δ:=⟨R.len.trans w.1,fun i d q=>R.val i d (w.2 i d q)⟩
def fZ (n:Nat) (δ:DS):DS:=List.replicate n none++δ
theorem pI:∀ (is:List Nat) (ds:List D) {n:Nat} {δ0 δ:DS},(∀ i∈is,i < n)->AL (fZ n δ0) δ->AL (fZ n δ0) (r9 is ds δ)
 | [],_,_,_,_,_,k=>k
 | _ :: _,[],_,_,_,_,k=>k
 | i :: is,d :: ds,n,δ0,δ,hi,k=>pI is ds (fun j m=>hi j (Zk _ m)) ⟨by rw [List.length_set];exact k.1,fun j e q=>by
  have hj:n<=j:=Nat.le_of_not_lt fun hlt=>by
   unfold fZ at q
   rw [List.getElem?_append_left (by simpa using hlt),List.getElem?_replicate,if_pos hlt] at q
   cases q
  have:=hi i Zj
  rw [List.getElem?_set_ne (by omega)]
  exact k.2 j e q⟩
def wM (n:Nat) (g:D->DS->Option DS):Prop:=∀ d δ0 δ1,g d (fZ n δ0)=some δ1->AL (fZ n δ0) δ1
theorem jN {n:Nat} (i:Nat) (h:i < n):wM n (jb i):=fun d δ0 δ1 e=>by
 cases e
 exact pI [i] [d] (fun j m=>by simp at m;subst m;exact h) ⟨rfl,fun _ _ q=>q⟩
def gR (f:D->Option (Option D)):List D->Option (List D)
 | []=>some []
 | d :: ds=>(f d).bind fun o=>(gR f ds).bind fun xs=>some (o.toList++xs)
theorem sV {f:D->Option (Option D)}:∀ {ds es:List D} {xs ys:List D},gR f ds=some xs->gR f es=some ys->gR f (ds++es)=some (xs++ys)
 | [],es,xs,ys,h,g=>by cases h;exact g
 | d :: ds,es,xs,ys,h,g=>by
  obtain ⟨o,eo,h⟩:=Za.mp (show ((f d).bind _)=some xs from h)
  obtain ⟨zs,ez,h⟩:=Za.mp h
  cases h
  show ((f d).bind _)=_
  rw [eo]
  show ((gR f (ds++es)).bind _)=_
  rw [sV ez g,List.append_assoc]
  rfl
theorem pZ {f:D->Option (Option D)}:∀ {ds xs:List D},gR f ds=some xs->∀ i,∃ ys,gR f (ds.take i)=some ys/\ys.length<=xs.length
 | [],xs,h,i=>⟨[],by simp [gR],Nat.zero_le _⟩
 | d :: ds,xs,h,0=>⟨[],rfl,Nat.zero_le _⟩
 | d :: ds,xs,h,i+1=>by
  obtain ⟨o,eo,h⟩:=Za.mp (show ((f d).bind _)=some xs from h)
  obtain ⟨zs,ez,h⟩:=Za.mp h
  cases h
  obtain ⟨ys,e,l⟩:=pZ ez i
  refine ⟨o.toList++ys,?_,by simp;exact l⟩
  show ((f d).bind _)=_
  rw [eo]
  show ((gR f (ds.take i)).bind _)=_
  rw [e]
  rfl
theorem vL {f:D->Option (Option D)}:∀ {ds xs:List D},gR f ds=some xs->∀ (i:Nat) d,ds[i]? = some d->∃ o,f d=some o
 | [],_,_,i,d,e=>by simp at e
 | d :: ds,xs,h,0,d',e=>by
  obtain ⟨o,eo,h⟩:=Za.mp (show ((f d).bind _)=some xs from h)
  simp at e
  subst e
  exact ⟨o,eo⟩
 | d :: ds,xs,h,i+1,d',e=>by
  obtain ⟨o,eo,h⟩:=Za.mp (show ((f d).bind _)=some xs from h)
  obtain ⟨zs,ez,h⟩:=Za.mp h
  exact vL ez i d' (by simpa using e)
def eE (n:Nat) (js:List Nat) (g:D->DS->Option DS) (fc:FT) (felt:FM) (δ:DS) (d:D):Option (Option D):=(g d (fZ n (bz js δ))).bind fun δ1=>(fc δ1).bind fun b=>if b then (ownOf felt (shO δ1)).map some else some none
def fY (src:FA) (n:Nat) (js:List Nat) (g:D->DS->Option DS) (fc:FT) (felt:FM):FM:=fun δ=>(src δ).bind fun ds=>(gR (eE n js g fc felt δ) ds).bind fun xs=>if xs.length<=1000 then some (.lst xs,δ) else none
theorem oV {prog:Program} {w:World} {A:Around} {R:Result->Shared->Prop} {s:Shared} {elt target iter:Expr} {ifs:List Expr} {scope:Scope} {pos:Pos} {it acc:Value} {env:Env} (J:Nat->Shared->Prop)
 (turn:∀ n s,J n s->wpAny (model prog w) A (pyNext it) (fun r s₁=>match r with
  | none=>R (.ok .next) s₁
  | some v=>wpAny (model prog w) A (letOwnedTupleGo target it v) (fun _ s₂=>wpAny (model prog w) A (assign target env v) (fun _ s₃ =>
   wpAny (model prog w) A (forIn ifs true fun c r=>if r=true then do let ok <- isTrue c env (eval c env);pure (ForInStep.yield ok) else pure (ForInStep.yield r)) (fun ok sT =>
   if ok=true then wpAny (model prog w) A (eval elt env) (fun y s₄ =>
   wpAny (model prog w) A (call (.builtin "list.append") [acc,y]) (fun _ s₅=>∃ m,m < n/\J m s₅) (fun _ _=>False) s₄) (fun _ _=>False) sT else ∃ m,m < n/\J m sT) (fun _ _=>False) s₃) (fun _ _=>False) s₂) (fun _ _=>False) s₁) (fun _ _=>False) s)
 (n:Nat) (h:J n s):codeAny (model prog w) A (.compLoop (.ListComp elt [⟨target,iter,ifs,0⟩] scope pos) 0 it acc env) R s:=by
 refine codeAny_loop rfl J (fun n s j=>wpAny_noted (m:=compTurn (.ListComp elt [⟨target,iter,ifs,0⟩] scope pos) 0 it acc env) (compTurn_list elt target iter ifs scope pos it acc env▸wpAny_bind (wpAny_standAt (bindF (turn n s j) fun r _ q=>?_)))) n h
 cases r with
 | none=>exact wpAny_pure q
 | some v=>
  exact bindF q fun _ _ q=>bindF q fun _ _ q=>bindF q fun b _ q=>by
   cases b with
   | false=>exact wpAny_pure ⟨rfl,q⟩
   | true=>exact wpAny_bind (bindF q fun _ _ q=>bindF q fun _ _ q=>wpAny_pure (wpAny_pure ⟨rfl,q⟩))
section
variable {X:Cx} {pins:List (Addr×Obj)} {σ:L2.St} {H₂:Hp} {s₂:Shared} {scope:Scope} {cl:List (Str×Addr)} {T N:List Str} {js:List Nat} {C:Addr} {fp:List Addr}
theorem uU (I:L2.Inv X pins σ H₂ s₂) (hcm:X.calm=true) (O:CompG X scope cl T N js) (hC:s₂.heap.objs.size<=C) (hf:∀ b∈fp,jQ X pins H₂ b) (ho:∀ b∈fp,∃ o,s₂.heap.get? b=some o):(cD X scope cl T N C s₂ H₂ fp (X.pn++pins)).Ok where
 mod:=I.ok.mod
 kind:=O.kind
 glob:=I.ok.glob
 blt:=I.ok.blt
 above:=hC
 inj:=fun y z c h1 h2=>I.ok.inj y z c (O.cls y c h1) (O.cls z c h2)
 has:=fun y h=>O.has y h
 cab:=fun y c h1 h2=>by
  have:cl.lookup y=some c:=h2
  rw [O.clx y h1] at this
  cases this
 hd:=fun _=>I.ok.hd hcm
 frames:=I.ok.frames
 stk:=.inl rfl
 exf:=fun b hb=>by
  obtain ⟨o,e⟩:=ho b hb
  refine ⟨Nat.ne_of_lt (Nat.lt_of_lt_of_le (Heap.lt_size e) hC),fun y c h z=>?_⟩
  exact (hf b hb).2.2.2.2.1 y c (O.cls y c h) z
 bs:=I.bs
 bsz:=Nat.le_trans I.ok.bsz I.sz
 noex:=fun b o e hb=>by
  rcases (hf b hb).2.2.2.1 with z | z
  . exact I.ok.noex b o e z
  . exact absurd (Nat.lt_of_lt_of_le (Heap.lt_size e) (Nat.le_trans I.ok.bsz z)) (Nat.lt_irrefl _)
 exfs:=fun b hb z=>by
  rcases Zp.mp (I.stkSub b z) with e | e
  . exact (hf b hb).2.1 e
  . exact (hf b hb).2.2.1 e
 funs:=I.stack
 frf:=I.stkFree
theorem tZ {h₁:Heap} {m:Str->Option Value} {tk:Nat} (I:L2.Inv X pins σ H₂ s₂) (hcm:X.calm=true) (O:CompG X scope cl T N js) (hC:s₂.heap.objs.size<=C) (hf:∀ b∈fp,jQ X pins H₂ b) (ho:∀ b∈fp,∃ o,s₂.heap.get? b=some o)
 (old:∀ b o,s₂.heap.get? b=some o->h₁.get? b=some o) (hns:h₁.Ns C m) (hl:σ.length=X.N.length):L2.Inv (cD X scope cl T N C s₂ H₂ fp (X.pn++pins)) [] (List.replicate T.length none++dQ js σ) H₂ { s₂ with heap:=h₁,toks:=tk } where
 ok:=uU I hcm O hC hf ho
 os:=rfl
 bare:=I.bare
 base:=Un.kept old
 loc:=by
  refine ⟨m,hns,fun i y v h1 h2 h3=>?_⟩
  by_cases hi:i < T.length
  . rw [List.getElem?_append_left (by simpa using hi),List.getElem?_replicate,if_pos hi] at h2
    cases h2
  . obtain ⟨i,rfl⟩:∃ k,i=T.length+k:=⟨i - T.length,by omega⟩
    have h2':(dQ js σ)[i]? = some (some v):=by
     rw [List.getElem?_append_right (by simp)] at h2
     simpa using h2
    unfold dQ at h2'
    rw [List.getElem?_map] at h2'
    obtain ⟨j,hj,h4⟩:=Zb.mp h2'
    have h5:σ[j]? = some (some v):=by
     cases q:σ[j]? with
     | none=>rw [q] at h4;cases h4
     | some o=>rw [q] at h4;exact congrArg some h4
    obtain ⟨f1,f2,f3,f4⟩:=O.fr i y j h1 hj
    obtain ⟨m',hn',hl'⟩:=I.loc
    obtain ⟨u,ru,lk⟩:=hl' j y v f1 h5 (.inr (.inl f2))
    refine ⟨u,ru,?_⟩
    rcases lk with ⟨k1,_⟩ | ⟨_,c,hc,o,hco,hcd⟩
    . have:X.env.scope.names.lookup y=some .local:=k1
      rw [f2] at this
      cases this
    . exact .inr ⟨.inl f3,c,f4 c hc,o,old c o hco,hcd⟩
 cell:=fun y c e=>by
  obtain ⟨v,o,h1,h2⟩:=I.cell y c (O.cls y c e)
  exact ⟨v,o,old c o h1,h2⟩
 free:=I.hok.fresh hC
 freeC:=fun y c e=>I.freeC y c (O.cls y c e)
 pin:=fun p hp=>by
  have hp':p∈X.pn++pins:=by simpa using hp
  obtain ⟨h1,h2,h3,h4,h5⟩:=I.pin p hp'
  refine ⟨old _ _ h1,h2,Nat.ne_of_lt (Nat.lt_of_lt_of_le (Heap.lt_size h1) hC),fun z=>?_,h5⟩
  rcases Zp.mp (I.stkSub p.1 z) with e | e
  . exact h3 e
  . exact h4 e
 hok:=I.hok.kept old
 len:=by
  show (List.replicate T.length none++dQ js σ).length=N.length
  rw [O.len]
  simp [dQ]
theorem uk {K:PySem.W.Frag} {H:Hp} {σ:L2.St} {δ:DS} (R:RepS K H σ δ) (n:Nat) (js:List Nat):RepS K H (List.replicate n none++dQ js σ) (fZ n (bz js δ)):=by
 refine ⟨by simp [dQ,bz,fZ],fun i d q=>?_⟩
 unfold fZ at q
 by_cases hi:i < n
 . rw [List.getElem?_append_left (by simpa using hi),List.getElem?_replicate,if_pos hi] at q
   cases q
 . obtain ⟨k,rfl⟩:∃ k,i=n+k:=⟨i - n,by omega⟩
   rw [List.getElem?_append_right (by simp)] at q ⊢
   have q':(none :: bz js δ)[k+1]? = some (some d):=by simpa using q
   obtain ⟨v,h1,h2⟩:=(lx R js).val (k+1) d q'
   exact ⟨v,by simpa using h1,h2⟩
theorem l5 {elt tg iter:Expr} {ifs:List Expr} {pos:Pos} {it:Addr} {tn:Nat->Heap->Prop} {J:It} {ds xs:List D} {δ:DS} {g:D->DS->Option DS} {fc:FT} {felt:FM} {RR:Value->Addr->Result->Shared->Prop} {E:Value->Shared->Prop} (I:L2.Inv X pins σ H₂ s₂) (hcm:X.calm=true) (O:CompG X scope cl T N js)
 (TT:uZ X.prog X.w X.K tg J fp it tn) (st:tn 0 s₂.heap) (hf:∀ b∈fp,jQ X pins H₂ b) (itd:ItD X.K J H₂ ds) (R:RepS X.K H₂ σ δ) (hg:∀ C s₂ H₂ fp pn,PGD (cD X scope cl T N C s₂ H₂ fp pn) tg g) (fl:wM T.length g) (hc:∀ C s₂ H₂ fp pn,zG (cD X scope cl T N C s₂ H₂ fp pn) ifs fc) (he:∀ C s₂ H₂ fp pn,PV (cD X scope cl T N C s₂ H₂ fp pn) elt felt)
 (hm:gR (eE T.length js g fc felt δ) ds=some xs) (hz:xs.length<=1000)
 (hRR:∀ (D C:Addr) (s':Shared) (Hend:Hp) (vs:List V),s₂.heap.objs.size<=C->L2.Inv X pins σ Hend s'->Same H₂ Hend->Hend D=some (.lst vs)->(∃ Acc,RepOs X.K H₂ Hend vs xs Acc/\Acc.Nodup/\D ∉ Acc/\H₂ D=none)->(∃ m,s'.heap.Ns C m)->Hend C=none->RR (.ref D) C (.ok .next) s') :
 wpAny (model X.prog X.w) X.A (newList []) (fun acc s₃=>wpAny (model X.prog X.w) X.A (newFunctionEnv scope X.env.globals cl [] X.env.qual none .none (some X.env)) (fun cenv s₄ =>
  codeAny (model X.prog X.w) X.A (.compStart (.ListComp elt [⟨tg,iter,ifs,0⟩] scope pos) 0 (.ref it) acc { cenv with scope:=relabel scope X.env }) (RR acc cenv.locals) s₄) E s₃) E s₂:=by
 have objs:=TT.obj 0 s₂.heap st
 have objs':∀ b∈fp,∃ o,s₂.heap.get? b=some o:=fun b hb=>let ⟨o,h,_⟩:=objs b hb;⟨o,h⟩
 refine wpAny_newObj_type (wpAny_newFunctionEnv O.nocell (by intro y hy;simp at hy) (fun h₁ hns₁ hsb₁=>?_) O.kind)
 dsimp only at hns₁ hsb₁ ⊢
 generalize hP:s₂.heap.push { cls:=.type "list",dict:=none,data:=.seq ([]:List Value).toArray }=P2 at hns₁ hsb₁ ⊢
 have hC:P2.objs.size=s₂.heap.objs.size+1:=by rw [<- hP,Heap.size_push]
 generalize hCC:P2.objs.size=C at *
 have hCle:s₂.heap.objs.size<=C:=by omega
 have hDle:s₂.heap.objs.size<=s₂.heap.objs.size:=by omega
 have hDC:s₂.heap.objs.size ≠ C:=by omega
 have old:∀ b o,s₂.heap.get? b=some o->h₁.get? b=some o:=fun b o e=>by
  refine hsb₁.extBut b o (Nat.ne_of_lt (Nat.lt_of_lt_of_le (Heap.lt_size e) hCle)) (Heap.get?_push_of_some _ ?_)
  rw [<- hP]
  exact Heap.get?_push_of_some _ e
 have hacc:h₁.get? s₂.heap.objs.size=some { cls:=.type "list",data:=.seq ([]:List Value).toArray }:=by
  refine hsb₁.extBut s₂.heap.objs.size _ hDC (Heap.get?_push_of_some _ ?_)
  rw [<- hP]
  exact Heap.get?_push_size _ rfl
 have I0:=fun tk=>tZ (C:=C) (tk:=tk) I hcm O hCle hf objs' old hns₁ I.len
 have dstk:s₂.heap.objs.size ∉ frs X.stack:=jp I hDle
 have fne:∀ b∈fp,b ≠ s₂.heap.objs.size:=fun b hb e=>by
  obtain ⟨o,h⟩:=objs' b hb
  exact absurd (Heap.lt_size h) (by rw [e];exact Nat.lt_irrefl _)
 have cne:∀ y c,cl.lookup y=some c->c ≠ s₂.heap.objs.size:=fun y c e z=>by
  obtain ⟨v,o,h1,_⟩:=I.cell y c (O.cls y c e)
  exact absurd (Heap.lt_size h1) (by rw [z];exact Nat.lt_irrefl _)
 have pne:∀ p∈X.pn++pins,p.1 ≠ s₂.heap.objs.size:=fun p hp e=>by
  exact absurd (Heap.lt_size (I.pin p hp).1) (by rw [e];exact Nat.lt_irrefl _)
 have stat:∀ {H':Hp} {pl:List (Addr×Obj)},(∀ b∈fp,H' b=none)->(∀ p∈pl,∀ b∈fp,p.1 ≠ b)->∀ b∈fp,jQ (cD X scope cl T N C s₂ H₂ fp (X.pn++pins)) pl H' b:=fun {H' pl} hn hpl b hb=>by
  obtain ⟨o,h⟩:=objs' b hb
  refine ⟨hn b hb,Nat.ne_of_lt (Nat.lt_of_lt_of_le (Heap.lt_size h) hCle),fun z=>?_,.inl hb,fun y c e=>(hf b hb).2.2.2.2.1 y c (O.cls y c e),fun p hp=>?_⟩
  . rcases Zp.mp (I.stkSub b z) with e | e
    . exact (hf b hb).2.1 e
    . exact (hf b hb).2.2.1 e
  . rcases Zo.mp hp with q | q
    . exact (hf b hb).2.2.2.2.2 p q
    . exact hpl p q b hb
 have loop:∀ s₃:Shared,s₃={ s₂ with heap:=h₁,toks:=s₂.toks+([]:List (Str×Value)).length } ->
  codeAny (model X.prog X.w) X.A (.compLoop (.ListComp elt [⟨tg,iter,ifs,0⟩] scope pos) 0 (.ref it) (.ref s₂.heap.objs.size) (compEnvC scope cl C X.env)) (RR (.ref s₂.heap.objs.size) C) s₃:=by
  rintro s₃ rfl
  refine oV (fun n s=>∃ (i:Nat) (σ':L2.St) (H':Hp) (vs:List V) (ys:List D),n=ds.length - i/\i<=ds.length/\L2.Inv (cD X scope cl T N C s₂ H₂ fp (X.pn++pins)) [] σ' H' s/\Same H₂ H'/\RepS X.K H' σ' (fZ T.length (bz js δ))/\tn i s.heap/\(∀ b∈fp,H' b=none) /\
   (∃ (its:List Value) (k:Nat),Vals vs its/\s.heap.get? s₂.heap.objs.size=some { cls:=.type "list",data:=.seq its.toArray k })/\H' s₂.heap.objs.size=none/\(∃ Acc,RepOs X.K H₂ H' vs ys Acc/\Acc.Nodup)/\gR (eE T.length js g fc felt δ) (ds.take i)=some ys/\ys.length<=1000) ?_ ds.length
   ⟨0,_,H₂,[],[],rfl,Nat.zero_le _,I0 _,Same.refl _,uk R _ js,TT.keep 0 _ _ st (fun b hb o e=>old b o e),fun b hb=>(hf b hb).1,⟨[],0,.nil,hacc⟩,I.hok.fresh hDle,⟨[],.nil,List.nodup_nil⟩,rfl,Nat.zero_le _⟩
  rintro n s ⟨i,σ',H',vs,ys,rfl,hi,I',sm,R',st',fr',⟨its,k,rv,hD⟩,fD,⟨Acc,rr,nda⟩,hys,hyl⟩
  by_cases hlt:i < ds.length
  . -- one more
    obtain ⟨go,yl⟩:=(itd i H' sm).1 hlt
    have hd0:ds[i]? = some ds[i]:=by simp [hlt]
    obtain ⟨oe,ge⟩:=vL hm i _ hd0
    have hys1:gR (eE T.length js g fc felt δ) (ds.take (i+1))=some (ys++oe.toList):=by
     have e8:ds.take (i+1)=ds.take i++[ds[i]]:=by rw [List.take_add_one,hd0];rfl
     rw [e8]
     refine sV hys ?_
     show ((eE T.length js g fc felt δ ds[i]).bind _)=_
     rw [ge]
     simp [gR]
    have hyl1:(ys++oe.toList).length<=1000:=by
     obtain ⟨zs,ez,l⟩:=pZ hm (i+1)
     rw [hys1] at ez
     cases ez
     omega
    unfold eE at ge
    obtain ⟨δ1,eδ1,ge⟩:=Za.mp ge
    obtain ⟨ok,eok,ge⟩:=Za.mp ge
    have kp:=fl _ _ _ eδ1
    have I1:L2.Inv (cD X scope cl T N C s₂ H₂ fp (X.pn++pins)) [(s₂.heap.objs.size,{ cls:=.type "list",data:=.seq its.toArray k })] σ' H' s:=I'.pins_of fun p hp=>by
     have:p=(s₂.heap.objs.size,{ cls:=.type "list",data:=.seq its.toArray k }):=by simpa using hp
     subst this
     exact ⟨hD,fD,hDC,dstk,fun v z=>by cases z⟩
    refine thn (TT.item (cD X scope cl T N C s₂ H₂ fp (X.pn++pins)) rfl rfl rfl rfl i _ s σ' H' (fun _ _=>False) I1 (stat fr' fun p hp b hb=>by
     have:p=(s₂.heap.objs.size,{ cls:=.type "list",data:=.seq its.toArray k }):=by simpa using hp
     subst this
     exact (fne b hb).symm) st' go) fun r s1 ⟨u,hr,h4⟩=>?_
    subst hr
    refine thn h4 fun _ s2 ⟨y,H'',I2,ru,yy,st2,fr2⟩=>?_
    obtain ⟨s3,d,hd,rd⟩:=yl y H'' yy
    have hd':d=ds[i]:=by rw [hd0] at hd;exact (Option.some.inj hd).symm
    subst hd'
    have I3:=I2.pinned (stat fr2 fun p hp b hb=>by
     have:p=(s₂.heap.objs.size,{ cls:=.type "list",data:=.seq its.toArray k }):=by simpa using hp
     subst this
     exact (fne b hb).symm) (TT.obj _ _ st2)
    refine thn (hg C s₂ H₂ fp (X.pn++pins) _ s2 σ' H'' y u (fun σ4 H4=>RepS X.K H4 σ4 δ1/\H4=H'') I3 ru ⟨_,_,δ1,rd,R'.mono s3,eδ1,fun σ4 r4=>⟨r4,rfl⟩⟩) fun _ s4 ⟨σ4,H4,I4,R4,e2⟩=>?_
    subst e2
    refine thn (hc C s₂ H₂ fp (X.pn++pins) _ s4 σ4 H4 (fun b H5=>b=ok/\Same H4 H5) I4 ⟨δ1,ok,R4,eok,fun H5 s5=>⟨rfl,s5⟩⟩) fun okv sT ⟨HT,IT,hok',sT4⟩=>?_
    have hDT:sT.heap.get? s₂.heap.objs.size=some { cls:=.type "list",data:=.seq its.toArray k }:=(IT.pin (s₂.heap.objs.size,{ cls:=.type "list",data:=.seq its.toArray k }) (by simp)).1
    have fDT:HT s₂.heap.objs.size=none:=(IT.pin (s₂.heap.objs.size,{ cls:=.type "list",data:=.seq its.toArray k }) (by simp)).2.1
    have RT:RepS X.K HT σ4 δ1:=R4.mono sT4
    have lz:its.length<=1000:=by
     have:=rv.length
     have:=rr.len
     omega
    cases ok with
    | false =>
     cases ge
     rw [hok',if_neg (by decide)]
     have pf:∀ b∈fp,∀ ob,s2.heap.get? b=some ob->sT.heap.get? b=some ob/\HT b=none:=fun b hb ob hob=>by
      have:=IT.pin (b,ob) (List.mem_append_right _ (List.mem_append_right _ (fL hb hob)))
      exact ⟨this.1,this.2.1⟩
     simp only [Option.toList_none,List.append_nil] at hys1
     refine ⟨ds.length - (i+1),by omega,i+1,σ4,HT,vs,ys,rfl,hlt,IT.pins_of (pins':=[]) (fun p hp=>by simp at hp),(sm.trans s3).trans sT4,RT.weak kp,?_,?_,⟨its,k,rv,hDT⟩,fDT,?_,hys1,hyl⟩
     . refine TT.keep _ _ _ st2 fun b hb ob hob=>(pf b hb ob hob).1
     . intro b hb
       obtain ⟨ob,hob,_⟩:=TT.obj _ _ st2 b hb
       exact (pf b hb ob hob).2
     . refine ⟨Acc,rr.frame (bZ (s3.trans sT4)) (fun a m=>?_),nda⟩
       obtain ⟨⟨ws,e⟩,_⟩:=rr.dom a m
       rw [e];exact (s3.trans sT4) a _ e
    | true =>
     rw [hok',if_pos rfl]
     obtain ⟨e,ge2,eo⟩:=Zb.mp (show (ownOf felt (shO δ1)).map some=some oe from ge)
     subst eo
     refine thn (he C s₂ H₂ fp (X.pn++pins) _ sT σ4 HT (fun v H5=>Same HT H5/\∃ A,RepO X.K H₂ H5 v e A/\A.Nodup/\∀ a∈A,HT a=none) IT (AY ge2 RT ((sm.trans s3).trans sT4))) fun wv s5 ⟨v,H5,I5,rw5,s45,A5,r5,nd5,fr5⟩=>?_
     have hD5:s5.heap.get? s₂.heap.objs.size=some { cls:=.type "list",data:=.seq its.toArray k }:=(I5.pin (s₂.heap.objs.size,{ cls:=.type "list",data:=.seq its.toArray k }) (by simp)).1
     have fD5:H5 s₂.heap.objs.size=none:=(I5.pin (s₂.heap.objs.size,{ cls:=.type "list",data:=.seq its.toArray k }) (by simp)).2.1
     have pf:∀ b∈fp,∀ ob,s2.heap.get? b=some ob->s5.heap.get? b=some ob/\H5 b=none:=fun b hb ob hob=>by
      have:=I5.pin (b,ob) (List.mem_append_right _ (List.mem_append_right _ (fL hb hob)))
      exact ⟨this.1,this.2.1⟩
     refine call_meets F.slot_list_append ⟨_,hD5,rfl⟩ F.entry_list_append (F.args_list_append_2 _ _) (PySem.list_append s₂.heap.objs.size its.toArray k wv (by rw [List.size_toArray];exact dL lz)) ⟨hD5,?_⟩
     have q:=PySem.IsL.update hD5 (fun a=>a.push wv)
     have I6:L2.Inv (cD X scope cl T N C s₂ H₂ fp (X.pn++pins)) [] σ4 H5 { s5 with heap:=s5.heap.update s₂.heap.objs.size (Obj.mapSeq fun a=>a.push wv),toks:=s5.toks } :=
      (I5.pins_of (pins':=[]) fun p hp=>by simp at hp).turned (it:=s₂.heap.objs.size) (t':=s5.toks) (fun b ob hb hu=>(Heap.get?_update_other s5.heap _ (Ne.symm hb)).trans hu) fD5 hDC (.inr hDle) cne (fun p hp=>by
       rcases Zo.mp hp with z | z
       . exact pne p z
       . simp at z)
     refine ⟨ds.length - (i+1),by omega,i+1,σ4,H5,vs++[v],ys++[e],rfl,hlt,I6,((sm.trans s3).trans sT4).trans s45,(RT.mono s45).weak kp,?_,?_,?_,fD5,?_,hys1,hyl1⟩
     . refine TT.keep _ _ _ st2 fun b hb ob hob=>?_
       exact (Heap.get?_update_other s5.heap _ (Ne.symm (fne b hb))).trans (pf b hb ob hob).1
     . intro b hb
       obtain ⟨ob,hob,_⟩:=TT.obj _ _ st2 b hb
       exact (pf b hb ob hob).2
     . have hf7:its.toArray.push wv=(its++[wv]).toArray:=by simp
       rw [hf7] at q
       exact ⟨its++[wv],_,rv.append (.cons rw5 .nil),q⟩
     . exact wJ rr nda ((s3.trans sT4).trans s45) r5 nd5 fun a m=>cA (s3.trans sT4) (fr5 a m)
  . -- the end
    have hie:i=ds.length:=by omega
    refine thn (TT.done (cD X scope cl T N C s₂ H₂ fp (X.pn++pins)) rfl rfl rfl rfl i [(s₂.heap.objs.size,{ cls:=.type "list",data:=.seq its.toArray k })] s σ' H' (fun _ _=>False) (I'.pins_of fun p hp=>by
     have:p=(s₂.heap.objs.size,{ cls:=.type "list",data:=.seq its.toArray k }):=by simpa using hp
     subst this
     exact ⟨hD,fD,hDC,dstk,fun v z=>by cases z⟩) (stat fr' fun p hp b hb=>by
     have:p=(s₂.heap.objs.size,{ cls:=.type "list",data:=.seq its.toArray k }):=by simpa using hp
     subst this
     exact (fne b hb).symm) st' ((itd i H' sm).2 (by omega))) fun r s1 ⟨hr,I8⟩=>?_
    subst hr
    have hD8:s1.heap.get? s₂.heap.objs.size=some { cls:=.type "list",data:=.seq its.toArray k }:=(I8.pin (s₂.heap.objs.size,{ cls:=.type "list",data:=.seq its.toArray k }) (by simp)).1
    have hxs:ds.take i=ds:=List.take_of_length_le (by omega)
    rw [hxs,hm] at hys
    cases hys
    have sn:=df fD (.lst vs)
    have dn:∀ b,∀ u,H' b=some u->b ≠ s₂.heap.objs.size:=fun b u z=>c5 z fD
    have un:Un (frs X.stack) fp H₂ (upd H' s₂.heap.objs.size (.lst vs)) s₂.heap s1.heap:=by
     have b0:=I8.base
     refine ⟨fun b ob e n1 n2 n3=>b0.keep b ob e n1 n2 n3,fun b ob e n1 n2 n3=>b0.slot b ob e n1 n2 n3,fun b ob e n1 n3=>?_,fun b ob e n3=>b0.there b ob e n3,fun b zs e=>?_,fun b ob u e=>?_,fun b ps e=>?_⟩
     . rw [aB (Nat.ne_of_lt (Heap.lt_size e))]
       exact b0.free b ob e n1 n3
     . have z:=b0.tups b zs e
       rw [aB (dn _ _ z)]
       exact z
     . have z:=b0.frzs b ob u e
       rw [aB (dn _ _ z)]
       exact z
     . obtain ⟨more,z⟩:=b0.tbls b ps e
       exact ⟨more,by rw [aB (dn _ _ z)];exact z⟩
    have hok:HOk X.prog X.w (upd H' s₂.heap.objs.size (.lst vs)) s1.heap:=fun b u z=>by
     by_cases hb:b=s₂.heap.objs.size
     . rw [hb] at z ⊢
       rw [aX] at z
       cases z
       exact ⟨dL (by have:=rr.len;omega),its,k,rv,hD8⟩
     . rw [aB hb] at z
       exact (I8.hok b u z).stay (fun _ _ _ q=>q) (fun c q=>by rw [aB (dn _ _ q)];exact q) fun c ys q=>by rw [aB (dn _ _ q)];exact q
    have IX:L2.Inv X pins σ (upd H' s₂.heap.objs.size (.lst vs)) s1:=I.call' I8.os un hok I8.bare fun b hb=>⟨(hf b hb).2.2.2.1,(hf b hb).2.1,(hf b hb).2.2.2.2.1,(hf b hb).2.2.2.2.2⟩
    obtain ⟨m8,hn8,_⟩:=I8.loc
    refine hRR s₂.heap.objs.size C s1 _ vs hCle IX (sm.trans sn) aX ⟨Acc,rr.frame (bZ sn) (fun a m=>by
     obtain ⟨⟨ws,e⟩,_⟩:=rr.dom a m
     rw [e];exact sn a _ e),nda,fun m=>(by
     obtain ⟨⟨ws,e⟩,_⟩:=rr.dom _ m
     rw [fD] at e;cases e),I.hok.fresh hDle⟩ ⟨m8,hn8⟩ ?_
    rw [aB (Ne.symm hDC)]
    exact I8.free
 exact codeAny_compStart_list (loop _ rfl) (TT.self X.A 0 _ _ _ (TT.keep 0 _ _ st (fun b hb o e=>old b o e)) (loop _ rfl))
theorem jI {n:Nat} {js:List Nat} {g:D->DS->Option DS} {fc:FT} {f:FM} {δ:DS}:∀ {ds xs:List D},gR (eE n js g fc f δ) ds=some xs->gF xs=true
 | [],xs,h=>by cases h;rfl
 | d :: ds,xs,h=>by
  obtain ⟨o,eo,h⟩:=Za.mp (show ((eE n js g fc f δ d).bind _)=some xs from h)
  obtain ⟨ys,ey,h⟩:=Za.mp h
  cases h
  unfold eE at eo
  obtain ⟨δ1,_,eo⟩:=Za.mp eo
  obtain ⟨b,_,eo⟩:=Za.mp eo
  cases b with
  | false=>cases eo;exact jI ey
  | true =>
   obtain ⟨e,ge,eo⟩:=Zb.mp (show (ownOf f (shO δ1)).map some=some o from eo)
   subst eo
   show (own e && gF ys)=true
   rw [jI ey,Bool.and_true]
   unfold ownOf at ge
   obtain ⟨p,_,ge⟩:=Za.mp ge
   split at ge
   . rename_i ho;cases ge;exact ho
   . cases ge
theorem sA {elt tg iter:Expr} {ifs:List Expr} {pos:Pos} {src:FA} {g:D->DS->Option DS} {fc:FT} {felt:FM} (hi:PID X tg iter src) {T N:List Str} {js:List Nat} (hg:∀ C s₂ H₂ fp pn,PGD (cD X scope cl T N C s₂ H₂ fp pn) tg g) (fl:wM T.length g) (hc:∀ C s₂ H₂ fp pn,zG (cD X scope cl T N C s₂ H₂ fp pn) ifs fc) (he:∀ C s₂ H₂ fp pn,PV (cD X scope cl T N C s₂ H₂ fp pn) elt felt) (O:CompG X scope cl T N js) (hcm:X.calm=true:=by rfl)
 (hs:∀ v,foldedSetIterable iter X.env v=pure v:=by intro _;rfl):PV X (.ListComp elt [⟨tg,iter,ifs,0⟩] scope pos) (fY src T.length js g fc felt):=by
 intro pins s σ H Q I ⟨F,δ,As,d,δ',RA,q,k⟩
 have R:=RA.toS
 unfold fY at q
 obtain ⟨ds,eds,q⟩:=Za.mp q
 obtain ⟨xs,exs,q⟩:=Za.mp q
 by_cases hz:xs.length<=1000
 . rw [if_pos hz] at q
   cases q
   rw [eval_ListComp]
   refine wpAny_comprehension_free (use:=none) rfl hs O.clos O.kind O.names ?_
   refine wpAny_mono (hi pins s σ H (fun J H1=>Same H H1/\ItD X.K J H1 ds) I ⟨δ,ds,R,eds,fun J H1 s1 itd=>⟨s1,itd⟩⟩) (fun v s1 h1=>wpAny_mono h1 (fun itv s2 h2=>?_) fun _ _ z=>z) fun _ _ z=>z
   obtain ⟨it,fp,tn,J,H2,rfl,I2,TT,st,hf,s1,itd⟩:=h2
   refine l5 (RR:=fun acc C=>compPost (model X.prog X.w) X.A X.xe none (EP X pins σ Q) acc C) I2 hcm O TT st hf itd (R.mono s1) hg fl hc he exs hz ?_
   intro D C s' Hend vs hC IX sm hD rr ⟨m,hn⟩ fC
   exact ⟨m,hn,fun h' hs'=>⟨.ref D,Hend,lK IX I2 hC fC hs',rfl,wB RA k (jI exs) (s1.trans sm) s1 hD rr⟩⟩
 . rw [if_neg hz] at q;cases q
theorem sE (i:Nat) {y:Str} {elt tg iter:Expr} {ifs:List Expr} {py pos spos:Pos} {src:FA} {g:D->DS->Option DS} {fc:FT} {felt:FM} (hN:X.N.Nodup) (hi:PID X tg iter src) {T N:List Str} {js:List Nat} (hg:∀ C s₂ H₂ fp pn,PGD (cD X scope cl T N C s₂ H₂ fp pn) tg g) (fl:wM T.length g) (hc:∀ C s₂ H₂ fp pn,zG (cD X scope cl T N C s₂ H₂ fp pn) ifs fc) (he:∀ C s₂ H₂ fp pn,PV (cD X scope cl T N C s₂ H₂ fp pn) elt felt) (O:CompG X scope cl T N js)
 (hsw:swapsWith (.ListComp elt [⟨tg,iter,ifs,0⟩] scope pos) (some (.Name y py)) spos.line X.env=pure true:=by rfl) (hy:X.N[i]? = some y:=by rfl) (hl:Loc X.env.scope y:=by first | exact Or.inl rfl | exact Or.inr rfl) (hcm:X.calm=true:=by rfl)
 (hs:∀ v,foldedSetIterable iter X.env v=pure v:=by intro _;rfl) (hfn:X.fn y=true \/ X.env.scope.names.lookup y=some .local:=by first | exact .inl rfl | exact .inr rfl | assumption) :
 PMD X (.Assign [.Name y py] (.ListComp elt [⟨tg,iter,ifs,0⟩] scope pos) spos) (az i (fY src T.length js g fc felt)):=by
 intro pins s σ H D I ⟨F,δ,r,⟨As,RA⟩,q,k⟩
 have R:=RA.toS
 unfold az at q
 obtain ⟨⟨d,δ'⟩,ed,q⟩:=Za.mp q
 cases q
 unfold fY at ed
 obtain ⟨ds,eds,q⟩:=Za.mp ed
 obtain ⟨xs,exs,q⟩:=Za.mp q
 by_cases hz:xs.length<=1000
 . rw [if_pos hz] at q
   cases q
   rw [exec_Assign_Name_used _ _ _ _ hsw]
   refine wpAny_bind (wpAny_standAt (wpAny_bind ?_))
   show wpAny _ X.A (do let _ <- comprehension (.ListComp elt [⟨tg,iter,ifs,0⟩] scope pos) scope X.env _ (newList []) false (eval iter X.env) (some (assign (.Name y py) X.env))) _ _ s
   refine wpAny_bind (wpAny_mono (wpAny_comprehension_free (use:=some (assign (.Name y py) X.env)) (Q:=fun _ s'=>SP X pins D .next s') rfl hs O.clos O.kind O.names ?_) (fun _ s' hq=>wpAny_pure (wpAny_pure hq)) fun _ _ z=>z)
   refine wpAny_mono (hi pins s σ H (fun J H1=>Same H H1/\ItD X.K J H1 ds) I ⟨δ,ds,R,eds,fun J H1 s1 itd=>⟨s1,itd⟩⟩) (fun v s1 h1=>wpAny_mono h1 (fun itv s2 h2=>?_) fun _ _ z=>z) fun _ _ z=>z
   obtain ⟨it,fp,tn,J,H2,rfl,I2,TT,st,hf,s1,itd⟩:=h2
   refine l5 (RR:=fun acc C=>compPost (model X.prog X.w) X.A X.xe (some (assign (.Name y py) X.env)) (fun _ s'=>SP X pins D .next s') acc C) I2 hcm O TT st hf itd (R.mono s1) hg fl hc he exs hz ?_
   intro DA C s' Hend vs hC IX sm hD rr ⟨m,hn⟩ fC
   show wpAny _ X.A (assign (.Name y py) X.env (.ref DA)) _ _ s'
   refine wpAny_assign_Name (lu (v:=.ref DA) IX hN hy hl rfl (fun s9 I9 ⟨a,hsb,ha⟩=>?_) hfn)
   have hCa:C ≠ a:=by
    rintro rfl
    rcases ha with z | z
    . exact absurd (Nat.lt_of_lt_of_le I2.lt (by rw [<- z];exact hC)) (Nat.lt_irrefl _)
    . obtain ⟨v,o,h1,_⟩:=I2.cell y _ z
      exact absurd (Nat.lt_of_lt_of_le (Heap.lt_size h1) hC) (Nat.lt_irrefl _)
   refine ⟨m,hn.at' fun o e=>(hsb.2 C hCa).trans e,fun h' hs'=>⟨_,Hend,?_,t4 i RA k (jI exs) (s1.trans sm) s1 hD rr⟩⟩
   exact I9.turned (it:=C) (t':=s9.toks) (fun b o hb e=>(hs'.2 b hb).trans e) fC (Nat.ne_of_gt (Nat.lt_of_lt_of_le I2.lt hC)) (.inr (Nat.le_trans I2.sz hC))
    (fun y c e z=>by
     obtain ⟨v,o,h1,_⟩:=I2.cell y c e
     exact absurd (Nat.lt_of_lt_of_le (Heap.lt_size h1) (by rw [z];exact hC)) (Nat.lt_irrefl _))
    (fun p hp z=>absurd (Nat.lt_of_lt_of_le (Heap.lt_size (I2.pin p hp).1) (by rw [z];exact hC)) (Nat.lt_irrefl _))
 . rw [if_neg hz] at q;cases q
end
end Dl
namespace Dl
open PySem PySem.Spec PyProof.Rows L2
section
variable {X:Cx} {pins:List (Addr×Obj)} {σ:L2.St} {H:Hp} {s:Shared} {h':Heap}
end
end Dl
namespace Dl
open PySem PySem.Spec PyProof.Rows L2
def RPZ (X:Cx) (Z:L2.St->Prop) (E:pp) (F:Hp):Res->Prop
 | .nx δ=>∀ σ' F' H',Same F F'->gT X.K F' H' σ' δ->Z σ'->E.nx σ' H'
 | .rt d=>∀ v F' H' A,Same F F'->Same F' H'->RepO X.K F' H' v d A->A.Nodup->E.rt v H'
 | .bk δ=>∀ σ' F' H',Same F F'->gT X.K F' H' σ' δ->Z σ'->E.bk σ' H'
 | .ct δ=>∀ σ' F' H',Same F F'->gT X.K F' H' σ' δ->Z σ'->E.ct σ' H'
 | .ex _ _=>False
 | .mk _ _=>False
theorem RPZ.mono {X:Cx} {Z:L2.St->Prop} {E:pp} {F F1:Hp} {r:Res} (s:Same F F1) (h:RPZ X Z E F r):RPZ X Z E F1 r:=by
 cases r with
 | nx δ=>exact fun σ' F' H' s2 R=>h σ' F' H' (s.trans s2) R
 | rt d=>exact fun v F' H' A s2=>h v F' H' A (s.trans s2)
 | bk δ=>exact fun σ' F' H' s2 R=>h σ' F' H' (s.trans s2) R
 | ct δ=>exact fun σ' F' H' s2 R=>h σ' F' H' (s.trans s2) R
 | ex C δ=>exact h
 | mk C δ=>exact h
def upZ (X:Cx) (Z:L2.St->Prop) (s:SD):TS:=fun E σ H=>∃ F δ r,gT X.K F H σ δ/\Z σ/\s δ=some r/\RPZ X Z E F r
def PZD (X:Cx) (Z:L2.St->Prop) (st:Stmt) (s:SD):Prop:=PS X st (upZ X Z s)
def PZs (X:Cx) (Z:L2.St->Prop) (sts:List Stmt) (s:SD):Prop:=PSs X sts (upZ X Z s)
def ZOk (Z:L2.St->Prop):Prop:=∀ i,2<=i->∀ σ v,Z σ->Z (σ.set i (some v))
section
variable {X:Cx} {Z:L2.St->Prop} {st:Stmt} {rest:List Stmt} {s u:SD} {e:Expr} {fk fl:FD} {fm:FM} {c:FT} {pos:Pos}
theorem BD:PZs X Z [] bc:=qb qL fun E σ H ⟨F,δ,r,R,hz,e,k⟩=>by cases e;exact k σ F H (Same.refl F) R hz
theorem vw (h1:PZD X Z st s) (h2:PZs X Z rest u):PZs X Z (st :: rest) (aA s u):=qb (n6 h1 h2) fun E σ H ⟨F,δ,r,R,hz,e,k⟩=>by
 unfold aA at e
 obtain ⟨r1,e1,e⟩:=Za.mp e
 refine ⟨F,δ,r1,R,hz,e1,?_⟩
 cases r1 with
 | nx δ'=>exact fun σ' F' H' s1 R1 z1=>⟨F',δ',r,R1,z1,e,k.mono s1⟩
 | rt d=>cases e;exact k
 | bk d=>cases e;exact k
 | ct d=>cases e;exact k
 | ex C d=>cases e;exact k
 | mk C d=>cases e;exact k
theorem qI (h:PZD X Z st s):PZs X Z [st] s:=qK h
theorem Dd {cx:Expr} {a b:List Stmt} (hc:PTD X cx c) (ha:PZs X Z a s) (hb:PZs X Z b u):PZD X Z (.If cx a b pos) (sIf c s u):=gS (yj hc ha hb) fun E σ H ⟨F,δ,r,⟨As,R⟩,hz,q,k⟩=>by
 unfold sIf at q
 obtain ⟨d,ed,q⟩:=Za.mp q
 refine ⟨δ,d,R.toS,ed,fun H' s1=>?_⟩
 cases d with
 | true=>rw [if_pos rfl];exact ⟨F,δ,r,⟨As,R.grow s1⟩,hz,q,k⟩
 | false=>rw [if_neg Bool.false_ne_true];exact ⟨F,δ,r,⟨As,R.grow s1⟩,hz,q,k⟩
theorem BC (i:Nat) {x:Str} {pos':Pos} (zk:ZOk Z) (hN:X.N.Nodup) (he:PV X e fm) (h2:2<=i:=by decide) (hi:X.N[i]? = some x:=by rfl) (hx:Loc X.env.scope x:=by first | exact Or.inl rfl | exact Or.inr rfl) (hs:swapsWith e (some (.Name x pos')) pos.line X.env=pure false:=by rfl) (hf:X.fn x=true \/ X.env.scope.names.lookup x=some .local:=by first | exact .inl rfl | exact .inr rfl | assumption) :
 PZD X Z (.Assign [.Name x pos'] e pos) (az i fm):=gS (uq hN hi hx he hs hf) fun E σ H ⟨F,δ,r,⟨As,R⟩,hz,q,k⟩=>by
 unfold az at q
 obtain ⟨⟨d,δ'⟩,ed,q⟩:=Za.mp q
 cases q
 exact ⟨F,δ,As,d,δ',R,ed,fun v F' H' A As' ev R' r'=>k (σ.set i (some v)) F' H' ev.fs (R'.setM i r' ev.nd ev.dj) (zk i h2 σ v hz)⟩
theorem x9 {iter:Expr} {body:List Stmt} {src:FMA} {x:Str} {px:Pos} (i:Nat) (zk:ZOk Z) (hN:X.N.Nodup) (hp:PassesOwn (model X.prog X.w) X.A X.env X.xe) (hc:X.calm=true) (hi:PIM X (.Name x px) iter src) (hb:PZs X Z body s) (h2:2<=i:=by decide)
 (hx:X.N[i]? = some x:=by rfl) (hl:Loc X.env.scope x:=by first | exact Or.inl rfl | exact Or.inr rfl) (hf:X.fn x=true \/ X.env.scope.names.lookup x=some .local:=by first | exact .inl rfl | exact .inr rfl | assumption)
 (hs:∀ x,foldedSetIterable iter X.env x=pure x:=by intro _;rfl):PZD X Z (.For (.Name x px) iter body [] pos) (eS src i s):=gS (ur hp hc hi (jH hN hx hl hf) hb hs) fun E σ H ⟨F,δ,r,⟨As,R⟩,hz,e,k⟩=>by
 unfold eS at e
 obtain ⟨⟨ds,δ1⟩,eds,e⟩:=Za.mp e
 refine ⟨F,δ,As,ds,δ1,R,eds,fun J F1 H1 As1 s1 R1 it=>?_⟩
 refine ⟨fun j m σ H=>m=ds.length - j/\j<=ds.length/\∃ F2 δ,Same F1 F2/\gT X.K F2 H σ δ/\Z σ/\forM i s (ds.drop j) δ=some r/\RPZ X Z E F2 r,⟨ds.length,rfl,Nat.zero_le _,F1,δ1,Same.refl _,⟨As1,R1⟩,hz,e,k.mono s1⟩,?_⟩
 rintro j m σ H2 ⟨rfl,hjl,F2,δ2,s2,⟨As2,R2⟩,z2,e2,k2⟩
 by_cases hlt:j < ds.length
 . obtain ⟨go,yl⟩:=(it j H2 (s2.trans R2.fz)).1 hlt
   rw [List.drop_eq_getElem_cons hlt] at e2
   obtain ⟨r4,e4,e2⟩:=Za.mp (show ((s (δ2.set i (some (sh ds[j])))).bind _)=some r from e2)
   refine .inr ⟨go,fun σ' H'=>∃ F3 δ,Same F1 F3/\gT X.K F3 H' σ' δ/\Z σ'/\forM i s (ds.drop (j+1)) δ=some r/\RPZ X Z E F3 r,fun σ' H' z=>⟨ds.length - (j+1),by omega,rfl,hlt,z⟩,fun y H' yy=>?_⟩
   obtain ⟨eH,d,hd,rx⟩:=yl y H' yy
   subst eH
   have hd':d=ds[j]:=by
    rw [Zs hlt] at hd
    exact (Option.some.inj hd).symm
   subst hd'
   have R3:=R2.setM i (RepO.of_sh R2.fz (rx.mono s2)) List.nodup_nil fun _ _ _ z=>nomatch z
   refine ⟨F2,δ2.set i (some (sh ds[j])),r4,R3,zk i h2 σ y z2,e4,?_⟩
   cases r4 with
   | nx δ'=>exact fun σ' F' H'' s4 R4 z4=>⟨F',δ',s2.trans s4,R4,z4,e2,k2.mono s4⟩
   | ct δ'=>exact fun σ' F' H'' s4 R4 z4=>⟨F',δ',s2.trans s4,R4,z4,e2,k2.mono s4⟩
   | bk δ'=>cases e2;exact k2
   | rt d=>cases e2;exact k2
   | ex C δ'=>cases e2;exact k2
   | mk C δ'=>cases e2;exact k2
 . have e:j=ds.length:=by omega
   subst e
   rw [List.drop_length] at e2
   cases e2
   exact .inl ⟨(it _ H2 (s2.trans R2.fz)).2 (Nat.le_refl _),k2 σ F2 H2 (Same.refl _) ⟨As2,R2⟩ z2⟩
def gB (i:Nat) (fk fl:FD) (fm:FM):SD:=fun δ=>(fm δ).bind fun p=>match p.2[i]? with
 | some (some (.lst ds))=>(fk p.2).bind fun kd=>match kd with
  | .int k=>(ixN ds.length k).bind fun j=>match ds[j]? with
   | some (.lst row)=>(fl p.2).bind fun ld=>match ld with
    | .int l=>(ixN row.length l).bind fun m=>some (.nx (p.2.set i (some (.lst (ds.set j (.lst (row.set m p.1)))))))
    | _=>none
   | _=>none
  | _=>none
 | _=>none
theorem D0 {i:Nat} {K:PySem.W.Frag} {F H:Hp} {σ:L2.St} {δ:DS} {As:Nat->List Addr} {Q:L2.St->Hp->Prop} {r:Res} (R:RepA K F H σ δ As) (q:gB i fk fl fm δ=some r) (k:∀ F' H' δ',r=.nx δ'->Same F F'->gT K F' H' σ δ'->Q σ H') :
 Bt (upV K fm) (Aw (tOp (wZ K) (qx i) (up K fk)) (up K fl) vu) { nx:=Q,rt:=fun _ _=>True } σ H:=by
 unfold gB at q
 obtain ⟨⟨d,δ'⟩,ed,q⟩:=Za.mp q
 dsimp only at q
 split at q
 . rename_i ds h1
   obtain ⟨kd,ek,q⟩:=Za.mp q
   split at q
   . rename_i kk
     obtain ⟨j,hj,q⟩:=Za.mp q
     split at q
     . rename_i row hrow
       obtain ⟨ld,el,q⟩:=Za.mp q
       split at q
       . rename_i ll
         obtain ⟨m,hm,q⟩:=Za.mp q
         cases q
         refine ⟨F,δ,As,d,δ',R,ed,fun v F' H' A As' ev R' r'=>?_⟩
         obtain ⟨a,vs,A0,s0,_,g0,_,rl⟩:=R'.lst h1
         refine ⟨.ref a,s0,δ',.int kk,R'.toS,ek,fun iv H1 s1 ri=>?_⟩
         cases ri
         have R1:=R'.grow s1
         obtain ⟨a1,vs1,b,ws,B0,O,t0,u0,hv1,ub,rr1,ndB,inB,inO,aO,sep,_⟩:=R1.row h1 hrow
         have ea:a1=a:=by rw [s0] at t0;cases t0;rfl
         subst ea
         have es1:vs1=vs:=by
          have:=s1 _ _ g0
          rw [u0] at this;cases this;rfl
         subst es1
         refine ⟨a1,vs1,kk,.ref b,rfl,rfl,SqL.of u0,by unfold L2.atI;rw [rl.length,hj];exact hv1,?_⟩
         refine ⟨δ',.int ll,R1.toS,el,fun iv2 H2 s2 ri2=>?_⟩
         cases ri2
         have R2:=R1.grow s2
         obtain ⟨a2,vs2,b2,ws2,B2,O2,t2,u2,hv2,ub2,rr2,ndB2,inB2,inO2,aO2,sep2,fin⟩:=R2.row h1 hrow
         have ea:a2=a1:=by rw [s0] at t2;cases t2;rfl
         subst ea
         have es2:vs2=vs1:=by
          have:=s2 _ _ u0
          rw [u2] at this;cases this;rfl
         subst es2
         have eb:b2=b:=by rw [hv1] at hv2;cases hv2;rfl
         subst eb
         refine ⟨b2,ws2,ll,m,rfl,rfl,ub2,by rw [rr2.length];exact hm,?_⟩
         have ml:m < row.length:=(nc hm).2.1
         obtain ⟨v0,C1,C,C3,_,_,eC,pk⟩:=rr2.pick (i:=m) (d:=row[m]) (Zs ml)
         have rv:RepO K F' H2 v d A:=r'.frame (bZ (s1.trans s2)) fun x mm=>by
          obtain ⟨⟨ws,e⟩,_⟩:=r'.dom x mm
          rw [e];exact (s1.trans s2) x _ e
         have rn:=pk (H':=H2) (fun _ _ e _=>e) (fun _ _=>rfl) rv
         have nB:=List.nodup_cons.mp ndB2
         have nB2:=nB.2
         rw [eC] at nB2
         have n1:=List.nodup_append.mp nB2
         have n2:=List.nodup_append.mp n1.2.1
         have inC:∀ x,x∈C1 \/ x∈C3->x∈B2:=fun x mm=>by
          rw [eC]
          rcases mm with z | z
          . exact List.mem_append_left _ z
          . exact List.mem_append_right _ (List.mem_append_right _ z)
         have inI:∀ x,x∈C1 \/ x∈C3->x∈As' i:=fun x mm=>inB2 x (Zk _ (inC x mm))
         refine k F' _ _ rfl ev.fs (fin rn (fun z=>?_) ?_ (fun x mm z=>?_) fun kx x hk mm z=>?_)
         . rcases Zo.mp z with z | z
           . exact nB.1 (inC _ (.inl z))
           . rcases Zo.mp z with z | z
             . exact ev.dj i b2 (inB2 b2 Zj) z
             . exact nB.1 (inC _ (.inr z))
         . refine List.nodup_append.mpr ⟨n1.1,List.nodup_append.mpr ⟨ev.nd,n2.2.1,fun y hy w hw e=>?_⟩,fun y hy w hw e=>?_⟩
           . subst e;exact ev.dj i y (inI y (.inr hw)) hy
           . subst e
             rcases Zo.mp hw with z | z
             . exact ev.dj i y (inI y (.inl hy)) z
             . exact n1.2.2 y hy y (List.mem_append_right _ z) rfl
         . rcases Zo.mp mm with mm | mm
           . exact sep2 x (Zk _ (inC x (.inl mm))) z
           . rcases Zo.mp mm with mm | mm
             . exact ev.dj i x (inO2 x z) mm
             . exact sep2 x (Zk _ (inC x (.inr mm))) z
         . rcases Zo.mp z with z | z
           . exact R2.dj kx i x hk mm (inI x (.inl z))
           . rcases Zo.mp z with z | z
             . exact ev.dj kx x mm z
             . exact R2.dj kx i x hk mm (inI x (.inr z))
       . cases q
     . cases q
   . cases q
 . cases q
theorem uB {i:Nat} {δ:DS} {r:Res} (q:gB i fk fl fm δ=some r):∃ δ',r=.nx δ':=by
 unfold gB at q
 obtain ⟨⟨d,δ'⟩,ed,q⟩:=Za.mp q
 dsimp only at q
 split at q
 . obtain ⟨kd,ek,q⟩:=Za.mp q
   split at q
   . obtain ⟨j,hj,q⟩:=Za.mp q
     split at q
     . obtain ⟨ld,el,q⟩:=Za.mp q
       split at q
       . obtain ⟨m,hm,q⟩:=Za.mp q
         cases q
         exact ⟨_,rfl⟩
       . cases q
     . cases q
   . cases q
 . cases q
theorem vv (i:Nat) {tg:Expr} (he:PV X e fm) (hg:PG X tg (Aw (tOp (wZ X.K) (qx i) (up X.K fk)) (up X.K fl) vu)) (hs:swapsWithSole [tg] e pos.line X.env=pure false:=by rfl) (hw:swappedStores [tg] e X.env=pure none:=by rfl)
 (h1:(assignEach [tg] X.env).map (·.2)=[assign tg X.env]:=by rfl):PZD X Z (.Assign [tg] e pos) (gB i fk fl fm):=gS (ut he hg hs hw h1) fun E σ H ⟨F,δ,r,⟨As,R⟩,hz,q,k⟩=>by
 obtain ⟨δ',rfl⟩:=uB q
 exact D0 (Q:=E.nx) R q fun F' H' δ2 e s1 R1=>by cases e;exact k σ F' H' s1 R1 hz
end
def sR (K:PySem.W.Frag) (n:Nat) (G:List D->Option (D×D)):Sp:=fun vs H Q _=>vs.length=n/\∃ v0 v1 ws F d0 d1 A0 A1 es d0' d1',vs=v0 :: v1 :: ws/\Same F H/\RepO K F H v0 d0 A0/\RepO K F H v1 d1 A1/\(A0++A1).Nodup/\Reps K F ws es/\cn es=true /\
 G (d0 :: d1 :: es)=some (d0',d1')/\∀ F' H' A0' A1',Same F F'->Same F' H'->RepO K F' H' v0 d0' A0'->RepO K F' H' v1 d1' A1'->(A0'++A1').Nodup->Q .non H'
def nJ (n:Nat) (d0 d1:D) (es:List D):DS:=some d0 :: some d1 :: (es.map some++List.replicate (n - (es.length+2)) none)
def asZ (A0 A1:List Addr):Nat->List Addr
 | 0=>A0
 | 1=>A1
 | _=>[]
theorem sw {K:PySem.W.Frag} {F H:Hp} {N:List Str} {v0 v1:V} {ws:List V} {d0 d1:D} {es:List D} {A0 A1:List Addr} (s:Same F H) (r0:RepO K F H v0 d0 A0) (r1:RepO K F H v1 d1 A1) (nd:(A0++A1).Nodup) (r:Reps K F ws es) (im:cn es=true):gT K F H (L2.start N (v0 :: v1 :: ws)) (nJ N.length d0 d1 es):=by
 have l:=r.length
 have nd':=List.nodup_append.mp nd
 refine ⟨asZ A0 A1,s,by unfold L2.start nJ;simp [l],fun i d q=>?_,fun i h=>?_,fun i=>?_,fun i j a hij m=>?_⟩
 . match i,q with
   | 0,q=>cases q;exact ⟨v0,rfl,r0⟩
   | 1,q=>cases q;exact ⟨v1,rfl,r1⟩
   | i+2,q =>
    have q':(es.map some++List.replicate (N.length - (es.length+2)) none)[i]? = some (some d):=q
    have hi:i < es.length:=by
     by_cases hi:i < es.length
     . exact hi
     . rw [List.getElem?_append_right (by simpa using hi),List.getElem?_replicate] at q'
       split at q' <;> cases q'
    rw [List.getElem?_append_left (by simpa using hi),List.getElem?_map] at q'
    obtain ⟨e,h1,h2⟩:=Zb.mp q'
    cases h2
    obtain ⟨v,h5,h6⟩:=r.get h1
    refine ⟨v,?_,.imm (imms_mem.mp im d (List.mem_of_getElem? h1)) (h6.mono s)⟩
    unfold L2.start
    show (ws.map some++_)[i]? = _
    rw [List.getElem?_append_left (by rw [Zi,l];exact hi),List.getElem?_map,h5]
    rfl
 . match i,h with
   | 0,h=>exact absurd rfl (h d0)
   | 1,h=>exact absurd rfl (h d1)
   | i+2,_=>rfl
 . match i with
   | 0=>exact nd'.1
   | 1=>exact nd'.2.1
   | i+2=>exact List.nodup_nil
 . match i,j,hij,m with
   | 0,0,hij,_=>exact absurd rfl hij
   | 0,1,_,m=>exact fun z=>nd'.2.2 a m a z rfl
   | 0,j+2,_,_=>exact fun z=>nomatch z
   | 1,0,_,m=>exact fun z=>nd'.2.2 a z a m rfl
   | 1,1,hij,_=>exact absurd rfl hij
   | 1,j+2,_,_=>exact fun z=>nomatch z
   | i+2,_,_,m=>cases m
section
variable {P:Program} {w:World} {K:PySem.W.Frag} {mg:Str->Option Value} {base:Heap}
theorem B8 {x qual:Str} {st:Stmt} {f:Addr} {fd:FuncData} {N ps:List Str} {k:Nat} {G:List D->Option (D×D)} (F:Fun K x qual st f fd) (S:aD N ps (al st))
 (hbody:∀ (cdv:Value) (A:Around) (outer:List Env) (s:Shared) (H:Hp) (E:XK) (Z:L2.St->Prop) (d0 d1:D) (es:List D) (d0' d1':D),Room k (A.deeper (envOfC qual (al st) s.heap.objs.size f cdv))->ZOk Z->G (d0 :: d1 :: es)=some (d0',d1') ->
  ∃ t,PZs (oS CX0 P w K mg base N qual (al st) f cdv A outer s H E).nox Z (bM st) t/\∃ δ',t (nJ N.length d0 d1 es)=some (.nx δ')/\δ'[0]? = some (some d0')/\δ'[1]? = some (some d1')):FnOk P w K mg base CX0 (k+1) f fd ps (sR K ps.length G):=by
 refine F.ok S (fun vs H Q E h=>h.1) (fun cdv A outer s H vs Q E hr h=>?_)
 obtain ⟨hl,v0,v1,ws,F0,d0,d1,A0,A1,es,d0',d1',rfl,s0,r0,r1,nd,r,im,e,q⟩:=h
 obtain ⟨t,ht,δ',hq,g0,g1⟩:=hbody cdv A outer s H E (fun σ=>σ[0]? = some (some v0)/\σ[1]? = some (some v1)) d0 d1 es d0' d1' hr (fun i hi σ v ⟨a,b⟩=>⟨by rw [List.getElem?_set_ne (by omega)];exact a,by rw [List.getElem?_set_ne (by omega)];exact b⟩) e
 refine ⟨_,ht,F0,_,_,sw s0 r0 r1 nd r im,⟨rfl,rfl⟩,hq,fun σ' F' H' s1 ⟨As,R⟩ ⟨z0,z1⟩=>?_⟩
 obtain ⟨u0,h0,w0⟩:=R.val 0 _ g0
 obtain ⟨u1,h1,w1⟩:=R.val 1 _ g1
 rw [z0] at h0
 rw [z1] at h1
 cases h0
 cases h1
 exact q F' H' _ _ s1 R.fz w0 w1 (List.nodup_append.mpr ⟨R.nd 0,R.nd 1,fun a m b m' e=>by subst e;exact R.dj 0 1 a (by decide) m m'⟩)
structure CH (P:Program) (w:World) (K:PySem.W.Frag) (mg:Str->Option Value) (base:Heap) (k:Nat) (x:Str) (ps:List Str) (G:List D->Option (D×D)):Prop where
 ex:∃ f fd,FnOk P w K mg base CX0 k f fd ps (sR K ps.length G)/\mg x=some (.ref f)/\PySem.W.keepIn K (.ref f)=true/\Binds K fd ps []
end
def nU (i j:Nat) (G:List D->Option (D×D)) (g:FA):SD:=fun δ=>match δ[i]?,δ[j]? with
 | some (some (.lst xs)),some (some (.lst ys))=>(g δ).bind fun es=>(G (.lst xs :: .lst ys :: es)).bind fun p=>if cn es=true/\own p.1=true/\own p.2=true/\i ≠ j then some (.nx ((δ.set i (some p.1)).set j (some p.2))) else none
 | _,_=>none
noncomputable def uW (H:Hp) (A:List Addr):Hp:=fun a=>if a∈A then none else H a
theorem AI {H:Hp} {A:List Addr}:Same (uW H A) H:=fun a u e=>by
 unfold uW at e
 split at e
 . cases e
 . exact e
theorem t8 {H:Hp} {A:List Addr} {a:Addr} (m:a∈A):uW H A a=none:=if_pos m
theorem ny {H:Hp} {A:List Addr} {a:Addr} (m:a ∉ A):uW H A a=H a:=if_neg m
theorem yn {X:Cx} {e:Expr} {es:List Expr} {g:FA} {pos p spos:Pos} {k l n:Nat} {x:Str} {ps:List Str} {G:List D->Option (D×D)} (i j:Nat) (F:CH X.prog X.w X.K X.mg X.base k x ps G) (hr:Room l X.A) (ha:PA X (e :: es) (r6 (qx i) (r6 (qx j) (upA X.K n g)))) (hk:k<=l:=by decide) (hg:Gl X x:=by rfl)
 (hn:n+2=ps.length:=by rfl) (hdb:(x == ("__debug__":Str))=false:=by decide) (he:starEach (e :: es) X.env=(false,eval e X.env) :: starEach es X.env:=by rfl) (hpl:(backTo pos (starEach es X.env)).any (·.1)=false:=by rfl) (hs:swapsWith (.Call (.Name x p) (e :: es) [] pos) none spos.line X.env=pure false:=by rfl) :
 PMD X (.Expr (.Call (.Name x p) (e :: es) [] pos) spos) (nU i j G g):=by
 obtain ⟨f,fd,F,hm,kp,hb⟩:=F.ex
 refine gS (qM (mY F (hr.mono hk) hg hm kp hb .nil vG ha hdb he hpl) hs) fun E σ H ⟨F0,δ,r,⟨As,R⟩,q,k⟩=>?_
 unfold nU at q
 split at q
 . rename_i xs ys hi hj
   obtain ⟨ds,eds,q⟩:=Za.mp q
   obtain ⟨⟨d0',d1'⟩,eG,q⟩:=Za.mp q
   dsimp only at q
   split at q
   . rename_i hc
     obtain ⟨im,o0,o1,hij⟩:=hc
     cases q
     obtain ⟨v0,s0,r0⟩:=R.val i _ hi
     obtain ⟨v1,s1,r1⟩:=R.val j _ hj
     refine ⟨v0,s0,v1,s1,δ,ds,R.toS,eds,fun vs H1 t1 rr lv=>?_⟩
     show sR X.K ps.length G ((v0 :: v1 :: vs)++[]) H1 _ E0
     rw [List.append_nil]
     have R1:=R.grow t1
     obtain ⟨v0',s0',r0⟩:=R1.val i _ hi
     rw [s0] at s0'
     cases s0'
     obtain ⟨v1',s1',r1⟩:=R1.val j _ hj
     rw [s1] at s1'
     cases s1'
     have sF:Same F0 (uW H1 (As i++As j)):=fun a u e=>by
      rw [ny fun m=>?_]
      . exact R1.fz a u e
      . rcases Zo.mp m with z | z
        . rw [(R1.dom z).2] at e;cases e
        . rw [(R1.dom z).2] at e;cases e
     have nd:(As i++As j).Nodup:=List.nodup_append.mpr ⟨R1.nd i,R1.nd j,fun a m b m' e=>by subst e;exact R1.dj i j a hij m m'⟩
     refine ⟨by simp [lv,hn],v0,v1,vs,uW H1 (As i++As j),.lst xs,.lst ys,As i,As j,ds,d0',d1',rfl,AI,r0.froz sF fun a m=>t8 (List.mem_append_left _ m),r1.froz sF fun a m=>t8 (List.mem_append_right _ m),nd,?_,im,eG,fun F' H' A0' A1' sf sh w0 w1 nd'=>?_⟩
     . refine eJ (fun a u e nl=>?_) rr im
       rw [ny fun m=>?_]
       . exact e
       . rcases Zo.mp m with z | z
         . obtain ⟨⟨ws,h⟩,_⟩:=R1.dom z
           rw [e] at h;cases h;exact absurd (ws.2.symm.trans nl) (fun z=>nomatch z)
         . obtain ⟨⟨ws,h⟩,_⟩:=R1.dom z
           rw [e] at h;cases h;exact absurd (ws.2.symm.trans nl) (fun z=>nomatch z)
     . have nd2:=List.nodup_append.mp nd'
       have hF:Same F0 H':=(sF.trans sf).trans sh
       have kI:fI H1 H':=fun a u e nl=>by
        refine sh a u (sf a u ?_)
        rw [ny fun m=>?_]
        . exact e
        . rcases Zo.mp m with z | z
          . obtain ⟨⟨ws,h⟩,_⟩:=R1.dom z
            rw [e] at h;cases h;exact absurd (ws.2.symm.trans nl) (fun z=>nomatch z)
          . obtain ⟨⟨ws,h⟩,_⟩:=R1.dom z
            rw [e] at h;cases h;exact absurd (ws.2.symm.trans nl) (fun z=>nomatch z)
       have oth:∀ kx a,kx ≠ i->kx ≠ j->a∈As kx->H' a=H1 a/\F' a ≠ none:=fun kx a h1 h2 m=>by
        obtain ⟨⟨ws,h⟩,_⟩:=R1.dom m
        have b:uW H1 (As i++As j) a=some ws.1:=by
         rw [ny fun z=>?_]
         . exact h
         . rcases Zo.mp z with z | z
           . exact R1.dj kx i a h1 m z
           . exact R1.dj kx j a h2 m z
        have f:=sf a _ b
        exact ⟨by rw [h];exact sh a _ f,by rw [f];exact fun z=>nomatch z⟩
       have t0:=w0.thaw (sF.trans sf) o0
       have t1':=w1.thaw (sF.trans sf) o1
       have il:i < δ.length:=(List.getElem?_eq_some_iff.mp hi).1
       have jl:j < δ.length:=(List.getElem?_eq_some_iff.mp hj).1
       refine k σ F0 H' (Same.refl F0) ⟨lc (lc As i A0') j A1',hF,by rw [List.length_set,List.length_set];exact R.len,fun kx d q=>?_,fun kx h=>?_,fun kx=>?_,fun kx ky a hxy m=>?_⟩
       . by_cases hkj:kx=j
         . subst hkj
           rw [List.getElem?_set_self (by rw [List.length_set];exact jl)] at q
           cases q
           rw [aL]
           exact ⟨v1,s1,t1'⟩
         . rw [List.getElem?_set_ne (Ne.symm hkj)] at q
           rw [aI hkj]
           by_cases hki:kx=i
           . subst hki
             rw [List.getElem?_set_self il] at q
             cases q
             rw [aL]
             exact ⟨v0,s0,t0⟩
           . rw [List.getElem?_set_ne (Ne.symm hki)] at q
             rw [aI hki]
             obtain ⟨v,h1,h2⟩:=R1.val kx d q
             exact ⟨v,h1,h2.frame kI fun a m=>(oth kx a hki hkj m).1⟩
       . by_cases hkj:kx=j
         . subst hkj
           exact absurd (List.getElem?_set_self (by rw [List.length_set];exact jl)) (h d1')
         . rw [aI hkj]
           by_cases hki:kx=i
           . subst hki
             refine absurd ?_ (h d0')
             rw [List.getElem?_set_ne (Ne.symm hkj),List.getElem?_set_self il]
           . rw [aI hki]
             refine R1.non kx fun d z=>h d ?_
             rw [List.getElem?_set_ne (Ne.symm hkj),List.getElem?_set_ne (Ne.symm hki)]
             exact z
       . by_cases hkj:kx=j
         . subst hkj;rw [aL];exact nd2.2.1
         . rw [aI hkj]
           by_cases hki:kx=i
           . subst hki;rw [aL];exact nd2.1
           . rw [aI hki];exact R1.nd kx
       . have out0:∀ kz,kz ≠ i->kz ≠ j->a∈As kz->a ∉ A0':=fun kz h1 h2 mz z=>(oth kz a h1 h2 mz).2 (w0.dom a z).2
         have out1:∀ kz,kz ≠ i->kz ≠ j->a∈As kz->a ∉ A1':=fun kz h1 h2 mz z=>(oth kz a h1 h2 mz).2 (w1.dom a z).2
         by_cases hkj:kx=j
         . subst hkj
           rw [aL] at m
           rw [aI (Ne.symm hxy)]
           by_cases hki:ky=i
           . subst hki;rw [aL];exact fun z=>nd2.2.2 a z a m rfl
           . rw [aI hki];exact fun z=>out1 ky hki (Ne.symm hxy) z m
         . rw [aI hkj] at m
           by_cases hki:kx=i
           . subst hki
             rw [aL] at m
             by_cases hyj:ky=j
             . subst hyj;rw [aL];exact fun z=>nd2.2.2 a m a z rfl
             . rw [aI hyj,aI (Ne.symm hxy)];exact fun z=>out0 ky (Ne.symm hxy) hyj z m
           . rw [aI hki] at m
             by_cases hyj:ky=j
             . subst hyj;rw [aL];exact out1 kx hki hkj m
             . rw [aI hyj]
               by_cases hyi:ky=i
               . subst hyi;rw [aL];exact out0 kx hki hkj m
               . rw [aI hyi];exact R1.dj kx ky a hxy m
   . cases q
 . cases q
end Dl
namespace Dl
open PySem PySem.Spec PyProof.Rows L2
theorem Ev.sub {F H F' H':Hp} {As As':Nat->List Addr} {A B:List Addr} (ev:Ev F H As F' H' As' A) (h:∀ a∈B,a∈A) (nd:B.Nodup):Ev F H As F' H' As' B :=
 ⟨ev.fs,ev.hs,ev.nf,ev.fa,fun a m=>ev.fA a (h a m),nd,fun i a m z=>ev.dj i a m (h a z)⟩
theorem Ev.grow {F H F' H' H1:Hp} {As As':Nat->List Addr} {A:List Addr} (ev:Ev F H As F' H' As' A) (s:Same H' H1):Ev F H As F' H1 As' A :=
 ⟨ev.fs,ev.hs.trans s,ev.nf,ev.fa,ev.fA,ev.nd,ev.dj⟩
def xN (k:Nat) (fm:FM):FM:=fun δ=>(fm δ).bind fun p=>match p.1 with
 | .tup ds=>(ds[k]?).map fun d=>(d,p.2)
 | _=>none
theorem ya {X:Cx} {e b:Expr} {fm:FM} {pos:Pos} (k:Nat) (he:PV X e fm) (hb:PD X b (fC (.int (k:Int)))) (hs:nz b:=by intro _ _;rfl):PV X (.Subscript e b pos) (xN k fm):=imp (jX yV he hb hs) fun σ H Q ⟨F,δ,As,d,δ',R,q,kk⟩=>by
 unfold xN at q
 obtain ⟨⟨t,δ1⟩,et,q⟩:=Za.mp q
 dsimp only at q
 split at q
 . rename_i ds
   obtain ⟨d1,hd,q⟩:=Zb.mp q
   cases q
   refine ⟨F,δ,As,.tup ds,δ',R,et,fun v F' H' A As' ev R' r'=>?_⟩
   obtain ⟨a,vs,rfl,sq,ro⟩:=r'.parts
   refine ⟨δ',.int (k:Int),R'.toS,rfl,fun iv H1 s1 ri=>?_⟩
   cases ri
   obtain ⟨w,A1,B,A2,hw,rB,eA,_⟩:=ro.pick hd
   have nd:=ev.nd
   rw [eA] at nd
   have n1:=List.nodup_append.mp nd
   have n2:=List.nodup_append.mp n1.2.1
   refine ⟨a,vs,(k:Int),w,rfl,rfl,nK s1 sq,atI_nat hw,?_⟩
   refine kk w F' H1 B As' ((ev.sub (fun x m=>?_) n2.1).grow s1) (R'.grow s1) (rB.frame (bZ s1) fun x m=>?_)
   . rw [eA];exact List.mem_append_right _ (List.mem_append_left _ m)
   . obtain ⟨⟨ws,e⟩,_⟩:=rB.dom x m
     rw [e];exact s1 x _ e
 . cases q
def iQ:List D->Option (List Int)
 | []=>some []
 | .int i :: ds=>(iQ ds).map (i :: ·)
 | _ :: _=>none
theorem lX {K:PySem.W.Frag} {H:Hp}:∀ {vs:List V} {ds:List D} {ns:List Int},Reps K H vs ds->iQ ds=some ns->vs=ns.map V.int
 | _,_,_,.nil,e=>by cases e;rfl
 | _,_,ns,.cons (d:=.int i) r t,e=>by
  obtain ⟨ms,em,e⟩:=Zb.mp (show (iQ _).map (i :: ·)=some ns from e)
  subst e
  cases r
  rw [lX t em]
  rfl
 | _,_,_,.cons (d:=.non) _ _,e=>by cases e
 | _,_,_,.cons (d:=.bl _) _ _,e=>by cases e
 | _,_,_,.cons (d:=.str _) _ _,e=>by cases e
 | _,_,_,.cons (d:=.tup _) _ _,e=>by cases e
 | _,_,_,.cons (d:=.lst _) _ _,e=>by cases e
 | _,_,_,.cons (d:=.seq _) _ _,e=>by cases e
 | _,_,_,.cons (d:=.ty _) _ _,e=>by cases e
 | _,_,_,.cons (d:=.dct) _ _,e=>by cases e
 | _,_,_,.cons (d:=.exc _) _ _,e=>by cases e
 | _,_,_,.cons (d:=.cls _) _ _,e=>by cases e
 | _,_,_,.cons (d:=.ms _ _) _ _,e=>by cases e
 | _,_,_,.cons (d:=.mf _ _) _ _,e=>by cases e
 | _,_,_,.cons (d:=.md _ _) _ _,e=>by cases e
theorem jz:∀ {ns:List Int} {us:List Value},Vals (ns.map V.int) us->PyProof.Rows.IntsAre us ns
 | [],_,.nil=>.nil
 | n :: ns,_,.cons r t=>by
  obtain ⟨tk,rfl⟩:=r
  exact .cons n tk (jz t)
section
variable {X:Cx}
end
section
variable {K:PySem.W.Frag} {F H:Hp} {σ:L2.St} {δ:DS} {As:Nat->List Addr} {i:Nat} {x:D} {ds:List D}
end
section
variable {X:Cx} {pos:Pos} {c:Expr} {f:FD}
end
end Dl
namespace Dl
open PySem PySem.Spec PyProof.Rows L2
noncomputable def fnM (S:List D->D×D->Prop) (ds:List D):Option (D×D):=by
 classical exact if h:(∃ d,S ds d)/\∀ d e,S ds d->S ds e->d=e then some h.1.choose else none
theorem Cp {S:List D->D×D->Prop} {ds:List D} {p:D×D} (u:∀ q,S ds q->q=p) (h:S ds p):fnM S ds=some p:=by
 unfold fnM
 rw [dif_pos ⟨⟨p,h⟩,fun d e a b=>(u d a).trans (u e b).symm⟩]
 exact congrArg some (u _ (Exists.choose_spec (⟨p,h⟩:∃ d,S ds d)))
theorem AB {S:List D->D×D->Prop} {ds:List D} {p:D×D} (h:fnM S ds=some p):S ds p:=by
 unfold fnM at h
 split at h
 . rename_i g
   cases h
   exact g.1.choose_spec
 . cases h
end Dl
namespace Dl
open PySem PySem.Spec PyProof.Rows L2
def lk (ks:List Int) (ds:List D) (k:Int):Option D:=((ks.zip ds).find? fun p=>decide (p.1=k)).map (·.2)
theorem re {k j:Int} {ks:List Int} {d:D} {ds:List D}:lk (j :: ks) (d :: ds) k=if j=k then some d else lk ks ds k:=by
 unfold lk
 rw [List.zip_cons_cons,List.find?_cons]
 by_cases h:j=k
 . simp [h]
 . simp [h]
def kz (ks:List Int) (vs:List V):List (Key×V):=(ks.map Sum.inl).zip vs
theorem yM {K:PySem.W.Frag} {H:Hp} (k:Int):∀ {ks:List Int} {vs:List V} {ds:List D},ks.length=ds.length->Reps K H vs ds ->
 (∀ d,lk ks ds k=some d->∃ v,kw (kz ks vs) (.inl k)=some v/\Rep K H v d)/\(lk ks ds k=none->kw (kz ks vs) (.inl k)=none)
 | [],_,_,_,_=>⟨fun d e=>(by cases e),fun _=>rfl⟩
 | j :: ks,_,_,l,.nil=>by cases l
 | j :: ks,v :: vs,d :: ds,l,.cons r t=>by
  have ih:=yM k (ks:=ks) (by simpa using l) t
  rw [re]
  show (∀ d',_->∃ w,kw ((.inl j,v) :: kz ks vs) (.inl k)=some w/\_)/\(_->kw ((.inl j,v) :: kz ks vs) (.inl k)=none)
  by_cases h:j=k
  . subst h
    rw [if_pos rfl,kr rfl]
    exact ⟨fun d' e=>by cases e;exact ⟨v,rfl,r⟩,fun e=>by cases e⟩
  . rw [if_neg h,ku (fun z=>h (by cases z;rfl))]
    exact ih
def asM:D->Option (List Int×List D)
 | .ms ks ds=>some (ks,ds)
 | .md ks ds=>some (ks,ds)
 | .mf ks ds=>some (ks,ds)
 | _=>none
theorem Rep.mapD {K:PySem.W.Frag} {H:Hp} {v:V} {d:D} {m:List Int×List D} (r:Rep K H v d) (e:asM d=some m):∃ a vs,v=.ref a/\Rd H a (.dK (kz m.1 vs))/\m.1.length=m.2.length/\Reps K H vs m.2:=by
 cases r with
 | ms h l r=>cases e;exact ⟨_,_,rfl,h,l,r⟩
 | md h l r=>cases e;exact ⟨_,_,rfl,.inl h,l,r⟩
 | mf h l r=>cases e;exact ⟨_,_,rfl,.inr h,l,r⟩
 | _=>cases e
def tM (a b:D):Option D:=(asM a).bind fun m=>match b with
 | .int k=>lk m.1 m.2 k
 | _=>none
def ni (a b:D):Option D:=(asM b).bind fun m=>match a with
 | .int k=>some (.bl (!(lk m.1 m.2 k).isSome))
 | _=>none
theorem yN {K:PySem.W.Frag} {H:Hp} {k:Int} {a:Addr} {ks:List Int} {vs:List V} {ds:List D} (h:Rd H a (.dK (kz ks vs))) (l:ks.length=ds.length) (r:Reps K H vs ds):∃ o,xH H a (.int k) o/\o.isSome=(lk ks ds k).isSome/\∀ d,lk ks ds k=some d->∃ v,o=some v/\Rep K H v d:=by
 obtain ⟨h1,h2⟩:=yM (H:=H) k l r
 refine ⟨_,.inl ⟨_,.inl k,h,rfl,rfl⟩,?_,fun d e=>?_⟩
 . cases q:lk ks ds k with
   | none=>rw [h2 q];rfl
   | some d=>obtain ⟨v,e,_⟩:=h1 d q;rw [e];rfl
 . exact h1 d e
section
variable {X:Cx} {a b:Expr} {fa fb:FD} {pos:Pos}
theorem mZ (hu:X.A.units+1 < cLine) (ha:PD X a fa) (hb:PD X b fb) (hs:CG b:=by intro _ _;rfl):PD X (.Subscript a b pos) (f2 tM fa fb):=imp (z6 hu ha hb hs) fun σ H Q ⟨δ,d,R,e,k⟩=>by
 obtain ⟨x,ex,e⟩:=Za.mp e
 obtain ⟨y,ey,e⟩:=Za.mp e
 unfold tM at e
 obtain ⟨m,em,e⟩:=Za.mp e
 split at e
 . rename_i kk _
   refine ⟨δ,x,R,ex,fun v H1 s1 r1=>⟨δ,_,R.mono s1,ey,fun w H2 s2 r2=>?_⟩⟩
   obtain ⟨p,vs,rfl,h,l,r⟩:=(r1.mono s2).mapD em
   cases r2
   obtain ⟨o,g,_,f⟩:=yN (k:=kk) h l r
   obtain ⟨u,rfl,ru⟩:=f d e
   exact ⟨p,u,rfl,g,k u H2 (s1.trans s2) ru⟩
 . cases e
theorem uJ {K:PySem.W.Frag} {σ:L2.St} {H:Hp} {Q:VK} (q:up K (f2 ni fa fb) σ H Q):vd (up K fa) (up K fb) σ H Q:=by
 obtain ⟨δ,d,R,e,k⟩:=q
 obtain ⟨x,ex,e⟩:=Za.mp e
 obtain ⟨y,ey,e⟩:=Za.mp e
 unfold ni at e
 obtain ⟨m,em,e⟩:=Za.mp e
 split at e
 . rename_i kk _ _
   cases e
   refine ⟨δ,_,R,ex,fun v H1 s1 r1=>⟨δ,y,R.mono s1,ey,fun w H2 s2 r2=>?_⟩⟩
   cases r1
   obtain ⟨p,vs,rfl,h,l,r⟩:=r2.mapD em
   obtain ⟨o,g,i,_⟩:=yN (k:=kk) h l r
   refine ⟨p,o,rfl,g,?_⟩
   rw [i]
   exact k _ H2 (s1.trans s2) (.bl _)
 . cases e
theorem uo (hu:X.A.units+1 < cLine) (ha:PD X a fa) (hb:PD X b fb) (hm:behindInMarks .NotIn b=false:=by with_unfolding_all rfl):PTD X (.Compare a [.NotIn] [b] pos) (fT (f2 ni fa fb)):=Ar (BK (xb hu ha hb) hm) fun _ _ _ q=>uY (fun _ _ _ z=>uJ z) q
end
def ptV {α:Type} (ks:List Int) (ds:List α) (k:Int) (x:α):List α:=if k∈ks then (ks.zip ds).map fun p=>if p.1=k then x else p.2 else ds++[x]
def ptK (ks:List Int) (k:Int):List Int:=if k∈ks then ks else ks++[k]
def nS (i:Nat) (fk:FD) (fm:FM):SD:=fun δ=>(fm δ).bind fun p=>match p.2[i]? with
 | some (some (.md ks ds))=>(fk p.2).bind fun kd=>match kd with
  | .int k=>if imm p.1 && decide (ks.length<=999) then some (.nx (p.2.set i (some (.md (ptK ks k) (ptV ks ds k p.1))))) else none
  | _=>none
 | _=>none
section
variable {K:PySem.W.Frag} {F H:Hp} {σ:L2.St} {δ:DS} {As:Nat->List Addr}
theorem RepO.md_inv {ks:List Int} {ds:List D}:∀ {v:V} {d:D} {A:List Addr},RepO K F H v d A->d=.md ks ds->∃ a vs,v=.ref a/\A=[a]/\H a=some (.dK (kz ks vs))/\F a=none/\ks.length=ds.length/\cn ds=true/\Reps K H vs ds
 | _,_,_,.imm i _,e=>by subst e;rw [Dl.imm] at i;cases i
 | _,_,_,.shr _,e=>nomatch e
 | _,_,_,.shm _,e=>nomatch e
 | _,_,_,.shf _,e=>nomatch e
 | _,_,_,.tup _ _,e=>nomatch e
 | _,_,_,.lst _ _ _,e=>nomatch e
 | _,_,_,.md h n l i r,e=>by cases e;exact ⟨_,_,rfl,rfl,h,n,l,i,r⟩
theorem RepA.md {i:Nat} {ks:List Int} {ds:List D} (R:RepA K F H σ δ As) (h:δ[i]? = some (some (.md ks ds))):∃ a vs,σ[i]? = some (some (.ref a))/\As i=[a]/\H a=some (.dK (kz ks vs))/\F a=none/\ks.length=ds.length/\cn ds=true/\Reps K H vs ds:=by
 obtain ⟨v,h1,h2⟩:=R.val i _ h
 obtain ⟨a,vs,rfl,r⟩:=h2.md_inv rfl
 exact ⟨a,vs,h1,r⟩
theorem zD {k:Int}:∀ {ks:List Int} {vs:List V},ks.length=vs.length->((kz ks vs).any fun kv=>decide (kv.1=(.inl k:Key)))=decide (k∈ks)
 | [],_,_=>by simp [kz]
 | j :: ks,[],l=>by cases l
 | j :: ks,v :: vs,l=>by
  show ((Sum.inl j,v) :: kz ks vs).any _=_
  rw [List.any_cons,zD (by simpa using l)]
  by_cases h:j=k
  . subst h;simp
  . have h':¬ k=j:=fun z=>h z.symm
    simp [h,h',Sum.inl.injEq]
theorem yT {ks:List Int} {vs:List V} (l:ks.length=vs.length):(kz ks vs).length=ks.length:=by
 unfold kz;rw [List.length_zip,Zi];omega
theorem yS {k:Int} {v:V}:∀ {ks:List Int} {vs:List V},ks.length=vs.length->((kz ks vs).map fun kv=>if kv.1=(.inl k:Key) then (kv.1,v) else kv)=kz ks ((ks.zip vs).map fun p=>if p.1=k then v else p.2)
 | [],_,_=>by simp [kz]
 | j :: ks,[],l=>by cases l
 | j :: ks,w :: vs,l=>by
  have ih:=yS (k:=k) (v:=v) (ks:=ks) (vs:=vs) (by simpa using l)
  show (if (Sum.inl j:Key)=.inl k then ((Sum.inl j:Key),v) else (.inl j,w)) :: ((kz ks vs).map _)=(.inl j,if j=k then v else w) :: kz ks ((ks.zip vs).map _)
  rw [ih]
  by_cases h:j=k
  . subst h;rw [if_pos rfl,if_pos rfl]
  . rw [if_neg (fun z=>h (by cases z;rfl)),if_neg h]
theorem B9 {k:Int} {v:V} {ks:List Int} {vs:List V} (l:ks.length=vs.length):jh (kz ks vs) (.inl k) v=kz (ptK ks k) (ptV ks vs k v):=by
 unfold jh ptK ptV
 rw [zD l]
 by_cases h:k∈ks
 . rw [if_pos (by simpa using h),if_pos h,if_pos h,yS l]
 . rw [if_neg (by simpa using h),if_neg h,if_neg h]
   unfold kz
   rw [List.map_append,List.zip_append (by rw [Zi];exact l)]
   rfl
theorem sv {k:Int} {v:V} {d:D} (rv:Rep K H v d):∀ {ks:List Int} {vs:List V} {ds:List D},ks.length=ds.length->Reps K H vs ds->Reps K H ((ks.zip vs).map fun p=>if p.1=k then v else p.2) ((ks.zip ds).map fun p=>if p.1=k then d else p.2)
 | [],_,_,_,_=>.nil
 | j :: ks,_,_,l,.nil=>by cases l
 | j :: ks,w :: vs,e :: ds,l,.cons r t=>by
  have ih:=sv (k:=k) rv (ks:=ks) (by simpa using l) t
  show Reps K H ((if j=k then v else w) :: _) ((if j=k then d else e) :: _)
  by_cases h:j=k
  . rw [if_pos h,if_pos h];exact .cons rv ih
  . rw [if_neg h,if_neg h];exact .cons r ih
theorem pS {v:V} {d:D} (rv:Rep K H v d):∀ {vs:List V} {ds:List D},Reps K H vs ds->Reps K H (vs++[v]) (ds++[d])
 | _,_,.nil=>.cons rv .nil
 | _,_,.cons r t=>.cons r (pS rv t)
theorem xY {k:Int} {v:V} {d:D} {ks:List Int} {vs:List V} {ds:List D} (rv:Rep K H v d) (l:ks.length=ds.length) (r:Reps K H vs ds):Reps K H (ptV ks vs k v) (ptV ks ds k d):=by
 unfold ptV
 split
 . exact sv rv l r
 . exact pS rv r
theorem tF {k:Int} {d:D} (h:imm d=true):∀ {ks:List Int} {ds:List D},cn ds=true->cn ((ks.zip ds).map fun p=>if p.1=k then d else p.2)=true
 | [],_,_=>rfl
 | j :: ks,[],_=>rfl
 | j :: ks,e :: ds,i=>by
  rw [cn,Bool.and_eq_true] at i
  show cn ((if j=k then d else e) :: _)=true
  rw [cn,Bool.and_eq_true]
  exact ⟨(by split;exact h;exact i.1),tF h i.2⟩
theorem qc {d:D} (h:imm d=true):∀ {ds:List D},cn ds=true->cn (ds++[d])=true
 | [],_=>by show cn [d]=true;rw [cn,h];rfl
 | e :: ds,i=>by
  rw [cn,Bool.and_eq_true] at i
  show cn (e :: (ds++[d]))=true
  rw [cn,Bool.and_eq_true]
  exact ⟨i.1,qc h i.2⟩
theorem tD {k:Int} {d:D} {ks:List Int} {ds:List D} (h:imm d=true) (i:cn ds=true):cn (ptV ks ds k d)=true:=by
 unfold ptV
 split
 . exact tF h i
 . exact qc h i
theorem Al {α:Type} {k:Int} {d:α} {ks:List Int} {ds:List α} (l:ks.length=ds.length):(ptK ks k).length=(ptV ks ds k d).length:=by
 unfold ptK ptV
 split
 . rw [Zi,List.length_zip];omega
 . rw [Zh,Zh,l];rfl
end
section
variable {X:Cx} {e ei:Expr} {fk:FD} {fm:FM} {pos p1 p2 p3 p4:Pos}
theorem vA (hu:X.A.units+1 < cLine) (i:Nat) {x:Str} (he:PV X e fm) (hk:PD X ei fk) (hN:X.N[i]? = some x:=by rfl) (hv:Vis X.env.scope x:=by first | exact Or.inl rfl | exact Or.inr (Or.inl rfl) | exact Or.inr (Or.inr rfl)) (hd:(x == ("__debug__":Str))=false:=by decide) (hcd:(x == ("__classdict__":Str))=false:=by decide)
 (hs:swapsWith e (some (.Subscript (.Name x p1) ei p2)) pos.line X.env=pure false:=by rfl) :
 PMD X (.Assign [.Subscript (.Name x p1) ei p2] e pos) (nS i fk fm) :=
 gS (zU hu (n9 hN hv hd hcd) hk he hs) fun E σ H ⟨F,δ,r,⟨As,R⟩,q,k⟩=>by
 unfold nS at q
 obtain ⟨⟨d,δ'⟩,ed,q⟩:=Za.mp q
 dsimp only at q
 split at q
 . rename_i ks ds h1
   obtain ⟨kd,ek,q⟩:=Za.mp q
   split at q
   . rename_i kk
     split at q
     . rename_i hc
       cases q
       rw [Bool.and_eq_true,decide_eq_true_eq] at hc
       obtain ⟨hi,hz⟩:=hc
       refine ⟨F,δ,As,d,δ',R,ed,fun v F' H' A As' ev R' r'=>?_⟩
       obtain ⟨a,vs,s1,eA,g1,n1,l1,i1,rp⟩:=R'.md h1
       refine ⟨.ref a,s1,δ',.int kk,R'.toS,ek,fun iv H2 s2 ri=>?_⟩
       cases ri
       have R2:=R'.grow s2
       have r2:=(r'.rep R'.fz).mono s2
       obtain ⟨a2,vs2,s12,eA2,g2,n2,l2,i2,rp2⟩:=R2.md h1
       have ea:a2=a:=by rw [s1] at s12;cases s12;rfl
       subst ea
       have lv:ks.length=vs2.length:=by rw [rp2.length];exact l2
       refine ⟨a2,_,rfl,DPut.k (k:=.inl kk) g2 (Nat.lt_of_le_of_lt (by rw [yT lv];exact hz) (jC (show 999<=1000 by decide))),?_⟩
       rw [B9 lv]
       have ai:a2∈As' i:=by rw [eA2];exact Zj
       have hl:i < δ'.length:=(List.getElem?_eq_some_iff.mp h1).1
       have kp:fI H2 (upd H2 a2 (.dK (kz (ptK ks kk) (ptV ks vs2 kk v)))):=iF g2 rfl
       have nj:∀ j x,j ≠ i->x∈As' j->x ≠ a2:=fun j x hj m z=>R2.dj j i x hj m (z ▸ ai)
       have rn:Reps X.K (upd H2 a2 (.dK (kz (ptK ks kk) (ptV ks vs2 kk v)))) (ptV ks vs2 kk v) (ptV ks ds kk d):=eJ kp (xY r2 l2 rp2) (tD hi i2)
       exact k σ F' _ ev.fs ⟨_,R2.write hl s12 kp (kL R2.fz n2) (fun j x hj m=>aB (nj j x hj m)) (.md aX n2 (Al l2) (tD hi i2) rn) (List.nodup_cons.mpr ⟨fun z=>(nomatch z),List.nodup_nil⟩) fun j x hj m z=>nj j x hj m (Zl.mp z)⟩
     . cases q
   . cases q
 . cases q
end
section
variable {K:PySem.W.Frag} {F H:Hp} {σ:L2.St} {δ:DS} {As:Nat->List Addr}
theorem yJ {H1:Hp} {ks:List Int} {vs:List V} {ds:List D} {p:Addr} {Q:VK} (R:RepA K F H σ δ As) (s:Same H H1) (r:Reps K H1 vs ds) (l:ks.length=ds.length) (i:cn ds=true) (hp:H p=none) (hm:H1 p=none \/ ∃ es,H1 p=some (.dK es))
 (k:∀ v F' H' A As',Ev F H As F' H' As' A->RepA K F' H' σ δ As'->RepO K F' H' v (.md ks ds) A->Q v H'):Q (.ref p) (upd H1 p (.dK (kz ks vs))):=by
 have sn:Same H (upd H1 p (.dK (kz ks vs))):=fun a u e=>by
  have:a ≠ p:=fun z=>by rw [z,hp] at e;cases e
  rw [aB this];exact s a u e
 have kp:fI H1 (upd H1 p (.dK (kz ks vs))):=fun a u e n=>by
  have:a ≠ p:=fun z=>by
   rw [z] at e
   rcases hm with h | ⟨es,h⟩
   . rw [h] at e;cases e
   . rw [h] at e;cases e;cases n
  rw [aB this];exact e
 refine k _ F _ [p] As (.fresh sn (fun a m=>?_) (List.nodup_cons.mpr ⟨fun z=>(nomatch z),List.nodup_nil⟩) (fun i a m=>(R.dom m).1)) (R.grow sn) (.md aX (cA R.fz hp) l i (eJ kp r i))
 rw [Zl.mp m]
 exact hp
end
def v9:List D->Option (List Int×List D)
 | [d]=>asM d
 | _=>none
def vc (g:FA):FM:=fun δ=>(g δ).bind fun xs=>(v9 xs).bind fun m=>if cn m.2 then some (.md m.1 m.2,δ) else none
def j3 (fk fv:FD):FM:=fun δ=>(fk δ).bind fun kd=>match kd with
 | .int k=>(fv δ).bind fun d=>if imm d then some (.md [k] [d],δ) else none
 | _=>none
section
variable {X:Cx} {e ek ev:Expr} {g:FA} {fk fv:FD} {pos p:Pos}
theorem rN:ib X (.type "dict") (fun xs H Q=>∃ a kvs,xs=[.ref a]/\Rd H a (.dK kvs)/\∀ l,H l=none->Q (.ref l) (upd H l (.dK kvs))):=by
 intro pins s σ H xs us Q I r h
 obtain ⟨a,kvs,rfl,hq,q⟩:=h
 obtain ⟨u,rfl,rx⟩:=ko r
 cases rx
 exact zr I hq fun l s' hl I'=>⟨.ref l,_,I',rfl,q l hl⟩
theorem w6 (hg:Gl X "dict") (hm:X.mg "dict" = none) (hv:bootBuiltins "dict" = some (.type "dict")) (ha:PAD X [e] g) (he:starEach [e] X.env=(false,eval e X.env) :: starEach [] X.env:=by rfl) (hpl:(backTo pos (starEach [] X.env)).any (·.1)=false:=by rfl) :
 PV X (.Call (.Name "dict" p) [e] [] pos) (vc g):=imp (lD rN hg hm hv ha (by decide) (by decide) he hpl) fun σ H Q ⟨F,δ,As,d,δ',RA,q,k⟩=>by
 unfold vc at q
 obtain ⟨xs,exs,q⟩:=Za.mp q
 obtain ⟨m,em,q⟩:=Za.mp q
 split at q
 . rename_i hi
   cases q
   refine ⟨_,xs,RA.toS,exs,fun vs H1 s1 r1 l=>?_⟩
   unfold v9 at em
   split at em
   . obtain ⟨v,rfl,rv⟩:=gC r1
     obtain ⟨a,ws,rfl,h,hl,rp⟩:=rv.mapD em
     exact ⟨a,_,rfl,h,fun q hq=>yJ RA s1 rp hl hi (cA s1 hq) (.inl hq) k⟩
   . cases em
 . cases q
theorem yc (hk:PD X ek fk) (hv:PD X ev fv):PV X (.Dict [some ek] [ev] pos) (j3 fk fv):=imp (vE (sD hk hv vz) rfl rfl (by simp) (by simp)) fun σ H Q ⟨F,δ,As,d,δ',RA,q,k⟩=>by
 unfold j3 at q
 obtain ⟨kd,ekd,q⟩:=Za.mp q
 split at q
 . rename_i kk
   obtain ⟨x,ex,q⟩:=Za.mp q
   split at q
   . rename_i hi
     cases q
     intro p hp
     have s0:=df hp (.dK [])
     refine ⟨_,.int kk,RA.toS.mono s0,ekd,fun kv H1 s1 rk=>⟨_,x,(RA.toS.mono s0).mono s1,ex,fun v H2 s2 rv=>?_⟩⟩
     cases rk
     have e2:H2 p=some (.dK []):=s2 _ _ (s1 _ _ aX)
     exact ⟨e2,[(.inl kk,v)],rfl,(by simp),yJ (ks:=[kk]) (vs:=[v]) RA ((s0.trans s1).trans s2) (.cons rv .nil) rfl (by rw [cn,hi];rfl) hp (.inr ⟨_,e2⟩) k⟩
   . cases q
 . cases q
def uP (fk fv:FD):FD:=fun δ=>(j3 fk fv δ).map (·.1)
theorem yw (hk:PD X ek fk) (hv:PD X ev fv):PD X (.Dict [some ek] [ev] pos) (uP fk fv):=imp (vE (sD hk hv vz) rfl rfl (by simp) (by simp)) fun σ H Q ⟨δ,d,R,q,k⟩=>by
 unfold uP j3 at q
 obtain ⟨⟨d1,δ1⟩,q2,rfl⟩:=Zb.mp q
 clear q
 obtain ⟨kd,ekd,q⟩:=Za.mp q2
 split at q
 . rename_i kk
   obtain ⟨x,ex,q⟩:=Za.mp q
   split at q
   . rename_i hi
     cases q
     intro p hp
     have s0:=df hp (.dK [])
     refine ⟨_,.int kk,R.mono s0,ekd,fun kv H1 s1 rk=>⟨_,x,(R.mono s0).mono s1,ex,fun v H2 s2 rv=>?_⟩⟩
     cases rk
     have e2:H2 p=some (.dK []):=s2 _ _ (s1 _ _ aX)
     have kp:fI H2 (upd H2 p (.dK (kz [kk] [v]))):=iF e2 rfl
     have sn:Same H (upd H2 p (.dK (kz [kk] [v]))):=fun b u e=>by
      have:b ≠ p:=fun z=>by rw [z,hp] at e;cases e
      rw [aB this];exact s2 _ _ (s1 _ _ (s0 _ _ e))
     exact ⟨e2,[(.inl kk,v)],rfl,(by simp),k (.ref p) (upd H2 p (.dK (kz [kk] [v]))) sn (.md aX rfl (.cons (jg kp rv hi) .nil))⟩
   . cases q
 . cases q
end
end Dl
namespace Dl
open PySem PySem.Spec PyProof.Rows L2
def Itd (d:Addr) (o:Obj) (kvs:List (Key×V)):It :=
 ⟨fun i H=>H d=some (.frz o (.dK kvs))/\i < kvs.length,fun i H v H'=>H'=H/\∃ k x,kvs[i]? = some (k,x)/\v=kV k,fun i H=>H d=some (.frz o (.dK kvs))/\kvs.length<=i⟩
theorem xo {k:Key} {u:Value} (h:oD k u=true):RelV (kV k) u:=by
 rcases ci h with ⟨i,t,rfl,rfl⟩ | ⟨x,t,rfl,rfl⟩
 . exact ⟨t,rfl⟩
 . exact ⟨t,rfl⟩
theorem qj {P:Program} {w:World} {H:Hp} {h:Heap} {d:Addr} {o:Obj} {kvs:List (Key×V)} {ep:Nat} (ok:HOk P w H h) (e:H d=some (.frz o (.dK kvs))) (hd:∃ es,o.data=.dict es ep):(d == sysModules)=false/\∃ vs,KV kvs vs/\h.DictAt (bT P w) d vs ep:=by
 obtain ⟨ho,_,hs,vs,r,o',es,ep',ho',c⟩:=(show h.get? d=some o/\kvs.length<=sizeLine/\(d == sysModules)=false/\∃ vs,KV kvs vs/\h.DictOf (bT P w) d vs from ok d _ e)
 rw [ho] at ho'
 cases ho'
 obtain ⟨es2,hd⟩:=hd
 obtain ⟨c1,c2,c3⟩:=c
 rw [c2] at hd
 cases hd
 exact ⟨hs,vs,r,_,_,ho,c1,c2,c3⟩
theorem wR {P:Program} {w:World} {K:PySem.W.Frag} {tg:Expr} {it d:Addr} {o:Obj} {kvs:List (Key×V)} {ep:Nat} (hd:∃ es,o.data=.dict es ep) (hne:d ≠ it):uZ P w K tg (Itd d o kvs) [it] it (fun i h=>h.IsKeyIter it d i kvs.length ep) where
 mem:=by simp
 obj:=fun i h st b hb=>by
  obtain ⟨o1,e1,_,d1⟩:=st
  have e:b=it:=by simpa using hb
  subst e
  exact ⟨o1,e1,fun v q=>by rw [d1] at q;cases q⟩
 keep:=fun i h h' st k=>st.at fun o e=>k it (by simp) o e
 item:=by
  intro X hP hw hK hc i pins s σ H E I hf st hg
  subst hP hw hK
  obtain ⟨f0,f1,f2,f3,f4,f5⟩:=hf it (by simp)
  obtain ⟨e,hi⟩:=hg
  obtain ⟨_,vs,r,da⟩:=qj I.hok e hd
  have hl:=r.length
  rw [hl] at st
  obtain ⟨⟨k,x⟩,hx⟩:∃ p,vs[i]? = some p:=⟨vs[i]'(by omega),by simp [show i < vs.length by omega]⟩
  refine wpAny_pyNext_dict_item st da hx fun key h' hkey hit' hs'=>?_
  refine ⟨key,rfl,letGo_keyiter hit' ⟨kV k,H,?_,xo hkey,⟨rfl,?_⟩,by rw [hl];exact hit',fun b hb=>(hf b hb).1⟩⟩
  . exact I.turned (t':=s.toks) (fun b o hb e=>hs'.extBut b o hb e) f0 f1 f3 f4 f5
  . have hk:=r.keys
    have h1:(kvs.map (·.1))[i]? = some k:=by rw [hk,List.getElem?_map,hx];rfl
    rw [List.getElem?_map] at h1
    cases q:kvs[i]? with
    | none=>rw [q] at h1;cases h1
    | some p=>rw [q] at h1;cases h1;exact ⟨p.1,p.2,rfl,rfl⟩
 done:=by
  intro X hP hw hK hc i pins s σ H E I hf st hg
  subst hP hw hK
  obtain ⟨f0,f1,f2,f3,f4,f5⟩:=hf it (by simp)
  obtain ⟨e,hi⟩:=hg
  obtain ⟨_,vs,r,da⟩:=qj I.hok e hd
  have hl:=r.length
  rw [hl] at st
  exact wpAny_pyNext_dict_end (I.ok.hd hc) st da (by simp;omega) fun h' eb=>⟨rfl,I.turned (t':=s.toks) (fun b o hb e=>eb b o hb e) f0 f1 f3 f4 f5⟩
 self:=fun _ _ _ _ _ st h=>wpAny_pyIter_keyiter st h
def DC (tl:TE):TI:=fun σ H R=>tl σ H fun x H1=>∃ d o kvs,x=.ref d/\H1 d=some (.frz o (.dK kvs))/\R (Itd d o kvs) H1
theorem zZ {X:Cx} {tg l:Expr} {tl:TE} (hl:PE X l tl):PI X tg l (DC tl):=by
 intro pins s σ H R I h
 refine thn (hl pins s σ H _ I h) fun v s1 ⟨x,H1,I1,r1,q1⟩=>?_
 obtain ⟨d,o,kvs,e,hq,q⟩:=q1
 subst e
 cases r1
 have z:=I1.hok d _ hq
 obtain ⟨ho,_,hs,vs,r,o',es,ep,ho',c1,c2,c3⟩:=(show s1.heap.get? d=some o/\kvs.length<=sizeLine/\(d == sysModules)=false/\∃ vs,KV kvs vs/\s1.heap.DictOf (bT X.prog X.w) d vs from z)
 rw [ho] at ho'
 cases ho'
 have da:s1.heap.DictAt (bT X.prog X.w) d vs ep:=⟨_,_,ho,c1,c2,c3⟩
 refine wpAny_pyIter_dict hs da ?_
 have hlt:d < s1.heap.objs.size:=Heap.lt_size ho
 refine ⟨s1.heap.objs.size,[s1.heap.objs.size],_,_,H1,rfl,I1.kept (t':=s1.toks) fun b o e=>Heap.get?_push_of_some _ e,wR (kvs:=kvs) ⟨es,c2⟩ (Nat.ne_of_lt hlt),⟨_,Heap.get?_push_size _ rfl,rfl,?_⟩,fun b hb=>?_,q⟩
 . show Data.fields _=Data.fields _
   rw [r.length]
   rfl
 . have e:b=s1.heap.objs.size:=by simpa using hb
   subst e
   exact I1.fpOk (Nat.le_refl _) (I1.hok.fresh (Nat.le_refl _))
def Dv (d:D):Option (List D):=match d with
 | .mf ks _=>some (ks.map D.int)
 | _=>none
theorem Ca {ks:List Int} {vs:List V} {i:Nat} {k:Key} {x:V} (h:(kz ks vs)[i]? = some (k,x)):∃ j,ks[i]? = some j/\k=.inl j:=by
 unfold kz at h
 rw [List.getElem?_zip_eq_some] at h
 obtain ⟨h1,_⟩:=h
 rw [List.getElem?_map] at h1
 cases q:ks[i]? with
 | none=>rw [q] at h1;cases h1
 | some j=>rw [q] at h1;cases h1;exact ⟨j,rfl,rfl⟩
theorem Aq {K:PySem.W.Frag} {H1:Hp} {d:Addr} {o:Obj} {ks:List Int} {vs:List V} (l:ks.length=vs.length) (h:H1 d=some (.frz o (.dK (kz ks vs)))):ItD K (Itd d o (kz ks vs)) H1 (ks.map D.int):=by
 intro i H2 s
 have h2:=s _ _ h
 have hl:=yT l
 rw [Zi]
 refine ⟨fun hi=>⟨⟨h2,by omega⟩,fun x H' y=>?_⟩,fun hi=>⟨h2,by omega⟩⟩
 obtain ⟨rfl,k,w,e,rfl⟩:=y
 obtain ⟨j,hj,rfl⟩:=Ca e
 exact ⟨Same.refl _,.int j,by rw [List.getElem?_map,hj];rfl,.int j⟩
theorem sG {X:Cx} {tg l:Expr} {f:FD} (hl:PD X l f):PID X tg l (fun δ=>(f δ).bind Dv):=xt (zZ hl) fun σ H R ⟨δ,ds,R0,e,k⟩=>by
 obtain ⟨d,ed,e⟩:=Za.mp e
 refine ⟨δ,d,R0,ed,fun v H1 s1 r1=>?_⟩
 cases r1 with
 | @mf p ks vs es hp hz rp =>
  cases e
  obtain ⟨o,hp⟩:=hp
  exact ⟨p,o,_,rfl,hp,k _ H1 s1 (Aq (by rw [rp.length];exact hz) hp)⟩
 | _=>cases e
end Dl
namespace Dl
open PySem PySem.Spec PyProof.Rows L2
section
variable {X:Cx} {pins:List (Addr×Obj)} {σ:L2.St} {H:Hp} {s:Shared} {a:Addr} {u u':HO}
theorem tu (I:L2.Inv X pins σ H s) (h:H a=some u) (n1:∀ xs,u ≠ .tup xs) (n2:∀ y,u ≠ .own y) (n3:∀ o w,X.H₀ a ≠ some (.frz o w)) (n4:∀ ps,u ≠ .tbl ps) (new:ObjOk X.prog X.w (upd H a u') s.heap a u'):L2.Inv X pins σ (upd H a u') s where
 ok:=I.ok
 os:=I.os
 bare:=I.bare
 base:={ keep:=I.base.keep,slot:=I.base.slot,there:=I.base.there
         free:=fun b o e n hx=>by
          have z:=I.base.free b o e n hx
          rw [aB fun q=>by rw [q,h] at z;cases z];exact z
         tups:=fun b xs e=>by
          have z:=I.base.tups b xs e
          rw [aB fun q=>by rw [q,h] at z;cases z;exact n1 _ rfl];exact z
         frzs:=fun b o w e=>by
          have z:=I.base.frzs b o w e
          have hb:b ≠ a:=fun q=>by subst q;exact n3 o w e
          rw [aB hb];exact z
         tbls:=fun b ps e=>by
          obtain ⟨m,z⟩:=I.base.tbls b ps e
          exact ⟨m,by rw [aB fun q=>by rw [q,h] at z;cases z;exact n4 _ rfl];exact z⟩ }
 loc:=I.loc
 cell:=I.cell
 free:=by
  have z:=I.free
  rw [aB fun q=>by rw [q,h] at z;cases z];exact z
 freeC:=fun x c e=>by
  have z:=I.freeC x c e
  rw [aB fun q=>by rw [q,h] at z;cases z];exact z
 pin:=fun p hp=>by
  obtain ⟨h1,z,h3⟩:=I.pin p hp
  exact ⟨h1,by rw [aB fun q=>by rw [q,h] at z;cases z];exact z,h3⟩
 hok:=fun b w e=>by
  by_cases hb:b=a
  . subst hb;rw [aX] at e;cases e;exact new
  . rw [aB hb] at e
    refine (I.hok b w e).stay (fun _ _ _ q=>q) (fun c r=>?_) fun c xs r=>?_
    . rw [aB fun q=>by rw [q,h] at r;cases r;exact n2 _ rfl];exact r
    . rw [aB fun q=>by rw [q,h] at r;cases r;exact n1 _ rfl];exact r
 len:=I.len
theorem Dp (I:L2.Inv X pins σ H s) (h:H a=some u) (n:∀ o w,u ≠ .frz o w):∀ o w,X.H₀ a ≠ some (.frz o w):=fun o w e=>by
 have z:=I.base.frzs a o w e
 rw [h] at z;cases z;exact n _ _ rfl
end
def vFz (i:Nat) (f:FD):FM:=fun δ=>match δ[i]? with
 | some (some (.md ks ds))=>(f (δ.set i (some (.mf ks ds)))).bind fun d=>if imm d then some (d,δ) else none
 | _=>none
theorem Df {X:Cx} {e:Expr} {f:FD} (i:Nat) (h:PD X e f):PV X e (vFz i f):=fun pins s σ H Q I ⟨F,δ,As,d,δ',R,q,k⟩=>by
 unfold vFz at q
 split at q
 . rename_i ks ds hi
   obtain ⟨d0,e0,q⟩:=Za.mp q
   split at q
   . rename_i im
     cases q
     obtain ⟨a,vs,s1,eA,g1,n1,l1,i1,rp⟩:=R.md hi
     have ok:=I.hok a _ g1
     obtain ⟨z1,z2,us,r,o,es,ep,ho,c⟩:=(show (kz ks vs).length<=sizeLine/\(a == sysModules)=false/\∃ us,KV (kz ks vs) us/\s.heap.DictOf (bT X.prog X.w) a us from ok)
     have nf:=Dp I g1 (fun _ _ z=>nomatch z)
     have I1:L2.Inv X pins σ (upd H a (.frz o (.dK (kz ks vs)))) s:=tu I g1 (fun _ z=>nomatch z) (fun _ z=>nomatch z) nf (fun _ z=>nomatch z) ⟨ho,z1,z2,us,r,o,es,ep,ho,c⟩
     have kp:fI H (upd H a (.frz o (.dK (kz ks vs)))):=iF g1 rfl
     have R1:RepS X.K (upd H a (.frz o (.dK (kz ks vs)))) σ (δ.set i (some (.mf ks ds))):=by
      refine ⟨by rw [List.length_set];exact R.len,fun j x q=>?_⟩
      rw [List.getElem?_set] at q
      by_cases hj:i=j
      . subst hj
        rw [if_pos rfl,if_pos (List.getElem?_eq_some_iff.mp hi).1] at q
        cases q
        exact ⟨.ref a,s1,.mf ⟨o,aX⟩ l1 (eJ kp rp i1)⟩
      . rw [if_neg hj] at q
        obtain ⟨v,h1,h2⟩:=R.val j x q
        refine ⟨v,h1,(h2.frame kp fun b m=>aB fun z=>?_).rep (kL R.fz n1)⟩
        exact R.dj i j a hj (by rw [eA];exact Zj) (z ▸ m)
     refine thn (h pins s σ _ (fun v H'=>Same (upd H a (.frz o (.dK (kz ks vs)))) H'/\Rep X.K H' v d) I1 ⟨_,d,R1,e0,fun v H' s' r'=>⟨s',r'⟩⟩) fun w s2 ⟨v,H2,I2,rv,sm,rd⟩=>?_
     have fa:H2 a=some (.frz o (.dK (kz ks vs))):=sm _ _ aX
     have okF:=I2.hok a _ fa
     obtain ⟨_,okD⟩:=(show s2.heap.get? a=some o/\ObjOk X.prog X.w H2 s2.heap a (.dK (kz ks vs)) from okF)
     have I3:L2.Inv X pins σ (upd H2 a (.dK (kz ks vs))) s2:=tu I2 fa (fun _ z=>nomatch z) (fun _ z=>nomatch z) nf (fun _ z=>nomatch z) okD
     have sH:Same H (upd H2 a (.dK (kz ks vs))):=fun b w e=>by
      by_cases hb:b=a
      . subst hb;rw [aX,<- g1];exact e
      . rw [aB hb];exact sm b w (by rw [aB hb];exact e)
     exact ⟨v,_,I3,rv,k v F _ [] As (.pure sH) (R.grow sH) (.imm im (jg (iF fa rfl) rd im))⟩
   . cases q
 . cases q
end Dl
namespace Dl
open PySem PySem.Spec PyProof.Rows L2
def pF (g:FA):FA:=fun δ=>(g δ).bind fun xs=>match xs with
 | [.int i,.int j]=>if -(2 ^ 62)<=i/\i < 2 ^ 62/\-(2 ^ 62)<=j/\j < 2 ^ 62 then some ((List.range (j - i).toNat).map fun k=>D.int (i+((k:Nat):Int))) else none
 | _=>none
theorem Cf {K:PySem.W.Frag} {H1:Hp} {lo:Int} {n:Nat}:ItD K (Itr lo n) H1 ((List.range n).map fun k=>D.int (lo+((k:Nat):Int))):=by
 intro i H2 s
 refine ⟨fun hi=>?_,fun hi=>(show n<=i by simpa using hi)⟩
 have hi':i < n:=by simpa using hi
 refine ⟨hi',fun x H' y=>?_⟩
 obtain ⟨e,y⟩:=y
 subst e y
 refine ⟨Same.refl _,.int (lo+(i:Int)),?_,.int _⟩
 rw [List.getElem?_map,List.getElem?_range hi']
 rfl
theorem uv {X:Cx} {tg a b:Expr} {g:FA} {p pos:Pos} (hg:Gl X "range") (hm:X.mg "range" = none) (ha:PAD X [a,b] g) (hs:starEach [a,b] X.env=[(false,eval a X.env),(false,eval b X.env)]:=by rfl) (hs2:starEach [b] X.env=[(false,eval b X.env)]:=by rfl) :
 PID X tg (.Call (.Name "range" p) [a,b] [] pos) (pF g):=xt (w9 hg hm ha hs hs2) fun σ H R ⟨δ,ds,R0,e,k⟩=>by
 unfold pF at e
 obtain ⟨xs,exs,e⟩:=Za.mp e
 split at e
 . rename_i i j
   split at e
   . rename_i hb
     cases e
     refine ⟨δ,_,R0,exs,fun vs H1 s1 r1 l=>?_⟩
     obtain ⟨x,y,rfl,rx,ry⟩:=xZ r1
     cases rx;cases ry
     exact ⟨i,j,rfl,hb,k _ H1 s1 Cf⟩
   . cases e
 . cases e
end Dl
namespace Dl
open PySem PySem.Spec PyProof.Rows L2
section
variable {P:Program} {w:World} {K:PySem.W.Frag} {mg:Str->Option Value} {base:Heap}
end
end Dl
namespace Dl
open PySem PySem.Spec PyProof.Rows L2
section
variable {P:Program} {w:World} {K:PySem.W.Frag} {mg:Str->Option Value} {base:Heap}
end
end Dl
namespace Dl
open PySem PySem.Spec PyProof.Rows L2
def fIf (c:FT) (a b:FD):FD:=fun δ=>(c δ).bind fun t=>if t then a δ else b δ
theorem BW {X:Cx} {c a b:Expr} {fc:FT} {fa fb:FD} {pos:Pos} (hc:PTD X c fc) (ha:PD X a fa) (hb:PD X b fb):PD X (.IfExp c a b pos) (fIf fc fa fb):=imp (yt hc ha hb) fun σ H Q ⟨δ,d,R,q,k⟩=>by
 unfold fIf at q
 obtain ⟨t,et,q⟩:=Za.mp q
 refine ⟨δ,t,R,et,fun H' s1=>?_⟩
 cases t with
 | true=>rw [if_pos rfl] at q ⊢;exact ⟨δ,d,R.mono s1,q,fun v H2 s2 r=>k v H2 (s1.trans s2) r⟩
 | false=>rw [if_neg Bool.false_ne_true] at q ⊢;exact ⟨δ,d,R.mono s1,q,fun v H2 s2 r=>k v H2 (s1.trans s2) r⟩
section
variable {P:Program} {w:World} {K:PySem.W.Frag} {mg:Str->Option Value} {base:Heap}
end
end Dl
namespace Dl
open PySem PySem.Spec PyProof.Rows L2
def mxI (v:Nat->Int):Nat->Int
 | 0=>v 0
 | j+1=>max (mxI v j) (v (j+1))
theorem pe (v:Nat->Int):∀ j,v (argBest (fun i j=>decide (v i > v j)) j)=mxI v j
 | 0=>rfl
 | j+1=>by
  have ih:=pe v j
  unfold argBest mxI
  rw [<- ih]
  by_cases h:v (j+1) > v (argBest (fun i j=>decide (v i > v j)) j)
  . rw [if_pos (decide_eq_true h)];omega
  . rw [if_neg (by rw [decide_eq_false h];exact Bool.false_ne_true)];omega
theorem uD (v:Nat->Int):∀ j i,i<=j->v i<=mxI v j
 | 0,i,h=>by
  obtain rfl:i=0:=Nat.le_zero.mp h
  exact Int.le_refl _
 | j+1,i,h=>by
  unfold mxI
  rcases Nat.lt_or_ge i (j+1) with a | a
  . have:=uD v j i (Nat.le_of_lt_succ a);omega
  . obtain rfl:i=j+1:=Nat.le_antisymm h a
    omega
theorem yK (v:Nat->Int) {N:Int}:∀ j,(∀ i,i<=j->v i<=N)->mxI v j<=N
 | 0,h=>h 0 (Nat.le_refl 0)
 | j+1,h=>by
  unfold mxI
  have a:=yK v j fun i hi=>h i (Nat.le_succ_of_le hi)
  have b:=h (j+1) (Nat.le_refl _)
  omega
def xw (as:List D):Option D:=(zB as).bind fun ds=>(iQ ds).bind fun ns=>if ns.length=0 then none else some (.int (mxI (fun i=>ns.getD i 0) (ns.length - 1)))
theorem nE:∀ {ns:List Int} {us:List Value},Vals (ns.map V.int) us->us.length=ns.length/\∀ (i:Nat) (v:Value),us[i]? = some v->∃ t,v=.int (ns.getD i 0) t
 | [],_,.nil=>⟨rfl,fun i v h=>by rw [List.getElem?_nil] at h;cases h⟩
 | n :: ns,u :: us,.cons r t=>by
  obtain ⟨l,k⟩:=nE t
  refine ⟨by rw [List.length_cons,List.length_cons,l],fun i v h=>?_⟩
  cases i with
  | zero =>
   rw [Zd] at h
   cases h
   exact r
  | succ i =>
   rw [Ze] at h
   obtain ⟨t,e⟩:=k i v h
   exact ⟨t,e⟩
theorem zu {X:Cx} (hc:X.calm=true):ib X (.builtin "max") (fun xs H Q=>∃ p ys,∃ ns:List Int,xs=[.ref p]/\SqL X.K H p ys/\ys=ns.map V.int/\ns.length ≠ 0/\Q (.int (mxI (fun i=>ns.getD i 0) (ns.length - 1))) H):=by
 intro pins s σ H xs us Q I r h
 obtain ⟨p,ys,ns,rfl,hq,rfl,hne,q⟩:=h
 obtain ⟨u,rfl,rx⟩:=ko r
 cases rx
 obtain ⟨its,r',pl,hz⟩:=I.list hq
 obtain ⟨hl,hb⟩:=nE r'
 have hlt:p < s.heap.objs.size:=by obtain ⟨_,e,_⟩:=pl.isList;exact Heap.lt_size e
 refine call_max_walk (wpAny_pyIter_list pl.isList ?_)
 refine ⟨s.heap.objs.size,[s.heap.objs.size,p],[s.heap.objs.size],its.toArray.size,_,_,_,rfl,Walks.list (A:=X.A.in1) (I.ok.hd hc) _ p (Nat.ne_of_lt hlt) its.toArray,
  ⟨⟨_,Heap.get?_push_size _ rfl,rfl,rfl⟩,pl.isList.push _⟩,fun b hb'=>?_,by rw [List.size_toArray,hl];exact Nat.pos_of_ne_zero hne,CmpOf.ints_gt (fun i=>ns.getD i 0) (fun i v hP=>hb i v (by rw [<- List.getElem?_toArray];exact hP)),fun v h' tk hP hk=>?_⟩
 . show b < (s.heap.push _).objs.size
   rw [Heap.size_push]
   rcases Zp.mp hb' with rfl | hb'
   . exact Nat.lt_succ_self _
   . rw [Zl.mp hb'];exact Nat.lt_succ_of_lt hlt
 . obtain ⟨t,rfl⟩:=hb _ v (by rw [<- List.getElem?_toArray];exact hP)
   rw [pe (fun i=>ns.getD i 0),List.size_toArray,hl]
   exact ⟨.int _,H,I.kept (t':=tk) (LSm.kept_iter hk),⟨t,rfl⟩,q⟩
theorem Cu {K:PySem.W.Frag}:jy K (fun xs H Q=>∃ p ys,∃ ns:List Int,xs=[.ref p]/\SqL K H p ys/\ys=ns.map V.int/\ns.length ≠ 0/\Q (.int (mxI (fun i=>ns.getD i 0) (ns.length - 1))) H) xw:=by
 intro xs H Q as d r e k
 unfold xw at e
 obtain ⟨ds,e1,e⟩:=Za.mp e
 obtain ⟨ns,e2,e⟩:=Za.mp e
 obtain ⟨p,ys,h1,h2,h3⟩:=pd r e1
 by_cases hn:ns.length=0
 . rw [if_pos hn] at e;cases e
 . rw [if_neg hn] at e
   cases e
   exact ⟨p,ys,ns,h1,h2,lX h3 e2,hn,k _ H (Same.refl H) (.int _)⟩
theorem xD:bootBuiltins "max" = some (.builtin "max"):=by decide +kernel
end Dl
namespace Dl
open PySem PySem.Spec PyProof.Rows L2
def lQ (fa fb:FM):FM:=fun δ=>(fa δ).bind fun p=>(fb p.2).bind fun q=>match p.1,q.1 with
 | .lst xs,.lst ys=>if xs.length+ys.length<=1000 then some (.lst (xs++ys),q.2) else none
 | _,_=>none
theorem RepOs.cat {K:PySem.W.Frag} {F H:Hp}:∀ {vs:List V} {ds:List D} {A:List Addr} {ws:List V} {es:List D} {B:List Addr},RepOs K F H vs ds A->RepOs K F H ws es B->RepOs K F H (vs++ws) (ds++es) (A++B)
 | _,_,_,_,_,_,.nil,h=>h
 | _,_,_,_,_,_,.cons r t e,h=>.cons r (t.cat h) (by rw [e,List.append_assoc])
section
variable {X:Cx} {a b:Expr} {pos:Pos} {fa fb:FM}
theorem qJ (ha:PV X a fa) (hb:PV X b fb):PV X (.BinOp a .Add b pos) (lQ fa fb):=imp (yq yC ha hb) fun σ H Q ⟨F,δ,As,d,δ',R,q,k⟩=>by
 unfold lQ at q
 obtain ⟨⟨d1,δ1⟩,e1,q⟩:=Za.mp q
 obtain ⟨⟨d2,δ2⟩,e2,q⟩:=Za.mp q
 refine ⟨F,δ,As,d1,δ1,R,e1,fun v F1 H1 A As1 ev1 R1 r1=>⟨F1,δ1,As1,d2,δ2,R1,e2,fun w F2 H2 B As2 ev2 R2 r2=>?_⟩⟩
 have evs:=ev1.seq ev2 fun x m=>(r1.dom x m).1
 have r1':=ev2.stays r1 ev1.dj
 dsimp only at q
 cases d1 with
 | lst xs =>
  cases d2 with
  | lst ys =>
   dsimp only at q
   by_cases hz:xs.length+ys.length<=1000
   . rw [if_pos hz] at q
     cases q
     cases r1' with
     | imm i _=>cases i
     | @lst p vs _ A hp np rp =>
      cases r2 with
      | imm i _=>cases i
      | @lst q ws _ B hq nq rq =>
       refine ⟨p,q,vs,ws,rfl,rfl,hp,hq,by rw [rp.length,rq.length];exact dL hz,fun l hl=>?_⟩
       have s:=df hl (.lst (vs++ws))
       have no:∀ {u:Hp},Same u H2->u l=none:=fun {u} su=>by
        cases z:u l with
        | none=>rfl
        | some o=>rw [su l o z] at hl;cases hl
       have rr:=rp.cat rq
       have sub:∀ x,x∈A++B->x∈(p :: A)++(q :: B):=fun x m=>by
        rcases Zo.mp m with m | m
        . exact Zo.mpr (.inl (Zk _ m))
        . exact Zo.mpr (.inr (Zk _ m))
       have nd:(A++B).Nodup:=evs.nd.sublist (List.Sublist.append (List.sublist_cons_self p A) (List.sublist_cons_self q B))
       have ev':Ev F H As F2 (upd H2 l (.lst (vs++ws))) As2 (l :: (A++B)):=⟨evs.fs,evs.hs.trans s,evs.nf,evs.fa,fun x m=>by
        rcases Zp.mp m with z | z
        . subst z;exact .inr (no evs.hs)
        . exact evs.fA x (sub x z),List.nodup_cons.mpr ⟨fun m=>(by
          obtain ⟨⟨us,e⟩,_⟩:=rr.dom l m
          rw [hl] at e;cases e),nd⟩,fun i x m z=>by
        rcases Zp.mp z with z | z
        . subst z
          obtain ⟨⟨us,e⟩,_⟩:=R2.dom m
          rw [hl] at e;cases e
        . exact evs.dj i x m (sub x z)⟩
       refine k _ F2 _ (l :: (A++B)) As2 ev' (R2.grow s) (.lst aX (no R2.fz) (rr.frame (bZ s) fun x m=>?_))
       obtain ⟨⟨us,e⟩,_⟩:=rr.dom x m
       rw [e];exact s x _ e
   . rw [if_neg hz] at q;cases q
  | _=>cases q
 | _=>cases q
end
end Dl
namespace Dl
open PySem PySem.Spec PyProof.Rows L2
def wP (G:List D->Option D) (f:FM):FM:=fun δ=>(f δ).bind fun p=>(G [p.1]).bind fun d=>if imm d then some (d,p.2) else none
theorem BG {X:Cx} {e:Expr} {f:FM} {id:String} {x:Str} {p pos:Pos} {r:List V->Hp->VK->Prop} {G:List D->Option D} (hc:ib X (.builtin id) r) (hG:jy X.K r G) (hg:Gl X x) (hm:X.mg x=none) (hv:bootBuiltins x=some (.builtin id)) (h:PV X e f) (hn:x ≠ "__name__":=by decide) (hdb:(x == ("__debug__":Str))=false:=by decide)
 (he:starEach [e] X.env=(false,eval e X.env) :: starEach [] X.env:=by rfl) (hpl:(backTo pos (starEach [] X.env)).any (·.1)=false:=by rfl):PV X (.Call (.Name x p) [e] [] pos) (wP G f) :=
 imp (sI hc hg hm hv (bO h cy he) hn hdb he hpl) fun σ H Q ⟨F,δ,As,d,δ',R,q,k⟩=>by
  unfold wP at q
  obtain ⟨⟨d1,δ1⟩,e1,q⟩:=Za.mp q
  obtain ⟨d2,e2,q⟩:=Za.mp q
  by_cases hi:imm d2=true
  . rw [if_pos hi] at q
    cases q
    refine ⟨F,δ,As,[d1],δ1,R,by unfold cI gj;rw [e1];rfl,fun vs F1 H1 A As1 ev R1 r1 l=>?_⟩
    exact hG vs H1 Q [d1] d (RepOs.reps R1.fz r1) e2 fun v H2 s r2=>k v F1 H2 [] As1 ⟨ev.fs,ev.hs.trans s,ev.nf,ev.fa,fun _ m=>(by cases m),List.nodup_nil,fun _ _ _ z=>(by cases z)⟩ (R1.grow s) (.imm hi r2)
  . rw [if_neg hi] at q;cases q
end Dl
namespace Hd
open PySem PySem.Spec PyProof.Rows L2
theorem walkE {l:PySem.W.OpenLaw} {n k:Nat} {q:Program} {loose:List Str} {XP:(Str->Option Value)->Heap->Prop} {YP:World->Heap->Prop} {d:DefRec} {T:PySem.W.Frag->Prop} {sp:PySem.W.Frag->Sp} {x:Str}
 (hn:l.most=some n) (hn2:n<=sizeLine) (hdf:d.params.defaults=[]) (hr:Room k callerA)
 (hY:∀ (w:World) (h:Heap),YP w h->∃ K:PySem.W.Frag,K.In h/\T K)
 (F:∀ (w:World) (K:PySem.W.Frag) (mg:Str->Option Value) (fa:Addr) (h:Heap),T K->K.In h->h.Ns mainGlobals mg->mg d.name=some (.ref fa) ->
  ∃ fd:FuncData,(∀ (s:Shared) (u:Value),BindsTo s fd ⟨[u],[]⟩ [(x,u)]) /\
   ∀ base:Heap,K.In base->base.Ns mainGlobals mg->FnOk l.prog w K mg base CX0 k fa fd [x] (sp K))
 (hsp:∀ (K:PySem.W.Frag) (H:Hp) (a:Addr) (ns:List Int),ns.length<=n->CF H->SqL K H a (ns.map V.int)->sp K [.ref a] H (fun v _=>v=.bl true) fun _ _ _=>False) :
 PySem.W.WalkO q loose XP YP l.row.toRowW d [] (fun f vs=>PySem.call f vs):=by
 refine Att.attach_call hn hdf fun w s₀ s₁ mg mb fa o pm cd doc a vs ns G Y ho hd hcd hmg hobj hints hlen hg=>?_
 obtain ⟨K,KX,hT⟩:=hY w _ Y
 obtain ⟨fd,hb,hF⟩:=F w K mg fa _ hT KX G.T.g hmg
 exact yR KX G.T.g G.T.b G.T.builtins G.T.nolimit hg hobj hints (Nat.le_trans hlen hn2) hr hF hb (fun H hO hS=>hsp K H a ns hlen hO hS) fun H e s' z=>z
end Hd
namespace Hd
open PySem PySem.Spec PyProof.Rows PySem.W
end Hd
namespace Mine
open PySem PySem.Spec PyProof.Rows L2 Dl
noncomputable section
open Mth
abbrev fr (p:Int×Int):D:=.tup [.int p.1,.int p.2]
def uK:D->Option Bool
 | .int _=>some true
 | .ty _=>none
 | .exc _=>none
 | .cls _=>none
 | .ms _ _=>none
 | .mf _ _=>none
 | .md _ _=>none
 | _=>some false
abbrev Md (x:Int):Prop:=Sm 4000 x
theorem Md.bd {x:Int} (h:Md x):Bd x:=h.mono (l:=9000) (by decide)
theorem l7 {k:Nat} {x:Int} (h:Sm k x) (e:k<=9000:=by decide):Bd x:=h.mono (l:=9000) e
theorem cQ {x:Int} (h:x.natAbs < 2 ^ 64:=by decide):Bd x:=l7 (k:=64) h
theorem CB {x:Int} (h:Bd x):Bd (-x):=by unfold Bd at *;rw [Int.natAbs_neg];exact h
structure Fk (p:Int×Int):Prop where
 pos:0 < p.2
 s1:Md p.1
 s2:Md p.2
theorem Fk.of {k:Nat} {p:Int×Int} (h:Fr k p) (e:k<=4000:=by decide):Fk p:=⟨h.pos,h.s1.mono e,h.s2.mono e⟩
def km (ds:List D) (d:D):Prop:=∃ x b,uK x=some b/\ds=[x]/\d=.bl b
theorem iU {x:D} {b:Bool} (h:uK x=some b):fn km [x]=some (.bl b):=bG (fun d' h'=>by
 obtain ⟨x',b',h1,h2,rfl⟩:=h'
 cases h2;rw [h] at h1;cases h1;rfl) ⟨x,b,h,rfl,rfl⟩
def cS (ds:List D) (d:D):Prop:=∃ a b,0 < b/\ds=[.int a,.int b]/\d=.int (gc a b)
theorem cP {a b:Int} (h:0 < b):fn cS [.int a,.int b]=some (.int (gc a b)):=bG (fun d' h'=>by
 obtain ⟨a',b',h1,h2,rfl⟩:=h'
 cases h2;rfl) ⟨a,b,h,rfl,rfl⟩
def pj (ds:List D) (d:D):Prop:=∃ t b,0 < b/\Bd b/\ds=[.int t,.int b]/\d=fr (rd t b)
theorem tS {t b:Int} (h:0 < b) (g:Bd b):fn pj [.int t,.int b]=some (fr (rd t b)):=bG (fun d' h'=>by
 obtain ⟨t',b',_,_,h2,rfl⟩:=h'
 cases h2;rfl) ⟨t,b,h,g,rfl,rfl⟩
def S2 (op:Int×Int->Int×Int->D) (ds:List D) (d:D):Prop:=∃ p q:Int×Int,Fk p/\Fk q/\ds=[fr p,fr q]/\d=op p q
theorem e2 {op:Int×Int->Int×Int->D} {p q:Int×Int} (h:Fk p) (g:Fk q):fn (S2 op) [fr p,fr q]=some (op p q):=bG (fun d' h'=>by
 obtain ⟨⟨a,b⟩,⟨c,e⟩,_,_,h2,rfl⟩:=h'
 obtain ⟨a',b'⟩:=p
 obtain ⟨c',e'⟩:=q
 cases h2;rfl) ⟨p,q,h,g,rfl,rfl⟩
abbrev gg:=S2 fun p q=>.bl (decide (p.1*q.2 < q.1*p.2))
theorem tw:∀ {ns ms:List Int},ns.map D.int=ms.map D.int->ns=ms
 | [],[],_=>rfl
 | [],_ :: _,h=>by cases h
 | _ :: _,[],h=>by cases h
 | n :: ns,m :: ms,h=>by
  have h':D.int n :: ns.map D.int=D.int m :: ms.map D.int:=h
  injection h' with h1 h2
  injection h1 with h1
  rw [h1,tw h2]
def cell (ns:List Int) (k:Int):Int:=ns.getD k.toNat 0
def aC (ds:List D) (d:D):Prop:=∃ (ns:List Int) (k:Int),0<=k/\ds=[.seq (ns.map D.int),.int k]/\d=.int (cell ns k)
theorem gJ {ns:List Int} {k:Int} (h:0<=k):fn aC [.seq (ns.map D.int),.int k]=some (.int (cell ns k)):=bG (fun d' h'=>by
 obtain ⟨ns',k',_,h2,rfl⟩:=h'
 injection h2 with h3 h4
 injection h3 with h3
 injection h4 with h4
 injection h4 with h4
 rw [tw h3,h4]) ⟨ns,k,h,rfl,rfl⟩
structure Flw (p:Int×Int):Prop extends Fk p where
 lw:Lw p
theorem Flw.of {k:Nat} {p:Int×Int} (h:Fr k p) (e:k<=4000:=by decide):Flw p:=⟨Fk.of h e,h.lw⟩
def S2w (op:Int×Int->Int×Int->D) (ds:List D) (d:D):Prop:=∃ p q:Int×Int,Flw p/\Flw q/\ds=[fr p,fr q]/\d=op p q
theorem e2w {op:Int×Int->Int×Int->D} {p q:Int×Int} (h:Flw p) (g:Flw q):fn (S2w op) [fr p,fr q]=some (op p q):=bG (fun d' h'=>by
 obtain ⟨⟨a,b⟩,⟨c,e⟩,_,_,h2,rfl⟩:=h'
 obtain ⟨a',b'⟩:=p
 obtain ⟨c',e'⟩:=q
 cases h2;rfl) ⟨p,q,h,g,rfl,rfl⟩
def iG (ds:List D) (d:D):Prop:=∃ p q:Int×Int,Flw p/\Flw q/\ds=[fr p,.int q.1,.int q.2]/\d=fr (sm p.1 p.2 q.1 q.2)
theorem tR {p q:Int×Int} (h:Flw p) (g:Flw q):fn iG [fr p,.int q.1,.int q.2]=some (fr (sm p.1 p.2 q.1 q.2)):=bG (fun d' h'=>by
 obtain ⟨⟨a,b⟩,⟨c,e⟩,_,_,h2,rfl⟩:=h'
 obtain ⟨a',b'⟩:=p
 obtain ⟨c',e'⟩:=q
 cases h2;rfl) ⟨p,q,h,g,rfl,rfl⟩
theorem Flw.neg {p:Int×Int} (h:Flw p):Flw (-p.1,p.2):=⟨⟨h.pos,h.s1.neg,h.s2⟩,h.lw.neg⟩
theorem ke {x g:Int} (h:Md x) (hg:0 < g) (d:g ∣ x):Bd (x / g):=(Sm.div h hg d).mono (l:=9000) (by decide)
abbrev u6:=S2w fun p q=>fr (pl p q)
abbrev jP:=S2w fun p q=>fr (mi p q)
abbrev wK:=S2w fun p q=>fr (ti p q)
def bdD:Bn->D
 | none=>.non
 | some (n,s)=>.tup [.int n,.bl s]
theorem oZ:bdD none=.non:=rfl
theorem bq (n:Int) (s:Bool):bdD (some (n,s))=.tup [.int n,.bl s]:=rfl
theorem hU {a b:Bn} (h:bdD a=bdD b):a=b:=by
 rcases a with _ | ⟨n,s⟩ <;> rcases b with _ | ⟨m,t⟩
 . rfl
 . cases h
 . cases h
 . cases h;rfl
def Bk (k:Nat):Bn->Prop
 | none=>True
 | some (n,_)=>Sm k n
theorem Bk.mono {k l:Nat} {b:Bn} (h:Bk k b) (e:k<=l):Bk l b:=by
 rcases b with _ | ⟨n,s⟩
 . trivial
 . exact Sm.mono (show Sm k n from h) e
theorem Bk.sum {k:Nat} {a b:Bn} (h:Bk k a) (g:Bk k b):Bk (k+1) (bs a b):=by
 rcases a with _ | ⟨n,s⟩
 . trivial
 rcases b with _ | ⟨m,t⟩
 . trivial
 . exact Sm.add (show Sm k n from h) (show Sm k m from g)
theorem Ai (n:Int):low n 1=(n,1):=by
 rw [vN (by decide)]
 exact x3 ⟨by decide,by unfold gc;simp⟩
def aN (ds:List D) (d:D):Prop:=∃ t b,b ≠ 0/\Bd b/\ds=[.int t,.int b]/\d=fr (low t b)
theorem kl {t b:Int} (h:b ≠ 0) (g:Bd b):fn aN [.int t,.int b]=some (fr (low t b)):=bG (fun d' h'=>by
 obtain ⟨t',b',_,_,h2,rfl⟩:=h'
 cases h2;rfl) ⟨t,b,h,g,rfl,rfl⟩
theorem bj {n:Int}:dfl (fn aN) [1] [.int n]=some (.tup [.int n,.int 1]):=by
 have h:=kl (t:=n) (b:=1) (by decide) cQ
 rw [Ai] at h
 exact h
def iZ (ds:List D) (d:D):Prop:=∃ (p:Int×Int) (b:Bn),Fk p/\Bk 4000 b/\ds=[fr p,bdD b]/\d=.bl (kp p b)
theorem rG {p:Int×Int} {b:Bn} (h:Fk p) (g:Bk 4000 b):fn iZ [fr p,bdD b]=some (.bl (kp p b)):=bG (fun d' h'=>by
 obtain ⟨⟨a,b'⟩,c,_,_,h2,rfl⟩:=h'
 obtain ⟨x,y⟩:=p
 injection h2 with h3 h4
 injection h4 with h4 _
 cases h3
 rw [hU h4]) ⟨p,b,h,g,rfl,rfl⟩
def dr (ds:List D) (d:D):Prop:=∃ a b:Bn,ds=[bdD a,bdD b]/\d=.bl (tgt a b)
theorem lM {a b:Bn}:fn dr [bdD a,bdD b]=some (.bl (tgt a b)):=bG (fun d' h'=>by
 obtain ⟨a',b',h2,rfl⟩:=h'
 injection h2 with h3 h4
 injection h4 with h4 _
 rw [hU h3,hU h4]) ⟨a,b,rfl,rfl⟩
theorem CW (b:Bn):sh (bdD b)=bdD b:=by rcases b with _ | ⟨n,s⟩ <;> rfl
theorem ju (b:Bn):imm (bdD b)=true:=by rcases b with _ | ⟨n,s⟩ <;> rfl
theorem BX (b:Bn):own (bdD b)=true:=by rcases b with _ | ⟨n,s⟩ <;> rfl
def aY (r:List Bn):List D:=r.map bdD
theorem kC:∀ (r:List Bn),shs (aY r)=aY r
 | []=>rfl
 | b :: r=>by show sh (bdD b) :: shs (aY r)=_;rw [CW,kC r];rfl
theorem tz:∀ (r:List Bn),cn (aY r)=true
 | []=>rfl
 | b :: r=>by show (imm (bdD b) && cn (aY r))=true;rw [ju,tz r];rfl
theorem oj:∀ (r:List Bn),gF (aY r)=true
 | []=>rfl
 | b :: r=>by show (own (bdD b) && gF (aY r))=true;rw [BX,oj r];rfl
def eI (T:List (List Bn)):List D:=T.map fun r=>.seq (aY r)
def bw (T:List (List Bn)):List D:=T.map fun r=>.lst (aY r)
def aq (T:List (List Bn)):D:=.seq (eI T)
def aw (T:List (List Bn)):D:=.lst (bw T)
theorem pH:∀ (T:List (List Bn)),shs (bw T)=eI T
 | []=>rfl
 | r :: T=>by show sh (.lst (aY r)) :: shs (bw T)=_;rw [pH T,sh,kC];rfl
theorem pG:∀ (T:List (List Bn)),shs (eI T)=eI T
 | []=>rfl
 | r :: T=>by show sh (.seq (aY r)) :: shs (eI T)=_;rw [pG T,sh,kC];rfl
theorem qB (T:List (List Bn)):sh (aw T)=aq T:=by unfold aw aq;rw [sh,pH]
theorem mP (T:List (List Bn)):sh (aq T)=aq T:=by unfold aq;rw [sh,pG]
theorem oi:∀ (T:List (List Bn)),gF (bw T)=true
 | []=>rfl
 | r :: T=>by show (own (.lst (aY r)) && gF (bw T))=true;rw [own,oj,oi T];rfl
theorem cc (T:List (List Bn)):own (aw T)=true:=by unfold aw;rw [own];exact oi T
theorem so:∀ {r s:List Bn},aY r=aY s->r=s
 | [],[],_=>rfl
 | [],_ :: _,h=>by cases h
 | _ :: _,[],h=>by cases h
 | a :: r,b :: s,h=>by
  have h':bdD a :: aY r=bdD b :: aY s:=h
  injection h' with h1 h2
  rw [hU h1,so h2]
theorem pQ:∀ {T U:List (List Bn)},eI T=eI U->T=U
 | [],[],_=>rfl
 | [],_ :: _,h=>by cases h
 | _ :: _,[],h=>by cases h
 | a :: r,b :: s,h=>by
  have h':D.seq (aY a) :: eI r=D.seq (aY b) :: eI s:=h
  injection h' with h1 h2
  injection h1 with h1
  rw [so h1,pQ h2]
theorem kA {T U:List (List Bn)} (h:aq T=aq U):T=U:=by
 unfold aq at h
 injection h with h
 exact pQ h
structure Sq (T:List (List Bn)) (m:Nat):Prop where
 len:T.length=m
 row:∀ r∈T,r.length=m
theorem ot {α:Type} {f g:α->D} {F:D->Option D}:∀ {xs:List α},(∀ x∈xs,F (f x)=some (g x))->kf F (xs.map f)=some (xs.map g)
 | [],_=>rfl
 | x :: xs,h=>by
  show ((F (f x)).bind fun y=>(kf F (xs.map f)).bind fun ys=>some (y :: ys))=_
  rw [h x Zj,ot fun y m=>h y (Zk _ m)]
  rfl
def aj (T:List (List Bn)) (i j:Nat):Bn:=(T.getD i []).getD j none
def j4 (T:List (List Bn)) (i j:Nat) (b:Bn):List (List Bn):=T.set i ((T.getD i []).set j b)
theorem mQ {T:List (List Bn)} {m i j:Nat} {b:Bn} (h:Sq T m) (hi:i < m):Sq (j4 T i j b) m:=by
 refine ⟨by unfold j4;rw [List.length_set];exact h.len,fun r hr=>?_⟩
 rcases List.mem_or_eq_of_mem_set hr with z | z
 . exact h.row r z
 . rw [z,List.length_set,Zr,Zs (by rw [h.len];exact hi)]
   exact h.row _ (List.getElem_mem _)
theorem ip {α:Type} {xs:List α} {j:Nat} {v:α} (h:xs[j]? = some v):L2.atI xs (j:Int)=some v:=L2.atI_nat h
theorem ki {n j:Nat} (h:j < n):L2.ixN n (j:Int)=some j:=by
 unfold L2.ixN
 rw [if_pos (by omega),if_pos (by omega)]
 simp
theorem gG {T:List (List Bn)} {m i:Nat} (h:Sq T m) (hi:i < m):∃ r,T[i]? = some r/\T.getD i []=r/\r.length=m:=by
 have hl:i < T.length:=by rw [h.len];exact hi
 refine ⟨T[i],Zs hl,?_,h.row _ (List.getElem_mem _)⟩
 rw [Zr,Zs hl];rfl
theorem ik {T:List (List Bn)} {m i j:Nat} (h:Sq T m) (hi:i < m) (hj:j < m):∃ r,gIx (aw T) (.int (i:Int))=some (.lst (aY r))/\gIx (.lst (aY r)) (.int (j:Int))=some (bdD (aj T i j))/\(bw T)[i]? = some (.lst (aY r))/\r.length=m/\T.getD i []=r:=by
 obtain ⟨r,h1,h2,h3⟩:=gG h hi
 have hx:(bw T)[i]? = some (.lst (aY r)):=by unfold bw;rw [List.getElem?_map,h1];rfl
 refine ⟨r,ip hx,?_,hx,h3,h2⟩
 show L2.atI (aY r) (j:Int)=_
 refine ip ?_
 unfold aY aj
 rw [List.getElem?_map,h2,Zr,Zs (by omega)]
 rfl
theorem iP {T:List (List Bn)} {m i j:Nat} (h:Sq T m) (hi:i < m) (hj:j < m):∃ r,gIx (aq T) (.int (i:Int))=some (.seq (aY r))/\gIx (.seq (aY r)) (.int (j:Int))=some (bdD (aj T i j)):=by
 obtain ⟨r,h1,h2,h3⟩:=gG h hi
 have hx:(eI T)[i]? = some (.seq (aY r)):=by unfold eI;rw [List.getElem?_map,h1];rfl
 refine ⟨r,ip hx,?_⟩
 show L2.atI (aY r) (j:Int)=_
 refine ip ?_
 unfold aY aj
 rw [List.getElem?_map,h2,Zr,Zs (by omega)]
 rfl
theorem lA {T:List (List Bn)} {i j:Nat} {b:Bn} {r:List Bn} (h:T.getD i []=r):(bw T).set i (.lst ((aY r).set j (bdD b)))=bw (j4 T i j b):=by
 unfold bw j4 aY
 rw [h,List.map_set,List.map_set]
theorem eK (T:List (List Bn)):(bw T).length=T.length:=by simp [bw]
theorem jr (r:List Bn):(aY r).length=r.length:=by simp [aY]
def IsT (d:D) (T:List (List Bn)):Prop:=sh d=aq T
theorem cL (T:List (List Bn)):IsT (aw T) T:=qB T
theorem dC (T:List (List Bn)):IsT (aq T) T:=mP T
theorem IsT.inj {d:D} {T U:List (List Bn)} (h:IsT d T) (g:IsT d U):T=U:=kA (h.symm.trans g)
theorem uF (r:List Bn) (δ:DS):lJ (.lst (aY r)) δ=some (.lst (aY r),δ):=if_pos (tz r)
theorem k9 (r:List Bn) (tl:DS):Dl.ownOf (fM (aa (ae 0) af)) (shO (some (.seq (aY r)) :: tl))=some (.lst (aY r)):=by
 have e:shO (some (.seq (aY r)) :: tl)=some (.seq (aY r)) :: shO tl:=by
  show some (sh (.seq (aY r))) :: _=_
  rw [sh,kC]
  rfl
 rw [e]
 show (((lJ (.lst (aY r)) _)).bind _)=_
 rw [uF]
 show (if own (.lst _)=true then _ else _)=_
 rw [if_pos (by rw [own];exact oj _)]
theorem ue {T:List (List Bn)} {m:Nat} (hs:Sq T m) (hm:m<=41) {δ:DS} {i:Nat} {js:List Nat} (hj:δ[i]? = some (some (aq T))) :
 fG (fun δ=>((ae i) δ).bind asL) js (fM (aa (ae 0) af)) δ=some (aw T,δ):=by
 unfold fG
 have e:((ae i) δ).bind asL=some (eI T):=by unfold ae;rw [hj];rfl
 dsimp only
 rw [e]
 show ((kf _ (eI T)).bind _)=_
 unfold eI
 rw [ot (g:=fun r=>.lst (aY r)) fun r _=>k9 r _]
 show (if (bw T).length<=1000 then _ else _)=_
 rw [if_pos (by rw [eK,hs.len];omega)]
 rfl
theorem nG {δ:DS} {i:Nat} {b:Bn} (h:δ[i]? = some (some (bdD b))):bD i δ=some (bdD b,δ):=by
 unfold bD
 rw [h]
 rcases b with _ | ⟨n,s⟩ <;> rfl
theorem zM {T:List (List Bn)} {m i j:Nat} {b:Bn} (hs:Sq T m) (hi:i < m) (hj:j < m) {δ δ':DS} {p:Nat} {fk fl:FD} {fm:FM} (h0:fm δ=some (bdD b,δ')) (h1:δ'[p]? = some (some (aw T))) (h2:fk δ'=some (.int (i:Int))) (h3:fl δ'=some (.int (j:Int))) :
 eF p fk fl fm δ=some (.nx (δ'.set p (some (aw (j4 T i j b))))):=by
 obtain ⟨w,q1,q2,q3,q4,q5⟩:=ik hs hi hj
 unfold eF
 rw [h0]
 show (if imm (bdD b)=true then _ else _)=_
 rw [if_pos (ju b)]
 dsimp only
 rw [h1]
 unfold aw
 dsimp only
 rw [h2,h3]
 dsimp only [Option.bind_some]
 rw [ki (show i < (bw T).length by rw [eK,hs.len];exact hi)]
 dsimp only [Option.bind_some]
 rw [q3]
 dsimp only [Option.bind_some]
 rw [ki (show j < (aY w).length by rw [jr,q4];exact hj)]
 dsimp only [Option.bind_some]
 rw [lA q5]
abbrev xI (ds:List D) (d:D):Prop:=∃ (d0:D) (T:List (List Bn)) (m:Nat),IsT d0 T/\Sq T m/\m<=41/\ds=[d0]/\d=aw T
def po (ds:List D) (d:D):Prop:=xI ds d
theorem zn {d0:D} {T:List (List Bn)} {m:Nat} (h:IsT d0 T) (hs:Sq T m) (hm:m<=41):fn po [d0]=some (aw T):=bG (fun d' h'=>by
 obtain ⟨d1,U,m',g,_,_,h2,rfl⟩:=h'
 cases h2
 rw [h.inj g]) ⟨d0,T,m,h,hs,hm,rfl,rfl⟩
theorem cr {s:SD} {δ:DS} {d:D} (h:s δ=some (.rt d)):aF (s δ)=some d:=by rw [h];rfl
theorem ao {s u:SD} {δ δ':DS} {r:Res} (h:s δ=some (.nx δ')) (g:u δ'=some r):aA s u δ=some r:=by unfold aA;rw [h];exact g
theorem be {i:Nat} {f:FM} {δ δ':DS} {d:D} (h:f δ=some (d,δ')):az i f δ=some (.nx (δ'.set i (some d))):=by unfold az;rw [h];rfl
theorem bx {f:FM} {δ δ':DS} {d:D} (h:f δ=some (d,δ')):dO f δ=some (.rt d):=by unfold dO;rw [h];rfl
theorem AR {c:FT} {s u:SD} {δ:DS} {r:Res} {b:Bool} (h:c δ=some b) (g:(if b then s δ else u δ)=some r):sIf c s u δ=some r:=by unfold sIf;rw [h];cases b <;> exact g
theorem mL {i:Nat} {f:FD} {δ:DS} {d:D} (h:f δ=some d):fK i f δ=some (.nx (δ.set i (some d))):=by unfold fK;rw [h];rfl
theorem mO {f:FD} {δ:DS} {d:D} (h:f δ=some d):d7 f δ=some (.rt d):=by unfold d7;rw [h];rfl
theorem bH {src:FMA} {i:Nat} {s:SD} {δ δ':DS} {ds:List D} {r:Res} (h:src δ=some (ds,δ')) (g:Dl.forM i s ds δ'=some r):eS src i s δ=some r:=by unfold eS;rw [h];exact g
theorem zK {i:Nat} {δ:DS} {d:D} {ds:List D} (h:δ[i]? = some (some d)) (g:sh d=.seq ds) (k:sh (.seq ds)=.seq ds):rX (nF i) δ=some (ds,δ.set i (some (.seq ds))):=by
 unfold rX nF
 rw [h]
 simp only [Zc,g,k]
theorem bh {f:FD} {δ:DS} {d:D} (h:f δ=some d) (g:imm d=true:=by rfl):vI f δ=some (d,δ):=by unfold vI;rw [h];exact if_pos g
theorem cq {G:List D->Option D} {g:FA} {δ:DS} {ds:List D} {d:D} (h:g δ=some ds) (k:G ds=some d) (o:own d=true):cg G g δ=some (d,δ):=by unfold cg;rw [h];show ((G ds).bind _)=_;rw [k];exact if_pos o
theorem ie {i:Nat} {δ:DS} {ds:List D} (h:δ[i]? = some (some (.lst ds))):bD i δ=some (.lst ds,δ.set i none):=by unfold bD;rw [h];rfl
theorem je:∀ (ns:List Int),shs (ns.map D.int)=ns.map D.int
 | []=>rfl
 | n :: ns=>by show sh (.int n) :: shs (ns.map D.int)=_;rw [je ns];rfl
theorem ce (i j:Int):cv (.int i) (.int j)=some (.bl (i == j)):=rfl
theorem fa2 {f g:FD} {δ:DS} {a b:D} (h:f δ=some a) (k:g δ=some b):aa f (aa g af) δ=some [a,b]:=by
 unfold aa af
 rw [h,k]
 rfl
theorem bY {c:FT} {s u:SD} {δ:DS} {r:Res} (h:c δ=some false) (g:u δ=some r):sIf c s u δ=some r:=by unfold sIf;rw [h];exact g
theorem cE {c:FT} {s u:SD} {δ:DS} {r:Res} (h:c δ=some true) (g:s δ=some r):sIf c s u δ=some r:=by unfold sIf;rw [h];exact g
theorem dU {s u:SD} {δ:DS} {d:D} (h:s δ=some (.rt d)):aA s u δ=some (.rt d):=by unfold aA;rw [h];rfl
theorem ly (i:Int):sh (.int i)=.int i:=rfl
theorem cC {α:Type} {i:Nat} {s:SD} {f:α->D} (P:List α->DS->Prop) (all:List α) (step:∀ (pre:List α) (x:α) (post:List α) (δ:DS),all=pre++x :: post->P pre δ->∃ δ2,s (δ.set i (some (sh (f x))))=some (.nx δ2)/\P (pre++[x]) δ2) :
 ∀ (xs pre:List α) (δ:DS),all=pre++xs->P pre δ->∃ δ',Dl.forM i s (xs.map f) δ=some (.nx δ')/\P all δ'
 | [],pre,δ,e,p=>⟨δ,rfl,by rw [e,List.append_nil];exact p⟩
 | x :: xs,pre,δ,e,p=>by
  obtain ⟨δ2,h2,h3⟩:=step pre x xs δ e p
  obtain ⟨δ',h4,h5⟩:=cC P all step xs (pre++[x]) δ2 (by rw [e,List.append_assoc];rfl) h3
  refine ⟨δ',?_,h5⟩
  simp only [Zq,Dl.forM,h2,Zc,h4]
theorem jv {α:Type} {i:Nat} {s:SD} {f:α->D} {d:D} (P:DS->Prop) (b:α->Bool):∀ (xs:List α) (δ:DS),P δ->(∀ x∈xs,∀ δ,P δ->(b x=true->∃ δ2,s (δ.set i (some (sh (f x))))=some (.nx δ2)/\P δ2)/\(b x=false->s (δ.set i (some (sh (f x))))=some (.rt d))) ->
 (xs.all b=true->∃ δ',Dl.forM i s (xs.map f) δ=some (.nx δ')/\P δ')/\(xs.all b=false->Dl.forM i s (xs.map f) δ=some (.rt d))
 | [],δ,p,_=>⟨fun _=>⟨δ,rfl,p⟩,fun h=>by cases h⟩
 | x :: xs,δ,p,h=>by
  obtain ⟨h1,h2⟩:=h x Zj δ p
  cases hb:b x with
  | false =>
   refine ⟨fun q=>(by rw [List.all_cons,hb] at q;cases q),fun _=>?_⟩
   simp only [Zq,Dl.forM,h2 hb,Zc]
  | true =>
   obtain ⟨δ2,g1,g2⟩:=h1 hb
   obtain ⟨k1,k2⟩:=jv P b xs δ2 g2 fun y hy=>h y (Zk _ hy)
   rw [List.all_cons,hb,Bool.true_and]
   refine ⟨fun q=>?_,fun q=>?_⟩
   . obtain ⟨δ',k3,k4⟩:=k1 q
     refine ⟨δ',?_,k4⟩
     simp only [Zq,Dl.forM,g1,Zc,k3]
   . simp only [Zq,Dl.forM,g1,Zc,k2 q]
theorem gy {α:Type} {src:FA} {js:List Nat} {felt:FM} {δ:DS} {xs:List α} {f g:α->D} (hs:src δ=some (xs.map f)) (h:∀ x∈xs,Dl.ownOf felt (shO (some (f x) :: bz js δ))=some (g x)) (hl:xs.length<=1000):fG src js felt δ=some (.lst (xs.map g),δ):=by
 unfold fG
 rw [hs]
 show ((kf _ (xs.map f)).bind _)=_
 rw [ot h]
 exact if_pos (by rw [Zi];exact hl)
theorem uy {felt:FM} {δ δ':DS} {d:D} (h:felt δ=some (d,δ')) (o:own d=true):Dl.ownOf felt δ=some d:=by unfold Dl.ownOf;rw [h];exact if_pos o
theorem nY (n:Nat):eT 0 (n:Int) 1=(List.range n).map fun (i:Nat)=>D.int (i:Int):=by
 have e:(((n:Int) - 0+1 - 1) / 1).toNat=n:=by omega
 unfold eT
 rw [e]
 congr 1
 funext i
 congr 1
 omega
theorem zA {b:Int} (h:0<=b) (g:b<=1000):asR [.int b]=some (eT 0 b 1):=by
 show (if -(2 ^ 62)<=b/\b < 2 ^ 62 then some (eT 0 b 1) else none)=_
 rw [if_pos (by omega)]
theorem Bg {n:Nat} (h:n<=1000):asR [.int (n:Int)]=some ((List.range n).map fun (i:Nat)=>D.int (i:Int)):=by
 rw [zA (by omega) (by omega),nY]
theorem xM {g:FA} {δ:DS} {b:Int} (h:g δ=some [.int b]) (l:0<=b) (k:b<=1000):dE g δ=some (eT 0 b 1,δ):=by
 unfold dE
 rw [h]
 show ((asR [.int b]).bind _)=_
 rw [zA l k]
 rfl
theorem dS {g:FA} {δ:DS} {n:Nat} (h:g δ=some [.int (n:Int)]) (l:n<=1000):dE g δ=some ((List.range n).map fun (i:Nat)=>D.int (i:Int),δ):=by
 rw [xM h (by omega) (by omega),nY]
theorem xR {g:FA} {δ:DS} {ds xs:List D} (h:g δ=some ds) (k:asR ds=some xs):qz g δ=some xs:=by unfold qz;rw [h];exact k
theorem bE {n:Nat} {pre post:List Nat} {x:Nat} (h:List.range n=pre++x :: post):x=pre.length/\pre.length < n:=by
 have hl:pre.length < n:=by
  have:=congrArg List.length h
  rw [List.length_range,Zh,List.length_cons] at this
  omega
 have h1:(List.range n)[pre.length]? = some x:=by rw [h,List.getElem?_append_right (Nat.le_refl _),Nat.sub_self];rfl
 rw [List.getElem?_range hl] at h1
 exact ⟨(Option.some.inj h1).symm,hl⟩
theorem uj {δ:DS} {i:Nat} {fm:FM} {ds:List D} {d:D} (h:δ[i]? = some (some (.lst ds))) (g:fm δ=some (d,δ)) (l:ds.length<=999):qF i fm δ=some (.nx (δ.set i (some (.lst (ds++[d]))))):=by
 unfold qF
 rw [h]
 dsimp only
 rw [g]
 dsimp only [Option.bind_some]
 rw [h]
 exact if_pos l
theorem qu {fa fb:FD} {δ:DS} {a b:D} {xs ys:List D} (h:fa δ=some a) (g:fb δ=some b) (h':asL a=some xs) (g':asL b=some ys) (l:xs.length+ys.length<=1000) (m:cn (xs++ys)=true):ir fa fb δ=some (.lst (xs++ys),δ):=by
 have e:wa a b=some (.lst (xs++ys)):=by
  unfold wa
  rw [h',g']
  exact if_pos l
 unfold ir f2
 rw [h]
 dsimp only [Option.bind_some]
 rw [g]
 dsimp only [Option.bind_some]
 rw [e]
 exact if_pos m
theorem r8 {is:List Nat} {fm:FM} {δ δ':DS} {ds:List D} (h:fm δ=some (.tup ds,δ')) (l:ds.length=is.length) (i:vU is δ'.length=true):nR is fm δ=some (.nx (r9 is ds δ')):=by
 unfold nR
 rw [h]
 dsimp only [Option.bind_some]
 rw [if_pos ⟨l,i⟩]
theorem Cr {f g:FD} {δ:DS} {a b:D} (h:f δ=some a) (k:g δ=some b):cJ (aa f (aa g af)) δ=some (.tup [a,b]):=by
 unfold cJ
 rw [fa2 h k]
 rfl
theorem xL {f g:FM} {δ δ1 δ2:DS} {a b:D} (h:f δ=some (a,δ1)) (k:g δ1=some (b,δ2)):pq (cI f (cI g gj)) δ=some (.tup [a,b],δ2):=by
 unfold pq cI
 rw [h]
 dsimp only [Option.bind_some]
 rw [k]
 rfl
theorem fa3 {f g e:FD} {δ:DS} {a b c:D} (h:f δ=some a) (k:g δ=some b) (l:e δ=some c):aa f (aa g (aa e af)) δ=some [a,b,c]:=by
 unfold aa af
 rw [h,k,l]
 rfl
theorem tG (ps:List (Int×Int)):cn (ps.map fr)=true:=imms_mem.mpr fun d m=>by obtain ⟨p,_,rfl⟩:=Zm.mp m;rfl
theorem eW:∀ (ps:List (Int×Int)),gF (ps.map fr)=true
 | []=>rfl
 | p :: ps=>by show (own (fr p) && gF (ps.map fr))=true;rw [eW ps];rfl
theorem vi:∀ (ps:List (Int×Int)),shs (ps.map fr)=ps.map fr
 | []=>rfl
 | p :: ps=>by show sh (fr p) :: shs (ps.map fr)=_;rw [vi ps];rfl
theorem nr:∀ {ps qs:List (Int×Int)},ps.map fr=qs.map fr->ps=qs
 | [],[],_=>rfl
 | [],_ :: _,h=>by cases h
 | _ :: _,[],h=>by cases h
 | (a,b) :: ps,(c,e) :: qs,h=>by
  have h':fr (a,b) :: ps.map fr=fr (c,e) :: qs.map fr:=h
  injection h' with h1 h2
  cases h1
  rw [nr h2]
def IsP (d:D) (ps:List (Int×Int)):Prop:=sh d=.seq (ps.map fr)
theorem rh (ps:List (Int×Int)):IsP (.lst (ps.map fr)) ps:=by unfold IsP;rw [sh,vi]
theorem IsP.inj {d:D} {ps qs:List (Int×Int)} (h:IsP d ps) (g:IsP d qs):ps=qs:=by
 have:=h.symm.trans g
 injection this with this
 exact nr this
def cV (ps:List (Int×Int)):List (Int×Int):=(0,1) :: ps
def bN (ps:List (Int×Int)) (i:Nat):Int×Int:=(cV ps).getD i (0,1)
def dif (ps:List (Int×Int)) (i j:Nat):Int×Int:=mi (bN ps i) (bN ps j)
def kZ (T:List (List Bn)) (ps:List (Int×Int)):Bool:=(List.range (ps.length+1)).all fun i=>(List.range (ps.length+1)).all fun j=>kp (dif ps i j) (aj T i j)
theorem mJ {k:Nat} (h:1<=k):Fr k ((0,1):Int×Int):=⟨⟨by decide,by unfold gc;simp⟩,Sm.mono (k:=1) (show (0:Int).natAbs < 2 ^ 1 by decide) h,Sm.mono (k:=1) (show (1:Int).natAbs < 2 ^ 1 by decide) h⟩
theorem fR {ps:List (Int×Int)} {k:Nat} (hk:1<=k) (h:∀ p∈ps,Fr k p) (i:Nat):Fr k (bN ps i):=by
 unfold bN
 rw [Zr]
 cases q:(cV ps)[i]? with
 | none=>exact mJ hk
 | some p =>
  have m:=List.mem_of_getElem? q
  rcases Zp.mp m with rfl | m
  . exact mJ hk
  . exact h p m
theorem AG {k:Nat} {ps:List (Int×Int)} (hk:1<=k) (h:∀ p∈ps,Fr k p) (i j:Nat):Fr (k+k+1) (dif ps i j):=(fR hk h i).mi (fR hk h j)
theorem jL {ps:List (Int×Int)} {i:Nat} (h:i < ps.length+1):gIx (.lst ((cV ps).map fr)) (.int (i:Int))=some (fr (bN ps i))/\gIx (.seq ((cV ps).map fr)) (.int (i:Int))=some (fr (bN ps i)):=by
 have e:((cV ps).map fr)[i]? = some (fr (bN ps i)):=by
  unfold bN
  have hl:i < (cV ps).length:=by unfold cV;rw [List.length_cons];exact h
  rw [List.getElem?_map,Zr,Zs hl]
  rfl
 exact ⟨ip e,ip e⟩
theorem lO {T:List (List Bn)} {m i j:Nat} {b:Bn} (hs:Sq T m) (hi:i < m) (hj:j < m) (x y:Nat):aj (j4 T i j b) x y=if x=i/\y=j then b else aj T x y:=by
 obtain ⟨r,h1,h2,h3⟩:=gG hs hi
 have hl:i < T.length:=by rw [hs.len];exact hi
 unfold aj j4
 by_cases hx:x=i
 . subst hx
   have e:(T.set x ((T.getD x []).set j b)).getD x []=(T.getD x []).set j b:=by
    rw [Zr,List.getElem?_set_self hl]
    rfl
   rw [e,h2]
   by_cases hy:y=j
   . subst hy
     rw [if_pos ⟨rfl,rfl⟩,Zr,List.getElem?_set_self (by omega)]
     rfl
   . rw [if_neg fun z=>hy z.2,Zr,List.getElem?_set_ne (Ne.symm hy),<- Zr]
 . rw [if_neg fun z=>hx z.1]
   have e:(T.set i ((T.getD i []).set j b)).getD x []=T.getD x []:=by
    rw [Zr,List.getElem?_set_ne (Ne.symm hx),<- Zr]
   rw [e]
def BkT (T:List (List Bn)):Prop:=∀ i j,Bk 4000 (aj T i j)
def qr (ds:List D) (d:D):Prop:=∃ (d0 d1:D) (T:List (List Bn)) (ps:List (Int×Int)),IsT d0 T/\Sq T (ps.length+1)/\ps.length<=40/\BkT T/\IsP d1 ps/\(∀ p∈ps,Fr 1900 p)/\ds=[d0,d1]/\d=.bl (kZ T ps)
theorem qh {k:Nat} {d0 d1:D} {T:List (List Bn)} {ps:List (Int×Int)} (h1:IsT d0 T) (h2:Sq T (ps.length+1)) (h3:ps.length<=40) (h4:BkT T) (h5:IsP d1 ps) (h6:∀ p∈ps,Fr k p) (hk:k<=1900:=by decide):fn qr [d0,d1]=some (.bl (kZ T ps)):=bG (fun d' h'=>by
 obtain ⟨e0,e1,U,qs,g1,_,_,_,g5,_,h,rfl⟩:=h'
 injection h with a b
 injection b with b _
 subst a b
 rw [h1.inj g1,h5.inj g5]) ⟨d0,d1,T,ps,h1,h2,h3,h4,h5,fun p m=>(h6 p m).mono hk,rfl,rfl⟩
def mxd (c k:Int):Int:=(c*48271+k*k*69621+7*k+11) % 2147483647*((c*48271+k*k*69621+7*k+11) % 2147483647) % 2147483629
def aP (ds:List D) (d:D):Prop:=∃ c k,0<=k/\k < 100000/\ds=[.int c,.int k]/\d=.int (mxd c k)
theorem iW {c k:Int} (h:0<=k) (g:k < 100000):fn aP [.int c,.int k]=some (.int (mxd c k)):=bG (fun d' h'=>by
 obtain ⟨c',k',_,_,h2,rfl⟩:=h'
 cases h2;rfl) ⟨c,k,h,g,rfl,rfl⟩
def iq (ds:List D) (d:D):Prop:=∃ t b,0 < b/\Bd b/\ds=[.int t,.int b]/\d=fr (rd t b)
theorem j1 {t b:Int} (h:0 < b) (g:Bd b):fn iq [.int t,.int b]=some (fr (rd t b)):=bG (fun d' h'=>by
 obtain ⟨t',b',_,_,h2,rfl⟩:=h'
 cases h2;rfl) ⟨t,b,h,g,rfl,rfl⟩
def dl (p q:Int×Int):Int×Int:=(p.1*q.2 - q.1*p.2,p.2*q.2)
abbrev cm:=S2 fun p q=>fr (dl p q)
def prt (c:Int):Int×Int:=if c % 8=5 then rd (c / 8 % (2*10 ^ 45+1) - 10 ^ 45) (1+c % 9973) else rd (c / 48 % 41 - 20) (1+c / 8 % 6)
theorem BN (c:Int):Fr 200 (prt c):=by
 unfold prt
 split
 . have hb:0 < 1+c % 9973:=by omega
   have h:=pT (k:=200) hb (Sm.of (x:=c / 8 % (2*10 ^ 45+1) - 10 ^ 45) (by omega) (by omega)) (Sm.of (by omega) (by omega))
   exact ⟨kS hb,h.1,h.2⟩
 . have hb:0 < 1+c / 8 % 6:=by omega
   have h:=pT (k:=200) hb (Sm.of (x:=c / 48 % 41 - 20) (by omega) (by omega)) (Sm.of (by omega) (by omega))
   exact ⟨kS hb,h.1,h.2⟩
theorem BM (c:Int):Sm 151 (prt c).1/\Sm 14 (prt c).2:=by
 unfold prt
 split
 . have hb:0 < 1+c % 9973:=by omega
   exact ⟨(Sm.of (k:=151) (x:=c / 8 % (2*10 ^ 45+1) - 10 ^ 45) (by omega) (by omega)).div (c6 hb) dG,(Sm.of (k:=14) (x:=1+c % 9973) (by omega) (by omega)).div (c6 hb) cB⟩
 . have hb:0 < 1+c / 8 % 6:=by omega
   exact ⟨(Sm.of (k:=151) (x:=c / 48 % 41 - 20) (by omega) (by omega)).div (c6 hb) dG,(Sm.of (k:=14) (x:=1+c / 8 % 6) (by omega) (by omega)).div (c6 hb) cB⟩
theorem rW {ps:List (Int×Int)} (h:∀ p∈ps,Sm 151 p.1/\Sm 14 p.2) (i:Nat):Sm 151 (bN ps i).1/\Sm 14 (bN ps i).2:=by
 have z:Sm 151 ((0,1):Int×Int).1/\Sm 14 ((0,1):Int×Int).2:=⟨Sm.mono (k:=1) (show (0:Int).natAbs < 2 ^ 1 by decide) (by decide),Sm.mono (k:=1) (show (1:Int).natAbs < 2 ^ 1 by decide) (by decide)⟩
 unfold bN
 rw [Zr]
 cases q:(cV ps)[i]? with
 | none=>exact z
 | some p =>
  rcases Zp.mp (List.mem_of_getElem? q) with e | m
  . rw [e];exact z
  . exact h p m
def eL (ds:List D) (d:D):Prop:=∃ c,ds=[.int c]/\d=fr (prt c)
theorem tW {c:Int}:fn eL [.int c]=some (fr (prt c)):=bG (fun d' h'=>by
 obtain ⟨c',h2,rfl⟩:=h'
 cases h2;rfl) ⟨c,rfl,rfl⟩
theorem qq {δ:DS} {t:Nat} {fk:FD} {fm:FM} {d:D} {Rs row:List D} (h:δ[t]? = some (some (.lst (Rs++[.lst row])))) (hk:fk δ=some (.int (Rs.length:Int))) (hf:fm δ=some (d,δ)) (hl:row.length<=999):ja t fk fm δ=some (.nx (δ.set t (some (.lst (Rs++[.lst (row++[d])]))))):=by
 have z:L2.ixN (Rs++[D.lst row]).length (Rs.length:Int)=some Rs.length:=ki (by simp)
 have g:(Rs++[D.lst row])[Rs.length]? = some (D.lst row):=by simp
 have e:(Rs++[D.lst row]).set Rs.length (.lst (row++[d]))=Rs++[.lst (row++[d])]:=by simp
 unfold ja
 rw [h]
 dsimp only
 rw [hk]
 dsimp only [Option.bind_some]
 rw [z]
 dsimp only [Option.bind_some]
 rw [g]
 dsimp only
 rw [hf]
 dsimp only [Option.bind_some]
 rw [h]
 dsimp only
 rw [g]
 dsimp only
 rw [if_pos ⟨hl,rfl⟩,e]
theorem qE {T:List (List Bn)} {m i j:Nat} {b:Bn} (hs:Sq T m) (hi:i < m) (hj:j < m) {δ:DS} {p q r:Nat} {fm:FM} (h1:δ[p]? = some (some (aw T))) (h2:δ[q]? = some (some (.int (i:Int)))) (h3:δ[r]? = some (some (.int (j:Int)))) (h4:fm δ=some (bdD b,δ)) :
 eF p (ae q) (ae r) fm δ=some (.nx (δ.set p (some (aw (j4 T i j b))))):=by
 obtain ⟨w,q1,q2,q3,q4,q5⟩:=ik hs hi hj
 unfold eF
 rw [h4]
 show (if imm (bdD b)=true then _ else _)=_
 rw [if_pos (ju b)]
 dsimp only
 rw [h1]
 unfold aw ae
 dsimp only
 rw [h2,h3]
 dsimp only [Option.bind_some]
 rw [ki (show i < (bw T).length by rw [eK,hs.len];exact hi)]
 dsimp only [Option.bind_some]
 rw [q3]
 dsimp only [Option.bind_some]
 rw [ki (show j < (aY w).length by rw [jr,q4];exact hj)]
 dsimp only [Option.bind_some]
 rw [lA q5]
structure Grown (T:List (List Bn)) (n m:Nat):Prop where
 len:T.length=n
 row:∀ r∈T,r.length=m
 bk:∀ r∈T,∀ b∈r,Bk 190 b
theorem Grown.sq {T:List (List Bn)} {m:Nat} (h:Grown T m m):Sq T m:=⟨h.len,h.row⟩
theorem Grown.cell {T:List (List Bn)} {n m:Nat} (h:Grown T n m) (i j:Nat):Bk 190 (aj T i j):=by
 unfold aj
 rw [Zr,Zr]
 cases q:T[i]? with
 | none=>trivial
 | some r =>
  rw [Option.getD_some]
  cases p:r[j]? with
  | none=>trivial
  | some b=>exact h.bk r (List.mem_of_getElem? q) b (List.mem_of_getElem? p)
theorem Grown.snoc {T:List (List Bn)} {n m:Nat} {r:List Bn} (h:Grown T n m) (g:r.length=m) (k:∀ b∈r,Bk 190 b):Grown (T++[r]) (n+1) m:=by
 refine ⟨by rw [Zh,h.len];rfl,fun x hx=>?_,fun x hx=>?_⟩
 . rcases Zo.mp hx with hx | hx
   . exact h.row x hx
   . rw [Zl.mp hx];exact g
 . rcases Zo.mp hx with hx | hx
   . exact h.bk x hx
   . rw [Zl.mp hx];exact k
theorem nV (T:List (List Bn)) (r:List Bn):bw (T++[r])=bw T++[.lst (aY r)]:=by unfold bw;rw [List.map_append];rfl
theorem pR (r:List Bn) (b:Bn):aY (r++[b])=aY r++[bdD b]:=by unfold aY;rw [List.map_append];rfl
theorem Dt {t b:Int} (hb:0 < b) (c:Bn):kp (t,b) c=kp (rd t b) c:=by
 have hg:=c6 (t:=t) hb
 have e1:(rd t b).1*gc t b=t:=By
 have e2:(rd t b).2*gc t b=b:=zP
 have key:∀ n:Int,(t < n*b <-> (rd t b).1 < n*(rd t b).2)/\(n*b < t <-> n*(rd t b).2 < (rd t b).1):=fun n=>by
  have e3:n*b=n*(rd t b).2*gc t b:=by rw [Int.mul_assoc,e2]
  constructor
  . constructor
    . intro h
      have h':(rd t b).1*gc t b < n*(rd t b).2*gc t b:=by rw [e1,<- e3];exact h
      exact Int.lt_of_mul_lt_mul_right h' (Int.le_of_lt hg)
    . intro h
      have:=Int.mul_lt_mul_of_pos_right h hg
      rw [e1,<- e3] at this
      exact this
  . constructor
    . intro h
      have h':n*(rd t b).2*gc t b < (rd t b).1*gc t b:=by rw [e1,<- e3];exact h
      exact Int.lt_of_mul_lt_mul_right h' (Int.le_of_lt hg)
    . intro h
      have:=Int.mul_lt_mul_of_pos_right h hg
      rw [e1,<- e3] at this
      exact this
 rcases c with _ | ⟨n,s⟩
 . rfl
 . cases s with
   | true =>
    show decide (t*1 < n*b)=decide ((rd t b).1*1 < n*(rd t b).2)
    rw [Int.mul_one,Int.mul_one]
    exact decide_eq_decide.mpr (key n).1
   | false =>
    show (!decide (n*b < t*1)) = !decide (n*(rd t b).2 < (rd t b).1*1)
    rw [Int.mul_one,Int.mul_one,decide_eq_decide.mpr (key n).2]
theorem A9 {p q:Int×Int} (hp:0 < p.2) (hq:0 < q.2) (c:Bn):kp (dl p q) c=kp (mi p q) c:=Dt (Int.mul_pos hp hq) c
theorem DG {k:Nat} {p q:Int×Int} (hp:Fr k p) (hq:Fr k q) (h:k+k+1<=4000):Fk (dl p q):=⟨Int.mul_pos hp.pos hq.pos,((hp.s1.mul hq.s2).sub (hq.s1.mul hp.s2)).mono h,(hp.s2.mul hq.s2).mono (by omega)⟩
abbrev fE:=iZ
abbrev ia:=qr
theorem Du (a n b:Int) (s:Bool):(decide (a < n*b) || (a == n*b && !s))=kp (a,b) (some (n,s)):=by
 cases s with
 | true =>
  show _=decide (a*1 < n*b)
  rw [Int.mul_one,Bool.not_true,Bool.and_false,Bool.or_false]
 | false =>
  show _ = !decide (n*b < a*1)
  rw [Int.mul_one,Bool.not_false,Bool.and_true,Bool.eq_iff_iff,Bool.or_eq_true,Bool.not_eq_true',decide_eq_true_iff,decide_eq_false_iff_not,beq_iff_eq]
  omega
theorem xU (p:Int×Int):sh (fr p)=fr p:=rfl
theorem vh {f:FM} {δ:DS} {d:D} (h:f δ=some (d,δ)):dO f δ=some (.rt d):=bx h
theorem bJ {i:Nat} {f:FM} {δ:DS} {d:D} (h:f δ=some (d,δ)):az i f δ=some (.nx (δ.set i (some d))):=be h
theorem uf {α:Type} {src:FA} {n:Nat} {js:List Nat} {g:D->DS->Option DS} {fc:FT} {felt:FM} {δ:DS} {f h:α->D} {xs:List α} (hs:src δ=some (xs.map f)) (ht:∀ x∈xs,eE n js g fc felt δ (f x)=some (some (h x))) (hl:xs.length<=1000) :
 fY src n js g fc felt δ=some (.lst (xs.map h),δ):=by
 have m:∀ ys:List α,(∀ y∈ys,eE n js g fc felt δ (f y)=some (some (h y)))->gR (eE n js g fc felt δ) (ys.map f)=some (ys.map h):=by
  intro ys
  induction ys with
  | nil=>intro _;rfl
  | cons y ys ih =>
   intro hy
   show ((eE n js g fc felt δ (f y)).bind _)=_
   rw [hy y Zj]
   show ((gR (eE n js g fc felt δ) (ys.map f)).bind _)=_
   rw [ih fun z m=>hy z (Zk _ m)]
   rfl
 unfold fY
 rw [hs]
 show ((gR _ _).bind _)=_
 rw [m xs ht]
 show (if (xs.map h).length<=1000 then _ else _)=_
 rw [if_pos (by rw [Zi];exact hl)]
theorem jB {n:Nat} {js:List Nat} {g:D->DS->Option DS} {fc:FT} {felt:FM} {δ δ1:DS} {d e:D} (h1:g d (fZ n (bz js δ))=some δ1) (h2:fc δ1=some true) (h3:Dl.ownOf felt (shO δ1)=some e):eE n js g fc felt δ d=some (some e):=by
 unfold eE
 rw [h1]
 show ((fc δ1).bind _)=_
 rw [h2]
 show (Dl.ownOf felt (shO δ1)).map some=_
 rw [h3]
 rfl
theorem qS {felt:FM} {δ δ':DS} {e:D} (h:felt δ=some (e,δ')) (o:own e=true):Dl.ownOf felt δ=some e:=by
 unfold Dl.ownOf
 rw [h]
 exact if_pos o
def ck (ds:List D) (d:D):Prop:=∃ a b:Bn,ds=[bdD a,bdD b]/\d=bdD (bs a b)
theorem lZ {a b:Bn}:fn ck [bdD a,bdD b]=some (bdD (bs a b)):=bG (fun d' h'=>by
 obtain ⟨a',b',h2,rfl⟩:=h'
 injection h2 with h3 h4
 injection h4 with h4 _
 rw [hU h3,hU h4]) ⟨a,b,rfl,rfl⟩
def sk (n:Nat) (f:Nat->Bn):List Bn:=(List.range n).map f
def aZ (n:Nat) (f:Nat->Nat->Bn):List (List Bn):=(List.range n).map fun i=>sk n (f i)
theorem bQ (n:Nat) (f:Nat->Nat->Bn):Sq (aZ n f) n:=⟨by unfold aZ;rw [Zi,List.length_range],fun r m=>by
 unfold aZ at m
 obtain ⟨i,_,rfl⟩:=Zm.mp m
 unfold sk
 rw [Zi,List.length_range]⟩
theorem bg {α:Type} {n i:Nat} (g:Nat->α) (h:i < n):((List.range n).map g)[i]? = some (g i):=by rw [List.getElem?_map,List.getElem?_range h];rfl
theorem jx {T:List (List Bn)} {i j:Nat} {r:List Bn} (h:T[i]? = some r):aj T i j=r.getD j none:=by
 unfold aj
 have e:T.getD i []=r:=by rw [Zr,h];rfl
 rw [e]
theorem vV {α:Type} {xs:List α} {i:Nat} {d v:α} (h:xs[i]? = some v):xs.getD i d=v:=by rw [Zr,h];rfl
theorem bV {n i j:Nat} (f:Nat->Nat->Bn) (hi:i < n) (hj:j < n):aj (aZ n f) i j=f i j:=by
 rw [jx (show (aZ n f)[i]? = some (sk n (f i)) from bg _ hi)]
 exact vV (bg (f i) hj)
theorem mK {n:Nat} {T U:List (List Bn)} (h:Sq T n) (g:Sq U n) (e:∀ i j,i < n->j < n->aj T i j=aj U i j):T=U:=by
 refine List.ext_getElem? fun i=>?_
 by_cases hi:i < n
 . obtain ⟨r,a1,a2,a3⟩:=gG h hi
   obtain ⟨s,b1,b2,b3⟩:=gG g hi
   rw [a1,b1]
   congr 1
   refine List.ext_getElem? fun j=>?_
   by_cases hj:j < n
   . have:=e i j hi hj
     unfold aj at this
     rw [a2,b2,Zr,Zr,Zs (by omega),Zs (by omega)] at this
     rw [Zs (by omega),Zs (by omega)]
     exact congrArg some this
   . rw [List.getElem?_eq_none (by omega),List.getElem?_eq_none (by omega)]
 . rw [List.getElem?_eq_none (by rw [h.len];omega),List.getElem?_eq_none (by rw [g.len];omega)]
theorem zI {n:Nat} {T:List (List Bn)} (h:Sq T n):aZ n (aj T)=T:=mK (bQ _ _) h fun i j hi hj=>bV _ hi hj
theorem cY {n:Nat} {f g:Nat->Nat->Bn} (e:∀ i j,i < n->j < n->f i j=g i j):aZ n f=aZ n g:=mK (bQ _ _) (bQ _ _) fun i j hi hj=>by rw [bV _ hi hj,bV _ hi hj,e i j hi hj]
def up2 {α:Type} (f:Nat->Nat->α) (i j:Nat) (b:α):Nat->Nat->α:=fun x y=>if x=i/\y=j then b else f x y
theorem wW {T:List (List Bn)} {n i j x y:Nat} {b:Bn} (h:Sq T n) (hi:i < n) (hj:j < n) (hx:x < n) (hy:y < n):aj (j4 T i j b) x y=if x=i/\y=j then b else aj T x y:=by
 obtain ⟨r,a1,a2,a3⟩:=gG h hi
 obtain ⟨s,b1,b2,b3⟩:=gG h hx
 unfold j4
 rw [a2]
 by_cases e:x=i
 . subst e
   rw [jx (r:=r.set j b) (List.getElem?_set_self (by rw [h.len];exact hi)),jx a1]
   by_cases e2:y=j
   . subst e2
     rw [if_pos ⟨rfl,rfl⟩]
     exact vV (List.getElem?_set_self (by omega))
   . rw [if_neg (fun z=>e2 z.2),Zr,List.getElem?_set_ne (Ne.symm e2),<- Zr]
 . rw [if_neg (fun z=>e z.1),jx b1,jx (r:=s) (by rw [List.getElem?_set_ne (Ne.symm e)];exact b1)]
theorem pJ {n i j:Nat} (f:Nat->Nat->Bn) (b:Bn) (hi:i < n) (hj:j < n):j4 (aZ n f) i j b=aZ n (up2 f i j b):=mK (mQ (bQ n f) hi) (bQ _ _) fun x y hx hy=>by
 rw [wW (bQ n f) hi hj hx hy,bV _ hx hy,bV _ hx hy]
 rfl
def aW {α:Type} (bad:List α->α->Option D):List α->List α->Option D
 | _,[]=>none
 | pre,x :: post=>match bad pre x with
  | some d=>some d
  | none=>aW bad (pre++[x]) post
theorem nv {α:Type} {i:Nat} {s:SD} {f:α->D} (P:List α->DS->Prop) (bad:List α->α->Option D) (all:List α)
 (step:∀ (pre:List α) (x:α) (post:List α) (δ:DS),all=pre++x :: post->P pre δ->(bad pre x=none->∃ δ2,s (δ.set i (some (sh (f x))))=some (.nx δ2)/\P (pre++[x]) δ2)/\∀ d,bad pre x=some d->s (δ.set i (some (sh (f x))))=some (.rt d)) :
 ∀ (xs pre:List α) (δ:DS),all=pre++xs->P pre δ->(aW bad pre xs=none->∃ δ',Dl.forM i s (xs.map f) δ=some (.nx δ')/\P all δ')/\∀ d,aW bad pre xs=some d->Dl.forM i s (xs.map f) δ=some (.rt d)
 | [],pre,δ,e,p=>⟨fun _=>⟨δ,rfl,by rw [e,List.append_nil];exact p⟩,fun d h=>by cases h⟩
 | x :: xs,pre,δ,e,p=>by
  obtain ⟨h1,h2⟩:=step pre x xs δ e p
  cases q:bad pre x with
  | some d0 =>
   have ef:aW bad pre (x :: xs)=some d0:=by show (match bad pre x with | some d=>some d | none=>_)=_;rw [q]
   rw [ef]
   refine ⟨(fun z=>by cases z),fun d z=>?_⟩
   cases z
   simp only [Zq,Dl.forM,h2 d0 q,Zc]
  | none =>
   have ef:aW bad pre (x :: xs)=aW bad (pre++[x]) xs:=by show (match bad pre x with | some d=>some d | none=>_)=_;rw [q]
   rw [ef]
   obtain ⟨δ2,h3,h4⟩:=h1 q
   obtain ⟨g1,g2⟩:=nv P bad all step xs (pre++[x]) δ2 (by rw [e,List.append_assoc];rfl) h4
   refine ⟨fun z=>?_,fun d z=>?_⟩
   . obtain ⟨δ',a,b⟩:=g1 z
     refine ⟨δ',?_,b⟩
     simp only [Zq,Dl.forM,h3,Zc,a]
   . simp only [Zq,Dl.forM,h3,Zc,g2 d z]
theorem fP {α:Type} {bad:List α->α->Option D}:∀ {xs pre:List α},aW bad pre xs=none->∀ a x b,xs=a++x :: b->bad (pre++a) x=none
 | [],pre,_,a,x,b,e=>by simp at e
 | y :: xs,pre,h,a,x,b,e=>by
  have h':(match bad pre y with | some d=>some d | none=>aW bad (pre++[y]) xs)=none:=h
  cases q:bad pre y with
  | some d=>rw [q] at h';cases h'
  | none =>
   rw [q] at h'
   cases a with
   | nil=>cases e;rw [List.append_nil];exact q
   | cons z a =>
    cases e
    have:=fP h' a x b rfl
    rw [List.append_assoc] at this
    exact this
theorem cj {α:Type} {bad:List α->α->Option D}:∀ {xs pre:List α} {d:D},aW bad pre xs=some d->∃ a x b,xs=a++x :: b/\bad (pre++a) x=some d/\∀ a' y b',a=a'++y :: b'->bad (pre++a') y=none
 | [],pre,d,h=>by cases h
 | y :: xs,pre,d,h=>by
  have h':(match bad pre y with | some d=>some d | none=>aW bad (pre++[y]) xs)=some d:=h
  cases q:bad pre y with
  | some d0 =>
   rw [q] at h'
   cases h'
   exact ⟨[],y,xs,rfl,by rw [List.append_nil];exact q,fun a' z b' e=>by simp at e⟩
  | none =>
   rw [q] at h'
   obtain ⟨a,x,b,e1,e2,e3⟩:=cj h'
   refine ⟨y :: a,x,b,by rw [e1];rfl,by rw [List.append_assoc] at e2;exact e2,fun a' z b' e=>?_⟩
   cases a' with
   | nil=>cases e;rw [List.append_nil];exact q
   | cons w a' =>
    cases e
    have:=e3 a' z b' rfl
    rw [List.append_assoc] at this
    exact this
def bP (l:List Nat):List D:=l.map fun (k:Nat)=>D.int (k:Int)
theorem wV (l:List Nat):shs (bP l)=bP l:=qA (imms_mem.mpr fun d m=>by obtain ⟨k,_,rfl⟩:=Zm.mp m;rfl)
theorem oG (l:List Nat):cn (bP l)=true:=imms_mem.mpr fun d m=>by obtain ⟨k,_,rfl⟩:=Zm.mp m;rfl
theorem gw:∀ {ds:List D},(∀ d∈ds,own d=true)->gF ds=true
 | [],_=>rfl
 | d :: ds,h=>by rw [gF,h d Zj,gw fun e m=>h e (Zk _ m)];rfl
theorem kc (l:List Nat):gF (bP l)=true:=gw fun d m=>by obtain ⟨k,_,rfl⟩:=Zm.mp m;rfl
def gh (n:Nat) (p:Nat->List Nat):List D:=(List.range n).map fun j=>D.lst (bP (p j))
def lP (n:Nat) (p:Nat->List Nat):List D:=(List.range n).map fun j=>D.seq (bP (p j))
def aU (n:Nat) (p:Nat->Nat->List Nat):List D:=(List.range n).map fun i=>D.lst (gh n (p i))
def fQ (n:Nat) (p:Nat->Nat->List Nat):List D:=(List.range n).map fun i=>D.seq (lP n (p i))
theorem xS (n:Nat) (p:Nat->List Nat):shs (gh n p)=lP n p:=by
 rw [dW]
 unfold gh lP
 rw [List.map_map]
 refine List.map_congr_left fun j _=>?_
 show sh (.lst (bP (p j)))=_
 rw [sh,wV]
theorem nM (n:Nat) (p:Nat->Nat->List Nat):shs (aU n p)=fQ n p:=by
 rw [dW]
 unfold aU fQ
 rw [List.map_map]
 refine List.map_congr_left fun i _=>?_
 show sh (.lst (gh n (p i)))=_
 rw [sh,xS]
theorem om (n:Nat) (p:Nat->Nat->List Nat):own (.lst (aU n p))=true:=by
 rw [own]
 refine gw fun d m=>?_
 obtain ⟨i,_,rfl⟩:=Zm.mp m
 show own (.lst (gh n (p i)))=true
 rw [own]
 refine gw fun d m=>?_
 obtain ⟨j,_,rfl⟩:=Zm.mp m
 show own (.lst (bP (p i j)))=true
 rw [own]
 exact kc _
theorem tj {n i j:Nat} (p:Nat->Nat->List Nat) (hi:i < n) (hj:j < n):gIx (.lst (aU n p)) (.int (i:Int))=some (.lst (gh n (p i)))/\gIx (.lst (gh n (p i))) (.int (j:Int))=some (.lst (bP (p i j))):=⟨ip (bg _ hi),ip (bg _ hj)⟩
theorem tf {n i j:Nat} (p:Nat->Nat->List Nat) (hi:i < n) (hj:j < n):gIx (.seq (fQ n p)) (.int (i:Int))=some (.seq (lP n (p i)))/\gIx (.seq (lP n (p i))) (.int (j:Int))=some (.seq (bP (p i j))):=⟨ip (bg _ hi),ip (bg _ hj)⟩
theorem jY {α:Type} {n i:Nat} (g:Nat->α) (v:α) (hi:i < n):((List.range n).map g).set i v=(List.range n).map fun x=>if x=i then v else g x:=by
 refine List.ext_getElem? fun k=>?_
 by_cases hk:k < n
 . rw [bg _ hk]
   by_cases e:k=i
   . subst e
     rw [List.getElem?_set_self (by rw [Zi,List.length_range];exact hk),if_pos rfl]
   . rw [List.getElem?_set_ne (Ne.symm e),bg _ hk,if_neg e]
 . rw [List.getElem?_eq_none (by rw [List.length_set,Zi,List.length_range];omega),List.getElem?_eq_none (by rw [Zi,List.length_range];omega)]
theorem xV {n i j:Nat} (p:Nat->Nat->List Nat) (l:List Nat) (hi:i < n) (hj:j < n):(aU n p).set i (.lst ((gh n (p i)).set j (.lst (bP l))))=aU n (up2 p i j l):=by
 unfold aU
 rw [jY _ _ hi]
 refine List.map_congr_left fun x _=>?_
 by_cases e:x=i
 . subst e
   rw [if_pos rfl]
   unfold gh
   rw [jY _ _ hj]
   congr 1
   refine List.map_congr_left fun y _=>?_
   unfold up2
   by_cases e2:y=j
   . rw [if_pos e2,if_pos ⟨rfl,e2⟩]
   . rw [if_neg e2,if_neg fun z=>e2 z.2]
 . rw [if_neg e]
   congr 1
   unfold gh
   refine List.map_congr_left fun y _=>?_
   unfold up2
   rw [if_neg fun z=>e z.1]
theorem fJ {n:Nat} {p q:Nat->Nat->List Nat} (e:∀ i j,i < n->j < n->p i j=q i j):aU n p=aU n q:=by
 unfold aU gh
 refine List.map_congr_left fun i hi=>?_
 congr 1
 refine List.map_congr_left fun j hj=>?_
 rw [e i j (Zn.mp hi) (Zn.mp hj)]
theorem vn {δ δ':DS} {p:Nat} {fk fl:FD} {fm:FM} {v:D} {Rs row:List D} {i j:Nat} (h0:fm δ=some (v,δ')) (h1:δ'[p]? = some (some (.lst Rs))) (h2:fk δ'=some (.int (i:Int))) (h3:Rs[i]? = some (.lst row)) (h4:fl δ'=some (.int (j:Int))) (h5:j < row.length) :
 gB p fk fl fm δ=some (.nx (δ'.set p (some (.lst (Rs.set i (.lst (row.set j v))))))):=by
 unfold gB
 simp only [h0,Zc,h1,h2,ki (List.getElem?_eq_some_iff.mp h3).1,h3,h4,ki h5]
def cz (T:List (List Bn)):Nat->Nat->Bn:=fun i j=>if i=j then b0 else aj T i j
def gN (ds:List D) (d:D):Prop:=∃ (d0:D) (T:List (List Bn)) (n:Nat),IsT d0 T/\Sq T n/\n<=41/\ds=[d0]/\d=aw (aZ n (cz T))
theorem oK {d0:D} {T:List (List Bn)} {n:Nat} (h:IsT d0 T) (hs:Sq T n) (hn:n<=41):fn gN [d0]=some (aw (aZ n (cz T))):=bG (fun d' h'=>by
 obtain ⟨d1,U,m,g,gs,_,h2,rfl⟩:=h'
 cases h2
 have:=h.inj g
 subst this
 rw [<- hs.len,<- gs.len]) ⟨d0,T,n,h,hs,hn,rfl,rfl⟩
def gf (ds:List D) (d:D):Prop:=∃ n:Nat,n<=41/\ds=[.int (n:Int)]/\d=.lst (aU n fun i _=>[i])
theorem mF {n:Nat} (hn:n<=41):fn gf [.int (n:Int)]=some (.lst (aU n fun i _=>[i])):=bG (fun d' h'=>by
 obtain ⟨m,_,h2,rfl⟩:=h'
 injection h2 with h2 _
 injection h2 with h2
 have:m=n:=by omega
 subst this
 rfl) ⟨n,hn,rfl,rfl⟩
def mH (f:Nat->Nat->Bn) (p:Nat->Nat->List Nat) (m:Nat):List Nat->Nat->Option D:=fun _ t=>if kp (0,1) (bs (f t m) (f m t))=true then none else some (.lst (bP (p t m++p m t)))
def rgt (n:Nat) (f:Nat->Nat->Bn) (p:Nat->Nat->List Nat) (m:Nat):D:=(aW (mH f p m) [] (List.range n)).getD .non
theorem pE {n:Nat} {p q:Nat->Nat->List Nat} (h:fQ n p=fQ n q):∀ i j,i < n->j < n->p i j=q i j:=fun i j hi hj=>by
 have h1:(fQ n p)[i]? = (fQ n q)[i]?:=by rw [h]
 unfold fQ at h1
 rw [bg _ hi,bg _ hi] at h1
 injection h1 with h1
 injection h1 with h1
 have h2:(lP n (p i))[j]? = (lP n (q i))[j]?:=by rw [h1]
 unfold lP at h2
 rw [bg _ hj,bg _ hj] at h2
 injection h2 with h2
 injection h2 with h2
 have key:∀ (a b:List Nat),bP a=bP b->a=b:=by
  intro a
  induction a with
  | nil=>intro b e;cases b with | nil=>rfl | cons y b=>cases e
  | cons x a ih =>
   intro b e
   cases b with
   | nil=>cases e
   | cons y b =>
    have e':D.int (x:Int) :: bP a=D.int (y:Int) :: bP b:=e
    injection e' with e1 e2
    injection e1 with e1
    rw [ih b e2]
    congr 1
    omega
 exact key _ _ h2
structure zF (n:Nat) (f:Nat->Nat->Bn) (p:Nat->Nat->List Nat) (m:Nat):Prop where
 n41:n<=41
 mn:m < n
 bk:∀ i j,i < n->j < n->Bk 3000 (f i j)
 ln:∀ i j,i < n->j < n->(p i j).length<=400
def ft (ds:List D) (d:D):Prop:=∃ (d0 d1:D) (n m:Nat) (f:Nat->Nat->Bn) (p:Nat->Nat->List Nat),zF n f p m/\IsT d0 (aZ n f)/\sh d1=.seq (fQ n p)/\ds=[d0,d1,.int (m:Int)]/\d=rgt n f p m
theorem jw {α:Type} {bad bad':List α->α->Option D}:∀ {xs pre:List α},(∀ a x b,xs=a++x :: b->bad (pre++a) x=bad' (pre++a) x)->aW bad pre xs=aW bad' pre xs
 | [],_,_=>rfl
 | x :: xs,pre,h=>by
  have h0:=h [] x xs rfl
  rw [List.append_nil] at h0
  show (match bad pre x with | some d=>some d | none=>aW bad (pre++[x]) xs)=(match bad' pre x with | some d=>some d | none=>aW bad' (pre++[x]) xs)
  rw [h0]
  cases bad' pre x with
  | some d=>rfl
  | none =>
   refine jw fun a y b e=>?_
   have:=h (x :: a) y b (by rw [e];rfl)
   rw [List.append_assoc]
   exact this
theorem wY {n m:Nat} {f g:Nat->Nat->Bn} {p q:Nat->Nat->List Nat} (hm:m < n) (e:∀ i j,i < n->j < n->f i j=g i j) (e2:∀ i j,i < n->j < n->p i j=q i j):rgt n f p m=rgt n g q m:=by
 unfold rgt
 congr 1
 refine jw fun a x b h=>?_
 have hx:x < n:=by
  have:=(bE h)
  omega
 unfold mH
 rw [e x m hx hm,e m x hm hx,e2 x m hx hm,e2 m x hm hx]
theorem rY {n:Nat} {f g:Nat->Nat->Bn} (h:aZ n f=aZ n g):∀ i j,i < n->j < n->f i j=g i j:=fun i j hi hj=>by rw [<- bV f hi hj,h,bV g hi hj]
theorem oN {d0 d1:D} {n m:Nat} {f:Nat->Nat->Bn} {p:Nat->Nat->List Nat} (ok:zF n f p m) (h0:IsT d0 (aZ n f)) (h1:sh d1=.seq (fQ n p)):fn ft [d0,d1,.int (m:Int)]=some (rgt n f p m):=bG (fun d' h'=>by
 obtain ⟨e0,e1,n',m',g,q,ok',g0,g1,h2,rfl⟩:=h'
 injection h2 with a b
 injection b with b c
 injection c with c _
 injection c with c
 subst a b
 have em:m'=m:=by omega
 subst em
 have et:=h0.inj g0
 have en:n'=n:=by rw [<- (bQ n f).len,et,(bQ n' g).len]
 subst en
 rw [h1] at g1
 injection g1 with g1
 exact (wY ok.mn (rY et) (pE g1)).symm) ⟨d0,d1,n,m,f,p,ok,h0,h1,rfl,rfl⟩
def ldF (f:Nat->Nat->Bn) (m:Nat):Nat->Nat->Bn:=fun i j=>if tgt (bs (f i m) (f m j)) (f i j)=true then bs (f i m) (f m j) else f i j
def ldP (f:Nat->Nat->Bn) (p:Nat->Nat->List Nat) (m:Nat):Nat->Nat->List Nat:=fun i j=>if tgt (bs (f i m) (f m j)) (f i j)=true then p i m++p m j else p i j
theorem vH (n:Nat) (f:Nat->Nat->Bn) (p:Nat->Nat->List Nat) (m:Nat):own (rgt n f p m)=true:=by
 unfold rgt
 cases hb:aW (mH f p m) [] (List.range n) with
 | none=>rfl
 | some d =>
  obtain ⟨a,x,b,_,h,_⟩:=cj hb
  unfold mH at h
  split at h
  . cases h
  . cases h
    show own (.lst _)=true
    rw [own]
    exact kc _
theorem jJ {T:List (List Bn)} {n:Nat} (hs:Sq T n):c8 [aq T]=some (.int (n:Int)):=by
 show some (D.int ((eI T).length:Int))=_
 unfold eI
 rw [Zi,hs.len]
theorem Am {T:List (List Bn)} {n:Nat} (hs:Sq T n):c8 [aw T]=some (.int (n:Int)):=by
 show some (D.int ((bw T).length:Int))=_
 rw [eK,hs.len]
def fu (ds:List D) (d:D×D):Prop:=∃ (n m:Nat) (f:Nat->Nat->Bn) (p:Nat->Nat->List Nat),zF n f p m/\f m m=b0/\ds=[aw (aZ n f),.lst (aU n p),.int (m:Int)]/\d=(aw (aZ n (ldF f m)),.lst (aU n (ldP f p m)))
theorem yx {T U:List (List Bn)} (h:aw T=aw U):T=U:=kA (by rw [<- qB,<- qB,h])
theorem wN {n:Nat} {p q:Nat->Nat->List Nat} (h:aU n p=aU n q):∀ i j,i < n->j < n->p i j=q i j:=pE (by rw [<- nM,<- nM,h])
theorem oO {n m:Nat} {f:Nat->Nat->Bn} {p:Nat->Nat->List Nat} (ok:zF n f p m) (h0:f m m=b0):fnM fu [aw (aZ n f),.lst (aU n p),.int (m:Int)]=some (aw (aZ n (ldF f m)),.lst (aU n (ldP f p m))):=Cp (fun d' h'=>by
 obtain ⟨n',m',g,q,ok',g0,h2,rfl⟩:=h'
 injection h2 with a b
 injection b with b c
 injection c with c _
 injection c with c
 have em:m'=m:=by omega
 subst em
 have et:=yx a
 have en:n'=n:=by rw [<- (bQ n f).len,et,(bQ n' g).len]
 subst en
 injection b with b
 have e1:=rY et
 have e2:=wN b
 have hm:=ok.mn
 have t1:aZ n' (ldF g m')=aZ n' (ldF f m'):=cY fun i j hi hj=>by unfold ldF;rw [e1 i m' hi hm,e1 m' j hm hj,e1 i j hi hj]
 have t2:aU n' (ldP g q m')=aU n' (ldP f p m'):=fJ fun i j hi hj=>by unfold ldP;rw [e1 i m' hi hm,e1 m' j hm hj,e1 i j hi hj,e2 i m' hi hm,e2 m' j hm hj,e2 i j hi hj]
 rw [t1,t2]) ⟨n,m,f,p,ok,h0,rfl,rfl⟩
def pw (c:Nat->Nat->Bn):Nat->Nat->Nat->List Nat
 | 0=>fun i _=>[i]
 | m+1=>ldP (dm c m) (pw c m) m
def rP (n:Nat) (c:Nat->Nat->Bn):List Nat->Nat->Option D:=fun _ m=>match rgt n (dm c m) (pw c m) m with
 | .non=>none
 | d=>some (.tup [.str "ring",d])
def rO (T:List (List Bn)):List Nat->Nat->Option D:=fun _ t=>if kp (0,1) (aj T t t)=true then none else some (.tup [.str "ring",.lst [.int (t:Int)]])
def fg (n:Nat) (T:List (List Bn)):D:=match aW (rO T) [] (List.range n) with
 | some d=>d
 | none=>match aW (rP n (cz T)) [] (List.range n) with
  | some d=>d
  | none=>.tup [.str "table",aw (aZ n (dm (cz T) n))]
theorem vo {n m:Nat} {f:Nat->Nat->Bn} {p:Nat->Nat->List Nat} (h:rgt n f p m=.non):∀ t,t < n->Nn (bs (f t m) (f m t)):=fun t ht=>by
 unfold rgt at h
 cases hb:aW (mH f p m) [] (List.range n) with
 | none =>
  obtain ⟨a,b,e⟩:=List.append_of_mem (Zn.mpr ht)
  have:=fP hb a t b e
  unfold mH at this
  split at this
  . rename_i q;exact nn_kp.mp q
  . cases this
 | some d =>
  rw [hb] at h
  obtain ⟨a,x,b,_,h2,_⟩:=cj hb
  unfold mH at h2
  split at h2
  . cases h2
  . cases h2
    cases h
theorem qG {n m:Nat} (f:Nat->Nat->Bn) (p:Nat->Nat->List Nat):rgt n f p m=.non \/ ∃ t,t < n/\rgt n f p m=.lst (bP (p t m++p m t))/\¬ Nn (bs (f t m) (f m t)):=by
 unfold rgt
 cases hb:aW (mH f p m) [] (List.range n) with
 | none=>exact .inl rfl
 | some d =>
  obtain ⟨a,x,b,e,h2,_⟩:=cj hb
  have hx:x < n:=by have:=bE e;omega
  unfold mH at h2
  split at h2
  . cases h2
  . rename_i q
    cases h2
    exact .inr ⟨x,hx,rfl,fun z=>q (nn_kp.mpr z)⟩
theorem wz {c:Nat->Nat->Bn} (h:∀ i j,Bk 2000 (c i j)):∀ (m i j:Nat),Bk (2000+m) (dm c m i j)
 | 0,i,j=>h i j
 | m+1,i,j=>by
  rcases l4 (c:=c) m i j with e | e
  . rw [e];exact (wz h m i j).mono (by omega)
  . rw [e];exact (wz h m i m).sum (wz h m m j)
structure St (n:Nat) (c:Nat->Nat->Bn) (m:Nat):Prop where
 fw:Fw c n m
 wy:∀ i j,i < n->j < n->Way c n m i j (pw c m i j)
 dg:∀ i,i < n->pw c m i i=[i]
theorem vf {n:Nat} {c:Nat->Nat->Bn} (h:∀ i,i < n->c i i=b0):St n c 0:=⟨Ay h,fun i j _ _=>xJ i j,fun _ _=>rfl⟩
theorem vg {n m:Nat} {c:Nat->Nat->Bn} (s:St n c m) (hm:m < n) (ok:∀ i,i < n->Nn (bs (dm c m i m) (dm c m m i))):St n c (m+1):=by
 refine ⟨Az s.fw hm ok,fun i j hi hj=>?_,fun i hi=>?_⟩
 . show Way c n (m+1) i j (ldP (dm c m) (pw c m) m i j)
   unfold ldP
   cases q:tgt (bs (dm c m i m) (dm c m m j)) (dm c m i j) with
   | true=>rw [if_pos rfl];exact zH s.fw hm hi hj (s.wy i m hi hm) (s.wy m j hm hj) (ok i hi) q
   | false =>
    rw [if_neg (by decide)]
    exact xK (s.wy i j hi hj) (if_neg (by rw [q];decide))
 . show ldP (dm c m) (pw c m) m i i=_
   unfold ldP
   have:=ok i hi
   unfold Nn Le at this
   rw [s.fw.dia i hi,this,if_neg (by decide)]
   exact s.dg i hi
theorem St.len {n m:Nat} {c:Nat->Nat->Bn} (s:St n c m) (hm:m<=n) (i j:Nat) (hi:i < n) (hj:j < n):(pw c m i j).length<=n:=by
 by_cases h:i=j
 . subst h
   rw [s.dg i hi]
   show 1<=n
   omega
 . have nd:=List.nodup_append.mp ((s.wy i j hi hj).nd h)
   exact lH n _ nd.1 ((s.wy i j hi hj).lt hi hm)
theorem St.rt {n m:Nat} {c:Nat->Nat->Bn} (s:St n c m) (hb:∀ i j,Bk 2000 (c i j)) (hn:n<=41) (hm:m < n):zF n (dm c m) (pw c m) m :=
 ⟨hn,hm,fun i j _ _=>(wz hb m i j).mono (by omega),fun i j hi hj=>Nat.le_trans (s.len (by omega) i j hi hj) (by omega)⟩
theorem DH {T:List (List Bn)} (h:∀ i j,Bk 2000 (aj T i j)) (i j:Nat):Bk 2000 (cz T i j):=by
 unfold cz
 split
 . show Sm 2000 0
   exact Sm.mono (k:=1) (show (0:Int).natAbs < 2 ^ 1 by decide) (by decide)
 . exact h i j
theorem jn (n:Nat) (T:List (List Bn)):own (fg n T)=true:=by
 unfold fg
 cases h1:aW (rO T) [] (List.range n) with
 | some d =>
  obtain ⟨a,x,b,_,h2,_⟩:=cj h1
  unfold rO at h2
  split at h2
  . cases h2
  . cases h2;rfl
 | none =>
  dsimp only
  cases h3:aW (rP n (cz T)) [] (List.range n) with
  | some d =>
   obtain ⟨a,x,b,_,h2,_⟩:=cj h3
   unfold rP at h2
   rcases qG (n:=n) (m:=x) (dm (cz T) x) (pw (cz T) x) with e | ⟨t,_,e,_⟩
   . rw [e] at h2;cases h2
   . rw [e] at h2
     cases h2
     show (true && (own (.lst _) && true))=true
     rw [own,kc]
     rfl
  | none =>
   show (true && (own (aw _) && true))=true
   rw [cc]
   rfl
theorem xP {δ:DS} {i j:Nat} {G:List D->Option (D×D)} {g:FA} {xs ys es:List D} {d0 d1:D} (h1:δ[i]? = some (some (.lst xs))) (h2:δ[j]? = some (some (.lst ys))) (h3:g δ=some es) (h4:G (.lst xs :: .lst ys :: es)=some (d0,d1)) (h5:cn es=true) (h6:own d0=true) (h7:own d1=true) (h8:i ≠ j):nU i j G g δ=some (.nx ((δ.set i (some d0)).set j (some d1))):=by
 unfold nU
 simp only [h1,h2,h3,h4,Zc,h5,h6,h7,ne_eq,h8,not_false_eq_true,and_self,if_true]
def gQ (ds:List D) (d:D):Prop:=∃ (d0:D) (T:List (List Bn)) (n:Nat),IsT d0 T/\Sq T n/\n<=41/\(∀ i j,Bk 2000 (aj T i j))/\ds=[d0]/\d=fg n T
theorem oQ {d0:D} {T:List (List Bn)} {n:Nat} (h:IsT d0 T) (hs:Sq T n) (hn:n<=41) (hb:∀ i j,Bk 2000 (aj T i j)):fn gQ [d0]=some (fg n T):=bG (fun d' h'=>by
 obtain ⟨d1,U,m,g,gs,_,_,h2,rfl⟩:=h'
 cases h2
 have:=h.inj g
 subst this
 rw [<- hs.len,<- gs.len]) ⟨d0,T,n,h,hs,hn,hb,rfl,rfl⟩
theorem xQ {n:Nat} {c:Nat->Nat->Bn} (hd:∀ i,i < n->c i i=b0):∀ m,m<=n->(∀ k,k < m->rgt n (dm c k) (pw c k) k=.non)->St n c m
 | 0,_,_=>vf hd
 | m+1,hm,h=>vg (xQ hd m (by omega) fun k hk=>h k (by omega)) (by omega) (vo (h m (by omega)))
theorem AO {k:Nat} {fm:FM} {δ δ':DS} {ds:List D} {d:D} (h:fm δ=some (.tup ds,δ')) (g:ds[k]? = some d):xN k fm δ=some (d,δ'):=by
 unfold xN
 rw [h]
 show (ds[k]?).map _=_
 rw [g]
 rfl
def opD:Option (Int×Int)->D
 | none=>.non
 | some p=>fr p
theorem k8 {p q:Int×Int} (h:fr p=fr q):p=q:=by
 obtain ⟨a,b⟩:=p
 obtain ⟨c,e⟩:=q
 cases h;rfl
theorem vJ {a b:Option (Int×Int)} (h:opD a=opD b):a=b:=by
 cases a with
 | none=>cases b with
  | none=>rfl
  | some q=>cases h
 | some p=>cases b with
  | none=>cases h
  | some q=>rw [k8 h]
abbrev Hs (o:Option (Int×Int)):Prop:=∀ p,o=some p->Fr 1900 p
def gz (ds:List D) (d:D):Prop:=∃ lo hi,Hs lo/\Hs hi/\ds=[opD lo,opD hi]/\d=fr (btw lo hi)
theorem lN {lo hi:Option (Int×Int)} (h1:Hs lo) (h2:Hs hi):fn gz [opD lo,opD hi]=some (fr (btw lo hi)):=bG (fun d' h'=>by
 obtain ⟨a,b,_,_,e,rfl⟩:=h'
 injection e with e1 e2
 injection e2 with e2 _
 rw [vJ e1,vJ e2]) ⟨lo,hi,h1,h2,rfl,rfl⟩
def gP (ds:List D) (d:D):Prop:=∃ (x:D) (ps:List (Int×Int)),asL x=some (ps.map fr)/\(∀ p∈ps,Fk p)/\ds=[x]/\d=opD (gre ps none)
def rR (ds:List D) (d:D):Prop:=∃ (x:D) (ps:List (Int×Int)),asL x=some (ps.map fr)/\(∀ p∈ps,Fk p)/\ds=[x]/\d=opD (lea ps none)
theorem oP {x:D} {ps:List (Int×Int)} (hx:asL x=some (ps.map fr)) (h:∀ p∈ps,Fk p):fn gP [x]=some (opD (gre ps none)):=bG (fun d' h'=>by
 obtain ⟨y,a,hy,_,e,rfl⟩:=h'
 injection e with e1 _
 subst e1
 rw [hx] at hy
 injection hy with hy
 rw [nr hy]) ⟨x,ps,hx,h,rfl,rfl⟩
theorem AE {x:D} {ps:List (Int×Int)} (hx:asL x=some (ps.map fr)) (h:∀ p∈ps,Fk p):fn rR [x]=some (opD (lea ps none)):=bG (fun d' h'=>by
 obtain ⟨y,a,hy,_,e,rfl⟩:=h'
 injection e with e1 _
 subst e1
 rw [hx] at hy
 injection hy with hy
 rw [nr hy]) ⟨x,ps,hx,h,rfl,rfl⟩
def plD (ps:Pl):D:=.mf (ps.map fun p=>((p.1:Nat):Int)) (ps.map fun p=>fr p.2)
theorem nN:∀ (ps:Pl),shs (ps.map fun p=>fr p.2)=ps.map fun p=>fr p.2
 | []=>rfl
 | p :: ps=>by
  show sh (fr p.2) :: shs (ps.map fun p=>fr p.2)=_
  rw [nN ps];rfl
theorem ul (ps:Pl):sh (plD ps)=plD ps:=by unfold plD;rw [sh,nN]
theorem qN:∀ {ps qs:Pl},plD ps=plD qs->ps=qs
 | [],[],_=>rfl
 | [],_ :: _,h=>by injection h with h _;cases h
 | _ :: _,[],h=>by injection h with h _;cases h
 | p :: ps,q :: qs,h=>by
  injection h with h1 h2
  rw [Zq,Zq] at h1 h2
  injection h1 with a1 a2
  injection h2 with b1 b2
  have e:=qN (ps:=ps) (qs:=qs) (by unfold plD;rw [a2,b2])
  have e1:p.1=q.1:=by omega
  have e2:p.2=q.2:=k8 b1
  rw [e,show p=q from Prod.ext e1 e2]
theorem vQ:∀ {ps:Pl} {t:Nat} {v:Int×Int},(ps.map (·.1)).Nodup->(t,v)∈ps->lk (ps.map fun p=>((p.1:Nat):Int)) (ps.map fun p=>fr p.2) (t:Int)=some (fr v)
 | [],_,_,_,m=>by cases m
 | p :: ps,t,v,nd,m=>by
  rw [Zq,List.nodup_cons] at nd
  rw [Zq,Zq,re]
  rcases Zp.mp m with z | z
  . rw [<- z,if_pos rfl]
  . have h:p.1 ≠ t:=fun e=>nd.1 (Zm.mpr ⟨_,z,e.symm⟩)
    rw [if_neg (by omega)]
    exact vQ nd.2 z
theorem za {ps:Pl} {t:Nat} {v:Int×Int} (nd:(ps.map (·.1)).Nodup) (m:(t,v)∈ps):tM (plD ps) (.int (t:Int))=some (fr v):=vQ nd m
theorem lW {α:Type} {F:D->Option (Option D)} {f:α->D} {h:α->Option D}:∀ {xs:List α},(∀ x∈xs,F (f x)=some (h x))->gR F (xs.map f)=some (xs.filterMap h)
 | [],_=>rfl
 | x :: xs,q=>by
  rw [Zq,List.filterMap_cons]
  have ih:=lW (F:=F) (f:=f) (h:=h) (xs:=xs) fun y m=>q y (Zk _ m)
  have e:=q x Zj
  show ((F (f x)).bind _)=_
  rw [e]
  show ((gR F (xs.map f)).bind _)=_
  rw [ih]
  cases h x <;> rfl
theorem ig {α:Type} {src:FA} {n:Nat} {js:List Nat} {g:D->DS->Option DS} {fc:FT} {felt:FM} {δ:DS} {f:α->D} {h:α->Option D} {xs:List α} (hs:src δ=some (xs.map f)) (ht:∀ x∈xs,eE n js g fc felt δ (f x)=some (h x)) (hl:xs.length<=1000):fY src n js g fc felt δ=some (.lst (xs.filterMap h),δ):=by
 unfold fY
 rw [hs]
 show ((gR (eE n js g fc felt δ) (xs.map f)).bind _)=_
 rw [lW ht]
 exact if_pos (Nat.le_trans (List.length_filterMap_le _ _) hl)
theorem nH {n:Nat} {js:List Nat} {g:D->DS->Option DS} {fc:FT} {felt:FM} {δ δ1:DS} {d:D} (h1:g d (fZ n (bz js δ))=some δ1) (h2:fc δ1=some false):eE n js g fc felt δ d=some none:=by
 unfold eE
 rw [h1]
 show ((fc δ1).bind _)=_
 rw [h2]
 rfl
structure Vb (T:List (List Bn)) (n:Nat) (ps:Pl) (t:Nat):Prop where
 sq:Sq T n
 ht:t < n
 lt:∀ p∈ps,p.1 < n
 nd:(ps.map (·.1)).Nodup
 len:ps.length<=41
 fr:∀ p∈ps,Fr 900 p.2
 bd:∀ i j,Bk 850 (aj T i j)
def cR (ds:List D) (d:D):Prop:=∃ T n ps t,Vb T n ps t/\ds=[aq T,plD ps,.int ((t:Nat):Int)]/\d=fr (eD (aj T) ps t)
theorem oM {T:List (List Bn)} {n:Nat} {ps:Pl} {t:Nat} (h:Vb T n ps t):fn cR [aq T,plD ps,.int ((t:Nat):Int)]=some (fr (eD (aj T) ps t)):=bG (fun d' h'=>by
 obtain ⟨T',n',ps',t',_,e,rfl⟩:=h'
 injection e with e1 e
 injection e with e2 e
 injection e with e3 _
 injection e3 with e3
 rw [kA e1,qN e2,show t=t' by omega]) ⟨T,n,ps,t,h,rfl,rfl⟩
theorem zf {n:Int} (h:Sm 850 n):Flw (n,1):=⟨⟨by show (0:Int) < 1;decide,h.mono (by decide),Nat.one_lt_two_pow (by decide)⟩,(gK (M:=n.natAbs) (by omega) (by omega) (W:=1) (by decide)).lw⟩
theorem uN {n:Int} (h:Sm 850 n):Fr 900 (n,1):=⟨(gK (M:=n.natAbs) (by omega) (by omega) (W:=1) (by decide)).lw,h.mono (by decide),Nat.one_lt_two_pow (by decide)⟩
theorem low_fr {T:List (List Bn)} {n:Nat} {ps:Pl} {t:Nat} (h:Vb T n ps t):∀ g∈eu (aj T) ps t,Fr 1900 g:=fun g m=>by
 obtain ⟨p,mp,e⟩:=List.mem_filterMap.mp m
 have b:=h.bd p.1 t
 rcases q:aj T p.1 t with _ | ⟨k,s⟩
 . rw [q] at e;cases e
 . rw [q] at e b
   cases e
   exact ((h.fr p mp).mi (uN b)).mono (by decide)
theorem Av {T:List (List Bn)} {n:Nat} {ps:Pl} {t:Nat} (h:Vb T n ps t):∀ g∈dM (aj T) ps t,Fr 1900 g:=fun g m=>by
 obtain ⟨p,mp,e⟩:=List.mem_filterMap.mp m
 have b:=h.bd t p.1
 rcases q:aj T t p.1 with _ | ⟨k,s⟩
 . rw [q] at e;cases e
 . rw [q] at e b
   cases e
   exact ((h.fr p mp).pl (uN b)).mono (by decide)
def plO (ps:Pl):D:=.md (ps.map fun p=>((p.1:Nat):Int)) (ps.map fun p=>fr p.2)
def plS (ps:Pl):D:=.ms (ps.map fun p=>((p.1:Nat):Int)) (ps.map fun p=>fr p.2)
theorem xT (ps:Pl):sh (plO ps)=plS ps:=by unfold plO plS;rw [sh,nN]
theorem zW {ps qs:Pl} (h:plS ps=plS qs):ps=qs:=qN (by injection h with h1 h2;unfold plD;rw [h1,h2])
theorem qd:∀ (ps:Pl),cn (ps.map fun p=>fr p.2)=true
 | []=>rfl
 | p :: ps=>by
  show (imm (fr p.2) && cn (ps.map fun p=>fr p.2))=true
  rw [qd ps];rfl
theorem uG:∀ (ps:Pl) (t:Nat),(lk (ps.map fun p=>((p.1:Nat):Int)) (ps.map fun p=>fr p.2) (t:Int)).isSome=decide (has ps t)
 | [],t=>by
  rw [decide_eq_false (fun ⟨v,m⟩=>nomatch m)];rfl
 | p :: ps,t=>by
  rw [Zq,Zq,re]
  by_cases h:p.1=t
  . rw [if_pos (by omega),decide_eq_true (show has (p :: ps) t from ⟨p.2,by rw [<- h];exact Zj⟩)];rfl
  . rw [if_neg (by omega),uG ps t]
    by_cases g:has ps t
    . obtain ⟨v,m⟩:=g
      rw [decide_eq_true (show has ps t from ⟨v,m⟩),decide_eq_true (show has (p :: ps) t from ⟨v,Zk _ m⟩)]
    . rw [decide_eq_false g,decide_eq_false fun ⟨v,m⟩=>by
       rcases Zp.mp m with z | z
       . exact h (by rw [<- z])
       . exact g ⟨v,z⟩]
structure Fi (T:List (List Bn)) (n:Nat) (ps:Pl):Prop where
 sq:Sq T n
 n0:0 < n
 n1:n<=41
 vb:∀ m,m < n->Vb T n (br (aj T) ps m) m
 fr:∀ p∈br (aj T) ps n,Fr 900 p.2
 nd:((br (aj T) ps n).map (·.1)).Nodup
 all:∀ t,t < n->has (br (aj T) ps n) t
def fpt (T:List (List Bn)) (n:Nat) (ps:Pl):List (Int×Int):=(List.range (n - 1)).map fun i=>mi (atP (br (aj T) ps n) (i+1)) (atP (br (aj T) ps n) 0)
def lm (ds:List D) (d:D):Prop:=∃ d0 d1 T n ps,IsT d0 T/\sh d1=plS ps/\Fi T n ps/\ds=[d0,d1]/\d=.lst ((fpt T n ps).map fr)
theorem tT {d0 d1:D} {T:List (List Bn)} {n:Nat} {ps:Pl} (h0:IsT d0 T) (h1:sh d1=plS ps) (h:Fi T n ps):fn lm [d0,d1]=some (.lst ((fpt T n ps).map fr)):=bG (fun d' h'=>by
 obtain ⟨e0,e1,T',n',ps',g0,g1,g,e,rfl⟩:=h'
 injection e with a1 e
 injection e with a2 _
 subst a1 a2
 have t1:=IsT.inj h0 g0
 subst t1
 have t2:=zW (h1.symm.trans g1)
 subst t2
 have t3:n=n':=h.sq.len.symm.trans g.sq.len
 subst t3
 rfl) ⟨d0,d1,T,n,ps,h0,h1,h,rfl,rfl⟩
theorem wT {g:FA} {δ:DS} {i j:Int} (h:g δ=some [.int i,.int j]) (h0:0<=i) (h1:i<=1000) (h2:0<=j) (h3:j<=1000):pF g δ=some ((List.range (j - i).toNat).map fun k=>D.int (i+((k:Nat):Int))):=by
 unfold pF
 rw [h]
 show (if -(2 ^ 62)<=i/\i < 2 ^ 62/\-(2 ^ 62)<=j/\j < 2 ^ 62 then some ((List.range (j - i).toNat).map fun k=>D.int (i+((k:Nat):Int))) else none)=_
 rw [if_pos (by omega)]
theorem wS {g:FA} {δ:DS} {n:Nat} (h:g δ=some [.int 1,.int (n:Int)]) (h0:0 < n) (h1:n<=1000):pF g δ=some ((List.range (n - 1)).map fun (i:Nat)=>D.int (((i+1:Nat)):Int)):=by
 rw [wT h (by decide) (by decide) (by omega) (by omega),show ((n:Int) - 1).toNat=n - 1 by omega]
 refine congrArg some (List.map_congr_left fun i _=>?_)
 rw [show (1:Int)+((i:Nat):Int)=((i+1:Nat):Int) by omega]
theorem AC {d:Nat->Nat->Bn} {ps:Pl} {m:Nat} (h:¬ has (br d ps m) m):br d ps (m+1)=br d ps m++[(m,eD d (br d ps m) m)]:=if_neg h
theorem zh {d:Nat->Nat->Bn} {ps:Pl} {m:Nat} (h:has (br d ps m) m):br d ps (m+1)=br d ps m:=if_pos h
theorem qe {d:Nat->Nat->Bn} {n:Nat} (dia:∀ i,i < n+1->d i i=b0):uc d (n+1) [(0,(0,1))] (fun _=>0):=by
 refine ⟨fun p m=>?_,by simp,fun p m=>?_,fun p m=>?_,fun p mp q mq=>?_⟩
 . rw [Zl.mp m];exact Nat.succ_pos n
 . rw [Zl.mp m];show (0:Int) < 1;decide
 . rw [Zl.mp m];show (0:Rat)=vl (0,1);rw [cN];rfl
 . rw [Zl.mp mp,Zl.mp mq]
   show Kq (0 - 0) (d 0 0)
   rw [dia 0 (Nat.succ_pos n)]
   show (0:Rat) - 0<=((0:Int):Rat)
   grind
theorem rJ {k:Nat} {c:Nat->Nat->Bn} (h:∀ i j,Bk k (c i j)):∀ (m i j:Nat),Bk (k+m) (dm c m i j)
 | 0,i,j=>h i j
 | m+1,i,j=>by
  rcases l4 (c:=c) m i j with e | e
  . rw [e];exact (rJ h m i j).mono (by omega)
  . rw [e];exact (rJ h m i m).sum (rJ h m m j)
theorem Ct {k:Nat} (hk:1<=k) {T:List (List Bn)} (h:∀ i j,Bk k (aj T i j)) (i j:Nat):Bk k (cz T i j):=by
 unfold cz
 split
 . show Sm k 0
   exact Sm.mono (k:=1) (show (0:Int).natAbs < 2 ^ 1 by decide) hk
 . exact h i j
theorem AJ {k n:Nat} {f:Nat->Nat->Bn} (h:∀ i j,Bk k (f i j)) (i j:Nat):Bk k (aj (aZ n f) i j):=by
 unfold aj
 rw [Zr,Zr]
 cases q:(aZ n f)[i]? with
 | none=>trivial
 | some r =>
  rw [Option.getD_some]
  have m:=List.mem_of_getElem? q
  unfold aZ at m
  obtain ⟨a,_,rfl⟩:=Zm.mp m
  cases p:(sk n (f a))[j]? with
  | none=>trivial
  | some b =>
   have m2:=List.mem_of_getElem? p
   unfold sk at m2
   obtain ⟨c,_,rfl⟩:=Zm.mp m2
   exact h a c
theorem zx {k:Nat} {b:Bn} (h:Bk k b):Bo (2 ^ k) b:=by
 rcases b with _ | ⟨n,s⟩
 . trivial
 . have h':n.natAbs < 2 ^ k:=h
   have c1:((2 ^ k:Nat):Int)=2 ^ k:=by rw [Int.natCast_pow];rfl
   show -(2 ^ k)<=n/\n<=2 ^ k
   omega
structure Cld (n:Nat) (T U:List (List Bn)):Prop where
 sq:Sq U n
 cl:fg n T=.tup [.str "table",aw U]
 dia:∀ i,i < n->aj U i i=b0
 clo:∀ k i j,k < n->i < n->j < n->Le (aj U i j) (bs (aj U i k) (aj U k j))
 li:∀ x,Li (aj T) n x <-> Li (aj U) n x
 is:U=aZ n (dm (cz T) n)
theorem yQ {c d:Nat->Nat->Bn} {n:Nat} {x:Nat->Rat} (e:∀ i j,i < n->j < n->c i j=d i j):Li c n x <-> Li d n x :=
 ⟨fun h i j hi hj=>by rw [<- e i j hi hj];exact h i j hi hj,fun h i j hi hj=>by rw [e i j hi hj];exact h i j hi hj⟩
theorem A7 {T:List (List Bn)} {n:Nat} {x:Nat->Rat} (dg:∀ i,i < n->Nn (aj T i i)):Li (aj T) n x <-> Li (cz T) n x:=by
 constructor
 . intro h i j hi hj
   unfold cz
   split
   . rename_i e
     subst e
     show x i - x i<=((0:Int):Rat)
     grind
   . exact h i j hi hj
 . intro h i j hi hj
   have:=h i j hi hj
   unfold cz at this
   split at this
   . rename_i e
     subst e
     have e2:x i - x i=0:=by grind
     rw [e2,k5]
     exact dg i hi
   . exact this
theorem iY (T:List (List Bn)) (n:Nat):(∃ r,fg n T=.tup [.str "ring",.lst (bP r)]/\∀ x,¬ Li (aj T) n x) \/ ∃ U,Cld n T U:=by
 cases h1:aW (rO T) [] (List.range n) with
 | some d =>
  obtain ⟨a,t,b,e,h2,_⟩:=cj h1
  have ht:t < n:=by have:=bE e;omega
  unfold rO at h2
  split at h2
  . cases h2
  . rename_i q
    cases h2
    refine .inl ⟨[t],?_,fun x hx=>q (nn_kp.mpr (Ak ht hx))⟩
    unfold fg
    rw [h1]
    rfl
 | none =>
  have dg:∀ i,i < n->Nn (aj T i i):=fun i hi=>by
   obtain ⟨a,b,e⟩:=List.append_of_mem (Zn.mpr hi)
   have:=fP h1 a i b e
   unfold rO at this
   split at this
   . rename_i q;exact nn_kp.mp q
   . cases this
  have hd:∀ i,i < n->cz T i i=b0:=fun i _=>if_pos rfl
  cases h3:aW (rP n (cz T)) [] (List.range n) with
  | some d =>
   obtain ⟨a,m,b,e,h2,h4⟩:=cj h3
   obtain ⟨rfl,hm⟩:=bE e
   generalize a.length=m at *
   unfold rP at h2
   rcases qG (n:=n) (m:=m) (dm (cz T) m) (pw (cz T) m) with z | ⟨t,ht,z,bad⟩
   . rw [z] at h2;cases h2
   . rw [z] at h2
     cases h2
     refine .inl ⟨pw (cz T) m t m++pw (cz T) m m t,?_,fun x hx=>Ds hm ht bad ((A7 dg).mp hx)⟩
     unfold fg
     rw [h1]
     dsimp only
     rw [h3]
  | none =>
   have ok:∀ k,k < n->rgt n (dm (cz T) k) (pw (cz T) k) k=.non:=fun k hk=>by
    obtain ⟨a,b,e⟩:=List.append_of_mem (Zn.mpr hk)
    have:=fP h3 a k b e
    unfold rP at this
    rcases qG (n:=n) (m:=k) (dm (cz T) k) (pw (cz T) k) with z | ⟨t,_,z,_⟩
    . exact z
    . rw [z] at this;cases this
   have st:=xQ hd n (Nat.le_refl n) ok
   have ec:∀ i j,i < n->j < n->aj (aZ n (dm (cz T) n)) i j=dm (cz T) n i j:=fun i j hi hj=>bV _ hi hj
   refine .inr ⟨aZ n (dm (cz T) n),bQ n _,?_,fun i hi=>?_,fun k i j hk hi hj=>?_,fun x=>?_,rfl⟩
   . unfold fg
     rw [h1]
     dsimp only
     rw [h3]
   . rw [ec i i hi hi];exact st.fw.dia i hi
   . rw [ec i j hi hj,ec i k hi hk,ec k j hk hj];exact st.fw.clo k hk i j hi hj
   . rw [A7 dg,yQ ec]
     exact ⟨fun h=>yP h n (Nat.le_refl n),yO⟩
theorem rL {U:List (List Bn)} {n:Nat} (sq:Sq U n) (dia:∀ i,i < n->aj U i i=b0) (clo:∀ k i j,k < n->i < n->j < n->Le (aj U i j) (bs (aj U i k) (aj U k j))):fg n U=.tup [.str "table",aw U]:=by
 have ez:∀ i j,i < n->j < n->cz U i j=aj U i j:=fun i j hi _=>by
  unfold cz
  split
  . rename_i e
    subst e
    exact (dia i hi).symm
  . rfl
 have dz:∀ m,m<=n->∀ i j,i < n->j < n->dm (cz U) m i j=cz U i j:=qi (fun i _=>if_pos rfl) (fun k i j hk hi hj=>by rw [ez i j hi hj,ez i k hi hk,ez k j hk hj];exact clo k i j hk hi hj)
 rcases iY U n with ⟨r,_,no⟩ | ⟨V,c⟩
 . exfalso
   obtain ⟨x,hx⟩:∃ x,Li (aj U) n x:=by
    cases n with
    | zero=>exact ⟨fun _=>0,fun i j hi _=>absurd hi (Nat.not_lt_zero i)⟩
    | succ n=>exact ⟨_,wc (ps:=[(0,(0,1))]) (Nat.succ_pos n) dia clo ⟨fun _=>0,qe dia⟩⟩
   exact no x hx
 . have:V=U:=c.is.trans (mK (bQ n _) sq fun i j hi hj=>by rw [bV _ hi hj,dz n (Nat.le_refl n) i j hi hj,ez i j hi hj])
   rw [this] at c
   exact c.cl
theorem Cld.bk {n k:Nat} {T U:List (List Bn)} (c:Cld n T U) (hk:1<=k) (h:∀ i j,Bk k (aj T i j)) (i j:Nat):Bk (k+n) (aj U i j):=by
 rw [c.is]
 exact AJ (rJ (Ct hk h) n) i j
structure Beg (U:List (List Bn)) (n:Nat) (ps:Pl):Prop where
 good:∃ x,uc (aj U) n ps x
 dy:∃ W M:Int,0 < W/\0<=M/\W<=2 ^ 240/\M<=2 ^ 602/\∀ p∈ps,Dy W M p.2
theorem qg {U:List (List Bn)} {ps:Pl} {n:Nat} (bk:∀ i j,Bk 600 (aj U i j)) (b:Beg U n ps) (m:Nat) (hm:m<=41):∃ W M:Int,W<=2 ^ 281/\M<=2 ^ 607/\∀ p∈br (aj U) ps m,Dy W M p.2:=by
 obtain ⟨W,M,h1,h2,h3,h4,h5⟩:=b.dy
 have p1:(0:Int) < 2 ^ 600:=cX 600
 have f:=wd h1 (Int.le_of_lt p1) h2 (fun i j=>zx (bk i j)) h5 m
 refine ⟨_,_,?_,?_,f⟩
 . have e1:(2:Int) ^ m<=2 ^ 41:=by
    have:=Nat.pow_le_pow_right (n:=2) (by decide) hm
    have c1:((2 ^ m:Nat):Int)=2 ^ m:=by rw [Int.natCast_pow];rfl
    have c2:((2 ^ 41:Nat):Int)=2 ^ 41:=by rw [Int.natCast_pow];rfl
    omega
   have e2:W*2 ^ m<=W*2 ^ 41:=Int.mul_le_mul_of_nonneg_left e1 (Int.le_of_lt h1)
   have e3:W*2 ^ 41<=2 ^ 240*2 ^ 41:=Int.mul_le_mul_of_nonneg_right h3 (Int.le_of_lt (cX 41))
   have e4:(2:Int) ^ 240*2 ^ 41=2 ^ 281:=by rw [<- Int.pow_add]
   omega
 . have e1:(m:Int)*(2 ^ 600+1)<=41*(2 ^ 600+1):=Int.mul_le_mul_of_nonneg_right (by omega) (by omega)
   have e4:(2:Int) ^ 607=128*2 ^ 600:=by rw [show (607:Nat)=7+600 from rfl,Int.pow_add];rfl
   have e5:(2:Int) ^ 602=4*2 ^ 600:=by rw [show (602:Nat)=2+600 from rfl,Int.pow_add];rfl
   rw [e5] at h4
   rw [e4]
   generalize (2:Int) ^ 600=z at *
   omega
theorem Be {U:List (List Bn)} {n:Nat} {ps:Pl} (sq:Sq U n) (n0:0 < n) (n1:n<=41) (bk:∀ i j,Bk 600 (aj U i j)) (dia:∀ i,i < n->aj U i i=b0) (clo:∀ k i j,k < n->i < n->j < n->Le (aj U i j) (bs (aj U i k) (aj U k j))) (b:Beg U n ps):Fi U n ps:=by
 have g:=fun m hm=>jO dia clo b.good m hm
 have d:=fun m hm=>qg bk b m hm
 refine ⟨sq,n0,n1,fun m hm=>?_,fun p mp=>?_,?_,(g n (Nat.le_refl n)).2.1⟩
 . obtain ⟨⟨x,gx⟩,_,_⟩:=g m (by omega)
   obtain ⟨W,M,a1,a2,a3⟩:=d m (by omega)
   refine ⟨sq,hm,gx.lt,gx.nd,?_,fun p mp=>zo (a3 p mp) a1 a2 (by decide),fun i j=>(bk i j).mono (by decide)⟩
   have:=lH n _ gx.nd (fun x m=>by obtain ⟨p,mp,rfl⟩:=Zm.mp m;exact gx.lt p mp)
   rw [Zi] at this
   omega
 . obtain ⟨W,M,a1,a2,a3⟩:=d n n1
   exact zo (a3 p mp) a1 a2 (by decide)
 . obtain ⟨⟨x,gx⟩,_,_⟩:=g n (Nat.le_refl n)
   exact gx.nd
theorem vS (T:List (List Bn)) (n:Nat) (ps:Pl):(fpt T n ps).length=n - 1:=by unfold fpt;rw [Zi,List.length_range]
theorem ze {U:List (List Bn)} {n:Nat} {ps:Pl} (n1:n<=41) (bk:∀ i j,Bk 600 (aj U i j)) (h:Fi U n ps) (b:Beg U n ps):∀ p∈fpt U n ps,Fr 900 p:=fun p m=>by
 unfold fpt at m
 obtain ⟨i,mi',rfl⟩:=Zm.mp m
 have hi:=Zn.mp mi'
 obtain ⟨W,M,a1,a2,a3⟩:=qg bk b n n1
 obtain ⟨v,mv⟩:=h.all (i+1) (by omega)
 obtain ⟨z,mz⟩:=h.all 0 h.n0
 rw [gM h.nd mv,gM h.nd mz]
 refine zo (a:=281) (b:=608) ((a3 _ mv).mi (a3 _ mz)) a1 ?_ (by decide)
 have e4:(2:Int) ^ 608=2*2 ^ 607:=by rw [show (608:Nat)=1+607 from rfl,Int.pow_add];rfl
 rw [e4]
 generalize (2:Int) ^ 607=z at *
 omega
theorem jA {U:List (List Bn)} {n:Nat} {ps:Pl} (h:Fi U n ps) {i:Nat} (hi:i < n):vl (bN (fpt U n ps) i)=vl (mi (atP (br (aj U) ps n) i) (atP (br (aj U) ps n) 0)):=by
 cases i with
 | zero =>
  obtain ⟨z,mz⟩:=h.all 0 h.n0
  rw [gM h.nd mz]
  have hp:=(h.fr _ mz).pos
  rw [jR hp hp]
  show vl (0,1)=_
  rw [cN]
  show ((0:Int):Rat)=_
  have:((0:Int):Rat)=0:=rfl
  rw [this]
  grind
 | succ i =>
  unfold bN cV fpt
  rw [List.getD_cons_succ,Zr,List.getElem?_map,List.getElem?_range (by omega)]
  rfl
theorem vR {T:List (List Bn)} {ps:List (Int×Int)} {k:Nat} (hk:1<=k) (h:∀ p∈ps,Fr k p):kZ T ps=true <-> Li (aj T) (ps.length+1) (fun i=>vl (bN ps i)):=by
 have key:∀ i j,kp (dif ps i j) (aj T i j)=true <-> Kq (vl (bN ps i) - vl (bN ps j)) (aj T i j):=fun i j=>by
  rw [A8 (AG hk h i j).pos]
  unfold dif
  rw [jR (fR hk h i).pos (fR hk h j).pos]
 unfold kZ
 rw [List.all_eq_true]
 constructor
 . intro a i j hi hj
   have:=a i (Zn.mpr hi)
   rw [List.all_eq_true] at this
   exact (key i j).mp (this j (Zn.mpr hj))
 . intro a i mi
   rw [List.all_eq_true]
   intro j mj
   exact (key i j).mpr (a i j (Zn.mp mi) (Zn.mp mj))
theorem tQ {U:List (List Bn)} {n:Nat} {ps:Pl} (n1:n<=41) (bk:∀ i j,Bk 600 (aj U i j)) (dia:∀ i,i < n->aj U i i=b0) (clo:∀ k i j,k < n->i < n->j < n->Le (aj U i j) (bs (aj U i k) (aj U k j))) (h:Fi U n ps) (b:Beg U n ps):Li (aj U) n (fun i=>vl (bN (fpt U n ps) i)):=by
 have f:=wc h.n0 dia clo b.good
 intro i j hi hj
 have:=f i j hi hj
 show Kq (vl (bN (fpt U n ps) i) - vl (bN (fpt U n ps) j)) _
 rw [jA h hi,jA h hj]
 exact this
theorem oY {U:List (List Bn)} {n:Nat} (n0:0 < n) (dia:∀ i,i < n->aj U i i=b0):Beg U n [(0,(0,1))]:=by
 obtain ⟨m,rfl⟩:∃ m,n=m+1:=⟨n - 1,by omega⟩
 have t1:(1:Int)<=2 ^ 240:=by have:=cX 240;omega
 refine ⟨⟨_,qe dia⟩,1,0,by decide,Int.le_refl 0,t1,Int.le_of_lt (cX 602),fun p m=>?_⟩
 rw [Zl.mp m]
 exact gK (by decide) (by decide) (by decide)
def cM (ds:List D) (d:D):Prop:=∃ (d0:D) (T U:List (List Bn)) (n:Nat),IsT d0 T/\Sq T n/\n<=41/\(∀ i j,Bk 2000 (aj T i j))/\Cld n T U/\ds=[d0]/\d=aw U
theorem gi {d0:D} {T U:List (List Bn)} {n:Nat} (h:IsT d0 T) (hs:Sq T n) (hn:n<=41) (hb:∀ i j,Bk 2000 (aj T i j)) (c:Cld n T U):fn cM [d0]=some (aw U):=bG (fun d' h'=>by
 obtain ⟨d1,T',U',m,g,gs,_,_,c',h2,rfl⟩:=h'
 cases h2
 have:=h.inj g
 subst this
 have e:m=n:=by rw [<- hs.len,<- gs.len]
 subst e
 rw [c.is,c'.is]) ⟨d0,T,U,n,h,hs,hn,hb,c,rfl,rfl⟩
abbrev ps0:Pl:=[(0,(0,1))]
def gO (ds:List D) (d:D):Prop:=∃ (d0:D) (T U:List (List Bn)) (n:Nat),IsT d0 T/\Sq T n/\0 < n/\n<=41/\(∀ i j,Bk 550 (aj T i j))/\Cld n T U/\ds=[d0]/\d=.lst ((fpt U n ps0).map fr)
theorem uR {d0:D} {T U:List (List Bn)} {n:Nat} (h:IsT d0 T) (hs:Sq T n) (n0:0 < n) (hn:n<=41) (hb:∀ i j,Bk 550 (aj T i j)) (c:Cld n T U):fn gO [d0]=some (.lst ((fpt U n ps0).map fr)):=bG (fun d' h'=>by
 obtain ⟨d1,T',U',m,g,gs,_,_,_,c',h2,rfl⟩:=h'
 cases h2
 have:=h.inj g
 subst this
 have e:m=n:=by rw [<- hs.len,<- gs.len]
 subst e
 rw [c.is,c'.is]) ⟨d0,T,U,n,h,hs,n0,hn,hb,c,rfl,rfl⟩
theorem Cld.bk600 {n:Nat} {T U:List (List Bn)} (c:Cld n T U) (hn:n<=41) (h:∀ i j,Bk 550 (aj T i j)) (i j:Nat):Bk 600 (aj U i j):=(c.bk (by decide) h i j).mono (by omega)
theorem Cld.fi {n:Nat} {T U:List (List Bn)} (c:Cld n T U) (n0:0 < n) (hn:n<=41) (h:∀ i j,Bk 550 (aj T i j)):Fi U n ps0:=Be c.sq n0 hn (c.bk600 hn h) c.dia c.clo (oY n0 c.dia)
structure EOk (e:Int×Int):Prop where
 p1:0 < e.1
 fr:Fr 240 e
 sm:e.1*e.2<=2 ^ 230
theorem EOk.p2 {e:Int×Int} (h:EOk e):0 < e.2:=h.fr.pos
def fW (ds:List D) (d:D):Prop:=∃ (bound back:Bn) (e:Int×Int),Bk 800 bound/\Bk 800 back/\EOk e/\ds=[bdD bound,bdD back,fr e]/\d=fr (io bound back e)
theorem tU {bound back:Bn} {e:Int×Int} (h1:Bk 800 bound) (h2:Bk 800 back) (h3:EOk e):fn fW [bdD bound,bdD back,fr e]=some (fr (io bound back e)):=bG (fun d' h'=>by
 obtain ⟨b',k',e',_,_,_,q,rfl⟩:=h'
 injection q with q1 q
 injection q with q2 q
 injection q with q3 _
 rw [hU q1,hU q2,k8 q3]) ⟨bound,back,e,h1,h2,h3,rfl,rfl⟩
theorem nu {n:Int} (h:Sm 800 n):Fr 900 (n,1):=uN (h.mono (by decide))
theorem Aj {back:Bn} (h:Bk 800 back):∀ p∈fF back,Fr 900 p:=fun p m=>by
 rcases back with _ | ⟨k,s⟩
 . cases m
 . rw [Zl.mp m]
   exact nu (show Sm 800 (-k) from Sm.neg h)
theorem Cg {e:Int×Int} (h:EOk e):Fr 900 (low e.2 e.1):=(Mth.low_fr (by have:=h.p1;omega) h.fr.s2 h.fr.s1).mono (by decide)
theorem wE (xs ys:List (Int×Int)) (h:xs.length+ys.length<=1000):bi (.lst (xs.map fr)) (.lst (ys.map fr))=some (.lst ((xs++ys).map fr)):=by
 rw [List.map_append]
 show (Cj (.lst (xs.map fr)) (.lst (ys.map fr)))=_
 show (if (xs.map fr).length+(ys.map fr).length<=1000 then some (D.lst (xs.map fr++ys.map fr)) else none)=_
 rw [Zi,Zi,if_pos h]
theorem sX (back:Bn):(fF back).length<=1:=by rcases back with _ | ⟨k,s⟩ <;> simp [fF]
theorem wf {back:Bn} {q:Int×Int} (h:Bk 800 back) (hq:Fr 1801 q):fn gP [.lst ((fF back++[q]).map fr)]=some (opD (gre (fF back++[q]) none))/\Hs (gre (fF back++[q]) none):=by
 have a:∀ p∈fF back++[q],Fr 1801 p:=fun p m=>by
  rcases Zo.mp m with z | z
  . exact (Aj h p z).mono (by decide)
  . rw [Zl.mp z];exact hq
 refine ⟨oP rfl fun p m=>Fk.of (a p m),fun p e=>?_⟩
 rcases iR e with z | z
 . exact (a p z).mono (by decide)
 . cases z
def psF (U:List (List Bn)) (i j:Nat) (e:Int×Int):Pl:=if i=j then [(i,io (aj U i j) (aj U j i) e)] else [(j,(0,1)),(i,io (aj U i j) (aj U j i) e)]
theorem zV (U:List (List Bn)) (i j:Nat) (e:Int×Int):(i,io (aj U i j) (aj U j i) e)∈psF U i j e:=by
 unfold psF
 split
 . exact Zj
 . exact Zk _ Zj
theorem zz (e:Int×Int):io b0 b0 e=(0,1):=rfl
theorem D6 {U:List (List Bn)} {n i j:Nat} {e:Int×Int} (he:EOk e) (hi:i < n) (hj:j < n) (bk:∀ i j,Bk 600 (aj U i j)) (dia:∀ i,i < n->aj U i i=b0) (clo:∀ k i j,k < n->i < n->j < n->Le (aj U i j) (bs (aj U i k) (aj U k j))):Beg U n (psF U i j e):=by
 have nn:Nn (bs (aj U i j) (aj U j i)):=by
  have:=clo j i i hj hi hi
  rw [dia i hi] at this
  exact this
 obtain ⟨f1,f2,f3,_⟩:=zi he.p1 he.p2 nn
 obtain ⟨v,hv⟩:∃ v,v=io (aj U i j) (aj U j i) e:=⟨_,rfl⟩
 have fd:=Cq (N:=2 ^ 600) he.p1 he.p2 he.fr.lw (Int.le_of_lt (cX 600)) (zx (bk i j)) (zx (bk j i))
 rw [<- hv] at f1 f2 f3 fd
 have w0:0 < 2*e.1*e.2*2:=by
  have:=Int.mul_pos he.p1 he.p2
  have e1:2*e.1*e.2*2=4*(e.1*e.2):=by grind
  omega
 have wl:2*e.1*e.2*2<=2 ^ 240:=by
  have:=he.sm
  have e1:2*e.1*e.2*2=4*(e.1*e.2):=by grind
  have e2:(2:Int) ^ 240=1024*2 ^ 230:=by rw [show (240:Nat)=10+230 from rfl,Int.pow_add];rfl
  rw [e1,e2]
  have:=cX 230
  omega
 have ml:(2:Int) ^ 600+e.1+e.2+1<=2 ^ 602:=by
  have h1:e.1*1<=e.1*e.2:=Int.mul_le_mul_of_nonneg_left (by have:=he.p2;omega) (Int.le_of_lt he.p1)
  have h2:1*e.2<=e.1*e.2:=Int.mul_le_mul_of_nonneg_right (by have:=he.p1;omega) (Int.le_of_lt he.p2)
  have h3:=he.sm
  have e2:(2:Int) ^ 602=4*2 ^ 600:=by rw [show (602:Nat)=2+600 from rfl,Int.pow_add];rfl
  have e3:(2:Int) ^ 600=2 ^ 370*2 ^ 230:=by rw [<- Int.pow_add]
  have e4:(1:Int)*2 ^ 230<=2 ^ 370*2 ^ 230:=Int.mul_le_mul_of_nonneg_right (by have:=cX 370;omega) (Int.le_of_lt (cX 230))
  have:=cX 230
  rw [e2]
  omega
 have d0:Dy (2*e.1*e.2*2) (2 ^ 600+e.1+e.2+1) (0,1):=gK (by have:=cX 600;have:=he.p1;have:=he.p2;omega) (by have:=cX 600;have:=he.p1;have:=he.p2;omega) w0
 have m0:(0:Int)<=2 ^ 600+e.1+e.2+1:=by have:=cX 600;have:=he.p1;have:=he.p2;omega
 have z0:vl (0,1)=0:=by rw [cN];rfl
 have k0:∀ t,t < n->Kq (0:Rat) (aj U t t):=fun t ht=>by rw [dia t ht];show (0:Rat)<=((0:Int):Rat);exact Rat.le_refl
 unfold psF
 rw [<- hv]
 by_cases h:i=j
 . subst h
   rw [if_pos rfl]
   have ev:v=(0,1):=by rw [hv,dia i hi,zz]
   refine ⟨⟨fun _=>0,⟨fun p m=>?_,by simp,fun p m=>?_,fun p m=>?_,fun p mp q mq=>?_⟩⟩,_,_,w0,m0,wl,ml,fun p m=>?_⟩
   . rw [Zl.mp m];exact hi
   . rw [Zl.mp m];exact f1
   . rw [Zl.mp m];show (0:Rat)=vl v;rw [ev,z0]
   . rw [Zl.mp mp,Zl.mp mq]
     have e2:(0:Rat) - 0=0:=by grind
     rw [e2]
     exact k0 i hi
   . rw [Zl.mp m];exact fd
 . rw [if_neg h]
   have ji:j ≠ i:=fun z=>h z.symm
   refine ⟨⟨fun t=>if t=i then vl v else 0,⟨fun p m=>?_,?_,fun p m=>?_,fun p m=>?_,fun p mp q mq=>?_⟩⟩,_,_,w0,m0,wl,ml,fun p m=>?_⟩
   . rcases Zp.mp m with z | z
     . rw [z];exact hj
     . rw [Zl.mp z];exact hi
   . simp [ji]
   . rcases Zp.mp m with z | z
     . rw [z];show (0:Int) < 1;decide
     . rw [Zl.mp z];exact f1
   . rcases Zp.mp m with z | z
     . rw [z];show (if j=i then vl v else 0)=vl (0,1);rw [if_neg ji,z0]
     . rw [Zl.mp z];exact if_pos rfl
   . have s0:(0:Rat) - 0=0:=by grind
     have s1:vl v - 0=vl v:=by grind
     have s2:vl v - vl v=0:=by grind
     rcases Zp.mp mp with z | z
     . rcases Zp.mp mq with y | y
       . rw [z,y]
         show Kq ((if j=i then vl v else 0) - (if j=i then vl v else 0)) (aj U j j)
         rw [if_neg ji,s0]
         exact k0 j hj
       . rw [z,Zl.mp y]
         show Kq ((if j=i then vl v else 0) - (if i=i then vl v else 0)) (aj U j i)
         rw [if_neg ji,if_pos rfl]
         exact f3
     . rcases Zp.mp mq with y | y
       . rw [Zl.mp z,y]
         show Kq ((if i=i then vl v else 0) - (if j=i then vl v else 0)) (aj U i j)
         rw [if_neg ji,if_pos rfl,s1]
         exact f2
       . rw [Zl.mp z,Zl.mp y]
         show Kq ((if i=i then vl v else 0) - (if i=i then vl v else 0)) (aj U i i)
         rw [if_pos rfl,s2]
         exact k0 i hi
   . rcases Zp.mp m with z | z
     . rw [z];exact d0
     . rw [Zl.mp z];exact fd
structure Fp (T:List (List Bn)) (n i j:Nat) (e:Int×Int):Prop where
 sq:Sq T n
 n1:n<=41
 hi:i < n
 hj:j < n
 bk:∀ i j,Bk 550 (aj T i j)
 he:EOk e
theorem Fp.beg {T U:List (List Bn)} {n i j:Nat} {e:Int×Int} (h:Fp T n i j e) (c:Cld n T U):Beg U n (psF U i j e):=D6 h.he h.hi h.hj (c.bk600 h.n1 h.bk) c.dia c.clo
theorem Fp.fi {T U:List (List Bn)} {n i j:Nat} {e:Int×Int} (h:Fp T n i j e) (c:Cld n T U):Fi U n (psF U i j e):=Be c.sq (by have:=h.hi;omega) h.n1 (c.bk600 h.n1 h.bk) c.dia c.clo (h.beg c)
def hV (ds:List D) (d:D):Prop:=∃ (d0:D) (T U:List (List Bn)) (n i j:Nat) (e:Int×Int),IsT d0 T/\Fp T n i j e/\Cld n T U/\ds=[d0,.int (i:Int),.int (j:Int),fr e]/\d=.lst ((fpt U n (psF U i j e)).map fr)
theorem tV {d0:D} {T U:List (List Bn)} {n i j:Nat} {e:Int×Int} (h:IsT d0 T) (f:Fp T n i j e) (c:Cld n T U):fn hV [d0,.int (i:Int),.int (j:Int),fr e]=some (.lst ((fpt U n (psF U i j e)).map fr)):=bG (fun d' h'=>by
 obtain ⟨d1,T',U',m,i',j',e',g,f',c',q,rfl⟩:=h'
 injection q with q0 q
 injection q with q1 q
 injection q with q2 q
 injection q with q3 _
 injection q1 with q1
 injection q2 with q2
 subst q0
 have z1:=h.inj g
 subst z1
 have z2:i=i':=by omega
 subst z2
 have z3:j=j':=by omega
 subst z3
 have z4:=k8 q3
 subst z4
 have z5:n=m:=by rw [<- f.sq.len,<- f'.sq.len]
 subst z5
 rw [c.is,c'.is]) ⟨d0,T,U,n,i,j,e,h,f,c,rfl,rfl⟩
theorem zX (U:List (List Bn)) (i j:Nat) (e:Int×Int):plO (psF U i j e)=.md (ptK [((j:Nat):Int)] (i:Int)) (ptV [((j:Nat):Int)] [fr (0,1)] (i:Int) (fr (io (aj U i j) (aj U j i) e))):=by
 unfold psF plO ptK ptV
 by_cases h:i=j
 . subst h
   have hm:((i:Nat):Int)∈[((i:Nat):Int)]:=Zl.mpr rfl
   rw [if_pos rfl,if_pos hm,if_pos hm]
   show D.md [((i:Nat):Int)] [fr _]=D.md [((i:Nat):Int)] [if ((i:Nat):Int)=(i:Int) then fr _ else fr (0,1)]
   rw [if_pos rfl]
 . have hm:¬ ((i:Nat):Int)∈[((j:Nat):Int)]:=fun z=>h (by have:=Zl.mp z;omega)
   rw [if_neg h,if_neg hm,if_neg hm]
   rfl
theorem AD {T U:List (List Bn)} {n i j:Nat} {e:Int×Int} (h:Fp T n i j e) (c:Cld n T U):vl (bN (fpt U n (psF U i j e)) i) - vl (bN (fpt U n (psF U i j e)) j)=vl (io (aj U i j) (aj U j i) e):=by
 have fi:=h.fi c
 have keepP:=(jO c.dia c.clo (h.beg c).good n (Nat.le_refl n)).2.2
 rw [jA fi h.hi,jA fi h.hj]
 obtain ⟨z,mz⟩:=fi.all 0 fi.n0
 have mi':=keepP _ (zV U i j e)
 have e0:=gM fi.nd mz
 have e1:=gM fi.nd mi'
 have pz:=(fi.fr _ mz).pos
 have pi':=(fi.fr _ mi').pos
 have ej:vl (atP (br (aj U) (psF U i j e) n) j)=0/\0 < (atP (br (aj U) (psF U i j e) n) j).2:=by
  by_cases q:i=j
  . subst q
    rw [e1,c.dia i h.hi,zz,cN]
    exact ⟨rfl,by show (0:Int) < 1;decide⟩
  . have mj:(j,((0,1):Int×Int))∈psF U i j e:=by unfold psF;rw [if_neg q];exact Zj
    rw [gM fi.nd (keepP _ mj),cN]
    exact ⟨rfl,by show (0:Int) < 1;decide⟩
 rw [jR (by rw [e1];exact pi') (by rw [e0];exact pz),jR ej.2 (by rw [e0];exact pz),ej.1,e1]
 grind
theorem rC {α:Type} [DecidableEq α] {f:D->D->Option Bool} {g h:α->D} (hf:∀ x y,f (g x) (h y)=some (decide (x=y))):∀ xs ys:List α,eqL f (xs.map g) (ys.map h)=some (decide (xs=ys))
 | [],[]=>rfl
 | [],_ :: _=>rfl
 | _ :: _,[]=>rfl
 | x :: xs,y :: ys=>by
  show ((f (g x) (h y)).bind fun p=>(eqL f (xs.map g) (ys.map h)).bind fun q=>some (p && q))=_
  rw [hf x y,rC hf xs ys]
  show some (decide (x=y) && decide (xs=ys))=_
  congr 1
  by_cases a:x=y
  . by_cases b:xs=ys
    . have c:decide (x :: xs=y :: ys)=true:=decide_eq_true (by rw [a,b])
      rw [decide_eq_true a,decide_eq_true b,c];rfl
    . have c:decide (x :: xs=y :: ys)=false:=decide_eq_false (fun z=>b (by injection z))
      rw [decide_eq_true a,decide_eq_false b,c];rfl
  . have c:decide (x :: xs=y :: ys)=false:=decide_eq_false (fun z=>a (by injection z))
    rw [decide_eq_false a,c];rfl
theorem eqB (k:Nat) (a b:Bn):eqN (k+2) (bdD a) (bdD b)=some (decide (a=b)):=by
 rcases a with _ | ⟨n,s⟩
 . rcases b with _ | ⟨m,t⟩ <;> rfl
 . rcases b with _ | ⟨m,t⟩
   . rfl
   . show eqL (eqN (k+1)) [.int n,.bl s] [.int m,.bl t]=_
     show some ((n == m) && ((s == t) && true))=_
     congr 1
     rw [Bool.and_true]
     by_cases e:n=m
     . by_cases e2:s=t
       . subst e e2
         rw [decide_eq_true rfl,beq_self_eq_true,beq_self_eq_true];rfl
       . rw [decide_eq_false (fun z=>e2 (by injection z with z;injection z)),beq_eq_false_iff_ne.mpr e2,Bool.and_false]
     . rw [decide_eq_false (fun z=>e (by injection z with z;injection z)),beq_eq_false_iff_ne.mpr e];rfl
theorem le_refl (a:Bn):Le a a:=by
 unfold Le
 rcases a with _ | ⟨n,s⟩
 . rfl
 . rw [qv,if_pos rfl];cases s <;> rfl
theorem ox {f:D->Option D} {v:D}:∀ {ds:List D},(∀ d∈ds,f d=some v)->kf f ds=some (ds.map fun _=>v)
 | [],_=>rfl
 | d :: ds,h=>by
  show ((f d).bind fun x=>(kf f ds).bind fun xs=>some (x :: xs))=_
  rw [h d Zj,ox fun e m=>h e (Zk _ m)]
  rfl
theorem t9:∀ (ds:List D),∃ bs,fq (ds.map fun _=>D.bl true)=some bs/\bs.all id=true
 | []=>⟨[],rfl,rfl⟩
 | d :: ds=>by
  obtain ⟨bs,h1,h2⟩:=t9 ds
  refine ⟨true :: bs,?_,by rw [List.all_cons,h2];rfl⟩
  show ((fq (ds.map fun _=>D.bl true)).bind fun bs=>some (true :: bs))=_
  rw [h1]
  rfl
theorem zE {F:FD} {δ:DS} {ds:List D} (h:F δ=some (.lst (ds.map fun _=>D.bl true))):ak Cm (aa F af) δ=some (.bl true):=by
 obtain ⟨bs,h1,h2⟩:=t9 ds
 unfold ak aa af
 rw [h]
 dsimp only [Option.bind_some]
 show ((fq (ds.map fun _=>D.bl true)).bind fun bs=>some (D.bl (bs.all id)))=_
 rw [h1]
 show some (D.bl (bs.all id))=_
 rw [h2]
structure Clo (U:List (List Bn)) (n:Nat):Prop where
 sq:Sq U n
 dia:∀ i,i < n->aj U i i=b0
 clo:∀ k i j,k < n->i < n->j < n->Le (aj U i j) (bs (aj U i k) (aj U k j))
theorem Cld.clo' {n:Nat} {T U:List (List Bn)} (c:Cld n T U):Clo U n:=⟨c.sq,c.dia,c.clo⟩
theorem t5 {U:List (List Bn)} {n:Nat} (c:Clo U n):Cld n U U:=by
 have a:=rL c.sq c.dia c.clo
 rcases iY U n with ⟨r,e,_⟩ | ⟨V,v⟩
 . rw [a] at e
   injection e with e
   injection e with e _
   injection e with e
   exact absurd e (by decide)
 . have e:=v.cl
   rw [a] at e
   injection e with e
   injection e with _ e
   injection e with e _
   have:U=V:=kA (by rw [<- show sh (aw U)=aq U from cL U,<- show sh (aw V)=aq V from cL V,e])
   rw [<- this] at v
   exact v
def wi (U W:List (List Bn)) (n:Nat):Bool:=(List.range n).all fun i=>(List.range n).all fun j=>!tgt (aj W i j) (aj U i j)
def lg (ds:List D) (d:D):Prop:=∃ (d0 d1:D) (U W:List (List Bn)) (n:Nat),IsT d0 U/\IsT d1 W/\Sq U n/\Sq W n/\n<=41/\ds=[d0,d1]/\d=.bl (wi U W n)
theorem zm {d0 d1:D} {U W:List (List Bn)} {n:Nat} (h0:IsT d0 U) (h1:IsT d1 W) (hs:Sq U n) (hw:Sq W n) (hn:n<=41):fn lg [d0,d1]=some (.bl (wi U W n)):=bG (fun d' h'=>by
 obtain ⟨e0,e1,T',U',m,g0,g1,gs,gu,_,q,rfl⟩:=h'
 injection q with q0 q
 injection q with q1 _
 subst q0 q1
 have z1:=h0.inj g0
 subst z1
 have z2:=h1.inj g1
 subst z2
 have z3:m=n:=by rw [<- gs.len,<- hs.len]
 subst z3
 rfl) ⟨d0,d1,U,W,n,h0,h1,hs,hw,hn,rfl,rfl⟩
def BkN (N:Nat):Bn->Prop
 | none=>True
 | some (n,_)=>n.natAbs<=N
theorem BkN.mono {N M:Nat} {b:Bn} (h:BkN N b) (e:N<=M):BkN M b:=by
 rcases b with _ | ⟨n,s⟩
 . trivial
 . exact Nat.le_trans (show n.natAbs<=N from h) e
def AN (T:List (List Bn)):Prop:=∀ i j,Bk 200 (aj T i j)
theorem zy {k:Nat} {b:Bn} (h:Bk k b):BkN (2 ^ k) b:=by
 rcases b with _ | ⟨n,s⟩
 . trivial
 . exact Nat.le_of_lt h
theorem Cz {N k:Nat} {b:Bn} (h:BkN N b) (e:N < 2 ^ k):Bk k b:=by
 rcases b with _ | ⟨n,s⟩
 . trivial
 . exact Nat.lt_of_le_of_lt (show n.natAbs<=N from h) e
theorem ud {fa fb:FM} {δ δ1 δ2:DS} {xs ys:List D} (h1:fa δ=some (.lst xs,δ1)) (h2:fb δ1=some (.lst ys,δ2)) (l:xs.length+ys.length<=1000):lQ fa fb δ=some (.lst (xs++ys),δ2):=by
 unfold lQ
 rw [h1]
 dsimp only [Option.bind_some]
 rw [h2]
 dsimp only [Option.bind_some]
 rw [if_pos l]
theorem CK {G:List D->Option D} {f:FM} {δ δ1:DS} {d e:D} (h1:f δ=some (d,δ1)) (h2:G [d]=some e) (hi:imm e=true):wP G f δ=some (e,δ1):=by
 unfold wP
 rw [h1]
 dsimp only [Option.bind_some]
 rw [h2]
 dsimp only [Option.bind_some]
 rw [if_pos hi]
def dR (U:List (List Bn)) (n m:Nat) (e:Int×Int):List (List (Int×Int)):=(List.range m).flatMap fun i=>(List.range n).map fun j=>fpt U n (psF U i j e)
theorem lY (U:List (List Bn)) (n m:Nat) (e:Int×Int):dR U n (m+1) e=dR U n m e++(List.range n).map fun j=>fpt U n (psF U m j e):=by
 unfold dR
 rw [List.range_succ,List.flatMap_append,List.flatMap_cons,List.flatMap_nil,List.append_nil]
theorem iT (U:List (List Bn)) (n:Nat) (e:Int×Int):∀ m,(dR U n m e).length=m*n
 | 0=>by rw [Nat.zero_mul];rfl
 | m+1=>by rw [lY,Zh,Zi,List.length_range,iT U n e m,Nat.succ_mul]
theorem uO {U:List (List Bn)} {n m:Nat} {e:Int×Int} {q:List (Int×Int)} (h:q∈dR U n m e):∃ i j,i < m/\j < n/\q=fpt U n (psF U i j e):=by
 unfold dR at h
 obtain ⟨i,hi,h⟩:=List.mem_flatMap.mp h
 obtain ⟨j,hj,h⟩:=Zm.mp h
 exact ⟨i,j,Zn.mp hi,Zn.mp hj,h.symm⟩
theorem xy {U:List (List Bn)} {n m i j:Nat} {e:Int×Int} (hi:i < m) (hj:j < n):fpt U n (psF U i j e)∈dR U n m e:=List.mem_flatMap.mpr ⟨i,Zn.mpr hi,Zm.mpr ⟨j,Zn.mpr hj,rfl⟩⟩
abbrev jj (qs:List (List (Int×Int))):List D:=qs.map fun q=>D.lst (q.map fr)
def d5 (ds:List D) (d:D):Prop:=∃ (d0:D) (U:List (List Bn)) (n:Nat) (e:Int×Int),IsT d0 U/\Clo U n/\n<=7/\(∀ i j,Bk 228 (aj U i j))/\EOk e/\ds=[d0,fr e]/\d=.lst (jj (dR U n n e))
theorem mG {d0:D} {U:List (List Bn)} {n:Nat} {e:Int×Int} (h0:IsT d0 U) (c:Clo U n) (hn:n<=7) (hb:∀ i j,Bk 228 (aj U i j)) (he:EOk e):fn d5 [d0,fr e]=some (.lst (jj (dR U n n e))):=bG (fun d' h'=>by
 obtain ⟨d1,U',m,e',g,c',_,_,_,q,rfl⟩:=h'
 injection q with q0 q
 injection q with q1 _
 subst q0
 have z1:=h0.inj g
 subst z1
 have z4:=k8 q1
 subst z4
 have z3:m=n:=by rw [<- c'.sq.len,<- c.sq.len]
 subst z3
 rfl) ⟨d0,U,n,e,h0,c,hn,hb,he,rfl,rfl⟩
theorem ol:∀ (qs:List (List (Int×Int))),gF (jj qs)=true
 | []=>rfl
 | q :: qs=>by
  show (own (.lst (q.map fr)) && gF (jj qs))=true
  rw [ol qs,own,eW]
  rfl
theorem xE:bootBuiltins "dict" = some (.type "dict"):=by decide +kernel
structure FK (K:PySem.W.Frag) (x:Str) (st:Stmt) (f:Addr):Prop where
 ns:PySem.W.nsIn K mainGlobals x=some (some (.ref f))
 ex:∃ (oc:Value) (od:Option Addr) (kV doc pm:Value) (an:Option Addr) (cdv ct:Value) (osl:Array (Option Value)),K.lookup f=some ⟨oc,od,.func (PySem.W.fnOf x x (dc st) (bM st) (al st) .none kV doc pm an cdv ct),osl⟩/\PySem.W.codeIn K cdv x=true
 kp:PySem.W.keepIn K (.ref f)=true
theorem FK.get {K:PySem.W.Frag} {x:Str} {st:Stmt} {f:Addr} {ps:List Str} (h:FK K x st f) (b:∀ (kV doc pm:Value) (an:Option Addr) (cdv ct:Value) (us:List Value),us.length=ps.length->bindArgs (PySem.W.fnOf x x (dc st) (bM st) (al st) .none kV doc pm an cdv ct) ⟨us,[]⟩=pure (ps.zip us)):∃ fd,Fun K x x st f fd/\Binds K fd ps []:=by
 obtain ⟨oc,od,kV,doc,pm,an,cdv,ct,osl,l,c⟩:=h.ex
 have F:=zc (st:=st) l c h.kp
 exact ⟨_,F,F.binds b⟩
theorem FK.of2 {K:PySem.W.Frag} {x:Str} {st:Stmt} {f:Addr} (e:Hd.fv K x f=Hd.fe x st .none f):FK K x st f:=⟨(Hd.fv_inv e).1,(Hd.fv_inv e).2.2,(Hd.fv_inv e).2.1⟩
section
variable (P:Program) (w:World) (base:Heap) {K:PySem.W.Frag} {mg:Str->Option Value} {h:Heap} {k:Nat} {f:Addr} {fd:FuncData} {x:Str} {st:Stmt} {ps:List Str}
theorem mkP {G:List D->Option D} (X:K.In h) (N:h.Ns mainGlobals mg) (a:FK K x st f) (o:FnOk P w K mg base CX0 k f fd ps (bA K ps.length G)) (b:Binds K fd ps []):Has P w K mg base k x ps G:=⟨⟨_,_,o,PySem.W.mg_of X N a.ns,a.kp,b⟩⟩
theorem mkF {G:List D->Option D} (X:K.In h) (N:h.Ns mainGlobals mg) (a:FK K x st f) (o:FnOk P w K mg base CX0 k f fd ps (bv K ps.length G)) (b:Binds K fd ps []):HasF P w K mg base k x ps G:=⟨⟨_,_,o,PySem.W.mg_of X N a.ns,a.kp,b⟩⟩
theorem mkM {G:List D->Option (D×D)} (X:K.In h) (N:h.Ns mainGlobals mg) (a:FK K x st f) (o:FnOk P w K mg base CX0 k f fd ps (sR K ps.length G)) (b:Binds K fd ps []):CH P w K mg base k x ps G:=⟨⟨_,_,o,PySem.W.mg_of X N a.ns,a.kp,b⟩⟩
end
section
variable {P:Program} {w:World} {K:PySem.W.Frag} {mg:Str->Option Value} {base:Heap} {f:Addr} {fd:FuncData}
theorem lS:aD ["thing"] ["thing"] (al iJ):=⟨rfl,rfl,rfl,by decide +kernel,rfl,by decide +kernel,by decide +kernel⟩
theorem sM (F:Fun K "is_whole" "is_whole" iJ f fd)    (m_isinstance:mg "isinstance" = none) (m_int:mg "int" = none) (m_bool:mg "bool" = none):FnOk P w K mg base CX0 1 f fd ["thing"] (bA K 1 (fn km)):=by
 have sc:=lS
 refine bS F lS (fun cdv A outer s H E ds d hr hG hl=>?_)
 obtain ⟨x,b,h,rfl,rfl⟩:=aV hG
 refine ⟨_,(aH (aR (jm (aT oX (uV yH) rfl m_isinstance boot_isinstance (ac (ab 0) (ac (yu rfl m_int boot_int) ag))) (ii (og (aT oX (uV pY) rfl m_isinstance boot_isinstance (ac (ab 0) (ac (yu rfl m_bool boot_bool) ag)))))))),?_⟩
 . show aF ((?f:SD) [some _])=_
   cases x <;> simp [uK] at h <;> subst h <;> rfl
theorem gU:aD ["number","above_nought","one","other","rest"] ["number","above_nought"] (al dH):=⟨rfl,rfl,rfl,by decide +kernel,rfl,by decide +kernel,by decide +kernel⟩
def cdC:FT:=fT (f2 gNe (ae 3) (fC (.int 0)))
def cdS:SD:=aA (fK 4 (f2 (gI (fun _ j=>0 < j) fun i j=>.int (i % j)) (ae 2) (ae 3))) (aA (fK 2 (ae 3)) (fK 3 (ae 4)))
theorem wD:∀ (n:Nat) (x y:Int) (u v o:Option D),0<=y->(y=0->0<=x)->y.toNat < n->∃ o',gA n cdC cdS [u,v,some (.int x),some (.int y),o]=some (.nx [u,v,some (.int (gc x y)),some (.int 0),o'])
 | 0,x,y,u,v,o,h0,h1,h2=>by omega
 | n+1,x,y,u,v,o,h0,h1,h2=>by
  by_cases h:y=0
  . subst h
    refine ⟨o,?_⟩
    rw [vX (h1 rfl)]
    rfl
  . have hy:0 < y:=by omega
    have hc:cdC [u,v,some (.int x),some (.int y),o]=some true:=by
     show some (!(y == 0))=some true
     simp [h]
    have hs:cdS [u,v,some (.int x),some (.int y),o]=some (.nx [u,v,some (.int y),some (.int (x % y)),some (.int (x % y))]):=by
     unfold cdS
     simp only [dh,aA,fK,ae,f2,Zc,Zd,Ze,Zf,Zg,ap (C:=fun _ j=>0 < j) (i:=x) hy]
    obtain ⟨o',ih⟩:=wD n y (x % y) u v (some (.int (x % y))) (Int.emod_nonneg x h) (fun _=>h0) (by have:=Int.emod_lt_of_pos x hy;omega)
    refine ⟨o',?_⟩
    rw [vY] at ih
    rw [sj hc hs]
    exact ih
theorem kX (F:Fun K "common_divisor" "common_divisor" dH f fd)    :FnOk P w K mg base CX0 1 f fd ["number","above_nought"] (bA K 2 (fn cS)):=by
 have sc:=gU
 refine bS F gU (fun cdv A outer s H E ds d hr hG hl=>?_)
 obtain ⟨a,b,hb,rfl,rfl⟩:=aV hG
 refine ⟨_,(aE (bL 2 sc.nd (ab 0))
  (aE (bL 3 sc.nd (ab 1))
  (aE (pV (b.toNat+1) PassesOwn.never (ye hr.units0 (ab 3) ah)
   (aE (bL 4 sc.nd (bn (ab 2) (ab 3)))
   (aE (bL 2 sc.nd (ab 3))
   (aH (bL 3 sc.nd (ab 4))))))
  (aH (aR (ab 2)))))),?_⟩
 . show aF ((?f:SD) [some _,some _,none,none,none])=_
   obtain ⟨o,ho⟩:=wD (b.toNat+1) a b (some (.int a)) (some (.int b)) none (by omega) (by omega) (by omega)
   show aF ((gA (b.toNat+1) cdC cdS [some (.int a),some (.int b),some (.int a),some (.int b),none]).bind (dh (d7 (ae 2))))=_
   rw [ho]
   rfl
theorem vk:aD ["one","other"] ["one","other"] (al qD):=⟨rfl,rfl,rfl,by decide +kernel,rfl,by decide +kernel,by decide +kernel⟩
theorem Af (F:Fun K "less" "less" qD f fd)    :FnOk P w K mg base CX0 1 f fd ["one","other"] (bA K 2 (fn gg)):=by
 have sc:=vk
 refine bS F vk (fun cdv A outer s H E ds d hr hG hl=>?_)
 obtain ⟨⟨a,b⟩,⟨c,e⟩,hp,hq,rfl,rfl⟩:=aV hG
 refine ⟨_,(aH (aR (yv (cF (ay (ab 0) ah) (ay (ab 1) ah)) (cF (ay (ab 1) ah) (ay (ab 0) ah))))),?_⟩
 . show aF ((?f:SD) [some _,some _])=_
   simp only [aF,d7,ae,fC,f2,c9,eY,gI0,Zc,Zd,Ze,ap (C:=aM) (i:=a) (j:=e) ⟨hp.s1.bd,hq.s2.bd⟩,ap (C:=aM) (i:=c) (j:=b) ⟨hq.s1.bd,hp.s2.bd⟩]
theorem nP:aD ["one","other"] ["one","other"] (al jD):=⟨rfl,rfl,rfl,by decide +kernel,rfl,by decide +kernel,by decide +kernel⟩
theorem uz (F:Fun K "tighter" "tighter" jD f fd)    :FnOk P w K mg base CX0 1 f fd ["one","other"] (bA K 2 (fn dr)):=by
 have sc:=nP
 refine bS F nP (fun cdv A outer s H E ds d hr hG hl=>?_)
 obtain ⟨a,b,rfl,rfl⟩:=aV hG
 refine ⟨_,(aE (cZ (dB (ab 0) bB) (aH (aR jk)) cf)
  (aE (cZ (dB (ab 1) bB) (aH (aR jk)) cf)
  (aE (cZ (ye hr.units0 (ay (ab 0) ah) (ay (ab 1) ah)) (aH (aR (yv (ay (ab 0) ah) (ay (ab 1) ah)))) cf)
  (aH (aR (jm (ay (ab 0) ah) (ii (og (ay (ab 1) ah))))))))),?_⟩
 . show aF ((?f:SD) [some _,some _])=_
   rcases a with _ | ⟨n,s⟩
   . rfl
   rcases b with _ | ⟨m,t⟩
   . rfl
   rw [qv]
   by_cases e:n=m
   . subst e
     rw [if_pos rfl]
     cases s <;> cases t <;> (simp only [aF,bc,dh,aA,d7,sIf,ae,fC,f2,f1,fT,asB,fV,uL,c9,eY,gI0,v6,Zc,Zd,Ze,Bool.not_true,Bool.not_false,beq_self_eq_true,bq,cO,bo] ;rfl)
   . have h1:(n == m)=false:=beq_eq_false_iff_ne.mpr e
     rw [if_neg e]
     simp only [aF,bc,dh,aA,d7,sIf,ae,fC,f2,fT,asB,c9,gI0,v6,Zc,Zd,Ze,Bool.not_false,bq,cO,bo,h1]
theorem kF:aD ["one","other"] ["one","other"] (al gZ):=⟨rfl,rfl,rfl,by decide +kernel,rfl,by decide +kernel,by decide +kernel⟩
theorem qV (F:Fun K "bound_sum" "bound_sum" gZ f fd)    :FnOk P w K mg base CX0 1 f fd ["one","other"] (bA K 2 (fn ck)):=by
 have sc:=kF
 refine bS F kF (fun cdv A outer s H E ds d hr hG hl=>?_)
 obtain ⟨a,b,rfl,rfl⟩:=aV hG
 refine ⟨_,(aE (cZ (PWD.pt (j6 (dB (ab 0) bB) (iL (dB (ab 1) bB)))) (aH (aR bB)) cf)
  (aH (aR (d9 (ac (bC (ay (ab 0) ah) (ay (ab 1) ah)) (ac (AW (ay (ab 0) ah) (ii (ay (ab 1) ah))) ag)))))),?_⟩
 . show aF ((?f:SD) [some _,some _])=_
   rcases a with _ | ⟨n,s⟩ <;> rcases b with _ | ⟨m,t⟩
   . rfl
   . rfl
   . rfl
   . cases s <;> cases t <;> rfl
theorem pO:aD ["table"] ["table"] (al kQ):=⟨rfl,rfl,rfl,by decide +kernel,rfl,by decide +kernel,by decide +kernel⟩
theorem xj (F:Fun K "copied" "copied" kQ f fd)    (m_list:mg "list" = none):FnOk P w K mg base CX0 1 f fd ["table"] (bv K 1 (fn po)):=by
 have sc:=pO
 refine bu F pO (fun cdv A outer s H E ds d hr hG hl=>?_)
 obtain ⟨d0,T,m,hT,hs,hm,rfl,rfl⟩:=aV hG
 have hown:=cc T
 refine ⟨_,(aG (bt (kU (by exact (eV (ab 0))) (N:=["bounds"]) (js:=[]) (cl:=[]) (fun _ _ _ _ _=>by exact (jG rfl m_list boot_list (ac (ab 0) ag))) (by exact CompOk.nil)))),?_,?own⟩
 case own=>first | rfl | exact hown
 . show aF ((?f:SD) (aJ 1 _))=_
   have e0:aJ 1 [d0]=[some (aq T)]:=by
    show [some (sh d0)]=_
    rw [show sh d0=aq T from hT]
   rw [e0]
   exact cr (bx (ue hs hm rfl))
theorem iw:aD ["size","ways","thing"] ["size"] (al dX):=⟨rfl,rfl,rfl,by decide +kernel,rfl,by decide +kernel,by decide +kernel⟩
theorem lE (F:Fun K "straight_ways" "straight_ways" dX f fd)    (m_range:mg "range" = none):FnOk P w K mg base CX0 1 f fd ["size"] (bv K 1 (fn gf)):=by
 have sc:=iw
 refine bu F iw (fun cdv A outer s H E ds d hr hG hl=>?_)
 obtain ⟨n,hn,rfl,rfl⟩:=aV hG
 have hown:=om n fun i _=>[i]
 refine ⟨_,(av (aS 1 sc.nd (gD cy))
  (av (du 2 sc.nd PassesOwn.never rfl (ba rfl m_range (ac (ab 0) ag))
   (aG (uu 1 (sJ PySem.F.plainAttrs_list PySem.F.slot_list_append PySem.F.type_list_append iD (pvi 1) (gv (kU (by exact (j7 rfl m_range (ac (ab 0) ag))) (N:=["goal","thing"]) (js:=[2]) (cl:=[("thing",_)]) (fun _ _ _ _ _=>by exact (gD (bO (bK 1) cy))) (by exact CompOk.one)) ka)))))
  (aG (bt (bK 1))))),?_,?own⟩
 case own=>first | rfl | exact hown
 . rw [show (["size","ways","thing"]:List Str).length=3 from rfl]
   have e0:aJ 3 [.int (n:Int)]=[some (.int (n:Int)),none,none]:=rfl
   rw [e0]
   have hv:=fun o1 o2:Option D=>dS (g:=aa (ae 0) af) (δ:=[some (.int (n:Int)),o1,o2]) (n:=n) rfl (by omega)
   obtain ⟨_,w,o,rfl⟩:=cC (i:=2) (s:=((qF 1 (fG (qz (aa (ae 0) af)) [2] (jc (cI (bD 1) gj)))))) (f:=fun (i:Nat)=>D.int (i:Int)) (fun pre δ=>∃ o,δ=[some (.int (n:Int)),some (.lst ((List.range pre.length).map fun i=>D.lst (gh n fun _=>[i]))),o]) (List.range n) (by
    rintro pre x post _ hx ⟨o,rfl⟩
    obtain ⟨rfl,hl⟩:=bE hx
    refine ⟨_,uj (ds:=(List.range pre.length).map fun i=>D.lst (gh n fun _=>[i])) (d:=.lst (gh n fun _=>[pre.length])) rfl ?_ (by rw [Zi,List.length_range];omega),some (.int (pre.length:Int)),?_⟩
    . refine gy (f:=fun (i:Nat)=>D.int (i:Int)) (g:=fun _=>D.lst (bP [pre.length])) (xs:=List.range n) ?_ (fun i _=>rfl) (by rw [List.length_range];omega)
      refine xR (ds:=[.int (n:Int)]) rfl ?_
      rw [zA (by omega) (by omega),nY]
    . rw [Zh,List.length_singleton,List.range_succ,List.map_append]
      rfl) (List.range n) [] [some (.int (n:Int)),some (.lst []),none] rfl ⟨none,rfl⟩
   rw [List.length_range] at w
   exact cr (ao (bJ (d:=.lst []) rfl) (ao (bH (hv _ _) w) (bx (ie rfl))))
theorem i9:aD ["_law_script","_law_k"] ["_law_script","_law_k"] (al eR):=⟨rfl,rfl,rfl,by decide +kernel,rfl,by decide +kernel,by decide +kernel⟩
theorem mD (F:Fun K "_law_cell_at" "_law_cell_at" eR f fd)    (m_len:mg "len" = none):FnOk P w K mg base CX0 1 f fd ["_law_script","_law_k"] (bA K 2 (fn aC)):=by
 have sc:=i9
 refine bS F i9 (fun cdv A outer s H E ds d hr hG hl=>?_)
 obtain ⟨ns,k,hk,rfl,rfl⟩:=aV hG
 refine ⟨_,(aE (cZ (n5 (ab 1) (aT aK cH rfl m_len PySem.boot_len (ac (ab 0) ag))) (aH (aR (ay (ab 0) (ab 1)))) cf)
  (aH (aR ah))),?_⟩
 . show aF ((?f:SD) [some _,some _])=_
   by_cases hlt:k < (ns.length:Int)
   . have h1:decide (k < (((ns.map D.int).length:Nat):Int))=true:=decide_eq_true (by rw [Zi];exact hlt)
     have h2:gIx (.seq (ns.map D.int)) (.int k)=some (.int (cell ns k)):=by
      show L2.atI (ns.map D.int) k=_
      have ek:k=((k.toNat:Nat):Int):=by omega
      have hk2:k.toNat < ns.length:=by omega
      have h3:=atI_nat (xs:=ns.map D.int) (j:=k.toNat) (v:=D.int ns[k.toNat]) (by rw [List.getElem?_map,Zs hk2] <;> rfl)
      rw [<- ek] at h3
      rw [h3]
      unfold cell
      simp [Zr,hk2]
     simp only [aF,bc,dh,aA,d7,sIf,ae,f2,fT,asB,af,aa,ak,tL,gI0,Zc,Zd,Ze,h1,h2]
   . have h1:decide (k < (((ns.map D.int).length:Nat):Int))=false:=decide_eq_false (by rw [Zi];exact hlt)
     have h2:cell ns k=0:=by
      unfold cell
      rw [Zr,List.getElem?_eq_none (by omega)]
      rfl
     simp only [aF,bc,dh,aA,d7,sIf,ae,fC,f2,fT,asB,af,aa,ak,tL,gI0,Zc,Zd,Ze,h1,h2]
theorem jU:aD ["_law_cell","_law_k","_law_number"] ["_law_cell","_law_k"] (al gq):=⟨rfl,rfl,rfl,by decide +kernel,rfl,by decide +kernel,by decide +kernel⟩
theorem pv (F:Fun K "_law_mixed" "_law_mixed" gq f fd)    :FnOk P w K mg base CX0 1 f fd ["_law_cell","_law_k"] (bv K 2 (fn aP)):=by
 have sc:=jU
 refine bu F jU (fun cdv A outer s H E ds d hr hG hl=>?_)
 obtain ⟨c,k,hk0,hk1,rfl,rfl⟩:=aV hG
 have hown:own (.int (mxd c k))=true:=rfl
 refine ⟨_,(av (aS 2 sc.nd (aQ (bn (bC (bC (bC (kW (ab 0) ah) (kW (kW (ab 1) (ab 1)) ah)) (kW ah (ab 1))) ah) ah)))
  (aG (bt (aQ (bn (kW (ab 2) (ab 2)) ah))))),?_,?own⟩
 case own=>first | rfl | exact hown
 . show aF ((?f:SD) (aJ 3 _))=_
   have e0:aJ 3 [.int c,.int k]=[some (.int c),some (.int k),none]:=rfl
   rw [e0]
   have w1:ic c 48271:=.inr (.inr (by decide))
   have w2:ic k k:=.inr (.inl (by omega))
   have w3:ic (k*k) 69621:=.inr (.inr (by decide))
   have w4:ic 7 k:=.inr (.inl (by decide))
   obtain ⟨n,hn⟩:∃ n,n=(c*48271+k*k*69621+7*k+11) % 2147483647:=⟨_,rfl⟩
   have n0:0<=n:=by rw [hn];exact Int.emod_nonneg _ (by decide)
   have n1:n < 2147483647:=by rw [hn];exact Int.emod_lt_of_pos _ (by decide)
   have w5:ic n n:=.inr (.inl (by omega))
   have em:mxd c k=n*n % 2147483629:=by rw [hn];rfl
   rw [em]
   exact cr (ao (be (bh (d:=.int n) (by simp only [ae,fC,f2,bF,Zc,Zd,Ze,ap (C:=ic) w1,ap (C:=ic) w2,ap (C:=ic) w3,ap (C:=ic) w4,ap (C:=fun _ j=>0 < j) (i:=c*48271+k*k*69621+7*k+11) (j:=2147483647) (by decide),hn]))) (bx (bh (by simp only [ae,fC,f2,Zc,Zd,Ze,Zf,Zg,ap (C:=ic) w5,ap (C:=fun _ j=>0 < j) (i:=n*n) (j:=2147483629) (by decide)]))))
theorem jf:aD ["_law_top","_law_bottom","_law_one","_law_other_here"] ["_law_top","_law_bottom"] (al fN):=⟨rfl,rfl,rfl,by decide +kernel,rfl,by decide +kernel,by decide +kernel⟩
def llC:FT:=fT (f2 gGt (ae 3) (fC (.int 0)))
def llS:SD:=zN 2 3 (aa (ae 3) (aa (f2 (gI (fun _ j=>0 < j) fun i j=>.int (i % j)) (ae 2) (ae 3)) af))
theorem vP:∀ (n:Nat) (x y:Int) (u v:Option D),0<=y->(y=0->0<=x)->y.toNat < n->gA n llC llS [u,v,some (.int x),some (.int y)]=some (.nx [u,v,some (.int (gc x y)),some (.int 0)])
 | 0,x,y,u,v,h0,h1,h2=>by omega
 | n+1,x,y,u,v,h0,h1,h2=>by
  by_cases h:y=0
  . subst h
    rw [vX (h1 rfl)]
    rfl
  . have hy:0 < y:=by omega
    have hc:llC [u,v,some (.int x),some (.int y)]=some true:=by
     show some (decide (y > 0))=some true
     rw [decide_eq_true hy]
    have hs:llS [u,v,some (.int x),some (.int y)]=some (.nx [u,v,some (.int y),some (.int (x % y))]):=by
     unfold llS
     simp only [zN,ae,f2,af,aa,Zc,Zd,Ze,Zf,Zg,ap (C:=fun _ j=>0 < j) (i:=x) hy]
    have ih:=vP n y (x % y) u v (Int.emod_nonneg x h) (fun _=>h0) (by have:=Int.emod_lt_of_pos x hy;omega)
    rw [vY] at ih
    rw [sj hc hs]
    exact ih
theorem on (F:Fun K "_law_lowest" "_law_lowest" fN f fd)    (m_abs:mg "abs" = none):FnOk P w K mg base CX0 1 f fd ["_law_top","_law_bottom"] (bA K 2 (fn iq)):=by
 have sc:=jf
 refine bS F jf (fun cdv A outer s H E ds d hr hG hl=>?_)
 obtain ⟨t,b,hb,hB,rfl,rfl⟩:=aV hG
 refine ⟨_,(aE (bL 2 sc.nd (aT t7 zt rfl m_abs PyProof.Rows.boot_abs (ac (ab 0) ag)))
  (aE (bL 3 sc.nd (ab 1))
  (aE (pV (b.toNat+1) PassesOwn.never (yf (ab 3) ah)
   (aH (zT 2 3 rfl sc.nd (ac (ab 3) (ac (bn (ab 2) (ab 3)) ag)))))
  (aH (aR (d9 (ac (bf (ab 0) (ab 2)) (ac (bf (ab 1) (ab 2)) ag)))))))),?_⟩
 . show aF ((?f:SD) [some _,some _,none,none])=_
   have hg:=c6 (t:=t) hb
   have hgB:Bd (gc t b):=qp (by omega) (qf (t:=t) hb) hB
   have ho:=vP (b.toNat+1) (t.natAbs:Int) b (some (.int t)) (some (.int b)) (by omega) (by omega) (by omega)
   rw [Ci] at ho
   refine cr (ao (mL (d:=.int (t.natAbs:Int)) rfl) (ao (mL (d:=.int b) rfl) (ao ho (mO (d:=fr (rd t b)) ?_))))
   simp only [ae,f2,af,aa,cJ,Zc,Zd,Ze,ap (C:=ax) (i:=t) ⟨hg,hgB⟩,ap (C:=ax) (i:=b) ⟨hg,hgB⟩]
   rfl
theorem kK:aD ["_law_one","_law_other_here"] ["_law_one","_law_other_here"] (al g8):=⟨rfl,rfl,rfl,by decide +kernel,rfl,by decide +kernel,by decide +kernel⟩
theorem qZ (F:Fun K "_law_less" "_law_less" g8 f fd)    :FnOk P w K mg base CX0 1 f fd ["_law_one","_law_other_here"] (bA K 2 (fn cm)):=by
 have sc:=kK
 refine bS F kK (fun cdv A outer s H E ds d hr hG hl=>?_)
 obtain ⟨⟨a,b⟩,⟨c,e⟩,hp,hq,rfl,rfl⟩:=aV hG
 refine ⟨_,(aH (aR (d9 (ac (iO (cF (ay (ab 0) ah) (ay (ab 1) ah)) (cF (ay (ab 1) ah) (ay (ab 0) ah))) (ac (cF (ay (ab 0) ah) (ay (ab 1) ah)) ag))))),?_⟩
 . show aF ((?f:SD) [some _,some _])=_
   simp only [aF,d7,ae,fC,f2,af,aa,cJ,c9,eY,gI0,Zc,Zd,Ze,ap (C:=aM) (i:=a) (j:=e) ⟨hp.s1.bd,hq.s2.bd⟩,ap (C:=aM) (i:=c) (j:=b) ⟨hq.s1.bd,hp.s2.bd⟩,ap (C:=aM) (i:=b) (j:=e) ⟨hp.s2.bd,hq.s2.bd⟩]
   rfl
theorem jV:aD ["_law_part_here","_law_bound"] ["_law_part_here","_law_bound"] (al gr):=⟨rfl,rfl,rfl,by decide +kernel,rfl,by decide +kernel,by decide +kernel⟩
theorem pA (F:Fun K "_law_keeps" "_law_keeps" gr f fd)    :FnOk P w K mg base CX0 1 f fd ["_law_part_here","_law_bound"] (bA K 2 (fn fE)):=by
 have sc:=jV
 refine bS F jV (fun cdv A outer s H E ds d hr hG hl=>?_)
 obtain ⟨⟨a,b⟩,c,hp,hc,rfl,rfl⟩:=aV hG
 refine ⟨_,(aE (cZ (dB (ab 1) bB) (aH (aR jk)) cf)
  (aH (aR (AW (yv (ay (ab 0) ah) (cF (ay (ab 1) ah) (ay (ab 0) ah))) (ii (jm (Dm hr.units0 (ay (ab 0) ah) (cF (ay (ab 1) ah) (ay (ab 0) ah))) (ii (og (ay (ab 1) ah))))))))),?_⟩
 . show aF ((?f:SD) [some _,some _])=_
   rcases c with _ | ⟨n,s⟩
   . rfl
   . have mb:aM n b:=⟨Sm.mono (show Sm 4000 n from hc) (by decide),hp.s2.bd⟩
     rw [<- Du]
     cases h1:decide (a < n*b) with
     | true=>simp only [aF,bc,dh,aA,d7,sIf,ae,fC,f2,f1,fT,asB,fV,zj,uL,c9,eY,gI0,fO,Zc,Zd,Ze,bq,cO,bo,gLt,fO,ap (C:=aM) mb,h1,Bool.true_or]
     | false =>
      cases h2:(a == n*b) with
      | true=>simp only [aF,bc,dh,aA,d7,sIf,ae,fC,f2,f1,fT,asB,fV,zj,uL,c9,eY,gI0,fO,Zc,Zd,Ze,bq,cO,bo,gLt,fO,ap (C:=aM) mb,h1,h2,Bool.false_or,Bool.true_and]
      | false=>simp only [aF,bc,dh,aA,d7,sIf,ae,fC,f2,f1,fT,asB,fV,zj,uL,c9,eY,gI0,fO,Zc,Zd,Ze,bq,cO,bo,gLt,fO,ap (C:=aM) mb,h1,h2,Bool.false_or,Bool.false_and]
theorem kH:aD ["_law_table","_law_most_here","_law_row"] ["_law_table"] (al g6):=⟨rfl,rfl,rfl,by decide +kernel,rfl,by decide +kernel,by decide +kernel⟩
theorem uh {m M:Int} {t:Bool} {b:Bn} {y:Rat} {e:Int×Int} (ee:e=(1,2+M)) (mM:(m.natAbs:Int)<=M) (h:DL b e y) (tg:tgt (some (m,t)) b=true):¬ Kq y (some (m,t)):=by
 have ma:m<=M:=by omega
 have mq:(m:Rat)<=(M:Rat):=Rat.intCast_le_intCast.mpr ma
 have key:(m:Rat) < y \/ ((m:Rat)=y/\t=true):=by
  rcases b with _ | ⟨k,s⟩
  . have h':Rat.divInt e.2 e.1 < y:=h
    rw [ee] at h'
    have h2:Rat.divInt (2+M) 1 < y:=h'
    rw [g9,Rat.intCast_add] at h2
    have:((2:Int):Rat)=2:=rfl
    rw [this] at h2
    exact .inl (by grind)
  . rw [qv] at tg
    cases s with
    | true =>
     have h':(k:Rat) - vl e < y:=h
     have ml:m < k:=by
      by_cases q:m=k
      . rw [if_pos q] at tg
        simp at tg
      . rw [if_neg q] at tg
        exact of_decide_eq_true tg
     have mk:(m:Rat)+1<=(k:Rat):=by
      have:((m+1:Int):Rat)<=(k:Rat):=Rat.intCast_le_intCast.mpr (by omega)
      rw [Rat.intCast_add] at this
      have o:((1:Int):Rat)=1:=rfl
      rw [o] at this
      exact this
     have ve:vl e < 1:=by
      have:vl e < vl (1,1):=by
       rw [ee]
       refine (nC (by show 0 < 2+M;omega) (by decide)).mpr ?_
       show (1:Int)*1 < 1*(2+M)
       omega
      rw [cN] at this
      exact this
     exact .inl (by grind)
    | false =>
     have h':y=(k:Rat):=h
     by_cases q:m=k
     . rw [if_pos q] at tg
       exact .inr ⟨by rw [h',q],by simpa using tg⟩
     . rw [if_neg q] at tg
       refine .inl ?_
       rw [h']
       exact Rat.intCast_lt_intCast.mpr (of_decide_eq_true tg)
 intro kq
 cases t with
 | true =>
  have kq':y < (m:Rat):=kq
  rcases key with z | z <;> grind
 | false =>
  have kq':y<=(m:Rat):=kq
  rcases key with z | ⟨_,z⟩
  . grind
  . cases z
theorem wC {W:List (List Bn)} {i j:Nat} (hi:i < W.length) (hj:j < W[i].length):aj W i j=W[i][j]:=by
 have e:W.getD i []=W[i]:=by rw [Zr,Zs hi];rfl
 show (W.getD i []).getD j none=_
 rw [e,Zr,Zs hj]
 rfl
def ua (b:Bn):Option D:=b.map fun p=>D.int (p.1.natAbs:Int)
def pi (b:Bn):Option Int:=b.map fun p=>(p.1.natAbs:Int)
theorem oF:∀ r:List Bn,iQ (r.filterMap ua)=some (r.filterMap pi)
 | []=>rfl
 | none :: r=>oF r
 | some p :: r=>by
  show (iQ (r.filterMap ua)).map ((p.1.natAbs:Int) :: ·)=_
  rw [oF r]
  rfl
theorem tK {x:Int}:∀ {L:List Int},x∈L->∃ i,i < L.length/\L.getD i 0=x
 | y :: L,h=>by
  rcases Zp.mp h with z | z
  . exact ⟨0,Nat.succ_pos _,z.symm⟩
  . obtain ⟨i,hi,e⟩:=tK z
    exact ⟨i+1,Nat.succ_lt_succ hi,e⟩
theorem vW {N:Int} (h0:0<=N):∀ {L:List Int},(∀ x∈L,x<=N)->∀ i,L.getD i 0<=N
 | [],_,i=>by rw [List.getD_nil];exact h0
 | y :: L,h,0=>h y Zj
 | y :: L,h,i+1=>vW h0 (fun x m=>h x (Zk _ m)) i
def fX (ds:List D) (d:D):Prop:=aF (((aA (az 1 (vI (fC (.int 0)))) (aA (eS (rX (nF 0)) 2 (az 1 (wP xw (lQ (jc (cI (bD 1) gj)) (fY (fun δ=>((ae 2) δ).bind asL) 1 [] (jb 0) (fT (f2 dP (ae 0) (fC .non))) (vI (ak zb (aa (f2 gIx (ae 0) (fC (.int 0))) af)))))))) (dO (bD 1))))) (aJ 3 ds))=some d/\own d=true
theorem rZ {d0:D} {W:List (List Bn)} {n N:Nat} (h0:IsT d0 W) (hs:Sq W n) (n1:n<=41) (hb:∀ i j,BkN N (aj W i j)):∃ m:Int,0<=m/\m<=N/\(∀ i j,i < n->j < n->BkN m.toNat (aj W i j))/\fn fX [d0]=some (.int m):=by
 have e0:aJ 3 [d0]=[some (aq W),none,none]:=by
  show [some (sh d0),none,none]=_
  rw [show sh d0=aq W from h0]
 have hbW:∀ r∈W,r.length=n/\∀ b∈r,BkN N b:=fun r mr=>by
  obtain ⟨i,hi,rfl⟩:=List.getElem_of_mem mr
  have hi':i < n:=by rw [<- hs.len];exact hi
  have er:W.getD i []=W[i]:=by rw [Zr,Zs hi];rfl
  have lr:W[i].length=n:=by
   obtain ⟨r,_,_,_,l,e⟩:=ik hs hi' hi'
   rw [<- er,e];exact l
  refine ⟨lr,fun b mb=>?_⟩
  obtain ⟨j,hj,rfl⟩:=List.getElem_of_mem mb
  have:=hb i j
  rw [wC hi hj] at this
  exact this
 obtain ⟨_,w,m,o2,m0,mN,hm,rfl⟩:=cC (i:=2) (s:=((az 1 (wP xw (lQ (jc (cI (bD 1) gj)) (fY (fun δ=>((ae 2) δ).bind asL) 1 [] (jb 0) (fT (f2 dP (ae 0) (fC .non))) (vI (ak zb (aa (f2 gIx (ae 0) (fC (.int 0))) af))))))))) (f:=fun r:List Bn=>D.seq (aY r)) (fun pre δ=>∃ (m:Int) (o2:Option D),0<=m/\m<=N/\(∀ r∈pre,∀ b∈r,BkN m.toNat b)/\δ=[some (aq W),some (.int m),o2]) W (by
  rintro pre r post _ hx ⟨m,o2,m0,mN,hm,rfl⟩
  have mr:r∈W:=by rw [hx];exact Zo.mpr (.inr Zj)
  obtain ⟨lr,hr⟩:=hbW r mr
  have sr:sh (D.seq (aY r))=.seq (aY r):=by rw [sh,kC]
  rw [sr]
  have v1:jc (cI (bD 1) gj) [some (aq W),some (.int m),some (.seq (aY r))]=some (.lst [.int m],[some (aq W),some (.int m),some (.seq (aY r))]):=rfl
  have v2:=ig (src:=fun δ=>((ae 2) δ).bind asL) (n:=1) (js:=[]) (g:=jb 0) (fc:=fT (f2 dP (ae 0) (fC .non))) (felt:=vI (ak zb (aa (f2 gIx (ae 0) (fC (.int 0))) af))) (δ:=[some (aq W),some (.int m),some (.seq (aY r))]) (f:=bdD) (h:=ua) (xs:=r) rfl (fun b mb=>by
   rcases b with _ | ⟨k,s⟩
   . exact nH (δ1:=[some .non]) rfl rfl
   . exact jB (δ1:=[some (bdD (some (k,s)))]) rfl rfl (uy (d:=.int (k.natAbs:Int)) (bh rfl) rfl)) (by rw [lr];omega)
  have v3:=ud v1 v2 (by have:=List.length_filterMap_le ua r;rw [lr] at this;show 1+_<=_;omega)
  have gm:xw [.lst ([.int m]++r.filterMap ua)]=some (.int (mxI (fun i=>(m :: r.filterMap pi).getD i 0) (r.filterMap pi).length)):=by
   unfold xw
   show ((iQ (.int m :: r.filterMap ua)).bind _)=_
   have:iQ (.int m :: r.filterMap ua)=some (m :: r.filterMap pi):=by
    show (iQ (r.filterMap ua)).map (m :: ·)=_
    rw [oF r]
    rfl
   rw [this]
   rfl
  obtain ⟨m',hm'⟩:∃ m',m'=mxI (fun i=>(m :: r.filterMap pi).getD i 0) (r.filterMap pi).length:=⟨_,rfl⟩
  rw [<- hm'] at gm
  have le0:m<=m':=by rw [hm'];exact uD (fun i=>(m :: r.filterMap pi).getD i 0) _ 0 (Nat.zero_le _)
  have leN:m'<=N:=by
   rw [hm']
   refine yK _ _ fun i _=>vW (by omega) (fun x mx=>?_) i
   rcases Zp.mp mx with z | z
   . rw [z];exact mN
   . obtain ⟨b,mb,e⟩:=List.mem_filterMap.mp z
     rcases b with _ | ⟨k,s⟩
     . cases e
     . cases e
       have:=hr _ mb
       exact Int.ofNat_le.mpr this
  refine ⟨_,be (CK v3 gm rfl),m',some (.seq (aY r)),by omega,leN,fun r' mr' b mb=>?_,rfl⟩
  rcases Zo.mp mr' with z | z
  . exact (hm r' z b mb).mono (by omega)
  . rw [Zl.mp z] at mb
    rcases b with _ | ⟨k,s⟩
    . trivial
    . have mx:(k.natAbs:Int)∈r.filterMap pi:=List.mem_filterMap.mpr ⟨_,mb,rfl⟩
      obtain ⟨i,hi,e⟩:=tK mx
      have:(m :: r.filterMap pi).getD (i+1) 0<=m':=by rw [hm'];exact uD (fun i=>(m :: r.filterMap pi).getD i 0) _ (i+1) hi
      have e2:(m :: r.filterMap pi).getD (i+1) 0=(k.natAbs:Int):=e
      rw [e2] at this
      show k.natAbs<=m'.toNat
      omega) W [] [some (aq W),some (.int 0),none] rfl ⟨0,none,by decide,by omega,fun r m=>(by cases m),rfl⟩
 have key:fX [d0] (.int m):=by
  refine ⟨?_,rfl⟩
  rw [e0]
  exact cr (ao (bJ (d:=.int 0) (bh rfl)) (ao (bH (zK (d:=aq W) rfl (dC W) (dC W)) w) (bx rfl)))
 refine ⟨m,m0,mN,fun i j hi hj=>?_,bG (fun d' h'=>Option.some.inj (h'.1.symm.trans key.1)) key⟩
 have li:i < W.length:=by rw [hs.len];exact hi
 obtain ⟨r,_,_,_,l,e⟩:=ik hs hi hi
 have er:W[i]=r:=by rw [<- e,Zr,Zs li];rfl
 have lj:j < W[i].length:=by rw [er,l];exact hj
 rw [wC li lj]
 exact hm _ (List.getElem_mem li) _ (List.getElem_mem lj)
theorem qX (F:Fun K "_law_most" "_law_most" g6 f fd)    (m_max:mg "max" = none) (m_abs:mg "abs" = none):FnOk P w K mg base CX0 1 f fd ["_law_table"] (bv K 1 (fn fX)):=by
 have sc:=kH
 refine bu F kH (fun cdv A outer s H E ds d hr hG hl=>?_)
 have hb:=aV hG
 have hown:=hb.2
 refine ⟨_,(av (aS 1 sc.nd (aQ ah))
  (av (du 2 sc.nd PassesOwn.never rfl (yo (yb 0))
   (aG (aS 1 sc.nd (BG (zu rfl) Cu rfl m_max xD (qJ (gD (bO (bK 1) cy)) (sA (by exact (eV (ab 2))) (T:=["_law_bound"]) (N:=["_law_bound"]) (js:=[]) (cl:=[]) (fun _ _ _ _ _=>by exact (iC 0 (show List.Nodup (["_law_bound"]:List Str) from by decide +kernel))) (jN 0 (by decide)) (fun _ _ _ _ _=>by exact (qP (iA (ab 0) bB))) (fun _ _ _ _ _=>by exact (aQ (aT t7 zt rfl m_abs PyProof.Rows.boot_abs (ac (ay (ab 0) ah) ag)))) (by exact CompG.of (T:=["_law_bound"]) (Z:=[]) (Y:=[]) (hcl:=(by intro p hp;cases hp)) (hN:=(by intro i y j h1 h2;cases h1)))))))))
  (aG (bt (bK 1))))),?_,?own⟩
 case own=>first | rfl | exact hown
 . show aF ((?f:SD) (aJ 3 _))=_
   exact hb.1
theorem pM:aD ["top","bottom","divisor"] ["top","bottom"] (al kO):=⟨rfl,rfl,rfl,by decide +kernel,rfl,by decide +kernel,by decide +kernel⟩
theorem xh (F:Fun K "lowest" "lowest" kO f fd)  (hcommon_divisor:Has P w K mg base 1 "common_divisor" ["number","above_nought"] (fn cS))  :FnOk P w K mg base CX0 2 f fd ["top","bottom"] (bA K 2 (fn pj)):=by
 have sc:=pM
 refine bS F pM (fun cdv A outer s H E ds d hr hG hl=>?_)
 obtain ⟨t,b,hb,hB,rfl,rfl⟩:=aV hG
 refine ⟨_,(aE (bL 2 sc.nd (au hcommon_divisor hr (ac (ab 0) (ac (ab 1) ag))))
  (aH (aR (d9 (ac (bf (ab 0) (ab 2)) (ac (bf (ab 1) (ab 2)) ag)))))),?_⟩
 . show aF ((?f:SD) [some _,some _,none])=_
   have hg:=c6 (t:=t) hb
   have hgB:Bd (gc t b):=qp (by omega) (qf (t:=t) hb) hB
   simp only [aF,dh,aA,d7,fK,ae,f2,af,aa,cJ,ak,Zc,Zd,Ze,Zf,Zg,cP (a:=t) hb,ap (C:=ax) (i:=t) ⟨hg,hgB⟩,ap (C:=ax) (i:=b) ⟨hg,hgB⟩]
   rfl
theorem pL:aD ["one","top","bottom","shared","part","total","left"] ["one","top","bottom"] (al kN):=⟨rfl,rfl,rfl,by decide +kernel,rfl,by decide +kernel,by decide +kernel⟩
theorem xg (F:Fun K "summed" "summed" kN f fd)  (hcommon_divisor:Has P w K mg base 1 "common_divisor" ["number","above_nought"] (fn cS))  :FnOk P w K mg base CX0 2 f fd ["one","top","bottom"] (bA K 3 (fn iG)):=by
 have sc:=pL
 refine bS F pL (fun cdv A outer s H E ds d hr hG hl=>?_)
 obtain ⟨⟨a,b⟩,⟨c,e⟩,hp,hq,rfl,rfl⟩:=aV hG
 refine ⟨_,(aE (bL 3 sc.nd (au hcommon_divisor hr (ac (ay (ab 0) ah) (ac (ab 2) ag))))
  (aE (bL 4 sc.nd (bf (ay (ab 0) ah) (ab 3)))
  (aE (bL 5 sc.nd (bC (cF (ay (ab 0) ah) (bf (ab 2) (ab 3))) (cF (ab 1) (ab 4))))
  (aE (bL 6 sc.nd (au hcommon_divisor hr (ac (ab 5) (ac (ab 3) ag))))
  (aH (aR (d9 (ac (bf (ab 5) (ab 6)) (ac (cF (ab 4) (bf (ab 2) (ab 6))) ag))))))))),?_⟩
 . show aF ((?f:SD) [some _,some _,some _,none,none,none,none])=_
   have hb:0 < b:=hp.pos
   have he:0 < e:=hq.pos
   have hg:=c6 (t:=b) he
   have hgB:Bd (gc b e):=qp (by omega) (qf (t:=b) he) hq.s2.bd
   have b1:Bd (b / gc b e):=ke hp.s2 hg dG
   have b2:Bd (e / gc b e):=ke hq.s2 hg cB
   have hl:=c6 (t:=a*(e / gc b e)+c*(b / gc b e)) hg
   have hlB:Bd (gc (a*(e / gc b e)+c*(b / gc b e)) (gc b e)):=qp (by omega) (qf (t:=a*(e / gc b e)+c*(b / gc b e)) hg) hgB
   have b3:Bd (e / gc (a*(e / gc b e)+c*(b / gc b e)) (gc b e)):=ke hq.s2 hl (Int.dvd_trans cB cB)
   simp only [aF,dh,aA,d7,fK,ae,fC,f2,af,aa,cJ,ak,c9,eY,bF,Zc,Zd,Ze,Zf,Zg,cP (a:=b) he,ap (C:=ax) (i:=b) ⟨hg,hgB⟩,ap (C:=ax) (i:=e) ⟨hg,hgB⟩,ap (C:=aM) (i:=a) (j:=e / gc b e) ⟨hp.s1.bd,b2⟩,ap (C:=aM) (i:=c) (j:=b / gc b e) ⟨hq.s1.bd,b1⟩,cP (a:=a*(e / gc b e)+c*(b / gc b e)) hg,ap (C:=ax) (i:=a*(e / gc b e)+c*(b / gc b e)) ⟨hl,hlB⟩,ap (C:=ax) (i:=e) ⟨hl,hlB⟩,ap (C:=aM) (i:=b / gc b e) ⟨b1,b3⟩]
   rfl
theorem sa:aD ["one","other","first","second"] ["one","other"] (al mR):=⟨rfl,rfl,rfl,by decide +kernel,rfl,by decide +kernel,by decide +kernel⟩
theorem yD (F:Fun K "times" "times" mR f fd)  (hcommon_divisor:Has P w K mg base 1 "common_divisor" ["number","above_nought"] (fn cS))  :FnOk P w K mg base CX0 2 f fd ["one","other"] (bA K 2 (fn wK)):=by
 have sc:=sa
 refine bS F sa (fun cdv A outer s H E ds d hr hG hl=>?_)
 obtain ⟨⟨a,b⟩,⟨c,e⟩,hp,hq,rfl,rfl⟩:=aV hG
 refine ⟨_,(aE (bL 2 sc.nd (au hcommon_divisor hr (ac (ay (ab 0) ah) (ac (ay (ab 1) ah) ag))))
  (aE (bL 3 sc.nd (au hcommon_divisor hr (ac (ay (ab 1) ah) (ac (ay (ab 0) ah) ag))))
  (aH (aR (d9 (ac (cF (bf (ay (ab 0) ah) (ab 2)) (bf (ay (ab 1) ah) (ab 3))) (ac (cF (bf (ay (ab 0) ah) (ab 3)) (bf (ay (ab 1) ah) (ab 2))) ag))))))),?_⟩
 . show aF ((?f:SD) [some _,some _,none,none])=_
   have hb:0 < b:=hp.pos
   have he:0 < e:=hq.pos
   have hf:=c6 (t:=a) he
   have hs:=c6 (t:=c) hb
   have fB:Bd (gc a e):=qp (by omega) (qf (t:=a) he) hq.s2.bd
   have sB:Bd (gc c b):=qp (by omega) (qf (t:=c) hb) hp.s2.bd
   have b1:Bd (a / gc a e):=ke hp.s1 hf dG
   have b2:Bd (e / gc a e):=ke hq.s2 hf cB
   have b3:Bd (c / gc c b):=ke hq.s1 hs dG
   have b4:Bd (b / gc c b):=ke hp.s2 hs cB
   have e0:ti (a,b) (c,e)=tm a b c e:=CM hp.lw hq.lw
   simp only [aF,dh,aA,d7,fK,ae,fC,f2,af,aa,cJ,ak,c9,eY,Zc,Zd,Ze,Zf,Zg,cP (a:=a) he,cP (a:=c) hb,ap (C:=ax) (i:=a) ⟨hf,fB⟩,ap (C:=ax) (i:=e) ⟨hf,fB⟩,ap (C:=ax) (i:=c) ⟨hs,sB⟩,ap (C:=ax) (i:=b) ⟨hs,sB⟩,ap (C:=aM) (i:=a / gc a e) (j:=c / gc c b) ⟨b1,b3⟩,ap (C:=aM) (i:=b / gc c b) (j:=e / gc a e) ⟨b4,b2⟩,e0]
   rfl
theorem i4:aD ["table","bounds","thing"] ["table"] (al eM):=⟨rfl,rfl,rfl,by decide +kernel,rfl,by decide +kernel,by decide +kernel⟩
theorem l9 (F:Fun K "with_noughts" "with_noughts" eM f fd)  (hcopied:HasF P w K mg base 1 "copied" ["table"] (fn po))  (m_range:mg "range" = none) (m_len:mg "len" = none):FnOk P w K mg base CX0 2 f fd ["table"] (bv K 1 (fn gN)):=by
 have sc:=i4
 refine bu F i4 (fun cdv A outer s H E ds d hr hG hl=>?_)
 obtain ⟨d0,T,n,hT,hs,hn,rfl,rfl⟩:=aV hG
 have hown:=cc (aZ n (cz T))
 refine ⟨_,(av (aS 1 sc.nd (bR hcopied hr (ac (ab 0) ag)))
  (av (du 2 sc.nd PassesOwn.never rfl (ba rfl m_range (ac (aT aK cH rfl m_len PySem.boot_len (ac (ab 0) ag)) ag))
   (aG (mX 1 (aQ (d9 (ac ah (ac jk ag)))) (lC (jX ix_list (pvi 1) (ab 2) (fun _ _=>rfl)) (ab 2) iu))))
  (aG (bt (bK 1))))),?_,?own⟩
 case own=>first | rfl | exact hown
 . show aF ((?f:SD) (aJ 3 _))=_
   have e0:aJ 3 [d0]=[some (aq T),none,none]:=by
    show [some (sh d0),none,none]=_
    rw [show sh d0=aq T from hT]
   rw [e0]
   have len:c8 [aq T]=some (.int (n:Int)):=jJ hs
   have hv:=fun o1 o2:Option D=>dS (g:=aa (ak c8 (aa (ae 0) af)) af) (δ:=[some (aq T),o1,o2]) (n:=n) (by simp only [ae,af,aa,ak,Zc,Zd,len]) (by omega)
   obtain ⟨_,w,o,rfl⟩:=cC (i:=2) (s:=((eF 1 (ae 2) (ae 2) (vI (cJ (aa (fC (.int 0)) (aa (fC (.bl false)) af))))))) (f:=fun (i:Nat)=>D.int (i:Int)) (fun pre δ=>∃ o,δ=[some (aq T),some (aw (aZ n fun i j=>if i=j/\i < pre.length then b0 else aj T i j)),o]) (List.range n) (by
    rintro pre x post _ hx ⟨o,rfl⟩
    obtain ⟨rfl,hl⟩:=bE hx
    refine ⟨_,zM (b:=b0) (bQ n _) hl hl (bh (d:=bdD b0) rfl (ju b0)) rfl rfl rfl,some (.int (pre.length:Int)),?_⟩
    rw [pJ _ _ hl hl]
    have e:aZ n (up2 (fun i j=>if i=j/\i < pre.length then b0 else aj T i j) pre.length pre.length b0)=aZ n fun i j=>if i=j/\i < (pre++[pre.length]).length then b0 else aj T i j:=cY fun i j hi hj=>by
     unfold up2
     rw [Zh,List.length_singleton]
     by_cases a:i=pre.length/\j=pre.length
     . rw [if_pos a,if_pos ⟨by omega,by omega⟩]
     . rw [if_neg a]
       dsimp only
       by_cases b:i=j/\i < pre.length
       . rw [if_pos b,if_pos ⟨b.1,by omega⟩]
       . rw [if_neg b,if_neg fun z=>?_]
         by_cases q:i < pre.length
         . exact b ⟨z.1,q⟩
         . exact a ⟨by omega,by omega⟩
    rw [e]
    rfl) (List.range n) [] [some (aq T),some (aw T),none] rfl ⟨none,by
     have e:aZ n (fun i j=>if i=j/\i < ([]:List Nat).length then b0 else aj T i j)=T:=(cY fun i j _ _=>if_neg fun z=>by have:=z.2;simp at this).trans (zI hs)
     rw [e]⟩
   have e:aZ n (fun i j=>if i=j/\i < (List.range n).length then b0 else aj T i j)=aZ n (cz T):=cY fun i j hi hj=>by
    unfold cz
    rw [List.length_range]
    by_cases a:i=j
    . rw [if_pos a,if_pos ⟨a,hi⟩]
    . rw [if_neg a,if_neg fun z=>a z.1]
   rw [e] at w
   exact cr (ao (be (cq (ds:=[aq T]) rfl (zn (dC T) hs hn) (cc T))) (ao (bH (hv _ _) w) (bx (ie rfl))))
theorem i7:aD ["bounds","ways","middle","i","j","total"] ["bounds","ways","middle"] (al eP):=⟨rfl,rfl,rfl,by decide +kernel,rfl,by decide +kernel,by decide +kernel⟩
theorem mB (F:Fun K "lead_through" "lead_through" eP f fd)  (hbound_sum:Has P w K mg base 1 "bound_sum" ["one","other"] (fn ck)) (htighter:Has P w K mg base 1 "tighter" ["one","other"] (fn dr))  (m_range:mg "range" = none) (m_len:mg "len" = none):FnOk P w K mg base CX0 2 f fd ["bounds","ways","middle"] (sR K 3 (fnM fu)):=by
 have sc:=i7
 refine B8 F i7 (fun cdv A outer s H E Z d0 d1 es d0' d1' hr zk hG=>?_)
 obtain ⟨n,m,f,p,ok,h0,hds,hp⟩:=AB hG
 injection hds with a1 hds
 injection hds with a2 hds
 subst a1 a2 hds
 cases hp
 refine ⟨_,(qI (x9 3 zk sc.nd PassesOwn.never rfl (ba rfl m_range (ac (aT aK cH rfl m_len PySem.boot_len (ac (ab 0) ag)) ag))
  (qI (x9 4 zk sc.nd PassesOwn.never rfl (ba rfl m_range (ac (aT aK cH rfl m_len PySem.boot_len (ac (ab 0) ag)) ag))
   (vw (BC 5 zk sc.nd (aQ (au hbound_sum hr (ac (ay (ay (ab 0) (ab 3)) (ab 2)) (ac (ay (ay (ab 0) (ab 2)) (ab 4)) ag)))))
   (qI (Dd (dw (au htighter hr (ac (ab 5) (ac (ay (ay (ab 0) (ab 3)) (ab 4)) ag)))) (vw (vv 0 (bK 5) (lC (jX ix_list (pvi 0) (ab 3) (fun _ _=>rfl)) (ab 4) iu))
    (qI (vv 1 (mW (ay (ay (ab 1) (ab 3)) (ab 2)) (ay (ay (ab 1) (ab 2)) (ab 4))) (lC (jX ix_list (pvi 1) (ab 3) (fun _ _=>rfl)) (ab 4) iu)))) BD))))))),?_⟩
 . show ∃ δ',(?f:SD) (nJ 6 _ _ _)=some (.nx δ')/\_
   have hm:=ok.mn
   have hn:=ok.n41
   have e0:nJ 6 (aw (aZ n f)) (.lst (aU n p)) [.int (m:Int)]=[some (aw (aZ n f)),some (.lst (aU n p)),some (.int (m:Int)),none,none,none]:=rfl
   rw [e0]
   have row:∀ j,ldF f m m j=f m j/\ldP f p m m j=p m j:=fun j=>by
    unfold ldF ldP
    rw [h0,pc,jd]
    exact ⟨rfl,rfl⟩
   have col:∀ i,ldF f m i m=f i m/\ldP f p m i m=p i m:=fun i=>by
    unfold ldF ldP
    rw [h0,hR,jd]
    exact ⟨rfl,rfl⟩
   obtain ⟨g,hg⟩:∃ g:Nat->Nat->Nat->Nat->Bn,g=fun i j x y=>if x < i \/ (x=i/\y < j) then ldF f m x y else f x y:=⟨_,rfl⟩
   obtain ⟨r,hr'⟩:∃ r:Nat->Nat->Nat->Nat->List Nat,r=fun i j x y=>if x < i \/ (x=i/\y < j) then ldP f p m x y else p x y:=⟨_,rfl⟩
   have g1:∀ i j x,g i j x m=f x m/\r i j x m=p x m:=fun i j x=>by
    rw [hg,hr']
    dsimp only
    split
    . exact col x
    . exact ⟨rfl,rfl⟩
   have g2:∀ i j y,g i j m y=f m y/\r i j m y=p m y:=fun i j y=>by
    rw [hg,hr']
    dsimp only
    split
    . exact row y
    . exact ⟨rfl,rfl⟩
   have g3:∀ i j,g i j i j=f i j/\r i j i j=p i j:=fun i j=>by
    rw [hg,hr']
    dsimp only
    rw [if_neg (by omega),if_neg (by omega)]
    exact ⟨rfl,rfl⟩
   have lenO:=fun i j=>Am (bQ n (g i j))
   have hv:=fun i j (o3 o4 o5:Option D)=>dS (g:=aa (ak c8 (aa (ae 0) af)) af) (δ:=[some (aw (aZ n (g i j))),some (.lst (aU n (r i j))),some (.int (m:Int)),o3,o4,o5]) (n:=n) (by simp only [ae,af,aa,ak,Zc,Zd,lenO]) (by omega)
   have inn:∀ (i:Nat),i < n->∀ o4 o5:Option D,∃ δ',Dl.forM 4 ((aA (az 5 (vI (ak (fn ck) (aa (f2 gIx (f2 gIx (ae 0) (ae 3)) (ae 2)) (aa (f2 gIx (f2 gIx (ae 0) (ae 2)) (ae 4)) af))))) (sIf (fT (ak (fn dr) (aa (ae 5) (aa (f2 gIx (f2 gIx (ae 0) (ae 3)) (ae 4)) af)))) (aA (gB 0 (ae 3) (ae 4) (bD 5)) (gB 1 (ae 3) (ae 4) (ir (f2 gIx (f2 gIx (ae 1) (ae 3)) (ae 2)) (f2 gIx (f2 gIx (ae 1) (ae 2)) (ae 4))))) bc))) ((List.range n).map fun (i:Nat)=>D.int (i:Int)) [some (aw (aZ n (g i 0))),some (.lst (aU n (r i 0))),some (.int (m:Int)),some (.int (i:Int)),o4,o5]=some (.nx δ')/\∃ o4 o5,δ'=[some (aw (aZ n (g i n))),some (.lst (aU n (r i n))),some (.int (m:Int)),some (.int (i:Int)),o4,o5]:=fun i hi o4 o5=>by
    have:=cC (i:=4) (s:=((aA (az 5 (vI (ak (fn ck) (aa (f2 gIx (f2 gIx (ae 0) (ae 3)) (ae 2)) (aa (f2 gIx (f2 gIx (ae 0) (ae 2)) (ae 4)) af))))) (sIf (fT (ak (fn dr) (aa (ae 5) (aa (f2 gIx (f2 gIx (ae 0) (ae 3)) (ae 4)) af)))) (aA (gB 0 (ae 3) (ae 4) (bD 5)) (gB 1 (ae 3) (ae 4) (ir (f2 gIx (f2 gIx (ae 1) (ae 3)) (ae 2)) (f2 gIx (f2 gIx (ae 1) (ae 2)) (ae 4))))) bc)))) (f:=fun (i:Nat)=>D.int (i:Int)) (fun pre δ=>∃ o4 o5,δ=[some (aw (aZ n (g i pre.length))),some (.lst (aU n (r i pre.length))),some (.int (m:Int)),some (.int (i:Int)),o4,o5]) (List.range n) (by
     rintro pre x post _ hx ⟨o4,o5,rfl⟩
     obtain ⟨rfl,hj⟩:=bE hx
     rw [Zh,List.length_singleton]
     generalize pre.length=j at *
     obtain ⟨r1,q1,q2,q3,q4,q5⟩:=ik (bQ n (g i j)) hi hm
     obtain ⟨r2,u1,u2,u3,u4,u5⟩:=ik (bQ n (g i j)) hm hj
     obtain ⟨r3,v1,v2,v3,v4,v5⟩:=ik (bQ n (g i j)) hi hj
     rw [bV _ hi hm,(g1 i j i).1] at q2
     rw [bV _ hm hj,(g2 i j j).1] at u2
     rw [bV _ hi hj,(g3 i j).1] at v2
     have s1:((az 5 (vI (ak (fn ck) (aa (f2 gIx (f2 gIx (ae 0) (ae 3)) (ae 2)) (aa (f2 gIx (f2 gIx (ae 0) (ae 2)) (ae 4)) af)))))) [some (aw (aZ n (g i j))),some (.lst (aU n (r i j))),some (.int (m:Int)),some (.int (i:Int)),some (.int (j:Int)),o5]=some (.nx [some (aw (aZ n (g i j))),some (.lst (aU n (r i j))),some (.int (m:Int)),some (.int (i:Int)),some (.int (j:Int)),some (bdD (bs (f i m) (f m j)))]):=bJ (bh (d:=bdD (bs (f i m) (f m j))) (by simp only [ae,f2,af,aa,ak,Zc,Zd,Ze,q1,q2,u1,u2,lZ]) (ju _))
     cases ht:tgt (bs (f i m) (f m j)) (f i j) with
     | false =>
      refine ⟨_,ao s1 (bY (by simp only [ae,f2,fT,asB,af,aa,ak,Zc,Zd,Ze,v1,v2,lM,ht]) rfl),some (.int (j:Int)),some (bdD (bs (f i m) (f m j))),?_⟩
      have t1:aZ n (g i j)=aZ n (g i (j+1)):=cY fun x y hx hy=>by
       rw [hg]
       dsimp only
       by_cases z:x < i \/ (x=i/\y < j)
       . rw [if_pos z,if_pos (by omega)]
       . rw [if_neg z]
         by_cases z2:x=i/\y=j
         . rw [if_pos (by omega)]
           obtain ⟨rfl,rfl⟩:=z2
           unfold ldF
           rw [ht]
           rfl
         . rw [if_neg (by omega)]
      have t2:aU n (r i j)=aU n (r i (j+1)):=fJ fun x y hx hy=>by
       rw [hr']
       dsimp only
       by_cases z:x < i \/ (x=i/\y < j)
       . rw [if_pos z,if_pos (by omega)]
       . rw [if_neg z]
         by_cases z2:x=i/\y=j
         . rw [if_pos (by omega)]
           obtain ⟨rfl,rfl⟩:=z2
           unfold ldP
           rw [ht]
           rfl
         . rw [if_neg (by omega)]
      rw [t1,t2]
     | true =>
      obtain ⟨w1,w2⟩:=tj (r i j) hi hm
      obtain ⟨w3,w4⟩:=tj (r i j) hm hj
      rw [(g1 i j i).2] at w2
      rw [(g2 i j j).2] at w4
      have l1:=ok.ln i m hi hm
      have l2:=ok.ln m j hm hj
      have ei:bP (p i m++p m j)=bP (p i m)++bP (p m j):=List.map_append
      have t1:j4 (aZ n (g i j)) i j (bs (f i m) (f m j))=aZ n (g i (j+1)):=by
       rw [pJ _ _ hi hj]
       refine cY fun x y hx hy=>?_
       rw [hg]
       unfold up2
       dsimp only
       by_cases z2:x=i/\y=j
       . rw [if_pos z2,if_pos (by omega)]
         obtain ⟨rfl,rfl⟩:=z2
         unfold ldF
         rw [ht]
         rfl
       . rw [if_neg z2]
         by_cases z:x < i \/ (x=i/\y < j)
         . rw [if_pos z,if_pos (by omega)]
         . rw [if_neg z,if_neg (by omega)]
      have t2:(aU n (r i j)).set i (.lst ((gh n (r i j i)).set j (.lst (bP (p i m++p m j)))))=aU n (r i (j+1)):=by
       rw [xV _ _ hi hj]
       refine fJ fun x y hx hy=>?_
       rw [hr']
       unfold up2
       dsimp only
       by_cases z2:x=i/\y=j
       . rw [if_pos z2,if_pos (by omega)]
         obtain ⟨rfl,rfl⟩:=z2
         unfold ldP
         rw [ht]
         rfl
       . rw [if_neg z2]
         by_cases z:x < i \/ (x=i/\y < j)
         . rw [if_pos z,if_pos (by omega)]
         . rw [if_neg z,if_neg (by omega)]
      have p1:=vn (δ:=[some (aw (aZ n (g i j))),some (.lst (aU n (r i j))),some (.int (m:Int)),some (.int (i:Int)),some (.int (j:Int)),some (bdD (bs (f i m) (f m j)))]) (p:=0) (fk:=ae 3) (fl:=ae 4) (fm:=bD 5) (v:=bdD (bs (f i m) (f m j))) (i:=i) (j:=j) (nG rfl) rfl rfl v3 rfl (by rw [jr,v4];exact hj)
      rw [lA v5,t1] at p1
      have p1':gB 0 (ae 3) (ae 4) (bD 5) [some (aw (aZ n (g i j))),some (.lst (aU n (r i j))),some (.int (m:Int)),some (.int (i:Int)),some (.int (j:Int)),some (bdD (bs (f i m) (f m j)))]=some (.nx [some (aw (aZ n (g i (j+1)))),some (.lst (aU n (r i j))),some (.int (m:Int)),some (.int (i:Int)),some (.int (j:Int)),some (bdD (bs (f i m) (f m j)))]):=by
       rw [p1]
       unfold aw
       rfl
      have p2:=vn (δ:=[some (aw (aZ n (g i (j+1)))),some (.lst (aU n (r i j))),some (.int (m:Int)),some (.int (i:Int)),some (.int (j:Int)),some (bdD (bs (f i m) (f m j)))]) (p:=1) (fk:=ae 3) (fl:=ae 4) (fm:=ir (f2 gIx (f2 gIx (ae 1) (ae 3)) (ae 2)) (f2 gIx (f2 gIx (ae 1) (ae 2)) (ae 4))) (v:=.lst (bP (p i m++p m j))) (i:=i) (j:=j) (by
       rw [ei]
       exact qu (a:=.lst (bP (p i m))) (b:=.lst (bP (p m j))) (by simp only [ae,f2,Zc,Zd,Ze,w1,w2]) (by simp only [ae,f2,Zc,Zd,Ze,w3,w4]) rfl rfl (by unfold bP;rw [Zi,Zi];omega) (by rw [<- ei];exact oG _)) rfl rfl (bg _ hi) rfl (by unfold gh;rw [Zi,List.length_range];exact hj)
      rw [t2] at p2
      have p2':gB 1 (ae 3) (ae 4) (ir (f2 gIx (f2 gIx (ae 1) (ae 3)) (ae 2)) (f2 gIx (f2 gIx (ae 1) (ae 2)) (ae 4))) [some (aw (aZ n (g i (j+1)))),some (.lst (aU n (r i j))),some (.int (m:Int)),some (.int (i:Int)),some (.int (j:Int)),some (bdD (bs (f i m) (f m j)))]=some (.nx [some (aw (aZ n (g i (j+1)))),some (.lst (aU n (r i (j+1)))),some (.int (m:Int)),some (.int (i:Int)),some (.int (j:Int)),some (bdD (bs (f i m) (f m j)))]):=by
       rw [p2]
       rfl
      have cnd:(fT (ak (fn dr) (aa (ae 5) (aa (f2 gIx (f2 gIx (ae 0) (ae 3)) (ae 4)) af)))) [some (aw (aZ n (g i j))),some (.lst (aU n (r i j))),some (.int (m:Int)),some (.int (i:Int)),some (.int (j:Int)),some (bdD (bs (f i m) (f m j)))]=some true:=by simp only [ae,f2,fT,asB,af,aa,ak,Zc,Zd,Ze,v1,v2,lM,ht]
      exact ⟨_,ao s1 (cE cnd (ao p1' p2')),some (.int (j:Int)),some (bdD (bs (f i m) (f m j))),rfl⟩) (List.range n) [] [some (aw (aZ n (g i 0))),some (.lst (aU n (r i 0))),some (.int (m:Int)),some (.int (i:Int)),o4,o5] rfl ⟨_,_,rfl⟩
    rw [List.length_range] at this
    exact this
   have nxt:∀ i,aZ n (g i n)=aZ n (g (i+1) 0)/\aU n (r i n)=aU n (r (i+1) 0):=fun i=>by
    refine ⟨cY fun x y hx hy=>?_,fJ fun x y hx hy=>?_⟩
    . rw [hg]
      dsimp only
      by_cases z:x < i \/ (x=i/\y < n)
      . rw [if_pos z,if_pos (by omega)]
      . rw [if_neg z,if_neg (by omega)]
    . rw [hr']
      dsimp only
      by_cases z:x < i \/ (x=i/\y < n)
      . rw [if_pos z,if_pos (by omega)]
      . rw [if_neg z,if_neg (by omega)]
   obtain ⟨_,w,o3,o4,o5,rfl⟩:=cC (i:=3) (s:=((eS (dE (aa (ak c8 (aa (ae 0) af)) af)) 4 (aA (az 5 (vI (ak (fn ck) (aa (f2 gIx (f2 gIx (ae 0) (ae 3)) (ae 2)) (aa (f2 gIx (f2 gIx (ae 0) (ae 2)) (ae 4)) af))))) (sIf (fT (ak (fn dr) (aa (ae 5) (aa (f2 gIx (f2 gIx (ae 0) (ae 3)) (ae 4)) af)))) (aA (gB 0 (ae 3) (ae 4) (bD 5)) (gB 1 (ae 3) (ae 4) (ir (f2 gIx (f2 gIx (ae 1) (ae 3)) (ae 2)) (f2 gIx (f2 gIx (ae 1) (ae 2)) (ae 4))))) bc))))) (f:=fun (i:Nat)=>D.int (i:Int)) (fun pre δ=>∃ o3 o4 o5,δ=[some (aw (aZ n (g pre.length 0))),some (.lst (aU n (r pre.length 0))),some (.int (m:Int)),o3,o4,o5]) (List.range n) (by
    rintro pre x post _ hx ⟨o3,o4,o5,rfl⟩
    obtain ⟨rfl,hi⟩:=bE hx
    rw [Zh,List.length_singleton]
    generalize pre.length=i at *
    obtain ⟨_,f1,o4',o5',rfl⟩:=inn i hi o4 o5
    rw [(nxt i).1,(nxt i).2] at f1
    exact ⟨_,bH (hv i 0 _ _ _) f1,_,_,_,rfl⟩) (List.range n) [] [some (aw (aZ n (g 0 0))),some (.lst (aU n (r 0 0))),some (.int (m:Int)),none,none,none] rfl ⟨_,_,_,rfl⟩
   rw [List.length_range] at w
   have z1:aZ n (g 0 0)=aZ n f:=cY fun x y hx hy=>by rw [hg];exact if_neg (by omega)
   have z2:aU n (r 0 0)=aU n p:=fJ fun x y hx hy=>by rw [hr'];exact if_neg (by omega)
   have z3:aZ n (g n 0)=aZ n (ldF f m):=cY fun x y hx hy=>by rw [hg];exact if_pos (by omega)
   have z4:aU n (r n 0)=aU n (ldP f p m):=fJ fun x y hx hy=>by rw [hr'];exact if_pos (by omega)
   have hv0:=hv 0 0 none none none
   rw [z1,z2] at w hv0
   rw [z3,z4] at w
   exact ⟨_,bH hv0 w,rfl,rfl⟩
theorem pK:aD ["one","other","i","j"] ["one","other"] (al kM):=⟨rfl,rfl,rfl,by decide +kernel,rfl,by decide +kernel,by decide +kernel⟩
theorem xf (F:Fun K "within" "within" kM f fd)  (htighter:Has P w K mg base 1 "tighter" ["one","other"] (fn dr))  (m_range:mg "range" = none) (m_len:mg "len" = none):FnOk P w K mg base CX0 2 f fd ["one","other"] (bv K 2 (fn lg)):=by
 have sc:=pK
 refine bu F pK (fun cdv A outer s H E ds d hr hG hl=>?_)
 obtain ⟨d0,d1,U,W,n,h0,h1,hs,hw,hn,rfl,rfl⟩:=aV hG
 have hown:own (.bl (wi U W n))=true:=rfl
 refine ⟨_,(av (du 2 sc.nd PassesOwn.never rfl (ba rfl m_range (ac (aT aK cH rfl m_len PySem.boot_len (ac (ab 0) ag)) ag))
  (aG (du 3 sc.nd PassesOwn.never rfl (ba rfl m_range (ac (aT aK cH rfl m_len PySem.boot_len (ac (ab 0) ag)) ag))
   (aG (eU (dw (au htighter hr (ac (ay (ay (ab 1) (ab 2)) (ab 3)) (ac (ay (ay (ab 0) (ab 2)) (ab 3)) ag)))) (aG (bt (aQ jk))) c4)))))
  (aG (bt (aQ jk)))),?_,?own⟩
 case own=>first | rfl | exact hown
 . show aF ((?f:SD) (aJ 4 _))=_
   have e0:aJ 4 [d0,d1]=[some (aq U),some (aq W),none,none]:=by
    show [some (sh d0),some (sh d1),none,none]=_
    rw [show sh d0=aq U from h0,show sh d1=aq W from h1]
   rw [e0]
   have len:c8 [aq U]=some (.int (n:Int)):=jJ hs
   have hv:=fun o2 o3:Option D=>dS (g:=aa (ak c8 (aa (ae 0) af)) af) (δ:=[some (aq U),some (aq W),o2,o3]) (n:=n) (by simp only [ae,af,aa,ak,Zc,Zd,len]) (by omega)
   have one:=fun (i:Nat) (hi:i < n) (o3:Option D)=>jv (i:=3) (s:=((sIf (fT (ak (fn dr) (aa (f2 gIx (f2 gIx (ae 1) (ae 2)) (ae 3)) (aa (f2 gIx (f2 gIx (ae 0) (ae 2)) (ae 3)) af)))) (dO (vI (fC (.bl false)))) bc))) (f:=fun (i:Nat)=>D.int (i:Int)) (d:=.bl false) (fun δ=>∃ o3,δ=[some (aq U),some (aq W),some (.int (i:Int)),o3]) (fun j=>!tgt (aj W i j) (aj U i j)) (List.range n) [some (aq U),some (aq W),some (.int (i:Int)),o3] ⟨_,rfl⟩ (by
    rintro j hj _ ⟨o3,rfl⟩
    have hj:=Zn.mp hj
    obtain ⟨r1,a1,a2⟩:=iP hs hi hj
    obtain ⟨r2,b1,b2⟩:=iP hw hi hj
    have tt:=lM (a:=aj W i j) (b:=aj U i j)
    refine ⟨fun hb=>?_,fun hb=>?_⟩
    . have z:tgt (aj W i j) (aj U i j)=false:=by simpa using hb
      rw [z] at tt
      exact ⟨_,bY (by simp only [ae,f2,fT,asB,af,aa,ak,Zc,Zd,Ze,Zf,Zg,ly,a1,a2,b1,b2,tt]) rfl,_,rfl⟩
    . have z:tgt (aj W i j) (aj U i j)=true:=by simpa using hb
      rw [z] at tt
      exact cE (by simp only [ae,f2,fT,asB,af,aa,ak,Zc,Zd,Ze,Zf,Zg,ly,a1,a2,b1,b2,tt]) (bx rfl))
   obtain ⟨k1,k2⟩:=jv (i:=2) (s:=((eS (dE (aa (ak c8 (aa (ae 0) af)) af)) 3 (sIf (fT (ak (fn dr) (aa (f2 gIx (f2 gIx (ae 1) (ae 2)) (ae 3)) (aa (f2 gIx (f2 gIx (ae 0) (ae 2)) (ae 3)) af)))) (dO (vI (fC (.bl false)))) bc)))) (f:=fun (i:Nat)=>D.int (i:Int)) (d:=.bl false) (fun δ=>∃ o2 o3,δ=[some (aq U),some (aq W),o2,o3]) (fun i=>(List.range n).all fun j=>!tgt (aj W i j) (aj U i j)) (List.range n) [some (aq U),some (aq W),none,none] ⟨_,_,rfl⟩ (by
    rintro i hi _ ⟨o2,o3,rfl⟩
    have hi:=Zn.mp hi
    obtain ⟨w1,w2⟩:=one i hi o3
    refine ⟨fun hb=>?_,fun hb=>bH (hv _ _) (w2 hb)⟩
    obtain ⟨_,w1',p3,rfl⟩:=w1 hb
    exact ⟨_,bH (hv _ _) w1',_,_,rfl⟩)
   cases z:wi U W n with
   | true =>
    obtain ⟨_,w,p2,p3,rfl⟩:=k1 z
    exact cr (ao (bH (hv _ _) w) (bx rfl))
   | false=>exact cr (dU (bH (hv _ _) (k2 z)))
theorem lT:aD ["parts","told","part"] ["parts"] (al iK):=⟨rfl,rfl,rfl,by decide +kernel,rfl,by decide +kernel,by decide +kernel⟩
theorem ij {S:D}:∀ (ps:List (Int×Int)) (o:Option (Int×Int)) (x:Option D),(∀ p∈ps,Fk p)->(∀ p,o=some p->Fk p)->∃ x',kj (jb 2) ((sIf (eZ (fT (f2 cO (ae 1) (fC .non))) (fT (ak (fn gg) (aa (ae 1) (aa (ae 2) af))))) (fK 1 (ae 2)) bc)) (ps.map fr) [some S,some (opD o),x]=some (.nx [some S,some (opD (gre ps o)),x'])
 | [],o,x,_,_=>⟨x,by cases o <;> rfl⟩
 | p :: ps,o,x,hp,ho=>by
  have h1:=hp p Zj
  have h2:∀ r∈ps,Fk r:=fun r m=>hp r (Zk _ m)
  cases o with
  | none =>
   obtain ⟨x',e⟩:=ij (S:=S) ps (some p) (some (fr p)) h2 (fun q e=>by cases e;exact h1)
   refine ⟨x',?_⟩
   rw [Zq]
   simp only [bc,fK,sIf,jb,kj,ae,fC,f2,fT,asB,eZ,af,aa,ak,Zc,Zd,Ze,Zf,Zg,cO,bo,opD,cO,bo] at e ⊢
   exact e
  | some q =>
   have hq:=ho q rfl
   have el:=e2 (op:=fun p q=>D.bl (decide (p.1*q.2 < q.1*p.2))) hq h1
   obtain ⟨x',e⟩:=ij (S:=S) ps (some (if q.1*p.2 < p.1*q.2 then p else q)) (some (fr p)) h2 (fun r e=>by
    cases e
    split
    . exact h1
    . exact hq)
   refine ⟨x',?_⟩
   rw [Zq]
   by_cases c:q.1*p.2 < p.1*q.2
   . rw [if_pos c] at e
     rw [decide_eq_true c] at el
     simp only [bc,fK,sIf,jb,kj,ae,fC,f2,fT,asB,eZ,af,aa,ak,Zc,Zd,Ze,Zf,Zg,cO,bo,opD,cO,bo,el] at e ⊢
     rw [show gre (p :: ps) (some q)=gre ps (some p) by show gre ps (some (if q.1*p.2 < p.1*q.2 then p else q))=_;rw [if_pos c]]
     exact e
   . rw [if_neg c] at e
     rw [decide_eq_false c] at el
     simp only [bc,fK,sIf,jb,kj,ae,fC,f2,fT,asB,eZ,af,aa,ak,Zc,Zd,Ze,Zf,Zg,cO,bo,opD,cO,bo,el] at e ⊢
     rw [show gre (p :: ps) (some q)=gre ps (some q) by show gre ps (some (if q.1*p.2 < p.1*q.2 then p else q))=_;rw [if_neg c]]
     exact e
theorem sN (F:Fun K "greatest" "greatest" iK f fd)  (hless:Has P w K mg base 1 "less" ["one","other"] (fn gg))  :FnOk P w K mg base CX0 2 f fd ["parts"] (bA K 1 (fn gP)):=by
 have sc:=lT
 refine bS F lT (fun cdv A outer s H E ds d hr hG hl=>?_)
 obtain ⟨x,ps,hx,hp,rfl,rfl⟩:=aV hG
 refine ⟨_,(aE (bL 1 sc.nd bB)
  (aE (vy PassesOwn.never rfl (eV (ab 0)) (iC 2 sc.nd)
   (aH (cZ (PWD.pt (j6 (dB (ab 1) bB) (iL (dw (au hless hr (ac (ab 1) (ac (ab 2) ag))))))) (aH (bL 1 sc.nd (ab 2))) cf)))
  (aH (aR (ab 1))))),?_⟩
 . show aF ((?f:SD) [some _,none,none])=_
   obtain ⟨x',e⟩:=ij (S:=x) ps none none hp (fun p e=>nomatch e)
   have e':zO (fun δ=>(ae 0 δ).bind asL) (jb 2) ((sIf (eZ (fT (f2 cO (ae 1) (fC .non))) (fT (ak (fn gg) (aa (ae 1) (aa (ae 2) af))))) (fK 1 (ae 2)) bc)) [some x,some .non,none]=some (.nx [some x,some (opD (gre ps none)),x']):=by
    show ((asL x).bind fun ds=>kj (jb 2) ((sIf (eZ (fT (f2 cO (ae 1) (fC .non))) (fT (ak (fn gg) (aa (ae 1) (aa (ae 2) af))))) (fK 1 (ae 2)) bc)) ds [some x,some .non,none])=_
    rw [hx]
    exact e
   exact (congrArg (fun z=>aF (Option.bind z (dh (d7 (ae 1))))) e').trans rfl
theorem se:aD ["parts","told","part"] ["parts"] (al mT):=⟨rfl,rfl,rfl,by decide +kernel,rfl,by decide +kernel,by decide +kernel⟩
theorem kg {S:D}:∀ (ps:List (Int×Int)) (o:Option (Int×Int)) (x:Option D),(∀ p∈ps,Fk p)->(∀ p,o=some p->Fk p)->∃ x',kj (jb 2) ((sIf (eZ (fT (f2 cO (ae 1) (fC .non))) (fT (ak (fn gg) (aa (ae 2) (aa (ae 1) af))))) (fK 1 (ae 2)) bc)) (ps.map fr) [some S,some (opD o),x]=some (.nx [some S,some (opD (lea ps o)),x'])
 | [],o,x,_,_=>⟨x,by cases o <;> rfl⟩
 | p :: ps,o,x,hp,ho=>by
  have h1:=hp p Zj
  have h2:∀ r∈ps,Fk r:=fun r m=>hp r (Zk _ m)
  cases o with
  | none =>
   obtain ⟨x',e⟩:=kg (S:=S) ps (some p) (some (fr p)) h2 (fun q e=>by cases e;exact h1)
   refine ⟨x',?_⟩
   rw [Zq]
   simp only [bc,fK,sIf,jb,kj,ae,fC,f2,fT,asB,eZ,af,aa,ak,Zc,Zd,Ze,Zf,Zg,cO,bo,opD,cO,bo] at e ⊢
   exact e
  | some q =>
   have hq:=ho q rfl
   have el:=e2 (op:=fun p q=>D.bl (decide (p.1*q.2 < q.1*p.2))) h1 hq
   obtain ⟨x',e⟩:=kg (S:=S) ps (some (if p.1*q.2 < q.1*p.2 then p else q)) (some (fr p)) h2 (fun r e=>by
    cases e
    split
    . exact h1
    . exact hq)
   refine ⟨x',?_⟩
   rw [Zq]
   by_cases c:p.1*q.2 < q.1*p.2
   . rw [if_pos c] at e
     rw [decide_eq_true c] at el
     simp only [bc,fK,sIf,jb,kj,ae,fC,f2,fT,asB,eZ,af,aa,ak,Zc,Zd,Ze,Zf,Zg,cO,bo,opD,cO,bo,el] at e ⊢
     rw [show lea (p :: ps) (some q)=lea ps (some p) by show lea ps (some (if p.1*q.2 < q.1*p.2 then p else q))=_;rw [if_pos c]]
     exact e
   . rw [if_neg c] at e
     rw [decide_eq_false c] at el
     simp only [bc,fK,sIf,jb,kj,ae,fC,f2,fT,asB,eZ,af,aa,ak,Zc,Zd,Ze,Zf,Zg,cO,bo,opD,cO,bo,el] at e ⊢
     rw [show lea (p :: ps) (some q)=lea ps (some q) by show lea ps (some (if p.1*q.2 < q.1*p.2 then p else q))=_;rw [if_neg c]]
     exact e
theorem yF (F:Fun K "least" "least" mT f fd)  (hless:Has P w K mg base 1 "less" ["one","other"] (fn gg))  :FnOk P w K mg base CX0 2 f fd ["parts"] (bA K 1 (fn rR)):=by
 have sc:=se
 refine bS F se (fun cdv A outer s H E ds d hr hG hl=>?_)
 obtain ⟨x,ps,hx,hp,rfl,rfl⟩:=aV hG
 refine ⟨_,(aE (bL 1 sc.nd bB)
  (aE (vy PassesOwn.never rfl (eV (ab 0)) (iC 2 sc.nd)
   (aH (cZ (PWD.pt (j6 (dB (ab 1) bB) (iL (dw (au hless hr (ac (ab 2) (ac (ab 1) ag))))))) (aH (bL 1 sc.nd (ab 2))) cf)))
  (aH (aR (ab 1))))),?_⟩
 . show aF ((?f:SD) [some _,none,none])=_
   obtain ⟨x',e⟩:=kg (S:=x) ps none none hp (fun p e=>nomatch e)
   have e':zO (fun δ=>(ae 0 δ).bind asL) (jb 2) ((sIf (eZ (fT (f2 cO (ae 1) (fC .non))) (fT (ak (fn gg) (aa (ae 2) (aa (ae 1) af))))) (fK 1 (ae 2)) bc)) [some x,some .non,none]=some (.nx [some x,some (opD (lea ps none)),x']):=by
    show ((asL x).bind fun ds=>kj (jb 2) ((sIf (eZ (fT (f2 cO (ae 1) (fC .non))) (fT (ak (fn gg) (aa (ae 2) (aa (ae 1) af))))) (fK 1 (ae 2)) bc)) ds [some x,some .non,none])=_
    rw [hx]
    exact e
   exact (congrArg (fun z=>aF (Option.bind z (dh (d7 (ae 1))))) e').trans rfl
theorem gW:aD ["_law_seed","_law_k","_law_most_here","_law_cell","_law_table","_law_i","_law_j","_law_digit","_law_bound","_law_drawn"] ["_law_seed","_law_k","_law_most_here"] (al dI):=⟨rfl,rfl,rfl,by decide +kernel,rfl,by decide +kernel,by decide +kernel⟩
def bI (ds:List D) (d:D):Prop:=aF (((aA (az 3 (bD 0)) (aA (az 4 (jc gj)) (aA (eS (dE (aa (f2 bi (ae 1) (fC (.int 1))) af)) 5 (aA (qF 4 (jc gj)) (eS (dE (aa (f2 bi (ae 1) (fC (.int 1))) af)) 6 (aA (az 7 (vI (f2 (gI (fun _ j=>0 < j) fun i j=>.int (i % j)) (ae 3) (f2 bi (f2 (gI aM fun i j=>.int (i*j)) (fC (.int 4)) (ae 2)) (fC (.int 3)))))) (aA (sIf (fT (f2 gIn (ae 3) (cJ (aa (fC (.int 0)) (aa (f1 gH (fC (.int 1))) af))))) (aA (az 9 (cg (fn aP) (aa (ae 0) (aa (f2 bi (f2 (gI aM fun i j=>.int (i*j)) (fC (.int 9)) (ae 5)) (ae 6)) af)))) (az 7 (vI (f2 gIx (db (aa (fC (.int 0)) (aa (fC (.int 0)) (aa (f2 bi (fC (.int 1)) (f2 (gI (fun _ j=>0 < j) fun i j=>.int (i % j)) (f2 (gI ax fun i j=>.int (i / j)) (ae 9) (fC (.int 3))) (f2 bi (f2 (gI aM fun i j=>.int (i*j)) (fC (.int 4)) (ae 2)) (fC (.int 2))))) af)))) (f2 (gI (fun _ j=>0 < j) fun i j=>.int (i % j)) (ae 9) (fC (.int 3))))))) bc) (aA (az 3 (vI (f2 (gI ax fun i j=>.int (i / j)) (ae 3) (f2 bi (f2 (gI aM fun i j=>.int (i*j)) (fC (.int 4)) (ae 2)) (fC (.int 3)))))) (aA (az 8 (vI (fC .non))) (aA (sIf (fT (f2 gGt (ae 7) (fC (.int 0)))) (az 8 (vI (cJ (aa (f2 (gI0 fun i j=>.int (i - j)) (f2 (gI ax fun i j=>.int (i / j)) (f2 (gI0 fun i j=>.int (i - j)) (ae 7) (fC (.int 1))) (fC (.int 2))) (ae 2)) (aa (f2 cv (f2 (gI (fun _ j=>0 < j) fun i j=>.int (i % j)) (ae 7) (fC (.int 2))) (fC (.int 0))) af))))) bc) (ja 4 (ae 5) (bD 8)))))))))) (dO (bD 4)))))) (aJ 10 ds))=some d/\own d=true
theorem DI (seed k most c:Int) (T:List (List Bn)) (r:List Bn) (i j:Nat) (o7 o8 o9:Option D) (hm0:0<=most) (hm1:most<=10 ^ 55) (hT:T.length=i) (hr:r.length=j) (hi:i<=40) (hj:j<=40):∃ (c':Int) (b:Bn) (p7 p9:Option D),Bk 190 b /\
 ((aA (az 7 (vI (f2 (gI (fun _ j=>0 < j) fun i j=>.int (i % j)) (ae 3) (f2 bi (f2 (gI aM fun i j=>.int (i*j)) (fC (.int 4)) (ae 2)) (fC (.int 3)))))) (aA (sIf (fT (f2 gIn (ae 3) (cJ (aa (fC (.int 0)) (aa (f1 gH (fC (.int 1))) af))))) (aA (az 9 (cg (fn aP) (aa (ae 0) (aa (f2 bi (f2 (gI aM fun i j=>.int (i*j)) (fC (.int 9)) (ae 5)) (ae 6)) af)))) (az 7 (vI (f2 gIx (db (aa (fC (.int 0)) (aa (fC (.int 0)) (aa (f2 bi (fC (.int 1)) (f2 (gI (fun _ j=>0 < j) fun i j=>.int (i % j)) (f2 (gI ax fun i j=>.int (i / j)) (ae 9) (fC (.int 3))) (f2 bi (f2 (gI aM fun i j=>.int (i*j)) (fC (.int 4)) (ae 2)) (fC (.int 2))))) af)))) (f2 (gI (fun _ j=>0 < j) fun i j=>.int (i % j)) (ae 9) (fC (.int 3))))))) bc) (aA (az 3 (vI (f2 (gI ax fun i j=>.int (i / j)) (ae 3) (f2 bi (f2 (gI aM fun i j=>.int (i*j)) (fC (.int 4)) (ae 2)) (fC (.int 3)))))) (aA (az 8 (vI (fC .non))) (aA (sIf (fT (f2 gGt (ae 7) (fC (.int 0)))) (az 8 (vI (cJ (aa (f2 (gI0 fun i j=>.int (i - j)) (f2 (gI ax fun i j=>.int (i / j)) (f2 (gI0 fun i j=>.int (i - j)) (ae 7) (fC (.int 1))) (fC (.int 2))) (ae 2)) (aa (f2 cv (f2 (gI (fun _ j=>0 < j) fun i j=>.int (i % j)) (ae 7) (fC (.int 2))) (fC (.int 0))) af))))) bc) (ja 4 (ae 5) (bD 8)))))))) [some (.int seed),some (.int k),some (.int most),some (.int c),some (.lst (bw T++[.lst (aY r)])),some (.int (i:Int)),some (.int (j:Int)),o7,o8,o9]=some (.nx [some (.int seed),some (.int k),some (.int most),some (.int c'),some (.lst (bw T++[.lst (aY (r++[b]))])),some (.int (i:Int)),some (.int (j:Int)),p7,some (bdD b),p9]):=by
 have m1:aM 4 most:=⟨cQ,l7 (k:=200) (Sm.of (by omega) (by omega))⟩
 have hd:0 < 4*most+3:=by omega
 have hd2:0 < 4*most+2:=by omega
 have dv:ax c (4*most+3):=⟨hd,l7 (k:=200) (Sm.of (by omega) (by omega))⟩
 have mi9:aM 9 (i:Int):=⟨cQ,cQ (by omega)⟩
 have mx:=iW (c:=seed) (k:=9*(i:Int)+(j:Int)) (by omega) (by omega)
 obtain ⟨w,hw⟩:∃ w,w=mxd seed (9*(i:Int)+(j:Int)):=⟨_,rfl⟩
 rw [<- hw] at mx
 have d3:ax w 3:=⟨by decide,cQ⟩
 have hin:gIn (.int c) (.tup [.int 0,.int (-1)])=some (.bl (c == 0 || c == -1)):=by
  show some (D.bl ([D.int 0,D.int (-1)].any fun y=>eqF y (.int c)))=_
  have e1:((0:Int) == c)=(c == 0):=by rw [Bool.eq_iff_iff,beq_iff_eq,beq_iff_eq];exact eq_comm
  have e2:((-1:Int) == c)=(c == -1):=by rw [Bool.eq_iff_iff,beq_iff_eq,beq_iff_eq];exact eq_comm
  show some (D.bl (((0:Int) == c) || (((-1:Int) == c) || false)))=_
  rw [e1,e2,Bool.or_false]
 obtain ⟨g,p9,hg0,hg1,hst⟩:∃ (g:Int) (p9:Option D),0<=g/\g<=4*most+3/\((sIf (fT (f2 gIn (ae 3) (cJ (aa (fC (.int 0)) (aa (f1 gH (fC (.int 1))) af))))) (aA (az 9 (cg (fn aP) (aa (ae 0) (aa (f2 bi (f2 (gI aM fun i j=>.int (i*j)) (fC (.int 9)) (ae 5)) (ae 6)) af)))) (az 7 (vI (f2 gIx (db (aa (fC (.int 0)) (aa (fC (.int 0)) (aa (f2 bi (fC (.int 1)) (f2 (gI (fun _ j=>0 < j) fun i j=>.int (i % j)) (f2 (gI ax fun i j=>.int (i / j)) (ae 9) (fC (.int 3))) (f2 bi (f2 (gI aM fun i j=>.int (i*j)) (fC (.int 4)) (ae 2)) (fC (.int 2))))) af)))) (f2 (gI (fun _ j=>0 < j) fun i j=>.int (i % j)) (ae 9) (fC (.int 3))))))) bc)) [some (.int seed),some (.int k),some (.int most),some (.int c),some (.lst (bw T++[.lst (aY r)])),some (.int (i:Int)),some (.int (j:Int)),some (.int (c % (4*most+3))),o8,o9]=some (.nx [some (.int seed),some (.int k),some (.int most),some (.int c),some (.lst (bw T++[.lst (aY r)])),some (.int (i:Int)),some (.int (j:Int)),some (.int g),o8,p9]):=by
  cases hc:(c == 0 || c == -1) with
  | false =>
   have q0:=Int.emod_nonneg c (show 4*most+3 ≠ 0 by omega)
   have q1:=Int.emod_lt_of_pos c hd
   exact ⟨c % (4*most+3),o9,q0,by omega,bY (by simp only [ae,fC,f2,f1,fT,asB,gH,af,aa,cJ,Zc,Zd,Ze,hin,hc]) rfl⟩
  | true =>
   have r0:=Int.emod_nonneg (w / 3) (show 4*most+2 ≠ 0 by omega)
   have r1:=Int.emod_lt_of_pos (w / 3) hd2
   have w3:w % 3=0 \/ w % 3=1 \/ w % 3=2:=by omega
   obtain ⟨g,hg0,hg1,hg⟩:∃ g:Int,0<=g/\g<=4*most+3/\gIx (.lst [.int 0,.int 0,.int (1+w / 3 % (4*most+2))]) (.int (w % 3))=some (.int g):=by
    rcases w3 with q | q | q
    . exact ⟨0,by omega,by omega,by rw [q];rfl⟩
    . exact ⟨0,by omega,by omega,by rw [q];rfl⟩
    . exact ⟨1+w / 3 % (4*most+2),by omega,by omega,by rw [q];rfl⟩
   exact ⟨g,some (.int w),hg0,hg1,cE (by simp only [ae,fC,f2,f1,fT,asB,gH,af,aa,cJ,Zc,Zd,Ze,hin,hc]) (ao (be (cq (ds:=[.int seed,.int (9*(i:Int)+(j:Int))]) (by simp only [ae,fC,f2,af,aa,bF,Zc,Zd,Ze,ap (C:=aM) mi9]) mx rfl)) (be (bh (d:=.int g) (by simp only [ae,fC,f2,af,aa,db,bF,Zc,Zd,Ze,Zf,Zg,ap (C:=ax) d3,ap (C:=aM) m1,ap (C:=fun _ j=>0 < j) (i:=w / 3) hd2,ap (C:=fun _ j=>0 < j) (i:=w) (j:=3) (by decide),hg]))))⟩
 have dg:ax (g - 1) 2:=⟨by decide,cQ⟩
 obtain ⟨b,hb,hst2⟩:∃ b:Bn,Bk 190 b/\((sIf (fT (f2 gGt (ae 7) (fC (.int 0)))) (az 8 (vI (cJ (aa (f2 (gI0 fun i j=>.int (i - j)) (f2 (gI ax fun i j=>.int (i / j)) (f2 (gI0 fun i j=>.int (i - j)) (ae 7) (fC (.int 1))) (fC (.int 2))) (ae 2)) (aa (f2 cv (f2 (gI (fun _ j=>0 < j) fun i j=>.int (i % j)) (ae 7) (fC (.int 2))) (fC (.int 0))) af))))) bc)) [some (.int seed),some (.int k),some (.int most),some (.int (c / (4*most+3))),some (.lst (bw T++[.lst (aY r)])),some (.int (i:Int)),some (.int (j:Int)),some (.int g),some .non,p9]=some (.nx [some (.int seed),some (.int k),some (.int most),some (.int (c / (4*most+3))),some (.lst (bw T++[.lst (aY r)])),some (.int (i:Int)),some (.int (j:Int)),some (.int g),some (bdD b),p9]):=by
  by_cases h:0 < g
  . have h1:decide (0 < g)=true:=decide_eq_true h
    refine ⟨some ((g - 1) / 2 - most,g % 2 == 0),Sm.mono (k:=185) (Sm.of (by omega) (by omega)) (by decide),cE (by simp only [ae,fC,f2,fT,asB,gI0,Zc,Zd,Ze,gGt,h1]) (be (bh (by simp only [ae,fC,f2,af,aa,cJ,gI0,Zc,Zd,Ze,bq,ce,ap (C:=ax) dg,ap (C:=fun _ j=>0 < j) (i:=g) (j:=2) (by decide)])))⟩
  . have h1:decide (0 < g)=false:=decide_eq_false h
    exact ⟨none,trivial,bY (by simp only [ae,fC,f2,fT,asB,gI0,Zc,Zd,Ze,gGt,h1]) rfl⟩
 refine ⟨c / (4*most+3),b,some (.int g),p9,hb,?_⟩
 refine ao (be (bh (d:=.int (c % (4*most+3))) (by simp only [ae,fC,f2,bF,Zc,Zd,Ze,ap (C:=aM) m1,ap (C:=fun _ j=>0 < j) (i:=c) hd]))) (ao hst (ao (be (bh (d:=.int (c / (4*most+3))) (by simp only [ae,fC,f2,bF,Zc,Zd,Ze,ap (C:=aM) m1,ap (C:=ax) dv]))) (ao (be (bh (d:=.non) rfl)) (ao hst2 ?_))))
 rw [pR]
 exact qq rfl (by rw [eK,hT];rfl) (nG rfl) (by rw [jr];omega)
theorem ls {seed k most:Int} (hk0:0<=k) (hk1:k<=40) (hm0:0<=most) (hm1:most<=10 ^ 55):∃ T,Grown T (k.toNat+1) (k.toNat+1)/\fn bI [.int seed,.int k,.int most]=some (aw T):=by
 obtain ⟨n,rfl⟩:∃ n:Nat,k=(n:Int):=⟨k.toNat,by omega⟩
 have en:((n:Int)).toNat=n:=by omega
 rw [en]
 have hr:=fun o5 o6 o7 o8 o9 c t=>dS (g:=aa (f2 bi (ae 1) (fC (.int 1))) af) (δ:=[some (.int seed),some (.int (n:Int)),some (.int most),c,t,o5,o6,o7,o8,o9]) (n:=n+1) rfl (by omega)
 have inner:∀ (c:Int) (T:List (List Bn)) (i:Nat) (o6 o7 o8 o9:Option D),T.length=i->i<=40->∃ δ',Dl.forM 6 ((aA (az 7 (vI (f2 (gI (fun _ j=>0 < j) fun i j=>.int (i % j)) (ae 3) (f2 bi (f2 (gI aM fun i j=>.int (i*j)) (fC (.int 4)) (ae 2)) (fC (.int 3)))))) (aA (sIf (fT (f2 gIn (ae 3) (cJ (aa (fC (.int 0)) (aa (f1 gH (fC (.int 1))) af))))) (aA (az 9 (cg (fn aP) (aa (ae 0) (aa (f2 bi (f2 (gI aM fun i j=>.int (i*j)) (fC (.int 9)) (ae 5)) (ae 6)) af)))) (az 7 (vI (f2 gIx (db (aa (fC (.int 0)) (aa (fC (.int 0)) (aa (f2 bi (fC (.int 1)) (f2 (gI (fun _ j=>0 < j) fun i j=>.int (i % j)) (f2 (gI ax fun i j=>.int (i / j)) (ae 9) (fC (.int 3))) (f2 bi (f2 (gI aM fun i j=>.int (i*j)) (fC (.int 4)) (ae 2)) (fC (.int 2))))) af)))) (f2 (gI (fun _ j=>0 < j) fun i j=>.int (i % j)) (ae 9) (fC (.int 3))))))) bc) (aA (az 3 (vI (f2 (gI ax fun i j=>.int (i / j)) (ae 3) (f2 bi (f2 (gI aM fun i j=>.int (i*j)) (fC (.int 4)) (ae 2)) (fC (.int 3)))))) (aA (az 8 (vI (fC .non))) (aA (sIf (fT (f2 gGt (ae 7) (fC (.int 0)))) (az 8 (vI (cJ (aa (f2 (gI0 fun i j=>.int (i - j)) (f2 (gI ax fun i j=>.int (i / j)) (f2 (gI0 fun i j=>.int (i - j)) (ae 7) (fC (.int 1))) (fC (.int 2))) (ae 2)) (aa (f2 cv (f2 (gI (fun _ j=>0 < j) fun i j=>.int (i % j)) (ae 7) (fC (.int 2))) (fC (.int 0))) af))))) bc) (ja 4 (ae 5) (bD 8)))))))) ((List.range (n+1)).map fun (i:Nat)=>D.int (i:Int)) [some (.int seed),some (.int (n:Int)),some (.int most),some (.int c),some (.lst (bw T++[.lst (aY [])])),some (.int (i:Int)),o6,o7,o8,o9]=some (.nx δ')/\∃ (c:Int) (r:List Bn) (o6 o7 o8 o9:Option D),r.length=(List.range (n+1)).length/\(∀ b∈r,Bk 190 b)/\δ'=[some (.int seed),some (.int (n:Int)),some (.int most),some (.int c),some (.lst (bw T++[.lst (aY r)])),some (.int (i:Int)),o6,o7,o8,o9]:=by
  intro c T i o6 o7 o8 o9 hT hi
  refine cC (f:=fun (i:Nat)=>D.int (i:Int)) (fun pre δ=>∃ (c:Int) (r:List Bn) (o6 o7 o8 o9:Option D),r.length=pre.length/\(∀ b∈r,Bk 190 b)/\δ=[some (.int seed),some (.int (n:Int)),some (.int most),some (.int c),some (.lst (bw T++[.lst (aY r)])),some (.int (i:Int)),o6,o7,o8,o9]) (List.range (n+1)) ?_ (List.range (n+1)) [] _ rfl ⟨c,[],o6,o7,o8,o9,rfl,(fun _ m=>nomatch m),rfl⟩
  rintro pre x post _ hx ⟨c,r,o6,o7,o8,o9,hr,hb,rfl⟩
  obtain ⟨rfl,hl⟩:=bE hx
  obtain ⟨c',b,p7,p9,hbb,st⟩:=DI seed (n:Int) most c T r i pre.length o7 o8 o9 hm0 hm1 hT hr hi (by omega)
  refine ⟨_,st,c',r++[b],_,_,_,_,by rw [Zh,Zh,hr];rfl,fun z hz=>?_,rfl⟩
  rcases Zo.mp hz with hz | hz
  . exact hb z hz
  . rw [Zl.mp hz];exact hbb
 obtain ⟨_,w,c,T,o5,o6,o7,o8,o9,hG,rfl⟩:=cC (i:=5) (s:=((aA (qF 4 (jc gj)) (eS (dE (aa (f2 bi (ae 1) (fC (.int 1))) af)) 6 (aA (az 7 (vI (f2 (gI (fun _ j=>0 < j) fun i j=>.int (i % j)) (ae 3) (f2 bi (f2 (gI aM fun i j=>.int (i*j)) (fC (.int 4)) (ae 2)) (fC (.int 3)))))) (aA (sIf (fT (f2 gIn (ae 3) (cJ (aa (fC (.int 0)) (aa (f1 gH (fC (.int 1))) af))))) (aA (az 9 (cg (fn aP) (aa (ae 0) (aa (f2 bi (f2 (gI aM fun i j=>.int (i*j)) (fC (.int 9)) (ae 5)) (ae 6)) af)))) (az 7 (vI (f2 gIx (db (aa (fC (.int 0)) (aa (fC (.int 0)) (aa (f2 bi (fC (.int 1)) (f2 (gI (fun _ j=>0 < j) fun i j=>.int (i % j)) (f2 (gI ax fun i j=>.int (i / j)) (ae 9) (fC (.int 3))) (f2 bi (f2 (gI aM fun i j=>.int (i*j)) (fC (.int 4)) (ae 2)) (fC (.int 2))))) af)))) (f2 (gI (fun _ j=>0 < j) fun i j=>.int (i % j)) (ae 9) (fC (.int 3))))))) bc) (aA (az 3 (vI (f2 (gI ax fun i j=>.int (i / j)) (ae 3) (f2 bi (f2 (gI aM fun i j=>.int (i*j)) (fC (.int 4)) (ae 2)) (fC (.int 3)))))) (aA (az 8 (vI (fC .non))) (aA (sIf (fT (f2 gGt (ae 7) (fC (.int 0)))) (az 8 (vI (cJ (aa (f2 (gI0 fun i j=>.int (i - j)) (f2 (gI ax fun i j=>.int (i / j)) (f2 (gI0 fun i j=>.int (i - j)) (ae 7) (fC (.int 1))) (fC (.int 2))) (ae 2)) (aa (f2 cv (f2 (gI (fun _ j=>0 < j) fun i j=>.int (i % j)) (ae 7) (fC (.int 2))) (fC (.int 0))) af))))) bc) (ja 4 (ae 5) (bD 8))))))))))) (f:=fun (i:Nat)=>D.int (i:Int)) (fun pre δ=>∃ (c:Int) (T:List (List Bn)) (o5 o6 o7 o8 o9:Option D),Grown T pre.length (n+1)/\δ=[some (.int seed),some (.int (n:Int)),some (.int most),some (.int c),some (aw T),o5,o6,o7,o8,o9]) (List.range (n+1)) (by
  rintro pre x post _ hx ⟨c,T,o5,o6,o7,o8,o9,hG,rfl⟩
  obtain ⟨rfl,hl⟩:=bE hx
  obtain ⟨_,w,c',r,p6,p7,p8,p9,h1,h2,rfl⟩:=inner c T pre.length o6 o7 o8 o9 hG.len (by omega)
  refine ⟨_,ao (uj (ds:=bw T) (d:=.lst []) rfl rfl (by rw [eK,hG.len];omega)) (bH (hr _ _ _ _ _ _ _) w),c',T++[r],some (.int (pre.length:Int)),p6,p7,p8,p9,?_,?_⟩
  . rw [Zh]
    exact hG.snoc (by rw [h1,List.length_range]) h2
  . unfold aw
    rw [nV]) (List.range (n+1)) [] [some (.int seed),some (.int (n:Int)),some (.int most),some (.int seed),some (.lst []),none,none,none,none,none] rfl ⟨seed,[],none,none,none,none,none,⟨rfl,(fun _ m=>nomatch m),(fun _ m=>nomatch m)⟩,rfl⟩
 have key:bI [.int seed,.int (n:Int),.int most] (aw T):=⟨cr (δ:=[some (.int seed),some (.int (n:Int)),some (.int most),none,none,none,none,none,none,none]) (ao (be (d:=.int seed) rfl) (ao (be (d:=.lst []) rfl) (ao (bH (hr _ _ _ _ _ _ _) w) (bx (ie rfl))))),cc T⟩
 exact ⟨T,by rw [List.length_range] at hG;exact hG,bG (fun d' h'=>Option.some.inj (h'.1.symm.trans key.1)) key⟩
theorem kY (F:Fun K "_law_any_table" "_law_any_table" dI f fd)  (hLmixed:HasF P w K mg base 1 "_law_mixed" ["_law_cell","_law_k"] (fn aP))  (m_range:mg "range" = none):FnOk P w K mg base CX0 2 f fd ["_law_seed","_law_k","_law_most_here"] (bv K 3 (fn bI)):=by
 have sc:=gW
 refine bu F gW (fun cdv A outer s H E ds d hr hG hl=>?_)
 have hb:=aV hG
 have hown:=hb.2
 refine ⟨_,(av (aS 3 sc.nd (bK 0))
  (av (aS 4 sc.nd (gD cy))
  (av (du 5 sc.nd PassesOwn.never rfl (ba rfl m_range (ac (bC (ab 1) ah) ag))
   (av (uu 4 (sJ PySem.F.plainAttrs_list PySem.F.slot_list_append PySem.F.type_list_append iD (pvi 4) (gv (gD cy) ka)))
   (aG (du 6 sc.nd PassesOwn.never rfl (ba rfl m_range (ac (bC (ab 1) ah) ag))
    (av (aS 7 sc.nd (aQ (bn (ab 3) (bC (cF ah (ab 2)) ah))))
    (av (eU (BH (ab 3) (d9 (ac ah (ac (j9 ah) ag)))) (av (aS 9 sc.nd (bR hLmixed hr (ac (ab 0) (ac (bC (cF ah (ab 5)) (ab 6)) ag))))
     (aG (aS 7 sc.nd (aQ (ay (gE (ac ah (ac ah (ac (bC ah (bn (bf (ab 9) ah) (bC (cF ah (ab 2)) ah))) ag)))) (bn (ab 9) ah)))))) c4)
    (av (aS 3 sc.nd (aQ (bf (ab 3) (bC (cF ah (ab 2)) ah))))
    (av (aS 8 sc.nd (aQ bB))
    (av (eU (yf (ab 7) ah) (aG (aS 8 sc.nd (aQ (d9 (ac (iO (bf (iO (ab 7) ah) ah) (ab 2)) (ac (oh hr.units (bn (ab 7) ah) ah) ag)))))) c4)
    (aG (vC 4 (sJ PySem.F.plainAttrs_list PySem.F.slot_list_append PySem.F.type_list_append iD (jX ix_list (pvi 4) (ab 5) (fun _ _=>rfl)) (gv (bK 8) ka)))))))))))))
  (aG (bt (bK 4)))))),?_,?own⟩
 case own=>first | rfl | exact hown
 . show aF ((?f:SD) (aJ 10 _))=_
   exact hb.1
theorem kG:aD ["_law_cell"] ["_law_cell"] (al g4):=⟨rfl,rfl,rfl,by decide +kernel,rfl,by decide +kernel,by decide +kernel⟩
theorem qW (F:Fun K "_law_part" "_law_part" g4 f fd)  (hLlowest:Has P w K mg base 1 "_law_lowest" ["_law_top","_law_bottom"] (fn iq))  :FnOk P w K mg base CX0 2 f fd ["_law_cell"] (bA K 1 (fn eL)):=by
 have sc:=kG
 refine bS F kG (fun cdv A outer s H E ds d hr hG hl=>?_)
 obtain ⟨c,rfl,rfl⟩:=aV hG
 refine ⟨_,(aE (cZ (yg hr.units0 (bn (ab 0) ah) ah) (aH (aR (au hLlowest hr (ac (iO (bn (bf (ab 0) ah) (bC (cF ah (ux ah ah)) ah)) (ux ah ah)) (ac (bC ah (bn (ab 0) ah)) ag))))) cf)
  (aH (aR (au hLlowest hr (ac (iO (bn (bf (ab 0) ah) ah) ah) (ac (bC ah (bn (bf (ab 0) ah) ah)) ag)))))),?_⟩
 . show aF ((?f:SD) [some _])=_
   have b8:ax c 8:=⟨by decide,cQ⟩
   have b48:ax c 48:=⟨by decide,cQ⟩
   have bp:mI 10 45:=⟨by decide,by decide,by decide⟩
   have e45:(45:Int).toNat=45:=rfl
   have bm:aM 2 (10 ^ 45):=⟨cQ,l7 (k:=200) (show (10 ^ 45:Int).natAbs < 2 ^ 200 by decide)⟩
   by_cases h:c % 8=5
   . have h1:(c % 8 == 5)=true:=by simp [h]
     simp only [aF,bc,dh,aA,d7,sIf,ae,fC,f2,fT,asB,af,aa,ak,gI0,bF,fO,Zc,Zd,ap (C:=fun _ j=>0 < j) (i:=c) (j:=8) (by decide),h1,ap (C:=ax) b8,ap (C:=mI) bp,e45,ap (C:=aM) bm,ap (C:=fun _ j=>0 < j) (i:=c / 8) (j:=2*10 ^ 45+1) (by decide),ap (C:=fun _ j=>0 < j) (i:=c) (j:=9973) (by decide),j1 (t:=c / 8 % (2*10 ^ 45+1) - 10 ^ 45) (b:=1+c % 9973) (by omega) (cQ (by omega))]
     unfold prt
     rw [if_pos h]
   . have h1:(c % 8 == 5)=false:=by simp [h]
     simp only [aF,bc,dh,aA,d7,sIf,ae,fC,f2,fT,asB,af,aa,ak,gI0,bF,fO,Zc,Zd,ap (C:=fun _ j=>0 < j) (i:=c) (j:=8) (by decide),h1,ap (C:=ax) b8,ap (C:=ax) b48,ap (C:=fun _ j=>0 < j) (i:=c / 48) (j:=41) (by decide),ap (C:=fun _ j=>0 < j) (i:=c / 8) (j:=6) (by decide),j1 (t:=c / 48 % 41 - 20) (b:=1+c / 8 % 6) (by omega) (cQ (by omega))]
     unfold prt
     rw [if_neg h]
theorem i8:aD ["_law_script","_law_point","_law_parts","_law_table","_law_i","_law_j","_law_drawn","_law_number","_law_bound","_law_top","_law_bottom"] ["_law_script","_law_point"] (al eQ):=⟨rfl,rfl,rfl,by decide +kernel,rfl,by decide +kernel,by decide +kernel⟩
def cT (ds:List D) (d:D):Prop:=aF (((aA (az 2 (ir (db (aa (cJ (aa (fC (.int 0)) (aa (fC (.int 1)) af))) af)) (ae 1))) (aA (az 3 (jc gj)) (aA (eS (dE (aa (ak c8 (aa (ae 2) af)) af)) 4 (aA (qF 3 (jc gj)) (eS (dE (aa (ak c8 (aa (ae 2) af)) af)) 5 (aA (nR [9,10] (vI (ak (fn cm) (aa (f2 gIx (ae 2) (ae 4)) (aa (f2 gIx (ae 2) (ae 5)) af))))) (aA (az 6 (cg (fn aP) (aa (ak (fn aC) (aa (ae 0) (aa (f2 bi (f2 bi (fC (.int 8)) (f2 (gI aM fun i j=>.int (i*j)) (ak c8 (aa (ae 2) af)) (ae 4))) (ae 5)) af))) (aa (f2 bi (f2 (gI aM fun i j=>.int (i*j)) (fC (.int 9)) (ae 4)) (ae 5)) af)))) (aA (az 7 (vI (f2 bi (f1 gH (f2 (gI ax fun i j=>.int (i / j)) (f1 gH (ae 9)) (ae 10))) (f2 (gI (fun _ j=>0 < j) fun i j=>.int (i % j)) (f2 (gI ax fun i j=>.int (i / j)) (ae 6) (fC (.int 8))) (fC (.int 3)))))) (aA (az 8 (vI (cJ (aa (ae 7) (aa (fV (f2 gGt (f2 (gI aM fun i j=>.int (i*j)) (ae 7) (ae 10)) (ae 9)) (f2 cv (f2 (gI (fun _ j=>0 < j) fun i j=>.int (i % j)) (f2 (gI ax fun i j=>.int (i / j)) (ae 6) (fC (.int 24))) (fC (.int 2))) (fC (.int 1)))) af))))) (aA (sIf (eZ (fT (f2 gLt (f2 (gI (fun _ j=>0 < j) fun i j=>.int (i % j)) (ae 6) (fC (.int 8))) (fC (.int 3)))) (cu (fT (f2 cv (ae 4) (ae 5))) (fT (f2 gLt (f2 (gI (fun _ j=>0 < j) fun i j=>.int (i % j)) (ae 6) (fC (.int 8))) (fC (.int 6)))))) (az 8 (vI (fC .non))) bc) (ja 3 (ae 4) (bD 8)))))))))) (dO (bD 3)))))) (aJ 11 ds))=some d/\own d=true
theorem zL {f:Nat->Int×Int} {r:List Bn} {b:Bn} (h:∀ j,kp (f j) (r.getD j none)=true) (g:kp (f r.length) b=true) (j:Nat):kp (f j) ((r++[b]).getD j none)=true:=by
 rw [Zr]
 by_cases e:j < r.length
 . rw [List.getElem?_append_left e,<- Zr];exact h j
 . by_cases e2:j=r.length
   . subst e2
     rw [List.getElem?_append_right (Nat.le_refl _),Nat.sub_self];exact g
   . rw [List.getElem?_eq_none (by rw [Zh,List.length_singleton];omega)];rfl
theorem wU {f:Nat->Nat->Int×Int} {T:List (List Bn)} {r:List Bn} (h:∀ i j,kp (f i j) (aj T i j)=true) (g:∀ j,kp (f T.length j) (r.getD j none)=true) (i j:Nat):kp (f i j) (aj (T++[r]) i j)=true:=by
 have hh:=h i j
 unfold aj at *
 rw [Zr (l:=T++[r])]
 by_cases e:i < T.length
 . rw [List.getElem?_append_left e,<- Zr];exact hh
 . by_cases e2:i=T.length
   . subst e2
     rw [List.getElem?_append_right (Nat.le_refl _),Nat.sub_self];exact g j
   . rw [List.getElem?_eq_none (by rw [Zh,List.length_singleton];omega)];rfl
theorem Dh (ns:List Int) (P:D) (ps:List (Int×Int)) (T:List (List Bn)) (r:List Bn) (i j:Nat) (o6 o7 o8 o9 o10:Option D) (hp:∀ p∈ps,Fr 200 p) (hp2:∀ p∈ps,Sm 151 p.1/\Sm 14 p.2) (hT:T.length=i) (hr:r.length=j) (hl:ps.length<=40) (hi:i < ps.length+1) (hj:j < ps.length+1):∃ (b:Bn) (p6 p7 p9 p10:Option D),(Bk 190 b/\kp (dif ps i j) b=true) /\
 ((aA (nR [9,10] (vI (ak (fn cm) (aa (f2 gIx (ae 2) (ae 4)) (aa (f2 gIx (ae 2) (ae 5)) af))))) (aA (az 6 (cg (fn aP) (aa (ak (fn aC) (aa (ae 0) (aa (f2 bi (f2 bi (fC (.int 8)) (f2 (gI aM fun i j=>.int (i*j)) (ak c8 (aa (ae 2) af)) (ae 4))) (ae 5)) af))) (aa (f2 bi (f2 (gI aM fun i j=>.int (i*j)) (fC (.int 9)) (ae 4)) (ae 5)) af)))) (aA (az 7 (vI (f2 bi (f1 gH (f2 (gI ax fun i j=>.int (i / j)) (f1 gH (ae 9)) (ae 10))) (f2 (gI (fun _ j=>0 < j) fun i j=>.int (i % j)) (f2 (gI ax fun i j=>.int (i / j)) (ae 6) (fC (.int 8))) (fC (.int 3)))))) (aA (az 8 (vI (cJ (aa (ae 7) (aa (fV (f2 gGt (f2 (gI aM fun i j=>.int (i*j)) (ae 7) (ae 10)) (ae 9)) (f2 cv (f2 (gI (fun _ j=>0 < j) fun i j=>.int (i % j)) (f2 (gI ax fun i j=>.int (i / j)) (ae 6) (fC (.int 24))) (fC (.int 2))) (fC (.int 1)))) af))))) (aA (sIf (eZ (fT (f2 gLt (f2 (gI (fun _ j=>0 < j) fun i j=>.int (i % j)) (ae 6) (fC (.int 8))) (fC (.int 3)))) (cu (fT (f2 cv (ae 4) (ae 5))) (fT (f2 gLt (f2 (gI (fun _ j=>0 < j) fun i j=>.int (i % j)) (ae 6) (fC (.int 8))) (fC (.int 6)))))) (az 8 (vI (fC .non))) bc) (ja 3 (ae 4) (bD 8)))))))) [some (.seq (ns.map D.int)),some P,some (.lst ((cV ps).map fr)),some (.lst (bw T++[.lst (aY r)])),some (.int (i:Int)),some (.int (j:Int)),o6,o7,o8,o9,o10]=some (.nx [some (.seq (ns.map D.int)),some P,some (.lst ((cV ps).map fr)),some (.lst (bw T++[.lst (aY (r++[b]))])),some (.int (i:Int)),some (.int (j:Int)),p6,p7,some (bdD b),p9,p10]):=by
 have a:=fR (by decide) hp i
 have b:=fR (by decide) hp j
 obtain ⟨top,htop⟩:∃ t,t=(bN ps i).1*(bN ps j).2 - (bN ps j).1*(bN ps i).2:=⟨_,rfl⟩
 obtain ⟨bot,hbot⟩:∃ t,t=(bN ps i).2*(bN ps j).2:=⟨_,rfl⟩
 have hb:0 < bot:=by rw [hbot];exact Int.mul_pos a.pos b.pos
 have a2:=rW hp2 i
 have b2:=rW hp2 j
 have s1:Sm 166 top:=by rw [htop];exact (a2.1.mul b2.2).sub (b2.1.mul a2.2)
 have s2:Sm 401 bot:=by rw [hbot];exact (a.s2.mul b.s2).mono (by decide)
 have le:fn cm [fr (bN ps i),fr (bN ps j)]=some (.tup [.int top,.int bot]):=by
  rw [htop,hbot]
  exact e2 (op:=fun p q=>fr (dl p q)) (Fk.of a) (Fk.of b)
 have len:c8 [.lst ((cV ps).map fr)]=some (.int ((ps.length:Int)+1)):=by
  show some (D.int (((cV ps).map fr).length:Int))=_
  rw [Zi]
  rfl
 have ml:aM ((ps.length:Int)+1) (i:Int):=⟨cQ (by omega),cQ (by omega)⟩
 have mi9:aM 9 (i:Int):=⟨cQ,cQ (by omega)⟩
 have hli:(0:Int)<=((ps.length:Int)+1)*(i:Int):=Int.mul_nonneg (by omega) (by omega)
 have ca:=gJ (ns:=ns) (k:=8+((ps.length:Int)+1)*(i:Int)+(j:Int)) (by omega)
 have mx:=iW (c:=cell ns (8+((ps.length:Int)+1)*(i:Int)+(j:Int))) (k:=9*(i:Int)+(j:Int)) (by omega) (by omega)
 obtain ⟨w,hw⟩:∃ w,w=mxd (cell ns (8+((ps.length:Int)+1)*(i:Int)+(j:Int))) (9*(i:Int)+(j:Int)):=⟨_,rfl⟩
 rw [<- hw] at mx
 have dn:ax (-top) bot:=⟨hb,l7 (k:=401) s2⟩
 have d8:ax w 8:=⟨by decide,cQ⟩
 have d24:ax w 24:=⟨by decide,cQ⟩
 obtain ⟨nb,hnb⟩:∃ nb,nb = -(-top / bot)+w / 8 % 3:=⟨_,rfl⟩
 have s3:Sm 167 nb:=by
  rw [hnb]
  have h1:Sm 166 (-(-top / bot)):=by
   show (-(-top / bot)).natAbs < 2 ^ 166
   rw [Int.natAbs_neg]
   refine Nat.lt_of_le_of_lt (Int.natAbs_ediv_le_natAbs _ _) ?_
   rw [Int.natAbs_neg]
   exact s1
  exact h1.add (y:=w / 8 % 3) (Sm.mono (k:=10) (Sm.of (by omega) (by omega)) (by decide))
 have mb:aM nb bot:=⟨l7 (k:=167) s3,l7 (k:=401) s2⟩
 obtain ⟨t,ht,hts⟩:∃ t:Bool,(fV (f2 gGt (f2 (gI aM fun i j=>.int (i*j)) (ae 7) (ae 10)) (ae 9)) (f2 cv (f2 (gI (fun _ j=>0 < j) fun i j=>.int (i % j)) (f2 (gI ax fun i j=>.int (i / j)) (ae 6) (fC (.int 24))) (fC (.int 2))) (fC (.int 1))) [some (.seq (ns.map D.int)),some P,some (.lst ((cV ps).map fr)),some (.lst (bw T++[.lst (aY r)])),some (.int (i:Int)),some (.int (j:Int)),some (.int w),some (.int nb),o8,some (.int top),some (.int bot)]=some (.bl t))/\(t=true->top < nb*bot):=by
  by_cases h:top < nb*bot
  . have h1:decide (top < nb*bot)=true:=decide_eq_true h
    exact ⟨w / 24 % 2 == 1,by simp only [ae,fC,f2,fV,gI0,Zc,Zd,Ze,gGt,ce,ap (C:=aM) mb,h1,ap (C:=ax) d24,ap (C:=fun _ j=>0 < j) (i:=w / 24) (j:=2) (by decide)],fun _=>h⟩
  . have h1:decide (top < nb*bot)=false:=decide_eq_false h
    exact ⟨false,by simp only [ae,fC,f2,fV,gI0,Zc,Zd,Ze,gGt,ap (C:=aM) mb,h1],fun z=>nomatch z⟩
 have kn:kp (dif ps i j) none=true:=rfl
 have ks:kp (dif ps i j) (some (nb,t))=true:=by
  have e1:kp (dif ps i j) (some (nb,t))=kp (top,bot) (some (nb,t)):=by
   rw [htop,hbot]
   exact (A9 a.pos b.pos _).symm
  rw [e1,uH]
  have c1:-top / bot*bot <= -top:=Int.ediv_mul_le _ (by omega)
  have c2:nb*bot = -(-top / bot*bot)+w / 8 % 3*bot:=by rw [hnb,Int.add_mul,Int.neg_mul]
  have c3:0<=w / 8 % 3*bot:=Int.mul_nonneg (by omega) (by omega)
  cases t with
  | true=>exact hts rfl
  | false=>show top<=nb*bot;omega
 obtain ⟨bb,hbb,hst⟩:∃ b:Bn,(Bk 190 b/\kp (dif ps i j) b=true)/\((sIf (eZ (fT (f2 gLt (f2 (gI (fun _ j=>0 < j) fun i j=>.int (i % j)) (ae 6) (fC (.int 8))) (fC (.int 3)))) (cu (fT (f2 cv (ae 4) (ae 5))) (fT (f2 gLt (f2 (gI (fun _ j=>0 < j) fun i j=>.int (i % j)) (ae 6) (fC (.int 8))) (fC (.int 6)))))) (az 8 (vI (fC .non))) bc)) [some (.seq (ns.map D.int)),some P,some (.lst ((cV ps).map fr)),some (.lst (bw T++[.lst (aY r)])),some (.int (i:Int)),some (.int (j:Int)),some (.int w),some (.int nb),some (.tup [.int nb,.bl t]),some (.int top),some (.int bot)]=some (.nx [some (.seq (ns.map D.int)),some P,some (.lst ((cV ps).map fr)),some (.lst (bw T++[.lst (aY r)])),some (.int (i:Int)),some (.int (j:Int)),some (.int w),some (.int nb),some (bdD b),some (.int top),some (.int bot)]):=by
  have yes:Bk 190 (some (nb,t))/\kp (dif ps i j) (some (nb,t))=true:=⟨Sm.mono (k:=167) s3 (by decide),ks⟩
  by_cases h3:w % 8 < 3
  . have q3:decide (w % 8 < 3)=true:=decide_eq_true h3
    exact ⟨none,⟨trivial,kn⟩,cE (by simp only [ae,fC,f2,fT,asB,cu,eZ,gI0,Zc,Zd,Ze,gLt,ap (C:=fun _ j=>0 < j) (i:=w) (j:=8) (by decide),q3]) rfl⟩
  . have q3:decide (w % 8 < 3)=false:=decide_eq_false h3
    cases hij:((i:Int) == (j:Int)) with
    | false=>exact ⟨some (nb,t),yes,bY (by simp only [ae,fC,f2,fT,asB,cu,eZ,gI0,Zc,Zd,Ze,gLt,ce,ap (C:=fun _ j=>0 < j) (i:=w) (j:=8) (by decide),q3,hij]) rfl⟩
    | true =>
     by_cases h6:w % 8 < 6
     . have q6:decide (w % 8 < 6)=true:=decide_eq_true h6
       exact ⟨none,⟨trivial,kn⟩,cE (by simp only [ae,fC,f2,fT,asB,cu,eZ,gI0,Zc,Zd,Ze,gLt,ce,ap (C:=fun _ j=>0 < j) (i:=w) (j:=8) (by decide),q3,hij,q6]) rfl⟩
     . have q6:decide (w % 8 < 6)=false:=decide_eq_false h6
       exact ⟨some (nb,t),yes,bY (by simp only [ae,fC,f2,fT,asB,cu,eZ,gI0,Zc,Zd,Ze,gLt,ce,ap (C:=fun _ j=>0 < j) (i:=w) (j:=8) (by decide),q3,hij,q6]) rfl⟩
 refine ⟨bb,some (.int w),some (.int nb),some (.int top),some (.int bot),hbb,?_⟩
 refine ao (r8 (ds:=[.int top,.int bot]) (bh (by simp only [ae,f2,af,aa,ak,Zc,Zd,Ze,(jL hi).1,(jL hj).1,le])) rfl rfl) (ao (be (cq (ds:=[.int (cell ns (8+((ps.length:Int)+1)*(i:Int)+(j:Int))),.int (9*(i:Int)+(j:Int))]) ?ar mx rfl)) (ao (be (bh (d:=.int nb) ?nb)) (ao (be (bh (d:=.tup [.int nb,.bl t]) ?tp)) (ao hst ?_))))
 case ar=>simp only [r9,ae,fC,f2,af,aa,ak,bF,Zc,Zd,Ze,Zf,Zg,len,ap (C:=aM) ml,ca,ap (C:=aM) mi9]
 case nb=>simp only [r9,ae,fC,f2,f1,gH,bF,Zc,Zd,Ze,Zf,Zg,ap (C:=ax) dn,ap (C:=ax) d8,ap (C:=fun _ j=>0 < j) (i:=w / 8) (j:=3) (by decide),hnb]
 case tp=>exact Cr (a:=.int nb) (b:=.bl t) rfl ht
 rw [pR]
 exact qq rfl (by rw [eK,hT];rfl) (nG rfl) (by rw [jr];omega)
theorem nI {ns:List Int} {d1:D} {ps:List (Int×Int)} (h1:IsP d1 ps) (hp:∀ p∈ps,Fr 200 p) (hp2:∀ p∈ps,Sm 151 p.1/\Sm 14 p.2) (hl:ps.length<=40):∃ T,Grown T (ps.length+1) (ps.length+1)/\(∀ i,i < ps.length+1->∀ j,j < ps.length+1->kp (dif ps i j) (aj T i j)=true)/\fn cT [.seq (ns.map D.int),d1]=some (aw T):=by
 have e0:aJ 11 [.seq (ns.map D.int),d1]=[some (.seq (ns.map D.int)),some (.seq (ps.map fr)),none,none,none,none,none,none,none,none,none]:=by
  show [some (sh (.seq (ns.map D.int))),some (sh d1),none,none,none,none,none,none,none,none,none]=_
  rw [sh,je,show sh d1=_ from h1]
 have len:c8 [.lst ((cV ps).map fr)]=some (.int ((ps.length+1:Nat):Int)):=by
  show some (D.int (((cV ps).map fr).length:Int))=_
  rw [Zi]
  rfl
 have hr:=fun t o4 o5 o6 o7 o8 o9 o10=>dS (g:=aa (ak c8 (aa (ae 2) af)) af) (δ:=[some (.seq (ns.map D.int)),some (.seq (ps.map fr)),some (.lst ((cV ps).map fr)),t,o4,o5,o6,o7,o8,o9,o10]) (n:=ps.length+1) (by simp only [ae,af,aa,ak,Zc,Zd,Ze,len]) (by omega)
 have inner:∀ (T:List (List Bn)) (i:Nat) (o5 o6 o7 o8 o9 o10:Option D),T.length=i->i < ps.length+1->∃ δ',Dl.forM 5 ((aA (nR [9,10] (vI (ak (fn cm) (aa (f2 gIx (ae 2) (ae 4)) (aa (f2 gIx (ae 2) (ae 5)) af))))) (aA (az 6 (cg (fn aP) (aa (ak (fn aC) (aa (ae 0) (aa (f2 bi (f2 bi (fC (.int 8)) (f2 (gI aM fun i j=>.int (i*j)) (ak c8 (aa (ae 2) af)) (ae 4))) (ae 5)) af))) (aa (f2 bi (f2 (gI aM fun i j=>.int (i*j)) (fC (.int 9)) (ae 4)) (ae 5)) af)))) (aA (az 7 (vI (f2 bi (f1 gH (f2 (gI ax fun i j=>.int (i / j)) (f1 gH (ae 9)) (ae 10))) (f2 (gI (fun _ j=>0 < j) fun i j=>.int (i % j)) (f2 (gI ax fun i j=>.int (i / j)) (ae 6) (fC (.int 8))) (fC (.int 3)))))) (aA (az 8 (vI (cJ (aa (ae 7) (aa (fV (f2 gGt (f2 (gI aM fun i j=>.int (i*j)) (ae 7) (ae 10)) (ae 9)) (f2 cv (f2 (gI (fun _ j=>0 < j) fun i j=>.int (i % j)) (f2 (gI ax fun i j=>.int (i / j)) (ae 6) (fC (.int 24))) (fC (.int 2))) (fC (.int 1)))) af))))) (aA (sIf (eZ (fT (f2 gLt (f2 (gI (fun _ j=>0 < j) fun i j=>.int (i % j)) (ae 6) (fC (.int 8))) (fC (.int 3)))) (cu (fT (f2 cv (ae 4) (ae 5))) (fT (f2 gLt (f2 (gI (fun _ j=>0 < j) fun i j=>.int (i % j)) (ae 6) (fC (.int 8))) (fC (.int 6)))))) (az 8 (vI (fC .non))) bc) (ja 3 (ae 4) (bD 8)))))))) ((List.range (ps.length+1)).map fun (i:Nat)=>D.int (i:Int)) [some (.seq (ns.map D.int)),some (.seq (ps.map fr)),some (.lst ((cV ps).map fr)),some (.lst (bw T++[.lst (aY [])])),some (.int (i:Int)),o5,o6,o7,o8,o9,o10]=some (.nx δ')/\∃ (r:List Bn) (o5 o6 o7 o8 o9 o10:Option D),r.length=(List.range (ps.length+1)).length/\(∀ b∈r,Bk 190 b)/\(∀ j,kp (dif ps i j) (r.getD j none)=true)/\δ'=[some (.seq (ns.map D.int)),some (.seq (ps.map fr)),some (.lst ((cV ps).map fr)),some (.lst (bw T++[.lst (aY r)])),some (.int (i:Int)),o5,o6,o7,o8,o9,o10]:=by
  intro T i o5 o6 o7 o8 o9 o10 hT hi
  refine cC (f:=fun (i:Nat)=>D.int (i:Int)) (fun pre δ=>∃ (r:List Bn) (o5 o6 o7 o8 o9 o10:Option D),r.length=pre.length/\(∀ b∈r,Bk 190 b)/\(∀ j,kp (dif ps i j) (r.getD j none)=true)/\δ=[some (.seq (ns.map D.int)),some (.seq (ps.map fr)),some (.lst ((cV ps).map fr)),some (.lst (bw T++[.lst (aY r)])),some (.int (i:Int)),o5,o6,o7,o8,o9,o10]) (List.range (ps.length+1)) ?_ (List.range (ps.length+1)) [] _ rfl ⟨[],o5,o6,o7,o8,o9,o10,rfl,(fun _ m=>nomatch m),(fun _=>rfl),rfl⟩
  rintro pre x post _ hx ⟨r,o5,o6,o7,o8,o9,o10,hr,hb,hk,rfl⟩
  obtain ⟨rfl,hl'⟩:=bE hx
  obtain ⟨b,p6,p7,p9,p10,hbb,st⟩:=Dh ns (.seq (ps.map fr)) ps T r i pre.length o6 o7 o8 o9 o10 hp hp2 hT hr hl hi hl'
  refine ⟨_,st,r++[b],_,_,_,_,_,_,by rw [Zh,Zh,hr];rfl,fun z hz=>?_,fun j=>zL hk (by rw [hr];exact hbb.2) j,rfl⟩
  rcases Zo.mp hz with hz | hz
  . exact hb z hz
  . rw [Zl.mp hz];exact hbb.1
 obtain ⟨_,w,T,o4,o5,o6,o7,o8,o9,o10,hG,hK,rfl⟩:=cC (i:=4) (s:=((aA (qF 3 (jc gj)) (eS (dE (aa (ak c8 (aa (ae 2) af)) af)) 5 (aA (nR [9,10] (vI (ak (fn cm) (aa (f2 gIx (ae 2) (ae 4)) (aa (f2 gIx (ae 2) (ae 5)) af))))) (aA (az 6 (cg (fn aP) (aa (ak (fn aC) (aa (ae 0) (aa (f2 bi (f2 bi (fC (.int 8)) (f2 (gI aM fun i j=>.int (i*j)) (ak c8 (aa (ae 2) af)) (ae 4))) (ae 5)) af))) (aa (f2 bi (f2 (gI aM fun i j=>.int (i*j)) (fC (.int 9)) (ae 4)) (ae 5)) af)))) (aA (az 7 (vI (f2 bi (f1 gH (f2 (gI ax fun i j=>.int (i / j)) (f1 gH (ae 9)) (ae 10))) (f2 (gI (fun _ j=>0 < j) fun i j=>.int (i % j)) (f2 (gI ax fun i j=>.int (i / j)) (ae 6) (fC (.int 8))) (fC (.int 3)))))) (aA (az 8 (vI (cJ (aa (ae 7) (aa (fV (f2 gGt (f2 (gI aM fun i j=>.int (i*j)) (ae 7) (ae 10)) (ae 9)) (f2 cv (f2 (gI (fun _ j=>0 < j) fun i j=>.int (i % j)) (f2 (gI ax fun i j=>.int (i / j)) (ae 6) (fC (.int 24))) (fC (.int 2))) (fC (.int 1)))) af))))) (aA (sIf (eZ (fT (f2 gLt (f2 (gI (fun _ j=>0 < j) fun i j=>.int (i % j)) (ae 6) (fC (.int 8))) (fC (.int 3)))) (cu (fT (f2 cv (ae 4) (ae 5))) (fT (f2 gLt (f2 (gI (fun _ j=>0 < j) fun i j=>.int (i % j)) (ae 6) (fC (.int 8))) (fC (.int 6)))))) (az 8 (vI (fC .non))) bc) (ja 3 (ae 4) (bD 8))))))))))) (f:=fun (i:Nat)=>D.int (i:Int)) (fun pre δ=>∃ (T:List (List Bn)) (o4 o5 o6 o7 o8 o9 o10:Option D),Grown T pre.length (ps.length+1)/\(∀ i j,kp (dif ps i j) (aj T i j)=true)/\δ=[some (.seq (ns.map D.int)),some (.seq (ps.map fr)),some (.lst ((cV ps).map fr)),some (aw T),o4,o5,o6,o7,o8,o9,o10]) (List.range (ps.length+1)) (by
  rintro pre x post _ hx ⟨T,o4,o5,o6,o7,o8,o9,o10,hG,hK,rfl⟩
  obtain ⟨rfl,hl'⟩:=bE hx
  obtain ⟨_,w,r,p5,p6,p7,p8,p9,p10,h1,h2,h3,rfl⟩:=inner T pre.length o5 o6 o7 o8 o9 o10 hG.len hl'
  refine ⟨_,ao (uj (ds:=bw T) (d:=.lst []) rfl rfl (by rw [eK,hG.len];omega)) (bH (hr _ _ _ _ _ _ _ _) w),T++[r],some (.int (pre.length:Int)),p5,p6,p7,p8,p9,p10,?_,fun i j=>wU hK (by rw [hG.len];exact h3) i j,?_⟩
  . rw [Zh]
    exact hG.snoc (by rw [h1,List.length_range]) h2
  . unfold aw
    rw [nV]) (List.range (ps.length+1)) [] [some (.seq (ns.map D.int)),some (.seq (ps.map fr)),some (.lst ((cV ps).map fr)),some (.lst []),none,none,none,none,none,none,none] rfl ⟨[],none,none,none,none,none,none,none,⟨rfl,(fun _ m=>nomatch m),(fun _ m=>nomatch m)⟩,(fun _ _=>rfl),rfl⟩
 have cat:ir (db (aa (cJ (aa (fC (.int 0)) (aa (fC (.int 1)) af))) af)) (ae 1) [some (.seq (ns.map D.int)),some (.seq (ps.map fr)),none,none,none,none,none,none,none,none,none]=some (.lst ((cV ps).map fr),[some (.seq (ns.map D.int)),some (.seq (ps.map fr)),none,none,none,none,none,none,none,none,none]):=qu (a:=.lst [fr (0,1)]) (xs:=[fr (0,1)]) (ys:=ps.map fr) rfl rfl rfl rfl (by rw [Zi];simp only [List.length_cons,List.length_nil];omega) (tG (cV ps))
 have key:cT [.seq (ns.map D.int),d1] (aw T):=by
  refine ⟨?_,cc T⟩
  rw [e0]
  exact cr (ao (be cat) (ao (be (d:=.lst []) rfl) (ao (bH (hr _ _ _ _ _ _ _ _) w) (bx (ie rfl)))))
 exact ⟨T,by rw [List.length_range] at hG;exact hG,fun i _ j _=>hK i j,bG (fun d' h'=>Option.some.inj (h'.1.symm.trans key.1)) key⟩
theorem mC (F:Fun K "_law_planted" "_law_planted" eQ f fd)  (hLless:Has P w K mg base 1 "_law_less" ["_law_one","_law_other_here"] (fn cm)) (hLmixed:HasF P w K mg base 1 "_law_mixed" ["_law_cell","_law_k"] (fn aP)) (hLcell_at:Has P w K mg base 1 "_law_cell_at" ["_law_script","_law_k"] (fn aC))  (m_range:mg "range" = none) (m_len:mg "len" = none):FnOk P w K mg base CX0 2 f fd ["_law_script","_law_point"] (bv K 2 (fn cT)):=by
 have sc:=i8
 refine bu F i8 (fun cdv A outer s H E ds d hr hG hl=>?_)
 have hb:=aV hG
 have hown:=hb.2
 refine ⟨_,(av (aS 2 sc.nd (mW (gE (ac (d9 (ac ah (ac ah ag))) ag)) (ab 1)))
  (av (aS 3 sc.nd (gD cy))
  (av (du 4 sc.nd PassesOwn.never rfl (ba rfl m_range (ac (aT aK cH rfl m_len PySem.boot_len (ac (ab 2) ag)) ag))
   (av (uu 3 (sJ PySem.F.plainAttrs_list PySem.F.slot_list_append PySem.F.type_list_append iD (pvi 3) (gv (gD cy) ka)))
   (aG (du 5 sc.nd PassesOwn.never rfl (ba rfl m_range (ac (aT aK cH rfl m_len PySem.boot_len (ac (ab 2) ag)) ag))
    (av (yk [9,10] (aQ (au hLless hr (ac (ay (ab 2) (ab 4)) (ac (ay (ab 2) (ab 5)) ag)))) (uw rfl (iB (pgN 9 sc.nd) (iB (pgN 10 sc.nd) qQ))))
    (av (aS 6 sc.nd (bR hLmixed hr (ac (au hLcell_at hr (ac (ab 0) (ac (bC (bC ah (cF (aT aK cH rfl m_len PySem.boot_len (ac (ab 2) ag)) (ab 4))) (ab 5)) ag))) (ac (bC (cF ah (ab 4)) (ab 5)) ag))))
    (av (aS 7 sc.nd (aQ (bC (j9 (bf (j9 (ab 9)) (ab 10))) (bn (bf (ab 6) ah) ah))))
    (av (aS 8 sc.nd (aQ (d9 (ac (ab 7) (ac (jm (AX (cF (ab 7) (ab 10)) (ab 9)) (ii (oh hr.units (bn (bf (ab 6) ah) ah) ah))) ag)))))
    (av (eU (PWD.pt (j6 (n5 (bn (ab 6) ah) ah) (iL (PWD.pt (mV (iN hr.units (ab 4) (ab 5)) (kT (n5 (bn (ab 6) ah) ah))))))) (aG (aS 8 sc.nd (aQ bB))) c4)
    (aG (vC 3 (sJ PySem.F.plainAttrs_list PySem.F.slot_list_append PySem.F.type_list_append iD (jX ix_list (pvi 3) (ab 4) (fun _ _=>rfl)) (gv (bK 8) ka)))))))))))))
  (aG (bt (bK 3)))))),?_,?own⟩
 case own=>first | rfl | exact hown
 . show aF ((?f:SD) (aJ 11 _))=_
   exact hb.1
theorem kJ:aD ["_law_table","_law_point","_law_parts","_law_i","_law_j"] ["_law_table","_law_point"] (al g7):=⟨rfl,rfl,rfl,by decide +kernel,rfl,by decide +kernel,by decide +kernel⟩
theorem qY (F:Fun K "_law_lies" "_law_lies" g7 f fd)  (hLkeeps:Has P w K mg base 1 "_law_keeps" ["_law_part_here","_law_bound"] (fn fE)) (hLless:Has P w K mg base 1 "_law_less" ["_law_one","_law_other_here"] (fn cm))  (m_range:mg "range" = none) (m_len:mg "len" = none):FnOk P w K mg base CX0 2 f fd ["_law_table","_law_point"] (bv K 2 (fn ia)):=by
 have sc:=kJ
 refine bu F kJ (fun cdv A outer s H E ds d hr hG hl=>?_)
 obtain ⟨d0,d1,T,ps,h1,h2,h3,h4,h5,h6,rfl,rfl⟩:=aV hG
 have hown:own (.bl (kZ T ps))=true:=rfl
 refine ⟨_,(av (aS 2 sc.nd (mW (gE (ac (d9 (ac ah (ac ah ag))) ag)) (ab 1)))
  (av (du 3 sc.nd PassesOwn.never rfl (ba rfl m_range (ac (aT aK cH rfl m_len PySem.boot_len (ac (ab 2) ag)) ag))
   (aG (du 4 sc.nd PassesOwn.never rfl (ba rfl m_range (ac (aT aK cH rfl m_len PySem.boot_len (ac (ab 2) ag)) ag))
    (aG (eU (iM (dw (au hLkeeps hr (ac (au hLless hr (ac (ay (ab 2) (ab 3)) (ac (ay (ab 2) (ab 4)) ag))) (ac (ay (ay (ab 0) (ab 3)) (ab 4)) ag))))) (aG (bt (aQ jk))) c4)))))
  (aG (bt (aQ jk))))),?_,?own⟩
 case own=>first | rfl | exact hown
 . show aF ((?f:SD) (aJ 5 _))=_
   have e0:aJ 5 [d0,d1]=[some (aq T),some (.seq (ps.map fr)),none,none,none]:=by
    show [some (sh d0),some (sh d1),none,none,none]=_
    rw [show sh d0=_ from h1,show sh d1=_ from h5]
   rw [e0]
   have len:c8 [.lst ((cV ps).map fr)]=some (.int ((ps.length+1:Nat):Int)):=by
    show some (D.int (((cV ps).map fr).length:Int))=_
    rw [Zi]
    rfl
   have hv:=fun o3 o4:Option D=>dS (g:=aa (ak c8 (aa (ae 2) af)) af) (δ:=[some (aq T),some (.seq (ps.map fr)),some (.lst ((cV ps).map fr)),o3,o4]) (n:=ps.length+1) (by simp only [ae,af,aa,ak,Zc,Zd,Ze,len]) (by omega)
   have inn:=fun (i:Nat) (hi:i < ps.length+1) (o:Option D)=>jv (i:=4) (s:=((sIf (fH (fT (ak (fn fE) (aa (ak (fn cm) (aa (f2 gIx (ae 2) (ae 3)) (aa (f2 gIx (ae 2) (ae 4)) af))) (aa (f2 gIx (f2 gIx (ae 0) (ae 3)) (ae 4)) af))))) (dO (vI (fC (.bl false)))) bc))) (f:=fun (i:Nat)=>D.int (i:Int)) (d:=.bl false) (fun δ=>∃ o,δ=[some (aq T),some (.seq (ps.map fr)),some (.lst ((cV ps).map fr)),some (.int (i:Int)),o]) (fun j=>kp (dif ps i j) (aj T i j)) (List.range (ps.length+1)) [some (aq T),some (.seq (ps.map fr)),some (.lst ((cV ps).map fr)),some (.int (i:Int)),o] ⟨_,rfl⟩ (by
    rintro j hj _ ⟨o,rfl⟩
    have hj:=Zn.mp hj
    obtain ⟨r,q1,q2⟩:=iP h2 hi hj
    have fi:=fR (by decide) h6 i
    have fj:=fR (by decide) h6 j
    have kk:fn fE [fr (dl (bN ps i) (bN ps j)),bdD (aj T i j)]=some (.bl (kp (dif ps i j) (aj T i j))):=by
     have:=rG (DG fi fj (by decide)) (h4 i j)
     rw [A9 fi.pos fj.pos] at this
     exact this
    refine ⟨fun hb=>⟨_,AR (b:=false) (by simp only [ae,f2,fT,asB,fH,af,aa,ak,Zc,Option.map_some,Zd,Ze,Zf,Zg,Bool.not_true,ly,(jL hi).1,(jL hj).1,q1,q2,e2 (op:=fun p q=>fr (dl p q)) (Fk.of fi) (Fk.of fj),kk,hb]) rfl,_,rfl⟩,fun hb=>?_⟩
    exact AR (b:=true) (by simp only [ae,f2,fT,asB,fH,af,aa,ak,Zc,Option.map_some,Zd,Ze,Zf,Zg,Bool.not_false,ly,(jL hi).1,(jL hj).1,q1,q2,e2 (op:=fun p q=>fr (dl p q)) (Fk.of fi) (Fk.of fj),kk,hb]) (bx (bh rfl)))
   obtain ⟨k1,k2⟩:=jv (i:=3) (s:=((eS (dE (aa (ak c8 (aa (ae 2) af)) af)) 4 (sIf (fH (fT (ak (fn fE) (aa (ak (fn cm) (aa (f2 gIx (ae 2) (ae 3)) (aa (f2 gIx (ae 2) (ae 4)) af))) (aa (f2 gIx (f2 gIx (ae 0) (ae 3)) (ae 4)) af))))) (dO (vI (fC (.bl false)))) bc)))) (f:=fun (i:Nat)=>D.int (i:Int)) (d:=.bl false) (fun δ=>∃ o p,δ=[some (aq T),some (.seq (ps.map fr)),some (.lst ((cV ps).map fr)),o,p]) (fun i=>(List.range (ps.length+1)).all fun j=>kp (dif ps i j) (aj T i j)) (List.range (ps.length+1)) [some (aq T),some (.seq (ps.map fr)),some (.lst ((cV ps).map fr)),none,none] ⟨_,_,rfl⟩ (by
    rintro i hi _ ⟨o,p,rfl⟩
    have hi:=Zn.mp hi
    obtain ⟨w1,w2⟩:=inn i hi p
    refine ⟨fun hb=>?_,fun hb=>bH (hv _ _) (w2 hb)⟩
    obtain ⟨_,f1,o',rfl⟩:=w1 hb
    exact ⟨_,bH (hv _ _) f1,_,_,rfl⟩)
   have cat:ir (db (aa (cJ (aa (fC (.int 0)) (aa (fC (.int 1)) af))) af)) (ae 1) [some (aq T),some (.seq (ps.map fr)),none,none,none]=some (.lst ((cV ps).map fr),[some (aq T),some (.seq (ps.map fr)),none,none,none]):=qu (a:=.lst [fr (0,1)]) (xs:=[fr (0,1)]) (ys:=ps.map fr) rfl rfl rfl rfl (by rw [Zi];simp only [List.length_cons,List.length_nil];omega) (tG (cV ps))
   have ea:kZ T ps=(List.range (ps.length+1)).all fun i=>(List.range (ps.length+1)).all fun j=>kp (dif ps i j) (aj T i j):=rfl
   refine cr (ao (be cat) ?_)
   dsimp only [List.set_cons_zero,List.set_cons_succ]
   cases hq:kZ T ps with
   | true =>
    obtain ⟨_,w,o,p,rfl⟩:=k1 (ea ▸ hq)
    exact ao (bH (hv _ _) w) (bx (bh rfl))
   | false=>exact dU (bH (hv _ _) (k2 (ea ▸ hq)))
theorem jT:aD ["_law_told","_law_seed","_law_made","_law_way","_law_i","_law_j","_law_drawn","_law_step"] ["_law_told","_law_seed"] (al gn):=⟨rfl,rfl,rfl,by decide +kernel,rfl,by decide +kernel,by decide +kernel⟩
def dN (ds:List D) (d:D):Prop:=aF (((aA (az 2 (fG (fun δ=>((ae 0) δ).bind asL) [] (fM (aa (ae 0) af)))) (aA (az 3 (vI (f2 (gI (fun _ j=>0 < j) fun i j=>.int (i % j)) (ae 1) (fC (.int 4))))) (aA (eS (dE (aa (ak c8 (aa (ae 0) af)) af)) 4 (eS (dE (aa (ak c8 (aa (ae 0) af)) af)) 5 (aA (az 6 (cg (fn aP) (aa (ae 1) (aa (f2 bi (f2 (gI aM fun i j=>.int (i*j)) (fC (.int 9)) (ae 4)) (ae 5)) af)))) (aA (az 7 (vI (f2 gIx (db (aa (f2 (gI (fun _ j=>0 < j) fun i j=>.int (i % j)) (f2 (gI ax fun i j=>.int (i / j)) (ae 6) (fC (.int 4))) (fC (.int 3))) (aa (f2 (gI0 fun i j=>.int (i - j)) (fC (.int 0)) (f2 (gI (fun _ j=>0 < j) fun i j=>.int (i % j)) (f2 (gI ax fun i j=>.int (i / j)) (ae 6) (fC (.int 4))) (fC (.int 2)))) (aa (f2 (gI0 fun i j=>.int (i - j)) (f2 (gI (fun _ j=>0 < j) fun i j=>.int (i % j)) (f2 (gI ax fun i j=>.int (i / j)) (ae 6) (fC (.int 4))) (fC (.int 5))) (fC (.int 1))) (aa (fC (.int 0)) af))))) (ae 3)))) (aA (sIf (cu (fT (f2 cv (f2 (gI (fun _ j=>0 < j) fun i j=>.int (i % j)) (ae 6) (fC (.int 4))) (fC (.int 0)))) (fT (f2 dP (f2 gIx (f2 gIx (ae 0) (ae 4)) (ae 5)) (fC .non)))) (eF 2 (ae 4) (ae 5) (vI (cJ (aa (f2 bi (f2 gIx (f2 gIx (f2 gIx (ae 0) (ae 4)) (ae 5)) (fC (.int 0))) (ae 7)) (aa (f2 cv (f2 (gI (fun _ j=>0 < j) fun i j=>.int (i % j)) (f2 (gI ax fun i j=>.int (i / j)) (ae 6) (fC (.int 20))) (fC (.int 2))) (fC (.int 1))) af))))) bc) (sIf (cu (fT (f2 cv (f2 (gI (fun _ j=>0 < j) fun i j=>.int (i % j)) (ae 6) (fC (.int 8))) (fC (.int 1)))) (fT (f2 lL (ae 3) (fC (.int 1))))) (eF 2 (ae 4) (ae 5) (vI (fC .non))) bc)))))) (dO (bD 2)))))) (aJ 8 ds))=some d/\own d=true
theorem qw {d0:D} {U:List (List Bn)} {n N:Nat} {c:Int} (h0:IsT d0 U) (hs:Sq U n) (n1:n<=41) (hb:∀ i j,BkN N (aj U i j)):∃ X,Sq X n/\(∀ i j,BkN (N+3) (aj X i j))/\fn dN [d0,.int c]=some (aw X):=by
 have e0:aJ 8 [d0,.int c]=[some (aq U),some (.int c),none,none,none,none,none,none]:=by
  show [some (sh d0),some (.int c),none,none,none,none,none,none]=_
  rw [show sh d0=aq U from h0]
 have len:c8 [aq U]=some (.int (n:Int)):=jJ hs
 have m4:=ap (C:=fun _ j=>0 < j) (g:=fun i j=>D.int (i % j)) (i:=c) (j:=4) (by decide)
 obtain ⟨w,hw⟩:∃ w,w=c % 4:=⟨_,rfl⟩
 have hw4:w=0 \/ w=1 \/ w=2 \/ w=3:=by omega
 have hv:=fun o2 o4 o5 o6 o7:Option D=>dS (g:=aa (ak c8 (aa (ae 0) af)) af) (δ:=[some (aq U),some (.int c),o2,some (.int w),o4,o5,o6,o7]) (n:=n) (by simp only [ae,af,aa,ak,Zc,Zd,len]) (by omega)
 have cp:fG (fun δ=>((ae 0) δ).bind asL) [] (fM (aa (ae 0) af)) [some (aq U),some (.int c),none,none,none,none,none,none]=some (aw U,[some (aq U),some (.int c),none,none,none,none,none,none]):=gy (xs:=U) (f:=fun r=>.seq (aY r)) (g:=fun r=>.lst (aY r)) rfl (fun r _=>k9 r _) (by rw [hs.len];omega)
 have inn:∀ (i:Nat),i < n->∀ (X:List (List Bn)) (o5 o6 o7:Option D),Sq X n->(∀ i j,BkN (N+3) (aj X i j))->∃ δ',Dl.forM 5 ((aA (az 6 (cg (fn aP) (aa (ae 1) (aa (f2 bi (f2 (gI aM fun i j=>.int (i*j)) (fC (.int 9)) (ae 4)) (ae 5)) af)))) (aA (az 7 (vI (f2 gIx (db (aa (f2 (gI (fun _ j=>0 < j) fun i j=>.int (i % j)) (f2 (gI ax fun i j=>.int (i / j)) (ae 6) (fC (.int 4))) (fC (.int 3))) (aa (f2 (gI0 fun i j=>.int (i - j)) (fC (.int 0)) (f2 (gI (fun _ j=>0 < j) fun i j=>.int (i % j)) (f2 (gI ax fun i j=>.int (i / j)) (ae 6) (fC (.int 4))) (fC (.int 2)))) (aa (f2 (gI0 fun i j=>.int (i - j)) (f2 (gI (fun _ j=>0 < j) fun i j=>.int (i % j)) (f2 (gI ax fun i j=>.int (i / j)) (ae 6) (fC (.int 4))) (fC (.int 5))) (fC (.int 1))) (aa (fC (.int 0)) af))))) (ae 3)))) (aA (sIf (cu (fT (f2 cv (f2 (gI (fun _ j=>0 < j) fun i j=>.int (i % j)) (ae 6) (fC (.int 4))) (fC (.int 0)))) (fT (f2 dP (f2 gIx (f2 gIx (ae 0) (ae 4)) (ae 5)) (fC .non)))) (eF 2 (ae 4) (ae 5) (vI (cJ (aa (f2 bi (f2 gIx (f2 gIx (f2 gIx (ae 0) (ae 4)) (ae 5)) (fC (.int 0))) (ae 7)) (aa (f2 cv (f2 (gI (fun _ j=>0 < j) fun i j=>.int (i % j)) (f2 (gI ax fun i j=>.int (i / j)) (ae 6) (fC (.int 20))) (fC (.int 2))) (fC (.int 1))) af))))) bc) (sIf (cu (fT (f2 cv (f2 (gI (fun _ j=>0 < j) fun i j=>.int (i % j)) (ae 6) (fC (.int 8))) (fC (.int 1)))) (fT (f2 lL (ae 3) (fC (.int 1))))) (eF 2 (ae 4) (ae 5) (vI (fC .non))) bc))))) ((List.range n).map fun (i:Nat)=>D.int (i:Int)) [some (aq U),some (.int c),some (aw X),some (.int w),some (.int (i:Int)),o5,o6,o7]=some (.nx δ')/\∃ (X':List (List Bn)) (o5 o6 o7:Option D),Sq X' n/\(∀ i j,BkN (N+3) (aj X' i j))/\δ'=[some (aq U),some (.int c),some (aw X'),some (.int w),some (.int (i:Int)),o5,o6,o7]:=fun i hi X o5 o6 o7 hX hB=>by
  have ww:=cC (i:=5) (s:=((aA (az 6 (cg (fn aP) (aa (ae 1) (aa (f2 bi (f2 (gI aM fun i j=>.int (i*j)) (fC (.int 9)) (ae 4)) (ae 5)) af)))) (aA (az 7 (vI (f2 gIx (db (aa (f2 (gI (fun _ j=>0 < j) fun i j=>.int (i % j)) (f2 (gI ax fun i j=>.int (i / j)) (ae 6) (fC (.int 4))) (fC (.int 3))) (aa (f2 (gI0 fun i j=>.int (i - j)) (fC (.int 0)) (f2 (gI (fun _ j=>0 < j) fun i j=>.int (i % j)) (f2 (gI ax fun i j=>.int (i / j)) (ae 6) (fC (.int 4))) (fC (.int 2)))) (aa (f2 (gI0 fun i j=>.int (i - j)) (f2 (gI (fun _ j=>0 < j) fun i j=>.int (i % j)) (f2 (gI ax fun i j=>.int (i / j)) (ae 6) (fC (.int 4))) (fC (.int 5))) (fC (.int 1))) (aa (fC (.int 0)) af))))) (ae 3)))) (aA (sIf (cu (fT (f2 cv (f2 (gI (fun _ j=>0 < j) fun i j=>.int (i % j)) (ae 6) (fC (.int 4))) (fC (.int 0)))) (fT (f2 dP (f2 gIx (f2 gIx (ae 0) (ae 4)) (ae 5)) (fC .non)))) (eF 2 (ae 4) (ae 5) (vI (cJ (aa (f2 bi (f2 gIx (f2 gIx (f2 gIx (ae 0) (ae 4)) (ae 5)) (fC (.int 0))) (ae 7)) (aa (f2 cv (f2 (gI (fun _ j=>0 < j) fun i j=>.int (i % j)) (f2 (gI ax fun i j=>.int (i / j)) (ae 6) (fC (.int 20))) (fC (.int 2))) (fC (.int 1))) af))))) bc) (sIf (cu (fT (f2 cv (f2 (gI (fun _ j=>0 < j) fun i j=>.int (i % j)) (ae 6) (fC (.int 8))) (fC (.int 1)))) (fT (f2 lL (ae 3) (fC (.int 1))))) (eF 2 (ae 4) (ae 5) (vI (fC .non))) bc)))))) (f:=fun (i:Nat)=>D.int (i:Int)) (fun pre δ=>∃ (X':List (List Bn)) (o5 o6 o7:Option D),Sq X' n/\(∀ i j,BkN (N+3) (aj X' i j))/\δ=[some (aq U),some (.int c),some (aw X'),some (.int w),some (.int (i:Int)),o5,o6,o7]) (List.range n) (by
   rintro pre x post _ hx ⟨X,o5,o6,o7,hX,hB,rfl⟩
   obtain ⟨rfl,hj⟩:=bE hx
   generalize pre.length=j at *
   have si:sh (D.int (j:Int))=.int (j:Int):=rfl
   rw [si]
   obtain ⟨r1,a1,a2⟩:=iP hs hi hj
   have mi9:aM 9 (i:Int):=⟨cQ,cQ (by omega)⟩
   have mx:=iW (c:=c) (k:=9*(i:Int)+(j:Int)) (by omega) (by omega)
   obtain ⟨q,hq⟩:∃ q,q=mxd c (9*(i:Int)+(j:Int)):=⟨_,rfl⟩
   rw [<- hq] at mx
   have d4:ax q 4:=⟨by decide,cQ⟩
   have d20:ax q 20:=⟨by decide,cQ⟩
   have m3:=ap (C:=fun _ j=>0 < j) (g:=fun i j=>D.int (i % j)) (i:=q / 4) (j:=3) (by decide)
   have m2:=ap (C:=fun _ j=>0 < j) (g:=fun i j=>D.int (i % j)) (i:=q / 4) (j:=2) (by decide)
   have m5:=ap (C:=fun _ j=>0 < j) (g:=fun i j=>D.int (i % j)) (i:=q / 4) (j:=5) (by decide)
   have mq4:=ap (C:=fun _ j=>0 < j) (g:=fun i j=>D.int (i % j)) (i:=q) (j:=4) (by decide)
   have mq8:=ap (C:=fun _ j=>0 < j) (g:=fun i j=>D.int (i % j)) (i:=q) (j:=8) (by decide)
   have mt:=ap (C:=fun _ j=>0 < j) (g:=fun i j=>D.int (i % j)) (i:=q / 20) (j:=2) (by decide)
   have s6:((az 6 (cg (fn aP) (aa (ae 1) (aa (f2 bi (f2 (gI aM fun i j=>.int (i*j)) (fC (.int 9)) (ae 4)) (ae 5)) af))))) [some (aq U),some (.int c),some (aw X),some (.int w),some (.int (i:Int)),some (.int (j:Int)),o6,o7]=some (.nx [some (aq U),some (.int c),some (aw X),some (.int w),some (.int (i:Int)),some (.int (j:Int)),some (.int q),o7]):=bJ (cq (ds:=[.int c,.int (9*(i:Int)+(j:Int))]) (by simp only [ae,fC,f2,af,aa,bF,Zc,Zd,Ze,ap (C:=aM) mi9]) mx rfl)
   obtain ⟨z,hz1,hz2,s7⟩:∃ z:Int,-3<=z/\z<=3/\((az 7 (vI (f2 gIx (db (aa (f2 (gI (fun _ j=>0 < j) fun i j=>.int (i % j)) (f2 (gI ax fun i j=>.int (i / j)) (ae 6) (fC (.int 4))) (fC (.int 3))) (aa (f2 (gI0 fun i j=>.int (i - j)) (fC (.int 0)) (f2 (gI (fun _ j=>0 < j) fun i j=>.int (i % j)) (f2 (gI ax fun i j=>.int (i / j)) (ae 6) (fC (.int 4))) (fC (.int 2)))) (aa (f2 (gI0 fun i j=>.int (i - j)) (f2 (gI (fun _ j=>0 < j) fun i j=>.int (i % j)) (f2 (gI ax fun i j=>.int (i / j)) (ae 6) (fC (.int 4))) (fC (.int 5))) (fC (.int 1))) (aa (fC (.int 0)) af))))) (ae 3))))) [some (aq U),some (.int c),some (aw X),some (.int w),some (.int (i:Int)),some (.int (j:Int)),some (.int q),o7]=some (.nx [some (aq U),some (.int c),some (aw X),some (.int w),some (.int (i:Int)),some (.int (j:Int)),some (.int q),some (.int z)]):=by
    have ix:∀ a b e f:D,(w=0->gIx (.lst [a,b,e,f]) (.int w)=some a)/\(w=1->gIx (.lst [a,b,e,f]) (.int w)=some b)/\(w=2->gIx (.lst [a,b,e,f]) (.int w)=some e)/\(w=3->gIx (.lst [a,b,e,f]) (.int w)=some f):=fun a b e f=>⟨fun h=>by rw [h];rfl,fun h=>by rw [h];rfl,fun h=>by rw [h];rfl,fun h=>by rw [h];rfl⟩
    rcases hw4 with h | h | h | h
    . exact ⟨q / 4 % 3,by omega,by omega,bJ (bh (by simp only [ae,fC,f2,af,aa,db,gI0,Zc,Zd,Ze,ap (C:=ax) d4,m3,m2,m5,(ix _ _ _ _).1 h]))⟩
    . exact ⟨0 - q / 4 % 2,by omega,by omega,bJ (bh (by simp only [ae,fC,f2,af,aa,db,gI0,Zc,Zd,Ze,ap (C:=ax) d4,m3,m2,m5,(ix _ _ _ _).2.1 h]))⟩
    . exact ⟨q / 4 % 5 - 1,by omega,by omega,bJ (bh (by simp only [ae,fC,f2,af,aa,db,gI0,Zc,Zd,Ze,ap (C:=ax) d4,m3,m2,m5,(ix _ _ _ _).2.2.1 h]))⟩
    . exact ⟨0,by omega,by omega,bJ (bh (by simp only [ae,fC,f2,af,aa,db,gI0,Zc,Zd,Ze,ap (C:=ax) d4,m3,m2,m5,(ix _ _ _ _).2.2.2 h]))⟩
   obtain ⟨X1,hX1,hB1,s8⟩:∃ X1,Sq X1 n/\(∀ i j,BkN (N+3) (aj X1 i j))/\((sIf (cu (fT (f2 cv (f2 (gI (fun _ j=>0 < j) fun i j=>.int (i % j)) (ae 6) (fC (.int 4))) (fC (.int 0)))) (fT (f2 dP (f2 gIx (f2 gIx (ae 0) (ae 4)) (ae 5)) (fC .non)))) (eF 2 (ae 4) (ae 5) (vI (cJ (aa (f2 bi (f2 gIx (f2 gIx (f2 gIx (ae 0) (ae 4)) (ae 5)) (fC (.int 0))) (ae 7)) (aa (f2 cv (f2 (gI (fun _ j=>0 < j) fun i j=>.int (i % j)) (f2 (gI ax fun i j=>.int (i / j)) (ae 6) (fC (.int 20))) (fC (.int 2))) (fC (.int 1))) af))))) bc)) [some (aq U),some (.int c),some (aw X),some (.int w),some (.int (i:Int)),some (.int (j:Int)),some (.int q),some (.int z)]=some (.nx [some (aq U),some (.int c),some (aw X1),some (.int w),some (.int (i:Int)),some (.int (j:Int)),some (.int q),some (.int z)]):=by
    by_cases h:q % 4=0
    . have q0:(q % 4 == 0)=true:=by simp [h]
      rcases hc:aj U i j with _ | ⟨m,s⟩
      . rw [hc] at a2
        have isn:dP .non .non=some (.bl false):=rfl
        exact ⟨X,hX,hB,bY (by simp only [ae,fC,f2,fT,asB,cu,Zc,Zd,Ze,oZ,ce,mq4,q0,a1,a2,isn]) rfl⟩
      . rw [hc] at a2
        have hm:m.natAbs<=N:=by
         have:=hb i j
         rw [hc] at this
         exact this
        have isn:dP (.tup [.int m,.bl s]) .non=some (.bl true):=rfl
        have y0:gIx (bdD (some (m,s))) (.int 0)=some (.int m):=rfl
        refine ⟨j4 X i j (some (m+z,q / 20 % 2 == 1)),mQ hX hi,fun x y=>?_,cE (by simp only [ae,fC,f2,fT,asB,cu,Zc,Zd,Ze,bq,ce,mq4,q0,a1,a2,isn]) (qE (b:=some (m+z,q / 20 % 2 == 1)) hX hi hj rfl rfl rfl (bh (by simp only [ae,fC,f2,af,aa,cJ,c9,bF,Zc,Zd,Ze,bq,ce,a1,a2,ap (C:=ax) d20,mt]) (ju (some _))))⟩
        rw [lO hX hi hj]
        split
        . show (m+z).natAbs<=N+3
          omega
        . exact hB x y
    . have q0:(q % 4 == 0)=false:=by simp [h]
      exact ⟨X,hX,hB,bY (by simp only [ae,fC,f2,fT,asB,cu,Zc,Zd,Ze,ce,mq4,q0]) rfl⟩
   obtain ⟨X2,hX2,hB2,s9⟩:∃ X2,Sq X2 n/\(∀ i j,BkN (N+3) (aj X2 i j))/\((sIf (cu (fT (f2 cv (f2 (gI (fun _ j=>0 < j) fun i j=>.int (i % j)) (ae 6) (fC (.int 8))) (fC (.int 1)))) (fT (f2 lL (ae 3) (fC (.int 1))))) (eF 2 (ae 4) (ae 5) (vI (fC .non))) bc)) [some (aq U),some (.int c),some (aw X1),some (.int w),some (.int (i:Int)),some (.int (j:Int)),some (.int q),some (.int z)]=some (.nx [some (aq U),some (.int c),some (aw X2),some (.int w),some (.int (i:Int)),some (.int (j:Int)),some (.int q),some (.int z)]):=by
    by_cases h:q % 8=1
    . have q0:(q % 8 == 1)=true:=by simp [h]
      by_cases h2:w=1
      . have q1:lL (.int w) (.int 1)=some (.bl false):=by rw [h2];rfl
        exact ⟨X1,hX1,hB1,bY (by simp only [ae,fC,f2,fT,asB,cu,Zc,Zd,Ze,ce,mq8,q0,q1]) rfl⟩
      . have q1:lL (.int w) (.int 1)=some (.bl true):=by
         rcases hw4 with a | a | a | a
         . rw [a];rfl
         . exact absurd a h2
         . rw [a];rfl
         . rw [a];rfl
        refine ⟨j4 X1 i j none,mQ hX1 hi,fun x y=>?_,cE (by simp only [ae,fC,f2,fT,asB,cu,Zc,Zd,Ze,ce,mq8,q0,q1]) (qE (b:=none) hX1 hi hj rfl rfl rfl (bh rfl))⟩
        rw [lO hX1 hi hj]
        split
        . trivial
        . exact hB1 x y
    . have q0:(q % 8 == 1)=false:=by simp [h]
      exact ⟨X1,hX1,hB1,bY (by simp only [ae,fC,f2,fT,asB,cu,Zc,Zd,Ze,ce,mq8,q0]) rfl⟩
   exact ⟨_,ao s6 (ao s7 (ao s8 s9)),X2,_,_,_,hX2,hB2,rfl⟩) (List.range n) [] [some (aq U),some (.int c),some (aw X),some (.int w),some (.int (i:Int)),o5,o6,o7] rfl ⟨X,o5,o6,o7,hX,hB,rfl⟩
  exact ww
 obtain ⟨_,w1,X,o4,o5,o6,o7,hX,hB,rfl⟩:=cC (i:=4) (s:=((eS (dE (aa (ak c8 (aa (ae 0) af)) af)) 5 (aA (az 6 (cg (fn aP) (aa (ae 1) (aa (f2 bi (f2 (gI aM fun i j=>.int (i*j)) (fC (.int 9)) (ae 4)) (ae 5)) af)))) (aA (az 7 (vI (f2 gIx (db (aa (f2 (gI (fun _ j=>0 < j) fun i j=>.int (i % j)) (f2 (gI ax fun i j=>.int (i / j)) (ae 6) (fC (.int 4))) (fC (.int 3))) (aa (f2 (gI0 fun i j=>.int (i - j)) (fC (.int 0)) (f2 (gI (fun _ j=>0 < j) fun i j=>.int (i % j)) (f2 (gI ax fun i j=>.int (i / j)) (ae 6) (fC (.int 4))) (fC (.int 2)))) (aa (f2 (gI0 fun i j=>.int (i - j)) (f2 (gI (fun _ j=>0 < j) fun i j=>.int (i % j)) (f2 (gI ax fun i j=>.int (i / j)) (ae 6) (fC (.int 4))) (fC (.int 5))) (fC (.int 1))) (aa (fC (.int 0)) af))))) (ae 3)))) (aA (sIf (cu (fT (f2 cv (f2 (gI (fun _ j=>0 < j) fun i j=>.int (i % j)) (ae 6) (fC (.int 4))) (fC (.int 0)))) (fT (f2 dP (f2 gIx (f2 gIx (ae 0) (ae 4)) (ae 5)) (fC .non)))) (eF 2 (ae 4) (ae 5) (vI (cJ (aa (f2 bi (f2 gIx (f2 gIx (f2 gIx (ae 0) (ae 4)) (ae 5)) (fC (.int 0))) (ae 7)) (aa (f2 cv (f2 (gI (fun _ j=>0 < j) fun i j=>.int (i % j)) (f2 (gI ax fun i j=>.int (i / j)) (ae 6) (fC (.int 20))) (fC (.int 2))) (fC (.int 1))) af))))) bc) (sIf (cu (fT (f2 cv (f2 (gI (fun _ j=>0 < j) fun i j=>.int (i % j)) (ae 6) (fC (.int 8))) (fC (.int 1)))) (fT (f2 lL (ae 3) (fC (.int 1))))) (eF 2 (ae 4) (ae 5) (vI (fC .non))) bc))))))) (f:=fun (i:Nat)=>D.int (i:Int)) (fun pre δ=>∃ (X:List (List Bn)) (o4 o5 o6 o7:Option D),Sq X n/\(∀ i j,BkN (N+3) (aj X i j))/\δ=[some (aq U),some (.int c),some (aw X),some (.int w),o4,o5,o6,o7]) (List.range n) (by
  rintro pre x post _ hx ⟨X,o4,o5,o6,o7,hX,hB,rfl⟩
  obtain ⟨rfl,hi⟩:=bE hx
  generalize pre.length=i at *
  obtain ⟨_,f1,X',p5,p6,p7,hX',hB',rfl⟩:=inn i hi X o5 o6 o7 hX hB
  exact ⟨_,bH (hv _ _ _ _ _) f1,X',_,_,_,_,hX',hB',rfl⟩) (List.range n) [] [some (aq U),some (.int c),some (aw U),some (.int w),none,none,none,none] rfl ⟨U,none,none,none,none,hs,fun i j=>(hb i j).mono (by omega),rfl⟩
 have key:dN [d0,.int c] (aw X):=by
  refine ⟨?_,cc X⟩
  rw [e0]
  exact cr (ao (bJ cp) (ao (bJ (d:=.int w) (bh (by simp only [ae,fC,f2,Zc,Zd,Ze,Zf,Zg,m4,hw]))) (ao (bH (hv _ _ _ _ _) w1) (bx (ie rfl)))))
 exact ⟨X,hX,hB,bG (fun d' h'=>Option.some.inj (h'.1.symm.trans key.1)) key⟩
theorem pu (F:Fun K "_law_other" "_law_other" gn f fd)  (hLmixed:HasF P w K mg base 1 "_law_mixed" ["_law_cell","_law_k"] (fn aP))  (m_range:mg "range" = none) (m_list:mg "list" = none) (m_len:mg "len" = none):FnOk P w K mg base CX0 2 f fd ["_law_told","_law_seed"] (bv K 2 (fn dN)):=by
 have sc:=jT
 refine bu F jT (fun cdv A outer s H E ds d hr hG hl=>?_)
 have hb:=aV hG
 have hown:=hb.2
 refine ⟨_,(av (vB 2 sc.nd (by exact (eV (ab 0))) (N:=["_law_row"]) (js:=[]) (cl:=[]) (fun _ _ _ _ _=>by exact (jG rfl m_list boot_list (ac (ab 0) ag))) (by exact CompOk.nil))
  (av (aS 3 sc.nd (aQ (bn (ab 1) ah)))
  (av (du 4 sc.nd PassesOwn.never rfl (ba rfl m_range (ac (aT aK cH rfl m_len PySem.boot_len (ac (ab 0) ag)) ag))
   (aG (du 5 sc.nd PassesOwn.never rfl (ba rfl m_range (ac (aT aK cH rfl m_len PySem.boot_len (ac (ab 0) ag)) ag))
    (av (aS 6 sc.nd (bR hLmixed hr (ac (ab 1) (ac (bC (cF ah (ab 4)) (ab 5)) ag))))
    (av (aS 7 sc.nd (aQ (ay (gE (ac (bn (bf (ab 6) ah) ah) (ac (iO ah (bn (bf (ab 6) ah) ah)) (ac (iO (bn (bf (ab 6) ah) ah) ah) (ac ah ag))))) (ab 3))))
    (av (eU (PWD.pt (mV (iN hr.units (bn (ab 6) ah) ah) (kT (iA (ay (ay (ab 0) (ab 4)) (ab 5)) bB)))) (aG (mX 2 (aQ (d9 (ac (bC (ay (ay (ay (ab 0) (ab 4)) (ab 5)) ah) (ab 7)) (ac (oh hr.units (bn (bf (ab 6) ah) ah) ah) ag)))) (lC (jX ix_list (pvi 2) (ab 4) (fun _ _=>rfl)) (ab 5) iu))) c4)
    (aG (eU (PWD.pt (mV (iN hr.units (bn (ab 6) ah) ah) (kT (vx hr.units (ab 3) ah)))) (aG (mX 2 (aQ bB) (lC (jX ix_list (pvi 2) (ab 4) (fun _ _=>rfl)) (ab 5) iu))) c4))))))))
  (aG (bt (bK 2)))))),?_,?own⟩
 case own=>first | rfl | exact hown
 . show aF ((?f:SD) (aJ 8 _))=_
   exact hb.1
theorem lU:aD ["top","bottom"] ["top","bottom"] (al d6):=⟨rfl,rfl,rfl,by decide +kernel,rfl,by decide +kernel,by decide +kernel⟩
theorem lV {dV:Value} (F:FunD K "fraction" "fraction" d6 f fd dV)  (hlowest:Has P w K mg base 2 "lowest" ["top","bottom"] (fn pj)) (his_whole:Has P w K mg base 1 "is_whole" ["thing"] (fn km))  :FnOk P w K mg base CX0 3 f fd ["top","bottom"] (bA K 2 (fn aN)):=by
 have sc:=lU
 refine yd F lU (fun cdv A outer s H E ds d hr hG hl=>?_)
 obtain ⟨t,b,hb,hB,rfl,rfl⟩:=aV hG
 refine ⟨_,(aE (cZ (PWD.pt (j6 (iM (dw (au his_whole hr (ac (ab 0) ag)))) (iL (iM (dw (au his_whole hr (ac (ab 1) ag))))))) (aH pW) cf)
  (aE (cZ (yg hr.units0 (ab 1) ah) (aH pW) cf)
  (aE (cZ (n5 (ab 1) ah) (aH (aR (au hlowest hr (ac (j9 (ab 0)) (ac (j9 (ab 1)) ag))))) cf)
  (aH (aR (au hlowest hr (ac (ab 0) (ac (ab 1) ag)))))))),?_⟩
 . show aF ((?f:SD) [some _,some _])=_
   have h0:(b == 0)=false:=by simp [hb]
   by_cases hn:b < 0
   . have h1:decide (b < 0)=true:=decide_eq_true hn
     simp only [aF,bc,dh,aA,d7,sIf,ae,fC,f2,f1,fT,asB,fH,eZ,gH,af,aa,ak,gI0,fO,Zc,Option.map_some,Zd,Ze,Bool.not_true,iU (x:=.int t) rfl,iU (x:=.int b) rfl,h0,h1,tS (t:=-t) (b:=-b) (by omega) (CB hB)]
     unfold low
     rw [if_pos hn]
   . have h1:decide (b < 0)=false:=decide_eq_false hn
     simp only [aF,bc,dh,aA,d7,sIf,ae,fC,f2,f1,fT,asB,fH,eZ,gH,af,aa,ak,gI0,fO,Zc,Option.map_some,Zd,Ze,Bool.not_true,iU (x:=.int t) rfl,iU (x:=.int b) rfl,h0,h1,tS (t:=t) (b:=b) (by omega) hB]
     unfold low
     rw [if_neg hn]
theorem vj:aD ["one","other"] ["one","other"] (al qC):=⟨rfl,rfl,rfl,by decide +kernel,rfl,by decide +kernel,by decide +kernel⟩
theorem Ae (F:Fun K "plus" "plus" qC f fd)  (hsummed:Has P w K mg base 2 "summed" ["one","top","bottom"] (fn iG))  :FnOk P w K mg base CX0 3 f fd ["one","other"] (bA K 2 (fn u6)):=by
 have sc:=vj
 refine bS F vj (fun cdv A outer s H E ds d hr hG hl=>?_)
 obtain ⟨⟨a,b⟩,⟨c,e⟩,hp,hq,rfl,rfl⟩:=aV hG
 refine ⟨_,(aH (aR (au hsummed hr (ac (ab 0) (ac (ay (ab 1) ah) (ac (ay (ab 1) ah) ag)))))),?_⟩
 . show aF ((?f:SD) [some _,some _])=_
   have h:=tR hp hq
   have h':fn iG [.tup [.int a,.int b],.int c,.int e]=some (fr (pl (a,b) (c,e))):=by rw [Dg hp.lw hq.lw];exact h
   simp only [aF,d7,ae,fC,f2,af,aa,ak,c9,eY,Zc,Zd,Ze,h']
theorem sd:aD ["one","other"] ["one","other"] (al mS):=⟨rfl,rfl,rfl,by decide +kernel,rfl,by decide +kernel,by decide +kernel⟩
theorem yE (F:Fun K "minus" "minus" mS f fd)  (hsummed:Has P w K mg base 2 "summed" ["one","top","bottom"] (fn iG))  :FnOk P w K mg base CX0 3 f fd ["one","other"] (bA K 2 (fn jP)):=by
 have sc:=sd
 refine bS F sd (fun cdv A outer s H E ds d hr hG hl=>?_)
 obtain ⟨⟨a,b⟩,⟨c,e⟩,hp,hq,rfl,rfl⟩:=aV hG
 refine ⟨_,(aH (aR (au hsummed hr (ac (ab 0) (ac (j9 (ay (ab 1) ah)) (ac (ay (ab 1) ah) ag)))))),?_⟩
 . show aF ((?f:SD) [some _,some _])=_
   have h:=tR hp hq.neg
   have h':fn iG [.tup [.int a,.int b],.int (-c),.int e]=some (fr (mi (a,b) (c,e))):=by rw [Dr hp.lw hq.lw];exact h
   simp only [aF,d7,ae,fC,f2,f1,gH,af,aa,ak,c9,eY,Zc,Zd,Ze,h']
theorem iy:aD ["_law_script","_law_head","_law_k","_law_point","_law_table","_law_cell","_law_i","_law_j"] ["_law_script"] (al dY):=⟨rfl,rfl,rfl,by decide +kernel,rfl,by decide +kernel,by decide +kernel⟩
def cw (ds:List D) (d:D):Prop:=aF (((aA (az 1 (vI (ak (fn aC) (aa (ae 0) (aa (fC (.int 0)) af))))) (aA (az 2 (vI (f2 (gI (fun _ j=>0 < j) fun i j=>.int (i % j)) (f2 (gI ax fun i j=>.int (i / j)) (ae 1) (fC (.int 4))) (f2 gIx (db (aa (fC (.int 5)) (aa (fC (.int 7)) af))) (ak uM (aa (f2 gGt (f2 (gI (fun _ j=>0 < j) fun i j=>.int (i % j)) (ae 1) (fC (.int 4))) (fC (.int 1))) af)))))) (aA (az 3 (fG (qz (aa (ae 2) af)) [0] (vI (ak (fn eL) (aa (ak (fn aC) (aa (ae 1) (aa (f2 bi (fC (.int 1)) (ae 0)) af))) af))))) (aA (sIf (fT (f2 gLt (f2 (gI (fun _ j=>0 < j) fun i j=>.int (i % j)) (ae 1) (fC (.int 4))) (fC (.int 2)))) (dO (pq (cI (cg (fn bI) (aa (ak (fn aC) (aa (ae 0) (aa (fC (.int 1)) af))) (aa (ae 2) (aa (f2 gIx (db (aa (fC (.int 3)) (aa (fC (.int 9)) (aa (f2 (gI mI fun i j=>.int (i ^ j.toNat)) (fC (.int 10)) (fC (.int 55))) af)))) (f2 (gI (fun _ j=>0 < j) fun i j=>.int (i % j)) (f2 (gI ax fun i j=>.int (i / j)) (ae 1) (fC (.int 20))) (fC (.int 3)))) af)))) (cI (bD 3) gj)))) bc) (aA (az 4 (cg (fn cT) (aa (ae 0) (aa (ae 3) af)))) (aA (sIf (fT (f2 cv (f2 (gI (fun _ j=>0 < j) fun i j=>.int (i % j)) (ae 1) (fC (.int 4))) (fC (.int 3)))) (aA (az 5 (vI (ak (fn aC) (aa (ae 0) (aa (fC (.int 7)) af))))) (aA (az 6 (vI (f2 (gI (fun _ j=>0 < j) fun i j=>.int (i % j)) (ae 5) (f2 bi (ae 2) (fC (.int 1)))))) (aA (az 7 (vI (f2 (gI (fun _ j=>0 < j) fun i j=>.int (i % j)) (f2 (gI ax fun i j=>.int (i / j)) (ae 5) (f2 bi (ae 2) (fC (.int 1)))) (f2 bi (ae 2) (fC (.int 1)))))) (sIf (fT (f2 dP (f2 gIx (f2 gIx (ae 4) (ae 6)) (ae 7)) (fC .non))) (eF 4 (ae 6) (ae 7) (vI (cJ (aa (f2 (gI0 fun i j=>.int (i - j)) (f2 (gI0 fun i j=>.int (i - j)) (f2 gIx (f2 gIx (f2 gIx (ae 4) (ae 6)) (ae 7)) (fC (.int 0))) (fC (.int 1))) (f2 (gI (fun _ j=>0 < j) fun i j=>.int (i % j)) (f2 (gI ax fun i j=>.int (i / j)) (ae 5) (fC (.int 50))) (fC (.int 4)))) (aa (f2 cv (f2 (gI (fun _ j=>0 < j) fun i j=>.int (i % j)) (f2 (gI ax fun i j=>.int (i / j)) (ae 5) (fC (.int 200))) (fC (.int 2))) (fC (.int 1))) af))))) bc)))) bc) (dO (pq (cI (bD 4) (cI (bD 3) gj))))))))))) (aJ 8 ds))=some d/\own d=true
theorem l8 (ns:List Int):∃ (T:List (List Bn)) (ps:List (Int×Int)),Sq T (ps.length+1)/\AN T/\ps.length<=6/\(∀ p∈ps,Fr 200 p)/\fn cw [.seq (ns.map D.int)]=some (.tup [aw T,.lst (ps.map fr)]):=by
 have e0:aJ 8 [.seq (ns.map D.int)]=[some (.seq (ns.map D.int)),none,none,none,none,none,none,none]:=by
  show [some (sh (.seq (ns.map D.int))),none,none,none,none,none,none,none]=_
  rw [sh,je]
 have ca:=fun (k:Int) (h:0<=k)=>gJ (ns:=ns) (k:=k) h
 have c0:=ca 0 (by decide)
 obtain ⟨h,hh⟩:∃ h,h=cell ns 0:=⟨_,rfl⟩
 rw [<- hh] at c0
 have d4:ax h 4:=⟨by decide,cQ⟩
 have d20:ax h 20:=⟨by decide,cQ⟩
 obtain ⟨n,hn6,hk⟩:∃ n:Nat,n<=6/\f2 (gI (fun _ j=>0 < j) fun i j=>.int (i % j)) (f2 (gI ax fun i j=>.int (i / j)) (ae 1) (fC (.int 4))) (f2 gIx (db (aa (fC (.int 5)) (aa (fC (.int 7)) af))) (ak uM (aa (f2 gGt (f2 (gI (fun _ j=>0 < j) fun i j=>.int (i % j)) (ae 1) (fC (.int 4))) (fC (.int 1))) af))) [some (.seq (ns.map D.int)),some (.int h),none,none,none,none,none,none]=some (.int (n:Int)):=by
  by_cases q:1 < h % 4
  . have q1:decide (1 < h % 4)=true:=decide_eq_true q
    have ix:gIx (.lst [.int 5,.int 7]) (.int 1)=some (.int 7):=rfl
    refine ⟨(h / 4 % 7).toNat,by omega,?_⟩
    rw [show (((h / 4 % 7).toNat:Nat):Int)=h / 4 % 7 by omega]
    simp only [ae,fC,f2,af,aa,db,ak,uM,gI0,Zc,Zd,Ze,gGt,ap (C:=fun _ j=>0 < j) (i:=h) (j:=4) (by decide),q1,if_true,ap (C:=ax) d4,ix,ap (C:=fun _ j=>0 < j) (i:=h / 4) (j:=7) (by decide)]
  . have q1:decide (1 < h % 4)=false:=decide_eq_false q
    have ix:gIx (.lst [.int 5,.int 7]) (.int 0)=some (.int 5):=rfl
    refine ⟨(h / 4 % 5).toNat,by omega,?_⟩
    rw [show (((h / 4 % 5).toNat:Nat):Int)=h / 4 % 5 by omega]
    simp only [ae,fC,f2,af,aa,db,ak,uM,gI0,Zc,Zd,Ze,gGt,ap (C:=fun _ j=>0 < j) (i:=h) (j:=4) (by decide),q1,Bool.false_eq_true,if_false,ap (C:=ax) d4,ix,ap (C:=fun _ j=>0 < j) (i:=h / 4) (j:=5) (by decide)]
 obtain ⟨ps,hps⟩:∃ ps,ps=(List.range n).map fun (i:Nat)=>prt (cell ns (1+(i:Int))):=⟨_,rfl⟩
 have hpl:ps.length=n:=by rw [hps,Zi,List.length_range]
 have hpf:∀ p∈ps,Fr 200 p:=by
  rw [hps]
  intro p m
  obtain ⟨i,_,rfl⟩:=Zm.mp m
  exact BN _
 have hp2:∀ p∈ps,Sm 151 p.1/\Sm 14 p.2:=by
  rw [hps]
  intro p m
  obtain ⟨i,_,rfl⟩:=Zm.mp m
  exact BM _
 have hP:own (.lst (ps.map fr))=true:=by rw [own];exact eW _
 have hcomp:fG (qz (aa (ae 2) af)) [0] (vI (ak (fn eL) (aa (ak (fn aC) (aa (ae 1) (aa (f2 bi (fC (.int 1)) (ae 0)) af))) af))) [some (.seq (ns.map D.int)),some (.int h),some (.int (n:Int)),none,none,none,none,none]=some (.lst (ps.map fr),[some (.seq (ns.map D.int)),some (.int h),some (.int (n:Int)),none,none,none,none,none]):=by
  rw [hps,List.map_map]
  refine gy (f:=fun (i:Nat)=>D.int (i:Int)) (xR rfl (Bg (by omega))) (fun i hi=>?_) (by rw [List.length_range];omega)
  have es:shO (some (.int (i:Int)) :: bz [0] [some (.seq (ns.map D.int)),some (.int h),some (.int (n:Int)),none,none,none,none,none])=[some (.int (i:Int)),some (.seq (ns.map D.int))]:=by
   have z:sh (.seq (ns.map D.int))=.seq (ns.map D.int):=by rw [sh,je]
   show [some (.int (i:Int)),some (sh (.seq (ns.map D.int)))]=_
   rw [z]
  rw [es]
  exact uy (bh (by simp only [ae,fC,f2,af,aa,ak,bF,Zc,Zd,Ze,ca (1+(i:Int)) (by omega),tW];rfl)) rfl
 have oT:∀ T,own (.tup [aw T,.lst (ps.map fr)])=true:=fun T=>by
  rw [own]
  show (own (aw T) && (own (.lst (ps.map fr)) && true))=true
  rw [cc,hP]
  rfl
 have fin:∀ T,Sq T (ps.length+1)->AN T->(((aA (az 1 (vI (ak (fn aC) (aa (ae 0) (aa (fC (.int 0)) af))))) (aA (az 2 (vI (f2 (gI (fun _ j=>0 < j) fun i j=>.int (i % j)) (f2 (gI ax fun i j=>.int (i / j)) (ae 1) (fC (.int 4))) (f2 gIx (db (aa (fC (.int 5)) (aa (fC (.int 7)) af))) (ak uM (aa (f2 gGt (f2 (gI (fun _ j=>0 < j) fun i j=>.int (i % j)) (ae 1) (fC (.int 4))) (fC (.int 1))) af)))))) (aA (az 3 (fG (qz (aa (ae 2) af)) [0] (vI (ak (fn eL) (aa (ak (fn aC) (aa (ae 1) (aa (f2 bi (fC (.int 1)) (ae 0)) af))) af))))) (aA (sIf (fT (f2 gLt (f2 (gI (fun _ j=>0 < j) fun i j=>.int (i % j)) (ae 1) (fC (.int 4))) (fC (.int 2)))) (dO (pq (cI (cg (fn bI) (aa (ak (fn aC) (aa (ae 0) (aa (fC (.int 1)) af))) (aa (ae 2) (aa (f2 gIx (db (aa (fC (.int 3)) (aa (fC (.int 9)) (aa (f2 (gI mI fun i j=>.int (i ^ j.toNat)) (fC (.int 10)) (fC (.int 55))) af)))) (f2 (gI (fun _ j=>0 < j) fun i j=>.int (i % j)) (f2 (gI ax fun i j=>.int (i / j)) (ae 1) (fC (.int 20))) (fC (.int 3)))) af)))) (cI (bD 3) gj)))) bc) (aA (az 4 (cg (fn cT) (aa (ae 0) (aa (ae 3) af)))) (aA (sIf (fT (f2 cv (f2 (gI (fun _ j=>0 < j) fun i j=>.int (i % j)) (ae 1) (fC (.int 4))) (fC (.int 3)))) (aA (az 5 (vI (ak (fn aC) (aa (ae 0) (aa (fC (.int 7)) af))))) (aA (az 6 (vI (f2 (gI (fun _ j=>0 < j) fun i j=>.int (i % j)) (ae 5) (f2 bi (ae 2) (fC (.int 1)))))) (aA (az 7 (vI (f2 (gI (fun _ j=>0 < j) fun i j=>.int (i % j)) (f2 (gI ax fun i j=>.int (i / j)) (ae 5) (f2 bi (ae 2) (fC (.int 1)))) (f2 bi (ae 2) (fC (.int 1)))))) (sIf (fT (f2 dP (f2 gIx (f2 gIx (ae 4) (ae 6)) (ae 7)) (fC .non))) (eF 4 (ae 6) (ae 7) (vI (cJ (aa (f2 (gI0 fun i j=>.int (i - j)) (f2 (gI0 fun i j=>.int (i - j)) (f2 gIx (f2 gIx (f2 gIx (ae 4) (ae 6)) (ae 7)) (fC (.int 0))) (fC (.int 1))) (f2 (gI (fun _ j=>0 < j) fun i j=>.int (i % j)) (f2 (gI ax fun i j=>.int (i / j)) (ae 5) (fC (.int 50))) (fC (.int 4)))) (aa (f2 cv (f2 (gI (fun _ j=>0 < j) fun i j=>.int (i % j)) (f2 (gI ax fun i j=>.int (i / j)) (ae 5) (fC (.int 200))) (fC (.int 2))) (fC (.int 1))) af))))) bc)))) bc) (dO (pq (cI (bD 4) (cI (bD 3) gj)))))))))))) [some (.seq (ns.map D.int)),none,none,none,none,none,none,none]=some (.rt (.tup [aw T,.lst (ps.map fr)]))->∃ (T:List (List Bn)) (ps:List (Int×Int)),Sq T (ps.length+1)/\AN T/\ps.length<=6/\(∀ p∈ps,Fr 200 p)/\fn cw [.seq (ns.map D.int)]=some (.tup [aw T,.lst (ps.map fr)]):=fun T hs hB e=>by
  have key:cw [.seq (ns.map D.int)] (.tup [aw T,.lst (ps.map fr)]):=⟨by rw [e0];exact cr e,oT T⟩
  exact ⟨T,ps,hs,hB,by omega,hpf,bG (fun d' h'=>Option.some.inj (h'.1.symm.trans key.1)) key⟩
 by_cases q2:h % 4 < 2
 . have q1:decide (h % 4 < 2)=true:=decide_eq_true q2
   obtain ⟨most,hm0,hm1,hmo⟩:∃ most:Int,0<=most/\most<=10 ^ 55/\f2 gIx (db (aa (fC (.int 3)) (aa (fC (.int 9)) (aa (f2 (gI mI fun i j=>.int (i ^ j.toNat)) (fC (.int 10)) (fC (.int 55))) af)))) (f2 (gI (fun _ j=>0 < j) fun i j=>.int (i % j)) (f2 (gI ax fun i j=>.int (i / j)) (ae 1) (fC (.int 20))) (fC (.int 3))) [some (.seq (ns.map D.int)),some (.int h),some (.int (n:Int)),some (.lst (ps.map fr)),none,none,none,none]=some (.int most):=by
    have bp:mI 10 55:=⟨by decide,by decide,by decide⟩
    have e55:(55:Int).toNat=55:=rfl
    have w3:h / 20 % 3=0 \/ h / 20 % 3=1 \/ h / 20 % 3=2:=by omega
    obtain ⟨most,hm0,hm1,hmo⟩:∃ most:Int,0<=most/\most<=10 ^ 55/\gIx (.lst [.int 3,.int 9,.int (10 ^ 55)]) (.int (h / 20 % 3))=some (.int most):=by
     rcases w3 with q | q | q
     . exact ⟨3,by decide,by decide,by rw [q];rfl⟩
     . exact ⟨9,by decide,by decide,by rw [q];rfl⟩
     . exact ⟨10 ^ 55,by decide,by decide,by rw [q];rfl⟩
    exact ⟨most,hm0,hm1,by simp only [ae,fC,f2,af,aa,db,Zc,Zd,Ze,ap (C:=mI) bp,e55,ap (C:=ax) d20,ap (C:=fun _ j=>0 < j) (i:=h / 20) (j:=3) (by decide),hmo]⟩
   obtain ⟨T,hG,hT⟩:=ls (seed:=cell ns 1) (k:=(n:Int)) (most:=most) (by omega) (by omega) hm0 hm1
   have en:((n:Int)).toNat+1=ps.length+1:=by omega
   rw [en] at hG
   refine fin T hG.sq (fun i j=>(hG.cell i j).mono (by decide)) ?_
   refine ao (be (bh (d:=.int h) (by simp only [ae,fC,af,aa,ak,Zc,Zd,c0]))) (ao (be (bh hk)) (ao (be hcomp) (dU (cE ?_ (bx (δ':=[some (.seq (ns.map D.int)),some (.int h),some (.int (n:Int)),none,none,none,none,none]) ?_)))))
   . simp only [Zf,Zg,ae,fC,f2,fT,asB,gI0,Zc,Zd,Ze,Zf,Zg,gLt,ap (C:=fun _ j=>0 < j) (i:=h) (j:=4) (by decide),q1]
   . have v1:cg (fn bI) (aa (ak (fn aC) (aa (ae 0) (aa (fC (.int 1)) af))) (aa (ae 2) (aa (f2 gIx (db (aa (fC (.int 3)) (aa (fC (.int 9)) (aa (f2 (gI mI fun i j=>.int (i ^ j.toNat)) (fC (.int 10)) (fC (.int 55))) af)))) (f2 (gI (fun _ j=>0 < j) fun i j=>.int (i % j)) (f2 (gI ax fun i j=>.int (i / j)) (ae 1) (fC (.int 20))) (fC (.int 3)))) af))) [some (.seq (ns.map D.int)),some (.int h),some (.int (n:Int)),some (.lst (ps.map fr)),none,none,none,none]=some (aw T,[some (.seq (ns.map D.int)),some (.int h),some (.int (n:Int)),some (.lst (ps.map fr)),none,none,none,none]):=cq (ds:=[.int (cell ns 1),.int (n:Int),.int most]) (fa3 (by simp only [ae,fC,af,aa,ak,Zc,Zd,ca 1 (by decide)]) rfl hmo) hT (cc T)
     exact xL v1 (ie rfl)
 . have q1:decide (h % 4 < 2)=false:=decide_eq_false q2
   obtain ⟨T,hG,_,hT⟩:=nI (ns:=ns) (rh ps) hpf hp2 (by omega)
   obtain ⟨T',o5,o6,o7,hs',hB',hst⟩:∃ (T':List (List Bn)) (o5 o6 o7:Option D),Sq T' (ps.length+1)/\AN T'/\((sIf (fT (f2 cv (f2 (gI (fun _ j=>0 < j) fun i j=>.int (i % j)) (ae 1) (fC (.int 4))) (fC (.int 3)))) (aA (az 5 (vI (ak (fn aC) (aa (ae 0) (aa (fC (.int 7)) af))))) (aA (az 6 (vI (f2 (gI (fun _ j=>0 < j) fun i j=>.int (i % j)) (ae 5) (f2 bi (ae 2) (fC (.int 1)))))) (aA (az 7 (vI (f2 (gI (fun _ j=>0 < j) fun i j=>.int (i % j)) (f2 (gI ax fun i j=>.int (i / j)) (ae 5) (f2 bi (ae 2) (fC (.int 1)))) (f2 bi (ae 2) (fC (.int 1)))))) (sIf (fT (f2 dP (f2 gIx (f2 gIx (ae 4) (ae 6)) (ae 7)) (fC .non))) (eF 4 (ae 6) (ae 7) (vI (cJ (aa (f2 (gI0 fun i j=>.int (i - j)) (f2 (gI0 fun i j=>.int (i - j)) (f2 gIx (f2 gIx (f2 gIx (ae 4) (ae 6)) (ae 7)) (fC (.int 0))) (fC (.int 1))) (f2 (gI (fun _ j=>0 < j) fun i j=>.int (i % j)) (f2 (gI ax fun i j=>.int (i / j)) (ae 5) (fC (.int 50))) (fC (.int 4)))) (aa (f2 cv (f2 (gI (fun _ j=>0 < j) fun i j=>.int (i % j)) (f2 (gI ax fun i j=>.int (i / j)) (ae 5) (fC (.int 200))) (fC (.int 2))) (fC (.int 1))) af))))) bc)))) bc)) [some (.seq (ns.map D.int)),some (.int h),some (.int (n:Int)),some (.lst (ps.map fr)),some (aw T),none,none,none]=some (.nx [some (.seq (ns.map D.int)),some (.int h),some (.int (n:Int)),some (.lst (ps.map fr)),some (aw T'),o5,o6,o7]):=by
    by_cases q3:h % 4=3
    . have q4:(h % 4 == 3)=true:=by simp [q3]
      obtain ⟨c,hc⟩:∃ c,c=cell ns 7:=⟨_,rfl⟩
      have c7:=ca 7 (by decide)
      rw [<- hc] at c7
      have hkp:0 < (n:Int)+1:=by omega
      have dk:ax c ((n:Int)+1):=⟨hkp,cQ (by omega)⟩
      have d50:ax c 50:=⟨by decide,cQ⟩
      have d200:ax c 200:=⟨by decide,cQ⟩
      have r0:=Int.emod_nonneg c (show (n:Int)+1 ≠ 0 by omega)
      have r1:=Int.emod_lt_of_pos c hkp
      have r2:=Int.emod_nonneg (c / ((n:Int)+1)) (show (n:Int)+1 ≠ 0 by omega)
      have r3:=Int.emod_lt_of_pos (c / ((n:Int)+1)) hkp
      obtain ⟨I,hI,hI'⟩:∃ I:Nat,c % ((n:Int)+1)=(I:Int)/\I < ps.length+1:=⟨(c % ((n:Int)+1)).toNat,by omega,by omega⟩
      obtain ⟨J,hJ,hJ'⟩:∃ J:Nat,c / ((n:Int)+1) % ((n:Int)+1)=(J:Int)/\J < ps.length+1:=⟨(c / ((n:Int)+1) % ((n:Int)+1)).toNat,by omega,by omega⟩
      obtain ⟨rw',x1,x2,_,_,_⟩:=ik hG.sq hI' hJ'
      have hcell:=hG.cell I J
      rcases hcx:aj T I J with _ | ⟨m,s⟩
      . rw [hcx] at x2
        refine ⟨T,some (.int c),some (.int (I:Int)),some (.int (J:Int)),hG.sq,fun i j=>(hG.cell i j).mono (by decide),?_⟩
        exact cE (by simp only [ae,fC,f2,fT,asB,Zc,Zd,Ze,ce,ap (C:=fun _ j=>0 < j) (i:=h) (j:=4) (by decide),q4]) (ao (be (bh (d:=.int c) (by simp only [ae,fC,af,aa,ak,Zc,Zd,c7]))) (ao (be (bh (d:=.int (I:Int)) (by simp only [ae,fC,f2,bF,Zc,Zd,Ze,Zf,Zg,ap (C:=fun _ j=>0 < j) (i:=c) hkp,hI]))) (ao (be (bh (d:=.int (J:Int)) (by simp only [ae,fC,f2,bF,Zc,Zd,Ze,Zf,Zg,ap (C:=ax) dk,ap (C:=fun _ j=>0 < j) (i:=c / ((n:Int)+1)) hkp,hJ]))) (bY (by simp only [ae,fC,f2,fT,asB,Zc,Zd,Ze,Zf,Zg,Bool.not_true,oZ,bo,dP,x1,x2]) rfl))))
      . rw [hcx] at x2 hcell
        refine ⟨j4 T I J (some (m - 1 - c / 50 % 4,c / 200 % 2 == 1)),some (.int c),some (.int (I:Int)),some (.int (J:Int)),mQ hG.sq hI',fun i j=>?_,?_⟩
        . rw [lO hG.sq hI' hJ']
          split
          . exact Sm.mono (k:=192) (((show Sm 190 m from hcell).sub (y:=1) (Sm.mono (k:=10) (Sm.of (by omega) (by omega)) (by decide))).sub (y:=c / 50 % 4) (Sm.mono (k:=10) (Sm.of (by omega) (by omega)) (by decide))) (by decide)
          . exact (hG.cell i j).mono (by decide)
        . exact cE (by simp only [ae,fC,f2,fT,asB,Zc,Zd,Ze,ce,ap (C:=fun _ j=>0 < j) (i:=h) (j:=4) (by decide),q4]) (ao (be (bh (d:=.int c) (by simp only [ae,fC,af,aa,ak,Zc,Zd,c7]))) (ao (be (bh (d:=.int (I:Int)) (by simp only [ae,fC,f2,bF,Zc,Zd,Ze,Zf,Zg,ap (C:=fun _ j=>0 < j) (i:=c) hkp,hI]))) (ao (be (bh (d:=.int (J:Int)) (by simp only [ae,fC,f2,bF,Zc,Zd,Ze,Zf,Zg,ap (C:=ax) dk,ap (C:=fun _ j=>0 < j) (i:=c / ((n:Int)+1)) hkp,hJ]))) (cE (by simp only [ae,fC,f2,fT,asB,Zc,Zd,Ze,Zf,Zg,Bool.not_false,bq,bo,dP,x1,x2]) (qE hG.sq hI' hJ' rfl rfl rfl (bh (by simp only [ae,fC,f2,af,aa,cJ,c9,gI0,Zc,Zd,Ze,Zf,Zg,bq,ce,x1,x2,ap (C:=ax) d50,ap (C:=fun _ j=>0 < j) (i:=c / 50) (j:=4) (by decide),ap (C:=ax) d200,ap (C:=fun _ j=>0 < j) (i:=c / 200) (j:=2) (by decide)]) (ju _)))))))
    . have q4:(h % 4 == 3)=false:=by simp [q3]
      exact ⟨T,none,none,none,hG.sq,fun i j=>(hG.cell i j).mono (by decide),bY (by simp only [ae,fC,f2,fT,asB,Zc,Zd,Ze,ce,ap (C:=fun _ j=>0 < j) (i:=h) (j:=4) (by decide),q4]) rfl⟩
   refine fin T' hs' hB' ?_
   exact ao (be (bh (d:=.int h) (by simp only [ae,fC,af,aa,ak,Zc,Zd,c0]))) (ao (be (bh hk)) (ao (be hcomp) (ao (bY (by simp only [Zf,Zg,ae,fC,f2,fT,asB,gI0,Zc,Zd,Ze,Zf,Zg,gLt,ap (C:=fun _ j=>0 < j) (i:=h) (j:=4) (by decide),q1]) rfl) (ao (be (cq (ds:=[.seq (ns.map D.int),.lst (ps.map fr)]) rfl hT (cc T))) (ao hst (bx (xL (ie rfl) (ie rfl))))))))
theorem lF (F:Fun K "_law_table_by" "_law_table_by" dY f fd)  (hLcell_at:Has P w K mg base 1 "_law_cell_at" ["_law_script","_law_k"] (fn aC)) (hLplanted:HasF P w K mg base 2 "_law_planted" ["_law_script","_law_point"] (fn cT)) (hLpart:Has P w K mg base 2 "_law_part" ["_law_cell"] (fn eL)) (hLany_table:HasF P w K mg base 2 "_law_any_table" ["_law_seed","_law_k","_law_most_here"] (fn bI))  (m_int:mg "int" = none) (m_range:mg "range" = none):FnOk P w K mg base CX0 3 f fd ["_law_script"] (bv K 1 (fn cw)):=by
 have sc:=iy
 refine bu F iy (fun cdv A outer s H E ds d hr hG hl=>?_)
 have hb:=aV hG
 have hown:=hb.2
 refine ⟨_,(av (aS 1 sc.nd (aQ (au hLcell_at hr (ac (ab 0) (ac ah ag)))))
  (av (aS 2 sc.nd (aQ (bn (bf (ab 1) ah) (ay (gE (ac ah (ac ah ag))) (xa xC Cv rfl m_int boot_int (ac (AX (bn (ab 1) ah) ah) ag))))))
  (av (vB 3 sc.nd (by exact (j7 rfl m_range (ac (ab 2) ag))) (N:=["_law_t","_law_script"]) (js:=[0]) (cl:=[("_law_script",_)]) (fun _ _ _ _ _=>by exact (aQ (au hLpart hr (ac (au hLcell_at hr (ac (ab 1) (ac (bC ah (ab 0)) ag))) ag)))) (by exact CompOk.one))
  (av (eU (n5 (bn (ab 1) ah) ah) (aG (bt (nZ (bO (bR hLany_table hr (ac (au hLcell_at hr (ac (ab 0) (ac ah ag))) (ac (ab 2) (ac (ay (gE (ac ah (ac ah (ac (ux ah ah) ag)))) (bn (bf (ab 1) ah) ah)) ag)))) (bO (bK 3) cy))))) c4)
  (av (aS 4 sc.nd (bR hLplanted hr (ac (ab 0) (ac (ab 3) ag))))
  (av (eU (iN hr.units (bn (ab 1) ah) ah) (av (aS 5 sc.nd (aQ (au hLcell_at hr (ac (ab 0) (ac ah ag)))))
   (av (aS 6 sc.nd (aQ (bn (ab 5) (bC (ab 2) ah))))
   (av (aS 7 sc.nd (aQ (bn (bf (ab 5) (bC (ab 2) ah)) (bC (ab 2) ah))))
   (aG (eU (iA (ay (ay (ab 4) (ab 6)) (ab 7)) bB) (aG (mX 4 (aQ (d9 (ac (iO (iO (ay (ay (ay (ab 4) (ab 6)) (ab 7)) ah) ah) (bn (bf (ab 5) ah) ah)) (ac (oh hr.units (bn (bf (ab 5) ah) ah) ah) ag)))) (lC (jX ix_list (pvi 4) (ab 6) (fun _ _=>rfl)) (ab 7) iu))) c4))))) c4)
  (aG (bt (nZ (bO (bK 4) (bO (bK 3) cy))))))))))),?_,?own⟩
 case own=>first | rfl | exact hown
 . show aF ((?f:SD) (aJ 8 _))=_
   exact hb.1
theorem sg:aD ["part","bound","limit"] ["part","bound"] (al mU):=⟨rfl,rfl,rfl,by decide +kernel,rfl,by decide +kernel,by decide +kernel⟩
theorem yG (F:Fun K "keeps" "keeps" mU f fd)  (hfractionD:pD P w K mg base 3 "fraction" ["top","bottom"] [1] (fn aN)) (hless:Has P w K mg base 1 "less" ["one","other"] (fn gg))  :FnOk P w K mg base CX0 4 f fd ["part","bound"] (bA K 2 (fn iZ)):=by
 have sc:=sg
 refine bS F sg (fun cdv A outer s H E ds d hr hG hl=>?_)
 obtain ⟨⟨a,b⟩,c,hp,hc,rfl,rfl⟩:=aV hG
 refine ⟨_,(aE (cZ (dB (ab 1) bB) (aH (aR jk)) cf)
  (aE (bL 2 sc.nd (dq hfractionD hr (ac (ay (ab 1) ah) ag)))
  (aE (cZ (dw (ay (ab 1) ah)) (aH (aR (au hless hr (ac (ab 0) (ac (ab 2) ag))))) cf)
  (aH (aR (og (au hless hr (ac (ab 2) (ac (ab 0) ag))))))))),?_⟩
 . show aF ((?f:SD) [some _,some _,none])=_
   rcases c with _ | ⟨n,s⟩
   . rfl
   . have hk:Fk (n,1):=⟨show (0:Int) < 1 by decide,hc,show (1:Int).natAbs < 2 ^ 4000 from Nat.lt_of_lt_of_le (show 1 < 2 ^ 1 by decide) (Nat.pow_le_pow_right (by decide) (by decide))⟩
     have l1:fn gg [fr (a,b),.tup [.int n,.int 1]]=some (.bl (decide (a*1 < n*b))):=e2 (op:=fun p q=>.bl (decide (p.1*q.2 < q.1*p.2))) hp hk
     have l2:fn gg [.tup [.int n,.int 1],fr (a,b)]=some (.bl (decide (n*b < a*1))):=e2 (op:=fun p q=>.bl (decide (p.1*q.2 < q.1*p.2))) hk hp
     cases s
     . simp only [aF,bc,dh,aA,d7,fK,sIf,ae,fC,f2,f1,fT,asB,uL,af,aa,ak,c9,eY,Zc,Zd,Ze,Zf,Zg,bq,cO,bo,bj,l1,l2]
       rfl
     . simp only [aF,bc,dh,aA,d7,fK,sIf,ae,fC,f2,fT,asB,af,aa,ak,c9,eY,Zc,Zd,Ze,Zf,Zg,bq,cO,bo,bj,l1]
       rfl
theorem nQ:aD ["low","high"] ["low","high"] (al jE):=⟨rfl,rfl,rfl,by decide +kernel,rfl,by decide +kernel,by decide +kernel⟩
theorem uA (F:Fun K "between" "between" jE f fd)  (htimes:Has P w K mg base 2 "times" ["one","other"] (fn wK)) (hfraction:Has P w K mg base 3 "fraction" ["top","bottom"] (fn aN)) (hfractionD:pD P w K mg base 3 "fraction" ["top","bottom"] [1] (fn aN)) (hminus:Has P w K mg base 3 "minus" ["one","other"] (fn jP)) (hplus:Has P w K mg base 3 "plus" ["one","other"] (fn u6))  :FnOk P w K mg base CX0 4 f fd ["low","high"] (bA K 2 (fn gz)):=by
 have sc:=nQ
 refine bS F nQ (fun cdv A outer s H E ds d hr hG hl=>?_)
 obtain ⟨lo,hi,h1,h2,rfl,rfl⟩:=aV hG
 refine ⟨_,(aE (cZ (PWD.pt (mV (dB (ab 0) bB) (kT (dB (ab 1) bB)))) (aH (aR (dq hfractionD hr (ac ah ag)))) cf)
  (aE (cZ (dB (ab 0) bB) (aH (aR (au hminus hr (ac (ab 1) (ac (dq hfractionD hr (ac ah ag)) ag))))) cf)
  (aE (cZ (dB (ab 1) bB) (aH (aR (au hplus hr (ac (ab 0) (ac (dq hfractionD hr (ac ah ag)) ag))))) cf)
  (aH (aR (au htimes hr (ac (au hplus hr (ac (ab 0) (ac (ab 1) ag))) (ac (au hfraction hr (ac ah (ac ah ag))) ag)))))))),?_⟩
 . show aF ((?f:SD) [some _,some _])=_
   have o1:Flw ((1,1):Int×Int):=⟨⟨by decide,(by show (1:Int).natAbs < 2 ^ 4000;exact Nat.one_lt_two_pow (by decide)),(by show (1:Int).natAbs < 2 ^ 4000;exact Nat.one_lt_two_pow (by decide))⟩,⟨by decide,by decide⟩⟩
   have o2:Flw ((1,2):Int×Int):=⟨⟨by decide,o1.s1,Nat.lt_of_lt_of_le (show (2:Int).natAbs < 2 ^ 2 by decide) (Nat.pow_le_pow_right (by decide) (by decide))⟩,⟨by decide,by decide⟩⟩
   cases lo with
   | none=>cases hi with
    | none=>simp only [aF,bc,dh,aA,d7,sIf,ae,fC,f2,fT,asB,cu,af,aa,ak,Zc,Zd,Ze,cO,bo,opD,cO,bo,bj];rfl
    | some h=>simp only [aF,bc,dh,aA,d7,sIf,ae,fC,f2,fT,asB,cu,af,aa,ak,Zc,Zd,Ze,cO,bo,opD,cO,bo,bj,e2w (op:=fun p q=>fr (mi p q)) (Flw.of (h2 h rfl)) o1];rfl
   | some l=>cases hi with
    | none=>simp only [aF,bc,dh,aA,d7,sIf,ae,fC,f2,fT,asB,cu,af,aa,ak,Zc,Zd,Ze,cO,bo,opD,cO,bo,bj,e2w (op:=fun p q=>fr (pl p q)) (Flw.of (h1 l rfl)) o1];rfl
    | some h =>
     have e1:=e2w (op:=fun p q=>fr (pl p q)) (Flw.of (h1 l rfl)) (Flw.of (h2 h rfl))
     have e3:=e2w (op:=fun p q=>fr (ti p q)) (Flw.of ((h1 l rfl).pl (h2 h rfl))) o2
     have e4:fn aN [.int 1,.int 2]=some (fr (1,2)):=kl (t:=1) (b:=2) (by decide) cQ
     simp only [aF,bc,dh,aA,d7,sIf,ae,fC,f2,fT,asB,cu,af,aa,ak,Zc,Zd,Ze,cO,bo,opD,cO,bo,e1,e3,e4];rfl
theorem i6:aD ["bounds","ways","middle","thing","total"] ["bounds","ways","middle"] (al eO):=⟨rfl,rfl,rfl,by decide +kernel,rfl,by decide +kernel,by decide +kernel⟩
theorem mo (F:Fun K "ring_through" "ring_through" eO f fd)  (hbound_sum:Has P w K mg base 1 "bound_sum" ["one","other"] (fn ck)) (hkeeps:Has P w K mg base 4 "keeps" ["part","bound"] (fn iZ)) (hfractionD:pD P w K mg base 3 "fraction" ["top","bottom"] [1] (fn aN))  (m_range:mg "range" = none) (m_len:mg "len" = none):FnOk P w K mg base CX0 5 f fd ["bounds","ways","middle"] (bv K 3 (fn ft)):=by
 have sc:=i6
 refine bu F i6 (fun cdv A outer s H E ds d hr hG hl=>?_)
 obtain ⟨d0,d1,n,m,f,p,ok,h0,h1,rfl,rfl⟩:=aV hG
 have hown:=vH n f p m
 refine ⟨_,(av (du 3 sc.nd PassesOwn.never rfl (ba rfl m_range (ac (aT aK cH rfl m_len PySem.boot_len (ac (ab 0) ag)) ag))
  (av (aS 4 sc.nd (aQ (au hbound_sum hr (ac (ay (ay (ab 0) (ab 3)) (ab 2)) (ac (ay (ay (ab 0) (ab 2)) (ab 3)) ag)))))
  (aG (eU (iM (dw (au hkeeps hr (ac (dq hfractionD hr (ac ah ag)) (ac (ab 4) ag))))) (aG (bt (mW (ay (ay (ab 1) (ab 3)) (ab 2)) (ay (ay (ab 1) (ab 2)) (ab 3))))) c4))))
  (aG (bt (aQ bB)))),?_,?own⟩
 case own=>first | rfl | exact hown
 . show aF ((?f:SD) (aJ 5 _))=_
   have e0:aJ 5 [d0,d1,.int (m:Int)]=[some (aq (aZ n f)),some (.seq (fQ n p)),some (.int (m:Int)),none,none]:=by
    show [some (sh d0),some (sh d1),some (sh (.int (m:Int))),none,none]=_
    rw [show sh d0=_ from h0,h1]
    rfl
   rw [e0]
   have hm:=ok.mn
   have hn:=ok.n41
   have len:c8 [aq (aZ n f)]=some (.int (n:Int)):=jJ (bQ n f)
   have hv:=fun o1 o2:Option D=>dS (g:=aa (ak c8 (aa (ae 0) af)) af) (δ:=[some (aq (aZ n f)),some (.seq (fQ n p)),some (.int (m:Int)),o1,o2]) (n:=n) (by simp only [ae,af,aa,ak,Zc,Zd,len]) (by omega)
   have fo:Fk (0,1):=Fk.of (mJ (k:=200) (by decide))
   obtain ⟨k1,k2⟩:=nv (i:=3) (s:=((aA (az 4 (vI (ak (fn ck) (aa (f2 gIx (f2 gIx (ae 0) (ae 3)) (ae 2)) (aa (f2 gIx (f2 gIx (ae 0) (ae 2)) (ae 3)) af))))) (sIf (fH (fT (ak (fn iZ) (aa (ak (dfl (fn aN) [1]) (aa (fC (.int 0)) af)) (aa (ae 4) af))))) (dO (ir (f2 gIx (f2 gIx (ae 1) (ae 3)) (ae 2)) (f2 gIx (f2 gIx (ae 1) (ae 2)) (ae 3)))) bc)))) (f:=fun (i:Nat)=>D.int (i:Int)) (fun _ δ=>∃ o1 o2,δ=[some (aq (aZ n f)),some (.seq (fQ n p)),some (.int (m:Int)),o1,o2]) (mH f p m) (List.range n) (by
    rintro pre t post _ hx ⟨o1,o2,rfl⟩
    obtain ⟨rfl,ht⟩:=bE hx
    generalize pre.length=t at *
    obtain ⟨r1,q1,q2⟩:=iP (bQ n f) ht hm
    obtain ⟨r2,q3,q4⟩:=iP (bQ n f) hm ht
    rw [bV f ht hm] at q2
    rw [bV f hm ht] at q4
    obtain ⟨w1,w2⟩:=tf p ht hm
    obtain ⟨w3,w4⟩:=tf p hm ht
    have kk:=rG (p:=(0,1)) (b:=bs (f t m) (f m t)) fo (((ok.bk t m ht hm).sum (ok.bk m t hm ht)).mono (by decide))
    have s1:((az 4 (vI (ak (fn ck) (aa (f2 gIx (f2 gIx (ae 0) (ae 3)) (ae 2)) (aa (f2 gIx (f2 gIx (ae 0) (ae 2)) (ae 3)) af)))))) [some (aq (aZ n f)),some (.seq (fQ n p)),some (.int (m:Int)),some (.int (t:Int)),o2]=some (.nx [some (aq (aZ n f)),some (.seq (fQ n p)),some (.int (m:Int)),some (.int (t:Int)),some (bdD (bs (f t m) (f m t)))]):=bJ (bh (d:=bdD (bs (f t m) (f m t))) (by simp only [ae,f2,af,aa,ak,Zc,Zd,Ze,q1,q2,q3,q4,lZ]) (ju _))
    unfold mH
    cases hk:kp (0,1) (bs (f t m) (f m t)) with
    | true =>
     refine ⟨fun _=>⟨_,ao s1 (bY (by simp only [ae,fC,fT,asB,fH,af,aa,ak,Zc,Option.map_some,Zd,Ze,Bool.not_true,bj,kk,hk]) rfl),_,_,rfl⟩,fun d z=>?_⟩
     rw [if_pos rfl] at z
     cases z
    | false =>
     refine ⟨fun z=>?_,fun d z=>?_⟩
     . rw [if_neg (by decide)] at z
       cases z
     . rw [if_neg (by decide)] at z
       cases z
       refine ao s1 (cE (by simp only [ae,fC,fT,asB,fH,af,aa,ak,Zc,Option.map_some,Zd,Ze,Bool.not_false,bj,kk,hk]) (vh (d:=.lst (bP (p t m++p m t))) ?_))
       have l1:=ok.ln t m ht hm
       have l2:=ok.ln m t hm ht
       have ei:bP (p t m++p m t)=bP (p t m)++bP (p m t):=List.map_append
       rw [ei]
       exact qu (a:=.seq (bP (p t m))) (b:=.seq (bP (p m t))) (by simp only [ae,f2,Zc,Zd,Ze,w1,w2]) (by simp only [ae,f2,Zc,Zd,Ze,w3,w4]) rfl rfl (by unfold bP;rw [Zi,Zi];omega) (by rw [<- ei];exact oG _)) (List.range n) [] [some (aq (aZ n f)),some (.seq (fQ n p)),some (.int (m:Int)),none,none] rfl ⟨_,_,rfl⟩
   unfold rgt
   cases hb:aW (mH f p m) [] (List.range n) with
   | none =>
    obtain ⟨_,w,o1,o2,rfl⟩:=k1 hb
    exact cr (ao (bH (hv _ _) w) (bx (bh rfl)))
   | some d=>exact cr (dU (bH (hv _ _) (k2 d hb)))
theorem kD:aD ["bound","back","e","lows","high"] ["bound","back","e"] (al gX):=⟨rfl,rfl,rfl,by decide +kernel,rfl,by decide +kernel,by decide +kernel⟩
theorem qT (F:Fun K "far_value" "far_value" gX f fd)  (hfraction:Has P w K mg base 3 "fraction" ["top","bottom"] (fn aN)) (hfractionD:pD P w K mg base 3 "fraction" ["top","bottom"] [1] (fn aN)) (hbetween:Has P w K mg base 4 "between" ["low","high"] (fn gz)) (hgreatest:Has P w K mg base 2 "greatest" ["parts"] (fn gP)) (hminus:Has P w K mg base 3 "minus" ["one","other"] (fn jP))  :FnOk P w K mg base CX0 5 f fd ["bound","back","e"] (bA K 3 (fn fW)):=by
 have sc:=kD
 refine bS F kD (fun cdv A outer s H E ds d hr hG hl=>?_)
 obtain ⟨bound,back,e,hb,hk,he,rfl,rfl⟩:=aV hG
 refine ⟨_,(aE (bL 3 sc.nd (BW (dB (ab 1) bB) (gE ag) (gE (ac (dq hfractionD hr (ac (j9 (ay (ab 1) ah)) ag)) ag))))
  (aE (cZ (dB (ab 0) bB) (aH (aR (au hbetween hr (ac (au hgreatest hr (ac (bC (ab 3) (gE (ac (au hfraction hr (ac (ay (ab 2) ah) (ac (ay (ab 2) ah) ag))) ag))) ag)) (ac bB ag))))) cf)
  (aE (bL 4 sc.nd (dq hfractionD hr (ac (ay (ab 0) ah) ag)))
  (aE (cZ (dw (ay (ab 0) ah)) (aH (aR (au hbetween hr (ac (au hgreatest hr (ac (bC (ab 3) (gE (ac (au hminus hr (ac (ab 4) (ac (ab 2) ag))) ag))) ag)) (ac (ab 4) ag))))) cf)
  (aH (aR (ab 4))))))),?_⟩
 . show aF ((?f:SD) [some _,some _,some _,none,none])=_
   have l0:fIf (fT (f2 cO (ae 1) (fC .non))) (db af) (db (aa (ak (dfl (fn aN) [1]) (aa (f1 gH (f2 gIx (ae 1) (fC (.int 0)))) af)) af)) [some (bdD bound),some (bdD back),some (fr e),none,none]=some (.lst ((fF back).map fr)):=by
    rcases back with _ | ⟨k,s⟩
    . rfl
    . simp only [ae,fC,f2,f1,fT,asB,gH,af,aa,db,ak,c9,Zc,Zd,Ze,bq,cO,bo,fIf,Bool.false_eq_true,if_false,bj]
      rfl
   have st1:fK 3 (fIf (fT (f2 cO (ae 1) (fC .non))) (db af) (db (aa (ak (dfl (fn aN) [1]) (aa (f1 gH (f2 gIx (ae 1) (fC (.int 0)))) af)) af))) [some (bdD bound),some (bdD back),some (fr e),none,none]=some (.nx [some (bdD bound),some (bdD back),some (fr e),some (.lst ((fF back).map fr)),none]):=mL l0
   rcases bound with _ | ⟨n,s⟩
   . obtain ⟨g1,g2⟩:=wf hk ((Cg he).mono (by decide))
     have g3:=lN g2 (fun p z=>nomatch z:Hs none)
     have ef:fn aN [.int e.2,.int e.1]=some (fr (low e.2 e.1)):=kl (by have:=he.p1;omega) (l7 (he.fr.s1))
     have ca:=wE (fF back) [low e.2 e.1] (by have:=sX back;simp only [List.length_cons,List.length_nil];omega)
     refine cr (ao st1 (dU (cE rfl (mO (d:=fr (io none back e)) ?_))))
     have x1:gIx (fr e) (.int 1)=some (.int e.2):=rfl
     have x0:gIx (fr e) (.int 0)=some (.int e.1):=rfl
     have cb:bi (.lst ((fF back).map fr)) (.lst [fr (low e.2 e.1)])=some (.lst ((fF back++[low e.2 e.1]).map fr)):=ca
     have g3':fn gz [opD (gre (fF back++[low e.2 e.1]) none),.non]=some (fr (io none back e)):=g3
     simp only [ae,fC,f2,af,aa,db,ak,Zc,Zd,Ze,oZ,x1,x0,ef,cb,g1,g3']
   . have n1:Sm 800 n:=hb
     have f1:dfl (fn aN) [1] [.int n]=some (fr (n,1)):=bj
     have x0:gIx (bdD (some (n,s))) (.int 0)=some (.int n):=rfl
     have x1:gIx (bdD (some (n,s))) (.int 1)=some (.bl s):=rfl
     have isn:cO (bdD (some (n,s))) .non=some (.bl false):=rfl
     have st2:fK 4 (ak (dfl (fn aN) [1]) (aa (f2 gIx (ae 0) (fC (.int 0))) af)) [some (bdD (some (n,s))),some (bdD back),some (fr e),some (.lst ((fF back).map fr)),none]=some (.nx [some (bdD (some (n,s))),some (bdD back),some (fr e),some (.lst ((fF back).map fr)),some (fr (n,1))]):=mL (by simp only [ae,fC,f2,f1,af,aa,ak,c9,Zc,Zd,bq,f1])
     cases s with
     | true =>
      have hm:Fr 1801 (mi (n,1) e):=(nu n1).mi (he.fr.mono (by decide))
      obtain ⟨g1,g2⟩:=wf hk hm
      have g3:=lN g2 (fun p z=>by cases z;exact (nu n1).mono (by decide):Hs (some (n,1)))
      have em:fn jP [fr (n,1),fr e]=some (fr (mi (n,1) e)):=e2w (op:=fun p q=>fr (mi p q)) (Flw.of (nu n1)) (Flw.of he.fr)
      have ca:=wE (fF back) [mi (n,1) e] (by have:=sX back;simp only [List.length_cons,List.length_nil];omega)
      have cb:bi (.lst ((fF back).map fr)) (.lst [fr (mi (n,1) e)])=some (.lst ((fF back++[mi (n,1) e]).map fr)):=ca
      have g3':fn gz [opD (gre (fF back++[mi (n,1) e]) none),fr (n,1)]=some (fr (io (some (n,true)) back e)):=g3
      exact cr (ao st1 (ao (bY (by simp only [ae,fC,f2,fT,asB,Zc,Zd,bq,cO,bo]) rfl) (ao st2 (dU (cE (by simp only [ae,fC,f2,fT,asB,eY,Zc,Zd,bq]) (mO (by simp only [ae,f2,af,aa,db,ak,Zc,Zd,Ze,bq,em,cb,g1,g3'])))))))
     | false=>exact cr (ao st1 (ao (bY (by simp only [ae,fC,f2,fT,asB,Zc,Zd,bq,cO,bo]) rfl) (ao st2 (ao (bY (by simp only [ae,fC,f2,fT,asB,eY,Zc,Zd,bq]) rfl) (mO rfl)))))
theorem i5:aD ["bounds","placed","thing","lows","highs"] ["bounds","placed","thing"] (al eN):=⟨rfl,rfl,rfl,by decide +kernel,rfl,by decide +kernel,by decide +kernel⟩
theorem me (F:Fun K "value_beside" "value_beside" eN f fd)  (hbetween:Has P w K mg base 4 "between" ["low","high"] (fn gz)) (hminus:Has P w K mg base 3 "minus" ["one","other"] (fn jP)) (hplus:Has P w K mg base 3 "plus" ["one","other"] (fn u6)) (hgreatest:Has P w K mg base 2 "greatest" ["parts"] (fn gP)) (hleast:Has P w K mg base 2 "least" ["parts"] (fn rR)) (hfractionD:pD P w K mg base 3 "fraction" ["top","bottom"] [1] (fn aN))  :FnOk P w K mg base CX0 5 f fd ["bounds","placed","thing"] (bv K 3 (fn cR)):=by
 have sc:=i5
 refine bu F i5 (fun cdv A outer s H E ds d hr hG hl=>?_)
 obtain ⟨T,n,ps,t,h,rfl,rfl⟩:=aV hG
 have hown:own (fr (eD (aj T) ps t))=true:=rfl
 refine ⟨_,(av (sE 3 sc.nd (by exact (sG (ab 1))) (T:=["j"]) (N:=["j","bounds","placed","thing"]) (js:=[0,1,2]) (cl:=[("thing",_),("placed",_),("bounds",_)]) (fun _ _ _ _ _=>by exact (iC 0 (show List.Nodup (["j","bounds","placed","thing"]:List Str) from by decide +kernel))) (jN 0 (by decide)) (fun _ _ _ _ _=>by exact (qP (iA (ay (ay (ab 1) (ab 0)) (ab 3)) bB))) (fun _ _ _ _ _=>by exact (aQ (au hminus hr (ac (mZ (oH hr) (ab 2) (ab 0)) (ac (dq hfractionD hr (ac (ay (ay (ay (ab 1) (ab 0)) (ab 3)) ah) ag)) ag))))) (by exact CompG.of (T:=["j"]) (Z:=["bounds","placed","thing"]) (Y:=["thing","placed","bounds"]) (hcl:=(by intro p hp;simp only [Zp,List.not_mem_nil,or_false] at hp;rcases hp with rfl | rfl | rfl <;> rfl)) (hN:=(by intro i y j h1 h2;match i,h1,h2 with | 0,h1,h2=>cases h1;cases h2;exact ⟨rfl,rfl,rfl⟩ | 1,h1,h2=>cases h1;cases h2;exact ⟨rfl,rfl,rfl⟩ | 2,h1,h2=>cases h1;cases h2;exact ⟨rfl,rfl,rfl⟩ | n+3,h1,h2=>cases h1))))
  (av (sE 4 sc.nd (by exact (sG (ab 1))) (T:=["j"]) (N:=["j","bounds","placed","thing"]) (js:=[0,1,2]) (cl:=[("thing",_),("placed",_),("bounds",_)]) (fun _ _ _ _ _=>by exact (iC 0 (show List.Nodup (["j","bounds","placed","thing"]:List Str) from by decide +kernel))) (jN 0 (by decide)) (fun _ _ _ _ _=>by exact (qP (iA (ay (ay (ab 1) (ab 3)) (ab 0)) bB))) (fun _ _ _ _ _=>by exact (aQ (au hplus hr (ac (mZ (oH hr) (ab 2) (ab 0)) (ac (dq hfractionD hr (ac (ay (ay (ay (ab 1) (ab 3)) (ab 0)) ah) ag)) ag))))) (by exact CompG.of (T:=["j"]) (Z:=["bounds","placed","thing"]) (Y:=["thing","placed","bounds"]) (hcl:=(by intro p hp;simp only [Zp,List.not_mem_nil,or_false] at hp;rcases hp with rfl | rfl | rfl <;> rfl)) (hN:=(by intro i y j h1 h2;match i,h1,h2 with | 0,h1,h2=>cases h1;cases h2;exact ⟨rfl,rfl,rfl⟩ | 1,h1,h2=>cases h1;cases h2;exact ⟨rfl,rfl,rfl⟩ | 2,h1,h2=>cases h1;cases h2;exact ⟨rfl,rfl,rfl⟩ | n+3,h1,h2=>cases h1))))
  (aG (bt (aQ (au hbetween hr (ac (au hgreatest hr (ac (ab 3) ag)) (ac (au hleast hr (ac (ab 4) ag)) ag)))))))),?_,?own⟩
 case own=>first | rfl | exact hown
 . show aF ((?f:SD) (aJ 5 _))=_
   have e0:aJ 5 [aq T,plD ps,.int ((t:Nat):Int)]=[some (aq T),some (plD ps),some (.int ((t:Nat):Int)),none,none]:=by
    show [some (sh (aq T)),some (sh (plD ps)),some (.int ((t:Nat):Int)),none,none]=_
    rw [mP,ul]
   rw [e0]
   have le:ps.filterMap (fun p=>((aj T p.1 t).map fun b=>fr (mi p.2 (b.1,1))))=(eu (aj T) ps t).map fr:=by
    unfold eu
    rw [List.map_filterMap]
    congr 1
    funext p
    cases aj T p.1 t <;> rfl
   have he:ps.filterMap (fun p=>((aj T t p.1).map fun b=>fr (pl p.2 (b.1,1))))=(dM (aj T) ps t).map fr:=by
    unfold dM
    rw [List.map_filterMap]
    congr 1
    funext p
    cases aj T t p.1 <;> rfl
   have lf:=low_fr h
   have hf:=Av h
   have g1:=oP (x:=.lst ((eu (aj T) ps t).map fr)) rfl (fun p m=>Fk.of (lf p m))
   have g2:=AE (x:=.lst ((dM (aj T) ps t).map fr)) rfl (fun p m=>Fk.of (hf p m))
   have g3:=lN (lo:=gre (eu (aj T) ps t) none) (hi:=lea (dM (aj T) ps t) none) (fun p e=>(iR e).elim (fun z=>lf p z) fun z=>nomatch z) (fun p e=>(m9 e).elim (fun z=>hf p z) fun z=>nomatch z)
   refine cr (ao (be (d:=.lst ((eu (aj T) ps t).map fr)) (δ':=[some (aq T),some (plD ps),some (.int ((t:Nat):Int)),none,none]) ?lows) (ao (be (d:=.lst ((dM (aj T) ps t).map fr)) (δ':=[some (aq T),some (plD ps),some (.int ((t:Nat):Int)),some (.lst ((eu (aj T) ps t).map fr)),none]) ?highs) (bx (δ':=[some (aq T),some (plD ps),some (.int ((t:Nat):Int)),some (.lst ((eu (aj T) ps t).map fr)),some (.lst ((dM (aj T) ps t).map fr))]) ?_)))
   case lows =>
    rw [<- le]
    refine ig (f:=fun p:Nat×(Int×Int)=>D.int ((p.1:Nat):Int)) (h:=fun p=>((aj T p.1 t).map fun b=>fr (mi p.2 (b.1,1)))) (xs:=ps) ?hs (fun p m=>?_) (Nat.le_trans h.len (by decide))
    case hs =>
     show some ((ps.map fun p=>((p.1:Nat):Int)).map D.int)=_
     rw [List.map_map]
     rfl
    have bb:=h.bd p.1 t
    obtain ⟨r,i1,i2⟩:=iP h.sq (h.lt p m) h.ht
    have gp:=za h.nd (show (p.1,p.2)∈ps from m)
    rcases q:aj T p.1 t with _ | ⟨k,s⟩
    . refine nH (δ1:=[some (.int ((p.1:Nat):Int)),some (aq T),some (plD ps),some (.int ((t:Nat):Int))]) rfl ?_
      rw [q] at i2
      simp only [ae,fC,f2,fT,asB,Zc,Zd,Ze,Bool.not_true,bo,i1,i2,dP,bo,bdD]
    . rw [q] at i2 bb
      refine jB (δ1:=[some (.int ((p.1:Nat):Int)),some (aq T),some (plD ps),some (.int ((t:Nat):Int))]) rfl ?_ ?_
      . simp only [ae,fC,f2,fT,asB,Zc,Zd,Ze,Bool.not_false,bo,i1,i2,dP,bo,bdD]
      . refine qS (δ':=[some (.int ((p.1:Nat):Int)),some (aq T),some (plD ps),some (.int ((t:Nat):Int))]) ?_ rfl
        show vI _ [some (.int ((p.1:Nat):Int)),some (sh (aq T)),some (sh (plD ps)),some (.int ((t:Nat):Int))]=_
        rw [mP,ul]
        refine bh ?_
        have e5:=e2w (op:=fun p q=>fr (mi p q)) (Flw.of (h.fr p m)) (zf bb)
        have e6:gIx (bdD (some (k,s))) (.int 0)=some (.int k):=rfl
        simp only [ae,fC,f2,af,aa,ak,c9,Zc,Zd,Ze,bq,i1,i2,gp,bj,e5]
   case highs =>
    rw [<- he]
    show fY _ _ _ _ _ _ [some (aq T),some (plD ps),some (.int ((t:Nat):Int)),some (.lst ((eu (aj T) ps t).map fr)),none]=_
    refine ig (f:=fun p:Nat×(Int×Int)=>D.int ((p.1:Nat):Int)) (h:=fun p=>((aj T t p.1).map fun b=>fr (pl p.2 (b.1,1)))) (xs:=ps) ?hs (fun p m=>?_) (Nat.le_trans h.len (by decide))
    case hs =>
     show some ((ps.map fun p=>((p.1:Nat):Int)).map D.int)=_
     rw [List.map_map]
     rfl
    have bb:=h.bd t p.1
    obtain ⟨r,i1,i2⟩:=iP h.sq h.ht (h.lt p m)
    have gp:=za h.nd (show (p.1,p.2)∈ps from m)
    rcases q:aj T t p.1 with _ | ⟨k,s⟩
    . refine nH (δ1:=[some (.int ((p.1:Nat):Int)),some (aq T),some (plD ps),some (.int ((t:Nat):Int))]) rfl ?_
      rw [q] at i2
      simp only [ae,fC,f2,fT,asB,Zc,Zd,Ze,Bool.not_true,bo,i1,i2,dP,bo,bdD]
    . rw [q] at i2 bb
      refine jB (δ1:=[some (.int ((p.1:Nat):Int)),some (aq T),some (plD ps),some (.int ((t:Nat):Int))]) rfl ?_ ?_
      . simp only [ae,fC,f2,fT,asB,Zc,Zd,Ze,Bool.not_false,bo,i1,i2,dP,bo,bdD]
      . refine qS (δ':=[some (.int ((p.1:Nat):Int)),some (aq T),some (plD ps),some (.int ((t:Nat):Int))]) ?_ rfl
        show vI _ [some (.int ((p.1:Nat):Int)),some (sh (aq T)),some (sh (plD ps)),some (.int ((t:Nat):Int))]=_
        rw [mP,ul]
        refine bh ?_
        have e5:=e2w (op:=fun p q=>fr (pl p q)) (Flw.of (h.fr p m)) (zf bb)
        have e6:gIx (bdD (some (k,s))) (.int 0)=some (.int k):=rfl
        simp only [ae,fC,f2,af,aa,ak,c9,Zc,Zd,Ze,bq,i1,i2,gp,bj,e5]
   . show vI _ [some (aq T),some (plD ps),some (.int ((t:Nat):Int)),some (.lst ((eu (aj T) ps t).map fr)),some (.lst ((dM (aj T) ps t).map fr))]=_
     refine bh ?_
     simp only [ae,af,aa,ak,Zc,Zd,Ze,g1,g2,g3]
     rfl
theorem pP:aD ["table","thing","bounds","ways","middle","ring"] ["table"] (al kR):=⟨rfl,rfl,rfl,by decide +kernel,rfl,by decide +kernel,by decide +kernel⟩
theorem xk (F:Fun K "closed" "closed" kR f fd)  (hwith_noughts:HasF P w K mg base 2 "with_noughts" ["table"] (fn gN)) (hstraight_ways:HasF P w K mg base 1 "straight_ways" ["size"] (fn gf)) (hring_through:HasF P w K mg base 5 "ring_through" ["bounds","ways","middle"] (fn ft)) (hlead_through:CH P w K mg base 2 "lead_through" ["bounds","ways","middle"] (fnM fu)) (hkeeps:Has P w K mg base 4 "keeps" ["part","bound"] (fn iZ)) (hfractionD:pD P w K mg base 3 "fraction" ["top","bottom"] [1] (fn aN))  (m_range:mg "range" = none) (m_len:mg "len" = none):FnOk P w K mg base CX0 6 f fd ["table"] (bv K 1 (fn gQ)):=by
 have sc:=pP
 refine bu F pP (fun cdv A outer s H E ds d hr hG hl=>?_)
 obtain ⟨d0,T,n,hT,hs,hn,hB,rfl,rfl⟩:=aV hG
 have hown:=jn n T
 refine ⟨_,(av (du 1 sc.nd PassesOwn.never rfl (ba rfl m_range (ac (aT aK cH rfl m_len PySem.boot_len (ac (ab 0) ag)) ag))
  (aG (eU (iM (dw (au hkeeps hr (ac (dq hfractionD hr (ac ah ag)) (ac (ay (ay (ab 0) (ab 1)) (ab 1)) ag))))) (aG (bt (nZ (bO (aQ j8) (bO (gD (bO (bK 1) cy)) cy))))) c4)))
  (av (aS 2 sc.nd (bR hwith_noughts hr (ac (ab 0) ag)))
  (av (aS 3 sc.nd (bR hstraight_ways hr (ac (aT aK cH rfl m_len PySem.boot_len (ac (ab 0) ag)) ag)))
  (av (du 4 sc.nd PassesOwn.never rfl (ba rfl m_range (ac (aT aK cH rfl m_len PySem.boot_len (ac (ab 0) ag)) ag))
   (av (aS 5 sc.nd (bR hring_through hr (ac (ab 2) (ac (ab 3) (ac (ab 4) ag)))))
   (av (eU (iA (ab 5) bB) (aG (bt (nZ (bO (aQ j8) (bO (bK 5) cy))))) c4)
   (aG (yn 2 3 hlead_through hr (gv (pvi 2) (gv (pvi 3) (ac (ab 4) ag))))))))
  (aG (bt (nZ (bO (aQ j8) (bO (bK 2) cy))))))))),?_,?own⟩
 case own=>first | rfl | exact hown
 . show aF ((?f:SD) (aJ 6 _))=_
   have e0:aJ 6 [d0]=[some (aq T),none,none,none,none,none]:=by
    show [some (sh d0),none,none,none,none,none]=_
    rw [show sh d0=aq T from hT]
   rw [e0]
   have len:c8 [aq T]=some (.int (n:Int)):=jJ hs
   have hv:=fun o1 o2 o3 o4 o5:Option D=>dS (g:=aa (ak c8 (aa (ae 0) af)) af) (δ:=[some (aq T),o1,o2,o3,o4,o5]) (n:=n) (by simp only [ae,af,aa,ak,Zc,Zd,len]) (by omega)
   have fo:Fk (0,1):=Fk.of (mJ (k:=200) (by decide))
   obtain ⟨k1,k2⟩:=nv (i:=1) (s:=((sIf (fH (fT (ak (fn iZ) (aa (ak (dfl (fn aN) [1]) (aa (fC (.int 0)) af)) (aa (f2 gIx (f2 gIx (ae 0) (ae 1)) (ae 1)) af))))) (dO (pq (cI (vI (fC (.str "ring"))) (cI (jc (cI (bD 1) gj)) gj)))) bc))) (f:=fun (i:Nat)=>D.int (i:Int)) (fun _ δ=>∃ o1,δ=[some (aq T),o1,none,none,none,none]) (rO T) (List.range n) (by
    rintro pre t post _ hx ⟨o1,rfl⟩
    obtain ⟨rfl,ht⟩:=bE hx
    generalize pre.length=t at *
    obtain ⟨r1,q1,q2⟩:=iP hs ht ht
    have kk:=rG (p:=(0,1)) (b:=aj T t t) fo ((hB t t).mono (by decide))
    unfold rO
    cases hk:kp (0,1) (aj T t t) with
    | true =>
     refine ⟨fun _=>⟨_,bY (by simp only [ae,fC,f2,fT,asB,fH,af,aa,ak,Zc,Option.map_some,Zd,Ze,Zf,Zg,Bool.not_true,bj,q1,q2,ly,kk,hk]) rfl,some (.int (t:Int)),rfl⟩,fun d z=>?_⟩
     rw [if_pos rfl] at z
     cases z
    | false =>
     refine ⟨fun z=>?_,fun d z=>?_⟩
     . rw [if_neg (by decide)] at z
       cases z
     . rw [if_neg (by decide)] at z
       cases z
       exact cE (by simp only [ae,fC,f2,fT,asB,fH,af,aa,ak,Zc,Option.map_some,Zd,Ze,Zf,Zg,Bool.not_false,bj,q1,q2,ly,kk,hk]) (vh rfl)) (List.range n) [] [some (aq T),none,none,none,none,none] rfl ⟨_,rfl⟩
   obtain ⟨c,hc⟩:∃ c,c=cz T:=⟨_,rfl⟩
   have hcd:∀ i,i < n->c i i=b0:=fun i _=>by rw [hc];exact if_pos rfl
   have hcb:∀ i j,Bk 2000 (c i j):=by rw [hc];exact DH hB
   have lp:=fun o1:Option D=>nv (i:=4) (s:=((aA (az 5 (cg (fn ft) (aa (ae 2) (aa (ae 3) (aa (ae 4) af))))) (aA (sIf (fT (f2 dP (ae 5) (fC .non))) (dO (pq (cI (vI (fC (.str "ring"))) (cI (bD 5) gj)))) bc) (nU 2 3 (fnM fu) (aa (ae 4) af)))))) (f:=fun (i:Nat)=>D.int (i:Int)) (fun pre δ=>∃ o1 o4 o5,St n c pre.length/\δ=[some (aq T),o1,some (aw (aZ n (dm c pre.length))),some (.lst (aU n (pw c pre.length))),o4,o5]) (rP n c) (List.range n) (by
    rintro pre m post _ hx ⟨o1,o4,o5,st,rfl⟩
    obtain ⟨rfl,hm⟩:=bE hx
    rw [Zh,List.length_singleton]
    generalize pre.length=m at *
    have rt:=st.rt hcb hn hm
    have er:=oN rt (cL (aZ n (dm c m))) (by rw [sh,nM]:sh (.lst (aU n (pw c m)))=.seq (fQ n (pw c m)))
    have ow:=vH n (dm c m) (pw c m) m
    unfold rP
    rcases qG (n:=n) (m:=m) (dm c m) (pw c m) with e | ⟨t,ht,e,bad⟩
    . have ok:=vo e
      have st':=vg st hm ok
      have el:=oO rt (st.fw.dia m hm)
      rw [e] at er ow ⊢
      refine ⟨fun _=>⟨[some (aq T),o1,some (aw (aZ n (dm c (m+1)))),some (.lst (aU n (pw c (m+1)))),some (.int (m:Int)),some .non],ao (bJ (cq (ds:=[aw (aZ n (dm c m)),.lst (aU n (pw c m)),.int (m:Int)]) rfl er ow)) (ao (bY rfl rfl) ?_),_,_,_,st',rfl⟩,fun d z=>by cases z⟩
      exact xP (i:=2) (j:=3) (xs:=bw (aZ n (dm c m))) (ys:=aU n (pw c m)) (es:=[.int (m:Int)]) (d0:=aw (aZ n (dm c (m+1)))) (d1:=.lst (aU n (pw c (m+1)))) rfl rfl rfl el rfl (cc _) (om _ _) (by decide)
    . rw [e] at er ow ⊢
      refine ⟨(fun z=>by cases z),fun d z=>?_⟩
      cases z
      exact ao (bJ (cq (ds:=[aw (aZ n (dm c m)),.lst (aU n (pw c m)),.int (m:Int)]) rfl er ow)) (dU (cE rfl (bx rfl)))) (List.range n) [] [some (aq T),o1,some (aw (aZ n (dm c 0))),some (.lst (aU n (pw c 0))),none,none] rfl ⟨_,_,_,vf hcd,rfl⟩
   unfold fg
   rw [<- hc]
   cases hb:aW (rO T) [] (List.range n) with
   | some d=>exact cr (dU (bH (hv _ _ _ _ _) (k2 d hb)))
   | none =>
    obtain ⟨_,w,o1,rfl⟩:=k1 hb
    obtain ⟨l1,l2⟩:=lp o1
    have ew:=oK (dC T) hs hn
    rw [<- hc] at ew
    refine cr (ao (bH (hv _ _ _ _ _) w) (ao (be (cq (ds:=[aq T]) rfl ew (cc _))) (ao (be (cq (ds:=[.int (n:Int)]) (by simp only [ae,af,aa,ak,Zc,Zd,Zf,Zg,len]) (mF hn) (om _ _))) ?_)))
    dsimp only [List.set_cons_zero,List.set_cons_succ]
    cases hr2:aW (rP n c) [] (List.range n) with
    | some d=>exact dU (bH (hv _ _ _ _ _) (l2 d hr2))
    | none =>
     obtain ⟨_,w2,o1',o4,o5,st,rfl⟩:=l1 hr2
     rw [List.length_range] at w2
     exact ao (bH (hv _ _ _ _ _) w2) (bx (by rfl))
theorem pN:aD ["bounds","values","placed","thing"] ["bounds","values"] (al kP):=⟨rfl,rfl,rfl,by decide +kernel,rfl,by decide +kernel,by decide +kernel⟩
theorem xi (F:Fun K "filled" "filled" kP f fd)  (hminus:Has P w K mg base 3 "minus" ["one","other"] (fn jP)) (hvalue_beside:HasF P w K mg base 5 "value_beside" ["bounds","placed","thing"] (fn cR))  (m_dict:mg "dict" = none) (m_range:mg "range" = none) (m_len:mg "len" = none):FnOk P w K mg base CX0 6 f fd ["bounds","values"] (bv K 2 (fn lm)):=by
 have sc:=pN
 refine bu F pN (fun cdv A outer s H E ds d hr hG hl=>?_)
 obtain ⟨d0,d1,T,n,ps,h0,h1,h,rfl,rfl⟩:=aV hG
 have hown:own (.lst ((fpt T n ps).map fr))=true:=by rw [own];exact eW _
 refine ⟨_,(av (aS 2 sc.nd (w6 rfl m_dict xE (ac (ab 1) ag)))
  (av (du 3 sc.nd PassesOwn.never rfl (ba rfl m_range (ac (aT aK cH rfl m_len PySem.boot_len (ac (ab 0) ag)) ag))
   (aG (eU (uo (oH hr) (ab 3) (ab 2)) (aG (vA (oH hr) 2 (Df 2 (au hvalue_beside.has hr (ac (ab 0) (ac (ab 2) (ac (ab 3) ag))))) (ab 3))) c4)))
  (aG (bt (kU (by exact (uv rfl m_range (ac ah (ac (aT aK cH rfl m_len PySem.boot_len (ac (ab 0) ag)) ag)))) (N:=["thing","placed"]) (js:=[2]) (cl:=[("placed",_)]) (fun _ _ _ _ _=>by exact (aQ (au hminus hr (ac (mZ (oH hr) (ab 1) (ab 0)) (ac (mZ (oH hr) (ab 1) ah) ag))))) (by exact CompOk.one)))))),?_,?own⟩
 case own=>first | rfl | exact hown
 . show aF ((?f:SD) (aJ 4 _))=_
   have e0:aJ 4 [d0,d1]=[some (aq T),some (plS ps),none,none]:=by
    show [some (sh d0),some (sh d1),none,none]=_
    rw [show sh d0=_ from h0,h1]
   rw [e0]
   have tl:(eI T).length=n:=by unfold eI;rw [Zi];exact h.sq.len
   obtain ⟨_,w,o,rfl⟩:=cC (i:=3) (s:=((sIf (fT (f2 ni (ae 3) (ae 2))) (nS 2 (ae 3) (vFz 2 (ak (fn cR) (aa (ae 0) (aa (ae 2) (aa (ae 3) af)))))) bc))) (f:=fun (i:Nat)=>D.int (i:Int)) (fun pre δ=>∃ o,δ=[some (aq T),some (plS ps),some (plO (br (aj T) ps pre.length)),o]) (List.range n) (by
    intro pre x post δ e hP
    obtain ⟨o,rfl⟩:=hP
    obtain ⟨hx,hxn⟩:x=pre.length/\pre.length < n:=by
     have a:=congrArg (fun l=>l[pre.length]?) e
     have b:=congrArg List.length e
     rw [List.length_range,Zh,List.length_cons] at b
     have c:pre.length < n:=by omega
     simp only [List.getElem?_range c,List.getElem?_append_right (Nat.le_refl _),Nat.sub_self,Zd] at a
     exact ⟨(Option.some.inj a).symm,c⟩
    subst hx
    have vb:=h.vb _ hxn
    rw [Zh,List.length_singleton]
    by_cases q:has (br (aj T) ps pre.length) pre.length
    . refine ⟨[some (aq T),some (plS ps),some (plO (br (aj T) ps pre.length)),some (.int (pre.length:Int))],bY ?_ rfl,some (.int (pre.length:Int)),by rw [zh q]⟩
      show asB (.bl (!(lk _ _ _).isSome))=_
      rw [uG,decide_eq_true q];rfl
    . refine ⟨[some (aq T),some (plS ps),some (plO (br (aj T) ps (pre.length+1))),some (.int (pre.length:Int))],cE ?_ ?_,some (.int (pre.length:Int)),rfl⟩
      . show asB (.bl (!(lk _ _ _).isSome))=_
        rw [uG,decide_eq_false q];rfl
      . have ev:vFz 2 (ak (fn cR) (aa (ae 0) (aa (ae 2) (aa (ae 3) af)))) [some (aq T),some (plS ps),some (plO (br (aj T) ps pre.length)),some (.int (pre.length:Int))]=some (fr (eD (aj T) (br (aj T) ps pre.length) pre.length),[some (aq T),some (plS ps),some (plO (br (aj T) ps pre.length)),some (.int (pre.length:Int))]):=by
         show ((fn cR [aq T,plD (br (aj T) ps pre.length),.int (pre.length:Int)]).bind _)=_
         rw [oM vb]
         rfl
        show nS 2 (ae 3) _ [some (aq T),some (plS ps),some (plO (br (aj T) ps pre.length)),some (.int (pre.length:Int))]=_
        unfold nS
        rw [ev]
        have nk:¬ ((pre.length:Nat):Int)∈(br (aj T) ps pre.length).map fun p=>((p.1:Nat):Int):=fun z=>by
         obtain ⟨p,mp,ep⟩:=Zm.mp z
         have e9:p=(pre.length,p.2):=Prod.ext (by show p.1=pre.length;omega) rfl
         rw [e9] at mp
         exact q ⟨p.2,mp⟩
        show (if (imm _ && decide (((br (aj T) ps pre.length).map fun p=>((p.1:Nat):Int)).length<=999))=true then some (Res.nx [some (aq T),some (plS ps),some (.md (ptK _ _) (ptV _ _ _ _)),some (.int (pre.length:Int))]) else none)=_
        rw [if_pos (by rw [Zi,decide_eq_true (Nat.le_trans vb.len (by decide))];rfl)]
        unfold ptK ptV
        rw [if_neg nk,if_neg nk,AC q]
        unfold plO
        rw [List.map_append,List.map_append]
        rfl) (List.range n) [] [some (aq T),some (plS ps),some (plO ps),none] rfl ⟨none,rfl⟩
   rw [List.length_range] at w
   refine cr (ao (be (d:=plO ps) (δ':=[some (aq T),some (plS ps),none,none]) ?cp) (ao (bH (δ':=[some (aq T),some (plS ps),some (plO ps),none]) (dS (n:=n) ?len (Nat.le_trans h.n1 (by decide))) w) (bx (δ':=[some (aq T),some (plS ps),some (plO (br (aj T) ps n)),o]) ?_)))
   case cp=>exact if_pos (qd ps)
   case len =>
    show some [D.int ((eI T).length:Int)]=_
    rw [tl]
   . obtain ⟨z,mz⟩:=h.all 0 h.n0
     have a0:=gM h.nd mz
     have src:pF (aa (fC (.int 1)) (aa (ak c8 (aa (ae 0) af)) af)) [some (aq T),some (plS ps),some (plO (br (aj T) ps n)),o]=some ((List.range (n - 1)).map fun (i:Nat)=>D.int (((i+1:Nat)):Int)):=by
      have eb:aa (fC (.int 1)) (aa (ak c8 (aa (ae 0) af)) af) [some (aq T),some (plS ps),some (plO (br (aj T) ps n)),o]=some [.int 1,.int ((eI T).length:Int)]:=rfl
      rw [tl] at eb
      exact wS eb h.n0 (Nat.le_trans h.n1 (by decide))
     unfold fpt
     rw [List.map_map]
     refine gy (g:=fun i=>fr (mi (atP (br (aj T) ps n) (i+1)) (atP (br (aj T) ps n) 0))) src (fun i m=>?_) ?_
     case refine_2=>rw [List.length_range];have:=h.n1;omega
     . have hi:i+1 < n:=by have:=Zn.mp m;omega
       obtain ⟨v,mv⟩:=h.all (i+1) hi
       have a1:=gM h.nd mv
       rw [a0,a1]
       refine qS (δ':=[some (.int ((i+1:Nat):Int)),some (plS (br (aj T) ps n))]) ?_ rfl
       show vI _ [some (.int ((i+1:Nat):Int)),some (sh (plO (br (aj T) ps n)))]=_
       rw [xT]
       refine bh ?_
       have k1:tM (plS (br (aj T) ps n)) (.int ((i+1:Nat):Int))=some (fr v):=vQ h.nd mv
       have k0:tM (plS (br (aj T) ps n)) (.int 0)=some (fr z):=vQ (t:=0) h.nd mz
       have e5:=e2w (op:=fun p q=>fr (mi p q)) (Flw.of (h.fr _ mv)) (Flw.of (h.fr _ mz))
       simp only [ae,fC,f2,af,aa,ak,Zc,Zd,Ze,k1,k0,e5]
theorem fS:aD ["table","answer"] ["table"] (al cK):=⟨rfl,rfl,rfl,by decide +kernel,rfl,by decide +kernel,by decide +kernel⟩
theorem jo (F:Fun K "closed_or_refused" "closed_or_refused" cK f fd)  (hclosed:HasF P w K mg base 6 "closed" ["table"] (fn gQ))  :FnOk P w K mg base CX0 7 f fd ["table"] (bv K 1 (fn cM)):=by
 have sc:=fS
 refine bu F fS (fun cdv A outer s H E ds d hr hG hl=>?_)
 obtain ⟨d0,T,U,n,hT,hs,hn,hb,c,rfl,rfl⟩:=aV hG
 have hown:=cc U
 refine ⟨_,(av (aS 1 sc.nd (bR hclosed hr (ac (ab 0) ag)))
  (av (eU (iN hr.units (ay (ab 1) ah) j8) (aG ym) c4)
  (aG (bt (ya 1 (bK 1) ah))))),?_,?own⟩
 case own=>first | rfl | exact hown
 . show aF ((?f:SD) (aJ 2 _))=_
   have e0:aJ 2 [d0]=[some (aq T),none]:=by
    show [some (sh d0),none]=_
    rw [show sh d0=aq T from hT]
   rw [e0]
   have ec:=oQ (dC T) hs hn hb
   rw [c.cl] at ec
   have ho:own (.tup [.str "table",aw U])=true:=by
    show (true && (own (aw U) && true))=true
    rw [cc];rfl
   have i0:gIx (.tup [.str "table",aw U]) (.int 0)=some (.str "table"):=rfl
   have q:cv (.str "table") (.str "ring")=some (.bl false):=rfl
   exact cr (ao (bJ (cq (ds:=[aq T]) rfl ec ho)) (ao (bY (by simp only [ae,fC,f2,fT,asB,Zc,Zd,Ze,Zf,Zg,i0,q]) rfl) (bx (AO (ds:=[.str "table",aw U]) (d:=aw U) rfl rfl))))
theorem lR:aD ["table"] ["table"] (al iI):=⟨rfl,rfl,rfl,by decide +kernel,rfl,by decide +kernel,by decide +kernel⟩
theorem sL (F:Fun K "point_of" "point_of" iI f fd)  (hfilled:HasF P w K mg base 6 "filled" ["bounds","values"] (fn lm)) (hclosed_or_refused:HasF P w K mg base 7 "closed_or_refused" ["table"] (fn cM)) (hfractionD:pD P w K mg base 3 "fraction" ["top","bottom"] [1] (fn aN))  :FnOk P w K mg base CX0 8 f fd ["table"] (bv K 1 (fn gO)):=by
 have sc:=lR
 refine bu F lR (fun cdv A outer s H E ds d hr hG hl=>?_)
 obtain ⟨d0,T,U,n,hT,hs,n0,hn,hb,c,rfl,rfl⟩:=aV hG
 have hown:own (.lst ((fpt U n ps0).map fr))=true:=by rw [own];exact eW _
 refine ⟨_,(aG (bt (bR hfilled hr (ac (au hclosed_or_refused.has hr (ac (ab 0) ag)) (ac (yw ah (dq hfractionD hr (ac ah ag))) ag))))),?_,?own⟩
 case own=>first | rfl | exact hown
 . show aF ((?f:SD) (aJ 1 _))=_
   have e0:aJ 1 [d0]=[some (aq T)]:=by
    show [some (sh d0)]=_
    rw [show sh d0=aq T from hT]
   rw [e0]
   have ec:=gi (dC T) hs hn (fun i j=>(hb i j).mono (by decide)) c
   have ef:=tT (d0:=aw U) (d1:=.md [0] [fr (0,1)]) (cL U) (ps:=ps0) rfl (c.fi n0 hn hb)
   exact cr (bx (cq (ds:=[aw U,.md [0] [fr (0,1)]]) (by simp only [ae,fC,af,aa,ak,Zc,Zd,ec,uP,j3,bj];rfl) ef hown))
theorem kE:aD ["table","i","j","e","bounds","values"] ["table","i","j","e"] (al gY):=⟨rfl,rfl,rfl,by decide +kernel,rfl,by decide +kernel,by decide +kernel⟩
theorem qU (F:Fun K "far_point" "far_point" gY f fd)  (hclosed_or_refused:HasF P w K mg base 7 "closed_or_refused" ["table"] (fn cM)) (hfar_value:Has P w K mg base 5 "far_value" ["bound","back","e"] (fn fW)) (hfilled:HasF P w K mg base 6 "filled" ["bounds","values"] (fn lm)) (hfractionD:pD P w K mg base 3 "fraction" ["top","bottom"] [1] (fn aN))  :FnOk P w K mg base CX0 8 f fd ["table","i","j","e"] (bv K 4 (fn hV)):=by
 have sc:=kE
 refine bu F kE (fun cdv A outer s H E ds d hr hG hl=>?_)
 obtain ⟨d0,T,U,n,i,j,e,hT,h,c,rfl,rfl⟩:=aV hG
 have hown:own (.lst ((fpt U n (psF U i j e)).map fr))=true:=by rw [own];exact eW _
 refine ⟨_,(av (aS 4 sc.nd (bR hclosed_or_refused hr (ac (ab 0) ag)))
  (av (aS 5 sc.nd (yc (ab 2) (dq hfractionD hr (ac ah ag))))
  (av (vA (oH hr) 5 (aQ (au hfar_value hr (ac (ay (ay (ab 4) (ab 1)) (ab 2)) (ac (ay (ay (ab 4) (ab 2)) (ab 1)) (ac (ab 3) ag))))) (ab 1))
  (aG (bt (bR hfilled hr (ac (ab 4) (ac (ab 5) ag)))))))),?_,?own⟩
 case own=>first | rfl | exact hown
 . show aF ((?f:SD) (aJ 6 _))=_
   have e0:aJ 6 [d0,.int (i:Int),.int (j:Int),fr e]=[some (aq T),some (.int (i:Int)),some (.int (j:Int)),some (fr e),none,none]:=by
    show [some (sh d0),some (.int (i:Int)),some (.int (j:Int)),some (sh (fr e)),none,none]=_
    rw [show sh d0=aq T from hT,xU]
   rw [e0]
   have ec:=gi (dC T) h.sq h.n1 (fun i j=>(h.bk i j).mono (by decide)) c
   have kb:=c.bk600 h.n1 h.bk
   have ev:=tU ((kb i j).mono (by decide)) ((kb j i).mono (by decide)) h.he
   obtain ⟨r1,a1,a2⟩:=ik c.sq h.hi h.hj
   obtain ⟨r2,b1,b2⟩:=ik c.sq h.hj h.hi
   have ef:=tT (d0:=aw U) (d1:=plO (psF U i j e)) (cL U) (xT _) (h.fi c)
   have pk:nS 5 (ae 1) (vI (ak (fn fW) (aa (f2 gIx (f2 gIx (ae 4) (ae 1)) (ae 2)) (aa (f2 gIx (f2 gIx (ae 4) (ae 2)) (ae 1)) (aa (ae 3) af))))) [some (aq T),some (.int (i:Int)),some (.int (j:Int)),some (fr e),some (aw U),some (.md [(j:Int)] [fr (0,1)])]=some (.nx [some (aq T),some (.int (i:Int)),some (.int (j:Int)),some (fr e),some (aw U),some (plO (psF U i j e))]):=by
    unfold nS
    have z:vI (ak (fn fW) (aa (f2 gIx (f2 gIx (ae 4) (ae 1)) (ae 2)) (aa (f2 gIx (f2 gIx (ae 4) (ae 2)) (ae 1)) (aa (ae 3) af)))) [some (aq T),some (.int (i:Int)),some (.int (j:Int)),some (fr e),some (aw U),some (.md [(j:Int)] [fr (0,1)])]=some (fr (io (aj U i j) (aj U j i) e),[some (aq T),some (.int (i:Int)),some (.int (j:Int)),some (fr e),some (aw U),some (.md [(j:Int)] [fr (0,1)])]):=bh (by simp only [ae,f2,af,aa,ak,Zc,Zd,Ze,a1,a2.1,b1,b2.1,ev])
    rw [z,zX]
    rfl
   have dp:j3 (ae 2) (ak (dfl (fn aN) [1]) (aa (fC (.int 0)) af)) [some (aq T),some (.int (i:Int)),some (.int (j:Int)),some (fr e),some (aw U),none]=some (.md [(j:Int)] [fr (0,1)],[some (aq T),some (.int (i:Int)),some (.int (j:Int)),some (fr e),some (aw U),none]):=by
    simp only [ae,fC,af,aa,ak,Zc,Zd,Ze,j3,bj]
    rfl
   exact cr (ao (bJ (cq (ds:=[aq T]) rfl ec (cc U))) (ao (bJ dp) (ao pk (bx (cq (ds:=[aw U,plO (psF U i j e)]) rfl ef hown)))))
theorem iz:aD ["_law_one","_law_e","_law_found","_law_i"] ["_law_one","_law_e"] (al dZ):=⟨rfl,rfl,rfl,by decide +kernel,rfl,by decide +kernel,by decide +kernel⟩
theorem lG (F:Fun K "_law_far_ones" "_law_far_ones" dZ f fd)  (hfar_point:HasF P w K mg base 8 "far_point" ["table","i","j","e"] (fn hV))  (m_range:mg "range" = none) (m_len:mg "len" = none):FnOk P w K mg base CX0 9 f fd ["_law_one","_law_e"] (bv K 2 (fn d5)):=by
 have sc:=iz
 refine bu F iz (fun cdv A outer s H E ds d hr hG hl=>?_)
 obtain ⟨d0,U,n,e,h0,cU,hn,bU,he,rfl,rfl⟩:=aV hG
 have hown:own (.lst (jj (dR U n n e)))=true:=by rw [own];exact ol _
 refine ⟨_,(av (aS 2 sc.nd (gD cy))
  (av (du 3 sc.nd PassesOwn.never rfl (ba rfl m_range (ac (aT aK cH rfl m_len PySem.boot_len (ac (ab 0) ag)) ag))
   (aG (aS 2 sc.nd (qJ (bK 2) (sA (by exact (j7 rfl m_range (ac (aT aK cH rfl m_len PySem.boot_len (ac (ab 0) ag)) ag))) (T:=["_law_j"]) (N:=["_law_j","_law_e","_law_i","_law_one"]) (js:=[1,3,0]) (cl:=[("_law_one",_),("_law_i",_),("_law_e",_)]) (fun _ _ _ _ _=>by exact (iC 0 (show List.Nodup (["_law_j","_law_e","_law_i","_law_one"]:List Str) from by decide +kernel))) (jN 0 (by decide)) (fun _ _ _ _ _=>by exact zY) (fun _ _ _ _ _=>by exact (bR hfar_point hr (ac (ab 3) (ac (ab 2) (ac (ab 0) (ac (ab 1) ag)))))) (by exact CompG.of (T:=["_law_j"]) (Z:=["_law_e","_law_i","_law_one"]) (Y:=["_law_one","_law_i","_law_e"]) (hcl:=(by intro p hp;simp only [Zp,List.not_mem_nil,or_false] at hp;rcases hp with rfl | rfl | rfl <;> rfl)) (hN:=(by intro i y j h1 h2;match i,h1,h2 with | 0,h1,h2=>cases h1;cases h2;exact ⟨rfl,rfl,rfl⟩ | 1,h1,h2=>cases h1;cases h2;exact ⟨rfl,rfl,rfl⟩ | 2,h1,h2=>cases h1;cases h2;exact ⟨rfl,rfl,rfl⟩ | n+3,h1,h2=>cases h1))))))))
  (aG (bt (bK 2))))),?_,?own⟩
 case own=>first | rfl | exact hown
 . show aF ((?f:SD) (aJ 4 _))=_
   have e0:aJ 4 [d0,fr e]=[some (aq U),some (fr e),none,none]:=by
    show [some (sh d0),some (sh (fr e)),none,none]=_
    rw [show sh d0=aq U from h0,xU]
   rw [e0]
   have len:c8 [aq U]=some (.int (n:Int)):=jJ cU.sq
   have hv:=fun o2 o3:Option D=>dS (g:=aa (ak c8 (aa (ae 0) af)) af) (δ:=[some (aq U),some (fr e),o2,o3]) (n:=n) (by simp only [ae,af,aa,ak,Zc,Zd,len]) (by omega)
   have ow:∀ ps:List (Int×Int),own (.lst (ps.map fr))=true:=fun ps=>by rw [own];exact eW _
   obtain ⟨_,w,o3,rfl⟩:=cC (i:=3) (s:=((az 2 (lQ (bD 2) (fY (qz (aa (ak c8 (aa (ae 0) af)) af)) 1 [1,3,0] (jb 0) (fun _=>some true) (cg (fn hV) (aa (ae 3) (aa (ae 2) (aa (ae 0) (aa (ae 1) af)))))))))) (f:=fun (i:Nat)=>D.int (i:Int)) (fun pre δ=>∃ o3,δ=[some (aq U),some (fr e),some (.lst (jj (dR U n pre.length e))),o3]) (List.range n) (by
    rintro pre x post _ hx ⟨o3,rfl⟩
    obtain ⟨rfl,hi⟩:=bE hx
    rw [Zh,List.length_singleton]
    generalize pre.length=i at *
    have si:sh (D.int (i:Int))=.int (i:Int):=rfl
    rw [si]
    refine ⟨[some (aq U),some (fr e),some (.lst (jj (dR U n (i+1) e))),some (.int (i:Int))],?_,_,rfl⟩
    have er:jj (dR U n (i+1) e)=jj (dR U n i e)++(List.range n).map fun j=>D.lst ((fpt U n (psF U i j e)).map fr):=by
     unfold jj
     rw [lY,List.map_append,List.map_map]
     rfl
    rw [er]
    refine be (δ':=[some (aq U),some (fr e),none,some (.int (i:Int))]) (ud (ie rfl) ?_ ?_)
    . refine uf (f:=fun j:Nat=>D.int (j:Int)) (xs:=List.range n) (xR (ds:=[.int (n:Int)]) (by simp only [ae,af,aa,ak,Zc,Zd,Zf,Zg,len]) (Bg (by omega))) (fun j m=>?_) (by rw [List.length_range];omega)
      have hj:=Zn.mp m
      have fp:Fp U n i j e:=⟨cU.sq,by omega,hi,hj,fun i j=>(bU i j).mono (by decide),he⟩
      have ef:=tV (dC U) fp (t5 cU)
      exact jB (δ1:=[some (.int (j:Int)),some (fr e),some (.int (i:Int)),some (aq U)]) rfl rfl (uy (cq (ds:=[aq U,.int (i:Int),.int (j:Int),fr e]) (by show some [sh (aq U),D.int (i:Int),D.int (j:Int),sh (fr e)]=_;rw [show sh (aq U)=aq U from dC U,xU]) ef (ow _)) (ow _))
    . rw [Zi,iT,Zi,List.length_range]
      have:i*n<=7*7:=Nat.mul_le_mul (by omega) hn
      omega) (List.range n) [] [some (aq U),some (fr e),some (.lst []),none] rfl ⟨_,rfl⟩
   rw [List.length_range] at w
   exact cr (ao (bJ (d:=.lst []) rfl) (ao (bH (hv _ _) w) (bx (ie rfl))))
theorem jS:aD ["_law_one","_law_other_here","_law_handed","_law_told","_law_points"] ["_law_one","_law_other_here"] (al gk):=⟨rfl,rfl,rfl,by decide +kernel,rfl,by decide +kernel,by decide +kernel⟩
def i3 (ds:List D) (d:D):Prop:=∃ (d0 d1:D) (U W:List (List Bn)) (n:Nat),IsT d0 U/\IsT d1 W/\Clo U n/\Clo W n/\0 < n/\n<=7/\(∀ i j,Bk 228 (aj U i j))/\(∀ i j,Bk 228 (aj W i j))/\ds=[d0,d1]/\d=.bl true
theorem iV {d0 d1:D} {U W:List (List Bn)} {n:Nat} (h0:IsT d0 U) (h1:IsT d1 W) (c:Clo U n) (w:Clo W n) (n0:0 < n) (hn:n<=7) (hu:∀ i j,Bk 228 (aj U i j)) (hw:∀ i j,Bk 228 (aj W i j)):fn i3 [d0,d1]=some (.bl true):=bG (fun d' h'=>by
 obtain ⟨_,_,_,_,_,_,_,_,_,_,_,_,_,_,rfl⟩:=h'
 rfl) ⟨d0,d1,U,W,n,h0,h1,c,w,n0,hn,hu,hw,rfl,rfl⟩
theorem Cs {m:Int} (h0:0<=m) (h:m<=((2 ^ 228:Nat):Int)):EOk (1,2+m):=by
 have c1:((2 ^ 228:Nat):Int)=2 ^ 228:=by rw [Int.natCast_pow];rfl
 have e1:(2:Int) ^ 230=4*2 ^ 228:=by rw [show (230:Nat)=2+228 from rfl,Int.pow_add];rfl
 have h2:(1:Int) < 2 ^ 228:=by have:(1:Nat) < 2 ^ 228:=Nat.one_lt_two_pow (by decide);rw [<- c1];exact Int.ofNat_lt.mpr this
 have n1:(2:Nat) ^ 240=4096*2 ^ 228:=by rw [show (240:Nat)=12+228 from rfl,Nat.pow_add]
 have n2:(1:Nat) < 2 ^ 228:=Nat.one_lt_two_pow (by decide)
 refine ⟨by show (0:Int) < 1;decide,⟨⟨by show 0 < 2+m;omega,by unfold gc;simp⟩,Sm.mono (k:=1) (show (1:Int).natAbs < 2 ^ 1 by decide) (by decide),?_⟩,?_⟩
 . show (2+m).natAbs < 2 ^ 240
   omega
 . show 1*(2+m)<=2 ^ 230
   rw [c1] at h
   omega
theorem wk (A:List (List Bn)):eqN 5 (aw A) (aq A)=some true:=by
 have z:eqN 5 (aw A) (aq A)=some (decide (A=A)):=rC (f:=eqN 4) (g:=fun r=>.lst (aY r)) (h:=fun r=>.seq (aY r)) (fun r s=>rC (f:=eqN 3) (eqB 1) r s) A A
 rw [z,decide_eq_true rfl]
theorem yL {f:D->Option D} {g:List (Int×Int)->Bool}:∀ {qs:List (List (Int×Int))},(∀ q∈qs,f (.lst (q.map fr))=some (.bl (g q)))->kf f (jj qs)=some (qs.map fun q=>.bl (g q))
 | [],_=>rfl
 | q :: qs,h=>by
  show ((f (.lst (q.map fr))).bind fun x=>(kf f (jj qs)).bind fun xs=>some (x :: xs))=_
  rw [h q Zj,yL fun e m=>h e (Zk _ m)]
  rfl
theorem wG (g:List (Int×Int)->Bool):∀ qs:List (List (Int×Int)),fq (qs.map fun q=>D.bl (g q))=some (qs.map g)
 | []=>rfl
 | q :: qs=>by
  show ((fq (qs.map fun q=>D.bl (g q))).bind fun bs=>some (g q :: bs))=_
  rw [wG g qs]
  rfl
theorem zC {F:FD} {δ:DS} {g:List (Int×Int)->Bool} {qs:List (List (Int×Int))} (h:F δ=some (.lst (qs.map fun q=>.bl (g q)))) {q:List (Int×Int)} (m:q∈qs) (k:g q=true):ak Ck (aa F af) δ=some (.bl true):=by
 unfold ak aa af
 rw [h]
 dsimp only [Option.bind_some]
 show ((fq (qs.map fun q=>D.bl (g q))).bind fun bs=>some (D.bl (bs.any id)))=_
 rw [wG]
 show some (D.bl ((qs.map g).any id))=_
 rw [show (qs.map g).any id=true from List.any_eq_true.mpr ⟨true,Zm.mpr ⟨q,m,k⟩,rfl⟩]
theorem pr (F:Fun K "_law_right" "_law_right" gk f fd)  (hwithin:HasF P w K mg base 2 "within" ["one","other"] (fn lg)) (hLfar_ones:HasF P w K mg base 9 "_law_far_ones" ["_law_one","_law_e"] (fn d5)) (hpoint_of:HasF P w K mg base 8 "point_of" ["table"] (fn gO)) (hLlies:HasF P w K mg base 2 "_law_lies" ["_law_table","_law_point"] (fn ia)) (hLmost:HasF P w K mg base 1 "_law_most" ["_law_table"] (fn fX))  (m_any:mg "any" = none) (m_all:mg "all" = none) (m_list:mg "list" = none) (m_isinstance:mg "isinstance" = none) (m_bool:mg "bool" = none):FnOk P w K mg base CX0 10 f fd ["_law_one","_law_other_here"] (bv K 2 (fn i3)):=by
 have sc:=jS
 refine bu F jS (fun cdv A outer s H E ds d hr hG hl=>?_)
 obtain ⟨d0,d1,U,W,n,h0,h1,cU,cW,n0,hn,bU,bW,rfl,rfl⟩:=aV hG
 have hown:own (.bl true)=true:=rfl
 refine ⟨_,(av (aS 2 sc.nd (gD (bO (kU (by exact (eV (ab 0))) (N:=["_law_row"]) (js:=[]) (cl:=[]) (fun _ _ _ _ _=>by exact (jG rfl m_list boot_list (ac (ab 0) ag))) (by exact CompOk.nil)) (bO (kU (by exact (eV (ab 1))) (N:=["_law_row"]) (js:=[]) (cl:=[]) (fun _ _ _ _ _=>by exact (jG rfl m_list boot_list (ac (ab 0) ag))) (by exact CompOk.nil)) cy))))
  (av (aS 3 sc.nd (bR hwithin hr (ac (ay (ab 2) ah) (ac (ay (ab 2) ah) ag))))
  (av (eU (PWD.pt (j6 (iM (dw (aT oX (uV pY) rfl m_isinstance boot_isinstance (ac (ab 3) (ac (yu rfl m_bool boot_bool) ag))))) (iL (vx hr.units (ab 2) (gE (ac (ab 0) (ac (ab 1) ag))))))) (aG (bt (aQ jk))) c4)
  (av (aS 4 sc.nd (qJ (gD (bO (bR hpoint_of hr (ac (ab 0) ag)) cy)) (bR hLfar_ones hr (ac (ab 0) (ac (d9 (ac ah (ac (bC ah (au hLmost.has hr (ac (ab 1) ag))) ag))) ag)))))
  (av (eU (dw (ab 3)) (aG (bt (aQ (aT (zw rfl) Cy rfl m_all xG (ac (vF (by exact (eV (ab 4))) (N:=["_law_point","_law_one","_law_other_here"]) (js:=[0,1]) (cl:=[("_law_other_here",_),("_law_one",_)]) (fun _ _ _ _ _=>by exact (jm (au hLlies.has hr (ac (ab 1) (ac (ab 0) ag))) (ii (au hLlies.has hr (ac (ab 2) (ac (ab 0) ag)))))) (by exact CompOk.swp)) ag))))) c4)
  (aG (bt (aQ (aT (zv rfl) Cw rfl m_any xF (ac (vF (by exact (eV (ab 4))) (N:=["_law_point","_law_one","_law_other_here"]) (js:=[0,1]) (cl:=[("_law_other_here",_),("_law_one",_)]) (fun _ _ _ _ _=>by exact (jm (au hLlies.has hr (ac (ab 1) (ac (ab 0) ag))) (ii (og (au hLlies.has hr (ac (ab 2) (ac (ab 0) ag))))))) (by exact CompOk.swp)) ag)))))))))),?_,?own⟩
 case own=>first | rfl | exact hown
 . show aF ((?f:SD) (aJ 5 _))=_
   have e0:aJ 5 [d0,d1]=[some (aq U),some (aq W),none,none,none]:=by
    show [some (sh d0),some (sh d1),none,none,none]=_
    rw [show sh d0=aq U from h0,show sh d1=aq W from h1]
   rw [e0]
   have c1:fG (fun δ=>((ae 0) δ).bind asL) [] (fM (aa (ae 0) af)) [some (aq U),some (aq W),none,none,none]=some (aw U,[some (aq U),some (aq W),none,none,none]):=gy (xs:=U) (f:=fun r=>.seq (aY r)) (g:=fun r=>.lst (aY r)) rfl (fun r _=>k9 r _) (by rw [cU.sq.len];omega)
   have c2:fG (fun δ=>((ae 1) δ).bind asL) [] (fM (aa (ae 0) af)) [some (aq U),some (aq W),none,none,none]=some (aw W,[some (aq U),some (aq W),none,none,none]):=gy (xs:=W) (f:=fun r=>.seq (aY r)) (g:=fun r=>.lst (aY r)) rfl (fun r _=>k9 r _) (by rw [cW.sq.len];omega)
   have s0:((az 2 (jc (cI (fG (fun δ=>((ae 0) δ).bind asL) [] (fM (aa (ae 0) af))) (cI (fG (fun δ=>((ae 1) δ).bind asL) [] (fM (aa (ae 0) af))) gj))))) [some (aq U),some (aq W),none,none,none]=some (.nx [some (aq U),some (aq W),some (.lst [aw U,aw W]),none,none]):=bJ (by
    unfold jc cI gj
    rw [c1]
    dsimp only [Option.bind_some]
    rw [c2]
    rfl)
   have ew:=zm (cL U) (cL W) cU.sq cW.sq (by omega)
   have i0:gIx (.lst [aw U,aw W]) (.int 0)=some (aw U):=rfl
   have i1:gIx (.lst [aw U,aw W]) (.int 1)=some (aw W):=rfl
   have s1:((az 3 (cg (fn lg) (aa (f2 gIx (ae 2) (fC (.int 0))) (aa (f2 gIx (ae 2) (fC (.int 1))) af))))) [some (aq U),some (aq W),some (.lst [aw U,aw W]),none,none]=some (.nx [some (aq U),some (aq W),some (.lst [aw U,aw W]),some (.bl (wi U W n)),none]):=bJ (cq (ds:=[aw U,aw W]) (by simp only [ae,fC,f2,af,aa,Zc,Zd,Ze,i0,i1]) ew rfl)
   have ne:lL (.lst [aw U,aw W]) (.lst [aq U,aq W])=some (.bl false):=by
    unfold lL
    have z:eqN 6 (.lst [aw U,aw W]) (.lst [aq U,aq W])=some true:=by
     show ((eqN 5 (aw U) (aq U)).bind fun x=>((eqN 5 (aw W) (aq W)).bind fun x=>some (x && true)).bind fun y=>some (x && y))=_
     rw [wk U,wk W]
     rfl
    rw [z]
    rfl
   have isb:Ax "bool" uI [.bl (wi U W n),.ty "bool"]=some (.bl true):=rfl
   have s2:((sIf (eZ (fH (fT (ak (Ax "bool" uI) (aa (ae 3) (aa (fC (.ty "bool")) af))))) (fT (f2 lL (ae 2) (db (aa (ae 0) (aa (ae 1) af)))))) (dO (vI (fC (.bl false)))) bc)) [some (aq U),some (aq W),some (.lst [aw U,aw W]),some (.bl (wi U W n)),none]=some (.nx [some (aq U),some (aq W),some (.lst [aw U,aw W]),some (.bl (wi U W n)),none]):=bY (by simp only [ae,fC,f2,fT,asB,fH,eZ,af,aa,db,ak,Zc,Option.map_some,Zd,Ze,Bool.not_true,isb,ne]) rfl
   obtain ⟨m,m0,mN,hm,em⟩:=rZ (N:=2 ^ 228) (dC W) cW.sq (by omega) (fun i j=>zy (bW i j))
   obtain ⟨M,hM⟩:∃ M:Nat,m=(M:Int):=⟨m.toNat,by omega⟩
   have he:EOk (1,2+m):=by
    have:=Cs (m:=m) m0 (by rw [hM] at mN ⊢;exact mN)
    exact this
   have cl:=t5 cU
   have b550:∀ i j,Bk 550 (aj U i j):=fun i j=>(bU i j).mono (by decide)
   have ep:=uR (dC U) cU.sq n0 (by omega) b550 cl
   have ef:=mG (e:=(1,2+m)) (dC U) cU hn bU he
   have ow:∀ ps:List (Int×Int),own (.lst (ps.map fr))=true:=fun ps=>by rw [own];exact eW _
   obtain ⟨qs,hqs⟩:∃ qs,qs=fpt U n ps0 :: dR U n n (1,2+m):=⟨_,rfl⟩
   have s3:((az 4 (lQ (jc (cI (cg (fn gO) (aa (ae 0) af)) gj)) (cg (fn d5) (aa (ae 0) (aa (cJ (aa (fC (.int 1)) (aa (f2 bi (fC (.int 2)) (ak (fn fX) (aa (ae 1) af))) af))) af)))))) [some (aq U),some (aq W),some (.lst [aw U,aw W]),some (.bl (wi U W n)),none]=some (.nx [some (aq U),some (aq W),some (.lst [aw U,aw W]),some (.bl (wi U W n)),some (.lst (jj qs))]):=by
    rw [hqs]
    refine be (d:=.lst ([.lst ((fpt U n ps0).map fr)]++jj (dR U n n (1,2+m)))) (ud (xs:=[.lst ((fpt U n ps0).map fr)]) (δ1:=[some (aq U),some (aq W),some (.lst [aw U,aw W]),some (.bl (wi U W n)),none]) ?_ (cq (ds:=[aq U,fr (1,2+m)]) ?_ ef (by rw [own];exact ol _)) ?_)
    . have v1:=cq (G:=fn gO) (g:=aa (ae 0) af) (δ:=[some (aq U),some (aq W),some (.lst [aw U,aw W]),some (.bl (wi U W n)),none]) (ds:=[aq U]) rfl ep (ow _)
      unfold jc cI gj
      rw [v1]
      rfl
    . simp only [ae,fC,f2,af,aa,cJ,ak,bF,Zc,Zd,Ze,em]
    . rw [Zi,iT]
      have:n*n<=7*7:=Nat.mul_le_mul hn hn
      show 1+n*n<=1000
      omega
   have good:∀ q∈qs,q.length+1=n/\(∀ p∈q,Fr 900 p)/\Li (aj U) n (fun i=>vl (bN q i)):=fun q mq=>by
    rw [hqs] at mq
    rcases Zp.mp mq with z | z
    . subst z
      exact ⟨by rw [vS];omega,ze (by omega) (cl.bk600 (by omega) b550) (cl.fi n0 (by omega) b550) (oY n0 cl.dia),tQ (by omega) (cl.bk600 (by omega) b550) cl.dia cl.clo (cl.fi n0 (by omega) b550) (oY n0 cl.dia)⟩
    . obtain ⟨i,j,hi,hj,rfl⟩:=uO z
      have fp:Fp U n i j (1,2+m):=⟨cU.sq,by omega,hi,hj,b550,he⟩
      exact ⟨by rw [vS];omega,ze (by omega) (cl.bk600 (by omega) b550) (fp.fi cl) (fp.beg cl),tQ (by omega) (cl.bk600 (by omega) b550) cl.dia cl.clo (fp.fi cl) (fp.beg cl)⟩
   have lv:∀ q∈qs,fn ia [aq U,.lst (q.map fr)]=some (.bl true)/\fn ia [aq W,.lst (q.map fr)]=some (.bl (kZ W q)):=fun q mq=>by
    obtain ⟨lq,ff,li⟩:=good q mq
    have a:=vR (T:=U) (by decide) ff
    rw [lq] at a
    have w1:=qh (dC U) (by rw [lq];exact cU.sq) (by omega) (fun i j=>(bU i j).mono (by decide)) (rh q) ff
    have w2:=qh (dC W) (by rw [lq];exact cW.sq) (by omega) (fun i j=>(bW i j).mono (by decide)) (rh q) ff
    rw [a.mpr li] at w1
    exact ⟨w1,w2⟩
   have lw:∀ q∈qs,(kZ W q=true <-> Li (aj W) n (fun i=>vl (bN q i))):=fun q mq=>by
    obtain ⟨lq,ff,li⟩:=good q mq
    have b:=vR (T:=W) (by decide) ff
    rw [lq] at b
    exact b
   have src:((ae 4) [some (aq U),some (aq W),some (.lst [aw U,aw W]),some (.bl (wi U W n)),some (.lst (jj qs))]).bind asL=some (jj qs):=rfl
   have lqs:qs.length<=1000:=by
    rw [hqs,List.length_cons,iT]
    have:n*n<=7*7:=Nat.mul_le_mul hn hn
    omega
   cases hz:wi U W n with
   | true =>
    rw [hz] at s1 s2 s3 src
    have all_:∀ q∈qs,kZ W q=true:=fun q mq=>(lw q mq).mpr fun i j hi hj=>by
     have a:=(good q mq).2.2 i j hi hj
     refine a.le ?_
     unfold wi at hz
     have:=List.all_eq_true.mp (List.all_eq_true.mp hz i (Zn.mpr hi)) j (Zn.mpr hj)
     show tgt (aj W i j) (aj U i j)=false
     simpa using this
    refine cr (ao s0 (ao s1 (ao s2 (ao s3 (dU (cE (by simp only [ae,fT,asB,Zc,Zd,Ze]) (bx (bh (d:=.bl true) ?_))))))))
    refine zE (ds:=jj qs) ?_
    unfold wg
    dsimp only
    rw [src]
    dsimp only [Option.bind_some]
    rw [ox (v:=.bl true) fun d md=>by
     obtain ⟨q,mq,rfl⟩:=Zm.mp md
     obtain ⟨l1,l2⟩:=lv q mq
     rw [all_ q mq] at l2
     simp only [ae,fV,af,aa,ak,Zc,Zq,List.map_nil,Zd,Ze,bz,l1,l2]]
    dsimp only [Option.bind_some]
    rw [if_pos (by rw [Zi,Zi];exact lqs)]
   | false =>
    rw [hz] at s1 s2 s3 src
    obtain ⟨i,j,hi,hj,tg⟩:∃ i j,i < n/\j < n/\tgt (aj W i j) (aj U i j)=true:=by
     unfold wi at hz
     obtain ⟨i,mi,hz⟩:=List.all_eq_false.mp hz
     obtain ⟨j,mj,hz⟩:=List.all_eq_false.mp (by simpa using hz:((List.range n).all fun j=>!tgt (aj W i j) (aj U i j))=false)
     exact ⟨i,j,Zn.mp mi,Zn.mp mj,by simpa using hz⟩
    have mq:fpt U n (psF U i j (1,2+m))∈qs:=by rw [hqs];exact Zk _ (xy hi hj)
    have fp:Fp U n i j (1,2+m):=⟨cU.sq,by omega,hi,hj,b550,he⟩
    have out:kZ W (fpt U n (psF U i j (1,2+m)))=false:=by
     cases z:kZ W (fpt U n (psF U i j (1,2+m))) with
     | false=>rfl
     | true =>
      exfalso
      have k:=(lw _ mq).mp z i j hi hj
      have k':Kq (vl (bN (fpt U n (psF U i j (1,2+m))) i) - vl (bN (fpt U n (psF U i j (1,2+m))) j)) (aj W i j):=k
      have nn:Nn (bs (aj U i j) (aj U j i)):=by
       have:=cU.clo j i i hj hi hi
       rw [cU.dia i hi] at this
       exact this
      have fk:=(zi he.p1 he.p2 nn).2.2.2
      rw [AD fp cl] at k'
      obtain ⟨mm,t,ee⟩:=xO tg
      have bm:=hm i j hi hj
      rw [ee] at k' tg bm
      have bm':mm.natAbs<=m.toNat:=bm
      exact uh rfl (by omega) fk tg k'
    refine cr (ao s0 (ao s1 (ao s2 (ao s3 (ao (bY (by simp only [ae,fT,asB,Zc,Zd,Ze]) rfl) (bx (bh (d:=.bl true) ?_)))))))
    refine zC (g:=fun q=>!kZ W q) (qs:=qs) ?_ mq (by rw [out];rfl)
    unfold wg
    dsimp only
    rw [src]
    dsimp only [Option.bind_some]
    rw [yL (g:=fun q=>!kZ W q) fun q mq=>by
     obtain ⟨l1,l2⟩:=lv q mq
     simp only [ae,f1,fV,uL,af,aa,ak,Zc,Zq,List.map_nil,Zd,Ze,bz,l1,l2]]
    dsimp only [Option.bind_some]
    rw [if_pos (by rw [Zi];exact lqs)]
theorem xW:aD ["_law_script","_law_table","_law_seed","_law_word","_law_told","_law_name","_law_other_here"] ["_law_script"] (al jW):=⟨rfl,rfl,rfl,by decide +kernel,rfl,by decide +kernel,by decide +kernel⟩
theorem B7 (F:Fun K "law" "law" jW f fd)  (hclosed:HasF P w K mg base 6 "closed" ["table"] (fn gQ)) (hLcell_at:Has P w K mg base 1 "_law_cell_at" ["_law_script","_law_k"] (fn aC)) (hLtable_by:HasF P w K mg base 3 "_law_table_by" ["_law_script"] (fn cw)) (hLother:HasF P w K mg base 2 "_law_other" ["_law_told","_law_seed"] (fn dN)) (hLright:HasF P w K mg base 10 "_law_right" ["_law_one","_law_other_here"] (fn i3))  :FnOk P w K mg base CX0 11 f fd ["_law_script"] (spLaw K):=by
 have sc:=xW
 refine Ao F xW (fun cdv A outer s H E ns hr hl=>?_)
 refine ⟨_,(av (aS 1 sc.nd (ya 0 (bR hLtable_by hr (ac (ab 0) ag)) ah))
  (av (yk [3,4] (bR hclosed hr (ac (ab 1) ag)) (uw rfl (iB (pgN 3 sc.nd) (iB (pgN 4 sc.nd) qQ))))
  (av (eU (iN hr.units (ab 3) j8) (aG (bt (aQ jk))) c4)
  (av (aS 2 sc.nd (aQ (au hLcell_at hr (ac (ab 0) (ac ah ag)))))
  (av (yk [5,6] (bR hclosed hr (ac (au hLother.has hr (ac (ab 4) (ac (ab 2) ag))) ag)) (uw rfl (iB (pgN 5 sc.nd) (iB (pgN 6 sc.nd) qQ))))
  (av (eU (PWD.pt (j6 (iM (dw (au hLright.has hr (ac (ab 4) (ac (ab 4) ag))))) (iL (iN hr.units (ab 5) j8)))) (aG (bt (aQ (jm (oh hr.units (ab 5) j8) (ii (au hLright.has hr (ac (ab 4) (ac (ab 4) ag)))))))) c4)
  (aG (bt (aQ (jm (au hLright.has hr (ac (ab 4) (ac (ab 6) ag))) (ii (au hLright.has hr (ac (ab 6) (ac (ab 4) ag)))))))))))))),?_⟩
 . show aF ((?f:SD) (aJ 7 _))=_
   have e0:aJ 7 [.seq (ns.map D.int)]=[some (.seq (ns.map D.int)),none,none,none,none,none,none]:=by
    show [some (sh (.seq (ns.map D.int))),none,none,none,none,none,none]=_
    rw [sh,je]
   rw [e0]
   obtain ⟨T,ps,hs,hb,hl6,hpf,htb⟩:=l8 ns
   have ho:own (.tup [aw T,.lst (ps.map fr)])=true:=by
    show (own (aw T) && (own (.lst (ps.map fr)) && true))=true
    rw [cc,own,eW]
    rfl
   obtain ⟨n,hn,hn7,hn1⟩:∃ n,n=ps.length+1/\n<=7/\1<=n:=⟨_,rfl,by omega,by omega⟩
   rw [<- hn] at hs
   have ec:=oQ (cL T) hs (by omega) (fun i j=>(hb i j).mono (by decide))
   have oc:=jn n T
   have q1:cv (.str "ring") (.str "ring")=some (.bl true):=rfl
   have q2:cv (.str "table") (.str "ring")=some (.bl false):=rfl
   have c2:=gJ (ns:=ns) (k:=2) (by decide)
   generalize D.seq (ns.map D.int)=S at *
   have st1:((az 1 (xN 0 (cg (fn cw) (aa (ae 0) af))))) [some S,none,none,none,none,none,none]=some (.nx [some S,some (aw T),none,none,none,none,none]):=bJ (AO (k:=0) (cq (ds:=[S]) rfl htb ho) rfl)
   rcases iY T n with ⟨r,cl,no⟩ | ⟨U,cU⟩
   . rw [cl] at ec oc
     have st2:=r8 (is:=[3,4]) (δ':=[some S,some (aw T),none,none,none,none,none]) (cq (ds:=[aw T]) (g:=aa (ae 1) af) rfl ec oc) rfl rfl
     exact cr (ao st1 (ao st2 (dU (cE (by simp only [r9,ae,fC,f2,fT,asB,Zc,Zd,Ze,Zf,Zg,q1]) (bx (bh rfl))))))
   . have bU:∀ i j,Bk 207 (aj U i j):=fun i j=>(cU.bk (by decide) hb i j).mono (by omega)
     rw [cU.cl] at ec oc
     have st2:((nR [3,4] (cg (fn gQ) (aa (ae 1) af)))) [some S,some (aw T),none,none,none,none,none]=some (.nx [some S,some (aw T),none,some (.str "table"),some (aw U),none,none]):=r8 (is:=[3,4]) (δ':=[some S,some (aw T),none,none,none,none,none]) (cq (ds:=[aw T]) (g:=aa (ae 1) af) rfl ec oc) rfl rfl
     have st3:((sIf (fT (f2 cv (ae 3) (fC (.str "ring")))) (dO (vI (fC (.bl true)))) bc)) [some S,some (aw T),none,some (.str "table"),some (aw U),none,none]=some (.nx [some S,some (aw T),none,some (.str "table"),some (aw U),none,none]):=bY (by simp only [ae,fC,f2,fT,asB,Zc,Zd,Ze,q2]) rfl
     have st4:((az 2 (vI (ak (fn aC) (aa (ae 0) (aa (fC (.int 2)) af)))))) [some S,some (aw T),none,some (.str "table"),some (aw U),none,none]=some (.nx [some S,some (aw T),some (.int (cell ns 2)),some (.str "table"),some (aw U),none,none]):=bJ (bh (by simp only [ae,fC,af,aa,ak,Zc,Zd,c2]))
     have nB:∀ i j,BkN (2 ^ 207) (aj U i j):=fun i j=>zy (bU i j)
     obtain ⟨X,hX,bX,hO⟩:=qw (c:=cell ns 2) (cL U) cU.sq (by omega) nB
     have bX':∀ i j,Bk 209 (aj X i j):=fun i j=>Cz (bX i j) (by
      have:(2:Nat) ^ 209=4*2 ^ 207:=by rw [show (209:Nat)=2+207 from rfl,Nat.pow_add]
      have:(1:Nat) < 2 ^ 207:=Nat.one_lt_two_pow (by decide)
      omega)
     have ecX:=oQ (cL X) hX (by omega) (fun i j=>(bX' i j).mono (by decide))
     have ocX:=jn n X
     have b228:∀ i j,Bk 228 (aj U i j):=fun i j=>(bU i j).mono (by decide)
     have rUU:=iV (cL U) (cL U) cU.clo' cU.clo' (by omega) hn7 b228 b228
     rcases iY X n with ⟨r,cl,no⟩ | ⟨W,cW⟩
     . rw [cl] at ecX ocX
       have st5:((nR [5,6] (cg (fn gQ) (aa (ak (fn dN) (aa (ae 4) (aa (ae 2) af))) af)))) [some S,some (aw T),some (.int (cell ns 2)),some (.str "table"),some (aw U),none,none]=some (.nx [some S,some (aw T),some (.int (cell ns 2)),some (.str "table"),some (aw U),some (.str "ring"),some (.lst (bP r))]):=r8 (is:=[5,6]) (δ':=[some S,some (aw T),some (.int (cell ns 2)),some (.str "table"),some (aw U),none,none]) (cq (ds:=[aw X]) (by simp only [ae,af,aa,ak,Zc,Zd,Ze,hO]) ecX ocX) rfl rfl
       exact cr (ao st1 (ao st2 (ao st3 (ao st4 (ao st5 (dU (cE (by simp only [ae,fC,f2,fT,asB,fH,eZ,af,aa,ak,Zc,Option.map_some,Zd,Ze,Bool.not_true,rUU,q1]) (bx (bh (d:=.bl true) (by simp only [ae,fC,f2,fV,af,aa,ak,Zc,Zd,Ze,rUU,q1]))))))))))
     . rw [cW.cl] at ecX ocX
       have bW:∀ i j,Bk 228 (aj W i j):=fun i j=>(cW.bk (by decide) bX' i j).mono (by omega)
       have st5:((nR [5,6] (cg (fn gQ) (aa (ak (fn dN) (aa (ae 4) (aa (ae 2) af))) af)))) [some S,some (aw T),some (.int (cell ns 2)),some (.str "table"),some (aw U),none,none]=some (.nx [some S,some (aw T),some (.int (cell ns 2)),some (.str "table"),some (aw U),some (.str "table"),some (aw W)]):=r8 (is:=[5,6]) (δ':=[some S,some (aw T),some (.int (cell ns 2)),some (.str "table"),some (aw U),none,none]) (cq (ds:=[aw X]) (by simp only [ae,af,aa,ak,Zc,Zd,Ze,hO]) ecX ocX) rfl rfl
       have rUW:=iV (cL U) (cL W) cU.clo' cW.clo' (by omega) hn7 b228 bW
       have rWU:=iV (cL W) (cL U) cW.clo' cU.clo' (by omega) hn7 bW b228
       exact cr (ao st1 (ao st2 (ao st3 (ao st4 (ao st5 (ao (bY (by simp only [ae,fC,f2,fT,asB,fH,eZ,af,aa,ak,Zc,Option.map_some,Zd,Ze,Bool.not_true,rUU,q2]) rfl) (bx (bh (d:=.bl true) (by simp only [ae,fV,af,aa,ak,Zc,Zd,Ze,rUW,rWU])))))))))
end
theorem CC {l:PySem.W.OpenLaw} {w:World} {K:PySem.W.Frag} {h:Heap} {mg:Str->Option Value} {fa:Addr} (X:K.In h) (G:h.Ns mainGlobals mg) (hfa:mg "law" = some (.ref fa)) {f0 f1 f3 f4 f5 f6 f7 f8 f9 f10 f11 f12 f13 f14 f15 f16 f17 f18 f19 f20 f21 f22 f23 f24 f25 f26 f27 f28 f29 f30 f31 f32 f33 f34 f35 f36 f37 f38 f39 f40 f41:Addr} {f2:Addr} {od2 an2:Option Addr} {sl2:Array (Option Value)} {oc2 kV2 dc2 pm2 cd2 ct2:Value} {f42:Addr} {od42 an42:Option Addr} {sl42:Array (Option Value)} {oc42 kV42 dc42 pm42 cd42 ct42:Value} {T2 nT2:Nat} {oT2:Value} {dT2:Option Addr} {sT2:Array (Option Value)} {tk2:Tok} 
 (a0:FK K "is_whole" iJ f0) (a1:FK K "common_divisor" dH f1) (a3:FK K "lowest" kO f3) (a4:FK K "plus" qC f4) (a5:FK K "minus" mS f5) (a6:FK K "summed" kN f6) (a7:FK K "times" mR f7) (a8:FK K "less" qD f8) (a9:FK K "keeps" mU f9) (a10:FK K "tighter" jD f10) (a11:FK K "bound_sum" gZ f11) (a12:FK K "copied" kQ f12) (a13:FK K "closed" kR f13) (a14:FK K "with_noughts" eM f14) (a15:FK K "straight_ways" dX f15) (a16:FK K "ring_through" eO f16) (a17:FK K "lead_through" eP f17) (a18:FK K "within" kM f18) (a19:FK K "point_of" iI f19) (a20:FK K "far_point" gY f20) (a21:FK K "closed_or_refused" cK f21) (a22:FK K "far_value" gX f22) (a23:FK K "filled" kP f23) (a24:FK K "value_beside" eN f24) (a25:FK K "between" jE f25) (a26:FK K "greatest" iK f26) (a27:FK K "least" mT f27) (a28:FK K "_law_cell_at" eR f28) (a29:FK K "_law_mixed" gq f29) (a30:FK K "_law_lowest" fN f30) (a31:FK K "_law_less" g8 f31) (a32:FK K "_law_any_table" dI f32) (a33:FK K "_law_part" g4 f33) (a34:FK K "_law_planted" eQ f34) (a35:FK K "_law_table_by" dY f35) (a36:FK K "_law_keeps" gr f36) (a37:FK K "_law_lies" g7 f37) (a38:FK K "_law_other" gn f38) (a39:FK K "_law_far_ones" dZ f39) (a40:FK K "_law_most" g6 f40) (a41:FK K "_law_right" gk f41)
 (a2:PySem.W.nsIn K mainGlobals "fraction" = some (some (.ref f2))) (l2:K.lookup f2=some ⟨oc2,od2,.func (PySem.W.fnOf "fraction" "fraction" (dc d6) (bM d6) (al d6) (.ref T2) kV2 dc2 pm2 an2 cd2 ct2),sl2⟩) (t2:K.lookup T2=some ⟨oT2,dT2,.seq #[.int 1 tk2] nT2,sT2⟩) (c2:PySem.W.codeIn K cd2 "fraction" = true) (k2:PySem.W.keepIn K (.ref f2)=true)
 (a42:PySem.W.nsIn K mainGlobals "law" = some (some (.ref f42))) (l42:K.lookup f42=some ⟨oc42,od42,.func (PySem.W.fnOf "law" "law" (dc jW) (bM jW) (al jW) .none kV42 dc42 pm42 an42 cd42 ct42),sl42⟩) (c42:PySem.W.codeIn K cd42 "law" = true) (k42:PySem.W.keepIn K (.ref f42)=true)
 (z_isinstance:PySem.W.nsIn K mainGlobals "isinstance" = some none) (z_int:PySem.W.nsIn K mainGlobals "int" = some none) (z_bool:PySem.W.nsIn K mainGlobals "bool" = some none) (z_list:PySem.W.nsIn K mainGlobals "list" = some none) (z_range:PySem.W.nsIn K mainGlobals "range" = some none) (z_len:PySem.W.nsIn K mainGlobals "len" = some none) (z_dict:PySem.W.nsIn K mainGlobals "dict" = some none) (z_abs:PySem.W.nsIn K mainGlobals "abs" = some none) (z_max:PySem.W.nsIn K mainGlobals "max" = some none) (z_any:PySem.W.nsIn K mainGlobals "any" = some none) (z_all:PySem.W.nsIn K mainGlobals "all" = some none) :
 ∃ fd:FuncData,(∀ (s:Shared) (v:Value),BindsTo s fd ⟨[v],[]⟩ [("_law_script",v)])/\∀ base:Heap,K.In base->base.Ns mainGlobals mg->FnOk l.prog w K mg base CX0 11 fa fd ["_law_script"] (spLaw K):=by
 have e:=hfa.symm.trans (PySem.W.mg_of X G a42)
 cases e
 have m_isinstance:=PySem.W.mg_none_of X G z_isinstance
 have m_int:=PySem.W.mg_none_of X G z_int
 have m_bool:=PySem.W.mg_none_of X G z_bool
 have m_list:=PySem.W.mg_none_of X G z_list
 have m_range:=PySem.W.mg_none_of X G z_range
 have m_len:=PySem.W.mg_none_of X G z_len
 have m_dict:=PySem.W.mg_none_of X G z_dict
 have m_abs:=PySem.W.mg_none_of X G z_abs
 have m_max:=PySem.W.mg_none_of X G z_max
 have m_any:=PySem.W.mg_none_of X G z_any
 have m_all:=PySem.W.mg_none_of X G z_all
 obtain ⟨_,F0,b0⟩:=a0.get (ps:=["thing"]) fun _ _ _ _ _ _ us hl=>match us,hl with | [_],_=>rfl
 obtain ⟨_,F1,b1⟩:=a1.get (ps:=["number","above_nought"]) fun _ _ _ _ _ _ us hl=>match us,hl with | [_,_],_=>rfl
 have F2:=AA (st:=d6) l2 c2 k2
 have b2:=F2.binds (ps:=["top","bottom"]) (ds:=[]) t2 rfl fun _ _ _ _ _ _ us hl=>match us,hl with | [_,_],_=>⟨_,rfl,rfl⟩
 have e2:=F2.binds (ps:=["top","bottom"]) (ds:=[.int 1 tk2]) t2 rfl fun _ _ _ _ _ _ us hl=>by
  have h1:us.length=1:=by simpa using hl
  match us,h1 with
  | [_],_=>exact ⟨_,rfl,rfl⟩
 obtain ⟨_,F3,b3⟩:=a3.get (ps:=["top","bottom"]) fun _ _ _ _ _ _ us hl=>match us,hl with | [_,_],_=>rfl
 obtain ⟨_,F4,b4⟩:=a4.get (ps:=["one","other"]) fun _ _ _ _ _ _ us hl=>match us,hl with | [_,_],_=>rfl
 obtain ⟨_,F5,b5⟩:=a5.get (ps:=["one","other"]) fun _ _ _ _ _ _ us hl=>match us,hl with | [_,_],_=>rfl
 obtain ⟨_,F6,b6⟩:=a6.get (ps:=["one","top","bottom"]) fun _ _ _ _ _ _ us hl=>match us,hl with | [_,_,_],_=>rfl
 obtain ⟨_,F7,b7⟩:=a7.get (ps:=["one","other"]) fun _ _ _ _ _ _ us hl=>match us,hl with | [_,_],_=>rfl
 obtain ⟨_,F8,b8⟩:=a8.get (ps:=["one","other"]) fun _ _ _ _ _ _ us hl=>match us,hl with | [_,_],_=>rfl
 obtain ⟨_,F9,b9⟩:=a9.get (ps:=["part","bound"]) fun _ _ _ _ _ _ us hl=>match us,hl with | [_,_],_=>rfl
 obtain ⟨_,F10,b10⟩:=a10.get (ps:=["one","other"]) fun _ _ _ _ _ _ us hl=>match us,hl with | [_,_],_=>rfl
 obtain ⟨_,F11,b11⟩:=a11.get (ps:=["one","other"]) fun _ _ _ _ _ _ us hl=>match us,hl with | [_,_],_=>rfl
 obtain ⟨_,F12,b12⟩:=a12.get (ps:=["table"]) fun _ _ _ _ _ _ us hl=>match us,hl with | [_],_=>rfl
 obtain ⟨_,F13,b13⟩:=a13.get (ps:=["table"]) fun _ _ _ _ _ _ us hl=>match us,hl with | [_],_=>rfl
 obtain ⟨_,F14,b14⟩:=a14.get (ps:=["table"]) fun _ _ _ _ _ _ us hl=>match us,hl with | [_],_=>rfl
 obtain ⟨_,F15,b15⟩:=a15.get (ps:=["size"]) fun _ _ _ _ _ _ us hl=>match us,hl with | [_],_=>rfl
 obtain ⟨_,F16,b16⟩:=a16.get (ps:=["bounds","ways","middle"]) fun _ _ _ _ _ _ us hl=>match us,hl with | [_,_,_],_=>rfl
 obtain ⟨_,F17,b17⟩:=a17.get (ps:=["bounds","ways","middle"]) fun _ _ _ _ _ _ us hl=>match us,hl with | [_,_,_],_=>rfl
 obtain ⟨_,F18,b18⟩:=a18.get (ps:=["one","other"]) fun _ _ _ _ _ _ us hl=>match us,hl with | [_,_],_=>rfl
 obtain ⟨_,F19,b19⟩:=a19.get (ps:=["table"]) fun _ _ _ _ _ _ us hl=>match us,hl with | [_],_=>rfl
 obtain ⟨_,F20,b20⟩:=a20.get (ps:=["table","i","j","e"]) fun _ _ _ _ _ _ us hl=>match us,hl with | [_,_,_,_],_=>rfl
 obtain ⟨_,F21,b21⟩:=a21.get (ps:=["table"]) fun _ _ _ _ _ _ us hl=>match us,hl with | [_],_=>rfl
 obtain ⟨_,F22,b22⟩:=a22.get (ps:=["bound","back","e"]) fun _ _ _ _ _ _ us hl=>match us,hl with | [_,_,_],_=>rfl
 obtain ⟨_,F23,b23⟩:=a23.get (ps:=["bounds","values"]) fun _ _ _ _ _ _ us hl=>match us,hl with | [_,_],_=>rfl
 obtain ⟨_,F24,b24⟩:=a24.get (ps:=["bounds","placed","thing"]) fun _ _ _ _ _ _ us hl=>match us,hl with | [_,_,_],_=>rfl
 obtain ⟨_,F25,b25⟩:=a25.get (ps:=["low","high"]) fun _ _ _ _ _ _ us hl=>match us,hl with | [_,_],_=>rfl
 obtain ⟨_,F26,b26⟩:=a26.get (ps:=["parts"]) fun _ _ _ _ _ _ us hl=>match us,hl with | [_],_=>rfl
 obtain ⟨_,F27,b27⟩:=a27.get (ps:=["parts"]) fun _ _ _ _ _ _ us hl=>match us,hl with | [_],_=>rfl
 obtain ⟨_,F28,b28⟩:=a28.get (ps:=["_law_script","_law_k"]) fun _ _ _ _ _ _ us hl=>match us,hl with | [_,_],_=>rfl
 obtain ⟨_,F29,b29⟩:=a29.get (ps:=["_law_cell","_law_k"]) fun _ _ _ _ _ _ us hl=>match us,hl with | [_,_],_=>rfl
 obtain ⟨_,F30,b30⟩:=a30.get (ps:=["_law_top","_law_bottom"]) fun _ _ _ _ _ _ us hl=>match us,hl with | [_,_],_=>rfl
 obtain ⟨_,F31,b31⟩:=a31.get (ps:=["_law_one","_law_other_here"]) fun _ _ _ _ _ _ us hl=>match us,hl with | [_,_],_=>rfl
 obtain ⟨_,F32,b32⟩:=a32.get (ps:=["_law_seed","_law_k","_law_most_here"]) fun _ _ _ _ _ _ us hl=>match us,hl with | [_,_,_],_=>rfl
 obtain ⟨_,F33,b33⟩:=a33.get (ps:=["_law_cell"]) fun _ _ _ _ _ _ us hl=>match us,hl with | [_],_=>rfl
 obtain ⟨_,F34,b34⟩:=a34.get (ps:=["_law_script","_law_point"]) fun _ _ _ _ _ _ us hl=>match us,hl with | [_,_],_=>rfl
 obtain ⟨_,F35,b35⟩:=a35.get (ps:=["_law_script"]) fun _ _ _ _ _ _ us hl=>match us,hl with | [_],_=>rfl
 obtain ⟨_,F36,b36⟩:=a36.get (ps:=["_law_part_here","_law_bound"]) fun _ _ _ _ _ _ us hl=>match us,hl with | [_,_],_=>rfl
 obtain ⟨_,F37,b37⟩:=a37.get (ps:=["_law_table","_law_point"]) fun _ _ _ _ _ _ us hl=>match us,hl with | [_,_],_=>rfl
 obtain ⟨_,F38,b38⟩:=a38.get (ps:=["_law_told","_law_seed"]) fun _ _ _ _ _ _ us hl=>match us,hl with | [_,_],_=>rfl
 obtain ⟨_,F39,b39⟩:=a39.get (ps:=["_law_one","_law_e"]) fun _ _ _ _ _ _ us hl=>match us,hl with | [_,_],_=>rfl
 obtain ⟨_,F40,b40⟩:=a40.get (ps:=["_law_table"]) fun _ _ _ _ _ _ us hl=>match us,hl with | [_],_=>rfl
 obtain ⟨_,F41,b41⟩:=a41.get (ps:=["_law_one","_law_other_here"]) fun _ _ _ _ _ _ us hl=>match us,hl with | [_,_],_=>rfl
 have F42:=zc (st:=jW) l42 c42 k42
 refine ⟨PySem.W.fnOf "law" "law" (dc jW) (bM jW) (al jW) .none kV42 dc42 pm42 an42 cd42 ct42,fun s v=>.of_eq rfl,fun base _ _=>?_⟩
 have his_whole:=mkP l.prog w base X G a0 (sM F0   m_isinstance m_int m_bool) b0
 have hcommon_divisor:=mkP l.prog w base X G a1 (kX F1   ) b1
 have hless:=mkP l.prog w base X G a8 (Af F8   ) b8
 have htighter:=mkP l.prog w base X G a10 (uz F10   ) b10
 have hbound_sum:=mkP l.prog w base X G a11 (qV F11   ) b11
 have hcopied:=mkF l.prog w base X G a12 (xj F12   m_list) b12
 have hstraight_ways:=mkF l.prog w base X G a15 (lE F15   m_range) b15
 have hLcell_at:=mkP l.prog w base X G a28 (mD F28   m_len) b28
 have hLmixed:=mkF l.prog w base X G a29 (pv F29   ) b29
 have hLlowest:=mkP l.prog w base X G a30 (on F30   m_abs) b30
 have hLless:=mkP l.prog w base X G a31 (qZ F31   ) b31
 have hLkeeps:=mkP l.prog w base X G a36 (pA F36   ) b36
 have hLmost:=mkF l.prog w base X G a40 (qX F40   m_max m_abs) b40
 have hlowest:=mkP l.prog w base X G a3 (xh F3 hcommon_divisor  ) b3
 have hsummed:=mkP l.prog w base X G a6 (xg F6 hcommon_divisor  ) b6
 have htimes:=mkP l.prog w base X G a7 (yD F7 hcommon_divisor  ) b7
 have hwith_noughts:=mkF l.prog w base X G a14 (l9 F14 hcopied  m_range m_len) b14
 have hlead_through:=mkM l.prog w base X G a17 (mB F17 hbound_sum htighter  m_range m_len) b17
 have hwithin:=mkF l.prog w base X G a18 (xf F18 htighter  m_range m_len) b18
 have hgreatest:=mkP l.prog w base X G a26 (sN F26 hless  ) b26
 have hleast:=mkP l.prog w base X G a27 (yF F27 hless  ) b27
 have hLany_table:=mkF l.prog w base X G a32 (kY F32 hLmixed  m_range) b32
 have hLpart:=mkP l.prog w base X G a33 (qW F33 hLlowest  ) b33
 have hLplanted:=mkF l.prog w base X G a34 (mC F34 hLless hLmixed hLcell_at  m_range m_len) b34
 have hLlies:=mkF l.prog w base X G a37 (qY F37 hLkeeps hLless  m_range m_len) b37
 have hLother:=mkF l.prog w base X G a38 (pu F38 hLmixed  m_range m_list m_len) b38
 have hfraction:Has l.prog w K mg base 3 "fraction" ["top","bottom"] (fn aN):=⟨⟨_,_,lV F2 hlowest his_whole  ,PySem.W.mg_of X G a2,k2,b2⟩⟩
 have hfractionD:pD l.prog w K mg base 3 "fraction" ["top","bottom"] [1] (fn aN):=⟨⟨_,_,_,lV F2 hlowest his_whole  ,PySem.W.mg_of X G a2,k2,.cons ⟨_,rfl⟩ .nil,e2⟩⟩
 have hplus:=mkP l.prog w base X G a4 (Ae F4 hsummed  ) b4
 have hminus:=mkP l.prog w base X G a5 (yE F5 hsummed  ) b5
 have hLtable_by:=mkF l.prog w base X G a35 (lF F35 hLcell_at hLplanted hLpart hLany_table  m_int m_range) b35
 have hkeeps:=mkP l.prog w base X G a9 (yG F9 hfractionD hless  ) b9
 have hbetween:=mkP l.prog w base X G a25 (uA F25 htimes hfraction hfractionD hminus hplus  ) b25
 have hring_through:=mkF l.prog w base X G a16 (mo F16 hbound_sum hkeeps hfractionD  m_range m_len) b16
 have hfar_value:=mkP l.prog w base X G a22 (qT F22 hfraction hfractionD hbetween hgreatest hminus  ) b22
 have hvalue_beside:=mkF l.prog w base X G a24 (me F24 hbetween hminus hplus hgreatest hleast hfractionD  ) b24
 have hclosed:=mkF l.prog w base X G a13 (xk F13 hwith_noughts hstraight_ways hring_through hlead_through hkeeps hfractionD  m_range m_len) b13
 have hfilled:=mkF l.prog w base X G a23 (xi F23 hminus hvalue_beside  m_dict m_range m_len) b23
 have hclosed_or_refused:=mkF l.prog w base X G a21 (jo F21 hclosed  ) b21
 have hpoint_of:=mkF l.prog w base X G a19 (sL F19 hfilled hclosed_or_refused hfractionD  ) b19
 have hfar_point:=mkF l.prog w base X G a20 (qU F20 hclosed_or_refused hfar_value hfilled hfractionD  ) b20
 have hLfar_ones:=mkF l.prog w base X G a39 (lG F39 hfar_point  m_range m_len) b39
 have hLright:=mkF l.prog w base X G a41 (pr F41 hwithin hLfar_ones hpoint_of hLlies hLmost  m_any m_all m_list m_isinstance m_bool) b41
 exact B7 F42 hclosed hLcell_at hLtable_by hLother hLright  
theorem facts {l:PySem.W.OpenLaw} {w:World} {K:PySem.W.Frag} {h:Heap} {mg:Str->Option Value} {fa:Addr} (e:FF K=FE) (X:K.In h) (G:h.Ns mainGlobals mg) (hfa:mg "law" = some (.ref fa)) :
 ∃ fd:FuncData,(∀ (s:Shared) (v:Value),BindsTo s fd ⟨[v],[]⟩ [("_law_script",v)])/\∀ base:Heap,K.In base->base.Ns mainGlobals mg->FnOk l.prog w K mg base CX0 11 fa fd ["_law_script"] (spLaw K):=by
 obtain ⟨e0,e⟩:=Prod.mk.inj e
 obtain ⟨e1,e⟩:=Prod.mk.inj e
 obtain ⟨e2,e⟩:=Prod.mk.inj e
 obtain ⟨t2,e⟩:=Prod.mk.inj e
 obtain ⟨e3,e⟩:=Prod.mk.inj e
 obtain ⟨e4,e⟩:=Prod.mk.inj e
 obtain ⟨e5,e⟩:=Prod.mk.inj e
 obtain ⟨e6,e⟩:=Prod.mk.inj e
 obtain ⟨e7,e⟩:=Prod.mk.inj e
 obtain ⟨e8,e⟩:=Prod.mk.inj e
 obtain ⟨e9,e⟩:=Prod.mk.inj e
 obtain ⟨e10,e⟩:=Prod.mk.inj e
 obtain ⟨e11,e⟩:=Prod.mk.inj e
 obtain ⟨e12,e⟩:=Prod.mk.inj e
 obtain ⟨e13,e⟩:=Prod.mk.inj e
 obtain ⟨e14,e⟩:=Prod.mk.inj e
 obtain ⟨e15,e⟩:=Prod.mk.inj e
 obtain ⟨e16,e⟩:=Prod.mk.inj e
 obtain ⟨e17,e⟩:=Prod.mk.inj e
 obtain ⟨e18,e⟩:=Prod.mk.inj e
 obtain ⟨e19,e⟩:=Prod.mk.inj e
 obtain ⟨e20,e⟩:=Prod.mk.inj e
 obtain ⟨e21,e⟩:=Prod.mk.inj e
 obtain ⟨e22,e⟩:=Prod.mk.inj e
 obtain ⟨e23,e⟩:=Prod.mk.inj e
 obtain ⟨e24,e⟩:=Prod.mk.inj e
 obtain ⟨e25,e⟩:=Prod.mk.inj e
 obtain ⟨e26,e⟩:=Prod.mk.inj e
 obtain ⟨e27,e⟩:=Prod.mk.inj e
 obtain ⟨e28,e⟩:=Prod.mk.inj e
 obtain ⟨e29,e⟩:=Prod.mk.inj e
 obtain ⟨e30,e⟩:=Prod.mk.inj e
 obtain ⟨e31,e⟩:=Prod.mk.inj e
 obtain ⟨e32,e⟩:=Prod.mk.inj e
 obtain ⟨e33,e⟩:=Prod.mk.inj e
 obtain ⟨e34,e⟩:=Prod.mk.inj e
 obtain ⟨e35,e⟩:=Prod.mk.inj e
 obtain ⟨e36,e⟩:=Prod.mk.inj e
 obtain ⟨e37,e⟩:=Prod.mk.inj e
 obtain ⟨e38,e⟩:=Prod.mk.inj e
 obtain ⟨e39,e⟩:=Prod.mk.inj e
 obtain ⟨e40,e⟩:=Prod.mk.inj e
 obtain ⟨e41,e⟩:=Prod.mk.inj e
 obtain ⟨e42,e⟩:=Prod.mk.inj e
 obtain ⟨z_isinstance,e⟩:=Prod.mk.inj e
 obtain ⟨z_int,e⟩:=Prod.mk.inj e
 obtain ⟨z_bool,e⟩:=Prod.mk.inj e
 obtain ⟨z_list,e⟩:=Prod.mk.inj e
 obtain ⟨z_range,e⟩:=Prod.mk.inj e
 obtain ⟨z_len,e⟩:=Prod.mk.inj e
 obtain ⟨z_dict,e⟩:=Prod.mk.inj e
 obtain ⟨z_abs,e⟩:=Prod.mk.inj e
 obtain ⟨z_max,e⟩:=Prod.mk.inj e
 obtain ⟨z_any,e⟩:=Prod.mk.inj e
 have z_all:=e
 obtain ⟨a2,k2,_,_,_,_,_,_,_,_,_,l2,c2⟩:=Hd.fv_inv e2
 obtain ⟨_,_,_,_,_,t2⟩:=Hd.intsAt_inv t2
 obtain ⟨a42,k42,_,_,_,_,_,_,_,_,_,l42,c42⟩:=Hd.fv_inv e42
 exact CC X G hfa (FK.of2 e0) (FK.of2 e1) (FK.of2 e3) (FK.of2 e4) (FK.of2 e5) (FK.of2 e6) (FK.of2 e7) (FK.of2 e8) (FK.of2 e9) (FK.of2 e10) (FK.of2 e11) (FK.of2 e12) (FK.of2 e13) (FK.of2 e14) (FK.of2 e15) (FK.of2 e16) (FK.of2 e17) (FK.of2 e18) (FK.of2 e19) (FK.of2 e20) (FK.of2 e21) (FK.of2 e22) (FK.of2 e23) (FK.of2 e24) (FK.of2 e25) (FK.of2 e26) (FK.of2 e27) (FK.of2 e28) (FK.of2 e29) (FK.of2 e30) (FK.of2 e31) (FK.of2 e32) (FK.of2 e33) (FK.of2 e34) (FK.of2 e35) (FK.of2 e36) (FK.of2 e37) (FK.of2 e38) (FK.of2 e39) (FK.of2 e40) (FK.of2 e41) a2 l2 t2 c2 k2 a42 l42 c42 k42 z_isinstance z_int z_bool z_list z_range z_len z_dict z_abs z_max z_any z_all
end
end Mine
open PySem PySem.W PyProof.Rows
set_option maxRecDepth 100000 in
set_option maxHeartbeats 0 in
theorem PySem.Challenge.cw_watchyard_k27_all_points_within_holds : PySem.Challenge.rw_watchyard_k27_all_points_within.Holds := by
 w_on;refine holds_law Mine.said fun said=>?_
 refine holds_open (q:=Mine.VW) (loose:=Mine.LO) (Xt:=Mine.XT) (XP:=XL Mine.VW []) (Yf:=Hook.obs Mine.HK) (Ya:=Hook.val Mine.HK) (YP:=Hook.says Mine.HK) (N:=4708) Mine.left (Hook.of Mine.HK) (Hook.keeps Mine.HK) (fun s e=>xl_of s (Bool.and_eq_true_iff.mp e).1) XL.keeps (by rfl) (by rfl) (by rfl) (fun s e=>recFacts_of (Bool.and_eq_true_iff.mp e).2) (by rfl) (by first | assumption | decide +kernel) (by decide +kernel) ⟨rfl,rfl,rfl,rfl,rfl,by decide +kernel⟩ ?hw ?hc
 (case hw=>w_witness2)
 exact Hd.walkE (l:=PySem.Challenge.rw_watchyard_k27_all_points_within) (n:=63) (k:=11) (x:="_law_script") (T:=fun K=>Mine.FF K=Mine.FE) (sp:=fun K=>Dl.spLaw K) rfl (by decide) rfl ⟨rfl,by decide,by decide⟩ (fun _ _ Y=>Y) (fun _ _ _ _ _ e X G h=>Mine.facts e X G h) fun _ _ a ns hl _ hS=>⟨a,ns,rfl,hS,hl,fun _=>rfl⟩
