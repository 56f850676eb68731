import PyProof.Rows.All
import Wide.All
import OpenK.AllK
import Wide.FinOn
import Lean
import PyProof.EqAt
import PyProof.EqKinds
import PyProof.TupleCall
import PyProof.NeKinds
import KE.IntBitsLaws
import KE.LcSums
import PyProof.ConsumeWalk
import PyProof.DictWalks
import PyProof.Rows.DictUnroll
import PySem.Challenge.RW_watchyard_k22_whole_the_same_points
set_option Elab.async false
set_option linter.all false
set_option maxRecDepth 100000
set_option Elab.async false
set_option linter.all false
set_option maxRecDepth 100000
set_option maxHeartbeats 4000000
abbrev Za:=@Option.bind_eq_some_iff
abbrev Zb:=@Option.map_eq_some_iff
abbrev Zc:=@Option.bind_some
abbrev Zd:=@List.getElem?_cons_zero
abbrev Ze:=@List.getElem?_cons_succ
abbrev Zf:=@List.set_cons_zero
abbrev Zg:=@List.set_cons_succ
abbrev Zh:=@List.length_append
abbrev Zi:=@List.length_map
abbrev Zj:=@List.mem_cons_self
abbrev Zk:=@List.mem_cons_of_mem
abbrev Zl:=@List.mem_singleton
abbrev Zm:=@List.mem_map
abbrev Zn:=@List.mem_append
abbrev Zo:=@List.mem_cons
abbrev Zp:=@List.map_cons
abbrev Zq:=@List.getD_eq_getElem?_getD
abbrev Zr:=@List.getElem?_eq_getElem
namespace L2
open PySem PySem.Spec PyProof.Rows
def cC (s:Stmt):Arguments:=match s with
 | .FunctionDef _ a _ _ _ _ _ _ _ _=>a
 | _=>{ posonlyargs:=[],args:=[],vararg:=none,kwonlyargs:=[],kw_defaults:=[],kwarg:=none,defaults:=[] }
def bw (s:Stmt):List Stmt:=match s with
 | .FunctionDef _ _ b _ _ _ _ _ _ _=>b
 | _=>[]
def aj (s:Stmt):Scope:=match s with
 | .FunctionDef _ _ _ _ _ _ sc _ _ _=>sc
 | _=>{ kind:=.function,names:=[],isGenerator:=false,isCoroutine:=false }
end L2
namespace Hd
open PySem PySem.Spec PyProof.Rows L2 PySem.W
def Kof (as:List Addr) (h:Heap):PySem.W.Frag:=as.filterMap fun a=>(h.get? a).map fun o=>(a,o)
theorem sI:∀ (as:List Addr) (h:Heap),(Kof as h).In h
 | [],h,a,o,e=>by cases e
 | b :: r,h,a,o,e=>by
  unfold Kof at e
  rw [List.filterMap_cons] at e
  cases hb:h.get? b with
  | none=>rw [hb] at e;exact sI r h a o e
  | some o' =>
   rw [hb] at e
   change List.lookup a ((b,o') :: Kof r h)=some o at e
   rw [List.lookup_cons] at e
   cases hc:a == b with
   | true=>rw [hc] at e;cases e;rw [beq_iff_eq.mp hc];exact hb
   | false=>rw [hc] at e;exact sI r h a o e
def hk {α:Type} (as:List Addr) (F:PySem.W.Frag->α) (v:α):PySem.W.Hook where
 α:=α
 obs:=fun s=>F (Kof as s.heap)
 val:=fun _=>v
 says:=fun _ h=>∃ K:PySem.W.Frag,K.In h/\F K=v
 of:=fun _ s e=>⟨_,sI as s.heap,e⟩
 keeps:=fun _ _ _ x k=>Exists.elim x fun K y=>⟨K,y.1.keeps k,y.2⟩
abbrev FT:=Option (Option Value)×Bool×Option (Str×Str×Arguments×FuncBody×Scope×Addr×List (Str×Addr)×Value×Addr×Bool)
def fv (K:PySem.W.Frag) (x:Str) (f:Addr):FT :=
 (PySem.W.nsIn K mainGlobals x,PySem.W.keepIn K (.ref f),match K.lookup f with
  | some ⟨_,_,.func d,_⟩=>some (d.name,d.qualname,d.params,d.body,d.scope,d.globals,d.closure,d.defaults,d.builtins,PySem.W.codeIn K d.code x)
  | _=>none)
def fe (x:Str) (st:Stmt) (dV:Value) (f:Addr):FT:=(some (some (Value.ref f)),true,some (x,x,cC st,FuncBody.stmts (bw st),aj st,mainGlobals,[],dV,builtinsNs,true))
theorem fv_inv {K:PySem.W.Frag} {x:Str} {st:Stmt} {dV:Value} {f:Addr} (e:fv K x f=fe x st dV f):PySem.W.nsIn K mainGlobals x=some (some (.ref f))/\PySem.W.keepIn K (.ref f)=true /\
 ∃ (oc:Value) (od:Option Addr) (kV doc pm:Value) (an:Option Addr) (cdv ct:Value) (osl:Array (Option Value)),K.lookup f=some ⟨oc,od,.func (PySem.W.fnOf x x (cC st) (bw st) (aj st) dV kV doc pm an cdv ct),osl⟩/\PySem.W.codeIn K cdv x=true:=by
 obtain ⟨e1,e2⟩:=Prod.mk.inj e
 obtain ⟨e2,e3⟩:=Prod.mk.inj e2
 refine ⟨e1,e2,?_⟩
 revert e3
 cases K.lookup f with
 | none=>intro e3;cases e3
 | some o =>
  obtain ⟨oc,od,dt,osl⟩:=o
  cases dt with
  | func d =>
   intro e3
   obtain ⟨a1,a2,a3,a4,a5,a6,a7,a8,a9,b1,b2,b3,b4,b5,b6⟩:=d
   obtain ⟨h1,y1⟩:=Prod.mk.inj (Option.some.inj e3)
   obtain ⟨h2,y2⟩:=Prod.mk.inj y1
   obtain ⟨h3,y3⟩:=Prod.mk.inj y2
   obtain ⟨h4,y4⟩:=Prod.mk.inj y3
   obtain ⟨h5,y5⟩:=Prod.mk.inj y4
   obtain ⟨h6,y6⟩:=Prod.mk.inj y5
   obtain ⟨h7,y7⟩:=Prod.mk.inj y6
   obtain ⟨h8,y8⟩:=Prod.mk.inj y7
   obtain ⟨h9,y9⟩:=Prod.mk.inj y8
   clear e3 y1 y2 y3 y4 y5 y6 y7 y8
   dsimp only at h1 h2 h3 h4 h5 h6 h7 h8 h9 y9
   subst h1 h2 h3 h4 h5 h6 h7 h8 h9
   exact ⟨oc,od,a9,b1,b2,b3,b4,b5,osl,rfl,y9⟩
  | _=>intro e3;cases e3
def intsAt (K:PySem.W.Frag) (T:Addr):Option (List (Option Int)):=match K.lookup T with
 | some ⟨_,_,.seq xs _,_⟩=>some (xs.toList.map fun v=>match v with | .int i _=>some i | _=>none)
 | _=>none
theorem intsAt_inv {K:PySem.W.Frag} {T:Addr} {i:Int} (e:intsAt K T=some [some i]):∃ (oT:Value) (dT:Option Addr) (tk:Tok) (nT:Nat) (sT:Array (Option Value)),K.lookup T=some ⟨oT,dT,.seq #[.int i tk] nT,sT⟩:=by
 unfold intsAt at e
 revert e
 cases K.lookup T with
 | none=>intro e;cases e
 | some o =>
  obtain ⟨oc,od,dt,osl⟩:=o
  cases dt with
  | seq xs n =>
   intro e
   obtain ⟨l⟩:=xs
   cases l with
   | nil=>cases e
   | cons v r =>
    cases r with
    | cons v' r'=>cases (List.cons.inj (Option.some.inj e)).2
    | nil =>
     cases v with
     | int j t=>cases e;exact ⟨_,_,_,_,_,rfl⟩
     | _=>cases e
  | _=>intro e;cases e
theorem left_one {p q:Program} {loose:List Str} {Xt:Shared->Bool} {α:Type} {Yf:Shared->α} {Ya:World->α} {N:Nat} {g0:Bool} {m₀:Nat} {ann:Option Value}
 (e:opening p=plainProg p.main.scope.names) (hN:Nat.ble 600 N=true) (f:∀ s,fenceModules? p s=some s)
 (size:∀ w:World,((boot_heap w.params).isNs mainGlobals,(boot_heap w.params).objs.size,(boot_heap w.params).nsMap mainGlobals "__annotations__")=(true,m₀,ann))
 (zE:∀ (w:World) (os:OsState),(topRun treeTable p w m₀ ann N ⟨boot_heap w.params,Array.mk [],boot_drawn,boot_toks,os⟩ (topStub p)).map (fun s=>((staticsOk (importedModules p.main.body) (boot_heap w.params) s.heap && namesBound p s.heap && gensDone s && laidKept (boot_heap w.params) s.heap),Yf s))=some (true,Ya w))
 (zD:∀ (w:World) (os:OsState),(topRun treeTable p w m₀ ann N ⟨boot_heap w.params,Array.mk [],boot_drawn,boot_toks,os⟩ (topStub p)).map (fun s=>openSeen q loose (importedModules p.main.body) Xt g0 s)=some (openGood q loose)):LeftO p q loose Xt Yf Ya N g0:=fun w=>by
 obtain ⟨⟨h,gs,d,k,os⟩,e,e'⟩:=Zb.mp (boot_open e hN f w)
 obtain ⟨rfl,e'⟩:=Prod.mk.inj e'
 obtain ⟨rfl,e'⟩:=Prod.mk.inj e'
 obtain ⟨rfl,rfl⟩:=Prod.mk.inj e'
 obtain ⟨z1,z2⟩:=Prod.mk.inj (size w)
 obtain ⟨z2,z3⟩:=Prod.mk.inj z2
 obtain ⟨s₁,r,l⟩:=Zb.mp (zE w os)
 obtain ⟨l1,l3⟩:=Prod.mk.inj l
 have l2:=zD w os
 rw [r] at l2
 have t:topFrom treeTable p w N ⟨boot_heap w.params,Array.mk [],boot_drawn,boot_toks,os⟩=some s₁:=by
  unfold topFrom
  dsimp only
  rw [z1,z2,z3]
  show (topRun treeTable p w m₀ ann N ⟨boot_heap w.params,Array.mk [],boot_drawn,boot_toks,os⟩ (topStub p)).bind _=_
  rw [r]
  show (match staticsOk (importedModules p.main.body) (boot_heap w.params) s₁.heap && namesBound p s₁.heap && gensDone s₁ && laidKept (boot_heap w.params) s₁.heap with | true=>_ | false=>_)=_
  rw [l1]
 unfold openEnds
 rw [e]
 show ((topFrom treeTable p w N _).map _)=_
 rw [t]
 exact congrArg some (Prod.ext (Option.some.inj l2) l3)
end Hd
namespace Mine
open PySem PySem.Spec PyProof.Rows L2
def top (i:Nat):Stmt:=PySem.Challenge.pw_watchyard_k22_whole_the_same_points.main.body.getD i (.Pass ⟨0,0,0,0⟩)
abbrev gJ:Stmt:=top 5
abbrev cQ:Stmt:=top 6
abbrev oK:Stmt:=top 13
abbrev iE:Stmt:=top 16
abbrev fZ:Stmt:=top 17
abbrev jw:Stmt:=top 19
abbrev c9:Stmt:=top 23
abbrev dP:Stmt:=top 35
abbrev fu:Stmt:=top 36
abbrev eL:Stmt:=top 37
abbrev gh:Stmt:=top 38
abbrev fE:Stmt:=top 43
abbrev ju:Stmt:=top 8
abbrev jt:Stmt:=top 11
abbrev kR:Stmt:=top 12
abbrev dJ:Stmt:=top 22
abbrev dN:Stmt:=top 25
abbrev gK:Stmt:=top 32
abbrev kT:Stmt:=top 33
abbrev cR:Stmt:=top 39
abbrev gd:Stmt:=top 40
abbrev dO:Stmt:=top 41
abbrev gg:Stmt:=top 44
abbrev gf:Stmt:=top 45
abbrev dh:Stmt:=top 7
abbrev oJ:Stmt:=top 9
abbrev kS:Stmt:=top 10
abbrev db:Stmt:=top 42
abbrev eK:Stmt:=top 46
abbrev kU:Stmt:=top 15
abbrev iF:Stmt:=top 31
abbrev dM:Stmt:=top 24
abbrev dL:Stmt:=top 30
abbrev jx:Stmt:=top 21
abbrev jv:Stmt:=top 29
abbrev ci:Stmt:=top 28
abbrev gH:Stmt:=top 27
abbrev iS:Stmt:=top 47
abbrev PW:Program:=PySem.Challenge.pw_watchyard_k22_whole_the_same_points
abbrev VW:Program:=PySem.W.view PW [1,2,3,5,6,8,9,10,11,12,13,15,16,17,19,21,22,23,24,25,27,28,29,30,31,32,33,35,36,37,38,39,40,41,42,43,44,45,46,47]
abbrev LO:List Str:=["fraction"]
def ads:List Addr:=[mainGlobals,58,65,73,80,87,94,101,108,115,122,129,136,141,148,155,160,167,174,181,188,193,198,205,212,219,226,233,240,247,254,261,268,273,280,287,294,301,306,57,64,72,79,86,93,100,107,114,121,128,135,140,147,154,159,166,173,180,187,192,197,204,211,218,225,232,239,246,253,260,267,272,279,286,293,300,305,66]
abbrev FF (K:PySem.W.Frag):=(Hd.fv K "is_whole" 58,
 Hd.fv K "common_divisor" 65,
 Hd.fv K "fraction" 73,
 Hd.intsAt K 66,
 Hd.fv K "lowest" 80,
 Hd.fv K "plus" 87,
 Hd.fv K "minus" 94,
 Hd.fv K "summed" 101,
 Hd.fv K "times" 108,
 Hd.fv K "less" 115,
 Hd.fv K "keeps" 122,
 Hd.fv K "tighter" 129,
 Hd.fv K "bound_sum" 136,
 Hd.fv K "copied" 141,
 Hd.fv K "closed" 148,
 Hd.fv K "with_noughts" 155,
 Hd.fv K "straight_ways" 160,
 Hd.fv K "ring_through" 167,
 Hd.fv K "lead_through" 174,
 Hd.fv K "point_of" 181,
 Hd.fv K "closed_or_refused" 188,
 Hd.fv K "filled" 193,
 Hd.fv K "value_beside" 198,
 Hd.fv K "between" 205,
 Hd.fv K "greatest" 212,
 Hd.fv K "least" 219,
 Hd.fv K "_law_cell_at" 226,
 Hd.fv K "_law_mixed" 233,
 Hd.fv K "_law_lowest" 240,
 Hd.fv K "_law_less" 247,
 Hd.fv K "_law_any_table" 254,
 Hd.fv K "_law_part" 261,
 Hd.fv K "_law_planted" 268,
 Hd.fv K "_law_table_by" 273,
 Hd.fv K "_law_keeps" 280,
 Hd.fv K "_law_lies" 287,
 Hd.fv K "_law_mean" 294,
 Hd.fv K "_law_points" 301,
 Hd.fv K "law" 306,
 PySem.W.nsIn K mainGlobals "isinstance",
 PySem.W.nsIn K mainGlobals "int",
 PySem.W.nsIn K mainGlobals "bool",
 PySem.W.nsIn K mainGlobals "list",
 PySem.W.nsIn K mainGlobals "range",
 PySem.W.nsIn K mainGlobals "len",
 PySem.W.nsIn K mainGlobals "dict",
 PySem.W.nsIn K mainGlobals "abs",
 PySem.W.nsIn K mainGlobals "any")
abbrev FE:=(Hd.fe "is_whole" gJ .none 58,
 Hd.fe "common_divisor" cQ .none 65,
 Hd.fe "fraction" dh (.ref 66) 73,
 (some [some (1:Int)]),
 Hd.fe "lowest" ju .none 80,
 Hd.fe "plus" oJ .none 87,
 Hd.fe "minus" kS .none 94,
 Hd.fe "summed" jt .none 101,
 Hd.fe "times" kR .none 108,
 Hd.fe "less" oK .none 115,
 Hd.fe "keeps" kU .none 122,
 Hd.fe "tighter" iE .none 129,
 Hd.fe "bound_sum" fZ .none 136,
 Hd.fe "copied" jw .none 141,
 Hd.fe "closed" jx .none 148,
 Hd.fe "with_noughts" dJ .none 155,
 Hd.fe "straight_ways" c9 .none 160,
 Hd.fe "ring_through" dM .none 167,
 Hd.fe "lead_through" dN .none 174,
 Hd.fe "point_of" gH .none 181,
 Hd.fe "closed_or_refused" ci .none 188,
 Hd.fe "filled" jv .none 193,
 Hd.fe "value_beside" dL .none 198,
 Hd.fe "between" iF .none 205,
 Hd.fe "greatest" gK .none 212,
 Hd.fe "least" kT .none 219,
 Hd.fe "_law_cell_at" dP .none 226,
 Hd.fe "_law_mixed" fu .none 233,
 Hd.fe "_law_lowest" eL .none 240,
 Hd.fe "_law_less" gh .none 247,
 Hd.fe "_law_any_table" cR .none 254,
 Hd.fe "_law_part" gd .none 261,
 Hd.fe "_law_planted" dO .none 268,
 Hd.fe "_law_table_by" db .none 273,
 Hd.fe "_law_keeps" fE .none 280,
 Hd.fe "_law_lies" gg .none 287,
 Hd.fe "_law_mean" gf .none 294,
 Hd.fe "_law_points" eK .none 301,
 Hd.fe "law" iS .none 306,
 (some none:Option (Option Value)),
 (some none:Option (Option Value)),
 (some none:Option (Option Value)),
 (some none:Option (Option Value)),
 (some none:Option (Option Value)),
 (some none:Option (Option Value)),
 (some none:Option (Option Value)),
 (some none:Option (Option Value)),
 (some none:Option (Option Value)))
abbrev HK:PySem.W.Hook:=Hd.hk ads FF FE
abbrev XT (s:Shared):Bool:=PySem.W.xlAt VW [] s && PySem.W.recOk [] s
theorem zE (w:World) (os:OsState):(PySem.W.topRun treeTable PW w 11 (some (.ref 6)) 4418 ⟨PySem.W.boot_heap w.params,Array.mk [],PySem.W.boot_drawn,PySem.W.boot_toks,os⟩ (PySem.W.topStub PW)).map (fun s=>((PySem.W.staticsOk (importedModules PW.main.body) (PySem.W.boot_heap w.params) s.heap && PySem.W.namesBound PW s.heap && PySem.W.gensDone s && PySem.W.laidKept (PySem.W.boot_heap w.params) s.heap),PySem.W.Hook.obs HK s))=some (true,PySem.W.Hook.val HK w):=by
 rw [PySem.W.Fast.te14082659384304107361]
 kernel_rfl
theorem zD (w:World) (os:OsState):(PySem.W.topRun treeTable PW w 11 (some (.ref 6)) 4418 ⟨PySem.W.boot_heap w.params,Array.mk [],PySem.W.boot_drawn,PySem.W.boot_toks,os⟩ (PySem.W.topStub PW)).map (fun s=>PySem.W.openSeen VW LO (importedModules PW.main.body) XT true s)=some (PySem.W.openGood VW LO):=by
 rw [PySem.W.Fast.te14082659384304107361,PySem.W.Fast.te4187177175401517315]
 kernel_rfl
theorem left:PySem.W.LeftO PW VW LO XT (PySem.W.Hook.obs HK) (PySem.W.Hook.val HK) 4418 :=
 Hd.left_one (m₀:=11) (ann:=some (.ref 6)) (by kernel_rfl) (by kernel_rfl) (fun s=>by kernel_rfl) (fun w=>by kernel_rfl) zE zD
theorem said:PySem.Challenge.rw_watchyard_k22_whole_the_same_points.wellSaid=true:=by
 rw [PySem.W.Fast.te9446332074065402090]
 kernel_rfl
end Mine
namespace L2
open PySem PySem.Spec PyProof.Rows
abbrev Key:=Sum Int Str
def mG:Key->Value->Bool
 | .inl k,v=>Value.isInt k v
 | .inr x,v=>Value.isStrOf x v
def Cp (w:World):Key->Int
 | .inl k=>hashInt k
 | .inr x=>hashStr w x
theorem bN:∀ {k:Key} {v:Value},mG k v=true->(∃ i t,k=Sum.inl i/\v=Value.int i t) \/ (∃ x t,k=Sum.inr x/\v=Value.str x t)
 | .inl i,v,h=>by
  obtain ⟨t,e⟩:=Value.isInt_shape (k:=i) (v:=v) h
  exact .inl ⟨i,t,rfl,e⟩
 | .inr x,v,h=>by
  obtain ⟨t,e⟩:=Value.isStrOf_shape (x:=x) (v:=v) h
  exact .inr ⟨x,t,rfl,e⟩
theorem uS (i:Int) (t:Tok):mG (.inl i) (.int i t)=true:=by simp [mG,Value.isInt]
theorem uQ (x:Str) (t:Tok):mG (.inr x) (.str x t)=true:=by simp [mG,Value.isStrOf]
theorem Ao (a b:Int):decide ((Sum.inl a:Key)=Sum.inl b)=(a == b):=by
 by_cases e:a=b
 . subst e;simp
 . have h:¬ (Sum.inl a:Key)=Sum.inl b:=fun q=>e (Sum.inl.inj q)
   rw [decide_eq_false h]
   exact (beq_eq_false_iff_ne.mpr e).symm
theorem Al (a b:Str):decide ((Sum.inr a:Key)=Sum.inr b)=decide (a=b):=by
 by_cases e:a=b
 . subst e;simp
 . have h:¬ (Sum.inr a:Key)=Sum.inr b:=fun q=>e (Sum.inr.inj q)
   rw [decide_eq_false h,decide_eq_false e]
theorem An (a:Int) (b:Str):decide ((Sum.inl a:Key)=Sum.inr b)=false:=decide_eq_false (fun q=>nomatch q)
theorem Am (a:Str) (b:Int):decide ((Sum.inr a:Key)=Sum.inl b)=false:=decide_eq_false (fun q=>nomatch q)
def bF (prog:Program) (w:World):PySem.KeyKind prog w Key where
 is:=mG
 hash:=Cp w
 inj:=fun v a b ha hb=>by
  rcases bN ha with ⟨i,t,rfl,rfl⟩ | ⟨x,t,rfl,rfl⟩
  . rcases bN hb with ⟨j,u,rfl,e⟩ | ⟨y,u,rfl,e⟩
    . injection e with e1 _;rw [e1]
    . exact nomatch e
  . rcases bN hb with ⟨j,u,rfl,e⟩ | ⟨y,u,rfl,e⟩
    . exact nomatch e
    . injection e with e1 _;rw [e1]
 byValue:=fun k v h=>by
  rcases bN h with ⟨i,t,rfl,rfl⟩ | ⟨x,t,rfl,rfl⟩ <;> rfl
 pyHash:=fun hv h=>by
  rcases bN hv with ⟨i,t,rfl,rfl⟩ | ⟨x,t,rfl,rfl⟩
  . exact wpAny_pyHash_int h
  . exact wpAny_pyHash_str h
 eqBool:=fun hu hv h=>by
  rcases bN hu with ⟨i,t,rfl,rfl⟩ | ⟨x,t,rfl,rfl⟩
  . rcases bN hv with ⟨j,u,rfl,rfl⟩ | ⟨y,u,rfl,rfl⟩
    . rw [Ao] at h;exact wpAny_eqBool_int h
    . rw [An] at h;exact SeqAt.EqAt.int_str i t y u _ _ _ _ h
  . rcases bN hv with ⟨j,u,rfl,rfl⟩ | ⟨y,u,rfl,rfl⟩
    . rw [Am] at h;exact SeqAt.EqAt.str_int x t j u _ _ _ _ h
    . rw [Al] at h;exact wpAny_eqBool_str h
 «strs»:=fun k x t v h=>by
  rcases bN h with ⟨i,u,rfl,e⟩ | ⟨y,u,rfl,e⟩
  . exact nomatch e
  . injection e with e1 _
    subst e1
    cases v <;> rfl
theorem qE (prog:Program) (w:World) (i:Int) (t:Tok):(bF prog w).is (.inl i) (.int i t)=true:=uS i t
theorem qD (prog:Program) (w:World) (x:Str) (t:Tok):(bF prog w).is (.inr x) (.str x t)=true:=uQ x t
end L2
namespace L2
open PySem PySem.Spec PyProof.Rows
inductive V where
 | non | bl (b:Bool) | int (i:Int) | str (x:Str) | byt (b:Array UInt8) | flt (b:UInt64) | ref (a:Addr) | ty (n:String)
 deriving DecidableEq
def RelV:V->Value->Prop
 | .non,u=>u=Value.none
 | .bl b,u=>u=Value.bool b
 | .int i,u=>∃ t,u=Value.int i t
 | .str x,u=>∃ t,u=Value.str x t
 | .byt b,u=>∃ t,u=Value.bytes b t
 | .flt b,u=>∃ t,u=Value.float b t
 | .ref a,u=>u=Value.ref a
 | .ty n,u=>u=Value.type n
abbrev Vals:List V->List Value->Prop:=Paired RelV
theorem Vals.length {xs:List V} {us:List Value} (r:Vals xs us):xs.length=us.length:=Paired.length r
theorem Vals.get:∀ {xs:List V} {us:List Value} {i:Nat} {x:V},Vals xs us->xs[i]? = some x->∃ u,us[i]? = some u/\RelV x u
 | _,_,_,_,.nil,e=>by simp at e
 | _,_,0,_,.cons r _,e=>by simp at e;subst e;exact ⟨_,rfl,r⟩
 | _,_,i+1,x,.cons _ t,e=>by
  obtain ⟨u,h1,h2⟩:=Vals.get (i:=i) (x:=x) t (by simpa using e)
  exact ⟨u,by simpa using h1,h2⟩
theorem Vals.set {x:V} {u:Value} (r:RelV x u):∀ {xs:List V} {us:List Value} (i:Nat),Vals xs us->Vals (xs.set i x) (us.set i u)
 | _,_,_,.nil=>.nil
 | _,_,0,.cons _ t=>.cons r t
 | _,_,i+1,.cons q t=>.cons q (Vals.set r i t)
theorem Vals.append:∀ {xs ys:List V} {us ws:List Value},Vals xs us->Vals ys ws->Vals (xs++ys) (us++ws)
 | _,_,_,_,.nil,s=>s
 | _,_,_,_,.cons r t,s=>.cons r (Vals.append t s)
theorem Vals.take:∀ {xs:List V} {us:List Value} (n:Nat),Vals xs us->Vals (xs.take n) (us.take n)
 | _,_,0,_=>.nil
 | _,_,_+1,.nil=>.nil
 | _,_,n+1,.cons r t=>.cons r (Vals.take n t)
theorem Vals.drop:∀ {xs:List V} {us:List Value} (n:Nat),Vals xs us->Vals (xs.drop n) (us.drop n)
 | _,_,0,r=>r
 | _,_,_+1,.nil=>.nil
 | _,_,n+1,.cons _ t=>Vals.drop n t
def RelO:Option V->Option Value->Prop
 | some v,some u=>RelV v u
 | none,none=>True
 | _,_=>False
def KV {κ:Type}:List (κ×V)->List (κ×Value)->Prop:=Paired fun (p:κ×V) (q:κ×Value)=>p.1=q.1/\RelV p.2 q.2
def kV:Key->V
 | .inl i=>.int i
 | .inr x=>.str x
inductive HO where
 | lst (xs:List V)
 | tup (xs:List V)
 | dK (kvs:List (Key×V)) | dT (kvs:List (List Key×V))
 | set (S:Int->Bool) (n:Nat)
 | ins (C dx:Addr) (fs:List (Str×V))
 | own (x:Addr)
 | xd (fs:List (Str×V))
 | met (f x:Addr)
 | rng (lo hi:Int)
 | frz (o:Obj) (u:HO)
 | tbl (ps:Array Value)
 | ext (φ:Heap->Prop)
abbrev Hp:=Addr->Option HO
def upd (H:Hp) (a:Addr) (o:HO):Hp:=fun b=>if b=a then some o else H b
theorem aU {H:Hp} {a:Addr} {o:HO}:upd H a o a=some o:=by unfold upd;rw [if_pos rfl]
theorem ax {H:Hp} {a b:Addr} {o:HO} (h:b ≠ a):upd H a o b=H b:=by unfold upd;rw [if_neg h]
theorem BE {H:Hp} {a b:Addr} {o u:HO} (h:H a=some o) (h':H b=some u) (d:o ≠ u):a ≠ b:=by
 intro e;subst e;rw [h] at h';exact d (Option.some.inj h')
theorem cA {H:Hp} {a b:Addr} {o:HO} (h:H a=some o) (h':H b=none):a ≠ b:=by
 intro e;subst e;rw [h] at h';cases h'
section
variable (P:Program) (w:World)
def ObjOk (H:Hp) (h:Heap) (a:Addr):HO->Prop
 | .lst xs=>xs.length<=sizeLine/\∃ (its:List Value) (n:Nat),Vals xs its/\h.get? a=some { cls:=.type "list",data:=.seq its.toArray n }
 | .tup xs=>xs.length<=sizeLine/\∃ its:List Value,Vals xs its/\IsTup h a its.toArray
 | .dK kvs=>kvs.length<=sizeLine/\(a == sysModules)=false/\∃ vs,KV kvs vs/\h.DictOf (bF P w) a vs
 | .dT kvs=>kvs.length<=sizeLine/\(a == sysModules)=false/\∃ xs:List (List Key×Addr×Value),
  Paired (fun (p:List Key×V) (q:List Key×Addr×Value)=>p.1=q.1/\H q.2.1=some (.tup (p.1.map kV))/\RelV p.2 q.2.2) kvs xs /\
  ∃ o es ep,h.get? a=some o/\o.ExactDict/\o.data=.dict es ep/\es.toList=xs.map (entryOfKey (tupleKind (bF P w)))/\(xs.map (·.1)).Nodup
 | .set S n=>h.SetOf (intKind P w) a S n
 | .ins C dx fs=>H dx=some (.own a)/\fs.length<=1000/\dx ≠ a/\h.get? a=some (PySem.W.instObj C dx) /\
  ∃ mA,h.Ns1 dx mA/\(∀ f,RelO (fs.lookup f) (mA f))/\PySem.Within mA (fs.map (·.1))
 | .own _=>∃ o,h.get? a=some o
 | .xd fs=>∃ mA,h.Ns1 a mA/\∀ f,RelO (fs.lookup f) (mA f)
 | .rng lo hi=>∃ t u v,h.get? a=some { cls:=.type "range",data:=.fields #[.int lo t,.int hi u,.int 1 v] }
 | .frz o u=>h.get? a=some o/\ObjOk H h a u
 | .tbl ps=>h.get? a=some { cls:=.none,data:=.fields ps }
 | .met f x=>h.get? a=some (PySem.W.methodObj (.ref f) (.ref x))
 | .ext φ=>φ h/\(∃ o,h.get? a=some o)/\∀ h1 h2:Heap,φ h1->(∀ o,h1.get? a=some o->h2.get? a=some o)->φ h2
def HOk (H:Hp) (h:Heap):Prop:=∀ a o,H a=some o->ObjOk P w H h a o
end
section
variable {P:Program} {w:World} {H H':Hp} {h h':Heap} {a:Addr} {o:HO}
theorem ObjOk.lt (x:ObjOk P w H h a o):a < h.objs.size:=by
 cases o with
 | lst xs=>obtain ⟨_,_,_,_,e⟩:=x;exact Heap.lt_size e
 | tup xs=>obtain ⟨_,_,_,p⟩:=x;exact p.lt
 | dK kvs=>obtain ⟨_,_,_,_,o,_,_,e,_⟩:=x;exact Heap.lt_size e
 | dT kvs=>obtain ⟨_,_,_,_,o,_,_,e,_⟩:=x;exact Heap.lt_size e
 | set S n=>obtain ⟨o,_,_,_,e,_⟩:=x;exact Heap.lt_size e
 | ins C dx fs=>obtain ⟨_,_,_,e,_⟩:=x;exact Heap.lt_size e
 | own y=>obtain ⟨_,e⟩:=x;exact Heap.lt_size e
 | xd fs=>obtain ⟨_,⟨_,_,_,e,_⟩,_⟩:=x;exact Heap.lt_size e
 | rng lo hi=>obtain ⟨_,_,_,e⟩:=x;exact Heap.lt_size e
 | frz ob u=>obtain ⟨e,_⟩:=x;exact Heap.lt_size e
 | tbl ps=>exact Heap.lt_size (show h.get? a=some _ from x)
 | met f y=>exact Heap.lt_size (show h.get? a=some _ from x)
 | ext φ=>obtain ⟨_,⟨_,e⟩,_⟩:=x;exact Heap.lt_size e
theorem Paired.mapP {α β:Type} {F G:α->β->Prop}:∀ {l₁:List α} {l₂:List β},Paired F l₁ l₂->(∀ a b,F a b->G a b)->Paired G l₁ l₂
 | _,_,.nil,_=>.nil
 | _,_,.cons r t,f=>.cons (f _ _ r) (Paired.mapP t f)
theorem ObjOk.stay (x:ObjOk P w H h a o) (k:∀ b u,(b=a \/ H b=some (.own a))->h.get? b=some u->h'.get? b=some u)
 (ho:∀ b,H b=some (.own a)->H' b=some (.own a)) (ht:∀ b xs,H b=some (.tup xs)->H' b=some (.tup xs)):ObjOk P w H' h' a o:=by
 induction o with
 | lst xs=>obtain ⟨z,its,n,r,e⟩:=x;exact ⟨z,its,n,r,k _ _ (.inl rfl) e⟩
 | tup xs=>obtain ⟨z,its,r,ob,e,c⟩:=x;exact ⟨z,its,r,ob,k _ _ (.inl rfl) e,c⟩
 | dK kvs=>obtain ⟨z,y,vs,r,ob,es,ep,e,c⟩:=x;exact ⟨z,y,vs,r,ob,es,ep,k _ _ (.inl rfl) e,c⟩
 | dT kvs =>
  obtain ⟨z,y,xs,r,ob,es,ep,e,c⟩:=x
  exact ⟨z,y,xs,Paired.mapP r fun p q z=>⟨z.1,ht _ _ z.2.1,z.2.2⟩,ob,es,ep,k _ _ (.inl rfl) e,c⟩
 | set S n=>obtain ⟨ob,es,ep,t,e,c⟩:=x;exact ⟨ob,es,ep,t,k _ _ (.inl rfl) e,c⟩
 | ins C dx fs =>
  obtain ⟨d,z,ne,e,mA,⟨od,es,ep,e2,c⟩,r⟩:=x
  exact ⟨ho _ d,z,ne,k _ _ (.inl rfl) e,mA,⟨od,es,ep,k _ _ (.inr d) e2,c⟩,r⟩
 | own y=>obtain ⟨ob,e⟩:=x;exact ⟨ob,k _ _ (.inl rfl) e⟩
 | xd fs=>obtain ⟨mA,⟨od,es,ep,e,c⟩,r⟩:=x;exact ⟨mA,⟨od,es,ep,k _ _ (.inl rfl) e,c⟩,r⟩
 | rng lo hi=>obtain ⟨t,u,v,e⟩:=x;exact ⟨t,u,v,k _ _ (.inl rfl) e⟩
 | frz ob u ih=>obtain ⟨e,q⟩:=x;exact ⟨k _ _ (.inl rfl) e,ih q⟩
 | tbl ps =>
  have e:h.get? a=some { cls:=.none,data:=.fields ps }:=x
  show h'.get? a=some { cls:=.none,data:=.fields ps }
  exact k a _ (.inl rfl) e
 | met f y =>
  have e:h.get? a=some (PySem.W.methodObj (.ref f) (.ref y)):=x
  show h'.get? a=some (PySem.W.methodObj (.ref f) (.ref y))
  exact k a _ (.inl rfl) e
 | ext φ=>obtain ⟨p,⟨o,e⟩,st⟩:=x;exact ⟨st _ _ p fun o q=>k _ _ (.inl rfl) q,⟨o,k _ _ (.inl rfl) e⟩,st⟩
theorem HOk.lt (x:HOk P w H h) (e:H a=some o):a < h.objs.size:=(x a o e).lt
theorem HOk.fresh (x:HOk P w H h) (e:h.objs.size<=a):H a=none:=by
 cases q:H a with
 | none=>rfl
 | some u=>exact absurd (Nat.lt_of_lt_of_le (x.lt q) e) (Nat.lt_irrefl _)
theorem HOk.kept (x:HOk P w H h) (k:∀ b u,h.get? b=some u->h'.get? b=some u):HOk P w H h':=fun a o e =>
 (x a o e).stay (fun b u _ q=>k b u q) (fun _ q=>q) fun _ _ q=>q
theorem HOk.laid (x:HOk P w H h) (k:∀ b u,h.get? b=some u->h'.get? b=some u) (hp:h.objs.size<=a) (new:ObjOk P w (upd H a o) h' a o):HOk P w (upd H a o) h':=fun b u e=>by
 have hn:=x.fresh hp
 by_cases hb:b=a
 . subst hb;rw [aU] at e;cases e;exact new
 . rw [ax hb] at e
   exact (x b u e).stay (fun c v _ q=>k c v q) (fun c q=>by rw [ax (cA q hn)];exact q) fun c xs q=>by rw [ax (cA q hn)];exact q
end
def Rd (H:Hp) (a:Addr) (u:HO):Prop:=H a=some u \/ ∃ o,H a=some (.frz o u)
theorem Rd.ok {P:Program} {w:World} {H:Hp} {h:Heap} {a:Addr} {u:HO} (r:Rd H a u) (x:HOk P w H h):ObjOk P w H h a u:=by
 rcases r with r | ⟨o,r⟩
 . exact x a u r
 . obtain ⟨_,q⟩:=x a _ r
   exact q
def Mut:Option HO->Prop
 | some (.lst _)=>True
 | some (.dK _)=>True
 | some (.dT _)=>True
 | some (.set _ _)=>True
 | some (.ins _ _ _)=>True
 | some (.ext _)=>True
 | _=>False
section
variable {P:Program} {w:World} {H:Hp} {h h':Heap} {x e:Addr} {o':HO}
theorem HOk.write (ok:HOk P w H h) (mu:Mut (H x)) (he:e=x \/ H e=some (.own x)) (k:∀ b u,b ≠ e->h.get? b=some u->h'.get? b=some u) (heo:∃ u,h'.get? e=some u)
 (new:ObjOk P w (upd H x o') h' x o'):HOk P w (upd H x o') h':=fun b u q=>by
 have nown:∀ c y,H c=some (.own y)->c ≠ x:=fun c y r z=>by subst z;rw [r] at mu;exact mu
 have ntup:∀ c xs,H c=some (.tup xs)->c ≠ x:=fun c xs r z=>by subst z;rw [r] at mu;exact mu
 by_cases hb:b=x
 . subst hb;rw [aU] at q;cases q;exact new
 . rw [ax hb] at q
   by_cases hbe:b=e
   . have q':H b=some (.own x):=by
      rcases he with z | z
      . exact absurd (hbe.trans z) hb
      . rw [hbe];exact z
     rw [q] at q';cases q'
     obtain ⟨v,hv⟩:=heo
     exact ⟨v,by rw [hbe];exact hv⟩
   . refine (ok b u q).stay (fun c v hc r=>k c v ?_ r) (fun c r=>by rw [ax (nown c b r)];exact r) fun c xs r=>by rw [ax (ntup c xs r)];exact r
     rcases hc with rfl | hc
     . exact hbe
     . rintro rfl
       rcases he with z | z
       . exact nown c b hc z
       . rw [hc] at z;cases z;exact hb rfl
end
structure Un (fs ex:List Addr) (H H':Hp) (h h':Heap):Prop where
 keep:∀ b o,h.get? b=some o->H b=none->b ∉ fs->b ∉ ex->h'.get? b=some o
 slot:∀ b o,h.get? b=some o->H b=none->b∈fs->b ∉ ex->∃ sl,h'.get? b=some { o with slots:=sl }
 free:∀ b o,h.get? b=some o->H b=none->b ∉ ex->H' b=none
 there:∀ b o,h.get? b=some o->b ∉ ex->∃ o',h'.get? b=some o'
 tups:∀ b xs,H b=some (.tup xs)->H' b=some (.tup xs)
 frzs:∀ b o u,H b=some (.frz o u)->H' b=some (.frz o u)
 tbls:∀ b ps,H b=some (.tbl ps)->∃ more,H' b=some (.tbl (ps++more))
section
variable {fs fs' ex ex':List Addr} {H H1 H2:Hp} {h h1 h2 h':Heap} {a x e:Addr} {o:HO}
theorem Un.any (u:Un fs ex H H1 h h1) {b:Addr} {ob:Obj} (q:h.get? b=some ob) (n:H b=none) (hx:b ∉ ex):∃ sl,h1.get? b=some { ob with slots:=sl }:=by
 by_cases hb:b∈fs
 . exact u.slot b ob q n hb hx
 . exact ⟨ob.slots,u.keep b ob q n hb hx⟩
theorem Un.kept (k:∀ b u,h.get? b=some u->h'.get? b=some u):Un fs ex H H h h' :=
 ⟨fun b ob q _ _ _=>k b ob q,fun b ob q _ _ _=>⟨ob.slots,k b ob q⟩,fun _ _ _ n _=>n,fun b ob q _=>⟨ob,k b ob q⟩,fun _ _ q=>q,fun _ _ _ q=>q,fun _ ps q=>⟨#[],by rw [q];simp⟩⟩
theorem Un.refl:Un fs ex H H h h:=Un.kept fun _ _ q=>q
theorem Un.laid (k:∀ b u,h.get? b=some u->h'.get? b=some u) (hp:h.objs.size<=a) (hn:H a=none):Un fs ex H (upd H a o) h h' where
 keep:=fun b u q _ _ _=>k b u q
 slot:=fun b u q _ _ _=>⟨u.slots,k b u q⟩
 free:=fun b u q n _=>by rw [ax (Nat.ne_of_lt (Nat.lt_of_lt_of_le (Heap.lt_size q) hp))];exact n
 there:=fun b u q _=>⟨u,k b u q⟩
 tups:=fun b xs q=>by rw [ax (cA q hn)];exact q
 frzs:=fun b u xs q=>by rw [ax (cA q hn)];exact q
 tbls:=fun b ps q=>⟨#[],by rw [ax (cA q hn),q];simp⟩
theorem Un.write (mu:Mut (H x)) (he:e=x \/ H e=some (.own x)) (k:∀ b u,b ≠ e->h.get? b=some u->h'.get? b=some u) (heo:∃ u,h'.get? e=some u):Un fs ex H (upd H x o) h h':=by
 have hx:∀ b,H b=none->b ≠ x:=fun b n z=>by subst z;rw [n] at mu;exact mu
 have hb:∀ b,H b=none->b ≠ e:=fun b n z=>by
  subst z
  rcases he with r | r
  . exact hx b n r
  . rw [n] at r;cases r
 have hm:∀ b u,H b=some u->¬ Mut (some u)->b ≠ x:=fun b u q nm z=>by subst z;rw [q] at mu;exact nm mu
 refine ⟨fun b u q n _ _=>k b u (hb b n) q,fun b u q n _ _=>⟨u.slots,k b u (hb b n) q⟩,fun b u q n _=>by rw [ax (hx b n)];exact n,fun b u q _=>?_,
  fun b xs q=>by rw [ax (hm b _ q fun z=>z)];exact q,fun b u xs q=>by rw [ax (hm b _ q fun z=>z)];exact q,fun b ps q=>⟨#[],by rw [ax (hm b _ q fun z=>z),q];simp⟩⟩
 by_cases hbe:b=e
 . subst hbe;exact heo
 . exact ⟨u,k b u hbe q⟩
end
def trk (h:Heap) (H:Hp):List Addr:=(List.range h.objs.size).filter fun a=>(H a).isSome
def pE (h:Heap) (H:Hp):Heap:=PySem.W.hideAll h (trk h H)
theorem uV (h:Heap) (H:Hp):(pE h H).objs.size=h.objs.size:=PySem.W.hideAll_size _ _
theorem wP {h:Heap} {H:Hp} {b:Addr} {o:Obj} (e:h.get? b=some o) (n:H b=none):(pE h H).get? b=some o :=
 PySem.W.hideAll_get _ e fun hm=>by
  have q:(H b).isSome=true:=(List.mem_filter.mp hm).2
  rw [n] at q;simp at q
theorem yg {h:Heap} {H:Hp} {b:Addr} {o:Obj} (e:(pE h H).get? b=some o):h.get? b=some o/\H b=none:=by
 have e':h.get? b=some o:=PySem.W.of_hideAll (trk h H) e
 refine ⟨e',?_⟩
 cases q:H b with
 | none=>rfl
 | some x =>
  have hm:b∈trk h H:=List.mem_filter.mpr ⟨List.mem_range.mpr (Heap.lt_size e'),by simp [q]⟩
  have z:(pE h H).get? b=none:=PySem.W.hideAll_none (trk h H) hm
  rw [z] at e;cases e
def yU (g h:Heap) (L:Addr):List (Addr×Obj):=(List.range h.objs.size).filterMap fun a=>if a=L \/ (g.get? a).isSome=true then none else (h.get? a).map fun o=>(a,o)
def rest (g h:Heap) (L d:Addr):List (Addr×Obj):=(yU g h L).filter fun p=>decide (p.1 ≠ d)
end L2
namespace L2
open PySem PySem.Spec PyProof.Rows
structure Mod (K:PySem.W.Frag) (mg:Str->Option Value) (base:Heap):Prop where
 kin:K.In base
 glob:base.Ns mainGlobals mg
 blt:∃ mb,base.Ns builtinsNs mb/\∀ x:Str,x ≠ "__name__"->mb x=bootBuiltins x
 nolimit:base.NoLimit
structure Cx where
 prog:Program
 w:World
 K:PySem.W.Frag
 mg:Str->Option Value
 base:Heap
 A:Around
 N:List Str
 s₀:Shared
 H₀:Hp
 env:Env
 outer:List Env
 stack:List Env
 ex:List Addr
 fn:Str->Bool
 calm:Bool
 pn:List (Addr×Obj)
 xe:Value->Shared->Prop
def frs (l:List Env):List Addr:=l.filterMap (·.frame)
abbrev Cx.fs (X:Cx):List Addr:=frs X.outer
def Vis (sc:Scope) (x:Str):Prop:=sc.names.lookup x=some .local \/ sc.names.lookup x=some .cell \/ sc.names.lookup x=some .free
def Loc (sc:Scope) (x:Str):Prop:=sc.names.lookup x=some .local \/ sc.names.lookup x=some .cell
def Cs (env:Env) (h:Heap) (m:Str->Option Value) (x:Str) (u:Value):Prop :=
 (env.kindOf x=some .local/\m x=some u) \/ ((env.kindOf x=some .cell \/ env.kindOf x=some .free)/\∃ c,env.cells.lookup x=some c/\h.IsCell c (some u))
structure Cx.Ok (X:Cx):Prop where
 mod:Mod X.K X.mg X.base
 kind:X.env.scope.kind=.function
 glob:X.env.globals=mainGlobals
 blt:X.env.builtins=builtinsNs
 above:X.s₀.heap.objs.size<=X.env.locals
 inj:∀ x y c,X.env.cells.lookup x=some c->X.env.cells.lookup y=some c->x=y
 has:∀ x,(X.env.kindOf x=some .cell \/ X.env.kindOf x=some .free)->∃ c,X.env.cells.lookup x=some c
 cab:∀ x c,X.fn x=true->X.env.cells.lookup x=some c->X.s₀.heap.objs.size<=c
 hd:X.calm=true->X.A.handled=none
 frames:X.A.frames=some X.stack
 stk:X.stack=X.outer \/ (X.stack=X.env :: X.outer/\X.env.frame=some X.env.locals)
 exf:∀ b∈X.ex,b ≠ X.env.locals/\∀ x c,X.env.cells.lookup x=some c->c ≠ b
 bs:∀ b o,X.base.get? b=some o->X.s₀.heap.get? b=some o/\X.H₀ b=none
 bsz:X.base.objs.size<=X.s₀.heap.objs.size
 noex:∀ b o,X.base.get? b=some o->b ∉ X.ex
 exfs:∀ b∈X.ex,b ∉ X.fs
 funs:X.s₀.heap.FunFrames X.base X.outer
 frf:∀ b∈X.fs,X.H₀ b=none
structure Inv (X:Cx) (pins:List (Addr×Obj)) (σ:List (Option V)) (H:Hp) (s:Shared):Prop where
 ok:X.Ok
 os:s.os=X.s₀.os
 bare:AllBare s.gens
 base:Un X.fs X.ex X.H₀ H X.s₀.heap s.heap
 loc:∃ m,s.heap.Ns X.env.locals m/\∀ (i:Nat) (x:Str) (v:V),X.N[i]? = some x->σ[i]? = some (some v)->Vis X.env.scope x->∃ u,RelV v u/\Cs X.env s.heap m x u
 cell:∀ x c,X.env.cells.lookup x=some c->∃ v,s.heap.IsCell c v
 free:H X.env.locals=none
 freeC:∀ x c,X.env.cells.lookup x=some c->H c=none
 pin:∀ p∈X.pn++pins,s.heap.get? p.1=some p.2/\H p.1=none/\p.1 ≠ X.env.locals/\p.1 ∉ X.fs/\∀ v,p.2.data ≠ .cell v
 hok:HOk X.prog X.w H s.heap
 len:σ.length=X.N.length
section
variable {X:Cx} {pins:List (Addr×Obj)} {σ:List (Option V)} {H H':Hp} {s:Shared} {h':Heap}
theorem Cx.Ok.nofr (ok:X.Ok) {b:Addr} {o:Obj} (e:X.base.get? b=some o):b ∉ X.fs:=fun hb=>by
 have:=(ok.funs.mem hb).1
 rw [e] at this;cases this
theorem Inv.bs (I:Inv X pins σ H s):∀ b o,X.base.get? b=some o->s.heap.get? b=some o/\H b=none:=fun b o e =>
 ⟨I.base.keep b o (I.ok.bs b o e).1 (I.ok.bs b o e).2 (I.ok.nofr e) (I.ok.noex b o e),I.base.free b o (I.ok.bs b o e).1 (I.ok.bs b o e).2 (I.ok.noex b o e)⟩
theorem Inv.bk (I:Inv X pins σ H s):∀ b o,X.base.get? b=some o->s.heap.get? b=some o:=fun b o e=>(I.bs b o e).1
theorem Inv.mod (I:Inv X pins σ H s):Mod X.K X.mg X.base:=I.ok.mod
theorem Inv.kIn (I:Inv X pins σ H s):X.K.In s.heap:=I.ok.mod.kin.keeps I.bk
theorem Inv.lt (I:Inv X pins σ H s):X.env.locals < s.heap.objs.size:=let ⟨_,hn,_⟩:=I.loc;hn.lt
theorem Inv.sz (I:Inv X pins σ H s):X.s₀.heap.objs.size<=s.heap.objs.size:=Nat.le_trans I.ok.above (Nat.le_of_lt I.lt)
theorem Inv.nofs (I:Inv X pins σ H s) {a:Addr} (h:s.heap.objs.size<=a):a ∉ X.fs:=fun hb=>by
 obtain ⟨_,o,ho,_⟩:=I.ok.funs.mem hb
 exact absurd (Nat.lt_of_lt_of_le (Heap.lt_size ho) (Nat.le_trans I.sz h)) (Nat.lt_irrefl _)
theorem Inv.cne (I:Inv X pins σ H s):∀ x c,X.env.cells.lookup x=some c->c ≠ X.env.locals:=fun x c e z=>by
 obtain ⟨v,o,ho,hd⟩:=I.cell x c e
 obtain ⟨m,⟨o',es,ep,ho',hd',_⟩,_⟩:=I.loc
 rw [z,ho'] at ho;cases ho;rw [hd'] at hd;cases hd
theorem Inv.funs (I:Inv X pins σ H s):s.heap.FunFrames X.base X.outer:=by
 have all:∀ (l:List Env),(∀ b∈frs l,b∈X.fs)->X.s₀.heap.FunFrames X.base l->s.heap.FunFrames X.base l:=by
  intro l
  induction l with
  | nil=>intro _ _;trivial
  | cons env r ih =>
   intro hs hl
   obtain ⟨hk,⟨L,o,hf,hn,ho,hd⟩,hr⟩:=hl
   have hL:L∈X.fs:=hs L (by unfold frs;rw [List.filterMap_cons,hf];exact Zj)
   obtain ⟨sl,e⟩:=I.base.slot L o ho (I.ok.frf L hL) hL fun z=>I.ok.exfs L z hL
   exact ⟨hk,⟨L,_,hf,hn,e,hd⟩,ih (fun b hb=>hs b (by unfold frs;rw [List.filterMap_cons,hf];exact Zk _ hb)) hr⟩
 exact all X.outer (fun _ hb=>hb) I.ok.funs
theorem Inv.stack (I:Inv X pins σ H s):s.heap.FunFrames X.base X.stack:=by
 rcases I.ok.stk with e | ⟨e,hf⟩
 . rw [e];exact I.funs
 . rw [e]
   obtain ⟨m,hn,_⟩:=I.loc
   refine .cons (by rw [I.ok.kind];decide) hf hn ?_ I.funs
   exact Heap.get?_none_of_le (Nat.le_trans I.ok.bsz I.ok.above)
theorem Inv.stkSub (I:Inv X pins σ H s):∀ b∈frs X.stack,b∈X.env.locals :: X.fs:=fun b hb=>by
 rcases I.ok.stk with e | ⟨e,hf⟩
 . rw [e] at hb;exact Zk _ hb
 . rw [e] at hb
   unfold frs at hb
   rw [List.filterMap_cons,hf] at hb
   exact hb
theorem Inv.stkFree (I:Inv X pins σ H s):∀ b∈frs X.stack,H b=none:=fun b hb=>by
 rcases Zo.mp (I.stkSub b hb) with e | hb
 . rw [e];exact I.free
 . obtain ⟨_,o,ho,_⟩:=I.ok.funs.mem hb
   exact I.base.free b o ho (I.ok.frf b hb) fun z=>I.ok.exfs b z hb
theorem Inv.step {g':Array GenState} {t':Nat} {d':Drawn} {ch:List Addr} (I:Inv X pins σ H s)
 (hch:∀ b∈ch,(b∈X.ex \/ X.s₀.heap.objs.size<=b)/\b ≠ X.env.locals/\(∀ x c,X.env.cells.lookup x=some c->c ≠ b)/\∀ p∈X.pn++pins,p.1 ≠ b)
 (keep:∀ b o,b ≠ X.env.locals->b ∉ X.fs->b ∉ ch->s.heap.get? b=some o->H b=none->h'.get? b=some o)
 (slot:∀ b o,b ≠ X.env.locals->b∈X.fs->b ∉ ch->s.heap.get? b=some o->H b=none->∃ sl,h'.get? b=some { o with slots:=sl }) (free:∀ b o,b ∉ ch->s.heap.get? b=some o->H b=none->H' b=none)
 (there:∀ b o,b ∉ ch->s.heap.get? b=some o->∃ o',h'.get? b=some o')
 (tups:∀ b xs,H b=some (.tup xs)->H' b=some (.tup xs)) (frzs:∀ b o u,H b=some (.frz o u)->H' b=some (.frz o u)) (tbls:∀ b ps,H b=some (.tbl ps)->∃ more,H' b=some (.tbl (ps++more)))
 (ns:∀ m,s.heap.Ns X.env.locals m->h'.Ns X.env.locals m) (hok:HOk X.prog X.w H' h') (hg:AllBare g') :
 Inv X pins σ H' { s with heap:=h',gens:=g',drawn:=d',toks:=t' }:=by
 have neL:∀ b o,X.s₀.heap.get? b=some o->b ≠ X.env.locals:=fun b o e=>Nat.ne_of_lt (Nat.lt_of_lt_of_le (Heap.lt_size e) I.ok.above)
 have neC:∀ b o,X.s₀.heap.get? b=some o->b ∉ X.ex->b ∉ ch:=fun b o e hx hb=>by
  rcases (hch b hb).1 with z | z
  . exact hx z
  . exact absurd (Nat.lt_of_lt_of_le (Heap.lt_size e) z) (Nat.lt_irrefl _)
 have cellK:∀ x c,X.env.cells.lookup x=some c->∀ v,s.heap.IsCell c v->h'.IsCell c v:=fun x c e v ⟨o,ho,hd⟩=>by
  have nch:c ∉ ch:=fun z=>(hch c z).2.2.1 x c e rfl
  by_cases hc:c∈X.fs
  . obtain ⟨sl,q⟩:=slot c o (I.cne x c e) hc nch ho (I.freeC x c e)
    exact ⟨_,q,hd⟩
  . exact ⟨o,keep c o (I.cne x c e) hc nch ho (I.freeC x c e),hd⟩
 refine ⟨I.ok,I.os,hg,⟨fun b o e n hb hx=>?_,fun b o e n hb hx=>?_,fun b o e n hx=>?_,fun b o e hx=>?_,fun b xs e=>tups b xs (I.base.tups b xs e),fun b o xs e=>frzs b o xs (I.base.frzs b o xs e),fun b ps e=>?_⟩,?_,fun x c e=>?_,?_,fun x c e=>?_,fun p hp=>?_,hok,I.len⟩
 . exact keep b o (neL b o e) hb (neC b o e hx) (I.base.keep b o e n hb hx) (I.base.free b o e n hx)
 . obtain ⟨sl,e1⟩:=I.base.slot b o e n hb hx
   obtain ⟨sl',e2⟩:=slot b _ (neL b o e) hb (neC b o e hx) e1 (I.base.free b o e n hx)
   exact ⟨sl',e2⟩
 . obtain ⟨o',e1⟩:=I.base.there b o e hx
   exact free b o' (neC b o e hx) e1 (I.base.free b o e n hx)
 . obtain ⟨o',e1⟩:=I.base.there b o e hx
   exact there b o' (neC b o e hx) e1
 . obtain ⟨m1,e1⟩:=I.base.tbls b ps e
   obtain ⟨m2,e2⟩:=tbls b _ e1
   exact ⟨m1++m2,by rw [e2,Array.append_assoc]⟩
 . obtain ⟨m,hn,hl⟩:=I.loc
   refine ⟨m,ns m hn,fun i x v e1 e2 e3=>?_⟩
   obtain ⟨u,r,l⟩:=hl i x v e1 e2 e3
   refine ⟨u,r,?_⟩
   rcases l with l | ⟨k,c,e,z⟩
   . exact .inl l
   . exact .inr ⟨k,c,e,cellK x c e _ z⟩
 . obtain ⟨v,z⟩:=I.cell x c e
   exact ⟨v,cellK x c e v z⟩
 . obtain ⟨m,⟨o,_,_,ho,_⟩,_⟩:=I.loc
   exact free _ o (fun z=>(hch _ z).2.1 rfl) ho I.free
 . obtain ⟨v,o,ho,hd⟩:=I.cell x c e
   exact free c o (fun z=>(hch c z).2.2.1 x c e rfl) ho (I.freeC x c e)
 . obtain ⟨e,n,ne,nf,d⟩:=I.pin p hp
   have nch:p.1 ∉ ch:=fun z=>(hch p.1 z).2.2.2 p hp rfl
   exact ⟨keep p.1 p.2 ne nf nch e n,free p.1 p.2 nch e n,ne,nf,d⟩
theorem Inv.un {t':Nat} (I:Inv X pins σ H s) (u:Un X.fs [] H H' s.heap h') (hok:HOk X.prog X.w H' h'):Inv X pins σ H' { s with heap:=h',toks:=t' }:=by
 obtain ⟨m,⟨o,es,ep,ho,r⟩,_⟩:=id I.loc
 obtain ⟨sl,hL⟩:=u.any ho I.free (by simp)
 exact I.step (g':=s.gens) (d':=s.drawn) (ch:=[]) (fun _ z=>nomatch z) (fun b o _ hb _ e n=>u.keep b o e n hb (by simp)) (fun b o _ hb _ e n=>u.slot b o e n hb (by simp)) (fun b o _ e n=>u.free b o e n (by simp)) (fun b o _ e=>u.there b o e (by simp)) u.tups u.frzs u.tbls (fun m' hm=>by
  obtain ⟨o',es',ep',ho',r'⟩:=hm
  rw [ho] at ho';cases ho'
  exact ⟨_,es',ep',hL,r'⟩) hok I.bare
theorem Inv.call {g':Array GenState} {t':Nat} {d':Drawn} {ch:List Addr} (I:Inv X pins σ H s) (u:Un (frs X.stack) ch H H' s.heap h') (hok:HOk X.prog X.w H' h') (hg:AllBare g')
 (hch:∀ b∈ch,(b∈X.ex \/ X.s₀.heap.objs.size<=b)/\b ≠ X.env.locals/\(∀ x c,X.env.cells.lookup x=some c->c ≠ b)/\∀ p∈X.pn++pins,p.1 ≠ b) :
 Inv X pins σ H' { s with heap:=h',gens:=g',drawn:=d',toks:=t' }:=by
 obtain ⟨m,⟨o,es,ep,ho,r⟩,_⟩:=id I.loc
 obtain ⟨sl,hL⟩:=u.any ho I.free fun z=>(hch _ z).2.1 rfl
 exact I.step (ch:=ch) hch (fun b o hL hb hc e n=>u.keep b o e n (fun z=>(Zo.mp (I.stkSub b z)).elim hL hb) hc) (fun b o _ _ hc e n=>u.any e n hc) (fun b o hc e n=>u.free b o e n hc) (fun b o hc e=>u.there b o e hc) u.tups u.frzs u.tbls (fun m' hm=>by
  obtain ⟨o',es',ep',ho',r'⟩:=hm
  rw [ho] at ho';cases ho'
  exact ⟨_,es',ep',hL,r'⟩) hok hg
theorem Inv.turned {t':Nat} {it:Addr} (I:Inv X pins σ H s) (k:∀ b o,b ≠ it->s.heap.get? b=some o->h'.get? b=some o) (hn:H it=none) (hL:it ≠ X.env.locals)
 (h1:it∈X.ex \/ X.s₀.heap.objs.size<=it) (h2:∀ x c,X.env.cells.lookup x=some c->c ≠ it) (h3:∀ p∈X.pn++pins,p.1 ≠ it):Inv X pins σ H { s with heap:=h',toks:=t' }:=by
 have nit:∀ b u,H b=some u->b ≠ it:=fun b u e z=>by rw [z,hn] at e;cases e
 refine I.step (g':=s.gens) (d':=s.drawn) (ch:=[it]) (fun b hb=>?_) (fun b o _ _ hc e _=>k b o (fun z=>hc (by simp [z])) e) (fun b o _ _ hc e _=>⟨o.slots,k b o (fun z=>hc (by simp [z])) e⟩) (fun _ _ _ _ n=>n)
  (fun b o hc e=>⟨o,k b o (fun z=>hc (by simp [z])) e⟩) (fun _ _ e=>e) (fun _ _ _ e=>e) (fun b ps e=>⟨#[],by rw [e];simp⟩) (fun m hm=>?_) (fun b u e=>?_) I.bare
 . have e:b=it:=by simpa using hb
   subst e
   exact ⟨h1,hL,h2,h3⟩
 . obtain ⟨o,es,ep,ho,r⟩:=hm
   exact ⟨o,es,ep,k _ o (Ne.symm hL) ho,r⟩
 . refine (I.hok b u e).stay (fun c v hc q=>k c v ?_ q) (fun _ q=>q) fun _ _ q=>q
   rcases hc with z | z
   . rw [z];exact nit b u e
   . exact nit c _ z
theorem Inv.tok (I:Inv X pins σ H s) (t:Nat):Inv X pins σ H { s with toks:=t }:=I.un (h':=s.heap) (t':=t) Un.refl I.hok
theorem Inv.kept {t':Nat} (I:Inv X pins σ H s) (k:∀ b u,s.heap.get? b=some u->h'.get? b=some u):Inv X pins σ H { s with heap:=h',toks:=t' }:=I.un (Un.kept k) (I.hok.kept k)
theorem Inv.laid {a:Addr} {o:HO} {t':Nat} (I:Inv X pins σ H s) (k:∀ b u,s.heap.get? b=some u->h'.get? b=some u) (hp:s.heap.objs.size<=a) (new:ObjOk X.prog X.w (upd H a o) h' a o) :
 Inv X pins σ (upd H a o) { s with heap:=h',toks:=t' }:=I.un (Un.laid k hp (I.hok.fresh hp)) (I.hok.laid k hp new)
theorem Inv.write {x e:Addr} {o:HO} {t':Nat} (I:Inv X pins σ H s) (mu:Mut (H x)) (he:e=x \/ H e=some (.own x)) (k:∀ b u,b ≠ e->s.heap.get? b=some u->h'.get? b=some u) (heo:∃ u,h'.get? e=some u)
 (new:ObjOk X.prog X.w (upd H x o) h' x o):Inv X pins σ (upd H x o) { s with heap:=h',toks:=t' }:=I.un (Un.write mu he k heo) (I.hok.write mu he k heo new)
theorem Inv.pins_of {pins':List (Addr×Obj)} (I:Inv X pins σ H s) (h:∀ p∈pins',s.heap.get? p.1=some p.2/\H p.1=none/\p.1 ≠ X.env.locals/\p.1 ∉ X.fs/\∀ v,p.2.data ≠ .cell v):Inv X pins' σ H s :=
 ⟨I.ok,I.os,I.bare,I.base,I.loc,I.cell,I.free,I.freeC,fun p hp=>(Zn.mp hp).elim (fun z=>I.pin p (List.mem_append_left _ z)) (h p),I.hok,I.len⟩
theorem qA {N:List Str} (hN:N.Nodup) {i j:Nat} {x:Str} (a:N[i]? = some x) (b:N[j]? = some x):i=j:=by
 obtain ⟨h1,e1⟩:=List.getElem?_eq_some_iff.mp a
 obtain ⟨h2,e2⟩:=List.getElem?_eq_some_iff.mp b
 exact (List.getElem_inj hN).mp (e1.trans e2.symm)
theorem jS {M:Model} {A:Around} {E:Value->Shared->Prop} {i:Nat} {x:Str} {v:V} {u:Value} {Q:Unit->Shared->Prop} (I:Inv X pins σ H s) (hN:X.N.Nodup) (hi:X.N[i]? = some x) (hx:Loc X.env.scope x) (r:RelV v u)
 (h:∀ s',Inv X pins (σ.set i (some v)) H s'->(∃ a,Heap.SameBut a s.heap s'.heap/\(a=X.env.locals \/ X.env.cells.lookup x=some a))->Q () s') (hf:X.fn x=true \/ X.env.scope.names.lookup x=some .local:=by first | exact .inl rfl | exact .inr rfl | assumption):wpAny M A (storeName X.env x u) Q E s:=by
 obtain ⟨m,hn,hl⟩:=id I.loc
 have hcls:(X.env.scope.kind == .class || (X.env.scope.kind == .module && X.env.locals != X.env.globals))=false:=by rw [I.ok.kind];rfl
 have hiσ:i < σ.length:=by rw [I.len];exact (List.getElem?_eq_some_iff.mp hi).1
 have cne:=I.cne
 have tracked:∀ {a:Addr} {h':Heap},(∃ o,s.heap.get? a=some o/\H a=none)->Heap.SameBut a s.heap h'->HOk X.prog X.w H h':=fun {a h'} ha hs b ob e=>by
  obtain ⟨_,_,hfree⟩:=ha
  refine (I.hok b ob e).stay (fun c w' hc q=>(hs.2 c ?_).trans q) (fun _ q=>q) fun _ _ q=>q
  rintro rfl
  rcases hc with rfl | hc
  . rw [hfree] at e;cases e
  . rw [hfree] at hc;cases hc
 rcases hx with hk | hk
 . refine wpAny_storeName_local hk hn (fun h' hn' hs=>?_) hcls
   obtain ⟨oL,_,_,hoL,_⟩:=id hn
   refine h _ ⟨I.ok,I.os,I.bare,⟨fun b o e n hb hx=>?_,fun b o e n hb hx=>?_,I.base.free,fun b o e hx=>?_,I.base.tups,I.base.frzs,I.base.tbls⟩,⟨_,hn',fun j y v' e1 e2 e3=>?_⟩,fun y c e=>?_,I.free,I.freeC,fun p hp=>?_,tracked ⟨oL,hoL,I.free⟩ hs,by simpa using I.len⟩ ⟨_,hs,.inl rfl⟩
   . exact (hs.2 b (Nat.ne_of_lt (Nat.lt_of_lt_of_le (Heap.lt_size e) I.ok.above))).trans (I.base.keep b o e n hb hx)
   . obtain ⟨sl,e1⟩:=I.base.slot b o e n hb hx
     exact ⟨sl,(hs.2 b (Nat.ne_of_lt (Nat.lt_of_lt_of_le (Heap.lt_size e) I.ok.above))).trans e1⟩
   . obtain ⟨o',e1⟩:=I.base.there b o e hx
     exact ⟨o',(hs.2 b (Nat.ne_of_lt (Nat.lt_of_lt_of_le (Heap.lt_size e) I.ok.above))).trans e1⟩
   . by_cases hj:j=i
     . subst hj
       rw [hi] at e1;cases e1
       rw [List.getElem?_set_self hiσ] at e2
       cases e2
       exact ⟨u,r,.inl ⟨hk,by simp⟩⟩
     . rw [List.getElem?_set_ne (Ne.symm hj)] at e2
       obtain ⟨u',r',q⟩:=hl j y v' e1 e2 e3
       refine ⟨u',r',?_⟩
       rcases q with ⟨k,e⟩ | ⟨k,c,e,z⟩
       . refine .inl ⟨k,?_⟩
         have:y ≠ x:=fun e=>hj (qA hN e1 (e ▸ hi))
         simp [this,e]
       . exact .inr ⟨k,c,e,z.sameBut hs (cne y c e)⟩
   . obtain ⟨w',z⟩:=I.cell y c e
     exact ⟨w',z.sameBut hs (cne y c e)⟩
   . obtain ⟨e,n,ne,nf,d⟩:=I.pin p hp
     exact ⟨(hs.2 p.1 ne).trans e,n,ne,nf,d⟩
 . have hfn:X.fn x=true:=by
    rcases hf with z | z
    . exact z
    . rw [z] at hk;cases hk
   obtain ⟨c,hc⟩:=I.ok.has x (.inl hk)
   obtain ⟨w',z⟩:=I.cell x c hc
   refine wpAny_storeName_cell I.ok.kind hk hc z (fun h' hc' hs=>?_)
   obtain ⟨oc,hoc,hocd⟩:=id z
   refine h { s with heap:=h' } ⟨I.ok,I.os,I.bare,⟨fun b o e n hb hx=>?_,fun b o e n hb hx=>?_,I.base.free,fun b o e hx=>?_,I.base.tups,I.base.frzs,I.base.tbls⟩,⟨m,hn.sameBut hs (Ne.symm (cne x c hc)),fun j y v' e1 e2 e3=>?_⟩,fun y c' e=>?_,I.free,I.freeC,fun p hp=>?_,tracked ⟨oc,hoc,I.freeC x c hc⟩ hs,by simpa using I.len⟩ ⟨c,hs,.inr hc⟩
   . exact (hs.2 b (Nat.ne_of_lt (Nat.lt_of_lt_of_le (Heap.lt_size e) (I.ok.cab x c hfn hc)))).trans (I.base.keep b o e n hb hx)
   . obtain ⟨sl,e1⟩:=I.base.slot b o e n hb hx
     exact ⟨sl,(hs.2 b (Nat.ne_of_lt (Nat.lt_of_lt_of_le (Heap.lt_size e) (I.ok.cab x c hfn hc)))).trans e1⟩
   . obtain ⟨o',e1⟩:=I.base.there b o e hx
     exact ⟨o',(hs.2 b (Nat.ne_of_lt (Nat.lt_of_lt_of_le (Heap.lt_size e) (I.ok.cab x c hfn hc)))).trans e1⟩
   . by_cases hj:j=i
     . subst hj
       rw [hi] at e1;cases e1
       rw [List.getElem?_set_self hiσ] at e2
       cases e2
       exact ⟨u,r,.inr ⟨.inl hk,c,hc,hc'⟩⟩
     . rw [List.getElem?_set_ne (Ne.symm hj)] at e2
       obtain ⟨u',r',q⟩:=hl j y v' e1 e2 e3
       refine ⟨u',r',?_⟩
       rcases q with q | ⟨k,c',e,z'⟩
       . exact .inl q
       . refine .inr ⟨k,c',e,z'.sameBut hs ?_⟩
         rintro rfl
         exact hj (qA hN e1 (I.ok.inj _ _ _ e hc ▸ hi))
   . by_cases hcc:c'=c
     . subst hcc;exact ⟨_,hc'⟩
     . obtain ⟨w2,z2⟩:=I.cell y c' e
       exact ⟨w2,z2.sameBut hs hcc⟩
   . obtain ⟨e,n,ne,nf,d⟩:=I.pin p hp
     refine ⟨(hs.2 p.1 ?_).trans e,n,ne,nf,d⟩
     intro q
     rw [q,hoc] at e
     have q':oc=p.2:=Option.some.inj e
     exact d w' (by rw [<- q'];exact hocd)
theorem jj {M:Model} {A:Around} {E:Value->Shared->Prop} {i:Nat} {x:Str} {v:V} {u:Value} {Q:Unit->Shared->Prop} (I:Inv X pins σ H s) (hN:X.N.Nodup) (hi:X.N[i]? = some x) (hx:Loc X.env.scope x) (r:RelV v u)
 (h:∀ s',Inv X pins (σ.set i (some v)) H s'->Q () s') (hf:X.fn x=true \/ X.env.scope.names.lookup x=some .local:=by first | exact .inl rfl | exact .inr rfl | assumption):wpAny M A (storeName X.env x u) Q E s :=
 jS I hN hi hx r (fun s' I' _=>h s' I') hf
theorem Inv.call' {s':Shared} {ch:List Addr} (I:Inv X pins σ H s) (ho:s'.os=s.os) (u:Un (frs X.stack) ch H H' s.heap s'.heap) (hok:HOk X.prog X.w H' s'.heap) (hg:AllBare s'.gens)
 (hch:∀ b∈ch,(b∈X.ex \/ X.s₀.heap.objs.size<=b)/\b ≠ X.env.locals/\(∀ x c,X.env.cells.lookup x=some c->c ≠ b)/\∀ p∈X.pn++pins,p.1 ≠ b):Inv X pins σ H' s':=by
 obtain ⟨h',g',d',t',o'⟩:=s'
 have e:o'=s.os:=ho
 subst e
 exact I.call (g':=g') (t':=t') (d':=d') u hok hg hch
end
abbrev XK:=Value->Option Addr->Hp->Prop
abbrev St:=List (Option V)
abbrev VK:=V->Hp->Prop
abbrev TE:=St->Hp->VK->Prop
abbrev TT:=St->Hp->(Bool->Hp->Prop)->Prop
abbrev TA:=St->Hp->(List V->Hp->Prop)->Prop
structure m4 where
 nx:St->Hp->Prop
 rt:VK
 bk:St->Hp->Prop:=fun _ _=>False
 ct:St->Hp->Prop:=fun _ _=>False
abbrev TS:=m4->St->Hp->Prop
def EP (X:Cx) (pins:List (Addr×Obj)) (σ:St) (Q:VK) (u:Value) (s':Shared):Prop:=∃ v H',Inv X pins σ H' s'/\RelV v u/\Q v H'
def TP (X:Cx) (pins:List (Addr×Obj)) (σ:St) (Q:Bool->Hp->Prop) (b:Bool) (s':Shared):Prop:=∃ H',Inv X pins σ H' s'/\Q b H'
def AP (X:Cx) (pins:List (Addr×Obj)) (σ:St) (Q:List V->Hp->Prop) (us:List Value) (s':Shared):Prop:=∃ vs H',Inv X pins σ H' s'/\Vals vs us/\Q vs H'
def SP (X:Cx) (pins:List (Addr×Obj)) (D:m4) (f:Flow) (s':Shared):Prop :=
 match f with
 | .next=>∃ σ' H',Inv X pins σ' H' s'/\D.nx σ' H'
 | .brk=>∃ σ' H',Inv X pins σ' H' s'/\D.bk σ' H'
 | .cont=>∃ σ' H',Inv X pins σ' H' s'/\D.ct σ' H'
 | .ret u=>∃ v σ' H',Inv X pins σ' H' s'/\RelV v u/\D.rt v H'
def PE (X:Cx) (e:Expr) (t:TE):Prop :=
 ∀ (pins:List (Addr×Obj)) (s:Shared) (σ:St) (H:Hp) (Q:VK),Inv X pins σ H s->t σ H Q->wpAny (model X.prog X.w) X.A (eval e X.env) (EP X pins σ Q) X.xe s
def PT (X:Cx) (e:Expr) (t:TT):Prop :=
 ∀ (pins:List (Addr×Obj)) (s:Shared) (σ:St) (H:Hp) (Q:Bool->Hp->Prop),Inv X pins σ H s->t σ H Q->wpAny (model X.prog X.w) X.A (isTrue e X.env (eval e X.env)) (TP X pins σ Q) X.xe s
def PW (X:Cx) (e:Expr) (t:TT):Prop :=
 ∀ (whole:Sem Value) (pins:List (Addr×Obj)) (s:Shared) (σ:St) (H:Hp) (Q:Bool->Hp->Prop),Inv X pins σ H s->t σ H Q->wpAny (model X.prog X.w) X.A (isTrue e X.env whole) (TP X pins σ Q) X.xe s
def PA (X:Cx) (es:List Expr) (t:TA):Prop :=
 ∀ (pos:Pos) (pins:List (Addr×Obj)) (s:Shared) (σ:St) (H:Hp) (Q:List V->Hp->Prop),Inv X pins σ H s->t σ H Q->wpAny (model X.prog X.w) X.A (spliced (backTo pos (starEach es X.env))) (AP X pins σ Q) X.xe s
def PS (X:Cx) (st:Stmt) (t:TS):Prop :=
 ∀ (pins:List (Addr×Obj)) (s:Shared) (σ:St) (H:Hp) (D:m4),Inv X pins σ H s->t D σ H->wpAny (model X.prog X.w) X.A (exec st X.env) (SP X pins D) X.xe s
def PSs (X:Cx) (st:List Stmt) (t:TS):Prop :=
 ∀ (pins:List (Addr×Obj)) (s:Shared) (σ:St) (H:Hp) (D:m4),Inv X pins σ H s->t D σ H->wpAny (model X.prog X.w) X.A (execs st X.env) (SP X pins D) X.xe s
theorem thn {α:Type} {t:Sem α} {Q Q':α->Shared->Prop} {M:Model} {A:Around} {E:Value->Shared->Prop} {s:Shared} (h:wpAny M A t Q E s) (hQ:∀ a s,Q a s->Q' a s):wpAny M A t Q' E s:=wpAny_mono h hQ fun _ _ x=>x
end L2
namespace L2
open PySem PySem.Spec PyProof.Rows
section
variable {X:Cx}
def oB (i:Nat):TE:=fun σ H Q=>∃ v,σ[i]? = some (some v)/\Q v H
def tC (v:V):TE:=fun _ H Q=>Q v H
theorem oZ {i:Nat} {x:Str} {pos:Pos} (hN:X.N[i]? = some x) (hv:Vis X.env.scope x) (hd:(x == ("__debug__":Str))=false:=by decide) (hcd:(x == ("__classdict__":Str))=false:=by decide):PE X (.Name x pos) (oB i):=by
 intro pins s σ H Q I h
 obtain ⟨v,e,h⟩:=h
 obtain ⟨m,hn,hl⟩:=I.loc
 obtain ⟨u,r,l⟩:=hl i x v hN e hv
 have fin:EP X pins σ Q u s:=⟨v,H,I,r,h⟩
 rcases l with ⟨hk,hm⟩ | ⟨hk,c,hc,hcell⟩
 . exact wpAny_Name (wpAny_loadName_local I.ok.kind hk hn hm fin) hd
 . rcases hk with hk | hk
   . exact wpAny_Name (wpAny_loadName_cell I.ok.kind hk hc hcell fin) hd
   . exact wpAny_Name (wpAny_loadName_free I.ok.kind hk hc hcell fin hcd) hd
theorem zY {i j pos}:PE X (.Constant (.int i) j pos) (tC (.int i)):=fun _ _ _ H _ I h=>wpAny_Constant_int ⟨.int i,H,I.tok _,⟨_,rfl⟩,h⟩
theorem Bz {b j pos}:PE X (.Constant (.bool b) j pos) (tC (.bl b)):=fun _ _ _ H _ I h=>Constant_bool ⟨.bl b,H,I,rfl,h⟩
theorem zX {j pos}:PE X (.Constant .none j pos) (tC .non):=fun _ _ _ H _ I h=>Constant_none ⟨.non,H,I,rfl,h⟩
theorem zU {x j pos}:PE X (.Constant (.str x) j pos) (tC (.str x)):=fun _ _ _ H _ I h=>Calls.Constant_str ⟨.str x,H,I.tok _,⟨_,rfl⟩,h⟩
def Gl (X:Cx) (x:Str):Prop:=X.env.kindOf x=some .globalImplicit
theorem yr {E:Value->Shared->Prop} {pins:List (Addr×Obj)} {s:Shared} {σ:St} {H:Hp} {x:Str} {u:Value} {pos:Pos} {Q:Value->Shared->Prop} (I:Inv X pins σ H s) (hg:Gl X x) (hm:X.mg x=some u) (h:Q u s)
 (hd:(x == ("__debug__":Str))=false:=by decide):wpAny (model X.prog X.w) X.A (eval (.Name x pos) X.env) Q E s :=
 Calls.Name_function_global I.ok.kind hg (Calls.loadGlobal_global (by rw [I.ok.glob];exact I.mod.glob.keeps I.bk) hm h) hd
theorem mF {E:Value->Shared->Prop} {pins:List (Addr×Obj)} {s:Shared} {σ:St} {H:Hp} {x:Str} {u:Value} {pos:Pos} {Q:Value->Shared->Prop} (I:Inv X pins σ H s) (hg:Gl X x) (hm:X.mg x=none) (hv:bootBuiltins x=some u) (h:Q u s)
 (hn:x ≠ "__name__":=by decide) (hd:(x == ("__debug__":Str))=false:=by decide):wpAny (model X.prog X.w) X.A (eval (.Name x pos) X.env) Q E s:=by
 obtain ⟨mb,h1,h2⟩:=I.mod.blt
 exact Calls.Name_function_global I.ok.kind hg (Calls.loadGlobal_builtin (by rw [I.ok.glob];exact I.mod.glob.keeps I.bk) hm (by rw [I.ok.blt];exact h1.keeps I.bk) ((h2 x hn).trans hv) h) hd
theorem x6 {x:Str} {v:V} {u:Value} {pos:Pos} (hg:Gl X x) (hm:X.mg x=none) (hv:bootBuiltins x=some u) (r:RelV v u) (hn:x ≠ "__name__":=by decide) (hd:(x == ("__debug__":Str))=false:=by decide):PE X (.Name x pos) (tC v) :=
 fun _ _ _ H _ I h=>mF I hg hm hv ⟨v,H,I,r,h⟩ hn hd
variable {a b:Expr} {ta tb:TE} {pos:Pos}
def PC (X:Cx) (op:CmpOp) (a b:Expr) (t:TE):Prop :=
 ∀ (pins:List (Addr×Obj)) (s:Shared) (σ:St) (H:Hp) (Q:VK),Inv X pins σ H s->t σ H Q ->
  wpAny (model X.prog X.w) X.A (eval a X.env) (fun v s₁=>wpAny (model X.prog X.w) X.A (eval b X.env) (fun u s₂=>wpAny (model X.prog X.w) X.A (compareOp op v u) (EP X pins σ Q) X.xe s₂) X.xe s₁) X.xe s
theorem wz (b:Expr) {op:CmpOp} (h:op ≠ .In) (h2:op ≠ .NotIn):behindInMarks op b=false:=by
 have e1:(op == CmpOp.In)=false:=by cases op <;> first | rfl | exact absurd rfl h
 have e2:(op == CmpOp.NotIn)=false:=by cases op <;> first | rfl | exact absurd rfl h2
 cases b <;> simp [behindInMarks,e1,e2]
def tB (t:TE):TT:=fun σ H Q=>t σ H fun x H1=>∃ c,x=.bl c/\Q c H1
theorem zR {op:CmpOp} {t:TE} (h:PC X op a b t) (h1:behindInMarks op b=false:=by first | exact wz _ (by decide) (by decide) | rfl):PT X (.Compare a [op] [b] pos) (tB t):=by
 intro pins s σ H Q I hw
 refine wpAny_isTrue_Compare1 (thn (h pins s σ H _ I hw) fun v s1 h1=>thn h1 fun u s2 h2=>thn h2 fun c s3 ⟨x,H1,I1,r1,q1⟩=>?_) h1
 obtain ⟨d,rfl,q⟩:=q1
 cases r1
 exact wpAny_truthy_bool ⟨H1,I1,q⟩
theorem zP {e:Expr} {t:TE} (h:PE X e t) (he:∀ whole,isTrue e X.env whole=(do let v <- whole;standAt e.pos;holding [v] (truthy v)):=by intro _;rfl):PT X e (tB t):=by
 intro pins s σ H Q I hw
 refine isTrue_plain (thn (h pins s σ H _ I hw) fun v s1 ⟨x,H1,I1,r1,q1⟩=>?_) (he _)
 obtain ⟨d,rfl,q⟩:=q1
 cases r1
 exact wpAny_truthy_bool ⟨H1,I1,q⟩
variable {tA tB':TT} {rest:List Expr}
def Ck (t u:TT):TT:=fun σ H Q=>t σ H fun c H1=>if c=true then u σ H1 Q else Q false H1
def tOr (t u:TT):TT:=fun σ H Q=>t σ H fun c H1=>if c=true then Q true H1 else u σ H1 Q
def Cg (t:TT):TT:=fun σ H Q=>t σ H fun c H1=>Q (!c) H1
theorem xN (ha:PT X a tA):PW X (.BoolOp .And [a] pos) tA:=by
 intro wh pins s σ H Q I h
 refine isTrue_and (thn (ha pins s σ H Q I h) fun c s1 e=>?_)
 cases c with
 | true=>exact isTrue_and_nil e
 | false=>exact e
theorem zL (ha:PT X a tA):PW X (.BoolOp .Or [a] pos) tA:=by
 intro wh pins s σ H Q I h
 refine isTrue_or (thn (ha pins s σ H Q I h) fun c s1 e=>?_)
 cases c with
 | false=>exact isTrue_or_nil e
 | true=>exact e
theorem zM (ha:PT X a tA) (hb:PW X (.BoolOp .And (b :: rest) pos) tB'):PW X (.BoolOp .And (a :: b :: rest) pos) (Ck tA tB'):=by
 intro wh pins s σ H Q I h
 refine isTrue_and (thn (ha pins s σ H _ I h) fun c s1 ⟨H1,I1,q1⟩=>?_)
 cases c with
 | true=>exact hb wh pins s1 σ H1 Q I1 q1
 | false=>exact ⟨H1,I1,q1⟩
theorem Bt (ha:PT X a tA) (hb:PW X (.BoolOp .Or (b :: rest) pos) tB'):PW X (.BoolOp .Or (a :: b :: rest) pos) (tOr tA tB'):=by
 intro wh pins s σ H Q I h
 refine isTrue_or (thn (ha pins s σ H _ I h) fun c s1 ⟨H1,I1,q1⟩=>?_)
 cases c with
 | true=>exact ⟨H1,I1,q1⟩
 | false=>exact hb wh pins s1 σ H1 Q I1 q1
theorem zQ (ha:PT X a tA):PT X (.UnaryOp .Not a pos) (Cg tA):=by
 intro pins s σ H Q I h
 exact isTrue_not (ha pins s σ H (fun c H1=>Q (!c) H1) I h)
def A8 (ta tb:TE):TE:=fun σ H Q=>ta σ H fun x H1=>∃ c,x=.bl c/\if c=true then tb σ H1 Q else Q (.bl false) H1
def Cf (ta tb:TE):TE:=fun σ H Q=>ta σ H fun x H1=>∃ c,x=.bl c/\if c=true then Q (.bl true) H1 else tb σ H1 Q
def AX (ta:TE):TE:=fun σ H Q=>ta σ H fun x H1=>∃ c,x=.bl c/\Q (.bl (!c)) H1
theorem zV {op} {t:TE} (h:PE X a t):PE X (.BoolOp op [a] pos) t:=fun pins s σ H Q I hw=>BoolOp_one (h pins s σ H Q I hw)
theorem zZ (ha:PE X a ta) (hb:PE X (.BoolOp .And (b :: rest) pos) tb):PE X (.BoolOp .And (a :: b :: rest) pos) (A8 ta tb):=by
 intro pins s σ H Q I h
 refine BoolOp_and (thn (ha pins s σ H _ I h) fun v s1 ⟨x,H1,I1,r1,q1⟩=>?_)
 obtain ⟨c,rfl,q1⟩:=q1
 cases r1
 refine wpAny_truthy_bool ?_
 cases c with
 | true=>exact hb pins s1 σ H1 Q I1 q1
 | false=>exact ⟨.bl false,H1,I1,rfl,q1⟩
theorem By (ha:PE X a ta) (hb:PE X (.BoolOp .Or (b :: rest) pos) tb):PE X (.BoolOp .Or (a :: b :: rest) pos) (Cf ta tb):=by
 intro pins s σ H Q I h
 refine BoolOp_or (thn (ha pins s σ H _ I h) fun v s1 ⟨x,H1,I1,r1,q1⟩=>?_)
 obtain ⟨c,rfl,q1⟩:=q1
 cases r1
 refine wpAny_truthy_bool ?_
 cases c with
 | false=>exact hb pins s1 σ H1 Q I1 q1
 | true=>exact ⟨.bl true,H1,I1,rfl,q1⟩
theorem zW (ha:PE X a ta):PE X (.UnaryOp .Not a pos) (AX ta):=by
 intro pins s σ H Q I h
 refine UnaryOp_ (thn (ha pins s σ H _ I h) fun v s1 ⟨x,H1,I1,r1,q1⟩=>?_)
 obtain ⟨c,rfl,q1⟩:=q1
 cases r1
 exact not_of (wpAny_truthy_bool ⟨.bl (!c),H1,I1,rfl,q1⟩)
end
end L2
namespace L2
open PySem PySem.Spec PyProof.Rows
def SqL (K:PySem.W.Frag) (H:Hp) (a:Addr) (xs:List V):Prop :=
 Rd H a (.lst xs) \/
  ∃ (o:Obj) (its:Array Value) (n:Nat),K.lookup a=some o/\o.cls=.type "list"/\o.dict=none/\o.data=.seq its n/\its.size<=sizeLine/\Vals xs its.toList
def SqT (K:PySem.W.Frag) (H:Hp) (a:Addr) (xs:List V):Prop :=
 Rd H a (.tup xs) \/
  ∃ (o:Obj) (its:Array Value) (n:Nat),K.lookup a=some o/\o.cls=.type "tuple"/\o.data=.seq its n/\its.size<=sizeLine/\Vals xs its.toList
def Cr:Value->Option V
 | .none=>some .non
 | .bool b=>some (.bl b)
 | .int i _=>some (.int i)
 | .str x _=>some (.str x)
 | .bytes b _=>some (.byt b)
 | .float b _=>some (.flt b)
 | .ref a=>some (.ref a)
 | .type n=>some (.ty n)
 | _=>none
theorem RelV.abs {x:V} {u:Value} (r:RelV x u):Cr u=some x:=by
 cases x with
 | non=>cases r;rfl
 | bl _=>cases r;rfl
 | int _=>obtain ⟨t,rfl⟩:=r;rfl
 | str _=>obtain ⟨t,rfl⟩:=r;rfl
 | byt _=>obtain ⟨t,rfl⟩:=r;rfl
 | flt _=>obtain ⟨t,rfl⟩:=r;rfl
 | ref _=>cases r;rfl
 | ty _=>cases r;rfl
theorem RelV.inj {x y:V} {u:Value} (r:RelV x u) (q:RelV y u):x=y:=Option.some.inj (r.abs.symm.trans q.abs)
theorem Vals.inj:∀ {xs ys:List V} {us:List Value},Vals xs us->Vals ys us->xs=ys
 | _,_,_,.nil,.nil=>rfl
 | _,_,_,.cons r t,.cons r' t'=>by rw [r.inj r',Vals.inj t t']
section
variable {X:Cx} {pins:List (Addr×Obj)} {σ:St} {H:Hp} {s:Shared} {a:Addr} {xs ys:List V}
theorem SqL.of {K:PySem.W.Frag} (h:H a=some (.lst xs)):SqL K H a xs:=.inl (.inl h)
theorem SqT.of {K:PySem.W.Frag} (h:H a=some (.tup xs)):SqT K H a xs:=.inl (.inl h)
theorem Inv.list (I:Inv X pins σ H s) (h:SqL X.K H a xs):∃ its:List Value,Vals xs its/\PlainL s.heap a its.toArray/\xs.length<=sizeLine:=by
 rcases h with h | ⟨o,its,n,hk,hc,hd,hs,hz,r⟩
 . obtain ⟨z,its,n,r,e⟩:=h.ok I.hok
   exact ⟨its,r,⟨_,n,e,rfl,rfl,rfl⟩,z⟩
 . refine ⟨its.toList,r,⟨o,n,I.kIn a o hk,hc,hd,by simpa using hs⟩,?_⟩
   have e:=r.length
   simp only [Array.length_toList] at e
   omega
theorem Inv.tuple (I:Inv X pins σ H s) (h:SqT X.K H a xs):∃ its:List Value,Vals xs its/\IsTup s.heap a its.toArray/\xs.length<=sizeLine:=by
 rcases h with h | ⟨o,its,n,hk,hc,hs,hz,r⟩
 . obtain ⟨z,its,r,p⟩:=h.ok I.hok
   exact ⟨its,r,p,z⟩
 . refine ⟨its.toList,r,⟨o,I.kIn a o hk,hc,n,by simpa using hs⟩,?_⟩
   have e:=r.length
   simp only [Array.length_toList] at e
   omega
theorem Inv.list_inj (I:Inv X pins σ H s) (h:SqL X.K H a xs) (h':SqL X.K H a ys):xs=ys:=by
 obtain ⟨its,r,⟨o,n,e,_,_,d⟩,_⟩:=I.list h
 obtain ⟨its',r',⟨o',n',e',_,_,d'⟩,_⟩:=I.list h'
 rw [e] at e';cases e'
 rw [d] at d'
 injection d' with d1 _
 have:its=its':=by simpa using congrArg Array.toList d1
 subst this
 exact r.inj r'
theorem Inv.tuple_inj (I:Inv X pins σ H s) (h:SqT X.K H a xs) (h':SqT X.K H a ys):xs=ys:=by
 obtain ⟨its,r,⟨o,e,_,n,d⟩,_⟩:=I.tuple h
 obtain ⟨its',r',⟨o',e',_,n',d'⟩,_⟩:=I.tuple h'
 rw [e] at e';cases e'
 rw [d] at d'
 injection d' with d1 _
 have:its=its':=by simpa using congrArg Array.toList d1
 subst this
 exact r.inj r'
end
abbrev Cx.wish (X:Cx) (E:Value->Shared->Prop):Cx:={ X with xe:=E }
abbrev Cx.nox (X:Cx):Cx:=X.wish fun _ _=>False
theorem Cx.Ok.wish {X:Cx} (ok:X.Ok) (E:Value->Shared->Prop):(X.wish E).Ok :=
 ⟨ok.mod,ok.kind,ok.glob,ok.blt,ok.above,ok.inj,ok.has,ok.cab,ok.hd,ok.frames,ok.stk,ok.exf,ok.bs,ok.bsz,ok.noex,ok.exfs,ok.funs,ok.frf⟩
theorem Cx.Ok.unwish {X:Cx} {E:Value->Shared->Prop} (ok:(X.wish E).Ok):X.Ok :=
 ⟨ok.mod,ok.kind,ok.glob,ok.blt,ok.above,ok.inj,ok.has,ok.cab,ok.hd,ok.frames,ok.stk,ok.exf,ok.bs,ok.bsz,ok.noex,ok.exfs,ok.funs,ok.frf⟩
section
variable {X:Cx} {pins:List (Addr×Obj)} {σ:St} {H:Hp} {s:Shared} {E:Value->Shared->Prop}
theorem Inv.wish (I:Inv X pins σ H s) (E:Value->Shared->Prop):Inv (X.wish E) pins σ H s:=⟨I.ok.wish E,I.os,I.bare,I.base,I.loc,I.cell,I.free,I.freeC,I.pin,I.hok,I.len⟩
theorem Inv.unwish (I:Inv (X.wish E) pins σ H s):Inv X pins σ H s:=⟨I.ok.unwish,I.os,I.bare,I.base,I.loc,I.cell,I.free,I.freeC,I.pin,I.hok,I.len⟩
theorem SP.unwish {D:m4} {f:Flow} {s':Shared} (h:SP (X.wish E) pins D f s'):SP X pins D f s':=by
 cases f with
 | next=>obtain ⟨σ',H',I,q⟩:=h;exact ⟨σ',H',I.unwish,q⟩
 | brk=>obtain ⟨σ',H',I,q⟩:=h;exact ⟨σ',H',I.unwish,q⟩
 | cont=>obtain ⟨σ',H',I,q⟩:=h;exact ⟨σ',H',I.unwish,q⟩
 | ret u=>obtain ⟨v,σ',H',I,r,q⟩:=h;exact ⟨v,σ',H',I.unwish,r,q⟩
theorem PSs.nox {st:List Stmt} {t:TS} (h:PSs X.nox st t):PSs X st t:=fun pins s σ H D I hw =>
 wpAny_mono (h pins s σ H D (I.wish _) hw) (fun _ _ q=>q.unwish) fun _ _ z=>False.elim z
end
section
variable {X:Cx} {st:Stmt} {rest:List Stmt} {t u:TS} {e:Expr} {te:TE} {pos:Pos}
def AY:TS:=fun D σ H=>D.nx σ H
def Cc (t u:TS):TS:=fun D σ H=>t { D with nx:=u D } σ H
theorem oR:PSs X [] AY:=fun _ _ σ H _ I h=>wpAny_execs_nil ⟨σ,H,I,h⟩
theorem lS (h1:PS X st t) (h2:PSs X rest u):PSs X (st :: rest) (Cc t u):=by
 intro pins s σ H D I h
 refine wpAny_execs_cons (thn (h1 pins s σ H { D with nx:=u D } I h) fun f s1 q=>?_)
 cases f with
 | next =>
  obtain ⟨σ',H',I',q⟩:=q
  exact h2 pins s1 σ' H' D I' q
 | ret v=>exact q
 | brk=>exact q
 | cont=>exact q
theorem oQ (h1:PS X st t):PSs X [st] t:=by
 intro pins s σ H D I h
 refine wpAny_execs_cons (thn (h1 pins s σ H D I h) fun f s1 q=>?_)
 cases f with
 | next=>exact wpAny_execs_nil q
 | ret v=>exact q
 | brk=>exact q
 | cont=>exact q
theorem Inv.quiet {pins:List (Addr×Obj)} {σ:St} {H:Hp} {s:Shared} (I:Inv X pins σ H s):interactive X.env=false:=by simp [interactive,I.ok.kind]
def AZ (te:TE):TS:=fun D σ H=>te σ H fun _ H1=>D.nx σ H1
theorem oS (he:PE X e te) (hs:swapsWith e none pos.line X.env=pure false:=by rfl):PS X (.Expr e pos) (AZ te):=by
 intro pins s σ H D I h
 exact wpAny_Expr_any (thn (he pins s σ H _ I h) fun v s1 ⟨x,H1,I1,r1,q1⟩=>⟨σ,H1,I1,q1⟩) I.quiet hs
def Cd (te:TE):TS:=fun D σ H=>te σ H D.rt
theorem vT (he:PE X e te):PS X (.Return (some e) pos) (Cd te):=by
 intro pins s σ H D I h
 exact wpAny_Return_some (thn (he pins s σ H _ I h) fun v s1 ⟨x,H1,I1,r1,q1⟩=>⟨x,σ,H1,I1,r1,q1⟩)
def Ci (c:TT) (t u:TS):TS:=fun D σ H=>c σ H fun b H1=>if b=true then t D σ H1 else u D σ H1
theorem vU {c:Expr} {a b:List Stmt} {tc:TT} (hc:PT X c tc) (ha:PSs X a t) (hb:PSs X b u):PS X (.If c a b pos) (Ci tc t u):=by
 intro pins s σ H D I h
 refine wpAny_If (thn (hc pins s σ H _ I h) fun d s1 ⟨H1,I1,q1⟩=>?_)
 cases d with
 | true=>exact ha pins s1 σ H1 D I1 q1
 | false=>exact hb pins s1 σ H1 D I1 q1
def zy:TS:=fun _ _ _=>False
theorem qt:PS X st zy:=fun _ _ _ _ _ _ h=>h.elim
end
abbrev TG:=V->St->Hp->(St->Hp->Prop)->Prop
abbrev TGs:=List V->St->Hp->(St->Hp->Prop)->Prop
def PG (X:Cx) (target:Expr) (t:TG):Prop :=
 ∀ (pins:List (Addr×Obj)) (s:Shared) (σ:St) (H:Hp) (v:V) (u:Value) (Q:St->Hp->Prop),Inv X pins σ H s->RelV v u->t v σ H Q ->
  wpAny (model X.prog X.w) X.A (assign target X.env u) (fun _ s'=>∃ σ' H',Inv X pins σ' H' s'/\Q σ' H') X.xe s
def PGs (X:Cx) (ts:List Expr) (t:TGs):Prop :=
 ∀ (pins:List (Addr×Obj)) (s:Shared) (σ:St) (H:Hp) (vs:List V) (us:List Value) (Q:St->Hp->Prop),Inv X pins σ H s->Vals vs us->t vs σ H Q ->
  wpAny (model X.prog X.w) X.A (assignInOrder ((assignEach ts X.env).map (·.2)) us) (fun _ s'=>∃ σ' H',Inv X pins σ' H' s'/\Q σ' H') X.xe s
abbrev AJ:=V->V->V->Hp->(Hp->Prop)->Prop
def B7 (X:Cx) (t:AJ):Prop :=
 ∀ (pins:List (Addr×Obj)) (s:Shared) (σ:St) (H:Hp) (o i v:V) (ov iv u:Value) (Q:Hp->Prop),Inv X pins σ H s->RelV o ov->RelV i iv->RelV v u->t o i v H Q ->
  wpAny (model X.prog X.w) X.A (setItem ov iv u) (fun _ s'=>∃ H',Inv X pins σ H' s'/\Q H') X.xe s
section
variable {X:Cx} {pos:Pos}
def tV (i:Nat):TG:=fun v σ H Q=>Q (σ.set i (some v)) H
theorem iH {i:Nat} {x:Str} (hN:X.N.Nodup) (hi:X.N[i]? = some x) (hx:Loc X.env.scope x) (hf:X.fn x=true \/ X.env.scope.names.lookup x=some .local:=by first | exact .inl rfl | exact .inr rfl | assumption):PG X (.Name x pos) (tV i):=by
 intro pins s σ H v u Q I r h
 exact wpAny_assign_Name (jj I hN hi hx r (fun s' I'=>⟨_,H,I',h⟩) hf)
def BR:TGs:=fun vs σ H Q=>vs=[]/\Q σ H
def zo (t:TG) (u:TGs):TGs:=fun vs σ H Q=>∃ v r,vs=v :: r/\t v σ H fun σ' H'=>u r σ' H' Q
theorem oX:PGs X [] BR:=by
 intro pins s σ H vs us Q I r h
 obtain ⟨e,h⟩:=h
 subst e
 cases r
 exact assignInOrder_nil ⟨σ,H,I,h⟩
theorem gy {e:Expr} {es:List Expr} {t:TG} {u:TGs} (h1:PG X e t) (h2:PGs X es u)
 (hs:(assignEach (e :: es) X.env).map (·.2)=assign e X.env :: (assignEach es X.env).map (·.2):=by rfl):PGs X (e :: es) (zo t u):=by
 intro pins s σ H vs us Q I r h
 obtain ⟨v,vr,e1,h⟩:=h
 subst e1
 cases r with
 | cons r rr =>
  rw [hs]
  refine assignInOrder_cons (thn (h1 pins s σ H _ _ _ I r h) fun _ s1 ⟨σ1,H1,I1,q1⟩=>?_)
  exact h2 pins s1 σ1 H1 _ _ Q I1 rr q1
def BQ (K:PySem.W.Frag) (n:Nat) (t:TGs):TG:=fun v σ H Q=>∃ a xs,v=.ref a/\SqT K H a xs/\xs.length=n/\t xs σ H Q
theorem rR {es:List Expr} {k:Nat} {t:TGs} {n:Nat} (hc:X.calm=true) (h:PGs X es t)
 (hn:(assignEach es X.env).length=n:=by rfl) (hst:(assignEach es X.env).findIdx? (·.1)=none:=by rfl):PG X (.Tuple es k pos) (BQ X.K n t):=by
 intro pins s σ H v u Q I r hw
 obtain ⟨a,xs,e1,hq,hl,hw⟩:=hw
 subst e1
 cases r
 obtain ⟨its,rv,ht,hz⟩:=I.tuple hq
 refine assign_Tuple_tuple (I.ok.hd hc) ht (by simp [hn,<- hl,rv.length]) hst fun h' hx=>?_
 have I1:Inv X pins σ H { s with heap:=h' }:=I.kept (t':=s.toks) fun b o e=>hx b o (Nat.ne_of_lt (Heap.lt_size e)) e
 exact h pins _ σ H xs _ Q I1 (by simpa using rv) hw
def yB (to ti:TE) (t:AJ):TG:=fun v σ H Q=>to σ H fun o H1=>ti σ H1 fun i H2=>t o i v H2 fun H3=>Q σ H3
theorem oY {o i:Expr} {to ti:TE} {t:AJ} (ho:PE X o to) (hi:PE X i ti) (hs:B7 X t)
 (ha:∀ v,assign (.Subscript o i pos) X.env v=(do
  let ov <- holding [v] (eval o X.env)
  let iv <- holding [v,ov] (eval i X.env)
  standAt pos
  holding [v,ov,iv] (setItem ov iv v)
  release [v,ov,iv] []):=by intro _;rfl):PG X (.Subscript o i pos) (yB to ti t):=by
 intro pins s σ H v u Q I r h
 rw [ha]
 refine wpAny_bind (wpAny_holding (thn (ho pins s σ H _ I h) fun ov s1 ⟨x,H1,I1,r1,q1⟩=>?_))
 refine wpAny_bind (wpAny_holding (thn (hi pins s1 σ H1 _ I1 q1) fun iv s2 ⟨y,H2,I2,r2,q2⟩=>?_))
 refine wpAny_bind (wpAny_standAt (wpAny_bind (wpAny_holding (thn (hs pins s2 σ H2 x y v ov iv u _ I2 r1 r2 r q2) fun _ s3 ⟨H3,I3,q3⟩=>?_))))
 exact wpAny_release ⟨σ,H3,I3,q3⟩
def zz (te:TE) (g:TG):TS:=fun D σ H=>te σ H fun x H1=>g x σ H1 D.nx
theorem rO {tg e:Expr} {te:TE} {g:TG} (he:PE X e te) (hg:PG X tg g) (hs:swapsWithSole [tg] e pos.line X.env=pure false:=by rfl) (hw:swappedStores [tg] e X.env=pure none:=by rfl)
 (h1:(assignEach [tg] X.env).map (·.2)=[assign tg X.env]:=by rfl):PS X (.Assign [tg] e pos) (zz te g):=by
 intro pins s σ H D I h
 refine wpAny_Assign_stores (thn (he pins s σ H _ I h) fun v s1 ⟨x,H1,I1,r1,q1⟩=>?_) hs hw
 rw [h1]
 exact thn (hg pins s1 σ H1 x v _ I1 r1 q1) fun _ s2 q=>q
theorem rM {i:Nat} {x:Str} {e:Expr} {te:TE} {pos':Pos} (hN:X.N.Nodup) (hi:X.N[i]? = some x) (hx:Loc X.env.scope x) (he:PE X e te) (hs:swapsWith e (some (.Name x pos')) pos.line X.env=pure false:=by rfl) (hf:X.fn x=true \/ X.env.scope.names.lookup x=some .local:=by first | exact .inl rfl | exact .inr rfl | assumption) :
 PS X (.Assign [.Name x pos'] e pos) (zz te (tV i)):=by
 intro pins s σ H D I h
 refine wpAny_Assign_Name (thn (he pins s σ H _ I h) fun v s1 ⟨y,H1,I1,r1,q1⟩=>?_) hs
 exact jj I1 hN hi hx r1 (fun s2 I2=>⟨_,H1,I2,q1⟩) hf
def Ce (i j:Nat) (ta:TA):TS:=fun D σ H=>ta σ H fun vs H1=>∃ v w,vs=[v,w]/\D.nx ((σ.set i (some v)).set j (some w)) H1
theorem zS {i j:Nat} {x y:Str} {a b:Expr} {ta:TA} {px py pt:Pos} {kt k2 pt2} (hc:X.calm=true) (hN:X.N.Nodup) (hi:X.N[i]? = some x) (hj:X.N[j]? = some y) (hij:i ≠ j)
 (hx:X.env.scope.names.lookup x=some .local) (hy:X.env.scope.names.lookup y=some .local) (ha:PA X [a,b] ta)
 (hw:swappedStores [.Tuple [.Name x px,.Name y py] kt pt] (.Tuple [a,b] k2 pt2) X.env=pure (some [x,y]))
 (hs:swapsWithSole [.Tuple [.Name x px,.Name y py] kt pt] (.Tuple [a,b] k2 pt2) pos.line X.env=pure false:=by rfl) :
 PS X (.Assign [.Tuple [.Name x px,.Name y py] kt pt] (.Tuple [a,b] k2 pt2) pos) (Ce i j ta):=by
 intro pins s σ H D I h
 rw [exec_Assign_arm]
 refine wpAny_bind (wpAny_standAt ?_)
 rw [hs]
 refine wpAny_bind (wpAny_pure ?_)
 rw [if_neg (by decide)]
 refine wpAny_bind (Tuple_ (thn (ha _ pins s σ H _ I h) fun us s1 ⟨vs,H1,I1,r1,q1⟩=>?_))
 obtain ⟨v,w,e1,q1⟩:=q1
 subst e1
 obtain ⟨u1,u2,rfl,rv,rw'⟩:∃ u1 u2,us=[u1,u2]/\RelV v u1/\RelV w u2:=by
  cases r1 with
  | cons p q =>
   cases q with
   | cons p' q' =>
    cases q'
    exact ⟨_,_,rfl,p,p'⟩
 refine wpAny_newObj_type ?_ (by show 2<=sizeLine;decide)
 have I2:Inv X pins σ H1 { s1 with heap:=s1.heap.push { cls:=.type "tuple",data:=.seq [u1,u2].toArray } }:=I1.kept (t':=s1.toks) fun b o e=>Heap.get?_push_of_some _ e
 rw [hw]
 refine wpAny_bind (wpAny_pure ?_)
 show wpAny (model X.prog X.w) X.A (do rule "assign.swapped-stores";let items <- unpackItems (.ref s1.heap.objs.size) 2 none;assignInOrder [fun v=>bindName X.env y v,fun v=>bindName X.env x v] items.reverse;pure Flow.next) _ _ _
 refine wpAny_bind (wpAny_rule (wpAny_bind (unpackItems_tuple (items:=#[u1,u2]) (I.ok.hd hc) (IsTup.new s1.heap _) fun h' hx'=>?_)))
 have I3:=I2.kept (h':=h') (t':=s1.toks) fun b o e=>hx' b o (Nat.ne_of_lt (Heap.lt_size e)) e
 show wpAny _ _ (assignInOrder [fun v=>bindName X.env y v,fun v=>bindName X.env x v] [u2,u1] >>= fun _=>pure Flow.next) _ _ _
 refine wpAny_bind (assignInOrder_cons (wpAny_bindName (jj I3 hN hj (.inl hy) rw' (fun s2 I4=>?_) (.inr hy))))
 refine assignInOrder_cons (wpAny_bindName (jj I4 hN hi (.inl hx) rv (fun s3 I5=>assignInOrder_nil (wpAny_pure ?_)) (.inr hx)))
 rw [List.set_comm _ _ (Ne.symm hij)] at I5
 exact ⟨_,H1,I5,q1⟩
end
section
variable {X:Cx} {pos:Pos}
def zw (c:TT) (tb:TS):TS:=fun D σ H=>∃ W:Nat->St->Hp->Prop,(∃ m,W m σ H)/\∀ m σ H,W m σ H ->
 c σ H fun b H1=>if b=true then ∃ N:St->Hp->Prop,(∀ σ' H',N σ' H'->∃ m',m' < m/\W m' σ' H')/\tb { D with nx:=N,ct:=N,bk:=D.nx } σ H1 else D.nx σ H1
theorem vS {c:Expr} {body:List Stmt} {tc:TT} {tb:TS} (hp:PassesOwn (model X.prog X.w) X.A X.env X.xe) (hc:PT X c tc) (hb:PSs X body tb):PS X (.While c body [] pos) (zw tc tb):=by
 intro pins s σ H D I h
 obtain ⟨W,⟨m0,w0⟩,turn⟩:=h
 refine wpAny_While (codeAny_whileLoop (fun n s'=>∃ σ' H',Inv X pins σ' H' s'/\W n σ' H') ?_ m0 ⟨σ,H,I,w0⟩)
 rintro n s1 ⟨σ1,H1,I1,w1⟩
 refine wpAny_passesOwn hp (thn (hc pins s1 σ1 H1 _ I1 (turn n σ1 H1 w1)) fun b s2 ⟨H2,I2,q2⟩=>?_)
 cases b with
 | true =>
  obtain ⟨N,hN,q2⟩:=q2
  rw [if_pos rfl]
  refine wpAny_passesOwn hp (thn (hb pins s2 σ1 H2 _ I2 q2) fun f s3 q3=>?_)
  cases f with
  | next =>
   obtain ⟨σ3,H3,I3,n3⟩:=q3
   obtain ⟨m',hm,w3⟩:=hN σ3 H3 n3
   exact ⟨m',hm,σ3,H3,I3,w3⟩
  | cont =>
   obtain ⟨σ3,H3,I3,n3⟩:=q3
   obtain ⟨m',hm,w3⟩:=hN σ3 H3 n3
   exact ⟨m',hm,σ3,H3,I3,w3⟩
  | brk=>exact q3
  | ret v=>exact q3
 | false =>
  rw [if_neg Bool.false_ne_true]
  exact wpAny_execs_nil ⟨σ1,H2,I2,q2⟩
end
structure It where
 go:Nat->Hp->Prop
 yld:Nat->Hp->V->Hp->Prop
 stop:Nat->Hp->Prop
def iO (X:Cx) (pins:List (Addr×Obj)) (H:Hp) (b:Addr):Prop :=
 H b=none/\b ≠ X.env.locals/\b ∉ X.fs/\(b∈X.ex \/ X.s₀.heap.objs.size<=b)/\(∀ x c,X.env.cells.lookup x=some c->c ≠ b)/\∀ p∈X.pn++pins,p.1 ≠ b
theorem Inv.fpOk {X:Cx} {pins:List (Addr×Obj)} {σ:St} {H H':Hp} {s:Shared} {b:Addr} (I:Inv X pins σ H s) (hb:s.heap.objs.size<=b) (hn:H' b=none):iO X pins H' b:=by
 refine ⟨hn,Nat.ne_of_gt (Nat.lt_of_lt_of_le I.lt hb),I.nofs hb,.inr (Nat.le_trans I.sz hb),fun x c e z=>?_,fun p hp z=>?_⟩
 . obtain ⟨v,q⟩:=I.cell x c e
   exact absurd (Nat.lt_of_lt_of_le q.lt (by rw [z];exact hb)) (Nat.lt_irrefl _)
 . exact absurd (Nat.lt_of_lt_of_le (Heap.lt_size (I.pin p hp).1) (by rw [z];exact hb)) (Nat.lt_irrefl _)
structure sD (P:Program) (w:World) (K:PySem.W.Frag) (tg:Expr) (J:It) (fp:List Addr) (it:Addr) (tn:Nat->Heap->Prop):Prop where
 mem:it∈fp
 obj:∀ i h,tn i h->∀ b∈fp,∃ o,h.get? b=some o/\∀ v,o.data ≠ .cell v
 keep:∀ i h h',tn i h->(∀ b∈fp,∀ o,h.get? b=some o->h'.get? b=some o)->tn i h'
 item:∀ (X:Cx),X.prog=P->X.w=w->X.K=K->X.calm=true->∀ (i:Nat) (pins:List (Addr×Obj)) (s:Shared) (σ:St) (H:Hp) (E:Value->Shared->Prop),Inv X pins σ H s->(∀ b∈fp,iO X pins H b)->tn i s.heap->J.go i H ->
  wpAny (model P w) X.A (pyNext (.ref it)) (fun r s1=>∃ u,r=some u /\
   wpAny (model P w) X.A (letOwnedTupleGo tg (.ref it) u) (fun _ s2=>∃ x H',Inv X pins σ H' s2/\RelV x u/\J.yld i H x H'/\tn (i+1) s2.heap/\∀ b∈fp,H' b=none) E s1) E s
 done:∀ (X:Cx),X.prog=P->X.w=w->X.K=K->X.calm=true->∀ (i:Nat) (pins:List (Addr×Obj)) (s:Shared) (σ:St) (H:Hp) (E:Value->Shared->Prop),Inv X pins σ H s->(∀ b∈fp,iO X pins H b)->tn i s.heap->J.stop i H ->
  wpAny (model P w) X.A (pyNext (.ref it)) (fun r s1=>r=none/\Inv X pins σ H s1) E s
 self:∀ (A:Around) (i:Nat) (s:Shared) (Q:Value->Shared->Prop) (E:Value->Shared->Prop),tn i s.heap->Q (.ref it) s->wpAny (model P w) A (pyIter (.ref it)) Q E s
abbrev TI:=St->Hp->(It->Hp->Prop)->Prop
def PIE (X:Cx) (pins:List (Addr×Obj)) (σ:St) (tg:Expr) (R:It->Hp->Prop) (itv:Value) (s2:Shared):Prop :=
 ∃ (it:Addr) (fp:List Addr) (tn:Nat->Heap->Prop) (J:It) (H':Hp),itv=.ref it/\Inv X pins σ H' s2/\sD X.prog X.w X.K tg J fp it tn/\tn 0 s2.heap/\(∀ b∈fp,iO X pins H' b)/\R J H'
def PI (X:Cx) (tg iter:Expr) (wi:TI):Prop :=
 ∀ (pins:List (Addr×Obj)) (s:Shared) (σ:St) (H:Hp) (R:It->Hp->Prop),Inv X pins σ H s->wi σ H R ->
  wpAny (model X.prog X.w) X.A (eval iter X.env) (fun v s1=>wpAny (model X.prog X.w) X.A (pyIter v) (PIE X pins σ tg R) X.xe s1) X.xe s
theorem zn {M:Model} {A:Around} {E:Value->Shared->Prop} {s:Shared} {tg:Expr} {it:Addr} {u:Value} {o:Obj} {n:String} {vs:Array Value} {Q:Unit->Shared->Prop} (ho:s.heap.get? it=some o) (hc:o.cls=.type n) (hd:o.data=.fields vs)
 (hn:["enumerate","zip","dict_itemiterator","dict_reverseitemiterator","odict_iterator","itertools.zip_longest","itertools.pairwise"].contains n=false) (hQ:Q () s):wpAny M A (letOwnedTupleGo tg (.ref it) u) Q E s:=by
 unfold letOwnedTupleGo
 cases tg <;> first
  | exact wpAny_pure hQ
  | (cases u <;> first
   | exact wpAny_pure hQ
   | (refine wpAny_bind (wpAny_load ho ?_)
      rw [hc,hd]
      show wpAny M A (if (["enumerate","zip","dict_itemiterator","dict_reverseitemiterator","odict_iterator","itertools.zip_longest","itertools.pairwise"].contains n && vs[0]? == some (rawInt _))=true then _ else _) Q E s
      rw [if_neg (by intro h;rw [hn,Bool.false_and] at h;cases h)]
      exact wpAny_pure hQ))
def Itl (K:PySem.W.Frag) (a:Addr):It :=
 ⟨fun i H=>∃ xs x,SqL K H a xs/\xs[i]? = some x,fun i H x H'=>H'=H/\∀ xs,SqL K H a xs->xs[i]? = some x,fun i H=>∃ xs,SqL K H a xs/\xs.length<=i⟩
def Itr (lo:Int) (n:Nat):It:=⟨fun i _=>i < n,fun i H x H'=>H'=H/\x=.int (lo+i),fun i _=>n<=i⟩
theorem uq {P:Program} {w:World} {K:PySem.W.Frag} {tg:Expr} (a it:Addr):sD P w K tg (Itl K a) [it] it (fun i h=>h.IsListIter it a i) where
 mem:=by simp
 obj:=fun i h st b hb=>by
  have e:b=it:=by simpa using hb
  subst e
  obtain ⟨o,e,c,d⟩:=st
  exact ⟨o,e,fun v z=>by rw [d] at z;cases z⟩
 keep:=fun i h h' st k=>st.at fun o e=>k it (by simp) o e
 item:=by
  intro X hP hw hK hc i pins s σ H E I hf st hg
  subst hP hw hK
  obtain ⟨xs,x,hq,hx⟩:=hg
  obtain ⟨its,rv,p,hz⟩:=I.list hq
  obtain ⟨u,hu,ru⟩:=rv.get hx
  obtain ⟨f0,f1,f2,f3,f4,f5⟩:=hf it (by simp)
  refine wpAny_pyNext_list_item st p.isList (x:=u) (by simpa using hu) fun h' st' sb=>?_
  have I1:Inv X pins σ H { s with heap:=h' }:=I.turned (t':=s.toks) (fun b o hb e=>(sb.2 b hb).trans e) f0 f1 f3 f4 f5
  obtain ⟨o,e,c,d⟩:=id st'
  exact ⟨u,rfl,zn (s:={ s with heap:=h' }) e c d (by decide) ⟨x,H,I1,ru,⟨rfl,fun ys hy=>by rw [I.list_inj hy hq];exact hx⟩,st',fun b hb=>(hf b hb).1⟩⟩
 done:=by
  intro X hP hw hK hc i pins s σ H E I hf st hg
  subst hP hw hK
  obtain ⟨xs,hq,hx⟩:=hg
  obtain ⟨its,rv,p,hz⟩:=I.list hq
  obtain ⟨f0,f1,f2,f3,f4,f5⟩:=hf it (by simp)
  have hl:=rv.length
  exact wpAny_pyNext_list_end (I.ok.hd hc) st p.isList (by simp;omega) fun h' eb=>⟨rfl,I.turned (t':=s.toks) (fun b o hb e=>eb b o hb e) f0 f1 f3 f4 f5⟩
 self:=fun _ _ _ _ _ st h=>wpAny_pyIter_listiter st h
theorem rF {P:Program} {w:World} {K:PySem.W.Frag} {tg:Expr} (it:Addr) (lo:Int) (n:Nat):sD P w K tg (Itr lo n) [it] it (fun i h=>IsRangeIter h it (lo+(i:Nat)*1) ((n:Int) - (i:Nat)) 1) where
 mem:=by simp
 obj:=fun i h st b hb=>by
  have e:b=it:=by simpa using hb
  subst e
  exact ⟨_,st,fun v z=>by
   have z':Data.fields _=Data.cell v:=z
   cases z'⟩
 keep:=fun i h h' st k=>k it (by simp) _ st
 item:=by
  intro X hP hw hK hc i pins s σ H E I hf st hg
  subst hP hw hK
  obtain ⟨f0,f1,f2,f3,f4,f5⟩:=hf it (by simp)
  have W:=Walks.range (prog:=X.prog) (w:=X.w) (I.ok.hd hc) it lo 1 n
  refine W.item i s _ _ hg st fun v h' tk hv st' kk=>?_
  obtain ⟨t,rfl⟩:=hv
  have I1:Inv X pins σ H { s with heap:=h',toks:=tk }:=I.turned (fun b o hb e=>kk b o (by simpa using hb) e) f0 f1 f3 f4 f5
  refine ⟨_,rfl,zn (s:={ s with heap:=h',toks:=tk }) (n:="range_iterator") st' rfl rfl (by decide) ⟨.int (lo+i),H,I1,⟨t,?_⟩,⟨rfl,rfl⟩,st',fun b hb=>(hf b hb).1⟩⟩
  rw [Int.mul_one]
 done:=by
  intro X hP hw hK hc i pins s σ H E I hf st hg
  subst hP hw hK
  obtain ⟨f0,f1,f2,f3,f4,f5⟩:=hf it (by simp)
  exact wpAny_pyNext_range_end (I.ok.hd hc) st (by have:n<=i:=hg;omega) fun h' eb=>⟨rfl,I.turned (t':=s.toks) (fun b o hb e=>eb b o hb e) f0 f1 f3 f4 f5⟩
 self:=fun _ _ _ _ _ st h=>wpAny_pyIter_rangeiter st h
end L2
namespace L2
open PySem PySem.Spec PyProof.Rows
section
variable {X:Cx} {tg:Expr}
def BO (K:PySem.W.Frag) (tl:TE):TI:=fun σ H R=>tl σ H fun x H1=>∃ a,x=.ref a/\(∃ xs,SqL K H1 a xs)/\R (Itl K a) H1
theorem oW {l:Expr} {tl:TE} (hl:PE X l tl):PI X tg l (BO X.K tl):=by
 intro pins s σ H R I h
 refine thn (hl pins s σ H _ I h) fun v s1 ⟨x,H1,I1,r1,q1⟩=>?_
 obtain ⟨a,e,⟨xs,hq⟩,q⟩:=q1
 subst e
 cases r1
 obtain ⟨its,rv,p,hz⟩:=I1.list hq
 refine wpAny_pyIter_list p.isList ?_
 refine ⟨s1.heap.objs.size,[s1.heap.objs.size],_,_,H1,rfl,I1.kept (t':=s1.toks) fun b o e=>Heap.get?_push_of_some _ e,uq a _,⟨_,Heap.get?_push_size _ rfl,rfl,rfl⟩,fun b hb=>?_,q⟩
 have e:b=s1.heap.objs.size:=by simpa using hb
 subst e
 exact I1.fpOk (Nat.le_refl _) (I1.hok.fresh (Nat.le_refl _))
theorem qq {pins:List (Addr×Obj)} {σ:St} {H:Hp} {s:Shared} {R:It->Hp->Prop} {E:Value->Shared->Prop} {lo hi:Int} {t u v:Tok} {tk:Nat} (I:Inv X pins σ H s) (h1:-(2 ^ 62)<=lo) (h2:lo < 2 ^ 62) (h3:-(2 ^ 62)<=hi) (h4:hi < 2 ^ 62)
 (q:R (Itr lo (hi - lo).toNat) H):wpAny (model X.prog X.w) X.A (pyIter (.ref s.heap.objs.size)) (PIE X pins σ tg R) E { s with heap:=s.heap.push { cls:=.type "range",data:=.fields #[.int lo t,.int hi u,.int 1 v] },toks:=tk }:=by
 refine wpAny_pyIter_range (IsRange.new ..) (small_one h1 h2 h3 h4) ?_
 have I1:Inv X pins σ H { s with heap:=s.heap.push { cls:=.type "range",data:=.fields #[.int lo t,.int hi u,.int 1 v] },toks:=tk }:=I.kept fun b o e=>Heap.get?_push_of_some _ e
 refine ⟨(s.heap.push { cls:=.type "range",data:=.fields #[.int lo t,.int hi u,.int 1 v] }).objs.size,[(s.heap.push { cls:=.type "range",data:=.fields #[.int lo t,.int hi u,.int 1 v] }).objs.size],_,_,H,rfl,
  I1.kept (t':=tk) fun b o e=>Heap.get?_push_of_some _ e,rF _ lo (hi - lo).toNat,?_,fun b hb=>?_,q⟩
 . have e1:lo+((0:Nat):Int)*1=lo:=by simp
   have e2:(((hi - lo).toNat:Nat):Int) - ((0:Nat):Int)=Builtin.Range.rangeSize lo hi 1:=by rw [rangeSize_one];split <;> omega
   show IsRangeIter _ _ (lo+((0:Nat):Int)*1) ((((hi - lo).toNat:Nat):Int) - ((0:Nat):Int)) 1
   rw [e1,e2]
   exact Heap.get?_push_size _ rfl
 . have e:b=(s.heap.push { cls:=.type "range",data:=.fields #[.int lo t,.int hi u,.int 1 v] }).objs.size:=by simpa using hb
   subst e
   exact I1.fpOk (Nat.le_refl _) (I1.hok.fresh (Nat.le_refl _))
def BN (ta:TA):TI:=fun σ H R=>ta σ H fun vs H1=>∃ j:Int,vs=[.int j]/\-(2 ^ 62)<=j/\j < 2 ^ 62/\R (Itr 0 j.toNat) H1
def BM (ta:TA):TI:=fun σ H R=>ta σ H fun vs H1=>∃ i j:Int,vs=[.int i,.int j]/\(-(2 ^ 62)<=i/\i < 2 ^ 62/\-(2 ^ 62)<=j/\j < 2 ^ 62)/\R (Itr i (j - i).toNat) H1
theorem nR {a:Expr} {ta:TA} {p pos:Pos} (hg:Gl X "range") (hm:X.mg "range" = none) (ha:PA X [a] ta) (hs:starEach [a] X.env=[(false,eval a X.env)]:=by rfl):PI X tg (.Call (.Name "range" p) [a] [] pos) (BN ta):=by
 intro pins s σ H R I h
 refine Call_ (mF I hg hm boot_range (PyProof.Rows.callWith_type1 (thn (ha pos pins s σ H _ I h) fun us s1 ⟨vs,H1,I1,r1,q1⟩=>?_) hs rfl))
 obtain ⟨j,e,q1,q2,q⟩:=q1
 subst e
 cases r1 with
 | cons r rr =>
  cases rr
  obtain ⟨t,rfl⟩:=r
  exact call_range_1 (qq I1 (by omega) (by omega) q1 q2 (by simpa using q))
theorem uE {a b:Expr} {ta:TA} {p pos:Pos} (hg:Gl X "range") (hm:X.mg "range" = none) (ha:PA X [a,b] ta) (hs:starEach [a,b] X.env=[(false,eval a X.env),(false,eval b X.env)]:=by rfl) (hs2:starEach [b] X.env=[(false,eval b X.env)]:=by rfl) :
 PI X tg (.Call (.Name "range" p) [a,b] [] pos) (BM ta):=by
 intro pins s σ H R I h
 refine Call_ (mF I hg hm boot_range (PyProof.Rows.callWith_type1 (thn (ha pos pins s σ H _ I h) fun us s1 ⟨vs,H1,I1,r1,q1⟩=>?_) (by rw [hs,hs2]) (by rw [hs2];rfl)))
 obtain ⟨i,j,e,⟨q1,q2,q3,q4⟩,q⟩:=q1
 subst e
 cases r1 with
 | cons r rr =>
  cases rr with
  | cons r' rr =>
   cases rr
   obtain ⟨t,rfl⟩:=r
   obtain ⟨t',rfl⟩:=r'
   exact call_range_2 (qq I1 q1 q2 q3 q4 q)
def Cj (wi:TI) (g:TG) (tb:TS):TS:=fun D σ H=>wi σ H fun J H1=>∃ W:Nat->Nat->St->Hp->Prop,(∃ m,W 0 m σ H1)/\∀ i m σ H,W i m σ H ->
 (J.stop i H/\D.nx σ H) \/ (J.go i H/\∃ N:St->Hp->Prop,(∀ σ' H',N σ' H'->∃ m',m' < m/\W (i+1) m' σ' H')/\∀ x H',J.yld i H x H'->g x σ H' fun σ2 H2=>tb { D with nx:=N,ct:=N,bk:=D.nx } σ2 H2)
def oV (fp:List Addr) (h:Heap):List (Addr×Obj):=fp.filterMap fun b=>(h.get? b).map fun o=>(b,o)
theorem eD {fp:List Addr} {h:Heap} {b:Addr} {o:Obj} (hb:b∈fp) (e:h.get? b=some o):(b,o)∈oV fp h:=List.mem_filterMap.mpr ⟨b,hb,by rw [e];rfl⟩
theorem uO {fp:List Addr} {h:Heap} {p:Addr×Obj} (hp:p∈oV fp h):p.1∈fp/\h.get? p.1=some p.2:=by
 obtain ⟨b,hb,e⟩:=List.mem_filterMap.mp hp
 cases q:h.get? b with
 | none=>rw [q] at e;cases e
 | some o =>
  rw [q] at e
  have e':(b,o)=p:=Option.some.inj e
  subst e'
  exact ⟨hb,q⟩
theorem Inv.pinned {pins:List (Addr×Obj)} {σ:St} {H:Hp} {s:Shared} {fp:List Addr} (I:Inv X pins σ H s) (hf:∀ b∈fp,iO X pins H b) (ho:∀ b∈fp,∃ o,s.heap.get? b=some o/\∀ v,o.data ≠ .cell v):Inv X (pins++oV fp s.heap) σ H s :=
 I.pins_of fun p hp=>(Zn.mp hp).elim (fun z=>I.pin p (List.mem_append_right _ z)) fun z=>by
  obtain ⟨hb,e⟩:=uO z
  obtain ⟨f0,f1,f2,_⟩:=hf p.1 hb
  obtain ⟨o,e',d⟩:=ho p.1 hb
  rw [e] at e';cases e'
  exact ⟨e,f0,f1,f2,d⟩
theorem Inv.unpinned {pins pl:List (Addr×Obj)} {σ:St} {H:Hp} {s:Shared} (I:Inv X (pins++pl) σ H s):Inv X pins σ H s:=I.pins_of fun p hp=>I.pin p (List.mem_append_right _ (List.mem_append_left _ hp))
theorem rN {iter:Expr} {body:List Stmt} {wi:TI} {g:TG} {tb:TS} {pos:Pos} (hp:PassesOwn (model X.prog X.w) X.A X.env X.xe) (hc:X.calm=true) (hi:PI X tg iter wi) (hg:PG X tg g) (hb:PSs X body tb)
 (hs:∀ x,foldedSetIterable iter X.env x=pure x:=by intro _;rfl):PS X (.For tg iter body [] pos) (Cj wi g tb):=by
 intro pins s σ H D I h
 refine wpAny_For (thn (hi pins s σ H _ I h) fun v s1 h1=>thn h1 fun itv s2 h2=>?_) hs
 obtain ⟨it,fp,tn,J,H2,e,I2,T,st2,f2,W,⟨m0,w0⟩,turn⟩:=h2
 subst e
 have stat:∀ {H':Hp},(∀ b∈fp,H' b=none)->∀ b∈fp,iO X pins H' b:=fun hn b hb=>⟨hn b hb,(f2 b hb).2⟩
 refine codeAny_forLoop_any (fun n s'=>∃ i σ' H',Inv X pins σ' H' s'/\tn i s'.heap/\(∀ b∈fp,H' b=none)/\W i n σ' H') ?_ m0 ⟨0,σ,H2,I2,st2,fun b hb=>(f2 b hb).1,w0⟩
 rintro n s3 ⟨i,σ3,H3,I3,st3,fr3,w3⟩
 rcases turn i n σ3 H3 w3 with ⟨stop,qn⟩ | ⟨go,N,hN,step⟩
 . refine wpAny_passesOwn hp (thn (T.done X rfl rfl rfl hc i pins s3 σ3 H3 X.xe I3 (stat fr3) st3 stop) fun r s4 ⟨hr,I4⟩=>?_)
   subst hr
   exact wpAny_execs_nil ⟨σ3,H3,I4,qn⟩
 . refine wpAny_passesOwn hp (thn (T.item X rfl rfl rfl hc i pins s3 σ3 H3 X.xe I3 (stat fr3) st3 go) fun r s4 ⟨u,hr,h4⟩=>?_)
   subst hr
   refine wpAny_passesOwn hp (thn h4 fun _ s5 ⟨x,H5,I5,r5,y5,st5,fr5⟩=>?_)
   have I5':=I5.pinned (stat fr5) (T.obj _ _ st5)
   refine wpAny_passesOwn hp (thn (hg _ s5 σ3 H5 x u _ I5' r5 (step x H5 y5)) fun _ s6 ⟨σ6,H6,I6,q6⟩=>?_)
   refine wpAny_passesOwn hp (thn (hb _ s6 σ6 H6 _ I6 q6) fun f s7 q7=>?_)
   have again:∀ {σ7:St} {H7:Hp},Inv X (pins++oV fp s5.heap) σ7 H7 s7->N σ7 H7->∃ m,m < n/\∃ i σ' H',Inv X pins σ' H' s7/\tn i s7.heap/\(∀ b∈fp,H' b=none)/\W i m σ' H':=fun {σ7 H7} I7 n7=>by
    obtain ⟨m',hm,w7⟩:=hN σ7 H7 n7
    refine ⟨m',hm,i+1,σ7,H7,I7.unpinned,T.keep _ _ _ st5 fun b hb o e=>(I7.pin (b,o) (List.mem_append_right _ (List.mem_append_right _ (eD hb e)))).1,fun b hb=>?_,w7⟩
    obtain ⟨o,e,d⟩:=T.obj _ _ st5 b hb
    exact (I7.pin (b,o) (List.mem_append_right _ (List.mem_append_right _ (eD hb e)))).2.1
   cases f with
   | next=>obtain ⟨σ7,H7,I7,n7⟩:=q7;exact again I7 n7
   | cont=>obtain ⟨σ7,H7,I7,n7⟩:=q7;exact again I7 n7
   | brk=>obtain ⟨σ7,H7,I7,q7⟩:=q7;exact ⟨σ7,H7,I7.unpinned,q7⟩
   | ret v=>obtain ⟨x7,σ7,H7,I7,r7,q7⟩:=q7;exact ⟨x7,σ7,H7,I7.unpinned,r7,q7⟩
end
end L2
namespace L2
open PySem PySem.Spec PyProof.Rows
abbrev R2:=V->V->Hp->VK->Prop
def OpR (X:Cx) (f:Value->Value->Sem Value) (r:R2):Prop :=
 ∀ (pins:List (Addr×Obj)) (s:Shared) (σ:St) (H:Hp) (x y:V) (v u:Value) (Q:VK),Inv X pins σ H s->RelV x v->RelV y u->r x y H Q ->
  wpAny (model X.prog X.w) X.A (f v u) (EP X pins σ Q) X.xe s
def UnR (X:Cx) (f:Value->Sem Value) (r:V->Hp->VK->Prop):Prop :=
 ∀ (pins:List (Addr×Obj)) (s:Shared) (σ:St) (H:Hp) (x:V) (v:Value) (Q:VK),Inv X pins σ H s->RelV x v->r x H Q ->
  wpAny (model X.prog X.w) X.A (f v) (EP X pins σ Q) X.xe s
def iz (X:Cx) (f:Value) (r:List V->Hp->VK->Prop):Prop :=
 ∀ (pins:List (Addr×Obj)) (s:Shared) (σ:St) (H:Hp) (xs:List V) (us:List Value) (Q:VK),Inv X pins σ H s->Vals xs us->r xs H Q ->
  wpAny (model X.prog X.w) X.A (call f us) (EP X pins σ Q) X.xe s
def tOp (r:R2) (ta tb:TE):TE:=fun σ H Q=>ta σ H fun x H1=>tb σ H1 fun y H2=>r x y H2 Q
def tUn (r:V->Hp->VK->Prop) (ta:TE):TE:=fun σ H Q=>ta σ H fun x H1=>r x H1 Q
def rI (C:Int->Int->Prop) (g:Int->Int->V):R2:=fun x y H Q=>∃ i j,x=.int i/\y=.int j/\C i j/\Q (g i j) H
def rI0 (g:Int->Int->V):R2:=fun x y H Q=>∃ i j,x=.int i/\y=.int j/\Q (g i j) H
def rU (g:Int->V):V->Hp->VK->Prop:=fun x H Q=>∃ i,x=.int i/\Q (g i) H
section
variable {X:Cx} {a b c:Expr} {ta tb tc:TE} {pos:Pos}
theorem AF (ha:PE X a ta) (hb:PE X b tb) {pins:List (Addr×Obj)} {s:Shared} {σ:St} {H:Hp} {R:V->V->Hp->Prop} (I:Inv X pins σ H s)
 (h:ta σ H fun x H1=>tb σ H1 fun y H2=>R x y H2) {Q:Value->Shared->Prop} {f:Value->Value->Sem Value}
 (hf:∀ v u s2 x y H2,Inv X pins σ H2 s2->RelV x v->RelV y u->R x y H2->wpAny (model X.prog X.w) X.A (f v u) Q X.xe s2) :
 wpAny (model X.prog X.w) X.A (eval a X.env) (fun v s₁=>wpAny (model X.prog X.w) X.A (eval b X.env) (fun u s₂=>wpAny (model X.prog X.w) X.A (f v u) Q X.xe s₂) X.xe s₁) X.xe s:=by
 refine thn (ha pins s σ H _ I h) fun v s1 ⟨x,H1,I1,r1,q1⟩=>?_
 refine thn (hb pins s1 σ H1 _ I1 q1) fun u s2 ⟨y,H2,I2,r2,q2⟩=>?_
 exact hf v u s2 x y H2 I2 r1 r2 q2
theorem zb {op:Operator} {r:R2} (ho:OpR X (binaryOp op) r) (ha:PE X a ta) (hb:PE X b tb):PE X (.BinOp a op b pos) (tOp r ta tb):=by
 intro pins s σ H Q I h
 exact wpAny_BinOp (AF ha hb I h fun v u s2 x y H2 I2 rx ry q=>ho pins s2 σ H2 x y v u Q I2 rx ry q)
theorem Bx {op:UnaryOp} {r:V->Hp->VK->Prop} (ho:UnR X (unaryOp op) r) (ha:PE X a ta):PE X (.UnaryOp op a pos) (tUn r ta):=by
 intro pins s σ H Q I h
 exact UnaryOp_ (thn (ha pins s σ H _ I h) fun v s1 ⟨x,H1,I1,r1,q1⟩=>ho pins s1 σ H1 x v Q I1 r1 q1)
theorem opI {f:Value->Value->Sem Value} {C:Int->Int->Prop} {g:Int->Int->Int}
 (rule:∀ (i j:Int) (t u:Tok) (s:Shared) (Q:Value->Shared->Prop) (E:Value->Shared->Prop),C i j->Q (.int (g i j) s.toks) { s with toks:=s.toks+1 }->wpAny (model X.prog X.w) X.A (f (.int i t) (.int j u)) Q E s) :
 OpR X f (rI C fun i j=>.int (g i j)):=by
 intro pins s σ H x y v u Q I rx ry h
 obtain ⟨i,j,rfl,rfl,hc,q⟩:=h
 obtain ⟨t,rfl⟩:=rx
 obtain ⟨t',rfl⟩:=ry
 exact rule i j t t' s _ _ hc ⟨.int (g i j),H,I.tok _,⟨_,rfl⟩,q⟩
theorem BB {f:Value->Value->Sem Value} {g:Int->Int->Int}
 (rule:∀ (i j:Int) (t u:Tok) (s:Shared) (Q:Value->Shared->Prop) (E:Value->Shared->Prop),Q (.int (g i j) s.toks) { s with toks:=s.toks+1 }->wpAny (model X.prog X.w) X.A (f (.int i t) (.int j u)) Q E s) :
 OpR X f (rI0 fun i j=>.int (g i j)):=by
 intro pins s σ H x y v u Q I rx ry h
 obtain ⟨i,j,rfl,rfl,q⟩:=h
 obtain ⟨t,rfl⟩:=rx
 obtain ⟨t',rfl⟩:=ry
 exact rule i j t t' s _ _ ⟨.int (g i j),H,I.tok _,⟨_,rfl⟩,q⟩
theorem BC {f:Value->Value->Sem Value} {g:Int->Int->Bool}
 (rule:∀ (i j:Int) (t u:Tok) (s:Shared) (Q:Value->Shared->Prop) (E:Value->Shared->Prop),Q (.bool (g i j)) s->wpAny (model X.prog X.w) X.A (f (.int i t) (.int j u)) Q E s) :
 OpR X f (rI0 fun i j=>.bl (g i j)):=by
 intro pins s σ H x y v u Q I rx ry h
 obtain ⟨i,j,rfl,rfl,q⟩:=h
 obtain ⟨t,rfl⟩:=rx
 obtain ⟨t',rfl⟩:=ry
 exact rule i j t t' s _ _ ⟨.bl (g i j),H,I,rfl,q⟩
def kM (i j:Int):Prop:=0<=j/\j<=1000000/\i.natAbs < 2 ^ 64
def CMul (i j:Int):Prop:=(-(2 ^ 64) < i/\i < 2 ^ 64) \/ (-(2 ^ 64) < j/\j < 2 ^ 64)
theorem CMul.ok {i j:Int} (h:CMul i j):IntMulOk i j:=by
 rcases h with ⟨h1,h2⟩ | ⟨h1,h2⟩
 . exact .of_left (intBits_le_64 h1 h2)
 . exact .of_right (intBits_le_64 h1 h2)
theorem op_add:OpR X (binaryOp .Add) (rI0 fun i j=>.int (i+j)):=BB fun _ _ _ _ _ _ _ q=>add_int q
theorem z8:OpR X (binaryOp .Sub) (rI0 fun i j=>.int (i - j)):=BB fun _ _ _ _ _ _ _ q=>sub_int q
theorem Ac:OpR X (binaryOp .Mod) (rI (fun _ j=>0 < j) fun i j=>.int (i % j)):=opI fun i j _ _ _ _ _ hc q=>by
 have h1:(0:Int) < j:=hc
 exact mod_int' (by omega) (by rw [Int.fmod_eq_emod_of_nonneg i (by omega)];exact q)
theorem z9:OpR X (binaryOp .Pow) (rI kM fun i j=>.int (i ^ j.toNat)):=opI fun _ _ _ _ _ _ _ hc q=>pow_int_small hc.1 hc.2.1 hc.2.2 q
theorem unI {f:Value->Sem Value} {g:Int->Int}
 (rule:∀ (i:Int) (t:Tok) (s:Shared) (Q:Value->Shared->Prop) (E:Value->Shared->Prop),Q (.int (g i) s.toks) { s with toks:=s.toks+1 }->wpAny (model X.prog X.w) X.A (f (.int i t)) Q E s) :
 UnR X f (rU fun i=>.int (g i)):=by
 intro pins s σ H x v Q I rx h
 obtain ⟨i,rfl,q⟩:=h
 obtain ⟨t,rfl⟩:=rx
 exact rule i t s _ _ ⟨.int (g i),H,I.tok _,⟨_,rfl⟩,q⟩
theorem zu:UnR X (unaryOp .USub) (rU fun i=>.int (-i)):=unI fun _ _ _ _ _ q=>neg_int q
end
section
variable {X:Cx} {a b c:Expr} {ta tb tc:TE} {pos:Pos}
theorem wY {pins:List (Addr×Obj)} {σ:St} {H:Hp} {s:Shared} {Q:VK} {k k':Bool} (I:Inv X pins σ H s) (q:Q (.bl k) H) (e:k=k'):EP X pins σ Q (.bool k') s:=by
 subst e
 exact ⟨.bl k,H,I,rfl,q⟩
theorem zg:OpR X (compareOp .Lt) (rI0 fun i j=>.bl (decide (i < j))):=BC fun _ _ _ _ _ _ _ q=>lt_int q
theorem zh:OpR X (compareOp .Gt) (rI0 fun i j=>.bl (decide (j < i))):=BC fun _ _ _ _ _ _ _ q=>gt_int q
theorem Ad:OpR X (compareOp .Is) (fun x y H Q=>y=.non/\Q (.bl (decide (x=.non))) H):=by
 intro pins s σ H x y v u Q I rx ry h
 obtain ⟨rfl,q⟩:=h
 cases ry
 refine is_none_gen (wY I q ?_)
 cases x <;> first
  | (cases rx;rfl)
  | (obtain ⟨t,rfl⟩:=rx;rfl)
theorem ya:OpR X (compareOp .IsNot) (fun x y H Q=>y=.non/\Q (.bl (!decide (x=.non))) H):=by
 intro pins s σ H x y v u Q I rx ry h
 obtain ⟨rfl,q⟩:=h
 cases ry
 refine isnot_none_gen (wY I q ?_)
 cases x <;> first
  | (cases rx;rfl)
  | (obtain ⟨t,rfl⟩:=rx;rfl)
theorem OpR.or {f:Value->Value->Sem Value} {r r':R2} (h:OpR X f r) (h':OpR X f r'):OpR X f (fun x y H Q=>r x y H Q \/ r' x y H Q):=by
 intro pins s σ H x y v u Q I rx ry q
 rcases q with q | q
 . exact h pins s σ H x y v u Q I rx ry q
 . exact h' pins s σ H x y v u Q I rx ry q
theorem eX (b:Expr) {op:CmpOp} (h:op ≠ .In:=by decide) (h2:op ≠ .NotIn:=by decide):behindInMarks op b=false:=by
 have e1:(op == CmpOp.In)=false:=by cases op <;> first | rfl | exact absurd rfl h
 have e2:(op == CmpOp.NotIn)=false:=by cases op <;> first | rfl | exact absurd rfl h2
 cases b <;> simp [behindInMarks,e1,e2]
theorem x5 {op:CmpOp} {r:R2} (ho:OpR X (compareOp op) r) (ha:PE X a ta) (hb:PE X b tb) (hm:behindInMarks op b=false):PE X (.Compare a [op] [b] pos) (tOp r ta tb):=by
 intro pins s σ H Q I h
 exact wpAny_Compare1 (AF ha hb I h fun v u s2 x y H2 I2 rx ry q=>ho pins s2 σ H2 x y v u Q I2 rx ry q) hm
def AV (t:TE):TT:=fun σ H Q=>t σ H fun x H'=>∃ k,x=.bl k/\Q k H'
theorem xP {op:CmpOp} {r:R2} (ho:OpR X (compareOp op) r) (ha:PE X a ta) (hb:PE X b tb) (hm:behindInMarks op b=false):PT X (.Compare a [op] [b] pos) (AV (tOp r ta tb)):=by
 intro pins s σ H Q I h
 refine wpAny_isTrue_Compare1 (thn (ha pins s σ H _ I h) fun v s1 ⟨x,H1,I1,r1,q1⟩=>thn (hb pins s1 σ H1 _ I1 q1) fun u s2 ⟨y,H2,I2,r2,q2⟩ =>
  thn (ho pins s2 σ H2 x y v u _ I2 r1 r2 q2) fun c s3 ⟨z,H3,I3,r3,k,e,q3⟩=>?_) hm
 subst e
 cases r3
 exact wpAny_truthy_bool ⟨H3,I3,q3⟩
theorem pz:(sizeLine:Nat) < 2 ^ 63:=by rw [sizeLine_eq];decide
theorem lx {x:V} {us:List Value} (r:Vals [x] us):∃ u,us=[u]/\RelV x u:=by
 cases r with
 | cons r1 r2=>cases r2;exact ⟨_,rfl,r1⟩
theorem AQ {x y:V} {us:List Value} (r:Vals [x,y] us):∃ u w',us=[u,w']/\RelV x u/\RelV y w':=by
 cases r with
 | cons r1 r2 =>
  cases r2 with
  | cons r3 r4=>cases r4;exact ⟨_,_,rfl,r1,r3⟩
theorem xm:iz X (.builtin "abs") (fun xs H Q=>∃ i,xs=[.int i]/\Q (.int (if i < 0 then -i else i)) H):=by
 intro pins s σ H xs us Q I r h
 obtain ⟨i,rfl,q⟩:=h
 obtain ⟨u,rfl,t,rfl⟩:=lx r
 exact call_abs_int fun u tk=>⟨.int (if i < 0 then -i else i),H,I.tok _,⟨_,rfl⟩,q⟩
theorem ve:iz X (.type "int") (fun xs H Q=>(∃ i,xs=[.int i]/\Q (.int i) H) \/ ∃ k,xs=[.bl k]/\Q (.int (if k then 1 else 0)) H):=by
 intro pins s σ H xs us Q I r h
 rcases h with ⟨i,rfl,q⟩ | ⟨k,rfl,q⟩
 . obtain ⟨u,rfl,t,rfl⟩:=lx r
   exact call_int_int ⟨.int i,H,I,⟨_,rfl⟩,q⟩
 . obtain ⟨u,rfl,r1⟩:=lx r
   cases r1
   exact call_int_bool ⟨.int (if k then 1 else 0),H,I.tok _,⟨_,rfl⟩,q⟩
end
end L2
namespace L2
open PySem PySem.Spec PyProof.Rows
section
variable {prog:Program} {w:World} {A:Around} {E:Value->Shared->Prop} {s:Shared} {K:PySem.W.Frag} {x dx C f:Addr} {mA:Str->Option Value} {name:Str} {v:Value}
end
theorem RelO.some_of {v:V} {o:Option Value} (r:RelO (some v) o):∃ u,o=some u/\RelV v u:=by
 cases o with
 | none=>exact (show False from r).elim
 | some u=>exact ⟨u,rfl,r⟩
section
variable {P:Program} {w:World} {H H':Hp} {h h':Heap} {a C dx:Addr} {fs fs':List (Str×V)}
end
section
variable {X:Cx} {pins:List (Addr×Obj)} {σ:St} {H:Hp} {s:Shared} {a C dx:Addr} {fs:List (Str×V)} {f:Str} {v:V} {A:Around} {E:Value->Shared->Prop}
end
section
variable {X:Cx} {o e value:Expr} {f:Str} {pos pos' tpos:Pos} {ta tv:TE}
end
section
variable {X:Cx} {pins:List (Addr×Obj)} {σ:St} {H:Hp} {s:Shared} {A:Around} {E:Value->Shared->Prop} {Q:Value->Shared->Prop} {c:Value} {b:Bool}
end
end L2
namespace L2
open PySem PySem.Spec PyProof.Rows
structure Room (k:Nat) (A:Around):Prop where
 hd:A.handled=none
 dp:A.depth+3*k+5 < recursionLimit
 un:A.units+16*k+200 < cLine
theorem Room.mono {j k:Nat} {A:Around} (r:Room k A) (h:j<=k):Room j A:=⟨r.hd,by have:=r.dp;omega,by have:=r.un;omega⟩
theorem Room.deeper {k:Nat} {A:Around} (r:Room (k+1) A) (env:Env):Room k (A.deeper env) :=
 ⟨r.hd,by have:=r.dp;show A.depth+1+3*k+5 < _;omega,by have:=r.un;show A.units+3+16*k+200 < _;omega⟩
theorem Room.depth {k:Nat} {A:Around} (r:Room k A):A.depth < recursionLimit:=by have:=r.dp;omega
theorem Room.units {k:Nat} {A:Around} (r:Room k A):A.units+64 < cLine:=by have:=r.un;omega
theorem Room.units0 {k:Nat} {A:Around} (r:Room k A):A.units < cLine:=by have:=r.un;omega
def zx:TA:=fun _ H Q=>Q [] H
def pZ (ta:TE) (tr:TA):TA:=fun σ H Q=>ta σ H fun x H1=>tr σ H1 fun xs H2=>Q (x :: xs) H2
section
variable {X:Cx} {e:Expr} {es:List Expr} {te:TE} {t:TA} {pos:Pos}
theorem gL:PA X [] zx:=fun _ _ _ _ H Q I h=>Calls.spliced_nil ⟨[],H,I,.nil,h⟩
theorem dW (ha:PE X e te) (hr:PA X es t) (hs:starEach (e :: es) X.env=(false,eval e X.env) :: starEach es X.env:=by rfl):PA X (e :: es) (pZ te t):=by
 intro pos pins s σ H Q I h
 rw [hs]
 show wpAny _ _ (spliced ((false,eval e X.env) :: backTo pos (starEach es X.env))) _ _ s
 refine Calls.spliced_cons (thn (ha pins s σ H _ I h) fun u s1 ⟨x,H1,I1,r1,q1⟩=>?_)
 exact thn (hr pos pins s1 σ H1 _ I1 q1) fun us s2 ⟨xs,H2,I2,r2,q2⟩=>⟨x :: xs,H2,I2,.cons r1 r2,q2⟩
def Cb (t:TA):TE:=fun σ H Q=>t σ H fun xs H1=>xs.length<=sizeLine/\∀ p,H1 p=none->Q (.ref p) (upd H1 p (.tup xs))
def Ch (t:TA):TE:=fun σ H Q=>t σ H fun xs H1=>xs.length<=sizeLine/\∀ p,H1 p=none->Q (.ref p) (upd H1 p (.lst xs))
theorem v9 {x1} (h:PA X es t):PE X (.Tuple es x1 pos) (Cb t):=by
 intro pins s σ H Q I hq
 refine wpAny_Tuple_spliced (thn (h pos pins s σ H _ I hq) fun us s1 ⟨xs,H1,I1,r,z,q⟩=>⟨by rw [<- r.length];exact z,?_⟩)
 have hf:H1 s1.heap.objs.size=none:=I1.hok.fresh (Nat.le_refl _)
 refine ⟨.ref s1.heap.objs.size,upd H1 s1.heap.objs.size (.tup xs),I1.laid (t':=s1.toks) (fun b u e=>Heap.get?_push_of_some _ e) (Nat.le_refl _) ?_,rfl,q _ hf⟩
 exact ⟨z,us,r,⟨_,Heap.get?_push_size _ rfl,rfl,_,rfl⟩⟩
theorem wb (h:PA X es t):PE X (.List es pos) (Ch t):=by
 intro pins s σ H Q I hq
 refine wpAny_List_spliced (thn (h pos pins s σ H _ I hq) fun us s1 ⟨xs,H1,I1,r,z,q⟩=>⟨by rw [<- r.length];exact z,?_⟩)
 have hf:H1 s1.heap.objs.size=none:=I1.hok.fresh (Nat.le_refl _)
 refine ⟨.ref s1.heap.objs.size,upd H1 s1.heap.objs.size (.lst xs),I1.laid (t':=s1.toks) (fun b u e=>Heap.get?_push_of_some _ e) (Nat.le_refl _) ?_,rfl,q _ hf⟩
 exact ⟨z,us,0,r,Heap.get?_push_size _ rfl⟩
end
abbrev Sp:=List V->Hp->VK->XK->Prop
abbrev CXT:=List Env->Hp->Shared->XK->Value->Shared->Prop
structure yW (P:Program) (w:World) (K:PySem.W.Frag) (mg:Str->Option Value) (base:Heap) (A:Around) (outer:List Env) (s:Shared) (H:Hp):Prop where
 frames:A.frames=some outer
 mod:Mod K mg base
 bs:∀ b o,base.get? b=some o->s.heap.get? b=some o/\H b=none
 bsz:base.objs.size<=s.heap.objs.size
 funs:s.heap.FunFrames base outer
 frf:∀ b∈frs outer,H b=none
 hok:HOk P w H s.heap
 bare:AllBare s.gens
def CE (outer:List Env) (P:Program) (w:World) (H:Hp) (s:Shared) (Q:VK) (u:Value) (s':Shared):Prop :=
 ∃ v H',s'.os=s.os/\AllBare s'.gens/\Un (frs outer) [] H H' s.heap s'.heap/\HOk P w H' s'.heap/\RelV v u/\Q v H'
def CR (CX:CXT) (outer:List Env) (P:Program) (w:World) (H:Hp) (s:Shared) (Q:VK) (E:XK) (r:Result) (s':Shared):Prop :=
 match r with
 | .ok (.ret u)=>CE outer P w H s Q u s'
 | .ok _=>False
 | .error e=>CX outer H s E e s'
structure FnOk (P:Program) (w:World) (K:PySem.W.Frag) (mg:Str->Option Value) (base:Heap) (CX:CXT) (k:Nat) (f:Addr) (fd:FuncData) (ps:List Str) (sp:Sp):Prop where
 len:∀ vs H Q E,sp vs H Q E->vs.length=ps.length
 run:∀ (A:Around) (outer:List Env) (s:Shared) (H:Hp) (args:Args) (us:List Value) (vs:List V) (Q:VK) (E:XK),Room k A->yW P w K mg base A outer s H->BindsTo s fd args (ps.zip us)->Vals vs us->sp vs H Q E ->
  codeAny (model P w) A (.call (.ref f) args) (CR CX outer P w H s Q E) s
theorem FnOk.imp {P:Program} {w:World} {K:PySem.W.Frag} {mg:Str->Option Value} {base:Heap} {CX:CXT} {k:Nat} {f:Addr} {fd:FuncData} {ps:List Str} {sp sp':Sp} (F:FnOk P w K mg base CX k f fd ps sp)
 (h:∀ vs H Q E,sp' vs H Q E->sp vs H Q E):FnOk P w K mg base CX k f fd ps sp' :=
 ⟨fun vs H Q E q=>F.len vs H Q E (h _ _ _ _ q),fun A outer s H args us vs Q E hr he hb hv hs=>F.run A outer s H args us vs Q E hr he hb hv (h _ _ _ _ hs)⟩
section
variable {X:Cx} {pins:List (Addr×Obj)} {σ:St} {H:Hp} {s s':Shared}
theorem Inv.env0 (I:Inv X pins σ H s):yW X.prog X.w X.K X.mg X.base X.A X.stack s H :=
 ⟨I.ok.frames,I.ok.mod,I.bs,Nat.le_trans I.ok.bsz I.sz,I.stack,I.stkFree,I.hok,I.bare⟩
theorem Inv.after {Q:VK} {u:Value} (I:Inv X pins σ H s) (h:CE X.stack X.prog X.w H s Q u s'):EP X pins σ Q u s':=by
 obtain ⟨v,H',os,bare,un,hok,r,q⟩:=h
 obtain ⟨hh,g,d,t,os'⟩:=s'
 obtain rfl:os'=s.os:=os
 exact ⟨v,H',I.call (h':=hh) (g':=g) (d':=d) (t':=t) (ch:=[]) un hok bare (fun b z=>absurd z (by simp)),r,q⟩
end
def A7 (sp:Sp) (dvs:List V) (E:XK) (t:TA):TE:=fun σ H Q=>t σ H fun vs H1=>sp (vs++dvs) H1 Q E
def Binds (K:PySem.W.Frag) (fd:FuncData) (ps:List Str) (ds:List Value):Prop :=
 ∀ (s:Shared) (us:List Value),K.In s.heap->(us++ds).length=ps.length->BindsTo s fd ⟨us,[]⟩ (ps.zip (us++ds))
theorem Binds.all {K:PySem.W.Frag} {fd:FuncData} {ps:List Str} (h:∀ us:List Value,us.length=ps.length->bindArgs fd ⟨us,[]⟩=pure (ps.zip us)):Binds K fd ps []:=fun s us _ hl=>by
 rw [List.append_nil] at hl ⊢
 exact .of_eq (h us hl)
def sG (CX:CXT) (X:Cx) (E:XK):Prop:=∀ (pins:List (Addr×Obj)) (σ:St) (H:Hp) (s:Shared) (e:Value) (s':Shared),Inv X pins σ H s->CX X.stack H s E e s'->X.xe e s'
section
variable {X:Cx} {CX:CXT} {k:Nat} {f C:Addr} {fd:FuncData} {ps:List Str} {sp:Sp} {dvs:List V} {ds:List Value} {E:XK} {x m:Str} {p pos apos:Pos} {e o:Expr} {es:List Expr} {ta:TE} {t:TA}
theorem zC {pins:List (Addr×Obj)} {σ:St} {H:Hp} {s:Shared} {Q:VK} {us:List Value} {vs:List V} (F:FnOk X.prog X.w X.K X.mg X.base CX k f fd ps sp) (hr:Room k X.A) (hb:Binds X.K fd ps ds) (hd:Vals dvs ds) (hx:sG CX X E)
 (I:Inv X pins σ H s) (r:Vals vs us) (h:sp (vs++dvs) H Q E):wpAny (model X.prog X.w) X.A (call (.ref f) us) (EP X pins σ Q) X.xe s:=by
 have r2:Vals (vs++dvs) (us++ds):=r.append hd
 have hl:(us++ds).length=ps.length:=by rw [<- r2.length];exact F.len _ _ _ _ h
 refine wpAny_call (codeAny_mono (F.run X.A X.stack s H ⟨us,[]⟩ (us++ds) (vs++dvs) Q E hr I.env0 (hb s us I.kIn hl) r2 h) fun r s' hq=>?_)
 cases r with
 | error e=>exact hx pins σ H s e s' I hq
 | ok fl =>
  cases fl with
  | ret u=>exact I.after hq
  | next=>exact False.elim hq
  | brk=>exact False.elim hq
  | cont=>exact False.elim hq
theorem kY (F:FnOk X.prog X.w X.K X.mg X.base CX k f fd ps sp) (hr:Room k X.A) (hg:Gl X x) (hm:X.mg x=some (.ref f)) (hk:PySem.W.keepIn X.K (.ref f)=true) (hb:Binds X.K fd ps ds) (hd:Vals dvs ds) (hx:sG CX X E)
 (ha:PA X (e :: es) t) (hdb:(x == ("__debug__":Str))=false:=by decide) (he:starEach (e :: es) X.env=(false,eval e X.env) :: starEach es X.env:=by rfl) (hpl:(backTo pos (starEach es X.env)).any (·.1)=false:=by rfl) :
 PE X (.Call (.Name x p) (e :: es) [] pos) (A7 sp dvs E t):=by
 intro pins s σ H Q I h
 refine wpAny_Call_Name_kw (yr I hg hm ?_ hdb)
 refine PySem.W.callWith_K (h₀:=X.base) I.ok.mod.kin hk (thn (ha pos pins s σ H _ I h) fun us s1 ⟨vs,H1,I1,r,q⟩=>⟨I1.kIn,?_⟩) he hpl
 exact zC F hr hb hd hx I1 r q
end
section
variable {X:Cx} {CX:CXT} {k:Nat} {f C:Addr} {fd:FuncData} {ps ks:List Str} {sp:Sp} {E:XK} {x m:Str} {p pos apos kpos:Pos} {e o:Expr} {es:List Expr} {kws:List Keyword} {te ta:TE} {t tk:TA} {nm:Option Str}
variable {g:List Value->List Value->List Value} {gV:List V->List V->List V}
end
structure aA (N P:List Str) (sc:Scope):Prop where
 kind:sc.kind=.function
 co:sc.isCoroutine=false
 gen:sc.isGenerator=false
 nd:N.Nodup
 pre:N.take P.length=P
 par:∀ x∈P,sc.names.lookup x=some .local \/ sc.names.lookup x=some .cell
 nofree:∀ y∈sc.names,y.2 ≠ .free
theorem om {kindOf:Str->Option NameKind} {x:Str}:∀ {binds:List (Str×Value)} {m:Str->Option Value},(∀ v,(x,v) ∉ binds)->bindL kindOf binds m x=m x
 | [],_,_=>rfl
 | (n,v) :: r,m,h=>by
  unfold bindL
  rw [om fun w hw=>h w (Zk _ hw)]
  split
  . have:x ≠ n:=by rintro rfl;exact h v Zj
    simp [this]
  . rfl
theorem oo {kindOf:Str->Option NameKind} {x:Str}:∀ {binds:List (Str×Value)} {m:Str->Option Value},(∀ v,(x,v) ∉ binds)->bindC kindOf binds m x=m x
 | [],_,_=>rfl
 | (n,v) :: r,m,h=>by
  unfold bindC
  rw [oo fun w hw=>h w (Zk _ hw)]
  split
  . rfl
  . have:x ≠ n:=by rintro rfl;exact h v Zj
    simp [this]
theorem on {kindOf:Str->Option NameKind} {x:Str} {v:Value}:∀ {P:List Str} {vs:List Value} {i:Nat} {m:Str->Option Value},P.Nodup->P[i]? = some x->vs[i]? = some v->kindOf x=some .local ->
 bindL kindOf (P.zip vs) m x=some v
 | [],_,_,_,_,h,_,_=>by simp at h
 | _ :: _,[],_,_,_,_,h,_=>by simp at h
 | p :: P,w :: vs,0,m,nd,h1,h2,hk=>by
  simp at h1 h2;subst h1;subst h2
  show bindL kindOf ((p,w) :: P.zip vs) m p=_
  unfold bindL
  rw [om fun v hv=>(List.nodup_cons.mp nd).1 (List.of_mem_zip hv).1,if_pos hk]
  simp
 | p :: P,w :: vs,i+1,m,nd,h1,h2,hk=>by
  show bindL kindOf ((p,w) :: P.zip vs) m x=_
  unfold bindL
  exact on (i:=i) (List.nodup_cons.mp nd).2 (by simpa using h1) (by simpa using h2) hk
theorem oq {kindOf:Str->Option NameKind} {x:Str} {v:Value}:∀ {P:List Str} {vs:List Value} {i:Nat} {m:Str->Option Value},P.Nodup->P[i]? = some x->vs[i]? = some v->kindOf x ≠ some .local ->
 bindC kindOf (P.zip vs) m x=some v
 | [],_,_,_,_,h,_,_=>by simp at h
 | _ :: _,[],_,_,_,_,h,_=>by simp at h
 | p :: P,w :: vs,0,m,nd,h1,h2,hk=>by
  simp at h1 h2;subst h1;subst h2
  show bindC kindOf ((p,w) :: P.zip vs) m p=_
  unfold bindC
  rw [oo fun v hv=>(List.nodup_cons.mp nd).1 (List.of_mem_zip hv).1,if_neg hk]
  simp
 | p :: P,w :: vs,i+1,m,nd,h1,h2,hk=>by
  show bindC kindOf ((p,w) :: P.zip vs) m x=_
  unfold bindC
  exact oq (i:=i) (List.nodup_cons.mp nd).2 (by simpa using h1) (by simpa using h2) hk
def start (N:List Str) (vs:List V):St:=vs.map some++List.replicate (N.length - vs.length) none
def kK (CX:CXT) (P:Program) (w:World) (K:PySem.W.Frag) (mg:Str->Option Value) (base:Heap) (N:List Str) (qual:Str) (scope:Scope) (f:Addr) (cd:Value) (A:Around) (outer:List Env) (s:Shared) (H:Hp) (E:XK):Cx where
 prog:=P
 w:=w
 K:=K
 mg:=mg
 base:=base
 A:=A.deeper (envOfC qual scope s.heap.objs.size f cd)
 N:=N
 s₀:=s
 H₀:=H
 env:=envOfC qual scope s.heap.objs.size f cd
 outer:=outer
 stack:=envOfC qual scope s.heap.objs.size f cd :: outer
 ex:=[]
 calm:=true
 fn:=fun _=>true
 pn:=[]
 xe:=fun e s'=>wpAny (model P w) (A.deeper (envOfC qual scope s.heap.objs.size f cd)) (leaving (envOfC qual scope s.heap.objs.size f cd) e) (fun _ s''=>CX outer H s E e s'') (fun e' s''=>CX outer H s E e' s'') s'
theorem rg {sc:Scope} {n:Nat} {x:Str} (h:sc.names.lookup x=some .cell):∃ c,(cellsFrom n sc.names []).lookup x=some c:=by
 have q:=PySem.W.cellsFrom_some sc.names n [] (.inl h)
 exact Option.isSome_iff_exists.mp q
theorem uU {CX:CXT} {P:Program} {w:World} {K:PySem.W.Frag} {mg:Str->Option Value} {base:Heap} {N ps:List Str} {qual:Str} {scope:Scope} {f:Addr} {cd:Value} {A:Around} {outer:List Env} {s s1:Shared} {H:Hp} {E:XK} {us:List Value} {vs:List V}
 (S:aA N ps scope) (hd:A.handled=none) (e0:yW P w K mg base A outer s H) (hl:vs.length=ps.length) (r:Vals vs us)
 (x:InCallC s s.heap.objs.size (bindL (envOfC qual scope s.heap.objs.size f cd).kindOf (ps.zip us) fun _=>none) (cellsFrom (s.heap.objs.size+1) scope.names []) (bindC (envOfC qual scope s.heap.objs.size f cd).kindOf (ps.zip us) fun _=>none) s1) :
 Inv (kK CX P w K mg base N qual scope f cd A outer s H E) [] (start N vs) H s1:=by
 have hpl:ps.length<=N.length:=by have:=congrArg List.length S.pre;rw [List.length_take] at this;omega
 obtain ⟨h1,tk,rfl,hk⟩:=x.done
 have noA:∀ b:Addr,b ∉ (kK CX P w K mg base N qual scope f cd A outer s H E).ex:=fun b z=>absurd (show b∈([]:List Addr) from z) (by simp)
 refine ⟨⟨e0.mod,S.kind,rfl,rfl,Nat.le_refl _,fun y z c h1 h2=>?_,fun y hy=>?_,fun y c _ h=>?_,fun _=>hd,Around.frames_deeper e0.frames,.inr ⟨rfl,rfl⟩,fun b z=>absurd z (noA b),e0.bs,e0.bsz,fun b _ _=>noA b,fun b z=>absurd z (noA b),e0.funs,e0.frf⟩,
  rfl,e0.bare,Un.kept hk,⟨_,x.toInCall.ns,fun i y v h1 h2 h3=>?_⟩,fun y c h=>⟨_,x.cell y c h⟩,e0.hok.fresh (Nat.le_refl _),fun y c h=>?_,fun p hp=>absurd (show p∈([]:List (Addr×Obj)) from hp) (by simp),e0.hok.kept hk,?_⟩
 . exact name_of_addr x.apart (PySem.mem_of_lookup h1) (PySem.mem_of_lookup h2)
 . have hy:scope.names.lookup y=some .cell \/ scope.names.lookup y=some .free:=hy
   rcases hy with hy | hy
   . exact rg hy
   . exact absurd rfl (S.nofree _ (PySem.mem_of_lookup hy))
 . exact Nat.le_of_lt (x.above y c (PySem.mem_of_lookup h))
 . have hi:i < vs.length:=by
    unfold start at h2
    by_cases hi:i < vs.length
    . exact hi
    . rw [List.getElem?_append_right (by simpa using hi)] at h2
      rw [List.getElem?_replicate] at h2
      split at h2 <;> cases h2
   have ha:vs[i]? = some v:=by
    unfold start at h2
    rw [List.getElem?_append_left (by simpa using hi),List.getElem?_map] at h2
    cases e:vs[i]? with
    | none=>rw [e] at h2;cases h2
    | some a=>rw [e] at h2;cases h2;rfl
   obtain ⟨u,hu,rv⟩:=r.get ha
   have hp:ps[i]? = some y:=by
    rw [<- S.pre,List.getElem?_take_of_lt (by omega)];exact h1
   have ndP:ps.Nodup:=by rw [<- S.pre];exact S.nd.sublist (List.take_sublist _ _)
   refine ⟨u,rv,?_⟩
   rcases S.par y (List.mem_of_getElem? hp) with k | k
   . exact .inl ⟨k,on ndP hp hu k⟩
   . obtain ⟨c,e⟩:=rg (n:=s.heap.objs.size+1) k
     refine .inr ⟨.inl k,c,e,?_⟩
     have q:=x.cell y c e
     rw [oq ndP hp hu (by show scope.names.lookup y ≠ _;rw [k];decide)] at q
     exact q
 . exact e0.hok.fresh (Nat.le_of_lt (x.above y c (PySem.mem_of_lookup h)))
 . unfold start
   show _=N.length
   rw [Zh,Zi,List.length_replicate]
   omega
theorem zp {CX:CXT} {P:Program} {w:World} {K:PySem.W.Frag} {mg:Str->Option Value} {base:Heap} {k:Nat} {f:Addr} {name qual:Str} {params:Arguments} {body:List Stmt} {scope:Scope} {dV kV doc pm cdv ct oc:Value} {an od:Option Addr}
 {osl:Array (Option Value)} {N ps:List Str} {sp:Sp} (lk:K.lookup f=some ⟨oc,od,.func (PySem.W.fnOf name qual params body scope dV kV doc pm an cdv ct),osl⟩) (hcd:PySem.W.codeIn K cdv qual=true) (S:aA N ps scope)
 (len:∀ vs H Q E,sp vs H Q E->vs.length=ps.length)
 (hbody:∀ (A:Around) (outer:List Env) (s:Shared) (H:Hp) (vs:List V) (Q:VK) (E:XK),Room k (A.deeper (envOfC qual scope s.heap.objs.size f cdv))->sp vs H Q E ->
  ∃ t,PSs (kK CX P w K mg base N qual scope f cdv A outer s H E) body t/\t { nx:=fun _ H'=>Q .non H',rt:=Q } (start N vs) H) :
 FnOk P w K mg base CX (k+1) f (PySem.W.fnOf name qual params body scope dV kV doc pm an cdv ct) ps sp:=by
 refine ⟨len,fun A outer s H args us vs Q E hr e0 hb r hsp=>?_⟩
 have hl:=len _ _ _ _ hsp
 have KX:K.In s.heap:=e0.mod.kin.keeps fun b o e=>(e0.bs b o e).1
 have lim:s.heap.NoLimit:=e0.mod.nolimit.keeps fun b o e=>(e0.bs b o e).1
 have hkind:∀ y∈ps.zip us,scope.names.lookup y.1=some .local \/ (scope.names.lookup y.1=some .cell/\((cellsFrom (s.heap.objs.size+1) scope.names []).lookup y.1).isSome=true):=fun ⟨n,v⟩ hy=>by
  rcases S.par n (List.of_mem_zip hy).1 with q | q
  . exact .inl q
  . exact .inr ⟨q,PySem.W.cellsFrom_some _ _ _ (.inl q)⟩
 refine codeAny_call_function hr.depth (KX _ _ lk) rfl S.co S.gen rfl (PySem.W.codeRec_of KX hcd) (hb _ _ _ _ ?_)
 refine wpAny_newFunctionEnv_cells S.kind hkind fun env he s1 x=>?_
 subst he
 refine ⟨lim.keeps x.toInCall.keep,codeAny_func ?_⟩
 obtain ⟨t,ht,hq⟩:=hbody A outer s H vs Q E (hr.deeper _) hsp
 have I:Inv (kK CX P w K mg base N qual scope f cdv A outer s H E) [] (start N vs) H s1:=uU S hr.hd e0 hl r x
 refine wpAny_mono (ht [] s1 (start N vs) H _ I hq) (fun fl s' hs=>?_) fun e s' hs=>hs
 have fin:∀ {σ':St} {H':Hp} {v:V} {u:Value},Inv (kK CX P w K mg base N qual scope f cdv A outer s H E) [] σ' H' s'->RelV v u->Q v H'->CE outer P w H s Q u s' :=
  fun {σ' H' v u} J rv q=>⟨v,H',J.os,J.bare,J.base,J.hok,rv,q⟩
 cases fl with
 | ret u =>
  obtain ⟨v,σ',H',J,rv,q⟩:=hs
  exact fin J rv q
 | next =>
  obtain ⟨σ',H',J,q⟩:=hs
  exact fin (v:=V.non) (u:=Value.none) J rfl q
 | brk =>
  obtain ⟨_,_,_,q⟩:=hs
  exact False.elim q
 | cont =>
  obtain ⟨_,_,_,q⟩:=hs
  exact False.elim q
end L2
namespace L2
open PySem PySem.Spec PyProof.Rows
section
variable {X:Cx} {x:Str} {p pos:Pos} {e:Expr} {es:List Expr} {t:TA} {id T:String} {r:List V->Hp->VK->Prop}
def tCB (r:List V->Hp->VK->Prop) (t:TA):TE:=fun σ H Q=>t σ H fun vs H1=>r vs H1 Q
theorem wc (hc:iz X (.builtin id) r) (hg:Gl X x) (hm:X.mg x=none) (hv:bootBuiltins x=some (.builtin id)) (ha:PA X (e :: es) t) (hn:x ≠ "__name__":=by decide) (hdb:(x == ("__debug__":Str))=false:=by decide)
 (he:starEach (e :: es) X.env=(false,eval e X.env) :: starEach es X.env:=by rfl) (hpl:(backTo pos (starEach es X.env)).any (·.1)=false:=by rfl):PE X (.Call (.Name x p) (e :: es) [] pos) (tCB r t):=by
 intro pins s σ H Q I h
 refine wpAny_Call_Name_kw (mF I hg hm hv ?_ hn hdb)
 exact PyProof.Rows.callWith_builtin1 (thn (ha pos pins s σ H _ I h) fun us s1 ⟨vs,H1,I1,r1,q1⟩=>hc pins s1 σ H1 vs us Q I1 r1 q1) he hpl
theorem jX (hc:iz X (.type T) r) (hg:Gl X x) (hm:X.mg x=none) (hv:bootBuiltins x=some (.type T)) (ha:PA X (e :: es) t) (hn:x ≠ "__name__":=by decide) (hdb:(x == ("__debug__":Str))=false:=by decide)
 (he:starEach (e :: es) X.env=(false,eval e X.env) :: starEach es X.env:=by rfl) (hpl:(backTo pos (starEach es X.env)).any (·.1)=false:=by rfl):PE X (.Call (.Name x p) (e :: es) [] pos) (tCB r t):=by
 intro pins s σ H Q I h
 refine wpAny_Call_Name_kw (mF I hg hm hv ?_ hn hdb)
 exact PyProof.Rows.callWith_type1 (thn (ha pos pins s σ H _ I h) fun us s1 ⟨vs,H1,I1,r1,q1⟩=>hc pins s1 σ H1 vs us Q I1 r1 q1) he hpl
end
end L2
namespace HT
open PySem PyProof.Rows
section
open PySem.SeqAt
open PySem.AutoSeq1 (wpAny_loadPart')
open PySem.MeetsSeq PySem.MeetsSeq2 PySem.MeetsSeq3
end
section
variable {prog:Program} {w:World} {A:Around} {E:Value->Shared->Prop} {s:Shared}
def sIx (n d:Nat):Option Int->Nat
 | none=>d
 | some v=>if v < 0 then (v+(n:Int)).toNat else min v.toNat n
end
end HT
namespace L2
open PySem PySem.Spec PyProof.Rows
abbrev TO:=St->Hp->(Option Int->Hp->Prop)->Prop
def PO (X:Cx) (e:Option Expr) (t:TO):Prop :=
 ∀ (pins:List (Addr×Obj)) (s:Shared) (σ:St) (H:Hp) (Q:Option Int->Hp->Prop),Inv X pins σ H s->t σ H Q ->
  wpAny (model X.prog X.w) X.A (evalPart e X.env) (fun u s'=>∃ o H',Inv X pins σ H' s'/\IsPart u o/\Q o H') X.xe s
def xy:TO:=fun _ H Q=>Q none H
def AW (t:TE):TO:=fun σ H Q=>t σ H fun x H1=>∃ i,x=.int i/\Q (some i) H1
section
variable {X:Cx} {e:Expr} {te:TE} {lo hi:Option Expr} {tl th:TO} {pos p2:Pos}
theorem xU:PO X none xy:=by
 intro pins s σ H Q I h
 rw [evalPart_none]
 exact wpAny_pure ⟨none,H,I,.none,h⟩
theorem xT (h:PE X e te):PO X (some e) (AW te):=by
 intro pins s σ H Q I hw
 rw [evalPart_some]
 refine thn (h pins s σ H _ I hw) fun u s1 ⟨x,H1,I1,r1,q1⟩=>?_
 obtain ⟨i,rfl,q⟩:=q1
 obtain ⟨t,rfl⟩:=r1
 exact ⟨some i,H1,I1,.int i t,q⟩
def SlR (X:Cx) (r:V->Option Int->Option Int->Hp->VK->Prop):Prop :=
 ∀ (pins:List (Addr×Obj)) (s:Shared) (σ:St) (H:Hp) (x:V) (v vl vu:Value) (lo hi:Option Int) (sl:Addr) (Q:VK),Inv X pins σ H s->RelV x v->s.heap.IsSliceOf sl vl vu .none->IsPart vl lo->IsPart vu hi->r x lo hi H Q ->
  ∃ T id,typeLookup (.type T) "__getitem__" = pure (some (.builtin id))/\s.TypeIs v T/\wpAny (model X.prog X.w) X.A (getItem v (.ref sl)) (EP X pins σ Q) X.xe s
def tSl (r:V->Option Int->Option Int->Hp->VK->Prop) (te:TE) (tl th:TO):TE:=fun σ H Q=>te σ H fun x H1=>tl σ H1 fun l H2=>th σ H2 fun u H3=>r x l u H3 Q
theorem wa {r:V->Option Int->Option Int->Hp->VK->Prop} (hr:SlR X r) (he:PE X e te) (hl:PO X lo tl) (hu:PO X hi th):PE X (.Subscript e (.Slice lo hi none p2) pos) (tSl r te tl th):=by
 intro pins s σ H Q I h
 refine Subscript_ (thn (he pins s σ H _ I h) fun v s1 ⟨x,H1,I1,r1,q1⟩=>?_)
 refine wpAny_Slice (thn (hl pins s1 σ H1 _ I1 q1) fun vl s2 ⟨l,H2,I2,pl,q2⟩=>thn (hu pins s2 σ H2 _ I2 q2) fun vu s3 ⟨u,H3,I3,pu,q3⟩=>?_)
 rw [evalPart_none]
 refine wpAny_pure ?_
 have I4:Inv X pins σ H3 { s3 with heap:=s3.heap.push { cls:=.type "slice",data:=.fields #[vl,vu,.none] } }:=I3.kept (t':=s3.toks) fun b ob q=>Heap.get?_push_of_some _ q
 obtain ⟨T,id,hT,ht,hg⟩:=hr pins { s3 with heap:=s3.heap.push { cls:=.type "slice",data:=.fields #[vl,vu,.none] } } σ H3 x v vl vu l u s3.heap.objs.size Q I4 r1 (Heap.IsSliceOf.new ..) pl pu q3
 show wpAny (model X.prog X.w) X.A (subscriptTail e (.Slice lo hi none p2) v (.ref s3.heap.objs.size)) (EP X pins σ Q) X.xe { s3 with heap:=s3.heap.push { cls:=.type "slice",data:=.fields #[vl,vu,.none] } }
 exact tail_any (ops:=[.ref s3.heap.objs.size,v]) ht hT hg (by with_unfolding_all rfl)
def u9 (xs:List V) (lo hi:Option Int):List V:=(xs.drop (HT.sIx xs.length 0 lo)).take (HT.sIx xs.length xs.length hi - HT.sIx xs.length 0 lo)
theorem q9 (xs:List V) (lo hi:Option Int):(u9 xs lo hi).length<=xs.length:=by
 unfold u9
 rw [List.length_take,List.length_drop]
 omega
end
end L2
namespace L2
open PySem PySem.Spec PyProof.Rows
def ixN (n:Nat) (i:Int):Option Nat:=if 0<=i then (if i < n then some i.toNat else none) else if -(n:Int)<=i then some (i+n).toNat else none
def atI {α:Type} (xs:List α) (i:Int):Option α:=(ixN xs.length i).bind fun j=>xs[j]?
theorem k6 {n:Nat} {i:Int} {j:Nat} (h:ixN n i=some j):seqIndex? i n=some j/\j < n/\-(n:Int)<=i/\i < n:=by
 unfold ixN at h
 by_cases h0:0<=i
 . rw [if_pos h0] at h
   by_cases h1:i < n
   . rw [if_pos h1] at h
     have e:i.toNat=j:=Option.some.inj h
     exact ⟨by rw [seqIndex_of h0 h1,e],by omega,by omega,h1⟩
   . rw [if_neg h1] at h;cases h
 . rw [if_neg h0] at h
   by_cases h1:-(n:Int)<=i
   . rw [if_pos h1] at h
     have e:(i+n).toNat=j:=Option.some.inj h
     exact ⟨by rw [seqIndex_neg (by omega) h1,e],by omega,h1,by omega⟩
   . rw [if_neg h1] at h;cases h
theorem uh {α:Type} {xs:List α} {i:Int} {v:α} (h:atI xs i=some v):∃ j,seqIndex? i xs.length=some j/\xs[j]? = some v/\j < xs.length/\-(xs.length:Int)<=i/\i < xs.length:=by
 unfold atI at h
 cases e:ixN xs.length i with
 | none=>rw [e] at h;cases h
 | some j =>
  rw [e] at h
  obtain ⟨h1,h2,h3,h4⟩:=k6 e
  exact ⟨j,h1,h,h2,h3,h4⟩
theorem atI_nat {α:Type} {xs:List α} {j:Nat} {v:α} (h:xs[j]? = some v):atI xs (j:Int)=some v:=by
 have hj:j < xs.length:=(List.getElem?_eq_some_iff.mp h).1
 have e:ixN xs.length (j:Int)=some j:=by
  unfold ixN
  rw [if_pos (by omega),if_pos (by omega)];simp
 unfold atI;rw [e];exact h
def ls (b:Expr):Prop:=∀ o i,subscripted b false o i=operate [o,i] (getItem o i)
def IxR (X:Cx) (r:R2):Prop :=
 ∀ (value slice:Expr) (pins:List (Addr×Obj)) (s:Shared) (σ:St) (H:Hp) (x y:V) (v u:Value) (Q:VK),Inv X pins σ H s->RelV x v->RelV y u->r x y H Q ->
  subscripted slice false v u=operate [v,u] (getItem v u)->wpAny (model X.prog X.w) X.A (subscriptTail value slice v u) (EP X pins σ Q) X.xe s
def MtR (X:Cx) (id:String) (r:V->List V->Hp->VK->Prop):Prop :=
 ∀ (pins:List (Addr×Obj)) (s:Shared) (σ:St) (H:Hp) (x:V) (xs:List V) (v:Value) (us:List Value) (Q:VK),Inv X pins σ H s->RelV x v->Vals xs us->r x xs H Q ->
  wpAny (model X.prog X.w) X.A (call (.builtin id) (v :: us)) (EP X pins σ Q) X.xe s
section
variable {X:Cx} {a b:Expr} {ta tb:TE} {pos:Pos}
theorem IxR.or {r r':R2} (h:IxR X r) (h':IxR X r'):IxR X (fun x y H Q=>r x y H Q \/ r' x y H Q):=by
 intro value slice pins s σ H x y v u Q I rx ry q hs
 rcases q with q | q
 . exact h value slice pins s σ H x y v u Q I rx ry q hs
 . exact h' value slice pins s σ H x y v u Q I rx ry q hs
theorem kh {r:R2} (hr:IxR X r) (ha:PE X a ta) (hb:PE X b tb) (hs:ls b):PE X (.Subscript a b pos) (tOp r ta tb):=by
 intro pins s σ H Q I h
 exact Subscript_ (AF ha hb I h fun v u s2 x y H2 I2 rx ry q=>hr a b pins s2 σ H2 x y v u Q I2 rx ry q (hs _ _))
def uA (K:PySem.W.Frag):R2:=fun x y H Q=>∃ p xs i v,x=.ref p/\y=.int i/\SqL K H p xs/\atI xs i=some v/\Q v H
def Bg (K:PySem.W.Frag):R2:=fun x y H Q=>∃ p xs i v,x=.ref p/\y=.int i/\SqT K H p xs/\atI xs i=some v/\Q v H
theorem ix_list:IxR X (uA X.K):=by
 intro value slice pins s σ H x y v u Q I rx ry h hs
 obtain ⟨p,xs,i,z,rfl,rfl,hq,he,q⟩:=h
 cases rx
 obtain ⟨t,rfl⟩:=ry
 obtain ⟨its,r,pl,hz⟩:=I.list hq
 obtain ⟨j,h1,h2,h3,h4,h5⟩:=uh he
 obtain ⟨w,ew,rw'⟩:=r.get h2
 have hl:=r.length
 have hn:=pz
 have fin:EP X pins σ Q w s:=⟨z,H,I,rw',q⟩
 by_cases h0:0<=i
 . have hj:i.toNat=j:=by
    rw [seqIndex_of h0 h5] at h1
    exact Option.some.inj h1
   exact item_listR pl.isList h0 (by omega) (by rw [hj];simpa using ew) fin hs
 . have hj:(i+(its.toArray.size:Int)).toNat=j:=by
    rw [seqIndex_neg (by omega) h4] at h1
    rw [List.size_toArray,<- hl]
    exact Option.some.inj h1
   exact subscriptTail_builtinR (x:=w) pl.isList.typeIs slot_list_getitem.lookup
    (wpAny_getItem_list_neg (Q:=fun r s'=>r=w/\EP X pins σ Q r s') pl.isList (by omega) (by rw [List.size_toArray] <;> omega) (by omega) (by rw [hj];simpa using ew) ⟨rfl,fin⟩) hs
theorem wL:IxR X (Bg X.K):=by
 intro value slice pins s σ H x y v u Q I rx ry h hs
 obtain ⟨p,xs,i,z,rfl,rfl,hq,he,q⟩:=h
 cases rx
 obtain ⟨t,rfl⟩:=ry
 obtain ⟨its,r,pl,hz⟩:=I.tuple hq
 obtain ⟨j,h1,h2,h3,h4,h5⟩:=uh he
 obtain ⟨w,ew,rw'⟩:=r.get h2
 have hl:=r.length
 have hn:=pz
 have fin:EP X pins σ Q w s:=⟨z,H,I,rw',q⟩
 exact subscriptTail_builtinR (x:=w) pl.typeIs slot_tuple_getitem.lookup
  (getItem_tuple (j:=j) (Q:=fun r s'=>r=w/\EP X pins σ Q r s') pl (by omega) (by omega) (by rw [List.size_toArray,<- hl];exact h1) (by simpa using ew) ⟨rfl,fin⟩) hs
theorem rY (its:List Value) (n j:Nat) (u:Value):Obj.mapSeq (·.setIfInBounds j u) { cls:=.type "list",data:=.seq its.toArray n }={ cls:=.type "list",data:=.seq (its.set j u).toArray n }:=by
 simp [Obj.mapSeq]
theorem Inv.lst {pins:List (Addr×Obj)} {σ:St} {H:Hp} {s:Shared} {p:Addr} {xs:List V} (I:Inv X pins σ H s) (h:H p=some (.lst xs)) :
 ∃ (its:List Value) (n:Nat),Vals xs its/\s.heap.get? p=some { cls:=.type "list",data:=.seq its.toArray n }/\xs.length<=sizeLine:=by
 obtain ⟨z,its,n,r,e⟩:=I.hok p _ h
 exact ⟨its,n,r,e,z⟩
theorem Inv.lstUpd {pins:List (Addr×Obj)} {σ:St} {H:Hp} {s:Shared} {p:Addr} {xs ys:List V} {its its':List Value} {n n':Nat} {f:Obj->Obj} (I:Inv X pins σ H s) (h:H p=some (.lst xs))
 (ho:s.heap.get? p=some { cls:=.type "list",data:=.seq its.toArray n }) (hf:f { cls:=.type "list",data:=.seq its.toArray n }={ cls:=.type "list",data:=.seq its'.toArray n' }) (r:Vals ys its') (hz:ys.length<=sizeLine) (t:Nat) :
 Inv X pins σ (upd H p (.lst ys)) { s with heap:=s.heap.update p f,toks:=t }:=by
 have e:(s.heap.update p f).get? p=some { cls:=.type "list",data:=.seq its'.toArray n' }:=by
  rw [Heap.get?_update_self f ho (by rw [hf] <;> rfl),hf]
 refine I.write (x:=p) (e:=p) (by rw [h];trivial) (.inl rfl) (fun b u hb q=>(Heap.get?_update_other _ _ (Ne.symm hb)).trans q) ⟨_,e⟩ ?_
 exact ⟨hz,its',n',r,e⟩
def tf:V->V->V->Hp->(Hp->Prop)->Prop:=fun o i v H Q=>∃ p xs k j,o=.ref p/\i=.int k/\H p=some (.lst xs)/\ixN xs.length k=some j/\Q (upd H p (.lst (xs.set j v)))
theorem jk:B7 X tf:=by
 intro pins s σ H o i v ov iv u Q I ro ri rv h
 obtain ⟨p,xs,k,j,rfl,rfl,hp,hj,q⟩:=h
 cases ro
 obtain ⟨t,rfl⟩:=ri
 obtain ⟨its,n,r,ho,hz⟩:=I.lst hp
 obtain ⟨h1,h2,h3,h4⟩:=k6 hj
 have hl:=r.length
 have hn:=pz
 have I':Inv X pins σ (upd H p (.lst (xs.set j v))) { s with heap:=s.heap.update p (Obj.mapSeq (·.setIfInBounds j u)) } :=
  I.lstUpd hp ho (rY its n j u) (r.set rv j) (by rw [List.length_set];exact hz) s.toks
 by_cases h0:0<=k
 . have hk:k.toNat=j:=by
    rw [seqIndex_of h0 h4] at h1
    exact Option.some.inj h1
   exact PySem.W.ki_setAt ho h0 (by omega) (by rw [List.size_toArray,<- hl];exact h4) (by rw [hk];exact ⟨_,I',q⟩)
 . have hk:(k+(its.toArray.size:Int)).toNat=j:=by
    rw [seqIndex_neg (by omega) h3] at h1
    rw [List.size_toArray,<- hl]
    exact Option.some.inj h1
   exact PySem.W.ki_setBack ho (by omega) (by rw [List.size_toArray,<- hl];exact h3) (by omega) (by rw [hk];exact ⟨_,I',q⟩)
theorem oE (lo hi:Option Int) (n:Nat):(sliceBounds lo hi none n).1=((HT.sIx n 0 lo:Nat):Int)/\(sliceBounds lo hi none n).2.1=((HT.sIx n n hi:Nat):Int)/\(sliceBounds lo hi none n).2.2=1:=by
 refine ⟨?_,?_,rfl⟩
 . cases lo with
   | none=>simp [sliceBounds,HT.sIx]
   | some i =>
    simp only [sliceBounds,HT.sIx,Option.getD_none,show (1:Int) > 0 by decide,if_true]
    by_cases h:i < 0
    . simp only [h,if_true] <;> omega
    . simp only [h,if_false] <;> omega
 . cases hi with
   | none=>simp [sliceBounds,HT.sIx]
   | some i =>
    simp only [sliceBounds,HT.sIx,Option.getD_none,show (1:Int) > 0 by decide,if_true]
    by_cases h:i < 0
    . simp only [h,if_true] <;> omega
    . simp only [h,if_false] <;> omega
theorem m6 (its:List Value) (lo hi:Option Int):slicePick its.toArray lo hi none=((its.drop (HT.sIx its.length 0 lo)).take (HT.sIx its.length its.length hi - HT.sIx its.length 0 lo)).toArray:=by
 obtain ⟨h1,h2,h3⟩:=oE lo hi its.toArray.size
 unfold slicePick
 rw [h1,h2,h3]
 simp only [sliceRange_one,pick_run,List.size_toArray] <;> rfl
def Bc (K:PySem.W.Frag):V->Option Int->Option Int->Hp->VK->Prop:=fun x lo hi H Q=>∃ a xs,x=.ref a/\SqL K H a xs/\∀ p,H p=none->Q (.ref p) (upd H p (.lst (u9 xs lo hi)))
theorem xD:SlR X (Bc X.K):=by
 intro pins s σ H x v vl vu lo hi sl Q I rx hs pl pu h
 obtain ⟨a,xs,rfl,hx,q⟩:=h
 cases rx
 obtain ⟨its,r,ht,hz⟩:=I.list hx
 have hlen:=r.length
 refine ⟨"list",_,slot_list_getitem.lookup,ht.isList.typeIs,?_⟩
 refine wpAny_getItem_list_slice ht.isList hs pl pu .none (by simp) ?_ (by rw [List.size_toArray] <;> omega)
 rw [m6,<- hlen]
 refine ⟨.ref s.heap.objs.size,_,I.laid (t':=s.toks) (o:=.lst (u9 xs lo hi)) (fun b ob q=>Heap.get?_push_of_some _ q) (Nat.le_refl _) ?_,rfl,q _ (I.hok.fresh (Nat.le_refl _))⟩
 exact ⟨Nat.le_trans (q9 xs lo hi) hz,_,0,(r.drop (HT.sIx xs.length 0 lo)).take (HT.sIx xs.length xs.length hi - HT.sIx xs.length 0 lo),Heap.get?_push_size _ rfl⟩
def iW:V->Bool
 | .non=>true
 | .bl _=>true
 | .int _=>true
 | .str _=>true
 | _=>false
def eqV:V->V->Bool
 | .non,.non=>true
 | .bl a,.bl b=>a == b
 | .bl a,.int b=>(if a then 1 else 0) == b
 | .int a,.bl b=>a == (if b then 1 else 0)
 | .int a,.int b=>a == b
 | .str a,.str b=>a == b
 | _,_=>false
theorem so {A:Around} {s:Shared} {y x:V} {u v:Value} (ry:RelV y u) (rx:RelV x v) (fy:iW y=true) (fx:iW x=true):SeqAt.EqAt A s u v (eqV y x):=by
 cases y with
 | non =>
  cases ry
  cases x with
  | non=>cases rx;exact SeqAt.EqAt.same _
  | bl b=>cases rx;exact SeqAt.EqAt.none_bool b
  | int b=>obtain ⟨t,rfl⟩:=rx;exact SeqAt.EqAt.none_int b t
  | str b=>obtain ⟨t,rfl⟩:=rx;exact SeqAt.EqAt.none_str b t
  | _=>exact absurd (show false=true from fx) Bool.false_ne_true
 | bl a =>
  cases ry
  cases x with
  | non=>cases rx;exact SeqAt.EqAt.bool_none a
  | bl b=>cases rx;exact SeqAt.EqAt.bool_bool a b
  | int b=>obtain ⟨t,rfl⟩:=rx;exact SeqAt.EqAt.bool_int a b t
  | str b=>obtain ⟨t,rfl⟩:=rx;exact SeqAt.EqAt.bool_str a b t
  | _=>exact absurd (show false=true from fx) Bool.false_ne_true
 | int a =>
  obtain ⟨t',rfl⟩:=ry
  cases x with
  | non=>cases rx;exact SeqAt.EqAt.int_none a t'
  | bl b=>cases rx;exact SeqAt.EqAt.int_bool a t' b
  | int b=>obtain ⟨t,rfl⟩:=rx;exact SeqAt.EqAt.int_int a t' b t
  | str b=>obtain ⟨t,rfl⟩:=rx;exact SeqAt.EqAt.int_str a t' b t
  | _=>exact absurd (show false=true from fx) Bool.false_ne_true
 | str a =>
  obtain ⟨t',rfl⟩:=ry
  cases x with
  | non=>cases rx;exact SeqAt.EqAt.str_none a t'
  | bl b=>cases rx;exact SeqAt.EqAt.str_bool a t' b
  | int b=>obtain ⟨t,rfl⟩:=rx;exact SeqAt.EqAt.str_int a t' b t
  | str b=>obtain ⟨t,rfl⟩:=rx;exact SeqAt.EqAt.str_str a t' b t
  | _=>exact absurd (show false=true from fx) Bool.false_ne_true
 | _=>exact absurd (show false=true from fy) Bool.false_ne_true
def eqU (x:V) (u:Value):Bool:=match u with
 | .none=>eqV .non x
 | .bool b=>eqV (.bl b) x
 | .int i _=>eqV (.int i) x
 | .str z _=>eqV (.str z) x
 | _=>false
theorem w8 {x y:V} {u:Value} (r:RelV y u) (f:iW y=true):eqU x u=eqV y x:=by
 cases y with
 | non=>cases r;rfl
 | bl b=>cases r;rfl
 | int i=>obtain ⟨t,rfl⟩:=r;rfl
 | str z=>obtain ⟨t,rfl⟩:=r;rfl
 | _=>exact absurd (show false=true from f) Bool.false_ne_true
theorem pS {x:V}:∀ {xs:List V} {us:List Value},Vals xs us->xs.all iW=true->us.any (eqU x)=xs.any fun y=>eqV y x
 | _,_,.nil,_=>rfl
 | y :: xs,u :: us,.cons r t,f=>by
  rw [List.all_cons,Bool.and_eq_true] at f
  rw [List.any_cons,List.any_cons,w8 r f.1,pS t f.2]
theorem l9 {A:Around} {s:Shared} {x:V} {v:Value} (rx:RelV x v) (fx:iW x=true):∀ {xs:List V} {us:List Value},Vals xs us->xs.all iW=true->∀ u∈us,SeqAt.EqAt A s u v (eqU x u)
 | _,_,.nil,_=>fun u hu=>by cases hu
 | y :: xs,u :: us,.cons r t,f=>fun u' hu=>by
  rw [List.all_cons,Bool.and_eq_true] at f
  rcases Zo.mp hu with rfl | hu
  . rw [w8 r f.1];exact so r rx f.1 fx
  . exact l9 rx fx t f.2 u' hu
def inV (x:V) (xs:List V):Bool:=xs.any fun y=>eqV y x
def rIn (K:PySem.W.Frag) (neg:Bool):R2:=fun x y H Q=>∃ p xs,y=.ref p/\(SqL K H p xs \/ SqT K H p xs)/\iW x=true/\xs.all iW=true/\Q (.bl (if neg then !inV x xs else inV x xs)) H
theorem uH:OpR X (compareOp .In) (rIn X.K false):=by
 intro pins s σ H x y v u Q I rx ry h
 obtain ⟨p,xs,rfl,hq,fx,fs,q⟩:=h
 cases ry
 rcases hq with hq | hq
 . obtain ⟨its,r,pl,hz⟩:=I.list hq
   refine SeqAt.in_listAt (eqU x) pl.isList (fun w hw=>l9 rx fx r fs w (by simpa using hw)) ⟨.bl _,H,I,rfl,?_⟩
   rw [show its.toArray.any (eqU x)=its.any (eqU x) by simp,pS r fs]
   exact q
 . obtain ⟨its,r,pl,hz⟩:=I.tuple hq
   refine SeqAt.in_tupleAt (eqU x) pl (fun w hw=>l9 rx fx r fs w (by simpa using hw)) ⟨.bl _,H,I,rfl,?_⟩
   rw [show its.toArray.any (eqU x)=its.any (eqU x) by simp,pS r fs]
   exact q
theorem aP:iz X (.builtin "len") (fun xs H Q=>∃ p ys,xs=[.ref p]/\(SqL X.K H p ys \/ SqT X.K H p ys)/\Q (.int ys.length) H):=by
 intro pins s σ H xs us Q I r h
 obtain ⟨p,ys,rfl,hq,q⟩:=h
 obtain ⟨u,rfl,rx⟩:=lx r
 cases rx
 have hn:=pz
 rcases hq with hq | hq
 . obtain ⟨its,r',pl,hz⟩:=I.list hq
   have hlen:=r'.length
   exact Calls.call_len_list pl.isList (by simp only [List.size_toArray] <;> omega) ⟨.int ys.length,H,I.tok _,⟨s.toks+1,by rw [List.size_toArray,hlen]⟩,q⟩
 . obtain ⟨its,r',pl,hz⟩:=I.tuple hq
   have hlen:=r'.length
   exact len_tuple pl (by simp only [List.size_toArray] <;> omega) ⟨.int ys.length,H,I.tok _,⟨s.toks+1,by rw [List.size_toArray,hlen]⟩,q⟩
theorem pO:iz X (.type "list") (fun xs H Q=>∃ p ys,xs=[.ref p]/\(SqL X.K H p ys \/ SqT X.K H p ys)/\∀ l,H l=none->Q (.ref l) (upd H l (.lst ys))):=by
 intro pins s σ H xs us Q I r h
 obtain ⟨p,ys,rfl,hq,q⟩:=h
 obtain ⟨u,rfl,rx⟩:=lx r
 cases rx
 have fin:∀ (its:List Value),Vals ys its->ys.length<=sizeLine->∀ (h':Heap) (c':Nat),(∀ b o',s.heap.get? b=some o'->h'.get? b=some o') ->
  h'.get? s.heap.objs.size=some { cls:=.type "list",dict:=none,data:=.seq its.toArray c',slots:=#[] }->EP X pins σ Q (.ref s.heap.objs.size) { s with heap:=h' }:=fun its r' hz h' c' kp e =>
  ⟨.ref s.heap.objs.size,_,I.laid (t':=s.toks) kp (Nat.le_refl _) (show ObjOk X.prog X.w _ h' _ (.lst ys) from ⟨hz,its,c',r',e⟩),rfl,q _ (I.hok.fresh (Nat.le_refl _))⟩
 rcases hq with hq | hq
 . obtain ⟨its,r',pl,hz⟩:=I.list hq
   have hlen:=r'.length
   obtain ⟨o,ho,hc,n,hd⟩:=pl.isList
   exact call_list_seq p (.inl rfl) ho hc hd (fun h' c' kp e=>fin its r' hz h' c' kp e) (by simp only [List.size_toArray] <;> omega)
 . obtain ⟨its,r',pl,hz⟩:=I.tuple hq
   have hlen:=r'.length
   obtain ⟨o,ho,hc,n,hd⟩:=pl
   exact call_list_seq p (.inr rfl) ho hc hd (fun h' c' kp e=>fin its r' hz h' c' kp e) (by simp only [List.size_toArray] <;> omega)
def tyV (K:PySem.W.Frag) (T:String) (x:V) (H:Hp):Prop:=match x with
 | .str _=>T = "str"
 | .int _=>T = "int"
 | .ref p=>(T = "list"/\∃ xs,SqL K H p xs) \/ (T = "tuple"/\∃ o,K.lookup p=some o/\o.cls=.type "tuple"/\o.dict=none) \/
  (T = "dict"/\((∃ kvs,H p=some (.dK kvs)) \/ ∃ kvs,H p=some (.dT kvs))) \/ (T = "set"/\∃ S n,H p=some (.set S n))
 | _=>False
theorem zv {pins:List (Addr×Obj)} {σ:St} {H:Hp} {s:Shared} {T:String} {x:V} {v:Value} (I:Inv X pins σ H s) (r:RelV x v) (ty:tyV X.K T x H) :
 s.TypeIs v T/\∀ a,v=.ref a->∃ ob,s.heap.get? a=some ob/\ob.dict=none:=by
 cases x with
 | str z =>
  obtain ⟨t,rfl⟩:=r
  cases (show T = "str" from ty)
  exact ⟨typeIs_str s z t,fun _ e=>nomatch e⟩
 | int i =>
  obtain ⟨t,rfl⟩:=r
  cases (show T = "int" from ty)
  exact ⟨typeIs_int s i t,fun _ e=>nomatch e⟩
 | ref p =>
  cases r
  rcases ty with ⟨rfl,xs,hq⟩ | ⟨rfl,o,hk,hc,hd⟩ | ⟨rfl,hk⟩ | ⟨rfl,S,n,hk⟩
  . obtain ⟨its,_,pl,_⟩:=I.list hq
    refine ⟨pl.isList.typeIs,fun a e=>?_⟩
    cases e
    obtain ⟨o,n,e,c,hd,_⟩:=pl
    exact ⟨o,e,hd⟩
  . refine ⟨⟨o,I.kIn p o hk,hc⟩,fun a e=>?_⟩
    cases e
    exact ⟨o,I.kIn _ o hk,hd⟩
  . have z:∃ o,s.heap.get? p=some o/\o.ExactDict:=by
     rcases hk with ⟨kvs,hk⟩ | ⟨kvs,hk⟩
     . obtain ⟨_,_,_,_,o,_,_,e,ex,_⟩:=I.hok p _ hk
       exact ⟨o,e,ex⟩
     . obtain ⟨_,_,_,_,o,_,_,e,ex,_⟩:=I.hok p _ hk
       exact ⟨o,e,ex⟩
    obtain ⟨o,e,ex⟩:=z
    refine ⟨⟨o,e,ex.1⟩,fun a e2=>?_⟩
    cases e2
    exact ⟨o,e,ex.2.1⟩
  . obtain ⟨o,_,_,_,e,ex,_⟩:=I.hok p _ hk
    refine ⟨⟨o,e,ex.1⟩,fun a e2=>?_⟩
    cases e2
    exact ⟨o,e,ex.2.1⟩
 | _=>exact False.elim ty
def tBM (K:PySem.W.Frag) (T:String) (r:V->List V->Hp->VK->Prop) (to:TE) (t:TA):TE:=fun σ H Q=>to σ H fun x H1=>tyV K T x H1/\t σ H1 fun xs H2=>r x xs H2 Q
variable {o e:Expr} {es:List Expr} {to:TE} {t:TA} {name:Str} {apos cpos:Pos} {T id:String} {r:V->List V->Hp->VK->Prop}
theorem lV (pa:PlainAttrs T) (slot:Slot T name id) (hty:typeOf (.builtin id)=pure (.type "method_descriptor")) (hm:MtR X id r) (ho:PE X o to) (ha:PA X (e :: es) t)
 (hbase:attributeBase o name X.env (eval o X.env)=eval o X.env:=by rfl)
 (hfew:((backTo cpos (starEach (e :: es) X.env)).all (fun x=>!x.1) && (backToKw cpos (keywordEach [] X.env)).all (fun x=>x.1.isSome)
  && decide ((e :: es).length+([]:List Keyword).length+(if ([]:List Keyword).isEmpty then 0 else 1) < 30))=true:=by rfl)
 (hline:(apos.endLine == cpos.line)=true:=by rfl) (hs:starEach (e :: es) X.env=(false,eval e X.env) :: starEach es X.env:=by rfl) (hplain:(backTo cpos (starEach es X.env)).any (·.1)=false:=by rfl) :
 PE X (.Call (.Attribute o name apos) (e :: es) [] cpos) (tBM X.K T r to t):=by
 intro pins s σ H Q I h
 refine wpAny_Call_method_late hbase hfew hline rfl (thn (ho pins s σ H _ I h) fun v s1 ⟨x,H1,I1,r1,ty,q1⟩=>?_)
 obtain ⟨h1,h2⟩:=zv I1 r1 ty
 refine ⟨T,id,pa,slot,hty,h1,h2,?_⟩
 have hA:=ha cpos pins s1 σ H1 _ I1 q1
 rw [hs] at hA ⊢
 refine Calls.callWith_builtin (by show (false || (backTo cpos (starEach es X.env)).any (·.1))=false;rw [hplain] <;> rfl) (Calls.evalArgs_plain ?_)
 exact thn hA fun us s2 ⟨vs,H2,I2,r2,q2⟩=>hm pins s2 σ H2 x vs v us Q I2 r1 r2 q2
end
end L2
namespace L2
open PySem PySem.Spec PyProof.Rows
def MtM (X:Cx) (id:String) (r:V->List V->Hp->VK->Prop):Prop :=
 ∀ (pins:List (Addr×Obj)) (s:Shared) (σ:St) (H:Hp) (x:V) (xs:List V) (v:Value) (us:List Value) (Q:VK),Inv X pins σ H s->RelV x v->Vals xs us->r x xs H Q ->
  wpAny (model X.prog X.w) X.A (call (.builtin id) (v :: us)) (EP X pins σ Q) X.xe s
theorem Vals.one:∀ {x:V} {us:List Value},Vals [x] us->∃ u,us=[u]/\RelV x u
 | _,_,.cons r .nil=>⟨_,rfl,r⟩
section
variable {X:Cx} {pins:List (Addr×Obj)} {σ:St} {H:Hp} {s:Shared} {l b:Addr} {xs ys zs:List V}
theorem Inv.lset {its its':List Value} {n:Nat} {f:Array Value->Array Value} {t':Nat} (I:Inv X pins σ H s) (hH:H l=some (.lst xs))
 (e:s.heap.get? l=some { cls:=.type "list",data:=.seq its.toArray n }) (hf:f its.toArray=its'.toArray) (hv:Vals ys its') (hz:ys.length<=sizeLine) :
 Inv X pins σ (upd H l (.lst ys)) { s with heap:=s.heap.update l (Obj.mapSeq f),toks:=t' }:=by
 have q:=PySem.IsL.update e f
 rw [hf] at q
 refine I.write (x:=l) (e:=l) (by rw [hH];exact trivial) (.inl rfl) (fun b' u hb hu=>(Heap.get?_update_other s.heap (Obj.mapSeq f) (Ne.symm hb)).trans hu) ⟨_,q⟩ ?_
 exact ⟨hz,its',_,hv,q⟩
theorem Inv.lnew {its:List Value} {t':Nat} (I:Inv X pins σ H s) (hv:Vals ys its) (hz:ys.length<=sizeLine) :
 Inv X pins σ (upd H s.heap.objs.size (.lst ys)) { s with heap:=s.heap.push { cls:=.type "list",data:=.seq its.toArray },toks:=t' } :=
 I.laid (fun _ _ q=>Heap.get?_push_of_some _ q) (Nat.le_refl _) ⟨hz,its,0,hv,Heap.get?_push_size _ rfl⟩
theorem Inv.fresh (I:Inv X pins σ H s):H s.heap.objs.size=none:=I.hok.fresh (Nat.le_refl _)
theorem Inv.lstM (I:Inv X pins σ H s) (hH:H l=some (.lst xs)):xs.length<=sizeLine/\∃ (its:List Value) (n:Nat),Vals xs its/\xs.length=its.length/\s.heap.get? l=some { cls:=.type "list",data:=.seq its.toArray n }:=by
 obtain ⟨z,its,n,r,e⟩:=I.hok l _ hH
 exact ⟨z,its,n,r,r.length,e⟩
end
section
variable {X:Cx}
def oN:V->List V->Hp->VK->Prop:=fun x vs H Q=>∃ l xs y,x=.ref l/\vs=[y]/\H l=some (.lst xs)/\xs.length < sizeLine/\Q .non (upd H l (.lst (xs++[y])))
theorem eu:MtM X "list.append" oN:=by
 intro pins s σ H x vs v us Q I rx rv h
 obtain ⟨l,xs,y,rfl,rfl,hH,hz,q⟩:=h
 cases rx
 obtain ⟨u,rfl,ru⟩:=rv.one
 obtain ⟨z,its,n,r,hl,e⟩:=I.lstM hH
 refine call_meets F.slot_list_append ⟨_,e,rfl⟩ F.entry_list_append (F.args_list_append_2 _ _) (PySem.list_append l its.toArray n u (by rw [List.size_toArray];omega)) ⟨e,?_⟩
 refine ⟨.non,_,I.lset (its':=its++[u]) hH e (by simp) (r.append (.cons ru .nil)) ?_,rfl,q⟩
 rw [Zh,List.length_singleton]
 omega
def Bm:R2:=fun x y H Q=>∃ l b xs zs,x=.ref l/\y=.ref b/\H l=some (.lst xs)/\H b=some (.lst zs)/\xs.length+zs.length<=sizeLine/\∀ p,H p=none->Q (.ref p) (upd H p (.lst (xs++zs)))
theorem Ae:OpR X (binaryOp .Add) Bm:=by
 intro pins s σ H x y v u Q I rx ry h
 obtain ⟨l,b,xs,zs,rfl,rfl,hH,hB,hz,q⟩:=h
 cases rx
 cases ry
 obtain ⟨z,its,n,r,hl,e⟩:=I.lstM hH
 obtain ⟨z2,its2,n2,r2,hl2,e2⟩:=I.lstM hB
 refine PySem.P.add_list e e2 ?_ (by rw [List.size_toArray,List.size_toArray];omega)
 have ea:its.toArray++its2.toArray=(its++its2).toArray:=by simp
 rw [ea]
 exact ⟨.ref _,_,I.lnew (t':=s.toks) (r.append r2) (by rw [Zh];omega),rfl,q _ I.fresh⟩
end
section
variable {prog:Program} {w:World} {A:Around} {E:Value->Shared->Prop} {s:Shared}
end
section
variable {X:Cx}
end
end L2
namespace Att
open PySem PySem.W PySem.Calls PyProof.Rows
theorem kH {P:Params} {h:Heap}:∀ (ns:List Int) (vs:List Value),WellAll P h vs (ns.map WData.int)->IntsAre vs ns:=by
 intro ns
 induction ns with
 | nil =>
  intro vs w
  rw [List.map_nil] at w
  cases w
  exact .nil
 | cons n ns ih =>
  intro vs w
  rw [Zp] at w
  cases w with
  | cons a b =>
   cases a
   exact .cons _ _ (ih _ b)
theorem uy {l:OpenLaw} {n:Nat} (hn:l.most=some n) {P:Params} {h:Heap} {args:List WData} {cD:List Value}
 (hpre:l.row.toRowW.claim.pre args=true) (hwl:WellAll P h cD args) :
 ∃ a vs ns,cD=[Value.ref a]/\args=[WData.list (ns.map WData.int)]/\h.get? a=some { cls:=.type "list",data:=.seq vs.toArray }/\IntsAre vs ns/\ns.length<=n:=by
 have hsh:WShape.hasAll [] args [.list .int]=true:=(pre_splitW hpre).1
 have hc:l.pre.holds [] { args:=args }=true:=(pre_splitW hpre).2
 obtain ⟨d,r,rfl,h1,h2⟩:=hasAllW_cons hsh
 obtain rfl:=hasAllW_nil h2
 obtain ⟨xs,rfl,h3⟩:=hasW_list h1
 obtain ⟨ns,rfl⟩:=items_int h3
 have hlen:ns.length<=n:=by
  unfold OpenLaw.pre at hc
  have h4:(WTm.not (.lt (.lit (.int (n:Int))) (.len (.arg 0)))).holds [] { args:=[.list (ns.map .int)] }=true:=by
   have h4:=(holds_andW hc).1
   rw [hn] at h4
   exact h4
  have h5:=condW_of h4 (w_not (w_lt w_lit (w_len_list (w_arg rfl))))
  rw [Zi] at h5
  refine Nat.le_of_not_lt fun q=>?_
  have q':(n:Int) < ((ns.length:Nat):Int):=by omega
  first
   | (rw [decide_eq_true q'] at h5;exact absurd h5 (by decide))
   | (simp at h5;omega)
 cases hwl with
 | cons w1 w2 =>
  cases w2
  cases w1 with
  | list ho hall=>exact ⟨_,_,ns,rfl,rfl,ho,kH ns _ hall,hlen⟩
theorem uD (l:OpenLaw) (args:List WData):l.row.toRowW.claim.post args (.bool true) args=true :=
 postW_of (r:=l.row.toRowW) (X:=(true == true))
  (show WShape.has [] (.bool true) .bool=true by first | rfl | decide | simp [WShape.has,WShape.arms,WShape.armsAll])
  (show (WTm.eq .res (.lit (.bool true))).value [] { args:=args,res:=some (.bool true),after:=args }=some (.bool (true == true)) from w_eq_bool (w_res rfl) w_lit) rfl
theorem attach_call {l:OpenLaw} {n:Nat} {q:Program} {loose:List Str} {XP:(Str->Option Value)->Heap->Prop} {YP:World->Heap->Prop} {d:DefRec}
 (hn:l.most=some n) (hdf:d.params.defaults=[])
 (call:∀ (w:World) (s₀ s₁:Shared) (mg mb:Str->Option Value) (fa:Addr) (o:Obj) (pm cd doc:Value) (a:Addr) (vs:List Value) (ns:List Int),
  Ground q loose [] XP w s₀ mg mb s₁.heap->YP w s₁.heap ->
  s₁.heap.get? fa=some o->o.data=.func (docDef d.name d.params d.body d.scope pm cd doc)->s₁.heap.CodeRec cd d.name->mg d.name=some (.ref fa) ->
  s₁.heap.get? a=some { cls:=.type "list",data:=.seq vs.toArray }->IntsAre vs ns->ns.length<=n->s₁.gens = #[] ->
  codeAny (model l.prog w) callerA (.call (.ref fa) ⟨[.ref a],[]⟩) (fun r s'=>r=.ok (.ret (.bool true))/\OldK s₁.heap s'.heap/\s'.os=s₁.os/\AllBare s'.gens) s₁) :
 WalkO q loose XP YP l.row.toRowW d [] (fun f vs=>PySem.call f vs):=by
 intro w s₀ s₁ mg mb G Y fa o pm cd doc dV kV ho hd hcd hD hmg hg args cD as hpre hlay hrd hwl hlo
 obtain rfl:dV=.none:=Dflts.none hD hdf
 obtain rfl:kV=.none:=Dflts.noKw hD
 obtain ⟨a,vs,ns,rfl,rfl,hobj,hints,hlen⟩:=uy hn hpre hwl
 refine enter_call (codeAny_mono (call w s₀ s₁ mg mb fa o pm cd doc a vs ns G Y ho (fd_plain hd) hcd hmg hobj hints hlen hg) fun r s' hq=>?_)
 obtain ⟨rfl,h2,h3,h4⟩:=hq
 exact ⟨.inl ⟨.bool true,.bool true,[],rfl,fun _=>rfl,.bool true,uD l _,fun _=>⟨List.Pairwise.nil,fun _ hm=>(nomatch hm)⟩⟩,h2,h3,h4⟩
section
variable {prog:Program} {w:World} {A:Around} {E:Value->Shared->Prop} {s:Shared} {K:Frag}
def Co (h:Heap) (L d:Addr):List (Addr×Obj):=(List.range h.objs.size).filterMap fun a=>if a=L \/ a=d then none else (h.get? a).map fun o=>(a,o)
end
end Att
namespace L2
open PySem PySem.Spec PyProof.Rows
theorem iB:∀ {vs:List Value} {ns:List Int},IntsAre vs ns->Vals (ns.map V.int) vs
 | _,_,.nil=>.nil
 | _,_,.cons n t h=>.cons ⟨t,rfl⟩ (iB h)
def AL (H:Hp):Prop:=∀ b,H b=none \/ ∃ o xs,H b=some (.frz o (.lst xs))
theorem wH {P:Program} {w:World} {K:PySem.W.Frag} {mg mb:Str->Option Value} {CX:CXT} {k:Nat} {fa a:Addr} {fd:FuncData} {x:Str} {sp:Sp} {s₁:Shared} {vs:List Value} {ns:List Int}
 (KX:K.In s₁.heap) (hns:s₁.heap.Ns mainGlobals mg) (hb:s₁.heap.Ns builtinsNs mb) (hbb:∀ x:Str,x ≠ "__name__"->mb x=bootBuiltins x) (hlim:s₁.heap.NoLimit) (hg:s₁.gens = #[])
 (ha:s₁.heap.get? a=some { cls:=.type "list",data:=.seq vs.toArray }) (hi:IntsAre vs ns) (hl:ns.length<=sizeLine) (hr:Room k callerA)
 (F:∀ base:Heap,K.In base->base.Ns mainGlobals mg->FnOk P w K mg base CX k fa fd [x] sp) (hbind:∀ (s:Shared) (u:Value),BindsTo s fd ⟨[u],[]⟩ [(x,u)])
 (hsp:∀ H:Hp,AL H->SqL K H a (ns.map V.int)->sp [.ref a] H (fun v _=>v=.bl true) fun _ _ _=>False)
 (hCX:∀ H e s',CX [] H s₁ (fun _ _ _=>False) e s'->False) :
 codeAny (model P w) callerA (.call (.ref fa) ⟨[.ref a],[]⟩) (fun r s'=>r=.ok (.ret (.bool true))/\OldK s₁.heap s'.heap/\s'.os=s₁.os/\AllBare s'.gens) s₁:=by
 have rv:=iB hi
 have lenV:=hi.length
 have core:∀ H:Hp,AL H->SqL K H a (ns.map V.int)->HOk P w H s₁.heap->(∀ b,H b ≠ none->b=a)->(H a ≠ none->K.lookup a=none) ->
  codeAny (model P w) callerA (.call (.ref fa) ⟨[.ref a],[]⟩) (fun r s'=>r=.ok (.ret (.bool true))/\OldK s₁.heap s'.heap/\s'.os=s₁.os/\AllBare s'.gens) s₁:=by
  intro H hO hS hok hA hK
  have base_of:∀ {b:Addr} {o:Obj},s₁.heap.get? b=some o->H b=none->(pE s₁.heap H).get? b=some o:=fun e n=>wP e n
  have noA:∀ {b:Addr} {o:Obj} {es:Array DictEntry} {ep:Nat},s₁.heap.get? b=some o->o.data=.dict es ep->H b=none:=fun {b o es ep} e d=>by
   cases q:H b with
   | none=>rfl
   | some u =>
    have e':b=a:=hA b (by rw [q];simp)
    subst e'
    rw [ha] at e;cases e
    have d':Data.seq vs.toArray _=Data.dict es ep:=d
    cases d'
  have nsK:∀ {b:Addr} {m:Str->Option Value},s₁.heap.Ns b m->(pE s₁.heap H).Ns b m:=fun {b m} ⟨o,es,ep,e,d,r⟩=>⟨o,es,ep,base_of e (noA e d),d,r⟩
  have hKb:K.In (pE s₁.heap H):=fun b o e=>base_of (KX b o e) (by
   cases q:H b with
   | none=>rfl
   | some u =>
    have e':b=a:=hA b (by rw [q];simp)
    subst e'
    rw [hK (by rw [q];simp)] at e;cases e)
  have hM:Mod K mg (pE s₁.heap H):=⟨hKb,nsK hns,⟨mb,nsK hb,hbb⟩,let ⟨mc,h1,h2⟩:=hlim;⟨mc,nsK h1,h2⟩⟩
  have e0:yW P w K mg (pE s₁.heap H) callerA [] s₁ H:=⟨rfl,hM,fun b o e=>yg e,Nat.le_of_eq (uV _ _),trivial,fun b hb=>absurd (show b∈([]:List Addr) from hb) (by simp),hok,.of_eq hg⟩
  refine codeAny_mono ((F _ hKb (nsK hns)).run callerA [] s₁ H ⟨[.ref a],[]⟩ [.ref a] [.ref a] _ _ hr e0 (hbind s₁ (.ref a)) (.cons rfl .nil) (hsp H hO hS)) fun r s' h=>?_
  cases r with
  | error e=>exact (hCX H e s' h).elim
  | ok fl =>
   cases fl with
   | next=>exact False.elim h
   | brk=>exact False.elim h
   | cont=>exact False.elim h
   | ret u =>
    obtain ⟨v,H',os,bare,un,hok',r',q⟩:=h
    have q':v=.bl true:=q
    subst q'
    obtain rfl:u=Value.bool true:=r'
    refine ⟨rfl,OldK.of_keep fun b o e=>?_,os,bare⟩
    cases q:H b with
    | none=>exact un.keep b o e q (by intro z;exact absurd (show b∈([]:List Addr) from z) (by simp)) (by simp)
    | some u =>
     rcases hO b with z | ⟨ob,xs,z⟩
     . rw [q] at z;cases z
     . have z2:=un.frzs b ob _ z
       obtain ⟨e1,_⟩:=hok b _ z
       obtain ⟨e2,_⟩:=hok' b _ z2
       rw [e] at e1;cases e1
       exact e2
 cases hk:K.lookup a with
 | some o =>
  have e:=KX a o hk
  rw [ha] at e
  cases e
  refine core (fun _=>none) (fun _=>.inl rfl) (.inr ⟨_,vs.toArray,_,hk,rfl,rfl,rfl,by rw [List.size_toArray,lenV];exact hl,by simpa using rv⟩) (fun b u z=>by have z':(none:Option HO)=some u:=z;cases z') (fun b z=>absurd rfl z) fun z=>absurd rfl z
 | none =>
  refine core (fun b=>if b=a then some (.frz { cls:=.type "list",data:=.seq vs.toArray } (.lst (ns.map V.int))) else none) (fun b=>?_) (.inl (.inr ⟨{ cls:=.type "list",data:=.seq vs.toArray },if_pos rfl⟩)) (fun b u z=>?_) (fun b z=>?_) fun _=>hk
  . by_cases hb:b=a
    . exact .inr ⟨_,_,if_pos hb⟩
    . exact .inl (if_neg hb)
  . by_cases hb:b=a
    . have z':=(if_pos hb).symm.trans z
      cases z'
      subst hb
      exact ⟨ha,by rw [Zi];exact hl,vs,_,rv,ha⟩
    . have z':=(if_neg hb).symm.trans z
      cases z'
  . by_cases hb:b=a
    . exact hb
    . exact absurd (if_neg hb) z
end L2
namespace L2
open PySem PySem.Spec PyProof.Rows
end L2
namespace L2
open PySem PySem.Spec PyProof.Rows
abbrev CX0:CXT:=fun _ _ _ _ _ _=>False
abbrev E0:XK:=fun _ _ _=>False
theorem tG {X:Cx}:sG CX0 X E0:=fun _ _ _ _ _ _ _ h=>h.elim
structure Fun (K:PySem.W.Frag) (x qual:Str) (st:Stmt) (f:Addr) (fd:FuncData):Prop where
 ex:∃ (oc:Value) (od:Option Addr) (kV doc pm:Value) (an:Option Addr) (cdv ct:Value) (osl:Array (Option Value)),
  fd=PySem.W.fnOf x qual (cC st) (bw st) (aj st) .none kV doc pm an cdv ct/\K.lookup f=some ⟨oc,od,.func fd,osl⟩/\PySem.W.codeIn K cdv qual=true
 kp:PySem.W.keepIn K (.ref f)=true
section
variable {P:Program} {w:World} {K:PySem.W.Frag} {mg:Str->Option Value} {base:Heap}
theorem Fun.ok {x qual:Str} {st:Stmt} {f:Addr} {fd:FuncData} {N ps:List Str} {k:Nat} {sp:Sp} (F:Fun K x qual st f fd) (S:aA N ps (aj st)) (len:∀ vs H Q E,sp vs H Q E->vs.length=ps.length)
 (hbody:∀ (cdv:Value) (A:Around) (outer:List Env) (s:Shared) (H:Hp) (vs:List V) (Q:VK) (E:XK),Room k (A.deeper (envOfC qual (aj st) s.heap.objs.size f cdv))->sp vs H Q E ->
  ∃ t,PSs (kK CX0 P w K mg base N qual (aj st) f cdv A outer s H E).nox (bw st) t/\t { nx:=fun _ H'=>Q .non H',rt:=Q } (start N vs) H):FnOk P w K mg base CX0 (k+1) f fd ps sp:=by
 obtain ⟨oc,od,kV,doc,pm,an,cdv,ct,osl,rfl,lk,hcd⟩:=F.ex
 refine zp lk hcd S len fun A outer s H vs Q E hr hsp=>?_
 obtain ⟨t,h,q⟩:=hbody cdv A outer s H vs Q E hr hsp
 exact ⟨t,h.nox,q⟩
theorem Fun.binds {x qual:Str} {st:Stmt} {f:Addr} {fd:FuncData} {ps:List Str} (F:Fun K x qual st f fd)
 (h:∀ (kV doc pm:Value) (an:Option Addr) (cdv ct:Value) (us:List Value),us.length=ps.length->bindArgs (PySem.W.fnOf x qual (cC st) (bw st) (aj st) .none kV doc pm an cdv ct) ⟨us,[]⟩=pure (ps.zip us)):Binds K fd ps []:=by
 obtain ⟨oc,od,kV,doc,pm,an,cdv,ct,osl,rfl,lk,hcd⟩:=F.ex
 exact .all (h kV doc pm an cdv ct)
theorem wT {x qual:Str} {st:Stmt} {f:Addr} {oc:Value} {od an:Option Addr} {osl:Array (Option Value)} {kV doc pm cdv ct:Value} (l:K.lookup f=some ⟨oc,od,.func (PySem.W.fnOf x qual (cC st) (bw st) (aj st) .none kV doc pm an cdv ct),osl⟩)
 (c:PySem.W.codeIn K cdv qual=true) (k:PySem.W.keepIn K (.ref f)=true):Fun K x qual st f (PySem.W.fnOf x qual (cC st) (bw st) (aj st) .none kV doc pm an cdv ct):=⟨⟨oc,od,kV,doc,pm,an,cdv,ct,osl,rfl,l,c⟩,k⟩
end
theorem n6 {A:Around} {k:Nat} (hr:Room k A):A.units+1 < cLine:=Nat.lt_of_le_of_lt (Nat.add_le_add_left (by decide:1<=64) _) hr.units
theorem iC {n:Nat} (h:n<=1000):n < sizeLine:=Nat.lt_of_le_of_lt h (by decide)
section
variable {X:Cx}
end
def Same (H H':Hp):Prop:=∀ b o,H b=some o->H' b=some o
theorem Same.refl (H:Hp):Same H H:=fun _ _ h=>h
theorem Same.trans {H H1 H2:Hp} (a:Same H H1) (b:Same H1 H2):Same H H2:=fun c o h=>b c o (a c o h)
theorem Same.seq {K:PySem.W.Frag} {H H':Hp} {a:Addr} {xs:List V} (e:Same H H') (h:SqL K H a xs):SqL K H' a xs:=by
 rcases h with (h | ⟨o,h⟩) | h
 . exact .inl (.inl (e _ _ h))
 . exact .inl (.inr ⟨o,e _ _ h⟩)
 . exact .inr h
end L2
namespace L2
open PySem PySem.Spec PyProof.Rows
end L2
namespace L2
open PySem PySem.Spec PyProof.Rows
section
variable (P:Program) (w:World)
end
section
variable {P:Program} {w:World} {H H':Hp} {h h':Heap} {a:Addr} {o:HO}
end
section
variable {P:Program} {w:World} {H:Hp} {h h':Heap} {x e:Addr} {o':HO}
end
section
variable {fs fs' ex ex':List Addr} {H H1 H2:Hp} {h h1 h2 h':Heap} {a x e:Addr} {o:HO}
end
end L2
namespace L2
open PySem PySem.Spec PyProof.Rows
section
variable {X:Cx} {pins:List (Addr×Obj)} {σ:List (Option V)} {H H':Hp} {s:Shared} {h':Heap}
end
end L2
namespace L2
open PySem PySem.Spec PyProof.Rows
section
variable {X:Cx}
variable {a b:Expr} {ta tb:TE} {pos:Pos}
variable {tA tB':TT} {rest:List Expr}
end
end L2
namespace L2
open PySem PySem.Spec PyProof.Rows
section
variable {X:Cx} {pins:List (Addr×Obj)} {σ:St} {H:Hp} {s:Shared} {a:Addr} {xs ys:List V}
end
section
variable {X:Cx} {pins:List (Addr×Obj)} {σ:St} {H:Hp} {s:Shared} {E:Value->Shared->Prop}
end
section
variable {X:Cx} {st:Stmt} {rest:List Stmt} {t u:TS} {e:Expr} {te:TE} {pos:Pos}
end
section
variable {X:Cx} {pos:Pos}
end
section
variable {X:Cx} {pos:Pos}
end
end L2
namespace L2
open PySem PySem.Spec PyProof.Rows
section
variable {X:Cx} {tg:Expr}
end
end L2
namespace L2
open PySem PySem.Spec PyProof.Rows
section
variable {X:Cx} {a b c:Expr} {ta tb tc:TE} {pos:Pos}
end
section
variable {X:Cx} {a b c:Expr} {ta tb tc:TE} {pos:Pos}
end
end L2
namespace L2
open PySem PySem.Spec PyProof.Rows
section
variable {prog:Program} {w:World} {A:Around} {E:Value->Shared->Prop} {s:Shared} {K:PySem.W.Frag} {x dx C f:Addr} {mA:Str->Option Value} {name:Str} {v:Value}
end
section
variable {P:Program} {w:World} {H H':Hp} {h h':Heap} {a C dx:Addr} {fs fs':List (Str×V)}
end
section
variable {X:Cx} {pins:List (Addr×Obj)} {σ:St} {H:Hp} {s:Shared} {a C dx:Addr} {fs:List (Str×V)} {f:Str} {v:V} {A:Around} {E:Value->Shared->Prop}
end
section
variable {X:Cx} {o e value:Expr} {f:Str} {pos pos' tpos:Pos} {ta tv:TE}
end
section
variable {X:Cx} {pins:List (Addr×Obj)} {σ:St} {H:Hp} {s:Shared} {A:Around} {E:Value->Shared->Prop} {Q:Value->Shared->Prop} {c:Value} {b:Bool}
end
end L2
namespace L2
open PySem PySem.Spec PyProof.Rows
section
variable {X:Cx} {e:Expr} {es:List Expr} {te:TE} {t:TA} {pos:Pos}
end
section
variable {X:Cx} {pins:List (Addr×Obj)} {σ:St} {H:Hp} {s s':Shared}
end
section
variable {X:Cx} {CX:CXT} {k:Nat} {f C:Addr} {fd:FuncData} {ps:List Str} {sp:Sp} {dvs:List V} {ds:List Value} {E:XK} {x m:Str} {p pos apos:Pos} {e o:Expr} {es:List Expr} {ta:TE} {t:TA}
end
section
variable {X:Cx} {CX:CXT} {k:Nat} {f C:Addr} {fd:FuncData} {ps ks:List Str} {sp:Sp} {E:XK} {x m:Str} {p pos apos kpos:Pos} {e o:Expr} {es:List Expr} {kws:List Keyword} {te ta:TE} {t tk:TA} {nm:Option Str}
variable {g:List Value->List Value->List Value} {gV:List V->List V->List V}
end
end L2
namespace L2
open PySem PySem.Spec PyProof.Rows
section
variable {X:Cx} {x:Str} {p pos:Pos} {e:Expr} {es:List Expr} {t:TA} {id T:String} {r:List V->Hp->VK->Prop}
end
end L2
namespace L2
open PySem PySem.Spec PyProof.Rows
section
variable {κ:Type} [DecidableEq κ]
def ji (kvs:List (κ×V)) (k:κ):Option V:=(kvs.find? fun kv=>decide (kv.1=k)).map (·.2)
def ic (kvs:List (κ×V)) (k:κ) (v:V):List (κ×V) :=
 if (kvs.any fun kv=>decide (kv.1=k))=true then kvs.map (fun kv=>if kv.1=k then (kv.1,v) else kv) else kvs++[(k,v)]
theorem jg {p:κ×V} {r:List (κ×V)} {k:κ} (e:p.1=k):ji (p :: r) k=some p.2:=by simp [ji,List.find?_cons,e]
theorem jh {p:κ×V} {r:List (κ×V)} {k:κ} (e:¬ p.1=k):ji (p :: r) k=ji r k:=by simp [ji,List.find?_cons,e]
theorem pV (k:κ):∀ kvs:List (κ×V),(kvs.any fun kv=>decide (kv.1=k))=(ji kvs k).isSome
 | []=>rfl
 | p :: r=>by
  rw [List.any_cons]
  by_cases e:p.1=k
  . simp only [jg e,decide_eq_true e,Bool.true_or,Option.isSome_some]
  . rw [jh e,decide_eq_false e,Bool.false_or];exact pV k r
theorem ij (kvs:List (κ×V)) (k:κ) (v:V):(ic kvs k v).length<=kvs.length+1:=by
 unfold ic
 split
 . rw [Zi];omega
 . rw [Zh,List.length_cons,List.length_nil];omega
theorem RelO.isSome_eq {o:Option V} {u:Option Value} (r:RelO o u):o.isSome=u.isSome:=by
 cases o with
 | none=>cases u with
  | none=>rfl
  | some _=>exact (show False from r).elim
 | some _=>cases u with
  | none=>exact (show False from r).elim
  | some _=>rfl
theorem KV.val {kvs:List (κ×V)} {vs:List (κ×Value)} (r:KV kvs vs) (k:κ):RelO (ji kvs k) (valueAt vs k):=by
 unfold KV at r
 induction r with
 | nil=>exact True.intro
 | @cons p q ps qs h t ih =>
  obtain ⟨h1,h2⟩:=h
  by_cases e:p.1=k
  . have e':q.1=k:=h1.symm.trans e
    have b:valueAt (q :: qs) k=some q.2:=by simp [valueAt,List.find?_cons,e']
    rw [jg e,b];exact h2
  . have e':¬ q.1=k:=fun z=>e (h1.trans z)
    have b:valueAt (q :: qs) k=valueAt qs k:=by simp [valueAt,List.find?_cons,e']
    rw [jh e,b];exact ih
theorem KV.any {kvs:List (κ×V)} {vs:List (κ×Value)} (r:KV kvs vs) (k:κ):(kvs.any fun kv=>decide (kv.1=k))=vs.any fun kv=>decide (kv.1=k):=by
 unfold KV at r
 induction r with
 | nil=>rfl
 | cons h t ih=>rw [List.any_cons,List.any_cons,ih,h.1]
theorem KV.repl {kvs:List (κ×V)} {vs:List (κ×Value)} (r:KV kvs vs) (k:κ) {y:V} {u:Value} (ry:RelV y u) :
 KV (kvs.map fun kv=>if kv.1=k then (kv.1,y) else kv) (vs.map fun kv=>if kv.1=k then (kv.1,u) else kv):=by
 unfold KV at r ⊢
 induction r with
 | nil=>exact .nil
 | @cons p q ps qs h t ih =>
  rw [Zp,Zp]
  refine .cons ?_ ih
  obtain ⟨h1,h2⟩:=h
  by_cases e:p.1=k
  . rw [if_pos e,if_pos (h1.symm.trans e)];exact ⟨h1,ry⟩
  . rw [if_neg e,if_neg (fun z=>e (h1.trans z))];exact ⟨h1,h2⟩
theorem KV.put {kvs:List (κ×V)} {vs:List (κ×Value)} (r:KV kvs vs) (k:κ) {y:V} {u:Value} (ry:RelV y u):KV (ic kvs k y) (stored vs k u):=by
 unfold ic stored
 rw [r.any k]
 by_cases e:(vs.any fun kv=>decide (kv.1=k))=true
 . rw [if_pos e,if_pos e];exact r.repl k ry
 . rw [if_neg e,if_neg e];exact Paired.snoc r ⟨rfl,ry⟩
theorem KV.keys {kvs:List (κ×V)} {vs:List (κ×Value)} (r:KV kvs vs):kvs.map (·.1)=vs.map (·.1):=by
 unfold KV at r
 induction r with
 | nil=>rfl
 | cons h t ih=>rw [Zp,Zp,ih,h.1]
theorem KV.length {kvs:List (κ×V)} {vs:List (κ×Value)} (r:KV kvs vs):kvs.length=vs.length:=Paired.length r
end
theorem qH {P:Program} {w:World} {k:Key} {u:Value} (r:RelV (kV k) u):(bF P w).is k u=true:=by
 cases k with
 | inl i=>obtain ⟨t,e⟩:=(show ∃ t,u=Value.int i t from r);subst e;exact qE P w i t
 | inr x=>obtain ⟨t,e⟩:=(show ∃ t,u=Value.str x t from r);subst e;exact qD P w x t
theorem nV {P:Program} {w:World}:∀ {ks:List Key} {us:List Value},Vals (ks.map kV) us->ItemsAre (bF P w) ks us
 | [],_,r=>by rw [List.map_nil] at r;cases r;exact .nil
 | k :: ks,_,r=>by
  rw [Zp] at r
  cases r with
  | cons h t=>exact .cons (qH h) (nV t)
abbrev KT (H:Hp):List (List Key×V)->List (List Key×Addr×Value)->Prop:=Paired fun p q=>p.1=q.1/\H q.2.1=some (.tup (p.1.map kV))/\RelV p.2 q.2.2
theorem KT.val {H:Hp} {kvs:List (List Key×V)} {xs:List (List Key×Addr×Value)} (r:KT H kvs xs) (k:List Key):RelO (ji kvs k) ((atKey xs k).map (·.2)):=by
 induction r with
 | nil=>exact True.intro
 | @cons p q ps qs h t ih =>
  obtain ⟨h1,_,h2⟩:=h
  by_cases e:p.1=k
  . have e':q.1=k:=h1.symm.trans e
    have b:atKey (q :: qs) k=some q.2:=by simp [atKey,List.find?_cons,e']
    rw [jg e,b];exact h2
  . have e':¬ q.1=k:=fun z=>e (h1.trans z)
    have b:atKey (q :: qs) k=atKey qs k:=by simp [atKey,List.find?_cons,e']
    rw [jh e,b];exact ih
theorem KT.repl {H:Hp} {kvs:List (List Key×V)} {xs:List (List Key×Addr×Value)} (r:KT H kvs xs) (k:List Key) {y:V} {u:Value} (ry:RelV y u) :
 KT H (kvs.map fun kv=>if kv.1=k then (kv.1,y) else kv) (xs.map (putAt k u)):=by
 induction r with
 | nil=>exact .nil
 | @cons p q ps qs h t ih =>
  rw [Zp,Zp]
  refine .cons ?_ ih
  obtain ⟨h1,h2,h3⟩:=h
  unfold putAt
  by_cases e:p.1=k
  . rw [if_pos e,if_pos (h1.symm.trans e)];exact ⟨h1,h2,ry⟩
  . rw [if_neg e,if_neg (fun z=>e (h1.trans z))];exact ⟨h1,h2,h3⟩
theorem KT.put {H:Hp} {kvs:List (List Key×V)} {xs:List (List Key×Addr×Value)} (r:KT H kvs xs) (k:List Key) {b:Addr} {y:V} {u:Value} (hb:H b=some (.tup (k.map kV))) (ry:RelV y u) :
 KT H (ic kvs k y) (storedH xs k b u):=by
 have e:(kvs.any fun kv=>decide (kv.1=k))=(atKey xs k).isSome:=by
  rw [pV,(r.val k).isSome_eq,Option.isSome_map]
 unfold ic storedH
 rw [e]
 by_cases q:(atKey xs k).isSome=true
 . rw [if_pos q,if_pos q];exact r.repl k ry
 . rw [if_neg q,if_neg q];exact Paired.snoc r ⟨rfl,hb,ry⟩
theorem KT.keeps {H H':Hp} {kvs:List (List Key×V)} {xs:List (List Key×Addr×Value)} (r:KT H kvs xs) (ht:∀ b ys,H b=some (.tup ys)->H' b=some (.tup ys)):KT H' kvs xs :=
 Paired.mapP r fun _ _ z=>⟨z.1,ht _ _ z.2.1,z.2.2⟩
section
variable {P:Program} {w:World} {H:Hp} {h:Heap} {a:Addr}
theorem y0 {u:HO} (ok:HOk P w H h) (e:Rd H a u):ObjOk P w H h a u:=e.ok ok
theorem qY {kvs:List (Key×V)} (ok:HOk P w H h) (e:Rd H a (.dK kvs)):kvs.length<=sizeLine/\(a == sysModules)=false/\∃ vs,KV kvs vs/\h.DictOf (bF P w) a vs :=
 show ObjOk P w H h a (.dK kvs) from y0 ok e
theorem zq {kvs:List (Key×V)} (ok:HOk P w H h) (e:H a=some (.dK kvs)):kvs.length<=sizeLine/\(a == sysModules)=false/\∃ vs,KV kvs vs/\h.DictOf (bF P w) a vs:=qY ok (.inl e)
theorem pD {ks:List Key} (ok:HOk P w H h) (e:H a=some (.tup (ks.map kV))):(tupleKind (bF P w)).is h ks a:=by
 obtain ⟨_,its,r,o,h1,h2,n,h3⟩:=(show ObjOk P w H h a (.tup (ks.map kV)) from ok a _ e)
 exact ⟨o,its.toArray,n,h1,h2,h3,by simpa using nV r⟩
theorem uc {kvs:List (List Key×V)} (ok:HOk P w H h) (e:Rd H a (.dT kvs)):kvs.length<=sizeLine/\(a == sysModules)=false /\
 ∃ xs,KT H kvs xs/\h.DictOfH (tupleKind (bF P w)) a xs:=by
 obtain ⟨z,y,xs,r,o,es,ep,h1,h2,h3,h4,h5⟩:=(show ObjOk P w H h a (.dT kvs) from y0 ok e)
 refine ⟨z,y,xs,r,o,es,ep,h1,h2,h3,h4,fun x hx=>?_,h5⟩
 have all:∀ {l:List (List Key×V)} {m:List (List Key×Addr×Value)},KT H l m->∀ x∈m,(tupleKind (bF P w)).is h x.1 x.2.1:=by
  intro l m q
  induction q with
  | nil=>intro x hx;exact nomatch hx
  | @cons p q ps qs hq t ih =>
   intro x hx
   rcases Zo.mp hx with e | hx
   . subst e
     exact pD ok (by rw [<- hq.1];exact hq.2.1)
   . exact ih x hx
 exact all r x hx
theorem BX {kvs:List (List Key×V)} (ok:HOk P w H h) (e:H a=some (.dT kvs)):kvs.length<=sizeLine/\(a == sysModules)=false /\
 ∃ xs,KT H kvs xs/\h.DictOfH (tupleKind (bF P w)) a xs:=uc ok (.inl e)
end
def vh (H:Hp) (a:Addr) (y:V) (r:Option V):Prop :=
 (∃ kvs k,Rd H a (.dK kvs)/\y=kV k/\r=ji kvs k) \/ ∃ kvs k b,Rd H a (.dT kvs)/\y=.ref b/\H b=some (.tup (k.map kV))/\r=ji kvs k
def DPut (H:Hp) (a:Addr) (y v:V) (H':Hp):Prop :=
 (∃ kvs k,H a=some (.dK kvs)/\y=kV k/\kvs.length < sizeLine/\H'=upd H a (.dK (ic kvs k v))) \/
 ∃ kvs k b,H a=some (.dT kvs)/\y=.ref b/\H b=some (.tup (k.map kV))/\kvs.length < sizeLine/\H'=upd H a (.dT (ic kvs k v))
theorem DPut.k {H:Hp} {a:Addr} {kvs:List (Key×V)} {k:Key} {v:V} (e:H a=some (.dK kvs)) (hl:kvs.length < sizeLine):DPut H a (kV k) v (upd H a (.dK (ic kvs k v))):=.inl ⟨kvs,k,e,rfl,hl,rfl⟩
section
variable {X:Cx} {pins:List (Addr×Obj)} {σ:St} {H:Hp} {s:Shared} {a:Addr} {y v:V} {u r:Value} {o:Option V} {A:Around} {E:Value->Shared->Prop}
theorem Inv.big (I:Inv X pins σ H s):sysModules < s.heap.objs.size:=by
 have h:mainGlobals < s.heap.objs.size:=(I.mod.glob.keeps I.bk).lt
 exact Nat.lt_trans (by decide) h
theorem u8 {Q:Value->Shared->Prop} (hu:A.units+1 < cLine) (I:Inv X pins σ H s) (g:vh H a y (some v)) (ry:RelV y u) (h:∀ w' s',Inv X pins σ H s'->RelV v w'->Q w' s') :
 wpAny (model X.prog X.w) A (getItem (.ref a) u) Q E s:=by
 rcases g with ⟨kvs,k,e,ey,l⟩ | ⟨kvs,k,b,e,ey,eb,l⟩
 . subst ey
   obtain ⟨z,hd,vs,rel,dd⟩:=qY I.hok e
   obtain ⟨w',hw,rw'⟩:=RelO.some_of (v:=v) (o:=valueAt vs k) (by rw [l];exact rel.val k)
   exact wpAny_getItem_of (qH ry) dd.mapOf hw (h w' _ (I.tok _) rw')
 . subst ey
   cases (show u=Value.ref b from ry)
   obtain ⟨z,hd,xs,rel,dd⟩:=uc I.hok e
   obtain ⟨w',hw,rw'⟩:=RelO.some_of (v:=v) (o:=(atKey xs k).map (·.2)) (by rw [l];exact rel.val k)
   obtain ⟨p,hp,hp2⟩:=Zb.mp hw
   refine wpAny_getItem_heap (tupleKind_room_in1 hu) (pD I.hok eb) dd hp ?_
   rw [hp2]
   exact h w' _ (I.tok _) rw'
theorem yQ {Q:Value->Shared->Prop} (hu:A.units+1 < cLine) (I:Inv X pins σ H s) (g:vh H a y o) (ry:RelV y u) (h:∀ s',Inv X pins σ H s'->Q (.bool (!o.isSome)) s') :
 wpAny (model X.prog X.w) A (compareOp .NotIn u (.ref a)) Q E s:=by
 rcases g with ⟨kvs,k,e,ey,l⟩ | ⟨kvs,k,b,e,ey,eb,l⟩
 . subst ey
   obtain ⟨z,hd,vs,rel,dd⟩:=qY I.hok e
   refine wpAny_notIn_of (qH ry) hd dd.mapOf ?_
   rw [<- (rel.val k).isSome_eq,<- l]
   exact h _ (I.tok _)
 . subst ey
   cases (show u=Value.ref b from ry)
   obtain ⟨z,hd,xs,rel,dd⟩:=uc I.hok e
   refine wpAny_notIn_heap (tupleKind_room_in1 hu) (pD I.hok eb) hd dd ?_
   have q:=(rel.val k).isSome_eq
   rw [Option.isSome_map] at q
   rw [<- q,<- l]
   exact h _ (I.tok _)
theorem pM {h':Heap} {t':Nat} {ob:HO} (I:Inv X pins σ H s) (mu:Mut (H a)) (hs:Heap.SameBut a s.heap h') (he:∃ q,h'.get? a=some q) (new:ObjOk X.prog X.w (upd H a ob) h' a ob) :
 Inv X pins σ (upd H a ob) { s with heap:=h',toks:=t' } :=
 I.write (x:=a) (e:=a) mu (.inl rfl) (fun b q hb z=>(hs.2 b hb).trans z) he new
theorem sv {P:Program} {w:World} {H':Hp} {h':Heap} {kvs:List (Key×V)} {vs:List (Key×Value)} (z:kvs.length<=sizeLine) (hd:(a == sysModules)=false) (rel:KV kvs vs) (dd:h'.DictOf (bF P w) a vs) :
 ObjOk P w H' h' a (.dK kvs):=⟨z,hd,vs,rel,dd⟩
theorem u7 {H':Hp} {Q:Unit->Shared->Prop} (hu:A.units+1 < cLine) (I:Inv X pins σ H s) (g:DPut H a y v H') (ry:RelV y u) (rv:RelV v r) (h:∀ s',Inv X pins σ H' s'->Q () s') :
 wpAny (model X.prog X.w) A (setItem (.ref a) u r) Q E s:=by
 rcases g with ⟨kvs,k,e,ey,l,eH⟩ | ⟨kvs,k,b,e,ey,eb,l,eH⟩
 . subst ey eH
   obtain ⟨z,hd,vs,rel,dd⟩:=zq I.hok e
   have hz:vs.length<=sizeLine:=by rw [<- rel.length];exact z
   have hl:(ic kvs k v).length<=sizeLine:=by have:=ij kvs k v;omega
   refine wpAny_setItem_pairs (hsz:=hz) (qH ry) dd fun h' dd' hs=>h _ ?_
   have he:∃ q,h'.get? a=some q:=let ⟨q,_,_,hq,_⟩:=dd';⟨q,hq⟩
   exact pM I (by rw [e];exact True.intro) hs he (sv hl hd (rel.put k rv) dd')
 . subst ey eH
   cases (show u=Value.ref b from ry)
   obtain ⟨z,hd,xs,rel,dd⟩:=BX I.hok e
   have hz:xs.length<=sizeLine:=by rw [<- Paired.length rel];exact z
   have hl:(ic kvs k v).length<=sizeLine:=by have:=ij kvs k v;omega
   refine wpAny_setItem_heap (hsz:=hz) (tupleKind_room_in1 hu) (pD I.hok eb) dd fun h' dd' hs=>h _ ?_
   obtain ⟨q,es,ep,hq,h2,h3,h4,_,h5⟩:=dd'
   refine pM I (by rw [e];exact True.intro) hs ⟨q,hq⟩ ⟨hl,hd,_,(rel.put k eb rv).keeps fun c ys ec=>?_,q,es,ep,hq,h2,h3,h4,h5⟩
   rw [ax (BE ec e (fun z=>nomatch z))]
   exact ec
end
section
variable {X:Cx} {pins:List (Addr×Obj)} {σ:St} {H:Hp} {s:Shared} {a:Addr} {kvs:List (Key×V)} {k:Key} {u:Value} {A:Around} {E:Value->Shared->Prop}
end
def AM (i:Expr):Prop:=∀ ov iv,subscripted i false ov iv=operate [ov,iv] (getItem ov iv)
theorem xz {prog:Program} {w:World} {A:Around} {E:Value->Shared->Prop} {s:Shared} {env:Env} {value slice:Expr} {pos:Pos} {T id:String} {Q:Value->Shared->Prop}
 (hl:typeLookup (.type T) "__getitem__" = pure (some (.builtin id))) (hs:AM slice)
 (h:wpAny (model prog w) A (eval value env) (fun o s₁=>wpAny (model prog w) A (eval slice env) (fun i s₂=>s₂.TypeIs o T/\wpAny (model prog w) A (getItem o i) Q E s₂) E s₁) E s) :
 wpAny (model prog w) A (eval (.Subscript value slice pos) env) Q E s:=by
 refine Subscript_ (wpAny_mono h (fun o s₁ h₁=>wpAny_mono h₁ (fun i s₂ h₂=>?_) fun _ _ x=>x) fun _ _ x=>x)
 obtain ⟨hT,h₂⟩:=h₂
 unfold subscriptTail
 refine wpAny_bind ?_
 rw [getitemInPython_of_ne hT.not_modules]
 refine wpAny_bind (wpAny_specialOf hT hl ?_)
 have fin:wpAny (model prog w) A (subscripted slice false o i) (fun r s₃=>wpAny (model prog w) A (letTemporaryGo value o r >>= fun _=>pure r) Q E s₃) E s₂:=by
  rw [hs o i]
  exact wpAny_operating (wpAny_mono h₂ (fun r s₃ h₃=>wpAny_bind (wpAny_letTemporaryGo (wpAny_pure h₃))) fun _ _ x=>x)
 first
  | exact wpAny_pure (wpAny_bind fin)
  | exact wpAny_bind (wpAny_pure (wpAny_bind fin))
  | exact wpAny_bind fin
theorem qZ {X:Cx} {pins:List (Addr×Obj)} {σ:St} {H:Hp} {s:Shared} {a:Addr} {y:V} {o:Option V} (I:Inv X pins σ H s) (g:vh H a y o):s.TypeIs (.ref a) "dict":=by
 rcases g with ⟨kvs,k,e,_,_⟩ | ⟨kvs,k,b,e,_,_,_⟩
 . obtain ⟨_,_,vs,_,dd⟩:=qY I.hok e
   exact dd.typeIs
 . obtain ⟨_,_,xs,_,dd⟩:=uc I.hok e
   exact dd.typeIs
def A6 (td ty:TE):TE:=fun σ H Q=>td σ H fun x H1=>ty σ H1 fun y H2=>∃ a v,x=.ref a/\vh H2 a y (some v)/\Q v H2
def sN (ty td:TE):TE:=fun σ H Q=>ty σ H fun y H1=>td σ H1 fun x H2=>∃ a o,x=.ref a/\vh H2 a y o/\Q (.bl (!o.isSome)) H2
def Ba (td ty tv:TE):TS:=fun D σ H=>tv σ H fun v H1=>td σ H1 fun x H2=>ty σ H2 fun y H3=>∃ a H4,x=.ref a/\DPut H3 a y v H4/\D.nx σ H4
section
variable {X:Cx} {o i e value:Expr} {pos pos' tpos:Pos} {td ty tv:TE}
theorem x4 (hu:X.A.units+1 < cLine) (ho:PE X o td) (hi:PE X i ty) (hs:AM i):PE X (.Subscript o i pos) (A6 td ty):=by
 intro pins s σ H Q I h
 refine xz PySem.F.slot_dict_getitem.lookup hs (thn (ho pins s σ H _ I h) fun u s1 ⟨x,H1,I1,rx,q1⟩=>thn (hi pins s1 σ H1 _ I1 q1) fun iv s2 ⟨y,H2,I2,ry,a,v,ex,g,q2⟩=>?_)
 subst ex
 obtain rfl:u=Value.ref a:=rx
 exact ⟨qZ I2 g,u8 hu I2 g ry fun w' s3 I3 rw'=>⟨v,H2,I3,rw',q2⟩⟩
theorem uG (hu:X.A.units+1 < cLine) (hi:PE X i ty) (ho:PE X o td):PC X .NotIn i o (sN ty td):=by
 intro pins s σ H Q I h
 refine thn (hi pins s σ H _ I h) fun iv s1 ⟨y,H1,I1,ry,q1⟩=>thn (ho pins s1 σ H1 _ I1 q1) fun u s2 ⟨x,H2,I2,rx,a,ov,ex,g,q2⟩=>?_
 subst ex
 obtain rfl:u=Value.ref a:=rx
 exact yQ hu I2 g ry fun s3 I3=>⟨.bl (!ov.isSome),H2,I3,rfl,q2⟩
theorem xR (hu:X.A.units+1 < cLine) (ho:PE X o td) (hi:PE X i ty) (hv:PE X value tv) (hs:swapsWith value (some (.Subscript o i pos')) pos.line X.env=pure false) :
 PS X (.Assign [.Subscript o i pos'] value pos) (Ba td ty tv):=by
 intro pins s σ H D I h
 refine wpAny_Assign_Subscript (thn (hv pins s σ H _ I h) fun r s1 ⟨v,H1,I1,rv,q1⟩=>thn (ho pins s1 σ H1 _ I1 q1) fun u s2 ⟨x,H2,I2,rx,q2⟩=>thn (hi pins s2 σ H2 _ I2 q2) fun iv s3 ⟨y,H3,I3,ry,a,H4,ex,g,q3⟩=>?_) hs
 subst ex
 obtain rfl:u=Value.ref a:=rx
 exact u7 hu I3 g ry rv fun s4 I4=>⟨σ,H4,I4,q3⟩
end
theorem xg {P:Program} {w:World} {H:Hp} (h:Heap) (hb:sysModules < h.objs.size):ObjOk P w H (h.push { cls:=.type "dict",data:=.dict #[] }) h.objs.size (.dK []) :=
 ⟨Nat.zero_le _,beq_eq_false_iff_ne.mpr (Ne.symm (Nat.ne_of_lt hb)),[],.nil,Heap.DictOf.new h⟩
section
variable {X:Cx} {pos:Pos}
end
def rG:List (TE×TE)->St->Hp->(List (V×V)->Hp->Prop)->Prop
 | [],_,H,Q=>Q [] H
 | (tk,tv) :: r,σ,H,Q=>tk σ H fun x H1=>tv σ H1 fun y H2=>rG r σ H2 fun ps H3=>Q ((x,y) :: ps) H3
abbrev VV:List (V×V)->List (Value×Value)->Prop:=Paired fun p q=>RelV p.1 q.1/\RelV p.2 q.2
def PPs (X:Cx) (pos:Pos) (keys:List (Option Expr)) (values:List Expr) (trs:List (TE×TE)):Prop :=
 ∀ (pins:List (Addr×Obj)) (s:Shared) (σ:St) (H:Hp) (Q:List (V×V)->Hp->Prop),Inv X pins σ H s->rG trs σ H Q ->
  wpAny (model X.prog X.w) X.A (evalPairs (pairTrees keys values X.env pos)) (fun vs s'=>∃ ps H',Inv X pins σ H' s'/\VV ps vs/\Q ps H') X.xe s
theorem xS {X:Cx} {pos:Pos}:PPs X pos [] [] []:=fun pins s σ H Q I h=>pairTrees_nil_walk ⟨[],H,I,.nil,h⟩
theorem vV {X:Cx} {pos:Pos} {k v:Expr} {ks:List (Option Expr)} {vs:List Expr} {tk tv:TE} {trs:List (TE×TE)} (hk:PE X k tk) (hv:PE X v tv) (hr:PPs X pos ks vs trs) :
 PPs X pos (some k :: ks) (v :: vs) ((tk,tv) :: trs):=fun pins s σ H Q I h =>
 pairTrees_cons_walk (thn (hk pins s σ H _ I h) fun u s1 ⟨x,H1,I1,rx,q1⟩=>thn (hv pins s1 σ H1 _ I1 q1) fun w2 s2 ⟨y,H2,I2,ry,q2⟩ =>
  thn (hr pins s2 σ H2 _ I2 q2) fun ws s3 ⟨ps,H3,I3,rel,q3⟩=>⟨(x,y) :: ps,H3,I3,.cons ⟨rx,ry⟩ rel,q3⟩)
def l8 (kvs more:List (Key×V)):List (Key×V):=more.foldl (fun acc kv=>ic acc kv.1 kv.2) kvs
theorem KV.merge:∀ {more:List (Key×V)} {rs:List (Key×Value)} {kvs:List (Key×V)} {vs:List (Key×Value)},KV more rs->KV kvs vs->KV (l8 kvs more) (merged vs rs):=by
 intro more rs kvs vs r
 unfold KV at r
 induction r generalizing kvs vs with
 | nil=>intro q;exact q
 | @cons p q ps qs h t ih =>
  intro r0
  have e:KV (ic kvs p.1 p.2) (stored vs q.1 q.2):=by
   have:=r0.put p.1 h.2
   rw [<- h.1];exact this
  exact ih e
theorem iV:∀ (more kvs:List (Key×V)),(l8 kvs more).length<=kvs.length+more.length
 | [],kvs=>by show kvs.length<=kvs.length+0;omega
 | p :: r,kvs=>by
  have h1:=iV r (ic kvs p.1 p.2)
  have h2:=ij kvs p.1 p.2
  show (l8 (ic kvs p.1 p.2) r).length<=_
  rw [List.length_cons];omega
theorem mV {P:Program} {w:World}:∀ {kvs:List (Key×V)} {ws:List (Value×Value)},VV (kvs.map fun kv=>(kV kv.1,kv.2)) ws->∃ rs,Carries (bF P w) ws rs/\KV kvs rs
 | [],_,r=>by rw [List.map_nil] at r;cases r;exact ⟨[],True.intro,.nil⟩
 | p :: kvs,_,r=>by
  rw [Zp] at r
  cases r with
  | @cons a b as bs h t =>
   obtain ⟨rs,c,q⟩:=mV (P:=P) (w:=w) t
   obtain ⟨b1,b2⟩:=b
   exact ⟨(p.1,b2) :: rs,⟨qH h.1,rfl,c⟩,.cons ⟨rfl,h.2⟩ q⟩
def A4 (trs:List (TE×TE)):TE:=fun σ H Q=>∀ p,H p=none->rG trs σ (upd H p (.dK [])) fun ps H2=>H2 p=some (.dK [])/\∃ kvs:List (Key×V),ps=kvs.map (fun kv=>(kV kv.1,kv.2))/\kvs.length<=15/\Q (.ref p) (upd H2 p (.dK (l8 [] kvs)))
theorem x3 {X:Cx} {pos:Pos} {keys:List (Option Expr)} {values:List Expr} {trs:List (TE×TE)} (h:PPs X pos keys values trs) (hall:keys.all (·.isSome)=true) (hl:keys.length=values.length) (h0:keys ≠ [])
 (h15:keys.length<=15):PE X (.Dict keys values pos) (A4 trs):=by
 intro pins s σ H Q I q
 have hn:=I.hok.fresh (Nat.le_refl s.heap.objs.size)
 have I1:=I.laid (a:=s.heap.objs.size) (o:=.dK []) (h':=s.heap.push { cls:=.type "dict",data:=.dict #[] }) (t':=s.toks) (fun _ _ q=>Heap.get?_push_of_some _ q) (Nat.le_refl _) (xg s.heap I.big)
 refine wpAny_Dict_walk (knd:=bF X.prog X.w) hall hl h0 h15 (thn (h pins _ σ _ _ I1 (q _ hn)) fun ws s2 ⟨ps,H2,I2,rel,e,kvs,ep,lk,q2⟩=>?_)
 subst ep
 obtain ⟨rs,c,rk⟩:=mV (P:=X.prog) (w:=X.w) rel
 obtain ⟨z,hd,vs0,r0,dd⟩:=zq I2.hok e
 cases r0
 refine ⟨rs,c,dd,fun h' dd' hs=>⟨.ref s.heap.objs.size,_,?_,rfl,q2⟩⟩
 have hz:(l8 [] kvs).length<=sizeLine:=by
  have h1:=iV kvs []
  rw [List.length_nil] at h1
  rw [sizeLine_eq];omega
 have he:∃ q,h'.get? s.heap.objs.size=some q:=let ⟨q,_,_,hq,_⟩:=dd';⟨q,hq⟩
 exact pM I2 (by rw [e];exact True.intro) hs he (sv hz hd (rk.merge .nil) dd')
section
variable {X:Cx} {pins:List (Addr×Obj)} {σ:St} {H:Hp} {s:Shared} {a:Addr} {y d:V} {u r:Value} {o:Option V} {A:Around} {E:Value->Shared->Prop}
end
section
variable {X:Cx} {o e f:Expr} {apos cpos:Pos} {td ty tx:TE}
end
section
variable {X:Cx} {pins:List (Addr×Obj)} {σ:St} {H:Hp} {s:Shared} {a:Addr} {kvs:List (Key×V)} {A:Around} {E:Value->Shared->Prop}
theorem xh {Q:Value->Shared->Prop} (I:Inv X pins σ H s) (e:Rd H a (.dK kvs)) (h:∀ p s',H p=none->Inv X pins σ (upd H p (.dK kvs)) s'->Q (.ref p) s'):wpAny (model X.prog X.w) A (call (.type "dict") [.ref a]) Q E s:=by
 obtain ⟨z,hd,vs,rel,dd⟩:=qY I.hok e
 refine kt_call_dict hd dd (by rw [<- rel.length];exact z) fun h' dd' hs=>?_
 refine h _ _ (I.hok.fresh (Nat.le_refl _)) (I.laid (a:=s.heap.objs.size) (o:=.dK kvs) (t':=s.toks) (fun b q hq=>?_) (Nat.le_refl _) (sv z (beq_eq_false_iff_ne.mpr (Ne.symm (Nat.ne_of_lt I.big))) rel dd'))
 exact (hs.2 b (Nat.ne_of_lt (Heap.lt_size hq))).trans (Heap.get?_push_of_some _ hq)
end
section
variable {X:Cx} {pins:List (Addr×Obj)} {σ:St} {H:Hp} {s:Shared} {a:Addr} {y:V} {u:Value} {A:Around} {E:Value->Shared->Prop}
end
end L2
namespace Mth
def gc (t b:Int):Int:=(Int.gcd t b:Int)
theorem cB {t b:Int} (h:0 < b):0 < gc t b:=by
 unfold gc
 have:0 < Int.gcd t b:=Int.gcd_pos_of_ne_zero_right t (by omega)
 omega
theorem tS {t b:Int}:gc b (t % b)=gc t b:=by
 unfold gc
 have h:t % b=t+(-(t / b))*b:=by
  have:=Int.emod_add_mul_ediv t b
  grind
 rw [h,Int.gcd_add_mul_right_right,Int.gcd_comm]
theorem tR {t:Int} (h:0<=t):gc t 0=t:=by
 unfold gc
 rw [Int.gcd_zero_right];omega
theorem cM {t b:Int}:gc t b ∣ t:=Int.gcd_dvd_left t b
theorem cb {t b:Int}:gc t b ∣ b:=Int.gcd_dvd_right t b
theorem n9 {t b:Int} (h:0 < b):gc t b<=b:=Int.le_of_dvd h cb
theorem Ar {t b:Int}:gc (t.natAbs:Int) b=gc t b:=by
 unfold gc;simp [Int.gcd]
def rd (t b:Int):Int×Int:=(t / gc t b,b / gc t b)
structure Lo (a b:Int):Prop where
 pos:0 < b
 one:gc a b=1
theorem zF {t b:Int}:(rd t b).1*gc t b=t:=Int.ediv_mul_cancel cM
theorem xL {t b:Int}:(rd t b).2*gc t b=b:=Int.ediv_mul_cancel cb
theorem jy {t b:Int} (h:0 < b):Lo (rd t b).1 (rd t b).2:=by
 have hg:=cB (t:=t) h
 constructor
 . have e:=xL (t:=t) (b:=b)
   have:0 < (rd t b).2*gc t b:=by omega
   exact Int.pos_of_mul_pos_left this hg
 . unfold gc rd
   simp only
   have:=Int.gcd_ediv_gcd_ediv_gcd (i:=t) (j:=b) (by unfold gc at hg;omega)
   unfold gc
   rw [this];rfl
theorem qp {t b:Int}:(rd t b).1*b=t*(rd t b).2:=by
 have e1:=zF (t:=t) (b:=b)
 have e2:=xL (t:=t) (b:=b)
 generalize (rd t b).1=x at *
 generalize (rd t b).2=y at *
 generalize gc t b=g at *
 subst e1 e2
 grind
theorem Lo.ext {a b c d:Int} (h:Lo a b) (k:Lo c d) (e:a*d=c*b):a=c/\b=d:=by
 have hb:=h.pos
 have hd:=k.pos
 have h1:b ∣ d:=by
  have:b ∣ a*d:=⟨c,by rw [e,Int.mul_comm]⟩
  have hg:Int.gcd b a=1:=by have:=h.one;unfold gc at this;rw [Int.gcd_comm];omega
  have h3:=Int.dvd_gcd_mul_iff_dvd_mul.mpr this
  rw [hg] at h3
  simpa using h3
 have h2:d ∣ b:=by
  have:d ∣ c*b:=⟨a,by rw [<- e,Int.mul_comm]⟩
  have hg:Int.gcd d c=1:=by have:=k.one;unfold gc at this;rw [Int.gcd_comm];omega
  have h3:=Int.dvd_gcd_mul_iff_dvd_mul.mpr this
  rw [hg] at h3
  simpa using h3
 have hbd:b=d:=Int.le_antisymm (Int.le_of_dvd hd h1) (Int.le_of_dvd hb h2)
 subst hbd
 exact ⟨Int.eq_of_mul_eq_mul_right (by omega) e,rfl⟩
theorem vJ {t b a c:Int} (h:0 < b) (k:Lo a c) (e:t*c=a*b):rd t b=(a,c):=by
 have x:=(jy (t:=t) h).ext k (by
  have e1:=zF (t:=t) (b:=b)
  have e2:=xL (t:=t) (b:=b)
  have hg:=cB (t:=t) h
  generalize (rd t b).1=x at *
  generalize (rd t b).2=y at *
  generalize gc t b=g at *
  have:g*(x*c)=g*(a*y):=by grind
  exact Int.eq_of_mul_eq_mul_left (by omega) this)
 exact Prod.ext x.1 x.2
theorem vG {a b:Int} (h:Lo a b):rd a b=(a,b):=vJ h.pos h rfl
def pl (p q:Int×Int):Int×Int:=rd (p.1*q.2+q.1*p.2) (p.2*q.2)
def mi (p q:Int×Int):Int×Int:=rd (p.1*q.2 - q.1*p.2) (p.2*q.2)
def ti (p q:Int×Int):Int×Int:=rd (p.1*q.1) (p.2*q.2)
abbrev Lw (p:Int×Int):Prop:=Lo p.1 p.2
theorem vH {t b:Int} (h:0 < b):Lw (rd t b):=jy h
theorem qv {p q:Int×Int} (h:0 < p.2) (k:0 < q.2):Lw (pl p q):=jy (Int.mul_pos h k)
theorem wA {p q:Int×Int} (h:0 < p.2) (k:0 < q.2):Lw (mi p q):=jy (Int.mul_pos h k)
theorem AU {p q:Int×Int} (h:0 < p.2) (k:0 < q.2):Lw (ti p q):=jy (Int.mul_pos h k)
theorem Lo.neg {a b:Int} (h:Lo a b):Lo (-a) b:=⟨h.pos,by have:=h.one;unfold gc at *;rw [Int.neg_gcd];exact this⟩
def Sm (k:Nat) (x:Int):Prop:=x.natAbs < 2 ^ k
theorem Sm.mono {k l:Nat} {x:Int} (h:Sm k x) (e:k<=l):Sm l x:=Nat.lt_of_lt_of_le h (Nat.pow_le_pow_right (by decide) e)
theorem Sm.mul {k l:Nat} {x y:Int} (h:Sm k x) (g:Sm l y):Sm (k+l) (x*y):=by
 unfold Sm at *
 rw [Int.natAbs_mul,Nat.pow_add]
 exact Nat.mul_lt_mul'' h g
theorem Sm.add {k:Nat} {x y:Int} (h:Sm k x) (g:Sm k y):Sm (k+1) (x+y):=by
 unfold Sm at *
 rw [Nat.pow_succ];omega
theorem Sm.sub {k:Nat} {x y:Int} (h:Sm k x) (g:Sm k y):Sm (k+1) (x - y):=by
 unfold Sm at *
 rw [Nat.pow_succ];omega
theorem Sm.neg {k:Nat} {x:Int} (h:Sm k x):Sm k (-x):=by unfold Sm at *;omega
theorem Sm.of {k:Nat} {x:Int} (h:-(2 ^ k:Nat) < x) (g:x < (2 ^ k:Nat)):Sm k x:=by unfold Sm;omega
theorem Sm.div {k:Nat} {x g:Int} (h:Sm k x) (hg:0 < g) (d:g ∣ x):Sm k (x / g):=by
 obtain ⟨c,rfl⟩:=d
 rw [Int.mul_ediv_cancel_left _ (by omega)]
 unfold Sm at *
 rw [Int.natAbs_mul] at h
 have:1*c.natAbs<=g.natAbs*c.natAbs:=Nat.mul_le_mul_right _ (by omega)
 omega
theorem kg {k:Nat} {t b:Int} (hb:0 < b) (h:Sm k t) (g:Sm k b):Sm k (rd t b).1/\Sm k (rd t b).2 :=
 ⟨h.div (cB hb) cM,g.div (cB hb) cb⟩
structure Fr (k:Nat) (p:Int×Int):Prop where
 lw:Lw p
 s1:Sm k p.1
 s2:Sm k p.2
theorem Fr.mono {k l:Nat} {p:Int×Int} (h:Fr k p) (e:k<=l):Fr l p:=⟨h.lw,h.s1.mono e,h.s2.mono e⟩
theorem Fr.pos {k:Nat} {p:Int×Int} (h:Fr k p):0 < p.2:=h.lw.pos
theorem Fr.pl {k:Nat} {p q:Int×Int} (h:Fr k p) (g:Fr k q):Fr (k+k+1) (pl p q) :=
 have z:=kg (k:=k+k+1) (Int.mul_pos h.pos g.pos) ((h.s1.mul g.s2).add (g.s1.mul h.s2)) ((h.s2.mul g.s2).mono (by omega))
 ⟨qv h.pos g.pos,z.1,z.2⟩
theorem Fr.mi {k:Nat} {p q:Int×Int} (h:Fr k p) (g:Fr k q):Fr (k+k+1) (mi p q) :=
 have z:=kg (k:=k+k+1) (Int.mul_pos h.pos g.pos) ((h.s1.mul g.s2).sub (g.s1.mul h.s2)) ((h.s2.mul g.s2).mono (by omega))
 ⟨wA h.pos g.pos,z.1,z.2⟩
theorem Fr.rd {k:Nat} {t b:Int} (h:0 < b) (s:Sm k t) (g:Sm k b):Fr k (rd t b):=⟨vH h,(kg h s g).1,(kg h s g).2⟩
def low (t b:Int):Int×Int:=if b < 0 then rd (-t) (-b) else rd t b
theorem yk {t b:Int} (h:0 < b):low t b=rd t b:=by unfold low;rw [if_neg (by omega)]
theorem wB {k:Nat} {t b:Int} (h:b ≠ 0) (s:Sm k t) (g:Sm k b):Fr k (low t b):=by
 unfold low
 split
 . exact Fr.rd (by omega) s.neg g.neg
 . exact Fr.rd (by omega) s g
end Mth
namespace Mth
abbrev Bn:=Option (Int×Bool)
def kp (p:Int×Int):Bn->Bool
 | none=>true
 | some (n,true)=>decide (p.1*1 < n*p.2)
 | some (n,false)=>!decide (n*p.2 < p.1*1)
def bs:Bn->Bn->Bn
 | some (n,s),some (m,t)=>some (n+m,s || t)
 | _,_=>none
theorem ug (a b:Bn):bs b a=bs a b:=by
 rcases a with _ | ⟨n,s⟩ <;> rcases b with _ | ⟨m,t⟩ <;> simp [bs,Int.add_comm,Bool.or_comm]
theorem fP (a b c:Bn):bs (bs a b) c=bs a (bs b c):=by
 rcases a with _ | ⟨n,s⟩ <;> rcases b with _ | ⟨m,t⟩ <;> rcases c with _ | ⟨l,u⟩ <;> simp [bs,Int.add_assoc,Bool.or_assoc]
theorem gk (a:Bn):bs a (some (0,false))=a:=by
 rcases a with _ | ⟨n,s⟩ <;> simp [bs]
def Kp (p:Int×Int):Bn->Prop
 | none=>True
 | some (n,true)=>p.1 < n*p.2
 | some (n,false)=>p.1<=n*p.2
theorem r8 {p:Int×Int} {b:Bn}:kp p b=true <-> Kp p b:=by
 rcases b with _ | ⟨n,_ | _⟩
 . simp [kp,Kp]
 . simp [kp,Kp]
 . simp [kp,Kp]
def b2 (s:Bool):Int:=if s then 1 else 0
def far (f:Int) (s:Bool):Int:=if f=0/\s=true then 1 else f
end Mth
namespace Mth
def tgt:Bn->Bn->Bool
 | none,_=>false
 | some _,none=>true
 | some (n,s),some (m,t)=>if n=m then s && !t else decide (n < m)
theorem vw (n m:Int) (s t:Bool):tgt (some (n,s)) (some (m,t))=if n=m then s && !t else decide (n < m):=rfl
theorem hV (a:Bn):tgt a a=false:=by
 rcases a with _ | ⟨n,s⟩
 . rfl
 . simp [tgt]
def zi:Bn->List Int
 | none=>[]
 | some (n,_)=>[n]
def Cm (a b:Bn):List Int:=0 :: (zi a++zi b)
def Cq (n:Int):List (Int×Int):=[(n,1),(2*n - 1,2),(2*n+1,2),(n+1,1),(n - 1,1)]
def half:Bn->Bn->Int
 | none,none=>0+0
 | none,some (m,_)=>m+0
 | some (n,_),none=>n+0
 | some (n,_),some (m,_)=>m+n
def tr (a b:Bn):List (Int×Int):=(Cm a b).flatMap Cq++[low (half a b) 2]
end Mth
namespace Mth
end Mth
namespace Mth
def Le (a b:Bn):Prop:=tgt b a=false
theorem Le.refl (a:Bn):Le a a:=hV a
theorem iI (a:Bn):Le a none:=rfl
theorem mE {n m:Int} {s t:Bool}:Le (some (n,s)) (some (m,t)) <-> n < m \/ (n=m/\(t=true->s=true)):=by
 unfold Le
 rw [vw]
 by_cases h:m=n
 . subst h
   rw [if_pos rfl]
   cases s <;> cases t <;> simp
 . rw [if_neg h,decide_eq_false_iff_not]
   constructor
   . intro g
     exact .inl (by omega)
   . rintro (g | ⟨g,_⟩)
     . omega
     . exact absurd g.symm h
theorem cL {n:Int} {s:Bool}:¬ Le none (some (n,s)):=fun h=>by cases h
theorem Le.trans {a b c:Bn} (h:Le a b) (g:Le b c):Le a c:=by
 rcases c with _ | ⟨p,u⟩
 . exact iI a
 rcases b with _ | ⟨m,t⟩
 . exact absurd g cL
 rcases a with _ | ⟨n,s⟩
 . exact absurd h cL
 rw [mE] at *
 rcases h with h | ⟨h,h'⟩ <;> rcases g with g | ⟨g,g'⟩
 . exact .inl (by omega)
 . exact .inl (by omega)
 . exact .inl (by omega)
 . exact .inr ⟨by omega,fun z=>h' (g' z)⟩
theorem Le.total (a b:Bn):Le a b \/ Le b a:=by
 rcases a with _ | ⟨n,s⟩
 . exact .inr (iI b)
 rcases b with _ | ⟨m,t⟩
 . exact .inl (iI _)
 rw [mE,mE]
 by_cases h:n=m
 . subst h
   cases s <;> cases t <;> simp
 . by_cases g:n < m
   . exact .inl (.inl g)
   . exact .inr (.inl (by omega))
theorem Le.antisymm {a b:Bn} (h:Le a b) (g:Le b a):a=b:=by
 rcases a with _ | ⟨n,s⟩
 . rcases b with _ | ⟨m,t⟩
   . rfl
   . exact absurd h cL
 rcases b with _ | ⟨m,t⟩
 . exact absurd g cL
 rw [mE] at *
 have e:n=m:=by omega
 subst e
 have h':t=true->s=true:=by rcases h with h | h;omega;exact h.2
 have g':s=true->t=true:=by rcases g with g | g;omega;exact g.2
 cases s <;> cases t <;> simp_all
theorem uP {a b:Bn} (h:tgt a b=true):Le a b:=by
 rcases Le.total a b with z | z
 . exact z
 . unfold Le at z
   rw [h] at z;cases z
theorem Le.sum {a b c d:Bn} (h:Le a b) (g:Le c d):Le (bs a c) (bs b d):=by
 rcases b with _ | ⟨m,t⟩
 . exact iI _
 rcases d with _ | ⟨q,v⟩
 . exact iI _
 rcases a with _ | ⟨n,s⟩
 . exact absurd h cL
 rcases c with _ | ⟨p,u⟩
 . exact absurd g cL
 show Le (some (n+p,s || u)) (some (m+q,t || v))
 rw [mE] at *
 rcases h with h | ⟨h,h'⟩ <;> rcases g with g | ⟨g,g'⟩
 . exact .inl (by omega)
 . exact .inl (by omega)
 . exact .inl (by omega)
 . refine .inr ⟨by omega,fun z=>?_⟩
   rw [Bool.or_eq_true] at *
   rcases z with z | z
   . exact .inl (h' z)
   . exact .inr (g' z)
abbrev b0:Bn:=some (0,false)
theorem mW (a:Bn):bs b0 a=a:=by rw [ug,gk]
def Nn (a:Bn):Prop:=Le b0 a
theorem nn_kp {a:Bn}:kp (0,1) a=true <-> Nn a:=by
 rw [r8]
 rcases a with _ | ⟨n,s⟩
 . exact ⟨fun _=>iI _,fun _=>trivial⟩
 unfold Nn
 rw [mE]
 cases s with
 | false =>
  show 0<=n*1 <-> _
  constructor
  . intro h
    by_cases z:0=n
    . exact .inr ⟨z,by simp⟩
    . exact .inl (by omega)
  . rintro (h | ⟨h,_⟩) <;> omega
 | true =>
  show 0 < n*1 <-> _
  constructor
  . intro h
    exact .inl (by omega)
  . rintro (h | ⟨h,g⟩)
    . omega
    . exact absurd (g rfl) (by decide)
section
variable (c:Nat->Nat->Bn)
def dm:Nat->Nat->Nat->Bn
 | 0=>c
 | m+1=>fun i j=>if tgt (bs (dm m i m) (dm m m j)) (dm m i j) then bs (dm m i m) (dm m m j) else dm m i j
def Ok (n m:Nat):Prop:=∀ k,k < m->∀ i,i < n->Nn (bs (dm c k i k) (dm c k k i))
variable {c} {n:Nat}
theorem xf (m i j:Nat):Le (dm c (m+1) i j) (dm c m i j):=by
 show Le (if _ then _ else _) _
 split
 . rename_i h;exact uP h
 . exact Le.refl _
theorem pK (m i j:Nat):Le (dm c (m+1) i j) (bs (dm c m i m) (dm c m m j)):=by
 show Le (if _ then _ else _) _
 split
 . exact Le.refl _
 . rename_i h
   cases q:tgt (bs (dm c m i m) (dm c m m j)) (dm c m i j) with
   | true=>exact absurd q h
   | false=>exact q
theorem kq (m i j:Nat):dm c (m+1) i j=dm c m i j \/ dm c (m+1) i j=bs (dm c m i m) (dm c m m j):=by
 show (if _ then _ else _)=_ \/ (if _ then _ else _)=_
 split
 . exact .inr rfl
 . exact .inl rfl
structure Fw (c:Nat->Nat->Bn) (n m:Nat):Prop where
 dia:∀ i,i < n->dm c m i i=b0
 clo:∀ k,k < m->∀ i j,i < n->j < n->Le (dm c m i j) (bs (dm c m i k) (dm c m k j))
theorem yD (h:∀ i,i < n->c i i=b0):Fw c n 0:=⟨h,fun k hk=>by omega⟩
theorem At {m:Nat} (w:Fw c n m) (hm:m < n) (j:Nat):dm c (m+1) m j=dm c m m j:=by
 rcases kq (c:=c) m m j with h | h
 . exact h
 . rw [h,w.dia m hm,mW]
theorem Au {m:Nat} (w:Fw c n m) (hm:m < n) (i:Nat):dm c (m+1) i m=dm c m i m:=by
 rcases kq (c:=c) m i m with h | h
 . exact h
 . rw [h,w.dia m hm,gk]
theorem yE {m:Nat} (w:Fw c n m) (hm:m < n) (ok:∀ i,i < n->Nn (bs (dm c m i m) (dm c m m i))):Fw c n (m+1):=by
 refine ⟨fun i hi=>?_,fun k hk i j hi hj=>?_⟩
 . refine Le.antisymm ((xf m i i).trans (by rw [w.dia i hi];exact Le.refl _)) ?_
   rcases kq (c:=c) m i i with h | h
   . rw [h,w.dia i hi];exact Le.refl _
   . rw [h];exact ok i hi
 . by_cases hkm:k=m
   . subst hkm
     rw [Au w hm,At w hm]
     exact pK k i j
   . have hkm:k < m:=by omega
     have hkn:k < n:=by omega
     have mid:Le (bs (dm c m i m) (dm c m m j)) (bs (bs (dm c m i m) (dm c m m k)) (dm c m k j)):=by
      rw [fP]
      exact Le.sum (Le.refl _) (w.clo k hkm m j hm hj)
     have mid2:Le (bs (dm c m i m) (dm c m m j)) (bs (dm c m i k) (bs (dm c m k m) (dm c m m j))):=by
      rw [<- fP]
      exact Le.sum (w.clo k hkm i m hi hm) (Le.refl _)
     rcases kq (c:=c) m i k with h1 | h1 <;> rcases kq (c:=c) m k j with h2 | h2 <;> rw [h1,h2]
     . exact (xf m i j).trans (w.clo k hkm i j hi hj)
     . exact (pK m i j).trans mid2
     . exact (pK m i j).trans mid
     . refine (pK m i j).trans ?_
       have z:Nn (bs (dm c m m k) (dm c m k m)):=by
        have:=w.clo k hkm m m hm hm
        rw [w.dia m hm] at this
        exact this
       have e:bs (bs (dm c m i m) (dm c m m k)) (bs (dm c m k m) (dm c m m j))=bs (dm c m i m) (bs (bs (dm c m m k) (dm c m k m)) (dm c m m j)):=by
        rw [fP,fP]
       rw [e]
       refine Le.sum (Le.refl _) ?_
       have:=Le.sum z (Le.refl (dm c m m j))
       rw [mW] at this
       exact this
variable (c) in
def wt:List Nat->Bn
 | []=>b0
 | [_]=>b0
 | a :: b :: r=>bs (c a b) (wt (b :: r))
theorem oy:∀ (xs:List Nat) (v:Nat) (ys:List Nat),wt c (xs++v :: ys)=bs (wt c (xs++[v])) (wt c (v :: ys))
 | [],v,ys=>by
  show wt c (v :: ys)=bs b0 (wt c (v :: ys))
  rw [mW]
 | [a],v,ys=>by
  show bs (c a v) (wt c (v :: ys))=bs (bs (c a v) b0) (wt c (v :: ys))
  rw [gk]
 | a :: b :: xs,v,ys=>by
  show bs (c a b) (wt c ((b :: xs)++v :: ys))=bs (bs (c a b) (wt c ((b :: xs)++[v]))) (wt c (v :: ys))
  rw [oy (b :: xs) v ys,fP]
theorem yO (a z:Nat):∀ k,Le (dm c k a z) (c a z)
 | 0=>Le.refl _
 | k+1=>(xf k a z).trans (yO a z k)
theorem pU {m:Nat} (w:Fw c n m) (hm:m<=n):∀ (xs:List Nat) (a z:Nat),a < n->z < n->(∀ x∈xs,x < m)->Le (dm c m a z) (wt c (a :: (xs++[z])))
 | [],a,z,ha,hz,_=>by
  show Le _ (bs (c a z) b0)
  rw [gk]
  exact yO a z m
 | x :: xs,a,z,ha,hz,h=>by
  have hx:=h x Zj
  have ih:=pU w hm xs x z (by omega) hz fun y my=>h y (Zk _ my)
  show Le _ (bs (c a x) (wt c (x :: (xs++[z]))))
  exact (w.clo x hx a z ha hz).trans (Le.sum (yO a x m) ih)
structure Way (c:Nat->Nat->Bn) (n m i j:Nat) (p:List Nat):Prop where
 hd:∃ xs,p=i :: xs/\∀ x∈xs,x < m
 nd:i ≠ j->(p++[j]).Nodup
 sm:wt c (p++[j])=dm c m i j
theorem Way.lt {m i j:Nat} {p:List Nat} (w:Way c n m i j p) (hi:i < n) (hm:m<=n):∀ x∈p,x < n:=fun x mx=>by
 obtain ⟨xs,rfl,h⟩:=w.hd
 rcases Zo.mp mx with e | e
 . omega
 . have:=h x e;omega
theorem Cn {m i j v:Nat} {p q:List Nat} (w:Fw c n m) (hm:m < n) (hi:i < n) (hj:j < n) (wp:Way c n m i m p) (wq:Way c n m m j q) (hv:v < m) (vp:v∈p) (vq:v∈q++[j]) :
 Le (bs (dm c m i v) (dm c m v j)) (bs (dm c m i m) (dm c m m j)):=by
 have hvn:v < n:=by omega
 obtain ⟨xs,rfl,hx⟩:=wp.hd
 obtain ⟨ys,rfl,hy⟩:=wq.hd
 have c1:Le (bs (dm c m i v) (dm c m v m)) (dm c m i m):=by
  rcases Zo.mp vp with e | e
  . subst e
    rw [w.dia v hvn,mW]
    exact Le.refl _
  . obtain ⟨s,t,rfl⟩:=List.append_of_mem e
    rw [<- wp.sm]
    have e1:i :: (s++v :: t)++[m]=(i :: s)++v :: (t++[m]):=by simp
    rw [e1,oy]
    exact Le.sum (pU w (by omega) s i v hi hvn fun x mx=>hx x (List.mem_append_left _ mx)) (pU w (by omega) t v m hvn hm fun x mx=>hx x (List.mem_append_right _ (Zk _ mx)))
 have c2:Le (bs (dm c m m v) (dm c m v j)) (dm c m m j):=by
  rcases Zn.mp vq with e | e
  . rcases Zo.mp e with e | e
    . omega
    . obtain ⟨s,t,rfl⟩:=List.append_of_mem e
      rw [<- wq.sm]
      have e1:m :: (s++v :: t)++[j]=(m :: s)++v :: (t++[j]):=by simp
      rw [e1,oy]
      exact Le.sum (pU w (by omega) s m v hm hvn fun x mx=>hy x (List.mem_append_left _ mx)) (pU w (by omega) t v j hvn hj fun x mx=>hy x (List.mem_append_right _ (Zk _ mx)))
  . have:v=j:=by simpa using e
    subst this
    rw [w.dia v hvn,gk]
    exact Le.refl _
 refine Le.trans ?_ (Le.sum c1 c2)
 have z:Nn (bs (dm c m v m) (dm c m m v)):=by
  have:=w.clo v hv m m hm hm
  rw [w.dia m hm,ug] at this
  exact this
 have e:bs (bs (dm c m i v) (dm c m v m)) (bs (dm c m m v) (dm c m v j))=bs (dm c m i v) (bs (bs (dm c m v m) (dm c m m v)) (dm c m v j)):=by
  rw [fP,fP]
 rw [e]
 refine Le.sum (Le.refl _) ?_
 have:=Le.sum z (Le.refl (dm c m v j))
 rw [mW] at this
 exact this
theorem rX {p q:List Nat} (h:p.Nodup) (g:q.Nodup) (d:∀ x,x∈p->x ∉ q):(p++q).Nodup:=List.nodup_append.mpr ⟨h,g,fun x hx y hy e=>by subst e;exact d x hx hy⟩
theorem vk {m i j:Nat} {p:List Nat} (w:Way c n m i j p) (e:dm c (m+1) i j=dm c m i j):Way c n (m+1) i j p:=by
 obtain ⟨xs,h,hx⟩:=w.hd
 exact ⟨⟨xs,h,fun x mx=>Nat.lt_succ_of_lt (hx x mx)⟩,w.nd,w.sm.trans e.symm⟩
theorem xu {m i j:Nat} {p q:List Nat} (w:Fw c n m) (hm:m < n) (hi:i < n) (hj:j < n) (wp:Way c n m i m p) (wq:Way c n m m j q) (ok:Nn (bs (dm c m i m) (dm c m m i))) (t:tgt (bs (dm c m i m) (dm c m m j)) (dm c m i j)=true):Way c n (m+1) i j (p++q):=by
 have him:i ≠ m:=fun e=>by
  subst e
  rw [w.dia i hi,mW,hV] at t
  cases t
 have hmj:m ≠ j:=fun e=>by
  subst e
  rw [w.dia m hm,gk,hV] at t
  cases t
 have e1:dm c (m+1) i j=bs (dm c m i m) (dm c m m j):=if_pos t
 have ndp:=List.nodup_append.mp (wp.nd him)
 have ndq:=wq.nd hmj
 obtain ⟨xs,ep,hx⟩:=wp.hd
 obtain ⟨ys,eq,hy⟩:=wq.hd
 refine ⟨⟨xs++q,by rw [ep];rfl,fun x mx=>?_⟩,fun hij=>?_,?_⟩
 . rcases Zn.mp mx with z | z
   . have:=hx x z;omega
   . rw [eq] at z
     rcases Zo.mp z with z | z
     . omega
     . have:=hy x z;omega
 . rw [List.append_assoc]
   refine rX ndp.1 ndq fun v vp vq=>?_
   have no:∀ v,v < m->v∈p->v∈q++[j]->False:=fun v hv vp vq=>by
    have h1:=Cn w hm hi hj wp wq hv vp vq
    have h2:=(w.clo v hv i j hi hj).trans h1
    unfold Le at h2
    rw [t] at h2
    cases h2
   have vm:v ≠ m:=fun e=>ndp.2.2 v vp m (by simp) e
   have vp':=vp
   rw [ep] at vp'
   rcases Zo.mp vp' with e | e
   . -- v is i
     subst e
     rcases Zn.mp vq with z | z
     . rw [eq] at z
       rcases Zo.mp z with z | z
       . exact vm z
       . exact no v (hy v z) vp vq
     . exact hij (by simpa using z)
   . exact no v (hx v e) vp vq
 . rw [List.append_assoc]
   rw [eq]
   rw [List.cons_append,oy,<- List.cons_append,<- eq,wp.sm,wq.sm,e1]
theorem vj (i j:Nat):Way c n 0 i j [i]:=⟨⟨[],rfl,fun _ m=>nomatch m⟩,fun h=>by simp [h],by show bs (c i j) b0=c i j;rw [gk]⟩
end
def tg2 (a b:Bn):Bn:=if tgt b a then b else a
def sqf (f:Nat->Nat->Bn) (i j:Nat) (ms:List Nat) (x:Bn):Bn:=ms.foldl (fun x m=>tg2 x (bs (f i m) (f m j))) x
def sq (n:Nat) (f:Nat->Nat->Bn) (i j:Nat):Bn:=sqf f i j (List.range n) (f i j)
section
variable {c:Nat->Nat->Bn} {n:Nat}
theorem j2:∀ (n:Nat) (p:List Nat),p.Nodup->(∀ x∈p,x < n)->p.length<=n
 | 0,[],_,_=>Nat.le_refl _
 | 0,x :: p,_,h=>absurd (h x Zj) (by omega)
 | n+1,p,nd,h=>by
  have ih:=j2 n (p.erase n) (nd.erase n) fun x m=>by
   have m':=(List.Nodup.mem_erase_iff nd).mp m
   have:=h x m'.2
   omega
  have:=List.length_erase (a:=n) (l:=p)
  split at this <;> omega
end
end Mth
namespace Mth
theorem iw (n:Int):Rat.divInt n 1=(n:Rat):=by simp [Rat.divInt,Rat.mkRat_one]
def vl (p:Int×Int):Rat:=Rat.divInt p.1 p.2
theorem vn {t b:Int} (h:0 < b):vl (rd t b)=Rat.divInt t b:=by
 unfold vl
 have l:=(jy (t:=t) h).pos
 rw [Rat.divInt_eq_divInt_iff (by omega) (by omega)]
 exact qp
theorem sJ {p q:Int×Int} (hp:0 < p.2) (hq:0 < q.2):vl (pl p q)=vl p+vl q:=by
 unfold pl
 rw [vn (Int.mul_pos hp hq)]
 unfold vl
 rw [Rat.divInt_add_divInt _ _ (by omega) (by omega)]
theorem nr {p q:Int×Int} (hp:0 < p.2) (hq:0 < q.2):vl (mi p q)=vl p - vl q:=by
 unfold mi
 rw [vn (Int.mul_pos hp hq)]
 unfold vl
 rw [Rat.divInt_sub_divInt _ _ (by omega) (by omega)]
theorem AO {p q:Int×Int} (hp:0 < p.2) (hq:0 < q.2):vl (ti p q)=vl p*vl q:=by
 unfold ti
 rw [vn (Int.mul_pos hp hq)]
 unfold vl
 rw [Rat.divInt_mul_divInt]
theorem gD (n:Int):vl (n,1)=(n:Rat):=by
 unfold vl
 exact iw n
theorem sw {t b:Int} (hb:0 < b):0 < Rat.divInt t b <-> 0 < t:=by
 have hb':(0:Rat) < (b:Rat):=by
  have:=(Rat.intCast_lt_intCast (a:=0) (b:=b)).mpr hb
  simpa using this
 have e:Rat.divInt t b*(b:Rat)=(t:Rat):=by
  have h1:(b:Rat)=Rat.divInt b 1:=(iw b).symm
  have h2:(t:Rat)=Rat.divInt t 1:=(iw t).symm
  rw [h1,h2,Rat.divInt_mul_divInt,Rat.divInt_eq_divInt_iff (by omega) (by omega)]
  grind
 constructor
 . intro h
   have:=Rat.mul_pos h hb'
   rw [e] at this
   exact (Rat.intCast_lt_intCast (a:=0)).mp (by simpa using this)
 . intro h
   have ht:(0:Rat) < (t:Rat):=by
    have:=(Rat.intCast_lt_intCast (a:=0) (b:=t)).mpr h
    simpa using this
   rw [<- e] at ht
   by_cases q:0 < Rat.divInt t b
   . exact q
   . have:Rat.divInt t b*(b:Rat)<=0:=by
      have h3:Rat.divInt t b<=0:=by grind
      have:=Rat.mul_le_mul_of_nonneg_right h3 (Rat.le_of_lt hb')
      grind
     grind
theorem nu {p q:Int×Int} (hp:0 < p.2) (hq:0 < q.2):vl p < vl q <-> p.1*q.2 < q.1*p.2:=by
 have h:=sw (t:=q.1*p.2 - p.1*q.2) (b:=q.2*p.2) (Int.mul_pos hq hp)
 have e:Rat.divInt (q.1*p.2 - p.1*q.2) (q.2*p.2)=vl q - vl p:=by
  unfold vl
  rw [Rat.divInt_sub_divInt _ _ (by omega) (by omega)]
 rw [e] at h
 constructor
 . intro g
   have:=h.mp (by grind)
   omega
 . intro g
   have:=h.mpr (by omega)
   grind
def Kq (x:Rat):Bn->Prop
 | none=>True
 | some (n,true)=>x < (n:Rat)
 | some (n,false)=>x<=(n:Rat)
theorem zl {p:Int×Int} {b:Bn} (hp:0 < p.2):kp p b=true <-> Kq (vl p) b:=by
 rw [r8]
 rcases b with _ | ⟨n,s⟩
 . exact Iff.rfl
 have h1:=nu (p:=p) (q:=(n,1)) hp (show (0:Int) < 1 by decide)
 have h2:=nu (p:=(n,1)) (q:=p) (show (0:Int) < 1 by decide) hp
 rw [gD] at h1 h2
 cases s with
 | true =>
  show p.1 < n*p.2 <-> vl p < (n:Rat)
  rw [h1]
  simp
 | false =>
  show p.1<=n*p.2 <-> vl p<=(n:Rat)
  constructor
  . intro g
    have:¬ (n:Rat) < vl p:=fun z=>by
     have:=h2.mp z
     simp at this
     omega
    grind
  . intro g
    by_cases z:n*p.2 < p.1
    . have:=h2.mpr (by simpa using z)
      grind
    . omega
theorem Kq.sum {x y:Rat} {a b:Bn} (h:Kq x a) (g:Kq y b):Kq (x+y) (bs a b):=by
 rcases a with _ | ⟨n,s⟩
 . trivial
 rcases b with _ | ⟨m,t⟩
 . trivial
 cases s <;> cases t
 . show x+y<=((n+m:Int):Rat)
   have h':x<=(n:Rat):=h
   have g':y<=(m:Rat):=g
   rw [Rat.intCast_add]
   grind
 . show x+y < ((n+m:Int):Rat)
   have h':x<=(n:Rat):=h
   have g':y < (m:Rat):=g
   rw [Rat.intCast_add]
   grind
 . show x+y < ((n+m:Int):Rat)
   have h':x < (n:Rat):=h
   have g':y<=(m:Rat):=g
   rw [Rat.intCast_add]
   grind
 . show x+y < ((n+m:Int):Rat)
   have h':x < (n:Rat):=h
   have g':y < (m:Rat):=g
   rw [Rat.intCast_add]
   grind
theorem Kq.le {x:Rat} {a b:Bn} (h:Kq x a) (g:Le a b):Kq x b:=by
 rcases b with _ | ⟨m,t⟩
 . trivial
 rcases a with _ | ⟨n,s⟩
 . exact absurd g cL
 rw [mE] at g
 have mn:n<=m->(n:Rat)<=(m:Rat):=fun z=>Rat.intCast_le_intCast.mpr z
 have ml:n < m->(n:Rat) < (m:Rat):=fun z=>Rat.intCast_lt_intCast.mpr z
 cases s <;> cases t
 . have h':x<=(n:Rat):=h
   show x<=(m:Rat)
   have:=mn (by omega)
   grind
 . have h':x<=(n:Rat):=h
   show x < (m:Rat)
   rcases g with g | ⟨_,g⟩
   . have:=ml g
     grind
   . exact absurd (g rfl) (by decide)
 . have h':x < (n:Rat):=h
   show x<=(m:Rat)
   have:=mn (by omega)
   grind
 . have h':x < (n:Rat):=h
   show x < (m:Rat)
   have:=mn (by omega)
   grind
theorem pC {a:Bn}:Kq 0 a <-> Nn a:=by
 rw [<- nn_kp,zl (by decide)]
 have:vl (0,1)=0:=by rw [gD];rfl
 rw [this]
def Li (c:Nat->Nat->Bn) (n:Nat) (x:Nat->Rat):Prop:=∀ i j,i < n->j < n->Kq (x i - x j) (c i j)
section
variable {c:Nat->Nat->Bn} {n:Nat} {x:Nat->Rat}
theorem wF (h:Li c n x):∀ m,m<=n->Li (dm c m) n x
 | 0,_=>h
 | m+1,hm=>fun i j hi hj=>by
  have ih:=wF h m (by omega)
  rcases kq (c:=c) m i j with e | e
  . rw [e];exact ih i j hi hj
  . rw [e]
    have:=(ih i m hi (by omega)).sum (ih m j (by omega) hj)
    have e2:x i - x m+(x m - x j)=x i - x j:=by grind
    rw [e2] at this
    exact this
theorem wE {m:Nat} (h:Li (dm c m) n x):Li c n x:=fun i j hi hj=>(h i j hi hj).le (yO i j m)
theorem BH {m i:Nat} (hm:m < n) (hi:i < n) (bad:¬ Nn (bs (dm c m i m) (dm c m m i))):¬ Li c n x:=fun h=>by
 have d:=wF h m (by omega)
 have:=(d i m hi hm).sum (d m i hm hi)
 have e2:x i - x m+(x m - x i)=0:=by grind
 rw [e2,pC] at this
 exact bad this
theorem yn {i:Nat} (hi:i < n) (h:Li c n x):Nn (c i i):=by
 have:=h i i hi hi
 have e2:x i - x i=0:=by grind
 rw [e2,pC] at this
 exact this
theorem oj {d:Nat->Nat->Bn} (dia:∀ i,i < n->d i i=b0) (clo:∀ k i j,k < n->i < n->j < n->Le (d i j) (bs (d i k) (d k j))):∀ m,m<=n->∀ i j,i < n->j < n->dm d m i j=d i j
 | 0,_,_,_,_,_=>rfl
 | m+1,hm,i,j,hi,hj=>by
  have ih:=oj dia clo m (by omega)
  show (if tgt (bs (dm d m i m) (dm d m m j)) (dm d m i j) then _ else _)=_
  rw [ih i m hi (by omega),ih m j (by omega) hj,ih i j hi hj]
  have:=clo m i j (by omega) hi hj
  unfold Le at this
  rw [this,if_neg (by decide)]
def gz (x:Nat->Rat) (d:Nat->Nat->Bn) (t j:Nat):Option Rat:=match d j t with
 | none=>none
 | some (k,_)=>some (x j - (k:Rat))
def dX (x:Nat->Rat) (d:Nat->Nat->Bn) (t j:Nat):Option Rat:=match d t j with
 | none=>none
 | some (k,_)=>some (x j+(k:Rat))
theorem mC {d:Nat->Nat->Bn} {t i j:Nat} {lo hi:Rat} (hij:Kq (x i - x j) (d i j)) (clo:Le (d i j) (bs (d i t) (d t j))) (h1:gz x d t i=some lo) (h2:dX x d t j=some hi):lo<=hi/\((∃ k,d i t=some (k,true)) \/ (∃ k,d t j=some (k,true))->lo < hi):=by
 have s:=hij.le clo
 unfold gz at h1
 unfold dX at h2
 rcases e1:d i t with _ | ⟨k,s1⟩
 . rw [e1] at h1;cases h1
 rcases e2:d t j with _ | ⟨l,s2⟩
 . rw [e2] at h2;cases h2
 rw [e1] at h1
 rw [e2] at h2
 cases h1
 cases h2
 rw [e1,e2] at s
 have s':Kq (x i - x j) (some (k+l,s1 || s2)):=s
 cases s1 <;> cases s2
 . have z:x i - x j<=((k+l:Int):Rat):=s'
   rw [Rat.intCast_add] at z
   refine ⟨by grind,fun w=>?_⟩
   rcases w with ⟨_,w⟩ | ⟨_,w⟩ <;> cases w
 . have z:x i - x j < ((k+l:Int):Rat):=s'
   rw [Rat.intCast_add] at z
   exact ⟨by grind,fun _=>by grind⟩
 . have z:x i - x j < ((k+l:Int):Rat):=s'
   rw [Rat.intCast_add] at z
   exact ⟨by grind,fun _=>by grind⟩
 . have z:x i - x j < ((k+l:Int):Rat):=s'
   rw [Rat.intCast_add] at z
   exact ⟨by grind,fun _=>by grind⟩
theorem nU {d:Nat->Nat->Bn} {t j:Nat} {y lo:Rat} (h1:gz x d t j=some lo) (h2:lo<=y) (h3:(∃ k,d j t=some (k,true))->lo < y):Kq (x j - y) (d j t):=by
 unfold gz at h1
 rcases e1:d j t with _ | ⟨k,s⟩
 . trivial
 rw [e1] at h1
 cases h1
 cases s
 . show x j - y<=(k:Rat)
   grind
 . have:=h3 ⟨k,e1⟩
   show x j - y < (k:Rat)
   grind
theorem mH {d:Nat->Nat->Bn} {t j:Nat} {y hi:Rat} (h1:dX x d t j=some hi) (h2:y<=hi) (h3:(∃ k,d t j=some (k,true))->y < hi):Kq (y - x j) (d t j):=by
 unfold dX at h1
 rcases e1:d t j with _ | ⟨k,s⟩
 . trivial
 rw [e1] at h1
 cases h1
 cases s
 . show y - x j<=(k:Rat)
   grind
 . have:=h3 ⟨k,e1⟩
   show y - x j < (k:Rat)
   grind
end
end Mth
namespace Mth
def btw (lo hi:Option (Int×Int)):Int×Int:=match lo,hi with
 | none,none=>(0,1)
 | none,some h=>mi h (1,1)
 | some l,none=>pl l (1,1)
 | some l,some h=>ti (pl l h) (1,2)
def gre:List (Int×Int)->Option (Int×Int)->Option (Int×Int)
 | [],o=>o
 | p :: ps,none=>gre ps (some p)
 | p :: ps,some q=>gre ps (some (if q.1*p.2 < p.1*q.2 then p else q))
def lea:List (Int×Int)->Option (Int×Int)->Option (Int×Int)
 | [],o=>o
 | p :: ps,none=>lea ps (some p)
 | p :: ps,some q=>lea ps (some (if p.1*q.2 < q.1*p.2 then p else q))
theorem mJ:∀ {ps:List (Int×Int)} {q:Int×Int},(∀ p∈ps,0 < p.2)->0 < q.2->∃ g,gre ps (some q)=some g/\(g=q \/ g∈ps)/\vl q<=vl g/\∀ p∈ps,vl p<=vl g
 | [],q,_,_=>⟨q,rfl,.inl rfl,Rat.le_refl,fun p m=>nomatch m⟩
 | p :: ps,q,hp,hq=>by
  have h1:=hp p Zj
  have h2:∀ r∈ps,0 < r.2:=fun r m=>hp r (Zk _ m)
  show ∃ g,gre ps (some (if q.1*p.2 < p.1*q.2 then p else q))=some g/\_
  by_cases h:q.1*p.2 < p.1*q.2
  . rw [if_pos h]
    obtain ⟨g,e,m,a,b⟩:=mJ h2 h1
    have l:=(nu hq h1).mpr h
    refine ⟨g,e,.inr ?_,Rat.le_trans (Rat.le_of_lt l) a,fun r mr=>?_⟩
    . rcases m with m | m
      . rw [m];exact Zj
      . exact Zk _ m
    . rcases Zo.mp mr with z | z
      . rw [z];exact a
      . exact b r z
  . rw [if_neg h]
    obtain ⟨g,e,m,a,b⟩:=mJ h2 hq
    have l:vl p<=vl q:=Rat.not_lt.mp fun z=>h ((nu hq h1).mp z)
    refine ⟨g,e,?_,a,fun r mr=>?_⟩
    . rcases m with m | m
      . exact .inl m
      . exact .inr (Zk _ m)
    . rcases Zo.mp mr with z | z
      . rw [z];exact Rat.le_trans l a
      . exact b r z
theorem mD:∀ {ps:List (Int×Int)} {q:Int×Int},(∀ p∈ps,0 < p.2)->0 < q.2->∃ g,lea ps (some q)=some g/\(g=q \/ g∈ps)/\vl g<=vl q/\∀ p∈ps,vl g<=vl p
 | [],q,_,_=>⟨q,rfl,.inl rfl,Rat.le_refl,fun p m=>nomatch m⟩
 | p :: ps,q,hp,hq=>by
  have h1:=hp p Zj
  have h2:∀ r∈ps,0 < r.2:=fun r m=>hp r (Zk _ m)
  show ∃ g,lea ps (some (if p.1*q.2 < q.1*p.2 then p else q))=some g/\_
  by_cases h:p.1*q.2 < q.1*p.2
  . rw [if_pos h]
    obtain ⟨g,e,m,a,b⟩:=mD h2 h1
    have l:=(nu h1 hq).mpr h
    refine ⟨g,e,.inr ?_,Rat.le_trans a (Rat.le_of_lt l),fun r mr=>?_⟩
    . rcases m with m | m
      . rw [m];exact Zj
      . exact Zk _ m
    . rcases Zo.mp mr with z | z
      . rw [z];exact a
      . exact b r z
  . rw [if_neg h]
    obtain ⟨g,e,m,a,b⟩:=mD h2 hq
    have l:vl q<=vl p:=Rat.not_lt.mp fun z=>h ((nu h1 hq).mp z)
    refine ⟨g,e,?_,a,fun r mr=>?_⟩
    . rcases m with m | m
      . exact .inl m
      . exact .inr (Zk _ m)
    . rcases Zo.mp mr with z | z
      . rw [z];exact Rat.le_trans a l
      . exact b r z
theorem wQ {ps:List (Int×Int)} (hp:∀ p∈ps,0 < p.2):(ps=[]/\gre ps none=none) \/ ∃ g,gre ps none=some g/\g∈ps/\∀ p∈ps,vl p<=vl g:=by
 cases ps with
 | nil=>exact .inl ⟨rfl,rfl⟩
 | cons p ps =>
  obtain ⟨g,e,m,a,b⟩:=mJ (fun r m=>hp r (Zk _ m)) (hp p Zj)
  refine .inr ⟨g,e,?_,fun r mr=>?_⟩
  . rcases m with m | m
    . rw [m];exact Zj
    . exact Zk _ m
  . rcases Zo.mp mr with z | z
    . rw [z];exact a
    . exact b r z
theorem qG {ps:List (Int×Int)} (hp:∀ p∈ps,0 < p.2):(ps=[]/\lea ps none=none) \/ ∃ g,lea ps none=some g/\g∈ps/\∀ p∈ps,vl g<=vl p:=by
 cases ps with
 | nil=>exact .inl ⟨rfl,rfl⟩
 | cons p ps =>
  obtain ⟨g,e,m,a,b⟩:=mD (fun r m=>hp r (Zk _ m)) (hp p Zj)
  refine .inr ⟨g,e,?_,fun r mr=>?_⟩
  . rcases m with m | m
    . rw [m];exact Zj
    . exact Zk _ m
  . rcases Zo.mp mr with z | z
    . rw [z];exact a
    . exact b r z
abbrev Pl:=List (Nat×(Int×Int))
def dq (d:Nat->Nat->Bn) (ps:Pl) (t:Nat):List (Int×Int):=ps.filterMap fun p=>(d p.1 t).map fun b=>mi p.2 (b.1,1)
def cV (d:Nat->Nat->Bn) (ps:Pl) (t:Nat):List (Int×Int):=ps.filterMap fun p=>(d t p.1).map fun b=>pl p.2 (b.1,1)
def dw (d:Nat->Nat->Bn) (ps:Pl) (t:Nat):Int×Int:=btw (gre (dq d ps t) none) (lea (cV d ps t) none)
section
variable {d:Nat->Nat->Bn} {ps:Pl} {t:Nat} {x:Nat->Rat}
theorem tK {g:Int×Int} (hp:∀ p∈ps,0 < p.2.2) (hx:∀ p∈ps,x p.1=vl p.2) (m:g∈dq d ps t):0 < g.2/\∃ p∈ps,gz x d t p.1=some (vl g):=by
 obtain ⟨p,mp,e⟩:=List.mem_filterMap.mp m
 rcases q:d p.1 t with _ | ⟨k,s⟩
 . rw [q] at e;cases e
 . rw [q] at e
   cases e
   refine ⟨(wA (hp p mp) Int.zero_lt_one).pos,p,mp,?_⟩
   unfold gz
   rw [q]
   show some (x p.1 - (k:Rat))=_
   rw [nr (hp p mp) Int.zero_lt_one,gD,hx p mp]
theorem qR {g:Int×Int} (hp:∀ p∈ps,0 < p.2.2) (hx:∀ p∈ps,x p.1=vl p.2) (m:g∈cV d ps t):0 < g.2/\∃ p∈ps,dX x d t p.1=some (vl g):=by
 obtain ⟨p,mp,e⟩:=List.mem_filterMap.mp m
 rcases q:d t p.1 with _ | ⟨k,s⟩
 . rw [q] at e;cases e
 . rw [q] at e
   cases e
   refine ⟨(qv (hp p mp) Int.zero_lt_one).pos,p,mp,?_⟩
   unfold dX
   rw [q]
   show some (x p.1+(k:Rat))=_
   rw [sJ (hp p mp) Int.zero_lt_one,gD,hx p mp]
theorem pr {p:Nat×(Int×Int)} {lo:Rat} (hp:∀ p∈ps,0 < p.2.2) (hx:∀ p∈ps,x p.1=vl p.2) (m:p∈ps) (h:gz x d t p.1=some lo):∃ g∈dq d ps t,vl g=lo:=by
 unfold gz at h
 rcases q:d p.1 t with _ | ⟨k,s⟩
 . rw [q] at h;cases h
 . rw [q] at h
   cases h
   refine ⟨mi p.2 (k,1),List.mem_filterMap.mpr ⟨p,m,by rw [q];rfl⟩,?_⟩
   rw [nr (hp p m) Int.zero_lt_one,gD,hx p m]
theorem jK {p:Nat×(Int×Int)} {hi:Rat} (hp:∀ p∈ps,0 < p.2.2) (hx:∀ p∈ps,x p.1=vl p.2) (m:p∈ps) (h:dX x d t p.1=some hi):∃ g∈cV d ps t,vl g=hi:=by
 unfold dX at h
 rcases q:d t p.1 with _ | ⟨k,s⟩
 . rw [q] at h;cases h
 . rw [q] at h
   cases h
   refine ⟨pl p.2 (k,1),List.mem_filterMap.mpr ⟨p,m,by rw [q];rfl⟩,?_⟩
   rw [sJ (hp p m) Int.zero_lt_one,gD,hx p m]
theorem xv {l h:Int×Int} (hl:0 < l.2) (hh:0 < h.2):vl (ti (pl l h) (1,2))+vl (ti (pl l h) (1,2))=vl l+vl h:=by
 rw [AO (qv hl hh).pos (by decide),sJ hl hh]
 have:vl (1,2)=1 / 2:=by unfold vl;rw [Rat.divInt_eq_div];rfl
 rw [this]
 grind
theorem uo (hp:∀ p∈ps,0 < p.2.2) (hx:∀ p∈ps,x p.1=vl p.2) (am:∀ p∈ps,∀ q∈ps,Kq (x p.1 - x q.1) (d p.1 q.1)) (clo:∀ p∈ps,∀ q∈ps,Le (d p.1 q.1) (bs (d p.1 t) (d t q.1))) :
 0 < (dw d ps t).2/\∀ p∈ps,Kq (x p.1 - vl (dw d ps t)) (d p.1 t)/\Kq (vl (dw d ps t) - x p.1) (d t p.1):=by
 have lp:∀ g∈dq d ps t,0 < g.2:=fun g m=>(tK hp hx m).1
 have hpp:∀ g∈cV d ps t,0 < g.2:=fun g m=>(qR hp hx m).1
 unfold dw
 rcases wQ lp with ⟨le,lo⟩ | ⟨l,lo,ml,la⟩
 . have nl:∀ p∈ps,d p.1 t=none:=fun p m=>by
    cases q:d p.1 t with
    | none=>rfl
    | some b =>
     obtain ⟨g,mg,_⟩:=pr (d:=d) (t:=t) (lo:=x p.1 - (b.1:Rat)) hp hx m (by unfold gz;rw [q])
     rw [le] at mg;cases mg
   rcases qG hpp with ⟨he,hi⟩ | ⟨h,hi,mh,ha⟩
   . have nh:∀ p∈ps,d t p.1=none:=fun p m=>by
      cases q:d t p.1 with
      | none=>rfl
      | some b =>
       obtain ⟨g,mg,_⟩:=jK (d:=d) (t:=t) (hi:=x p.1+(b.1:Rat)) hp hx m (by unfold dX;rw [q])
       rw [he] at mg;cases mg
     rw [lo,hi]
     exact ⟨by decide,fun p m=>by rw [nl p m,nh p m];exact ⟨trivial,trivial⟩⟩
   . rw [lo,hi]
     have e:vl (btw none (some h))=vl h - 1:=by
      show vl (mi h (1,1))=_
      rw [nr (hpp h mh) (by decide),gD];rfl
     refine ⟨(wA (hpp h mh) (by decide)).pos,fun p m=>⟨by rw [nl p m];trivial,?_⟩⟩
     rw [e]
     cases q:dX x d t p.1 with
     | none =>
      unfold dX at q
      cases q2:d t p.1 with
      | none=>trivial
      | some b=>rw [q2] at q;cases q
     | some u =>
      obtain ⟨g,mg,eg⟩:=jK hp hx m q
      have:=ha g mg
      exact mH q (by grind) (fun _=>by grind)
 . rcases qG hpp with ⟨he,hi⟩ | ⟨h,hi,mh,ha⟩
   . have nh:∀ p∈ps,d t p.1=none:=fun p m=>by
      cases q:d t p.1 with
      | none=>rfl
      | some b =>
       obtain ⟨g,mg,_⟩:=jK (d:=d) (t:=t) (hi:=x p.1+(b.1:Rat)) hp hx m (by unfold dX;rw [q])
       rw [he] at mg;cases mg
     rw [lo,hi]
     have e:vl (btw (some l) none)=vl l+1:=by
      show vl (pl l (1,1))=_
      rw [sJ (lp l ml) (by decide),gD];rfl
     refine ⟨(qv (lp l ml) (by decide)).pos,fun p m=>⟨?_,by rw [nh p m];trivial⟩⟩
     rw [e]
     cases q:gz x d t p.1 with
     | none =>
      unfold gz at q
      cases q2:d p.1 t with
      | none=>trivial
      | some b=>rw [q2] at q;cases q
     | some u =>
      obtain ⟨g,mg,eg⟩:=pr hp hx m q
      have:=la g mg
      exact nU q (by grind) (fun _=>by grind)
   . rw [lo,hi]
     have e:=xv (lp l ml) (hpp h mh)
     obtain ⟨_,pl',mpl,el⟩:=tK (x:=x) hp hx ml
     obtain ⟨_,ph,mph,eh⟩:=qR (x:=x) hp hx mh
     have lh:=(mC (am _ mpl _ mph) (clo _ mpl _ mph) el eh).1
     refine ⟨(AU (qv (lp l ml) (hpp h mh)).pos (by decide)).pos,fun p m=>⟨?_,?_⟩⟩
     . show Kq (x p.1 - vl (ti (pl l h) (1,2))) (d p.1 t)
       cases q:gz x d t p.1 with
       | none =>
        unfold gz at q
        cases q2:d p.1 t with
        | none=>trivial
        | some b=>rw [q2] at q;cases q
       | some u =>
        obtain ⟨g,mg,eg⟩:=pr hp hx m q
        have:=la g mg
        have z:=mC (am _ m _ mph) (clo _ m _ mph) q eh
        refine nU q (by grind) (fun w=>?_)
        have:=z.2 (.inl w)
        grind
     . show Kq (vl (ti (pl l h) (1,2)) - x p.1) (d t p.1)
       cases q:dX x d t p.1 with
       | none =>
        unfold dX at q
        cases q2:d t p.1 with
        | none=>trivial
        | some b=>rw [q2] at q;cases q
       | some u =>
        obtain ⟨g,mg,eg⟩:=jK hp hx m q
        have:=ha g mg
        have z:=mC (am _ mpl _ m) (clo _ mpl _ m) el q
        refine mH q (by grind) (fun w=>?_)
        have:=z.2 (.inr w)
        grind
end
end Mth
namespace Mth
def Dy (W M:Int) (p:Int×Int):Prop:=0 < W/\Lw p/\∃ a:Int,p.1*W=a*p.2/\-(M*W)<=a/\a<=M*W
theorem Dy.w {W M:Int} {p:Int×Int} (h:Dy W M p):0 < W:=h.1
theorem Dy.lw {W M:Int} {p:Int×Int} (h:Dy W M p):Lw p:=h.2.1
theorem Dy.pos {W M:Int} {p:Int×Int} (h:Dy W M p):0 < p.2:=h.2.1.pos
theorem Dy.le {W M N:Int} {p:Int×Int} (h:Dy W M p) (e:M<=N):Dy W N p:=by
 obtain ⟨w,l,a,e1,e2,e3⟩:=h
 have z:=Int.mul_le_mul_of_nonneg_right e (Int.le_of_lt w)
 exact ⟨w,l,a,e1,by omega,by omega⟩
theorem Dy.up {W M:Int} {p:Int×Int} (h:Dy W M p):Dy (W*2) M p:=by
 obtain ⟨w,l,a,e1,e2,e3⟩:=h
 refine ⟨by omega,l,a*2,?_,?_,?_⟩
 . rw [<- Int.mul_assoc,e1,Int.mul_right_comm]
 . rw [<- Int.mul_assoc];omega
 . rw [<- Int.mul_assoc];omega
theorem xb {W M t b a:Int} (w:0 < W) (hb:0 < b) (e:t*W=a*b) (h1:-(M*W)<=a) (h2:a<=M*W):Dy W M (rd t b):=by
 refine ⟨w,vH hb,a,?_,h1,h2⟩
 have c:(rd t b).1*b=t*(rd t b).2:=qp
 have:((rd t b).1*W)*b=(a*(rd t b).2)*b:=by
  rw [Int.mul_right_comm,c,Int.mul_right_comm,e,Int.mul_right_comm]
 exact Int.eq_of_mul_eq_mul_right (by omega) this
theorem Dy.pl {W M N:Int} {p q:Int×Int} (h:Dy W M p) (g:Dy W N q):Dy W (M+N) (pl p q):=by
 obtain ⟨w,l,a,e1,e2,e3⟩:=h
 obtain ⟨_,l',b,f1,f2,f3⟩:=g
 refine xb (a:=a+b) w (Int.mul_pos l.pos l'.pos) ?_ (by rw [Int.add_mul];omega) (by rw [Int.add_mul];omega)
 have x1:p.1*q.2*W=a*p.2*q.2:=by rw [Int.mul_right_comm,e1]
 have x2:q.1*p.2*W=b*q.2*p.2:=by rw [Int.mul_right_comm,f1]
 rw [Int.add_mul,x1,x2,Int.add_mul,Int.mul_assoc,Int.mul_assoc b,Int.mul_comm q.2 p.2]
theorem Dy.mi {W M N:Int} {p q:Int×Int} (h:Dy W M p) (g:Dy W N q):Dy W (M+N) (mi p q):=by
 obtain ⟨w,l,a,e1,e2,e3⟩:=h
 obtain ⟨_,l',b,f1,f2,f3⟩:=g
 refine xb (a:=a - b) w (Int.mul_pos l.pos l'.pos) ?_ (by rw [Int.add_mul];omega) (by rw [Int.add_mul];omega)
 have x1:p.1*q.2*W=a*p.2*q.2:=by rw [Int.mul_right_comm,e1]
 have x2:q.1*p.2*W=b*q.2*p.2:=by rw [Int.mul_right_comm,f1]
 rw [Int.sub_mul,x1,x2,Int.sub_mul,Int.mul_assoc,Int.mul_assoc b,Int.mul_comm q.2 p.2]
theorem Dy.half {W M:Int} {p:Int×Int} (h:Dy W (M+M) p):Dy (W*2) M (ti p (1,2)):=by
 obtain ⟨w,l,a,e1,e2,e3⟩:=h
 refine xb (a:=a) (by omega) (Int.mul_pos l.pos (by decide)) ?_ ?_ ?_
 . show p.1*1*(W*2)=a*(p.2*2)
   rw [Int.mul_one,<- Int.mul_assoc,e1,Int.mul_assoc]
 . rw [<- Int.mul_assoc];rw [Int.add_mul] at e2;omega
 . rw [<- Int.mul_assoc];rw [Int.add_mul] at e3;omega
theorem iu {n M:Int} (h1:-M<=n) (h2:n<=M) {W:Int} (w:0 < W):Dy W M (n,1):=by
 refine ⟨w,⟨by show (0:Int) < 1;decide,?_⟩,n*W,by show n*W=n*W*1;rw [Int.mul_one],?_,?_⟩
 . show gc n 1=1
   unfold gc
   simp
 . rw [<- Int.neg_mul];exact Int.mul_le_mul_of_nonneg_right h1 (Int.le_of_lt w)
 . exact Int.mul_le_mul_of_nonneg_right h2 (Int.le_of_lt w)
theorem Dy.dvd {W M:Int} {p:Int×Int} (h:Dy W M p):p.2 ∣ W:=by
 obtain ⟨w,l,a,e1,_⟩:=h
 have d:p.2 ∣ p.1*W:=⟨a,by rw [e1,Int.mul_comm]⟩
 have g:Nat.Coprime p.2.natAbs p.1.natAbs:=by
  have:=l.one
  unfold gc at this
  rw [Int.gcd_comm] at this
  have z:Int.gcd p.2 p.1=1:=by omega
  exact z
 have d':=Int.natAbs_dvd_natAbs.mpr d
 rw [Int.natAbs_mul] at d'
 exact Int.natAbs_dvd_natAbs.mp (g.dvd_of_dvd_mul_left d')
theorem Dy.bot {W M:Int} {p:Int×Int} (h:Dy W M p):p.2<=W:=Int.le_of_dvd h.w h.dvd
theorem Dy.top {W M:Int} {p:Int×Int} (h:Dy W M p):-(M*W)<=p.1/\p.1<=M*W:=by
 have hb:=h.bot
 obtain ⟨w,l,a,e1,e2,e3⟩:=h
 have hp:=l.pos
 have h2:=w
 constructor
 . refine Int.not_lt.mp fun z=>?_
   have hM:(0:Int)<=M*W:=by omega
   have:p.1*W < -(M*W)*W:=Int.mul_lt_mul_of_pos_right z h2
   rw [e1] at this
   have q:-(M*W)*p.2<=a*p.2:=Int.mul_le_mul_of_nonneg_right e2 (by omega)
   have q2:(M*W)*p.2<=(M*W)*W:=Int.mul_le_mul_of_nonneg_left hb hM
   rw [Int.neg_mul] at this q
   omega
 . refine Int.not_lt.mp fun z=>?_
   have hM:(0:Int)<=M*W:=by omega
   have:(M*W)*W < p.1*W:=Int.mul_lt_mul_of_pos_right z h2
   rw [e1] at this
   have q:a*p.2<=(M*W)*p.2:=Int.mul_le_mul_of_nonneg_right e3 (by omega)
   have q2:(M*W)*p.2<=(M*W)*W:=Int.mul_le_mul_of_nonneg_left hb hM
   omega
def Bo (N:Int):Bn->Prop
 | none=>True
 | some (k,_)=>-N<=k/\k<=N
theorem AE {W M:Int} (w:0 < W) {lo hi:Option (Int×Int)} (h0:0<=M) (h1:∀ p,lo=some p->Dy W M p) (h2:∀ p,hi=some p->Dy W M p):Dy (W*2) (M+1) (btw lo hi):=by
 cases lo with
 | none=>cases hi with
  | none=>exact iu (by omega) (by omega) (by omega)
  | some h=>exact ((h2 h rfl).mi (iu (M:=1) (by decide) (by decide) w)).up
 | some l=>cases hi with
  | none=>exact ((h1 l rfl).pl (iu (M:=1) (by decide) (by decide) w)).up
  | some h=>exact ((h1 l rfl).pl (h2 h rfl)).half.le (by omega)
theorem k7:∀ {ps:List (Int×Int)} {o:Option (Int×Int)} {g:Int×Int},gre ps o=some g->g∈ps \/ o=some g
 | [],o,g,h=>.inr h
 | p :: ps,none,g,h=>by
  rcases k7 (ps:=ps) (o:=some p) h with z | z
  . exact .inl (Zk _ z)
  . cases z;exact .inl Zj
 | p :: ps,some q,g,h=>by
  rcases k7 (ps:=ps) h with z | z
  . exact .inl (Zk _ z)
  . split at z
    . cases z;exact .inl Zj
    . exact .inr z
theorem k5:∀ {ps:List (Int×Int)} {o:Option (Int×Int)} {g:Int×Int},lea ps o=some g->g∈ps \/ o=some g
 | [],o,g,h=>.inr h
 | p :: ps,none,g,h=>by
  rcases k5 (ps:=ps) (o:=some p) h with z | z
  . exact .inl (Zk _ z)
  . cases z;exact .inl Zj
 | p :: ps,some q,g,h=>by
  rcases k5 (ps:=ps) h with z | z
  . exact .inl (Zk _ z)
  . split at z
    . cases z;exact .inl Zj
    . exact .inr z
theorem yj {d:Nat->Nat->Bn} {ps:Pl} {t:Nat} {W M N:Int} (hp:∀ p∈ps,Dy W M p.2) (hd:∀ p∈ps,Bo N (d p.1 t)):∀ g∈dq d ps t,Dy W (M+N) g:=fun g m=>by
 obtain ⟨p,mp,e⟩:=List.mem_filterMap.mp m
 have b:=hd p mp
 rcases q:d p.1 t with _ | ⟨n,s⟩
 . rw [q] at e;cases e
 . rw [q] at e b
   cases e
   exact (hp p mp).mi (iu b.1 b.2 (hp p mp).w)
theorem wO {d:Nat->Nat->Bn} {ps:Pl} {t:Nat} {W M N:Int} (hp:∀ p∈ps,Dy W M p.2) (hd:∀ p∈ps,Bo N (d t p.1)):∀ g∈cV d ps t,Dy W (M+N) g:=fun g m=>by
 obtain ⟨p,mp,e⟩:=List.mem_filterMap.mp m
 have b:=hd p mp
 rcases q:d t p.1 with _ | ⟨n,s⟩
 . rw [q] at e;cases e
 . rw [q] at e b
   cases e
   exact (hp p mp).pl (iu b.1 b.2 (hp p mp).w)
theorem zt {d:Nat->Nat->Bn} {ps:Pl} {t:Nat} {W M N:Int} (w:0 < W) (h0:0<=M+N) (hp:∀ p∈ps,Dy W M p.2) (hd:∀ p∈ps,Bo N (d p.1 t)) (hd':∀ p∈ps,Bo N (d t p.1)):Dy (W*2) (M+N+1) (dw d ps t):=by
 refine AE w h0 (fun g e=>?_) fun g e=>?_
 . rcases k7 e with z | z
   . exact yj hp hd g z
   . cases z
 . rcases k5 e with z | z
   . exact wO hp hd' g z
   . cases z
end Mth
namespace Mth
def has (ps:Pl) (t:Nat):Prop:=∃ v,(t,v)∈ps
instance (ps:Pl) (t:Nat):Decidable (has ps t):=decidable_of_iff (t∈ps.map (·.1)) ⟨fun h=>by
 obtain ⟨p,m,e⟩:=Zm.mp h
 exact ⟨p.2,by rw [<- e];exact m⟩,fun ⟨v,m⟩=>Zm.mpr ⟨_,m,rfl⟩⟩
def br (d:Nat->Nat->Bn) (ps:Pl):Nat->Pl
 | 0=>ps
 | m+1=>if has (br d ps m) m then br d ps m else br d ps m++[(m,dw d (br d ps m) m)]
structure rC (d:Nat->Nat->Bn) (n:Nat) (ps:Pl) (x:Nat->Rat):Prop where
 lt:∀ p∈ps,p.1 < n
 nd:(ps.map (·.1)).Nodup
 pos:∀ p∈ps,0 < p.2.2
 val:∀ p∈ps,x p.1=vl p.2
 am:∀ p∈ps,∀ q∈ps,Kq (x p.1 - x q.1) (d p.1 q.1)
theorem uW {d:Nat->Nat->Bn} {n t:Nat} {ps:Pl} {x:Nat->Rat} (g:rC d n ps x) (ht:t < n) (nt:¬ has ps t) (dia:∀ i,i < n->d i i=b0) (clo:∀ k i j,k < n->i < n->j < n->Le (d i j) (bs (d i k) (d k j))) :
 rC d n (ps++[(t,dw d ps t)]) (fun j=>if j=t then vl (dw d ps t) else x j):=by
 obtain ⟨h1,h2⟩:=uo (t:=t) g.pos g.val g.am (fun p mp q mq=>clo t _ _ ht (g.lt p mp) (g.lt q mq))
 have ne:∀ p∈ps,p.1 ≠ t:=fun p m e=>nt ⟨p.2,by rw [<- e];exact m⟩
 have zero:Kq (vl (dw d ps t) - vl (dw d ps t)) (d t t):=by
  rw [dia t ht]
  show vl (dw d ps t) - vl (dw d ps t)<=((0:Int):Rat)
  grind
 refine ⟨fun p m=>?_,?_,fun p m=>?_,fun p m=>?_,fun p mp q mq=>?_⟩
 . rcases Zn.mp m with z | z
   . exact g.lt p z
   . rw [Zl.mp z];exact ht
 . rw [List.map_append]
   refine List.nodup_append.mpr ⟨g.nd,by simp,fun a ha b hb e=>?_⟩
   obtain ⟨p,mp,rfl⟩:=Zm.mp ha
   have:b=t:=by simpa using hb
   exact ne p mp (e.trans this)
 . rcases Zn.mp m with z | z
   . exact g.pos p z
   . rw [Zl.mp z];exact h1
 . rcases Zn.mp m with z | z
   . show (if p.1=t then _ else x p.1)=_
     rw [if_neg (ne p z)];exact g.val p z
   . rw [Zl.mp z]
     exact if_pos rfl
 . show Kq ((if p.1=t then vl (dw d ps t) else x p.1) - (if q.1=t then vl (dw d ps t) else x q.1)) (d p.1 q.1)
   rcases Zn.mp mp with z | z
   . rw [if_neg (ne p z)]
     rcases Zn.mp mq with y | y
     . rw [if_neg (ne q y)];exact g.am p z q y
     . rw [Zl.mp y,if_pos rfl];exact (h2 p z).1
   . rw [Zl.mp z,if_pos rfl]
     rcases Zn.mp mq with y | y
     . rw [if_neg (ne q y)];exact (h2 q y).2
     . rw [Zl.mp y,if_pos rfl];exact zero
theorem j8 {d:Nat->Nat->Bn} {n:Nat} {ps:Pl} (dia:∀ i,i < n->d i i=b0) (clo:∀ k i j,k < n->i < n->j < n->Le (d i j) (bs (d i k) (d k j))) (g:∃ x,rC d n ps x):∀ m,m<=n->(∃ x,rC d n (br d ps m) x)/\(∀ t,t < m->has (br d ps m) t)/\∀ p∈ps,p∈br d ps m
 | 0,_=>⟨g,fun t h=>absurd h (Nat.not_lt_zero t),fun p m=>m⟩
 | m+1,hm=>by
  obtain ⟨⟨x,g1⟩,h1,h2⟩:=j8 dia clo g m (by omega)
  show (∃ x,rC d n (if has (br d ps m) m then br d ps m else _) x)/\(∀ t,t < m+1->has (if has (br d ps m) m then br d ps m else _) t)/\∀ p∈ps,p∈(if has (br d ps m) m then br d ps m else _)
  by_cases h:has (br d ps m) m
  . rw [if_pos h]
    refine ⟨⟨x,g1⟩,fun t ht=>?_,h2⟩
    by_cases e:t=m
    . rw [e];exact h
    . exact h1 t (by omega)
  . rw [if_neg h]
    refine ⟨⟨_,uW g1 (by omega) h dia clo⟩,fun t ht=>?_,fun p mp=>List.mem_append_left _ (h2 p mp)⟩
    by_cases e:t=m
    . rw [e];exact ⟨_,List.mem_append_right _ Zj⟩
    . obtain ⟨v,mv⟩:=h1 t (by omega)
      exact ⟨v,List.mem_append_left _ mv⟩
theorem gF (k:Nat):(0:Int) < 2 ^ k:=Int.pow_pos (by decide)
theorem t5 {d:Nat->Nat->Bn} {ps:Pl} {W M N:Int} (w:0 < W) (hN:0<=N) (hM:0<=M) (hd:∀ i j,Bo N (d i j)) (h:∀ p∈ps,Dy W M p.2):∀ m,∀ p∈br d ps m,Dy (W*2 ^ m) (M+m*(N+1)) p.2
 | 0=>fun p m=>by
  rw [Int.pow_zero,Int.mul_one]
  exact (h p m).le (by show M<=M+((0:Nat):Int)*(N+1);rw [show ((0:Nat):Int)=0 from rfl,Int.zero_mul];omega)
 | m+1=>fun p mp=>by
  have e:((m+1:Nat):Int)*(N+1)=(m:Int)*(N+1)+(N+1):=by
   rw [show ((m+1:Nat):Int)=(m:Int)+1 from rfl,Int.add_mul,Int.one_mul]
  have ih:=t5 w hN hM hd h m
  have nn:0<=(m:Int)*(N+1):=Int.mul_nonneg (by omega) (by omega)
  have wm:0 < W*2 ^ m:=Int.mul_pos w (gF m)
  have we:W*2 ^ (m+1)=W*2 ^ m*2:=by rw [Int.pow_succ,Int.mul_assoc]
  rw [we]
  have old:∀ p∈br d ps m,Dy (W*2 ^ m*2) (M+((m+1:Nat):Int)*(N+1)) p.2:=fun p mp=>((ih p mp).up).le (by rw [e];omega)
  have mp':p∈(if has (br d ps m) m then br d ps m else br d ps m++[(m,dw d (br d ps m) m)]):=mp
  split at mp'
  . exact old p mp'
  . rcases Zn.mp mp' with z | z
    . exact old p z
    . rw [Zl.mp z]
      exact (zt wm (by omega) ih (fun _ _=>hd _ _) (fun _ _=>hd _ _)).le (by rw [e];omega)
def atP (ps:Pl) (t:Nat):Int×Int:=((ps.find? fun p=>p.1 == t).map (·.2)).getD (0,1)
theorem jd {ps:Pl} {t:Nat} {v:Int×Int} (nd:(ps.map (·.1)).Nodup) (m:(t,v)∈ps):atP ps t=v:=by
 unfold atP
 induction ps with
 | nil=>cases m
 | cons p ps ih =>
  rw [Zp,List.nodup_cons] at nd
  rw [List.find?_cons]
  rcases Zo.mp m with z | z
  . rw [<- z];simp
  . have:p.1 ≠ t:=fun e=>nd.1 (Zm.mpr ⟨_,z,e.symm⟩)
    rw [show (p.1 == t)=false from beq_eq_false_iff_ne.mpr this]
    exact ih nd.2 z
theorem yL {d:Nat->Nat->Bn} {n:Nat} {ps:Pl} (hn:0 < n) (dia:∀ i,i < n->d i i=b0) (clo:∀ k i j,k < n->i < n->j < n->Le (d i j) (bs (d i k) (d k j))) (g:∃ x,rC d n ps x) :
 Li d n (fun t=>vl (mi (atP (br d ps n) t) (atP (br d ps n) 0))):=by
 obtain ⟨⟨x,g1⟩,h1,_⟩:=j8 dia clo g n (Nat.le_refl n)
 intro i j hi hj
 obtain ⟨v,mv⟩:=h1 i hi
 obtain ⟨w,mw⟩:=h1 j hj
 obtain ⟨z,mz⟩:=h1 0 hn
 show Kq (vl (mi (atP (br d ps n) i) (atP (br d ps n) 0)) - vl (mi (atP (br d ps n) j) (atP (br d ps n) 0))) (d i j)
 rw [jd g1.nd mv,jd g1.nd mw,jd g1.nd mz,nr (g1.pos _ mv) (g1.pos _ mz),nr (g1.pos _ mw) (g1.pos _ mz)]
 have k:=g1.am _ mv _ mw
 rw [g1.val _ mv,g1.val _ mw] at k
 have e:vl v - vl z - (vl w - vl z)=vl v - vl w:=by grind
 rw [e]
 exact k
end Mth
namespace Mth
theorem pF {a b:Int}:gc a b=1 <-> Nat.Coprime a.natAbs b.natAbs:=by
 unfold gc Nat.Coprime
 rw [Int.gcd]
 omega
theorem eU {a b:Int} (h:gc a b=1):gc b a=1:=by
 rw [pF] at *;exact h.symm
theorem gR {t a b:Int} (h:gc t a=1) (k:gc t b=1):gc t (a*b)=1:=by
 rw [pF] at *
 rw [Int.natAbs_mul]
 exact h.mul_right k
theorem iK {t s a b:Int} (h:gc t a=1) (k:s ∣ t) (l:b ∣ a):gc s b=1:=by
 rw [pF] at *
 exact Nat.Coprime.coprime_dvd_left (Int.natAbs_dvd_natAbs.mpr k) (Nat.Coprime.coprime_dvd_right (Int.natAbs_dvd_natAbs.mpr l) h)
theorem tT {a b m:Int} (h:gc a b=1):gc (a+m*b) b=1:=by
 unfold gc at *
 rw [Int.gcd_comm,Int.gcd_add_mul_right_right,Int.gcd_comm]
 exact h
theorem k9 {a b:Int} (h:0 < b):gc (a / gc a b) (b / gc a b)=1:=(jy (t:=a) h).one
theorem gU {d a:Int} (h:d ∣ a):a / d ∣ a:=⟨d,(Int.ediv_mul_cancel h).symm⟩
def sm (a b c e:Int):Int×Int :=
 ((a*(e / gc b e)+c*(b / gc b e)) / gc (a*(e / gc b e)+c*(b / gc b e)) (gc b e),
  b / gc b e*(e / gc (a*(e / gc b e)+c*(b / gc b e)) (gc b e)))
theorem yZ {a b c e:Int} (h:Lo a b) (k:Lo c e):sm a b c e=rd (a*e+c*b) (b*e):=by
 have hb:=h.pos
 have he:=k.pos
 have hg:=cB (t:=b) he
 have d1:gc b e ∣ b:=cM
 have d2:gc b e ∣ e:=cb
 have e1:=Int.ediv_mul_cancel d1
 have e2:=Int.ediv_mul_cancel d2
 have q:=k9 (a:=b) he
 have p1:=gU d1
 have p2:=gU d2
 unfold sm
 generalize hg':gc b e=g at *
 generalize hP:b / g=P at *
 generalize hE:e / g=E at *
 generalize hT:a*E+c*P=T at *
 have hl:=cB (t:=T) hg
 have l1:gc T g ∣ T:=cM
 have l2:gc T g ∣ g:=cb
 have l3:gc T g ∣ e:=Int.dvd_trans l2 d2
 have f1:=Int.ediv_mul_cancel l1
 have f2:=Int.ediv_mul_cancel l2
 have f3:=Int.ediv_mul_cancel l3
 have u:=k9 (a:=T) hg
 have tP:gc T P=1:=by
  rw [<- hT]
  refine tT ?_
  have x1:gc P a=1:=iK (eU h.one) p1 (Int.dvd_refl a)
  exact eU (gR x1 q)
 have tE:gc T E=1:=by
  rw [<- hT,Int.add_comm]
  refine tT ?_
  have x1:gc E c=1:=iK (eU k.one) p2 (Int.dvd_refl c)
  exact eU (gR x1 (eU q))
 have p3:=gU l1
 generalize hl':gc T g=l at *
 generalize hT':T / l=T' at *
 generalize hG':g / l=G' at *
 have ee:e / l=E*G':=by
  rw [<- e2,<- f2]
  have:E*(G'*l)=E*G'*l:=by grind
  rw [this,Int.mul_ediv_cancel _ (by omega)]
 rw [ee]
 have hP0:0 < P:=by
  have:0 < P*g:=by omega
  exact Int.pos_of_mul_pos_left this hg
 have hE0:0 < E:=by
  have:0 < E*g:=by omega
  exact Int.pos_of_mul_pos_left this hg
 have hG0:0 < G':=by
  have:0 < G'*l:=by omega
  exact Int.pos_of_mul_pos_left this hl
 refine (vJ (Int.mul_pos hb he) ⟨Int.mul_pos hP0 (Int.mul_pos hE0 hG0),?_⟩ ?_).symm
 . exact gR (iK tP p3 (Int.dvd_refl P)) (gR (iK tE p3 (Int.dvd_refl E)) u)
 . have:a*e+c*b=T*g:=by rw [<- hT,<- e1,<- e2];grind
   rw [this,<- f1,<- e1,<- e2]
   rw [<- f2]
   grind
def tm (a b c e:Int):Int×Int:=(a / gc a e*(c / gc c b),b / gc c b*(e / gc a e))
theorem AS {a b c e:Int} (h:Lo a b) (k:Lo c e):tm a b c e=rd (a*c) (b*e):=by
 have hb:=h.pos
 have he:=k.pos
 have hf:=cB (t:=a) he
 have hs:=cB (t:=c) hb
 have a1:gc a e ∣ a:=cM
 have a2:gc a e ∣ e:=cb
 have b1:gc c b ∣ c:=cM
 have b2:gc c b ∣ b:=cb
 have u:=k9 (a:=a) he
 have v:=k9 (a:=c) hb
 have p1:=gU a1
 have p2:=gU a2
 have p3:=gU b1
 have p4:=gU b2
 have e1:=Int.ediv_mul_cancel a1
 have e2:=Int.ediv_mul_cancel a2
 have e3:=Int.ediv_mul_cancel b1
 have e4:=Int.ediv_mul_cancel b2
 unfold tm
 generalize gc a e=f at *
 generalize gc c b=s at *
 generalize a / f=A at *
 generalize e / f=E at *
 generalize c / s=C at *
 generalize b / s=B at *
 have hE0:0 < E:=by
  have:0 < E*f:=by omega
  exact Int.pos_of_mul_pos_left this hf
 have hB0:0 < B:=by
  have:0 < B*s:=by omega
  exact Int.pos_of_mul_pos_left this hs
 refine (vJ (Int.mul_pos hb he) ⟨Int.mul_pos hB0 hE0,?_⟩ ?_).symm
 . have x1:gc A B=1:=iK h.one p1 p4
   have x2:gc C E=1:=iK k.one p3 p2
   have y1:gc A (B*E)=1:=gR x1 u
   have y2:gc C (B*E)=1:=gR v x2
   exact eU (gR (eU y1) (eU y2))
 . rw [<- e1,<- e2,<- e3,<- e4];grind
theorem Bv {p q:Int×Int} (h:Lw p) (k:Lw q):pl p q=sm p.1 p.2 q.1 q.2:=(yZ h k).symm
theorem BG {p q:Int×Int} (h:Lw p) (k:Lw q):mi p q=sm p.1 p.2 (-q.1) q.2:=by
 rw [yZ h (Lo.neg k)]
 unfold mi
 rw [Int.neg_mul,<- Int.sub_eq_add_neg]
theorem AT {p q:Int×Int} (h:Lw p) (k:Lw q):ti p q=tm p.1 p.2 q.1 q.2:=(AS h k).symm
end Mth
namespace Mth
theorem xc {W M:Int} {a b k:Nat} {p:Int×Int} (h:Dy W M p) (hW:W<=2 ^ a) (hM:M<=2 ^ b) (hk:a+b < k):Fr k p:=by
 have hw:=h.w
 have ht:=h.top
 have hb:=h.bot
 have hp:=h.pos
 have h2a:(0:Int) < 2 ^ a:=gF a
 have h2b:(0:Int) < 2 ^ b:=gF b
 have m1:M*W<=2 ^ b*W:=Int.mul_le_mul_of_nonneg_right hM (Int.le_of_lt hw)
 have m2:(2:Int) ^ b*W<=2 ^ b*2 ^ a:=Int.mul_le_mul_of_nonneg_left hW (Int.le_of_lt h2b)
 have e1:(2:Int) ^ b*2 ^ a=2 ^ (a+b):=by rw [<- Int.pow_add,Nat.add_comm]
 have q:2 ^ (a+b) < 2 ^ k:=Nat.pow_lt_pow_right (by decide) hk
 have q2:2 ^ a < 2 ^ k:=Nat.pow_lt_pow_right (by decide) (by omega)
 have c1:((2 ^ (a+b):Nat):Int)=2 ^ (a+b):=by rw [Int.natCast_pow];rfl
 have c2:((2 ^ a:Nat):Int)=2 ^ a:=by rw [Int.natCast_pow];rfl
 refine ⟨h.lw,?_,?_⟩
 . unfold Sm
   omega
 . unfold Sm
   omega
end Mth
namespace Dl
open PySem PySem.Spec PyProof.Rows L2
structure Cu (P:Program) (w:World) (H H':Hp) (s:Shared) (l:List Env) (B:Heap) (s':Shared):Prop where
 os:s'.os=s.os
 bare:AllBare s'.gens
 un:Un (frs l) [] H H' s.heap s'.heap
 hok:HOk P w H' B
 keepB:∀ b o,s.heap.get? b=some o->H b=none->b ∉ frs l->B.get? b=some o
 thereB:∀ b o,s.heap.get? b=some o->b ∉ frs l->∃ o',B.get? b=some o'
def Ct (P:Program) (w:World) (H H':Hp) (s:Shared) (l:List Env) (x C:Addr) (s':Shared):Prop :=
 ∃ (B:Heap) (t:Addr),Cu P w H H' s l B s'/\Heap.FlyingW B l x (.ref C) (.ref t) s'.heap
section
variable {P:Program} {w:World} {H H':Hp} {s s':Shared} {l:List Env} {B:Heap} {h':Heap}
end
def zr (X:Cx) (C:Addr) (σ:L2.St) (H:Hp):Prop:=∀ (pins:List (Addr×Obj)) (s:Shared) (h':Heap) (e:Addr) (vs:List Value),L2.Inv X pins σ H s->Heap.MadeExcOf s.heap h' e (.ref C) vs->X.xe (.ref e) { s with heap:=h' }
def B6 (X:Cx) (C:Addr) (σ:L2.St) (H:Hp):Prop:=∀ (pins:List (Addr×Obj)) (H₀:Hp) (s:Shared) (x:Addr) (s':Shared),L2.Inv X pins σ H₀ s->Ct X.prog X.w H₀ H s X.stack x C s'->X.xe (.ref x) s'
section
variable {P:Program} {w:World} {K:PySem.W.Frag} {mg:Str->Option Value} {base:Heap} {N:List Str} {qual:Str} {scope:Scope} {f:Addr} {cd:Value} {A:Around} {outer:List Env} {s:Shared} {H:Hp} {E:XK}
end
end Dl
namespace Dl
open PySem PySem.Spec PyProof.Rows L2
inductive D where
 | non
 | bl (b:Bool)
 | int (i:Int)
 | str (x:Str)
 | tup (ds:List D)
 | lst (ds:List D)
 | seq (ds:List D)
 | ty (n:String)
 | dct
 | exc (C:Addr)
 | cls (C:Addr)
 | ms (ks:List Int) (ds:List D)
 | mf (ks:List Int) (ds:List D)
 | md (ks:List Int) (ds:List D)
def Cw (a:Addr):HO:=.ext fun h=>∃ o,h.get? a=some o/\o.cls=.type "dict"
def Cv (a C:Addr):HO:=.ext fun h=>∃ o vs,h.get? a=some o/\o.cls=.ref C/\o.data=.fields vs
mutual
inductive Rep (K:PySem.W.Frag) (H:Hp):V->D->Prop
 | non:Rep K H .non .non
 | bl (b:Bool):Rep K H (.bl b) (.bl b)
 | int (i:Int):Rep K H (.int i) (.int i)
 | str (x:Str):Rep K H (.str x) (.str x)
 | ty (n:String):Rep K H (.ty n) (.ty n)
 | tup {a:Addr} {vs:List V} {ds:List D} (h:SqT K H a vs) (r:Reps K H vs ds):Rep K H (.ref a) (.tup ds)
 | lst {a:Addr} {vs:List V} {ds:List D} (h:H a=some (.lst vs)) (r:Reps K H vs ds):Rep K H (.ref a) (.lst ds)
 | seq {a:Addr} {vs:List V} {ds:List D} (h:SqL K H a vs) (r:Reps K H vs ds):Rep K H (.ref a) (.seq ds)
 | dct {a:Addr} (h:H a=some (Cw a)):Rep K H (.ref a) .dct
 | exc {a C:Addr} (h:H a=some (Cv a C)):Rep K H (.ref a) (.exc C)
 | cls (C:Addr):Rep K H (.ref C) (.cls C)
 | ms {a:Addr} {ks:List Int} {vs:List V} {ds:List D} (h:Rd H a (.dK ((ks.map Sum.inl).zip vs))) (l:ks.length=ds.length) (r:Reps K H vs ds):Rep K H (.ref a) (.ms ks ds)
 | mf {a:Addr} {ks:List Int} {vs:List V} {ds:List D} (h:∃ o,H a=some (.frz o (.dK ((ks.map Sum.inl).zip vs)))) (l:ks.length=ds.length) (r:Reps K H vs ds):Rep K H (.ref a) (.mf ks ds)
 | md {a:Addr} {ks:List Int} {vs:List V} {ds:List D} (h:H a=some (.dK ((ks.map Sum.inl).zip vs))) (l:ks.length=ds.length) (r:Reps K H vs ds):Rep K H (.ref a) (.md ks ds)
inductive Reps (K:PySem.W.Frag) (H:Hp):List V->List D->Prop
 | nil:Reps K H [] []
 | cons {v:V} {d:D} {vs:List V} {ds:List D} (r:Rep K H v d) (t:Reps K H vs ds):Reps K H (v :: vs) (d :: ds)
end
theorem lE {K:PySem.W.Frag} {H H':Hp} {a:Addr} {xs:List V} (e:Same H H') (h:SqT K H a xs):SqT K H' a xs:=by
 rcases h with (h | ⟨o,h⟩) | h
 . exact .inl (.inl (e _ _ h))
 . exact .inl (.inr ⟨o,e _ _ h⟩)
 . exact .inr h
mutual
theorem Rep.mono {K:PySem.W.Frag} {H H':Hp} (e:Same H H'):∀ {v:V} {d:D},Rep K H v d->Rep K H' v d
 | _,_,.non=>.non
 | _,_,.bl b=>.bl b
 | _,_,.int i=>.int i
 | _,_,.str x=>.str x
 | _,_,.ty n=>.ty n
 | _,_,.tup h r=>.tup (lE e h) (Reps.mono e r)
 | _,_,.lst h r=>.lst (e _ _ h) (Reps.mono e r)
 | _,_,.seq h r=>.seq (e.seq h) (Reps.mono e r)
 | _,_,.dct h=>.dct (e _ _ h)
 | _,_,.exc h=>.exc (e _ _ h)
 | _,_,.cls C=>.cls C
 | _,_,.ms h l r=>.ms (h.imp (e _ _) fun ⟨o,h⟩=>⟨o,e _ _ h⟩) l (Reps.mono e r)
 | _,_,.mf ⟨o,h⟩ l r=>.mf ⟨o,e _ _ h⟩ l (Reps.mono e r)
 | _,_,.md h l r=>.md (e _ _ h) l (Reps.mono e r)
theorem Reps.mono {K:PySem.W.Frag} {H H':Hp} (e:Same H H'):∀ {vs:List V} {ds:List D},Reps K H vs ds->Reps K H' vs ds
 | _,_,.nil=>.nil
 | _,_,.cons r t=>.cons (Rep.mono e r) (Reps.mono e t)
end
theorem Reps.length {K:PySem.W.Frag} {H:Hp}:∀ {vs:List V} {ds:List D},Reps K H vs ds->vs.length=ds.length
 | _,_,.nil=>rfl
 | _,_,.cons _ t=>congrArg (· + 1) (Reps.length t)
theorem Reps.get {K:PySem.W.Frag} {H:Hp}:∀ {vs:List V} {ds:List D} {i:Nat} {d:D},Reps K H vs ds->ds[i]? = some d->∃ v,vs[i]? = some v/\Rep K H v d
 | _,_,_,_,.nil,e=>by simp at e
 | _,_,0,_,.cons r _,e=>by simp at e;subst e;exact ⟨_,rfl,r⟩
 | _,_,i+1,d,.cons _ t,e=>by
  obtain ⟨v,h1,h2⟩:=Reps.get (i:=i) (d:=d) t (by simpa using e)
  exact ⟨v,by simpa using h1,h2⟩
theorem Reps.getV {K:PySem.W.Frag} {H:Hp}:∀ {vs:List V} {ds:List D} {i:Nat} {v:V},Reps K H vs ds->vs[i]? = some v->∃ d,ds[i]? = some d/\Rep K H v d
 | _,_,_,_,.nil,e=>by simp at e
 | _,_,0,_,.cons r _,e=>by simp at e;subst e;exact ⟨_,rfl,r⟩
 | _,_,i+1,d,.cons _ t,e=>by
  obtain ⟨v,h1,h2⟩:=Reps.getV (i:=i) (v:=d) t (by simpa using e)
  exact ⟨v,by simpa using h1,h2⟩
theorem Reps.append {K:PySem.W.Frag} {H:Hp}:∀ {vs us:List V} {ds es:List D},Reps K H vs ds->Reps K H us es->Reps K H (vs++us) (ds++es)
 | _,_,_,_,.nil,s=>s
 | _,_,_,_,.cons r t,s=>.cons r (Reps.append t s)
theorem Reps.take {K:PySem.W.Frag} {H:Hp}:∀ {vs:List V} {ds:List D} (n:Nat),Reps K H vs ds->Reps K H (vs.take n) (ds.take n)
 | _,_,0,_=>.nil
 | _,_,_+1,.nil=>.nil
 | _,_,n+1,.cons r t=>.cons r (Reps.take n t)
theorem Reps.drop {K:PySem.W.Frag} {H:Hp}:∀ {vs:List V} {ds:List D} (n:Nat),Reps K H vs ds->Reps K H (vs.drop n) (ds.drop n)
 | _,_,0,r=>r
 | _,_,_+1,.nil=>.nil
 | _,_,n+1,.cons _ t=>Reps.drop n t
theorem Reps.ints {K:PySem.W.Frag} {H:Hp}:∀ (ns:List Int),Reps K H (ns.map V.int) (ns.map D.int)
 | []=>.nil
 | n :: r=>.cons (.int n) (Reps.ints r)
theorem Reps.atI {K:PySem.W.Frag} {H:Hp} {vs:List V} {ds:List D} {i:Int} {d:D} (r:Reps K H vs ds) (e:L2.atI ds i=some d):∃ v,L2.atI vs i=some v/\Rep K H v d:=by
 unfold L2.atI at e ⊢
 rw [<- r.length] at e
 obtain ⟨j,h1,h2⟩:=Za.mp e
 obtain ⟨v,h3,h4⟩:=r.get h2
 exact ⟨v,by rw [h1];exact h3,h4⟩
abbrev DS:=List (Option D)
structure RepS (K:PySem.W.Frag) (H:Hp) (σ:L2.St) (δ:DS):Prop where
 len:σ.length=δ.length
 val:∀ (i:Nat) (d:D),δ[i]? = some (some d)->∃ v,σ[i]? = some (some v)/\Rep K H v d
theorem RepS.mono {K:PySem.W.Frag} {H H':Hp} {σ:L2.St} {δ:DS} (e:Same H H') (h:RepS K H σ δ):RepS K H' σ δ :=
 ⟨h.len,fun i d q=>let ⟨v,a,b⟩:=h.val i d q;⟨v,a,b.mono e⟩⟩
theorem RepS.set {K:PySem.W.Frag} {H:Hp} {σ:L2.St} {δ:DS} {v:V} {d:D} (h:RepS K H σ δ) (i:Nat) (r:Rep K H v d):RepS K H (σ.set i (some v)) (δ.set i (some d)):=by
 refine ⟨by rw [List.length_set,List.length_set];exact h.len,fun j e q=>?_⟩
 have hl:=h.len
 rw [List.getElem?_set] at q ⊢
 by_cases hj:i=j
 . subst hj
   rw [if_pos rfl] at q ⊢
   by_cases hi:i < δ.length
   . rw [if_pos hi] at q
     rw [if_pos (by omega)]
     have:d=e:=by simpa using q
     subst this
     exact ⟨v,rfl,r⟩
   . rw [if_neg hi] at q;cases q
 . rw [if_neg hj] at q ⊢
   exact h.val j e q
theorem RepS.start {K:PySem.W.Frag} {H:Hp} {N:List Str} {vs:List V} {ds:List D} (r:Reps K H vs ds):RepS K H (L2.start N vs) (ds.map some++List.replicate (N.length - ds.length) none):=by
 unfold L2.start
 refine ⟨by simp [r.length],fun i d q=>?_⟩
 have hi:i < ds.length:=by
  by_cases hi:i < ds.length
  . exact hi
  . rw [List.getElem?_append_right (by simpa using hi),List.getElem?_replicate] at q
    split at q <;> cases q
 rw [List.getElem?_append_left (by simpa using hi),List.getElem?_map] at q
 obtain ⟨e,h1,h2⟩:=Zb.mp q
 cases h2
 obtain ⟨v,h3,h4⟩:=r.get h1
 have hv:i < vs.length:=by rw [r.length];exact hi
 exact ⟨v,by rw [List.getElem?_append_left (by simpa using hv),List.getElem?_map,h3];rfl,h4⟩
abbrev FD:=DS->Option D
def up (K:PySem.W.Frag) (f:FD):TE:=fun σ H Q=>∃ δ d,RepS K H σ δ/\f δ=some d/\∀ v H',Same H H'->Rep K H' v d->Q v H'
def PD (X:Cx) (e:Expr) (f:FD):Prop:=PE X e (up X.K f)
theorem imp {X:Cx} {e:Expr} {t t':TE} (h:PE X e t) (w:∀ σ H Q,t' σ H Q->t σ H Q):PE X e t':=fun pins s σ H Q I q=>h pins s σ H Q I (w σ H Q q)
theorem c5 {H:Hp} {p:Addr} (h:H p=none) (o:HO):Same H (upd H p o):=fun b u q=>by rw [ax (cA q h)];exact q
def ac (i:Nat):FD:=fun δ=>match δ[i]? with
 | some (some d)=>some d
 | _=>none
def fC (d:D):FD:=fun _=>some d
def f2 (g:D->D->Option D) (fa fb:FD):FD:=fun δ=>(fa δ).bind fun x=>(fb δ).bind fun y=>g x y
def f1 (g:D->Option D) (fa:FD):FD:=fun δ=>(fa δ).bind g
section
variable {X:Cx} {a b e:Expr} {fa fb f:FD} {pos:Pos}
theorem ab (i:Nat) {x:Str} (hN:X.N[i]? = some x:=by rfl) (hv:Vis X.env.scope x:=by first | exact Or.inl rfl | exact Or.inr (Or.inl rfl) | exact Or.inr (Or.inr rfl)) (hd:(x == ("__debug__":Str))=false:=by decide)
 (hcd:(x == ("__classdict__":Str))=false:=by decide):PD X (.Name x pos) (ac i) :=
 imp (oZ hN hv hd hcd) fun σ H Q ⟨δ,d,R,e,k⟩=>by
  unfold ac at e
  split at e
  . rename_i d' h
    cases e
    obtain ⟨v,h1,h2⟩:=R.val i _ h
    exact ⟨v,h1,k v H (Same.refl H) h2⟩
  . cases e
theorem ag {i j}:PD X (.Constant (.int i) j pos) (fC (.int i)):=imp zY fun σ H Q ⟨δ,d,R,e,k⟩=>by cases e;exact k _ H (Same.refl H) (.int i)
theorem ki {b j}:PD X (.Constant (.bool b) j pos) (fC (.bl b)):=imp Bz fun σ H Q ⟨δ,d,R,e,k⟩=>by cases e;exact k _ H (Same.refl H) (.bl b)
theorem bW {j}:PD X (.Constant .none j pos) (fC .non):=imp zX fun σ H Q ⟨δ,d,R,e,k⟩=>by cases e;exact k _ H (Same.refl H) .non
theorem jY {x j}:PD X (.Constant (.str x) j pos) (fC (.str x)):=imp zU fun σ H Q ⟨δ,d,R,e,k⟩=>by cases e;exact k _ H (Same.refl H) (.str x)
theorem zc {x:Str} {n:String} (hg:Gl X x) (hm:X.mg x=none) (hv:bootBuiltins x=some (.type n)) (hn:x ≠ "__name__":=by decide) (hd:(x == ("__debug__":Str))=false:=by decide):PD X (.Name x pos) (fC (.ty n)) :=
 imp (x6 (v:=.ty n) hg hm hv rfl hn hd) fun σ H Q ⟨δ,d,R,e,k⟩=>by cases e;exact k _ H (Same.refl H) (.ty n)
def R2D (K:PySem.W.Frag) (r:R2) (g:D->D->Option D):Prop :=
 ∀ (x y:V) (H:Hp) (Q:VK) (a b d:D),Rep K H x a->Rep K H y b->g a b=some d->(∀ w H',Same H H'->Rep K H' w d->Q w H')->r x y H Q
theorem yz {r:R2} {g:D->D->Option D} (hg:R2D X.K r g) {σ:L2.St} {H:Hp} {Q:VK} (h:up X.K (f2 g fa fb) σ H Q):tOp r (up X.K fa) (up X.K fb) σ H Q:=by
 obtain ⟨δ,d,R,e,k⟩:=h
 unfold f2 at e
 obtain ⟨x,ex,e⟩:=Za.mp e
 obtain ⟨y,ey,e⟩:=Za.mp e
 exact ⟨δ,x,R,ex,fun v H1 s1 r1=>⟨δ,y,R.mono s1,ey,fun w H2 s2 r2=>hg v w H2 Q x y d (r1.mono s2) r2 e fun z H' s3=>k z H' ((s1.trans s2).trans s3)⟩⟩
theorem lW {op:Operator} {r:R2} {g:D->D->Option D} (ho:OpR X (binaryOp op) r) (hg:R2D X.K r g) (ha:PD X a fa) (hb:PD X b fb):PD X (.BinOp a op b pos) (f2 g fa fb) :=
 imp (zb ho ha hb) fun _ _ _=>yz hg
theorem pc {op:CmpOp} {r:R2} {g:D->D->Option D} (ho:OpR X (compareOp op) r) (hg:R2D X.K r g) (ha:PD X a fa) (hb:PD X b fb) (hm:behindInMarks op b=false):PD X (.Compare a [op] [b] pos) (f2 g fa fb) :=
 imp (x5 ho ha hb hm) fun _ _ _=>yz hg
theorem z5 {r:R2} {g:D->D->Option D} (hr:IxR X r) (hg:R2D X.K r g) (ha:PD X a fa) (hb:PD X b fb) (hs:ls b):PD X (.Subscript a b pos) (f2 g fa fb) :=
 imp (kh hr ha hb hs) fun _ _ _=>yz hg
theorem R2D.or {K:PySem.W.Frag} {r r':R2} {g g':D->D->Option D} (h:R2D K r g) (h':R2D K r' g'):R2D K (fun x y H Q=>r x y H Q \/ r' x y H Q) (fun a b=>(g a b).or (g' a b)):=by
 intro x y H Q a b d ra rb e k
 cases q:g a b with
 | some z =>
  have e':(g a b).or (g' a b)=some d:=e
  rw [q] at e'
  cases e'
  exact .inl (h x y H Q a b _ ra rb q k)
 | none =>
  have e':(g a b).or (g' a b)=some d:=e
  rw [q] at e'
  exact .inr (h' x y H Q a b d ra rb e' k)
end
def Bd (x:Int):Prop:=x.natAbs < 2 ^ 9000
instance (x:Int):Decidable (Bd x):=by unfold Bd;exact inferInstance
theorem Bd.bits {x:Int} (h:Bd x):Builtin.Int.intBits x<=2 ^ 20:=by
 have h':x.natAbs < 2 ^ (2 ^ 20):=Nat.lt_of_lt_of_le h (Nat.pow_le_pow_right (by decide) (by decide))
 exact PySem.intBits_le_iff.mpr h'
theorem Bd.log {x:Int} (h:Bd x) (h0:x ≠ 0):x.natAbs.log2 < 9000:=(Nat.log2_lt (by omega)).mpr h
section
variable {X:Cx} {K:PySem.W.Frag}
def aF (i j:Int):Prop:=Bd i/\Bd j
theorem yc:OpR X (binaryOp .Mult) (rI aF fun i j=>.int (i*j)):=opI fun _ _ _ _ _ _ _ hc q=>mul_int q (.of_bits hc.1.bits hc.2.bits)
def au (_ j:Int):Prop:=0 < j/\Bd j
theorem wj:OpR X (binaryOp .FloorDiv) (rI au fun i j=>.int (i / j)):=opI fun i j _ _ _ _ _ hc q=>by
 have h1:(0:Int) < j:=hc.1
 exact floordiv_int (by omega) (by rw [Int.fdiv_eq_ediv_of_nonneg i (by omega)];exact q) (.inl (PyProof.noPylong_of_log2 (hc.2.log (by omega))))
def gI0 (g:Int->Int->D):D->D->Option D
 | .int i,.int j=>some (g i j)
 | _,_=>none
def gI (C:Int->Int->Prop) [∀ i j,Decidable (C i j)] (g:Int->Int->D):D->D->Option D
 | .int i,.int j=>if C i j then some (g i j) else none
 | _,_=>none
instance (i j:Int):Decidable (aF i j):=by unfold aF;exact inferInstance
instance (i j:Int):Decidable (au i j):=by unfold au;exact inferInstance
instance (i j:Int):Decidable (kM i j):=by unfold kM;exact inferInstance
theorem nN {g:Int->Int->V} {g':Int->Int->D} (h:∀ H i j,Rep K H (g i j) (g' i j)):R2D K (rI0 g) (gI0 g'):=by
 intro x y H Q a b d ra rb e k
 cases ra with
 | int i =>
  cases rb with
  | int j=>cases e;exact ⟨i,j,rfl,rfl,k _ H (Same.refl H) (h H i j)⟩
  | _=>cases e
 | _=>cases e
theorem vL {C:Int->Int->Prop} [∀ i j,Decidable (C i j)] {g:Int->Int->V} {g':Int->Int->D} (h:∀ H i j,Rep K H (g i j) (g' i j)):R2D K (rI C g) (gI C g'):=by
 intro x y H Q a b d ra rb e k
 cases ra with
 | int i =>
  cases rb with
  | int j =>
   have e':(if C i j then some (g' i j) else none)=some d:=e
   by_cases hc:C i j
   . rw [if_pos hc] at e';cases e';exact ⟨i,j,rfl,rfl,hc,k _ H (Same.refl H) (h H i j)⟩
   . rw [if_neg hc] at e';cases e'
  | _=>cases e
 | _=>cases e
end
def BT:D->D->Option D
 | .lst xs,.lst ys=>if xs.length+ys.length<=1000 then some (.lst (xs++ys)) else none
 | _,_=>none
theorem de {n:Nat} (h:n<=1000):n<=sizeLine:=Nat.le_of_lt (iC h)
theorem zI {K:PySem.W.Frag}:R2D K Bm BT:=by
 intro x y H Q a b d ra rb e k
 cases ra with
 | @lst p xs ds hp rp =>
  cases rb with
  | @lst q ys es hq rq =>
   have e':(if ds.length+es.length<=1000 then some (D.lst (ds++es)) else none)=some d:=e
   by_cases hc:ds.length+es.length<=1000
   . rw [if_pos hc] at e';cases e'
     refine ⟨p,q,xs,ys,rfl,rfl,hp,hq,de (by rw [rp.length,rq.length];exact hc),fun l hl=>?_⟩
     have s:=c5 hl (.lst (xs++ys))
     exact k _ _ s (.lst aU ((rp.append rq).mono s))
   . rw [if_neg hc] at e';cases e'
  | _=>cases e
 | _=>cases e
def bi:D->D->Option D:=fun a b=>(gI0 (fun i j=>.int (i+j)) a b).or (BT a b)
def gIx:D->D->Option D
 | .tup ds,.int i=>L2.atI ds i
 | .lst ds,.int i=>L2.atI ds i
 | .seq ds,.int i=>L2.atI ds i
 | _,_=>none
theorem Bq {K:PySem.W.Frag}:R2D K (fun x y H Q=>uA K x y H Q \/ Bg K x y H Q) gIx:=by
 intro x y H Q a b d ra rb e k
 cases rb with
 | int i =>
  cases ra with
  | @tup p vs ds hp rp =>
   have e':L2.atI ds i=some d:=e
   obtain ⟨v,h1,h2⟩:=rp.atI e'
   exact .inr ⟨p,vs,i,v,rfl,rfl,hp,h1,k v H (Same.refl H) h2⟩
  | @lst p vs ds hp rp =>
   have e':L2.atI ds i=some d:=e
   obtain ⟨v,h1,h2⟩:=rp.atI e'
   exact .inl ⟨p,vs,i,v,rfl,rfl,SqL.of hp,h1,k v H (Same.refl H) h2⟩
  | @seq p vs ds hp rp =>
   have e':L2.atI ds i=some d:=e
   obtain ⟨v,h1,h2⟩:=rp.atI e'
   exact .inl ⟨p,vs,i,v,rfl,rfl,hp,h1,k v H (Same.refl H) h2⟩
  | _=>cases e
 | _=>cases ra <;> cases e
section
variable {X:Cx} {a b e:Expr} {fa fb f:FD} {pos:Pos}
theorem bH (ha:PD X a fa) (hb:PD X b fb):PD X (.BinOp a .Add b pos) (f2 bi fa fb):=lW (op_add.or Ae) ((nN fun _ _ _=>.int _).or zI) ha hb
theorem i3 (ha:PD X a fa) (hb:PD X b fb):PD X (.BinOp a .Sub b pos) (f2 (gI0 fun i j=>.int (i - j)) fa fb):=lW z8 (nN fun _ _ _=>.int _) ha hb
theorem bL (ha:PD X a fa) (hb:PD X b fb):PD X (.BinOp a .Mult b pos) (f2 (gI aF fun i j=>.int (i*j)) fa fb):=lW yc (vL fun _ _ _=>.int _) ha hb
theorem aW (ha:PD X a fa) (hb:PD X b fb):PD X (.BinOp a .FloorDiv b pos) (f2 (gI au fun i j=>.int (i / j)) fa fb):=lW wj (vL fun _ _ _=>.int _) ha hb
theorem bx (ha:PD X a fa) (hb:PD X b fb):PD X (.BinOp a .Mod b pos) (f2 (gI (fun _ j=>0 < j) fun i j=>.int (i % j)) fa fb):=lW Ac (vL fun _ _ _=>.int _) ha hb
theorem rS (ha:PD X a fa) (hb:PD X b fb):PD X (.BinOp a .Pow b pos) (f2 (gI kM fun i j=>.int (i ^ j.toNat)) fa fb):=lW z9 (vL fun _ _ _=>.int _) ha hb
theorem ap (ha:PD X a fa) (hb:PD X b fb) (hs:ls b:=by intro _ _;rfl):PD X (.Subscript a b pos) (f2 gIx fa fb):=z5 (ix_list.or wL) Bq ha hb hs
def fV:D->Option D
 | .int i=>some (.int (-i))
 | _=>none
theorem i4 (ha:PD X a fa):PD X (.UnaryOp .USub a pos) (f1 fV fa):=imp (Bx zu ha) fun σ H Q ⟨δ,d,R,e,k⟩=>by
 unfold f1 at e
 obtain ⟨x,ex,e⟩:=Za.mp e
 refine ⟨δ,x,R,ex,fun v H1 s1 r1=>?_⟩
 cases r1 with
 | int i=>cases e;exact ⟨i,rfl,k _ H1 s1 (.int _)⟩
 | _=>cases e
end
abbrev FT:=DS->Option Bool
def upT (K:PySem.W.Frag) (f:FT):TT:=fun σ H Q=>∃ δ b,RepS K H σ δ/\f δ=some b/\∀ H',Same H H'->Q b H'
def PTD (X:Cx) (e:Expr) (f:FT):Prop:=PT X e (upT X.K f)
def PWD (X:Cx) (e:Expr) (f:FT):Prop:=PW X e (upT X.K f)
theorem yw {X:Cx} {e:Expr} {t t':TT} (h:PT X e t) (w:∀ σ H Q,t' σ H Q->t σ H Q):PT X e t':=fun pins s σ H Q I q=>h pins s σ H Q I (w σ H Q q)
theorem BL {X:Cx} {e:Expr} {t t':TT} (h:PW X e t) (w:∀ σ H Q,t' σ H Q->t σ H Q):PW X e t':=fun wh pins s σ H Q I q=>h wh pins s σ H Q I (w σ H Q q)
def asB:D->Option Bool
 | .bl b=>some b
 | _=>none
def fT (f:FD):FT:=fun δ=>(f δ).bind asB
def gj (f:FT):FT:=fun δ=>(f δ).map not
def fO (f g:FT):FT:=fun δ=>(f δ).bind fun b=>match b with
 | true=>g δ
 | false=>some false
def eY (f g:FT):FT:=fun δ=>(f δ).bind fun b=>match b with
 | true=>some true
 | false=>g δ
section
variable {X:Cx} {a b e:Expr} {fa fb f:FD} {ta tb:FT} {rest:List Expr} {pos:Pos}
theorem sC {K:PySem.W.Frag} {t:TE} (w:∀ σ H Q,up K f σ H Q->t σ H Q) {σ:L2.St} {H:Hp} {Q:Bool->Hp->Prop} (h:upT K (fT f) σ H Q):t σ H fun x H1=>∃ c,x=.bl c/\Q c H1:=by
 obtain ⟨δ,b,R,e,k⟩:=h
 unfold fT at e
 obtain ⟨d,ed,e⟩:=Za.mp e
 refine w σ H _ ⟨δ,d,R,ed,fun v H' s r=>?_⟩
 cases r with
 | bl c=>cases e;exact ⟨_,rfl,k H' s⟩
 | _=>cases e
theorem fF (h:PD X e f) (he:∀ whole,isTrue e X.env whole=(do let v <- whole;standAt e.pos;holding [v] (truthy v)):=by intro _;rfl):PTD X e (fT f) :=
 yw (zP h he) fun _ _ _ q=>sC (fun _ _ _ z=>z) q
theorem fG {op:CmpOp} {r:R2} {g:D->D->Option D} (ho:OpR X (compareOp op) r) (hg:R2D X.K r g) (ha:PD X a fa) (hb:PD X b fb) (hm:behindInMarks op b=false):PTD X (.Compare a [op] [b] pos) (fT (f2 g fa fb)) :=
 yw (xP ho ha hb hm) fun _ _ _ q=>sC (fun _ _ _ z=>yz hg z) q
theorem jB (ha:PTD X a ta):PTD X (.UnaryOp .Not a pos) (gj ta):=yw (zQ ha) fun σ H Q ⟨δ,b,R,e,k⟩=>by
 unfold gj at e
 obtain ⟨c,ec,e⟩:=Zb.mp e
 exact ⟨δ,c,R,ec,fun H' s=>by have:=k H' s;rw [<- e] at this;exact this⟩
theorem PWD.pt (h:PWD X e ta):PTD X e ta:=h _
theorem qr (ha:PTD X a ta):PWD X (.BoolOp .And [a] pos) ta:=xN ha
theorem jz (ha:PTD X a ta):PWD X (.BoolOp .Or [a] pos) ta:=zL ha
theorem tt (ha:PTD X a ta) (hb:PWD X (.BoolOp .And (b :: rest) pos) tb):PWD X (.BoolOp .And (a :: b :: rest) pos) (fO ta tb):=BL (zM ha hb) fun σ H Q ⟨δ,c,R,e,k⟩=>by
 unfold fO at e
 obtain ⟨d,ed,e⟩:=Za.mp e
 refine ⟨δ,d,R,ed,fun H' s=>?_⟩
 cases d with
 | true=>exact ⟨δ,c,R.mono s,e,fun H2 s2=>k H2 (s.trans s2)⟩
 | false=>cases e;exact k H' s
theorem lP (ha:PTD X a ta) (hb:PWD X (.BoolOp .Or (b :: rest) pos) tb):PWD X (.BoolOp .Or (a :: b :: rest) pos) (eY ta tb):=BL (Bt ha hb) fun σ H Q ⟨δ,c,R,e,k⟩=>by
 unfold eY at e
 obtain ⟨d,ed,e⟩:=Za.mp e
 refine ⟨δ,d,R,ed,fun H' s=>?_⟩
 cases d with
 | false=>exact ⟨δ,c,R.mono s,e,fun H2 s2=>k H2 (s.trans s2)⟩
 | true=>cases e;exact k H' s
def gB (f g:FD):FD:=fun δ=>(f δ).bind fun x=>match x with
 | .bl true=>g δ
 | .bl false=>some (.bl false)
 | _=>none
def w6 (f g:FD):FD:=fun δ=>(f δ).bind fun x=>match x with
 | .bl true=>some (.bl true)
 | .bl false=>g δ
 | _=>none
def sg:D->Option D
 | .bl b=>some (.bl (!b))
 | _=>none
theorem jZ {op} (h:PD X a f):PD X (.BoolOp op [a] pos) f:=zV h
theorem pd (ha:PD X a fa) (hb:PD X (.BoolOp .And (b :: rest) pos) fb):PD X (.BoolOp .And (a :: b :: rest) pos) (gB fa fb):=imp (zZ ha hb) fun σ H Q ⟨δ,d,R,e,k⟩=>by
 unfold gB at e
 obtain ⟨x,ex,e⟩:=Za.mp e
 refine ⟨δ,x,R,ex,fun v H1 s1 r1=>?_⟩
 cases r1 with
 | bl c =>
  refine ⟨c,rfl,?_⟩
  cases c with
  | true=>rw [if_pos rfl];exact ⟨δ,d,R.mono s1,e,fun w H2 s2=>k w H2 (s1.trans s2)⟩
  | false=>rw [if_neg Bool.false_ne_true];cases e;exact k _ H1 s1 (.bl false)
 | _=>cases e
theorem zd (ha:PD X a fa) (hb:PD X (.BoolOp .Or (b :: rest) pos) fb):PD X (.BoolOp .Or (a :: b :: rest) pos) (w6 fa fb):=imp (By ha hb) fun σ H Q ⟨δ,d,R,e,k⟩=>by
 unfold w6 at e
 obtain ⟨x,ex,e⟩:=Za.mp e
 refine ⟨δ,x,R,ex,fun v H1 s1 r1=>?_⟩
 cases r1 with
 | bl c =>
  refine ⟨c,rfl,?_⟩
  cases c with
  | true=>rw [if_pos rfl];cases e;exact k _ H1 s1 (.bl true)
  | false=>rw [if_neg Bool.false_ne_true];exact ⟨δ,d,R.mono s1,e,fun w H2 s2=>k w H2 (s1.trans s2)⟩
 | _=>cases e
theorem lX (ha:PD X a fa):PD X (.UnaryOp .Not a pos) (f1 sg fa):=imp (zW ha) fun σ H Q ⟨δ,d,R,e,k⟩=>by
 unfold f1 at e
 obtain ⟨x,ex,e⟩:=Za.mp e
 refine ⟨δ,x,R,ex,fun v H1 s1 r1=>?_⟩
 cases r1 with
 | bl c=>cases e;exact ⟨c,rfl,k _ H1 s1 (.bl _)⟩
 | _=>cases e
end
abbrev FA:=DS->Option (List D)
def upA (K:PySem.W.Frag) (n:Nat) (f:FA):TA:=fun σ H Q=>∃ δ ds,RepS K H σ δ/\f δ=some ds/\∀ vs H',Same H H'->Reps K H' vs ds->vs.length=n->Q vs H'
def PAD (X:Cx) (es:List Expr) (f:FA):Prop:=PA X es (upA X.K es.length f)
theorem yx {X:Cx} {es:List Expr} {t t':TA} (h:PA X es t) (w:∀ σ H Q,t' σ H Q->t σ H Q):PA X es t':=fun pos pins s σ H Q I q=>h pos pins s σ H Q I (w σ H Q q)
def ae:FA:=fun _=>some []
def aa (f:FD) (g:FA):FA:=fun δ=>(f δ).bind fun x=>(g δ).bind fun xs=>some (x :: xs)
def bh (K:PySem.W.Frag) (n:Nat) (G:List D->Option D):Sp:=fun vs H Q _=>vs.length=n/\∃ ds d,Reps K H vs ds/\G ds=some d/\∀ v H',Same H H'->Rep K H' v d->Q v H'
def cP (g:FA):FD:=fun δ=>(g δ).bind fun ds=>some (.tup ds)
def gr (g:FA):FD:=fun δ=>(g δ).bind fun ds=>some (.lst ds)
def ah (G:List D->Option D) (g:FA):FD:=fun δ=>(g δ).bind G
section
variable {X:Cx} {e:Expr} {es:List Expr} {f:FD} {g:FA} {pos p:Pos}
theorem af:PAD X [] ae:=yx gL fun σ H Q ⟨δ,ds,R,e,k⟩=>by cases e;exact k [] H (Same.refl H) .nil rfl
theorem ad (ha:PD X e f) (hr:PAD X es g) (hs:starEach (e :: es) X.env=(false,eval e X.env) :: starEach es X.env:=by rfl):PAD X (e :: es) (aa f g):=yx (dW ha hr hs) fun σ H Q ⟨δ,ds,R,q,k⟩=>by
 unfold aa at q
 obtain ⟨x,ex,q⟩:=Za.mp q
 obtain ⟨xs,exs,q⟩:=Za.mp q
 cases q
 exact ⟨δ,x,R,ex,fun v H1 s1 r1=>⟨δ,xs,R.mono s1,exs,fun vs H2 s2 r2 l=>k (v :: vs) H2 (s1.trans s2) (.cons (r1.mono s2) r2) (congrArg (· + 1) l)⟩⟩
theorem dS {x1} (h:PAD X es g) (hz:es.length<=1000:=by decide):PD X (.Tuple es x1 pos) (cP g):=imp (v9 h) fun σ H Q ⟨δ,d,R,q,k⟩=>by
 unfold cP at q
 obtain ⟨ds,eds,q⟩:=Za.mp q
 cases q
 refine ⟨δ,ds,R,eds,fun vs H1 s1 r1 l=>⟨de (by rw [l];exact hz),fun p hp=>?_⟩⟩
 have s:=c5 hp (.tup vs)
 exact k _ _ (s1.trans s) (.tup (SqT.of aU) (r1.mono s))
theorem lY (h:PAD X es g) (hz:es.length<=1000:=by decide):PD X (.List es pos) (gr g):=imp (wb h) fun σ H Q ⟨δ,d,R,q,k⟩=>by
 unfold gr at q
 obtain ⟨ds,eds,q⟩:=Za.mp q
 cases q
 refine ⟨δ,ds,R,eds,fun vs H1 s1 r1 l=>⟨de (by rw [l];exact hz),fun p hp=>?_⟩⟩
 have s:=c5 hp (.lst vs)
 exact k _ _ (s1.trans s) (.lst aU (r1.mono s))
theorem x9 {k n:Nat} {x:Str} {f:Addr} {fd:FuncData} {ps:List Str} {G:List D->Option D} (F:FnOk X.prog X.w X.K X.mg X.base CX0 k f fd ps (bh X.K n G)) (hr:Room k X.A) (hg:Gl X x) (hm:X.mg x=some (.ref f)) (hk:PySem.W.keepIn X.K (.ref f)=true) (hb:Binds X.K fd ps [])
 (ha:PAD X (e :: es) g) (hn:(e :: es).length=n:=by rfl) (hdb:(x == ("__debug__":Str))=false:=by decide) (he:starEach (e :: es) X.env=(false,eval e X.env) :: starEach es X.env:=by rfl) (hpl:(backTo pos (starEach es X.env)).any (·.1)=false:=by rfl) :
 PD X (.Call (.Name x p) (e :: es) [] pos) (ah G g):=imp (kY F hr hg hm hk hb .nil (tG) ha hdb he hpl) fun σ H Q ⟨δ,d,R,q,k⟩=>by
 unfold ah at q
 obtain ⟨ds,eds,q⟩:=Za.mp q
 refine ⟨δ,ds,R,eds,fun vs H1 s1 r1 l=>?_⟩
 show bh X.K n G (vs++[]) H1 Q E0
 rw [List.append_nil]
 exact ⟨l.trans hn,ds,d,r1,q,fun v H' s=>k v H' (s1.trans s)⟩
def ku (K:PySem.W.Frag) (r:List V->Hp->VK->Prop) (G:List D->Option D):Prop :=
 ∀ (xs:List V) (H:Hp) (Q:VK) (ds:List D) (d:D),Reps K H xs ds->G ds=some d->(∀ w H',Same H H'->Rep K H' w d->Q w H')->r xs H Q
theorem wN {r:List V->Hp->VK->Prop} {G:List D->Option D} {n:Nat} (hG:ku X.K r G) {σ:L2.St} {H:Hp} {Q:VK} (h:up X.K (ah G g) σ H Q):tCB r (upA X.K n g) σ H Q:=by
 obtain ⟨δ,d,R,q,k⟩:=h
 unfold ah at q
 obtain ⟨ds,eds,q⟩:=Za.mp q
 exact ⟨δ,ds,R,eds,fun vs H1 s1 r1 _=>hG vs H1 Q ds d r1 q fun w H' s=>k w H' (s1.trans s)⟩
theorem bg {id:String} {x:Str} {r:List V->Hp->VK->Prop} {G:List D->Option D} (hc:iz X (.builtin id) r) (hG:ku X.K r G) (hg:Gl X x) (hm:X.mg x=none) (hv:bootBuiltins x=some (.builtin id)) (ha:PAD X (e :: es) g) (hn:x ≠ "__name__":=by decide) (hdb:(x == ("__debug__":Str))=false:=by decide)
 (he:starEach (e :: es) X.env=(false,eval e X.env) :: starEach es X.env:=by rfl) (hpl:(backTo pos (starEach es X.env)).any (·.1)=false:=by rfl):PD X (.Call (.Name x p) (e :: es) [] pos) (ah G g) :=
 imp (wc hc hg hm hv ha hn hdb he hpl) fun _ _ _ h=>wN hG h
theorem uF {T:String} {x:Str} {r:List V->Hp->VK->Prop} {G:List D->Option D} (hc:iz X (.type T) r) (hG:ku X.K r G) (hg:Gl X x) (hm:X.mg x=none) (hv:bootBuiltins x=some (.type T)) (ha:PAD X (e :: es) g) (hn:x ≠ "__name__":=by decide) (hdb:(x == ("__debug__":Str))=false:=by decide)
 (he:starEach (e :: es) X.env=(false,eval e X.env) :: starEach es X.env:=by rfl) (hpl:(backTo pos (starEach es X.env)).any (·.1)=false:=by rfl):PD X (.Call (.Name x p) (e :: es) [] pos) (ah G g) :=
 imp (jX hc hg hm hv ha hn hdb he hpl) fun _ _ _ h=>wN hG h
end
theorem fM {K:PySem.W.Frag} {H:Hp} {xs:List V} {d:D} (r:Reps K H xs [d]):∃ x,xs=[x]/\Rep K H x d:=by
 cases r with
 | cons a t=>cases t;exact ⟨_,rfl,a⟩
theorem vF {K:PySem.W.Frag} {H:Hp} {xs:List V} {d e:D} (r:Reps K H xs [d,e]):∃ x y,xs=[x,y]/\Rep K H x d/\Rep K H y e:=by
 cases r with
 | cons a t =>
  obtain ⟨y,h1,h2⟩:=fM t
  subst h1
  exact ⟨_,y,rfl,a,h2⟩
def BU:List D->Option D
 | [.int i]=>some (.int (i.natAbs:Int))
 | _=>none
theorem AD {K:PySem.W.Frag}:ku K (fun xs H Q=>∃ i,xs=[.int i]/\Q (.int (if i < 0 then -i else i)) H) BU:=by
 intro xs H Q ds d r e k
 unfold BU at e
 split at e
 . rename_i i
   cases e
   obtain ⟨x,rfl,rx⟩:=fM r
   cases rx
   refine ⟨i,rfl,?_⟩
   have e:(if i < 0 then -i else i)=(i.natAbs:Int):=by split <;> omega
   rw [e]
   exact k _ H (Same.refl H) (.int _)
 . cases e
def sj:List D->Option D
 | [.int i]=>some (.int i)
 | [.bl b]=>some (.int (if b then 1 else 0))
 | _=>none
theorem AB {K:PySem.W.Frag}:ku K (fun xs H Q=>(∃ i,xs=[.int i]/\Q (.int i) H) \/ ∃ k,xs=[.bl k]/\Q (.int (if k then 1 else 0)) H) sj:=by
 intro xs H Q ds d r e k
 unfold sj at e
 split at e
 . rename_i i
   cases e
   obtain ⟨x,rfl,rx⟩:=fM r
   cases rx
   exact .inl ⟨i,rfl,k _ H (Same.refl H) (.int _)⟩
 . rename_i b
   cases e
   obtain ⟨x,rfl,rx⟩:=fM r
   cases rx
   exact .inr ⟨b,rfl,k _ H (Same.refl H) (.int _)⟩
 . cases e
def dr:List D->Option D
 | [.tup ds]=>some (.int ds.length)
 | [.lst ds]=>some (.int ds.length)
 | [.seq ds]=>some (.int ds.length)
 | _=>none
theorem cZ {K:PySem.W.Frag}:ku K (fun xs H Q=>∃ p ys,xs=[.ref p]/\(SqL K H p ys \/ SqT K H p ys)/\Q (.int ys.length) H) dr:=by
 intro xs H Q ds d r e k
 unfold dr at e
 split at e
 . cases e
   obtain ⟨x,rfl,rx⟩:=fM r
   cases rx with
   | @tup p vs _ hp rp=>exact ⟨p,vs,rfl,.inr hp,by rw [rp.length];exact k _ H (Same.refl H) (.int _)⟩
 . cases e
   obtain ⟨x,rfl,rx⟩:=fM r
   cases rx with
   | @lst p vs _ hp rp=>exact ⟨p,vs,rfl,.inl (SqL.of hp),by rw [rp.length];exact k _ H (Same.refl H) (.int _)⟩
 . cases e
   obtain ⟨x,rfl,rx⟩:=fM r
   cases rx with
   | @seq p vs _ hp rp=>exact ⟨p,vs,rfl,.inl hp,by rw [rp.length];exact k _ H (Same.refl H) (.int _)⟩
 . cases e
def Ca:D->Option String
 | .non=>some "NoneType"
 | .bl _=>some "bool"
 | .int _=>some "int"
 | .str _=>some "str"
 | .tup _=>some "tuple"
 | .lst _=>some "list"
 | .seq _=>some "list"
 | .dct=>some "dict"
 | .ty _=>none
 | .exc _=>none
 | .cls _=>none
 | .ms _ _=>none
 | .mf _ _=>none
 | .md _ _=>none
def ul (n:String) (d:D) (b:Bool):Prop:=∃ t,Ca d=some t/\∀ K:PySem.W.Frag,PySem.W.kitOne K (.type t) (.type n)=some b
def Bh (K:PySem.W.Frag):List V->Hp->VK->Prop:=fun xs H Q=>∃ x n d b,xs=[x,.ty n]/\Rep K H x d/\ul n d b/\Q (.bl b) H
theorem rh {X:Cx}:iz X (.builtin "isinstance") (Bh X.K):=by
 intro pins s σ H xs us Q I r h
 obtain ⟨x,n,d,b,rfl,rx,⟨t,ht,hk⟩,q⟩:=h
 obtain ⟨u,w',rfl,ru,rw'⟩:=AQ r
 cases (show w'=Value.type n from rw')
 have e:=hk X.K
 have fin:∀ tk,EP X pins σ Q (.bool b) { s with toks:=tk }:=fun tk=>⟨.bl b,H,I.tok _,rfl,q⟩
 cases rx with
 | non=>cases ht;cases (show u=Value.none from ru);exact PySem.W.kia_one PySem.W.kitx_none I.kIn True.intro e (fun z=>nomatch z) fin
 | bl y=>cases ht;cases (show u=Value.bool y from ru);exact PySem.W.kia_one PySem.W.kitx_bool I.kIn True.intro e (fun z=>nomatch z) fin
 | int i=>cases ht;obtain ⟨t,z⟩:=(show ∃ t,u=Value.int i t from ru);cases z;exact PySem.W.kia_one PySem.W.kitx_int I.kIn True.intro e (fun z=>nomatch z) fin
 | str y=>cases ht;obtain ⟨t,z⟩:=(show ∃ t,u=Value.str y t from ru);cases z;exact PySem.W.kia_one PySem.W.kitx_str I.kIn True.intro e (fun z=>nomatch z) fin
 | ty n=>cases ht
 | exc h=>cases ht
 | cls C=>cases ht
 | ms h l r=>cases ht
 | mf h l r=>cases ht
 | md h l r=>cases ht
 | @dct a h =>
  cases ht
  cases (show u=Value.ref a from ru)
  exact PySem.W.kia_one PySem.W.kitx_dict I.kIn (I.hok a _ h).1 e (fun z=>nomatch z) fin
 | @tup a vs ds hp rp =>
  cases ht
  cases (show u=Value.ref a from ru)
  obtain ⟨its,_,⟨o,h1,h2,_⟩,_⟩:=I.tuple hp
  exact PySem.W.kia_one PySem.W.kitx_tuple I.kIn ⟨o,h1,h2⟩ e (fun z=>nomatch z) fin
 | @lst a vs ds hp rp =>
  cases ht
  cases (show u=Value.ref a from ru)
  obtain ⟨its,_,⟨o,n',h1,h2,_⟩,_⟩:=I.list (SqL.of (K:=X.K) hp)
  exact PySem.W.kia_one PySem.W.kitx_list I.kIn ⟨o,h1,h2⟩ e (fun z=>nomatch z) fin
 | @seq a vs ds hp rp =>
  cases ht
  cases (show u=Value.ref a from ru)
  obtain ⟨its,_,⟨o,n',h1,h2,_⟩,_⟩:=I.list hp
  exact PySem.W.kia_one PySem.W.kitx_list I.kIn ⟨o,h1,h2⟩ e (fun z=>nomatch z) fin
def isInt:D->Option Bool
 | .int _=>some true
 | .bl _=>some true
 | .ty _=>none
 | .exc _=>none
 | .cls _=>none
 | .ms _ _=>none
 | .mf _ _=>none
 | .md _ _=>none
 | _=>some false
def Aq:D->Option Bool
 | .bl _=>some true
 | .ty _=>none
 | .exc _=>none
 | .cls _=>none
 | .ms _ _=>none
 | .mf _ _=>none
 | .md _ _=>none
 | _=>some false
def BS (n:String) (p:D->Option Bool):List D->Option D
 | [d,.ty m]=>if m=n then (p d).map D.bl else none
 | _=>none
theorem xk {K:PySem.W.Frag} {n:String} {p:D->Option Bool} (hp:∀ d b,p d=some b->ul n d b):ku K (Bh K) (BS n p):=by
 intro xs H Q ds d r e k
 unfold BS at e
 split at e
 . rename_i x m
   by_cases hm:m=n
   . subst hm
     rw [if_pos rfl] at e
     obtain ⟨b,hb,e⟩:=Zb.mp e
     cases e
     obtain ⟨v,w,rfl,rv,rw'⟩:=vF r
     cases rw'
     exact ⟨v,m,x,b,rfl,rv,hp x b hb,k _ H (Same.refl H) (.bl b)⟩
   . rw [if_neg hm] at e;cases e
 . cases e
theorem wK (n:String) (K:PySem.W.Frag):PySem.W.kitOne K (.type n) (.type n)=some true:=by
 unfold PySem.W.kitOne
 rw [if_pos (beq_self_eq_true _)]
theorem wx (d:D) (b:Bool) (h:isInt d=some b):ul "int" d b:=by
 cases d <;> (first | cases h) <;> first
  | exact ⟨_,rfl,fun K=>wK _ K⟩
  | exact ⟨_,rfl,fun K=>by kernel_rfl⟩
theorem uK (d:D) (b:Bool) (h:Aq d=some b):ul "bool" d b:=by
 cases d <;> (first | cases h) <;> first
  | exact ⟨_,rfl,fun K=>wK _ K⟩
  | exact ⟨_,rfl,fun K=>by kernel_rfl⟩
def toV:D->Option V
 | .non=>some .non
 | .bl b=>some (.bl b)
 | .int i=>some (.int i)
 | .str x=>some (.str x)
 | _=>none
def cu (d:D):Bool:=(toV d).isSome
def eqF:D->D->Bool
 | .non,.non=>true
 | .bl a,.bl b=>a == b
 | .bl a,.int b=>(if a then 1 else 0) == b
 | .int a,.bl b=>a == (if b then 1 else 0)
 | .int a,.int b=>a == b
 | .str a,.str b=>a == b
 | _,_=>false
def ng:List D->List D->Bool
 | [],[]=>true
 | a :: as,b :: bs=>eqF a b && ng as bs
 | _,_=>false
theorem Rep.flat {K:PySem.W.Frag} {H:Hp} {v:V} {d:D} (r:Rep K H v d) (f:cu d=true):iW v=true/\toV d=some v:=by
 cases r <;> first | exact ⟨rfl,rfl⟩ | (exact absurd f (by decide)) | (exact absurd f Bool.false_ne_true)
theorem lm {a b:D} {x y:V} (ha:toV a=some x) (hb:toV b=some y):eqV x y=eqF a b:=by
 cases a <;> (first | cases ha) <;> cases b <;> (first | cases hb) <;> rfl
theorem mL:∀ (as bs:List D) (e:Nat->Bool),(∀ j a b,as[j]? = some a->bs[j]? = some b->e j=eqF a b)->((List.range (min as.length bs.length)).all e && as.length == bs.length)=ng as bs
 | [],[],e,_=>rfl
 | [],b :: bs,e,_=>by simp [ng]
 | a :: as,[],e,_=>by simp [ng]
 | a :: as,b :: bs,e,h=>by
  have ih:=mL as bs (fun j=>e (j+1)) (fun j x y h1 h2=>h (j+1) x y (by simpa using h1) (by simpa using h2))
  have h0:e 0=eqF a b:=h 0 a b rfl rfl
  show ((List.range (min (as.length+1) (bs.length+1))).all e && (as.length+1) == (bs.length+1))=(eqF a b && ng as bs)
  rw [<- ih,<- h0,show min (as.length+1) (bs.length+1)=min as.length bs.length+1 by omega,List.range_succ_eq_map,List.all_cons,List.all_map,Bool.and_assoc]
  have:((as.length+1) == (bs.length+1))=(as.length == bs.length):=by rw [Bool.eq_iff_iff];simp
  rw [this]
  rfl
def uX:D->D->Option Bool
 | .tup as,.tup bs=>if as.all cu && bs.all cu then some (ng as bs) else none
 | .lst as,.lst bs=>if as.all cu && bs.all cu then some (ng as bs) else none
 | .non,.tup _=>some false
 | .tup _,.non=>some false
 | .non,.lst _=>some false
 | .lst _,.non=>some false
 | a,b=>if cu a && cu b then some (eqF a b) else none
def gEq (a b:D):Option D:=(uX a b).map D.bl
def gNe (a b:D):Option D:=(uX a b).map fun c=>D.bl (!c)
section
variable {K:PySem.W.Frag} {H:Hp}
theorem jH {A:Around} {s:Shared} {vs ws:List V} {us zs:List Value} {as bs:List D} (r1:Vals vs us) (r2:Vals ws zs) (q1:Reps K H vs as) (q2:Reps K H ws bs) (g1:as.all cu=true) (g2:bs.all cu=true) :
 ∀ j (h1:j < us.toArray.size) (h2:j < zs.toArray.size),SeqAt.EqAt A s us.toArray[j] zs.toArray[j] (eqF (as.getD j .non) (bs.getD j .non)):=by
 intro j h1 h2
 have l1:=r1.length
 have l2:=r2.length
 rw [List.size_toArray] at h1 h2
 have k1:j < vs.length:=by omega
 have k2:j < ws.length:=by omega
 obtain ⟨u,e1,p1⟩:=r1.get (i:=j) (x:=vs[j]) (by simp [k1])
 obtain ⟨z,e2,p2⟩:=r2.get (i:=j) (x:=ws[j]) (by simp [k2])
 obtain ⟨a,e3,p3⟩:=q1.getV (i:=j) (v:=vs[j]) (by simp [k1])
 obtain ⟨b,e4,p4⟩:=q2.getV (i:=j) (v:=ws[j]) (by simp [k2])
 have f1:cu a=true:=List.all_eq_true.mp g1 a (List.mem_of_getElem? e3)
 have f2:cu b=true:=List.all_eq_true.mp g2 b (List.mem_of_getElem? e4)
 have w1:us.toArray[j]=u:=by
  have:us[j]? = some us[j]:=by simp [h1]
  rw [this] at e1
  simpa using e1
 have w2:zs.toArray[j]=z:=by
  have:zs[j]? = some zs[j]:=by simp [h2]
  rw [this] at e2
  simpa using e2
 rw [w1,w2,Zq,Zq,e3,e4]
 show SeqAt.EqAt A s u z (eqF a b)
 rw [<- lm (p3.flat f1).2 (p4.flat f2).2]
 exact so p1 p2 (p3.flat f1).1 (p4.flat f2).1
theorem mX {as bs:List D}:((List.range (min as.length bs.length)).all (fun j=>eqF (as.getD j .non) (bs.getD j .non)) && as.length == bs.length)=ng as bs :=
 mL as bs _ fun j a b h1 h2=>by
  show eqF (as.getD j .non) (bs.getD j .non)=eqF a b
  rw [Zq,Zq,h1,h2] <;> rfl
theorem s8 {A:Around} {s:Shared} {x y:V} {u v:Value} {a b:D} (rx:RelV x u) (ry:RelV y v) (ra:Rep K H x a) (rb:Rep K H y b) (g1:cu a=true) (g2:cu b=true):SeqAt.RcAt A s u v (eqF a b)/\SeqAt.RcNeAt A s u v (!eqF a b):=by
 cases ra with
 | non =>
  cases (show u=Value.none from rx)
  cases rb with
  | non=>cases (show v=Value.none from ry);exact ⟨SeqAt.RcAt.none_none,SeqAt.RcNeAt.none_none⟩
  | bl c=>cases (show v=Value.bool c from ry);exact ⟨SeqAt.RcAt.none_bool c,SeqAt.RcNeAt.none_bool c⟩
  | int j=>obtain ⟨t,rfl⟩:=(show ∃ t,v=Value.int j t from ry);exact ⟨SeqAt.RcAt.none_int j t,SeqAt.RcNeAt.none_int j t⟩
  | str j=>obtain ⟨t,rfl⟩:=(show ∃ t,v=Value.str j t from ry);exact ⟨SeqAt.RcAt.none_str j t,SeqAt.RcNeAt.none_str j t⟩
  | _=>exact absurd g2 Bool.false_ne_true
 | bl i =>
  cases (show u=Value.bool i from rx)
  cases rb with
  | non=>cases (show v=Value.none from ry);exact ⟨SeqAt.RcAt.bool_none i,SeqAt.RcNeAt.bool_none i⟩
  | bl c=>cases (show v=Value.bool c from ry);exact ⟨SeqAt.RcAt.bool_bool i c,SeqAt.RcNeAt.bool_bool i c⟩
  | int j=>obtain ⟨t,rfl⟩:=(show ∃ t,v=Value.int j t from ry);exact ⟨SeqAt.RcAt.bool_int i j t,SeqAt.RcNeAt.bool_int i j t⟩
  | str j=>obtain ⟨t,rfl⟩:=(show ∃ t,v=Value.str j t from ry);exact ⟨SeqAt.RcAt.bool_str i j t,SeqAt.RcNeAt.bool_str i j t⟩
  | _=>exact absurd g2 Bool.false_ne_true
 | int i =>
  obtain ⟨t',rfl⟩:=(show ∃ t,u=Value.int i t from rx)
  cases rb with
  | non=>cases (show v=Value.none from ry);exact ⟨SeqAt.RcAt.int_none i t',SeqAt.RcNeAt.int_none i t'⟩
  | bl c=>cases (show v=Value.bool c from ry);exact ⟨SeqAt.RcAt.int_bool i t' c,SeqAt.RcNeAt.int_bool i t' c⟩
  | int j=>obtain ⟨t,rfl⟩:=(show ∃ t,v=Value.int j t from ry);exact ⟨SeqAt.RcAt.int_int i t' j t,SeqAt.RcNeAt.int_int i t' j t⟩
  | str j=>obtain ⟨t,rfl⟩:=(show ∃ t,v=Value.str j t from ry);exact ⟨SeqAt.RcAt.int_str i t' j t,SeqAt.RcNeAt.int_str i t' j t⟩
  | _=>exact absurd g2 Bool.false_ne_true
 | str i =>
  obtain ⟨t',rfl⟩:=(show ∃ t,u=Value.str i t from rx)
  cases rb with
  | non=>cases (show v=Value.none from ry);exact ⟨SeqAt.RcAt.str_none i t',SeqAt.RcNeAt.str_none i t'⟩
  | bl c=>cases (show v=Value.bool c from ry);exact ⟨SeqAt.RcAt.str_bool i t' c,SeqAt.RcNeAt.str_bool i t' c⟩
  | int j=>obtain ⟨t,rfl⟩:=(show ∃ t,v=Value.int j t from ry);exact ⟨SeqAt.RcAt.str_int i t' j t,SeqAt.RcNeAt.str_int i t' j t⟩
  | str j=>obtain ⟨t,rfl⟩:=(show ∃ t,v=Value.str j t from ry);exact ⟨SeqAt.RcAt.str_str i t' j t,SeqAt.RcNeAt.str_str i t' j t⟩
  | _=>exact absurd g2 Bool.false_ne_true
 | _=>exact absurd g1 Bool.false_ne_true
end
theorem Bb {X:Cx} {pins:List (Addr×Obj)} {σ:L2.St} {H:Hp} {s:Shared} (I:Inv X pins σ H s) (hu:X.A.units < cLine) {x y:V} {u v:Value} {a b:D} {c:Bool} (rx:RelV x u) (ry:RelV y v) (ra:Rep X.K H x a) (rb:Rep X.K H y b) (e:uX a b=some c) :
 SeqAt.RcAt X.A s u v c/\SeqAt.RcNeAt X.A s u v (!c):=by
 unfold uX at e
 split at e
 . -- two tuples
   rename_i as bs
   cases ra with
   | @tup p vs _ hp rp =>
    cases rb with
    | @tup q ws _ hq rq =>
     split at e
     . rename_i hf
       cases e
       rw [Bool.and_eq_true] at hf
       cases (show u=Value.ref p from rx)
       cases (show v=Value.ref q from ry)
       obtain ⟨its,r1,t1,_⟩:=I.tuple hp
       obtain ⟨jts,r2,t2,_⟩:=I.tuple hq
       have l1:its.toArray.size=as.length:=by rw [List.size_toArray,<- r1.length,rp.length]
       have l2:jts.toArray.size=bs.length:=by rw [List.size_toArray,<- r2.length,rq.length]
       have h1:=SeqAt.RcAt.tuples (A:=X.A) (s:=s) t1 t2 hu (jH r1 r2 rp rq hf.1 hf.2)
       have h2:=SeqAt.RcNeAt.tuples (A:=X.A) (s:=s) t1 t2 hu (jH r1 r2 rp rq hf.1 hf.2)
       rw [l1,l2,mX] at h1 h2
       exact ⟨h1,h2⟩
     . cases e
 . -- two lists
   rename_i as bs
   cases ra with
   | @lst p vs _ hp rp =>
    cases rb with
    | @lst q ws _ hq rq =>
     split at e
     . rename_i hf
       cases e
       rw [Bool.and_eq_true] at hf
       cases (show u=Value.ref p from rx)
       cases (show v=Value.ref q from ry)
       obtain ⟨its,r1,t1,_⟩:=I.list (SqL.of (K:=X.K) hp)
       obtain ⟨jts,r2,t2,_⟩:=I.list (SqL.of (K:=X.K) hq)
       have l1:its.toArray.size=as.length:=by rw [List.size_toArray,<- r1.length,rp.length]
       have l2:jts.toArray.size=bs.length:=by rw [List.size_toArray,<- r2.length,rq.length]
       by_cases hl:its.toArray.size=jts.toArray.size
       . have h1:=SeqAt.RcAt.lists (A:=X.A) (s:=s) t1.isList t2.isList hl hu (jH r1 r2 rp rq hf.1 hf.2)
         have h2:=SeqAt.RcNeAt.lists (A:=X.A) (s:=s) t1.isList t2.isList hl hu (jH r1 r2 rp rq hf.1 hf.2)
         have h3:(List.range its.toArray.size).all (fun j=>eqF (as.getD j .non) (bs.getD j .non))=ng as bs:=by
          rw [<- mX,l1,show min as.length bs.length=as.length by omega,show (as.length == bs.length)=true by rw [beq_iff_eq];omega,Bool.and_true]
         rw [h3] at h1 h2
         exact ⟨h1,h2⟩
       . have h1:=SeqAt.RcAt.lists_lengths (A:=X.A) (s:=s) t1.isList t2.isList (by simpa [bne_iff_ne] using hl) hu
         have h2:=SeqAt.RcNeAt.lists_lengths (A:=X.A) (s:=s) t1.isList t2.isList (by simpa [bne_iff_ne] using hl) hu
         have h3:ng as bs=false:=by
          rw [<- mX,show (as.length == bs.length)=false by rw [beq_eq_false_iff_ne];omega,Bool.and_false]
         rw [h3]
         exact ⟨h1,h2⟩
     . cases e
 . cases e
   cases ra
   cases rb with
   | @tup q ws bs hq rq =>
    cases (show u=Value.none from rx)
    cases (show v=Value.ref q from ry)
    obtain ⟨its,r1,t1,_⟩:=I.tuple hq
    exact ⟨SeqAt.RcAt.none_tuple t1 hu,SeqAt.RcNeAt.none_tuple t1 hu⟩
 . cases e
   cases rb
   cases ra with
   | @tup q ws bs hq rq =>
    cases (show v=Value.none from ry)
    cases (show u=Value.ref q from rx)
    obtain ⟨its,r1,t1,_⟩:=I.tuple hq
    exact ⟨SeqAt.RcAt.tuple_none t1 hu,SeqAt.RcNeAt.tuple_none t1 hu⟩
 . cases e
   cases ra
   cases rb with
   | @lst q ws bs hq rq =>
    cases (show u=Value.none from rx)
    cases (show v=Value.ref q from ry)
    obtain ⟨its,r1,t1,_⟩:=I.list (SqL.of (K:=X.K) hq)
    exact ⟨SeqAt.RcAt.none_list t1.isList hu,SeqAt.RcNeAt.none_list t1.isList hu⟩
 . cases e
   cases rb
   cases ra with
   | @lst q ws bs hq rq =>
    cases (show v=Value.none from ry)
    cases (show u=Value.ref q from rx)
    obtain ⟨its,r1,t1,_⟩:=I.list (SqL.of (K:=X.K) hq)
    exact ⟨SeqAt.RcAt.list_none t1.isList hu,SeqAt.RcNeAt.list_none t1.isList hu⟩
 . split at e
   . rename_i hf
     cases e
     rw [Bool.and_eq_true] at hf
     exact s8 rx ry ra rb hf.1 hf.2
   . cases e
def Bj (K:PySem.W.Frag):R2:=fun x y H Q=>∃ a b c,Rep K H x a/\Rep K H y b/\uX a b=some c/\Q (.bl c) H
def Bf (K:PySem.W.Frag):R2:=fun x y H Q=>∃ a b c,Rep K H x a/\Rep K H y b/\uX a b=some c/\Q (.bl (!c)) H
theorem wl {X:Cx} (hu:X.A.units < cLine):OpR X (compareOp .Eq) (Bj X.K):=by
 intro pins s σ H x y v u Q I rx ry h
 obtain ⟨a,b,c,ra,rb,e,q⟩:=h
 exact (Bb I hu rx ry ra rb e).1 X.prog X.w _ _ ⟨.bl c,H,I,rfl,q⟩
theorem Ab {X:Cx} (hu:X.A.units < cLine):OpR X (compareOp .NotEq) (Bf X.K):=by
 intro pins s σ H x y v u Q I rx ry h
 obtain ⟨a,b,c,ra,rb,e,q⟩:=h
 exact (Bb I hu rx ry ra rb e).2 X.prog X.w _ _ ⟨.bl (!c),H,I,rfl,q⟩
theorem za {K:PySem.W.Frag}:R2D K (Bj K) gEq:=by
 intro x y H Q a b d ra rb e k
 unfold gEq at e
 obtain ⟨c,hc,e⟩:=Zb.mp e
 cases e
 exact ⟨a,b,c,ra,rb,hc,k _ H (Same.refl H) (.bl _)⟩
theorem Bp {K:PySem.W.Frag}:R2D K (Bf K) gNe:=by
 intro x y H Q a b d ra rb e k
 unfold gNe at e
 obtain ⟨c,hc,e⟩:=Zb.mp e
 cases e
 exact ⟨a,b,c,ra,rb,hc,k _ H (Same.refl H) (.bl _)⟩
section
variable {X:Cx} {a b e:Expr} {fa fb f:FD} {pos:Pos}
theorem BA (hu:X.A.units < cLine) (ha:PD X a fa) (hb:PD X b fb):PD X (.Compare a [.Eq] [b] pos) (f2 gEq fa fb):=pc (wl hu) za ha hb (eX _)
theorem vR (hu:X.A.units < cLine) (ha:PD X a fa) (hb:PD X b fb):PTD X (.Compare a [.Eq] [b] pos) (fT (f2 gEq fa fb)):=fG (wl hu) za ha hb (eX _)
theorem vP (hu:X.A.units < cLine) (ha:PD X a fa) (hb:PD X b fb):PTD X (.Compare a [.NotEq] [b] pos) (fT (f2 gNe fa fb)):=fG (Ab hu) Bp ha hb (eX _)
abbrev gLt:D->D->Option D:=gI0 fun i j=>.bl (decide (i < j))
abbrev gGt:D->D->Option D:=gI0 fun i j=>.bl (decide (j < i))
theorem wd (ha:PD X a fa) (hb:PD X b fb):PD X (.Compare a [.Lt] [b] pos) (f2 gLt fa fb):=pc zg (nN fun _ _ _=>.bl _) ha hb (eX _)
theorem ze (ha:PD X a fa) (hb:PD X b fb):PD X (.Compare a [.Gt] [b] pos) (f2 gGt fa fb):=pc zh (nN fun _ _ _=>.bl _) ha hb (eX _)
theorem lR (ha:PD X a fa) (hb:PD X b fb):PTD X (.Compare a [.Lt] [b] pos) (fT (f2 gLt fa fb)):=fG zg (nN fun _ _ _=>.bl _) ha hb (eX _)
theorem vQ (ha:PD X a fa) (hb:PD X b fb):PTD X (.Compare a [.Gt] [b] pos) (fT (f2 gGt fa fb)):=fG zh (nN fun _ _ _=>.bl _) ha hb (eX _)
def bq:D->Bool
 | .non=>true
 | _=>false
def cO (a b:D):Option D:=match b with
 | .non=>some (.bl (bq a))
 | _=>none
def hU (a b:D):Option D:=match b with
 | .non=>some (.bl (!bq a))
 | _=>none
theorem qL {K:PySem.W.Frag} {H:Hp} {x:V} {a:D} (r:Rep K H x a):decide (x=.non)=bq a:=by
 cases r <;> rfl
theorem zH {K:PySem.W.Frag}:R2D K (fun x y H Q=>y=.non/\Q (.bl (decide (x=.non))) H) cO:=by
 intro x y H Q a b d ra rb e k
 cases rb with
 | non=>cases e;exact ⟨rfl,by rw [qL ra];exact k _ H (Same.refl H) (.bl _)⟩
 | _=>cases e
theorem xM {K:PySem.W.Frag}:R2D K (fun x y H Q=>y=.non/\Q (.bl (!decide (x=.non))) H) hU:=by
 intro x y H Q a b d ra rb e k
 cases rb with
 | non=>cases e;exact ⟨rfl,by rw [qL ra];exact k _ H (Same.refl H) (.bl _)⟩
 | _=>cases e
theorem dc (ha:PD X a fa) (hb:PD X b fb):PTD X (.Compare a [.Is] [b] pos) (fT (f2 cO fa fb)):=fG Ad zH ha hb (eX _)
theorem jA (ha:PD X a fa) (hb:PD X b fb):PTD X (.Compare a [.IsNot] [b] pos) (fT (f2 hU fa fb)):=fG ya xM ha hb (eX _)
end
inductive Res where
 | nx (δ:DS)
 | rt (d:D)
 | bk (δ:DS)
 | ct (δ:DS)
 | ex (C:Addr) (δ:DS)
 | mk (C:Addr) (δ:DS)
abbrev SD:=DS->Option Res
def RP (X:Cx) (E:m4) (H:Hp):Res->Prop
 | .nx δ=>∀ σ' H',Same H H'->RepS X.K H' σ' δ->E.nx σ' H'
 | .rt d=>∀ v H',Same H H'->Rep X.K H' v d->E.rt v H'
 | .bk δ=>∀ σ' H',Same H H'->RepS X.K H' σ' δ->E.bk σ' H'
 | .ct δ=>∀ σ' H',Same H H'->RepS X.K H' σ' δ->E.ct σ' H'
 | .ex C δ=>∀ σ' H',Same H H'->RepS X.K H' σ' δ->B6 X C σ' H'
 | .mk C δ=>∀ σ' H',Same H H'->RepS X.K H' σ' δ->zr X C σ' H'
theorem RP.mono {X:Cx} {E:m4} {H H1:Hp} {r:Res} (s:Same H H1) (h:RP X E H r):RP X E H1 r:=by
 cases r with
 | nx δ=>exact fun σ' H' s2 R=>h σ' H' (s.trans s2) R
 | rt d=>exact fun v H' s2 R=>h v H' (s.trans s2) R
 | bk δ=>exact fun σ' H' s2 R=>h σ' H' (s.trans s2) R
 | ct δ=>exact fun σ' H' s2 R=>h σ' H' (s.trans s2) R
 | ex C δ=>exact fun σ' H' s2 R=>h σ' H' (s.trans s2) R
 | mk C δ=>exact fun σ' H' s2 R=>h σ' H' (s.trans s2) R
def upS (X:Cx) (s:SD):TS:=fun E σ H=>∃ δ r,RepS X.K H σ δ/\s δ=some r/\RP X E H r
def PSD (X:Cx) (st:Stmt) (s:SD):Prop:=PS X st (upS X s)
def ni (X:Cx) (sts:List Stmt) (s:SD):Prop:=PSs X sts (upS X s)
theorem fU {X:Cx} {st:Stmt} {t t':TS} (h:PS X st t) (w:∀ E σ H,t' E σ H->t E σ H):PS X st t':=fun pins s σ H E I q=>h pins s σ H E I (w E σ H q)
theorem nX {X:Cx} {st:List Stmt} {t t':TS} (h:PSs X st t) (w:∀ E σ H,t' E σ H->t E σ H):PSs X st t':=fun pins s σ H E I q=>h pins s σ H E I (w E σ H q)
def bc:SD:=fun δ=>some (.nx δ)
def cE (u:SD):Res->Option Res
 | .nx δ=>u δ
 | r=>some r
def ay (s u:SD):SD:=fun δ=>(s δ).bind (cE u)
def c6 (f:FD):SD:=fun δ=>(f δ).bind fun d=>some (.rt d)
def eV (i:Nat) (f:FD):SD:=fun δ=>(f δ).bind fun d=>some (.nx (δ.set i (some d)))
def sIf (c:FT) (s u:SD):SD:=fun δ=>(c δ).bind fun b=>match b with
 | true=>s δ
 | false=>u δ
def vD:SD:=fun _=>none
section
variable {X:Cx} {st:Stmt} {rest:List Stmt} {s u:SD} {e:Expr} {f:FD} {c:FT} {pos:Pos}
theorem bX:ni X [] bc:=nX oR fun E σ H ⟨δ,r,R,e,k⟩=>by cases e;exact k σ H (Same.refl H) R
theorem aC (h1:PSD X st s) (h2:ni X rest u):ni X (st :: rest) (ay s u):=nX (lS h1 h2) fun E σ H ⟨δ,r,R,e,k⟩=>by
 unfold ay at e
 obtain ⟨r1,e1,e⟩:=Za.mp e
 refine ⟨δ,r1,R,e1,?_⟩
 cases r1 with
 | nx δ'=>exact fun σ' H' s1 R1=>⟨δ',r,R1,e,k.mono s1⟩
 | rt d=>cases e;exact k
 | bk d=>cases e;exact k
 | ct d=>cases e;exact k
 | ex C d=>cases e;exact k
 | mk C d=>cases e;exact k
theorem aD (h:PSD X st s):ni X [st] s:=oQ h
theorem aM (he:PD X e f):PSD X (.Return (some e) pos) (c6 f):=fU (vT he) fun E σ H ⟨δ,r,R,q,k⟩=>by
 unfold c6 at q
 obtain ⟨d,ed,q⟩:=Za.mp q
 cases q
 exact ⟨δ,d,R,ed,k⟩
theorem bK (i:Nat) {x:Str} {pos':Pos} (hN:X.N.Nodup) (he:PD X e f) (hi:X.N[i]? = some x:=by rfl) (hx:Loc X.env.scope x:=by first | exact Or.inl rfl | exact Or.inr rfl) (hs:swapsWith e (some (.Name x pos')) pos.line X.env=pure false:=by rfl) (hf:X.fn x=true \/ X.env.scope.names.lookup x=some .local:=by first | exact .inl rfl | exact .inr rfl | assumption) :
 PSD X (.Assign [.Name x pos'] e pos) (eV i f):=fU (rM hN hi hx he hs hf) fun E σ H ⟨δ,r,R,q,k⟩=>by
 unfold eV at q
 obtain ⟨d,ed,q⟩:=Za.mp q
 cases q
 exact ⟨δ,d,R,ed,fun v H' s1 r1=>k (σ.set i (some v)) H' s1 ((R.mono s1).set i r1)⟩
theorem cK {cx:Expr} {a b:List Stmt} (hc:PTD X cx c) (ha:ni X a s) (hb:ni X b u):PSD X (.If cx a b pos) (sIf c s u):=fU (vU hc ha hb) fun E σ H ⟨δ,r,R,q,k⟩=>by
 unfold sIf at q
 obtain ⟨d,ed,q⟩:=Za.mp q
 refine ⟨δ,d,R,ed,fun H' s1=>?_⟩
 cases d with
 | true=>rw [if_pos rfl];exact ⟨δ,r,R.mono s1,q,k.mono s1⟩
 | false=>rw [if_neg Bool.false_ne_true];exact ⟨δ,r,R.mono s1,q,k.mono s1⟩
theorem nQ:PSD X st vD:=fU qt fun E σ H ⟨δ,r,R,e,k⟩=>by cases e
def xH (i j:Nat) (g:FA):SD:=fun δ=>(g δ).bind fun ds=>match ds with
 | [a,b]=>some (.nx ((δ.set i (some a)).set j (some b)))
 | _=>none
theorem xQ (i j:Nat) {x y:Str} {a b:Expr} {g:FA} {px py pt:Pos} {kt k2 pt2} (hc:X.calm=true) (hN:X.N.Nodup) (ha:PAD X [a,b] g) (hi:X.N[i]? = some x:=by rfl) (hj:X.N[j]? = some y:=by rfl) (hij:i ≠ j:=by decide)
 (hx:X.env.scope.names.lookup x=some .local:=by rfl) (hy:X.env.scope.names.lookup y=some .local:=by rfl)
 (hw:swappedStores [.Tuple [.Name x px,.Name y py] kt pt] (.Tuple [a,b] k2 pt2) X.env=pure (some [x,y]):=by rfl)
 (hs:swapsWithSole [.Tuple [.Name x px,.Name y py] kt pt] (.Tuple [a,b] k2 pt2) pos.line X.env=pure false:=by rfl) :
 PSD X (.Assign [.Tuple [.Name x px,.Name y py] kt pt] (.Tuple [a,b] k2 pt2) pos) (xH i j g):=fU (zS hc hN hi hj hij hx hy ha hw hs) fun E σ H ⟨δ,r,R,q,k⟩=>by
 unfold xH at q
 obtain ⟨ds,ed,q⟩:=Za.mp q
 split at q
 . rename_i d1 d2
   cases q
   refine ⟨δ,_,R,ed,fun vs H' s1 r1 _=>?_⟩
   obtain ⟨v,w,rfl,rv,rw'⟩:=vF r1
   exact ⟨v,w,rfl,k _ H' s1 (((R.mono s1).set i rv).set j rw')⟩
 . cases q
end
def fJ:Nat->FT->SD->SD
 | 0,_,_=>fun _=>none
 | n+1,c,s=>fun δ=>(c δ).bind fun b=>match b with
  | true=>(s δ).bind fun r=>match r with
   | .nx δ'=>fJ n c s δ'
   | .ct δ'=>fJ n c s δ'
   | .bk δ'=>some (.nx δ')
   | .rt d=>some (.rt d)
   | .ex C δ'=>some (.ex C δ')
   | .mk C δ'=>some (.mk C δ')
  | false=>some (.nx δ)
theorem nP {X:Cx} {cx:Expr} {body:List Stmt} {c:FT} {s:SD} {pos:Pos} (n:Nat) (hp:PassesOwn (model X.prog X.w) X.A X.env X.xe) (hc:PTD X cx c) (hb:ni X body s):PSD X (.While cx body [] pos) (fJ n c s):=fU (vS hp hc hb) fun E σ H ⟨δ,r,R,e,k⟩=>by
 refine ⟨fun m σ H=>∃ δ r,RepS X.K H σ δ/\fJ m c s δ=some r/\RP X E H r,⟨n,δ,r,R,e,k⟩,?_⟩
 rintro m σ H ⟨δ,r,R,e,k⟩
 cases m with
 | zero=>exact absurd e (by intro z;cases z)
 | succ m =>
  obtain ⟨b,eb,e⟩:=Za.mp (show ((c δ).bind _)=some r from e)
  refine ⟨δ,b,R,eb,fun H1 s1=>?_⟩
  cases b with
  | true =>
   rw [if_pos rfl]
   obtain ⟨r1,e1,e⟩:=Za.mp (show ((s δ).bind _)=some r from e)
   refine ⟨fun σ' H'=>∃ m',m' < m+1/\∃ δ r,RepS X.K H' σ' δ/\fJ m' c s δ=some r/\RP X E H' r,fun _ _ z=>z,⟨δ,r1,R.mono s1,e1,?_⟩⟩
   cases r1 with
   | nx δ'=>exact fun σ' H' s2 R2=>⟨m,Nat.lt_succ_self m,δ',r,R2,e,k.mono (s1.trans s2)⟩
   | ct δ'=>exact fun σ' H' s2 R2=>⟨m,Nat.lt_succ_self m,δ',r,R2,e,k.mono (s1.trans s2)⟩
   | bk δ'=>cases e;exact fun σ' H' s2 R2=>k σ' H' (s1.trans s2) R2
   | rt d=>cases e;exact fun v H' s2 R2=>k v H' (s1.trans s2) R2
   | ex C δ'=>cases e;exact fun σ' H' s2 R2=>k σ' H' (s1.trans s2) R2
   | mk C δ'=>cases e;exact fun σ' H' s2 R2=>k σ' H' (s1.trans s2) R2
  | false =>
   rw [if_neg Bool.false_ne_true]
   cases e
   exact k σ H1 s1 (R.mono s1)
def ItD (K:PySem.W.Frag) (J:It) (H1:Hp) (ds:List D):Prop:=∀ i H2,Same H1 H2 ->
 (i < ds.length->J.go i H2/\∀ x H',J.yld i H2 x H'->Same H2 H'/\∃ d,ds[i]? = some d/\Rep K H' x d)/\(ds.length<=i->J.stop i H2)
def upI (K:PySem.W.Frag) (src:FA):TI:=fun σ H R=>∃ δ ds,RepS K H σ δ/\src δ=some ds/\∀ J H1,Same H H1->ItD K J H1 ds->R J H1
def PID (X:Cx) (tg iter:Expr) (src:FA):Prop:=PI X tg iter (upI X.K src)
theorem sd {X:Cx} {tg iter:Expr} {t t':TI} (h:PI X tg iter t) (w:∀ σ H R,t' σ H R->t σ H R):PI X tg iter t':=fun pins s σ H R I q=>h pins s σ H R I (w σ H R q)
def asL:D->Option (List D)
 | .lst ds=>some ds
 | .seq ds=>some ds
 | _=>none
theorem tN {K:PySem.W.Frag} {H1:Hp} {a:Addr} {vs:List V} {ds:List D} (hq:SqL K H1 a vs) (r:Reps K H1 vs ds):ItD K (Itl K a) H1 ds:=by
 intro i H2 s
 have hq2:=s.seq hq
 have r2:=r.mono s
 have hl:=r2.length
 refine ⟨fun hi=>⟨⟨vs,vs[i],hq2,by simp [show i < vs.length by omega]⟩,fun x H' y=>?_⟩,fun hi=>⟨vs,hq2,by omega⟩⟩
 obtain ⟨e,y⟩:=y
 subst e
 obtain ⟨d,h1,h2⟩:=r2.getV (y vs hq2)
 exact ⟨Same.refl _,d,h1,h2⟩
theorem jC {X:Cx} {tg l:Expr} {f:FD} (hl:PD X l f):PID X tg l (fun δ=>(f δ).bind asL):=sd (oW hl) fun σ H R ⟨δ,ds,R0,e,k⟩=>by
 obtain ⟨d,ed,e⟩:=Za.mp e
 refine ⟨δ,d,R0,ed,fun v H1 s1 r1=>?_⟩
 cases r1 with
 | @lst p vs es hp rp=>cases e;exact ⟨p,rfl,⟨vs,SqL.of hp⟩,k _ H1 s1 (tN (SqL.of hp) rp)⟩
 | @seq p vs es hp rp=>cases e;exact ⟨p,rfl,⟨vs,hp⟩,k _ H1 s1 (tN hp rp)⟩
 | _=>cases e
def upG (K:PySem.W.Frag) (g:D->DS->Option DS):TG:=fun v σ H Q=>∃ d δ δ',Rep K H v d/\RepS K H σ δ/\g d δ=some δ'/\∀ σ',RepS K H σ' δ'->Q σ' H
def PGD (X:Cx) (tg:Expr) (g:D->DS->Option DS):Prop:=PG X tg (upG X.K g)
def jL (i:Nat):D->DS->Option DS:=fun d δ=>some (δ.set i (some d))
theorem jD {X:Cx} (i:Nat) {x:Str} {pos:Pos} (hN:X.N.Nodup) (hi:X.N[i]? = some x:=by rfl) (hx:Loc X.env.scope x:=by first | exact Or.inl rfl | exact Or.inr rfl) (hf:X.fn x=true \/ X.env.scope.names.lookup x=some .local:=by first | exact .inl rfl | exact .inr rfl | assumption):PGD X (.Name x pos) (jL i) :=
 fun pins s σ H v u Q I r ⟨d,δ,δ',rv,R,e,k⟩=>by
  cases e
  exact iH hN hi hx hf pins s σ H v u Q I r (k _ (R.set i rv))
def jc (g:D->DS->Option DS) (s:SD):List D->SD
 | []=>fun δ=>some (.nx δ)
 | d :: ds=>fun δ=>(g d δ).bind fun δ1=>(s δ1).bind fun r=>match r with
  | .nx δ'=>jc g s ds δ'
  | .ct δ'=>jc g s ds δ'
  | .bk δ'=>some (.nx δ')
  | .rt d=>some (.rt d)
  | .ex C δ'=>some (.ex C δ')
  | .mk C δ'=>some (.mk C δ')
def xJ (src:FA) (g:D->DS->Option DS) (s:SD):SD:=fun δ=>(src δ).bind fun ds=>jc g s ds δ
theorem tu {X:Cx} {tg iter:Expr} {body:List Stmt} {src:FA} {g:D->DS->Option DS} {s:SD} {pos:Pos} (hp:PassesOwn (model X.prog X.w) X.A X.env X.xe) (hc:X.calm=true) (hi:PID X tg iter src) (hg:PGD X tg g) (hb:ni X body s)
 (hs:∀ x,foldedSetIterable iter X.env x=pure x:=by intro _;rfl):PSD X (.For tg iter body [] pos) (xJ src g s):=fU (rN hp hc hi hg hb hs) fun E σ H ⟨δ,r,R,e,k⟩=>by
 unfold xJ at e
 obtain ⟨ds,eds,e⟩:=Za.mp e
 refine ⟨δ,ds,R,eds,fun J H1 s1 it=>?_⟩
 refine ⟨fun i m σ H=>m=ds.length - i/\i<=ds.length/\Same H1 H/\∃ δ,RepS X.K H σ δ/\jc g s (ds.drop i) δ=some r/\RP X E H r,⟨ds.length,rfl,Nat.zero_le _,Same.refl _,δ,R.mono s1,e,k.mono s1⟩,?_⟩
 rintro i m σ H2 ⟨rfl,hil,s2,δ2,R2,e2,k2⟩
 by_cases hlt:i < ds.length
 . obtain ⟨go,yl⟩:=(it i H2 s2).1 hlt
   rw [List.drop_eq_getElem_cons hlt] at e2
   obtain ⟨δ3,e3,e2⟩:=Za.mp (show ((g ds[i] δ2).bind _)=some r from e2)
   obtain ⟨r4,e4,e2⟩:=Za.mp e2
   refine .inr ⟨go,fun σ' H'=>Same H1 H'/\∃ δ,RepS X.K H' σ' δ/\jc g s (ds.drop (i+1)) δ=some r/\RP X E H' r,fun σ' H' z=>⟨ds.length - (i+1),by omega,rfl,hlt,z⟩,fun x H' y=>?_⟩
   obtain ⟨s3,d,hd,rx⟩:=yl x H' y
   have hd':d=ds[i]:=by
    rw [Zr hlt] at hd
    exact (Option.some.inj hd).symm
   subst hd'
   refine ⟨ds[i],δ2,δ3,rx,R2.mono s3,e3,fun σ3 R3=>⟨δ3,r4,R3,e4,?_⟩⟩
   cases r4 with
   | nx δ'=>exact fun σ' H'' s4 R4=>⟨(s2.trans s3).trans s4,δ',R4,e2,(k2.mono s3).mono s4⟩
   | ct δ'=>exact fun σ' H'' s4 R4=>⟨(s2.trans s3).trans s4,δ',R4,e2,(k2.mono s3).mono s4⟩
   | bk δ'=>cases e2;exact fun σ' H'' s4 R4=>k2 σ' H'' (s3.trans s4) R4
   | rt d=>cases e2;exact fun v H'' s4 R4=>k2 v H'' (s3.trans s4) R4
   | ex C δ'=>cases e2;exact fun σ' H'' s4 R4=>k2 σ' H'' (s3.trans s4) R4
   | mk C δ'=>cases e2;exact fun σ' H'' s4 R4=>k2 σ' H'' (s3.trans s4) R4
 . have e:i=ds.length:=by omega
   subst e
   rw [List.drop_length] at e2
   cases e2
   exact .inl ⟨(it _ H2 s2).2 (Nat.le_refl _),k2 σ H2 (Same.refl _) R2⟩
def aB:Option Res->Option D
 | some (.rt d)=>some d
 | some (.nx _)=>some .non
 | _=>none
def start (n:Nat) (ds:List D):DS:=ds.map some++List.replicate (n - ds.length) none
section
variable {P:Program} {w:World} {K:PySem.W.Frag} {mg:Str->Option Value} {base:Heap}
theorem bE {x qual:Str} {st:Stmt} {f:Addr} {fd:FuncData} {N ps:List Str} {k:Nat} {G:List D->Option D} (F:Fun K x qual st f fd) (S:aA N ps (aj st))
 (hbody:∀ (cdv:Value) (A:Around) (outer:List Env) (s:Shared) (H:Hp) (E:XK) (ds:List D) (d:D),Room k (A.deeper (envOfC qual (aj st) s.heap.objs.size f cdv))->G ds=some d->ds.length=ps.length ->
  ∃ t,ni (kK CX0 P w K mg base N qual (aj st) f cdv A outer s H E).nox (bw st) t/\aB (t (start N.length ds))=some d):FnOk P w K mg base CX0 (k+1) f fd ps (bh K ps.length G):=by
 refine F.ok S (fun vs H Q E h=>h.1) (fun cdv A outer s H vs Q E hr h=>?_)
 obtain ⟨hl,ds,d,r,e,q⟩:=h
 obtain ⟨t,ht,hq⟩:=hbody cdv A outer s H E ds d hr e (r.length.symm.trans hl)
 refine ⟨_,ht,start N.length ds,?_⟩
 cases z:t (start N.length ds) with
 | none=>rw [z] at hq;cases hq
 | some res =>
  rw [z] at hq
  refine ⟨res,RepS.start r,rfl,?_⟩
  cases res with
  | rt d'=>cases hq;exact q
  | nx δ=>cases hq;exact fun σ' H' s1 _=>q _ H' s1 .non
  | bk δ=>cases hq
  | ct δ=>cases hq
  | ex C δ=>cases hq
  | mk C δ=>cases hq
structure Has (P:Program) (w:World) (K:PySem.W.Frag) (mg:Str->Option Value) (base:Heap) (k:Nat) (x:Str) (ps:List Str) (G:List D->Option D):Prop where
 ex:∃ f fd,FnOk P w K mg base CX0 k f fd ps (bh K ps.length G)/\mg x=some (.ref f)/\PySem.W.keepIn K (.ref f)=true/\Binds K fd ps []
end
theorem ao {X:Cx} {e:Expr} {es:List Expr} {g:FA} {pos p:Pos} {k j:Nat} {x:Str} {ps:List Str} {G:List D->Option D} (F:Has X.prog X.w X.K X.mg X.base k x ps G) (hr:Room j X.A) (ha:PAD X (e :: es) g) (hk:k<=j:=by decide) (hg:Gl X x:=by rfl)
 (hn:(e :: es).length=ps.length:=by rfl) (hdb:(x == ("__debug__":Str))=false:=by decide) (he:starEach (e :: es) X.env=(false,eval e X.env) :: starEach es X.env:=by rfl) (hpl:(backTo pos (starEach es X.env)).any (·.1)=false:=by rfl) :
 PD X (.Call (.Name x p) (e :: es) [] pos) (ah G g):=by
 obtain ⟨f,fd,F,hm,kp,hb⟩:=F.ex
 exact x9 F (hr.mono hk) hg hm kp hb ha hn hdb he hpl
end Dl
namespace Dl
open PySem PySem.Spec PyProof.Rows L2
def spLaw (K:PySem.W.Frag):Sp:=fun vs H Q _=>∃ (a:Addr) (ns:List Int),vs=[.ref a]/\SqL K H a (ns.map V.int)/\ns.length<=63/\∀ H',Q (.bl true) H'
end Dl
namespace Dl
noncomputable def fn (S:List D->D->Prop):List D->Option D:=fun ds=>by
 classical exact if h:∃ d,S ds d then some h.choose else none
theorem aV {S:List D->D->Prop} {ds:List D} {d:D} (h:fn S ds=some d):S ds d:=by
 unfold fn at h
 split at h
 . rename_i q
   have e:=Option.some.inj h
   rw [<- e]
   exact q.choose_spec
 . cases h
theorem bT {S:List D->D->Prop} {ds:List D} {d:D} (u:∀ d',S ds d'->d'=d) (h:S ds d):fn S ds=some d:=by
 unfold fn
 have q:∃ d,S ds d:=⟨d,h⟩
 rw [dif_pos q]
 exact congrArg some (u _ q.choose_spec)
theorem tU (a b:Int):gNe (.int a) (.int b)=some (.bl (!(a == b))):=rfl
theorem eM (a b:Int):gEq (.int a) (.int b)=some (.bl (a == b)):=rfl
theorem bB (a b:Int):bi (.int a) (.int b)=some (.int (a+b)):=rfl
theorem al {C:Int->Int->Prop} [∀ i j,Decidable (C i j)] {g:Int->Int->D} {i j:Int} (h:C i j):gI C g (.int i) (.int j)=some (g i j):=if_pos h
end Dl
namespace Dl
theorem cN (a b:D):gIx (.tup [a,b]) (.int 0)=some a:=rfl
theorem eE (a b:D):gIx (.tup [a,b]) (.int 1)=some b:=rfl
theorem qS (ds:List D):dr [.seq ds]=some (.int ds.length):=rfl
theorem qg {n:Nat} {c:FT} {s:SD} {δ δ':DS} (hc:c δ=some true) (hs:s δ=some (.nx δ')):fJ (n+1) c s δ=fJ n c s δ':=by
 simp only [fJ,hc,hs,Zc]
theorem ot {x y:Int} (h0:0<=x) (h:x<=y) (hy:Bd y):Bd x:=Nat.lt_of_le_of_lt (show x.natAbs<=y.natAbs by omega) hy
end Dl
namespace Dl
open PySem PySem.Spec PyProof.Rows L2
abbrev FO:=DS->Option (Option Int)
def faN:FO:=fun _=>some none
def asI:D->Option (Option Int)
 | .int i=>some (some i)
 | _=>none
def faS (f:FD):FO:=fun δ=>(f δ).bind asI
def xI (n d:Nat):Option Int->Nat
 | none=>d
 | some v=>if v < 0 then (v+(n:Int)).toNat else min v.toNat n
def cutD (ds:List D) (lo hi:Option Int):List D:=(ds.drop (xI ds.length 0 lo)).take (xI ds.length ds.length hi - xI ds.length 0 lo)
def fSl (f:FD) (lo hi:FO):FD:=fun δ=>(f δ).bind fun d=>(asL d).bind fun ds=>(lo δ).bind fun l=>(hi δ).bind fun h=>some (.lst (cutD ds l h))
def dfl (G:List D->Option D) (dv:List Int):List D->Option D:=fun ds=>G (ds++dv.map D.int)
def j4 (g:D->Option D):List D->Option (List D)
 | []=>some []
 | d :: ds=>(g d).bind fun x=>(j4 g ds).bind fun xs=>some (x :: xs)
def bv (js:List Nat) (δ:DS):DS:=js.map fun j=>match δ[j]? with
 | some o=>o
 | none=>none
def t6 (src:FA) (js:List Nat) (elt:FD):FD:=fun δ=>(src δ).bind fun ds=>(j4 (fun d=>elt (some d :: bv js δ)) ds).bind fun xs=>if xs.length<=1000 then some (.lst xs) else none
def dQ (a b c:Int):List D:=(List.range ((b - a+c - 1) / c).toNat).map fun i=>.int (a+(i:Nat)*c)
def asR:List D->Option (List D)
 | [.int b]=>if -(2 ^ 62)<=b/\b < 2 ^ 62 then some (dQ 0 b 1) else none
 | [.int a,.int b]=>if -(2 ^ 62)<=a/\a < 2 ^ 62/\-(2 ^ 62)<=b/\b < 2 ^ 62 then some (dQ a b 1) else none
 | [.int a,.int b,.int c]=>if -(2 ^ 62)<=a/\a < 2 ^ 62/\-(2 ^ 62)<=b/\b < 2 ^ 62/\c=2 then some (dQ a b c) else none
 | _=>none
def qa (g:FA):FA:=fun δ=>(g δ).bind asR
end Dl
namespace Dl
theorem va (ns:List Int) (lo hi:Option Int):∃ ms:List Int,cutD (ns.map D.int) lo hi=ms.map D.int:=by
 unfold cutD
 exact ⟨_,by rw [<- List.map_drop,<- List.map_take]⟩
end Dl
namespace Dl
open PySem PySem.Spec PyProof.Rows L2
structure FunD (K:PySem.W.Frag) (x qual:Str) (st:Stmt) (f:Addr) (fd:FuncData) (dV:Value):Prop where
 ex:∃ (oc:Value) (od:Option Addr) (kV doc pm:Value) (an:Option Addr) (cdv ct:Value) (osl:Array (Option Value)),
  fd=PySem.W.fnOf x qual (cC st) (bw st) (aj st) dV kV doc pm an cdv ct/\K.lookup f=some ⟨oc,od,.func fd,osl⟩/\PySem.W.codeIn K cdv qual=true
 kp:PySem.W.keepIn K (.ref f)=true
section
variable {P:Program} {w:World} {K:PySem.W.Frag} {mg:Str->Option Value} {base:Heap}
theorem vO {x qual:Str} {st:Stmt} {f:Addr} {fd:FuncData} {dV:Value} {N ps:List Str} {k:Nat} {G:List D->Option D} (F:FunD K x qual st f fd dV) (S:aA N ps (aj st))
 (hbody:∀ (cdv:Value) (A:Around) (outer:List Env) (s:Shared) (H:Hp) (E:XK) (ds:List D) (d:D),Room k (A.deeper (envOfC qual (aj st) s.heap.objs.size f cdv))->G ds=some d->ds.length=ps.length ->
  ∃ t,ni (kK CX0 P w K mg base N qual (aj st) f cdv A outer s H E).nox (bw st) t/\aB (t (start N.length ds))=some d):FnOk P w K mg base CX0 (k+1) f fd ps (bh K ps.length G):=by
 obtain ⟨oc,od,kV,doc,pm,an,cdv,ct,osl,rfl,lk,hcd⟩:=F.ex
 refine zp lk hcd S (fun vs H Q E h=>h.1) fun A outer s H vs Q E hr hsp=>?_
 obtain ⟨hl,ds,d,r,e,q⟩:=hsp
 obtain ⟨t,ht,hq⟩:=hbody cdv A outer s H E ds d hr e (r.length.symm.trans hl)
 refine ⟨_,ht.nox,start N.length ds,?_⟩
 cases z:t (start N.length ds) with
 | none=>rw [z] at hq;cases hq
 | some res =>
  rw [z] at hq
  refine ⟨res,RepS.start r,rfl,?_⟩
  cases res with
  | rt d'=>cases hq;exact q
  | nx δ=>cases hq;exact fun σ' H' s1 _=>q _ H' s1 .non
  | bk δ=>cases hq
  | ct δ=>cases hq
  | ex C δ=>cases hq
  | mk C δ=>cases hq
theorem FunD.binds {x qual:Str} {st:Stmt} {f T:Addr} {fd:FuncData} {ps:List Str} {o:Obj} {items:Array Value} {n:Nat} {ds:List Value} (F:FunD K x qual st f fd (.ref T)) (ho:K.lookup T=some o) (hs:o.data=.seq items n)
 (h:∀ (kV doc pm:Value) (an:Option Addr) (cdv ct:Value) (us:List Value),(us++ds).length=ps.length->∃ k,bindArgs (PySem.W.fnOf x qual (cC st) (bw st) (aj st) (.ref T) kV doc pm an cdv ct) ⟨us,[]⟩=seqItems? (.ref T) >>= k/\k (some items)=pure (ps.zip (us++ds))):Binds K fd ps ds:=by
 obtain ⟨oc,od,kV,doc,pm,an,cdv,ct,osl,rfl,lk,hcd⟩:=F.ex
 intro s us KI hl
 obtain ⟨k,h1,h2⟩:=h kV doc pm an cdv ct us hl
 exact PySem.W.binds_K KI rfl ho hs h1 h2
theorem yF {x qual:Str} {st:Stmt} {f:Addr} {oc dV:Value} {od an:Option Addr} {osl:Array (Option Value)} {kV doc pm cdv ct:Value} (l:K.lookup f=some ⟨oc,od,.func (PySem.W.fnOf x qual (cC st) (bw st) (aj st) dV kV doc pm an cdv ct),osl⟩)
 (c:PySem.W.codeIn K cdv qual=true) (k:PySem.W.keepIn K (.ref f)=true):FunD K x qual st f (PySem.W.fnOf x qual (cC st) (bw st) (aj st) dV kV doc pm an cdv ct) dV:=⟨⟨oc,od,kV,doc,pm,an,cdv,ct,osl,rfl,l,c⟩,k⟩
structure rA (P:Program) (w:World) (K:PySem.W.Frag) (mg:Str->Option Value) (base:Heap) (k:Nat) (x:Str) (ps:List Str) (dv:List Int) (G:List D->Option D):Prop where
 ex:∃ f fd ds,FnOk P w K mg base CX0 k f fd ps (bh K ps.length G)/\mg x=some (.ref f)/\PySem.W.keepIn K (.ref f)=true/\Vals (dv.map V.int) ds/\Binds K fd ps ds
end
theorem dU {X:Cx} {e:Expr} {es:List Expr} {g:FA} {pos p:Pos} {k j:Nat} {x:Str} {ps:List Str} {dv:List Int} {G:List D->Option D} (F:rA X.prog X.w X.K X.mg X.base k x ps dv G) (hr:Room j X.A) (ha:PAD X (e :: es) g) (hk:k<=j:=by decide) (hg:Gl X x:=by rfl)
 (hn:(e :: es).length+dv.length=ps.length:=by rfl) (hdb:(x == ("__debug__":Str))=false:=by decide) (he:starEach (e :: es) X.env=(false,eval e X.env) :: starEach es X.env:=by rfl) (hpl:(backTo pos (starEach es X.env)).any (·.1)=false:=by rfl) :
 PD X (.Call (.Name x p) (e :: es) [] pos) (ah (dfl G dv) g):=by
 obtain ⟨f,fd,ds,F,hm,kp,hv,hb⟩:=F.ex
 refine imp (kY F (hr.mono hk) hg hm kp hb hv tG ha hdb he hpl) fun σ H Q ⟨δ,d,R,q,k⟩=>?_
 unfold ah at q
 obtain ⟨ds,eds,q⟩:=Za.mp q
 refine ⟨δ,ds,R,eds,fun vs H1 s1 r1 l=>?_⟩
 exact ⟨by rw [Zh,l,Zi];exact hn,ds++dv.map D.int,d,r1.append (Reps.ints dv),q,fun v H' s=>k v H' (s1.trans s)⟩
def upO (K:PySem.W.Frag) (f:FO):TO:=fun σ H Q=>∃ δ o,RepS K H σ δ/\f δ=some o/\∀ H',Same H H'->Q o H'
def POD (X:Cx) (e:Option Expr) (f:FO):Prop:=PO X e (upO X.K f)
theorem sY (n d:Nat) (o:Option Int):xI n d o=HT.sIx n d o:=by cases o <;> rfl
theorem xi {K:PySem.W.Frag} {H:Hp} {vs:List V} {ds:List D} (r:Reps K H vs ds) (lo hi:Option Int):Reps K H (u9 vs lo hi) (cutD ds lo hi):=by
 unfold u9 cutD
 rw [r.length,sY,sY]
 exact (r.drop _).take _
section
variable {X:Cx} {e:Expr} {f:FD} {lo hi:Option Expr} {fl fh:FO} {pos p2:Pos}
theorem vX:POD X none faN:=fun pins s σ H Q I ⟨δ,o,R,q,k⟩=>xU pins s σ H Q I (by cases q;exact k H (Same.refl H))
theorem vW (h:PD X e f):POD X (some e) (faS f):=fun pins s σ H Q I ⟨δ,o,R,q,k⟩=>xT h pins s σ H Q I (by
 unfold faS at q
 obtain ⟨d,ed,q⟩:=Za.mp q
 refine ⟨δ,d,R,ed,fun v H1 s1 r1=>?_⟩
 cases r1 with
 | int i=>cases q;exact ⟨i,rfl,k H1 s1⟩
 | _=>cases q)
end
section
variable {prog:Program} {w:World} {A:Around} {E:Value->Shared->Prop}
end
theorem rK {K:PySem.W.Frag} {H:Hp} {lo:Int} {n:Nat}:ItD K (Itr lo n) H ((List.range n).map fun (i:Nat)=>D.int (lo+(i:Int)*1)):=by
 intro i H2 s
 refine ⟨fun hi=>?_,fun hi=>(show n<=i by simpa using hi)⟩
 have hi':i < n:=by simpa using hi
 refine ⟨hi',fun x H' y=>?_⟩
 obtain ⟨e,y⟩:=y
 subst e y
 refine ⟨Same.refl _,.int (lo+(i:Int)*1),?_,by rw [Int.mul_one];exact .int _⟩
 rw [List.getElem?_map,List.getElem?_range hi']
 rfl
theorem lU {X:Cx} {tg a:Expr} {g:FA} {p pos:Pos} (hg:Gl X "range") (hm:X.mg "range" = none) (ha:PAD X [a] g) (hs:starEach [a] X.env=[(false,eval a X.env)]:=by rfl):PID X tg (.Call (.Name "range" p) [a] [] pos) (qa g) :=
 sd (nR hg hm ha hs) fun σ H R ⟨δ,ds,R0,e,k⟩=>by
 unfold qa at e
 obtain ⟨xs,exs,e⟩:=Za.mp e
 refine ⟨δ,xs,R0,exs,fun vs H1 s1 r1 l=>?_⟩
 match xs,r1,e with
 | [.int b],r1,e =>
  obtain ⟨v,rfl,rv⟩:=fM r1
  cases rv
  have e':(if -(2 ^ 62)<=b/\b < 2 ^ 62 then some (dQ 0 b 1) else none)=some ds:=e
  by_cases hb:-(2 ^ 62)<=b/\b < 2 ^ 62
  . rw [if_pos hb] at e'
    have e2:dQ 0 b 1=ds:=Option.some.inj e'
    refine ⟨b,rfl,hb.1,hb.2,k _ H1 s1 ?_⟩
    have h:=rK (K:=X.K) (H:=H1) (lo:=0) (n:=b.toNat)
    have e3:((b - 0+1 - 1) / 1).toNat=b.toNat:=by congr 1;omega
    unfold dQ at e2
    rw [e3] at e2
    rw [<- e2]
    exact h
  . rw [if_neg hb] at e';cases e'
 | [],r1,e=>cases r1;cases l
 | _ :: _ :: _,r1,e=>
  have:=r1.length
  rw [l] at this
  cases this
 | [.non],r1,e=>cases e
 | [.bl _],r1,e=>cases e
 | [.str _],r1,e=>cases e
 | [.tup _],r1,e=>cases e
 | [.lst _],r1,e=>cases e
 | [.seq _],r1,e=>cases e
 | [.ty _],r1,e=>cases e
 | [.dct],r1,e=>cases e
 | [.exc _],r1,e=>cases e
 | [.cls _],r1,e=>cases e
 | [.ms _ _],r1,e=>cases e
 | [.mf _ _],r1,e=>cases e
 | [.md _ _],r1,e=>cases e
end Dl
namespace Dl
open PySem PySem.Spec PyProof.Rows L2
structure CompOk (X:Cx) (scope:Scope) (cl:List (Str×Addr)) (x:Str) (N:List Str) (js:List Nat):Prop where
 clos:closureFor scope X.env=pure cl
 nocell:∀ y∈scope.names,y.2 ≠ .cell
 kind:scope.kind=.function
 names:∀ y∈scope.names,y.2=.local->scope.names.lookup y.1=some .local
 hx:scope.names.lookup x=some .local
 nd:N.Nodup
 h0:N[0]? = some x
 len:N.length=js.length+1
 clx:cl.lookup x=none
 cls:∀ y c,cl.lookup y=some c->X.env.cells.lookup y=some c
 has:∀ y,((relabel scope X.env).names.lookup y=some .cell \/ (relabel scope X.env).names.lookup y=some .free)->∃ c,cl.lookup y=some c
 fr:∀ i y j,N[i+1]? = some y->js[i]? = some j->X.N[j]? = some y/\X.env.scope.names.lookup y=some .cell/\(relabel scope X.env).names.lookup y=some .cell/\∀ c,X.env.cells.lookup y=some c->cl.lookup y=some c
abbrev cf (X:Cx) (scope:Scope) (cl:List (Str×Addr)) (x:Str) (N:List Str) (C:Addr) (s₂:Shared) (H₂:Hp) (fp:List Addr) (pn:List (Addr×Obj)):Cx :=
 { X with env:=compEnvC scope cl C X.env,N:=N,s₀:=s₂,H₀:=H₂,outer:=X.stack,stack:=X.stack,ex:=fp,fn:=fun y=>y == x,calm:=true,pn:=pn,xe:=fun _ _=>False }
section
variable {X:Cx} {pins:List (Addr×Obj)} {σ:L2.St} {H₂:Hp} {s₂:Shared} {scope:Scope} {cl:List (Str×Addr)} {x:Str} {N:List Str} {js:List Nat} {C:Addr} {fp:List Addr}
theorem vc (I:L2.Inv X pins σ H₂ s₂) (hcm:X.calm=true) (O:CompOk X scope cl x N js) (hC:s₂.heap.objs.size<=C) (hf:∀ b∈fp,iO X pins H₂ b) (ho:∀ b∈fp,∃ o,s₂.heap.get? b=some o):(cf X scope cl x N C s₂ H₂ fp (X.pn++pins)).Ok where
 mod:=I.ok.mod
 kind:=O.kind
 glob:=I.ok.glob
 blt:=I.ok.blt
 above:=hC
 inj:=fun y z c h1 h2=>I.ok.inj y z c (O.cls y c h1) (O.cls z c h2)
 has:=fun y h=>O.has y h
 cab:=fun y c h1 h2=>by
  have e:y=x:=by simpa using h1
  subst e
  have:cl.lookup y=some c:=h2
  rw [O.clx] at this
  cases this
 hd:=fun _=>I.ok.hd hcm
 frames:=I.ok.frames
 stk:=.inl rfl
 exf:=fun b hb=>by
  obtain ⟨o,e⟩:=ho b hb
  refine ⟨Nat.ne_of_lt (Nat.lt_of_lt_of_le (Heap.lt_size e) hC),fun y c h z=>?_⟩
  exact (hf b hb).2.2.2.2.1 y c (O.cls y c h) z
 bs:=I.bs
 bsz:=Nat.le_trans I.ok.bsz I.sz
 noex:=fun b o e hb=>by
  rcases (hf b hb).2.2.2.1 with z | z
  . exact I.ok.noex b o e z
  . exact absurd (Nat.lt_of_lt_of_le (Heap.lt_size e) (Nat.le_trans I.ok.bsz z)) (Nat.lt_irrefl _)
 exfs:=fun b hb z=>by
  rcases Zo.mp (I.stkSub b z) with e | e
  . exact (hf b hb).2.1 e
  . exact (hf b hb).2.2.1 e
 funs:=I.stack
 frf:=I.stkFree
end
theorem mo {g:D->Option D}:∀ {ds xs:List D},j4 g ds=some xs->xs.length=ds.length/\∀ (i:Nat) d,ds[i]? = some d->∃ e,g d=some e/\xs[i]? = some e
 | [],xs,h=>by
  cases h
  exact ⟨rfl,fun i d e=>by simp at e⟩
 | d :: ds,xs,h=>by
  obtain ⟨x,ex,h⟩:=Za.mp (show ((g d).bind _)=some xs from h)
  obtain ⟨ys,ey,h⟩:=Za.mp h
  cases h
  obtain ⟨h1,h2⟩:=mo ey
  refine ⟨by simp [h1],fun i e he=>?_⟩
  cases i with
  | zero=>simp at he;subst he;exact ⟨x,ex,rfl⟩
  | succ i =>
   obtain ⟨z,hz1,hz2⟩:=h2 i e (by simpa using he)
   exact ⟨z,hz1,by simpa using hz2⟩
def cY (js:List Nat) (σ:L2.St):L2.St:=js.map fun j=>match σ[j]? with
 | some o=>o
 | none=>none
theorem jT {K:PySem.W.Frag} {H:Hp} {σ:L2.St} {δ:DS} (R:RepS K H σ δ) (js:List Nat):RepS K H (none :: cY js σ) (none :: bv js δ):=by
 refine ⟨by simp [cY,bv],fun i d q=>?_⟩
 cases i with
 | zero=>simp at q
 | succ i =>
  have q':(bv js δ)[i]? = some (some d):=by simpa using q
  unfold bv at q'
  rw [List.getElem?_map] at q'
  obtain ⟨j,h1,h2⟩:=Zb.mp q'
  cases h3:δ[j]? with
  | none=>rw [h3] at h2;cases h2
  | some o =>
   rw [h3] at h2
   have h2':o=some d:=h2
   subst h2'
   obtain ⟨v,h4,h5⟩:=R.val j d h3
   refine ⟨v,?_,h5⟩
   show (cY js σ)[i]? = some (some v)
   unfold cY
   rw [List.getElem?_map,h1]
   show some (match σ[j]? with | some o=>o | none=>none)=some (some v)
   rw [h4]
theorem bindF {α β:Type} {M:Model} {A:Around} {m:Sem α} {f:α->Sem β} {Q:α->Shared->Prop} {R:β->Shared->Prop} {E:Value->Shared->Prop} {s:Shared} (h:wpAny M A m Q (fun _ _=>False) s) (k:∀ a s',Q a s'->wpAny M A (f a) R E s'):wpAny M A (m>>=f) R E s:=wpAny_bind (wpAny_mono h k fun _ _=>False.elim)
theorem jM {prog:Program} {w:World} {A:Around} {R:Result->Shared->Prop} {s:Shared} {elt target iter:Expr} {scope:Scope} {pos:Pos} {it acc:Value} {env:Env} (J:Nat->Shared->Prop)
 (turn:∀ n s,J n s->wpAny (model prog w) A (pyNext it) (fun r s₁=>match r with
  | none=>R (.ok .next) s₁
  | some v=>wpAny (model prog w) A (letOwnedTupleGo target it v) (fun _ s₂=>wpAny (model prog w) A (assign target env v) (fun _ s₃=>wpAny (model prog w) A (eval elt env) (fun y s₄ =>
   wpAny (model prog w) A (call (.builtin "list.append") [acc,y]) (fun _ s₅=>∃ m,m < n/\J m s₅) (fun _ _=>False) s₄) (fun _ _=>False) s₃) (fun _ _=>False) s₂) (fun _ _=>False) s₁) (fun _ _=>False) s)
 (n:Nat) (h:J n s):codeAny (model prog w) A (.compLoop (.ListComp elt [⟨target,iter,[],0⟩] scope pos) 0 it acc env) R s:=by
 refine codeAny_loop rfl J (fun n s j=>wpAny_noted (m:=compTurn (.ListComp elt [⟨target,iter,[],0⟩] scope pos) 0 it acc env) (compTurn_list1 elt target iter scope pos it acc env▸wpAny_bind (wpAny_standAt (bindF (turn n s j) fun r _ q=>?_)))) n h
 cases r with
 | none=>exact wpAny_pure q
 | some v=>
  exact bindF q fun _ _ q=>bindF q fun _ _ q=>wpAny_bind (bindF q fun _ _ q=>bindF q fun _ _ q=>wpAny_pure (wpAny_pure ⟨rfl,q⟩))
section
variable {X:Cx} {pins:List (Addr×Obj)} {σ:L2.St} {H₂:Hp} {s₂:Shared} {scope:Scope} {cl:List (Str×Addr)} {x:Str} {N:List Str} {js:List Nat} {C:Addr} {fp:List Addr}
theorem ii (I:L2.Inv X pins σ H₂ s₂) {a:Addr} (h:s₂.heap.objs.size<=a):a ∉ frs X.stack:=fun z=>by
 rcases Zo.mp (I.stkSub a z) with e | e
 . exact absurd (Nat.lt_of_lt_of_le I.lt (by rw [<- e];exact h)) (Nat.lt_irrefl _)
 . exact I.nofs h e
theorem mS {h₁:Heap} {m:Str->Option Value} {tk:Nat} (I:L2.Inv X pins σ H₂ s₂) (hcm:X.calm=true) (O:CompOk X scope cl x N js) (hC:s₂.heap.objs.size<=C) (hf:∀ b∈fp,iO X pins H₂ b) (ho:∀ b∈fp,∃ o,s₂.heap.get? b=some o)
 (old:∀ b o,s₂.heap.get? b=some o->h₁.get? b=some o) (hns:h₁.Ns C m) (hl:σ.length=X.N.length):L2.Inv (cf X scope cl x N C s₂ H₂ fp (X.pn++pins)) [] (none :: cY js σ) H₂ { s₂ with heap:=h₁,toks:=tk } where
 ok:=vc I hcm O hC hf ho
 os:=rfl
 bare:=I.bare
 base:=Un.kept old
 loc:=by
  refine ⟨m,hns,fun i y v h1 h2 h3=>?_⟩
  cases i with
  | zero=>simp at h2
  | succ i =>
   have h2':(cY js σ)[i]? = some (some v):=by simpa using h2
   unfold cY at h2'
   rw [List.getElem?_map] at h2'
   obtain ⟨j,hj,h4⟩:=Zb.mp h2'
   have h5:σ[j]? = some (some v):=by
    cases q:σ[j]? with
    | none=>rw [q] at h4;cases h4
    | some o=>rw [q] at h4;exact congrArg some h4
   obtain ⟨f1,f2,f3,f4⟩:=O.fr i y j h1 hj
   obtain ⟨m',hn',hl'⟩:=I.loc
   obtain ⟨u,ru,lk⟩:=hl' j y v f1 h5 (.inr (.inl f2))
   refine ⟨u,ru,?_⟩
   rcases lk with ⟨k1,_⟩ | ⟨_,c,hc,o,hco,hcd⟩
   . have:X.env.scope.names.lookup y=some .local:=k1
     rw [f2] at this
     cases this
   . exact .inr ⟨.inl f3,c,f4 c hc,o,old c o hco,hcd⟩
 cell:=fun y c e=>by
  obtain ⟨v,o,h1,h2⟩:=I.cell y c (O.cls y c e)
  exact ⟨v,o,old c o h1,h2⟩
 free:=I.hok.fresh hC
 freeC:=fun y c e=>I.freeC y c (O.cls y c e)
 pin:=fun p hp=>by
  have hp':p∈X.pn++pins:=by simpa using hp
  obtain ⟨h1,h2,h3,h4,h5⟩:=I.pin p hp'
  refine ⟨old _ _ h1,h2,Nat.ne_of_lt (Nat.lt_of_lt_of_le (Heap.lt_size h1) hC),fun z=>?_,h5⟩
  rcases Zo.mp (I.stkSub p.1 z) with e | e
  . exact h3 e
  . exact h4 e
 hok:=I.hok.kept old
 len:=by
  show (none :: cY js σ).length=N.length
  rw [O.len]
  simp [cY]
theorem sx {elt iter:Expr} {px pos:Pos} {it:Addr} {tn:Nat->Heap->Prop} {J:It} {ds xs:List D} {δ:DS} {felt:FD} {RR:Value->Addr->Result->Shared->Prop} {E:Value->Shared->Prop} (I:L2.Inv X pins σ H₂ s₂) (hcm:X.calm=true) (O:CompOk X scope cl x N js)
 (T:sD X.prog X.w X.K (.Name x px) J fp it tn) (st:tn 0 s₂.heap) (hf:∀ b∈fp,iO X pins H₂ b) (itd:ItD X.K J H₂ ds) (R:RepS X.K H₂ σ δ) (he:∀ C s₂ H₂ fp pn,PD (cf X scope cl x N C s₂ H₂ fp pn) elt felt)
 (hm:j4 (fun d=>felt (some d :: bv js δ)) ds=some xs) (hz:xs.length<=1000)
 (hRR:∀ (D C:Addr) (s':Shared) (Hend:Hp) (vs:List V),s₂.heap.objs.size<=C->L2.Inv X pins σ Hend s'->Same H₂ Hend->Hend D=some (.lst vs)->Reps X.K Hend vs xs->(∃ m,s'.heap.Ns C m)->Hend C=none->RR (.ref D) C (.ok .next) s') :
 wpAny (model X.prog X.w) X.A (newList []) (fun acc s₃=>wpAny (model X.prog X.w) X.A (newFunctionEnv scope X.env.globals cl [] X.env.qual none .none (some X.env)) (fun cenv s₄ =>
  codeAny (model X.prog X.w) X.A (.compStart (.ListComp elt [⟨.Name x px,iter,[],0⟩] scope pos) 0 (.ref it) acc { cenv with scope:=relabel scope X.env }) (RR acc cenv.locals) s₄) E s₃) E s₂:=by
 obtain ⟨ml,mg'⟩:=mo hm
 have objs:=T.obj 0 s₂.heap st
 have objs':∀ b∈fp,∃ o,s₂.heap.get? b=some o:=fun b hb=>let ⟨o,h,_⟩:=objs b hb;⟨o,h⟩
 refine wpAny_newObj_type (wpAny_newFunctionEnv O.nocell (by intro y hy;simp at hy) (fun h₁ hns₁ hsb₁=>?_) O.kind)
 dsimp only at hns₁ hsb₁ ⊢
 generalize hP:s₂.heap.push { cls:=.type "list",dict:=none,data:=.seq ([]:List Value).toArray }=P2 at hns₁ hsb₁ ⊢
 have hC:P2.objs.size=s₂.heap.objs.size+1:=by rw [<- hP,Heap.size_push]
 generalize hCC:P2.objs.size=C at *
 have hCle:s₂.heap.objs.size<=C:=by omega
 have hDle:s₂.heap.objs.size<=s₂.heap.objs.size:=by omega
 have hDC:s₂.heap.objs.size ≠ C:=by omega
 have old:∀ b o,s₂.heap.get? b=some o->h₁.get? b=some o:=fun b o e=>by
  refine hsb₁.extBut b o (Nat.ne_of_lt (Nat.lt_of_lt_of_le (Heap.lt_size e) hCle)) (Heap.get?_push_of_some _ ?_)
  rw [<- hP]
  exact Heap.get?_push_of_some _ e
 have hacc:h₁.get? s₂.heap.objs.size=some { cls:=.type "list",data:=.seq ([]:List Value).toArray }:=by
  refine hsb₁.extBut s₂.heap.objs.size _ hDC (Heap.get?_push_of_some _ ?_)
  rw [<- hP]
  exact Heap.get?_push_size _ rfl
 have I0:=fun tk=>mS (C:=C) (tk:=tk) I hcm O hCle hf objs' old hns₁ I.len
 have dstk:s₂.heap.objs.size ∉ frs X.stack:=ii I hDle
 have fne:∀ b∈fp,b ≠ s₂.heap.objs.size:=fun b hb e=>by
  obtain ⟨o,h⟩:=objs' b hb
  exact absurd (Heap.lt_size h) (by rw [e];exact Nat.lt_irrefl _)
 have cne:∀ y c,cl.lookup y=some c->c ≠ s₂.heap.objs.size:=fun y c e z=>by
  obtain ⟨v,o,h1,_⟩:=I.cell y c (O.cls y c e)
  exact absurd (Heap.lt_size h1) (by rw [z];exact Nat.lt_irrefl _)
 have pne:∀ p∈X.pn++pins,p.1 ≠ s₂.heap.objs.size:=fun p hp e=>by
  exact absurd (Heap.lt_size (I.pin p hp).1) (by rw [e];exact Nat.lt_irrefl _)
 have stat:∀ {H':Hp} {pl:List (Addr×Obj)},(∀ b∈fp,H' b=none)->(∀ p∈pl,∀ b∈fp,p.1 ≠ b)->∀ b∈fp,iO (cf X scope cl x N C s₂ H₂ fp (X.pn++pins)) pl H' b:=fun {H' pl} hn hpl b hb=>by
  obtain ⟨o,h⟩:=objs' b hb
  refine ⟨hn b hb,Nat.ne_of_lt (Nat.lt_of_lt_of_le (Heap.lt_size h) hCle),fun z=>?_,.inl hb,fun y c e=>(hf b hb).2.2.2.2.1 y c (O.cls y c e),fun p hp=>?_⟩
  . rcases Zo.mp (I.stkSub b z) with e | e
    . exact (hf b hb).2.1 e
    . exact (hf b hb).2.2.1 e
  . rcases Zn.mp hp with q | q
    . exact (hf b hb).2.2.2.2.2 p q
    . exact hpl p q b hb
 have loop:∀ s₃:Shared,s₃={ s₂ with heap:=h₁,toks:=s₂.toks+([]:List (Str×Value)).length } ->
  codeAny (model X.prog X.w) X.A (.compLoop (.ListComp elt [⟨.Name x px,iter,[],0⟩] scope pos) 0 (.ref it) (.ref s₂.heap.objs.size) (compEnvC scope cl C X.env)) (RR (.ref s₂.heap.objs.size) C) s₃:=by
  rintro s₃ rfl
  refine jM (fun n s=>∃ (i:Nat) (σ':L2.St) (H':Hp) (vs:List V) (o:Option D),n=ds.length - i/\i<=ds.length/\L2.Inv (cf X scope cl x N C s₂ H₂ fp (X.pn++pins)) [] σ' H' s/\Same H₂ H'/\RepS X.K H' σ' (o :: bv js δ)/\tn i s.heap/\(∀ b∈fp,H' b=none) /\
   (∃ (its:List Value) (k:Nat),Vals vs its/\s.heap.get? s₂.heap.objs.size=some { cls:=.type "list",data:=.seq its.toArray k })/\H' s₂.heap.objs.size=none/\Reps X.K H' vs (xs.take i)/\vs.length=i) ?_ ds.length
   ⟨0,_,H₂,[],none,rfl,Nat.zero_le _,I0 _,Same.refl _,jT R js,T.keep 0 _ _ st (fun b hb o e=>old b o e),fun b hb=>(hf b hb).1,⟨[],0,.nil,hacc⟩,I.hok.fresh hDle,.nil,rfl⟩
  rintro n s ⟨i,σ',H',vs,o,rfl,hi,I',sm,R',st',fr',⟨its,k,rv,hD⟩,fD,rr,hl⟩
  by_cases hlt:i < ds.length
  . -- one more
    obtain ⟨go,yl⟩:=(itd i H' sm).1 hlt
    have hd0:ds[i]? = some ds[i]:=by simp [hlt]
    obtain ⟨e,ge,xe⟩:=mg' i _ hd0
    have I1:L2.Inv (cf X scope cl x N C s₂ H₂ fp (X.pn++pins)) [(s₂.heap.objs.size,{ cls:=.type "list",data:=.seq its.toArray k })] σ' H' s:=I'.pins_of fun p hp=>by
     have:p=(s₂.heap.objs.size,{ cls:=.type "list",data:=.seq its.toArray k }):=by simpa using hp
     subst this
     exact ⟨hD,fD,hDC,dstk,fun v z=>by cases z⟩
    refine thn (T.item (cf X scope cl x N C s₂ H₂ fp (X.pn++pins)) rfl rfl rfl rfl i _ s σ' H' (fun _ _=>False) I1 (stat fr' fun p hp b hb=>by
     have:p=(s₂.heap.objs.size,{ cls:=.type "list",data:=.seq its.toArray k }):=by simpa using hp
     subst this
     exact (fne b hb).symm) st' go) fun r s1 ⟨u,hr,h4⟩=>?_
    subst hr
    refine thn h4 fun _ s2 ⟨y,H'',I2,ru,yy,st2,fr2⟩=>?_
    obtain ⟨s3,d,hd,rd⟩:=yl y H'' yy
    have hd':d=ds[i]:=by rw [hd0] at hd;exact (Option.some.inj hd).symm
    subst hd'
    have I3:=I2.pinned (stat fr2 fun p hp b hb=>by
     have:p=(s₂.heap.objs.size,{ cls:=.type "list",data:=.seq its.toArray k }):=by simpa using hp
     subst this
     exact (fne b hb).symm) (T.obj _ _ st2)
    refine thn (iH (X:=cf X scope cl x N C s₂ H₂ fp (X.pn++pins)) (i:=0) O.nd O.h0 (.inl (lookup_relabel_local O.hx)) (.inl (by simp)) _ s2 σ' H'' y u (fun σ4 H4=>σ4=σ'.set 0 (some y)/\H4=H'') I3 ru ⟨rfl,rfl⟩) fun _ s4 ⟨σ4,H4,I4,e1,e2⟩=>?_
    subst e1 e2
    have R4:RepS X.K H4 (σ'.set 0 (some y)) (some ds[i] :: bv js δ):=(R'.mono s3).set 0 rd
    refine thn (he C s₂ H₂ fp (X.pn++pins) _ s4 (σ'.set 0 (some y)) H4 (fun v H5=>Same H4 H5/\Rep X.K H5 v e) I4 ⟨_,e,R4,ge,fun v H5 s5 r5=>⟨s5,r5⟩⟩) fun wv s5 ⟨v,H5,I5,rw5,s45,r5⟩=>?_
    have hD5:s5.heap.get? s₂.heap.objs.size=some { cls:=.type "list",data:=.seq its.toArray k }:=(I5.pin (s₂.heap.objs.size,{ cls:=.type "list",data:=.seq its.toArray k }) (by simp)).1
    have fD5:H5 s₂.heap.objs.size=none:=(I5.pin (s₂.heap.objs.size,{ cls:=.type "list",data:=.seq its.toArray k }) (by simp)).2.1
    have pf:∀ b∈fp,∀ ob,s2.heap.get? b=some ob->s5.heap.get? b=some ob/\H5 b=none:=fun b hb ob hob=>by
     have:=I5.pin (b,ob) (List.mem_append_right _ (List.mem_append_right _ (eD hb hob)))
     exact ⟨this.1,this.2.1⟩
    have lz:its.length<=1000:=by
     have:=rv.length
     omega
    refine call_meets F.slot_list_append ⟨_,hD5,rfl⟩ F.entry_list_append (F.args_list_append_2 _ _) (PySem.list_append s₂.heap.objs.size its.toArray k wv (by rw [List.size_toArray];exact de lz)) ⟨hD5,?_⟩
    have q:=PySem.IsL.update hD5 (fun a=>a.push wv)
    have I6:L2.Inv (cf X scope cl x N C s₂ H₂ fp (X.pn++pins)) [] (σ'.set 0 (some y)) H5 { s5 with heap:=s5.heap.update s₂.heap.objs.size (Obj.mapSeq fun a=>a.push wv),toks:=s5.toks } :=
     (I5.pins_of (pins':=[]) fun p hp=>by simp at hp).turned (it:=s₂.heap.objs.size) (t':=s5.toks) (fun b ob hb hu=>(Heap.get?_update_other s5.heap _ (Ne.symm hb)).trans hu) fD5 hDC (.inr hDle) cne (fun p hp=>by
      rcases Zn.mp hp with z | z
      . exact pne p z
      . simp at z)
    refine ⟨ds.length - (i+1),by omega,i+1,σ'.set 0 (some y),H5,vs++[v],some ds[i],rfl,hlt,I6,(sm.trans s3).trans s45,R4.mono s45,?_,?_,?_,fD5,?_,by simp [hl]⟩
    . refine T.keep _ _ _ st2 fun b hb ob hob=>?_
      exact (Heap.get?_update_other s5.heap _ (Ne.symm (fne b hb))).trans (pf b hb ob hob).1
    . intro b hb
      obtain ⟨ob,hob,_⟩:=T.obj _ _ st2 b hb
      exact (pf b hb ob hob).2
    . have hf7:its.toArray.push wv=(its++[wv]).toArray:=by simp
      rw [hf7] at q
      exact ⟨its++[wv],_,rv.append (.cons rw5 .nil),q⟩
    . have e8:xs.take (i+1)=xs.take i++[e]:=by
       rw [List.take_add_one,xe];rfl
      rw [e8]
      exact ((rr.mono s3).mono s45).append (.cons r5 .nil)
  . -- the end
    have hie:i=ds.length:=by omega
    refine thn (T.done (cf X scope cl x N C s₂ H₂ fp (X.pn++pins)) rfl rfl rfl rfl i [(s₂.heap.objs.size,{ cls:=.type "list",data:=.seq its.toArray k })] s σ' H' (fun _ _=>False) (I'.pins_of fun p hp=>by
     have:p=(s₂.heap.objs.size,{ cls:=.type "list",data:=.seq its.toArray k }):=by simpa using hp
     subst this
     exact ⟨hD,fD,hDC,dstk,fun v z=>by cases z⟩) (stat fr' fun p hp b hb=>by
     have:p=(s₂.heap.objs.size,{ cls:=.type "list",data:=.seq its.toArray k }):=by simpa using hp
     subst this
     exact (fne b hb).symm) st' ((itd i H' sm).2 (by omega))) fun r s1 ⟨hr,I8⟩=>?_
    subst hr
    have hD8:s1.heap.get? s₂.heap.objs.size=some { cls:=.type "list",data:=.seq its.toArray k }:=(I8.pin (s₂.heap.objs.size,{ cls:=.type "list",data:=.seq its.toArray k }) (by simp)).1
    have hxs:xs.take i=xs:=List.take_of_length_le (by omega)
    rw [hxs] at rr
    have sn:=c5 fD (.lst vs)
    have dn:∀ b,∀ u,H' b=some u->b ≠ s₂.heap.objs.size:=fun b u z=>cA z fD
    have un:Un (frs X.stack) fp H₂ (upd H' s₂.heap.objs.size (.lst vs)) s₂.heap s1.heap:=by
     have b0:=I8.base
     refine ⟨fun b ob e n1 n2 n3=>b0.keep b ob e n1 n2 n3,fun b ob e n1 n2 n3=>b0.slot b ob e n1 n2 n3,fun b ob e n1 n3=>?_,fun b ob e n3=>b0.there b ob e n3,fun b zs e=>?_,fun b ob u e=>?_,fun b ps e=>?_⟩
     . rw [ax (Nat.ne_of_lt (Heap.lt_size e))]
       exact b0.free b ob e n1 n3
     . have z:=b0.tups b zs e
       rw [ax (dn _ _ z)]
       exact z
     . have z:=b0.frzs b ob u e
       rw [ax (dn _ _ z)]
       exact z
     . obtain ⟨more,z⟩:=b0.tbls b ps e
       exact ⟨more,by rw [ax (dn _ _ z)];exact z⟩
    have hok:HOk X.prog X.w (upd H' s₂.heap.objs.size (.lst vs)) s1.heap:=fun b u z=>by
     by_cases hb:b=s₂.heap.objs.size
     . rw [hb] at z ⊢
       rw [aU] at z
       cases z
       exact ⟨de (by omega),its,k,rv,hD8⟩
     . rw [ax hb] at z
       exact (I8.hok b u z).stay (fun _ _ _ q=>q) (fun c q=>by rw [ax (dn _ _ q)];exact q) fun c ys q=>by rw [ax (dn _ _ q)];exact q
    have IX:L2.Inv X pins σ (upd H' s₂.heap.objs.size (.lst vs)) s1:=I.call' I8.os un hok I8.bare fun b hb=>⟨(hf b hb).2.2.2.1,(hf b hb).2.1,(hf b hb).2.2.2.2.1,(hf b hb).2.2.2.2.2⟩
    obtain ⟨m8,hn8,_⟩:=I8.loc
    refine hRR s₂.heap.objs.size C s1 _ vs hCle IX (sm.trans sn) aU (rr.mono sn) ⟨m8,hn8⟩ ?_
    rw [ax (Ne.symm hDC)]
    exact I8.free
 exact codeAny_compStart_list (loop _ rfl) (T.self X.A 0 _ _ _ (T.keep 0 _ _ st (fun b hb o e=>old b o e)) (loop _ rfl))
theorem nW {C:Addr} {h':Heap} {s':Shared} {Hend:Hp} (I:L2.Inv X pins σ Hend s') (I0:L2.Inv X pins σ H₂ s₂) (hC:s₂.heap.objs.size<=C) (fC:Hend C=none) (hs:Heap.SameBut C s'.heap h'):L2.Inv X pins σ Hend { s' with heap:=h' } :=
 I.turned (it:=C) (t':=s'.toks) (fun b o hb e=>(hs.2 b hb).trans e) fC (Nat.ne_of_gt (Nat.lt_of_lt_of_le I0.lt hC)) (.inr (Nat.le_trans I0.sz hC))
  (fun y c e z=>by
   obtain ⟨v,o,h1,_⟩:=I0.cell y c e
   exact absurd (Nat.lt_of_lt_of_le (Heap.lt_size h1) (by rw [z];exact hC)) (Nat.lt_irrefl _))
  (fun p hp z=>absurd (Nat.lt_of_lt_of_le (Heap.lt_size (I0.pin p hp).1) (by rw [z];exact hC)) (Nat.lt_irrefl _))
theorem x8 {elt iter:Expr} {px pos:Pos} {src:FA} {felt:FD} (hi:PID X (.Name x px) iter src) {N:List Str} {js:List Nat} (he:∀ C s₂ H₂ fp pn,PD (cf X scope cl x N C s₂ H₂ fp pn) elt felt) (O:CompOk X scope cl x N js) (hcm:X.calm=true:=by rfl)
 (hs:∀ v,foldedSetIterable iter X.env v=pure v:=by intro _;rfl):PD X (.ListComp elt [⟨.Name x px,iter,[],0⟩] scope pos) (t6 src js felt):=by
 intro pins s σ H Q I ⟨δ,d,R,q,k⟩
 unfold t6 at q
 obtain ⟨ds,eds,q⟩:=Za.mp q
 obtain ⟨xs,exs,q⟩:=Za.mp q
 by_cases hz:xs.length<=1000
 . rw [if_pos hz] at q
   cases q
   rw [eval_ListComp]
   refine wpAny_comprehension_free (use:=none) rfl hs O.clos O.kind O.names ?_
   refine wpAny_mono (hi pins s σ H (fun J H1=>Same H H1/\ItD X.K J H1 ds) I ⟨δ,ds,R,eds,fun J H1 s1 itd=>⟨s1,itd⟩⟩) (fun v s1 h1=>wpAny_mono h1 (fun itv s2 h2=>?_) fun _ _ z=>z) fun _ _ z=>z
   obtain ⟨it,fp,tn,J,H2,rfl,I2,T,st,hf,s1,itd⟩:=h2
   refine sx (RR:=fun acc C=>compPost (model X.prog X.w) X.A X.xe none (EP X pins σ Q) acc C) I2 hcm O T st hf itd (R.mono s1) he exs hz ?_
   intro D C s' Hend vs hC IX sm hD rr ⟨m,hn⟩ fC
   exact ⟨m,hn,fun h' hs'=>⟨.ref D,Hend,nW IX I2 hC fC hs',rfl,k _ _ (s1.trans sm) (.lst hD rr)⟩⟩
 . rw [if_neg hz] at q;cases q
end
end Dl
namespace Dl
open PySem PySem.Spec PyProof.Rows L2
theorem CompOk.one {X:Cx} {scope:Scope} {c:Addr} {x z:Str} {j:Nat} (clos:closureFor scope X.env=pure [(z,c)]:=by rfl) (nocell:∀ y∈scope.names,y.2 ≠ .cell:=by decide +kernel) (kind:scope.kind=.function:=by rfl)
 (names:∀ y∈scope.names,y.2=.local->scope.names.lookup y.1=some .local:=by decide +kernel) (hx:scope.names.lookup x=some .local:=by rfl) (hne:x ≠ z:=by decide +kernel) (hcell:X.env.cells.lookup z=some c:=by rfl)
 (hfr:∀ p∈scope.names,p.2=.free->p.1=z:=by decide +kernel) (hj:X.N[j]? = some z:=by rfl) (hk:X.env.scope.names.lookup z=some .cell:=by rfl) (hk':(relabel scope X.env).names.lookup z=some .cell:=by rfl):CompOk X scope [(z,c)] x [x,z] [j] where
 clos:=clos
 nocell:=nocell
 kind:=kind
 names:=names
 hx:=hx
 nd:=by simp [hne]
 h0:=rfl
 len:=rfl
 clx:=by
  show List.lookup x [(z,c)]=none
  have q:(x == z)=false:=beq_eq_false_iff_ne.mpr hne
  rw [List.lookup_cons,q]
  rfl
 cls:=fun y a h=>by
  have h':List.lookup y [(z,c)]=some a:=h
  by_cases hy:y=z
  . subst hy
    simp at h'
    subst h'
    exact hcell
  . have q:(y == z)=false:=beq_eq_false_iff_ne.mpr hy
    rw [List.lookup_cons,q] at h'
    cases h'
 has:=fun y h=>by
  have key:∀ k,(k=NameKind.cell \/ k=NameKind.free)->(relabel scope X.env).names.lookup y=some k->y=z:=fun k hk h=>by
   have m:=PySem.mem_of_lookup h
   unfold relabel at m
   obtain ⟨⟨n,k'⟩,m1,m2⟩:=Zm.mp m
   dsimp only at m2
   have hk1:k'=NameKind.free:=by
    split at m2
    . rename_i hc
      rw [Bool.and_eq_true,Bool.and_eq_true] at hc
      exact beq_iff_eq.mp hc.1.1
    . have e:k'=k:=congrArg Prod.snd m2
      rcases hk with z1 | z1
      . exact absurd (e.trans z1) (nocell _ m1)
      . exact e.trans z1
   have hn:n=y:=by split at m2 <;> exact congrArg Prod.fst m2
   rw [<- hn]
   exact hfr _ m1 hk1
  have e:y=z:=by
   rcases h with h | h
   . exact key _ (.inl rfl) h
   . exact key _ (.inr rfl) h
  subst e
  exact ⟨c,by simp⟩
 fr:=fun i y k h1 h2=>by
  cases i with
  | zero =>
   have e1:z=y:=Option.some.inj h1
   have e2:j=k:=Option.some.inj h2
   subst e1 e2
   refine ⟨hj,hk,hk',fun a ha=>?_⟩
   rw [hcell] at ha
   cases ha
   simp
  | succ i=>cases h2
end Dl
namespace Dl
open PySem PySem.Spec PyProof.Rows L2
end Dl
namespace Dl
open PySem PySem.Spec PyProof.Rows L2
section
variable {P:Program} {w:World} {K:PySem.W.Frag} {mg:Str->Option Value} {base:Heap}
end
section
variable {X:Cx} {a b:Expr} {fa fb:FD} {pos:Pos}
end
end Dl
namespace Dl
open PySem PySem.Spec PyProof.Rows L2
section
variable {X:Cx} {pins:List (Addr×Obj)} {σ:L2.St} {H H₀ H':Hp} {s s':Shared} {B:Heap} {x C t:Addr}
end
section
variable {X:Cx} {pins:List (Addr×Obj)} {σ:L2.St} {H:Hp} {s:Shared} {h':Heap}
end
end Dl
namespace Dl
open PySem PySem.Spec PyProof.Rows L2
mutual
def imm:D->Bool
 | .tup ds=>bM ds
 | .lst _=>false
 | .seq _=>false
 | .ms _ _=>false
 | .mf _ _=>false
 | .md _ _=>false
 | _=>true
def bM:List D->Bool
 | []=>true
 | d :: ds=>imm d && bM ds
end
mutual
def own:D->Bool
 | .tup ds=>gn ds
 | .lst ds=>gn ds
 | .seq _=>false
 | .ms _ _=>false
 | .mf _ _=>false
 | _=>true
def gn:List D->Bool
 | []=>true
 | d :: ds=>own d && gn ds
end
mutual
def sh:D->D
 | .tup ds=>.tup (shs ds)
 | .lst ds=>.seq (shs ds)
 | .seq ds=>.seq (shs ds)
 | .ms ks ds=>.ms ks (shs ds)
 | .mf ks ds=>.mf ks (shs ds)
 | .md ks ds=>.ms ks (shs ds)
 | d=>d
def shs:List D->List D
 | []=>[]
 | d :: ds=>sh d :: shs ds
end
theorem c8:∀ (ds:List D),shs ds=ds.map sh
 | []=>rfl
 | d :: ds=>by rw [shs,c8 ds];rfl
mutual
theorem zB:∀ {d:D},imm d=true->sh d=d
 | .non,_=>rfl
 | .bl _,_=>rfl
 | .int _,_=>rfl
 | .str _,_=>rfl
 | .ty _,_=>rfl
 | .dct,_=>rfl
 | .exc _,_=>rfl
 | .cls _,_=>rfl
 | .ms _ _,h=>by rw [imm] at h;cases h
 | .mf _ _,h=>by rw [imm] at h;cases h
 | .md _ _,h=>by rw [imm] at h;cases h
 | .tup ds,h=>by rw [sh,oF (by rw [imm] at h;exact h)]
 | .lst _,h=>by rw [imm] at h;cases h
 | .seq _,h=>by rw [imm] at h;cases h
theorem oF:∀ {ds:List D},bM ds=true->shs ds=ds
 | [],_=>rfl
 | d :: ds,h=>by
  rw [bM,Bool.and_eq_true] at h
  rw [shs,zB h.1,oF h.2]
end
def mtb:HO->Bool
 | .lst _=>true
 | .dK _=>true
 | .frz _ (.dK _)=>true
 | _=>false
abbrev MO:={u:HO // mtb u=true}
def d9 (H H':Hp):Prop:=∀ a u,H a=some u->mtb u=false->H' a=some u
theorem bR {H H':Hp} (s:Same H H'):d9 H H':=fun a u e _=>s a u e
theorem gA {H:Hp} {a:Addr} {u:HO} {o:HO} (h:H a=some u) (m:mtb u=true):d9 H (upd H a o):=fun b w e n=>by
 by_cases hb:b=a
 . subst hb;rw [h] at e;cases e;rw [m] at n;cases n
 . rw [ax hb];exact e
theorem io {H:Hp} {a:Addr} {vs:List V} {o:HO} (h:H a=some (.lst vs)):d9 H (upd H a o):=gA h rfl
theorem lF {K:PySem.W.Frag} {H H':Hp} {a:Addr} {xs:List V} (k:d9 H H') (h:SqT K H a xs):SqT K H' a xs:=by
 rcases h with (h | ⟨o,h⟩) | h
 . exact .inl (.inl (k _ _ h rfl))
 . exact .inl (.inr ⟨o,k _ _ h rfl⟩)
 . exact .inr h
mutual
theorem ib {K:PySem.W.Frag} {H H':Hp} (k:d9 H H'):∀ {v:V} {d:D},Rep K H v d->imm d=true->Rep K H' v d
 | _,_,.non,_=>.non
 | _,_,.bl b,_=>.bl b
 | _,_,.int i,_=>.int i
 | _,_,.str x,_=>.str x
 | _,_,.ty n,_=>.ty n
 | _,_,.tup h r,i=>.tup (lF k h) (dD k r (by rw [imm] at i;exact i))
 | _,_,.lst h r,i=>by rw [imm] at i;cases i
 | _,_,.seq h r,i=>by rw [imm] at i;cases i
 | _,_,.dct h,_=>.dct (k _ _ h rfl)
 | _,_,.exc h,_=>.exc (k _ _ h rfl)
 | _,_,.cls C,_=>.cls C
 | _,_,.ms h l r,i=>by rw [imm] at i;cases i
 | _,_,.mf h l r,i=>by rw [imm] at i;cases i
 | _,_,.md h l r,i=>by rw [imm] at i;cases i
theorem dD {K:PySem.W.Frag} {H H':Hp} (k:d9 H H'):∀ {vs:List V} {ds:List D},Reps K H vs ds->bM ds=true->Reps K H' vs ds
 | _,_,.nil,_=>.nil
 | _,_,.cons r t,i=>by
  rw [bM,Bool.and_eq_true] at i
  exact .cons (ib k r i.1) (dD k t i.2)
end
mutual
theorem lN {K:PySem.W.Frag} {H:Hp}:∀ {v:V} {d:D},Rep K H v d->Rep K H v (sh d)
 | _,_,.non=>.non
 | _,_,.bl b=>.bl b
 | _,_,.int i=>.int i
 | _,_,.str x=>.str x
 | _,_,.ty n=>.ty n
 | _,_,.tup h r=>by rw [sh];exact .tup h (cS r)
 | _,_,.lst h r=>by rw [sh];exact .seq (SqL.of h) (cS r)
 | _,_,.seq h r=>by rw [sh];exact .seq h (cS r)
 | _,_,.dct h=>.dct h
 | _,_,.exc h=>.exc h
 | _,_,.cls C=>.cls C
 | _,_,.ms h l r=>by rw [sh];exact .ms h (by rw [c8,Zi];exact l) (cS r)
 | _,_,.mf h l r=>by rw [sh];exact .mf h (by rw [c8,Zi];exact l) (cS r)
 | _,_,.md h l r=>by rw [sh];exact .ms (.inl h) (by rw [c8,Zi];exact l) (cS r)
theorem cS {K:PySem.W.Frag} {H:Hp}:∀ {vs:List V} {ds:List D},Reps K H vs ds->Reps K H vs (shs ds)
 | _,_,.nil=>.nil
 | _,_,.cons r t=>by rw [shs];exact .cons (lN r) (cS t)
end
mutual
inductive RepO (K:PySem.W.Frag) (F H:Hp):V->D->List Addr->Prop
 | imm {v:V} {d:D} (i:imm d=true) (h:Rep K H v d):RepO K F H v d []
 | shr {v:V} {ds:List D} (h:Rep K F v (.seq ds)):RepO K F H v (.seq ds) []
 | shm {v:V} {ks:List Int} {ds:List D} (h:Rep K F v (.ms ks ds)):RepO K F H v (.ms ks ds) []
 | shf {v:V} {ks:List Int} {ds:List D} (h:Rep K F v (.mf ks ds)):RepO K F H v (.mf ks ds) []
 | tup {a:Addr} {vs:List V} {ds:List D} {A:List Addr} (h:SqT K H a vs) (r:RepOs K F H vs ds A):RepO K F H (.ref a) (.tup ds) A
 | lst {a:Addr} {vs:List V} {ds:List D} {A:List Addr} (h:H a=some (.lst vs)) (n:F a=none) (r:RepOs K F H vs ds A):RepO K F H (.ref a) (.lst ds) (a :: A)
 | md {a:Addr} {ks:List Int} {vs:List V} {ds:List D} (h:H a=some (.dK ((ks.map Sum.inl).zip vs))) (n:F a=none) (l:ks.length=ds.length) (i:bM ds=true) (r:Reps K H vs ds):RepO K F H (.ref a) (.md ks ds) [a]
inductive RepOs (K:PySem.W.Frag) (F H:Hp):List V->List D->List Addr->Prop
 | nil:RepOs K F H [] [] []
 | cons {v:V} {d:D} {vs:List V} {ds:List D} {A B C:List Addr} (r:RepO K F H v d A) (t:RepOs K F H vs ds B) (e:C=A++B):RepOs K F H (v :: vs) (d :: ds) C
end
section
variable {K:PySem.W.Frag} {F H F' H':Hp}
mutual
theorem RepO.rep (s:Same F H):∀ {v:V} {d:D} {A:List Addr},RepO K F H v d A->Rep K H v d
 | _,_,_,.imm _ h=>h
 | _,_,_,.shr h=>h.mono s
 | _,_,_,.shm h=>h.mono s
 | _,_,_,.shf h=>h.mono s
 | _,_,_,.tup h r=>.tup h (RepOs.reps s r)
 | _,_,_,.lst h _ r=>.lst h (RepOs.reps s r)
 | _,_,_,.md h _ l _ r=>.md h l r
theorem RepOs.reps (s:Same F H):∀ {vs:List V} {ds:List D} {A:List Addr},RepOs K F H vs ds A->Reps K H vs ds
 | _,_,_,.nil=>.nil
 | _,_,_,.cons r t _=>.cons (RepO.rep s r) (RepOs.reps s t)
end
mutual
theorem RepO.dom:∀ {v:V} {d:D} {A:List Addr},RepO K F H v d A->∀ a∈A,(∃ u:MO,H a=some u.1)/\F a=none
 | _,_,_,.imm _ _,_,m=>nomatch m
 | _,_,_,.shr _,_,m=>nomatch m
 | _,_,_,.shm _,_,m=>nomatch m
 | _,_,_,.shf _,_,m=>nomatch m
 | _,_,_,.tup _ r,a,m=>RepOs.dom r a m
 | _,_,_,.lst h n r,a,m=>by
  rcases Zo.mp m with e | e
  . subst e;exact ⟨⟨⟨_,rfl⟩,h⟩,n⟩
  . exact RepOs.dom r a e
 | _,_,_,.md h n _ _ _,a,m=>by
  rcases Zl.mp m with rfl
  exact ⟨⟨⟨_,rfl⟩,h⟩,n⟩
theorem RepOs.dom:∀ {vs:List V} {ds:List D} {A:List Addr},RepOs K F H vs ds A->∀ a∈A,(∃ u:MO,H a=some u.1)/\F a=none
 | _,_,_,.nil,_,m=>nomatch m
 | _,_,_,.cons r t e,a,m=>by
  subst e
  rcases Zn.mp m with z | z
  . exact RepO.dom r a z
  . exact RepOs.dom t a z
end
mutual
theorem RepO.frame (k:d9 H H'):∀ {v:V} {d:D} {A:List Addr},RepO K F H v d A->(∀ a∈A,H' a=H a)->RepO K F H' v d A
 | _,_,_,.imm i h,_=>.imm i (ib k h i)
 | _,_,_,.shr h,_=>.shr h
 | _,_,_,.shm h,_=>.shm h
 | _,_,_,.shf h,_=>.shf h
 | _,_,_,.tup h r,e=>.tup (lF k h) (RepOs.frame k r e)
 | _,_,_,.lst h n r,e=>.lst ((e _ Zj).trans h) n (RepOs.frame k r fun a m=>e a (Zk _ m))
 | _,_,_,.md h n l i r,e=>.md ((e _ Zj).trans h) n l i (dD k r i)
theorem RepOs.frame (k:d9 H H'):∀ {vs:List V} {ds:List D} {A:List Addr},RepOs K F H vs ds A->(∀ a∈A,H' a=H a)->RepOs K F H' vs ds A
 | _,_,_,.nil,_=>.nil
 | _,_,_,.cons r t e,q=>by
  subst e
  exact .cons (RepO.frame k r fun a m=>q a (List.mem_append_left _ m)) (RepOs.frame k t fun a m=>q a (List.mem_append_right _ m)) rfl
end
mutual
theorem RepO.froz (s:Same F F'):∀ {v:V} {d:D} {A:List Addr},RepO K F H v d A->(∀ a∈A,F' a=none)->RepO K F' H v d A
 | _,_,_,.imm i h,_=>.imm i h
 | _,_,_,.shr h,_=>.shr (h.mono s)
 | _,_,_,.shm h,_=>.shm (h.mono s)
 | _,_,_,.shf h,_=>.shf (h.mono s)
 | _,_,_,.tup h r,e=>.tup h (RepOs.froz s r e)
 | _,_,_,.lst h n r,e=>.lst h (e _ Zj) (RepOs.froz s r fun a m=>e a (Zk _ m))
 | _,_,_,.md h n l i r,e=>.md h (e _ Zj) l i r
theorem RepOs.froz (s:Same F F'):∀ {vs:List V} {ds:List D} {A:List Addr},RepOs K F H vs ds A->(∀ a∈A,F' a=none)->RepOs K F' H vs ds A
 | _,_,_,.nil,_=>.nil
 | _,_,_,.cons r t e,q=>by
  subst e
  exact .cons (RepO.froz s r fun a m=>q a (List.mem_append_left _ m)) (RepOs.froz s t fun a m=>q a (List.mem_append_right _ m)) rfl
end
mutual
theorem RepO.thaw (s:Same F' F):∀ {v:V} {d:D} {A:List Addr},RepO K F H v d A->own d=true->RepO K F' H v d A
 | _,_,_,.imm i h,_=>.imm i h
 | _,_,_,.shr h,o=>by rw [own] at o;cases o
 | _,_,_,.shm h,o=>by rw [own] at o;cases o
 | _,_,_,.shf h,o=>by rw [own] at o;cases o
 | _,_,_,.tup h r,o=>.tup h (RepOs.thaw s r (by rw [own] at o;exact o))
 | _,_,_,.lst (a:=a) h n r,o=>.lst h (by
  cases q:F' a with
  | none=>rfl
  | some u=>rw [s a u q] at n;cases n) (RepOs.thaw s r (by rw [own] at o;exact o))
 | _,_,_,.md (a:=a) h n l i r,o=>.md h (by
  cases q:F' a with
  | none=>rfl
  | some u=>rw [s a u q] at n;cases n) l i r
theorem RepOs.thaw (s:Same F' F):∀ {vs:List V} {ds:List D} {A:List Addr},RepOs K F H vs ds A->gn ds=true->RepOs K F' H vs ds A
 | _,_,_,.nil,_=>.nil
 | _,_,_,.cons r t e,o=>by
  rw [gn,Bool.and_eq_true] at o
  exact .cons (RepO.thaw s r o.1) (RepOs.thaw s t o.2) e
end
mutual
theorem RepO.none_of:∀ {v:V} {d:D} {A:List Addr},RepO K F H v d A->imm d=true->A=[]
 | _,_,_,.imm _ _,_=>rfl
 | _,_,_,.shr _,_=>rfl
 | _,_,_,.shm _,_=>rfl
 | _,_,_,.shf _,_=>rfl
 | _,_,_,.tup _ r,i=>RepOs.none_of r (by rw [imm] at i;exact i)
 | _,_,_,.lst _ _ _,i=>by rw [imm] at i;cases i
 | _,_,_,.md _ _ _ _ _,i=>by rw [imm] at i;cases i
theorem RepOs.none_of:∀ {vs:List V} {ds:List D} {A:List Addr},RepOs K F H vs ds A->bM ds=true->A=[]
 | _,_,_,.nil,_=>rfl
 | _,_,_,.cons r t e,i=>by
  rw [bM,Bool.and_eq_true] at i
  rw [e,RepO.none_of r i.1,RepOs.none_of t i.2]
  rfl
end
theorem RepO.seq_nil {v:V} {ds:List D}:∀ {d:D} {A:List Addr},RepO K F H v d A->d=.seq ds->A=[]
 | _,_,.imm i _,e=>rfl
 | _,_,.shr _,_=>rfl
 | _,_,.shm _,_=>rfl
 | _,_,.shf _,_=>rfl
 | _,_,.tup _ _,e=>nomatch e
 | _,_,.lst _ _ _,e=>nomatch e
 | _,_,.md _ _ _ _ _,e=>nomatch e
noncomputable def frz (F H:Hp) (A:List Addr):Hp:=fun a=>match H a with
 | some u=>if mtb u=true then (if (F a).isSome=true \/ a∈A then some u else none) else some u
 | none=>none
theorem yH {A:List Addr} {a:Addr} {u:HO} (h:H a=some u) (m:a∈A):frz F H A a=some u:=by
 unfold frz;rw [h]
 show (if mtb u=true then (if (F a).isSome=true \/ a∈A then some u else none) else some u)=some u
 rw [if_pos (show (F a).isSome=true \/ a∈A from .inr m)]
 split <;> rfl
theorem wV {A:List Addr}:d9 H (frz F H A):=fun a u e n=>by
 unfold frz
 rw [e]
 exact if_neg (by rw [n];exact fun z=>nomatch z)
theorem wU {A:List Addr} (s:Same F H):Same F (frz F H A):=fun a u e=>by
 have h:=s a u e
 unfold frz;rw [h]
 show (if mtb u=true then (if (F a).isSome=true \/ a∈A then some u else none) else some u)=some u
 rw [if_pos (show (F a).isSome=true \/ a∈A from .inl (by rw [e];rfl))]
 split <;> rfl
theorem Av {A:List Addr}:Same (frz F H A) H:=fun a u e=>by
 unfold frz at e
 split at e
 . rename_i w h
   rw [h]
   split at e
   . split at e
     . exact e
     . cases e
   . exact e
 . cases e
theorem yG {A:List Addr} {a:Addr} {u:MO} (h:H a=some u.1) (n:F a=none) (m:a ∉ A):frz F H A a=none:=by
 unfold frz;rw [h]
 show (if mtb u.1=true then (if (F a).isSome=true \/ a∈A then some u.1 else none) else some u.1)=none
 rw [if_pos u.2]
 refine if_neg fun z=>?_
 rcases z with z | z
 . rw [n] at z;cases z
 . exact m z
mutual
theorem RepO.freeze (s:Same F F') (k:d9 H F'):∀ {v:V} {d:D} {A:List Addr},RepO K F H v d A->(∀ a u,a∈A->H a=some u->F' a=some u)->Rep K F' v (sh d)
 | _,_,_,.imm i h,_=>lN (ib k h i)
 | _,_,_,.shr h,_=>lN (h.mono s)
 | _,_,_,.shm h,_=>lN (h.mono s)
 | _,_,_,.shf h,_=>lN (h.mono s)
 | _,_,_,.tup h r,e=>by rw [sh];exact .tup (lF k h) (RepOs.freeze s k r e)
 | _,_,_,.lst h _ r,e=>by rw [sh];exact .seq (SqL.of (e _ _ Zj h)) (RepOs.freeze s k r fun a vs m=>e a vs (Zk _ m))
 | _,_,_,.md h _ l i r,e=>by rw [sh];exact .ms (.inl (e _ _ Zj h)) (by rw [c8,Zi];exact l) (cS (dD k r i))
theorem RepOs.freeze (s:Same F F') (k:d9 H F'):∀ {vs:List V} {ds:List D} {A:List Addr},RepOs K F H vs ds A->(∀ a u,a∈A->H a=some u->F' a=some u)->Reps K F' vs (shs ds)
 | _,_,_,.nil,_=>.nil
 | _,_,_,.cons r t e,q=>by
  subst e
  rw [shs]
  exact .cons (RepO.freeze s k r fun a vs m=>q a vs (List.mem_append_left _ m)) (RepOs.freeze s k t fun a vs m=>q a vs (List.mem_append_right _ m))
end
mutual
theorem RepO.of_sh (s:Same F H):∀ {v:V} {d:D},Rep K F v d->RepO K F H v (sh d) []
 | _,_,.non=>.imm rfl .non
 | _,_,.bl b=>.imm rfl (.bl b)
 | _,_,.int i=>.imm rfl (.int i)
 | _,_,.str x=>.imm rfl (.str x)
 | _,_,.ty n=>.imm rfl (.ty n)
 | _,_,.tup h r=>by rw [sh];exact .tup (lE s h) (RepOs.of_sh s r)
 | _,_,.lst h r=>by rw [sh];exact .shr (.seq (SqL.of h) (cS r))
 | _,_,.seq h r=>by rw [sh];exact .shr (.seq h (cS r))
 | _,_,.dct h=>.imm rfl (.dct (s _ _ h))
 | _,_,.exc h=>.imm rfl (.exc (s _ _ h))
 | _,_,.cls C=>.imm rfl (.cls C)
 | _,_,.ms h l r=>by rw [sh];exact .shm (.ms h (by rw [c8,Zi];exact l) (cS r))
 | _,_,.mf h l r=>by rw [sh];exact .shf (.mf h (by rw [c8,Zi];exact l) (cS r))
 | _,_,.md h l r=>by rw [sh];exact .shm (.ms (.inl h) (by rw [c8,Zi];exact l) (cS r))
theorem RepOs.of_sh (s:Same F H):∀ {vs:List V} {ds:List D},Reps K F vs ds->RepOs K F H vs (shs ds) []
 | _,_,.nil=>.nil
 | _,_,.cons r t=>by rw [shs];exact .cons (RepO.of_sh s r) (RepOs.of_sh s t) rfl
end
theorem RepOs.length:∀ {vs:List V} {ds:List D} {A:List Addr},RepOs K F H vs ds A->vs.length=ds.length
 | _,_,_,.nil=>rfl
 | _,_,_,.cons _ t _=>congrArg (· + 1) (RepOs.length t)
theorem RepOs.snoc:∀ {vs:List V} {ds:List D} {A B:List Addr} {v:V} {d:D},RepOs K F H vs ds A->RepO K F H v d B->RepOs K F H (vs++[v]) (ds++[d]) (A++B)
 | _,_,_,_,_,_,.nil,r=>.cons r .nil (by simp)
 | _,_,_,_,_,_,.cons q t e,r=>.cons q (RepOs.snoc t r) (by rw [e,List.append_assoc])
theorem RepOs.pick:∀ {vs:List V} {ds:List D} {A:List Addr} {i:Nat} {d:D},RepOs K F H vs ds A->ds[i]? = some d->∃ v A1 B A2,vs[i]? = some v/\RepO K F H v d B/\A=A1++(B++A2) /\
 ∀ {H':Hp} {v':V} {d':D} {B':List Addr},d9 H H'->(∀ a,a∈A1 \/ a∈A2->H' a=H a)->RepO K F H' v' d' B'->RepOs K F H' (vs.set i v') (ds.set i d') (A1++(B'++A2))
 | _,_,_,_,_,.nil,e=>by simp at e
 | _,_,_,0,_,.cons (A:=A) (B:=B) r t e,q=>by
  simp at q
  subst q
  refine ⟨_,[],A,B,rfl,r,by simpa using e,fun k h r'=>?_⟩
  exact .cons r' (t.frame k fun a m=>h a (.inr m)) (by simp)
 | _,_,_,i+1,d,.cons (A:=A0) (B:=B0) r t e,q=>by
  obtain ⟨v,A1,B,A2,h1,h2,h3,h4⟩:=RepOs.pick (i:=i) (d:=d) t (by simpa using q)
  refine ⟨v,A0++A1,B,A2,by simpa using h1,h2,by rw [e,h3,List.append_assoc],fun k h r'=>?_⟩
  refine .cons (r.frame k fun a m=>h a (.inl (List.mem_append_left _ m))) (h4 k (fun a m=>h a ?_) r') (by rw [List.append_assoc])
  rcases m with m | m
  . exact .inl (List.mem_append_right _ m)
  . exact .inr m
end
end Dl
namespace Dl
open PySem PySem.Spec PyProof.Rows L2
structure RepA (K:PySem.W.Frag) (F H:Hp) (σ:L2.St) (δ:DS) (As:Nat->List Addr):Prop where
 fz:Same F H
 len:σ.length=δ.length
 val:∀ (i:Nat) (d:D),δ[i]? = some (some d)->∃ v,σ[i]? = some (some v)/\RepO K F H v d (As i)
 non:∀ (i:Nat),(∀ d,δ[i]? ≠ some (some d))->As i=[]
 nd:∀ i,(As i).Nodup
 dj:∀ i j a,i ≠ j->a∈As i->a ∉ As j
def fW (K:PySem.W.Frag) (F H:Hp) (σ:L2.St) (δ:DS):Prop:=∃ As,RepA K F H σ δ As
section
variable {K:PySem.W.Frag} {F H F' H':Hp} {σ:L2.St} {δ:DS} {As:Nat->List Addr}
theorem RepA.toS (R:RepA K F H σ δ As):RepS K H σ δ:=⟨R.len,fun i d q=>let ⟨v,h1,h2⟩:=R.val i d q;⟨v,h1,h2.rep R.fz⟩⟩
theorem RepA.dom (R:RepA K F H σ δ As) {i:Nat} {a:Addr} (m:a∈As i):(∃ u:MO,H a=some u.1)/\F a=none:=by
 by_cases h:∃ d,δ[i]? = some (some d)
 . obtain ⟨d,h⟩:=h
   obtain ⟨v,_,h2⟩:=R.val i d h
   exact h2.dom a m
 . rw [R.non i fun d z=>h ⟨d,z⟩] at m;cases m
theorem RepA.grow (R:RepA K F H σ δ As) (s:Same H H'):RepA K F H' σ δ As :=
 ⟨R.fz.trans s,R.len,fun i d q=>by
  obtain ⟨v,h1,h2⟩:=R.val i d q
  refine ⟨v,h1,h2.frame (bR s) fun a m=>?_⟩
  obtain ⟨⟨vs,e⟩,_⟩:=h2.dom a m
  rw [e];exact s a _ e,R.non,R.nd,R.dj⟩
theorem RepA.froz (R:RepA K F H σ δ As) (s:Same F F') (s':Same F' H) (n:∀ i a,a∈As i->F' a=none):RepA K F' H σ δ As :=
 ⟨s',R.len,fun i d q=>let ⟨v,h1,h2⟩:=R.val i d q;⟨v,h1,h2.froz s (n i)⟩,R.non,R.nd,R.dj⟩
def jO (As:Nat->List Addr) (i:Nat) (A:List Addr):Nat->List Addr:=fun j=>if j=i then A else As j
theorem aI {i:Nat} {A:List Addr}:jO As i A i=A:=if_pos rfl
theorem aH {i j:Nat} {A:List Addr} (h:j ≠ i):jO As i A j=As j:=if_neg h
theorem RepA.set {v:V} {d:D} {A:List Addr} (R:RepA K F H σ δ As) (i:Nat) (hi:i < δ.length) (r:RepO K F H v d A) (nd:A.Nodup) (dj:∀ j a,j ≠ i->a∈As j->a ∉ A):RepA K F H (σ.set i (some v)) (δ.set i (some d)) (jO As i A):=by
 have hl:=R.len
 refine ⟨R.fz,by rw [List.length_set,List.length_set];exact hl,fun j e q=>?_,fun j h=>?_,fun j=>?_,fun j k a hjk m=>?_⟩
 . rw [List.getElem?_set] at q ⊢
   by_cases hj:i=j
   . subst hj
     rw [if_pos rfl,if_pos hi] at q
     rw [if_pos rfl,if_pos (by omega),aI]
     have:d=e:=by simpa using q
     subst this
     exact ⟨v,rfl,r⟩
   . rw [if_neg hj] at q ⊢
     rw [aH (Ne.symm hj)]
     exact R.val j e q
 . by_cases hj:j=i
   . subst hj
     exact absurd (by rw [List.getElem?_set,if_pos rfl,if_pos hi]) (h d)
   . rw [aH hj]
     refine R.non j fun e z=>h e ?_
     rw [List.getElem?_set_ne (Ne.symm hj)]
     exact z
 . by_cases hj:j=i
   . subst hj;rw [aI];exact nd
   . rw [aH hj];exact R.nd j
 . by_cases hj:j=i
   . subst hj
     rw [aI] at m
     rw [aH (Ne.symm hjk)]
     exact fun z=>dj k a (Ne.symm hjk) z m
   . rw [aH hj] at m
     by_cases hk:k=i
     . subst hk;rw [aI];exact dj j a hj m
     . rw [aH hk];exact R.dj j k a hjk m
theorem RepA.drop (R:RepA K F H σ δ As) (i:Nat):RepA K F H σ (δ.set i none) (jO As i []):=by
 refine ⟨R.fz,by rw [List.length_set];exact R.len,fun j e q=>?_,fun j h=>?_,fun j=>?_,fun j k a hjk m=>?_⟩
 . rw [List.getElem?_set] at q
   by_cases hj:i=j
   . subst hj;rw [if_pos rfl] at q;split at q <;> cases q
   . rw [if_neg hj] at q
     rw [aH (Ne.symm hj)]
     exact R.val j e q
 . by_cases hj:j=i
   . subst hj;rw [aI]
   . rw [aH hj]
     refine R.non j fun e z=>h e ?_
     rw [List.getElem?_set_ne (Ne.symm hj)]
     exact z
 . by_cases hj:j=i
   . subst hj;rw [aI];exact List.nodup_nil
   . rw [aH hj];exact R.nd j
 . by_cases hj:j=i
   . subst hj;rw [aI] at m;cases m
   . rw [aH hj] at m
     by_cases hk:k=i
     . subst hk;rw [aI];exact fun z=>nomatch z
     . rw [aH hk];exact R.dj j k a hjk m
theorem RepA.write {v:V} {d:D} {A:List Addr} {i:Nat} (R:RepA K F H σ δ As) (hi:i < δ.length) (hσ:σ[i]? = some (some v)) (k:d9 H H') (fz:Same F H') (e:∀ j a,j ≠ i->a∈As j->H' a=H a) (r:RepO K F H' v d A) (nd:A.Nodup) (dj:∀ j a,j ≠ i->a∈As j->a ∉ A) :
 RepA K F H' σ (δ.set i (some d)) (jO As i A):=by
 refine ⟨fz,by rw [List.length_set];exact R.len,fun j e' q=>?_,fun j h=>?_,fun j=>?_,fun j k a hjk m=>?_⟩
 . rw [List.getElem?_set] at q
   by_cases hj:i=j
   . subst hj
     rw [if_pos rfl,if_pos hi] at q
     have:d=e':=by simpa using q
     subst this
     rw [aI]
     exact ⟨v,hσ,r⟩
   . rw [if_neg hj] at q
     rw [aH (Ne.symm hj)]
     obtain ⟨w,h1,h2⟩:=R.val j e' q
     exact ⟨w,h1,h2.frame k (fun a m=>e j a (Ne.symm hj) m)⟩
 . by_cases hj:j=i
   . subst hj
     exact absurd (by rw [List.getElem?_set,if_pos rfl,if_pos hi]) (h d)
   . rw [aH hj]
     refine R.non j fun e z=>h e ?_
     rw [List.getElem?_set_ne (Ne.symm hj)]
     exact z
 . by_cases hj:j=i
   . subst hj;rw [aI];exact nd
   . rw [aH hj];exact R.nd j
 . by_cases hj:j=i
   . subst hj
     rw [aI] at m
     rw [aH (Ne.symm hjk)]
     exact fun z=>dj k a (Ne.symm hjk) z m
   . rw [aH hj] at m
     by_cases hk:k=i
     . subst hk;rw [aI];exact dj j a hj m
     . rw [aH hk];exact R.dj j k a hjk m
end
abbrev FM:=DS->Option (D×DS)
abbrev FMA:=DS->Option (List D×DS)
structure Ev (F H:Hp) (As:Nat->List Addr) (F' H':Hp) (As':Nat->List Addr) (A:List Addr):Prop where
 fs:Same F F'
 hs:Same H H'
 nf:∀ a (u:MO),H a=some u.1->F a=none->(∀ i,a ∉ As i)->F' a=none
 fa:∀ i a,a∈As' i->(∃ j,a∈As j) \/ H a=none
 fA:∀ a,a∈A->(∃ j,a∈As j) \/ H a=none
 nd:A.Nodup
 dj:∀ i a,a∈As' i->a ∉ A
theorem Ev.pure {F H H':Hp} {As:Nat->List Addr} (s:Same H H'):Ev F H As F H' As [] :=
 ⟨Same.refl F,s,fun _ _ _ n _=>n,fun i _ m=>.inl ⟨i,m⟩,fun _ m=>(nomatch m),List.nodup_nil,fun _ _ _ z=>(nomatch z)⟩
theorem Ev.fresh {F H H':Hp} {As:Nat->List Addr} {A:List Addr} (s:Same H H') (h:∀ a∈A,H a=none) (nd:A.Nodup) (dom:∀ i a,a∈As i->∃ u:MO,H a=some u.1):Ev F H As F H' As A :=
 ⟨Same.refl F,s,fun _ _ _ n _=>n,fun i _ m=>.inl ⟨i,m⟩,fun a m=>.inr (h a m),nd,fun i a m z=>by
  obtain ⟨vs,e⟩:=dom i a m
  rw [h a z] at e;cases e⟩
theorem Ev.seq {F H F1 H1 F2 H2:Hp} {As As1 As2:Nat->List Addr} {A B:List Addr} (a:Ev F H As F1 H1 As1 A) (b:Ev F1 H1 As1 F2 H2 As2 B) (dA:∀ x∈A,∃ u:MO,H1 x=some u.1):Ev F H As F2 H2 As2 (A++B) where
 fs:=a.fs.trans b.fs
 hs:=a.hs.trans b.hs
 nf:=fun x vs e n h=>b.nf x vs (a.hs x _ e) (a.nf x vs e n h) fun i m=>by
  rcases a.fa i x m with ⟨j,z⟩ | z
  . exact h j z
  . rw [e] at z;cases z
 fa:=fun i x m=>by
  rcases b.fa i x m with ⟨j,z⟩ | z
  . exact a.fa j x z
  . refine .inr ?_
    cases q:H x with
    | none=>rfl
    | some u=>rw [a.hs x u q] at z;cases z
 fA:=fun x m=>by
  rcases Zn.mp m with z | z
  . exact a.fA x z
  . rcases b.fA x z with ⟨j,y⟩ | y
    . exact a.fa j x y
    . refine .inr ?_
      cases q:H x with
      | none=>rfl
      | some u=>rw [a.hs x u q] at y;cases y
 nd:=by
  refine List.nodup_append.mpr ⟨a.nd,b.nd,fun x hx y hy e=>?_⟩
  subst e
  rcases b.fA x hy with ⟨j,z⟩ | z
  . exact a.dj j x z hx
  . obtain ⟨vs,e⟩:=dA x hx
    rw [z] at e;cases e
 dj:=fun i x m z=>by
  rcases Zn.mp z with z | z
  . rcases b.fa i x m with ⟨j,y⟩ | y
    . exact a.dj j x y z
    . obtain ⟨vs,e⟩:=dA x z
      rw [y] at e;cases e
  . exact b.dj i x m z
theorem Ev.stays {K:PySem.W.Frag} {F1 H1 F2 H2:Hp} {As1 As2:Nat->List Addr} {A B:List Addr} {v:V} {d:D} (b:Ev F1 H1 As1 F2 H2 As2 B) (r:RepO K F1 H1 v d A) (dj:∀ i a,a∈As1 i->a ∉ A):RepO K F2 H2 v d A:=by
 have h1:RepO K F1 H2 v d A:=r.frame (bR b.hs) fun a m=>by
  obtain ⟨⟨vs,e⟩,_⟩:=r.dom a m
  rw [e];exact b.hs a _ e
 refine h1.froz b.fs fun a m=>?_
 obtain ⟨⟨vs,e⟩,n⟩:=r.dom a m
 exact b.nf a vs e n fun i z=>dj i a z m
def upV (K:PySem.W.Frag) (f:FM):TE:=fun σ H Q=>∃ F δ As d δ',RepA K F H σ δ As/\f δ=some (d,δ')/\∀ v F' H' A As',Ev F H As F' H' As' A->RepA K F' H' σ δ' As'->RepO K F' H' v d A->Q v H'
def B8 (K:PySem.W.Frag) (n:Nat) (f:FMA):TA:=fun σ H Q=>∃ F δ As ds δ',RepA K F H σ δ As/\f δ=some (ds,δ')/\∀ vs F' H' A As',Ev F H As F' H' As' A->RepA K F' H' σ δ' As'->RepOs K F' H' vs ds A->vs.length=n->Q vs H'
def PV (X:Cx) (e:Expr) (f:FM):Prop:=PE X e (upV X.K f)
def PVA (X:Cx) (es:List Expr) (f:FMA):Prop:=PA X es (B8 X.K es.length f)
def vI (f:FD):FM:=fun δ=>(f δ).bind fun d=>if imm d then some (d,δ) else none
def bI (i:Nat):FM:=fun δ=>match δ[i]? with
 | some (some (.seq ds))=>some (.seq ds,δ)
 | some (some d)=>if imm d then some (d,δ) else some (d,δ.set i none)
 | _=>none
def fS:FMA:=fun δ=>some ([],δ)
def bn (f:FM) (g:FMA):FMA:=fun δ=>(f δ).bind fun p=>(g p.2).bind fun q=>some (p.1 :: q.1,q.2)
def iM (g:FMA):FM:=fun δ=>(g δ).bind fun p=>some (.lst p.1,p.2)
def m5 (g:FMA):FM:=fun δ=>(g δ).bind fun p=>some (.tup p.1,p.2)
def cW (G:List D->Option D) (g:FA):FM:=fun δ=>(g δ).bind fun ds=>(G ds).bind fun d=>if own d then some (d,δ) else none
def bU (K:PySem.W.Frag) (n:Nat) (G:List D->Option D):Sp:=fun vs H Q _=>vs.length=n/\∃ ds d,Reps K H vs ds/\G ds=some d/\∀ v H' A,Same H H'->RepO K H H' v d A->A.Nodup->Q v H'
section
variable {X:Cx} {e:Expr} {es:List Expr} {f:FD} {fm:FM} {g:FMA} {ga:FA} {pos p:Pos}
theorem aR (h:PD X e f):PV X e (vI f):=imp h fun σ H Q ⟨F,δ,As,d,δ',R,q,k⟩=>by
 unfold vI at q
 obtain ⟨d0,ed,q⟩:=Za.mp q
 split at q
 . rename_i hi
   cases q
   exact ⟨δ,d,R.toS,ed,fun v H' s r=>k v F H' [] As (.pure s) (R.grow s) (.imm hi r)⟩
 . cases q
theorem bD (i:Nat) {x:Str} (hN:X.N[i]? = some x:=by rfl) (hv:Vis X.env.scope x:=by first | exact Or.inl rfl | exact Or.inr (Or.inl rfl) | exact Or.inr (Or.inr rfl)) (hd:(x == ("__debug__":Str))=false:=by decide)
 (hcd:(x == ("__classdict__":Str))=false:=by decide):PV X (.Name x pos) (bI i) :=
 imp (oZ hN hv hd hcd) fun σ H Q ⟨F,δ,As,d,δ',R,q,k⟩=>by
  unfold bI at q
  split at q
  . rename_i ds h
    cases q
    obtain ⟨v,h1,h2⟩:=R.val i _ h
    rw [h2.seq_nil rfl] at h2
    exact ⟨v,h1,k v F H [] As (.pure (Same.refl H)) R h2⟩
  . rename_i d0 _ h
    obtain ⟨v,h1,h2⟩:=R.val i _ h
    split at q
    . rename_i hi
      cases q
      have z:=h2.none_of hi
      rw [z] at h2
      exact ⟨v,h1,k v F H [] As (.pure (Same.refl H)) R h2⟩
    . cases q
      refine ⟨v,h1,k v F H (As i) (jO As i []) ⟨Same.refl F,Same.refl H,fun _ _ _ n _=>n,fun j a m=>?_,fun a m=>.inl ⟨i,m⟩,R.nd i,fun j a m=>?_⟩ (R.drop i) h2⟩
      . by_cases hj:j=i
        . subst hj;rw [aI] at m;cases m
        . rw [aH hj] at m;exact .inl ⟨j,m⟩
      . by_cases hj:j=i
        . subst hj;rw [aI] at m;cases m
        . rw [aH hj] at m;exact R.dj j i a hj m
  . cases q
theorem cy:PVA X [] fS:=yx gL fun σ H Q ⟨F,δ,As,ds,δ',R,q,k⟩=>by
 cases q
 exact k [] F H [] As (.pure (Same.refl H)) R .nil rfl
theorem bt (ha:PV X e fm) (hr:PVA X es g) (hs:starEach (e :: es) X.env=(false,eval e X.env) :: starEach es X.env:=by rfl):PVA X (e :: es) (bn fm g):=yx (dW ha hr hs) fun σ H Q ⟨F,δ,As,ds,δ',R,q,k⟩=>by
 unfold bn at q
 obtain ⟨⟨d1,δ1⟩,e1,q⟩:=Za.mp q
 obtain ⟨⟨ds2,δ2⟩,e2,q⟩:=Za.mp q
 cases q
 refine ⟨F,δ,As,d1,δ1,R,e1,fun v F1 H1 A As1 ev1 R1 r1=>⟨F1,δ1,As1,ds2,δ2,R1,e2,fun vs F2 H2 B As2 ev2 R2 r2 l=>?_⟩⟩
 exact k (v :: vs) F2 H2 (A++B) As2 (ev1.seq ev2 fun x m=>(r1.dom x m).1) R2 (.cons (ev2.stays r1 ev1.dj) r2 rfl) (congrArg (· + 1) l)
theorem lQ {x1} (h:PVA X es g) (hz:es.length<=1000:=by decide):PV X (.Tuple es x1 pos) (m5 g):=imp (v9 h) fun σ H Q ⟨F,δ,As,d,δ',R,q,k⟩=>by
 unfold m5 at q
 obtain ⟨⟨ds,δ1⟩,e1,q⟩:=Za.mp q
 cases q
 refine ⟨F,δ,As,ds,_,R,e1,fun vs F1 H1 A As1 ev R1 r1 l=>⟨de (by rw [l];exact hz),fun p hp=>?_⟩⟩
 have s:=c5 hp (.tup vs)
 have ev':Ev F H As F1 (upd H1 p (.tup vs)) As1 A:=⟨ev.fs,ev.hs.trans s,ev.nf,ev.fa,ev.fA,ev.nd,ev.dj⟩
 refine k _ F1 _ A As1 ev' (R1.grow s) (.tup (SqT.of aU) (r1.frame (bR s) fun a m=>?_))
 obtain ⟨⟨ws,e⟩,_⟩:=r1.dom a m
 rw [e];exact s a _ e
theorem gm (h:PVA X es g) (hz:es.length<=1000:=by decide):PV X (.List es pos) (iM g):=imp (wb h) fun σ H Q ⟨F,δ,As,d,δ',R,q,k⟩=>by
 unfold iM at q
 obtain ⟨⟨ds,δ1⟩,e1,q⟩:=Za.mp q
 cases q
 refine ⟨F,δ,As,ds,_,R,e1,fun vs F1 H1 A As1 ev R1 r1 l=>⟨de (by rw [l];exact hz),fun p hp=>?_⟩⟩
 have s:=c5 hp (.lst vs)
 have np:∀ {u:Hp},Same u H1->u p=none:=fun {u} su=>by
  cases q:u p with
  | none=>rfl
  | some o=>rw [su p o q] at hp;cases hp
 have ev':Ev F H As F1 (upd H1 p (.lst vs)) As1 (p :: A):=⟨ev.fs,ev.hs.trans s,ev.nf,ev.fa,fun a m=>by
  rcases Zo.mp m with z | z
  . subst z;exact .inr (np ev.hs)
  . exact ev.fA a z,List.nodup_cons.mpr ⟨fun m=>(by
    obtain ⟨⟨ws,e⟩,_⟩:=r1.dom p m
    rw [hp] at e;cases e),ev.nd⟩,fun i a m z=>by
  rcases Zo.mp z with z | z
  . subst z
    obtain ⟨⟨ws,e⟩,_⟩:=R1.dom m
    rw [hp] at e;cases e
  . exact ev.dj i a m z⟩
 refine k _ F1 _ (p :: A) As1 ev' (R1.grow s) (.lst aU (np R1.fz) (r1.frame (bR s) fun a m=>?_))
 obtain ⟨⟨ws,e⟩,_⟩:=r1.dom a m
 rw [e];exact s a _ e
end
end Dl
namespace Dl
open PySem PySem.Spec PyProof.Rows L2
def RPM (X:Cx) (E:m4) (F:Hp):Res->Prop
 | .nx δ=>∀ σ' F' H',Same F F'->fW X.K F' H' σ' δ->E.nx σ' H'
 | .rt d=>∀ v F' H' A,Same F F'->Same F' H'->RepO X.K F' H' v d A->A.Nodup->E.rt v H'
 | .bk δ=>∀ σ' F' H',Same F F'->fW X.K F' H' σ' δ->E.bk σ' H'
 | .ct δ=>∀ σ' F' H',Same F F'->fW X.K F' H' σ' δ->E.ct σ' H'
 | .ex C δ=>∀ σ' F' H',Same F F'->fW X.K F' H' σ' δ->B6 X C σ' H'
 | .mk C δ=>∀ σ' F' H',Same F F'->fW X.K F' H' σ' δ->zr X C σ' H'
theorem RPM.mono {X:Cx} {E:m4} {F F1:Hp} {r:Res} (s:Same F F1) (h:RPM X E F r):RPM X E F1 r:=by
 cases r with
 | nx δ=>exact fun σ' F' H' s2 R=>h σ' F' H' (s.trans s2) R
 | rt d=>exact fun v F' H' A s2=>h v F' H' A (s.trans s2)
 | bk δ=>exact fun σ' F' H' s2 R=>h σ' F' H' (s.trans s2) R
 | ct δ=>exact fun σ' F' H' s2 R=>h σ' F' H' (s.trans s2) R
 | ex C δ=>exact fun σ' F' H' s2 R=>h σ' F' H' (s.trans s2) R
 | mk C δ=>exact fun σ' F' H' s2 R=>h σ' F' H' (s.trans s2) R
def upM (X:Cx) (s:SD):TS:=fun E σ H=>∃ F δ r,fW X.K F H σ δ/\s δ=some r/\RPM X E F r
def PMD (X:Cx) (st:Stmt) (s:SD):Prop:=PS X st (upM X s)
def PMs (X:Cx) (sts:List Stmt) (s:SD):Prop:=PSs X sts (upM X s)
section
variable {K:PySem.W.Frag} {F H:Hp} {σ:L2.St} {δ:DS} {As:Nat->List Addr}
theorem RepA.setM {v:V} {d:D} {A:List Addr} (R:RepA K F H σ δ As) (i:Nat) (r:RepO K F H v d A) (nd:A.Nodup) (dj:∀ j a,a∈As j->a ∉ A):fW K F H (σ.set i (some v)) (δ.set i (some d)):=by
 by_cases hi:i < δ.length
 . exact ⟨_,R.set i hi r nd fun j a _ m=>dj j a m⟩
 . have hl:=R.len
   rw [List.set_eq_of_length_le (by omega),List.set_eq_of_length_le (by omega)]
   exact ⟨As,R⟩
end
section
variable {X:Cx} {st:Stmt} {rest:List Stmt} {s u:SD} {e:Expr} {f:FD} {fm:FM} {c:FT} {pos:Pos}
theorem dR:PMs X [] bc:=nX oR fun E σ H ⟨F,δ,r,R,e,k⟩=>by cases e;exact k σ F H (Same.refl F) R
theorem av (h1:PMD X st s) (h2:PMs X rest u):PMs X (st :: rest) (ay s u):=nX (lS h1 h2) fun E σ H ⟨F,δ,r,R,e,k⟩=>by
 unfold ay at e
 obtain ⟨r1,e1,e⟩:=Za.mp e
 refine ⟨F,δ,r1,R,e1,?_⟩
 cases r1 with
 | nx δ'=>exact fun σ' F' H' s1 R1=>⟨F',δ',r,R1,e,k.mono s1⟩
 | rt d=>cases e;exact k
 | bk d=>cases e;exact k
 | ct d=>cases e;exact k
 | ex C d=>cases e;exact k
 | mk C d=>cases e;exact k
theorem aK (h:PMD X st s):PMs X [st] s:=oQ h
theorem v6:PMD X st vD:=fU qt fun E σ H ⟨F,δ,r,R,e,k⟩=>by cases e
theorem gi {cx:Expr} {a b:List Stmt} (hc:PTD X cx c) (ha:PMs X a s) (hb:PMs X b u):PMD X (.If cx a b pos) (sIf c s u):=fU (vU hc ha hb) fun E σ H ⟨F,δ,r,⟨As,R⟩,q,k⟩=>by
 unfold sIf at q
 obtain ⟨d,ed,q⟩:=Za.mp q
 refine ⟨δ,d,R.toS,ed,fun H' s1=>?_⟩
 cases d with
 | true=>rw [if_pos rfl];exact ⟨F,δ,r,⟨As,R.grow s1⟩,q,k⟩
 | false=>rw [if_neg Bool.false_ne_true];exact ⟨F,δ,r,⟨As,R.grow s1⟩,q,k⟩
def aw (i:Nat) (f:FM):SD:=fun δ=>(f δ).bind fun p=>some (.nx (p.2.set i (some p.1)))
def eT (f:FM):SD:=fun δ=>(f δ).bind fun p=>some (.rt p.1)
theorem aZ (i:Nat) {x:Str} {pos':Pos} (hN:X.N.Nodup) (he:PV X e fm) (hi:X.N[i]? = some x:=by rfl) (hx:Loc X.env.scope x:=by first | exact Or.inl rfl | exact Or.inr rfl) (hs:swapsWith e (some (.Name x pos')) pos.line X.env=pure false:=by rfl) (hf:X.fn x=true \/ X.env.scope.names.lookup x=some .local:=by first | exact .inl rfl | exact .inr rfl | assumption) :
 PMD X (.Assign [.Name x pos'] e pos) (aw i fm):=fU (rM hN hi hx he hs hf) fun E σ H ⟨F,δ,r,⟨As,R⟩,q,k⟩=>by
 unfold aw at q
 obtain ⟨⟨d,δ'⟩,ed,q⟩:=Za.mp q
 cases q
 exact ⟨F,δ,As,d,δ',R,ed,fun v F' H' A As' ev R' r'=>k (σ.set i (some v)) F' H' ev.fs (R'.setM i r' ev.nd ev.dj)⟩
theorem bS (he:PV X e fm):PMD X (.Return (some e) pos) (eT fm):=fU (vT he) fun E σ H ⟨F,δ,r,⟨As,R⟩,q,k⟩=>by
 unfold eT at q
 obtain ⟨⟨d,δ'⟩,ed,q⟩:=Za.mp q
 cases q
 exact ⟨F,δ,As,d,δ',R,ed,fun v F' H' A As' ev R' r'=>k v F' H' A ev.fs R'.fz r' ev.nd⟩
end
def ItF (K:PySem.W.Frag) (J:It) (F:Hp) (ds:List D):Prop:=∀ i H2,Same F H2 ->
 (i < ds.length->J.go i H2/\∀ x H',J.yld i H2 x H'->H'=H2/\∃ d,ds[i]? = some d/\Rep K F x d)/\(ds.length<=i->J.stop i H2)
def B9 (K:PySem.W.Frag) (src:FMA):TI:=fun σ H R=>∃ F δ As ds δ',RepA K F H σ δ As/\src δ=some (ds,δ')/\∀ J F' H1 As',Same F F'->RepA K F' H1 σ δ' As'->ItF K J F' ds->R J H1
def PIM (X:Cx) (tg iter:Expr) (src:FMA):Prop:=PI X tg iter (B9 X.K src)
theorem qK {K:PySem.W.Frag} {F:Hp} {a:Addr} {vs:List V} {ds:List D} (hq:SqL K F a vs) (r:Reps K F vs ds):ItF K (Itl K a) F ds:=by
 intro i H2 s
 have hq2:=s.seq hq
 have hl:=r.length
 refine ⟨fun hi=>⟨⟨vs,vs[i],hq2,by simp [show i < vs.length by omega]⟩,fun x H' y=>?_⟩,fun hi=>⟨vs,hq2,by omega⟩⟩
 obtain ⟨e,y⟩:=y
 subst e
 obtain ⟨d,h1,h2⟩:=r.getV (y vs hq2)
 exact ⟨rfl,d,h1,h2⟩
def sL (f:FM):FMA:=fun δ=>(f δ).bind fun p=>match sh p.1 with
 | .seq ds=>some (ds,p.2)
 | _=>none
theorem v8 {X:Cx} {tg l:Expr} {fm:FM} (hl:PV X l fm):PIM X tg l (sL fm):=sd (oW hl) fun σ H R ⟨F,δ,As,ds,δ',R0,e,k⟩=>by
 unfold sL at e
 obtain ⟨⟨d,δ1⟩,ed,e⟩:=Za.mp e
 dsimp only at e
 split at e
 . rename_i es hs
   cases e
   refine ⟨F,δ,As,d,_,R0,ed,fun v F1 H1 A As1 ev R1 r1=>?_⟩
   have s1:=wU (A:=A) R1.fz
   have s2:Same (frz F1 H1 A) H1:=Av
   have z:Rep X.K (frz F1 H1 A) v (sh d):=r1.freeze s1 wV fun a vs m e=>yH e m
   rw [hs] at z
   have R2:=R1.froz s1 s2 (fun j a m=>by
    obtain ⟨⟨vs,e⟩,n⟩:=R1.dom m
    exact yG e n (ev.dj j a m))
   cases z with
   | @seq p vs _ hp rp=>exact ⟨p,rfl,⟨vs,s2.seq hp⟩,k _ _ H1 As1 (ev.fs.trans s1) R2 (qK hp rp)⟩
 . cases e
theorem uT {K:PySem.W.Frag} {F:Hp} {lo:Int} {n:Nat}:ItF K (Itr lo n) F ((List.range n).map fun (i:Nat)=>D.int (lo+(i:Int)*1)):=by
 intro i H2 s
 refine ⟨fun hi=>?_,fun hi=>(show n<=i by simpa using hi)⟩
 have hi':i < n:=by simpa using hi
 refine ⟨hi',fun x H' y=>?_⟩
 obtain ⟨e,y⟩:=y
 subst e y
 refine ⟨rfl,.int (lo+(i:Int)*1),?_,by rw [Int.mul_one];exact .int _⟩
 rw [List.getElem?_map,List.getElem?_range hi']
 rfl
def dH (g:FA):FMA:=fun δ=>(g δ).bind fun ds=>(asR ds).bind fun rs=>if ds.length<=2 then some (rs,δ) else none
theorem be {X:Cx} {tg a:Expr} {g:FA} {p pos:Pos} (hg:Gl X "range") (hm:X.mg "range" = none) (ha:PAD X [a] g) (hs:starEach [a] X.env=[(false,eval a X.env)]:=by rfl):PIM X tg (.Call (.Name "range" p) [a] [] pos) (dH g) :=
 sd (nR hg hm ha hs) fun σ H R ⟨F,δ,As,ds,δ',R0,e,k⟩=>by
 unfold dH at e
 obtain ⟨xs,exs,e⟩:=Za.mp e
 obtain ⟨rs,ers,e⟩:=Za.mp e
 split at e
 . cases e
   refine ⟨δ,xs,R0.toS,exs,fun vs H1 s1 r1 l=>?_⟩
   match xs,r1,ers with
   | [.int b],r1,e =>
    obtain ⟨v,rfl,rv⟩:=fM r1
    cases rv
    have e':(if -(2 ^ 62)<=b/\b < 2 ^ 62 then some (dQ 0 b 1) else none)=some ds:=e
    by_cases hb:-(2 ^ 62)<=b/\b < 2 ^ 62
    . rw [if_pos hb] at e'
      have e2:dQ 0 b 1=ds:=Option.some.inj e'
      refine ⟨b,rfl,hb.1,hb.2,k _ F H1 As (Same.refl F) (R0.grow s1) ?_⟩
      have h:=uT (K:=X.K) (F:=F) (lo:=0) (n:=b.toNat)
      have e3:((b - 0+1 - 1) / 1).toNat=b.toNat:=by congr 1;omega
      unfold dQ at e2
      rw [e3] at e2
      rw [<- e2]
      exact h
    . rw [if_neg hb] at e';cases e'
   | [],r1,e=>cases r1;cases l
   | _ :: _ :: _,r1,e =>
    have:=r1.length
    rw [l] at this
    cases this
   | [.non],r1,e=>cases e
   | [.bl _],r1,e=>cases e
   | [.str _],r1,e=>cases e
   | [.tup _],r1,e=>cases e
   | [.lst _],r1,e=>cases e
   | [.seq _],r1,e=>cases e
   | [.ty _],r1,e=>cases e
   | [.dct],r1,e=>cases e
   | [.exc _],r1,e=>cases e
   | [.cls _],r1,e=>cases e
   | [.ms _ _],r1,e=>cases e
   | [.mf _ _],r1,e=>cases e
   | [.md _ _],r1,e=>cases e
 . cases e
def forM (i:Nat) (s:SD):List D->SD
 | []=>fun δ=>some (.nx δ)
 | d :: ds=>fun δ=>(s (δ.set i (some (sh d)))).bind fun r=>match r with
  | .nx δ'=>forM i s ds δ'
  | .ct δ'=>forM i s ds δ'
  | .bk δ'=>some (.nx δ')
  | .rt d=>some (.rt d)
  | .ex C δ'=>some (.ex C δ')
  | .mk C δ'=>some (.mk C δ')
def fL (src:FMA) (i:Nat) (s:SD):SD:=fun δ=>(src δ).bind fun p=>forM i s p.1 p.2
theorem di {X:Cx} {iter:Expr} {body:List Stmt} {src:FMA} {s:SD} {x:Str} {px pos:Pos} (i:Nat) (hN:X.N.Nodup) (hp:PassesOwn (model X.prog X.w) X.A X.env X.xe) (hc:X.calm=true) (hi:PIM X (.Name x px) iter src) (hb:PMs X body s)
 (hx:X.N[i]? = some x:=by rfl) (hl:Loc X.env.scope x:=by first | exact Or.inl rfl | exact Or.inr rfl) (hf:X.fn x=true \/ X.env.scope.names.lookup x=some .local:=by first | exact .inl rfl | exact .inr rfl | assumption)
 (hs:∀ x,foldedSetIterable iter X.env x=pure x:=by intro _;rfl):PMD X (.For (.Name x px) iter body [] pos) (fL src i s):=fU (rN hp hc hi (iH hN hx hl hf) hb hs) fun E σ H ⟨F,δ,r,⟨As,R⟩,e,k⟩=>by
 unfold fL at e
 obtain ⟨⟨ds,δ1⟩,eds,e⟩:=Za.mp e
 refine ⟨F,δ,As,ds,δ1,R,eds,fun J F1 H1 As1 s1 R1 it=>?_⟩
 refine ⟨fun j m σ H=>m=ds.length - j/\j<=ds.length/\∃ F2 δ,Same F1 F2/\fW X.K F2 H σ δ/\forM i s (ds.drop j) δ=some r/\RPM X E F2 r,⟨ds.length,rfl,Nat.zero_le _,F1,δ1,Same.refl _,⟨As1,R1⟩,e,k.mono s1⟩,?_⟩
 rintro j m σ H2 ⟨rfl,hjl,F2,δ2,s2,⟨As2,R2⟩,e2,k2⟩
 by_cases hlt:j < ds.length
 . obtain ⟨go,yl⟩:=(it j H2 (s2.trans R2.fz)).1 hlt
   rw [List.drop_eq_getElem_cons hlt] at e2
   obtain ⟨r4,e4,e2⟩:=Za.mp (show ((s (δ2.set i (some (sh ds[j])))).bind _)=some r from e2)
   refine .inr ⟨go,fun σ' H'=>∃ F3 δ,Same F1 F3/\fW X.K F3 H' σ' δ/\forM i s (ds.drop (j+1)) δ=some r/\RPM X E F3 r,fun σ' H' z=>⟨ds.length - (j+1),by omega,rfl,hlt,z⟩,fun y H' yy=>?_⟩
   obtain ⟨eH,d,hd,rx⟩:=yl y H' yy
   subst eH
   have hd':d=ds[j]:=by
    rw [Zr hlt] at hd
    exact (Option.some.inj hd).symm
   subst hd'
   have R3:=R2.setM i (RepO.of_sh R2.fz (rx.mono s2)) List.nodup_nil fun _ _ _ z=>nomatch z
   refine ⟨F2,δ2.set i (some (sh ds[j])),r4,R3,e4,?_⟩
   cases r4 with
   | nx δ'=>exact fun σ' F' H'' s4 R4=>⟨F',δ',s2.trans s4,R4,e2,k2.mono s4⟩
   | ct δ'=>exact fun σ' F' H'' s4 R4=>⟨F',δ',s2.trans s4,R4,e2,k2.mono s4⟩
   | bk δ'=>cases e2;exact k2
   | rt d=>cases e2;exact k2
   | ex C δ'=>cases e2;exact k2
   | mk C δ'=>cases e2;exact k2
 . have e:j=ds.length:=by omega
   subst e
   rw [List.drop_length] at e2
   cases e2
   exact .inl ⟨(it _ H2 (s2.trans R2.fz)).2 (Nat.le_refl _),k2 σ F2 H2 (Same.refl _) ⟨As2,R2⟩⟩
def aJ (n:Nat) (ds:List D):DS:=(shs ds).map some++List.replicate (n - ds.length) none
theorem iZ {K:PySem.W.Frag} {H:Hp} {N:List Str} {vs:List V} {ds:List D} (r:Reps K H vs ds):fW K H H (L2.start N vs) (aJ N.length ds):=by
 have l2:(shs ds).length=ds.length:=by rw [c8,Zi]
 refine ⟨fun _=>[],Same.refl H,by unfold L2.start aJ;simp [r.length,l2],fun i d q=>?_,fun _ _=>rfl,fun _=>List.nodup_nil,fun _ _ _ _ m=>nomatch m⟩
 unfold aJ at q
 unfold L2.start
 have hi:i < ds.length:=by
  by_cases hi:i < ds.length
  . exact hi
  . rw [List.getElem?_append_right (by simpa [l2] using hi),List.getElem?_replicate] at q
    split at q <;> cases q
 rw [List.getElem?_append_left (by simpa [l2] using hi),List.getElem?_map] at q
 obtain ⟨e,h1,h2⟩:=Zb.mp q
 cases h2
 rw [c8,List.getElem?_map] at h1
 obtain ⟨d0,h3,h4⟩:=Zb.mp h1
 subst h4
 obtain ⟨v,h5,h6⟩:=r.get h3
 have hv:i < vs.length:=by rw [r.length];exact hi
 exact ⟨v,by rw [List.getElem?_append_left (by simpa using hv),List.getElem?_map,h5];rfl,RepO.of_sh (Same.refl H) h6⟩
section
variable {P:Program} {w:World} {K:PySem.W.Frag} {mg:Str->Option Value} {base:Heap}
theorem cc {x qual:Str} {st:Stmt} {f:Addr} {fd:FuncData} {N ps:List Str} {k:Nat} {G:List D->Option D} (F:Fun K x qual st f fd) (S:aA N ps (aj st))
 (hbody:∀ (cdv:Value) (A:Around) (outer:List Env) (s:Shared) (H:Hp) (E:XK) (ds:List D) (d:D),Room k (A.deeper (envOfC qual (aj st) s.heap.objs.size f cdv))->G ds=some d->ds.length=ps.length ->
  ∃ t,PMs (kK CX0 P w K mg base N qual (aj st) f cdv A outer s H E).nox (bw st) t/\aB (t (aJ N.length ds))=some d/\own d=true):FnOk P w K mg base CX0 (k+1) f fd ps (bU K ps.length G):=by
 refine F.ok S (fun vs H Q E h=>h.1) (fun cdv A outer s H vs Q E hr h=>?_)
 obtain ⟨hl,ds,d,r,e,q⟩:=h
 obtain ⟨t,ht,hq,ho⟩:=hbody cdv A outer s H E ds d hr e (r.length.symm.trans hl)
 refine ⟨_,ht,H,aJ N.length ds,?_⟩
 cases z:t (aJ N.length ds) with
 | none=>rw [z] at hq;cases hq
 | some res =>
  rw [z] at hq
  refine ⟨res,iZ r,rfl,?_⟩
  cases res with
  | rt d'=>cases hq;exact fun v F' H' A s1 s2 r1 nd=>q v H' A (s1.trans s2) (r1.thaw s1 ho) nd
  | nx δ=>cases hq;exact fun σ' F' H' s1 ⟨As,R⟩=>q _ H' [] (s1.trans R.fz) (.imm rfl .non) List.nodup_nil
  | bk δ=>cases hq
  | ct δ=>cases hq
  | ex C δ=>cases hq
  | mk C δ=>cases hq
structure HasF (P:Program) (w:World) (K:PySem.W.Frag) (mg:Str->Option Value) (base:Heap) (k:Nat) (x:Str) (ps:List Str) (G:List D->Option D):Prop where
 ex:∃ f fd,FnOk P w K mg base CX0 k f fd ps (bU K ps.length G)/\mg x=some (.ref f)/\PySem.W.keepIn K (.ref f)=true/\Binds K fd ps []
theorem HasF.has {k:Nat} {x:Str} {ps:List Str} {G:List D->Option D} (h:HasF P w K mg base k x ps G):Has P w K mg base k x ps G:=by
 obtain ⟨f,fd,F,h1,h2,h3⟩:=h.ex
 refine ⟨f,fd,F.imp fun vs H Q E ⟨l,ds,d,r,e,q⟩=>⟨l,ds,d,r,e,fun v H' A s r1 _=>q v H' s (r1.rep s)⟩,h1,h2,h3⟩
theorem yt {x qual q:Str} {st:Stmt} {f:Addr} {fd:FuncData} {N:List Str} {k:Nat} (F:Fun K x qual st f fd) (S:aA N [q] (aj st))
 (hbody:∀ (cdv:Value) (A:Around) (outer:List Env) (s:Shared) (H:Hp) (E:XK) (ns:List Int),Room k (A.deeper (envOfC qual (aj st) s.heap.objs.size f cdv))->ns.length<=63 ->
  ∃ t,PMs (kK CX0 P w K mg base N qual (aj st) f cdv A outer s H E).nox (bw st) t/\aB (t (aJ N.length [.seq (ns.map D.int)]))=some (.bl true)):FnOk P w K mg base CX0 (k+1) f fd [q] (spLaw K):=by
 refine F.ok S (fun vs H Q E h=>?_) (fun cdv A outer s H vs Q E hr h=>?_)
 . obtain ⟨a,ns,rfl,_⟩:=h
   rfl
 obtain ⟨a,ns,rfl,hS,hl,q⟩:=h
 obtain ⟨t,ht,hq⟩:=hbody cdv A outer s H E ns hr hl
 refine ⟨_,ht,H,aJ N.length [.seq (ns.map D.int)],?_⟩
 cases z:t (aJ N.length [.seq (ns.map D.int)]) with
 | none=>rw [z] at hq;cases hq
 | some res =>
  rw [z] at hq
  refine ⟨res,iZ (.cons (.seq hS (Reps.ints ns)) .nil),rfl,?_⟩
  cases res with
  | rt d' =>
   cases hq
   intro v F' H' A s1 s2 r1 nd
   cases r1.rep s2
   exact q H'
  | nx δ=>cases hq
  | bk δ=>cases hq
  | ct δ=>cases hq
  | ex C δ=>cases hq
  | mk C δ=>cases hq
end
theorem cT {X:Cx} {e:Expr} {es:List Expr} {g:FA} {pos p:Pos} {k j:Nat} {x:Str} {ps:List Str} {G:List D->Option D} (F:HasF X.prog X.w X.K X.mg X.base k x ps G) (hr:Room j X.A) (ha:PAD X (e :: es) g) (hk:k<=j:=by decide) (hg:Gl X x:=by rfl)
 (hn:(e :: es).length=ps.length:=by rfl) (hdb:(x == ("__debug__":Str))=false:=by decide) (he:starEach (e :: es) X.env=(false,eval e X.env) :: starEach es X.env:=by rfl) (hpl:(backTo pos (starEach es X.env)).any (·.1)=false:=by rfl) :
 PV X (.Call (.Name x p) (e :: es) [] pos) (cW G g):=by
 obtain ⟨f,fd,F,hm,kp,hb⟩:=F.ex
 refine imp (kY F (hr.mono hk) hg hm kp hb .nil tG ha hdb he hpl) fun σ H Q ⟨F0,δ,As,d,δ',R,q,k⟩=>?_
 unfold cW at q
 obtain ⟨ds,eds,q⟩:=Za.mp q
 obtain ⟨d0,ed,q⟩:=Za.mp q
 split at q
 . rename_i ho
   cases q
   refine ⟨δ,ds,R.toS,eds,fun vs H1 s1 r1 l=>?_⟩
   show bU X.K ps.length G (vs++[]) H1 Q E0
   rw [List.append_nil]
   refine ⟨l.trans hn,ds,d,r1,ed,fun v H' A s2 r2 nd=>?_⟩
   have nA:∀ a∈A,H a=none:=fun a m=>by
    cases z:H a with
    | none=>rfl
    | some u=>have:=(r2.dom a m).2;rw [s1 a u z] at this;cases this
   exact k v F0 H' A As (.fresh (s1.trans s2) nA nd fun i a m=>(R.dom m).1) (R.grow (s1.trans s2)) (r2.thaw (R.fz.trans s1) ho)
 . cases q
end Dl
namespace Dl
open PySem PySem.Spec PyProof.Rows L2
section
variable {K:PySem.W.Frag} {F H:Hp} {σ:L2.St} {δ:DS} {As:Nat->List Addr}
theorem RepO.lst_inv {ds:List D}:∀ {v:V} {d:D} {A:List Addr},RepO K F H v d A->d=.lst ds->∃ a vs A0,v=.ref a/\A=a :: A0/\H a=some (.lst vs)/\F a=none/\RepOs K F H vs ds A0
 | _,_,_,.imm i _,e=>by subst e;rw [Dl.imm] at i;cases i
 | _,_,_,.shr _,e=>nomatch e
 | _,_,_,.tup _ _,e=>nomatch e
 | _,_,_,.lst h n r,e=>by cases e;exact ⟨_,_,_,rfl,rfl,h,n,r⟩
theorem RepA.lst {i:Nat} {ds:List D} (R:RepA K F H σ δ As) (h:δ[i]? = some (some (.lst ds))):∃ a vs A0,σ[i]? = some (some (.ref a))/\As i=a :: A0/\H a=some (.lst vs)/\F a=none/\RepOs K F H vs ds A0:=by
 obtain ⟨v,h1,h2⟩:=R.val i _ h
 obtain ⟨a,vs,A0,rfl,e,h3,h4,h5⟩:=h2.lst_inv rfl
 exact ⟨a,vs,A0,h1,e,h3,h4,h5⟩
theorem jr {a:Addr} {o:HO} (s:Same F H) (n:F a=none):Same F (upd H a o):=fun b u e=>by
 have:b ≠ a:=fun z=>by rw [z,n] at e;cases e
 rw [ax this];exact s b u e
theorem RepA.wr {i:Nat} {a:Addr} {vs vs':List V} {ds ds':List D} {A0 A':List Addr} (R:RepA K F H σ δ As) (h:δ[i]? = some (some (.lst ds))) (hσ:σ[i]? = some (some (.ref a))) (hA:As i=a :: A0) (ha:H a=some (.lst vs)) (hF:F a=none)
 (r:RepOs K F H vs' ds' A') (na:a ∉ A') (nd:A'.Nodup) (dj:∀ j x,j ≠ i->x∈As j->x ∉ A'):fW K F (upd H a (.lst vs')) σ (δ.set i (some (.lst ds'))):=by
 have hi:i < δ.length:=(List.getElem?_eq_some_iff.mp h).1
 have nj:∀ j x,j ≠ i->x∈As j->x ≠ a:=fun j x hj m z=>R.dj j i x hj m (by rw [hA,z];exact Zj)
 refine ⟨_,R.write hi hσ (io ha) (jr R.fz hF) (fun j x hj m=>ax (nj j x hj m)) (.lst aU hF (r.frame (io ha) fun x m=>ax fun z=>na (z ▸ m))) (List.nodup_cons.mpr ⟨na,nd⟩) fun j x hj m z=>?_⟩
 rcases Zo.mp z with z | z
 . exact nj j x hj m z
 . exact dj j x hj m z
theorem RepA.row {i j:Nat} {ds row:List D} (R:RepA K F H σ δ As) (h:δ[i]? = some (some (.lst ds))) (hj:ds[j]? = some (.lst row)):∃ (a:Addr) (vs:List V) (b:Addr) (ws:List V) (B0 O:List Addr),σ[i]? = some (some (.ref a))/\H a=some (.lst vs)/\vs[j]? = some (.ref b)/\H b=some (.lst ws)/\RepOs K F H ws row B0/\(b :: B0).Nodup/\(∀ x,x∈b :: B0->x∈As i) /\
 (∀ x,x∈O->x∈As i)/\a∈O/\(∀ x,x∈b :: B0->x ∉ O) /\
 ∀ {ws':List V} {row':List D} {B':List Addr},RepOs K F H ws' row' B'->b ∉ B'->B'.Nodup->(∀ x,x∈B'->x ∉ O)->(∀ k x,k ≠ i->x∈As k->x ∉ B')->fW K F (upd H b (.lst ws')) σ (δ.set i (some (.lst (ds.set j (.lst row'))))):=by
 obtain ⟨a,vs,A0,s1,eA,g1,n1,ro⟩:=R.lst h
 obtain ⟨v0,A1,B,A3,hv,rB,e0,pk⟩:=ro.pick hj
 obtain ⟨b,ws,B0,rfl,eB,g2,n2,rr⟩:=rB.lst_inv rfl
 subst eB
 have nd0:=R.nd i
 rw [eA,e0] at nd0
 have nd1:=List.nodup_cons.mp nd0
 have nd2:=List.nodup_append.mp nd1.2
 have nd3:=List.nodup_append.mp nd2.2.1
 have inB:∀ x,x∈b :: B0->x∈As i:=fun x m=>by rw [eA,e0];exact Zk _ (List.mem_append_right _ (List.mem_append_left _ m))
 have inO:∀ x,x∈a :: (A1++A3)->x∈As i:=fun x m=>by
  rw [eA,e0]
  rcases Zo.mp m with z | z
  . rw [z];exact Zj
  . refine Zk _ ?_
    rcases Zn.mp z with z | z
    . exact List.mem_append_left _ z
    . exact List.mem_append_right _ (List.mem_append_right _ z)
 have sep:∀ x,x∈b :: B0->x ∉ a :: (A1++A3):=fun x m z=>by
  rcases Zo.mp z with z | z
  . rw [z] at m;exact nd1.1 (List.mem_append_right _ (List.mem_append_left _ m))
  . rcases Zn.mp z with z | z
    . exact nd2.2.2 x z x (List.mem_append_left _ m) rfl
    . exact nd3.2.2 x m x z rfl
 refine ⟨a,vs,b,ws,B0,a :: (A1++A3),s1,g1,hv,g2,rr,nd3.1,inB,inO,Zj,sep,fun {ws' row' B'} r' nb nd' sO sK=>?_⟩
 have hi:i < δ.length:=(List.getElem?_eq_some_iff.mp h).1
 have hab:a ≠ b:=fun z=>sep b Zj (by rw [z];exact Zj)
 have nO:∀ x,x∈a :: (A1++A3)->x ≠ b:=fun x m z=>sep b Zj (z ▸ m)
 have rowN:RepO K F (upd H b (.lst ws')) (.ref b) (.lst row') (b :: B'):=.lst aU n2 (r'.frame (io g2) fun x m=>ax fun z=>nb (z ▸ m))
 have tree:=pk (io (o:=.lst ws') g2) (fun x m=>ax (nO x (Zk _ (by
  rcases m with m | m
  . exact List.mem_append_left _ m
  . exact List.mem_append_right _ m)))) rowN
 have hset:vs.set j (.ref b)=vs:=by
  refine List.ext_getElem? fun k=>?_
  rw [List.getElem?_set]
  split
  . rename_i hk;subst hk
    rw [hv,if_pos (List.getElem?_eq_some_iff.mp hv).1]
  . rfl
 rw [hset] at tree
 have nj:∀ k x,k ≠ i->x∈As k->x ≠ b:=fun k x hk m z=>R.dj k i x hk m (z ▸ inB b Zj)
 refine ⟨_,R.write hi s1 (io g2) (jr R.fz n2) (fun k x hk m=>ax (nj k x hk m)) (.lst (by rw [ax hab];exact g1) n1 tree) ?_ fun k x hk m z=>?_⟩
 . refine List.nodup_cons.mpr ⟨fun z=>?_,List.nodup_append.mpr ⟨nd2.1,List.nodup_append.mpr ⟨List.nodup_cons.mpr ⟨nb,nd'⟩,nd3.2.1,fun x hx y hy e=>?_⟩,fun x hx y hy e=>?_⟩⟩
   . rcases Zn.mp z with z | z
     . exact nd1.1 (List.mem_append_left _ z)
     . rcases Zn.mp z with z | z
       . rcases Zo.mp z with z | z
         . exact hab z
         . exact sO a z Zj
       . exact nd1.1 (List.mem_append_right _ (List.mem_append_right _ z))
   . subst e
     rcases Zo.mp hx with z | z
     . exact nO x (Zk _ (List.mem_append_right _ hy)) z
     . exact sO x z (Zk _ (List.mem_append_right _ hy))
   . subst e
     rcases Zn.mp hy with z | z
     . rcases Zo.mp z with z | z
       . exact nO x (Zk _ (List.mem_append_left _ hx)) z
       . exact sO x z (Zk _ (List.mem_append_left _ hx))
     . exact nd2.2.2 x hx x (List.mem_append_right _ z) rfl
 . rcases Zo.mp z with z | z
   . exact R.dj k i x hk m (inO x (by rw [z];exact Zj))
   . rcases Zn.mp z with z | z
     . exact R.dj k i x hk m (inO x (Zk _ (List.mem_append_left _ z)))
     . rcases Zn.mp z with z | z
       . rcases Zo.mp z with z | z
         . exact nj k x hk m z
         . exact sK k x hk m z
       . exact R.dj k i x hk m (inO x (Zk _ (List.mem_append_right _ z)))
end
def iY (i:Nat) (fm:FM):SD:=fun δ=>match δ[i]? with
 | some (some (.lst _))=>(fm δ).bind fun p=>match p.2[i]? with
  | some (some (.lst ds))=>if ds.length<=999 then some (.nx (p.2.set i (some (.lst (ds++[p.1]))))) else none
  | _=>none
 | _=>none
section
variable {X:Cx} {e ei:Expr} {fk:FD} {fm:FM} {pos p1 p2 p3 p4:Pos}
theorem lT (i:Nat) {c:Expr} (hc:PE X c (tBM X.K "list" oN (oB i) (pZ (upV X.K fm) zx))) (hs:swapsWith c none pos.line X.env=pure false:=by rfl):PMD X (.Expr c pos) (iY i fm):=fU (oS hc hs) fun E σ H ⟨F,δ,r,⟨As,R⟩,q,k⟩=>by
 unfold iY at q
 split at q
 . rename_i ds0 h0
   obtain ⟨⟨d,δ'⟩,ed,q⟩:=Za.mp q
   dsimp only at q
   split at q
   . rename_i ds h1
     split at q
     . rename_i hz
       cases q
       obtain ⟨a,vs0,A00,s0,_,g0,_,_⟩:=R.lst h0
       refine ⟨.ref a,s0,.inl ⟨rfl,_,SqL.of g0⟩,F,δ,As,d,δ',R,ed,fun v F' H' A As' ev R' r'=>?_⟩
       obtain ⟨a1,vs,A0,s1,eA,g1,n1,ro⟩:=R'.lst h1
       have ea:a1=a:=by rw [s0] at s1;cases s1;rfl
       subst ea
       refine ⟨a1,vs,v,rfl,rfl,g1,Nat.lt_of_le_of_lt (by rw [ro.length];exact hz) (iC (show 999<=1000 by decide)),?_⟩
       have nd0:=R'.nd i
       rw [eA] at nd0
       have nd1:=List.nodup_cons.mp nd0
       have ai:a1∈As' i:=by rw [eA];exact Zj
       refine k σ F' _ ev.fs (R'.wr h1 s1 eA g1 n1 (ro.snoc r') (fun z=>?_) (List.nodup_append.mpr ⟨nd1.2,ev.nd,fun x hx y hy e=>?_⟩) fun j x hj m z=>?_)
       . rcases Zn.mp z with z | z
         . exact nd1.1 z
         . exact ev.dj i a1 ai z
       . subst e
         exact ev.dj i x (by rw [eA];exact Zk _ hx) hy
       . rcases Zn.mp z with z | z
         . exact R'.dj j i x hj m (by rw [eA];exact Zk _ z)
         . exact ev.dj j x m z
     . cases q
   . cases q
 . cases q
def hR (i:Nat) (fk:FD) (fm:FM):SD:=fun δ=>match δ[i]? with
 | some (some (.lst ds))=>(fk δ).bind fun kd=>match kd with
  | .int k=>(ixN ds.length k).bind fun j=>match ds[j]? with
   | some (.lst _)=>(fm δ).bind fun p=>match p.2[i]? with
    | some (some (.lst es))=>match es[j]? with
     | some (.lst row)=>if row.length<=999/\es.length=ds.length then some (.nx (p.2.set i (some (.lst (es.set j (.lst (row++[p.1]))))))) else none
     | _=>none
    | _=>none
   | _=>none
  | _=>none
 | _=>none
theorem tD (i:Nat) {c:Expr} (hc:PE X c (tBM X.K "list" oN (tOp (uA X.K) (oB i) (up X.K fk)) (pZ (upV X.K fm) zx))) (hs:swapsWith c none pos.line X.env=pure false:=by rfl):PMD X (.Expr c pos) (hR i fk fm):=fU (oS hc hs) fun E σ H ⟨F,δ,r,⟨As,R⟩,q,k⟩=>by
 unfold hR at q
 split at q
 . rename_i ds h0
   obtain ⟨kd,ek,q⟩:=Za.mp q
   split at q
   . rename_i kk
     obtain ⟨j,hj,q⟩:=Za.mp q
     split at q
     . rename_i row0 hrow0
       obtain ⟨⟨d,δ'⟩,ed,q⟩:=Za.mp q
       dsimp only at q
       split at q
       . rename_i es h1
         split at q
         . rename_i row hrow
           split at q
           . rename_i hz
             cases q
             obtain ⟨a,vs,b,ws,B0,O,s0,g0,hv0,gb,rr0,_,_,_,_,_⟩:=R.row h0 hrow0
             have ro0:=(R.lst h0)
             obtain ⟨a',vs',A0',s0',_,g0',_,rl⟩:=ro0
             have ea:a'=a:=by rw [s0] at s0';cases s0';rfl
             subst ea
             have ev':vs'=vs:=by rw [g0] at g0';cases g0';rfl
             subst ev'
             refine ⟨.ref a',s0,δ,.int kk,R.toS,ek,fun iv H1 s1 ri=>?_⟩
             cases ri
             refine ⟨a',vs',kk,.ref b,rfl,rfl,SqL.of (s1 _ _ g0),?_,.inl ⟨rfl,ws,SqL.of (s1 _ _ gb)⟩,?_⟩
             . unfold L2.atI;rw [rl.length,hj];exact hv0
             refine ⟨F,δ,As,d,δ',R.grow s1,ed,fun v F' H' A As' ev R' r'=>?_⟩
             obtain ⟨a1,vs1,b1,ws1,B1,O1,t0,u0,hv1,ub,rr1,ndB,inB,inO,aO,sep,fin⟩:=R'.row h1 hrow
             have ea:a1=a':=by rw [s0] at t0;cases t0;rfl
             subst ea
             have es1:vs1=vs':=by
              have:=(ev.hs _ _ (s1 _ _ g0))
              rw [u0] at this;cases this;rfl
             subst es1
             have eb:b1=b:=by rw [hv0] at hv1;cases hv1;rfl
             subst eb
             have nB:=List.nodup_cons.mp ndB
             refine ⟨b1,ws1,v,rfl,rfl,ub,Nat.lt_of_le_of_lt (by rw [rr1.length];exact hz.1) (iC (show 999<=1000 by decide)),?_⟩
             refine k σ F' _ ev.fs (fin (rr1.snoc r') (fun z=>?_) (List.nodup_append.mpr ⟨nB.2,ev.nd,fun x hx y hy e=>?_⟩) (fun x m z=>?_) fun kx x hk m z=>?_)
             . rcases Zn.mp z with z | z
               . exact nB.1 z
               . exact ev.dj i b1 (inB b1 Zj) z
             . subst e;exact ev.dj i x (inB x (Zk _ hx)) hy
             . rcases Zn.mp m with m | m
               . exact sep x (Zk _ m) z
               . exact ev.dj i x (inO x z) m
             . rcases Zn.mp z with z | z
               . exact R'.dj kx i x hk m (inB x (Zk _ z))
               . exact ev.dj kx x m z
           . cases q
         . cases q
       . cases q
     . cases q
   . cases q
 . cases q
def iT (i:Nat) (fk fl:FD) (fm:FM):SD:=fun δ=>(fm δ).bind fun p=>if imm p.1 then match p.2[i]? with
 | some (some (.lst ds))=>(fk p.2).bind fun kd=>match kd with
  | .int k=>(ixN ds.length k).bind fun j=>match ds[j]? with
   | some (.lst row)=>(fl p.2).bind fun ld=>match ld with
    | .int l=>(ixN row.length l).bind fun m=>some (.nx (p.2.set i (some (.lst (ds.set j (.lst (row.set m p.1)))))))
    | _=>none
   | _=>none
  | _=>none
 | _=>none else none
theorem tz (i:Nat) {tg:Expr} {fl:FD} (he:PV X e fm) (hg:PG X tg (yB (tOp (uA X.K) (oB i) (up X.K fk)) (up X.K fl) tf)) (hs:swapsWithSole [tg] e pos.line X.env=pure false:=by rfl) (hw:swappedStores [tg] e X.env=pure none:=by rfl)
 (h1:(assignEach [tg] X.env).map (·.2)=[assign tg X.env]:=by rfl):PMD X (.Assign [tg] e pos) (iT i fk fl fm):=fU (rO he hg hs hw h1) fun E σ H ⟨F,δ,r,⟨As,R⟩,q,k⟩=>by
 unfold iT at q
 obtain ⟨⟨d,δ'⟩,ed,q⟩:=Za.mp q
 dsimp only at q
 split at q
 . rename_i hi
   split at q
   . rename_i ds h1
     obtain ⟨kd,ek,q⟩:=Za.mp q
     split at q
     . rename_i kk
       obtain ⟨j,hj,q⟩:=Za.mp q
       split at q
       . rename_i row hrow
         obtain ⟨ld,el,q⟩:=Za.mp q
         split at q
         . rename_i ll
           obtain ⟨m,hm,q⟩:=Za.mp q
           cases q
           refine ⟨F,δ,As,d,δ',R,ed,fun v F' H' A As' ev R' r'=>?_⟩
           have eA:A=[]:=r'.none_of hi
           subst eA
           obtain ⟨a,vs,A0,s0,_,g0,_,rl⟩:=R'.lst h1
           refine ⟨.ref a,s0,δ',.int kk,R'.toS,ek,fun iv H1 s1 ri=>?_⟩
           cases ri
           have R1:=R'.grow s1
           obtain ⟨a1,vs1,b,ws,B0,O,t0,u0,hv1,ub,rr1,ndB,inB,inO,aO,sep,_⟩:=R1.row h1 hrow
           have ea:a1=a:=by rw [s0] at t0;cases t0;rfl
           subst ea
           have es1:vs1=vs:=by
            have:=s1 _ _ g0
            rw [u0] at this;cases this;rfl
           subst es1
           refine ⟨a1,vs1,kk,.ref b,rfl,rfl,SqL.of u0,by unfold L2.atI;rw [rl.length,hj];exact hv1,?_⟩
           refine ⟨δ',.int ll,R1.toS,el,fun iv2 H2 s2 ri2=>?_⟩
           cases ri2
           have R2:=R1.grow s2
           obtain ⟨a2,vs2,b2,ws2,B2,O2,t2,u2,hv2,ub2,rr2,ndB2,inB2,inO2,aO2,sep2,fin⟩:=R2.row h1 hrow
           have ea:a2=a1:=by rw [s0] at t2;cases t2;rfl
           subst ea
           have es2:vs2=vs1:=by
            have:=s2 _ _ u0
            rw [u2] at this;cases this;rfl
           subst es2
           have eb:b2=b:=by rw [hv1] at hv2;cases hv2;rfl
           subst eb
           refine ⟨b2,ws2,ll,m,rfl,rfl,ub2,by rw [rr2.length];exact hm,?_⟩
           have ml:m < row.length:=(k6 hm).2.1
           obtain ⟨v0,C1,C,C3,_,_,eC,pk⟩:=rr2.pick (i:=m) (d:=row[m]) (Zr ml)
           have rv:RepO X.K F' H2 v d []:=r'.frame (bR (s1.trans s2)) fun x mm=>nomatch mm
           have rn:=pk (H':=H2) (fun _ _ e _=>e) (fun _ _=>rfl) rv
           have nB:=List.nodup_cons.mp ndB2
           have nB2:=nB.2
           rw [eC] at nB2
           have n1:=List.nodup_append.mp nB2
           have n2:=List.nodup_append.mp n1.2.1
           have inC:∀ x,x∈C1++([]++C3)->x∈B2:=fun x mm=>by
            rw [eC]
            rcases Zn.mp mm with z | z
            . exact List.mem_append_left _ z
            . exact List.mem_append_right _ (List.mem_append_right _ (by simpa using z))
           refine k σ F' _ ev.fs (fin rn (fun z=>nB.1 (inC _ z)) (List.nodup_append.mpr ⟨n1.1,by simpa using n2.2.1,fun x hx y hy e=>?_⟩) (fun x mm=>sep2 x (Zk _ (inC x mm))) fun kx x hk mm z=>R2.dj kx i x hk mm (inB2 x (Zk _ (inC x z))))
           subst e
           exact n1.2.2 x hx x (List.mem_append_right _ (by simpa using hy)) rfl
         . cases q
       . cases q
     . cases q
   . cases q
 . cases q
end
end Dl
namespace Dl
open PySem PySem.Spec PyProof.Rows L2
def shO (δ:DS):DS:=δ.map (Option.map sh)
def ownOf (f:FM) (δ:DS):Option D:=(f δ).bind fun p=>if own p.1 then some p.1 else none
theorem RepS.toA {K:PySem.W.Frag} {H:Hp} {σ:L2.St} {δ:DS} (R:RepS K H σ δ):RepA K H H σ (shO δ) (fun _=>[]):=by
 refine ⟨Same.refl H,by unfold shO;rw [Zi];exact R.len,fun i d q=>?_,fun _ _=>rfl,fun _=>List.nodup_nil,fun _ _ _ _ m=>nomatch m⟩
 unfold shO at q
 rw [List.getElem?_map] at q
 obtain ⟨o,h1,h2⟩:=Zb.mp q
 cases o with
 | none=>cases h2
 | some d0 =>
  cases h2
  obtain ⟨v,h3,h4⟩:=R.val i d0 h1
  exact ⟨v,h3,RepO.of_sh (Same.refl H) h4⟩
theorem zf {K:PySem.W.Frag} {H₂ H4:Hp} {σ:L2.St} {δ:DS} {f:FM} {e:D} (h:ownOf f (shO δ)=some e) (R:RepS K H4 σ δ) (s:Same H₂ H4):upV K f σ H4 fun v H5=>Same H4 H5/\∃ A,RepO K H₂ H5 v e A/\A.Nodup/\∀ a∈A,H4 a=none:=by
 unfold ownOf at h
 obtain ⟨⟨d,δ'⟩,e1,h⟩:=Za.mp h
 split at h
 . rename_i ho
   cases h
   refine ⟨H4,shO δ,fun _=>[],d,δ',R.toA,e1,fun v F' H' A As' ev R' r'=>⟨ev.hs,A,(r'.thaw ev.fs ho).thaw s ho,ev.nd,fun a m=>?_⟩⟩
   rcases ev.fA a m with ⟨j,z⟩ | z
   . cases z
   . exact z
 . cases h
theorem bZ {H H':Hp} {a:Addr} (s:Same H H') (h:H' a=none):H a=none:=by
 cases q:H a with
 | none=>rfl
 | some u=>rw [s a u q] at h;cases h
theorem uj {K:PySem.W.Frag} {F H H':Hp} {vs:List V} {ds:List D} {Acc A:List Addr} {v:V} {e:D} (r:RepOs K F H vs ds Acc) (nd:Acc.Nodup) (s:Same H H') (r':RepO K F H' v e A) (nd':A.Nodup) (fr:∀ a∈A,H a=none):∃ Acc',RepOs K F H' (vs++[v]) (ds++[e]) Acc'/\Acc'.Nodup:=by
 refine ⟨Acc++A,(r.frame (bR s) fun a m=>?_).snoc r',List.nodup_append.mpr ⟨nd,nd',fun x hx y hy q=>?_⟩⟩
 . obtain ⟨⟨ws,e⟩,_⟩:=r.dom a m
   rw [e];exact s a _ e
 . subst q
   obtain ⟨⟨ws,e⟩,_⟩:=r.dom x hx
   rw [fr x hy] at e;cases e
section
variable {X:Cx} {pins:List (Addr×Obj)} {σ:L2.St} {H₂:Hp} {s₂:Shared} {scope:Scope} {cl:List (Str×Addr)} {x:Str} {N:List Str} {js:List Nat} {C:Addr} {fp:List Addr}
theorem kr {elt iter:Expr} {px pos:Pos} {it:Addr} {tn:Nat->Heap->Prop} {J:It} {ds xs:List D} {δ:DS} {felt:FM} {RR:Value->Addr->Result->Shared->Prop} {E:Value->Shared->Prop} (I:L2.Inv X pins σ H₂ s₂) (hcm:X.calm=true) (O:CompOk X scope cl x N js)
 (T:sD X.prog X.w X.K (.Name x px) J fp it tn) (st:tn 0 s₂.heap) (hf:∀ b∈fp,iO X pins H₂ b) (itd:ItD X.K J H₂ ds) (R:RepS X.K H₂ σ δ) (he:∀ C s₂ H₂ fp pn,PV (cf X scope cl x N C s₂ H₂ fp pn) elt felt)
 (hm:j4 (fun d=>ownOf felt (shO (some d :: bv js δ))) ds=some xs) (hz:xs.length<=1000)
 (hRR:∀ (D C:Addr) (s':Shared) (Hend:Hp) (vs:List V),s₂.heap.objs.size<=C->L2.Inv X pins σ Hend s'->Same H₂ Hend->Hend D=some (.lst vs)->(∃ Acc,RepOs X.K H₂ Hend vs xs Acc/\Acc.Nodup/\D ∉ Acc/\H₂ D=none)->(∃ m,s'.heap.Ns C m)->Hend C=none->RR (.ref D) C (.ok .next) s') :
 wpAny (model X.prog X.w) X.A (newList []) (fun acc s₃=>wpAny (model X.prog X.w) X.A (newFunctionEnv scope X.env.globals cl [] X.env.qual none .none (some X.env)) (fun cenv s₄ =>
  codeAny (model X.prog X.w) X.A (.compStart (.ListComp elt [⟨.Name x px,iter,[],0⟩] scope pos) 0 (.ref it) acc { cenv with scope:=relabel scope X.env }) (RR acc cenv.locals) s₄) E s₃) E s₂:=by
 obtain ⟨ml,mg'⟩:=mo hm
 have objs:=T.obj 0 s₂.heap st
 have objs':∀ b∈fp,∃ o,s₂.heap.get? b=some o:=fun b hb=>let ⟨o,h,_⟩:=objs b hb;⟨o,h⟩
 refine wpAny_newObj_type (wpAny_newFunctionEnv O.nocell (by intro y hy;simp at hy) (fun h₁ hns₁ hsb₁=>?_) O.kind)
 dsimp only at hns₁ hsb₁ ⊢
 generalize hP:s₂.heap.push { cls:=.type "list",dict:=none,data:=.seq ([]:List Value).toArray }=P2 at hns₁ hsb₁ ⊢
 have hC:P2.objs.size=s₂.heap.objs.size+1:=by rw [<- hP,Heap.size_push]
 generalize hCC:P2.objs.size=C at *
 have hCle:s₂.heap.objs.size<=C:=by omega
 have hDle:s₂.heap.objs.size<=s₂.heap.objs.size:=by omega
 have hDC:s₂.heap.objs.size ≠ C:=by omega
 have old:∀ b o,s₂.heap.get? b=some o->h₁.get? b=some o:=fun b o e=>by
  refine hsb₁.extBut b o (Nat.ne_of_lt (Nat.lt_of_lt_of_le (Heap.lt_size e) hCle)) (Heap.get?_push_of_some _ ?_)
  rw [<- hP]
  exact Heap.get?_push_of_some _ e
 have hacc:h₁.get? s₂.heap.objs.size=some { cls:=.type "list",data:=.seq ([]:List Value).toArray }:=by
  refine hsb₁.extBut s₂.heap.objs.size _ hDC (Heap.get?_push_of_some _ ?_)
  rw [<- hP]
  exact Heap.get?_push_size _ rfl
 have I0:=fun tk=>mS (C:=C) (tk:=tk) I hcm O hCle hf objs' old hns₁ I.len
 have dstk:s₂.heap.objs.size ∉ frs X.stack:=ii I hDle
 have fne:∀ b∈fp,b ≠ s₂.heap.objs.size:=fun b hb e=>by
  obtain ⟨o,h⟩:=objs' b hb
  exact absurd (Heap.lt_size h) (by rw [e];exact Nat.lt_irrefl _)
 have cne:∀ y c,cl.lookup y=some c->c ≠ s₂.heap.objs.size:=fun y c e z=>by
  obtain ⟨v,o,h1,_⟩:=I.cell y c (O.cls y c e)
  exact absurd (Heap.lt_size h1) (by rw [z];exact Nat.lt_irrefl _)
 have pne:∀ p∈X.pn++pins,p.1 ≠ s₂.heap.objs.size:=fun p hp e=>by
  exact absurd (Heap.lt_size (I.pin p hp).1) (by rw [e];exact Nat.lt_irrefl _)
 have stat:∀ {H':Hp} {pl:List (Addr×Obj)},(∀ b∈fp,H' b=none)->(∀ p∈pl,∀ b∈fp,p.1 ≠ b)->∀ b∈fp,iO (cf X scope cl x N C s₂ H₂ fp (X.pn++pins)) pl H' b:=fun {H' pl} hn hpl b hb=>by
  obtain ⟨o,h⟩:=objs' b hb
  refine ⟨hn b hb,Nat.ne_of_lt (Nat.lt_of_lt_of_le (Heap.lt_size h) hCle),fun z=>?_,.inl hb,fun y c e=>(hf b hb).2.2.2.2.1 y c (O.cls y c e),fun p hp=>?_⟩
  . rcases Zo.mp (I.stkSub b z) with e | e
    . exact (hf b hb).2.1 e
    . exact (hf b hb).2.2.1 e
  . rcases Zn.mp hp with q | q
    . exact (hf b hb).2.2.2.2.2 p q
    . exact hpl p q b hb
 have loop:∀ s₃:Shared,s₃={ s₂ with heap:=h₁,toks:=s₂.toks+([]:List (Str×Value)).length } ->
  codeAny (model X.prog X.w) X.A (.compLoop (.ListComp elt [⟨.Name x px,iter,[],0⟩] scope pos) 0 (.ref it) (.ref s₂.heap.objs.size) (compEnvC scope cl C X.env)) (RR (.ref s₂.heap.objs.size) C) s₃:=by
  rintro s₃ rfl
  refine jM (fun n s=>∃ (i:Nat) (σ':L2.St) (H':Hp) (vs:List V) (o:Option D),n=ds.length - i/\i<=ds.length/\L2.Inv (cf X scope cl x N C s₂ H₂ fp (X.pn++pins)) [] σ' H' s/\Same H₂ H'/\RepS X.K H' σ' (o :: bv js δ)/\tn i s.heap/\(∀ b∈fp,H' b=none) /\
   (∃ (its:List Value) (k:Nat),Vals vs its/\s.heap.get? s₂.heap.objs.size=some { cls:=.type "list",data:=.seq its.toArray k })/\H' s₂.heap.objs.size=none/\(∃ Acc,RepOs X.K H₂ H' vs (xs.take i) Acc/\Acc.Nodup)/\vs.length=i) ?_ ds.length
   ⟨0,_,H₂,[],none,rfl,Nat.zero_le _,I0 _,Same.refl _,jT R js,T.keep 0 _ _ st (fun b hb o e=>old b o e),fun b hb=>(hf b hb).1,⟨[],0,.nil,hacc⟩,I.hok.fresh hDle,⟨[],.nil,List.nodup_nil⟩,rfl⟩
  rintro n s ⟨i,σ',H',vs,o,rfl,hi,I',sm,R',st',fr',⟨its,k,rv,hD⟩,fD,⟨Acc,rr,nda⟩,hl⟩
  by_cases hlt:i < ds.length
  . -- one more
    obtain ⟨go,yl⟩:=(itd i H' sm).1 hlt
    have hd0:ds[i]? = some ds[i]:=by simp [hlt]
    obtain ⟨e,ge,xe⟩:=mg' i _ hd0
    have I1:L2.Inv (cf X scope cl x N C s₂ H₂ fp (X.pn++pins)) [(s₂.heap.objs.size,{ cls:=.type "list",data:=.seq its.toArray k })] σ' H' s:=I'.pins_of fun p hp=>by
     have:p=(s₂.heap.objs.size,{ cls:=.type "list",data:=.seq its.toArray k }):=by simpa using hp
     subst this
     exact ⟨hD,fD,hDC,dstk,fun v z=>by cases z⟩
    refine thn (T.item (cf X scope cl x N C s₂ H₂ fp (X.pn++pins)) rfl rfl rfl rfl i _ s σ' H' (fun _ _=>False) I1 (stat fr' fun p hp b hb=>by
     have:p=(s₂.heap.objs.size,{ cls:=.type "list",data:=.seq its.toArray k }):=by simpa using hp
     subst this
     exact (fne b hb).symm) st' go) fun r s1 ⟨u,hr,h4⟩=>?_
    subst hr
    refine thn h4 fun _ s2 ⟨y,H'',I2,ru,yy,st2,fr2⟩=>?_
    obtain ⟨s3,d,hd,rd⟩:=yl y H'' yy
    have hd':d=ds[i]:=by rw [hd0] at hd;exact (Option.some.inj hd).symm
    subst hd'
    have I3:=I2.pinned (stat fr2 fun p hp b hb=>by
     have:p=(s₂.heap.objs.size,{ cls:=.type "list",data:=.seq its.toArray k }):=by simpa using hp
     subst this
     exact (fne b hb).symm) (T.obj _ _ st2)
    refine thn (iH (X:=cf X scope cl x N C s₂ H₂ fp (X.pn++pins)) (i:=0) O.nd O.h0 (.inl (lookup_relabel_local O.hx)) (.inl (by simp)) _ s2 σ' H'' y u (fun σ4 H4=>σ4=σ'.set 0 (some y)/\H4=H'') I3 ru ⟨rfl,rfl⟩) fun _ s4 ⟨σ4,H4,I4,e1,e2⟩=>?_
    subst e1 e2
    have R4:RepS X.K H4 (σ'.set 0 (some y)) (some ds[i] :: bv js δ):=(R'.mono s3).set 0 rd
    refine thn (he C s₂ H₂ fp (X.pn++pins) _ s4 (σ'.set 0 (some y)) H4 (fun v H5=>Same H4 H5/\∃ A,RepO X.K H₂ H5 v e A/\A.Nodup/\∀ a∈A,H4 a=none) I4 (zf ge R4 (sm.trans s3))) fun wv s5 ⟨v,H5,I5,rw5,s45,A5,r5,nd5,fr5⟩=>?_
    have hD5:s5.heap.get? s₂.heap.objs.size=some { cls:=.type "list",data:=.seq its.toArray k }:=(I5.pin (s₂.heap.objs.size,{ cls:=.type "list",data:=.seq its.toArray k }) (by simp)).1
    have fD5:H5 s₂.heap.objs.size=none:=(I5.pin (s₂.heap.objs.size,{ cls:=.type "list",data:=.seq its.toArray k }) (by simp)).2.1
    have pf:∀ b∈fp,∀ ob,s2.heap.get? b=some ob->s5.heap.get? b=some ob/\H5 b=none:=fun b hb ob hob=>by
     have:=I5.pin (b,ob) (List.mem_append_right _ (List.mem_append_right _ (eD hb hob)))
     exact ⟨this.1,this.2.1⟩
    have lz:its.length<=1000:=by
     have:=rv.length
     omega
    refine call_meets F.slot_list_append ⟨_,hD5,rfl⟩ F.entry_list_append (F.args_list_append_2 _ _) (PySem.list_append s₂.heap.objs.size its.toArray k wv (by rw [List.size_toArray];exact de lz)) ⟨hD5,?_⟩
    have q:=PySem.IsL.update hD5 (fun a=>a.push wv)
    have I6:L2.Inv (cf X scope cl x N C s₂ H₂ fp (X.pn++pins)) [] (σ'.set 0 (some y)) H5 { s5 with heap:=s5.heap.update s₂.heap.objs.size (Obj.mapSeq fun a=>a.push wv),toks:=s5.toks } :=
     (I5.pins_of (pins':=[]) fun p hp=>by simp at hp).turned (it:=s₂.heap.objs.size) (t':=s5.toks) (fun b ob hb hu=>(Heap.get?_update_other s5.heap _ (Ne.symm hb)).trans hu) fD5 hDC (.inr hDle) cne (fun p hp=>by
      rcases Zn.mp hp with z | z
      . exact pne p z
      . simp at z)
    refine ⟨ds.length - (i+1),by omega,i+1,σ'.set 0 (some y),H5,vs++[v],some ds[i],rfl,hlt,I6,(sm.trans s3).trans s45,R4.mono s45,?_,?_,?_,fD5,?_,by simp [hl]⟩
    . refine T.keep _ _ _ st2 fun b hb ob hob=>?_
      exact (Heap.get?_update_other s5.heap _ (Ne.symm (fne b hb))).trans (pf b hb ob hob).1
    . intro b hb
      obtain ⟨ob,hob,_⟩:=T.obj _ _ st2 b hb
      exact (pf b hb ob hob).2
    . have hf7:its.toArray.push wv=(its++[wv]).toArray:=by simp
      rw [hf7] at q
      exact ⟨its++[wv],_,rv.append (.cons rw5 .nil),q⟩
    . have e8:xs.take (i+1)=xs.take i++[e]:=by
       rw [List.take_add_one,xe];rfl
      rw [e8]
      exact uj rr nda (s3.trans s45) r5 nd5 fun a m=>(bZ s3 (fr5 a m))
  . -- the end
    have hie:i=ds.length:=by omega
    refine thn (T.done (cf X scope cl x N C s₂ H₂ fp (X.pn++pins)) rfl rfl rfl rfl i [(s₂.heap.objs.size,{ cls:=.type "list",data:=.seq its.toArray k })] s σ' H' (fun _ _=>False) (I'.pins_of fun p hp=>by
     have:p=(s₂.heap.objs.size,{ cls:=.type "list",data:=.seq its.toArray k }):=by simpa using hp
     subst this
     exact ⟨hD,fD,hDC,dstk,fun v z=>by cases z⟩) (stat fr' fun p hp b hb=>by
     have:p=(s₂.heap.objs.size,{ cls:=.type "list",data:=.seq its.toArray k }):=by simpa using hp
     subst this
     exact (fne b hb).symm) st' ((itd i H' sm).2 (by omega))) fun r s1 ⟨hr,I8⟩=>?_
    subst hr
    have hD8:s1.heap.get? s₂.heap.objs.size=some { cls:=.type "list",data:=.seq its.toArray k }:=(I8.pin (s₂.heap.objs.size,{ cls:=.type "list",data:=.seq its.toArray k }) (by simp)).1
    have hxs:xs.take i=xs:=List.take_of_length_le (by omega)
    rw [hxs] at rr
    have sn:=c5 fD (.lst vs)
    have dn:∀ b,∀ u,H' b=some u->b ≠ s₂.heap.objs.size:=fun b u z=>cA z fD
    have un:Un (frs X.stack) fp H₂ (upd H' s₂.heap.objs.size (.lst vs)) s₂.heap s1.heap:=by
     have b0:=I8.base
     refine ⟨fun b ob e n1 n2 n3=>b0.keep b ob e n1 n2 n3,fun b ob e n1 n2 n3=>b0.slot b ob e n1 n2 n3,fun b ob e n1 n3=>?_,fun b ob e n3=>b0.there b ob e n3,fun b zs e=>?_,fun b ob u e=>?_,fun b ps e=>?_⟩
     . rw [ax (Nat.ne_of_lt (Heap.lt_size e))]
       exact b0.free b ob e n1 n3
     . have z:=b0.tups b zs e
       rw [ax (dn _ _ z)]
       exact z
     . have z:=b0.frzs b ob u e
       rw [ax (dn _ _ z)]
       exact z
     . obtain ⟨more,z⟩:=b0.tbls b ps e
       exact ⟨more,by rw [ax (dn _ _ z)];exact z⟩
    have hok:HOk X.prog X.w (upd H' s₂.heap.objs.size (.lst vs)) s1.heap:=fun b u z=>by
     by_cases hb:b=s₂.heap.objs.size
     . rw [hb] at z ⊢
       rw [aU] at z
       cases z
       exact ⟨de (by omega),its,k,rv,hD8⟩
     . rw [ax hb] at z
       exact (I8.hok b u z).stay (fun _ _ _ q=>q) (fun c q=>by rw [ax (dn _ _ q)];exact q) fun c ys q=>by rw [ax (dn _ _ q)];exact q
    have IX:L2.Inv X pins σ (upd H' s₂.heap.objs.size (.lst vs)) s1:=I.call' I8.os un hok I8.bare fun b hb=>⟨(hf b hb).2.2.2.1,(hf b hb).2.1,(hf b hb).2.2.2.2.1,(hf b hb).2.2.2.2.2⟩
    obtain ⟨m8,hn8,_⟩:=I8.loc
    refine hRR s₂.heap.objs.size C s1 _ vs hCle IX (sm.trans sn) aU ⟨Acc,rr.frame (bR sn) (fun a m=>by
     obtain ⟨⟨ws,e⟩,_⟩:=rr.dom a m
     rw [e];exact sn a _ e),nda,fun m=>(by
     obtain ⟨⟨ws,e⟩,_⟩:=rr.dom _ m
     rw [fD] at e;cases e),I.hok.fresh hDle⟩ ⟨m8,hn8⟩ ?_
    rw [ax (Ne.symm hDC)]
    exact I8.free
 exact codeAny_compStart_list (loop _ rfl) (T.self X.A 0 _ _ _ (T.keep 0 _ _ st (fun b hb o e=>old b o e)) (loop _ rfl))
def gY (src:FA) (js:List Nat) (felt:FM):FM:=fun δ=>(src δ).bind fun ds=>(j4 (fun d=>ownOf felt (shO (some d :: bv js δ))) ds).bind fun xs=>if xs.length<=1000 then some (.lst xs,δ) else none
theorem j3 {f:FM} {g:D->DS}:∀ {ds xs:List D},j4 (fun d=>ownOf f (g d)) ds=some xs->gn xs=true
 | [],xs,h=>by cases h;rfl
 | d :: ds,xs,h=>by
  obtain ⟨x,ex,h⟩:=Za.mp (show ((ownOf f (g d)).bind _)=some xs from h)
  obtain ⟨ys,ey,h⟩:=Za.mp h
  cases h
  rw [gn,j3 ey,Bool.and_true]
  unfold ownOf at ex
  obtain ⟨p,_,ex⟩:=Za.mp ex
  split at ex
  . rename_i ho;cases ex;exact ho
  . cases ex
theorem ue {K:PySem.W.Frag} {F H H1 Hend:Hp} {σ:L2.St} {δ:DS} {As:Nat->List Addr} {xs:List D} {vs:List V} {D:Addr} (RA:RepA K F H σ δ As) (ho:gn xs=true) (s:Same H Hend) (s1:Same H H1) (hD:Hend D=some (.lst vs)) (h:∃ Acc,RepOs K H1 Hend vs xs Acc/\Acc.Nodup/\D ∉ Acc/\H1 D=none) :
 ∃ A,Ev F H As F Hend As A/\RepA K F Hend σ δ As/\RepO K F Hend (.ref D) (.lst xs) A:=by
 obtain ⟨Acc,r,nd,nD,hn⟩:=h
 refine ⟨D :: Acc,.fresh s (fun a m=>?_) (List.nodup_cons.mpr ⟨nD,nd⟩) (fun i a m=>(RA.dom m).1),RA.grow s,.lst hD ?_ (r.thaw (RA.fz.trans s1) ho)⟩
 . rcases Zo.mp m with z | z
   . rw [z];exact bZ s1 hn
   . exact bZ s1 (r.dom a z).2
 . exact bZ (RA.fz.trans s1) hn
theorem yR {K:PySem.W.Frag} {F H H1 Hend:Hp} {σ:L2.St} {δ:DS} {As:Nat->List Addr} {xs:List D} {vs:List V} {D:Addr} {Q:VK} (RA:RepA K F H σ δ As) (k:∀ v F' H' A As',Ev F H As F' H' As' A->RepA K F' H' σ δ As'->RepO K F' H' v (.lst xs) A->Q v H') (ho:gn xs=true) (s:Same H Hend) (s1:Same H H1) (hD:Hend D=some (.lst vs)) (h:∃ Acc,RepOs K H1 Hend vs xs Acc/\Acc.Nodup/\D ∉ Acc/\H1 D=none):Q (.ref D) Hend:=by
 obtain ⟨A,ev,R',r'⟩:=ue RA ho s s1 hD h
 exact k _ F Hend A As ev R' r'
theorem rf {K:PySem.W.Frag} {F H H1 Hend:Hp} {σ:L2.St} {δ:DS} {As:Nat->List Addr} {xs:List D} {vs:List V} {D:Addr} {Q:L2.St->Hp->Prop} (i:Nat) (RA:RepA K F H σ δ As) (k:∀ σ' F' H',Same F F'->fW K F' H' σ' (δ.set i (some (.lst xs)))->Q σ' H') (ho:gn xs=true) (s:Same H Hend) (s1:Same H H1) (hD:Hend D=some (.lst vs)) (h:∃ Acc,RepOs K H1 Hend vs xs Acc/\Acc.Nodup/\D ∉ Acc/\H1 D=none):Q (σ.set i (some (.ref D))) Hend:=by
 obtain ⟨A,ev,R',r'⟩:=ue RA ho s s1 hD h
 exact k _ F Hend (Same.refl F) (R'.setM i r' ev.nd ev.dj)
theorem oP {elt iter:Expr} {px pos:Pos} {src:FA} {felt:FM} (hi:PID X (.Name x px) iter src) {N:List Str} {js:List Nat} (he:∀ C s₂ H₂ fp pn,PV (cf X scope cl x N C s₂ H₂ fp pn) elt felt) (O:CompOk X scope cl x N js) (hcm:X.calm=true:=by rfl)
 (hs:∀ v,foldedSetIterable iter X.env v=pure v:=by intro _;rfl):PV X (.ListComp elt [⟨.Name x px,iter,[],0⟩] scope pos) (gY src js felt):=by
 intro pins s σ H Q I ⟨F,δ,As,d,δ',RA,q,k⟩
 have R:=RA.toS
 unfold gY at q
 obtain ⟨ds,eds,q⟩:=Za.mp q
 obtain ⟨xs,exs,q⟩:=Za.mp q
 by_cases hz:xs.length<=1000
 . rw [if_pos hz] at q
   cases q
   rw [eval_ListComp]
   refine wpAny_comprehension_free (use:=none) rfl hs O.clos O.kind O.names ?_
   refine wpAny_mono (hi pins s σ H (fun J H1=>Same H H1/\ItD X.K J H1 ds) I ⟨δ,ds,R,eds,fun J H1 s1 itd=>⟨s1,itd⟩⟩) (fun v s1 h1=>wpAny_mono h1 (fun itv s2 h2=>?_) fun _ _ z=>z) fun _ _ z=>z
   obtain ⟨it,fp,tn,J,H2,rfl,I2,T,st,hf,s1,itd⟩:=h2
   refine kr (RR:=fun acc C=>compPost (model X.prog X.w) X.A X.xe none (EP X pins σ Q) acc C) I2 hcm O T st hf itd (R.mono s1) he exs hz ?_
   intro D C s' Hend vs hC IX sm hD rr ⟨m,hn⟩ fC
   exact ⟨m,hn,fun h' hs'=>⟨.ref D,Hend,nW IX I2 hC fC hs',rfl,yR RA k (j3 exs) (s1.trans sm) s1 hD rr⟩⟩
 . rw [if_neg hz] at q;cases q
theorem xW (i:Nat) {y:Str} {elt iter:Expr} {px py pos spos:Pos} {src:FA} {felt:FM} (hN:X.N.Nodup) (hi:PID X (.Name x px) iter src) {N:List Str} {js:List Nat} (he:∀ C s₂ H₂ fp pn,PV (cf X scope cl x N C s₂ H₂ fp pn) elt felt) (O:CompOk X scope cl x N js)
 (hsw:swapsWith (.ListComp elt [⟨.Name x px,iter,[],0⟩] scope pos) (some (.Name y py)) spos.line X.env=pure true:=by rfl) (hy:X.N[i]? = some y:=by rfl) (hl:Loc X.env.scope y:=by first | exact Or.inl rfl | exact Or.inr rfl) (hcm:X.calm=true:=by rfl)
 (hs:∀ v,foldedSetIterable iter X.env v=pure v:=by intro _;rfl) (hfn:X.fn y=true \/ X.env.scope.names.lookup y=some .local:=by first | exact .inl rfl | exact .inr rfl | assumption) :
 PMD X (.Assign [.Name y py] (.ListComp elt [⟨.Name x px,iter,[],0⟩] scope pos) spos) (aw i (gY src js felt)):=by
 intro pins s σ H D I ⟨F,δ,r,⟨As,RA⟩,q,k⟩
 have R:=RA.toS
 unfold aw at q
 obtain ⟨⟨d,δ'⟩,ed,q⟩:=Za.mp q
 cases q
 unfold gY at ed
 obtain ⟨ds,eds,q⟩:=Za.mp ed
 obtain ⟨xs,exs,q⟩:=Za.mp q
 by_cases hz:xs.length<=1000
 . rw [if_pos hz] at q
   cases q
   rw [exec_Assign_Name_used _ _ _ _ hsw]
   refine wpAny_bind (wpAny_standAt (wpAny_bind ?_))
   show wpAny _ X.A (do let _ <- comprehension (.ListComp elt [⟨.Name x px,iter,[],0⟩] scope pos) scope X.env _ (newList []) false (eval iter X.env) (some (assign (.Name y py) X.env))) _ _ s
   refine wpAny_bind (wpAny_mono (wpAny_comprehension_free (use:=some (assign (.Name y py) X.env)) (Q:=fun _ s'=>SP X pins D .next s') rfl hs O.clos O.kind O.names ?_) (fun _ s' hq=>wpAny_pure (wpAny_pure hq)) fun _ _ z=>z)
   refine wpAny_mono (hi pins s σ H (fun J H1=>Same H H1/\ItD X.K J H1 ds) I ⟨δ,ds,R,eds,fun J H1 s1 itd=>⟨s1,itd⟩⟩) (fun v s1 h1=>wpAny_mono h1 (fun itv s2 h2=>?_) fun _ _ z=>z) fun _ _ z=>z
   obtain ⟨it,fp,tn,J,H2,rfl,I2,T,st,hf,s1,itd⟩:=h2
   refine kr (RR:=fun acc C=>compPost (model X.prog X.w) X.A X.xe (some (assign (.Name y py) X.env)) (fun _ s'=>SP X pins D .next s') acc C) I2 hcm O T st hf itd (R.mono s1) he exs hz ?_
   intro DA C s' Hend vs hC IX sm hD rr ⟨m,hn⟩ fC
   show wpAny _ X.A (assign (.Name y py) X.env (.ref DA)) _ _ s'
   refine wpAny_assign_Name (jS (v:=.ref DA) IX hN hy hl rfl (fun s9 I9 ⟨a,hsb,ha⟩=>?_) hfn)
   have hCa:C ≠ a:=by
    rintro rfl
    rcases ha with z | z
    . exact absurd (Nat.lt_of_lt_of_le I2.lt (by rw [<- z];exact hC)) (Nat.lt_irrefl _)
    . obtain ⟨v,o,h1,_⟩:=I2.cell y _ z
      exact absurd (Nat.lt_of_lt_of_le (Heap.lt_size h1) hC) (Nat.lt_irrefl _)
   refine ⟨m,hn.at' fun o e=>(hsb.2 C hCa).trans e,fun h' hs'=>⟨_,Hend,?_,rf i RA k (j3 exs) (s1.trans sm) s1 hD rr⟩⟩
   exact I9.turned (it:=C) (t':=s9.toks) (fun b o hb e=>(hs'.2 b hb).trans e) fC (Nat.ne_of_gt (Nat.lt_of_lt_of_le I2.lt hC)) (.inr (Nat.le_trans I2.sz hC))
    (fun y c e z=>by
     obtain ⟨v,o,h1,_⟩:=I2.cell y c e
     exact absurd (Nat.lt_of_lt_of_le (Heap.lt_size h1) (by rw [z];exact hC)) (Nat.lt_irrefl _))
    (fun p hp z=>absurd (Nat.lt_of_lt_of_le (Heap.lt_size (I2.pin p hp).1) (by rw [z];exact hC)) (Nat.lt_irrefl _))
 . rw [if_neg hz] at q;cases q
end
end Dl
namespace Dl
open PySem PySem.Spec PyProof.Rows L2
section
variable {K:PySem.W.Frag} {F H:Hp} {σ:L2.St} {δ:DS} {As:Nat->List Addr}
theorem RepOs.of_imm:∀ {vs:List V} {ds:List D},Reps K H vs ds->bM ds=true->RepOs K F H vs ds []
 | _,_,.nil,_=>.nil
 | _,_,.cons r t,i=>by
  rw [bM,Bool.and_eq_true] at i
  exact .cons (.imm i.1 r) (RepOs.of_imm t i.2) rfl
theorem l7 {H1:Hp} {vs:List V} {ds:List D} {p:Addr} {Q:VK} (R:RepA K F H σ δ As) (s:Same H H1) (r:Reps K H1 vs ds) (i:bM ds=true) (hp:H1 p=none)
 (k:∀ v F' H' A As',Ev F H As F' H' As' A->RepA K F' H' σ δ As'->RepO K F' H' v (.lst ds) A->Q v H'):Q (.ref p) (upd H1 p (.lst vs)):=by
 have sn:=c5 hp (.lst vs)
 have np:=bZ s hp
 refine k _ F _ [p] As (.fresh (s.trans sn) (fun a m=>?_) (List.nodup_cons.mpr ⟨fun z=>(nomatch z),List.nodup_nil⟩) (fun i a m=>(R.dom m).1)) (R.grow (s.trans sn)) (.lst aU (bZ R.fz np) (RepOs.of_imm (r.mono sn) i))
 rw [Zl.mp m]
 exact np
end
def gN (d:D) (δ:DS):Option (D×DS):=match d with
 | .lst ds=>if bM ds then some (.lst ds,δ) else none
 | _=>none
theorem i7 {d d':D} {δ δ':DS} (h:gN d δ=some (d',δ')):∃ ds,d=.lst ds/\d'=.lst ds/\δ'=δ/\bM ds=true:=by
 unfold gN at h
 split at h
 . rename_i ds
   split at h
   . rename_i hi
     cases h
     exact ⟨ds,rfl,rfl,rfl,hi⟩
   . cases h
 . cases h
def vSl (f:FD) (lo hi:FO):FM:=fun δ=>(fSl f lo hi δ).bind fun d=>gN d δ
def tW:List D->Option D
 | [.lst ds]=>some (.lst ds)
 | [.seq ds]=>some (.lst ds)
 | [.tup ds]=>some (.lst ds)
 | _=>none
def kN (g:FA):FM:=fun δ=>(g δ).bind fun ds=>(tW ds).bind fun d=>gN d δ
section
variable {X:Cx} {e a b:Expr} {f fa fb:FD} {lo hi:Option Expr} {fl fh:FO} {g:FA} {pos p2 p:Pos}
theorem vN (he:PD X e f) (hl:POD X lo fl) (hu:POD X hi fh):PV X (.Subscript e (.Slice lo hi none p2) pos) (vSl f fl fh):=imp (wa xD he hl hu) fun σ H Q ⟨F,δ,As,d,δ',RA,q,k⟩=>by
 unfold vSl at q
 obtain ⟨d0,e0,q⟩:=Za.mp q
 obtain ⟨ds,rfl,rfl,rfl,hi⟩:=i7 q
 unfold fSl at e0
 obtain ⟨x,ex,e0⟩:=Za.mp e0
 obtain ⟨es,eds,e0⟩:=Za.mp e0
 obtain ⟨l,el,e0⟩:=Za.mp e0
 obtain ⟨h,eh,e0⟩:=Za.mp e0
 cases e0
 have R:=RA.toS
 refine ⟨_,x,R,ex,fun v H1 s1 r1=>⟨_,l,R.mono s1,el,fun H2 s2=>⟨_,h,(R.mono s1).mono s2,eh,fun H3 s3=>?_⟩⟩⟩
 have r3:=(r1.mono s2).mono s3
 have fin:∀ (a:Addr) (vs:List V),SqL X.K H3 a vs->Reps X.K H3 vs es->Bc X.K (.ref a) l h H3 Q:=fun a vs hq rp =>
  ⟨a,vs,rfl,hq,fun p hp=>l7 RA ((s1.trans s2).trans s3) (xi rp l h) hi hp k⟩
 cases r3 with
 | @lst p vs es hp rp=>cases eds;exact fin p vs (SqL.of hp) rp
 | @seq p vs es hp rp=>cases eds;exact fin p vs hp rp
 | _=>cases eds
theorem uB (hg:Gl X "list") (hm:X.mg "list" = none) (hv:bootBuiltins "list" = some (.type "list")) (ha:PAD X [e] g) (he:starEach [e] X.env=(false,eval e X.env) :: starEach [] X.env:=by rfl) (hpl:(backTo pos (starEach [] X.env)).any (·.1)=false:=by rfl) :
 PV X (.Call (.Name "list" p) [e] [] pos) (kN g):=imp (jX pO hg hm hv ha (by decide) (by decide) he hpl) fun σ H Q ⟨F,δ,As,d,δ',RA,q,k⟩=>by
 unfold kN at q
 obtain ⟨xs,exs,q⟩:=Za.mp q
 obtain ⟨d0,e0,q⟩:=Za.mp q
 obtain ⟨ds,rfl,rfl,rfl,hi⟩:=i7 q
 refine ⟨_,xs,RA.toS,exs,fun vs H1 s1 r1 l=>?_⟩
 unfold tW at e0
 split at e0
 . cases e0
   obtain ⟨v,rfl,rv⟩:=fM r1
   cases rv with
   | @lst p vs _ hp rp=>exact ⟨p,vs,rfl,.inl (SqL.of hp),fun l hl=>l7 RA s1 rp hi hl k⟩
 . cases e0
   obtain ⟨v,rfl,rv⟩:=fM r1
   cases rv with
   | @seq p vs _ hp rp=>exact ⟨p,vs,rfl,.inl hp,fun l hl=>l7 RA s1 rp hi hl k⟩
 . cases e0
   obtain ⟨v,rfl,rv⟩:=fM r1
   cases rv with
   | @tup p vs _ hp rp=>exact ⟨p,vs,rfl,.inr hp,fun l hl=>l7 RA s1 rp hi hl k⟩
 . cases e0
end
theorem imms_mem:∀ {ds:List D},bM ds=true <-> ∀ d∈ds,imm d=true
 | []=>⟨fun _ _ m=>(nomatch m),fun _=>rfl⟩
 | d :: ds=>by
  rw [bM,Bool.and_eq_true,imms_mem (ds:=ds)]
  exact ⟨fun h e m=>(Zo.mp m).elim (fun z=>z ▸ h.1) (h.2 e),fun h=>⟨h d Zj,fun e m=>h e (Zk _ m)⟩⟩
section
variable {K:PySem.W.Frag} {F H:Hp} {σ:L2.St} {δ:DS} {As:Nat->List Addr}
end
section
variable {X:Cx} {pos:Pos}
end
end Dl
namespace Dl
open PySem PySem.Spec PyProof.Rows L2
end Dl
namespace Dl
open PySem PySem.Spec PyProof.Rows L2
def eqL (f:D->D->Option Bool):List D->List D->Option Bool
 | [],[]=>some true
 | [],_ :: _=>some false
 | _ :: _,[]=>some false
 | a :: as,b :: bs=>(f a b).bind fun x=>(eqL f as bs).bind fun y=>some (x && y)
def eqN:Nat->D->D->Option Bool
 | 0,a,b=>if cu a && cu b then some (eqF a b) else none
 | n+1,a,b=>match a,b with
  | .tup as,.tup bs=>eqL (eqN n) as bs
  | .lst as,.lst bs=>eqL (eqN n) as bs
  | .lst as,.seq bs=>eqL (eqN n) as bs
  | .seq as,.lst bs=>eqL (eqN n) as bs
  | .seq as,.seq bs=>eqL (eqN n) as bs
  | .non,.tup _=>some false
  | .tup _,.non=>some false
  | .non,.lst _=>some false
  | .lst _,.non=>some false
  | .non,.seq _=>some false
  | .seq _,.non=>some false
  | a,b=>if cu a && cu b then some (eqF a b) else none
theorem ua {f:D->D->Option Bool}:∀ {as bs:List D} {c:Bool},eqL f as bs=some c->∀ (j:Nat) (a b:D),as[j]? = some a->bs[j]? = some b->∃ x,f a b=some x
 | [],_,_,_,_,_,_,h,_=>by simp at h
 | _ :: _,[],_,_,_,_,_,_,h=>by simp at h
 | a :: as,b :: bs,c,h,j,x,y,h1,h2=>by
  obtain ⟨u,e1,h⟩:=Za.mp (show ((f a b).bind _)=some c from h)
  obtain ⟨v,e2,h⟩:=Za.mp h
  cases j with
  | zero=>simp at h1 h2;subst h1 h2;exact ⟨u,e1⟩
  | succ j=>exact ua e2 j x y (by simpa using h1) (by simpa using h2)
theorem pG {f:D->D->Option Bool}:∀ {as bs:List D} {c:Bool} {e:Nat->Bool},eqL f as bs=some c->(∀ (j:Nat) (a b:D) (x:Bool),as[j]? = some a->bs[j]? = some b->f a b=some x->e j=x)->((List.range (min as.length bs.length)).all e && as.length == bs.length)=c
 | [],[],c,e,h,_=>by cases h;rfl
 | [],_ :: _,c,e,h,_=>by cases h;simp
 | _ :: _,[],c,e,h,_=>by cases h;simp
 | a :: as,b :: bs,c,e,h,he=>by
  obtain ⟨u,e1,h⟩:=Za.mp (show ((f a b).bind _)=some c from h)
  obtain ⟨v,e2,h⟩:=Za.mp h
  cases h
  have ih:=pG (e:=fun j=>e (j+1)) e2 fun j x y z h1 h2 h3=>he (j+1) x y z (by simpa using h1) (by simpa using h2) h3
  have h0:e 0=u:=he 0 a b u rfl rfl e1
  show ((List.range (min (as.length+1) (bs.length+1))).all e && (as.length+1) == (bs.length+1))=(u && v)
  have hm:min (as.length+1) (bs.length+1)=min as.length bs.length+1:=by omega
  have hq:((as.length+1) == (bs.length+1))=(as.length == bs.length):=by rw [Bool.eq_iff_iff];simp
  rw [<- ih,<- h0,hm,List.range_succ_eq_map,List.all_cons,List.all_map,Bool.and_assoc,hq]
  rfl
theorem t9 {f:D->D->Option Bool}:∀ {as bs:List D} {c:Bool},eqL f as bs=some c->as.length ≠ bs.length->c=false
 | [],[],_,_,n=>absurd rfl n
 | [],_ :: _,c,h,_=>by cases h;rfl
 | _ :: _,[],c,h,_=>by cases h;rfl
 | a :: as,b :: bs,c,h,n=>by
  obtain ⟨u,e1,h⟩:=Za.mp (show ((f a b).bind _)=some c from h)
  obtain ⟨v,e2,h⟩:=Za.mp h
  cases h
  rw [t9 e2 (fun z=>n (congrArg (· + 1) z)),Bool.and_false]
theorem pI {A:Around} {s:Shared} {b:Addr} {k:Bool} (h:SeqAt.RcAt A s .none (.ref b) k):SeqAt.EqAt A s .none (.ref b) k:=fun prog w E Q hq=>by
 unfold eqBool
 refine wpAny_holding (wpAny_ite_split (fun z=>nomatch (eq_of_beq z:Value.none=Value.ref b)) fun _=>?_)
 have z:=h prog w E (fun a s'=>wpAny (model prog w) A (truthOfDropped a) Q E s') (wpAny_truthy_bool hq)
 exact wpAny_bind z
theorem pH {A:Around} {s:Shared} {b:Addr} {k:Bool} (h:SeqAt.RcAt A s (.ref b) .none k):SeqAt.EqAt A s (.ref b) .none k:=fun prog w E Q hq=>by
 unfold eqBool
 refine wpAny_holding (wpAny_ite_split (fun z=>nomatch (eq_of_beq z:Value.ref b=Value.none)) fun _=>?_)
 have z:=h prog w E (fun a s'=>wpAny (model prog w) A (truthOfDropped a) Q E s') (wpAny_truthy_bool hq)
 exact wpAny_bind z
section
variable {X:Cx} {pins:List (Addr×Obj)} {σ:L2.St} {H:Hp} {s:Shared}
theorem jW (I:L2.Inv X pins σ H s):∀ (n:Nat) {v:V} {a b:D} {c:Bool},Rep X.K H v a->Rep X.K H v b->eqN n a b=some c->c=true
 | 0,v,a,b,c,ra,rb,h=>by
  unfold eqN at h
  split at h
  . rename_i hf
    cases h
    rw [Bool.and_eq_true] at hf
    have e1:=(ra.flat hf.1).2
    have e2:=(rb.flat hf.2).2
    rw [<- lm e1 e2]
    cases ra <;> first | rfl | (simp [eqV];done) | exact absurd hf.1 Bool.false_ne_true
  . cases h
 | n+1,v,a,b,c,ra,rb,h=>by
  have many:∀ {vs:List V} {as bs:List D},Reps X.K H vs as->Reps X.K H vs bs->∀ {c:Bool},eqL (eqN n) as bs=some c->c=true:=by
   intro vs
   induction vs with
   | nil=>intro as bs r1 r2 c h;cases r1;cases r2;cases h;rfl
   | cons v vs ih =>
    intro as bs r1 r2 c h
    cases r1 with
    | cons p1 t1 =>
     cases r2 with
     | cons p2 t2 =>
      obtain ⟨u,e1,h⟩:=Za.mp (show ((eqN n _ _).bind _)=some c from h)
      obtain ⟨w,e2,h⟩:=Za.mp h
      cases h
      rw [jW I n p1 p2 e1,ih t1 t2 e2]
      rfl
  have flatC:∀ {a b:D},Rep X.K H v a->Rep X.K H v b->(if cu a && cu b then some (eqF a b) else none)=some c->c=true:=fun {a b} ra rb h=>by
   refine jW I 0 ra rb ?_
   unfold eqN
   exact h
  cases ra with
  | non=>cases rb;exact flatC .non .non h
  | bl x=>cases rb;exact flatC (.bl x) (.bl x) h
  | int x=>cases rb;exact flatC (.int x) (.int x) h
  | str x=>cases rb;exact flatC (.str x) (.str x) h
  | ty x=>cases rb;exact flatC (.ty x) (.ty x) h
  | @tup p vs as hp rp =>
   cases rb with
   | @tup _ ws bs hq rq =>
    have e:=I.tuple_inj hp hq
    subst e
    exact many rp rq h
   | lst _ _=>cases h
   | seq _ _=>cases h
   | dct _=>cases h
   | exc _=>cases h
   | cls _=>cases h
   | ms _ _ _=>cases h
   | mf _ _ _=>cases h
   | md _ _ _=>cases h
  | @lst p vs as hp rp =>
   cases rb with
   | @lst _ ws bs hq rq =>
    have e:=I.list_inj (SqL.of (K:=X.K) hp) (SqL.of hq)
    subst e
    exact many rp rq h
   | @seq _ ws bs hq rq =>
    have e:=I.list_inj (SqL.of hp) hq
    subst e
    exact many rp rq h
   | tup _ _=>cases h
   | dct _=>cases h
   | exc _=>cases h
   | cls _=>cases h
   | ms _ _ _=>cases h
   | mf _ _ _=>cases h
   | md _ _ _=>cases h
  | @seq p vs as hp rp =>
   cases rb with
   | @lst _ ws bs hq rq =>
    have e:=I.list_inj hp (SqL.of hq)
    subst e
    exact many rp rq h
   | @seq _ ws bs hq rq =>
    have e:=I.list_inj hp hq
    subst e
    exact many rp rq h
   | tup _ _=>cases h
   | dct _=>cases h
   | exc _=>cases h
   | cls _=>cases h
   | ms _ _ _=>cases h
   | mf _ _ _=>cases h
   | md _ _ _=>cases h
  | dct h1=>cases rb <;> cases h
  | exc h1=>cases rb <;> cases h
  | cls C=>cases rb <;> cases h
  | ms=>cases rb <;> cases h
  | mf=>cases rb <;> cases h
  | md=>cases rb <;> cases h
theorem t7 (I:L2.Inv X pins σ H s):∀ (n:Nat) (A:Around),A.units+n < cLine->∀ {x y:V} {u v:Value} {a b:D} {c:Bool},RelV x u->RelV y v->Rep X.K H x a->Rep X.K H y b->eqN n a b=some c->SeqAt.RcAt A s u v c/\SeqAt.RcNeAt A s u v (!c)/\SeqAt.EqAt A s u v c
 | 0,A,hu,x,y,u,v,a,b,c,rx,ry,ra,rb,h=>by
  unfold eqN at h
  split at h
  . rename_i hf
    cases h
    rw [Bool.and_eq_true] at hf
    have z:=s8 (A:=A) (s:=s) rx ry ra rb hf.1 hf.2
    refine ⟨z.1,z.2,?_⟩
    rw [<- lm (ra.flat hf.1).2 (rb.flat hf.2).2]
    exact so rx ry (ra.flat hf.1).1 (rb.flat hf.2).1
  . cases h
 | n+1,A,hu,x,y,u,v,a,b,c,rx,ry,ra,rb,h=>by
  have hu0:A.units < cLine:=by omega
  have hu1:A.in1.units+n < cLine:=by show A.units+1+n < cLine;omega
  have items:∀ {vs ws:List V} {us zs:List Value} {as bs:List D} {c:Bool},Vals vs us->Vals ws zs->Reps X.K H vs as->Reps X.K H ws bs->eqL (eqN n) as bs=some c ->
   ∃ e:Nat->Bool,(∀ j (h1:j < us.toArray.size) (h2:j < zs.toArray.size),SeqAt.EqAt A.in1 s us.toArray[j] zs.toArray[j] (e j))/\∀ (j:Nat) (a b:D) (x:Bool),as[j]? = some a->bs[j]? = some b->eqN n a b=some x->e j=x:=by
   intro vs ws us zs as bs c r1 r2 q1 q2 h
   refine ⟨fun j=>((as[j]?).bind fun a=>(bs[j]?).bind fun b=>eqN n a b).getD true,fun j h1 h2=>?_,fun j a b x e1 e2 e3=>by dsimp only;rw [e1,e2,Zc,Zc,e3];rfl⟩
   have l1:=r1.length
   have l2:=r2.length
   rw [List.size_toArray] at h1 h2
   have k1:j < vs.length:=by omega
   have k2:j < ws.length:=by omega
   obtain ⟨u',e1,p1⟩:=r1.get (i:=j) (x:=vs[j]) (by simp [k1])
   obtain ⟨z',e2,p2⟩:=r2.get (i:=j) (x:=ws[j]) (by simp [k2])
   obtain ⟨a',e3,p3⟩:=q1.getV (i:=j) (v:=vs[j]) (by simp [k1])
   obtain ⟨b',e4,p4⟩:=q2.getV (i:=j) (v:=ws[j]) (by simp [k2])
   have w1:us.toArray[j]=u':=by
    have z:us[j]? = some us[j]:=by simp [h1]
    rw [z] at e1;simpa using e1
   have w2:zs.toArray[j]=z':=by
    have z:zs[j]? = some zs[j]:=by simp [h2]
    rw [z] at e2;simpa using e2
   obtain ⟨x',ex⟩:=ua h j a' b' e3 e4
   dsimp only
   rw [w1,w2,e3,e4,Zc,Zc,ex]
   exact (t7 I n A.in1 hu1 p1 p2 p3 p4 ex).2.2
  have refs:∀ {p q:Addr},u=.ref p->v=.ref q->SeqAt.RcAt A s (.ref p) (.ref q) c->SeqAt.RcNeAt A s (.ref p) (.ref q) (!c)->SeqAt.RcAt A s u v c/\SeqAt.RcNeAt A s u v (!c)/\SeqAt.EqAt A s u v c:=fun {p q} e1 e2 z1 z2=>by
   subst e1 e2
   refine ⟨z1,z2,?_⟩
   by_cases hpq:p=q
   . subst hpq
     have exy:x=y:=rx.inj ry
     subst exy
     rw [jW I (n+1) ra rb h]
     exact SeqAt.EqAt.same _
   . exact SeqAt.EqAt.of_refs hpq z1
  have lists:∀ {p q:Addr} {vs ws:List V} {as bs:List D},u=.ref p->v=.ref q->SqL X.K H p vs->SqL X.K H q ws->Reps X.K H vs as->Reps X.K H ws bs->eqL (eqN n) as bs=some c->SeqAt.RcAt A s u v c/\SeqAt.RcNeAt A s u v (!c)/\SeqAt.EqAt A s u v c:=fun {p q vs ws as bs} e1 e2 hp hq rp rq hc=>by
   obtain ⟨its,r1,t1,_⟩:=I.list hp
   obtain ⟨jts,r2,t2,_⟩:=I.list hq
   have l1:its.toArray.size=as.length:=by rw [List.size_toArray,<- r1.length,rp.length]
   have l2:jts.toArray.size=bs.length:=by rw [List.size_toArray,<- r2.length,rq.length]
   obtain ⟨e,he,hx⟩:=items r1 r2 rp rq hc
   by_cases hl:its.toArray.size=jts.toArray.size
   . have z:=pG hc hx
     have hb:(as.length == bs.length)=true:=by rw [beq_iff_eq];omega
     have hm:min as.length bs.length=its.toArray.size:=by omega
     rw [hb,hm,Bool.and_true] at z
     have z1:=SeqAt.RcAt.lists (A:=A) (s:=s) t1.isList t2.isList hl hu0 he
     have z2:=SeqAt.RcNeAt.lists (A:=A) (s:=s) t1.isList t2.isList hl hu0 he
     rw [z] at z1 z2
     exact refs e1 e2 z1 z2
   . have z1:=SeqAt.RcAt.lists_lengths (A:=A) (s:=s) t1.isList t2.isList (by simpa [bne_iff_ne] using hl) hu0
     have z2:=SeqAt.RcNeAt.lists_lengths (A:=A) (s:=s) t1.isList t2.isList (by simpa [bne_iff_ne] using hl) hu0
     have z:=t9 hc (by omega)
     subst z
     exact refs e1 e2 z1 z2
  have flatC:(if cu a && cu b then some (eqF a b) else none)=some c->SeqAt.RcAt A s u v c/\SeqAt.RcNeAt A s u v (!c)/\SeqAt.EqAt A s u v c:=fun h=>t7 I 0 A (by omega) rx ry ra rb (by unfold eqN;exact h)
  cases ra with
  | non =>
   cases (show u=Value.none from rx)
   cases rb with
   | @tup q ws bs hq rq =>
    cases h
    cases (show v=Value.ref q from ry)
    obtain ⟨its,r1,t1,_⟩:=I.tuple hq
    exact ⟨SeqAt.RcAt.none_tuple t1 hu0,SeqAt.RcNeAt.none_tuple t1 hu0,pI (SeqAt.RcAt.none_tuple t1 hu0)⟩
   | @lst q ws bs hq rq =>
    cases h
    cases (show v=Value.ref q from ry)
    obtain ⟨its,r1,t1,_⟩:=I.list (SqL.of (K:=X.K) hq)
    exact ⟨SeqAt.RcAt.none_list t1.isList hu0,SeqAt.RcNeAt.none_list t1.isList hu0,pI (SeqAt.RcAt.none_list t1.isList hu0)⟩
   | @seq q ws bs hq rq =>
    cases h
    cases (show v=Value.ref q from ry)
    obtain ⟨its,r1,t1,_⟩:=I.list hq
    exact ⟨SeqAt.RcAt.none_list t1.isList hu0,SeqAt.RcNeAt.none_list t1.isList hu0,pI (SeqAt.RcAt.none_list t1.isList hu0)⟩
   | _=>exact flatC h
  | @tup p vs as hp rp =>
   cases rb with
   | @tup q ws bs hq rq =>
    obtain ⟨its,r1,t1,_⟩:=I.tuple hp
    obtain ⟨jts,r2,t2,_⟩:=I.tuple hq
    have l1:its.toArray.size=as.length:=by rw [List.size_toArray,<- r1.length,rp.length]
    have l2:jts.toArray.size=bs.length:=by rw [List.size_toArray,<- r2.length,rq.length]
    have hc:eqL (eqN n) as bs=some c:=h
    obtain ⟨e,he,hx⟩:=items r1 r2 rp rq hc
    have z:=pG hc hx
    have z1:=SeqAt.RcAt.tuples (A:=A) (s:=s) t1 t2 hu0 he
    have z2:=SeqAt.RcNeAt.tuples (A:=A) (s:=s) t1 t2 hu0 he
    rw [l1,l2,z] at z1 z2
    exact refs (show u=Value.ref p from rx) (show v=Value.ref q from ry) z1 z2
   | non =>
    cases h
    cases (show u=Value.ref p from rx)
    cases (show v=Value.none from ry)
    obtain ⟨its,r1,t1,_⟩:=I.tuple hp
    exact ⟨SeqAt.RcAt.tuple_none t1 hu0,SeqAt.RcNeAt.tuple_none t1 hu0,pH (SeqAt.RcAt.tuple_none t1 hu0)⟩
   | _=>cases h
  | @lst p vs as hp rp =>
   cases rb with
   | @lst q ws bs hq rq=>exact lists (show u=Value.ref p from rx) (show v=Value.ref q from ry) (SqL.of hp) (SqL.of hq) rp rq h
   | @seq q ws bs hq rq=>exact lists (show u=Value.ref p from rx) (show v=Value.ref q from ry) (SqL.of hp) hq rp rq h
   | non =>
    cases h
    cases (show u=Value.ref p from rx)
    cases (show v=Value.none from ry)
    obtain ⟨its,r1,t1,_⟩:=I.list (SqL.of (K:=X.K) hp)
    exact ⟨SeqAt.RcAt.list_none t1.isList hu0,SeqAt.RcNeAt.list_none t1.isList hu0,pH (SeqAt.RcAt.list_none t1.isList hu0)⟩
   | _=>cases h
  | @seq p vs as hp rp =>
   cases rb with
   | @lst q ws bs hq rq=>exact lists (show u=Value.ref p from rx) (show v=Value.ref q from ry) hp (SqL.of hq) rp rq h
   | @seq q ws bs hq rq=>exact lists (show u=Value.ref p from rx) (show v=Value.ref q from ry) hp hq rp rq h
   | non =>
    cases h
    cases (show u=Value.ref p from rx)
    cases (show v=Value.none from ry)
    obtain ⟨its,r1,t1,_⟩:=I.list hp
    exact ⟨SeqAt.RcAt.list_none t1.isList hu0,SeqAt.RcNeAt.list_none t1.isList hu0,pH (SeqAt.RcAt.list_none t1.isList hu0)⟩
   | _=>cases h
  | bl x=>cases rb <;> first | exact flatC h | cases h
  | int x=>cases rb <;> first | exact flatC h | cases h
  | str x=>cases rb <;> first | exact flatC h | cases h
  | ty x=>cases rb <;> first | exact flatC h | cases h
  | dct h1=>cases rb <;> first | exact flatC h | cases h
  | exc h1=>cases rb <;> first | exact flatC h | cases h
  | cls C=>cases rb <;> first | exact flatC h | cases h
  | ms=>cases rb <;> first | exact flatC h | cases h
  | mf=>cases rb <;> first | exact flatC h | cases h
  | md=>cases rb <;> first | exact flatC h | cases h
end
def du (a b:D):Option D:=(eqN 6 a b).map D.bl
def wS (a b:D):Option D:=(eqN 6 a b).map fun c=>D.bl (!c)
def Bi (K:PySem.W.Frag):R2:=fun x y H Q=>∃ a b c,Rep K H x a/\Rep K H y b/\eqN 6 a b=some c/\Q (.bl c) H
def Be (K:PySem.W.Frag):R2:=fun x y H Q=>∃ a b c,Rep K H x a/\Rep K H y b/\eqN 6 a b=some c/\Q (.bl (!c)) H
section
variable {X:Cx} {a b:Expr} {fa fb:FD} {pos:Pos}
theorem wk (hu:X.A.units+64 < cLine):OpR X (compareOp .Eq) (Bi X.K):=by
 intro pins s σ H x y v u Q I rx ry ⟨a,b,c,ra,rb,e,q⟩
 exact (t7 I 6 X.A (by omega) rx ry ra rb e).1 X.prog X.w _ _ ⟨.bl c,H,I,rfl,q⟩
theorem Aa (hu:X.A.units+64 < cLine):OpR X (compareOp .NotEq) (Be X.K):=by
 intro pins s σ H x y v u Q I rx ry ⟨a,b,c,ra,rb,e,q⟩
 exact (t7 I 6 X.A (by omega) rx ry ra rb e).2.1 X.prog X.w _ _ ⟨.bl (!c),H,I,rfl,q⟩
theorem vK {K:PySem.W.Frag}:R2D K (Bi K) du:=by
 intro x y H Q a b d ra rb e k
 unfold du at e
 obtain ⟨c,hc,e⟩:=Zb.mp e
 cases e
 exact ⟨a,b,c,ra,rb,hc,k _ H (Same.refl H) (.bl _)⟩
theorem zG {K:PySem.W.Frag}:R2D K (Be K) wS:=by
 intro x y H Q a b d ra rb e k
 unfold wS at e
 obtain ⟨c,hc,e⟩:=Zb.mp e
 cases e
 exact ⟨a,b,c,ra,rb,hc,k _ H (Same.refl H) (.bl _)⟩
theorem pb (hu:X.A.units+64 < cLine) (ha:PD X a fa) (hb:PD X b fb):PD X (.Compare a [.Eq] [b] pos) (f2 du fa fb):=pc (wk hu) vK ha hb (eX _)
theorem kX (hu:X.A.units+64 < cLine) (ha:PD X a fa) (hb:PD X b fb):PTD X (.Compare a [.Eq] [b] pos) (fT (f2 du fa fb)):=fG (wk hu) vK ha hb (eX _)
theorem xO (hu:X.A.units+64 < cLine) (ha:PD X a fa) (hb:PD X b fb):PTD X (.Compare a [.NotEq] [b] pos) (fT (f2 wS fa fb)):=fG (Aa hu) zG ha hb (eX _)
end
end Dl
namespace Dl
open PySem PySem.Spec PyProof.Rows L2
section
open PySem.SeqAt
open PySem.AutoSeq1 (wpAny_loadPart')
open PySem.MeetsSeq PySem.MeetsSeq2 PySem.MeetsSeq3
end
section
variable {X:Cx} {a b:Expr} {fa fb:FD} {pos:Pos}
end
theorem pvi {X:Cx} (i:Nat) {x:Str} {pos:Pos} (hN:X.N[i]? = some x:=by rfl) (hv:Vis X.env.scope x:=by first | exact Or.inl rfl | exact Or.inr (Or.inl rfl) | exact Or.inr (Or.inr rfl)) (hd:(x == ("__debug__":Str))=false:=by decide)
 (hcd:(x == ("__classdict__":Str))=false:=by decide):PE X (.Name x pos) (oB i):=oZ hN hv hd hcd
end Dl
namespace Dl
open PySem PySem.Spec PyProof.Rows L2
section
variable {X:Cx} {pos:Pos} {r:Nat} {c e:Expr} {f:FD} {g:List D->Option (List D)} {rest:List Stmt}
end
end Dl
namespace Dl
open PySem PySem.Spec PyProof.Rows L2
theorem CompOk.nil {X:Cx} {scope:Scope} {x:Str} (clos:closureFor scope X.env=pure []:=by rfl) (nocell:∀ y∈scope.names,y.2 ≠ .cell:=by decide +kernel) (kind:scope.kind=.function:=by rfl)
 (names:∀ y∈scope.names,y.2=.local->scope.names.lookup y.1=some .local:=by decide +kernel) (hx:scope.names.lookup x=some .local:=by rfl) (hfr:∀ p∈scope.names,p.2 ≠ .free:=by decide +kernel):CompOk X scope [] x [x] [] where
 clos:=clos
 nocell:=nocell
 kind:=kind
 names:=names
 hx:=hx
 nd:=by simp
 h0:=rfl
 len:=rfl
 clx:=rfl
 cls:=fun y a h=>by cases h
 has:=fun y h=>by
  have key:∀ k,(k=NameKind.cell \/ k=NameKind.free)->(relabel scope X.env).names.lookup y=some k->False:=fun k hk h=>by
   have m:=PySem.mem_of_lookup h
   unfold relabel at m
   obtain ⟨⟨n,k'⟩,m1,m2⟩:=Zm.mp m
   dsimp only at m2
   refine hfr _ m1 ?_
   show k'=NameKind.free
   split at m2
   . rename_i hc
     rw [Bool.and_eq_true,Bool.and_eq_true] at hc
     exact beq_iff_eq.mp hc.1.1
   . have e:k'=k:=congrArg Prod.snd m2
     rcases hk with z1 | z1
     . exact absurd (e.trans z1) (nocell _ m1)
     . exact e.trans z1
  rcases h with h | h
  . exact (key _ (.inl rfl) h).elim
  . exact (key _ (.inr rfl) h).elim
 fr:=fun i y k h1 h2=>by simp at h2
theorem qU (i:Int):cu (.int i)=true:=rfl
theorem t4 (b:Bool):cu (.bl b)=true:=rfl
end Dl
namespace Dl
open PySem PySem.Spec PyProof.Rows L2
def oC:List Nat->TGs
 | []=>BR
 | i :: is=>zo (tV i) (oC is)
def oI:List Nat->List D->DS->DS
 | i :: is,d :: ds,δ=>oI is ds (δ.set i (some d))
 | _,_,δ=>δ
def tO (is:List Nat) (n:Nat):Bool:=is.all fun i=>decide (i < n)
theorem ql {K:PySem.W.Frag} {F H:Hp}:∀ {vs:List V} {ds:List D},Reps K H vs ds->bM ds=true->RepOs K F H vs ds []
 | _,_,.nil,_=>.nil
 | _,_,.cons r t,i=>by
  rw [bM,Bool.and_eq_true] at i
  exact .cons (.imm i.1 r) (ql t i.2) rfl
theorem RepO.parts {K:PySem.W.Frag} {F H:Hp} {v:V} {ds:List D} {A:List Addr} (r:RepO K F H v (.tup ds) A):∃ a vs,v=.ref a/\SqT K H a vs/\RepOs K F H vs ds A:=by
 cases r with
 | imm i h =>
  cases h with
  | tup h r=>exact ⟨_,_,rfl,h,ql r (by rw [Dl.imm] at i;exact i)⟩
 | tup h r=>exact ⟨_,_,rfl,h,r⟩
theorem RepOs.len {K:PySem.W.Frag} {F H:Hp}:∀ {vs:List V} {ds:List D} {A:List Addr},RepOs K F H vs ds A->vs.length=ds.length
 | _,_,_,.nil=>rfl
 | _,_,_,.cons _ t _=>by rw [List.length_cons,List.length_cons,RepOs.len t]
theorem qB {K:PySem.W.Frag} {F H:Hp}:∀ (is:List Nat) {vs:List V} {ds:List D} {A:List Addr} {σ:L2.St} {δ:DS} {As:Nat->List Addr} {Q:L2.St->Hp->Prop},RepOs K F H vs ds A->A.Nodup->(∀ j a,a∈As j->a ∉ A)->RepA K F H σ δ As->ds.length=is.length->tO is δ.length=true->(∀ σ',fW K F H σ' (oI is ds δ)->Q σ' H)->oC is vs σ H Q
 | [],_,_,_,σ,δ,As,Q,.nil,_,_,R,_,_,k=>⟨rfl,k σ ⟨As,R⟩⟩
 | [],_,_,_,_,_,_,_,.cons _ _ _,_,_,_,l,_,_=>by cases l
 | _ :: _,_,_,_,_,_,_,_,.nil,_,_,_,l,_,_=>by cases l
 | i :: is,_,_,_,σ,δ,As,Q,.cons (v:=v) (d:=d) (vs:=vs) (ds:=ds) (A:=A) (B:=B) r t e,nd,dj,R,l,hi,k=>by
  subst e
  have hi':(decide (i < δ.length) && tO is δ.length)=true:=hi
  rw [Bool.and_eq_true] at hi'
  have h1:i < δ.length:=of_decide_eq_true hi'.1
  rw [List.nodup_append] at nd
  have R1:=R.set i h1 r nd.1 fun j a _ m z=>dj j a m (List.mem_append_left _ z)
  refine ⟨v,vs,rfl,?_⟩
  show oC is vs (σ.set i (some v)) H Q
  refine qB is t nd.2.1 (fun j a m z=>?_) R1 (by simpa using l) (by rw [List.length_set];exact hi'.2) k
  unfold jO at m
  by_cases hj:j=i
  . rw [if_pos hj] at m
    exact nd.2.2 a m a z rfl
  . rw [if_neg hj] at m
    exact dj j a m (List.mem_append_right _ z)
def qh (is:List Nat) (fm:FM):SD:=fun δ=>(fm δ).bind fun p=>match p.1 with
 | .tup ds=>if ds.length=is.length/\tO is p.2.length=true then some (.nx (oI is ds p.2)) else none
 | _=>none
theorem pgN {X:Cx} (i:Nat) {x:Str} {pos:Pos} (hN:X.N.Nodup) (hi:X.N[i]? = some x:=by rfl) (hx:Loc X.env.scope x:=by first | exact Or.inl rfl | exact Or.inr rfl) (hf:X.fn x=true \/ X.env.scope.names.lookup x=some .local:=by first | exact .inl rfl | exact .inr rfl | assumption):PG X (.Name x pos) (tV i):=iH hN hi hx hf
theorem vZ {X:Cx} {e:Expr} {es:List Expr} {kt:Nat} {pt pos:Pos} {fm:FM} (is:List Nat) (he:PV X e fm) (hg:PG X (.Tuple es kt pt) (BQ X.K is.length (oC is)))
 (hs:swapsWithSole [.Tuple es kt pt] e pos.line X.env=pure false:=by rfl) (hw:swappedStores [.Tuple es kt pt] e X.env=pure none:=by rfl)
 (h1:(assignEach [.Tuple es kt pt] X.env).map (·.2)=[assign (.Tuple es kt pt) X.env]:=by rfl):PMD X (.Assign [.Tuple es kt pt] e pos) (qh is fm):=fU (rO he hg hs hw h1) fun E σ H ⟨F,δ,r,⟨As,R⟩,q,k⟩=>by
 unfold qh at q
 obtain ⟨⟨d,δ'⟩,ed,q⟩:=Za.mp q
 dsimp only at q
 split at q
 . rename_i ds
   split at q
   . rename_i hl
     cases q
     refine ⟨F,δ,As,_,δ',R,ed,fun v F' H' A As' ev R' r'=>?_⟩
     obtain ⟨a,vs,rfl,sq,ro⟩:=r'.parts
     exact ⟨a,vs,rfl,sq,ro.len.trans hl.1,qB is ro ev.nd ev.dj R' hl.1 hl.2 fun σ' R2=>k σ' F' H' ev.fs R2⟩
   . cases q
 . cases q
end Dl
namespace Dl
open PySem PySem.Spec PyProof.Rows L2
theorem yI {X:Cx} {scope:Scope} {y:Str} (nocell:∀ y∈scope.names,y.2 ≠ .cell) (h:(relabel scope X.env).names.lookup y=some .cell \/ (relabel scope X.env).names.lookup y=some .free):∃ p∈scope.names,p.2=.free/\p.1=y:=by
 have key:∀ k,(k=NameKind.cell \/ k=NameKind.free)->(relabel scope X.env).names.lookup y=some k->∃ p∈scope.names,p.2=.free/\p.1=y:=fun k hk h=>by
  have m:=PySem.mem_of_lookup h
  unfold relabel at m
  obtain ⟨⟨n,k'⟩,m1,m2⟩:=Zm.mp m
  dsimp only at m2
  refine ⟨_,m1,?_,?_⟩
  . show k'=NameKind.free
    split at m2
    . rename_i hc
      rw [Bool.and_eq_true,Bool.and_eq_true] at hc
      exact beq_iff_eq.mp hc.1.1
    . have e:k'=k:=congrArg Prod.snd m2
      rcases hk with z1 | z1
      . exact absurd (e.trans z1) (nocell _ m1)
      . exact e.trans z1
  . show n=y
    split at m2 <;> exact congrArg Prod.fst m2
 rcases h with h | h
 . exact key _ (.inl rfl) h
 . exact key _ (.inr rfl) h
end Dl
namespace Dl
open PySem PySem.Spec PyProof.Rows L2
end Dl
namespace Dl
open PySem PySem.Spec PyProof.Rows L2
def gl (i j:Int):Prop:=(Bd i/\Bd j) \/ L2.CMul i j
instance (i j:Int):Decidable (gl i j):=by unfold gl L2.CMul;exact inferInstance
theorem yb {X:Cx}:OpR X (binaryOp .Mult) (rI gl fun i j=>.int (i*j)):=opI fun _ _ _ _ _ _ _ hc q=>by
 rcases hc with hc | hc
 . exact mul_int q (.of_bits hc.1.bits hc.2.bits)
 . exact mul_int q hc.ok
theorem jE {X:Cx} {a b:Expr} {fa fb:FD} {pos:Pos} (ha:PD X a fa) (hb:PD X b fb):PD X (.BinOp a .Mult b pos) (f2 (gI gl fun i j=>.int (i*j)) fa fb):=lW yb (vL fun _ _ _=>.int _) ha hb
def yu:D->Option (List D)
 | .tup ds=>some ds
 | .lst ds=>some ds
 | .seq ds=>some ds
 | _=>none
def gIn (a b:D):Option D:=(yu b).bind fun ds=>if cu a && ds.all cu then some (.bl (ds.any fun y=>eqF y a)) else none
theorem iG {K:PySem.W.Frag} {H:Hp} {a:D} {x:V} (ha:toV a=some x):∀ {vs:List V} {ds:List D},Reps K H vs ds->ds.all cu=true->vs.all iW=true/\inV x vs=ds.any fun y=>eqF y a
 | _,_,.nil,_=>⟨rfl,rfl⟩
 | v :: vs,d :: ds,.cons r t,f=>by
  rw [List.all_cons,Bool.and_eq_true] at f
  obtain ⟨h1,h2⟩:=r.flat f.1
  obtain ⟨h3,h4⟩:=iG ha t f.2
  refine ⟨by rw [List.all_cons,h1,h3];rfl,?_⟩
  unfold inV at h4 ⊢
  rw [List.any_cons,List.any_cons,h4,lm h2 ha]
theorem Br {K:PySem.W.Frag}:R2D K (rIn K false) gIn:=by
 intro x y H Q a b d ra rb e k
 unfold gIn at e
 obtain ⟨ds,ed,e⟩:=Za.mp e
 split at e
 . rename_i hf
   rw [Bool.and_eq_true] at hf
   cases e
   obtain ⟨fx,tx⟩:=ra.flat hf.1
   cases rb with
   | @tup p vs _ hp rp =>
    cases ed
    obtain ⟨h1,h2⟩:=iG tx rp hf.2
    refine ⟨p,vs,rfl,.inr hp,fx,h1,?_⟩
    show Q (.bl (inV x vs)) H
    rw [h2]
    exact k _ H (Same.refl H) (.bl _)
   | @lst p vs _ hp rp =>
    cases ed
    obtain ⟨h1,h2⟩:=iG tx rp hf.2
    refine ⟨p,vs,rfl,.inl (SqL.of hp),fx,h1,?_⟩
    show Q (.bl (inV x vs)) H
    rw [h2]
    exact k _ H (Same.refl H) (.bl _)
   | @seq p vs _ hp rp =>
    cases ed
    obtain ⟨h1,h2⟩:=iG tx rp hf.2
    refine ⟨p,vs,rfl,.inl hp,fx,h1,?_⟩
    show Q (.bl (inV x vs)) H
    rw [h2]
    exact k _ H (Same.refl H) (.bl _)
   | _=>cases ed
 . cases e
theorem zO {X:Cx} {a b:Expr} {fa fb:FD} {pos:Pos} (ha:PD X a fa) (hb:PD X b fb) (hm:behindInMarks .In b=false:=by with_unfolding_all rfl):PTD X (.Compare a [.In] [b] pos) (fT (f2 gIn fa fb)):=fG uH Br ha hb hm
def gW:List D->Option (List Bool)
 | []=>some []
 | .bl b :: ds=>(gW ds).bind fun bs=>some (b :: bs)
 | _ :: _=>none
def AH:List D->Option (List D)
 | [.lst ds]=>some ds
 | [.seq ds]=>some ds
 | _=>none
def yC (as:List D):Option D:=(AH as).bind fun ds=>(gW ds).bind fun bs=>some (.bl (bs.any id))
theorem lM {K:PySem.W.Frag} {H:Hp}:∀ {vs:List V} {ds:List D} {bs:List Bool},Reps K H vs ds->gW ds=some bs->vs=bs.map V.bl
 | _,_,_,.nil,h=>by cases h;rfl
 | v :: vs,d :: ds,bs,.cons r t,h=>by
  cases d with
  | bl b =>
   obtain ⟨cs,h1,h2⟩:=Za.mp (show ((gW ds).bind fun bs=>some (b :: bs))=some bs from h)
   cases h2
   cases r
   rw [lM t h1]
   rfl
  | _=>cases h
theorem lu:∀ {bs:List Bool} {us:List Value},Vals (bs.map V.bl) us->LSm.BoolsAre us bs
 | [],_,.nil=>.nil
 | b :: bs,u :: us,.cons r t=>by
  have e:u=.bool b:=r
  subst e
  exact .cons b (lu t)
theorem xl {X:Cx} (hc:X.calm=true):iz X (.builtin "any") (fun xs H Q=>∃ p ys,∃ bs:List Bool,xs=[.ref p]/\SqL X.K H p ys/\ys=bs.map V.bl/\Q (.bl (bs.any id)) H):=by
 intro pins s σ H xs us Q I r h
 obtain ⟨p,ys,bs,rfl,hq,rfl,q⟩:=h
 obtain ⟨u,rfl,rx⟩:=lx r
 cases rx
 obtain ⟨its,r',pl,hz⟩:=I.list hq
 have hb:=lu r'
 have hlt:p < s.heap.objs.size:=by obtain ⟨_,e,_⟩:=pl.isList;exact Heap.lt_size e
 refine call_any_walk (wpAny_pyIter_list pl.isList ?_)
 refine ⟨s.heap.objs.size,[s.heap.objs.size,p],[s.heap.objs.size],its.toArray.size,_,_,fun i=>(bs[i]?).getD false,rfl,Walks.list (A:=X.A.in1) (I.ok.hd hc) _ p (Nat.ne_of_lt hlt) its.toArray,
  ⟨⟨_,Heap.get?_push_size _ rfl,rfl,rfl⟩,pl.isList.push _⟩,fun i v s' Q' E' hP hQ=>?_,fun h' tk hk=>?_⟩
 . obtain ⟨b,e,rfl⟩:=hb.get i v (by simpa using hP)
   simp only [e,Option.getD_some] at hQ
   exact wpAny_truthy_bool hQ
 . have e:((List.range its.toArray.size).any fun i=>(bs[i]?).getD false)=bs.any id:=by
    rw [List.size_toArray,hb.length];exact LSm.range_any bs
   rw [e]
   exact ⟨.bl _,H,I.kept (t':=tk) (LSm.kept_iter hk),rfl,q⟩
theorem xp {K:PySem.W.Frag} {H:Hp} {xs:List V} {as ds:List D} (r:Reps K H xs as) (e:AH as=some ds):∃ p ys,xs=[.ref p]/\SqL K H p ys/\Reps K H ys ds:=by
 unfold AH at e
 split at e
 . cases e
   obtain ⟨x,rfl,rx⟩:=fM r
   cases rx with
   | @lst p vs _ hp rp=>exact ⟨p,vs,rfl,SqL.of hp,rp⟩
 . cases e
   obtain ⟨x,rfl,rx⟩:=fM r
   cases rx with
   | @seq p vs _ hp rp=>exact ⟨p,vs,rfl,hp,rp⟩
 . cases e
theorem AC {K:PySem.W.Frag}:ku K (fun xs H Q=>∃ p ys,∃ bs:List Bool,xs=[.ref p]/\SqL K H p ys/\ys=bs.map V.bl/\Q (.bl (bs.any id)) H) yC:=by
 intro xs H Q as d r e k
 unfold yC at e
 obtain ⟨ds,e1,e⟩:=Za.mp e
 obtain ⟨bs,e2,e⟩:=Za.mp e
 cases e
 obtain ⟨p,ys,h1,h2,h3⟩:=xp r e1
 exact ⟨p,ys,bs,h1,h2,lM h3 e2,k _ H (Same.refl H) (.bl _)⟩
theorem vg:bootBuiltins "any" = some (.builtin "any"):=by decide +kernel
end Dl
namespace Dl
open PySem PySem.Spec PyProof.Rows L2
end Dl
namespace Dl
open PySem PySem.Spec PyProof.Rows L2
def Bl (K:PySem.W.Frag):R2:=fun x y H Q=>∃ l b xs zs,x=.ref l/\y=.ref b/\SqL K H l xs/\SqL K H b zs/\xs.length+zs.length<=sizeLine/\∀ p,H p=none->Q (.ref p) (upd H p (.lst (xs++zs)))
theorem yd {X:Cx}:OpR X (binaryOp .Add) (Bl X.K):=by
 intro pins s σ H x y v u Q I rx ry h
 obtain ⟨l,b,xs,zs,rfl,rfl,h1,h2,hz,q⟩:=h
 cases rx
 cases ry
 obtain ⟨vs,r1,p1,_⟩:=I.list h1
 obtain ⟨ws,r2,p2,_⟩:=I.list h2
 obtain ⟨⟨k1,g1,a1,t1⟩,n1,o1,c1,_,i1⟩:=p1
 obtain ⟨⟨k2,g2,a2,t2⟩,n2,o2,c2,_,i2⟩:=p2
 simp only at c1 i1 c2 i2
 subst c1 i1 c2 i2
 have hl:=r1.length
 have hl2:=r2.length
 have ea:vs.toArray++ws.toArray=(vs++ws).toArray:=by simp
 refine concat_meets ⟨_,o1,rfl⟩ ⟨_,o2,rfl⟩ noFill_list_add seq_list_add PySem.F.slot_list_add
  PySem.F.entry_list_add (PySem.F.args_list_add_2 _ _)
  (list_addW l b vs.toArray ws.toArray n1 n2 g1 g2 t1 t2 (by rw [List.size_toArray,List.size_toArray];omega)) ⟨o1,o2,?_⟩
 rw [ea]
 exact ⟨.ref _,_,I.lnew (t':=s.toks) (r1.append r2) (by rw [Zh];omega),rfl,q _ I.fresh⟩
def tY (a b:D):Option D:=(asL a).bind fun xs=>(asL b).bind fun ys=>if xs.length+ys.length<=1000 then some (.lst (xs++ys)) else none
def gu (fa fb:FD):FM:=fun δ=>(f2 tY fa fb δ).bind fun d=>gN d δ
theorem ui {K:PySem.W.Frag} {H:Hp} {v:V} {d:D} {xs:List D} (r:Rep K H v d) (e:asL d=some xs):∃ p vs,v=.ref p/\SqL K H p vs/\Reps K H vs xs:=by
 cases r with
 | @lst p vs es hp rp=>cases e;exact ⟨p,vs,rfl,SqL.of hp,rp⟩
 | @seq p vs es hp rp=>cases e;exact ⟨p,vs,rfl,hp,rp⟩
 | _=>cases e
theorem kW {X:Cx} {a b:Expr} {fa fb:FD} {pos:Pos} (ha:PD X a fa) (hb:PD X b fb):PV X (.BinOp a .Add b pos) (gu fa fb):=imp (zb yd ha hb) fun σ H Q ⟨F,δ,As,d,δ',RA,q,k⟩=>by
 unfold gu at q
 obtain ⟨d0,e0,q⟩:=Za.mp q
 obtain ⟨ds,rfl,rfl,rfl,hi⟩:=i7 q
 unfold f2 at e0
 obtain ⟨x,ex,e0⟩:=Za.mp e0
 obtain ⟨y,ey,e0⟩:=Za.mp e0
 refine ⟨_,x,RA.toS,ex,fun v H1 s1 r1=>⟨_,y,RA.toS.mono s1,ey,fun w H2 s2 r2=>?_⟩⟩
 unfold tY at e0
 obtain ⟨xs,e1,e0⟩:=Za.mp e0
 obtain ⟨ys,e2,e0⟩:=Za.mp e0
 split at e0
 . rename_i hz
   cases e0
   obtain ⟨p,vs,rfl,h1,h2⟩:=ui (r1.mono s2) e1
   obtain ⟨q,ws,rfl,h3,h4⟩:=ui r2 e2
   exact ⟨p,q,vs,ws,rfl,rfl,h1,h3,by rw [h2.length,h4.length];exact de hz,fun l hl=>l7 RA (s1.trans s2) (h2.append h4) hi hl k⟩
 . cases e0
end Dl
namespace Dl
open PySem PySem.Spec PyProof.Rows L2
theorem RepA.side {K:PySem.W.Frag} {F H:Hp} {σ:L2.St} {δ:DS} {As:Nat->List Addr} (R:RepA K F H σ δ As) {a:Addr} {vs ws:List V} (h:H a=some (.lst vs)) (n:F a=none) (dj:∀ i,a ∉ As i):RepA K F (upd H a (.lst ws)) σ δ As:=by
 have ne:∀ x,x ≠ a->upd H a (.lst ws) x=H x:=fun x hx=>ax hx
 refine ⟨fun x u e=>?_,R.len,fun i d q=>?_,R.non,R.nd,R.dj⟩
 . have hx:x ≠ a:=fun z=>by rw [z,n] at e;cases e
   rw [ne x hx]
   exact R.fz x u e
 . obtain ⟨v,h1,h2⟩:=R.val i d q
   refine ⟨v,h1,h2.frame (fun x u e k=>?_) fun x m=>ne x fun z=>dj i (z ▸ m)⟩
   have hx:x ≠ a:=fun z=>by rw [z,h] at e;cases e;exact nomatch (show true=false from k)
   rw [ne x hx]
   exact e
end Dl
namespace Dl
open PySem PySem.Spec PyProof.Rows L2
structure CompG (X:Cx) (scope:Scope) (cl:List (Str×Addr)) (T N:List Str) (js:List Nat):Prop where
 clos:closureFor scope X.env=pure cl
 nocell:∀ y∈scope.names,y.2 ≠ .cell
 kind:scope.kind=.function
 names:∀ y∈scope.names,y.2=.local->scope.names.lookup y.1=some .local
 nd:N.Nodup
 len:N.length=T.length+js.length
 clx:∀ y,T.contains y=true->cl.lookup y=none
 cls:∀ y c,cl.lookup y=some c->X.env.cells.lookup y=some c
 has:∀ y,((relabel scope X.env).names.lookup y=some .cell \/ (relabel scope X.env).names.lookup y=some .free)->∃ c,cl.lookup y=some c
 fr:∀ i y j,N[T.length+i]? = some y->js[i]? = some j->X.N[j]? = some y/\X.env.scope.names.lookup y=some .cell/\(relabel scope X.env).names.lookup y=some .cell/\∀ c,X.env.cells.lookup y=some c->cl.lookup y=some c
abbrev cJ (X:Cx) (scope:Scope) (cl:List (Str×Addr)) (T N:List Str) (C:Addr) (s₂:Shared) (H₂:Hp) (fp:List Addr) (pn:List (Addr×Obj)):Cx :=
 { X with env:=compEnvC scope cl C X.env,N:=N,s₀:=s₂,H₀:=H₂,outer:=X.stack,stack:=X.stack,ex:=fp,fn:=fun y=>T.contains y,calm:=true,pn:=pn,xe:=fun _ _=>False }
theorem i9 {y:Str}:∀ {cl:List (Str×Addr)},y∈cl.map (·.1)->∃ c,cl.lookup y=some c
 | [],h=>by cases h
 | (z,c) :: cl,h=>by
  by_cases hy:y=z
  . subst hy
    exact ⟨c,by simp⟩
  . have q:(y == z)=false:=beq_eq_false_iff_ne.mpr hy
    rw [List.lookup_cons,q]
    refine i9 ?_
    rcases Zo.mp h with e | e
    . exact absurd e hy
    . exact e
theorem CompG.of {X:Cx} {scope:Scope} {cl:List (Str×Addr)} {T Z Y:List Str} {js:List Nat} (clos:closureFor scope X.env=pure cl:=by rfl) (hY:cl.map (·.1)=Y:=by rfl) (nocell:∀ y∈scope.names,y.2 ≠ .cell:=by decide +kernel) (kind:scope.kind=.function:=by rfl)
 (names:∀ y∈scope.names,y.2=.local->scope.names.lookup y.1=some .local:=by decide +kernel) (nd:(T++Z).Nodup:=by decide +kernel) (len:Z.length=js.length:=by rfl) (dis:∀ y∈T,y ∉ Y:=by decide +kernel)
 (hcl:∀ p∈cl,X.env.cells.lookup p.1=some p.2) (hfr:∀ p∈scope.names,p.2=.free->p.1∈Y:=by decide +kernel) (hZ:∀ y∈Z,y∈Y:=by decide +kernel)
 (hN:∀ (i:Nat) y j,Z[i]? = some y->js[i]? = some j->X.N[j]? = some y/\X.env.scope.names.lookup y=some .cell/\(relabel scope X.env).names.lookup y=some .cell):CompG X scope cl T (T++Z) js where
 clos:=clos
 nocell:=nocell
 kind:=kind
 names:=names
 nd:=nd
 len:=by rw [Zh,len]
 clx:=fun y hy=>by
  cases q:cl.lookup y with
  | none=>rfl
  | some c =>
   have m:y∈Y:=by
    rw [<- hY]
    exact Zm.mpr ⟨_,PySem.mem_of_lookup q,rfl⟩
   exact absurd m (dis y (List.contains_iff_mem.mp hy))
 cls:=fun y c h=>hcl _ (PySem.mem_of_lookup h)
 has:=fun y h=>by
  obtain ⟨p,m,f,rfl⟩:=yI nocell h
  exact i9 (by rw [hY];exact hfr p m f)
 fr:=fun i y j h1 h2=>by
  rw [List.getElem?_append_right (Nat.le_add_right _ _),Nat.add_sub_cancel_left] at h1
  obtain ⟨a,b,c⟩:=hN i y j h1 h2
  refine ⟨a,b,c,fun e he=>?_⟩
  obtain ⟨e',he'⟩:=i9 (cl:=cl) (y:=y) (by rw [hY];exact hZ y (List.mem_of_getElem? h1))
  have:=hcl _ (PySem.mem_of_lookup he')
  dsimp only at this
  rw [he] at this
  cases this
  exact he'
def AK (X:Cx) (ifs:List Expr) (f:FT):Prop:=∀ (pins:List (Addr×Obj)) (s:Shared) (σ:L2.St) (H:Hp) (Q:Bool->Hp->Prop),L2.Inv X pins σ H s->upT X.K f σ H Q ->
 wpAny (model X.prog X.w) X.A (forIn ifs true fun c r=>if r=true then do let ok <- isTrue c X.env (eval c X.env);pure (ForInStep.yield ok) else pure (ForInStep.yield r)) (TP X pins σ Q) X.xe s
theorem tF {X:Cx} {c:Expr} {f:FT} (h:PTD X c f):AK X [c] f:=fun pins s σ H Q I q=>wpAny_tests_one (h pins s σ H Q I q)
def yV (δ δ':DS):Prop:=δ'.length=δ.length/\∀ (i:Nat) d,δ[i]? = some (some d)->δ'[i]? = some (some d)
theorem RepS.weak {K:PySem.W.Frag} {H:Hp} {σ:L2.St} {δ δ':DS} (R:RepS K H σ δ') (w:yV δ δ'):RepS K H σ δ:=⟨R.len.trans w.1,fun i d q=>R.val i d (w.2 i d q)⟩
def eW (n:Nat) (δ:DS):DS:=List.replicate n none++δ
theorem nC:∀ (is:List Nat) (ds:List D) {n:Nat} {δ0 δ:DS},(∀ i∈is,i < n)->yV (eW n δ0) δ->yV (eW n δ0) (oI is ds δ)
 | [],_,_,_,_,_,k=>k
 | _ :: _,[],_,_,_,_,k=>k
 | i :: is,d :: ds,n,δ0,δ,hi,k=>nC is ds (fun j m=>hi j (Zk _ m)) ⟨by rw [List.length_set];exact k.1,fun j e q=>by
  have hj:n<=j:=Nat.le_of_not_lt fun hlt=>by
   unfold eW at q
   rw [List.getElem?_append_left (by simpa using hlt),List.getElem?_replicate,if_pos hlt] at q
   cases q
  have:=hi i Zj
  rw [List.getElem?_set_ne (by omega)]
  exact k.2 j e q⟩
def xt (n:Nat) (g:D->DS->Option DS):Prop:=∀ d δ0 δ1,g d (eW n δ0)=some δ1->yV (eW n δ0) δ1
theorem og {n:Nat} (i:Nat) (h:i < n):xt n (jL i):=fun d δ0 δ1 e=>by
 cases e
 exact nC [i] [d] (fun j m=>by simp at m;subst m;exact h) ⟨rfl,fun _ _ q=>q⟩
def gM (f:D->Option (Option D)):List D->Option (List D)
 | []=>some []
 | d :: ds=>(f d).bind fun o=>(gM f ds).bind fun xs=>some (o.toList++xs)
theorem qF {f:D->Option (Option D)}:∀ {ds es:List D} {xs ys:List D},gM f ds=some xs->gM f es=some ys->gM f (ds++es)=some (xs++ys)
 | [],es,xs,ys,h,g=>by cases h;exact g
 | d :: ds,es,xs,ys,h,g=>by
  obtain ⟨o,eo,h⟩:=Za.mp (show ((f d).bind _)=some xs from h)
  obtain ⟨zs,ez,h⟩:=Za.mp h
  cases h
  show ((f d).bind _)=_
  rw [eo]
  show ((gM f (ds++es)).bind _)=_
  rw [qF ez g,List.append_assoc]
  rfl
theorem nS {f:D->Option (Option D)}:∀ {ds xs:List D},gM f ds=some xs->∀ i,∃ ys,gM f (ds.take i)=some ys/\ys.length<=xs.length
 | [],xs,h,i=>⟨[],by simp [gM],Nat.zero_le _⟩
 | d :: ds,xs,h,0=>⟨[],rfl,Nat.zero_le _⟩
 | d :: ds,xs,h,i+1=>by
  obtain ⟨o,eo,h⟩:=Za.mp (show ((f d).bind _)=some xs from h)
  obtain ⟨zs,ez,h⟩:=Za.mp h
  cases h
  obtain ⟨ys,e,l⟩:=nS ez i
  refine ⟨o.toList++ys,?_,by simp;exact l⟩
  show ((f d).bind _)=_
  rw [eo]
  show ((gM f (ds.take i)).bind _)=_
  rw [e]
  rfl
theorem tJ {f:D->Option (Option D)}:∀ {ds xs:List D},gM f ds=some xs->∀ (i:Nat) d,ds[i]? = some d->∃ o,f d=some o
 | [],_,_,i,d,e=>by simp at e
 | d :: ds,xs,h,0,d',e=>by
  obtain ⟨o,eo,h⟩:=Za.mp (show ((f d).bind _)=some xs from h)
  simp at e
  subst e
  exact ⟨o,eo⟩
 | d :: ds,xs,h,i+1,d',e=>by
  obtain ⟨o,eo,h⟩:=Za.mp (show ((f d).bind _)=some xs from h)
  obtain ⟨zs,ez,h⟩:=Za.mp h
  exact tJ ez i d' (by simpa using e)
def fI (n:Nat) (js:List Nat) (g:D->DS->Option DS) (fc:FT) (felt:FM) (δ:DS) (d:D):Option (Option D):=(g d (eW n (bv js δ))).bind fun δ1=>(fc δ1).bind fun b=>if b then (ownOf felt (shO δ1)).map some else some none
def lA (src:FA) (n:Nat) (js:List Nat) (g:D->DS->Option DS) (fc:FT) (felt:FM):FM:=fun δ=>(src δ).bind fun ds=>(gM (fI n js g fc felt δ) ds).bind fun xs=>if xs.length<=1000 then some (.lst xs,δ) else none
theorem mT {prog:Program} {w:World} {A:Around} {R:Result->Shared->Prop} {s:Shared} {elt target iter:Expr} {ifs:List Expr} {scope:Scope} {pos:Pos} {it acc:Value} {env:Env} (J:Nat->Shared->Prop)
 (turn:∀ n s,J n s->wpAny (model prog w) A (pyNext it) (fun r s₁=>match r with
  | none=>R (.ok .next) s₁
  | some v=>wpAny (model prog w) A (letOwnedTupleGo target it v) (fun _ s₂=>wpAny (model prog w) A (assign target env v) (fun _ s₃ =>
   wpAny (model prog w) A (forIn ifs true fun c r=>if r=true then do let ok <- isTrue c env (eval c env);pure (ForInStep.yield ok) else pure (ForInStep.yield r)) (fun ok sT =>
   if ok=true then wpAny (model prog w) A (eval elt env) (fun y s₄ =>
   wpAny (model prog w) A (call (.builtin "list.append") [acc,y]) (fun _ s₅=>∃ m,m < n/\J m s₅) (fun _ _=>False) s₄) (fun _ _=>False) sT else ∃ m,m < n/\J m sT) (fun _ _=>False) s₃) (fun _ _=>False) s₂) (fun _ _=>False) s₁) (fun _ _=>False) s)
 (n:Nat) (h:J n s):codeAny (model prog w) A (.compLoop (.ListComp elt [⟨target,iter,ifs,0⟩] scope pos) 0 it acc env) R s:=by
 refine codeAny_loop rfl J (fun n s j=>wpAny_noted (m:=compTurn (.ListComp elt [⟨target,iter,ifs,0⟩] scope pos) 0 it acc env) (compTurn_list elt target iter ifs scope pos it acc env▸wpAny_bind (wpAny_standAt (bindF (turn n s j) fun r _ q=>?_)))) n h
 cases r with
 | none=>exact wpAny_pure q
 | some v=>
  exact bindF q fun _ _ q=>bindF q fun _ _ q=>bindF q fun b _ q=>by
   cases b with
   | false=>exact wpAny_pure ⟨rfl,q⟩
   | true=>exact wpAny_bind (bindF q fun _ _ q=>bindF q fun _ _ q=>wpAny_pure (wpAny_pure ⟨rfl,q⟩))
section
variable {X:Cx} {pins:List (Addr×Obj)} {σ:L2.St} {H₂:Hp} {s₂:Shared} {scope:Scope} {cl:List (Str×Addr)} {T N:List Str} {js:List Nat} {C:Addr} {fp:List Addr}
theorem sy (I:L2.Inv X pins σ H₂ s₂) (hcm:X.calm=true) (O:CompG X scope cl T N js) (hC:s₂.heap.objs.size<=C) (hf:∀ b∈fp,iO X pins H₂ b) (ho:∀ b∈fp,∃ o,s₂.heap.get? b=some o):(cJ X scope cl T N C s₂ H₂ fp (X.pn++pins)).Ok where
 mod:=I.ok.mod
 kind:=O.kind
 glob:=I.ok.glob
 blt:=I.ok.blt
 above:=hC
 inj:=fun y z c h1 h2=>I.ok.inj y z c (O.cls y c h1) (O.cls z c h2)
 has:=fun y h=>O.has y h
 cab:=fun y c h1 h2=>by
  have:cl.lookup y=some c:=h2
  rw [O.clx y h1] at this
  cases this
 hd:=fun _=>I.ok.hd hcm
 frames:=I.ok.frames
 stk:=.inl rfl
 exf:=fun b hb=>by
  obtain ⟨o,e⟩:=ho b hb
  refine ⟨Nat.ne_of_lt (Nat.lt_of_lt_of_le (Heap.lt_size e) hC),fun y c h z=>?_⟩
  exact (hf b hb).2.2.2.2.1 y c (O.cls y c h) z
 bs:=I.bs
 bsz:=Nat.le_trans I.ok.bsz I.sz
 noex:=fun b o e hb=>by
  rcases (hf b hb).2.2.2.1 with z | z
  . exact I.ok.noex b o e z
  . exact absurd (Nat.lt_of_lt_of_le (Heap.lt_size e) (Nat.le_trans I.ok.bsz z)) (Nat.lt_irrefl _)
 exfs:=fun b hb z=>by
  rcases Zo.mp (I.stkSub b z) with e | e
  . exact (hf b hb).2.1 e
  . exact (hf b hb).2.2.1 e
 funs:=I.stack
 frf:=I.stkFree
theorem rc {h₁:Heap} {m:Str->Option Value} {tk:Nat} (I:L2.Inv X pins σ H₂ s₂) (hcm:X.calm=true) (O:CompG X scope cl T N js) (hC:s₂.heap.objs.size<=C) (hf:∀ b∈fp,iO X pins H₂ b) (ho:∀ b∈fp,∃ o,s₂.heap.get? b=some o)
 (old:∀ b o,s₂.heap.get? b=some o->h₁.get? b=some o) (hns:h₁.Ns C m) (hl:σ.length=X.N.length):L2.Inv (cJ X scope cl T N C s₂ H₂ fp (X.pn++pins)) [] (List.replicate T.length none++cY js σ) H₂ { s₂ with heap:=h₁,toks:=tk } where
 ok:=sy I hcm O hC hf ho
 os:=rfl
 bare:=I.bare
 base:=Un.kept old
 loc:=by
  refine ⟨m,hns,fun i y v h1 h2 h3=>?_⟩
  by_cases hi:i < T.length
  . rw [List.getElem?_append_left (by simpa using hi),List.getElem?_replicate,if_pos hi] at h2
    cases h2
  . obtain ⟨i,rfl⟩:∃ k,i=T.length+k:=⟨i - T.length,by omega⟩
    have h2':(cY js σ)[i]? = some (some v):=by
     rw [List.getElem?_append_right (by simp)] at h2
     simpa using h2
    unfold cY at h2'
    rw [List.getElem?_map] at h2'
    obtain ⟨j,hj,h4⟩:=Zb.mp h2'
    have h5:σ[j]? = some (some v):=by
     cases q:σ[j]? with
     | none=>rw [q] at h4;cases h4
     | some o=>rw [q] at h4;exact congrArg some h4
    obtain ⟨f1,f2,f3,f4⟩:=O.fr i y j h1 hj
    obtain ⟨m',hn',hl'⟩:=I.loc
    obtain ⟨u,ru,lk⟩:=hl' j y v f1 h5 (.inr (.inl f2))
    refine ⟨u,ru,?_⟩
    rcases lk with ⟨k1,_⟩ | ⟨_,c,hc,o,hco,hcd⟩
    . have:X.env.scope.names.lookup y=some .local:=k1
      rw [f2] at this
      cases this
    . exact .inr ⟨.inl f3,c,f4 c hc,o,old c o hco,hcd⟩
 cell:=fun y c e=>by
  obtain ⟨v,o,h1,h2⟩:=I.cell y c (O.cls y c e)
  exact ⟨v,o,old c o h1,h2⟩
 free:=I.hok.fresh hC
 freeC:=fun y c e=>I.freeC y c (O.cls y c e)
 pin:=fun p hp=>by
  have hp':p∈X.pn++pins:=by simpa using hp
  obtain ⟨h1,h2,h3,h4,h5⟩:=I.pin p hp'
  refine ⟨old _ _ h1,h2,Nat.ne_of_lt (Nat.lt_of_lt_of_le (Heap.lt_size h1) hC),fun z=>?_,h5⟩
  rcases Zo.mp (I.stkSub p.1 z) with e | e
  . exact h3 e
  . exact h4 e
 hok:=I.hok.kept old
 len:=by
  show (List.replicate T.length none++cY js σ).length=N.length
  rw [O.len]
  simp [cY]
theorem rH {K:PySem.W.Frag} {H:Hp} {σ:L2.St} {δ:DS} (R:RepS K H σ δ) (n:Nat) (js:List Nat):RepS K H (List.replicate n none++cY js σ) (eW n (bv js δ)):=by
 refine ⟨by simp [cY,bv,eW],fun i d q=>?_⟩
 unfold eW at q
 by_cases hi:i < n
 . rw [List.getElem?_append_left (by simpa using hi),List.getElem?_replicate,if_pos hi] at q
   cases q
 . obtain ⟨k,rfl⟩:∃ k,i=n+k:=⟨i - n,by omega⟩
   rw [List.getElem?_append_right (by simp)] at q ⊢
   have q':(none :: bv js δ)[k+1]? = some (some d):=by simpa using q
   obtain ⟨v,h1,h2⟩:=(jT R js).val (k+1) d q'
   exact ⟨v,by simpa using h1,h2⟩
theorem re {elt tg iter:Expr} {ifs:List Expr} {pos:Pos} {it:Addr} {tn:Nat->Heap->Prop} {J:It} {ds xs:List D} {δ:DS} {g:D->DS->Option DS} {fc:FT} {felt:FM} {RR:Value->Addr->Result->Shared->Prop} {E:Value->Shared->Prop} (I:L2.Inv X pins σ H₂ s₂) (hcm:X.calm=true) (O:CompG X scope cl T N js)
 (TT:sD X.prog X.w X.K tg J fp it tn) (st:tn 0 s₂.heap) (hf:∀ b∈fp,iO X pins H₂ b) (itd:ItD X.K J H₂ ds) (R:RepS X.K H₂ σ δ) (hg:∀ C s₂ H₂ fp pn,PGD (cJ X scope cl T N C s₂ H₂ fp pn) tg g) (fl:xt T.length g) (hc:∀ C s₂ H₂ fp pn,AK (cJ X scope cl T N C s₂ H₂ fp pn) ifs fc) (he:∀ C s₂ H₂ fp pn,PV (cJ X scope cl T N C s₂ H₂ fp pn) elt felt)
 (hm:gM (fI T.length js g fc felt δ) ds=some xs) (hz:xs.length<=1000)
 (hRR:∀ (D C:Addr) (s':Shared) (Hend:Hp) (vs:List V),s₂.heap.objs.size<=C->L2.Inv X pins σ Hend s'->Same H₂ Hend->Hend D=some (.lst vs)->(∃ Acc,RepOs X.K H₂ Hend vs xs Acc/\Acc.Nodup/\D ∉ Acc/\H₂ D=none)->(∃ m,s'.heap.Ns C m)->Hend C=none->RR (.ref D) C (.ok .next) s') :
 wpAny (model X.prog X.w) X.A (newList []) (fun acc s₃=>wpAny (model X.prog X.w) X.A (newFunctionEnv scope X.env.globals cl [] X.env.qual none .none (some X.env)) (fun cenv s₄ =>
  codeAny (model X.prog X.w) X.A (.compStart (.ListComp elt [⟨tg,iter,ifs,0⟩] scope pos) 0 (.ref it) acc { cenv with scope:=relabel scope X.env }) (RR acc cenv.locals) s₄) E s₃) E s₂:=by
 have objs:=TT.obj 0 s₂.heap st
 have objs':∀ b∈fp,∃ o,s₂.heap.get? b=some o:=fun b hb=>let ⟨o,h,_⟩:=objs b hb;⟨o,h⟩
 refine wpAny_newObj_type (wpAny_newFunctionEnv O.nocell (by intro y hy;simp at hy) (fun h₁ hns₁ hsb₁=>?_) O.kind)
 dsimp only at hns₁ hsb₁ ⊢
 generalize hP:s₂.heap.push { cls:=.type "list",dict:=none,data:=.seq ([]:List Value).toArray }=P2 at hns₁ hsb₁ ⊢
 have hC:P2.objs.size=s₂.heap.objs.size+1:=by rw [<- hP,Heap.size_push]
 generalize hCC:P2.objs.size=C at *
 have hCle:s₂.heap.objs.size<=C:=by omega
 have hDle:s₂.heap.objs.size<=s₂.heap.objs.size:=by omega
 have hDC:s₂.heap.objs.size ≠ C:=by omega
 have old:∀ b o,s₂.heap.get? b=some o->h₁.get? b=some o:=fun b o e=>by
  refine hsb₁.extBut b o (Nat.ne_of_lt (Nat.lt_of_lt_of_le (Heap.lt_size e) hCle)) (Heap.get?_push_of_some _ ?_)
  rw [<- hP]
  exact Heap.get?_push_of_some _ e
 have hacc:h₁.get? s₂.heap.objs.size=some { cls:=.type "list",data:=.seq ([]:List Value).toArray }:=by
  refine hsb₁.extBut s₂.heap.objs.size _ hDC (Heap.get?_push_of_some _ ?_)
  rw [<- hP]
  exact Heap.get?_push_size _ rfl
 have I0:=fun tk=>rc (C:=C) (tk:=tk) I hcm O hCle hf objs' old hns₁ I.len
 have dstk:s₂.heap.objs.size ∉ frs X.stack:=ii I hDle
 have fne:∀ b∈fp,b ≠ s₂.heap.objs.size:=fun b hb e=>by
  obtain ⟨o,h⟩:=objs' b hb
  exact absurd (Heap.lt_size h) (by rw [e];exact Nat.lt_irrefl _)
 have cne:∀ y c,cl.lookup y=some c->c ≠ s₂.heap.objs.size:=fun y c e z=>by
  obtain ⟨v,o,h1,_⟩:=I.cell y c (O.cls y c e)
  exact absurd (Heap.lt_size h1) (by rw [z];exact Nat.lt_irrefl _)
 have pne:∀ p∈X.pn++pins,p.1 ≠ s₂.heap.objs.size:=fun p hp e=>by
  exact absurd (Heap.lt_size (I.pin p hp).1) (by rw [e];exact Nat.lt_irrefl _)
 have stat:∀ {H':Hp} {pl:List (Addr×Obj)},(∀ b∈fp,H' b=none)->(∀ p∈pl,∀ b∈fp,p.1 ≠ b)->∀ b∈fp,iO (cJ X scope cl T N C s₂ H₂ fp (X.pn++pins)) pl H' b:=fun {H' pl} hn hpl b hb=>by
  obtain ⟨o,h⟩:=objs' b hb
  refine ⟨hn b hb,Nat.ne_of_lt (Nat.lt_of_lt_of_le (Heap.lt_size h) hCle),fun z=>?_,.inl hb,fun y c e=>(hf b hb).2.2.2.2.1 y c (O.cls y c e),fun p hp=>?_⟩
  . rcases Zo.mp (I.stkSub b z) with e | e
    . exact (hf b hb).2.1 e
    . exact (hf b hb).2.2.1 e
  . rcases Zn.mp hp with q | q
    . exact (hf b hb).2.2.2.2.2 p q
    . exact hpl p q b hb
 have loop:∀ s₃:Shared,s₃={ s₂ with heap:=h₁,toks:=s₂.toks+([]:List (Str×Value)).length } ->
  codeAny (model X.prog X.w) X.A (.compLoop (.ListComp elt [⟨tg,iter,ifs,0⟩] scope pos) 0 (.ref it) (.ref s₂.heap.objs.size) (compEnvC scope cl C X.env)) (RR (.ref s₂.heap.objs.size) C) s₃:=by
  rintro s₃ rfl
  refine mT (fun n s=>∃ (i:Nat) (σ':L2.St) (H':Hp) (vs:List V) (ys:List D),n=ds.length - i/\i<=ds.length/\L2.Inv (cJ X scope cl T N C s₂ H₂ fp (X.pn++pins)) [] σ' H' s/\Same H₂ H'/\RepS X.K H' σ' (eW T.length (bv js δ))/\tn i s.heap/\(∀ b∈fp,H' b=none) /\
   (∃ (its:List Value) (k:Nat),Vals vs its/\s.heap.get? s₂.heap.objs.size=some { cls:=.type "list",data:=.seq its.toArray k })/\H' s₂.heap.objs.size=none/\(∃ Acc,RepOs X.K H₂ H' vs ys Acc/\Acc.Nodup)/\gM (fI T.length js g fc felt δ) (ds.take i)=some ys/\ys.length<=1000) ?_ ds.length
   ⟨0,_,H₂,[],[],rfl,Nat.zero_le _,I0 _,Same.refl _,rH R _ js,TT.keep 0 _ _ st (fun b hb o e=>old b o e),fun b hb=>(hf b hb).1,⟨[],0,.nil,hacc⟩,I.hok.fresh hDle,⟨[],.nil,List.nodup_nil⟩,rfl,Nat.zero_le _⟩
  rintro n s ⟨i,σ',H',vs,ys,rfl,hi,I',sm,R',st',fr',⟨its,k,rv,hD⟩,fD,⟨Acc,rr,nda⟩,hys,hyl⟩
  by_cases hlt:i < ds.length
  . -- one more
    obtain ⟨go,yl⟩:=(itd i H' sm).1 hlt
    have hd0:ds[i]? = some ds[i]:=by simp [hlt]
    obtain ⟨oe,ge⟩:=tJ hm i _ hd0
    have hys1:gM (fI T.length js g fc felt δ) (ds.take (i+1))=some (ys++oe.toList):=by
     have e8:ds.take (i+1)=ds.take i++[ds[i]]:=by rw [List.take_add_one,hd0];rfl
     rw [e8]
     refine qF hys ?_
     show ((fI T.length js g fc felt δ ds[i]).bind _)=_
     rw [ge]
     simp [gM]
    have hyl1:(ys++oe.toList).length<=1000:=by
     obtain ⟨zs,ez,l⟩:=nS hm (i+1)
     rw [hys1] at ez
     cases ez
     omega
    unfold fI at ge
    obtain ⟨δ1,eδ1,ge⟩:=Za.mp ge
    obtain ⟨ok,eok,ge⟩:=Za.mp ge
    have kp:=fl _ _ _ eδ1
    have I1:L2.Inv (cJ X scope cl T N C s₂ H₂ fp (X.pn++pins)) [(s₂.heap.objs.size,{ cls:=.type "list",data:=.seq its.toArray k })] σ' H' s:=I'.pins_of fun p hp=>by
     have:p=(s₂.heap.objs.size,{ cls:=.type "list",data:=.seq its.toArray k }):=by simpa using hp
     subst this
     exact ⟨hD,fD,hDC,dstk,fun v z=>by cases z⟩
    refine thn (TT.item (cJ X scope cl T N C s₂ H₂ fp (X.pn++pins)) rfl rfl rfl rfl i _ s σ' H' (fun _ _=>False) I1 (stat fr' fun p hp b hb=>by
     have:p=(s₂.heap.objs.size,{ cls:=.type "list",data:=.seq its.toArray k }):=by simpa using hp
     subst this
     exact (fne b hb).symm) st' go) fun r s1 ⟨u,hr,h4⟩=>?_
    subst hr
    refine thn h4 fun _ s2 ⟨y,H'',I2,ru,yy,st2,fr2⟩=>?_
    obtain ⟨s3,d,hd,rd⟩:=yl y H'' yy
    have hd':d=ds[i]:=by rw [hd0] at hd;exact (Option.some.inj hd).symm
    subst hd'
    have I3:=I2.pinned (stat fr2 fun p hp b hb=>by
     have:p=(s₂.heap.objs.size,{ cls:=.type "list",data:=.seq its.toArray k }):=by simpa using hp
     subst this
     exact (fne b hb).symm) (TT.obj _ _ st2)
    refine thn (hg C s₂ H₂ fp (X.pn++pins) _ s2 σ' H'' y u (fun σ4 H4=>RepS X.K H4 σ4 δ1/\H4=H'') I3 ru ⟨_,_,δ1,rd,R'.mono s3,eδ1,fun σ4 r4=>⟨r4,rfl⟩⟩) fun _ s4 ⟨σ4,H4,I4,R4,e2⟩=>?_
    subst e2
    refine thn (hc C s₂ H₂ fp (X.pn++pins) _ s4 σ4 H4 (fun b H5=>b=ok/\Same H4 H5) I4 ⟨δ1,ok,R4,eok,fun H5 s5=>⟨rfl,s5⟩⟩) fun okv sT ⟨HT,IT,hok',sT4⟩=>?_
    have hDT:sT.heap.get? s₂.heap.objs.size=some { cls:=.type "list",data:=.seq its.toArray k }:=(IT.pin (s₂.heap.objs.size,{ cls:=.type "list",data:=.seq its.toArray k }) (by simp)).1
    have fDT:HT s₂.heap.objs.size=none:=(IT.pin (s₂.heap.objs.size,{ cls:=.type "list",data:=.seq its.toArray k }) (by simp)).2.1
    have RT:RepS X.K HT σ4 δ1:=R4.mono sT4
    have lz:its.length<=1000:=by
     have:=rv.length
     have:=rr.len
     omega
    cases ok with
    | false =>
     cases ge
     rw [hok',if_neg (by decide)]
     have pf:∀ b∈fp,∀ ob,s2.heap.get? b=some ob->sT.heap.get? b=some ob/\HT b=none:=fun b hb ob hob=>by
      have:=IT.pin (b,ob) (List.mem_append_right _ (List.mem_append_right _ (eD hb hob)))
      exact ⟨this.1,this.2.1⟩
     simp only [Option.toList_none,List.append_nil] at hys1
     refine ⟨ds.length - (i+1),by omega,i+1,σ4,HT,vs,ys,rfl,hlt,IT.pins_of (pins':=[]) (fun p hp=>by simp at hp),(sm.trans s3).trans sT4,RT.weak kp,?_,?_,⟨its,k,rv,hDT⟩,fDT,?_,hys1,hyl⟩
     . refine TT.keep _ _ _ st2 fun b hb ob hob=>(pf b hb ob hob).1
     . intro b hb
       obtain ⟨ob,hob,_⟩:=TT.obj _ _ st2 b hb
       exact (pf b hb ob hob).2
     . refine ⟨Acc,rr.frame (bR (s3.trans sT4)) (fun a m=>?_),nda⟩
       obtain ⟨⟨ws,e⟩,_⟩:=rr.dom a m
       rw [e];exact (s3.trans sT4) a _ e
    | true =>
     rw [hok',if_pos rfl]
     obtain ⟨e,ge2,eo⟩:=Zb.mp (show (ownOf felt (shO δ1)).map some=some oe from ge)
     subst eo
     refine thn (he C s₂ H₂ fp (X.pn++pins) _ sT σ4 HT (fun v H5=>Same HT H5/\∃ A,RepO X.K H₂ H5 v e A/\A.Nodup/\∀ a∈A,HT a=none) IT (zf ge2 RT ((sm.trans s3).trans sT4))) fun wv s5 ⟨v,H5,I5,rw5,s45,A5,r5,nd5,fr5⟩=>?_
     have hD5:s5.heap.get? s₂.heap.objs.size=some { cls:=.type "list",data:=.seq its.toArray k }:=(I5.pin (s₂.heap.objs.size,{ cls:=.type "list",data:=.seq its.toArray k }) (by simp)).1
     have fD5:H5 s₂.heap.objs.size=none:=(I5.pin (s₂.heap.objs.size,{ cls:=.type "list",data:=.seq its.toArray k }) (by simp)).2.1
     have pf:∀ b∈fp,∀ ob,s2.heap.get? b=some ob->s5.heap.get? b=some ob/\H5 b=none:=fun b hb ob hob=>by
      have:=I5.pin (b,ob) (List.mem_append_right _ (List.mem_append_right _ (eD hb hob)))
      exact ⟨this.1,this.2.1⟩
     refine call_meets F.slot_list_append ⟨_,hD5,rfl⟩ F.entry_list_append (F.args_list_append_2 _ _) (PySem.list_append s₂.heap.objs.size its.toArray k wv (by rw [List.size_toArray];exact de lz)) ⟨hD5,?_⟩
     have q:=PySem.IsL.update hD5 (fun a=>a.push wv)
     have I6:L2.Inv (cJ X scope cl T N C s₂ H₂ fp (X.pn++pins)) [] σ4 H5 { s5 with heap:=s5.heap.update s₂.heap.objs.size (Obj.mapSeq fun a=>a.push wv),toks:=s5.toks } :=
      (I5.pins_of (pins':=[]) fun p hp=>by simp at hp).turned (it:=s₂.heap.objs.size) (t':=s5.toks) (fun b ob hb hu=>(Heap.get?_update_other s5.heap _ (Ne.symm hb)).trans hu) fD5 hDC (.inr hDle) cne (fun p hp=>by
       rcases Zn.mp hp with z | z
       . exact pne p z
       . simp at z)
     refine ⟨ds.length - (i+1),by omega,i+1,σ4,H5,vs++[v],ys++[e],rfl,hlt,I6,((sm.trans s3).trans sT4).trans s45,(RT.mono s45).weak kp,?_,?_,?_,fD5,?_,hys1,hyl1⟩
     . refine TT.keep _ _ _ st2 fun b hb ob hob=>?_
       exact (Heap.get?_update_other s5.heap _ (Ne.symm (fne b hb))).trans (pf b hb ob hob).1
     . intro b hb
       obtain ⟨ob,hob,_⟩:=TT.obj _ _ st2 b hb
       exact (pf b hb ob hob).2
     . have hf7:its.toArray.push wv=(its++[wv]).toArray:=by simp
       rw [hf7] at q
       exact ⟨its++[wv],_,rv.append (.cons rw5 .nil),q⟩
     . exact uj rr nda ((s3.trans sT4).trans s45) r5 nd5 fun a m=>bZ (s3.trans sT4) (fr5 a m)
  . -- the end
    have hie:i=ds.length:=by omega
    refine thn (TT.done (cJ X scope cl T N C s₂ H₂ fp (X.pn++pins)) rfl rfl rfl rfl i [(s₂.heap.objs.size,{ cls:=.type "list",data:=.seq its.toArray k })] s σ' H' (fun _ _=>False) (I'.pins_of fun p hp=>by
     have:p=(s₂.heap.objs.size,{ cls:=.type "list",data:=.seq its.toArray k }):=by simpa using hp
     subst this
     exact ⟨hD,fD,hDC,dstk,fun v z=>by cases z⟩) (stat fr' fun p hp b hb=>by
     have:p=(s₂.heap.objs.size,{ cls:=.type "list",data:=.seq its.toArray k }):=by simpa using hp
     subst this
     exact (fne b hb).symm) st' ((itd i H' sm).2 (by omega))) fun r s1 ⟨hr,I8⟩=>?_
    subst hr
    have hD8:s1.heap.get? s₂.heap.objs.size=some { cls:=.type "list",data:=.seq its.toArray k }:=(I8.pin (s₂.heap.objs.size,{ cls:=.type "list",data:=.seq its.toArray k }) (by simp)).1
    have hxs:ds.take i=ds:=List.take_of_length_le (by omega)
    rw [hxs,hm] at hys
    cases hys
    have sn:=c5 fD (.lst vs)
    have dn:∀ b,∀ u,H' b=some u->b ≠ s₂.heap.objs.size:=fun b u z=>cA z fD
    have un:Un (frs X.stack) fp H₂ (upd H' s₂.heap.objs.size (.lst vs)) s₂.heap s1.heap:=by
     have b0:=I8.base
     refine ⟨fun b ob e n1 n2 n3=>b0.keep b ob e n1 n2 n3,fun b ob e n1 n2 n3=>b0.slot b ob e n1 n2 n3,fun b ob e n1 n3=>?_,fun b ob e n3=>b0.there b ob e n3,fun b zs e=>?_,fun b ob u e=>?_,fun b ps e=>?_⟩
     . rw [ax (Nat.ne_of_lt (Heap.lt_size e))]
       exact b0.free b ob e n1 n3
     . have z:=b0.tups b zs e
       rw [ax (dn _ _ z)]
       exact z
     . have z:=b0.frzs b ob u e
       rw [ax (dn _ _ z)]
       exact z
     . obtain ⟨more,z⟩:=b0.tbls b ps e
       exact ⟨more,by rw [ax (dn _ _ z)];exact z⟩
    have hok:HOk X.prog X.w (upd H' s₂.heap.objs.size (.lst vs)) s1.heap:=fun b u z=>by
     by_cases hb:b=s₂.heap.objs.size
     . rw [hb] at z ⊢
       rw [aU] at z
       cases z
       exact ⟨de (by have:=rr.len;omega),its,k,rv,hD8⟩
     . rw [ax hb] at z
       exact (I8.hok b u z).stay (fun _ _ _ q=>q) (fun c q=>by rw [ax (dn _ _ q)];exact q) fun c ys q=>by rw [ax (dn _ _ q)];exact q
    have IX:L2.Inv X pins σ (upd H' s₂.heap.objs.size (.lst vs)) s1:=I.call' I8.os un hok I8.bare fun b hb=>⟨(hf b hb).2.2.2.1,(hf b hb).2.1,(hf b hb).2.2.2.2.1,(hf b hb).2.2.2.2.2⟩
    obtain ⟨m8,hn8,_⟩:=I8.loc
    refine hRR s₂.heap.objs.size C s1 _ vs hCle IX (sm.trans sn) aU ⟨Acc,rr.frame (bR sn) (fun a m=>by
     obtain ⟨⟨ws,e⟩,_⟩:=rr.dom a m
     rw [e];exact sn a _ e),nda,fun m=>(by
     obtain ⟨⟨ws,e⟩,_⟩:=rr.dom _ m
     rw [fD] at e;cases e),I.hok.fresh hDle⟩ ⟨m8,hn8⟩ ?_
    rw [ax (Ne.symm hDC)]
    exact I8.free
 exact codeAny_compStart_list (loop _ rfl) (TT.self X.A 0 _ _ _ (TT.keep 0 _ _ st (fun b hb o e=>old b o e)) (loop _ rfl))
theorem j5 {n:Nat} {js:List Nat} {g:D->DS->Option DS} {fc:FT} {f:FM} {δ:DS}:∀ {ds xs:List D},gM (fI n js g fc f δ) ds=some xs->gn xs=true
 | [],xs,h=>by cases h;rfl
 | d :: ds,xs,h=>by
  obtain ⟨o,eo,h⟩:=Za.mp (show ((fI n js g fc f δ d).bind _)=some xs from h)
  obtain ⟨ys,ey,h⟩:=Za.mp h
  cases h
  unfold fI at eo
  obtain ⟨δ1,_,eo⟩:=Za.mp eo
  obtain ⟨b,_,eo⟩:=Za.mp eo
  cases b with
  | false=>cases eo;exact j5 ey
  | true =>
   obtain ⟨e,ge,eo⟩:=Zb.mp (show (ownOf f (shO δ1)).map some=some o from eo)
   subst eo
   show (own e && gn ys)=true
   rw [j5 ey,Bool.and_true]
   unfold ownOf at ge
   obtain ⟨p,_,ge⟩:=Za.mp ge
   split at ge
   . rename_i ho;cases ge;exact ho
   . cases ge
theorem qu (i:Nat) {y:Str} {elt tg iter:Expr} {ifs:List Expr} {py pos spos:Pos} {src:FA} {g:D->DS->Option DS} {fc:FT} {felt:FM} (hN:X.N.Nodup) (hi:PID X tg iter src) {T N:List Str} {js:List Nat} (hg:∀ C s₂ H₂ fp pn,PGD (cJ X scope cl T N C s₂ H₂ fp pn) tg g) (fl:xt T.length g) (hc:∀ C s₂ H₂ fp pn,AK (cJ X scope cl T N C s₂ H₂ fp pn) ifs fc) (he:∀ C s₂ H₂ fp pn,PV (cJ X scope cl T N C s₂ H₂ fp pn) elt felt) (O:CompG X scope cl T N js)
 (hsw:swapsWith (.ListComp elt [⟨tg,iter,ifs,0⟩] scope pos) (some (.Name y py)) spos.line X.env=pure true:=by rfl) (hy:X.N[i]? = some y:=by rfl) (hl:Loc X.env.scope y:=by first | exact Or.inl rfl | exact Or.inr rfl) (hcm:X.calm=true:=by rfl)
 (hs:∀ v,foldedSetIterable iter X.env v=pure v:=by intro _;rfl) (hfn:X.fn y=true \/ X.env.scope.names.lookup y=some .local:=by first | exact .inl rfl | exact .inr rfl | assumption) :
 PMD X (.Assign [.Name y py] (.ListComp elt [⟨tg,iter,ifs,0⟩] scope pos) spos) (aw i (lA src T.length js g fc felt)):=by
 intro pins s σ H D I ⟨F,δ,r,⟨As,RA⟩,q,k⟩
 have R:=RA.toS
 unfold aw at q
 obtain ⟨⟨d,δ'⟩,ed,q⟩:=Za.mp q
 cases q
 unfold lA at ed
 obtain ⟨ds,eds,q⟩:=Za.mp ed
 obtain ⟨xs,exs,q⟩:=Za.mp q
 by_cases hz:xs.length<=1000
 . rw [if_pos hz] at q
   cases q
   rw [exec_Assign_Name_used _ _ _ _ hsw]
   refine wpAny_bind (wpAny_standAt (wpAny_bind ?_))
   show wpAny _ X.A (do let _ <- comprehension (.ListComp elt [⟨tg,iter,ifs,0⟩] scope pos) scope X.env _ (newList []) false (eval iter X.env) (some (assign (.Name y py) X.env))) _ _ s
   refine wpAny_bind (wpAny_mono (wpAny_comprehension_free (use:=some (assign (.Name y py) X.env)) (Q:=fun _ s'=>SP X pins D .next s') rfl hs O.clos O.kind O.names ?_) (fun _ s' hq=>wpAny_pure (wpAny_pure hq)) fun _ _ z=>z)
   refine wpAny_mono (hi pins s σ H (fun J H1=>Same H H1/\ItD X.K J H1 ds) I ⟨δ,ds,R,eds,fun J H1 s1 itd=>⟨s1,itd⟩⟩) (fun v s1 h1=>wpAny_mono h1 (fun itv s2 h2=>?_) fun _ _ z=>z) fun _ _ z=>z
   obtain ⟨it,fp,tn,J,H2,rfl,I2,TT,st,hf,s1,itd⟩:=h2
   refine re (RR:=fun acc C=>compPost (model X.prog X.w) X.A X.xe (some (assign (.Name y py) X.env)) (fun _ s'=>SP X pins D .next s') acc C) I2 hcm O TT st hf itd (R.mono s1) hg fl hc he exs hz ?_
   intro DA C s' Hend vs hC IX sm hD rr ⟨m,hn⟩ fC
   show wpAny _ X.A (assign (.Name y py) X.env (.ref DA)) _ _ s'
   refine wpAny_assign_Name (jS (v:=.ref DA) IX hN hy hl rfl (fun s9 I9 ⟨a,hsb,ha⟩=>?_) hfn)
   have hCa:C ≠ a:=by
    rintro rfl
    rcases ha with z | z
    . exact absurd (Nat.lt_of_lt_of_le I2.lt (by rw [<- z];exact hC)) (Nat.lt_irrefl _)
    . obtain ⟨v,o,h1,_⟩:=I2.cell y _ z
      exact absurd (Nat.lt_of_lt_of_le (Heap.lt_size h1) hC) (Nat.lt_irrefl _)
   refine ⟨m,hn.at' fun o e=>(hsb.2 C hCa).trans e,fun h' hs'=>⟨_,Hend,?_,rf i RA k (j5 exs) (s1.trans sm) s1 hD rr⟩⟩
   exact I9.turned (it:=C) (t':=s9.toks) (fun b o hb e=>(hs'.2 b hb).trans e) fC (Nat.ne_of_gt (Nat.lt_of_lt_of_le I2.lt hC)) (.inr (Nat.le_trans I2.sz hC))
    (fun y c e z=>by
     obtain ⟨v,o,h1,_⟩:=I2.cell y c e
     exact absurd (Nat.lt_of_lt_of_le (Heap.lt_size h1) (by rw [z];exact hC)) (Nat.lt_irrefl _))
    (fun p hp z=>absurd (Nat.lt_of_lt_of_le (Heap.lt_size (I2.pin p hp).1) (by rw [z];exact hC)) (Nat.lt_irrefl _))
 . rw [if_neg hz] at q;cases q
end
end Dl
namespace Dl
open PySem PySem.Spec PyProof.Rows L2
section
variable {X:Cx} {pins:List (Addr×Obj)} {σ:L2.St} {H:Hp} {s:Shared} {h':Heap}
end
end Dl
namespace Dl
open PySem PySem.Spec PyProof.Rows L2
def RPZ (X:Cx) (Z:L2.St->Prop) (E:m4) (F:Hp):Res->Prop
 | .nx δ=>∀ σ' F' H',Same F F'->fW X.K F' H' σ' δ->Z σ'->E.nx σ' H'
 | .rt d=>∀ v F' H' A,Same F F'->Same F' H'->RepO X.K F' H' v d A->A.Nodup->E.rt v H'
 | .bk δ=>∀ σ' F' H',Same F F'->fW X.K F' H' σ' δ->Z σ'->E.bk σ' H'
 | .ct δ=>∀ σ' F' H',Same F F'->fW X.K F' H' σ' δ->Z σ'->E.ct σ' H'
 | .ex _ _=>False
 | .mk _ _=>False
theorem RPZ.mono {X:Cx} {Z:L2.St->Prop} {E:m4} {F F1:Hp} {r:Res} (s:Same F F1) (h:RPZ X Z E F r):RPZ X Z E F1 r:=by
 cases r with
 | nx δ=>exact fun σ' F' H' s2 R=>h σ' F' H' (s.trans s2) R
 | rt d=>exact fun v F' H' A s2=>h v F' H' A (s.trans s2)
 | bk δ=>exact fun σ' F' H' s2 R=>h σ' F' H' (s.trans s2) R
 | ct δ=>exact fun σ' F' H' s2 R=>h σ' F' H' (s.trans s2) R
 | ex C δ=>exact h
 | mk C δ=>exact h
def upZ (X:Cx) (Z:L2.St->Prop) (s:SD):TS:=fun E σ H=>∃ F δ r,fW X.K F H σ δ/\Z σ/\s δ=some r/\RPZ X Z E F r
def PZD (X:Cx) (Z:L2.St->Prop) (st:Stmt) (s:SD):Prop:=PS X st (upZ X Z s)
def PZs (X:Cx) (Z:L2.St->Prop) (sts:List Stmt) (s:SD):Prop:=PSs X sts (upZ X Z s)
def ZOk (Z:L2.St->Prop):Prop:=∀ i,2<=i->∀ σ v,Z σ->Z (σ.set i (some v))
section
variable {X:Cx} {Z:L2.St->Prop} {st:Stmt} {rest:List Stmt} {s u:SD} {e:Expr} {fk fl:FD} {fm:FM} {c:FT} {pos:Pos}
theorem zK:PZs X Z [] bc:=nX oR fun E σ H ⟨F,δ,r,R,hz,e,k⟩=>by cases e;exact k σ F H (Same.refl F) R hz
theorem tq (h1:PZD X Z st s) (h2:PZs X Z rest u):PZs X Z (st :: rest) (ay s u):=nX (lS h1 h2) fun E σ H ⟨F,δ,r,R,hz,e,k⟩=>by
 unfold ay at e
 obtain ⟨r1,e1,e⟩:=Za.mp e
 refine ⟨F,δ,r1,R,hz,e1,?_⟩
 cases r1 with
 | nx δ'=>exact fun σ' F' H' s1 R1 z1=>⟨F',δ',r,R1,z1,e,k.mono s1⟩
 | rt d=>cases e;exact k
 | bk d=>cases e;exact k
 | ct d=>cases e;exact k
 | ex C d=>cases e;exact k
 | mk C d=>cases e;exact k
theorem oO (h:PZD X Z st s):PZs X Z [st] s:=oQ h
theorem Bs {cx:Expr} {a b:List Stmt} (hc:PTD X cx c) (ha:PZs X Z a s) (hb:PZs X Z b u):PZD X Z (.If cx a b pos) (sIf c s u):=fU (vU hc ha hb) fun E σ H ⟨F,δ,r,⟨As,R⟩,hz,q,k⟩=>by
 unfold sIf at q
 obtain ⟨d,ed,q⟩:=Za.mp q
 refine ⟨δ,d,R.toS,ed,fun H' s1=>?_⟩
 cases d with
 | true=>rw [if_pos rfl];exact ⟨F,δ,r,⟨As,R.grow s1⟩,hz,q,k⟩
 | false=>rw [if_neg Bool.false_ne_true];exact ⟨F,δ,r,⟨As,R.grow s1⟩,hz,q,k⟩
theorem zJ (i:Nat) {x:Str} {pos':Pos} (zk:ZOk Z) (hN:X.N.Nodup) (he:PV X e fm) (h2:2<=i:=by decide) (hi:X.N[i]? = some x:=by rfl) (hx:Loc X.env.scope x:=by first | exact Or.inl rfl | exact Or.inr rfl) (hs:swapsWith e (some (.Name x pos')) pos.line X.env=pure false:=by rfl) (hf:X.fn x=true \/ X.env.scope.names.lookup x=some .local:=by first | exact .inl rfl | exact .inr rfl | assumption) :
 PZD X Z (.Assign [.Name x pos'] e pos) (aw i fm):=fU (rM hN hi hx he hs hf) fun E σ H ⟨F,δ,r,⟨As,R⟩,hz,q,k⟩=>by
 unfold aw at q
 obtain ⟨⟨d,δ'⟩,ed,q⟩:=Za.mp q
 cases q
 exact ⟨F,δ,As,d,δ',R,ed,fun v F' H' A As' ev R' r'=>k (σ.set i (some v)) F' H' ev.fs (R'.setM i r' ev.nd ev.dj) (zk i h2 σ v hz)⟩
theorem vM {iter:Expr} {body:List Stmt} {src:FMA} {x:Str} {px:Pos} (i:Nat) (zk:ZOk Z) (hN:X.N.Nodup) (hp:PassesOwn (model X.prog X.w) X.A X.env X.xe) (hc:X.calm=true) (hi:PIM X (.Name x px) iter src) (hb:PZs X Z body s) (h2:2<=i:=by decide)
 (hx:X.N[i]? = some x:=by rfl) (hl:Loc X.env.scope x:=by first | exact Or.inl rfl | exact Or.inr rfl) (hf:X.fn x=true \/ X.env.scope.names.lookup x=some .local:=by first | exact .inl rfl | exact .inr rfl | assumption)
 (hs:∀ x,foldedSetIterable iter X.env x=pure x:=by intro _;rfl):PZD X Z (.For (.Name x px) iter body [] pos) (fL src i s):=fU (rN hp hc hi (iH hN hx hl hf) hb hs) fun E σ H ⟨F,δ,r,⟨As,R⟩,hz,e,k⟩=>by
 unfold fL at e
 obtain ⟨⟨ds,δ1⟩,eds,e⟩:=Za.mp e
 refine ⟨F,δ,As,ds,δ1,R,eds,fun J F1 H1 As1 s1 R1 it=>?_⟩
 refine ⟨fun j m σ H=>m=ds.length - j/\j<=ds.length/\∃ F2 δ,Same F1 F2/\fW X.K F2 H σ δ/\Z σ/\forM i s (ds.drop j) δ=some r/\RPZ X Z E F2 r,⟨ds.length,rfl,Nat.zero_le _,F1,δ1,Same.refl _,⟨As1,R1⟩,hz,e,k.mono s1⟩,?_⟩
 rintro j m σ H2 ⟨rfl,hjl,F2,δ2,s2,⟨As2,R2⟩,z2,e2,k2⟩
 by_cases hlt:j < ds.length
 . obtain ⟨go,yl⟩:=(it j H2 (s2.trans R2.fz)).1 hlt
   rw [List.drop_eq_getElem_cons hlt] at e2
   obtain ⟨r4,e4,e2⟩:=Za.mp (show ((s (δ2.set i (some (sh ds[j])))).bind _)=some r from e2)
   refine .inr ⟨go,fun σ' H'=>∃ F3 δ,Same F1 F3/\fW X.K F3 H' σ' δ/\Z σ'/\forM i s (ds.drop (j+1)) δ=some r/\RPZ X Z E F3 r,fun σ' H' z=>⟨ds.length - (j+1),by omega,rfl,hlt,z⟩,fun y H' yy=>?_⟩
   obtain ⟨eH,d,hd,rx⟩:=yl y H' yy
   subst eH
   have hd':d=ds[j]:=by
    rw [Zr hlt] at hd
    exact (Option.some.inj hd).symm
   subst hd'
   have R3:=R2.setM i (RepO.of_sh R2.fz (rx.mono s2)) List.nodup_nil fun _ _ _ z=>nomatch z
   refine ⟨F2,δ2.set i (some (sh ds[j])),r4,R3,zk i h2 σ y z2,e4,?_⟩
   cases r4 with
   | nx δ'=>exact fun σ' F' H'' s4 R4 z4=>⟨F',δ',s2.trans s4,R4,z4,e2,k2.mono s4⟩
   | ct δ'=>exact fun σ' F' H'' s4 R4 z4=>⟨F',δ',s2.trans s4,R4,z4,e2,k2.mono s4⟩
   | bk δ'=>cases e2;exact k2
   | rt d=>cases e2;exact k2
   | ex C δ'=>cases e2;exact k2
   | mk C δ'=>cases e2;exact k2
 . have e:j=ds.length:=by omega
   subst e
   rw [List.drop_length] at e2
   cases e2
   exact .inl ⟨(it _ H2 (s2.trans R2.fz)).2 (Nat.le_refl _),k2 σ F2 H2 (Same.refl _) ⟨As2,R2⟩ z2⟩
def fK (i:Nat) (fk fl:FD) (fm:FM):SD:=fun δ=>(fm δ).bind fun p=>match p.2[i]? with
 | some (some (.lst ds))=>(fk p.2).bind fun kd=>match kd with
  | .int k=>(ixN ds.length k).bind fun j=>match ds[j]? with
   | some (.lst row)=>(fl p.2).bind fun ld=>match ld with
    | .int l=>(ixN row.length l).bind fun m=>some (.nx (p.2.set i (some (.lst (ds.set j (.lst (row.set m p.1)))))))
    | _=>none
   | _=>none
  | _=>none
 | _=>none
theorem Cl {i:Nat} {K:PySem.W.Frag} {F H:Hp} {σ:L2.St} {δ:DS} {As:Nat->List Addr} {Q:L2.St->Hp->Prop} {r:Res} (R:RepA K F H σ δ As) (q:fK i fk fl fm δ=some r) (k:∀ F' H' δ',r=.nx δ'->Same F F'->fW K F' H' σ δ'->Q σ H') :
 zz (upV K fm) (yB (tOp (uA K) (oB i) (up K fk)) (up K fl) tf) { nx:=Q,rt:=fun _ _=>True } σ H:=by
 unfold fK at q
 obtain ⟨⟨d,δ'⟩,ed,q⟩:=Za.mp q
 dsimp only at q
 split at q
 . rename_i ds h1
   obtain ⟨kd,ek,q⟩:=Za.mp q
   split at q
   . rename_i kk
     obtain ⟨j,hj,q⟩:=Za.mp q
     split at q
     . rename_i row hrow
       obtain ⟨ld,el,q⟩:=Za.mp q
       split at q
       . rename_i ll
         obtain ⟨m,hm,q⟩:=Za.mp q
         cases q
         refine ⟨F,δ,As,d,δ',R,ed,fun v F' H' A As' ev R' r'=>?_⟩
         obtain ⟨a,vs,A0,s0,_,g0,_,rl⟩:=R'.lst h1
         refine ⟨.ref a,s0,δ',.int kk,R'.toS,ek,fun iv H1 s1 ri=>?_⟩
         cases ri
         have R1:=R'.grow s1
         obtain ⟨a1,vs1,b,ws,B0,O,t0,u0,hv1,ub,rr1,ndB,inB,inO,aO,sep,_⟩:=R1.row h1 hrow
         have ea:a1=a:=by rw [s0] at t0;cases t0;rfl
         subst ea
         have es1:vs1=vs:=by
          have:=s1 _ _ g0
          rw [u0] at this;cases this;rfl
         subst es1
         refine ⟨a1,vs1,kk,.ref b,rfl,rfl,SqL.of u0,by unfold L2.atI;rw [rl.length,hj];exact hv1,?_⟩
         refine ⟨δ',.int ll,R1.toS,el,fun iv2 H2 s2 ri2=>?_⟩
         cases ri2
         have R2:=R1.grow s2
         obtain ⟨a2,vs2,b2,ws2,B2,O2,t2,u2,hv2,ub2,rr2,ndB2,inB2,inO2,aO2,sep2,fin⟩:=R2.row h1 hrow
         have ea:a2=a1:=by rw [s0] at t2;cases t2;rfl
         subst ea
         have es2:vs2=vs1:=by
          have:=s2 _ _ u0
          rw [u2] at this;cases this;rfl
         subst es2
         have eb:b2=b:=by rw [hv1] at hv2;cases hv2;rfl
         subst eb
         refine ⟨b2,ws2,ll,m,rfl,rfl,ub2,by rw [rr2.length];exact hm,?_⟩
         have ml:m < row.length:=(k6 hm).2.1
         obtain ⟨v0,C1,C,C3,_,_,eC,pk⟩:=rr2.pick (i:=m) (d:=row[m]) (Zr ml)
         have rv:RepO K F' H2 v d A:=r'.frame (bR (s1.trans s2)) fun x mm=>by
          obtain ⟨⟨ws,e⟩,_⟩:=r'.dom x mm
          rw [e];exact (s1.trans s2) x _ e
         have rn:=pk (H':=H2) (fun _ _ e _=>e) (fun _ _=>rfl) rv
         have nB:=List.nodup_cons.mp ndB2
         have nB2:=nB.2
         rw [eC] at nB2
         have n1:=List.nodup_append.mp nB2
         have n2:=List.nodup_append.mp n1.2.1
         have inC:∀ x,x∈C1 \/ x∈C3->x∈B2:=fun x mm=>by
          rw [eC]
          rcases mm with z | z
          . exact List.mem_append_left _ z
          . exact List.mem_append_right _ (List.mem_append_right _ z)
         have inI:∀ x,x∈C1 \/ x∈C3->x∈As' i:=fun x mm=>inB2 x (Zk _ (inC x mm))
         refine k F' _ _ rfl ev.fs (fin rn (fun z=>?_) ?_ (fun x mm z=>?_) fun kx x hk mm z=>?_)
         . rcases Zn.mp z with z | z
           . exact nB.1 (inC _ (.inl z))
           . rcases Zn.mp z with z | z
             . exact ev.dj i b2 (inB2 b2 Zj) z
             . exact nB.1 (inC _ (.inr z))
         . refine List.nodup_append.mpr ⟨n1.1,List.nodup_append.mpr ⟨ev.nd,n2.2.1,fun y hy w hw e=>?_⟩,fun y hy w hw e=>?_⟩
           . subst e;exact ev.dj i y (inI y (.inr hw)) hy
           . subst e
             rcases Zn.mp hw with z | z
             . exact ev.dj i y (inI y (.inl hy)) z
             . exact n1.2.2 y hy y (List.mem_append_right _ z) rfl
         . rcases Zn.mp mm with mm | mm
           . exact sep2 x (Zk _ (inC x (.inl mm))) z
           . rcases Zn.mp mm with mm | mm
             . exact ev.dj i x (inO2 x z) mm
             . exact sep2 x (Zk _ (inC x (.inr mm))) z
         . rcases Zn.mp z with z | z
           . exact R2.dj kx i x hk mm (inI x (.inl z))
           . rcases Zn.mp z with z | z
             . exact ev.dj kx x mm z
             . exact R2.dj kx i x hk mm (inI x (.inr z))
       . cases q
     . cases q
   . cases q
 . cases q
theorem rW {i:Nat} {δ:DS} {r:Res} (q:fK i fk fl fm δ=some r):∃ δ',r=.nx δ':=by
 unfold fK at q
 obtain ⟨⟨d,δ'⟩,ed,q⟩:=Za.mp q
 dsimp only at q
 split at q
 . obtain ⟨kd,ek,q⟩:=Za.mp q
   split at q
   . obtain ⟨j,hj,q⟩:=Za.mp q
     split at q
     . obtain ⟨ld,el,q⟩:=Za.mp q
       split at q
       . obtain ⟨m,hm,q⟩:=Za.mp q
         cases q
         exact ⟨_,rfl⟩
       . cases q
     . cases q
   . cases q
 . cases q
theorem tj (i:Nat) {tg:Expr} (he:PV X e fm) (hg:PG X tg (yB (tOp (uA X.K) (oB i) (up X.K fk)) (up X.K fl) tf)) (hs:swapsWithSole [tg] e pos.line X.env=pure false:=by rfl) (hw:swappedStores [tg] e X.env=pure none:=by rfl)
 (h1:(assignEach [tg] X.env).map (·.2)=[assign tg X.env]:=by rfl):PZD X Z (.Assign [tg] e pos) (fK i fk fl fm):=fU (rO he hg hs hw h1) fun E σ H ⟨F,δ,r,⟨As,R⟩,hz,q,k⟩=>by
 obtain ⟨δ',rfl⟩:=rW q
 exact Cl (Q:=E.nx) R q fun F' H' δ2 e s1 R1=>by cases e;exact k σ F' H' s1 R1 hz
end
def qC (K:PySem.W.Frag) (n:Nat) (G:List D->Option (D×D)):Sp:=fun vs H Q _=>vs.length=n/\∃ v0 v1 ws F d0 d1 A0 A1 es d0' d1',vs=v0 :: v1 :: ws/\Same F H/\RepO K F H v0 d0 A0/\RepO K F H v1 d1 A1/\(A0++A1).Nodup/\Reps K F ws es/\bM es=true /\
 G (d0 :: d1 :: es)=some (d0',d1')/\∀ F' H' A0' A1',Same F F'->Same F' H'->RepO K F' H' v0 d0' A0'->RepO K F' H' v1 d1' A1'->(A0'++A1').Nodup->Q .non H'
def lD (n:Nat) (d0 d1:D) (es:List D):DS:=some d0 :: some d1 :: (es.map some++List.replicate (n - (es.length+2)) none)
def asZ (A0 A1:List Addr):Nat->List Addr
 | 0=>A0
 | 1=>A1
 | _=>[]
theorem qo {K:PySem.W.Frag} {F H:Hp} {N:List Str} {v0 v1:V} {ws:List V} {d0 d1:D} {es:List D} {A0 A1:List Addr} (s:Same F H) (r0:RepO K F H v0 d0 A0) (r1:RepO K F H v1 d1 A1) (nd:(A0++A1).Nodup) (r:Reps K F ws es) (im:bM es=true):fW K F H (L2.start N (v0 :: v1 :: ws)) (lD N.length d0 d1 es):=by
 have l:=r.length
 have nd':=List.nodup_append.mp nd
 refine ⟨asZ A0 A1,s,by unfold L2.start lD;simp [l],fun i d q=>?_,fun i h=>?_,fun i=>?_,fun i j a hij m=>?_⟩
 . match i,q with
   | 0,q=>cases q;exact ⟨v0,rfl,r0⟩
   | 1,q=>cases q;exact ⟨v1,rfl,r1⟩
   | i+2,q =>
    have q':(es.map some++List.replicate (N.length - (es.length+2)) none)[i]? = some (some d):=q
    have hi:i < es.length:=by
     by_cases hi:i < es.length
     . exact hi
     . rw [List.getElem?_append_right (by simpa using hi),List.getElem?_replicate] at q'
       split at q' <;> cases q'
    rw [List.getElem?_append_left (by simpa using hi),List.getElem?_map] at q'
    obtain ⟨e,h1,h2⟩:=Zb.mp q'
    cases h2
    obtain ⟨v,h5,h6⟩:=r.get h1
    refine ⟨v,?_,.imm (imms_mem.mp im d (List.mem_of_getElem? h1)) (h6.mono s)⟩
    unfold L2.start
    show (ws.map some++_)[i]? = _
    rw [List.getElem?_append_left (by rw [Zi,l];exact hi),List.getElem?_map,h5]
    rfl
 . match i,h with
   | 0,h=>exact absurd rfl (h d0)
   | 1,h=>exact absurd rfl (h d1)
   | i+2,_=>rfl
 . match i with
   | 0=>exact nd'.1
   | 1=>exact nd'.2.1
   | i+2=>exact List.nodup_nil
 . match i,j,hij,m with
   | 0,0,hij,_=>exact absurd rfl hij
   | 0,1,_,m=>exact fun z=>nd'.2.2 a m a z rfl
   | 0,j+2,_,_=>exact fun z=>nomatch z
   | 1,0,_,m=>exact fun z=>nd'.2.2 a z a m rfl
   | 1,1,hij,_=>exact absurd rfl hij
   | 1,j+2,_,_=>exact fun z=>nomatch z
   | i+2,_,_,m=>cases m
section
variable {P:Program} {w:World} {K:PySem.W.Frag} {mg:Str->Option Value} {base:Heap}
theorem Ai {x qual:Str} {st:Stmt} {f:Addr} {fd:FuncData} {N ps:List Str} {k:Nat} {G:List D->Option (D×D)} (F:Fun K x qual st f fd) (S:aA N ps (aj st))
 (hbody:∀ (cdv:Value) (A:Around) (outer:List Env) (s:Shared) (H:Hp) (E:XK) (Z:L2.St->Prop) (d0 d1:D) (es:List D) (d0' d1':D),Room k (A.deeper (envOfC qual (aj st) s.heap.objs.size f cdv))->ZOk Z->G (d0 :: d1 :: es)=some (d0',d1') ->
  ∃ t,PZs (kK CX0 P w K mg base N qual (aj st) f cdv A outer s H E).nox Z (bw st) t/\∃ δ',t (lD N.length d0 d1 es)=some (.nx δ')/\δ'[0]? = some (some d0')/\δ'[1]? = some (some d1')):FnOk P w K mg base CX0 (k+1) f fd ps (qC K ps.length G):=by
 refine F.ok S (fun vs H Q E h=>h.1) (fun cdv A outer s H vs Q E hr h=>?_)
 obtain ⟨hl,v0,v1,ws,F0,d0,d1,A0,A1,es,d0',d1',rfl,s0,r0,r1,nd,r,im,e,q⟩:=h
 obtain ⟨t,ht,δ',hq,g0,g1⟩:=hbody cdv A outer s H E (fun σ=>σ[0]? = some (some v0)/\σ[1]? = some (some v1)) d0 d1 es d0' d1' hr (fun i hi σ v ⟨a,b⟩=>⟨by rw [List.getElem?_set_ne (by omega)];exact a,by rw [List.getElem?_set_ne (by omega)];exact b⟩) e
 refine ⟨_,ht,F0,_,_,qo s0 r0 r1 nd r im,⟨rfl,rfl⟩,hq,fun σ' F' H' s1 ⟨As,R⟩ ⟨z0,z1⟩=>?_⟩
 obtain ⟨u0,h0,w0⟩:=R.val 0 _ g0
 obtain ⟨u1,h1,w1⟩:=R.val 1 _ g1
 rw [z0] at h0
 rw [z1] at h1
 cases h0
 cases h1
 exact q F' H' _ _ s1 R.fz w0 w1 (List.nodup_append.mpr ⟨R.nd 0,R.nd 1,fun a m b m' e=>by subst e;exact R.dj 0 1 a (by decide) m m'⟩)
structure AN (P:Program) (w:World) (K:PySem.W.Frag) (mg:Str->Option Value) (base:Heap) (k:Nat) (x:Str) (ps:List Str) (G:List D->Option (D×D)):Prop where
 ex:∃ f fd,FnOk P w K mg base CX0 k f fd ps (qC K ps.length G)/\mg x=some (.ref f)/\PySem.W.keepIn K (.ref f)=true/\Binds K fd ps []
end
def lK (i j:Nat) (G:List D->Option (D×D)) (g:FA):SD:=fun δ=>match δ[i]?,δ[j]? with
 | some (some (.lst xs)),some (some (.lst ys))=>(g δ).bind fun es=>(G (.lst xs :: .lst ys :: es)).bind fun p=>if bM es=true/\own p.1=true/\own p.2=true/\i ≠ j then some (.nx ((δ.set i (some p.1)).set j (some p.2))) else none
 | _,_=>none
noncomputable def sA (H:Hp) (A:List Addr):Hp:=fun a=>if a∈A then none else H a
theorem yS {H:Hp} {A:List Addr}:Same (sA H A) H:=fun a u e=>by
 unfold sA at e
 split at e
 . cases e
 . exact e
theorem rj {H:Hp} {A:List Addr} {a:Addr} (m:a∈A):sA H A a=none:=if_pos m
theorem lq {H:Hp} {A:List Addr} {a:Addr} (m:a ∉ A):sA H A a=H a:=if_neg m
theorem v7 {X:Cx} {e:Expr} {es:List Expr} {g:FA} {pos p spos:Pos} {k l n:Nat} {x:Str} {ps:List Str} {G:List D->Option (D×D)} (i j:Nat) (F:AN X.prog X.w X.K X.mg X.base k x ps G) (hr:Room l X.A) (ha:PA X (e :: es) (pZ (oB i) (pZ (oB j) (upA X.K n g)))) (hk:k<=l:=by decide) (hg:Gl X x:=by rfl)
 (hn:n+2=ps.length:=by rfl) (hdb:(x == ("__debug__":Str))=false:=by decide) (he:starEach (e :: es) X.env=(false,eval e X.env) :: starEach es X.env:=by rfl) (hpl:(backTo pos (starEach es X.env)).any (·.1)=false:=by rfl) (hs:swapsWith (.Call (.Name x p) (e :: es) [] pos) none spos.line X.env=pure false:=by rfl) :
 PMD X (.Expr (.Call (.Name x p) (e :: es) [] pos) spos) (lK i j G g):=by
 obtain ⟨f,fd,F,hm,kp,hb⟩:=F.ex
 refine fU (oS (kY F (hr.mono hk) hg hm kp hb .nil tG ha hdb he hpl) hs) fun E σ H ⟨F0,δ,r,⟨As,R⟩,q,k⟩=>?_
 unfold lK at q
 split at q
 . rename_i xs ys hi hj
   obtain ⟨ds,eds,q⟩:=Za.mp q
   obtain ⟨⟨d0',d1'⟩,eG,q⟩:=Za.mp q
   dsimp only at q
   split at q
   . rename_i hc
     obtain ⟨im,o0,o1,hij⟩:=hc
     cases q
     obtain ⟨v0,s0,r0⟩:=R.val i _ hi
     obtain ⟨v1,s1,r1⟩:=R.val j _ hj
     refine ⟨v0,s0,v1,s1,δ,ds,R.toS,eds,fun vs H1 t1 rr lv=>?_⟩
     show qC X.K ps.length G ((v0 :: v1 :: vs)++[]) H1 _ E0
     rw [List.append_nil]
     have R1:=R.grow t1
     obtain ⟨v0',s0',r0⟩:=R1.val i _ hi
     rw [s0] at s0'
     cases s0'
     obtain ⟨v1',s1',r1⟩:=R1.val j _ hj
     rw [s1] at s1'
     cases s1'
     have sF:Same F0 (sA H1 (As i++As j)):=fun a u e=>by
      rw [lq fun m=>?_]
      . exact R1.fz a u e
      . rcases Zn.mp m with z | z
        . rw [(R1.dom z).2] at e;cases e
        . rw [(R1.dom z).2] at e;cases e
     have nd:(As i++As j).Nodup:=List.nodup_append.mpr ⟨R1.nd i,R1.nd j,fun a m b m' e=>by subst e;exact R1.dj i j a hij m m'⟩
     refine ⟨by simp [lv,hn],v0,v1,vs,sA H1 (As i++As j),.lst xs,.lst ys,As i,As j,ds,d0',d1',rfl,yS,r0.froz sF fun a m=>rj (List.mem_append_left _ m),r1.froz sF fun a m=>rj (List.mem_append_right _ m),nd,?_,im,eG,fun F' H' A0' A1' sf sh w0 w1 nd'=>?_⟩
     . refine dD (fun a u e nl=>?_) rr im
       rw [lq fun m=>?_]
       . exact e
       . rcases Zn.mp m with z | z
         . obtain ⟨⟨ws,h⟩,_⟩:=R1.dom z
           rw [e] at h;cases h;exact absurd (ws.2.symm.trans nl) (fun z=>nomatch z)
         . obtain ⟨⟨ws,h⟩,_⟩:=R1.dom z
           rw [e] at h;cases h;exact absurd (ws.2.symm.trans nl) (fun z=>nomatch z)
     . have nd2:=List.nodup_append.mp nd'
       have hF:Same F0 H':=(sF.trans sf).trans sh
       have kI:d9 H1 H':=fun a u e nl=>by
        refine sh a u (sf a u ?_)
        rw [lq fun m=>?_]
        . exact e
        . rcases Zn.mp m with z | z
          . obtain ⟨⟨ws,h⟩,_⟩:=R1.dom z
            rw [e] at h;cases h;exact absurd (ws.2.symm.trans nl) (fun z=>nomatch z)
          . obtain ⟨⟨ws,h⟩,_⟩:=R1.dom z
            rw [e] at h;cases h;exact absurd (ws.2.symm.trans nl) (fun z=>nomatch z)
       have oth:∀ kx a,kx ≠ i->kx ≠ j->a∈As kx->H' a=H1 a/\F' a ≠ none:=fun kx a h1 h2 m=>by
        obtain ⟨⟨ws,h⟩,_⟩:=R1.dom m
        have b:sA H1 (As i++As j) a=some ws.1:=by
         rw [lq fun z=>?_]
         . exact h
         . rcases Zn.mp z with z | z
           . exact R1.dj kx i a h1 m z
           . exact R1.dj kx j a h2 m z
        have f:=sf a _ b
        exact ⟨by rw [h];exact sh a _ f,by rw [f];exact fun z=>nomatch z⟩
       have t0:=w0.thaw (sF.trans sf) o0
       have t1':=w1.thaw (sF.trans sf) o1
       have il:i < δ.length:=(List.getElem?_eq_some_iff.mp hi).1
       have jl:j < δ.length:=(List.getElem?_eq_some_iff.mp hj).1
       refine k σ F0 H' (Same.refl F0) ⟨jO (jO As i A0') j A1',hF,by rw [List.length_set,List.length_set];exact R.len,fun kx d q=>?_,fun kx h=>?_,fun kx=>?_,fun kx ky a hxy m=>?_⟩
       . by_cases hkj:kx=j
         . subst hkj
           rw [List.getElem?_set_self (by rw [List.length_set];exact jl)] at q
           cases q
           rw [aI]
           exact ⟨v1,s1,t1'⟩
         . rw [List.getElem?_set_ne (Ne.symm hkj)] at q
           rw [aH hkj]
           by_cases hki:kx=i
           . subst hki
             rw [List.getElem?_set_self il] at q
             cases q
             rw [aI]
             exact ⟨v0,s0,t0⟩
           . rw [List.getElem?_set_ne (Ne.symm hki)] at q
             rw [aH hki]
             obtain ⟨v,h1,h2⟩:=R1.val kx d q
             exact ⟨v,h1,h2.frame kI fun a m=>(oth kx a hki hkj m).1⟩
       . by_cases hkj:kx=j
         . subst hkj
           exact absurd (List.getElem?_set_self (by rw [List.length_set];exact jl)) (h d1')
         . rw [aH hkj]
           by_cases hki:kx=i
           . subst hki
             refine absurd ?_ (h d0')
             rw [List.getElem?_set_ne (Ne.symm hkj),List.getElem?_set_self il]
           . rw [aH hki]
             refine R1.non kx fun d z=>h d ?_
             rw [List.getElem?_set_ne (Ne.symm hkj),List.getElem?_set_ne (Ne.symm hki)]
             exact z
       . by_cases hkj:kx=j
         . subst hkj;rw [aI];exact nd2.2.1
         . rw [aH hkj]
           by_cases hki:kx=i
           . subst hki;rw [aI];exact nd2.1
           . rw [aH hki];exact R1.nd kx
       . have out0:∀ kz,kz ≠ i->kz ≠ j->a∈As kz->a ∉ A0':=fun kz h1 h2 mz z=>(oth kz a h1 h2 mz).2 (w0.dom a z).2
         have out1:∀ kz,kz ≠ i->kz ≠ j->a∈As kz->a ∉ A1':=fun kz h1 h2 mz z=>(oth kz a h1 h2 mz).2 (w1.dom a z).2
         by_cases hkj:kx=j
         . subst hkj
           rw [aI] at m
           rw [aH (Ne.symm hxy)]
           by_cases hki:ky=i
           . subst hki;rw [aI];exact fun z=>nd2.2.2 a z a m rfl
           . rw [aH hki];exact fun z=>out1 ky hki (Ne.symm hxy) z m
         . rw [aH hkj] at m
           by_cases hki:kx=i
           . subst hki
             rw [aI] at m
             by_cases hyj:ky=j
             . subst hyj;rw [aI];exact fun z=>nd2.2.2 a m a z rfl
             . rw [aH hyj,aH (Ne.symm hxy)];exact fun z=>out0 ky (Ne.symm hxy) hyj z m
           . rw [aH hki] at m
             by_cases hyj:ky=j
             . subst hyj;rw [aI];exact out1 kx hki hkj m
             . rw [aH hyj]
               by_cases hyi:ky=i
               . subst hyi;rw [aI];exact out0 kx hki hkj m
               . rw [aH hyi];exact R1.dj kx ky a hxy m
   . cases q
 . cases q
end Dl
namespace Dl
open PySem PySem.Spec PyProof.Rows L2
theorem Ev.sub {F H F' H':Hp} {As As':Nat->List Addr} {A B:List Addr} (ev:Ev F H As F' H' As' A) (h:∀ a∈B,a∈A) (nd:B.Nodup):Ev F H As F' H' As' B :=
 ⟨ev.fs,ev.hs,ev.nf,ev.fa,fun a m=>ev.fA a (h a m),nd,fun i a m z=>ev.dj i a m (h a z)⟩
theorem Ev.grow {F H F' H' H1:Hp} {As As':Nat->List Addr} {A:List Addr} (ev:Ev F H As F' H' As' A) (s:Same H' H1):Ev F H As F' H1 As' A :=
 ⟨ev.fs,ev.hs.trans s,ev.nf,ev.fa,ev.fA,ev.nd,ev.dj⟩
def xw (k:Nat) (fm:FM):FM:=fun δ=>(fm δ).bind fun p=>match p.1 with
 | .tup ds=>(ds[k]?).map fun d=>(d,p.2)
 | _=>none
theorem zN {X:Cx} {e b:Expr} {fm:FM} {pos:Pos} (k:Nat) (he:PV X e fm) (hb:PD X b (fC (.int (k:Int)))) (hs:ls b:=by intro _ _;rfl):PV X (.Subscript e b pos) (xw k fm):=imp (kh wL he hb hs) fun σ H Q ⟨F,δ,As,d,δ',R,q,kk⟩=>by
 unfold xw at q
 obtain ⟨⟨t,δ1⟩,et,q⟩:=Za.mp q
 dsimp only at q
 split at q
 . rename_i ds
   obtain ⟨d1,hd,q⟩:=Zb.mp q
   cases q
   refine ⟨F,δ,As,.tup ds,δ',R,et,fun v F' H' A As' ev R' r'=>?_⟩
   obtain ⟨a,vs,rfl,sq,ro⟩:=r'.parts
   refine ⟨δ',.int (k:Int),R'.toS,rfl,fun iv H1 s1 ri=>?_⟩
   cases ri
   obtain ⟨w,A1,B,A2,hw,rB,eA,_⟩:=ro.pick hd
   have nd:=ev.nd
   rw [eA] at nd
   have n1:=List.nodup_append.mp nd
   have n2:=List.nodup_append.mp n1.2.1
   refine ⟨a,vs,(k:Int),w,rfl,rfl,lE s1 sq,atI_nat hw,?_⟩
   refine kk w F' H1 B As' ((ev.sub (fun x m=>?_) n2.1).grow s1) (R'.grow s1) (rB.frame (bR s1) fun x m=>?_)
   . rw [eA];exact List.mem_append_right _ (List.mem_append_left _ m)
   . obtain ⟨⟨ws,e⟩,_⟩:=rB.dom x m
     rw [e];exact s1 x _ e
 . cases q
theorem iB:∀ {ns:List Int} {us:List Value},Vals (ns.map V.int) us->PyProof.Rows.IntsAre us ns
 | [],_,.nil=>.nil
 | n :: ns,_,.cons r t=>by
  obtain ⟨tk,rfl⟩:=r
  exact .cons n tk (iB t)
section
variable {X:Cx}
end
section
variable {K:PySem.W.Frag} {F H:Hp} {σ:L2.St} {δ:DS} {As:Nat->List Addr} {i:Nat} {x:D} {ds:List D}
end
section
variable {X:Cx} {pos:Pos} {c:Expr} {f:FD}
end
end Dl
namespace Dl
open PySem PySem.Spec PyProof.Rows L2
noncomputable def fnM (S:List D->D×D->Prop) (ds:List D):Option (D×D):=by
 classical exact if h:(∃ d,S ds d)/\∀ d e,S ds d->S ds e->d=e then some h.1.choose else none
theorem Ax {S:List D->D×D->Prop} {ds:List D} {p:D×D} (u:∀ q,S ds q->q=p) (h:S ds p):fnM S ds=some p:=by
 unfold fnM
 rw [dif_pos ⟨⟨p,h⟩,fun d e a b=>(u d a).trans (u e b).symm⟩]
 exact congrArg some (u _ (Exists.choose_spec (⟨p,h⟩:∃ d,S ds d)))
theorem yJ {S:List D->D×D->Prop} {ds:List D} {p:D×D} (h:fnM S ds=some p):S ds p:=by
 unfold fnM at h
 split at h
 . rename_i g
   cases h
   exact g.1.choose_spec
 . cases h
end Dl
namespace Dl
open PySem PySem.Spec PyProof.Rows L2
def lk (ks:List Int) (ds:List D) (k:Int):Option D:=((ks.zip ds).find? fun p=>decide (p.1=k)).map (·.2)
theorem pv {k j:Int} {ks:List Int} {d:D} {ds:List D}:lk (j :: ks) (d :: ds) k=if j=k then some d else lk ks ds k:=by
 unfold lk
 rw [List.zip_cons_cons,List.find?_cons]
 by_cases h:j=k
 . simp [h]
 . simp [h]
def kz (ks:List Int) (vs:List V):List (Key×V):=(ks.map Sum.inl).zip vs
theorem wC {K:PySem.W.Frag} {H:Hp} (k:Int):∀ {ks:List Int} {vs:List V} {ds:List D},ks.length=ds.length->Reps K H vs ds ->
 (∀ d,lk ks ds k=some d->∃ v,ji (kz ks vs) (.inl k)=some v/\Rep K H v d)/\(lk ks ds k=none->ji (kz ks vs) (.inl k)=none)
 | [],_,_,_,_=>⟨fun d e=>(by cases e),fun _=>rfl⟩
 | j :: ks,_,_,l,.nil=>by cases l
 | j :: ks,v :: vs,d :: ds,l,.cons r t=>by
  have ih:=wC k (ks:=ks) (by simpa using l) t
  rw [pv]
  show (∀ d',_->∃ w,ji ((.inl j,v) :: kz ks vs) (.inl k)=some w/\_)/\(_->ji ((.inl j,v) :: kz ks vs) (.inl k)=none)
  by_cases h:j=k
  . subst h
    rw [if_pos rfl,jg rfl]
    exact ⟨fun d' e=>by cases e;exact ⟨v,rfl,r⟩,fun e=>by cases e⟩
  . rw [if_neg h,jh (fun z=>h (by cases z;rfl))]
    exact ih
def asM:D->Option (List Int×List D)
 | .ms ks ds=>some (ks,ds)
 | .md ks ds=>some (ks,ds)
 | .mf ks ds=>some (ks,ds)
 | _=>none
theorem Rep.mapD {K:PySem.W.Frag} {H:Hp} {v:V} {d:D} {m:List Int×List D} (r:Rep K H v d) (e:asM d=some m):∃ a vs,v=.ref a/\Rd H a (.dK (kz m.1 vs))/\m.1.length=m.2.length/\Reps K H vs m.2:=by
 cases r with
 | ms h l r=>cases e;exact ⟨_,_,rfl,h,l,r⟩
 | md h l r=>cases e;exact ⟨_,_,rfl,.inl h,l,r⟩
 | mf h l r=>cases e;exact ⟨_,_,rfl,.inr h,l,r⟩
 | _=>cases e
def qT (a b:D):Option D:=(asM a).bind fun m=>match b with
 | .int k=>lk m.1 m.2 k
 | _=>none
def lb (a b:D):Option D:=(asM b).bind fun m=>match a with
 | .int k=>some (.bl (!(lk m.1 m.2 k).isSome))
 | _=>none
theorem wD {K:PySem.W.Frag} {H:Hp} {k:Int} {a:Addr} {ks:List Int} {vs:List V} {ds:List D} (h:Rd H a (.dK (kz ks vs))) (l:ks.length=ds.length) (r:Reps K H vs ds):∃ o,vh H a (.int k) o/\o.isSome=(lk ks ds k).isSome/\∀ d,lk ks ds k=some d->∃ v,o=some v/\Rep K H v d:=by
 obtain ⟨h1,h2⟩:=wC (H:=H) k l r
 refine ⟨_,.inl ⟨_,.inl k,h,rfl,rfl⟩,?_,fun d e=>?_⟩
 . cases q:lk ks ds k with
   | none=>rw [h2 q];rfl
   | some d=>obtain ⟨v,e,_⟩:=h1 d q;rw [e];rfl
 . exact h1 d e
section
variable {X:Cx} {a b:Expr} {fa fb:FD} {pos:Pos}
theorem kZ (hu:X.A.units+1 < cLine) (ha:PD X a fa) (hb:PD X b fb) (hs:AM b:=by intro _ _;rfl):PD X (.Subscript a b pos) (f2 qT fa fb):=imp (x4 hu ha hb hs) fun σ H Q ⟨δ,d,R,e,k⟩=>by
 obtain ⟨x,ex,e⟩:=Za.mp e
 obtain ⟨y,ey,e⟩:=Za.mp e
 unfold qT at e
 obtain ⟨m,em,e⟩:=Za.mp e
 split at e
 . rename_i kk _
   refine ⟨δ,x,R,ex,fun v H1 s1 r1=>⟨δ,_,R.mono s1,ey,fun w H2 s2 r2=>?_⟩⟩
   obtain ⟨p,vs,rfl,h,l,r⟩:=(r1.mono s2).mapD em
   cases r2
   obtain ⟨o,g,_,f⟩:=wD (k:=kk) h l r
   obtain ⟨u,rfl,ru⟩:=f d e
   exact ⟨p,u,rfl,g,k u H2 (s1.trans s2) ru⟩
 . cases e
theorem r9 {K:PySem.W.Frag} {σ:L2.St} {H:Hp} {Q:VK} (q:up K (f2 lb fa fb) σ H Q):sN (up K fa) (up K fb) σ H Q:=by
 obtain ⟨δ,d,R,e,k⟩:=q
 obtain ⟨x,ex,e⟩:=Za.mp e
 obtain ⟨y,ey,e⟩:=Za.mp e
 unfold lb at e
 obtain ⟨m,em,e⟩:=Za.mp e
 split at e
 . rename_i kk _ _
   cases e
   refine ⟨δ,_,R,ex,fun v H1 s1 r1=>⟨δ,y,R.mono s1,ey,fun w H2 s2 r2=>?_⟩⟩
   cases r1
   obtain ⟨p,vs,rfl,h,l,r⟩:=r2.mapD em
   obtain ⟨o,g,i,_⟩:=wD (k:=kk) h l r
   refine ⟨p,o,rfl,g,?_⟩
   rw [i]
   exact k _ H2 (s1.trans s2) (.bl _)
 . cases e
theorem rL (hu:X.A.units+1 < cLine) (ha:PD X a fa) (hb:PD X b fb) (hm:behindInMarks .NotIn b=false:=by with_unfolding_all rfl):PTD X (.Compare a [.NotIn] [b] pos) (fT (f2 lb fa fb)):=yw (zR (uG hu ha hb) hm) fun _ _ _ q=>sC (fun _ _ _ z=>r9 z) q
end
def ptV {α:Type} (ks:List Int) (ds:List α) (k:Int) (x:α):List α:=if k∈ks then (ks.zip ds).map fun p=>if p.1=k then x else p.2 else ds++[x]
def ptK (ks:List Int) (k:Int):List Int:=if k∈ks then ks else ks++[k]
def qi (i:Nat) (fk:FD) (fm:FM):SD:=fun δ=>(fm δ).bind fun p=>match p.2[i]? with
 | some (some (.md ks ds))=>(fk p.2).bind fun kd=>match kd with
  | .int k=>if imm p.1 && decide (ks.length<=999) then some (.nx (p.2.set i (some (.md (ptK ks k) (ptV ks ds k p.1))))) else none
  | _=>none
 | _=>none
section
variable {K:PySem.W.Frag} {F H:Hp} {σ:L2.St} {δ:DS} {As:Nat->List Addr}
theorem RepO.md_inv {ks:List Int} {ds:List D}:∀ {v:V} {d:D} {A:List Addr},RepO K F H v d A->d=.md ks ds->∃ a vs,v=.ref a/\A=[a]/\H a=some (.dK (kz ks vs))/\F a=none/\ks.length=ds.length/\bM ds=true/\Reps K H vs ds
 | _,_,_,.imm i _,e=>by subst e;rw [Dl.imm] at i;cases i
 | _,_,_,.shr _,e=>nomatch e
 | _,_,_,.shm _,e=>nomatch e
 | _,_,_,.shf _,e=>nomatch e
 | _,_,_,.tup _ _,e=>nomatch e
 | _,_,_,.lst _ _ _,e=>nomatch e
 | _,_,_,.md h n l i r,e=>by cases e;exact ⟨_,_,rfl,rfl,h,n,l,i,r⟩
theorem RepA.md {i:Nat} {ks:List Int} {ds:List D} (R:RepA K F H σ δ As) (h:δ[i]? = some (some (.md ks ds))):∃ a vs,σ[i]? = some (some (.ref a))/\As i=[a]/\H a=some (.dK (kz ks vs))/\F a=none/\ks.length=ds.length/\bM ds=true/\Reps K H vs ds:=by
 obtain ⟨v,h1,h2⟩:=R.val i _ h
 obtain ⟨a,vs,rfl,r⟩:=h2.md_inv rfl
 exact ⟨a,vs,h1,r⟩
theorem xq {k:Int}:∀ {ks:List Int} {vs:List V},ks.length=vs.length->((kz ks vs).any fun kv=>decide (kv.1=(.inl k:Key)))=decide (k∈ks)
 | [],_,_=>by simp [kz]
 | j :: ks,[],l=>by cases l
 | j :: ks,v :: vs,l=>by
  show ((Sum.inl j,v) :: kz ks vs).any _=_
  rw [List.any_cons,xq (by simpa using l)]
  by_cases h:j=k
  . subst h;simp
  . have h':¬ k=j:=fun z=>h z.symm
    simp [h,h',Sum.inl.injEq]
theorem wJ {ks:List Int} {vs:List V} (l:ks.length=vs.length):(kz ks vs).length=ks.length:=by
 unfold kz;rw [List.length_zip,Zi];omega
theorem wI {k:Int} {v:V}:∀ {ks:List Int} {vs:List V},ks.length=vs.length->((kz ks vs).map fun kv=>if kv.1=(.inl k:Key) then (kv.1,v) else kv)=kz ks ((ks.zip vs).map fun p=>if p.1=k then v else p.2)
 | [],_,_=>by simp [kz]
 | j :: ks,[],l=>by cases l
 | j :: ks,w :: vs,l=>by
  have ih:=wI (k:=k) (v:=v) (ks:=ks) (vs:=vs) (by simpa using l)
  show (if (Sum.inl j:Key)=.inl k then ((Sum.inl j:Key),v) else (.inl j,w)) :: ((kz ks vs).map _)=(.inl j,if j=k then v else w) :: kz ks ((ks.zip vs).map _)
  rw [ih]
  by_cases h:j=k
  . subst h;rw [if_pos rfl,if_pos rfl]
  . rw [if_neg (fun z=>h (by cases z;rfl)),if_neg h]
theorem Aj {k:Int} {v:V} {ks:List Int} {vs:List V} (l:ks.length=vs.length):ic (kz ks vs) (.inl k) v=kz (ptK ks k) (ptV ks vs k v):=by
 unfold ic ptK ptV
 rw [xq l]
 by_cases h:k∈ks
 . rw [if_pos (by simpa using h),if_pos h,if_pos h,wI l]
 . rw [if_neg (by simpa using h),if_neg h,if_neg h]
   unfold kz
   rw [List.map_append,List.zip_append (by rw [Zi];exact l)]
   rfl
theorem qm {k:Int} {v:V} {d:D} (rv:Rep K H v d):∀ {ks:List Int} {vs:List V} {ds:List D},ks.length=ds.length->Reps K H vs ds->Reps K H ((ks.zip vs).map fun p=>if p.1=k then v else p.2) ((ks.zip ds).map fun p=>if p.1=k then d else p.2)
 | [],_,_,_,_=>.nil
 | j :: ks,_,_,l,.nil=>by cases l
 | j :: ks,w :: vs,e :: ds,l,.cons r t=>by
  have ih:=qm (k:=k) rv (ks:=ks) (by simpa using l) t
  show Reps K H ((if j=k then v else w) :: _) ((if j=k then d else e) :: _)
  by_cases h:j=k
  . rw [if_pos h,if_pos h];exact .cons rv ih
  . rw [if_neg h,if_neg h];exact .cons r ih
theorem nM {v:V} {d:D} (rv:Rep K H v d):∀ {vs:List V} {ds:List D},Reps K H vs ds->Reps K H (vs++[v]) (ds++[d])
 | _,_,.nil=>.cons rv .nil
 | _,_,.cons r t=>.cons r (nM rv t)
theorem vE {k:Int} {v:V} {d:D} {ks:List Int} {vs:List V} {ds:List D} (rv:Rep K H v d) (l:ks.length=ds.length) (r:Reps K H vs ds):Reps K H (ptV ks vs k v) (ptV ks ds k d):=by
 unfold ptV
 split
 . exact qm rv l r
 . exact nM rv r
theorem qP {k:Int} {d:D} (h:imm d=true):∀ {ks:List Int} {ds:List D},bM ds=true->bM ((ks.zip ds).map fun p=>if p.1=k then d else p.2)=true
 | [],_,_=>rfl
 | j :: ks,[],_=>rfl
 | j :: ks,e :: ds,i=>by
  rw [bM,Bool.and_eq_true] at i
  show bM ((if j=k then d else e) :: _)=true
  rw [bM,Bool.and_eq_true]
  exact ⟨(by split;exact h;exact i.1),qP h i.2⟩
theorem nY {d:D} (h:imm d=true):∀ {ds:List D},bM ds=true->bM (ds++[d])=true
 | [],_=>by show bM [d]=true;rw [bM,h];rfl
 | e :: ds,i=>by
  rw [bM,Bool.and_eq_true] at i
  show bM (e :: (ds++[d]))=true
  rw [bM,Bool.and_eq_true]
  exact ⟨i.1,nY h i.2⟩
theorem qO {k:Int} {d:D} {ks:List Int} {ds:List D} (h:imm d=true) (i:bM ds=true):bM (ptV ks ds k d)=true:=by
 unfold ptV
 split
 . exact qP h i
 . exact nY h i
theorem yo {α:Type} {k:Int} {d:α} {ks:List Int} {ds:List α} (l:ks.length=ds.length):(ptK ks k).length=(ptV ks ds k d).length:=by
 unfold ptK ptV
 split
 . rw [Zi,List.length_zip];omega
 . rw [Zh,Zh,l];rfl
end
section
variable {X:Cx} {e ei:Expr} {fk:FD} {fm:FM} {pos p1 p2 p3 p4:Pos}
theorem xV (hu:X.A.units+1 < cLine) (i:Nat) {x:Str} (he:PV X e fm) (hk:PD X ei fk) (hN:X.N[i]? = some x:=by rfl) (hv:Vis X.env.scope x:=by first | exact Or.inl rfl | exact Or.inr (Or.inl rfl) | exact Or.inr (Or.inr rfl)) (hd:(x == ("__debug__":Str))=false:=by decide) (hcd:(x == ("__classdict__":Str))=false:=by decide)
 (hs:swapsWith e (some (.Subscript (.Name x p1) ei p2)) pos.line X.env=pure false:=by rfl) :
 PMD X (.Assign [.Subscript (.Name x p1) ei p2] e pos) (qi i fk fm) :=
 fU (xR hu (oZ hN hv hd hcd) hk he hs) fun E σ H ⟨F,δ,r,⟨As,R⟩,q,k⟩=>by
 unfold qi at q
 obtain ⟨⟨d,δ'⟩,ed,q⟩:=Za.mp q
 dsimp only at q
 split at q
 . rename_i ks ds h1
   obtain ⟨kd,ek,q⟩:=Za.mp q
   split at q
   . rename_i kk
     split at q
     . rename_i hc
       cases q
       rw [Bool.and_eq_true,decide_eq_true_eq] at hc
       obtain ⟨hi,hz⟩:=hc
       refine ⟨F,δ,As,d,δ',R,ed,fun v F' H' A As' ev R' r'=>?_⟩
       obtain ⟨a,vs,s1,eA,g1,n1,l1,i1,rp⟩:=R'.md h1
       refine ⟨.ref a,s1,δ',.int kk,R'.toS,ek,fun iv H2 s2 ri=>?_⟩
       cases ri
       have R2:=R'.grow s2
       have r2:=(r'.rep R'.fz).mono s2
       obtain ⟨a2,vs2,s12,eA2,g2,n2,l2,i2,rp2⟩:=R2.md h1
       have ea:a2=a:=by rw [s1] at s12;cases s12;rfl
       subst ea
       have lv:ks.length=vs2.length:=by rw [rp2.length];exact l2
       refine ⟨a2,_,rfl,DPut.k (k:=.inl kk) g2 (Nat.lt_of_le_of_lt (by rw [wJ lv];exact hz) (iC (show 999<=1000 by decide))),?_⟩
       rw [Aj lv]
       have ai:a2∈As' i:=by rw [eA2];exact Zj
       have hl:i < δ'.length:=(List.getElem?_eq_some_iff.mp h1).1
       have kp:d9 H2 (upd H2 a2 (.dK (kz (ptK ks kk) (ptV ks vs2 kk v)))):=gA g2 rfl
       have nj:∀ j x,j ≠ i->x∈As' j->x ≠ a2:=fun j x hj m z=>R2.dj j i x hj m (z ▸ ai)
       have rn:Reps X.K (upd H2 a2 (.dK (kz (ptK ks kk) (ptV ks vs2 kk v)))) (ptV ks vs2 kk v) (ptV ks ds kk d):=dD kp (vE r2 l2 rp2) (qO hi i2)
       exact k σ F' _ ev.fs ⟨_,R2.write hl s12 kp (jr R2.fz n2) (fun j x hj m=>ax (nj j x hj m)) (.md aU n2 (yo l2) (qO hi i2) rn) (List.nodup_cons.mpr ⟨fun z=>(nomatch z),List.nodup_nil⟩) fun j x hj m z=>nj j x hj m (Zl.mp z)⟩
     . cases q
   . cases q
 . cases q
end
section
variable {K:PySem.W.Frag} {F H:Hp} {σ:L2.St} {δ:DS} {As:Nat->List Addr}
theorem Ag {H1:Hp} {ks:List Int} {vs:List V} {ds:List D} {p:Addr} {Q:VK} (R:RepA K F H σ δ As) (s:Same H H1) (r:Reps K H1 vs ds) (l:ks.length=ds.length) (i:bM ds=true) (hp:H p=none) (hm:H1 p=none \/ ∃ es,H1 p=some (.dK es))
 (k:∀ v F' H' A As',Ev F H As F' H' As' A->RepA K F' H' σ δ As'->RepO K F' H' v (.md ks ds) A->Q v H'):Q (.ref p) (upd H1 p (.dK (kz ks vs))):=by
 have sn:Same H (upd H1 p (.dK (kz ks vs))):=fun a u e=>by
  have:a ≠ p:=fun z=>by rw [z,hp] at e;cases e
  rw [ax this];exact s a u e
 have kp:d9 H1 (upd H1 p (.dK (kz ks vs))):=fun a u e n=>by
  have:a ≠ p:=fun z=>by
   rw [z] at e
   rcases hm with h | ⟨es,h⟩
   . rw [h] at e;cases e
   . rw [h] at e;cases e;cases n
  rw [ax this];exact e
 refine k _ F _ [p] As (.fresh sn (fun a m=>?_) (List.nodup_cons.mpr ⟨fun z=>(nomatch z),List.nodup_nil⟩) (fun i a m=>(R.dom m).1)) (R.grow sn) (.md aU (bZ R.fz hp) l i (dD kp r i))
 rw [Zl.mp m]
 exact hp
end
def tX:List D->Option (List Int×List D)
 | [d]=>asM d
 | _=>none
def sM (g:FA):FM:=fun δ=>(g δ).bind fun xs=>(tX xs).bind fun m=>if bM m.2 then some (.md m.1 m.2,δ) else none
def rD (fk fv:FD):FM:=fun δ=>(fk δ).bind fun kd=>match kd with
 | .int k=>(fv δ).bind fun d=>if imm d then some (.md [k] [d],δ) else none
 | _=>none
section
variable {X:Cx} {e ek ev:Expr} {g:FA} {fk fv:FD} {pos p:Pos}
theorem pP:iz X (.type "dict") (fun xs H Q=>∃ a kvs,xs=[.ref a]/\Rd H a (.dK kvs)/\∀ l,H l=none->Q (.ref l) (upd H l (.dK kvs))):=by
 intro pins s σ H xs us Q I r h
 obtain ⟨a,kvs,rfl,hq,q⟩:=h
 obtain ⟨u,rfl,rx⟩:=lx r
 cases rx
 exact xh I hq fun l s' hl I'=>⟨.ref l,_,I',rfl,q l hl⟩
theorem uC (hg:Gl X "dict") (hm:X.mg "dict" = none) (hv:bootBuiltins "dict" = some (.type "dict")) (ha:PAD X [e] g) (he:starEach [e] X.env=(false,eval e X.env) :: starEach [] X.env:=by rfl) (hpl:(backTo pos (starEach [] X.env)).any (·.1)=false:=by rfl) :
 PV X (.Call (.Name "dict" p) [e] [] pos) (sM g):=imp (jX pP hg hm hv ha (by decide) (by decide) he hpl) fun σ H Q ⟨F,δ,As,d,δ',RA,q,k⟩=>by
 unfold sM at q
 obtain ⟨xs,exs,q⟩:=Za.mp q
 obtain ⟨m,em,q⟩:=Za.mp q
 split at q
 . rename_i hi
   cases q
   refine ⟨_,xs,RA.toS,exs,fun vs H1 s1 r1 l=>?_⟩
   unfold tX at em
   split at em
   . obtain ⟨v,rfl,rv⟩:=fM r1
     obtain ⟨a,ws,rfl,h,hl,rp⟩:=rv.mapD em
     exact ⟨a,_,rfl,h,fun q hq=>Ag RA s1 rp hl hi (bZ s1 hq) (.inl hq) k⟩
   . cases em
 . cases q
def sk (fk fv:FD):FD:=fun δ=>(rD fk fv δ).map (·.1)
theorem wf (hk:PD X ek fk) (hv:PD X ev fv):PD X (.Dict [some ek] [ev] pos) (sk fk fv):=imp (x3 (vV hk hv xS) rfl rfl (by simp) (by simp)) fun σ H Q ⟨δ,d,R,q,k⟩=>by
 unfold sk rD at q
 obtain ⟨⟨d1,δ1⟩,q2,rfl⟩:=Zb.mp q
 clear q
 obtain ⟨kd,ekd,q⟩:=Za.mp q2
 split at q
 . rename_i kk
   obtain ⟨x,ex,q⟩:=Za.mp q
   split at q
   . rename_i hi
     cases q
     intro p hp
     have s0:=c5 hp (.dK [])
     refine ⟨_,.int kk,R.mono s0,ekd,fun kv H1 s1 rk=>⟨_,x,(R.mono s0).mono s1,ex,fun v H2 s2 rv=>?_⟩⟩
     cases rk
     have e2:H2 p=some (.dK []):=s2 _ _ (s1 _ _ aU)
     have kp:d9 H2 (upd H2 p (.dK (kz [kk] [v]))):=gA e2 rfl
     have sn:Same H (upd H2 p (.dK (kz [kk] [v]))):=fun b u e=>by
      have:b ≠ p:=fun z=>by rw [z,hp] at e;cases e
      rw [ax this];exact s2 _ _ (s1 _ _ (s0 _ _ e))
     exact ⟨e2,[(.inl kk,v)],rfl,(by simp),k (.ref p) (upd H2 p (.dK (kz [kk] [v]))) sn (.md aU rfl (.cons (ib kp rv hi) .nil))⟩
   . cases q
 . cases q
end
end Dl
namespace Dl
open PySem PySem.Spec PyProof.Rows L2
def Itd (d:Addr) (o:Obj) (kvs:List (Key×V)):It :=
 ⟨fun i H=>H d=some (.frz o (.dK kvs))/\i < kvs.length,fun i H v H'=>H'=H/\∃ k x,kvs[i]? = some (k,x)/\v=kV k,fun i H=>H d=some (.frz o (.dK kvs))/\kvs.length<=i⟩
theorem uR {k:Key} {u:Value} (h:mG k u=true):RelV (kV k) u:=by
 rcases bN h with ⟨i,t,rfl,rfl⟩ | ⟨x,t,rfl,rfl⟩
 . exact ⟨t,rfl⟩
 . exact ⟨t,rfl⟩
theorem ol {P:Program} {w:World} {H:Hp} {h:Heap} {d:Addr} {o:Obj} {kvs:List (Key×V)} {ep:Nat} (ok:HOk P w H h) (e:H d=some (.frz o (.dK kvs))) (hd:∃ es,o.data=.dict es ep):(d == sysModules)=false/\∃ vs,KV kvs vs/\h.DictAt (bF P w) d vs ep:=by
 obtain ⟨ho,_,hs,vs,r,o',es,ep',ho',c⟩:=(show h.get? d=some o/\kvs.length<=sizeLine/\(d == sysModules)=false/\∃ vs,KV kvs vs/\h.DictOf (bF P w) d vs from ok d _ e)
 rw [ho] at ho'
 cases ho'
 obtain ⟨es2,hd⟩:=hd
 obtain ⟨c1,c2,c3⟩:=c
 rw [c2] at hd
 cases hd
 exact ⟨hs,vs,r,_,_,ho,c1,c2,c3⟩
theorem ur {P:Program} {w:World} {K:PySem.W.Frag} {tg:Expr} {it d:Addr} {o:Obj} {kvs:List (Key×V)} {ep:Nat} (hd:∃ es,o.data=.dict es ep) (hne:d ≠ it):sD P w K tg (Itd d o kvs) [it] it (fun i h=>h.IsKeyIter it d i kvs.length ep) where
 mem:=by simp
 obj:=fun i h st b hb=>by
  obtain ⟨o1,e1,_,d1⟩:=st
  have e:b=it:=by simpa using hb
  subst e
  exact ⟨o1,e1,fun v q=>by rw [d1] at q;cases q⟩
 keep:=fun i h h' st k=>st.at fun o e=>k it (by simp) o e
 item:=by
  intro X hP hw hK hc i pins s σ H E I hf st hg
  subst hP hw hK
  obtain ⟨f0,f1,f2,f3,f4,f5⟩:=hf it (by simp)
  obtain ⟨e,hi⟩:=hg
  obtain ⟨_,vs,r,da⟩:=ol I.hok e hd
  have hl:=r.length
  rw [hl] at st
  obtain ⟨⟨k,x⟩,hx⟩:∃ p,vs[i]? = some p:=⟨vs[i]'(by omega),by simp [show i < vs.length by omega]⟩
  refine wpAny_pyNext_dict_item st da hx fun key h' hkey hit' hs'=>?_
  refine ⟨key,rfl,letGo_keyiter hit' ⟨kV k,H,?_,uR hkey,⟨rfl,?_⟩,by rw [hl];exact hit',fun b hb=>(hf b hb).1⟩⟩
  . exact I.turned (t':=s.toks) (fun b o hb e=>hs'.extBut b o hb e) f0 f1 f3 f4 f5
  . have hk:=r.keys
    have h1:(kvs.map (·.1))[i]? = some k:=by rw [hk,List.getElem?_map,hx];rfl
    rw [List.getElem?_map] at h1
    cases q:kvs[i]? with
    | none=>rw [q] at h1;cases h1
    | some p=>rw [q] at h1;cases h1;exact ⟨p.1,p.2,rfl,rfl⟩
 done:=by
  intro X hP hw hK hc i pins s σ H E I hf st hg
  subst hP hw hK
  obtain ⟨f0,f1,f2,f3,f4,f5⟩:=hf it (by simp)
  obtain ⟨e,hi⟩:=hg
  obtain ⟨_,vs,r,da⟩:=ol I.hok e hd
  have hl:=r.length
  rw [hl] at st
  exact wpAny_pyNext_dict_end (I.ok.hd hc) st da (by simp;omega) fun h' eb=>⟨rfl,I.turned (t':=s.toks) (fun b o hb e=>eb b o hb e) f0 f1 f3 f4 f5⟩
 self:=fun _ _ _ _ _ st h=>wpAny_pyIter_keyiter st h
def BP (tl:TE):TI:=fun σ H R=>tl σ H fun x H1=>∃ d o kvs,x=.ref d/\H1 d=some (.frz o (.dK kvs))/\R (Itd d o kvs) H1
theorem x0 {X:Cx} {tg l:Expr} {tl:TE} (hl:PE X l tl):PI X tg l (BP tl):=by
 intro pins s σ H R I h
 refine thn (hl pins s σ H _ I h) fun v s1 ⟨x,H1,I1,r1,q1⟩=>?_
 obtain ⟨d,o,kvs,e,hq,q⟩:=q1
 subst e
 cases r1
 have z:=I1.hok d _ hq
 obtain ⟨ho,_,hs,vs,r,o',es,ep,ho',c1,c2,c3⟩:=(show s1.heap.get? d=some o/\kvs.length<=sizeLine/\(d == sysModules)=false/\∃ vs,KV kvs vs/\s1.heap.DictOf (bF X.prog X.w) d vs from z)
 rw [ho] at ho'
 cases ho'
 have da:s1.heap.DictAt (bF X.prog X.w) d vs ep:=⟨_,_,ho,c1,c2,c3⟩
 refine wpAny_pyIter_dict hs da ?_
 have hlt:d < s1.heap.objs.size:=Heap.lt_size ho
 refine ⟨s1.heap.objs.size,[s1.heap.objs.size],_,_,H1,rfl,I1.kept (t':=s1.toks) fun b o e=>Heap.get?_push_of_some _ e,ur (kvs:=kvs) ⟨es,c2⟩ (Nat.ne_of_lt hlt),⟨_,Heap.get?_push_size _ rfl,rfl,?_⟩,fun b hb=>?_,q⟩
 . show Data.fields _=Data.fields _
   rw [r.length]
   rfl
 . have e:b=s1.heap.objs.size:=by simpa using hb
   subst e
   exact I1.fpOk (Nat.le_refl _) (I1.hok.fresh (Nat.le_refl _))
def BK (d:D):Option (List D):=match d with
 | .mf ks _=>some (ks.map D.int)
 | _=>none
theorem Ak {ks:List Int} {vs:List V} {i:Nat} {k:Key} {x:V} (h:(kz ks vs)[i]? = some (k,x)):∃ j,ks[i]? = some j/\k=.inl j:=by
 unfold kz at h
 rw [List.getElem?_zip_eq_some] at h
 obtain ⟨h1,_⟩:=h
 rw [List.getElem?_map] at h1
 cases q:ks[i]? with
 | none=>rw [q] at h1;cases h1
 | some j=>rw [q] at h1;cases h1;exact ⟨j,rfl,rfl⟩
theorem yv {K:PySem.W.Frag} {H1:Hp} {d:Addr} {o:Obj} {ks:List Int} {vs:List V} (l:ks.length=vs.length) (h:H1 d=some (.frz o (.dK (kz ks vs)))):ItD K (Itd d o (kz ks vs)) H1 (ks.map D.int):=by
 intro i H2 s
 have h2:=s _ _ h
 have hl:=wJ l
 rw [Zi]
 refine ⟨fun hi=>⟨⟨h2,by omega⟩,fun x H' y=>?_⟩,fun hi=>⟨h2,by omega⟩⟩
 obtain ⟨rfl,k,w,e,rfl⟩:=y
 obtain ⟨j,hj,rfl⟩:=Ak e
 exact ⟨Same.refl _,.int j,by rw [List.getElem?_map,hj];rfl,.int j⟩
theorem qw {X:Cx} {tg l:Expr} {f:FD} (hl:PD X l f):PID X tg l (fun δ=>(f δ).bind BK):=sd (x0 hl) fun σ H R ⟨δ,ds,R0,e,k⟩=>by
 obtain ⟨d,ed,e⟩:=Za.mp e
 refine ⟨δ,d,R0,ed,fun v H1 s1 r1=>?_⟩
 cases r1 with
 | @mf p ks vs es hp hz rp =>
  cases e
  obtain ⟨o,hp⟩:=hp
  exact ⟨p,o,_,rfl,hp,k _ H1 s1 (yv (by rw [rp.length];exact hz) hp)⟩
 | _=>cases e
end Dl
namespace Dl
open PySem PySem.Spec PyProof.Rows L2
section
variable {X:Cx} {pins:List (Addr×Obj)} {σ:L2.St} {H:Hp} {s:Shared} {a:Addr} {u u':HO}
theorem qM (I:L2.Inv X pins σ H s) (h:H a=some u) (n1:∀ xs,u ≠ .tup xs) (n2:∀ y,u ≠ .own y) (n3:∀ o w,X.H₀ a ≠ some (.frz o w)) (n4:∀ ps,u ≠ .tbl ps) (new:ObjOk X.prog X.w (upd H a u') s.heap a u'):L2.Inv X pins σ (upd H a u') s where
 ok:=I.ok
 os:=I.os
 bare:=I.bare
 base:={ keep:=I.base.keep,slot:=I.base.slot,there:=I.base.there
         free:=fun b o e n hx=>by
          have z:=I.base.free b o e n hx
          rw [ax fun q=>by rw [q,h] at z;cases z];exact z
         tups:=fun b xs e=>by
          have z:=I.base.tups b xs e
          rw [ax fun q=>by rw [q,h] at z;cases z;exact n1 _ rfl];exact z
         frzs:=fun b o w e=>by
          have z:=I.base.frzs b o w e
          have hb:b ≠ a:=fun q=>by subst q;exact n3 o w e
          rw [ax hb];exact z
         tbls:=fun b ps e=>by
          obtain ⟨m,z⟩:=I.base.tbls b ps e
          exact ⟨m,by rw [ax fun q=>by rw [q,h] at z;cases z;exact n4 _ rfl];exact z⟩ }
 loc:=I.loc
 cell:=I.cell
 free:=by
  have z:=I.free
  rw [ax fun q=>by rw [q,h] at z;cases z];exact z
 freeC:=fun x c e=>by
  have z:=I.freeC x c e
  rw [ax fun q=>by rw [q,h] at z;cases z];exact z
 pin:=fun p hp=>by
  obtain ⟨h1,z,h3⟩:=I.pin p hp
  exact ⟨h1,by rw [ax fun q=>by rw [q,h] at z;cases z];exact z,h3⟩
 hok:=fun b w e=>by
  by_cases hb:b=a
  . subst hb;rw [aU] at e;cases e;exact new
  . rw [ax hb] at e
    refine (I.hok b w e).stay (fun _ _ _ q=>q) (fun c r=>?_) fun c xs r=>?_
    . rw [ax fun q=>by rw [q,h] at r;cases r;exact n2 _ rfl];exact r
    . rw [ax fun q=>by rw [q,h] at r;cases r;exact n1 _ rfl];exact r
 len:=I.len
theorem BD (I:L2.Inv X pins σ H s) (h:H a=some u) (n:∀ o w,u ≠ .frz o w):∀ o w,X.H₀ a ≠ some (.frz o w):=fun o w e=>by
 have z:=I.base.frzs a o w e
 rw [h] at z;cases z;exact n _ _ rfl
end
def vFz (i:Nat) (f:FD):FM:=fun δ=>match δ[i]? with
 | some (some (.md ks ds))=>(f (δ.set i (some (.mf ks ds)))).bind fun d=>if imm d then some (d,δ) else none
 | _=>none
theorem Bu {X:Cx} {e:Expr} {f:FD} (i:Nat) (h:PD X e f):PV X e (vFz i f):=fun pins s σ H Q I ⟨F,δ,As,d,δ',R,q,k⟩=>by
 unfold vFz at q
 split at q
 . rename_i ks ds hi
   obtain ⟨d0,e0,q⟩:=Za.mp q
   split at q
   . rename_i im
     cases q
     obtain ⟨a,vs,s1,eA,g1,n1,l1,i1,rp⟩:=R.md hi
     have ok:=I.hok a _ g1
     obtain ⟨z1,z2,us,r,o,es,ep,ho,c⟩:=(show (kz ks vs).length<=sizeLine/\(a == sysModules)=false/\∃ us,KV (kz ks vs) us/\s.heap.DictOf (bF X.prog X.w) a us from ok)
     have nf:=BD I g1 (fun _ _ z=>nomatch z)
     have I1:L2.Inv X pins σ (upd H a (.frz o (.dK (kz ks vs)))) s:=qM I g1 (fun _ z=>nomatch z) (fun _ z=>nomatch z) nf (fun _ z=>nomatch z) ⟨ho,z1,z2,us,r,o,es,ep,ho,c⟩
     have kp:d9 H (upd H a (.frz o (.dK (kz ks vs)))):=gA g1 rfl
     have R1:RepS X.K (upd H a (.frz o (.dK (kz ks vs)))) σ (δ.set i (some (.mf ks ds))):=by
      refine ⟨by rw [List.length_set];exact R.len,fun j x q=>?_⟩
      rw [List.getElem?_set] at q
      by_cases hj:i=j
      . subst hj
        rw [if_pos rfl,if_pos (List.getElem?_eq_some_iff.mp hi).1] at q
        cases q
        exact ⟨.ref a,s1,.mf ⟨o,aU⟩ l1 (dD kp rp i1)⟩
      . rw [if_neg hj] at q
        obtain ⟨v,h1,h2⟩:=R.val j x q
        refine ⟨v,h1,(h2.frame kp fun b m=>ax fun z=>?_).rep (jr R.fz n1)⟩
        exact R.dj i j a hj (by rw [eA];exact Zj) (z ▸ m)
     refine thn (h pins s σ _ (fun v H'=>Same (upd H a (.frz o (.dK (kz ks vs)))) H'/\Rep X.K H' v d) I1 ⟨_,d,R1,e0,fun v H' s' r'=>⟨s',r'⟩⟩) fun w s2 ⟨v,H2,I2,rv,sm,rd⟩=>?_
     have fa:H2 a=some (.frz o (.dK (kz ks vs))):=sm _ _ aU
     have okF:=I2.hok a _ fa
     obtain ⟨_,okD⟩:=(show s2.heap.get? a=some o/\ObjOk X.prog X.w H2 s2.heap a (.dK (kz ks vs)) from okF)
     have I3:L2.Inv X pins σ (upd H2 a (.dK (kz ks vs))) s2:=qM I2 fa (fun _ z=>nomatch z) (fun _ z=>nomatch z) nf (fun _ z=>nomatch z) okD
     have sH:Same H (upd H2 a (.dK (kz ks vs))):=fun b w e=>by
      by_cases hb:b=a
      . subst hb;rw [aU,<- g1];exact e
      . rw [ax hb];exact sm b w (by rw [ax hb];exact e)
     exact ⟨v,_,I3,rv,k v F _ [] As (.pure sH) (R.grow sH) (.imm im (ib (gA fa rfl) rd im))⟩
   . cases q
 . cases q
end Dl
namespace Dl
open PySem PySem.Spec PyProof.Rows L2
def nw (g:FA):FA:=fun δ=>(g δ).bind fun xs=>match xs with
 | [.int i,.int j]=>if -(2 ^ 62)<=i/\i < 2 ^ 62/\-(2 ^ 62)<=j/\j < 2 ^ 62 then some ((List.range (j - i).toNat).map fun k=>D.int (i+((k:Nat):Int))) else none
 | _=>none
theorem Ap {K:PySem.W.Frag} {H1:Hp} {lo:Int} {n:Nat}:ItD K (Itr lo n) H1 ((List.range n).map fun k=>D.int (lo+((k:Nat):Int))):=by
 intro i H2 s
 refine ⟨fun hi=>?_,fun hi=>(show n<=i by simpa using hi)⟩
 have hi':i < n:=by simpa using hi
 refine ⟨hi',fun x H' y=>?_⟩
 obtain ⟨e,y⟩:=y
 subst e y
 refine ⟨Same.refl _,.int (lo+(i:Int)),?_,.int _⟩
 rw [List.getElem?_map,List.getElem?_range hi']
 rfl
theorem rQ {X:Cx} {tg a b:Expr} {g:FA} {p pos:Pos} (hg:Gl X "range") (hm:X.mg "range" = none) (ha:PAD X [a,b] g) (hs:starEach [a,b] X.env=[(false,eval a X.env),(false,eval b X.env)]:=by rfl) (hs2:starEach [b] X.env=[(false,eval b X.env)]:=by rfl) :
 PID X tg (.Call (.Name "range" p) [a,b] [] pos) (nw g):=sd (uE hg hm ha hs hs2) fun σ H R ⟨δ,ds,R0,e,k⟩=>by
 unfold nw at e
 obtain ⟨xs,exs,e⟩:=Za.mp e
 split at e
 . rename_i i j
   split at e
   . rename_i hb
     cases e
     refine ⟨δ,_,R0,exs,fun vs H1 s1 r1 l=>?_⟩
     obtain ⟨x,y,rfl,rx,ry⟩:=vF r1
     cases rx;cases ry
     exact ⟨i,j,rfl,hb,k _ H1 s1 Ap⟩
   . cases e
 . cases e
end Dl
namespace Dl
open PySem PySem.Spec PyProof.Rows L2
section
variable {P:Program} {w:World} {K:PySem.W.Frag} {mg:Str->Option Value} {base:Heap}
theorem xK {x qual:Str} {st:Stmt} {f:Addr} {fd:FuncData} {N ps:List Str} {k:Nat} {G:List D->Option D} (F:Fun K x qual st f fd) (S:aA N ps (aj st))
 (hbody:∀ (cdv:Value) (A:Around) (outer:List Env) (s:Shared) (H:Hp) (E:XK) (ds:List D) (d:D),Room k (A.deeper (envOfC qual (aj st) s.heap.objs.size f cdv))->G ds=some d->ds.length=ps.length ->
  ∃ t,PMs (kK CX0 P w K mg base N qual (aj st) f cdv A outer s H E).nox (bw st) t/\aB (t (aJ N.length ds))=some d):FnOk P w K mg base CX0 (k+1) f fd ps (bh K ps.length G):=by
 refine F.ok S (fun vs H Q E h=>h.1) (fun cdv A outer s H vs Q E hr h=>?_)
 obtain ⟨hl,ds,d,r,e,q⟩:=h
 obtain ⟨t,ht,hq⟩:=hbody cdv A outer s H E ds d hr e (r.length.symm.trans hl)
 refine ⟨_,ht,H,aJ N.length ds,?_⟩
 cases z:t (aJ N.length ds) with
 | none=>rw [z] at hq;cases hq
 | some res =>
  rw [z] at hq
  refine ⟨res,iZ r,rfl,?_⟩
  cases res with
  | rt d'=>cases hq;exact fun v F' H' A s1 s2 r1 nd=>q v H' (s1.trans s2) (r1.rep s2)
  | nx δ=>cases hq;exact fun σ' F' H' s1 ⟨As,R⟩=>q _ H' (s1.trans R.fz) .non
  | bk δ=>cases hq
  | ct δ=>cases hq
  | ex C δ=>cases hq
  | mk C δ=>cases hq
end
theorem RepA.allSh {K:PySem.W.Frag} {F H H1:Hp} {σ:L2.St} {δ:DS} {As:Nat->List Addr} (R:RepA K F H σ δ As) (s1:Same H H1):RepA K H1 H1 σ (δ.map (Option.map sh)) (fun _=>[]):=by
 refine ⟨Same.refl H1,by rw [Zi];exact R.len,fun i d0 q=>?_,fun _ _=>rfl,fun _=>List.nodup_nil,fun _ _ _ _ m=>nomatch m⟩
 rw [List.getElem?_map] at q
 obtain ⟨o,h1,h2⟩:=Zb.mp q
 obtain ⟨d1,h3,h4⟩:=Zb.mp h2
 subst h4
 subst h3
 obtain ⟨v0,h5,h6⟩:=R.val i _ h1
 exact ⟨v0,h5,RepO.of_sh (Same.refl H1) ((h6.rep R.fz).mono s1)⟩
def oA (f:FD):FMA:=fun δ=>(f δ).bind fun d=>match sh d with
 | .seq es=>some (es,δ.map (Option.map sh))
 | _=>none
theorem xY {X:Cx} {tg l:Expr} {f:FD} (hl:PD X l f):PIM X tg l (oA f):=sd (oW hl) fun σ H R ⟨F,δ,As,ds,δ',R0,e,k⟩=>by
 unfold oA at e
 obtain ⟨d,ed,e⟩:=Za.mp e
 split at e
 . rename_i es hs
   cases e
   refine ⟨δ,d,R0.toS,ed,fun v H1 s1 r1=>?_⟩
   have z0:RepO X.K H1 H1 v (sh d) []:=RepO.of_sh (Same.refl H1) r1
   have z:Rep X.K H1 v (sh d):=z0.rep (Same.refl H1)
   rw [hs] at z
   cases z with
   | @seq p vs _ hp rp=>exact ⟨p,rfl,⟨vs,hp⟩,k _ _ H1 _ (R0.fz.trans s1) (R0.allSh s1) (qK hp rp)⟩
 . cases e
end Dl
namespace Dl
open PySem PySem.Spec PyProof.Rows L2
section
variable {P:Program} {w:World} {K:PySem.W.Frag} {mg:Str->Option Value} {base:Heap}
end
end Dl
namespace Dl
open PySem PySem.Spec PyProof.Rows L2
section
variable {P:Program} {w:World} {K:PySem.W.Frag} {mg:Str->Option Value} {base:Heap}
end
end Dl
namespace Hd
open PySem PySem.Spec PyProof.Rows L2
theorem walkE {l:PySem.W.OpenLaw} {n k:Nat} {q:Program} {loose:List Str} {XP:(Str->Option Value)->Heap->Prop} {YP:World->Heap->Prop} {d:DefRec} {T:PySem.W.Frag->Prop} {sp:PySem.W.Frag->Sp} {x:Str}
 (hn:l.most=some n) (hn2:n<=sizeLine) (hdf:d.params.defaults=[]) (hr:Room k callerA)
 (hY:∀ (w:World) (h:Heap),YP w h->∃ K:PySem.W.Frag,K.In h/\T K)
 (F:∀ (w:World) (K:PySem.W.Frag) (mg:Str->Option Value) (fa:Addr) (h:Heap),T K->K.In h->h.Ns mainGlobals mg->mg d.name=some (.ref fa) ->
  ∃ fd:FuncData,(∀ (s:Shared) (u:Value),BindsTo s fd ⟨[u],[]⟩ [(x,u)]) /\
   ∀ base:Heap,K.In base->base.Ns mainGlobals mg->FnOk l.prog w K mg base CX0 k fa fd [x] (sp K))
 (hsp:∀ (K:PySem.W.Frag) (H:Hp) (a:Addr) (ns:List Int),ns.length<=n->AL H->SqL K H a (ns.map V.int)->sp K [.ref a] H (fun v _=>v=.bl true) fun _ _ _=>False) :
 PySem.W.WalkO q loose XP YP l.row.toRowW d [] (fun f vs=>PySem.call f vs):=by
 refine Att.attach_call hn hdf fun w s₀ s₁ mg mb fa o pm cd doc a vs ns G Y ho hd hcd hmg hobj hints hlen hg=>?_
 obtain ⟨K,KX,hT⟩:=hY w _ Y
 obtain ⟨fd,hb,hF⟩:=F w K mg fa _ hT KX G.T.g hmg
 exact wH KX G.T.g G.T.b G.T.builtins G.T.nolimit hg hobj hints (Nat.le_trans hlen hn2) hr hF hb (fun H hO hS=>hsp K H a ns hlen hO hS) fun H e s' z=>z
end Hd
namespace Hd
open PySem PySem.Spec PyProof.Rows PySem.W
end Hd
namespace Mine
open PySem PySem.Spec PyProof.Rows L2 Dl
noncomputable section
open Mth
abbrev fr (p:Int×Int):D:=.tup [.int p.1,.int p.2]
def se:D->Option Bool
 | .int _=>some true
 | .ty _=>none
 | .exc _=>none
 | .cls _=>none
 | .ms _ _=>none
 | .mf _ _=>none
 | .md _ _=>none
 | _=>some false
abbrev Md (x:Int):Prop:=Sm 4000 x
theorem Md.bd {x:Int} (h:Md x):Bd x:=h.mono (l:=9000) (by decide)
theorem jN {k:Nat} {x:Int} (h:Sm k x) (e:k<=9000:=by decide):Bd x:=h.mono (l:=9000) e
theorem cv {x:Int} (h:x.natAbs < 2 ^ 64:=by decide):Bd x:=jN (k:=64) h
theorem AG {x:Int} (h:Bd x):Bd (-x):=by unfold Bd at *;rw [Int.natAbs_neg];exact h
structure Fk (p:Int×Int):Prop where
 pos:0 < p.2
 s1:Md p.1
 s2:Md p.2
theorem Fk.of {k:Nat} {p:Int×Int} (h:Fr k p) (e:k<=4000:=by decide):Fk p:=⟨h.pos,h.s1.mono e,h.s2.mono e⟩
def je (ds:List D) (d:D):Prop:=∃ x b,se x=some b/\ds=[x]/\d=.bl b
theorem gS {x:D} {b:Bool} (h:se x=some b):fn je [x]=some (.bl b):=bT (fun d' h'=>by
 obtain ⟨x',b',h1,h2,rfl⟩:=h'
 cases h2;rw [h] at h1;cases h1;rfl) ⟨x,b,h,rfl,rfl⟩
def cn (ds:List D) (d:D):Prop:=∃ a b,0 < b/\ds=[.int a,.int b]/\d=.int (gc a b)
theorem cj {a b:Int} (h:0 < b):fn cn [.int a,.int b]=some (.int (gc a b)):=bT (fun d' h'=>by
 obtain ⟨a',b',h1,h2,rfl⟩:=h'
 cases h2;rfl) ⟨a,b,h,rfl,rfl⟩
def mY (ds:List D) (d:D):Prop:=∃ t b,0 < b/\Bd b/\ds=[.int t,.int b]/\d=fr (rd t b)
theorem qX {t b:Int} (h:0 < b) (g:Bd b):fn mY [.int t,.int b]=some (fr (rd t b)):=bT (fun d' h'=>by
 obtain ⟨t',b',_,_,h2,rfl⟩:=h'
 cases h2;rfl) ⟨t,b,h,g,rfl,rfl⟩
def S2 (op:Int×Int->Int×Int->D) (ds:List D) (d:D):Prop:=∃ p q:Int×Int,Fk p/\Fk q/\ds=[fr p,fr q]/\d=op p q
theorem e2 {op:Int×Int->Int×Int->D} {p q:Int×Int} (h:Fk p) (g:Fk q):fn (S2 op) [fr p,fr q]=some (op p q):=bT (fun d' h'=>by
 obtain ⟨⟨a,b⟩,⟨c,e⟩,_,_,h2,rfl⟩:=h'
 obtain ⟨a',b'⟩:=p
 obtain ⟨c',e'⟩:=q
 cases h2;rfl) ⟨p,q,h,g,rfl,rfl⟩
abbrev fg:=S2 fun p q=>.bl (decide (p.1*q.2 < q.1*p.2))
theorem jJ:∀ {ns ms:List Int},ns.map D.int=ms.map D.int->ns=ms
 | [],[],_=>rfl
 | [],_ :: _,h=>by cases h
 | _ :: _,[],h=>by cases h
 | n :: ns,m :: ms,h=>by
  have h':D.int n :: ns.map D.int=D.int m :: ms.map D.int:=h
  injection h' with h1 h2
  injection h1 with h1
  rw [h1,jJ h2]
def cell (ns:List Int) (k:Int):Int:=ns.getD k.toNat 0
def az (ds:List D) (d:D):Prop:=∃ (ns:List Int) (k:Int),0<=k/\ds=[.seq (ns.map D.int),.int k]/\d=.int (cell ns k)
theorem ir {ns:List Int} {k:Int} (h:0<=k):fn az [.seq (ns.map D.int),.int k]=some (.int (cell ns k)):=bT (fun d' h'=>by
 obtain ⟨ns',k',_,h2,rfl⟩:=h'
 injection h2 with h3 h4
 injection h3 with h3
 injection h4 with h4
 injection h4 with h4
 rw [jJ h3,h4]) ⟨ns,k,h,rfl,rfl⟩
structure Flw (p:Int×Int):Prop extends Fk p where
 lw:Lw p
theorem Flw.of {k:Nat} {p:Int×Int} (h:Fr k p) (e:k<=4000:=by decide):Flw p:=⟨Fk.of h e,h.lw⟩
def S2w (op:Int×Int->Int×Int->D) (ds:List D) (d:D):Prop:=∃ p q:Int×Int,Flw p/\Flw q/\ds=[fr p,fr q]/\d=op p q
theorem e2w {op:Int×Int->Int×Int->D} {p q:Int×Int} (h:Flw p) (g:Flw q):fn (S2w op) [fr p,fr q]=some (op p q):=bT (fun d' h'=>by
 obtain ⟨⟨a,b⟩,⟨c,e⟩,_,_,h2,rfl⟩:=h'
 obtain ⟨a',b'⟩:=p
 obtain ⟨c',e'⟩:=q
 cases h2;rfl) ⟨p,q,h,g,rfl,rfl⟩
def gC (ds:List D) (d:D):Prop:=∃ p q:Int×Int,Flw p/\Flw q/\ds=[fr p,.int q.1,.int q.2]/\d=fr (sm p.1 p.2 q.1 q.2)
theorem qW {p q:Int×Int} (h:Flw p) (g:Flw q):fn gC [fr p,.int q.1,.int q.2]=some (fr (sm p.1 p.2 q.1 q.2)):=bT (fun d' h'=>by
 obtain ⟨⟨a,b⟩,⟨c,e⟩,_,_,h2,rfl⟩:=h'
 obtain ⟨a',b'⟩:=p
 obtain ⟨c',e'⟩:=q
 cases h2;rfl) ⟨p,q,h,g,rfl,rfl⟩
theorem Flw.neg {p:Int×Int} (h:Flw p):Flw (-p.1,p.2):=⟨⟨h.pos,h.s1.neg,h.s2⟩,h.lw.neg⟩
theorem i6 {x g:Int} (h:Md x) (hg:0 < g) (d:g ∣ x):Bd (x / g):=(Sm.div h hg d).mono (l:=9000) (by decide)
abbrev sE:=S2w fun p q=>fr (pl p q)
abbrev lr:=S2w fun p q=>fr (mi p q)
abbrev uk:=S2w fun p q=>fr (ti p q)
def bdD:Bn->D
 | none=>.non
 | some (n,s)=>.tup [.int n,.bl s]
theorem xn:bdD none=.non:=rfl
theorem cG (n:Int) (s:Bool):bdD (some (n,s))=.tup [.int n,.bl s]:=rfl
theorem iL {a b:Bn} (h:bdD a=bdD b):a=b:=by
 rcases a with _ | ⟨n,s⟩ <;> rcases b with _ | ⟨m,t⟩
 . rfl
 . cases h
 . cases h
 . cases h;rfl
def Bk (k:Nat):Bn->Prop
 | none=>True
 | some (n,_)=>Sm k n
theorem Bk.mono {k l:Nat} {b:Bn} (h:Bk k b) (e:k<=l):Bk l b:=by
 rcases b with _ | ⟨n,s⟩
 . trivial
 . exact Sm.mono (show Sm k n from h) e
theorem Bk.sum {k:Nat} {a b:Bn} (h:Bk k a) (g:Bk k b):Bk (k+1) (bs a b):=by
 rcases a with _ | ⟨n,s⟩
 . trivial
 rcases b with _ | ⟨m,t⟩
 . trivial
 . exact Sm.add (show Sm k n from h) (show Sm k m from g)
theorem ym (n:Int):low n 1=(n,1):=by
 rw [yk (by decide)]
 exact vG ⟨by decide,by unfold gc;simp⟩
def bf (ds:List D) (d:D):Prop:=∃ t b,b ≠ 0/\Bd b/\ds=[.int t,.int b]/\d=fr (low t b)
theorem mQ {t b:Int} (h:b ≠ 0) (g:Bd b):fn bf [.int t,.int b]=some (fr (low t b)):=bT (fun d' h'=>by
 obtain ⟨t',b',_,_,h2,rfl⟩:=h'
 cases h2;rfl) ⟨t,b,h,g,rfl,rfl⟩
theorem bu {n:Int}:dfl (fn bf) [1] [.int n]=some (.tup [.int n,.int 1]):=by
 have h:=mQ (t:=n) (b:=1) (by decide) cv
 rw [ym] at h
 exact h
def gX (ds:List D) (d:D):Prop:=∃ (p:Int×Int) (b:Bn),Fk p/\Bk 4000 b/\ds=[fr p,bdD b]/\d=.bl (kp p b)
theorem pJ {p:Int×Int} {b:Bn} (h:Fk p) (g:Bk 4000 b):fn gX [fr p,bdD b]=some (.bl (kp p b)):=bT (fun d' h'=>by
 obtain ⟨⟨a,b'⟩,c,_,_,h2,rfl⟩:=h'
 obtain ⟨x,y⟩:=p
 injection h2 with h3 h4
 injection h4 with h4 _
 cases h3
 rw [iL h4]) ⟨p,b,h,g,rfl,rfl⟩
def eF (ds:List D) (d:D):Prop:=∃ a b:Bn,ds=[bdD a,bdD b]/\d=.bl (tgt a b)
theorem oi {a b:Bn}:fn eF [bdD a,bdD b]=some (.bl (tgt a b)):=bT (fun d' h'=>by
 obtain ⟨a',b',h2,rfl⟩:=h'
 injection h2 with h3 h4
 injection h4 with h4 _
 rw [iL h3,iL h4]) ⟨a,b,rfl,rfl⟩
theorem A9 (b:Bn):sh (bdD b)=bdD b:=by rcases b with _ | ⟨n,s⟩ <;> rfl
theorem jb (b:Bn):imm (bdD b)=true:=by rcases b with _ | ⟨n,s⟩ <;> rfl
theorem z7 (b:Bn):own (bdD b)=true:=by rcases b with _ | ⟨n,s⟩ <;> rfl
def ba (r:List Bn):List D:=r.map bdD
theorem kP:∀ (r:List Bn),shs (ba r)=ba r
 | []=>rfl
 | b :: r=>by show sh (bdD b) :: shs (ba r)=_;rw [A9,kP r];rfl
theorem qN:∀ (r:List Bn),bM (ba r)=true
 | []=>rfl
 | b :: r=>by show (imm (bdD b) && bM (ba r))=true;rw [jb,qN r];rfl
theorem l0:∀ (r:List Bn),gn (ba r)=true
 | []=>rfl
 | b :: r=>by show (own (bdD b) && gn (ba r))=true;rw [z7,l0 r];rfl
def dC (T:List (List Bn)):List D:=T.map fun r=>.seq (ba r)
def bo (T:List (List Bn)):List D:=T.map fun r=>.lst (ba r)
def aG (T:List (List Bn)):D:=.seq (dC T)
def aE (T:List (List Bn)):D:=.lst (bo T)
theorem nz:∀ (T:List (List Bn)),shs (bo T)=dC T
 | []=>rfl
 | r :: T=>by show sh (.lst (ba r)) :: shs (bo T)=_;rw [nz T,sh,kP];rfl
theorem ny:∀ (T:List (List Bn)),shs (dC T)=dC T
 | []=>rfl
 | r :: T=>by show sh (.seq (ba r)) :: shs (dC T)=_;rw [ny T,sh,kP];rfl
theorem oG (T:List (List Bn)):sh (aE T)=aG T:=by unfold aE aG;rw [sh,nz]
theorem kQ (T:List (List Bn)):sh (aG T)=aG T:=by unfold aG;rw [sh,ny]
theorem lZ:∀ (T:List (List Bn)),gn (bo T)=true
 | []=>rfl
 | r :: T=>by show (own (.lst (ba r)) && gn (bo T))=true;rw [own,l0,lZ T];rfl
theorem bY (T:List (List Bn)):own (aE T)=true:=by unfold aE;rw [own];exact lZ T
theorem qk:∀ {r s:List Bn},ba r=ba s->r=s
 | [],[],_=>rfl
 | [],_ :: _,h=>by cases h
 | _ :: _,[],h=>by cases h
 | a :: r,b :: s,h=>by
  have h':bdD a :: ba r=bdD b :: ba s:=h
  injection h' with h1 h2
  rw [iL h1,qk h2]
theorem nK:∀ {T U:List (List Bn)},dC T=dC U->T=U
 | [],[],_=>rfl
 | [],_ :: _,h=>by cases h
 | _ :: _,[],h=>by cases h
 | a :: r,b :: s,h=>by
  have h':D.seq (ba a) :: dC r=D.seq (ba b) :: dC s:=h
  injection h' with h1 h2
  injection h1 with h1
  rw [qk h1,nK h2]
theorem lB {T U:List (List Bn)} (h:aG T=aG U):T=U:=by
 unfold aG at h
 injection h with h
 exact nK h
structure Sq (T:List (List Bn)) (m:Nat):Prop where
 len:T.length=m
 row:∀ r∈T,r.length=m
theorem me {α:Type} {f g:α->D} {F:D->Option D}:∀ {xs:List α},(∀ x∈xs,F (f x)=some (g x))->j4 F (xs.map f)=some (xs.map g)
 | [],_=>rfl
 | x :: xs,h=>by
  show ((F (f x)).bind fun y=>(j4 F (xs.map f)).bind fun ys=>some (y :: ys))=_
  rw [h x Zj,me fun y m=>h y (Zk _ m)]
  rfl
theorem BW (n:Nat) (b:Bn):eqN (n+1) (bdD b) (bdD b)=some true:=by
 rcases b with _ | ⟨k,s⟩
 . rfl
 . cases n with
   | zero=>show eqL (eqN 0) [D.int k,D.bl s] [D.int k,D.bl s]=_;simp [eqL,eqN,qU,t4,eqF]
   | succ n=>show eqL (eqN (n+1)) [D.int k,D.bl s] [D.int k,D.bl s]=_;simp [eqL,eqN,qU,t4,eqF]
theorem qV {f:D->D->Option Bool}:∀ {ds:List D},(∀ d∈ds,f d d=some true)->eqL f ds ds=some true
 | [],_=>rfl
 | d :: ds,h=>by
  show ((f d d).bind fun x=>(eqL f ds ds).bind fun y=>some (x && y))=_
  rw [h d Zj,qV fun e m=>h e (Zk _ m)]
  rfl
theorem Az (n:Nat) (r:List Bn):eqL (eqN (n+1)) (ba r) (ba r)=some true:=qV fun d m=>by
 obtain ⟨b,_,rfl⟩:=Zm.mp m
 exact BW n b
def ak (T:List (List Bn)) (i j:Nat):Bn:=(T.getD i []).getD j none
def jV (T:List (List Bn)) (i j:Nat) (b:Bn):List (List Bn):=T.set i ((T.getD i []).set j b)
theorem sU {T:List (List Bn)} {m i j:Nat} {b:Bn} (h:Sq T m) (hi:i < m):Sq (jV T i j b) m:=by
 refine ⟨by unfold jV;rw [List.length_set];exact h.len,fun r hr=>?_⟩
 rcases List.mem_or_eq_of_mem_set hr with z | z
 . exact h.row r z
 . rw [z,List.length_set,Zq,Zr (by rw [h.len];exact hi)]
   exact h.row _ (List.getElem_mem _)
theorem eZ {α:Type} {xs:List α} {j:Nat} {v:α} (h:xs[j]? = some v):L2.atI xs (j:Int)=some v:=L2.atI_nat h
theorem ja {n j:Nat} (h:j < n):L2.ixN n (j:Int)=some j:=by
 unfold L2.ixN
 rw [if_pos (by omega),if_pos (by omega)]
 simp
theorem fN {T:List (List Bn)} {m i:Nat} (h:Sq T m) (hi:i < m):∃ r,T[i]? = some r/\T.getD i []=r/\r.length=m:=by
 have hl:i < T.length:=by rw [h.len];exact hi
 refine ⟨T[i],Zr hl,?_,h.row _ (List.getElem_mem _)⟩
 rw [Zq,Zr hl];rfl
theorem j7 {T:List (List Bn)} {m i j:Nat} (h:Sq T m) (hi:i < m) (hj:j < m):∃ r,gIx (aE T) (.int (i:Int))=some (.lst (ba r))/\gIx (.lst (ba r)) (.int (j:Int))=some (bdD (ak T i j))/\(bo T)[i]? = some (.lst (ba r))/\r.length=m/\T.getD i []=r:=by
 obtain ⟨r,h1,h2,h3⟩:=fN h hi
 have hx:(bo T)[i]? = some (.lst (ba r)):=by unfold bo;rw [List.getElem?_map,h1];rfl
 refine ⟨r,eZ hx,?_,hx,h3,h2⟩
 show L2.atI (ba r) (j:Int)=_
 refine eZ ?_
 unfold ba ak
 rw [List.getElem?_map,h2,Zq,Zr (by omega)]
 rfl
theorem j6 {T:List (List Bn)} {m i j:Nat} (h:Sq T m) (hi:i < m) (hj:j < m):∃ r,gIx (aG T) (.int (i:Int))=some (.seq (ba r))/\gIx (.seq (ba r)) (.int (j:Int))=some (bdD (ak T i j)):=by
 obtain ⟨r,h1,h2,h3⟩:=fN h hi
 have hx:(dC T)[i]? = some (.seq (ba r)):=by unfold dC;rw [List.getElem?_map,h1];rfl
 refine ⟨r,eZ hx,?_⟩
 show L2.atI (ba r) (j:Int)=_
 refine eZ ?_
 unfold ba ak
 rw [List.getElem?_map,h2,Zq,Zr (by omega)]
 rfl
theorem jU {T:List (List Bn)} {i j:Nat} {b:Bn} {r:List Bn} (h:T.getD i []=r):(bo T).set i (.lst ((ba r).set j (bdD b)))=bo (jV T i j b):=by
 unfold bo jV ba
 rw [h,List.map_set,List.map_set]
theorem dE (T:List (List Bn)):(bo T).length=T.length:=by simp [bo]
theorem ik (r:List Bn):(ba r).length=r.length:=by simp [ba]
def IsT (d:D) (T:List (List Bn)):Prop:=sh d=aG T
theorem gP (T:List (List Bn)):IsT (aE T) T:=oG T
theorem gO (T:List (List Bn)):IsT (aG T) T:=kQ T
theorem IsT.inj {d:D} {T U:List (List Bn)} (h:IsT d T) (g:IsT d U):T=U:=lB (h.symm.trans g)
theorem rZ (r:List Bn) (δ:DS):gN (.lst (ba r)) δ=some (.lst (ba r),δ):=if_pos (qN r)
theorem xj (r:List Bn) (tl:DS):Dl.ownOf (kN (aa (ac 0) ae)) (shO (some (.seq (ba r)) :: tl))=some (.lst (ba r)):=by
 have e:shO (some (.seq (ba r)) :: tl)=some (.seq (ba r)) :: shO tl:=by
  show some (sh (.seq (ba r))) :: _=_
  rw [sh,kP]
  rfl
 rw [e]
 show (((gN (.lst (ba r)) _)).bind _)=_
 rw [rZ]
 show (if own (.lst _)=true then _ else _)=_
 rw [if_pos (by rw [own];exact l0 _)]
theorem rE {T:List (List Bn)} {m:Nat} (hs:Sq T m) (hm:m<=41) {δ:DS} {i:Nat} {js:List Nat} (hj:δ[i]? = some (some (aG T))) :
 gY (fun δ=>((ac i) δ).bind asL) js (kN (aa (ac 0) ae)) δ=some (aE T,δ):=by
 unfold gY
 have e:((ac i) δ).bind asL=some (dC T):=by unfold ac;rw [hj];rfl
 dsimp only
 rw [e]
 show ((j4 _ (dC T)).bind _)=_
 unfold dC
 rw [me (g:=fun r=>.lst (ba r)) fun r _=>xj r _]
 show (if (bo T).length<=1000 then _ else _)=_
 rw [if_pos (by rw [dE,hs.len];omega)]
 rfl
theorem ly {δ:DS} {i:Nat} {b:Bn} (h:δ[i]? = some (some (bdD b))):bI i δ=some (bdD b,δ):=by
 unfold bI
 rw [h]
 rcases b with _ | ⟨n,s⟩ <;> rfl
theorem xF {T:List (List Bn)} {m i j:Nat} {b:Bn} (hs:Sq T m) (hi:i < m) (hj:j < m) {δ δ':DS} {p:Nat} {fk fl:FD} {fm:FM} (h0:fm δ=some (bdD b,δ')) (h1:δ'[p]? = some (some (aE T))) (h2:fk δ'=some (.int (i:Int))) (h3:fl δ'=some (.int (j:Int))) :
 iT p fk fl fm δ=some (.nx (δ'.set p (some (aE (jV T i j b))))):=by
 obtain ⟨w,q1,q2,q3,q4,q5⟩:=j7 hs hi hj
 unfold iT
 rw [h0]
 show (if imm (bdD b)=true then _ else _)=_
 rw [if_pos (jb b)]
 dsimp only
 rw [h1]
 unfold aE
 dsimp only
 rw [h2,h3]
 dsimp only [Option.bind_some]
 rw [ja (show i < (bo T).length by rw [dE,hs.len];exact hi)]
 dsimp only [Option.bind_some]
 rw [q3]
 dsimp only [Option.bind_some]
 rw [ja (show j < (ba w).length by rw [ik,q4];exact hj)]
 dsimp only [Option.bind_some]
 rw [jU q5]
abbrev vi (ds:List D) (d:D):Prop:=∃ (d0:D) (T:List (List Bn)) (m:Nat),IsT d0 T/\Sq T m/\m<=41/\ds=[d0]/\d=aE T
def m3 (ds:List D) (d:D):Prop:=vi ds d
theorem xa {d0:D} {T:List (List Bn)} {m:Nat} (h:IsT d0 T) (hs:Sq T m) (hm:m<=41):fn m3 [d0]=some (aE T):=bT (fun d' h'=>by
 obtain ⟨d1,U,m',g,_,_,h2,rfl⟩:=h'
 cases h2
 rw [h.inj g]) ⟨d0,T,m,h,hs,hm,rfl,rfl⟩
theorem dB {s:SD} {δ:DS} {d:D} (h:s δ=some (.rt d)):aB (s δ)=some d:=by rw [h];rfl
theorem aq {s u:SD} {δ δ':DS} {r:Res} (h:s δ=some (.nx δ')) (g:u δ'=some r):ay s u δ=some r:=by unfold ay;rw [h];exact g
theorem aX {i:Nat} {f:FM} {δ δ':DS} {d:D} (h:f δ=some (d,δ')):aw i f δ=some (.nx (δ'.set i (some d))):=by unfold aw;rw [h];rfl
theorem ce {f:FM} {δ δ':DS} {d:D} (h:f δ=some (d,δ')):eT f δ=some (.rt d):=by unfold eT;rw [h];rfl
theorem yX {c:FT} {s u:SD} {δ:DS} {r:Res} {b:Bool} (h:c δ=some b) (g:(if b then s δ else u δ)=some r):sIf c s u δ=some r:=by unfold sIf;rw [h];cases b <;> exact g
theorem sR {i:Nat} {f:FD} {δ:DS} {d:D} (h:f δ=some d):eV i f δ=some (.nx (δ.set i (some d))):=by unfold eV;rw [h];rfl
theorem xA {f:FD} {δ:DS} {d:D} (h:f δ=some d):c6 f δ=some (.rt d):=by unfold c6;rw [h];rfl
theorem bV {src:FMA} {i:Nat} {s:SD} {δ δ':DS} {ds:List D} {r:Res} (h:src δ=some (ds,δ')) (g:Dl.forM i s ds δ'=some r):fL src i s δ=some r:=by unfold fL;rw [h];exact g
theorem bj {f:FD} {δ:DS} {d:D} (h:f δ=some d) (g:imm d=true:=by rfl):vI f δ=some (d,δ):=by unfold vI;rw [h];exact if_pos g
theorem cX {G:List D->Option D} {g:FA} {δ:DS} {ds:List D} {d:D} (h:g δ=some ds) (k:G ds=some d) (o:own d=true):cW G g δ=some (d,δ):=by unfold cW;rw [h];show ((G ds).bind _)=_;rw [k];exact if_pos o
theorem gE {i:Nat} {δ:DS} {ds:List D} (h:δ[i]? = some (some (.lst ds))):bI i δ=some (.lst ds,δ.set i none):=by unfold bI;rw [h];rfl
theorem eR:∀ (ns:List Int),shs (ns.map D.int)=ns.map D.int
 | []=>rfl
 | n :: ns=>by show sh (.int n) :: shs (ns.map D.int)=_;rw [eR ns];rfl
theorem nZ:∀ (ns:List Int),bM (ns.map D.int)=true
 | []=>rfl
 | n :: ns=>by show (imm (.int n) && bM (ns.map D.int))=true;rw [nZ ns];rfl
theorem dY (i j:Int):du (.int i) (.int j)=some (.bl (i == j)):=rfl
theorem fa2 {f g:FD} {δ:DS} {a b:D} (h:f δ=some a) (k:g δ=some b):aa f (aa g ae) δ=some [a,b]:=by
 unfold aa ae
 rw [h,k]
 rfl
theorem oa {i:Nat} {s:SD} (P:DS->Prop):∀ (ds:List D) (δ:DS),P δ->(∀ d∈ds,∀ δ,P δ->∃ δ2,s (δ.set i (some (sh d)))=some (.nx δ2)/\P δ2)->∃ δ',Dl.forM i s ds δ=some (.nx δ')/\P δ'
 | [],δ,p,_=>⟨δ,rfl,p⟩
 | d :: ds,δ,p,h=>by
  obtain ⟨δ2,h2,h3⟩:=h d Zj δ p
  obtain ⟨δ',h4,h5⟩:=oa P ds δ2 h3 fun e he=>h e (Zk _ he)
  refine ⟨δ',?_,h5⟩
  simp only [Dl.forM,h2,Zc,h4]
theorem df {c:FT} {s u:SD} {δ:DS} {r:Res} (h:c δ=some false) (g:u δ=some r):sIf c s u δ=some r:=by unfold sIf;rw [h];exact g
theorem dI {c:FT} {s u:SD} {δ:DS} {r:Res} (h:c δ=some true) (g:s δ=some r):sIf c s u δ=some r:=by unfold sIf;rw [h];exact g
theorem gG {s u:SD} {δ:DS} {d:D} (h:s δ=some (.rt d)):ay s u δ=some (.rt d):=by unfold ay;rw [h];rfl
theorem oH (i:Int):sh (.int i)=.int i:=rfl
theorem cF {α:Type} {i:Nat} {s:SD} {f:α->D} (P:List α->DS->Prop) (all:List α) (step:∀ (pre:List α) (x:α) (post:List α) (δ:DS),all=pre++x :: post->P pre δ->∃ δ2,s (δ.set i (some (sh (f x))))=some (.nx δ2)/\P (pre++[x]) δ2) :
 ∀ (xs pre:List α) (δ:DS),all=pre++xs->P pre δ->∃ δ',Dl.forM i s (xs.map f) δ=some (.nx δ')/\P all δ'
 | [],pre,δ,e,p=>⟨δ,rfl,by rw [e,List.append_nil];exact p⟩
 | x :: xs,pre,δ,e,p=>by
  obtain ⟨δ2,h2,h3⟩:=step pre x xs δ e p
  obtain ⟨δ',h4,h5⟩:=cF P all step xs (pre++[x]) δ2 (by rw [e,List.append_assoc];rfl) h3
  refine ⟨δ',?_,h5⟩
  simp only [Zp,Dl.forM,h2,Zc,h4]
theorem mK {α:Type} {i:Nat} {s:SD} {f:α->D} {d:D} (P:DS->Prop) (b:α->Bool):∀ (xs:List α) (δ:DS),P δ->(∀ x∈xs,∀ δ,P δ->(b x=true->∃ δ2,s (δ.set i (some (sh (f x))))=some (.nx δ2)/\P δ2)/\(b x=false->s (δ.set i (some (sh (f x))))=some (.rt d))) ->
 (xs.all b=true->∃ δ',Dl.forM i s (xs.map f) δ=some (.nx δ')/\P δ')/\(xs.all b=false->Dl.forM i s (xs.map f) δ=some (.rt d))
 | [],δ,p,_=>⟨fun _=>⟨δ,rfl,p⟩,fun h=>by cases h⟩
 | x :: xs,δ,p,h=>by
  obtain ⟨h1,h2⟩:=h x Zj δ p
  cases hb:b x with
  | false =>
   refine ⟨fun q=>(by rw [List.all_cons,hb] at q;cases q),fun _=>?_⟩
   simp only [Zp,Dl.forM,h2 hb,Zc]
  | true =>
   obtain ⟨δ2,g1,g2⟩:=h1 hb
   obtain ⟨k1,k2⟩:=mK P b xs δ2 g2 fun y hy=>h y (Zk _ hy)
   rw [List.all_cons,hb,Bool.true_and]
   refine ⟨fun q=>?_,fun q=>?_⟩
   . obtain ⟨δ',k3,k4⟩:=k1 q
     refine ⟨δ',?_,k4⟩
     simp only [Zp,Dl.forM,g1,Zc,k3]
   . simp only [Zp,Dl.forM,g1,Zc,k2 q]
theorem jQ {α:Type} {src:FA} {js:List Nat} {felt:FM} {δ:DS} {xs:List α} {f g:α->D} (hs:src δ=some (xs.map f)) (h:∀ x∈xs,Dl.ownOf felt (shO (some (f x) :: bv js δ))=some (g x)) (hl:xs.length<=1000):gY src js felt δ=some (.lst (xs.map g),δ):=by
 unfold gY
 rw [hs]
 show ((j4 _ (xs.map f)).bind _)=_
 rw [me h]
 exact if_pos (by rw [Zi];exact hl)
theorem z6 {felt:FM} {δ δ':DS} {d:D} (h:felt δ=some (d,δ')) (o:own d=true):Dl.ownOf felt δ=some d:=by unfold Dl.ownOf;rw [h];exact if_pos o
theorem lO (n:Nat):dQ 0 (n:Int) 1=(List.range n).map fun (i:Nat)=>D.int (i:Int):=by
 have e:(((n:Int) - 0+1 - 1) / 1).toNat=n:=by omega
 unfold dQ
 rw [e]
 congr 1
 funext i
 congr 1
 omega
theorem xo {b:Int} (h:0<=b) (g:b<=1000):asR [.int b]=some (dQ 0 b 1):=by
 show (if -(2 ^ 62)<=b/\b < 2 ^ 62 then some (dQ 0 b 1) else none)=_
 rw [if_pos (by omega)]
theorem B5 {n:Nat} (h:n<=1000):asR [.int (n:Int)]=some ((List.range n).map fun (i:Nat)=>D.int (i:Int)):=by
 rw [xo (by omega) (by omega),lO]
theorem vt {g:FA} {δ:DS} {b:Int} (h:g δ=some [.int b]) (l:0<=b) (k:b<=1000):dH g δ=some (dQ 0 b 1,δ):=by
 unfold dH
 rw [h]
 show ((asR [.int b]).bind _)=_
 rw [xo l k]
 rfl
theorem eI {g:FA} {δ:DS} {n:Nat} (h:g δ=some [.int (n:Int)]) (l:n<=1000):dH g δ=some ((List.range n).map fun (i:Nat)=>D.int (i:Int),δ):=by
 rw [vt h (by omega) (by omega),lO]
theorem yY {g:FA} {δ:DS} {ds xs:List D} (h:g δ=some ds) (k:asR ds=some xs):qa g δ=some xs:=by unfold qa;rw [h];exact k
theorem bJ {n:Nat} {pre post:List Nat} {x:Nat} (h:List.range n=pre++x :: post):x=pre.length/\pre.length < n:=by
 have hl:pre.length < n:=by
  have:=congrArg List.length h
  rw [List.length_range,Zh,List.length_cons] at this
  omega
 have h1:(List.range n)[pre.length]? = some x:=by rw [h,List.getElem?_append_right (Nat.le_refl _),Nat.sub_self];rfl
 rw [List.getElem?_range hl] at h1
 exact ⟨(Option.some.inj h1).symm,hl⟩
theorem oD {δ:DS} {i:Nat} {fm:FM} {ds:List D} {d:D} (h:δ[i]? = some (some (.lst ds))) (g:fm δ=some (d,δ)) (l:ds.length<=999):iY i fm δ=some (.nx (δ.set i (some (.lst (ds++[d]))))):=by
 unfold iY
 rw [h]
 dsimp only
 rw [g]
 dsimp only [Option.bind_some]
 rw [h]
 exact if_pos l
theorem oz {fa fb:FD} {δ:DS} {a b:D} {xs ys:List D} (h:fa δ=some a) (g:fb δ=some b) (h':asL a=some xs) (g':asL b=some ys) (l:xs.length+ys.length<=1000) (m:bM (xs++ys)=true):gu fa fb δ=some (.lst (xs++ys),δ):=by
 have e:tY a b=some (.lst (xs++ys)):=by
  unfold tY
  rw [h',g']
  exact if_pos l
 unfold gu f2
 rw [h]
 dsimp only [Option.bind_some]
 rw [g]
 dsimp only [Option.bind_some]
 rw [e]
 exact if_pos m
theorem p0 {is:List Nat} {fm:FM} {δ δ':DS} {ds:List D} (h:fm δ=some (.tup ds,δ')) (l:ds.length=is.length) (i:tO is δ'.length=true):qh is fm δ=some (.nx (oI is ds δ')):=by
 unfold qh
 rw [h]
 dsimp only [Option.bind_some]
 rw [if_pos ⟨l,i⟩]
theorem Ay {f g:FD} {δ:DS} {a b:D} (h:f δ=some a) (k:g δ=some b):cP (aa f (aa g ae)) δ=some (.tup [a,b]):=by
 unfold cP
 rw [fa2 h k]
 rfl
theorem vo {f g:FM} {δ δ1 δ2:DS} {a b:D} (h:f δ=some (a,δ1)) (k:g δ1=some (b,δ2)):m5 (bn f (bn g fS)) δ=some (.tup [a,b],δ2):=by
 unfold m5 bn
 rw [h]
 dsimp only [Option.bind_some]
 rw [k]
 rfl
theorem fa3 {f g e:FD} {δ:DS} {a b c:D} (h:f δ=some a) (k:g δ=some b) (l:e δ=some c):aa f (aa g (aa e ae)) δ=some [a,b,c]:=by
 unfold aa ae
 rw [h,k,l]
 rfl
theorem qQ (ps:List (Int×Int)):bM (ps.map fr)=true:=imms_mem.mpr fun d m=>by obtain ⟨p,_,rfl⟩:=Zm.mp m;rfl
theorem ie:∀ (ps:List (Int×Int)),gn (ps.map fr)=true
 | []=>rfl
 | p :: ps=>by show (own (fr p) && gn (ps.map fr))=true;rw [ie ps];rfl
theorem iD:∀ (ps:List (Int×Int)),shs (ps.map fr)=ps.map fr
 | []=>rfl
 | p :: ps=>by show sh (fr p) :: shs (ps.map fr)=_;rw [iD ps];rfl
theorem lg:∀ {ps qs:List (Int×Int)},ps.map fr=qs.map fr->ps=qs
 | [],[],_=>rfl
 | [],_ :: _,h=>by cases h
 | _ :: _,[],h=>by cases h
 | (a,b) :: ps,(c,e) :: qs,h=>by
  have h':fr (a,b) :: ps.map fr=fr (c,e) :: qs.map fr:=h
  injection h' with h1 h2
  cases h1
  rw [lg h2]
def IsP (d:D) (ps:List (Int×Int)):Prop:=sh d=.seq (ps.map fr)
theorem gQ (ps:List (Int×Int)):IsP (.lst (ps.map fr)) ps:=by unfold IsP;rw [sh,iD]
theorem jI (ps:List (Int×Int)):IsP (.seq (ps.map fr)) ps:=by unfold IsP;rw [sh,iD]
theorem IsP.inj {d:D} {ps qs:List (Int×Int)} (h:IsP d ps) (g:IsP d qs):ps=qs:=by
 have:=h.symm.trans g
 injection this with this
 exact lg this
def cD (ps:List (Int×Int)):List (Int×Int):=(0,1) :: ps
def cI (ps:List (Int×Int)) (i:Nat):Int×Int:=(cD ps).getD i (0,1)
def dif (ps:List (Int×Int)) (i j:Nat):Int×Int:=mi (cI ps i) (cI ps j)
def kG (T:List (List Bn)) (ps:List (Int×Int)):Bool:=(List.range (ps.length+1)).all fun i=>(List.range (ps.length+1)).all fun j=>kp (dif ps i j) (ak T i j)
theorem iA {k:Nat} (h:1<=k):Fr k ((0,1):Int×Int):=⟨⟨by decide,by unfold gc;simp⟩,Sm.mono (k:=1) (show (0:Int).natAbs < 2 ^ 1 by decide) h,Sm.mono (k:=1) (show (1:Int).natAbs < 2 ^ 1 by decide) h⟩
theorem eQ {ps:List (Int×Int)} {k:Nat} (hk:1<=k) (h:∀ p∈ps,Fr k p) (i:Nat):Fr k (cI ps i):=by
 unfold cI
 rw [Zq]
 cases q:(cD ps)[i]? with
 | none=>exact iA hk
 | some p =>
  have m:=List.mem_of_getElem? q
  rcases Zo.mp m with rfl | m
  . exact iA hk
  . exact h p m
theorem yP {k:Nat} {ps:List (Int×Int)} (hk:1<=k) (h:∀ p∈ps,Fr k p) (i j:Nat):Fr (k+k+1) (dif ps i j):=(eQ hk h i).mi (eQ hk h j)
theorem iJ {ps:List (Int×Int)} {i:Nat} (h:i < ps.length+1):gIx (.lst ((cD ps).map fr)) (.int (i:Int))=some (fr (cI ps i))/\gIx (.seq ((cD ps).map fr)) (.int (i:Int))=some (fr (cI ps i)):=by
 have e:((cD ps).map fr)[i]? = some (fr (cI ps i)):=by
  unfold cI
  have hl:i < (cD ps).length:=by unfold cD;rw [List.length_cons];exact h
  rw [List.getElem?_map,Zq,Zr hl]
  rfl
 exact ⟨eZ e,eZ e⟩
theorem vd {T:List (List Bn)} {m i j:Nat} {b:Bn} (hs:Sq T m) (hi:i < m) (hj:j < m) (x y:Nat):ak (jV T i j b) x y=if x=i/\y=j then b else ak T x y:=by
 obtain ⟨r,h1,h2,h3⟩:=fN hs hi
 have hl:i < T.length:=by rw [hs.len];exact hi
 unfold ak jV
 by_cases hx:x=i
 . subst hx
   have e:(T.set x ((T.getD x []).set j b)).getD x []=(T.getD x []).set j b:=by
    rw [Zq,List.getElem?_set_self hl]
    rfl
   rw [e,h2]
   by_cases hy:y=j
   . subst hy
     rw [if_pos ⟨rfl,rfl⟩,Zq,List.getElem?_set_self (by omega)]
     rfl
   . rw [if_neg fun z=>hy z.2,Zq,List.getElem?_set_ne (Ne.symm hy),<- Zq]
 . rw [if_neg fun z=>hx z.1]
   have e:(T.set i ((T.getD i []).set j b)).getD x []=T.getD x []:=by
    rw [Zq,List.getElem?_set_ne (Ne.symm hx),<- Zq]
   rw [e]
def BkT (T:List (List Bn)):Prop:=∀ i j,Bk 4000 (ak T i j)
def ox (ds:List D) (d:D):Prop:=∃ (d0 d1:D) (T:List (List Bn)) (ps:List (Int×Int)),IsT d0 T/\Sq T (ps.length+1)/\ps.length<=40/\BkT T/\IsP d1 ps/\(∀ p∈ps,Fr 1900 p)/\ds=[d0,d1]/\d=.bl (kG T ps)
theorem uZ {k:Nat} {d0 d1:D} {T:List (List Bn)} {ps:List (Int×Int)} (h1:IsT d0 T) (h2:Sq T (ps.length+1)) (h3:ps.length<=40) (h4:BkT T) (h5:IsP d1 ps) (h6:∀ p∈ps,Fr k p) (hk:k<=1900:=by decide):fn ox [d0,d1]=some (.bl (kG T ps)):=bT (fun d' h'=>by
 obtain ⟨e0,e1,U,qs,g1,_,_,_,g5,_,h,rfl⟩:=h'
 injection h with a b
 injection b with b _
 subst a b
 rw [h1.inj g1,h5.inj g5]) ⟨d0,d1,T,ps,h1,h2,h3,h4,h5,fun p m=>(h6 p m).mono hk,rfl,rfl⟩
def mxd (c k:Int):Int:=(c*48271+k*k*69621+7*k+11) % 2147483647*((c*48271+k*k*69621+7*k+11) % 2147483647) % 2147483629
theorem Ah (c k:Int):0<=mxd c k:=Int.emod_nonneg _ (by decide)
def aL (ds:List D) (d:D):Prop:=∃ c k,0<=k/\k < 100000/\ds=[.int c,.int k]/\d=.int (mxd c k)
theorem gT {c k:Int} (h:0<=k) (g:k < 100000):fn aL [.int c,.int k]=some (.int (mxd c k)):=bT (fun d' h'=>by
 obtain ⟨c',k',_,_,h2,rfl⟩:=h'
 cases h2;rfl) ⟨c,k,h,g,rfl,rfl⟩
def eO (ds:List D) (d:D):Prop:=∃ t b,0 < b/\Bd b/\ds=[.int t,.int b]/\d=fr (rd t b)
theorem gt {t b:Int} (h:0 < b) (g:Bd b):fn eO [.int t,.int b]=some (fr (rd t b)):=bT (fun d' h'=>by
 obtain ⟨t',b',_,_,h2,rfl⟩:=h'
 cases h2;rfl) ⟨t,b,h,g,rfl,rfl⟩
def dl (p q:Int×Int):Int×Int:=(p.1*q.2 - q.1*p.2,p.2*q.2)
abbrev bQ:=S2 fun p q=>fr (dl p q)
def prt (c:Int):Int×Int:=if c % 8=5 then rd (c / 8 % (2*10 ^ 45+1) - 10 ^ 45) (1+c % 9973) else rd (c / 48 % 41 - 20) (1+c / 8 % 6)
theorem rP (c:Int):Fr 200 (prt c):=by
 unfold prt
 split
 . have hb:0 < 1+c % 9973:=by omega
   have h:=kg (k:=200) hb (Sm.of (x:=c / 8 % (2*10 ^ 45+1) - 10 ^ 45) (by omega) (by omega)) (Sm.of (by omega) (by omega))
   exact ⟨jy hb,h.1,h.2⟩
 . have hb:0 < 1+c / 8 % 6:=by omega
   have h:=kg (k:=200) hb (Sm.of (x:=c / 48 % 41 - 20) (by omega) (by omega)) (Sm.of (by omega) (by omega))
   exact ⟨jy hb,h.1,h.2⟩
theorem zT (c:Int):Sm 151 (prt c).1/\Sm 14 (prt c).2:=by
 unfold prt
 split
 . have hb:0 < 1+c % 9973:=by omega
   exact ⟨(Sm.of (k:=151) (x:=c / 8 % (2*10 ^ 45+1) - 10 ^ 45) (by omega) (by omega)).div (cB hb) cM,(Sm.of (k:=14) (x:=1+c % 9973) (by omega) (by omega)).div (cB hb) cb⟩
 . have hb:0 < 1+c / 8 % 6:=by omega
   exact ⟨(Sm.of (k:=151) (x:=c / 48 % 41 - 20) (by omega) (by omega)).div (cB hb) cM,(Sm.of (k:=14) (x:=1+c / 8 % 6) (by omega) (by omega)).div (cB hb) cb⟩
theorem pW {ps:List (Int×Int)} (h:∀ p∈ps,Sm 151 p.1/\Sm 14 p.2) (i:Nat):Sm 151 (cI ps i).1/\Sm 14 (cI ps i).2:=by
 have z:Sm 151 ((0,1):Int×Int).1/\Sm 14 ((0,1):Int×Int).2:=⟨Sm.mono (k:=1) (show (0:Int).natAbs < 2 ^ 1 by decide) (by decide),Sm.mono (k:=1) (show (1:Int).natAbs < 2 ^ 1 by decide) (by decide)⟩
 unfold cI
 rw [Zq]
 cases q:(cD ps)[i]? with
 | none=>exact z
 | some p =>
  rcases Zo.mp (List.mem_of_getElem? q) with e | m
  . rw [e];exact z
  . exact h p m
def aY (ds:List D) (d:D):Prop:=∃ c,ds=[.int c]/\d=fr (prt c)
theorem iq {c:Int}:fn aY [.int c]=some (fr (prt c)):=bT (fun d' h'=>by
 obtain ⟨c',h2,rfl⟩:=h'
 cases h2;rfl) ⟨c,rfl,rfl⟩
theorem ou {δ:DS} {t:Nat} {fk:FD} {fm:FM} {d:D} {Rs row:List D} (h:δ[t]? = some (some (.lst (Rs++[.lst row])))) (hk:fk δ=some (.int (Rs.length:Int))) (hf:fm δ=some (d,δ)) (hl:row.length<=999):hR t fk fm δ=some (.nx (δ.set t (some (.lst (Rs++[.lst (row++[d])]))))):=by
 have z:L2.ixN (Rs++[D.lst row]).length (Rs.length:Int)=some Rs.length:=ja (by simp)
 have g:(Rs++[D.lst row])[Rs.length]? = some (D.lst row):=by simp
 have e:(Rs++[D.lst row]).set Rs.length (.lst (row++[d]))=Rs++[.lst (row++[d])]:=by simp
 unfold hR
 rw [h]
 dsimp only
 rw [hk]
 dsimp only [Option.bind_some]
 rw [z]
 dsimp only [Option.bind_some]
 rw [g]
 dsimp only
 rw [hf]
 dsimp only [Option.bind_some]
 rw [h]
 dsimp only
 rw [g]
 dsimp only
 rw [if_pos ⟨hl,rfl⟩,e]
theorem xG {T:List (List Bn)} {m i j:Nat} {b:Bn} (hs:Sq T m) (hi:i < m) (hj:j < m) {δ:DS} {p q r:Nat} {fm:FM} (h1:δ[p]? = some (some (aE T))) (h2:δ[q]? = some (some (.int (i:Int)))) (h3:δ[r]? = some (some (.int (j:Int)))) (h4:fm δ=some (bdD b,δ)) :
 iT p (ac q) (ac r) fm δ=some (.nx (δ.set p (some (aE (jV T i j b))))):=by
 obtain ⟨w,q1,q2,q3,q4,q5⟩:=j7 hs hi hj
 unfold iT
 rw [h4]
 show (if imm (bdD b)=true then _ else _)=_
 rw [if_pos (jb b)]
 dsimp only
 rw [h1]
 unfold aE ac
 dsimp only
 rw [h2,h3]
 dsimp only [Option.bind_some]
 rw [ja (show i < (bo T).length by rw [dE,hs.len];exact hi)]
 dsimp only [Option.bind_some]
 rw [q3]
 dsimp only [Option.bind_some]
 rw [ja (show j < (ba w).length by rw [ik,q4];exact hj)]
 dsimp only [Option.bind_some]
 rw [jU q5]
structure Grown (T:List (List Bn)) (n m:Nat):Prop where
 len:T.length=n
 row:∀ r∈T,r.length=m
 bk:∀ r∈T,∀ b∈r,Bk 190 b
theorem Grown.sq {T:List (List Bn)} {m:Nat} (h:Grown T m m):Sq T m:=⟨h.len,h.row⟩
theorem Grown.cell {T:List (List Bn)} {n m:Nat} (h:Grown T n m) (i j:Nat):Bk 190 (ak T i j):=by
 unfold ak
 rw [Zq,Zq]
 cases q:T[i]? with
 | none=>trivial
 | some r =>
  rw [Option.getD_some]
  cases p:r[j]? with
  | none=>trivial
  | some b=>exact h.bk r (List.mem_of_getElem? q) b (List.mem_of_getElem? p)
theorem Grown.snoc {T:List (List Bn)} {n m:Nat} {r:List Bn} (h:Grown T n m) (g:r.length=m) (k:∀ b∈r,Bk 190 b):Grown (T++[r]) (n+1) m:=by
 refine ⟨by rw [Zh,h.len];rfl,fun x hx=>?_,fun x hx=>?_⟩
 . rcases Zn.mp hx with hx | hx
   . exact h.row x hx
   . rw [Zl.mp hx];exact g
 . rcases Zn.mp hx with hx | hx
   . exact h.bk x hx
   . rw [Zl.mp hx];exact k
theorem lL (T:List (List Bn)) (r:List Bn):bo (T++[r])=bo T++[.lst (ba r)]:=by unfold bo;rw [List.map_append];rfl
theorem nL (r:List Bn) (b:Bn):ba (r++[b])=ba r++[bdD b]:=by unfold ba;rw [List.map_append];rfl
theorem BI {t b:Int} (hb:0 < b) (c:Bn):kp (t,b) c=kp (rd t b) c:=by
 have hg:=cB (t:=t) hb
 have e1:(rd t b).1*gc t b=t:=zF
 have e2:(rd t b).2*gc t b=b:=xL
 have key:∀ n:Int,(t < n*b <-> (rd t b).1 < n*(rd t b).2)/\(n*b < t <-> n*(rd t b).2 < (rd t b).1):=fun n=>by
  have e3:n*b=n*(rd t b).2*gc t b:=by rw [Int.mul_assoc,e2]
  constructor
  . constructor
    . intro h
      have h':(rd t b).1*gc t b < n*(rd t b).2*gc t b:=by rw [e1,<- e3];exact h
      exact Int.lt_of_mul_lt_mul_right h' (Int.le_of_lt hg)
    . intro h
      have:=Int.mul_lt_mul_of_pos_right h hg
      rw [e1,<- e3] at this
      exact this
  . constructor
    . intro h
      have h':n*(rd t b).2*gc t b < (rd t b).1*gc t b:=by rw [e1,<- e3];exact h
      exact Int.lt_of_mul_lt_mul_right h' (Int.le_of_lt hg)
    . intro h
      have:=Int.mul_lt_mul_of_pos_right h hg
      rw [e1,<- e3] at this
      exact this
 rcases c with _ | ⟨n,s⟩
 . rfl
 . cases s with
   | true =>
    show decide (t*1 < n*b)=decide ((rd t b).1*1 < n*(rd t b).2)
    rw [Int.mul_one,Int.mul_one]
    exact decide_eq_decide.mpr (key n).1
   | false =>
    show (!decide (n*b < t*1)) = !decide (n*(rd t b).2 < (rd t b).1*1)
    rw [Int.mul_one,Int.mul_one,decide_eq_decide.mpr (key n).2]
theorem zm {p q:Int×Int} (hp:0 < p.2) (hq:0 < q.2) (c:Bn):kp (dl p q) c=kp (mi p q) c:=BI (Int.mul_pos hp hq) c
theorem BY {k:Nat} {p q:Int×Int} (hp:Fr k p) (hq:Fr k q) (h:k+k+1<=4000):Fk (dl p q):=⟨Int.mul_pos hp.pos hq.pos,((hp.s1.mul hq.s2).sub (hq.s1.mul hp.s2)).mono h,(hp.s2.mul hq.s2).mono (by omega)⟩
abbrev d7:=gX
abbrev dG:=ox
theorem BJ (a n b:Int) (s:Bool):(decide (a < n*b) || (a == n*b && !s))=kp (a,b) (some (n,s)):=by
 cases s with
 | true =>
  show _=decide (a*1 < n*b)
  rw [Int.mul_one,Bool.not_true,Bool.and_false,Bool.or_false]
 | false =>
  show _ = !decide (n*b < a*1)
  rw [Int.mul_one,Bool.not_false,Bool.and_true,Bool.eq_iff_iff,Bool.or_eq_true,Bool.not_eq_true',decide_eq_true_iff,decide_eq_false_iff_not,beq_iff_eq]
  omega
theorem sS {f:FM} {δ:DS} {d:D} (h:f δ=some (d,δ)):eT f δ=some (.rt d):=ce h
theorem eJ {i:Nat} {f:FM} {δ:DS} {d:D} (h:f δ=some (d,δ)):aw i f δ=some (.nx (δ.set i (some d))):=aX h
theorem nv {n:Nat} {js:List Nat} {g:D->DS->Option DS} {fc:FT} {felt:FM} {δ δ1:DS} {d e:D} (h1:g d (eW n (bv js δ))=some δ1) (h2:fc δ1=some true) (h3:Dl.ownOf felt (shO δ1)=some e):fI n js g fc felt δ d=some (some e):=by
 unfold fI
 rw [h1]
 show ((fc δ1).bind _)=_
 rw [h2]
 show (Dl.ownOf felt (shO δ1)).map some=_
 rw [h3]
 rfl
theorem pe {felt:FM} {δ δ':DS} {e:D} (h:felt δ=some (e,δ')) (o:own e=true):Dl.ownOf felt δ=some e:=by
 unfold Dl.ownOf
 rw [h]
 exact if_pos o
def bP (ds:List D) (d:D):Prop:=∃ a b:Bn,ds=[bdD a,bdD b]/\d=bdD (bs a b)
theorem ko {a b:Bn}:fn bP [bdD a,bdD b]=some (bdD (bs a b)):=bT (fun d' h'=>by
 obtain ⟨a',b',h2,rfl⟩:=h'
 injection h2 with h3 h4
 injection h4 with h4 _
 rw [iL h3,iL h4]) ⟨a,b,rfl,rfl⟩
def qj (n:Nat) (f:Nat->Bn):List Bn:=(List.range n).map f
def aS (n:Nat) (f:Nat->Nat->Bn):List (List Bn):=(List.range n).map fun i=>qj n (f i)
theorem bC (n:Nat) (f:Nat->Nat->Bn):Sq (aS n f) n:=⟨by unfold aS;rw [Zi,List.length_range],fun r m=>by
 unfold aS at m
 obtain ⟨i,_,rfl⟩:=Zm.mp m
 unfold qj
 rw [Zi,List.length_range]⟩
theorem aT {α:Type} {n i:Nat} (g:Nat->α) (h:i < n):((List.range n).map g)[i]? = some (g i):=by rw [List.getElem?_map,List.getElem?_range h];rfl
theorem iy {T:List (List Bn)} {i j:Nat} {r:List Bn} (h:T[i]? = some r):ak T i j=r.getD j none:=by
 unfold ak
 have e:T.getD i []=r:=by rw [Zq,h];rfl
 rw [e]
theorem tQ {α:Type} {xs:List α} {i:Nat} {d v:α} (h:xs[i]? = some v):xs.getD i d=v:=by rw [Zq,h];rfl
theorem bG {n i j:Nat} (f:Nat->Nat->Bn) (hi:i < n) (hj:j < n):ak (aS n f) i j=f i j:=by
 rw [iy (show (aS n f)[i]? = some (qj n (f i)) from aT _ hi)]
 exact tQ (aT (f i) hj)
theorem kO {n:Nat} {T U:List (List Bn)} (h:Sq T n) (g:Sq U n) (e:∀ i j,i < n->j < n->ak T i j=ak U i j):T=U:=by
 refine List.ext_getElem? fun i=>?_
 by_cases hi:i < n
 . obtain ⟨r,a1,a2,a3⟩:=fN h hi
   obtain ⟨s,b1,b2,b3⟩:=fN g hi
   rw [a1,b1]
   congr 1
   refine List.ext_getElem? fun j=>?_
   by_cases hj:j < n
   . have:=e i j hi hj
     unfold ak at this
     rw [a2,b2,Zq,Zq,Zr (by omega),Zr (by omega)] at this
     rw [Zr (by omega),Zr (by omega)]
     exact congrArg some this
   . rw [List.getElem?_eq_none (by omega),List.getElem?_eq_none (by omega)]
 . rw [List.getElem?_eq_none (by rw [h.len];omega),List.getElem?_eq_none (by rw [g.len];omega)]
theorem xx {n:Nat} {T:List (List Bn)} (h:Sq T n):aS n (ak T)=T:=kO (bC _ _) h fun i j hi hj=>bG _ hi hj
theorem cw {n:Nat} {f g:Nat->Nat->Bn} (e:∀ i j,i < n->j < n->f i j=g i j):aS n f=aS n g:=kO (bC _ _) (bC _ _) fun i j hi hj=>by rw [bG _ hi hj,bG _ hi hj,e i j hi hj]
def up2 {α:Type} (f:Nat->Nat->α) (i j:Nat) (b:α):Nat->Nat->α:=fun x y=>if x=i/\y=j then b else f x y
theorem ux {T:List (List Bn)} {n i j x y:Nat} {b:Bn} (h:Sq T n) (hi:i < n) (hj:j < n) (hx:x < n) (hy:y < n):ak (jV T i j b) x y=if x=i/\y=j then b else ak T x y:=by
 obtain ⟨r,a1,a2,a3⟩:=fN h hi
 obtain ⟨s,b1,b2,b3⟩:=fN h hx
 unfold jV
 rw [a2]
 by_cases e:x=i
 . subst e
   rw [iy (r:=r.set j b) (List.getElem?_set_self (by rw [h.len];exact hi)),iy a1]
   by_cases e2:y=j
   . subst e2
     rw [if_pos ⟨rfl,rfl⟩]
     exact tQ (List.getElem?_set_self (by omega))
   . rw [if_neg (fun z=>e2 z.2),Zq,List.getElem?_set_ne (Ne.symm e2),<- Zq]
 . rw [if_neg (fun z=>e z.1),iy b1,iy (r:=s) (by rw [List.getElem?_set_ne (Ne.symm e)];exact b1)]
theorem nE {n i j:Nat} (f:Nat->Nat->Bn) (b:Bn) (hi:i < n) (hj:j < n):jV (aS n f) i j b=aS n (up2 f i j b):=kO (sU (bC n f) hi) (bC _ _) fun x y hx hy=>by
 rw [ux (bC n f) hi hj hx hy,bG _ hx hy,bG _ hx hy]
 rfl
def aQ {α:Type} (bad:List α->α->Option D):List α->List α->Option D
 | _,[]=>none
 | pre,x :: post=>match bad pre x with
  | some d=>some d
  | none=>aQ bad (pre++[x]) post
theorem lj {α:Type} {i:Nat} {s:SD} {f:α->D} (P:List α->DS->Prop) (bad:List α->α->Option D) (all:List α)
 (step:∀ (pre:List α) (x:α) (post:List α) (δ:DS),all=pre++x :: post->P pre δ->(bad pre x=none->∃ δ2,s (δ.set i (some (sh (f x))))=some (.nx δ2)/\P (pre++[x]) δ2)/\∀ d,bad pre x=some d->s (δ.set i (some (sh (f x))))=some (.rt d)) :
 ∀ (xs pre:List α) (δ:DS),all=pre++xs->P pre δ->(aQ bad pre xs=none->∃ δ',Dl.forM i s (xs.map f) δ=some (.nx δ')/\P all δ')/\∀ d,aQ bad pre xs=some d->Dl.forM i s (xs.map f) δ=some (.rt d)
 | [],pre,δ,e,p=>⟨fun _=>⟨δ,rfl,by rw [e,List.append_nil];exact p⟩,fun d h=>by cases h⟩
 | x :: xs,pre,δ,e,p=>by
  obtain ⟨h1,h2⟩:=step pre x xs δ e p
  cases q:bad pre x with
  | some d0 =>
   have ef:aQ bad pre (x :: xs)=some d0:=by show (match bad pre x with | some d=>some d | none=>_)=_;rw [q]
   rw [ef]
   refine ⟨(fun z=>by cases z),fun d z=>?_⟩
   cases z
   simp only [Zp,Dl.forM,h2 d0 q,Zc]
  | none =>
   have ef:aQ bad pre (x :: xs)=aQ bad (pre++[x]) xs:=by show (match bad pre x with | some d=>some d | none=>_)=_;rw [q]
   rw [ef]
   obtain ⟨δ2,h3,h4⟩:=h1 q
   obtain ⟨g1,g2⟩:=lj P bad all step xs (pre++[x]) δ2 (by rw [e,List.append_assoc];rfl) h4
   refine ⟨fun z=>?_,fun d z=>?_⟩
   . obtain ⟨δ',a,b⟩:=g1 z
     refine ⟨δ',?_,b⟩
     simp only [Zp,Dl.forM,h3,Zc,a]
   . simp only [Zp,Dl.forM,h3,Zc,g2 d z]
theorem eN {α:Type} {bad:List α->α->Option D}:∀ {xs pre:List α},aQ bad pre xs=none->∀ a x b,xs=a++x :: b->bad (pre++a) x=none
 | [],pre,_,a,x,b,e=>by simp at e
 | y :: xs,pre,h,a,x,b,e=>by
  have h':(match bad pre y with | some d=>some d | none=>aQ bad (pre++[y]) xs)=none:=h
  cases q:bad pre y with
  | some d=>rw [q] at h';cases h'
  | none =>
   rw [q] at h'
   cases a with
   | nil=>cases e;rw [List.append_nil];exact q
   | cons z a =>
    cases e
    have:=eN h' a x b rfl
    rw [List.append_assoc] at this
    exact this
theorem bO {α:Type} {bad:List α->α->Option D}:∀ {xs pre:List α} {d:D},aQ bad pre xs=some d->∃ a x b,xs=a++x :: b/\bad (pre++a) x=some d/\∀ a' y b',a=a'++y :: b'->bad (pre++a') y=none
 | [],pre,d,h=>by cases h
 | y :: xs,pre,d,h=>by
  have h':(match bad pre y with | some d=>some d | none=>aQ bad (pre++[y]) xs)=some d:=h
  cases q:bad pre y with
  | some d0 =>
   rw [q] at h'
   cases h'
   exact ⟨[],y,xs,rfl,by rw [List.append_nil];exact q,fun a' z b' e=>by simp at e⟩
  | none =>
   rw [q] at h'
   obtain ⟨a,x,b,e1,e2,e3⟩:=bO h'
   refine ⟨y :: a,x,b,by rw [e1];rfl,by rw [List.append_assoc] at e2;exact e2,fun a' z b' e=>?_⟩
   cases a' with
   | nil=>cases e;rw [List.append_nil];exact q
   | cons w a' =>
    cases e
    have:=e3 a' z b' rfl
    rw [List.append_assoc] at this
    exact this
def bA (l:List Nat):List D:=l.map fun (k:Nat)=>D.int (k:Int)
theorem uw (l:List Nat):shs (bA l)=bA l:=oF (imms_mem.mpr fun d m=>by obtain ⟨k,_,rfl⟩:=Zm.mp m;rfl)
theorem mI (l:List Nat):bM (bA l)=true:=imms_mem.mpr fun d m=>by obtain ⟨k,_,rfl⟩:=Zm.mp m;rfl
theorem fH:∀ {ds:List D},(∀ d∈ds,own d=true)->gn ds=true
 | [],_=>rfl
 | d :: ds,h=>by rw [gn,h d Zj,fH fun e m=>h e (Zk _ m)];rfl
theorem i5 (l:List Nat):gn (bA l)=true:=fH fun d m=>by obtain ⟨k,_,rfl⟩:=Zm.mp m;rfl
def ft (n:Nat) (p:Nat->List Nat):List D:=(List.range n).map fun j=>D.lst (bA (p j))
def ka (n:Nat) (p:Nat->List Nat):List D:=(List.range n).map fun j=>D.seq (bA (p j))
def aN (n:Nat) (p:Nat->Nat->List Nat):List D:=(List.range n).map fun i=>D.lst (ft n (p i))
def eP (n:Nat) (p:Nat->Nat->List Nat):List D:=(List.range n).map fun i=>D.seq (ka n (p i))
theorem vz (n:Nat) (p:Nat->List Nat):shs (ft n p)=ka n p:=by
 rw [c8]
 unfold ft ka
 rw [List.map_map]
 refine List.map_congr_left fun j _=>?_
 show sh (.lst (bA (p j)))=_
 rw [sh,uw]
theorem lG (n:Nat) (p:Nat->Nat->List Nat):shs (aN n p)=eP n p:=by
 rw [c8]
 unfold aN eP
 rw [List.map_map]
 refine List.map_congr_left fun i _=>?_
 show sh (.lst (ft n (p i)))=_
 rw [sh,vz]
theorem l4 (n:Nat) (p:Nat->Nat->List Nat):own (.lst (aN n p))=true:=by
 rw [own]
 refine fH fun d m=>?_
 obtain ⟨i,_,rfl⟩:=Zm.mp m
 show own (.lst (ft n (p i)))=true
 rw [own]
 refine fH fun d m=>?_
 obtain ⟨j,_,rfl⟩:=Zm.mp m
 show own (.lst (bA (p i j)))=true
 rw [own]
 exact i5 _
theorem qJ {n i j:Nat} (p:Nat->Nat->List Nat) (hi:i < n) (hj:j < n):gIx (.lst (aN n p)) (.int (i:Int))=some (.lst (ft n (p i)))/\gIx (.lst (ft n (p i))) (.int (j:Int))=some (.lst (bA (p i j))):=⟨eZ (aT _ hi),eZ (aT _ hj)⟩
theorem qI {n i j:Nat} (p:Nat->Nat->List Nat) (hi:i < n) (hj:j < n):gIx (.seq (eP n p)) (.int (i:Int))=some (.seq (ka n (p i)))/\gIx (.seq (ka n (p i))) (.int (j:Int))=some (.seq (bA (p i j))):=⟨eZ (aT _ hi),eZ (aT _ hj)⟩
theorem iU {α:Type} {n i:Nat} (g:Nat->α) (v:α) (hi:i < n):((List.range n).map g).set i v=(List.range n).map fun x=>if x=i then v else g x:=by
 refine List.ext_getElem? fun k=>?_
 by_cases hk:k < n
 . rw [aT _ hk]
   by_cases e:k=i
   . subst e
     rw [List.getElem?_set_self (by rw [Zi,List.length_range];exact hk),if_pos rfl]
   . rw [List.getElem?_set_ne (Ne.symm e),aT _ hk,if_neg e]
 . rw [List.getElem?_eq_none (by rw [List.length_set,Zi,List.length_range];omega),List.getElem?_eq_none (by rw [Zi,List.length_range];omega)]
theorem vB {n i j:Nat} (p:Nat->Nat->List Nat) (l:List Nat) (hi:i < n) (hj:j < n):(aN n p).set i (.lst ((ft n (p i)).set j (.lst (bA l))))=aN n (up2 p i j l):=by
 unfold aN
 rw [iU _ _ hi]
 refine List.map_congr_left fun x _=>?_
 by_cases e:x=i
 . subst e
   rw [if_pos rfl]
   unfold ft
   rw [iU _ _ hj]
   congr 1
   refine List.map_congr_left fun y _=>?_
   unfold up2
   by_cases e2:y=j
   . rw [if_pos e2,if_pos ⟨rfl,e2⟩]
   . rw [if_neg e2,if_neg fun z=>e2 z.2]
 . rw [if_neg e]
   congr 1
   unfold ft
   refine List.map_congr_left fun y _=>?_
   unfold up2
   rw [if_neg fun z=>e z.1]
theorem ej {n:Nat} {p q:Nat->Nat->List Nat} (e:∀ i j,i < n->j < n->p i j=q i j):aN n p=aN n q:=by
 unfold aN ft
 refine List.map_congr_left fun i hi=>?_
 congr 1
 refine List.map_congr_left fun j hj=>?_
 rw [e i j (List.mem_range.mp hi) (List.mem_range.mp hj)]
theorem sX {δ δ':DS} {p:Nat} {fk fl:FD} {fm:FM} {v:D} {Rs row:List D} {i j:Nat} (h0:fm δ=some (v,δ')) (h1:δ'[p]? = some (some (.lst Rs))) (h2:fk δ'=some (.int (i:Int))) (h3:Rs[i]? = some (.lst row)) (h4:fl δ'=some (.int (j:Int))) (h5:j < row.length) :
 fK p fk fl fm δ=some (.nx (δ'.set p (some (.lst (Rs.set i (.lst (row.set j v))))))):=by
 unfold fK
 simp only [h0,Zc,h1,h2,ja (List.getElem?_eq_some_iff.mp h3).1,h3,h4,ja h5]
def cz (T:List (List Bn)):Nat->Nat->Bn:=fun i j=>if i=j then b0 else ak T i j
def fQ (ds:List D) (d:D):Prop:=∃ (d0:D) (T:List (List Bn)) (n:Nat),IsT d0 T/\Sq T n/\n<=41/\ds=[d0]/\d=aE (aS n (cz T))
theorem mM {d0:D} {T:List (List Bn)} {n:Nat} (h:IsT d0 T) (hs:Sq T n) (hn:n<=41):fn fQ [d0]=some (aE (aS n (cz T))):=bT (fun d' h'=>by
 obtain ⟨d1,U,m,g,gs,_,h2,rfl⟩:=h'
 cases h2
 have:=h.inj g
 subst this
 rw [<- hs.len,<- gs.len]) ⟨d0,T,n,h,hs,hn,rfl,rfl⟩
def ff (ds:List D) (d:D):Prop:=∃ n:Nat,n<=41/\ds=[.int (n:Int)]/\d=.lst (aN n fun i _=>[i])
theorem kJ {n:Nat} (hn:n<=41):fn ff [.int (n:Int)]=some (.lst (aN n fun i _=>[i])):=bT (fun d' h'=>by
 obtain ⟨m,_,h2,rfl⟩:=h'
 injection h2 with h2 _
 injection h2 with h2
 have:m=n:=by omega
 subst this
 rfl) ⟨n,hn,rfl,rfl⟩
def kL (f:Nat->Nat->Bn) (p:Nat->Nat->List Nat) (m:Nat):List Nat->Nat->Option D:=fun _ t=>if kp (0,1) (bs (f t m) (f m t))=true then none else some (.lst (bA (p t m++p m t)))
def rgt (n:Nat) (f:Nat->Nat->Bn) (p:Nat->Nat->List Nat) (m:Nat):D:=(aQ (kL f p m) [] (List.range n)).getD .non
theorem nq {n:Nat} {p q:Nat->Nat->List Nat} (h:eP n p=eP n q):∀ i j,i < n->j < n->p i j=q i j:=fun i j hi hj=>by
 have h1:(eP n p)[i]? = (eP n q)[i]?:=by rw [h]
 unfold eP at h1
 rw [aT _ hi,aT _ hi] at h1
 injection h1 with h1
 injection h1 with h1
 have h2:(ka n (p i))[j]? = (ka n (q i))[j]?:=by rw [h1]
 unfold ka at h2
 rw [aT _ hj,aT _ hj] at h2
 injection h2 with h2
 injection h2 with h2
 have key:∀ (a b:List Nat),bA a=bA b->a=b:=by
  intro a
  induction a with
  | nil=>intro b e;cases b with | nil=>rfl | cons y b=>cases e
  | cons x a ih =>
   intro b e
   cases b with
   | nil=>cases e
   | cons y b =>
    have e':D.int (x:Int) :: bA a=D.int (y:Int) :: bA b:=e
    injection e' with e1 e2
    injection e1 with e1
    rw [ih b e2]
    congr 1
    omega
 exact key _ _ h2
structure xr (n:Nat) (f:Nat->Nat->Bn) (p:Nat->Nat->List Nat) (m:Nat):Prop where
 n41:n<=41
 mn:m < n
 bk:∀ i j,i < n->j < n->Bk 3000 (f i j)
 ln:∀ i j,i < n->j < n->(p i j).length<=400
def d5 (ds:List D) (d:D):Prop:=∃ (d0 d1:D) (n m:Nat) (f:Nat->Nat->Bn) (p:Nat->Nat->List Nat),xr n f p m/\IsT d0 (aS n f)/\sh d1=.seq (eP n p)/\ds=[d0,d1,.int (m:Int)]/\d=rgt n f p m
theorem ip {α:Type} {bad bad':List α->α->Option D}:∀ {xs pre:List α},(∀ a x b,xs=a++x :: b->bad (pre++a) x=bad' (pre++a) x)->aQ bad pre xs=aQ bad' pre xs
 | [],_,_=>rfl
 | x :: xs,pre,h=>by
  have h0:=h [] x xs rfl
  rw [List.append_nil] at h0
  show (match bad pre x with | some d=>some d | none=>aQ bad (pre++[x]) xs)=(match bad' pre x with | some d=>some d | none=>aQ bad' (pre++[x]) xs)
  rw [h0]
  cases bad' pre x with
  | some d=>rfl
  | none =>
   refine ip fun a y b e=>?_
   have:=h (x :: a) y b (by rw [e];rfl)
   rw [List.append_assoc]
   exact this
theorem uz {n m:Nat} {f g:Nat->Nat->Bn} {p q:Nat->Nat->List Nat} (hm:m < n) (e:∀ i j,i < n->j < n->f i j=g i j) (e2:∀ i j,i < n->j < n->p i j=q i j):rgt n f p m=rgt n g q m:=by
 unfold rgt
 congr 1
 refine ip fun a x b h=>?_
 have hx:x < n:=by
  have:=(bJ h)
  omega
 unfold kL
 rw [e x m hx hm,e m x hm hx,e2 x m hx hm,e2 m x hm hx]
theorem pY {n:Nat} {f g:Nat->Nat->Bn} (h:aS n f=aS n g):∀ i j,i < n->j < n->f i j=g i j:=fun i j hi hj=>by rw [<- bG f hi hj,h,bG g hi hj]
theorem mO {d0 d1:D} {n m:Nat} {f:Nat->Nat->Bn} {p:Nat->Nat->List Nat} (ok:xr n f p m) (h0:IsT d0 (aS n f)) (h1:sh d1=.seq (eP n p)):fn d5 [d0,d1,.int (m:Int)]=some (rgt n f p m):=bT (fun d' h'=>by
 obtain ⟨e0,e1,n',m',g,q,ok',g0,g1,h2,rfl⟩:=h'
 injection h2 with a b
 injection b with b c
 injection c with c _
 injection c with c
 subst a b
 have em:m'=m:=by omega
 subst em
 have et:=h0.inj g0
 have en:n'=n:=by rw [<- (bC n f).len,et,(bC n' g).len]
 subst en
 rw [h1] at g1
 injection g1 with g1
 exact (uz ok.mn (pY et) (nq g1)).symm) ⟨d0,d1,n,m,f,p,ok,h0,h1,rfl,rfl⟩
def ldF (f:Nat->Nat->Bn) (m:Nat):Nat->Nat->Bn:=fun i j=>if tgt (bs (f i m) (f m j)) (f i j)=true then bs (f i m) (f m j) else f i j
def ldP (f:Nat->Nat->Bn) (p:Nat->Nat->List Nat) (m:Nat):Nat->Nat->List Nat:=fun i j=>if tgt (bs (f i m) (f m j)) (f i j)=true then p i m++p m j else p i j
theorem tH (n:Nat) (f:Nat->Nat->Bn) (p:Nat->Nat->List Nat) (m:Nat):own (rgt n f p m)=true:=by
 unfold rgt
 cases hb:aQ (kL f p m) [] (List.range n) with
 | none=>rfl
 | some d =>
  obtain ⟨a,x,b,_,h,_⟩:=bO hb
  unfold kL at h
  split at h
  . cases h
  . cases h
    show own (.lst _)=true
    rw [own]
    exact i5 _
theorem pB {T:List (List Bn)} {n:Nat} (hs:Sq T n):dr [aG T]=some (.int (n:Int)):=by
 show some (D.int ((dC T).length:Int))=_
 unfold dC
 rw [Zi,hs.len]
theorem yp {T:List (List Bn)} {n:Nat} (hs:Sq T n):dr [aE T]=some (.int (n:Int)):=by
 show some (D.int ((bo T).length:Int))=_
 rw [dE,hs.len]
def d6 (ds:List D) (d:D×D):Prop:=∃ (n m:Nat) (f:Nat->Nat->Bn) (p:Nat->Nat->List Nat),xr n f p m/\f m m=b0/\ds=[aE (aS n f),.lst (aN n p),.int (m:Int)]/\d=(aE (aS n (ldF f m)),.lst (aN n (ldP f p m)))
theorem wg {T U:List (List Bn)} (h:aE T=aE U):T=U:=lB (by rw [<- oG,<- oG,h])
theorem um {n:Nat} {p q:Nat->Nat->List Nat} (h:aN n p=aN n q):∀ i j,i < n->j < n->p i j=q i j:=nq (by rw [<- lG,<- lG,h])
theorem mP {n m:Nat} {f:Nat->Nat->Bn} {p:Nat->Nat->List Nat} (ok:xr n f p m) (h0:f m m=b0):fnM d6 [aE (aS n f),.lst (aN n p),.int (m:Int)]=some (aE (aS n (ldF f m)),.lst (aN n (ldP f p m))):=Ax (fun d' h'=>by
 obtain ⟨n',m',g,q,ok',g0,h2,rfl⟩:=h'
 injection h2 with a b
 injection b with b c
 injection c with c _
 injection c with c
 have em:m'=m:=by omega
 subst em
 have et:=wg a
 have en:n'=n:=by rw [<- (bC n f).len,et,(bC n' g).len]
 subst en
 injection b with b
 have e1:=pY et
 have e2:=um b
 have hm:=ok.mn
 have t1:aS n' (ldF g m')=aS n' (ldF f m'):=cw fun i j hi hj=>by unfold ldF;rw [e1 i m' hi hm,e1 m' j hm hj,e1 i j hi hj]
 have t2:aN n' (ldP g q m')=aN n' (ldP f p m'):=ej fun i j hi hj=>by unfold ldP;rw [e1 i m' hi hm,e1 m' j hm hj,e1 i j hi hj,e2 i m' hi hm,e2 m' j hm hj,e2 i j hi hj]
 rw [t1,t2]) ⟨n,m,f,p,ok,h0,rfl,rfl⟩
def pw (c:Nat->Nat->Bn):Nat->Nat->Nat->List Nat
 | 0=>fun i _=>[i]
 | m+1=>ldP (dm c m) (pw c m) m
def pR (n:Nat) (c:Nat->Nat->Bn):List Nat->Nat->Option D:=fun _ m=>match rgt n (dm c m) (pw c m) m with
 | .non=>none
 | d=>some (.tup [.str "ring",d])
def pQ (T:List (List Bn)):List Nat->Nat->Option D:=fun _ t=>if kp (0,1) (ak T t t)=true then none else some (.tup [.str "ring",.lst [.int (t:Int)]])
def dZ (n:Nat) (T:List (List Bn)):D:=match aQ (pQ T) [] (List.range n) with
 | some d=>d
 | none=>match aQ (pR n (cz T)) [] (List.range n) with
  | some d=>d
  | none=>.tup [.str "table",aE (aS n (dm (cz T) n))]
theorem sZ {n m:Nat} {f:Nat->Nat->Bn} {p:Nat->Nat->List Nat} (h:rgt n f p m=.non):∀ t,t < n->Nn (bs (f t m) (f m t)):=fun t ht=>by
 unfold rgt at h
 cases hb:aQ (kL f p m) [] (List.range n) with
 | none =>
  obtain ⟨a,b,e⟩:=List.append_of_mem (List.mem_range.mpr ht)
  have:=eN hb a t b e
  unfold kL at this
  split at this
  . rename_i q;exact nn_kp.mp q
  . cases this
 | some d =>
  rw [hb] at h
  obtain ⟨a,x,b,_,h2,_⟩:=bO hb
  unfold kL at h2
  split at h2
  . cases h2
  . cases h2
    cases h
theorem oM {n m:Nat} (f:Nat->Nat->Bn) (p:Nat->Nat->List Nat):rgt n f p m=.non \/ ∃ t,t < n/\rgt n f p m=.lst (bA (p t m++p m t))/\¬ Nn (bs (f t m) (f m t)):=by
 unfold rgt
 cases hb:aQ (kL f p m) [] (List.range n) with
 | none=>exact .inl rfl
 | some d =>
  obtain ⟨a,x,b,e,h2,_⟩:=bO hb
  have hx:x < n:=by have:=bJ e;omega
  unfold kL at h2
  split at h2
  . cases h2
  . rename_i q
    cases h2
    exact .inr ⟨x,hx,rfl,fun z=>q (nn_kp.mpr z)⟩
theorem ud {c:Nat->Nat->Bn} (h:∀ i j,Bk 2000 (c i j)):∀ (m i j:Nat),Bk (2000+m) (dm c m i j)
 | 0,i,j=>h i j
 | m+1,i,j=>by
  rcases kq (c:=c) m i j with e | e
  . rw [e];exact (ud h m i j).mono (by omega)
  . rw [e];exact (ud h m i m).sum (ud h m m j)
structure St (n:Nat) (c:Nat->Nat->Bn) (m:Nat):Prop where
 fw:Fw c n m
 wy:∀ i j,i < n->j < n->Way c n m i j (pw c m i j)
 dg:∀ i,i < n->pw c m i i=[i]
theorem sP {n:Nat} {c:Nat->Nat->Bn} (h:∀ i,i < n->c i i=b0):St n c 0:=⟨yD h,fun i j _ _=>vj i j,fun _ _=>rfl⟩
theorem sQ {n m:Nat} {c:Nat->Nat->Bn} (s:St n c m) (hm:m < n) (ok:∀ i,i < n->Nn (bs (dm c m i m) (dm c m m i))):St n c (m+1):=by
 refine ⟨yE s.fw hm ok,fun i j hi hj=>?_,fun i hi=>?_⟩
 . show Way c n (m+1) i j (ldP (dm c m) (pw c m) m i j)
   unfold ldP
   cases q:tgt (bs (dm c m i m) (dm c m m j)) (dm c m i j) with
   | true=>rw [if_pos rfl];exact xu s.fw hm hi hj (s.wy i m hi hm) (s.wy m j hm hj) (ok i hi) q
   | false =>
    rw [if_neg (by decide)]
    exact vk (s.wy i j hi hj) (if_neg (by rw [q];decide))
 . show ldP (dm c m) (pw c m) m i i=_
   unfold ldP
   have:=ok i hi
   unfold Nn Le at this
   rw [s.fw.dia i hi,this,if_neg (by decide)]
   exact s.dg i hi
theorem St.len {n m:Nat} {c:Nat->Nat->Bn} (s:St n c m) (hm:m<=n) (i j:Nat) (hi:i < n) (hj:j < n):(pw c m i j).length<=n:=by
 by_cases h:i=j
 . subst h
   rw [s.dg i hi]
   show 1<=n
   omega
 . have nd:=List.nodup_append.mp ((s.wy i j hi hj).nd h)
   exact j2 n _ nd.1 ((s.wy i j hi hj).lt hi hm)
theorem St.rt {n m:Nat} {c:Nat->Nat->Bn} (s:St n c m) (hb:∀ i j,Bk 2000 (c i j)) (hn:n<=41) (hm:m < n):xr n (dm c m) (pw c m) m :=
 ⟨hn,hm,fun i j _ _=>(ud hb m i j).mono (by omega),fun i j hi hj=>Nat.le_trans (s.len (by omega) i j hi hj) (by omega)⟩
theorem BZ {T:List (List Bn)} (h:∀ i j,Bk 2000 (ak T i j)) (i j:Nat):Bk 2000 (cz T i j):=by
 unfold cz
 split
 . show Sm 2000 0
   exact Sm.mono (k:=1) (show (0:Int).natAbs < 2 ^ 1 by decide) (by decide)
 . exact h i j
theorem kj (n:Nat) (T:List (List Bn)):own (dZ n T)=true:=by
 unfold dZ
 cases h1:aQ (pQ T) [] (List.range n) with
 | some d =>
  obtain ⟨a,x,b,_,h2,_⟩:=bO h1
  unfold pQ at h2
  split at h2
  . cases h2
  . cases h2;rfl
 | none =>
  dsimp only
  cases h3:aQ (pR n (cz T)) [] (List.range n) with
  | some d =>
   obtain ⟨a,x,b,_,h2,_⟩:=bO h3
   unfold pR at h2
   rcases oM (n:=n) (m:=x) (dm (cz T) x) (pw (cz T) x) with e | ⟨t,_,e,_⟩
   . rw [e] at h2;cases h2
   . rw [e] at h2
     cases h2
     show (true && (own (.lst _) && true))=true
     rw [own,i5]
     rfl
  | none =>
   show (true && (own (aE _) && true))=true
   rw [bY]
   rfl
theorem vx {δ:DS} {i j:Nat} {G:List D->Option (D×D)} {g:FA} {xs ys es:List D} {d0 d1:D} (h1:δ[i]? = some (some (.lst xs))) (h2:δ[j]? = some (some (.lst ys))) (h3:g δ=some es) (h4:G (.lst xs :: .lst ys :: es)=some (d0,d1)) (h5:bM es=true) (h6:own d0=true) (h7:own d1=true) (h8:i ≠ j):lK i j G g δ=some (.nx ((δ.set i (some d0)).set j (some d1))):=by
 unfold lK
 simp only [h1,h2,h3,h4,Zc,h5,h6,h7,ne_eq,h8,not_false_eq_true,and_self,if_true]
def jP (ds:List D) (d:D):Prop:=∃ (d0:D) (T:List (List Bn)) (n:Nat),IsT d0 T/\Sq T n/\n<=41/\(∀ i j,Bk 2000 (ak T i j))/\ds=[d0]/\d=dZ n T
theorem mR {d0:D} {T:List (List Bn)} {n:Nat} (h:IsT d0 T) (hs:Sq T n) (hn:n<=41) (hb:∀ i j,Bk 2000 (ak T i j)):fn jP [d0]=some (dZ n T):=bT (fun d' h'=>by
 obtain ⟨d1,U,m,g,gs,_,_,h2,rfl⟩:=h'
 cases h2
 have:=h.inj g
 subst this
 rw [<- hs.len,<- gs.len]) ⟨d0,T,n,h,hs,hn,hb,rfl,rfl⟩
theorem vy {n:Nat} {c:Nat->Nat->Bn} (hd:∀ i,i < n->c i i=b0):∀ m,m<=n->(∀ k,k < m->rgt n (dm c k) (pw c k) k=.non)->St n c m
 | 0,_,_=>sP hd
 | m+1,hm,h=>sQ (vy hd m (by omega) fun k hk=>h k (by omega)) (by omega) (sZ (h m (by omega)))
theorem t8 {α:Type} {f:D->D->Option Bool} {a b:α->D}:∀ (xs:List α),(∀ x∈xs,f (a x) (b x)=some true)->eqL f (xs.map a) (xs.map b)=some true
 | [],_=>rfl
 | x :: xs,h=>by
  show ((f (a x) (b x)).bind fun p=>(eqL f (xs.map a) (xs.map b)).bind fun q=>some (p && q))=_
  rw [h x Zj,t8 xs fun y m=>h y (Zk _ m)]
  rfl
theorem AR {k:Nat} {fm:FM} {δ δ':DS} {ds:List D} {d:D} (h:fm δ=some (.tup ds,δ')) (g:ds[k]? = some d):xw k fm δ=some (d,δ'):=by
 unfold xw
 rw [h]
 show (ds[k]?).map _=_
 rw [g]
 rfl
def opD:Option (Int×Int)->D
 | none=>.non
 | some p=>fr p
theorem tZ {p q:Int×Int} (h:fr p=fr q):p=q:=by
 obtain ⟨a,b⟩:=p
 obtain ⟨c,e⟩:=q
 cases h;rfl
theorem tI {a b:Option (Int×Int)} (h:opD a=opD b):a=b:=by
 cases a with
 | none=>cases b with
  | none=>rfl
  | some q=>cases h
 | some p=>cases b with
  | none=>cases h
  | some q=>rw [tZ h]
abbrev Hs (o:Option (Int×Int)):Prop:=∀ p,o=some p->Fr 1900 p
def j9 (ds:List D) (d:D):Prop:=∃ lo hi,Hs lo/\Hs hi/\ds=[opD lo,opD hi]/\d=fr (btw lo hi)
theorem u6 {lo hi:Option (Int×Int)} (h1:Hs lo) (h2:Hs hi):fn j9 [opD lo,opD hi]=some (fr (btw lo hi)):=bT (fun d' h'=>by
 obtain ⟨a,b,_,_,e,rfl⟩:=h'
 injection e with e1 e2
 injection e2 with e2 _
 rw [tI e1,tI e2]) ⟨lo,hi,h1,h2,rfl,rfl⟩
def jf (ds:List D) (d:D):Prop:=∃ (x:D) (ps:List (Int×Int)),asL x=some (ps.map fr)/\(∀ p∈ps,Fk p)/\ds=[x]/\d=opD (gre ps none)
def pT (ds:List D) (d:D):Prop:=∃ (x:D) (ps:List (Int×Int)),asL x=some (ps.map fr)/\(∀ p∈ps,Fk p)/\ds=[x]/\d=opD (lea ps none)
theorem ss {x:D} {ps:List (Int×Int)} (hx:asL x=some (ps.map fr)) (h:∀ p∈ps,Fk p):fn jf [x]=some (opD (gre ps none)):=bT (fun d' h'=>by
 obtain ⟨y,a,hy,_,e,rfl⟩:=h'
 injection e with e1 _
 subst e1
 rw [hx] at hy
 injection hy with hy
 rw [lg hy]) ⟨x,ps,hx,h,rfl,rfl⟩
theorem yN {x:D} {ps:List (Int×Int)} (hx:asL x=some (ps.map fr)) (h:∀ p∈ps,Fk p):fn pT [x]=some (opD (lea ps none)):=bT (fun d' h'=>by
 obtain ⟨y,a,hy,_,e,rfl⟩:=h'
 injection e with e1 _
 subst e1
 rw [hx] at hy
 injection hy with hy
 rw [lg hy]) ⟨x,ps,hx,h,rfl,rfl⟩
def plD (ps:Pl):D:=.mf (ps.map fun p=>((p.1:Nat):Int)) (ps.map fun p=>fr p.2)
theorem lH:∀ (ps:Pl),shs (ps.map fun p=>fr p.2)=ps.map fun p=>fr p.2
 | []=>rfl
 | p :: ps=>by
  show sh (fr p.2) :: shs (ps.map fun p=>fr p.2)=_
  rw [lH ps];rfl
theorem rJ (ps:Pl):sh (plD ps)=plD ps:=by unfold plD;rw [sh,lH]
theorem oU:∀ {ps qs:Pl},plD ps=plD qs->ps=qs
 | [],[],_=>rfl
 | [],_ :: _,h=>by injection h with h _;cases h
 | _ :: _,[],h=>by injection h with h _;cases h
 | p :: ps,q :: qs,h=>by
  injection h with h1 h2
  rw [Zp,Zp] at h1 h2
  injection h1 with a1 a2
  injection h2 with b1 b2
  have e:=oU (ps:=ps) (qs:=qs) (by unfold plD;rw [a2,b2])
  have e1:p.1=q.1:=by omega
  have e2:p.2=q.2:=tZ b1
  rw [e,show p=q from Prod.ext e1 e2]
theorem tM:∀ {ps:Pl} {t:Nat} {v:Int×Int},(ps.map (·.1)).Nodup->(t,v)∈ps->lk (ps.map fun p=>((p.1:Nat):Int)) (ps.map fun p=>fr p.2) (t:Int)=some (fr v)
 | [],_,_,_,m=>by cases m
 | p :: ps,t,v,nd,m=>by
  rw [Zp,List.nodup_cons] at nd
  rw [Zp,Zp,pv]
  rcases Zo.mp m with z | z
  . rw [<- z,if_pos rfl]
  . have h:p.1 ≠ t:=fun e=>nd.1 (Zm.mpr ⟨_,z,e.symm⟩)
    rw [if_neg (by omega)]
    exact tM nd.2 z
theorem wR {ps:Pl} {t:Nat} {v:Int×Int} (nd:(ps.map (·.1)).Nodup) (m:(t,v)∈ps):qT (plD ps) (.int (t:Int))=some (fr v):=tM nd m
theorem km {α:Type} {F:D->Option (Option D)} {f:α->D} {h:α->Option D}:∀ {xs:List α},(∀ x∈xs,F (f x)=some (h x))->gM F (xs.map f)=some (xs.filterMap h)
 | [],_=>rfl
 | x :: xs,q=>by
  rw [Zp,List.filterMap_cons]
  have ih:=km (F:=F) (f:=f) (h:=h) (xs:=xs) fun y m=>q y (Zk _ m)
  have e:=q x Zj
  show ((F (f x)).bind _)=_
  rw [e]
  show ((gM F (xs.map f)).bind _)=_
  rw [ih]
  cases h x <;> rfl
theorem iP {α:Type} {src:FA} {n:Nat} {js:List Nat} {g:D->DS->Option DS} {fc:FT} {felt:FM} {δ:DS} {f:α->D} {h:α->Option D} {xs:List α} (hs:src δ=some (xs.map f)) (ht:∀ x∈xs,fI n js g fc felt δ (f x)=some (h x)) (hl:xs.length<=1000):lA src n js g fc felt δ=some (.lst (xs.filterMap h),δ):=by
 unfold lA
 rw [hs]
 show ((gM (fI n js g fc felt δ) (xs.map f)).bind _)=_
 rw [km ht]
 exact if_pos (Nat.le_trans (List.length_filterMap_le _ _) hl)
theorem pX {n:Nat} {js:List Nat} {g:D->DS->Option DS} {fc:FT} {felt:FM} {δ δ1:DS} {d:D} (h1:g d (eW n (bv js δ))=some δ1) (h2:fc δ1=some false):fI n js g fc felt δ d=some none:=by
 unfold fI
 rw [h1]
 show ((fc δ1).bind _)=_
 rw [h2]
 rfl
structure Vb (T:List (List Bn)) (n:Nat) (ps:Pl) (t:Nat):Prop where
 sq:Sq T n
 ht:t < n
 lt:∀ p∈ps,p.1 < n
 nd:(ps.map (·.1)).Nodup
 len:ps.length<=41
 fr:∀ p∈ps,Fr 900 p.2
 bd:∀ i j,Bk 850 (ak T i j)
def ck (ds:List D) (d:D):Prop:=∃ T n ps t,Vb T n ps t/\ds=[aG T,plD ps,.int ((t:Nat):Int)]/\d=fr (dw (ak T) ps t)
theorem mN {T:List (List Bn)} {n:Nat} {ps:Pl} {t:Nat} (h:Vb T n ps t):fn ck [aG T,plD ps,.int ((t:Nat):Int)]=some (fr (dw (ak T) ps t)):=bT (fun d' h'=>by
 obtain ⟨T',n',ps',t',_,e,rfl⟩:=h'
 injection e with e1 e
 injection e with e2 e
 injection e with e3 _
 injection e3 with e3
 rw [lB e1,oU e2,show t=t' by omega]) ⟨T,n,ps,t,h,rfl,rfl⟩
theorem wX {n:Int} (h:Sm 850 n):Flw (n,1):=⟨⟨by show (0:Int) < 1;decide,h.mono (by decide),Nat.one_lt_two_pow (by decide)⟩,(iu (M:=n.natAbs) (by omega) (by omega) (W:=1) (by decide)).lw⟩
theorem wW {n:Int} (h:Sm 850 n):Fr 900 (n,1):=⟨(iu (M:=n.natAbs) (by omega) (by omega) (W:=1) (by decide)).lw,h.mono (by decide),Nat.one_lt_two_pow (by decide)⟩
theorem wB {T:List (List Bn)} {n:Nat} {ps:Pl} {t:Nat} (h:Vb T n ps t):∀ g∈dq (ak T) ps t,Fr 1900 g:=fun g m=>by
 obtain ⟨p,mp,e⟩:=List.mem_filterMap.mp m
 have b:=h.bd p.1 t
 rcases q:ak T p.1 t with _ | ⟨k,s⟩
 . rw [q] at e;cases e
 . rw [q] at e b
   cases e
   exact ((h.fr p mp).mi (wW b)).mono (by decide)
theorem yA {T:List (List Bn)} {n:Nat} {ps:Pl} {t:Nat} (h:Vb T n ps t):∀ g∈cV (ak T) ps t,Fr 1900 g:=fun g m=>by
 obtain ⟨p,mp,e⟩:=List.mem_filterMap.mp m
 have b:=h.bd t p.1
 rcases q:ak T t p.1 with _ | ⟨k,s⟩
 . rw [q] at e;cases e
 . rw [q] at e b
   cases e
   exact ((h.fr p mp).pl (wW b)).mono (by decide)
def plO (ps:Pl):D:=.md (ps.map fun p=>((p.1:Nat):Int)) (ps.map fun p=>fr p.2)
def plS (ps:Pl):D:=.ms (ps.map fun p=>((p.1:Nat):Int)) (ps.map fun p=>fr p.2)
theorem zA (ps:Pl):sh (plO ps)=plS ps:=by unfold plO plS;rw [sh,lH]
theorem xX {ps qs:Pl} (h:plS ps=plS qs):ps=qs:=oU (by injection h with h1 h2;unfold plD;rw [h1,h2])
theorem n5:∀ (ps:Pl),bM (ps.map fun p=>fr p.2)=true
 | []=>rfl
 | p :: ps=>by
  show (imm (fr p.2) && bM (ps.map fun p=>fr p.2))=true
  rw [n5 ps];rfl
theorem r6:∀ (ps:Pl) (t:Nat),(lk (ps.map fun p=>((p.1:Nat):Int)) (ps.map fun p=>fr p.2) (t:Int)).isSome=decide (has ps t)
 | [],t=>by
  rw [decide_eq_false (fun ⟨v,m⟩=>nomatch m)];rfl
 | p :: ps,t=>by
  rw [Zp,Zp,pv]
  by_cases h:p.1=t
  . rw [if_pos (by omega),decide_eq_true (show has (p :: ps) t from ⟨p.2,by rw [<- h];exact Zj⟩)];rfl
  . rw [if_neg (by omega),r6 ps t]
    by_cases g:has ps t
    . obtain ⟨v,m⟩:=g
      rw [decide_eq_true (show has ps t from ⟨v,m⟩),decide_eq_true (show has (p :: ps) t from ⟨v,Zk _ m⟩)]
    . rw [decide_eq_false g,decide_eq_false fun ⟨v,m⟩=>by
       rcases Zo.mp m with z | z
       . exact h (by rw [<- z])
       . exact g ⟨v,z⟩]
structure Fi (T:List (List Bn)) (n:Nat) (ps:Pl):Prop where
 sq:Sq T n
 n0:0 < n
 n1:n<=41
 vb:∀ m,m < n->Vb T n (br (ak T) ps m) m
 fr:∀ p∈br (ak T) ps n,Fr 900 p.2
 nd:((br (ak T) ps n).map (·.1)).Nodup
 all:∀ t,t < n->has (br (ak T) ps n) t
def fpt (T:List (List Bn)) (n:Nat) (ps:Pl):List (Int×Int):=(List.range (n - 1)).map fun i=>mi (atP (br (ak T) ps n) (i+1)) (atP (br (ak T) ps n) 0)
def mZ (ds:List D) (d:D):Prop:=∃ d0 d1 T n ps,IsT d0 T/\sh d1=plS ps/\Fi T n ps/\ds=[d0,d1]/\d=.lst ((fpt T n ps).map fr)
theorem w9 {d0 d1:D} {T:List (List Bn)} {n:Nat} {ps:Pl} (h0:IsT d0 T) (h1:sh d1=plS ps) (h:Fi T n ps):fn mZ [d0,d1]=some (.lst ((fpt T n ps).map fr)):=bT (fun d' h'=>by
 obtain ⟨e0,e1,T',n',ps',g0,g1,g,e,rfl⟩:=h'
 injection e with a1 e
 injection e with a2 _
 subst a1 a2
 have t1:=IsT.inj h0 g0
 subst t1
 have t2:=xX (h1.symm.trans g1)
 subst t2
 have t3:n=n':=h.sq.len.symm.trans g.sq.len
 subst t3
 rfl) ⟨d0,d1,T,n,ps,h0,h1,h,rfl,rfl⟩
theorem uu {g:FA} {δ:DS} {i j:Int} (h:g δ=some [.int i,.int j]) (h0:0<=i) (h1:i<=1000) (h2:0<=j) (h3:j<=1000):nw g δ=some ((List.range (j - i).toNat).map fun k=>D.int (i+((k:Nat):Int))):=by
 unfold nw
 rw [h]
 show (if -(2 ^ 62)<=i/\i < 2 ^ 62/\-(2 ^ 62)<=j/\j < 2 ^ 62 then some ((List.range (j - i).toNat).map fun k=>D.int (i+((k:Nat):Int))) else none)=_
 rw [if_pos (by omega)]
theorem ut {g:FA} {δ:DS} {n:Nat} (h:g δ=some [.int 1,.int (n:Int)]) (h0:0 < n) (h1:n<=1000):nw g δ=some ((List.range (n - 1)).map fun (i:Nat)=>D.int (((i+1:Nat)):Int)):=by
 rw [uu h (by decide) (by decide) (by omega) (by omega),show ((n:Int) - 1).toNat=n - 1 by omega]
 refine congrArg some (List.map_congr_left fun i _=>?_)
 rw [show (1:Int)+((i:Nat):Int)=((i+1:Nat):Int) by omega]
theorem yK {d:Nat->Nat->Bn} {ps:Pl} {m:Nat} (h:¬ has (br d ps m) m):br d ps (m+1)=br d ps m++[(m,dw d (br d ps m) m)]:=if_neg h
theorem wZ {d:Nat->Nat->Bn} {ps:Pl} {m:Nat} (h:has (br d ps m) m):br d ps (m+1)=br d ps m:=if_pos h
theorem n8 {d:Nat->Nat->Bn} {n:Nat} (dia:∀ i,i < n+1->d i i=b0):rC d (n+1) [(0,(0,1))] (fun _=>0):=by
 refine ⟨fun p m=>?_,by simp,fun p m=>?_,fun p m=>?_,fun p mp q mq=>?_⟩
 . rw [Zl.mp m];exact Nat.succ_pos n
 . rw [Zl.mp m];show (0:Int) < 1;decide
 . rw [Zl.mp m];show (0:Rat)=vl (0,1);rw [gD];rfl
 . rw [Zl.mp mp,Zl.mp mq]
   show Kq (0 - 0) (d 0 0)
   rw [dia 0 (Nat.succ_pos n)]
   show (0:Rat) - 0<=((0:Int):Rat)
   grind
theorem pL {k:Nat} {c:Nat->Nat->Bn} (h:∀ i j,Bk k (c i j)):∀ (m i j:Nat),Bk (k+m) (dm c m i j)
 | 0,i,j=>h i j
 | m+1,i,j=>by
  rcases kq (c:=c) m i j with e | e
  . rw [e];exact (pL h m i j).mono (by omega)
  . rw [e];exact (pL h m i m).sum (pL h m m j)
theorem AA {k:Nat} (hk:1<=k) {T:List (List Bn)} (h:∀ i j,Bk k (ak T i j)) (i j:Nat):Bk k (cz T i j):=by
 unfold cz
 split
 . show Sm k 0
   exact Sm.mono (k:=1) (show (0:Int).natAbs < 2 ^ 1 by decide) hk
 . exact h i j
theorem yT {k n:Nat} {f:Nat->Nat->Bn} (h:∀ i j,Bk k (f i j)) (i j:Nat):Bk k (ak (aS n f) i j):=by
 unfold ak
 rw [Zq,Zq]
 cases q:(aS n f)[i]? with
 | none=>trivial
 | some r =>
  rw [Option.getD_some]
  have m:=List.mem_of_getElem? q
  unfold aS at m
  obtain ⟨a,_,rfl⟩:=Zm.mp m
  cases p:(qj n (f a))[j]? with
  | none=>trivial
  | some b =>
   have m2:=List.mem_of_getElem? p
   unfold qj at m2
   obtain ⟨c,_,rfl⟩:=Zm.mp m2
   exact h a c
theorem B3 {k:Nat} {b:Bn} (h:Bk k b):Bo (2 ^ k) b:=by
 rcases b with _ | ⟨n,s⟩
 . trivial
 . have h':n.natAbs < 2 ^ k:=h
   have c1:((2 ^ k:Nat):Int)=2 ^ k:=by rw [Int.natCast_pow];rfl
   show -(2 ^ k)<=n/\n<=2 ^ k
   omega
structure Cld (n:Nat) (T U:List (List Bn)):Prop where
 sq:Sq U n
 cl:dZ n T=.tup [.str "table",aE U]
 dia:∀ i,i < n->ak U i i=b0
 clo:∀ k i j,k < n->i < n->j < n->Le (ak U i j) (bs (ak U i k) (ak U k j))
 li:∀ x,Li (ak T) n x <-> Li (ak U) n x
 is:U=aS n (dm (cz T) n)
theorem wG {c d:Nat->Nat->Bn} {n:Nat} {x:Nat->Rat} (e:∀ i j,i < n->j < n->c i j=d i j):Li c n x <-> Li d n x :=
 ⟨fun h i j hi hj=>by rw [<- e i j hi hj];exact h i j hi hj,fun h i j hi hj=>by rw [e i j hi hj];exact h i j hi hj⟩
theorem zj {T:List (List Bn)} {n:Nat} {x:Nat->Rat} (dg:∀ i,i < n->Nn (ak T i i)):Li (ak T) n x <-> Li (cz T) n x:=by
 constructor
 . intro h i j hi hj
   unfold cz
   split
   . rename_i e
     subst e
     show x i - x i<=((0:Int):Rat)
     grind
   . exact h i j hi hj
 . intro h i j hi hj
   have:=h i j hi hj
   unfold cz at this
   split at this
   . rename_i e
     subst e
     have e2:x i - x i=0:=by grind
     rw [e2,pC]
     exact dg i hi
   . exact this
theorem mU (T:List (List Bn)) (n:Nat):(∃ r,dZ n T=.tup [.str "ring",.lst (bA r)]/\∀ x,¬ Li (ak T) n x) \/ ∃ U,Cld n T U:=by
 cases h1:aQ (pQ T) [] (List.range n) with
 | some d =>
  obtain ⟨a,t,b,e,h2,_⟩:=bO h1
  have ht:t < n:=by have:=bJ e;omega
  unfold pQ at h2
  split at h2
  . cases h2
  . rename_i q
    cases h2
    refine .inl ⟨[t],?_,fun x hx=>q (nn_kp.mpr (yn ht hx))⟩
    unfold dZ
    rw [h1]
    rfl
 | none =>
  have dg:∀ i,i < n->Nn (ak T i i):=fun i hi=>by
   obtain ⟨a,b,e⟩:=List.append_of_mem (List.mem_range.mpr hi)
   have:=eN h1 a i b e
   unfold pQ at this
   split at this
   . rename_i q;exact nn_kp.mp q
   . cases this
  have hd:∀ i,i < n->cz T i i=b0:=fun i _=>if_pos rfl
  cases h3:aQ (pR n (cz T)) [] (List.range n) with
  | some d =>
   obtain ⟨a,m,b,e,h2,h4⟩:=bO h3
   obtain ⟨rfl,hm⟩:=bJ e
   generalize a.length=m at *
   unfold pR at h2
   rcases oM (n:=n) (m:=m) (dm (cz T) m) (pw (cz T) m) with z | ⟨t,ht,z,bad⟩
   . rw [z] at h2;cases h2
   . rw [z] at h2
     cases h2
     refine .inl ⟨pw (cz T) m t m++pw (cz T) m m t,?_,fun x hx=>BH hm ht bad ((zj dg).mp hx)⟩
     unfold dZ
     rw [h1]
     dsimp only
     rw [h3]
  | none =>
   have ok:∀ k,k < n->rgt n (dm (cz T) k) (pw (cz T) k) k=.non:=fun k hk=>by
    obtain ⟨a,b,e⟩:=List.append_of_mem (List.mem_range.mpr hk)
    have:=eN h3 a k b e
    unfold pR at this
    rcases oM (n:=n) (m:=k) (dm (cz T) k) (pw (cz T) k) with z | ⟨t,_,z,_⟩
    . exact z
    . rw [z] at this;cases this
   have st:=vy hd n (Nat.le_refl n) ok
   have ec:∀ i j,i < n->j < n->ak (aS n (dm (cz T) n)) i j=dm (cz T) n i j:=fun i j hi hj=>bG _ hi hj
   refine .inr ⟨aS n (dm (cz T) n),bC n _,?_,fun i hi=>?_,fun k i j hk hi hj=>?_,fun x=>?_,rfl⟩
   . unfold dZ
     rw [h1]
     dsimp only
     rw [h3]
   . rw [ec i i hi hi];exact st.fw.dia i hi
   . rw [ec i j hi hj,ec i k hi hk,ec k j hk hj];exact st.fw.clo k hk i j hi hj
   . rw [zj dg,wG ec]
     exact ⟨fun h=>wF h n (Nat.le_refl n),wE⟩
theorem pN {U:List (List Bn)} {n:Nat} (sq:Sq U n) (dia:∀ i,i < n->ak U i i=b0) (clo:∀ k i j,k < n->i < n->j < n->Le (ak U i j) (bs (ak U i k) (ak U k j))):dZ n U=.tup [.str "table",aE U]:=by
 have ez:∀ i j,i < n->j < n->cz U i j=ak U i j:=fun i j hi _=>by
  unfold cz
  split
  . rename_i e
    subst e
    exact (dia i hi).symm
  . rfl
 have dz:∀ m,m<=n->∀ i j,i < n->j < n->dm (cz U) m i j=cz U i j:=oj (fun i _=>if_pos rfl) (fun k i j hk hi hj=>by rw [ez i j hi hj,ez i k hi hk,ez k j hk hj];exact clo k i j hk hi hj)
 rcases mU U n with ⟨r,_,no⟩ | ⟨V,c⟩
 . exfalso
   obtain ⟨x,hx⟩:∃ x,Li (ak U) n x:=by
    cases n with
    | zero=>exact ⟨fun _=>0,fun i j hi _=>absurd hi (Nat.not_lt_zero i)⟩
    | succ n=>exact ⟨_,yL (ps:=[(0,(0,1))]) (Nat.succ_pos n) dia clo ⟨fun _=>0,n8 dia⟩⟩
   exact no x hx
 . have:V=U:=c.is.trans (kO (bC n _) sq fun i j hi hj=>by rw [bG _ hi hj,dz n (Nat.le_refl n) i j hi hj,ez i j hi hj])
   rw [this] at c
   exact c.cl
theorem Cld.bk {n k:Nat} {T U:List (List Bn)} (c:Cld n T U) (hk:1<=k) (h:∀ i j,Bk k (ak T i j)) (i j:Nat):Bk (k+n) (ak U i j):=by
 rw [c.is]
 exact yT (pL (AA hk h) n) i j
structure Beg (U:List (List Bn)) (n:Nat) (ps:Pl):Prop where
 good:∃ x,rC (ak U) n ps x
 dy:∃ W M:Int,0 < W/\0<=M/\W<=2 ^ 240/\M<=2 ^ 602/\∀ p∈ps,Dy W M p.2
theorem oh {U:List (List Bn)} {ps:Pl} {n:Nat} (bk:∀ i j,Bk 600 (ak U i j)) (b:Beg U n ps) (m:Nat) (hm:m<=41):∃ W M:Int,W<=2 ^ 281/\M<=2 ^ 607/\∀ p∈br (ak U) ps m,Dy W M p.2:=by
 obtain ⟨W,M,h1,h2,h3,h4,h5⟩:=b.dy
 have p1:(0:Int) < 2 ^ 600:=gF 600
 have f:=t5 h1 (Int.le_of_lt p1) h2 (fun i j=>B3 (bk i j)) h5 m
 refine ⟨_,_,?_,?_,f⟩
 . have e1:(2:Int) ^ m<=2 ^ 41:=by
    have:=Nat.pow_le_pow_right (n:=2) (by decide) hm
    have c1:((2 ^ m:Nat):Int)=2 ^ m:=by rw [Int.natCast_pow];rfl
    have c2:((2 ^ 41:Nat):Int)=2 ^ 41:=by rw [Int.natCast_pow];rfl
    omega
   have e2:W*2 ^ m<=W*2 ^ 41:=Int.mul_le_mul_of_nonneg_left e1 (Int.le_of_lt h1)
   have e3:W*2 ^ 41<=2 ^ 240*2 ^ 41:=Int.mul_le_mul_of_nonneg_right h3 (Int.le_of_lt (gF 41))
   have e4:(2:Int) ^ 240*2 ^ 41=2 ^ 281:=by rw [<- Int.pow_add]
   omega
 . have e1:(m:Int)*(2 ^ 600+1)<=41*(2 ^ 600+1):=Int.mul_le_mul_of_nonneg_right (by omega) (by omega)
   have e4:(2:Int) ^ 607=128*2 ^ 600:=by rw [show (607:Nat)=7+600 from rfl,Int.pow_add];rfl
   have e5:(2:Int) ^ 602=4*2 ^ 600:=by rw [show (602:Nat)=2+600 from rfl,Int.pow_add];rfl
   rw [e5] at h4
   rw [e4]
   generalize (2:Int) ^ 600=z at *
   omega
theorem BV {U:List (List Bn)} {n:Nat} {ps:Pl} (sq:Sq U n) (n0:0 < n) (n1:n<=41) (bk:∀ i j,Bk 600 (ak U i j)) (dia:∀ i,i < n->ak U i i=b0) (clo:∀ k i j,k < n->i < n->j < n->Le (ak U i j) (bs (ak U i k) (ak U k j))) (b:Beg U n ps):Fi U n ps:=by
 have g:=fun m hm=>j8 dia clo b.good m hm
 have d:=fun m hm=>oh bk b m hm
 refine ⟨sq,n0,n1,fun m hm=>?_,fun p mp=>?_,?_,(g n (Nat.le_refl n)).2.1⟩
 . obtain ⟨⟨x,gx⟩,_,_⟩:=g m (by omega)
   obtain ⟨W,M,a1,a2,a3⟩:=d m (by omega)
   refine ⟨sq,hm,gx.lt,gx.nd,?_,fun p mp=>xc (a3 p mp) a1 a2 (by decide),fun i j=>(bk i j).mono (by decide)⟩
   have:=j2 n _ gx.nd (fun x m=>by obtain ⟨p,mp,rfl⟩:=Zm.mp m;exact gx.lt p mp)
   rw [Zi] at this
   omega
 . obtain ⟨W,M,a1,a2,a3⟩:=d n n1
   exact xc (a3 p mp) a1 a2 (by decide)
 . obtain ⟨⟨x,gx⟩,_,_⟩:=g n (Nat.le_refl n)
   exact gx.nd
theorem yq (T:List (List Bn)) (n:Nat) (ps:Pl):(fpt T n ps).length=n - 1:=by unfold fpt;rw [Zi,List.length_range]
theorem Aw {U:List (List Bn)} {n:Nat} {ps:Pl} (n1:n<=41) (bk:∀ i j,Bk 600 (ak U i j)) (h:Fi U n ps) (b:Beg U n ps):∀ p∈fpt U n ps,Fr 900 p:=fun p m=>by
 unfold fpt at m
 obtain ⟨i,mi',rfl⟩:=Zm.mp m
 have hi:=List.mem_range.mp mi'
 obtain ⟨W,M,a1,a2,a3⟩:=oh bk b n n1
 obtain ⟨v,mv⟩:=h.all (i+1) (by omega)
 obtain ⟨z,mz⟩:=h.all 0 h.n0
 rw [jd h.nd mv,jd h.nd mz]
 refine xc (a:=281) (b:=608) ((a3 _ mv).mi (a3 _ mz)) a1 ?_ (by decide)
 have e4:(2:Int) ^ 608=2*2 ^ 607:=by rw [show (608:Nat)=1+607 from rfl,Int.pow_add];rfl
 rw [e4]
 generalize (2:Int) ^ 607=z at *
 omega
theorem pA {T:List (List Bn)} {ps:List (Int×Int)} {k:Nat} (hk:1<=k) (h:∀ p∈ps,Fr k p):kG T ps=true <-> Li (ak T) (ps.length+1) (fun i=>vl (cI ps i)):=by
 have key:∀ i j,kp (dif ps i j) (ak T i j)=true <-> Kq (vl (cI ps i) - vl (cI ps j)) (ak T i j):=fun i j=>by
  rw [zl (yP hk h i j).pos]
  unfold dif
  rw [nr (eQ hk h i).pos (eQ hk h j).pos]
 unfold kG
 rw [List.all_eq_true]
 constructor
 . intro a i j hi hj
   have:=a i (List.mem_range.mpr hi)
   rw [List.all_eq_true] at this
   exact (key i j).mp (this j (List.mem_range.mpr hj))
 . intro a i mi
   rw [List.all_eq_true]
   intro j mj
   exact (key i j).mpr (a i j (List.mem_range.mp mi) (List.mem_range.mp mj))
theorem rm {U:List (List Bn)} {n:Nat} (n0:0 < n) (dia:∀ i,i < n->ak U i i=b0):Beg U n [(0,(0,1))]:=by
 obtain ⟨m,rfl⟩:∃ m,n=m+1:=⟨n - 1,by omega⟩
 have t1:(1:Int)<=2 ^ 240:=by have:=gF 240;omega
 refine ⟨⟨_,n8 dia⟩,1,0,by decide,Int.le_refl 0,t1,Int.le_of_lt (gF 602),fun p m=>?_⟩
 rw [Zl.mp m]
 exact iu (by decide) (by decide) (by decide)
def c4 (ds:List D) (d:D):Prop:=∃ (d0:D) (T U:List (List Bn)) (n:Nat),IsT d0 T/\Sq T n/\n<=41/\(∀ i j,Bk 2000 (ak T i j))/\Cld n T U/\ds=[d0]/\d=aE U
theorem iN {d0:D} {T U:List (List Bn)} {n:Nat} (h:IsT d0 T) (hs:Sq T n) (hn:n<=41) (hb:∀ i j,Bk 2000 (ak T i j)) (c:Cld n T U):fn c4 [d0]=some (aE U):=bT (fun d' h'=>by
 obtain ⟨d1,T',U',m,g,gs,_,_,c',h2,rfl⟩:=h'
 cases h2
 have:=h.inj g
 subst this
 have e:m=n:=by rw [<- hs.len,<- gs.len]
 subst e
 rw [c.is,c'.is]) ⟨d0,T,U,n,h,hs,hn,hb,c,rfl,rfl⟩
abbrev ps0:Pl:=[(0,(0,1))]
def fR (ds:List D) (d:D):Prop:=∃ (d0:D) (T U:List (List Bn)) (n:Nat),IsT d0 T/\Sq T n/\0 < n/\n<=41/\(∀ i j,Bk 550 (ak T i j))/\Cld n T U/\ds=[d0]/\d=.lst ((fpt U n ps0).map fr)
theorem sr {d0:D} {T U:List (List Bn)} {n:Nat} (h:IsT d0 T) (hs:Sq T n) (n0:0 < n) (hn:n<=41) (hb:∀ i j,Bk 550 (ak T i j)) (c:Cld n T U):fn fR [d0]=some (.lst ((fpt U n ps0).map fr)):=bT (fun d' h'=>by
 obtain ⟨d1,T',U',m,g,gs,_,_,_,c',h2,rfl⟩:=h'
 cases h2
 have:=h.inj g
 subst this
 have e:m=n:=by rw [<- hs.len,<- gs.len]
 subst e
 rw [c.is,c'.is]) ⟨d0,T,U,n,h,hs,n0,hn,hb,c,rfl,rfl⟩
theorem Cld.bk600 {n:Nat} {T U:List (List Bn)} (c:Cld n T U) (hn:n<=41) (h:∀ i j,Bk 550 (ak T i j)) (i j:Nat):Bk 600 (ak U i j):=(c.bk (by decide) h i j).mono (by omega)
theorem Cld.fi {n:Nat} {T U:List (List Bn)} (c:Cld n T U) (n0:0 < n) (hn:n<=41) (h:∀ i j,Bk 550 (ak T i j)):Fi U n ps0:=BV c.sq n0 hn (c.bk600 hn h) c.dia c.clo (rm n0 c.dia)
def Bk5 (T:List (List Bn)):Prop:=∀ i j,Bk 550 (ak T i j)
def ma (p q:Int×Int):Int×Int:=rd (p.1*q.2+q.1*p.2) (2*p.2*q.2)
theorem vv {k:Nat} (h:2<=k):Sm k (2:Int):=Sm.mono (k:=2) (show (2:Int).natAbs < 2 ^ 2 by decide) h
theorem yi {k l m:Nat} {p q:Int×Int} (hp:Fr k p) (hq:Fr l q) (h:k+l+2<=m):Fr m (ma p q):=by
 have b:0 < 2*p.2*q.2:=Int.mul_pos (Int.mul_pos (by decide) hp.pos) hq.pos
 have s1:Sm m (p.1*q.2+q.1*p.2):=(Sm.add (hp.s1.mul hq.s2) ((hq.s1.mul hp.s2).mono (by omega))).mono (by omega)
 have s2:Sm m (2*p.2*q.2):=(((vv (Nat.le_refl 2)).mul hp.s2).mul hq.s2).mono (by omega)
 exact ⟨vH b,(kg b s1 s2).1,(kg b s1 s2).2⟩
abbrev dF:=S2 fun p q=>fr (ma p q)
def pick (c:Int) (ps qs:List (Int×Int)) (t:Nat):Int×Int:=[prt (mxd c (t:Int)),prt (c / ((t:Int)+1)),ps.getD t (0,1),qs.getD t (0,1),ma (ps.getD t (0,1)) (qs.getD t (0,1))].getD (mxd c (t:Int) / 64 % 5).toNat (0,1)
def mB (c:Int) (ps qs:List (Int×Int)):List (Int×Int):=(List.range ps.length).map (pick c ps qs)
def m7 (cs:List Int) (ps qs:List (Int×Int)):List (List (Int×Int)):=ps :: qs :: cs.map fun c=>mB c ps qs
def cr (cs:List Int) (ps qs:List (Int×Int)):List D:=.seq (ps.map fr) :: .seq (qs.map fr) :: cs.map fun c=>.lst ((mB c ps qs).map fr)
structure Pts (ns cs:List Int) (ps qs:List (Int×Int)):Prop where
 cut:Dl.cutD (ns.map D.int) (some (-20)) none=cs.map D.int
 len:ns.length<=63
 pl:ps.length<=40
 pq:ps.length=qs.length
 pf:∀ p∈ps,Fr 200 p
 qf:∀ p∈qs,Fr 900 p
theorem Pts.cl {ns cs:List Int} {ps qs:List (Int×Int)} (h:Pts ns cs ps qs):cs.length<=63:=by
 have:=congrArg List.length h.cut
 rw [Zi] at this
 have l:(Dl.cutD (ns.map D.int) (some (-20)) none).length<=(ns.map D.int).length:=by
  unfold Dl.cutD
  rw [List.length_take,List.length_drop]
  omega
 rw [Zi] at l
 have:=h.len
 omega
theorem k8 {ps:List (Int×Int)} {k:Nat} (hk:1<=k) (h:∀ p∈ps,Fr k p) (t:Nat):Fr k (ps.getD t (0,1)):=by
 rw [Zq]
 cases q:ps[t]? with
 | none=>exact iA hk
 | some p=>exact h p (List.mem_of_getElem? q)
theorem xZ {ns cs:List Int} {ps qs:List (Int×Int)} (h:Pts ns cs ps qs) (c:Int) (t:Nat):Fr 1200 (pick c ps qs t):=by
 unfold pick
 rw [Zq]
 have fp:=k8 (by decide) h.pf t
 have fq:=k8 (by decide) h.qf t
 cases q:[prt (mxd c (t:Int)),prt (c / ((t:Int)+1)),ps.getD t (0,1),qs.getD t (0,1),ma (ps.getD t (0,1)) (qs.getD t (0,1))][(mxd c (t:Int) / 64 % 5).toNat]? with
 | none=>exact iA (by decide)
 | some p =>
  have m:=List.mem_of_getElem? q
  simp only [Zo,List.not_mem_nil,or_false] at m
  rcases m with e | e | e | e | e
  . rw [e];exact (rP _).mono (by decide)
  . rw [e];exact (rP _).mono (by decide)
  . rw [e];exact fp.mono (by decide)
  . rw [e];exact fq.mono (by decide)
  . rw [e];exact yi fp fq (by decide)
theorem tw {ns cs:List Int} {ps qs:List (Int×Int)} (h:Pts ns cs ps qs):∀ xs∈m7 cs ps qs,xs.length=ps.length/\∀ p∈xs,Fr 1200 p:=fun xs m=>by
 unfold m7 at m
 rcases Zo.mp m with e | m
 . rw [e];exact ⟨rfl,fun p mp=>(h.pf p mp).mono (by decide)⟩
 . rcases Zo.mp m with e | m
   . rw [e];exact ⟨h.pq.symm,fun p mp=>(h.qf p mp).mono (by decide)⟩
   . obtain ⟨c,_,rfl⟩:=Zm.mp m
     unfold mB
     refine ⟨by rw [Zi,List.length_range],fun p mp=>?_⟩
     obtain ⟨t,_,rfl⟩:=Zm.mp mp
     exact xZ h c t
theorem vA (cs:List Int) (ps qs:List (Int×Int)):shs (cs.map fun c=>D.lst ((mB c ps qs).map fr))=cs.map fun c=>D.seq ((mB c ps qs).map fr):=by
 induction cs with
 | nil=>rfl
 | cons c cs ih =>
  show sh (.lst ((mB c ps qs).map fr)) :: shs _=_
  rw [ih,sh,iD]
  rfl
theorem xE (cs:List Int) (ps qs:List (Int×Int)):sh (.lst (cr cs ps qs))=.seq ((m7 cs ps qs).map fun xs=>.seq (xs.map fr)):=by
 unfold cr m7
 rw [sh]
 show D.seq (sh (.seq (ps.map fr)) :: sh (.seq (qs.map fr)) :: shs _)=_
 rw [vA,sh,sh,iD,iD]
 simp only [Zp,List.map_map]
 rfl
def cg (ds:List D) (d:D):Prop:=∃ (ns cs:List Int) (d1 d2:D) (ps qs:List (Int×Int)),Pts ns cs ps qs/\IsP d1 ps/\IsP d2 qs/\ds=[.seq (ns.map D.int),d1,d2]/\d=.lst (cr cs ps qs)
theorem iX {ns cs:List Int} {d1 d2:D} {ps qs:List (Int×Int)} (h:Pts ns cs ps qs) (h1:IsP d1 ps) (h2:IsP d2 qs):fn cg [.seq (ns.map D.int),d1,d2]=some (.lst (cr cs ps qs)):=bT (fun d' h'=>by
 obtain ⟨ns',cs',e1,e2,ps',qs',g,g1,g2,e,rfl⟩:=h'
 injection e with a e
 injection e with b e
 injection e with c _
 injection a with a
 subst b c
 have z:=jJ a
 subst z
 have z1:=h1.inj g1
 subst z1
 have z2:=h2.inj g2
 subst z2
 have z3:=jJ (h.cut.symm.trans g.cut)
 subst z3
 rfl) ⟨ns,cs,d1,d2,ps,qs,h,h1,h2,rfl,rfl⟩
theorem wM {ps:List (Int×Int)} {t:Nat} (h:t < ps.length):gIx (.seq (ps.map fr)) (.int (t:Int))=some (fr (ps.getD t (0,1))):=by
 have e:(ps.map fr)[t]? = some (fr (ps.getD t (0,1))):=by
  rw [List.getElem?_map,Zq,Zr h]
  rfl
 exact eZ e
theorem vY {cs:List Int} {ps qs:List (Int×Int)}:∀ d∈cr cs ps qs,∃ xs∈m7 cs ps qs,IsP d xs:=fun d m=>by
 unfold cr at m
 unfold m7
 rcases Zo.mp m with e | m
 . exact ⟨ps,Zj,by rw [e];exact jI ps⟩
 . rcases Zo.mp m with e | m
   . exact ⟨qs,Zk _ Zj,by rw [e];exact jI qs⟩
   . obtain ⟨c,mc,rfl⟩:=Zm.mp m
     exact ⟨mB c ps qs,Zk _ (Zk _ (Zm.mpr ⟨c,mc,rfl⟩)),gQ _⟩
theorem mt {f:D->Option D} {v:D}:∀ {ds:List D},(∀ d∈ds,f d=some v)->j4 f ds=some (ds.map fun _=>v)
 | [],_=>rfl
 | d :: ds,h=>by
  show ((f d).bind fun x=>(j4 f ds).bind fun xs=>some (x :: xs))=_
  rw [h d Zj,mt fun e m=>h e (Zk _ m)]
  rfl
theorem rz:∀ (ds:List D),∃ bs,gW (ds.map fun _=>D.bl false)=some bs/\bs.any id=false
 | []=>⟨[],rfl,rfl⟩
 | d :: ds=>by
  obtain ⟨bs,h1,h2⟩:=rz ds
  refine ⟨false :: bs,?_,by rw [List.any_cons,h2];rfl⟩
  show ((gW (ds.map fun _=>D.bl false)).bind fun bs=>some (false :: bs))=_
  rw [h1]
  rfl
theorem uY (ds:List D):yC [.lst (ds.map fun _=>D.bl false)]=some (.bl false):=by
 obtain ⟨bs,h1,h2⟩:=rz ds
 show ((gW (ds.map fun _=>D.bl false)).bind fun bs=>some (D.bl (bs.any id)))=_
 rw [h1]
 show some (D.bl (bs.any id))=_
 rw [h2]
theorem yh {F:FD} {δ:DS} {ds:List D} (h:F δ=some (.lst (ds.map fun _=>D.bl false))):f1 sg (ah yC (aa F ae)) δ=some (.bl true):=by
 unfold f1 ah aa ae
 rw [h]
 dsimp only [Option.bind_some]
 rw [uY]
 rfl
theorem yM (U:List (List Bn)):du (.tup [.str "table",aE U]) (.tup [.str "table",aG U])=some (.bl true):=by
 unfold du
 have z:eqN 6 (.tup [.str "table",aE U]) (.tup [.str "table",aG U])=some true:=by
  show eqL (eqN 5) [.str "table",aE U] [.str "table",aG U]=_
  have a:eqN 5 (.str "table") (.str "table")=some true:=rfl
  have b:eqN 5 (aE U) (aG U)=some true:=t8 (f:=eqN 4) U fun r _=>Az 2 r
  show ((eqN 5 (.str "table") (.str "table")).bind fun x=>((eqN 5 (aE U) (aG U)).bind fun x=>some (x && true)).bind fun y=>some (x && y))=_
  rw [a,b]
  rfl
 rw [z]
 rfl
theorem BF (b:Bool):wS (.bl b) (.bl b)=some (.bl false):=by cases b <;> rfl
theorem xB {δ δ':DS} {i:Nat} {fm:FM} {ds es:List D} {d:D} (h:δ[i]? = some (some (.lst es))) (g:fm δ=some (d,δ')) (h':δ'[i]? = some (some (.lst ds))) (l:ds.length<=999):iY i fm δ=some (.nx (δ'.set i (some (.lst (ds++[d]))))):=by
 unfold iY
 rw [h]
 dsimp only
 rw [g]
 dsimp only [Option.bind_some]
 rw [h']
 dsimp only
 rw [if_pos l]
theorem vf:bootBuiltins "dict" = some (.type "dict"):=by decide +kernel
structure FK (K:PySem.W.Frag) (x:Str) (st:Stmt) (f:Addr):Prop where
 ns:PySem.W.nsIn K mainGlobals x=some (some (.ref f))
 ex:∃ (oc:Value) (od:Option Addr) (kV doc pm:Value) (an:Option Addr) (cdv ct:Value) (osl:Array (Option Value)),K.lookup f=some ⟨oc,od,.func (PySem.W.fnOf x x (cC st) (bw st) (aj st) .none kV doc pm an cdv ct),osl⟩/\PySem.W.codeIn K cdv x=true
 kp:PySem.W.keepIn K (.ref f)=true
theorem FK.get {K:PySem.W.Frag} {x:Str} {st:Stmt} {f:Addr} {ps:List Str} (h:FK K x st f) (b:∀ (kV doc pm:Value) (an:Option Addr) (cdv ct:Value) (us:List Value),us.length=ps.length->bindArgs (PySem.W.fnOf x x (cC st) (bw st) (aj st) .none kV doc pm an cdv ct) ⟨us,[]⟩=pure (ps.zip us)):∃ fd,Fun K x x st f fd/\Binds K fd ps []:=by
 obtain ⟨oc,od,kV,doc,pm,an,cdv,ct,osl,l,c⟩:=h.ex
 have F:=wT (st:=st) l c h.kp
 exact ⟨_,F,F.binds b⟩
theorem FK.of2 {K:PySem.W.Frag} {x:Str} {st:Stmt} {f:Addr} (e:Hd.fv K x f=Hd.fe x st .none f):FK K x st f:=⟨(Hd.fv_inv e).1,(Hd.fv_inv e).2.2,(Hd.fv_inv e).2.1⟩
section
variable (P:Program) (w:World) (base:Heap) {K:PySem.W.Frag} {mg:Str->Option Value} {h:Heap} {k:Nat} {f:Addr} {fd:FuncData} {x:Str} {st:Stmt} {ps:List Str}
theorem mkP {G:List D->Option D} (X:K.In h) (N:h.Ns mainGlobals mg) (a:FK K x st f) (o:FnOk P w K mg base CX0 k f fd ps (bh K ps.length G)) (b:Binds K fd ps []):Has P w K mg base k x ps G:=⟨⟨_,_,o,PySem.W.mg_of X N a.ns,a.kp,b⟩⟩
theorem mkF {G:List D->Option D} (X:K.In h) (N:h.Ns mainGlobals mg) (a:FK K x st f) (o:FnOk P w K mg base CX0 k f fd ps (bU K ps.length G)) (b:Binds K fd ps []):HasF P w K mg base k x ps G:=⟨⟨_,_,o,PySem.W.mg_of X N a.ns,a.kp,b⟩⟩
theorem mkM {G:List D->Option (D×D)} (X:K.In h) (N:h.Ns mainGlobals mg) (a:FK K x st f) (o:FnOk P w K mg base CX0 k f fd ps (qC K ps.length G)) (b:Binds K fd ps []):AN P w K mg base k x ps G:=⟨⟨_,_,o,PySem.W.mg_of X N a.ns,a.kp,b⟩⟩
end
section
variable {P:Program} {w:World} {K:PySem.W.Frag} {mg:Str->Option Value} {base:Heap} {f:Addr} {fd:FuncData}
theorem kc:aA ["thing"] ["thing"] (aj gJ):=⟨rfl,rfl,rfl,by decide +kernel,rfl,by decide +kernel,by decide +kernel⟩
theorem qy (F:Fun K "is_whole" "is_whole" gJ f fd)    (m_isinstance:mg "isinstance" = none) (m_int:mg "int" = none) (m_bool:mg "bool" = none):FnOk P w K mg base CX0 1 f fd ["thing"] (bh K 1 (fn je)):=by
 have sc:=kc
 refine bE F kc (fun cdv A outer s H E ds d hr hG hl=>?_)
 obtain ⟨x,b,h,rfl,rfl⟩:=aV hG
 refine ⟨_,(aD (aM (pd (bg rh (xk wx) rfl m_isinstance boot_isinstance (ad (ab 0) (ad (zc rfl m_int boot_int) af))) (jZ (lX (bg rh (xk uK) rfl m_isinstance boot_isinstance (ad (ab 0) (ad (zc rfl m_bool boot_bool) af)))))))),?_⟩
 . show aB ((?f:SD) [some _])=_
   cases x <;> simp [se] at h <;> subst h <;> rfl
theorem fX:aA ["number","above_nought","one","other","rest"] ["number","above_nought"] (aj cQ):=⟨rfl,rfl,rfl,by decide +kernel,rfl,by decide +kernel,by decide +kernel⟩
def cdC:FT:=fT (f2 gNe (ac 3) (fC (.int 0)))
def cdS:SD:=ay (eV 4 (f2 (gI (fun _ j=>0 < j) fun i j=>.int (i % j)) (ac 2) (ac 3))) (ay (eV 2 (ac 3)) (eV 3 (ac 4)))
theorem uf:∀ (n:Nat) (x y:Int) (u v o:Option D),0<=y->(y=0->0<=x)->y.toNat < n->∃ o',fJ n cdC cdS [u,v,some (.int x),some (.int y),o]=some (.nx [u,v,some (.int (gc x y)),some (.int 0),o'])
 | 0,x,y,u,v,o,h0,h1,h2=>by omega
 | n+1,x,y,u,v,o,h0,h1,h2=>by
  by_cases h:y=0
  . subst h
    refine ⟨o,?_⟩
    rw [tR (h1 rfl)]
    rfl
  . have hy:0 < y:=by omega
    have hc:cdC [u,v,some (.int x),some (.int y),o]=some true:=by
     show some (!(y == 0))=some true
     simp [h]
    have hs:cdS [u,v,some (.int x),some (.int y),o]=some (.nx [u,v,some (.int y),some (.int (x % y)),some (.int (x % y))]):=by
     unfold cdS
     simp only [cE,ay,eV,ac,f2,Zc,Zd,Ze,Zf,Zg,al (C:=fun _ j=>0 < j) (i:=x) hy]
    obtain ⟨o',ih⟩:=uf n y (x % y) u v (some (.int (x % y))) (Int.emod_nonneg x h) (fun _=>h0) (by have:=Int.emod_lt_of_pos x hy;omega)
    refine ⟨o',?_⟩
    rw [tS] at ih
    rw [qg hc hs]
    exact ih
theorem jF (F:Fun K "common_divisor" "common_divisor" cQ f fd)    :FnOk P w K mg base CX0 1 f fd ["number","above_nought"] (bh K 2 (fn cn)):=by
 have sc:=fX
 refine bE F fX (fun cdv A outer s H E ds d hr hG hl=>?_)
 obtain ⟨a,b,hb,rfl,rfl⟩:=aV hG
 refine ⟨_,(aC (bK 2 sc.nd (ab 0))
  (aC (bK 3 sc.nd (ab 1))
  (aC (nP (b.toNat+1) PassesOwn.never (vP hr.units0 (ab 3) ag)
   (aC (bK 4 sc.nd (bx (ab 2) (ab 3)))
   (aC (bK 2 sc.nd (ab 3))
   (aD (bK 3 sc.nd (ab 4))))))
  (aD (aM (ab 2)))))),?_⟩
 . show aB ((?f:SD) [some _,some _,none,none,none])=_
   obtain ⟨o,ho⟩:=uf (b.toNat+1) a b (some (.int a)) (some (.int b)) none (by omega) (by omega) (by omega)
   show aB ((fJ (b.toNat+1) cdC cdS [some (.int a),some (.int b),some (.int a),some (.int b),none]).bind (cE (c6 (ac 2))))=_
   rw [ho]
   rfl
theorem sW:aA ["one","other"] ["one","other"] (aj oK):=⟨rfl,rfl,rfl,by decide +kernel,rfl,by decide +kernel,by decide +kernel⟩
theorem yf (F:Fun K "less" "less" oK f fd)    :FnOk P w K mg base CX0 1 f fd ["one","other"] (bh K 2 (fn fg)):=by
 have sc:=sW
 refine bE F sW (fun cdv A outer s H E ds d hr hG hl=>?_)
 obtain ⟨⟨a,b⟩,⟨c,e⟩,hp,hq,rfl,rfl⟩:=aV hG
 refine ⟨_,(aD (aM (wd (bL (ap (ab 0) ag) (ap (ab 1) ag)) (bL (ap (ab 1) ag) (ap (ab 0) ag))))),?_⟩
 . show aB ((?f:SD) [some _,some _])=_
   simp only [aB,c6,ac,fC,f2,cN,eE,gI0,Zc,Zd,Ze,al (C:=aF) (i:=a) (j:=e) ⟨hp.s1.bd,hq.s2.bd⟩,al (C:=aF) (i:=c) (j:=b) ⟨hq.s1.bd,hp.s2.bd⟩]
theorem lI:aA ["one","other"] ["one","other"] (aj iE):=⟨rfl,rfl,rfl,by decide +kernel,rfl,by decide +kernel,by decide +kernel⟩
theorem rT (F:Fun K "tighter" "tighter" iE f fd)    :FnOk P w K mg base CX0 1 f fd ["one","other"] (bh K 2 (fn eF)):=by
 have sc:=lI
 refine bE F lI (fun cdv A outer s H E ds d hr hG hl=>?_)
 obtain ⟨a,b,rfl,rfl⟩:=aV hG
 refine ⟨_,(aC (cK (dc (ab 0) bW) (aD (aM ki)) bX)
  (aC (cK (dc (ab 1) bW) (aD (aM ki)) bX)
  (aC (cK (vP hr.units0 (ap (ab 0) ag) (ap (ab 1) ag)) (aD (aM (wd (ap (ab 0) ag) (ap (ab 1) ag)))) bX)
  (aD (aM (pd (ap (ab 0) ag) (jZ (lX (ap (ab 1) ag))))))))),?_⟩
 . show aB ((?f:SD) [some _,some _])=_
   rcases a with _ | ⟨n,s⟩
   . rfl
   rcases b with _ | ⟨m,t⟩
   . rfl
   rw [vw]
   by_cases e:n=m
   . subst e
     rw [if_pos rfl]
     cases s <;> cases t <;> (simp only [aB,bc,cE,ay,c6,sIf,ac,fC,f2,f1,fT,asB,gB,sg,cN,eE,gI0,tU,Zc,Zd,Ze,Bool.not_true,Bool.not_false,beq_self_eq_true,cG,cO,bq] ;rfl)
   . have h1:(n == m)=false:=beq_eq_false_iff_ne.mpr e
     rw [if_neg e]
     simp only [aB,bc,cE,ay,c6,sIf,ac,fC,f2,fT,asB,cN,gI0,tU,Zc,Zd,Ze,Bool.not_false,cG,cO,bq,h1]
theorem jm:aA ["one","other"] ["one","other"] (aj fZ):=⟨rfl,rfl,rfl,by decide +kernel,rfl,by decide +kernel,by decide +kernel⟩
theorem pg (F:Fun K "bound_sum" "bound_sum" fZ f fd)    :FnOk P w K mg base CX0 1 f fd ["one","other"] (bh K 2 (fn bP)):=by
 have sc:=jm
 refine bE F jm (fun cdv A outer s H E ds d hr hG hl=>?_)
 obtain ⟨a,b,rfl,rfl⟩:=aV hG
 refine ⟨_,(aC (cK (PWD.pt (lP (dc (ab 0) bW) (jz (dc (ab 1) bW)))) (aD (aM bW)) bX)
  (aD (aM (dS (ad (bH (ap (ab 0) ag) (ap (ab 1) ag)) (ad (zd (ap (ab 0) ag) (jZ (ap (ab 1) ag))) af)))))),?_⟩
 . show aB ((?f:SD) [some _,some _])=_
   rcases a with _ | ⟨n,s⟩ <;> rcases b with _ | ⟨m,t⟩
   . rfl
   . rfl
   . rfl
   . cases s <;> cases t <;> rfl
theorem nI:aA ["table"] ["table"] (aj jw):=⟨rfl,rfl,rfl,by decide +kernel,rfl,by decide +kernel,by decide +kernel⟩
theorem uM (F:Fun K "copied" "copied" jw f fd)    (m_list:mg "list" = none):FnOk P w K mg base CX0 1 f fd ["table"] (bU K 1 (fn m3)):=by
 have sc:=nI
 refine cc F nI (fun cdv A outer s H E ds d hr hG hl=>?_)
 obtain ⟨d0,T,m,hT,hs,hm,rfl,rfl⟩:=aV hG
 have hown:=bY T
 refine ⟨_,(aK (bS (oP (by exact (jC (ab 0))) (N:=["bounds"]) (js:=[]) (cl:=[]) (fun _ _ _ _ _=>by exact (uB rfl m_list boot_list (ad (ab 0) af))) (by exact CompOk.nil)))),?_,?own⟩
 case own=>first | rfl | exact hown
 . show aB ((?f:SD) (aJ 1 _))=_
   have e0:aJ 1 [d0]=[some (aG T)]:=by
    show [some (sh d0)]=_
    rw [show sh d0=aG T from hT]
   rw [e0]
   exact dB (ce (rE hs hm rfl))
theorem gv:aA ["size","ways","thing"] ["size"] (aj c9):=⟨rfl,rfl,rfl,by decide +kernel,rfl,by decide +kernel,by decide +kernel⟩
theorem j0 (F:Fun K "straight_ways" "straight_ways" c9 f fd)    (m_range:mg "range" = none):FnOk P w K mg base CX0 1 f fd ["size"] (bU K 1 (fn ff)):=by
 have sc:=gv
 refine cc F gv (fun cdv A outer s H E ds d hr hG hl=>?_)
 obtain ⟨n,hn,rfl,rfl⟩:=aV hG
 have hown:=l4 n fun i _=>[i]
 refine ⟨_,(av (aZ 1 sc.nd (gm cy))
  (av (di 2 sc.nd PassesOwn.never rfl (be rfl m_range (ad (ab 0) af))
   (aK (lT 1 (lV PySem.F.plainAttrs_list PySem.F.slot_list_append PySem.F.type_list_append eu (pvi 1) (dW (oP (by exact (lU rfl m_range (ad (ab 0) af))) (N:=["goal","thing"]) (js:=[2]) (cl:=[("thing",_)]) (fun _ _ _ _ _=>by exact (gm (bt (bD 1) cy))) (by exact CompOk.one)) gL)))))
  (aK (bS (bD 1))))),?_,?own⟩
 case own=>first | rfl | exact hown
 . rw [show (["size","ways","thing"]:List Str).length=3 from rfl]
   have e0:aJ 3 [.int (n:Int)]=[some (.int (n:Int)),none,none]:=rfl
   rw [e0]
   have hv:=fun o1 o2:Option D=>eI (g:=aa (ac 0) ae) (δ:=[some (.int (n:Int)),o1,o2]) (n:=n) rfl (by omega)
   obtain ⟨_,w,o,rfl⟩:=cF (i:=2) (s:=((iY 1 (gY (qa (aa (ac 0) ae)) [2] (iM (bn (bI 1) fS)))))) (f:=fun (i:Nat)=>D.int (i:Int)) (fun pre δ=>∃ o,δ=[some (.int (n:Int)),some (.lst ((List.range pre.length).map fun i=>D.lst (ft n fun _=>[i]))),o]) (List.range n) (by
    rintro pre x post _ hx ⟨o,rfl⟩
    obtain ⟨rfl,hl⟩:=bJ hx
    refine ⟨_,oD (ds:=(List.range pre.length).map fun i=>D.lst (ft n fun _=>[i])) (d:=.lst (ft n fun _=>[pre.length])) rfl ?_ (by rw [Zi,List.length_range];omega),some (.int (pre.length:Int)),?_⟩
    . refine jQ (f:=fun (i:Nat)=>D.int (i:Int)) (g:=fun _=>D.lst (bA [pre.length])) (xs:=List.range n) ?_ (fun i _=>rfl) (by rw [List.length_range];omega)
      refine yY (ds:=[.int (n:Int)]) rfl ?_
      rw [xo (by omega) (by omega),lO]
    . rw [Zh,List.length_singleton,List.range_succ,List.map_append]
      rfl) (List.range n) [] [some (.int (n:Int)),some (.lst []),none] rfl ⟨none,rfl⟩
   rw [List.length_range] at w
   exact dB (aq (eJ (d:=.lst []) rfl) (aq (bV (hv _ _) w) (ce (gE rfl))))
theorem g9:aA ["_law_script","_law_k"] ["_law_script","_law_k"] (aj dP):=⟨rfl,rfl,rfl,by decide +kernel,rfl,by decide +kernel,by decide +kernel⟩
theorem kF (F:Fun K "_law_cell_at" "_law_cell_at" dP f fd)    (m_len:mg "len" = none):FnOk P w K mg base CX0 1 f fd ["_law_script","_law_k"] (bh K 2 (fn az)):=by
 have sc:=g9
 refine bE F g9 (fun cdv A outer s H E ds d hr hG hl=>?_)
 obtain ⟨ns,k,hk,rfl,rfl⟩:=aV hG
 refine ⟨_,(aC (cK (lR (ab 1) (bg aP cZ rfl m_len PySem.boot_len (ad (ab 0) af))) (aD (aM (ap (ab 0) (ab 1)))) bX)
  (aD (aM ag))),?_⟩
 . show aB ((?f:SD) [some _,some _])=_
   by_cases hlt:k < (ns.length:Int)
   . have h1:decide (k < (((ns.map D.int).length:Nat):Int))=true:=decide_eq_true (by rw [Zi];exact hlt)
     have h2:gIx (.seq (ns.map D.int)) (.int k)=some (.int (cell ns k)):=by
      show L2.atI (ns.map D.int) k=_
      have ek:k=((k.toNat:Nat):Int):=by omega
      have hk2:k.toNat < ns.length:=by omega
      have h3:=atI_nat (xs:=ns.map D.int) (j:=k.toNat) (v:=D.int ns[k.toNat]) (by rw [List.getElem?_map,Zr hk2] <;> rfl)
      rw [<- ek] at h3
      rw [h3]
      unfold cell
      simp [Zq,hk2]
     simp only [aB,bc,cE,ay,c6,sIf,ac,f2,fT,asB,ae,aa,ah,qS,gI0,Zc,Zd,Ze,h1,h2]
   . have h1:decide (k < (((ns.map D.int).length:Nat):Int))=false:=decide_eq_false (by rw [Zi];exact hlt)
     have h2:cell ns k=0:=by
      unfold cell
      rw [Zq,List.getElem?_eq_none (by omega)]
      rfl
     simp only [aB,bc,cE,ay,c6,sIf,ac,fC,f2,fT,asB,ae,aa,ah,qS,gI0,Zc,Zd,Ze,h1,h2]
theorem iQ:aA ["_law_cell","_law_k","_law_number"] ["_law_cell","_law_k"] (aj fu):=⟨rfl,rfl,rfl,by decide +kernel,rfl,by decide +kernel,by decide +kernel⟩
theorem m9 (F:Fun K "_law_mixed" "_law_mixed" fu f fd)    :FnOk P w K mg base CX0 1 f fd ["_law_cell","_law_k"] (bU K 2 (fn aL)):=by
 have sc:=iQ
 refine cc F iQ (fun cdv A outer s H E ds d hr hG hl=>?_)
 obtain ⟨c,k,hk0,hk1,rfl,rfl⟩:=aV hG
 have hown:own (.int (mxd c k))=true:=rfl
 refine ⟨_,(av (aZ 2 sc.nd (aR (bx (bH (bH (bH (jE (ab 0) ag) (jE (jE (ab 1) (ab 1)) ag)) (jE ag (ab 1))) ag) ag)))
  (aK (bS (aR (bx (jE (ab 2) (ab 2)) ag))))),?_,?own⟩
 case own=>first | rfl | exact hown
 . show aB ((?f:SD) (aJ 3 _))=_
   have e0:aJ 3 [.int c,.int k]=[some (.int c),some (.int k),none]:=rfl
   rw [e0]
   have w1:gl c 48271:=.inr (.inr (by decide))
   have w2:gl k k:=.inr (.inl (by omega))
   have w3:gl (k*k) 69621:=.inr (.inr (by decide))
   have w4:gl 7 k:=.inr (.inl (by decide))
   obtain ⟨n,hn⟩:∃ n,n=(c*48271+k*k*69621+7*k+11) % 2147483647:=⟨_,rfl⟩
   have n0:0<=n:=by rw [hn];exact Int.emod_nonneg _ (by decide)
   have n1:n < 2147483647:=by rw [hn];exact Int.emod_lt_of_pos _ (by decide)
   have w5:gl n n:=.inr (.inl (by omega))
   have em:mxd c k=n*n % 2147483629:=by rw [hn];rfl
   rw [em]
   exact dB (aq (aX (bj (d:=.int n) (by simp only [ac,fC,f2,bB,Zc,Zd,Ze,al (C:=gl) w1,al (C:=gl) w2,al (C:=gl) w3,al (C:=gl) w4,al (C:=fun _ j=>0 < j) (i:=c*48271+k*k*69621+7*k+11) (j:=2147483647) (by decide),hn]))) (ce (bj (by simp only [ac,fC,f2,Zc,Zd,Ze,Zf,Zg,al (C:=gl) w5,al (C:=fun _ j=>0 < j) (i:=n*n) (j:=2147483629) (by decide)]))))
theorem ia:aA ["_law_top","_law_bottom","_law_one","_law_other"] ["_law_top","_law_bottom"] (aj eL):=⟨rfl,rfl,rfl,by decide +kernel,rfl,by decide +kernel,by decide +kernel⟩
def llC:FT:=fT (f2 gGt (ac 3) (fC (.int 0)))
def llS:SD:=xH 2 3 (aa (ac 3) (aa (f2 (gI (fun _ j=>0 < j) fun i j=>.int (i % j)) (ac 2) (ac 3)) ae))
theorem tL:∀ (n:Nat) (x y:Int) (u v:Option D),0<=y->(y=0->0<=x)->y.toNat < n->fJ n llC llS [u,v,some (.int x),some (.int y)]=some (.nx [u,v,some (.int (gc x y)),some (.int 0)])
 | 0,x,y,u,v,h0,h1,h2=>by omega
 | n+1,x,y,u,v,h0,h1,h2=>by
  by_cases h:y=0
  . subst h
    rw [tR (h1 rfl)]
    rfl
  . have hy:0 < y:=by omega
    have hc:llC [u,v,some (.int x),some (.int y)]=some true:=by
     show some (decide (y > 0))=some true
     rw [decide_eq_true hy]
    have hs:llS [u,v,some (.int x),some (.int y)]=some (.nx [u,v,some (.int y),some (.int (x % y))]):=by
     unfold llS
     simp only [xH,ac,f2,ae,aa,Zc,Zd,Ze,Zf,Zg,al (C:=fun _ j=>0 < j) (i:=x) hy]
    have ih:=tL n y (x % y) u v (Int.emod_nonneg x h) (fun _=>h0) (by have:=Int.emod_lt_of_pos x hy;omega)
    rw [tS] at ih
    rw [qg hc hs]
    exact ih
theorem l6 (F:Fun K "_law_lowest" "_law_lowest" eL f fd)    (m_abs:mg "abs" = none):FnOk P w K mg base CX0 1 f fd ["_law_top","_law_bottom"] (bh K 2 (fn eO)):=by
 have sc:=ia
 refine bE F ia (fun cdv A outer s H E ds d hr hG hl=>?_)
 obtain ⟨t,b,hb,hB,rfl,rfl⟩:=aV hG
 refine ⟨_,(aC (bK 2 sc.nd (bg xm AD rfl m_abs PyProof.Rows.boot_abs (ad (ab 0) af)))
  (aC (bK 3 sc.nd (ab 1))
  (aC (nP (b.toNat+1) PassesOwn.never (vQ (ab 3) ag)
   (aD (xQ 2 3 rfl sc.nd (ad (ab 3) (ad (bx (ab 2) (ab 3)) af)))))
  (aD (aM (dS (ad (aW (ab 0) (ab 2)) (ad (aW (ab 1) (ab 2)) af)))))))),?_⟩
 . show aB ((?f:SD) [some _,some _,none,none])=_
   have hg:=cB (t:=t) hb
   have hgB:Bd (gc t b):=ot (by omega) (n9 (t:=t) hb) hB
   have ho:=tL (b.toNat+1) (t.natAbs:Int) b (some (.int t)) (some (.int b)) (by omega) (by omega) (by omega)
   rw [Ar] at ho
   refine dB (aq (sR (d:=.int (t.natAbs:Int)) rfl) (aq (sR (d:=.int b) rfl) (aq ho (xA (d:=fr (rd t b)) ?_))))
   simp only [ac,f2,ae,aa,cP,Zc,Zd,Ze,al (C:=au) (i:=t) ⟨hg,hgB⟩,al (C:=au) (i:=b) ⟨hg,hgB⟩]
   rfl
theorem jq:aA ["_law_one","_law_other"] ["_law_one","_law_other"] (aj gh):=⟨rfl,rfl,rfl,by decide +kernel,rfl,by decide +kernel,by decide +kernel⟩
theorem pp (F:Fun K "_law_less" "_law_less" gh f fd)    :FnOk P w K mg base CX0 1 f fd ["_law_one","_law_other"] (bh K 2 (fn bQ)):=by
 have sc:=jq
 refine bE F jq (fun cdv A outer s H E ds d hr hG hl=>?_)
 obtain ⟨⟨a,b⟩,⟨c,e⟩,hp,hq,rfl,rfl⟩:=aV hG
 refine ⟨_,(aD (aM (dS (ad (i3 (bL (ap (ab 0) ag) (ap (ab 1) ag)) (bL (ap (ab 1) ag) (ap (ab 0) ag))) (ad (bL (ap (ab 0) ag) (ap (ab 1) ag)) af))))),?_⟩
 . show aB ((?f:SD) [some _,some _])=_
   simp only [aB,c6,ac,fC,f2,ae,aa,cP,cN,eE,gI0,Zc,Zd,Ze,al (C:=aF) (i:=a) (j:=e) ⟨hp.s1.bd,hq.s2.bd⟩,al (C:=aF) (i:=c) (j:=b) ⟨hq.s1.bd,hp.s2.bd⟩,al (C:=aF) (i:=b) (j:=e) ⟨hp.s2.bd,hq.s2.bd⟩]
   rfl
theorem iR:aA ["_law_part_here","_law_bound"] ["_law_part_here","_law_bound"] (aj fE):=⟨rfl,rfl,rfl,by decide +kernel,rfl,by decide +kernel,by decide +kernel⟩
theorem nc (F:Fun K "_law_keeps" "_law_keeps" fE f fd)    :FnOk P w K mg base CX0 1 f fd ["_law_part_here","_law_bound"] (bh K 2 (fn d7)):=by
 have sc:=iR
 refine bE F iR (fun cdv A outer s H E ds d hr hG hl=>?_)
 obtain ⟨⟨a,b⟩,c,hp,hc,rfl,rfl⟩:=aV hG
 refine ⟨_,(aC (cK (dc (ab 1) bW) (aD (aM ki)) bX)
  (aD (aM (zd (wd (ap (ab 0) ag) (bL (ap (ab 1) ag) (ap (ab 0) ag))) (jZ (pd (BA hr.units0 (ap (ab 0) ag) (bL (ap (ab 1) ag) (ap (ab 0) ag))) (jZ (lX (ap (ab 1) ag))))))))),?_⟩
 . show aB ((?f:SD) [some _,some _])=_
   rcases c with _ | ⟨n,s⟩
   . rfl
   . have mb:aF n b:=⟨Sm.mono (show Sm 4000 n from hc) (by decide),hp.s2.bd⟩
     rw [<- BJ]
     cases h1:decide (a < n*b) with
     | true=>simp only [aB,bc,cE,ay,c6,sIf,ac,fC,f2,f1,fT,asB,gB,w6,sg,cN,eE,gI0,eM,Zc,Zd,Ze,cG,cO,bq,gLt,eM,al (C:=aF) mb,h1,Bool.true_or]
     | false =>
      cases h2:(a == n*b) with
      | true=>simp only [aB,bc,cE,ay,c6,sIf,ac,fC,f2,f1,fT,asB,gB,w6,sg,cN,eE,gI0,eM,Zc,Zd,Ze,cG,cO,bq,gLt,eM,al (C:=aF) mb,h1,h2,Bool.false_or,Bool.true_and]
      | false=>simp only [aB,bc,cE,ay,c6,sIf,ac,fC,f2,f1,fT,asB,gB,w6,sg,cN,eE,gI0,eM,Zc,Zd,Ze,cG,cO,bq,gLt,eM,al (C:=aF) mb,h1,h2,Bool.false_or,Bool.false_and]
theorem nG:aA ["top","bottom","divisor"] ["top","bottom"] (aj ju):=⟨rfl,rfl,rfl,by decide +kernel,rfl,by decide +kernel,by decide +kernel⟩
theorem uJ (F:Fun K "lowest" "lowest" ju f fd)  (hcommon_divisor:Has P w K mg base 1 "common_divisor" ["number","above_nought"] (fn cn))  :FnOk P w K mg base CX0 2 f fd ["top","bottom"] (bh K 2 (fn mY)):=by
 have sc:=nG
 refine bE F nG (fun cdv A outer s H E ds d hr hG hl=>?_)
 obtain ⟨t,b,hb,hB,rfl,rfl⟩:=aV hG
 refine ⟨_,(aC (bK 2 sc.nd (ao hcommon_divisor hr (ad (ab 0) (ad (ab 1) af))))
  (aD (aM (dS (ad (aW (ab 0) (ab 2)) (ad (aW (ab 1) (ab 2)) af)))))),?_⟩
 . show aB ((?f:SD) [some _,some _,none])=_
   have hg:=cB (t:=t) hb
   have hgB:Bd (gc t b):=ot (by omega) (n9 (t:=t) hb) hB
   simp only [aB,cE,ay,c6,eV,ac,f2,ae,aa,cP,ah,Zc,Zd,Ze,Zf,Zg,cj (a:=t) hb,al (C:=au) (i:=t) ⟨hg,hgB⟩,al (C:=au) (i:=b) ⟨hg,hgB⟩]
   rfl
theorem nF:aA ["one","top","bottom","shared","part","total","left"] ["one","top","bottom"] (aj jt):=⟨rfl,rfl,rfl,by decide +kernel,rfl,by decide +kernel,by decide +kernel⟩
theorem uI (F:Fun K "summed" "summed" jt f fd)  (hcommon_divisor:Has P w K mg base 1 "common_divisor" ["number","above_nought"] (fn cn))  :FnOk P w K mg base CX0 2 f fd ["one","top","bottom"] (bh K 3 (fn gC)):=by
 have sc:=nF
 refine bE F nF (fun cdv A outer s H E ds d hr hG hl=>?_)
 obtain ⟨⟨a,b⟩,⟨c,e⟩,hp,hq,rfl,rfl⟩:=aV hG
 refine ⟨_,(aC (bK 3 sc.nd (ao hcommon_divisor hr (ad (ap (ab 0) ag) (ad (ab 2) af))))
  (aC (bK 4 sc.nd (aW (ap (ab 0) ag) (ab 3)))
  (aC (bK 5 sc.nd (bH (bL (ap (ab 0) ag) (aW (ab 2) (ab 3))) (bL (ab 1) (ab 4))))
  (aC (bK 6 sc.nd (ao hcommon_divisor hr (ad (ab 5) (ad (ab 3) af))))
  (aD (aM (dS (ad (aW (ab 5) (ab 6)) (ad (bL (ab 4) (aW (ab 2) (ab 6))) af))))))))),?_⟩
 . show aB ((?f:SD) [some _,some _,some _,none,none,none,none])=_
   have hb:0 < b:=hp.pos
   have he:0 < e:=hq.pos
   have hg:=cB (t:=b) he
   have hgB:Bd (gc b e):=ot (by omega) (n9 (t:=b) he) hq.s2.bd
   have b1:Bd (b / gc b e):=i6 hp.s2 hg cM
   have b2:Bd (e / gc b e):=i6 hq.s2 hg cb
   have hl:=cB (t:=a*(e / gc b e)+c*(b / gc b e)) hg
   have hlB:Bd (gc (a*(e / gc b e)+c*(b / gc b e)) (gc b e)):=ot (by omega) (n9 (t:=a*(e / gc b e)+c*(b / gc b e)) hg) hgB
   have b3:Bd (e / gc (a*(e / gc b e)+c*(b / gc b e)) (gc b e)):=i6 hq.s2 hl (Int.dvd_trans cb cb)
   simp only [aB,cE,ay,c6,eV,ac,fC,f2,ae,aa,cP,ah,cN,eE,bB,Zc,Zd,Ze,Zf,Zg,cj (a:=b) he,al (C:=au) (i:=b) ⟨hg,hgB⟩,al (C:=au) (i:=e) ⟨hg,hgB⟩,al (C:=aF) (i:=a) (j:=e / gc b e) ⟨hp.s1.bd,b2⟩,al (C:=aF) (i:=c) (j:=b / gc b e) ⟨hq.s1.bd,b1⟩,cj (a:=a*(e / gc b e)+c*(b / gc b e)) hg,al (C:=au) (i:=a*(e / gc b e)+c*(b / gc b e)) ⟨hl,hlB⟩,al (C:=au) (i:=e) ⟨hl,hlB⟩,al (C:=aF) (i:=b / gc b e) ⟨b1,b3⟩]
   rfl
theorem qb:aA ["one","other","first","second"] ["one","other"] (aj kR):=⟨rfl,rfl,rfl,by decide +kernel,rfl,by decide +kernel,by decide +kernel⟩
theorem wn (F:Fun K "times" "times" kR f fd)  (hcommon_divisor:Has P w K mg base 1 "common_divisor" ["number","above_nought"] (fn cn))  :FnOk P w K mg base CX0 2 f fd ["one","other"] (bh K 2 (fn uk)):=by
 have sc:=qb
 refine bE F qb (fun cdv A outer s H E ds d hr hG hl=>?_)
 obtain ⟨⟨a,b⟩,⟨c,e⟩,hp,hq,rfl,rfl⟩:=aV hG
 refine ⟨_,(aC (bK 2 sc.nd (ao hcommon_divisor hr (ad (ap (ab 0) ag) (ad (ap (ab 1) ag) af))))
  (aC (bK 3 sc.nd (ao hcommon_divisor hr (ad (ap (ab 1) ag) (ad (ap (ab 0) ag) af))))
  (aD (aM (dS (ad (bL (aW (ap (ab 0) ag) (ab 2)) (aW (ap (ab 1) ag) (ab 3))) (ad (bL (aW (ap (ab 0) ag) (ab 3)) (aW (ap (ab 1) ag) (ab 2))) af))))))),?_⟩
 . show aB ((?f:SD) [some _,some _,none,none])=_
   have hb:0 < b:=hp.pos
   have he:0 < e:=hq.pos
   have hf:=cB (t:=a) he
   have hs:=cB (t:=c) hb
   have fB:Bd (gc a e):=ot (by omega) (n9 (t:=a) he) hq.s2.bd
   have sB:Bd (gc c b):=ot (by omega) (n9 (t:=c) hb) hp.s2.bd
   have b1:Bd (a / gc a e):=i6 hp.s1 hf cM
   have b2:Bd (e / gc a e):=i6 hq.s2 hf cb
   have b3:Bd (c / gc c b):=i6 hq.s1 hs cM
   have b4:Bd (b / gc c b):=i6 hp.s2 hs cb
   have e0:ti (a,b) (c,e)=tm a b c e:=AT hp.lw hq.lw
   simp only [aB,cE,ay,c6,eV,ac,fC,f2,ae,aa,cP,ah,cN,eE,Zc,Zd,Ze,Zf,Zg,cj (a:=a) he,cj (a:=c) hb,al (C:=au) (i:=a) ⟨hf,fB⟩,al (C:=au) (i:=e) ⟨hf,fB⟩,al (C:=au) (i:=c) ⟨hs,sB⟩,al (C:=au) (i:=b) ⟨hs,sB⟩,al (C:=aF) (i:=a / gc a e) (j:=c / gc c b) ⟨b1,b3⟩,al (C:=aF) (i:=b / gc c b) (j:=e / gc a e) ⟨b4,b2⟩,e0]
   rfl
theorem gZ:aA ["table","bounds","thing"] ["table"] (aj dJ):=⟨rfl,rfl,rfl,by decide +kernel,rfl,by decide +kernel,by decide +kernel⟩
theorem kA (F:Fun K "with_noughts" "with_noughts" dJ f fd)  (hcopied:HasF P w K mg base 1 "copied" ["table"] (fn m3))  (m_range:mg "range" = none) (m_len:mg "len" = none):FnOk P w K mg base CX0 2 f fd ["table"] (bU K 1 (fn fQ)):=by
 have sc:=gZ
 refine cc F gZ (fun cdv A outer s H E ds d hr hG hl=>?_)
 obtain ⟨d0,T,n,hT,hs,hn,rfl,rfl⟩:=aV hG
 have hown:=bY (aS n (cz T))
 refine ⟨_,(av (aZ 1 sc.nd (cT hcopied hr (ad (ab 0) af)))
  (av (di 2 sc.nd PassesOwn.never rfl (be rfl m_range (ad (bg aP cZ rfl m_len PySem.boot_len (ad (ab 0) af)) af))
   (aK (tz 1 (aR (dS (ad ag (ad ki af)))) (oY (kh ix_list (pvi 1) (ab 2) (fun _ _=>rfl)) (ab 2) jk))))
  (aK (bS (bD 1))))),?_,?own⟩
 case own=>first | rfl | exact hown
 . show aB ((?f:SD) (aJ 3 _))=_
   have e0:aJ 3 [d0]=[some (aG T),none,none]:=by
    show [some (sh d0),none,none]=_
    rw [show sh d0=aG T from hT]
   rw [e0]
   have len:dr [aG T]=some (.int (n:Int)):=pB hs
   have hv:=fun o1 o2:Option D=>eI (g:=aa (ah dr (aa (ac 0) ae)) ae) (δ:=[some (aG T),o1,o2]) (n:=n) (by simp only [ac,ae,aa,ah,Zc,Zd,len]) (by omega)
   obtain ⟨_,w,o,rfl⟩:=cF (i:=2) (s:=((iT 1 (ac 2) (ac 2) (vI (cP (aa (fC (.int 0)) (aa (fC (.bl false)) ae))))))) (f:=fun (i:Nat)=>D.int (i:Int)) (fun pre δ=>∃ o,δ=[some (aG T),some (aE (aS n fun i j=>if i=j/\i < pre.length then b0 else ak T i j)),o]) (List.range n) (by
    rintro pre x post _ hx ⟨o,rfl⟩
    obtain ⟨rfl,hl⟩:=bJ hx
    refine ⟨_,xF (b:=b0) (bC n _) hl hl (bj (d:=bdD b0) rfl (jb b0)) rfl rfl rfl,some (.int (pre.length:Int)),?_⟩
    rw [nE _ _ hl hl]
    have e:aS n (up2 (fun i j=>if i=j/\i < pre.length then b0 else ak T i j) pre.length pre.length b0)=aS n fun i j=>if i=j/\i < (pre++[pre.length]).length then b0 else ak T i j:=cw fun i j hi hj=>by
     unfold up2
     rw [Zh,List.length_singleton]
     by_cases a:i=pre.length/\j=pre.length
     . rw [if_pos a,if_pos ⟨by omega,by omega⟩]
     . rw [if_neg a]
       dsimp only
       by_cases b:i=j/\i < pre.length
       . rw [if_pos b,if_pos ⟨b.1,by omega⟩]
       . rw [if_neg b,if_neg fun z=>?_]
         by_cases q:i < pre.length
         . exact b ⟨z.1,q⟩
         . exact a ⟨by omega,by omega⟩
    rw [e]
    rfl) (List.range n) [] [some (aG T),some (aE T),none] rfl ⟨none,by
     have e:aS n (fun i j=>if i=j/\i < ([]:List Nat).length then b0 else ak T i j)=T:=(cw fun i j _ _=>if_neg fun z=>by have:=z.2;simp at this).trans (xx hs)
     rw [e]⟩
   have e:aS n (fun i j=>if i=j/\i < (List.range n).length then b0 else ak T i j)=aS n (cz T):=cw fun i j hi hj=>by
    unfold cz
    rw [List.length_range]
    by_cases a:i=j
    . rw [if_pos a,if_pos ⟨a,hi⟩]
    . rw [if_neg a,if_neg fun z=>a z.1]
   rw [e] at w
   exact dB (aq (aX (cX (ds:=[aG T]) rfl (xa (gO T) hs hn) (bY T))) (aq (bV (hv _ _) w) (ce (gE rfl))))
theorem g7:aA ["bounds","ways","middle","i","j","total"] ["bounds","ways","middle"] (aj dN):=⟨rfl,rfl,rfl,by decide +kernel,rfl,by decide +kernel,by decide +kernel⟩
theorem kD (F:Fun K "lead_through" "lead_through" dN f fd)  (hbound_sum:Has P w K mg base 1 "bound_sum" ["one","other"] (fn bP)) (htighter:Has P w K mg base 1 "tighter" ["one","other"] (fn eF))  (m_range:mg "range" = none) (m_len:mg "len" = none):FnOk P w K mg base CX0 2 f fd ["bounds","ways","middle"] (qC K 3 (fnM d6)):=by
 have sc:=g7
 refine Ai F g7 (fun cdv A outer s H E Z d0 d1 es d0' d1' hr zk hG=>?_)
 obtain ⟨n,m,f,p,ok,h0,hds,hp⟩:=yJ hG
 injection hds with a1 hds
 injection hds with a2 hds
 subst a1 a2 hds
 cases hp
 refine ⟨_,(oO (vM 3 zk sc.nd PassesOwn.never rfl (be rfl m_range (ad (bg aP cZ rfl m_len PySem.boot_len (ad (ab 0) af)) af))
  (oO (vM 4 zk sc.nd PassesOwn.never rfl (be rfl m_range (ad (bg aP cZ rfl m_len PySem.boot_len (ad (ab 0) af)) af))
   (tq (zJ 5 zk sc.nd (aR (ao hbound_sum hr (ad (ap (ap (ab 0) (ab 3)) (ab 2)) (ad (ap (ap (ab 0) (ab 2)) (ab 4)) af)))))
   (oO (Bs (fF (ao htighter hr (ad (ab 5) (ad (ap (ap (ab 0) (ab 3)) (ab 4)) af)))) (tq (tj 0 (bD 5) (oY (kh ix_list (pvi 0) (ab 3) (fun _ _=>rfl)) (ab 4) jk))
    (oO (tj 1 (kW (ap (ap (ab 1) (ab 3)) (ab 2)) (ap (ap (ab 1) (ab 2)) (ab 4))) (oY (kh ix_list (pvi 1) (ab 3) (fun _ _=>rfl)) (ab 4) jk)))) zK))))))),?_⟩
 . show ∃ δ',(?f:SD) (lD 6 _ _ _)=some (.nx δ')/\_
   have hm:=ok.mn
   have hn:=ok.n41
   have e0:lD 6 (aE (aS n f)) (.lst (aN n p)) [.int (m:Int)]=[some (aE (aS n f)),some (.lst (aN n p)),some (.int (m:Int)),none,none,none]:=rfl
   rw [e0]
   have row:∀ j,ldF f m m j=f m j/\ldP f p m m j=p m j:=fun j=>by
    unfold ldF ldP
    rw [h0,mW,hV]
    exact ⟨rfl,rfl⟩
   have col:∀ i,ldF f m i m=f i m/\ldP f p m i m=p i m:=fun i=>by
    unfold ldF ldP
    rw [h0,gk,hV]
    exact ⟨rfl,rfl⟩
   obtain ⟨g,hg⟩:∃ g:Nat->Nat->Nat->Nat->Bn,g=fun i j x y=>if x < i \/ (x=i/\y < j) then ldF f m x y else f x y:=⟨_,rfl⟩
   obtain ⟨r,hr'⟩:∃ r:Nat->Nat->Nat->Nat->List Nat,r=fun i j x y=>if x < i \/ (x=i/\y < j) then ldP f p m x y else p x y:=⟨_,rfl⟩
   have g1:∀ i j x,g i j x m=f x m/\r i j x m=p x m:=fun i j x=>by
    rw [hg,hr']
    dsimp only
    split
    . exact col x
    . exact ⟨rfl,rfl⟩
   have g2:∀ i j y,g i j m y=f m y/\r i j m y=p m y:=fun i j y=>by
    rw [hg,hr']
    dsimp only
    split
    . exact row y
    . exact ⟨rfl,rfl⟩
   have g3:∀ i j,g i j i j=f i j/\r i j i j=p i j:=fun i j=>by
    rw [hg,hr']
    dsimp only
    rw [if_neg (by omega),if_neg (by omega)]
    exact ⟨rfl,rfl⟩
   have lenO:=fun i j=>yp (bC n (g i j))
   have hv:=fun i j (o3 o4 o5:Option D)=>eI (g:=aa (ah dr (aa (ac 0) ae)) ae) (δ:=[some (aE (aS n (g i j))),some (.lst (aN n (r i j))),some (.int (m:Int)),o3,o4,o5]) (n:=n) (by simp only [ac,ae,aa,ah,Zc,Zd,lenO]) (by omega)
   have inn:∀ (i:Nat),i < n->∀ o4 o5:Option D,∃ δ',Dl.forM 4 ((ay (aw 5 (vI (ah (fn bP) (aa (f2 gIx (f2 gIx (ac 0) (ac 3)) (ac 2)) (aa (f2 gIx (f2 gIx (ac 0) (ac 2)) (ac 4)) ae))))) (sIf (fT (ah (fn eF) (aa (ac 5) (aa (f2 gIx (f2 gIx (ac 0) (ac 3)) (ac 4)) ae)))) (ay (fK 0 (ac 3) (ac 4) (bI 5)) (fK 1 (ac 3) (ac 4) (gu (f2 gIx (f2 gIx (ac 1) (ac 3)) (ac 2)) (f2 gIx (f2 gIx (ac 1) (ac 2)) (ac 4))))) bc))) ((List.range n).map fun (i:Nat)=>D.int (i:Int)) [some (aE (aS n (g i 0))),some (.lst (aN n (r i 0))),some (.int (m:Int)),some (.int (i:Int)),o4,o5]=some (.nx δ')/\∃ o4 o5,δ'=[some (aE (aS n (g i n))),some (.lst (aN n (r i n))),some (.int (m:Int)),some (.int (i:Int)),o4,o5]:=fun i hi o4 o5=>by
    have:=cF (i:=4) (s:=((ay (aw 5 (vI (ah (fn bP) (aa (f2 gIx (f2 gIx (ac 0) (ac 3)) (ac 2)) (aa (f2 gIx (f2 gIx (ac 0) (ac 2)) (ac 4)) ae))))) (sIf (fT (ah (fn eF) (aa (ac 5) (aa (f2 gIx (f2 gIx (ac 0) (ac 3)) (ac 4)) ae)))) (ay (fK 0 (ac 3) (ac 4) (bI 5)) (fK 1 (ac 3) (ac 4) (gu (f2 gIx (f2 gIx (ac 1) (ac 3)) (ac 2)) (f2 gIx (f2 gIx (ac 1) (ac 2)) (ac 4))))) bc)))) (f:=fun (i:Nat)=>D.int (i:Int)) (fun pre δ=>∃ o4 o5,δ=[some (aE (aS n (g i pre.length))),some (.lst (aN n (r i pre.length))),some (.int (m:Int)),some (.int (i:Int)),o4,o5]) (List.range n) (by
     rintro pre x post _ hx ⟨o4,o5,rfl⟩
     obtain ⟨rfl,hj⟩:=bJ hx
     rw [Zh,List.length_singleton]
     generalize pre.length=j at *
     obtain ⟨r1,q1,q2,q3,q4,q5⟩:=j7 (bC n (g i j)) hi hm
     obtain ⟨r2,u1,u2,u3,u4,u5⟩:=j7 (bC n (g i j)) hm hj
     obtain ⟨r3,v1,v2,v3,v4,v5⟩:=j7 (bC n (g i j)) hi hj
     rw [bG _ hi hm,(g1 i j i).1] at q2
     rw [bG _ hm hj,(g2 i j j).1] at u2
     rw [bG _ hi hj,(g3 i j).1] at v2
     have s1:((aw 5 (vI (ah (fn bP) (aa (f2 gIx (f2 gIx (ac 0) (ac 3)) (ac 2)) (aa (f2 gIx (f2 gIx (ac 0) (ac 2)) (ac 4)) ae)))))) [some (aE (aS n (g i j))),some (.lst (aN n (r i j))),some (.int (m:Int)),some (.int (i:Int)),some (.int (j:Int)),o5]=some (.nx [some (aE (aS n (g i j))),some (.lst (aN n (r i j))),some (.int (m:Int)),some (.int (i:Int)),some (.int (j:Int)),some (bdD (bs (f i m) (f m j)))]):=eJ (bj (d:=bdD (bs (f i m) (f m j))) (by simp only [ac,f2,ae,aa,ah,Zc,Zd,Ze,q1,q2,u1,u2,ko]) (jb _))
     cases ht:tgt (bs (f i m) (f m j)) (f i j) with
     | false =>
      refine ⟨_,aq s1 (df (by simp only [ac,f2,fT,asB,ae,aa,ah,Zc,Zd,Ze,v1,v2,oi,ht]) rfl),some (.int (j:Int)),some (bdD (bs (f i m) (f m j))),?_⟩
      have t1:aS n (g i j)=aS n (g i (j+1)):=cw fun x y hx hy=>by
       rw [hg]
       dsimp only
       by_cases z:x < i \/ (x=i/\y < j)
       . rw [if_pos z,if_pos (by omega)]
       . rw [if_neg z]
         by_cases z2:x=i/\y=j
         . rw [if_pos (by omega)]
           obtain ⟨rfl,rfl⟩:=z2
           unfold ldF
           rw [ht]
           rfl
         . rw [if_neg (by omega)]
      have t2:aN n (r i j)=aN n (r i (j+1)):=ej fun x y hx hy=>by
       rw [hr']
       dsimp only
       by_cases z:x < i \/ (x=i/\y < j)
       . rw [if_pos z,if_pos (by omega)]
       . rw [if_neg z]
         by_cases z2:x=i/\y=j
         . rw [if_pos (by omega)]
           obtain ⟨rfl,rfl⟩:=z2
           unfold ldP
           rw [ht]
           rfl
         . rw [if_neg (by omega)]
      rw [t1,t2]
     | true =>
      obtain ⟨w1,w2⟩:=qJ (r i j) hi hm
      obtain ⟨w3,w4⟩:=qJ (r i j) hm hj
      rw [(g1 i j i).2] at w2
      rw [(g2 i j j).2] at w4
      have l1:=ok.ln i m hi hm
      have l2:=ok.ln m j hm hj
      have ei:bA (p i m++p m j)=bA (p i m)++bA (p m j):=List.map_append
      have t1:jV (aS n (g i j)) i j (bs (f i m) (f m j))=aS n (g i (j+1)):=by
       rw [nE _ _ hi hj]
       refine cw fun x y hx hy=>?_
       rw [hg]
       unfold up2
       dsimp only
       by_cases z2:x=i/\y=j
       . rw [if_pos z2,if_pos (by omega)]
         obtain ⟨rfl,rfl⟩:=z2
         unfold ldF
         rw [ht]
         rfl
       . rw [if_neg z2]
         by_cases z:x < i \/ (x=i/\y < j)
         . rw [if_pos z,if_pos (by omega)]
         . rw [if_neg z,if_neg (by omega)]
      have t2:(aN n (r i j)).set i (.lst ((ft n (r i j i)).set j (.lst (bA (p i m++p m j)))))=aN n (r i (j+1)):=by
       rw [vB _ _ hi hj]
       refine ej fun x y hx hy=>?_
       rw [hr']
       unfold up2
       dsimp only
       by_cases z2:x=i/\y=j
       . rw [if_pos z2,if_pos (by omega)]
         obtain ⟨rfl,rfl⟩:=z2
         unfold ldP
         rw [ht]
         rfl
       . rw [if_neg z2]
         by_cases z:x < i \/ (x=i/\y < j)
         . rw [if_pos z,if_pos (by omega)]
         . rw [if_neg z,if_neg (by omega)]
      have p1:=sX (δ:=[some (aE (aS n (g i j))),some (.lst (aN n (r i j))),some (.int (m:Int)),some (.int (i:Int)),some (.int (j:Int)),some (bdD (bs (f i m) (f m j)))]) (p:=0) (fk:=ac 3) (fl:=ac 4) (fm:=bI 5) (v:=bdD (bs (f i m) (f m j))) (i:=i) (j:=j) (ly rfl) rfl rfl v3 rfl (by rw [ik,v4];exact hj)
      rw [jU v5,t1] at p1
      have p1':fK 0 (ac 3) (ac 4) (bI 5) [some (aE (aS n (g i j))),some (.lst (aN n (r i j))),some (.int (m:Int)),some (.int (i:Int)),some (.int (j:Int)),some (bdD (bs (f i m) (f m j)))]=some (.nx [some (aE (aS n (g i (j+1)))),some (.lst (aN n (r i j))),some (.int (m:Int)),some (.int (i:Int)),some (.int (j:Int)),some (bdD (bs (f i m) (f m j)))]):=by
       rw [p1]
       unfold aE
       rfl
      have p2:=sX (δ:=[some (aE (aS n (g i (j+1)))),some (.lst (aN n (r i j))),some (.int (m:Int)),some (.int (i:Int)),some (.int (j:Int)),some (bdD (bs (f i m) (f m j)))]) (p:=1) (fk:=ac 3) (fl:=ac 4) (fm:=gu (f2 gIx (f2 gIx (ac 1) (ac 3)) (ac 2)) (f2 gIx (f2 gIx (ac 1) (ac 2)) (ac 4))) (v:=.lst (bA (p i m++p m j))) (i:=i) (j:=j) (by
       rw [ei]
       exact oz (a:=.lst (bA (p i m))) (b:=.lst (bA (p m j))) (by simp only [ac,f2,Zc,Zd,Ze,w1,w2]) (by simp only [ac,f2,Zc,Zd,Ze,w3,w4]) rfl rfl (by unfold bA;rw [Zi,Zi];omega) (by rw [<- ei];exact mI _)) rfl rfl (aT _ hi) rfl (by unfold ft;rw [Zi,List.length_range];exact hj)
      rw [t2] at p2
      have p2':fK 1 (ac 3) (ac 4) (gu (f2 gIx (f2 gIx (ac 1) (ac 3)) (ac 2)) (f2 gIx (f2 gIx (ac 1) (ac 2)) (ac 4))) [some (aE (aS n (g i (j+1)))),some (.lst (aN n (r i j))),some (.int (m:Int)),some (.int (i:Int)),some (.int (j:Int)),some (bdD (bs (f i m) (f m j)))]=some (.nx [some (aE (aS n (g i (j+1)))),some (.lst (aN n (r i (j+1)))),some (.int (m:Int)),some (.int (i:Int)),some (.int (j:Int)),some (bdD (bs (f i m) (f m j)))]):=by
       rw [p2]
       rfl
      have cnd:(fT (ah (fn eF) (aa (ac 5) (aa (f2 gIx (f2 gIx (ac 0) (ac 3)) (ac 4)) ae)))) [some (aE (aS n (g i j))),some (.lst (aN n (r i j))),some (.int (m:Int)),some (.int (i:Int)),some (.int (j:Int)),some (bdD (bs (f i m) (f m j)))]=some true:=by simp only [ac,f2,fT,asB,ae,aa,ah,Zc,Zd,Ze,v1,v2,oi,ht]
      exact ⟨_,aq s1 (dI cnd (aq p1' p2')),some (.int (j:Int)),some (bdD (bs (f i m) (f m j))),rfl⟩) (List.range n) [] [some (aE (aS n (g i 0))),some (.lst (aN n (r i 0))),some (.int (m:Int)),some (.int (i:Int)),o4,o5] rfl ⟨_,_,rfl⟩
    rw [List.length_range] at this
    exact this
   have nxt:∀ i,aS n (g i n)=aS n (g (i+1) 0)/\aN n (r i n)=aN n (r (i+1) 0):=fun i=>by
    refine ⟨cw fun x y hx hy=>?_,ej fun x y hx hy=>?_⟩
    . rw [hg]
      dsimp only
      by_cases z:x < i \/ (x=i/\y < n)
      . rw [if_pos z,if_pos (by omega)]
      . rw [if_neg z,if_neg (by omega)]
    . rw [hr']
      dsimp only
      by_cases z:x < i \/ (x=i/\y < n)
      . rw [if_pos z,if_pos (by omega)]
      . rw [if_neg z,if_neg (by omega)]
   obtain ⟨_,w,o3,o4,o5,rfl⟩:=cF (i:=3) (s:=((fL (dH (aa (ah dr (aa (ac 0) ae)) ae)) 4 (ay (aw 5 (vI (ah (fn bP) (aa (f2 gIx (f2 gIx (ac 0) (ac 3)) (ac 2)) (aa (f2 gIx (f2 gIx (ac 0) (ac 2)) (ac 4)) ae))))) (sIf (fT (ah (fn eF) (aa (ac 5) (aa (f2 gIx (f2 gIx (ac 0) (ac 3)) (ac 4)) ae)))) (ay (fK 0 (ac 3) (ac 4) (bI 5)) (fK 1 (ac 3) (ac 4) (gu (f2 gIx (f2 gIx (ac 1) (ac 3)) (ac 2)) (f2 gIx (f2 gIx (ac 1) (ac 2)) (ac 4))))) bc))))) (f:=fun (i:Nat)=>D.int (i:Int)) (fun pre δ=>∃ o3 o4 o5,δ=[some (aE (aS n (g pre.length 0))),some (.lst (aN n (r pre.length 0))),some (.int (m:Int)),o3,o4,o5]) (List.range n) (by
    rintro pre x post _ hx ⟨o3,o4,o5,rfl⟩
    obtain ⟨rfl,hi⟩:=bJ hx
    rw [Zh,List.length_singleton]
    generalize pre.length=i at *
    obtain ⟨_,f1,o4',o5',rfl⟩:=inn i hi o4 o5
    rw [(nxt i).1,(nxt i).2] at f1
    exact ⟨_,bV (hv i 0 _ _ _) f1,_,_,_,rfl⟩) (List.range n) [] [some (aE (aS n (g 0 0))),some (.lst (aN n (r 0 0))),some (.int (m:Int)),none,none,none] rfl ⟨_,_,_,rfl⟩
   rw [List.length_range] at w
   have z1:aS n (g 0 0)=aS n f:=cw fun x y hx hy=>by rw [hg];exact if_neg (by omega)
   have z2:aN n (r 0 0)=aN n p:=ej fun x y hx hy=>by rw [hr'];exact if_neg (by omega)
   have z3:aS n (g n 0)=aS n (ldF f m):=cw fun x y hx hy=>by rw [hg];exact if_pos (by omega)
   have z4:aN n (r n 0)=aN n (ldP f p m):=ej fun x y hx hy=>by rw [hr'];exact if_pos (by omega)
   have hv0:=hv 0 0 none none none
   rw [z1,z2] at w hv0
   rw [z3,z4] at w
   exact ⟨_,bV hv0 w,rfl,rfl⟩
theorem ke:aA ["parts","told","part"] ["parts"] (aj gK):=⟨rfl,rfl,rfl,by decide +kernel,rfl,by decide +kernel,by decide +kernel⟩
theorem gq {S:D}:∀ (ps:List (Int×Int)) (o:Option (Int×Int)) (x:Option D),(∀ p∈ps,Fk p)->(∀ p,o=some p->Fk p)->∃ x',jc (jL 2) ((sIf (eY (fT (f2 cO (ac 1) (fC .non))) (fT (ah (fn fg) (aa (ac 1) (aa (ac 2) ae))))) (eV 1 (ac 2)) bc)) (ps.map fr) [some S,some (opD o),x]=some (.nx [some S,some (opD (gre ps o)),x'])
 | [],o,x,_,_=>⟨x,by cases o <;> rfl⟩
 | p :: ps,o,x,hp,ho=>by
  have h1:=hp p Zj
  have h2:∀ r∈ps,Fk r:=fun r m=>hp r (Zk _ m)
  cases o with
  | none =>
   obtain ⟨x',e⟩:=gq (S:=S) ps (some p) (some (fr p)) h2 (fun q e=>by cases e;exact h1)
   refine ⟨x',?_⟩
   rw [Zp]
   simp only [bc,eV,sIf,jL,jc,ac,fC,f2,fT,asB,eY,ae,aa,ah,Zc,Zd,Ze,Zf,Zg,cO,bq,opD,cO,bq] at e ⊢
   exact e
  | some q =>
   have hq:=ho q rfl
   have el:=e2 (op:=fun p q=>D.bl (decide (p.1*q.2 < q.1*p.2))) hq h1
   obtain ⟨x',e⟩:=gq (S:=S) ps (some (if q.1*p.2 < p.1*q.2 then p else q)) (some (fr p)) h2 (fun r e=>by
    cases e
    split
    . exact h1
    . exact hq)
   refine ⟨x',?_⟩
   rw [Zp]
   by_cases c:q.1*p.2 < p.1*q.2
   . rw [if_pos c] at e
     rw [decide_eq_true c] at el
     simp only [bc,eV,sIf,jL,jc,ac,fC,f2,fT,asB,eY,ae,aa,ah,Zc,Zd,Ze,Zf,Zg,cO,bq,opD,cO,bq,el] at e ⊢
     rw [show gre (p :: ps) (some q)=gre ps (some p) by show gre ps (some (if q.1*p.2 < p.1*q.2 then p else q))=_;rw [if_pos c]]
     exact e
   . rw [if_neg c] at e
     rw [decide_eq_false c] at el
     simp only [bc,eV,sIf,jL,jc,ac,fC,f2,fT,asB,eY,ae,aa,ah,Zc,Zd,Ze,Zf,Zg,cO,bq,opD,cO,bq,el] at e ⊢
     rw [show gre (p :: ps) (some q)=gre ps (some q) by show gre ps (some (if q.1*p.2 < p.1*q.2 then p else q))=_;rw [if_neg c]]
     exact e
theorem qz (F:Fun K "greatest" "greatest" gK f fd)  (hless:Has P w K mg base 1 "less" ["one","other"] (fn fg))  :FnOk P w K mg base CX0 2 f fd ["parts"] (bh K 1 (fn jf)):=by
 have sc:=ke
 refine bE F ke (fun cdv A outer s H E ds d hr hG hl=>?_)
 obtain ⟨x,ps,hx,hp,rfl,rfl⟩:=aV hG
 refine ⟨_,(aC (bK 1 sc.nd bW)
  (aC (tu PassesOwn.never rfl (jC (ab 0)) (jD 2 sc.nd)
   (aD (cK (PWD.pt (lP (dc (ab 1) bW) (jz (fF (ao hless hr (ad (ab 1) (ad (ab 2) af))))))) (aD (bK 1 sc.nd (ab 2))) bX)))
  (aD (aM (ab 1))))),?_⟩
 . show aB ((?f:SD) [some _,none,none])=_
   obtain ⟨x',e⟩:=gq (S:=x) ps none none hp (fun p e=>nomatch e)
   have e':xJ (fun δ=>(ac 0 δ).bind asL) (jL 2) ((sIf (eY (fT (f2 cO (ac 1) (fC .non))) (fT (ah (fn fg) (aa (ac 1) (aa (ac 2) ae))))) (eV 1 (ac 2)) bc)) [some x,some .non,none]=some (.nx [some x,some (opD (gre ps none)),x']):=by
    show ((asL x).bind fun ds=>jc (jL 2) ((sIf (eY (fT (f2 cO (ac 1) (fC .non))) (fT (ah (fn fg) (aa (ac 1) (aa (ac 2) ae))))) (eV 1 (ac 2)) bc)) ds [some x,some .non,none])=_
    rw [hx]
    exact e
   exact (congrArg (fun z=>aB (Option.bind z (cE (c6 (ac 1))))) e').trans rfl
theorem qd:aA ["parts","told","part"] ["parts"] (aj kT):=⟨rfl,rfl,rfl,by decide +kernel,rfl,by decide +kernel,by decide +kernel⟩
theorem i8 {S:D}:∀ (ps:List (Int×Int)) (o:Option (Int×Int)) (x:Option D),(∀ p∈ps,Fk p)->(∀ p,o=some p->Fk p)->∃ x',jc (jL 2) ((sIf (eY (fT (f2 cO (ac 1) (fC .non))) (fT (ah (fn fg) (aa (ac 2) (aa (ac 1) ae))))) (eV 1 (ac 2)) bc)) (ps.map fr) [some S,some (opD o),x]=some (.nx [some S,some (opD (lea ps o)),x'])
 | [],o,x,_,_=>⟨x,by cases o <;> rfl⟩
 | p :: ps,o,x,hp,ho=>by
  have h1:=hp p Zj
  have h2:∀ r∈ps,Fk r:=fun r m=>hp r (Zk _ m)
  cases o with
  | none =>
   obtain ⟨x',e⟩:=i8 (S:=S) ps (some p) (some (fr p)) h2 (fun q e=>by cases e;exact h1)
   refine ⟨x',?_⟩
   rw [Zp]
   simp only [bc,eV,sIf,jL,jc,ac,fC,f2,fT,asB,eY,ae,aa,ah,Zc,Zd,Ze,Zf,Zg,cO,bq,opD,cO,bq] at e ⊢
   exact e
  | some q =>
   have hq:=ho q rfl
   have el:=e2 (op:=fun p q=>D.bl (decide (p.1*q.2 < q.1*p.2))) h1 hq
   obtain ⟨x',e⟩:=i8 (S:=S) ps (some (if p.1*q.2 < q.1*p.2 then p else q)) (some (fr p)) h2 (fun r e=>by
    cases e
    split
    . exact h1
    . exact hq)
   refine ⟨x',?_⟩
   rw [Zp]
   by_cases c:p.1*q.2 < q.1*p.2
   . rw [if_pos c] at e
     rw [decide_eq_true c] at el
     simp only [bc,eV,sIf,jL,jc,ac,fC,f2,fT,asB,eY,ae,aa,ah,Zc,Zd,Ze,Zf,Zg,cO,bq,opD,cO,bq,el] at e ⊢
     rw [show lea (p :: ps) (some q)=lea ps (some p) by show lea ps (some (if p.1*q.2 < q.1*p.2 then p else q))=_;rw [if_pos c]]
     exact e
   . rw [if_neg c] at e
     rw [decide_eq_false c] at el
     simp only [bc,eV,sIf,jL,jc,ac,fC,f2,fT,asB,eY,ae,aa,ah,Zc,Zd,Ze,Zf,Zg,cO,bq,opD,cO,bq,el] at e ⊢
     rw [show lea (p :: ps) (some q)=lea ps (some q) by show lea ps (some (if p.1*q.2 < q.1*p.2 then p else q))=_;rw [if_neg c]]
     exact e
theorem wu (F:Fun K "least" "least" kT f fd)  (hless:Has P w K mg base 1 "less" ["one","other"] (fn fg))  :FnOk P w K mg base CX0 2 f fd ["parts"] (bh K 1 (fn pT)):=by
 have sc:=qd
 refine bE F qd (fun cdv A outer s H E ds d hr hG hl=>?_)
 obtain ⟨x,ps,hx,hp,rfl,rfl⟩:=aV hG
 refine ⟨_,(aC (bK 1 sc.nd bW)
  (aC (tu PassesOwn.never rfl (jC (ab 0)) (jD 2 sc.nd)
   (aD (cK (PWD.pt (lP (dc (ab 1) bW) (jz (fF (ao hless hr (ad (ab 2) (ad (ab 1) af))))))) (aD (bK 1 sc.nd (ab 2))) bX)))
  (aD (aM (ab 1))))),?_⟩
 . show aB ((?f:SD) [some _,none,none])=_
   obtain ⟨x',e⟩:=i8 (S:=x) ps none none hp (fun p e=>nomatch e)
   have e':xJ (fun δ=>(ac 0 δ).bind asL) (jL 2) ((sIf (eY (fT (f2 cO (ac 1) (fC .non))) (fT (ah (fn fg) (aa (ac 2) (aa (ac 1) ae))))) (eV 1 (ac 2)) bc)) [some x,some .non,none]=some (.nx [some x,some (opD (lea ps none)),x']):=by
    show ((asL x).bind fun ds=>jc (jL 2) ((sIf (eY (fT (f2 cO (ac 1) (fC .non))) (fT (ah (fn fg) (aa (ac 2) (aa (ac 1) ae))))) (eV 1 (ac 2)) bc)) ds [some x,some .non,none])=_
    rw [hx]
    exact e
   exact (congrArg (fun z=>aB (Option.bind z (cE (c6 (ac 1))))) e').trans rfl
theorem fY:aA ["_law_seed","_law_k","_law_most","_law_cell","_law_table","_law_i","_law_j","_law_digit","_law_bound","_law_drawn"] ["_law_seed","_law_k","_law_most"] (aj cR):=⟨rfl,rfl,rfl,by decide +kernel,rfl,by decide +kernel,by decide +kernel⟩
def bz (ds:List D) (d:D):Prop:=aB (((ay (aw 3 (bI 0)) (ay (aw 4 (iM fS)) (ay (fL (dH (aa (f2 bi (ac 1) (fC (.int 1))) ae)) 5 (ay (iY 4 (iM fS)) (fL (dH (aa (f2 bi (ac 1) (fC (.int 1))) ae)) 6 (ay (aw 7 (vI (f2 (gI (fun _ j=>0 < j) fun i j=>.int (i % j)) (ac 3) (f2 bi (f2 (gI aF fun i j=>.int (i*j)) (fC (.int 4)) (ac 2)) (fC (.int 3)))))) (ay (sIf (fT (f2 gIn (ac 3) (cP (aa (fC (.int 0)) (aa (f1 fV (fC (.int 1))) ae))))) (ay (aw 9 (cW (fn aL) (aa (ac 0) (aa (f2 bi (f2 (gI aF fun i j=>.int (i*j)) (fC (.int 9)) (ac 5)) (ac 6)) ae)))) (aw 7 (vI (f2 gIx (gr (aa (fC (.int 0)) (aa (fC (.int 0)) (aa (f2 bi (fC (.int 1)) (f2 (gI (fun _ j=>0 < j) fun i j=>.int (i % j)) (f2 (gI au fun i j=>.int (i / j)) (ac 9) (fC (.int 3))) (f2 bi (f2 (gI aF fun i j=>.int (i*j)) (fC (.int 4)) (ac 2)) (fC (.int 2))))) ae)))) (f2 (gI (fun _ j=>0 < j) fun i j=>.int (i % j)) (ac 9) (fC (.int 3))))))) bc) (ay (aw 3 (vI (f2 (gI au fun i j=>.int (i / j)) (ac 3) (f2 bi (f2 (gI aF fun i j=>.int (i*j)) (fC (.int 4)) (ac 2)) (fC (.int 3)))))) (ay (aw 8 (vI (fC .non))) (ay (sIf (fT (f2 gGt (ac 7) (fC (.int 0)))) (aw 8 (vI (cP (aa (f2 (gI0 fun i j=>.int (i - j)) (f2 (gI au fun i j=>.int (i / j)) (f2 (gI0 fun i j=>.int (i - j)) (ac 7) (fC (.int 1))) (fC (.int 2))) (ac 2)) (aa (f2 du (f2 (gI (fun _ j=>0 < j) fun i j=>.int (i % j)) (ac 7) (fC (.int 2))) (fC (.int 0))) ae))))) bc) (hR 4 (ac 5) (bI 8)))))))))) (eT (bI 4)))))) (aJ 10 ds))=some d/\own d=true
theorem B4 (seed k most c:Int) (T:List (List Bn)) (r:List Bn) (i j:Nat) (o7 o8 o9:Option D) (hm0:0<=most) (hm1:most<=10 ^ 55) (hT:T.length=i) (hr:r.length=j) (hi:i<=40) (hj:j<=40):∃ (c':Int) (b:Bn) (p7 p9:Option D),Bk 190 b /\
 ((ay (aw 7 (vI (f2 (gI (fun _ j=>0 < j) fun i j=>.int (i % j)) (ac 3) (f2 bi (f2 (gI aF fun i j=>.int (i*j)) (fC (.int 4)) (ac 2)) (fC (.int 3)))))) (ay (sIf (fT (f2 gIn (ac 3) (cP (aa (fC (.int 0)) (aa (f1 fV (fC (.int 1))) ae))))) (ay (aw 9 (cW (fn aL) (aa (ac 0) (aa (f2 bi (f2 (gI aF fun i j=>.int (i*j)) (fC (.int 9)) (ac 5)) (ac 6)) ae)))) (aw 7 (vI (f2 gIx (gr (aa (fC (.int 0)) (aa (fC (.int 0)) (aa (f2 bi (fC (.int 1)) (f2 (gI (fun _ j=>0 < j) fun i j=>.int (i % j)) (f2 (gI au fun i j=>.int (i / j)) (ac 9) (fC (.int 3))) (f2 bi (f2 (gI aF fun i j=>.int (i*j)) (fC (.int 4)) (ac 2)) (fC (.int 2))))) ae)))) (f2 (gI (fun _ j=>0 < j) fun i j=>.int (i % j)) (ac 9) (fC (.int 3))))))) bc) (ay (aw 3 (vI (f2 (gI au fun i j=>.int (i / j)) (ac 3) (f2 bi (f2 (gI aF fun i j=>.int (i*j)) (fC (.int 4)) (ac 2)) (fC (.int 3)))))) (ay (aw 8 (vI (fC .non))) (ay (sIf (fT (f2 gGt (ac 7) (fC (.int 0)))) (aw 8 (vI (cP (aa (f2 (gI0 fun i j=>.int (i - j)) (f2 (gI au fun i j=>.int (i / j)) (f2 (gI0 fun i j=>.int (i - j)) (ac 7) (fC (.int 1))) (fC (.int 2))) (ac 2)) (aa (f2 du (f2 (gI (fun _ j=>0 < j) fun i j=>.int (i % j)) (ac 7) (fC (.int 2))) (fC (.int 0))) ae))))) bc) (hR 4 (ac 5) (bI 8)))))))) [some (.int seed),some (.int k),some (.int most),some (.int c),some (.lst (bo T++[.lst (ba r)])),some (.int (i:Int)),some (.int (j:Int)),o7,o8,o9]=some (.nx [some (.int seed),some (.int k),some (.int most),some (.int c'),some (.lst (bo T++[.lst (ba (r++[b]))])),some (.int (i:Int)),some (.int (j:Int)),p7,some (bdD b),p9]):=by
 have m1:aF 4 most:=⟨cv,jN (k:=200) (Sm.of (by omega) (by omega))⟩
 have hd:0 < 4*most+3:=by omega
 have hd2:0 < 4*most+2:=by omega
 have dv:au c (4*most+3):=⟨hd,jN (k:=200) (Sm.of (by omega) (by omega))⟩
 have mi9:aF 9 (i:Int):=⟨cv,cv (by omega)⟩
 have mx:=gT (c:=seed) (k:=9*(i:Int)+(j:Int)) (by omega) (by omega)
 obtain ⟨w,hw⟩:∃ w,w=mxd seed (9*(i:Int)+(j:Int)):=⟨_,rfl⟩
 rw [<- hw] at mx
 have d3:au w 3:=⟨by decide,cv⟩
 have hin:gIn (.int c) (.tup [.int 0,.int (-1)])=some (.bl (c == 0 || c == -1)):=by
  show some (D.bl ([D.int 0,D.int (-1)].any fun y=>eqF y (.int c)))=_
  have e1:((0:Int) == c)=(c == 0):=by rw [Bool.eq_iff_iff,beq_iff_eq,beq_iff_eq];exact eq_comm
  have e2:((-1:Int) == c)=(c == -1):=by rw [Bool.eq_iff_iff,beq_iff_eq,beq_iff_eq];exact eq_comm
  show some (D.bl (((0:Int) == c) || (((-1:Int) == c) || false)))=_
  rw [e1,e2,Bool.or_false]
 obtain ⟨g,p9,hg0,hg1,hst⟩:∃ (g:Int) (p9:Option D),0<=g/\g<=4*most+3/\((sIf (fT (f2 gIn (ac 3) (cP (aa (fC (.int 0)) (aa (f1 fV (fC (.int 1))) ae))))) (ay (aw 9 (cW (fn aL) (aa (ac 0) (aa (f2 bi (f2 (gI aF fun i j=>.int (i*j)) (fC (.int 9)) (ac 5)) (ac 6)) ae)))) (aw 7 (vI (f2 gIx (gr (aa (fC (.int 0)) (aa (fC (.int 0)) (aa (f2 bi (fC (.int 1)) (f2 (gI (fun _ j=>0 < j) fun i j=>.int (i % j)) (f2 (gI au fun i j=>.int (i / j)) (ac 9) (fC (.int 3))) (f2 bi (f2 (gI aF fun i j=>.int (i*j)) (fC (.int 4)) (ac 2)) (fC (.int 2))))) ae)))) (f2 (gI (fun _ j=>0 < j) fun i j=>.int (i % j)) (ac 9) (fC (.int 3))))))) bc)) [some (.int seed),some (.int k),some (.int most),some (.int c),some (.lst (bo T++[.lst (ba r)])),some (.int (i:Int)),some (.int (j:Int)),some (.int (c % (4*most+3))),o8,o9]=some (.nx [some (.int seed),some (.int k),some (.int most),some (.int c),some (.lst (bo T++[.lst (ba r)])),some (.int (i:Int)),some (.int (j:Int)),some (.int g),o8,p9]):=by
  cases hc:(c == 0 || c == -1) with
  | false =>
   have q0:=Int.emod_nonneg c (show 4*most+3 ≠ 0 by omega)
   have q1:=Int.emod_lt_of_pos c hd
   exact ⟨c % (4*most+3),o9,q0,by omega,df (by simp only [ac,fC,f2,f1,fT,asB,fV,ae,aa,cP,Zc,Zd,Ze,hin,hc]) rfl⟩
  | true =>
   have r0:=Int.emod_nonneg (w / 3) (show 4*most+2 ≠ 0 by omega)
   have r1:=Int.emod_lt_of_pos (w / 3) hd2
   have w3:w % 3=0 \/ w % 3=1 \/ w % 3=2:=by omega
   obtain ⟨g,hg0,hg1,hg⟩:∃ g:Int,0<=g/\g<=4*most+3/\gIx (.lst [.int 0,.int 0,.int (1+w / 3 % (4*most+2))]) (.int (w % 3))=some (.int g):=by
    rcases w3 with q | q | q
    . exact ⟨0,by omega,by omega,by rw [q];rfl⟩
    . exact ⟨0,by omega,by omega,by rw [q];rfl⟩
    . exact ⟨1+w / 3 % (4*most+2),by omega,by omega,by rw [q];rfl⟩
   exact ⟨g,some (.int w),hg0,hg1,dI (by simp only [ac,fC,f2,f1,fT,asB,fV,ae,aa,cP,Zc,Zd,Ze,hin,hc]) (aq (aX (cX (ds:=[.int seed,.int (9*(i:Int)+(j:Int))]) (by simp only [ac,fC,f2,ae,aa,bB,Zc,Zd,Ze,al (C:=aF) mi9]) mx rfl)) (aX (bj (d:=.int g) (by simp only [ac,fC,f2,ae,aa,gr,bB,Zc,Zd,Ze,Zf,Zg,al (C:=au) d3,al (C:=aF) m1,al (C:=fun _ j=>0 < j) (i:=w / 3) hd2,al (C:=fun _ j=>0 < j) (i:=w) (j:=3) (by decide),hg]))))⟩
 have dg:au (g - 1) 2:=⟨by decide,cv⟩
 obtain ⟨b,hb,hst2⟩:∃ b:Bn,Bk 190 b/\((sIf (fT (f2 gGt (ac 7) (fC (.int 0)))) (aw 8 (vI (cP (aa (f2 (gI0 fun i j=>.int (i - j)) (f2 (gI au fun i j=>.int (i / j)) (f2 (gI0 fun i j=>.int (i - j)) (ac 7) (fC (.int 1))) (fC (.int 2))) (ac 2)) (aa (f2 du (f2 (gI (fun _ j=>0 < j) fun i j=>.int (i % j)) (ac 7) (fC (.int 2))) (fC (.int 0))) ae))))) bc)) [some (.int seed),some (.int k),some (.int most),some (.int (c / (4*most+3))),some (.lst (bo T++[.lst (ba r)])),some (.int (i:Int)),some (.int (j:Int)),some (.int g),some .non,p9]=some (.nx [some (.int seed),some (.int k),some (.int most),some (.int (c / (4*most+3))),some (.lst (bo T++[.lst (ba r)])),some (.int (i:Int)),some (.int (j:Int)),some (.int g),some (bdD b),p9]):=by
  by_cases h:0 < g
  . have h1:decide (0 < g)=true:=decide_eq_true h
    refine ⟨some ((g - 1) / 2 - most,g % 2 == 0),Sm.mono (k:=185) (Sm.of (by omega) (by omega)) (by decide),dI (by simp only [ac,fC,f2,fT,asB,gI0,Zc,Zd,Ze,gGt,h1]) (aX (bj (by simp only [ac,fC,f2,ae,aa,cP,gI0,Zc,Zd,Ze,cG,dY,al (C:=au) dg,al (C:=fun _ j=>0 < j) (i:=g) (j:=2) (by decide)])))⟩
  . have h1:decide (0 < g)=false:=decide_eq_false h
    exact ⟨none,trivial,df (by simp only [ac,fC,f2,fT,asB,gI0,Zc,Zd,Ze,gGt,h1]) rfl⟩
 refine ⟨c / (4*most+3),b,some (.int g),p9,hb,?_⟩
 refine aq (aX (bj (d:=.int (c % (4*most+3))) (by simp only [ac,fC,f2,bB,Zc,Zd,Ze,al (C:=aF) m1,al (C:=fun _ j=>0 < j) (i:=c) hd]))) (aq hst (aq (aX (bj (d:=.int (c / (4*most+3))) (by simp only [ac,fC,f2,bB,Zc,Zd,Ze,al (C:=aF) m1,al (C:=au) dv]))) (aq (aX (bj (d:=.non) rfl)) (aq hst2 ?_))))
 rw [nL]
 exact ou rfl (by rw [dE,hT];rfl) (ly rfl) (by rw [ik];omega)
theorem jR {seed k most:Int} (hk0:0<=k) (hk1:k<=40) (hm0:0<=most) (hm1:most<=10 ^ 55):∃ T,Grown T (k.toNat+1) (k.toNat+1)/\fn bz [.int seed,.int k,.int most]=some (aE T):=by
 obtain ⟨n,rfl⟩:∃ n:Nat,k=(n:Int):=⟨k.toNat,by omega⟩
 have en:((n:Int)).toNat=n:=by omega
 rw [en]
 have hr:=fun o5 o6 o7 o8 o9 c t=>eI (g:=aa (f2 bi (ac 1) (fC (.int 1))) ae) (δ:=[some (.int seed),some (.int (n:Int)),some (.int most),c,t,o5,o6,o7,o8,o9]) (n:=n+1) rfl (by omega)
 have inner:∀ (c:Int) (T:List (List Bn)) (i:Nat) (o6 o7 o8 o9:Option D),T.length=i->i<=40->∃ δ',Dl.forM 6 ((ay (aw 7 (vI (f2 (gI (fun _ j=>0 < j) fun i j=>.int (i % j)) (ac 3) (f2 bi (f2 (gI aF fun i j=>.int (i*j)) (fC (.int 4)) (ac 2)) (fC (.int 3)))))) (ay (sIf (fT (f2 gIn (ac 3) (cP (aa (fC (.int 0)) (aa (f1 fV (fC (.int 1))) ae))))) (ay (aw 9 (cW (fn aL) (aa (ac 0) (aa (f2 bi (f2 (gI aF fun i j=>.int (i*j)) (fC (.int 9)) (ac 5)) (ac 6)) ae)))) (aw 7 (vI (f2 gIx (gr (aa (fC (.int 0)) (aa (fC (.int 0)) (aa (f2 bi (fC (.int 1)) (f2 (gI (fun _ j=>0 < j) fun i j=>.int (i % j)) (f2 (gI au fun i j=>.int (i / j)) (ac 9) (fC (.int 3))) (f2 bi (f2 (gI aF fun i j=>.int (i*j)) (fC (.int 4)) (ac 2)) (fC (.int 2))))) ae)))) (f2 (gI (fun _ j=>0 < j) fun i j=>.int (i % j)) (ac 9) (fC (.int 3))))))) bc) (ay (aw 3 (vI (f2 (gI au fun i j=>.int (i / j)) (ac 3) (f2 bi (f2 (gI aF fun i j=>.int (i*j)) (fC (.int 4)) (ac 2)) (fC (.int 3)))))) (ay (aw 8 (vI (fC .non))) (ay (sIf (fT (f2 gGt (ac 7) (fC (.int 0)))) (aw 8 (vI (cP (aa (f2 (gI0 fun i j=>.int (i - j)) (f2 (gI au fun i j=>.int (i / j)) (f2 (gI0 fun i j=>.int (i - j)) (ac 7) (fC (.int 1))) (fC (.int 2))) (ac 2)) (aa (f2 du (f2 (gI (fun _ j=>0 < j) fun i j=>.int (i % j)) (ac 7) (fC (.int 2))) (fC (.int 0))) ae))))) bc) (hR 4 (ac 5) (bI 8)))))))) ((List.range (n+1)).map fun (i:Nat)=>D.int (i:Int)) [some (.int seed),some (.int (n:Int)),some (.int most),some (.int c),some (.lst (bo T++[.lst (ba [])])),some (.int (i:Int)),o6,o7,o8,o9]=some (.nx δ')/\∃ (c:Int) (r:List Bn) (o6 o7 o8 o9:Option D),r.length=(List.range (n+1)).length/\(∀ b∈r,Bk 190 b)/\δ'=[some (.int seed),some (.int (n:Int)),some (.int most),some (.int c),some (.lst (bo T++[.lst (ba r)])),some (.int (i:Int)),o6,o7,o8,o9]:=by
  intro c T i o6 o7 o8 o9 hT hi
  refine cF (f:=fun (i:Nat)=>D.int (i:Int)) (fun pre δ=>∃ (c:Int) (r:List Bn) (o6 o7 o8 o9:Option D),r.length=pre.length/\(∀ b∈r,Bk 190 b)/\δ=[some (.int seed),some (.int (n:Int)),some (.int most),some (.int c),some (.lst (bo T++[.lst (ba r)])),some (.int (i:Int)),o6,o7,o8,o9]) (List.range (n+1)) ?_ (List.range (n+1)) [] _ rfl ⟨c,[],o6,o7,o8,o9,rfl,(fun _ m=>nomatch m),rfl⟩
  rintro pre x post _ hx ⟨c,r,o6,o7,o8,o9,hr,hb,rfl⟩
  obtain ⟨rfl,hl⟩:=bJ hx
  obtain ⟨c',b,p7,p9,hbb,st⟩:=B4 seed (n:Int) most c T r i pre.length o7 o8 o9 hm0 hm1 hT hr hi (by omega)
  refine ⟨_,st,c',r++[b],_,_,_,_,by rw [Zh,Zh,hr];rfl,fun z hz=>?_,rfl⟩
  rcases Zn.mp hz with hz | hz
  . exact hb z hz
  . rw [Zl.mp hz];exact hbb
 obtain ⟨_,w,c,T,o5,o6,o7,o8,o9,hG,rfl⟩:=cF (i:=5) (s:=((ay (iY 4 (iM fS)) (fL (dH (aa (f2 bi (ac 1) (fC (.int 1))) ae)) 6 (ay (aw 7 (vI (f2 (gI (fun _ j=>0 < j) fun i j=>.int (i % j)) (ac 3) (f2 bi (f2 (gI aF fun i j=>.int (i*j)) (fC (.int 4)) (ac 2)) (fC (.int 3)))))) (ay (sIf (fT (f2 gIn (ac 3) (cP (aa (fC (.int 0)) (aa (f1 fV (fC (.int 1))) ae))))) (ay (aw 9 (cW (fn aL) (aa (ac 0) (aa (f2 bi (f2 (gI aF fun i j=>.int (i*j)) (fC (.int 9)) (ac 5)) (ac 6)) ae)))) (aw 7 (vI (f2 gIx (gr (aa (fC (.int 0)) (aa (fC (.int 0)) (aa (f2 bi (fC (.int 1)) (f2 (gI (fun _ j=>0 < j) fun i j=>.int (i % j)) (f2 (gI au fun i j=>.int (i / j)) (ac 9) (fC (.int 3))) (f2 bi (f2 (gI aF fun i j=>.int (i*j)) (fC (.int 4)) (ac 2)) (fC (.int 2))))) ae)))) (f2 (gI (fun _ j=>0 < j) fun i j=>.int (i % j)) (ac 9) (fC (.int 3))))))) bc) (ay (aw 3 (vI (f2 (gI au fun i j=>.int (i / j)) (ac 3) (f2 bi (f2 (gI aF fun i j=>.int (i*j)) (fC (.int 4)) (ac 2)) (fC (.int 3)))))) (ay (aw 8 (vI (fC .non))) (ay (sIf (fT (f2 gGt (ac 7) (fC (.int 0)))) (aw 8 (vI (cP (aa (f2 (gI0 fun i j=>.int (i - j)) (f2 (gI au fun i j=>.int (i / j)) (f2 (gI0 fun i j=>.int (i - j)) (ac 7) (fC (.int 1))) (fC (.int 2))) (ac 2)) (aa (f2 du (f2 (gI (fun _ j=>0 < j) fun i j=>.int (i % j)) (ac 7) (fC (.int 2))) (fC (.int 0))) ae))))) bc) (hR 4 (ac 5) (bI 8))))))))))) (f:=fun (i:Nat)=>D.int (i:Int)) (fun pre δ=>∃ (c:Int) (T:List (List Bn)) (o5 o6 o7 o8 o9:Option D),Grown T pre.length (n+1)/\δ=[some (.int seed),some (.int (n:Int)),some (.int most),some (.int c),some (aE T),o5,o6,o7,o8,o9]) (List.range (n+1)) (by
  rintro pre x post _ hx ⟨c,T,o5,o6,o7,o8,o9,hG,rfl⟩
  obtain ⟨rfl,hl⟩:=bJ hx
  obtain ⟨_,w,c',r,p6,p7,p8,p9,h1,h2,rfl⟩:=inner c T pre.length o6 o7 o8 o9 hG.len (by omega)
  refine ⟨_,aq (oD (ds:=bo T) (d:=.lst []) rfl rfl (by rw [dE,hG.len];omega)) (bV (hr _ _ _ _ _ _ _) w),c',T++[r],some (.int (pre.length:Int)),p6,p7,p8,p9,?_,?_⟩
  . rw [Zh]
    exact hG.snoc (by rw [h1,List.length_range]) h2
  . unfold aE
    rw [lL]) (List.range (n+1)) [] [some (.int seed),some (.int (n:Int)),some (.int most),some (.int seed),some (.lst []),none,none,none,none,none] rfl ⟨seed,[],none,none,none,none,none,⟨rfl,(fun _ m=>nomatch m),(fun _ m=>nomatch m)⟩,rfl⟩
 have key:bz [.int seed,.int (n:Int),.int most] (aE T):=⟨dB (δ:=[some (.int seed),some (.int (n:Int)),some (.int most),none,none,none,none,none,none,none]) (aq (aX (d:=.int seed) rfl) (aq (aX (d:=.lst []) rfl) (aq (bV (hr _ _ _ _ _ _ _) w) (ce (gE rfl))))),bY T⟩
 exact ⟨T,by rw [List.length_range] at hG;exact hG,bT (fun d' h'=>Option.some.inj (h'.1.symm.trans key.1)) key⟩
theorem jG (F:Fun K "_law_any_table" "_law_any_table" cR f fd)  (hLmixed:HasF P w K mg base 1 "_law_mixed" ["_law_cell","_law_k"] (fn aL))  (m_range:mg "range" = none):FnOk P w K mg base CX0 2 f fd ["_law_seed","_law_k","_law_most"] (bU K 3 (fn bz)):=by
 have sc:=fY
 refine cc F fY (fun cdv A outer s H E ds d hr hG hl=>?_)
 have hb:=aV hG
 have hown:=hb.2
 refine ⟨_,(av (aZ 3 sc.nd (bD 0))
  (av (aZ 4 sc.nd (gm cy))
  (av (di 5 sc.nd PassesOwn.never rfl (be rfl m_range (ad (bH (ab 1) ag) af))
   (av (lT 4 (lV PySem.F.plainAttrs_list PySem.F.slot_list_append PySem.F.type_list_append eu (pvi 4) (dW (gm cy) gL)))
   (aK (di 6 sc.nd PassesOwn.never rfl (be rfl m_range (ad (bH (ab 1) ag) af))
    (av (aZ 7 sc.nd (aR (bx (ab 3) (bH (bL ag (ab 2)) ag))))
    (av (gi (zO (ab 3) (dS (ad ag (ad (i4 ag) af)))) (av (aZ 9 sc.nd (cT hLmixed hr (ad (ab 0) (ad (bH (bL ag (ab 5)) (ab 6)) af))))
     (aK (aZ 7 sc.nd (aR (ap (lY (ad ag (ad ag (ad (bH ag (bx (aW (ab 9) ag) (bH (bL ag (ab 2)) ag))) af)))) (bx (ab 9) ag)))))) dR)
    (av (aZ 3 sc.nd (aR (aW (ab 3) (bH (bL ag (ab 2)) ag))))
    (av (aZ 8 sc.nd (aR bW))
    (av (gi (vQ (ab 7) ag) (aK (aZ 8 sc.nd (aR (dS (ad (i3 (aW (i3 (ab 7) ag) ag) (ab 2)) (ad (pb hr.units (bx (ab 7) ag) ag) af)))))) dR)
    (aK (tD 4 (lV PySem.F.plainAttrs_list PySem.F.slot_list_append PySem.F.type_list_append eu (kh ix_list (pvi 4) (ab 5) (fun _ _=>rfl)) (dW (bD 8) gL)))))))))))))
  (aK (bS (bD 4)))))),?_,?own⟩
 case own=>first | rfl | exact hown
 . show aB ((?f:SD) (aJ 10 _))=_
   exact hb.1
theorem jn:aA ["_law_cell"] ["_law_cell"] (aj gd):=⟨rfl,rfl,rfl,by decide +kernel,rfl,by decide +kernel,by decide +kernel⟩
theorem pi (F:Fun K "_law_part" "_law_part" gd f fd)  (hLlowest:Has P w K mg base 1 "_law_lowest" ["_law_top","_law_bottom"] (fn eO))  :FnOk P w K mg base CX0 2 f fd ["_law_cell"] (bh K 1 (fn aY)):=by
 have sc:=jn
 refine bE F jn (fun cdv A outer s H E ds d hr hG hl=>?_)
 obtain ⟨c,rfl,rfl⟩:=aV hG
 refine ⟨_,(aC (cK (vR hr.units0 (bx (ab 0) ag) ag) (aD (aM (ao hLlowest hr (ad (i3 (bx (aW (ab 0) ag) (bH (bL ag (rS ag ag)) ag)) (rS ag ag)) (ad (bH ag (bx (ab 0) ag)) af))))) bX)
  (aD (aM (ao hLlowest hr (ad (i3 (bx (aW (ab 0) ag) ag) ag) (ad (bH ag (bx (aW (ab 0) ag) ag)) af)))))),?_⟩
 . show aB ((?f:SD) [some _])=_
   have b8:au c 8:=⟨by decide,cv⟩
   have b48:au c 48:=⟨by decide,cv⟩
   have bp:kM 10 45:=⟨by decide,by decide,by decide⟩
   have e45:(45:Int).toNat=45:=rfl
   have bm:aF 2 (10 ^ 45):=⟨cv,jN (k:=200) (show (10 ^ 45:Int).natAbs < 2 ^ 200 by decide)⟩
   by_cases h:c % 8=5
   . have h1:(c % 8 == 5)=true:=by simp [h]
     simp only [aB,bc,cE,ay,c6,sIf,ac,fC,f2,fT,asB,ae,aa,ah,gI0,bB,eM,Zc,Zd,al (C:=fun _ j=>0 < j) (i:=c) (j:=8) (by decide),h1,al (C:=au) b8,al (C:=kM) bp,e45,al (C:=aF) bm,al (C:=fun _ j=>0 < j) (i:=c / 8) (j:=2*10 ^ 45+1) (by decide),al (C:=fun _ j=>0 < j) (i:=c) (j:=9973) (by decide),gt (t:=c / 8 % (2*10 ^ 45+1) - 10 ^ 45) (b:=1+c % 9973) (by omega) (cv (by omega))]
     unfold prt
     rw [if_pos h]
   . have h1:(c % 8 == 5)=false:=by simp [h]
     simp only [aB,bc,cE,ay,c6,sIf,ac,fC,f2,fT,asB,ae,aa,ah,gI0,bB,eM,Zc,Zd,al (C:=fun _ j=>0 < j) (i:=c) (j:=8) (by decide),h1,al (C:=au) b8,al (C:=au) b48,al (C:=fun _ j=>0 < j) (i:=c / 48) (j:=41) (by decide),al (C:=fun _ j=>0 < j) (i:=c / 8) (j:=6) (by decide),gt (t:=c / 48 % 41 - 20) (b:=1+c / 8 % 6) (by omega) (cv (by omega))]
     unfold prt
     rw [if_neg h]
theorem g8:aA ["_law_script","_law_point","_law_parts","_law_table","_law_i","_law_j","_law_drawn","_law_number","_law_bound","_law_top","_law_bottom"] ["_law_script","_law_point"] (aj dO):=⟨rfl,rfl,rfl,by decide +kernel,rfl,by decide +kernel,by decide +kernel⟩
def cq (ds:List D) (d:D):Prop:=aB (((ay (aw 2 (gu (gr (aa (cP (aa (fC (.int 0)) (aa (fC (.int 1)) ae))) ae)) (ac 1))) (ay (aw 3 (iM fS)) (ay (fL (dH (aa (ah dr (aa (ac 2) ae)) ae)) 4 (ay (iY 3 (iM fS)) (fL (dH (aa (ah dr (aa (ac 2) ae)) ae)) 5 (ay (qh [9,10] (vI (ah (fn bQ) (aa (f2 gIx (ac 2) (ac 4)) (aa (f2 gIx (ac 2) (ac 5)) ae))))) (ay (aw 6 (cW (fn aL) (aa (ah (fn az) (aa (ac 0) (aa (f2 bi (f2 bi (fC (.int 8)) (f2 (gI aF fun i j=>.int (i*j)) (ah dr (aa (ac 2) ae)) (ac 4))) (ac 5)) ae))) (aa (f2 bi (f2 (gI aF fun i j=>.int (i*j)) (fC (.int 9)) (ac 4)) (ac 5)) ae)))) (ay (aw 7 (vI (f2 bi (f1 fV (f2 (gI au fun i j=>.int (i / j)) (f1 fV (ac 9)) (ac 10))) (f2 (gI (fun _ j=>0 < j) fun i j=>.int (i % j)) (f2 (gI au fun i j=>.int (i / j)) (ac 6) (fC (.int 8))) (fC (.int 3)))))) (ay (aw 8 (vI (cP (aa (ac 7) (aa (gB (f2 gGt (f2 (gI aF fun i j=>.int (i*j)) (ac 7) (ac 10)) (ac 9)) (f2 du (f2 (gI (fun _ j=>0 < j) fun i j=>.int (i % j)) (f2 (gI au fun i j=>.int (i / j)) (ac 6) (fC (.int 24))) (fC (.int 2))) (fC (.int 1)))) ae))))) (ay (sIf (eY (fT (f2 gLt (f2 (gI (fun _ j=>0 < j) fun i j=>.int (i % j)) (ac 6) (fC (.int 8))) (fC (.int 3)))) (fO (fT (f2 du (ac 4) (ac 5))) (fT (f2 gLt (f2 (gI (fun _ j=>0 < j) fun i j=>.int (i % j)) (ac 6) (fC (.int 8))) (fC (.int 6)))))) (aw 8 (vI (fC .non))) bc) (hR 3 (ac 4) (bI 8)))))))))) (eT (bI 3)))))) (aJ 11 ds))=some d/\own d=true
theorem xC {f:Nat->Int×Int} {r:List Bn} {b:Bn} (h:∀ j,kp (f j) (r.getD j none)=true) (g:kp (f r.length) b=true) (j:Nat):kp (f j) ((r++[b]).getD j none)=true:=by
 rw [Zq]
 by_cases e:j < r.length
 . rw [List.getElem?_append_left e,<- Zq];exact h j
 . by_cases e2:j=r.length
   . subst e2
     rw [List.getElem?_append_right (Nat.le_refl _),Nat.sub_self];exact g
   . rw [List.getElem?_eq_none (by rw [Zh,List.length_singleton];omega)];rfl
theorem uv {f:Nat->Nat->Int×Int} {T:List (List Bn)} {r:List Bn} (h:∀ i j,kp (f i j) (ak T i j)=true) (g:∀ j,kp (f T.length j) (r.getD j none)=true) (i j:Nat):kp (f i j) (ak (T++[r]) i j)=true:=by
 have hh:=h i j
 unfold ak at *
 rw [Zq (l:=T++[r])]
 by_cases e:i < T.length
 . rw [List.getElem?_append_left e,<- Zq];exact hh
 . by_cases e2:i=T.length
   . subst e2
     rw [List.getElem?_append_right (Nat.le_refl _),Nat.sub_self];exact g j
   . rw [List.getElem?_eq_none (by rw [Zh,List.length_singleton];omega)];rfl
theorem Bw (ns:List Int) (P:D) (ps:List (Int×Int)) (T:List (List Bn)) (r:List Bn) (i j:Nat) (o6 o7 o8 o9 o10:Option D) (hp:∀ p∈ps,Fr 200 p) (hp2:∀ p∈ps,Sm 151 p.1/\Sm 14 p.2) (hT:T.length=i) (hr:r.length=j) (hl:ps.length<=40) (hi:i < ps.length+1) (hj:j < ps.length+1):∃ (b:Bn) (p6 p7 p9 p10:Option D),(Bk 190 b/\kp (dif ps i j) b=true) /\
 ((ay (qh [9,10] (vI (ah (fn bQ) (aa (f2 gIx (ac 2) (ac 4)) (aa (f2 gIx (ac 2) (ac 5)) ae))))) (ay (aw 6 (cW (fn aL) (aa (ah (fn az) (aa (ac 0) (aa (f2 bi (f2 bi (fC (.int 8)) (f2 (gI aF fun i j=>.int (i*j)) (ah dr (aa (ac 2) ae)) (ac 4))) (ac 5)) ae))) (aa (f2 bi (f2 (gI aF fun i j=>.int (i*j)) (fC (.int 9)) (ac 4)) (ac 5)) ae)))) (ay (aw 7 (vI (f2 bi (f1 fV (f2 (gI au fun i j=>.int (i / j)) (f1 fV (ac 9)) (ac 10))) (f2 (gI (fun _ j=>0 < j) fun i j=>.int (i % j)) (f2 (gI au fun i j=>.int (i / j)) (ac 6) (fC (.int 8))) (fC (.int 3)))))) (ay (aw 8 (vI (cP (aa (ac 7) (aa (gB (f2 gGt (f2 (gI aF fun i j=>.int (i*j)) (ac 7) (ac 10)) (ac 9)) (f2 du (f2 (gI (fun _ j=>0 < j) fun i j=>.int (i % j)) (f2 (gI au fun i j=>.int (i / j)) (ac 6) (fC (.int 24))) (fC (.int 2))) (fC (.int 1)))) ae))))) (ay (sIf (eY (fT (f2 gLt (f2 (gI (fun _ j=>0 < j) fun i j=>.int (i % j)) (ac 6) (fC (.int 8))) (fC (.int 3)))) (fO (fT (f2 du (ac 4) (ac 5))) (fT (f2 gLt (f2 (gI (fun _ j=>0 < j) fun i j=>.int (i % j)) (ac 6) (fC (.int 8))) (fC (.int 6)))))) (aw 8 (vI (fC .non))) bc) (hR 3 (ac 4) (bI 8)))))))) [some (.seq (ns.map D.int)),some P,some (.lst ((cD ps).map fr)),some (.lst (bo T++[.lst (ba r)])),some (.int (i:Int)),some (.int (j:Int)),o6,o7,o8,o9,o10]=some (.nx [some (.seq (ns.map D.int)),some P,some (.lst ((cD ps).map fr)),some (.lst (bo T++[.lst (ba (r++[b]))])),some (.int (i:Int)),some (.int (j:Int)),p6,p7,some (bdD b),p9,p10]):=by
 have a:=eQ (by decide) hp i
 have b:=eQ (by decide) hp j
 obtain ⟨top,htop⟩:∃ t,t=(cI ps i).1*(cI ps j).2 - (cI ps j).1*(cI ps i).2:=⟨_,rfl⟩
 obtain ⟨bot,hbot⟩:∃ t,t=(cI ps i).2*(cI ps j).2:=⟨_,rfl⟩
 have hb:0 < bot:=by rw [hbot];exact Int.mul_pos a.pos b.pos
 have a2:=pW hp2 i
 have b2:=pW hp2 j
 have s1:Sm 166 top:=by rw [htop];exact (a2.1.mul b2.2).sub (b2.1.mul a2.2)
 have s2:Sm 401 bot:=by rw [hbot];exact (a.s2.mul b.s2).mono (by decide)
 have le:fn bQ [fr (cI ps i),fr (cI ps j)]=some (.tup [.int top,.int bot]):=by
  rw [htop,hbot]
  exact e2 (op:=fun p q=>fr (dl p q)) (Fk.of a) (Fk.of b)
 have len:dr [.lst ((cD ps).map fr)]=some (.int ((ps.length:Int)+1)):=by
  show some (D.int (((cD ps).map fr).length:Int))=_
  rw [Zi]
  rfl
 have ml:aF ((ps.length:Int)+1) (i:Int):=⟨cv (by omega),cv (by omega)⟩
 have mi9:aF 9 (i:Int):=⟨cv,cv (by omega)⟩
 have hli:(0:Int)<=((ps.length:Int)+1)*(i:Int):=Int.mul_nonneg (by omega) (by omega)
 have ca:=ir (ns:=ns) (k:=8+((ps.length:Int)+1)*(i:Int)+(j:Int)) (by omega)
 have mx:=gT (c:=cell ns (8+((ps.length:Int)+1)*(i:Int)+(j:Int))) (k:=9*(i:Int)+(j:Int)) (by omega) (by omega)
 obtain ⟨w,hw⟩:∃ w,w=mxd (cell ns (8+((ps.length:Int)+1)*(i:Int)+(j:Int))) (9*(i:Int)+(j:Int)):=⟨_,rfl⟩
 rw [<- hw] at mx
 have dn:au (-top) bot:=⟨hb,jN (k:=401) s2⟩
 have d8:au w 8:=⟨by decide,cv⟩
 have d24:au w 24:=⟨by decide,cv⟩
 obtain ⟨nb,hnb⟩:∃ nb,nb = -(-top / bot)+w / 8 % 3:=⟨_,rfl⟩
 have s3:Sm 167 nb:=by
  rw [hnb]
  have h1:Sm 166 (-(-top / bot)):=by
   show (-(-top / bot)).natAbs < 2 ^ 166
   rw [Int.natAbs_neg]
   refine Nat.lt_of_le_of_lt (Int.natAbs_ediv_le_natAbs _ _) ?_
   rw [Int.natAbs_neg]
   exact s1
  exact h1.add (y:=w / 8 % 3) (Sm.mono (k:=10) (Sm.of (by omega) (by omega)) (by decide))
 have mb:aF nb bot:=⟨jN (k:=167) s3,jN (k:=401) s2⟩
 obtain ⟨t,ht,hts⟩:∃ t:Bool,(gB (f2 gGt (f2 (gI aF fun i j=>.int (i*j)) (ac 7) (ac 10)) (ac 9)) (f2 du (f2 (gI (fun _ j=>0 < j) fun i j=>.int (i % j)) (f2 (gI au fun i j=>.int (i / j)) (ac 6) (fC (.int 24))) (fC (.int 2))) (fC (.int 1))) [some (.seq (ns.map D.int)),some P,some (.lst ((cD ps).map fr)),some (.lst (bo T++[.lst (ba r)])),some (.int (i:Int)),some (.int (j:Int)),some (.int w),some (.int nb),o8,some (.int top),some (.int bot)]=some (.bl t))/\(t=true->top < nb*bot):=by
  by_cases h:top < nb*bot
  . have h1:decide (top < nb*bot)=true:=decide_eq_true h
    exact ⟨w / 24 % 2 == 1,by simp only [ac,fC,f2,gB,gI0,Zc,Zd,Ze,gGt,dY,al (C:=aF) mb,h1,al (C:=au) d24,al (C:=fun _ j=>0 < j) (i:=w / 24) (j:=2) (by decide)],fun _=>h⟩
  . have h1:decide (top < nb*bot)=false:=decide_eq_false h
    exact ⟨false,by simp only [ac,fC,f2,gB,gI0,Zc,Zd,Ze,gGt,al (C:=aF) mb,h1],fun z=>nomatch z⟩
 have kn:kp (dif ps i j) none=true:=rfl
 have ks:kp (dif ps i j) (some (nb,t))=true:=by
  have e1:kp (dif ps i j) (some (nb,t))=kp (top,bot) (some (nb,t)):=by
   rw [htop,hbot]
   exact (zm a.pos b.pos _).symm
  rw [e1,r8]
  have c1:-top / bot*bot <= -top:=Int.ediv_mul_le _ (by omega)
  have c2:nb*bot = -(-top / bot*bot)+w / 8 % 3*bot:=by rw [hnb,Int.add_mul,Int.neg_mul]
  have c3:0<=w / 8 % 3*bot:=Int.mul_nonneg (by omega) (by omega)
  cases t with
  | true=>exact hts rfl
  | false=>show top<=nb*bot;omega
 obtain ⟨bb,hbb,hst⟩:∃ b:Bn,(Bk 190 b/\kp (dif ps i j) b=true)/\((sIf (eY (fT (f2 gLt (f2 (gI (fun _ j=>0 < j) fun i j=>.int (i % j)) (ac 6) (fC (.int 8))) (fC (.int 3)))) (fO (fT (f2 du (ac 4) (ac 5))) (fT (f2 gLt (f2 (gI (fun _ j=>0 < j) fun i j=>.int (i % j)) (ac 6) (fC (.int 8))) (fC (.int 6)))))) (aw 8 (vI (fC .non))) bc)) [some (.seq (ns.map D.int)),some P,some (.lst ((cD ps).map fr)),some (.lst (bo T++[.lst (ba r)])),some (.int (i:Int)),some (.int (j:Int)),some (.int w),some (.int nb),some (.tup [.int nb,.bl t]),some (.int top),some (.int bot)]=some (.nx [some (.seq (ns.map D.int)),some P,some (.lst ((cD ps).map fr)),some (.lst (bo T++[.lst (ba r)])),some (.int (i:Int)),some (.int (j:Int)),some (.int w),some (.int nb),some (bdD b),some (.int top),some (.int bot)]):=by
  have yes:Bk 190 (some (nb,t))/\kp (dif ps i j) (some (nb,t))=true:=⟨Sm.mono (k:=167) s3 (by decide),ks⟩
  by_cases h3:w % 8 < 3
  . have q3:decide (w % 8 < 3)=true:=decide_eq_true h3
    exact ⟨none,⟨trivial,kn⟩,dI (by simp only [ac,fC,f2,fT,asB,fO,eY,gI0,Zc,Zd,Ze,gLt,al (C:=fun _ j=>0 < j) (i:=w) (j:=8) (by decide),q3]) rfl⟩
  . have q3:decide (w % 8 < 3)=false:=decide_eq_false h3
    cases hij:((i:Int) == (j:Int)) with
    | false=>exact ⟨some (nb,t),yes,df (by simp only [ac,fC,f2,fT,asB,fO,eY,gI0,Zc,Zd,Ze,gLt,dY,al (C:=fun _ j=>0 < j) (i:=w) (j:=8) (by decide),q3,hij]) rfl⟩
    | true =>
     by_cases h6:w % 8 < 6
     . have q6:decide (w % 8 < 6)=true:=decide_eq_true h6
       exact ⟨none,⟨trivial,kn⟩,dI (by simp only [ac,fC,f2,fT,asB,fO,eY,gI0,Zc,Zd,Ze,gLt,dY,al (C:=fun _ j=>0 < j) (i:=w) (j:=8) (by decide),q3,hij,q6]) rfl⟩
     . have q6:decide (w % 8 < 6)=false:=decide_eq_false h6
       exact ⟨some (nb,t),yes,df (by simp only [ac,fC,f2,fT,asB,fO,eY,gI0,Zc,Zd,Ze,gLt,dY,al (C:=fun _ j=>0 < j) (i:=w) (j:=8) (by decide),q3,hij,q6]) rfl⟩
 refine ⟨bb,some (.int w),some (.int nb),some (.int top),some (.int bot),hbb,?_⟩
 refine aq (p0 (ds:=[.int top,.int bot]) (bj (by simp only [ac,f2,ae,aa,ah,Zc,Zd,Ze,(iJ hi).1,(iJ hj).1,le])) rfl rfl) (aq (aX (cX (ds:=[.int (cell ns (8+((ps.length:Int)+1)*(i:Int)+(j:Int))),.int (9*(i:Int)+(j:Int))]) ?ar mx rfl)) (aq (aX (bj (d:=.int nb) ?nb)) (aq (aX (bj (d:=.tup [.int nb,.bl t]) ?tp)) (aq hst ?_))))
 case ar=>simp only [oI,ac,fC,f2,ae,aa,ah,bB,Zc,Zd,Ze,Zf,Zg,len,al (C:=aF) ml,ca,al (C:=aF) mi9]
 case nb=>simp only [oI,ac,fC,f2,f1,fV,bB,Zc,Zd,Ze,Zf,Zg,al (C:=au) dn,al (C:=au) d8,al (C:=fun _ j=>0 < j) (i:=w / 8) (j:=3) (by decide),hnb]
 case tp=>exact Ay (a:=.int nb) (b:=.bl t) rfl ht
 rw [nL]
 exact ou rfl (by rw [dE,hT];rfl) (ly rfl) (by rw [ik];omega)
theorem lC {ns:List Int} {d1:D} {ps:List (Int×Int)} (h1:IsP d1 ps) (hp:∀ p∈ps,Fr 200 p) (hp2:∀ p∈ps,Sm 151 p.1/\Sm 14 p.2) (hl:ps.length<=40):∃ T,Grown T (ps.length+1) (ps.length+1)/\(∀ i,i < ps.length+1->∀ j,j < ps.length+1->kp (dif ps i j) (ak T i j)=true)/\fn cq [.seq (ns.map D.int),d1]=some (aE T):=by
 have e0:aJ 11 [.seq (ns.map D.int),d1]=[some (.seq (ns.map D.int)),some (.seq (ps.map fr)),none,none,none,none,none,none,none,none,none]:=by
  show [some (sh (.seq (ns.map D.int))),some (sh d1),none,none,none,none,none,none,none,none,none]=_
  rw [sh,eR,show sh d1=_ from h1]
 have len:dr [.lst ((cD ps).map fr)]=some (.int ((ps.length+1:Nat):Int)):=by
  show some (D.int (((cD ps).map fr).length:Int))=_
  rw [Zi]
  rfl
 have hr:=fun t o4 o5 o6 o7 o8 o9 o10=>eI (g:=aa (ah dr (aa (ac 2) ae)) ae) (δ:=[some (.seq (ns.map D.int)),some (.seq (ps.map fr)),some (.lst ((cD ps).map fr)),t,o4,o5,o6,o7,o8,o9,o10]) (n:=ps.length+1) (by simp only [ac,ae,aa,ah,Zc,Zd,Ze,len]) (by omega)
 have inner:∀ (T:List (List Bn)) (i:Nat) (o5 o6 o7 o8 o9 o10:Option D),T.length=i->i < ps.length+1->∃ δ',Dl.forM 5 ((ay (qh [9,10] (vI (ah (fn bQ) (aa (f2 gIx (ac 2) (ac 4)) (aa (f2 gIx (ac 2) (ac 5)) ae))))) (ay (aw 6 (cW (fn aL) (aa (ah (fn az) (aa (ac 0) (aa (f2 bi (f2 bi (fC (.int 8)) (f2 (gI aF fun i j=>.int (i*j)) (ah dr (aa (ac 2) ae)) (ac 4))) (ac 5)) ae))) (aa (f2 bi (f2 (gI aF fun i j=>.int (i*j)) (fC (.int 9)) (ac 4)) (ac 5)) ae)))) (ay (aw 7 (vI (f2 bi (f1 fV (f2 (gI au fun i j=>.int (i / j)) (f1 fV (ac 9)) (ac 10))) (f2 (gI (fun _ j=>0 < j) fun i j=>.int (i % j)) (f2 (gI au fun i j=>.int (i / j)) (ac 6) (fC (.int 8))) (fC (.int 3)))))) (ay (aw 8 (vI (cP (aa (ac 7) (aa (gB (f2 gGt (f2 (gI aF fun i j=>.int (i*j)) (ac 7) (ac 10)) (ac 9)) (f2 du (f2 (gI (fun _ j=>0 < j) fun i j=>.int (i % j)) (f2 (gI au fun i j=>.int (i / j)) (ac 6) (fC (.int 24))) (fC (.int 2))) (fC (.int 1)))) ae))))) (ay (sIf (eY (fT (f2 gLt (f2 (gI (fun _ j=>0 < j) fun i j=>.int (i % j)) (ac 6) (fC (.int 8))) (fC (.int 3)))) (fO (fT (f2 du (ac 4) (ac 5))) (fT (f2 gLt (f2 (gI (fun _ j=>0 < j) fun i j=>.int (i % j)) (ac 6) (fC (.int 8))) (fC (.int 6)))))) (aw 8 (vI (fC .non))) bc) (hR 3 (ac 4) (bI 8)))))))) ((List.range (ps.length+1)).map fun (i:Nat)=>D.int (i:Int)) [some (.seq (ns.map D.int)),some (.seq (ps.map fr)),some (.lst ((cD ps).map fr)),some (.lst (bo T++[.lst (ba [])])),some (.int (i:Int)),o5,o6,o7,o8,o9,o10]=some (.nx δ')/\∃ (r:List Bn) (o5 o6 o7 o8 o9 o10:Option D),r.length=(List.range (ps.length+1)).length/\(∀ b∈r,Bk 190 b)/\(∀ j,kp (dif ps i j) (r.getD j none)=true)/\δ'=[some (.seq (ns.map D.int)),some (.seq (ps.map fr)),some (.lst ((cD ps).map fr)),some (.lst (bo T++[.lst (ba r)])),some (.int (i:Int)),o5,o6,o7,o8,o9,o10]:=by
  intro T i o5 o6 o7 o8 o9 o10 hT hi
  refine cF (f:=fun (i:Nat)=>D.int (i:Int)) (fun pre δ=>∃ (r:List Bn) (o5 o6 o7 o8 o9 o10:Option D),r.length=pre.length/\(∀ b∈r,Bk 190 b)/\(∀ j,kp (dif ps i j) (r.getD j none)=true)/\δ=[some (.seq (ns.map D.int)),some (.seq (ps.map fr)),some (.lst ((cD ps).map fr)),some (.lst (bo T++[.lst (ba r)])),some (.int (i:Int)),o5,o6,o7,o8,o9,o10]) (List.range (ps.length+1)) ?_ (List.range (ps.length+1)) [] _ rfl ⟨[],o5,o6,o7,o8,o9,o10,rfl,(fun _ m=>nomatch m),(fun _=>rfl),rfl⟩
  rintro pre x post _ hx ⟨r,o5,o6,o7,o8,o9,o10,hr,hb,hk,rfl⟩
  obtain ⟨rfl,hl'⟩:=bJ hx
  obtain ⟨b,p6,p7,p9,p10,hbb,st⟩:=Bw ns (.seq (ps.map fr)) ps T r i pre.length o6 o7 o8 o9 o10 hp hp2 hT hr hl hi hl'
  refine ⟨_,st,r++[b],_,_,_,_,_,_,by rw [Zh,Zh,hr];rfl,fun z hz=>?_,fun j=>xC hk (by rw [hr];exact hbb.2) j,rfl⟩
  rcases Zn.mp hz with hz | hz
  . exact hb z hz
  . rw [Zl.mp hz];exact hbb.1
 obtain ⟨_,w,T,o4,o5,o6,o7,o8,o9,o10,hG,hK,rfl⟩:=cF (i:=4) (s:=((ay (iY 3 (iM fS)) (fL (dH (aa (ah dr (aa (ac 2) ae)) ae)) 5 (ay (qh [9,10] (vI (ah (fn bQ) (aa (f2 gIx (ac 2) (ac 4)) (aa (f2 gIx (ac 2) (ac 5)) ae))))) (ay (aw 6 (cW (fn aL) (aa (ah (fn az) (aa (ac 0) (aa (f2 bi (f2 bi (fC (.int 8)) (f2 (gI aF fun i j=>.int (i*j)) (ah dr (aa (ac 2) ae)) (ac 4))) (ac 5)) ae))) (aa (f2 bi (f2 (gI aF fun i j=>.int (i*j)) (fC (.int 9)) (ac 4)) (ac 5)) ae)))) (ay (aw 7 (vI (f2 bi (f1 fV (f2 (gI au fun i j=>.int (i / j)) (f1 fV (ac 9)) (ac 10))) (f2 (gI (fun _ j=>0 < j) fun i j=>.int (i % j)) (f2 (gI au fun i j=>.int (i / j)) (ac 6) (fC (.int 8))) (fC (.int 3)))))) (ay (aw 8 (vI (cP (aa (ac 7) (aa (gB (f2 gGt (f2 (gI aF fun i j=>.int (i*j)) (ac 7) (ac 10)) (ac 9)) (f2 du (f2 (gI (fun _ j=>0 < j) fun i j=>.int (i % j)) (f2 (gI au fun i j=>.int (i / j)) (ac 6) (fC (.int 24))) (fC (.int 2))) (fC (.int 1)))) ae))))) (ay (sIf (eY (fT (f2 gLt (f2 (gI (fun _ j=>0 < j) fun i j=>.int (i % j)) (ac 6) (fC (.int 8))) (fC (.int 3)))) (fO (fT (f2 du (ac 4) (ac 5))) (fT (f2 gLt (f2 (gI (fun _ j=>0 < j) fun i j=>.int (i % j)) (ac 6) (fC (.int 8))) (fC (.int 6)))))) (aw 8 (vI (fC .non))) bc) (hR 3 (ac 4) (bI 8))))))))))) (f:=fun (i:Nat)=>D.int (i:Int)) (fun pre δ=>∃ (T:List (List Bn)) (o4 o5 o6 o7 o8 o9 o10:Option D),Grown T pre.length (ps.length+1)/\(∀ i j,kp (dif ps i j) (ak T i j)=true)/\δ=[some (.seq (ns.map D.int)),some (.seq (ps.map fr)),some (.lst ((cD ps).map fr)),some (aE T),o4,o5,o6,o7,o8,o9,o10]) (List.range (ps.length+1)) (by
  rintro pre x post _ hx ⟨T,o4,o5,o6,o7,o8,o9,o10,hG,hK,rfl⟩
  obtain ⟨rfl,hl'⟩:=bJ hx
  obtain ⟨_,w,r,p5,p6,p7,p8,p9,p10,h1,h2,h3,rfl⟩:=inner T pre.length o5 o6 o7 o8 o9 o10 hG.len hl'
  refine ⟨_,aq (oD (ds:=bo T) (d:=.lst []) rfl rfl (by rw [dE,hG.len];omega)) (bV (hr _ _ _ _ _ _ _ _) w),T++[r],some (.int (pre.length:Int)),p5,p6,p7,p8,p9,p10,?_,fun i j=>uv hK (by rw [hG.len];exact h3) i j,?_⟩
  . rw [Zh]
    exact hG.snoc (by rw [h1,List.length_range]) h2
  . unfold aE
    rw [lL]) (List.range (ps.length+1)) [] [some (.seq (ns.map D.int)),some (.seq (ps.map fr)),some (.lst ((cD ps).map fr)),some (.lst []),none,none,none,none,none,none,none] rfl ⟨[],none,none,none,none,none,none,none,⟨rfl,(fun _ m=>nomatch m),(fun _ m=>nomatch m)⟩,(fun _ _=>rfl),rfl⟩
 have cat:gu (gr (aa (cP (aa (fC (.int 0)) (aa (fC (.int 1)) ae))) ae)) (ac 1) [some (.seq (ns.map D.int)),some (.seq (ps.map fr)),none,none,none,none,none,none,none,none,none]=some (.lst ((cD ps).map fr),[some (.seq (ns.map D.int)),some (.seq (ps.map fr)),none,none,none,none,none,none,none,none,none]):=oz (a:=.lst [fr (0,1)]) (xs:=[fr (0,1)]) (ys:=ps.map fr) rfl rfl rfl rfl (by rw [Zi];simp only [List.length_cons,List.length_nil];omega) (qQ (cD ps))
 have key:cq [.seq (ns.map D.int),d1] (aE T):=by
  refine ⟨?_,bY T⟩
  rw [e0]
  exact dB (aq (aX cat) (aq (aX (d:=.lst []) rfl) (aq (bV (hr _ _ _ _ _ _ _ _) w) (ce (gE rfl)))))
 exact ⟨T,by rw [List.length_range] at hG;exact hG,fun i _ j _=>hK i j,bT (fun d' h'=>Option.some.inj (h'.1.symm.trans key.1)) key⟩
theorem kE (F:Fun K "_law_planted" "_law_planted" dO f fd)  (hLless:Has P w K mg base 1 "_law_less" ["_law_one","_law_other"] (fn bQ)) (hLmixed:HasF P w K mg base 1 "_law_mixed" ["_law_cell","_law_k"] (fn aL)) (hLcell_at:Has P w K mg base 1 "_law_cell_at" ["_law_script","_law_k"] (fn az))  (m_range:mg "range" = none) (m_len:mg "len" = none):FnOk P w K mg base CX0 2 f fd ["_law_script","_law_point"] (bU K 2 (fn cq)):=by
 have sc:=g8
 refine cc F g8 (fun cdv A outer s H E ds d hr hG hl=>?_)
 have hb:=aV hG
 have hown:=hb.2
 refine ⟨_,(av (aZ 2 sc.nd (kW (lY (ad (dS (ad ag (ad ag af))) af)) (ab 1)))
  (av (aZ 3 sc.nd (gm cy))
  (av (di 4 sc.nd PassesOwn.never rfl (be rfl m_range (ad (bg aP cZ rfl m_len PySem.boot_len (ad (ab 2) af)) af))
   (av (lT 3 (lV PySem.F.plainAttrs_list PySem.F.slot_list_append PySem.F.type_list_append eu (pvi 3) (dW (gm cy) gL)))
   (aK (di 5 sc.nd PassesOwn.never rfl (be rfl m_range (ad (bg aP cZ rfl m_len PySem.boot_len (ad (ab 2) af)) af))
    (av (vZ [9,10] (aR (ao hLless hr (ad (ap (ab 2) (ab 4)) (ad (ap (ab 2) (ab 5)) af)))) (rR rfl (gy (pgN 9 sc.nd) (gy (pgN 10 sc.nd) oX))))
    (av (aZ 6 sc.nd (cT hLmixed hr (ad (ao hLcell_at hr (ad (ab 0) (ad (bH (bH ag (bL (bg aP cZ rfl m_len PySem.boot_len (ad (ab 2) af)) (ab 4))) (ab 5)) af))) (ad (bH (bL ag (ab 4)) (ab 5)) af))))
    (av (aZ 7 sc.nd (aR (bH (i4 (aW (i4 (ab 9)) (ab 10))) (bx (aW (ab 6) ag) ag))))
    (av (aZ 8 sc.nd (aR (dS (ad (ab 7) (ad (pd (ze (bL (ab 7) (ab 10)) (ab 9)) (jZ (pb hr.units (bx (aW (ab 6) ag) ag) ag))) af)))))
    (av (gi (PWD.pt (lP (lR (bx (ab 6) ag) ag) (jz (PWD.pt (tt (kX hr.units (ab 4) (ab 5)) (qr (lR (bx (ab 6) ag) ag))))))) (aK (aZ 8 sc.nd (aR bW))) dR)
    (aK (tD 3 (lV PySem.F.plainAttrs_list PySem.F.slot_list_append PySem.F.type_list_append eu (kh ix_list (pvi 3) (ab 4) (fun _ _=>rfl)) (dW (bD 8) gL)))))))))))))
  (aK (bS (bD 3)))))),?_,?own⟩
 case own=>first | rfl | exact hown
 . show aB ((?f:SD) (aJ 11 _))=_
   exact hb.1
theorem jp:aA ["_law_table","_law_point","_law_parts","_law_i","_law_j"] ["_law_table","_law_point"] (aj gg):=⟨rfl,rfl,rfl,by decide +kernel,rfl,by decide +kernel,by decide +kernel⟩
theorem po (F:Fun K "_law_lies" "_law_lies" gg f fd)  (hLkeeps:Has P w K mg base 1 "_law_keeps" ["_law_part_here","_law_bound"] (fn d7)) (hLless:Has P w K mg base 1 "_law_less" ["_law_one","_law_other"] (fn bQ))  (m_range:mg "range" = none) (m_len:mg "len" = none):FnOk P w K mg base CX0 2 f fd ["_law_table","_law_point"] (bU K 2 (fn dG)):=by
 have sc:=jp
 refine cc F jp (fun cdv A outer s H E ds d hr hG hl=>?_)
 obtain ⟨d0,d1,T,ps,h1,h2,h3,h4,h5,h6,rfl,rfl⟩:=aV hG
 have hown:own (.bl (kG T ps))=true:=rfl
 refine ⟨_,(av (aZ 2 sc.nd (kW (lY (ad (dS (ad ag (ad ag af))) af)) (ab 1)))
  (av (di 3 sc.nd PassesOwn.never rfl (be rfl m_range (ad (bg aP cZ rfl m_len PySem.boot_len (ad (ab 2) af)) af))
   (aK (di 4 sc.nd PassesOwn.never rfl (be rfl m_range (ad (bg aP cZ rfl m_len PySem.boot_len (ad (ab 2) af)) af))
    (aK (gi (jB (fF (ao hLkeeps hr (ad (ao hLless hr (ad (ap (ab 2) (ab 3)) (ad (ap (ab 2) (ab 4)) af))) (ad (ap (ap (ab 0) (ab 3)) (ab 4)) af))))) (aK (bS (aR ki))) dR)))))
  (aK (bS (aR ki))))),?_,?own⟩
 case own=>first | rfl | exact hown
 . show aB ((?f:SD) (aJ 5 _))=_
   have e0:aJ 5 [d0,d1]=[some (aG T),some (.seq (ps.map fr)),none,none,none]:=by
    show [some (sh d0),some (sh d1),none,none,none]=_
    rw [show sh d0=_ from h1,show sh d1=_ from h5]
   rw [e0]
   have len:dr [.lst ((cD ps).map fr)]=some (.int ((ps.length+1:Nat):Int)):=by
    show some (D.int (((cD ps).map fr).length:Int))=_
    rw [Zi]
    rfl
   have hv:=fun o3 o4:Option D=>eI (g:=aa (ah dr (aa (ac 2) ae)) ae) (δ:=[some (aG T),some (.seq (ps.map fr)),some (.lst ((cD ps).map fr)),o3,o4]) (n:=ps.length+1) (by simp only [ac,ae,aa,ah,Zc,Zd,Ze,len]) (by omega)
   have inn:=fun (i:Nat) (hi:i < ps.length+1) (o:Option D)=>mK (i:=4) (s:=((sIf (gj (fT (ah (fn d7) (aa (ah (fn bQ) (aa (f2 gIx (ac 2) (ac 3)) (aa (f2 gIx (ac 2) (ac 4)) ae))) (aa (f2 gIx (f2 gIx (ac 0) (ac 3)) (ac 4)) ae))))) (eT (vI (fC (.bl false)))) bc))) (f:=fun (i:Nat)=>D.int (i:Int)) (d:=.bl false) (fun δ=>∃ o,δ=[some (aG T),some (.seq (ps.map fr)),some (.lst ((cD ps).map fr)),some (.int (i:Int)),o]) (fun j=>kp (dif ps i j) (ak T i j)) (List.range (ps.length+1)) [some (aG T),some (.seq (ps.map fr)),some (.lst ((cD ps).map fr)),some (.int (i:Int)),o] ⟨_,rfl⟩ (by
    rintro j hj _ ⟨o,rfl⟩
    have hj:=List.mem_range.mp hj
    obtain ⟨r,q1,q2⟩:=j6 h2 hi hj
    have fi:=eQ (by decide) h6 i
    have fj:=eQ (by decide) h6 j
    have kk:fn d7 [fr (dl (cI ps i) (cI ps j)),bdD (ak T i j)]=some (.bl (kp (dif ps i j) (ak T i j))):=by
     have:=pJ (BY fi fj (by decide)) (h4 i j)
     rw [zm fi.pos fj.pos] at this
     exact this
    refine ⟨fun hb=>⟨_,yX (b:=false) (by simp only [ac,f2,fT,asB,gj,ae,aa,ah,Zc,Option.map_some,Zd,Ze,Zf,Zg,Bool.not_true,oH,(iJ hi).1,(iJ hj).1,q1,q2,e2 (op:=fun p q=>fr (dl p q)) (Fk.of fi) (Fk.of fj),kk,hb]) rfl,_,rfl⟩,fun hb=>?_⟩
    exact yX (b:=true) (by simp only [ac,f2,fT,asB,gj,ae,aa,ah,Zc,Option.map_some,Zd,Ze,Zf,Zg,Bool.not_false,oH,(iJ hi).1,(iJ hj).1,q1,q2,e2 (op:=fun p q=>fr (dl p q)) (Fk.of fi) (Fk.of fj),kk,hb]) (ce (bj rfl)))
   obtain ⟨k1,k2⟩:=mK (i:=3) (s:=((fL (dH (aa (ah dr (aa (ac 2) ae)) ae)) 4 (sIf (gj (fT (ah (fn d7) (aa (ah (fn bQ) (aa (f2 gIx (ac 2) (ac 3)) (aa (f2 gIx (ac 2) (ac 4)) ae))) (aa (f2 gIx (f2 gIx (ac 0) (ac 3)) (ac 4)) ae))))) (eT (vI (fC (.bl false)))) bc)))) (f:=fun (i:Nat)=>D.int (i:Int)) (d:=.bl false) (fun δ=>∃ o p,δ=[some (aG T),some (.seq (ps.map fr)),some (.lst ((cD ps).map fr)),o,p]) (fun i=>(List.range (ps.length+1)).all fun j=>kp (dif ps i j) (ak T i j)) (List.range (ps.length+1)) [some (aG T),some (.seq (ps.map fr)),some (.lst ((cD ps).map fr)),none,none] ⟨_,_,rfl⟩ (by
    rintro i hi _ ⟨o,p,rfl⟩
    have hi:=List.mem_range.mp hi
    obtain ⟨w1,w2⟩:=inn i hi p
    refine ⟨fun hb=>?_,fun hb=>bV (hv _ _) (w2 hb)⟩
    obtain ⟨_,f1,o',rfl⟩:=w1 hb
    exact ⟨_,bV (hv _ _) f1,_,_,rfl⟩)
   have cat:gu (gr (aa (cP (aa (fC (.int 0)) (aa (fC (.int 1)) ae))) ae)) (ac 1) [some (aG T),some (.seq (ps.map fr)),none,none,none]=some (.lst ((cD ps).map fr),[some (aG T),some (.seq (ps.map fr)),none,none,none]):=oz (a:=.lst [fr (0,1)]) (xs:=[fr (0,1)]) (ys:=ps.map fr) rfl rfl rfl rfl (by rw [Zi];simp only [List.length_cons,List.length_nil];omega) (qQ (cD ps))
   have ea:kG T ps=(List.range (ps.length+1)).all fun i=>(List.range (ps.length+1)).all fun j=>kp (dif ps i j) (ak T i j):=rfl
   refine dB (aq (aX cat) ?_)
   dsimp only [List.set_cons_zero,List.set_cons_succ]
   cases hq:kG T ps with
   | true =>
    obtain ⟨_,w,o,p,rfl⟩:=k1 (ea ▸ hq)
    exact aq (bV (hv _ _) w) (ce (bj rfl))
   | false=>exact gG (bV (hv _ _) (k2 (ea ▸ hq)))
theorem jo:aA ["_law_one","_law_other"] ["_law_one","_law_other"] (aj gf):=⟨rfl,rfl,rfl,by decide +kernel,rfl,by decide +kernel,by decide +kernel⟩
theorem pj (F:Fun K "_law_mean" "_law_mean" gf f fd)  (hLlowest:Has P w K mg base 1 "_law_lowest" ["_law_top","_law_bottom"] (fn eO))  :FnOk P w K mg base CX0 2 f fd ["_law_one","_law_other"] (bh K 2 (fn dF)):=by
 have sc:=jo
 refine bE F jo (fun cdv A outer s H E ds d hr hG hl=>?_)
 obtain ⟨⟨a,b⟩,⟨c,e⟩,hp,hq,rfl,rfl⟩:=aV hG
 refine ⟨_,(aD (aM (ao hLlowest hr (ad (bH (bL (ap (ab 0) ag) (ap (ab 1) ag)) (bL (ap (ab 1) ag) (ap (ab 0) ag))) (ad (bL (bL ag (ap (ab 0) ag)) (ap (ab 1) ag)) af))))),?_⟩
 . show aB ((?f:SD) [some _,some _])=_
   have hb:0 < 2*b*e:=Int.mul_pos (Int.mul_pos (by decide) hp.pos) hq.pos
   have s2:Sm 4002 (2*b):=(vv (Nat.le_refl 2)).mul hp.s2 |>.mono (by decide)
   have sb:Bd (2*b*e):=jN (k:=8002) (s2.mul hq.s2)
   simp only [aB,c6,ac,fC,f2,ae,aa,ah,cN,eE,bB,Zc,Zd,Ze,al (C:=aF) (i:=a) (j:=e) ⟨hp.s1.bd,hq.s2.bd⟩,al (C:=aF) (i:=c) (j:=b) ⟨hq.s1.bd,hp.s2.bd⟩,al (C:=aF) (i:=2) (j:=b) ⟨cv,hp.s2.bd⟩,al (C:=aF) (i:=2*b) (j:=e) ⟨jN s2,hq.s2.bd⟩,gt (t:=a*e+c*b) (b:=2*b*e) hb sb]
   rfl
theorem kf:aA ["top","bottom"] ["top","bottom"] (aj dh):=⟨rfl,rfl,rfl,by decide +kernel,rfl,by decide +kernel,by decide +kernel⟩
theorem kl {dV:Value} (F:FunD K "fraction" "fraction" dh f fd dV)  (hlowest:Has P w K mg base 2 "lowest" ["top","bottom"] (fn mY)) (his_whole:Has P w K mg base 1 "is_whole" ["thing"] (fn je))  :FnOk P w K mg base CX0 3 f fd ["top","bottom"] (bh K 2 (fn bf)):=by
 have sc:=kf
 refine vO F kf (fun cdv A outer s H E ds d hr hG hl=>?_)
 obtain ⟨t,b,hb,hB,rfl,rfl⟩:=aV hG
 refine ⟨_,(aC (cK (PWD.pt (lP (jB (fF (ao his_whole hr (ad (ab 0) af)))) (jz (jB (fF (ao his_whole hr (ad (ab 1) af))))))) (aD nQ) bX)
  (aC (cK (vR hr.units0 (ab 1) ag) (aD nQ) bX)
  (aC (cK (lR (ab 1) ag) (aD (aM (ao hlowest hr (ad (i4 (ab 0)) (ad (i4 (ab 1)) af))))) bX)
  (aD (aM (ao hlowest hr (ad (ab 0) (ad (ab 1) af)))))))),?_⟩
 . show aB ((?f:SD) [some _,some _])=_
   have h0:(b == 0)=false:=by simp [hb]
   by_cases hn:b < 0
   . have h1:decide (b < 0)=true:=decide_eq_true hn
     simp only [aB,bc,cE,ay,c6,sIf,ac,fC,f2,f1,fT,asB,gj,eY,fV,ae,aa,ah,gI0,eM,Zc,Option.map_some,Zd,Ze,Bool.not_true,gS (x:=.int t) rfl,gS (x:=.int b) rfl,h0,h1,qX (t:=-t) (b:=-b) (by omega) (AG hB)]
     unfold low
     rw [if_pos hn]
   . have h1:decide (b < 0)=false:=decide_eq_false hn
     simp only [aB,bc,cE,ay,c6,sIf,ac,fC,f2,f1,fT,asB,gj,eY,fV,ae,aa,ah,gI0,eM,Zc,Option.map_some,Zd,Ze,Bool.not_true,gS (x:=.int t) rfl,gS (x:=.int b) rfl,h0,h1,qX (t:=t) (b:=b) (by omega) hB]
     unfold low
     rw [if_neg hn]
theorem sV:aA ["one","other"] ["one","other"] (aj oJ):=⟨rfl,rfl,rfl,by decide +kernel,rfl,by decide +kernel,by decide +kernel⟩
theorem ye (F:Fun K "plus" "plus" oJ f fd)  (hsummed:Has P w K mg base 2 "summed" ["one","top","bottom"] (fn gC))  :FnOk P w K mg base CX0 3 f fd ["one","other"] (bh K 2 (fn sE)):=by
 have sc:=sV
 refine bE F sV (fun cdv A outer s H E ds d hr hG hl=>?_)
 obtain ⟨⟨a,b⟩,⟨c,e⟩,hp,hq,rfl,rfl⟩:=aV hG
 refine ⟨_,(aD (aM (ao hsummed hr (ad (ab 0) (ad (ap (ab 1) ag) (ad (ap (ab 1) ag) af)))))),?_⟩
 . show aB ((?f:SD) [some _,some _])=_
   have h:=qW hp hq
   have h':fn gC [.tup [.int a,.int b],.int c,.int e]=some (fr (pl (a,b) (c,e))):=by rw [Bv hp.lw hq.lw];exact h
   simp only [aB,c6,ac,fC,f2,ae,aa,ah,cN,eE,Zc,Zd,Ze,h']
theorem qc:aA ["one","other"] ["one","other"] (aj kS):=⟨rfl,rfl,rfl,by decide +kernel,rfl,by decide +kernel,by decide +kernel⟩
theorem wo (F:Fun K "minus" "minus" kS f fd)  (hsummed:Has P w K mg base 2 "summed" ["one","top","bottom"] (fn gC))  :FnOk P w K mg base CX0 3 f fd ["one","other"] (bh K 2 (fn lr)):=by
 have sc:=qc
 refine bE F qc (fun cdv A outer s H E ds d hr hG hl=>?_)
 obtain ⟨⟨a,b⟩,⟨c,e⟩,hp,hq,rfl,rfl⟩:=aV hG
 refine ⟨_,(aD (aM (ao hsummed hr (ad (ab 0) (ad (i4 (ap (ab 1) ag)) (ad (ap (ab 1) ag) af)))))),?_⟩
 . show aB ((?f:SD) [some _,some _])=_
   have h:=qW hp hq.neg
   have h':fn gC [.tup [.int a,.int b],.int (-c),.int e]=some (fr (mi (a,b) (c,e))):=by rw [BG hp.lw hq.lw];exact h
   simp only [aB,c6,ac,fC,f2,f1,fV,ae,aa,ah,cN,eE,Zc,Zd,Ze,h']
theorem gw:aA ["_law_script","_law_head","_law_k","_law_point","_law_table","_law_cell","_law_i","_law_j"] ["_law_script"] (aj db):=⟨rfl,rfl,rfl,by decide +kernel,rfl,by decide +kernel,by decide +kernel⟩
def cH (ds:List D) (d:D):Prop:=aB (((ay (aw 1 (vI (ah (fn az) (aa (ac 0) (aa (fC (.int 0)) ae))))) (ay (aw 2 (vI (f2 (gI (fun _ j=>0 < j) fun i j=>.int (i % j)) (f2 (gI au fun i j=>.int (i / j)) (ac 1) (fC (.int 4))) (f2 gIx (gr (aa (fC (.int 5)) (aa (fC (.int 7)) ae))) (ah sj (aa (f2 gGt (f2 (gI (fun _ j=>0 < j) fun i j=>.int (i % j)) (ac 1) (fC (.int 4))) (fC (.int 1))) ae)))))) (ay (aw 3 (gY (qa (aa (ac 2) ae)) [0] (vI (ah (fn aY) (aa (ah (fn az) (aa (ac 1) (aa (f2 bi (fC (.int 1)) (ac 0)) ae))) ae))))) (ay (sIf (fT (f2 gLt (f2 (gI (fun _ j=>0 < j) fun i j=>.int (i % j)) (ac 1) (fC (.int 4))) (fC (.int 2)))) (eT (m5 (bn (cW (fn bz) (aa (ah (fn az) (aa (ac 0) (aa (fC (.int 1)) ae))) (aa (ac 2) (aa (f2 gIx (gr (aa (fC (.int 3)) (aa (fC (.int 9)) (aa (f2 (gI kM fun i j=>.int (i ^ j.toNat)) (fC (.int 10)) (fC (.int 55))) ae)))) (f2 (gI (fun _ j=>0 < j) fun i j=>.int (i % j)) (f2 (gI au fun i j=>.int (i / j)) (ac 1) (fC (.int 20))) (fC (.int 3)))) ae)))) (bn (bI 3) fS)))) bc) (ay (aw 4 (cW (fn cq) (aa (ac 0) (aa (ac 3) ae)))) (ay (sIf (fT (f2 du (f2 (gI (fun _ j=>0 < j) fun i j=>.int (i % j)) (ac 1) (fC (.int 4))) (fC (.int 3)))) (ay (aw 5 (vI (ah (fn az) (aa (ac 0) (aa (fC (.int 7)) ae))))) (ay (aw 6 (vI (f2 (gI (fun _ j=>0 < j) fun i j=>.int (i % j)) (ac 5) (f2 bi (ac 2) (fC (.int 1)))))) (ay (aw 7 (vI (f2 (gI (fun _ j=>0 < j) fun i j=>.int (i % j)) (f2 (gI au fun i j=>.int (i / j)) (ac 5) (f2 bi (ac 2) (fC (.int 1)))) (f2 bi (ac 2) (fC (.int 1)))))) (sIf (fT (f2 hU (f2 gIx (f2 gIx (ac 4) (ac 6)) (ac 7)) (fC .non))) (iT 4 (ac 6) (ac 7) (vI (cP (aa (f2 (gI0 fun i j=>.int (i - j)) (f2 (gI0 fun i j=>.int (i - j)) (f2 gIx (f2 gIx (f2 gIx (ac 4) (ac 6)) (ac 7)) (fC (.int 0))) (fC (.int 1))) (f2 (gI (fun _ j=>0 < j) fun i j=>.int (i % j)) (f2 (gI au fun i j=>.int (i / j)) (ac 5) (fC (.int 50))) (fC (.int 4)))) (aa (f2 du (f2 (gI (fun _ j=>0 < j) fun i j=>.int (i % j)) (f2 (gI au fun i j=>.int (i / j)) (ac 5) (fC (.int 200))) (fC (.int 2))) (fC (.int 1))) ae))))) bc)))) bc) (eT (m5 (bn (bI 4) (bn (bI 3) fS))))))))))) (aJ 8 ds))=some d/\own d=true
theorem kw (ns:List Int):∃ (T:List (List Bn)) (ps:List (Int×Int)),Sq T (ps.length+1)/\Bk5 T/\ps.length<=6/\(∀ p∈ps,Fr 200 p)/\fn cH [.seq (ns.map D.int)]=some (.tup [aE T,.lst (ps.map fr)]):=by
 have e0:aJ 8 [.seq (ns.map D.int)]=[some (.seq (ns.map D.int)),none,none,none,none,none,none,none]:=by
  show [some (sh (.seq (ns.map D.int))),none,none,none,none,none,none,none]=_
  rw [sh,eR]
 have ca:=fun (k:Int) (h:0<=k)=>ir (ns:=ns) (k:=k) h
 have c0:=ca 0 (by decide)
 obtain ⟨h,hh⟩:∃ h,h=cell ns 0:=⟨_,rfl⟩
 rw [<- hh] at c0
 have d4:au h 4:=⟨by decide,cv⟩
 have d20:au h 20:=⟨by decide,cv⟩
 obtain ⟨n,hn6,hk⟩:∃ n:Nat,n<=6/\f2 (gI (fun _ j=>0 < j) fun i j=>.int (i % j)) (f2 (gI au fun i j=>.int (i / j)) (ac 1) (fC (.int 4))) (f2 gIx (gr (aa (fC (.int 5)) (aa (fC (.int 7)) ae))) (ah sj (aa (f2 gGt (f2 (gI (fun _ j=>0 < j) fun i j=>.int (i % j)) (ac 1) (fC (.int 4))) (fC (.int 1))) ae))) [some (.seq (ns.map D.int)),some (.int h),none,none,none,none,none,none]=some (.int (n:Int)):=by
  by_cases q:1 < h % 4
  . have q1:decide (1 < h % 4)=true:=decide_eq_true q
    have ix:gIx (.lst [.int 5,.int 7]) (.int 1)=some (.int 7):=rfl
    refine ⟨(h / 4 % 7).toNat,by omega,?_⟩
    rw [show (((h / 4 % 7).toNat:Nat):Int)=h / 4 % 7 by omega]
    simp only [ac,fC,f2,ae,aa,gr,ah,sj,gI0,Zc,Zd,Ze,gGt,al (C:=fun _ j=>0 < j) (i:=h) (j:=4) (by decide),q1,if_true,al (C:=au) d4,ix,al (C:=fun _ j=>0 < j) (i:=h / 4) (j:=7) (by decide)]
  . have q1:decide (1 < h % 4)=false:=decide_eq_false q
    have ix:gIx (.lst [.int 5,.int 7]) (.int 0)=some (.int 5):=rfl
    refine ⟨(h / 4 % 5).toNat,by omega,?_⟩
    rw [show (((h / 4 % 5).toNat:Nat):Int)=h / 4 % 5 by omega]
    simp only [ac,fC,f2,ae,aa,gr,ah,sj,gI0,Zc,Zd,Ze,gGt,al (C:=fun _ j=>0 < j) (i:=h) (j:=4) (by decide),q1,Bool.false_eq_true,if_false,al (C:=au) d4,ix,al (C:=fun _ j=>0 < j) (i:=h / 4) (j:=5) (by decide)]
 obtain ⟨ps,hps⟩:∃ ps,ps=(List.range n).map fun (i:Nat)=>prt (cell ns (1+(i:Int))):=⟨_,rfl⟩
 have hpl:ps.length=n:=by rw [hps,Zi,List.length_range]
 have hpf:∀ p∈ps,Fr 200 p:=by
  rw [hps]
  intro p m
  obtain ⟨i,_,rfl⟩:=Zm.mp m
  exact rP _
 have hp2:∀ p∈ps,Sm 151 p.1/\Sm 14 p.2:=by
  rw [hps]
  intro p m
  obtain ⟨i,_,rfl⟩:=Zm.mp m
  exact zT _
 have hP:own (.lst (ps.map fr))=true:=by rw [own];exact ie _
 have hcomp:gY (qa (aa (ac 2) ae)) [0] (vI (ah (fn aY) (aa (ah (fn az) (aa (ac 1) (aa (f2 bi (fC (.int 1)) (ac 0)) ae))) ae))) [some (.seq (ns.map D.int)),some (.int h),some (.int (n:Int)),none,none,none,none,none]=some (.lst (ps.map fr),[some (.seq (ns.map D.int)),some (.int h),some (.int (n:Int)),none,none,none,none,none]):=by
  rw [hps,List.map_map]
  refine jQ (f:=fun (i:Nat)=>D.int (i:Int)) (yY rfl (B5 (by omega))) (fun i hi=>?_) (by rw [List.length_range];omega)
  have es:shO (some (.int (i:Int)) :: bv [0] [some (.seq (ns.map D.int)),some (.int h),some (.int (n:Int)),none,none,none,none,none])=[some (.int (i:Int)),some (.seq (ns.map D.int))]:=by
   have z:sh (.seq (ns.map D.int))=.seq (ns.map D.int):=by rw [sh,eR]
   show [some (.int (i:Int)),some (sh (.seq (ns.map D.int)))]=_
   rw [z]
  rw [es]
  exact z6 (bj (by simp only [ac,fC,f2,ae,aa,ah,bB,Zc,Zd,Ze,ca (1+(i:Int)) (by omega),iq];rfl)) rfl
 have oT:∀ T,own (.tup [aE T,.lst (ps.map fr)])=true:=fun T=>by
  rw [own]
  show (own (aE T) && (own (.lst (ps.map fr)) && true))=true
  rw [bY,hP]
  rfl
 have fin:∀ T,Sq T (ps.length+1)->Bk5 T->(((ay (aw 1 (vI (ah (fn az) (aa (ac 0) (aa (fC (.int 0)) ae))))) (ay (aw 2 (vI (f2 (gI (fun _ j=>0 < j) fun i j=>.int (i % j)) (f2 (gI au fun i j=>.int (i / j)) (ac 1) (fC (.int 4))) (f2 gIx (gr (aa (fC (.int 5)) (aa (fC (.int 7)) ae))) (ah sj (aa (f2 gGt (f2 (gI (fun _ j=>0 < j) fun i j=>.int (i % j)) (ac 1) (fC (.int 4))) (fC (.int 1))) ae)))))) (ay (aw 3 (gY (qa (aa (ac 2) ae)) [0] (vI (ah (fn aY) (aa (ah (fn az) (aa (ac 1) (aa (f2 bi (fC (.int 1)) (ac 0)) ae))) ae))))) (ay (sIf (fT (f2 gLt (f2 (gI (fun _ j=>0 < j) fun i j=>.int (i % j)) (ac 1) (fC (.int 4))) (fC (.int 2)))) (eT (m5 (bn (cW (fn bz) (aa (ah (fn az) (aa (ac 0) (aa (fC (.int 1)) ae))) (aa (ac 2) (aa (f2 gIx (gr (aa (fC (.int 3)) (aa (fC (.int 9)) (aa (f2 (gI kM fun i j=>.int (i ^ j.toNat)) (fC (.int 10)) (fC (.int 55))) ae)))) (f2 (gI (fun _ j=>0 < j) fun i j=>.int (i % j)) (f2 (gI au fun i j=>.int (i / j)) (ac 1) (fC (.int 20))) (fC (.int 3)))) ae)))) (bn (bI 3) fS)))) bc) (ay (aw 4 (cW (fn cq) (aa (ac 0) (aa (ac 3) ae)))) (ay (sIf (fT (f2 du (f2 (gI (fun _ j=>0 < j) fun i j=>.int (i % j)) (ac 1) (fC (.int 4))) (fC (.int 3)))) (ay (aw 5 (vI (ah (fn az) (aa (ac 0) (aa (fC (.int 7)) ae))))) (ay (aw 6 (vI (f2 (gI (fun _ j=>0 < j) fun i j=>.int (i % j)) (ac 5) (f2 bi (ac 2) (fC (.int 1)))))) (ay (aw 7 (vI (f2 (gI (fun _ j=>0 < j) fun i j=>.int (i % j)) (f2 (gI au fun i j=>.int (i / j)) (ac 5) (f2 bi (ac 2) (fC (.int 1)))) (f2 bi (ac 2) (fC (.int 1)))))) (sIf (fT (f2 hU (f2 gIx (f2 gIx (ac 4) (ac 6)) (ac 7)) (fC .non))) (iT 4 (ac 6) (ac 7) (vI (cP (aa (f2 (gI0 fun i j=>.int (i - j)) (f2 (gI0 fun i j=>.int (i - j)) (f2 gIx (f2 gIx (f2 gIx (ac 4) (ac 6)) (ac 7)) (fC (.int 0))) (fC (.int 1))) (f2 (gI (fun _ j=>0 < j) fun i j=>.int (i % j)) (f2 (gI au fun i j=>.int (i / j)) (ac 5) (fC (.int 50))) (fC (.int 4)))) (aa (f2 du (f2 (gI (fun _ j=>0 < j) fun i j=>.int (i % j)) (f2 (gI au fun i j=>.int (i / j)) (ac 5) (fC (.int 200))) (fC (.int 2))) (fC (.int 1))) ae))))) bc)))) bc) (eT (m5 (bn (bI 4) (bn (bI 3) fS)))))))))))) [some (.seq (ns.map D.int)),none,none,none,none,none,none,none]=some (.rt (.tup [aE T,.lst (ps.map fr)]))->∃ (T:List (List Bn)) (ps:List (Int×Int)),Sq T (ps.length+1)/\Bk5 T/\ps.length<=6/\(∀ p∈ps,Fr 200 p)/\fn cH [.seq (ns.map D.int)]=some (.tup [aE T,.lst (ps.map fr)]):=fun T hs hB e=>by
  have key:cH [.seq (ns.map D.int)] (.tup [aE T,.lst (ps.map fr)]):=⟨by rw [e0];exact dB e,oT T⟩
  exact ⟨T,ps,hs,hB,by omega,hpf,bT (fun d' h'=>Option.some.inj (h'.1.symm.trans key.1)) key⟩
 by_cases q2:h % 4 < 2
 . have q1:decide (h % 4 < 2)=true:=decide_eq_true q2
   obtain ⟨most,hm0,hm1,hmo⟩:∃ most:Int,0<=most/\most<=10 ^ 55/\f2 gIx (gr (aa (fC (.int 3)) (aa (fC (.int 9)) (aa (f2 (gI kM fun i j=>.int (i ^ j.toNat)) (fC (.int 10)) (fC (.int 55))) ae)))) (f2 (gI (fun _ j=>0 < j) fun i j=>.int (i % j)) (f2 (gI au fun i j=>.int (i / j)) (ac 1) (fC (.int 20))) (fC (.int 3))) [some (.seq (ns.map D.int)),some (.int h),some (.int (n:Int)),some (.lst (ps.map fr)),none,none,none,none]=some (.int most):=by
    have bp:kM 10 55:=⟨by decide,by decide,by decide⟩
    have e55:(55:Int).toNat=55:=rfl
    have w3:h / 20 % 3=0 \/ h / 20 % 3=1 \/ h / 20 % 3=2:=by omega
    obtain ⟨most,hm0,hm1,hmo⟩:∃ most:Int,0<=most/\most<=10 ^ 55/\gIx (.lst [.int 3,.int 9,.int (10 ^ 55)]) (.int (h / 20 % 3))=some (.int most):=by
     rcases w3 with q | q | q
     . exact ⟨3,by decide,by decide,by rw [q];rfl⟩
     . exact ⟨9,by decide,by decide,by rw [q];rfl⟩
     . exact ⟨10 ^ 55,by decide,by decide,by rw [q];rfl⟩
    exact ⟨most,hm0,hm1,by simp only [ac,fC,f2,ae,aa,gr,Zc,Zd,Ze,al (C:=kM) bp,e55,al (C:=au) d20,al (C:=fun _ j=>0 < j) (i:=h / 20) (j:=3) (by decide),hmo]⟩
   obtain ⟨T,hG,hT⟩:=jR (seed:=cell ns 1) (k:=(n:Int)) (most:=most) (by omega) (by omega) hm0 hm1
   have en:((n:Int)).toNat+1=ps.length+1:=by omega
   rw [en] at hG
   refine fin T hG.sq (fun i j=>(hG.cell i j).mono (by decide)) ?_
   refine aq (aX (bj (d:=.int h) (by simp only [ac,fC,ae,aa,ah,Zc,Zd,c0]))) (aq (aX (bj hk)) (aq (aX hcomp) (gG (dI ?_ (ce (δ':=[some (.seq (ns.map D.int)),some (.int h),some (.int (n:Int)),none,none,none,none,none]) ?_)))))
   . simp only [Zf,Zg,ac,fC,f2,fT,asB,gI0,Zc,Zd,Ze,Zf,Zg,gLt,al (C:=fun _ j=>0 < j) (i:=h) (j:=4) (by decide),q1]
   . have v1:cW (fn bz) (aa (ah (fn az) (aa (ac 0) (aa (fC (.int 1)) ae))) (aa (ac 2) (aa (f2 gIx (gr (aa (fC (.int 3)) (aa (fC (.int 9)) (aa (f2 (gI kM fun i j=>.int (i ^ j.toNat)) (fC (.int 10)) (fC (.int 55))) ae)))) (f2 (gI (fun _ j=>0 < j) fun i j=>.int (i % j)) (f2 (gI au fun i j=>.int (i / j)) (ac 1) (fC (.int 20))) (fC (.int 3)))) ae))) [some (.seq (ns.map D.int)),some (.int h),some (.int (n:Int)),some (.lst (ps.map fr)),none,none,none,none]=some (aE T,[some (.seq (ns.map D.int)),some (.int h),some (.int (n:Int)),some (.lst (ps.map fr)),none,none,none,none]):=cX (ds:=[.int (cell ns 1),.int (n:Int),.int most]) (fa3 (by simp only [ac,fC,ae,aa,ah,Zc,Zd,ca 1 (by decide)]) rfl hmo) hT (bY T)
     exact vo v1 (gE rfl)
 . have q1:decide (h % 4 < 2)=false:=decide_eq_false q2
   obtain ⟨T,hG,_,hT⟩:=lC (ns:=ns) (gQ ps) hpf hp2 (by omega)
   obtain ⟨T',o5,o6,o7,hs',hB',hst⟩:∃ (T':List (List Bn)) (o5 o6 o7:Option D),Sq T' (ps.length+1)/\Bk5 T'/\((sIf (fT (f2 du (f2 (gI (fun _ j=>0 < j) fun i j=>.int (i % j)) (ac 1) (fC (.int 4))) (fC (.int 3)))) (ay (aw 5 (vI (ah (fn az) (aa (ac 0) (aa (fC (.int 7)) ae))))) (ay (aw 6 (vI (f2 (gI (fun _ j=>0 < j) fun i j=>.int (i % j)) (ac 5) (f2 bi (ac 2) (fC (.int 1)))))) (ay (aw 7 (vI (f2 (gI (fun _ j=>0 < j) fun i j=>.int (i % j)) (f2 (gI au fun i j=>.int (i / j)) (ac 5) (f2 bi (ac 2) (fC (.int 1)))) (f2 bi (ac 2) (fC (.int 1)))))) (sIf (fT (f2 hU (f2 gIx (f2 gIx (ac 4) (ac 6)) (ac 7)) (fC .non))) (iT 4 (ac 6) (ac 7) (vI (cP (aa (f2 (gI0 fun i j=>.int (i - j)) (f2 (gI0 fun i j=>.int (i - j)) (f2 gIx (f2 gIx (f2 gIx (ac 4) (ac 6)) (ac 7)) (fC (.int 0))) (fC (.int 1))) (f2 (gI (fun _ j=>0 < j) fun i j=>.int (i % j)) (f2 (gI au fun i j=>.int (i / j)) (ac 5) (fC (.int 50))) (fC (.int 4)))) (aa (f2 du (f2 (gI (fun _ j=>0 < j) fun i j=>.int (i % j)) (f2 (gI au fun i j=>.int (i / j)) (ac 5) (fC (.int 200))) (fC (.int 2))) (fC (.int 1))) ae))))) bc)))) bc)) [some (.seq (ns.map D.int)),some (.int h),some (.int (n:Int)),some (.lst (ps.map fr)),some (aE T),none,none,none]=some (.nx [some (.seq (ns.map D.int)),some (.int h),some (.int (n:Int)),some (.lst (ps.map fr)),some (aE T'),o5,o6,o7]):=by
    by_cases q3:h % 4=3
    . have q4:(h % 4 == 3)=true:=by simp [q3]
      obtain ⟨c,hc⟩:∃ c,c=cell ns 7:=⟨_,rfl⟩
      have c7:=ca 7 (by decide)
      rw [<- hc] at c7
      have hkp:0 < (n:Int)+1:=by omega
      have dk:au c ((n:Int)+1):=⟨hkp,cv (by omega)⟩
      have d50:au c 50:=⟨by decide,cv⟩
      have d200:au c 200:=⟨by decide,cv⟩
      have r0:=Int.emod_nonneg c (show (n:Int)+1 ≠ 0 by omega)
      have r1:=Int.emod_lt_of_pos c hkp
      have r2:=Int.emod_nonneg (c / ((n:Int)+1)) (show (n:Int)+1 ≠ 0 by omega)
      have r3:=Int.emod_lt_of_pos (c / ((n:Int)+1)) hkp
      obtain ⟨I,hI,hI'⟩:∃ I:Nat,c % ((n:Int)+1)=(I:Int)/\I < ps.length+1:=⟨(c % ((n:Int)+1)).toNat,by omega,by omega⟩
      obtain ⟨J,hJ,hJ'⟩:∃ J:Nat,c / ((n:Int)+1) % ((n:Int)+1)=(J:Int)/\J < ps.length+1:=⟨(c / ((n:Int)+1) % ((n:Int)+1)).toNat,by omega,by omega⟩
      obtain ⟨rw',x1,x2,_,_,_⟩:=j7 hG.sq hI' hJ'
      have hcell:=hG.cell I J
      rcases hcx:ak T I J with _ | ⟨m,s⟩
      . rw [hcx] at x2
        refine ⟨T,some (.int c),some (.int (I:Int)),some (.int (J:Int)),hG.sq,fun i j=>(hG.cell i j).mono (by decide),?_⟩
        exact dI (by simp only [ac,fC,f2,fT,asB,Zc,Zd,Ze,dY,al (C:=fun _ j=>0 < j) (i:=h) (j:=4) (by decide),q4]) (aq (aX (bj (d:=.int c) (by simp only [ac,fC,ae,aa,ah,Zc,Zd,c7]))) (aq (aX (bj (d:=.int (I:Int)) (by simp only [ac,fC,f2,bB,Zc,Zd,Ze,Zf,Zg,al (C:=fun _ j=>0 < j) (i:=c) hkp,hI]))) (aq (aX (bj (d:=.int (J:Int)) (by simp only [ac,fC,f2,bB,Zc,Zd,Ze,Zf,Zg,al (C:=au) dk,al (C:=fun _ j=>0 < j) (i:=c / ((n:Int)+1)) hkp,hJ]))) (df (by simp only [ac,fC,f2,fT,asB,Zc,Zd,Ze,Zf,Zg,Bool.not_true,xn,bq,hU,x1,x2]) rfl))))
      . rw [hcx] at x2 hcell
        refine ⟨jV T I J (some (m - 1 - c / 50 % 4,c / 200 % 2 == 1)),some (.int c),some (.int (I:Int)),some (.int (J:Int)),sU hG.sq hI',fun i j=>?_,?_⟩
        . rw [vd hG.sq hI' hJ']
          split
          . exact Sm.mono (k:=192) (((show Sm 190 m from hcell).sub (y:=1) (Sm.mono (k:=10) (Sm.of (by omega) (by omega)) (by decide))).sub (y:=c / 50 % 4) (Sm.mono (k:=10) (Sm.of (by omega) (by omega)) (by decide))) (by decide)
          . exact (hG.cell i j).mono (by decide)
        . exact dI (by simp only [ac,fC,f2,fT,asB,Zc,Zd,Ze,dY,al (C:=fun _ j=>0 < j) (i:=h) (j:=4) (by decide),q4]) (aq (aX (bj (d:=.int c) (by simp only [ac,fC,ae,aa,ah,Zc,Zd,c7]))) (aq (aX (bj (d:=.int (I:Int)) (by simp only [ac,fC,f2,bB,Zc,Zd,Ze,Zf,Zg,al (C:=fun _ j=>0 < j) (i:=c) hkp,hI]))) (aq (aX (bj (d:=.int (J:Int)) (by simp only [ac,fC,f2,bB,Zc,Zd,Ze,Zf,Zg,al (C:=au) dk,al (C:=fun _ j=>0 < j) (i:=c / ((n:Int)+1)) hkp,hJ]))) (dI (by simp only [ac,fC,f2,fT,asB,Zc,Zd,Ze,Zf,Zg,Bool.not_false,cG,bq,hU,x1,x2]) (xG hG.sq hI' hJ' rfl rfl rfl (bj (by simp only [ac,fC,f2,ae,aa,cP,cN,gI0,Zc,Zd,Ze,Zf,Zg,cG,dY,x1,x2,al (C:=au) d50,al (C:=fun _ j=>0 < j) (i:=c / 50) (j:=4) (by decide),al (C:=au) d200,al (C:=fun _ j=>0 < j) (i:=c / 200) (j:=2) (by decide)]) (jb _)))))))
    . have q4:(h % 4 == 3)=false:=by simp [q3]
      exact ⟨T,none,none,none,hG.sq,fun i j=>(hG.cell i j).mono (by decide),df (by simp only [ac,fC,f2,fT,asB,Zc,Zd,Ze,dY,al (C:=fun _ j=>0 < j) (i:=h) (j:=4) (by decide),q4]) rfl⟩
   refine fin T' hs' hB' ?_
   exact aq (aX (bj (d:=.int h) (by simp only [ac,fC,ae,aa,ah,Zc,Zd,c0]))) (aq (aX (bj hk)) (aq (aX hcomp) (aq (df (by simp only [Zf,Zg,ac,fC,f2,fT,asB,gI0,Zc,Zd,Ze,Zf,Zg,gLt,al (C:=fun _ j=>0 < j) (i:=h) (j:=4) (by decide),q1]) rfl) (aq (aX (cX (ds:=[.seq (ns.map D.int),.lst (ps.map fr)]) rfl hT (bY T))) (aq hst (ce (vo (gE rfl) (gE rfl))))))))
theorem j1 (F:Fun K "_law_table_by" "_law_table_by" db f fd)  (hLcell_at:Has P w K mg base 1 "_law_cell_at" ["_law_script","_law_k"] (fn az)) (hLplanted:HasF P w K mg base 2 "_law_planted" ["_law_script","_law_point"] (fn cq)) (hLpart:Has P w K mg base 2 "_law_part" ["_law_cell"] (fn aY)) (hLany_table:HasF P w K mg base 2 "_law_any_table" ["_law_seed","_law_k","_law_most"] (fn bz))  (m_int:mg "int" = none) (m_range:mg "range" = none):FnOk P w K mg base CX0 3 f fd ["_law_script"] (bU K 1 (fn cH)):=by
 have sc:=gw
 refine cc F gw (fun cdv A outer s H E ds d hr hG hl=>?_)
 have hb:=aV hG
 have hown:=hb.2
 refine ⟨_,(av (aZ 1 sc.nd (aR (ao hLcell_at hr (ad (ab 0) (ad ag af)))))
  (av (aZ 2 sc.nd (aR (bx (aW (ab 1) ag) (ap (lY (ad ag (ad ag af))) (uF ve AB rfl m_int boot_int (ad (ze (bx (ab 1) ag) ag) af))))))
  (av (xW 3 sc.nd (by exact (lU rfl m_range (ad (ab 2) af))) (N:=["_law_t","_law_script"]) (js:=[0]) (cl:=[("_law_script",_)]) (fun _ _ _ _ _=>by exact (aR (ao hLpart hr (ad (ao hLcell_at hr (ad (ab 1) (ad (bH ag (ab 0)) af))) af)))) (by exact CompOk.one))
  (av (gi (lR (bx (ab 1) ag) ag) (aK (bS (lQ (bt (cT hLany_table hr (ad (ao hLcell_at hr (ad (ab 0) (ad ag af))) (ad (ab 2) (ad (ap (lY (ad ag (ad ag (ad (rS ag ag) af)))) (bx (aW (ab 1) ag) ag)) af)))) (bt (bD 3) cy))))) dR)
  (av (aZ 4 sc.nd (cT hLplanted hr (ad (ab 0) (ad (ab 3) af))))
  (av (gi (kX hr.units (bx (ab 1) ag) ag) (av (aZ 5 sc.nd (aR (ao hLcell_at hr (ad (ab 0) (ad ag af)))))
   (av (aZ 6 sc.nd (aR (bx (ab 5) (bH (ab 2) ag))))
   (av (aZ 7 sc.nd (aR (bx (aW (ab 5) (bH (ab 2) ag)) (bH (ab 2) ag))))
   (aK (gi (jA (ap (ap (ab 4) (ab 6)) (ab 7)) bW) (aK (tz 4 (aR (dS (ad (i3 (i3 (ap (ap (ap (ab 4) (ab 6)) (ab 7)) ag) ag) (bx (aW (ab 5) ag) ag)) (ad (pb hr.units (bx (aW (ab 5) ag) ag) ag) af)))) (oY (kh ix_list (pvi 4) (ab 6) (fun _ _=>rfl)) (ab 7) jk))) dR))))) dR)
  (aK (bS (lQ (bt (bD 4) (bt (bD 3) cy))))))))))),?_,?own⟩
 case own=>first | rfl | exact hown
 . show aB ((?f:SD) (aJ 8 _))=_
   exact hb.1
theorem hX:aA ["_law_script","_law_point","_law_told","_law_found","_law_cell","_law_made","_law_t","_law_number","_law_some"] ["_law_script","_law_point","_law_told"] (aj eK):=⟨rfl,rfl,rfl,by decide +kernel,rfl,by decide +kernel,by decide +kernel⟩
theorem l5 (F:Fun K "_law_points" "_law_points" eK f fd)  (hLmixed:HasF P w K mg base 1 "_law_mixed" ["_law_cell","_law_k"] (fn aL)) (hLpart:Has P w K mg base 2 "_law_part" ["_law_cell"] (fn aY)) (hLmean:Has P w K mg base 2 "_law_mean" ["_law_one","_law_other"] (fn dF))  (m_range:mg "range" = none) (m_len:mg "len" = none):FnOk P w K mg base CX0 3 f fd ["_law_script","_law_point","_law_told"] (bh K 3 (fn cg)):=by
 have sc:=hX
 refine xK F hX (fun cdv A outer s H E ds d hr hG hl=>?_)
 obtain ⟨ns,cs,d1,d2,ps,qs,h,h1,h2,rfl,rfl⟩:=aV hG
 refine ⟨_,(av (aZ 3 sc.nd (gm (bt (bD 1) (bt (bD 2) cy))))
  (av (di 4 sc.nd PassesOwn.never rfl (v8 (vN (ab 0) (vW (i4 ag)) vX))
   (av (aZ 5 sc.nd (gm cy))
   (av (di 6 sc.nd PassesOwn.never rfl (be rfl m_range (ad (bg aP cZ rfl m_len PySem.boot_len (ad (ab 1) af)) af))
    (av (aZ 7 sc.nd (cT hLmixed hr (ad (ab 4) (ad (ab 6) af))))
    (av (aZ 8 sc.nd (gm (bt (aR (ao hLpart hr (ad (ab 7) af))) (bt (aR (ao hLpart hr (ad (aW (ab 4) (bH (ab 6) ag)) af))) (bt (aR (ap (ab 1) (ab 6))) (bt (aR (ap (ab 2) (ab 6))) (bt (aR (ao hLmean hr (ad (ap (ab 1) (ab 6)) (ad (ap (ab 2) (ab 6)) af)))) cy)))))))
    (aK (lT 5 (lV PySem.F.plainAttrs_list PySem.F.slot_list_append PySem.F.type_list_append eu (pvi 5) (dW (aR (ap (ab 8) (bx (aW (ab 7) ag) ag))) gL)))))))
   (aK (lT 3 (lV PySem.F.plainAttrs_list PySem.F.slot_list_append PySem.F.type_list_append eu (pvi 3) (dW (bD 5) gL)))))))
  (aK (bS (bD 3))))),?_⟩
 . show aB ((?f:SD) (aJ 9 _))=_
   have e0:aJ 9 [.seq (ns.map D.int),d1,d2]=[some (.seq (ns.map D.int)),some (.seq (ps.map fr)),some (.seq (qs.map fr)),none,none,none,none,none,none]:=by
    show [some (sh (.seq (ns.map D.int))),some (sh d1),some (sh d2),none,none,none,none,none,none]=_
    rw [show sh d1=_ from h1,show sh d2=_ from h2,sh,eR]
   rw [e0]
   have len:dr [.seq (ps.map fr)]=some (.int (ps.length:Int)):=by
    show some (D.int ((ps.map fr).length:Int))=_
    rw [Zi]
   have inn:∀ (c:Int) (L:List D) (o6 o7 o8:Option D),∃ δ',Dl.forM 6 ((ay (aw 7 (cW (fn aL) (aa (ac 4) (aa (ac 6) ae)))) (ay (aw 8 (iM (bn (vI (ah (fn aY) (aa (ac 7) ae))) (bn (vI (ah (fn aY) (aa (f2 (gI au fun i j=>.int (i / j)) (ac 4) (f2 bi (ac 6) (fC (.int 1)))) ae))) (bn (vI (f2 gIx (ac 1) (ac 6))) (bn (vI (f2 gIx (ac 2) (ac 6))) (bn (vI (ah (fn dF) (aa (f2 gIx (ac 1) (ac 6)) (aa (f2 gIx (ac 2) (ac 6)) ae)))) fS))))))) (iY 5 (vI (f2 gIx (ac 8) (f2 (gI (fun _ j=>0 < j) fun i j=>.int (i % j)) (f2 (gI au fun i j=>.int (i / j)) (ac 7) (fC (.int 64))) (fC (.int 5))))))))) ((List.range ps.length).map fun (i:Nat)=>D.int (i:Int)) [some (.seq (ns.map D.int)),some (.seq (ps.map fr)),some (.seq (qs.map fr)),some (.lst L),some (.int c),some (.lst []),o6,o7,o8]=some (.nx δ')/\∃ o6 o7 o8,δ'=[some (.seq (ns.map D.int)),some (.seq (ps.map fr)),some (.seq (qs.map fr)),some (.lst L),some (.int c),some (.lst ((mB c ps qs).map fr)),o6,o7,o8]:=fun c L o6 o7 o8=>by
    have w:=cF (i:=6) (s:=((ay (aw 7 (cW (fn aL) (aa (ac 4) (aa (ac 6) ae)))) (ay (aw 8 (iM (bn (vI (ah (fn aY) (aa (ac 7) ae))) (bn (vI (ah (fn aY) (aa (f2 (gI au fun i j=>.int (i / j)) (ac 4) (f2 bi (ac 6) (fC (.int 1)))) ae))) (bn (vI (f2 gIx (ac 1) (ac 6))) (bn (vI (f2 gIx (ac 2) (ac 6))) (bn (vI (ah (fn dF) (aa (f2 gIx (ac 1) (ac 6)) (aa (f2 gIx (ac 2) (ac 6)) ae)))) fS))))))) (iY 5 (vI (f2 gIx (ac 8) (f2 (gI (fun _ j=>0 < j) fun i j=>.int (i % j)) (f2 (gI au fun i j=>.int (i / j)) (ac 7) (fC (.int 64))) (fC (.int 5)))))))))) (f:=fun (i:Nat)=>D.int (i:Int)) (fun pre δ=>∃ o6 o7 o8,δ=[some (.seq (ns.map D.int)),some (.seq (ps.map fr)),some (.seq (qs.map fr)),some (.lst L),some (.int c),some (.lst (((List.range pre.length).map (pick c ps qs)).map fr)),o6,o7,o8]) (List.range ps.length) (by
     rintro pre x post _ hx ⟨o6,o7,o8,rfl⟩
     obtain ⟨rfl,ht⟩:=bJ hx
     rw [Zh,List.length_singleton]
     generalize pre.length=t at *
     have ht40:=h.pl
     have em:=gT (c:=c) (k:=(t:Int)) (by omega) (by omega)
     have p1:=iq (c:=mxd c (t:Int))
     have p2:=iq (c:=c / ((t:Int)+1))
     have x1:=wM (ps:=ps) ht
     have x2:=wM (ps:=qs) (t:=t) (by rw [<- h.pq];exact ht)
     have fp:=k8 (by decide) h.pf t
     have fq:=k8 (by decide) h.qf t
     have p3:=e2 (op:=fun p q=>fr (ma p q)) (Fk.of fp) (Fk.of fq)
     have dv:au c ((t:Int)+1):=⟨by omega,cv (by omega)⟩
     have d64:au (mxd c (t:Int)) 64:=⟨by decide,cv⟩
     have hm0:=Ah c (t:Int)
     obtain ⟨m,hm⟩:∃ m,m=mxd c (t:Int):=⟨_,rfl⟩
     obtain ⟨r,hr,hr5⟩:∃ r:Nat,m / 64 % 5=(r:Int)/\r < 5:=⟨(m / 64 % 5).toNat,by omega,by omega⟩
     have ix:gIx (.lst [fr (prt m),fr (prt (c / ((t:Int)+1))),fr (ps.getD t (0,1)),fr (qs.getD t (0,1)),fr (ma (ps.getD t (0,1)) (qs.getD t (0,1)))]) (.int (r:Int))=some (fr (pick c ps qs t)):=by
      have e:[fr (prt m),fr (prt (c / ((t:Int)+1))),fr (ps.getD t (0,1)),fr (qs.getD t (0,1)),fr (ma (ps.getD t (0,1)) (qs.getD t (0,1)))][r]? = some (fr (pick c ps qs t)):=by
       unfold pick
       rw [<- hm,hr,show ((r:Nat):Int).toNat=r by omega]
       match r,hr5 with
       | 0,_=>rfl
       | 1,_=>rfl
       | 2,_=>rfl
       | 3,_=>rfl
       | 4,_=>rfl
      exact eZ e
     rw [<- hm] at em p1 d64
     have si:sh (D.int (t:Int))=.int (t:Int):=rfl
     refine ⟨[some (.seq (ns.map D.int)),some (.seq (ps.map fr)),some (.seq (qs.map fr)),some (.lst L),some (.int c),some (.lst (((List.range (t+1)).map (pick c ps qs)).map fr)),some (.int (t:Int)),some (.int m),some (.lst [fr (prt m),fr (prt (c / ((t:Int)+1))),fr (ps.getD t (0,1)),fr (qs.getD t (0,1)),fr (ma (ps.getD t (0,1)) (qs.getD t (0,1)))])],?_,_,_,_,rfl⟩
     refine aq (eJ (d:=.int m) (cX (ds:=[.int c,.int (t:Int)]) rfl em rfl)) (aq (eJ (d:=.lst [fr (prt m),fr (prt (c / ((t:Int)+1))),fr (ps.getD t (0,1)),fr (qs.getD t (0,1)),fr (ma (ps.getD t (0,1)) (qs.getD t (0,1)))]) ?_) ?_)
     . have v1:∀ δ:DS,δ=[some (.seq (ns.map D.int)),some (.seq (ps.map fr)),some (.seq (qs.map fr)),some (.lst L),some (.int c),some (.lst (((List.range t).map (pick c ps qs)).map fr)),some (.int (t:Int)),some (.int m),o8]->vI (ah (fn aY) (aa (ac 7) ae)) δ=some (fr (prt m),δ)/\vI (ah (fn aY) (aa (f2 (gI au fun i j=>.int (i / j)) (ac 4) (f2 bi (ac 6) (fC (.int 1)))) ae)) δ=some (fr (prt (c / ((t:Int)+1))),δ)/\vI (f2 gIx (ac 1) (ac 6)) δ=some (fr (ps.getD t (0,1)),δ)/\vI (f2 gIx (ac 2) (ac 6)) δ=some (fr (qs.getD t (0,1)),δ)/\vI (ah (fn dF) (aa (f2 gIx (ac 1) (ac 6)) (aa (f2 gIx (ac 2) (ac 6)) ae))) δ=some (fr (ma (ps.getD t (0,1)) (qs.getD t (0,1))),δ):=fun δ e=>by
        subst e
        refine ⟨bj ?_,bj ?_,bj ?_,bj ?_,bj ?_⟩
        . simp only [ac,ae,aa,ah,Zc,Zd,Ze,p1]
        . simp only [ac,fC,f2,ae,aa,ah,bB,Zc,Zd,Ze,al (C:=au) dv,p2]
        . simp only [ac,f2,Zc,Zd,Ze,x1]
        . simp only [ac,f2,Zc,Zd,Ze,x2]
        . simp only [ac,f2,ae,aa,ah,Zc,Zd,Ze,x1,x2,p3]
       obtain ⟨a1,a2,a3,a4,a5⟩:=v1 _ rfl
       show iM (bn _ (bn _ (bn _ (bn _ (bn _ fS))))) [some (.seq (ns.map D.int)),some (.seq (ps.map fr)),some (.seq (qs.map fr)),some (.lst L),some (.int c),some (.lst (((List.range t).map (pick c ps qs)).map fr)),some (.int (t:Int)),some (.int m),o8]=_
       unfold iM bn fS
       rw [a1]
       dsimp only [Option.bind_some]
       rw [a2]
       dsimp only [Option.bind_some]
       rw [a3]
       dsimp only [Option.bind_some]
       rw [a4]
       dsimp only [Option.bind_some]
       rw [a5]
       rfl
     . have sa:=oD (δ:=[some (.seq (ns.map D.int)),some (.seq (ps.map fr)),some (.seq (qs.map fr)),some (.lst L),some (.int c),some (.lst (((List.range t).map (pick c ps qs)).map fr)),some (.int (t:Int)),some (.int m),some (.lst [fr (prt m),fr (prt (c / ((t:Int)+1))),fr (ps.getD t (0,1)),fr (qs.getD t (0,1)),fr (ma (ps.getD t (0,1)) (qs.getD t (0,1)))])]) (i:=5) (fm:=vI (f2 gIx (ac 8) (f2 (gI (fun _ j=>0 < j) fun i j=>.int (i % j)) (f2 (gI au fun i j=>.int (i / j)) (ac 7) (fC (.int 64))) (fC (.int 5))))) (ds:=((List.range t).map (pick c ps qs)).map fr) (d:=fr (pick c ps qs t)) rfl (bj (by simp only [ac,fC,f2,Zc,Zd,Ze,al (C:=au) d64,al (C:=fun _ j=>0 < j) (i:=m / 64) (j:=5) (by decide),hr,ix])) (by rw [Zi,Zi,List.length_range];omega)
       have er:((List.range t).map (pick c ps qs)).map fr++[fr (pick c ps qs t)]=((List.range (t+1)).map (pick c ps qs)).map fr:=by
        rw [List.range_succ,List.map_append,List.map_append]
        rfl
       rw [er] at sa
       exact sa) (List.range ps.length) [] [some (.seq (ns.map D.int)),some (.seq (ps.map fr)),some (.seq (qs.map fr)),some (.lst L),some (.int c),some (.lst []),o6,o7,o8] rfl ⟨_,_,_,rfl⟩
    rw [List.length_range] at w
    exact w
   obtain ⟨_,w,o4,o5,o6,o7,o8,rfl⟩:=cF (i:=4) (s:=((ay (aw 5 (iM fS)) (ay (fL (dH (aa (ah dr (aa (ac 1) ae)) ae)) 6 (ay (aw 7 (cW (fn aL) (aa (ac 4) (aa (ac 6) ae)))) (ay (aw 8 (iM (bn (vI (ah (fn aY) (aa (ac 7) ae))) (bn (vI (ah (fn aY) (aa (f2 (gI au fun i j=>.int (i / j)) (ac 4) (f2 bi (ac 6) (fC (.int 1)))) ae))) (bn (vI (f2 gIx (ac 1) (ac 6))) (bn (vI (f2 gIx (ac 2) (ac 6))) (bn (vI (ah (fn dF) (aa (f2 gIx (ac 1) (ac 6)) (aa (f2 gIx (ac 2) (ac 6)) ae)))) fS))))))) (iY 5 (vI (f2 gIx (ac 8) (f2 (gI (fun _ j=>0 < j) fun i j=>.int (i % j)) (f2 (gI au fun i j=>.int (i / j)) (ac 7) (fC (.int 64))) (fC (.int 5))))))))) (iY 3 (bI 5)))))) (f:=D.int) (fun pre δ=>∃ o4 o5 o6 o7 o8,δ=[some (.seq (ns.map D.int)),some (.seq (ps.map fr)),some (.seq (qs.map fr)),some (.lst (cr pre ps qs)),o4,o5,o6,o7,o8]) cs (by
    rintro pre c post _ hx ⟨o4,o5,o6,o7,o8,rfl⟩
    have hl:pre.length<=63:=by
     have:=congrArg List.length hx
     rw [Zh] at this
     have:=h.cl
     omega
    obtain ⟨_,f1,q6,q7,q8,rfl⟩:=inn c (cr pre ps qs) o6 o7 o8
    have hv:=eI (g:=aa (ah dr (aa (ac 1) ae)) ae) (δ:=[some (.seq (ns.map D.int)),some (.seq (ps.map fr)),some (.seq (qs.map fr)),some (.lst (cr pre ps qs)),some (.int c),some (.lst []),o6,o7,o8]) (n:=ps.length) (by simp only [ac,ae,aa,ah,Zc,Zd,Ze,len]) (Nat.le_trans h.pl (by decide))
    refine ⟨[some (.seq (ns.map D.int)),some (.seq (ps.map fr)),some (.seq (qs.map fr)),some (.lst (cr (pre++[c]) ps qs)),some (.int c),none,q6,q7,q8],aq (eJ (d:=.lst []) rfl) (aq (bV hv f1) ?_),_,_,_,_,_,rfl⟩
    have sa:=xB (δ:=[some (.seq (ns.map D.int)),some (.seq (ps.map fr)),some (.seq (qs.map fr)),some (.lst (cr pre ps qs)),some (.int c),some (.lst ((mB c ps qs).map fr)),q6,q7,q8]) (i:=3) (fm:=bI 5) (ds:=cr pre ps qs) (es:=cr pre ps qs) (d:=.lst ((mB c ps qs).map fr)) rfl (gE rfl) rfl (by unfold cr;rw [List.length_cons,List.length_cons,Zi];omega)
    have er:cr pre ps qs++[.lst ((mB c ps qs).map fr)]=cr (pre++[c]) ps qs:=by
     unfold cr
     rw [List.map_append]
     rfl
    rw [er] at sa
    exact sa) cs [] [some (.seq (ns.map D.int)),some (.seq (ps.map fr)),some (.seq (qs.map fr)),some (.lst (cr [] ps qs)),none,none,none,none,none] rfl ⟨_,_,_,_,_,rfl⟩
   have sl:sL (vSl (ac 0) (faS (f1 fV (fC (.int 20)))) faN) [some (.seq (ns.map D.int)),some (.seq (ps.map fr)),some (.seq (qs.map fr)),some (.lst (cr [] ps qs)),none,none,none,none,none]=some (cs.map D.int,[some (.seq (ns.map D.int)),some (.seq (ps.map fr)),some (.seq (qs.map fr)),some (.lst (cr [] ps qs)),none,none,none,none,none]):=by
    unfold sL vSl
    have z:fSl (ac 0) (faS (f1 fV (fC (.int 20)))) faN [some (.seq (ns.map D.int)),some (.seq (ps.map fr)),some (.seq (qs.map fr)),some (.lst (cr [] ps qs)),none,none,none,none,none]=some (.lst (cs.map D.int)):=by
     rw [<- h.cut]
     rfl
    rw [z]
    show ((gN (.lst (cs.map D.int)) _).bind _)=_
    unfold gN
    dsimp only
    rw [if_pos (nZ cs)]
    show (match sh (.lst (cs.map D.int)) with | .seq ds=>some (ds,_) | _=>none)=_
    rw [sh,eR]
   exact dB (aq (eJ (d:=.lst (cr [] ps qs)) rfl) (aq (bV sl w) (ce (gE rfl))))
theorem qe:aA ["part","bound","limit"] ["part","bound"] (aj kU):=⟨rfl,rfl,rfl,by decide +kernel,rfl,by decide +kernel,by decide +kernel⟩
theorem ww (F:Fun K "keeps" "keeps" kU f fd)  (hfractionD:rA P w K mg base 3 "fraction" ["top","bottom"] [1] (fn bf)) (hless:Has P w K mg base 1 "less" ["one","other"] (fn fg))  :FnOk P w K mg base CX0 4 f fd ["part","bound"] (bh K 2 (fn gX)):=by
 have sc:=qe
 refine bE F qe (fun cdv A outer s H E ds d hr hG hl=>?_)
 obtain ⟨⟨a,b⟩,c,hp,hc,rfl,rfl⟩:=aV hG
 refine ⟨_,(aC (cK (dc (ab 1) bW) (aD (aM ki)) bX)
  (aC (bK 2 sc.nd (dU hfractionD hr (ad (ap (ab 1) ag) af)))
  (aC (cK (fF (ap (ab 1) ag)) (aD (aM (ao hless hr (ad (ab 0) (ad (ab 2) af))))) bX)
  (aD (aM (lX (ao hless hr (ad (ab 2) (ad (ab 0) af))))))))),?_⟩
 . show aB ((?f:SD) [some _,some _,none])=_
   rcases c with _ | ⟨n,s⟩
   . rfl
   . have hk:Fk (n,1):=⟨show (0:Int) < 1 by decide,hc,show (1:Int).natAbs < 2 ^ 4000 from Nat.lt_of_lt_of_le (show 1 < 2 ^ 1 by decide) (Nat.pow_le_pow_right (by decide) (by decide))⟩
     have l1:fn fg [fr (a,b),.tup [.int n,.int 1]]=some (.bl (decide (a*1 < n*b))):=e2 (op:=fun p q=>.bl (decide (p.1*q.2 < q.1*p.2))) hp hk
     have l2:fn fg [.tup [.int n,.int 1],fr (a,b)]=some (.bl (decide (n*b < a*1))):=e2 (op:=fun p q=>.bl (decide (p.1*q.2 < q.1*p.2))) hk hp
     cases s
     . simp only [aB,bc,cE,ay,c6,eV,sIf,ac,fC,f2,f1,fT,asB,sg,ae,aa,ah,cN,eE,Zc,Zd,Ze,Zf,Zg,cG,cO,bq,bu,l1,l2]
       rfl
     . simp only [aB,bc,cE,ay,c6,eV,sIf,ac,fC,f2,fT,asB,ae,aa,ah,cN,eE,Zc,Zd,Ze,Zf,Zg,cG,cO,bq,bu,l1]
       rfl
theorem lJ:aA ["low","high"] ["low","high"] (aj iF):=⟨rfl,rfl,rfl,by decide +kernel,rfl,by decide +kernel,by decide +kernel⟩
theorem rV (F:Fun K "between" "between" iF f fd)  (htimes:Has P w K mg base 2 "times" ["one","other"] (fn uk)) (hfraction:Has P w K mg base 3 "fraction" ["top","bottom"] (fn bf)) (hfractionD:rA P w K mg base 3 "fraction" ["top","bottom"] [1] (fn bf)) (hminus:Has P w K mg base 3 "minus" ["one","other"] (fn lr)) (hplus:Has P w K mg base 3 "plus" ["one","other"] (fn sE))  :FnOk P w K mg base CX0 4 f fd ["low","high"] (bh K 2 (fn j9)):=by
 have sc:=lJ
 refine bE F lJ (fun cdv A outer s H E ds d hr hG hl=>?_)
 obtain ⟨lo,hi,h1,h2,rfl,rfl⟩:=aV hG
 refine ⟨_,(aC (cK (PWD.pt (tt (dc (ab 0) bW) (qr (dc (ab 1) bW)))) (aD (aM (dU hfractionD hr (ad ag af)))) bX)
  (aC (cK (dc (ab 0) bW) (aD (aM (ao hminus hr (ad (ab 1) (ad (dU hfractionD hr (ad ag af)) af))))) bX)
  (aC (cK (dc (ab 1) bW) (aD (aM (ao hplus hr (ad (ab 0) (ad (dU hfractionD hr (ad ag af)) af))))) bX)
  (aD (aM (ao htimes hr (ad (ao hplus hr (ad (ab 0) (ad (ab 1) af))) (ad (ao hfraction hr (ad ag (ad ag af))) af)))))))),?_⟩
 . show aB ((?f:SD) [some _,some _])=_
   have o1:Flw ((1,1):Int×Int):=⟨⟨by decide,(by show (1:Int).natAbs < 2 ^ 4000;exact Nat.one_lt_two_pow (by decide)),(by show (1:Int).natAbs < 2 ^ 4000;exact Nat.one_lt_two_pow (by decide))⟩,⟨by decide,by decide⟩⟩
   have o2:Flw ((1,2):Int×Int):=⟨⟨by decide,o1.s1,Nat.lt_of_lt_of_le (show (2:Int).natAbs < 2 ^ 2 by decide) (Nat.pow_le_pow_right (by decide) (by decide))⟩,⟨by decide,by decide⟩⟩
   cases lo with
   | none=>cases hi with
    | none=>simp only [aB,bc,cE,ay,c6,sIf,ac,fC,f2,fT,asB,fO,ae,aa,ah,Zc,Zd,Ze,cO,bq,opD,cO,bq,bu];rfl
    | some h=>simp only [aB,bc,cE,ay,c6,sIf,ac,fC,f2,fT,asB,fO,ae,aa,ah,Zc,Zd,Ze,cO,bq,opD,cO,bq,bu,e2w (op:=fun p q=>fr (mi p q)) (Flw.of (h2 h rfl)) o1];rfl
   | some l=>cases hi with
    | none=>simp only [aB,bc,cE,ay,c6,sIf,ac,fC,f2,fT,asB,fO,ae,aa,ah,Zc,Zd,Ze,cO,bq,opD,cO,bq,bu,e2w (op:=fun p q=>fr (pl p q)) (Flw.of (h1 l rfl)) o1];rfl
    | some h =>
     have e1:=e2w (op:=fun p q=>fr (pl p q)) (Flw.of (h1 l rfl)) (Flw.of (h2 h rfl))
     have e3:=e2w (op:=fun p q=>fr (ti p q)) (Flw.of ((h1 l rfl).pl (h2 h rfl))) o2
     have e4:fn bf [.int 1,.int 2]=some (fr (1,2)):=mQ (t:=1) (b:=2) (by decide) cv
     simp only [aB,bc,cE,ay,c6,sIf,ac,fC,f2,fT,asB,fO,ae,aa,ah,Zc,Zd,Ze,cO,bq,opD,cO,bq,e1,e3,e4];rfl
theorem g6:aA ["bounds","ways","middle","thing","total"] ["bounds","ways","middle"] (aj dM):=⟨rfl,rfl,rfl,by decide +kernel,rfl,by decide +kernel,by decide +kernel⟩
theorem kC (F:Fun K "ring_through" "ring_through" dM f fd)  (hbound_sum:Has P w K mg base 1 "bound_sum" ["one","other"] (fn bP)) (hkeeps:Has P w K mg base 4 "keeps" ["part","bound"] (fn gX)) (hfractionD:rA P w K mg base 3 "fraction" ["top","bottom"] [1] (fn bf))  (m_range:mg "range" = none) (m_len:mg "len" = none):FnOk P w K mg base CX0 5 f fd ["bounds","ways","middle"] (bU K 3 (fn d5)):=by
 have sc:=g6
 refine cc F g6 (fun cdv A outer s H E ds d hr hG hl=>?_)
 obtain ⟨d0,d1,n,m,f,p,ok,h0,h1,rfl,rfl⟩:=aV hG
 have hown:=tH n f p m
 refine ⟨_,(av (di 3 sc.nd PassesOwn.never rfl (be rfl m_range (ad (bg aP cZ rfl m_len PySem.boot_len (ad (ab 0) af)) af))
  (av (aZ 4 sc.nd (aR (ao hbound_sum hr (ad (ap (ap (ab 0) (ab 3)) (ab 2)) (ad (ap (ap (ab 0) (ab 2)) (ab 3)) af)))))
  (aK (gi (jB (fF (ao hkeeps hr (ad (dU hfractionD hr (ad ag af)) (ad (ab 4) af))))) (aK (bS (kW (ap (ap (ab 1) (ab 3)) (ab 2)) (ap (ap (ab 1) (ab 2)) (ab 3))))) dR))))
  (aK (bS (aR bW)))),?_,?own⟩
 case own=>first | rfl | exact hown
 . show aB ((?f:SD) (aJ 5 _))=_
   have e0:aJ 5 [d0,d1,.int (m:Int)]=[some (aG (aS n f)),some (.seq (eP n p)),some (.int (m:Int)),none,none]:=by
    show [some (sh d0),some (sh d1),some (sh (.int (m:Int))),none,none]=_
    rw [show sh d0=_ from h0,h1]
    rfl
   rw [e0]
   have hm:=ok.mn
   have hn:=ok.n41
   have len:dr [aG (aS n f)]=some (.int (n:Int)):=pB (bC n f)
   have hv:=fun o1 o2:Option D=>eI (g:=aa (ah dr (aa (ac 0) ae)) ae) (δ:=[some (aG (aS n f)),some (.seq (eP n p)),some (.int (m:Int)),o1,o2]) (n:=n) (by simp only [ac,ae,aa,ah,Zc,Zd,len]) (by omega)
   have fo:Fk (0,1):=Fk.of (iA (k:=200) (by decide))
   obtain ⟨k1,k2⟩:=lj (i:=3) (s:=((ay (aw 4 (vI (ah (fn bP) (aa (f2 gIx (f2 gIx (ac 0) (ac 3)) (ac 2)) (aa (f2 gIx (f2 gIx (ac 0) (ac 2)) (ac 3)) ae))))) (sIf (gj (fT (ah (fn gX) (aa (ah (dfl (fn bf) [1]) (aa (fC (.int 0)) ae)) (aa (ac 4) ae))))) (eT (gu (f2 gIx (f2 gIx (ac 1) (ac 3)) (ac 2)) (f2 gIx (f2 gIx (ac 1) (ac 2)) (ac 3)))) bc)))) (f:=fun (i:Nat)=>D.int (i:Int)) (fun _ δ=>∃ o1 o2,δ=[some (aG (aS n f)),some (.seq (eP n p)),some (.int (m:Int)),o1,o2]) (kL f p m) (List.range n) (by
    rintro pre t post _ hx ⟨o1,o2,rfl⟩
    obtain ⟨rfl,ht⟩:=bJ hx
    generalize pre.length=t at *
    obtain ⟨r1,q1,q2⟩:=j6 (bC n f) ht hm
    obtain ⟨r2,q3,q4⟩:=j6 (bC n f) hm ht
    rw [bG f ht hm] at q2
    rw [bG f hm ht] at q4
    obtain ⟨w1,w2⟩:=qI p ht hm
    obtain ⟨w3,w4⟩:=qI p hm ht
    have kk:=pJ (p:=(0,1)) (b:=bs (f t m) (f m t)) fo (((ok.bk t m ht hm).sum (ok.bk m t hm ht)).mono (by decide))
    have s1:((aw 4 (vI (ah (fn bP) (aa (f2 gIx (f2 gIx (ac 0) (ac 3)) (ac 2)) (aa (f2 gIx (f2 gIx (ac 0) (ac 2)) (ac 3)) ae)))))) [some (aG (aS n f)),some (.seq (eP n p)),some (.int (m:Int)),some (.int (t:Int)),o2]=some (.nx [some (aG (aS n f)),some (.seq (eP n p)),some (.int (m:Int)),some (.int (t:Int)),some (bdD (bs (f t m) (f m t)))]):=eJ (bj (d:=bdD (bs (f t m) (f m t))) (by simp only [ac,f2,ae,aa,ah,Zc,Zd,Ze,q1,q2,q3,q4,ko]) (jb _))
    unfold kL
    cases hk:kp (0,1) (bs (f t m) (f m t)) with
    | true =>
     refine ⟨fun _=>⟨_,aq s1 (df (by simp only [ac,fC,fT,asB,gj,ae,aa,ah,Zc,Option.map_some,Zd,Ze,Bool.not_true,bu,kk,hk]) rfl),_,_,rfl⟩,fun d z=>?_⟩
     rw [if_pos rfl] at z
     cases z
    | false =>
     refine ⟨fun z=>?_,fun d z=>?_⟩
     . rw [if_neg (by decide)] at z
       cases z
     . rw [if_neg (by decide)] at z
       cases z
       refine aq s1 (dI (by simp only [ac,fC,fT,asB,gj,ae,aa,ah,Zc,Option.map_some,Zd,Ze,Bool.not_false,bu,kk,hk]) (sS (d:=.lst (bA (p t m++p m t))) ?_))
       have l1:=ok.ln t m ht hm
       have l2:=ok.ln m t hm ht
       have ei:bA (p t m++p m t)=bA (p t m)++bA (p m t):=List.map_append
       rw [ei]
       exact oz (a:=.seq (bA (p t m))) (b:=.seq (bA (p m t))) (by simp only [ac,f2,Zc,Zd,Ze,w1,w2]) (by simp only [ac,f2,Zc,Zd,Ze,w3,w4]) rfl rfl (by unfold bA;rw [Zi,Zi];omega) (by rw [<- ei];exact mI _)) (List.range n) [] [some (aG (aS n f)),some (.seq (eP n p)),some (.int (m:Int)),none,none] rfl ⟨_,_,rfl⟩
   unfold rgt
   cases hb:aQ (kL f p m) [] (List.range n) with
   | none =>
    obtain ⟨_,w,o1,o2,rfl⟩:=k1 hb
    exact dB (aq (bV (hv _ _) w) (ce (bj rfl)))
   | some d=>exact dB (gG (bV (hv _ _) (k2 d hb)))
theorem g4:aA ["bounds","placed","thing","lows","highs"] ["bounds","placed","thing"] (aj dL):=⟨rfl,rfl,rfl,by decide +kernel,rfl,by decide +kernel,by decide +kernel⟩
theorem kB (F:Fun K "value_beside" "value_beside" dL f fd)  (hbetween:Has P w K mg base 4 "between" ["low","high"] (fn j9)) (hminus:Has P w K mg base 3 "minus" ["one","other"] (fn lr)) (hplus:Has P w K mg base 3 "plus" ["one","other"] (fn sE)) (hgreatest:Has P w K mg base 2 "greatest" ["parts"] (fn jf)) (hleast:Has P w K mg base 2 "least" ["parts"] (fn pT)) (hfractionD:rA P w K mg base 3 "fraction" ["top","bottom"] [1] (fn bf))  :FnOk P w K mg base CX0 5 f fd ["bounds","placed","thing"] (bU K 3 (fn ck)):=by
 have sc:=g4
 refine cc F g4 (fun cdv A outer s H E ds d hr hG hl=>?_)
 obtain ⟨T,n,ps,t,h,rfl,rfl⟩:=aV hG
 have hown:own (fr (dw (ak T) ps t))=true:=rfl
 refine ⟨_,(av (qu 3 sc.nd (by exact (qw (ab 1))) (T:=["j"]) (N:=["j","bounds","placed","thing"]) (js:=[0,1,2]) (cl:=[("thing",_),("placed",_),("bounds",_)]) (fun _ _ _ _ _=>by exact (jD 0 (show List.Nodup (["j","bounds","placed","thing"]:List Str) from by decide +kernel))) (og 0 (by decide)) (fun _ _ _ _ _=>by exact (tF (jA (ap (ap (ab 1) (ab 0)) (ab 3)) bW))) (fun _ _ _ _ _=>by exact (aR (ao hminus hr (ad (kZ (n6 hr) (ab 2) (ab 0)) (ad (dU hfractionD hr (ad (ap (ap (ap (ab 1) (ab 0)) (ab 3)) ag) af)) af))))) (by exact CompG.of (T:=["j"]) (Z:=["bounds","placed","thing"]) (Y:=["thing","placed","bounds"]) (hcl:=(by intro p hp;simp only [Zo,List.not_mem_nil,or_false] at hp;rcases hp with rfl | rfl | rfl <;> rfl)) (hN:=(by intro i y j h1 h2;match i,h1,h2 with | 0,h1,h2=>cases h1;cases h2;exact ⟨rfl,rfl,rfl⟩ | 1,h1,h2=>cases h1;cases h2;exact ⟨rfl,rfl,rfl⟩ | 2,h1,h2=>cases h1;cases h2;exact ⟨rfl,rfl,rfl⟩ | n+3,h1,h2=>cases h1))))
  (av (qu 4 sc.nd (by exact (qw (ab 1))) (T:=["j"]) (N:=["j","bounds","placed","thing"]) (js:=[0,1,2]) (cl:=[("thing",_),("placed",_),("bounds",_)]) (fun _ _ _ _ _=>by exact (jD 0 (show List.Nodup (["j","bounds","placed","thing"]:List Str) from by decide +kernel))) (og 0 (by decide)) (fun _ _ _ _ _=>by exact (tF (jA (ap (ap (ab 1) (ab 3)) (ab 0)) bW))) (fun _ _ _ _ _=>by exact (aR (ao hplus hr (ad (kZ (n6 hr) (ab 2) (ab 0)) (ad (dU hfractionD hr (ad (ap (ap (ap (ab 1) (ab 3)) (ab 0)) ag) af)) af))))) (by exact CompG.of (T:=["j"]) (Z:=["bounds","placed","thing"]) (Y:=["thing","placed","bounds"]) (hcl:=(by intro p hp;simp only [Zo,List.not_mem_nil,or_false] at hp;rcases hp with rfl | rfl | rfl <;> rfl)) (hN:=(by intro i y j h1 h2;match i,h1,h2 with | 0,h1,h2=>cases h1;cases h2;exact ⟨rfl,rfl,rfl⟩ | 1,h1,h2=>cases h1;cases h2;exact ⟨rfl,rfl,rfl⟩ | 2,h1,h2=>cases h1;cases h2;exact ⟨rfl,rfl,rfl⟩ | n+3,h1,h2=>cases h1))))
  (aK (bS (aR (ao hbetween hr (ad (ao hgreatest hr (ad (ab 3) af)) (ad (ao hleast hr (ad (ab 4) af)) af)))))))),?_,?own⟩
 case own=>first | rfl | exact hown
 . show aB ((?f:SD) (aJ 5 _))=_
   have e0:aJ 5 [aG T,plD ps,.int ((t:Nat):Int)]=[some (aG T),some (plD ps),some (.int ((t:Nat):Int)),none,none]:=by
    show [some (sh (aG T)),some (sh (plD ps)),some (.int ((t:Nat):Int)),none,none]=_
    rw [kQ,rJ]
   rw [e0]
   have le:ps.filterMap (fun p=>((ak T p.1 t).map fun b=>fr (mi p.2 (b.1,1))))=(dq (ak T) ps t).map fr:=by
    unfold dq
    rw [List.map_filterMap]
    congr 1
    funext p
    cases ak T p.1 t <;> rfl
   have he:ps.filterMap (fun p=>((ak T t p.1).map fun b=>fr (pl p.2 (b.1,1))))=(cV (ak T) ps t).map fr:=by
    unfold cV
    rw [List.map_filterMap]
    congr 1
    funext p
    cases ak T t p.1 <;> rfl
   have lf:=wB h
   have hf:=yA h
   have g1:=ss (x:=.lst ((dq (ak T) ps t).map fr)) rfl (fun p m=>Fk.of (lf p m))
   have g2:=yN (x:=.lst ((cV (ak T) ps t).map fr)) rfl (fun p m=>Fk.of (hf p m))
   have g3:=u6 (lo:=gre (dq (ak T) ps t) none) (hi:=lea (cV (ak T) ps t) none) (fun p e=>(k7 e).elim (fun z=>lf p z) fun z=>nomatch z) (fun p e=>(k5 e).elim (fun z=>hf p z) fun z=>nomatch z)
   refine dB (aq (aX (d:=.lst ((dq (ak T) ps t).map fr)) (δ':=[some (aG T),some (plD ps),some (.int ((t:Nat):Int)),none,none]) ?lows) (aq (aX (d:=.lst ((cV (ak T) ps t).map fr)) (δ':=[some (aG T),some (plD ps),some (.int ((t:Nat):Int)),some (.lst ((dq (ak T) ps t).map fr)),none]) ?highs) (ce (δ':=[some (aG T),some (plD ps),some (.int ((t:Nat):Int)),some (.lst ((dq (ak T) ps t).map fr)),some (.lst ((cV (ak T) ps t).map fr))]) ?_)))
   case lows =>
    rw [<- le]
    refine iP (f:=fun p:Nat×(Int×Int)=>D.int ((p.1:Nat):Int)) (h:=fun p=>((ak T p.1 t).map fun b=>fr (mi p.2 (b.1,1)))) (xs:=ps) ?hs (fun p m=>?_) (Nat.le_trans h.len (by decide))
    case hs =>
     show some ((ps.map fun p=>((p.1:Nat):Int)).map D.int)=_
     rw [List.map_map]
     rfl
    have bb:=h.bd p.1 t
    obtain ⟨r,i1,i2⟩:=j6 h.sq (h.lt p m) h.ht
    have gp:=wR h.nd (show (p.1,p.2)∈ps from m)
    rcases q:ak T p.1 t with _ | ⟨k,s⟩
    . refine pX (δ1:=[some (.int ((p.1:Nat):Int)),some (aG T),some (plD ps),some (.int ((t:Nat):Int))]) rfl ?_
      rw [q] at i2
      simp only [ac,fC,f2,fT,asB,Zc,Zd,Ze,Bool.not_true,bq,i1,i2,hU,bq,bdD]
    . rw [q] at i2 bb
      refine nv (δ1:=[some (.int ((p.1:Nat):Int)),some (aG T),some (plD ps),some (.int ((t:Nat):Int))]) rfl ?_ ?_
      . simp only [ac,fC,f2,fT,asB,Zc,Zd,Ze,Bool.not_false,bq,i1,i2,hU,bq,bdD]
      . refine pe (δ':=[some (.int ((p.1:Nat):Int)),some (aG T),some (plD ps),some (.int ((t:Nat):Int))]) ?_ rfl
        show vI _ [some (.int ((p.1:Nat):Int)),some (sh (aG T)),some (sh (plD ps)),some (.int ((t:Nat):Int))]=_
        rw [kQ,rJ]
        refine bj ?_
        have e5:=e2w (op:=fun p q=>fr (mi p q)) (Flw.of (h.fr p m)) (wX bb)
        have e6:gIx (bdD (some (k,s))) (.int 0)=some (.int k):=rfl
        simp only [ac,fC,f2,ae,aa,ah,cN,Zc,Zd,Ze,cG,i1,i2,gp,bu,e5]
   case highs =>
    rw [<- he]
    show lA _ _ _ _ _ _ [some (aG T),some (plD ps),some (.int ((t:Nat):Int)),some (.lst ((dq (ak T) ps t).map fr)),none]=_
    refine iP (f:=fun p:Nat×(Int×Int)=>D.int ((p.1:Nat):Int)) (h:=fun p=>((ak T t p.1).map fun b=>fr (pl p.2 (b.1,1)))) (xs:=ps) ?hs (fun p m=>?_) (Nat.le_trans h.len (by decide))
    case hs =>
     show some ((ps.map fun p=>((p.1:Nat):Int)).map D.int)=_
     rw [List.map_map]
     rfl
    have bb:=h.bd t p.1
    obtain ⟨r,i1,i2⟩:=j6 h.sq h.ht (h.lt p m)
    have gp:=wR h.nd (show (p.1,p.2)∈ps from m)
    rcases q:ak T t p.1 with _ | ⟨k,s⟩
    . refine pX (δ1:=[some (.int ((p.1:Nat):Int)),some (aG T),some (plD ps),some (.int ((t:Nat):Int))]) rfl ?_
      rw [q] at i2
      simp only [ac,fC,f2,fT,asB,Zc,Zd,Ze,Bool.not_true,bq,i1,i2,hU,bq,bdD]
    . rw [q] at i2 bb
      refine nv (δ1:=[some (.int ((p.1:Nat):Int)),some (aG T),some (plD ps),some (.int ((t:Nat):Int))]) rfl ?_ ?_
      . simp only [ac,fC,f2,fT,asB,Zc,Zd,Ze,Bool.not_false,bq,i1,i2,hU,bq,bdD]
      . refine pe (δ':=[some (.int ((p.1:Nat):Int)),some (aG T),some (plD ps),some (.int ((t:Nat):Int))]) ?_ rfl
        show vI _ [some (.int ((p.1:Nat):Int)),some (sh (aG T)),some (sh (plD ps)),some (.int ((t:Nat):Int))]=_
        rw [kQ,rJ]
        refine bj ?_
        have e5:=e2w (op:=fun p q=>fr (pl p q)) (Flw.of (h.fr p m)) (wX bb)
        have e6:gIx (bdD (some (k,s))) (.int 0)=some (.int k):=rfl
        simp only [ac,fC,f2,ae,aa,ah,cN,Zc,Zd,Ze,cG,i1,i2,gp,bu,e5]
   . show vI _ [some (aG T),some (plD ps),some (.int ((t:Nat):Int)),some (.lst ((dq (ak T) ps t).map fr)),some (.lst ((cV (ak T) ps t).map fr))]=_
     refine bj ?_
     simp only [ac,ae,aa,ah,Zc,Zd,Ze,g1,g2,g3]
     rfl
theorem nJ:aA ["table","thing","bounds","ways","middle","ring"] ["table"] (aj jx):=⟨rfl,rfl,rfl,by decide +kernel,rfl,by decide +kernel,by decide +kernel⟩
theorem uN (F:Fun K "closed" "closed" jx f fd)  (hwith_noughts:HasF P w K mg base 2 "with_noughts" ["table"] (fn fQ)) (hstraight_ways:HasF P w K mg base 1 "straight_ways" ["size"] (fn ff)) (hring_through:HasF P w K mg base 5 "ring_through" ["bounds","ways","middle"] (fn d5)) (hlead_through:AN P w K mg base 2 "lead_through" ["bounds","ways","middle"] (fnM d6)) (hkeeps:Has P w K mg base 4 "keeps" ["part","bound"] (fn gX)) (hfractionD:rA P w K mg base 3 "fraction" ["top","bottom"] [1] (fn bf))  (m_range:mg "range" = none) (m_len:mg "len" = none):FnOk P w K mg base CX0 6 f fd ["table"] (bU K 1 (fn jP)):=by
 have sc:=nJ
 refine cc F nJ (fun cdv A outer s H E ds d hr hG hl=>?_)
 obtain ⟨d0,T,n,hT,hs,hn,hB,rfl,rfl⟩:=aV hG
 have hown:=kj n T
 refine ⟨_,(av (di 1 sc.nd PassesOwn.never rfl (be rfl m_range (ad (bg aP cZ rfl m_len PySem.boot_len (ad (ab 0) af)) af))
  (aK (gi (jB (fF (ao hkeeps hr (ad (dU hfractionD hr (ad ag af)) (ad (ap (ap (ab 0) (ab 1)) (ab 1)) af))))) (aK (bS (lQ (bt (aR jY) (bt (gm (bt (bD 1) cy)) cy))))) dR)))
  (av (aZ 2 sc.nd (cT hwith_noughts hr (ad (ab 0) af)))
  (av (aZ 3 sc.nd (cT hstraight_ways hr (ad (bg aP cZ rfl m_len PySem.boot_len (ad (ab 0) af)) af)))
  (av (di 4 sc.nd PassesOwn.never rfl (be rfl m_range (ad (bg aP cZ rfl m_len PySem.boot_len (ad (ab 0) af)) af))
   (av (aZ 5 sc.nd (cT hring_through hr (ad (ab 2) (ad (ab 3) (ad (ab 4) af)))))
   (av (gi (jA (ab 5) bW) (aK (bS (lQ (bt (aR jY) (bt (bD 5) cy))))) dR)
   (aK (v7 2 3 hlead_through hr (dW (pvi 2) (dW (pvi 3) (ad (ab 4) af))))))))
  (aK (bS (lQ (bt (aR jY) (bt (bD 2) cy))))))))),?_,?own⟩
 case own=>first | rfl | exact hown
 . show aB ((?f:SD) (aJ 6 _))=_
   have e0:aJ 6 [d0]=[some (aG T),none,none,none,none,none]:=by
    show [some (sh d0),none,none,none,none,none]=_
    rw [show sh d0=aG T from hT]
   rw [e0]
   have len:dr [aG T]=some (.int (n:Int)):=pB hs
   have hv:=fun o1 o2 o3 o4 o5:Option D=>eI (g:=aa (ah dr (aa (ac 0) ae)) ae) (δ:=[some (aG T),o1,o2,o3,o4,o5]) (n:=n) (by simp only [ac,ae,aa,ah,Zc,Zd,len]) (by omega)
   have fo:Fk (0,1):=Fk.of (iA (k:=200) (by decide))
   obtain ⟨k1,k2⟩:=lj (i:=1) (s:=((sIf (gj (fT (ah (fn gX) (aa (ah (dfl (fn bf) [1]) (aa (fC (.int 0)) ae)) (aa (f2 gIx (f2 gIx (ac 0) (ac 1)) (ac 1)) ae))))) (eT (m5 (bn (vI (fC (.str "ring"))) (bn (iM (bn (bI 1) fS)) fS)))) bc))) (f:=fun (i:Nat)=>D.int (i:Int)) (fun _ δ=>∃ o1,δ=[some (aG T),o1,none,none,none,none]) (pQ T) (List.range n) (by
    rintro pre t post _ hx ⟨o1,rfl⟩
    obtain ⟨rfl,ht⟩:=bJ hx
    generalize pre.length=t at *
    obtain ⟨r1,q1,q2⟩:=j6 hs ht ht
    have kk:=pJ (p:=(0,1)) (b:=ak T t t) fo ((hB t t).mono (by decide))
    unfold pQ
    cases hk:kp (0,1) (ak T t t) with
    | true =>
     refine ⟨fun _=>⟨_,df (by simp only [ac,fC,f2,fT,asB,gj,ae,aa,ah,Zc,Option.map_some,Zd,Ze,Zf,Zg,Bool.not_true,bu,q1,q2,oH,kk,hk]) rfl,some (.int (t:Int)),rfl⟩,fun d z=>?_⟩
     rw [if_pos rfl] at z
     cases z
    | false =>
     refine ⟨fun z=>?_,fun d z=>?_⟩
     . rw [if_neg (by decide)] at z
       cases z
     . rw [if_neg (by decide)] at z
       cases z
       exact dI (by simp only [ac,fC,f2,fT,asB,gj,ae,aa,ah,Zc,Option.map_some,Zd,Ze,Zf,Zg,Bool.not_false,bu,q1,q2,oH,kk,hk]) (sS rfl)) (List.range n) [] [some (aG T),none,none,none,none,none] rfl ⟨_,rfl⟩
   obtain ⟨c,hc⟩:∃ c,c=cz T:=⟨_,rfl⟩
   have hcd:∀ i,i < n->c i i=b0:=fun i _=>by rw [hc];exact if_pos rfl
   have hcb:∀ i j,Bk 2000 (c i j):=by rw [hc];exact BZ hB
   have lp:=fun o1:Option D=>lj (i:=4) (s:=((ay (aw 5 (cW (fn d5) (aa (ac 2) (aa (ac 3) (aa (ac 4) ae))))) (ay (sIf (fT (f2 hU (ac 5) (fC .non))) (eT (m5 (bn (vI (fC (.str "ring"))) (bn (bI 5) fS)))) bc) (lK 2 3 (fnM d6) (aa (ac 4) ae)))))) (f:=fun (i:Nat)=>D.int (i:Int)) (fun pre δ=>∃ o1 o4 o5,St n c pre.length/\δ=[some (aG T),o1,some (aE (aS n (dm c pre.length))),some (.lst (aN n (pw c pre.length))),o4,o5]) (pR n c) (List.range n) (by
    rintro pre m post _ hx ⟨o1,o4,o5,st,rfl⟩
    obtain ⟨rfl,hm⟩:=bJ hx
    rw [Zh,List.length_singleton]
    generalize pre.length=m at *
    have rt:=st.rt hcb hn hm
    have er:=mO rt (gP (aS n (dm c m))) (by rw [sh,lG]:sh (.lst (aN n (pw c m)))=.seq (eP n (pw c m)))
    have ow:=tH n (dm c m) (pw c m) m
    unfold pR
    rcases oM (n:=n) (m:=m) (dm c m) (pw c m) with e | ⟨t,ht,e,bad⟩
    . have ok:=sZ e
      have st':=sQ st hm ok
      have el:=mP rt (st.fw.dia m hm)
      rw [e] at er ow ⊢
      refine ⟨fun _=>⟨[some (aG T),o1,some (aE (aS n (dm c (m+1)))),some (.lst (aN n (pw c (m+1)))),some (.int (m:Int)),some .non],aq (eJ (cX (ds:=[aE (aS n (dm c m)),.lst (aN n (pw c m)),.int (m:Int)]) rfl er ow)) (aq (df rfl rfl) ?_),_,_,_,st',rfl⟩,fun d z=>by cases z⟩
      exact vx (i:=2) (j:=3) (xs:=bo (aS n (dm c m))) (ys:=aN n (pw c m)) (es:=[.int (m:Int)]) (d0:=aE (aS n (dm c (m+1)))) (d1:=.lst (aN n (pw c (m+1)))) rfl rfl rfl el rfl (bY _) (l4 _ _) (by decide)
    . rw [e] at er ow ⊢
      refine ⟨(fun z=>by cases z),fun d z=>?_⟩
      cases z
      exact aq (eJ (cX (ds:=[aE (aS n (dm c m)),.lst (aN n (pw c m)),.int (m:Int)]) rfl er ow)) (gG (dI rfl (ce rfl)))) (List.range n) [] [some (aG T),o1,some (aE (aS n (dm c 0))),some (.lst (aN n (pw c 0))),none,none] rfl ⟨_,_,_,sP hcd,rfl⟩
   unfold dZ
   rw [<- hc]
   cases hb:aQ (pQ T) [] (List.range n) with
   | some d=>exact dB (gG (bV (hv _ _ _ _ _) (k2 d hb)))
   | none =>
    obtain ⟨_,w,o1,rfl⟩:=k1 hb
    obtain ⟨l1,l2⟩:=lp o1
    have ew:=mM (gO T) hs hn
    rw [<- hc] at ew
    refine dB (aq (bV (hv _ _ _ _ _) w) (aq (aX (cX (ds:=[aG T]) rfl ew (bY _))) (aq (aX (cX (ds:=[.int (n:Int)]) (by simp only [ac,ae,aa,ah,Zc,Zd,Zf,Zg,len]) (kJ hn) (l4 _ _))) ?_)))
    dsimp only [List.set_cons_zero,List.set_cons_succ]
    cases hr2:aQ (pR n c) [] (List.range n) with
    | some d=>exact gG (bV (hv _ _ _ _ _) (l2 d hr2))
    | none =>
     obtain ⟨_,w2,o1',o4,o5,st,rfl⟩:=l1 hr2
     rw [List.length_range] at w2
     exact aq (bV (hv _ _ _ _ _) w2) (ce (by rfl))
theorem nH:aA ["bounds","values","placed","thing"] ["bounds","values"] (aj jv):=⟨rfl,rfl,rfl,by decide +kernel,rfl,by decide +kernel,by decide +kernel⟩
theorem uL (F:Fun K "filled" "filled" jv f fd)  (hminus:Has P w K mg base 3 "minus" ["one","other"] (fn lr)) (hvalue_beside:HasF P w K mg base 5 "value_beside" ["bounds","placed","thing"] (fn ck))  (m_dict:mg "dict" = none) (m_range:mg "range" = none) (m_len:mg "len" = none):FnOk P w K mg base CX0 6 f fd ["bounds","values"] (bU K 2 (fn mZ)):=by
 have sc:=nH
 refine cc F nH (fun cdv A outer s H E ds d hr hG hl=>?_)
 obtain ⟨d0,d1,T,n,ps,h0,h1,h,rfl,rfl⟩:=aV hG
 have hown:own (.lst ((fpt T n ps).map fr))=true:=by rw [own];exact ie _
 refine ⟨_,(av (aZ 2 sc.nd (uC rfl m_dict vf (ad (ab 1) af)))
  (av (di 3 sc.nd PassesOwn.never rfl (be rfl m_range (ad (bg aP cZ rfl m_len PySem.boot_len (ad (ab 0) af)) af))
   (aK (gi (rL (n6 hr) (ab 3) (ab 2)) (aK (xV (n6 hr) 2 (Bu 2 (ao hvalue_beside.has hr (ad (ab 0) (ad (ab 2) (ad (ab 3) af))))) (ab 3))) dR)))
  (aK (bS (oP (by exact (rQ rfl m_range (ad ag (ad (bg aP cZ rfl m_len PySem.boot_len (ad (ab 0) af)) af)))) (N:=["thing","placed"]) (js:=[2]) (cl:=[("placed",_)]) (fun _ _ _ _ _=>by exact (aR (ao hminus hr (ad (kZ (n6 hr) (ab 1) (ab 0)) (ad (kZ (n6 hr) (ab 1) ag) af))))) (by exact CompOk.one)))))),?_,?own⟩
 case own=>first | rfl | exact hown
 . show aB ((?f:SD) (aJ 4 _))=_
   have e0:aJ 4 [d0,d1]=[some (aG T),some (plS ps),none,none]:=by
    show [some (sh d0),some (sh d1),none,none]=_
    rw [show sh d0=_ from h0,h1]
   rw [e0]
   have tl:(dC T).length=n:=by unfold dC;rw [Zi];exact h.sq.len
   obtain ⟨_,w,o,rfl⟩:=cF (i:=3) (s:=((sIf (fT (f2 lb (ac 3) (ac 2))) (qi 2 (ac 3) (vFz 2 (ah (fn ck) (aa (ac 0) (aa (ac 2) (aa (ac 3) ae)))))) bc))) (f:=fun (i:Nat)=>D.int (i:Int)) (fun pre δ=>∃ o,δ=[some (aG T),some (plS ps),some (plO (br (ak T) ps pre.length)),o]) (List.range n) (by
    intro pre x post δ e hP
    obtain ⟨o,rfl⟩:=hP
    obtain ⟨hx,hxn⟩:x=pre.length/\pre.length < n:=by
     have a:=congrArg (fun l=>l[pre.length]?) e
     have b:=congrArg List.length e
     rw [List.length_range,Zh,List.length_cons] at b
     have c:pre.length < n:=by omega
     simp only [List.getElem?_range c,List.getElem?_append_right (Nat.le_refl _),Nat.sub_self,Zd] at a
     exact ⟨(Option.some.inj a).symm,c⟩
    subst hx
    have vb:=h.vb _ hxn
    rw [Zh,List.length_singleton]
    by_cases q:has (br (ak T) ps pre.length) pre.length
    . refine ⟨[some (aG T),some (plS ps),some (plO (br (ak T) ps pre.length)),some (.int (pre.length:Int))],df ?_ rfl,some (.int (pre.length:Int)),by rw [wZ q]⟩
      show asB (.bl (!(lk _ _ _).isSome))=_
      rw [r6,decide_eq_true q];rfl
    . refine ⟨[some (aG T),some (plS ps),some (plO (br (ak T) ps (pre.length+1))),some (.int (pre.length:Int))],dI ?_ ?_,some (.int (pre.length:Int)),rfl⟩
      . show asB (.bl (!(lk _ _ _).isSome))=_
        rw [r6,decide_eq_false q];rfl
      . have ev:vFz 2 (ah (fn ck) (aa (ac 0) (aa (ac 2) (aa (ac 3) ae)))) [some (aG T),some (plS ps),some (plO (br (ak T) ps pre.length)),some (.int (pre.length:Int))]=some (fr (dw (ak T) (br (ak T) ps pre.length) pre.length),[some (aG T),some (plS ps),some (plO (br (ak T) ps pre.length)),some (.int (pre.length:Int))]):=by
         show ((fn ck [aG T,plD (br (ak T) ps pre.length),.int (pre.length:Int)]).bind _)=_
         rw [mN vb]
         rfl
        show qi 2 (ac 3) _ [some (aG T),some (plS ps),some (plO (br (ak T) ps pre.length)),some (.int (pre.length:Int))]=_
        unfold qi
        rw [ev]
        have nk:¬ ((pre.length:Nat):Int)∈(br (ak T) ps pre.length).map fun p=>((p.1:Nat):Int):=fun z=>by
         obtain ⟨p,mp,ep⟩:=Zm.mp z
         have e9:p=(pre.length,p.2):=Prod.ext (by show p.1=pre.length;omega) rfl
         rw [e9] at mp
         exact q ⟨p.2,mp⟩
        show (if (imm _ && decide (((br (ak T) ps pre.length).map fun p=>((p.1:Nat):Int)).length<=999))=true then some (Res.nx [some (aG T),some (plS ps),some (.md (ptK _ _) (ptV _ _ _ _)),some (.int (pre.length:Int))]) else none)=_
        rw [if_pos (by rw [Zi,decide_eq_true (Nat.le_trans vb.len (by decide))];rfl)]
        unfold ptK ptV
        rw [if_neg nk,if_neg nk,yK q]
        unfold plO
        rw [List.map_append,List.map_append]
        rfl) (List.range n) [] [some (aG T),some (plS ps),some (plO ps),none] rfl ⟨none,rfl⟩
   rw [List.length_range] at w
   refine dB (aq (aX (d:=plO ps) (δ':=[some (aG T),some (plS ps),none,none]) ?cp) (aq (bV (δ':=[some (aG T),some (plS ps),some (plO ps),none]) (eI (n:=n) ?len (Nat.le_trans h.n1 (by decide))) w) (ce (δ':=[some (aG T),some (plS ps),some (plO (br (ak T) ps n)),o]) ?_)))
   case cp=>exact if_pos (n5 ps)
   case len =>
    show some [D.int ((dC T).length:Int)]=_
    rw [tl]
   . obtain ⟨z,mz⟩:=h.all 0 h.n0
     have a0:=jd h.nd mz
     have src:nw (aa (fC (.int 1)) (aa (ah dr (aa (ac 0) ae)) ae)) [some (aG T),some (plS ps),some (plO (br (ak T) ps n)),o]=some ((List.range (n - 1)).map fun (i:Nat)=>D.int (((i+1:Nat)):Int)):=by
      have eb:aa (fC (.int 1)) (aa (ah dr (aa (ac 0) ae)) ae) [some (aG T),some (plS ps),some (plO (br (ak T) ps n)),o]=some [.int 1,.int ((dC T).length:Int)]:=rfl
      rw [tl] at eb
      exact ut eb h.n0 (Nat.le_trans h.n1 (by decide))
     unfold fpt
     rw [List.map_map]
     refine jQ (g:=fun i=>fr (mi (atP (br (ak T) ps n) (i+1)) (atP (br (ak T) ps n) 0))) src (fun i m=>?_) ?_
     case refine_2=>rw [List.length_range];have:=h.n1;omega
     . have hi:i+1 < n:=by have:=List.mem_range.mp m;omega
       obtain ⟨v,mv⟩:=h.all (i+1) hi
       have a1:=jd h.nd mv
       rw [a0,a1]
       refine pe (δ':=[some (.int ((i+1:Nat):Int)),some (plS (br (ak T) ps n))]) ?_ rfl
       show vI _ [some (.int ((i+1:Nat):Int)),some (sh (plO (br (ak T) ps n)))]=_
       rw [zA]
       refine bj ?_
       have k1:qT (plS (br (ak T) ps n)) (.int ((i+1:Nat):Int))=some (fr v):=tM h.nd mv
       have k0:qT (plS (br (ak T) ps n)) (.int 0)=some (fr z):=tM (t:=0) h.nd mz
       have e5:=e2w (op:=fun p q=>fr (mi p q)) (Flw.of (h.fr _ mv)) (Flw.of (h.fr _ mz))
       simp only [ac,fC,f2,ae,aa,ah,Zc,Zd,Ze,k1,k0,e5]
theorem eS:aA ["table","answer"] ["table"] (aj ci):=⟨rfl,rfl,rfl,by decide +kernel,rfl,by decide +kernel,by decide +kernel⟩
theorem ig (F:Fun K "closed_or_refused" "closed_or_refused" ci f fd)  (hclosed:HasF P w K mg base 6 "closed" ["table"] (fn jP))  :FnOk P w K mg base CX0 7 f fd ["table"] (bU K 1 (fn c4)):=by
 have sc:=eS
 refine cc F eS (fun cdv A outer s H E ds d hr hG hl=>?_)
 obtain ⟨d0,T,U,n,hT,hs,hn,hb,c,rfl,rfl⟩:=aV hG
 have hown:=bY U
 refine ⟨_,(av (aZ 1 sc.nd (cT hclosed hr (ad (ab 0) af)))
  (av (gi (kX hr.units (ap (ab 1) ag) jY) (aK v6) dR)
  (aK (bS (zN 1 (bD 1) ag))))),?_,?own⟩
 case own=>first | rfl | exact hown
 . show aB ((?f:SD) (aJ 2 _))=_
   have e0:aJ 2 [d0]=[some (aG T),none]:=by
    show [some (sh d0),none]=_
    rw [show sh d0=aG T from hT]
   rw [e0]
   have ec:=mR (gO T) hs hn hb
   rw [c.cl] at ec
   have ho:own (.tup [.str "table",aE U])=true:=by
    show (true && (own (aE U) && true))=true
    rw [bY];rfl
   have i0:gIx (.tup [.str "table",aE U]) (.int 0)=some (.str "table"):=rfl
   have q:du (.str "table") (.str "ring")=some (.bl false):=rfl
   exact dB (aq (eJ (cX (ds:=[aG T]) rfl ec ho)) (aq (df (by simp only [ac,fC,f2,fT,asB,Zc,Zd,Ze,Zf,Zg,i0,q]) rfl) (ce (AR (ds:=[.str "table",aE U]) (d:=aE U) rfl rfl))))
theorem kb:aA ["table"] ["table"] (aj gH):=⟨rfl,rfl,rfl,by decide +kernel,rfl,by decide +kernel,by decide +kernel⟩
theorem qx (F:Fun K "point_of" "point_of" gH f fd)  (hfilled:HasF P w K mg base 6 "filled" ["bounds","values"] (fn mZ)) (hclosed_or_refused:HasF P w K mg base 7 "closed_or_refused" ["table"] (fn c4)) (hfractionD:rA P w K mg base 3 "fraction" ["top","bottom"] [1] (fn bf))  :FnOk P w K mg base CX0 8 f fd ["table"] (bU K 1 (fn fR)):=by
 have sc:=kb
 refine cc F kb (fun cdv A outer s H E ds d hr hG hl=>?_)
 obtain ⟨d0,T,U,n,hT,hs,n0,hn,hb,c,rfl,rfl⟩:=aV hG
 have hown:own (.lst ((fpt U n ps0).map fr))=true:=by rw [own];exact ie _
 refine ⟨_,(aK (bS (cT hfilled hr (ad (ao hclosed_or_refused.has hr (ad (ab 0) af)) (ad (wf ag (dU hfractionD hr (ad ag af))) af))))),?_,?own⟩
 case own=>first | rfl | exact hown
 . show aB ((?f:SD) (aJ 1 _))=_
   have e0:aJ 1 [d0]=[some (aG T)]:=by
    show [some (sh d0)]=_
    rw [show sh d0=aG T from hT]
   rw [e0]
   have ec:=iN (gO T) hs hn (fun i j=>(hb i j).mono (by decide)) c
   have ef:=w9 (d0:=aE U) (d1:=.md [0] [fr (0,1)]) (gP U) (ps:=ps0) rfl (c.fi n0 hn hb)
   exact dB (ce (cX (ds:=[aE U,.md [0] [fr (0,1)]]) (by simp only [ac,fC,ae,aa,ah,Zc,Zd,ec,sk,rD,bu];rfl) ef hown))
theorem vC:aA ["_law_script","_law_one","_law_table","_law_point","_law_word","_law_told"] ["_law_script"] (aj iS):=⟨rfl,rfl,rfl,by decide +kernel,rfl,by decide +kernel,by decide +kernel⟩
theorem Af (F:Fun K "law" "law" iS f fd)  (hLtable_by:HasF P w K mg base 3 "_law_table_by" ["_law_script"] (fn cH)) (hclosed:HasF P w K mg base 6 "closed" ["table"] (fn jP)) (hLpoints:Has P w K mg base 3 "_law_points" ["_law_script","_law_point","_law_told"] (fn cg)) (hpoint_of:HasF P w K mg base 8 "point_of" ["table"] (fn fR)) (hLlies:HasF P w K mg base 2 "_law_lies" ["_law_table","_law_point"] (fn dG))  (m_any:mg "any" = none):FnOk P w K mg base CX0 9 f fd ["_law_script"] (spLaw K):=by
 have sc:=vC
 refine yt F vC (fun cdv A outer s H E ns hr hl=>?_)
 refine ⟨_,(av (vZ [2,3] (cT hLtable_by hr (ad (ab 0) af)) (rR rfl (gy (pgN 2 sc.nd) (gy (pgN 3 sc.nd) oX))))
  (av (vZ [4,5] (cT hclosed hr (ad (ab 2) af)) (rR rfl (gy (pgN 4 sc.nd) (gy (pgN 5 sc.nd) oX))))
  (av (gi (kX hr.units (ab 4) jY) (aK (bS (aR (lX (bg (xl rfl) AC rfl m_any vg (ad (x8 (by exact (jC (ao hLpoints hr (ad (ab 0) (ad (ab 3) (ad (ab 3) af)))))) (N:=["_law_one","_law_table"]) (js:=[2]) (cl:=[("_law_table",_)]) (fun _ _ _ _ _=>by exact (ao hLlies.has hr (ad (ab 1) (ad (ab 0) af)))) (by exact CompOk.one)) af)))))) dR)
  (av (di 1 sc.nd PassesOwn.never rfl (xY (ao hLpoints hr (ad (ab 0) (ad (ab 3) (ad (ao hpoint_of.has hr (ad (ab 2) af)) af)))))
   (aK (gi (xO hr.units (ao hLlies.has hr (ad (ab 2) (ad (ab 1) af))) (ao hLlies.has hr (ad (ab 5) (ad (ab 1) af)))) (aK (bS (aR ki))) dR)))
  (aK (bS (aR (pb hr.units (ao hclosed.has hr (ad (ab 5) af)) (dS (ad jY (ad (ab 5) af))))))))))),?_⟩
 . show aB ((?f:SD) (aJ 6 _))=_
   have e0:aJ 6 [.seq (ns.map D.int)]=[some (.seq (ns.map D.int)),none,none,none,none,none]:=by
    show [some (sh (.seq (ns.map D.int))),none,none,none,none,none]=_
    rw [sh,eR]
   rw [e0]
   obtain ⟨T,ps,hs,hb,hl6,hpf,htb⟩:=kw ns
   have ho:own (.tup [aE T,.lst (ps.map fr)])=true:=by
    show (own (aE T) && (own (.lst (ps.map fr)) && true))=true
    rw [bY,own,ie]
    rfl
   obtain ⟨cs,hcs⟩:=va ns (some (-20)) none
   have hbT:BkT T:=fun i j=>(hb i j).mono (by decide)
   have ec:=mR (gP T) hs (by omega) (fun i j=>(hb i j).mono (by decide))
   have oc:=kj (ps.length+1) T
   have q1:du (.str "ring") (.str "ring")=some (.bl true):=rfl
   have q2:du (.str "table") (.str "ring")=some (.bl false):=rfl
   have fl:∀ (W:List (List Bn)) (d0:D),IsT d0 W->Sq W (ps.length+1)->BkT W->∀ xs:List (Int×Int),xs.length=ps.length->(∀ p∈xs,Fr 1200 p)->∀ d:D,IsP d xs->fn dG [d0,d]=some (.bl (kG W xs)):=fun W d0 hW hq hB xs hx hf d hd=>uZ hW (by rw [hx];exact hq) (by omega) hB hd hf
   rcases mU T (ps.length+1) with ⟨r,cl,no⟩ | ⟨U,cU⟩
   . rw [cl] at ec oc
     have P:Pts ns cs ps ps:=⟨hcs,hl,by omega,rfl,hpf,fun p m=>(hpf p m).mono (by decide)⟩
     have ep:=iX P (gQ ps) (gQ ps)
     have ok:=tw P
     have bad:∀ xs∈m7 cs ps ps,kG T xs=false:=fun xs m=>by
      obtain ⟨l1,l2⟩:=ok xs m
      cases z:kG T xs with
      | false=>rfl
      | true =>
       have:=(pA (by decide) l2).mp z
       rw [l1] at this
       exact absurd this (no _)
     have st1:=p0 (is:=[2,3]) (δ':=[some (.seq (ns.map D.int)),none,none,none,none,none]) (cX (ds:=[.seq (ns.map D.int)]) (g:=aa (ac 0) ae) rfl htb ho) rfl rfl
     have st2:=p0 (is:=[4,5]) (δ':=[some (.seq (ns.map D.int)),none,some (aE T),some (.lst (ps.map fr)),none,none]) (cX (ds:=[aE T]) (g:=aa (ac 2) ae) rfl ec oc) rfl rfl
     refine dB (aq st1 (aq st2 (gG (dI (by simp only [oI,ac,fC,f2,fT,asB,Zc,Zd,Ze,Zf,Zg,q1]) (ce (bj (d:=.bl true) ?_))))))
     have cm:t6 (fun δ=>((ah (fn cg) (aa (ac 0) (aa (ac 3) (aa (ac 3) ae)))) δ).bind asL) [2] (ah (fn dG) (aa (ac 1) (aa (ac 0) ae))) [some (.seq (ns.map D.int)),none,some (aE T),some (.lst (ps.map fr)),some (.str "ring"),some (.lst (bA r))]=some (.lst ((cr cs ps ps).map fun _=>D.bl false)):=by
      unfold t6
      have src:((ah (fn cg) (aa (ac 0) (aa (ac 3) (aa (ac 3) ae)))) [some (.seq (ns.map D.int)),none,some (aE T),some (.lst (ps.map fr)),some (.str "ring"),some (.lst (bA r))]).bind asL=some (cr cs ps ps):=by
       simp only [asL,ac,ae,aa,ah,Zc,Zd,Ze,ep]
      dsimp only
      rw [src]
      dsimp only [Option.bind_some]
      rw [mt (v:=.bl false) fun d m=>by
       obtain ⟨xs,mx,hd⟩:=vY d m
       obtain ⟨l1,l2⟩:=ok xs mx
       have:=fl T (aE T) (gP T) hs hbT xs l1 l2 d hd
       rw [bad xs mx] at this
       simp only [ac,ae,aa,ah,Zc,Zp,List.map_nil,Zd,Ze,bv,this]]
      have lc:=P.cl
      dsimp only [Option.bind_some]
      rw [if_pos (by unfold cr;simp only [Zi,List.length_cons];omega)]
     exact yh cm
   . have P:Pts ns cs ps (fpt U (ps.length+1) ps0):=⟨hcs,hl,by omega,by rw [yq];rfl,hpf,Aw (by omega) (cU.bk600 (by omega) hb) (cU.fi (by omega) (by omega) hb) (rm (by omega) cU.dia)⟩
     have ok:=tw P
     have hbU:BkT U:=fun i j=>(cU.bk600 (by omega) hb i j).mono (by decide)
     have epo:=sr (gP T) hs (by omega) (by omega) hb cU
     have ep:=iX P (gQ ps) (gQ (fpt U (ps.length+1) ps0))
     have same:∀ xs∈m7 cs ps (fpt U (ps.length+1) ps0),kG T xs=kG U xs:=fun xs m=>by
      obtain ⟨l1,l2⟩:=ok xs m
      have a:=pA (T:=T) (by decide) l2
      have b:=pA (T:=U) (by decide) l2
      rw [l1] at a b
      rw [Bool.eq_iff_iff,a,b]
      exact cU.li _
     have ec2:=mR (gO U) cU.sq (by omega) (fun i j=>(cU.bk600 (by omega) hb i j).mono (by decide))
     rw [pN cU.sq cU.dia cU.clo] at ec2
     rw [cU.cl] at ec oc
     have st1:=p0 (is:=[2,3]) (δ':=[some (.seq (ns.map D.int)),none,none,none,none,none]) (cX (ds:=[.seq (ns.map D.int)]) (g:=aa (ac 0) ae) rfl htb ho) rfl rfl
     have st2:=p0 (is:=[4,5]) (δ':=[some (.seq (ns.map D.int)),none,some (aE T),some (.lst (ps.map fr)),none,none]) (cX (ds:=[aE T]) (g:=aa (ac 2) ae) rfl ec oc) rfl rfl
     have src:oA (ah (fn cg) (aa (ac 0) (aa (ac 3) (aa (ah (fn fR) (aa (ac 2) ae)) ae)))) [some (.seq (ns.map D.int)),none,some (aE T),some (.lst (ps.map fr)),some (.str "table"),some (aE U)]=some ((m7 cs ps (fpt U (ps.length+1) ps0)).map fun xs=>.seq (xs.map fr),[some (.seq (ns.map D.int)),none,some (aG T),some (.seq (ps.map fr)),some (.str "table"),some (aG U)]):=by
      unfold oA
      have z:ah (fn cg) (aa (ac 0) (aa (ac 3) (aa (ah (fn fR) (aa (ac 2) ae)) ae))) [some (.seq (ns.map D.int)),none,some (aE T),some (.lst (ps.map fr)),some (.str "table"),some (aE U)]=some (.lst (cr cs ps (fpt U (ps.length+1) ps0))):=by
       simp only [ac,ae,aa,ah,Zc,Zd,Ze,epo,ep]
      rw [z]
      dsimp only [Option.bind_some]
      rw [xE]
      dsimp only
      have e1:sh (aE T)=aG T:=gP T
      have e2:sh (aE U)=aG U:=gP U
      have e3:sh (.lst (ps.map fr))=.seq (ps.map fr):=gQ ps
      have e4:sh (.seq (ns.map D.int))=.seq (ns.map D.int):=by rw [sh,eR]
      show some (_,[some (sh (.seq (ns.map D.int))),none,some (sh (aE T)),some (sh (.lst (ps.map fr))),some (.str "table"),some (sh (aE U))])=_
      rw [e1,e2,e3,e4]
     obtain ⟨_,w,o,rfl⟩:=oa (i:=1) (s:=((sIf (fT (f2 wS (ah (fn dG) (aa (ac 2) (aa (ac 1) ae))) (ah (fn dG) (aa (ac 5) (aa (ac 1) ae))))) (eT (vI (fC (.bl false)))) bc))) (fun δ=>∃ o,δ=[some (.seq (ns.map D.int)),o,some (aG T),some (.seq (ps.map fr)),some (.str "table"),some (aG U)]) ((m7 cs ps (fpt U (ps.length+1) ps0)).map fun xs=>.seq (xs.map fr)) [some (.seq (ns.map D.int)),none,some (aG T),some (.seq (ps.map fr)),some (.str "table"),some (aG U)] ⟨_,rfl⟩ (by
      rintro d hd _ ⟨o,rfl⟩
      obtain ⟨xs,mx,rfl⟩:=Zm.mp hd
      obtain ⟨l1,l2⟩:=ok xs mx
      have a:=fl T (aG T) (gO T) hs hbT xs l1 l2 _ (jI xs)
      have b:=fl U (aG U) (gO U) cU.sq hbU xs l1 l2 _ (jI xs)
      rw [<- same xs mx] at b
      have e3:sh (.seq (xs.map fr))=.seq (xs.map fr):=jI xs
      rw [e3]
      refine ⟨[some (.seq (ns.map D.int)),some (.seq (xs.map fr)),some (aG T),some (.seq (ps.map fr)),some (.str "table"),some (aG U)],df ?_ rfl,_,rfl⟩
      simp only [ac,f2,fT,asB,ae,aa,ah,Zc,Zd,Ze,Zf,Zg,a,b,BF])
     refine dB (aq st1 (aq st2 (aq (df (by simp only [oI,ac,fC,f2,fT,asB,Zc,Zd,Ze,Zf,Zg,q2]) rfl) (aq (bV src w) (ce (bj (d:=.bl true) ?_))))))
     simp only [ac,fC,f2,ae,aa,cP,ah,Zc,Zd,Ze,ec2,yM]
end
theorem AI {l:PySem.W.OpenLaw} {w:World} {K:PySem.W.Frag} {h:Heap} {mg:Str->Option Value} {fa:Addr} (X:K.In h) (G:h.Ns mainGlobals mg) (hfa:mg "law" = some (.ref fa)) {f0 f1 f3 f4 f5 f6 f7 f8 f9 f10 f11 f12 f13 f14 f15 f16 f17 f18 f19 f20 f21 f22 f23 f24 f25 f26 f27 f28 f29 f30 f31 f32 f33 f34 f35 f36:Addr} {f2:Addr} {od2 an2:Option Addr} {sl2:Array (Option Value)} {oc2 kV2 dc2 pm2 cd2 ct2:Value} {f37:Addr} {od37 an37:Option Addr} {sl37:Array (Option Value)} {oc37 kV37 dc37 pm37 cd37 ct37:Value} {T2 nT2:Nat} {oT2:Value} {dT2:Option Addr} {sT2:Array (Option Value)} {tk2:Tok} 
 (a0:FK K "is_whole" gJ f0) (a1:FK K "common_divisor" cQ f1) (a3:FK K "lowest" ju f3) (a4:FK K "plus" oJ f4) (a5:FK K "minus" kS f5) (a6:FK K "summed" jt f6) (a7:FK K "times" kR f7) (a8:FK K "less" oK f8) (a9:FK K "keeps" kU f9) (a10:FK K "tighter" iE f10) (a11:FK K "bound_sum" fZ f11) (a12:FK K "copied" jw f12) (a13:FK K "closed" jx f13) (a14:FK K "with_noughts" dJ f14) (a15:FK K "straight_ways" c9 f15) (a16:FK K "ring_through" dM f16) (a17:FK K "lead_through" dN f17) (a18:FK K "point_of" gH f18) (a19:FK K "closed_or_refused" ci f19) (a20:FK K "filled" jv f20) (a21:FK K "value_beside" dL f21) (a22:FK K "between" iF f22) (a23:FK K "greatest" gK f23) (a24:FK K "least" kT f24) (a25:FK K "_law_cell_at" dP f25) (a26:FK K "_law_mixed" fu f26) (a27:FK K "_law_lowest" eL f27) (a28:FK K "_law_less" gh f28) (a29:FK K "_law_any_table" cR f29) (a30:FK K "_law_part" gd f30) (a31:FK K "_law_planted" dO f31) (a32:FK K "_law_table_by" db f32) (a33:FK K "_law_keeps" fE f33) (a34:FK K "_law_lies" gg f34) (a35:FK K "_law_mean" gf f35) (a36:FK K "_law_points" eK f36)
 (a2:PySem.W.nsIn K mainGlobals "fraction" = some (some (.ref f2))) (l2:K.lookup f2=some ⟨oc2,od2,.func (PySem.W.fnOf "fraction" "fraction" (cC dh) (bw dh) (aj dh) (.ref T2) kV2 dc2 pm2 an2 cd2 ct2),sl2⟩) (t2:K.lookup T2=some ⟨oT2,dT2,.seq #[.int 1 tk2] nT2,sT2⟩) (c2:PySem.W.codeIn K cd2 "fraction" = true) (k2:PySem.W.keepIn K (.ref f2)=true)
 (a37:PySem.W.nsIn K mainGlobals "law" = some (some (.ref f37))) (l37:K.lookup f37=some ⟨oc37,od37,.func (PySem.W.fnOf "law" "law" (cC iS) (bw iS) (aj iS) .none kV37 dc37 pm37 an37 cd37 ct37),sl37⟩) (c37:PySem.W.codeIn K cd37 "law" = true) (k37:PySem.W.keepIn K (.ref f37)=true)
 (z_isinstance:PySem.W.nsIn K mainGlobals "isinstance" = some none) (z_int:PySem.W.nsIn K mainGlobals "int" = some none) (z_bool:PySem.W.nsIn K mainGlobals "bool" = some none) (z_list:PySem.W.nsIn K mainGlobals "list" = some none) (z_range:PySem.W.nsIn K mainGlobals "range" = some none) (z_len:PySem.W.nsIn K mainGlobals "len" = some none) (z_dict:PySem.W.nsIn K mainGlobals "dict" = some none) (z_abs:PySem.W.nsIn K mainGlobals "abs" = some none) (z_any:PySem.W.nsIn K mainGlobals "any" = some none) :
 ∃ fd:FuncData,(∀ (s:Shared) (v:Value),BindsTo s fd ⟨[v],[]⟩ [("_law_script",v)])/\∀ base:Heap,K.In base->base.Ns mainGlobals mg->FnOk l.prog w K mg base CX0 9 fa fd ["_law_script"] (spLaw K):=by
 have e:=hfa.symm.trans (PySem.W.mg_of X G a37)
 cases e
 have m_isinstance:=PySem.W.mg_none_of X G z_isinstance
 have m_int:=PySem.W.mg_none_of X G z_int
 have m_bool:=PySem.W.mg_none_of X G z_bool
 have m_list:=PySem.W.mg_none_of X G z_list
 have m_range:=PySem.W.mg_none_of X G z_range
 have m_len:=PySem.W.mg_none_of X G z_len
 have m_dict:=PySem.W.mg_none_of X G z_dict
 have m_abs:=PySem.W.mg_none_of X G z_abs
 have m_any:=PySem.W.mg_none_of X G z_any
 obtain ⟨_,F0,b0⟩:=a0.get (ps:=["thing"]) fun _ _ _ _ _ _ us hl=>match us,hl with | [_],_=>rfl
 obtain ⟨_,F1,b1⟩:=a1.get (ps:=["number","above_nought"]) fun _ _ _ _ _ _ us hl=>match us,hl with | [_,_],_=>rfl
 have F2:=yF (st:=dh) l2 c2 k2
 have b2:=F2.binds (ps:=["top","bottom"]) (ds:=[]) t2 rfl fun _ _ _ _ _ _ us hl=>match us,hl with | [_,_],_=>⟨_,rfl,rfl⟩
 have e2:=F2.binds (ps:=["top","bottom"]) (ds:=[.int 1 tk2]) t2 rfl fun _ _ _ _ _ _ us hl=>by
  have h1:us.length=1:=by simpa using hl
  match us,h1 with
  | [_],_=>exact ⟨_,rfl,rfl⟩
 obtain ⟨_,F3,b3⟩:=a3.get (ps:=["top","bottom"]) fun _ _ _ _ _ _ us hl=>match us,hl with | [_,_],_=>rfl
 obtain ⟨_,F4,b4⟩:=a4.get (ps:=["one","other"]) fun _ _ _ _ _ _ us hl=>match us,hl with | [_,_],_=>rfl
 obtain ⟨_,F5,b5⟩:=a5.get (ps:=["one","other"]) fun _ _ _ _ _ _ us hl=>match us,hl with | [_,_],_=>rfl
 obtain ⟨_,F6,b6⟩:=a6.get (ps:=["one","top","bottom"]) fun _ _ _ _ _ _ us hl=>match us,hl with | [_,_,_],_=>rfl
 obtain ⟨_,F7,b7⟩:=a7.get (ps:=["one","other"]) fun _ _ _ _ _ _ us hl=>match us,hl with | [_,_],_=>rfl
 obtain ⟨_,F8,b8⟩:=a8.get (ps:=["one","other"]) fun _ _ _ _ _ _ us hl=>match us,hl with | [_,_],_=>rfl
 obtain ⟨_,F9,b9⟩:=a9.get (ps:=["part","bound"]) fun _ _ _ _ _ _ us hl=>match us,hl with | [_,_],_=>rfl
 obtain ⟨_,F10,b10⟩:=a10.get (ps:=["one","other"]) fun _ _ _ _ _ _ us hl=>match us,hl with | [_,_],_=>rfl
 obtain ⟨_,F11,b11⟩:=a11.get (ps:=["one","other"]) fun _ _ _ _ _ _ us hl=>match us,hl with | [_,_],_=>rfl
 obtain ⟨_,F12,b12⟩:=a12.get (ps:=["table"]) fun _ _ _ _ _ _ us hl=>match us,hl with | [_],_=>rfl
 obtain ⟨_,F13,b13⟩:=a13.get (ps:=["table"]) fun _ _ _ _ _ _ us hl=>match us,hl with | [_],_=>rfl
 obtain ⟨_,F14,b14⟩:=a14.get (ps:=["table"]) fun _ _ _ _ _ _ us hl=>match us,hl with | [_],_=>rfl
 obtain ⟨_,F15,b15⟩:=a15.get (ps:=["size"]) fun _ _ _ _ _ _ us hl=>match us,hl with | [_],_=>rfl
 obtain ⟨_,F16,b16⟩:=a16.get (ps:=["bounds","ways","middle"]) fun _ _ _ _ _ _ us hl=>match us,hl with | [_,_,_],_=>rfl
 obtain ⟨_,F17,b17⟩:=a17.get (ps:=["bounds","ways","middle"]) fun _ _ _ _ _ _ us hl=>match us,hl with | [_,_,_],_=>rfl
 obtain ⟨_,F18,b18⟩:=a18.get (ps:=["table"]) fun _ _ _ _ _ _ us hl=>match us,hl with | [_],_=>rfl
 obtain ⟨_,F19,b19⟩:=a19.get (ps:=["table"]) fun _ _ _ _ _ _ us hl=>match us,hl with | [_],_=>rfl
 obtain ⟨_,F20,b20⟩:=a20.get (ps:=["bounds","values"]) fun _ _ _ _ _ _ us hl=>match us,hl with | [_,_],_=>rfl
 obtain ⟨_,F21,b21⟩:=a21.get (ps:=["bounds","placed","thing"]) fun _ _ _ _ _ _ us hl=>match us,hl with | [_,_,_],_=>rfl
 obtain ⟨_,F22,b22⟩:=a22.get (ps:=["low","high"]) fun _ _ _ _ _ _ us hl=>match us,hl with | [_,_],_=>rfl
 obtain ⟨_,F23,b23⟩:=a23.get (ps:=["parts"]) fun _ _ _ _ _ _ us hl=>match us,hl with | [_],_=>rfl
 obtain ⟨_,F24,b24⟩:=a24.get (ps:=["parts"]) fun _ _ _ _ _ _ us hl=>match us,hl with | [_],_=>rfl
 obtain ⟨_,F25,b25⟩:=a25.get (ps:=["_law_script","_law_k"]) fun _ _ _ _ _ _ us hl=>match us,hl with | [_,_],_=>rfl
 obtain ⟨_,F26,b26⟩:=a26.get (ps:=["_law_cell","_law_k"]) fun _ _ _ _ _ _ us hl=>match us,hl with | [_,_],_=>rfl
 obtain ⟨_,F27,b27⟩:=a27.get (ps:=["_law_top","_law_bottom"]) fun _ _ _ _ _ _ us hl=>match us,hl with | [_,_],_=>rfl
 obtain ⟨_,F28,b28⟩:=a28.get (ps:=["_law_one","_law_other"]) fun _ _ _ _ _ _ us hl=>match us,hl with | [_,_],_=>rfl
 obtain ⟨_,F29,b29⟩:=a29.get (ps:=["_law_seed","_law_k","_law_most"]) fun _ _ _ _ _ _ us hl=>match us,hl with | [_,_,_],_=>rfl
 obtain ⟨_,F30,b30⟩:=a30.get (ps:=["_law_cell"]) fun _ _ _ _ _ _ us hl=>match us,hl with | [_],_=>rfl
 obtain ⟨_,F31,b31⟩:=a31.get (ps:=["_law_script","_law_point"]) fun _ _ _ _ _ _ us hl=>match us,hl with | [_,_],_=>rfl
 obtain ⟨_,F32,b32⟩:=a32.get (ps:=["_law_script"]) fun _ _ _ _ _ _ us hl=>match us,hl with | [_],_=>rfl
 obtain ⟨_,F33,b33⟩:=a33.get (ps:=["_law_part_here","_law_bound"]) fun _ _ _ _ _ _ us hl=>match us,hl with | [_,_],_=>rfl
 obtain ⟨_,F34,b34⟩:=a34.get (ps:=["_law_table","_law_point"]) fun _ _ _ _ _ _ us hl=>match us,hl with | [_,_],_=>rfl
 obtain ⟨_,F35,b35⟩:=a35.get (ps:=["_law_one","_law_other"]) fun _ _ _ _ _ _ us hl=>match us,hl with | [_,_],_=>rfl
 obtain ⟨_,F36,b36⟩:=a36.get (ps:=["_law_script","_law_point","_law_told"]) fun _ _ _ _ _ _ us hl=>match us,hl with | [_,_,_],_=>rfl
 have F37:=wT (st:=iS) l37 c37 k37
 refine ⟨PySem.W.fnOf "law" "law" (cC iS) (bw iS) (aj iS) .none kV37 dc37 pm37 an37 cd37 ct37,fun s v=>.of_eq rfl,fun base _ _=>?_⟩
 have his_whole:=mkP l.prog w base X G a0 (qy F0   m_isinstance m_int m_bool) b0
 have hcommon_divisor:=mkP l.prog w base X G a1 (jF F1   ) b1
 have hless:=mkP l.prog w base X G a8 (yf F8   ) b8
 have htighter:=mkP l.prog w base X G a10 (rT F10   ) b10
 have hbound_sum:=mkP l.prog w base X G a11 (pg F11   ) b11
 have hcopied:=mkF l.prog w base X G a12 (uM F12   m_list) b12
 have hstraight_ways:=mkF l.prog w base X G a15 (j0 F15   m_range) b15
 have hLcell_at:=mkP l.prog w base X G a25 (kF F25   m_len) b25
 have hLmixed:=mkF l.prog w base X G a26 (m9 F26   ) b26
 have hLlowest:=mkP l.prog w base X G a27 (l6 F27   m_abs) b27
 have hLless:=mkP l.prog w base X G a28 (pp F28   ) b28
 have hLkeeps:=mkP l.prog w base X G a33 (nc F33   ) b33
 have hlowest:=mkP l.prog w base X G a3 (uJ F3 hcommon_divisor  ) b3
 have hsummed:=mkP l.prog w base X G a6 (uI F6 hcommon_divisor  ) b6
 have htimes:=mkP l.prog w base X G a7 (wn F7 hcommon_divisor  ) b7
 have hwith_noughts:=mkF l.prog w base X G a14 (kA F14 hcopied  m_range m_len) b14
 have hlead_through:=mkM l.prog w base X G a17 (kD F17 hbound_sum htighter  m_range m_len) b17
 have hgreatest:=mkP l.prog w base X G a23 (qz F23 hless  ) b23
 have hleast:=mkP l.prog w base X G a24 (wu F24 hless  ) b24
 have hLany_table:=mkF l.prog w base X G a29 (jG F29 hLmixed  m_range) b29
 have hLpart:=mkP l.prog w base X G a30 (pi F30 hLlowest  ) b30
 have hLplanted:=mkF l.prog w base X G a31 (kE F31 hLless hLmixed hLcell_at  m_range m_len) b31
 have hLlies:=mkF l.prog w base X G a34 (po F34 hLkeeps hLless  m_range m_len) b34
 have hLmean:=mkP l.prog w base X G a35 (pj F35 hLlowest  ) b35
 have hfraction:Has l.prog w K mg base 3 "fraction" ["top","bottom"] (fn bf):=⟨⟨_,_,kl F2 hlowest his_whole  ,PySem.W.mg_of X G a2,k2,b2⟩⟩
 have hfractionD:rA l.prog w K mg base 3 "fraction" ["top","bottom"] [1] (fn bf):=⟨⟨_,_,_,kl F2 hlowest his_whole  ,PySem.W.mg_of X G a2,k2,.cons ⟨_,rfl⟩ .nil,e2⟩⟩
 have hplus:=mkP l.prog w base X G a4 (ye F4 hsummed  ) b4
 have hminus:=mkP l.prog w base X G a5 (wo F5 hsummed  ) b5
 have hLtable_by:=mkF l.prog w base X G a32 (j1 F32 hLcell_at hLplanted hLpart hLany_table  m_int m_range) b32
 have hLpoints:=mkP l.prog w base X G a36 (l5 F36 hLmixed hLpart hLmean  m_range m_len) b36
 have hkeeps:=mkP l.prog w base X G a9 (ww F9 hfractionD hless  ) b9
 have hbetween:=mkP l.prog w base X G a22 (rV F22 htimes hfraction hfractionD hminus hplus  ) b22
 have hring_through:=mkF l.prog w base X G a16 (kC F16 hbound_sum hkeeps hfractionD  m_range m_len) b16
 have hvalue_beside:=mkF l.prog w base X G a21 (kB F21 hbetween hminus hplus hgreatest hleast hfractionD  ) b21
 have hclosed:=mkF l.prog w base X G a13 (uN F13 hwith_noughts hstraight_ways hring_through hlead_through hkeeps hfractionD  m_range m_len) b13
 have hfilled:=mkF l.prog w base X G a20 (uL F20 hminus hvalue_beside  m_dict m_range m_len) b20
 have hclosed_or_refused:=mkF l.prog w base X G a19 (ig F19 hclosed  ) b19
 have hpoint_of:=mkF l.prog w base X G a18 (qx F18 hfilled hclosed_or_refused hfractionD  ) b18
 exact Af F37 hLtable_by hclosed hLpoints hpoint_of hLlies  m_any
theorem facts {l:PySem.W.OpenLaw} {w:World} {K:PySem.W.Frag} {h:Heap} {mg:Str->Option Value} {fa:Addr} (e:FF K=FE) (X:K.In h) (G:h.Ns mainGlobals mg) (hfa:mg "law" = some (.ref fa)) :
 ∃ fd:FuncData,(∀ (s:Shared) (v:Value),BindsTo s fd ⟨[v],[]⟩ [("_law_script",v)])/\∀ base:Heap,K.In base->base.Ns mainGlobals mg->FnOk l.prog w K mg base CX0 9 fa fd ["_law_script"] (spLaw K):=by
 obtain ⟨e0,e⟩:=Prod.mk.inj e
 obtain ⟨e1,e⟩:=Prod.mk.inj e
 obtain ⟨e2,e⟩:=Prod.mk.inj e
 obtain ⟨t2,e⟩:=Prod.mk.inj e
 obtain ⟨e3,e⟩:=Prod.mk.inj e
 obtain ⟨e4,e⟩:=Prod.mk.inj e
 obtain ⟨e5,e⟩:=Prod.mk.inj e
 obtain ⟨e6,e⟩:=Prod.mk.inj e
 obtain ⟨e7,e⟩:=Prod.mk.inj e
 obtain ⟨e8,e⟩:=Prod.mk.inj e
 obtain ⟨e9,e⟩:=Prod.mk.inj e
 obtain ⟨e10,e⟩:=Prod.mk.inj e
 obtain ⟨e11,e⟩:=Prod.mk.inj e
 obtain ⟨e12,e⟩:=Prod.mk.inj e
 obtain ⟨e13,e⟩:=Prod.mk.inj e
 obtain ⟨e14,e⟩:=Prod.mk.inj e
 obtain ⟨e15,e⟩:=Prod.mk.inj e
 obtain ⟨e16,e⟩:=Prod.mk.inj e
 obtain ⟨e17,e⟩:=Prod.mk.inj e
 obtain ⟨e18,e⟩:=Prod.mk.inj e
 obtain ⟨e19,e⟩:=Prod.mk.inj e
 obtain ⟨e20,e⟩:=Prod.mk.inj e
 obtain ⟨e21,e⟩:=Prod.mk.inj e
 obtain ⟨e22,e⟩:=Prod.mk.inj e
 obtain ⟨e23,e⟩:=Prod.mk.inj e
 obtain ⟨e24,e⟩:=Prod.mk.inj e
 obtain ⟨e25,e⟩:=Prod.mk.inj e
 obtain ⟨e26,e⟩:=Prod.mk.inj e
 obtain ⟨e27,e⟩:=Prod.mk.inj e
 obtain ⟨e28,e⟩:=Prod.mk.inj e
 obtain ⟨e29,e⟩:=Prod.mk.inj e
 obtain ⟨e30,e⟩:=Prod.mk.inj e
 obtain ⟨e31,e⟩:=Prod.mk.inj e
 obtain ⟨e32,e⟩:=Prod.mk.inj e
 obtain ⟨e33,e⟩:=Prod.mk.inj e
 obtain ⟨e34,e⟩:=Prod.mk.inj e
 obtain ⟨e35,e⟩:=Prod.mk.inj e
 obtain ⟨e36,e⟩:=Prod.mk.inj e
 obtain ⟨e37,e⟩:=Prod.mk.inj e
 obtain ⟨z_isinstance,e⟩:=Prod.mk.inj e
 obtain ⟨z_int,e⟩:=Prod.mk.inj e
 obtain ⟨z_bool,e⟩:=Prod.mk.inj e
 obtain ⟨z_list,e⟩:=Prod.mk.inj e
 obtain ⟨z_range,e⟩:=Prod.mk.inj e
 obtain ⟨z_len,e⟩:=Prod.mk.inj e
 obtain ⟨z_dict,e⟩:=Prod.mk.inj e
 obtain ⟨z_abs,e⟩:=Prod.mk.inj e
 have z_any:=e
 obtain ⟨a2,k2,_,_,_,_,_,_,_,_,_,l2,c2⟩:=Hd.fv_inv e2
 obtain ⟨_,_,_,_,_,t2⟩:=Hd.intsAt_inv t2
 obtain ⟨a37,k37,_,_,_,_,_,_,_,_,_,l37,c37⟩:=Hd.fv_inv e37
 exact AI X G hfa (FK.of2 e0) (FK.of2 e1) (FK.of2 e3) (FK.of2 e4) (FK.of2 e5) (FK.of2 e6) (FK.of2 e7) (FK.of2 e8) (FK.of2 e9) (FK.of2 e10) (FK.of2 e11) (FK.of2 e12) (FK.of2 e13) (FK.of2 e14) (FK.of2 e15) (FK.of2 e16) (FK.of2 e17) (FK.of2 e18) (FK.of2 e19) (FK.of2 e20) (FK.of2 e21) (FK.of2 e22) (FK.of2 e23) (FK.of2 e24) (FK.of2 e25) (FK.of2 e26) (FK.of2 e27) (FK.of2 e28) (FK.of2 e29) (FK.of2 e30) (FK.of2 e31) (FK.of2 e32) (FK.of2 e33) (FK.of2 e34) (FK.of2 e35) (FK.of2 e36) a2 l2 t2 c2 k2 a37 l37 c37 k37 z_isinstance z_int z_bool z_list z_range z_len z_dict z_abs z_any
end
end Mine
open PySem PySem.W PyProof.Rows
set_option maxRecDepth 100000 in
set_option maxHeartbeats 0 in
theorem PySem.Challenge.cw_watchyard_k22_whole_the_same_points_holds : PySem.Challenge.rw_watchyard_k22_whole_the_same_points.Holds := by
 w_on;refine holds_law Mine.said fun said=>?_
 refine holds_open (q:=Mine.VW) (loose:=Mine.LO) (Xt:=Mine.XT) (XP:=XL Mine.VW []) (Yf:=Hook.obs Mine.HK) (Ya:=Hook.val Mine.HK) (YP:=Hook.says Mine.HK) (N:=4418) Mine.left (Hook.of Mine.HK) (Hook.keeps Mine.HK) (fun s e=>xl_of s (Bool.and_eq_true_iff.mp e).1) XL.keeps (by rfl) (by rfl) (by rfl) (fun s e=>recFacts_of (Bool.and_eq_true_iff.mp e).2) (by rfl) (by first | assumption | decide +kernel) (by decide +kernel) ⟨rfl,rfl,rfl,rfl,rfl,by decide +kernel⟩ ?hw ?hc
 (case hw=>w_witness2)
 exact Hd.walkE (l:=PySem.Challenge.rw_watchyard_k22_whole_the_same_points) (n:=63) (k:=9) (x:="_law_script") (T:=fun K=>Mine.FF K=Mine.FE) (sp:=fun K=>Dl.spLaw K) rfl (by decide) rfl ⟨rfl,by decide,by decide⟩ (fun _ _ Y=>Y) (fun _ _ _ _ _ e X G h=>Mine.facts e X G h) fun _ _ a ns hl _ hS=>⟨a,ns,rfl,hS,hl,fun _=>rfl⟩
