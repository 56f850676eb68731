import PyProof.Rows.All
import Wide.All
import OpenK.AllK
import Wide.FinOn
import Lean
import PyProof.EqAt
import PyProof.EqKinds
import PyProof.TupleCall
import PyProof.NeKinds
import KE.IntBitsLaws
import KE.LcSums
import PyProof.ConsumeWalk
import PyProof.DictWalks
import PyProof.Rows.DictUnroll
import PySem.Challenge.RW_watchyard_k26_tables_together
set_option Elab.async false
set_option linter.all false
set_option maxRecDepth 100000
set_option Elab.async false
set_option linter.all false
set_option maxRecDepth 100000
set_option maxHeartbeats 4000000
abbrev Za:=@Option.bind_eq_some_iff
abbrev Zb:=@Option.map_eq_some_iff
abbrev Zc:=@Option.bind_some
abbrev Zd:=@List.getElem?_cons_zero
abbrev Ze:=@List.getElem?_cons_succ
abbrev Zf:=@List.set_cons_zero
abbrev Zg:=@List.set_cons_succ
abbrev Zh:=@List.length_append
abbrev Zi:=@List.length_map
abbrev Zj:=@List.length_singleton
abbrev Zk:=@List.mem_cons_self
abbrev Zl:=@List.mem_cons_of_mem
abbrev Zm:=@List.mem_range
abbrev Zn:=@List.mem_append
abbrev Zo:=@List.mem_cons
abbrev Zp:=@List.getD_eq_getElem?_getD
abbrev Zq:=@List.getElem?_eq_getElem
namespace L2
open PySem PySem.Spec PyProof.Rows
def cV (s:Stmt):Arguments:=match s with
 | .FunctionDef _ a _ _ _ _ _ _ _ _=>a
 | _=>{ posonlyargs:=[],args:=[],vararg:=none,kwonlyargs:=[],kw_defaults:=[],kwarg:=none,defaults:=[] }
def bK (s:Stmt):List Stmt:=match s with
 | .FunctionDef _ _ b _ _ _ _ _ _ _=>b
 | _=>[]
def am (s:Stmt):Scope:=match s with
 | .FunctionDef _ _ _ _ _ _ sc _ _ _=>sc
 | _=>{ kind:=.function,names:=[],isGenerator:=false,isCoroutine:=false }
end L2
namespace Hd
open PySem PySem.Spec PyProof.Rows L2 PySem.W
def Kof (as:List Addr) (h:Heap):PySem.W.Frag:=as.filterMap fun a=>(h.get? a).map fun o=>(a,o)
theorem sg:∀ (as:List Addr) (h:Heap),(Kof as h).In h
 | [],h,a,o,e=>by cases e
 | b :: r,h,a,o,e=>by
  unfold Kof at e
  rw [List.filterMap_cons] at e
  cases hb:h.get? b with
  | none=>rw [hb] at e;exact sg r h a o e
  | some o' =>
   rw [hb] at e
   change List.lookup a ((b,o') :: Kof r h)=some o at e
   rw [List.lookup_cons] at e
   cases hc:a == b with
   | true=>rw [hc] at e;cases e;rw [beq_iff_eq.mp hc];exact hb
   | false=>rw [hc] at e;exact sg r h a o e
def hk {α:Type} (as:List Addr) (F:PySem.W.Frag->α) (v:α):PySem.W.Hook where
 α:=α
 obs:=fun s=>F (Kof as s.heap)
 val:=fun _=>v
 says:=fun _ h=>∃ K:PySem.W.Frag,K.In h/\F K=v
 of:=fun _ s e=>⟨_,sg as s.heap,e⟩
 keeps:=fun _ _ _ x k=>Exists.elim x fun K y=>⟨K,y.1.keeps k,y.2⟩
abbrev FT:=Option (Option Value)×Bool×Option (Str×Str×Arguments×FuncBody×Scope×Addr×List (Str×Addr)×Value×Addr×Bool)
def fv (K:PySem.W.Frag) (x:Str) (f:Addr):FT :=
 (PySem.W.nsIn K mainGlobals x,PySem.W.keepIn K (.ref f),match K.lookup f with
  | some ⟨_,_,.func d,_⟩=>some (d.name,d.qualname,d.params,d.body,d.scope,d.globals,d.closure,d.defaults,d.builtins,PySem.W.codeIn K d.code x)
  | _=>none)
def fe (x:Str) (st:Stmt) (dV:Value) (f:Addr):FT:=(some (some (Value.ref f)),true,some (x,x,cV st,FuncBody.stmts (bK st),am st,mainGlobals,[],dV,builtinsNs,true))
theorem fv_inv {K:PySem.W.Frag} {x:Str} {st:Stmt} {dV:Value} {f:Addr} (e:fv K x f=fe x st dV f):PySem.W.nsIn K mainGlobals x=some (some (.ref f))/\PySem.W.keepIn K (.ref f)=true /\
 ∃ (oc:Value) (od:Option Addr) (kV doc pm:Value) (an:Option Addr) (cdv ct:Value) (osl:Array (Option Value)),K.lookup f=some ⟨oc,od,.func (PySem.W.fnOf x x (cV st) (bK st) (am st) dV kV doc pm an cdv ct),osl⟩/\PySem.W.codeIn K cdv x=true:=by
 obtain ⟨e1,e2⟩:=Prod.mk.inj e
 obtain ⟨e2,e3⟩:=Prod.mk.inj e2
 refine ⟨e1,e2,?_⟩
 revert e3
 cases K.lookup f with
 | none=>intro e3;cases e3
 | some o =>
  obtain ⟨oc,od,dt,osl⟩:=o
  cases dt with
  | func d =>
   intro e3
   obtain ⟨a1,a2,a3,a4,a5,a6,a7,a8,a9,b1,b2,b3,b4,b5,b6⟩:=d
   obtain ⟨h1,y1⟩:=Prod.mk.inj (Option.some.inj e3)
   obtain ⟨h2,y2⟩:=Prod.mk.inj y1
   obtain ⟨h3,y3⟩:=Prod.mk.inj y2
   obtain ⟨h4,y4⟩:=Prod.mk.inj y3
   obtain ⟨h5,y5⟩:=Prod.mk.inj y4
   obtain ⟨h6,y6⟩:=Prod.mk.inj y5
   obtain ⟨h7,y7⟩:=Prod.mk.inj y6
   obtain ⟨h8,y8⟩:=Prod.mk.inj y7
   obtain ⟨h9,y9⟩:=Prod.mk.inj y8
   clear e3 y1 y2 y3 y4 y5 y6 y7 y8
   dsimp only at h1 h2 h3 h4 h5 h6 h7 h8 h9 y9
   subst h1 h2 h3 h4 h5 h6 h7 h8 h9
   exact ⟨oc,od,a9,b1,b2,b3,b4,b5,osl,rfl,y9⟩
  | _=>intro e3;cases e3
def intsAt (K:PySem.W.Frag) (T:Addr):Option (List (Option Int)):=match K.lookup T with
 | some ⟨_,_,.seq xs _,_⟩=>some (xs.toList.map fun v=>match v with | .int i _=>some i | _=>none)
 | _=>none
theorem intsAt_inv {K:PySem.W.Frag} {T:Addr} {i:Int} (e:intsAt K T=some [some i]):∃ (oT:Value) (dT:Option Addr) (tk:Tok) (nT:Nat) (sT:Array (Option Value)),K.lookup T=some ⟨oT,dT,.seq #[.int i tk] nT,sT⟩:=by
 unfold intsAt at e
 revert e
 cases K.lookup T with
 | none=>intro e;cases e
 | some o =>
  obtain ⟨oc,od,dt,osl⟩:=o
  cases dt with
  | seq xs n =>
   intro e
   obtain ⟨l⟩:=xs
   cases l with
   | nil=>cases e
   | cons v r =>
    cases r with
    | cons v' r'=>cases (List.cons.inj (Option.some.inj e)).2
    | nil =>
     cases v with
     | int j t=>cases e;exact ⟨_,_,_,_,_,rfl⟩
     | _=>cases e
  | _=>intro e;cases e
theorem left_one {p q:Program} {loose:List Str} {Xt:Shared->Bool} {α:Type} {Yf:Shared->α} {Ya:World->α} {N:Nat} {g0:Bool} {m₀:Nat} {ann:Option Value}
 (e:opening p=plainProg p.main.scope.names) (hN:Nat.ble 600 N=true) (f:∀ s,fenceModules? p s=some s)
 (size:∀ w:World,((boot_heap w.params).isNs mainGlobals,(boot_heap w.params).objs.size,(boot_heap w.params).nsMap mainGlobals "__annotations__")=(true,m₀,ann))
 (yB:∀ (w:World) (os:OsState),(topRun treeTable p w m₀ ann N ⟨boot_heap w.params,Array.mk [],boot_drawn,boot_toks,os⟩ (topStub p)).map (fun s=>((staticsOk (importedModules p.main.body) (boot_heap w.params) s.heap && namesBound p s.heap && gensDone s && laidKept (boot_heap w.params) s.heap),Yf s))=some (true,Ya w))
 (yA:∀ (w:World) (os:OsState),(topRun treeTable p w m₀ ann N ⟨boot_heap w.params,Array.mk [],boot_drawn,boot_toks,os⟩ (topStub p)).map (fun s=>openSeen q loose (importedModules p.main.body) Xt g0 s)=some (openGood q loose)):LeftO p q loose Xt Yf Ya N g0:=fun w=>by
 obtain ⟨⟨h,gs,d,k,os⟩,e,e'⟩:=Zb.mp (boot_open e hN f w)
 obtain ⟨rfl,e'⟩:=Prod.mk.inj e'
 obtain ⟨rfl,e'⟩:=Prod.mk.inj e'
 obtain ⟨rfl,rfl⟩:=Prod.mk.inj e'
 obtain ⟨z1,z2⟩:=Prod.mk.inj (size w)
 obtain ⟨z2,z3⟩:=Prod.mk.inj z2
 obtain ⟨s₁,r,l⟩:=Zb.mp (yB w os)
 obtain ⟨l1,l3⟩:=Prod.mk.inj l
 have l2:=yA w os
 rw [r] at l2
 have t:topFrom treeTable p w N ⟨boot_heap w.params,Array.mk [],boot_drawn,boot_toks,os⟩=some s₁:=by
  unfold topFrom
  dsimp only
  rw [z1,z2,z3]
  show (topRun treeTable p w m₀ ann N ⟨boot_heap w.params,Array.mk [],boot_drawn,boot_toks,os⟩ (topStub p)).bind _=_
  rw [r]
  show (match staticsOk (importedModules p.main.body) (boot_heap w.params) s₁.heap && namesBound p s₁.heap && gensDone s₁ && laidKept (boot_heap w.params) s₁.heap with | true=>_ | false=>_)=_
  rw [l1]
 unfold openEnds
 rw [e]
 show ((topFrom treeTable p w N _).map _)=_
 rw [t]
 exact congrArg some (Prod.ext (Option.some.inj l2) l3)
end Hd
namespace Mine
open PySem PySem.Spec PyProof.Rows L2
def top (i:Nat):Stmt:=PySem.Challenge.pw_watchyard_k26_tables_together.main.body.getD i (.Pass ⟨0,0,0,0⟩)
abbrev ir:Stmt:=top 4
abbrev dy:Stmt:=top 5
abbrev oX:Stmt:=top 8
abbrev jk:Stmt:=top 11
abbrev gL:Stmt:=top 12
abbrev j7:Stmt:=top 15
abbrev dM:Stmt:=top 19
abbrev eL:Stmt:=top 24
abbrev gi:Stmt:=top 25
abbrev fI:Stmt:=top 26
abbrev gO:Stmt:=top 27
abbrev gg:Stmt:=top 32
abbrev iu:Stmt:=top 33
abbrev eI:Stmt:=top 34
abbrev gj:Stmt:=top 36
abbrev j6:Stmt:=top 7
abbrev gf:Stmt:=top 13
abbrev eD:Stmt:=top 18
abbrev eF:Stmt:=top 21
abbrev dz:Stmt:=top 28
abbrev gM:Stmt:=top 29
abbrev eJ:Stmt:=top 30
abbrev fJ:Stmt:=top 35
abbrev gN:Stmt:=top 37
abbrev eK:Stmt:=top 38
abbrev gh:Stmt:=top 39
abbrev dP:Stmt:=top 40
abbrev gP:Stmt:=top 42
abbrev dU:Stmt:=top 6
abbrev dN:Stmt:=top 31
abbrev dO:Stmt:=top 41
abbrev fH:Stmt:=top 43
abbrev l4:Stmt:=top 10
abbrev eE:Stmt:=top 20
abbrev j8:Stmt:=top 17
abbrev iq:Stmt:=top 22
abbrev iX:Stmt:=top 44
abbrev PW:Program:=PySem.Challenge.pw_watchyard_k26_tables_together
abbrev VW:Program:=PySem.W.view PW [1,2,4,5,7,8,10,11,12,13,15,17,18,19,20,21,22,24,25,26,27,28,29,30,31,32,33,34,35,36,37,38,39,40,41,42,43,44]
abbrev LO:List Str:=["fraction"]
def ads:List Addr:=[mainGlobals,46,53,61,68,75,82,89,96,103,108,115,122,127,134,141,146,153,160,167,174,181,188,195,200,207,214,221,226,233,240,245,252,259,264,269,274,279,45,52,60,67,74,81,88,95,102,107,114,121,126,133,140,145,152,159,166,173,180,187,194,199,206,213,220,225,232,239,244,251,258,263,268,273,278,54]
abbrev FF (K:PySem.W.Frag):=(Hd.fv K "is_whole" 46,
 Hd.fv K "common_divisor" 53,
 Hd.fv K "fraction" 61,
 Hd.intsAt K 54,
 Hd.fv K "lowest" 68,
 Hd.fv K "less" 75,
 Hd.fv K "keeps" 82,
 Hd.fv K "tighter" 89,
 Hd.fv K "bound_sum" 96,
 Hd.fv K "tighter_of" 103,
 Hd.fv K "copied" 108,
 Hd.fv K "closed" 115,
 Hd.fv K "with_noughts" 122,
 Hd.fv K "straight_ways" 127,
 Hd.fv K "ring_through" 134,
 Hd.fv K "lead_through" 141,
 Hd.fv K "together" 146,
 Hd.fv K "_law_cell_at" 153,
 Hd.fv K "_law_mixed" 160,
 Hd.fv K "_law_lowest" 167,
 Hd.fv K "_law_less" 174,
 Hd.fv K "_law_any_table" 181,
 Hd.fv K "_law_part" 188,
 Hd.fv K "_law_planted" 195,
 Hd.fv K "_law_table_by" 200,
 Hd.fv K "_law_whole" 207,
 Hd.fv K "_law_sum" 214,
 Hd.fv K "_law_tighter" 221,
 Hd.fv K "_law_closed" 226,
 Hd.fv K "_law_keeps" 233,
 Hd.fv K "_law_lies" 240,
 Hd.fv K "_law_is_ring" 245,
 Hd.fv K "_law_other" 252,
 Hd.fv K "_law_is_bound" 259,
 Hd.fv K "_law_is_table" 264,
 Hd.fv K "_law_both" 269,
 Hd.fv K "_law_points" 274,
 Hd.fv K "law" 279,
 PySem.W.nsIn K mainGlobals "isinstance",
 PySem.W.nsIn K mainGlobals "int",
 PySem.W.nsIn K mainGlobals "bool",
 PySem.W.nsIn K mainGlobals "list",
 PySem.W.nsIn K mainGlobals "range",
 PySem.W.nsIn K mainGlobals "len",
 PySem.W.nsIn K mainGlobals "zip",
 PySem.W.nsIn K mainGlobals "abs",
 PySem.W.nsIn K mainGlobals "any",
 PySem.W.nsIn K mainGlobals "all",
 PySem.W.nsIn K mainGlobals "set",
 PySem.W.nsIn K mainGlobals "tuple")
abbrev FE:=(Hd.fe "is_whole" ir .none 46,
 Hd.fe "common_divisor" dy .none 53,
 Hd.fe "fraction" dU (.ref 54) 61,
 (some [some (1:Int)]),
 Hd.fe "lowest" j6 .none 68,
 Hd.fe "less" oX .none 75,
 Hd.fe "keeps" l4 .none 82,
 Hd.fe "tighter" jk .none 89,
 Hd.fe "bound_sum" gL .none 96,
 Hd.fe "tighter_of" gf .none 103,
 Hd.fe "copied" j7 .none 108,
 Hd.fe "closed" j8 .none 115,
 Hd.fe "with_noughts" eD .none 122,
 Hd.fe "straight_ways" dM .none 127,
 Hd.fe "ring_through" eE .none 134,
 Hd.fe "lead_through" eF .none 141,
 Hd.fe "together" iq .none 146,
 Hd.fe "_law_cell_at" eL .none 153,
 Hd.fe "_law_mixed" gi .none 160,
 Hd.fe "_law_lowest" fI .none 167,
 Hd.fe "_law_less" gO .none 174,
 Hd.fe "_law_any_table" dz .none 181,
 Hd.fe "_law_part" gM .none 188,
 Hd.fe "_law_planted" eJ .none 195,
 Hd.fe "_law_table_by" dN .none 200,
 Hd.fe "_law_whole" gg .none 207,
 Hd.fe "_law_sum" iu .none 214,
 Hd.fe "_law_tighter" eI .none 221,
 Hd.fe "_law_closed" fJ .none 226,
 Hd.fe "_law_keeps" gj .none 233,
 Hd.fe "_law_lies" gN .none 240,
 Hd.fe "_law_is_ring" eK .none 245,
 Hd.fe "_law_other" gh .none 252,
 Hd.fe "_law_is_bound" dP .none 259,
 Hd.fe "_law_is_table" dO .none 264,
 Hd.fe "_law_both" gP .none 269,
 Hd.fe "_law_points" fH .none 274,
 Hd.fe "law" iX .none 279,
 (some none:Option (Option Value)),
 (some none:Option (Option Value)),
 (some none:Option (Option Value)),
 (some none:Option (Option Value)),
 (some none:Option (Option Value)),
 (some none:Option (Option Value)),
 (some none:Option (Option Value)),
 (some none:Option (Option Value)),
 (some none:Option (Option Value)),
 (some none:Option (Option Value)),
 (some none:Option (Option Value)),
 (some none:Option (Option Value)))
abbrev HK:PySem.W.Hook:=Hd.hk ads FF FE
abbrev XT (s:Shared):Bool:=PySem.W.xlAt VW [] s && PySem.W.recOk [] s
theorem yB (w:World) (os:OsState):(PySem.W.topRun treeTable PW w 11 (some (.ref 6)) 3858 ⟨PySem.W.boot_heap w.params,Array.mk [],PySem.W.boot_drawn,PySem.W.boot_toks,os⟩ (PySem.W.topStub PW)).map (fun s=>((PySem.W.staticsOk (importedModules PW.main.body) (PySem.W.boot_heap w.params) s.heap && PySem.W.namesBound PW s.heap && PySem.W.gensDone s && PySem.W.laidKept (PySem.W.boot_heap w.params) s.heap),PySem.W.Hook.obs HK s))=some (true,PySem.W.Hook.val HK w):=by
 rw [PySem.W.Fast.te14082659384304107361]
 kernel_rfl
theorem yA (w:World) (os:OsState):(PySem.W.topRun treeTable PW w 11 (some (.ref 6)) 3858 ⟨PySem.W.boot_heap w.params,Array.mk [],PySem.W.boot_drawn,PySem.W.boot_toks,os⟩ (PySem.W.topStub PW)).map (fun s=>PySem.W.openSeen VW LO (importedModules PW.main.body) XT true s)=some (PySem.W.openGood VW LO):=by
 rw [PySem.W.Fast.te14082659384304107361,PySem.W.Fast.te4187177175401517315]
 kernel_rfl
theorem left:PySem.W.LeftO PW VW LO XT (PySem.W.Hook.obs HK) (PySem.W.Hook.val HK) 3858 :=
 Hd.left_one (m₀:=11) (ann:=some (.ref 6)) (by kernel_rfl) (by kernel_rfl) (fun s=>by kernel_rfl) (fun w=>by kernel_rfl) yB yA
theorem said:PySem.Challenge.rw_watchyard_k26_tables_together.wellSaid=true:=by
 rw [PySem.W.Fast.te9446332074065402090]
 kernel_rfl
end Mine
namespace L2
open PySem PySem.Spec PyProof.Rows
abbrev Key:=Sum Int Str
def yd:Key->Value->Bool
 | .inl k,v=>Value.isInt k v
 | .inr x,v=>Value.isStrOf x v
def Bw (w:World):Key->Int
 | .inl k=>hashInt k
 | .inr x=>hashStr w x
theorem cB:∀ {k:Key} {v:Value},yd k v=true->(∃ i t,k=Sum.inl i/\v=Value.int i t) \/ (∃ x t,k=Sum.inr x/\v=Value.str x t)
 | .inl i,v,h=>by
  obtain ⟨t,e⟩:=Value.isInt_shape (k:=i) (v:=v) h
  exact .inl ⟨i,t,rfl,e⟩
 | .inr x,v,h=>by
  obtain ⟨t,e⟩:=Value.isStrOf_shape (x:=x) (v:=v) h
  exact .inr ⟨x,t,rfl,e⟩
theorem zt (a b:Int):decide ((Sum.inl a:Key)=Sum.inl b)=(a == b):=by
 by_cases e:a=b
 . subst e;simp
 . have h:¬ (Sum.inl a:Key)=Sum.inl b:=fun q=>e (Sum.inl.inj q)
   rw [decide_eq_false h]
   exact (beq_eq_false_iff_ne.mpr e).symm
theorem zp (a b:Str):decide ((Sum.inr a:Key)=Sum.inr b)=decide (a=b):=by
 by_cases e:a=b
 . subst e;simp
 . have h:¬ (Sum.inr a:Key)=Sum.inr b:=fun q=>e (Sum.inr.inj q)
   rw [decide_eq_false h,decide_eq_false e]
theorem zr (a:Int) (b:Str):decide ((Sum.inl a:Key)=Sum.inr b)=false:=decide_eq_false (fun q=>nomatch q)
theorem zq (a:Str) (b:Int):decide ((Sum.inr a:Key)=Sum.inl b)=false:=decide_eq_false (fun q=>nomatch q)
def sZ (prog:Program) (w:World):PySem.KeyKind prog w Key where
 is:=yd
 hash:=Bw w
 inj:=fun v a b ha hb=>by
  rcases cB ha with ⟨i,t,rfl,rfl⟩ | ⟨x,t,rfl,rfl⟩
  . rcases cB hb with ⟨j,u,rfl,e⟩ | ⟨y,u,rfl,e⟩
    . injection e with e1 _;rw [e1]
    . exact nomatch e
  . rcases cB hb with ⟨j,u,rfl,e⟩ | ⟨y,u,rfl,e⟩
    . exact nomatch e
    . injection e with e1 _;rw [e1]
 byValue:=fun k v h=>by
  rcases cB h with ⟨i,t,rfl,rfl⟩ | ⟨x,t,rfl,rfl⟩ <;> rfl
 pyHash:=fun hv h=>by
  rcases cB hv with ⟨i,t,rfl,rfl⟩ | ⟨x,t,rfl,rfl⟩
  . exact wpAny_pyHash_int h
  . exact wpAny_pyHash_str h
 eqBool:=fun hu hv h=>by
  rcases cB hu with ⟨i,t,rfl,rfl⟩ | ⟨x,t,rfl,rfl⟩
  . rcases cB hv with ⟨j,u,rfl,rfl⟩ | ⟨y,u,rfl,rfl⟩
    . rw [zt] at h;exact wpAny_eqBool_int h
    . rw [zr] at h;exact SeqAt.EqAt.int_str i t y u _ _ _ _ h
  . rcases cB hv with ⟨j,u,rfl,rfl⟩ | ⟨y,u,rfl,rfl⟩
    . rw [zq] at h;exact SeqAt.EqAt.str_int x t j u _ _ _ _ h
    . rw [zp] at h;exact wpAny_eqBool_str h
 «strs»:=fun k x t v h=>by
  rcases cB h with ⟨i,u,rfl,e⟩ | ⟨y,u,rfl,e⟩
  . exact nomatch e
  . injection e with e1 _
    subst e1
    cases v <;> rfl
end L2
namespace L2
open PySem PySem.Spec PyProof.Rows
inductive V where
 | non | bl (b:Bool) | int (i:Int) | str (x:Str) | byt (b:Array UInt8) | flt (b:UInt64) | ref (a:Addr) | ty (n:String)
 deriving DecidableEq
def RelV:V->Value->Prop
 | .non,u=>u=Value.none
 | .bl b,u=>u=Value.bool b
 | .int i,u=>∃ t,u=Value.int i t
 | .str x,u=>∃ t,u=Value.str x t
 | .byt b,u=>∃ t,u=Value.bytes b t
 | .flt b,u=>∃ t,u=Value.float b t
 | .ref a,u=>u=Value.ref a
 | .ty n,u=>u=Value.type n
abbrev Vals:List V->List Value->Prop:=Paired RelV
theorem Vals.length {xs:List V} {us:List Value} (r:Vals xs us):xs.length=us.length:=Paired.length r
theorem Vals.get:∀ {xs:List V} {us:List Value} {i:Nat} {x:V},Vals xs us->xs[i]? = some x->∃ u,us[i]? = some u/\RelV x u
 | _,_,_,_,.nil,e=>by simp at e
 | _,_,0,_,.cons r _,e=>by simp at e;subst e;exact ⟨_,rfl,r⟩
 | _,_,i+1,x,.cons _ t,e=>by
  obtain ⟨u,h1,h2⟩:=Vals.get (i:=i) (x:=x) t (by simpa using e)
  exact ⟨u,by simpa using h1,h2⟩
theorem Vals.set {x:V} {u:Value} (r:RelV x u):∀ {xs:List V} {us:List Value} (i:Nat),Vals xs us->Vals (xs.set i x) (us.set i u)
 | _,_,_,.nil=>.nil
 | _,_,0,.cons _ t=>.cons r t
 | _,_,i+1,.cons q t=>.cons q (Vals.set r i t)
theorem Vals.append:∀ {xs ys:List V} {us ws:List Value},Vals xs us->Vals ys ws->Vals (xs++ys) (us++ws)
 | _,_,_,_,.nil,s=>s
 | _,_,_,_,.cons r t,s=>.cons r (Vals.append t s)
theorem Vals.take:∀ {xs:List V} {us:List Value} (n:Nat),Vals xs us->Vals (xs.take n) (us.take n)
 | _,_,0,_=>.nil
 | _,_,_+1,.nil=>.nil
 | _,_,n+1,.cons r t=>.cons r (Vals.take n t)
theorem Vals.drop:∀ {xs:List V} {us:List Value} (n:Nat),Vals xs us->Vals (xs.drop n) (us.drop n)
 | _,_,0,r=>r
 | _,_,_+1,.nil=>.nil
 | _,_,n+1,.cons _ t=>Vals.drop n t
def A8:Option V->Option Value->Prop
 | some v,some u=>RelV v u
 | none,none=>True
 | _,_=>False
def KV {κ:Type}:List (κ×V)->List (κ×Value)->Prop:=Paired fun (p:κ×V) (q:κ×Value)=>p.1=q.1/\RelV p.2 q.2
def kV:Key->V
 | .inl i=>.int i
 | .inr x=>.str x
inductive HO where
 | lst (xs:List V)
 | tup (xs:List V)
 | dK (kvs:List (Key×V)) | dT (kvs:List (List Key×V))
 | set (S:Int->Bool) (n:Nat)
 | ins (C dx:Addr) (fs:List (Str×V))
 | own (x:Addr)
 | xd (fs:List (Str×V))
 | met (f x:Addr)
 | rng (lo hi:Int)
 | frz (o:Obj) (u:HO)
 | tbl (ps:Array Value)
 | ext (φ:Heap->Prop)
abbrev Hp:=Addr->Option HO
def upd (H:Hp) (a:Addr) (o:HO):Hp:=fun b=>if b=a then some o else H b
theorem bx {H:Hp} {a:Addr} {o:HO}:upd H a o a=some o:=by unfold upd;rw [if_pos rfl]
theorem aH {H:Hp} {a b:Addr} {o:HO} (h:b ≠ a):upd H a o b=H b:=by unfold upd;rw [if_neg h]
theorem cT {H:Hp} {a b:Addr} {o:HO} (h:H a=some o) (h':H b=none):a ≠ b:=by
 intro e;subst e;rw [h] at h';cases h'
section
variable (P:Program) (w:World)
def ObjOk (H:Hp) (h:Heap) (a:Addr):HO->Prop
 | .lst xs=>xs.length<=sizeLine/\∃ (its:List Value) (n:Nat),Vals xs its/\h.get? a=some { cls:=.type "list",data:=.seq its.toArray n }
 | .tup xs=>xs.length<=sizeLine/\∃ its:List Value,Vals xs its/\IsTup h a its.toArray
 | .dK kvs=>kvs.length<=sizeLine/\(a == sysModules)=false/\∃ vs,KV kvs vs/\h.DictOf (sZ P w) a vs
 | .dT kvs=>kvs.length<=sizeLine/\(a == sysModules)=false/\∃ xs:List (List Key×Addr×Value),
  Paired (fun (p:List Key×V) (q:List Key×Addr×Value)=>p.1=q.1/\H q.2.1=some (.tup (p.1.map kV))/\RelV p.2 q.2.2) kvs xs /\
  ∃ o es ep,h.get? a=some o/\o.ExactDict/\o.data=.dict es ep/\es.toList=xs.map (entryOfKey (tupleKind (sZ P w)))/\(xs.map (·.1)).Nodup
 | .set S n=>h.SetOf (intKind P w) a S n
 | .ins C dx fs=>H dx=some (.own a)/\fs.length<=1000/\dx ≠ a/\h.get? a=some (PySem.W.instObj C dx) /\
  ∃ mA,h.Ns1 dx mA/\(∀ f,A8 (fs.lookup f) (mA f))/\PySem.Within mA (fs.map (·.1))
 | .own _=>∃ o,h.get? a=some o
 | .xd fs=>∃ mA,h.Ns1 a mA/\∀ f,A8 (fs.lookup f) (mA f)
 | .rng lo hi=>∃ t u v,h.get? a=some { cls:=.type "range",data:=.fields #[.int lo t,.int hi u,.int 1 v] }
 | .frz o u=>h.get? a=some o/\ObjOk H h a u
 | .tbl ps=>h.get? a=some { cls:=.none,data:=.fields ps }
 | .met f x=>h.get? a=some (PySem.W.methodObj (.ref f) (.ref x))
 | .ext φ=>φ h/\(∃ o,h.get? a=some o)/\∀ h1 h2:Heap,φ h1->(∀ o,h1.get? a=some o->h2.get? a=some o)->φ h2
def HOk (H:Hp) (h:Heap):Prop:=∀ a o,H a=some o->ObjOk P w H h a o
end
section
variable {P:Program} {w:World} {H H':Hp} {h h':Heap} {a:Addr} {o:HO}
theorem ObjOk.lt (x:ObjOk P w H h a o):a < h.objs.size:=by
 cases o with
 | lst xs=>obtain ⟨_,_,_,_,e⟩:=x;exact Heap.lt_size e
 | tup xs=>obtain ⟨_,_,_,p⟩:=x;exact p.lt
 | dK kvs=>obtain ⟨_,_,_,_,o,_,_,e,_⟩:=x;exact Heap.lt_size e
 | dT kvs=>obtain ⟨_,_,_,_,o,_,_,e,_⟩:=x;exact Heap.lt_size e
 | set S n=>obtain ⟨o,_,_,_,e,_⟩:=x;exact Heap.lt_size e
 | ins C dx fs=>obtain ⟨_,_,_,e,_⟩:=x;exact Heap.lt_size e
 | own y=>obtain ⟨_,e⟩:=x;exact Heap.lt_size e
 | xd fs=>obtain ⟨_,⟨_,_,_,e,_⟩,_⟩:=x;exact Heap.lt_size e
 | rng lo hi=>obtain ⟨_,_,_,e⟩:=x;exact Heap.lt_size e
 | frz ob u=>obtain ⟨e,_⟩:=x;exact Heap.lt_size e
 | tbl ps=>exact Heap.lt_size (show h.get? a=some _ from x)
 | met f y=>exact Heap.lt_size (show h.get? a=some _ from x)
 | ext φ=>obtain ⟨_,⟨_,e⟩,_⟩:=x;exact Heap.lt_size e
theorem Paired.mapP {α β:Type} {F G:α->β->Prop}:∀ {l₁:List α} {l₂:List β},Paired F l₁ l₂->(∀ a b,F a b->G a b)->Paired G l₁ l₂
 | _,_,.nil,_=>.nil
 | _,_,.cons r t,f=>.cons (f _ _ r) (Paired.mapP t f)
theorem ObjOk.stay (x:ObjOk P w H h a o) (k:∀ b u,(b=a \/ H b=some (.own a))->h.get? b=some u->h'.get? b=some u)
 (ho:∀ b,H b=some (.own a)->H' b=some (.own a)) (ht:∀ b xs,H b=some (.tup xs)->H' b=some (.tup xs)):ObjOk P w H' h' a o:=by
 induction o with
 | lst xs=>obtain ⟨z,its,n,r,e⟩:=x;exact ⟨z,its,n,r,k _ _ (.inl rfl) e⟩
 | tup xs=>obtain ⟨z,its,r,ob,e,c⟩:=x;exact ⟨z,its,r,ob,k _ _ (.inl rfl) e,c⟩
 | dK kvs=>obtain ⟨z,y,vs,r,ob,es,ep,e,c⟩:=x;exact ⟨z,y,vs,r,ob,es,ep,k _ _ (.inl rfl) e,c⟩
 | dT kvs =>
  obtain ⟨z,y,xs,r,ob,es,ep,e,c⟩:=x
  exact ⟨z,y,xs,Paired.mapP r fun p q z=>⟨z.1,ht _ _ z.2.1,z.2.2⟩,ob,es,ep,k _ _ (.inl rfl) e,c⟩
 | set S n=>obtain ⟨ob,es,ep,t,e,c⟩:=x;exact ⟨ob,es,ep,t,k _ _ (.inl rfl) e,c⟩
 | ins C dx fs =>
  obtain ⟨d,z,ne,e,mA,⟨od,es,ep,e2,c⟩,r⟩:=x
  exact ⟨ho _ d,z,ne,k _ _ (.inl rfl) e,mA,⟨od,es,ep,k _ _ (.inr d) e2,c⟩,r⟩
 | own y=>obtain ⟨ob,e⟩:=x;exact ⟨ob,k _ _ (.inl rfl) e⟩
 | xd fs=>obtain ⟨mA,⟨od,es,ep,e,c⟩,r⟩:=x;exact ⟨mA,⟨od,es,ep,k _ _ (.inl rfl) e,c⟩,r⟩
 | rng lo hi=>obtain ⟨t,u,v,e⟩:=x;exact ⟨t,u,v,k _ _ (.inl rfl) e⟩
 | frz ob u ih=>obtain ⟨e,q⟩:=x;exact ⟨k _ _ (.inl rfl) e,ih q⟩
 | tbl ps =>
  have e:h.get? a=some { cls:=.none,data:=.fields ps }:=x
  show h'.get? a=some { cls:=.none,data:=.fields ps }
  exact k a _ (.inl rfl) e
 | met f y =>
  have e:h.get? a=some (PySem.W.methodObj (.ref f) (.ref y)):=x
  show h'.get? a=some (PySem.W.methodObj (.ref f) (.ref y))
  exact k a _ (.inl rfl) e
 | ext φ=>obtain ⟨p,⟨o,e⟩,st⟩:=x;exact ⟨st _ _ p fun o q=>k _ _ (.inl rfl) q,⟨o,k _ _ (.inl rfl) e⟩,st⟩
theorem HOk.lt (x:HOk P w H h) (e:H a=some o):a < h.objs.size:=(x a o e).lt
theorem HOk.fresh (x:HOk P w H h) (e:h.objs.size<=a):H a=none:=by
 cases q:H a with
 | none=>rfl
 | some u=>exact absurd (Nat.lt_of_lt_of_le (x.lt q) e) (Nat.lt_irrefl _)
theorem HOk.kept (x:HOk P w H h) (k:∀ b u,h.get? b=some u->h'.get? b=some u):HOk P w H h':=fun a o e =>
 (x a o e).stay (fun b u _ q=>k b u q) (fun _ q=>q) fun _ _ q=>q
theorem HOk.laid (x:HOk P w H h) (k:∀ b u,h.get? b=some u->h'.get? b=some u) (hp:h.objs.size<=a) (new:ObjOk P w (upd H a o) h' a o):HOk P w (upd H a o) h':=fun b u e=>by
 have hn:=x.fresh hp
 by_cases hb:b=a
 . subst hb;rw [bx] at e;cases e;exact new
 . rw [aH hb] at e
   exact (x b u e).stay (fun c v _ q=>k c v q) (fun c q=>by rw [aH (cT q hn)];exact q) fun c xs q=>by rw [aH (cT q hn)];exact q
end
def Rd (H:Hp) (a:Addr) (u:HO):Prop:=H a=some u \/ ∃ o,H a=some (.frz o u)
theorem Rd.ok {P:Program} {w:World} {H:Hp} {h:Heap} {a:Addr} {u:HO} (r:Rd H a u) (x:HOk P w H h):ObjOk P w H h a u:=by
 rcases r with r | ⟨o,r⟩
 . exact x a u r
 . obtain ⟨_,q⟩:=x a _ r
   exact q
def Mut:Option HO->Prop
 | some (.lst _)=>True
 | some (.dK _)=>True
 | some (.dT _)=>True
 | some (.set _ _)=>True
 | some (.ins _ _ _)=>True
 | some (.ext _)=>True
 | _=>False
section
variable {P:Program} {w:World} {H:Hp} {h h':Heap} {x e:Addr} {o':HO}
theorem HOk.write (ok:HOk P w H h) (mu:Mut (H x)) (he:e=x \/ H e=some (.own x)) (k:∀ b u,b ≠ e->h.get? b=some u->h'.get? b=some u) (heo:∃ u,h'.get? e=some u)
 (new:ObjOk P w (upd H x o') h' x o'):HOk P w (upd H x o') h':=fun b u q=>by
 have nown:∀ c y,H c=some (.own y)->c ≠ x:=fun c y r z=>by subst z;rw [r] at mu;exact mu
 have ntup:∀ c xs,H c=some (.tup xs)->c ≠ x:=fun c xs r z=>by subst z;rw [r] at mu;exact mu
 by_cases hb:b=x
 . subst hb;rw [bx] at q;cases q;exact new
 . rw [aH hb] at q
   by_cases hbe:b=e
   . have q':H b=some (.own x):=by
      rcases he with z | z
      . exact absurd (hbe.trans z) hb
      . rw [hbe];exact z
     rw [q] at q';cases q'
     obtain ⟨v,hv⟩:=heo
     exact ⟨v,by rw [hbe];exact hv⟩
   . refine (ok b u q).stay (fun c v hc r=>k c v ?_ r) (fun c r=>by rw [aH (nown c b r)];exact r) fun c xs r=>by rw [aH (ntup c xs r)];exact r
     rcases hc with rfl | hc
     . exact hbe
     . rintro rfl
       rcases he with z | z
       . exact nown c b hc z
       . rw [hc] at z;cases z;exact hb rfl
end
structure Un (fs ex:List Addr) (H H':Hp) (h h':Heap):Prop where
 keep:∀ b o,h.get? b=some o->H b=none->b ∉ fs->b ∉ ex->h'.get? b=some o
 slot:∀ b o,h.get? b=some o->H b=none->b∈fs->b ∉ ex->∃ sl,h'.get? b=some { o with slots:=sl }
 free:∀ b o,h.get? b=some o->H b=none->b ∉ ex->H' b=none
 there:∀ b o,h.get? b=some o->b ∉ ex->∃ o',h'.get? b=some o'
 tups:∀ b xs,H b=some (.tup xs)->H' b=some (.tup xs)
 frzs:∀ b o u,H b=some (.frz o u)->H' b=some (.frz o u)
 tbls:∀ b ps,H b=some (.tbl ps)->∃ more,H' b=some (.tbl (ps++more))
section
variable {fs fs' ex ex':List Addr} {H H1 H2:Hp} {h h1 h2 h':Heap} {a x e:Addr} {o:HO}
theorem Un.any (u:Un fs ex H H1 h h1) {b:Addr} {ob:Obj} (q:h.get? b=some ob) (n:H b=none) (hx:b ∉ ex):∃ sl,h1.get? b=some { ob with slots:=sl }:=by
 by_cases hb:b∈fs
 . exact u.slot b ob q n hb hx
 . exact ⟨ob.slots,u.keep b ob q n hb hx⟩
theorem Un.kept (k:∀ b u,h.get? b=some u->h'.get? b=some u):Un fs ex H H h h' :=
 ⟨fun b ob q _ _ _=>k b ob q,fun b ob q _ _ _=>⟨ob.slots,k b ob q⟩,fun _ _ _ n _=>n,fun b ob q _=>⟨ob,k b ob q⟩,fun _ _ q=>q,fun _ _ _ q=>q,fun _ ps q=>⟨#[],by rw [q];simp⟩⟩
theorem Un.refl:Un fs ex H H h h:=Un.kept fun _ _ q=>q
theorem Un.laid (k:∀ b u,h.get? b=some u->h'.get? b=some u) (hp:h.objs.size<=a) (hn:H a=none):Un fs ex H (upd H a o) h h' where
 keep:=fun b u q _ _ _=>k b u q
 slot:=fun b u q _ _ _=>⟨u.slots,k b u q⟩
 free:=fun b u q n _=>by rw [aH (Nat.ne_of_lt (Nat.lt_of_lt_of_le (Heap.lt_size q) hp))];exact n
 there:=fun b u q _=>⟨u,k b u q⟩
 tups:=fun b xs q=>by rw [aH (cT q hn)];exact q
 frzs:=fun b u xs q=>by rw [aH (cT q hn)];exact q
 tbls:=fun b ps q=>⟨#[],by rw [aH (cT q hn),q];simp⟩
theorem Un.write (mu:Mut (H x)) (he:e=x \/ H e=some (.own x)) (k:∀ b u,b ≠ e->h.get? b=some u->h'.get? b=some u) (heo:∃ u,h'.get? e=some u):Un fs ex H (upd H x o) h h':=by
 have hx:∀ b,H b=none->b ≠ x:=fun b n z=>by subst z;rw [n] at mu;exact mu
 have hb:∀ b,H b=none->b ≠ e:=fun b n z=>by
  subst z
  rcases he with r | r
  . exact hx b n r
  . rw [n] at r;cases r
 have hm:∀ b u,H b=some u->¬ Mut (some u)->b ≠ x:=fun b u q nm z=>by subst z;rw [q] at mu;exact nm mu
 refine ⟨fun b u q n _ _=>k b u (hb b n) q,fun b u q n _ _=>⟨u.slots,k b u (hb b n) q⟩,fun b u q n _=>by rw [aH (hx b n)];exact n,fun b u q _=>?_,
  fun b xs q=>by rw [aH (hm b _ q fun z=>z)];exact q,fun b u xs q=>by rw [aH (hm b _ q fun z=>z)];exact q,fun b ps q=>⟨#[],by rw [aH (hm b _ q fun z=>z),q];simp⟩⟩
 by_cases hbe:b=e
 . subst hbe;exact heo
 . exact ⟨u,k b u hbe q⟩
end
def trk (h:Heap) (H:Hp):List Addr:=(List.range h.objs.size).filter fun a=>(H a).isSome
def pD (h:Heap) (H:Hp):Heap:=PySem.W.hideAll h (trk h H)
theorem uo (h:Heap) (H:Hp):(pD h H).objs.size=h.objs.size:=PySem.W.hideAll_size _ _
theorem vV {h:Heap} {H:Hp} {b:Addr} {o:Obj} (e:h.get? b=some o) (n:H b=none):(pD h H).get? b=some o :=
 PySem.W.hideAll_get _ e fun hm=>by
  have q:(H b).isSome=true:=(List.mem_filter.mp hm).2
  rw [n] at q;simp at q
theorem xl {h:Heap} {H:Hp} {b:Addr} {o:Obj} (e:(pD h H).get? b=some o):h.get? b=some o/\H b=none:=by
 have e':h.get? b=some o:=PySem.W.of_hideAll (trk h H) e
 refine ⟨e',?_⟩
 cases q:H b with
 | none=>rfl
 | some x =>
  have hm:b∈trk h H:=List.mem_filter.mpr ⟨Zm.mpr (Heap.lt_size e'),by simp [q]⟩
  have z:(pD h H).get? b=none:=PySem.W.hideAll_none (trk h H) hm
  rw [z] at e;cases e
def xN (g h:Heap) (L:Addr):List (Addr×Obj):=(List.range h.objs.size).filterMap fun a=>if a=L \/ (g.get? a).isSome=true then none else (h.get? a).map fun o=>(a,o)
def rest (g h:Heap) (L d:Addr):List (Addr×Obj):=(xN g h L).filter fun p=>decide (p.1 ≠ d)
end L2
namespace L2
open PySem PySem.Spec PyProof.Rows
structure Mod (K:PySem.W.Frag) (mg:Str->Option Value) (base:Heap):Prop where
 kin:K.In base
 glob:base.Ns mainGlobals mg
 blt:∃ mb,base.Ns builtinsNs mb/\∀ x:Str,x ≠ "__name__"->mb x=bootBuiltins x
 nolimit:base.NoLimit
structure Cx where
 prog:Program
 w:World
 K:PySem.W.Frag
 mg:Str->Option Value
 base:Heap
 A:Around
 N:List Str
 s₀:Shared
 H₀:Hp
 env:Env
 outer:List Env
 stack:List Env
 ex:List Addr
 fn:Str->Bool
 calm:Bool
 pn:List (Addr×Obj)
 xe:Value->Shared->Prop
def frs (l:List Env):List Addr:=l.filterMap (·.frame)
abbrev Cx.fs (X:Cx):List Addr:=frs X.outer
def Vis (sc:Scope) (x:Str):Prop:=sc.names.lookup x=some .local \/ sc.names.lookup x=some .cell \/ sc.names.lookup x=some .free
def Loc (sc:Scope) (x:Str):Prop:=sc.names.lookup x=some .local \/ sc.names.lookup x=some .cell
def BB (env:Env) (h:Heap) (m:Str->Option Value) (x:Str) (u:Value):Prop :=
 (env.kindOf x=some .local/\m x=some u) \/ ((env.kindOf x=some .cell \/ env.kindOf x=some .free)/\∃ c,env.cells.lookup x=some c/\h.IsCell c (some u))
structure Cx.Ok (X:Cx):Prop where
 mod:Mod X.K X.mg X.base
 kind:X.env.scope.kind=.function
 glob:X.env.globals=mainGlobals
 blt:X.env.builtins=builtinsNs
 above:X.s₀.heap.objs.size<=X.env.locals
 inj:∀ x y c,X.env.cells.lookup x=some c->X.env.cells.lookup y=some c->x=y
 has:∀ x,(X.env.kindOf x=some .cell \/ X.env.kindOf x=some .free)->∃ c,X.env.cells.lookup x=some c
 cab:∀ x c,X.fn x=true->X.env.cells.lookup x=some c->X.s₀.heap.objs.size<=c
 hd:X.calm=true->X.A.handled=none
 frames:X.A.frames=some X.stack
 stk:X.stack=X.outer \/ (X.stack=X.env :: X.outer/\X.env.frame=some X.env.locals)
 exf:∀ b∈X.ex,b ≠ X.env.locals/\∀ x c,X.env.cells.lookup x=some c->c ≠ b
 bs:∀ b o,X.base.get? b=some o->X.s₀.heap.get? b=some o/\X.H₀ b=none
 bsz:X.base.objs.size<=X.s₀.heap.objs.size
 noex:∀ b o,X.base.get? b=some o->b ∉ X.ex
 exfs:∀ b∈X.ex,b ∉ X.fs
 funs:X.s₀.heap.FunFrames X.base X.outer
 frf:∀ b∈X.fs,X.H₀ b=none
structure Inv (X:Cx) (pins:List (Addr×Obj)) (σ:List (Option V)) (H:Hp) (s:Shared):Prop where
 ok:X.Ok
 os:s.os=X.s₀.os
 bare:AllBare s.gens
 base:Un X.fs X.ex X.H₀ H X.s₀.heap s.heap
 loc:∃ m,s.heap.Ns X.env.locals m/\∀ (i:Nat) (x:Str) (v:V),X.N[i]? = some x->σ[i]? = some (some v)->Vis X.env.scope x->∃ u,RelV v u/\BB X.env s.heap m x u
 cell:∀ x c,X.env.cells.lookup x=some c->∃ v,s.heap.IsCell c v
 free:H X.env.locals=none
 freeC:∀ x c,X.env.cells.lookup x=some c->H c=none
 pin:∀ p∈X.pn++pins,s.heap.get? p.1=some p.2/\H p.1=none/\p.1 ≠ X.env.locals/\p.1 ∉ X.fs/\∀ v,p.2.data ≠ .cell v
 hok:HOk X.prog X.w H s.heap
 len:σ.length=X.N.length
section
variable {X:Cx} {pins:List (Addr×Obj)} {σ:List (Option V)} {H H':Hp} {s:Shared} {h':Heap}
theorem Cx.Ok.nofr (ok:X.Ok) {b:Addr} {o:Obj} (e:X.base.get? b=some o):b ∉ X.fs:=fun hb=>by
 have:=(ok.funs.mem hb).1
 rw [e] at this;cases this
theorem Inv.bs (I:Inv X pins σ H s):∀ b o,X.base.get? b=some o->s.heap.get? b=some o/\H b=none:=fun b o e =>
 ⟨I.base.keep b o (I.ok.bs b o e).1 (I.ok.bs b o e).2 (I.ok.nofr e) (I.ok.noex b o e),I.base.free b o (I.ok.bs b o e).1 (I.ok.bs b o e).2 (I.ok.noex b o e)⟩
theorem Inv.bk (I:Inv X pins σ H s):∀ b o,X.base.get? b=some o->s.heap.get? b=some o:=fun b o e=>(I.bs b o e).1
theorem Inv.mod (I:Inv X pins σ H s):Mod X.K X.mg X.base:=I.ok.mod
theorem Inv.kIn (I:Inv X pins σ H s):X.K.In s.heap:=I.ok.mod.kin.keeps I.bk
theorem Inv.lt (I:Inv X pins σ H s):X.env.locals < s.heap.objs.size:=let ⟨_,hn,_⟩:=I.loc;hn.lt
theorem Inv.sz (I:Inv X pins σ H s):X.s₀.heap.objs.size<=s.heap.objs.size:=Nat.le_trans I.ok.above (Nat.le_of_lt I.lt)
theorem Inv.nofs (I:Inv X pins σ H s) {a:Addr} (h:s.heap.objs.size<=a):a ∉ X.fs:=fun hb=>by
 obtain ⟨_,o,ho,_⟩:=I.ok.funs.mem hb
 exact absurd (Nat.lt_of_lt_of_le (Heap.lt_size ho) (Nat.le_trans I.sz h)) (Nat.lt_irrefl _)
theorem Inv.cne (I:Inv X pins σ H s):∀ x c,X.env.cells.lookup x=some c->c ≠ X.env.locals:=fun x c e z=>by
 obtain ⟨v,o,ho,hd⟩:=I.cell x c e
 obtain ⟨m,⟨o',es,ep,ho',hd',_⟩,_⟩:=I.loc
 rw [z,ho'] at ho;cases ho;rw [hd'] at hd;cases hd
theorem Inv.funs (I:Inv X pins σ H s):s.heap.FunFrames X.base X.outer:=by
 have all:∀ (l:List Env),(∀ b∈frs l,b∈X.fs)->X.s₀.heap.FunFrames X.base l->s.heap.FunFrames X.base l:=by
  intro l
  induction l with
  | nil=>intro _ _;trivial
  | cons env r ih =>
   intro hs hl
   obtain ⟨hk,⟨L,o,hf,hn,ho,hd⟩,hr⟩:=hl
   have hL:L∈X.fs:=hs L (by unfold frs;rw [List.filterMap_cons,hf];exact Zk)
   obtain ⟨sl,e⟩:=I.base.slot L o ho (I.ok.frf L hL) hL fun z=>I.ok.exfs L z hL
   exact ⟨hk,⟨L,_,hf,hn,e,hd⟩,ih (fun b hb=>hs b (by unfold frs;rw [List.filterMap_cons,hf];exact Zl _ hb)) hr⟩
 exact all X.outer (fun _ hb=>hb) I.ok.funs
theorem Inv.stack (I:Inv X pins σ H s):s.heap.FunFrames X.base X.stack:=by
 rcases I.ok.stk with e | ⟨e,hf⟩
 . rw [e];exact I.funs
 . rw [e]
   obtain ⟨m,hn,_⟩:=I.loc
   refine .cons (by rw [I.ok.kind];decide) hf hn ?_ I.funs
   exact Heap.get?_none_of_le (Nat.le_trans I.ok.bsz I.ok.above)
theorem Inv.stkSub (I:Inv X pins σ H s):∀ b∈frs X.stack,b∈X.env.locals :: X.fs:=fun b hb=>by
 rcases I.ok.stk with e | ⟨e,hf⟩
 . rw [e] at hb;exact Zl _ hb
 . rw [e] at hb
   unfold frs at hb
   rw [List.filterMap_cons,hf] at hb
   exact hb
theorem Inv.stkFree (I:Inv X pins σ H s):∀ b∈frs X.stack,H b=none:=fun b hb=>by
 rcases Zo.mp (I.stkSub b hb) with e | hb
 . rw [e];exact I.free
 . obtain ⟨_,o,ho,_⟩:=I.ok.funs.mem hb
   exact I.base.free b o ho (I.ok.frf b hb) fun z=>I.ok.exfs b z hb
theorem Inv.step {g':Array GenState} {t':Nat} {d':Drawn} {ch:List Addr} (I:Inv X pins σ H s)
 (hch:∀ b∈ch,(b∈X.ex \/ X.s₀.heap.objs.size<=b)/\b ≠ X.env.locals/\(∀ x c,X.env.cells.lookup x=some c->c ≠ b)/\∀ p∈X.pn++pins,p.1 ≠ b)
 (keep:∀ b o,b ≠ X.env.locals->b ∉ X.fs->b ∉ ch->s.heap.get? b=some o->H b=none->h'.get? b=some o)
 (slot:∀ b o,b ≠ X.env.locals->b∈X.fs->b ∉ ch->s.heap.get? b=some o->H b=none->∃ sl,h'.get? b=some { o with slots:=sl }) (free:∀ b o,b ∉ ch->s.heap.get? b=some o->H b=none->H' b=none)
 (there:∀ b o,b ∉ ch->s.heap.get? b=some o->∃ o',h'.get? b=some o')
 (tups:∀ b xs,H b=some (.tup xs)->H' b=some (.tup xs)) (frzs:∀ b o u,H b=some (.frz o u)->H' b=some (.frz o u)) (tbls:∀ b ps,H b=some (.tbl ps)->∃ more,H' b=some (.tbl (ps++more)))
 (ns:∀ m,s.heap.Ns X.env.locals m->h'.Ns X.env.locals m) (hok:HOk X.prog X.w H' h') (hg:AllBare g') :
 Inv X pins σ H' { s with heap:=h',gens:=g',drawn:=d',toks:=t' }:=by
 have neL:∀ b o,X.s₀.heap.get? b=some o->b ≠ X.env.locals:=fun b o e=>Nat.ne_of_lt (Nat.lt_of_lt_of_le (Heap.lt_size e) I.ok.above)
 have neC:∀ b o,X.s₀.heap.get? b=some o->b ∉ X.ex->b ∉ ch:=fun b o e hx hb=>by
  rcases (hch b hb).1 with z | z
  . exact hx z
  . exact absurd (Nat.lt_of_lt_of_le (Heap.lt_size e) z) (Nat.lt_irrefl _)
 have cellK:∀ x c,X.env.cells.lookup x=some c->∀ v,s.heap.IsCell c v->h'.IsCell c v:=fun x c e v ⟨o,ho,hd⟩=>by
  have nch:c ∉ ch:=fun z=>(hch c z).2.2.1 x c e rfl
  by_cases hc:c∈X.fs
  . obtain ⟨sl,q⟩:=slot c o (I.cne x c e) hc nch ho (I.freeC x c e)
    exact ⟨_,q,hd⟩
  . exact ⟨o,keep c o (I.cne x c e) hc nch ho (I.freeC x c e),hd⟩
 refine ⟨I.ok,I.os,hg,⟨fun b o e n hb hx=>?_,fun b o e n hb hx=>?_,fun b o e n hx=>?_,fun b o e hx=>?_,fun b xs e=>tups b xs (I.base.tups b xs e),fun b o xs e=>frzs b o xs (I.base.frzs b o xs e),fun b ps e=>?_⟩,?_,fun x c e=>?_,?_,fun x c e=>?_,fun p hp=>?_,hok,I.len⟩
 . exact keep b o (neL b o e) hb (neC b o e hx) (I.base.keep b o e n hb hx) (I.base.free b o e n hx)
 . obtain ⟨sl,e1⟩:=I.base.slot b o e n hb hx
   obtain ⟨sl',e2⟩:=slot b _ (neL b o e) hb (neC b o e hx) e1 (I.base.free b o e n hx)
   exact ⟨sl',e2⟩
 . obtain ⟨o',e1⟩:=I.base.there b o e hx
   exact free b o' (neC b o e hx) e1 (I.base.free b o e n hx)
 . obtain ⟨o',e1⟩:=I.base.there b o e hx
   exact there b o' (neC b o e hx) e1
 . obtain ⟨m1,e1⟩:=I.base.tbls b ps e
   obtain ⟨m2,e2⟩:=tbls b _ e1
   exact ⟨m1++m2,by rw [e2,Array.append_assoc]⟩
 . obtain ⟨m,hn,hl⟩:=I.loc
   refine ⟨m,ns m hn,fun i x v e1 e2 e3=>?_⟩
   obtain ⟨u,r,l⟩:=hl i x v e1 e2 e3
   refine ⟨u,r,?_⟩
   rcases l with l | ⟨k,c,e,z⟩
   . exact .inl l
   . exact .inr ⟨k,c,e,cellK x c e _ z⟩
 . obtain ⟨v,z⟩:=I.cell x c e
   exact ⟨v,cellK x c e v z⟩
 . obtain ⟨m,⟨o,_,_,ho,_⟩,_⟩:=I.loc
   exact free _ o (fun z=>(hch _ z).2.1 rfl) ho I.free
 . obtain ⟨v,o,ho,hd⟩:=I.cell x c e
   exact free c o (fun z=>(hch c z).2.2.1 x c e rfl) ho (I.freeC x c e)
 . obtain ⟨e,n,ne,nf,d⟩:=I.pin p hp
   have nch:p.1 ∉ ch:=fun z=>(hch p.1 z).2.2.2 p hp rfl
   exact ⟨keep p.1 p.2 ne nf nch e n,free p.1 p.2 nch e n,ne,nf,d⟩
theorem Inv.un {t':Nat} (I:Inv X pins σ H s) (u:Un X.fs [] H H' s.heap h') (hok:HOk X.prog X.w H' h'):Inv X pins σ H' { s with heap:=h',toks:=t' }:=by
 obtain ⟨m,⟨o,es,ep,ho,r⟩,_⟩:=id I.loc
 obtain ⟨sl,hL⟩:=u.any ho I.free (by simp)
 exact I.step (g':=s.gens) (d':=s.drawn) (ch:=[]) (fun _ z=>nomatch z) (fun b o _ hb _ e n=>u.keep b o e n hb (by simp)) (fun b o _ hb _ e n=>u.slot b o e n hb (by simp)) (fun b o _ e n=>u.free b o e n (by simp)) (fun b o _ e=>u.there b o e (by simp)) u.tups u.frzs u.tbls (fun m' hm=>by
  obtain ⟨o',es',ep',ho',r'⟩:=hm
  rw [ho] at ho';cases ho'
  exact ⟨_,es',ep',hL,r'⟩) hok I.bare
theorem Inv.call {g':Array GenState} {t':Nat} {d':Drawn} {ch:List Addr} (I:Inv X pins σ H s) (u:Un (frs X.stack) ch H H' s.heap h') (hok:HOk X.prog X.w H' h') (hg:AllBare g')
 (hch:∀ b∈ch,(b∈X.ex \/ X.s₀.heap.objs.size<=b)/\b ≠ X.env.locals/\(∀ x c,X.env.cells.lookup x=some c->c ≠ b)/\∀ p∈X.pn++pins,p.1 ≠ b) :
 Inv X pins σ H' { s with heap:=h',gens:=g',drawn:=d',toks:=t' }:=by
 obtain ⟨m,⟨o,es,ep,ho,r⟩,_⟩:=id I.loc
 obtain ⟨sl,hL⟩:=u.any ho I.free fun z=>(hch _ z).2.1 rfl
 exact I.step (ch:=ch) hch (fun b o hL hb hc e n=>u.keep b o e n (fun z=>(Zo.mp (I.stkSub b z)).elim hL hb) hc) (fun b o _ _ hc e n=>u.any e n hc) (fun b o hc e n=>u.free b o e n hc) (fun b o hc e=>u.there b o e hc) u.tups u.frzs u.tbls (fun m' hm=>by
  obtain ⟨o',es',ep',ho',r'⟩:=hm
  rw [ho] at ho';cases ho'
  exact ⟨_,es',ep',hL,r'⟩) hok hg
theorem Inv.turned {t':Nat} {it:Addr} (I:Inv X pins σ H s) (k:∀ b o,b ≠ it->s.heap.get? b=some o->h'.get? b=some o) (hn:H it=none) (hL:it ≠ X.env.locals)
 (h1:it∈X.ex \/ X.s₀.heap.objs.size<=it) (h2:∀ x c,X.env.cells.lookup x=some c->c ≠ it) (h3:∀ p∈X.pn++pins,p.1 ≠ it):Inv X pins σ H { s with heap:=h',toks:=t' }:=by
 have nit:∀ b u,H b=some u->b ≠ it:=fun b u e z=>by rw [z,hn] at e;cases e
 refine I.step (g':=s.gens) (d':=s.drawn) (ch:=[it]) (fun b hb=>?_) (fun b o _ _ hc e _=>k b o (fun z=>hc (by simp [z])) e) (fun b o _ _ hc e _=>⟨o.slots,k b o (fun z=>hc (by simp [z])) e⟩) (fun _ _ _ _ n=>n)
  (fun b o hc e=>⟨o,k b o (fun z=>hc (by simp [z])) e⟩) (fun _ _ e=>e) (fun _ _ _ e=>e) (fun b ps e=>⟨#[],by rw [e];simp⟩) (fun m hm=>?_) (fun b u e=>?_) I.bare
 . have e:b=it:=by simpa using hb
   subst e
   exact ⟨h1,hL,h2,h3⟩
 . obtain ⟨o,es,ep,ho,r⟩:=hm
   exact ⟨o,es,ep,k _ o (Ne.symm hL) ho,r⟩
 . refine (I.hok b u e).stay (fun c v hc q=>k c v ?_ q) (fun _ q=>q) fun _ _ q=>q
   rcases hc with z | z
   . rw [z];exact nit b u e
   . exact nit c _ z
theorem Inv.tok (I:Inv X pins σ H s) (t:Nat):Inv X pins σ H { s with toks:=t }:=I.un (h':=s.heap) (t':=t) Un.refl I.hok
theorem Inv.kept {t':Nat} (I:Inv X pins σ H s) (k:∀ b u,s.heap.get? b=some u->h'.get? b=some u):Inv X pins σ H { s with heap:=h',toks:=t' }:=I.un (Un.kept k) (I.hok.kept k)
theorem Inv.laid {a:Addr} {o:HO} {t':Nat} (I:Inv X pins σ H s) (k:∀ b u,s.heap.get? b=some u->h'.get? b=some u) (hp:s.heap.objs.size<=a) (new:ObjOk X.prog X.w (upd H a o) h' a o) :
 Inv X pins σ (upd H a o) { s with heap:=h',toks:=t' }:=I.un (Un.laid k hp (I.hok.fresh hp)) (I.hok.laid k hp new)
theorem Inv.write {x e:Addr} {o:HO} {t':Nat} (I:Inv X pins σ H s) (mu:Mut (H x)) (he:e=x \/ H e=some (.own x)) (k:∀ b u,b ≠ e->s.heap.get? b=some u->h'.get? b=some u) (heo:∃ u,h'.get? e=some u)
 (new:ObjOk X.prog X.w (upd H x o) h' x o):Inv X pins σ (upd H x o) { s with heap:=h',toks:=t' }:=I.un (Un.write mu he k heo) (I.hok.write mu he k heo new)
theorem Inv.pins_of {pins':List (Addr×Obj)} (I:Inv X pins σ H s) (h:∀ p∈pins',s.heap.get? p.1=some p.2/\H p.1=none/\p.1 ≠ X.env.locals/\p.1 ∉ X.fs/\∀ v,p.2.data ≠ .cell v):Inv X pins' σ H s :=
 ⟨I.ok,I.os,I.bare,I.base,I.loc,I.cell,I.free,I.freeC,fun p hp=>(Zn.mp hp).elim (fun z=>I.pin p (List.mem_append_left _ z)) (h p),I.hok,I.len⟩
theorem qB {N:List Str} (hN:N.Nodup) {i j:Nat} {x:Str} (a:N[i]? = some x) (b:N[j]? = some x):i=j:=by
 obtain ⟨h1,e1⟩:=List.getElem?_eq_some_iff.mp a
 obtain ⟨h2,e2⟩:=List.getElem?_eq_some_iff.mp b
 exact (List.getElem_inj hN).mp (e1.trans e2.symm)
theorem oa {M:Model} {A:Around} {E:Value->Shared->Prop} {i:Nat} {x:Str} {v:V} {u:Value} {Q:Unit->Shared->Prop} (I:Inv X pins σ H s) (hN:X.N.Nodup) (hi:X.N[i]? = some x) (hx:Loc X.env.scope x) (r:RelV v u)
 (h:∀ s',Inv X pins (σ.set i (some v)) H s'->(∃ a,Heap.SameBut a s.heap s'.heap/\(a=X.env.locals \/ X.env.cells.lookup x=some a))->Q () s') (hf:X.fn x=true \/ X.env.scope.names.lookup x=some .local:=by first | exact .inl rfl | exact .inr rfl | assumption):wpAny M A (storeName X.env x u) Q E s:=by
 obtain ⟨m,hn,hl⟩:=id I.loc
 have hcls:(X.env.scope.kind == .class || (X.env.scope.kind == .module && X.env.locals != X.env.globals))=false:=by rw [I.ok.kind];rfl
 have hiσ:i < σ.length:=by rw [I.len];exact (List.getElem?_eq_some_iff.mp hi).1
 have cne:=I.cne
 have tracked:∀ {a:Addr} {h':Heap},(∃ o,s.heap.get? a=some o/\H a=none)->Heap.SameBut a s.heap h'->HOk X.prog X.w H h':=fun {a h'} ha hs b ob e=>by
  obtain ⟨_,_,hfree⟩:=ha
  refine (I.hok b ob e).stay (fun c w' hc q=>(hs.2 c ?_).trans q) (fun _ q=>q) fun _ _ q=>q
  rintro rfl
  rcases hc with rfl | hc
  . rw [hfree] at e;cases e
  . rw [hfree] at hc;cases hc
 rcases hx with hk | hk
 . refine wpAny_storeName_local hk hn (fun h' hn' hs=>?_) hcls
   obtain ⟨oL,_,_,hoL,_⟩:=id hn
   refine h _ ⟨I.ok,I.os,I.bare,⟨fun b o e n hb hx=>?_,fun b o e n hb hx=>?_,I.base.free,fun b o e hx=>?_,I.base.tups,I.base.frzs,I.base.tbls⟩,⟨_,hn',fun j y v' e1 e2 e3=>?_⟩,fun y c e=>?_,I.free,I.freeC,fun p hp=>?_,tracked ⟨oL,hoL,I.free⟩ hs,by simpa using I.len⟩ ⟨_,hs,.inl rfl⟩
   . exact (hs.2 b (Nat.ne_of_lt (Nat.lt_of_lt_of_le (Heap.lt_size e) I.ok.above))).trans (I.base.keep b o e n hb hx)
   . obtain ⟨sl,e1⟩:=I.base.slot b o e n hb hx
     exact ⟨sl,(hs.2 b (Nat.ne_of_lt (Nat.lt_of_lt_of_le (Heap.lt_size e) I.ok.above))).trans e1⟩
   . obtain ⟨o',e1⟩:=I.base.there b o e hx
     exact ⟨o',(hs.2 b (Nat.ne_of_lt (Nat.lt_of_lt_of_le (Heap.lt_size e) I.ok.above))).trans e1⟩
   . by_cases hj:j=i
     . subst hj
       rw [hi] at e1;cases e1
       rw [List.getElem?_set_self hiσ] at e2
       cases e2
       exact ⟨u,r,.inl ⟨hk,by simp⟩⟩
     . rw [List.getElem?_set_ne (Ne.symm hj)] at e2
       obtain ⟨u',r',q⟩:=hl j y v' e1 e2 e3
       refine ⟨u',r',?_⟩
       rcases q with ⟨k,e⟩ | ⟨k,c,e,z⟩
       . refine .inl ⟨k,?_⟩
         have:y ≠ x:=fun e=>hj (qB hN e1 (e ▸ hi))
         simp [this,e]
       . exact .inr ⟨k,c,e,z.sameBut hs (cne y c e)⟩
   . obtain ⟨w',z⟩:=I.cell y c e
     exact ⟨w',z.sameBut hs (cne y c e)⟩
   . obtain ⟨e,n,ne,nf,d⟩:=I.pin p hp
     exact ⟨(hs.2 p.1 ne).trans e,n,ne,nf,d⟩
 . have hfn:X.fn x=true:=by
    rcases hf with z | z
    . exact z
    . rw [z] at hk;cases hk
   obtain ⟨c,hc⟩:=I.ok.has x (.inl hk)
   obtain ⟨w',z⟩:=I.cell x c hc
   refine wpAny_storeName_cell I.ok.kind hk hc z (fun h' hc' hs=>?_)
   obtain ⟨oc,hoc,hocd⟩:=id z
   refine h { s with heap:=h' } ⟨I.ok,I.os,I.bare,⟨fun b o e n hb hx=>?_,fun b o e n hb hx=>?_,I.base.free,fun b o e hx=>?_,I.base.tups,I.base.frzs,I.base.tbls⟩,⟨m,hn.sameBut hs (Ne.symm (cne x c hc)),fun j y v' e1 e2 e3=>?_⟩,fun y c' e=>?_,I.free,I.freeC,fun p hp=>?_,tracked ⟨oc,hoc,I.freeC x c hc⟩ hs,by simpa using I.len⟩ ⟨c,hs,.inr hc⟩
   . exact (hs.2 b (Nat.ne_of_lt (Nat.lt_of_lt_of_le (Heap.lt_size e) (I.ok.cab x c hfn hc)))).trans (I.base.keep b o e n hb hx)
   . obtain ⟨sl,e1⟩:=I.base.slot b o e n hb hx
     exact ⟨sl,(hs.2 b (Nat.ne_of_lt (Nat.lt_of_lt_of_le (Heap.lt_size e) (I.ok.cab x c hfn hc)))).trans e1⟩
   . obtain ⟨o',e1⟩:=I.base.there b o e hx
     exact ⟨o',(hs.2 b (Nat.ne_of_lt (Nat.lt_of_lt_of_le (Heap.lt_size e) (I.ok.cab x c hfn hc)))).trans e1⟩
   . by_cases hj:j=i
     . subst hj
       rw [hi] at e1;cases e1
       rw [List.getElem?_set_self hiσ] at e2
       cases e2
       exact ⟨u,r,.inr ⟨.inl hk,c,hc,hc'⟩⟩
     . rw [List.getElem?_set_ne (Ne.symm hj)] at e2
       obtain ⟨u',r',q⟩:=hl j y v' e1 e2 e3
       refine ⟨u',r',?_⟩
       rcases q with q | ⟨k,c',e,z'⟩
       . exact .inl q
       . refine .inr ⟨k,c',e,z'.sameBut hs ?_⟩
         rintro rfl
         exact hj (qB hN e1 (I.ok.inj _ _ _ e hc ▸ hi))
   . by_cases hcc:c'=c
     . subst hcc;exact ⟨_,hc'⟩
     . obtain ⟨w2,z2⟩:=I.cell y c' e
       exact ⟨w2,z2.sameBut hs hcc⟩
   . obtain ⟨e,n,ne,nf,d⟩:=I.pin p hp
     refine ⟨(hs.2 p.1 ?_).trans e,n,ne,nf,d⟩
     intro q
     rw [q,hoc] at e
     have q':oc=p.2:=Option.some.inj e
     exact d w' (by rw [<- q'];exact hocd)
theorem j0 {M:Model} {A:Around} {E:Value->Shared->Prop} {i:Nat} {x:Str} {v:V} {u:Value} {Q:Unit->Shared->Prop} (I:Inv X pins σ H s) (hN:X.N.Nodup) (hi:X.N[i]? = some x) (hx:Loc X.env.scope x) (r:RelV v u)
 (h:∀ s',Inv X pins (σ.set i (some v)) H s'->Q () s') (hf:X.fn x=true \/ X.env.scope.names.lookup x=some .local:=by first | exact .inl rfl | exact .inr rfl | assumption):wpAny M A (storeName X.env x u) Q E s :=
 oa I hN hi hx r (fun s' I' _=>h s' I') hf
theorem Inv.call' {s':Shared} {ch:List Addr} (I:Inv X pins σ H s) (ho:s'.os=s.os) (u:Un (frs X.stack) ch H H' s.heap s'.heap) (hok:HOk X.prog X.w H' s'.heap) (hg:AllBare s'.gens)
 (hch:∀ b∈ch,(b∈X.ex \/ X.s₀.heap.objs.size<=b)/\b ≠ X.env.locals/\(∀ x c,X.env.cells.lookup x=some c->c ≠ b)/\∀ p∈X.pn++pins,p.1 ≠ b):Inv X pins σ H' s':=by
 obtain ⟨h',g',d',t',o'⟩:=s'
 have e:o'=s.os:=ho
 subst e
 exact I.call (g':=g') (t':=t') (d':=d') u hok hg hch
end
abbrev XK:=Value->Option Addr->Hp->Prop
abbrev St:=List (Option V)
abbrev VK:=V->Hp->Prop
abbrev TE:=St->Hp->VK->Prop
abbrev TT:=St->Hp->(Bool->Hp->Prop)->Prop
abbrev TA:=St->Hp->(List V->Hp->Prop)->Prop
structure nP where
 nx:St->Hp->Prop
 rt:VK
 bk:St->Hp->Prop:=fun _ _=>False
 ct:St->Hp->Prop:=fun _ _=>False
abbrev TS:=nP->St->Hp->Prop
def EP (X:Cx) (pins:List (Addr×Obj)) (σ:St) (Q:VK) (u:Value) (s':Shared):Prop:=∃ v H',Inv X pins σ H' s'/\RelV v u/\Q v H'
def TP (X:Cx) (pins:List (Addr×Obj)) (σ:St) (Q:Bool->Hp->Prop) (b:Bool) (s':Shared):Prop:=∃ H',Inv X pins σ H' s'/\Q b H'
def AP (X:Cx) (pins:List (Addr×Obj)) (σ:St) (Q:List V->Hp->Prop) (us:List Value) (s':Shared):Prop:=∃ vs H',Inv X pins σ H' s'/\Vals vs us/\Q vs H'
def SP (X:Cx) (pins:List (Addr×Obj)) (D:nP) (f:Flow) (s':Shared):Prop :=
 match f with
 | .next=>∃ σ' H',Inv X pins σ' H' s'/\D.nx σ' H'
 | .brk=>∃ σ' H',Inv X pins σ' H' s'/\D.bk σ' H'
 | .cont=>∃ σ' H',Inv X pins σ' H' s'/\D.ct σ' H'
 | .ret u=>∃ v σ' H',Inv X pins σ' H' s'/\RelV v u/\D.rt v H'
def PE (X:Cx) (e:Expr) (t:TE):Prop :=
 ∀ (pins:List (Addr×Obj)) (s:Shared) (σ:St) (H:Hp) (Q:VK),Inv X pins σ H s->t σ H Q->wpAny (model X.prog X.w) X.A (eval e X.env) (EP X pins σ Q) X.xe s
def PT (X:Cx) (e:Expr) (t:TT):Prop :=
 ∀ (pins:List (Addr×Obj)) (s:Shared) (σ:St) (H:Hp) (Q:Bool->Hp->Prop),Inv X pins σ H s->t σ H Q->wpAny (model X.prog X.w) X.A (isTrue e X.env (eval e X.env)) (TP X pins σ Q) X.xe s
def PW (X:Cx) (e:Expr) (t:TT):Prop :=
 ∀ (whole:Sem Value) (pins:List (Addr×Obj)) (s:Shared) (σ:St) (H:Hp) (Q:Bool->Hp->Prop),Inv X pins σ H s->t σ H Q->wpAny (model X.prog X.w) X.A (isTrue e X.env whole) (TP X pins σ Q) X.xe s
def PA (X:Cx) (es:List Expr) (t:TA):Prop :=
 ∀ (pos:Pos) (pins:List (Addr×Obj)) (s:Shared) (σ:St) (H:Hp) (Q:List V->Hp->Prop),Inv X pins σ H s->t σ H Q->wpAny (model X.prog X.w) X.A (spliced (backTo pos (starEach es X.env))) (AP X pins σ Q) X.xe s
def PS (X:Cx) (st:Stmt) (t:TS):Prop :=
 ∀ (pins:List (Addr×Obj)) (s:Shared) (σ:St) (H:Hp) (D:nP),Inv X pins σ H s->t D σ H->wpAny (model X.prog X.w) X.A (exec st X.env) (SP X pins D) X.xe s
def PSs (X:Cx) (st:List Stmt) (t:TS):Prop :=
 ∀ (pins:List (Addr×Obj)) (s:Shared) (σ:St) (H:Hp) (D:nP),Inv X pins σ H s->t D σ H->wpAny (model X.prog X.w) X.A (execs st X.env) (SP X pins D) X.xe s
theorem thn {α:Type} {t:Sem α} {Q Q':α->Shared->Prop} {M:Model} {A:Around} {E:Value->Shared->Prop} {s:Shared} (h:wpAny M A t Q E s) (hQ:∀ a s,Q a s->Q' a s):wpAny M A t Q' E s:=wpAny_mono h hQ fun _ _ x=>x
end L2
namespace L2
open PySem PySem.Spec PyProof.Rows
section
variable {X:Cx}
def mD (i:Nat):TE:=fun σ H Q=>∃ v,σ[i]? = some (some v)/\Q v H
def tC (v:V):TE:=fun _ H Q=>Q v H
theorem pi {i:Nat} {x:Str} {pos:Pos} (hN:X.N[i]? = some x) (hv:Vis X.env.scope x) (hd:(x == ("__debug__":Str))=false:=by decide) (hcd:(x == ("__classdict__":Str))=false:=by decide):PE X (.Name x pos) (mD i):=by
 intro pins s σ H Q I h
 obtain ⟨v,e,h⟩:=h
 obtain ⟨m,hn,hl⟩:=I.loc
 obtain ⟨u,r,l⟩:=hl i x v hN e hv
 have fin:EP X pins σ Q u s:=⟨v,H,I,r,h⟩
 rcases l with ⟨hk,hm⟩ | ⟨hk,c,hc,hcell⟩
 . exact wpAny_Name (wpAny_loadName_local I.ok.kind hk hn hm fin) hd
 . rcases hk with hk | hk
   . exact wpAny_Name (wpAny_loadName_cell I.ok.kind hk hc hcell fin) hd
   . exact wpAny_Name (wpAny_loadName_free I.ok.kind hk hc hcell fin hcd) hd
theorem yT {i j pos}:PE X (.Constant (.int i) j pos) (tC (.int i)):=fun _ _ _ H _ I h=>wpAny_Constant_int ⟨.int i,H,I.tok _,⟨_,rfl⟩,h⟩
theorem Az {b j pos}:PE X (.Constant (.bool b) j pos) (tC (.bl b)):=fun _ _ _ H _ I h=>Constant_bool ⟨.bl b,H,I,rfl,h⟩
theorem yS {j pos}:PE X (.Constant .none j pos) (tC .non):=fun _ _ _ H _ I h=>Constant_none ⟨.non,H,I,rfl,h⟩
theorem yP {x j pos}:PE X (.Constant (.str x) j pos) (tC (.str x)):=fun _ _ _ H _ I h=>Calls.Constant_str ⟨.str x,H,I.tok _,⟨_,rfl⟩,h⟩
def Gl (X:Cx) (x:Str):Prop:=X.env.kindOf x=some .globalImplicit
theorem xq {E:Value->Shared->Prop} {pins:List (Addr×Obj)} {s:Shared} {σ:St} {H:Hp} {x:Str} {u:Value} {pos:Pos} {Q:Value->Shared->Prop} (I:Inv X pins σ H s) (hg:Gl X x) (hm:X.mg x=some u) (h:Q u s)
 (hd:(x == ("__debug__":Str))=false:=by decide):wpAny (model X.prog X.w) X.A (eval (.Name x pos) X.env) Q E s :=
 Calls.Name_function_global I.ok.kind hg (Calls.loadGlobal_global (by rw [I.ok.glob];exact I.mod.glob.keeps I.bk) hm h) hd
theorem nh {E:Value->Shared->Prop} {pins:List (Addr×Obj)} {s:Shared} {σ:St} {H:Hp} {x:Str} {u:Value} {pos:Pos} {Q:Value->Shared->Prop} (I:Inv X pins σ H s) (hg:Gl X x) (hm:X.mg x=none) (hv:bootBuiltins x=some u) (h:Q u s)
 (hn:x ≠ "__name__":=by decide) (hd:(x == ("__debug__":Str))=false:=by decide):wpAny (model X.prog X.w) X.A (eval (.Name x pos) X.env) Q E s:=by
 obtain ⟨mb,h1,h2⟩:=I.mod.blt
 exact Calls.Name_function_global I.ok.kind hg (Calls.loadGlobal_builtin (by rw [I.ok.glob];exact I.mod.glob.keeps I.bk) hm (by rw [I.ok.blt];exact h1.keeps I.bk) ((h2 x hn).trans hv) h) hd
theorem xc {x:Str} {v:V} {u:Value} {pos:Pos} (hg:Gl X x) (hm:X.mg x=none) (hv:bootBuiltins x=some u) (r:RelV v u) (hn:x ≠ "__name__":=by decide) (hd:(x == ("__debug__":Str))=false:=by decide):PE X (.Name x pos) (tC v) :=
 fun _ _ _ H _ I h=>nh I hg hm hv ⟨v,H,I,r,h⟩ hn hd
variable {a b:Expr} {ta tb:TE} {pos:Pos}
def tB (t:TE):TT:=fun σ H Q=>t σ H fun x H1=>∃ c,x=.bl c/\Q c H1
theorem yK {e:Expr} {t:TE} (h:PE X e t) (he:∀ whole,isTrue e X.env whole=(do let v <- whole;standAt e.pos;holding [v] (truthy v)):=by intro _;rfl):PT X e (tB t):=by
 intro pins s σ H Q I hw
 refine isTrue_plain (thn (h pins s σ H _ I hw) fun v s1 ⟨x,H1,I1,r1,q1⟩=>?_) (he _)
 obtain ⟨d,rfl,q⟩:=q1
 cases r1
 exact wpAny_truthy_bool ⟨H1,I1,q⟩
variable {tA tB':TT} {rest:List Expr}
def Br (t u:TT):TT:=fun σ H Q=>t σ H fun c H1=>if c=true then u σ H1 Q else Q false H1
def tOr (t u:TT):TT:=fun σ H Q=>t σ H fun c H1=>if c=true then Q true H1 else u σ H1 Q
def Bm (t:TT):TT:=fun σ H Q=>t σ H fun c H1=>Q (!c) H1
theorem wQ (ha:PT X a tA):PW X (.BoolOp .And [a] pos) tA:=by
 intro wh pins s σ H Q I h
 refine isTrue_and (thn (ha pins s σ H Q I h) fun c s1 e=>?_)
 cases c with
 | true=>exact isTrue_and_nil e
 | false=>exact e
theorem yH (ha:PT X a tA):PW X (.BoolOp .Or [a] pos) tA:=by
 intro wh pins s σ H Q I h
 refine isTrue_or (thn (ha pins s σ H Q I h) fun c s1 e=>?_)
 cases c with
 | false=>exact isTrue_or_nil e
 | true=>exact e
theorem yI (ha:PT X a tA) (hb:PW X (.BoolOp .And (b :: rest) pos) tB'):PW X (.BoolOp .And (a :: b :: rest) pos) (Br tA tB'):=by
 intro wh pins s σ H Q I h
 refine isTrue_and (thn (ha pins s σ H _ I h) fun c s1 ⟨H1,I1,q1⟩=>?_)
 cases c with
 | true=>exact hb wh pins s1 σ H1 Q I1 q1
 | false=>exact ⟨H1,I1,q1⟩
theorem Au (ha:PT X a tA) (hb:PW X (.BoolOp .Or (b :: rest) pos) tB'):PW X (.BoolOp .Or (a :: b :: rest) pos) (tOr tA tB'):=by
 intro wh pins s σ H Q I h
 refine isTrue_or (thn (ha pins s σ H _ I h) fun c s1 ⟨H1,I1,q1⟩=>?_)
 cases c with
 | true=>exact ⟨H1,I1,q1⟩
 | false=>exact hb wh pins s1 σ H1 Q I1 q1
theorem yL (ha:PT X a tA):PT X (.UnaryOp .Not a pos) (Bm tA):=by
 intro pins s σ H Q I h
 exact isTrue_not (ha pins s σ H (fun c H1=>Q (!c) H1) I h)
def Ac (ta tb:TE):TE:=fun σ H Q=>ta σ H fun x H1=>∃ c,x=.bl c/\if c=true then tb σ H1 Q else Q (.bl false) H1
def Bl (ta tb:TE):TE:=fun σ H Q=>ta σ H fun x H1=>∃ c,x=.bl c/\if c=true then Q (.bl true) H1 else tb σ H1 Q
def z7 (ta:TE):TE:=fun σ H Q=>ta σ H fun x H1=>∃ c,x=.bl c/\Q (.bl (!c)) H1
theorem yQ {op} {t:TE} (h:PE X a t):PE X (.BoolOp op [a] pos) t:=fun pins s σ H Q I hw=>BoolOp_one (h pins s σ H Q I hw)
theorem yV (ha:PE X a ta) (hb:PE X (.BoolOp .And (b :: rest) pos) tb):PE X (.BoolOp .And (a :: b :: rest) pos) (Ac ta tb):=by
 intro pins s σ H Q I h
 refine BoolOp_and (thn (ha pins s σ H _ I h) fun v s1 ⟨x,H1,I1,r1,q1⟩=>?_)
 obtain ⟨c,rfl,q1⟩:=q1
 cases r1
 refine wpAny_truthy_bool ?_
 cases c with
 | true=>exact hb pins s1 σ H1 Q I1 q1
 | false=>exact ⟨.bl false,H1,I1,rfl,q1⟩
theorem Ay (ha:PE X a ta) (hb:PE X (.BoolOp .Or (b :: rest) pos) tb):PE X (.BoolOp .Or (a :: b :: rest) pos) (Bl ta tb):=by
 intro pins s σ H Q I h
 refine BoolOp_or (thn (ha pins s σ H _ I h) fun v s1 ⟨x,H1,I1,r1,q1⟩=>?_)
 obtain ⟨c,rfl,q1⟩:=q1
 cases r1
 refine wpAny_truthy_bool ?_
 cases c with
 | false=>exact hb pins s1 σ H1 Q I1 q1
 | true=>exact ⟨.bl true,H1,I1,rfl,q1⟩
theorem yR (ha:PE X a ta):PE X (.UnaryOp .Not a pos) (z7 ta):=by
 intro pins s σ H Q I h
 refine UnaryOp_ (thn (ha pins s σ H _ I h) fun v s1 ⟨x,H1,I1,r1,q1⟩=>?_)
 obtain ⟨c,rfl,q1⟩:=q1
 cases r1
 exact not_of (wpAny_truthy_bool ⟨.bl (!c),H1,I1,rfl,q1⟩)
end
end L2
namespace L2
open PySem PySem.Spec PyProof.Rows
def SqL (K:PySem.W.Frag) (H:Hp) (a:Addr) (xs:List V):Prop :=
 Rd H a (.lst xs) \/
  ∃ (o:Obj) (its:Array Value) (n:Nat),K.lookup a=some o/\o.cls=.type "list"/\o.dict=none/\o.data=.seq its n/\its.size<=sizeLine/\Vals xs its.toList
def SqT (K:PySem.W.Frag) (H:Hp) (a:Addr) (xs:List V):Prop :=
 Rd H a (.tup xs) \/
  ∃ (o:Obj) (its:Array Value) (n:Nat),K.lookup a=some o/\o.cls=.type "tuple"/\o.data=.seq its n/\its.size<=sizeLine/\Vals xs its.toList
def BA:Value->Option V
 | .none=>some .non
 | .bool b=>some (.bl b)
 | .int i _=>some (.int i)
 | .str x _=>some (.str x)
 | .bytes b _=>some (.byt b)
 | .float b _=>some (.flt b)
 | .ref a=>some (.ref a)
 | .type n=>some (.ty n)
 | _=>none
theorem RelV.abs {x:V} {u:Value} (r:RelV x u):BA u=some x:=by
 cases x with
 | non=>cases r;rfl
 | bl _=>cases r;rfl
 | int _=>obtain ⟨t,rfl⟩:=r;rfl
 | str _=>obtain ⟨t,rfl⟩:=r;rfl
 | byt _=>obtain ⟨t,rfl⟩:=r;rfl
 | flt _=>obtain ⟨t,rfl⟩:=r;rfl
 | ref _=>cases r;rfl
 | ty _=>cases r;rfl
theorem RelV.inj {x y:V} {u:Value} (r:RelV x u) (q:RelV y u):x=y:=Option.some.inj (r.abs.symm.trans q.abs)
theorem Vals.inj:∀ {xs ys:List V} {us:List Value},Vals xs us->Vals ys us->xs=ys
 | _,_,_,.nil,.nil=>rfl
 | _,_,_,.cons r t,.cons r' t'=>by rw [r.inj r',Vals.inj t t']
section
variable {X:Cx} {pins:List (Addr×Obj)} {σ:St} {H:Hp} {s:Shared} {a:Addr} {xs ys:List V}
theorem SqL.of {K:PySem.W.Frag} (h:H a=some (.lst xs)):SqL K H a xs:=.inl (.inl h)
theorem SqT.of {K:PySem.W.Frag} (h:H a=some (.tup xs)):SqT K H a xs:=.inl (.inl h)
theorem Inv.list (I:Inv X pins σ H s) (h:SqL X.K H a xs):∃ its:List Value,Vals xs its/\PlainL s.heap a its.toArray/\xs.length<=sizeLine:=by
 rcases h with h | ⟨o,its,n,hk,hc,hd,hs,hz,r⟩
 . obtain ⟨z,its,n,r,e⟩:=h.ok I.hok
   exact ⟨its,r,⟨_,n,e,rfl,rfl,rfl⟩,z⟩
 . refine ⟨its.toList,r,⟨o,n,I.kIn a o hk,hc,hd,by simpa using hs⟩,?_⟩
   have e:=r.length
   simp only [Array.length_toList] at e
   omega
theorem Inv.tuple (I:Inv X pins σ H s) (h:SqT X.K H a xs):∃ its:List Value,Vals xs its/\IsTup s.heap a its.toArray/\xs.length<=sizeLine:=by
 rcases h with h | ⟨o,its,n,hk,hc,hs,hz,r⟩
 . obtain ⟨z,its,r,p⟩:=h.ok I.hok
   exact ⟨its,r,p,z⟩
 . refine ⟨its.toList,r,⟨o,I.kIn a o hk,hc,n,by simpa using hs⟩,?_⟩
   have e:=r.length
   simp only [Array.length_toList] at e
   omega
theorem Inv.list_inj (I:Inv X pins σ H s) (h:SqL X.K H a xs) (h':SqL X.K H a ys):xs=ys:=by
 obtain ⟨its,r,⟨o,n,e,_,_,d⟩,_⟩:=I.list h
 obtain ⟨its',r',⟨o',n',e',_,_,d'⟩,_⟩:=I.list h'
 rw [e] at e';cases e'
 rw [d] at d'
 injection d' with d1 _
 have:its=its':=by simpa using congrArg Array.toList d1
 subst this
 exact r.inj r'
theorem Inv.tuple_inj (I:Inv X pins σ H s) (h:SqT X.K H a xs) (h':SqT X.K H a ys):xs=ys:=by
 obtain ⟨its,r,⟨o,e,_,n,d⟩,_⟩:=I.tuple h
 obtain ⟨its',r',⟨o',e',_,n',d'⟩,_⟩:=I.tuple h'
 rw [e] at e';cases e'
 rw [d] at d'
 injection d' with d1 _
 have:its=its':=by simpa using congrArg Array.toList d1
 subst this
 exact r.inj r'
end
abbrev Cx.wish (X:Cx) (E:Value->Shared->Prop):Cx:={ X with xe:=E }
abbrev Cx.nox (X:Cx):Cx:=X.wish fun _ _=>False
theorem Cx.Ok.wish {X:Cx} (ok:X.Ok) (E:Value->Shared->Prop):(X.wish E).Ok :=
 ⟨ok.mod,ok.kind,ok.glob,ok.blt,ok.above,ok.inj,ok.has,ok.cab,ok.hd,ok.frames,ok.stk,ok.exf,ok.bs,ok.bsz,ok.noex,ok.exfs,ok.funs,ok.frf⟩
theorem Cx.Ok.unwish {X:Cx} {E:Value->Shared->Prop} (ok:(X.wish E).Ok):X.Ok :=
 ⟨ok.mod,ok.kind,ok.glob,ok.blt,ok.above,ok.inj,ok.has,ok.cab,ok.hd,ok.frames,ok.stk,ok.exf,ok.bs,ok.bsz,ok.noex,ok.exfs,ok.funs,ok.frf⟩
section
variable {X:Cx} {pins:List (Addr×Obj)} {σ:St} {H:Hp} {s:Shared} {E:Value->Shared->Prop}
theorem Inv.wish (I:Inv X pins σ H s) (E:Value->Shared->Prop):Inv (X.wish E) pins σ H s:=⟨I.ok.wish E,I.os,I.bare,I.base,I.loc,I.cell,I.free,I.freeC,I.pin,I.hok,I.len⟩
theorem Inv.unwish (I:Inv (X.wish E) pins σ H s):Inv X pins σ H s:=⟨I.ok.unwish,I.os,I.bare,I.base,I.loc,I.cell,I.free,I.freeC,I.pin,I.hok,I.len⟩
theorem SP.unwish {D:nP} {f:Flow} {s':Shared} (h:SP (X.wish E) pins D f s'):SP X pins D f s':=by
 cases f with
 | next=>obtain ⟨σ',H',I,q⟩:=h;exact ⟨σ',H',I.unwish,q⟩
 | brk=>obtain ⟨σ',H',I,q⟩:=h;exact ⟨σ',H',I.unwish,q⟩
 | cont=>obtain ⟨σ',H',I,q⟩:=h;exact ⟨σ',H',I.unwish,q⟩
 | ret u=>obtain ⟨v,σ',H',I,r,q⟩:=h;exact ⟨v,σ',H',I.unwish,r,q⟩
theorem PSs.nox {st:List Stmt} {t:TS} (h:PSs X.nox st t):PSs X st t:=fun pins s σ H D I hw =>
 wpAny_mono (h pins s σ H D (I.wish _) hw) (fun _ _ q=>q.unwish) fun _ _ z=>False.elim z
end
section
variable {X:Cx} {st:Stmt} {rest:List Stmt} {t u:TS} {e:Expr} {te:TE} {pos:Pos}
def z8:TS:=fun D σ H=>D.nx σ H
def Bh (t u:TS):TS:=fun D σ H=>t { D with nx:=u D } σ H
theorem pd:PSs X [] z8:=fun _ _ σ H _ I h=>wpAny_execs_nil ⟨σ,H,I,h⟩
theorem mR (h1:PS X st t) (h2:PSs X rest u):PSs X (st :: rest) (Bh t u):=by
 intro pins s σ H D I h
 refine wpAny_execs_cons (thn (h1 pins s σ H { D with nx:=u D } I h) fun f s1 q=>?_)
 cases f with
 | next =>
  obtain ⟨σ',H',I',q⟩:=q
  exact h2 pins s1 σ' H' D I' q
 | ret v=>exact q
 | brk=>exact q
 | cont=>exact q
theorem pc (h1:PS X st t):PSs X [st] t:=by
 intro pins s σ H D I h
 refine wpAny_execs_cons (thn (h1 pins s σ H D I h) fun f s1 q=>?_)
 cases f with
 | next=>exact wpAny_execs_nil q
 | ret v=>exact q
 | brk=>exact q
 | cont=>exact q
theorem Inv.quiet {pins:List (Addr×Obj)} {σ:St} {H:Hp} {s:Shared} (I:Inv X pins σ H s):interactive X.env=false:=by simp [interactive,I.ok.kind]
def z9 (te:TE):TS:=fun D σ H=>te σ H fun _ H1=>D.nx σ H1
theorem ke (he:PE X e te) (hs:swapsWith e none pos.line X.env=pure false:=by rfl):PS X (.Expr e pos) (z9 te):=by
 intro pins s σ H D I h
 exact wpAny_Expr_any (thn (he pins s σ H _ I h) fun v s1 ⟨x,H1,I1,r1,q1⟩=>⟨σ,H1,I1,q1⟩) I.quiet hs
def Bi (te:TE):TS:=fun D σ H=>te σ H D.rt
theorem rG (he:PE X e te):PS X (.Return (some e) pos) (Bi te):=by
 intro pins s σ H D I h
 exact wpAny_Return_some (thn (he pins s σ H _ I h) fun v s1 ⟨x,H1,I1,r1,q1⟩=>⟨x,σ,H1,I1,r1,q1⟩)
def Bp (c:TT) (t u:TS):TS:=fun D σ H=>c σ H fun b H1=>if b=true then t D σ H1 else u D σ H1
theorem vi {c:Expr} {a b:List Stmt} {tc:TT} (hc:PT X c tc) (ha:PSs X a t) (hb:PSs X b u):PS X (.If c a b pos) (Bp tc t u):=by
 intro pins s σ H D I h
 refine wpAny_If (thn (hc pins s σ H _ I h) fun d s1 ⟨H1,I1,q1⟩=>?_)
 cases d with
 | true=>exact ha pins s1 σ H1 D I1 q1
 | false=>exact hb pins s1 σ H1 D I1 q1
def yp:TS:=fun _ _ _=>False
theorem vh:PS X st yp:=fun _ _ _ _ _ _ h=>h.elim
end
abbrev TG:=V->St->Hp->(St->Hp->Prop)->Prop
abbrev TGs:=List V->St->Hp->(St->Hp->Prop)->Prop
def PG (X:Cx) (target:Expr) (t:TG):Prop :=
 ∀ (pins:List (Addr×Obj)) (s:Shared) (σ:St) (H:Hp) (v:V) (u:Value) (Q:St->Hp->Prop),Inv X pins σ H s->RelV v u->t v σ H Q ->
  wpAny (model X.prog X.w) X.A (assign target X.env u) (fun _ s'=>∃ σ' H',Inv X pins σ' H' s'/\Q σ' H') X.xe s
def PGs (X:Cx) (ts:List Expr) (t:TGs):Prop :=
 ∀ (pins:List (Addr×Obj)) (s:Shared) (σ:St) (H:Hp) (vs:List V) (us:List Value) (Q:St->Hp->Prop),Inv X pins σ H s->Vals vs us->t vs σ H Q ->
  wpAny (model X.prog X.w) X.A (assignInOrder ((assignEach ts X.env).map (·.2)) us) (fun _ s'=>∃ σ' H',Inv X pins σ' H' s'/\Q σ' H') X.xe s
abbrev zP:=V->V->V->Hp->(Hp->Prop)->Prop
def A9 (X:Cx) (t:zP):Prop :=
 ∀ (pins:List (Addr×Obj)) (s:Shared) (σ:St) (H:Hp) (o i v:V) (ov iv u:Value) (Q:Hp->Prop),Inv X pins σ H s->RelV o ov->RelV i iv->RelV v u->t o i v H Q ->
  wpAny (model X.prog X.w) X.A (setItem ov iv u) (fun _ s'=>∃ H',Inv X pins σ H' s'/\Q H') X.xe s
section
variable {X:Cx} {pos:Pos}
def tH (i:Nat):TG:=fun v σ H Q=>Q (σ.set i (some v)) H
theorem kh {i:Nat} {x:Str} (hN:X.N.Nodup) (hi:X.N[i]? = some x) (hx:Loc X.env.scope x) (hf:X.fn x=true \/ X.env.scope.names.lookup x=some .local:=by first | exact .inl rfl | exact .inr rfl | assumption):PG X (.Name x pos) (tH i):=by
 intro pins s σ H v u Q I r h
 exact wpAny_assign_Name (j0 I hN hi hx r (fun s' I'=>⟨_,H,I',h⟩) hf)
def AT:TGs:=fun vs σ H Q=>vs=[]/\Q σ H
def yg (t:TG) (u:TGs):TGs:=fun vs σ H Q=>∃ v r,vs=v :: r/\t v σ H fun σ' H'=>u r σ' H' Q
theorem kg:PGs X [] AT:=by
 intro pins s σ H vs us Q I r h
 obtain ⟨e,h⟩:=h
 subst e
 cases r
 exact assignInOrder_nil ⟨σ,H,I,h⟩
theorem dJ {e:Expr} {es:List Expr} {t:TG} {u:TGs} (h1:PG X e t) (h2:PGs X es u)
 (hs:(assignEach (e :: es) X.env).map (·.2)=assign e X.env :: (assignEach es X.env).map (·.2):=by rfl):PGs X (e :: es) (yg t u):=by
 intro pins s σ H vs us Q I r h
 obtain ⟨v,vr,e1,h⟩:=h
 subst e1
 cases r with
 | cons r rr =>
  rw [hs]
  refine assignInOrder_cons (thn (h1 pins s σ H _ _ _ I r h) fun _ s1 ⟨σ1,H1,I1,q1⟩=>?_)
  exact h2 pins s1 σ1 H1 _ _ Q I1 rr q1
def vW (K:PySem.W.Frag) (n:Nat) (t:TGs):TG:=fun v σ H Q=>∃ a xs,v=.ref a/\SqT K H a xs/\xs.length=n/\t xs σ H Q
theorem mS {es:List Expr} {k:Nat} {t:TGs} {n:Nat} (hc:X.calm=true) (h:PGs X es t)
 (hn:(assignEach es X.env).length=n:=by rfl) (hst:(assignEach es X.env).findIdx? (·.1)=none:=by rfl):PG X (.Tuple es k pos) (vW X.K n t):=by
 intro pins s σ H v u Q I r hw
 obtain ⟨a,xs,e1,hq,hl,hw⟩:=hw
 subst e1
 cases r
 obtain ⟨its,rv,ht,hz⟩:=I.tuple hq
 refine assign_Tuple_tuple (I.ok.hd hc) ht (by simp [hn,<- hl,rv.length]) hst fun h' hx=>?_
 have I1:Inv X pins σ H { s with heap:=h' }:=I.kept (t':=s.toks) fun b o e=>hx b o (Nat.ne_of_lt (Heap.lt_size e)) e
 exact h pins _ σ H xs _ Q I1 (by simpa using rv) hw
def xB (to ti:TE) (t:zP):TG:=fun v σ H Q=>to σ H fun o H1=>ti σ H1 fun i H2=>t o i v H2 fun H3=>Q σ H3
theorem jP {o i:Expr} {to ti:TE} {t:zP} (ho:PE X o to) (hi:PE X i ti) (hs:A9 X t)
 (ha:∀ v,assign (.Subscript o i pos) X.env v=(do
  let ov <- holding [v] (eval o X.env)
  let iv <- holding [v,ov] (eval i X.env)
  standAt pos
  holding [v,ov,iv] (setItem ov iv v)
  release [v,ov,iv] []):=by intro _;rfl):PG X (.Subscript o i pos) (xB to ti t):=by
 intro pins s σ H v u Q I r h
 rw [ha]
 refine wpAny_bind (wpAny_holding (thn (ho pins s σ H _ I h) fun ov s1 ⟨x,H1,I1,r1,q1⟩=>?_))
 refine wpAny_bind (wpAny_holding (thn (hi pins s1 σ H1 _ I1 q1) fun iv s2 ⟨y,H2,I2,r2,q2⟩=>?_))
 refine wpAny_bind (wpAny_standAt (wpAny_bind (wpAny_holding (thn (hs pins s2 σ H2 x y v ov iv u _ I2 r1 r2 r q2) fun _ s3 ⟨H3,I3,q3⟩=>?_))))
 exact wpAny_release ⟨σ,H3,I3,q3⟩
def yr (te:TE) (g:TG):TS:=fun D σ H=>te σ H fun x H1=>g x σ H1 D.nx
theorem rH {tg e:Expr} {te:TE} {g:TG} (he:PE X e te) (hg:PG X tg g) (hs:swapsWithSole [tg] e pos.line X.env=pure false:=by rfl) (hw:swappedStores [tg] e X.env=pure none:=by rfl)
 (h1:(assignEach [tg] X.env).map (·.2)=[assign tg X.env]:=by rfl):PS X (.Assign [tg] e pos) (yr te g):=by
 intro pins s σ H D I h
 refine wpAny_Assign_stores (thn (he pins s σ H _ I h) fun v s1 ⟨x,H1,I1,r1,q1⟩=>?_) hs hw
 rw [h1]
 exact thn (hg pins s1 σ H1 x v _ I1 r1 q1) fun _ s2 q=>q
theorem rF {i:Nat} {x:Str} {e:Expr} {te:TE} {pos':Pos} (hN:X.N.Nodup) (hi:X.N[i]? = some x) (hx:Loc X.env.scope x) (he:PE X e te) (hs:swapsWith e (some (.Name x pos')) pos.line X.env=pure false:=by rfl) (hf:X.fn x=true \/ X.env.scope.names.lookup x=some .local:=by first | exact .inl rfl | exact .inr rfl | assumption) :
 PS X (.Assign [.Name x pos'] e pos) (yr te (tH i)):=by
 intro pins s σ H D I h
 refine wpAny_Assign_Name (thn (he pins s σ H _ I h) fun v s1 ⟨y,H1,I1,r1,q1⟩=>?_) hs
 exact j0 I1 hN hi hx r1 (fun s2 I2=>⟨_,H1,I2,q1⟩) hf
def Bj (i j:Nat) (ta:TA):TS:=fun D σ H=>ta σ H fun vs H1=>∃ v w,vs=[v,w]/\D.nx ((σ.set i (some v)).set j (some w)) H1
theorem yM {i j:Nat} {x y:Str} {a b:Expr} {ta:TA} {px py pt:Pos} {kt k2 pt2} (hc:X.calm=true) (hN:X.N.Nodup) (hi:X.N[i]? = some x) (hj:X.N[j]? = some y) (hij:i ≠ j)
 (hx:X.env.scope.names.lookup x=some .local) (hy:X.env.scope.names.lookup y=some .local) (ha:PA X [a,b] ta)
 (hw:swappedStores [.Tuple [.Name x px,.Name y py] kt pt] (.Tuple [a,b] k2 pt2) X.env=pure (some [x,y]))
 (hs:swapsWithSole [.Tuple [.Name x px,.Name y py] kt pt] (.Tuple [a,b] k2 pt2) pos.line X.env=pure false:=by rfl) :
 PS X (.Assign [.Tuple [.Name x px,.Name y py] kt pt] (.Tuple [a,b] k2 pt2) pos) (Bj i j ta):=by
 intro pins s σ H D I h
 rw [exec_Assign_arm]
 refine wpAny_bind (wpAny_standAt ?_)
 rw [hs]
 refine wpAny_bind (wpAny_pure ?_)
 rw [if_neg (by decide)]
 refine wpAny_bind (Tuple_ (thn (ha _ pins s σ H _ I h) fun us s1 ⟨vs,H1,I1,r1,q1⟩=>?_))
 obtain ⟨v,w,e1,q1⟩:=q1
 subst e1
 obtain ⟨u1,u2,rfl,rv,rw'⟩:∃ u1 u2,us=[u1,u2]/\RelV v u1/\RelV w u2:=by
  cases r1 with
  | cons p q =>
   cases q with
   | cons p' q' =>
    cases q'
    exact ⟨_,_,rfl,p,p'⟩
 refine wpAny_newObj_type ?_ (by show 2<=sizeLine;decide)
 have I2:Inv X pins σ H1 { s1 with heap:=s1.heap.push { cls:=.type "tuple",data:=.seq [u1,u2].toArray } }:=I1.kept (t':=s1.toks) fun b o e=>Heap.get?_push_of_some _ e
 rw [hw]
 refine wpAny_bind (wpAny_pure ?_)
 show wpAny (model X.prog X.w) X.A (do rule "assign.swapped-stores";let items <- unpackItems (.ref s1.heap.objs.size) 2 none;assignInOrder [fun v=>bindName X.env y v,fun v=>bindName X.env x v] items.reverse;pure Flow.next) _ _ _
 refine wpAny_bind (wpAny_rule (wpAny_bind (unpackItems_tuple (items:=#[u1,u2]) (I.ok.hd hc) (IsTup.new s1.heap _) fun h' hx'=>?_)))
 have I3:=I2.kept (h':=h') (t':=s1.toks) fun b o e=>hx' b o (Nat.ne_of_lt (Heap.lt_size e)) e
 show wpAny _ _ (assignInOrder [fun v=>bindName X.env y v,fun v=>bindName X.env x v] [u2,u1] >>= fun _=>pure Flow.next) _ _ _
 refine wpAny_bind (assignInOrder_cons (wpAny_bindName (j0 I3 hN hj (.inl hy) rw' (fun s2 I4=>?_) (.inr hy))))
 refine assignInOrder_cons (wpAny_bindName (j0 I4 hN hi (.inl hx) rv (fun s3 I5=>assignInOrder_nil (wpAny_pure ?_)) (.inr hx)))
 rw [List.set_comm _ _ (Ne.symm hij)] at I5
 exact ⟨_,H1,I5,q1⟩
end
section
variable {X:Cx} {pos:Pos}
def yo (c:TT) (tb:TS):TS:=fun D σ H=>∃ W:Nat->St->Hp->Prop,(∃ m,W m σ H)/\∀ m σ H,W m σ H ->
 c σ H fun b H1=>if b=true then ∃ N:St->Hp->Prop,(∀ σ' H',N σ' H'->∃ m',m' < m/\W m' σ' H')/\tb { D with nx:=N,ct:=N,bk:=D.nx } σ H1 else D.nx σ H1
theorem vg {c:Expr} {body:List Stmt} {tc:TT} {tb:TS} (hp:PassesOwn (model X.prog X.w) X.A X.env X.xe) (hc:PT X c tc) (hb:PSs X body tb):PS X (.While c body [] pos) (yo tc tb):=by
 intro pins s σ H D I h
 obtain ⟨W,⟨m0,w0⟩,turn⟩:=h
 refine wpAny_While (codeAny_whileLoop (fun n s'=>∃ σ' H',Inv X pins σ' H' s'/\W n σ' H') ?_ m0 ⟨σ,H,I,w0⟩)
 rintro n s1 ⟨σ1,H1,I1,w1⟩
 refine wpAny_passesOwn hp (thn (hc pins s1 σ1 H1 _ I1 (turn n σ1 H1 w1)) fun b s2 ⟨H2,I2,q2⟩=>?_)
 cases b with
 | true =>
  obtain ⟨N,hN,q2⟩:=q2
  rw [if_pos rfl]
  refine wpAny_passesOwn hp (thn (hb pins s2 σ1 H2 _ I2 q2) fun f s3 q3=>?_)
  cases f with
  | next =>
   obtain ⟨σ3,H3,I3,n3⟩:=q3
   obtain ⟨m',hm,w3⟩:=hN σ3 H3 n3
   exact ⟨m',hm,σ3,H3,I3,w3⟩
  | cont =>
   obtain ⟨σ3,H3,I3,n3⟩:=q3
   obtain ⟨m',hm,w3⟩:=hN σ3 H3 n3
   exact ⟨m',hm,σ3,H3,I3,w3⟩
  | brk=>exact q3
  | ret v=>exact q3
 | false =>
  rw [if_neg Bool.false_ne_true]
  exact wpAny_execs_nil ⟨σ1,H2,I2,q2⟩
end
structure It where
 go:Nat->Hp->Prop
 yld:Nat->Hp->V->Hp->Prop
 stop:Nat->Hp->Prop
def iP (X:Cx) (pins:List (Addr×Obj)) (H:Hp) (b:Addr):Prop :=
 H b=none/\b ≠ X.env.locals/\b ∉ X.fs/\(b∈X.ex \/ X.s₀.heap.objs.size<=b)/\(∀ x c,X.env.cells.lookup x=some c->c ≠ b)/\∀ p∈X.pn++pins,p.1 ≠ b
theorem Inv.fpOk {X:Cx} {pins:List (Addr×Obj)} {σ:St} {H H':Hp} {s:Shared} {b:Addr} (I:Inv X pins σ H s) (hb:s.heap.objs.size<=b) (hn:H' b=none):iP X pins H' b:=by
 refine ⟨hn,Nat.ne_of_gt (Nat.lt_of_lt_of_le I.lt hb),I.nofs hb,.inr (Nat.le_trans I.sz hb),fun x c e z=>?_,fun p hp z=>?_⟩
 . obtain ⟨v,q⟩:=I.cell x c e
   exact absurd (Nat.lt_of_lt_of_le q.lt (by rw [z];exact hb)) (Nat.lt_irrefl _)
 . exact absurd (Nat.lt_of_lt_of_le (Heap.lt_size (I.pin p hp).1) (by rw [z];exact hb)) (Nat.lt_irrefl _)
structure sd (P:Program) (w:World) (K:PySem.W.Frag) (tg:Expr) (J:It) (fp:List Addr) (it:Addr) (tn:Nat->Heap->Prop):Prop where
 mem:it∈fp
 obj:∀ i h,tn i h->∀ b∈fp,∃ o,h.get? b=some o/\∀ v,o.data ≠ .cell v
 keep:∀ i h h',tn i h->(∀ b∈fp,∀ o,h.get? b=some o->h'.get? b=some o)->tn i h'
 item:∀ (X:Cx),X.prog=P->X.w=w->X.K=K->X.calm=true->∀ (i:Nat) (pins:List (Addr×Obj)) (s:Shared) (σ:St) (H:Hp) (E:Value->Shared->Prop),Inv X pins σ H s->(∀ b∈fp,iP X pins H b)->tn i s.heap->J.go i H ->
  wpAny (model P w) X.A (pyNext (.ref it)) (fun r s1=>∃ u,r=some u /\
   wpAny (model P w) X.A (letOwnedTupleGo tg (.ref it) u) (fun _ s2=>∃ x H',Inv X pins σ H' s2/\RelV x u/\J.yld i H x H'/\tn (i+1) s2.heap/\∀ b∈fp,H' b=none) E s1) E s
 done:∀ (X:Cx),X.prog=P->X.w=w->X.K=K->X.calm=true->∀ (i:Nat) (pins:List (Addr×Obj)) (s:Shared) (σ:St) (H:Hp) (E:Value->Shared->Prop),Inv X pins σ H s->(∀ b∈fp,iP X pins H b)->tn i s.heap->J.stop i H ->
  wpAny (model P w) X.A (pyNext (.ref it)) (fun r s1=>r=none/\Inv X pins σ H s1) E s
 self:∀ (A:Around) (i:Nat) (s:Shared) (Q:Value->Shared->Prop) (E:Value->Shared->Prop),tn i s.heap->Q (.ref it) s->wpAny (model P w) A (pyIter (.ref it)) Q E s
abbrev TI:=St->Hp->(It->Hp->Prop)->Prop
def PIE (X:Cx) (pins:List (Addr×Obj)) (σ:St) (tg:Expr) (R:It->Hp->Prop) (itv:Value) (s2:Shared):Prop :=
 ∃ (it:Addr) (fp:List Addr) (tn:Nat->Heap->Prop) (J:It) (H':Hp),itv=.ref it/\Inv X pins σ H' s2/\sd X.prog X.w X.K tg J fp it tn/\tn 0 s2.heap/\(∀ b∈fp,iP X pins H' b)/\R J H'
def PI (X:Cx) (tg iter:Expr) (wi:TI):Prop :=
 ∀ (pins:List (Addr×Obj)) (s:Shared) (σ:St) (H:Hp) (R:It->Hp->Prop),Inv X pins σ H s->wi σ H R ->
  wpAny (model X.prog X.w) X.A (eval iter X.env) (fun v s1=>wpAny (model X.prog X.w) X.A (pyIter v) (PIE X pins σ tg R) X.xe s1) X.xe s
theorem ye {M:Model} {A:Around} {E:Value->Shared->Prop} {s:Shared} {tg:Expr} {it:Addr} {u:Value} {o:Obj} {n:String} {vs:Array Value} {Q:Unit->Shared->Prop} (ho:s.heap.get? it=some o) (hc:o.cls=.type n) (hd:o.data=.fields vs)
 (hn:["enumerate","zip","dict_itemiterator","dict_reverseitemiterator","odict_iterator","itertools.zip_longest","itertools.pairwise"].contains n=false) (hQ:Q () s):wpAny M A (letOwnedTupleGo tg (.ref it) u) Q E s:=by
 unfold letOwnedTupleGo
 cases tg <;> first
  | exact wpAny_pure hQ
  | (cases u <;> first
   | exact wpAny_pure hQ
   | (refine wpAny_bind (wpAny_load ho ?_)
      rw [hc,hd]
      show wpAny M A (if (["enumerate","zip","dict_itemiterator","dict_reverseitemiterator","odict_iterator","itertools.zip_longest","itertools.pairwise"].contains n && vs[0]? == some (rawInt _))=true then _ else _) Q E s
      rw [if_neg (by intro h;rw [hn,Bool.false_and] at h;cases h)]
      exact wpAny_pure hQ))
def Itl (K:PySem.W.Frag) (a:Addr):It :=
 ⟨fun i H=>∃ xs x,SqL K H a xs/\xs[i]? = some x,fun i H x H'=>H'=H/\∀ xs,SqL K H a xs->xs[i]? = some x,fun i H=>∃ xs,SqL K H a xs/\xs.length<=i⟩
def Itr (lo:Int) (n:Nat):It:=⟨fun i _=>i < n,fun i H x H'=>H'=H/\x=.int (lo+i),fun i _=>n<=i⟩
theorem t5 {P:Program} {w:World} {K:PySem.W.Frag} {tg:Expr} (a it:Addr):sd P w K tg (Itl K a) [it] it (fun i h=>h.IsListIter it a i) where
 mem:=by simp
 obj:=fun i h st b hb=>by
  have e:b=it:=by simpa using hb
  subst e
  obtain ⟨o,e,c,d⟩:=st
  exact ⟨o,e,fun v z=>by rw [d] at z;cases z⟩
 keep:=fun i h h' st k=>st.at fun o e=>k it (by simp) o e
 item:=by
  intro X hP hw hK hc i pins s σ H E I hf st hg
  subst hP hw hK
  obtain ⟨xs,x,hq,hx⟩:=hg
  obtain ⟨its,rv,p,hz⟩:=I.list hq
  obtain ⟨u,hu,ru⟩:=rv.get hx
  obtain ⟨f0,f1,f2,f3,f4,f5⟩:=hf it (by simp)
  refine wpAny_pyNext_list_item st p.isList (x:=u) (by simpa using hu) fun h' st' sb=>?_
  have I1:Inv X pins σ H { s with heap:=h' }:=I.turned (t':=s.toks) (fun b o hb e=>(sb.2 b hb).trans e) f0 f1 f3 f4 f5
  obtain ⟨o,e,c,d⟩:=id st'
  exact ⟨u,rfl,ye (s:={ s with heap:=h' }) e c d (by decide) ⟨x,H,I1,ru,⟨rfl,fun ys hy=>by rw [I.list_inj hy hq];exact hx⟩,st',fun b hb=>(hf b hb).1⟩⟩
 done:=by
  intro X hP hw hK hc i pins s σ H E I hf st hg
  subst hP hw hK
  obtain ⟨xs,hq,hx⟩:=hg
  obtain ⟨its,rv,p,hz⟩:=I.list hq
  obtain ⟨f0,f1,f2,f3,f4,f5⟩:=hf it (by simp)
  have hl:=rv.length
  exact wpAny_pyNext_list_end (I.ok.hd hc) st p.isList (by simp;omega) fun h' eb=>⟨rfl,I.turned (t':=s.toks) (fun b o hb e=>eb b o hb e) f0 f1 f3 f4 f5⟩
 self:=fun _ _ _ _ _ st h=>wpAny_pyIter_listiter st h
theorem rh {P:Program} {w:World} {K:PySem.W.Frag} {tg:Expr} (it:Addr) (lo:Int) (n:Nat):sd P w K tg (Itr lo n) [it] it (fun i h=>IsRangeIter h it (lo+(i:Nat)*1) ((n:Int) - (i:Nat)) 1) where
 mem:=by simp
 obj:=fun i h st b hb=>by
  have e:b=it:=by simpa using hb
  subst e
  exact ⟨_,st,fun v z=>by
   have z':Data.fields _=Data.cell v:=z
   cases z'⟩
 keep:=fun i h h' st k=>k it (by simp) _ st
 item:=by
  intro X hP hw hK hc i pins s σ H E I hf st hg
  subst hP hw hK
  obtain ⟨f0,f1,f2,f3,f4,f5⟩:=hf it (by simp)
  have W:=Walks.range (prog:=X.prog) (w:=X.w) (I.ok.hd hc) it lo 1 n
  refine W.item i s _ _ hg st fun v h' tk hv st' kk=>?_
  obtain ⟨t,rfl⟩:=hv
  have I1:Inv X pins σ H { s with heap:=h',toks:=tk }:=I.turned (fun b o hb e=>kk b o (by simpa using hb) e) f0 f1 f3 f4 f5
  refine ⟨_,rfl,ye (s:={ s with heap:=h',toks:=tk }) (n:="range_iterator") st' rfl rfl (by decide) ⟨.int (lo+i),H,I1,⟨t,?_⟩,⟨rfl,rfl⟩,st',fun b hb=>(hf b hb).1⟩⟩
  rw [Int.mul_one]
 done:=by
  intro X hP hw hK hc i pins s σ H E I hf st hg
  subst hP hw hK
  obtain ⟨f0,f1,f2,f3,f4,f5⟩:=hf it (by simp)
  exact wpAny_pyNext_range_end (I.ok.hd hc) st (by have:n<=i:=hg;omega) fun h' eb=>⟨rfl,I.turned (t':=s.toks) (fun b o hb e=>eb b o hb e) f0 f1 f3 f4 f5⟩
 self:=fun _ _ _ _ _ st h=>wpAny_pyIter_rangeiter st h
end L2
namespace L2
open PySem PySem.Spec PyProof.Rows
section
variable {X:Cx} {tg:Expr}
def AS (K:PySem.W.Frag) (tl:TE):TI:=fun σ H R=>tl σ H fun x H1=>∃ a,x=.ref a/\(∃ xs,SqL K H1 a xs)/\R (Itl K a) H1
theorem l9 {l:Expr} {tl:TE} (hl:PE X l tl):PI X tg l (AS X.K tl):=by
 intro pins s σ H R I h
 refine thn (hl pins s σ H _ I h) fun v s1 ⟨x,H1,I1,r1,q1⟩=>?_
 obtain ⟨a,e,⟨xs,hq⟩,q⟩:=q1
 subst e
 cases r1
 obtain ⟨its,rv,p,hz⟩:=I1.list hq
 refine wpAny_pyIter_list p.isList ?_
 refine ⟨s1.heap.objs.size,[s1.heap.objs.size],_,_,H1,rfl,I1.kept (t':=s1.toks) fun b o e=>Heap.get?_push_of_some _ e,t5 a _,⟨_,Heap.get?_push_size _ rfl,rfl,rfl⟩,fun b hb=>?_,q⟩
 have e:b=s1.heap.objs.size:=by simpa using hb
 subst e
 exact I1.fpOk (Nat.le_refl _) (I1.hok.fresh (Nat.le_refl _))
theorem uX {pins:List (Addr×Obj)} {σ:St} {H:Hp} {s:Shared} {R:It->Hp->Prop} {E:Value->Shared->Prop} {lo hi:Int} {t u v:Tok} {tk:Nat} (I:Inv X pins σ H s) (h1:-(2 ^ 62)<=lo) (h2:lo < 2 ^ 62) (h3:-(2 ^ 62)<=hi) (h4:hi < 2 ^ 62)
 (q:R (Itr lo (hi - lo).toNat) H):wpAny (model X.prog X.w) X.A (pyIter (.ref s.heap.objs.size)) (PIE X pins σ tg R) E { s with heap:=s.heap.push { cls:=.type "range",data:=.fields #[.int lo t,.int hi u,.int 1 v] },toks:=tk }:=by
 refine wpAny_pyIter_range (IsRange.new ..) (small_one h1 h2 h3 h4) ?_
 have I1:Inv X pins σ H { s with heap:=s.heap.push { cls:=.type "range",data:=.fields #[.int lo t,.int hi u,.int 1 v] },toks:=tk }:=I.kept fun b o e=>Heap.get?_push_of_some _ e
 refine ⟨(s.heap.push { cls:=.type "range",data:=.fields #[.int lo t,.int hi u,.int 1 v] }).objs.size,[(s.heap.push { cls:=.type "range",data:=.fields #[.int lo t,.int hi u,.int 1 v] }).objs.size],_,_,H,rfl,
  I1.kept (t':=tk) fun b o e=>Heap.get?_push_of_some _ e,rh _ lo (hi - lo).toNat,?_,fun b hb=>?_,q⟩
 . have e1:lo+((0:Nat):Int)*1=lo:=by simp
   have e2:(((hi - lo).toNat:Nat):Int) - ((0:Nat):Int)=Builtin.Range.rangeSize lo hi 1:=by rw [rangeSize_one];split <;> omega
   show IsRangeIter _ _ (lo+((0:Nat):Int)*1) ((((hi - lo).toNat:Nat):Int) - ((0:Nat):Int)) 1
   rw [e1,e2]
   exact Heap.get?_push_size _ rfl
 . have e:b=(s.heap.push { cls:=.type "range",data:=.fields #[.int lo t,.int hi u,.int 1 v] }).objs.size:=by simpa using hb
   subst e
   exact I1.fpOk (Nat.le_refl _) (I1.hok.fresh (Nat.le_refl _))
def AR (ta:TA):TI:=fun σ H R=>ta σ H fun vs H1=>∃ j:Int,vs=[.int j]/\-(2 ^ 62)<=j/\j < 2 ^ 62/\R (Itr 0 j.toNat) H1
theorem ox {a:Expr} {ta:TA} {p pos:Pos} (hg:Gl X "range") (hm:X.mg "range" = none) (ha:PA X [a] ta) (hs:starEach [a] X.env=[(false,eval a X.env)]:=by rfl):PI X tg (.Call (.Name "range" p) [a] [] pos) (AR ta):=by
 intro pins s σ H R I h
 refine Call_ (nh I hg hm boot_range (PyProof.Rows.callWith_type1 (thn (ha pos pins s σ H _ I h) fun us s1 ⟨vs,H1,I1,r1,q1⟩=>?_) hs rfl))
 obtain ⟨j,e,q1,q2,q⟩:=q1
 subst e
 cases r1 with
 | cons r rr =>
  cases rr
  obtain ⟨t,rfl⟩:=r
  exact call_range_1 (uX I1 (by omega) (by omega) q1 q2 (by simpa using q))
def Bq (wi:TI) (g:TG) (tb:TS):TS:=fun D σ H=>wi σ H fun J H1=>∃ W:Nat->Nat->St->Hp->Prop,(∃ m,W 0 m σ H1)/\∀ i m σ H,W i m σ H ->
 (J.stop i H/\D.nx σ H) \/ (J.go i H/\∃ N:St->Hp->Prop,(∀ σ' H',N σ' H'->∃ m',m' < m/\W (i+1) m' σ' H')/\∀ x H',J.yld i H x H'->g x σ H' fun σ2 H2=>tb { D with nx:=N,ct:=N,bk:=D.nx } σ2 H2)
def ph (fp:List Addr) (h:Heap):List (Addr×Obj):=fp.filterMap fun b=>(h.get? b).map fun o=>(b,o)
theorem ft {fp:List Addr} {h:Heap} {b:Addr} {o:Obj} (hb:b∈fp) (e:h.get? b=some o):(b,o)∈ph fp h:=List.mem_filterMap.mpr ⟨b,hb,by rw [e];rfl⟩
theorem uj {fp:List Addr} {h:Heap} {p:Addr×Obj} (hp:p∈ph fp h):p.1∈fp/\h.get? p.1=some p.2:=by
 obtain ⟨b,hb,e⟩:=List.mem_filterMap.mp hp
 cases q:h.get? b with
 | none=>rw [q] at e;cases e
 | some o =>
  rw [q] at e
  have e':(b,o)=p:=Option.some.inj e
  subst e'
  exact ⟨hb,q⟩
theorem Inv.pinned {pins:List (Addr×Obj)} {σ:St} {H:Hp} {s:Shared} {fp:List Addr} (I:Inv X pins σ H s) (hf:∀ b∈fp,iP X pins H b) (ho:∀ b∈fp,∃ o,s.heap.get? b=some o/\∀ v,o.data ≠ .cell v):Inv X (pins++ph fp s.heap) σ H s :=
 I.pins_of fun p hp=>(Zn.mp hp).elim (fun z=>I.pin p (List.mem_append_right _ z)) fun z=>by
  obtain ⟨hb,e⟩:=uj z
  obtain ⟨f0,f1,f2,_⟩:=hf p.1 hb
  obtain ⟨o,e',d⟩:=ho p.1 hb
  rw [e] at e';cases e'
  exact ⟨e,f0,f1,f2,d⟩
theorem Inv.unpinned {pins pl:List (Addr×Obj)} {σ:St} {H:Hp} {s:Shared} (I:Inv X (pins++pl) σ H s):Inv X pins σ H s:=I.pins_of fun p hp=>I.pin p (List.mem_append_right _ (List.mem_append_left _ hp))
theorem pe {iter:Expr} {body:List Stmt} {wi:TI} {g:TG} {tb:TS} {pos:Pos} (hp:PassesOwn (model X.prog X.w) X.A X.env X.xe) (hc:X.calm=true) (hi:PI X tg iter wi) (hg:PG X tg g) (hb:PSs X body tb)
 (hs:∀ x,foldedSetIterable iter X.env x=pure x:=by intro _;rfl):PS X (.For tg iter body [] pos) (Bq wi g tb):=by
 intro pins s σ H D I h
 refine wpAny_For (thn (hi pins s σ H _ I h) fun v s1 h1=>thn h1 fun itv s2 h2=>?_) hs
 obtain ⟨it,fp,tn,J,H2,e,I2,T,st2,f2,W,⟨m0,w0⟩,turn⟩:=h2
 subst e
 have stat:∀ {H':Hp},(∀ b∈fp,H' b=none)->∀ b∈fp,iP X pins H' b:=fun hn b hb=>⟨hn b hb,(f2 b hb).2⟩
 refine codeAny_forLoop_any (fun n s'=>∃ i σ' H',Inv X pins σ' H' s'/\tn i s'.heap/\(∀ b∈fp,H' b=none)/\W i n σ' H') ?_ m0 ⟨0,σ,H2,I2,st2,fun b hb=>(f2 b hb).1,w0⟩
 rintro n s3 ⟨i,σ3,H3,I3,st3,fr3,w3⟩
 rcases turn i n σ3 H3 w3 with ⟨stop,qn⟩ | ⟨go,N,hN,step⟩
 . refine wpAny_passesOwn hp (thn (T.done X rfl rfl rfl hc i pins s3 σ3 H3 X.xe I3 (stat fr3) st3 stop) fun r s4 ⟨hr,I4⟩=>?_)
   subst hr
   exact wpAny_execs_nil ⟨σ3,H3,I4,qn⟩
 . refine wpAny_passesOwn hp (thn (T.item X rfl rfl rfl hc i pins s3 σ3 H3 X.xe I3 (stat fr3) st3 go) fun r s4 ⟨u,hr,h4⟩=>?_)
   subst hr
   refine wpAny_passesOwn hp (thn h4 fun _ s5 ⟨x,H5,I5,r5,y5,st5,fr5⟩=>?_)
   have I5':=I5.pinned (stat fr5) (T.obj _ _ st5)
   refine wpAny_passesOwn hp (thn (hg _ s5 σ3 H5 x u _ I5' r5 (step x H5 y5)) fun _ s6 ⟨σ6,H6,I6,q6⟩=>?_)
   refine wpAny_passesOwn hp (thn (hb _ s6 σ6 H6 _ I6 q6) fun f s7 q7=>?_)
   have again:∀ {σ7:St} {H7:Hp},Inv X (pins++ph fp s5.heap) σ7 H7 s7->N σ7 H7->∃ m,m < n/\∃ i σ' H',Inv X pins σ' H' s7/\tn i s7.heap/\(∀ b∈fp,H' b=none)/\W i m σ' H':=fun {σ7 H7} I7 n7=>by
    obtain ⟨m',hm,w7⟩:=hN σ7 H7 n7
    refine ⟨m',hm,i+1,σ7,H7,I7.unpinned,T.keep _ _ _ st5 fun b hb o e=>(I7.pin (b,o) (List.mem_append_right _ (List.mem_append_right _ (ft hb e)))).1,fun b hb=>?_,w7⟩
    obtain ⟨o,e,d⟩:=T.obj _ _ st5 b hb
    exact (I7.pin (b,o) (List.mem_append_right _ (List.mem_append_right _ (ft hb e)))).2.1
   cases f with
   | next=>obtain ⟨σ7,H7,I7,n7⟩:=q7;exact again I7 n7
   | cont=>obtain ⟨σ7,H7,I7,n7⟩:=q7;exact again I7 n7
   | brk=>obtain ⟨σ7,H7,I7,q7⟩:=q7;exact ⟨σ7,H7,I7.unpinned,q7⟩
   | ret v=>obtain ⟨x7,σ7,H7,I7,r7,q7⟩:=q7;exact ⟨x7,σ7,H7,I7.unpinned,r7,q7⟩
end
end L2
namespace L2
open PySem PySem.Spec PyProof.Rows
abbrev R2:=V->V->Hp->VK->Prop
def OpR (X:Cx) (f:Value->Value->Sem Value) (r:R2):Prop :=
 ∀ (pins:List (Addr×Obj)) (s:Shared) (σ:St) (H:Hp) (x y:V) (v u:Value) (Q:VK),Inv X pins σ H s->RelV x v->RelV y u->r x y H Q ->
  wpAny (model X.prog X.w) X.A (f v u) (EP X pins σ Q) X.xe s
def UnR (X:Cx) (f:Value->Sem Value) (r:V->Hp->VK->Prop):Prop :=
 ∀ (pins:List (Addr×Obj)) (s:Shared) (σ:St) (H:Hp) (x:V) (v:Value) (Q:VK),Inv X pins σ H s->RelV x v->r x H Q ->
  wpAny (model X.prog X.w) X.A (f v) (EP X pins σ Q) X.xe s
def ij (X:Cx) (f:Value) (r:List V->Hp->VK->Prop):Prop :=
 ∀ (pins:List (Addr×Obj)) (s:Shared) (σ:St) (H:Hp) (xs:List V) (us:List Value) (Q:VK),Inv X pins σ H s->Vals xs us->r xs H Q ->
  wpAny (model X.prog X.w) X.A (call f us) (EP X pins σ Q) X.xe s
def tOp (r:R2) (ta tb:TE):TE:=fun σ H Q=>ta σ H fun x H1=>tb σ H1 fun y H2=>r x y H2 Q
def tUn (r:V->Hp->VK->Prop) (ta:TE):TE:=fun σ H Q=>ta σ H fun x H1=>r x H1 Q
def rI (C:Int->Int->Prop) (g:Int->Int->V):R2:=fun x y H Q=>∃ i j,x=.int i/\y=.int j/\C i j/\Q (g i j) H
def rI0 (g:Int->Int->V):R2:=fun x y H Q=>∃ i j,x=.int i/\y=.int j/\Q (g i j) H
def rU (g:Int->V):V->Hp->VK->Prop:=fun x H Q=>∃ i,x=.int i/\Q (g i) H
section
variable {X:Cx} {a b c:Expr} {ta tb tc:TE} {pos:Pos}
theorem zM (ha:PE X a ta) (hb:PE X b tb) {pins:List (Addr×Obj)} {s:Shared} {σ:St} {H:Hp} {R:V->V->Hp->Prop} (I:Inv X pins σ H s)
 (h:ta σ H fun x H1=>tb σ H1 fun y H2=>R x y H2) {Q:Value->Shared->Prop} {f:Value->Value->Sem Value}
 (hf:∀ v u s2 x y H2,Inv X pins σ H2 s2->RelV x v->RelV y u->R x y H2->wpAny (model X.prog X.w) X.A (f v u) Q X.xe s2) :
 wpAny (model X.prog X.w) X.A (eval a X.env) (fun v s₁=>wpAny (model X.prog X.w) X.A (eval b X.env) (fun u s₂=>wpAny (model X.prog X.w) X.A (f v u) Q X.xe s₂) X.xe s₁) X.xe s:=by
 refine thn (ha pins s σ H _ I h) fun v s1 ⟨x,H1,I1,r1,q1⟩=>?_
 refine thn (hb pins s1 σ H1 _ I1 q1) fun u s2 ⟨y,H2,I2,r2,q2⟩=>?_
 exact hf v u s2 x y H2 I2 r1 r2 q2
theorem xX {op:Operator} {r:R2} (ho:OpR X (binaryOp op) r) (ha:PE X a ta) (hb:PE X b tb):PE X (.BinOp a op b pos) (tOp r ta tb):=by
 intro pins s σ H Q I h
 exact wpAny_BinOp (zM ha hb I h fun v u s2 x y H2 I2 rx ry q=>ho pins s2 σ H2 x y v u Q I2 rx ry q)
theorem Ax {op:UnaryOp} {r:V->Hp->VK->Prop} (ho:UnR X (unaryOp op) r) (ha:PE X a ta):PE X (.UnaryOp op a pos) (tUn r ta):=by
 intro pins s σ H Q I h
 exact UnaryOp_ (thn (ha pins s σ H _ I h) fun v s1 ⟨x,H1,I1,r1,q1⟩=>ho pins s1 σ H1 x v Q I1 r1 q1)
theorem opI {f:Value->Value->Sem Value} {C:Int->Int->Prop} {g:Int->Int->Int}
 (rule:∀ (i j:Int) (t u:Tok) (s:Shared) (Q:Value->Shared->Prop) (E:Value->Shared->Prop),C i j->Q (.int (g i j) s.toks) { s with toks:=s.toks+1 }->wpAny (model X.prog X.w) X.A (f (.int i t) (.int j u)) Q E s) :
 OpR X f (rI C fun i j=>.int (g i j)):=by
 intro pins s σ H x y v u Q I rx ry h
 obtain ⟨i,j,rfl,rfl,hc,q⟩:=h
 obtain ⟨t,rfl⟩:=rx
 obtain ⟨t',rfl⟩:=ry
 exact rule i j t t' s _ _ hc ⟨.int (g i j),H,I.tok _,⟨_,rfl⟩,q⟩
theorem AD {f:Value->Value->Sem Value} {g:Int->Int->Int}
 (rule:∀ (i j:Int) (t u:Tok) (s:Shared) (Q:Value->Shared->Prop) (E:Value->Shared->Prop),Q (.int (g i j) s.toks) { s with toks:=s.toks+1 }->wpAny (model X.prog X.w) X.A (f (.int i t) (.int j u)) Q E s) :
 OpR X f (rI0 fun i j=>.int (g i j)):=by
 intro pins s σ H x y v u Q I rx ry h
 obtain ⟨i,j,rfl,rfl,q⟩:=h
 obtain ⟨t,rfl⟩:=rx
 obtain ⟨t',rfl⟩:=ry
 exact rule i j t t' s _ _ ⟨.int (g i j),H,I.tok _,⟨_,rfl⟩,q⟩
theorem zf {f:Value->Value->Sem Value} {g:Int->Int->Bool}
 (rule:∀ (i j:Int) (t u:Tok) (s:Shared) (Q:Value->Shared->Prop) (E:Value->Shared->Prop),Q (.bool (g i j)) s->wpAny (model X.prog X.w) X.A (f (.int i t) (.int j u)) Q E s) :
 OpR X f (rI0 fun i j=>.bl (g i j)):=by
 intro pins s σ H x y v u Q I rx ry h
 obtain ⟨i,j,rfl,rfl,q⟩:=h
 obtain ⟨t,rfl⟩:=rx
 obtain ⟨t',rfl⟩:=ry
 exact rule i j t t' s _ _ ⟨.bl (g i j),H,I,rfl,q⟩
def lY (i j:Int):Prop:=0<=j/\j<=1000000/\i.natAbs < 2 ^ 64
def CMul (i j:Int):Prop:=(-(2 ^ 64) < i/\i < 2 ^ 64) \/ (-(2 ^ 64) < j/\j < 2 ^ 64)
theorem CMul.ok {i j:Int} (h:CMul i j):IntMulOk i j:=by
 rcases h with ⟨h1,h2⟩ | ⟨h1,h2⟩
 . exact .of_left (intBits_le_64 h1 h2)
 . exact .of_right (intBits_le_64 h1 h2)
theorem op_add:OpR X (binaryOp .Add) (rI0 fun i j=>.int (i+j)):=AD fun _ _ _ _ _ _ _ q=>add_int q
theorem za:OpR X (binaryOp .Sub) (rI0 fun i j=>.int (i - j)):=AD fun _ _ _ _ _ _ _ q=>sub_int q
theorem zd:OpR X (binaryOp .Mod) (rI (fun _ j=>0 < j) fun i j=>.int (i % j)):=opI fun i j _ _ _ _ _ hc q=>by
 have h1:(0:Int) < j:=hc
 exact mod_int' (by omega) (by rw [Int.fmod_eq_emod_of_nonneg i (by omega)];exact q)
theorem zb:OpR X (binaryOp .Pow) (rI lY fun i j=>.int (i ^ j.toNat)):=opI fun _ _ _ _ _ _ _ hc q=>pow_int_small hc.1 hc.2.1 hc.2.2 q
theorem unI {f:Value->Sem Value} {g:Int->Int}
 (rule:∀ (i:Int) (t:Tok) (s:Shared) (Q:Value->Shared->Prop) (E:Value->Shared->Prop),Q (.int (g i) s.toks) { s with toks:=s.toks+1 }->wpAny (model X.prog X.w) X.A (f (.int i t)) Q E s) :
 UnR X f (rU fun i=>.int (g i)):=by
 intro pins s σ H x v Q I rx h
 obtain ⟨i,rfl,q⟩:=h
 obtain ⟨t,rfl⟩:=rx
 exact rule i t s _ _ ⟨.int (g i),H,I.tok _,⟨_,rfl⟩,q⟩
theorem yn:UnR X (unaryOp .USub) (rU fun i=>.int (-i)):=unI fun _ _ _ _ _ q=>neg_int q
end
section
variable {X:Cx} {a b c:Expr} {ta tb tc:TE} {pos:Pos}
theorem v6 {pins:List (Addr×Obj)} {σ:St} {H:Hp} {s:Shared} {Q:VK} {k k':Bool} (I:Inv X pins σ H s) (q:Q (.bl k) H) (e:k=k'):EP X pins σ Q (.bool k') s:=by
 subst e
 exact ⟨.bl k,H,I,rfl,q⟩
theorem vF:OpR X (compareOp .Lt) (rI0 fun i j=>.bl (decide (i < j))):=zf fun _ _ _ _ _ _ _ q=>lt_int q
theorem AC:OpR X (compareOp .LtE) (rI0 fun i j=>.bl (decide (i<=j))):=zf fun _ _ _ _ _ _ _ q=>le_int q
theorem x4:OpR X (compareOp .Gt) (rI0 fun i j=>.bl (decide (j < i))):=zf fun _ _ _ _ _ _ _ q=>gt_int q
theorem vG:OpR X (compareOp .Is) (fun x y H Q=>y=.non/\Q (.bl (decide (x=.non))) H):=by
 intro pins s σ H x y v u Q I rx ry h
 obtain ⟨rfl,q⟩:=h
 cases ry
 refine is_none_gen (v6 I q ?_)
 cases x <;> first
  | (cases rx;rfl)
  | (obtain ⟨t,rfl⟩:=rx;rfl)
theorem sY:OpR X (compareOp .IsNot) (fun x y H Q=>y=.non/\Q (.bl (!decide (x=.non))) H):=by
 intro pins s σ H x y v u Q I rx ry h
 obtain ⟨rfl,q⟩:=h
 cases ry
 refine isnot_none_gen (v6 I q ?_)
 cases x <;> first
  | (cases rx;rfl)
  | (obtain ⟨t,rfl⟩:=rx;rfl)
theorem OpR.or {f:Value->Value->Sem Value} {r r':R2} (h:OpR X f r) (h':OpR X f r'):OpR X f (fun x y H Q=>r x y H Q \/ r' x y H Q):=by
 intro pins s σ H x y v u Q I rx ry q
 rcases q with q | q
 . exact h pins s σ H x y v u Q I rx ry q
 . exact h' pins s σ H x y v u Q I rx ry q
theorem dX (b:Expr) {op:CmpOp} (h:op ≠ .In:=by decide) (h2:op ≠ .NotIn:=by decide):behindInMarks op b=false:=by
 have e1:(op == CmpOp.In)=false:=by cases op <;> first | rfl | exact absurd rfl h
 have e2:(op == CmpOp.NotIn)=false:=by cases op <;> first | rfl | exact absurd rfl h2
 cases b <;> simp [behindInMarks,e1,e2]
theorem xb {op:CmpOp} {r:R2} (ho:OpR X (compareOp op) r) (ha:PE X a ta) (hb:PE X b tb) (hm:behindInMarks op b=false):PE X (.Compare a [op] [b] pos) (tOp r ta tb):=by
 intro pins s σ H Q I h
 exact wpAny_Compare1 (zM ha hb I h fun v u s2 x y H2 I2 rx ry q=>ho pins s2 σ H2 x y v u Q I2 rx ry q) hm
def zZ (t:TE):TT:=fun σ H Q=>t σ H fun x H'=>∃ k,x=.bl k/\Q k H'
theorem wS {op:CmpOp} {r:R2} (ho:OpR X (compareOp op) r) (ha:PE X a ta) (hb:PE X b tb) (hm:behindInMarks op b=false):PT X (.Compare a [op] [b] pos) (zZ (tOp r ta tb)):=by
 intro pins s σ H Q I h
 refine wpAny_isTrue_Compare1 (thn (ha pins s σ H _ I h) fun v s1 ⟨x,H1,I1,r1,q1⟩=>thn (hb pins s1 σ H1 _ I1 q1) fun u s2 ⟨y,H2,I2,r2,q2⟩ =>
  thn (ho pins s2 σ H2 x y v u _ I2 r1 r2 q2) fun c s3 ⟨z,H3,I3,r3,k,e,q3⟩=>?_) hm
 subst e
 cases r3
 exact wpAny_truthy_bool ⟨H3,I3,q3⟩
def yq (r r':R2) (ta tb tc:TE):TE:=fun σ H Q=>ta σ H fun x H1=>tb σ H1 fun y H2=>r x y H2 fun z H3=>∃ k,z=.bl k /\
 (if k=true then tc σ H3 fun w' H4=>r' y w' H4 Q else Q (.bl false) H3)
theorem vz {op op':CmpOp} {r r':R2} (ho:OpR X (compareOp op) r) (ho':OpR X (compareOp op') r') (ha:PE X a ta) (hb:PE X b tb) (hc:PE X c tc)
 (hm:lastMarks [op,op'] [b,c]=false:=by with_unfolding_all rfl):PE X (.Compare a [op,op'] [b,c] pos) (yq r r' ta tb tc):=by
 intro pins s σ H Q I h
 refine Compare_chain (thn (ha pins s σ H _ I h) fun v s1 ⟨x,H1,I1,r1,q1⟩=>chain_link (thn (hb pins s1 σ H1 _ I1 q1) fun u s2 ⟨y,H2,I2,r2,q2⟩ =>
  thn (ho pins s2 σ H2 x y v u _ I2 r1 r2 q2) fun d s3 ⟨z,H3,I3,r3,k,e,q3⟩=>?_)) hm
 subst e
 cases r3
 refine wpAny_truthy_bool ?_
 cases k with
 | false=>exact ite_ff ⟨.bl false,H3,I3,rfl,q3⟩
 | true=>exact ite_tt (chain_last (thn (hc pins s3 σ H3 _ I3 q3) fun w' s4 ⟨z',H4,I4,r4,q4⟩=>ho' pins s4 σ H4 y z' u w' Q I4 r2 r4 q4))
theorem pv:(sizeLine:Nat) < 2 ^ 63:=by rw [sizeLine_eq];decide
theorem jZ {x:V} {us:List Value} (r:Vals [x] us):∃ u,us=[u]/\RelV x u:=by
 cases r with
 | cons r1 r2=>cases r2;exact ⟨_,rfl,r1⟩
theorem zV {x y:V} {us:List Value} (r:Vals [x,y] us):∃ u w',us=[u,w']/\RelV x u/\RelV y w':=by
 cases r with
 | cons r1 r2 =>
  cases r2 with
  | cons r3 r4=>cases r4;exact ⟨_,_,rfl,r1,r3⟩
theorem wj:ij X (.builtin "abs") (fun xs H Q=>∃ i,xs=[.int i]/\Q (.int (if i < 0 then -i else i)) H):=by
 intro pins s σ H xs us Q I r h
 obtain ⟨i,rfl,q⟩:=h
 obtain ⟨u,rfl,t,rfl⟩:=jZ r
 exact call_abs_int fun u tk=>⟨.int (if i < 0 then -i else i),H,I.tok _,⟨_,rfl⟩,q⟩
theorem uB:ij X (.type "int") (fun xs H Q=>(∃ i,xs=[.int i]/\Q (.int i) H) \/ ∃ k,xs=[.bl k]/\Q (.int (if k then 1 else 0)) H):=by
 intro pins s σ H xs us Q I r h
 rcases h with ⟨i,rfl,q⟩ | ⟨k,rfl,q⟩
 . obtain ⟨u,rfl,t,rfl⟩:=jZ r
   exact call_int_int ⟨.int i,H,I,⟨_,rfl⟩,q⟩
 . obtain ⟨u,rfl,r1⟩:=jZ r
   cases r1
   exact call_int_bool ⟨.int (if k then 1 else 0),H,I.tok _,⟨_,rfl⟩,q⟩
end
end L2
namespace L2
open PySem PySem.Spec PyProof.Rows
section
variable {prog:Program} {w:World} {A:Around} {E:Value->Shared->Prop} {s:Shared} {K:PySem.W.Frag} {x dx C f:Addr} {mA:Str->Option Value} {name:Str} {v:Value}
end
section
variable {P:Program} {w:World} {H H':Hp} {h h':Heap} {a C dx:Addr} {fs fs':List (Str×V)}
end
section
variable {X:Cx} {pins:List (Addr×Obj)} {σ:St} {H:Hp} {s:Shared} {a C dx:Addr} {fs:List (Str×V)} {f:Str} {v:V} {A:Around} {E:Value->Shared->Prop}
end
section
variable {X:Cx} {o e value:Expr} {f:Str} {pos pos' tpos:Pos} {ta tv:TE}
end
section
variable {X:Cx} {pins:List (Addr×Obj)} {σ:St} {H:Hp} {s:Shared} {A:Around} {E:Value->Shared->Prop} {Q:Value->Shared->Prop} {c:Value} {b:Bool}
end
end L2
namespace L2
open PySem PySem.Spec PyProof.Rows
structure Room (k:Nat) (A:Around):Prop where
 hd:A.handled=none
 dp:A.depth+3*k+5 < recursionLimit
 un:A.units+16*k+200 < cLine
theorem Room.mono {j k:Nat} {A:Around} (r:Room k A) (h:j<=k):Room j A:=⟨r.hd,by have:=r.dp;omega,by have:=r.un;omega⟩
theorem Room.deeper {k:Nat} {A:Around} (r:Room (k+1) A) (env:Env):Room k (A.deeper env) :=
 ⟨r.hd,by have:=r.dp;show A.depth+1+3*k+5 < _;omega,by have:=r.un;show A.units+3+16*k+200 < _;omega⟩
theorem Room.depth {k:Nat} {A:Around} (r:Room k A):A.depth < recursionLimit:=by have:=r.dp;omega
theorem Room.units {k:Nat} {A:Around} (r:Room k A):A.units+64 < cLine:=by have:=r.un;omega
theorem Room.units0 {k:Nat} {A:Around} (r:Room k A):A.units < cLine:=by have:=r.un;omega
def wA:TA:=fun _ H Q=>Q [] H
def n9 (ta:TE) (tr:TA):TA:=fun σ H Q=>ta σ H fun x H1=>tr σ H1 fun xs H2=>Q (x :: xs) H2
section
variable {X:Cx} {e:Expr} {es:List Expr} {te:TE} {t:TA} {pos:Pos}
theorem dW:PA X [] wA:=fun _ _ _ _ H Q I h=>Calls.spliced_nil ⟨[],H,I,.nil,h⟩
theorem cA (ha:PE X e te) (hr:PA X es t) (hs:starEach (e :: es) X.env=(false,eval e X.env) :: starEach es X.env:=by rfl):PA X (e :: es) (n9 te t):=by
 intro pos pins s σ H Q I h
 rw [hs]
 show wpAny _ _ (spliced ((false,eval e X.env) :: backTo pos (starEach es X.env))) _ _ s
 refine Calls.spliced_cons (thn (ha pins s σ H _ I h) fun u s1 ⟨x,H1,I1,r1,q1⟩=>?_)
 exact thn (hr pos pins s1 σ H1 _ I1 q1) fun us s2 ⟨xs,H2,I2,r2,q2⟩=>⟨x :: xs,H2,I2,.cons r1 r2,q2⟩
def Bg (t:TA):TE:=fun σ H Q=>t σ H fun xs H1=>xs.length<=sizeLine/\∀ p,H1 p=none->Q (.ref p) (upd H1 p (.tup xs))
def Bo (t:TA):TE:=fun σ H Q=>t σ H fun xs H1=>xs.length<=sizeLine/\∀ p,H1 p=none->Q (.ref p) (upd H1 p (.lst xs))
theorem vw {x1} (h:PA X es t):PE X (.Tuple es x1 pos) (Bg t):=by
 intro pins s σ H Q I hq
 refine wpAny_Tuple_spliced (thn (h pos pins s σ H _ I hq) fun us s1 ⟨xs,H1,I1,r,z,q⟩=>⟨by rw [<- r.length];exact z,?_⟩)
 have hf:H1 s1.heap.objs.size=none:=I1.hok.fresh (Nat.le_refl _)
 refine ⟨.ref s1.heap.objs.size,upd H1 s1.heap.objs.size (.tup xs),I1.laid (t':=s1.toks) (fun b u e=>Heap.get?_push_of_some _ e) (Nat.le_refl _) ?_,rfl,q _ hf⟩
 exact ⟨z,us,r,⟨_,Heap.get?_push_size _ rfl,rfl,_,rfl⟩⟩
theorem vy (h:PA X es t):PE X (.List es pos) (Bo t):=by
 intro pins s σ H Q I hq
 refine wpAny_List_spliced (thn (h pos pins s σ H _ I hq) fun us s1 ⟨xs,H1,I1,r,z,q⟩=>⟨by rw [<- r.length];exact z,?_⟩)
 have hf:H1 s1.heap.objs.size=none:=I1.hok.fresh (Nat.le_refl _)
 refine ⟨.ref s1.heap.objs.size,upd H1 s1.heap.objs.size (.lst xs),I1.laid (t':=s1.toks) (fun b u e=>Heap.get?_push_of_some _ e) (Nat.le_refl _) ?_,rfl,q _ hf⟩
 exact ⟨z,us,0,r,Heap.get?_push_size _ rfl⟩
end
abbrev Sp:=List V->Hp->VK->XK->Prop
abbrev CXT:=List Env->Hp->Shared->XK->Value->Shared->Prop
structure xP (P:Program) (w:World) (K:PySem.W.Frag) (mg:Str->Option Value) (base:Heap) (A:Around) (outer:List Env) (s:Shared) (H:Hp):Prop where
 frames:A.frames=some outer
 mod:Mod K mg base
 bs:∀ b o,base.get? b=some o->s.heap.get? b=some o/\H b=none
 bsz:base.objs.size<=s.heap.objs.size
 funs:s.heap.FunFrames base outer
 frf:∀ b∈frs outer,H b=none
 hok:HOk P w H s.heap
 bare:AllBare s.gens
def CE (outer:List Env) (P:Program) (w:World) (H:Hp) (s:Shared) (Q:VK) (u:Value) (s':Shared):Prop :=
 ∃ v H',s'.os=s.os/\AllBare s'.gens/\Un (frs outer) [] H H' s.heap s'.heap/\HOk P w H' s'.heap/\RelV v u/\Q v H'
def CR (CX:CXT) (outer:List Env) (P:Program) (w:World) (H:Hp) (s:Shared) (Q:VK) (E:XK) (r:Result) (s':Shared):Prop :=
 match r with
 | .ok (.ret u)=>CE outer P w H s Q u s'
 | .ok _=>False
 | .error e=>CX outer H s E e s'
structure FnOk (P:Program) (w:World) (K:PySem.W.Frag) (mg:Str->Option Value) (base:Heap) (CX:CXT) (k:Nat) (f:Addr) (fd:FuncData) (ps:List Str) (sp:Sp):Prop where
 len:∀ vs H Q E,sp vs H Q E->vs.length=ps.length
 run:∀ (A:Around) (outer:List Env) (s:Shared) (H:Hp) (args:Args) (us:List Value) (vs:List V) (Q:VK) (E:XK),Room k A->xP P w K mg base A outer s H->BindsTo s fd args (ps.zip us)->Vals vs us->sp vs H Q E ->
  codeAny (model P w) A (.call (.ref f) args) (CR CX outer P w H s Q E) s
theorem FnOk.imp {P:Program} {w:World} {K:PySem.W.Frag} {mg:Str->Option Value} {base:Heap} {CX:CXT} {k:Nat} {f:Addr} {fd:FuncData} {ps:List Str} {sp sp':Sp} (F:FnOk P w K mg base CX k f fd ps sp)
 (h:∀ vs H Q E,sp' vs H Q E->sp vs H Q E):FnOk P w K mg base CX k f fd ps sp' :=
 ⟨fun vs H Q E q=>F.len vs H Q E (h _ _ _ _ q),fun A outer s H args us vs Q E hr he hb hv hs=>F.run A outer s H args us vs Q E hr he hb hv (h _ _ _ _ hs)⟩
section
variable {X:Cx} {pins:List (Addr×Obj)} {σ:St} {H:Hp} {s s':Shared}
theorem Inv.env0 (I:Inv X pins σ H s):xP X.prog X.w X.K X.mg X.base X.A X.stack s H :=
 ⟨I.ok.frames,I.ok.mod,I.bs,Nat.le_trans I.ok.bsz I.sz,I.stack,I.stkFree,I.hok,I.bare⟩
theorem Inv.after {Q:VK} {u:Value} (I:Inv X pins σ H s) (h:CE X.stack X.prog X.w H s Q u s'):EP X pins σ Q u s':=by
 obtain ⟨v,H',os,bare,un,hok,r,q⟩:=h
 obtain ⟨hh,g,d,t,os'⟩:=s'
 obtain rfl:os'=s.os:=os
 exact ⟨v,H',I.call (h':=hh) (g':=g) (d':=d) (t':=t) (ch:=[]) un hok bare (fun b z=>absurd z (by simp)),r,q⟩
end
def Aa (sp:Sp) (dvs:List V) (E:XK) (t:TA):TE:=fun σ H Q=>t σ H fun vs H1=>sp (vs++dvs) H1 Q E
def Binds (K:PySem.W.Frag) (fd:FuncData) (ps:List Str) (ds:List Value):Prop :=
 ∀ (s:Shared) (us:List Value),K.In s.heap->(us++ds).length=ps.length->BindsTo s fd ⟨us,[]⟩ (ps.zip (us++ds))
theorem Binds.all {K:PySem.W.Frag} {fd:FuncData} {ps:List Str} (h:∀ us:List Value,us.length=ps.length->bindArgs fd ⟨us,[]⟩=pure (ps.zip us)):Binds K fd ps []:=fun s us _ hl=>by
 rw [List.append_nil] at hl ⊢
 exact .of_eq (h us hl)
def se (CX:CXT) (X:Cx) (E:XK):Prop:=∀ (pins:List (Addr×Obj)) (σ:St) (H:Hp) (s:Shared) (e:Value) (s':Shared),Inv X pins σ H s->CX X.stack H s E e s'->X.xe e s'
section
variable {X:Cx} {CX:CXT} {k:Nat} {f C:Addr} {fd:FuncData} {ps:List Str} {sp:Sp} {dvs:List V} {ds:List Value} {E:XK} {x m:Str} {p pos apos:Pos} {e o:Expr} {es:List Expr} {ta:TE} {t:TA}
theorem yz {pins:List (Addr×Obj)} {σ:St} {H:Hp} {s:Shared} {Q:VK} {us:List Value} {vs:List V} (F:FnOk X.prog X.w X.K X.mg X.base CX k f fd ps sp) (hr:Room k X.A) (hb:Binds X.K fd ps ds) (hd:Vals dvs ds) (hx:se CX X E)
 (I:Inv X pins σ H s) (r:Vals vs us) (h:sp (vs++dvs) H Q E):wpAny (model X.prog X.w) X.A (call (.ref f) us) (EP X pins σ Q) X.xe s:=by
 have r2:Vals (vs++dvs) (us++ds):=r.append hd
 have hl:(us++ds).length=ps.length:=by rw [<- r2.length];exact F.len _ _ _ _ h
 refine wpAny_call (codeAny_mono (F.run X.A X.stack s H ⟨us,[]⟩ (us++ds) (vs++dvs) Q E hr I.env0 (hb s us I.kIn hl) r2 h) fun r s' hq=>?_)
 cases r with
 | error e=>exact hx pins σ H s e s' I hq
 | ok fl =>
  cases fl with
  | ret u=>exact I.after hq
  | next=>exact False.elim hq
  | brk=>exact False.elim hq
  | cont=>exact False.elim hq
theorem ma (F:FnOk X.prog X.w X.K X.mg X.base CX k f fd ps sp) (hr:Room k X.A) (hg:Gl X x) (hm:X.mg x=some (.ref f)) (hk:PySem.W.keepIn X.K (.ref f)=true) (hb:Binds X.K fd ps ds) (hd:Vals dvs ds) (hx:se CX X E)
 (ha:PA X (e :: es) t) (hdb:(x == ("__debug__":Str))=false:=by decide) (he:starEach (e :: es) X.env=(false,eval e X.env) :: starEach es X.env:=by rfl) (hpl:(backTo pos (starEach es X.env)).any (·.1)=false:=by rfl) :
 PE X (.Call (.Name x p) (e :: es) [] pos) (Aa sp dvs E t):=by
 intro pins s σ H Q I h
 refine wpAny_Call_Name_kw (xq I hg hm ?_ hdb)
 refine PySem.W.callWith_K (h₀:=X.base) I.ok.mod.kin hk (thn (ha pos pins s σ H _ I h) fun us s1 ⟨vs,H1,I1,r,q⟩=>⟨I1.kIn,?_⟩) he hpl
 exact yz F hr hb hd hx I1 r q
end
section
variable {X:Cx} {CX:CXT} {k:Nat} {f C:Addr} {fd:FuncData} {ps ks:List Str} {sp:Sp} {E:XK} {x m:Str} {p pos apos kpos:Pos} {e o:Expr} {es:List Expr} {kws:List Keyword} {te ta:TE} {t tk:TA} {nm:Option Str}
variable {g:List Value->List Value->List Value} {gV:List V->List V->List V}
end
structure aG (N P:List Str) (sc:Scope):Prop where
 kind:sc.kind=.function
 co:sc.isCoroutine=false
 gen:sc.isGenerator=false
 nd:N.Nodup
 pre:N.take P.length=P
 par:∀ x∈P,sc.names.lookup x=some .local \/ sc.names.lookup x=some .cell
 nofree:∀ y∈sc.names,y.2 ≠ .free
theorem oG {kindOf:Str->Option NameKind} {x:Str}:∀ {binds:List (Str×Value)} {m:Str->Option Value},(∀ v,(x,v) ∉ binds)->bindL kindOf binds m x=m x
 | [],_,_=>rfl
 | (n,v) :: r,m,h=>by
  unfold bindL
  rw [oG fun w hw=>h w (Zl _ hw)]
  split
  . have:x ≠ n:=by rintro rfl;exact h v Zk
    simp [this]
  . rfl
theorem oI {kindOf:Str->Option NameKind} {x:Str}:∀ {binds:List (Str×Value)} {m:Str->Option Value},(∀ v,(x,v) ∉ binds)->bindC kindOf binds m x=m x
 | [],_,_=>rfl
 | (n,v) :: r,m,h=>by
  unfold bindC
  rw [oI fun w hw=>h w (Zl _ hw)]
  split
  . rfl
  . have:x ≠ n:=by rintro rfl;exact h v Zk
    simp [this]
theorem oH {kindOf:Str->Option NameKind} {x:Str} {v:Value}:∀ {P:List Str} {vs:List Value} {i:Nat} {m:Str->Option Value},P.Nodup->P[i]? = some x->vs[i]? = some v->kindOf x=some .local ->
 bindL kindOf (P.zip vs) m x=some v
 | [],_,_,_,_,h,_,_=>by simp at h
 | _ :: _,[],_,_,_,_,h,_=>by simp at h
 | p :: P,w :: vs,0,m,nd,h1,h2,hk=>by
  simp at h1 h2;subst h1;subst h2
  show bindL kindOf ((p,w) :: P.zip vs) m p=_
  unfold bindL
  rw [oG fun v hv=>(List.nodup_cons.mp nd).1 (List.of_mem_zip hv).1,if_pos hk]
  simp
 | p :: P,w :: vs,i+1,m,nd,h1,h2,hk=>by
  show bindL kindOf ((p,w) :: P.zip vs) m x=_
  unfold bindL
  exact oH (i:=i) (List.nodup_cons.mp nd).2 (by simpa using h1) (by simpa using h2) hk
theorem oJ {kindOf:Str->Option NameKind} {x:Str} {v:Value}:∀ {P:List Str} {vs:List Value} {i:Nat} {m:Str->Option Value},P.Nodup->P[i]? = some x->vs[i]? = some v->kindOf x ≠ some .local ->
 bindC kindOf (P.zip vs) m x=some v
 | [],_,_,_,_,h,_,_=>by simp at h
 | _ :: _,[],_,_,_,_,h,_=>by simp at h
 | p :: P,w :: vs,0,m,nd,h1,h2,hk=>by
  simp at h1 h2;subst h1;subst h2
  show bindC kindOf ((p,w) :: P.zip vs) m p=_
  unfold bindC
  rw [oI fun v hv=>(List.nodup_cons.mp nd).1 (List.of_mem_zip hv).1,if_neg hk]
  simp
 | p :: P,w :: vs,i+1,m,nd,h1,h2,hk=>by
  show bindC kindOf ((p,w) :: P.zip vs) m x=_
  unfold bindC
  exact oJ (i:=i) (List.nodup_cons.mp nd).2 (by simpa using h1) (by simpa using h2) hk
def start (N:List Str) (vs:List V):St:=vs.map some++List.replicate (N.length - vs.length) none
def lV (CX:CXT) (P:Program) (w:World) (K:PySem.W.Frag) (mg:Str->Option Value) (base:Heap) (N:List Str) (qual:Str) (scope:Scope) (f:Addr) (cd:Value) (A:Around) (outer:List Env) (s:Shared) (H:Hp) (E:XK):Cx where
 prog:=P
 w:=w
 K:=K
 mg:=mg
 base:=base
 A:=A.deeper (envOfC qual scope s.heap.objs.size f cd)
 N:=N
 s₀:=s
 H₀:=H
 env:=envOfC qual scope s.heap.objs.size f cd
 outer:=outer
 stack:=envOfC qual scope s.heap.objs.size f cd :: outer
 ex:=[]
 calm:=true
 fn:=fun _=>true
 pn:=[]
 xe:=fun e s'=>wpAny (model P w) (A.deeper (envOfC qual scope s.heap.objs.size f cd)) (leaving (envOfC qual scope s.heap.objs.size f cd) e) (fun _ s''=>CX outer H s E e s'') (fun e' s''=>CX outer H s E e' s'') s'
theorem qY {sc:Scope} {n:Nat} {x:Str} (h:sc.names.lookup x=some .cell):∃ c,(cellsFrom n sc.names []).lookup x=some c:=by
 have q:=PySem.W.cellsFrom_some sc.names n [] (.inl h)
 exact Option.isSome_iff_exists.mp q
theorem um {CX:CXT} {P:Program} {w:World} {K:PySem.W.Frag} {mg:Str->Option Value} {base:Heap} {N ps:List Str} {qual:Str} {scope:Scope} {f:Addr} {cd:Value} {A:Around} {outer:List Env} {s s1:Shared} {H:Hp} {E:XK} {us:List Value} {vs:List V}
 (S:aG N ps scope) (hd:A.handled=none) (e0:xP P w K mg base A outer s H) (hl:vs.length=ps.length) (r:Vals vs us)
 (x:InCallC s s.heap.objs.size (bindL (envOfC qual scope s.heap.objs.size f cd).kindOf (ps.zip us) fun _=>none) (cellsFrom (s.heap.objs.size+1) scope.names []) (bindC (envOfC qual scope s.heap.objs.size f cd).kindOf (ps.zip us) fun _=>none) s1) :
 Inv (lV CX P w K mg base N qual scope f cd A outer s H E) [] (start N vs) H s1:=by
 have hpl:ps.length<=N.length:=by have:=congrArg List.length S.pre;rw [List.length_take] at this;omega
 obtain ⟨h1,tk,rfl,hk⟩:=x.done
 have noA:∀ b:Addr,b ∉ (lV CX P w K mg base N qual scope f cd A outer s H E).ex:=fun b z=>absurd (show b∈([]:List Addr) from z) (by simp)
 refine ⟨⟨e0.mod,S.kind,rfl,rfl,Nat.le_refl _,fun y z c h1 h2=>?_,fun y hy=>?_,fun y c _ h=>?_,fun _=>hd,Around.frames_deeper e0.frames,.inr ⟨rfl,rfl⟩,fun b z=>absurd z (noA b),e0.bs,e0.bsz,fun b _ _=>noA b,fun b z=>absurd z (noA b),e0.funs,e0.frf⟩,
  rfl,e0.bare,Un.kept hk,⟨_,x.toInCall.ns,fun i y v h1 h2 h3=>?_⟩,fun y c h=>⟨_,x.cell y c h⟩,e0.hok.fresh (Nat.le_refl _),fun y c h=>?_,fun p hp=>absurd (show p∈([]:List (Addr×Obj)) from hp) (by simp),e0.hok.kept hk,?_⟩
 . exact name_of_addr x.apart (PySem.mem_of_lookup h1) (PySem.mem_of_lookup h2)
 . have hy:scope.names.lookup y=some .cell \/ scope.names.lookup y=some .free:=hy
   rcases hy with hy | hy
   . exact qY hy
   . exact absurd rfl (S.nofree _ (PySem.mem_of_lookup hy))
 . exact Nat.le_of_lt (x.above y c (PySem.mem_of_lookup h))
 . have hi:i < vs.length:=by
    unfold start at h2
    by_cases hi:i < vs.length
    . exact hi
    . rw [List.getElem?_append_right (by simpa using hi)] at h2
      rw [List.getElem?_replicate] at h2
      split at h2 <;> cases h2
   have ha:vs[i]? = some v:=by
    unfold start at h2
    rw [List.getElem?_append_left (by simpa using hi),List.getElem?_map] at h2
    cases e:vs[i]? with
    | none=>rw [e] at h2;cases h2
    | some a=>rw [e] at h2;cases h2;rfl
   obtain ⟨u,hu,rv⟩:=r.get ha
   have hp:ps[i]? = some y:=by
    rw [<- S.pre,List.getElem?_take_of_lt (by omega)];exact h1
   have ndP:ps.Nodup:=by rw [<- S.pre];exact S.nd.sublist (List.take_sublist _ _)
   refine ⟨u,rv,?_⟩
   rcases S.par y (List.mem_of_getElem? hp) with k | k
   . exact .inl ⟨k,oH ndP hp hu k⟩
   . obtain ⟨c,e⟩:=qY (n:=s.heap.objs.size+1) k
     refine .inr ⟨.inl k,c,e,?_⟩
     have q:=x.cell y c e
     rw [oJ ndP hp hu (by show scope.names.lookup y ≠ _;rw [k];decide)] at q
     exact q
 . exact e0.hok.fresh (Nat.le_of_lt (x.above y c (PySem.mem_of_lookup h)))
 . unfold start
   show _=N.length
   rw [Zh,Zi,List.length_replicate]
   omega
theorem yh {CX:CXT} {P:Program} {w:World} {K:PySem.W.Frag} {mg:Str->Option Value} {base:Heap} {k:Nat} {f:Addr} {name qual:Str} {params:Arguments} {body:List Stmt} {scope:Scope} {dV kV doc pm cdv ct oc:Value} {an od:Option Addr}
 {osl:Array (Option Value)} {N ps:List Str} {sp:Sp} (lk:K.lookup f=some ⟨oc,od,.func (PySem.W.fnOf name qual params body scope dV kV doc pm an cdv ct),osl⟩) (hcd:PySem.W.codeIn K cdv qual=true) (S:aG N ps scope)
 (len:∀ vs H Q E,sp vs H Q E->vs.length=ps.length)
 (hbody:∀ (A:Around) (outer:List Env) (s:Shared) (H:Hp) (vs:List V) (Q:VK) (E:XK),Room k (A.deeper (envOfC qual scope s.heap.objs.size f cdv))->sp vs H Q E ->
  ∃ t,PSs (lV CX P w K mg base N qual scope f cdv A outer s H E) body t/\t { nx:=fun _ H'=>Q .non H',rt:=Q } (start N vs) H) :
 FnOk P w K mg base CX (k+1) f (PySem.W.fnOf name qual params body scope dV kV doc pm an cdv ct) ps sp:=by
 refine ⟨len,fun A outer s H args us vs Q E hr e0 hb r hsp=>?_⟩
 have hl:=len _ _ _ _ hsp
 have KX:K.In s.heap:=e0.mod.kin.keeps fun b o e=>(e0.bs b o e).1
 have lim:s.heap.NoLimit:=e0.mod.nolimit.keeps fun b o e=>(e0.bs b o e).1
 have hkind:∀ y∈ps.zip us,scope.names.lookup y.1=some .local \/ (scope.names.lookup y.1=some .cell/\((cellsFrom (s.heap.objs.size+1) scope.names []).lookup y.1).isSome=true):=fun ⟨n,v⟩ hy=>by
  rcases S.par n (List.of_mem_zip hy).1 with q | q
  . exact .inl q
  . exact .inr ⟨q,PySem.W.cellsFrom_some _ _ _ (.inl q)⟩
 refine codeAny_call_function hr.depth (KX _ _ lk) rfl S.co S.gen rfl (PySem.W.codeRec_of KX hcd) (hb _ _ _ _ ?_)
 refine wpAny_newFunctionEnv_cells S.kind hkind fun env he s1 x=>?_
 subst he
 refine ⟨lim.keeps x.toInCall.keep,codeAny_func ?_⟩
 obtain ⟨t,ht,hq⟩:=hbody A outer s H vs Q E (hr.deeper _) hsp
 have I:Inv (lV CX P w K mg base N qual scope f cdv A outer s H E) [] (start N vs) H s1:=um S hr.hd e0 hl r x
 refine wpAny_mono (ht [] s1 (start N vs) H _ I hq) (fun fl s' hs=>?_) fun e s' hs=>hs
 have fin:∀ {σ':St} {H':Hp} {v:V} {u:Value},Inv (lV CX P w K mg base N qual scope f cdv A outer s H E) [] σ' H' s'->RelV v u->Q v H'->CE outer P w H s Q u s' :=
  fun {σ' H' v u} J rv q=>⟨v,H',J.os,J.bare,J.base,J.hok,rv,q⟩
 cases fl with
 | ret u =>
  obtain ⟨v,σ',H',J,rv,q⟩:=hs
  exact fin J rv q
 | next =>
  obtain ⟨σ',H',J,q⟩:=hs
  exact fin (v:=V.non) (u:=Value.none) J rfl q
 | brk =>
  obtain ⟨_,_,_,q⟩:=hs
  exact False.elim q
 | cont =>
  obtain ⟨_,_,_,q⟩:=hs
  exact False.elim q
end L2
namespace L2
open PySem PySem.Spec PyProof.Rows
section
variable {X:Cx} {x:Str} {p pos:Pos} {e:Expr} {es:List Expr} {t:TA} {id T:String} {r:List V->Hp->VK->Prop}
def tCB (r:List V->Hp->VK->Prop) (t:TA):TE:=fun σ H Q=>t σ H fun vs H1=>r vs H1 Q
theorem qu (hc:ij X (.builtin id) r) (hg:Gl X x) (hm:X.mg x=none) (hv:bootBuiltins x=some (.builtin id)) (ha:PA X (e :: es) t) (hn:x ≠ "__name__":=by decide) (hdb:(x == ("__debug__":Str))=false:=by decide)
 (he:starEach (e :: es) X.env=(false,eval e X.env) :: starEach es X.env:=by rfl) (hpl:(backTo pos (starEach es X.env)).any (·.1)=false:=by rfl):PE X (.Call (.Name x p) (e :: es) [] pos) (tCB r t):=by
 intro pins s σ H Q I h
 refine wpAny_Call_Name_kw (nh I hg hm hv ?_ hn hdb)
 exact PyProof.Rows.callWith_builtin1 (thn (ha pos pins s σ H _ I h) fun us s1 ⟨vs,H1,I1,r1,q1⟩=>hc pins s1 σ H1 vs us Q I1 r1 q1) he hpl
theorem jn (hc:ij X (.type T) r) (hg:Gl X x) (hm:X.mg x=none) (hv:bootBuiltins x=some (.type T)) (ha:PA X (e :: es) t) (hn:x ≠ "__name__":=by decide) (hdb:(x == ("__debug__":Str))=false:=by decide)
 (he:starEach (e :: es) X.env=(false,eval e X.env) :: starEach es X.env:=by rfl) (hpl:(backTo pos (starEach es X.env)).any (·.1)=false:=by rfl):PE X (.Call (.Name x p) (e :: es) [] pos) (tCB r t):=by
 intro pins s σ H Q I h
 refine wpAny_Call_Name_kw (nh I hg hm hv ?_ hn hdb)
 exact PyProof.Rows.callWith_type1 (thn (ha pos pins s σ H _ I h) fun us s1 ⟨vs,H1,I1,r1,q1⟩=>hc pins s1 σ H1 vs us Q I1 r1 q1) he hpl
end
end L2
namespace HT
open PySem PyProof.Rows
section
open PySem.SeqAt
open PySem.AutoSeq1 (wpAny_loadPart')
open PySem.MeetsSeq PySem.MeetsSeq2 PySem.MeetsSeq3
end
section
variable {prog:Program} {w:World} {A:Around} {E:Value->Shared->Prop} {s:Shared}
def sIx (n d:Nat):Option Int->Nat
 | none=>d
 | some v=>if v < 0 then (v+(n:Int)).toNat else min v.toNat n
end
end HT
namespace L2
open PySem PySem.Spec PyProof.Rows
abbrev TO:=St->Hp->(Option Int->Hp->Prop)->Prop
def PO (X:Cx) (e:Option Expr) (t:TO):Prop :=
 ∀ (pins:List (Addr×Obj)) (s:Shared) (σ:St) (H:Hp) (Q:Option Int->Hp->Prop),Inv X pins σ H s->t σ H Q ->
  wpAny (model X.prog X.w) X.A (evalPart e X.env) (fun u s'=>∃ o H',Inv X pins σ H' s'/\IsPart u o/\Q o H') X.xe s
def wz:TO:=fun _ H Q=>Q none H
def z5 (t:TE):TO:=fun σ H Q=>t σ H fun x H1=>∃ i,x=.int i/\Q (some i) H1
section
variable {X:Cx} {e:Expr} {te:TE} {lo hi:Option Expr} {tl th:TO} {pos p2:Pos}
theorem wW:PO X none wz:=by
 intro pins s σ H Q I h
 rw [evalPart_none]
 exact wpAny_pure ⟨none,H,I,.none,h⟩
theorem wV (h:PE X e te):PO X (some e) (z5 te):=by
 intro pins s σ H Q I hw
 rw [evalPart_some]
 refine thn (h pins s σ H _ I hw) fun u s1 ⟨x,H1,I1,r1,q1⟩=>?_
 obtain ⟨i,rfl,q⟩:=q1
 obtain ⟨t,rfl⟩:=r1
 exact ⟨some i,H1,I1,.int i t,q⟩
def SlR (X:Cx) (r:V->Option Int->Option Int->Hp->VK->Prop):Prop :=
 ∀ (pins:List (Addr×Obj)) (s:Shared) (σ:St) (H:Hp) (x:V) (v vl vu:Value) (lo hi:Option Int) (sl:Addr) (Q:VK),Inv X pins σ H s->RelV x v->s.heap.IsSliceOf sl vl vu .none->IsPart vl lo->IsPart vu hi->r x lo hi H Q ->
  ∃ T id,typeLookup (.type T) "__getitem__" = pure (some (.builtin id))/\s.TypeIs v T/\wpAny (model X.prog X.w) X.A (getItem v (.ref sl)) (EP X pins σ Q) X.xe s
def tSl (r:V->Option Int->Option Int->Hp->VK->Prop) (te:TE) (tl th:TO):TE:=fun σ H Q=>te σ H fun x H1=>tl σ H1 fun l H2=>th σ H2 fun u H3=>r x l u H3 Q
theorem vx {r:V->Option Int->Option Int->Hp->VK->Prop} (hr:SlR X r) (he:PE X e te) (hl:PO X lo tl) (hu:PO X hi th):PE X (.Subscript e (.Slice lo hi none p2) pos) (tSl r te tl th):=by
 intro pins s σ H Q I h
 refine Subscript_ (thn (he pins s σ H _ I h) fun v s1 ⟨x,H1,I1,r1,q1⟩=>?_)
 refine wpAny_Slice (thn (hl pins s1 σ H1 _ I1 q1) fun vl s2 ⟨l,H2,I2,pl,q2⟩=>thn (hu pins s2 σ H2 _ I2 q2) fun vu s3 ⟨u,H3,I3,pu,q3⟩=>?_)
 rw [evalPart_none]
 refine wpAny_pure ?_
 have I4:Inv X pins σ H3 { s3 with heap:=s3.heap.push { cls:=.type "slice",data:=.fields #[vl,vu,.none] } }:=I3.kept (t':=s3.toks) fun b ob q=>Heap.get?_push_of_some _ q
 obtain ⟨T,id,hT,ht,hg⟩:=hr pins { s3 with heap:=s3.heap.push { cls:=.type "slice",data:=.fields #[vl,vu,.none] } } σ H3 x v vl vu l u s3.heap.objs.size Q I4 r1 (Heap.IsSliceOf.new ..) pl pu q3
 show wpAny (model X.prog X.w) X.A (subscriptTail e (.Slice lo hi none p2) v (.ref s3.heap.objs.size)) (EP X pins σ Q) X.xe { s3 with heap:=s3.heap.push { cls:=.type "slice",data:=.fields #[vl,vu,.none] } }
 exact tail_any (ops:=[.ref s3.heap.objs.size,v]) ht hT hg (by with_unfolding_all rfl)
def ut (xs:List V) (lo hi:Option Int):List V:=(xs.drop (HT.sIx xs.length 0 lo)).take (HT.sIx xs.length xs.length hi - HT.sIx xs.length 0 lo)
theorem qS (xs:List V) (lo hi:Option Int):(ut xs lo hi).length<=xs.length:=by
 unfold ut
 rw [List.length_take,List.length_drop]
 omega
end
end L2
namespace L2
open PySem PySem.Spec PyProof.Rows
def ixN (n:Nat) (i:Int):Option Nat:=if 0<=i then (if i < n then some i.toNat else none) else if -(n:Int)<=i then some (i+n).toNat else none
def atI {α:Type} (xs:List α) (i:Int):Option α:=(ixN xs.length i).bind fun j=>xs[j]?
theorem mh {n:Nat} {i:Int} {j:Nat} (h:ixN n i=some j):seqIndex? i n=some j/\j < n/\-(n:Int)<=i/\i < n:=by
 unfold ixN at h
 by_cases h0:0<=i
 . rw [if_pos h0] at h
   by_cases h1:i < n
   . rw [if_pos h1] at h
     have e:i.toNat=j:=Option.some.inj h
     exact ⟨by rw [seqIndex_of h0 h1,e],by omega,by omega,h1⟩
   . rw [if_neg h1] at h;cases h
 . rw [if_neg h0] at h
   by_cases h1:-(n:Int)<=i
   . rw [if_pos h1] at h
     have e:(i+n).toNat=j:=Option.some.inj h
     exact ⟨by rw [seqIndex_neg (by omega) h1,e],by omega,h1,by omega⟩
   . rw [if_neg h1] at h;cases h
theorem tW {α:Type} {xs:List α} {i:Int} {v:α} (h:atI xs i=some v):∃ j,seqIndex? i xs.length=some j/\xs[j]? = some v/\j < xs.length/\-(xs.length:Int)<=i/\i < xs.length:=by
 unfold atI at h
 cases e:ixN xs.length i with
 | none=>rw [e] at h;cases h
 | some j =>
  rw [e] at h
  obtain ⟨h1,h2,h3,h4⟩:=mh e
  exact ⟨j,h1,h,h2,h3,h4⟩
theorem atI_nat {α:Type} {xs:List α} {j:Nat} {v:α} (h:xs[j]? = some v):atI xs (j:Int)=some v:=by
 have hj:j < xs.length:=(List.getElem?_eq_some_iff.mp h).1
 have e:ixN xs.length (j:Int)=some j:=by
  unfold ixN
  rw [if_pos (by omega),if_pos (by omega)];simp
 unfold atI;rw [e];exact h
def pY (b:Expr):Prop:=∀ o i,subscripted b false o i=operate [o,i] (getItem o i)
def IxR (X:Cx) (r:R2):Prop :=
 ∀ (value slice:Expr) (pins:List (Addr×Obj)) (s:Shared) (σ:St) (H:Hp) (x y:V) (v u:Value) (Q:VK),Inv X pins σ H s->RelV x v->RelV y u->r x y H Q ->
  subscripted slice false v u=operate [v,u] (getItem v u)->wpAny (model X.prog X.w) X.A (subscriptTail value slice v u) (EP X pins σ Q) X.xe s
def MtR (X:Cx) (id:String) (r:V->List V->Hp->VK->Prop):Prop :=
 ∀ (pins:List (Addr×Obj)) (s:Shared) (σ:St) (H:Hp) (x:V) (xs:List V) (v:Value) (us:List Value) (Q:VK),Inv X pins σ H s->RelV x v->Vals xs us->r x xs H Q ->
  wpAny (model X.prog X.w) X.A (call (.builtin id) (v :: us)) (EP X pins σ Q) X.xe s
section
variable {X:Cx} {a b:Expr} {ta tb:TE} {pos:Pos}
theorem IxR.or {r r':R2} (h:IxR X r) (h':IxR X r'):IxR X (fun x y H Q=>r x y H Q \/ r' x y H Q):=by
 intro value slice pins s σ H x y v u Q I rx ry q hs
 rcases q with q | q
 . exact h value slice pins s σ H x y v u Q I rx ry q hs
 . exact h' value slice pins s σ H x y v u Q I rx ry q hs
theorem iY {r:R2} (hr:IxR X r) (ha:PE X a ta) (hb:PE X b tb) (hs:pY b):PE X (.Subscript a b pos) (tOp r ta tb):=by
 intro pins s σ H Q I h
 exact Subscript_ (zM ha hb I h fun v u s2 x y H2 I2 rx ry q=>hr a b pins s2 σ H2 x y v u Q I2 rx ry q (hs _ _))
def ua (K:PySem.W.Frag):R2:=fun x y H Q=>∃ p xs i v,x=.ref p/\y=.int i/\SqL K H p xs/\atI xs i=some v/\Q v H
def Ak (K:PySem.W.Frag):R2:=fun x y H Q=>∃ p xs i v,x=.ref p/\y=.int i/\SqT K H p xs/\atI xs i=some v/\Q v H
theorem ix_list:IxR X (ua X.K):=by
 intro value slice pins s σ H x y v u Q I rx ry h hs
 obtain ⟨p,xs,i,z,rfl,rfl,hq,he,q⟩:=h
 cases rx
 obtain ⟨t,rfl⟩:=ry
 obtain ⟨its,r,pl,hz⟩:=I.list hq
 obtain ⟨j,h1,h2,h3,h4,h5⟩:=tW he
 obtain ⟨w,ew,rw'⟩:=r.get h2
 have hl:=r.length
 have hn:=pv
 have fin:EP X pins σ Q w s:=⟨z,H,I,rw',q⟩
 by_cases h0:0<=i
 . have hj:i.toNat=j:=by
    rw [seqIndex_of h0 h5] at h1
    exact Option.some.inj h1
   exact item_listR pl.isList h0 (by omega) (by rw [hj];simpa using ew) fin hs
 . have hj:(i+(its.toArray.size:Int)).toNat=j:=by
    rw [seqIndex_neg (by omega) h4] at h1
    rw [List.size_toArray,<- hl]
    exact Option.some.inj h1
   exact subscriptTail_builtinR (x:=w) pl.isList.typeIs slot_list_getitem.lookup
    (wpAny_getItem_list_neg (Q:=fun r s'=>r=w/\EP X pins σ Q r s') pl.isList (by omega) (by rw [List.size_toArray] <;> omega) (by omega) (by rw [hj];simpa using ew) ⟨rfl,fin⟩) hs
theorem zu:IxR X (Ak X.K):=by
 intro value slice pins s σ H x y v u Q I rx ry h hs
 obtain ⟨p,xs,i,z,rfl,rfl,hq,he,q⟩:=h
 cases rx
 obtain ⟨t,rfl⟩:=ry
 obtain ⟨its,r,pl,hz⟩:=I.tuple hq
 obtain ⟨j,h1,h2,h3,h4,h5⟩:=tW he
 obtain ⟨w,ew,rw'⟩:=r.get h2
 have hl:=r.length
 have hn:=pv
 have fin:EP X pins σ Q w s:=⟨z,H,I,rw',q⟩
 exact subscriptTail_builtinR (x:=w) pl.typeIs slot_tuple_getitem.lookup
  (getItem_tuple (j:=j) (Q:=fun r s'=>r=w/\EP X pins σ Q r s') pl (by omega) (by omega) (by rw [List.size_toArray,<- hl];exact h1) (by simpa using ew) ⟨rfl,fin⟩) hs
theorem rN (its:List Value) (n j:Nat) (u:Value):Obj.mapSeq (·.setIfInBounds j u) { cls:=.type "list",data:=.seq its.toArray n }={ cls:=.type "list",data:=.seq (its.set j u).toArray n }:=by
 simp [Obj.mapSeq]
theorem Inv.lst {pins:List (Addr×Obj)} {σ:St} {H:Hp} {s:Shared} {p:Addr} {xs:List V} (I:Inv X pins σ H s) (h:H p=some (.lst xs)) :
 ∃ (its:List Value) (n:Nat),Vals xs its/\s.heap.get? p=some { cls:=.type "list",data:=.seq its.toArray n }/\xs.length<=sizeLine:=by
 obtain ⟨z,its,n,r,e⟩:=I.hok p _ h
 exact ⟨its,n,r,e,z⟩
theorem Inv.lstUpd {pins:List (Addr×Obj)} {σ:St} {H:Hp} {s:Shared} {p:Addr} {xs ys:List V} {its its':List Value} {n n':Nat} {f:Obj->Obj} (I:Inv X pins σ H s) (h:H p=some (.lst xs))
 (ho:s.heap.get? p=some { cls:=.type "list",data:=.seq its.toArray n }) (hf:f { cls:=.type "list",data:=.seq its.toArray n }={ cls:=.type "list",data:=.seq its'.toArray n' }) (r:Vals ys its') (hz:ys.length<=sizeLine) (t:Nat) :
 Inv X pins σ (upd H p (.lst ys)) { s with heap:=s.heap.update p f,toks:=t }:=by
 have e:(s.heap.update p f).get? p=some { cls:=.type "list",data:=.seq its'.toArray n' }:=by
  rw [Heap.get?_update_self f ho (by rw [hf] <;> rfl),hf]
 refine I.write (x:=p) (e:=p) (by rw [h];trivial) (.inl rfl) (fun b u hb q=>(Heap.get?_update_other _ _ (Ne.symm hb)).trans q) ⟨_,e⟩ ?_
 exact ⟨hz,its',n',r,e⟩
def sN:V->V->V->Hp->(Hp->Prop)->Prop:=fun o i v H Q=>∃ p xs k j,o=.ref p/\i=.int k/\H p=some (.lst xs)/\ixN xs.length k=some j/\Q (upd H p (.lst (xs.set j v)))
theorem gy:A9 X sN:=by
 intro pins s σ H o i v ov iv u Q I ro ri rv h
 obtain ⟨p,xs,k,j,rfl,rfl,hp,hj,q⟩:=h
 cases ro
 obtain ⟨t,rfl⟩:=ri
 obtain ⟨its,n,r,ho,hz⟩:=I.lst hp
 obtain ⟨h1,h2,h3,h4⟩:=mh hj
 have hl:=r.length
 have hn:=pv
 have I':Inv X pins σ (upd H p (.lst (xs.set j v))) { s with heap:=s.heap.update p (Obj.mapSeq (·.setIfInBounds j u)) } :=
  I.lstUpd hp ho (rN its n j u) (r.set rv j) (by rw [List.length_set];exact hz) s.toks
 by_cases h0:0<=k
 . have hk:k.toNat=j:=by
    rw [seqIndex_of h0 h4] at h1
    exact Option.some.inj h1
   exact PySem.W.ki_setAt ho h0 (by omega) (by rw [List.size_toArray,<- hl];exact h4) (by rw [hk];exact ⟨_,I',q⟩)
 . have hk:(k+(its.toArray.size:Int)).toNat=j:=by
    rw [seqIndex_neg (by omega) h3] at h1
    rw [List.size_toArray,<- hl]
    exact Option.some.inj h1
   exact PySem.W.ki_setBack ho (by omega) (by rw [List.size_toArray,<- hl];exact h3) (by omega) (by rw [hk];exact ⟨_,I',q⟩)
theorem oV (lo hi:Option Int) (n:Nat):(sliceBounds lo hi none n).1=((HT.sIx n 0 lo:Nat):Int)/\(sliceBounds lo hi none n).2.1=((HT.sIx n n hi:Nat):Int)/\(sliceBounds lo hi none n).2.2=1:=by
 refine ⟨?_,?_,rfl⟩
 . cases lo with
   | none=>simp [sliceBounds,HT.sIx]
   | some i =>
    simp only [sliceBounds,HT.sIx,Option.getD_none,show (1:Int) > 0 by decide,if_true]
    by_cases h:i < 0
    . simp only [h,if_true] <;> omega
    . simp only [h,if_false] <;> omega
 . cases hi with
   | none=>simp [sliceBounds,HT.sIx]
   | some i =>
    simp only [sliceBounds,HT.sIx,Option.getD_none,show (1:Int) > 0 by decide,if_true]
    by_cases h:i < 0
    . simp only [h,if_true] <;> omega
    . simp only [h,if_false] <;> omega
theorem nR (its:List Value) (lo hi:Option Int):slicePick its.toArray lo hi none=((its.drop (HT.sIx its.length 0 lo)).take (HT.sIx its.length its.length hi - HT.sIx its.length 0 lo)).toArray:=by
 obtain ⟨h1,h2,h3⟩:=oV lo hi its.toArray.size
 unfold slicePick
 rw [h1,h2,h3]
 simp only [sliceRange_one,pick_run,List.size_toArray] <;> rfl
def Ag (K:PySem.W.Frag):V->Option Int->Option Int->Hp->VK->Prop:=fun x lo hi H Q=>∃ a xs,x=.ref a/\SqL K H a xs/\∀ p,H p=none->Q (.ref p) (upd H p (.lst (ut xs lo hi)))
theorem wG:SlR X (Ag X.K):=by
 intro pins s σ H x v vl vu lo hi sl Q I rx hs pl pu h
 obtain ⟨a,xs,rfl,hx,q⟩:=h
 cases rx
 obtain ⟨its,r,ht,hz⟩:=I.list hx
 have hlen:=r.length
 refine ⟨"list",_,slot_list_getitem.lookup,ht.isList.typeIs,?_⟩
 refine wpAny_getItem_list_slice ht.isList hs pl pu .none (by simp) ?_ (by rw [List.size_toArray] <;> omega)
 rw [nR,<- hlen]
 refine ⟨.ref s.heap.objs.size,_,I.laid (t':=s.toks) (o:=.lst (ut xs lo hi)) (fun b ob q=>Heap.get?_push_of_some _ q) (Nat.le_refl _) ?_,rfl,q _ (I.hok.fresh (Nat.le_refl _))⟩
 exact ⟨Nat.le_trans (qS xs lo hi) hz,_,0,(r.drop (HT.sIx xs.length 0 lo)).take (HT.sIx xs.length xs.length hi - HT.sIx xs.length 0 lo),Heap.get?_push_size _ rfl⟩
def jB:V->Bool
 | .non=>true
 | .bl _=>true
 | .int _=>true
 | .str _=>true
 | _=>false
def eqV:V->V->Bool
 | .non,.non=>true
 | .bl a,.bl b=>a == b
 | .bl a,.int b=>(if a then 1 else 0) == b
 | .int a,.bl b=>a == (if b then 1 else 0)
 | .int a,.int b=>a == b
 | .str a,.str b=>a == b
 | _,_=>false
theorem rW {A:Around} {s:Shared} {y x:V} {u v:Value} (ry:RelV y u) (rx:RelV x v) (fy:jB y=true) (fx:jB x=true):SeqAt.EqAt A s u v (eqV y x):=by
 cases y with
 | non =>
  cases ry
  cases x with
  | non=>cases rx;exact SeqAt.EqAt.same _
  | bl b=>cases rx;exact SeqAt.EqAt.none_bool b
  | int b=>obtain ⟨t,rfl⟩:=rx;exact SeqAt.EqAt.none_int b t
  | str b=>obtain ⟨t,rfl⟩:=rx;exact SeqAt.EqAt.none_str b t
  | _=>exact absurd (show false=true from fx) Bool.false_ne_true
 | bl a =>
  cases ry
  cases x with
  | non=>cases rx;exact SeqAt.EqAt.bool_none a
  | bl b=>cases rx;exact SeqAt.EqAt.bool_bool a b
  | int b=>obtain ⟨t,rfl⟩:=rx;exact SeqAt.EqAt.bool_int a b t
  | str b=>obtain ⟨t,rfl⟩:=rx;exact SeqAt.EqAt.bool_str a b t
  | _=>exact absurd (show false=true from fx) Bool.false_ne_true
 | int a =>
  obtain ⟨t',rfl⟩:=ry
  cases x with
  | non=>cases rx;exact SeqAt.EqAt.int_none a t'
  | bl b=>cases rx;exact SeqAt.EqAt.int_bool a t' b
  | int b=>obtain ⟨t,rfl⟩:=rx;exact SeqAt.EqAt.int_int a t' b t
  | str b=>obtain ⟨t,rfl⟩:=rx;exact SeqAt.EqAt.int_str a t' b t
  | _=>exact absurd (show false=true from fx) Bool.false_ne_true
 | str a =>
  obtain ⟨t',rfl⟩:=ry
  cases x with
  | non=>cases rx;exact SeqAt.EqAt.str_none a t'
  | bl b=>cases rx;exact SeqAt.EqAt.str_bool a t' b
  | int b=>obtain ⟨t,rfl⟩:=rx;exact SeqAt.EqAt.str_int a t' b t
  | str b=>obtain ⟨t,rfl⟩:=rx;exact SeqAt.EqAt.str_str a t' b t
  | _=>exact absurd (show false=true from fx) Bool.false_ne_true
 | _=>exact absurd (show false=true from fy) Bool.false_ne_true
def eqU (x:V) (u:Value):Bool:=match u with
 | .none=>eqV .non x
 | .bool b=>eqV (.bl b) x
 | .int i _=>eqV (.int i) x
 | .str z _=>eqV (.str z) x
 | _=>false
theorem v9 {x y:V} {u:Value} (r:RelV y u) (f:jB y=true):eqU x u=eqV y x:=by
 cases y with
 | non=>cases r;rfl
 | bl b=>cases r;rfl
 | int i=>obtain ⟨t,rfl⟩:=r;rfl
 | str z=>obtain ⟨t,rfl⟩:=r;rfl
 | _=>exact absurd (show false=true from f) Bool.false_ne_true
theorem pW {x:V}:∀ {xs:List V} {us:List Value},Vals xs us->xs.all jB=true->us.any (eqU x)=xs.any fun y=>eqV y x
 | _,_,.nil,_=>rfl
 | y :: xs,u :: us,.cons r t,f=>by
  rw [List.all_cons,Bool.and_eq_true] at f
  rw [List.any_cons,List.any_cons,v9 r f.1,pW t f.2]
theorem nc {A:Around} {s:Shared} {x:V} {v:Value} (rx:RelV x v) (fx:jB x=true):∀ {xs:List V} {us:List Value},Vals xs us->xs.all jB=true->∀ u∈us,SeqAt.EqAt A s u v (eqU x u)
 | _,_,.nil,_=>fun u hu=>by cases hu
 | y :: xs,u :: us,.cons r t,f=>fun u' hu=>by
  rw [List.all_cons,Bool.and_eq_true] at f
  rcases Zo.mp hu with rfl | hu
  . rw [v9 r f.1];exact rW r rx f.1 fx
  . exact nc rx fx t f.2 u' hu
def inV (x:V) (xs:List V):Bool:=xs.any fun y=>eqV y x
def rIn (K:PySem.W.Frag) (neg:Bool):R2:=fun x y H Q=>∃ p xs,y=.ref p/\(SqL K H p xs \/ SqT K H p xs)/\jB x=true/\xs.all jB=true/\Q (.bl (if neg then !inV x xs else inV x xs)) H
theorem uf:OpR X (compareOp .In) (rIn X.K false):=by
 intro pins s σ H x y v u Q I rx ry h
 obtain ⟨p,xs,rfl,hq,fx,fs,q⟩:=h
 cases ry
 rcases hq with hq | hq
 . obtain ⟨its,r,pl,hz⟩:=I.list hq
   refine SeqAt.in_listAt (eqU x) pl.isList (fun w hw=>nc rx fx r fs w (by simpa using hw)) ⟨.bl _,H,I,rfl,?_⟩
   rw [show its.toArray.any (eqU x)=its.any (eqU x) by simp,pW r fs]
   exact q
 . obtain ⟨its,r,pl,hz⟩:=I.tuple hq
   refine SeqAt.in_tupleAt (eqU x) pl (fun w hw=>nc rx fx r fs w (by simpa using hw)) ⟨.bl _,H,I,rfl,?_⟩
   rw [show its.toArray.any (eqU x)=its.any (eqU x) by simp,pW r fs]
   exact q
theorem aC:ij X (.builtin "len") (fun xs H Q=>∃ p ys,xs=[.ref p]/\(SqL X.K H p ys \/ SqT X.K H p ys)/\Q (.int ys.length) H):=by
 intro pins s σ H xs us Q I r h
 obtain ⟨p,ys,rfl,hq,q⟩:=h
 obtain ⟨u,rfl,rx⟩:=jZ r
 cases rx
 have hn:=pv
 rcases hq with hq | hq
 . obtain ⟨its,r',pl,hz⟩:=I.list hq
   have hlen:=r'.length
   exact Calls.call_len_list pl.isList (by simp only [List.size_toArray] <;> omega) ⟨.int ys.length,H,I.tok _,⟨s.toks+1,by rw [List.size_toArray,hlen]⟩,q⟩
 . obtain ⟨its,r',pl,hz⟩:=I.tuple hq
   have hlen:=r'.length
   exact len_tuple pl (by simp only [List.size_toArray] <;> omega) ⟨.int ys.length,H,I.tok _,⟨s.toks+1,by rw [List.size_toArray,hlen]⟩,q⟩
theorem kD:ij X (.type "list") (fun xs H Q=>∃ p ys,xs=[.ref p]/\(SqL X.K H p ys \/ SqT X.K H p ys)/\∀ l,H l=none->Q (.ref l) (upd H l (.lst ys))):=by
 intro pins s σ H xs us Q I r h
 obtain ⟨p,ys,rfl,hq,q⟩:=h
 obtain ⟨u,rfl,rx⟩:=jZ r
 cases rx
 have fin:∀ (its:List Value),Vals ys its->ys.length<=sizeLine->∀ (h':Heap) (c':Nat),(∀ b o',s.heap.get? b=some o'->h'.get? b=some o') ->
  h'.get? s.heap.objs.size=some { cls:=.type "list",dict:=none,data:=.seq its.toArray c',slots:=#[] }->EP X pins σ Q (.ref s.heap.objs.size) { s with heap:=h' }:=fun its r' hz h' c' kp e =>
  ⟨.ref s.heap.objs.size,_,I.laid (t':=s.toks) kp (Nat.le_refl _) (show ObjOk X.prog X.w _ h' _ (.lst ys) from ⟨hz,its,c',r',e⟩),rfl,q _ (I.hok.fresh (Nat.le_refl _))⟩
 rcases hq with hq | hq
 . obtain ⟨its,r',pl,hz⟩:=I.list hq
   have hlen:=r'.length
   obtain ⟨o,ho,hc,n,hd⟩:=pl.isList
   exact call_list_seq p (.inl rfl) ho hc hd (fun h' c' kp e=>fin its r' hz h' c' kp e) (by simp only [List.size_toArray] <;> omega)
 . obtain ⟨its,r',pl,hz⟩:=I.tuple hq
   have hlen:=r'.length
   obtain ⟨o,ho,hc,n,hd⟩:=pl
   exact call_list_seq p (.inr rfl) ho hc hd (fun h' c' kp e=>fin its r' hz h' c' kp e) (by simp only [List.size_toArray] <;> omega)
def tyV (K:PySem.W.Frag) (T:String) (x:V) (H:Hp):Prop:=match x with
 | .str _=>T = "str"
 | .int _=>T = "int"
 | .ref p=>(T = "list"/\∃ xs,SqL K H p xs) \/ (T = "tuple"/\∃ o,K.lookup p=some o/\o.cls=.type "tuple"/\o.dict=none) \/
  (T = "dict"/\((∃ kvs,H p=some (.dK kvs)) \/ ∃ kvs,H p=some (.dT kvs))) \/ (T = "set"/\∃ S n,H p=some (.set S n))
 | _=>False
theorem uJ {pins:List (Addr×Obj)} {σ:St} {H:Hp} {s:Shared} {T:String} {x:V} {v:Value} (I:Inv X pins σ H s) (r:RelV x v) (ty:tyV X.K T x H) :
 s.TypeIs v T/\∀ a,v=.ref a->∃ ob,s.heap.get? a=some ob/\ob.dict=none:=by
 cases x with
 | str z =>
  obtain ⟨t,rfl⟩:=r
  cases (show T = "str" from ty)
  exact ⟨typeIs_str s z t,fun _ e=>nomatch e⟩
 | int i =>
  obtain ⟨t,rfl⟩:=r
  cases (show T = "int" from ty)
  exact ⟨typeIs_int s i t,fun _ e=>nomatch e⟩
 | ref p =>
  cases r
  rcases ty with ⟨rfl,xs,hq⟩ | ⟨rfl,o,hk,hc,hd⟩ | ⟨rfl,hk⟩ | ⟨rfl,S,n,hk⟩
  . obtain ⟨its,_,pl,_⟩:=I.list hq
    refine ⟨pl.isList.typeIs,fun a e=>?_⟩
    cases e
    obtain ⟨o,n,e,c,hd,_⟩:=pl
    exact ⟨o,e,hd⟩
  . refine ⟨⟨o,I.kIn p o hk,hc⟩,fun a e=>?_⟩
    cases e
    exact ⟨o,I.kIn _ o hk,hd⟩
  . have z:∃ o,s.heap.get? p=some o/\o.ExactDict:=by
     rcases hk with ⟨kvs,hk⟩ | ⟨kvs,hk⟩
     . obtain ⟨_,_,_,_,o,_,_,e,ex,_⟩:=I.hok p _ hk
       exact ⟨o,e,ex⟩
     . obtain ⟨_,_,_,_,o,_,_,e,ex,_⟩:=I.hok p _ hk
       exact ⟨o,e,ex⟩
    obtain ⟨o,e,ex⟩:=z
    refine ⟨⟨o,e,ex.1⟩,fun a e2=>?_⟩
    cases e2
    exact ⟨o,e,ex.2.1⟩
  . obtain ⟨o,_,_,_,e,ex,_⟩:=I.hok p _ hk
    refine ⟨⟨o,e,ex.1⟩,fun a e2=>?_⟩
    cases e2
    exact ⟨o,e,ex.2.1⟩
 | _=>exact False.elim ty
def Ab (K:PySem.W.Frag) (T:String) (r:V->List V->Hp->VK->Prop) (to:TE):TE:=fun σ H Q=>to σ H fun x H1=>tyV K T x H1/\r x [] H1 Q
def tBM (K:PySem.W.Frag) (T:String) (r:V->List V->Hp->VK->Prop) (to:TE) (t:TA):TE:=fun σ H Q=>to σ H fun x H1=>tyV K T x H1/\t σ H1 fun xs H2=>r x xs H2 Q
variable {o e:Expr} {es:List Expr} {to:TE} {t:TA} {name:Str} {apos cpos:Pos} {T id:String} {r:V->List V->Hp->VK->Prop}
theorem yU (pa:PlainAttrs T) (slot:Slot T name id) (hty:typeOf (.builtin id)=pure (.type "method_descriptor")) (hm:MtR X id r) (ho:PE X o to)
 (hbase:attributeBase o name X.env (eval o X.env)=eval o X.env:=by rfl) (hline:(apos.endLine == cpos.line)=true:=by rfl):PE X (.Call (.Attribute o name apos) [] [] cpos) (Ab X.K T r to):=by
 intro pins s σ H Q I h
 refine wpAny_Call_method0_late hbase hline (thn (ho pins s σ H _ I h) fun v s1 ⟨x,H1,I1,r1,ty,q1⟩=>?_)
 obtain ⟨h1,h2⟩:=uJ I1 r1 ty
 exact ⟨T,id,pa,slot,hty,h1,h2,Calls.callWith_builtin rfl (PySem.evalArgs_none (hm pins s1 σ H1 x [] v [] Q I1 r1 .nil q1))⟩
theorem jz (pa:PlainAttrs T) (slot:Slot T name id) (hty:typeOf (.builtin id)=pure (.type "method_descriptor")) (hm:MtR X id r) (ho:PE X o to) (ha:PA X (e :: es) t)
 (hbase:attributeBase o name X.env (eval o X.env)=eval o X.env:=by rfl)
 (hfew:((backTo cpos (starEach (e :: es) X.env)).all (fun x=>!x.1) && (backToKw cpos (keywordEach [] X.env)).all (fun x=>x.1.isSome)
  && decide ((e :: es).length+([]:List Keyword).length+(if ([]:List Keyword).isEmpty then 0 else 1) < 30))=true:=by rfl)
 (hline:(apos.endLine == cpos.line)=true:=by rfl) (hs:starEach (e :: es) X.env=(false,eval e X.env) :: starEach es X.env:=by rfl) (hplain:(backTo cpos (starEach es X.env)).any (·.1)=false:=by rfl) :
 PE X (.Call (.Attribute o name apos) (e :: es) [] cpos) (tBM X.K T r to t):=by
 intro pins s σ H Q I h
 refine wpAny_Call_method_late hbase hfew hline rfl (thn (ho pins s σ H _ I h) fun v s1 ⟨x,H1,I1,r1,ty,q1⟩=>?_)
 obtain ⟨h1,h2⟩:=uJ I1 r1 ty
 refine ⟨T,id,pa,slot,hty,h1,h2,?_⟩
 have hA:=ha cpos pins s1 σ H1 _ I1 q1
 rw [hs] at hA ⊢
 refine Calls.callWith_builtin (by show (false || (backTo cpos (starEach es X.env)).any (·.1))=false;rw [hplain] <;> rfl) (Calls.evalArgs_plain ?_)
 exact thn hA fun us s2 ⟨vs,H2,I2,r2,q2⟩=>hm pins s2 σ H2 x vs v us Q I2 r1 r2 q2
end
end L2
namespace L2
open PySem PySem.Spec PyProof.Rows
def MtM (X:Cx) (id:String) (r:V->List V->Hp->VK->Prop):Prop :=
 ∀ (pins:List (Addr×Obj)) (s:Shared) (σ:St) (H:Hp) (x:V) (xs:List V) (v:Value) (us:List Value) (Q:VK),Inv X pins σ H s->RelV x v->Vals xs us->r x xs H Q ->
  wpAny (model X.prog X.w) X.A (call (.builtin id) (v :: us)) (EP X pins σ Q) X.xe s
theorem Vals.one:∀ {x:V} {us:List Value},Vals [x] us->∃ u,us=[u]/\RelV x u
 | _,_,.cons r .nil=>⟨_,rfl,r⟩
theorem Vals.zero:∀ {us:List Value},Vals [] us->us=[]
 | _,.nil=>rfl
theorem Vals.reverse {xs:List V} {us:List Value} (h:Vals xs us):Vals xs.reverse us.reverse:=by
 induction h with
 | nil=>exact .nil
 | cons r t ih=>rw [List.reverse_cons,List.reverse_cons];exact Vals.append ih (.cons r .nil)
section
variable {X:Cx} {pins:List (Addr×Obj)} {σ:St} {H:Hp} {s:Shared} {l b:Addr} {xs ys zs:List V}
theorem Inv.lset {its its':List Value} {n:Nat} {f:Array Value->Array Value} {t':Nat} (I:Inv X pins σ H s) (hH:H l=some (.lst xs))
 (e:s.heap.get? l=some { cls:=.type "list",data:=.seq its.toArray n }) (hf:f its.toArray=its'.toArray) (hv:Vals ys its') (hz:ys.length<=sizeLine) :
 Inv X pins σ (upd H l (.lst ys)) { s with heap:=s.heap.update l (Obj.mapSeq f),toks:=t' }:=by
 have q:=PySem.IsL.update e f
 rw [hf] at q
 refine I.write (x:=l) (e:=l) (by rw [hH];exact trivial) (.inl rfl) (fun b' u hb hu=>(Heap.get?_update_other s.heap (Obj.mapSeq f) (Ne.symm hb)).trans hu) ⟨_,q⟩ ?_
 exact ⟨hz,its',_,hv,q⟩
theorem Inv.lnew {its:List Value} {t':Nat} (I:Inv X pins σ H s) (hv:Vals ys its) (hz:ys.length<=sizeLine) :
 Inv X pins σ (upd H s.heap.objs.size (.lst ys)) { s with heap:=s.heap.push { cls:=.type "list",data:=.seq its.toArray },toks:=t' } :=
 I.laid (fun _ _ q=>Heap.get?_push_of_some _ q) (Nat.le_refl _) ⟨hz,its,0,hv,Heap.get?_push_size _ rfl⟩
theorem Inv.fresh (I:Inv X pins σ H s):H s.heap.objs.size=none:=I.hok.fresh (Nat.le_refl _)
theorem Inv.lstM (I:Inv X pins σ H s) (hH:H l=some (.lst xs)):xs.length<=sizeLine/\∃ (its:List Value) (n:Nat),Vals xs its/\xs.length=its.length/\s.heap.get? l=some { cls:=.type "list",data:=.seq its.toArray n }:=by
 obtain ⟨z,its,n,r,e⟩:=I.hok l _ hH
 exact ⟨z,its,n,r,r.length,e⟩
end
section
variable {X:Cx}
def l6:V->List V->Hp->VK->Prop:=fun x vs H Q=>∃ l xs y,x=.ref l/\vs=[y]/\H l=some (.lst xs)/\xs.length < sizeLine/\Q .non (upd H l (.lst (xs++[y])))
theorem c5:MtM X "list.append" l6:=by
 intro pins s σ H x vs v us Q I rx rv h
 obtain ⟨l,xs,y,rfl,rfl,hH,hz,q⟩:=h
 cases rx
 obtain ⟨u,rfl,ru⟩:=rv.one
 obtain ⟨z,its,n,r,hl,e⟩:=I.lstM hH
 refine call_meets F.slot_list_append ⟨_,e,rfl⟩ F.entry_list_append (F.args_list_append_2 _ _) (PySem.list_append l its.toArray n u (by rw [List.size_toArray];omega)) ⟨e,?_⟩
 refine ⟨.non,_,I.lset (its':=its++[u]) hH e (by simp) (r.append (.cons ru .nil)) ?_,rfl,q⟩
 rw [Zh,Zj]
 omega
def qr:V->List V->Hp->VK->Prop:=fun x vs H Q=>∃ l xs,x=.ref l/\vs=[]/\H l=some (.lst xs)/\Q .non (upd H l (.lst xs.reverse))
theorem rM:MtM X "list.reverse" qr:=by
 intro pins s σ H x vs v us Q I rx rv h
 obtain ⟨l,xs,rfl,rfl,hH,q⟩:=h
 cases rx
 have hus:=rv.zero
 subst hus
 obtain ⟨z,its,n,r,hl,e⟩:=I.lstM hH
 refine call_meets F.slot_list_reverse ⟨_,e,rfl⟩ F.entry_list_reverse (F.args_list_reverse_1 _) (AutoSeq1.list_reverse_list_0 l its.toArray n (by rw [List.size_toArray];omega)) ⟨e,?_⟩
 refine ⟨.non,_,I.lset (its':=its.reverse) hH e (by simp) r.reverse ?_,rfl,q⟩
 rw [List.length_reverse]
 omega
def Ap:R2:=fun x y H Q=>∃ l b xs zs,x=.ref l/\y=.ref b/\H l=some (.lst xs)/\H b=some (.lst zs)/\xs.length+zs.length<=sizeLine/\∀ p,H p=none->Q (.ref p) (upd H p (.lst (xs++zs)))
theorem ze:OpR X (binaryOp .Add) Ap:=by
 intro pins s σ H x y v u Q I rx ry h
 obtain ⟨l,b,xs,zs,rfl,rfl,hH,hB,hz,q⟩:=h
 cases rx
 cases ry
 obtain ⟨z,its,n,r,hl,e⟩:=I.lstM hH
 obtain ⟨z2,its2,n2,r2,hl2,e2⟩:=I.lstM hB
 refine PySem.P.add_list e e2 ?_ (by rw [List.size_toArray,List.size_toArray];omega)
 have ea:its.toArray++its2.toArray=(its++its2).toArray:=by simp
 rw [ea]
 exact ⟨.ref _,_,I.lnew (t':=s.toks) (r.append r2) (by rw [Zh];omega),rfl,q _ I.fresh⟩
end
section
variable {prog:Program} {w:World} {A:Around} {E:Value->Shared->Prop} {s:Shared}
end
section
variable {X:Cx}
end
end L2
namespace Att
open PySem PySem.W PySem.Calls PyProof.Rows
theorem lR {P:Params} {h:Heap}:∀ (ns:List Int) (vs:List Value),WellAll P h vs (ns.map WData.int)->IntsAre vs ns:=by
 intro ns
 induction ns with
 | nil =>
  intro vs w
  rw [List.map_nil] at w
  cases w
  exact .nil
 | cons n ns ih =>
  intro vs w
  rw [List.map_cons] at w
  cases w with
  | cons a b =>
   cases a
   exact .cons _ _ (ih _ b)
theorem t8 {l:OpenLaw} {n:Nat} (hn:l.most=some n) {P:Params} {h:Heap} {args:List WData} {cX:List Value}
 (hpre:l.row.toRowW.claim.pre args=true) (hwl:WellAll P h cX args) :
 ∃ a vs ns,cX=[Value.ref a]/\args=[WData.list (ns.map WData.int)]/\h.get? a=some { cls:=.type "list",data:=.seq vs.toArray }/\IntsAre vs ns/\ns.length<=n:=by
 have hsh:WShape.hasAll [] args [.list .int]=true:=(pre_splitW hpre).1
 have hc:l.pre.holds [] { args:=args }=true:=(pre_splitW hpre).2
 obtain ⟨d,r,rfl,h1,h2⟩:=hasAllW_cons hsh
 obtain rfl:=hasAllW_nil h2
 obtain ⟨xs,rfl,h3⟩:=hasW_list h1
 obtain ⟨ns,rfl⟩:=items_int h3
 have hlen:ns.length<=n:=by
  unfold OpenLaw.pre at hc
  have h4:(WTm.not (.lt (.lit (.int (n:Int))) (.len (.arg 0)))).holds [] { args:=[.list (ns.map .int)] }=true:=by
   have h4:=(holds_andW hc).1
   rw [hn] at h4
   exact h4
  have h5:=condW_of h4 (w_not (w_lt w_lit (w_len_list (w_arg rfl))))
  rw [Zi] at h5
  refine Nat.le_of_not_lt fun q=>?_
  have q':(n:Int) < ((ns.length:Nat):Int):=by omega
  first
   | (rw [decide_eq_true q'] at h5;exact absurd h5 (by decide))
   | (simp at h5;omega)
 cases hwl with
 | cons w1 w2 =>
  cases w2
  cases w1 with
  | list ho hall=>exact ⟨_,_,ns,rfl,rfl,ho,lR ns _ hall,hlen⟩
theorem uc (l:OpenLaw) (args:List WData):l.row.toRowW.claim.post args (.bool true) args=true :=
 postW_of (r:=l.row.toRowW) (X:=(true == true))
  (show WShape.has [] (.bool true) .bool=true by first | rfl | decide | simp [WShape.has,WShape.arms,WShape.armsAll])
  (show (WTm.eq .res (.lit (.bool true))).value [] { args:=args,res:=some (.bool true),after:=args }=some (.bool (true == true)) from w_eq_bool (w_res rfl) w_lit) rfl
theorem attach_call {l:OpenLaw} {n:Nat} {q:Program} {loose:List Str} {XP:(Str->Option Value)->Heap->Prop} {YP:World->Heap->Prop} {d:DefRec}
 (hn:l.most=some n) (hdf:d.params.defaults=[])
 (call:∀ (w:World) (s₀ s₁:Shared) (mg mb:Str->Option Value) (fa:Addr) (o:Obj) (pm cd doc:Value) (a:Addr) (vs:List Value) (ns:List Int),
  Ground q loose [] XP w s₀ mg mb s₁.heap->YP w s₁.heap ->
  s₁.heap.get? fa=some o->o.data=.func (docDef d.name d.params d.body d.scope pm cd doc)->s₁.heap.CodeRec cd d.name->mg d.name=some (.ref fa) ->
  s₁.heap.get? a=some { cls:=.type "list",data:=.seq vs.toArray }->IntsAre vs ns->ns.length<=n->s₁.gens = #[] ->
  codeAny (model l.prog w) callerA (.call (.ref fa) ⟨[.ref a],[]⟩) (fun r s'=>r=.ok (.ret (.bool true))/\OldK s₁.heap s'.heap/\s'.os=s₁.os/\AllBare s'.gens) s₁) :
 WalkO q loose XP YP l.row.toRowW d [] (fun f vs=>PySem.call f vs):=by
 intro w s₀ s₁ mg mb G Y fa o pm cd doc dV kV ho hd hcd hD hmg hg args cX as hpre hlay hrd hwl hlo
 obtain rfl:dV=.none:=Dflts.none hD hdf
 obtain rfl:kV=.none:=Dflts.noKw hD
 obtain ⟨a,vs,ns,rfl,rfl,hobj,hints,hlen⟩:=t8 hn hpre hwl
 refine enter_call (codeAny_mono (call w s₀ s₁ mg mb fa o pm cd doc a vs ns G Y ho (fd_plain hd) hcd hmg hobj hints hlen hg) fun r s' hq=>?_)
 obtain ⟨rfl,h2,h3,h4⟩:=hq
 exact ⟨.inl ⟨.bool true,.bool true,[],rfl,fun _=>rfl,.bool true,uc l _,fun _=>⟨List.Pairwise.nil,fun _ hm=>(nomatch hm)⟩⟩,h2,h3,h4⟩
section
variable {prog:Program} {w:World} {A:Around} {E:Value->Shared->Prop} {s:Shared} {K:Frag}
def Bv (h:Heap) (L d:Addr):List (Addr×Obj):=(List.range h.objs.size).filterMap fun a=>if a=L \/ a=d then none else (h.get? a).map fun o=>(a,o)
end
end Att
namespace L2
open PySem PySem.Spec PyProof.Rows
theorem hR:∀ {vs:List Value} {ns:List Int},IntsAre vs ns->Vals (ns.map V.int) vs
 | _,_,.nil=>.nil
 | _,_,.cons n t h=>.cons ⟨t,rfl⟩ (hR h)
def zR (H:Hp):Prop:=∀ b,H b=none \/ ∃ o xs,H b=some (.frz o (.lst xs))
theorem vT {P:Program} {w:World} {K:PySem.W.Frag} {mg mb:Str->Option Value} {CX:CXT} {k:Nat} {fa a:Addr} {fd:FuncData} {x:Str} {sp:Sp} {s₁:Shared} {vs:List Value} {ns:List Int}
 (KX:K.In s₁.heap) (hns:s₁.heap.Ns mainGlobals mg) (hb:s₁.heap.Ns builtinsNs mb) (hbb:∀ x:Str,x ≠ "__name__"->mb x=bootBuiltins x) (hlim:s₁.heap.NoLimit) (hg:s₁.gens = #[])
 (ha:s₁.heap.get? a=some { cls:=.type "list",data:=.seq vs.toArray }) (hi:IntsAre vs ns) (hl:ns.length<=sizeLine) (hr:Room k callerA)
 (F:∀ base:Heap,K.In base->base.Ns mainGlobals mg->FnOk P w K mg base CX k fa fd [x] sp) (hbind:∀ (s:Shared) (u:Value),BindsTo s fd ⟨[u],[]⟩ [(x,u)])
 (hsp:∀ H:Hp,zR H->SqL K H a (ns.map V.int)->sp [.ref a] H (fun v _=>v=.bl true) fun _ _ _=>False)
 (hCX:∀ H e s',CX [] H s₁ (fun _ _ _=>False) e s'->False) :
 codeAny (model P w) callerA (.call (.ref fa) ⟨[.ref a],[]⟩) (fun r s'=>r=.ok (.ret (.bool true))/\OldK s₁.heap s'.heap/\s'.os=s₁.os/\AllBare s'.gens) s₁:=by
 have rv:=hR hi
 have lenV:=hi.length
 have core:∀ H:Hp,zR H->SqL K H a (ns.map V.int)->HOk P w H s₁.heap->(∀ b,H b ≠ none->b=a)->(H a ≠ none->K.lookup a=none) ->
  codeAny (model P w) callerA (.call (.ref fa) ⟨[.ref a],[]⟩) (fun r s'=>r=.ok (.ret (.bool true))/\OldK s₁.heap s'.heap/\s'.os=s₁.os/\AllBare s'.gens) s₁:=by
  intro H hO hS hok hA hK
  have base_of:∀ {b:Addr} {o:Obj},s₁.heap.get? b=some o->H b=none->(pD s₁.heap H).get? b=some o:=fun e n=>vV e n
  have noA:∀ {b:Addr} {o:Obj} {es:Array DictEntry} {ep:Nat},s₁.heap.get? b=some o->o.data=.dict es ep->H b=none:=fun {b o es ep} e d=>by
   cases q:H b with
   | none=>rfl
   | some u =>
    have e':b=a:=hA b (by rw [q];simp)
    subst e'
    rw [ha] at e;cases e
    have d':Data.seq vs.toArray _=Data.dict es ep:=d
    cases d'
  have nsK:∀ {b:Addr} {m:Str->Option Value},s₁.heap.Ns b m->(pD s₁.heap H).Ns b m:=fun {b m} ⟨o,es,ep,e,d,r⟩=>⟨o,es,ep,base_of e (noA e d),d,r⟩
  have hKb:K.In (pD s₁.heap H):=fun b o e=>base_of (KX b o e) (by
   cases q:H b with
   | none=>rfl
   | some u =>
    have e':b=a:=hA b (by rw [q];simp)
    subst e'
    rw [hK (by rw [q];simp)] at e;cases e)
  have hM:Mod K mg (pD s₁.heap H):=⟨hKb,nsK hns,⟨mb,nsK hb,hbb⟩,let ⟨mc,h1,h2⟩:=hlim;⟨mc,nsK h1,h2⟩⟩
  have e0:xP P w K mg (pD s₁.heap H) callerA [] s₁ H:=⟨rfl,hM,fun b o e=>xl e,Nat.le_of_eq (uo _ _),trivial,fun b hb=>absurd (show b∈([]:List Addr) from hb) (by simp),hok,.of_eq hg⟩
  refine codeAny_mono ((F _ hKb (nsK hns)).run callerA [] s₁ H ⟨[.ref a],[]⟩ [.ref a] [.ref a] _ _ hr e0 (hbind s₁ (.ref a)) (.cons rfl .nil) (hsp H hO hS)) fun r s' h=>?_
  cases r with
  | error e=>exact (hCX H e s' h).elim
  | ok fl =>
   cases fl with
   | next=>exact False.elim h
   | brk=>exact False.elim h
   | cont=>exact False.elim h
   | ret u =>
    obtain ⟨v,H',os,bare,un,hok',r',q⟩:=h
    have q':v=.bl true:=q
    subst q'
    obtain rfl:u=Value.bool true:=r'
    refine ⟨rfl,OldK.of_keep fun b o e=>?_,os,bare⟩
    cases q:H b with
    | none=>exact un.keep b o e q (by intro z;exact absurd (show b∈([]:List Addr) from z) (by simp)) (by simp)
    | some u =>
     rcases hO b with z | ⟨ob,xs,z⟩
     . rw [q] at z;cases z
     . have z2:=un.frzs b ob _ z
       obtain ⟨e1,_⟩:=hok b _ z
       obtain ⟨e2,_⟩:=hok' b _ z2
       rw [e] at e1;cases e1
       exact e2
 cases hk:K.lookup a with
 | some o =>
  have e:=KX a o hk
  rw [ha] at e
  cases e
  refine core (fun _=>none) (fun _=>.inl rfl) (.inr ⟨_,vs.toArray,_,hk,rfl,rfl,rfl,by rw [List.size_toArray,lenV];exact hl,by simpa using rv⟩) (fun b u z=>by have z':(none:Option HO)=some u:=z;cases z') (fun b z=>absurd rfl z) fun z=>absurd rfl z
 | none =>
  refine core (fun b=>if b=a then some (.frz { cls:=.type "list",data:=.seq vs.toArray } (.lst (ns.map V.int))) else none) (fun b=>?_) (.inl (.inr ⟨{ cls:=.type "list",data:=.seq vs.toArray },if_pos rfl⟩)) (fun b u z=>?_) (fun b z=>?_) fun _=>hk
  . by_cases hb:b=a
    . exact .inr ⟨_,_,if_pos hb⟩
    . exact .inl (if_neg hb)
  . by_cases hb:b=a
    . have z':=(if_pos hb).symm.trans z
      cases z'
      subst hb
      exact ⟨ha,by rw [Zi];exact hl,vs,_,rv,ha⟩
    . have z':=(if_neg hb).symm.trans z
      cases z'
  . by_cases hb:b=a
    . exact hb
    . exact absurd (if_neg hb) z
end L2
namespace L2
open PySem PySem.Spec PyProof.Rows
end L2
namespace L2
open PySem PySem.Spec PyProof.Rows
abbrev CX0:CXT:=fun _ _ _ _ _ _=>False
abbrev E0:XK:=fun _ _ _=>False
theorem sW {X:Cx}:se CX0 X E0:=fun _ _ _ _ _ _ _ h=>h.elim
structure Fun (K:PySem.W.Frag) (x qual:Str) (st:Stmt) (f:Addr) (fd:FuncData):Prop where
 ex:∃ (oc:Value) (od:Option Addr) (kV doc pm:Value) (an:Option Addr) (cdv ct:Value) (osl:Array (Option Value)),
  fd=PySem.W.fnOf x qual (cV st) (bK st) (am st) .none kV doc pm an cdv ct/\K.lookup f=some ⟨oc,od,.func fd,osl⟩/\PySem.W.codeIn K cdv qual=true
 kp:PySem.W.keepIn K (.ref f)=true
section
variable {P:Program} {w:World} {K:PySem.W.Frag} {mg:Str->Option Value} {base:Heap}
theorem Fun.ok {x qual:Str} {st:Stmt} {f:Addr} {fd:FuncData} {N ps:List Str} {k:Nat} {sp:Sp} (F:Fun K x qual st f fd) (S:aG N ps (am st)) (len:∀ vs H Q E,sp vs H Q E->vs.length=ps.length)
 (hbody:∀ (cdv:Value) (A:Around) (outer:List Env) (s:Shared) (H:Hp) (vs:List V) (Q:VK) (E:XK),Room k (A.deeper (envOfC qual (am st) s.heap.objs.size f cdv))->sp vs H Q E ->
  ∃ t,PSs (lV CX0 P w K mg base N qual (am st) f cdv A outer s H E).nox (bK st) t/\t { nx:=fun _ H'=>Q .non H',rt:=Q } (start N vs) H):FnOk P w K mg base CX0 (k+1) f fd ps sp:=by
 obtain ⟨oc,od,kV,doc,pm,an,cdv,ct,osl,rfl,lk,hcd⟩:=F.ex
 refine yh lk hcd S len fun A outer s H vs Q E hr hsp=>?_
 obtain ⟨t,h,q⟩:=hbody cdv A outer s H vs Q E hr hsp
 exact ⟨t,h.nox,q⟩
theorem Fun.binds {x qual:Str} {st:Stmt} {f:Addr} {fd:FuncData} {ps:List Str} (F:Fun K x qual st f fd)
 (h:∀ (kV doc pm:Value) (an:Option Addr) (cdv ct:Value) (us:List Value),us.length=ps.length->bindArgs (PySem.W.fnOf x qual (cV st) (bK st) (am st) .none kV doc pm an cdv ct) ⟨us,[]⟩=pure (ps.zip us)):Binds K fd ps []:=by
 obtain ⟨oc,od,kV,doc,pm,an,cdv,ct,osl,rfl,lk,hcd⟩:=F.ex
 exact .all (h kV doc pm an cdv ct)
theorem vZ {x qual:Str} {st:Stmt} {f:Addr} {oc:Value} {od an:Option Addr} {osl:Array (Option Value)} {kV doc pm cdv ct:Value} (l:K.lookup f=some ⟨oc,od,.func (PySem.W.fnOf x qual (cV st) (bK st) (am st) .none kV doc pm an cdv ct),osl⟩)
 (c:PySem.W.codeIn K cdv qual=true) (k:PySem.W.keepIn K (.ref f)=true):Fun K x qual st f (PySem.W.fnOf x qual (cV st) (bK st) (am st) .none kV doc pm an cdv ct):=⟨⟨oc,od,kV,doc,pm,an,cdv,ct,osl,rfl,l,c⟩,k⟩
end
theorem je {n:Nat} (h:n<=1000):n < sizeLine:=Nat.lt_of_le_of_lt h (by decide)
section
variable {X:Cx}
end
def Same (H H':Hp):Prop:=∀ b o,H b=some o->H' b=some o
theorem Same.refl (H:Hp):Same H H:=fun _ _ h=>h
theorem Same.trans {H H1 H2:Hp} (a:Same H H1) (b:Same H1 H2):Same H H2:=fun c o h=>b c o (a c o h)
theorem Same.seq {K:PySem.W.Frag} {H H':Hp} {a:Addr} {xs:List V} (e:Same H H') (h:SqL K H a xs):SqL K H' a xs:=by
 rcases h with (h | ⟨o,h⟩) | h
 . exact .inl (.inl (e _ _ h))
 . exact .inl (.inr ⟨o,e _ _ h⟩)
 . exact .inr h
end L2
namespace L2
open PySem PySem.Spec PyProof.Rows
end L2
namespace L2
open PySem PySem.Spec PyProof.Rows
section
variable (P:Program) (w:World)
end
section
variable {P:Program} {w:World} {H H':Hp} {h h':Heap} {a:Addr} {o:HO}
end
section
variable {P:Program} {w:World} {H:Hp} {h h':Heap} {x e:Addr} {o':HO}
end
section
variable {fs fs' ex ex':List Addr} {H H1 H2:Hp} {h h1 h2 h':Heap} {a x e:Addr} {o:HO}
end
end L2
namespace L2
open PySem PySem.Spec PyProof.Rows
section
variable {X:Cx} {pins:List (Addr×Obj)} {σ:List (Option V)} {H H':Hp} {s:Shared} {h':Heap}
end
end L2
namespace L2
open PySem PySem.Spec PyProof.Rows
section
variable {X:Cx}
variable {a b:Expr} {ta tb:TE} {pos:Pos}
variable {tA tB':TT} {rest:List Expr}
end
end L2
namespace L2
open PySem PySem.Spec PyProof.Rows
section
variable {X:Cx} {pins:List (Addr×Obj)} {σ:St} {H:Hp} {s:Shared} {a:Addr} {xs ys:List V}
end
section
variable {X:Cx} {pins:List (Addr×Obj)} {σ:St} {H:Hp} {s:Shared} {E:Value->Shared->Prop}
end
section
variable {X:Cx} {st:Stmt} {rest:List Stmt} {t u:TS} {e:Expr} {te:TE} {pos:Pos}
end
section
variable {X:Cx} {pos:Pos}
end
section
variable {X:Cx} {pos:Pos}
end
end L2
namespace L2
open PySem PySem.Spec PyProof.Rows
section
variable {X:Cx} {tg:Expr}
end
end L2
namespace L2
open PySem PySem.Spec PyProof.Rows
section
variable {X:Cx} {a b c:Expr} {ta tb tc:TE} {pos:Pos}
end
section
variable {X:Cx} {a b c:Expr} {ta tb tc:TE} {pos:Pos}
end
end L2
namespace L2
open PySem PySem.Spec PyProof.Rows
section
variable {prog:Program} {w:World} {A:Around} {E:Value->Shared->Prop} {s:Shared} {K:PySem.W.Frag} {x dx C f:Addr} {mA:Str->Option Value} {name:Str} {v:Value}
end
section
variable {P:Program} {w:World} {H H':Hp} {h h':Heap} {a C dx:Addr} {fs fs':List (Str×V)}
end
section
variable {X:Cx} {pins:List (Addr×Obj)} {σ:St} {H:Hp} {s:Shared} {a C dx:Addr} {fs:List (Str×V)} {f:Str} {v:V} {A:Around} {E:Value->Shared->Prop}
end
section
variable {X:Cx} {o e value:Expr} {f:Str} {pos pos' tpos:Pos} {ta tv:TE}
end
section
variable {X:Cx} {pins:List (Addr×Obj)} {σ:St} {H:Hp} {s:Shared} {A:Around} {E:Value->Shared->Prop} {Q:Value->Shared->Prop} {c:Value} {b:Bool}
end
end L2
namespace L2
open PySem PySem.Spec PyProof.Rows
section
variable {X:Cx} {e:Expr} {es:List Expr} {te:TE} {t:TA} {pos:Pos}
end
section
variable {X:Cx} {pins:List (Addr×Obj)} {σ:St} {H:Hp} {s s':Shared}
end
section
variable {X:Cx} {CX:CXT} {k:Nat} {f C:Addr} {fd:FuncData} {ps:List Str} {sp:Sp} {dvs:List V} {ds:List Value} {E:XK} {x m:Str} {p pos apos:Pos} {e o:Expr} {es:List Expr} {ta:TE} {t:TA}
end
section
variable {X:Cx} {CX:CXT} {k:Nat} {f C:Addr} {fd:FuncData} {ps ks:List Str} {sp:Sp} {E:XK} {x m:Str} {p pos apos kpos:Pos} {e o:Expr} {es:List Expr} {kws:List Keyword} {te ta:TE} {t tk:TA} {nm:Option Str}
variable {g:List Value->List Value->List Value} {gV:List V->List V->List V}
end
end L2
namespace L2
open PySem PySem.Spec PyProof.Rows
section
variable {X:Cx} {x:Str} {p pos:Pos} {e:Expr} {es:List Expr} {t:TA} {id T:String} {r:List V->Hp->VK->Prop}
end
end L2
namespace L2
open PySem PySem.Spec PyProof.Rows
section
variable {κ:Type} [DecidableEq κ]
def lF (kvs:List (κ×V)) (k:κ):List (κ×V):=kvs.filter fun kv=>decide (kv.1 ≠ k)
end
section
variable {P:Program} {w:World} {H:Hp} {h:Heap} {a:Addr}
end
section
variable {X:Cx} {pins:List (Addr×Obj)} {σ:St} {H:Hp} {s:Shared} {a:Addr} {y v:V} {u r:Value} {o:Option V} {A:Around} {E:Value->Shared->Prop}
end
section
variable {X:Cx} {pins:List (Addr×Obj)} {σ:St} {H:Hp} {s:Shared} {a:Addr} {kvs:List (Key×V)} {k:Key} {u:Value} {A:Around} {E:Value->Shared->Prop}
end
section
variable {X:Cx} {o i e value:Expr} {pos pos' tpos:Pos} {td ty tv:TE}
end
section
variable {X:Cx} {pos:Pos}
end
structure M1 (X:Cx) (o:Expr) (m:Str) (apos:Pos) (e:Expr) (cpos:Pos):Prop where
 base:attributeBase o m X.env (eval o X.env)=eval o X.env
 few:((backTo cpos (starEach [e] X.env)).all (fun x=>!x.1) && (backToKw cpos (keywordEach [] X.env)).all (fun x=>x.1.isSome)
  && decide (([e]:List Expr).length+([]:List Keyword).length+(if ([]:List Keyword).isEmpty then 0 else 1) < 30))=true
 line:(apos.endLine == cpos.line)=true
 trees:backTo cpos (starEach [e] X.env)=[(false,eval e X.env)]
structure M2 (X:Cx) (o:Expr) (m:Str) (apos:Pos) (e f:Expr) (cpos:Pos):Prop where
 base:attributeBase o m X.env (eval o X.env)=eval o X.env
 few:((backTo cpos (starEach [e,f] X.env)).all (fun x=>!x.1) && (backToKw cpos (keywordEach [] X.env)).all (fun x=>x.1.isSome)
  && decide (([e,f]:List Expr).length+([]:List Keyword).length+(if ([]:List Keyword).isEmpty then 0 else 1) < 30))=true
 line:(apos.endLine == cpos.line)=true
 trees:backTo cpos (starEach [e,f] X.env)=[(false,eval e X.env),(false,eval f X.env)]
section
variable {X:Cx} {pins:List (Addr×Obj)} {σ:St} {H:Hp} {s:Shared} {a:Addr} {y d:V} {u r:Value} {o:Option V} {A:Around} {E:Value->Shared->Prop}
end
section
variable {X:Cx} {o e f:Expr} {apos cpos:Pos} {td ty tx:TE}
end
section
variable {X:Cx} {pins:List (Addr×Obj)} {σ:St} {H:Hp} {s:Shared} {a:Addr} {kvs:List (Key×V)} {A:Around} {E:Value->Shared->Prop}
end
section
variable {X:Cx} {pins:List (Addr×Obj)} {σ:St} {H:Hp} {s:Shared} {a:Addr} {y:V} {u:Value} {A:Around} {E:Value->Shared->Prop}
end
end L2
namespace Mth
def gc (t b:Int):Int:=(Int.gcd t b:Int)
theorem gE {t b:Int} (h:0 < b):0 < gc t b:=by
 unfold gc
 have:0 < Int.gcd t b:=Int.gcd_pos_of_ne_zero_right t (by omega)
 omega
theorem tE {t b:Int}:gc b (t % b)=gc t b:=by
 unfold gc
 have h:t % b=t+(-(t / b))*b:=by
  have:=Int.emod_add_mul_ediv t b
  grind
 rw [h,Int.gcd_add_mul_right_right,Int.gcd_comm]
theorem tD {t:Int} (h:0<=t):gc t 0=t:=by
 unfold gc
 rw [Int.gcd_zero_right];omega
theorem kA {t b:Int}:gc t b ∣ t:=Int.gcd_dvd_left t b
theorem i7 {t b:Int}:gc t b ∣ b:=Int.gcd_dvd_right t b
theorem yf {t b:Int} (h:0 < b):gc t b<=b:=Int.le_of_dvd h i7
theorem zA {t b:Int}:gc (t.natAbs:Int) b=gc t b:=by
 unfold gc;simp [Int.gcd]
def rd (t b:Int):Int×Int:=(t / gc t b,b / gc t b)
structure Lo (a b:Int):Prop where
 pos:0 < b
 one:gc a b=1
theorem yC {t b:Int}:(rd t b).1*gc t b=t:=Int.ediv_mul_cancel kA
theorem wO {t b:Int}:(rd t b).2*gc t b=b:=Int.ediv_mul_cancel i7
theorem qq {t b:Int} (h:0 < b):Lo (rd t b).1 (rd t b).2:=by
 have hg:=gE (t:=t) h
 constructor
 . have e:=wO (t:=t) (b:=b)
   have:0 < (rd t b).2*gc t b:=by omega
   exact Int.pos_of_mul_pos_left this hg
 . unfold gc rd
   simp only
   have:=Int.gcd_ediv_gcd_ediv_gcd (i:=t) (j:=b) (by unfold gc at hg;omega)
   unfold gc
   rw [this];rfl
theorem uW {t b:Int}:(rd t b).1*b=t*(rd t b).2:=by
 have e1:=yC (t:=t) (b:=b)
 have e2:=wO (t:=t) (b:=b)
 generalize (rd t b).1=x at *
 generalize (rd t b).2=y at *
 generalize gc t b=g at *
 subst e1 e2
 grind
theorem Lo.ext {a b c d:Int} (h:Lo a b) (k:Lo c d) (e:a*d=c*b):a=c/\b=d:=by
 have hb:=h.pos
 have hd:=k.pos
 have h1:b ∣ d:=by
  have:b ∣ a*d:=⟨c,by rw [e,Int.mul_comm]⟩
  have hg:Int.gcd b a=1:=by have:=h.one;unfold gc at this;rw [Int.gcd_comm];omega
  have h3:=Int.dvd_gcd_mul_iff_dvd_mul.mpr this
  rw [hg] at h3
  simpa using h3
 have h2:d ∣ b:=by
  have:d ∣ c*b:=⟨a,by rw [<- e,Int.mul_comm]⟩
  have hg:Int.gcd d c=1:=by have:=k.one;unfold gc at this;rw [Int.gcd_comm];omega
  have h3:=Int.dvd_gcd_mul_iff_dvd_mul.mpr this
  rw [hg] at h3
  simpa using h3
 have hbd:b=d:=Int.le_antisymm (Int.le_of_dvd hd h1) (Int.le_of_dvd hb h2)
 subst hbd
 exact ⟨Int.eq_of_mul_eq_mul_right (by omega) e,rfl⟩
theorem Ae {t b a c:Int} (h:0 < b) (k:Lo a c) (e:t*c=a*b):rd t b=(a,c):=by
 have x:=(qq (t:=t) h).ext k (by
  have e1:=yC (t:=t) (b:=b)
  have e2:=wO (t:=t) (b:=b)
  have hg:=gE (t:=t) h
  generalize (rd t b).1=x at *
  generalize (rd t b).2=y at *
  generalize gc t b=g at *
  have:g*(x*c)=g*(a*y):=by grind
  exact Int.eq_of_mul_eq_mul_left (by omega) this)
 exact Prod.ext x.1 x.2
theorem uV {a b:Int} (h:Lo a b):rd a b=(a,b):=Ae h.pos h rfl
def pl (p q:Int×Int):Int×Int:=rd (p.1*q.2+q.1*p.2) (p.2*q.2)
def mi (p q:Int×Int):Int×Int:=rd (p.1*q.2 - q.1*p.2) (p.2*q.2)
def ti (p q:Int×Int):Int×Int:=rd (p.1*q.1) (p.2*q.2)
abbrev Lw (p:Int×Int):Prop:=Lo p.1 p.2
theorem AF {p q:Int×Int} (h:0 < p.2) (k:0 < q.2):Lw (mi p q):=qq (Int.mul_pos h k)
def Sm (k:Nat) (x:Int):Prop:=x.natAbs < 2 ^ k
theorem Sm.mono {k l:Nat} {x:Int} (h:Sm k x) (e:k<=l):Sm l x:=Nat.lt_of_lt_of_le h (Nat.pow_le_pow_right (by decide) e)
theorem Sm.mul {k l:Nat} {x y:Int} (h:Sm k x) (g:Sm l y):Sm (k+l) (x*y):=by
 unfold Sm at *
 rw [Int.natAbs_mul,Nat.pow_add]
 exact Nat.mul_lt_mul'' h g
theorem Sm.add {k:Nat} {x y:Int} (h:Sm k x) (g:Sm k y):Sm (k+1) (x+y):=by
 unfold Sm at *
 rw [Nat.pow_succ];omega
theorem Sm.sub {k:Nat} {x y:Int} (h:Sm k x) (g:Sm k y):Sm (k+1) (x - y):=by
 unfold Sm at *
 rw [Nat.pow_succ];omega
theorem Sm.of {k:Nat} {x:Int} (h:-(2 ^ k:Nat) < x) (g:x < (2 ^ k:Nat)):Sm k x:=by unfold Sm;omega
theorem Sm.div {k:Nat} {x g:Int} (h:Sm k x) (hg:0 < g) (d:g ∣ x):Sm k (x / g):=by
 obtain ⟨c,rfl⟩:=d
 rw [Int.mul_ediv_cancel_left _ (by omega)]
 unfold Sm at *
 rw [Int.natAbs_mul] at h
 have:1*c.natAbs<=g.natAbs*c.natAbs:=Nat.mul_le_mul_right _ (by omega)
 omega
theorem uU {k:Nat} {t b:Int} (hb:0 < b) (h:Sm k t) (g:Sm k b):Sm k (rd t b).1/\Sm k (rd t b).2 :=
 ⟨h.div (gE hb) kA,g.div (gE hb) i7⟩
structure Fr (k:Nat) (p:Int×Int):Prop where
 lw:Lw p
 s1:Sm k p.1
 s2:Sm k p.2
theorem Fr.mono {k l:Nat} {p:Int×Int} (h:Fr k p) (e:k<=l):Fr l p:=⟨h.lw,h.s1.mono e,h.s2.mono e⟩
theorem Fr.pos {k:Nat} {p:Int×Int} (h:Fr k p):0 < p.2:=h.lw.pos
theorem Fr.mi {k:Nat} {p q:Int×Int} (h:Fr k p) (g:Fr k q):Fr (k+k+1) (mi p q) :=
 have z:=uU (k:=k+k+1) (Int.mul_pos h.pos g.pos) ((h.s1.mul g.s2).sub (g.s1.mul h.s2)) ((h.s2.mul g.s2).mono (by omega))
 ⟨AF h.pos g.pos,z.1,z.2⟩
def low (t b:Int):Int×Int:=if b < 0 then rd (-t) (-b) else rd t b
theorem xn {t b:Int} (h:0 < b):low t b=rd t b:=by unfold low;rw [if_neg (by omega)]
end Mth
namespace Mth
abbrev Bn:=Option (Int×Bool)
def kp (p:Int×Int):Bn->Bool
 | none=>true
 | some (n,true)=>decide (p.1*1 < n*p.2)
 | some (n,false)=>!decide (n*p.2 < p.1*1)
def bs:Bn->Bn->Bn
 | some (n,s),some (m,t)=>some (n+m,s || t)
 | _,_=>none
theorem pT (a b:Bn):bs b a=bs a b:=by
 rcases a with _ | ⟨n,s⟩ <;> rcases b with _ | ⟨m,t⟩ <;> simp [bs,Int.add_comm,Bool.or_comm]
theorem fR (a b c:Bn):bs (bs a b) c=bs a (bs b c):=by
 rcases a with _ | ⟨n,s⟩ <;> rcases b with _ | ⟨m,t⟩ <;> rcases c with _ | ⟨l,u⟩ <;> simp [bs,Int.add_assoc,Bool.or_assoc]
theorem eV (a:Bn):bs a (some (0,false))=a:=by
 rcases a with _ | ⟨n,s⟩ <;> simp [bs]
def Kp (p:Int×Int):Bn->Prop
 | none=>True
 | some (n,true)=>p.1 < n*p.2
 | some (n,false)=>p.1<=n*p.2
theorem rP {p:Int×Int} {b:Bn}:kp p b=true <-> Kp p b:=by
 rcases b with _ | ⟨n,_ | _⟩
 . simp [kp,Kp]
 . simp [kp,Kp]
 . simp [kp,Kp]
def b2 (s:Bool):Int:=if s then 1 else 0
def far (f:Int) (s:Bool):Int:=if f=0/\s=true then 1 else f
end Mth
namespace Mth
def tgt:Bn->Bn->Bool
 | none,_=>false
 | some _,none=>true
 | some (n,s),some (m,t)=>if n=m then s && !t else decide (n < m)
theorem rj (n m:Int) (s t:Bool):tgt (some (n,s)) (some (m,t))=if n=m then s && !t else decide (n < m):=rfl
theorem iT (a:Bn):tgt a a=false:=by
 rcases a with _ | ⟨n,s⟩
 . rfl
 . simp [tgt]
def x5:Bn->List Int
 | none=>[]
 | some (n,_)=>[n]
def Bt (a b:Bn):List Int:=0 :: (x5 a++x5 b)
def Bz (n:Int):List (Int×Int):=[(n,1),(2*n - 1,2),(2*n+1,2),(n+1,1),(n - 1,1)]
def By:Bn->Bn->Int
 | none,none=>0+0
 | none,some (m,_)=>m+0
 | some (n,_),none=>n+0
 | some (n,_),some (m,_)=>m+n
def tr (a b:Bn):List (Int×Int):=(Bt a b).flatMap Bz++[low (By a b) 2]
end Mth
namespace Mth
end Mth
namespace Mth
def Le (a b:Bn):Prop:=tgt b a=false
theorem Le.refl (a:Bn):Le a a:=iT a
theorem iC (a:Bn):Le a none:=rfl
theorem lB {n m:Int} {s t:Bool}:Le (some (n,s)) (some (m,t)) <-> n < m \/ (n=m/\(t=true->s=true)):=by
 unfold Le
 rw [rj]
 by_cases h:m=n
 . subst h
   rw [if_pos rfl]
   cases s <;> cases t <;> simp
 . rw [if_neg h,decide_eq_false_iff_not]
   constructor
   . intro g
     exact .inl (by omega)
   . rintro (g | ⟨g,_⟩)
     . omega
     . exact absurd g.symm h
theorem dq {n:Int} {s:Bool}:¬ Le none (some (n,s)):=fun h=>by cases h
theorem Le.trans {a b c:Bn} (h:Le a b) (g:Le b c):Le a c:=by
 rcases c with _ | ⟨p,u⟩
 . exact iC a
 rcases b with _ | ⟨m,t⟩
 . exact absurd g dq
 rcases a with _ | ⟨n,s⟩
 . exact absurd h dq
 rw [lB] at *
 rcases h with h | ⟨h,h'⟩ <;> rcases g with g | ⟨g,g'⟩
 . exact .inl (by omega)
 . exact .inl (by omega)
 . exact .inl (by omega)
 . exact .inr ⟨by omega,fun z=>h' (g' z)⟩
theorem Le.total (a b:Bn):Le a b \/ Le b a:=by
 rcases a with _ | ⟨n,s⟩
 . exact .inr (iC b)
 rcases b with _ | ⟨m,t⟩
 . exact .inl (iC _)
 rw [lB,lB]
 by_cases h:n=m
 . subst h
   cases s <;> cases t <;> simp
 . by_cases g:n < m
   . exact .inl (.inl g)
   . exact .inr (.inl (by omega))
theorem Le.antisymm {a b:Bn} (h:Le a b) (g:Le b a):a=b:=by
 rcases a with _ | ⟨n,s⟩
 . rcases b with _ | ⟨m,t⟩
   . rfl
   . exact absurd h dq
 rcases b with _ | ⟨m,t⟩
 . exact absurd g dq
 rw [lB] at *
 have e:n=m:=by omega
 subst e
 have h':t=true->s=true:=by rcases h with h | h;omega;exact h.2
 have g':s=true->t=true:=by rcases g with g | g;omega;exact g.2
 cases s <;> cases t <;> simp_all
theorem oA {a b:Bn} (h:tgt a b=true):Le a b:=by
 rcases Le.total a b with z | z
 . exact z
 . unfold Le at z
   rw [h] at z;cases z
theorem Le.sum {a b c d:Bn} (h:Le a b) (g:Le c d):Le (bs a c) (bs b d):=by
 rcases b with _ | ⟨m,t⟩
 . exact iC _
 rcases d with _ | ⟨q,v⟩
 . exact iC _
 rcases a with _ | ⟨n,s⟩
 . exact absurd h dq
 rcases c with _ | ⟨p,u⟩
 . exact absurd g dq
 show Le (some (n+p,s || u)) (some (m+q,t || v))
 rw [lB] at *
 rcases h with h | ⟨h,h'⟩ <;> rcases g with g | ⟨g,g'⟩
 . exact .inl (by omega)
 . exact .inl (by omega)
 . exact .inl (by omega)
 . refine .inr ⟨by omega,fun z=>?_⟩
   rw [Bool.or_eq_true] at *
   rcases z with z | z
   . exact .inl (h' z)
   . exact .inr (g' z)
abbrev b0:Bn:=some (0,false)
theorem jD (a:Bn):bs b0 a=a:=by rw [pT,eV]
def Nn (a:Bn):Prop:=Le b0 a
theorem nn_kp {a:Bn}:kp (0,1) a=true <-> Nn a:=by
 rw [rP]
 rcases a with _ | ⟨n,s⟩
 . exact ⟨fun _=>iC _,fun _=>trivial⟩
 unfold Nn
 rw [lB]
 cases s with
 | false =>
  show 0<=n*1 <-> _
  constructor
  . intro h
    by_cases z:0=n
    . exact .inr ⟨z,by simp⟩
    . exact .inl (by omega)
  . rintro (h | ⟨h,_⟩) <;> omega
 | true =>
  show 0 < n*1 <-> _
  constructor
  . intro h
    exact .inl (by omega)
  . rintro (h | ⟨h,g⟩)
    . omega
    . exact absurd (g rfl) (by decide)
section
variable (c:Nat->Nat->Bn)
def dm:Nat->Nat->Nat->Bn
 | 0=>c
 | m+1=>fun i j=>if tgt (bs (dm m i m) (dm m m j)) (dm m i j) then bs (dm m i m) (dm m m j) else dm m i j
def Ok (n m:Nat):Prop:=∀ k,k < m->∀ i,i < n->Nn (bs (dm c k i k) (dm c k k i))
variable {c} {n:Nat}
theorem wc (m i j:Nat):Le (dm c (m+1) i j) (dm c m i j):=by
 show Le (if _ then _ else _) _
 split
 . rename_i h;exact oA h
 . exact Le.refl _
theorem pP (m i j:Nat):Le (dm c (m+1) i j) (bs (dm c m i m) (dm c m m j)):=by
 show Le (if _ then _ else _) _
 split
 . exact Le.refl _
 . rename_i h
   cases q:tgt (bs (dm c m i m) (dm c m m j)) (dm c m i j) with
   | true=>exact absurd q h
   | false=>exact q
theorem lG (m i j:Nat):dm c (m+1) i j=dm c m i j \/ dm c (m+1) i j=bs (dm c m i m) (dm c m m j):=by
 show (if _ then _ else _)=_ \/ (if _ then _ else _)=_
 split
 . exact .inr rfl
 . exact .inl rfl
structure Fw (c:Nat->Nat->Bn) (n m:Nat):Prop where
 dia:∀ i,i < n->dm c m i i=b0
 clo:∀ k,k < m->∀ i j,i < n->j < n->Le (dm c m i j) (bs (dm c m i k) (dm c m k j))
theorem tK (h:∀ i,i < n->c i i=b0):Fw c n 0:=⟨h,fun k hk=>by omega⟩
theorem zC {m:Nat} (w:Fw c n m) (hm:m < n) (j:Nat):dm c (m+1) m j=dm c m m j:=by
 rcases lG (c:=c) m m j with h | h
 . exact h
 . rw [h,w.dia m hm,jD]
theorem zD {m:Nat} (w:Fw c n m) (hm:m < n) (i:Nat):dm c (m+1) i m=dm c m i m:=by
 rcases lG (c:=c) m i m with h | h
 . exact h
 . rw [h,w.dia m hm,eV]
theorem tL {m:Nat} (w:Fw c n m) (hm:m < n) (ok:∀ i,i < n->Nn (bs (dm c m i m) (dm c m m i))):Fw c n (m+1):=by
 refine ⟨fun i hi=>?_,fun k hk i j hi hj=>?_⟩
 . refine Le.antisymm ((wc m i i).trans (by rw [w.dia i hi];exact Le.refl _)) ?_
   rcases lG (c:=c) m i i with h | h
   . rw [h,w.dia i hi];exact Le.refl _
   . rw [h];exact ok i hi
 . by_cases hkm:k=m
   . subst hkm
     rw [zD w hm,zC w hm]
     exact pP k i j
   . have hkm:k < m:=by omega
     have hkn:k < n:=by omega
     have mid:Le (bs (dm c m i m) (dm c m m j)) (bs (bs (dm c m i m) (dm c m m k)) (dm c m k j)):=by
      rw [fR]
      exact Le.sum (Le.refl _) (w.clo k hkm m j hm hj)
     have mid2:Le (bs (dm c m i m) (dm c m m j)) (bs (dm c m i k) (bs (dm c m k m) (dm c m m j))):=by
      rw [<- fR]
      exact Le.sum (w.clo k hkm i m hi hm) (Le.refl _)
     rcases lG (c:=c) m i k with h1 | h1 <;> rcases lG (c:=c) m k j with h2 | h2 <;> rw [h1,h2]
     . exact (wc m i j).trans (w.clo k hkm i j hi hj)
     . exact (pP m i j).trans mid2
     . exact (pP m i j).trans mid
     . refine (pP m i j).trans ?_
       have z:Nn (bs (dm c m m k) (dm c m k m)):=by
        have:=w.clo k hkm m m hm hm
        rw [w.dia m hm] at this
        exact this
       have e:bs (bs (dm c m i m) (dm c m m k)) (bs (dm c m k m) (dm c m m j))=bs (dm c m i m) (bs (bs (dm c m m k) (dm c m k m)) (dm c m m j)):=by
        rw [fR,fR]
       rw [e]
       refine Le.sum (Le.refl _) ?_
       have:=Le.sum z (Le.refl (dm c m m j))
       rw [jD] at this
       exact this
theorem vY (h:∀ i,i < n->c i i=b0):∀ m,m<=n->Ok c n m->Fw c n m
 | 0,_,_=>tK h
 | m+1,hm,ok=>tL (vY h m (by omega) fun k hk=>ok k (by omega)) (by omega) (ok m (by omega))
variable (c) in
def wt:List Nat->Bn
 | []=>b0
 | [_]=>b0
 | a :: b :: r=>bs (c a b) (wt (b :: r))
theorem jE:∀ (xs:List Nat) (v:Nat) (ys:List Nat),wt c (xs++v :: ys)=bs (wt c (xs++[v])) (wt c (v :: ys))
 | [],v,ys=>by
  show wt c (v :: ys)=bs b0 (wt c (v :: ys))
  rw [jD]
 | [a],v,ys=>by
  show bs (c a v) (wt c (v :: ys))=bs (bs (c a v) b0) (wt c (v :: ys))
  rw [eV]
 | a :: b :: xs,v,ys=>by
  show bs (c a b) (wt c ((b :: xs)++v :: ys))=bs (bs (c a b) (wt c ((b :: xs)++[v]))) (wt c (v :: ys))
  rw [jE (b :: xs) v ys,fR]
theorem wd (a z:Nat):∀ k,Le (dm c k a z) (c a z)
 | 0=>Le.refl _
 | k+1=>(wc k a z).trans (wd a z k)
theorem p0 {m:Nat} (w:Fw c n m) (hm:m<=n):∀ (xs:List Nat) (a z:Nat),a < n->z < n->(∀ x∈xs,x < m)->Le (dm c m a z) (wt c (a :: (xs++[z])))
 | [],a,z,ha,hz,_=>by
  show Le _ (bs (c a z) b0)
  rw [eV]
  exact wd a z m
 | x :: xs,a,z,ha,hz,h=>by
  have hx:=h x Zk
  have ih:=p0 w hm xs x z (by omega) hz fun y my=>h y (Zl _ my)
  show Le _ (bs (c a x) (wt c (x :: (xs++[z]))))
  exact (w.clo x hx a z ha hz).trans (Le.sum (wd a x m) ih)
structure Way (c:Nat->Nat->Bn) (n m i j:Nat) (p:List Nat):Prop where
 hd:∃ xs,p=i :: xs/\∀ x∈xs,x < m
 nd:i ≠ j->(p++[j]).Nodup
 sm:wt c (p++[j])=dm c m i j
theorem Way.lt {m i j:Nat} {p:List Nat} (w:Way c n m i j p) (hi:i < n) (hm:m<=n):∀ x∈p,x < n:=fun x mx=>by
 obtain ⟨xs,rfl,h⟩:=w.hd
 rcases Zo.mp mx with e | e
 . omega
 . have:=h x e;omega
theorem AG {m i j v:Nat} {p q:List Nat} (w:Fw c n m) (hm:m < n) (hi:i < n) (hj:j < n) (wp:Way c n m i m p) (wq:Way c n m m j q) (hv:v < m) (vp:v∈p) (vq:v∈q++[j]) :
 Le (bs (dm c m i v) (dm c m v j)) (bs (dm c m i m) (dm c m m j)):=by
 have hvn:v < n:=by omega
 obtain ⟨xs,rfl,hx⟩:=wp.hd
 obtain ⟨ys,rfl,hy⟩:=wq.hd
 have c1:Le (bs (dm c m i v) (dm c m v m)) (dm c m i m):=by
  rcases Zo.mp vp with e | e
  . subst e
    rw [w.dia v hvn,jD]
    exact Le.refl _
  . obtain ⟨s,t,rfl⟩:=List.append_of_mem e
    rw [<- wp.sm]
    have e1:i :: (s++v :: t)++[m]=(i :: s)++v :: (t++[m]):=by simp
    rw [e1,jE]
    exact Le.sum (p0 w (by omega) s i v hi hvn fun x mx=>hx x (List.mem_append_left _ mx)) (p0 w (by omega) t v m hvn hm fun x mx=>hx x (List.mem_append_right _ (Zl _ mx)))
 have c2:Le (bs (dm c m m v) (dm c m v j)) (dm c m m j):=by
  rcases Zn.mp vq with e | e
  . rcases Zo.mp e with e | e
    . omega
    . obtain ⟨s,t,rfl⟩:=List.append_of_mem e
      rw [<- wq.sm]
      have e1:m :: (s++v :: t)++[j]=(m :: s)++v :: (t++[j]):=by simp
      rw [e1,jE]
      exact Le.sum (p0 w (by omega) s m v hm hvn fun x mx=>hy x (List.mem_append_left _ mx)) (p0 w (by omega) t v j hvn hj fun x mx=>hy x (List.mem_append_right _ (Zl _ mx)))
  . have:v=j:=by simpa using e
    subst this
    rw [w.dia v hvn,eV]
    exact Le.refl _
 refine Le.trans ?_ (Le.sum c1 c2)
 have z:Nn (bs (dm c m v m) (dm c m m v)):=by
  have:=w.clo v hv m m hm hm
  rw [w.dia m hm,pT] at this
  exact this
 have e:bs (bs (dm c m i v) (dm c m v m)) (bs (dm c m m v) (dm c m v j))=bs (dm c m i v) (bs (bs (dm c m v m) (dm c m m v)) (dm c m v j)):=by
  rw [fR,fR]
 rw [e]
 refine Le.sum (Le.refl _) ?_
 have:=Le.sum z (Le.refl (dm c m v j))
 rw [jD] at this
 exact this
theorem m7 {p q:List Nat} (h:p.Nodup) (g:q.Nodup) (d:∀ x,x∈p->x ∉ q):(p++q).Nodup:=List.nodup_append.mpr ⟨h,g,fun x hx y hy e=>by subst e;exact d x hx hy⟩
theorem uF {m i j:Nat} {p:List Nat} (w:Way c n m i j p) (e:dm c (m+1) i j=dm c m i j):Way c n (m+1) i j p:=by
 obtain ⟨xs,h,hx⟩:=w.hd
 exact ⟨⟨xs,h,fun x mx=>Nat.lt_succ_of_lt (hx x mx)⟩,w.nd,w.sm.trans e.symm⟩
theorem ww {m i j:Nat} {p q:List Nat} (w:Fw c n m) (hm:m < n) (hi:i < n) (hj:j < n) (wp:Way c n m i m p) (wq:Way c n m m j q) (ok:Nn (bs (dm c m i m) (dm c m m i))) (t:tgt (bs (dm c m i m) (dm c m m j)) (dm c m i j)=true):Way c n (m+1) i j (p++q):=by
 have him:i ≠ m:=fun e=>by
  subst e
  rw [w.dia i hi,jD,iT] at t
  cases t
 have hmj:m ≠ j:=fun e=>by
  subst e
  rw [w.dia m hm,eV,iT] at t
  cases t
 have e1:dm c (m+1) i j=bs (dm c m i m) (dm c m m j):=if_pos t
 have ndp:=List.nodup_append.mp (wp.nd him)
 have ndq:=wq.nd hmj
 obtain ⟨xs,ep,hx⟩:=wp.hd
 obtain ⟨ys,eq,hy⟩:=wq.hd
 refine ⟨⟨xs++q,by rw [ep];rfl,fun x mx=>?_⟩,fun hij=>?_,?_⟩
 . rcases Zn.mp mx with z | z
   . have:=hx x z;omega
   . rw [eq] at z
     rcases Zo.mp z with z | z
     . omega
     . have:=hy x z;omega
 . rw [List.append_assoc]
   refine m7 ndp.1 ndq fun v vp vq=>?_
   have no:∀ v,v < m->v∈p->v∈q++[j]->False:=fun v hv vp vq=>by
    have h1:=AG w hm hi hj wp wq hv vp vq
    have h2:=(w.clo v hv i j hi hj).trans h1
    unfold Le at h2
    rw [t] at h2
    cases h2
   have vm:v ≠ m:=fun e=>ndp.2.2 v vp m (by simp) e
   have vp':=vp
   rw [ep] at vp'
   rcases Zo.mp vp' with e | e
   . -- v is i
     subst e
     rcases Zn.mp vq with z | z
     . rw [eq] at z
       rcases Zo.mp z with z | z
       . exact vm z
       . exact no v (hy v z) vp vq
     . exact hij (by simpa using z)
   . exact no v (hx v e) vp vq
 . rw [List.append_assoc]
   rw [eq]
   rw [List.cons_append,jE,<- List.cons_append,<- eq,wp.sm,wq.sm,e1]
theorem wM {m i:Nat} {p q:List Nat} (w:Fw c n m) (hm:m < n) (hi:i < n) (wp:Way c n m i m p) (wq:Way c n m m i q) (bad:¬ Nn (bs (dm c m i m) (dm c m m i))):(p++q).Nodup/\i ≠ m/\wt c (p++q++[i])=bs (dm c m i m) (dm c m m i):=by
 have him:i ≠ m:=fun e=>bad (by subst e;rw [w.dia i hi,jD];exact Le.refl _)
 have ndp:=List.nodup_append.mp (wp.nd him)
 have ndq:=List.nodup_append.mp (wq.nd (Ne.symm him))
 obtain ⟨xs,ep,hx⟩:=wp.hd
 obtain ⟨ys,eq,hy⟩:=wq.hd
 refine ⟨m7 ndp.1 ndq.1 fun v vp vq=>?_,him,?_⟩
 . have vm:v ≠ m:=fun e=>ndp.2.2 v vp m (by simp) e
   have hv:v < m:=by
    rw [eq] at vq
    rcases Zo.mp vq with z | z
    . exact absurd z vm
    . exact hy v z
   have h1:=AG w hm hi hi wp wq hv vp (List.mem_append_left _ vq)
   have h2:=w.clo v hv i i hi hi
   rw [w.dia i hi] at h2
   exact bad (h2.trans h1)
 . rw [List.append_assoc,eq,List.cons_append,jE,<- List.cons_append,<- eq,wp.sm,wq.sm]
theorem uE (i j:Nat):Way c n 0 i j [i]:=⟨⟨[],rfl,fun _ m=>nomatch m⟩,fun h=>by simp [h],by show bs (c i j) b0=c i j;rw [eV]⟩
end
def tg2 (a b:Bn):Bn:=if tgt b a then b else a
theorem sv (a b:Bn):Le (tg2 a b) a:=by
 unfold tg2
 split
 . rename_i h;exact oA h
 . exact Le.refl _
theorem ss (a b:Bn):Le (tg2 a b) b:=by
 unfold tg2
 split
 . exact Le.refl _
 . rename_i h
   cases q:tgt b a with
   | true=>exact absurd q h
   | false=>exact q
theorem oO {x a b:Bn} (h:Le x a) (g:Le x b):Le x (tg2 a b):=by
 unfold tg2
 split
 . exact g
 . exact h
def sqf (f:Nat->Nat->Bn) (i j:Nat) (ms:List Nat) (x:Bn):Bn:=ms.foldl (fun x m=>tg2 x (bs (f i m) (f m j))) x
theorem oU (f:Nat->Nat->Bn) (i j:Nat):∀ (ms:List Nat) (x:Bn),Le (sqf f i j ms x) x
 | [],x=>Le.refl _
 | m :: ms,x=>(oU f i j ms _).trans (sv _ _)
theorem sD (f:Nat->Nat->Bn) (i j:Nat):∀ (ms:List Nat) (x:Bn) (m:Nat),m∈ms->Le (sqf f i j ms x) (bs (f i m) (f m j))
 | [],x,m,h=>nomatch h
 | k :: ms,x,m,h=>by
  rcases Zo.mp h with e | e
  . subst e
    exact (oU f i j ms _).trans (ss _ _)
  . exact sD f i j ms _ m e
theorem sE (f:Nat->Nat->Bn) (i j:Nat) {y:Bn}:∀ (ms:List Nat) (x:Bn),Le y x->(∀ m∈ms,Le y (bs (f i m) (f m j)))->Le y (sqf f i j ms x)
 | [],x,h,_=>h
 | k :: ms,x,h,g=>sE f i j ms _ (oO h (g k Zk)) fun m hm=>g m (Zl _ hm)
def sq (n:Nat) (f:Nat->Nat->Bn) (i j:Nat):Bn:=sqf f i j (List.range n) (f i j)
def sqs (n:Nat) (f:Nat->Nat->Bn):Nat->Nat->Nat->Bn
 | 0=>f
 | k+1=>sq n (sqs n f k)
section
variable {c:Nat->Nat->Bn} {n:Nat}
theorem qe (k i j:Nat):Le (sqs n c k i j) (c i j):=by
 induction k with
 | zero=>exact Le.refl _
 | succ k ih=>exact (oU _ i j _ _).trans ih
theorem oS (w:Fw c n n):∀ (k i j:Nat),i < n->j < n->Le (dm c n i j) (sqs n c k i j)
 | 0,i,j,_,_=>wd i j n
 | k+1,i,j,hi,hj=>sE _ i j _ _ (oS w k i j hi hj) fun m hm=>by
  have hm:=Zm.mp hm
  exact (w.clo m hm i j hi hj).trans (Le.sum (oS w k i m hi hm) (oS w k m j hm hj))
theorem mG (d:∀ i,i < n->c i i=b0):∀ (k:Nat) (xs:List Nat) (a z:Nat),a < n->z < n->(∀ x∈xs,x < n)->xs.length+1<=2 ^ k->Le (sqs n c k a z) (wt c (a :: (xs++[z])))
 | 0,[],a,z,_,_,_,_=>by
  show Le (c a z) (bs (c a z) b0)
  rw [eV]
  exact Le.refl _
 | 0,x :: xs,a,z,_,_,_,h=>by simp at h
 | k+1,xs,a,z,ha,hz,hx,h=>by
  by_cases hl:xs.length+1<=2 ^ k
  . exact (oU _ a z _ _).trans (mG d k xs a z ha hz hx hl)
  . have hp:0 < 2 ^ k:=Nat.pos_of_ne_zero (by simp)
    have h2:2 ^ (k+1)=2 ^ k+2 ^ k:=by omega
    have hlt:2 ^ k - 1 < xs.length:=by omega
    have e:xs=xs.take (2 ^ k - 1)++xs[2 ^ k - 1] :: xs.drop (2 ^ k - 1+1):=by
     rw [<- List.drop_eq_getElem_cons hlt,List.take_append_drop]
    generalize hv:xs[2 ^ k - 1]=v at e
    have hvn:v < n:=by rw [<- hv];exact hx _ (List.getElem_mem _)
    have l1:(xs.take (2 ^ k - 1)).length=2 ^ k - 1:=by rw [List.length_take];omega
    have l2:(xs.drop (2 ^ k - 1+1)).length=xs.length - (2 ^ k - 1+1):=List.length_drop
    have m1:∀ x∈xs.take (2 ^ k - 1),x < n:=fun x m=>hx x (List.mem_of_mem_take m)
    have m2:∀ x∈xs.drop (2 ^ k - 1+1),x < n:=fun x m=>hx x (List.mem_of_mem_drop m)
    generalize xs.take (2 ^ k - 1)=p at *
    generalize xs.drop (2 ^ k - 1+1)=q at *
    have e1:a :: (xs++[z])=(a :: p)++v :: (q++[z]):=by rw [e];simp
    rw [e1,jE]
    exact (sD _ a z _ _ v (Zm.mpr hvn)).trans (Le.sum (mG d k p a v ha hvn m1 (by omega)) (mG d k q v z hvn hz m2 (by omega)))
theorem gx:∀ (n:Nat) (p:List Nat),p.Nodup->(∀ x∈p,x < n)->p.length<=n
 | 0,[],_,_=>Nat.le_refl _
 | 0,x :: p,_,h=>absurd (h x Zk) (by omega)
 | n+1,p,nd,h=>by
  have ih:=gx n (p.erase n) (nd.erase n) fun x m=>by
   have m':=(List.Nodup.mem_erase_iff nd).mp m
   have:=h x m'.2
   omega
  have:=List.length_erase (a:=n) (l:=p)
  split at this <;> omega
theorem qW (d:∀ i,i < n->c i i=b0) (ok:Ok c n n) (hn:n<=16) (ways:∀ i j,i < n->j < n->∃ p,Way c n n i j p) {i j:Nat} (hi:i < n) (hj:j < n):sqs n c 4 i j=dm c n i j:=by
 have w:=vY d n (Nat.le_refl n) ok
 refine Le.antisymm ?_ (oS w 4 i j hi hj)
 by_cases hij:i=j
 . subst hij
   rw [w.dia i hi]
   have:=qe (n:=n) (c:=c) 4 i i
   rw [d i hi] at this
   exact this
 . obtain ⟨p,wp⟩:=ways i j hi hj
   have nd:=List.nodup_append.mp (wp.nd hij)
   have lt:=wp.lt hi (Nat.le_refl n)
   have ln:=gx n p nd.1 lt
   obtain ⟨xs,ep,hx⟩:=wp.hd
   rw [<- wp.sm,ep,List.cons_append]
   rw [ep] at ln
   exact mG d 4 xs i j hi hj hx (by rw [List.length_cons] at ln;omega)
theorem rA (d:∀ i,i < n->c i i=b0) (hn:n<=16) {r:List Nat} {i:Nat} (h:∃ xs,r=i :: xs) (nd:r.Nodup) (lt:∀ x∈r,x < n) (bad:¬ Nn (wt c (r++[i]))):sqs n c 4 i i ≠ b0:=fun e=>by
 obtain ⟨xs,rfl⟩:=h
 have ln:=gx n _ nd lt
 have hi:=lt i Zk
 have:=mG d 4 xs i i hi hi (fun x m=>lt x (Zl _ m)) (by rw [List.length_cons] at ln;omega)
 rw [e] at this
 exact bad this
theorem si (xs:List Nat) (a b:Nat):wt c (xs++[a,b])=bs (wt c (xs++[a])) (c a b):=by
 rw [jE xs a [b]]
 show bs _ (bs (c a b) b0)=_
 rw [eV]
theorem qa {c c':Nat->Nat->Bn}:∀ (l:List Nat),l.Nodup->(∀ a b,a∈l->b∈l->a ≠ b->c a b=c' a b)->wt c l=wt c' l
 | [],_,_=>rfl
 | [_],_,_=>rfl
 | a :: b :: r,nd,h=>by
  have n1:=List.nodup_cons.mp nd
  show bs (c a b) (wt c (b :: r))=bs (c' a b) (wt c' (b :: r))
  rw [h a b Zk (Zl _ Zk) fun e=>n1.1 (e ▸ Zk),qa (b :: r) n1.2 fun x y hx hy=>h x y (Zl _ hx) (Zl _ hy)]
end
end Mth
namespace Mth
theorem i9 (n:Int):Rat.divInt n 1=(n:Rat):=by simp [Rat.divInt,Rat.mkRat_one]
def vl (p:Int×Int):Rat:=Rat.divInt p.1 p.2
theorem zT {t b:Int} (h:0 < b):vl (rd t b)=Rat.divInt t b:=by
 unfold vl
 have l:=(qq (t:=t) h).pos
 rw [Rat.divInt_eq_divInt_iff (by omega) (by omega)]
 exact uW
theorem zU {p q:Int×Int} (hp:0 < p.2) (hq:0 < q.2):vl (mi p q)=vl p - vl q:=by
 unfold mi
 rw [zT (Int.mul_pos hp hq)]
 unfold vl
 rw [Rat.divInt_sub_divInt _ _ (by omega) (by omega)]
theorem uG (n:Int):vl (n,1)=(n:Rat):=by
 unfold vl
 exact i9 n
theorem rY {t b:Int} (hb:0 < b):0 < Rat.divInt t b <-> 0 < t:=by
 have hb':(0:Rat) < (b:Rat):=by
  have:=(Rat.intCast_lt_intCast (a:=0) (b:=b)).mpr hb
  simpa using this
 have e:Rat.divInt t b*(b:Rat)=(t:Rat):=by
  have h1:(b:Rat)=Rat.divInt b 1:=(i9 b).symm
  have h2:(t:Rat)=Rat.divInt t 1:=(i9 t).symm
  rw [h1,h2,Rat.divInt_mul_divInt,Rat.divInt_eq_divInt_iff (by omega) (by omega)]
  grind
 constructor
 . intro h
   have:=Rat.mul_pos h hb'
   rw [e] at this
   exact (Rat.intCast_lt_intCast (a:=0)).mp (by simpa using this)
 . intro h
   have ht:(0:Rat) < (t:Rat):=by
    have:=(Rat.intCast_lt_intCast (a:=0) (b:=t)).mpr h
    simpa using this
   rw [<- e] at ht
   by_cases q:0 < Rat.divInt t b
   . exact q
   . have:Rat.divInt t b*(b:Rat)<=0:=by
      have h3:Rat.divInt t b<=0:=by grind
      have:=Rat.mul_le_mul_of_nonneg_right h3 (Rat.le_of_lt hb')
      grind
     grind
theorem xQ {p q:Int×Int} (hp:0 < p.2) (hq:0 < q.2):vl p < vl q <-> p.1*q.2 < q.1*p.2:=by
 have h:=rY (t:=q.1*p.2 - p.1*q.2) (b:=q.2*p.2) (Int.mul_pos hq hp)
 have e:Rat.divInt (q.1*p.2 - p.1*q.2) (q.2*p.2)=vl q - vl p:=by
  unfold vl
  rw [Rat.divInt_sub_divInt _ _ (by omega) (by omega)]
 rw [e] at h
 constructor
 . intro g
   have:=h.mp (by grind)
   omega
 . intro g
   have:=h.mpr (by omega)
   grind
def Kq (x:Rat):Bn->Prop
 | none=>True
 | some (n,true)=>x < (n:Rat)
 | some (n,false)=>x<=(n:Rat)
theorem yb {p:Int×Int} {b:Bn} (hp:0 < p.2):kp p b=true <-> Kq (vl p) b:=by
 rw [rP]
 rcases b with _ | ⟨n,s⟩
 . exact Iff.rfl
 have h1:=xQ (p:=p) (q:=(n,1)) hp (show (0:Int) < 1 by decide)
 have h2:=xQ (p:=(n,1)) (q:=p) (show (0:Int) < 1 by decide) hp
 rw [uG] at h1 h2
 cases s with
 | true =>
  show p.1 < n*p.2 <-> vl p < (n:Rat)
  rw [h1]
  simp
 | false =>
  show p.1<=n*p.2 <-> vl p<=(n:Rat)
  constructor
  . intro g
    have:¬ (n:Rat) < vl p:=fun z=>by
     have:=h2.mp z
     simp at this
     omega
    grind
  . intro g
    by_cases z:n*p.2 < p.1
    . have:=h2.mpr (by simpa using z)
      grind
    . omega
theorem Kq.sum {x y:Rat} {a b:Bn} (h:Kq x a) (g:Kq y b):Kq (x+y) (bs a b):=by
 rcases a with _ | ⟨n,s⟩
 . trivial
 rcases b with _ | ⟨m,t⟩
 . trivial
 cases s <;> cases t
 . show x+y<=((n+m:Int):Rat)
   have h':x<=(n:Rat):=h
   have g':y<=(m:Rat):=g
   rw [Rat.intCast_add]
   grind
 . show x+y < ((n+m:Int):Rat)
   have h':x<=(n:Rat):=h
   have g':y < (m:Rat):=g
   rw [Rat.intCast_add]
   grind
 . show x+y < ((n+m:Int):Rat)
   have h':x < (n:Rat):=h
   have g':y<=(m:Rat):=g
   rw [Rat.intCast_add]
   grind
 . show x+y < ((n+m:Int):Rat)
   have h':x < (n:Rat):=h
   have g':y < (m:Rat):=g
   rw [Rat.intCast_add]
   grind
theorem Kq.le {x:Rat} {a b:Bn} (h:Kq x a) (g:Le a b):Kq x b:=by
 rcases b with _ | ⟨m,t⟩
 . trivial
 rcases a with _ | ⟨n,s⟩
 . exact absurd g dq
 rw [lB] at g
 have mn:n<=m->(n:Rat)<=(m:Rat):=fun z=>Rat.intCast_le_intCast.mpr z
 have ml:n < m->(n:Rat) < (m:Rat):=fun z=>Rat.intCast_lt_intCast.mpr z
 cases s <;> cases t
 . have h':x<=(n:Rat):=h
   show x<=(m:Rat)
   have:=mn (by omega)
   grind
 . have h':x<=(n:Rat):=h
   show x < (m:Rat)
   rcases g with g | ⟨_,g⟩
   . have:=ml g
     grind
   . exact absurd (g rfl) (by decide)
 . have h':x < (n:Rat):=h
   show x<=(m:Rat)
   have:=mn (by omega)
   grind
 . have h':x < (n:Rat):=h
   show x < (m:Rat)
   have:=mn (by omega)
   grind
theorem pA {a:Bn}:Kq 0 a <-> Nn a:=by
 rw [<- nn_kp,yb (by decide)]
 have:vl (0,1)=0:=by rw [uG];rfl
 rw [this]
def Li (c:Nat->Nat->Bn) (n:Nat) (x:Nat->Rat):Prop:=∀ i j,i < n->j < n->Kq (x i - x j) (c i j)
section
variable {c:Nat->Nat->Bn} {n:Nat} {x:Nat->Rat}
theorem vQ (h:Li c n x):∀ m,m<=n->Li (dm c m) n x
 | 0,_=>h
 | m+1,hm=>fun i j hi hj=>by
  have ih:=vQ h m (by omega)
  rcases lG (c:=c) m i j with e | e
  . rw [e];exact ih i j hi hj
  . rw [e]
    have:=(ih i m hi (by omega)).sum (ih m j (by omega) hj)
    have e2:x i - x m+(x m - x j)=x i - x j:=by grind
    rw [e2] at this
    exact this
theorem vP {m:Nat} (h:Li (dm c m) n x):Li c n x:=fun i j hi hj=>(h i j hi hj).le (wd i j m)
theorem AH {m i:Nat} (hm:m < n) (hi:i < n) (bad:¬ Nn (bs (dm c m i m) (dm c m m i))):¬ Li c n x:=fun h=>by
 have d:=vQ h m (by omega)
 have:=(d i m hi hm).sum (d m i hm hi)
 have e2:x i - x m+(x m - x i)=0:=by grind
 rw [e2,pA] at this
 exact bad this
theorem xp {i:Nat} (hi:i < n) (h:Li c n x):Nn (c i i):=by
 have:=h i i hi hi
 have e2:x i - x i=0:=by grind
 rw [e2,pA] at this
 exact this
end
end Mth
namespace Mth
def btw (lo hi:Option (Int×Int)):Int×Int:=match lo,hi with
 | none,none=>(0,1)
 | none,some h=>mi h (1,1)
 | some l,none=>pl l (1,1)
 | some l,some h=>ti (pl l h) (1,2)
def gre:List (Int×Int)->Option (Int×Int)->Option (Int×Int)
 | [],o=>o
 | p :: ps,none=>gre ps (some p)
 | p :: ps,some q=>gre ps (some (if q.1*p.2 < p.1*q.2 then p else q))
def lea:List (Int×Int)->Option (Int×Int)->Option (Int×Int)
 | [],o=>o
 | p :: ps,none=>lea ps (some p)
 | p :: ps,some q=>lea ps (some (if p.1*q.2 < q.1*p.2 then p else q))
abbrev Pl:=List (Nat×(Int×Int))
def zm (d:Nat->Nat->Bn) (ps:Pl) (t:Nat):List (Int×Int):=ps.filterMap fun p=>(d p.1 t).map fun b=>mi p.2 (b.1,1)
def xy (d:Nat->Nat->Bn) (ps:Pl) (t:Nat):List (Int×Int):=ps.filterMap fun p=>(d t p.1).map fun b=>pl p.2 (b.1,1)
def zW (d:Nat->Nat->Bn) (ps:Pl) (t:Nat):Int×Int:=btw (gre (zm d ps t) none) (lea (xy d ps t) none)
section
variable {d:Nat->Nat->Bn} {ps:Pl} {t:Nat} {x:Nat->Rat}
end
end Mth
namespace Mth
end Mth
namespace Mth
def has (ps:Pl) (t:Nat):Prop:=∃ v,(t,v)∈ps
instance (ps:Pl) (t:Nat):Decidable (has ps t):=decidable_of_iff (t∈ps.map (·.1)) ⟨fun h=>by
 obtain ⟨p,m,e⟩:=List.mem_map.mp h
 exact ⟨p.2,by rw [<- e];exact m⟩,fun ⟨v,m⟩=>List.mem_map.mpr ⟨_,m,rfl⟩⟩
def xF (d:Nat->Nat->Bn) (ps:Pl):Nat->Pl
 | 0=>ps
 | m+1=>if has (xF d ps m) m then xF d ps m else xF d ps m++[(m,zW d (xF d ps m) m)]
end Mth
namespace Mth
def sm (a b c e:Int):Int×Int :=
 ((a*(e / gc b e)+c*(b / gc b e)) / gc (a*(e / gc b e)+c*(b / gc b e)) (gc b e),
  b / gc b e*(e / gc (a*(e / gc b e)+c*(b / gc b e)) (gc b e)))
end Mth
namespace Mth
end Mth
namespace Mth
end Mth
namespace Mth
section
variable {d:Nat->Nat->Bn} {n i j:Nat} {e:Int×Int}
end
end Mth
namespace Mth
def bp (q:Int×Int):Int×Int:=(q.1 % q.2,q.2)
def AA (g:Int) (q:Int×Int):Bool:=decide (g*q.2 < q.1)
def wi:List Int->List (Int×Int)->List (Int×Int)
 | m :: ms,q :: qs=>if AA m q then wi ms qs else q :: wi ms qs
 | _,_=>[]
def rk (ps:List (Int×Int)) (q:Int×Int):Nat:=(ps.filter fun p=>decide (p.1*q.2<=q.1 % q.2*p.2)).length
def plc (ps:List (Int×Int)) (g:Int) (q:Int×Int):Int×Int:=if AA g q then (g+1,0) else (q.1 / q.2,(rk ps q:Int))
def cls (ps:List (Int×Int)):List Int->List (Int×Int)->List (Int×Int)
 | m :: ms,q :: qs=>plc ps m q :: cls ps ms qs
 | _,_=>[]
end Mth
namespace Mth
end Mth
namespace Dl
open PySem PySem.Spec PyProof.Rows L2
structure BD (P:Program) (w:World) (H H':Hp) (s:Shared) (l:List Env) (B:Heap) (s':Shared):Prop where
 os:s'.os=s.os
 bare:AllBare s'.gens
 un:Un (frs l) [] H H' s.heap s'.heap
 hok:HOk P w H' B
 keepB:∀ b o,s.heap.get? b=some o->H b=none->b ∉ frs l->B.get? b=some o
 thereB:∀ b o,s.heap.get? b=some o->b ∉ frs l->∃ o',B.get? b=some o'
def BC (P:Program) (w:World) (H H':Hp) (s:Shared) (l:List Env) (x C:Addr) (s':Shared):Prop :=
 ∃ (B:Heap) (t:Addr),BD P w H H' s l B s'/\Heap.FlyingW B l x (.ref C) (.ref t) s'.heap
section
variable {P:Program} {w:World} {H H':Hp} {s s':Shared} {l:List Env} {B:Heap} {h':Heap}
end
def yk (X:Cx) (C:Addr) (σ:L2.St) (H:Hp):Prop:=∀ (pins:List (Addr×Obj)) (s:Shared) (h':Heap) (e:Addr) (vs:List Value),L2.Inv X pins σ H s->Heap.MadeExcOf s.heap h' e (.ref C) vs->X.xe (.ref e) { s with heap:=h' }
def A7 (X:Cx) (C:Addr) (σ:L2.St) (H:Hp):Prop:=∀ (pins:List (Addr×Obj)) (H₀:Hp) (s:Shared) (x:Addr) (s':Shared),L2.Inv X pins σ H₀ s->BC X.prog X.w H₀ H s X.stack x C s'->X.xe (.ref x) s'
section
variable {P:Program} {w:World} {K:PySem.W.Frag} {mg:Str->Option Value} {base:Heap} {N:List Str} {qual:Str} {scope:Scope} {f:Addr} {cd:Value} {A:Around} {outer:List Env} {s:Shared} {H:Hp} {E:XK}
end
end Dl
namespace Dl
open PySem PySem.Spec PyProof.Rows L2
inductive D where
 | non
 | bl (b:Bool)
 | int (i:Int)
 | str (x:Str)
 | tup (ds:List D)
 | lst (ds:List D)
 | seq (ds:List D)
 | ty (n:String)
 | dct
 | exc (C:Addr)
 | cls (C:Addr)
 | ms (ks:List Int) (ds:List D)
 | mf (ks:List Int) (ds:List D)
 | md (ks:List Int) (ds:List D)
def BF (a:Addr):HO:=.ext fun h=>∃ o,h.get? a=some o/\o.cls=.type "dict"
def BE (a C:Addr):HO:=.ext fun h=>∃ o vs,h.get? a=some o/\o.cls=.ref C/\o.data=.fields vs
mutual
inductive Rep (K:PySem.W.Frag) (H:Hp):V->D->Prop
 | non:Rep K H .non .non
 | bl (b:Bool):Rep K H (.bl b) (.bl b)
 | int (i:Int):Rep K H (.int i) (.int i)
 | str (x:Str):Rep K H (.str x) (.str x)
 | ty (n:String):Rep K H (.ty n) (.ty n)
 | tup {a:Addr} {vs:List V} {ds:List D} (h:SqT K H a vs) (r:Reps K H vs ds):Rep K H (.ref a) (.tup ds)
 | lst {a:Addr} {vs:List V} {ds:List D} (h:H a=some (.lst vs)) (r:Reps K H vs ds):Rep K H (.ref a) (.lst ds)
 | seq {a:Addr} {vs:List V} {ds:List D} (h:SqL K H a vs) (r:Reps K H vs ds):Rep K H (.ref a) (.seq ds)
 | dct {a:Addr} (h:H a=some (BF a)):Rep K H (.ref a) .dct
 | exc {a C:Addr} (h:H a=some (BE a C)):Rep K H (.ref a) (.exc C)
 | cls (C:Addr):Rep K H (.ref C) (.cls C)
 | ms {a:Addr} {ks:List Int} {vs:List V} {ds:List D} (h:Rd H a (.dK ((ks.map Sum.inl).zip vs))) (l:ks.length=ds.length) (r:Reps K H vs ds):Rep K H (.ref a) (.ms ks ds)
 | mf {a:Addr} {ks:List Int} {vs:List V} {ds:List D} (h:∃ o,H a=some (.frz o (.dK ((ks.map Sum.inl).zip vs)))) (l:ks.length=ds.length) (r:Reps K H vs ds):Rep K H (.ref a) (.mf ks ds)
 | md {a:Addr} {ks:List Int} {vs:List V} {ds:List D} (h:H a=some (.dK ((ks.map Sum.inl).zip vs))) (l:ks.length=ds.length) (r:Reps K H vs ds):Rep K H (.ref a) (.md ks ds)
inductive Reps (K:PySem.W.Frag) (H:Hp):List V->List D->Prop
 | nil:Reps K H [] []
 | cons {v:V} {d:D} {vs:List V} {ds:List D} (r:Rep K H v d) (t:Reps K H vs ds):Reps K H (v :: vs) (d :: ds)
end
theorem qg {K:PySem.W.Frag} {H H':Hp} {a:Addr} {xs:List V} (e:Same H H') (h:SqT K H a xs):SqT K H' a xs:=by
 rcases h with (h | ⟨o,h⟩) | h
 . exact .inl (.inl (e _ _ h))
 . exact .inl (.inr ⟨o,e _ _ h⟩)
 . exact .inr h
mutual
theorem Rep.mono {K:PySem.W.Frag} {H H':Hp} (e:Same H H'):∀ {v:V} {d:D},Rep K H v d->Rep K H' v d
 | _,_,.non=>.non
 | _,_,.bl b=>.bl b
 | _,_,.int i=>.int i
 | _,_,.str x=>.str x
 | _,_,.ty n=>.ty n
 | _,_,.tup h r=>.tup (qg e h) (Reps.mono e r)
 | _,_,.lst h r=>.lst (e _ _ h) (Reps.mono e r)
 | _,_,.seq h r=>.seq (e.seq h) (Reps.mono e r)
 | _,_,.dct h=>.dct (e _ _ h)
 | _,_,.exc h=>.exc (e _ _ h)
 | _,_,.cls C=>.cls C
 | _,_,.ms h l r=>.ms (h.imp (e _ _) fun ⟨o,h⟩=>⟨o,e _ _ h⟩) l (Reps.mono e r)
 | _,_,.mf ⟨o,h⟩ l r=>.mf ⟨o,e _ _ h⟩ l (Reps.mono e r)
 | _,_,.md h l r=>.md (e _ _ h) l (Reps.mono e r)
theorem Reps.mono {K:PySem.W.Frag} {H H':Hp} (e:Same H H'):∀ {vs:List V} {ds:List D},Reps K H vs ds->Reps K H' vs ds
 | _,_,.nil=>.nil
 | _,_,.cons r t=>.cons (Rep.mono e r) (Reps.mono e t)
end
theorem Reps.length {K:PySem.W.Frag} {H:Hp}:∀ {vs:List V} {ds:List D},Reps K H vs ds->vs.length=ds.length
 | _,_,.nil=>rfl
 | _,_,.cons _ t=>congrArg (· + 1) (Reps.length t)
theorem Reps.get {K:PySem.W.Frag} {H:Hp}:∀ {vs:List V} {ds:List D} {i:Nat} {d:D},Reps K H vs ds->ds[i]? = some d->∃ v,vs[i]? = some v/\Rep K H v d
 | _,_,_,_,.nil,e=>by simp at e
 | _,_,0,_,.cons r _,e=>by simp at e;subst e;exact ⟨_,rfl,r⟩
 | _,_,i+1,d,.cons _ t,e=>by
  obtain ⟨v,h1,h2⟩:=Reps.get (i:=i) (d:=d) t (by simpa using e)
  exact ⟨v,by simpa using h1,h2⟩
theorem Reps.getV {K:PySem.W.Frag} {H:Hp}:∀ {vs:List V} {ds:List D} {i:Nat} {v:V},Reps K H vs ds->vs[i]? = some v->∃ d,ds[i]? = some d/\Rep K H v d
 | _,_,_,_,.nil,e=>by simp at e
 | _,_,0,_,.cons r _,e=>by simp at e;subst e;exact ⟨_,rfl,r⟩
 | _,_,i+1,d,.cons _ t,e=>by
  obtain ⟨v,h1,h2⟩:=Reps.getV (i:=i) (v:=d) t (by simpa using e)
  exact ⟨v,by simpa using h1,h2⟩
theorem Reps.append {K:PySem.W.Frag} {H:Hp}:∀ {vs us:List V} {ds es:List D},Reps K H vs ds->Reps K H us es->Reps K H (vs++us) (ds++es)
 | _,_,_,_,.nil,s=>s
 | _,_,_,_,.cons r t,s=>.cons r (Reps.append t s)
theorem Reps.take {K:PySem.W.Frag} {H:Hp}:∀ {vs:List V} {ds:List D} (n:Nat),Reps K H vs ds->Reps K H (vs.take n) (ds.take n)
 | _,_,0,_=>.nil
 | _,_,_+1,.nil=>.nil
 | _,_,n+1,.cons r t=>.cons r (Reps.take n t)
theorem Reps.drop {K:PySem.W.Frag} {H:Hp}:∀ {vs:List V} {ds:List D} (n:Nat),Reps K H vs ds->Reps K H (vs.drop n) (ds.drop n)
 | _,_,0,r=>r
 | _,_,_+1,.nil=>.nil
 | _,_,n+1,.cons _ t=>Reps.drop n t
theorem Reps.ints {K:PySem.W.Frag} {H:Hp}:∀ (ns:List Int),Reps K H (ns.map V.int) (ns.map D.int)
 | []=>.nil
 | n :: r=>.cons (.int n) (Reps.ints r)
theorem Reps.atI {K:PySem.W.Frag} {H:Hp} {vs:List V} {ds:List D} {i:Int} {d:D} (r:Reps K H vs ds) (e:L2.atI ds i=some d):∃ v,L2.atI vs i=some v/\Rep K H v d:=by
 unfold L2.atI at e ⊢
 rw [<- r.length] at e
 obtain ⟨j,h1,h2⟩:=Za.mp e
 obtain ⟨v,h3,h4⟩:=r.get h2
 exact ⟨v,by rw [h1];exact h3,h4⟩
abbrev DS:=List (Option D)
structure RepS (K:PySem.W.Frag) (H:Hp) (σ:L2.St) (δ:DS):Prop where
 len:σ.length=δ.length
 val:∀ (i:Nat) (d:D),δ[i]? = some (some d)->∃ v,σ[i]? = some (some v)/\Rep K H v d
theorem RepS.mono {K:PySem.W.Frag} {H H':Hp} {σ:L2.St} {δ:DS} (e:Same H H') (h:RepS K H σ δ):RepS K H' σ δ :=
 ⟨h.len,fun i d q=>let ⟨v,a,b⟩:=h.val i d q;⟨v,a,b.mono e⟩⟩
theorem RepS.set {K:PySem.W.Frag} {H:Hp} {σ:L2.St} {δ:DS} {v:V} {d:D} (h:RepS K H σ δ) (i:Nat) (r:Rep K H v d):RepS K H (σ.set i (some v)) (δ.set i (some d)):=by
 refine ⟨by rw [List.length_set,List.length_set];exact h.len,fun j e q=>?_⟩
 have hl:=h.len
 rw [List.getElem?_set] at q ⊢
 by_cases hj:i=j
 . subst hj
   rw [if_pos rfl] at q ⊢
   by_cases hi:i < δ.length
   . rw [if_pos hi] at q
     rw [if_pos (by omega)]
     have:d=e:=by simpa using q
     subst this
     exact ⟨v,rfl,r⟩
   . rw [if_neg hi] at q;cases q
 . rw [if_neg hj] at q ⊢
   exact h.val j e q
theorem RepS.start {K:PySem.W.Frag} {H:Hp} {N:List Str} {vs:List V} {ds:List D} (r:Reps K H vs ds):RepS K H (L2.start N vs) (ds.map some++List.replicate (N.length - ds.length) none):=by
 unfold L2.start
 refine ⟨by simp [r.length],fun i d q=>?_⟩
 have hi:i < ds.length:=by
  by_cases hi:i < ds.length
  . exact hi
  . rw [List.getElem?_append_right (by simpa using hi),List.getElem?_replicate] at q
    split at q <;> cases q
 rw [List.getElem?_append_left (by simpa using hi),List.getElem?_map] at q
 obtain ⟨e,h1,h2⟩:=Zb.mp q
 cases h2
 obtain ⟨v,h3,h4⟩:=r.get h1
 have hv:i < vs.length:=by rw [r.length];exact hi
 exact ⟨v,by rw [List.getElem?_append_left (by simpa using hv),List.getElem?_map,h3];rfl,h4⟩
abbrev FD:=DS->Option D
def up (K:PySem.W.Frag) (f:FD):TE:=fun σ H Q=>∃ δ d,RepS K H σ δ/\f δ=some d/\∀ v H',Same H H'->Rep K H' v d->Q v H'
def PD (X:Cx) (e:Expr) (f:FD):Prop:=PE X e (up X.K f)
theorem imp {X:Cx} {e:Expr} {t t':TE} (h:PE X e t) (w:∀ σ H Q,t' σ H Q->t σ H Q):PE X e t':=fun pins s σ H Q I q=>h pins s σ H Q I (w σ H Q q)
theorem cN {H:Hp} {p:Addr} (h:H p=none) (o:HO):Same H (upd H p o):=fun b u q=>by rw [aH (cT q h)];exact q
def ab (i:Nat):FD:=fun δ=>match δ[i]? with
 | some (some d)=>some d
 | _=>none
def fC (d:D):FD:=fun _=>some d
def f2 (g:D->D->Option D) (fa fb:FD):FD:=fun δ=>(fa δ).bind fun x=>(fb δ).bind fun y=>g x y
def f1 (g:D->Option D) (fa:FD):FD:=fun δ=>(fa δ).bind g
section
variable {X:Cx} {a b e:Expr} {fa fb f:FD} {pos:Pos}
theorem ac (i:Nat) {x:Str} (hN:X.N[i]? = some x:=by rfl) (hv:Vis X.env.scope x:=by first | exact Or.inl rfl | exact Or.inr (Or.inl rfl) | exact Or.inr (Or.inr rfl)) (hd:(x == ("__debug__":Str))=false:=by decide)
 (hcd:(x == ("__classdict__":Str))=false:=by decide):PD X (.Name x pos) (ab i) :=
 imp (pi hN hv hd hcd) fun σ H Q ⟨δ,d,R,e,k⟩=>by
  unfold ab at e
  split at e
  . rename_i d' h
    cases e
    obtain ⟨v,h1,h2⟩:=R.val i _ h
    exact ⟨v,h1,k v H (Same.refl H) h2⟩
  . cases e
theorem aj {i j}:PD X (.Constant (.int i) j pos) (fC (.int i)):=imp yT fun σ H Q ⟨δ,d,R,e,k⟩=>by cases e;exact k _ H (Same.refl H) (.int i)
theorem d5 {b j}:PD X (.Constant (.bool b) j pos) (fC (.bl b)):=imp Az fun σ H Q ⟨δ,d,R,e,k⟩=>by cases e;exact k _ H (Same.refl H) (.bl b)
theorem bJ {j}:PD X (.Constant .none j pos) (fC .non):=imp yS fun σ H Q ⟨δ,d,R,e,k⟩=>by cases e;exact k _ H (Same.refl H) .non
theorem kU {x j}:PD X (.Constant (.str x) j pos) (fC (.str x)):=imp yP fun σ H Q ⟨δ,d,R,e,k⟩=>by cases e;exact k _ H (Same.refl H) (.str x)
theorem ki {x:Str} {n:String} (hg:Gl X x) (hm:X.mg x=none) (hv:bootBuiltins x=some (.type n)) (hn:x ≠ "__name__":=by decide) (hd:(x == ("__debug__":Str))=false:=by decide):PD X (.Name x pos) (fC (.ty n)) :=
 imp (xc (v:=.ty n) hg hm hv rfl hn hd) fun σ H Q ⟨δ,d,R,e,k⟩=>by cases e;exact k _ H (Same.refl H) (.ty n)
def R2D (K:PySem.W.Frag) (r:R2) (g:D->D->Option D):Prop :=
 ∀ (x y:V) (H:Hp) (Q:VK) (a b d:D),Rep K H x a->Rep K H y b->g a b=some d->(∀ w H',Same H H'->Rep K H' w d->Q w H')->r x y H Q
theorem xx {r:R2} {g:D->D->Option D} (hg:R2D X.K r g) {σ:L2.St} {H:Hp} {Q:VK} (h:up X.K (f2 g fa fb) σ H Q):tOp r (up X.K fa) (up X.K fb) σ H Q:=by
 obtain ⟨δ,d,R,e,k⟩:=h
 unfold f2 at e
 obtain ⟨x,ex,e⟩:=Za.mp e
 obtain ⟨y,ey,e⟩:=Za.mp e
 exact ⟨δ,x,R,ex,fun v H1 s1 r1=>⟨δ,y,R.mono s1,ey,fun w H2 s2 r2=>hg v w H2 Q x y d (r1.mono s2) r2 e fun z H' s3=>k z H' ((s1.trans s2).trans s3)⟩⟩
theorem mT {op:Operator} {r:R2} {g:D->D->Option D} (ho:OpR X (binaryOp op) r) (hg:R2D X.K r g) (ha:PD X a fa) (hb:PD X b fb):PD X (.BinOp a op b pos) (f2 g fa fb) :=
 imp (xX ho ha hb) fun _ _ _=>xx hg
theorem jS {op:CmpOp} {r:R2} {g:D->D->Option D} (ho:OpR X (compareOp op) r) (hg:R2D X.K r g) (ha:PD X a fa) (hb:PD X b fb) (hm:behindInMarks op b=false):PD X (.Compare a [op] [b] pos) (f2 g fa fb) :=
 imp (xb ho ha hb hm) fun _ _ _=>xx hg
theorem yX {r:R2} {g:D->D->Option D} (hr:IxR X r) (hg:R2D X.K r g) (ha:PD X a fa) (hb:PD X b fb) (hs:pY b):PD X (.Subscript a b pos) (f2 g fa fb) :=
 imp (iY hr ha hb hs) fun _ _ _=>xx hg
theorem R2D.or {K:PySem.W.Frag} {r r':R2} {g g':D->D->Option D} (h:R2D K r g) (h':R2D K r' g'):R2D K (fun x y H Q=>r x y H Q \/ r' x y H Q) (fun a b=>(g a b).or (g' a b)):=by
 intro x y H Q a b d ra rb e k
 cases q:g a b with
 | some z =>
  have e':(g a b).or (g' a b)=some d:=e
  rw [q] at e'
  cases e'
  exact .inl (h x y H Q a b _ ra rb q k)
 | none =>
  have e':(g a b).or (g' a b)=some d:=e
  rw [q] at e'
  exact .inr (h' x y H Q a b d ra rb e' k)
end
def Bd (x:Int):Prop:=x.natAbs < 2 ^ 9000
instance (x:Int):Decidable (Bd x):=by unfold Bd;exact inferInstance
theorem Bd.bits {x:Int} (h:Bd x):Builtin.Int.intBits x<=2 ^ 20:=by
 have h':x.natAbs < 2 ^ (2 ^ 20):=Nat.lt_of_lt_of_le h (Nat.pow_le_pow_right (by decide) (by decide))
 exact PySem.intBits_le_iff.mpr h'
theorem Bd.log {x:Int} (h:Bd x) (h0:x ≠ 0):x.natAbs.log2 < 9000:=(Nat.log2_lt (by omega)).mpr h
section
variable {X:Cx} {K:PySem.W.Frag}
def aR (i j:Int):Prop:=Bd i/\Bd j
theorem xi:OpR X (binaryOp .Mult) (rI aR fun i j=>.int (i*j)):=opI fun _ _ _ _ _ _ _ hc q=>mul_int q (.of_bits hc.1.bits hc.2.bits)
def ay (_ j:Int):Prop:=0 < j/\Bd j
theorem vH:OpR X (binaryOp .FloorDiv) (rI ay fun i j=>.int (i / j)):=opI fun i j _ _ _ _ _ hc q=>by
 have h1:(0:Int) < j:=hc.1
 exact floordiv_int (by omega) (by rw [Int.fdiv_eq_ediv_of_nonneg i (by omega)];exact q) (.inl (PyProof.noPylong_of_log2 (hc.2.log (by omega))))
def gI0 (g:Int->Int->D):D->D->Option D
 | .int i,.int j=>some (g i j)
 | _,_=>none
def gI (C:Int->Int->Prop) [∀ i j,Decidable (C i j)] (g:Int->Int->D):D->D->Option D
 | .int i,.int j=>if C i j then some (g i j) else none
 | _,_=>none
instance (i j:Int):Decidable (aR i j):=by unfold aR;exact inferInstance
instance (i j:Int):Decidable (ay i j):=by unfold ay;exact inferInstance
instance (i j:Int):Decidable (lY i j):=by unfold lY;exact inferInstance
theorem oq {g:Int->Int->V} {g':Int->Int->D} (h:∀ H i j,Rep K H (g i j) (g' i j)):R2D K (rI0 g) (gI0 g'):=by
 intro x y H Q a b d ra rb e k
 cases ra with
 | int i =>
  cases rb with
  | int j=>cases e;exact ⟨i,j,rfl,rfl,k _ H (Same.refl H) (h H i j)⟩
  | _=>cases e
 | _=>cases e
theorem u7 {C:Int->Int->Prop} [∀ i j,Decidable (C i j)] {g:Int->Int->V} {g':Int->Int->D} (h:∀ H i j,Rep K H (g i j) (g' i j)):R2D K (rI C g) (gI C g'):=by
 intro x y H Q a b d ra rb e k
 cases ra with
 | int i =>
  cases rb with
  | int j =>
   have e':(if C i j then some (g' i j) else none)=some d:=e
   by_cases hc:C i j
   . rw [if_pos hc] at e';cases e';exact ⟨i,j,rfl,rfl,hc,k _ H (Same.refl H) (h H i j)⟩
   . rw [if_neg hc] at e';cases e'
  | _=>cases e
 | _=>cases e
end
def AU:D->D->Option D
 | .lst xs,.lst ys=>if xs.length+ys.length<=1000 then some (.lst (xs++ys)) else none
 | _,_=>none
theorem dR {n:Nat} (h:n<=1000):n<=sizeLine:=Nat.le_of_lt (je h)
theorem yD {K:PySem.W.Frag}:R2D K Ap AU:=by
 intro x y H Q a b d ra rb e k
 cases ra with
 | @lst p xs ds hp rp =>
  cases rb with
  | @lst q ys es hq rq =>
   have e':(if ds.length+es.length<=1000 then some (D.lst (ds++es)) else none)=some d:=e
   by_cases hc:ds.length+es.length<=1000
   . rw [if_pos hc] at e';cases e'
     refine ⟨p,q,xs,ys,rfl,rfl,hp,hq,dR (by rw [rp.length,rq.length];exact hc),fun l hl=>?_⟩
     have s:=cN hl (.lst (xs++ys))
     exact k _ _ s (.lst bx ((rp.append rq).mono s))
   . rw [if_neg hc] at e';cases e'
  | _=>cases e
 | _=>cases e
def bv:D->D->Option D:=fun a b=>(gI0 (fun i j=>.int (i+j)) a b).or (AU a b)
def gIx:D->D->Option D
 | .tup ds,.int i=>L2.atI ds i
 | .lst ds,.int i=>L2.atI ds i
 | .seq ds,.int i=>L2.atI ds i
 | _,_=>none
theorem Ar {K:PySem.W.Frag}:R2D K (fun x y H Q=>ua K x y H Q \/ Ak K x y H Q) gIx:=by
 intro x y H Q a b d ra rb e k
 cases rb with
 | int i =>
  cases ra with
  | @tup p vs ds hp rp =>
   have e':L2.atI ds i=some d:=e
   obtain ⟨v,h1,h2⟩:=rp.atI e'
   exact .inr ⟨p,vs,i,v,rfl,rfl,hp,h1,k v H (Same.refl H) h2⟩
  | @lst p vs ds hp rp =>
   have e':L2.atI ds i=some d:=e
   obtain ⟨v,h1,h2⟩:=rp.atI e'
   exact .inl ⟨p,vs,i,v,rfl,rfl,SqL.of hp,h1,k v H (Same.refl H) h2⟩
  | @seq p vs ds hp rp =>
   have e':L2.atI ds i=some d:=e
   obtain ⟨v,h1,h2⟩:=rp.atI e'
   exact .inl ⟨p,vs,i,v,rfl,rfl,hp,h1,k v H (Same.refl H) h2⟩
  | _=>cases e
 | _=>cases ra <;> cases e
section
variable {X:Cx} {a b e:Expr} {fa fb f:FD} {pos:Pos}
theorem bQ (ha:PD X a fa) (hb:PD X b fb):PD X (.BinOp a .Add b pos) (f2 bv fa fb):=mT (op_add.or ze) ((oq fun _ _ _=>.int _).or yD) ha hb
theorem fS (ha:PD X a fa) (hb:PD X b fb):PD X (.BinOp a .Sub b pos) (f2 (gI0 fun i j=>.int (i - j)) fa fb):=mT za (oq fun _ _ _=>.int _) ha hb
theorem di (ha:PD X a fa) (hb:PD X b fb):PD X (.BinOp a .Mult b pos) (f2 (gI aR fun i j=>.int (i*j)) fa fb):=mT xi (u7 fun _ _ _=>.int _) ha hb
theorem bH (ha:PD X a fa) (hb:PD X b fb):PD X (.BinOp a .FloorDiv b pos) (f2 (gI ay fun i j=>.int (i / j)) fa fb):=mT vH (u7 fun _ _ _=>.int _) ha hb
theorem bu (ha:PD X a fa) (hb:PD X b fb):PD X (.BinOp a .Mod b pos) (f2 (gI (fun _ j=>0 < j) fun i j=>.int (i % j)) fa fb):=mT zd (u7 fun _ _ _=>.int _) ha hb
theorem rJ (ha:PD X a fa) (hb:PD X b fb):PD X (.BinOp a .Pow b pos) (f2 (gI lY fun i j=>.int (i ^ j.toNat)) fa fb):=mT zb (u7 fun _ _ _=>.int _) ha hb
theorem az (ha:PD X a fa) (hb:PD X b fb) (hs:pY b:=by intro _ _;rfl):PD X (.Subscript a b pos) (f2 gIx fa fb):=yX (ix_list.or zu) Ar ha hb hs
def g9:D->Option D
 | .int i=>some (.int (-i))
 | _=>none
theorem kX (ha:PD X a fa):PD X (.UnaryOp .USub a pos) (f1 g9 fa):=imp (Ax yn ha) fun σ H Q ⟨δ,d,R,e,k⟩=>by
 unfold f1 at e
 obtain ⟨x,ex,e⟩:=Za.mp e
 refine ⟨δ,x,R,ex,fun v H1 s1 r1=>?_⟩
 cases r1 with
 | int i=>cases e;exact ⟨i,rfl,k _ H1 s1 (.int _)⟩
 | _=>cases e
end
abbrev FT:=DS->Option Bool
def upT (K:PySem.W.Frag) (f:FT):TT:=fun σ H Q=>∃ δ b,RepS K H σ δ/\f δ=some b/\∀ H',Same H H'->Q b H'
def PTD (X:Cx) (e:Expr) (f:FT):Prop:=PT X e (upT X.K f)
def PWD (X:Cx) (e:Expr) (f:FT):Prop:=PW X e (upT X.K f)
theorem zz {X:Cx} {e:Expr} {t t':TT} (h:PT X e t) (w:∀ σ H Q,t' σ H Q->t σ H Q):PT X e t':=fun pins s σ H Q I q=>h pins s σ H Q I (w σ H Q q)
theorem AQ {X:Cx} {e:Expr} {t t':TT} (h:PW X e t) (w:∀ σ H Q,t' σ H Q->t σ H Q):PW X e t':=fun wh pins s σ H Q I q=>h wh pins s σ H Q I (w σ H Q q)
def asB:D->Option Bool
 | .bl b=>some b
 | _=>none
def fT (f:FD):FT:=fun δ=>(f δ).bind asB
def cC (f:FT):FT:=fun δ=>(f δ).map not
def bt (f g:FT):FT:=fun δ=>(f δ).bind fun b=>match b with
 | true=>g δ
 | false=>some false
def dY (f g:FT):FT:=fun δ=>(f δ).bind fun b=>match b with
 | true=>some true
 | false=>g δ
section
variable {X:Cx} {a b e:Expr} {fa fb f:FD} {ta tb:FT} {rest:List Expr} {pos:Pos}
theorem wl {K:PySem.W.Frag} {t:TE} (w:∀ σ H Q,up K f σ H Q->t σ H Q) {σ:L2.St} {H:Hp} {Q:Bool->Hp->Prop} (h:upT K (fT f) σ H Q):t σ H fun x H1=>∃ c,x=.bl c/\Q c H1:=by
 obtain ⟨δ,b,R,e,k⟩:=h
 unfold fT at e
 obtain ⟨d,ed,e⟩:=Za.mp e
 refine w σ H _ ⟨δ,d,R,ed,fun v H' s r=>?_⟩
 cases r with
 | bl c=>cases e;exact ⟨_,rfl,k H' s⟩
 | _=>cases e
theorem ck (h:PD X e f) (he:∀ whole,isTrue e X.env whole=(do let v <- whole;standAt e.pos;holding [v] (truthy v)):=by intro _;rfl):PTD X e (fT f) :=
 zz (yK h he) fun _ _ _ q=>wl (fun _ _ _ z=>z) q
theorem gm {op:CmpOp} {r:R2} {g:D->D->Option D} (ho:OpR X (compareOp op) r) (hg:R2D X.K r g) (ha:PD X a fa) (hb:PD X b fb) (hm:behindInMarks op b=false):PTD X (.Compare a [op] [b] pos) (fT (f2 g fa fb)) :=
 zz (wS ho ha hb hm) fun _ _ _ q=>wl (fun _ _ _ z=>xx hg z) q
theorem eO (ha:PTD X a ta):PTD X (.UnaryOp .Not a pos) (cC ta):=zz (yL ha) fun σ H Q ⟨δ,b,R,e,k⟩=>by
 unfold cC at e
 obtain ⟨c,ec,e⟩:=Zb.mp e
 exact ⟨δ,c,R,ec,fun H' s=>by have:=k H' s;rw [<- e] at this;exact this⟩
theorem PWD.pt (h:PWD X e ta):PTD X e ta:=h _
theorem gC (ha:PTD X a ta):PWD X (.BoolOp .And [a] pos) ta:=wQ ha
theorem gk (ha:PTD X a ta):PWD X (.BoolOp .Or [a] pos) ta:=yH ha
theorem iy (ha:PTD X a ta) (hb:PWD X (.BoolOp .And (b :: rest) pos) tb):PWD X (.BoolOp .And (a :: b :: rest) pos) (bt ta tb):=AQ (yI ha hb) fun σ H Q ⟨δ,c,R,e,k⟩=>by
 unfold bt at e
 obtain ⟨d,ed,e⟩:=Za.mp e
 refine ⟨δ,d,R,ed,fun H' s=>?_⟩
 cases d with
 | true=>exact ⟨δ,c,R.mono s,e,fun H2 s2=>k H2 (s.trans s2)⟩
 | false=>cases e;exact k H' s
theorem g6 (ha:PTD X a ta) (hb:PWD X (.BoolOp .Or (b :: rest) pos) tb):PWD X (.BoolOp .Or (a :: b :: rest) pos) (dY ta tb):=AQ (Au ha hb) fun σ H Q ⟨δ,c,R,e,k⟩=>by
 unfold dY at e
 obtain ⟨d,ed,e⟩:=Za.mp e
 refine ⟨δ,d,R,ed,fun H' s=>?_⟩
 cases d with
 | false=>exact ⟨δ,c,R.mono s,e,fun H2 s2=>k H2 (s.trans s2)⟩
 | true=>cases e;exact k H' s
def cj (f g:FD):FD:=fun δ=>(f δ).bind fun x=>match x with
 | .bl true=>g δ
 | .bl false=>some (.bl false)
 | _=>none
def nY (f g:FD):FD:=fun δ=>(f δ).bind fun x=>match x with
 | .bl true=>some (.bl true)
 | .bl false=>g δ
 | _=>none
def pF:D->Option D
 | .bl b=>some (.bl (!b))
 | _=>none
theorem dh {op} (h:PD X a f):PD X (.BoolOp op [a] pos) f:=yQ h
theorem eR (ha:PD X a fa) (hb:PD X (.BoolOp .And (b :: rest) pos) fb):PD X (.BoolOp .And (a :: b :: rest) pos) (cj fa fb):=imp (yV ha hb) fun σ H Q ⟨δ,d,R,e,k⟩=>by
 unfold cj at e
 obtain ⟨x,ex,e⟩:=Za.mp e
 refine ⟨δ,x,R,ex,fun v H1 s1 r1=>?_⟩
 cases r1 with
 | bl c =>
  refine ⟨c,rfl,?_⟩
  cases c with
  | true=>rw [if_pos rfl];exact ⟨δ,d,R.mono s1,e,fun w H2 s2=>k w H2 (s1.trans s2)⟩
  | false=>rw [if_neg Bool.false_ne_true];cases e;exact k _ H1 s1 (.bl false)
 | _=>cases e
theorem oy (ha:PD X a fa) (hb:PD X (.BoolOp .Or (b :: rest) pos) fb):PD X (.BoolOp .Or (a :: b :: rest) pos) (nY fa fb):=imp (Ay ha hb) fun σ H Q ⟨δ,d,R,e,k⟩=>by
 unfold nY at e
 obtain ⟨x,ex,e⟩:=Za.mp e
 refine ⟨δ,x,R,ex,fun v H1 s1 r1=>?_⟩
 cases r1 with
 | bl c =>
  refine ⟨c,rfl,?_⟩
  cases c with
  | true=>rw [if_pos rfl];cases e;exact k _ H1 s1 (.bl true)
  | false=>rw [if_neg Bool.false_ne_true];exact ⟨δ,d,R.mono s1,e,fun w H2 s2=>k w H2 (s1.trans s2)⟩
 | _=>cases e
theorem kW (ha:PD X a fa):PD X (.UnaryOp .Not a pos) (f1 pF fa):=imp (yR ha) fun σ H Q ⟨δ,d,R,e,k⟩=>by
 unfold f1 at e
 obtain ⟨x,ex,e⟩:=Za.mp e
 refine ⟨δ,x,R,ex,fun v H1 s1 r1=>?_⟩
 cases r1 with
 | bl c=>cases e;exact ⟨c,rfl,k _ H1 s1 (.bl _)⟩
 | _=>cases e
end
abbrev FA:=DS->Option (List D)
def upA (K:PySem.W.Frag) (n:Nat) (f:FA):TA:=fun σ H Q=>∃ δ ds,RepS K H σ δ/\f δ=some ds/\∀ vs H',Same H H'->Reps K H' vs ds->vs.length=n->Q vs H'
def PAD (X:Cx) (es:List Expr) (f:FA):Prop:=PA X es (upA X.K es.length f)
theorem xw {X:Cx} {es:List Expr} {t t':TA} (h:PA X es t) (w:∀ σ H Q,t' σ H Q->t σ H Q):PA X es t':=fun pos pins s σ H Q I q=>h pos pins s σ H Q I (w σ H Q q)
def af:FA:=fun _=>some []
def aa (f:FD) (g:FA):FA:=fun δ=>(f δ).bind fun x=>(g δ).bind fun xs=>some (x :: xs)
def bL (K:PySem.W.Frag) (n:Nat) (G:List D->Option D):Sp:=fun vs H Q _=>vs.length=n/\∃ ds d,Reps K H vs ds/\G ds=some d/\∀ v H',Same H H'->Rep K H' v d->Q v H'
def bU (g:FA):FD:=fun δ=>(g δ).bind fun ds=>some (.tup ds)
def fP (g:FA):FD:=fun δ=>(g δ).bind fun ds=>some (.lst ds)
def ah (G:List D->Option D) (g:FA):FD:=fun δ=>(g δ).bind G
section
variable {X:Cx} {e:Expr} {es:List Expr} {f:FD} {g:FA} {pos p:Pos}
theorem ag:PAD X [] af:=xw dW fun σ H Q ⟨δ,ds,R,e,k⟩=>by cases e;exact k [] H (Same.refl H) .nil rfl
theorem ae (ha:PD X e f) (hr:PAD X es g) (hs:starEach (e :: es) X.env=(false,eval e X.env) :: starEach es X.env:=by rfl):PAD X (e :: es) (aa f g):=xw (cA ha hr hs) fun σ H Q ⟨δ,ds,R,q,k⟩=>by
 unfold aa at q
 obtain ⟨x,ex,q⟩:=Za.mp q
 obtain ⟨xs,exs,q⟩:=Za.mp q
 cases q
 exact ⟨δ,x,R,ex,fun v H1 s1 r1=>⟨δ,xs,R.mono s1,exs,fun vs H2 s2 r2 l=>k (v :: vs) H2 (s1.trans s2) (.cons (r1.mono s2) r2) (congrArg (· + 1) l)⟩⟩
theorem cS {x1} (h:PAD X es g) (hz:es.length<=1000:=by decide):PD X (.Tuple es x1 pos) (bU g):=imp (vw h) fun σ H Q ⟨δ,d,R,q,k⟩=>by
 unfold bU at q
 obtain ⟨ds,eds,q⟩:=Za.mp q
 cases q
 refine ⟨δ,ds,R,eds,fun vs H1 s1 r1 l=>⟨dR (by rw [l];exact hz),fun p hp=>?_⟩⟩
 have s:=cN hp (.tup vs)
 exact k _ _ (s1.trans s) (.tup (SqT.of bx) (r1.mono s))
theorem jQ (h:PAD X es g) (hz:es.length<=1000:=by decide):PD X (.List es pos) (fP g):=imp (vy h) fun σ H Q ⟨δ,d,R,q,k⟩=>by
 unfold fP at q
 obtain ⟨ds,eds,q⟩:=Za.mp q
 cases q
 refine ⟨δ,ds,R,eds,fun vs H1 s1 r1 l=>⟨dR (by rw [l];exact hz),fun p hp=>?_⟩⟩
 have s:=cN hp (.lst vs)
 exact k _ _ (s1.trans s) (.lst bx (r1.mono s))
theorem xg {k n:Nat} {x:Str} {f:Addr} {fd:FuncData} {ps:List Str} {G:List D->Option D} (F:FnOk X.prog X.w X.K X.mg X.base CX0 k f fd ps (bL X.K n G)) (hr:Room k X.A) (hg:Gl X x) (hm:X.mg x=some (.ref f)) (hk:PySem.W.keepIn X.K (.ref f)=true) (hb:Binds X.K fd ps [])
 (ha:PAD X (e :: es) g) (hn:(e :: es).length=n:=by rfl) (hdb:(x == ("__debug__":Str))=false:=by decide) (he:starEach (e :: es) X.env=(false,eval e X.env) :: starEach es X.env:=by rfl) (hpl:(backTo pos (starEach es X.env)).any (·.1)=false:=by rfl) :
 PD X (.Call (.Name x p) (e :: es) [] pos) (ah G g):=imp (ma F hr hg hm hk hb .nil (sW) ha hdb he hpl) fun σ H Q ⟨δ,d,R,q,k⟩=>by
 unfold ah at q
 obtain ⟨ds,eds,q⟩:=Za.mp q
 refine ⟨δ,ds,R,eds,fun vs H1 s1 r1 l=>?_⟩
 show bL X.K n G (vs++[]) H1 Q E0
 rw [List.append_nil]
 exact ⟨l.trans hn,ds,d,r1,q,fun v H' s=>k v H' (s1.trans s)⟩
def kE (K:PySem.W.Frag) (r:List V->Hp->VK->Prop) (G:List D->Option D):Prop :=
 ∀ (xs:List V) (H:Hp) (Q:VK) (ds:List D) (d:D),Reps K H xs ds->G ds=some d->(∀ w H',Same H H'->Rep K H' w d->Q w H')->r xs H Q
theorem vU {r:List V->Hp->VK->Prop} {G:List D->Option D} {n:Nat} (hG:kE X.K r G) {σ:L2.St} {H:Hp} {Q:VK} (h:up X.K (ah G g) σ H Q):tCB r (upA X.K n g) σ H Q:=by
 obtain ⟨δ,d,R,q,k⟩:=h
 unfold ah at q
 obtain ⟨ds,eds,q⟩:=Za.mp q
 exact ⟨δ,ds,R,eds,fun vs H1 s1 r1 _=>hG vs H1 Q ds d r1 q fun w H' s=>k w H' (s1.trans s)⟩
theorem aE {id:String} {x:Str} {r:List V->Hp->VK->Prop} {G:List D->Option D} (hc:ij X (.builtin id) r) (hG:kE X.K r G) (hg:Gl X x) (hm:X.mg x=none) (hv:bootBuiltins x=some (.builtin id)) (ha:PAD X (e :: es) g) (hn:x ≠ "__name__":=by decide) (hdb:(x == ("__debug__":Str))=false:=by decide)
 (he:starEach (e :: es) X.env=(false,eval e X.env) :: starEach es X.env:=by rfl) (hpl:(backTo pos (starEach es X.env)).any (·.1)=false:=by rfl):PD X (.Call (.Name x p) (e :: es) [] pos) (ah G g) :=
 imp (qu hc hg hm hv ha hn hdb he hpl) fun _ _ _ h=>vU hG h
theorem ue {T:String} {x:Str} {r:List V->Hp->VK->Prop} {G:List D->Option D} (hc:ij X (.type T) r) (hG:kE X.K r G) (hg:Gl X x) (hm:X.mg x=none) (hv:bootBuiltins x=some (.type T)) (ha:PAD X (e :: es) g) (hn:x ≠ "__name__":=by decide) (hdb:(x == ("__debug__":Str))=false:=by decide)
 (he:starEach (e :: es) X.env=(false,eval e X.env) :: starEach es X.env:=by rfl) (hpl:(backTo pos (starEach es X.env)).any (·.1)=false:=by rfl):PD X (.Call (.Name x p) (e :: es) [] pos) (ah G g) :=
 imp (jn hc hg hm hv ha hn hdb he hpl) fun _ _ _ h=>vU hG h
end
theorem gQ {K:PySem.W.Frag} {H:Hp} {xs:List V} {d:D} (r:Reps K H xs [d]):∃ x,xs=[x]/\Rep K H x d:=by
 cases r with
 | cons a t=>cases t;exact ⟨_,rfl,a⟩
theorem xU {K:PySem.W.Frag} {H:Hp} {xs:List V} {d e:D} (r:Reps K H xs [d,e]):∃ x y,xs=[x,y]/\Rep K H x d/\Rep K H y e:=by
 cases r with
 | cons a t =>
  obtain ⟨y,h1,h2⟩:=gQ t
  subst h1
  exact ⟨_,y,rfl,a,h2⟩
def AV:List D->Option D
 | [.int i]=>some (.int (i.natAbs:Int))
 | _=>none
theorem zJ {K:PySem.W.Frag}:kE K (fun xs H Q=>∃ i,xs=[.int i]/\Q (.int (if i < 0 then -i else i)) H) AV:=by
 intro xs H Q ds d r e k
 unfold AV at e
 split at e
 . rename_i i
   cases e
   obtain ⟨x,rfl,rx⟩:=gQ r
   cases rx
   refine ⟨i,rfl,?_⟩
   have e:(if i < 0 then -i else i)=(i.natAbs:Int):=by split <;> omega
   rw [e]
   exact k _ H (Same.refl H) (.int _)
 . cases e
def rR:List D->Option D
 | [.int i]=>some (.int i)
 | [.bl b]=>some (.int (if b then 1 else 0))
 | _=>none
theorem zH {K:PySem.W.Frag}:kE K (fun xs H Q=>(∃ i,xs=[.int i]/\Q (.int i) H) \/ ∃ k,xs=[.bl k]/\Q (.int (if k then 1 else 0)) H) rR:=by
 intro xs H Q ds d r e k
 unfold rR at e
 split at e
 . rename_i i
   cases e
   obtain ⟨x,rfl,rx⟩:=gQ r
   cases rx
   exact .inl ⟨i,rfl,k _ H (Same.refl H) (.int _)⟩
 . rename_i b
   cases e
   obtain ⟨x,rfl,rx⟩:=gQ r
   cases rx
   exact .inr ⟨b,rfl,k _ H (Same.refl H) (.int _)⟩
 . cases e
def bP:List D->Option D
 | [.tup ds]=>some (.int ds.length)
 | [.lst ds]=>some (.int ds.length)
 | [.seq ds]=>some (.int ds.length)
 | _=>none
theorem bN {K:PySem.W.Frag}:kE K (fun xs H Q=>∃ p ys,xs=[.ref p]/\(SqL K H p ys \/ SqT K H p ys)/\Q (.int ys.length) H) bP:=by
 intro xs H Q ds d r e k
 unfold bP at e
 split at e
 . cases e
   obtain ⟨x,rfl,rx⟩:=gQ r
   cases rx with
   | @tup p vs _ hp rp=>exact ⟨p,vs,rfl,.inr hp,by rw [rp.length];exact k _ H (Same.refl H) (.int _)⟩
 . cases e
   obtain ⟨x,rfl,rx⟩:=gQ r
   cases rx with
   | @lst p vs _ hp rp=>exact ⟨p,vs,rfl,.inl (SqL.of hp),by rw [rp.length];exact k _ H (Same.refl H) (.int _)⟩
 . cases e
   obtain ⟨x,rfl,rx⟩:=gQ r
   cases rx with
   | @seq p vs _ hp rp=>exact ⟨p,vs,rfl,.inl hp,by rw [rp.length];exact k _ H (Same.refl H) (.int _)⟩
 . cases e
def Be:D->Option String
 | .non=>some "NoneType"
 | .bl _=>some "bool"
 | .int _=>some "int"
 | .str _=>some "str"
 | .tup _=>some "tuple"
 | .lst _=>some "list"
 | .seq _=>some "list"
 | .dct=>some "dict"
 | .ty _=>none
 | .exc _=>none
 | .cls _=>none
 | .ms _ _=>none
 | .mf _ _=>none
 | .md _ _=>none
def oM (n:String) (d:D) (b:Bool):Prop:=∃ t,Be d=some t/\∀ K:PySem.W.Frag,PySem.W.kitOne K (.type t) (.type n)=some b
def Al (K:PySem.W.Frag):List V->Hp->VK->Prop:=fun xs H Q=>∃ x n d b,xs=[x,.ty n]/\Rep K H x d/\oM n d b/\Q (.bl b) H
theorem eU {X:Cx}:ij X (.builtin "isinstance") (Al X.K):=by
 intro pins s σ H xs us Q I r h
 obtain ⟨x,n,d,b,rfl,rx,⟨t,ht,hk⟩,q⟩:=h
 obtain ⟨u,w',rfl,ru,rw'⟩:=zV r
 cases (show w'=Value.type n from rw')
 have e:=hk X.K
 have fin:∀ tk,EP X pins σ Q (.bool b) { s with toks:=tk }:=fun tk=>⟨.bl b,H,I.tok _,rfl,q⟩
 cases rx with
 | non=>cases ht;cases (show u=Value.none from ru);exact PySem.W.kia_one PySem.W.kitx_none I.kIn True.intro e (fun z=>nomatch z) fin
 | bl y=>cases ht;cases (show u=Value.bool y from ru);exact PySem.W.kia_one PySem.W.kitx_bool I.kIn True.intro e (fun z=>nomatch z) fin
 | int i=>cases ht;obtain ⟨t,z⟩:=(show ∃ t,u=Value.int i t from ru);cases z;exact PySem.W.kia_one PySem.W.kitx_int I.kIn True.intro e (fun z=>nomatch z) fin
 | str y=>cases ht;obtain ⟨t,z⟩:=(show ∃ t,u=Value.str y t from ru);cases z;exact PySem.W.kia_one PySem.W.kitx_str I.kIn True.intro e (fun z=>nomatch z) fin
 | ty n=>cases ht
 | exc h=>cases ht
 | cls C=>cases ht
 | ms h l r=>cases ht
 | mf h l r=>cases ht
 | md h l r=>cases ht
 | @dct a h =>
  cases ht
  cases (show u=Value.ref a from ru)
  exact PySem.W.kia_one PySem.W.kitx_dict I.kIn (I.hok a _ h).1 e (fun z=>nomatch z) fin
 | @tup a vs ds hp rp =>
  cases ht
  cases (show u=Value.ref a from ru)
  obtain ⟨its,_,⟨o,h1,h2,_⟩,_⟩:=I.tuple hp
  exact PySem.W.kia_one PySem.W.kitx_tuple I.kIn ⟨o,h1,h2⟩ e (fun z=>nomatch z) fin
 | @lst a vs ds hp rp =>
  cases ht
  cases (show u=Value.ref a from ru)
  obtain ⟨its,_,⟨o,n',h1,h2,_⟩,_⟩:=I.list (SqL.of (K:=X.K) hp)
  exact PySem.W.kia_one PySem.W.kitx_list I.kIn ⟨o,h1,h2⟩ e (fun z=>nomatch z) fin
 | @seq a vs ds hp rp =>
  cases ht
  cases (show u=Value.ref a from ru)
  obtain ⟨its,_,⟨o,n',h1,h2,_⟩,_⟩:=I.list hp
  exact PySem.W.kia_one PySem.W.kitx_list I.kIn ⟨o,h1,h2⟩ e (fun z=>nomatch z) fin
def isInt:D->Option Bool
 | .int _=>some true
 | .bl _=>some true
 | .ty _=>none
 | .exc _=>none
 | .cls _=>none
 | .ms _ _=>none
 | .mf _ _=>none
 | .md _ _=>none
 | _=>some false
def isBool:D->Option Bool
 | .bl _=>some true
 | .ty _=>none
 | .exc _=>none
 | .cls _=>none
 | .ms _ _=>none
 | .mf _ _=>none
 | .md _ _=>none
 | _=>some false
def isTup:D->Option Bool
 | .tup _=>some true
 | .ty _=>none
 | .exc _=>none
 | .cls _=>none
 | .ms _ _=>none
 | .mf _ _=>none
 | .md _ _=>none
 | _=>some false
def xC (n:String) (p:D->Option Bool):List D->Option D
 | [d,.ty m]=>if m=n then (p d).map D.bl else none
 | _=>none
theorem iD {K:PySem.W.Frag} {n:String} {p:D->Option Bool} (hp:∀ d b,p d=some b->oM n d b):kE K (Al K) (xC n p):=by
 intro xs H Q ds d r e k
 unfold xC at e
 split at e
 . rename_i x m
   by_cases hm:m=n
   . subst hm
     rw [if_pos rfl] at e
     obtain ⟨b,hb,e⟩:=Zb.mp e
     cases e
     obtain ⟨v,w,rfl,rv,rw'⟩:=xU r
     cases rw'
     exact ⟨v,m,x,b,rfl,rv,hp x b hb,k _ H (Same.refl H) (.bl b)⟩
   . rw [if_neg hm] at e;cases e
 . cases e
theorem pB (n:String) (K:PySem.W.Frag):PySem.W.kitOne K (.type n) (.type n)=some true:=by
 unfold PySem.W.kitOne
 rw [if_pos (beq_self_eq_true _)]
theorem qz (d:D) (b:Bool) (h:isInt d=some b):oM "int" d b:=by
 cases d <;> (first | cases h) <;> first
  | exact ⟨_,rfl,fun K=>pB _ K⟩
  | exact ⟨_,rfl,fun K=>by kernel_rfl⟩
theorem kZ (d:D) (b:Bool) (h:isBool d=some b):oM "bool" d b:=by
 cases d <;> (first | cases h) <;> first
  | exact ⟨_,rfl,fun K=>pB _ K⟩
  | exact ⟨_,rfl,fun K=>by kernel_rfl⟩
theorem vM (d:D) (b:Bool) (h:isTup d=some b):oM "tuple" d b:=by
 cases d <;> (first | cases h) <;> first
  | exact ⟨_,rfl,fun K=>pB _ K⟩
  | exact ⟨_,rfl,fun K=>by kernel_rfl⟩
def toV:D->Option V
 | .non=>some .non
 | .bl b=>some (.bl b)
 | .int i=>some (.int i)
 | .str x=>some (.str x)
 | _=>none
def cP (d:D):Bool:=(toV d).isSome
def eqF:D->D->Bool
 | .non,.non=>true
 | .bl a,.bl b=>a == b
 | .bl a,.int b=>(if a then 1 else 0) == b
 | .int a,.bl b=>a == (if b then 1 else 0)
 | .int a,.int b=>a == b
 | .str a,.str b=>a == b
 | _,_=>false
def nZ:List D->List D->Bool
 | [],[]=>true
 | a :: as,b :: bs=>eqF a b && nZ as bs
 | _,_=>false
theorem Rep.flat {K:PySem.W.Frag} {H:Hp} {v:V} {d:D} (r:Rep K H v d) (f:cP d=true):jB v=true/\toV d=some v:=by
 cases r <;> first | exact ⟨rfl,rfl⟩ | (exact absurd f (by decide)) | (exact absurd f Bool.false_ne_true)
theorem mv {a b:D} {x y:V} (ha:toV a=some x) (hb:toV b=some y):eqV x y=eqF a b:=by
 cases a <;> (first | cases ha) <;> cases b <;> (first | cases hb) <;> rfl
theorem nt:∀ (as bs:List D) (e:Nat->Bool),(∀ j a b,as[j]? = some a->bs[j]? = some b->e j=eqF a b)->((List.range (min as.length bs.length)).all e && as.length == bs.length)=nZ as bs
 | [],[],e,_=>rfl
 | [],b :: bs,e,_=>by simp [nZ]
 | a :: as,[],e,_=>by simp [nZ]
 | a :: as,b :: bs,e,h=>by
  have ih:=nt as bs (fun j=>e (j+1)) (fun j x y h1 h2=>h (j+1) x y (by simpa using h1) (by simpa using h2))
  have h0:e 0=eqF a b:=h 0 a b rfl rfl
  show ((List.range (min (as.length+1) (bs.length+1))).all e && (as.length+1) == (bs.length+1))=(eqF a b && nZ as bs)
  rw [<- ih,<- h0,show min (as.length+1) (bs.length+1)=min as.length bs.length+1 by omega,List.range_succ_eq_map,List.all_cons,List.all_map,Bool.and_assoc]
  have:((as.length+1) == (bs.length+1))=(as.length == bs.length):=by rw [Bool.eq_iff_iff];simp
  rw [this]
  rfl
def uq:D->D->Option Bool
 | .tup as,.tup bs=>if as.all cP && bs.all cP then some (nZ as bs) else none
 | .lst as,.lst bs=>if as.all cP && bs.all cP then some (nZ as bs) else none
 | .non,.tup _=>some false
 | .tup _,.non=>some false
 | .non,.lst _=>some false
 | .lst _,.non=>some false
 | a,b=>if cP a && cP b then some (eqF a b) else none
def gEq (a b:D):Option D:=(uq a b).map D.bl
def gNe (a b:D):Option D:=(uq a b).map fun c=>D.bl (!c)
section
variable {K:PySem.W.Frag} {H:Hp}
theorem kr {A:Around} {s:Shared} {vs ws:List V} {us zs:List Value} {as bs:List D} (r1:Vals vs us) (r2:Vals ws zs) (q1:Reps K H vs as) (q2:Reps K H ws bs) (g1:as.all cP=true) (g2:bs.all cP=true) :
 ∀ j (h1:j < us.toArray.size) (h2:j < zs.toArray.size),SeqAt.EqAt A s us.toArray[j] zs.toArray[j] (eqF (as.getD j .non) (bs.getD j .non)):=by
 intro j h1 h2
 have l1:=r1.length
 have l2:=r2.length
 rw [List.size_toArray] at h1 h2
 have k1:j < vs.length:=by omega
 have k2:j < ws.length:=by omega
 obtain ⟨u,e1,p1⟩:=r1.get (i:=j) (x:=vs[j]) (by simp [k1])
 obtain ⟨z,e2,p2⟩:=r2.get (i:=j) (x:=ws[j]) (by simp [k2])
 obtain ⟨a,e3,p3⟩:=q1.getV (i:=j) (v:=vs[j]) (by simp [k1])
 obtain ⟨b,e4,p4⟩:=q2.getV (i:=j) (v:=ws[j]) (by simp [k2])
 have f1:cP a=true:=List.all_eq_true.mp g1 a (List.mem_of_getElem? e3)
 have f2:cP b=true:=List.all_eq_true.mp g2 b (List.mem_of_getElem? e4)
 have w1:us.toArray[j]=u:=by
  have:us[j]? = some us[j]:=by simp [h1]
  rw [this] at e1
  simpa using e1
 have w2:zs.toArray[j]=z:=by
  have:zs[j]? = some zs[j]:=by simp [h2]
  rw [this] at e2
  simpa using e2
 rw [w1,w2,Zp,Zp,e3,e4]
 show SeqAt.EqAt A s u z (eqF a b)
 rw [<- mv (p3.flat f1).2 (p4.flat f2).2]
 exact rW p1 p2 (p3.flat f1).1 (p4.flat f2).1
theorem nK {as bs:List D}:((List.range (min as.length bs.length)).all (fun j=>eqF (as.getD j .non) (bs.getD j .non)) && as.length == bs.length)=nZ as bs :=
 nt as bs _ fun j a b h1 h2=>by
  show eqF (as.getD j .non) (bs.getD j .non)=eqF a b
  rw [Zp,Zp,h1,h2] <;> rfl
theorem sM {A:Around} {s:Shared} {x y:V} {u v:Value} {a b:D} (rx:RelV x u) (ry:RelV y v) (ra:Rep K H x a) (rb:Rep K H y b) (g1:cP a=true) (g2:cP b=true):SeqAt.RcAt A s u v (eqF a b)/\SeqAt.RcNeAt A s u v (!eqF a b):=by
 cases ra with
 | non =>
  cases (show u=Value.none from rx)
  cases rb with
  | non=>cases (show v=Value.none from ry);exact ⟨SeqAt.RcAt.none_none,SeqAt.RcNeAt.none_none⟩
  | bl c=>cases (show v=Value.bool c from ry);exact ⟨SeqAt.RcAt.none_bool c,SeqAt.RcNeAt.none_bool c⟩
  | int j=>obtain ⟨t,rfl⟩:=(show ∃ t,v=Value.int j t from ry);exact ⟨SeqAt.RcAt.none_int j t,SeqAt.RcNeAt.none_int j t⟩
  | str j=>obtain ⟨t,rfl⟩:=(show ∃ t,v=Value.str j t from ry);exact ⟨SeqAt.RcAt.none_str j t,SeqAt.RcNeAt.none_str j t⟩
  | _=>exact absurd g2 Bool.false_ne_true
 | bl i =>
  cases (show u=Value.bool i from rx)
  cases rb with
  | non=>cases (show v=Value.none from ry);exact ⟨SeqAt.RcAt.bool_none i,SeqAt.RcNeAt.bool_none i⟩
  | bl c=>cases (show v=Value.bool c from ry);exact ⟨SeqAt.RcAt.bool_bool i c,SeqAt.RcNeAt.bool_bool i c⟩
  | int j=>obtain ⟨t,rfl⟩:=(show ∃ t,v=Value.int j t from ry);exact ⟨SeqAt.RcAt.bool_int i j t,SeqAt.RcNeAt.bool_int i j t⟩
  | str j=>obtain ⟨t,rfl⟩:=(show ∃ t,v=Value.str j t from ry);exact ⟨SeqAt.RcAt.bool_str i j t,SeqAt.RcNeAt.bool_str i j t⟩
  | _=>exact absurd g2 Bool.false_ne_true
 | int i =>
  obtain ⟨t',rfl⟩:=(show ∃ t,u=Value.int i t from rx)
  cases rb with
  | non=>cases (show v=Value.none from ry);exact ⟨SeqAt.RcAt.int_none i t',SeqAt.RcNeAt.int_none i t'⟩
  | bl c=>cases (show v=Value.bool c from ry);exact ⟨SeqAt.RcAt.int_bool i t' c,SeqAt.RcNeAt.int_bool i t' c⟩
  | int j=>obtain ⟨t,rfl⟩:=(show ∃ t,v=Value.int j t from ry);exact ⟨SeqAt.RcAt.int_int i t' j t,SeqAt.RcNeAt.int_int i t' j t⟩
  | str j=>obtain ⟨t,rfl⟩:=(show ∃ t,v=Value.str j t from ry);exact ⟨SeqAt.RcAt.int_str i t' j t,SeqAt.RcNeAt.int_str i t' j t⟩
  | _=>exact absurd g2 Bool.false_ne_true
 | str i =>
  obtain ⟨t',rfl⟩:=(show ∃ t,u=Value.str i t from rx)
  cases rb with
  | non=>cases (show v=Value.none from ry);exact ⟨SeqAt.RcAt.str_none i t',SeqAt.RcNeAt.str_none i t'⟩
  | bl c=>cases (show v=Value.bool c from ry);exact ⟨SeqAt.RcAt.str_bool i t' c,SeqAt.RcNeAt.str_bool i t' c⟩
  | int j=>obtain ⟨t,rfl⟩:=(show ∃ t,v=Value.int j t from ry);exact ⟨SeqAt.RcAt.str_int i t' j t,SeqAt.RcNeAt.str_int i t' j t⟩
  | str j=>obtain ⟨t,rfl⟩:=(show ∃ t,v=Value.str j t from ry);exact ⟨SeqAt.RcAt.str_str i t' j t,SeqAt.RcNeAt.str_str i t' j t⟩
  | _=>exact absurd g2 Bool.false_ne_true
 | _=>exact absurd g1 Bool.false_ne_true
end
theorem Af {X:Cx} {pins:List (Addr×Obj)} {σ:L2.St} {H:Hp} {s:Shared} (I:Inv X pins σ H s) (hu:X.A.units < cLine) {x y:V} {u v:Value} {a b:D} {c:Bool} (rx:RelV x u) (ry:RelV y v) (ra:Rep X.K H x a) (rb:Rep X.K H y b) (e:uq a b=some c) :
 SeqAt.RcAt X.A s u v c/\SeqAt.RcNeAt X.A s u v (!c):=by
 unfold uq at e
 split at e
 . -- two tuples
   rename_i as bs
   cases ra with
   | @tup p vs _ hp rp =>
    cases rb with
    | @tup q ws _ hq rq =>
     split at e
     . rename_i hf
       cases e
       rw [Bool.and_eq_true] at hf
       cases (show u=Value.ref p from rx)
       cases (show v=Value.ref q from ry)
       obtain ⟨its,r1,t1,_⟩:=I.tuple hp
       obtain ⟨jts,r2,t2,_⟩:=I.tuple hq
       have l1:its.toArray.size=as.length:=by rw [List.size_toArray,<- r1.length,rp.length]
       have l2:jts.toArray.size=bs.length:=by rw [List.size_toArray,<- r2.length,rq.length]
       have h1:=SeqAt.RcAt.tuples (A:=X.A) (s:=s) t1 t2 hu (kr r1 r2 rp rq hf.1 hf.2)
       have h2:=SeqAt.RcNeAt.tuples (A:=X.A) (s:=s) t1 t2 hu (kr r1 r2 rp rq hf.1 hf.2)
       rw [l1,l2,nK] at h1 h2
       exact ⟨h1,h2⟩
     . cases e
 . -- two lists
   rename_i as bs
   cases ra with
   | @lst p vs _ hp rp =>
    cases rb with
    | @lst q ws _ hq rq =>
     split at e
     . rename_i hf
       cases e
       rw [Bool.and_eq_true] at hf
       cases (show u=Value.ref p from rx)
       cases (show v=Value.ref q from ry)
       obtain ⟨its,r1,t1,_⟩:=I.list (SqL.of (K:=X.K) hp)
       obtain ⟨jts,r2,t2,_⟩:=I.list (SqL.of (K:=X.K) hq)
       have l1:its.toArray.size=as.length:=by rw [List.size_toArray,<- r1.length,rp.length]
       have l2:jts.toArray.size=bs.length:=by rw [List.size_toArray,<- r2.length,rq.length]
       by_cases hl:its.toArray.size=jts.toArray.size
       . have h1:=SeqAt.RcAt.lists (A:=X.A) (s:=s) t1.isList t2.isList hl hu (kr r1 r2 rp rq hf.1 hf.2)
         have h2:=SeqAt.RcNeAt.lists (A:=X.A) (s:=s) t1.isList t2.isList hl hu (kr r1 r2 rp rq hf.1 hf.2)
         have h3:(List.range its.toArray.size).all (fun j=>eqF (as.getD j .non) (bs.getD j .non))=nZ as bs:=by
          rw [<- nK,l1,show min as.length bs.length=as.length by omega,show (as.length == bs.length)=true by rw [beq_iff_eq];omega,Bool.and_true]
         rw [h3] at h1 h2
         exact ⟨h1,h2⟩
       . have h1:=SeqAt.RcAt.lists_lengths (A:=X.A) (s:=s) t1.isList t2.isList (by simpa [bne_iff_ne] using hl) hu
         have h2:=SeqAt.RcNeAt.lists_lengths (A:=X.A) (s:=s) t1.isList t2.isList (by simpa [bne_iff_ne] using hl) hu
         have h3:nZ as bs=false:=by
          rw [<- nK,show (as.length == bs.length)=false by rw [beq_eq_false_iff_ne];omega,Bool.and_false]
         rw [h3]
         exact ⟨h1,h2⟩
     . cases e
 . cases e
   cases ra
   cases rb with
   | @tup q ws bs hq rq =>
    cases (show u=Value.none from rx)
    cases (show v=Value.ref q from ry)
    obtain ⟨its,r1,t1,_⟩:=I.tuple hq
    exact ⟨SeqAt.RcAt.none_tuple t1 hu,SeqAt.RcNeAt.none_tuple t1 hu⟩
 . cases e
   cases rb
   cases ra with
   | @tup q ws bs hq rq =>
    cases (show v=Value.none from ry)
    cases (show u=Value.ref q from rx)
    obtain ⟨its,r1,t1,_⟩:=I.tuple hq
    exact ⟨SeqAt.RcAt.tuple_none t1 hu,SeqAt.RcNeAt.tuple_none t1 hu⟩
 . cases e
   cases ra
   cases rb with
   | @lst q ws bs hq rq =>
    cases (show u=Value.none from rx)
    cases (show v=Value.ref q from ry)
    obtain ⟨its,r1,t1,_⟩:=I.list (SqL.of (K:=X.K) hq)
    exact ⟨SeqAt.RcAt.none_list t1.isList hu,SeqAt.RcNeAt.none_list t1.isList hu⟩
 . cases e
   cases rb
   cases ra with
   | @lst q ws bs hq rq =>
    cases (show v=Value.none from ry)
    cases (show u=Value.ref q from rx)
    obtain ⟨its,r1,t1,_⟩:=I.list (SqL.of (K:=X.K) hq)
    exact ⟨SeqAt.RcAt.list_none t1.isList hu,SeqAt.RcNeAt.list_none t1.isList hu⟩
 . split at e
   . rename_i hf
     cases e
     rw [Bool.and_eq_true] at hf
     exact sM rx ry ra rb hf.1 hf.2
   . cases e
def An (K:PySem.W.Frag):R2:=fun x y H Q=>∃ a b c,Rep K H x a/\Rep K H y b/\uq a b=some c/\Q (.bl c) H
def Aj (K:PySem.W.Frag):R2:=fun x y H Q=>∃ a b c,Rep K H x a/\Rep K H y b/\uq a b=some c/\Q (.bl (!c)) H
theorem vK {X:Cx} (hu:X.A.units < cLine):OpR X (compareOp .Eq) (An X.K):=by
 intro pins s σ H x y v u Q I rx ry h
 obtain ⟨a,b,c,ra,rb,e,q⟩:=h
 exact (Af I hu rx ry ra rb e).1 X.prog X.w _ _ ⟨.bl c,H,I,rfl,q⟩
theorem zc {X:Cx} (hu:X.A.units < cLine):OpR X (compareOp .NotEq) (Aj X.K):=by
 intro pins s σ H x y v u Q I rx ry h
 obtain ⟨a,b,c,ra,rb,e,q⟩:=h
 exact (Af I hu rx ry ra rb e).2 X.prog X.w _ _ ⟨.bl (!c),H,I,rfl,q⟩
theorem xV {K:PySem.W.Frag}:R2D K (An K) gEq:=by
 intro x y H Q a b d ra rb e k
 unfold gEq at e
 obtain ⟨c,hc,e⟩:=Zb.mp e
 cases e
 exact ⟨a,b,c,ra,rb,hc,k _ H (Same.refl H) (.bl _)⟩
theorem Aq {K:PySem.W.Frag}:R2D K (Aj K) gNe:=by
 intro x y H Q a b d ra rb e k
 unfold gNe at e
 obtain ⟨c,hc,e⟩:=Zb.mp e
 cases e
 exact ⟨a,b,c,ra,rb,hc,k _ H (Same.refl H) (.bl _)⟩
section
variable {X:Cx} {a b e:Expr} {fa fb f:FD} {pos:Pos}
theorem xZ (hu:X.A.units < cLine) (ha:PD X a fa) (hb:PD X b fb):PD X (.Compare a [.Eq] [b] pos) (f2 gEq fa fb):=jS (vK hu) xV ha hb (dX _)
theorem vf (hu:X.A.units < cLine) (ha:PD X a fa) (hb:PD X b fb):PTD X (.Compare a [.Eq] [b] pos) (fT (f2 gEq fa fb)):=gm (vK hu) xV ha hb (dX _)
theorem vd (hu:X.A.units < cLine) (ha:PD X a fa) (hb:PD X b fb):PTD X (.Compare a [.NotEq] [b] pos) (fT (f2 gNe fa fb)):=gm (zc hu) Aq ha hb (dX _)
abbrev gLt:D->D->Option D:=gI0 fun i j=>.bl (decide (i < j))
abbrev gGt:D->D->Option D:=gI0 fun i j=>.bl (decide (j < i))
theorem qv (ha:PD X a fa) (hb:PD X b fb):PD X (.Compare a [.Lt] [b] pos) (f2 gLt fa fb):=jS vF (oq fun _ _ _=>.bl _) ha hb (dX _)
theorem xY (ha:PD X a fa) (hb:PD X b fb):PD X (.Compare a [.Gt] [b] pos) (f2 gGt fa fb):=jS x4 (oq fun _ _ _=>.bl _) ha hb (dX _)
theorem kS (ha:PD X a fa) (hb:PD X b fb):PTD X (.Compare a [.Lt] [b] pos) (fT (f2 gLt fa fb)):=gm vF (oq fun _ _ _=>.bl _) ha hb (dX _)
theorem ve (ha:PD X a fa) (hb:PD X b fb):PTD X (.Compare a [.Gt] [b] pos) (fT (f2 gGt fa fb)):=gm x4 (oq fun _ _ _=>.bl _) ha hb (dX _)
def cY:D->Bool
 | .non=>true
 | _=>false
def fu (a b:D):Option D:=match b with
 | .non=>some (.bl (cY a))
 | _=>none
def cp (a b:D):Option D:=match b with
 | .non=>some (.bl (!cY a))
 | _=>none
theorem qI {K:PySem.W.Frag} {H:Hp} {x:V} {a:D} (r:Rep K H x a):decide (x=.non)=cY a:=by
 cases r <;> rfl
theorem uZ {K:PySem.W.Frag}:R2D K (fun x y H Q=>y=.non/\Q (.bl (decide (x=.non))) H) fu:=by
 intro x y H Q a b d ra rb e k
 cases rb with
 | non=>cases e;exact ⟨rfl,by rw [qI ra];exact k _ H (Same.refl H) (.bl _)⟩
 | _=>cases e
theorem sQ {K:PySem.W.Frag}:R2D K (fun x y H Q=>y=.non/\Q (.bl (!decide (x=.non))) H) cp:=by
 intro x y H Q a b d ra rb e k
 cases rb with
 | non=>cases e;exact ⟨rfl,by rw [qI ra];exact k _ H (Same.refl H) (.bl _)⟩
 | _=>cases e
theorem yY (ha:PD X a fa) (hb:PD X b fb):PD X (.Compare a [.Is] [b] pos) (f2 fu fa fb):=jS vG uZ ha hb (dX _)
theorem xf (ha:PD X a fa) (hb:PD X b fb):PD X (.Compare a [.IsNot] [b] pos) (f2 cp fa fb):=jS sY sQ ha hb (dX _)
theorem dQ (ha:PD X a fa) (hb:PD X b fb):PTD X (.Compare a [.Is] [b] pos) (fT (f2 fu fa fb)):=gm vG uZ ha hb (dX _)
theorem ig (ha:PD X a fa) (hb:PD X b fb):PTD X (.Compare a [.IsNot] [b] pos) (fT (f2 cp fa fb)):=gm sY sQ ha hb (dX _)
end
inductive Res where
 | nx (δ:DS)
 | rt (d:D)
 | bk (δ:DS)
 | ct (δ:DS)
 | ex (C:Addr) (δ:DS)
 | mk (C:Addr) (δ:DS)
abbrev SD:=DS->Option Res
def RP (X:Cx) (E:nP) (H:Hp):Res->Prop
 | .nx δ=>∀ σ' H',Same H H'->RepS X.K H' σ' δ->E.nx σ' H'
 | .rt d=>∀ v H',Same H H'->Rep X.K H' v d->E.rt v H'
 | .bk δ=>∀ σ' H',Same H H'->RepS X.K H' σ' δ->E.bk σ' H'
 | .ct δ=>∀ σ' H',Same H H'->RepS X.K H' σ' δ->E.ct σ' H'
 | .ex C δ=>∀ σ' H',Same H H'->RepS X.K H' σ' δ->A7 X C σ' H'
 | .mk C δ=>∀ σ' H',Same H H'->RepS X.K H' σ' δ->yk X C σ' H'
theorem RP.mono {X:Cx} {E:nP} {H H1:Hp} {r:Res} (s:Same H H1) (h:RP X E H r):RP X E H1 r:=by
 cases r with
 | nx δ=>exact fun σ' H' s2 R=>h σ' H' (s.trans s2) R
 | rt d=>exact fun v H' s2 R=>h v H' (s.trans s2) R
 | bk δ=>exact fun σ' H' s2 R=>h σ' H' (s.trans s2) R
 | ct δ=>exact fun σ' H' s2 R=>h σ' H' (s.trans s2) R
 | ex C δ=>exact fun σ' H' s2 R=>h σ' H' (s.trans s2) R
 | mk C δ=>exact fun σ' H' s2 R=>h σ' H' (s.trans s2) R
def upS (X:Cx) (s:SD):TS:=fun E σ H=>∃ δ r,RepS X.K H σ δ/\s δ=some r/\RP X E H r
def PSD (X:Cx) (st:Stmt) (s:SD):Prop:=PS X st (upS X s)
def pZ (X:Cx) (sts:List Stmt) (s:SD):Prop:=PSs X sts (upS X s)
theorem fV {X:Cx} {st:Stmt} {t t':TS} (h:PS X st t) (w:∀ E σ H,t' E σ H->t E σ H):PS X st t':=fun pins s σ H E I q=>h pins s σ H E I (w E σ H q)
theorem oB {X:Cx} {st:List Stmt} {t t':TS} (h:PSs X st t) (w:∀ E σ H,t' E σ H->t E σ H):PSs X st t':=fun pins s σ H E I q=>h pins s σ H E I (w E σ H q)
def ba:SD:=fun δ=>some (.nx δ)
def df (u:SD):Res->Option Res
 | .nx δ=>u δ
 | r=>some r
def ax (s u:SD):SD:=fun δ=>(s δ).bind (df u)
def fg (f:FD):SD:=fun δ=>(f δ).bind fun d=>some (.rt d)
def mK (i:Nat) (f:FD):SD:=fun δ=>(f δ).bind fun d=>some (.nx (δ.set i (some d)))
def sIf (c:FT) (s u:SD):SD:=fun δ=>(c δ).bind fun b=>match b with
 | true=>s δ
 | false=>u δ
def yx:SD:=fun _=>none
section
variable {X:Cx} {st:Stmt} {rest:List Stmt} {s u:SD} {e:Expr} {f:FD} {c:FT} {pos:Pos}
theorem cL:pZ X [] ba:=oB pd fun E σ H ⟨δ,r,R,e,k⟩=>by cases e;exact k σ H (Same.refl H) R
theorem bh (h1:PSD X st s) (h2:pZ X rest u):pZ X (st :: rest) (ax s u):=oB (mR h1 h2) fun E σ H ⟨δ,r,R,e,k⟩=>by
 unfold ax at e
 obtain ⟨r1,e1,e⟩:=Za.mp e
 refine ⟨δ,r1,R,e1,?_⟩
 cases r1 with
 | nx δ'=>exact fun σ' H' s1 R1=>⟨δ',r,R1,e,k.mono s1⟩
 | rt d=>cases e;exact k
 | bk d=>cases e;exact k
 | ct d=>cases e;exact k
 | ex C d=>cases e;exact k
 | mk C d=>cases e;exact k
theorem aU (h:PSD X st s):pZ X [st] s:=pc h
theorem bf (he:PD X e f):PSD X (.Return (some e) pos) (fg f):=fV (rG he) fun E σ H ⟨δ,r,R,q,k⟩=>by
 unfold fg at q
 obtain ⟨d,ed,q⟩:=Za.mp q
 cases q
 exact ⟨δ,d,R,ed,k⟩
theorem gn (i:Nat) {x:Str} {pos':Pos} (hN:X.N.Nodup) (he:PD X e f) (hi:X.N[i]? = some x:=by rfl) (hx:Loc X.env.scope x:=by first | exact Or.inl rfl | exact Or.inr rfl) (hs:swapsWith e (some (.Name x pos')) pos.line X.env=pure false:=by rfl) (hf:X.fn x=true \/ X.env.scope.names.lookup x=some .local:=by first | exact .inl rfl | exact .inr rfl | assumption) :
 PSD X (.Assign [.Name x pos'] e pos) (mK i f):=fV (rF hN hi hx he hs hf) fun E σ H ⟨δ,r,R,q,k⟩=>by
 unfold mK at q
 obtain ⟨d,ed,q⟩:=Za.mp q
 cases q
 exact ⟨δ,d,R,ed,fun v H' s1 r1=>k (σ.set i (some v)) H' s1 ((R.mono s1).set i r1)⟩
theorem dF {cx:Expr} {a b:List Stmt} (hc:PTD X cx c) (ha:pZ X a s) (hb:pZ X b u):PSD X (.If cx a b pos) (sIf c s u):=fV (vi hc ha hb) fun E σ H ⟨δ,r,R,q,k⟩=>by
 unfold sIf at q
 obtain ⟨d,ed,q⟩:=Za.mp q
 refine ⟨δ,d,R,ed,fun H' s1=>?_⟩
 cases d with
 | true=>rw [if_pos rfl];exact ⟨δ,r,R.mono s1,q,k.mono s1⟩
 | false=>rw [if_neg Bool.false_ne_true];exact ⟨δ,r,R.mono s1,q,k.mono s1⟩
theorem ou:PSD X st yx:=fV vh fun E σ H ⟨δ,r,R,e,k⟩=>by cases e
def wK (i j:Nat) (g:FA):SD:=fun δ=>(g δ).bind fun ds=>match ds with
 | [a,b]=>some (.nx ((δ.set i (some a)).set j (some b)))
 | _=>none
theorem wU (i j:Nat) {x y:Str} {a b:Expr} {g:FA} {px py pt:Pos} {kt k2 pt2} (hc:X.calm=true) (hN:X.N.Nodup) (ha:PAD X [a,b] g) (hi:X.N[i]? = some x:=by rfl) (hj:X.N[j]? = some y:=by rfl) (hij:i ≠ j:=by decide)
 (hx:X.env.scope.names.lookup x=some .local:=by rfl) (hy:X.env.scope.names.lookup y=some .local:=by rfl)
 (hw:swappedStores [.Tuple [.Name x px,.Name y py] kt pt] (.Tuple [a,b] k2 pt2) X.env=pure (some [x,y]):=by rfl)
 (hs:swapsWithSole [.Tuple [.Name x px,.Name y py] kt pt] (.Tuple [a,b] k2 pt2) pos.line X.env=pure false:=by rfl) :
 PSD X (.Assign [.Tuple [.Name x px,.Name y py] kt pt] (.Tuple [a,b] k2 pt2) pos) (wK i j g):=fV (yM hc hN hi hj hij hx hy ha hw hs) fun E σ H ⟨δ,r,R,q,k⟩=>by
 unfold wK at q
 obtain ⟨ds,ed,q⟩:=Za.mp q
 split at q
 . rename_i d1 d2
   cases q
   refine ⟨δ,_,R,ed,fun vs H' s1 r1 _=>?_⟩
   obtain ⟨v,w,rfl,rv,rw'⟩:=xU r1
   exact ⟨v,w,rfl,k _ H' s1 (((R.mono s1).set i rv).set j rw')⟩
 . cases q
end
def gz:Nat->FT->SD->SD
 | 0,_,_=>fun _=>none
 | n+1,c,s=>fun δ=>(c δ).bind fun b=>match b with
  | true=>(s δ).bind fun r=>match r with
   | .nx δ'=>gz n c s δ'
   | .ct δ'=>gz n c s δ'
   | .bk δ'=>some (.nx δ')
   | .rt d=>some (.rt d)
   | .ex C δ'=>some (.ex C δ')
   | .mk C δ'=>some (.mk C δ')
  | false=>some (.nx δ)
theorem ot {X:Cx} {cx:Expr} {body:List Stmt} {c:FT} {s:SD} {pos:Pos} (n:Nat) (hp:PassesOwn (model X.prog X.w) X.A X.env X.xe) (hc:PTD X cx c) (hb:pZ X body s):PSD X (.While cx body [] pos) (gz n c s):=fV (vg hp hc hb) fun E σ H ⟨δ,r,R,e,k⟩=>by
 refine ⟨fun m σ H=>∃ δ r,RepS X.K H σ δ/\gz m c s δ=some r/\RP X E H r,⟨n,δ,r,R,e,k⟩,?_⟩
 rintro m σ H ⟨δ,r,R,e,k⟩
 cases m with
 | zero=>exact absurd e (by intro z;cases z)
 | succ m =>
  obtain ⟨b,eb,e⟩:=Za.mp (show ((c δ).bind _)=some r from e)
  refine ⟨δ,b,R,eb,fun H1 s1=>?_⟩
  cases b with
  | true =>
   rw [if_pos rfl]
   obtain ⟨r1,e1,e⟩:=Za.mp (show ((s δ).bind _)=some r from e)
   refine ⟨fun σ' H'=>∃ m',m' < m+1/\∃ δ r,RepS X.K H' σ' δ/\gz m' c s δ=some r/\RP X E H' r,fun _ _ z=>z,⟨δ,r1,R.mono s1,e1,?_⟩⟩
   cases r1 with
   | nx δ'=>exact fun σ' H' s2 R2=>⟨m,Nat.lt_succ_self m,δ',r,R2,e,k.mono (s1.trans s2)⟩
   | ct δ'=>exact fun σ' H' s2 R2=>⟨m,Nat.lt_succ_self m,δ',r,R2,e,k.mono (s1.trans s2)⟩
   | bk δ'=>cases e;exact fun σ' H' s2 R2=>k σ' H' (s1.trans s2) R2
   | rt d=>cases e;exact fun v H' s2 R2=>k v H' (s1.trans s2) R2
   | ex C δ'=>cases e;exact fun σ' H' s2 R2=>k σ' H' (s1.trans s2) R2
   | mk C δ'=>cases e;exact fun σ' H' s2 R2=>k σ' H' (s1.trans s2) R2
  | false =>
   rw [if_neg Bool.false_ne_true]
   cases e
   exact k σ H1 s1 (R.mono s1)
def ItD (K:PySem.W.Frag) (J:It) (H1:Hp) (ds:List D):Prop:=∀ i H2,Same H1 H2 ->
 (i < ds.length->J.go i H2/\∀ x H',J.yld i H2 x H'->Same H2 H'/\∃ d,ds[i]? = some d/\Rep K H' x d)/\(ds.length<=i->J.stop i H2)
def upI (K:PySem.W.Frag) (src:FA):TI:=fun σ H R=>∃ δ ds,RepS K H σ δ/\src δ=some ds/\∀ J H1,Same H H1->ItD K J H1 ds->R J H1
def PID (X:Cx) (tg iter:Expr) (src:FA):Prop:=PI X tg iter (upI X.K src)
theorem rQ {X:Cx} {tg iter:Expr} {t t':TI} (h:PI X tg iter t) (w:∀ σ H R,t' σ H R->t σ H R):PI X tg iter t':=fun pins s σ H R I q=>h pins s σ H R I (w σ H R q)
def asL:D->Option (List D)
 | .lst ds=>some ds
 | .seq ds=>some ds
 | _=>none
theorem tt {K:PySem.W.Frag} {H1:Hp} {a:Addr} {vs:List V} {ds:List D} (hq:SqL K H1 a vs) (r:Reps K H1 vs ds):ItD K (Itl K a) H1 ds:=by
 intro i H2 s
 have hq2:=s.seq hq
 have r2:=r.mono s
 have hl:=r2.length
 refine ⟨fun hi=>⟨⟨vs,vs[i],hq2,by simp [show i < vs.length by omega]⟩,fun x H' y=>?_⟩,fun hi=>⟨vs,hq2,by omega⟩⟩
 obtain ⟨e,y⟩:=y
 subst e
 obtain ⟨d,h1,h2⟩:=r2.getV (y vs hq2)
 exact ⟨Same.refl _,d,h1,h2⟩
theorem eQ {X:Cx} {tg l:Expr} {f:FD} (hl:PD X l f):PID X tg l (fun δ=>(f δ).bind asL):=rQ (l9 hl) fun σ H R ⟨δ,ds,R0,e,k⟩=>by
 obtain ⟨d,ed,e⟩:=Za.mp e
 refine ⟨δ,d,R0,ed,fun v H1 s1 r1=>?_⟩
 cases r1 with
 | @lst p vs es hp rp=>cases e;exact ⟨p,rfl,⟨vs,SqL.of hp⟩,k _ H1 s1 (tt (SqL.of hp) rp)⟩
 | @seq p vs es hp rp=>cases e;exact ⟨p,rfl,⟨vs,hp⟩,k _ H1 s1 (tt hp rp)⟩
 | _=>cases e
def upG (K:PySem.W.Frag) (g:D->DS->Option DS):TG:=fun v σ H Q=>∃ d δ δ',Rep K H v d/\RepS K H σ δ/\g d δ=some δ'/\∀ σ',RepS K H σ' δ'->Q σ' H
def PGD (X:Cx) (tg:Expr) (g:D->DS->Option DS):Prop:=PG X tg (upG X.K g)
def aL:Option Res->Option D
 | some (.rt d)=>some d
 | some (.nx _)=>some .non
 | _=>none
def start (n:Nat) (ds:List D):DS:=ds.map some++List.replicate (n - ds.length) none
section
variable {P:Program} {w:World} {K:PySem.W.Frag} {mg:Str->Option Value} {base:Heap}
theorem cy {x qual:Str} {st:Stmt} {f:Addr} {fd:FuncData} {N ps:List Str} {k:Nat} {G:List D->Option D} (F:Fun K x qual st f fd) (S:aG N ps (am st))
 (hbody:∀ (cdv:Value) (A:Around) (outer:List Env) (s:Shared) (H:Hp) (E:XK) (ds:List D) (d:D),Room k (A.deeper (envOfC qual (am st) s.heap.objs.size f cdv))->G ds=some d->ds.length=ps.length ->
  ∃ t,pZ (lV CX0 P w K mg base N qual (am st) f cdv A outer s H E).nox (bK st) t/\aL (t (start N.length ds))=some d):FnOk P w K mg base CX0 (k+1) f fd ps (bL K ps.length G):=by
 refine F.ok S (fun vs H Q E h=>h.1) (fun cdv A outer s H vs Q E hr h=>?_)
 obtain ⟨hl,ds,d,r,e,q⟩:=h
 obtain ⟨t,ht,hq⟩:=hbody cdv A outer s H E ds d hr e (r.length.symm.trans hl)
 refine ⟨_,ht,start N.length ds,?_⟩
 cases z:t (start N.length ds) with
 | none=>rw [z] at hq;cases hq
 | some res =>
  rw [z] at hq
  refine ⟨res,RepS.start r,rfl,?_⟩
  cases res with
  | rt d'=>cases hq;exact q
  | nx δ=>cases hq;exact fun σ' H' s1 _=>q _ H' s1 .non
  | bk δ=>cases hq
  | ct δ=>cases hq
  | ex C δ=>cases hq
  | mk C δ=>cases hq
structure Has (P:Program) (w:World) (K:PySem.W.Frag) (mg:Str->Option Value) (base:Heap) (k:Nat) (x:Str) (ps:List Str) (G:List D->Option D):Prop where
 ex:∃ f fd,FnOk P w K mg base CX0 k f fd ps (bL K ps.length G)/\mg x=some (.ref f)/\PySem.W.keepIn K (.ref f)=true/\Binds K fd ps []
end
theorem aD {X:Cx} {e:Expr} {es:List Expr} {g:FA} {pos p:Pos} {k j:Nat} {x:Str} {ps:List Str} {G:List D->Option D} (F:Has X.prog X.w X.K X.mg X.base k x ps G) (hr:Room j X.A) (ha:PAD X (e :: es) g) (hk:k<=j:=by decide) (hg:Gl X x:=by rfl)
 (hn:(e :: es).length=ps.length:=by rfl) (hdb:(x == ("__debug__":Str))=false:=by decide) (he:starEach (e :: es) X.env=(false,eval e X.env) :: starEach es X.env:=by rfl) (hpl:(backTo pos (starEach es X.env)).any (·.1)=false:=by rfl) :
 PD X (.Call (.Name x p) (e :: es) [] pos) (ah G g):=by
 obtain ⟨f,fd,F,hm,kp,hb⟩:=F.ex
 exact xg F (hr.mono hk) hg hm kp hb ha hn hdb he hpl
end Dl
namespace Dl
open PySem PySem.Spec PyProof.Rows L2
def spLaw (K:PySem.W.Frag):Sp:=fun vs H Q _=>∃ (a:Addr) (ns:List Int),vs=[.ref a]/\SqL K H a (ns.map V.int)/\ns.length<=63/\∀ H',Q (.bl true) H'
end Dl
namespace Dl
noncomputable def fn (S:List D->D->Prop):List D->Option D:=fun ds=>by
 classical exact if h:∃ d,S ds d then some h.choose else none
theorem bo {S:List D->D->Prop} {ds:List D} {d:D} (h:fn S ds=some d):S ds d:=by
 unfold fn at h
 split at h
 . rename_i q
   have e:=Option.some.inj h
   rw [<- e]
   exact q.choose_spec
 . cases h
theorem cq {S:List D->D->Prop} {ds:List D} {d:D} (u:∀ d',S ds d'->d'=d) (h:S ds d):fn S ds=some d:=by
 unfold fn
 have q:∃ d,S ds d:=⟨d,h⟩
 rw [dif_pos q]
 exact congrArg some (u _ q.choose_spec)
theorem tG (a b:Int):gNe (.int a) (.int b)=some (.bl (!(a == b))):=rfl
theorem dC (a b:Int):gEq (.int a) (.int b)=some (.bl (a == b)):=rfl
theorem bS (a b:Int):bv (.int a) (.int b)=some (.int (a+b)):=rfl
theorem aq {C:Int->Int->Prop} [∀ i j,Decidable (C i j)] {g:Int->Int->D} {i j:Int} (h:C i j):gI C g (.int i) (.int j)=some (g i j):=if_pos h
end Dl
namespace Dl
theorem lc (n:String) (p:D->Option Bool) (d:D):xC n p [d,.ty n]=(p d).map D.bl:=if_pos rfl
theorem du (a b:D):gIx (.tup [a,b]) (.int 0)=some a:=rfl
theorem eT (a b:D):gIx (.tup [a,b]) (.int 1)=some b:=rfl
theorem qK (ds:List D):bP [.seq ds]=some (.int ds.length):=rfl
theorem qj {n:Nat} {c:FT} {s:SD} {δ δ':DS} (hc:c δ=some true) (hs:s δ=some (.nx δ')):gz (n+1) c s δ=gz n c s δ':=by
 simp only [gz,hc,hs,Zc]
theorem yi {x y:Int} (h0:0<=x) (h:x<=y) (hy:Bd y):Bd x:=Nat.lt_of_le_of_lt (show x.natAbs<=y.natAbs by omega) hy
end Dl
namespace Dl
open PySem PySem.Spec PyProof.Rows L2
abbrev FO:=DS->Option (Option Int)
def faN:FO:=fun _=>some none
def asI:D->Option (Option Int)
 | .int i=>some (some i)
 | _=>none
def faS (f:FD):FO:=fun δ=>(f δ).bind asI
def wL (n d:Nat):Option Int->Nat
 | none=>d
 | some v=>if v < 0 then (v+(n:Int)).toNat else min v.toNat n
def cutD (ds:List D) (lo hi:Option Int):List D:=(ds.drop (wL ds.length 0 lo)).take (wL ds.length ds.length hi - wL ds.length 0 lo)
def fSl (f:FD) (lo hi:FO):FD:=fun δ=>(f δ).bind fun d=>(asL d).bind fun ds=>(lo δ).bind fun l=>(hi δ).bind fun h=>some (.lst (cutD ds l h))
def dfl (G:List D->Option D) (dv:List Int):List D->Option D:=fun ds=>G (ds++dv.map D.int)
def lQ (g:D->Option D):List D->Option (List D)
 | []=>some []
 | d :: ds=>(g d).bind fun x=>(lQ g ds).bind fun xs=>some (x :: xs)
def bF (js:List Nat) (δ:DS):DS:=js.map fun j=>match δ[j]? with
 | some o=>o
 | none=>none
def kB (src:FA) (js:List Nat) (elt:FD):FD:=fun δ=>(src δ).bind fun ds=>(lQ (fun d=>elt (some d :: bF js δ)) ds).bind fun xs=>if xs.length<=1000 then some (.lst xs) else none
def eM (a b c:Int):List D:=(List.range ((b - a+c - 1) / c).toNat).map fun i=>.int (a+(i:Nat)*c)
def asR:List D->Option (List D)
 | [.int b]=>if -(2 ^ 62)<=b/\b < 2 ^ 62 then some (eM 0 b 1) else none
 | [.int a,.int b]=>if -(2 ^ 62)<=a/\a < 2 ^ 62/\-(2 ^ 62)<=b/\b < 2 ^ 62 then some (eM a b 1) else none
 | [.int a,.int b,.int c]=>if -(2 ^ 62)<=a/\a < 2 ^ 62/\-(2 ^ 62)<=b/\b < 2 ^ 62/\c=2 then some (eM a b c) else none
 | _=>none
def mF (g:FA):FA:=fun δ=>(g δ).bind asR
end Dl
namespace Dl
theorem uu (ns:List Int) (lo hi:Option Int):∃ ms:List Int,cutD (ns.map D.int) lo hi=ms.map D.int:=by
 unfold cutD
 exact ⟨_,by rw [<- List.map_drop,<- List.map_take]⟩
end Dl
namespace Dl
open PySem PySem.Spec PyProof.Rows L2
structure FunD (K:PySem.W.Frag) (x qual:Str) (st:Stmt) (f:Addr) (fd:FuncData) (dV:Value):Prop where
 ex:∃ (oc:Value) (od:Option Addr) (kV doc pm:Value) (an:Option Addr) (cdv ct:Value) (osl:Array (Option Value)),
  fd=PySem.W.fnOf x qual (cV st) (bK st) (am st) dV kV doc pm an cdv ct/\K.lookup f=some ⟨oc,od,.func fd,osl⟩/\PySem.W.codeIn K cdv qual=true
 kp:PySem.W.keepIn K (.ref f)=true
section
variable {P:Program} {w:World} {K:PySem.W.Frag} {mg:Str->Option Value} {base:Heap}
theorem vc {x qual:Str} {st:Stmt} {f:Addr} {fd:FuncData} {dV:Value} {N ps:List Str} {k:Nat} {G:List D->Option D} (F:FunD K x qual st f fd dV) (S:aG N ps (am st))
 (hbody:∀ (cdv:Value) (A:Around) (outer:List Env) (s:Shared) (H:Hp) (E:XK) (ds:List D) (d:D),Room k (A.deeper (envOfC qual (am st) s.heap.objs.size f cdv))->G ds=some d->ds.length=ps.length ->
  ∃ t,pZ (lV CX0 P w K mg base N qual (am st) f cdv A outer s H E).nox (bK st) t/\aL (t (start N.length ds))=some d):FnOk P w K mg base CX0 (k+1) f fd ps (bL K ps.length G):=by
 obtain ⟨oc,od,kV,doc,pm,an,cdv,ct,osl,rfl,lk,hcd⟩:=F.ex
 refine yh lk hcd S (fun vs H Q E h=>h.1) fun A outer s H vs Q E hr hsp=>?_
 obtain ⟨hl,ds,d,r,e,q⟩:=hsp
 obtain ⟨t,ht,hq⟩:=hbody cdv A outer s H E ds d hr e (r.length.symm.trans hl)
 refine ⟨_,ht.nox,start N.length ds,?_⟩
 cases z:t (start N.length ds) with
 | none=>rw [z] at hq;cases hq
 | some res =>
  rw [z] at hq
  refine ⟨res,RepS.start r,rfl,?_⟩
  cases res with
  | rt d'=>cases hq;exact q
  | nx δ=>cases hq;exact fun σ' H' s1 _=>q _ H' s1 .non
  | bk δ=>cases hq
  | ct δ=>cases hq
  | ex C δ=>cases hq
  | mk C δ=>cases hq
theorem FunD.binds {x qual:Str} {st:Stmt} {f T:Addr} {fd:FuncData} {ps:List Str} {o:Obj} {items:Array Value} {n:Nat} {ds:List Value} (F:FunD K x qual st f fd (.ref T)) (ho:K.lookup T=some o) (hs:o.data=.seq items n)
 (h:∀ (kV doc pm:Value) (an:Option Addr) (cdv ct:Value) (us:List Value),(us++ds).length=ps.length->∃ k,bindArgs (PySem.W.fnOf x qual (cV st) (bK st) (am st) (.ref T) kV doc pm an cdv ct) ⟨us,[]⟩=seqItems? (.ref T) >>= k/\k (some items)=pure (ps.zip (us++ds))):Binds K fd ps ds:=by
 obtain ⟨oc,od,kV,doc,pm,an,cdv,ct,osl,rfl,lk,hcd⟩:=F.ex
 intro s us KI hl
 obtain ⟨k,h1,h2⟩:=h kV doc pm an cdv ct us hl
 exact PySem.W.binds_K KI rfl ho hs h1 h2
theorem xD {x qual:Str} {st:Stmt} {f:Addr} {oc dV:Value} {od an:Option Addr} {osl:Array (Option Value)} {kV doc pm cdv ct:Value} (l:K.lookup f=some ⟨oc,od,.func (PySem.W.fnOf x qual (cV st) (bK st) (am st) dV kV doc pm an cdv ct),osl⟩)
 (c:PySem.W.codeIn K cdv qual=true) (k:PySem.W.keepIn K (.ref f)=true):FunD K x qual st f (PySem.W.fnOf x qual (cV st) (bK st) (am st) dV kV doc pm an cdv ct) dV:=⟨⟨oc,od,kV,doc,pm,an,cdv,ct,osl,rfl,l,c⟩,k⟩
structure wn (P:Program) (w:World) (K:PySem.W.Frag) (mg:Str->Option Value) (base:Heap) (k:Nat) (x:Str) (ps:List Str) (dv:List Int) (G:List D->Option D):Prop where
 ex:∃ f fd ds,FnOk P w K mg base CX0 k f fd ps (bL K ps.length G)/\mg x=some (.ref f)/\PySem.W.keepIn K (.ref f)=true/\Vals (dv.map V.int) ds/\Binds K fd ps ds
end
theorem mU {X:Cx} {e:Expr} {es:List Expr} {g:FA} {pos p:Pos} {k j:Nat} {x:Str} {ps:List Str} {dv:List Int} {G:List D->Option D} (F:wn X.prog X.w X.K X.mg X.base k x ps dv G) (hr:Room j X.A) (ha:PAD X (e :: es) g) (hk:k<=j:=by decide) (hg:Gl X x:=by rfl)
 (hn:(e :: es).length+dv.length=ps.length:=by rfl) (hdb:(x == ("__debug__":Str))=false:=by decide) (he:starEach (e :: es) X.env=(false,eval e X.env) :: starEach es X.env:=by rfl) (hpl:(backTo pos (starEach es X.env)).any (·.1)=false:=by rfl) :
 PD X (.Call (.Name x p) (e :: es) [] pos) (ah (dfl G dv) g):=by
 obtain ⟨f,fd,ds,F,hm,kp,hv,hb⟩:=F.ex
 refine imp (ma F (hr.mono hk) hg hm kp hb hv sW ha hdb he hpl) fun σ H Q ⟨δ,d,R,q,k⟩=>?_
 unfold ah at q
 obtain ⟨ds,eds,q⟩:=Za.mp q
 refine ⟨δ,ds,R,eds,fun vs H1 s1 r1 l=>?_⟩
 exact ⟨by rw [Zh,l,Zi];exact hn,ds++dv.map D.int,d,r1.append (Reps.ints dv),q,fun v H' s=>k v H' (s1.trans s)⟩
def upO (K:PySem.W.Frag) (f:FO):TO:=fun σ H Q=>∃ δ o,RepS K H σ δ/\f δ=some o/\∀ H',Same H H'->Q o H'
def POD (X:Cx) (e:Option Expr) (f:FO):Prop:=PO X e (upO X.K f)
theorem sJ (n d:Nat) (o:Option Int):wL n d o=HT.sIx n d o:=by cases o <;> rfl
theorem we {K:PySem.W.Frag} {H:Hp} {vs:List V} {ds:List D} (r:Reps K H vs ds) (lo hi:Option Int):Reps K H (ut vs lo hi) (cutD ds lo hi):=by
 unfold ut cutD
 rw [r.length,sJ,sJ]
 exact (r.drop _).take _
section
variable {X:Cx} {e:Expr} {f:FD} {lo hi:Option Expr} {fl fh:FO} {pos p2:Pos}
theorem vn:POD X none faN:=fun pins s σ H Q I ⟨δ,o,R,q,k⟩=>wW pins s σ H Q I (by cases q;exact k H (Same.refl H))
theorem vk (h:PD X e f):POD X (some e) (faS f):=fun pins s σ H Q I ⟨δ,o,R,q,k⟩=>wV h pins s σ H Q I (by
 unfold faS at q
 obtain ⟨d,ed,q⟩:=Za.mp q
 refine ⟨δ,d,R,ed,fun v H1 s1 r1=>?_⟩
 cases r1 with
 | int i=>cases q;exact ⟨i,rfl,k H1 s1⟩
 | _=>cases q)
end
section
variable {prog:Program} {w:World} {A:Around} {E:Value->Shared->Prop}
end
theorem rC {K:PySem.W.Frag} {H:Hp} {lo:Int} {n:Nat}:ItD K (Itr lo n) H ((List.range n).map fun (i:Nat)=>D.int (lo+(i:Int)*1)):=by
 intro i H2 s
 refine ⟨fun hi=>?_,fun hi=>(show n<=i by simpa using hi)⟩
 have hi':i < n:=by simpa using hi
 refine ⟨hi',fun x H' y=>?_⟩
 obtain ⟨e,y⟩:=y
 subst e y
 refine ⟨Same.refl _,.int (lo+(i:Int)*1),?_,by rw [Int.mul_one];exact .int _⟩
 rw [List.getElem?_map,List.getElem?_range hi']
 rfl
theorem iz {X:Cx} {tg a:Expr} {g:FA} {p pos:Pos} (hg:Gl X "range") (hm:X.mg "range" = none) (ha:PAD X [a] g) (hs:starEach [a] X.env=[(false,eval a X.env)]:=by rfl):PID X tg (.Call (.Name "range" p) [a] [] pos) (mF g) :=
 rQ (ox hg hm ha hs) fun σ H R ⟨δ,ds,R0,e,k⟩=>by
 unfold mF at e
 obtain ⟨xs,exs,e⟩:=Za.mp e
 refine ⟨δ,xs,R0,exs,fun vs H1 s1 r1 l=>?_⟩
 match xs,r1,e with
 | [.int b],r1,e =>
  obtain ⟨v,rfl,rv⟩:=gQ r1
  cases rv
  have e':(if -(2 ^ 62)<=b/\b < 2 ^ 62 then some (eM 0 b 1) else none)=some ds:=e
  by_cases hb:-(2 ^ 62)<=b/\b < 2 ^ 62
  . rw [if_pos hb] at e'
    have e2:eM 0 b 1=ds:=Option.some.inj e'
    refine ⟨b,rfl,hb.1,hb.2,k _ H1 s1 ?_⟩
    have h:=rC (K:=X.K) (H:=H1) (lo:=0) (n:=b.toNat)
    have e3:((b - 0+1 - 1) / 1).toNat=b.toNat:=by congr 1;omega
    unfold eM at e2
    rw [e3] at e2
    rw [<- e2]
    exact h
  . rw [if_neg hb] at e';cases e'
 | [],r1,e=>cases r1;cases l
 | _ :: _ :: _,r1,e=>
  have:=r1.length
  rw [l] at this
  cases this
 | [.non],r1,e=>cases e
 | [.bl _],r1,e=>cases e
 | [.str _],r1,e=>cases e
 | [.tup _],r1,e=>cases e
 | [.lst _],r1,e=>cases e
 | [.seq _],r1,e=>cases e
 | [.ty _],r1,e=>cases e
 | [.dct],r1,e=>cases e
 | [.exc _],r1,e=>cases e
 | [.cls _],r1,e=>cases e
 | [.ms _ _],r1,e=>cases e
 | [.mf _ _],r1,e=>cases e
 | [.md _ _],r1,e=>cases e
end Dl
namespace Dl
open PySem PySem.Spec PyProof.Rows L2
structure CompOk (X:Cx) (scope:Scope) (cl:List (Str×Addr)) (x:Str) (N:List Str) (js:List Nat):Prop where
 clos:closureFor scope X.env=pure cl
 nocell:∀ y∈scope.names,y.2 ≠ .cell
 kind:scope.kind=.function
 names:∀ y∈scope.names,y.2=.local->scope.names.lookup y.1=some .local
 hx:scope.names.lookup x=some .local
 nd:N.Nodup
 h0:N[0]? = some x
 len:N.length=js.length+1
 clx:cl.lookup x=none
 cls:∀ y c,cl.lookup y=some c->X.env.cells.lookup y=some c
 has:∀ y,((relabel scope X.env).names.lookup y=some .cell \/ (relabel scope X.env).names.lookup y=some .free)->∃ c,cl.lookup y=some c
 fr:∀ i y j,N[i+1]? = some y->js[i]? = some j->X.N[j]? = some y/\X.env.scope.names.lookup y=some .cell/\(relabel scope X.env).names.lookup y=some .cell/\∀ c,X.env.cells.lookup y=some c->cl.lookup y=some c
abbrev cG (X:Cx) (scope:Scope) (cl:List (Str×Addr)) (x:Str) (N:List Str) (C:Addr) (s₂:Shared) (H₂:Hp) (fp:List Addr) (pn:List (Addr×Obj)):Cx :=
 { X with env:=compEnvC scope cl C X.env,N:=N,s₀:=s₂,H₀:=H₂,outer:=X.stack,stack:=X.stack,ex:=fp,fn:=fun y=>y == x,calm:=true,pn:=pn,xe:=fun _ _=>False }
section
variable {X:Cx} {pins:List (Addr×Obj)} {σ:L2.St} {H₂:Hp} {s₂:Shared} {scope:Scope} {cl:List (Str×Addr)} {x:Str} {N:List Str} {js:List Nat} {C:Addr} {fp:List Addr}
theorem uv (I:L2.Inv X pins σ H₂ s₂) (hcm:X.calm=true) (O:CompOk X scope cl x N js) (hC:s₂.heap.objs.size<=C) (hf:∀ b∈fp,iP X pins H₂ b) (ho:∀ b∈fp,∃ o,s₂.heap.get? b=some o):(cG X scope cl x N C s₂ H₂ fp (X.pn++pins)).Ok where
 mod:=I.ok.mod
 kind:=O.kind
 glob:=I.ok.glob
 blt:=I.ok.blt
 above:=hC
 inj:=fun y z c h1 h2=>I.ok.inj y z c (O.cls y c h1) (O.cls z c h2)
 has:=fun y h=>O.has y h
 cab:=fun y c h1 h2=>by
  have e:y=x:=by simpa using h1
  subst e
  have:cl.lookup y=some c:=h2
  rw [O.clx] at this
  cases this
 hd:=fun _=>I.ok.hd hcm
 frames:=I.ok.frames
 stk:=.inl rfl
 exf:=fun b hb=>by
  obtain ⟨o,e⟩:=ho b hb
  refine ⟨Nat.ne_of_lt (Nat.lt_of_lt_of_le (Heap.lt_size e) hC),fun y c h z=>?_⟩
  exact (hf b hb).2.2.2.2.1 y c (O.cls y c h) z
 bs:=I.bs
 bsz:=Nat.le_trans I.ok.bsz I.sz
 noex:=fun b o e hb=>by
  rcases (hf b hb).2.2.2.1 with z | z
  . exact I.ok.noex b o e z
  . exact absurd (Nat.lt_of_lt_of_le (Heap.lt_size e) (Nat.le_trans I.ok.bsz z)) (Nat.lt_irrefl _)
 exfs:=fun b hb z=>by
  rcases Zo.mp (I.stkSub b z) with e | e
  . exact (hf b hb).2.1 e
  . exact (hf b hb).2.2.1 e
 funs:=I.stack
 frf:=I.stkFree
end
theorem ng {g:D->Option D}:∀ {ds xs:List D},lQ g ds=some xs->xs.length=ds.length/\∀ (i:Nat) d,ds[i]? = some d->∃ e,g d=some e/\xs[i]? = some e
 | [],xs,h=>by
  cases h
  exact ⟨rfl,fun i d e=>by simp at e⟩
 | d :: ds,xs,h=>by
  obtain ⟨x,ex,h⟩:=Za.mp (show ((g d).bind _)=some xs from h)
  obtain ⟨ys,ey,h⟩:=Za.mp h
  cases h
  obtain ⟨h1,h2⟩:=ng ey
  refine ⟨by simp [h1],fun i e he=>?_⟩
  cases i with
  | zero=>simp at he;subst he;exact ⟨x,ex,rfl⟩
  | succ i =>
   obtain ⟨z,hz1,hz2⟩:=h2 i e (by simpa using he)
   exact ⟨z,hz1,by simpa using hz2⟩
def dE (js:List Nat) (σ:L2.St):L2.St:=js.map fun j=>match σ[j]? with
 | some o=>o
 | none=>none
theorem kL {K:PySem.W.Frag} {H:Hp} {σ:L2.St} {δ:DS} (R:RepS K H σ δ) (js:List Nat):RepS K H (none :: dE js σ) (none :: bF js δ):=by
 refine ⟨by simp [dE,bF],fun i d q=>?_⟩
 cases i with
 | zero=>simp at q
 | succ i =>
  have q':(bF js δ)[i]? = some (some d):=by simpa using q
  unfold bF at q'
  rw [List.getElem?_map] at q'
  obtain ⟨j,h1,h2⟩:=Zb.mp q'
  cases h3:δ[j]? with
  | none=>rw [h3] at h2;cases h2
  | some o =>
   rw [h3] at h2
   have h2':o=some d:=h2
   subst h2'
   obtain ⟨v,h4,h5⟩:=R.val j d h3
   refine ⟨v,?_,h5⟩
   show (dE js σ)[i]? = some (some v)
   unfold dE
   rw [List.getElem?_map,h1]
   show some (match σ[j]? with | some o=>o | none=>none)=some (some v)
   rw [h4]
theorem bindF {α β:Type} {M:Model} {A:Around} {m:Sem α} {f:α->Sem β} {Q:α->Shared->Prop} {R:β->Shared->Prop} {E:Value->Shared->Prop} {s:Shared} (h:wpAny M A m Q (fun _ _=>False) s) (k:∀ a s',Q a s'->wpAny M A (f a) R E s'):wpAny M A (m>>=f) R E s:=wpAny_bind (wpAny_mono h k fun _ _=>False.elim)
theorem kC {prog:Program} {w:World} {A:Around} {R:Result->Shared->Prop} {s:Shared} {elt target iter:Expr} {scope:Scope} {pos:Pos} {it acc:Value} {env:Env} (J:Nat->Shared->Prop)
 (turn:∀ n s,J n s->wpAny (model prog w) A (pyNext it) (fun r s₁=>match r with
  | none=>R (.ok .next) s₁
  | some v=>wpAny (model prog w) A (letOwnedTupleGo target it v) (fun _ s₂=>wpAny (model prog w) A (assign target env v) (fun _ s₃=>wpAny (model prog w) A (eval elt env) (fun y s₄ =>
   wpAny (model prog w) A (call (.builtin "list.append") [acc,y]) (fun _ s₅=>∃ m,m < n/\J m s₅) (fun _ _=>False) s₄) (fun _ _=>False) s₃) (fun _ _=>False) s₂) (fun _ _=>False) s₁) (fun _ _=>False) s)
 (n:Nat) (h:J n s):codeAny (model prog w) A (.compLoop (.ListComp elt [⟨target,iter,[],0⟩] scope pos) 0 it acc env) R s:=by
 refine codeAny_loop rfl J (fun n s j=>wpAny_noted (m:=compTurn (.ListComp elt [⟨target,iter,[],0⟩] scope pos) 0 it acc env) (compTurn_list1 elt target iter scope pos it acc env▸wpAny_bind (wpAny_standAt (bindF (turn n s j) fun r _ q=>?_)))) n h
 cases r with
 | none=>exact wpAny_pure q
 | some v=>
  exact bindF q fun _ _ q=>bindF q fun _ _ q=>wpAny_bind (bindF q fun _ _ q=>bindF q fun _ _ q=>wpAny_pure (wpAny_pure ⟨rfl,q⟩))
section
variable {X:Cx} {pins:List (Addr×Obj)} {σ:L2.St} {H₂:Hp} {s₂:Shared} {scope:Scope} {cl:List (Str×Addr)} {x:Str} {N:List Str} {js:List Nat} {C:Addr} {fp:List Addr}
theorem iZ (I:L2.Inv X pins σ H₂ s₂) {a:Addr} (h:s₂.heap.objs.size<=a):a ∉ frs X.stack:=fun z=>by
 rcases Zo.mp (I.stkSub a z) with e | e
 . exact absurd (Nat.lt_of_lt_of_le I.lt (by rw [<- e];exact h)) (Nat.lt_irrefl _)
 . exact I.nofs h e
theorem nF {h₁:Heap} {m:Str->Option Value} {tk:Nat} (I:L2.Inv X pins σ H₂ s₂) (hcm:X.calm=true) (O:CompOk X scope cl x N js) (hC:s₂.heap.objs.size<=C) (hf:∀ b∈fp,iP X pins H₂ b) (ho:∀ b∈fp,∃ o,s₂.heap.get? b=some o)
 (old:∀ b o,s₂.heap.get? b=some o->h₁.get? b=some o) (hns:h₁.Ns C m) (hl:σ.length=X.N.length):L2.Inv (cG X scope cl x N C s₂ H₂ fp (X.pn++pins)) [] (none :: dE js σ) H₂ { s₂ with heap:=h₁,toks:=tk } where
 ok:=uv I hcm O hC hf ho
 os:=rfl
 bare:=I.bare
 base:=Un.kept old
 loc:=by
  refine ⟨m,hns,fun i y v h1 h2 h3=>?_⟩
  cases i with
  | zero=>simp at h2
  | succ i =>
   have h2':(dE js σ)[i]? = some (some v):=by simpa using h2
   unfold dE at h2'
   rw [List.getElem?_map] at h2'
   obtain ⟨j,hj,h4⟩:=Zb.mp h2'
   have h5:σ[j]? = some (some v):=by
    cases q:σ[j]? with
    | none=>rw [q] at h4;cases h4
    | some o=>rw [q] at h4;exact congrArg some h4
   obtain ⟨f1,f2,f3,f4⟩:=O.fr i y j h1 hj
   obtain ⟨m',hn',hl'⟩:=I.loc
   obtain ⟨u,ru,lk⟩:=hl' j y v f1 h5 (.inr (.inl f2))
   refine ⟨u,ru,?_⟩
   rcases lk with ⟨k1,_⟩ | ⟨_,c,hc,o,hco,hcd⟩
   . have:X.env.scope.names.lookup y=some .local:=k1
     rw [f2] at this
     cases this
   . exact .inr ⟨.inl f3,c,f4 c hc,o,old c o hco,hcd⟩
 cell:=fun y c e=>by
  obtain ⟨v,o,h1,h2⟩:=I.cell y c (O.cls y c e)
  exact ⟨v,o,old c o h1,h2⟩
 free:=I.hok.fresh hC
 freeC:=fun y c e=>I.freeC y c (O.cls y c e)
 pin:=fun p hp=>by
  have hp':p∈X.pn++pins:=by simpa using hp
  obtain ⟨h1,h2,h3,h4,h5⟩:=I.pin p hp'
  refine ⟨old _ _ h1,h2,Nat.ne_of_lt (Nat.lt_of_lt_of_le (Heap.lt_size h1) hC),fun z=>?_,h5⟩
  rcases Zo.mp (I.stkSub p.1 z) with e | e
  . exact h3 e
  . exact h4 e
 hok:=I.hok.kept old
 len:=by
  show (none :: dE js σ).length=N.length
  rw [O.len]
  simp [dE]
theorem rZ {elt iter:Expr} {px pos:Pos} {it:Addr} {tn:Nat->Heap->Prop} {J:It} {ds xs:List D} {δ:DS} {felt:FD} {RR:Value->Addr->Result->Shared->Prop} {E:Value->Shared->Prop} (I:L2.Inv X pins σ H₂ s₂) (hcm:X.calm=true) (O:CompOk X scope cl x N js)
 (T:sd X.prog X.w X.K (.Name x px) J fp it tn) (st:tn 0 s₂.heap) (hf:∀ b∈fp,iP X pins H₂ b) (itd:ItD X.K J H₂ ds) (R:RepS X.K H₂ σ δ) (he:∀ C s₂ H₂ fp pn,PD (cG X scope cl x N C s₂ H₂ fp pn) elt felt)
 (hm:lQ (fun d=>felt (some d :: bF js δ)) ds=some xs) (hz:xs.length<=1000)
 (hRR:∀ (D C:Addr) (s':Shared) (Hend:Hp) (vs:List V),s₂.heap.objs.size<=C->L2.Inv X pins σ Hend s'->Same H₂ Hend->Hend D=some (.lst vs)->Reps X.K Hend vs xs->(∃ m,s'.heap.Ns C m)->Hend C=none->RR (.ref D) C (.ok .next) s') :
 wpAny (model X.prog X.w) X.A (newList []) (fun acc s₃=>wpAny (model X.prog X.w) X.A (newFunctionEnv scope X.env.globals cl [] X.env.qual none .none (some X.env)) (fun cenv s₄ =>
  codeAny (model X.prog X.w) X.A (.compStart (.ListComp elt [⟨.Name x px,iter,[],0⟩] scope pos) 0 (.ref it) acc { cenv with scope:=relabel scope X.env }) (RR acc cenv.locals) s₄) E s₃) E s₂:=by
 obtain ⟨ml,mg'⟩:=ng hm
 have objs:=T.obj 0 s₂.heap st
 have objs':∀ b∈fp,∃ o,s₂.heap.get? b=some o:=fun b hb=>let ⟨o,h,_⟩:=objs b hb;⟨o,h⟩
 refine wpAny_newObj_type (wpAny_newFunctionEnv O.nocell (by intro y hy;simp at hy) (fun h₁ hns₁ hsb₁=>?_) O.kind)
 dsimp only at hns₁ hsb₁ ⊢
 generalize hP:s₂.heap.push { cls:=.type "list",dict:=none,data:=.seq ([]:List Value).toArray }=P2 at hns₁ hsb₁ ⊢
 have hC:P2.objs.size=s₂.heap.objs.size+1:=by rw [<- hP,Heap.size_push]
 generalize hCC:P2.objs.size=C at *
 have hCle:s₂.heap.objs.size<=C:=by omega
 have hDle:s₂.heap.objs.size<=s₂.heap.objs.size:=by omega
 have hDC:s₂.heap.objs.size ≠ C:=by omega
 have old:∀ b o,s₂.heap.get? b=some o->h₁.get? b=some o:=fun b o e=>by
  refine hsb₁.extBut b o (Nat.ne_of_lt (Nat.lt_of_lt_of_le (Heap.lt_size e) hCle)) (Heap.get?_push_of_some _ ?_)
  rw [<- hP]
  exact Heap.get?_push_of_some _ e
 have hacc:h₁.get? s₂.heap.objs.size=some { cls:=.type "list",data:=.seq ([]:List Value).toArray }:=by
  refine hsb₁.extBut s₂.heap.objs.size _ hDC (Heap.get?_push_of_some _ ?_)
  rw [<- hP]
  exact Heap.get?_push_size _ rfl
 have I0:=fun tk=>nF (C:=C) (tk:=tk) I hcm O hCle hf objs' old hns₁ I.len
 have dstk:s₂.heap.objs.size ∉ frs X.stack:=iZ I hDle
 have fne:∀ b∈fp,b ≠ s₂.heap.objs.size:=fun b hb e=>by
  obtain ⟨o,h⟩:=objs' b hb
  exact absurd (Heap.lt_size h) (by rw [e];exact Nat.lt_irrefl _)
 have cne:∀ y c,cl.lookup y=some c->c ≠ s₂.heap.objs.size:=fun y c e z=>by
  obtain ⟨v,o,h1,_⟩:=I.cell y c (O.cls y c e)
  exact absurd (Heap.lt_size h1) (by rw [z];exact Nat.lt_irrefl _)
 have pne:∀ p∈X.pn++pins,p.1 ≠ s₂.heap.objs.size:=fun p hp e=>by
  exact absurd (Heap.lt_size (I.pin p hp).1) (by rw [e];exact Nat.lt_irrefl _)
 have stat:∀ {H':Hp} {pl:List (Addr×Obj)},(∀ b∈fp,H' b=none)->(∀ p∈pl,∀ b∈fp,p.1 ≠ b)->∀ b∈fp,iP (cG X scope cl x N C s₂ H₂ fp (X.pn++pins)) pl H' b:=fun {H' pl} hn hpl b hb=>by
  obtain ⟨o,h⟩:=objs' b hb
  refine ⟨hn b hb,Nat.ne_of_lt (Nat.lt_of_lt_of_le (Heap.lt_size h) hCle),fun z=>?_,.inl hb,fun y c e=>(hf b hb).2.2.2.2.1 y c (O.cls y c e),fun p hp=>?_⟩
  . rcases Zo.mp (I.stkSub b z) with e | e
    . exact (hf b hb).2.1 e
    . exact (hf b hb).2.2.1 e
  . rcases Zn.mp hp with q | q
    . exact (hf b hb).2.2.2.2.2 p q
    . exact hpl p q b hb
 have loop:∀ s₃:Shared,s₃={ s₂ with heap:=h₁,toks:=s₂.toks+([]:List (Str×Value)).length } ->
  codeAny (model X.prog X.w) X.A (.compLoop (.ListComp elt [⟨.Name x px,iter,[],0⟩] scope pos) 0 (.ref it) (.ref s₂.heap.objs.size) (compEnvC scope cl C X.env)) (RR (.ref s₂.heap.objs.size) C) s₃:=by
  rintro s₃ rfl
  refine kC (fun n s=>∃ (i:Nat) (σ':L2.St) (H':Hp) (vs:List V) (o:Option D),n=ds.length - i/\i<=ds.length/\L2.Inv (cG X scope cl x N C s₂ H₂ fp (X.pn++pins)) [] σ' H' s/\Same H₂ H'/\RepS X.K H' σ' (o :: bF js δ)/\tn i s.heap/\(∀ b∈fp,H' b=none) /\
   (∃ (its:List Value) (k:Nat),Vals vs its/\s.heap.get? s₂.heap.objs.size=some { cls:=.type "list",data:=.seq its.toArray k })/\H' s₂.heap.objs.size=none/\Reps X.K H' vs (xs.take i)/\vs.length=i) ?_ ds.length
   ⟨0,_,H₂,[],none,rfl,Nat.zero_le _,I0 _,Same.refl _,kL R js,T.keep 0 _ _ st (fun b hb o e=>old b o e),fun b hb=>(hf b hb).1,⟨[],0,.nil,hacc⟩,I.hok.fresh hDle,.nil,rfl⟩
  rintro n s ⟨i,σ',H',vs,o,rfl,hi,I',sm,R',st',fr',⟨its,k,rv,hD⟩,fD,rr,hl⟩
  by_cases hlt:i < ds.length
  . -- one more
    obtain ⟨go,yl⟩:=(itd i H' sm).1 hlt
    have hd0:ds[i]? = some ds[i]:=by simp [hlt]
    obtain ⟨e,ge,xe⟩:=mg' i _ hd0
    have I1:L2.Inv (cG X scope cl x N C s₂ H₂ fp (X.pn++pins)) [(s₂.heap.objs.size,{ cls:=.type "list",data:=.seq its.toArray k })] σ' H' s:=I'.pins_of fun p hp=>by
     have:p=(s₂.heap.objs.size,{ cls:=.type "list",data:=.seq its.toArray k }):=by simpa using hp
     subst this
     exact ⟨hD,fD,hDC,dstk,fun v z=>by cases z⟩
    refine thn (T.item (cG X scope cl x N C s₂ H₂ fp (X.pn++pins)) rfl rfl rfl rfl i _ s σ' H' (fun _ _=>False) I1 (stat fr' fun p hp b hb=>by
     have:p=(s₂.heap.objs.size,{ cls:=.type "list",data:=.seq its.toArray k }):=by simpa using hp
     subst this
     exact (fne b hb).symm) st' go) fun r s1 ⟨u,hr,h4⟩=>?_
    subst hr
    refine thn h4 fun _ s2 ⟨y,H'',I2,ru,yy,st2,fr2⟩=>?_
    obtain ⟨s3,d,hd,rd⟩:=yl y H'' yy
    have hd':d=ds[i]:=by rw [hd0] at hd;exact (Option.some.inj hd).symm
    subst hd'
    have I3:=I2.pinned (stat fr2 fun p hp b hb=>by
     have:p=(s₂.heap.objs.size,{ cls:=.type "list",data:=.seq its.toArray k }):=by simpa using hp
     subst this
     exact (fne b hb).symm) (T.obj _ _ st2)
    refine thn (kh (X:=cG X scope cl x N C s₂ H₂ fp (X.pn++pins)) (i:=0) O.nd O.h0 (.inl (lookup_relabel_local O.hx)) (.inl (by simp)) _ s2 σ' H'' y u (fun σ4 H4=>σ4=σ'.set 0 (some y)/\H4=H'') I3 ru ⟨rfl,rfl⟩) fun _ s4 ⟨σ4,H4,I4,e1,e2⟩=>?_
    subst e1 e2
    have R4:RepS X.K H4 (σ'.set 0 (some y)) (some ds[i] :: bF js δ):=(R'.mono s3).set 0 rd
    refine thn (he C s₂ H₂ fp (X.pn++pins) _ s4 (σ'.set 0 (some y)) H4 (fun v H5=>Same H4 H5/\Rep X.K H5 v e) I4 ⟨_,e,R4,ge,fun v H5 s5 r5=>⟨s5,r5⟩⟩) fun wv s5 ⟨v,H5,I5,rw5,s45,r5⟩=>?_
    have hD5:s5.heap.get? s₂.heap.objs.size=some { cls:=.type "list",data:=.seq its.toArray k }:=(I5.pin (s₂.heap.objs.size,{ cls:=.type "list",data:=.seq its.toArray k }) (by simp)).1
    have fD5:H5 s₂.heap.objs.size=none:=(I5.pin (s₂.heap.objs.size,{ cls:=.type "list",data:=.seq its.toArray k }) (by simp)).2.1
    have pf:∀ b∈fp,∀ ob,s2.heap.get? b=some ob->s5.heap.get? b=some ob/\H5 b=none:=fun b hb ob hob=>by
     have:=I5.pin (b,ob) (List.mem_append_right _ (List.mem_append_right _ (ft hb hob)))
     exact ⟨this.1,this.2.1⟩
    have lz:its.length<=1000:=by
     have:=rv.length
     omega
    refine call_meets F.slot_list_append ⟨_,hD5,rfl⟩ F.entry_list_append (F.args_list_append_2 _ _) (PySem.list_append s₂.heap.objs.size its.toArray k wv (by rw [List.size_toArray];exact dR lz)) ⟨hD5,?_⟩
    have q:=PySem.IsL.update hD5 (fun a=>a.push wv)
    have I6:L2.Inv (cG X scope cl x N C s₂ H₂ fp (X.pn++pins)) [] (σ'.set 0 (some y)) H5 { s5 with heap:=s5.heap.update s₂.heap.objs.size (Obj.mapSeq fun a=>a.push wv),toks:=s5.toks } :=
     (I5.pins_of (pins':=[]) fun p hp=>by simp at hp).turned (it:=s₂.heap.objs.size) (t':=s5.toks) (fun b ob hb hu=>(Heap.get?_update_other s5.heap _ (Ne.symm hb)).trans hu) fD5 hDC (.inr hDle) cne (fun p hp=>by
      rcases Zn.mp hp with z | z
      . exact pne p z
      . simp at z)
    refine ⟨ds.length - (i+1),by omega,i+1,σ'.set 0 (some y),H5,vs++[v],some ds[i],rfl,hlt,I6,(sm.trans s3).trans s45,R4.mono s45,?_,?_,?_,fD5,?_,by simp [hl]⟩
    . refine T.keep _ _ _ st2 fun b hb ob hob=>?_
      exact (Heap.get?_update_other s5.heap _ (Ne.symm (fne b hb))).trans (pf b hb ob hob).1
    . intro b hb
      obtain ⟨ob,hob,_⟩:=T.obj _ _ st2 b hb
      exact (pf b hb ob hob).2
    . have hf7:its.toArray.push wv=(its++[wv]).toArray:=by simp
      rw [hf7] at q
      exact ⟨its++[wv],_,rv.append (.cons rw5 .nil),q⟩
    . have e8:xs.take (i+1)=xs.take i++[e]:=by
       rw [List.take_add_one,xe];rfl
      rw [e8]
      exact ((rr.mono s3).mono s45).append (.cons r5 .nil)
  . -- the end
    have hie:i=ds.length:=by omega
    refine thn (T.done (cG X scope cl x N C s₂ H₂ fp (X.pn++pins)) rfl rfl rfl rfl i [(s₂.heap.objs.size,{ cls:=.type "list",data:=.seq its.toArray k })] s σ' H' (fun _ _=>False) (I'.pins_of fun p hp=>by
     have:p=(s₂.heap.objs.size,{ cls:=.type "list",data:=.seq its.toArray k }):=by simpa using hp
     subst this
     exact ⟨hD,fD,hDC,dstk,fun v z=>by cases z⟩) (stat fr' fun p hp b hb=>by
     have:p=(s₂.heap.objs.size,{ cls:=.type "list",data:=.seq its.toArray k }):=by simpa using hp
     subst this
     exact (fne b hb).symm) st' ((itd i H' sm).2 (by omega))) fun r s1 ⟨hr,I8⟩=>?_
    subst hr
    have hD8:s1.heap.get? s₂.heap.objs.size=some { cls:=.type "list",data:=.seq its.toArray k }:=(I8.pin (s₂.heap.objs.size,{ cls:=.type "list",data:=.seq its.toArray k }) (by simp)).1
    have hxs:xs.take i=xs:=List.take_of_length_le (by omega)
    rw [hxs] at rr
    have sn:=cN fD (.lst vs)
    have dn:∀ b,∀ u,H' b=some u->b ≠ s₂.heap.objs.size:=fun b u z=>cT z fD
    have un:Un (frs X.stack) fp H₂ (upd H' s₂.heap.objs.size (.lst vs)) s₂.heap s1.heap:=by
     have b0:=I8.base
     refine ⟨fun b ob e n1 n2 n3=>b0.keep b ob e n1 n2 n3,fun b ob e n1 n2 n3=>b0.slot b ob e n1 n2 n3,fun b ob e n1 n3=>?_,fun b ob e n3=>b0.there b ob e n3,fun b zs e=>?_,fun b ob u e=>?_,fun b ps e=>?_⟩
     . rw [aH (Nat.ne_of_lt (Heap.lt_size e))]
       exact b0.free b ob e n1 n3
     . have z:=b0.tups b zs e
       rw [aH (dn _ _ z)]
       exact z
     . have z:=b0.frzs b ob u e
       rw [aH (dn _ _ z)]
       exact z
     . obtain ⟨more,z⟩:=b0.tbls b ps e
       exact ⟨more,by rw [aH (dn _ _ z)];exact z⟩
    have hok:HOk X.prog X.w (upd H' s₂.heap.objs.size (.lst vs)) s1.heap:=fun b u z=>by
     by_cases hb:b=s₂.heap.objs.size
     . rw [hb] at z ⊢
       rw [bx] at z
       cases z
       exact ⟨dR (by omega),its,k,rv,hD8⟩
     . rw [aH hb] at z
       exact (I8.hok b u z).stay (fun _ _ _ q=>q) (fun c q=>by rw [aH (dn _ _ q)];exact q) fun c ys q=>by rw [aH (dn _ _ q)];exact q
    have IX:L2.Inv X pins σ (upd H' s₂.heap.objs.size (.lst vs)) s1:=I.call' I8.os un hok I8.bare fun b hb=>⟨(hf b hb).2.2.2.1,(hf b hb).2.1,(hf b hb).2.2.2.2.1,(hf b hb).2.2.2.2.2⟩
    obtain ⟨m8,hn8,_⟩:=I8.loc
    refine hRR s₂.heap.objs.size C s1 _ vs hCle IX (sm.trans sn) bx (rr.mono sn) ⟨m8,hn8⟩ ?_
    rw [aH (Ne.symm hDC)]
    exact I8.free
 exact codeAny_compStart_list (loop _ rfl) (T.self X.A 0 _ _ _ (T.keep 0 _ _ st (fun b hb o e=>old b o e)) (loop _ rfl))
theorem la {C:Addr} {h':Heap} {s':Shared} {Hend:Hp} (I:L2.Inv X pins σ Hend s') (I0:L2.Inv X pins σ H₂ s₂) (hC:s₂.heap.objs.size<=C) (fC:Hend C=none) (hs:Heap.SameBut C s'.heap h'):L2.Inv X pins σ Hend { s' with heap:=h' } :=
 I.turned (it:=C) (t':=s'.toks) (fun b o hb e=>(hs.2 b hb).trans e) fC (Nat.ne_of_gt (Nat.lt_of_lt_of_le I0.lt hC)) (.inr (Nat.le_trans I0.sz hC))
  (fun y c e z=>by
   obtain ⟨v,o,h1,_⟩:=I0.cell y c e
   exact absurd (Nat.lt_of_lt_of_le (Heap.lt_size h1) (by rw [z];exact hC)) (Nat.lt_irrefl _))
  (fun p hp z=>absurd (Nat.lt_of_lt_of_le (Heap.lt_size (I0.pin p hp).1) (by rw [z];exact hC)) (Nat.lt_irrefl _))
theorem me {elt iter:Expr} {px pos:Pos} {src:FA} {felt:FD} (hi:PID X (.Name x px) iter src) {N:List Str} {js:List Nat} (he:∀ C s₂ H₂ fp pn,PD (cG X scope cl x N C s₂ H₂ fp pn) elt felt) (O:CompOk X scope cl x N js) (hcm:X.calm=true:=by rfl)
 (hs:∀ v,foldedSetIterable iter X.env v=pure v:=by intro _;rfl):PD X (.ListComp elt [⟨.Name x px,iter,[],0⟩] scope pos) (kB src js felt):=by
 intro pins s σ H Q I ⟨δ,d,R,q,k⟩
 unfold kB at q
 obtain ⟨ds,eds,q⟩:=Za.mp q
 obtain ⟨xs,exs,q⟩:=Za.mp q
 by_cases hz:xs.length<=1000
 . rw [if_pos hz] at q
   cases q
   rw [eval_ListComp]
   refine wpAny_comprehension_free (use:=none) rfl hs O.clos O.kind O.names ?_
   refine wpAny_mono (hi pins s σ H (fun J H1=>Same H H1/\ItD X.K J H1 ds) I ⟨δ,ds,R,eds,fun J H1 s1 itd=>⟨s1,itd⟩⟩) (fun v s1 h1=>wpAny_mono h1 (fun itv s2 h2=>?_) fun _ _ z=>z) fun _ _ z=>z
   obtain ⟨it,fp,tn,J,H2,rfl,I2,T,st,hf,s1,itd⟩:=h2
   refine rZ (RR:=fun acc C=>compPost (model X.prog X.w) X.A X.xe none (EP X pins σ Q) acc C) I2 hcm O T st hf itd (R.mono s1) he exs hz ?_
   intro D C s' Hend vs hC IX sm hD rr ⟨m,hn⟩ fC
   exact ⟨m,hn,fun h' hs'=>⟨.ref D,Hend,la IX I2 hC fC hs',rfl,k _ _ (s1.trans sm) (.lst hD rr)⟩⟩
 . rw [if_neg hz] at q;cases q
end
end Dl
namespace Dl
open PySem PySem.Spec PyProof.Rows L2
theorem CompOk.one {X:Cx} {scope:Scope} {c:Addr} {x z:Str} {j:Nat} (clos:closureFor scope X.env=pure [(z,c)]:=by rfl) (nocell:∀ y∈scope.names,y.2 ≠ .cell:=by decide +kernel) (kind:scope.kind=.function:=by rfl)
 (names:∀ y∈scope.names,y.2=.local->scope.names.lookup y.1=some .local:=by decide +kernel) (hx:scope.names.lookup x=some .local:=by rfl) (hne:x ≠ z:=by decide +kernel) (hcell:X.env.cells.lookup z=some c:=by rfl)
 (hfr:∀ p∈scope.names,p.2=.free->p.1=z:=by decide +kernel) (hj:X.N[j]? = some z:=by rfl) (hk:X.env.scope.names.lookup z=some .cell:=by rfl) (hk':(relabel scope X.env).names.lookup z=some .cell:=by rfl):CompOk X scope [(z,c)] x [x,z] [j] where
 clos:=clos
 nocell:=nocell
 kind:=kind
 names:=names
 hx:=hx
 nd:=by simp [hne]
 h0:=rfl
 len:=rfl
 clx:=by
  show List.lookup x [(z,c)]=none
  have q:(x == z)=false:=beq_eq_false_iff_ne.mpr hne
  rw [List.lookup_cons,q]
  rfl
 cls:=fun y a h=>by
  have h':List.lookup y [(z,c)]=some a:=h
  by_cases hy:y=z
  . subst hy
    simp at h'
    subst h'
    exact hcell
  . have q:(y == z)=false:=beq_eq_false_iff_ne.mpr hy
    rw [List.lookup_cons,q] at h'
    cases h'
 has:=fun y h=>by
  have key:∀ k,(k=NameKind.cell \/ k=NameKind.free)->(relabel scope X.env).names.lookup y=some k->y=z:=fun k hk h=>by
   have m:=PySem.mem_of_lookup h
   unfold relabel at m
   obtain ⟨⟨n,k'⟩,m1,m2⟩:=List.mem_map.mp m
   dsimp only at m2
   have hk1:k'=NameKind.free:=by
    split at m2
    . rename_i hc
      rw [Bool.and_eq_true,Bool.and_eq_true] at hc
      exact beq_iff_eq.mp hc.1.1
    . have e:k'=k:=congrArg Prod.snd m2
      rcases hk with z1 | z1
      . exact absurd (e.trans z1) (nocell _ m1)
      . exact e.trans z1
   have hn:n=y:=by split at m2 <;> exact congrArg Prod.fst m2
   rw [<- hn]
   exact hfr _ m1 hk1
  have e:y=z:=by
   rcases h with h | h
   . exact key _ (.inl rfl) h
   . exact key _ (.inr rfl) h
  subst e
  exact ⟨c,by simp⟩
 fr:=fun i y k h1 h2=>by
  cases i with
  | zero =>
   have e1:z=y:=Option.some.inj h1
   have e2:j=k:=Option.some.inj h2
   subst e1 e2
   refine ⟨hj,hk,hk',fun a ha=>?_⟩
   rw [hcell] at ha
   cases ha
   simp
  | succ i=>cases h2
end Dl
namespace Dl
open PySem PySem.Spec PyProof.Rows L2
end Dl
namespace Dl
open PySem PySem.Spec PyProof.Rows L2
section
variable {P:Program} {w:World} {K:PySem.W.Frag} {mg:Str->Option Value} {base:Heap}
end
section
variable {X:Cx} {a b:Expr} {fa fb:FD} {pos:Pos}
end
end Dl
namespace Dl
open PySem PySem.Spec PyProof.Rows L2
section
variable {X:Cx} {pins:List (Addr×Obj)} {σ:L2.St} {H H₀ H':Hp} {s s':Shared} {B:Heap} {x C t:Addr}
end
section
variable {X:Cx} {pins:List (Addr×Obj)} {σ:L2.St} {H:Hp} {s:Shared} {h':Heap}
end
end Dl
namespace Dl
open PySem PySem.Spec PyProof.Rows L2
mutual
def imm:D->Bool
 | .tup ds=>d7 ds
 | .lst _=>false
 | .seq _=>false
 | .ms _ _=>false
 | .mf _ _=>false
 | .md _ _=>false
 | _=>true
def d7:List D->Bool
 | []=>true
 | d :: ds=>imm d && d7 ds
end
mutual
def own:D->Bool
 | .tup ds=>g7 ds
 | .lst ds=>g7 ds
 | .seq _=>false
 | .ms _ _=>false
 | .mf _ _=>false
 | _=>true
def g7:List D->Bool
 | []=>true
 | d :: ds=>own d && g7 ds
end
mutual
def sh:D->D
 | .tup ds=>.tup (shs ds)
 | .lst ds=>.seq (shs ds)
 | .seq ds=>.seq (shs ds)
 | .ms ks ds=>.ms ks (shs ds)
 | .mf ks ds=>.mf ks (shs ds)
 | .md ks ds=>.ms ks (shs ds)
 | d=>d
def shs:List D->List D
 | []=>[]
 | d :: ds=>sh d :: shs ds
end
theorem dL:∀ (ds:List D),shs ds=ds.map sh
 | []=>rfl
 | d :: ds=>by rw [shs,dL ds];rfl
mutual
theorem kO:∀ {d:D},imm d=true->sh d=d
 | .non,_=>rfl
 | .bl _,_=>rfl
 | .int _,_=>rfl
 | .str _,_=>rfl
 | .ty _,_=>rfl
 | .dct,_=>rfl
 | .exc _,_=>rfl
 | .cls _,_=>rfl
 | .ms _ _,h=>by rw [imm] at h;cases h
 | .mf _ _,h=>by rw [imm] at h;cases h
 | .md _ _,h=>by rw [imm] at h;cases h
 | .tup ds,h=>by rw [sh,jf (by rw [imm] at h;exact h)]
 | .lst _,h=>by rw [imm] at h;cases h
 | .seq _,h=>by rw [imm] at h;cases h
theorem jf:∀ {ds:List D},d7 ds=true->shs ds=ds
 | [],_=>rfl
 | d :: ds,h=>by
  rw [d7,Bool.and_eq_true] at h
  rw [shs,kO h.1,jf h.2]
end
mutual
theorem Ad:∀ (d:D),sh (sh d)=sh d
 | .non=>rfl
 | .bl _=>rfl
 | .int _=>rfl
 | .str _=>rfl
 | .ty _=>rfl
 | .dct=>rfl
 | .exc _=>rfl
 | .cls _=>rfl
 | .ms ks ds=>by rw [sh,sh,gd ds]
 | .mf ks ds=>by rw [sh,sh,gd ds]
 | .md ks ds=>by rw [sh,sh,gd ds]
 | .tup ds=>by rw [sh,sh,gd ds]
 | .lst ds=>by rw [sh,sh,gd ds]
 | .seq ds=>by rw [sh,sh,gd ds]
theorem gd:∀ (ds:List D),shs (shs ds)=shs ds
 | []=>rfl
 | d :: ds=>by rw [shs,shs,Ad d,gd ds]
end
def mtb:HO->Bool
 | .lst _=>true
 | .dK _=>true
 | .frz _ (.dK _)=>true
 | _=>false
abbrev MO:={u:HO // mtb u=true}
def gW (H H':Hp):Prop:=∀ a u,H a=some u->mtb u=false->H' a=some u
theorem cF {H H':Hp} (s:Same H H'):gW H H':=fun a u e _=>s a u e
theorem uk {H:Hp} {a:Addr} {u:HO} {o:HO} (h:H a=some u) (m:mtb u=true):gW H (upd H a o):=fun b w e n=>by
 by_cases hb:b=a
 . subst hb;rw [h] at e;cases e;rw [m] at n;cases n
 . rw [aH hb];exact e
theorem i3 {H:Hp} {a:Addr} {vs:List V} {o:HO} (h:H a=some (.lst vs)):gW H (upd H a o):=uk h rfl
theorem mH {K:PySem.W.Frag} {H H':Hp} {a:Addr} {xs:List V} (k:gW H H') (h:SqT K H a xs):SqT K H' a xs:=by
 rcases h with (h | ⟨o,h⟩) | h
 . exact .inl (.inl (k _ _ h rfl))
 . exact .inl (.inr ⟨o,k _ _ h rfl⟩)
 . exact .inr h
mutual
theorem mN {K:PySem.W.Frag} {H H':Hp} (k:gW H H'):∀ {v:V} {d:D},Rep K H v d->imm d=true->Rep K H' v d
 | _,_,.non,_=>.non
 | _,_,.bl b,_=>.bl b
 | _,_,.int i,_=>.int i
 | _,_,.str x,_=>.str x
 | _,_,.ty n,_=>.ty n
 | _,_,.tup h r,i=>.tup (mH k h) (ie k r (by rw [imm] at i;exact i))
 | _,_,.lst h r,i=>by rw [imm] at i;cases i
 | _,_,.seq h r,i=>by rw [imm] at i;cases i
 | _,_,.dct h,_=>.dct (k _ _ h rfl)
 | _,_,.exc h,_=>.exc (k _ _ h rfl)
 | _,_,.cls C,_=>.cls C
 | _,_,.ms h l r,i=>by rw [imm] at i;cases i
 | _,_,.mf h l r,i=>by rw [imm] at i;cases i
 | _,_,.md h l r,i=>by rw [imm] at i;cases i
theorem ie {K:PySem.W.Frag} {H H':Hp} (k:gW H H'):∀ {vs:List V} {ds:List D},Reps K H vs ds->d7 ds=true->Reps K H' vs ds
 | _,_,.nil,_=>.nil
 | _,_,.cons r t,i=>by
  rw [d7,Bool.and_eq_true] at i
  exact .cons (mN k r i.1) (ie k t i.2)
end
mutual
theorem mM {K:PySem.W.Frag} {H:Hp}:∀ {v:V} {d:D},Rep K H v d->Rep K H v (sh d)
 | _,_,.non=>.non
 | _,_,.bl b=>.bl b
 | _,_,.int i=>.int i
 | _,_,.str x=>.str x
 | _,_,.ty n=>.ty n
 | _,_,.tup h r=>by rw [sh];exact .tup h (dB r)
 | _,_,.lst h r=>by rw [sh];exact .seq (SqL.of h) (dB r)
 | _,_,.seq h r=>by rw [sh];exact .seq h (dB r)
 | _,_,.dct h=>.dct h
 | _,_,.exc h=>.exc h
 | _,_,.cls C=>.cls C
 | _,_,.ms h l r=>by rw [sh];exact .ms h (by rw [dL,Zi];exact l) (dB r)
 | _,_,.mf h l r=>by rw [sh];exact .mf h (by rw [dL,Zi];exact l) (dB r)
 | _,_,.md h l r=>by rw [sh];exact .ms (.inl h) (by rw [dL,Zi];exact l) (dB r)
theorem dB {K:PySem.W.Frag} {H:Hp}:∀ {vs:List V} {ds:List D},Reps K H vs ds->Reps K H vs (shs ds)
 | _,_,.nil=>.nil
 | _,_,.cons r t=>by rw [shs];exact .cons (mM r) (dB t)
end
mutual
inductive RepO (K:PySem.W.Frag) (F H:Hp):V->D->List Addr->Prop
 | imm {v:V} {d:D} (i:imm d=true) (h:Rep K H v d):RepO K F H v d []
 | shr {v:V} {ds:List D} (h:Rep K F v (.seq ds)):RepO K F H v (.seq ds) []
 | shm {v:V} {ks:List Int} {ds:List D} (h:Rep K F v (.ms ks ds)):RepO K F H v (.ms ks ds) []
 | shf {v:V} {ks:List Int} {ds:List D} (h:Rep K F v (.mf ks ds)):RepO K F H v (.mf ks ds) []
 | tup {a:Addr} {vs:List V} {ds:List D} {A:List Addr} (h:SqT K H a vs) (r:RepOs K F H vs ds A):RepO K F H (.ref a) (.tup ds) A
 | lst {a:Addr} {vs:List V} {ds:List D} {A:List Addr} (h:H a=some (.lst vs)) (n:F a=none) (r:RepOs K F H vs ds A):RepO K F H (.ref a) (.lst ds) (a :: A)
 | md {a:Addr} {ks:List Int} {vs:List V} {ds:List D} (h:H a=some (.dK ((ks.map Sum.inl).zip vs))) (n:F a=none) (l:ks.length=ds.length) (i:d7 ds=true) (r:Reps K H vs ds):RepO K F H (.ref a) (.md ks ds) [a]
inductive RepOs (K:PySem.W.Frag) (F H:Hp):List V->List D->List Addr->Prop
 | nil:RepOs K F H [] [] []
 | cons {v:V} {d:D} {vs:List V} {ds:List D} {A B C:List Addr} (r:RepO K F H v d A) (t:RepOs K F H vs ds B) (e:C=A++B):RepOs K F H (v :: vs) (d :: ds) C
end
section
variable {K:PySem.W.Frag} {F H F' H':Hp}
mutual
theorem RepO.rep (s:Same F H):∀ {v:V} {d:D} {A:List Addr},RepO K F H v d A->Rep K H v d
 | _,_,_,.imm _ h=>h
 | _,_,_,.shr h=>h.mono s
 | _,_,_,.shm h=>h.mono s
 | _,_,_,.shf h=>h.mono s
 | _,_,_,.tup h r=>.tup h (RepOs.reps s r)
 | _,_,_,.lst h _ r=>.lst h (RepOs.reps s r)
 | _,_,_,.md h _ l _ r=>.md h l r
theorem RepOs.reps (s:Same F H):∀ {vs:List V} {ds:List D} {A:List Addr},RepOs K F H vs ds A->Reps K H vs ds
 | _,_,_,.nil=>.nil
 | _,_,_,.cons r t _=>.cons (RepO.rep s r) (RepOs.reps s t)
end
mutual
theorem RepO.dom:∀ {v:V} {d:D} {A:List Addr},RepO K F H v d A->∀ a∈A,(∃ u:MO,H a=some u.1)/\F a=none
 | _,_,_,.imm _ _,_,m=>nomatch m
 | _,_,_,.shr _,_,m=>nomatch m
 | _,_,_,.shm _,_,m=>nomatch m
 | _,_,_,.shf _,_,m=>nomatch m
 | _,_,_,.tup _ r,a,m=>RepOs.dom r a m
 | _,_,_,.lst h n r,a,m=>by
  rcases Zo.mp m with e | e
  . subst e;exact ⟨⟨⟨_,rfl⟩,h⟩,n⟩
  . exact RepOs.dom r a e
 | _,_,_,.md h n _ _ _,a,m=>by
  rcases List.mem_singleton.mp m with rfl
  exact ⟨⟨⟨_,rfl⟩,h⟩,n⟩
theorem RepOs.dom:∀ {vs:List V} {ds:List D} {A:List Addr},RepOs K F H vs ds A->∀ a∈A,(∃ u:MO,H a=some u.1)/\F a=none
 | _,_,_,.nil,_,m=>nomatch m
 | _,_,_,.cons r t e,a,m=>by
  subst e
  rcases Zn.mp m with z | z
  . exact RepO.dom r a z
  . exact RepOs.dom t a z
end
mutual
theorem RepO.frame (k:gW H H'):∀ {v:V} {d:D} {A:List Addr},RepO K F H v d A->(∀ a∈A,H' a=H a)->RepO K F H' v d A
 | _,_,_,.imm i h,_=>.imm i (mN k h i)
 | _,_,_,.shr h,_=>.shr h
 | _,_,_,.shm h,_=>.shm h
 | _,_,_,.shf h,_=>.shf h
 | _,_,_,.tup h r,e=>.tup (mH k h) (RepOs.frame k r e)
 | _,_,_,.lst h n r,e=>.lst ((e _ Zk).trans h) n (RepOs.frame k r fun a m=>e a (Zl _ m))
 | _,_,_,.md h n l i r,e=>.md ((e _ Zk).trans h) n l i (ie k r i)
theorem RepOs.frame (k:gW H H'):∀ {vs:List V} {ds:List D} {A:List Addr},RepOs K F H vs ds A->(∀ a∈A,H' a=H a)->RepOs K F H' vs ds A
 | _,_,_,.nil,_=>.nil
 | _,_,_,.cons r t e,q=>by
  subst e
  exact .cons (RepO.frame k r fun a m=>q a (List.mem_append_left _ m)) (RepOs.frame k t fun a m=>q a (List.mem_append_right _ m)) rfl
end
mutual
theorem RepO.froz (s:Same F F'):∀ {v:V} {d:D} {A:List Addr},RepO K F H v d A->(∀ a∈A,F' a=none)->RepO K F' H v d A
 | _,_,_,.imm i h,_=>.imm i h
 | _,_,_,.shr h,_=>.shr (h.mono s)
 | _,_,_,.shm h,_=>.shm (h.mono s)
 | _,_,_,.shf h,_=>.shf (h.mono s)
 | _,_,_,.tup h r,e=>.tup h (RepOs.froz s r e)
 | _,_,_,.lst h n r,e=>.lst h (e _ Zk) (RepOs.froz s r fun a m=>e a (Zl _ m))
 | _,_,_,.md h n l i r,e=>.md h (e _ Zk) l i r
theorem RepOs.froz (s:Same F F'):∀ {vs:List V} {ds:List D} {A:List Addr},RepOs K F H vs ds A->(∀ a∈A,F' a=none)->RepOs K F' H vs ds A
 | _,_,_,.nil,_=>.nil
 | _,_,_,.cons r t e,q=>by
  subst e
  exact .cons (RepO.froz s r fun a m=>q a (List.mem_append_left _ m)) (RepOs.froz s t fun a m=>q a (List.mem_append_right _ m)) rfl
end
mutual
theorem RepO.thaw (s:Same F' F):∀ {v:V} {d:D} {A:List Addr},RepO K F H v d A->own d=true->RepO K F' H v d A
 | _,_,_,.imm i h,_=>.imm i h
 | _,_,_,.shr h,o=>by rw [own] at o;cases o
 | _,_,_,.shm h,o=>by rw [own] at o;cases o
 | _,_,_,.shf h,o=>by rw [own] at o;cases o
 | _,_,_,.tup h r,o=>.tup h (RepOs.thaw s r (by rw [own] at o;exact o))
 | _,_,_,.lst (a:=a) h n r,o=>.lst h (by
  cases q:F' a with
  | none=>rfl
  | some u=>rw [s a u q] at n;cases n) (RepOs.thaw s r (by rw [own] at o;exact o))
 | _,_,_,.md (a:=a) h n l i r,o=>.md h (by
  cases q:F' a with
  | none=>rfl
  | some u=>rw [s a u q] at n;cases n) l i r
theorem RepOs.thaw (s:Same F' F):∀ {vs:List V} {ds:List D} {A:List Addr},RepOs K F H vs ds A->g7 ds=true->RepOs K F' H vs ds A
 | _,_,_,.nil,_=>.nil
 | _,_,_,.cons r t e,o=>by
  rw [g7,Bool.and_eq_true] at o
  exact .cons (RepO.thaw s r o.1) (RepOs.thaw s t o.2) e
end
mutual
theorem RepO.none_of:∀ {v:V} {d:D} {A:List Addr},RepO K F H v d A->imm d=true->A=[]
 | _,_,_,.imm _ _,_=>rfl
 | _,_,_,.shr _,_=>rfl
 | _,_,_,.shm _,_=>rfl
 | _,_,_,.shf _,_=>rfl
 | _,_,_,.tup _ r,i=>RepOs.none_of r (by rw [imm] at i;exact i)
 | _,_,_,.lst _ _ _,i=>by rw [imm] at i;cases i
 | _,_,_,.md _ _ _ _ _,i=>by rw [imm] at i;cases i
theorem RepOs.none_of:∀ {vs:List V} {ds:List D} {A:List Addr},RepOs K F H vs ds A->d7 ds=true->A=[]
 | _,_,_,.nil,_=>rfl
 | _,_,_,.cons r t e,i=>by
  rw [d7,Bool.and_eq_true] at i
  rw [e,RepO.none_of r i.1,RepOs.none_of t i.2]
  rfl
end
theorem RepO.seq_nil {v:V} {ds:List D}:∀ {d:D} {A:List Addr},RepO K F H v d A->d=.seq ds->A=[]
 | _,_,.imm i _,e=>rfl
 | _,_,.shr _,_=>rfl
 | _,_,.shm _,_=>rfl
 | _,_,.shf _,_=>rfl
 | _,_,.tup _ _,e=>nomatch e
 | _,_,.lst _ _ _,e=>nomatch e
 | _,_,.md _ _ _ _ _,e=>nomatch e
noncomputable def frz (F H:Hp) (A:List Addr):Hp:=fun a=>match H a with
 | some u=>if mtb u=true then (if (F a).isSome=true \/ a∈A then some u else none) else some u
 | none=>none
theorem pH {A:List Addr} {a:Addr} {u:HO} (h:H a=some u) (m:a∈A):frz F H A a=some u:=by
 unfold frz;rw [h]
 show (if mtb u=true then (if (F a).isSome=true \/ a∈A then some u else none) else some u)=some u
 rw [if_pos (show (F a).isSome=true \/ a∈A from .inr m)]
 split <;> rfl
theorem qM {A:List Addr}:gW H (frz F H A):=fun a u e n=>by
 unfold frz
 rw [e]
 exact if_neg (by rw [n];exact fun z=>nomatch z)
theorem nk {A:List Addr} (s:Same F H):Same F (frz F H A):=fun a u e=>by
 have h:=s a u e
 unfold frz;rw [h]
 show (if mtb u=true then (if (F a).isSome=true \/ a∈A then some u else none) else some u)=some u
 rw [if_pos (show (F a).isSome=true \/ a∈A from .inl (by rw [e];rfl))]
 split <;> rfl
theorem rS {A:List Addr}:Same (frz F H A) H:=fun a u e=>by
 unfold frz at e
 split at e
 . rename_i w h
   rw [h]
   split at e
   . split at e
     . exact e
     . cases e
   . exact e
 . cases e
theorem jq {A:List Addr} {a:Addr} {u:MO} (h:H a=some u.1) (n:F a=none) (m:a ∉ A):frz F H A a=none:=by
 unfold frz;rw [h]
 show (if mtb u.1=true then (if (F a).isSome=true \/ a∈A then some u.1 else none) else some u.1)=none
 rw [if_pos u.2]
 refine if_neg fun z=>?_
 rcases z with z | z
 . rw [n] at z;cases z
 . exact m z
mutual
theorem RepO.freeze (s:Same F F') (k:gW H F'):∀ {v:V} {d:D} {A:List Addr},RepO K F H v d A->(∀ a u,a∈A->H a=some u->F' a=some u)->Rep K F' v (sh d)
 | _,_,_,.imm i h,_=>mM (mN k h i)
 | _,_,_,.shr h,_=>mM (h.mono s)
 | _,_,_,.shm h,_=>mM (h.mono s)
 | _,_,_,.shf h,_=>mM (h.mono s)
 | _,_,_,.tup h r,e=>by rw [sh];exact .tup (mH k h) (RepOs.freeze s k r e)
 | _,_,_,.lst h _ r,e=>by rw [sh];exact .seq (SqL.of (e _ _ Zk h)) (RepOs.freeze s k r fun a vs m=>e a vs (Zl _ m))
 | _,_,_,.md h _ l i r,e=>by rw [sh];exact .ms (.inl (e _ _ Zk h)) (by rw [dL,Zi];exact l) (dB (ie k r i))
theorem RepOs.freeze (s:Same F F') (k:gW H F'):∀ {vs:List V} {ds:List D} {A:List Addr},RepOs K F H vs ds A->(∀ a u,a∈A->H a=some u->F' a=some u)->Reps K F' vs (shs ds)
 | _,_,_,.nil,_=>.nil
 | _,_,_,.cons r t e,q=>by
  subst e
  rw [shs]
  exact .cons (RepO.freeze s k r fun a vs m=>q a vs (List.mem_append_left _ m)) (RepOs.freeze s k t fun a vs m=>q a vs (List.mem_append_right _ m))
end
mutual
theorem RepO.of_sh (s:Same F H):∀ {v:V} {d:D},Rep K F v d->RepO K F H v (sh d) []
 | _,_,.non=>.imm rfl .non
 | _,_,.bl b=>.imm rfl (.bl b)
 | _,_,.int i=>.imm rfl (.int i)
 | _,_,.str x=>.imm rfl (.str x)
 | _,_,.ty n=>.imm rfl (.ty n)
 | _,_,.tup h r=>by rw [sh];exact .tup (qg s h) (RepOs.of_sh s r)
 | _,_,.lst h r=>by rw [sh];exact .shr (.seq (SqL.of h) (dB r))
 | _,_,.seq h r=>by rw [sh];exact .shr (.seq h (dB r))
 | _,_,.dct h=>.imm rfl (.dct (s _ _ h))
 | _,_,.exc h=>.imm rfl (.exc (s _ _ h))
 | _,_,.cls C=>.imm rfl (.cls C)
 | _,_,.ms h l r=>by rw [sh];exact .shm (.ms h (by rw [dL,Zi];exact l) (dB r))
 | _,_,.mf h l r=>by rw [sh];exact .shf (.mf h (by rw [dL,Zi];exact l) (dB r))
 | _,_,.md h l r=>by rw [sh];exact .shm (.ms (.inl h) (by rw [dL,Zi];exact l) (dB r))
theorem RepOs.of_sh (s:Same F H):∀ {vs:List V} {ds:List D},Reps K F vs ds->RepOs K F H vs (shs ds) []
 | _,_,.nil=>.nil
 | _,_,.cons r t=>by rw [shs];exact .cons (RepO.of_sh s r) (RepOs.of_sh s t) rfl
end
theorem RepOs.length:∀ {vs:List V} {ds:List D} {A:List Addr},RepOs K F H vs ds A->vs.length=ds.length
 | _,_,_,.nil=>rfl
 | _,_,_,.cons _ t _=>congrArg (· + 1) (RepOs.length t)
theorem RepOs.snoc:∀ {vs:List V} {ds:List D} {A B:List Addr} {v:V} {d:D},RepOs K F H vs ds A->RepO K F H v d B->RepOs K F H (vs++[v]) (ds++[d]) (A++B)
 | _,_,_,_,_,_,.nil,r=>.cons r .nil (by simp)
 | _,_,_,_,_,_,.cons q t e,r=>.cons q (RepOs.snoc t r) (by rw [e,List.append_assoc])
theorem RepOs.pick:∀ {vs:List V} {ds:List D} {A:List Addr} {i:Nat} {d:D},RepOs K F H vs ds A->ds[i]? = some d->∃ v A1 B A2,vs[i]? = some v/\RepO K F H v d B/\A=A1++(B++A2) /\
 ∀ {H':Hp} {v':V} {d':D} {B':List Addr},gW H H'->(∀ a,a∈A1 \/ a∈A2->H' a=H a)->RepO K F H' v' d' B'->RepOs K F H' (vs.set i v') (ds.set i d') (A1++(B'++A2))
 | _,_,_,_,_,.nil,e=>by simp at e
 | _,_,_,0,_,.cons (A:=A) (B:=B) r t e,q=>by
  simp at q
  subst q
  refine ⟨_,[],A,B,rfl,r,by simpa using e,fun k h r'=>?_⟩
  exact .cons r' (t.frame k fun a m=>h a (.inr m)) (by simp)
 | _,_,_,i+1,d,.cons (A:=A0) (B:=B0) r t e,q=>by
  obtain ⟨v,A1,B,A2,h1,h2,h3,h4⟩:=RepOs.pick (i:=i) (d:=d) t (by simpa using q)
  refine ⟨v,A0++A1,B,A2,by simpa using h1,h2,by rw [e,h3,List.append_assoc],fun k h r'=>?_⟩
  refine .cons (r.frame k fun a m=>h a (.inl (List.mem_append_left _ m))) (h4 k (fun a m=>h a ?_) r') (by rw [List.append_assoc])
  rcases m with m | m
  . exact .inl (List.mem_append_right _ m)
  . exact .inr m
end
end Dl
namespace Dl
open PySem PySem.Spec PyProof.Rows L2
structure RepA (K:PySem.W.Frag) (F H:Hp) (σ:L2.St) (δ:DS) (As:Nat->List Addr):Prop where
 fz:Same F H
 len:σ.length=δ.length
 val:∀ (i:Nat) (d:D),δ[i]? = some (some d)->∃ v,σ[i]? = some (some v)/\RepO K F H v d (As i)
 non:∀ (i:Nat),(∀ d,δ[i]? ≠ some (some d))->As i=[]
 nd:∀ i,(As i).Nodup
 dj:∀ i j a,i ≠ j->a∈As i->a ∉ As j
def d9 (K:PySem.W.Frag) (F H:Hp) (σ:L2.St) (δ:DS):Prop:=∃ As,RepA K F H σ δ As
section
variable {K:PySem.W.Frag} {F H F' H':Hp} {σ:L2.St} {δ:DS} {As:Nat->List Addr}
theorem RepA.toS (R:RepA K F H σ δ As):RepS K H σ δ:=⟨R.len,fun i d q=>let ⟨v,h1,h2⟩:=R.val i d q;⟨v,h1,h2.rep R.fz⟩⟩
theorem RepA.dom (R:RepA K F H σ δ As) {i:Nat} {a:Addr} (m:a∈As i):(∃ u:MO,H a=some u.1)/\F a=none:=by
 by_cases h:∃ d,δ[i]? = some (some d)
 . obtain ⟨d,h⟩:=h
   obtain ⟨v,_,h2⟩:=R.val i d h
   exact h2.dom a m
 . rw [R.non i fun d z=>h ⟨d,z⟩] at m;cases m
theorem RepA.grow (R:RepA K F H σ δ As) (s:Same H H'):RepA K F H' σ δ As :=
 ⟨R.fz.trans s,R.len,fun i d q=>by
  obtain ⟨v,h1,h2⟩:=R.val i d q
  refine ⟨v,h1,h2.frame (cF s) fun a m=>?_⟩
  obtain ⟨⟨vs,e⟩,_⟩:=h2.dom a m
  rw [e];exact s a _ e,R.non,R.nd,R.dj⟩
theorem RepA.froz (R:RepA K F H σ δ As) (s:Same F F') (s':Same F' H) (n:∀ i a,a∈As i->F' a=none):RepA K F' H σ δ As :=
 ⟨s',R.len,fun i d q=>let ⟨v,h1,h2⟩:=R.val i d q;⟨v,h1,h2.froz s (n i)⟩,R.non,R.nd,R.dj⟩
def iN (As:Nat->List Addr) (i:Nat) (A:List Addr):Nat->List Addr:=fun j=>if j=i then A else As j
theorem aK {i:Nat} {A:List Addr}:iN As i A i=A:=if_pos rfl
theorem aI {i j:Nat} {A:List Addr} (h:j ≠ i):iN As i A j=As j:=if_neg h
theorem RepA.set {v:V} {d:D} {A:List Addr} (R:RepA K F H σ δ As) (i:Nat) (hi:i < δ.length) (r:RepO K F H v d A) (nd:A.Nodup) (dj:∀ j a,j ≠ i->a∈As j->a ∉ A):RepA K F H (σ.set i (some v)) (δ.set i (some d)) (iN As i A):=by
 have hl:=R.len
 refine ⟨R.fz,by rw [List.length_set,List.length_set];exact hl,fun j e q=>?_,fun j h=>?_,fun j=>?_,fun j k a hjk m=>?_⟩
 . rw [List.getElem?_set] at q ⊢
   by_cases hj:i=j
   . subst hj
     rw [if_pos rfl,if_pos hi] at q
     rw [if_pos rfl,if_pos (by omega),aK]
     have:d=e:=by simpa using q
     subst this
     exact ⟨v,rfl,r⟩
   . rw [if_neg hj] at q ⊢
     rw [aI (Ne.symm hj)]
     exact R.val j e q
 . by_cases hj:j=i
   . subst hj
     exact absurd (by rw [List.getElem?_set,if_pos rfl,if_pos hi]) (h d)
   . rw [aI hj]
     refine R.non j fun e z=>h e ?_
     rw [List.getElem?_set_ne (Ne.symm hj)]
     exact z
 . by_cases hj:j=i
   . subst hj;rw [aK];exact nd
   . rw [aI hj];exact R.nd j
 . by_cases hj:j=i
   . subst hj
     rw [aK] at m
     rw [aI (Ne.symm hjk)]
     exact fun z=>dj k a (Ne.symm hjk) z m
   . rw [aI hj] at m
     by_cases hk:k=i
     . subst hk;rw [aK];exact dj j a hj m
     . rw [aI hk];exact R.dj j k a hjk m
theorem RepA.drop (R:RepA K F H σ δ As) (i:Nat):RepA K F H σ (δ.set i none) (iN As i []):=by
 refine ⟨R.fz,by rw [List.length_set];exact R.len,fun j e q=>?_,fun j h=>?_,fun j=>?_,fun j k a hjk m=>?_⟩
 . rw [List.getElem?_set] at q
   by_cases hj:i=j
   . subst hj;rw [if_pos rfl] at q;split at q <;> cases q
   . rw [if_neg hj] at q
     rw [aI (Ne.symm hj)]
     exact R.val j e q
 . by_cases hj:j=i
   . subst hj;rw [aK]
   . rw [aI hj]
     refine R.non j fun e z=>h e ?_
     rw [List.getElem?_set_ne (Ne.symm hj)]
     exact z
 . by_cases hj:j=i
   . subst hj;rw [aK];exact List.nodup_nil
   . rw [aI hj];exact R.nd j
 . by_cases hj:j=i
   . subst hj;rw [aK] at m;cases m
   . rw [aI hj] at m
     by_cases hk:k=i
     . subst hk;rw [aK];exact fun z=>nomatch z
     . rw [aI hk];exact R.dj j k a hjk m
theorem RepA.write {v:V} {d:D} {A:List Addr} {i:Nat} (R:RepA K F H σ δ As) (hi:i < δ.length) (hσ:σ[i]? = some (some v)) (k:gW H H') (fz:Same F H') (e:∀ j a,j ≠ i->a∈As j->H' a=H a) (r:RepO K F H' v d A) (nd:A.Nodup) (dj:∀ j a,j ≠ i->a∈As j->a ∉ A) :
 RepA K F H' σ (δ.set i (some d)) (iN As i A):=by
 refine ⟨fz,by rw [List.length_set];exact R.len,fun j e' q=>?_,fun j h=>?_,fun j=>?_,fun j k a hjk m=>?_⟩
 . rw [List.getElem?_set] at q
   by_cases hj:i=j
   . subst hj
     rw [if_pos rfl,if_pos hi] at q
     have:d=e':=by simpa using q
     subst this
     rw [aK]
     exact ⟨v,hσ,r⟩
   . rw [if_neg hj] at q
     rw [aI (Ne.symm hj)]
     obtain ⟨w,h1,h2⟩:=R.val j e' q
     exact ⟨w,h1,h2.frame k (fun a m=>e j a (Ne.symm hj) m)⟩
 . by_cases hj:j=i
   . subst hj
     exact absurd (by rw [List.getElem?_set,if_pos rfl,if_pos hi]) (h d)
   . rw [aI hj]
     refine R.non j fun e z=>h e ?_
     rw [List.getElem?_set_ne (Ne.symm hj)]
     exact z
 . by_cases hj:j=i
   . subst hj;rw [aK];exact nd
   . rw [aI hj];exact R.nd j
 . by_cases hj:j=i
   . subst hj
     rw [aK] at m
     rw [aI (Ne.symm hjk)]
     exact fun z=>dj k a (Ne.symm hjk) z m
   . rw [aI hj] at m
     by_cases hk:k=i
     . subst hk;rw [aK];exact dj j a hj m
     . rw [aI hk];exact R.dj j k a hjk m
end
abbrev FM:=DS->Option (D×DS)
abbrev FMA:=DS->Option (List D×DS)
structure Ev (F H:Hp) (As:Nat->List Addr) (F' H':Hp) (As':Nat->List Addr) (A:List Addr):Prop where
 fs:Same F F'
 hs:Same H H'
 nf:∀ a (u:MO),H a=some u.1->F a=none->(∀ i,a ∉ As i)->F' a=none
 fa:∀ i a,a∈As' i->(∃ j,a∈As j) \/ H a=none
 fA:∀ a,a∈A->(∃ j,a∈As j) \/ H a=none
 nd:A.Nodup
 dj:∀ i a,a∈As' i->a ∉ A
theorem Ev.pure {F H H':Hp} {As:Nat->List Addr} (s:Same H H'):Ev F H As F H' As [] :=
 ⟨Same.refl F,s,fun _ _ _ n _=>n,fun i _ m=>.inl ⟨i,m⟩,fun _ m=>(nomatch m),List.nodup_nil,fun _ _ _ z=>(nomatch z)⟩
theorem Ev.fresh {F H H':Hp} {As:Nat->List Addr} {A:List Addr} (s:Same H H') (h:∀ a∈A,H a=none) (nd:A.Nodup) (dom:∀ i a,a∈As i->∃ u:MO,H a=some u.1):Ev F H As F H' As A :=
 ⟨Same.refl F,s,fun _ _ _ n _=>n,fun i _ m=>.inl ⟨i,m⟩,fun a m=>.inr (h a m),nd,fun i a m z=>by
  obtain ⟨vs,e⟩:=dom i a m
  rw [h a z] at e;cases e⟩
theorem Ev.seq {F H F1 H1 F2 H2:Hp} {As As1 As2:Nat->List Addr} {A B:List Addr} (a:Ev F H As F1 H1 As1 A) (b:Ev F1 H1 As1 F2 H2 As2 B) (dA:∀ x∈A,∃ u:MO,H1 x=some u.1):Ev F H As F2 H2 As2 (A++B) where
 fs:=a.fs.trans b.fs
 hs:=a.hs.trans b.hs
 nf:=fun x vs e n h=>b.nf x vs (a.hs x _ e) (a.nf x vs e n h) fun i m=>by
  rcases a.fa i x m with ⟨j,z⟩ | z
  . exact h j z
  . rw [e] at z;cases z
 fa:=fun i x m=>by
  rcases b.fa i x m with ⟨j,z⟩ | z
  . exact a.fa j x z
  . refine .inr ?_
    cases q:H x with
    | none=>rfl
    | some u=>rw [a.hs x u q] at z;cases z
 fA:=fun x m=>by
  rcases Zn.mp m with z | z
  . exact a.fA x z
  . rcases b.fA x z with ⟨j,y⟩ | y
    . exact a.fa j x y
    . refine .inr ?_
      cases q:H x with
      | none=>rfl
      | some u=>rw [a.hs x u q] at y;cases y
 nd:=by
  refine List.nodup_append.mpr ⟨a.nd,b.nd,fun x hx y hy e=>?_⟩
  subst e
  rcases b.fA x hy with ⟨j,z⟩ | z
  . exact a.dj j x z hx
  . obtain ⟨vs,e⟩:=dA x hx
    rw [z] at e;cases e
 dj:=fun i x m z=>by
  rcases Zn.mp z with z | z
  . rcases b.fa i x m with ⟨j,y⟩ | y
    . exact a.dj j x y z
    . obtain ⟨vs,e⟩:=dA x z
      rw [y] at e;cases e
  . exact b.dj i x m z
theorem Ev.stays {K:PySem.W.Frag} {F1 H1 F2 H2:Hp} {As1 As2:Nat->List Addr} {A B:List Addr} {v:V} {d:D} (b:Ev F1 H1 As1 F2 H2 As2 B) (r:RepO K F1 H1 v d A) (dj:∀ i a,a∈As1 i->a ∉ A):RepO K F2 H2 v d A:=by
 have h1:RepO K F1 H2 v d A:=r.frame (cF b.hs) fun a m=>by
  obtain ⟨⟨vs,e⟩,_⟩:=r.dom a m
  rw [e];exact b.hs a _ e
 refine h1.froz b.fs fun a m=>?_
 obtain ⟨⟨vs,e⟩,n⟩:=r.dom a m
 exact b.nf a vs e n fun i z=>dj i a z m
def upV (K:PySem.W.Frag) (f:FM):TE:=fun σ H Q=>∃ F δ As d δ',RepA K F H σ δ As/\f δ=some (d,δ')/\∀ v F' H' A As',Ev F H As F' H' As' A->RepA K F' H' σ δ' As'->RepO K F' H' v d A->Q v H'
def Ba (K:PySem.W.Frag) (n:Nat) (f:FMA):TA:=fun σ H Q=>∃ F δ As ds δ',RepA K F H σ δ As/\f δ=some (ds,δ')/\∀ vs F' H' A As',Ev F H As F' H' As' A->RepA K F' H' σ δ' As'->RepOs K F' H' vs ds A->vs.length=n->Q vs H'
def PV (X:Cx) (e:Expr) (f:FM):Prop:=PE X e (upV X.K f)
def PVA (X:Cx) (es:List Expr) (f:FMA):Prop:=PA X es (Ba X.K es.length f)
def vI (f:FD):FM:=fun δ=>(f δ).bind fun d=>if imm d then some (d,δ) else none
def bn (i:Nat):FM:=fun δ=>match δ[i]? with
 | some (some (.seq ds))=>some (.seq ds,δ)
 | some (some d)=>if imm d then some (d,δ) else some (d,δ.set i none)
 | _=>none
def fZ:FMA:=fun δ=>some ([],δ)
def cm (f:FM) (g:FMA):FMA:=fun δ=>(f δ).bind fun p=>(g p.2).bind fun q=>some (p.1 :: q.1,q.2)
def jH (g:FMA):FM:=fun δ=>(g δ).bind fun p=>some (.lst p.1,p.2)
def nQ (g:FMA):FM:=fun δ=>(g δ).bind fun p=>some (.tup p.1,p.2)
def cI (G:List D->Option D) (g:FA):FM:=fun δ=>(g δ).bind fun ds=>(G ds).bind fun d=>if own d then some (d,δ) else none
def bV (K:PySem.W.Frag) (n:Nat) (G:List D->Option D):Sp:=fun vs H Q _=>vs.length=n/\∃ ds d,Reps K H vs ds/\G ds=some d/\∀ v H' A,Same H H'->RepO K H H' v d A->A.Nodup->Q v H'
section
variable {X:Cx} {e:Expr} {es:List Expr} {f:FD} {fm:FM} {g:FMA} {ga:FA} {pos p:Pos}
theorem aN (h:PD X e f):PV X e (vI f):=imp h fun σ H Q ⟨F,δ,As,d,δ',R,q,k⟩=>by
 unfold vI at q
 obtain ⟨d0,ed,q⟩:=Za.mp q
 split at q
 . rename_i hi
   cases q
   exact ⟨δ,d,R.toS,ed,fun v H' s r=>k v F H' [] As (.pure s) (R.grow s) (.imm hi r)⟩
 . cases q
theorem bq (i:Nat) {x:Str} (hN:X.N[i]? = some x:=by rfl) (hv:Vis X.env.scope x:=by first | exact Or.inl rfl | exact Or.inr (Or.inl rfl) | exact Or.inr (Or.inr rfl)) (hd:(x == ("__debug__":Str))=false:=by decide)
 (hcd:(x == ("__classdict__":Str))=false:=by decide):PV X (.Name x pos) (bn i) :=
 imp (pi hN hv hd hcd) fun σ H Q ⟨F,δ,As,d,δ',R,q,k⟩=>by
  unfold bn at q
  split at q
  . rename_i ds h
    cases q
    obtain ⟨v,h1,h2⟩:=R.val i _ h
    rw [h2.seq_nil rfl] at h2
    exact ⟨v,h1,k v F H [] As (.pure (Same.refl H)) R h2⟩
  . rename_i d0 _ h
    obtain ⟨v,h1,h2⟩:=R.val i _ h
    split at q
    . rename_i hi
      cases q
      have z:=h2.none_of hi
      rw [z] at h2
      exact ⟨v,h1,k v F H [] As (.pure (Same.refl H)) R h2⟩
    . cases q
      refine ⟨v,h1,k v F H (As i) (iN As i []) ⟨Same.refl F,Same.refl H,fun _ _ _ n _=>n,fun j a m=>?_,fun a m=>.inl ⟨i,m⟩,R.nd i,fun j a m=>?_⟩ (R.drop i) h2⟩
      . by_cases hj:j=i
        . subst hj;rw [aK] at m;cases m
        . rw [aI hj] at m;exact .inl ⟨j,m⟩
      . by_cases hj:j=i
        . subst hj;rw [aK] at m;cases m
        . rw [aI hj] at m;exact R.dj j i a hj m
  . cases q
theorem cb:PVA X [] fZ:=xw dW fun σ H Q ⟨F,δ,As,ds,δ',R,q,k⟩=>by
 cases q
 exact k [] F H [] As (.pure (Same.refl H)) R .nil rfl
theorem bG (ha:PV X e fm) (hr:PVA X es g) (hs:starEach (e :: es) X.env=(false,eval e X.env) :: starEach es X.env:=by rfl):PVA X (e :: es) (cm fm g):=xw (cA ha hr hs) fun σ H Q ⟨F,δ,As,ds,δ',R,q,k⟩=>by
 unfold cm at q
 obtain ⟨⟨d1,δ1⟩,e1,q⟩:=Za.mp q
 obtain ⟨⟨ds2,δ2⟩,e2,q⟩:=Za.mp q
 cases q
 refine ⟨F,δ,As,d1,δ1,R,e1,fun v F1 H1 A As1 ev1 R1 r1=>⟨F1,δ1,As1,ds2,δ2,R1,e2,fun vs F2 H2 B As2 ev2 R2 r2 l=>?_⟩⟩
 exact k (v :: vs) F2 H2 (A++B) As2 (ev1.seq ev2 fun x m=>(r1.dom x m).1) R2 (.cons (ev2.stays r1 ev1.dj) r2 rfl) (congrArg (· + 1) l)
theorem mP {x1} (h:PVA X es g) (hz:es.length<=1000:=by decide):PV X (.Tuple es x1 pos) (nQ g):=imp (vw h) fun σ H Q ⟨F,δ,As,d,δ',R,q,k⟩=>by
 unfold nQ at q
 obtain ⟨⟨ds,δ1⟩,e1,q⟩:=Za.mp q
 cases q
 refine ⟨F,δ,As,ds,_,R,e1,fun vs F1 H1 A As1 ev R1 r1 l=>⟨dR (by rw [l];exact hz),fun p hp=>?_⟩⟩
 have s:=cN hp (.tup vs)
 have ev':Ev F H As F1 (upd H1 p (.tup vs)) As1 A:=⟨ev.fs,ev.hs.trans s,ev.nf,ev.fa,ev.fA,ev.nd,ev.dj⟩
 refine k _ F1 _ A As1 ev' (R1.grow s) (.tup (SqT.of bx) (r1.frame (cF s) fun a m=>?_))
 obtain ⟨⟨ws,e⟩,_⟩:=r1.dom a m
 rw [e];exact s a _ e
theorem fq (h:PVA X es g) (hz:es.length<=1000:=by decide):PV X (.List es pos) (jH g):=imp (vy h) fun σ H Q ⟨F,δ,As,d,δ',R,q,k⟩=>by
 unfold jH at q
 obtain ⟨⟨ds,δ1⟩,e1,q⟩:=Za.mp q
 cases q
 refine ⟨F,δ,As,ds,_,R,e1,fun vs F1 H1 A As1 ev R1 r1 l=>⟨dR (by rw [l];exact hz),fun p hp=>?_⟩⟩
 have s:=cN hp (.lst vs)
 have np:∀ {u:Hp},Same u H1->u p=none:=fun {u} su=>by
  cases q:u p with
  | none=>rfl
  | some o=>rw [su p o q] at hp;cases hp
 have ev':Ev F H As F1 (upd H1 p (.lst vs)) As1 (p :: A):=⟨ev.fs,ev.hs.trans s,ev.nf,ev.fa,fun a m=>by
  rcases Zo.mp m with z | z
  . subst z;exact .inr (np ev.hs)
  . exact ev.fA a z,List.nodup_cons.mpr ⟨fun m=>(by
    obtain ⟨⟨ws,e⟩,_⟩:=r1.dom p m
    rw [hp] at e;cases e),ev.nd⟩,fun i a m z=>by
  rcases Zo.mp z with z | z
  . subst z
    obtain ⟨⟨ws,e⟩,_⟩:=R1.dom m
    rw [hp] at e;cases e
  . exact ev.dj i a m z⟩
 refine k _ F1 _ (p :: A) As1 ev' (R1.grow s) (.lst bx (np R1.fz) (r1.frame (cF s) fun a m=>?_))
 obtain ⟨⟨ws,e⟩,_⟩:=r1.dom a m
 rw [e];exact s a _ e
end
end Dl
namespace Dl
open PySem PySem.Spec PyProof.Rows L2
def RPM (X:Cx) (E:nP) (F:Hp):Res->Prop
 | .nx δ=>∀ σ' F' H',Same F F'->d9 X.K F' H' σ' δ->E.nx σ' H'
 | .rt d=>∀ v F' H' A,Same F F'->Same F' H'->RepO X.K F' H' v d A->A.Nodup->E.rt v H'
 | .bk δ=>∀ σ' F' H',Same F F'->d9 X.K F' H' σ' δ->E.bk σ' H'
 | .ct δ=>∀ σ' F' H',Same F F'->d9 X.K F' H' σ' δ->E.ct σ' H'
 | .ex C δ=>∀ σ' F' H',Same F F'->d9 X.K F' H' σ' δ->A7 X C σ' H'
 | .mk C δ=>∀ σ' F' H',Same F F'->d9 X.K F' H' σ' δ->yk X C σ' H'
theorem RPM.mono {X:Cx} {E:nP} {F F1:Hp} {r:Res} (s:Same F F1) (h:RPM X E F r):RPM X E F1 r:=by
 cases r with
 | nx δ=>exact fun σ' F' H' s2 R=>h σ' F' H' (s.trans s2) R
 | rt d=>exact fun v F' H' A s2=>h v F' H' A (s.trans s2)
 | bk δ=>exact fun σ' F' H' s2 R=>h σ' F' H' (s.trans s2) R
 | ct δ=>exact fun σ' F' H' s2 R=>h σ' F' H' (s.trans s2) R
 | ex C δ=>exact fun σ' F' H' s2 R=>h σ' F' H' (s.trans s2) R
 | mk C δ=>exact fun σ' F' H' s2 R=>h σ' F' H' (s.trans s2) R
def upM (X:Cx) (s:SD):TS:=fun E σ H=>∃ F δ r,d9 X.K F H σ δ/\s δ=some r/\RPM X E F r
def PMD (X:Cx) (st:Stmt) (s:SD):Prop:=PS X st (upM X s)
def PMs (X:Cx) (sts:List Stmt) (s:SD):Prop:=PSs X sts (upM X s)
section
variable {K:PySem.W.Frag} {F H:Hp} {σ:L2.St} {δ:DS} {As:Nat->List Addr}
theorem RepA.setM {v:V} {d:D} {A:List Addr} (R:RepA K F H σ δ As) (i:Nat) (r:RepO K F H v d A) (nd:A.Nodup) (dj:∀ j a,a∈As j->a ∉ A):d9 K F H (σ.set i (some v)) (δ.set i (some d)):=by
 by_cases hi:i < δ.length
 . exact ⟨_,R.set i hi r nd fun j a _ m=>dj j a m⟩
 . have hl:=R.len
   rw [List.set_eq_of_length_le (by omega),List.set_eq_of_length_le (by omega)]
   exact ⟨As,R⟩
end
section
variable {X:Cx} {st:Stmt} {rest:List Stmt} {s u:SD} {e:Expr} {f:FD} {fm:FM} {c:FT} {pos:Pos}
theorem cR:PMs X [] ba:=oB pd fun E σ H ⟨F,δ,r,R,e,k⟩=>by cases e;exact k σ F H (Same.refl F) R
theorem au (h1:PMD X st s) (h2:PMs X rest u):PMs X (st :: rest) (ax s u):=oB (mR h1 h2) fun E σ H ⟨F,δ,r,R,e,k⟩=>by
 unfold ax at e
 obtain ⟨r1,e1,e⟩:=Za.mp e
 refine ⟨F,δ,r1,R,e1,?_⟩
 cases r1 with
 | nx δ'=>exact fun σ' F' H' s1 R1=>⟨F',δ',r,R1,e,k.mono s1⟩
 | rt d=>cases e;exact k
 | bk d=>cases e;exact k
 | ct d=>cases e;exact k
 | ex C d=>cases e;exact k
 | mk C d=>cases e;exact k
theorem aF (h:PMD X st s):PMs X [st] s:=pc h
theorem eP {cx:Expr} {a b:List Stmt} (hc:PTD X cx c) (ha:PMs X a s) (hb:PMs X b u):PMD X (.If cx a b pos) (sIf c s u):=fV (vi hc ha hb) fun E σ H ⟨F,δ,r,⟨As,R⟩,q,k⟩=>by
 unfold sIf at q
 obtain ⟨d,ed,q⟩:=Za.mp q
 refine ⟨δ,d,R.toS,ed,fun H' s1=>?_⟩
 cases d with
 | true=>rw [if_pos rfl];exact ⟨F,δ,r,⟨As,R.grow s1⟩,q,k⟩
 | false=>rw [if_neg Bool.false_ne_true];exact ⟨F,δ,r,⟨As,R.grow s1⟩,q,k⟩
def av (i:Nat) (f:FM):SD:=fun δ=>(f δ).bind fun p=>some (.nx (p.2.set i (some p.1)))
def cw (f:FM):SD:=fun δ=>(f δ).bind fun p=>some (.rt p.1)
theorem aW (i:Nat) {x:Str} {pos':Pos} (hN:X.N.Nodup) (he:PV X e fm) (hi:X.N[i]? = some x:=by rfl) (hx:Loc X.env.scope x:=by first | exact Or.inl rfl | exact Or.inr rfl) (hs:swapsWith e (some (.Name x pos')) pos.line X.env=pure false:=by rfl) (hf:X.fn x=true \/ X.env.scope.names.lookup x=some .local:=by first | exact .inl rfl | exact .inr rfl | assumption) :
 PMD X (.Assign [.Name x pos'] e pos) (av i fm):=fV (rF hN hi hx he hs hf) fun E σ H ⟨F,δ,r,⟨As,R⟩,q,k⟩=>by
 unfold av at q
 obtain ⟨⟨d,δ'⟩,ed,q⟩:=Za.mp q
 cases q
 exact ⟨F,δ,As,d,δ',R,ed,fun v F' H' A As' ev R' r'=>k (σ.set i (some v)) F' H' ev.fs (R'.setM i r' ev.nd ev.dj)⟩
theorem bM (he:PV X e fm):PMD X (.Return (some e) pos) (cw fm):=fV (rG he) fun E σ H ⟨F,δ,r,⟨As,R⟩,q,k⟩=>by
 unfold cw at q
 obtain ⟨⟨d,δ'⟩,ed,q⟩:=Za.mp q
 cases q
 exact ⟨F,δ,As,d,δ',R,ed,fun v F' H' A As' ev R' r'=>k v F' H' A ev.fs R'.fz r' ev.nd⟩
end
def ItF (K:PySem.W.Frag) (J:It) (F:Hp) (ds:List D):Prop:=∀ i H2,Same F H2 ->
 (i < ds.length->J.go i H2/\∀ x H',J.yld i H2 x H'->H'=H2/\∃ d,ds[i]? = some d/\Rep K F x d)/\(ds.length<=i->J.stop i H2)
def Bc (K:PySem.W.Frag) (src:FMA):TI:=fun σ H R=>∃ F δ As ds δ',RepA K F H σ δ As/\src δ=some (ds,δ')/\∀ J F' H1 As',Same F F'->RepA K F' H1 σ δ' As'->ItF K J F' ds->R J H1
def PIM (X:Cx) (tg iter:Expr) (src:FMA):Prop:=PI X tg iter (Bc X.K src)
theorem qH {K:PySem.W.Frag} {F:Hp} {a:Addr} {vs:List V} {ds:List D} (hq:SqL K F a vs) (r:Reps K F vs ds):ItF K (Itl K a) F ds:=by
 intro i H2 s
 have hq2:=s.seq hq
 have hl:=r.length
 refine ⟨fun hi=>⟨⟨vs,vs[i],hq2,by simp [show i < vs.length by omega]⟩,fun x H' y=>?_⟩,fun hi=>⟨vs,hq2,by omega⟩⟩
 obtain ⟨e,y⟩:=y
 subst e
 obtain ⟨d,h1,h2⟩:=r.getV (y vs hq2)
 exact ⟨rfl,d,h1,h2⟩
def sk (f:FM):FMA:=fun δ=>(f δ).bind fun p=>match sh p.1 with
 | .seq ds=>some (ds,p.2)
 | _=>none
theorem vt {X:Cx} {tg l:Expr} {fm:FM} (hl:PV X l fm):PIM X tg l (sk fm):=rQ (l9 hl) fun σ H R ⟨F,δ,As,ds,δ',R0,e,k⟩=>by
 unfold sk at e
 obtain ⟨⟨d,δ1⟩,ed,e⟩:=Za.mp e
 dsimp only at e
 split at e
 . rename_i es hs
   cases e
   refine ⟨F,δ,As,d,_,R0,ed,fun v F1 H1 A As1 ev R1 r1=>?_⟩
   have s1:=nk (A:=A) R1.fz
   have s2:Same (frz F1 H1 A) H1:=rS
   have z:Rep X.K (frz F1 H1 A) v (sh d):=r1.freeze s1 qM fun a vs m e=>pH e m
   rw [hs] at z
   have R2:=R1.froz s1 s2 (fun j a m=>by
    obtain ⟨⟨vs,e⟩,n⟩:=R1.dom m
    exact jq e n (ev.dj j a m))
   cases z with
   | @seq p vs _ hp rp=>exact ⟨p,rfl,⟨vs,s2.seq hp⟩,k _ _ H1 As1 (ev.fs.trans s1) R2 (qH hp rp)⟩
 . cases e
theorem ul {K:PySem.W.Frag} {F:Hp} {lo:Int} {n:Nat}:ItF K (Itr lo n) F ((List.range n).map fun (i:Nat)=>D.int (lo+(i:Int)*1)):=by
 intro i H2 s
 refine ⟨fun hi=>?_,fun hi=>(show n<=i by simpa using hi)⟩
 have hi':i < n:=by simpa using hi
 refine ⟨hi',fun x H' y=>?_⟩
 obtain ⟨e,y⟩:=y
 subst e y
 refine ⟨rfl,.int (lo+(i:Int)*1),?_,by rw [Int.mul_one];exact .int _⟩
 rw [List.getElem?_map,List.getElem?_range hi']
 rfl
def bX (g:FA):FMA:=fun δ=>(g δ).bind fun ds=>(asR ds).bind fun rs=>if ds.length<=2 then some (rs,δ) else none
theorem aT {X:Cx} {tg a:Expr} {g:FA} {p pos:Pos} (hg:Gl X "range") (hm:X.mg "range" = none) (ha:PAD X [a] g) (hs:starEach [a] X.env=[(false,eval a X.env)]:=by rfl):PIM X tg (.Call (.Name "range" p) [a] [] pos) (bX g) :=
 rQ (ox hg hm ha hs) fun σ H R ⟨F,δ,As,ds,δ',R0,e,k⟩=>by
 unfold bX at e
 obtain ⟨xs,exs,e⟩:=Za.mp e
 obtain ⟨rs,ers,e⟩:=Za.mp e
 split at e
 . cases e
   refine ⟨δ,xs,R0.toS,exs,fun vs H1 s1 r1 l=>?_⟩
   match xs,r1,ers with
   | [.int b],r1,e =>
    obtain ⟨v,rfl,rv⟩:=gQ r1
    cases rv
    have e':(if -(2 ^ 62)<=b/\b < 2 ^ 62 then some (eM 0 b 1) else none)=some ds:=e
    by_cases hb:-(2 ^ 62)<=b/\b < 2 ^ 62
    . rw [if_pos hb] at e'
      have e2:eM 0 b 1=ds:=Option.some.inj e'
      refine ⟨b,rfl,hb.1,hb.2,k _ F H1 As (Same.refl F) (R0.grow s1) ?_⟩
      have h:=ul (K:=X.K) (F:=F) (lo:=0) (n:=b.toNat)
      have e3:((b - 0+1 - 1) / 1).toNat=b.toNat:=by congr 1;omega
      unfold eM at e2
      rw [e3] at e2
      rw [<- e2]
      exact h
    . rw [if_neg hb] at e';cases e'
   | [],r1,e=>cases r1;cases l
   | _ :: _ :: _,r1,e =>
    have:=r1.length
    rw [l] at this
    cases this
   | [.non],r1,e=>cases e
   | [.bl _],r1,e=>cases e
   | [.str _],r1,e=>cases e
   | [.tup _],r1,e=>cases e
   | [.lst _],r1,e=>cases e
   | [.seq _],r1,e=>cases e
   | [.ty _],r1,e=>cases e
   | [.dct],r1,e=>cases e
   | [.exc _],r1,e=>cases e
   | [.cls _],r1,e=>cases e
   | [.ms _ _],r1,e=>cases e
   | [.mf _ _],r1,e=>cases e
   | [.md _ _],r1,e=>cases e
 . cases e
def forM (i:Nat) (s:SD):List D->SD
 | []=>fun δ=>some (.nx δ)
 | d :: ds=>fun δ=>(s (δ.set i (some (sh d)))).bind fun r=>match r with
  | .nx δ'=>forM i s ds δ'
  | .ct δ'=>forM i s ds δ'
  | .bk δ'=>some (.nx δ')
  | .rt d=>some (.rt d)
  | .ex C δ'=>some (.ex C δ')
  | .mk C δ'=>some (.mk C δ')
def cn (src:FMA) (i:Nat) (s:SD):SD:=fun δ=>(src δ).bind fun p=>forM i s p.1 p.2
theorem cu {X:Cx} {iter:Expr} {body:List Stmt} {src:FMA} {s:SD} {x:Str} {px pos:Pos} (i:Nat) (hN:X.N.Nodup) (hp:PassesOwn (model X.prog X.w) X.A X.env X.xe) (hc:X.calm=true) (hi:PIM X (.Name x px) iter src) (hb:PMs X body s)
 (hx:X.N[i]? = some x:=by rfl) (hl:Loc X.env.scope x:=by first | exact Or.inl rfl | exact Or.inr rfl) (hf:X.fn x=true \/ X.env.scope.names.lookup x=some .local:=by first | exact .inl rfl | exact .inr rfl | assumption)
 (hs:∀ x,foldedSetIterable iter X.env x=pure x:=by intro _;rfl):PMD X (.For (.Name x px) iter body [] pos) (cn src i s):=fV (pe hp hc hi (kh hN hx hl hf) hb hs) fun E σ H ⟨F,δ,r,⟨As,R⟩,e,k⟩=>by
 unfold cn at e
 obtain ⟨⟨ds,δ1⟩,eds,e⟩:=Za.mp e
 refine ⟨F,δ,As,ds,δ1,R,eds,fun J F1 H1 As1 s1 R1 it=>?_⟩
 refine ⟨fun j m σ H=>m=ds.length - j/\j<=ds.length/\∃ F2 δ,Same F1 F2/\d9 X.K F2 H σ δ/\forM i s (ds.drop j) δ=some r/\RPM X E F2 r,⟨ds.length,rfl,Nat.zero_le _,F1,δ1,Same.refl _,⟨As1,R1⟩,e,k.mono s1⟩,?_⟩
 rintro j m σ H2 ⟨rfl,hjl,F2,δ2,s2,⟨As2,R2⟩,e2,k2⟩
 by_cases hlt:j < ds.length
 . obtain ⟨go,yl⟩:=(it j H2 (s2.trans R2.fz)).1 hlt
   rw [List.drop_eq_getElem_cons hlt] at e2
   obtain ⟨r4,e4,e2⟩:=Za.mp (show ((s (δ2.set i (some (sh ds[j])))).bind _)=some r from e2)
   refine .inr ⟨go,fun σ' H'=>∃ F3 δ,Same F1 F3/\d9 X.K F3 H' σ' δ/\forM i s (ds.drop (j+1)) δ=some r/\RPM X E F3 r,fun σ' H' z=>⟨ds.length - (j+1),by omega,rfl,hlt,z⟩,fun y H' yy=>?_⟩
   obtain ⟨eH,d,hd,rx⟩:=yl y H' yy
   subst eH
   have hd':d=ds[j]:=by
    rw [Zq hlt] at hd
    exact (Option.some.inj hd).symm
   subst hd'
   have R3:=R2.setM i (RepO.of_sh R2.fz (rx.mono s2)) List.nodup_nil fun _ _ _ z=>nomatch z
   refine ⟨F2,δ2.set i (some (sh ds[j])),r4,R3,e4,?_⟩
   cases r4 with
   | nx δ'=>exact fun σ' F' H'' s4 R4=>⟨F',δ',s2.trans s4,R4,e2,k2.mono s4⟩
   | ct δ'=>exact fun σ' F' H'' s4 R4=>⟨F',δ',s2.trans s4,R4,e2,k2.mono s4⟩
   | bk δ'=>cases e2;exact k2
   | rt d=>cases e2;exact k2
   | ex C δ'=>cases e2;exact k2
   | mk C δ'=>cases e2;exact k2
 . have e:j=ds.length:=by omega
   subst e
   rw [List.drop_length] at e2
   cases e2
   exact .inl ⟨(it _ H2 (s2.trans R2.fz)).2 (Nat.le_refl _),k2 σ F2 H2 (Same.refl _) ⟨As2,R2⟩⟩
def aS (n:Nat) (ds:List D):DS:=(shs ds).map some++List.replicate (n - ds.length) none
theorem jO {K:PySem.W.Frag} {H:Hp} {N:List Str} {vs:List V} {ds:List D} (r:Reps K H vs ds):d9 K H H (L2.start N vs) (aS N.length ds):=by
 have l2:(shs ds).length=ds.length:=by rw [dL,Zi]
 refine ⟨fun _=>[],Same.refl H,by unfold L2.start aS;simp [r.length,l2],fun i d q=>?_,fun _ _=>rfl,fun _=>List.nodup_nil,fun _ _ _ _ m=>nomatch m⟩
 unfold aS at q
 unfold L2.start
 have hi:i < ds.length:=by
  by_cases hi:i < ds.length
  . exact hi
  . rw [List.getElem?_append_right (by simpa [l2] using hi),List.getElem?_replicate] at q
    split at q <;> cases q
 rw [List.getElem?_append_left (by simpa [l2] using hi),List.getElem?_map] at q
 obtain ⟨e,h1,h2⟩:=Zb.mp q
 cases h2
 rw [dL,List.getElem?_map] at h1
 obtain ⟨d0,h3,h4⟩:=Zb.mp h1
 subst h4
 obtain ⟨v,h5,h6⟩:=r.get h3
 have hv:i < vs.length:=by rw [r.length];exact hi
 exact ⟨v,by rw [List.getElem?_append_left (by simpa using hv),List.getElem?_map,h5];rfl,RepO.of_sh (Same.refl H) h6⟩
section
variable {P:Program} {w:World} {K:PySem.W.Frag} {mg:Str->Option Value} {base:Heap}
theorem bZ {x qual:Str} {st:Stmt} {f:Addr} {fd:FuncData} {N ps:List Str} {k:Nat} {G:List D->Option D} (F:Fun K x qual st f fd) (S:aG N ps (am st))
 (hbody:∀ (cdv:Value) (A:Around) (outer:List Env) (s:Shared) (H:Hp) (E:XK) (ds:List D) (d:D),Room k (A.deeper (envOfC qual (am st) s.heap.objs.size f cdv))->G ds=some d->ds.length=ps.length ->
  ∃ t,PMs (lV CX0 P w K mg base N qual (am st) f cdv A outer s H E).nox (bK st) t/\aL (t (aS N.length ds))=some d/\own d=true):FnOk P w K mg base CX0 (k+1) f fd ps (bV K ps.length G):=by
 refine F.ok S (fun vs H Q E h=>h.1) (fun cdv A outer s H vs Q E hr h=>?_)
 obtain ⟨hl,ds,d,r,e,q⟩:=h
 obtain ⟨t,ht,hq,ho⟩:=hbody cdv A outer s H E ds d hr e (r.length.symm.trans hl)
 refine ⟨_,ht,H,aS N.length ds,?_⟩
 cases z:t (aS N.length ds) with
 | none=>rw [z] at hq;cases hq
 | some res =>
  rw [z] at hq
  refine ⟨res,jO r,rfl,?_⟩
  cases res with
  | rt d'=>cases hq;exact fun v F' H' A s1 s2 r1 nd=>q v H' A (s1.trans s2) (r1.thaw s1 ho) nd
  | nx δ=>cases hq;exact fun σ' F' H' s1 ⟨As,R⟩=>q _ H' [] (s1.trans R.fz) (.imm rfl .non) List.nodup_nil
  | bk δ=>cases hq
  | ct δ=>cases hq
  | ex C δ=>cases hq
  | mk C δ=>cases hq
structure HasF (P:Program) (w:World) (K:PySem.W.Frag) (mg:Str->Option Value) (base:Heap) (k:Nat) (x:Str) (ps:List Str) (G:List D->Option D):Prop where
 ex:∃ f fd,FnOk P w K mg base CX0 k f fd ps (bV K ps.length G)/\mg x=some (.ref f)/\PySem.W.keepIn K (.ref f)=true/\Binds K fd ps []
theorem HasF.has {k:Nat} {x:Str} {ps:List Str} {G:List D->Option D} (h:HasF P w K mg base k x ps G):Has P w K mg base k x ps G:=by
 obtain ⟨f,fd,F,h1,h2,h3⟩:=h.ex
 refine ⟨f,fd,F.imp fun vs H Q E ⟨l,ds,d,r,e,q⟩=>⟨l,ds,d,r,e,fun v H' A s r1 _=>q v H' s (r1.rep s)⟩,h1,h2,h3⟩
theorem xr {x qual q:Str} {st:Stmt} {f:Addr} {fd:FuncData} {N:List Str} {k:Nat} (F:Fun K x qual st f fd) (S:aG N [q] (am st))
 (hbody:∀ (cdv:Value) (A:Around) (outer:List Env) (s:Shared) (H:Hp) (E:XK) (ns:List Int),Room k (A.deeper (envOfC qual (am st) s.heap.objs.size f cdv))->ns.length<=63 ->
  ∃ t,PMs (lV CX0 P w K mg base N qual (am st) f cdv A outer s H E).nox (bK st) t/\aL (t (aS N.length [.seq (ns.map D.int)]))=some (.bl true)):FnOk P w K mg base CX0 (k+1) f fd [q] (spLaw K):=by
 refine F.ok S (fun vs H Q E h=>?_) (fun cdv A outer s H vs Q E hr h=>?_)
 . obtain ⟨a,ns,rfl,_⟩:=h
   rfl
 obtain ⟨a,ns,rfl,hS,hl,q⟩:=h
 obtain ⟨t,ht,hq⟩:=hbody cdv A outer s H E ns hr hl
 refine ⟨_,ht,H,aS N.length [.seq (ns.map D.int)],?_⟩
 cases z:t (aS N.length [.seq (ns.map D.int)]) with
 | none=>rw [z] at hq;cases hq
 | some res =>
  rw [z] at hq
  refine ⟨res,jO (.cons (.seq hS (Reps.ints ns)) .nil),rfl,?_⟩
  cases res with
  | rt d' =>
   cases hq
   intro v F' H' A s1 s2 r1 nd
   cases r1.rep s2
   exact q H'
  | nx δ=>cases hq
  | bk δ=>cases hq
  | ct δ=>cases hq
  | ex C δ=>cases hq
  | mk C δ=>cases hq
end
theorem cK {X:Cx} {e:Expr} {es:List Expr} {g:FA} {pos p:Pos} {k j:Nat} {x:Str} {ps:List Str} {G:List D->Option D} (F:HasF X.prog X.w X.K X.mg X.base k x ps G) (hr:Room j X.A) (ha:PAD X (e :: es) g) (hk:k<=j:=by decide) (hg:Gl X x:=by rfl)
 (hn:(e :: es).length=ps.length:=by rfl) (hdb:(x == ("__debug__":Str))=false:=by decide) (he:starEach (e :: es) X.env=(false,eval e X.env) :: starEach es X.env:=by rfl) (hpl:(backTo pos (starEach es X.env)).any (·.1)=false:=by rfl) :
 PV X (.Call (.Name x p) (e :: es) [] pos) (cI G g):=by
 obtain ⟨f,fd,F,hm,kp,hb⟩:=F.ex
 refine imp (ma F (hr.mono hk) hg hm kp hb .nil sW ha hdb he hpl) fun σ H Q ⟨F0,δ,As,d,δ',R,q,k⟩=>?_
 unfold cI at q
 obtain ⟨ds,eds,q⟩:=Za.mp q
 obtain ⟨d0,ed,q⟩:=Za.mp q
 split at q
 . rename_i ho
   cases q
   refine ⟨δ,ds,R.toS,eds,fun vs H1 s1 r1 l=>?_⟩
   show bV X.K ps.length G (vs++[]) H1 Q E0
   rw [List.append_nil]
   refine ⟨l.trans hn,ds,d,r1,ed,fun v H' A s2 r2 nd=>?_⟩
   have nA:∀ a∈A,H a=none:=fun a m=>by
    cases z:H a with
    | none=>rfl
    | some u=>have:=(r2.dom a m).2;rw [s1 a u z] at this;cases this
   exact k v F0 H' A As (.fresh (s1.trans s2) nA nd fun i a m=>(R.dom m).1) (R.grow (s1.trans s2)) (r2.thaw (R.fz.trans s1) ho)
 . cases q
end Dl
namespace Dl
open PySem PySem.Spec PyProof.Rows L2
section
variable {K:PySem.W.Frag} {F H:Hp} {σ:L2.St} {δ:DS} {As:Nat->List Addr}
theorem RepO.lst_inv {ds:List D}:∀ {v:V} {d:D} {A:List Addr},RepO K F H v d A->d=.lst ds->∃ a vs A0,v=.ref a/\A=a :: A0/\H a=some (.lst vs)/\F a=none/\RepOs K F H vs ds A0
 | _,_,_,.imm i _,e=>by subst e;rw [Dl.imm] at i;cases i
 | _,_,_,.shr _,e=>nomatch e
 | _,_,_,.tup _ _,e=>nomatch e
 | _,_,_,.lst h n r,e=>by cases e;exact ⟨_,_,_,rfl,rfl,h,n,r⟩
theorem RepA.lst {i:Nat} {ds:List D} (R:RepA K F H σ δ As) (h:δ[i]? = some (some (.lst ds))):∃ a vs A0,σ[i]? = some (some (.ref a))/\As i=a :: A0/\H a=some (.lst vs)/\F a=none/\RepOs K F H vs ds A0:=by
 obtain ⟨v,h1,h2⟩:=R.val i _ h
 obtain ⟨a,vs,A0,rfl,e,h3,h4,h5⟩:=h2.lst_inv rfl
 exact ⟨a,vs,A0,h1,e,h3,h4,h5⟩
theorem qi {a:Addr} {o:HO} (s:Same F H) (n:F a=none):Same F (upd H a o):=fun b u e=>by
 have:b ≠ a:=fun z=>by rw [z,n] at e;cases e
 rw [aH this];exact s b u e
theorem RepA.wr {i:Nat} {a:Addr} {vs vs':List V} {ds ds':List D} {A0 A':List Addr} (R:RepA K F H σ δ As) (h:δ[i]? = some (some (.lst ds))) (hσ:σ[i]? = some (some (.ref a))) (hA:As i=a :: A0) (ha:H a=some (.lst vs)) (hF:F a=none)
 (r:RepOs K F H vs' ds' A') (na:a ∉ A') (nd:A'.Nodup) (dj:∀ j x,j ≠ i->x∈As j->x ∉ A'):d9 K F (upd H a (.lst vs')) σ (δ.set i (some (.lst ds'))):=by
 have hi:i < δ.length:=(List.getElem?_eq_some_iff.mp h).1
 have nj:∀ j x,j ≠ i->x∈As j->x ≠ a:=fun j x hj m z=>R.dj j i x hj m (by rw [hA,z];exact Zk)
 refine ⟨_,R.write hi hσ (i3 ha) (qi R.fz hF) (fun j x hj m=>aH (nj j x hj m)) (.lst bx hF (r.frame (i3 ha) fun x m=>aH fun z=>na (z ▸ m))) (List.nodup_cons.mpr ⟨na,nd⟩) fun j x hj m z=>?_⟩
 rcases Zo.mp z with z | z
 . exact nj j x hj m z
 . exact dj j x hj m z
theorem RepA.row {i j:Nat} {ds row:List D} (R:RepA K F H σ δ As) (h:δ[i]? = some (some (.lst ds))) (hj:ds[j]? = some (.lst row)):∃ (a:Addr) (vs:List V) (b:Addr) (ws:List V) (B0 O:List Addr),σ[i]? = some (some (.ref a))/\H a=some (.lst vs)/\vs[j]? = some (.ref b)/\H b=some (.lst ws)/\RepOs K F H ws row B0/\(b :: B0).Nodup/\(∀ x,x∈b :: B0->x∈As i) /\
 (∀ x,x∈O->x∈As i)/\a∈O/\(∀ x,x∈b :: B0->x ∉ O) /\
 ∀ {ws':List V} {row':List D} {B':List Addr},RepOs K F H ws' row' B'->b ∉ B'->B'.Nodup->(∀ x,x∈B'->x ∉ O)->(∀ k x,k ≠ i->x∈As k->x ∉ B')->d9 K F (upd H b (.lst ws')) σ (δ.set i (some (.lst (ds.set j (.lst row'))))):=by
 obtain ⟨a,vs,A0,s1,eA,g1,n1,ro⟩:=R.lst h
 obtain ⟨v0,A1,B,A3,hv,rB,e0,pk⟩:=ro.pick hj
 obtain ⟨b,ws,B0,rfl,eB,g2,n2,rr⟩:=rB.lst_inv rfl
 subst eB
 have nd0:=R.nd i
 rw [eA,e0] at nd0
 have nd1:=List.nodup_cons.mp nd0
 have nd2:=List.nodup_append.mp nd1.2
 have nd3:=List.nodup_append.mp nd2.2.1
 have inB:∀ x,x∈b :: B0->x∈As i:=fun x m=>by rw [eA,e0];exact Zl _ (List.mem_append_right _ (List.mem_append_left _ m))
 have inO:∀ x,x∈a :: (A1++A3)->x∈As i:=fun x m=>by
  rw [eA,e0]
  rcases Zo.mp m with z | z
  . rw [z];exact Zk
  . refine Zl _ ?_
    rcases Zn.mp z with z | z
    . exact List.mem_append_left _ z
    . exact List.mem_append_right _ (List.mem_append_right _ z)
 have sep:∀ x,x∈b :: B0->x ∉ a :: (A1++A3):=fun x m z=>by
  rcases Zo.mp z with z | z
  . rw [z] at m;exact nd1.1 (List.mem_append_right _ (List.mem_append_left _ m))
  . rcases Zn.mp z with z | z
    . exact nd2.2.2 x z x (List.mem_append_left _ m) rfl
    . exact nd3.2.2 x m x z rfl
 refine ⟨a,vs,b,ws,B0,a :: (A1++A3),s1,g1,hv,g2,rr,nd3.1,inB,inO,Zk,sep,fun {ws' row' B'} r' nb nd' sO sK=>?_⟩
 have hi:i < δ.length:=(List.getElem?_eq_some_iff.mp h).1
 have hab:a ≠ b:=fun z=>sep b Zk (by rw [z];exact Zk)
 have nO:∀ x,x∈a :: (A1++A3)->x ≠ b:=fun x m z=>sep b Zk (z ▸ m)
 have rowN:RepO K F (upd H b (.lst ws')) (.ref b) (.lst row') (b :: B'):=.lst bx n2 (r'.frame (i3 g2) fun x m=>aH fun z=>nb (z ▸ m))
 have tree:=pk (i3 (o:=.lst ws') g2) (fun x m=>aH (nO x (Zl _ (by
  rcases m with m | m
  . exact List.mem_append_left _ m
  . exact List.mem_append_right _ m)))) rowN
 have hset:vs.set j (.ref b)=vs:=by
  refine List.ext_getElem? fun k=>?_
  rw [List.getElem?_set]
  split
  . rename_i hk;subst hk
    rw [hv,if_pos (List.getElem?_eq_some_iff.mp hv).1]
  . rfl
 rw [hset] at tree
 have nj:∀ k x,k ≠ i->x∈As k->x ≠ b:=fun k x hk m z=>R.dj k i x hk m (z ▸ inB b Zk)
 refine ⟨_,R.write hi s1 (i3 g2) (qi R.fz n2) (fun k x hk m=>aH (nj k x hk m)) (.lst (by rw [aH hab];exact g1) n1 tree) ?_ fun k x hk m z=>?_⟩
 . refine List.nodup_cons.mpr ⟨fun z=>?_,List.nodup_append.mpr ⟨nd2.1,List.nodup_append.mpr ⟨List.nodup_cons.mpr ⟨nb,nd'⟩,nd3.2.1,fun x hx y hy e=>?_⟩,fun x hx y hy e=>?_⟩⟩
   . rcases Zn.mp z with z | z
     . exact nd1.1 (List.mem_append_left _ z)
     . rcases Zn.mp z with z | z
       . rcases Zo.mp z with z | z
         . exact hab z
         . exact sO a z Zk
       . exact nd1.1 (List.mem_append_right _ (List.mem_append_right _ z))
   . subst e
     rcases Zo.mp hx with z | z
     . exact nO x (Zl _ (List.mem_append_right _ hy)) z
     . exact sO x z (Zl _ (List.mem_append_right _ hy))
   . subst e
     rcases Zn.mp hy with z | z
     . rcases Zo.mp z with z | z
       . exact nO x (Zl _ (List.mem_append_left _ hx)) z
       . exact sO x z (Zl _ (List.mem_append_left _ hx))
     . exact nd2.2.2 x hx x (List.mem_append_right _ z) rfl
 . rcases Zo.mp z with z | z
   . exact R.dj k i x hk m (inO x (by rw [z];exact Zk))
   . rcases Zn.mp z with z | z
     . exact R.dj k i x hk m (inO x (Zl _ (List.mem_append_left _ z)))
     . rcases Zn.mp z with z | z
       . rcases Zo.mp z with z | z
         . exact nj k x hk m z
         . exact sK k x hk m z
       . exact R.dj k i x hk m (inO x (Zl _ (List.mem_append_right _ z)))
end
def iw (i:Nat) (fm:FM):SD:=fun δ=>match δ[i]? with
 | some (some (.lst _))=>(fm δ).bind fun p=>match p.2[i]? with
  | some (some (.lst ds))=>if ds.length<=999 then some (.nx (p.2.set i (some (.lst (ds++[p.1]))))) else none
  | _=>none
 | _=>none
section
variable {X:Cx} {e ei:Expr} {fk:FD} {fm:FM} {pos p1 p2 p3 p4:Pos}
theorem kT (i:Nat) {c:Expr} (hc:PE X c (tBM X.K "list" l6 (mD i) (n9 (upV X.K fm) wA))) (hs:swapsWith c none pos.line X.env=pure false:=by rfl):PMD X (.Expr c pos) (iw i fm):=fV (ke hc hs) fun E σ H ⟨F,δ,r,⟨As,R⟩,q,k⟩=>by
 unfold iw at q
 split at q
 . rename_i ds0 h0
   obtain ⟨⟨d,δ'⟩,ed,q⟩:=Za.mp q
   dsimp only at q
   split at q
   . rename_i ds h1
     split at q
     . rename_i hz
       cases q
       obtain ⟨a,vs0,A00,s0,_,g0,_,_⟩:=R.lst h0
       refine ⟨.ref a,s0,.inl ⟨rfl,_,SqL.of g0⟩,F,δ,As,d,δ',R,ed,fun v F' H' A As' ev R' r'=>?_⟩
       obtain ⟨a1,vs,A0,s1,eA,g1,n1,ro⟩:=R'.lst h1
       have ea:a1=a:=by rw [s0] at s1;cases s1;rfl
       subst ea
       refine ⟨a1,vs,v,rfl,rfl,g1,Nat.lt_of_le_of_lt (by rw [ro.length];exact hz) (je (show 999<=1000 by decide)),?_⟩
       have nd0:=R'.nd i
       rw [eA] at nd0
       have nd1:=List.nodup_cons.mp nd0
       have ai:a1∈As' i:=by rw [eA];exact Zk
       refine k σ F' _ ev.fs (R'.wr h1 s1 eA g1 n1 (ro.snoc r') (fun z=>?_) (List.nodup_append.mpr ⟨nd1.2,ev.nd,fun x hx y hy e=>?_⟩) fun j x hj m z=>?_)
       . rcases Zn.mp z with z | z
         . exact nd1.1 z
         . exact ev.dj i a1 ai z
       . subst e
         exact ev.dj i x (by rw [eA];exact Zl _ hx) hy
       . rcases Zn.mp z with z | z
         . exact R'.dj j i x hj m (by rw [eA];exact Zl _ z)
         . exact ev.dj j x m z
     . cases q
   . cases q
 . cases q
def gB (i:Nat) (fk:FD) (fm:FM):SD:=fun δ=>match δ[i]? with
 | some (some (.lst ds))=>(fk δ).bind fun kd=>match kd with
  | .int k=>(ixN ds.length k).bind fun j=>match ds[j]? with
   | some (.lst _)=>(fm δ).bind fun p=>match p.2[i]? with
    | some (some (.lst es))=>match es[j]? with
     | some (.lst row)=>if row.length<=999/\es.length=ds.length then some (.nx (p.2.set i (some (.lst (es.set j (.lst (row++[p.1]))))))) else none
     | _=>none
    | _=>none
   | _=>none
  | _=>none
 | _=>none
theorem pg (i:Nat) {c:Expr} (hc:PE X c (tBM X.K "list" l6 (tOp (ua X.K) (mD i) (up X.K fk)) (n9 (upV X.K fm) wA))) (hs:swapsWith c none pos.line X.env=pure false:=by rfl):PMD X (.Expr c pos) (gB i fk fm):=fV (ke hc hs) fun E σ H ⟨F,δ,r,⟨As,R⟩,q,k⟩=>by
 unfold gB at q
 split at q
 . rename_i ds h0
   obtain ⟨kd,ek,q⟩:=Za.mp q
   split at q
   . rename_i kk
     obtain ⟨j,hj,q⟩:=Za.mp q
     split at q
     . rename_i row0 hrow0
       obtain ⟨⟨d,δ'⟩,ed,q⟩:=Za.mp q
       dsimp only at q
       split at q
       . rename_i es h1
         split at q
         . rename_i row hrow
           split at q
           . rename_i hz
             cases q
             obtain ⟨a,vs,b,ws,B0,O,s0,g0,hv0,gb,rr0,_,_,_,_,_⟩:=R.row h0 hrow0
             have ro0:=(R.lst h0)
             obtain ⟨a',vs',A0',s0',_,g0',_,rl⟩:=ro0
             have ea:a'=a:=by rw [s0] at s0';cases s0';rfl
             subst ea
             have ev':vs'=vs:=by rw [g0] at g0';cases g0';rfl
             subst ev'
             refine ⟨.ref a',s0,δ,.int kk,R.toS,ek,fun iv H1 s1 ri=>?_⟩
             cases ri
             refine ⟨a',vs',kk,.ref b,rfl,rfl,SqL.of (s1 _ _ g0),?_,.inl ⟨rfl,ws,SqL.of (s1 _ _ gb)⟩,?_⟩
             . unfold L2.atI;rw [rl.length,hj];exact hv0
             refine ⟨F,δ,As,d,δ',R.grow s1,ed,fun v F' H' A As' ev R' r'=>?_⟩
             obtain ⟨a1,vs1,b1,ws1,B1,O1,t0,u0,hv1,ub,rr1,ndB,inB,inO,aO,sep,fin⟩:=R'.row h1 hrow
             have ea:a1=a':=by rw [s0] at t0;cases t0;rfl
             subst ea
             have es1:vs1=vs':=by
              have:=(ev.hs _ _ (s1 _ _ g0))
              rw [u0] at this;cases this;rfl
             subst es1
             have eb:b1=b:=by rw [hv0] at hv1;cases hv1;rfl
             subst eb
             have nB:=List.nodup_cons.mp ndB
             refine ⟨b1,ws1,v,rfl,rfl,ub,Nat.lt_of_le_of_lt (by rw [rr1.length];exact hz.1) (je (show 999<=1000 by decide)),?_⟩
             refine k σ F' _ ev.fs (fin (rr1.snoc r') (fun z=>?_) (List.nodup_append.mpr ⟨nB.2,ev.nd,fun x hx y hy e=>?_⟩) (fun x m z=>?_) fun kx x hk m z=>?_)
             . rcases Zn.mp z with z | z
               . exact nB.1 z
               . exact ev.dj i b1 (inB b1 Zk) z
             . subst e;exact ev.dj i x (inB x (Zl _ hx)) hy
             . rcases Zn.mp m with m | m
               . exact sep x (Zl _ m) z
               . exact ev.dj i x (inO x z) m
             . rcases Zn.mp z with z | z
               . exact R'.dj kx i x hk m (inB x (Zl _ z))
               . exact ev.dj kx x m z
           . cases q
         . cases q
       . cases q
     . cases q
   . cases q
 . cases q
def dH (i:Nat) (fk fl:FD) (fm:FM):SD:=fun δ=>(fm δ).bind fun p=>if imm p.1 then match p.2[i]? with
 | some (some (.lst ds))=>(fk p.2).bind fun kd=>match kd with
  | .int k=>(ixN ds.length k).bind fun j=>match ds[j]? with
   | some (.lst row)=>(fl p.2).bind fun ld=>match ld with
    | .int l=>(ixN row.length l).bind fun m=>some (.nx (p.2.set i (some (.lst (ds.set j (.lst (row.set m p.1)))))))
    | _=>none
   | _=>none
  | _=>none
 | _=>none else none
theorem kf (i:Nat) {tg:Expr} {fl:FD} (he:PV X e fm) (hg:PG X tg (xB (tOp (ua X.K) (mD i) (up X.K fk)) (up X.K fl) sN)) (hs:swapsWithSole [tg] e pos.line X.env=pure false:=by rfl) (hw:swappedStores [tg] e X.env=pure none:=by rfl)
 (h1:(assignEach [tg] X.env).map (·.2)=[assign tg X.env]:=by rfl):PMD X (.Assign [tg] e pos) (dH i fk fl fm):=fV (rH he hg hs hw h1) fun E σ H ⟨F,δ,r,⟨As,R⟩,q,k⟩=>by
 unfold dH at q
 obtain ⟨⟨d,δ'⟩,ed,q⟩:=Za.mp q
 dsimp only at q
 split at q
 . rename_i hi
   split at q
   . rename_i ds h1
     obtain ⟨kd,ek,q⟩:=Za.mp q
     split at q
     . rename_i kk
       obtain ⟨j,hj,q⟩:=Za.mp q
       split at q
       . rename_i row hrow
         obtain ⟨ld,el,q⟩:=Za.mp q
         split at q
         . rename_i ll
           obtain ⟨m,hm,q⟩:=Za.mp q
           cases q
           refine ⟨F,δ,As,d,δ',R,ed,fun v F' H' A As' ev R' r'=>?_⟩
           have eA:A=[]:=r'.none_of hi
           subst eA
           obtain ⟨a,vs,A0,s0,_,g0,_,rl⟩:=R'.lst h1
           refine ⟨.ref a,s0,δ',.int kk,R'.toS,ek,fun iv H1 s1 ri=>?_⟩
           cases ri
           have R1:=R'.grow s1
           obtain ⟨a1,vs1,b,ws,B0,O,t0,u0,hv1,ub,rr1,ndB,inB,inO,aO,sep,_⟩:=R1.row h1 hrow
           have ea:a1=a:=by rw [s0] at t0;cases t0;rfl
           subst ea
           have es1:vs1=vs:=by
            have:=s1 _ _ g0
            rw [u0] at this;cases this;rfl
           subst es1
           refine ⟨a1,vs1,kk,.ref b,rfl,rfl,SqL.of u0,by unfold L2.atI;rw [rl.length,hj];exact hv1,?_⟩
           refine ⟨δ',.int ll,R1.toS,el,fun iv2 H2 s2 ri2=>?_⟩
           cases ri2
           have R2:=R1.grow s2
           obtain ⟨a2,vs2,b2,ws2,B2,O2,t2,u2,hv2,ub2,rr2,ndB2,inB2,inO2,aO2,sep2,fin⟩:=R2.row h1 hrow
           have ea:a2=a1:=by rw [s0] at t2;cases t2;rfl
           subst ea
           have es2:vs2=vs1:=by
            have:=s2 _ _ u0
            rw [u2] at this;cases this;rfl
           subst es2
           have eb:b2=b:=by rw [hv1] at hv2;cases hv2;rfl
           subst eb
           refine ⟨b2,ws2,ll,m,rfl,rfl,ub2,by rw [rr2.length];exact hm,?_⟩
           have ml:m < row.length:=(mh hm).2.1
           obtain ⟨v0,C1,C,C3,_,_,eC,pk⟩:=rr2.pick (i:=m) (d:=row[m]) (Zq ml)
           have rv:RepO X.K F' H2 v d []:=r'.frame (cF (s1.trans s2)) fun x mm=>nomatch mm
           have rn:=pk (H':=H2) (fun _ _ e _=>e) (fun _ _=>rfl) rv
           have nB:=List.nodup_cons.mp ndB2
           have nB2:=nB.2
           rw [eC] at nB2
           have n1:=List.nodup_append.mp nB2
           have n2:=List.nodup_append.mp n1.2.1
           have inC:∀ x,x∈C1++([]++C3)->x∈B2:=fun x mm=>by
            rw [eC]
            rcases Zn.mp mm with z | z
            . exact List.mem_append_left _ z
            . exact List.mem_append_right _ (List.mem_append_right _ (by simpa using z))
           refine k σ F' _ ev.fs (fin rn (fun z=>nB.1 (inC _ z)) (List.nodup_append.mpr ⟨n1.1,by simpa using n2.2.1,fun x hx y hy e=>?_⟩) (fun x mm=>sep2 x (Zl _ (inC x mm))) fun kx x hk mm z=>R2.dj kx i x hk mm (inB2 x (Zl _ (inC x z))))
           subst e
           exact n1.2.2 x hx x (List.mem_append_right _ (by simpa using hy)) rfl
         . cases q
       . cases q
     . cases q
   . cases q
 . cases q
end
end Dl
namespace Dl
open PySem PySem.Spec PyProof.Rows L2
def shO (δ:DS):DS:=δ.map (Option.map sh)
def ownOf (f:FM) (δ:DS):Option D:=(f δ).bind fun p=>if own p.1 then some p.1 else none
theorem RepS.toA {K:PySem.W.Frag} {H:Hp} {σ:L2.St} {δ:DS} (R:RepS K H σ δ):RepA K H H σ (shO δ) (fun _=>[]):=by
 refine ⟨Same.refl H,by unfold shO;rw [Zi];exact R.len,fun i d q=>?_,fun _ _=>rfl,fun _=>List.nodup_nil,fun _ _ _ _ m=>nomatch m⟩
 unfold shO at q
 rw [List.getElem?_map] at q
 obtain ⟨o,h1,h2⟩:=Zb.mp q
 cases o with
 | none=>cases h2
 | some d0 =>
  cases h2
  obtain ⟨v,h3,h4⟩:=R.val i d0 h1
  exact ⟨v,h3,RepO.of_sh (Same.refl H) h4⟩
theorem x3 {K:PySem.W.Frag} {H₂ H4:Hp} {σ:L2.St} {δ:DS} {f:FM} {e:D} (h:ownOf f (shO δ)=some e) (R:RepS K H4 σ δ) (s:Same H₂ H4):upV K f σ H4 fun v H5=>Same H4 H5/\∃ A,RepO K H₂ H5 v e A/\A.Nodup/\∀ a∈A,H4 a=none:=by
 unfold ownOf at h
 obtain ⟨⟨d,δ'⟩,e1,h⟩:=Za.mp h
 split at h
 . rename_i ho
   cases h
   refine ⟨H4,shO δ,fun _=>[],d,δ',R.toA,e1,fun v F' H' A As' ev R' r'=>⟨ev.hs,A,(r'.thaw ev.fs ho).thaw s ho,ev.nd,fun a m=>?_⟩⟩
   rcases ev.fA a m with ⟨j,z⟩ | z
   . cases z
   . exact z
 . cases h
theorem dr {H H':Hp} {a:Addr} (s:Same H H') (h:H' a=none):H a=none:=by
 cases q:H a with
 | none=>rfl
 | some u=>rw [s a u q] at h;cases h
theorem t3 {K:PySem.W.Frag} {F H H':Hp} {vs:List V} {ds:List D} {Acc A:List Addr} {v:V} {e:D} (r:RepOs K F H vs ds Acc) (nd:Acc.Nodup) (s:Same H H') (r':RepO K F H' v e A) (nd':A.Nodup) (fr:∀ a∈A,H a=none):∃ Acc',RepOs K F H' (vs++[v]) (ds++[e]) Acc'/\Acc'.Nodup:=by
 refine ⟨Acc++A,(r.frame (cF s) fun a m=>?_).snoc r',List.nodup_append.mpr ⟨nd,nd',fun x hx y hy q=>?_⟩⟩
 . obtain ⟨⟨ws,e⟩,_⟩:=r.dom a m
   rw [e];exact s a _ e
 . subst q
   obtain ⟨⟨ws,e⟩,_⟩:=r.dom x hx
   rw [fr x hy] at e;cases e
section
variable {X:Cx} {pins:List (Addr×Obj)} {σ:L2.St} {H₂:Hp} {s₂:Shared} {scope:Scope} {cl:List (Str×Addr)} {x:Str} {N:List Str} {js:List Nat} {C:Addr} {fp:List Addr}
theorem lH {elt iter:Expr} {px pos:Pos} {it:Addr} {tn:Nat->Heap->Prop} {J:It} {ds xs:List D} {δ:DS} {felt:FM} {RR:Value->Addr->Result->Shared->Prop} {E:Value->Shared->Prop} (I:L2.Inv X pins σ H₂ s₂) (hcm:X.calm=true) (O:CompOk X scope cl x N js)
 (T:sd X.prog X.w X.K (.Name x px) J fp it tn) (st:tn 0 s₂.heap) (hf:∀ b∈fp,iP X pins H₂ b) (itd:ItD X.K J H₂ ds) (R:RepS X.K H₂ σ δ) (he:∀ C s₂ H₂ fp pn,PV (cG X scope cl x N C s₂ H₂ fp pn) elt felt)
 (hm:lQ (fun d=>ownOf felt (shO (some d :: bF js δ))) ds=some xs) (hz:xs.length<=1000)
 (hRR:∀ (D C:Addr) (s':Shared) (Hend:Hp) (vs:List V),s₂.heap.objs.size<=C->L2.Inv X pins σ Hend s'->Same H₂ Hend->Hend D=some (.lst vs)->(∃ Acc,RepOs X.K H₂ Hend vs xs Acc/\Acc.Nodup/\D ∉ Acc/\H₂ D=none)->(∃ m,s'.heap.Ns C m)->Hend C=none->RR (.ref D) C (.ok .next) s') :
 wpAny (model X.prog X.w) X.A (newList []) (fun acc s₃=>wpAny (model X.prog X.w) X.A (newFunctionEnv scope X.env.globals cl [] X.env.qual none .none (some X.env)) (fun cenv s₄ =>
  codeAny (model X.prog X.w) X.A (.compStart (.ListComp elt [⟨.Name x px,iter,[],0⟩] scope pos) 0 (.ref it) acc { cenv with scope:=relabel scope X.env }) (RR acc cenv.locals) s₄) E s₃) E s₂:=by
 obtain ⟨ml,mg'⟩:=ng hm
 have objs:=T.obj 0 s₂.heap st
 have objs':∀ b∈fp,∃ o,s₂.heap.get? b=some o:=fun b hb=>let ⟨o,h,_⟩:=objs b hb;⟨o,h⟩
 refine wpAny_newObj_type (wpAny_newFunctionEnv O.nocell (by intro y hy;simp at hy) (fun h₁ hns₁ hsb₁=>?_) O.kind)
 dsimp only at hns₁ hsb₁ ⊢
 generalize hP:s₂.heap.push { cls:=.type "list",dict:=none,data:=.seq ([]:List Value).toArray }=P2 at hns₁ hsb₁ ⊢
 have hC:P2.objs.size=s₂.heap.objs.size+1:=by rw [<- hP,Heap.size_push]
 generalize hCC:P2.objs.size=C at *
 have hCle:s₂.heap.objs.size<=C:=by omega
 have hDle:s₂.heap.objs.size<=s₂.heap.objs.size:=by omega
 have hDC:s₂.heap.objs.size ≠ C:=by omega
 have old:∀ b o,s₂.heap.get? b=some o->h₁.get? b=some o:=fun b o e=>by
  refine hsb₁.extBut b o (Nat.ne_of_lt (Nat.lt_of_lt_of_le (Heap.lt_size e) hCle)) (Heap.get?_push_of_some _ ?_)
  rw [<- hP]
  exact Heap.get?_push_of_some _ e
 have hacc:h₁.get? s₂.heap.objs.size=some { cls:=.type "list",data:=.seq ([]:List Value).toArray }:=by
  refine hsb₁.extBut s₂.heap.objs.size _ hDC (Heap.get?_push_of_some _ ?_)
  rw [<- hP]
  exact Heap.get?_push_size _ rfl
 have I0:=fun tk=>nF (C:=C) (tk:=tk) I hcm O hCle hf objs' old hns₁ I.len
 have dstk:s₂.heap.objs.size ∉ frs X.stack:=iZ I hDle
 have fne:∀ b∈fp,b ≠ s₂.heap.objs.size:=fun b hb e=>by
  obtain ⟨o,h⟩:=objs' b hb
  exact absurd (Heap.lt_size h) (by rw [e];exact Nat.lt_irrefl _)
 have cne:∀ y c,cl.lookup y=some c->c ≠ s₂.heap.objs.size:=fun y c e z=>by
  obtain ⟨v,o,h1,_⟩:=I.cell y c (O.cls y c e)
  exact absurd (Heap.lt_size h1) (by rw [z];exact Nat.lt_irrefl _)
 have pne:∀ p∈X.pn++pins,p.1 ≠ s₂.heap.objs.size:=fun p hp e=>by
  exact absurd (Heap.lt_size (I.pin p hp).1) (by rw [e];exact Nat.lt_irrefl _)
 have stat:∀ {H':Hp} {pl:List (Addr×Obj)},(∀ b∈fp,H' b=none)->(∀ p∈pl,∀ b∈fp,p.1 ≠ b)->∀ b∈fp,iP (cG X scope cl x N C s₂ H₂ fp (X.pn++pins)) pl H' b:=fun {H' pl} hn hpl b hb=>by
  obtain ⟨o,h⟩:=objs' b hb
  refine ⟨hn b hb,Nat.ne_of_lt (Nat.lt_of_lt_of_le (Heap.lt_size h) hCle),fun z=>?_,.inl hb,fun y c e=>(hf b hb).2.2.2.2.1 y c (O.cls y c e),fun p hp=>?_⟩
  . rcases Zo.mp (I.stkSub b z) with e | e
    . exact (hf b hb).2.1 e
    . exact (hf b hb).2.2.1 e
  . rcases Zn.mp hp with q | q
    . exact (hf b hb).2.2.2.2.2 p q
    . exact hpl p q b hb
 have loop:∀ s₃:Shared,s₃={ s₂ with heap:=h₁,toks:=s₂.toks+([]:List (Str×Value)).length } ->
  codeAny (model X.prog X.w) X.A (.compLoop (.ListComp elt [⟨.Name x px,iter,[],0⟩] scope pos) 0 (.ref it) (.ref s₂.heap.objs.size) (compEnvC scope cl C X.env)) (RR (.ref s₂.heap.objs.size) C) s₃:=by
  rintro s₃ rfl
  refine kC (fun n s=>∃ (i:Nat) (σ':L2.St) (H':Hp) (vs:List V) (o:Option D),n=ds.length - i/\i<=ds.length/\L2.Inv (cG X scope cl x N C s₂ H₂ fp (X.pn++pins)) [] σ' H' s/\Same H₂ H'/\RepS X.K H' σ' (o :: bF js δ)/\tn i s.heap/\(∀ b∈fp,H' b=none) /\
   (∃ (its:List Value) (k:Nat),Vals vs its/\s.heap.get? s₂.heap.objs.size=some { cls:=.type "list",data:=.seq its.toArray k })/\H' s₂.heap.objs.size=none/\(∃ Acc,RepOs X.K H₂ H' vs (xs.take i) Acc/\Acc.Nodup)/\vs.length=i) ?_ ds.length
   ⟨0,_,H₂,[],none,rfl,Nat.zero_le _,I0 _,Same.refl _,kL R js,T.keep 0 _ _ st (fun b hb o e=>old b o e),fun b hb=>(hf b hb).1,⟨[],0,.nil,hacc⟩,I.hok.fresh hDle,⟨[],.nil,List.nodup_nil⟩,rfl⟩
  rintro n s ⟨i,σ',H',vs,o,rfl,hi,I',sm,R',st',fr',⟨its,k,rv,hD⟩,fD,⟨Acc,rr,nda⟩,hl⟩
  by_cases hlt:i < ds.length
  . -- one more
    obtain ⟨go,yl⟩:=(itd i H' sm).1 hlt
    have hd0:ds[i]? = some ds[i]:=by simp [hlt]
    obtain ⟨e,ge,xe⟩:=mg' i _ hd0
    have I1:L2.Inv (cG X scope cl x N C s₂ H₂ fp (X.pn++pins)) [(s₂.heap.objs.size,{ cls:=.type "list",data:=.seq its.toArray k })] σ' H' s:=I'.pins_of fun p hp=>by
     have:p=(s₂.heap.objs.size,{ cls:=.type "list",data:=.seq its.toArray k }):=by simpa using hp
     subst this
     exact ⟨hD,fD,hDC,dstk,fun v z=>by cases z⟩
    refine thn (T.item (cG X scope cl x N C s₂ H₂ fp (X.pn++pins)) rfl rfl rfl rfl i _ s σ' H' (fun _ _=>False) I1 (stat fr' fun p hp b hb=>by
     have:p=(s₂.heap.objs.size,{ cls:=.type "list",data:=.seq its.toArray k }):=by simpa using hp
     subst this
     exact (fne b hb).symm) st' go) fun r s1 ⟨u,hr,h4⟩=>?_
    subst hr
    refine thn h4 fun _ s2 ⟨y,H'',I2,ru,yy,st2,fr2⟩=>?_
    obtain ⟨s3,d,hd,rd⟩:=yl y H'' yy
    have hd':d=ds[i]:=by rw [hd0] at hd;exact (Option.some.inj hd).symm
    subst hd'
    have I3:=I2.pinned (stat fr2 fun p hp b hb=>by
     have:p=(s₂.heap.objs.size,{ cls:=.type "list",data:=.seq its.toArray k }):=by simpa using hp
     subst this
     exact (fne b hb).symm) (T.obj _ _ st2)
    refine thn (kh (X:=cG X scope cl x N C s₂ H₂ fp (X.pn++pins)) (i:=0) O.nd O.h0 (.inl (lookup_relabel_local O.hx)) (.inl (by simp)) _ s2 σ' H'' y u (fun σ4 H4=>σ4=σ'.set 0 (some y)/\H4=H'') I3 ru ⟨rfl,rfl⟩) fun _ s4 ⟨σ4,H4,I4,e1,e2⟩=>?_
    subst e1 e2
    have R4:RepS X.K H4 (σ'.set 0 (some y)) (some ds[i] :: bF js δ):=(R'.mono s3).set 0 rd
    refine thn (he C s₂ H₂ fp (X.pn++pins) _ s4 (σ'.set 0 (some y)) H4 (fun v H5=>Same H4 H5/\∃ A,RepO X.K H₂ H5 v e A/\A.Nodup/\∀ a∈A,H4 a=none) I4 (x3 ge R4 (sm.trans s3))) fun wv s5 ⟨v,H5,I5,rw5,s45,A5,r5,nd5,fr5⟩=>?_
    have hD5:s5.heap.get? s₂.heap.objs.size=some { cls:=.type "list",data:=.seq its.toArray k }:=(I5.pin (s₂.heap.objs.size,{ cls:=.type "list",data:=.seq its.toArray k }) (by simp)).1
    have fD5:H5 s₂.heap.objs.size=none:=(I5.pin (s₂.heap.objs.size,{ cls:=.type "list",data:=.seq its.toArray k }) (by simp)).2.1
    have pf:∀ b∈fp,∀ ob,s2.heap.get? b=some ob->s5.heap.get? b=some ob/\H5 b=none:=fun b hb ob hob=>by
     have:=I5.pin (b,ob) (List.mem_append_right _ (List.mem_append_right _ (ft hb hob)))
     exact ⟨this.1,this.2.1⟩
    have lz:its.length<=1000:=by
     have:=rv.length
     omega
    refine call_meets F.slot_list_append ⟨_,hD5,rfl⟩ F.entry_list_append (F.args_list_append_2 _ _) (PySem.list_append s₂.heap.objs.size its.toArray k wv (by rw [List.size_toArray];exact dR lz)) ⟨hD5,?_⟩
    have q:=PySem.IsL.update hD5 (fun a=>a.push wv)
    have I6:L2.Inv (cG X scope cl x N C s₂ H₂ fp (X.pn++pins)) [] (σ'.set 0 (some y)) H5 { s5 with heap:=s5.heap.update s₂.heap.objs.size (Obj.mapSeq fun a=>a.push wv),toks:=s5.toks } :=
     (I5.pins_of (pins':=[]) fun p hp=>by simp at hp).turned (it:=s₂.heap.objs.size) (t':=s5.toks) (fun b ob hb hu=>(Heap.get?_update_other s5.heap _ (Ne.symm hb)).trans hu) fD5 hDC (.inr hDle) cne (fun p hp=>by
      rcases Zn.mp hp with z | z
      . exact pne p z
      . simp at z)
    refine ⟨ds.length - (i+1),by omega,i+1,σ'.set 0 (some y),H5,vs++[v],some ds[i],rfl,hlt,I6,(sm.trans s3).trans s45,R4.mono s45,?_,?_,?_,fD5,?_,by simp [hl]⟩
    . refine T.keep _ _ _ st2 fun b hb ob hob=>?_
      exact (Heap.get?_update_other s5.heap _ (Ne.symm (fne b hb))).trans (pf b hb ob hob).1
    . intro b hb
      obtain ⟨ob,hob,_⟩:=T.obj _ _ st2 b hb
      exact (pf b hb ob hob).2
    . have hf7:its.toArray.push wv=(its++[wv]).toArray:=by simp
      rw [hf7] at q
      exact ⟨its++[wv],_,rv.append (.cons rw5 .nil),q⟩
    . have e8:xs.take (i+1)=xs.take i++[e]:=by
       rw [List.take_add_one,xe];rfl
      rw [e8]
      exact t3 rr nda (s3.trans s45) r5 nd5 fun a m=>(dr s3 (fr5 a m))
  . -- the end
    have hie:i=ds.length:=by omega
    refine thn (T.done (cG X scope cl x N C s₂ H₂ fp (X.pn++pins)) rfl rfl rfl rfl i [(s₂.heap.objs.size,{ cls:=.type "list",data:=.seq its.toArray k })] s σ' H' (fun _ _=>False) (I'.pins_of fun p hp=>by
     have:p=(s₂.heap.objs.size,{ cls:=.type "list",data:=.seq its.toArray k }):=by simpa using hp
     subst this
     exact ⟨hD,fD,hDC,dstk,fun v z=>by cases z⟩) (stat fr' fun p hp b hb=>by
     have:p=(s₂.heap.objs.size,{ cls:=.type "list",data:=.seq its.toArray k }):=by simpa using hp
     subst this
     exact (fne b hb).symm) st' ((itd i H' sm).2 (by omega))) fun r s1 ⟨hr,I8⟩=>?_
    subst hr
    have hD8:s1.heap.get? s₂.heap.objs.size=some { cls:=.type "list",data:=.seq its.toArray k }:=(I8.pin (s₂.heap.objs.size,{ cls:=.type "list",data:=.seq its.toArray k }) (by simp)).1
    have hxs:xs.take i=xs:=List.take_of_length_le (by omega)
    rw [hxs] at rr
    have sn:=cN fD (.lst vs)
    have dn:∀ b,∀ u,H' b=some u->b ≠ s₂.heap.objs.size:=fun b u z=>cT z fD
    have un:Un (frs X.stack) fp H₂ (upd H' s₂.heap.objs.size (.lst vs)) s₂.heap s1.heap:=by
     have b0:=I8.base
     refine ⟨fun b ob e n1 n2 n3=>b0.keep b ob e n1 n2 n3,fun b ob e n1 n2 n3=>b0.slot b ob e n1 n2 n3,fun b ob e n1 n3=>?_,fun b ob e n3=>b0.there b ob e n3,fun b zs e=>?_,fun b ob u e=>?_,fun b ps e=>?_⟩
     . rw [aH (Nat.ne_of_lt (Heap.lt_size e))]
       exact b0.free b ob e n1 n3
     . have z:=b0.tups b zs e
       rw [aH (dn _ _ z)]
       exact z
     . have z:=b0.frzs b ob u e
       rw [aH (dn _ _ z)]
       exact z
     . obtain ⟨more,z⟩:=b0.tbls b ps e
       exact ⟨more,by rw [aH (dn _ _ z)];exact z⟩
    have hok:HOk X.prog X.w (upd H' s₂.heap.objs.size (.lst vs)) s1.heap:=fun b u z=>by
     by_cases hb:b=s₂.heap.objs.size
     . rw [hb] at z ⊢
       rw [bx] at z
       cases z
       exact ⟨dR (by omega),its,k,rv,hD8⟩
     . rw [aH hb] at z
       exact (I8.hok b u z).stay (fun _ _ _ q=>q) (fun c q=>by rw [aH (dn _ _ q)];exact q) fun c ys q=>by rw [aH (dn _ _ q)];exact q
    have IX:L2.Inv X pins σ (upd H' s₂.heap.objs.size (.lst vs)) s1:=I.call' I8.os un hok I8.bare fun b hb=>⟨(hf b hb).2.2.2.1,(hf b hb).2.1,(hf b hb).2.2.2.2.1,(hf b hb).2.2.2.2.2⟩
    obtain ⟨m8,hn8,_⟩:=I8.loc
    refine hRR s₂.heap.objs.size C s1 _ vs hCle IX (sm.trans sn) bx ⟨Acc,rr.frame (cF sn) (fun a m=>by
     obtain ⟨⟨ws,e⟩,_⟩:=rr.dom a m
     rw [e];exact sn a _ e),nda,fun m=>(by
     obtain ⟨⟨ws,e⟩,_⟩:=rr.dom _ m
     rw [fD] at e;cases e),I.hok.fresh hDle⟩ ⟨m8,hn8⟩ ?_
    rw [aH (Ne.symm hDC)]
    exact I8.free
 exact codeAny_compStart_list (loop _ rfl) (T.self X.A 0 _ _ _ (T.keep 0 _ _ st (fun b hb o e=>old b o e)) (loop _ rfl))
def dG (src:FA) (js:List Nat) (felt:FM):FM:=fun δ=>(src δ).bind fun ds=>(lQ (fun d=>ownOf felt (shO (some d :: bF js δ))) ds).bind fun xs=>if xs.length<=1000 then some (.lst xs,δ) else none
theorem k8 {f:FM} {g:D->DS}:∀ {ds xs:List D},lQ (fun d=>ownOf f (g d)) ds=some xs->g7 xs=true
 | [],xs,h=>by cases h;rfl
 | d :: ds,xs,h=>by
  obtain ⟨x,ex,h⟩:=Za.mp (show ((ownOf f (g d)).bind _)=some xs from h)
  obtain ⟨ys,ey,h⟩:=Za.mp h
  cases h
  rw [g7,k8 ey,Bool.and_true]
  unfold ownOf at ex
  obtain ⟨p,_,ex⟩:=Za.mp ex
  split at ex
  . rename_i ho;cases ex;exact ho
  . cases ex
theorem tT {K:PySem.W.Frag} {F H H1 Hend:Hp} {σ:L2.St} {δ:DS} {As:Nat->List Addr} {xs:List D} {vs:List V} {D:Addr} (RA:RepA K F H σ δ As) (ho:g7 xs=true) (s:Same H Hend) (s1:Same H H1) (hD:Hend D=some (.lst vs)) (h:∃ Acc,RepOs K H1 Hend vs xs Acc/\Acc.Nodup/\D ∉ Acc/\H1 D=none) :
 ∃ A,Ev F H As F Hend As A/\RepA K F Hend σ δ As/\RepO K F Hend (.ref D) (.lst xs) A:=by
 obtain ⟨Acc,r,nd,nD,hn⟩:=h
 refine ⟨D :: Acc,.fresh s (fun a m=>?_) (List.nodup_cons.mpr ⟨nD,nd⟩) (fun i a m=>(RA.dom m).1),RA.grow s,.lst hD ?_ (r.thaw (RA.fz.trans s1) ho)⟩
 . rcases Zo.mp m with z | z
   . rw [z];exact dr s1 hn
   . exact dr s1 (r.dom a z).2
 . exact dr (RA.fz.trans s1) hn
theorem tU {K:PySem.W.Frag} {F H H1 Hend:Hp} {σ:L2.St} {δ:DS} {As:Nat->List Addr} {xs:List D} {vs:List V} {D:Addr} {Q:VK} (RA:RepA K F H σ δ As) (k:∀ v F' H' A As',Ev F H As F' H' As' A->RepA K F' H' σ δ As'->RepO K F' H' v (.lst xs) A->Q v H') (ho:g7 xs=true) (s:Same H Hend) (s1:Same H H1) (hD:Hend D=some (.lst vs)) (h:∃ Acc,RepOs K H1 Hend vs xs Acc/\Acc.Nodup/\D ∉ Acc/\H1 D=none):Q (.ref D) Hend:=by
 obtain ⟨A,ev,R',r'⟩:=tT RA ho s s1 hD h
 exact k _ F Hend A As ev R' r'
theorem wf {K:PySem.W.Frag} {F H H1 Hend:Hp} {σ:L2.St} {δ:DS} {As:Nat->List Addr} {xs:List D} {vs:List V} {D:Addr} {Q:L2.St->Hp->Prop} (i:Nat) (RA:RepA K F H σ δ As) (k:∀ σ' F' H',Same F F'->d9 K F' H' σ' (δ.set i (some (.lst xs)))->Q σ' H') (ho:g7 xs=true) (s:Same H Hend) (s1:Same H H1) (hD:Hend D=some (.lst vs)) (h:∃ Acc,RepOs K H1 Hend vs xs Acc/\Acc.Nodup/\D ∉ Acc/\H1 D=none):Q (σ.set i (some (.ref D))) Hend:=by
 obtain ⟨A,ev,R',r'⟩:=tT RA ho s s1 hD h
 exact k _ F Hend (Same.refl F) (R'.setM i r' ev.nd ev.dj)
theorem ka {elt iter:Expr} {px pos:Pos} {src:FA} {felt:FM} (hi:PID X (.Name x px) iter src) {N:List Str} {js:List Nat} (he:∀ C s₂ H₂ fp pn,PV (cG X scope cl x N C s₂ H₂ fp pn) elt felt) (O:CompOk X scope cl x N js) (hcm:X.calm=true:=by rfl)
 (hs:∀ v,foldedSetIterable iter X.env v=pure v:=by intro _;rfl):PV X (.ListComp elt [⟨.Name x px,iter,[],0⟩] scope pos) (dG src js felt):=by
 intro pins s σ H Q I ⟨F,δ,As,d,δ',RA,q,k⟩
 have R:=RA.toS
 unfold dG at q
 obtain ⟨ds,eds,q⟩:=Za.mp q
 obtain ⟨xs,exs,q⟩:=Za.mp q
 by_cases hz:xs.length<=1000
 . rw [if_pos hz] at q
   cases q
   rw [eval_ListComp]
   refine wpAny_comprehension_free (use:=none) rfl hs O.clos O.kind O.names ?_
   refine wpAny_mono (hi pins s σ H (fun J H1=>Same H H1/\ItD X.K J H1 ds) I ⟨δ,ds,R,eds,fun J H1 s1 itd=>⟨s1,itd⟩⟩) (fun v s1 h1=>wpAny_mono h1 (fun itv s2 h2=>?_) fun _ _ z=>z) fun _ _ z=>z
   obtain ⟨it,fp,tn,J,H2,rfl,I2,T,st,hf,s1,itd⟩:=h2
   refine lH (RR:=fun acc C=>compPost (model X.prog X.w) X.A X.xe none (EP X pins σ Q) acc C) I2 hcm O T st hf itd (R.mono s1) he exs hz ?_
   intro D C s' Hend vs hC IX sm hD rr ⟨m,hn⟩ fC
   exact ⟨m,hn,fun h' hs'=>⟨.ref D,Hend,la IX I2 hC fC hs',rfl,tU RA k (k8 exs) (s1.trans sm) s1 hD rr⟩⟩
 . rw [if_neg hz] at q;cases q
theorem l8 (i:Nat) {y:Str} {elt iter:Expr} {px py pos spos:Pos} {src:FA} {felt:FM} (hN:X.N.Nodup) (hi:PID X (.Name x px) iter src) {N:List Str} {js:List Nat} (he:∀ C s₂ H₂ fp pn,PV (cG X scope cl x N C s₂ H₂ fp pn) elt felt) (O:CompOk X scope cl x N js)
 (hsw:swapsWith (.ListComp elt [⟨.Name x px,iter,[],0⟩] scope pos) (some (.Name y py)) spos.line X.env=pure true:=by rfl) (hy:X.N[i]? = some y:=by rfl) (hl:Loc X.env.scope y:=by first | exact Or.inl rfl | exact Or.inr rfl) (hcm:X.calm=true:=by rfl)
 (hs:∀ v,foldedSetIterable iter X.env v=pure v:=by intro _;rfl) (hfn:X.fn y=true \/ X.env.scope.names.lookup y=some .local:=by first | exact .inl rfl | exact .inr rfl | assumption) :
 PMD X (.Assign [.Name y py] (.ListComp elt [⟨.Name x px,iter,[],0⟩] scope pos) spos) (av i (dG src js felt)):=by
 intro pins s σ H D I ⟨F,δ,r,⟨As,RA⟩,q,k⟩
 have R:=RA.toS
 unfold av at q
 obtain ⟨⟨d,δ'⟩,ed,q⟩:=Za.mp q
 cases q
 unfold dG at ed
 obtain ⟨ds,eds,q⟩:=Za.mp ed
 obtain ⟨xs,exs,q⟩:=Za.mp q
 by_cases hz:xs.length<=1000
 . rw [if_pos hz] at q
   cases q
   rw [exec_Assign_Name_used _ _ _ _ hsw]
   refine wpAny_bind (wpAny_standAt (wpAny_bind ?_))
   show wpAny _ X.A (do let _ <- comprehension (.ListComp elt [⟨.Name x px,iter,[],0⟩] scope pos) scope X.env _ (newList []) false (eval iter X.env) (some (assign (.Name y py) X.env))) _ _ s
   refine wpAny_bind (wpAny_mono (wpAny_comprehension_free (use:=some (assign (.Name y py) X.env)) (Q:=fun _ s'=>SP X pins D .next s') rfl hs O.clos O.kind O.names ?_) (fun _ s' hq=>wpAny_pure (wpAny_pure hq)) fun _ _ z=>z)
   refine wpAny_mono (hi pins s σ H (fun J H1=>Same H H1/\ItD X.K J H1 ds) I ⟨δ,ds,R,eds,fun J H1 s1 itd=>⟨s1,itd⟩⟩) (fun v s1 h1=>wpAny_mono h1 (fun itv s2 h2=>?_) fun _ _ z=>z) fun _ _ z=>z
   obtain ⟨it,fp,tn,J,H2,rfl,I2,T,st,hf,s1,itd⟩:=h2
   refine lH (RR:=fun acc C=>compPost (model X.prog X.w) X.A X.xe (some (assign (.Name y py) X.env)) (fun _ s'=>SP X pins D .next s') acc C) I2 hcm O T st hf itd (R.mono s1) he exs hz ?_
   intro DA C s' Hend vs hC IX sm hD rr ⟨m,hn⟩ fC
   show wpAny _ X.A (assign (.Name y py) X.env (.ref DA)) _ _ s'
   refine wpAny_assign_Name (oa (v:=.ref DA) IX hN hy hl rfl (fun s9 I9 ⟨a,hsb,ha⟩=>?_) hfn)
   have hCa:C ≠ a:=by
    rintro rfl
    rcases ha with z | z
    . exact absurd (Nat.lt_of_lt_of_le I2.lt (by rw [<- z];exact hC)) (Nat.lt_irrefl _)
    . obtain ⟨v,o,h1,_⟩:=I2.cell y _ z
      exact absurd (Nat.lt_of_lt_of_le (Heap.lt_size h1) hC) (Nat.lt_irrefl _)
   refine ⟨m,hn.at' fun o e=>(hsb.2 C hCa).trans e,fun h' hs'=>⟨_,Hend,?_,wf i RA k (k8 exs) (s1.trans sm) s1 hD rr⟩⟩
   exact I9.turned (it:=C) (t':=s9.toks) (fun b o hb e=>(hs'.2 b hb).trans e) fC (Nat.ne_of_gt (Nat.lt_of_lt_of_le I2.lt hC)) (.inr (Nat.le_trans I2.sz hC))
    (fun y c e z=>by
     obtain ⟨v,o,h1,_⟩:=I2.cell y c e
     exact absurd (Nat.lt_of_lt_of_le (Heap.lt_size h1) (by rw [z];exact hC)) (Nat.lt_irrefl _))
    (fun p hp z=>absurd (Nat.lt_of_lt_of_le (Heap.lt_size (I2.pin p hp).1) (by rw [z];exact hC)) (Nat.lt_irrefl _))
 . rw [if_neg hz] at q;cases q
end
end Dl
namespace Dl
open PySem PySem.Spec PyProof.Rows L2
section
variable {K:PySem.W.Frag} {F H:Hp} {σ:L2.St} {δ:DS} {As:Nat->List Addr}
theorem RepOs.of_imm:∀ {vs:List V} {ds:List D},Reps K H vs ds->d7 ds=true->RepOs K F H vs ds []
 | _,_,.nil,_=>.nil
 | _,_,.cons r t,i=>by
  rw [d7,Bool.and_eq_true] at i
  exact .cons (.imm i.1 r) (RepOs.of_imm t i.2) rfl
theorem m9 {H1:Hp} {vs:List V} {ds:List D} {p:Addr} {Q:VK} (R:RepA K F H σ δ As) (s:Same H H1) (r:Reps K H1 vs ds) (i:d7 ds=true) (hp:H1 p=none)
 (k:∀ v F' H' A As',Ev F H As F' H' As' A->RepA K F' H' σ δ As'->RepO K F' H' v (.lst ds) A->Q v H'):Q (.ref p) (upd H1 p (.lst vs)):=by
 have sn:=cN hp (.lst vs)
 have np:=dr s hp
 refine k _ F _ [p] As (.fresh (s.trans sn) (fun a m=>?_) (List.nodup_cons.mpr ⟨fun z=>(nomatch z),List.nodup_nil⟩) (fun i a m=>(R.dom m).1)) (R.grow (s.trans sn)) (.lst bx (dr R.fz np) (RepOs.of_imm (r.mono sn) i))
 rw [List.mem_singleton.mp m]
 exact np
end
def iA (d:D) (δ:DS):Option (D×DS):=match d with
 | .lst ds=>if d7 ds then some (.lst ds,δ) else none
 | _=>none
theorem jU {d d':D} {δ δ':DS} (h:iA d δ=some (d',δ')):∃ ds,d=.lst ds/\d'=.lst ds/\δ'=δ/\d7 ds=true:=by
 unfold iA at h
 split at h
 . rename_i ds
   split at h
   . rename_i hi
     cases h
     exact ⟨ds,rfl,rfl,rfl,hi⟩
   . cases h
 . cases h
def vSl (f:FD) (lo hi:FO):FM:=fun δ=>(fSl f lo hi δ).bind fun d=>iA d δ
def tI:List D->Option D
 | [.lst ds]=>some (.lst ds)
 | [.seq ds]=>some (.lst ds)
 | [.tup ds]=>some (.lst ds)
 | _=>none
def ee (g:FA):FM:=fun δ=>(g δ).bind fun ds=>(tI ds).bind fun d=>iA d δ
section
variable {X:Cx} {e a b:Expr} {f fa fb:FD} {lo hi:Option Expr} {fl fh:FO} {g:FA} {pos p2 p:Pos}
theorem u9 (he:PD X e f) (hl:POD X lo fl) (hu:POD X hi fh):PV X (.Subscript e (.Slice lo hi none p2) pos) (vSl f fl fh):=imp (vx wG he hl hu) fun σ H Q ⟨F,δ,As,d,δ',RA,q,k⟩=>by
 unfold vSl at q
 obtain ⟨d0,e0,q⟩:=Za.mp q
 obtain ⟨ds,rfl,rfl,rfl,hi⟩:=jU q
 unfold fSl at e0
 obtain ⟨x,ex,e0⟩:=Za.mp e0
 obtain ⟨es,eds,e0⟩:=Za.mp e0
 obtain ⟨l,el,e0⟩:=Za.mp e0
 obtain ⟨h,eh,e0⟩:=Za.mp e0
 cases e0
 have R:=RA.toS
 refine ⟨_,x,R,ex,fun v H1 s1 r1=>⟨_,l,R.mono s1,el,fun H2 s2=>⟨_,h,(R.mono s1).mono s2,eh,fun H3 s3=>?_⟩⟩⟩
 have r3:=(r1.mono s2).mono s3
 have fin:∀ (a:Addr) (vs:List V),SqL X.K H3 a vs->Reps X.K H3 vs es->Ag X.K (.ref a) l h H3 Q:=fun a vs hq rp =>
  ⟨a,vs,rfl,hq,fun p hp=>m9 RA ((s1.trans s2).trans s3) (we rp l h) hi hp k⟩
 cases r3 with
 | @lst p vs es hp rp=>cases eds;exact fin p vs (SqL.of hp) rp
 | @seq p vs es hp rp=>cases eds;exact fin p vs hp rp
 | _=>cases eds
theorem gw (hg:Gl X "list") (hm:X.mg "list" = none) (hv:bootBuiltins "list" = some (.type "list")) (ha:PAD X [e] g) (he:starEach [e] X.env=(false,eval e X.env) :: starEach [] X.env:=by rfl) (hpl:(backTo pos (starEach [] X.env)).any (·.1)=false:=by rfl) :
 PV X (.Call (.Name "list" p) [e] [] pos) (ee g):=imp (jn kD hg hm hv ha (by decide) (by decide) he hpl) fun σ H Q ⟨F,δ,As,d,δ',RA,q,k⟩=>by
 unfold ee at q
 obtain ⟨xs,exs,q⟩:=Za.mp q
 obtain ⟨d0,e0,q⟩:=Za.mp q
 obtain ⟨ds,rfl,rfl,rfl,hi⟩:=jU q
 refine ⟨_,xs,RA.toS,exs,fun vs H1 s1 r1 l=>?_⟩
 unfold tI at e0
 split at e0
 . cases e0
   obtain ⟨v,rfl,rv⟩:=gQ r1
   cases rv with
   | @lst p vs _ hp rp=>exact ⟨p,vs,rfl,.inl (SqL.of hp),fun l hl=>m9 RA s1 rp hi hl k⟩
 . cases e0
   obtain ⟨v,rfl,rv⟩:=gQ r1
   cases rv with
   | @seq p vs _ hp rp=>exact ⟨p,vs,rfl,.inl hp,fun l hl=>m9 RA s1 rp hi hl k⟩
 . cases e0
   obtain ⟨v,rfl,rv⟩:=gQ r1
   cases rv with
   | @tup p vs _ hp rp=>exact ⟨p,vs,rfl,.inr hp,fun l hl=>m9 RA s1 rp hi hl k⟩
 . cases e0
end
theorem imms_mem:∀ {ds:List D},d7 ds=true <-> ∀ d∈ds,imm d=true
 | []=>⟨fun _ _ m=>(nomatch m),fun _=>rfl⟩
 | d :: ds=>by
  rw [d7,Bool.and_eq_true,imms_mem (ds:=ds)]
  exact ⟨fun h e m=>(Zo.mp m).elim (fun z=>z ▸ h.1) (h.2 e),fun h=>⟨h d Zk,fun e m=>h e (Zl _ m)⟩⟩
section
variable {K:PySem.W.Frag} {F H:Hp} {σ:L2.St} {δ:DS} {As:Nat->List Addr}
end
section
variable {X:Cx} {pos:Pos}
end
end Dl
namespace Dl
open PySem PySem.Spec PyProof.Rows L2
end Dl
namespace Dl
open PySem PySem.Spec PyProof.Rows L2
def eqL (f:D->D->Option Bool):List D->List D->Option Bool
 | [],[]=>some true
 | [],_ :: _=>some false
 | _ :: _,[]=>some false
 | a :: as,b :: bs=>(f a b).bind fun x=>(eqL f as bs).bind fun y=>some (x && y)
def eqN:Nat->D->D->Option Bool
 | 0,a,b=>if cP a && cP b then some (eqF a b) else none
 | n+1,a,b=>match a,b with
  | .tup as,.tup bs=>eqL (eqN n) as bs
  | .lst as,.lst bs=>eqL (eqN n) as bs
  | .lst as,.seq bs=>eqL (eqN n) as bs
  | .seq as,.lst bs=>eqL (eqN n) as bs
  | .seq as,.seq bs=>eqL (eqN n) as bs
  | .non,.tup _=>some false
  | .tup _,.non=>some false
  | .non,.lst _=>some false
  | .lst _,.non=>some false
  | .non,.seq _=>some false
  | .seq _,.non=>some false
  | a,b=>if cP a && cP b then some (eqF a b) else none
theorem tR {f:D->D->Option Bool}:∀ {as bs:List D} {c:Bool},eqL f as bs=some c->∀ (j:Nat) (a b:D),as[j]? = some a->bs[j]? = some b->∃ x,f a b=some x
 | [],_,_,_,_,_,_,h,_=>by simp at h
 | _ :: _,[],_,_,_,_,_,_,h=>by simp at h
 | a :: as,b :: bs,c,h,j,x,y,h1,h2=>by
  obtain ⟨u,e1,h⟩:=Za.mp (show ((f a b).bind _)=some c from h)
  obtain ⟨v,e2,h⟩:=Za.mp h
  cases j with
  | zero=>simp at h1 h2;subst h1 h2;exact ⟨u,e1⟩
  | succ j=>exact tR e2 j x y (by simpa using h1) (by simpa using h2)
theorem pJ {f:D->D->Option Bool}:∀ {as bs:List D} {c:Bool} {e:Nat->Bool},eqL f as bs=some c->(∀ (j:Nat) (a b:D) (x:Bool),as[j]? = some a->bs[j]? = some b->f a b=some x->e j=x)->((List.range (min as.length bs.length)).all e && as.length == bs.length)=c
 | [],[],c,e,h,_=>by cases h;rfl
 | [],_ :: _,c,e,h,_=>by cases h;simp
 | _ :: _,[],c,e,h,_=>by cases h;simp
 | a :: as,b :: bs,c,e,h,he=>by
  obtain ⟨u,e1,h⟩:=Za.mp (show ((f a b).bind _)=some c from h)
  obtain ⟨v,e2,h⟩:=Za.mp h
  cases h
  have ih:=pJ (e:=fun j=>e (j+1)) e2 fun j x y z h1 h2 h3=>he (j+1) x y z (by simpa using h1) (by simpa using h2) h3
  have h0:e 0=u:=he 0 a b u rfl rfl e1
  show ((List.range (min (as.length+1) (bs.length+1))).all e && (as.length+1) == (bs.length+1))=(u && v)
  have hm:min (as.length+1) (bs.length+1)=min as.length bs.length+1:=by omega
  have hq:((as.length+1) == (bs.length+1))=(as.length == bs.length):=by rw [Bool.eq_iff_iff];simp
  rw [<- ih,<- h0,hm,List.range_succ_eq_map,List.all_cons,List.all_map,Bool.and_assoc,hq]
  rfl
theorem tQ {f:D->D->Option Bool}:∀ {as bs:List D} {c:Bool},eqL f as bs=some c->as.length ≠ bs.length->c=false
 | [],[],_,_,n=>absurd rfl n
 | [],_ :: _,c,h,_=>by cases h;rfl
 | _ :: _,[],c,h,_=>by cases h;rfl
 | a :: as,b :: bs,c,h,n=>by
  obtain ⟨u,e1,h⟩:=Za.mp (show ((f a b).bind _)=some c from h)
  obtain ⟨v,e2,h⟩:=Za.mp h
  cases h
  rw [tQ e2 (fun z=>n (congrArg (· + 1) z)),Bool.and_false]
theorem pL {A:Around} {s:Shared} {b:Addr} {k:Bool} (h:SeqAt.RcAt A s .none (.ref b) k):SeqAt.EqAt A s .none (.ref b) k:=fun prog w E Q hq=>by
 unfold eqBool
 refine wpAny_holding (wpAny_ite_split (fun z=>nomatch (eq_of_beq z:Value.none=Value.ref b)) fun _=>?_)
 have z:=h prog w E (fun a s'=>wpAny (model prog w) A (truthOfDropped a) Q E s') (wpAny_truthy_bool hq)
 exact wpAny_bind z
theorem pK {A:Around} {s:Shared} {b:Addr} {k:Bool} (h:SeqAt.RcAt A s (.ref b) .none k):SeqAt.EqAt A s (.ref b) .none k:=fun prog w E Q hq=>by
 unfold eqBool
 refine wpAny_holding (wpAny_ite_split (fun z=>nomatch (eq_of_beq z:Value.ref b=Value.none)) fun _=>?_)
 have z:=h prog w E (fun a s'=>wpAny (model prog w) A (truthOfDropped a) Q E s') (wpAny_truthy_bool hq)
 exact wpAny_bind z
section
variable {X:Cx} {pins:List (Addr×Obj)} {σ:L2.St} {H:Hp} {s:Shared}
theorem kQ (I:L2.Inv X pins σ H s):∀ (n:Nat) {v:V} {a b:D} {c:Bool},Rep X.K H v a->Rep X.K H v b->eqN n a b=some c->c=true
 | 0,v,a,b,c,ra,rb,h=>by
  unfold eqN at h
  split at h
  . rename_i hf
    cases h
    rw [Bool.and_eq_true] at hf
    have e1:=(ra.flat hf.1).2
    have e2:=(rb.flat hf.2).2
    rw [<- mv e1 e2]
    cases ra <;> first | rfl | (simp [eqV];done) | exact absurd hf.1 Bool.false_ne_true
  . cases h
 | n+1,v,a,b,c,ra,rb,h=>by
  have many:∀ {vs:List V} {as bs:List D},Reps X.K H vs as->Reps X.K H vs bs->∀ {c:Bool},eqL (eqN n) as bs=some c->c=true:=by
   intro vs
   induction vs with
   | nil=>intro as bs r1 r2 c h;cases r1;cases r2;cases h;rfl
   | cons v vs ih =>
    intro as bs r1 r2 c h
    cases r1 with
    | cons p1 t1 =>
     cases r2 with
     | cons p2 t2 =>
      obtain ⟨u,e1,h⟩:=Za.mp (show ((eqN n _ _).bind _)=some c from h)
      obtain ⟨w,e2,h⟩:=Za.mp h
      cases h
      rw [kQ I n p1 p2 e1,ih t1 t2 e2]
      rfl
  have flatC:∀ {a b:D},Rep X.K H v a->Rep X.K H v b->(if cP a && cP b then some (eqF a b) else none)=some c->c=true:=fun {a b} ra rb h=>by
   refine kQ I 0 ra rb ?_
   unfold eqN
   exact h
  cases ra with
  | non=>cases rb;exact flatC .non .non h
  | bl x=>cases rb;exact flatC (.bl x) (.bl x) h
  | int x=>cases rb;exact flatC (.int x) (.int x) h
  | str x=>cases rb;exact flatC (.str x) (.str x) h
  | ty x=>cases rb;exact flatC (.ty x) (.ty x) h
  | @tup p vs as hp rp =>
   cases rb with
   | @tup _ ws bs hq rq =>
    have e:=I.tuple_inj hp hq
    subst e
    exact many rp rq h
   | lst _ _=>cases h
   | seq _ _=>cases h
   | dct _=>cases h
   | exc _=>cases h
   | cls _=>cases h
   | ms _ _ _=>cases h
   | mf _ _ _=>cases h
   | md _ _ _=>cases h
  | @lst p vs as hp rp =>
   cases rb with
   | @lst _ ws bs hq rq =>
    have e:=I.list_inj (SqL.of (K:=X.K) hp) (SqL.of hq)
    subst e
    exact many rp rq h
   | @seq _ ws bs hq rq =>
    have e:=I.list_inj (SqL.of hp) hq
    subst e
    exact many rp rq h
   | tup _ _=>cases h
   | dct _=>cases h
   | exc _=>cases h
   | cls _=>cases h
   | ms _ _ _=>cases h
   | mf _ _ _=>cases h
   | md _ _ _=>cases h
  | @seq p vs as hp rp =>
   cases rb with
   | @lst _ ws bs hq rq =>
    have e:=I.list_inj hp (SqL.of hq)
    subst e
    exact many rp rq h
   | @seq _ ws bs hq rq =>
    have e:=I.list_inj hp hq
    subst e
    exact many rp rq h
   | tup _ _=>cases h
   | dct _=>cases h
   | exc _=>cases h
   | cls _=>cases h
   | ms _ _ _=>cases h
   | mf _ _ _=>cases h
   | md _ _ _=>cases h
  | dct h1=>cases rb <;> cases h
  | exc h1=>cases rb <;> cases h
  | cls C=>cases rb <;> cases h
  | ms=>cases rb <;> cases h
  | mf=>cases rb <;> cases h
  | md=>cases rb <;> cases h
theorem tP (I:L2.Inv X pins σ H s):∀ (n:Nat) (A:Around),A.units+n < cLine->∀ {x y:V} {u v:Value} {a b:D} {c:Bool},RelV x u->RelV y v->Rep X.K H x a->Rep X.K H y b->eqN n a b=some c->SeqAt.RcAt A s u v c/\SeqAt.RcNeAt A s u v (!c)/\SeqAt.EqAt A s u v c
 | 0,A,hu,x,y,u,v,a,b,c,rx,ry,ra,rb,h=>by
  unfold eqN at h
  split at h
  . rename_i hf
    cases h
    rw [Bool.and_eq_true] at hf
    have z:=sM (A:=A) (s:=s) rx ry ra rb hf.1 hf.2
    refine ⟨z.1,z.2,?_⟩
    rw [<- mv (ra.flat hf.1).2 (rb.flat hf.2).2]
    exact rW rx ry (ra.flat hf.1).1 (rb.flat hf.2).1
  . cases h
 | n+1,A,hu,x,y,u,v,a,b,c,rx,ry,ra,rb,h=>by
  have hu0:A.units < cLine:=by omega
  have hu1:A.in1.units+n < cLine:=by show A.units+1+n < cLine;omega
  have items:∀ {vs ws:List V} {us zs:List Value} {as bs:List D} {c:Bool},Vals vs us->Vals ws zs->Reps X.K H vs as->Reps X.K H ws bs->eqL (eqN n) as bs=some c ->
   ∃ e:Nat->Bool,(∀ j (h1:j < us.toArray.size) (h2:j < zs.toArray.size),SeqAt.EqAt A.in1 s us.toArray[j] zs.toArray[j] (e j))/\∀ (j:Nat) (a b:D) (x:Bool),as[j]? = some a->bs[j]? = some b->eqN n a b=some x->e j=x:=by
   intro vs ws us zs as bs c r1 r2 q1 q2 h
   refine ⟨fun j=>((as[j]?).bind fun a=>(bs[j]?).bind fun b=>eqN n a b).getD true,fun j h1 h2=>?_,fun j a b x e1 e2 e3=>by dsimp only;rw [e1,e2,Zc,Zc,e3];rfl⟩
   have l1:=r1.length
   have l2:=r2.length
   rw [List.size_toArray] at h1 h2
   have k1:j < vs.length:=by omega
   have k2:j < ws.length:=by omega
   obtain ⟨u',e1,p1⟩:=r1.get (i:=j) (x:=vs[j]) (by simp [k1])
   obtain ⟨z',e2,p2⟩:=r2.get (i:=j) (x:=ws[j]) (by simp [k2])
   obtain ⟨a',e3,p3⟩:=q1.getV (i:=j) (v:=vs[j]) (by simp [k1])
   obtain ⟨b',e4,p4⟩:=q2.getV (i:=j) (v:=ws[j]) (by simp [k2])
   have w1:us.toArray[j]=u':=by
    have z:us[j]? = some us[j]:=by simp [h1]
    rw [z] at e1;simpa using e1
   have w2:zs.toArray[j]=z':=by
    have z:zs[j]? = some zs[j]:=by simp [h2]
    rw [z] at e2;simpa using e2
   obtain ⟨x',ex⟩:=tR h j a' b' e3 e4
   dsimp only
   rw [w1,w2,e3,e4,Zc,Zc,ex]
   exact (tP I n A.in1 hu1 p1 p2 p3 p4 ex).2.2
  have refs:∀ {p q:Addr},u=.ref p->v=.ref q->SeqAt.RcAt A s (.ref p) (.ref q) c->SeqAt.RcNeAt A s (.ref p) (.ref q) (!c)->SeqAt.RcAt A s u v c/\SeqAt.RcNeAt A s u v (!c)/\SeqAt.EqAt A s u v c:=fun {p q} e1 e2 z1 z2=>by
   subst e1 e2
   refine ⟨z1,z2,?_⟩
   by_cases hpq:p=q
   . subst hpq
     have exy:x=y:=rx.inj ry
     subst exy
     rw [kQ I (n+1) ra rb h]
     exact SeqAt.EqAt.same _
   . exact SeqAt.EqAt.of_refs hpq z1
  have lists:∀ {p q:Addr} {vs ws:List V} {as bs:List D},u=.ref p->v=.ref q->SqL X.K H p vs->SqL X.K H q ws->Reps X.K H vs as->Reps X.K H ws bs->eqL (eqN n) as bs=some c->SeqAt.RcAt A s u v c/\SeqAt.RcNeAt A s u v (!c)/\SeqAt.EqAt A s u v c:=fun {p q vs ws as bs} e1 e2 hp hq rp rq hc=>by
   obtain ⟨its,r1,t1,_⟩:=I.list hp
   obtain ⟨jts,r2,t2,_⟩:=I.list hq
   have l1:its.toArray.size=as.length:=by rw [List.size_toArray,<- r1.length,rp.length]
   have l2:jts.toArray.size=bs.length:=by rw [List.size_toArray,<- r2.length,rq.length]
   obtain ⟨e,he,hx⟩:=items r1 r2 rp rq hc
   by_cases hl:its.toArray.size=jts.toArray.size
   . have z:=pJ hc hx
     have hb:(as.length == bs.length)=true:=by rw [beq_iff_eq];omega
     have hm:min as.length bs.length=its.toArray.size:=by omega
     rw [hb,hm,Bool.and_true] at z
     have z1:=SeqAt.RcAt.lists (A:=A) (s:=s) t1.isList t2.isList hl hu0 he
     have z2:=SeqAt.RcNeAt.lists (A:=A) (s:=s) t1.isList t2.isList hl hu0 he
     rw [z] at z1 z2
     exact refs e1 e2 z1 z2
   . have z1:=SeqAt.RcAt.lists_lengths (A:=A) (s:=s) t1.isList t2.isList (by simpa [bne_iff_ne] using hl) hu0
     have z2:=SeqAt.RcNeAt.lists_lengths (A:=A) (s:=s) t1.isList t2.isList (by simpa [bne_iff_ne] using hl) hu0
     have z:=tQ hc (by omega)
     subst z
     exact refs e1 e2 z1 z2
  have flatC:(if cP a && cP b then some (eqF a b) else none)=some c->SeqAt.RcAt A s u v c/\SeqAt.RcNeAt A s u v (!c)/\SeqAt.EqAt A s u v c:=fun h=>tP I 0 A (by omega) rx ry ra rb (by unfold eqN;exact h)
  cases ra with
  | non =>
   cases (show u=Value.none from rx)
   cases rb with
   | @tup q ws bs hq rq =>
    cases h
    cases (show v=Value.ref q from ry)
    obtain ⟨its,r1,t1,_⟩:=I.tuple hq
    exact ⟨SeqAt.RcAt.none_tuple t1 hu0,SeqAt.RcNeAt.none_tuple t1 hu0,pL (SeqAt.RcAt.none_tuple t1 hu0)⟩
   | @lst q ws bs hq rq =>
    cases h
    cases (show v=Value.ref q from ry)
    obtain ⟨its,r1,t1,_⟩:=I.list (SqL.of (K:=X.K) hq)
    exact ⟨SeqAt.RcAt.none_list t1.isList hu0,SeqAt.RcNeAt.none_list t1.isList hu0,pL (SeqAt.RcAt.none_list t1.isList hu0)⟩
   | @seq q ws bs hq rq =>
    cases h
    cases (show v=Value.ref q from ry)
    obtain ⟨its,r1,t1,_⟩:=I.list hq
    exact ⟨SeqAt.RcAt.none_list t1.isList hu0,SeqAt.RcNeAt.none_list t1.isList hu0,pL (SeqAt.RcAt.none_list t1.isList hu0)⟩
   | _=>exact flatC h
  | @tup p vs as hp rp =>
   cases rb with
   | @tup q ws bs hq rq =>
    obtain ⟨its,r1,t1,_⟩:=I.tuple hp
    obtain ⟨jts,r2,t2,_⟩:=I.tuple hq
    have l1:its.toArray.size=as.length:=by rw [List.size_toArray,<- r1.length,rp.length]
    have l2:jts.toArray.size=bs.length:=by rw [List.size_toArray,<- r2.length,rq.length]
    have hc:eqL (eqN n) as bs=some c:=h
    obtain ⟨e,he,hx⟩:=items r1 r2 rp rq hc
    have z:=pJ hc hx
    have z1:=SeqAt.RcAt.tuples (A:=A) (s:=s) t1 t2 hu0 he
    have z2:=SeqAt.RcNeAt.tuples (A:=A) (s:=s) t1 t2 hu0 he
    rw [l1,l2,z] at z1 z2
    exact refs (show u=Value.ref p from rx) (show v=Value.ref q from ry) z1 z2
   | non =>
    cases h
    cases (show u=Value.ref p from rx)
    cases (show v=Value.none from ry)
    obtain ⟨its,r1,t1,_⟩:=I.tuple hp
    exact ⟨SeqAt.RcAt.tuple_none t1 hu0,SeqAt.RcNeAt.tuple_none t1 hu0,pK (SeqAt.RcAt.tuple_none t1 hu0)⟩
   | _=>cases h
  | @lst p vs as hp rp =>
   cases rb with
   | @lst q ws bs hq rq=>exact lists (show u=Value.ref p from rx) (show v=Value.ref q from ry) (SqL.of hp) (SqL.of hq) rp rq h
   | @seq q ws bs hq rq=>exact lists (show u=Value.ref p from rx) (show v=Value.ref q from ry) (SqL.of hp) hq rp rq h
   | non =>
    cases h
    cases (show u=Value.ref p from rx)
    cases (show v=Value.none from ry)
    obtain ⟨its,r1,t1,_⟩:=I.list (SqL.of (K:=X.K) hp)
    exact ⟨SeqAt.RcAt.list_none t1.isList hu0,SeqAt.RcNeAt.list_none t1.isList hu0,pK (SeqAt.RcAt.list_none t1.isList hu0)⟩
   | _=>cases h
  | @seq p vs as hp rp =>
   cases rb with
   | @lst q ws bs hq rq=>exact lists (show u=Value.ref p from rx) (show v=Value.ref q from ry) hp (SqL.of hq) rp rq h
   | @seq q ws bs hq rq=>exact lists (show u=Value.ref p from rx) (show v=Value.ref q from ry) hp hq rp rq h
   | non =>
    cases h
    cases (show u=Value.ref p from rx)
    cases (show v=Value.none from ry)
    obtain ⟨its,r1,t1,_⟩:=I.list hp
    exact ⟨SeqAt.RcAt.list_none t1.isList hu0,SeqAt.RcNeAt.list_none t1.isList hu0,pK (SeqAt.RcAt.list_none t1.isList hu0)⟩
   | _=>cases h
  | bl x=>cases rb <;> first | exact flatC h | cases h
  | int x=>cases rb <;> first | exact flatC h | cases h
  | str x=>cases rb <;> first | exact flatC h | cases h
  | ty x=>cases rb <;> first | exact flatC h | cases h
  | dct h1=>cases rb <;> first | exact flatC h | cases h
  | exc h1=>cases rb <;> first | exact flatC h | cases h
  | cls C=>cases rb <;> first | exact flatC h | cases h
  | ms=>cases rb <;> first | exact flatC h | cases h
  | mf=>cases rb <;> first | exact flatC h | cases h
  | md=>cases rb <;> first | exact flatC h | cases h
end
def ce (a b:D):Option D:=(eqN 6 a b).map D.bl
def gq (a b:D):Option D:=(eqN 6 a b).map fun c=>D.bl (!c)
def Am (K:PySem.W.Frag):R2:=fun x y H Q=>∃ a b c,Rep K H x a/\Rep K H y b/\eqN 6 a b=some c/\Q (.bl c) H
def Ah (K:PySem.W.Frag):R2:=fun x y H Q=>∃ a b c,Rep K H x a/\Rep K H y b/\eqN 6 a b=some c/\Q (.bl (!c)) H
section
variable {X:Cx} {a b:Expr} {fa fb:FD} {pos:Pos}
theorem vJ (hu:X.A.units+64 < cLine):OpR X (compareOp .Eq) (Am X.K):=by
 intro pins s σ H x y v u Q I rx ry ⟨a,b,c,ra,rb,e,q⟩
 exact (tP I 6 X.A (by omega) rx ry ra rb e).1 X.prog X.w _ _ ⟨.bl c,H,I,rfl,q⟩
theorem vE (hu:X.A.units+64 < cLine):OpR X (compareOp .NotEq) (Ah X.K):=by
 intro pins s σ H x y v u Q I rx ry ⟨a,b,c,ra,rb,e,q⟩
 exact (tP I 6 X.A (by omega) rx ry ra rb e).2.1 X.prog X.w _ _ ⟨.bl (!c),H,I,rfl,q⟩
theorem u6 {K:PySem.W.Frag}:R2D K (Am K) ce:=by
 intro x y H Q a b d ra rb e k
 unfold ce at e
 obtain ⟨c,hc,e⟩:=Zb.mp e
 cases e
 exact ⟨a,b,c,ra,rb,hc,k _ H (Same.refl H) (.bl _)⟩
theorem uY {K:PySem.W.Frag}:R2D K (Ah K) gq:=by
 intro x y H Q a b d ra rb e k
 unfold gq at e
 obtain ⟨c,hc,e⟩:=Zb.mp e
 cases e
 exact ⟨a,b,c,ra,rb,hc,k _ H (Same.refl H) (.bl _)⟩
theorem jR (hu:X.A.units+64 < cLine) (ha:PD X a fa) (hb:PD X b fb):PD X (.Compare a [.Eq] [b] pos) (f2 ce fa fb):=jS (vJ hu) u6 ha hb (dX _)
theorem yW (hu:X.A.units+64 < cLine) (ha:PD X a fa) (hb:PD X b fb):PD X (.Compare a [.NotEq] [b] pos) (f2 gq fa fb):=jS (vE hu) uY ha hb (dX _)
theorem kc (hu:X.A.units+64 < cLine) (ha:PD X a fa) (hb:PD X b fb):PTD X (.Compare a [.Eq] [b] pos) (fT (f2 ce fa fb)):=gm (vJ hu) u6 ha hb (dX _)
theorem kb (hu:X.A.units+64 < cLine) (ha:PD X a fa) (hb:PD X b fb):PTD X (.Compare a [.NotEq] [b] pos) (fT (f2 gq fa fb)):=gm (vE hu) uY ha hb (dX _)
end
end Dl
namespace Dl
open PySem PySem.Spec PyProof.Rows L2
section
open PySem.SeqAt
open PySem.AutoSeq1 (wpAny_loadPart')
open PySem.MeetsSeq PySem.MeetsSeq2 PySem.MeetsSeq3
end
section
variable {X:Cx} {a b:Expr} {fa fb:FD} {pos:Pos}
end
def tw:D->Option Bool
 | .lst _=>some true
 | .seq _=>some true
 | .ty _=>none
 | .exc _=>none
 | .cls _=>none
 | .ms _ _=>none
 | .mf _ _=>none
 | .md _ _=>none
 | _=>some false
theorem m3 (d:D) (b:Bool) (h:tw d=some b):oM "list" d b:=by
 cases d <;> (first | cases h) <;> first
  | exact ⟨_,rfl,fun K=>pB _ K⟩
  | exact ⟨_,rfl,fun K=>by kernel_rfl⟩
theorem pvi {X:Cx} (i:Nat) {x:Str} {pos:Pos} (hN:X.N[i]? = some x:=by rfl) (hv:Vis X.env.scope x:=by first | exact Or.inl rfl | exact Or.inr (Or.inl rfl) | exact Or.inr (Or.inr rfl)) (hd:(x == ("__debug__":Str))=false:=by decide)
 (hcd:(x == ("__classdict__":Str))=false:=by decide):PE X (.Name x pos) (mD i):=pi hN hv hd hcd
end Dl
namespace Dl
open PySem PySem.Spec PyProof.Rows L2
section
variable {X:Cx} {pos:Pos} {r:Nat} {c e:Expr} {f:FD} {g:List D->Option (List D)} {rest:List Stmt}
end
end Dl
namespace Dl
open PySem PySem.Spec PyProof.Rows L2
theorem CompOk.nil {X:Cx} {scope:Scope} {x:Str} (clos:closureFor scope X.env=pure []:=by rfl) (nocell:∀ y∈scope.names,y.2 ≠ .cell:=by decide +kernel) (kind:scope.kind=.function:=by rfl)
 (names:∀ y∈scope.names,y.2=.local->scope.names.lookup y.1=some .local:=by decide +kernel) (hx:scope.names.lookup x=some .local:=by rfl) (hfr:∀ p∈scope.names,p.2 ≠ .free:=by decide +kernel):CompOk X scope [] x [x] [] where
 clos:=clos
 nocell:=nocell
 kind:=kind
 names:=names
 hx:=hx
 nd:=by simp
 h0:=rfl
 len:=rfl
 clx:=rfl
 cls:=fun y a h=>by cases h
 has:=fun y h=>by
  have key:∀ k,(k=NameKind.cell \/ k=NameKind.free)->(relabel scope X.env).names.lookup y=some k->False:=fun k hk h=>by
   have m:=PySem.mem_of_lookup h
   unfold relabel at m
   obtain ⟨⟨n,k'⟩,m1,m2⟩:=List.mem_map.mp m
   dsimp only at m2
   refine hfr _ m1 ?_
   show k'=NameKind.free
   split at m2
   . rename_i hc
     rw [Bool.and_eq_true,Bool.and_eq_true] at hc
     exact beq_iff_eq.mp hc.1.1
   . have e:k'=k:=congrArg Prod.snd m2
     rcases hk with z1 | z1
     . exact absurd (e.trans z1) (nocell _ m1)
     . exact e.trans z1
  rcases h with h | h
  . exact (key _ (.inl rfl) h).elim
  . exact (key _ (.inr rfl) h).elim
 fr:=fun i y k h1 h2=>by simp at h2
theorem qO (i:Int):cP (.int i)=true:=rfl
theorem tO (b:Bool):cP (.bl b)=true:=rfl
end Dl
namespace Dl
open PySem PySem.Spec PyProof.Rows L2
def gY:List Nat->TGs
 | []=>AT
 | i :: is=>yg (tH i) (gY is)
def gZ:List Nat->List D->DS->DS
 | i :: is,d :: ds,δ=>gZ is ds (δ.set i (some d))
 | _,_,δ=>δ
def kw (is:List Nat) (n:Nat):Bool:=is.all fun i=>decide (i < n)
theorem qo {K:PySem.W.Frag} {F H:Hp}:∀ {vs:List V} {ds:List D},Reps K H vs ds->d7 ds=true->RepOs K F H vs ds []
 | _,_,.nil,_=>.nil
 | _,_,.cons r t,i=>by
  rw [d7,Bool.and_eq_true] at i
  exact .cons (.imm i.1 r) (qo t i.2) rfl
theorem RepO.parts {K:PySem.W.Frag} {F H:Hp} {v:V} {ds:List D} {A:List Addr} (r:RepO K F H v (.tup ds) A):∃ a vs,v=.ref a/\SqT K H a vs/\RepOs K F H vs ds A:=by
 cases r with
 | imm i h =>
  cases h with
  | tup h r=>exact ⟨_,_,rfl,h,qo r (by rw [Dl.imm] at i;exact i)⟩
 | tup h r=>exact ⟨_,_,rfl,h,r⟩
theorem RepOs.len {K:PySem.W.Frag} {F H:Hp}:∀ {vs:List V} {ds:List D} {A:List Addr},RepOs K F H vs ds A->vs.length=ds.length
 | _,_,_,.nil=>rfl
 | _,_,_,.cons _ t _=>by rw [List.length_cons,List.length_cons,RepOs.len t]
theorem i0 {K:PySem.W.Frag} {F H:Hp}:∀ (is:List Nat) {vs:List V} {ds:List D} {A:List Addr} {σ:L2.St} {δ:DS} {As:Nat->List Addr} {Q:L2.St->Hp->Prop},RepOs K F H vs ds A->A.Nodup->(∀ j a,a∈As j->a ∉ A)->RepA K F H σ δ As->ds.length=is.length->kw is δ.length=true->(∀ σ',d9 K F H σ' (gZ is ds δ)->Q σ' H)->gY is vs σ H Q
 | [],_,_,_,σ,δ,As,Q,.nil,_,_,R,_,_,k=>⟨rfl,k σ ⟨As,R⟩⟩
 | [],_,_,_,_,_,_,_,.cons _ _ _,_,_,_,l,_,_=>by cases l
 | _ :: _,_,_,_,_,_,_,_,.nil,_,_,_,l,_,_=>by cases l
 | i :: is,_,_,_,σ,δ,As,Q,.cons (v:=v) (d:=d) (vs:=vs) (ds:=ds) (A:=A) (B:=B) r t e,nd,dj,R,l,hi,k=>by
  subst e
  have hi':(decide (i < δ.length) && kw is δ.length)=true:=hi
  rw [Bool.and_eq_true] at hi'
  have h1:i < δ.length:=of_decide_eq_true hi'.1
  rw [List.nodup_append] at nd
  have R1:=R.set i h1 r nd.1 fun j a _ m z=>dj j a m (List.mem_append_left _ z)
  refine ⟨v,vs,rfl,?_⟩
  show gY is vs (σ.set i (some v)) H Q
  refine i0 is t nd.2.1 (fun j a m z=>?_) R1 (by simpa using l) (by rw [List.length_set];exact hi'.2) k
  unfold iN at m
  by_cases hj:j=i
  . rw [if_pos hj] at m
    exact nd.2.2 a m a z rfl
  . rw [if_neg hj] at m
    exact dj j a m (List.mem_append_right _ z)
def oY (is:List Nat) (fm:FM):SD:=fun δ=>(fm δ).bind fun p=>match p.1 with
 | .tup ds=>if ds.length=is.length/\kw is p.2.length=true then some (.nx (gZ is ds p.2)) else none
 | _=>none
theorem pgN {X:Cx} (i:Nat) {x:Str} {pos:Pos} (hN:X.N.Nodup) (hi:X.N[i]? = some x:=by rfl) (hx:Loc X.env.scope x:=by first | exact Or.inl rfl | exact Or.inr rfl) (hf:X.fn x=true \/ X.env.scope.names.lookup x=some .local:=by first | exact .inl rfl | exact .inr rfl | assumption):PG X (.Name x pos) (tH i):=kh hN hi hx hf
theorem xW {X:Cx} {e:Expr} {es:List Expr} {kt:Nat} {pt pos:Pos} {fm:FM} (is:List Nat) (he:PV X e fm) (hg:PG X (.Tuple es kt pt) (vW X.K is.length (gY is)))
 (hs:swapsWithSole [.Tuple es kt pt] e pos.line X.env=pure false:=by rfl) (hw:swappedStores [.Tuple es kt pt] e X.env=pure none:=by rfl)
 (h1:(assignEach [.Tuple es kt pt] X.env).map (·.2)=[assign (.Tuple es kt pt) X.env]:=by rfl):PMD X (.Assign [.Tuple es kt pt] e pos) (oY is fm):=fV (rH he hg hs hw h1) fun E σ H ⟨F,δ,r,⟨As,R⟩,q,k⟩=>by
 unfold oY at q
 obtain ⟨⟨d,δ'⟩,ed,q⟩:=Za.mp q
 dsimp only at q
 split at q
 . rename_i ds
   split at q
   . rename_i hl
     cases q
     refine ⟨F,δ,As,_,δ',R,ed,fun v F' H' A As' ev R' r'=>?_⟩
     obtain ⟨a,vs,rfl,sq,ro⟩:=r'.parts
     exact ⟨a,vs,rfl,sq,ro.len.trans hl.1,i0 is ro ev.nd ev.dj R' hl.1 hl.2 fun σ' R2=>k σ' F' H' ev.fs R2⟩
   . cases q
 . cases q
def ym (K:PySem.W.Frag) (t:TG) (g:D->DS->Option DS):Prop:=∀ {F H:Hp} {σ:L2.St} {δ δ':DS} {As:Nat->List Addr} {v:V} {d:D} {Q:L2.St->Hp->Prop},RepA K F H σ δ As->RepO K F H v (sh d) []->g d δ=some δ'->(∀ σ',d9 K F H σ' δ'->Q σ' H)->t v σ H Q
def gTs (is:List Nat):D->DS->Option DS:=fun d δ=>match sh d with
 | .tup ds=>if ds.length=is.length/\kw is δ.length=true then some (gZ is ds δ) else none
 | _=>none
theorem xz {K:PySem.W.Frag} (is:List Nat):ym K (vW K is.length (gY is)) (gTs is):=by
 intro F H σ δ δ' As v d Q R r q k
 unfold gTs at q
 split at q
 . rename_i ds hd
   split at q
   . rename_i hl
     cases q
     rw [hd] at r
     obtain ⟨a,vs,rfl,sq,ro⟩:=r.parts
     exact ⟨a,vs,rfl,sq,ro.len.trans hl.1,i0 is ro List.nodup_nil (fun _ _ _ z=>nomatch z) R hl.1 hl.2 k⟩
   . cases q
 . cases q
def qN (g:D->DS->Option DS) (s:SD):List D->SD
 | []=>fun δ=>some (.nx δ)
 | d :: ds=>fun δ=>(g d δ).bind fun δ1=>(s δ1).bind fun r=>match r with
  | .nx δ'=>qN g s ds δ'
  | .ct δ'=>qN g s ds δ'
  | .bk δ'=>some (.nx δ')
  | .rt d=>some (.rt d)
  | .ex C δ'=>some (.ex C δ')
  | .mk C δ'=>some (.mk C δ')
def sL (src:FMA) (g:D->DS->Option DS) (s:SD):SD:=fun δ=>(src δ).bind fun p=>qN g s p.1 p.2
end Dl
namespace Dl
open PySem PySem.Spec PyProof.Rows L2
theorem x8 {y z u:Str} {c e a:Addr} (h:List.lookup y [(z,c),(u,e)]=some a):(y=z/\c=a) \/ (y=u/\e=a):=by
 by_cases hy:y=z
 . subst hy
   simp at h
   exact .inl ⟨rfl,h⟩
 . have q:(y == z)=false:=beq_eq_false_iff_ne.mpr hy
   rw [List.lookup_cons,q] at h
   by_cases hu:y=u
   . subst hu
     simp at h
     exact .inr ⟨rfl,h⟩
   . have q2:(y == u)=false:=beq_eq_false_iff_ne.mpr hu
     rw [List.lookup_cons,q2] at h
     cases h
theorem tm {z u:Str} {c e:Addr}:List.lookup z [(z,c),(u,e)]=some c:=by simp
theorem tj {z u:Str} {c e:Addr} (h:z ≠ u):List.lookup u [(z,c),(u,e)]=some e:=by
 have q:(u == z)=false:=beq_eq_false_iff_ne.mpr h.symm
 rw [List.lookup_cons,q]
 simp
theorem tN {X:Cx} {scope:Scope} {y:Str} (nocell:∀ y∈scope.names,y.2 ≠ .cell) (h:(relabel scope X.env).names.lookup y=some .cell \/ (relabel scope X.env).names.lookup y=some .free):∃ p∈scope.names,p.2=.free/\p.1=y:=by
 have key:∀ k,(k=NameKind.cell \/ k=NameKind.free)->(relabel scope X.env).names.lookup y=some k->∃ p∈scope.names,p.2=.free/\p.1=y:=fun k hk h=>by
  have m:=PySem.mem_of_lookup h
  unfold relabel at m
  obtain ⟨⟨n,k'⟩,m1,m2⟩:=List.mem_map.mp m
  dsimp only at m2
  refine ⟨_,m1,?_,?_⟩
  . show k'=NameKind.free
    split at m2
    . rename_i hc
      rw [Bool.and_eq_true,Bool.and_eq_true] at hc
      exact beq_iff_eq.mp hc.1.1
    . have e:k'=k:=congrArg Prod.snd m2
      rcases hk with z1 | z1
      . exact absurd (e.trans z1) (nocell _ m1)
      . exact e.trans z1
  . show n=y
    split at m2 <;> exact congrArg Prod.fst m2
 rcases h with h | h
 . exact key _ (.inl rfl) h
 . exact key _ (.inr rfl) h
theorem CompOk.two {X:Cx} {scope:Scope} {c e:Addr} {x z u:Str} {j k:Nat} (clos:closureFor scope X.env=pure [(z,c),(u,e)]:=by rfl) (nocell:∀ y∈scope.names,y.2 ≠ .cell:=by decide +kernel) (kind:scope.kind=.function:=by rfl)
 (names:∀ y∈scope.names,y.2=.local->scope.names.lookup y.1=some .local:=by decide +kernel) (hx:scope.names.lookup x=some .local:=by rfl) (hne:x ≠ z:=by decide +kernel) (hne':x ≠ u:=by decide +kernel) (hzu:z ≠ u:=by decide +kernel) (hcell:X.env.cells.lookup z=some c:=by rfl) (hcell':X.env.cells.lookup u=some e:=by rfl)
 (hfr:∀ p∈scope.names,p.2=.free->p.1=z \/ p.1=u:=by decide +kernel) (hj:X.N[j]? = some z:=by rfl) (hJ:X.N[k]? = some u:=by rfl) (hk:X.env.scope.names.lookup z=some .cell:=by rfl) (hk':(relabel scope X.env).names.lookup z=some .cell:=by rfl) (hu:X.env.scope.names.lookup u=some .cell:=by rfl) (hu':(relabel scope X.env).names.lookup u=some .cell:=by rfl):CompOk X scope [(z,c),(u,e)] x [x,z,u] [j,k] where
 clos:=clos
 nocell:=nocell
 kind:=kind
 names:=names
 hx:=hx
 nd:=by simp [hne,hne',hzu]
 h0:=rfl
 len:=rfl
 clx:=by
  cases q:List.lookup x [(z,c),(u,e)] with
  | none=>rfl
  | some a=>rcases x8 q with ⟨h,_⟩ | ⟨h,_⟩ <;> exact absurd h (by assumption)
 cls:=fun y a h=>by
  rcases x8 h with ⟨rfl,rfl⟩ | ⟨rfl,rfl⟩
  . exact hcell
  . exact hcell'
 has:=fun y h=>by
  obtain ⟨p,m,f,rfl⟩:=tN nocell h
  rcases hfr p m f with q | q
  . exact ⟨c,by rw [q];exact tm⟩
  . exact ⟨e,by rw [q];exact tj hzu⟩
 fr:=fun i y l h1 h2=>by
  match i with
  | 0 =>
   have e1:z=y:=Option.some.inj h1
   have e2:j=l:=Option.some.inj h2
   subst e1 e2
   refine ⟨hj,hk,hk',fun a ha=>?_⟩
   rw [hcell] at ha
   cases ha
   exact tm
  | 1 =>
   have e1:u=y:=Option.some.inj h1
   have e2:k=l:=Option.some.inj h2
   subst e1 e2
   refine ⟨hJ,hu,hu',fun a ha=>?_⟩
   rw [hcell'] at ha
   cases ha
   exact tj hzu
  | i+2=>cases h2
end Dl
namespace Dl
open PySem PySem.Spec PyProof.Rows L2
end Dl
namespace Dl
open PySem PySem.Spec PyProof.Rows L2
def gX (i j:Int):Prop:=(Bd i/\Bd j) \/ L2.CMul i j
instance (i j:Int):Decidable (gX i j):=by unfold gX L2.CMul;exact inferInstance
theorem xh {X:Cx}:OpR X (binaryOp .Mult) (rI gX fun i j=>.int (i*j)):=opI fun _ _ _ _ _ _ _ hc q=>by
 rcases hc with hc | hc
 . exact mul_int q (.of_bits hc.1.bits hc.2.bits)
 . exact mul_int q hc.ok
theorem kj {X:Cx} {a b:Expr} {fa fb:FD} {pos:Pos} (ha:PD X a fa) (hb:PD X b fb):PD X (.BinOp a .Mult b pos) (f2 (gI gX fun i j=>.int (i*j)) fa fb):=mT xh (u7 fun _ _ _=>.int _) ha hb
def xu:D->Option (List D)
 | .tup ds=>some ds
 | .lst ds=>some ds
 | .seq ds=>some ds
 | _=>none
def gIn (a b:D):Option D:=(xu b).bind fun ds=>if cP a && ds.all cP then some (.bl (ds.any fun y=>eqF y a)) else none
theorem jm {K:PySem.W.Frag} {H:Hp} {a:D} {x:V} (ha:toV a=some x):∀ {vs:List V} {ds:List D},Reps K H vs ds->ds.all cP=true->vs.all jB=true/\inV x vs=ds.any fun y=>eqF y a
 | _,_,.nil,_=>⟨rfl,rfl⟩
 | v :: vs,d :: ds,.cons r t,f=>by
  rw [List.all_cons,Bool.and_eq_true] at f
  obtain ⟨h1,h2⟩:=r.flat f.1
  obtain ⟨h3,h4⟩:=jm ha t f.2
  refine ⟨by rw [List.all_cons,h1,h3];rfl,?_⟩
  unfold inV at h4 ⊢
  rw [List.any_cons,List.any_cons,h4,mv h2 ha]
theorem At {K:PySem.W.Frag}:R2D K (rIn K false) gIn:=by
 intro x y H Q a b d ra rb e k
 unfold gIn at e
 obtain ⟨ds,ed,e⟩:=Za.mp e
 split at e
 . rename_i hf
   rw [Bool.and_eq_true] at hf
   cases e
   obtain ⟨fx,tx⟩:=ra.flat hf.1
   cases rb with
   | @tup p vs _ hp rp =>
    cases ed
    obtain ⟨h1,h2⟩:=jm tx rp hf.2
    refine ⟨p,vs,rfl,.inr hp,fx,h1,?_⟩
    show Q (.bl (inV x vs)) H
    rw [h2]
    exact k _ H (Same.refl H) (.bl _)
   | @lst p vs _ hp rp =>
    cases ed
    obtain ⟨h1,h2⟩:=jm tx rp hf.2
    refine ⟨p,vs,rfl,.inl (SqL.of hp),fx,h1,?_⟩
    show Q (.bl (inV x vs)) H
    rw [h2]
    exact k _ H (Same.refl H) (.bl _)
   | @seq p vs _ hp rp =>
    cases ed
    obtain ⟨h1,h2⟩:=jm tx rp hf.2
    refine ⟨p,vs,rfl,.inl hp,fx,h1,?_⟩
    show Q (.bl (inV x vs)) H
    rw [h2]
    exact k _ H (Same.refl H) (.bl _)
   | _=>cases ed
 . cases e
theorem yJ {X:Cx} {a b:Expr} {fa fb:FD} {pos:Pos} (ha:PD X a fa) (hb:PD X b fb) (hm:behindInMarks .In b=false:=by with_unfolding_all rfl):PTD X (.Compare a [.In] [b] pos) (fT (f2 gIn fa fb)):=gm uf At ha hb hm
def gt:List D->Option (List Bool)
 | []=>some []
 | .bl b :: ds=>(gt ds).bind fun bs=>some (b :: bs)
 | _ :: _=>none
def xL:List D->Option (List D)
 | [.lst ds]=>some ds
 | [.seq ds]=>some ds
 | _=>none
def pG (as:List D):Option D:=(xL as).bind fun ds=>(gt ds).bind fun bs=>some (.bl (bs.all id))
def zB (as:List D):Option D:=(xL as).bind fun ds=>(gt ds).bind fun bs=>some (.bl (bs.any id))
theorem jN {K:PySem.W.Frag} {H:Hp}:∀ {vs:List V} {ds:List D} {bs:List Bool},Reps K H vs ds->gt ds=some bs->vs=bs.map V.bl
 | _,_,_,.nil,h=>by cases h;rfl
 | v :: vs,d :: ds,bs,.cons r t,h=>by
  cases d with
  | bl b =>
   obtain ⟨cs,h1,h2⟩:=Za.mp (show ((gt ds).bind fun bs=>some (b :: bs))=some bs from h)
   cases h2
   cases r
   rw [jN t h1]
   rfl
  | _=>cases h
theorem jF:∀ {bs:List Bool} {us:List Value},Vals (bs.map V.bl) us->LSm.BoolsAre us bs
 | [],_,.nil=>.nil
 | b :: bs,u :: us,.cons r t=>by
  have e:u=.bool b:=r
  subst e
  exact .cons b (jF t)
theorem nI {X:Cx} (hc:X.calm=true):ij X (.builtin "all") (fun xs H Q=>∃ p ys,∃ bs:List Bool,xs=[.ref p]/\SqL X.K H p ys/\ys=bs.map V.bl/\Q (.bl (bs.all id)) H):=by
 intro pins s σ H xs us Q I r h
 obtain ⟨p,ys,bs,rfl,hq,rfl,q⟩:=h
 obtain ⟨u,rfl,rx⟩:=jZ r
 cases rx
 obtain ⟨its,r',pl,hz⟩:=I.list hq
 have hb:=jF r'
 have hlt:p < s.heap.objs.size:=by obtain ⟨_,e,_⟩:=pl.isList;exact Heap.lt_size e
 refine call_all_walk (wpAny_pyIter_list pl.isList ?_)
 refine ⟨s.heap.objs.size,[s.heap.objs.size,p],[s.heap.objs.size],its.toArray.size,_,_,fun i=>(bs[i]?).getD true,rfl,Walks.list (A:=X.A.in1) (I.ok.hd hc) _ p (Nat.ne_of_lt hlt) its.toArray,
  ⟨⟨_,Heap.get?_push_size _ rfl,rfl,rfl⟩,pl.isList.push _⟩,fun i v s' Q' E' hP hQ=>?_,fun h' tk hk=>?_⟩
 . obtain ⟨b,e,rfl⟩:=hb.get i v (by simpa using hP)
   simp only [e,Option.getD_some] at hQ
   exact wpAny_truthy_bool hQ
 . have e:((List.range its.toArray.size).all fun i=>(bs[i]?).getD true)=bs.all id:=by
    rw [List.size_toArray,hb.length];exact LSm.range_all bs
   rw [e]
   exact ⟨.bl _,H,I.kept (t':=tk) (LSm.kept_iter hk),rfl,q⟩
theorem wg {X:Cx} (hc:X.calm=true):ij X (.builtin "any") (fun xs H Q=>∃ p ys,∃ bs:List Bool,xs=[.ref p]/\SqL X.K H p ys/\ys=bs.map V.bl/\Q (.bl (bs.any id)) H):=by
 intro pins s σ H xs us Q I r h
 obtain ⟨p,ys,bs,rfl,hq,rfl,q⟩:=h
 obtain ⟨u,rfl,rx⟩:=jZ r
 cases rx
 obtain ⟨its,r',pl,hz⟩:=I.list hq
 have hb:=jF r'
 have hlt:p < s.heap.objs.size:=by obtain ⟨_,e,_⟩:=pl.isList;exact Heap.lt_size e
 refine call_any_walk (wpAny_pyIter_list pl.isList ?_)
 refine ⟨s.heap.objs.size,[s.heap.objs.size,p],[s.heap.objs.size],its.toArray.size,_,_,fun i=>(bs[i]?).getD false,rfl,Walks.list (A:=X.A.in1) (I.ok.hd hc) _ p (Nat.ne_of_lt hlt) its.toArray,
  ⟨⟨_,Heap.get?_push_size _ rfl,rfl,rfl⟩,pl.isList.push _⟩,fun i v s' Q' E' hP hQ=>?_,fun h' tk hk=>?_⟩
 . obtain ⟨b,e,rfl⟩:=hb.get i v (by simpa using hP)
   simp only [e,Option.getD_some] at hQ
   exact wpAny_truthy_bool hQ
 . have e:((List.range its.toArray.size).any fun i=>(bs[i]?).getD false)=bs.any id:=by
    rw [List.size_toArray,hb.length];exact LSm.range_any bs
   rw [e]
   exact ⟨.bl _,H,I.kept (t':=tk) (LSm.kept_iter hk),rfl,q⟩
theorem rg {K:PySem.W.Frag} {H:Hp} {xs:List V} {as ds:List D} (r:Reps K H xs as) (e:xL as=some ds):∃ p ys,xs=[.ref p]/\SqL K H p ys/\Reps K H ys ds:=by
 unfold xL at e
 split at e
 . cases e
   obtain ⟨x,rfl,rx⟩:=gQ r
   cases rx with
   | @lst p vs _ hp rp=>exact ⟨p,vs,rfl,SqL.of hp,rp⟩
 . cases e
   obtain ⟨x,rfl,rx⟩:=gQ r
   cases rx with
   | @seq p vs _ hp rp=>exact ⟨p,vs,rfl,hp,rp⟩
 . cases e
theorem r8 {K:PySem.W.Frag}:kE K (fun xs H Q=>∃ p ys,∃ bs:List Bool,xs=[.ref p]/\SqL K H p ys/\ys=bs.map V.bl/\Q (.bl (bs.all id)) H) pG:=by
 intro xs H Q as d r e k
 unfold pG at e
 obtain ⟨ds,e1,e⟩:=Za.mp e
 obtain ⟨bs,e2,e⟩:=Za.mp e
 cases e
 obtain ⟨p,ys,h1,h2,h3⟩:=rg r e1
 exact ⟨p,ys,bs,h1,h2,jN h3 e2,k _ H (Same.refl H) (.bl _)⟩
theorem zI {K:PySem.W.Frag}:kE K (fun xs H Q=>∃ p ys,∃ bs:List Bool,xs=[.ref p]/\SqL K H p ys/\ys=bs.map V.bl/\Q (.bl (bs.any id)) H) zB:=by
 intro xs H Q as d r e k
 unfold zB at e
 obtain ⟨ds,e1,e⟩:=Za.mp e
 obtain ⟨bs,e2,e⟩:=Za.mp e
 cases e
 obtain ⟨p,ys,h1,h2,h3⟩:=rg r e1
 exact ⟨p,ys,bs,h1,h2,jN h3 e2,k _ H (Same.refl H) (.bl _)⟩
theorem lg:bootBuiltins "all" = some (.builtin "all"):=by decide +kernel
theorem uC:bootBuiltins "any" = some (.builtin "any"):=by decide +kernel
end Dl
namespace Dl
open PySem PySem.Spec PyProof.Rows L2
end Dl
namespace Dl
open PySem PySem.Spec PyProof.Rows L2
def Ao (K:PySem.W.Frag):R2:=fun x y H Q=>∃ l b xs zs,x=.ref l/\y=.ref b/\SqL K H l xs/\SqL K H b zs/\xs.length+zs.length<=sizeLine/\∀ p,H p=none->Q (.ref p) (upd H p (.lst (xs++zs)))
theorem xj {X:Cx}:OpR X (binaryOp .Add) (Ao X.K):=by
 intro pins s σ H x y v u Q I rx ry h
 obtain ⟨l,b,xs,zs,rfl,rfl,h1,h2,hz,q⟩:=h
 cases rx
 cases ry
 obtain ⟨vs,r1,p1,_⟩:=I.list h1
 obtain ⟨ws,r2,p2,_⟩:=I.list h2
 obtain ⟨⟨k1,g1,a1,t1⟩,n1,o1,c1,_,i1⟩:=p1
 obtain ⟨⟨k2,g2,a2,t2⟩,n2,o2,c2,_,i2⟩:=p2
 simp only at c1 i1 c2 i2
 subst c1 i1 c2 i2
 have hl:=r1.length
 have hl2:=r2.length
 have ea:vs.toArray++ws.toArray=(vs++ws).toArray:=by simp
 refine concat_meets ⟨_,o1,rfl⟩ ⟨_,o2,rfl⟩ noFill_list_add seq_list_add PySem.F.slot_list_add
  PySem.F.entry_list_add (PySem.F.args_list_add_2 _ _)
  (list_addW l b vs.toArray ws.toArray n1 n2 g1 g2 t1 t2 (by rw [List.size_toArray,List.size_toArray];omega)) ⟨o1,o2,?_⟩
 rw [ea]
 exact ⟨.ref _,_,I.lnew (t':=s.toks) (r1.append r2) (by rw [Zh];omega),rfl,q _ I.fresh⟩
def tJ (a b:D):Option D:=(asL a).bind fun xs=>(asL b).bind fun ys=>if xs.length+ys.length<=1000 then some (.lst (xs++ys)) else none
def hV (fa fb:FD):FM:=fun δ=>(f2 tJ fa fb δ).bind fun d=>iA d δ
theorem pV {K:PySem.W.Frag} {H:Hp} {v:V} {d:D} {xs:List D} (r:Rep K H v d) (e:asL d=some xs):∃ p vs,v=.ref p/\SqL K H p vs/\Reps K H vs xs:=by
 cases r with
 | @lst p vs es hp rp=>cases e;exact ⟨p,vs,rfl,SqL.of hp,rp⟩
 | @seq p vs es hp rp=>cases e;exact ⟨p,vs,rfl,hp,rp⟩
 | _=>cases e
theorem l7 {X:Cx} {a b:Expr} {fa fb:FD} {pos:Pos} (ha:PD X a fa) (hb:PD X b fb):PV X (.BinOp a .Add b pos) (hV fa fb):=imp (xX xj ha hb) fun σ H Q ⟨F,δ,As,d,δ',RA,q,k⟩=>by
 unfold hV at q
 obtain ⟨d0,e0,q⟩:=Za.mp q
 obtain ⟨ds,rfl,rfl,rfl,hi⟩:=jU q
 unfold f2 at e0
 obtain ⟨x,ex,e0⟩:=Za.mp e0
 obtain ⟨y,ey,e0⟩:=Za.mp e0
 refine ⟨_,x,RA.toS,ex,fun v H1 s1 r1=>⟨_,y,RA.toS.mono s1,ey,fun w H2 s2 r2=>?_⟩⟩
 unfold tJ at e0
 obtain ⟨xs,e1,e0⟩:=Za.mp e0
 obtain ⟨ys,e2,e0⟩:=Za.mp e0
 split at e0
 . rename_i hz
   cases e0
   obtain ⟨p,vs,rfl,h1,h2⟩:=pV (r1.mono s2) e1
   obtain ⟨q,ws,rfl,h3,h4⟩:=pV r2 e2
   exact ⟨p,q,vs,ws,rfl,rfl,h1,h3,by rw [h2.length,h4.length];exact dR hz,fun l hl=>m9 RA (s1.trans s2) (h2.append h4) hi hl k⟩
 . cases e0
end Dl
namespace Dl
open PySem PySem.Spec PyProof.Rows L2
theorem RepA.side {K:PySem.W.Frag} {F H:Hp} {σ:L2.St} {δ:DS} {As:Nat->List Addr} (R:RepA K F H σ δ As) {a:Addr} {vs ws:List V} (h:H a=some (.lst vs)) (n:F a=none) (dj:∀ i,a ∉ As i):RepA K F (upd H a (.lst ws)) σ δ As:=by
 have ne:∀ x,x ≠ a->upd H a (.lst ws) x=H x:=fun x hx=>aH hx
 refine ⟨fun x u e=>?_,R.len,fun i d q=>?_,R.non,R.nd,R.dj⟩
 . have hx:x ≠ a:=fun z=>by rw [z,n] at e;cases e
   rw [ne x hx]
   exact R.fz x u e
 . obtain ⟨v,h1,h2⟩:=R.val i d q
   refine ⟨v,h1,h2.frame (fun x u e k=>?_) fun x m=>ne x fun z=>dj i (z ▸ m)⟩
   have hx:x ≠ a:=fun z=>by rw [z,h] at e;cases e;exact nomatch (show true=false from k)
   rw [ne x hx]
   exact e
end Dl
namespace Dl
open PySem PySem.Spec PyProof.Rows L2
structure CompG (X:Cx) (scope:Scope) (cl:List (Str×Addr)) (T N:List Str) (js:List Nat):Prop where
 clos:closureFor scope X.env=pure cl
 nocell:∀ y∈scope.names,y.2 ≠ .cell
 kind:scope.kind=.function
 names:∀ y∈scope.names,y.2=.local->scope.names.lookup y.1=some .local
 nd:N.Nodup
 len:N.length=T.length+js.length
 clx:∀ y,T.contains y=true->cl.lookup y=none
 cls:∀ y c,cl.lookup y=some c->X.env.cells.lookup y=some c
 has:∀ y,((relabel scope X.env).names.lookup y=some .cell \/ (relabel scope X.env).names.lookup y=some .free)->∃ c,cl.lookup y=some c
 fr:∀ i y j,N[T.length+i]? = some y->js[i]? = some j->X.N[j]? = some y/\X.env.scope.names.lookup y=some .cell/\(relabel scope X.env).names.lookup y=some .cell/\∀ c,X.env.cells.lookup y=some c->cl.lookup y=some c
abbrev dc (X:Cx) (scope:Scope) (cl:List (Str×Addr)) (T N:List Str) (C:Addr) (s₂:Shared) (H₂:Hp) (fp:List Addr) (pn:List (Addr×Obj)):Cx :=
 { X with env:=compEnvC scope cl C X.env,N:=N,s₀:=s₂,H₀:=H₂,outer:=X.stack,stack:=X.stack,ex:=fp,fn:=fun y=>T.contains y,calm:=true,pn:=pn,xe:=fun _ _=>False }
theorem jV {y:Str}:∀ {cl:List (Str×Addr)},y∈cl.map (·.1)->∃ c,cl.lookup y=some c
 | [],h=>by cases h
 | (z,c) :: cl,h=>by
  by_cases hy:y=z
  . subst hy
    exact ⟨c,by simp⟩
  . have q:(y == z)=false:=beq_eq_false_iff_ne.mpr hy
    rw [List.lookup_cons,q]
    refine jV ?_
    rcases Zo.mp h with e | e
    . exact absurd e hy
    . exact e
theorem CompG.of {X:Cx} {scope:Scope} {cl:List (Str×Addr)} {T Z Y:List Str} {js:List Nat} (clos:closureFor scope X.env=pure cl:=by rfl) (hY:cl.map (·.1)=Y:=by rfl) (nocell:∀ y∈scope.names,y.2 ≠ .cell:=by decide +kernel) (kind:scope.kind=.function:=by rfl)
 (names:∀ y∈scope.names,y.2=.local->scope.names.lookup y.1=some .local:=by decide +kernel) (nd:(T++Z).Nodup:=by decide +kernel) (len:Z.length=js.length:=by rfl) (dis:∀ y∈T,y ∉ Y:=by decide +kernel)
 (hcl:∀ p∈cl,X.env.cells.lookup p.1=some p.2) (hfr:∀ p∈scope.names,p.2=.free->p.1∈Y:=by decide +kernel) (hZ:∀ y∈Z,y∈Y:=by decide +kernel)
 (hN:∀ (i:Nat) y j,Z[i]? = some y->js[i]? = some j->X.N[j]? = some y/\X.env.scope.names.lookup y=some .cell/\(relabel scope X.env).names.lookup y=some .cell):CompG X scope cl T (T++Z) js where
 clos:=clos
 nocell:=nocell
 kind:=kind
 names:=names
 nd:=nd
 len:=by rw [Zh,len]
 clx:=fun y hy=>by
  cases q:cl.lookup y with
  | none=>rfl
  | some c =>
   have m:y∈Y:=by
    rw [<- hY]
    exact List.mem_map.mpr ⟨_,PySem.mem_of_lookup q,rfl⟩
   exact absurd m (dis y (List.contains_iff_mem.mp hy))
 cls:=fun y c h=>hcl _ (PySem.mem_of_lookup h)
 has:=fun y h=>by
  obtain ⟨p,m,f,rfl⟩:=tN nocell h
  exact jV (by rw [hY];exact hfr p m f)
 fr:=fun i y j h1 h2=>by
  rw [List.getElem?_append_right (Nat.le_add_right _ _),Nat.add_sub_cancel_left] at h1
  obtain ⟨a,b,c⟩:=hN i y j h1 h2
  refine ⟨a,b,c,fun e he=>?_⟩
  obtain ⟨e',he'⟩:=jV (cl:=cl) (y:=y) (by rw [hY];exact hZ y (List.mem_of_getElem? h1))
  have:=hcl _ (PySem.mem_of_lookup he')
  dsimp only at this
  rw [he] at this
  cases this
  exact he'
def zQ (X:Cx) (ifs:List Expr) (f:FT):Prop:=∀ (pins:List (Addr×Obj)) (s:Shared) (σ:L2.St) (H:Hp) (Q:Bool->Hp->Prop),L2.Inv X pins σ H s->upT X.K f σ H Q ->
 wpAny (model X.prog X.w) X.A (forIn ifs true fun c r=>if r=true then do let ok <- isTrue c X.env (eval c X.env);pure (ForInStep.yield ok) else pure (ForInStep.yield r)) (TP X pins σ Q) X.xe s
theorem w8 {X:Cx}:zQ X [] (fun _=>some true):=fun pins s σ H Q I ⟨δ,b,R,e,k⟩=>by
 cases e
 exact wpAny_tests_nil ⟨H,I,k H (Same.refl H)⟩
def gDs (is:List Nat):D->DS->Option DS:=fun d δ=>match d with
 | .tup ds=>if ds.length=is.length then some (gZ is ds δ) else none
 | _=>none
theorem vN {K:PySem.W.Frag} {H:Hp}:∀ (is:List Nat) {vs:List V} {ds:List D} {σ:L2.St} {δ:DS} {Q:L2.St->Hp->Prop},Reps K H vs ds->RepS K H σ δ->ds.length=is.length->(∀ σ',RepS K H σ' (gZ is ds δ)->Q σ' H)->gY is vs σ H Q
 | [],_,_,σ,δ,Q,.nil,R,_,k=>⟨rfl,k σ R⟩
 | [],_,_,_,_,_,.cons _ _,_,l,_=>by cases l
 | _ :: _,_,_,_,_,_,.nil,_,l,_=>by cases l
 | i :: is,_,_,σ,δ,Q,.cons (v:=v) (vs:=vs) r t,R,l,k=>⟨v,vs,rfl,vN is t (R.set i r) (by simpa using l) k⟩
theorem xa {X:Cx} {es:List Expr} {k:Nat} {pos:Pos} (is:List Nat) (hg:PG X (.Tuple es k pos) (vW X.K is.length (gY is))):PGD X (.Tuple es k pos) (gDs is):=fun pins s σ H v u Q I r ⟨d,δ,δ',rv,R,e,q⟩=>by
 unfold gDs at e
 split at e
 . rename_i ds
   split at e
   . rename_i hl
     cases e
     cases rv with
     | tup hs rs=>exact hg pins s σ H _ u Q I r ⟨_,_,rfl,hs,rs.length.trans hl,vN is rs R hl q⟩
   . cases e
 . cases e
def xO (δ δ':DS):Prop:=δ'.length=δ.length/\∀ (i:Nat) d,δ[i]? = some (some d)->δ'[i]? = some (some d)
theorem RepS.weak {K:PySem.W.Frag} {H:Hp} {σ:L2.St} {δ δ':DS} (R:RepS K H σ δ') (w:xO δ δ'):RepS K H σ δ:=⟨R.len.trans w.1,fun i d q=>R.val i d (w.2 i d q)⟩
def g8 (n:Nat) (δ:DS):DS:=List.replicate n none++δ
theorem oh:∀ (is:List Nat) (ds:List D) {n:Nat} {δ0 δ:DS},(∀ i∈is,i < n)->xO (g8 n δ0) δ->xO (g8 n δ0) (gZ is ds δ)
 | [],_,_,_,_,_,k=>k
 | _ :: _,[],_,_,_,_,k=>k
 | i :: is,d :: ds,n,δ0,δ,hi,k=>oh is ds (fun j m=>hi j (Zl _ m)) ⟨by rw [List.length_set];exact k.1,fun j e q=>by
  have hj:n<=j:=Nat.le_of_not_lt fun hlt=>by
   unfold g8 at q
   rw [List.getElem?_append_left (by simpa using hlt),List.getElem?_replicate,if_pos hlt] at q
   cases q
  have:=hi i Zk
  rw [List.getElem?_set_ne (by omega)]
  exact k.2 j e q⟩
def wo (n:Nat) (g:D->DS->Option DS):Prop:=∀ d δ0 δ1,g d (g8 n δ0)=some δ1->xO (g8 n δ0) δ1
theorem v7 {n:Nat} (is:List Nat) (h:∀ i∈is,i < n):wo n (gDs is):=fun d δ0 δ1 e=>by
 unfold gDs at e
 split at e
 . split at e
   . cases e
     exact oh is _ h ⟨rfl,fun _ _ q=>q⟩
   . cases e
 . cases e
def iO (f:D->Option (Option D)):List D->Option (List D)
 | []=>some []
 | d :: ds=>(f d).bind fun o=>(iO f ds).bind fun xs=>some (o.toList++xs)
theorem qE {f:D->Option (Option D)}:∀ {ds es:List D} {xs ys:List D},iO f ds=some xs->iO f es=some ys->iO f (ds++es)=some (xs++ys)
 | [],es,xs,ys,h,g=>by cases h;exact g
 | d :: ds,es,xs,ys,h,g=>by
  obtain ⟨o,eo,h⟩:=Za.mp (show ((f d).bind _)=some xs from h)
  obtain ⟨zs,ez,h⟩:=Za.mp h
  cases h
  show ((f d).bind _)=_
  rw [eo]
  show ((iO f (ds++es)).bind _)=_
  rw [qE ez g,List.append_assoc]
  rfl
theorem oz {f:D->Option (Option D)}:∀ {ds xs:List D},iO f ds=some xs->∀ i,∃ ys,iO f (ds.take i)=some ys/\ys.length<=xs.length
 | [],xs,h,i=>⟨[],by simp [iO],Nat.zero_le _⟩
 | d :: ds,xs,h,0=>⟨[],rfl,Nat.zero_le _⟩
 | d :: ds,xs,h,i+1=>by
  obtain ⟨o,eo,h⟩:=Za.mp (show ((f d).bind _)=some xs from h)
  obtain ⟨zs,ez,h⟩:=Za.mp h
  cases h
  obtain ⟨ys,e,l⟩:=oz ez i
  refine ⟨o.toList++ys,?_,by simp;exact l⟩
  show ((f d).bind _)=_
  rw [eo]
  show ((iO f (ds.take i)).bind _)=_
  rw [e]
  rfl
theorem tf {f:D->Option (Option D)}:∀ {ds xs:List D},iO f ds=some xs->∀ (i:Nat) d,ds[i]? = some d->∃ o,f d=some o
 | [],_,_,i,d,e=>by simp at e
 | d :: ds,xs,h,0,d',e=>by
  obtain ⟨o,eo,h⟩:=Za.mp (show ((f d).bind _)=some xs from h)
  simp at e
  subst e
  exact ⟨o,eo⟩
 | d :: ds,xs,h,i+1,d',e=>by
  obtain ⟨o,eo,h⟩:=Za.mp (show ((f d).bind _)=some xs from h)
  obtain ⟨zs,ez,h⟩:=Za.mp h
  exact tf ez i d' (by simpa using e)
def iS (n:Nat) (js:List Nat) (g:D->DS->Option DS) (fc:FT) (felt:FM) (δ:DS) (d:D):Option (Option D):=(g d (g8 n (bF js δ))).bind fun δ1=>(fc δ1).bind fun b=>if b then (ownOf felt (shO δ1)).map some else some none
def kG (src:FA) (n:Nat) (js:List Nat) (g:D->DS->Option DS) (fc:FT) (felt:FM):FM:=fun δ=>(src δ).bind fun ds=>(iO (iS n js g fc felt δ) ds).bind fun xs=>if xs.length<=1000 then some (.lst xs,δ) else none
theorem nG {prog:Program} {w:World} {A:Around} {R:Result->Shared->Prop} {s:Shared} {elt target iter:Expr} {ifs:List Expr} {scope:Scope} {pos:Pos} {it acc:Value} {env:Env} (J:Nat->Shared->Prop)
 (turn:∀ n s,J n s->wpAny (model prog w) A (pyNext it) (fun r s₁=>match r with
  | none=>R (.ok .next) s₁
  | some v=>wpAny (model prog w) A (letOwnedTupleGo target it v) (fun _ s₂=>wpAny (model prog w) A (assign target env v) (fun _ s₃ =>
   wpAny (model prog w) A (forIn ifs true fun c r=>if r=true then do let ok <- isTrue c env (eval c env);pure (ForInStep.yield ok) else pure (ForInStep.yield r)) (fun ok sT =>
   if ok=true then wpAny (model prog w) A (eval elt env) (fun y s₄ =>
   wpAny (model prog w) A (call (.builtin "list.append") [acc,y]) (fun _ s₅=>∃ m,m < n/\J m s₅) (fun _ _=>False) s₄) (fun _ _=>False) sT else ∃ m,m < n/\J m sT) (fun _ _=>False) s₃) (fun _ _=>False) s₂) (fun _ _=>False) s₁) (fun _ _=>False) s)
 (n:Nat) (h:J n s):codeAny (model prog w) A (.compLoop (.ListComp elt [⟨target,iter,ifs,0⟩] scope pos) 0 it acc env) R s:=by
 refine codeAny_loop rfl J (fun n s j=>wpAny_noted (m:=compTurn (.ListComp elt [⟨target,iter,ifs,0⟩] scope pos) 0 it acc env) (compTurn_list elt target iter ifs scope pos it acc env▸wpAny_bind (wpAny_standAt (bindF (turn n s j) fun r _ q=>?_)))) n h
 cases r with
 | none=>exact wpAny_pure q
 | some v=>
  exact bindF q fun _ _ q=>bindF q fun _ _ q=>bindF q fun b _ q=>by
   cases b with
   | false=>exact wpAny_pure ⟨rfl,q⟩
   | true=>exact wpAny_bind (bindF q fun _ _ q=>bindF q fun _ _ q=>wpAny_pure (wpAny_pure ⟨rfl,q⟩))
section
variable {X:Cx} {pins:List (Addr×Obj)} {σ:L2.St} {H₂:Hp} {s₂:Shared} {scope:Scope} {cl:List (Str×Addr)} {T N:List Str} {js:List Nat} {C:Addr} {fp:List Addr}
theorem r6 (I:L2.Inv X pins σ H₂ s₂) (hcm:X.calm=true) (O:CompG X scope cl T N js) (hC:s₂.heap.objs.size<=C) (hf:∀ b∈fp,iP X pins H₂ b) (ho:∀ b∈fp,∃ o,s₂.heap.get? b=some o):(dc X scope cl T N C s₂ H₂ fp (X.pn++pins)).Ok where
 mod:=I.ok.mod
 kind:=O.kind
 glob:=I.ok.glob
 blt:=I.ok.blt
 above:=hC
 inj:=fun y z c h1 h2=>I.ok.inj y z c (O.cls y c h1) (O.cls z c h2)
 has:=fun y h=>O.has y h
 cab:=fun y c h1 h2=>by
  have:cl.lookup y=some c:=h2
  rw [O.clx y h1] at this
  cases this
 hd:=fun _=>I.ok.hd hcm
 frames:=I.ok.frames
 stk:=.inl rfl
 exf:=fun b hb=>by
  obtain ⟨o,e⟩:=ho b hb
  refine ⟨Nat.ne_of_lt (Nat.lt_of_lt_of_le (Heap.lt_size e) hC),fun y c h z=>?_⟩
  exact (hf b hb).2.2.2.2.1 y c (O.cls y c h) z
 bs:=I.bs
 bsz:=Nat.le_trans I.ok.bsz I.sz
 noex:=fun b o e hb=>by
  rcases (hf b hb).2.2.2.1 with z | z
  . exact I.ok.noex b o e z
  . exact absurd (Nat.lt_of_lt_of_le (Heap.lt_size e) (Nat.le_trans I.ok.bsz z)) (Nat.lt_irrefl _)
 exfs:=fun b hb z=>by
  rcases Zo.mp (I.stkSub b z) with e | e
  . exact (hf b hb).2.1 e
  . exact (hf b hb).2.2.1 e
 funs:=I.stack
 frf:=I.stkFree
theorem qU {h₁:Heap} {m:Str->Option Value} {tk:Nat} (I:L2.Inv X pins σ H₂ s₂) (hcm:X.calm=true) (O:CompG X scope cl T N js) (hC:s₂.heap.objs.size<=C) (hf:∀ b∈fp,iP X pins H₂ b) (ho:∀ b∈fp,∃ o,s₂.heap.get? b=some o)
 (old:∀ b o,s₂.heap.get? b=some o->h₁.get? b=some o) (hns:h₁.Ns C m) (hl:σ.length=X.N.length):L2.Inv (dc X scope cl T N C s₂ H₂ fp (X.pn++pins)) [] (List.replicate T.length none++dE js σ) H₂ { s₂ with heap:=h₁,toks:=tk } where
 ok:=r6 I hcm O hC hf ho
 os:=rfl
 bare:=I.bare
 base:=Un.kept old
 loc:=by
  refine ⟨m,hns,fun i y v h1 h2 h3=>?_⟩
  by_cases hi:i < T.length
  . rw [List.getElem?_append_left (by simpa using hi),List.getElem?_replicate,if_pos hi] at h2
    cases h2
  . obtain ⟨i,rfl⟩:∃ k,i=T.length+k:=⟨i - T.length,by omega⟩
    have h2':(dE js σ)[i]? = some (some v):=by
     rw [List.getElem?_append_right (by simp)] at h2
     simpa using h2
    unfold dE at h2'
    rw [List.getElem?_map] at h2'
    obtain ⟨j,hj,h4⟩:=Zb.mp h2'
    have h5:σ[j]? = some (some v):=by
     cases q:σ[j]? with
     | none=>rw [q] at h4;cases h4
     | some o=>rw [q] at h4;exact congrArg some h4
    obtain ⟨f1,f2,f3,f4⟩:=O.fr i y j h1 hj
    obtain ⟨m',hn',hl'⟩:=I.loc
    obtain ⟨u,ru,lk⟩:=hl' j y v f1 h5 (.inr (.inl f2))
    refine ⟨u,ru,?_⟩
    rcases lk with ⟨k1,_⟩ | ⟨_,c,hc,o,hco,hcd⟩
    . have:X.env.scope.names.lookup y=some .local:=k1
      rw [f2] at this
      cases this
    . exact .inr ⟨.inl f3,c,f4 c hc,o,old c o hco,hcd⟩
 cell:=fun y c e=>by
  obtain ⟨v,o,h1,h2⟩:=I.cell y c (O.cls y c e)
  exact ⟨v,o,old c o h1,h2⟩
 free:=I.hok.fresh hC
 freeC:=fun y c e=>I.freeC y c (O.cls y c e)
 pin:=fun p hp=>by
  have hp':p∈X.pn++pins:=by simpa using hp
  obtain ⟨h1,h2,h3,h4,h5⟩:=I.pin p hp'
  refine ⟨old _ _ h1,h2,Nat.ne_of_lt (Nat.lt_of_lt_of_le (Heap.lt_size h1) hC),fun z=>?_,h5⟩
  rcases Zo.mp (I.stkSub p.1 z) with e | e
  . exact h3 e
  . exact h4 e
 hok:=I.hok.kept old
 len:=by
  show (List.replicate T.length none++dE js σ).length=N.length
  rw [O.len]
  simp [dE]
theorem rm {K:PySem.W.Frag} {H:Hp} {σ:L2.St} {δ:DS} (R:RepS K H σ δ) (n:Nat) (js:List Nat):RepS K H (List.replicate n none++dE js σ) (g8 n (bF js δ)):=by
 refine ⟨by simp [dE,bF,g8],fun i d q=>?_⟩
 unfold g8 at q
 by_cases hi:i < n
 . rw [List.getElem?_append_left (by simpa using hi),List.getElem?_replicate,if_pos hi] at q
   cases q
 . obtain ⟨k,rfl⟩:∃ k,i=n+k:=⟨i - n,by omega⟩
   rw [List.getElem?_append_right (by simp)] at q ⊢
   have q':(none :: bF js δ)[k+1]? = some (some d):=by simpa using q
   obtain ⟨v,h1,h2⟩:=(kL R js).val (k+1) d q'
   exact ⟨v,by simpa using h1,h2⟩
theorem qV {elt tg iter:Expr} {ifs:List Expr} {pos:Pos} {it:Addr} {tn:Nat->Heap->Prop} {J:It} {ds xs:List D} {δ:DS} {g:D->DS->Option DS} {fc:FT} {felt:FM} {RR:Value->Addr->Result->Shared->Prop} {E:Value->Shared->Prop} (I:L2.Inv X pins σ H₂ s₂) (hcm:X.calm=true) (O:CompG X scope cl T N js)
 (TT:sd X.prog X.w X.K tg J fp it tn) (st:tn 0 s₂.heap) (hf:∀ b∈fp,iP X pins H₂ b) (itd:ItD X.K J H₂ ds) (R:RepS X.K H₂ σ δ) (hg:∀ C s₂ H₂ fp pn,PGD (dc X scope cl T N C s₂ H₂ fp pn) tg g) (fl:wo T.length g) (hc:∀ C s₂ H₂ fp pn,zQ (dc X scope cl T N C s₂ H₂ fp pn) ifs fc) (he:∀ C s₂ H₂ fp pn,PV (dc X scope cl T N C s₂ H₂ fp pn) elt felt)
 (hm:iO (iS T.length js g fc felt δ) ds=some xs) (hz:xs.length<=1000)
 (hRR:∀ (D C:Addr) (s':Shared) (Hend:Hp) (vs:List V),s₂.heap.objs.size<=C->L2.Inv X pins σ Hend s'->Same H₂ Hend->Hend D=some (.lst vs)->(∃ Acc,RepOs X.K H₂ Hend vs xs Acc/\Acc.Nodup/\D ∉ Acc/\H₂ D=none)->(∃ m,s'.heap.Ns C m)->Hend C=none->RR (.ref D) C (.ok .next) s') :
 wpAny (model X.prog X.w) X.A (newList []) (fun acc s₃=>wpAny (model X.prog X.w) X.A (newFunctionEnv scope X.env.globals cl [] X.env.qual none .none (some X.env)) (fun cenv s₄ =>
  codeAny (model X.prog X.w) X.A (.compStart (.ListComp elt [⟨tg,iter,ifs,0⟩] scope pos) 0 (.ref it) acc { cenv with scope:=relabel scope X.env }) (RR acc cenv.locals) s₄) E s₃) E s₂:=by
 have objs:=TT.obj 0 s₂.heap st
 have objs':∀ b∈fp,∃ o,s₂.heap.get? b=some o:=fun b hb=>let ⟨o,h,_⟩:=objs b hb;⟨o,h⟩
 refine wpAny_newObj_type (wpAny_newFunctionEnv O.nocell (by intro y hy;simp at hy) (fun h₁ hns₁ hsb₁=>?_) O.kind)
 dsimp only at hns₁ hsb₁ ⊢
 generalize hP:s₂.heap.push { cls:=.type "list",dict:=none,data:=.seq ([]:List Value).toArray }=P2 at hns₁ hsb₁ ⊢
 have hC:P2.objs.size=s₂.heap.objs.size+1:=by rw [<- hP,Heap.size_push]
 generalize hCC:P2.objs.size=C at *
 have hCle:s₂.heap.objs.size<=C:=by omega
 have hDle:s₂.heap.objs.size<=s₂.heap.objs.size:=by omega
 have hDC:s₂.heap.objs.size ≠ C:=by omega
 have old:∀ b o,s₂.heap.get? b=some o->h₁.get? b=some o:=fun b o e=>by
  refine hsb₁.extBut b o (Nat.ne_of_lt (Nat.lt_of_lt_of_le (Heap.lt_size e) hCle)) (Heap.get?_push_of_some _ ?_)
  rw [<- hP]
  exact Heap.get?_push_of_some _ e
 have hacc:h₁.get? s₂.heap.objs.size=some { cls:=.type "list",data:=.seq ([]:List Value).toArray }:=by
  refine hsb₁.extBut s₂.heap.objs.size _ hDC (Heap.get?_push_of_some _ ?_)
  rw [<- hP]
  exact Heap.get?_push_size _ rfl
 have I0:=fun tk=>qU (C:=C) (tk:=tk) I hcm O hCle hf objs' old hns₁ I.len
 have dstk:s₂.heap.objs.size ∉ frs X.stack:=iZ I hDle
 have fne:∀ b∈fp,b ≠ s₂.heap.objs.size:=fun b hb e=>by
  obtain ⟨o,h⟩:=objs' b hb
  exact absurd (Heap.lt_size h) (by rw [e];exact Nat.lt_irrefl _)
 have cne:∀ y c,cl.lookup y=some c->c ≠ s₂.heap.objs.size:=fun y c e z=>by
  obtain ⟨v,o,h1,_⟩:=I.cell y c (O.cls y c e)
  exact absurd (Heap.lt_size h1) (by rw [z];exact Nat.lt_irrefl _)
 have pne:∀ p∈X.pn++pins,p.1 ≠ s₂.heap.objs.size:=fun p hp e=>by
  exact absurd (Heap.lt_size (I.pin p hp).1) (by rw [e];exact Nat.lt_irrefl _)
 have stat:∀ {H':Hp} {pl:List (Addr×Obj)},(∀ b∈fp,H' b=none)->(∀ p∈pl,∀ b∈fp,p.1 ≠ b)->∀ b∈fp,iP (dc X scope cl T N C s₂ H₂ fp (X.pn++pins)) pl H' b:=fun {H' pl} hn hpl b hb=>by
  obtain ⟨o,h⟩:=objs' b hb
  refine ⟨hn b hb,Nat.ne_of_lt (Nat.lt_of_lt_of_le (Heap.lt_size h) hCle),fun z=>?_,.inl hb,fun y c e=>(hf b hb).2.2.2.2.1 y c (O.cls y c e),fun p hp=>?_⟩
  . rcases Zo.mp (I.stkSub b z) with e | e
    . exact (hf b hb).2.1 e
    . exact (hf b hb).2.2.1 e
  . rcases Zn.mp hp with q | q
    . exact (hf b hb).2.2.2.2.2 p q
    . exact hpl p q b hb
 have loop:∀ s₃:Shared,s₃={ s₂ with heap:=h₁,toks:=s₂.toks+([]:List (Str×Value)).length } ->
  codeAny (model X.prog X.w) X.A (.compLoop (.ListComp elt [⟨tg,iter,ifs,0⟩] scope pos) 0 (.ref it) (.ref s₂.heap.objs.size) (compEnvC scope cl C X.env)) (RR (.ref s₂.heap.objs.size) C) s₃:=by
  rintro s₃ rfl
  refine nG (fun n s=>∃ (i:Nat) (σ':L2.St) (H':Hp) (vs:List V) (ys:List D),n=ds.length - i/\i<=ds.length/\L2.Inv (dc X scope cl T N C s₂ H₂ fp (X.pn++pins)) [] σ' H' s/\Same H₂ H'/\RepS X.K H' σ' (g8 T.length (bF js δ))/\tn i s.heap/\(∀ b∈fp,H' b=none) /\
   (∃ (its:List Value) (k:Nat),Vals vs its/\s.heap.get? s₂.heap.objs.size=some { cls:=.type "list",data:=.seq its.toArray k })/\H' s₂.heap.objs.size=none/\(∃ Acc,RepOs X.K H₂ H' vs ys Acc/\Acc.Nodup)/\iO (iS T.length js g fc felt δ) (ds.take i)=some ys/\ys.length<=1000) ?_ ds.length
   ⟨0,_,H₂,[],[],rfl,Nat.zero_le _,I0 _,Same.refl _,rm R _ js,TT.keep 0 _ _ st (fun b hb o e=>old b o e),fun b hb=>(hf b hb).1,⟨[],0,.nil,hacc⟩,I.hok.fresh hDle,⟨[],.nil,List.nodup_nil⟩,rfl,Nat.zero_le _⟩
  rintro n s ⟨i,σ',H',vs,ys,rfl,hi,I',sm,R',st',fr',⟨its,k,rv,hD⟩,fD,⟨Acc,rr,nda⟩,hys,hyl⟩
  by_cases hlt:i < ds.length
  . -- one more
    obtain ⟨go,yl⟩:=(itd i H' sm).1 hlt
    have hd0:ds[i]? = some ds[i]:=by simp [hlt]
    obtain ⟨oe,ge⟩:=tf hm i _ hd0
    have hys1:iO (iS T.length js g fc felt δ) (ds.take (i+1))=some (ys++oe.toList):=by
     have e8:ds.take (i+1)=ds.take i++[ds[i]]:=by rw [List.take_add_one,hd0];rfl
     rw [e8]
     refine qE hys ?_
     show ((iS T.length js g fc felt δ ds[i]).bind _)=_
     rw [ge]
     simp [iO]
    have hyl1:(ys++oe.toList).length<=1000:=by
     obtain ⟨zs,ez,l⟩:=oz hm (i+1)
     rw [hys1] at ez
     cases ez
     omega
    unfold iS at ge
    obtain ⟨δ1,eδ1,ge⟩:=Za.mp ge
    obtain ⟨ok,eok,ge⟩:=Za.mp ge
    have kp:=fl _ _ _ eδ1
    have I1:L2.Inv (dc X scope cl T N C s₂ H₂ fp (X.pn++pins)) [(s₂.heap.objs.size,{ cls:=.type "list",data:=.seq its.toArray k })] σ' H' s:=I'.pins_of fun p hp=>by
     have:p=(s₂.heap.objs.size,{ cls:=.type "list",data:=.seq its.toArray k }):=by simpa using hp
     subst this
     exact ⟨hD,fD,hDC,dstk,fun v z=>by cases z⟩
    refine thn (TT.item (dc X scope cl T N C s₂ H₂ fp (X.pn++pins)) rfl rfl rfl rfl i _ s σ' H' (fun _ _=>False) I1 (stat fr' fun p hp b hb=>by
     have:p=(s₂.heap.objs.size,{ cls:=.type "list",data:=.seq its.toArray k }):=by simpa using hp
     subst this
     exact (fne b hb).symm) st' go) fun r s1 ⟨u,hr,h4⟩=>?_
    subst hr
    refine thn h4 fun _ s2 ⟨y,H'',I2,ru,yy,st2,fr2⟩=>?_
    obtain ⟨s3,d,hd,rd⟩:=yl y H'' yy
    have hd':d=ds[i]:=by rw [hd0] at hd;exact (Option.some.inj hd).symm
    subst hd'
    have I3:=I2.pinned (stat fr2 fun p hp b hb=>by
     have:p=(s₂.heap.objs.size,{ cls:=.type "list",data:=.seq its.toArray k }):=by simpa using hp
     subst this
     exact (fne b hb).symm) (TT.obj _ _ st2)
    refine thn (hg C s₂ H₂ fp (X.pn++pins) _ s2 σ' H'' y u (fun σ4 H4=>RepS X.K H4 σ4 δ1/\H4=H'') I3 ru ⟨_,_,δ1,rd,R'.mono s3,eδ1,fun σ4 r4=>⟨r4,rfl⟩⟩) fun _ s4 ⟨σ4,H4,I4,R4,e2⟩=>?_
    subst e2
    refine thn (hc C s₂ H₂ fp (X.pn++pins) _ s4 σ4 H4 (fun b H5=>b=ok/\Same H4 H5) I4 ⟨δ1,ok,R4,eok,fun H5 s5=>⟨rfl,s5⟩⟩) fun okv sT ⟨HT,IT,hok',sT4⟩=>?_
    have hDT:sT.heap.get? s₂.heap.objs.size=some { cls:=.type "list",data:=.seq its.toArray k }:=(IT.pin (s₂.heap.objs.size,{ cls:=.type "list",data:=.seq its.toArray k }) (by simp)).1
    have fDT:HT s₂.heap.objs.size=none:=(IT.pin (s₂.heap.objs.size,{ cls:=.type "list",data:=.seq its.toArray k }) (by simp)).2.1
    have RT:RepS X.K HT σ4 δ1:=R4.mono sT4
    have lz:its.length<=1000:=by
     have:=rv.length
     have:=rr.len
     omega
    cases ok with
    | false =>
     cases ge
     rw [hok',if_neg (by decide)]
     have pf:∀ b∈fp,∀ ob,s2.heap.get? b=some ob->sT.heap.get? b=some ob/\HT b=none:=fun b hb ob hob=>by
      have:=IT.pin (b,ob) (List.mem_append_right _ (List.mem_append_right _ (ft hb hob)))
      exact ⟨this.1,this.2.1⟩
     simp only [Option.toList_none,List.append_nil] at hys1
     refine ⟨ds.length - (i+1),by omega,i+1,σ4,HT,vs,ys,rfl,hlt,IT.pins_of (pins':=[]) (fun p hp=>by simp at hp),(sm.trans s3).trans sT4,RT.weak kp,?_,?_,⟨its,k,rv,hDT⟩,fDT,?_,hys1,hyl⟩
     . refine TT.keep _ _ _ st2 fun b hb ob hob=>(pf b hb ob hob).1
     . intro b hb
       obtain ⟨ob,hob,_⟩:=TT.obj _ _ st2 b hb
       exact (pf b hb ob hob).2
     . refine ⟨Acc,rr.frame (cF (s3.trans sT4)) (fun a m=>?_),nda⟩
       obtain ⟨⟨ws,e⟩,_⟩:=rr.dom a m
       rw [e];exact (s3.trans sT4) a _ e
    | true =>
     rw [hok',if_pos rfl]
     obtain ⟨e,ge2,eo⟩:=Zb.mp (show (ownOf felt (shO δ1)).map some=some oe from ge)
     subst eo
     refine thn (he C s₂ H₂ fp (X.pn++pins) _ sT σ4 HT (fun v H5=>Same HT H5/\∃ A,RepO X.K H₂ H5 v e A/\A.Nodup/\∀ a∈A,HT a=none) IT (x3 ge2 RT ((sm.trans s3).trans sT4))) fun wv s5 ⟨v,H5,I5,rw5,s45,A5,r5,nd5,fr5⟩=>?_
     have hD5:s5.heap.get? s₂.heap.objs.size=some { cls:=.type "list",data:=.seq its.toArray k }:=(I5.pin (s₂.heap.objs.size,{ cls:=.type "list",data:=.seq its.toArray k }) (by simp)).1
     have fD5:H5 s₂.heap.objs.size=none:=(I5.pin (s₂.heap.objs.size,{ cls:=.type "list",data:=.seq its.toArray k }) (by simp)).2.1
     have pf:∀ b∈fp,∀ ob,s2.heap.get? b=some ob->s5.heap.get? b=some ob/\H5 b=none:=fun b hb ob hob=>by
      have:=I5.pin (b,ob) (List.mem_append_right _ (List.mem_append_right _ (ft hb hob)))
      exact ⟨this.1,this.2.1⟩
     refine call_meets F.slot_list_append ⟨_,hD5,rfl⟩ F.entry_list_append (F.args_list_append_2 _ _) (PySem.list_append s₂.heap.objs.size its.toArray k wv (by rw [List.size_toArray];exact dR lz)) ⟨hD5,?_⟩
     have q:=PySem.IsL.update hD5 (fun a=>a.push wv)
     have I6:L2.Inv (dc X scope cl T N C s₂ H₂ fp (X.pn++pins)) [] σ4 H5 { s5 with heap:=s5.heap.update s₂.heap.objs.size (Obj.mapSeq fun a=>a.push wv),toks:=s5.toks } :=
      (I5.pins_of (pins':=[]) fun p hp=>by simp at hp).turned (it:=s₂.heap.objs.size) (t':=s5.toks) (fun b ob hb hu=>(Heap.get?_update_other s5.heap _ (Ne.symm hb)).trans hu) fD5 hDC (.inr hDle) cne (fun p hp=>by
       rcases Zn.mp hp with z | z
       . exact pne p z
       . simp at z)
     refine ⟨ds.length - (i+1),by omega,i+1,σ4,H5,vs++[v],ys++[e],rfl,hlt,I6,((sm.trans s3).trans sT4).trans s45,(RT.mono s45).weak kp,?_,?_,?_,fD5,?_,hys1,hyl1⟩
     . refine TT.keep _ _ _ st2 fun b hb ob hob=>?_
       exact (Heap.get?_update_other s5.heap _ (Ne.symm (fne b hb))).trans (pf b hb ob hob).1
     . intro b hb
       obtain ⟨ob,hob,_⟩:=TT.obj _ _ st2 b hb
       exact (pf b hb ob hob).2
     . have hf7:its.toArray.push wv=(its++[wv]).toArray:=by simp
       rw [hf7] at q
       exact ⟨its++[wv],_,rv.append (.cons rw5 .nil),q⟩
     . exact t3 rr nda ((s3.trans sT4).trans s45) r5 nd5 fun a m=>dr (s3.trans sT4) (fr5 a m)
  . -- the end
    have hie:i=ds.length:=by omega
    refine thn (TT.done (dc X scope cl T N C s₂ H₂ fp (X.pn++pins)) rfl rfl rfl rfl i [(s₂.heap.objs.size,{ cls:=.type "list",data:=.seq its.toArray k })] s σ' H' (fun _ _=>False) (I'.pins_of fun p hp=>by
     have:p=(s₂.heap.objs.size,{ cls:=.type "list",data:=.seq its.toArray k }):=by simpa using hp
     subst this
     exact ⟨hD,fD,hDC,dstk,fun v z=>by cases z⟩) (stat fr' fun p hp b hb=>by
     have:p=(s₂.heap.objs.size,{ cls:=.type "list",data:=.seq its.toArray k }):=by simpa using hp
     subst this
     exact (fne b hb).symm) st' ((itd i H' sm).2 (by omega))) fun r s1 ⟨hr,I8⟩=>?_
    subst hr
    have hD8:s1.heap.get? s₂.heap.objs.size=some { cls:=.type "list",data:=.seq its.toArray k }:=(I8.pin (s₂.heap.objs.size,{ cls:=.type "list",data:=.seq its.toArray k }) (by simp)).1
    have hxs:ds.take i=ds:=List.take_of_length_le (by omega)
    rw [hxs,hm] at hys
    cases hys
    have sn:=cN fD (.lst vs)
    have dn:∀ b,∀ u,H' b=some u->b ≠ s₂.heap.objs.size:=fun b u z=>cT z fD
    have un:Un (frs X.stack) fp H₂ (upd H' s₂.heap.objs.size (.lst vs)) s₂.heap s1.heap:=by
     have b0:=I8.base
     refine ⟨fun b ob e n1 n2 n3=>b0.keep b ob e n1 n2 n3,fun b ob e n1 n2 n3=>b0.slot b ob e n1 n2 n3,fun b ob e n1 n3=>?_,fun b ob e n3=>b0.there b ob e n3,fun b zs e=>?_,fun b ob u e=>?_,fun b ps e=>?_⟩
     . rw [aH (Nat.ne_of_lt (Heap.lt_size e))]
       exact b0.free b ob e n1 n3
     . have z:=b0.tups b zs e
       rw [aH (dn _ _ z)]
       exact z
     . have z:=b0.frzs b ob u e
       rw [aH (dn _ _ z)]
       exact z
     . obtain ⟨more,z⟩:=b0.tbls b ps e
       exact ⟨more,by rw [aH (dn _ _ z)];exact z⟩
    have hok:HOk X.prog X.w (upd H' s₂.heap.objs.size (.lst vs)) s1.heap:=fun b u z=>by
     by_cases hb:b=s₂.heap.objs.size
     . rw [hb] at z ⊢
       rw [bx] at z
       cases z
       exact ⟨dR (by have:=rr.len;omega),its,k,rv,hD8⟩
     . rw [aH hb] at z
       exact (I8.hok b u z).stay (fun _ _ _ q=>q) (fun c q=>by rw [aH (dn _ _ q)];exact q) fun c ys q=>by rw [aH (dn _ _ q)];exact q
    have IX:L2.Inv X pins σ (upd H' s₂.heap.objs.size (.lst vs)) s1:=I.call' I8.os un hok I8.bare fun b hb=>⟨(hf b hb).2.2.2.1,(hf b hb).2.1,(hf b hb).2.2.2.2.1,(hf b hb).2.2.2.2.2⟩
    obtain ⟨m8,hn8,_⟩:=I8.loc
    refine hRR s₂.heap.objs.size C s1 _ vs hCle IX (sm.trans sn) bx ⟨Acc,rr.frame (cF sn) (fun a m=>by
     obtain ⟨⟨ws,e⟩,_⟩:=rr.dom a m
     rw [e];exact sn a _ e),nda,fun m=>(by
     obtain ⟨⟨ws,e⟩,_⟩:=rr.dom _ m
     rw [fD] at e;cases e),I.hok.fresh hDle⟩ ⟨m8,hn8⟩ ?_
    rw [aH (Ne.symm hDC)]
    exact I8.free
 exact codeAny_compStart_list (loop _ rfl) (TT.self X.A 0 _ _ _ (TT.keep 0 _ _ st (fun b hb o e=>old b o e)) (loop _ rfl))
theorem k9 {n:Nat} {js:List Nat} {g:D->DS->Option DS} {fc:FT} {f:FM} {δ:DS}:∀ {ds xs:List D},iO (iS n js g fc f δ) ds=some xs->g7 xs=true
 | [],xs,h=>by cases h;rfl
 | d :: ds,xs,h=>by
  obtain ⟨o,eo,h⟩:=Za.mp (show ((iS n js g fc f δ d).bind _)=some xs from h)
  obtain ⟨ys,ey,h⟩:=Za.mp h
  cases h
  unfold iS at eo
  obtain ⟨δ1,_,eo⟩:=Za.mp eo
  obtain ⟨b,_,eo⟩:=Za.mp eo
  cases b with
  | false=>cases eo;exact k9 ey
  | true =>
   obtain ⟨e,ge,eo⟩:=Zb.mp (show (ownOf f (shO δ1)).map some=some o from eo)
   subst eo
   show (own e && g7 ys)=true
   rw [k9 ey,Bool.and_true]
   unfold ownOf at ge
   obtain ⟨p,_,ge⟩:=Za.mp ge
   split at ge
   . rename_i ho;cases ge;exact ho
   . cases ge
theorem vb {elt tg iter:Expr} {ifs:List Expr} {pos:Pos} {src:FA} {g:D->DS->Option DS} {fc:FT} {felt:FM} (hi:PID X tg iter src) {T N:List Str} {js:List Nat} (hg:∀ C s₂ H₂ fp pn,PGD (dc X scope cl T N C s₂ H₂ fp pn) tg g) (fl:wo T.length g) (hc:∀ C s₂ H₂ fp pn,zQ (dc X scope cl T N C s₂ H₂ fp pn) ifs fc) (he:∀ C s₂ H₂ fp pn,PV (dc X scope cl T N C s₂ H₂ fp pn) elt felt) (O:CompG X scope cl T N js) (hcm:X.calm=true:=by rfl)
 (hs:∀ v,foldedSetIterable iter X.env v=pure v:=by intro _;rfl):PV X (.ListComp elt [⟨tg,iter,ifs,0⟩] scope pos) (kG src T.length js g fc felt):=by
 intro pins s σ H Q I ⟨F,δ,As,d,δ',RA,q,k⟩
 have R:=RA.toS
 unfold kG at q
 obtain ⟨ds,eds,q⟩:=Za.mp q
 obtain ⟨xs,exs,q⟩:=Za.mp q
 by_cases hz:xs.length<=1000
 . rw [if_pos hz] at q
   cases q
   rw [eval_ListComp]
   refine wpAny_comprehension_free (use:=none) rfl hs O.clos O.kind O.names ?_
   refine wpAny_mono (hi pins s σ H (fun J H1=>Same H H1/\ItD X.K J H1 ds) I ⟨δ,ds,R,eds,fun J H1 s1 itd=>⟨s1,itd⟩⟩) (fun v s1 h1=>wpAny_mono h1 (fun itv s2 h2=>?_) fun _ _ z=>z) fun _ _ z=>z
   obtain ⟨it,fp,tn,J,H2,rfl,I2,TT,st,hf,s1,itd⟩:=h2
   refine qV (RR:=fun acc C=>compPost (model X.prog X.w) X.A X.xe none (EP X pins σ Q) acc C) I2 hcm O TT st hf itd (R.mono s1) hg fl hc he exs hz ?_
   intro D C s' Hend vs hC IX sm hD rr ⟨m,hn⟩ fC
   exact ⟨m,hn,fun h' hs'=>⟨.ref D,Hend,la IX I2 hC fC hs',rfl,tU RA k (k9 exs) (s1.trans sm) s1 hD rr⟩⟩
 . rw [if_neg hz] at q;cases q
end
end Dl
namespace Dl
open PySem PySem.Spec PyProof.Rows L2
section
variable {X:Cx} {pins:List (Addr×Obj)} {σ:L2.St} {H:Hp} {s:Shared} {h':Heap}
theorem zY {t':Nat} {ch:List Addr} (I:L2.Inv X pins σ H s) (k:∀ b o,b ∉ ch->s.heap.get? b=some o->h'.get? b=some o) (hf:∀ b∈ch,iP X pins H b):L2.Inv X pins σ H { s with heap:=h',toks:=t' }:=by
 have nit:∀ b u,H b=some u->b ∉ ch:=fun b u e m=>by rw [(hf b m).1] at e;cases e
 refine I.step (g':=s.gens) (d':=s.drawn) (ch:=ch) (fun b hb=>⟨(hf b hb).2.2.2.1,(hf b hb).2.1,(hf b hb).2.2.2.2.1,(hf b hb).2.2.2.2.2⟩) (fun b o _ _ hc e _=>k b o hc e) (fun b o _ _ hc e _=>⟨o.slots,k b o hc e⟩) (fun _ _ _ _ n=>n)
  (fun b o hc e=>⟨o,k b o hc e⟩) (fun _ _ e=>e) (fun _ _ _ e=>e) (fun b ps e=>⟨#[],by rw [e];simp⟩) (fun m hm=>?_) (fun b u e=>?_) I.bare
 . obtain ⟨o,es,ep,ho,r⟩:=hm
   exact ⟨o,es,ep,k _ o (fun m=>(hf _ m).2.1 rfl) ho,r⟩
 . refine (I.hok b u e).stay (fun c v hc q=>k c v ?_ q) (fun _ q=>q) fun _ _ q=>q
   rcases hc with z | z
   . rw [z];exact nit b u e
   . exact nit c _ z
theorem zX {t':Nat} {ch:List Addr} {a:Addr} {xs:List V} (I:L2.Inv X pins σ H s) (k:∀ b o,b ∉ ch->s.heap.get? b=some o->h'.get? b=some o) (hf:∀ b∈ch,iP X pins H b) (ha:s.heap.objs.size<=a) (new:ObjOk X.prog X.w (upd H a (.tup xs)) h' a (.tup xs)):L2.Inv X pins σ (upd H a (.tup xs)) { s with heap:=h',toks:=t' }:=by
 have fa:H a=none:=I.hok.fresh ha
 have nit:∀ b u,H b=some u->b ∉ ch:=fun b u e m=>by rw [(hf b m).1] at e;cases e
 have na:∀ b u,H b=some u->b ≠ a:=fun b u e z=>by rw [z,fa] at e;cases e
 refine I.step (g':=s.gens) (d':=s.drawn) (ch:=ch) (fun b hb=>⟨(hf b hb).2.2.2.1,(hf b hb).2.1,(hf b hb).2.2.2.2.1,(hf b hb).2.2.2.2.2⟩) (fun b o _ _ hc e _=>k b o hc e) (fun b o _ _ hc e _=>⟨o.slots,k b o hc e⟩) (fun b o _ e n=>?_)
  (fun b o hc e=>⟨o,k b o hc e⟩) (fun b _ e=>by rw [aH (na b _ e)];exact e) (fun b _ _ e=>by rw [aH (na b _ e)];exact e) (fun b ps e=>⟨#[],by rw [aH (na b _ e),e];simp⟩) (fun m hm=>?_) (fun b u e=>?_) I.bare
 . rw [aH (Nat.ne_of_lt (Nat.lt_of_lt_of_le (Heap.lt_size e) ha))]
   exact n
 . obtain ⟨o,es,ep,ho,r⟩:=hm
   exact ⟨o,es,ep,k _ o (fun m=>(hf _ m).2.1 rfl) ho,r⟩
 . by_cases hb:b=a
   . subst hb
     rw [bx] at e
     cases e
     exact new
   . rw [aH hb] at e
     refine (I.hok b u e).stay (fun c v hc q=>k c v ?_ q) (fun c q=>by rw [aH (na c _ q)];exact q) fun c ys q=>by rw [aH (na c _ q)];exact q
     rcases hc with z | z
     . rw [z];exact nit b u e
     . exact nit c _ z
end
def Itz (K:PySem.W.Frag) (a b:Addr):It :=
 ⟨fun i H=>∃ xs ys x y,SqL K H a xs/\SqL K H b ys/\xs[i]? = some x/\ys[i]? = some y,fun i H v H'=>∃ p x y,v=.ref p/\H p=none/\H'=upd H p (.tup [x,y])/\(∀ xs,SqL K H a xs->xs[i]? = some x)/\∀ ys,SqL K H b ys->ys[i]? = some y,
  fun i H=>∃ xs ys,SqL K H a xs/\SqL K H b ys/\(xs.length<=i \/ ys.length<=i)⟩
def A6 (z TI TO i1 i2 l1 l2:Addr) (i:Nat) (h:Heap):Prop:=IsZip h z TI TO .none/\IsPair h TI (.ref i1) (.ref i2)/\(∃ a b,IsPair h TO a b)/\h.IsListIter i1 l1 i/\h.IsListIter i2 l2 i
theorem uK {P:Program} {w:World} {K:PySem.W.Frag} {es:List Expr} {kt:Nat} {pt:Pos} {z TI TO i1 i2 l1 l2:Addr} (D:ZipApart z TI TO i1 i2 l1 l2):sd P w K (.Tuple es kt pt) (Itz K l1 l2) [z,TI,TO,i1,i2] z (A6 z TI TO i1 i2 l1 l2) where
 mem:=by simp
 obj:=fun i h st b hb=>by
  obtain ⟨hz,hTI,⟨a,b',hTO⟩,⟨o1,e1,_,d1⟩,⟨o2,e2,_,d2⟩⟩:=st
  simp only [Zo,List.not_mem_nil,or_false] at hb
  rcases hb with rfl | rfl | rfl | rfl | rfl
  . exact ⟨_,hz,fun v q=>by cases q⟩
  . exact ⟨_,hTI,fun v q=>by cases q⟩
  . exact ⟨_,hTO,fun v q=>by cases q⟩
  . exact ⟨_,e1,fun v q=>by rw [d1] at q;cases q⟩
  . exact ⟨_,e2,fun v q=>by rw [d2] at q;cases q⟩
 keep:=fun i h h' st k=>by
  obtain ⟨hz,hTI,⟨a,b',hTO⟩,h1,h2⟩:=st
  exact ⟨k z (by simp) _ hz,k TI (by simp) _ hTI,⟨a,b',k TO (by simp) _ hTO⟩,h1.at fun o e=>k i1 (by simp) o e,h2.at fun o e=>k i2 (by simp) o e⟩
 item:=by
  intro X hP hw hK hc i pins s σ H E I hf st hg
  subst hP hw hK
  obtain ⟨xs,ys,x,y,hq1,hq2,hx,hy⟩:=hg
  obtain ⟨hz,hTI,⟨a,b',hTO⟩,h1,h2⟩:=st
  obtain ⟨its,rv,p,_⟩:=I.list hq1
  obtain ⟨jts,rw',p',_⟩:=I.list hq2
  obtain ⟨u,hu,ru⟩:=rv.get hx
  obtain ⟨v,hv,rv2⟩:=rw'.get hy
  refine wpAny_pyNext_zip_item D hz hTI hTO h1 h2 p.isList p'.isList (x:=u) (y:=v) (by simpa using hu) (by simpa using hv) fun h' hz' hTO' h1' h2' hT hsz hk=>?_
  have fT:H s.heap.objs.size=none:=I.hok.fresh (Nat.le_refl _)
  refine ⟨_,rfl,wpAny_letOwnedTupleGo_zip hz' fun h'' hz'' sb=>?_⟩
  have lt:∀ b∈[z,TI,TO,i1,i2],b < s.heap.objs.size:=fun b hb=>by
   obtain ⟨o1,e1,_⟩:=h1
   obtain ⟨o2,e2,_⟩:=h2
   simp only [Zo,List.not_mem_nil,or_false] at hb
   rcases hb with rfl | rfl | rfl | rfl | rfl
   . exact Heap.lt_size hz
   . exact Heap.lt_size hTI
   . exact Heap.lt_size hTO
   . exact Heap.lt_size e1
   . exact Heap.lt_size e2
  have zne:s.heap.objs.size ≠ z:=Nat.ne_of_gt (lt z (by simp))
  have up:∀ b o,b ≠ z->h'.get? b=some o->h''.get? b=some o:=fun b o hb e=>(sb.2 b hb).trans e
  have kk:∀ b o,b ∉ [z,TI,TO,i1,i2]->s.heap.get? b=some o->h''.get? b=some o:=fun b o hb e=>by
   simp only [Zo,List.not_mem_nil,or_false,not_or] at hb
   exact up b o hb.1 (hk b o hb.1 hb.2.2.1 hb.2.2.2.1 hb.2.2.2.2 e)
  have hT2:h''.get? s.heap.objs.size=some { cls:=.type "tuple",data:=.seq #[u,v] }:=up _ _ zne hT
  refine ⟨.ref s.heap.objs.size,upd H s.heap.objs.size (.tup [x,y]),zX (s:=s) (h':=h'') (t':=s.toks) I kk hf (Nat.le_refl _) ⟨by show 2<=sizeLine;decide,[u,v],.cons ru (.cons rv2 .nil),⟨_,hT2,rfl,_,rfl⟩⟩,rfl,⟨_,x,y,rfl,fT,rfl,fun zs q=>by rw [I.list_inj q hq1];exact hx,fun zs q=>by rw [I.list_inj q hq2];exact hy⟩,⟨hz'',?_,⟨u,v,up _ _ D.TOz hTO'⟩,h1'.at fun o e=>up _ o D.i1z e,h2'.at fun o e=>up _ o D.i2z e⟩,fun b hb=>?_⟩
  . exact up _ _ D.TIz (hk TI _ D.TIz D.TITO D.TIi1 D.TIi2 hTI)
  . rw [aH (Nat.ne_of_lt (lt b hb))]
    exact (hf b hb).1
 done:=by
  intro X hP hw hK hc i pins s σ H E I hf st hg
  subst hP hw hK
  obtain ⟨xs,ys,hq1,hq2,hl⟩:=hg
  obtain ⟨hz,hTI,⟨a,b',hTO⟩,h1,h2⟩:=st
  obtain ⟨its,rv,p,_⟩:=I.list hq1
  obtain ⟨jts,rw',p',_⟩:=I.list hq2
  have l1:=rv.length
  have l2:=rw'.length
  refine wpAny_pyNext_zip_end (I.ok.hd hc) D hz hTI hTO h1 h2 p.isList p'.isList (by
   rcases hl with h | h
   . exact .inl (by simp;omega)
   . exact .inr (by simp;omega)) fun h' hk=>⟨rfl,zY (t':=s.toks) I (fun b o hb e=>?_) hf⟩
  simp only [Zo,List.not_mem_nil,or_false,not_or] at hb
  exact hk b o hb.1 hb.2.2.1 hb.2.2.2.1 hb.2.2.2.2 e
 self:=fun _ _ _ _ _ st h=>wpAny_pyIter_zip st.1 h
def Bx (K:PySem.W.Frag) (ta:TA):TI:=fun σ H R=>ta σ H fun vs H1=>∃ a b,vs=[.ref a,.ref b]/\(∃ xs,SqL K H1 a xs)/\(∃ ys,SqL K H1 b ys)/\R (Itz K a b) H1
theorem vv {X:Cx} {es:List Expr} {kt:Nat} {pt:Pos} {a b:Expr} {ta:TA} {p pos:Pos} (hg:Gl X "zip") (hm:X.mg "zip" = none) (ha:PA X [a,b] ta) (hs:starEach [a,b] X.env=[(false,eval a X.env),(false,eval b X.env)]:=by rfl) (hs2:starEach [b] X.env=[(false,eval b X.env)]:=by rfl) :
 PI X (.Tuple es kt pt) (.Call (.Name "zip" p) [a,b] [] pos) (Bx X.K ta):=by
 intro pins s σ H R I h
 refine Call_ (nh I hg hm PyProof.Rows.boot_zip (PyProof.Rows.callWith_type1 (thn (ha pos pins s σ H _ I h) fun us s1 ⟨vs,H1,I1,r1,q1⟩=>?_) (by rw [hs,hs2]) (by rw [hs2];rfl)))
 obtain ⟨l1,l2,e,⟨xs,hq1⟩,⟨ys,hq2⟩,q⟩:=q1
 subst e
 cases r1 with
 | cons r rr =>
  cases rr with
  | cons r' rr =>
   cases rr
   cases r
   cases r'
   obtain ⟨its,rv,p,_⟩:=I1.list hq1
   obtain ⟨jts,rw',p',_⟩:=I1.list hq2
   have a1:l1 < s1.heap.objs.size:=by obtain ⟨_,e,_⟩:=p.isList;exact Heap.lt_size e
   have a2:l2 < s1.heap.objs.size:=by obtain ⟨_,e,_⟩:=p'.isList;exact Heap.lt_size e
   refine call_zip_2 p.isList p'.isList fun h' hz hTI hTO h1 h2 hsz hk=>?_
   refine wpAny_pyIter_zip hz ?_
   refine ⟨_,_,_,_,H1,rfl,I1.kept (t':=s1.toks) hk,uK (PyProof.Rows.zipApart_new a1 a2),⟨hz,hTI,⟨_,_,hTO⟩,h1,h2⟩,fun b hb=>?_,q⟩
   have hb':s1.heap.objs.size<=b:=by
    simp only [Zo,List.not_mem_nil,or_false] at hb
    rcases hb with rfl | rfl | rfl | rfl | rfl <;> omega
   exact I1.fpOk hb' (I1.hok.fresh hb')
theorem zy {K:PySem.W.Frag} {H1:Hp} {a b:Addr} {vs ws:List V} {ds es:List D} (hq:SqL K H1 a vs) (r:Reps K H1 vs ds) (hq':SqL K H1 b ws) (r':Reps K H1 ws es):ItD K (Itz K a b) H1 (List.zipWith (fun d e=>D.tup [d,e]) ds es):=by
 intro i H2 s
 have h1:=s.seq hq
 have h2:=s.seq hq'
 have l1:=r.length
 have l2:=r'.length
 rw [List.length_zipWith]
 refine ⟨fun hi=>⟨⟨vs,ws,vs[i]'(by omega),ws[i]'(by omega),h1,h2,by simp [show i < vs.length by omega],by simp [show i < ws.length by omega]⟩,fun x H' y=>?_⟩,fun hi=>⟨vs,ws,h1,h2,by omega⟩⟩
 obtain ⟨p,u,v,rfl,hp,rfl,yu,yv⟩:=y
 obtain ⟨d,hd,rd⟩:=r.getV (yu vs h1)
 obtain ⟨e,he,re⟩:=r'.getV (yv ws h2)
 have sn:=cN hp (.tup [u,v])
 refine ⟨sn,.tup [d,e],?_,.tup (SqT.of bx) (.cons ((rd.mono s).mono sn) (.cons ((re.mono s).mono sn) .nil))⟩
 rw [List.getElem?_zipWith,hd,he]
def wu (g:FA):FA:=fun δ=>(g δ).bind fun xs=>match xs with
 | [x,y]=>(asL x).bind fun ds=>(asL y).bind fun es=>some (List.zipWith (fun d e=>D.tup [d,e]) ds es)
 | _=>none
theorem tY {K:PySem.W.Frag} {H:Hp} {v:V} {d:D} {ds:List D} (r:Rep K H v d) (e:asL d=some ds):∃ a vs,v=.ref a/\SqL K H a vs/\Reps K H vs ds:=by
 cases r with
 | @lst p vs es hp rp=>cases e;exact ⟨p,vs,rfl,SqL.of hp,rp⟩
 | @seq p vs es hp rp=>cases e;exact ⟨p,vs,rfl,hp,rp⟩
 | _=>cases e
theorem w9 {X:Cx} {es:List Expr} {kt:Nat} {pt:Pos} {a b:Expr} {g:FA} {p pos:Pos} (hg:Gl X "zip") (hm:X.mg "zip" = none) (ha:PAD X [a,b] g) (hs:starEach [a,b] X.env=[(false,eval a X.env),(false,eval b X.env)]:=by rfl) (hs2:starEach [b] X.env=[(false,eval b X.env)]:=by rfl) :
 PID X (.Tuple es kt pt) (.Call (.Name "zip" p) [a,b] [] pos) (wu g):=rQ (vv hg hm ha hs hs2) fun σ H R ⟨δ,ds,R0,e,k⟩=>by
 unfold wu at e
 obtain ⟨xs,exs,e⟩:=Za.mp e
 match xs,exs,e with
 | [x,y],exs,e =>
  obtain ⟨us,eu,e⟩:=Za.mp (show ((asL x).bind fun ds=>(asL y).bind fun es=>some (List.zipWith (fun d e=>D.tup [d,e]) ds es))=some ds from e)
  obtain ⟨ws,ew,e⟩:=Za.mp e
  cases e
  refine ⟨δ,[x,y],R0,exs,fun vs H1 s1 r1 l=>?_⟩
  cases r1 with
  | cons r rr =>
   cases rr with
   | cons r' rr =>
    cases rr
    obtain ⟨p,vs,rfl,hq,rp⟩:=tY r eu
    obtain ⟨p',vs',rfl,hq',rp'⟩:=tY r' ew
    exact ⟨p,p',rfl,⟨_,hq⟩,⟨_,hq'⟩,k _ H1 s1 (zy hq rp hq' rp')⟩
end Dl
namespace Dl
open PySem PySem.Spec PyProof.Rows L2
def RPZ (X:Cx) (Z:L2.St->Prop) (E:nP) (F:Hp):Res->Prop
 | .nx δ=>∀ σ' F' H',Same F F'->d9 X.K F' H' σ' δ->Z σ'->E.nx σ' H'
 | .rt d=>∀ v F' H' A,Same F F'->Same F' H'->RepO X.K F' H' v d A->A.Nodup->E.rt v H'
 | .bk δ=>∀ σ' F' H',Same F F'->d9 X.K F' H' σ' δ->Z σ'->E.bk σ' H'
 | .ct δ=>∀ σ' F' H',Same F F'->d9 X.K F' H' σ' δ->Z σ'->E.ct σ' H'
 | .ex _ _=>False
 | .mk _ _=>False
theorem RPZ.mono {X:Cx} {Z:L2.St->Prop} {E:nP} {F F1:Hp} {r:Res} (s:Same F F1) (h:RPZ X Z E F r):RPZ X Z E F1 r:=by
 cases r with
 | nx δ=>exact fun σ' F' H' s2 R=>h σ' F' H' (s.trans s2) R
 | rt d=>exact fun v F' H' A s2=>h v F' H' A (s.trans s2)
 | bk δ=>exact fun σ' F' H' s2 R=>h σ' F' H' (s.trans s2) R
 | ct δ=>exact fun σ' F' H' s2 R=>h σ' F' H' (s.trans s2) R
 | ex C δ=>exact h
 | mk C δ=>exact h
def upZ (X:Cx) (Z:L2.St->Prop) (s:SD):TS:=fun E σ H=>∃ F δ r,d9 X.K F H σ δ/\Z σ/\s δ=some r/\RPZ X Z E F r
def PZD (X:Cx) (Z:L2.St->Prop) (st:Stmt) (s:SD):Prop:=PS X st (upZ X Z s)
def PZs (X:Cx) (Z:L2.St->Prop) (sts:List Stmt) (s:SD):Prop:=PSs X sts (upZ X Z s)
def ZOk (Z:L2.St->Prop):Prop:=∀ i,2<=i->∀ σ v,Z σ->Z (σ.set i (some v))
section
variable {X:Cx} {Z:L2.St->Prop} {st:Stmt} {rest:List Stmt} {s u:SD} {e:Expr} {fk fl:FD} {fm:FM} {c:FT} {pos:Pos}
theorem mO:PZs X Z [] ba:=oB pd fun E σ H ⟨F,δ,r,R,hz,e,k⟩=>by cases e;exact k σ F H (Same.refl F) R hz
theorem fK (h1:PZD X Z st s) (h2:PZs X Z rest u):PZs X Z (st :: rest) (ax s u):=oB (mR h1 h2) fun E σ H ⟨F,δ,r,R,hz,e,k⟩=>by
 unfold ax at e
 obtain ⟨r1,e1,e⟩:=Za.mp e
 refine ⟨F,δ,r1,R,hz,e1,?_⟩
 cases r1 with
 | nx δ'=>exact fun σ' F' H' s1 R1 z1=>⟨F',δ',r,R1,z1,e,k.mono s1⟩
 | rt d=>cases e;exact k
 | bk d=>cases e;exact k
 | ct d=>cases e;exact k
 | ex C d=>cases e;exact k
 | mk C d=>cases e;exact k
theorem g4 (h:PZD X Z st s):PZs X Z [st] s:=pc h
theorem qt {cx:Expr} {a b:List Stmt} (hc:PTD X cx c) (ha:PZs X Z a s) (hb:PZs X Z b u):PZD X Z (.If cx a b pos) (sIf c s u):=fV (vi hc ha hb) fun E σ H ⟨F,δ,r,⟨As,R⟩,hz,q,k⟩=>by
 unfold sIf at q
 obtain ⟨d,ed,q⟩:=Za.mp q
 refine ⟨δ,d,R.toS,ed,fun H' s1=>?_⟩
 cases d with
 | true=>rw [if_pos rfl];exact ⟨F,δ,r,⟨As,R.grow s1⟩,hz,q,k⟩
 | false=>rw [if_neg Bool.false_ne_true];exact ⟨F,δ,r,⟨As,R.grow s1⟩,hz,q,k⟩
theorem sR (i:Nat) {x:Str} {pos':Pos} (zi:∀ σ v,Z σ->Z (σ.set i (some v))) (hN:X.N.Nodup) (he:PV X e fm) (hi:X.N[i]? = some x:=by rfl) (hx:Loc X.env.scope x:=by first | exact Or.inl rfl | exact Or.inr rfl) (hs:swapsWith e (some (.Name x pos')) pos.line X.env=pure false:=by rfl) (hf:X.fn x=true \/ X.env.scope.names.lookup x=some .local:=by first | exact .inl rfl | exact .inr rfl | assumption) :
 PZD X Z (.Assign [.Name x pos'] e pos) (av i fm):=fV (rF hN hi hx he hs hf) fun E σ H ⟨F,δ,r,⟨As,R⟩,hz,q,k⟩=>by
 unfold av at q
 obtain ⟨⟨d,δ'⟩,ed,q⟩:=Za.mp q
 cases q
 exact ⟨F,δ,As,d,δ',R,ed,fun v F' H' A As' ev R' r'=>k (σ.set i (some v)) F' H' ev.fs (R'.setM i r' ev.nd ev.dj) (zi σ v hz)⟩
theorem rE (i:Nat) {x:Str} {pos':Pos} (zk:ZOk Z) (hN:X.N.Nodup) (he:PV X e fm) (h2:2<=i:=by decide) (hi:X.N[i]? = some x:=by rfl) (hx:Loc X.env.scope x:=by first | exact Or.inl rfl | exact Or.inr rfl) (hs:swapsWith e (some (.Name x pos')) pos.line X.env=pure false:=by rfl) (hf:X.fn x=true \/ X.env.scope.names.lookup x=some .local:=by first | exact .inl rfl | exact .inr rfl | assumption) :
 PZD X Z (.Assign [.Name x pos'] e pos) (av i fm):=sR i (zk i h2) hN he hi hx hs hf
theorem sV {iter:Expr} {body:List Stmt} {src:FMA} {x:Str} {px:Pos} (i:Nat) (zi:∀ σ v,Z σ->Z (σ.set i (some v))) (hN:X.N.Nodup) (hp:PassesOwn (model X.prog X.w) X.A X.env X.xe) (hc:X.calm=true) (hi:PIM X (.Name x px) iter src) (hb:PZs X Z body s)
 (hx:X.N[i]? = some x:=by rfl) (hl:Loc X.env.scope x:=by first | exact Or.inl rfl | exact Or.inr rfl) (hf:X.fn x=true \/ X.env.scope.names.lookup x=some .local:=by first | exact .inl rfl | exact .inr rfl | assumption)
 (hs:∀ x,foldedSetIterable iter X.env x=pure x:=by intro _;rfl):PZD X Z (.For (.Name x px) iter body [] pos) (cn src i s):=fV (pe hp hc hi (kh hN hx hl hf) hb hs) fun E σ H ⟨F,δ,r,⟨As,R⟩,hz,e,k⟩=>by
 unfold cn at e
 obtain ⟨⟨ds,δ1⟩,eds,e⟩:=Za.mp e
 refine ⟨F,δ,As,ds,δ1,R,eds,fun J F1 H1 As1 s1 R1 it=>?_⟩
 refine ⟨fun j m σ H=>m=ds.length - j/\j<=ds.length/\∃ F2 δ,Same F1 F2/\d9 X.K F2 H σ δ/\Z σ/\forM i s (ds.drop j) δ=some r/\RPZ X Z E F2 r,⟨ds.length,rfl,Nat.zero_le _,F1,δ1,Same.refl _,⟨As1,R1⟩,hz,e,k.mono s1⟩,?_⟩
 rintro j m σ H2 ⟨rfl,hjl,F2,δ2,s2,⟨As2,R2⟩,z2,e2,k2⟩
 by_cases hlt:j < ds.length
 . obtain ⟨go,yl⟩:=(it j H2 (s2.trans R2.fz)).1 hlt
   rw [List.drop_eq_getElem_cons hlt] at e2
   obtain ⟨r4,e4,e2⟩:=Za.mp (show ((s (δ2.set i (some (sh ds[j])))).bind _)=some r from e2)
   refine .inr ⟨go,fun σ' H'=>∃ F3 δ,Same F1 F3/\d9 X.K F3 H' σ' δ/\Z σ'/\forM i s (ds.drop (j+1)) δ=some r/\RPZ X Z E F3 r,fun σ' H' z=>⟨ds.length - (j+1),by omega,rfl,hlt,z⟩,fun y H' yy=>?_⟩
   obtain ⟨eH,d,hd,rx⟩:=yl y H' yy
   subst eH
   have hd':d=ds[j]:=by
    rw [Zq hlt] at hd
    exact (Option.some.inj hd).symm
   subst hd'
   have R3:=R2.setM i (RepO.of_sh R2.fz (rx.mono s2)) List.nodup_nil fun _ _ _ z=>nomatch z
   refine ⟨F2,δ2.set i (some (sh ds[j])),r4,R3,zi σ y z2,e4,?_⟩
   cases r4 with
   | nx δ'=>exact fun σ' F' H'' s4 R4 z4=>⟨F',δ',s2.trans s4,R4,z4,e2,k2.mono s4⟩
   | ct δ'=>exact fun σ' F' H'' s4 R4 z4=>⟨F',δ',s2.trans s4,R4,z4,e2,k2.mono s4⟩
   | bk δ'=>cases e2;exact k2
   | rt d=>cases e2;exact k2
   | ex C δ'=>cases e2;exact k2
   | mk C δ'=>cases e2;exact k2
 . have e:j=ds.length:=by omega
   subst e
   rw [List.drop_length] at e2
   cases e2
   exact .inl ⟨(it _ H2 (s2.trans R2.fz)).2 (Nat.le_refl _),k2 σ F2 H2 (Same.refl _) ⟨As2,R2⟩ z2⟩
theorem u8 {iter:Expr} {body:List Stmt} {src:FMA} {x:Str} {px:Pos} (i:Nat) (zk:ZOk Z) (hN:X.N.Nodup) (hp:PassesOwn (model X.prog X.w) X.A X.env X.xe) (hc:X.calm=true) (hi:PIM X (.Name x px) iter src) (hb:PZs X Z body s) (h2:2<=i:=by decide)
 (hx:X.N[i]? = some x:=by rfl) (hl:Loc X.env.scope x:=by first | exact Or.inl rfl | exact Or.inr rfl) (hf:X.fn x=true \/ X.env.scope.names.lookup x=some .local:=by first | exact .inl rfl | exact .inr rfl | assumption)
 (hs:∀ x,foldedSetIterable iter X.env x=pure x:=by intro _;rfl):PZD X Z (.For (.Name x px) iter body [] pos) (cn src i s):=sV i (zk i h2) hN hp hc hi hb hx hl hf hs
def gA (i:Nat) (fk fl:FD) (fm:FM):SD:=fun δ=>(fm δ).bind fun p=>match p.2[i]? with
 | some (some (.lst ds))=>(fk p.2).bind fun kd=>match kd with
  | .int k=>(ixN ds.length k).bind fun j=>match ds[j]? with
   | some (.lst row)=>(fl p.2).bind fun ld=>match ld with
    | .int l=>(ixN row.length l).bind fun m=>some (.nx (p.2.set i (some (.lst (ds.set j (.lst (row.set m p.1)))))))
    | _=>none
   | _=>none
  | _=>none
 | _=>none
theorem Bs {i:Nat} {K:PySem.W.Frag} {F H:Hp} {σ:L2.St} {δ:DS} {As:Nat->List Addr} {Q:L2.St->Hp->Prop} {r:Res} (R:RepA K F H σ δ As) (q:gA i fk fl fm δ=some r) (k:∀ F' H' δ',r=.nx δ'->Same F F'->d9 K F' H' σ δ'->Q σ H') :
 yr (upV K fm) (xB (tOp (ua K) (mD i) (up K fk)) (up K fl) sN) { nx:=Q,rt:=fun _ _=>True } σ H:=by
 unfold gA at q
 obtain ⟨⟨d,δ'⟩,ed,q⟩:=Za.mp q
 dsimp only at q
 split at q
 . rename_i ds h1
   obtain ⟨kd,ek,q⟩:=Za.mp q
   split at q
   . rename_i kk
     obtain ⟨j,hj,q⟩:=Za.mp q
     split at q
     . rename_i row hrow
       obtain ⟨ld,el,q⟩:=Za.mp q
       split at q
       . rename_i ll
         obtain ⟨m,hm,q⟩:=Za.mp q
         cases q
         refine ⟨F,δ,As,d,δ',R,ed,fun v F' H' A As' ev R' r'=>?_⟩
         obtain ⟨a,vs,A0,s0,_,g0,_,rl⟩:=R'.lst h1
         refine ⟨.ref a,s0,δ',.int kk,R'.toS,ek,fun iv H1 s1 ri=>?_⟩
         cases ri
         have R1:=R'.grow s1
         obtain ⟨a1,vs1,b,ws,B0,O,t0,u0,hv1,ub,rr1,ndB,inB,inO,aO,sep,_⟩:=R1.row h1 hrow
         have ea:a1=a:=by rw [s0] at t0;cases t0;rfl
         subst ea
         have es1:vs1=vs:=by
          have:=s1 _ _ g0
          rw [u0] at this;cases this;rfl
         subst es1
         refine ⟨a1,vs1,kk,.ref b,rfl,rfl,SqL.of u0,by unfold L2.atI;rw [rl.length,hj];exact hv1,?_⟩
         refine ⟨δ',.int ll,R1.toS,el,fun iv2 H2 s2 ri2=>?_⟩
         cases ri2
         have R2:=R1.grow s2
         obtain ⟨a2,vs2,b2,ws2,B2,O2,t2,u2,hv2,ub2,rr2,ndB2,inB2,inO2,aO2,sep2,fin⟩:=R2.row h1 hrow
         have ea:a2=a1:=by rw [s0] at t2;cases t2;rfl
         subst ea
         have es2:vs2=vs1:=by
          have:=s2 _ _ u0
          rw [u2] at this;cases this;rfl
         subst es2
         have eb:b2=b:=by rw [hv1] at hv2;cases hv2;rfl
         subst eb
         refine ⟨b2,ws2,ll,m,rfl,rfl,ub2,by rw [rr2.length];exact hm,?_⟩
         have ml:m < row.length:=(mh hm).2.1
         obtain ⟨v0,C1,C,C3,_,_,eC,pk⟩:=rr2.pick (i:=m) (d:=row[m]) (Zq ml)
         have rv:RepO K F' H2 v d A:=r'.frame (cF (s1.trans s2)) fun x mm=>by
          obtain ⟨⟨ws,e⟩,_⟩:=r'.dom x mm
          rw [e];exact (s1.trans s2) x _ e
         have rn:=pk (H':=H2) (fun _ _ e _=>e) (fun _ _=>rfl) rv
         have nB:=List.nodup_cons.mp ndB2
         have nB2:=nB.2
         rw [eC] at nB2
         have n1:=List.nodup_append.mp nB2
         have n2:=List.nodup_append.mp n1.2.1
         have inC:∀ x,x∈C1 \/ x∈C3->x∈B2:=fun x mm=>by
          rw [eC]
          rcases mm with z | z
          . exact List.mem_append_left _ z
          . exact List.mem_append_right _ (List.mem_append_right _ z)
         have inI:∀ x,x∈C1 \/ x∈C3->x∈As' i:=fun x mm=>inB2 x (Zl _ (inC x mm))
         refine k F' _ _ rfl ev.fs (fin rn (fun z=>?_) ?_ (fun x mm z=>?_) fun kx x hk mm z=>?_)
         . rcases Zn.mp z with z | z
           . exact nB.1 (inC _ (.inl z))
           . rcases Zn.mp z with z | z
             . exact ev.dj i b2 (inB2 b2 Zk) z
             . exact nB.1 (inC _ (.inr z))
         . refine List.nodup_append.mpr ⟨n1.1,List.nodup_append.mpr ⟨ev.nd,n2.2.1,fun y hy w hw e=>?_⟩,fun y hy w hw e=>?_⟩
           . subst e;exact ev.dj i y (inI y (.inr hw)) hy
           . subst e
             rcases Zn.mp hw with z | z
             . exact ev.dj i y (inI y (.inl hy)) z
             . exact n1.2.2 y hy y (List.mem_append_right _ z) rfl
         . rcases Zn.mp mm with mm | mm
           . exact sep2 x (Zl _ (inC x (.inl mm))) z
           . rcases Zn.mp mm with mm | mm
             . exact ev.dj i x (inO2 x z) mm
             . exact sep2 x (Zl _ (inC x (.inr mm))) z
         . rcases Zn.mp z with z | z
           . exact R2.dj kx i x hk mm (inI x (.inl z))
           . rcases Zn.mp z with z | z
             . exact ev.dj kx x mm z
             . exact R2.dj kx i x hk mm (inI x (.inr z))
       . cases q
     . cases q
   . cases q
 . cases q
theorem rL {i:Nat} {δ:DS} {r:Res} (q:gA i fk fl fm δ=some r):∃ δ',r=.nx δ':=by
 unfold gA at q
 obtain ⟨⟨d,δ'⟩,ed,q⟩:=Za.mp q
 dsimp only at q
 split at q
 . obtain ⟨kd,ek,q⟩:=Za.mp q
   split at q
   . obtain ⟨j,hj,q⟩:=Za.mp q
     split at q
     . obtain ⟨ld,el,q⟩:=Za.mp q
       split at q
       . obtain ⟨m,hm,q⟩:=Za.mp q
         cases q
         exact ⟨_,rfl⟩
       . cases q
     . cases q
   . cases q
 . cases q
theorem sU (i:Nat) {tg:Expr} (he:PV X e fm) (hg:PG X tg (xB (tOp (ua X.K) (mD i) (up X.K fk)) (up X.K fl) sN)) (hs:swapsWithSole [tg] e pos.line X.env=pure false:=by rfl) (hw:swappedStores [tg] e X.env=pure none:=by rfl)
 (h1:(assignEach [tg] X.env).map (·.2)=[assign tg X.env]:=by rfl):PZD X Z (.Assign [tg] e pos) (gA i fk fl fm):=fV (rH he hg hs hw h1) fun E σ H ⟨F,δ,r,⟨As,R⟩,hz,q,k⟩=>by
 obtain ⟨δ',rfl⟩:=rL q
 exact Bs (Q:=E.nx) R q fun F' H' δ2 e s1 R1=>by cases e;exact k σ F' H' s1 R1 hz
end
def qD (K:PySem.W.Frag) (n:Nat) (G:List D->Option (D×D)):Sp:=fun vs H Q _=>vs.length=n/\∃ v0 v1 ws F d0 d1 A0 A1 es d0' d1',vs=v0 :: v1 :: ws/\Same F H/\RepO K F H v0 d0 A0/\RepO K F H v1 d1 A1/\(A0++A1).Nodup/\Reps K F ws es/\d7 es=true /\
 G (d0 :: d1 :: es)=some (d0',d1')/\∀ F' H' A0' A1',Same F F'->Same F' H'->RepO K F' H' v0 d0' A0'->RepO K F' H' v1 d1' A1'->(A0'++A1').Nodup->Q .non H'
def mE (n:Nat) (d0 d1:D) (es:List D):DS:=some d0 :: some d1 :: (es.map some++List.replicate (n - (es.length+2)) none)
def asZ (A0 A1:List Addr):Nat->List Addr
 | 0=>A0
 | 1=>A1
 | _=>[]
theorem qp {K:PySem.W.Frag} {F H:Hp} {N:List Str} {v0 v1:V} {ws:List V} {d0 d1:D} {es:List D} {A0 A1:List Addr} (s:Same F H) (r0:RepO K F H v0 d0 A0) (r1:RepO K F H v1 d1 A1) (nd:(A0++A1).Nodup) (r:Reps K F ws es) (im:d7 es=true):d9 K F H (L2.start N (v0 :: v1 :: ws)) (mE N.length d0 d1 es):=by
 have l:=r.length
 have nd':=List.nodup_append.mp nd
 refine ⟨asZ A0 A1,s,by unfold L2.start mE;simp [l],fun i d q=>?_,fun i h=>?_,fun i=>?_,fun i j a hij m=>?_⟩
 . match i,q with
   | 0,q=>cases q;exact ⟨v0,rfl,r0⟩
   | 1,q=>cases q;exact ⟨v1,rfl,r1⟩
   | i+2,q =>
    have q':(es.map some++List.replicate (N.length - (es.length+2)) none)[i]? = some (some d):=q
    have hi:i < es.length:=by
     by_cases hi:i < es.length
     . exact hi
     . rw [List.getElem?_append_right (by simpa using hi),List.getElem?_replicate] at q'
       split at q' <;> cases q'
    rw [List.getElem?_append_left (by simpa using hi),List.getElem?_map] at q'
    obtain ⟨e,h1,h2⟩:=Zb.mp q'
    cases h2
    obtain ⟨v,h5,h6⟩:=r.get h1
    refine ⟨v,?_,.imm (imms_mem.mp im d (List.mem_of_getElem? h1)) (h6.mono s)⟩
    unfold L2.start
    show (ws.map some++_)[i]? = _
    rw [List.getElem?_append_left (by rw [Zi,l];exact hi),List.getElem?_map,h5]
    rfl
 . match i,h with
   | 0,h=>exact absurd rfl (h d0)
   | 1,h=>exact absurd rfl (h d1)
   | i+2,_=>rfl
 . match i with
   | 0=>exact nd'.1
   | 1=>exact nd'.2.1
   | i+2=>exact List.nodup_nil
 . match i,j,hij,m with
   | 0,0,hij,_=>exact absurd rfl hij
   | 0,1,_,m=>exact fun z=>nd'.2.2 a m a z rfl
   | 0,j+2,_,_=>exact fun z=>nomatch z
   | 1,0,_,m=>exact fun z=>nd'.2.2 a z a m rfl
   | 1,1,hij,_=>exact absurd rfl hij
   | 1,j+2,_,_=>exact fun z=>nomatch z
   | i+2,_,_,m=>cases m
section
variable {P:Program} {w:World} {K:PySem.W.Frag} {mg:Str->Option Value} {base:Heap}
theorem zj {x qual:Str} {st:Stmt} {f:Addr} {fd:FuncData} {N ps:List Str} {k:Nat} {G:List D->Option (D×D)} (F:Fun K x qual st f fd) (S:aG N ps (am st))
 (hbody:∀ (cdv:Value) (A:Around) (outer:List Env) (s:Shared) (H:Hp) (E:XK) (Z:L2.St->Prop) (d0 d1:D) (es:List D) (d0' d1':D),Room k (A.deeper (envOfC qual (am st) s.heap.objs.size f cdv))->ZOk Z->G (d0 :: d1 :: es)=some (d0',d1') ->
  ∃ t,PZs (lV CX0 P w K mg base N qual (am st) f cdv A outer s H E).nox Z (bK st) t/\∃ δ',t (mE N.length d0 d1 es)=some (.nx δ')/\δ'[0]? = some (some d0')/\δ'[1]? = some (some d1')):FnOk P w K mg base CX0 (k+1) f fd ps (qD K ps.length G):=by
 refine F.ok S (fun vs H Q E h=>h.1) (fun cdv A outer s H vs Q E hr h=>?_)
 obtain ⟨hl,v0,v1,ws,F0,d0,d1,A0,A1,es,d0',d1',rfl,s0,r0,r1,nd,r,im,e,q⟩:=h
 obtain ⟨t,ht,δ',hq,g0,g1⟩:=hbody cdv A outer s H E (fun σ=>σ[0]? = some (some v0)/\σ[1]? = some (some v1)) d0 d1 es d0' d1' hr (fun i hi σ v ⟨a,b⟩=>⟨by rw [List.getElem?_set_ne (by omega)];exact a,by rw [List.getElem?_set_ne (by omega)];exact b⟩) e
 refine ⟨_,ht,F0,_,_,qp s0 r0 r1 nd r im,⟨rfl,rfl⟩,hq,fun σ' F' H' s1 ⟨As,R⟩ ⟨z0,z1⟩=>?_⟩
 obtain ⟨u0,h0,w0⟩:=R.val 0 _ g0
 obtain ⟨u1,h1,w1⟩:=R.val 1 _ g1
 rw [z0] at h0
 rw [z1] at h1
 cases h0
 cases h1
 exact q F' H' _ _ s1 R.fz w0 w1 (List.nodup_append.mpr ⟨R.nd 0,R.nd 1,fun a m b m' e=>by subst e;exact R.dj 0 1 a (by decide) m m'⟩)
structure zS (P:Program) (w:World) (K:PySem.W.Frag) (mg:Str->Option Value) (base:Heap) (k:Nat) (x:Str) (ps:List Str) (G:List D->Option (D×D)):Prop where
 ex:∃ f fd,FnOk P w K mg base CX0 k f fd ps (qD K ps.length G)/\mg x=some (.ref f)/\PySem.W.keepIn K (.ref f)=true/\Binds K fd ps []
end
def mL (i j:Nat) (G:List D->Option (D×D)) (g:FA):SD:=fun δ=>match δ[i]?,δ[j]? with
 | some (some (.lst xs)),some (some (.lst ys))=>(g δ).bind fun es=>(G (.lst xs :: .lst ys :: es)).bind fun p=>if d7 es=true/\own p.1=true/\own p.2=true/\i ≠ j then some (.nx ((δ.set i (some p.1)).set j (some p.2))) else none
 | _,_=>none
noncomputable def r9 (H:Hp) (A:List Addr):Hp:=fun a=>if a∈A then none else H a
theorem xJ {H:Hp} {A:List Addr}:Same (r9 H A) H:=fun a u e=>by
 unfold r9 at e
 split at e
 . cases e
 . exact e
theorem qZ {H:Hp} {A:List Addr} {a:Addr} (m:a∈A):r9 H A a=none:=if_pos m
theorem mw {H:Hp} {A:List Addr} {a:Addr} (m:a ∉ A):r9 H A a=H a:=if_neg m
theorem vo {X:Cx} {e:Expr} {es:List Expr} {g:FA} {pos p spos:Pos} {k l n:Nat} {x:Str} {ps:List Str} {G:List D->Option (D×D)} (i j:Nat) (F:zS X.prog X.w X.K X.mg X.base k x ps G) (hr:Room l X.A) (ha:PA X (e :: es) (n9 (mD i) (n9 (mD j) (upA X.K n g)))) (hk:k<=l:=by decide) (hg:Gl X x:=by rfl)
 (hn:n+2=ps.length:=by rfl) (hdb:(x == ("__debug__":Str))=false:=by decide) (he:starEach (e :: es) X.env=(false,eval e X.env) :: starEach es X.env:=by rfl) (hpl:(backTo pos (starEach es X.env)).any (·.1)=false:=by rfl) (hs:swapsWith (.Call (.Name x p) (e :: es) [] pos) none spos.line X.env=pure false:=by rfl) :
 PMD X (.Expr (.Call (.Name x p) (e :: es) [] pos) spos) (mL i j G g):=by
 obtain ⟨f,fd,F,hm,kp,hb⟩:=F.ex
 refine fV (ke (ma F (hr.mono hk) hg hm kp hb .nil sW ha hdb he hpl) hs) fun E σ H ⟨F0,δ,r,⟨As,R⟩,q,k⟩=>?_
 unfold mL at q
 split at q
 . rename_i xs ys hi hj
   obtain ⟨ds,eds,q⟩:=Za.mp q
   obtain ⟨⟨d0',d1'⟩,eG,q⟩:=Za.mp q
   dsimp only at q
   split at q
   . rename_i hc
     obtain ⟨im,o0,o1,hij⟩:=hc
     cases q
     obtain ⟨v0,s0,r0⟩:=R.val i _ hi
     obtain ⟨v1,s1,r1⟩:=R.val j _ hj
     refine ⟨v0,s0,v1,s1,δ,ds,R.toS,eds,fun vs H1 t1 rr lv=>?_⟩
     show qD X.K ps.length G ((v0 :: v1 :: vs)++[]) H1 _ E0
     rw [List.append_nil]
     have R1:=R.grow t1
     obtain ⟨v0',s0',r0⟩:=R1.val i _ hi
     rw [s0] at s0'
     cases s0'
     obtain ⟨v1',s1',r1⟩:=R1.val j _ hj
     rw [s1] at s1'
     cases s1'
     have sF:Same F0 (r9 H1 (As i++As j)):=fun a u e=>by
      rw [mw fun m=>?_]
      . exact R1.fz a u e
      . rcases Zn.mp m with z | z
        . rw [(R1.dom z).2] at e;cases e
        . rw [(R1.dom z).2] at e;cases e
     have nd:(As i++As j).Nodup:=List.nodup_append.mpr ⟨R1.nd i,R1.nd j,fun a m b m' e=>by subst e;exact R1.dj i j a hij m m'⟩
     refine ⟨by simp [lv,hn],v0,v1,vs,r9 H1 (As i++As j),.lst xs,.lst ys,As i,As j,ds,d0',d1',rfl,xJ,r0.froz sF fun a m=>qZ (List.mem_append_left _ m),r1.froz sF fun a m=>qZ (List.mem_append_right _ m),nd,?_,im,eG,fun F' H' A0' A1' sf sh w0 w1 nd'=>?_⟩
     . refine ie (fun a u e nl=>?_) rr im
       rw [mw fun m=>?_]
       . exact e
       . rcases Zn.mp m with z | z
         . obtain ⟨⟨ws,h⟩,_⟩:=R1.dom z
           rw [e] at h;cases h;exact absurd (ws.2.symm.trans nl) (fun z=>nomatch z)
         . obtain ⟨⟨ws,h⟩,_⟩:=R1.dom z
           rw [e] at h;cases h;exact absurd (ws.2.symm.trans nl) (fun z=>nomatch z)
     . have nd2:=List.nodup_append.mp nd'
       have hF:Same F0 H':=(sF.trans sf).trans sh
       have kI:gW H1 H':=fun a u e nl=>by
        refine sh a u (sf a u ?_)
        rw [mw fun m=>?_]
        . exact e
        . rcases Zn.mp m with z | z
          . obtain ⟨⟨ws,h⟩,_⟩:=R1.dom z
            rw [e] at h;cases h;exact absurd (ws.2.symm.trans nl) (fun z=>nomatch z)
          . obtain ⟨⟨ws,h⟩,_⟩:=R1.dom z
            rw [e] at h;cases h;exact absurd (ws.2.symm.trans nl) (fun z=>nomatch z)
       have oth:∀ kx a,kx ≠ i->kx ≠ j->a∈As kx->H' a=H1 a/\F' a ≠ none:=fun kx a h1 h2 m=>by
        obtain ⟨⟨ws,h⟩,_⟩:=R1.dom m
        have b:r9 H1 (As i++As j) a=some ws.1:=by
         rw [mw fun z=>?_]
         . exact h
         . rcases Zn.mp z with z | z
           . exact R1.dj kx i a h1 m z
           . exact R1.dj kx j a h2 m z
        have f:=sf a _ b
        exact ⟨by rw [h];exact sh a _ f,by rw [f];exact fun z=>nomatch z⟩
       have t0:=w0.thaw (sF.trans sf) o0
       have t1':=w1.thaw (sF.trans sf) o1
       have il:i < δ.length:=(List.getElem?_eq_some_iff.mp hi).1
       have jl:j < δ.length:=(List.getElem?_eq_some_iff.mp hj).1
       refine k σ F0 H' (Same.refl F0) ⟨iN (iN As i A0') j A1',hF,by rw [List.length_set,List.length_set];exact R.len,fun kx d q=>?_,fun kx h=>?_,fun kx=>?_,fun kx ky a hxy m=>?_⟩
       . by_cases hkj:kx=j
         . subst hkj
           rw [List.getElem?_set_self (by rw [List.length_set];exact jl)] at q
           cases q
           rw [aK]
           exact ⟨v1,s1,t1'⟩
         . rw [List.getElem?_set_ne (Ne.symm hkj)] at q
           rw [aI hkj]
           by_cases hki:kx=i
           . subst hki
             rw [List.getElem?_set_self il] at q
             cases q
             rw [aK]
             exact ⟨v0,s0,t0⟩
           . rw [List.getElem?_set_ne (Ne.symm hki)] at q
             rw [aI hki]
             obtain ⟨v,h1,h2⟩:=R1.val kx d q
             exact ⟨v,h1,h2.frame kI fun a m=>(oth kx a hki hkj m).1⟩
       . by_cases hkj:kx=j
         . subst hkj
           exact absurd (List.getElem?_set_self (by rw [List.length_set];exact jl)) (h d1')
         . rw [aI hkj]
           by_cases hki:kx=i
           . subst hki
             refine absurd ?_ (h d0')
             rw [List.getElem?_set_ne (Ne.symm hkj),List.getElem?_set_self il]
           . rw [aI hki]
             refine R1.non kx fun d z=>h d ?_
             rw [List.getElem?_set_ne (Ne.symm hkj),List.getElem?_set_ne (Ne.symm hki)]
             exact z
       . by_cases hkj:kx=j
         . subst hkj;rw [aK];exact nd2.2.1
         . rw [aI hkj]
           by_cases hki:kx=i
           . subst hki;rw [aK];exact nd2.1
           . rw [aI hki];exact R1.nd kx
       . have out0:∀ kz,kz ≠ i->kz ≠ j->a∈As kz->a ∉ A0':=fun kz h1 h2 mz z=>(oth kz a h1 h2 mz).2 (w0.dom a z).2
         have out1:∀ kz,kz ≠ i->kz ≠ j->a∈As kz->a ∉ A1':=fun kz h1 h2 mz z=>(oth kz a h1 h2 mz).2 (w1.dom a z).2
         by_cases hkj:kx=j
         . subst hkj
           rw [aK] at m
           rw [aI (Ne.symm hxy)]
           by_cases hki:ky=i
           . subst hki;rw [aK];exact fun z=>nd2.2.2 a z a m rfl
           . rw [aI hki];exact fun z=>out1 ky hki (Ne.symm hxy) z m
         . rw [aI hkj] at m
           by_cases hki:kx=i
           . subst hki
             rw [aK] at m
             by_cases hyj:ky=j
             . subst hyj;rw [aK];exact fun z=>nd2.2.2 a m a z rfl
             . rw [aI hyj,aI (Ne.symm hxy)];exact fun z=>out0 ky (Ne.symm hxy) hyj z m
           . rw [aI hki] at m
             by_cases hyj:ky=j
             . subst hyj;rw [aK];exact out1 kx hki hkj m
             . rw [aI hyj]
               by_cases hyi:ky=i
               . subst hyi;rw [aK];exact out0 kx hki hkj m
               . rw [aI hyi];exact R1.dj kx ky a hxy m
   . cases q
 . cases q
end Dl
namespace Dl
open PySem PySem.Spec PyProof.Rows L2
def asN:D->Option Int
 | .int i=>some i
 | _=>none
theorem pU {d:D} {i:Int} (h:asN d=some i):d=.int i:=by
 cases d <;> first | (cases h;rfl) | cases h
def nq (fa fb fc:FD):FD:=fun δ=>((fa δ).bind asN).bind fun i=>((fb δ).bind asN).bind fun j=>((fc δ).bind asN).bind fun k=>some (.bl (decide (i<=j) && decide (j < k)))
theorem vA {X:Cx} {a b c:Expr} {fa fb fc:FD} {pos:Pos} (ha:PD X a fa) (hb:PD X b fb) (hc:PD X c fc) (hm:lastMarks [.LtE,.Lt] [b,c]=false:=by with_unfolding_all rfl):PD X (.Compare a [.LtE,.Lt] [b,c] pos) (nq fa fb fc):=imp (vz AC vF ha hb hc hm) fun σ H Q ⟨δ,d,R,q,k⟩=>by
 unfold nq at q
 obtain ⟨i,ei,q⟩:=Za.mp q
 obtain ⟨j,ej,q⟩:=Za.mp q
 obtain ⟨l,el,q⟩:=Za.mp q
 obtain ⟨x,ex,hx⟩:=Za.mp ei
 obtain ⟨y,ey,hy⟩:=Za.mp ej
 obtain ⟨z,ez,hz⟩:=Za.mp el
 rw [pU hx] at ex
 rw [pU hy] at ey
 rw [pU hz] at ez
 cases q
 refine ⟨δ,.int i,R,ex,fun v H1 s1 r1=>?_⟩
 cases r1
 refine ⟨δ,.int j,R.mono s1,ey,fun u H2 s2 r2=>?_⟩
 cases r2
 refine ⟨i,j,rfl,rfl,decide (i<=j),rfl,?_⟩
 by_cases h:i<=j
 . rw [decide_eq_true h,if_pos rfl]
   refine ⟨δ,.int l,(R.mono s1).mono s2,ez,fun w H3 s3 r3=>?_⟩
   cases r3
   refine ⟨j,l,rfl,rfl,?_⟩
   rw [decide_eq_true h,Bool.true_and] at k
   exact k _ H3 ((s1.trans s2).trans s3) (.bl _)
 . rw [decide_eq_false h,if_neg (by decide)]
   rw [decide_eq_false h,Bool.false_and] at k
   exact k _ H2 (s1.trans s2) (.bl _)
def kK (acc:List Int) (k:Int):List Int:=if acc.any (· == k) then acc else acc++[k]
def n6 (ns:List Int):List Int:=ns.foldl kK []
def jX:List D->Option (List Int)
 | []=>some []
 | .int i :: ds=>(jX ds).map (i :: ·)
 | _ :: _=>none
def mr (f:FD):FD:=fun δ=>(f δ).bind fun d=>(asL d).bind fun ds=>(jX ds).bind fun ns=>if ns.length<=1000 then some (.int ((n6 ns).length:Int)) else none
theorem lC {K:PySem.W.Frag} {H:Hp}:∀ {vs:List V} {ds:List D} {ns:List Int},Reps K H vs ds->jX ds=some ns->vs=ns.map V.int
 | _,_,_,.nil,e=>by cases e;rfl
 | _,_,ns,.cons (d:=.int i) r t,e=>by
  obtain ⟨ms,em,e⟩:=Zb.mp (show (jX _).map (i :: ·)=some ns from e)
  subst e
  cases r
  rw [lC t em]
  rfl
 | _,_,_,.cons (d:=.non) _ _,e=>by cases e
 | _,_,_,.cons (d:=.bl _) _ _,e=>by cases e
 | _,_,_,.cons (d:=.str _) _ _,e=>by cases e
 | _,_,_,.cons (d:=.tup _) _ _,e=>by cases e
 | _,_,_,.cons (d:=.lst _) _ _,e=>by cases e
 | _,_,_,.cons (d:=.seq _) _ _,e=>by cases e
 | _,_,_,.cons (d:=.ty _) _ _,e=>by cases e
 | _,_,_,.cons (d:=.dct) _ _,e=>by cases e
 | _,_,_,.cons (d:=.exc _) _ _,e=>by cases e
 | _,_,_,.cons (d:=.cls _) _ _,e=>by cases e
 | _,_,_,.cons (d:=.ms _ _) _ _,e=>by cases e
 | _,_,_,.cons (d:=.mf _ _) _ _,e=>by cases e
 | _,_,_,.cons (d:=.md _ _) _ _,e=>by cases e
theorem hR:∀ {ns:List Int} {us:List Value},Vals (ns.map V.int) us->PyProof.Rows.IntsAre us ns
 | [],_,.nil=>.nil
 | n :: ns,_,.cons r t=>by
  obtain ⟨tk,rfl⟩:=r
  exact .cons n tk (hR t)
theorem rD (ns:List Int):(List.range ns.length).map (fun i=>ns.getD i 0)=ns:=by
 refine List.ext_getElem? fun i=>?_
 by_cases h:i < ns.length
 . rw [List.getElem?_map,List.getElem?_range h,Zq h]
   simp [Zp,h]
 . rw [List.getElem?_eq_none (by rw [Zi,List.length_range];omega),List.getElem?_eq_none (by omega)]
theorem lD (ns:List Int):PyProof.Rows.firstMet (fun i=>ns.getD i 0) ns.length=n6 ns:=by
 unfold PyProof.Rows.firstMet
 rw [rD]
 rfl
theorem xI (ns:List Int):(n6 ns).length<=ns.length:=by
 rw [<- lD]
 exact PyProof.Rows.firstMet_length_le _ _
section
variable {X:Cx}
theorem uz (hcm:X.calm=true):ij X (.type "set") (fun xs H Q=>∃ p ns,xs=[.ref p]/\SqL X.K H p (ns.map V.int)/\ns.length<=1000/\∀ l,H l=none->Q (.ref l) (upd H l (.set (fun k=>(n6 ns).any (· == k)) (n6 ns).length))):=by
 intro pins s σ H xs us Q I r h
 obtain ⟨p,ns,rfl,hq,hl,q⟩:=h
 obtain ⟨u,rfl,rx⟩:=jZ r
 cases rx
 obtain ⟨its,rv,pl,hz⟩:=I.list hq
 have hi:=hR rv
 have hsz:its.toArray.size=ns.length:=by rw [List.size_toArray,<- rv.length,Zi]
 refine PySem.call_set_list (ns:=ns) (I.ok.hd hcm) pl.isList (by simpa using hi) (by rw [hsz];show ns.length+1 < 4096;omega) fun h' tk hS hk=>?_
 rw [hsz,lD] at hS
 exact ⟨.ref s.heap.objs.size,_,I.laid (t':=tk) (fun b o e=>hk b o (Heap.lt_size e) e) (Nat.le_refl _) (show ObjOk X.prog X.w _ h' _ (.set (fun k=>(n6 ns).any (· == k)) (n6 ns).length) from hS),rfl,q _ (I.hok.fresh (Nat.le_refl _))⟩
theorem uA:ij X (.builtin "len") (fun xs H Q=>∃ p S n,xs=[.ref p]/\H p=some (.set S n)/\n<=1000/\Q (.int n) H):=by
 intro pins s σ H xs us Q I r h
 obtain ⟨p,S,n,rfl,hp,hn,q⟩:=h
 obtain ⟨u,rfl,rx⟩:=jZ r
 cases rx
 obtain ⟨o,es,ep,t,e,ex,hd,_,_,_,hf,hsz⟩:=I.hok p _ hp
 refine PySem.call_len_set e ex hd hf (by rw [hsz];omega) ?_
 exact ⟨.int n,H,I.tok _,⟨_,by rw [hsz]⟩,q⟩
theorem ud {l:Expr} {f:FD} {p1 p2 p3 p4:Pos} (hl:PD X l f) (hg:Gl X "len") (hm:X.mg "len" = none) (hg2:Gl X "set") (hm2:X.mg "set" = none) (hcm:X.calm=true:=by rfl)
 (he:starEach [.Call (.Name "set" p1) [l] [] p2] X.env=[(false,eval (.Call (.Name "set" p1) [l] [] p2) X.env)]:=by rfl) (hpl:(backTo p4 (starEach [] X.env)).any (·.1)=false:=by rfl) (he2:starEach [l] X.env=[(false,eval l X.env)]:=by rfl) (hpl2:(backTo p2 (starEach [] X.env)).any (·.1)=false:=by rfl) :
 PD X (.Call (.Name "len" p3) [.Call (.Name "set" p1) [l] [] p2] [] p4) (mr f) :=
 imp (qu uA hg hm PySem.boot_len (cA (jn (uz hcm) hg2 hm2 PyProof.Rows.boot_set (cA hl dW he2) (by decide) (by decide) he2 hpl2) dW he) (by decide) (by decide) he hpl) fun σ H Q ⟨δ,d,R,q,k⟩=>by
  unfold mr at q
  obtain ⟨x,ex,q⟩:=Za.mp q
  obtain ⟨ds,ed,q⟩:=Za.mp q
  obtain ⟨ns,en,q⟩:=Za.mp q
  split at q
  . rename_i hn
    cases q
    refine ⟨δ,x,R,ex,fun v H1 s1 r1=>?_⟩
    obtain ⟨a,vs,rfl,sq,rs⟩:=pV r1 ed
    have ev:=lC rs en
    subst ev
    refine ⟨a,ns,rfl,sq,hn,fun l hl=>?_⟩
    exact ⟨l,_,_,rfl,bx,Nat.le_trans (xI ns) hn,k _ _ (s1.trans (cN hl _)) (.int _)⟩
  . cases q
end
section
variable {K:PySem.W.Frag} {F H:Hp} {σ:L2.St} {δ:DS} {As:Nat->List Addr} {i:Nat} {x:D} {ds:List D}
end
section
variable {X:Cx} {pos:Pos} {c:Expr} {f:FD}
end
end Dl
namespace Dl
open PySem PySem.Spec PyProof.Rows L2
noncomputable def fnM (S:List D->D×D->Prop) (ds:List D):Option (D×D):=by
 classical exact if h:(∃ d,S ds d)/\∀ d e,S ds d->S ds e->d=e then some h.1.choose else none
theorem zE {S:List D->D×D->Prop} {ds:List D} {p:D×D} (u:∀ q,S ds q->q=p) (h:S ds p):fnM S ds=some p:=by
 unfold fnM
 rw [dif_pos ⟨⟨p,h⟩,fun d e a b=>(u d a).trans (u e b).symm⟩]
 exact congrArg some (u _ (Exists.choose_spec (⟨p,h⟩:∃ d,S ds d)))
theorem xE {S:List D->D×D->Prop} {ds:List D} {p:D×D} (h:fnM S ds=some p):S ds p:=by
 unfold fnM at h
 split at h
 . rename_i g
   cases h
   exact g.1.choose_spec
 . cases h
end Dl
namespace Dl
open PySem PySem.Spec PyProof.Rows L2
def lk (ks:List Int) (ds:List D) (k:Int):Option D:=((ks.zip ds).find? fun p=>decide (p.1=k)).map (·.2)
def kz (ks:List Int) (vs:List V):List (Key×V):=(ks.map Sum.inl).zip vs
section
variable {X:Cx} {a b:Expr} {fa fb:FD} {pos:Pos}
end
section
variable {K:PySem.W.Frag} {F H:Hp} {σ:L2.St} {δ:DS} {As:Nat->List Addr}
end
section
variable {X:Cx} {e ei:Expr} {fk:FD} {fm:FM} {pos p1 p2 p3 p4:Pos}
end
section
variable {K:PySem.W.Frag} {F H:Hp} {σ:L2.St} {δ:DS} {As:Nat->List Addr}
end
section
variable {X:Cx} {e ek ev:Expr} {g:FA} {fk fv:FD} {pos p:Pos}
end
end Dl
namespace Dl
open PySem PySem.Spec PyProof.Rows L2
end Dl
namespace Dl
open PySem PySem.Spec PyProof.Rows L2
section
variable {X:Cx} {pins:List (Addr×Obj)} {σ:L2.St} {H:Hp} {s:Shared} {a:Addr} {u u':HO}
end
end Dl
namespace Dl
open PySem PySem.Spec PyProof.Rows L2
end Dl
namespace Dl
open PySem PySem.Spec PyProof.Rows L2
section
variable {P:Program} {w:World} {K:PySem.W.Frag} {mg:Str->Option Value} {base:Heap}
theorem wN {x qual:Str} {st:Stmt} {f:Addr} {fd:FuncData} {N ps:List Str} {k:Nat} {G:List D->Option D} (F:Fun K x qual st f fd) (S:aG N ps (am st))
 (hbody:∀ (cdv:Value) (A:Around) (outer:List Env) (s:Shared) (H:Hp) (E:XK) (ds:List D) (d:D),Room k (A.deeper (envOfC qual (am st) s.heap.objs.size f cdv))->G ds=some d->ds.length=ps.length ->
  ∃ t,PMs (lV CX0 P w K mg base N qual (am st) f cdv A outer s H E).nox (bK st) t/\aL (t (aS N.length ds))=some d):FnOk P w K mg base CX0 (k+1) f fd ps (bL K ps.length G):=by
 refine F.ok S (fun vs H Q E h=>h.1) (fun cdv A outer s H vs Q E hr h=>?_)
 obtain ⟨hl,ds,d,r,e,q⟩:=h
 obtain ⟨t,ht,hq⟩:=hbody cdv A outer s H E ds d hr e (r.length.symm.trans hl)
 refine ⟨_,ht,H,aS N.length ds,?_⟩
 cases z:t (aS N.length ds) with
 | none=>rw [z] at hq;cases hq
 | some res =>
  rw [z] at hq
  refine ⟨res,jO r,rfl,?_⟩
  cases res with
  | rt d'=>cases hq;exact fun v F' H' A s1 s2 r1 nd=>q v H' (s1.trans s2) (r1.rep s2)
  | nx δ=>cases hq;exact fun σ' F' H' s1 ⟨As,R⟩=>q _ H' (s1.trans R.fz) .non
  | bk δ=>cases hq
  | ct δ=>cases hq
  | ex C δ=>cases hq
  | mk C δ=>cases hq
end
theorem RepA.allSh {K:PySem.W.Frag} {F H H1:Hp} {σ:L2.St} {δ:DS} {As:Nat->List Addr} (R:RepA K F H σ δ As) (s1:Same H H1):RepA K H1 H1 σ (δ.map (Option.map sh)) (fun _=>[]):=by
 refine ⟨Same.refl H1,by rw [Zi];exact R.len,fun i d0 q=>?_,fun _ _=>rfl,fun _=>List.nodup_nil,fun _ _ _ _ m=>nomatch m⟩
 rw [List.getElem?_map] at q
 obtain ⟨o,h1,h2⟩:=Zb.mp q
 obtain ⟨d1,h3,h4⟩:=Zb.mp h2
 subst h4
 subst h3
 obtain ⟨v0,h5,h6⟩:=R.val i _ h1
 exact ⟨v0,h5,RepO.of_sh (Same.refl H1) ((h6.rep R.fz).mono s1)⟩
def jG (f:FD):FMA:=fun δ=>(f δ).bind fun d=>match sh d with
 | .seq es=>some (es,δ.map (Option.map sh))
 | _=>none
theorem w6 {X:Cx} {tg l:Expr} {f:FD} (hl:PD X l f):PIM X tg l (jG f):=rQ (l9 hl) fun σ H R ⟨F,δ,As,ds,δ',R0,e,k⟩=>by
 unfold jG at e
 obtain ⟨d,ed,e⟩:=Za.mp e
 split at e
 . rename_i es hs
   cases e
   refine ⟨δ,d,R0.toS,ed,fun v H1 s1 r1=>?_⟩
   have z0:RepO X.K H1 H1 v (sh d) []:=RepO.of_sh (Same.refl H1) r1
   have z:Rep X.K H1 v (sh d):=z0.rep (Same.refl H1)
   rw [hs] at z
   cases z with
   | @seq p vs _ hp rp=>exact ⟨p,rfl,⟨vs,hp⟩,k _ _ H1 _ (R0.fz.trans s1) (R0.allSh s1) (qH hp rp)⟩
 . cases e
end Dl
namespace Dl
open PySem PySem.Spec PyProof.Rows L2
section
variable {P:Program} {w:World} {K:PySem.W.Frag} {mg:Str->Option Value} {base:Heap}
end
end Dl
namespace Dl
open PySem PySem.Spec PyProof.Rows L2
section
variable {P:Program} {w:World} {K:PySem.W.Frag} {mg:Str->Option Value} {base:Heap}
end
end Dl
namespace Dl
open PySem PySem.Spec PyProof.Rows L2
end Dl
namespace Dl
open PySem PySem.Spec PyProof.Rows L2
section
variable {X:Cx} {a b:Expr} {pos:Pos} {fa fb:FM}
end
end Dl
namespace Dl
open PySem PySem.Spec PyProof.Rows L2
end Dl
namespace Hd
open PySem PySem.Spec PyProof.Rows L2
theorem walkE {l:PySem.W.OpenLaw} {n k:Nat} {q:Program} {loose:List Str} {XP:(Str->Option Value)->Heap->Prop} {YP:World->Heap->Prop} {d:DefRec} {T:PySem.W.Frag->Prop} {sp:PySem.W.Frag->Sp} {x:Str}
 (hn:l.most=some n) (hn2:n<=sizeLine) (hdf:d.params.defaults=[]) (hr:Room k callerA)
 (hY:∀ (w:World) (h:Heap),YP w h->∃ K:PySem.W.Frag,K.In h/\T K)
 (F:∀ (w:World) (K:PySem.W.Frag) (mg:Str->Option Value) (fa:Addr) (h:Heap),T K->K.In h->h.Ns mainGlobals mg->mg d.name=some (.ref fa) ->
  ∃ fd:FuncData,(∀ (s:Shared) (u:Value),BindsTo s fd ⟨[u],[]⟩ [(x,u)]) /\
   ∀ base:Heap,K.In base->base.Ns mainGlobals mg->FnOk l.prog w K mg base CX0 k fa fd [x] (sp K))
 (hsp:∀ (K:PySem.W.Frag) (H:Hp) (a:Addr) (ns:List Int),ns.length<=n->zR H->SqL K H a (ns.map V.int)->sp K [.ref a] H (fun v _=>v=.bl true) fun _ _ _=>False) :
 PySem.W.WalkO q loose XP YP l.row.toRowW d [] (fun f vs=>PySem.call f vs):=by
 refine Att.attach_call hn hdf fun w s₀ s₁ mg mb fa o pm cd doc a vs ns G Y ho hd hcd hmg hobj hints hlen hg=>?_
 obtain ⟨K,KX,hT⟩:=hY w _ Y
 obtain ⟨fd,hb,hF⟩:=F w K mg fa _ hT KX G.T.g hmg
 exact vT KX G.T.g G.T.b G.T.builtins G.T.nolimit hg hobj hints (Nat.le_trans hlen hn2) hr hF hb (fun H hO hS=>hsp K H a ns hlen hO hS) fun H e s' z=>z
end Hd
namespace Hd
open PySem PySem.Spec PyProof.Rows PySem.W
end Hd
namespace Dl
open PySem PySem.Spec PyProof.Rows L2
structure EvW (F H:Hp) (As:Nat->List Addr) (F' H':Hp) (As':Nat->List Addr) (A:List Addr):Prop where
 fs:Same F F'
 ks:∀ a u,H a=some u->(∀ i,a ∉ As i)->H' a=some u
 nf:∀ a (u:MO),H a=some u.1->F a=none->(∀ i,a ∉ As i)->F' a=none
 fa:∀ i a,a∈As' i->(∃ j,a∈As j) \/ H a=none
 fA:∀ a,a∈A->(∃ j,a∈As j) \/ H a=none
 nd:A.Nodup
 dj:∀ i a,a∈As' i->a ∉ A
theorem EvW.bare {F H F' H':Hp} {As As':Nat->List Addr} {A:List Addr} (e:EvW F H As F' H' As' A):EvW F H As F' H' As' []:=⟨e.fs,e.ks,e.nf,e.fa,fun _ m=>(nomatch m),List.nodup_nil,fun _ _ _ z=>(nomatch z)⟩
def upW (K:PySem.W.Frag) (f:FM):TE:=fun σ H Q=>∃ F δ As d δ',RepA K F H σ δ As/\f δ=some (d,δ')/\∀ v F' H' A As',EvW F H As F' H' As' A->RepA K F' H' σ δ' As'->RepO K F' H' v d A->Q v H'
def PW (X:Cx) (e:Expr) (f:FM):Prop:=PE X e (upW X.K f)
section
variable {X:Cx} {e a b:Expr} {es:List Expr} {f:FD} {fm fa fb:FM} {g:FMA} {ga:FA} {pos p:Pos}
end
section
variable {X:Cx} {e:Expr} {es:List Expr} {f:FD} {g:FA} {pos:Pos} {i:Nat}
end
end Dl
namespace Dl
open PySem PySem.Spec PyProof.Rows L2
section
variable {X:Cx} {Z:L2.St->Prop} {st:Stmt} {rest:List Stmt} {s u:SD} {e ei:Expr} {fk fl:FD} {fm:FM} {c:FT} {pos p1 p2:Pos}
end
section
variable {P:Program} {w:World} {K:PySem.W.Frag} {mg:Str->Option Value} {base:Heap}
end
end Dl
namespace Dl
open PySem PySem.Spec PyProof.Rows L2
section
variable {X:Cx} {pins:List (Addr×Obj)} {σ:L2.St} {H₂:Hp} {s₂:Shared} {scope:Scope} {cl:List (Str×Addr)} {x:Str} {N:List Str} {C:Addr} {fp:List Addr} {ip:Nat}
end
end Dl
namespace Dl
open PySem PySem.Spec PyProof.Rows L2
section
variable {X:Cx} {scope:Scope} {cl:List (Str×Addr)} {x:Str} {N:List Str}
end
end Dl
namespace Dl
open PySem PySem.Spec PyProof.Rows L2
section
variable {prog:Program} {w:World} {A:Around} {E:Value->Shared->Prop} {s:Shared}
end
end Dl
namespace Dl
open PySem PySem.Spec PyProof.Rows L2
def ItZ (K:PySem.W.Frag) (J:It) (F:Hp) (ds:List D):Prop:=∀ i H2,Same F H2 ->
 (i < ds.length->J.go i H2/\∀ x H',J.yld i H2 x H'->Same H2 H'/\∃ d,ds[i]? = some d/\∀ F2,Same F F2->Same F2 H'->RepO K F2 H' x (sh d) [])/\(ds.length<=i->J.stop i H2)
def Bb (K:PySem.W.Frag) (src:FMA):TI:=fun σ H R=>∃ F δ As ds δ',RepA K F H σ δ As/\src δ=some (ds,δ')/\∀ J F' H1 As',Same F F'->RepA K F' H1 σ δ' As'->ItZ K J F' ds->R J H1
def PIZ (X:Cx) (tg iter:Expr) (src:FMA):Prop:=PI X tg iter (Bb X.K src)
theorem wX {X:Cx} {tg iter:Expr} {body:List Stmt} {src:FMA} {s:SD} {t:TG} {g:D->DS->Option DS} {pos:Pos} (hp:PassesOwn (model X.prog X.w) X.A X.env X.xe) (hc:X.calm=true) (hg:PG X tg t) (good:ym X.K t g) (hi:PIZ X tg iter src) (hb:PMs X body s)
 (hs:∀ x,foldedSetIterable iter X.env x=pure x:=by intro _;rfl):PMD X (.For tg iter body [] pos) (sL src g s):=fV (pe hp hc hi hg hb hs) fun E σ H ⟨F,δ,r,⟨As,R⟩,e,k⟩=>by
 unfold sL at e
 obtain ⟨⟨ds,δ1⟩,eds,e⟩:=Za.mp e
 refine ⟨F,δ,As,ds,δ1,R,eds,fun J F1 H1 As1 s1 R1 it=>?_⟩
 refine ⟨fun j m σ H=>m=ds.length - j/\j<=ds.length/\∃ F2 δ,Same F1 F2/\d9 X.K F2 H σ δ/\qN g s (ds.drop j) δ=some r/\RPM X E F2 r,⟨ds.length,rfl,Nat.zero_le _,F1,δ1,Same.refl _,⟨As1,R1⟩,e,k.mono s1⟩,?_⟩
 rintro j m σ H2 ⟨rfl,hjl,F2,δ2,s2,⟨As2,R2⟩,e2,k2⟩
 by_cases hlt:j < ds.length
 . obtain ⟨go,yl⟩:=(it j H2 (s2.trans R2.fz)).1 hlt
   rw [List.drop_eq_getElem_cons hlt] at e2
   obtain ⟨δ3,e3,e2⟩:=Za.mp (show ((g ds[j] δ2).bind _)=some r from e2)
   obtain ⟨r4,e4,e2⟩:=Za.mp e2
   refine .inr ⟨go,fun σ' H'=>∃ F3 δ,Same F1 F3/\d9 X.K F3 H' σ' δ/\qN g s (ds.drop (j+1)) δ=some r/\RPM X E F3 r,fun σ' H' z=>⟨ds.length - (j+1),by omega,rfl,hlt,z⟩,fun y H' yy=>?_⟩
   obtain ⟨eH,d,hd,rx⟩:=yl y H' yy
   have hd':d=ds[j]:=by
    rw [Zq hlt] at hd
    exact (Option.some.inj hd).symm
   subst hd'
   have R2':=R2.grow eH
   refine good R2' (rx F2 s2 R2'.fz) e3 fun σ3 R3=>?_
   refine ⟨F2,δ3,r4,R3,e4,?_⟩
   cases r4 with
   | nx δ'=>exact fun σ' F' H'' s4 R4=>⟨F',δ',s2.trans s4,R4,e2,k2.mono s4⟩
   | ct δ'=>exact fun σ' F' H'' s4 R4=>⟨F',δ',s2.trans s4,R4,e2,k2.mono s4⟩
   | bk δ'=>cases e2;exact k2
   | rt d=>cases e2;exact k2
   | ex C δ'=>cases e2;exact k2
   | mk C δ'=>cases e2;exact k2
 . have e:j=ds.length:=by omega
   subst e
   rw [List.drop_length] at e2
   cases e2
   exact .inl ⟨(it _ H2 (s2.trans R2.fz)).2 (Nat.le_refl _),k2 σ F2 H2 (Same.refl _) ⟨As2,R2⟩⟩
theorem xt {K:PySem.W.Frag} {F:Hp} {a b:Addr} {vs ws:List V} {ds es:List D} (hq:SqL K F a vs) (r:Reps K F vs ds) (hq':SqL K F b ws) (r':Reps K F ws es):ItZ K (Itz K a b) F (List.zipWith (fun d e=>D.tup [d,e]) ds es):=by
 intro i H2 s
 have h1:=s.seq hq
 have h2:=s.seq hq'
 have l1:=r.length
 have l2:=r'.length
 rw [List.length_zipWith]
 refine ⟨fun hi=>⟨⟨vs,ws,vs[i]'(by omega),ws[i]'(by omega),h1,h2,by simp [show i < vs.length by omega],by simp [show i < ws.length by omega]⟩,fun x H' y=>?_⟩,fun hi=>⟨vs,ws,h1,h2,by omega⟩⟩
 obtain ⟨p,u,v,rfl,hp,rfl,yu,yv⟩:=y
 obtain ⟨d,hd,rd⟩:=r.getV (yu vs h1)
 obtain ⟨e,he,re⟩:=r'.getV (yv ws h2)
 have sn:=cN hp (.tup [u,v])
 refine ⟨sn,.tup [d,e],by rw [List.getElem?_zipWith,hd,he],fun F2 s2 s3=>?_⟩
 show RepO K F2 _ (.ref p) (.tup [sh d,sh e]) []
 exact .tup (SqT.of bx) (.cons (RepO.of_sh s3 (rd.mono s2)) (.cons (RepO.of_sh s3 (re.mono s2)) .nil rfl) rfl)
def xR (fa fb:FM):FMA:=fun δ=>(fa δ).bind fun p=>(fb p.2).bind fun q=>match p.1,q.1 with
 | .seq xs,.seq ys=>some (List.zipWith (fun d e=>D.tup [d,e]) xs ys,q.2)
 | _,_=>none
theorem RepO.seqF {K:PySem.W.Frag} {F H:Hp} {v:V} {xs:List D} {A:List Addr} (r:RepO K F H v (.seq xs) A):∃ a vs,v=.ref a/\SqL K F a vs/\Reps K F vs xs:=by
 cases r with
 | imm i _=>cases i
 | shr h =>
  cases h with
  | @seq p vs es hp rp=>exact ⟨p,vs,rfl,hp,rp⟩
theorem wZ {X:Cx} {es:List Expr} {kt:Nat} {pt:Pos} {a b:Expr} {fa fb:FM} {p pos:Pos} (hg:Gl X "zip") (hm:X.mg "zip" = none) (ha:PVA X [a,b] (cm fa (cm fb fZ))) (hs:starEach [a,b] X.env=[(false,eval a X.env),(false,eval b X.env)]:=by rfl) (hs2:starEach [b] X.env=[(false,eval b X.env)]:=by rfl) :
 PIZ X (.Tuple es kt pt) (.Call (.Name "zip" p) [a,b] [] pos) (xR fa fb):=rQ (vv hg hm ha hs hs2) fun σ H R ⟨F,δ,As,ds,δ',R0,e,k⟩=>by
 unfold xR at e
 obtain ⟨⟨x,δ1⟩,e1,e⟩:=Za.mp e
 obtain ⟨⟨y,δ2⟩,e2,e⟩:=Za.mp e
 dsimp only at e e2
 cases x with
 | seq xs =>
  cases y with
  | seq ys =>
   cases e
   refine ⟨F,δ,As,[.seq xs,.seq ys],_,R0,(by unfold cm fZ;rw [e1];dsimp only [Option.bind_some];rw [e2];rfl),fun vs F1 H1 A As1 ev R1 r1 l=>?_⟩
   cases r1 with
   | cons r rr _ =>
    cases rr with
    | cons r' rr _ =>
     cases rr
     obtain ⟨p,vs,rfl,hq,rp⟩:=r.seqF
     obtain ⟨p',vs',rfl,hq',rp'⟩:=r'.seqF
     exact ⟨p,p',rfl,⟨_,R1.fz.seq hq⟩,⟨_,R1.fz.seq hq'⟩,k _ F1 H1 As1 ev.fs R1 (xt hq rp hq' rp')⟩
  | _=>cases e
 | _=>cases e
end Dl
namespace Dl
open PySem PySem.Spec PyProof.Rows L2
end Dl
namespace Dl
open PySem PySem.Spec PyProof.Rows L2
end Dl
namespace Dl
open PySem PySem.Spec PyProof.Rows L2
section
variable {X:Cx} {a b:Expr} {fa fb:FD} {pos:Pos}
open Classical in
open Classical in
end
end Dl
namespace Dl
open PySem PySem.Spec PyProof.Rows L2
def kF (i:Nat):FM:=fun δ=>match δ[i]? with
 | some (some (.lst ds))=>some (.lst (shs ds),δ.set i (some (.lst (shs ds))))
 | _=>none
theorem va {X:Cx} {x:Str} {p px pos:Pos} (i:Nat) (hg:Gl X "list") (hm:X.mg "list" = none) (hv:bootBuiltins "list" = some (.type "list")) (hN:X.N[i]? = some x:=by rfl) (hvi:Vis X.env.scope x:=by first | exact Or.inl rfl | exact Or.inr (Or.inl rfl) | exact Or.inr (Or.inr rfl)) (hd:(x == ("__debug__":Str))=false:=by decide)
 (hcd:(x == ("__classdict__":Str))=false:=by decide) (he:starEach [.Name x px] X.env=(false,eval (.Name x px) X.env) :: starEach [] X.env:=by rfl) (hpl:(backTo pos (starEach [] X.env)).any (·.1)=false:=by rfl) :
 PV X (.Call (.Name "list" p) [.Name x px] [] pos) (kF i):=imp (jn kD hg hm hv (cA (pi hN hvi hd hcd) dW he) (by decide) (by decide) he hpl) fun σ H Q ⟨F,δ,As,d,δ',R,q,k⟩=>by
 unfold kF at q
 split at q
 . rename_i ds h
   cases q
   obtain ⟨v,h1,h2⟩:=R.val i _ h
   have hi:i < δ.length:=(List.getElem?_eq_some_iff.mp h).1
   have nd:=R.nd i
   obtain ⟨Ai,hAi⟩:∃ Ai,Ai=As i:=⟨_,rfl⟩
   rw [<- hAi] at h2 nd
   have dj:∀ j,j ≠ i->∀ a,a∈As j->a ∉ Ai:=fun j hj a m=>by rw [hAi];exact R.dj j i a hj m
   cases h2 with
   | imm z _=>cases z
   | @lst a vs _ A ha na rp =>
    refine ⟨_,h1,a,vs,rfl,.inl (SqL.of ha),fun l hl=>?_⟩
    have s1:=nk (A:=A) R.fz
    have s2:Same (frz F H A) H:=rS
    have nA:a ∉ A:=(List.nodup_cons.mp nd).1
    have z:Reps X.K (frz F H A) vs (shs ds):=rp.freeze s1 qM fun b u m e=>pH e m
    have na':frz F H A a=none:=jq (u:=⟨.lst vs,rfl⟩) ha na nA
    have z2:RepO X.K (frz F H A) H (.ref a) (.lst (shs ds)) [a]:=.lst ha na' (by have:=RepOs.of_sh s2 z;rw [gd] at this;exact this)
    have R1:=(R.drop i).froz s1 s2 (fun j b m=>by
     by_cases hj:j=i
     . subst hj;rw [aK] at m;cases m
     . rw [aI hj] at m
       obtain ⟨⟨us,e⟩,n⟩:=R.dom m
       exact jq e n fun y=>dj j hj b m (Zl _ y))
    have R2:=R1.set i (by rw [List.length_set];exact hi) z2 (List.nodup_cons.mpr ⟨fun y=>(by cases y),List.nodup_nil⟩) fun j b hj m y=>by
     rw [aI hj] at m
     rw [List.mem_singleton.mp y] at m
     exact dj j hj a m Zk
    have hσ:σ.set i (some (.ref a))=σ:=by
     refine List.ext_getElem? fun j=>?_
     rw [List.getElem?_set]
     split
     . rename_i hj;subst hj
       rw [h1,if_pos (by rw [R.len];exact hi)]
     . rfl
    rw [hσ,List.set_set] at R2
    have s:=cN hl (.lst vs)
    have nl:frz F H A l=none:=by
     cases y:frz F H A l with
     | none=>rfl
     | some o=>rw [s2 l o y] at hl;cases hl
    have z3:RepO X.K (frz F H A) (upd H l (.lst vs)) (.ref l) (.lst (shs ds)) [l]:=.lst bx nl (by have:=RepOs.of_sh (s2.trans s) z;rw [gd] at this;exact this)
    refine k (.ref l) _ _ [l] _ ⟨s1,s,fun b u e n hn=>jq e n fun y=>hn i (by rw [<- hAi];exact Zl _ y),fun j b m=>?_,fun b m=>.inr (by rw [List.mem_singleton.mp m];exact hl),List.nodup_cons.mpr ⟨fun y=>(by cases y),List.nodup_nil⟩,fun j b m y=>?_⟩ (R2.grow s) z3
    . by_cases hj:j=i
      . subst hj
        rw [aK] at m
        rw [List.mem_singleton.mp m]
        exact .inl ⟨j,by rw [<- hAi];exact Zk⟩
      . rw [aI hj,aI hj] at m;exact .inl ⟨j,m⟩
    . rw [List.mem_singleton.mp y] at m
      obtain ⟨⟨us,e⟩,_⟩:=R2.dom m
      rw [hl] at e;cases e
 . cases q
end Dl
namespace Dl
open PySem PySem.Spec PyProof.Rows L2
section
variable {X:Cx} {pins:List (Addr×Obj)} {σ:L2.St} {H:Hp} {s:Shared}
theorem xv {q:Str} (i:Nat) (o:Option V) (I:L2.Inv X pins σ H s) (hn:X.N[i]? = some q) (nv:¬ Vis X.env.scope q):L2.Inv X pins (σ.set i o) H s :=
 ⟨I.ok,I.os,I.bare,I.base,by
  obtain ⟨m,h1,h2⟩:=I.loc
  refine ⟨m,h1,fun j x v a b c=>?_⟩
  by_cases hj:i=j
  . subst hj
    rw [hn] at a
    cases a
    exact absurd c nv
  . rw [List.getElem?_set_ne hj] at b
    exact h2 j x v a b c,I.cell,I.free,I.freeC,I.pin,I.hok,by rw [List.length_set];exact I.len⟩
theorem yO {q:Str} {tg:Expr} {t:TG} (i:Nat) (h:PG X tg t) (hn:X.N[i]? = some q) (nv:¬ Vis X.env.scope q):PG X tg (fun v σ H Q=>∃ o,t v (σ.set i o) H Q):=fun pins s σ H v u Q I r ⟨o,w⟩=>h pins s (σ.set i o) H v u Q (xv i o I hn nv) r w
end
theorem RepA.slot1 {K:PySem.W.Frag} {F H:Hp} {σ:L2.St} {δ:DS} {As:Nat->List Addr} (R:RepA K F H σ (δ.set 1 none) As):RepA K F H (σ.set 1 none) (δ.set 1 none) As :=
 ⟨R.fz,by rw [List.length_set];exact R.len,fun i d q=>by
  by_cases hi:1=i
  . subst hi
    rw [List.getElem?_set] at q
    rw [if_pos rfl] at q
    split at q <;> cases q
  . obtain ⟨v,h1,h2⟩:=R.val i d q
    exact ⟨v,by rw [List.getElem?_set_ne hi];exact h1,h2⟩,R.non,R.nd,R.dj⟩
def qk (is:List Nat) (f1 f2:FM) (s:SD):SD:=fun δ=>(f1 δ).bind fun p1=>(f2 p1.2).bind fun p2=>match p1.1 with
 | .tup ds=>if ds.length=is.length/\kw is p2.2.length=true/\1 < p2.2.length then (s (gZ is ds (p2.2.set 1 (some p2.1)))).bind fun (r:Res)=>match r with
  | .nx δ2=>match (δ2[1]?:Option (Option D)) with
   | some (some (.tup es))=>if es.length=is.length/\kw is δ2.length=true then (s (gZ is es (δ2.set 1 none))).bind fun r2=>match r2 with
    | .nx δ3=>some (.nx δ3)
    | .rt d=>some (.rt d)
    | _=>none
    else none
   | _=>none
  | .rt d=>some (.rt d)
  | _=>none
  else none
 | _=>none
theorem qC {Z:L2.St->Prop} {H:Hp} {Q Q':L2.St->Hp->Prop} (zk:ZOk Z):∀ (is:List Nat) {vs:List V} {σ:L2.St},(∀ i∈is,2<=i)->Z σ->(∀ σ' H',Q' σ' H'->Z σ'->Q σ' H')->gY is vs σ H Q'->gY is vs σ H Q
 | [],_,_,_,z,k,h=>⟨h.1,k _ _ h.2 z⟩
 | i :: is,_,σ,hi,z,k,⟨v,ws,e,h⟩=>⟨v,ws,e,qC zk is (fun j m=>hi j (Zl _ m)) (zk i (hi i Zk) σ v z) k h⟩
theorem wT {X:Cx} {body:List Stmt} {s:SD} (h:∀ Z,ZOk Z->PZs X Z body s):PSs X body (fun E σ H=>∃ Z,ZOk Z/\upZ X Z s E σ H):=fun pins st σ H E I ⟨Z,zk,u⟩=>h Z zk pins st σ H E I u
theorem wY {X:Cx} {q:Str} {es:List Expr} {kt:Nat} {pt:Pos} {e1 e2:Expr} {f1 f2:FM} {body:List Stmt} {s:SD} {pl pos:Pos} (is:List Nat) (hp:PassesOwn (model X.prog X.w) X.A X.env X.xe) (hc:X.calm=true) (he:PVA X [e1,e2] (cm f1 (cm f2 fZ))) (hg:PG X (.Tuple es kt pt) (vW X.K is.length (gY is)))
 (hb:∀ Z,ZOk Z->PZs X Z body s) (nv:¬ Vis X.env.scope q) (h2:∀ i∈is,2<=i:=by decide) (hn:X.N[1]? = some q:=by rfl) (hs:∀ x,foldedSetIterable (.List [e1,e2] pl) X.env x=pure x:=by intro _;rfl):PMD X (.For (.Tuple es kt pt) (.List [e1,e2] pl) body [] pos) (qk is f1 f2 s) :=
 fV (pe hp hc (l9 (fq he (show 2<=1000 by decide))) (yO 1 hg hn nv) (wT hb) hs) fun E σ H ⟨F,δ,r,⟨As,R⟩,q,k⟩=>by
 unfold qk at q
 obtain ⟨⟨d1,δ1⟩,ed1,q⟩:=Za.mp q
 obtain ⟨⟨d2,δ2⟩,ed2,q⟩:=Za.mp q
 dsimp only at q ed2
 cases d1 with
 | tup ds =>
  dsimp only at q
  split at q
  . rename_i hl
    obtain ⟨hl1,hl2,hl3⟩:=hl
    obtain ⟨r1,er1,q⟩:=Za.mp q
    refine ⟨F,δ,As,.lst [.tup ds,d2],δ2,R,(by unfold jH cm fZ;rw [ed1];dsimp only [Option.bind_some];rw [ed2];rfl),fun v F1 H1 A As1 ev R1 r'=>?_⟩
    obtain ⟨l,vs,A0,rfl,eA,gl,nl,ro⟩:=r'.lst_inv rfl
    have nd0:=ev.nd
    rw [eA] at nd0
    have nd1:=List.nodup_cons.mp nd0
    cases ro with
    | @cons v1 _ _ _ A1 B _ ra rt eB =>
     cases rt with
     | @cons v2 _ _ _ A2 C _ rb rn eC =>
      cases rn
      subst eC
      subst eB
      have nd2:=List.nodup_append.mp nd1.2
      have nd3:=List.nodup_append.mp nd2.2.1
      have s1:=nk (A:=[l]) R1.fz
      have s2:Same (frz F1 H1 [l]) H1:=rS
      have inA:∀ x,x∈A1++(A2++[])->x∈A:=fun x m=>by rw [eA];exact Zl _ m
      have nfz:∀ x,x∈A1++(A2++[])->frz F1 H1 [l] x=none:=fun x m=>by
       obtain ⟨⟨ws,e⟩,n⟩:=(RepOs.cons ra (.cons rb .nil rfl) rfl:RepOs X.K F1 H1 [v1,v2] [.tup ds,d2] (A1++(A2++[]))).dom x m
       exact jq e n fun z=>nd1.1 (by rw [List.mem_singleton.mp z] at m;exact m)
      have R2:=R1.froz s1 s2 (fun j a m=>by
       obtain ⟨⟨ws,e⟩,n⟩:=R1.dom m
       exact jq e n fun z=>ev.dj j a m (by rw [eA,List.mem_singleton.mp z];exact Zk))
      have ra2:=ra.froz s1 fun x m=>nfz x (List.mem_append_left _ m)
      have rb2:=rb.froz s1 fun x m=>nfz x (List.mem_append_right _ (List.mem_append_left _ m))
      have fl:frz F1 H1 [l] l=some (.lst [v1,v2]):=pH gl Zk
      have it:∀ H2,Same (frz F1 H1 [l]) H2->SqL X.K H2 l [v1,v2]:=fun H2 s=>SqL.of (s l _ fl)
      refine ⟨l,rfl,⟨_,SqL.of gl⟩,?_⟩
      refine ⟨fun j m σ' H'=>(j=0/\m=2/\σ'=σ/\H'=H1) \/ (j=1/\m=1/\∃ F' δ3,Same (frz F1 H1 [l]) F'/\d9 X.K F' H' σ' δ3/\σ'[1]? = some (some v2)/\r1=.nx δ3) \/ (j=2/\m=0/\E.nx σ' H'/\SqL X.K H' l [v1,v2]),⟨2,.inl ⟨rfl,rfl,rfl,rfl⟩⟩,?_⟩
      rintro j m σ' H' (⟨rfl,rfl,rfl,rfl⟩ | ⟨rfl,rfl,F',δ3,s3,⟨As3,R3⟩,z3,rfl⟩ | ⟨rfl,rfl,fin,sq⟩)
      . -- the first turn
        refine .inr ⟨⟨_,v1,it _ s2,rfl⟩,fun σ4 H4=>∃ F' δ3,Same (frz F1 H' [l]) F'/\d9 X.K F' H4 σ4 δ3/\σ4[1]? = some (some v2)/\r1=.nx δ3,fun σ4 H4 z=>⟨1,by omega,.inr (.inl ⟨rfl,rfl,z⟩)⟩,fun y H5 yy=>?_⟩
        obtain ⟨rfl,yy⟩:=yy
        have ey:v1=y:=by have:=yy _ (it _ s2);simpa using this
        subst ey
        refine ⟨some v2,?_⟩
        obtain ⟨a,ws,rfl,sq,rp⟩:=ra2.parts
        have R5:=R2.set 1 hl3 rb2 (List.append_nil A2 ▸ nd2.2.1) fun j x _ m z=>ev.dj j x m (inA x (List.mem_append_right _ (List.mem_append_left _ z)))
        have zl:1 < σ'.length:=by rw [R2.len];exact hl3
        refine ⟨a,ws,rfl,sq,rp.len.trans hl1,qC (Z:=fun σ=>σ[1]? = some (some v2)) (fun i hi σ v z=>by show (σ.set i (some v))[1]? = some (some v2);rw [List.getElem?_set_ne (by omega)];exact z) is h2 (by show (σ'.set 1 (some v2))[1]? = _;rw [List.getElem?_set_self zl]) (fun σ6 H6 h z=>h.2 z)
         (i0 (Q:=fun σ6 H6=>H6=H5/\(σ6[1]? = some (some v2)->∃ Z,ZOk Z/\upZ X Z s { nx:=fun σ4 H4=>∃ F' δ3,Same (frz F1 H5 [l]) F'/\d9 X.K F' H4 σ4 δ3/\σ4[1]? = some (some v2)/\r1=.nx δ3,rt:=E.rt,bk:=E.nx,ct:=fun σ4 H4=>∃ F' δ3,Same (frz F1 H5 [l]) F'/\d9 X.K F' H4 σ4 δ3/\σ4[1]? = some (some v2)/\r1=.nx δ3 } σ6 H6)) is rp nd2.1 (fun j x m z=>?_) R5 hl1 (by rw [List.length_set];exact hl2) fun σ6 R6=>⟨rfl,fun z6=>?_⟩)⟩
        . unfold iN at m
          by_cases hj:j=1
          . rw [if_pos hj] at m
            exact nd2.2.2 x z x (List.mem_append_left _ m) rfl
          . rw [if_neg hj] at m
            exact ev.dj j x m (inA x (List.mem_append_left _ z))
        . refine ⟨fun σ=>σ[1]? = some (some v2),fun i hi σ v z=>by show (σ.set i (some v))[1]? = some (some v2);rw [List.getElem?_set_ne (by omega)];exact z,frz F1 H5 [l],_,r1,R6,z6,er1,?_⟩
          cases r1 with
          | nx δ3=>exact fun σ4 F4 H4 s4 R4 z4=>⟨F4,δ3,s4,R4,z4,rfl⟩
          | rt d=>cases q;exact fun v F4 H4 A4 s4=>k v F4 H4 A4 ((ev.fs.trans s1).trans s4)
          | bk δ3=>cases q
          | ct δ3=>cases q
          | ex C δ3=>cases q
          | mk C δ3=>cases q
      . -- the second one
        dsimp only at q
        cases h1:δ3[1]? with
        | none=>rw [h1] at q;cases q
        | some o =>
         cases o with
         | none=>rw [h1] at q;cases q
         | some dd =>
          cases dd with
          | tup es2 =>
           rw [h1] at q
           dsimp only at q
           split at q
           . rename_i hm
             obtain ⟨r2,er2,q⟩:=Za.mp q
             obtain ⟨w2,e2,rw2⟩:=R3.val 1 _ h1
             rw [z3] at e2
             cases e2
             have sq3:=it _ (s3.trans R3.fz)
             refine .inr ⟨⟨_,v2,sq3,rfl⟩,fun σ4 H4=>E.nx σ4 H4/\SqL X.K H4 l [v1,v2],fun σ4 H4 z=>⟨0,by omega,.inr (.inr ⟨rfl,rfl,z⟩)⟩,fun y H5 yy=>?_⟩
             obtain ⟨rfl,yy⟩:=yy
             have ey:v2=y:=by have:=yy _ sq3;simpa using this
             subst ey
             refine ⟨none,?_⟩
             obtain ⟨a,ws,rfl,sq,rp⟩:=rw2.parts
             have R5:RepA X.K F' H5 (σ'.set 1 none) (δ3.set 1 none) (iN As3 1 []):=(R3.drop 1).slot1
             refine ⟨a,ws,rfl,sq,rp.len.trans hm.1,i0 (Q:=fun σ6 H6=>∃ Z,ZOk Z/\upZ X Z s { nx:=fun σ4 H4=>E.nx σ4 H4/\SqL X.K H4 l [v1,.ref a],rt:=E.rt,bk:=E.nx,ct:=fun σ4 H4=>E.nx σ4 H4/\SqL X.K H4 l [v1,.ref a] } σ6 H6) is rp (R3.nd 1) (fun j x m z=>?_) R5 hm.1 (by rw [List.length_set];exact hm.2) fun σ6 R6=>⟨fun _=>True,fun _ _ _ _ _=>trivial,F',_,r2,R6,trivial,er2,?_⟩⟩
             . unfold iN at m
               by_cases hj:j=1
               . rw [if_pos hj] at m;cases m
               . rw [if_neg hj] at m
                 exact R3.dj j 1 x hj m z
             . cases r2 with
               | nx δ4 =>
                cases q
                exact fun σ4 F4 H4 s4 R4 _=>⟨k σ4 F4 H4 (((ev.fs.trans s1).trans s3).trans s4) R4,let ⟨_,R7⟩:=R4;it _ ((s3.trans s4).trans R7.fz)⟩
               | rt d=>cases q;exact fun v F4 H4 A4 s4=>k v F4 H4 A4 (((ev.fs.trans s1).trans s3).trans s4)
               | bk δ4=>cases q
               | ct δ4=>cases q
               | ex C δ4=>cases q
               | mk C δ4=>cases q
           . cases q
          | _=>rw [h1] at q;cases q
      . exact .inl ⟨⟨_,sq,Nat.le_refl _⟩,fin⟩
  . cases q
 | _=>cases q
end Dl
namespace Dl
open PySem PySem.Spec PyProof.Rows L2
mutual
theorem RepO.shr_nil {K:PySem.W.Frag} {F H:Hp}:∀ {v:V} {d:D} {A:List Addr},RepO K F H v d A->sh d=d->A=[]
 | _,_,_,.imm _ _,_=>rfl
 | _,_,_,.shr _,_=>rfl
 | _,_,_,.shm _,_=>rfl
 | _,_,_,.shf _,_=>rfl
 | _,_,_,.tup _ r,e=>RepOs.shr_nil r (by rw [sh] at e;injection e)
 | _,_,_,.lst _ _ _,e=>by rw [sh] at e;cases e
 | _,_,_,.md _ _ _ _ _,e=>by rw [sh] at e;cases e
theorem RepOs.shr_nil {K:PySem.W.Frag} {F H:Hp}:∀ {vs:List V} {ds:List D} {A:List Addr},RepOs K F H vs ds A->shs ds=ds->A=[]
 | _,_,_,.nil,_=>rfl
 | _,_,_,.cons r t e,h=>by
  rw [shs] at h
  injection h with h1 h2
  rw [e,RepO.shr_nil r h1,RepOs.shr_nil t h2]
  rfl
end
theorem RepOs.rev0 {K:PySem.W.Frag} {F H:Hp}:∀ {vs:List V} {ds:List D},RepOs K F H vs ds []->shs ds=ds->RepOs K F H vs.reverse ds.reverse []
 | _,_,.nil,_=>.nil
 | _,_,.cons (v:=v) (d:=d) (vs:=vs) (ds:=ds) r t e,h=>by
  rw [shs] at h
  injection h with h1 h2
  have a:=r.shr_nil h1
  have b:=t.shr_nil h2
  subst a b
  rw [List.reverse_cons,List.reverse_cons]
  exact (RepOs.rev0 t h2).snoc r
def shd:D->Bool
 | .seq es=>d7 es
 | d=>imm d
theorem yw {d:D} (h:shd d=true):sh d=d:=by
 cases d with
 | seq es=>rw [sh,jf h]
 | tup es=>exact kO h
 | lst es=>exact kO h
 | non=>rfl
 | bl b=>rfl
 | int i=>rfl
 | str x=>rfl
 | ty x=>rfl
 | dct=>rfl
 | exc x=>rfl
 | cls x=>rfl
 | ms a b=>exact kO h
 | mf a b=>exact kO h
 | md a b=>exact kO h
theorem sG:∀ {ds:List D},ds.all shd=true->shs ds=ds
 | [],_=>rfl
 | d :: ds,h=>by
  rw [List.all_cons,Bool.and_eq_true] at h
  rw [shs,yw h.1,sG h.2]
def on (i:Nat):SD:=fun δ=>match δ[i]? with
 | some (some (.lst ds))=>if ds.all shd=true then some (.nx (δ.set i (some (.lst ds.reverse)))) else none
 | _=>none
section
variable {X:Cx} {Z:L2.St->Prop} {e:Expr} {fm:FM} {pos:Pos}
theorem pb (he:PV X e fm):PZD X Z (.Return (some e) pos) (cw fm):=fV (rG he) fun E σ H ⟨F,δ,r,⟨As,R⟩,hz,q,k⟩=>by
 unfold cw at q
 obtain ⟨⟨d,δ'⟩,ed,q⟩:=Za.mp q
 cases q
 exact ⟨F,δ,As,d,δ',R,ed,fun v F' H' A As' ev R' r'=>k v F' H' A ev.fs R'.fz r' ev.nd⟩
theorem wP (i:Nat) {c:Expr} (hc:PE X c (Ab X.K "list" qr (mD i))) (hs:swapsWith c none pos.line X.env=pure false:=by rfl):PZD X Z (.Expr c pos) (on i):=fV (ke hc hs) fun E σ H ⟨F,δ,r,⟨As,R⟩,hz,q,k⟩=>by
 unfold on at q
 split at q
 . rename_i ds h
   split at q
   . rename_i hi
     cases q
     obtain ⟨a,vs,A0,s0,eA,g0,n0,ro⟩:=R.lst h
     have e:=sG hi
     have z:=ro.shr_nil e
     subst z
     exact ⟨.ref a,s0,.inl ⟨rfl,_,SqL.of g0⟩,a,vs,rfl,rfl,g0,k σ F _ (Same.refl F) (R.wr h s0 eA g0 n0 (ro.rev0 e) (fun z=>nomatch z) List.nodup_nil fun _ _ _ _ z=>nomatch z) hz⟩
   . cases q
 . cases q
theorem yF (i:Nat) {c:Expr} (hc:PE X c (tBM X.K "list" l6 (mD i) (n9 (upV X.K fm) wA))) (hs:swapsWith c none pos.line X.env=pure false:=by rfl):PZD X Z (.Expr c pos) (iw i fm):=fV (ke hc hs) fun E σ H ⟨F,δ,r,⟨As,R⟩,hz,q,k⟩=>by
 unfold iw at q
 split at q
 . rename_i ds0 h0
   obtain ⟨⟨d,δ'⟩,ed,q⟩:=Za.mp q
   dsimp only at q
   split at q
   . rename_i ds h1
     split at q
     . rename_i hl
       cases q
       obtain ⟨a,vs0,A00,s0,_,g0,_,_⟩:=R.lst h0
       refine ⟨.ref a,s0,.inl ⟨rfl,_,SqL.of g0⟩,F,δ,As,d,δ',R,ed,fun v F' H' A As' ev R' r'=>?_⟩
       obtain ⟨a1,vs,A0,s1,eA,g1,n1,ro⟩:=R'.lst h1
       have ea:a1=a:=by rw [s0] at s1;cases s1;rfl
       subst ea
       refine ⟨a1,vs,v,rfl,rfl,g1,Nat.lt_of_le_of_lt (by rw [ro.length];exact hl) (je (show 999<=1000 by decide)),?_⟩
       have nd0:=R'.nd i
       rw [eA] at nd0
       have nd1:=List.nodup_cons.mp nd0
       have ai:a1∈As' i:=by rw [eA];exact Zk
       refine k σ F' _ ev.fs (R'.wr h1 s1 eA g1 n1 (ro.snoc r') (fun z=>?_) (List.nodup_append.mpr ⟨nd1.2,ev.nd,fun x hx y hy e=>?_⟩) fun j x hj m z=>?_) hz
       . rcases Zn.mp z with z | z
         . exact nd1.1 z
         . exact ev.dj i a1 ai z
       . subst e
         exact ev.dj i x (by rw [eA];exact Zl _ hx) hy
       . rcases Zn.mp z with z | z
         . exact R'.dj j i x hj m (by rw [eA];exact Zl _ z)
         . exact ev.dj j x m z
     . cases q
   . cases q
 . cases q
end
end Dl
namespace Dl
open PySem PySem.Spec PyProof.Rows L2
def lF (ks:List Nat) (δ:DS):DS:=ks.foldl (fun δ k=>δ.set k none) δ
theorem oE:∀ (ks:List Nat) (δ:DS),(lF ks δ).length=δ.length
 | [],_=>rfl
 | k :: ks,δ=>by
  show (lF ks (δ.set k none)).length=_
  rw [oE ks,List.length_set]
theorem oF:∀ (ks:List Nat) (δ:DS) (j:Nat) (d:D),(lF ks δ)[j]? = some (some d)->j ∉ ks/\δ[j]? = some (some d)
 | [],_,_,_,h=>⟨List.not_mem_nil,h⟩
 | k :: ks,δ,j,d,h=>by
  obtain ⟨h1,h2⟩:=oF ks (δ.set k none) j d h
  rw [List.getElem?_set] at h2
  by_cases e:k=j
  . rw [if_pos e] at h2
    split at h2 <;> cases h2
  . rw [if_neg e] at h2
    exact ⟨fun m=>(Zo.mp m).elim (fun z=>e z.symm) h1,h2⟩
def rz (ks:List Nat) (s:SD):SD:=fun δ=>(s (δ.map (Option.map sh))).bind fun (r:Res)=>match r with
 | .nx _=>some (.nx (lF ks δ))
 | .rt d=>some (.rt d)
 | _=>none
theorem yG {X:Cx} {st:Stmt} {s:SD} {C:(L2.St->Prop)->Prop} (h:∀ Z,C Z->PZD X Z st s):PS X st (fun E σ H=>∃ Z,C Z/\upZ X Z s E σ H):=fun pins st σ H E I ⟨Z,zk,u⟩=>h Z zk pins st σ H E I u
theorem RepA.back {K:PySem.W.Frag} {F H H':Hp} {σ σ':L2.St} {δ:DS} {As:Nat->List Addr} (ks:List Nat) (R:RepA K F H σ δ As) (s:Same H H') (l:σ'.length=σ.length) (e:∀ j,j ∉ ks->σ'[j]? = σ[j]?):d9 K F H' σ' (lF ks δ):=by
 have G:=R.grow s
 classical
 refine ⟨fun j=>if ∃ d,(lF ks δ)[j]? = some (some d) then As j else [],G.fz,by rw [l,oE];exact R.len,fun j d q=>?_,fun j q=>if_neg fun ⟨d,z⟩=>q d z,fun j=>?_,fun i j a n m m'=>?_⟩
 . obtain ⟨h1,h2⟩:=oF ks δ j d q
   obtain ⟨v,h3,h4⟩:=G.val j d h2
   rw [if_pos ⟨d,q⟩]
   exact ⟨v,(e j h1).trans h3,h4⟩
 . split
   . exact R.nd j
   . exact List.nodup_nil
 . split at m
   . split at m'
     . exact R.dj i j a n m m'
     . cases m'
   . cases m
theorem yE {X:Cx} {Z:L2.St->Prop} {st:Stmt} {s:SD} (ks:List Nat) (zk:ZOk Z) (h:∀ Z',(∀ j∈ks,∀ σ v,Z' σ->Z' (σ.set j (some v)))->PZD X Z' st s) (h2:∀ j∈ks,2<=j:=by decide):PZD X Z st (rz ks s):=fV (yG (C:=fun Z'=>∀ j∈ks,∀ σ v,Z' σ->Z' (σ.set j (some v))) h) fun E σ H ⟨F,δ,r,⟨As,R⟩,hz,q,k⟩=>by
 unfold rz at q
 obtain ⟨r0,e0,q⟩:=Za.mp q
 refine ⟨fun σ'=>Z σ'/\σ'.length=σ.length/\∀ j,j ∉ ks->σ'[j]? = σ[j]?,fun j m σ' v z=>⟨zk j (h2 j m) σ' v z.1,by rw [List.length_set];exact z.2.1,fun i n=>by
  have ji:j ≠ i:=fun e=>n (by rw [<- e];exact m)
  rw [List.getElem?_set_ne ji]
  exact z.2.2 i n⟩,H,_,r0,⟨_,R.allSh (Same.refl H)⟩,⟨hz,rfl,fun _ _=>rfl⟩,e0,?_⟩
 cases r0 with
 | nx δ'=>cases q;exact fun σ' F' H' s1 ⟨As',R'⟩ z=>k σ' F H' (Same.refl F) (R.back ks (s1.trans R'.fz) z.2.1 z.2.2) z.1
 | rt d=>cases q;exact fun v F' H' A s1 s2 r' nd=>k v F' H' A (R.fz.trans s1) s2 r' nd
 | bk δ'=>cases q
 | ct δ'=>cases q
 | ex C δ'=>cases q
 | mk C δ'=>cases q
end Dl
namespace Mine
open PySem PySem.Spec PyProof.Rows L2 Dl
noncomputable section
open Mth
abbrev fr (p:Int×Int):D:=.tup [.int p.1,.int p.2]
def pE:D->Option Bool
 | .int _=>some true
 | .ty _=>none
 | .exc _=>none
 | .cls _=>none
 | .ms _ _=>none
 | .mf _ _=>none
 | .md _ _=>none
 | _=>some false
abbrev Md (x:Int):Prop:=Sm 4000 x
theorem Md.bd {x:Int} (h:Md x):Bd x:=h.mono (l:=9000) (by decide)
theorem nJ {k:Nat} {x:Int} (h:Sm k x) (e:k<=9000:=by decide):Bd x:=h.mono (l:=9000) e
theorem cJ {x:Int} (h:x.natAbs < 2 ^ 64:=by decide):Bd x:=nJ (k:=64) h
theorem zN {x:Int} (h:Bd x):Bd (-x):=by unfold Bd at *;rw [Int.natAbs_neg];exact h
structure Fk (p:Int×Int):Prop where
 pos:0 < p.2
 s1:Md p.1
 s2:Md p.2
theorem Fk.of {k:Nat} {p:Int×Int} (h:Fr k p) (e:k<=4000:=by decide):Fk p:=⟨h.pos,h.s1.mono e,h.s2.mono e⟩
def iF (ds:List D) (d:D):Prop:=∃ x b,pE x=some b/\ds=[x]/\d=.bl b
theorem fE {x:D} {b:Bool} (h:pE x=some b):fn iF [x]=some (.bl b):=cq (fun d' h'=>by
 obtain ⟨x',b',h1,h2,rfl⟩:=h'
 cases h2;rw [h] at h1;cases h1;rfl) ⟨x,b,h,rfl,rfl⟩
abbrev gu:=iF
def fG (ds:List D) (d:D):Prop:=∃ a b,0 < b/\ds=[.int a,.int b]/\d=.int (gc a b)
theorem lf {a b:Int} (h:0 < b):fn fG [.int a,.int b]=some (.int (gc a b)):=cq (fun d' h'=>by
 obtain ⟨a',b',h1,h2,rfl⟩:=h'
 cases h2;rfl) ⟨a,b,h,rfl,rfl⟩
def nL (ds:List D) (d:D):Prop:=∃ t b,0 < b/\Bd b/\ds=[.int t,.int b]/\d=fr (rd t b)
theorem qQ {t b:Int} (h:0 < b) (g:Bd b):fn nL [.int t,.int b]=some (fr (rd t b)):=cq (fun d' h'=>by
 obtain ⟨t',b',_,_,h2,rfl⟩:=h'
 cases h2;rfl) ⟨t,b,h,g,rfl,rfl⟩
def S2 (op:Int×Int->Int×Int->D) (ds:List D) (d:D):Prop:=∃ p q:Int×Int,Fk p/\Fk q/\ds=[fr p,fr q]/\d=op p q
theorem e2 {op:Int×Int->Int×Int->D} {p q:Int×Int} (h:Fk p) (g:Fk q):fn (S2 op) [fr p,fr q]=some (op p q):=cq (fun d' h'=>by
 obtain ⟨⟨a,b⟩,⟨c,e⟩,_,_,h2,rfl⟩:=h'
 obtain ⟨a',b'⟩:=p
 obtain ⟨c',e'⟩:=q
 cases h2;rfl) ⟨p,q,h,g,rfl,rfl⟩
abbrev pX:=S2 fun p q=>.bl (decide (p.1*q.2 < q.1*p.2))
theorem i5:∀ {ns ms:List Int},ns.map D.int=ms.map D.int->ns=ms
 | [],[],_=>rfl
 | [],_ :: _,h=>by cases h
 | _ :: _,[],h=>by cases h
 | n :: ns,m :: ms,h=>by
  have h':D.int n :: ns.map D.int=D.int m :: ms.map D.int:=h
  injection h' with h1 h2
  injection h1 with h1
  rw [h1,i5 h2]
def cell (ns:List Int) (k:Int):Int:=ns.getD k.toNat 0
def aA (ds:List D) (d:D):Prop:=∃ (ns:List Int) (k:Int),0<=k/\ds=[.seq (ns.map D.int),.int k]/\d=.int (cell ns k)
theorem gF {ns:List Int} {k:Int} (h:0<=k):fn aA [.seq (ns.map D.int),.int k]=some (.int (cell ns k)):=cq (fun d' h'=>by
 obtain ⟨ns',k',_,h2,rfl⟩:=h'
 injection h2 with h3 h4
 injection h3 with h3
 injection h4 with h4
 injection h4 with h4
 rw [i5 h3,h4]) ⟨ns,k,h,rfl,rfl⟩
def bdD:Bn->D
 | none=>.non
 | some (n,s)=>.tup [.int n,.bl s]
theorem rf:bdD none=.non:=rfl
theorem bI (n:Int) (s:Bool):bdD (some (n,s))=.tup [.int n,.bl s]:=rfl
theorem gT {a b:Bn} (h:bdD a=bdD b):a=b:=by
 rcases a with _ | ⟨n,s⟩ <;> rcases b with _ | ⟨m,t⟩
 . rfl
 . cases h
 . cases h
 . cases h;rfl
def Bk (k:Nat):Bn->Prop
 | none=>True
 | some (n,_)=>Sm k n
theorem Bk.mono {k l:Nat} {b:Bn} (h:Bk k b) (e:k<=l):Bk l b:=by
 rcases b with _ | ⟨n,s⟩
 . trivial
 . exact Sm.mono (show Sm k n from h) e
theorem Bk.sum {k:Nat} {a b:Bn} (h:Bk k a) (g:Bk k b):Bk (k+1) (bs a b):=by
 rcases a with _ | ⟨n,s⟩
 . trivial
 rcases b with _ | ⟨m,t⟩
 . trivial
 . exact Sm.add (show Sm k n from h) (show Sm k m from g)
theorem xo (n:Int):low n 1=(n,1):=by
 rw [xn (by decide)]
 exact uV ⟨by decide,by unfold gc;simp⟩
def cH (ds:List D) (d:D):Prop:=∃ t b,b ≠ 0/\Bd b/\ds=[.int t,.int b]/\d=fr (low t b)
theorem rX {t b:Int} (h:b ≠ 0) (g:Bd b):fn cH [.int t,.int b]=some (fr (low t b)):=cq (fun d' h'=>by
 obtain ⟨t',b',_,_,h2,rfl⟩:=h'
 cases h2;rfl) ⟨t,b,h,g,rfl,rfl⟩
theorem d6 {n:Int}:dfl (fn cH) [1] [.int n]=some (.tup [.int n,.int 1]):=by
 have h:=rX (t:=n) (b:=1) (by decide) cJ
 rw [xo] at h
 exact h
def iE (ds:List D) (d:D):Prop:=∃ (p:Int×Int) (b:Bn),Fk p/\Bk 4000 b/\ds=[fr p,bdD b]/\d=.bl (kp p b)
theorem pN {p:Int×Int} {b:Bn} (h:Fk p) (g:Bk 4000 b):fn iE [fr p,bdD b]=some (.bl (kp p b)):=cq (fun d' h'=>by
 obtain ⟨⟨a,b'⟩,c,_,_,h2,rfl⟩:=h'
 obtain ⟨x,y⟩:=p
 injection h2 with h3 h4
 injection h4 with h4 _
 cases h3
 rw [gT h4]) ⟨p,b,h,g,rfl,rfl⟩
def dD (ds:List D) (d:D):Prop:=∃ a b:Bn,ds=[bdD a,bdD b]/\d=.bl (tgt a b)
theorem fB {a b:Bn}:fn dD [bdD a,bdD b]=some (.bl (tgt a b)):=cq (fun d' h'=>by
 obtain ⟨a',b',h2,rfl⟩:=h'
 injection h2 with h3 h4
 injection h4 with h4 _
 rw [gT h3,gT h4]) ⟨a,b,rfl,rfl⟩
abbrev aQ:=dD
theorem uR (b:Bn):sh (bdD b)=bdD b:=by rcases b with _ | ⟨n,s⟩ <;> rfl
theorem eS (b:Bn):imm (bdD b)=true:=by rcases b with _ | ⟨n,s⟩ <;> rfl
theorem vC (b:Bn):own (bdD b)=true:=by rcases b with _ | ⟨n,s⟩ <;> rfl
def aJ (r:List Bn):List D:=r.map bdD
theorem l0:∀ (r:List Bn),shs (aJ r)=aJ r
 | []=>rfl
 | b :: r=>by show sh (bdD b) :: shs (aJ r)=_;rw [uR,l0 r];rfl
theorem i6:∀ (r:List Bn),d7 (aJ r)=true
 | []=>rfl
 | b :: r=>by show (imm (bdD b) && d7 (aJ r))=true;rw [eS,i6 r];rfl
theorem mW:∀ (r:List Bn),g7 (aJ r)=true
 | []=>rfl
 | b :: r=>by show (own (bdD b) && g7 (aJ r))=true;rw [vC,mW r];rfl
def ci (T:List (List Bn)):List D:=T.map fun r=>.seq (aJ r)
def aZ (T:List (List Bn)):List D:=T.map fun r=>.lst (aJ r)
def aw (T:List (List Bn)):D:=.seq (ci T)
def ak (T:List (List Bn)):D:=.lst (aZ T)
theorem kN:∀ (T:List (List Bn)),shs (aZ T)=ci T
 | []=>rfl
 | r :: T=>by show sh (.lst (aJ r)) :: shs (aZ T)=_;rw [kN T,sh,l0];rfl
theorem kM:∀ (T:List (List Bn)),shs (ci T)=ci T
 | []=>rfl
 | r :: T=>by show sh (.seq (aJ r)) :: shs (ci T)=_;rw [kM T,sh,l0];rfl
theorem io (T:List (List Bn)):sh (ak T)=aw T:=by unfold ak aw;rw [sh,kN]
theorem jh (T:List (List Bn)):sh (aw T)=aw T:=by unfold aw;rw [sh,kM]
theorem mV:∀ (T:List (List Bn)),g7 (aZ T)=true
 | []=>rfl
 | r :: T=>by show (own (.lst (aJ r)) && g7 (aZ T))=true;rw [own,mW,mV T];rfl
theorem bR (T:List (List Bn)):own (ak T)=true:=by unfold ak;rw [own];exact mV T
theorem qm:∀ {r s:List Bn},aJ r=aJ s->r=s
 | [],[],_=>rfl
 | [],_ :: _,h=>by cases h
 | _ :: _,[],h=>by cases h
 | a :: r,b :: s,h=>by
  have h':bdD a :: aJ r=bdD b :: aJ s:=h
  injection h' with h1 h2
  rw [gT h1,qm h2]
theorem oo:∀ {T U:List (List Bn)},ci T=ci U->T=U
 | [],[],_=>rfl
 | [],_ :: _,h=>by cases h
 | _ :: _,[],h=>by cases h
 | a :: r,b :: s,h=>by
  have h':D.seq (aJ a) :: ci r=D.seq (aJ b) :: ci s:=h
  injection h' with h1 h2
  injection h1 with h1
  rw [qm h1,oo h2]
theorem qd {T U:List (List Bn)} (h:aw T=aw U):T=U:=by
 unfold aw at h
 injection h with h
 exact oo h
structure Sq (T:List (List Bn)) (m:Nat):Prop where
 len:T.length=m
 row:∀ r∈T,r.length=m
theorem ko {α:Type} {f g:α->D} {F:D->Option D}:∀ {xs:List α},(∀ x∈xs,F (f x)=some (g x))->lQ F (xs.map f)=some (xs.map g)
 | [],_=>rfl
 | x :: xs,h=>by
  show ((F (f x)).bind fun y=>(lQ F (xs.map f)).bind fun ys=>some (y :: ys))=_
  rw [h x Zk,ko fun y m=>h y (Zl _ m)]
  rfl
theorem AW (n:Nat) (b:Bn):eqN (n+1) (bdD b) (bdD b)=some true:=by
 rcases b with _ | ⟨k,s⟩
 . rfl
 . cases n with
   | zero=>show eqL (eqN 0) [D.int k,D.bl s] [D.int k,D.bl s]=_;simp [eqL,eqN,qO,tO,eqF]
   | succ n=>show eqL (eqN (n+1)) [D.int k,D.bl s] [D.int k,D.bl s]=_;simp [eqL,eqN,qO,tO,eqF]
theorem nr {f:D->D->Option Bool}:∀ {ds:List D},(∀ d∈ds,f d d=some true)->eqL f ds ds=some true
 | [],_=>rfl
 | d :: ds,h=>by
  show ((f d d).bind fun x=>(eqL f ds ds).bind fun y=>some (x && y))=_
  rw [h d Zk,nr fun e m=>h e (Zl _ m)]
  rfl
theorem rV (n:Nat) (r:List Bn):eqL (eqN (n+1)) (aJ r) (aJ r)=some true:=nr fun d m=>by
 obtain ⟨b,_,rfl⟩:=List.mem_map.mp m
 exact AW n b
theorem v8 (n:Nat) (T:List (List Bn)):eqL (eqN (n+2)) (ci T) (ci T)=some true:=nr fun d m=>by
 obtain ⟨r,_,rfl⟩:=List.mem_map.mp m
 exact rV n r
theorem zh (T:List (List Bn)):gq (aw T) (aw T)=some (.bl false):=by
 unfold gq
 have z:eqN 6 (aw T) (aw T)=some true:=v8 3 T
 rw [z];rfl
def ao (T:List (List Bn)) (i j:Nat):Bn:=(T.getD i []).getD j none
def jt (T:List (List Bn)) (i j:Nat) (b:Bn):List (List Bn):=T.set i ((T.getD i []).set j b)
theorem oW {T:List (List Bn)} {m i j:Nat} {b:Bn} (h:Sq T m) (hi:i < m):Sq (jt T i j b) m:=by
 refine ⟨by unfold jt;rw [List.length_set];exact h.len,fun r hr=>?_⟩
 rcases List.mem_or_eq_of_mem_set hr with z | z
 . exact h.row r z
 . rw [z,List.length_set,Zp,Zq (by rw [h.len];exact hi)]
   exact h.row _ (List.getElem_mem _)
theorem fF {α:Type} {xs:List α} {j:Nat} {v:α} (h:xs[j]? = some v):L2.atI xs (j:Int)=some v:=L2.atI_nat h
theorem jW {n j:Nat} (h:j < n):L2.ixN n (j:Int)=some j:=by
 unfold L2.ixN
 rw [if_pos (by omega),if_pos (by omega)]
 simp
theorem fO {T:List (List Bn)} {m i:Nat} (h:Sq T m) (hi:i < m):∃ r,T[i]? = some r/\T.getD i []=r/\r.length=m:=by
 have hl:i < T.length:=by rw [h.len];exact hi
 refine ⟨T[i],Zq hl,?_,h.row _ (List.getElem_mem _)⟩
 rw [Zp,Zq hl];rfl
theorem gD {T:List (List Bn)} {m i j:Nat} (h:Sq T m) (hi:i < m) (hj:j < m):∃ r,gIx (ak T) (.int (i:Int))=some (.lst (aJ r))/\gIx (.lst (aJ r)) (.int (j:Int))=some (bdD (ao T i j))/\(aZ T)[i]? = some (.lst (aJ r))/\r.length=m/\T.getD i []=r:=by
 obtain ⟨r,h1,h2,h3⟩:=fO h hi
 have hx:(aZ T)[i]? = some (.lst (aJ r)):=by unfold aZ;rw [List.getElem?_map,h1];rfl
 refine ⟨r,fF hx,?_,hx,h3,h2⟩
 show L2.atI (aJ r) (j:Int)=_
 refine fF ?_
 unfold aJ ao
 rw [List.getElem?_map,h2,Zp,Zq (by omega)]
 rfl
theorem i4 {T:List (List Bn)} {m i j:Nat} (h:Sq T m) (hi:i < m) (hj:j < m):∃ r,gIx (aw T) (.int (i:Int))=some (.seq (aJ r))/\gIx (.seq (aJ r)) (.int (j:Int))=some (bdD (ao T i j)):=by
 obtain ⟨r,h1,h2,h3⟩:=fO h hi
 have hx:(ci T)[i]? = some (.seq (aJ r)):=by unfold ci;rw [List.getElem?_map,h1];rfl
 refine ⟨r,fF hx,?_⟩
 show L2.atI (aJ r) (j:Int)=_
 refine fF ?_
 unfold aJ ao
 rw [List.getElem?_map,h2,Zp,Zq (by omega)]
 rfl
theorem kP {T:List (List Bn)} {i j:Nat} {b:Bn} {r:List Bn} (h:T.getD i []=r):(aZ T).set i (.lst ((aJ r).set j (bdD b)))=aZ (jt T i j b):=by
 unfold aZ jt aJ
 rw [h,List.map_set,List.map_set]
theorem c6 (T:List (List Bn)):(aZ T).length=T.length:=by simp [aZ]
theorem ii (r:List Bn):(aJ r).length=r.length:=by simp [aJ]
def IsT (d:D) (T:List (List Bn)):Prop:=sh d=aw T
theorem cU (T:List (List Bn)):IsT (ak T) T:=io T
theorem pC (T:List (List Bn)):IsT (aw T) T:=jh T
theorem IsT.inj {d:D} {T U:List (List Bn)} (h:IsT d T) (g:IsT d U):T=U:=qd (h.symm.trans g)
theorem rO (r:List Bn) (δ:DS):iA (.lst (aJ r)) δ=some (.lst (aJ r),δ):=if_pos (i6 r)
theorem qT (r:List Bn) (tl:DS):Dl.ownOf (ee (aa (ab 0) af)) (shO (some (.seq (aJ r)) :: tl))=some (.lst (aJ r)):=by
 have e:shO (some (.seq (aJ r)) :: tl)=some (.seq (aJ r)) :: shO tl:=by
  show some (sh (.seq (aJ r))) :: _=_
  rw [sh,l0]
  rfl
 rw [e]
 show (((iA (.lst (aJ r)) _)).bind _)=_
 rw [rO]
 show (if own (.lst _)=true then _ else _)=_
 rw [if_pos (by rw [own];exact mW _)]
theorem jI {T:List (List Bn)} {m:Nat} (hs:Sq T m) (hm:m<=41) {δ:DS} {i:Nat} {js:List Nat} (hj:δ[i]? = some (some (aw T))) :
 dG (fun δ=>((ab i) δ).bind asL) js (ee (aa (ab 0) af)) δ=some (ak T,δ):=by
 unfold dG
 have e:((ab i) δ).bind asL=some (ci T):=by unfold ab;rw [hj];rfl
 dsimp only
 rw [e]
 show ((lQ _ (ci T)).bind _)=_
 unfold ci
 rw [ko (g:=fun r=>.lst (aJ r)) fun r _=>qT r _]
 show (if (aZ T).length<=1000 then _ else _)=_
 rw [if_pos (by rw [c6,hs.len];omega)]
 rfl
theorem iQ {δ:DS} {i:Nat} {b:Bn} (h:δ[i]? = some (some (bdD b))):bn i δ=some (bdD b,δ):=by
 unfold bn
 rw [h]
 rcases b with _ | ⟨n,s⟩ <;> rfl
theorem l5 {T:List (List Bn)} {m i j:Nat} {b:Bn} (hs:Sq T m) (hi:i < m) (hj:j < m) {δ δ':DS} {p:Nat} {fk fl:FD} {fm:FM} (h0:fm δ=some (bdD b,δ')) (h1:δ'[p]? = some (some (ak T))) (h2:fk δ'=some (.int (i:Int))) (h3:fl δ'=some (.int (j:Int))) :
 dH p fk fl fm δ=some (.nx (δ'.set p (some (ak (jt T i j b))))):=by
 obtain ⟨w,q1,q2,q3,q4,q5⟩:=gD hs hi hj
 unfold dH
 rw [h0]
 show (if imm (bdD b)=true then _ else _)=_
 rw [if_pos (eS b)]
 dsimp only
 rw [h1]
 unfold ak
 dsimp only
 rw [h2,h3]
 dsimp only [Option.bind_some]
 rw [jW (show i < (aZ T).length by rw [c6,hs.len];exact hi)]
 dsimp only [Option.bind_some]
 rw [q3]
 dsimp only [Option.bind_some]
 rw [jW (show j < (aJ w).length by rw [ii,q4];exact hj)]
 dsimp only [Option.bind_some]
 rw [kP q5]
def tgo (a b:Bn):Bn:=if tgt b a then b else a
def cD (ds:List D) (d:D):Prop:=∃ a b:Bn,ds=[bdD a,bdD b]/\d=bdD (tgo a b)
theorem pM {a b:Bn}:fn cD [bdD a,bdD b]=some (bdD (tgo a b)):=cq (fun d' h'=>by
 obtain ⟨a',b',h2,rfl⟩:=h'
 injection h2 with h3 h4
 injection h4 with h4 _
 rw [gT h3,gT h4]) ⟨a,b,rfl,rfl⟩
abbrev uD (ds:List D) (d:D):Prop:=∃ (d0:D) (T:List (List Bn)) (m:Nat),IsT d0 T/\Sq T m/\m<=41/\ds=[d0]/\d=ak T
def nM (ds:List D) (d:D):Prop:=uD ds d
theorem wa {d0:D} {T:List (List Bn)} {m:Nat} (h:IsT d0 T) (hs:Sq T m) (hm:m<=41):fn nM [d0]=some (ak T):=cq (fun d' h'=>by
 obtain ⟨d1,U,m',g,_,_,h2,rfl⟩:=h'
 cases h2
 rw [h.inj g]) ⟨d0,T,m,h,hs,hm,rfl,rfl⟩
theorem dI {s:SD} {δ:DS} {d:D} (h:s δ=some (.rt d)):aL (s δ)=some d:=by rw [h];rfl
theorem ap {s u:SD} {δ δ':DS} {r:Res} (h:s δ=some (.nx δ')) (g:u δ'=some r):ax s u δ=some r:=by unfold ax;rw [h];exact g
theorem aV {i:Nat} {f:FM} {δ δ':DS} {d:D} (h:f δ=some (d,δ')):av i f δ=some (.nx (δ'.set i (some d))):=by unfold av;rw [h];rfl
theorem cr {f:FM} {δ δ':DS} {d:D} (h:f δ=some (d,δ')):cw f δ=some (.rt d):=by unfold cw;rw [h];rfl
theorem xT {c:FT} {s u:SD} {δ:DS} {r:Res} {b:Bool} (h:c δ=some b) (g:(if b then s δ else u δ)=some r):sIf c s u δ=some r:=by unfold sIf;rw [h];cases b <;> exact g
theorem sy {i:Nat} {f:FD} {δ:DS} {d:D} (h:f δ=some d):mK i f δ=some (.nx (δ.set i (some d))):=by unfold mK;rw [h];rfl
theorem wB {f:FD} {δ:DS} {d:D} (h:f δ=some d):fg f δ=some (.rt d):=by unfold fg;rw [h];rfl
theorem bD {src:FMA} {i:Nat} {s:SD} {δ δ':DS} {ds:List D} {r:Res} (h:src δ=some (ds,δ')) (g:Dl.forM i s ds δ'=some r):cn src i s δ=some r:=by unfold cn;rw [h];exact g
theorem bw {f:FD} {δ:DS} {d:D} (h:f δ=some d) (g:imm d=true:=by rfl):vI f δ=some (d,δ):=by unfold vI;rw [h];exact if_pos g
theorem de {G:List D->Option D} {g:FA} {δ:DS} {ds:List D} {d:D} (h:g δ=some ds) (k:G ds=some d) (o:own d=true):cI G g δ=some (d,δ):=by unfold cI;rw [h];show ((G ds).bind _)=_;rw [k];exact if_pos o
theorem dS {i:Nat} {δ:DS} {ds:List D} (h:δ[i]? = some (some (.lst ds))):bn i δ=some (.lst ds,δ.set i none):=by unfold bn;rw [h];rfl
theorem eg:∀ (ns:List Int),shs (ns.map D.int)=ns.map D.int
 | []=>rfl
 | n :: ns=>by show sh (.int n) :: shs (ns.map D.int)=_;rw [eg ns];rfl
theorem oC:∀ (ns:List Int),d7 (ns.map D.int)=true
 | []=>rfl
 | n :: ns=>by show (imm (.int n) && d7 (ns.map D.int))=true;rw [oC ns];rfl
theorem bz (i j:Int):ce (.int i) (.int j)=some (.bl (i == j)):=rfl
theorem fa2 {f g:FD} {δ:DS} {a b:D} (h:f δ=some a) (k:g δ=some b):aa f (aa g af) δ=some [a,b]:=by
 unfold aa af
 rw [h,k]
 rfl
theorem oD {i:Nat} {s:SD} (P:DS->Prop):∀ (ds:List D) (δ:DS),P δ->(∀ d∈ds,∀ δ,P δ->∃ δ2,s (δ.set i (some (sh d)))=some (.nx δ2)/\P δ2)->∃ δ',Dl.forM i s ds δ=some (.nx δ')/\P δ'
 | [],δ,p,_=>⟨δ,rfl,p⟩
 | d :: ds,δ,p,h=>by
  obtain ⟨δ2,h2,h3⟩:=h d Zk δ p
  obtain ⟨δ',h4,h5⟩:=oD P ds δ2 h3 fun e he=>h e (Zl _ he)
  refine ⟨δ',?_,h5⟩
  simp only [Dl.forM,h2,Zc,h4]
theorem bA {c:FT} {s u:SD} {δ:DS} {r:Res} (h:c δ=some false) (g:u δ=some r):sIf c s u δ=some r:=by unfold sIf;rw [h];exact g
theorem c9 {c:FT} {s u:SD} {δ:DS} {r:Res} (h:c δ=some true) (g:s δ=some r):sIf c s u δ=some r:=by unfold sIf;rw [h];exact g
theorem ik {s u:SD} {δ:DS} {d:D} (h:s δ=some (.rt d)):ax s u δ=some (.rt d):=by unfold ax;rw [h];rfl
theorem wC {src:FMA} {g:D->DS->Option DS} {s:SD} {δ δ':DS} {ds:List D} {r:Res} (h:src δ=some (ds,δ')) (k:qN g s ds δ'=some r):sL src g s δ=some r:=by unfold sL;rw [h];exact k
theorem jK (i:Int):sh (.int i)=.int i:=rfl
theorem bC {α:Type} {i:Nat} {s:SD} {f:α->D} (P:List α->DS->Prop) (all:List α) (step:∀ (pre:List α) (x:α) (post:List α) (δ:DS),all=pre++x :: post->P pre δ->∃ δ2,s (δ.set i (some (sh (f x))))=some (.nx δ2)/\P (pre++[x]) δ2) :
 ∀ (xs pre:List α) (δ:DS),all=pre++xs->P pre δ->∃ δ',Dl.forM i s (xs.map f) δ=some (.nx δ')/\P all δ'
 | [],pre,δ,e,p=>⟨δ,rfl,by rw [e,List.append_nil];exact p⟩
 | x :: xs,pre,δ,e,p=>by
  obtain ⟨δ2,h2,h3⟩:=step pre x xs δ e p
  obtain ⟨δ',h4,h5⟩:=bC P all step xs (pre++[x]) δ2 (by rw [e,List.append_assoc];rfl) h3
  refine ⟨δ',?_,h5⟩
  simp only [List.map_cons,Dl.forM,h2,Zc,h4]
theorem nn {α:Type} {i:Nat} {s:SD} {f:α->D} {d:D} (P:DS->Prop) (b:α->Bool):∀ (xs:List α) (δ:DS),P δ->(∀ x∈xs,∀ δ,P δ->(b x=true->∃ δ2,s (δ.set i (some (sh (f x))))=some (.nx δ2)/\P δ2)/\(b x=false->s (δ.set i (some (sh (f x))))=some (.rt d))) ->
 (xs.all b=true->∃ δ',Dl.forM i s (xs.map f) δ=some (.nx δ')/\P δ')/\(xs.all b=false->Dl.forM i s (xs.map f) δ=some (.rt d))
 | [],δ,p,_=>⟨fun _=>⟨δ,rfl,p⟩,fun h=>by cases h⟩
 | x :: xs,δ,p,h=>by
  obtain ⟨h1,h2⟩:=h x Zk δ p
  cases hb:b x with
  | false =>
   refine ⟨fun q=>(by rw [List.all_cons,hb] at q;cases q),fun _=>?_⟩
   simp only [List.map_cons,Dl.forM,h2 hb,Zc]
  | true =>
   obtain ⟨δ2,g1,g2⟩:=h1 hb
   obtain ⟨k1,k2⟩:=nn P b xs δ2 g2 fun y hy=>h y (Zl _ hy)
   rw [List.all_cons,hb,Bool.true_and]
   refine ⟨fun q=>?_,fun q=>?_⟩
   . obtain ⟨δ',k3,k4⟩:=k1 q
     refine ⟨δ',?_,k4⟩
     simp only [List.map_cons,Dl.forM,g1,Zc,k3]
   . simp only [List.map_cons,Dl.forM,g1,Zc,k2 q]
theorem jc {α:Type} {src:FA} {js:List Nat} {felt:FM} {δ:DS} {xs:List α} {f g:α->D} (hs:src δ=some (xs.map f)) (h:∀ x∈xs,Dl.ownOf felt (shO (some (f x) :: bF js δ))=some (g x)) (hl:xs.length<=1000):dG src js felt δ=some (.lst (xs.map g),δ):=by
 unfold dG
 rw [hs]
 show ((lQ _ (xs.map f)).bind _)=_
 rw [ko h]
 exact if_pos (by rw [Zi];exact hl)
theorem vB {felt:FM} {δ δ':DS} {d:D} (h:felt δ=some (d,δ')) (o:own d=true):Dl.ownOf felt δ=some d:=by unfold Dl.ownOf;rw [h];exact if_pos o
theorem j9 (n:Nat):eM 0 (n:Int) 1=(List.range n).map fun (i:Nat)=>D.int (i:Int):=by
 have e:(((n:Int) - 0+1 - 1) / 1).toNat=n:=by omega
 unfold eM
 rw [e]
 congr 1
 funext i
 congr 1
 omega
theorem tX {b:Int} (h:0<=b) (g:b<=1000):asR [.int b]=some (eM 0 b 1):=by
 show (if -(2 ^ 62)<=b/\b < 2 ^ 62 then some (eM 0 b 1) else none)=_
 rw [if_pos (by omega)]
theorem yj {n:Nat} (h:n<=1000):asR [.int (n:Int)]=some ((List.range n).map fun (i:Nat)=>D.int (i:Int)):=by
 rw [tX (by omega) (by omega),j9]
theorem uI {g:FA} {δ:DS} {b:Int} (h:g δ=some [.int b]) (l:0<=b) (k:b<=1000):bX g δ=some (eM 0 b 1,δ):=by
 unfold bX
 rw [h]
 show ((asR [.int b]).bind _)=_
 rw [tX l k]
 rfl
theorem db {g:FA} {δ:DS} {n:Nat} (h:g δ=some [.int (n:Int)]) (l:n<=1000):bX g δ=some ((List.range n).map fun (i:Nat)=>D.int (i:Int),δ):=by
 rw [uI h (by omega) (by omega),j9]
theorem sC {g:FA} {δ:DS} {ds xs:List D} (h:g δ=some ds) (k:asR ds=some xs):mF g δ=some xs:=by unfold mF;rw [h];exact k
theorem bg {n:Nat} {pre post:List Nat} {x:Nat} (h:List.range n=pre++x :: post):x=pre.length/\pre.length < n:=by
 have hl:pre.length < n:=by
  have:=congrArg List.length h
  rw [List.length_range,Zh,List.length_cons] at this
  omega
 have h1:(List.range n)[pre.length]? = some x:=by rw [h,List.getElem?_append_right (Nat.le_refl _),Nat.sub_self];rfl
 rw [List.getElem?_range hl] at h1
 exact ⟨(Option.some.inj h1).symm,hl⟩
theorem jJ {δ:DS} {i:Nat} {fm:FM} {ds:List D} {d:D} (h:δ[i]? = some (some (.lst ds))) (g:fm δ=some (d,δ)) (l:ds.length<=999):iw i fm δ=some (.nx (δ.set i (some (.lst (ds++[d]))))):=by
 unfold iw
 rw [h]
 dsimp only
 rw [g]
 dsimp only [Option.bind_some]
 rw [h]
 exact if_pos l
theorem oN {fa fb:FD} {δ:DS} {a b:D} {xs ys:List D} (h:fa δ=some a) (g:fb δ=some b) (h':asL a=some xs) (g':asL b=some ys) (l:xs.length+ys.length<=1000) (m:d7 (xs++ys)=true):hV fa fb δ=some (.lst (xs++ys),δ):=by
 have e:tJ a b=some (.lst (xs++ys)):=by
  unfold tJ
  rw [h',g']
  exact if_pos l
 unfold hV f2
 rw [h]
 dsimp only [Option.bind_some]
 rw [g]
 dsimp only [Option.bind_some]
 rw [e]
 exact if_pos m
theorem xS {is:List Nat} {fm:FM} {δ δ':DS} {ds:List D} (h:fm δ=some (.tup ds,δ')) (l:ds.length=is.length) (i:kw is δ'.length=true):oY is fm δ=some (.nx (gZ is ds δ')):=by
 unfold oY
 rw [h]
 dsimp only [Option.bind_some]
 rw [if_pos ⟨l,i⟩]
theorem rT {f g:FD} {δ:DS} {a b:D} (h:f δ=some a) (k:g δ=some b):bU (aa f (aa g af)) δ=some (.tup [a,b]):=by
 unfold bU
 rw [fa2 h k]
 rfl
theorem uH {f g:FM} {δ δ1 δ2:DS} {a b:D} (h:f δ=some (a,δ1)) (k:g δ1=some (b,δ2)):nQ (cm f (cm g fZ)) δ=some (.tup [a,b],δ2):=by
 unfold nQ cm
 rw [h]
 dsimp only [Option.bind_some]
 rw [k]
 rfl
theorem fa3 {f g e:FD} {δ:DS} {a b c:D} (h:f δ=some a) (k:g δ=some b) (l:e δ=some c):aa f (aa g (aa e af)) δ=some [a,b,c]:=by
 unfold aa af
 rw [h,k,l]
 rfl
theorem qJ (ps:List (Int×Int)):d7 (ps.map fr)=true:=imms_mem.mpr fun d m=>by obtain ⟨p,_,rfl⟩:=List.mem_map.mp m;rfl
theorem mX:∀ (ps:List (Int×Int)),g7 (ps.map fr)=true
 | []=>rfl
 | p :: ps=>by show (own (fr p) && g7 (ps.map fr))=true;rw [mX ps];rfl
theorem jg:∀ (ps:List (Int×Int)),shs (ps.map fr)=ps.map fr
 | []=>rfl
 | p :: ps=>by show sh (fr p) :: shs (ps.map fr)=_;rw [jg ps];rfl
theorem tM:∀ {ps qs:List (Int×Int)},ps.map fr=qs.map fr->ps=qs
 | [],[],_=>rfl
 | [],_ :: _,h=>by cases h
 | _ :: _,[],h=>by cases h
 | (a,b) :: ps,(c,e) :: qs,h=>by
  have h':fr (a,b) :: ps.map fr=fr (c,e) :: qs.map fr:=h
  injection h' with h1 h2
  cases h1
  rw [tM h2]
def IsP (d:D) (ps:List (Int×Int)):Prop:=sh d=.seq (ps.map fr)
theorem tu (ps:List (Int×Int)):IsP (.lst (ps.map fr)) ps:=by unfold IsP;rw [sh,jg]
theorem mo (ps:List (Int×Int)):IsP (.seq (ps.map fr)) ps:=by unfold IsP;rw [sh,jg]
theorem IsP.inj {d:D} {ps qs:List (Int×Int)} (h:IsP d ps) (g:IsP d qs):ps=qs:=by
 have:=h.symm.trans g
 injection this with this
 exact tM this
def cX (ps:List (Int×Int)):List (Int×Int):=(0,1) :: ps
def da (ps:List (Int×Int)) (i:Nat):Int×Int:=(cX ps).getD i (0,1)
def dif (ps:List (Int×Int)) (i j:Nat):Int×Int:=mi (da ps i) (da ps j)
def gH (T:List (List Bn)) (ps:List (Int×Int)):Bool:=(List.range (ps.length+1)).all fun i=>(List.range (ps.length+1)).all fun j=>kp (dif ps i j) (ao T i j)
theorem jY {k:Nat} (h:1<=k):Fr k ((0,1):Int×Int):=⟨⟨by decide,by unfold gc;simp⟩,Sm.mono (k:=1) (show (0:Int).natAbs < 2 ^ 1 by decide) h,Sm.mono (k:=1) (show (1:Int).natAbs < 2 ^ 1 by decide) h⟩
theorem fN {ps:List (Int×Int)} {k:Nat} (hk:1<=k) (h:∀ p∈ps,Fr k p) (i:Nat):Fr k (da ps i):=by
 unfold da
 rw [Zp]
 cases q:(cX ps)[i]? with
 | none=>exact jY hk
 | some p =>
  have m:=List.mem_of_getElem? q
  rcases Zo.mp m with rfl | m
  . exact jY hk
  . exact h p m
theorem xH {k:Nat} {ps:List (Int×Int)} (hk:1<=k) (h:∀ p∈ps,Fr k p) (i j:Nat):Fr (k+k+1) (dif ps i j):=(fN hk h i).mi (fN hk h j)
theorem jp {ps:List (Int×Int)} {i:Nat} (h:i < ps.length+1):gIx (.lst ((cX ps).map fr)) (.int (i:Int))=some (fr (da ps i))/\gIx (.seq ((cX ps).map fr)) (.int (i:Int))=some (fr (da ps i)):=by
 have e:((cX ps).map fr)[i]? = some (fr (da ps i)):=by
  unfold da
  have hl:i < (cX ps).length:=by unfold cX;rw [List.length_cons];exact h
  rw [List.getElem?_map,Zp,Zq hl]
  rfl
 exact ⟨fF e,fF e⟩
theorem uw {T:List (List Bn)} {m i j:Nat} {b:Bn} (hs:Sq T m) (hi:i < m) (hj:j < m) (x y:Nat):ao (jt T i j b) x y=if x=i/\y=j then b else ao T x y:=by
 obtain ⟨r,h1,h2,h3⟩:=fO hs hi
 have hl:i < T.length:=by rw [hs.len];exact hi
 unfold ao jt
 by_cases hx:x=i
 . subst hx
   have e:(T.set x ((T.getD x []).set j b)).getD x []=(T.getD x []).set j b:=by
    rw [Zp,List.getElem?_set_self hl]
    rfl
   rw [e,h2]
   by_cases hy:y=j
   . subst hy
     rw [if_pos ⟨rfl,rfl⟩,Zp,List.getElem?_set_self (by omega)]
     rfl
   . rw [if_neg fun z=>hy z.2,Zp,List.getElem?_set_ne (Ne.symm hy),<- Zp]
 . rw [if_neg fun z=>hx z.1]
   have e:(T.set i ((T.getD i []).set j b)).getD x []=T.getD x []:=by
    rw [Zp,List.getElem?_set_ne (Ne.symm hx),<- Zp]
   rw [e]
def BkT (T:List (List Bn)):Prop:=∀ i j,Bk 4000 (ao T i j)
def oK (ds:List D) (d:D):Prop:=∃ (d0 d1:D) (T:List (List Bn)) (ps:List (Int×Int)),IsT d0 T/\Sq T (ps.length+1)/\ps.length<=40/\BkT T/\IsP d1 ps/\(∀ p∈ps,Fr 1900 p)/\ds=[d0,d1]/\d=.bl (gH T ps)
theorem ur {k:Nat} {d0 d1:D} {T:List (List Bn)} {ps:List (Int×Int)} (h1:IsT d0 T) (h2:Sq T (ps.length+1)) (h3:ps.length<=40) (h4:BkT T) (h5:IsP d1 ps) (h6:∀ p∈ps,Fr k p) (hk:k<=1900:=by decide):fn oK [d0,d1]=some (.bl (gH T ps)):=cq (fun d' h'=>by
 obtain ⟨e0,e1,U,qs,g1,_,_,_,g5,_,h,rfl⟩:=h'
 injection h with a b
 injection b with b _
 subst a b
 rw [h1.inj g1,h5.inj g5]) ⟨d0,d1,T,ps,h1,h2,h3,h4,h5,fun p m=>(h6 p m).mono hk,rfl,rfl⟩
theorem iR {T:List (List Bn)} {m:Nat} (hs:Sq T m) (hm:m<=41) {δ:DS} {i:Nat} {js:List Nat} (hj:δ[i]? = some (some (ak T))) :
 dG (fun δ=>((ab i) δ).bind asL) js (ee (aa (ab 0) af)) δ=some (ak T,δ):=by
 refine jc (f:=fun r=>.lst (aJ r)) (g:=fun r=>.lst (aJ r)) ?_ (fun r _=>?_) (by rw [hs.len];omega)
 . unfold ab;rw [hj];rfl
 . have e:shO (some (.lst (aJ r)) :: bF js δ)=shO (some (.seq (aJ r)) :: bF js δ):=by
    show some (sh (.lst (aJ r))) :: _=some (sh (.seq (aJ r))) :: _
    rw [sh,sh]
   rw [e]
   exact qT r _
def mxd (c k:Int):Int:=(c*48271+k*k*69621+7*k+11) % 2147483647*((c*48271+k*k*69621+7*k+11) % 2147483647) % 2147483629
def aM (ds:List D) (d:D):Prop:=∃ c k,0<=k/\k < 100000/\ds=[.int c,.int k]/\d=.int (mxd c k)
theorem gr {c k:Int} (h:0<=k) (g:k < 100000):fn aM [.int c,.int k]=some (.int (mxd c k)):=cq (fun d' h'=>by
 obtain ⟨c',k',_,_,h2,rfl⟩:=h'
 cases h2;rfl) ⟨c,k,h,g,rfl,rfl⟩
def hE (ds:List D) (d:D):Prop:=∃ t b,0 < b/\Bd b/\ds=[.int t,.int b]/\d=fr (rd t b)
theorem jC {t b:Int} (h:0 < b) (g:Bd b):fn hE [.int t,.int b]=some (fr (rd t b)):=cq (fun d' h'=>by
 obtain ⟨t',b',_,_,h2,rfl⟩:=h'
 cases h2;rfl) ⟨t,b,h,g,rfl,rfl⟩
def dl (p q:Int×Int):Int×Int:=(p.1*q.2 - q.1*p.2,p.2*q.2)
abbrev cg:=S2 fun p q=>fr (dl p q)
def prt (c:Int):Int×Int:=if c % 8=5 then rd (c / 8 % (2*10 ^ 45+1) - 10 ^ 45) (1+c % 9973) else rd (c / 48 % 41 - 20) (1+c / 8 % 6)
theorem vj (c:Int):Fr 200 (prt c):=by
 unfold prt
 split
 . have hb:0 < 1+c % 9973:=by omega
   have h:=uU (k:=200) hb (Sm.of (x:=c / 8 % (2*10 ^ 45+1) - 10 ^ 45) (by omega) (by omega)) (Sm.of (by omega) (by omega))
   exact ⟨qq hb,h.1,h.2⟩
 . have hb:0 < 1+c / 8 % 6:=by omega
   have h:=uU (k:=200) hb (Sm.of (x:=c / 48 % 41 - 20) (by omega) (by omega)) (Sm.of (by omega) (by omega))
   exact ⟨qq hb,h.1,h.2⟩
theorem yN (c:Int):Sm 151 (prt c).1/\Sm 14 (prt c).2:=by
 unfold prt
 split
 . have hb:0 < 1+c % 9973:=by omega
   exact ⟨(Sm.of (k:=151) (x:=c / 8 % (2*10 ^ 45+1) - 10 ^ 45) (by omega) (by omega)).div (gE hb) kA,(Sm.of (k:=14) (x:=1+c % 9973) (by omega) (by omega)).div (gE hb) i7⟩
 . have hb:0 < 1+c / 8 % 6:=by omega
   exact ⟨(Sm.of (k:=151) (x:=c / 48 % 41 - 20) (by omega) (by omega)).div (gE hb) kA,(Sm.of (k:=14) (x:=1+c / 8 % 6) (by omega) (by omega)).div (gE hb) i7⟩
theorem qb {ps:List (Int×Int)} (h:∀ p∈ps,Sm 151 p.1/\Sm 14 p.2) (i:Nat):Sm 151 (da ps i).1/\Sm 14 (da ps i).2:=by
 have z:Sm 151 ((0,1):Int×Int).1/\Sm 14 ((0,1):Int×Int).2:=⟨Sm.mono (k:=1) (show (0:Int).natAbs < 2 ^ 1 by decide) (by decide),Sm.mono (k:=1) (show (1:Int).natAbs < 2 ^ 1 by decide) (by decide)⟩
 unfold da
 rw [Zp]
 cases q:(cX ps)[i]? with
 | none=>exact z
 | some p =>
  rcases Zo.mp (List.mem_of_getElem? q) with e | m
  . rw [e];exact z
  . exact h p m
def cE (ds:List D) (d:D):Prop:=∃ c,ds=[.int c]/\d=fr (prt c)
theorem lE {c:Int}:fn cE [.int c]=some (fr (prt c)):=cq (fun d' h'=>by
 obtain ⟨c',h2,rfl⟩:=h'
 cases h2;rfl) ⟨c,rfl,rfl⟩
theorem lj {δ:DS} {t:Nat} {fk:FD} {fm:FM} {d:D} {Rs row:List D} (h:δ[t]? = some (some (.lst (Rs++[.lst row])))) (hk:fk δ=some (.int (Rs.length:Int))) (hf:fm δ=some (d,δ)) (hl:row.length<=999):gB t fk fm δ=some (.nx (δ.set t (some (.lst (Rs++[.lst (row++[d])]))))):=by
 have z:L2.ixN (Rs++[D.lst row]).length (Rs.length:Int)=some Rs.length:=jW (by simp)
 have g:(Rs++[D.lst row])[Rs.length]? = some (D.lst row):=by simp
 have e:(Rs++[D.lst row]).set Rs.length (.lst (row++[d]))=Rs++[.lst (row++[d])]:=by simp
 unfold gB
 rw [h]
 dsimp only
 rw [hk]
 dsimp only [Option.bind_some]
 rw [z]
 dsimp only [Option.bind_some]
 rw [g]
 dsimp only
 rw [hf]
 dsimp only [Option.bind_some]
 rw [h]
 dsimp only
 rw [g]
 dsimp only
 rw [if_pos ⟨hl,rfl⟩,e]
theorem wJ {T:List (List Bn)} {m i j:Nat} {b:Bn} (hs:Sq T m) (hi:i < m) (hj:j < m) {δ:DS} {p q r:Nat} {fm:FM} (h1:δ[p]? = some (some (ak T))) (h2:δ[q]? = some (some (.int (i:Int)))) (h3:δ[r]? = some (some (.int (j:Int)))) (h4:fm δ=some (bdD b,δ)) :
 dH p (ab q) (ab r) fm δ=some (.nx (δ.set p (some (ak (jt T i j b))))):=by
 obtain ⟨w,q1,q2,q3,q4,q5⟩:=gD hs hi hj
 unfold dH
 rw [h4]
 show (if imm (bdD b)=true then _ else _)=_
 rw [if_pos (eS b)]
 dsimp only
 rw [h1]
 unfold ak ab
 dsimp only
 rw [h2,h3]
 dsimp only [Option.bind_some]
 rw [jW (show i < (aZ T).length by rw [c6,hs.len];exact hi)]
 dsimp only [Option.bind_some]
 rw [q3]
 dsimp only [Option.bind_some]
 rw [jW (show j < (aJ w).length by rw [ii,q4];exact hj)]
 dsimp only [Option.bind_some]
 rw [kP q5]
structure Grown (T:List (List Bn)) (n m:Nat):Prop where
 len:T.length=n
 row:∀ r∈T,r.length=m
 bk:∀ r∈T,∀ b∈r,Bk 190 b
theorem Grown.sq {T:List (List Bn)} {m:Nat} (h:Grown T m m):Sq T m:=⟨h.len,h.row⟩
theorem Grown.cell {T:List (List Bn)} {n m:Nat} (h:Grown T n m) (i j:Nat):Bk 190 (ao T i j):=by
 unfold ao
 rw [Zp,Zp]
 cases q:T[i]? with
 | none=>trivial
 | some r =>
  rw [Option.getD_some]
  cases p:r[j]? with
  | none=>trivial
  | some b=>exact h.bk r (List.mem_of_getElem? q) b (List.mem_of_getElem? p)
theorem Grown.snoc {T:List (List Bn)} {n m:Nat} {r:List Bn} (h:Grown T n m) (g:r.length=m) (k:∀ b∈r,Bk 190 b):Grown (T++[r]) (n+1) m:=by
 refine ⟨by rw [Zh,h.len];rfl,fun x hx=>?_,fun x hx=>?_⟩
 . rcases Zn.mp hx with hx | hx
   . exact h.row x hx
   . rw [List.mem_singleton.mp hx];exact g
 . rcases Zn.mp hx with hx | hx
   . exact h.bk x hx
   . rw [List.mem_singleton.mp hx];exact k
theorem jL (T:List (List Bn)) (r:List Bn):aZ (T++[r])=aZ T++[.lst (aJ r)]:=by unfold aZ;rw [List.map_append];rfl
theorem kR (r:List Bn) (b:Bn):aJ (r++[b])=aJ r++[bdD b]:=by unfold aJ;rw [List.map_append];rfl
theorem AN {t b:Int} (hb:0 < b) (c:Bn):kp (t,b) c=kp (rd t b) c:=by
 have hg:=gE (t:=t) hb
 have e1:(rd t b).1*gc t b=t:=yC
 have e2:(rd t b).2*gc t b=b:=wO
 have key:∀ n:Int,(t < n*b <-> (rd t b).1 < n*(rd t b).2)/\(n*b < t <-> n*(rd t b).2 < (rd t b).1):=fun n=>by
  have e3:n*b=n*(rd t b).2*gc t b:=by rw [Int.mul_assoc,e2]
  constructor
  . constructor
    . intro h
      have h':(rd t b).1*gc t b < n*(rd t b).2*gc t b:=by rw [e1,<- e3];exact h
      exact Int.lt_of_mul_lt_mul_right h' (Int.le_of_lt hg)
    . intro h
      have:=Int.mul_lt_mul_of_pos_right h hg
      rw [e1,<- e3] at this
      exact this
  . constructor
    . intro h
      have h':n*(rd t b).2*gc t b < (rd t b).1*gc t b:=by rw [e1,<- e3];exact h
      exact Int.lt_of_mul_lt_mul_right h' (Int.le_of_lt hg)
    . intro h
      have:=Int.mul_lt_mul_of_pos_right h hg
      rw [e1,<- e3] at this
      exact this
 rcases c with _ | ⟨n,s⟩
 . rfl
 . cases s with
   | true =>
    show decide (t*1 < n*b)=decide ((rd t b).1*1 < n*(rd t b).2)
    rw [Int.mul_one,Int.mul_one]
    exact decide_eq_decide.mpr (key n).1
   | false =>
    show (!decide (n*b < t*1)) = !decide (n*(rd t b).2 < (rd t b).1*1)
    rw [Int.mul_one,Int.mul_one,decide_eq_decide.mpr (key n).2]
theorem yc {p q:Int×Int} (hp:0 < p.2) (hq:0 < q.2) (c:Bn):kp (dl p q) c=kp (mi p q) c:=AN (Int.mul_pos hp hq) c
theorem AX {k:Nat} {p q:Int×Int} (hp:Fr k p) (hq:Fr k q) (h:k+k+1<=4000):Fk (dl p q):=⟨Int.mul_pos hp.pos hq.pos,((hp.s1.mul hq.s2).sub (hq.s1.mul hp.s2)).mono h,(hp.s2.mul hq.s2).mono (by omega)⟩
abbrev eZ:=iE
abbrev bj:=oK
theorem AO (a n b:Int) (s:Bool):(decide (a < n*b) || (a == n*b && !s))=kp (a,b) (some (n,s)):=by
 cases s with
 | true =>
  show _=decide (a*1 < n*b)
  rw [Int.mul_one,Bool.not_true,Bool.and_false,Bool.or_false]
 | false =>
  show _ = !decide (n*b < a*1)
  rw [Int.mul_one,Bool.not_false,Bool.and_true,Bool.eq_iff_iff,Bool.or_eq_true,Bool.not_eq_true',decide_eq_true_iff,decide_eq_false_iff_not,beq_iff_eq]
  omega
theorem oQ {f:FM} {δ:DS} {d:D} (h:f δ=some (d,δ)):cw f δ=some (.rt d):=cr h
theorem cQ {i:Nat} {f:FM} {δ:DS} {d:D} (h:f δ=some (d,δ)):av i f δ=some (.nx (δ.set i (some d))):=aV h
def bT (ds:List D) (d:D):Prop:=∃ a b:Bn,ds=[bdD a,bdD b]/\d=bdD (bs a b)
theorem gS {a b:Bn}:fn bT [bdD a,bdD b]=some (bdD (bs a b)):=cq (fun d' h'=>by
 obtain ⟨a',b',h2,rfl⟩:=h'
 injection h2 with h3 h4
 injection h4 with h4 _
 rw [gT h3,gT h4]) ⟨a,b,rfl,rfl⟩
abbrev bY:=bT
def ql (n:Nat) (f:Nat->Bn):List Bn:=(List.range n).map f
def aB (n:Nat) (f:Nat->Nat->Bn):List (List Bn):=(List.range n).map fun i=>ql n (f i)
theorem be (n:Nat) (f:Nat->Nat->Bn):Sq (aB n f) n:=⟨by unfold aB;rw [Zi,List.length_range],fun r m=>by
 unfold aB at m
 obtain ⟨i,_,rfl⟩:=List.mem_map.mp m
 unfold ql
 rw [Zi,List.length_range]⟩
theorem bi {α:Type} {n i:Nat} (g:Nat->α) (h:i < n):((List.range n).map g)[i]? = some (g i):=by rw [List.getElem?_map,List.getElem?_range h];rfl
theorem fQ {T:List (List Bn)} {i j:Nat} {r:List Bn} (h:T[i]? = some r):ao T i j=r.getD j none:=by
 unfold ao
 have e:T.getD i []=r:=by rw [Zp,h];rfl
 rw [e]
theorem tz {α:Type} {xs:List α} {i:Nat} {d v:α} (h:xs[i]? = some v):xs.getD i d=v:=by rw [Zp,h];rfl
theorem br {n i j:Nat} (f:Nat->Nat->Bn) (hi:i < n) (hj:j < n):ao (aB n f) i j=f i j:=by
 rw [fQ (show (aB n f)[i]? = some (ql n (f i)) from bi _ hi)]
 exact tz (bi (f i) hj)
theorem lZ {n:Nat} {T U:List (List Bn)} (h:Sq T n) (g:Sq U n) (e:∀ i j,i < n->j < n->ao T i j=ao U i j):T=U:=by
 refine List.ext_getElem? fun i=>?_
 by_cases hi:i < n
 . obtain ⟨r,a1,a2,a3⟩:=fO h hi
   obtain ⟨s,b1,b2,b3⟩:=fO g hi
   rw [a1,b1]
   congr 1
   refine List.ext_getElem? fun j=>?_
   by_cases hj:j < n
   . have:=e i j hi hj
     unfold ao at this
     rw [a2,b2,Zp,Zp,Zq (by omega),Zq (by omega)] at this
     rw [Zq (by omega),Zq (by omega)]
     exact congrArg some this
   . rw [List.getElem?_eq_none (by omega),List.getElem?_eq_none (by omega)]
 . rw [List.getElem?_eq_none (by rw [h.len];omega),List.getElem?_eq_none (by rw [g.len];omega)]
theorem oP {n:Nat} {T:List (List Bn)} (h:Sq T n):aB n (ao T)=T:=lZ (be _ _) h fun i j hi hj=>br _ hi hj
theorem bc {n:Nat} {f g:Nat->Nat->Bn} (e:∀ i j,i < n->j < n->f i j=g i j):aB n f=aB n g:=lZ (be _ _) (be _ _) fun i j hi hj=>by rw [br _ hi hj,br _ hi hj,e i j hi hj]
def up2 {α:Type} (f:Nat->Nat->α) (i j:Nat) (b:α):Nat->Nat->α:=fun x y=>if x=i/\y=j then b else f x y
theorem oi {T:List (List Bn)} {n i j x y:Nat} {b:Bn} (h:Sq T n) (hi:i < n) (hj:j < n) (hx:x < n) (hy:y < n):ao (jt T i j b) x y=if x=i/\y=j then b else ao T x y:=by
 obtain ⟨r,a1,a2,a3⟩:=fO h hi
 obtain ⟨s,b1,b2,b3⟩:=fO h hx
 unfold jt
 rw [a2]
 by_cases e:x=i
 . subst e
   rw [fQ (r:=r.set j b) (List.getElem?_set_self (by rw [h.len];exact hi)),fQ a1]
   by_cases e2:y=j
   . subst e2
     rw [if_pos ⟨rfl,rfl⟩]
     exact tz (List.getElem?_set_self (by omega))
   . rw [if_neg (fun z=>e2 z.2),Zp,List.getElem?_set_ne (Ne.symm e2),<- Zp]
 . rw [if_neg (fun z=>e z.1),fQ b1,fQ (r:=s) (by rw [List.getElem?_set_ne (Ne.symm e)];exact b1)]
theorem jj {n i j:Nat} (f:Nat->Nat->Bn) (b:Bn) (hi:i < n) (hj:j < n):jt (aB n f) i j b=aB n (up2 f i j b):=lZ (oW (be n f) hi) (be _ _) fun x y hx hy=>by
 rw [oi (be n f) hi hj hx hy,br _ hx hy,br _ hx hy]
 rfl
def aX {α:Type} (bad:List α->α->Option D):List α->List α->Option D
 | _,[]=>none
 | pre,x :: post=>match bad pre x with
  | some d=>some d
  | none=>aX bad (pre++[x]) post
theorem mq {α:Type} {i:Nat} {s:SD} {f:α->D} (P:List α->DS->Prop) (bad:List α->α->Option D) (all:List α)
 (step:∀ (pre:List α) (x:α) (post:List α) (δ:DS),all=pre++x :: post->P pre δ->(bad pre x=none->∃ δ2,s (δ.set i (some (sh (f x))))=some (.nx δ2)/\P (pre++[x]) δ2)/\∀ d,bad pre x=some d->s (δ.set i (some (sh (f x))))=some (.rt d)) :
 ∀ (xs pre:List α) (δ:DS),all=pre++xs->P pre δ->(aX bad pre xs=none->∃ δ',Dl.forM i s (xs.map f) δ=some (.nx δ')/\P all δ')/\∀ d,aX bad pre xs=some d->Dl.forM i s (xs.map f) δ=some (.rt d)
 | [],pre,δ,e,p=>⟨fun _=>⟨δ,rfl,by rw [e,List.append_nil];exact p⟩,fun d h=>by cases h⟩
 | x :: xs,pre,δ,e,p=>by
  obtain ⟨h1,h2⟩:=step pre x xs δ e p
  cases q:bad pre x with
  | some d0 =>
   have ef:aX bad pre (x :: xs)=some d0:=by show (match bad pre x with | some d=>some d | none=>_)=_;rw [q]
   rw [ef]
   refine ⟨(fun z=>by cases z),fun d z=>?_⟩
   cases z
   simp only [List.map_cons,Dl.forM,h2 d0 q,Zc]
  | none =>
   have ef:aX bad pre (x :: xs)=aX bad (pre++[x]) xs:=by show (match bad pre x with | some d=>some d | none=>_)=_;rw [q]
   rw [ef]
   obtain ⟨δ2,h3,h4⟩:=h1 q
   obtain ⟨g1,g2⟩:=mq P bad all step xs (pre++[x]) δ2 (by rw [e,List.append_assoc];rfl) h4
   refine ⟨fun z=>?_,fun d z=>?_⟩
   . obtain ⟨δ',a,b⟩:=g1 z
     refine ⟨δ',?_,b⟩
     simp only [List.map_cons,Dl.forM,h3,Zc,a]
   . simp only [List.map_cons,Dl.forM,h3,Zc,g2 d z]
theorem c8 {α:Type} {bad:List α->α->Option D}:∀ {xs pre:List α},aX bad pre xs=none->∀ a x b,xs=a++x :: b->bad (pre++a) x=none
 | [],pre,_,a,x,b,e=>by simp at e
 | y :: xs,pre,h,a,x,b,e=>by
  have h':(match bad pre y with | some d=>some d | none=>aX bad (pre++[y]) xs)=none:=h
  cases q:bad pre y with
  | some d=>rw [q] at h';cases h'
  | none =>
   rw [q] at h'
   cases a with
   | nil=>cases e;rw [List.append_nil];exact q
   | cons z a =>
    cases e
    have:=c8 h' a x b rfl
    rw [List.append_assoc] at this
    exact this
theorem bE {α:Type} {bad:List α->α->Option D}:∀ {xs pre:List α} {d:D},aX bad pre xs=some d->∃ a x b,xs=a++x :: b/\bad (pre++a) x=some d/\∀ a' y b',a=a'++y :: b'->bad (pre++a') y=none
 | [],pre,d,h=>by cases h
 | y :: xs,pre,d,h=>by
  have h':(match bad pre y with | some d=>some d | none=>aX bad (pre++[y]) xs)=some d:=h
  cases q:bad pre y with
  | some d0 =>
   rw [q] at h'
   cases h'
   exact ⟨[],y,xs,rfl,by rw [List.append_nil];exact q,fun a' z b' e=>by simp at e⟩
  | none =>
   rw [q] at h'
   obtain ⟨a,x,b,e1,e2,e3⟩:=bE h'
   refine ⟨y :: a,x,b,by rw [e1];rfl,by rw [List.append_assoc] at e2;exact e2,fun a' z b' e=>?_⟩
   cases a' with
   | nil=>cases e;rw [List.append_nil];exact q
   | cons w a' =>
    cases e
    have:=e3 a' z b' rfl
    rw [List.append_assoc] at this
    exact this
def aP (l:List Nat):List D:=l.map fun (k:Nat)=>D.int (k:Int)
theorem hW (l:List Nat):shs (aP l)=aP l:=jf (imms_mem.mpr fun d m=>by obtain ⟨k,_,rfl⟩:=List.mem_map.mp m;rfl)
theorem ni (l:List Nat):d7 (aP l)=true:=imms_mem.mpr fun d m=>by obtain ⟨k,_,rfl⟩:=List.mem_map.mp m;rfl
theorem gp:∀ {ds:List D},(∀ d∈ds,own d=true)->g7 ds=true
 | [],_=>rfl
 | d :: ds,h=>by rw [g7,h d Zk,gp fun e m=>h e (Zl _ m)];rfl
theorem jT (l:List Nat):g7 (aP l)=true:=gp fun d m=>by obtain ⟨k,_,rfl⟩:=List.mem_map.mp m;rfl
def fY (n:Nat) (p:Nat->List Nat):List D:=(List.range n).map fun j=>D.lst (aP (p j))
def lm (n:Nat) (p:Nat->List Nat):List D:=(List.range n).map fun j=>D.seq (aP (p j))
def aY (n:Nat) (p:Nat->Nat->List Nat):List D:=(List.range n).map fun i=>D.lst (fY n (p i))
def fM (n:Nat) (p:Nat->Nat->List Nat):List D:=(List.range n).map fun i=>D.seq (lm n (p i))
theorem uP (n:Nat) (p:Nat->List Nat):shs (fY n p)=lm n p:=by
 rw [dL]
 unfold fY lm
 rw [List.map_map]
 refine List.map_congr_left fun j _=>?_
 show sh (.lst (aP (p j)))=_
 rw [sh,hW]
theorem mI (n:Nat) (p:Nat->Nat->List Nat):shs (aY n p)=fM n p:=by
 rw [dL]
 unfold aY fM
 rw [List.map_map]
 refine List.map_congr_left fun i _=>?_
 show sh (.lst (fY n (p i)))=_
 rw [sh,uP]
theorem mY (n:Nat) (p:Nat->Nat->List Nat):own (.lst (aY n p))=true:=by
 rw [own]
 refine gp fun d m=>?_
 obtain ⟨i,_,rfl⟩:=List.mem_map.mp m
 show own (.lst (fY n (p i)))=true
 rw [own]
 refine gp fun d m=>?_
 obtain ⟨j,_,rfl⟩:=List.mem_map.mp m
 show own (.lst (aP (p i j)))=true
 rw [own]
 exact jT _
theorem qG {n i j:Nat} (p:Nat->Nat->List Nat) (hi:i < n) (hj:j < n):gIx (.lst (aY n p)) (.int (i:Int))=some (.lst (fY n (p i)))/\gIx (.lst (fY n (p i))) (.int (j:Int))=some (.lst (aP (p i j))):=⟨fF (bi _ hi),fF (bi _ hj)⟩
theorem qF {n i j:Nat} (p:Nat->Nat->List Nat) (hi:i < n) (hj:j < n):gIx (.seq (fM n p)) (.int (i:Int))=some (.seq (lm n (p i)))/\gIx (.seq (lm n (p i))) (.int (j:Int))=some (.seq (aP (p i j))):=⟨fF (bi _ hi),fF (bi _ hj)⟩
theorem jA {α:Type} {n i:Nat} (g:Nat->α) (v:α) (hi:i < n):((List.range n).map g).set i v=(List.range n).map fun x=>if x=i then v else g x:=by
 refine List.ext_getElem? fun k=>?_
 by_cases hk:k < n
 . rw [bi _ hk]
   by_cases e:k=i
   . subst e
     rw [List.getElem?_set_self (by rw [Zi,List.length_range];exact hk),if_pos rfl]
   . rw [List.getElem?_set_ne (Ne.symm e),bi _ hk,if_neg e]
 . rw [List.getElem?_eq_none (by rw [List.length_set,Zi,List.length_range];omega),List.getElem?_eq_none (by rw [Zi,List.length_range];omega)]
theorem uS {n i j:Nat} (p:Nat->Nat->List Nat) (l:List Nat) (hi:i < n) (hj:j < n):(aY n p).set i (.lst ((fY n (p i)).set j (.lst (aP l))))=aY n (up2 p i j l):=by
 unfold aY
 rw [jA _ _ hi]
 refine List.map_congr_left fun x _=>?_
 by_cases e:x=i
 . subst e
   rw [if_pos rfl]
   unfold fY
   rw [jA _ _ hj]
   congr 1
   refine List.map_congr_left fun y _=>?_
   unfold up2
   by_cases e2:y=j
   . rw [if_pos e2,if_pos ⟨rfl,e2⟩]
   . rw [if_neg e2,if_neg fun z=>e2 z.2]
 . rw [if_neg e]
   congr 1
   unfold fY
   refine List.map_congr_left fun y _=>?_
   unfold up2
   rw [if_neg fun z=>e z.1]
theorem ff {n:Nat} {p q:Nat->Nat->List Nat} (e:∀ i j,i < n->j < n->p i j=q i j):aY n p=aY n q:=by
 unfold aY fY
 refine List.map_congr_left fun i hi=>?_
 congr 1
 refine List.map_congr_left fun j hj=>?_
 rw [e i j (Zm.mp hi) (Zm.mp hj)]
theorem sI {δ δ':DS} {p:Nat} {fk fl:FD} {fm:FM} {v:D} {Rs row:List D} {i j:Nat} (h0:fm δ=some (v,δ')) (h1:δ'[p]? = some (some (.lst Rs))) (h2:fk δ'=some (.int (i:Int))) (h3:Rs[i]? = some (.lst row)) (h4:fl δ'=some (.int (j:Int))) (h5:j < row.length) :
 gA p fk fl fm δ=some (.nx (δ'.set p (some (.lst (Rs.set i (.lst (row.set j v))))))):=by
 unfold gA
 simp only [h0,Zc,h1,h2,jW (List.getElem?_eq_some_iff.mp h3).1,h3,h4,jW h5]
def cz (T:List (List Bn)):Nat->Nat->Bn:=fun i j=>if i=j then b0 else ao T i j
def gG (ds:List D) (d:D):Prop:=∃ (d0:D) (T:List (List Bn)) (n:Nat),IsT d0 T/\Sq T n/\n<=41/\ds=[d0]/\d=ak (aB n (cz T))
theorem nu {d0:D} {T:List (List Bn)} {n:Nat} (h:IsT d0 T) (hs:Sq T n) (hn:n<=41):fn gG [d0]=some (ak (aB n (cz T))):=cq (fun d' h'=>by
 obtain ⟨d1,U,m,g,gs,_,h2,rfl⟩:=h'
 cases h2
 have:=h.inj g
 subst this
 rw [<- hs.len,<- gs.len]) ⟨d0,T,n,h,hs,hn,rfl,rfl⟩
def fX (ds:List D) (d:D):Prop:=∃ n:Nat,n<=41/\ds=[.int (n:Int)]/\d=.lst (aY n fun i _=>[i])
theorem lS {n:Nat} (hn:n<=41):fn fX [.int (n:Int)]=some (.lst (aY n fun i _=>[i])):=cq (fun d' h'=>by
 obtain ⟨m,_,h2,rfl⟩:=h'
 injection h2 with h2 _
 injection h2 with h2
 have:m=n:=by omega
 subst this
 rfl) ⟨n,hn,rfl,rfl⟩
def lW (f:Nat->Nat->Bn) (p:Nat->Nat->List Nat) (m:Nat):List Nat->Nat->Option D:=fun _ t=>if kp (0,1) (bs (f t m) (f m t))=true then none else some (.lst (aP (p t m++p m t)))
def rgt (n:Nat) (f:Nat->Nat->Bn) (p:Nat->Nat->List Nat) (m:Nat):D:=(aX (lW f p m) [] (List.range n)).getD .non
theorem n8 {n:Nat} {p q:Nat->Nat->List Nat} (h:fM n p=fM n q):∀ i j,i < n->j < n->p i j=q i j:=fun i j hi hj=>by
 have h1:(fM n p)[i]? = (fM n q)[i]?:=by rw [h]
 unfold fM at h1
 rw [bi _ hi,bi _ hi] at h1
 injection h1 with h1
 injection h1 with h1
 have h2:(lm n (p i))[j]? = (lm n (q i))[j]?:=by rw [h1]
 unfold lm at h2
 rw [bi _ hj,bi _ hj] at h2
 injection h2 with h2
 injection h2 with h2
 have key:∀ (a b:List Nat),aP a=aP b->a=b:=by
  intro a
  induction a with
  | nil=>intro b e;cases b with | nil=>rfl | cons y b=>cases e
  | cons x a ih =>
   intro b e
   cases b with
   | nil=>cases e
   | cons y b =>
    have e':D.int (x:Int) :: aP a=D.int (y:Int) :: aP b:=e
    injection e' with e1 e2
    injection e1 with e1
    rw [ih b e2]
    congr 1
    omega
 exact key _ _ h2
structure wm (n:Nat) (f:Nat->Nat->Bn) (p:Nat->Nat->List Nat) (m:Nat):Prop where
 n41:n<=41
 mn:m < n
 bk:∀ i j,i < n->j < n->Bk 3000 (f i j)
 ln:∀ i j,i < n->j < n->(p i j).length<=400
def eX (ds:List D) (d:D):Prop:=∃ (d0 d1:D) (n m:Nat) (f:Nat->Nat->Bn) (p:Nat->Nat->List Nat),wm n f p m/\IsT d0 (aB n f)/\sh d1=.seq (fM n p)/\ds=[d0,d1,.int (m:Int)]/\d=rgt n f p m
theorem i8 {α:Type} {bad bad':List α->α->Option D}:∀ {xs pre:List α},(∀ a x b,xs=a++x :: b->bad (pre++a) x=bad' (pre++a) x)->aX bad pre xs=aX bad' pre xs
 | [],_,_=>rfl
 | x :: xs,pre,h=>by
  have h0:=h [] x xs rfl
  rw [List.append_nil] at h0
  show (match bad pre x with | some d=>some d | none=>aX bad (pre++[x]) xs)=(match bad' pre x with | some d=>some d | none=>aX bad' (pre++[x]) xs)
  rw [h0]
  cases bad' pre x with
  | some d=>rfl
  | none =>
   refine i8 fun a y b e=>?_
   have:=h (x :: a) y b (by rw [e];rfl)
   rw [List.append_assoc]
   exact this
theorem t9 {n m:Nat} {f g:Nat->Nat->Bn} {p q:Nat->Nat->List Nat} (hm:m < n) (e:∀ i j,i < n->j < n->f i j=g i j) (e2:∀ i j,i < n->j < n->p i j=q i j):rgt n f p m=rgt n g q m:=by
 unfold rgt
 congr 1
 refine i8 fun a x b h=>?_
 have hx:x < n:=by
  have:=(bg h)
  omega
 unfold lW
 rw [e x m hx hm,e m x hm hx,e2 x m hx hm,e2 m x hm hx]
theorem qc {n:Nat} {f g:Nat->Nat->Bn} (h:aB n f=aB n g):∀ i j,i < n->j < n->f i j=g i j:=fun i j hi hj=>by rw [<- br f hi hj,h,br g hi hj]
theorem ny {d0 d1:D} {n m:Nat} {f:Nat->Nat->Bn} {p:Nat->Nat->List Nat} (ok:wm n f p m) (h0:IsT d0 (aB n f)) (h1:sh d1=.seq (fM n p)):fn eX [d0,d1,.int (m:Int)]=some (rgt n f p m):=cq (fun d' h'=>by
 obtain ⟨e0,e1,n',m',g,q,ok',g0,g1,h2,rfl⟩:=h'
 injection h2 with a b
 injection b with b c
 injection c with c _
 injection c with c
 subst a b
 have em:m'=m:=by omega
 subst em
 have et:=h0.inj g0
 have en:n'=n:=by rw [<- (be n f).len,et,(be n' g).len]
 subst en
 rw [h1] at g1
 injection g1 with g1
 exact (t9 ok.mn (qc et) (n8 g1)).symm) ⟨d0,d1,n,m,f,p,ok,h0,h1,rfl,rfl⟩
def ldF (f:Nat->Nat->Bn) (m:Nat):Nat->Nat->Bn:=fun i j=>if tgt (bs (f i m) (f m j)) (f i j)=true then bs (f i m) (f m j) else f i j
def ldP (f:Nat->Nat->Bn) (p:Nat->Nat->List Nat) (m:Nat):Nat->Nat->List Nat:=fun i j=>if tgt (bs (f i m) (f m j)) (f i j)=true then p i m++p m j else p i j
theorem sX (n:Nat) (f:Nat->Nat->Bn) (p:Nat->Nat->List Nat) (m:Nat):own (rgt n f p m)=true:=by
 unfold rgt
 cases hb:aX (lW f p m) [] (List.range n) with
 | none=>rfl
 | some d =>
  obtain ⟨a,x,b,_,h,_⟩:=bE hb
  unfold lW at h
  split at h
  . cases h
  . cases h
    show own (.lst _)=true
    rw [own]
    exact jT _
theorem iB {T:List (List Bn)} {n:Nat} (hs:Sq T n):bP [aw T]=some (.int (n:Int)):=by
 show some (D.int ((ci T).length:Int))=_
 unfold ci
 rw [Zi,hs.len]
theorem pz {T:List (List Bn)} {n:Nat} (hs:Sq T n):bP [ak T]=some (.int (n:Int)):=by
 show some (D.int ((aZ T).length:Int))=_
 rw [c6,hs.len]
def eY (ds:List D) (d:D×D):Prop:=∃ (n m:Nat) (f:Nat->Nat->Bn) (p:Nat->Nat->List Nat),wm n f p m/\f m m=b0/\ds=[ak (aB n f),.lst (aY n p),.int (m:Int)]/\d=(ak (aB n (ldF f m)),.lst (aY n (ldP f p m)))
theorem vD {T U:List (List Bn)} (h:ak T=ak U):T=U:=qd (by rw [<- io,<- io,h])
theorem t4 {n:Nat} {p q:Nat->Nat->List Nat} (h:aY n p=aY n q):∀ i j,i < n->j < n->p i j=q i j:=n8 (by rw [<- mI,<- mI,h])
theorem nz {n m:Nat} {f:Nat->Nat->Bn} {p:Nat->Nat->List Nat} (ok:wm n f p m) (h0:f m m=b0):fnM eY [ak (aB n f),.lst (aY n p),.int (m:Int)]=some (ak (aB n (ldF f m)),.lst (aY n (ldP f p m))):=zE (fun d' h'=>by
 obtain ⟨n',m',g,q,ok',g0,h2,rfl⟩:=h'
 injection h2 with a b
 injection b with b c
 injection c with c _
 injection c with c
 have em:m'=m:=by omega
 subst em
 have et:=vD a
 have en:n'=n:=by rw [<- (be n f).len,et,(be n' g).len]
 subst en
 injection b with b
 have e1:=qc et
 have e2:=t4 b
 have hm:=ok.mn
 have t1:aB n' (ldF g m')=aB n' (ldF f m'):=bc fun i j hi hj=>by unfold ldF;rw [e1 i m' hi hm,e1 m' j hm hj,e1 i j hi hj]
 have t2:aY n' (ldP g q m')=aY n' (ldP f p m'):=ff fun i j hi hj=>by unfold ldP;rw [e1 i m' hi hm,e1 m' j hm hj,e1 i j hi hj,e2 i m' hi hm,e2 m' j hm hj,e2 i j hi hj]
 rw [t1,t2]) ⟨n,m,f,p,ok,h0,rfl,rfl⟩
def pw (c:Nat->Nat->Bn):Nat->Nat->Nat->List Nat
 | 0=>fun i _=>[i]
 | m+1=>ldP (dm c m) (pw c m) m
def lh (n:Nat) (c:Nat->Nat->Bn):List Nat->Nat->Option D:=fun _ m=>match rgt n (dm c m) (pw c m) m with
 | .non=>none
 | d=>some (.tup [.str "ring",d])
def lX (T:List (List Bn)):List Nat->Nat->Option D:=fun _ t=>if kp (0,1) (ao T t t)=true then none else some (.tup [.str "ring",.lst [.int (t:Int)]])
def cM (n:Nat) (T:List (List Bn)):D:=match aX (lX T) [] (List.range n) with
 | some d=>d
 | none=>match aX (lh n (cz T)) [] (List.range n) with
  | some d=>d
  | none=>.tup [.str "table",ak (aB n (dm (cz T) n))]
theorem oZ {n m:Nat} {f:Nat->Nat->Bn} {p:Nat->Nat->List Nat} (h:rgt n f p m=.non):∀ t,t < n->Nn (bs (f t m) (f m t)):=fun t ht=>by
 unfold rgt at h
 cases hb:aX (lW f p m) [] (List.range n) with
 | none =>
  obtain ⟨a,b,e⟩:=List.append_of_mem (Zm.mpr ht)
  have:=c8 hb a t b e
  unfold lW at this
  split at this
  . rename_i q;exact nn_kp.mp q
  . cases this
 | some d =>
  rw [hb] at h
  obtain ⟨a,x,b,_,h2,_⟩:=bE hb
  unfold lW at h2
  split at h2
  . cases h2
  . cases h2
    cases h
theorem jM {n m:Nat} (f:Nat->Nat->Bn) (p:Nat->Nat->List Nat):rgt n f p m=.non \/ ∃ t,t < n/\rgt n f p m=.lst (aP (p t m++p m t))/\¬ Nn (bs (f t m) (f m t)):=by
 unfold rgt
 cases hb:aX (lW f p m) [] (List.range n) with
 | none=>exact .inl rfl
 | some d =>
  obtain ⟨a,x,b,e,h2,_⟩:=bE hb
  have hx:x < n:=by have:=bg e;omega
  unfold lW at h2
  split at h2
  . cases h2
  . rename_i q
    cases h2
    exact .inr ⟨x,hx,rfl,fun z=>q (nn_kp.mpr z)⟩
theorem tS {c:Nat->Nat->Bn} (h:∀ i j,Bk 2000 (c i j)):∀ (m i j:Nat),Bk (2000+m) (dm c m i j)
 | 0,i,j=>h i j
 | m+1,i,j=>by
  rcases lG (c:=c) m i j with e | e
  . rw [e];exact (tS h m i j).mono (by omega)
  . rw [e];exact (tS h m i m).sum (tS h m m j)
structure St (n:Nat) (c:Nat->Nat->Bn) (m:Nat):Prop where
 fw:Fw c n m
 wy:∀ i j,i < n->j < n->Way c n m i j (pw c m i j)
 dg:∀ i,i < n->pw c m i i=[i]
theorem sw {n:Nat} {c:Nat->Nat->Bn} (h:∀ i,i < n->c i i=b0):St n c 0:=⟨tK h,fun i j _ _=>uE i j,fun _ _=>rfl⟩
theorem sx {n m:Nat} {c:Nat->Nat->Bn} (s:St n c m) (hm:m < n) (ok:∀ i,i < n->Nn (bs (dm c m i m) (dm c m m i))):St n c (m+1):=by
 refine ⟨tL s.fw hm ok,fun i j hi hj=>?_,fun i hi=>?_⟩
 . show Way c n (m+1) i j (ldP (dm c m) (pw c m) m i j)
   unfold ldP
   cases q:tgt (bs (dm c m i m) (dm c m m j)) (dm c m i j) with
   | true=>rw [if_pos rfl];exact ww s.fw hm hi hj (s.wy i m hi hm) (s.wy m j hm hj) (ok i hi) q
   | false =>
    rw [if_neg (by decide)]
    exact uF (s.wy i j hi hj) (if_neg (by rw [q];decide))
 . show ldP (dm c m) (pw c m) m i i=_
   unfold ldP
   have:=ok i hi
   unfold Nn Le at this
   rw [s.fw.dia i hi,this,if_neg (by decide)]
   exact s.dg i hi
theorem St.len {n m:Nat} {c:Nat->Nat->Bn} (s:St n c m) (hm:m<=n) (i j:Nat) (hi:i < n) (hj:j < n):(pw c m i j).length<=n:=by
 by_cases h:i=j
 . subst h
   rw [s.dg i hi]
   show 1<=n
   omega
 . have nd:=List.nodup_append.mp ((s.wy i j hi hj).nd h)
   exact gx n _ nd.1 ((s.wy i j hi hj).lt hi hm)
theorem St.rt {n m:Nat} {c:Nat->Nat->Bn} (s:St n c m) (hb:∀ i j,Bk 2000 (c i j)) (hn:n<=41) (hm:m < n):wm n (dm c m) (pw c m) m :=
 ⟨hn,hm,fun i j _ _=>(tS hb m i j).mono (by omega),fun i j hi hj=>Nat.le_trans (s.len (by omega) i j hi hj) (by omega)⟩
theorem AY {T:List (List Bn)} (h:∀ i j,Bk 2000 (ao T i j)) (i j:Nat):Bk 2000 (cz T i j):=by
 unfold cz
 split
 . show Sm 2000 0
   exact Sm.mono (k:=1) (show (0:Int).natAbs < 2 ^ 1 by decide) (by decide)
 . exact h i j
theorem gR (n:Nat) (T:List (List Bn)):own (cM n T)=true:=by
 unfold cM
 cases h1:aX (lX T) [] (List.range n) with
 | some d =>
  obtain ⟨a,x,b,_,h2,_⟩:=bE h1
  unfold lX at h2
  split at h2
  . cases h2
  . cases h2;rfl
 | none =>
  dsimp only
  cases h3:aX (lh n (cz T)) [] (List.range n) with
  | some d =>
   obtain ⟨a,x,b,_,h2,_⟩:=bE h3
   unfold lh at h2
   rcases jM (n:=n) (m:=x) (dm (cz T) x) (pw (cz T) x) with e | ⟨t,_,e,_⟩
   . rw [e] at h2;cases h2
   . rw [e] at h2
     cases h2
     show (true && (own (.lst _) && true))=true
     rw [own,jT]
     rfl
  | none =>
   show (true && (own (ak _) && true))=true
   rw [bR]
   rfl
theorem uO {δ:DS} {i j:Nat} {G:List D->Option (D×D)} {g:FA} {xs ys es:List D} {d0 d1:D} (h1:δ[i]? = some (some (.lst xs))) (h2:δ[j]? = some (some (.lst ys))) (h3:g δ=some es) (h4:G (.lst xs :: .lst ys :: es)=some (d0,d1)) (h5:d7 es=true) (h6:own d0=true) (h7:own d1=true) (h8:i ≠ j):mL i j G g δ=some (.nx ((δ.set i (some d0)).set j (some d1))):=by
 unfold mL
 simp only [h1,h2,h3,h4,Zc,h5,h6,h7,ne_eq,h8,not_false_eq_true,and_self,if_true]
def nN (ds:List D) (d:D):Prop:=∃ (d0:D) (T:List (List Bn)) (n:Nat),IsT d0 T/\Sq T n/\n<=41/\(∀ i j,Bk 2000 (ao T i j))/\ds=[d0]/\d=cM n T
theorem wb {d0:D} {T:List (List Bn)} {n:Nat} (h:IsT d0 T) (hs:Sq T n) (hn:n<=41) (hb:∀ i j,Bk 2000 (ao T i j)):fn nN [d0]=some (cM n T):=cq (fun d' h'=>by
 obtain ⟨d1,U,m,g,gs,_,_,h2,rfl⟩:=h'
 cases h2
 have:=h.inj g
 subst this
 rw [<- hs.len,<- gs.len]) ⟨d0,T,n,h,hs,hn,hb,rfl,rfl⟩
theorem jb:∀ (bs:List Bool),gt (bs.map D.bl)=some bs
 | []=>rfl
 | b :: bs=>by show ((gt (bs.map D.bl)).bind fun bs=>some (b :: bs))=_;rw [jb bs];rfl
theorem vX (bs:List Bool):zB [.lst (bs.map D.bl)]=some (.bl (bs.any id)):=by
 show ((gt (bs.map D.bl)).bind fun bs=>some (D.bl (bs.any id)))=_
 rw [jb]
 rfl
theorem qL (bs:List Bool):pG [.lst (bs.map D.bl)]=some (.bl (bs.all id)):=by
 show ((gt (bs.map D.bl)).bind fun bs=>some (D.bl (bs.all id)))=_
 rw [jb]
 rfl
theorem jr {α:Type} {src:FA} {js:List Nat} {elt:FD} {δ:DS} {xs:List α} {f g:α->D} (hs:src δ=some (xs.map f)) (h:∀ x∈xs,elt (some (f x) :: bF js δ)=some (g x)) (hl:xs.length<=1000):kB src js elt δ=some (.lst (xs.map g)):=by
 unfold kB
 rw [hs]
 show ((lQ _ (xs.map f)).bind _)=_
 rw [ko h]
 exact if_pos (by rw [Zi];exact hl)
theorem xM {f:FD} {δ:DS} {d:D} {b:Bool} (h:f δ=some d) (k:pG [d]=some (.bl b)):cC (fT (ah pG (aa f af))) δ=some (!b):=by
 unfold cC fT ah aa
 rw [h]
 show (((pG [d]).bind asB).map not)=_
 rw [k]
 rfl
theorem AE (x:Bn):gq (bdD x) (.tup [.int 0,.bl false])=some (.bl (decide (x ≠ b0))):=by
 rcases x with _ | ⟨k,s⟩
 . rfl
 . show some (D.bl (!((k == 0) && ((s == false) && true))))=_
   congr 2
   by_cases h:k=0
   . subst h
     cases s <;> rfl
   . have h1:(k == 0)=false:=by simp [h]
     rw [h1]
     symm
     simp [h]
def cl0 (T:List (List Bn)):Nat->Nat->Bn:=fun i j=>if i=j/\tgt (ao T i i) b0=false then b0 else ao T i j
def kq (n:Nat) (T:List (List Bn)):D:=if ((List.range n).any fun i=>decide (sqs n (cl0 T) 4 i i ≠ b0))=true then .non else ak (aB n (sqs n (cl0 T) 4))
theorem qw (n:Nat) (T:List (List Bn)):own (kq n T)=true:=by
 unfold kq
 split
 . rfl
 . exact bR _
def fL (ds:List D) (d:D):Prop:=∃ (d0:D) (T:List (List Bn)) (n:Nat),IsT d0 T/\Sq T n/\n<=41/\ds=[d0]/\d=kq n T
theorem n5 {d0:D} {T:List (List Bn)} {n:Nat} (h:IsT d0 T) (hs:Sq T n) (hn:n<=41):fn fL [d0]=some (kq n T):=cq (fun d' h'=>by
 obtain ⟨d1,U,m,g,gs,_,h2,rfl⟩:=h'
 cases h2
 have:=h.inj g
 subst this
 rw [<- hs.len,<- gs.len]) ⟨d0,T,n,h,hs,hn,rfl,rfl⟩
def lgr (n:Nat) (f:Nat->Nat->Bn) (i j m:Nat):Nat->Nat->Bn:=fun x y=>if x < i \/ (x=i/\y < j) then sq n f x y else if x=i/\y=j then sqf f i j (List.range m) (f i j) else f x y
theorem zo (n:Nat) (f:Nat->Nat->Bn) (i j m:Nat):lgr n f i j m i j=sqf f i j (List.range m) (f i j):=by
 unfold lgr
 rw [if_neg (by omega),if_pos ⟨rfl,rfl⟩]
theorem qf (f:Nat->Nat->Bn) (i j m:Nat) (x:Bn):sqf f i j (List.range (m+1)) x=tg2 (sqf f i j (List.range m) x) (bs (f i m) (f m j)):=by
 unfold sqf
 rw [List.range_succ,List.foldl_append]
 rfl
theorem AJ {n:Nat} (f:Nat->Nat->Bn) {i j m:Nat} (hi:i < n) (hj:j < n):aB n (up2 (lgr n f i j m) i j (tg2 (sqf f i j (List.range m) (f i j)) (bs (f i m) (f m j))))=aB n (lgr n f i j (m+1)):=bc fun x y _ _=>by
 unfold up2 lgr
 by_cases h:x=i/\y=j
 . rw [if_pos h,if_neg (by omega),if_pos h,qf]
 . rw [if_neg h]
   by_cases z:x < i \/ (x=i/\y < j)
   . rw [if_pos z,if_pos z]
   . rw [if_neg z,if_neg h,if_neg z,if_neg h]
theorem vS {n:Nat} (f:Nat->Nat->Bn) {i j m:Nat} (h:tgt (bs (f i m) (f m j)) (sqf f i j (List.range m) (f i j))=false):aB n (lgr n f i j m)=aB n (lgr n f i j (m+1)):=bc fun x y _ _=>by
 unfold lgr
 by_cases z:x < i \/ (x=i/\y < j)
 . rw [if_pos z,if_pos z]
 . rw [if_neg z,if_neg z]
   by_cases h2:x=i/\y=j
   . rw [if_pos h2,if_pos h2,qf]
     unfold tg2
     rw [h,if_neg (by decide)]
   . rw [if_neg h2,if_neg h2]
theorem AK {n:Nat} (f:Nat->Nat->Bn) (i j:Nat):aB n (lgr n f i j n)=aB n (lgr n f i (j+1) 0):=bc fun x y _ _=>by
 unfold lgr
 by_cases z:x < i \/ (x=i/\y < j)
 . rw [if_pos z,if_pos (by omega)]
 . rw [if_neg z]
   by_cases h2:x=i/\y=j
   . rw [if_pos h2,if_pos (by omega)]
     obtain ⟨rfl,rfl⟩:=h2
     rfl
   . rw [if_neg h2,if_neg (by omega)]
     by_cases h3:x=i/\y=j+1
     . rw [if_pos h3]
       obtain ⟨rfl,rfl⟩:=h3
       rfl
     . rw [if_neg h3]
theorem AL {n:Nat} (f:Nat->Nat->Bn) (i:Nat):aB n (lgr n f i n 0)=aB n (lgr n f (i+1) 0 0):=bc fun x y _ hy=>by
 unfold lgr
 by_cases z:x < i \/ (x=i/\y < n)
 . rw [if_pos z,if_pos (by omega)]
 . rw [if_neg z,if_neg (by omega),if_neg (by omega)]
   by_cases h3:x=i+1/\y=0
   . rw [if_pos h3]
     obtain ⟨rfl,rfl⟩:=h3
     rfl
   . rw [if_neg h3]
theorem AM {n:Nat} (f:Nat->Nat->Bn):aB n (lgr n f 0 0 0)=aB n f:=bc fun x y _ _=>by
 unfold lgr
 rw [if_neg (by omega)]
 by_cases h3:x=0/\y=0
 . rw [if_pos h3]
   obtain ⟨rfl,rfl⟩:=h3
   rfl
 . rw [if_neg h3]
theorem AI {n:Nat} (f:Nat->Nat->Bn):aB n (lgr n f n 0 0)=aB n (sq n f):=bc fun x y hx _=>by
 unfold lgr
 rw [if_pos (by omega)]
def prv (r:List Nat) (k:Nat):Nat:=if k=0 then r.length - 1 else k - 1
def tot (T:List (List Bn)) (r:List Nat):Nat->Bn
 | 0=>b0
 | k+1=>bs (tot T r k) (ao T (r.getD (prv r k) 0) (r.getD k 0))
theorem kH {r:List Nat} {k:Nat} (h:k < r.length):r.take (k+1)=r.take k++[r.getD k 0]:=by
 rw [List.take_add_one,Zq h,Zp,Zq h]
 rfl
theorem uL (T:List (List Bn)) (r:List Nat):∀ k,k+1<=r.length->tot T r (k+1)=bs (ao T (r.getD (r.length - 1) 0) (r.getD 0 0)) (wt (ao T) (r.take (k+1)))
 | 0,h=>by
  have e:r.take 1=[r.getD 0 0]:=by rw [kH (by omega),List.take_zero,List.nil_append]
  rw [e]
  show bs b0 (ao T (r.getD (prv r 0) 0) (r.getD 0 0))=bs _ b0
  rw [jD,eV]
  rfl
 | k+1,h=>by
  show bs (tot T r (k+1)) (ao T (r.getD (prv r (k+1)) 0) (r.getD (k+1) 0))=_
  rw [uL T r k (by omega),kH (show k+1 < r.length by omega),kH (show k < r.length by omega),List.append_assoc]
  have e:r.take k++([r.getD k 0]++[r.getD (k+1) 0])=r.take k++[r.getD k 0,r.getD (k+1) 0]:=rfl
  have p:prv r (k+1)=k:=by unfold prv;rw [if_neg (by omega)];omega
  rw [e,si,fR,p]
theorem uM {T:List (List Bn)} {r:List Nat} {i:Nat} (h:∃ xs,r=i :: xs) (nd:r.Nodup) (l2:2<=r.length):tot T r r.length=wt (cz T) (r++[i]):=by
 obtain ⟨xs,rfl⟩:=h
 have l1:(i :: xs).length=xs.length+1:=rfl
 rw [l1,uL T (i :: xs) xs.length (by rw [l1];omega)]
 have ht:(i :: xs).take (xs.length+1)=i :: xs:=List.take_of_length_le (by rw [l1];omega)
 rw [ht]
 obtain ⟨s,z,e⟩:∃ s z,i :: xs=s++[z]:=by
  refine ⟨(i :: xs).dropLast,(i :: xs).getLast (by simp),?_⟩
  rw [List.dropLast_concat_getLast]
 have hz:(i :: xs).getD ((i :: xs).length - 1) 0=z:=by
  rw [Zp,e,Zh,Zj,Nat.add_sub_cancel,List.getElem?_append_right (Nat.le_refl _),Nat.sub_self]
  rfl
 have h0:(i :: xs).getD 0 0=i:=rfl
 rw [hz,h0]
 have zi:z ≠ i:=fun q=>by
  subst q
  have sl:1<=s.length:=by
   have:=congrArg List.length e
   rw [Zh,Zj] at this
   omega
  cases s with
  | nil=>simp at sl
  | cons a s =>
   have e':z :: xs=a :: (s++[z]):=e
   injection e' with e1 e2
   have n1:=(List.nodup_cons.mp nd).1
   rw [e2] at n1
   exact n1 (by simp)
 have e2:(i :: xs)++[i]=s++[z,i]:=by rw [e,List.append_assoc];rfl
 rw [e2,si,<- e,pT]
 have c1:cz T z i=ao T z i:=if_neg zi
 rw [c1]
 congr 1
 refine (qa (i :: xs) nd fun a b _ _ hab=>?_).symm
 exact if_neg hab
theorem nE:∀ (ns acc:List Int),(acc++ns).Nodup->ns.foldl kK acc=acc++ns
 | [],acc,_=>by rw [List.append_nil];rfl
 | k :: ns,acc,h=>by
  have na:k ∉ acc:=fun m=>(List.nodup_append.mp h).2.2 k m k Zk rfl
  have e:kK acc k=acc++[k]:=by
   unfold kK
   rw [if_neg]
   intro z
   obtain ⟨x,hx,q⟩:=List.any_eq_true.mp z
   have:x=k:=by simpa using q
   exact na (this ▸ hx)
  show ns.foldl kK (kK acc k)=_
  rw [e,nE ns (acc++[k]) (by rw [List.append_assoc];exact h),List.append_assoc]
  rfl
theorem ku:∀ (r:List Nat),jX (aP r)=some (r.map fun (k:Nat)=>(k:Int))
 | []=>rfl
 | k :: r=>by
  show (jX (aP r)).map ((k:Int) :: ·)=_
  rw [ku r]
  rfl
theorem zF {r:List Nat} (h:r.Nodup):(n6 (r.map fun (k:Nat)=>(k:Int))).length=r.length:=by
 unfold n6
 rw [nE _ [] (by
  rw [List.nil_append]
  exact List.Pairwise.map _ (fun a b hab e=>hab (by omega)) h),List.nil_append,Zi]
theorem zw {xs:List D} {d:D} (h:xs[xs.length - 1]? = some d):L2.atI xs (-1)=some d:=by
 have hl:=(List.getElem?_eq_some_iff.mp h).1
 unfold L2.atI L2.ixN
 rw [if_neg (by decide),if_pos (by omega)]
 have e:((-1:Int)+(xs.length:Int)).toNat=xs.length - 1:=by omega
 show xs[((-1:Int)+(xs.length:Int)).toNat]? = _
 rw [e]
 exact h
theorem lb {r:List Nat} {k:Nat} (h:k < r.length):(aP r)[k]? = some (.int ((r.getD k 0:Nat):Int)):=by
 unfold aP
 rw [List.getElem?_map,Zq h,Zp,Zq h]
 rfl
theorem zv {r:List Nat} {k:Nat} (h:k < r.length):gIx (.seq (aP r)) (.int ((k:Int) - 1))=some (.int ((r.getD (prv r k) 0:Nat):Int)):=by
 unfold prv
 by_cases z:k=0
 . subst z
   rw [if_pos rfl]
   show L2.atI (aP r) (-1)=_
   refine zw ?_
   have el:(aP r).length=r.length:=Zi _
   rw [el]
   exact lb (by omega)
 . rw [if_neg z]
   have e:(k:Int) - 1=((k - 1:Nat):Int):=by omega
   rw [e]
   exact fF (lb (by omega))
def dw (ds:List D) (d:D):Prop:=∃ (d0 d1:D) (T:List (List Bn)) (n:Nat) (r:List Nat),sh d0=.seq (aP r)/\IsT d1 T/\Sq T n/\n<=41/\1<=r.length/\r.Nodup/\(∀ x∈r,x < n)/\¬ Nn (tot T r r.length)/\ds=[d0,d1]/\d=.bl true
theorem nC {d0 d1:D} {T:List (List Bn)} {n:Nat} {r:List Nat} (h0:sh d0=.seq (aP r)) (h1:IsT d1 T) (hs:Sq T n) (hn:n<=41) (hl:1<=r.length) (nd:r.Nodup) (lt:∀ x∈r,x < n) (bad:¬ Nn (tot T r r.length)):fn dw [d0,d1]=some (.bl true):=cq (fun d' h'=>by
 obtain ⟨_,_,_,_,_,_,_,_,_,_,_,_,_,_,rfl⟩:=h'
 rfl) ⟨d0,d1,T,n,r,h0,h1,hs,hn,hl,nd,lt,bad,rfl,rfl⟩
def c4 (ds:List D) (d:D):Prop:=∃ b:Bn,ds=[bdD b]/\d=.bl true
theorem lU {b:Bn}:fn c4 [bdD b]=some (.bl true):=cq (fun d' h'=>by
 obtain ⟨_,_,rfl⟩:=h'
 rfl) ⟨b,rfl,rfl⟩
theorem og {n:Nat} {f g:Nat->Nat->Bn} (h:∀ i j,i < n->j < n->f i j=g i j) {i j:Nat} (hi:i < n) (hj:j < n):∀ (ms:List Nat) (x:Bn),(∀ m∈ms,m < n)->sqf f i j ms x=sqf g i j ms x
 | [],_,_=>rfl
 | m :: ms,x,hm=>by
  have m1:=hm m Zk
  show sqf f i j ms (tg2 x (bs (f i m) (f m j)))=sqf g i j ms (tg2 x (bs (g i m) (g m j)))
  rw [h i m hi m1,h m j m1 hj]
  exact og h hi hj ms _ fun k mk=>hm k (Zl _ mk)
theorem jd {n:Nat} {f g:Nat->Nat->Bn} (h:∀ i j,i < n->j < n->f i j=g i j):∀ (k i j:Nat),i < n->j < n->sqs n f k i j=sqs n g k i j
 | 0,i,j,hi,hj=>h i j hi hj
 | k+1,i,j,hi,hj=>by
  show sqf (sqs n f k) i j (List.range n) (sqs n f k i j)=sqf (sqs n g k) i j (List.range n) (sqs n g k i j)
  rw [jd h k i j hi hj]
  exact og (jd h k) hi hj _ _ fun m hm=>Zm.mp hm
theorem oR {n:Nat} {c:Nat->Nat->Bn} (hd:∀ i,i < n->c i i=b0):∀ m,m<=n->(∀ k,k < m->rgt n (dm c k) (pw c k) k=.non)->St n c m
 | 0,_,_=>sw hd
 | m+1,hm,h=>sx (oR hd m (by omega) fun k hk=>h k (by omega)) (by omega) (oZ (h m (by omega)))
theorem tZ {n:Nat} {T:List (List Bn)} {i:Nat} (hi:i < n) (h:sqs n (cl0 T) 4 i i ≠ b0):kq n T=.non:=by
 unfold kq
 rw [if_pos]
 exact List.any_eq_true.mpr ⟨i,Zm.mpr hi,decide_eq_true h⟩
theorem pR {T:List (List Bn)} {n:Nat} (hn:n<=16) :
 (∃ r,cM n T=.tup [.str "ring",.lst (aP r)]/\1<=r.length/\r.Nodup/\(∀ x∈r,x < n)/\¬ Nn (tot T r r.length)/\kq n T=.non) \/ ∃ U,Sq U n/\cM n T=.tup [.str "table",ak U]/\kq n T=ak U:=by
 unfold cM
 cases h1:aX (lX T) [] (List.range n) with
 | some d =>
  obtain ⟨a,t,b,e,h2,_⟩:=bE h1
  have ht:t < n:=by have:=bg e;omega
  unfold lX at h2
  split at h2
  . cases h2
  . rename_i q
    cases h2
    have bad:¬ Nn (ao T t t):=fun z=>q (nn_kp.mpr z)
    refine .inl ⟨[t],rfl,Nat.le_refl _,by simp,fun x m=>by simp at m;omega,?_,tZ ht fun z=>?_⟩
    . show ¬ Nn (bs b0 (ao T t t))
      rw [jD]
      exact bad
    . have:=qe (n:=n) (c:=cl0 T) 4 t t
      rw [z] at this
      have e2:cl0 T t t=ao T t t:=by
       unfold cl0
       rw [if_neg]
       intro w
       exact bad w.2
      rw [e2] at this
      exact bad this
 | none =>
  dsimp only
  have dg:∀ i,i < n->tgt (ao T i i) b0=false:=fun i hi=>by
   obtain ⟨a,b,e⟩:=List.append_of_mem (Zm.mpr hi)
   have:=c8 h1 a i b e
   unfold lX at this
   split at this
   . rename_i q;exact nn_kp.mp q
   . cases this
  have cc:∀ i j,i < n->j < n->cl0 T i j=cz T i j:=fun i j hi _=>by
   unfold cl0 cz
   by_cases h:i=j
   . rw [if_pos h,if_pos ⟨h,dg i hi⟩]
   . rw [if_neg h,if_neg fun z=>h z.1]
  have hd:∀ i,i < n->cz T i i=b0:=fun i _=>if_pos rfl
  cases h3:aX (lh n (cz T)) [] (List.range n) with
  | some d =>
   obtain ⟨a,m,b,e,h2,h4⟩:=bE h3
   obtain ⟨rfl,hm⟩:=bg e
   have st:St n (cz T) a.length:=oR hd _ (by omega) fun k hk=>by
    have hk2:(List.range n)[k]? = some k:=List.getElem?_range (by omega)
    rw [e,List.getElem?_append_left hk] at hk2
    obtain ⟨a',b',ea⟩:=List.append_of_mem (List.mem_of_getElem? hk2)
    have:=h4 a' k b' ea
    unfold lh at this
    rcases jM (n:=n) (m:=k) (dm (cz T) k) (pw (cz T) k) with z | ⟨t,_,z,_⟩
    . exact z
    . rw [z] at this;cases this
   generalize a.length=m at *
   unfold lh at h2
   rcases jM (n:=n) (m:=m) (dm (cz T) m) (pw (cz T) m) with z | ⟨t,ht,z,bad⟩
   . rw [z] at h2;cases h2
   . rw [z] at h2
     cases h2
     have wp:=st.wy t m ht hm
     have wq:=st.wy m t hm ht
     obtain ⟨nd,htm,sm⟩:=wM st.fw hm ht wp wq bad
     obtain ⟨xs,ep,hx⟩:=wp.hd
     obtain ⟨ys,eq,hy⟩:=wq.hd
     have lt:∀ x∈pw (cz T) m t m++pw (cz T) m m t,x < n:=fun x mx=>by
      rcases Zn.mp mx with z | z
      . exact wp.lt ht (by omega) x z
      . exact wq.lt hm (by omega) x z
     have hdr:∃ zs,pw (cz T) m t m++pw (cz T) m m t=t :: zs:=⟨xs++pw (cz T) m m t,by rw [ep];rfl⟩
     have l2:2<=(pw (cz T) m t m++pw (cz T) m m t).length:=by
      rw [Zh,ep,eq,List.length_cons,List.length_cons]
      omega
     have bad2:¬ Nn (wt (cz T) (pw (cz T) m t m++pw (cz T) m m t++[t])):=by rw [sm];exact bad
     refine .inl ⟨_,rfl,by omega,nd,lt,?_,tZ ht ?_⟩
     . rw [uM hdr nd l2]
       exact bad2
     . rw [jd cc 4 t t ht ht]
       exact rA hd hn hdr nd lt bad2
  | none =>
   have ok:∀ k,k < n->rgt n (dm (cz T) k) (pw (cz T) k) k=.non:=fun k hk=>by
    obtain ⟨a,b,e⟩:=List.append_of_mem (Zm.mpr hk)
    have:=c8 h3 a k b e
    unfold lh at this
    rcases jM (n:=n) (m:=k) (dm (cz T) k) (pw (cz T) k) with z | ⟨t,_,z,_⟩
    . exact z
    . rw [z] at this;cases this
   have st:=oR hd n (Nat.le_refl n) ok
   have okk:Ok (cz T) n n:=fun k hk i hi=>oZ (ok k hk) i hi
   have same:∀ i j,i < n->j < n->sqs n (cl0 T) 4 i j=dm (cz T) n i j:=fun i j hi hj=>by
    rw [jd cc 4 i j hi hj]
    exact qW hd okk hn (fun i j hi hj=>⟨_,st.wy i j hi hj⟩) hi hj
   refine .inr ⟨_,be n _,rfl,?_⟩
   unfold kq
   rw [if_neg,bc same]
   intro z
   obtain ⟨i,mi,q⟩:=List.any_eq_true.mp z
   have hi:=Zm.mp mi
   have:=of_decide_eq_true q
   rw [same i i hi hi,st.fw.dia i hi] at this
   exact this rfl
theorem pI {α:Type} {f:D->D->Option Bool} {a b:α->D}:∀ (xs:List α),(∀ x∈xs,f (a x) (b x)=some true)->eqL f (xs.map a) (xs.map b)=some true
 | [],_=>rfl
 | x :: xs,h=>by
  show ((f (a x) (b x)).bind fun p=>(eqL f (xs.map a) (xs.map b)).bind fun q=>some (p && q))=_
  rw [h x Zk,pI xs fun y m=>h y (Zl _ m)]
  rfl
theorem tF (x:Str):gq (.str x) (.str x)=some (.bl false):=by
 show some (D.bl (!(x == x)))=_
 rw [beq_self_eq_true]
 rfl
theorem pQ {k:Nat} {c:Nat->Nat->Bn} (h:∀ i j,Bk k (c i j)):∀ (m i j:Nat),Bk (k+m) (dm c m i j)
 | 0,i,j=>h i j
 | m+1,i,j=>by
  rcases lG (c:=c) m i j with e | e
  . rw [e];exact (pQ h m i j).mono (by omega)
  . rw [e];exact (pQ h m i m).sum (pQ h m m j)
theorem zG {k:Nat} (hk:1<=k) {T:List (List Bn)} (h:∀ i j,Bk k (ao T i j)) (i j:Nat):Bk k (cz T i j):=by
 unfold cz
 split
 . show Sm k 0
   exact Sm.mono (k:=1) (show (0:Int).natAbs < 2 ^ 1 by decide) hk
 . exact h i j
theorem xK {k n:Nat} {f:Nat->Nat->Bn} (h:∀ i j,Bk k (f i j)) (i j:Nat):Bk k (ao (aB n f) i j):=by
 unfold ao
 rw [Zp,Zp]
 cases q:(aB n f)[i]? with
 | none=>trivial
 | some r =>
  rw [Option.getD_some]
  have m:=List.mem_of_getElem? q
  unfold aB at m
  obtain ⟨a,_,rfl⟩:=List.mem_map.mp m
  cases p:(ql n (f a))[j]? with
  | none=>trivial
  | some b =>
   have m2:=List.mem_of_getElem? p
   unfold ql at m2
   obtain ⟨c,_,rfl⟩:=List.mem_map.mp m2
   exact h a c
structure Cld (n:Nat) (T U:List (List Bn)):Prop where
 sq:Sq U n
 cl:cM n T=.tup [.str "table",ak U]
 dia:∀ i,i < n->ao U i i=b0
 clo:∀ k i j,k < n->i < n->j < n->Le (ao U i j) (bs (ao U i k) (ao U k j))
 li:∀ x,Li (ao T) n x <-> Li (ao U) n x
 is:U=aB n (dm (cz T) n)
theorem vR {c d:Nat->Nat->Bn} {n:Nat} {x:Nat->Rat} (e:∀ i j,i < n->j < n->c i j=d i j):Li c n x <-> Li d n x :=
 ⟨fun h i j hi hj=>by rw [<- e i j hi hj];exact h i j hi hj,fun h i j hi hj=>by rw [e i j hi hj];exact h i j hi hj⟩
theorem ya {T:List (List Bn)} {n:Nat} {x:Nat->Rat} (dg:∀ i,i < n->Nn (ao T i i)):Li (ao T) n x <-> Li (cz T) n x:=by
 constructor
 . intro h i j hi hj
   unfold cz
   split
   . rename_i e
     subst e
     show x i - x i<=((0:Int):Rat)
     grind
   . exact h i j hi hj
 . intro h i j hi hj
   have:=h i j hi hj
   unfold cz at this
   split at this
   . rename_i e
     subst e
     have e2:x i - x i=0:=by grind
     rw [e2,pA]
     exact dg i hi
   . exact this
theorem nH (T:List (List Bn)) (n:Nat):(∃ r,cM n T=.tup [.str "ring",.lst (aP r)]/\∀ x,¬ Li (ao T) n x) \/ ∃ U,Cld n T U:=by
 cases h1:aX (lX T) [] (List.range n) with
 | some d =>
  obtain ⟨a,t,b,e,h2,_⟩:=bE h1
  have ht:t < n:=by have:=bg e;omega
  unfold lX at h2
  split at h2
  . cases h2
  . rename_i q
    cases h2
    refine .inl ⟨[t],?_,fun x hx=>q (nn_kp.mpr (xp ht hx))⟩
    unfold cM
    rw [h1]
    rfl
 | none =>
  have dg:∀ i,i < n->Nn (ao T i i):=fun i hi=>by
   obtain ⟨a,b,e⟩:=List.append_of_mem (Zm.mpr hi)
   have:=c8 h1 a i b e
   unfold lX at this
   split at this
   . rename_i q;exact nn_kp.mp q
   . cases this
  have hd:∀ i,i < n->cz T i i=b0:=fun i _=>if_pos rfl
  cases h3:aX (lh n (cz T)) [] (List.range n) with
  | some d =>
   obtain ⟨a,m,b,e,h2,h4⟩:=bE h3
   obtain ⟨rfl,hm⟩:=bg e
   generalize a.length=m at *
   unfold lh at h2
   rcases jM (n:=n) (m:=m) (dm (cz T) m) (pw (cz T) m) with z | ⟨t,ht,z,bad⟩
   . rw [z] at h2;cases h2
   . rw [z] at h2
     cases h2
     refine .inl ⟨pw (cz T) m t m++pw (cz T) m m t,?_,fun x hx=>AH hm ht bad ((ya dg).mp hx)⟩
     unfold cM
     rw [h1]
     dsimp only
     rw [h3]
  | none =>
   have ok:∀ k,k < n->rgt n (dm (cz T) k) (pw (cz T) k) k=.non:=fun k hk=>by
    obtain ⟨a,b,e⟩:=List.append_of_mem (Zm.mpr hk)
    have:=c8 h3 a k b e
    unfold lh at this
    rcases jM (n:=n) (m:=k) (dm (cz T) k) (pw (cz T) k) with z | ⟨t,_,z,_⟩
    . exact z
    . rw [z] at this;cases this
   have st:=oR hd n (Nat.le_refl n) ok
   have ec:∀ i j,i < n->j < n->ao (aB n (dm (cz T) n)) i j=dm (cz T) n i j:=fun i j hi hj=>br _ hi hj
   refine .inr ⟨aB n (dm (cz T) n),be n _,?_,fun i hi=>?_,fun k i j hk hi hj=>?_,fun x=>?_,rfl⟩
   . unfold cM
     rw [h1]
     dsimp only
     rw [h3]
   . rw [ec i i hi hi];exact st.fw.dia i hi
   . rw [ec i j hi hj,ec i k hi hk,ec k j hk hj];exact st.fw.clo k hk i j hi hj
   . rw [ya dg,vR ec]
     exact ⟨fun h=>vQ h n (Nat.le_refl n),vP⟩
theorem Cld.bk {n k:Nat} {T U:List (List Bn)} (c:Cld n T U) (hk:1<=k) (h:∀ i j,Bk k (ao T i j)) (i j:Nat):Bk (k+n) (ao U i j):=by
 rw [c.is]
 exact xK (pQ (zG hk h) n) i j
theorem jo {T:List (List Bn)} {ps:List (Int×Int)} {k:Nat} (hk:1<=k) (h:∀ p∈ps,Fr k p):gH T ps=true <-> Li (ao T) (ps.length+1) (fun i=>vl (da ps i)):=by
 have key:∀ i j,kp (dif ps i j) (ao T i j)=true <-> Kq (vl (da ps i) - vl (da ps j)) (ao T i j):=fun i j=>by
  rw [yb (xH hk h i j).pos]
  unfold dif
  rw [zU (fN hk h i).pos (fN hk h j).pos]
 unfold gH
 rw [List.all_eq_true]
 constructor
 . intro a i j hi hj
   have:=a i (Zm.mpr hi)
   rw [List.all_eq_true] at this
   exact (key i j).mp (this j (Zm.mpr hj))
 . intro a i mi
   rw [List.all_eq_true]
   intro j mj
   exact (key i j).mpr (a i j (Zm.mp mi) (Zm.mp mj))
theorem Cld.bk600 {n:Nat} {T U:List (List Bn)} (c:Cld n T U) (hn:n<=41) (h:∀ i j,Bk 550 (ao T i j)) (i j:Nat):Bk 600 (ao U i j):=(c.bk (by decide) h i j).mono (by omega)
def Bu (p q:Int×Int):Int×Int:=rd (p.1*q.2+q.1*p.2) (2*p.2*q.2)
def pick (c:Int) (ps qs:List (Int×Int)) (t:Nat):Int×Int:=[prt (mxd c (t:Int)),prt (c / ((t:Int)+1)),ps.getD t (0,1),qs.getD t (0,1),Bu (ps.getD t (0,1)) (qs.getD t (0,1))].getD (mxd c (t:Int) / 64 % 5).toNat (0,1)
def BG (c:Int) (ps qs:List (Int×Int)):List (Int×Int):=(List.range ps.length).map (pick c ps qs)
theorem xA {ps:List (Int×Int)} {k:Nat} (hk:1<=k) (h:∀ p∈ps,Fr k p) (t:Nat):Fr k (ps.getD t (0,1)):=by
 rw [Zp]
 cases q:ps[t]? with
 | none=>exact jY hk
 | some p=>exact h p (List.mem_of_getElem? q)
theorem zx {ps:List (Int×Int)} {t:Nat} (h:t < ps.length):gIx (.seq (ps.map fr)) (.int (t:Int))=some (fr (ps.getD t (0,1))):=by
 have e:(ps.map fr)[t]? = some (fr (ps.getD t (0,1))):=by
  rw [List.getElem?_map,Zp,Zq h]
  rfl
 exact fF e
theorem x6 (b:Bool):gq (.bl b) (.bl b)=some (.bl false):=by cases b <;> rfl
theorem wE {δ δ':DS} {i:Nat} {fm:FM} {ds es:List D} {d:D} (h:δ[i]? = some (some (.lst es))) (g:fm δ=some (d,δ')) (h':δ'[i]? = some (some (.lst ds))) (l:ds.length<=999):iw i fm δ=some (.nx (δ'.set i (some (.lst (ds++[d]))))):=by
 unfold iw
 rw [h]
 dsimp only
 rw [g]
 dsimp only [Option.bind_some]
 rw [h']
 dsimp only
 rw [if_pos l]
def Bk4 (T:List (List Bn)):Prop:=∀ i j,Bk 500 (ao T i j)
theorem wx {src:FA} {n:Nat} {js:List Nat} {g:D->DS->Option DS} {fc:FT} {felt:FM} {δ:DS} {ds xs:List D} (h:src δ=some ds) (k:iO (iS n js g fc felt δ) ds=some xs) (l:xs.length<=1000):kG src n js g fc felt δ=some (.lst xs,δ):=by
 unfold kG
 rw [h]
 dsimp only [Option.bind_some]
 rw [k]
 exact if_pos l
def bth (T U:List (List Bn)):List (List Bn):=List.zipWith (List.zipWith tgo) T U
def dZ (ds:List D) (d:D):Prop:=∃ (d0 d1:D) (T U:List (List Bn)) (n:Nat),IsT d0 T/\IsT d1 U/\Sq T n/\Sq U n/\n<=41/\(∀ i j,Bk 2000 (ao (bth T U) i j))/\ds=[d0,d1]/\d=cM n (bth T U)
theorem nw {d0 d1:D} {T U:List (List Bn)} {n:Nat} (h:IsT d0 T) (g:IsT d1 U) (hs:Sq T n) (gs:Sq U n) (hn:n<=41) (hb:∀ i j,Bk 2000 (ao (bth T U) i j)):fn dZ [d0,d1]=some (cM n (bth T U)):=cq (fun d' h'=>by
 obtain ⟨e0,e1,T',U',m,h1,g1,s1,_,_,_,h2,rfl⟩:=h'
 cases h2
 have a:=h.inj h1
 have b:=g.inj g1
 subst a b
 have:n=m:=hs.1.symm.trans s1.1
 rw [this]) ⟨d0,d1,T,U,n,h,g,hs,gs,hn,hb,rfl,rfl⟩
theorem pS {T U:List (List Bn)} {n:Nat} (h:Sq T n) (g:Sq U n):Sq (bth T U) n:=by
 refine ⟨by unfold bth;rw [List.length_zipWith,h.1,g.1,Nat.min_self],fun r m=>?_⟩
 unfold bth at m
 obtain ⟨i,hi,e⟩:=List.getElem_of_mem m
 rw [List.getElem_zipWith] at e
 rw [<- e,List.length_zipWith,h.2 _ (List.getElem_mem _),g.2 _ (List.getElem_mem _),Nat.min_self]
theorem s8 {f:D->Option (Option D)}:∀ (r s:List Bn),(∀ a b,f (.tup [bdD a,bdD b])=some (some (bdD (tgo a b))))->iO f (List.zipWith (fun d e=>D.tup [d,e]) (aJ r) (aJ s))=some (aJ (List.zipWith tgo r s))
 | [],_,_=>rfl
 | _ :: _,[],_=>rfl
 | a :: r,b :: s,h=>by
  show ((f (.tup [bdD a,bdD b])).bind _)=_
  rw [h a b]
  dsimp only [Option.bind_some]
  have ih:=s8 r s h
  unfold aJ at ih
  rw [ih]
  rfl
theorem ja {T U:List (List Bn)} {n x y:Nat} (h:Sq T n) (g:Sq U n) (hx:x < n) (hy:y < n):ao (bth T U) x y=tgo (ao T x y) (ao U x y):=by
 have tx:x < T.length:=by rw [h.1];exact hx
 have ux:x < U.length:=by rw [g.1];exact hx
 have ty:y < T[x].length:=by rw [h.2 _ (List.getElem_mem tx)];exact hy
 have uy:y < U[x].length:=by rw [g.2 _ (List.getElem_mem ux)];exact hy
 rw [fQ (Zq tx),fQ (Zq ux),fQ (T:=bth T U) (r:=List.zipWith tgo T[x] U[x]) (by unfold bth;rw [List.getElem?_zipWith,Zq tx,Zq ux])]
 rw [Zp,Zp,Zp,List.getElem?_zipWith,Zq ty,Zq uy]
 rfl
def gU (ds:List D) (d:D):Prop:=∃ (d0 d1:D) (T U:List (List Bn)) (n:Nat),IsT d0 T/\IsT d1 U/\Sq T n/\Sq U n/\n<=41/\ds=[d0,d1]/\d=ak (bth T U)
theorem qR {d0 d1:D} {T U:List (List Bn)} {n:Nat} (h:IsT d0 T) (g:IsT d1 U) (hs:Sq T n) (gs:Sq U n) (hn:n<=41):fn gU [d0,d1]=some (ak (bth T U)):=cq (fun d' h'=>by
 obtain ⟨e0,e1,T',U',m,h1,g1,s1,_,_,h2,rfl⟩:=h'
 cases h2
 rw [h.inj h1,g.inj g1]) ⟨d0,d1,T,U,n,h,g,hs,gs,hn,rfl,rfl⟩
structure Upd (T U:List (List Bn)) (n i j:Nat) (M:List (List Bn)):Prop where
 sq:Sq M n
 cl:∀ x y,x < n->y < n->ao M x y=if x < i \/ (x=i/\y < j) then tgo (ao T x y) (ao U x y) else ao T x y
theorem Upd.next {T U:List (List Bn)} {n i:Nat} {M:List (List Bn)} (h:Upd T U n i n M):Upd T U n (i+1) 0 M:=⟨h.sq,fun x y hx hy=>by
 rw [h.cl x y hx hy]
 by_cases c:x < i \/ (x=i/\y < n)
 . rw [if_pos c,if_pos (by omega)]
 . rw [if_neg c,if_neg (by omega)]⟩
theorem Upd.one {T U:List (List Bn)} {n i j:Nat} {M:List (List Bn)} (h:Upd T U n i j M) (hi:i < n) (hj:j < n):Upd T U n i (j+1) (if tgt (ao U i j) (ao T i j) then jt M i j (ao U i j) else M):=by
 cases ht:tgt (ao U i j) (ao T i j) with
 | true =>
  rw [if_pos rfl]
  refine ⟨oW h.sq hi,fun x y hx hy=>?_⟩
  rw [oi h.sq hi hj hx hy]
  by_cases c:x=i/\y=j
  . obtain ⟨rfl,rfl⟩:=c
    rw [if_pos ⟨rfl,rfl⟩,if_pos (by omega)]
    unfold tgo
    rw [ht,if_pos rfl]
  . rw [if_neg c,h.cl x y hx hy]
    by_cases c2:x < i \/ (x=i/\y < j)
    . rw [if_pos c2,if_pos (by omega)]
    . rw [if_neg c2,if_neg (by omega)]
 | false =>
  rw [if_neg Bool.false_ne_true]
  refine ⟨h.sq,fun x y hx hy=>?_⟩
  rw [h.cl x y hx hy]
  by_cases c:x=i/\y=j
  . obtain ⟨rfl,rfl⟩:=c
    rw [if_neg (by omega),if_pos (by omega)]
    unfold tgo
    rw [ht,if_neg Bool.false_ne_true]
  . by_cases c2:x < i \/ (x=i/\y < j)
    . rw [if_pos c2,if_pos (by omega)]
    . rw [if_neg c2,if_neg (by omega)]
theorem uN (a b:Bn):tgo a b=tgo b a:=Le.antisymm (a:=tg2 a b) (b:=tg2 b a) (oO (ss a b) (sv a b)) (oO (ss b a) (sv b a))
theorem mB {α:Type} {f:α->α->α} (h:∀ a b,f a b=f b a):∀ (xs ys:List α),List.zipWith f xs ys=List.zipWith f ys xs
 | [],[]=>rfl
 | [],_ :: _=>rfl
 | _ :: _,[]=>rfl
 | x :: xs,y :: ys=>by
  show f x y :: List.zipWith f xs ys=f y x :: List.zipWith f ys xs
  rw [h x y,mB h xs ys]
theorem rc (T U:List (List Bn)):bth T U=bth U T:=mB (fun r s=>mB uN r s) T U
theorem kq_tgo {x:Rat} {a b:Bn}:Kq x (tgo a b) <-> Kq x a/\Kq x b:=by
 constructor
 . intro h
   exact ⟨Kq.le h (sv a b),Kq.le h (ss a b)⟩
 . intro h
   unfold tgo
   split
   . exact h.2
   . exact h.1
theorem zn {T U:List (List Bn)} {n:Nat} {x:Nat->Rat} (hs:Sq T n) (gs:Sq U n):Li (ao (bth T U)) n x <-> Li (ao T) n x/\Li (ao U) n x:=by
 constructor
 . intro h
   refine ⟨fun i j hi hj=>?_,fun i j hi hj=>?_⟩
   . have:=h i j hi hj
     rw [ja hs gs hi hj] at this
     exact (kq_tgo.mp this).1
   . have:=h i j hi hj
     rw [ja hs gs hi hj] at this
     exact (kq_tgo.mp this).2
 . intro h i j hi hj
   rw [ja hs gs hi hj]
   exact kq_tgo.mpr ⟨h.1 i j hi hj,h.2 i j hi hj⟩
theorem vO {T U:List (List Bn)} {xs:List (Int×Int)} (hs:Sq T (xs.length+1)) (gs:Sq U (xs.length+1)) (h:∀ p∈xs,Fr 1200 p):gH (bth T U) xs=(gH T xs && gH U xs):=by
 rw [Bool.eq_iff_iff,Bool.and_eq_true,jo (by decide) h,jo (by decide) h,jo (by decide) h]
 exact zn hs gs
theorem qX {T:List (List Bn)} {n i j:Nat} (hs:Sq T n) (h:¬ (i < n/\j < n)):ao T i j=none:=by
 by_cases hi:i < n
 . obtain ⟨r,h1,h2,h3⟩:=fO hs hi
   unfold ao
   rw [h2,Zp,List.getElem?_eq_none (by omega)]
   rfl
 . have e:T.getD i []=[]:=by
    rw [Zp,List.getElem?_eq_none (by rw [hs.1];omega)]
    rfl
   unfold ao
   rw [e]
   rfl
theorem zK {k:Nat} {a b:Bn} (h:Bk k a) (g:Bk k b):Bk k (tgo a b):=by
 unfold tgo
 split
 . exact g
 . exact h
theorem zL {T U:List (List Bn)} {n k:Nat} (hs:Sq T n) (gs:Sq U n) (h:∀ i j,Bk k (ao T i j)) (g:∀ i j,Bk k (ao U i j)) (i j:Nat):Bk k (ao (bth T U) i j):=by
 by_cases c:i < n/\j < n
 . rw [ja hs gs c.1 c.2]
   exact zK (h i j) (g i j)
 . rw [qX (pS hs gs) c]
   trivial
def otB (b:Bn) (w:Int):Bn:=if w % 3=1 then some (w / 3 % 13 - 3,w / 39 % 2 == 1) else if w % 3=2 then (match b with | none=>none | some p=>some (p.1+w / 3 % 4 - 1,w / 12 % 2 == 1)) else none
def drw (ns:List Int) (i j:Nat):Int:=mxd (cell ns (60 - 9*(i:Int) - (j:Int))) (9*(i:Int)+(j:Int))
def mZ (ns:List Int) (T:List (List Bn)) (i j:Nat):Bn:=otB (ao T i j) (drw ns i j)
def oth (ns:List Int) (T:List (List Bn)) (n:Nat):List (List Bn):=aB n (mZ ns T)
theorem y0 {b:Bn} {w:Int} (h:Bk 500 b):Bk 550 (otB b w):=by
 unfold otB
 split
 . exact Sm.mono (k:=10) (Sm.of (x:=w / 3 % 13 - 3) (by omega) (by omega)) (by decide)
 . split
   . rcases b with _ | ⟨n,s⟩
     . trivial
     . exact Sm.mono (k:=502) (((show Sm 500 n from h).add (y:=w / 3 % 4) (Sm.mono (k:=10) (Sm.of (by omega) (by omega)) (by decide))).sub (y:=1) (Sm.mono (k:=10) (Sm.of (by omega) (by omega)) (by decide))) (by decide)
   . trivial
theorem yZ {ns:List Int} {T:List (List Bn)} {n:Nat} (h:∀ i j,Bk 500 (ao T i j)) (i j:Nat):Bk 550 (ao (oth ns T n) i j):=by
 by_cases c:i < n/\j < n
 . unfold oth
   rw [br _ c.1 c.2]
   exact y0 (h i j)
 . unfold oth
   rw [qX (be _ _) c]
   trivial
def gv (ds:List D) (d:D):Prop:=∃ (d0:D) (T:List (List Bn)) (n:Nat) (ns:List Int),IsT d0 T/\Sq T n/\n<=7/\ds=[d0,.seq (ns.map D.int)]/\d=ak (oth ns T n)
theorem pO {d0:D} {T:List (List Bn)} {n:Nat} {ns:List Int} (h:IsT d0 T) (hs:Sq T n) (hn:n<=7):fn gv [d0,.seq (ns.map D.int)]=some (ak (oth ns T n)):=cq (fun d' h'=>by
 obtain ⟨e0,T',m,ms,h1,s1,_,e,rfl⟩:=h'
 injection e with a e
 injection e with b _
 injection b with b
 subst a
 have z:=i5 b
 subst z
 have a:=h.inj h1
 subst a
 have:n=m:=hs.1.symm.trans s1.1
 rw [this]) ⟨d0,T,n,ns,h,hs,hn,rfl,rfl⟩
def cZ (ds:List D) (d:D):Prop:=∃ (d0 d1:D) (T:List (List Bn)) (n:Nat),IsT d0 T/\IsT d1 T/\Sq T n/\n<=41/\ds=[d0,d1]/\d=.bl true
theorem lT {d0 d1:D} {T:List (List Bn)} {n:Nat} (h:IsT d0 T) (g:IsT d1 T) (hs:Sq T n) (hn:n<=41):fn cZ [d0,d1]=some (.bl true):=cq (fun d' h'=>by
 obtain ⟨_,_,_,_,_,_,_,_,_,rfl⟩:=h'
 rfl) ⟨d0,d1,T,n,h,g,hs,hn,rfl,rfl⟩
def pk (c:Int) (ps:List (Int×Int)) (t:Nat):Int×Int:=if c / ((t:Int)+1) % 2=0 then prt (mxd c (t:Int)) else ps.getD t (0,1)
def mde (c:Int) (ps:List (Int×Int)):List (Int×Int):=(List.range ps.length).map (pk c ps)
def mQ (cs:List Int) (ps:List (Int×Int)):List (List (Int×Int)):=ps :: cs.map fun c=>mde c ps
def eN (cs:List Int) (ps:List (Int×Int)):List D:=.seq (ps.map fr) :: cs.map fun c=>.lst ((mde c ps).map fr)
structure P6 (ns cs:List Int) (ps:List (Int×Int)):Prop where
 cut:Dl.cutD (ns.map D.int) (some (-12)) none=cs.map D.int
 len:ns.length<=63
 pl:ps.length<=40
 pf:∀ p∈ps,Fr 200 p
theorem P6.cl {ns cs:List Int} {ps:List (Int×Int)} (h:P6 ns cs ps):cs.length<=63:=by
 have:=congrArg List.length h.cut
 rw [Zi] at this
 have l:(Dl.cutD (ns.map D.int) (some (-12)) none).length<=(ns.map D.int).length:=by
  unfold Dl.cutD
  rw [List.length_take,List.length_drop]
  omega
 rw [Zi] at l
 have:=h.len
 omega
theorem Aw {ns cs:List Int} {ps:List (Int×Int)} (h:P6 ns cs ps) (c:Int) (t:Nat):Fr 1200 (pk c ps t):=by
 unfold pk
 split
 . exact (vj _).mono (by decide)
 . exact (xA (by decide) h.pf t).mono (by decide)
theorem wR {ns cs:List Int} {ps:List (Int×Int)} (h:P6 ns cs ps):∀ xs∈mQ cs ps,xs.length=ps.length/\∀ p∈xs,Fr 1200 p:=fun xs m=>by
 unfold mQ at m
 rcases Zo.mp m with e | m
 . rw [e];exact ⟨rfl,fun p mp=>(h.pf p mp).mono (by decide)⟩
 . obtain ⟨c,_,rfl⟩:=List.mem_map.mp m
   unfold mde
   refine ⟨by rw [Zi,List.length_range],fun p mp=>?_⟩
   obtain ⟨t,_,rfl⟩:=List.mem_map.mp mp
   exact Aw h c t
theorem wH (cs:List Int) (ps:List (Int×Int)):shs (cs.map fun c=>D.lst ((mde c ps).map fr))=cs.map fun c=>D.seq ((mde c ps).map fr):=by
 induction cs with
 | nil=>rfl
 | cons c cs ih =>
  show sh (.lst ((mde c ps).map fr)) :: shs _=_
  rw [ih,sh,jg]
  rfl
theorem wI (cs:List Int) (ps:List (Int×Int)):sh (.lst (eN cs ps))=.seq ((mQ cs ps).map fun xs=>.seq (xs.map fr)):=by
 unfold eN mQ
 rw [sh]
 show D.seq (sh (.seq (ps.map fr)) :: shs _)=_
 rw [wH,sh,jg]
 simp only [List.map_cons,List.map_map]
 rfl
def cf (ds:List D) (d:D):Prop:=∃ (ns cs:List Int) (d1:D) (ps:List (Int×Int)),P6 ns cs ps/\IsP d1 ps/\ds=[.seq (ns.map D.int),d1]/\d=.lst (eN cs ps)
theorem n4 {ns cs:List Int} {d1:D} {ps:List (Int×Int)} (h:P6 ns cs ps) (h1:IsP d1 ps):fn cf [.seq (ns.map D.int),d1]=some (.lst (eN cs ps)):=cq (fun d' h'=>by
 obtain ⟨ns',cs',e1,ps',g,g1,e,rfl⟩:=h'
 injection e with a e
 injection e with b _
 injection a with a
 subst b
 have z:=i5 a
 subst z
 have z1:=h1.inj g1
 subst z1
 have z3:=i5 (h.cut.symm.trans g.cut)
 subst z3
 rfl) ⟨ns,cs,d1,ps,h,h1,rfl,rfl⟩
theorem wD {is:List Nat} {f1 f2:FM} {s:SD} {δ δ1 δ2 δ3 δ4:DS} {ds es:List D} (h1:f1 δ=some (.tup ds,δ1)) (h2:f2 δ1=some (.tup es,δ2)) (l1:ds.length=is.length) (l2:es.length=is.length) (i1:kw is δ2.length=true) (n1:1 < δ2.length) (h3:s (gZ is ds (δ2.set 1 (some (.tup es))))=some (.nx δ3)) (g:δ3[1]? = some (some (.tup es))) (i2:kw is δ3.length=true) (h4:s (gZ is es (δ3.set 1 none))=some (.nx δ4)):qk is f1 f2 s δ=some (.nx δ4):=by
 unfold qk
 rw [h1]
 dsimp only [Option.bind_some]
 rw [h2]
 dsimp only [Option.bind_some]
 rw [if_pos ⟨l1,i1,n1⟩,h3]
 dsimp only [Option.bind_some]
 rw [g]
 dsimp only
 rw [if_pos ⟨l2,i2⟩,h4]
 rfl
theorem yt {ks:List Nat} {s:SD} {δ δ':DS} (h:s (δ.map (Option.map sh))=some (.nx δ')):rz ks s δ=some (.nx (lF ks δ)):=by
 unfold rz
 rw [h]
 rfl
theorem sA {i:Nat} {δ:DS} {ds:List D} (h:δ[i]? = some (some (.lst ds))) (g:ds.all shd=true):on i δ=some (.nx (δ.set i (some (.lst ds.reverse)))):=by
 unfold on
 rw [h]
 dsimp only
 rw [if_pos g]
theorem sj {i:Nat} {δ:DS} {ds:List D} (h:δ[i]? = some (some (.lst ds))):kF i δ=some (.lst (shs ds),δ.set i (some (.lst (shs ds)))):=by
 unfold kF
 rw [h]
theorem uQ (r:List Nat):(aP r).all shd=true:=List.all_eq_true.mpr fun d m=>by
 obtain ⟨k,_,rfl⟩:=List.mem_map.mp m
 rfl
theorem t7 (W:List (List Bn)):(ci W).all shd=true:=List.all_eq_true.mpr fun d m=>by
 obtain ⟨r,_,rfl⟩:=List.mem_map.mp m
 exact i6 r
theorem xm (U:List (List Bn)):gq (.tup [.str "table",ak U]) (.tup [.str "table",ak U])=some (.bl false):=by
 unfold gq
 have z:eqN 6 (.tup [.str "table",ak U]) (.tup [.str "table",ak U])=some true:=by
  show eqL (eqN 5) [.str "table",ak U] [.str "table",ak U]=_
  have a:eqN 5 (.str "table") (.str "table")=some true:=rfl
  have b:eqN 5 (ak U) (ak U)=some true:=pI (f:=eqN 4) U fun r _=>rV 2 r
  show ((eqN 5 (.str "table") (.str "table")).bind fun x=>((eqN 5 (ak U) (ak U)).bind fun x=>some (x && true)).bind fun y=>some (x && y))=_
  rw [a,b]
  rfl
 rw [z]
 rfl
theorem xG (T U:List (List Bn)):ce (.lst [ak T,ak U]) (.lst [ak T,ak U])=some (.bl true):=by
 unfold ce
 have z:eqN 6 (.lst [ak T,ak U]) (.lst [ak T,ak U])=some true:=by
  show eqL (eqN 5) [ak T,ak U] [ak T,ak U]=_
  have a:∀ U,eqN 5 (ak U) (ak U)=some true:=fun U=>pI (f:=eqN 4) U fun r _=>rV 2 r
  show ((eqN 5 (ak T) (ak T)).bind fun x=>((eqN 5 (ak U) (ak U)).bind fun x=>some (x && true)).bind fun y=>some (x && y))=_
  rw [a,a]
  rfl
 rw [z]
 rfl
theorem qP {f g:FD} {δ:DS} {a b:Bool} (h:f δ=some (.bl a)) (k:g δ=some (.bl b)):cj f g δ=some (.bl (a && b)):=by
 cases a with
 | true=>simp only [cj,h,k];rfl
 | false=>simp only [cj,h];rfl
structure FK (K:PySem.W.Frag) (x:Str) (st:Stmt) (f:Addr):Prop where
 ns:PySem.W.nsIn K mainGlobals x=some (some (.ref f))
 ex:∃ (oc:Value) (od:Option Addr) (kV doc pm:Value) (an:Option Addr) (cdv ct:Value) (osl:Array (Option Value)),K.lookup f=some ⟨oc,od,.func (PySem.W.fnOf x x (cV st) (bK st) (am st) .none kV doc pm an cdv ct),osl⟩/\PySem.W.codeIn K cdv x=true
 kp:PySem.W.keepIn K (.ref f)=true
theorem FK.get {K:PySem.W.Frag} {x:Str} {st:Stmt} {f:Addr} {ps:List Str} (h:FK K x st f) (b:∀ (kV doc pm:Value) (an:Option Addr) (cdv ct:Value) (us:List Value),us.length=ps.length->bindArgs (PySem.W.fnOf x x (cV st) (bK st) (am st) .none kV doc pm an cdv ct) ⟨us,[]⟩=pure (ps.zip us)):∃ fd,Fun K x x st f fd/\Binds K fd ps []:=by
 obtain ⟨oc,od,kV,doc,pm,an,cdv,ct,osl,l,c⟩:=h.ex
 have F:=vZ (st:=st) l c h.kp
 exact ⟨_,F,F.binds b⟩
theorem FK.of2 {K:PySem.W.Frag} {x:Str} {st:Stmt} {f:Addr} (e:Hd.fv K x f=Hd.fe x st .none f):FK K x st f:=⟨(Hd.fv_inv e).1,(Hd.fv_inv e).2.2,(Hd.fv_inv e).2.1⟩
section
variable (P:Program) (w:World) (base:Heap) {K:PySem.W.Frag} {mg:Str->Option Value} {h:Heap} {k:Nat} {f:Addr} {fd:FuncData} {x:Str} {st:Stmt} {ps:List Str}
theorem mkP {G:List D->Option D} (X:K.In h) (N:h.Ns mainGlobals mg) (a:FK K x st f) (o:FnOk P w K mg base CX0 k f fd ps (bL K ps.length G)) (b:Binds K fd ps []):Has P w K mg base k x ps G:=⟨⟨_,_,o,PySem.W.mg_of X N a.ns,a.kp,b⟩⟩
theorem mkF {G:List D->Option D} (X:K.In h) (N:h.Ns mainGlobals mg) (a:FK K x st f) (o:FnOk P w K mg base CX0 k f fd ps (bV K ps.length G)) (b:Binds K fd ps []):HasF P w K mg base k x ps G:=⟨⟨_,_,o,PySem.W.mg_of X N a.ns,a.kp,b⟩⟩
theorem mkM {G:List D->Option (D×D)} (X:K.In h) (N:h.Ns mainGlobals mg) (a:FK K x st f) (o:FnOk P w K mg base CX0 k f fd ps (qD K ps.length G)) (b:Binds K fd ps []):zS P w K mg base k x ps G:=⟨⟨_,_,o,PySem.W.mg_of X N a.ns,a.kp,b⟩⟩
end
section
variable {P:Program} {w:World} {K:PySem.W.Frag} {mg:Str->Option Value} {base:Heap} {f:Addr} {fd:FuncData}
theorem lu:aG ["thing"] ["thing"] (am ir):=⟨rfl,rfl,rfl,by decide +kernel,rfl,by decide +kernel,by decide +kernel⟩
theorem qy (F:Fun K "is_whole" "is_whole" ir f fd)    (m_isinstance:mg "isinstance" = none) (m_int:mg "int" = none) (m_bool:mg "bool" = none):FnOk P w K mg base CX0 1 f fd ["thing"] (bL K 1 (fn iF)):=by
 have sc:=lu
 refine cy F lu (fun cdv A outer s H E ds d hr hG hl=>?_)
 obtain ⟨x,b,h,rfl,rfl⟩:=bo hG
 refine ⟨_,(aU (bf (eR (aE eU (iD qz) rfl m_isinstance boot_isinstance (ae (ac 0) (ae (ki rfl m_int boot_int) ag))) (dh (kW (aE eU (iD kZ) rfl m_isinstance boot_isinstance (ae (ac 0) (ae (ki rfl m_bool boot_bool) ag)))))))),?_⟩
 . show aL ((?f:SD) [some _])=_
   cases x <;> simp [pE] at h <;> subst h <;> rfl
theorem gJ:aG ["number","above_nought","one","other","rest"] ["number","above_nought"] (am dy):=⟨rfl,rfl,rfl,by decide +kernel,rfl,by decide +kernel,by decide +kernel⟩
def cdC:FT:=fT (f2 gNe (ab 3) (fC (.int 0)))
def cdS:SD:=ax (mK 4 (f2 (gI (fun _ j=>0 < j) fun i j=>.int (i % j)) (ab 2) (ab 3))) (ax (mK 2 (ab 3)) (mK 3 (ab 4)))
theorem tV:∀ (n:Nat) (x y:Int) (u v o:Option D),0<=y->(y=0->0<=x)->y.toNat < n->∃ o',gz n cdC cdS [u,v,some (.int x),some (.int y),o]=some (.nx [u,v,some (.int (gc x y)),some (.int 0),o'])
 | 0,x,y,u,v,o,h0,h1,h2=>by omega
 | n+1,x,y,u,v,o,h0,h1,h2=>by
  by_cases h:y=0
  . subst h
    refine ⟨o,?_⟩
    rw [tD (h1 rfl)]
    rfl
  . have hy:0 < y:=by omega
    have hc:cdC [u,v,some (.int x),some (.int y),o]=some true:=by
     show some (!(y == 0))=some true
     simp [h]
    have hs:cdS [u,v,some (.int x),some (.int y),o]=some (.nx [u,v,some (.int y),some (.int (x % y)),some (.int (x % y))]):=by
     unfold cdS
     simp only [df,ax,mK,ab,f2,Zc,Zd,Ze,Zf,Zg,aq (C:=fun _ j=>0 < j) (i:=x) hy]
    obtain ⟨o',ih⟩:=tV n y (x % y) u v (some (.int (x % y))) (Int.emod_nonneg x h) (fun _=>h0) (by have:=Int.emod_lt_of_pos x hy;omega)
    refine ⟨o',?_⟩
    rw [tE] at ih
    rw [qj hc hs]
    exact ih
theorem kl (F:Fun K "common_divisor" "common_divisor" dy f fd)    :FnOk P w K mg base CX0 1 f fd ["number","above_nought"] (bL K 2 (fn fG)):=by
 have sc:=gJ
 refine cy F gJ (fun cdv A outer s H E ds d hr hG hl=>?_)
 obtain ⟨a,b,hb,rfl,rfl⟩:=bo hG
 refine ⟨_,(bh (gn 2 sc.nd (ac 0))
  (bh (gn 3 sc.nd (ac 1))
  (bh (ot (b.toNat+1) PassesOwn.never (vd hr.units0 (ac 3) aj)
   (bh (gn 4 sc.nd (bu (ac 2) (ac 3)))
   (bh (gn 2 sc.nd (ac 3))
   (aU (gn 3 sc.nd (ac 4))))))
  (aU (bf (ac 2)))))),?_⟩
 . show aL ((?f:SD) [some _,some _,none,none,none])=_
   obtain ⟨o,ho⟩:=tV (b.toNat+1) a b (some (.int a)) (some (.int b)) none (by omega) (by omega) (by omega)
   show aL ((gz (b.toNat+1) cdC cdS [some (.int a),some (.int b),some (.int a),some (.int b),none]).bind (df (fg (ab 2))))=_
   rw [ho]
   rfl
theorem sH:aG ["one","other"] ["one","other"] (am oX):=⟨rfl,rfl,rfl,by decide +kernel,rfl,by decide +kernel,by decide +kernel⟩
theorem xk (F:Fun K "less" "less" oX f fd)    :FnOk P w K mg base CX0 1 f fd ["one","other"] (bL K 2 (fn pX)):=by
 have sc:=sH
 refine cy F sH (fun cdv A outer s H E ds d hr hG hl=>?_)
 obtain ⟨⟨a,b⟩,⟨c,e⟩,hp,hq,rfl,rfl⟩:=bo hG
 refine ⟨_,(aU (bf (qv (di (az (ac 0) aj) (az (ac 1) aj)) (di (az (ac 1) aj) (az (ac 0) aj))))),?_⟩
 . show aL ((?f:SD) [some _,some _])=_
   simp only [aL,fg,ab,fC,f2,du,eT,gI0,Zc,Zd,Ze,aq (C:=aR) (i:=a) (j:=e) ⟨hp.s1.bd,hq.s2.bd⟩,aq (C:=aR) (i:=c) (j:=b) ⟨hq.s1.bd,hp.s2.bd⟩]
theorem mJ:aG ["one","other"] ["one","other"] (am jk):=⟨rfl,rfl,rfl,by decide +kernel,rfl,by decide +kernel,by decide +kernel⟩
theorem rK (F:Fun K "tighter" "tighter" jk f fd)    :FnOk P w K mg base CX0 1 f fd ["one","other"] (bL K 2 (fn dD)):=by
 have sc:=mJ
 refine cy F mJ (fun cdv A outer s H E ds d hr hG hl=>?_)
 obtain ⟨a,b,rfl,rfl⟩:=bo hG
 refine ⟨_,(bh (dF (dQ (ac 0) bJ) (aU (bf d5)) cL)
  (bh (dF (dQ (ac 1) bJ) (aU (bf d5)) cL)
  (bh (dF (vd hr.units0 (az (ac 0) aj) (az (ac 1) aj)) (aU (bf (qv (az (ac 0) aj) (az (ac 1) aj)))) cL)
  (aU (bf (eR (az (ac 0) aj) (dh (kW (az (ac 1) aj))))))))),?_⟩
 . show aL ((?f:SD) [some _,some _])=_
   rcases a with _ | ⟨n,s⟩
   . rfl
   rcases b with _ | ⟨m,t⟩
   . rfl
   rw [rj]
   by_cases e:n=m
   . subst e
     rw [if_pos rfl]
     cases s <;> cases t <;> (simp only [aL,ba,df,ax,fg,sIf,ab,fC,f2,f1,fT,asB,cj,pF,du,eT,gI0,tG,Zc,Zd,Ze,Bool.not_true,Bool.not_false,beq_self_eq_true,bI,fu,cY] ;rfl)
   . have h1:(n == m)=false:=beq_eq_false_iff_ne.mpr e
     rw [if_neg e]
     simp only [aL,ba,df,ax,fg,sIf,ab,fC,f2,fT,asB,du,gI0,tG,Zc,Zd,Ze,Bool.not_false,bI,fu,cY,h1]
theorem j1:aG ["one","other"] ["one","other"] (am gL):=⟨rfl,rfl,rfl,by decide +kernel,rfl,by decide +kernel,by decide +kernel⟩
theorem pj (F:Fun K "bound_sum" "bound_sum" gL f fd)    :FnOk P w K mg base CX0 1 f fd ["one","other"] (bL K 2 (fn bT)):=by
 have sc:=j1
 refine cy F j1 (fun cdv A outer s H E ds d hr hG hl=>?_)
 obtain ⟨a,b,rfl,rfl⟩:=bo hG
 refine ⟨_,(bh (dF (PWD.pt (g6 (dQ (ac 0) bJ) (gk (dQ (ac 1) bJ)))) (aU (bf bJ)) cL)
  (aU (bf (cS (ae (bQ (az (ac 0) aj) (az (ac 1) aj)) (ae (oy (az (ac 0) aj) (dh (az (ac 1) aj))) ag)))))),?_⟩
 . show aL ((?f:SD) [some _,some _])=_
   rcases a with _ | ⟨n,s⟩ <;> rcases b with _ | ⟨m,t⟩
   . rfl
   . rfl
   . rfl
   . cases s <;> cases t <;> rfl
theorem ol:aG ["table"] ["table"] (am j7):=⟨rfl,rfl,rfl,by decide +kernel,rfl,by decide +kernel,by decide +kernel⟩
theorem uh (F:Fun K "copied" "copied" j7 f fd)    (m_list:mg "list" = none):FnOk P w K mg base CX0 1 f fd ["table"] (bV K 1 (fn nM)):=by
 have sc:=ol
 refine bZ F ol (fun cdv A outer s H E ds d hr hG hl=>?_)
 obtain ⟨d0,T,m,hT,hs,hm,rfl,rfl⟩:=bo hG
 have hown:=bR T
 refine ⟨_,(aF (bM (ka (by exact (eQ (ac 0))) (N:=["bounds"]) (js:=[]) (cl:=[]) (fun _ _ _ _ _=>by exact (gw rfl m_list boot_list (ae (ac 0) ag))) (by exact CompOk.nil)))),?_,?own⟩
 case own=>first | rfl | exact hown
 . show aL ((?f:SD) (aS 1 _))=_
   have e0:aS 1 [d0]=[some (aw T)]:=by
    show [some (sh d0)]=_
    rw [show sh d0=aw T from hT]
   rw [e0]
   exact dI (cr (jI hs hm rfl))
theorem hX:aG ["size","ways","thing"] ["size"] (am dM):=⟨rfl,rfl,rfl,by decide +kernel,rfl,by decide +kernel,by decide +kernel⟩
theorem kY (F:Fun K "straight_ways" "straight_ways" dM f fd)    (m_range:mg "range" = none):FnOk P w K mg base CX0 1 f fd ["size"] (bV K 1 (fn fX)):=by
 have sc:=hX
 refine bZ F hX (fun cdv A outer s H E ds d hr hG hl=>?_)
 obtain ⟨n,hn,rfl,rfl⟩:=bo hG
 have hown:=mY n fun i _=>[i]
 refine ⟨_,(au (aW 1 sc.nd (fq cb))
  (au (cu 2 sc.nd PassesOwn.never rfl (aT rfl m_range (ae (ac 0) ag))
   (aF (kT 1 (jz PySem.F.plainAttrs_list PySem.F.slot_list_append PySem.F.type_list_append c5 (pvi 1) (cA (ka (by exact (iz rfl m_range (ae (ac 0) ag))) (N:=["goal","thing"]) (js:=[2]) (cl:=[("thing",_)]) (fun _ _ _ _ _=>by exact (fq (bG (bq 1) cb))) (by exact CompOk.one)) dW)))))
  (aF (bM (bq 1))))),?_,?own⟩
 case own=>first | rfl | exact hown
 . rw [show (["size","ways","thing"]:List Str).length=3 from rfl]
   have e0:aS 3 [.int (n:Int)]=[some (.int (n:Int)),none,none]:=rfl
   rw [e0]
   have hv:=fun o1 o2:Option D=>db (g:=aa (ab 0) af) (δ:=[some (.int (n:Int)),o1,o2]) (n:=n) rfl (by omega)
   obtain ⟨_,w,o,rfl⟩:=bC (i:=2) (s:=((iw 1 (dG (mF (aa (ab 0) af)) [2] (jH (cm (bn 1) fZ)))))) (f:=fun (i:Nat)=>D.int (i:Int)) (fun pre δ=>∃ o,δ=[some (.int (n:Int)),some (.lst ((List.range pre.length).map fun i=>D.lst (fY n fun _=>[i]))),o]) (List.range n) (by
    rintro pre x post _ hx ⟨o,rfl⟩
    obtain ⟨rfl,hl⟩:=bg hx
    refine ⟨_,jJ (ds:=(List.range pre.length).map fun i=>D.lst (fY n fun _=>[i])) (d:=.lst (fY n fun _=>[pre.length])) rfl ?_ (by rw [Zi,List.length_range];omega),some (.int (pre.length:Int)),?_⟩
    . refine jc (f:=fun (i:Nat)=>D.int (i:Int)) (g:=fun _=>D.lst (aP [pre.length])) (xs:=List.range n) ?_ (fun i _=>rfl) (by rw [List.length_range];omega)
      refine sC (ds:=[.int (n:Int)]) rfl ?_
      rw [tX (by omega) (by omega),j9]
    . rw [Zh,Zj,List.range_succ,List.map_append]
      rfl) (List.range n) [] [some (.int (n:Int)),some (.lst []),none] rfl ⟨none,rfl⟩
   rw [List.length_range] at w
   exact dI (ap (cQ (d:=.lst []) rfl) (ap (bD (hv _ _) w) (cr (dS rfl))))
theorem iM:aG ["_law_script","_law_k"] ["_law_script","_law_k"] (am eL):=⟨rfl,rfl,rfl,by decide +kernel,rfl,by decide +kernel,by decide +kernel⟩
theorem lP (F:Fun K "_law_cell_at" "_law_cell_at" eL f fd)    (m_len:mg "len" = none):FnOk P w K mg base CX0 1 f fd ["_law_script","_law_k"] (bL K 2 (fn aA)):=by
 have sc:=iM
 refine cy F iM (fun cdv A outer s H E ds d hr hG hl=>?_)
 obtain ⟨ns,k,hk,rfl,rfl⟩:=bo hG
 refine ⟨_,(bh (dF (kS (ac 1) (aE aC bN rfl m_len PySem.boot_len (ae (ac 0) ag))) (aU (bf (az (ac 0) (ac 1)))) cL)
  (aU (bf aj))),?_⟩
 . show aL ((?f:SD) [some _,some _])=_
   by_cases hlt:k < (ns.length:Int)
   . have h1:decide (k < (((ns.map D.int).length:Nat):Int))=true:=decide_eq_true (by rw [Zi];exact hlt)
     have h2:gIx (.seq (ns.map D.int)) (.int k)=some (.int (cell ns k)):=by
      show L2.atI (ns.map D.int) k=_
      have ek:k=((k.toNat:Nat):Int):=by omega
      have hk2:k.toNat < ns.length:=by omega
      have h3:=atI_nat (xs:=ns.map D.int) (j:=k.toNat) (v:=D.int ns[k.toNat]) (by rw [List.getElem?_map,Zq hk2] <;> rfl)
      rw [<- ek] at h3
      rw [h3]
      unfold cell
      simp [Zp,hk2]
     simp only [aL,ba,df,ax,fg,sIf,ab,f2,fT,asB,af,aa,ah,qK,gI0,Zc,Zd,Ze,h1,h2]
   . have h1:decide (k < (((ns.map D.int).length:Nat):Int))=false:=decide_eq_false (by rw [Zi];exact hlt)
     have h2:cell ns k=0:=by
      unfold cell
      rw [Zp,List.getElem?_eq_none (by omega)]
      rfl
     simp only [aL,ba,df,ax,fg,sIf,ab,fC,f2,fT,asB,af,aa,ah,qK,gI0,Zc,Zd,Ze,h1,h2]
theorem jx:aG ["_law_cell","_law_k","_law_number"] ["_law_cell","_law_k"] (am gi):=⟨rfl,rfl,rfl,by decide +kernel,rfl,by decide +kernel,by decide +kernel⟩
theorem nW (F:Fun K "_law_mixed" "_law_mixed" gi f fd)    :FnOk P w K mg base CX0 1 f fd ["_law_cell","_law_k"] (bV K 2 (fn aM)):=by
 have sc:=jx
 refine bZ F jx (fun cdv A outer s H E ds d hr hG hl=>?_)
 obtain ⟨c,k,hk0,hk1,rfl,rfl⟩:=bo hG
 have hown:own (.int (mxd c k))=true:=rfl
 refine ⟨_,(au (aW 2 sc.nd (aN (bu (bQ (bQ (bQ (kj (ac 0) aj) (kj (kj (ac 1) (ac 1)) aj)) (kj aj (ac 1))) aj) aj)))
  (aF (bM (aN (bu (kj (ac 2) (ac 2)) aj))))),?_,?own⟩
 case own=>first | rfl | exact hown
 . show aL ((?f:SD) (aS 3 _))=_
   have e0:aS 3 [.int c,.int k]=[some (.int c),some (.int k),none]:=rfl
   rw [e0]
   have w1:gX c 48271:=.inr (.inr (by decide))
   have w2:gX k k:=.inr (.inl (by omega))
   have w3:gX (k*k) 69621:=.inr (.inr (by decide))
   have w4:gX 7 k:=.inr (.inl (by decide))
   obtain ⟨n,hn⟩:∃ n,n=(c*48271+k*k*69621+7*k+11) % 2147483647:=⟨_,rfl⟩
   have n0:0<=n:=by rw [hn];exact Int.emod_nonneg _ (by decide)
   have n1:n < 2147483647:=by rw [hn];exact Int.emod_lt_of_pos _ (by decide)
   have w5:gX n n:=.inr (.inl (by omega))
   have em:mxd c k=n*n % 2147483629:=by rw [hn];rfl
   rw [em]
   exact dI (ap (aV (bw (d:=.int n) (by simp only [ab,fC,f2,bS,Zc,Zd,Ze,aq (C:=gX) w1,aq (C:=gX) w2,aq (C:=gX) w3,aq (C:=gX) w4,aq (C:=fun _ j=>0 < j) (i:=c*48271+k*k*69621+7*k+11) (j:=2147483647) (by decide),hn]))) (cr (bw (by simp only [ab,fC,f2,Zc,Zd,Ze,Zf,Zg,aq (C:=gX) w5,aq (C:=fun _ j=>0 < j) (i:=n*n) (j:=2147483629) (by decide)]))))
theorem iV:aG ["_law_top","_law_bottom","_law_one","_law_other_here"] ["_law_top","_law_bottom"] (am fI):=⟨rfl,rfl,rfl,by decide +kernel,rfl,by decide +kernel,by decide +kernel⟩
def llC:FT:=fT (f2 gGt (ab 3) (fC (.int 0)))
def llS:SD:=wK 2 3 (aa (ab 3) (aa (f2 (gI (fun _ j=>0 < j) fun i j=>.int (i % j)) (ab 2) (ab 3)) af))
theorem tq:∀ (n:Nat) (x y:Int) (u v:Option D),0<=y->(y=0->0<=x)->y.toNat < n->gz n llC llS [u,v,some (.int x),some (.int y)]=some (.nx [u,v,some (.int (gc x y)),some (.int 0)])
 | 0,x,y,u,v,h0,h1,h2=>by omega
 | n+1,x,y,u,v,h0,h1,h2=>by
  by_cases h:y=0
  . subst h
    rw [tD (h1 rfl)]
    rfl
  . have hy:0 < y:=by omega
    have hc:llC [u,v,some (.int x),some (.int y)]=some true:=by
     show some (decide (y > 0))=some true
     rw [decide_eq_true hy]
    have hs:llS [u,v,some (.int x),some (.int y)]=some (.nx [u,v,some (.int y),some (.int (x % y))]):=by
     unfold llS
     simp only [wK,ab,f2,af,aa,Zc,Zd,Ze,Zf,Zg,aq (C:=fun _ j=>0 < j) (i:=x) hy]
    have ih:=tq n y (x % y) u v (Int.emod_nonneg x h) (fun _=>h0) (by have:=Int.emod_lt_of_pos x hy;omega)
    rw [tE] at ih
    rw [qj hc hs]
    exact ih
theorem m5 (F:Fun K "_law_lowest" "_law_lowest" fI f fd)    (m_abs:mg "abs" = none):FnOk P w K mg base CX0 1 f fd ["_law_top","_law_bottom"] (bL K 2 (fn hE)):=by
 have sc:=iV
 refine cy F iV (fun cdv A outer s H E ds d hr hG hl=>?_)
 obtain ⟨t,b,hb,hB,rfl,rfl⟩:=bo hG
 refine ⟨_,(bh (gn 2 sc.nd (aE wj zJ rfl m_abs PyProof.Rows.boot_abs (ae (ac 0) ag)))
  (bh (gn 3 sc.nd (ac 1))
  (bh (ot (b.toNat+1) PassesOwn.never (ve (ac 3) aj)
   (aU (wU 2 3 rfl sc.nd (ae (ac 3) (ae (bu (ac 2) (ac 3)) ag)))))
  (aU (bf (cS (ae (bH (ac 0) (ac 2)) (ae (bH (ac 1) (ac 2)) ag)))))))),?_⟩
 . show aL ((?f:SD) [some _,some _,none,none])=_
   have hg:=gE (t:=t) hb
   have hgB:Bd (gc t b):=yi (by omega) (yf (t:=t) hb) hB
   have ho:=tq (b.toNat+1) (t.natAbs:Int) b (some (.int t)) (some (.int b)) (by omega) (by omega) (by omega)
   rw [zA] at ho
   refine dI (ap (sy (d:=.int (t.natAbs:Int)) rfl) (ap (sy (d:=.int b) rfl) (ap ho (wB (d:=fr (rd t b)) ?_))))
   simp only [ab,f2,af,aa,bU,Zc,Zd,Ze,aq (C:=ay) (i:=t) ⟨hg,hgB⟩,aq (C:=ay) (i:=b) ⟨hg,hgB⟩]
   rfl
theorem j4:aG ["_law_one","_law_other_here"] ["_law_one","_law_other_here"] (am gO):=⟨rfl,rfl,rfl,by decide +kernel,rfl,by decide +kernel,by decide +kernel⟩
theorem pq (F:Fun K "_law_less" "_law_less" gO f fd)    :FnOk P w K mg base CX0 1 f fd ["_law_one","_law_other_here"] (bL K 2 (fn cg)):=by
 have sc:=j4
 refine cy F j4 (fun cdv A outer s H E ds d hr hG hl=>?_)
 obtain ⟨⟨a,b⟩,⟨c,e⟩,hp,hq,rfl,rfl⟩:=bo hG
 refine ⟨_,(aU (bf (cS (ae (fS (di (az (ac 0) aj) (az (ac 1) aj)) (di (az (ac 1) aj) (az (ac 0) aj))) (ae (di (az (ac 0) aj) (az (ac 1) aj)) ag))))),?_⟩
 . show aL ((?f:SD) [some _,some _])=_
   simp only [aL,fg,ab,fC,f2,af,aa,bU,du,eT,gI0,Zc,Zd,Ze,aq (C:=aR) (i:=a) (j:=e) ⟨hp.s1.bd,hq.s2.bd⟩,aq (C:=aR) (i:=c) (j:=b) ⟨hq.s1.bd,hp.s2.bd⟩,aq (C:=aR) (i:=b) (j:=e) ⟨hp.s2.bd,hq.s2.bd⟩]
   rfl
theorem jv:aG ["_law_found"] ["_law_found"] (am gg):=⟨rfl,rfl,rfl,by decide +kernel,rfl,by decide +kernel,by decide +kernel⟩
theorem nU (F:Fun K "_law_whole" "_law_whole" gg f fd)    (m_isinstance:mg "isinstance" = none) (m_int:mg "int" = none) (m_bool:mg "bool" = none):FnOk P w K mg base CX0 1 f fd ["_law_found"] (bL K 1 (fn gu)):=by
 have sc:=jv
 refine cy F jv (fun cdv A outer s H E ds d hr hG hl=>?_)
 obtain ⟨x,b,h,rfl,rfl⟩:=bo hG
 refine ⟨_,(aU (bf (eR (aE eU (iD qz) rfl m_isinstance boot_isinstance (ae (ac 0) (ae (ki rfl m_int boot_int) ag))) (dh (kW (aE eU (iD kZ) rfl m_isinstance boot_isinstance (ae (ac 0) (ae (ki rfl m_bool boot_bool) ag)))))))),?_⟩
 . show aL ((?f:SD) [some _])=_
   cases x <;> simp [pE] at h <;> subst h <;> rfl
theorem ly:aG ["_law_one","_law_other_here"] ["_law_one","_law_other_here"] (am iu):=⟨rfl,rfl,rfl,by decide +kernel,rfl,by decide +kernel,by decide +kernel⟩
theorem qA (F:Fun K "_law_sum" "_law_sum" iu f fd)    :FnOk P w K mg base CX0 1 f fd ["_law_one","_law_other_here"] (bL K 2 (fn bY)):=by
 have sc:=ly
 refine cy F ly (fun cdv A outer s H E ds d hr hG hl=>?_)
 obtain ⟨a,b,rfl,rfl⟩:=bo hG
 refine ⟨_,(bh (dF (PWD.pt (g6 (dQ (ac 0) bJ) (gk (dQ (ac 1) bJ)))) (aU (bf bJ)) cL)
  (aU (bf (cS (ae (bQ (az (ac 0) aj) (az (ac 1) aj)) (ae (oy (az (ac 0) aj) (dh (az (ac 1) aj))) ag)))))),?_⟩
 . show aL ((?f:SD) [some _,some _])=_
   rcases a with _ | ⟨n,s⟩
   . rfl
   rcases b with _ | ⟨m,t⟩
   . rfl
   show aL _=some (.tup [.int (n+m),.bl (s || t)])
   cases s <;> rfl
theorem iJ:aG ["_law_one","_law_other_here"] ["_law_one","_law_other_here"] (am eI):=⟨rfl,rfl,rfl,by decide +kernel,rfl,by decide +kernel,by decide +kernel⟩
theorem lM (F:Fun K "_law_tighter" "_law_tighter" eI f fd)    :FnOk P w K mg base CX0 1 f fd ["_law_one","_law_other_here"] (bL K 2 (fn aQ)):=by
 have sc:=iJ
 refine cy F iJ (fun cdv A outer s H E ds d hr hG hl=>?_)
 obtain ⟨a,b,rfl,rfl⟩:=bo hG
 refine ⟨_,(bh (dF (dQ (ac 0) bJ) (aU (bf d5)) cL)
  (aU (bf (oy (yY (ac 1) bJ) (oy (qv (az (ac 0) aj) (az (ac 1) aj)) (dh (eR (xZ hr.units0 (az (ac 0) aj) (az (ac 1) aj)) (eR (az (ac 0) aj) (dh (kW (az (ac 1) aj))))))))))),?_⟩
 . show aL ((?f:SD) [some _,some _])=_
   rcases a with _ | ⟨n,s⟩
   . rfl
   rcases b with _ | ⟨m,t⟩
   . rfl
   rw [rj]
   by_cases h:n=m
   . subst h
     have h1:decide (n < n)=false:=by simp
     rw [if_pos rfl]
     cases s <;> simp only [aL,ba,df,ax,fg,sIf,ab,fC,f2,f1,fT,asB,cj,nY,pF,du,eT,gI0,dC,Zc,Zd,Ze,beq_self_eq_true,bI,fu,cY,gLt,h1] <;> rfl
   . rw [if_neg h]
     have h0:(n == m)=false:=by simp [h]
     cases q:decide (n < m) with
     | true=>simp only [aL,ba,df,ax,fg,sIf,ab,fC,f2,f1,fT,asB,cj,nY,pF,du,eT,gI0,dC,Zc,Zd,Ze,bI,fu,cY,gLt,q]
     | false=>simp only [aL,ba,df,ax,fg,sIf,ab,fC,f2,f1,fT,asB,cj,nY,pF,du,eT,gI0,dC,Zc,Zd,Ze,bI,fu,cY,gLt,q,h0]
theorem jy:aG ["_law_part_here","_law_bound"] ["_law_part_here","_law_bound"] (am gj):=⟨rfl,rfl,rfl,by decide +kernel,rfl,by decide +kernel,by decide +kernel⟩
theorem nX (F:Fun K "_law_keeps" "_law_keeps" gj f fd)    :FnOk P w K mg base CX0 1 f fd ["_law_part_here","_law_bound"] (bL K 2 (fn eZ)):=by
 have sc:=jy
 refine cy F jy (fun cdv A outer s H E ds d hr hG hl=>?_)
 obtain ⟨⟨a,b⟩,c,hp,hc,rfl,rfl⟩:=bo hG
 refine ⟨_,(bh (dF (dQ (ac 1) bJ) (aU (bf d5)) cL)
  (aU (bf (oy (qv (az (ac 0) aj) (di (az (ac 1) aj) (az (ac 0) aj))) (dh (eR (xZ hr.units0 (az (ac 0) aj) (di (az (ac 1) aj) (az (ac 0) aj))) (dh (kW (az (ac 1) aj))))))))),?_⟩
 . show aL ((?f:SD) [some _,some _])=_
   rcases c with _ | ⟨n,s⟩
   . rfl
   . have mb:aR n b:=⟨Sm.mono (show Sm 4000 n from hc) (by decide),hp.s2.bd⟩
     rw [<- AO]
     cases h1:decide (a < n*b) with
     | true=>simp only [aL,ba,df,ax,fg,sIf,ab,fC,f2,f1,fT,asB,cj,nY,pF,du,eT,gI0,dC,Zc,Zd,Ze,bI,fu,cY,gLt,dC,aq (C:=aR) mb,h1,Bool.true_or]
     | false =>
      cases h2:(a == n*b) with
      | true=>simp only [aL,ba,df,ax,fg,sIf,ab,fC,f2,f1,fT,asB,cj,nY,pF,du,eT,gI0,dC,Zc,Zd,Ze,bI,fu,cY,gLt,dC,aq (C:=aR) mb,h1,h2,Bool.false_or,Bool.true_and]
      | false=>simp only [aL,ba,df,ax,fg,sIf,ab,fC,f2,f1,fT,asB,cj,nY,pF,du,eT,gI0,dC,Zc,Zd,Ze,bI,fu,cY,gLt,dC,aq (C:=aR) mb,h1,h2,Bool.false_or,Bool.false_and]
theorem oj:aG ["top","bottom","divisor"] ["top","bottom"] (am j6):=⟨rfl,rfl,rfl,by decide +kernel,rfl,by decide +kernel,by decide +kernel⟩
theorem ug (F:Fun K "lowest" "lowest" j6 f fd)  (hcommon_divisor:Has P w K mg base 1 "common_divisor" ["number","above_nought"] (fn fG))  :FnOk P w K mg base CX0 2 f fd ["top","bottom"] (bL K 2 (fn nL)):=by
 have sc:=oj
 refine cy F oj (fun cdv A outer s H E ds d hr hG hl=>?_)
 obtain ⟨t,b,hb,hB,rfl,rfl⟩:=bo hG
 refine ⟨_,(bh (gn 2 sc.nd (aD hcommon_divisor hr (ae (ac 0) (ae (ac 1) ag))))
  (aU (bf (cS (ae (bH (ac 0) (ac 2)) (ae (bH (ac 1) (ac 2)) ag)))))),?_⟩
 . show aL ((?f:SD) [some _,some _,none])=_
   have hg:=gE (t:=t) hb
   have hgB:Bd (gc t b):=yi (by omega) (yf (t:=t) hb) hB
   simp only [aL,df,ax,fg,mK,ab,f2,af,aa,bU,ah,Zc,Zd,Ze,Zf,Zg,lf (a:=t) hb,aq (C:=ay) (i:=t) ⟨hg,hgB⟩,aq (C:=ay) (i:=b) ⟨hg,hgB⟩]
   rfl
theorem ju:aG ["one","other"] ["one","other"] (am gf):=⟨rfl,rfl,rfl,by decide +kernel,rfl,by decide +kernel,by decide +kernel⟩
theorem nS (F:Fun K "tighter_of" "tighter_of" gf f fd)  (htighter:Has P w K mg base 1 "tighter" ["one","other"] (fn dD))  :FnOk P w K mg base CX0 2 f fd ["one","other"] (bL K 2 (fn cD)):=by
 have sc:=ju
 refine cy F ju (fun cdv A outer s H E ds d hr hG hl=>?_)
 obtain ⟨a,b,rfl,rfl⟩:=bo hG
 refine ⟨_,(bh (dF (ck (aD htighter hr (ae (ac 1) (ae (ac 0) ag)))) (aU (bf (ac 1))) cL)
  (aU (bf (ac 0)))),?_⟩
 . show aL ((?f:SD) [some _,some _])=_
   cases ht:tgt b a with
   | false=>simp only [aL,ba,df,ax,fg,sIf,ab,fT,asB,af,aa,ah,Zc,Zd,Ze,fB,ht,tgo];rfl
   | true=>simp only [aL,ba,df,ax,fg,sIf,ab,fT,asB,af,aa,ah,Zc,Zd,Ze,fB,ht,tgo];rfl
theorem iG:aG ["table","bounds","thing"] ["table"] (am eD):=⟨rfl,rfl,rfl,by decide +kernel,rfl,by decide +kernel,by decide +kernel⟩
theorem lJ (F:Fun K "with_noughts" "with_noughts" eD f fd)  (hcopied:HasF P w K mg base 1 "copied" ["table"] (fn nM))  (m_range:mg "range" = none) (m_len:mg "len" = none):FnOk P w K mg base CX0 2 f fd ["table"] (bV K 1 (fn gG)):=by
 have sc:=iG
 refine bZ F iG (fun cdv A outer s H E ds d hr hG hl=>?_)
 obtain ⟨d0,T,n,hT,hs,hn,rfl,rfl⟩:=bo hG
 have hown:=bR (aB n (cz T))
 refine ⟨_,(au (aW 1 sc.nd (cK hcopied hr (ae (ac 0) ag)))
  (au (cu 2 sc.nd PassesOwn.never rfl (aT rfl m_range (ae (aE aC bN rfl m_len PySem.boot_len (ae (ac 0) ag)) ag))
   (aF (kf 1 (aN (cS (ae aj (ae d5 ag)))) (jP (iY ix_list (pvi 1) (ac 2) (fun _ _=>rfl)) (ac 2) gy))))
  (aF (bM (bq 1))))),?_,?own⟩
 case own=>first | rfl | exact hown
 . show aL ((?f:SD) (aS 3 _))=_
   have e0:aS 3 [d0]=[some (aw T),none,none]:=by
    show [some (sh d0),none,none]=_
    rw [show sh d0=aw T from hT]
   rw [e0]
   have len:bP [aw T]=some (.int (n:Int)):=iB hs
   have hv:=fun o1 o2:Option D=>db (g:=aa (ah bP (aa (ab 0) af)) af) (δ:=[some (aw T),o1,o2]) (n:=n) (by simp only [ab,af,aa,ah,Zc,Zd,len]) (by omega)
   obtain ⟨_,w,o,rfl⟩:=bC (i:=2) (s:=((dH 1 (ab 2) (ab 2) (vI (bU (aa (fC (.int 0)) (aa (fC (.bl false)) af))))))) (f:=fun (i:Nat)=>D.int (i:Int)) (fun pre δ=>∃ o,δ=[some (aw T),some (ak (aB n fun i j=>if i=j/\i < pre.length then b0 else ao T i j)),o]) (List.range n) (by
    rintro pre x post _ hx ⟨o,rfl⟩
    obtain ⟨rfl,hl⟩:=bg hx
    refine ⟨_,l5 (b:=b0) (be n _) hl hl (bw (d:=bdD b0) rfl (eS b0)) rfl rfl rfl,some (.int (pre.length:Int)),?_⟩
    rw [jj _ _ hl hl]
    have e:aB n (up2 (fun i j=>if i=j/\i < pre.length then b0 else ao T i j) pre.length pre.length b0)=aB n fun i j=>if i=j/\i < (pre++[pre.length]).length then b0 else ao T i j:=bc fun i j hi hj=>by
     unfold up2
     rw [Zh,Zj]
     by_cases a:i=pre.length/\j=pre.length
     . rw [if_pos a,if_pos ⟨by omega,by omega⟩]
     . rw [if_neg a]
       dsimp only
       by_cases b:i=j/\i < pre.length
       . rw [if_pos b,if_pos ⟨b.1,by omega⟩]
       . rw [if_neg b,if_neg fun z=>?_]
         by_cases q:i < pre.length
         . exact b ⟨z.1,q⟩
         . exact a ⟨by omega,by omega⟩
    rw [e]
    rfl) (List.range n) [] [some (aw T),some (ak T),none] rfl ⟨none,by
     have e:aB n (fun i j=>if i=j/\i < ([]:List Nat).length then b0 else ao T i j)=T:=(bc fun i j _ _=>if_neg fun z=>by have:=z.2;simp at this).trans (oP hs)
     rw [e]⟩
   have e:aB n (fun i j=>if i=j/\i < (List.range n).length then b0 else ao T i j)=aB n (cz T):=bc fun i j hi hj=>by
    unfold cz
    rw [List.length_range]
    by_cases a:i=j
    . rw [if_pos a,if_pos ⟨a,hi⟩]
    . rw [if_neg a,if_neg fun z=>a z.1]
   rw [e] at w
   exact dI (ap (aV (de (ds:=[aw T]) rfl (wa (pC T) hs hn) (bR T))) (ap (bD (hv _ _) w) (cr (dS rfl))))
theorem iI:aG ["bounds","ways","middle","i","j","total"] ["bounds","ways","middle"] (am eF):=⟨rfl,rfl,rfl,by decide +kernel,rfl,by decide +kernel,by decide +kernel⟩
theorem lL (F:Fun K "lead_through" "lead_through" eF f fd)  (hbound_sum:Has P w K mg base 1 "bound_sum" ["one","other"] (fn bT)) (htighter:Has P w K mg base 1 "tighter" ["one","other"] (fn dD))  (m_range:mg "range" = none) (m_len:mg "len" = none):FnOk P w K mg base CX0 2 f fd ["bounds","ways","middle"] (qD K 3 (fnM eY)):=by
 have sc:=iI
 refine zj F iI (fun cdv A outer s H E Z d0 d1 es d0' d1' hr zk hG=>?_)
 obtain ⟨n,m,f,p,ok,h0,hds,hp⟩:=xE hG
 injection hds with a1 hds
 injection hds with a2 hds
 subst a1 a2 hds
 cases hp
 refine ⟨_,(g4 (u8 3 zk sc.nd PassesOwn.never rfl (aT rfl m_range (ae (aE aC bN rfl m_len PySem.boot_len (ae (ac 0) ag)) ag))
  (g4 (u8 4 zk sc.nd PassesOwn.never rfl (aT rfl m_range (ae (aE aC bN rfl m_len PySem.boot_len (ae (ac 0) ag)) ag))
   (fK (rE 5 zk sc.nd (aN (aD hbound_sum hr (ae (az (az (ac 0) (ac 3)) (ac 2)) (ae (az (az (ac 0) (ac 2)) (ac 4)) ag)))))
   (g4 (qt (ck (aD htighter hr (ae (ac 5) (ae (az (az (ac 0) (ac 3)) (ac 4)) ag)))) (fK (sU 0 (bq 5) (jP (iY ix_list (pvi 0) (ac 3) (fun _ _=>rfl)) (ac 4) gy))
    (g4 (sU 1 (l7 (az (az (ac 1) (ac 3)) (ac 2)) (az (az (ac 1) (ac 2)) (ac 4))) (jP (iY ix_list (pvi 1) (ac 3) (fun _ _=>rfl)) (ac 4) gy)))) mO))))))),?_⟩
 . show ∃ δ',(?f:SD) (mE 6 _ _ _)=some (.nx δ')/\_
   have hm:=ok.mn
   have hn:=ok.n41
   have e0:mE 6 (ak (aB n f)) (.lst (aY n p)) [.int (m:Int)]=[some (ak (aB n f)),some (.lst (aY n p)),some (.int (m:Int)),none,none,none]:=rfl
   rw [e0]
   have row:∀ j,ldF f m m j=f m j/\ldP f p m m j=p m j:=fun j=>by
    unfold ldF ldP
    rw [h0,jD,iT]
    exact ⟨rfl,rfl⟩
   have col:∀ i,ldF f m i m=f i m/\ldP f p m i m=p i m:=fun i=>by
    unfold ldF ldP
    rw [h0,eV,iT]
    exact ⟨rfl,rfl⟩
   obtain ⟨g,hg⟩:∃ g:Nat->Nat->Nat->Nat->Bn,g=fun i j x y=>if x < i \/ (x=i/\y < j) then ldF f m x y else f x y:=⟨_,rfl⟩
   obtain ⟨r,hr'⟩:∃ r:Nat->Nat->Nat->Nat->List Nat,r=fun i j x y=>if x < i \/ (x=i/\y < j) then ldP f p m x y else p x y:=⟨_,rfl⟩
   have g1:∀ i j x,g i j x m=f x m/\r i j x m=p x m:=fun i j x=>by
    rw [hg,hr']
    dsimp only
    split
    . exact col x
    . exact ⟨rfl,rfl⟩
   have g2:∀ i j y,g i j m y=f m y/\r i j m y=p m y:=fun i j y=>by
    rw [hg,hr']
    dsimp only
    split
    . exact row y
    . exact ⟨rfl,rfl⟩
   have g3:∀ i j,g i j i j=f i j/\r i j i j=p i j:=fun i j=>by
    rw [hg,hr']
    dsimp only
    rw [if_neg (by omega),if_neg (by omega)]
    exact ⟨rfl,rfl⟩
   have lenO:=fun i j=>pz (be n (g i j))
   have hv:=fun i j (o3 o4 o5:Option D)=>db (g:=aa (ah bP (aa (ab 0) af)) af) (δ:=[some (ak (aB n (g i j))),some (.lst (aY n (r i j))),some (.int (m:Int)),o3,o4,o5]) (n:=n) (by simp only [ab,af,aa,ah,Zc,Zd,lenO]) (by omega)
   have inn:∀ (i:Nat),i < n->∀ o4 o5:Option D,∃ δ',Dl.forM 4 ((ax (av 5 (vI (ah (fn bT) (aa (f2 gIx (f2 gIx (ab 0) (ab 3)) (ab 2)) (aa (f2 gIx (f2 gIx (ab 0) (ab 2)) (ab 4)) af))))) (sIf (fT (ah (fn dD) (aa (ab 5) (aa (f2 gIx (f2 gIx (ab 0) (ab 3)) (ab 4)) af)))) (ax (gA 0 (ab 3) (ab 4) (bn 5)) (gA 1 (ab 3) (ab 4) (hV (f2 gIx (f2 gIx (ab 1) (ab 3)) (ab 2)) (f2 gIx (f2 gIx (ab 1) (ab 2)) (ab 4))))) ba))) ((List.range n).map fun (i:Nat)=>D.int (i:Int)) [some (ak (aB n (g i 0))),some (.lst (aY n (r i 0))),some (.int (m:Int)),some (.int (i:Int)),o4,o5]=some (.nx δ')/\∃ o4 o5,δ'=[some (ak (aB n (g i n))),some (.lst (aY n (r i n))),some (.int (m:Int)),some (.int (i:Int)),o4,o5]:=fun i hi o4 o5=>by
    have:=bC (i:=4) (s:=((ax (av 5 (vI (ah (fn bT) (aa (f2 gIx (f2 gIx (ab 0) (ab 3)) (ab 2)) (aa (f2 gIx (f2 gIx (ab 0) (ab 2)) (ab 4)) af))))) (sIf (fT (ah (fn dD) (aa (ab 5) (aa (f2 gIx (f2 gIx (ab 0) (ab 3)) (ab 4)) af)))) (ax (gA 0 (ab 3) (ab 4) (bn 5)) (gA 1 (ab 3) (ab 4) (hV (f2 gIx (f2 gIx (ab 1) (ab 3)) (ab 2)) (f2 gIx (f2 gIx (ab 1) (ab 2)) (ab 4))))) ba)))) (f:=fun (i:Nat)=>D.int (i:Int)) (fun pre δ=>∃ o4 o5,δ=[some (ak (aB n (g i pre.length))),some (.lst (aY n (r i pre.length))),some (.int (m:Int)),some (.int (i:Int)),o4,o5]) (List.range n) (by
     rintro pre x post _ hx ⟨o4,o5,rfl⟩
     obtain ⟨rfl,hj⟩:=bg hx
     rw [Zh,Zj]
     generalize pre.length=j at *
     obtain ⟨r1,q1,q2,q3,q4,q5⟩:=gD (be n (g i j)) hi hm
     obtain ⟨r2,u1,u2,u3,u4,u5⟩:=gD (be n (g i j)) hm hj
     obtain ⟨r3,v1,v2,v3,v4,v5⟩:=gD (be n (g i j)) hi hj
     rw [br _ hi hm,(g1 i j i).1] at q2
     rw [br _ hm hj,(g2 i j j).1] at u2
     rw [br _ hi hj,(g3 i j).1] at v2
     have s1:((av 5 (vI (ah (fn bT) (aa (f2 gIx (f2 gIx (ab 0) (ab 3)) (ab 2)) (aa (f2 gIx (f2 gIx (ab 0) (ab 2)) (ab 4)) af)))))) [some (ak (aB n (g i j))),some (.lst (aY n (r i j))),some (.int (m:Int)),some (.int (i:Int)),some (.int (j:Int)),o5]=some (.nx [some (ak (aB n (g i j))),some (.lst (aY n (r i j))),some (.int (m:Int)),some (.int (i:Int)),some (.int (j:Int)),some (bdD (bs (f i m) (f m j)))]):=cQ (bw (d:=bdD (bs (f i m) (f m j))) (by simp only [ab,f2,af,aa,ah,Zc,Zd,Ze,q1,q2,u1,u2,gS]) (eS _))
     cases ht:tgt (bs (f i m) (f m j)) (f i j) with
     | false =>
      refine ⟨_,ap s1 (bA (by simp only [ab,f2,fT,asB,af,aa,ah,Zc,Zd,Ze,v1,v2,fB,ht]) rfl),some (.int (j:Int)),some (bdD (bs (f i m) (f m j))),?_⟩
      have t1:aB n (g i j)=aB n (g i (j+1)):=bc fun x y hx hy=>by
       rw [hg]
       dsimp only
       by_cases z:x < i \/ (x=i/\y < j)
       . rw [if_pos z,if_pos (by omega)]
       . rw [if_neg z]
         by_cases z2:x=i/\y=j
         . rw [if_pos (by omega)]
           obtain ⟨rfl,rfl⟩:=z2
           unfold ldF
           rw [ht]
           rfl
         . rw [if_neg (by omega)]
      have t2:aY n (r i j)=aY n (r i (j+1)):=ff fun x y hx hy=>by
       rw [hr']
       dsimp only
       by_cases z:x < i \/ (x=i/\y < j)
       . rw [if_pos z,if_pos (by omega)]
       . rw [if_neg z]
         by_cases z2:x=i/\y=j
         . rw [if_pos (by omega)]
           obtain ⟨rfl,rfl⟩:=z2
           unfold ldP
           rw [ht]
           rfl
         . rw [if_neg (by omega)]
      rw [t1,t2]
     | true =>
      obtain ⟨w1,w2⟩:=qG (r i j) hi hm
      obtain ⟨w3,w4⟩:=qG (r i j) hm hj
      rw [(g1 i j i).2] at w2
      rw [(g2 i j j).2] at w4
      have l1:=ok.ln i m hi hm
      have l2:=ok.ln m j hm hj
      have ei:aP (p i m++p m j)=aP (p i m)++aP (p m j):=List.map_append
      have t1:jt (aB n (g i j)) i j (bs (f i m) (f m j))=aB n (g i (j+1)):=by
       rw [jj _ _ hi hj]
       refine bc fun x y hx hy=>?_
       rw [hg]
       unfold up2
       dsimp only
       by_cases z2:x=i/\y=j
       . rw [if_pos z2,if_pos (by omega)]
         obtain ⟨rfl,rfl⟩:=z2
         unfold ldF
         rw [ht]
         rfl
       . rw [if_neg z2]
         by_cases z:x < i \/ (x=i/\y < j)
         . rw [if_pos z,if_pos (by omega)]
         . rw [if_neg z,if_neg (by omega)]
      have t2:(aY n (r i j)).set i (.lst ((fY n (r i j i)).set j (.lst (aP (p i m++p m j)))))=aY n (r i (j+1)):=by
       rw [uS _ _ hi hj]
       refine ff fun x y hx hy=>?_
       rw [hr']
       unfold up2
       dsimp only
       by_cases z2:x=i/\y=j
       . rw [if_pos z2,if_pos (by omega)]
         obtain ⟨rfl,rfl⟩:=z2
         unfold ldP
         rw [ht]
         rfl
       . rw [if_neg z2]
         by_cases z:x < i \/ (x=i/\y < j)
         . rw [if_pos z,if_pos (by omega)]
         . rw [if_neg z,if_neg (by omega)]
      have p1:=sI (δ:=[some (ak (aB n (g i j))),some (.lst (aY n (r i j))),some (.int (m:Int)),some (.int (i:Int)),some (.int (j:Int)),some (bdD (bs (f i m) (f m j)))]) (p:=0) (fk:=ab 3) (fl:=ab 4) (fm:=bn 5) (v:=bdD (bs (f i m) (f m j))) (i:=i) (j:=j) (iQ rfl) rfl rfl v3 rfl (by rw [ii,v4];exact hj)
      rw [kP v5,t1] at p1
      have p1':gA 0 (ab 3) (ab 4) (bn 5) [some (ak (aB n (g i j))),some (.lst (aY n (r i j))),some (.int (m:Int)),some (.int (i:Int)),some (.int (j:Int)),some (bdD (bs (f i m) (f m j)))]=some (.nx [some (ak (aB n (g i (j+1)))),some (.lst (aY n (r i j))),some (.int (m:Int)),some (.int (i:Int)),some (.int (j:Int)),some (bdD (bs (f i m) (f m j)))]):=by
       rw [p1]
       unfold ak
       rfl
      have p2:=sI (δ:=[some (ak (aB n (g i (j+1)))),some (.lst (aY n (r i j))),some (.int (m:Int)),some (.int (i:Int)),some (.int (j:Int)),some (bdD (bs (f i m) (f m j)))]) (p:=1) (fk:=ab 3) (fl:=ab 4) (fm:=hV (f2 gIx (f2 gIx (ab 1) (ab 3)) (ab 2)) (f2 gIx (f2 gIx (ab 1) (ab 2)) (ab 4))) (v:=.lst (aP (p i m++p m j))) (i:=i) (j:=j) (by
       rw [ei]
       exact oN (a:=.lst (aP (p i m))) (b:=.lst (aP (p m j))) (by simp only [ab,f2,Zc,Zd,Ze,w1,w2]) (by simp only [ab,f2,Zc,Zd,Ze,w3,w4]) rfl rfl (by unfold aP;rw [Zi,Zi];omega) (by rw [<- ei];exact ni _)) rfl rfl (bi _ hi) rfl (by unfold fY;rw [Zi,List.length_range];exact hj)
      rw [t2] at p2
      have p2':gA 1 (ab 3) (ab 4) (hV (f2 gIx (f2 gIx (ab 1) (ab 3)) (ab 2)) (f2 gIx (f2 gIx (ab 1) (ab 2)) (ab 4))) [some (ak (aB n (g i (j+1)))),some (.lst (aY n (r i j))),some (.int (m:Int)),some (.int (i:Int)),some (.int (j:Int)),some (bdD (bs (f i m) (f m j)))]=some (.nx [some (ak (aB n (g i (j+1)))),some (.lst (aY n (r i (j+1)))),some (.int (m:Int)),some (.int (i:Int)),some (.int (j:Int)),some (bdD (bs (f i m) (f m j)))]):=by
       rw [p2]
       rfl
      have cnd:(fT (ah (fn dD) (aa (ab 5) (aa (f2 gIx (f2 gIx (ab 0) (ab 3)) (ab 4)) af)))) [some (ak (aB n (g i j))),some (.lst (aY n (r i j))),some (.int (m:Int)),some (.int (i:Int)),some (.int (j:Int)),some (bdD (bs (f i m) (f m j)))]=some true:=by simp only [ab,f2,fT,asB,af,aa,ah,Zc,Zd,Ze,v1,v2,fB,ht]
      exact ⟨_,ap s1 (c9 cnd (ap p1' p2')),some (.int (j:Int)),some (bdD (bs (f i m) (f m j))),rfl⟩) (List.range n) [] [some (ak (aB n (g i 0))),some (.lst (aY n (r i 0))),some (.int (m:Int)),some (.int (i:Int)),o4,o5] rfl ⟨_,_,rfl⟩
    rw [List.length_range] at this
    exact this
   have nxt:∀ i,aB n (g i n)=aB n (g (i+1) 0)/\aY n (r i n)=aY n (r (i+1) 0):=fun i=>by
    refine ⟨bc fun x y hx hy=>?_,ff fun x y hx hy=>?_⟩
    . rw [hg]
      dsimp only
      by_cases z:x < i \/ (x=i/\y < n)
      . rw [if_pos z,if_pos (by omega)]
      . rw [if_neg z,if_neg (by omega)]
    . rw [hr']
      dsimp only
      by_cases z:x < i \/ (x=i/\y < n)
      . rw [if_pos z,if_pos (by omega)]
      . rw [if_neg z,if_neg (by omega)]
   obtain ⟨_,w,o3,o4,o5,rfl⟩:=bC (i:=3) (s:=((cn (bX (aa (ah bP (aa (ab 0) af)) af)) 4 (ax (av 5 (vI (ah (fn bT) (aa (f2 gIx (f2 gIx (ab 0) (ab 3)) (ab 2)) (aa (f2 gIx (f2 gIx (ab 0) (ab 2)) (ab 4)) af))))) (sIf (fT (ah (fn dD) (aa (ab 5) (aa (f2 gIx (f2 gIx (ab 0) (ab 3)) (ab 4)) af)))) (ax (gA 0 (ab 3) (ab 4) (bn 5)) (gA 1 (ab 3) (ab 4) (hV (f2 gIx (f2 gIx (ab 1) (ab 3)) (ab 2)) (f2 gIx (f2 gIx (ab 1) (ab 2)) (ab 4))))) ba))))) (f:=fun (i:Nat)=>D.int (i:Int)) (fun pre δ=>∃ o3 o4 o5,δ=[some (ak (aB n (g pre.length 0))),some (.lst (aY n (r pre.length 0))),some (.int (m:Int)),o3,o4,o5]) (List.range n) (by
    rintro pre x post _ hx ⟨o3,o4,o5,rfl⟩
    obtain ⟨rfl,hi⟩:=bg hx
    rw [Zh,Zj]
    generalize pre.length=i at *
    obtain ⟨_,f1,o4',o5',rfl⟩:=inn i hi o4 o5
    rw [(nxt i).1,(nxt i).2] at f1
    exact ⟨_,bD (hv i 0 _ _ _) f1,_,_,_,rfl⟩) (List.range n) [] [some (ak (aB n (g 0 0))),some (.lst (aY n (r 0 0))),some (.int (m:Int)),none,none,none] rfl ⟨_,_,_,rfl⟩
   rw [List.length_range] at w
   have z1:aB n (g 0 0)=aB n f:=bc fun x y hx hy=>by rw [hg];exact if_neg (by omega)
   have z2:aY n (r 0 0)=aY n p:=ff fun x y hx hy=>by rw [hr'];exact if_neg (by omega)
   have z3:aB n (g n 0)=aB n (ldF f m):=bc fun x y hx hy=>by rw [hg];exact if_pos (by omega)
   have z4:aY n (r n 0)=aY n (ldP f p m):=ff fun x y hx hy=>by rw [hr'];exact if_pos (by omega)
   have hv0:=hv 0 0 none none none
   rw [z1,z2] at w hv0
   rw [z3,z4] at w
   exact ⟨_,bD hv0 w,rfl,rfl⟩
theorem gK:aG ["_law_seed","_law_k","_law_most","_law_cell","_law_table","_law_i","_law_j","_law_digit","_law_bound","_law_drawn"] ["_law_seed","_law_k","_law_most"] (am dz):=⟨rfl,rfl,rfl,by decide +kernel,rfl,by decide +kernel,by decide +kernel⟩
def bO (ds:List D) (d:D):Prop:=aL (((ax (av 3 (bn 0)) (ax (av 4 (jH fZ)) (ax (cn (bX (aa (f2 bv (ab 1) (fC (.int 1))) af)) 5 (ax (iw 4 (jH fZ)) (cn (bX (aa (f2 bv (ab 1) (fC (.int 1))) af)) 6 (ax (av 7 (vI (f2 (gI (fun _ j=>0 < j) fun i j=>.int (i % j)) (ab 3) (f2 bv (f2 (gI aR fun i j=>.int (i*j)) (fC (.int 4)) (ab 2)) (fC (.int 3)))))) (ax (sIf (fT (f2 gIn (ab 3) (bU (aa (fC (.int 0)) (aa (f1 g9 (fC (.int 1))) af))))) (ax (av 9 (cI (fn aM) (aa (ab 0) (aa (f2 bv (f2 (gI aR fun i j=>.int (i*j)) (fC (.int 9)) (ab 5)) (ab 6)) af)))) (av 7 (vI (f2 gIx (fP (aa (fC (.int 0)) (aa (fC (.int 0)) (aa (f2 bv (fC (.int 1)) (f2 (gI (fun _ j=>0 < j) fun i j=>.int (i % j)) (f2 (gI ay fun i j=>.int (i / j)) (ab 9) (fC (.int 3))) (f2 bv (f2 (gI aR fun i j=>.int (i*j)) (fC (.int 4)) (ab 2)) (fC (.int 2))))) af)))) (f2 (gI (fun _ j=>0 < j) fun i j=>.int (i % j)) (ab 9) (fC (.int 3))))))) ba) (ax (av 3 (vI (f2 (gI ay fun i j=>.int (i / j)) (ab 3) (f2 bv (f2 (gI aR fun i j=>.int (i*j)) (fC (.int 4)) (ab 2)) (fC (.int 3)))))) (ax (av 8 (vI (fC .non))) (ax (sIf (fT (f2 gGt (ab 7) (fC (.int 0)))) (av 8 (vI (bU (aa (f2 (gI0 fun i j=>.int (i - j)) (f2 (gI ay fun i j=>.int (i / j)) (f2 (gI0 fun i j=>.int (i - j)) (ab 7) (fC (.int 1))) (fC (.int 2))) (ab 2)) (aa (f2 ce (f2 (gI (fun _ j=>0 < j) fun i j=>.int (i % j)) (ab 7) (fC (.int 2))) (fC (.int 0))) af))))) ba) (gB 4 (ab 5) (bn 8)))))))))) (cw (bn 4)))))) (aS 10 ds))=some d/\own d=true
theorem AZ (seed k most c:Int) (T:List (List Bn)) (r:List Bn) (i j:Nat) (o7 o8 o9:Option D) (hm0:0<=most) (hm1:most<=10 ^ 55) (hT:T.length=i) (hr:r.length=j) (hi:i<=40) (hj:j<=40):∃ (c':Int) (b:Bn) (p7 p9:Option D),Bk 190 b /\
 ((ax (av 7 (vI (f2 (gI (fun _ j=>0 < j) fun i j=>.int (i % j)) (ab 3) (f2 bv (f2 (gI aR fun i j=>.int (i*j)) (fC (.int 4)) (ab 2)) (fC (.int 3)))))) (ax (sIf (fT (f2 gIn (ab 3) (bU (aa (fC (.int 0)) (aa (f1 g9 (fC (.int 1))) af))))) (ax (av 9 (cI (fn aM) (aa (ab 0) (aa (f2 bv (f2 (gI aR fun i j=>.int (i*j)) (fC (.int 9)) (ab 5)) (ab 6)) af)))) (av 7 (vI (f2 gIx (fP (aa (fC (.int 0)) (aa (fC (.int 0)) (aa (f2 bv (fC (.int 1)) (f2 (gI (fun _ j=>0 < j) fun i j=>.int (i % j)) (f2 (gI ay fun i j=>.int (i / j)) (ab 9) (fC (.int 3))) (f2 bv (f2 (gI aR fun i j=>.int (i*j)) (fC (.int 4)) (ab 2)) (fC (.int 2))))) af)))) (f2 (gI (fun _ j=>0 < j) fun i j=>.int (i % j)) (ab 9) (fC (.int 3))))))) ba) (ax (av 3 (vI (f2 (gI ay fun i j=>.int (i / j)) (ab 3) (f2 bv (f2 (gI aR fun i j=>.int (i*j)) (fC (.int 4)) (ab 2)) (fC (.int 3)))))) (ax (av 8 (vI (fC .non))) (ax (sIf (fT (f2 gGt (ab 7) (fC (.int 0)))) (av 8 (vI (bU (aa (f2 (gI0 fun i j=>.int (i - j)) (f2 (gI ay fun i j=>.int (i / j)) (f2 (gI0 fun i j=>.int (i - j)) (ab 7) (fC (.int 1))) (fC (.int 2))) (ab 2)) (aa (f2 ce (f2 (gI (fun _ j=>0 < j) fun i j=>.int (i % j)) (ab 7) (fC (.int 2))) (fC (.int 0))) af))))) ba) (gB 4 (ab 5) (bn 8)))))))) [some (.int seed),some (.int k),some (.int most),some (.int c),some (.lst (aZ T++[.lst (aJ r)])),some (.int (i:Int)),some (.int (j:Int)),o7,o8,o9]=some (.nx [some (.int seed),some (.int k),some (.int most),some (.int c'),some (.lst (aZ T++[.lst (aJ (r++[b]))])),some (.int (i:Int)),some (.int (j:Int)),p7,some (bdD b),p9]):=by
 have m1:aR 4 most:=⟨cJ,nJ (k:=200) (Sm.of (by omega) (by omega))⟩
 have hd:0 < 4*most+3:=by omega
 have hd2:0 < 4*most+2:=by omega
 have dv:ay c (4*most+3):=⟨hd,nJ (k:=200) (Sm.of (by omega) (by omega))⟩
 have mi9:aR 9 (i:Int):=⟨cJ,cJ (by omega)⟩
 have mx:=gr (c:=seed) (k:=9*(i:Int)+(j:Int)) (by omega) (by omega)
 obtain ⟨w,hw⟩:∃ w,w=mxd seed (9*(i:Int)+(j:Int)):=⟨_,rfl⟩
 rw [<- hw] at mx
 have d3:ay w 3:=⟨by decide,cJ⟩
 have hin:gIn (.int c) (.tup [.int 0,.int (-1)])=some (.bl (c == 0 || c == -1)):=by
  show some (D.bl ([D.int 0,D.int (-1)].any fun y=>eqF y (.int c)))=_
  have e1:((0:Int) == c)=(c == 0):=by rw [Bool.eq_iff_iff,beq_iff_eq,beq_iff_eq];exact eq_comm
  have e2:((-1:Int) == c)=(c == -1):=by rw [Bool.eq_iff_iff,beq_iff_eq,beq_iff_eq];exact eq_comm
  show some (D.bl (((0:Int) == c) || (((-1:Int) == c) || false)))=_
  rw [e1,e2,Bool.or_false]
 obtain ⟨g,p9,hg0,hg1,hst⟩:∃ (g:Int) (p9:Option D),0<=g/\g<=4*most+3/\((sIf (fT (f2 gIn (ab 3) (bU (aa (fC (.int 0)) (aa (f1 g9 (fC (.int 1))) af))))) (ax (av 9 (cI (fn aM) (aa (ab 0) (aa (f2 bv (f2 (gI aR fun i j=>.int (i*j)) (fC (.int 9)) (ab 5)) (ab 6)) af)))) (av 7 (vI (f2 gIx (fP (aa (fC (.int 0)) (aa (fC (.int 0)) (aa (f2 bv (fC (.int 1)) (f2 (gI (fun _ j=>0 < j) fun i j=>.int (i % j)) (f2 (gI ay fun i j=>.int (i / j)) (ab 9) (fC (.int 3))) (f2 bv (f2 (gI aR fun i j=>.int (i*j)) (fC (.int 4)) (ab 2)) (fC (.int 2))))) af)))) (f2 (gI (fun _ j=>0 < j) fun i j=>.int (i % j)) (ab 9) (fC (.int 3))))))) ba)) [some (.int seed),some (.int k),some (.int most),some (.int c),some (.lst (aZ T++[.lst (aJ r)])),some (.int (i:Int)),some (.int (j:Int)),some (.int (c % (4*most+3))),o8,o9]=some (.nx [some (.int seed),some (.int k),some (.int most),some (.int c),some (.lst (aZ T++[.lst (aJ r)])),some (.int (i:Int)),some (.int (j:Int)),some (.int g),o8,p9]):=by
  cases hc:(c == 0 || c == -1) with
  | false =>
   have q0:=Int.emod_nonneg c (show 4*most+3 ≠ 0 by omega)
   have q1:=Int.emod_lt_of_pos c hd
   exact ⟨c % (4*most+3),o9,q0,by omega,bA (by simp only [ab,fC,f2,f1,fT,asB,g9,af,aa,bU,Zc,Zd,Ze,hin,hc]) rfl⟩
  | true =>
   have r0:=Int.emod_nonneg (w / 3) (show 4*most+2 ≠ 0 by omega)
   have r1:=Int.emod_lt_of_pos (w / 3) hd2
   have w3:w % 3=0 \/ w % 3=1 \/ w % 3=2:=by omega
   obtain ⟨g,hg0,hg1,hg⟩:∃ g:Int,0<=g/\g<=4*most+3/\gIx (.lst [.int 0,.int 0,.int (1+w / 3 % (4*most+2))]) (.int (w % 3))=some (.int g):=by
    rcases w3 with q | q | q
    . exact ⟨0,by omega,by omega,by rw [q];rfl⟩
    . exact ⟨0,by omega,by omega,by rw [q];rfl⟩
    . exact ⟨1+w / 3 % (4*most+2),by omega,by omega,by rw [q];rfl⟩
   exact ⟨g,some (.int w),hg0,hg1,c9 (by simp only [ab,fC,f2,f1,fT,asB,g9,af,aa,bU,Zc,Zd,Ze,hin,hc]) (ap (aV (de (ds:=[.int seed,.int (9*(i:Int)+(j:Int))]) (by simp only [ab,fC,f2,af,aa,bS,Zc,Zd,Ze,aq (C:=aR) mi9]) mx rfl)) (aV (bw (d:=.int g) (by simp only [ab,fC,f2,af,aa,fP,bS,Zc,Zd,Ze,Zf,Zg,aq (C:=ay) d3,aq (C:=aR) m1,aq (C:=fun _ j=>0 < j) (i:=w / 3) hd2,aq (C:=fun _ j=>0 < j) (i:=w) (j:=3) (by decide),hg]))))⟩
 have dg:ay (g - 1) 2:=⟨by decide,cJ⟩
 obtain ⟨b,hb,hst2⟩:∃ b:Bn,Bk 190 b/\((sIf (fT (f2 gGt (ab 7) (fC (.int 0)))) (av 8 (vI (bU (aa (f2 (gI0 fun i j=>.int (i - j)) (f2 (gI ay fun i j=>.int (i / j)) (f2 (gI0 fun i j=>.int (i - j)) (ab 7) (fC (.int 1))) (fC (.int 2))) (ab 2)) (aa (f2 ce (f2 (gI (fun _ j=>0 < j) fun i j=>.int (i % j)) (ab 7) (fC (.int 2))) (fC (.int 0))) af))))) ba)) [some (.int seed),some (.int k),some (.int most),some (.int (c / (4*most+3))),some (.lst (aZ T++[.lst (aJ r)])),some (.int (i:Int)),some (.int (j:Int)),some (.int g),some .non,p9]=some (.nx [some (.int seed),some (.int k),some (.int most),some (.int (c / (4*most+3))),some (.lst (aZ T++[.lst (aJ r)])),some (.int (i:Int)),some (.int (j:Int)),some (.int g),some (bdD b),p9]):=by
  by_cases h:0 < g
  . have h1:decide (0 < g)=true:=decide_eq_true h
    refine ⟨some ((g - 1) / 2 - most,g % 2 == 0),Sm.mono (k:=185) (Sm.of (by omega) (by omega)) (by decide),c9 (by simp only [ab,fC,f2,fT,asB,gI0,Zc,Zd,Ze,gGt,h1]) (aV (bw (by simp only [ab,fC,f2,af,aa,bU,gI0,Zc,Zd,Ze,bI,bz,aq (C:=ay) dg,aq (C:=fun _ j=>0 < j) (i:=g) (j:=2) (by decide)])))⟩
  . have h1:decide (0 < g)=false:=decide_eq_false h
    exact ⟨none,trivial,bA (by simp only [ab,fC,f2,fT,asB,gI0,Zc,Zd,Ze,gGt,h1]) rfl⟩
 refine ⟨c / (4*most+3),b,some (.int g),p9,hb,?_⟩
 refine ap (aV (bw (d:=.int (c % (4*most+3))) (by simp only [ab,fC,f2,bS,Zc,Zd,Ze,aq (C:=aR) m1,aq (C:=fun _ j=>0 < j) (i:=c) hd]))) (ap hst (ap (aV (bw (d:=.int (c / (4*most+3))) (by simp only [ab,fC,f2,bS,Zc,Zd,Ze,aq (C:=aR) m1,aq (C:=ay) dv]))) (ap (aV (bw (d:=.non) rfl)) (ap hst2 ?_))))
 rw [kR]
 exact lj rfl (by rw [c6,hT];rfl) (iQ rfl) (by rw [ii];omega)
theorem kJ {seed k most:Int} (hk0:0<=k) (hk1:k<=40) (hm0:0<=most) (hm1:most<=10 ^ 55):∃ T,Grown T (k.toNat+1) (k.toNat+1)/\fn bO [.int seed,.int k,.int most]=some (ak T):=by
 obtain ⟨n,rfl⟩:∃ n:Nat,k=(n:Int):=⟨k.toNat,by omega⟩
 have en:((n:Int)).toNat=n:=by omega
 rw [en]
 have hr:=fun o5 o6 o7 o8 o9 c t=>db (g:=aa (f2 bv (ab 1) (fC (.int 1))) af) (δ:=[some (.int seed),some (.int (n:Int)),some (.int most),c,t,o5,o6,o7,o8,o9]) (n:=n+1) rfl (by omega)
 have inner:∀ (c:Int) (T:List (List Bn)) (i:Nat) (o6 o7 o8 o9:Option D),T.length=i->i<=40->∃ δ',Dl.forM 6 ((ax (av 7 (vI (f2 (gI (fun _ j=>0 < j) fun i j=>.int (i % j)) (ab 3) (f2 bv (f2 (gI aR fun i j=>.int (i*j)) (fC (.int 4)) (ab 2)) (fC (.int 3)))))) (ax (sIf (fT (f2 gIn (ab 3) (bU (aa (fC (.int 0)) (aa (f1 g9 (fC (.int 1))) af))))) (ax (av 9 (cI (fn aM) (aa (ab 0) (aa (f2 bv (f2 (gI aR fun i j=>.int (i*j)) (fC (.int 9)) (ab 5)) (ab 6)) af)))) (av 7 (vI (f2 gIx (fP (aa (fC (.int 0)) (aa (fC (.int 0)) (aa (f2 bv (fC (.int 1)) (f2 (gI (fun _ j=>0 < j) fun i j=>.int (i % j)) (f2 (gI ay fun i j=>.int (i / j)) (ab 9) (fC (.int 3))) (f2 bv (f2 (gI aR fun i j=>.int (i*j)) (fC (.int 4)) (ab 2)) (fC (.int 2))))) af)))) (f2 (gI (fun _ j=>0 < j) fun i j=>.int (i % j)) (ab 9) (fC (.int 3))))))) ba) (ax (av 3 (vI (f2 (gI ay fun i j=>.int (i / j)) (ab 3) (f2 bv (f2 (gI aR fun i j=>.int (i*j)) (fC (.int 4)) (ab 2)) (fC (.int 3)))))) (ax (av 8 (vI (fC .non))) (ax (sIf (fT (f2 gGt (ab 7) (fC (.int 0)))) (av 8 (vI (bU (aa (f2 (gI0 fun i j=>.int (i - j)) (f2 (gI ay fun i j=>.int (i / j)) (f2 (gI0 fun i j=>.int (i - j)) (ab 7) (fC (.int 1))) (fC (.int 2))) (ab 2)) (aa (f2 ce (f2 (gI (fun _ j=>0 < j) fun i j=>.int (i % j)) (ab 7) (fC (.int 2))) (fC (.int 0))) af))))) ba) (gB 4 (ab 5) (bn 8)))))))) ((List.range (n+1)).map fun (i:Nat)=>D.int (i:Int)) [some (.int seed),some (.int (n:Int)),some (.int most),some (.int c),some (.lst (aZ T++[.lst (aJ [])])),some (.int (i:Int)),o6,o7,o8,o9]=some (.nx δ')/\∃ (c:Int) (r:List Bn) (o6 o7 o8 o9:Option D),r.length=(List.range (n+1)).length/\(∀ b∈r,Bk 190 b)/\δ'=[some (.int seed),some (.int (n:Int)),some (.int most),some (.int c),some (.lst (aZ T++[.lst (aJ r)])),some (.int (i:Int)),o6,o7,o8,o9]:=by
  intro c T i o6 o7 o8 o9 hT hi
  refine bC (f:=fun (i:Nat)=>D.int (i:Int)) (fun pre δ=>∃ (c:Int) (r:List Bn) (o6 o7 o8 o9:Option D),r.length=pre.length/\(∀ b∈r,Bk 190 b)/\δ=[some (.int seed),some (.int (n:Int)),some (.int most),some (.int c),some (.lst (aZ T++[.lst (aJ r)])),some (.int (i:Int)),o6,o7,o8,o9]) (List.range (n+1)) ?_ (List.range (n+1)) [] _ rfl ⟨c,[],o6,o7,o8,o9,rfl,(fun _ m=>nomatch m),rfl⟩
  rintro pre x post _ hx ⟨c,r,o6,o7,o8,o9,hr,hb,rfl⟩
  obtain ⟨rfl,hl⟩:=bg hx
  obtain ⟨c',b,p7,p9,hbb,st⟩:=AZ seed (n:Int) most c T r i pre.length o7 o8 o9 hm0 hm1 hT hr hi (by omega)
  refine ⟨_,st,c',r++[b],_,_,_,_,by rw [Zh,Zh,hr];rfl,fun z hz=>?_,rfl⟩
  rcases Zn.mp hz with hz | hz
  . exact hb z hz
  . rw [List.mem_singleton.mp hz];exact hbb
 obtain ⟨_,w,c,T,o5,o6,o7,o8,o9,hG,rfl⟩:=bC (i:=5) (s:=((ax (iw 4 (jH fZ)) (cn (bX (aa (f2 bv (ab 1) (fC (.int 1))) af)) 6 (ax (av 7 (vI (f2 (gI (fun _ j=>0 < j) fun i j=>.int (i % j)) (ab 3) (f2 bv (f2 (gI aR fun i j=>.int (i*j)) (fC (.int 4)) (ab 2)) (fC (.int 3)))))) (ax (sIf (fT (f2 gIn (ab 3) (bU (aa (fC (.int 0)) (aa (f1 g9 (fC (.int 1))) af))))) (ax (av 9 (cI (fn aM) (aa (ab 0) (aa (f2 bv (f2 (gI aR fun i j=>.int (i*j)) (fC (.int 9)) (ab 5)) (ab 6)) af)))) (av 7 (vI (f2 gIx (fP (aa (fC (.int 0)) (aa (fC (.int 0)) (aa (f2 bv (fC (.int 1)) (f2 (gI (fun _ j=>0 < j) fun i j=>.int (i % j)) (f2 (gI ay fun i j=>.int (i / j)) (ab 9) (fC (.int 3))) (f2 bv (f2 (gI aR fun i j=>.int (i*j)) (fC (.int 4)) (ab 2)) (fC (.int 2))))) af)))) (f2 (gI (fun _ j=>0 < j) fun i j=>.int (i % j)) (ab 9) (fC (.int 3))))))) ba) (ax (av 3 (vI (f2 (gI ay fun i j=>.int (i / j)) (ab 3) (f2 bv (f2 (gI aR fun i j=>.int (i*j)) (fC (.int 4)) (ab 2)) (fC (.int 3)))))) (ax (av 8 (vI (fC .non))) (ax (sIf (fT (f2 gGt (ab 7) (fC (.int 0)))) (av 8 (vI (bU (aa (f2 (gI0 fun i j=>.int (i - j)) (f2 (gI ay fun i j=>.int (i / j)) (f2 (gI0 fun i j=>.int (i - j)) (ab 7) (fC (.int 1))) (fC (.int 2))) (ab 2)) (aa (f2 ce (f2 (gI (fun _ j=>0 < j) fun i j=>.int (i % j)) (ab 7) (fC (.int 2))) (fC (.int 0))) af))))) ba) (gB 4 (ab 5) (bn 8))))))))))) (f:=fun (i:Nat)=>D.int (i:Int)) (fun pre δ=>∃ (c:Int) (T:List (List Bn)) (o5 o6 o7 o8 o9:Option D),Grown T pre.length (n+1)/\δ=[some (.int seed),some (.int (n:Int)),some (.int most),some (.int c),some (ak T),o5,o6,o7,o8,o9]) (List.range (n+1)) (by
  rintro pre x post _ hx ⟨c,T,o5,o6,o7,o8,o9,hG,rfl⟩
  obtain ⟨rfl,hl⟩:=bg hx
  obtain ⟨_,w,c',r,p6,p7,p8,p9,h1,h2,rfl⟩:=inner c T pre.length o6 o7 o8 o9 hG.len (by omega)
  refine ⟨_,ap (jJ (ds:=aZ T) (d:=.lst []) rfl rfl (by rw [c6,hG.len];omega)) (bD (hr _ _ _ _ _ _ _) w),c',T++[r],some (.int (pre.length:Int)),p6,p7,p8,p9,?_,?_⟩
  . rw [Zh]
    exact hG.snoc (by rw [h1,List.length_range]) h2
  . unfold ak
    rw [jL]) (List.range (n+1)) [] [some (.int seed),some (.int (n:Int)),some (.int most),some (.int seed),some (.lst []),none,none,none,none,none] rfl ⟨seed,[],none,none,none,none,none,⟨rfl,(fun _ m=>nomatch m),(fun _ m=>nomatch m)⟩,rfl⟩
 have key:bO [.int seed,.int (n:Int),.int most] (ak T):=⟨dI (δ:=[some (.int seed),some (.int (n:Int)),some (.int most),none,none,none,none,none,none,none]) (ap (aV (d:=.int seed) rfl) (ap (aV (d:=.lst []) rfl) (ap (bD (hr _ _ _ _ _ _ _) w) (cr (dS rfl))))),bR T⟩
 exact ⟨T,by rw [List.length_range] at hG;exact hG,cq (fun d' h'=>Option.some.inj (h'.1.symm.trans key.1)) key⟩
theorem km (F:Fun K "_law_any_table" "_law_any_table" dz f fd)  (hLmixed:HasF P w K mg base 1 "_law_mixed" ["_law_cell","_law_k"] (fn aM))  (m_range:mg "range" = none):FnOk P w K mg base CX0 2 f fd ["_law_seed","_law_k","_law_most"] (bV K 3 (fn bO)):=by
 have sc:=gK
 refine bZ F gK (fun cdv A outer s H E ds d hr hG hl=>?_)
 have hb:=bo hG
 have hown:=hb.2
 refine ⟨_,(au (aW 3 sc.nd (bq 0))
  (au (aW 4 sc.nd (fq cb))
  (au (cu 5 sc.nd PassesOwn.never rfl (aT rfl m_range (ae (bQ (ac 1) aj) ag))
   (au (kT 4 (jz PySem.F.plainAttrs_list PySem.F.slot_list_append PySem.F.type_list_append c5 (pvi 4) (cA (fq cb) dW)))
   (aF (cu 6 sc.nd PassesOwn.never rfl (aT rfl m_range (ae (bQ (ac 1) aj) ag))
    (au (aW 7 sc.nd (aN (bu (ac 3) (bQ (di aj (ac 2)) aj))))
    (au (eP (yJ (ac 3) (cS (ae aj (ae (kX aj) ag)))) (au (aW 9 sc.nd (cK hLmixed hr (ae (ac 0) (ae (bQ (di aj (ac 5)) (ac 6)) ag))))
     (aF (aW 7 sc.nd (aN (az (jQ (ae aj (ae aj (ae (bQ aj (bu (bH (ac 9) aj) (bQ (di aj (ac 2)) aj))) ag)))) (bu (ac 9) aj)))))) cR)
    (au (aW 3 sc.nd (aN (bH (ac 3) (bQ (di aj (ac 2)) aj))))
    (au (aW 8 sc.nd (aN bJ))
    (au (eP (ve (ac 7) aj) (aF (aW 8 sc.nd (aN (cS (ae (fS (bH (fS (ac 7) aj) aj) (ac 2)) (ae (jR hr.units (bu (ac 7) aj) aj) ag)))))) cR)
    (aF (pg 4 (jz PySem.F.plainAttrs_list PySem.F.slot_list_append PySem.F.type_list_append c5 (iY ix_list (pvi 4) (ac 5) (fun _ _=>rfl)) (cA (bq 8) dW)))))))))))))
  (aF (bM (bq 4)))))),?_,?own⟩
 case own=>first | rfl | exact hown
 . show aL ((?f:SD) (aS 10 _))=_
   exact hb.1
theorem j2:aG ["_law_cell"] ["_law_cell"] (am gM):=⟨rfl,rfl,rfl,by decide +kernel,rfl,by decide +kernel,by decide +kernel⟩
theorem po (F:Fun K "_law_part" "_law_part" gM f fd)  (hLlowest:Has P w K mg base 1 "_law_lowest" ["_law_top","_law_bottom"] (fn hE))  :FnOk P w K mg base CX0 2 f fd ["_law_cell"] (bL K 1 (fn cE)):=by
 have sc:=j2
 refine cy F j2 (fun cdv A outer s H E ds d hr hG hl=>?_)
 obtain ⟨c,rfl,rfl⟩:=bo hG
 refine ⟨_,(bh (dF (vf hr.units0 (bu (ac 0) aj) aj) (aU (bf (aD hLlowest hr (ae (fS (bu (bH (ac 0) aj) (bQ (di aj (rJ aj aj)) aj)) (rJ aj aj)) (ae (bQ aj (bu (ac 0) aj)) ag))))) cL)
  (aU (bf (aD hLlowest hr (ae (fS (bu (bH (ac 0) aj) aj) aj) (ae (bQ aj (bu (bH (ac 0) aj) aj)) ag)))))),?_⟩
 . show aL ((?f:SD) [some _])=_
   have b8:ay c 8:=⟨by decide,cJ⟩
   have b48:ay c 48:=⟨by decide,cJ⟩
   have bp:lY 10 45:=⟨by decide,by decide,by decide⟩
   have e45:(45:Int).toNat=45:=rfl
   have bm:aR 2 (10 ^ 45):=⟨cJ,nJ (k:=200) (show (10 ^ 45:Int).natAbs < 2 ^ 200 by decide)⟩
   by_cases h:c % 8=5
   . have h1:(c % 8 == 5)=true:=by simp [h]
     simp only [aL,ba,df,ax,fg,sIf,ab,fC,f2,fT,asB,af,aa,ah,gI0,bS,dC,Zc,Zd,aq (C:=fun _ j=>0 < j) (i:=c) (j:=8) (by decide),h1,aq (C:=ay) b8,aq (C:=lY) bp,e45,aq (C:=aR) bm,aq (C:=fun _ j=>0 < j) (i:=c / 8) (j:=2*10 ^ 45+1) (by decide),aq (C:=fun _ j=>0 < j) (i:=c) (j:=9973) (by decide),jC (t:=c / 8 % (2*10 ^ 45+1) - 10 ^ 45) (b:=1+c % 9973) (by omega) (cJ (by omega))]
     unfold prt
     rw [if_pos h]
   . have h1:(c % 8 == 5)=false:=by simp [h]
     simp only [aL,ba,df,ax,fg,sIf,ab,fC,f2,fT,asB,af,aa,ah,gI0,bS,dC,Zc,Zd,aq (C:=fun _ j=>0 < j) (i:=c) (j:=8) (by decide),h1,aq (C:=ay) b8,aq (C:=ay) b48,aq (C:=fun _ j=>0 < j) (i:=c / 48) (j:=41) (by decide),aq (C:=fun _ j=>0 < j) (i:=c / 8) (j:=6) (by decide),jC (t:=c / 48 % 41 - 20) (b:=1+c / 8 % 6) (by omega) (cJ (by omega))]
     unfold prt
     rw [if_neg h]
theorem iK:aG ["_law_script","_law_point","_law_parts","_law_table","_law_i","_law_j","_law_drawn","_law_number","_law_bound","_law_top","_law_bottom"] ["_law_script","_law_point"] (am eJ):=⟨rfl,rfl,rfl,by decide +kernel,rfl,by decide +kernel,by decide +kernel⟩
def cO (ds:List D) (d:D):Prop:=aL (((ax (av 2 (hV (fP (aa (bU (aa (fC (.int 0)) (aa (fC (.int 1)) af))) af)) (ab 1))) (ax (av 3 (jH fZ)) (ax (cn (bX (aa (ah bP (aa (ab 2) af)) af)) 4 (ax (iw 3 (jH fZ)) (cn (bX (aa (ah bP (aa (ab 2) af)) af)) 5 (ax (oY [9,10] (vI (ah (fn cg) (aa (f2 gIx (ab 2) (ab 4)) (aa (f2 gIx (ab 2) (ab 5)) af))))) (ax (av 6 (cI (fn aM) (aa (ah (fn aA) (aa (ab 0) (aa (f2 bv (f2 bv (fC (.int 8)) (f2 (gI aR fun i j=>.int (i*j)) (ah bP (aa (ab 2) af)) (ab 4))) (ab 5)) af))) (aa (f2 bv (f2 (gI aR fun i j=>.int (i*j)) (fC (.int 9)) (ab 4)) (ab 5)) af)))) (ax (av 7 (vI (f2 bv (f1 g9 (f2 (gI ay fun i j=>.int (i / j)) (f1 g9 (ab 9)) (ab 10))) (f2 (gI (fun _ j=>0 < j) fun i j=>.int (i % j)) (f2 (gI ay fun i j=>.int (i / j)) (ab 6) (fC (.int 8))) (fC (.int 3)))))) (ax (av 8 (vI (bU (aa (ab 7) (aa (cj (f2 gGt (f2 (gI aR fun i j=>.int (i*j)) (ab 7) (ab 10)) (ab 9)) (f2 ce (f2 (gI (fun _ j=>0 < j) fun i j=>.int (i % j)) (f2 (gI ay fun i j=>.int (i / j)) (ab 6) (fC (.int 24))) (fC (.int 2))) (fC (.int 1)))) af))))) (ax (sIf (dY (fT (f2 gLt (f2 (gI (fun _ j=>0 < j) fun i j=>.int (i % j)) (ab 6) (fC (.int 8))) (fC (.int 3)))) (bt (fT (f2 ce (ab 4) (ab 5))) (fT (f2 gLt (f2 (gI (fun _ j=>0 < j) fun i j=>.int (i % j)) (ab 6) (fC (.int 8))) (fC (.int 6)))))) (av 8 (vI (fC .non))) ba) (gB 3 (ab 4) (bn 8)))))))))) (cw (bn 3)))))) (aS 11 ds))=some d/\own d=true
theorem wF {f:Nat->Int×Int} {r:List Bn} {b:Bn} (h:∀ j,kp (f j) (r.getD j none)=true) (g:kp (f r.length) b=true) (j:Nat):kp (f j) ((r++[b]).getD j none)=true:=by
 rw [Zp]
 by_cases e:j < r.length
 . rw [List.getElem?_append_left e,<- Zp];exact h j
 . by_cases e2:j=r.length
   . subst e2
     rw [List.getElem?_append_right (Nat.le_refl _),Nat.sub_self];exact g
   . rw [List.getElem?_eq_none (by rw [Zh,Zj];omega)];rfl
theorem t6 {f:Nat->Nat->Int×Int} {T:List (List Bn)} {r:List Bn} (h:∀ i j,kp (f i j) (ao T i j)=true) (g:∀ j,kp (f T.length j) (r.getD j none)=true) (i j:Nat):kp (f i j) (ao (T++[r]) i j)=true:=by
 have hh:=h i j
 unfold ao at *
 rw [Zp (l:=T++[r])]
 by_cases e:i < T.length
 . rw [List.getElem?_append_left e,<- Zp];exact hh
 . by_cases e2:i=T.length
   . subst e2
     rw [List.getElem?_append_right (Nat.le_refl _),Nat.sub_self];exact g j
   . rw [List.getElem?_eq_none (by rw [Zh,Zj];omega)];rfl
theorem Av (ns:List Int) (P:D) (ps:List (Int×Int)) (T:List (List Bn)) (r:List Bn) (i j:Nat) (o6 o7 o8 o9 o10:Option D) (hp:∀ p∈ps,Fr 200 p) (hp2:∀ p∈ps,Sm 151 p.1/\Sm 14 p.2) (hT:T.length=i) (hr:r.length=j) (hl:ps.length<=40) (hi:i < ps.length+1) (hj:j < ps.length+1):∃ (b:Bn) (p6 p7 p9 p10:Option D),(Bk 190 b/\kp (dif ps i j) b=true) /\
 ((ax (oY [9,10] (vI (ah (fn cg) (aa (f2 gIx (ab 2) (ab 4)) (aa (f2 gIx (ab 2) (ab 5)) af))))) (ax (av 6 (cI (fn aM) (aa (ah (fn aA) (aa (ab 0) (aa (f2 bv (f2 bv (fC (.int 8)) (f2 (gI aR fun i j=>.int (i*j)) (ah bP (aa (ab 2) af)) (ab 4))) (ab 5)) af))) (aa (f2 bv (f2 (gI aR fun i j=>.int (i*j)) (fC (.int 9)) (ab 4)) (ab 5)) af)))) (ax (av 7 (vI (f2 bv (f1 g9 (f2 (gI ay fun i j=>.int (i / j)) (f1 g9 (ab 9)) (ab 10))) (f2 (gI (fun _ j=>0 < j) fun i j=>.int (i % j)) (f2 (gI ay fun i j=>.int (i / j)) (ab 6) (fC (.int 8))) (fC (.int 3)))))) (ax (av 8 (vI (bU (aa (ab 7) (aa (cj (f2 gGt (f2 (gI aR fun i j=>.int (i*j)) (ab 7) (ab 10)) (ab 9)) (f2 ce (f2 (gI (fun _ j=>0 < j) fun i j=>.int (i % j)) (f2 (gI ay fun i j=>.int (i / j)) (ab 6) (fC (.int 24))) (fC (.int 2))) (fC (.int 1)))) af))))) (ax (sIf (dY (fT (f2 gLt (f2 (gI (fun _ j=>0 < j) fun i j=>.int (i % j)) (ab 6) (fC (.int 8))) (fC (.int 3)))) (bt (fT (f2 ce (ab 4) (ab 5))) (fT (f2 gLt (f2 (gI (fun _ j=>0 < j) fun i j=>.int (i % j)) (ab 6) (fC (.int 8))) (fC (.int 6)))))) (av 8 (vI (fC .non))) ba) (gB 3 (ab 4) (bn 8)))))))) [some (.seq (ns.map D.int)),some P,some (.lst ((cX ps).map fr)),some (.lst (aZ T++[.lst (aJ r)])),some (.int (i:Int)),some (.int (j:Int)),o6,o7,o8,o9,o10]=some (.nx [some (.seq (ns.map D.int)),some P,some (.lst ((cX ps).map fr)),some (.lst (aZ T++[.lst (aJ (r++[b]))])),some (.int (i:Int)),some (.int (j:Int)),p6,p7,some (bdD b),p9,p10]):=by
 have a:=fN (by decide) hp i
 have b:=fN (by decide) hp j
 obtain ⟨top,htop⟩:∃ t,t=(da ps i).1*(da ps j).2 - (da ps j).1*(da ps i).2:=⟨_,rfl⟩
 obtain ⟨bot,hbot⟩:∃ t,t=(da ps i).2*(da ps j).2:=⟨_,rfl⟩
 have hb:0 < bot:=by rw [hbot];exact Int.mul_pos a.pos b.pos
 have a2:=qb hp2 i
 have b2:=qb hp2 j
 have s1:Sm 166 top:=by rw [htop];exact (a2.1.mul b2.2).sub (b2.1.mul a2.2)
 have s2:Sm 401 bot:=by rw [hbot];exact (a.s2.mul b.s2).mono (by decide)
 have le:fn cg [fr (da ps i),fr (da ps j)]=some (.tup [.int top,.int bot]):=by
  rw [htop,hbot]
  exact e2 (op:=fun p q=>fr (dl p q)) (Fk.of a) (Fk.of b)
 have len:bP [.lst ((cX ps).map fr)]=some (.int ((ps.length:Int)+1)):=by
  show some (D.int (((cX ps).map fr).length:Int))=_
  rw [Zi]
  rfl
 have ml:aR ((ps.length:Int)+1) (i:Int):=⟨cJ (by omega),cJ (by omega)⟩
 have mi9:aR 9 (i:Int):=⟨cJ,cJ (by omega)⟩
 have hli:(0:Int)<=((ps.length:Int)+1)*(i:Int):=Int.mul_nonneg (by omega) (by omega)
 have ca:=gF (ns:=ns) (k:=8+((ps.length:Int)+1)*(i:Int)+(j:Int)) (by omega)
 have mx:=gr (c:=cell ns (8+((ps.length:Int)+1)*(i:Int)+(j:Int))) (k:=9*(i:Int)+(j:Int)) (by omega) (by omega)
 obtain ⟨w,hw⟩:∃ w,w=mxd (cell ns (8+((ps.length:Int)+1)*(i:Int)+(j:Int))) (9*(i:Int)+(j:Int)):=⟨_,rfl⟩
 rw [<- hw] at mx
 have dn:ay (-top) bot:=⟨hb,nJ (k:=401) s2⟩
 have d8:ay w 8:=⟨by decide,cJ⟩
 have d24:ay w 24:=⟨by decide,cJ⟩
 obtain ⟨nb,hnb⟩:∃ nb,nb = -(-top / bot)+w / 8 % 3:=⟨_,rfl⟩
 have s3:Sm 167 nb:=by
  rw [hnb]
  have h1:Sm 166 (-(-top / bot)):=by
   show (-(-top / bot)).natAbs < 2 ^ 166
   rw [Int.natAbs_neg]
   refine Nat.lt_of_le_of_lt (Int.natAbs_ediv_le_natAbs _ _) ?_
   rw [Int.natAbs_neg]
   exact s1
  exact h1.add (y:=w / 8 % 3) (Sm.mono (k:=10) (Sm.of (by omega) (by omega)) (by decide))
 have mb:aR nb bot:=⟨nJ (k:=167) s3,nJ (k:=401) s2⟩
 obtain ⟨t,ht,hts⟩:∃ t:Bool,(cj (f2 gGt (f2 (gI aR fun i j=>.int (i*j)) (ab 7) (ab 10)) (ab 9)) (f2 ce (f2 (gI (fun _ j=>0 < j) fun i j=>.int (i % j)) (f2 (gI ay fun i j=>.int (i / j)) (ab 6) (fC (.int 24))) (fC (.int 2))) (fC (.int 1))) [some (.seq (ns.map D.int)),some P,some (.lst ((cX ps).map fr)),some (.lst (aZ T++[.lst (aJ r)])),some (.int (i:Int)),some (.int (j:Int)),some (.int w),some (.int nb),o8,some (.int top),some (.int bot)]=some (.bl t))/\(t=true->top < nb*bot):=by
  by_cases h:top < nb*bot
  . have h1:decide (top < nb*bot)=true:=decide_eq_true h
    exact ⟨w / 24 % 2 == 1,by simp only [ab,fC,f2,cj,gI0,Zc,Zd,Ze,gGt,bz,aq (C:=aR) mb,h1,aq (C:=ay) d24,aq (C:=fun _ j=>0 < j) (i:=w / 24) (j:=2) (by decide)],fun _=>h⟩
  . have h1:decide (top < nb*bot)=false:=decide_eq_false h
    exact ⟨false,by simp only [ab,fC,f2,cj,gI0,Zc,Zd,Ze,gGt,aq (C:=aR) mb,h1],fun z=>nomatch z⟩
 have kn:kp (dif ps i j) none=true:=rfl
 have ks:kp (dif ps i j) (some (nb,t))=true:=by
  have e1:kp (dif ps i j) (some (nb,t))=kp (top,bot) (some (nb,t)):=by
   rw [htop,hbot]
   exact (yc a.pos b.pos _).symm
  rw [e1,rP]
  have c1:-top / bot*bot <= -top:=Int.ediv_mul_le _ (by omega)
  have c2:nb*bot = -(-top / bot*bot)+w / 8 % 3*bot:=by rw [hnb,Int.add_mul,Int.neg_mul]
  have c3:0<=w / 8 % 3*bot:=Int.mul_nonneg (by omega) (by omega)
  cases t with
  | true=>exact hts rfl
  | false=>show top<=nb*bot;omega
 obtain ⟨bb,hbb,hst⟩:∃ b:Bn,(Bk 190 b/\kp (dif ps i j) b=true)/\((sIf (dY (fT (f2 gLt (f2 (gI (fun _ j=>0 < j) fun i j=>.int (i % j)) (ab 6) (fC (.int 8))) (fC (.int 3)))) (bt (fT (f2 ce (ab 4) (ab 5))) (fT (f2 gLt (f2 (gI (fun _ j=>0 < j) fun i j=>.int (i % j)) (ab 6) (fC (.int 8))) (fC (.int 6)))))) (av 8 (vI (fC .non))) ba)) [some (.seq (ns.map D.int)),some P,some (.lst ((cX ps).map fr)),some (.lst (aZ T++[.lst (aJ r)])),some (.int (i:Int)),some (.int (j:Int)),some (.int w),some (.int nb),some (.tup [.int nb,.bl t]),some (.int top),some (.int bot)]=some (.nx [some (.seq (ns.map D.int)),some P,some (.lst ((cX ps).map fr)),some (.lst (aZ T++[.lst (aJ r)])),some (.int (i:Int)),some (.int (j:Int)),some (.int w),some (.int nb),some (bdD b),some (.int top),some (.int bot)]):=by
  have yes:Bk 190 (some (nb,t))/\kp (dif ps i j) (some (nb,t))=true:=⟨Sm.mono (k:=167) s3 (by decide),ks⟩
  by_cases h3:w % 8 < 3
  . have q3:decide (w % 8 < 3)=true:=decide_eq_true h3
    exact ⟨none,⟨trivial,kn⟩,c9 (by simp only [ab,fC,f2,fT,asB,bt,dY,gI0,Zc,Zd,Ze,gLt,aq (C:=fun _ j=>0 < j) (i:=w) (j:=8) (by decide),q3]) rfl⟩
  . have q3:decide (w % 8 < 3)=false:=decide_eq_false h3
    cases hij:((i:Int) == (j:Int)) with
    | false=>exact ⟨some (nb,t),yes,bA (by simp only [ab,fC,f2,fT,asB,bt,dY,gI0,Zc,Zd,Ze,gLt,bz,aq (C:=fun _ j=>0 < j) (i:=w) (j:=8) (by decide),q3,hij]) rfl⟩
    | true =>
     by_cases h6:w % 8 < 6
     . have q6:decide (w % 8 < 6)=true:=decide_eq_true h6
       exact ⟨none,⟨trivial,kn⟩,c9 (by simp only [ab,fC,f2,fT,asB,bt,dY,gI0,Zc,Zd,Ze,gLt,bz,aq (C:=fun _ j=>0 < j) (i:=w) (j:=8) (by decide),q3,hij,q6]) rfl⟩
     . have q6:decide (w % 8 < 6)=false:=decide_eq_false h6
       exact ⟨some (nb,t),yes,bA (by simp only [ab,fC,f2,fT,asB,bt,dY,gI0,Zc,Zd,Ze,gLt,bz,aq (C:=fun _ j=>0 < j) (i:=w) (j:=8) (by decide),q3,hij,q6]) rfl⟩
 refine ⟨bb,some (.int w),some (.int nb),some (.int top),some (.int bot),hbb,?_⟩
 refine ap (xS (ds:=[.int top,.int bot]) (bw (by simp only [ab,f2,af,aa,ah,Zc,Zd,Ze,(jp hi).1,(jp hj).1,le])) rfl rfl) (ap (aV (de (ds:=[.int (cell ns (8+((ps.length:Int)+1)*(i:Int)+(j:Int))),.int (9*(i:Int)+(j:Int))]) ?ar mx rfl)) (ap (aV (bw (d:=.int nb) ?nb)) (ap (aV (bw (d:=.tup [.int nb,.bl t]) ?tp)) (ap hst ?_))))
 case ar=>simp only [gZ,ab,fC,f2,af,aa,ah,bS,Zc,Zd,Ze,Zf,Zg,len,aq (C:=aR) ml,ca,aq (C:=aR) mi9]
 case nb=>simp only [gZ,ab,fC,f2,f1,g9,bS,Zc,Zd,Ze,Zf,Zg,aq (C:=ay) dn,aq (C:=ay) d8,aq (C:=fun _ j=>0 < j) (i:=w / 8) (j:=3) (by decide),hnb]
 case tp=>exact rT (a:=.int nb) (b:=.bl t) rfl ht
 rw [kR]
 exact lj rfl (by rw [c6,hT];rfl) (iQ rfl) (by rw [ii];omega)
theorem mC {ns:List Int} {d1:D} {ps:List (Int×Int)} (h1:IsP d1 ps) (hp:∀ p∈ps,Fr 200 p) (hp2:∀ p∈ps,Sm 151 p.1/\Sm 14 p.2) (hl:ps.length<=40):∃ T,Grown T (ps.length+1) (ps.length+1)/\(∀ i,i < ps.length+1->∀ j,j < ps.length+1->kp (dif ps i j) (ao T i j)=true)/\fn cO [.seq (ns.map D.int),d1]=some (ak T):=by
 have e0:aS 11 [.seq (ns.map D.int),d1]=[some (.seq (ns.map D.int)),some (.seq (ps.map fr)),none,none,none,none,none,none,none,none,none]:=by
  show [some (sh (.seq (ns.map D.int))),some (sh d1),none,none,none,none,none,none,none,none,none]=_
  rw [sh,eg,show sh d1=_ from h1]
 have len:bP [.lst ((cX ps).map fr)]=some (.int ((ps.length+1:Nat):Int)):=by
  show some (D.int (((cX ps).map fr).length:Int))=_
  rw [Zi]
  rfl
 have hr:=fun t o4 o5 o6 o7 o8 o9 o10=>db (g:=aa (ah bP (aa (ab 2) af)) af) (δ:=[some (.seq (ns.map D.int)),some (.seq (ps.map fr)),some (.lst ((cX ps).map fr)),t,o4,o5,o6,o7,o8,o9,o10]) (n:=ps.length+1) (by simp only [ab,af,aa,ah,Zc,Zd,Ze,len]) (by omega)
 have inner:∀ (T:List (List Bn)) (i:Nat) (o5 o6 o7 o8 o9 o10:Option D),T.length=i->i < ps.length+1->∃ δ',Dl.forM 5 ((ax (oY [9,10] (vI (ah (fn cg) (aa (f2 gIx (ab 2) (ab 4)) (aa (f2 gIx (ab 2) (ab 5)) af))))) (ax (av 6 (cI (fn aM) (aa (ah (fn aA) (aa (ab 0) (aa (f2 bv (f2 bv (fC (.int 8)) (f2 (gI aR fun i j=>.int (i*j)) (ah bP (aa (ab 2) af)) (ab 4))) (ab 5)) af))) (aa (f2 bv (f2 (gI aR fun i j=>.int (i*j)) (fC (.int 9)) (ab 4)) (ab 5)) af)))) (ax (av 7 (vI (f2 bv (f1 g9 (f2 (gI ay fun i j=>.int (i / j)) (f1 g9 (ab 9)) (ab 10))) (f2 (gI (fun _ j=>0 < j) fun i j=>.int (i % j)) (f2 (gI ay fun i j=>.int (i / j)) (ab 6) (fC (.int 8))) (fC (.int 3)))))) (ax (av 8 (vI (bU (aa (ab 7) (aa (cj (f2 gGt (f2 (gI aR fun i j=>.int (i*j)) (ab 7) (ab 10)) (ab 9)) (f2 ce (f2 (gI (fun _ j=>0 < j) fun i j=>.int (i % j)) (f2 (gI ay fun i j=>.int (i / j)) (ab 6) (fC (.int 24))) (fC (.int 2))) (fC (.int 1)))) af))))) (ax (sIf (dY (fT (f2 gLt (f2 (gI (fun _ j=>0 < j) fun i j=>.int (i % j)) (ab 6) (fC (.int 8))) (fC (.int 3)))) (bt (fT (f2 ce (ab 4) (ab 5))) (fT (f2 gLt (f2 (gI (fun _ j=>0 < j) fun i j=>.int (i % j)) (ab 6) (fC (.int 8))) (fC (.int 6)))))) (av 8 (vI (fC .non))) ba) (gB 3 (ab 4) (bn 8)))))))) ((List.range (ps.length+1)).map fun (i:Nat)=>D.int (i:Int)) [some (.seq (ns.map D.int)),some (.seq (ps.map fr)),some (.lst ((cX ps).map fr)),some (.lst (aZ T++[.lst (aJ [])])),some (.int (i:Int)),o5,o6,o7,o8,o9,o10]=some (.nx δ')/\∃ (r:List Bn) (o5 o6 o7 o8 o9 o10:Option D),r.length=(List.range (ps.length+1)).length/\(∀ b∈r,Bk 190 b)/\(∀ j,kp (dif ps i j) (r.getD j none)=true)/\δ'=[some (.seq (ns.map D.int)),some (.seq (ps.map fr)),some (.lst ((cX ps).map fr)),some (.lst (aZ T++[.lst (aJ r)])),some (.int (i:Int)),o5,o6,o7,o8,o9,o10]:=by
  intro T i o5 o6 o7 o8 o9 o10 hT hi
  refine bC (f:=fun (i:Nat)=>D.int (i:Int)) (fun pre δ=>∃ (r:List Bn) (o5 o6 o7 o8 o9 o10:Option D),r.length=pre.length/\(∀ b∈r,Bk 190 b)/\(∀ j,kp (dif ps i j) (r.getD j none)=true)/\δ=[some (.seq (ns.map D.int)),some (.seq (ps.map fr)),some (.lst ((cX ps).map fr)),some (.lst (aZ T++[.lst (aJ r)])),some (.int (i:Int)),o5,o6,o7,o8,o9,o10]) (List.range (ps.length+1)) ?_ (List.range (ps.length+1)) [] _ rfl ⟨[],o5,o6,o7,o8,o9,o10,rfl,(fun _ m=>nomatch m),(fun _=>rfl),rfl⟩
  rintro pre x post _ hx ⟨r,o5,o6,o7,o8,o9,o10,hr,hb,hk,rfl⟩
  obtain ⟨rfl,hl'⟩:=bg hx
  obtain ⟨b,p6,p7,p9,p10,hbb,st⟩:=Av ns (.seq (ps.map fr)) ps T r i pre.length o6 o7 o8 o9 o10 hp hp2 hT hr hl hi hl'
  refine ⟨_,st,r++[b],_,_,_,_,_,_,by rw [Zh,Zh,hr];rfl,fun z hz=>?_,fun j=>wF hk (by rw [hr];exact hbb.2) j,rfl⟩
  rcases Zn.mp hz with hz | hz
  . exact hb z hz
  . rw [List.mem_singleton.mp hz];exact hbb.1
 obtain ⟨_,w,T,o4,o5,o6,o7,o8,o9,o10,hG,hK,rfl⟩:=bC (i:=4) (s:=((ax (iw 3 (jH fZ)) (cn (bX (aa (ah bP (aa (ab 2) af)) af)) 5 (ax (oY [9,10] (vI (ah (fn cg) (aa (f2 gIx (ab 2) (ab 4)) (aa (f2 gIx (ab 2) (ab 5)) af))))) (ax (av 6 (cI (fn aM) (aa (ah (fn aA) (aa (ab 0) (aa (f2 bv (f2 bv (fC (.int 8)) (f2 (gI aR fun i j=>.int (i*j)) (ah bP (aa (ab 2) af)) (ab 4))) (ab 5)) af))) (aa (f2 bv (f2 (gI aR fun i j=>.int (i*j)) (fC (.int 9)) (ab 4)) (ab 5)) af)))) (ax (av 7 (vI (f2 bv (f1 g9 (f2 (gI ay fun i j=>.int (i / j)) (f1 g9 (ab 9)) (ab 10))) (f2 (gI (fun _ j=>0 < j) fun i j=>.int (i % j)) (f2 (gI ay fun i j=>.int (i / j)) (ab 6) (fC (.int 8))) (fC (.int 3)))))) (ax (av 8 (vI (bU (aa (ab 7) (aa (cj (f2 gGt (f2 (gI aR fun i j=>.int (i*j)) (ab 7) (ab 10)) (ab 9)) (f2 ce (f2 (gI (fun _ j=>0 < j) fun i j=>.int (i % j)) (f2 (gI ay fun i j=>.int (i / j)) (ab 6) (fC (.int 24))) (fC (.int 2))) (fC (.int 1)))) af))))) (ax (sIf (dY (fT (f2 gLt (f2 (gI (fun _ j=>0 < j) fun i j=>.int (i % j)) (ab 6) (fC (.int 8))) (fC (.int 3)))) (bt (fT (f2 ce (ab 4) (ab 5))) (fT (f2 gLt (f2 (gI (fun _ j=>0 < j) fun i j=>.int (i % j)) (ab 6) (fC (.int 8))) (fC (.int 6)))))) (av 8 (vI (fC .non))) ba) (gB 3 (ab 4) (bn 8))))))))))) (f:=fun (i:Nat)=>D.int (i:Int)) (fun pre δ=>∃ (T:List (List Bn)) (o4 o5 o6 o7 o8 o9 o10:Option D),Grown T pre.length (ps.length+1)/\(∀ i j,kp (dif ps i j) (ao T i j)=true)/\δ=[some (.seq (ns.map D.int)),some (.seq (ps.map fr)),some (.lst ((cX ps).map fr)),some (ak T),o4,o5,o6,o7,o8,o9,o10]) (List.range (ps.length+1)) (by
  rintro pre x post _ hx ⟨T,o4,o5,o6,o7,o8,o9,o10,hG,hK,rfl⟩
  obtain ⟨rfl,hl'⟩:=bg hx
  obtain ⟨_,w,r,p5,p6,p7,p8,p9,p10,h1,h2,h3,rfl⟩:=inner T pre.length o5 o6 o7 o8 o9 o10 hG.len hl'
  refine ⟨_,ap (jJ (ds:=aZ T) (d:=.lst []) rfl rfl (by rw [c6,hG.len];omega)) (bD (hr _ _ _ _ _ _ _ _) w),T++[r],some (.int (pre.length:Int)),p5,p6,p7,p8,p9,p10,?_,fun i j=>t6 hK (by rw [hG.len];exact h3) i j,?_⟩
  . rw [Zh]
    exact hG.snoc (by rw [h1,List.length_range]) h2
  . unfold ak
    rw [jL]) (List.range (ps.length+1)) [] [some (.seq (ns.map D.int)),some (.seq (ps.map fr)),some (.lst ((cX ps).map fr)),some (.lst []),none,none,none,none,none,none,none] rfl ⟨[],none,none,none,none,none,none,none,⟨rfl,(fun _ m=>nomatch m),(fun _ m=>nomatch m)⟩,(fun _ _=>rfl),rfl⟩
 have cat:hV (fP (aa (bU (aa (fC (.int 0)) (aa (fC (.int 1)) af))) af)) (ab 1) [some (.seq (ns.map D.int)),some (.seq (ps.map fr)),none,none,none,none,none,none,none,none,none]=some (.lst ((cX ps).map fr),[some (.seq (ns.map D.int)),some (.seq (ps.map fr)),none,none,none,none,none,none,none,none,none]):=oN (a:=.lst [fr (0,1)]) (xs:=[fr (0,1)]) (ys:=ps.map fr) rfl rfl rfl rfl (by rw [Zi];simp only [List.length_cons,List.length_nil];omega) (qJ (cX ps))
 have key:cO [.seq (ns.map D.int),d1] (ak T):=by
  refine ⟨?_,bR T⟩
  rw [e0]
  exact dI (ap (aV cat) (ap (aV (d:=.lst []) rfl) (ap (bD (hr _ _ _ _ _ _ _ _) w) (cr (dS rfl)))))
 exact ⟨T,by rw [List.length_range] at hG;exact hG,fun i _ j _=>hK i j,cq (fun d' h'=>Option.some.inj (h'.1.symm.trans key.1)) key⟩
theorem lN (F:Fun K "_law_planted" "_law_planted" eJ f fd)  (hLless:Has P w K mg base 1 "_law_less" ["_law_one","_law_other_here"] (fn cg)) (hLmixed:HasF P w K mg base 1 "_law_mixed" ["_law_cell","_law_k"] (fn aM)) (hLcell_at:Has P w K mg base 1 "_law_cell_at" ["_law_script","_law_k"] (fn aA))  (m_range:mg "range" = none) (m_len:mg "len" = none):FnOk P w K mg base CX0 2 f fd ["_law_script","_law_point"] (bV K 2 (fn cO)):=by
 have sc:=iK
 refine bZ F iK (fun cdv A outer s H E ds d hr hG hl=>?_)
 have hb:=bo hG
 have hown:=hb.2
 refine ⟨_,(au (aW 2 sc.nd (l7 (jQ (ae (cS (ae aj (ae aj ag))) ag)) (ac 1)))
  (au (aW 3 sc.nd (fq cb))
  (au (cu 4 sc.nd PassesOwn.never rfl (aT rfl m_range (ae (aE aC bN rfl m_len PySem.boot_len (ae (ac 2) ag)) ag))
   (au (kT 3 (jz PySem.F.plainAttrs_list PySem.F.slot_list_append PySem.F.type_list_append c5 (pvi 3) (cA (fq cb) dW)))
   (aF (cu 5 sc.nd PassesOwn.never rfl (aT rfl m_range (ae (aE aC bN rfl m_len PySem.boot_len (ae (ac 2) ag)) ag))
    (au (xW [9,10] (aN (aD hLless hr (ae (az (ac 2) (ac 4)) (ae (az (ac 2) (ac 5)) ag)))) (mS rfl (dJ (pgN 9 sc.nd) (dJ (pgN 10 sc.nd) kg))))
    (au (aW 6 sc.nd (cK hLmixed hr (ae (aD hLcell_at hr (ae (ac 0) (ae (bQ (bQ aj (di (aE aC bN rfl m_len PySem.boot_len (ae (ac 2) ag)) (ac 4))) (ac 5)) ag))) (ae (bQ (di aj (ac 4)) (ac 5)) ag))))
    (au (aW 7 sc.nd (aN (bQ (kX (bH (kX (ac 9)) (ac 10))) (bu (bH (ac 6) aj) aj))))
    (au (aW 8 sc.nd (aN (cS (ae (ac 7) (ae (eR (xY (di (ac 7) (ac 10)) (ac 9)) (dh (jR hr.units (bu (bH (ac 6) aj) aj) aj))) ag)))))
    (au (eP (PWD.pt (g6 (kS (bu (ac 6) aj) aj) (gk (PWD.pt (iy (kc hr.units (ac 4) (ac 5)) (gC (kS (bu (ac 6) aj) aj))))))) (aF (aW 8 sc.nd (aN bJ))) cR)
    (aF (pg 3 (jz PySem.F.plainAttrs_list PySem.F.slot_list_append PySem.F.type_list_append c5 (iY ix_list (pvi 3) (ac 4) (fun _ _=>rfl)) (cA (bq 8) dW)))))))))))))
  (aF (bM (bq 3)))))),?_,?own⟩
 case own=>first | rfl | exact hown
 . show aL ((?f:SD) (aS 11 _))=_
   exact hb.1
theorem iW:aG ["_law_table","_law_made","_law_i","_law_turn","_law_longer","_law_j","_law_m","_law_beyond"] ["_law_table"] (am fJ):=⟨rfl,rfl,rfl,by decide +kernel,rfl,by decide +kernel,by decide +kernel⟩
theorem m6 (F:Fun K "_law_closed" "_law_closed" fJ f fd)  (hLtighter:Has P w K mg base 1 "_law_tighter" ["_law_one","_law_other_here"] (fn aQ)) (hLsum:Has P w K mg base 1 "_law_sum" ["_law_one","_law_other_here"] (fn bY))  (m_range:mg "range" = none) (m_any:mg "any" = none) (m_list:mg "list" = none) (m_len:mg "len" = none):FnOk P w K mg base CX0 2 f fd ["_law_table"] (bV K 1 (fn fL)):=by
 have sc:=iW
 refine bZ F iW (fun cdv A outer s H E ds d hr hG hl=>?_)
 obtain ⟨d0,T,n,hT,hs,hn,rfl,rfl⟩:=bo hG
 have hown:=qw n T
 refine ⟨_,(au (aW 1 sc.nd (ka (by exact (eQ (ac 0))) (N:=["_law_row"]) (js:=[]) (cl:=[]) (fun _ _ _ _ _=>by exact (gw rfl m_list boot_list (ae (ac 0) ag))) (by exact CompOk.nil)))
  (au (cu 2 sc.nd PassesOwn.never rfl (aT rfl m_range (ae (aE aC bN rfl m_len PySem.boot_len (ae (ac 1) ag)) ag))
   (aF (eP (eO (ck (aD hLtighter hr (ae (az (az (ac 1) (ac 2)) (ac 2)) (ae (cS (ae aj (ae d5 ag))) ag))))) (aF (kf 1 (aN (cS (ae aj (ae d5 ag)))) (jP (iY ix_list (pvi 1) (ac 2) (fun _ _=>rfl)) (ac 2) gy))) cR)))
  (au (cu 3 sc.nd PassesOwn.never rfl (aT rfl m_range (ae aj ag))
   (au (l8 4 sc.nd (by exact (eQ (ac 1))) (N:=["_law_row"]) (js:=[]) (cl:=[]) (fun _ _ _ _ _=>by exact (gw rfl m_list boot_list (ae (ac 0) ag))) (by exact CompOk.nil))
   (au (cu 2 sc.nd PassesOwn.never rfl (aT rfl m_range (ae (aE aC bN rfl m_len PySem.boot_len (ae (ac 1) ag)) ag))
    (aF (cu 5 sc.nd PassesOwn.never rfl (aT rfl m_range (ae (aE aC bN rfl m_len PySem.boot_len (ae (ac 1) ag)) ag))
     (aF (cu 6 sc.nd PassesOwn.never rfl (aT rfl m_range (ae (aE aC bN rfl m_len PySem.boot_len (ae (ac 1) ag)) ag))
      (au (aW 7 sc.nd (aN (aD hLsum hr (ae (az (az (ac 1) (ac 2)) (ac 6)) (ae (az (az (ac 1) (ac 6)) (ac 5)) ag)))))
      (aF (eP (ck (aD hLtighter hr (ae (ac 7) (ae (az (az (ac 4) (ac 2)) (ac 5)) ag)))) (aF (kf 4 (bq 7) (jP (iY ix_list (pvi 4) (ac 2) (fun _ _=>rfl)) (ac 5) gy))) cR))))))))
   (aF (aW 1 sc.nd (bq 4))))))
  (au (eP (ck (aE (wg rfl) zI rfl m_any uC (ae (me (by exact (iz rfl m_range (ae (aE aC bN rfl m_len PySem.boot_len (ae (ac 1) ag)) ag))) (N:=["_law_i","_law_made"]) (js:=[1]) (cl:=[("_law_made",_)]) (fun _ _ _ _ _=>by exact (yW hr.units (az (az (ac 1) (ac 0)) (ac 0)) (cS (ae aj (ae d5 ag))))) (by exact CompOk.one)) ag))) (aF (bM (aN bJ))) cR)
  (aF (bM (bq 1))))))),?_,?own⟩
 case own=>first | rfl | exact hown
 . show aL ((?f:SD) (aS 8 _))=_
   have e0:aS 8 [d0]=[some (aw T),none,none,none,none,none,none,none]:=by
    show [some (sh d0),none,none,none,none,none,none,none]=_
    rw [show sh d0=aw T from hT]
   rw [e0]
   have hv:=fun (f:Nat->Nat->Bn) (o2 o3 o4 o5 o6 o7:Option D)=>db (g:=aa (ah bP (aa (ab 1) af)) af) (δ:=[some (aw T),some (ak (aB n f)),o2,o3,o4,o5,o6,o7]) (n:=n) (by simp only [ab,af,aa,ah,Zc,Zd,Ze,pz (be n f)]) (by omega)
   obtain ⟨_,w0,o2,rfl⟩:=bC (i:=2) (s:=((sIf (cC (fT (ah (fn aQ) (aa (f2 gIx (f2 gIx (ab 1) (ab 2)) (ab 2)) (aa (bU (aa (fC (.int 0)) (aa (fC (.bl false)) af))) af))))) (dH 1 (ab 2) (ab 2) (vI (bU (aa (fC (.int 0)) (aa (fC (.bl false)) af))))) ba))) (f:=fun (i:Nat)=>D.int (i:Int)) (fun pre δ=>∃ o2,δ=[some (aw T),some (ak (aB n fun i j=>if i=j/\i < pre.length/\tgt (ao T i i) b0=false then b0 else ao T i j)),o2,none,none,none,none,none]) (List.range n) (by
    rintro pre x post _ hx ⟨o2,rfl⟩
    obtain ⟨rfl,hl⟩:=bg hx
    rw [Zh,Zj]
    generalize pre.length=k at *
    obtain ⟨r1,q1,q2,q3,q4,q5⟩:=gD (be n fun i j=>if i=j/\i < k/\tgt (ao T i i) b0=false then b0 else ao T i j) hl hl
    rw [br _ hl hl,if_neg (by omega)] at q2
    have et:=fB (a:=ao T k k) (b:=b0)
    have eb:bdD b0=.tup [.int 0,.bl false]:=rfl
    rw [eb] at et
    cases ht:tgt (ao T k k) b0 with
    | false =>
     refine ⟨_,c9 (by simp only [ab,fC,f2,fT,asB,cC,af,aa,bU,ah,Zc,Option.map_some,Zd,Ze,Zf,Zg,Bool.not_false,jK,q1,q2,et,ht]) (l5 (b:=b0) (be n _) hl hl (bw (d:=bdD b0) rfl (eS b0)) rfl rfl rfl),some (.int (k:Int)),?_⟩
     rw [jj _ _ hl hl]
     have e:aB n (up2 (fun i j=>if i=j/\i < k/\tgt (ao T i i) b0=false then b0 else ao T i j) k k b0)=aB n fun i j=>if i=j/\i < k+1/\tgt (ao T i i) b0=false then b0 else ao T i j:=bc fun i j hi hj=>by
      unfold up2
      by_cases a:i=k/\j=k
      . rw [if_pos a,if_pos ⟨by omega,by omega,by rw [a.1];exact ht⟩]
      . rw [if_neg a]
        dsimp only
        by_cases b:i=j/\i < k/\tgt (ao T i i) b0=false
        . rw [if_pos b,if_pos ⟨b.1,by omega,b.2.2⟩]
        . rw [if_neg b,if_neg fun z=>?_]
          by_cases q:i < k
          . exact b ⟨z.1,q,z.2.2⟩
          . exact a ⟨by omega,by omega⟩
     rw [e]
     rfl
    | true =>
     refine ⟨_,bA (by simp only [ab,fC,f2,fT,asB,cC,af,aa,bU,ah,Zc,Option.map_some,Zd,Ze,Zf,Zg,Bool.not_true,jK,q1,q2,et,ht]) rfl,some (.int (k:Int)),?_⟩
     have e:aB n (fun i j=>if i=j/\i < k/\tgt (ao T i i) b0=false then b0 else ao T i j)=aB n fun i j=>if i=j/\i < k+1/\tgt (ao T i i) b0=false then b0 else ao T i j:=bc fun i j hi hj=>by
      by_cases b:i=j/\i < k/\tgt (ao T i i) b0=false
      . rw [if_pos b,if_pos ⟨b.1,by omega,b.2.2⟩]
      . rw [if_neg b,if_neg fun z=>?_]
        by_cases q:i < k
        . exact b ⟨z.1,q,z.2.2⟩
        . have:i=k:=by omega
          subst this
          have:=z.2.2
          rw [ht] at this
          cases this
     rw [e]
     rfl) (List.range n) [] [some (aw T),some (ak T),none,none,none,none,none,none] rfl ⟨none,by
     have e:aB n (fun i j=>if i=j/\i < ([]:List Nat).length/\tgt (ao T i i) b0=false then b0 else ao T i j)=T:=(bc fun i j _ _=>if_neg fun z=>by have:=z.2.1;simp at this).trans (oP hs)
     rw [e]⟩
   have e0':aB n (fun i j=>if i=j/\i < (List.range n).length/\tgt (ao T i i) b0=false then b0 else ao T i j)=aB n (sqs n (cl0 T) 0):=bc fun i j hi hj=>by
    show _=cl0 T i j
    unfold cl0
    rw [List.length_range]
    by_cases a:i=j/\tgt (ao T i i) b0=false
    . rw [if_pos a,if_pos ⟨a.1,hi,a.2⟩]
    . rw [if_neg a,if_neg fun z=>a ⟨z.1,z.2.2⟩]
   rw [e0'] at w0
   have turn:∀ (f:Nat->Nat->Bn) (o2 o3 o4 o5 o6 o7:Option D),∃ δ',((ax (av 4 (dG (fun δ=>((ab 1) δ).bind asL) [] (ee (aa (ab 0) af)))) (ax (cn (bX (aa (ah bP (aa (ab 1) af)) af)) 2 (cn (bX (aa (ah bP (aa (ab 1) af)) af)) 5 (cn (bX (aa (ah bP (aa (ab 1) af)) af)) 6 (ax (av 7 (vI (ah (fn bY) (aa (f2 gIx (f2 gIx (ab 1) (ab 2)) (ab 6)) (aa (f2 gIx (f2 gIx (ab 1) (ab 6)) (ab 5)) af))))) (sIf (fT (ah (fn aQ) (aa (ab 7) (aa (f2 gIx (f2 gIx (ab 4) (ab 2)) (ab 5)) af)))) (dH 4 (ab 2) (ab 5) (bn 7)) ba))))) (av 1 (bn 4))))) [some (aw T),some (ak (aB n f)),o2,o3,o4,o5,o6,o7]=some (.nx δ')/\∃ o2 o3 o4 o5 o6 o7,δ'=[some (aw T),some (ak (aB n (sq n f))),o2,o3,o4,o5,o6,o7]:=by
    intro f o2 o3 o4 o5 o6 o7
    have fm:∀ (i j:Nat),i < n->j < n->∀ (o6 o7:Option D),∃ δ',Dl.forM 6 ((ax (av 7 (vI (ah (fn bY) (aa (f2 gIx (f2 gIx (ab 1) (ab 2)) (ab 6)) (aa (f2 gIx (f2 gIx (ab 1) (ab 6)) (ab 5)) af))))) (sIf (fT (ah (fn aQ) (aa (ab 7) (aa (f2 gIx (f2 gIx (ab 4) (ab 2)) (ab 5)) af)))) (dH 4 (ab 2) (ab 5) (bn 7)) ba))) ((List.range n).map fun (i:Nat)=>D.int (i:Int)) [some (aw T),some (ak (aB n f)),some (.int (i:Int)),o3,some (ak (aB n (lgr n f i j 0))),some (.int (j:Int)),o6,o7]=some (.nx δ')/\∃ o6 o7,δ'=[some (aw T),some (ak (aB n f)),some (.int (i:Int)),o3,some (ak (aB n (lgr n f i j n))),some (.int (j:Int)),o6,o7]:=fun i j hi hj o6 o7=>by
     have:=bC (i:=6) (s:=((ax (av 7 (vI (ah (fn bY) (aa (f2 gIx (f2 gIx (ab 1) (ab 2)) (ab 6)) (aa (f2 gIx (f2 gIx (ab 1) (ab 6)) (ab 5)) af))))) (sIf (fT (ah (fn aQ) (aa (ab 7) (aa (f2 gIx (f2 gIx (ab 4) (ab 2)) (ab 5)) af)))) (dH 4 (ab 2) (ab 5) (bn 7)) ba)))) (f:=fun (i:Nat)=>D.int (i:Int)) (fun pre δ=>∃ o6 o7,δ=[some (aw T),some (ak (aB n f)),some (.int (i:Int)),o3,some (ak (aB n (lgr n f i j pre.length))),some (.int (j:Int)),o6,o7]) (List.range n) (by
      rintro pre x post _ hx ⟨o6,o7,rfl⟩
      obtain ⟨rfl,hm⟩:=bg hx
      rw [Zh,Zj]
      generalize pre.length=m at *
      obtain ⟨r1,q1,q2,q3,q4,q5⟩:=gD (be n f) hi hm
      obtain ⟨r2,u1,u2,u3,u4,u5⟩:=gD (be n f) hm hj
      obtain ⟨r3,v1,v2,v3,v4,v5⟩:=gD (be n (lgr n f i j m)) hi hj
      rw [br _ hi hm] at q2
      rw [br _ hm hj] at u2
      rw [br _ hi hj,zo] at v2
      have s1:((av 7 (vI (ah (fn bY) (aa (f2 gIx (f2 gIx (ab 1) (ab 2)) (ab 6)) (aa (f2 gIx (f2 gIx (ab 1) (ab 6)) (ab 5)) af)))))) [some (aw T),some (ak (aB n f)),some (.int (i:Int)),o3,some (ak (aB n (lgr n f i j m))),some (.int (j:Int)),some (.int (m:Int)),o7]=some (.nx [some (aw T),some (ak (aB n f)),some (.int (i:Int)),o3,some (ak (aB n (lgr n f i j m))),some (.int (j:Int)),some (.int (m:Int)),some (bdD (bs (f i m) (f m j)))]):=cQ (bw (d:=bdD (bs (f i m) (f m j))) (by simp only [ab,f2,af,aa,ah,Zc,Zd,Ze,q1,q2,u1,u2,gS]) (eS _))
      have et:=fB (a:=bs (f i m) (f m j)) (b:=sqf f i j (List.range m) (f i j))
      cases ht:tgt (bs (f i m) (f m j)) (sqf f i j (List.range m) (f i j)) with
      | false =>
       refine ⟨_,ap s1 (bA (by simp only [ab,f2,fT,asB,af,aa,ah,Zc,Zd,Ze,v1,v2,et,ht]) rfl),some (.int (m:Int)),some (bdD (bs (f i m) (f m j))),?_⟩
       rw [<- vS f ht]
      | true =>
       have p1:=l5 (T:=aB n (lgr n f i j m)) (b:=bs (f i m) (f m j)) (δ:=[some (aw T),some (ak (aB n f)),some (.int (i:Int)),o3,some (ak (aB n (lgr n f i j m))),some (.int (j:Int)),some (.int (m:Int)),some (bdD (bs (f i m) (f m j)))]) (p:=4) (fk:=ab 2) (fl:=ab 5) (fm:=bn 7) (be n _) hi hj (iQ rfl) rfl rfl rfl
       have te:bs (f i m) (f m j)=tg2 (sqf f i j (List.range m) (f i j)) (bs (f i m) (f m j)):=by
        unfold tg2
        rw [ht]
        rfl
       have t2:jt (aB n (lgr n f i j m)) i j (bs (f i m) (f m j))=aB n (lgr n f i j (m+1)):=by
        rw [jj _ _ hi hj]
        conv=>lhs;rw [te]
        exact AJ f hi hj
       rw [t2] at p1
       have cnd:(fT (ah (fn aQ) (aa (ab 7) (aa (f2 gIx (f2 gIx (ab 4) (ab 2)) (ab 5)) af)))) [some (aw T),some (ak (aB n f)),some (.int (i:Int)),o3,some (ak (aB n (lgr n f i j m))),some (.int (j:Int)),some (.int (m:Int)),some (bdD (bs (f i m) (f m j)))]=some true:=by simp only [ab,f2,fT,asB,af,aa,ah,Zc,Zd,Ze,v1,v2,et,ht]
       exact ⟨_,ap s1 (c9 cnd p1),some (.int (m:Int)),some (bdD (bs (f i m) (f m j))),rfl⟩) (List.range n) [] [some (aw T),some (ak (aB n f)),some (.int (i:Int)),o3,some (ak (aB n (lgr n f i j 0))),some (.int (j:Int)),o6,o7] rfl ⟨_,_,rfl⟩
     rw [List.length_range] at this
     exact this
    have fj:∀ (i:Nat),i < n->∀ (o5 o6 o7:Option D),∃ δ',Dl.forM 5 ((cn (bX (aa (ah bP (aa (ab 1) af)) af)) 6 (ax (av 7 (vI (ah (fn bY) (aa (f2 gIx (f2 gIx (ab 1) (ab 2)) (ab 6)) (aa (f2 gIx (f2 gIx (ab 1) (ab 6)) (ab 5)) af))))) (sIf (fT (ah (fn aQ) (aa (ab 7) (aa (f2 gIx (f2 gIx (ab 4) (ab 2)) (ab 5)) af)))) (dH 4 (ab 2) (ab 5) (bn 7)) ba)))) ((List.range n).map fun (i:Nat)=>D.int (i:Int)) [some (aw T),some (ak (aB n f)),some (.int (i:Int)),o3,some (ak (aB n (lgr n f i 0 0))),o5,o6,o7]=some (.nx δ')/\∃ o5 o6 o7,δ'=[some (aw T),some (ak (aB n f)),some (.int (i:Int)),o3,some (ak (aB n (lgr n f i n 0))),o5,o6,o7]:=fun i hi o5 o6 o7=>by
     have:=bC (i:=5) (s:=((cn (bX (aa (ah bP (aa (ab 1) af)) af)) 6 (ax (av 7 (vI (ah (fn bY) (aa (f2 gIx (f2 gIx (ab 1) (ab 2)) (ab 6)) (aa (f2 gIx (f2 gIx (ab 1) (ab 6)) (ab 5)) af))))) (sIf (fT (ah (fn aQ) (aa (ab 7) (aa (f2 gIx (f2 gIx (ab 4) (ab 2)) (ab 5)) af)))) (dH 4 (ab 2) (ab 5) (bn 7)) ba))))) (f:=fun (i:Nat)=>D.int (i:Int)) (fun pre δ=>∃ o5 o6 o7,δ=[some (aw T),some (ak (aB n f)),some (.int (i:Int)),o3,some (ak (aB n (lgr n f i pre.length 0))),o5,o6,o7]) (List.range n) (by
      rintro pre x post _ hx ⟨o5,o6,o7,rfl⟩
      obtain ⟨rfl,hj⟩:=bg hx
      rw [Zh,Zj]
      generalize pre.length=j at *
      obtain ⟨_,f1,o6',o7',rfl⟩:=fm i j hi hj o6 o7
      rw [AK] at f1
      exact ⟨_,bD (hv f _ _ _ _ _ _) f1,_,_,_,rfl⟩) (List.range n) [] [some (aw T),some (ak (aB n f)),some (.int (i:Int)),o3,some (ak (aB n (lgr n f i 0 0))),o5,o6,o7] rfl ⟨_,_,_,rfl⟩
     rw [List.length_range] at this
     exact this
    obtain ⟨_,fi,o2',o5',o6',o7',rfl⟩:=bC (i:=2) (s:=((cn (bX (aa (ah bP (aa (ab 1) af)) af)) 5 (cn (bX (aa (ah bP (aa (ab 1) af)) af)) 6 (ax (av 7 (vI (ah (fn bY) (aa (f2 gIx (f2 gIx (ab 1) (ab 2)) (ab 6)) (aa (f2 gIx (f2 gIx (ab 1) (ab 6)) (ab 5)) af))))) (sIf (fT (ah (fn aQ) (aa (ab 7) (aa (f2 gIx (f2 gIx (ab 4) (ab 2)) (ab 5)) af)))) (dH 4 (ab 2) (ab 5) (bn 7)) ba)))))) (f:=fun (i:Nat)=>D.int (i:Int)) (fun pre δ=>∃ o2 o5 o6 o7,δ=[some (aw T),some (ak (aB n f)),o2,o3,some (ak (aB n (lgr n f pre.length 0 0))),o5,o6,o7]) (List.range n) (by
     rintro pre x post _ hx ⟨o2,o5,o6,o7,rfl⟩
     obtain ⟨rfl,hi⟩:=bg hx
     rw [Zh,Zj]
     generalize pre.length=i at *
     obtain ⟨_,f1,o5',o6',o7',rfl⟩:=fj i hi o5 o6 o7
     rw [AL] at f1
     exact ⟨_,bD (hv f _ _ _ _ _ _) f1,_,_,_,_,rfl⟩) (List.range n) [] [some (aw T),some (ak (aB n f)),o2,o3,some (ak (aB n (lgr n f 0 0 0))),o5,o6,o7] rfl ⟨_,_,_,_,rfl⟩
    rw [List.length_range,AI] at fi
    rw [AM] at fi
    exact ⟨_,ap (aV (iR (be n f) hn rfl)) (ap (bD (hv f _ _ _ _ _ _) fi) (aV (dS rfl))),_,_,_,_,_,_,rfl⟩
   obtain ⟨_,w1,o2',o3',o4',o5',o6',o7',rfl⟩:=bC (i:=3) (s:=((ax (av 4 (dG (fun δ=>((ab 1) δ).bind asL) [] (ee (aa (ab 0) af)))) (ax (cn (bX (aa (ah bP (aa (ab 1) af)) af)) 2 (cn (bX (aa (ah bP (aa (ab 1) af)) af)) 5 (cn (bX (aa (ah bP (aa (ab 1) af)) af)) 6 (ax (av 7 (vI (ah (fn bY) (aa (f2 gIx (f2 gIx (ab 1) (ab 2)) (ab 6)) (aa (f2 gIx (f2 gIx (ab 1) (ab 6)) (ab 5)) af))))) (sIf (fT (ah (fn aQ) (aa (ab 7) (aa (f2 gIx (f2 gIx (ab 4) (ab 2)) (ab 5)) af)))) (dH 4 (ab 2) (ab 5) (bn 7)) ba))))) (av 1 (bn 4)))))) (f:=fun (i:Nat)=>D.int (i:Int)) (fun pre δ=>∃ o2 o3 o4 o5 o6 o7,δ=[some (aw T),some (ak (aB n (sqs n (cl0 T) pre.length))),o2,o3,o4,o5,o6,o7]) (List.range 4) (by
    rintro pre x post _ hx ⟨o2,o3,o4,o5,o6,o7,rfl⟩
    rw [Zh,Zj]
    exact turn (sqs n (cl0 T) pre.length) o2 (some (sh (.int (x:Int)))) o4 o5 o6 o7) (List.range 4) [] [some (aw T),some (ak (aB n (sqs n (cl0 T) 0))),o2,none,none,none,none,none] rfl ⟨_,_,_,_,_,_,rfl⟩
   rw [List.length_range] at w1
   have hv4:=fun (f:Nat->Nat->Bn) (o2 o3 o4 o5 o6 o7:Option D)=>db (g:=aa (fC (.int 4)) af) (δ:=[some (aw T),some (ak (aB n f)),o2,o3,o4,o5,o6,o7]) (n:=4) rfl (by decide)
   have hvT:=hv (ao T) none none none none none none
   rw [oP hs] at hvT
   refine dI (ap (aV (jI hs hn rfl)) (ap (bD hvT w0) (ap (bD (hv4 _ _ _ _ _ _ _) w1) ?_)))
   have cmp:kB (mF (aa (ah bP (aa (ab 1) af)) af)) [1] (f2 gq (f2 gIx (f2 gIx (ab 1) (ab 0)) (ab 0)) (bU (aa (fC (.int 0)) (aa (fC (.bl false)) af)))) [some (aw T),some (ak (aB n (sqs n (cl0 T) 4))),o2',o3',o4',o5',o6',o7']=some (.lst (((List.range n).map fun i=>decide (sqs n (cl0 T) 4 i i ≠ b0)).map D.bl)):=by
    rw [List.map_map]
    refine jr (f:=fun (i:Nat)=>D.int (i:Int)) (g:=fun i=>D.bl (decide (sqs n (cl0 T) 4 i i ≠ b0))) (sC (ds:=[.int (n:Int)]) (by simp only [ab,af,aa,ah,Zc,Zd,Ze,pz (be n _)]) (by rw [tX (by omega) (by omega),j9])) (fun i hi=>?_) (by rw [List.length_range];omega)
    have hi:=Zm.mp hi
    obtain ⟨r1,q1,q2,_⟩:=gD (be n (sqs n (cl0 T) 4)) hi hi
    rw [br _ hi hi] at q2
    show f2 gq _ _ [some (D.int (i:Int)),some (ak (aB n (sqs n (cl0 T) 4)))]=_
    have nb:=AE (sqs n (cl0 T) 4 i i)
    simp only [ab,fC,f2,af,aa,bU,Zc,Zd,Ze,q1,q2,nb]
   have an:=vX ((List.range n).map fun i=>decide (sqs n (cl0 T) 4 i i ≠ b0))
   rw [List.any_map] at an
   unfold kq
   have ec:(id ∘ fun i=>decide (sqs n (cl0 T) 4 i i ≠ b0))=fun i=>decide (sqs n (cl0 T) 4 i i ≠ b0):=rfl
   rw [ec] at an
   cases hz:(List.range n).any fun i=>decide (sqs n (cl0 T) 4 i i ≠ b0) with
   | true =>
    rw [hz] at an
    rw [if_pos rfl]
    exact ik (c9 (by simp only [fT,asB,af,aa,ah,Zc,cmp,an]) (cr (bw rfl)))
   | false =>
    rw [hz] at an
    rw [if_neg (by decide)]
    exact ap (bA (by simp only [fT,asB,af,aa,ah,Zc,cmp,an]) rfl) (cr (dS rfl))
theorem j3:aG ["_law_table","_law_point","_law_parts","_law_i","_law_j"] ["_law_table","_law_point"] (am gN):=⟨rfl,rfl,rfl,by decide +kernel,rfl,by decide +kernel,by decide +kernel⟩
theorem pp (F:Fun K "_law_lies" "_law_lies" gN f fd)  (hLkeeps:Has P w K mg base 1 "_law_keeps" ["_law_part_here","_law_bound"] (fn eZ)) (hLless:Has P w K mg base 1 "_law_less" ["_law_one","_law_other_here"] (fn cg))  (m_range:mg "range" = none) (m_len:mg "len" = none):FnOk P w K mg base CX0 2 f fd ["_law_table","_law_point"] (bV K 2 (fn bj)):=by
 have sc:=j3
 refine bZ F j3 (fun cdv A outer s H E ds d hr hG hl=>?_)
 obtain ⟨d0,d1,T,ps,h1,h2,h3,h4,h5,h6,rfl,rfl⟩:=bo hG
 have hown:own (.bl (gH T ps))=true:=rfl
 refine ⟨_,(au (aW 2 sc.nd (l7 (jQ (ae (cS (ae aj (ae aj ag))) ag)) (ac 1)))
  (au (cu 3 sc.nd PassesOwn.never rfl (aT rfl m_range (ae (aE aC bN rfl m_len PySem.boot_len (ae (ac 2) ag)) ag))
   (aF (cu 4 sc.nd PassesOwn.never rfl (aT rfl m_range (ae (aE aC bN rfl m_len PySem.boot_len (ae (ac 2) ag)) ag))
    (aF (eP (eO (ck (aD hLkeeps hr (ae (aD hLless hr (ae (az (ac 2) (ac 3)) (ae (az (ac 2) (ac 4)) ag))) (ae (az (az (ac 0) (ac 3)) (ac 4)) ag))))) (aF (bM (aN d5))) cR)))))
  (aF (bM (aN d5))))),?_,?own⟩
 case own=>first | rfl | exact hown
 . show aL ((?f:SD) (aS 5 _))=_
   have e0:aS 5 [d0,d1]=[some (aw T),some (.seq (ps.map fr)),none,none,none]:=by
    show [some (sh d0),some (sh d1),none,none,none]=_
    rw [show sh d0=_ from h1,show sh d1=_ from h5]
   rw [e0]
   have len:bP [.lst ((cX ps).map fr)]=some (.int ((ps.length+1:Nat):Int)):=by
    show some (D.int (((cX ps).map fr).length:Int))=_
    rw [Zi]
    rfl
   have hv:=fun o3 o4:Option D=>db (g:=aa (ah bP (aa (ab 2) af)) af) (δ:=[some (aw T),some (.seq (ps.map fr)),some (.lst ((cX ps).map fr)),o3,o4]) (n:=ps.length+1) (by simp only [ab,af,aa,ah,Zc,Zd,Ze,len]) (by omega)
   have inn:=fun (i:Nat) (hi:i < ps.length+1) (o:Option D)=>nn (i:=4) (s:=((sIf (cC (fT (ah (fn eZ) (aa (ah (fn cg) (aa (f2 gIx (ab 2) (ab 3)) (aa (f2 gIx (ab 2) (ab 4)) af))) (aa (f2 gIx (f2 gIx (ab 0) (ab 3)) (ab 4)) af))))) (cw (vI (fC (.bl false)))) ba))) (f:=fun (i:Nat)=>D.int (i:Int)) (d:=.bl false) (fun δ=>∃ o,δ=[some (aw T),some (.seq (ps.map fr)),some (.lst ((cX ps).map fr)),some (.int (i:Int)),o]) (fun j=>kp (dif ps i j) (ao T i j)) (List.range (ps.length+1)) [some (aw T),some (.seq (ps.map fr)),some (.lst ((cX ps).map fr)),some (.int (i:Int)),o] ⟨_,rfl⟩ (by
    rintro j hj _ ⟨o,rfl⟩
    have hj:=Zm.mp hj
    obtain ⟨r,q1,q2⟩:=i4 h2 hi hj
    have fi:=fN (by decide) h6 i
    have fj:=fN (by decide) h6 j
    have kk:fn eZ [fr (dl (da ps i) (da ps j)),bdD (ao T i j)]=some (.bl (kp (dif ps i j) (ao T i j))):=by
     have:=pN (AX fi fj (by decide)) (h4 i j)
     rw [yc fi.pos fj.pos] at this
     exact this
    refine ⟨fun hb=>⟨_,xT (b:=false) (by simp only [ab,f2,fT,asB,cC,af,aa,ah,Zc,Option.map_some,Zd,Ze,Zf,Zg,Bool.not_true,jK,(jp hi).1,(jp hj).1,q1,q2,e2 (op:=fun p q=>fr (dl p q)) (Fk.of fi) (Fk.of fj),kk,hb]) rfl,_,rfl⟩,fun hb=>?_⟩
    exact xT (b:=true) (by simp only [ab,f2,fT,asB,cC,af,aa,ah,Zc,Option.map_some,Zd,Ze,Zf,Zg,Bool.not_false,jK,(jp hi).1,(jp hj).1,q1,q2,e2 (op:=fun p q=>fr (dl p q)) (Fk.of fi) (Fk.of fj),kk,hb]) (cr (bw rfl)))
   obtain ⟨k1,k2⟩:=nn (i:=3) (s:=((cn (bX (aa (ah bP (aa (ab 2) af)) af)) 4 (sIf (cC (fT (ah (fn eZ) (aa (ah (fn cg) (aa (f2 gIx (ab 2) (ab 3)) (aa (f2 gIx (ab 2) (ab 4)) af))) (aa (f2 gIx (f2 gIx (ab 0) (ab 3)) (ab 4)) af))))) (cw (vI (fC (.bl false)))) ba)))) (f:=fun (i:Nat)=>D.int (i:Int)) (d:=.bl false) (fun δ=>∃ o p,δ=[some (aw T),some (.seq (ps.map fr)),some (.lst ((cX ps).map fr)),o,p]) (fun i=>(List.range (ps.length+1)).all fun j=>kp (dif ps i j) (ao T i j)) (List.range (ps.length+1)) [some (aw T),some (.seq (ps.map fr)),some (.lst ((cX ps).map fr)),none,none] ⟨_,_,rfl⟩ (by
    rintro i hi _ ⟨o,p,rfl⟩
    have hi:=Zm.mp hi
    obtain ⟨w1,w2⟩:=inn i hi p
    refine ⟨fun hb=>?_,fun hb=>bD (hv _ _) (w2 hb)⟩
    obtain ⟨_,f1,o',rfl⟩:=w1 hb
    exact ⟨_,bD (hv _ _) f1,_,_,rfl⟩)
   have cat:hV (fP (aa (bU (aa (fC (.int 0)) (aa (fC (.int 1)) af))) af)) (ab 1) [some (aw T),some (.seq (ps.map fr)),none,none,none]=some (.lst ((cX ps).map fr),[some (aw T),some (.seq (ps.map fr)),none,none,none]):=oN (a:=.lst [fr (0,1)]) (xs:=[fr (0,1)]) (ys:=ps.map fr) rfl rfl rfl rfl (by rw [Zi];simp only [List.length_cons,List.length_nil];omega) (qJ (cX ps))
   have ea:gH T ps=(List.range (ps.length+1)).all fun i=>(List.range (ps.length+1)).all fun j=>kp (dif ps i j) (ao T i j):=rfl
   refine dI (ap (aV cat) ?_)
   dsimp only [List.set_cons_zero,List.set_cons_succ]
   cases hq:gH T ps with
   | true =>
    obtain ⟨_,w,o,p,rfl⟩:=k1 (ea ▸ hq)
    exact ap (bD (hv _ _) w) (cr (bw rfl))
   | false=>exact ik (bD (hv _ _) (k2 (ea ▸ hq)))
theorem iL:aG ["_law_found","_law_table","_law_total","_law_k"] ["_law_found","_law_table"] (am eK):=⟨rfl,rfl,rfl,by decide +kernel,rfl,by decide +kernel,by decide +kernel⟩
theorem lO (F:Fun K "_law_is_ring" "_law_is_ring" eK f fd)  (hLsum:Has P w K mg base 1 "_law_sum" ["_law_one","_law_other_here"] (fn bY)) (hLwhole:Has P w K mg base 1 "_law_whole" ["_law_found"] (fn gu))  (m_range:mg "range" = none) (m_all:mg "all" = none) (m_len:mg "len" = none) (m_isinstance:mg "isinstance" = none) (m_list:mg "list" = none) (m_set:mg "set" = none):FnOk P w K mg base CX0 2 f fd ["_law_found","_law_table"] (bV K 2 (fn dw)):=by
 have sc:=iL
 refine bZ F iL (fun cdv A outer s H E ds d hr hG hl=>?_)
 obtain ⟨d0,d1,T,n,r,h0,h1,hs,hn,hl,nd,lt,bad,rfl,rfl⟩:=bo hG
 have hown:own (.bl true)=true:=rfl
 refine ⟨_,(au (eP (PWD.pt (g6 (eO (ck (aE eU (iD m3) rfl m_isinstance boot_isinstance (ae (ac 0) (ae (ki rfl m_list boot_list) ag))))) (g6 (kc hr.units (aE aC bN rfl m_len PySem.boot_len (ae (ac 0) ag)) aj) (gk (kS (ud (ac 0) rfl m_len rfl m_set) (aE aC bN rfl m_len PySem.boot_len (ae (ac 0) ag))))))) (aF (bM (aN d5))) cR)
  (au (eP (eO (ck (aE (nI rfl) r8 rfl m_all lg (ae (me (by exact (eQ (ac 0))) (N:=["_law_thing","_law_table"]) (js:=[1]) (cl:=[("_law_table",_)]) (fun _ _ _ _ _=>by exact (eR (aD hLwhole hr (ae (ac 0) ag)) (dh (vA aj (ac 0) (aE aC bN rfl m_len PySem.boot_len (ae (ac 1) ag)))))) (by exact CompOk.one)) ag)))) (aF (bM (aN d5))) cR)
  (au (aW 2 sc.nd (aN (cS (ae aj (ae d5 ag)))))
  (au (cu 3 sc.nd PassesOwn.never rfl (aT rfl m_range (ae (aE aC bN rfl m_len PySem.boot_len (ae (ac 0) ag)) ag))
   (aF (aW 2 sc.nd (aN (aD hLsum hr (ae (ac 2) (ae (az (az (ac 1) (az (ac 0) (fS (ac 3) aj))) (az (ac 0) (ac 3))) ag)))))))
  (aF (bM (aN (eR (xf (ac 2) bJ) (dh (oy (qv (az (ac 2) aj) aj) (dh (eR (jR hr.units (az (ac 2) aj) aj) (dh (az (ac 2) aj)))))))))))))),?_,?own⟩
 case own=>first | rfl | exact hown
 . show aL ((?f:SD) (aS 4 _))=_
   have e0:aS 4 [d0,d1]=[some (.seq (aP r)),some (aw T),none,none]:=by
    show [some (sh d0),some (sh d1),none,none]=_
    rw [h0,show sh d1=_ from h1]
   rw [e0]
   have rl:r.length<=41:=Nat.le_trans (gx n r nd lt) hn
   have el:(aP r).length=r.length:=Zi _
   have len:bP [.seq (aP r)]=some (.int (r.length:Int)):=by
    show some (D.int ((aP r).length:Int))=_
    rw [el]
   have lenT:bP [aw T]=some (.int (n:Int)):=iB hs
   have ls:mr (ab 0) [some (.seq (aP r)),some (aw T),none,none]=some (.int (r.length:Int)):=by
    unfold mr
    show ((jX (aP r)).bind fun ns=>if ns.length<=1000 then some (D.int ((n6 ns).length:Int)) else none)=_
    rw [ku]
    show (if _ then _ else _)=_
    rw [if_pos (by rw [Zi];omega),zF nd]
   have e1:((r.length:Int) == 0)=false:=by rw [beq_eq_false_iff_ne];omega
   have e2:decide ((r.length:Int) < (r.length:Int))=false:=by simp
   have il:tw (.seq (aP r))=some true:=rfl
   have cmp:kB (fun δ=>((ab 0) δ).bind asL) [1] (cj (ah (fn gu) (aa (ab 0) af)) (nq (fC (.int 0)) (ab 0) (ah bP (aa (ab 1) af)))) [some (.seq (aP r)),some (aw T),none,none]=some (.lst ((r.map fun _=>true).map D.bl)):=by
    rw [List.map_map]
    refine jr (f:=fun (k:Nat)=>D.int (k:Int)) (g:=fun _=>D.bl true) rfl (fun k hk=>?_) (by omega)
    have hk:=lt k hk
    have c1:decide ((0:Int)<=(k:Int))=true:=decide_eq_true (by omega)
    have c2:decide ((k:Int) < (n:Int))=true:=decide_eq_true (by omega)
    show cj _ _ [some (D.int (k:Int)),some (aw T)]=_
    have ch:nq (fC (.int 0)) (ab 0) (ah bP (aa (ab 1) af)) [some (D.int (k:Int)),some (aw T)]=some (.bl true):=by
     unfold nq
     simp only [ab,fC,af,aa,ah,Zc,Zd,Ze,lenT,asN,c1,c2,Bool.and_self]
    simp only [ab,cj,af,aa,ah,Zc,Zd,fE (x:=.int (k:Int)) (b:=true) rfl,ch]
   have al:pG [.lst ((r.map fun _=>true).map D.bl)]=some (.bl true):=by
    rw [qL]
    congr 2
    rw [List.all_map,List.all_eq_true]
    intro x _
    rfl
   have hv:=db (g:=aa (ah bP (aa (ab 0) af)) af) (δ:=[some (.seq (aP r)),some (aw T),some (.tup [.int 0,.bl false]),none]) (n:=r.length) (by simp only [ab,af,aa,ah,Zc,Zd,len]) (by omega)
   obtain ⟨_,w,o,rfl⟩:=bC (i:=3) (s:=((av 2 (vI (ah (fn bY) (aa (ab 2) (aa (f2 gIx (f2 gIx (ab 1) (f2 gIx (ab 0) (f2 (gI0 fun i j=>.int (i - j)) (ab 3) (fC (.int 1))))) (f2 gIx (ab 0) (ab 3))) af))))))) (f:=fun (i:Nat)=>D.int (i:Int)) (fun pre δ=>∃ o,δ=[some (.seq (aP r)),some (aw T),some (bdD (tot T r pre.length)),o]) (List.range r.length) (by
    rintro pre x post _ hx ⟨o,rfl⟩
    obtain ⟨rfl,hk⟩:=bg hx
    rw [Zh,Zj]
    generalize pre.length=k at *
    have g1:∀ y,y < r.length->r.getD y 0 < n:=fun y hy=>lt _ (by rw [Zp,Zq hy];exact List.getElem_mem _)
    have pk:prv r k < r.length:=by unfold prv;split <;> omega
    obtain ⟨r1,q1,q2⟩:=i4 hs (g1 _ pk) (g1 k hk)
    have i1:=zv hk
    have i2:gIx (.seq (aP r)) (.int (k:Int))=some (.int ((r.getD k 0:Nat):Int)):=fF (lb hk)
    refine ⟨_,cQ (bw (d:=bdD (tot T r (k+1))) ?_ (eS _)),_,rfl⟩
    simp only [ab,fC,f2,af,aa,ah,gI0,Zc,Zd,Ze,Zf,Zg,jK,i1,i2,q1,q2,gS]
    rfl) (List.range r.length) [] [some (.seq (aP r)),some (aw T),some (.tup [.int 0,.bl false]),none] rfl ⟨_,rfl⟩
   rw [List.length_range] at w
   refine dI (ap (bA (by simp only [ab,fC,f2,fT,asB,cC,dY,af,aa,ah,gI0,lc,Zc,Option.map_some,Zd,Bool.not_true,il,len,ls,bz,gLt,e1,e2]) rfl) (ap (bA (xM cmp al) rfl) (ap (cQ (bw (d:=.tup [.int 0,.bl false]) rfl)) (ap (bD hv w) (oQ (bw ?_))))))
   rcases ht:tot T r r.length with _ | ⟨k,s⟩
   . exact absurd (by rw [ht];exact iC _) bad
   . rw [ht] at bad
     unfold Nn at bad
     rw [lB] at bad
     by_cases hk:k < 0
     . have k1:decide (k < 0)=true:=decide_eq_true hk
       simp only [ab,fC,f2,cj,nY,du,eT,gI0,Zc,Zd,Ze,Bool.not_false,bI,cY,cp,gLt,k1]
     . have k1:decide (k < 0)=false:=decide_eq_false hk
       have k0:k=0:=by
        by_cases z:0 < k
        . exact absurd (.inl z) bad
        . omega
       subst k0
       have s1:s=true:=by
        cases s with
        | true=>rfl
        | false=>exact absurd (.inr ⟨rfl,fun z=>z⟩) bad
       subst s1
       simp only [ab,fC,f2,cj,nY,du,eT,gI0,Zc,Zd,Ze,Bool.not_false,beq_self_eq_true,bI,cY,cp,gLt,k1,bz]
theorem jw:aG ["_law_table","_law_script","_law_made","_law_i","_law_j","_law_drawn","_law_bound"] ["_law_table","_law_script"] (am gh):=⟨rfl,rfl,rfl,by decide +kernel,rfl,by decide +kernel,by decide +kernel⟩
theorem AB (ns:List Int) (T A:List (List Bn)) (r:List Bn) (n i j:Nat) (o5 o6:Option D) (hs:Sq T n) (hn:n<=7) (hA:A.length=i) (hr:r.length=j) (hi:i < n) (hj:j < n):∃ p5 p6:Option D,
 ((ax (av 5 (cI (fn aM) (aa (ah (fn aA) (aa (ab 1) (aa (f2 (gI0 fun i j=>.int (i - j)) (f2 (gI0 fun i j=>.int (i - j)) (fC (.int 60)) (f2 (gI aR fun i j=>.int (i*j)) (fC (.int 9)) (ab 3))) (ab 4)) af))) (aa (f2 bv (f2 (gI aR fun i j=>.int (i*j)) (fC (.int 9)) (ab 3)) (ab 4)) af)))) (ax (av 6 (vI (fC .non))) (ax (sIf (fT (f2 ce (f2 (gI (fun _ j=>0 < j) fun i j=>.int (i % j)) (ab 5) (fC (.int 3))) (fC (.int 1)))) (av 6 (vI (bU (aa (f2 (gI0 fun i j=>.int (i - j)) (f2 (gI (fun _ j=>0 < j) fun i j=>.int (i % j)) (f2 (gI ay fun i j=>.int (i / j)) (ab 5) (fC (.int 3))) (fC (.int 13))) (fC (.int 3))) (aa (f2 ce (f2 (gI (fun _ j=>0 < j) fun i j=>.int (i % j)) (f2 (gI ay fun i j=>.int (i / j)) (ab 5) (fC (.int 39))) (fC (.int 2))) (fC (.int 1))) af))))) ba) (ax (sIf (bt (fT (f2 ce (f2 (gI (fun _ j=>0 < j) fun i j=>.int (i % j)) (ab 5) (fC (.int 3))) (fC (.int 2)))) (fT (f2 cp (f2 gIx (f2 gIx (ab 0) (ab 3)) (ab 4)) (fC .non)))) (av 6 (vI (bU (aa (f2 (gI0 fun i j=>.int (i - j)) (f2 bv (f2 gIx (f2 gIx (f2 gIx (ab 0) (ab 3)) (ab 4)) (fC (.int 0))) (f2 (gI (fun _ j=>0 < j) fun i j=>.int (i % j)) (f2 (gI ay fun i j=>.int (i / j)) (ab 5) (fC (.int 3))) (fC (.int 4)))) (fC (.int 1))) (aa (f2 ce (f2 (gI (fun _ j=>0 < j) fun i j=>.int (i % j)) (f2 (gI ay fun i j=>.int (i / j)) (ab 5) (fC (.int 12))) (fC (.int 2))) (fC (.int 1))) af))))) ba) (gB 2 (ab 3) (bn 6))))))) [some (aw T),some (.seq (ns.map D.int)),some (.lst (aZ A++[.lst (aJ r)])),some (.int (i:Int)),some (.int (j:Int)),o5,o6]=some (.nx [some (aw T),some (.seq (ns.map D.int)),some (.lst (aZ A++[.lst (aJ (r++[mZ ns T i j]))])),some (.int (i:Int)),some (.int (j:Int)),p5,p6]):=by
 have mi9:aR 9 (i:Int):=⟨cJ,cJ (by omega)⟩
 have ca:=gF (ns:=ns) (k:=60 - 9*(i:Int) - (j:Int)) (by omega)
 have mx:=gr (c:=cell ns (60 - 9*(i:Int) - (j:Int))) (k:=9*(i:Int)+(j:Int)) (by omega) (by omega)
 obtain ⟨w,hw⟩:∃ w,w=mxd (cell ns (60 - 9*(i:Int) - (j:Int))) (9*(i:Int)+(j:Int)):=⟨_,rfl⟩
 rw [<- hw] at mx
 have eo:mZ ns T i j=otB (ao T i j) w:=by unfold mZ drw;rw [hw]
 rw [eo]
 have d3:ay w 3:=⟨by decide,cJ⟩
 have d39:ay w 39:=⟨by decide,cJ⟩
 have d12:ay w 12:=⟨by decide,cJ⟩
 obtain ⟨rr,x1,x2⟩:=i4 hs hi hj
 obtain ⟨S,hS⟩:∃ S,S=D.seq (ns.map D.int):=⟨_,rfl⟩
 rw [<- hS] at ca ⊢
 have two:∃ p6:Option D,ax ((sIf (fT (f2 ce (f2 (gI (fun _ j=>0 < j) fun i j=>.int (i % j)) (ab 5) (fC (.int 3))) (fC (.int 1)))) (av 6 (vI (bU (aa (f2 (gI0 fun i j=>.int (i - j)) (f2 (gI (fun _ j=>0 < j) fun i j=>.int (i % j)) (f2 (gI ay fun i j=>.int (i / j)) (ab 5) (fC (.int 3))) (fC (.int 13))) (fC (.int 3))) (aa (f2 ce (f2 (gI (fun _ j=>0 < j) fun i j=>.int (i % j)) (f2 (gI ay fun i j=>.int (i / j)) (ab 5) (fC (.int 39))) (fC (.int 2))) (fC (.int 1))) af))))) ba)) ((sIf (bt (fT (f2 ce (f2 (gI (fun _ j=>0 < j) fun i j=>.int (i % j)) (ab 5) (fC (.int 3))) (fC (.int 2)))) (fT (f2 cp (f2 gIx (f2 gIx (ab 0) (ab 3)) (ab 4)) (fC .non)))) (av 6 (vI (bU (aa (f2 (gI0 fun i j=>.int (i - j)) (f2 bv (f2 gIx (f2 gIx (f2 gIx (ab 0) (ab 3)) (ab 4)) (fC (.int 0))) (f2 (gI (fun _ j=>0 < j) fun i j=>.int (i % j)) (f2 (gI ay fun i j=>.int (i / j)) (ab 5) (fC (.int 3))) (fC (.int 4)))) (fC (.int 1))) (aa (f2 ce (f2 (gI (fun _ j=>0 < j) fun i j=>.int (i % j)) (f2 (gI ay fun i j=>.int (i / j)) (ab 5) (fC (.int 12))) (fC (.int 2))) (fC (.int 1))) af))))) ba)) [some (aw T),some S,some (.lst (aZ A++[.lst (aJ r)])),some (.int (i:Int)),some (.int (j:Int)),some (.int w),some .non]=some (.nx [some (aw T),some S,some (.lst (aZ A++[.lst (aJ r)])),some (.int (i:Int)),some (.int (j:Int)),some (.int w),some (bdD (otB (ao T i j) w))]):=by
  refine ⟨none,?_⟩
  have c3:w % 3=0 \/ w % 3=1 \/ w % 3=2:=by omega
  rcases c3 with q | q | q
  . have q1:(w % 3 == 1)=false:=by rw [q];rfl
    have q2:(w % 3 == 2)=false:=by rw [q];rfl
    have eb:otB (ao T i j) w=none:=by unfold otB;rw [if_neg (by omega),if_neg (by omega)]
    rw [eb]
    exact ap (bA (by simp only [ab,fC,f2,fT,asB,Zc,Zd,Ze,bz,aq (C:=fun _ j=>0 < j) (i:=w) (j:=3) (by decide),q1]) rfl) (bA (by simp only [ab,fC,f2,fT,asB,bt,Zc,Zd,Ze,bz,aq (C:=fun _ j=>0 < j) (i:=w) (j:=3) (by decide),q2]) rfl)
  . have q1:(w % 3 == 1)=true:=by rw [q];rfl
    have q2:(w % 3 == 2)=false:=by rw [q];rfl
    have eb:otB (ao T i j) w=some (w / 3 % 13 - 3,w / 39 % 2 == 1):=by unfold otB;rw [if_pos q]
    rw [eb]
    exact ap (c9 (by simp only [ab,fC,f2,fT,asB,Zc,Zd,Ze,bz,aq (C:=fun _ j=>0 < j) (i:=w) (j:=3) (by decide),q1]) (aV (bw (d:=bdD (some (w / 3 % 13 - 3,w / 39 % 2 == 1))) (rT (a:=.int (w / 3 % 13 - 3)) (b:=.bl (w / 39 % 2 == 1)) (by simp only [ab,fC,f2,gI0,Zc,Zd,Ze,aq (C:=ay) d3,aq (C:=fun _ j=>0 < j) (i:=w / 3) (j:=13) (by decide)]) (by simp only [ab,fC,f2,Zc,Zd,Ze,bz,aq (C:=ay) d39,aq (C:=fun _ j=>0 < j) (i:=w / 39) (j:=2) (by decide)])) (eS _)))) (bA (by simp only [ab,fC,f2,fT,asB,bt,Zc,Zd,Ze,Zf,Zg,bI,bz,Zf,Zg,aq (C:=fun _ j=>0 < j) (i:=w) (j:=3) (by decide),q2]) rfl)
  . have q1:(w % 3 == 1)=false:=by rw [q];rfl
    have q2:(w % 3 == 2)=true:=by rw [q];rfl
    rcases hc:ao T i j with _ | ⟨m,t⟩
    . rw [hc] at x2
      have eb:otB none w=none:=by unfold otB;rw [if_neg (by omega),if_pos q]
      rw [eb]
      exact ap (bA (by simp only [ab,fC,f2,fT,asB,Zc,Zd,Ze,bz,aq (C:=fun _ j=>0 < j) (i:=w) (j:=3) (by decide),q1]) rfl) (bA (by simp only [ab,fC,f2,fT,asB,bt,Zc,Zd,Ze,Bool.not_true,rf,cY,bz,cp,aq (C:=fun _ j=>0 < j) (i:=w) (j:=3) (by decide),q2,x1,x2]) rfl)
    . rw [hc] at x2
      have eb:otB (some (m,t)) w=some (m+w / 3 % 4 - 1,w / 12 % 2 == 1):=by unfold otB;rw [if_neg (by omega),if_pos q]
      rw [eb]
      exact ap (bA (by simp only [ab,fC,f2,fT,asB,Zc,Zd,Ze,bz,aq (C:=fun _ j=>0 < j) (i:=w) (j:=3) (by decide),q1]) rfl) (c9 (by simp only [ab,fC,f2,fT,asB,bt,Zc,Zd,Ze,Bool.not_false,bI,cY,bz,cp,aq (C:=fun _ j=>0 < j) (i:=w) (j:=3) (by decide),q2,x1,x2]) (aV (bw (d:=bdD (some (m+w / 3 % 4 - 1,w / 12 % 2 == 1))) (rT (a:=.int (m+w / 3 % 4 - 1)) (b:=.bl (w / 12 % 2 == 1)) (by simp only [ab,fC,f2,du,gI0,bS,Zc,Zd,Ze,bI,x1,x2,aq (C:=ay) d3,aq (C:=fun _ j=>0 < j) (i:=w / 3) (j:=4) (by decide)]) (by simp only [ab,fC,f2,Zc,Zd,Ze,bz,aq (C:=ay) d12,aq (C:=fun _ j=>0 < j) (i:=w / 12) (j:=2) (by decide)])) (eS _))))
 obtain ⟨_,two⟩:=two
 obtain ⟨δ1,t1,t2⟩:∃ δ1,((sIf (fT (f2 ce (f2 (gI (fun _ j=>0 < j) fun i j=>.int (i % j)) (ab 5) (fC (.int 3))) (fC (.int 1)))) (av 6 (vI (bU (aa (f2 (gI0 fun i j=>.int (i - j)) (f2 (gI (fun _ j=>0 < j) fun i j=>.int (i % j)) (f2 (gI ay fun i j=>.int (i / j)) (ab 5) (fC (.int 3))) (fC (.int 13))) (fC (.int 3))) (aa (f2 ce (f2 (gI (fun _ j=>0 < j) fun i j=>.int (i % j)) (f2 (gI ay fun i j=>.int (i / j)) (ab 5) (fC (.int 39))) (fC (.int 2))) (fC (.int 1))) af))))) ba)) [some (aw T),some S,some (.lst (aZ A++[.lst (aJ r)])),some (.int (i:Int)),some (.int (j:Int)),some (.int w),some .non]=some (.nx δ1)/\((sIf (bt (fT (f2 ce (f2 (gI (fun _ j=>0 < j) fun i j=>.int (i % j)) (ab 5) (fC (.int 3))) (fC (.int 2)))) (fT (f2 cp (f2 gIx (f2 gIx (ab 0) (ab 3)) (ab 4)) (fC .non)))) (av 6 (vI (bU (aa (f2 (gI0 fun i j=>.int (i - j)) (f2 bv (f2 gIx (f2 gIx (f2 gIx (ab 0) (ab 3)) (ab 4)) (fC (.int 0))) (f2 (gI (fun _ j=>0 < j) fun i j=>.int (i % j)) (f2 (gI ay fun i j=>.int (i / j)) (ab 5) (fC (.int 3))) (fC (.int 4)))) (fC (.int 1))) (aa (f2 ce (f2 (gI (fun _ j=>0 < j) fun i j=>.int (i % j)) (f2 (gI ay fun i j=>.int (i / j)) (ab 5) (fC (.int 12))) (fC (.int 2))) (fC (.int 1))) af))))) ba)) δ1=some (.nx [some (aw T),some S,some (.lst (aZ A++[.lst (aJ r)])),some (.int (i:Int)),some (.int (j:Int)),some (.int w),some (bdD (otB (ao T i j) w))]):=by
  unfold ax at two
  obtain ⟨r1,e1,e2⟩:=Za.mp two
  cases r1 with
  | nx δ1=>exact ⟨δ1,e1,e2⟩
  | rt d=>cases e2
  | bk d=>cases e2
  | ct d=>cases e2
  | ex C d=>cases e2
  | mk C d=>cases e2
 refine ⟨some (.int w),some (bdD (otB (ao T i j) w)),?_⟩
 refine ap (aV (de (ds:=[.int (cell ns (60 - 9*(i:Int) - (j:Int))),.int (9*(i:Int)+(j:Int))]) ?ar mx rfl)) (ap (aV (bw (d:=.non) rfl)) (ap t1 (ap t2 ?_)))
 case ar=>simp only [ab,fC,f2,af,aa,ah,gI0,bS,Zc,Zd,Ze,aq (C:=aR) mi9,ca]
 rw [kR]
 exact lj rfl (by rw [c6,hA];rfl) (iQ rfl) (by rw [ii];omega)
theorem nV (F:Fun K "_law_other" "_law_other" gh f fd)  (hLmixed:HasF P w K mg base 1 "_law_mixed" ["_law_cell","_law_k"] (fn aM)) (hLcell_at:Has P w K mg base 1 "_law_cell_at" ["_law_script","_law_k"] (fn aA))  (m_range:mg "range" = none) (m_len:mg "len" = none):FnOk P w K mg base CX0 2 f fd ["_law_table","_law_script"] (bV K 2 (fn gv)):=by
 have sc:=jw
 refine bZ F jw (fun cdv A outer s H E ds d hr hG hl=>?_)
 obtain ⟨d0,T,n,ns,hT,hs,hn,rfl,rfl⟩:=bo hG
 have hown:=bR (oth ns T n)
 refine ⟨_,(au (aW 2 sc.nd (fq cb))
  (au (cu 3 sc.nd PassesOwn.never rfl (aT rfl m_range (ae (aE aC bN rfl m_len PySem.boot_len (ae (ac 0) ag)) ag))
   (au (kT 2 (jz PySem.F.plainAttrs_list PySem.F.slot_list_append PySem.F.type_list_append c5 (pvi 2) (cA (fq cb) dW)))
   (aF (cu 4 sc.nd PassesOwn.never rfl (aT rfl m_range (ae (aE aC bN rfl m_len PySem.boot_len (ae (ac 0) ag)) ag))
    (au (aW 5 sc.nd (cK hLmixed hr (ae (aD hLcell_at hr (ae (ac 1) (ae (fS (fS aj (di aj (ac 3))) (ac 4)) ag))) (ae (bQ (di aj (ac 3)) (ac 4)) ag))))
    (au (aW 6 sc.nd (aN bJ))
    (au (eP (kc hr.units (bu (ac 5) aj) aj) (aF (aW 6 sc.nd (aN (cS (ae (fS (bu (bH (ac 5) aj) aj) aj) (ae (jR hr.units (bu (bH (ac 5) aj) aj) aj) ag)))))) cR)
    (au (eP (PWD.pt (iy (kc hr.units (bu (ac 5) aj) aj) (gC (ig (az (az (ac 0) (ac 3)) (ac 4)) bJ)))) (aF (aW 6 sc.nd (aN (cS (ae (fS (bQ (az (az (az (ac 0) (ac 3)) (ac 4)) aj) (bu (bH (ac 5) aj) aj)) aj) (ae (jR hr.units (bu (bH (ac 5) aj) aj) aj) ag)))))) cR)
    (aF (pg 2 (jz PySem.F.plainAttrs_list PySem.F.slot_list_append PySem.F.type_list_append c5 (iY ix_list (pvi 2) (ac 3) (fun _ _=>rfl)) (cA (bq 6) dW))))))))))))
  (aF (bM (bq 2))))),?_,?own⟩
 case own=>first | rfl | exact hown
 . show aL ((?f:SD) (aS 7 _))=_
   have e0:aS 7 [d0,.seq (ns.map D.int)]=[some (aw T),some (.seq (ns.map D.int)),none,none,none,none,none]:=by
    show [some (sh d0),some (sh (.seq (ns.map D.int))),none,none,none,none,none]=_
    rw [show sh d0=aw T from hT,sh,eg]
   rw [e0]
   have len:bP [aw T]=some (.int (n:Int)):=iB hs
   have hr:=fun (o2 o3 o4 o5 o6:Option D)=>db (g:=aa (ah bP (aa (ab 0) af)) af) (δ:=[some (aw T),some (.seq (ns.map D.int)),o2,o3,o4,o5,o6]) (n:=n) (by simp only [ab,af,aa,ah,Zc,Zd,len]) (by omega)
   have inner:∀ (A:List (List Bn)) (i:Nat) (o4 o5 o6:Option D),A.length=i->i < n->∃ δ',Dl.forM 4 ((ax (av 5 (cI (fn aM) (aa (ah (fn aA) (aa (ab 1) (aa (f2 (gI0 fun i j=>.int (i - j)) (f2 (gI0 fun i j=>.int (i - j)) (fC (.int 60)) (f2 (gI aR fun i j=>.int (i*j)) (fC (.int 9)) (ab 3))) (ab 4)) af))) (aa (f2 bv (f2 (gI aR fun i j=>.int (i*j)) (fC (.int 9)) (ab 3)) (ab 4)) af)))) (ax (av 6 (vI (fC .non))) (ax (sIf (fT (f2 ce (f2 (gI (fun _ j=>0 < j) fun i j=>.int (i % j)) (ab 5) (fC (.int 3))) (fC (.int 1)))) (av 6 (vI (bU (aa (f2 (gI0 fun i j=>.int (i - j)) (f2 (gI (fun _ j=>0 < j) fun i j=>.int (i % j)) (f2 (gI ay fun i j=>.int (i / j)) (ab 5) (fC (.int 3))) (fC (.int 13))) (fC (.int 3))) (aa (f2 ce (f2 (gI (fun _ j=>0 < j) fun i j=>.int (i % j)) (f2 (gI ay fun i j=>.int (i / j)) (ab 5) (fC (.int 39))) (fC (.int 2))) (fC (.int 1))) af))))) ba) (ax (sIf (bt (fT (f2 ce (f2 (gI (fun _ j=>0 < j) fun i j=>.int (i % j)) (ab 5) (fC (.int 3))) (fC (.int 2)))) (fT (f2 cp (f2 gIx (f2 gIx (ab 0) (ab 3)) (ab 4)) (fC .non)))) (av 6 (vI (bU (aa (f2 (gI0 fun i j=>.int (i - j)) (f2 bv (f2 gIx (f2 gIx (f2 gIx (ab 0) (ab 3)) (ab 4)) (fC (.int 0))) (f2 (gI (fun _ j=>0 < j) fun i j=>.int (i % j)) (f2 (gI ay fun i j=>.int (i / j)) (ab 5) (fC (.int 3))) (fC (.int 4)))) (fC (.int 1))) (aa (f2 ce (f2 (gI (fun _ j=>0 < j) fun i j=>.int (i % j)) (f2 (gI ay fun i j=>.int (i / j)) (ab 5) (fC (.int 12))) (fC (.int 2))) (fC (.int 1))) af))))) ba) (gB 2 (ab 3) (bn 6))))))) ((List.range n).map fun (i:Nat)=>D.int (i:Int)) [some (aw T),some (.seq (ns.map D.int)),some (.lst (aZ A++[.lst (aJ [])])),some (.int (i:Int)),o4,o5,o6]=some (.nx δ')/\∃ (o4 o5 o6:Option D),δ'=[some (aw T),some (.seq (ns.map D.int)),some (.lst (aZ A++[.lst (aJ ((List.range (List.range n).length).map (mZ ns T i)))])),some (.int (i:Int)),o4,o5,o6]:=by
    intro A i o4 o5 o6 hA hi
    refine bC (f:=fun (i:Nat)=>D.int (i:Int)) (fun pre δ=>∃ (o4 o5 o6:Option D),δ=[some (aw T),some (.seq (ns.map D.int)),some (.lst (aZ A++[.lst (aJ ((List.range pre.length).map (mZ ns T i)))])),some (.int (i:Int)),o4,o5,o6]) (List.range n) ?_ (List.range n) [] _ rfl ⟨o4,o5,o6,rfl⟩
    rintro pre x post _ hx ⟨o4,o5,o6,rfl⟩
    obtain ⟨rfl,hl'⟩:=bg hx
    obtain ⟨p5,p6,st⟩:=AB ns T A ((List.range pre.length).map (mZ ns T i)) n i pre.length o5 o6 hs hn hA (by rw [Zi,List.length_range]) hi hl'
    refine ⟨_,st,some (.int (pre.length:Int)),p5,p6,?_⟩
    rw [Zh,Zj,List.range_succ,List.map_append]
    rfl
   obtain ⟨_,w,o3,o4,o5,o6,rfl⟩:=bC (i:=3) (s:=((ax (iw 2 (jH fZ)) (cn (bX (aa (ah bP (aa (ab 0) af)) af)) 4 (ax (av 5 (cI (fn aM) (aa (ah (fn aA) (aa (ab 1) (aa (f2 (gI0 fun i j=>.int (i - j)) (f2 (gI0 fun i j=>.int (i - j)) (fC (.int 60)) (f2 (gI aR fun i j=>.int (i*j)) (fC (.int 9)) (ab 3))) (ab 4)) af))) (aa (f2 bv (f2 (gI aR fun i j=>.int (i*j)) (fC (.int 9)) (ab 3)) (ab 4)) af)))) (ax (av 6 (vI (fC .non))) (ax (sIf (fT (f2 ce (f2 (gI (fun _ j=>0 < j) fun i j=>.int (i % j)) (ab 5) (fC (.int 3))) (fC (.int 1)))) (av 6 (vI (bU (aa (f2 (gI0 fun i j=>.int (i - j)) (f2 (gI (fun _ j=>0 < j) fun i j=>.int (i % j)) (f2 (gI ay fun i j=>.int (i / j)) (ab 5) (fC (.int 3))) (fC (.int 13))) (fC (.int 3))) (aa (f2 ce (f2 (gI (fun _ j=>0 < j) fun i j=>.int (i % j)) (f2 (gI ay fun i j=>.int (i / j)) (ab 5) (fC (.int 39))) (fC (.int 2))) (fC (.int 1))) af))))) ba) (ax (sIf (bt (fT (f2 ce (f2 (gI (fun _ j=>0 < j) fun i j=>.int (i % j)) (ab 5) (fC (.int 3))) (fC (.int 2)))) (fT (f2 cp (f2 gIx (f2 gIx (ab 0) (ab 3)) (ab 4)) (fC .non)))) (av 6 (vI (bU (aa (f2 (gI0 fun i j=>.int (i - j)) (f2 bv (f2 gIx (f2 gIx (f2 gIx (ab 0) (ab 3)) (ab 4)) (fC (.int 0))) (f2 (gI (fun _ j=>0 < j) fun i j=>.int (i % j)) (f2 (gI ay fun i j=>.int (i / j)) (ab 5) (fC (.int 3))) (fC (.int 4)))) (fC (.int 1))) (aa (f2 ce (f2 (gI (fun _ j=>0 < j) fun i j=>.int (i % j)) (f2 (gI ay fun i j=>.int (i / j)) (ab 5) (fC (.int 12))) (fC (.int 2))) (fC (.int 1))) af))))) ba) (gB 2 (ab 3) (bn 6)))))))))) (f:=fun (i:Nat)=>D.int (i:Int)) (fun pre δ=>∃ (o3 o4 o5 o6:Option D),δ=[some (aw T),some (.seq (ns.map D.int)),some (ak ((List.range pre.length).map fun i=>(List.range n).map (mZ ns T i))),o3,o4,o5,o6]) (List.range n) (by
    rintro pre x post _ hx ⟨o3,o4,o5,o6,rfl⟩
    obtain ⟨rfl,hl'⟩:=bg hx
    obtain ⟨_,w,p4,p5,p6,rfl⟩:=inner ((List.range pre.length).map fun i=>(List.range n).map (mZ ns T i)) pre.length o4 o5 o6 (by rw [Zi,List.length_range]) hl'
    refine ⟨_,ap (jJ (ds:=aZ ((List.range pre.length).map fun i=>(List.range n).map (mZ ns T i))) (d:=.lst []) rfl rfl (by rw [c6,Zi,List.length_range];omega)) (bD (hr _ _ _ _ _) w),some (.int (pre.length:Int)),p4,p5,p6,?_⟩
    rw [Zh,Zj,List.range_succ,List.map_append,List.length_range]
    unfold ak
    show _=[some (aw T),some (D.seq (ns.map D.int)),some (D.lst (aZ (_++[(List.range n).map (mZ ns T pre.length)]))),some (.int (pre.length:Int)),p4,p5,p6]
    rw [jL]) (List.range n) [] [some (aw T),some (.seq (ns.map D.int)),some (.lst []),none,none,none,none] rfl ⟨none,none,none,none,rfl⟩
   rw [List.length_range] at w
   exact dI (ap (aV (d:=.lst []) rfl) (ap (bD (hr _ _ _ _ _) w) (cr (dS rfl))))
theorem ic:aG ["_law_found"] ["_law_found"] (am dP):=⟨rfl,rfl,rfl,by decide +kernel,rfl,by decide +kernel,by decide +kernel⟩
theorem k7 (F:Fun K "_law_is_bound" "_law_is_bound" dP f fd)  (hLwhole:Has P w K mg base 1 "_law_whole" ["_law_found"] (fn gu))  (m_isinstance:mg "isinstance" = none) (m_tuple:mg "tuple" = none) (m_bool:mg "bool" = none):FnOk P w K mg base CX0 2 f fd ["_law_found"] (bL K 1 (fn c4)):=by
 have sc:=ic
 refine cy F ic (fun cdv A outer s H E ds d hr hG hl=>?_)
 obtain ⟨b,rfl,rfl⟩:=bo hG
 refine ⟨_,(bh (dF (dQ (ac 0) bJ) (aU (bf d5)) cL)
  (aU (bf (eR (aE eU (iD vM) rfl m_isinstance boot_isinstance (ae (ac 0) (ae (ki rfl m_tuple boot_tuple) ag))) (eR (aD hLwhole hr (ae (az (ac 0) aj) ag)) (dh (aE eU (iD kZ) rfl m_isinstance boot_isinstance (ae (az (ac 0) aj) (ae (ki rfl m_bool boot_bool) ag))))))))),?_⟩
 . show aL ((?f:SD) [some _])=_
   rcases b with _ | ⟨n,s⟩
   . rfl
   . simp only [aL,ba,df,ax,fg,sIf,ab,fC,f2,fT,asB,cj,af,aa,ah,du,eT,lc,Dl.isBool,Dl.isTup,Zc,Option.map_some,Zd,bI,fu,cY,fE (x:=.int n) (b:=true) rfl]
theorem j5:aG ["_law_one","_law_other_here","_law_made","_law_i","_law_j"] ["_law_one","_law_other_here"] (am gP):=⟨rfl,rfl,rfl,by decide +kernel,rfl,by decide +kernel,by decide +kernel⟩
theorem pr (F:Fun K "_law_both" "_law_both" gP f fd)  (hLtighter:Has P w K mg base 1 "_law_tighter" ["_law_one","_law_other_here"] (fn aQ))  (m_range:mg "range" = none) (m_list:mg "list" = none) (m_len:mg "len" = none):FnOk P w K mg base CX0 2 f fd ["_law_one","_law_other_here"] (bV K 2 (fn gU)):=by
 have sc:=j5
 refine bZ F j5 (fun cdv A outer s H E ds d hr hG hl=>?_)
 obtain ⟨d0,d1,T,U,n,hT,hU,hs,gs,hn,rfl,rfl⟩:=bo hG
 have hown:=bR (bth T U)
 refine ⟨_,(au (l8 2 sc.nd (by exact (eQ (ac 0))) (N:=["_law_row"]) (js:=[]) (cl:=[]) (fun _ _ _ _ _=>by exact (gw rfl m_list boot_list (ae (ac 0) ag))) (by exact CompOk.nil))
  (au (cu 3 sc.nd PassesOwn.never rfl (aT rfl m_range (ae (aE aC bN rfl m_len PySem.boot_len (ae (ac 0) ag)) ag))
   (aF (cu 4 sc.nd PassesOwn.never rfl (aT rfl m_range (ae (aE aC bN rfl m_len PySem.boot_len (ae (ac 0) ag)) ag))
    (aF (eP (ck (aD hLtighter hr (ae (az (az (ac 1) (ac 3)) (ac 4)) (ae (az (az (ac 0) (ac 3)) (ac 4)) ag)))) (aF (kf 2 (aN (az (az (ac 1) (ac 3)) (ac 4))) (jP (iY ix_list (pvi 2) (ac 3) (fun _ _=>rfl)) (ac 4) gy))) cR)))))
  (aF (bM (bq 2))))),?_,?own⟩
 case own=>first | rfl | exact hown
 . show aL ((?f:SD) (aS 5 _))=_
   have e0:aS 5 [d0,d1]=[some (aw T),some (aw U),none,none,none]:=by
    show [some (sh d0),some (sh d1),none,none,none]=_
    rw [show sh d0=aw T from hT,show sh d1=aw U from hU]
   rw [e0]
   have inner:∀ (i:Nat) (M:List (List Bn)) (o4:Option D),i < n->Upd T U n i 0 M->∃ δ',Dl.forM 4 ((sIf (fT (ah (fn aQ) (aa (f2 gIx (f2 gIx (ab 1) (ab 3)) (ab 4)) (aa (f2 gIx (f2 gIx (ab 0) (ab 3)) (ab 4)) af)))) (dH 2 (ab 3) (ab 4) (vI (f2 gIx (f2 gIx (ab 1) (ab 3)) (ab 4)))) ba)) ((List.range n).map fun (i:Nat)=>D.int (i:Int)) [some (aw T),some (aw U),some (ak M),some (.int (i:Int)),o4]=some (.nx δ')/\∃ M' o4',δ'=[some (aw T),some (aw U),some (ak M'),some (.int (i:Int)),o4']/\Upd T U n i n M':=by
    intro i M o4 hi hM
    have w:=bC (i:=4) (s:=((sIf (fT (ah (fn aQ) (aa (f2 gIx (f2 gIx (ab 1) (ab 3)) (ab 4)) (aa (f2 gIx (f2 gIx (ab 0) (ab 3)) (ab 4)) af)))) (dH 2 (ab 3) (ab 4) (vI (f2 gIx (f2 gIx (ab 1) (ab 3)) (ab 4)))) ba))) (f:=fun (i:Nat)=>D.int (i:Int)) (fun pre δ=>∃ M' o4',δ=[some (aw T),some (aw U),some (ak M'),some (.int (i:Int)),o4']/\Upd T U n i pre.length M') (List.range n) (fun pre x post δ ha hP=>by
     obtain ⟨M1,o,rfl,hU1⟩:=hP
     obtain ⟨rfl,hx⟩:=bg ha
     have up:=hU1.one hi hx
     obtain ⟨r1,q1,q2⟩:=i4 hs hi hx
     obtain ⟨r2,q3,q4⟩:=i4 gs hi hx
     have hc:fT (ah (fn aQ) (aa (f2 gIx (f2 gIx (ab 1) (ab 3)) (ab 4)) (aa (f2 gIx (f2 gIx (ab 0) (ab 3)) (ab 4)) af))) [some (aw T),some (aw U),some (ak M1),some (.int (i:Int)),some (.int (pre.length:Int))]=some (tgt (ao U i pre.length) (ao T i pre.length)):=by
      simp only [ab,f2,fT,asB,af,aa,ah,Zc,Zd,Ze,q1,q2,q3,q4,fB]
     refine ⟨[some (aw T),some (aw U),some (ak (if tgt (ao U i pre.length) (ao T i pre.length) then jt M1 i pre.length (ao U i pre.length) else M1)),some (.int (i:Int)),some (.int (pre.length:Int))],?_,_,_,rfl,by rw [Zh];exact up⟩
     show sIf _ _ _ [some (aw T),some (aw U),some (ak M1),some (.int (i:Int)),some (.int (pre.length:Int))]=_
     cases ht:tgt (ao U i pre.length) (ao T i pre.length) with
     | true =>
      rw [ht] at hc
      rw [if_pos rfl]
      exact c9 hc (l5 (b:=ao U i pre.length) hU1.sq hi hx (bw (d:=bdD (ao U i pre.length)) (by simp only [ab,f2,Zc,Zd,Ze,q3,q4]) (eS _)) rfl rfl rfl)
     | false =>
      rw [ht] at hc
      rw [if_neg Bool.false_ne_true]
      exact bA hc rfl) (List.range n) [] [some (aw T),some (aw U),some (ak M),some (.int (i:Int)),o4] rfl ⟨M,o4,rfl,hM⟩
    rw [List.length_range] at w
    exact w
   have w:=bC (i:=3) (s:=((cn (bX (aa (ah bP (aa (ab 0) af)) af)) 4 (sIf (fT (ah (fn aQ) (aa (f2 gIx (f2 gIx (ab 1) (ab 3)) (ab 4)) (aa (f2 gIx (f2 gIx (ab 0) (ab 3)) (ab 4)) af)))) (dH 2 (ab 3) (ab 4) (vI (f2 gIx (f2 gIx (ab 1) (ab 3)) (ab 4)))) ba)))) (f:=fun (i:Nat)=>D.int (i:Int)) (fun pre δ=>∃ M' o3 o4',δ=[some (aw T),some (aw U),some (ak M'),o3,o4']/\Upd T U n pre.length 0 M') (List.range n) (fun pre x post δ ha hP=>by
    obtain ⟨M1,o,o',rfl,hU1⟩:=hP
    obtain ⟨rfl,hx⟩:=bg ha
    obtain ⟨δ',h1,M2,o4',rfl,h2⟩:=inner pre.length M1 o' hx hU1
    refine ⟨_,bD (db (n:=n) ?_ (by omega)) h1,M2,_,_,rfl,by rw [Zh];exact h2.next⟩
    show (ah bP (aa (ab 0) af) [some (aw T),some (aw U),some (ak M1),some (.int (pre.length:Int)),o']).bind _=_
    have:bP [aw T]=some (.int (n:Int)):=iB hs
    simp only [ab,af,aa,ah,Zc,Zd,this]) (List.range n) [] [some (aw T),some (aw U),some (ak T),none,none] rfl ⟨T,none,none,rfl,hs,fun x y _ _=>by rw [if_neg (by simp)]⟩
   rw [List.length_range] at w
   obtain ⟨δ',w1,M2,o3,o4,rfl,hU2⟩:=w
   have em:M2=bth T U:=lZ hU2.sq (pS hs gs) fun x y hx hy=>by
    rw [hU2.cl x y hx hy,if_pos (by omega),ja hs gs hx hy]
   rw [em] at w1
   have lt:bP [aw T]=some (.int (n:Int)):=iB hs
   refine dI (ap (aV (jI hs hn rfl)) (ap (bD (db (n:=n) ?_ (by omega)) w1) (cr (dS rfl))))
   show (ah bP (aa (ab 0) af) [some (aw T),some (aw U),some (ak T),none,none]).bind _=_
   simp only [ab,af,aa,ah,Zc,Zd,lt]
theorem lx:aG ["top","bottom"] ["top","bottom"] (am dU):=⟨rfl,rfl,rfl,by decide +kernel,rfl,by decide +kernel,by decide +kernel⟩
theorem lA {dV:Value} (F:FunD K "fraction" "fraction" dU f fd dV)  (hlowest:Has P w K mg base 2 "lowest" ["top","bottom"] (fn nL)) (his_whole:Has P w K mg base 1 "is_whole" ["thing"] (fn iF))  :FnOk P w K mg base CX0 3 f fd ["top","bottom"] (bL K 2 (fn cH)):=by
 have sc:=lx
 refine vc F lx (fun cdv A outer s H E ds d hr hG hl=>?_)
 obtain ⟨t,b,hb,hB,rfl,rfl⟩:=bo hG
 refine ⟨_,(bh (dF (PWD.pt (g6 (eO (ck (aD his_whole hr (ae (ac 0) ag)))) (gk (eO (ck (aD his_whole hr (ae (ac 1) ag))))))) (aU ou) cL)
  (bh (dF (vf hr.units0 (ac 1) aj) (aU ou) cL)
  (bh (dF (kS (ac 1) aj) (aU (bf (aD hlowest hr (ae (kX (ac 0)) (ae (kX (ac 1)) ag))))) cL)
  (aU (bf (aD hlowest hr (ae (ac 0) (ae (ac 1) ag)))))))),?_⟩
 . show aL ((?f:SD) [some _,some _])=_
   have h0:(b == 0)=false:=by simp [hb]
   by_cases hn:b < 0
   . have h1:decide (b < 0)=true:=decide_eq_true hn
     simp only [aL,ba,df,ax,fg,sIf,ab,fC,f2,f1,fT,asB,cC,dY,g9,af,aa,ah,gI0,dC,Zc,Option.map_some,Zd,Ze,Bool.not_true,fE (x:=.int t) rfl,fE (x:=.int b) rfl,h0,h1,qQ (t:=-t) (b:=-b) (by omega) (zN hB)]
     unfold low
     rw [if_pos hn]
   . have h1:decide (b < 0)=false:=decide_eq_false hn
     simp only [aL,ba,df,ax,fg,sIf,ab,fC,f2,f1,fT,asB,cC,dY,g9,af,aa,ah,gI0,dC,Zc,Option.map_some,Zd,Ze,Bool.not_true,fE (x:=.int t) rfl,fE (x:=.int b) rfl,h0,h1,qQ (t:=t) (b:=b) (by omega) hB]
     unfold low
     rw [if_neg hn]
theorem ia:aG ["_law_script","_law_head","_law_k","_law_point","_law_table","_law_cell","_law_i","_law_j"] ["_law_script"] (am dN):=⟨rfl,rfl,rfl,by decide +kernel,rfl,by decide +kernel,by decide +kernel⟩
def cv (ds:List D) (d:D):Prop:=aL (((ax (av 1 (vI (ah (fn aA) (aa (ab 0) (aa (fC (.int 0)) af))))) (ax (av 2 (vI (f2 (gI (fun _ j=>0 < j) fun i j=>.int (i % j)) (f2 (gI ay fun i j=>.int (i / j)) (ab 1) (fC (.int 4))) (f2 gIx (fP (aa (fC (.int 5)) (aa (fC (.int 7)) af))) (ah rR (aa (f2 gGt (f2 (gI (fun _ j=>0 < j) fun i j=>.int (i % j)) (ab 1) (fC (.int 4))) (fC (.int 1))) af)))))) (ax (av 3 (dG (mF (aa (ab 2) af)) [0] (vI (ah (fn cE) (aa (ah (fn aA) (aa (ab 1) (aa (f2 bv (fC (.int 1)) (ab 0)) af))) af))))) (ax (sIf (fT (f2 gLt (f2 (gI (fun _ j=>0 < j) fun i j=>.int (i % j)) (ab 1) (fC (.int 4))) (fC (.int 2)))) (cw (nQ (cm (cI (fn bO) (aa (ah (fn aA) (aa (ab 0) (aa (fC (.int 1)) af))) (aa (ab 2) (aa (f2 gIx (fP (aa (fC (.int 3)) (aa (fC (.int 9)) (aa (f2 (gI lY fun i j=>.int (i ^ j.toNat)) (fC (.int 10)) (fC (.int 55))) af)))) (f2 (gI (fun _ j=>0 < j) fun i j=>.int (i % j)) (f2 (gI ay fun i j=>.int (i / j)) (ab 1) (fC (.int 20))) (fC (.int 3)))) af)))) (cm (bn 3) fZ)))) ba) (ax (av 4 (cI (fn cO) (aa (ab 0) (aa (ab 3) af)))) (ax (sIf (fT (f2 ce (f2 (gI (fun _ j=>0 < j) fun i j=>.int (i % j)) (ab 1) (fC (.int 4))) (fC (.int 3)))) (ax (av 5 (vI (ah (fn aA) (aa (ab 0) (aa (fC (.int 7)) af))))) (ax (av 6 (vI (f2 (gI (fun _ j=>0 < j) fun i j=>.int (i % j)) (ab 5) (f2 bv (ab 2) (fC (.int 1)))))) (ax (av 7 (vI (f2 (gI (fun _ j=>0 < j) fun i j=>.int (i % j)) (f2 (gI ay fun i j=>.int (i / j)) (ab 5) (f2 bv (ab 2) (fC (.int 1)))) (f2 bv (ab 2) (fC (.int 1)))))) (sIf (fT (f2 cp (f2 gIx (f2 gIx (ab 4) (ab 6)) (ab 7)) (fC .non))) (dH 4 (ab 6) (ab 7) (vI (bU (aa (f2 (gI0 fun i j=>.int (i - j)) (f2 (gI0 fun i j=>.int (i - j)) (f2 gIx (f2 gIx (f2 gIx (ab 4) (ab 6)) (ab 7)) (fC (.int 0))) (fC (.int 1))) (f2 (gI (fun _ j=>0 < j) fun i j=>.int (i % j)) (f2 (gI ay fun i j=>.int (i / j)) (ab 5) (fC (.int 50))) (fC (.int 4)))) (aa (f2 ce (f2 (gI (fun _ j=>0 < j) fun i j=>.int (i % j)) (f2 (gI ay fun i j=>.int (i / j)) (ab 5) (fC (.int 200))) (fC (.int 2))) (fC (.int 1))) af))))) ba)))) ba) (cw (nQ (cm (bn 4) (cm (bn 3) fZ))))))))))) (aS 8 ds))=some d/\own d=true
theorem lI (ns:List Int):∃ (T:List (List Bn)) (ps:List (Int×Int)),Sq T (ps.length+1)/\Bk4 T/\ps.length<=6/\(∀ p∈ps,Fr 200 p)/\fn cv [.seq (ns.map D.int)]=some (.tup [ak T,.lst (ps.map fr)]):=by
 have e0:aS 8 [.seq (ns.map D.int)]=[some (.seq (ns.map D.int)),none,none,none,none,none,none,none]:=by
  show [some (sh (.seq (ns.map D.int))),none,none,none,none,none,none,none]=_
  rw [sh,eg]
 have ca:=fun (k:Int) (h:0<=k)=>gF (ns:=ns) (k:=k) h
 have c0:=ca 0 (by decide)
 obtain ⟨h,hh⟩:∃ h,h=cell ns 0:=⟨_,rfl⟩
 rw [<- hh] at c0
 have d4:ay h 4:=⟨by decide,cJ⟩
 have d20:ay h 20:=⟨by decide,cJ⟩
 obtain ⟨n,hn6,hk⟩:∃ n:Nat,n<=6/\f2 (gI (fun _ j=>0 < j) fun i j=>.int (i % j)) (f2 (gI ay fun i j=>.int (i / j)) (ab 1) (fC (.int 4))) (f2 gIx (fP (aa (fC (.int 5)) (aa (fC (.int 7)) af))) (ah rR (aa (f2 gGt (f2 (gI (fun _ j=>0 < j) fun i j=>.int (i % j)) (ab 1) (fC (.int 4))) (fC (.int 1))) af))) [some (.seq (ns.map D.int)),some (.int h),none,none,none,none,none,none]=some (.int (n:Int)):=by
  by_cases q:1 < h % 4
  . have q1:decide (1 < h % 4)=true:=decide_eq_true q
    have ix:gIx (.lst [.int 5,.int 7]) (.int 1)=some (.int 7):=rfl
    refine ⟨(h / 4 % 7).toNat,by omega,?_⟩
    rw [show (((h / 4 % 7).toNat:Nat):Int)=h / 4 % 7 by omega]
    simp only [ab,fC,f2,af,aa,fP,ah,rR,gI0,Zc,Zd,Ze,gGt,aq (C:=fun _ j=>0 < j) (i:=h) (j:=4) (by decide),q1,if_true,aq (C:=ay) d4,ix,aq (C:=fun _ j=>0 < j) (i:=h / 4) (j:=7) (by decide)]
  . have q1:decide (1 < h % 4)=false:=decide_eq_false q
    have ix:gIx (.lst [.int 5,.int 7]) (.int 0)=some (.int 5):=rfl
    refine ⟨(h / 4 % 5).toNat,by omega,?_⟩
    rw [show (((h / 4 % 5).toNat:Nat):Int)=h / 4 % 5 by omega]
    simp only [ab,fC,f2,af,aa,fP,ah,rR,gI0,Zc,Zd,Ze,gGt,aq (C:=fun _ j=>0 < j) (i:=h) (j:=4) (by decide),q1,Bool.false_eq_true,if_false,aq (C:=ay) d4,ix,aq (C:=fun _ j=>0 < j) (i:=h / 4) (j:=5) (by decide)]
 obtain ⟨ps,hps⟩:∃ ps,ps=(List.range n).map fun (i:Nat)=>prt (cell ns (1+(i:Int))):=⟨_,rfl⟩
 have hpl:ps.length=n:=by rw [hps,Zi,List.length_range]
 have hpf:∀ p∈ps,Fr 200 p:=by
  rw [hps]
  intro p m
  obtain ⟨i,_,rfl⟩:=List.mem_map.mp m
  exact vj _
 have hp2:∀ p∈ps,Sm 151 p.1/\Sm 14 p.2:=by
  rw [hps]
  intro p m
  obtain ⟨i,_,rfl⟩:=List.mem_map.mp m
  exact yN _
 have hP:own (.lst (ps.map fr))=true:=by rw [own];exact mX _
 have hcomp:dG (mF (aa (ab 2) af)) [0] (vI (ah (fn cE) (aa (ah (fn aA) (aa (ab 1) (aa (f2 bv (fC (.int 1)) (ab 0)) af))) af))) [some (.seq (ns.map D.int)),some (.int h),some (.int (n:Int)),none,none,none,none,none]=some (.lst (ps.map fr),[some (.seq (ns.map D.int)),some (.int h),some (.int (n:Int)),none,none,none,none,none]):=by
  rw [hps,List.map_map]
  refine jc (f:=fun (i:Nat)=>D.int (i:Int)) (sC rfl (yj (by omega))) (fun i hi=>?_) (by rw [List.length_range];omega)
  have es:shO (some (.int (i:Int)) :: bF [0] [some (.seq (ns.map D.int)),some (.int h),some (.int (n:Int)),none,none,none,none,none])=[some (.int (i:Int)),some (.seq (ns.map D.int))]:=by
   have z:sh (.seq (ns.map D.int))=.seq (ns.map D.int):=by rw [sh,eg]
   show [some (.int (i:Int)),some (sh (.seq (ns.map D.int)))]=_
   rw [z]
  rw [es]
  exact vB (bw (by simp only [ab,fC,f2,af,aa,ah,bS,Zc,Zd,Ze,ca (1+(i:Int)) (by omega),lE];rfl)) rfl
 have oT:∀ T,own (.tup [ak T,.lst (ps.map fr)])=true:=fun T=>by
  rw [own]
  show (own (ak T) && (own (.lst (ps.map fr)) && true))=true
  rw [bR,hP]
  rfl
 have fin:∀ T,Sq T (ps.length+1)->Bk4 T->(((ax (av 1 (vI (ah (fn aA) (aa (ab 0) (aa (fC (.int 0)) af))))) (ax (av 2 (vI (f2 (gI (fun _ j=>0 < j) fun i j=>.int (i % j)) (f2 (gI ay fun i j=>.int (i / j)) (ab 1) (fC (.int 4))) (f2 gIx (fP (aa (fC (.int 5)) (aa (fC (.int 7)) af))) (ah rR (aa (f2 gGt (f2 (gI (fun _ j=>0 < j) fun i j=>.int (i % j)) (ab 1) (fC (.int 4))) (fC (.int 1))) af)))))) (ax (av 3 (dG (mF (aa (ab 2) af)) [0] (vI (ah (fn cE) (aa (ah (fn aA) (aa (ab 1) (aa (f2 bv (fC (.int 1)) (ab 0)) af))) af))))) (ax (sIf (fT (f2 gLt (f2 (gI (fun _ j=>0 < j) fun i j=>.int (i % j)) (ab 1) (fC (.int 4))) (fC (.int 2)))) (cw (nQ (cm (cI (fn bO) (aa (ah (fn aA) (aa (ab 0) (aa (fC (.int 1)) af))) (aa (ab 2) (aa (f2 gIx (fP (aa (fC (.int 3)) (aa (fC (.int 9)) (aa (f2 (gI lY fun i j=>.int (i ^ j.toNat)) (fC (.int 10)) (fC (.int 55))) af)))) (f2 (gI (fun _ j=>0 < j) fun i j=>.int (i % j)) (f2 (gI ay fun i j=>.int (i / j)) (ab 1) (fC (.int 20))) (fC (.int 3)))) af)))) (cm (bn 3) fZ)))) ba) (ax (av 4 (cI (fn cO) (aa (ab 0) (aa (ab 3) af)))) (ax (sIf (fT (f2 ce (f2 (gI (fun _ j=>0 < j) fun i j=>.int (i % j)) (ab 1) (fC (.int 4))) (fC (.int 3)))) (ax (av 5 (vI (ah (fn aA) (aa (ab 0) (aa (fC (.int 7)) af))))) (ax (av 6 (vI (f2 (gI (fun _ j=>0 < j) fun i j=>.int (i % j)) (ab 5) (f2 bv (ab 2) (fC (.int 1)))))) (ax (av 7 (vI (f2 (gI (fun _ j=>0 < j) fun i j=>.int (i % j)) (f2 (gI ay fun i j=>.int (i / j)) (ab 5) (f2 bv (ab 2) (fC (.int 1)))) (f2 bv (ab 2) (fC (.int 1)))))) (sIf (fT (f2 cp (f2 gIx (f2 gIx (ab 4) (ab 6)) (ab 7)) (fC .non))) (dH 4 (ab 6) (ab 7) (vI (bU (aa (f2 (gI0 fun i j=>.int (i - j)) (f2 (gI0 fun i j=>.int (i - j)) (f2 gIx (f2 gIx (f2 gIx (ab 4) (ab 6)) (ab 7)) (fC (.int 0))) (fC (.int 1))) (f2 (gI (fun _ j=>0 < j) fun i j=>.int (i % j)) (f2 (gI ay fun i j=>.int (i / j)) (ab 5) (fC (.int 50))) (fC (.int 4)))) (aa (f2 ce (f2 (gI (fun _ j=>0 < j) fun i j=>.int (i % j)) (f2 (gI ay fun i j=>.int (i / j)) (ab 5) (fC (.int 200))) (fC (.int 2))) (fC (.int 1))) af))))) ba)))) ba) (cw (nQ (cm (bn 4) (cm (bn 3) fZ)))))))))))) [some (.seq (ns.map D.int)),none,none,none,none,none,none,none]=some (.rt (.tup [ak T,.lst (ps.map fr)]))->∃ (T:List (List Bn)) (ps:List (Int×Int)),Sq T (ps.length+1)/\Bk4 T/\ps.length<=6/\(∀ p∈ps,Fr 200 p)/\fn cv [.seq (ns.map D.int)]=some (.tup [ak T,.lst (ps.map fr)]):=fun T hs hB e=>by
  have key:cv [.seq (ns.map D.int)] (.tup [ak T,.lst (ps.map fr)]):=⟨by rw [e0];exact dI e,oT T⟩
  exact ⟨T,ps,hs,hB,by omega,hpf,cq (fun d' h'=>Option.some.inj (h'.1.symm.trans key.1)) key⟩
 by_cases q2:h % 4 < 2
 . have q1:decide (h % 4 < 2)=true:=decide_eq_true q2
   obtain ⟨most,hm0,hm1,hmo⟩:∃ most:Int,0<=most/\most<=10 ^ 55/\f2 gIx (fP (aa (fC (.int 3)) (aa (fC (.int 9)) (aa (f2 (gI lY fun i j=>.int (i ^ j.toNat)) (fC (.int 10)) (fC (.int 55))) af)))) (f2 (gI (fun _ j=>0 < j) fun i j=>.int (i % j)) (f2 (gI ay fun i j=>.int (i / j)) (ab 1) (fC (.int 20))) (fC (.int 3))) [some (.seq (ns.map D.int)),some (.int h),some (.int (n:Int)),some (.lst (ps.map fr)),none,none,none,none]=some (.int most):=by
    have bp:lY 10 55:=⟨by decide,by decide,by decide⟩
    have e55:(55:Int).toNat=55:=rfl
    have w3:h / 20 % 3=0 \/ h / 20 % 3=1 \/ h / 20 % 3=2:=by omega
    obtain ⟨most,hm0,hm1,hmo⟩:∃ most:Int,0<=most/\most<=10 ^ 55/\gIx (.lst [.int 3,.int 9,.int (10 ^ 55)]) (.int (h / 20 % 3))=some (.int most):=by
     rcases w3 with q | q | q
     . exact ⟨3,by decide,by decide,by rw [q];rfl⟩
     . exact ⟨9,by decide,by decide,by rw [q];rfl⟩
     . exact ⟨10 ^ 55,by decide,by decide,by rw [q];rfl⟩
    exact ⟨most,hm0,hm1,by simp only [ab,fC,f2,af,aa,fP,Zc,Zd,Ze,aq (C:=lY) bp,e55,aq (C:=ay) d20,aq (C:=fun _ j=>0 < j) (i:=h / 20) (j:=3) (by decide),hmo]⟩
   obtain ⟨T,hG,hT⟩:=kJ (seed:=cell ns 1) (k:=(n:Int)) (most:=most) (by omega) (by omega) hm0 hm1
   have en:((n:Int)).toNat+1=ps.length+1:=by omega
   rw [en] at hG
   refine fin T hG.sq (fun i j=>(hG.cell i j).mono (by decide)) ?_
   refine ap (aV (bw (d:=.int h) (by simp only [ab,fC,af,aa,ah,Zc,Zd,c0]))) (ap (aV (bw hk)) (ap (aV hcomp) (ik (c9 ?_ (cr (δ':=[some (.seq (ns.map D.int)),some (.int h),some (.int (n:Int)),none,none,none,none,none]) ?_)))))
   . simp only [Zf,Zg,ab,fC,f2,fT,asB,gI0,Zc,Zd,Ze,Zf,Zg,gLt,aq (C:=fun _ j=>0 < j) (i:=h) (j:=4) (by decide),q1]
   . have v1:cI (fn bO) (aa (ah (fn aA) (aa (ab 0) (aa (fC (.int 1)) af))) (aa (ab 2) (aa (f2 gIx (fP (aa (fC (.int 3)) (aa (fC (.int 9)) (aa (f2 (gI lY fun i j=>.int (i ^ j.toNat)) (fC (.int 10)) (fC (.int 55))) af)))) (f2 (gI (fun _ j=>0 < j) fun i j=>.int (i % j)) (f2 (gI ay fun i j=>.int (i / j)) (ab 1) (fC (.int 20))) (fC (.int 3)))) af))) [some (.seq (ns.map D.int)),some (.int h),some (.int (n:Int)),some (.lst (ps.map fr)),none,none,none,none]=some (ak T,[some (.seq (ns.map D.int)),some (.int h),some (.int (n:Int)),some (.lst (ps.map fr)),none,none,none,none]):=de (ds:=[.int (cell ns 1),.int (n:Int),.int most]) (fa3 (by simp only [ab,fC,af,aa,ah,Zc,Zd,ca 1 (by decide)]) rfl hmo) hT (bR T)
     exact uH v1 (dS rfl)
 . have q1:decide (h % 4 < 2)=false:=decide_eq_false q2
   obtain ⟨T,hG,_,hT⟩:=mC (ns:=ns) (tu ps) hpf hp2 (by omega)
   obtain ⟨T',o5,o6,o7,hs',hB',hst⟩:∃ (T':List (List Bn)) (o5 o6 o7:Option D),Sq T' (ps.length+1)/\Bk4 T'/\((sIf (fT (f2 ce (f2 (gI (fun _ j=>0 < j) fun i j=>.int (i % j)) (ab 1) (fC (.int 4))) (fC (.int 3)))) (ax (av 5 (vI (ah (fn aA) (aa (ab 0) (aa (fC (.int 7)) af))))) (ax (av 6 (vI (f2 (gI (fun _ j=>0 < j) fun i j=>.int (i % j)) (ab 5) (f2 bv (ab 2) (fC (.int 1)))))) (ax (av 7 (vI (f2 (gI (fun _ j=>0 < j) fun i j=>.int (i % j)) (f2 (gI ay fun i j=>.int (i / j)) (ab 5) (f2 bv (ab 2) (fC (.int 1)))) (f2 bv (ab 2) (fC (.int 1)))))) (sIf (fT (f2 cp (f2 gIx (f2 gIx (ab 4) (ab 6)) (ab 7)) (fC .non))) (dH 4 (ab 6) (ab 7) (vI (bU (aa (f2 (gI0 fun i j=>.int (i - j)) (f2 (gI0 fun i j=>.int (i - j)) (f2 gIx (f2 gIx (f2 gIx (ab 4) (ab 6)) (ab 7)) (fC (.int 0))) (fC (.int 1))) (f2 (gI (fun _ j=>0 < j) fun i j=>.int (i % j)) (f2 (gI ay fun i j=>.int (i / j)) (ab 5) (fC (.int 50))) (fC (.int 4)))) (aa (f2 ce (f2 (gI (fun _ j=>0 < j) fun i j=>.int (i % j)) (f2 (gI ay fun i j=>.int (i / j)) (ab 5) (fC (.int 200))) (fC (.int 2))) (fC (.int 1))) af))))) ba)))) ba)) [some (.seq (ns.map D.int)),some (.int h),some (.int (n:Int)),some (.lst (ps.map fr)),some (ak T),none,none,none]=some (.nx [some (.seq (ns.map D.int)),some (.int h),some (.int (n:Int)),some (.lst (ps.map fr)),some (ak T'),o5,o6,o7]):=by
    by_cases q3:h % 4=3
    . have q4:(h % 4 == 3)=true:=by simp [q3]
      obtain ⟨c,hc⟩:∃ c,c=cell ns 7:=⟨_,rfl⟩
      have c7:=ca 7 (by decide)
      rw [<- hc] at c7
      have hkp:0 < (n:Int)+1:=by omega
      have dk:ay c ((n:Int)+1):=⟨hkp,cJ (by omega)⟩
      have d50:ay c 50:=⟨by decide,cJ⟩
      have d200:ay c 200:=⟨by decide,cJ⟩
      have r0:=Int.emod_nonneg c (show (n:Int)+1 ≠ 0 by omega)
      have r1:=Int.emod_lt_of_pos c hkp
      have r2:=Int.emod_nonneg (c / ((n:Int)+1)) (show (n:Int)+1 ≠ 0 by omega)
      have r3:=Int.emod_lt_of_pos (c / ((n:Int)+1)) hkp
      obtain ⟨I,hI,hI'⟩:∃ I:Nat,c % ((n:Int)+1)=(I:Int)/\I < ps.length+1:=⟨(c % ((n:Int)+1)).toNat,by omega,by omega⟩
      obtain ⟨J,hJ,hJ'⟩:∃ J:Nat,c / ((n:Int)+1) % ((n:Int)+1)=(J:Int)/\J < ps.length+1:=⟨(c / ((n:Int)+1) % ((n:Int)+1)).toNat,by omega,by omega⟩
      obtain ⟨rw',x1,x2,_,_,_⟩:=gD hG.sq hI' hJ'
      have hcell:=hG.cell I J
      rcases hcx:ao T I J with _ | ⟨m,s⟩
      . rw [hcx] at x2
        refine ⟨T,some (.int c),some (.int (I:Int)),some (.int (J:Int)),hG.sq,fun i j=>(hG.cell i j).mono (by decide),?_⟩
        exact c9 (by simp only [ab,fC,f2,fT,asB,Zc,Zd,Ze,bz,aq (C:=fun _ j=>0 < j) (i:=h) (j:=4) (by decide),q4]) (ap (aV (bw (d:=.int c) (by simp only [ab,fC,af,aa,ah,Zc,Zd,c7]))) (ap (aV (bw (d:=.int (I:Int)) (by simp only [ab,fC,f2,bS,Zc,Zd,Ze,Zf,Zg,aq (C:=fun _ j=>0 < j) (i:=c) hkp,hI]))) (ap (aV (bw (d:=.int (J:Int)) (by simp only [ab,fC,f2,bS,Zc,Zd,Ze,Zf,Zg,aq (C:=ay) dk,aq (C:=fun _ j=>0 < j) (i:=c / ((n:Int)+1)) hkp,hJ]))) (bA (by simp only [ab,fC,f2,fT,asB,Zc,Zd,Ze,Zf,Zg,Bool.not_true,rf,cY,cp,x1,x2]) rfl))))
      . rw [hcx] at x2 hcell
        refine ⟨jt T I J (some (m - 1 - c / 50 % 4,c / 200 % 2 == 1)),some (.int c),some (.int (I:Int)),some (.int (J:Int)),oW hG.sq hI',fun i j=>?_,?_⟩
        . rw [uw hG.sq hI' hJ']
          split
          . exact Sm.mono (k:=192) (((show Sm 190 m from hcell).sub (y:=1) (Sm.mono (k:=10) (Sm.of (by omega) (by omega)) (by decide))).sub (y:=c / 50 % 4) (Sm.mono (k:=10) (Sm.of (by omega) (by omega)) (by decide))) (by decide)
          . exact (hG.cell i j).mono (by decide)
        . exact c9 (by simp only [ab,fC,f2,fT,asB,Zc,Zd,Ze,bz,aq (C:=fun _ j=>0 < j) (i:=h) (j:=4) (by decide),q4]) (ap (aV (bw (d:=.int c) (by simp only [ab,fC,af,aa,ah,Zc,Zd,c7]))) (ap (aV (bw (d:=.int (I:Int)) (by simp only [ab,fC,f2,bS,Zc,Zd,Ze,Zf,Zg,aq (C:=fun _ j=>0 < j) (i:=c) hkp,hI]))) (ap (aV (bw (d:=.int (J:Int)) (by simp only [ab,fC,f2,bS,Zc,Zd,Ze,Zf,Zg,aq (C:=ay) dk,aq (C:=fun _ j=>0 < j) (i:=c / ((n:Int)+1)) hkp,hJ]))) (c9 (by simp only [ab,fC,f2,fT,asB,Zc,Zd,Ze,Zf,Zg,Bool.not_false,bI,cY,cp,x1,x2]) (wJ hG.sq hI' hJ' rfl rfl rfl (bw (by simp only [ab,fC,f2,af,aa,bU,du,gI0,Zc,Zd,Ze,Zf,Zg,bI,bz,x1,x2,aq (C:=ay) d50,aq (C:=fun _ j=>0 < j) (i:=c / 50) (j:=4) (by decide),aq (C:=ay) d200,aq (C:=fun _ j=>0 < j) (i:=c / 200) (j:=2) (by decide)]) (eS _)))))))
    . have q4:(h % 4 == 3)=false:=by simp [q3]
      exact ⟨T,none,none,none,hG.sq,fun i j=>(hG.cell i j).mono (by decide),bA (by simp only [ab,fC,f2,fT,asB,Zc,Zd,Ze,bz,aq (C:=fun _ j=>0 < j) (i:=h) (j:=4) (by decide),q4]) rfl⟩
   refine fin T' hs' hB' ?_
   exact ap (aV (bw (d:=.int h) (by simp only [ab,fC,af,aa,ah,Zc,Zd,c0]))) (ap (aV (bw hk)) (ap (aV hcomp) (ap (bA (by simp only [Zf,Zg,ab,fC,f2,fT,asB,gI0,Zc,Zd,Ze,Zf,Zg,gLt,aq (C:=fun _ j=>0 < j) (i:=h) (j:=4) (by decide),q1]) rfl) (ap (aV (de (ds:=[.seq (ns.map D.int),.lst (ps.map fr)]) rfl hT (bR T))) (ap hst (cr (uH (dS rfl) (dS rfl))))))))
theorem k5 (F:Fun K "_law_table_by" "_law_table_by" dN f fd)  (hLcell_at:Has P w K mg base 1 "_law_cell_at" ["_law_script","_law_k"] (fn aA)) (hLplanted:HasF P w K mg base 2 "_law_planted" ["_law_script","_law_point"] (fn cO)) (hLpart:Has P w K mg base 2 "_law_part" ["_law_cell"] (fn cE)) (hLany_table:HasF P w K mg base 2 "_law_any_table" ["_law_seed","_law_k","_law_most"] (fn bO))  (m_int:mg "int" = none) (m_range:mg "range" = none):FnOk P w K mg base CX0 3 f fd ["_law_script"] (bV K 1 (fn cv)):=by
 have sc:=ia
 refine bZ F ia (fun cdv A outer s H E ds d hr hG hl=>?_)
 have hb:=bo hG
 have hown:=hb.2
 refine ⟨_,(au (aW 1 sc.nd (aN (aD hLcell_at hr (ae (ac 0) (ae aj ag)))))
  (au (aW 2 sc.nd (aN (bu (bH (ac 1) aj) (az (jQ (ae aj (ae aj ag))) (ue uB zH rfl m_int boot_int (ae (xY (bu (ac 1) aj) aj) ag))))))
  (au (l8 3 sc.nd (by exact (iz rfl m_range (ae (ac 2) ag))) (N:=["_law_t","_law_script"]) (js:=[0]) (cl:=[("_law_script",_)]) (fun _ _ _ _ _=>by exact (aN (aD hLpart hr (ae (aD hLcell_at hr (ae (ac 1) (ae (bQ aj (ac 0)) ag))) ag)))) (by exact CompOk.one))
  (au (eP (kS (bu (ac 1) aj) aj) (aF (bM (mP (bG (cK hLany_table hr (ae (aD hLcell_at hr (ae (ac 0) (ae aj ag))) (ae (ac 2) (ae (az (jQ (ae aj (ae aj (ae (rJ aj aj) ag)))) (bu (bH (ac 1) aj) aj)) ag)))) (bG (bq 3) cb))))) cR)
  (au (aW 4 sc.nd (cK hLplanted hr (ae (ac 0) (ae (ac 3) ag))))
  (au (eP (kc hr.units (bu (ac 1) aj) aj) (au (aW 5 sc.nd (aN (aD hLcell_at hr (ae (ac 0) (ae aj ag)))))
   (au (aW 6 sc.nd (aN (bu (ac 5) (bQ (ac 2) aj))))
   (au (aW 7 sc.nd (aN (bu (bH (ac 5) (bQ (ac 2) aj)) (bQ (ac 2) aj))))
   (aF (eP (ig (az (az (ac 4) (ac 6)) (ac 7)) bJ) (aF (kf 4 (aN (cS (ae (fS (fS (az (az (az (ac 4) (ac 6)) (ac 7)) aj) aj) (bu (bH (ac 5) aj) aj)) (ae (jR hr.units (bu (bH (ac 5) aj) aj) aj) ag)))) (jP (iY ix_list (pvi 4) (ac 6) (fun _ _=>rfl)) (ac 7) gy))) cR))))) cR)
  (aF (bM (mP (bG (bq 4) (bG (bq 3) cb))))))))))),?_,?own⟩
 case own=>first | rfl | exact hown
 . show aL ((?f:SD) (aS 8 _))=_
   exact hb.1
theorem ib:aG ["_law_found","_law_due"] ["_law_found","_law_due"] (am dO):=⟨rfl,rfl,rfl,by decide +kernel,rfl,by decide +kernel,by decide +kernel⟩
theorem k6 (F:Fun K "_law_is_table" "_law_is_table" dO f fd)  (hLis_bound:Has P w K mg base 2 "_law_is_bound" ["_law_found"] (fn c4))  (m_all:mg "all" = none) (m_isinstance:mg "isinstance" = none) (m_list:mg "list" = none):FnOk P w K mg base CX0 3 f fd ["_law_found","_law_due"] (bV K 2 (fn cZ)):=by
 have sc:=ib
 refine bZ F ib (fun cdv A outer s H E ds d hr hG hl=>?_)
 obtain ⟨d0,d1,T,n,hT,hU,hs,hn,rfl,rfl⟩:=bo hG
 have hown:own (.bl true)=true:=rfl
 refine ⟨_,(au (eP (PWD.pt (g6 (eO (ck (aE eU (iD m3) rfl m_isinstance boot_isinstance (ae (ac 0) (ae (ki rfl m_list boot_list) ag))))) (gk (kb hr.units (ac 0) (ac 1))))) (aF (bM (aN d5))) cR)
  (aF (bM (aN (aE (nI rfl) r8 rfl m_all lg (ae (me (by exact (eQ (ac 0))) (N:=["_law_row"]) (js:=[]) (cl:=[]) (fun _ _ _ _ _=>by exact (eR (aE eU (iD m3) rfl m_isinstance boot_isinstance (ae (ac 0) (ae (ki rfl m_list boot_list) ag))) (dh (aE (nI rfl) r8 rfl m_all lg (ae (me (by exact (eQ (ac 0))) (N:=["_law_bound"]) (js:=[]) (cl:=[]) (fun _ _ _ _ _=>by exact (aD hLis_bound hr (ae (ac 0) ag))) (by exact CompOk.nil)) ag))))) (by exact CompOk.nil)) ag)))))),?_,?own⟩
 case own=>first | rfl | exact hown
 . show aL ((?f:SD) (aS 2 _))=_
   have e0:aS 2 [d0,d1]=[some (aw T),some (aw T)]:=by
    show [some (sh d0),some (sh d1)]=_
    rw [show sh d0=aw T from hT,show sh d1=aw T from hU]
   rw [e0]
   have il:tw (aw T)=some true:=rfl
   have al:∀ {α:Type} (xs:List α),pG [.lst ((xs.map fun _=>true).map D.bl)]=some (.bl true):=fun xs=>by
    rw [qL]
    congr 2
    rw [List.all_map,List.all_eq_true]
    intro x _
    rfl
   have inn:∀ r:List Bn,r.length=n->kB (fun δ=>((ab 0) δ).bind asL) [] (ah (fn c4) (aa (ab 0) af)) [some (.seq (aJ r))]=some (.lst ((r.map fun _=>true).map D.bl)):=fun r hr=>by
    rw [List.map_map]
    refine jr (f:=bdD) (g:=fun _=>D.bl true) rfl (fun b _=>?_) (by omega)
    show ah _ _ [some (bdD b)]=_
    simp only [ab,af,aa,ah,Zc,Zd,lU]
   have cmp:kB (fun δ=>((ab 0) δ).bind asL) [] (cj (ah (xC "list" tw) (aa (ab 0) (aa (fC (.ty "list")) af))) (ah pG (aa (kB (fun δ=>((ab 0) δ).bind asL) [] (ah (fn c4) (aa (ab 0) af))) af))) [some (aw T),some (aw T)]=some (.lst ((T.map fun _=>true).map D.bl)):=by
    rw [List.map_map]
    refine jr (f:=fun r=>.seq (aJ r)) (g:=fun _=>D.bl true) rfl (fun r m=>?_) (by rw [hs.1];omega)
    show cj _ _ [some (.seq (aJ r))]=_
    refine qP (a:=true) (b:=true) rfl ?_
    simp only [ah,aa,af,inn r (hs.2 r m),Zc,al]
   refine dI (ap (bA (by simp only [ab,fC,f2,fT,asB,cC,dY,af,aa,ah,lc,Zc,Option.map_some,Zd,Ze,Bool.not_true,il,zh]) rfl) (cr (bw (d:=.bl true) ?_)))
   simp only [ah,aa,af,cmp,Zc,al]
theorem iU:aG ["_law_script","_law_point","_law_found","_law_cell","_law_some"] ["_law_script","_law_point"] (am fH):=⟨rfl,rfl,rfl,by decide +kernel,rfl,by decide +kernel,by decide +kernel⟩
theorem m4 (F:Fun K "_law_points" "_law_points" fH f fd)  (hLpart:Has P w K mg base 2 "_law_part" ["_law_cell"] (fn cE)) (hLmixed:HasF P w K mg base 1 "_law_mixed" ["_law_cell","_law_k"] (fn aM))  (m_range:mg "range" = none) (m_len:mg "len" = none):FnOk P w K mg base CX0 3 f fd ["_law_script","_law_point"] (bL K 2 (fn cf)):=by
 have sc:=iU
 refine wN F iU (fun cdv A outer s H E ds d hr hG hl=>?_)
 obtain ⟨ns,cs,d1,ps,h,h1,rfl,rfl⟩:=bo hG
 refine ⟨_,(au (aW 2 sc.nd (fq (bG (bq 1) cb)))
  (au (cu 3 sc.nd PassesOwn.never rfl (vt (u9 (ac 0) (vk (kX aj)) vn))
   (au (l8 4 sc.nd (by exact (iz rfl m_range (ae (aE aC bN rfl m_len PySem.boot_len (ae (ac 1) ag)) ag))) (N:=["_law_t","_law_point","_law_cell"]) (js:=[1,3]) (cl:=[("_law_point",_),("_law_cell",_)]) (fun _ _ _ _ _=>by exact (aN (az (jQ (ae (aD hLpart hr (ae (aD hLmixed.has hr (ae (ac 2) (ae (ac 0) ag))) ag)) (ae (az (ac 1) (ac 0)) ag))) (bu (bH (ac 2) (bQ (ac 0) aj)) aj)))) (by exact CompOk.two))
   (aF (kT 2 (jz PySem.F.plainAttrs_list PySem.F.slot_list_append PySem.F.type_list_append c5 (pvi 2) (cA (bq 4) dW))))))
  (aF (bM (bq 2))))),?_⟩
 . show aL ((?f:SD) (aS 5 _))=_
   have e0:aS 5 [.seq (ns.map D.int),d1]=[some (.seq (ns.map D.int)),some (.seq (ps.map fr)),none,none,none]:=by
    show [some (sh (.seq (ns.map D.int))),some (sh d1),none,none,none]=_
    rw [show sh d1=_ from h1,sh,eg]
   rw [e0]
   have len:bP [.seq (ps.map fr)]=some (.int (ps.length:Int)):=by
    show some (D.int ((ps.map fr).length:Int))=_
    rw [Zi]
   have cmp:∀ (c:Int) (o2 o4:Option D),dG (mF (aa (ah bP (aa (ab 1) af)) af)) [1,3] (vI (f2 gIx (fP (aa (ah (fn cE) (aa (ah (fn aM) (aa (ab 2) (aa (ab 0) af))) af)) (aa (f2 gIx (ab 1) (ab 0)) af))) (f2 (gI (fun _ j=>0 < j) fun i j=>.int (i % j)) (f2 (gI ay fun i j=>.int (i / j)) (ab 2) (f2 bv (ab 0) (fC (.int 1)))) (fC (.int 2))))) [some (.seq (ns.map D.int)),some (.seq (ps.map fr)),o2,some (.int c),o4]=some (.lst ((mde c ps).map fr),[some (.seq (ns.map D.int)),some (.seq (ps.map fr)),o2,some (.int c),o4]):=fun c o2 o4=>by
    unfold mde
    rw [List.map_map]
    refine jc (xs:=List.range ps.length) (f:=fun (i:Nat)=>D.int (i:Int)) (g:=fr ∘ pk c ps) (sC (ds:=[.int (ps.length:Int)]) (by simp only [ab,af,aa,ah,Zc,Zd,Ze,len]) (yj (Nat.le_trans h.pl (by decide)))) (fun t mt=>?_) (by rw [List.length_range];exact Nat.le_trans h.pl (by decide))
    have ht:=Zm.mp mt
    have h40:=h.pl
    have es:shO (some (D.int (t:Int)) :: bF [1,3] [some (.seq (ns.map D.int)),some (.seq (ps.map fr)),o2,some (.int c),o4])=[some (.int (t:Int)),some (.seq (ps.map fr)),some (.int c)]:=by
     show [some (.int (t:Int)),some (sh (.seq (ps.map fr))),some (.int c)]=_
     rw [sh,jg]
    rw [es]
    have em:=gr (c:=c) (k:=(t:Int)) (by omega) (by omega)
    have p1:=lE (c:=mxd c (t:Int))
    have x1:=zx (ps:=ps) ht
    have dv:ay c ((t:Int)+1):=⟨by omega,cJ (by omega)⟩
    have ix:gIx (.lst [fr (prt (mxd c (t:Int))),fr (ps.getD t (0,1))]) (.int (c / ((t:Int)+1) % 2))=some (fr (pk c ps t)):=by
     unfold pk
     have c2:c / ((t:Int)+1) % 2=0 \/ c / ((t:Int)+1) % 2=1:=by omega
     rcases c2 with q | q
     . rw [q,if_pos rfl]
       rfl
     . rw [q,if_neg (by decide)]
       rfl
    exact vB (bw (d:=fr (pk c ps t)) (by simp only [ab,fC,f2,af,aa,fP,ah,bS,Zc,Zd,Ze,em,p1,x1,aq (C:=ay) dv,aq (C:=fun _ j=>0 < j) (i:=c / ((t:Int)+1)) (j:=2) (by decide),ix])) rfl
   obtain ⟨_,w,o3,o4,rfl⟩:=bC (i:=3) (s:=((ax (av 4 (dG (mF (aa (ah bP (aa (ab 1) af)) af)) [1,3] (vI (f2 gIx (fP (aa (ah (fn cE) (aa (ah (fn aM) (aa (ab 2) (aa (ab 0) af))) af)) (aa (f2 gIx (ab 1) (ab 0)) af))) (f2 (gI (fun _ j=>0 < j) fun i j=>.int (i % j)) (f2 (gI ay fun i j=>.int (i / j)) (ab 2) (f2 bv (ab 0) (fC (.int 1)))) (fC (.int 2))))))) (iw 2 (bn 4))))) (f:=D.int) (fun pre δ=>∃ o3 o4,δ=[some (.seq (ns.map D.int)),some (.seq (ps.map fr)),some (.lst (eN pre ps)),o3,o4]) cs (by
    rintro pre c post _ hx ⟨o3,o4,rfl⟩
    have hl:pre.length<=63:=by
     have:=congrArg List.length hx
     rw [Zh] at this
     have:=h.cl
     omega
    refine ⟨[some (.seq (ns.map D.int)),some (.seq (ps.map fr)),some (.lst (eN (pre++[c]) ps)),some (.int c),none],ap (cQ (cmp c _ _)) ?_,_,_,rfl⟩
    have sa:=wE (δ:=[some (.seq (ns.map D.int)),some (.seq (ps.map fr)),some (.lst (eN pre ps)),some (.int c),some (.lst ((mde c ps).map fr))]) (i:=2) (fm:=bn 4) (ds:=eN pre ps) (es:=eN pre ps) (d:=.lst ((mde c ps).map fr)) rfl (dS rfl) rfl (by unfold eN;rw [List.length_cons,Zi];omega)
    have er:eN pre ps++[.lst ((mde c ps).map fr)]=eN (pre++[c]) ps:=by
     unfold eN
     rw [List.map_append]
     rfl
    rw [er] at sa
    exact sa) cs [] [some (.seq (ns.map D.int)),some (.seq (ps.map fr)),some (.lst (eN [] ps)),none,none] rfl ⟨_,_,rfl⟩
   have sl:sk (vSl (ab 0) (faS (f1 g9 (fC (.int 12)))) faN) [some (.seq (ns.map D.int)),some (.seq (ps.map fr)),some (.lst (eN [] ps)),none,none]=some (cs.map D.int,[some (.seq (ns.map D.int)),some (.seq (ps.map fr)),some (.lst (eN [] ps)),none,none]):=by
    unfold sk vSl
    have z:fSl (ab 0) (faS (f1 g9 (fC (.int 12)))) faN [some (.seq (ns.map D.int)),some (.seq (ps.map fr)),some (.lst (eN [] ps)),none,none]=some (.lst (cs.map D.int)):=by
     rw [<- h.cut]
     rfl
    rw [z]
    show ((iA (.lst (cs.map D.int)) _).bind _)=_
    unfold iA
    dsimp only
    rw [if_pos (oC cs)]
    show (match sh (.lst (cs.map D.int)) with | .seq ds=>some (ds,_) | _=>none)=_
    rw [sh,eg]
   exact dI (ap (cQ (d:=.lst (eN [] ps)) rfl) (ap (bD sl w) (cr (dS rfl))))
theorem qh:aG ["part","bound","limit"] ["part","bound"] (am l4):=⟨rfl,rfl,rfl,by decide +kernel,rfl,by decide +kernel,by decide +kernel⟩
theorem vL (F:Fun K "keeps" "keeps" l4 f fd)  (hfractionD:wn P w K mg base 3 "fraction" ["top","bottom"] [1] (fn cH)) (hless:Has P w K mg base 1 "less" ["one","other"] (fn pX))  :FnOk P w K mg base CX0 4 f fd ["part","bound"] (bL K 2 (fn iE)):=by
 have sc:=qh
 refine cy F qh (fun cdv A outer s H E ds d hr hG hl=>?_)
 obtain ⟨⟨a,b⟩,c,hp,hc,rfl,rfl⟩:=bo hG
 refine ⟨_,(bh (dF (dQ (ac 1) bJ) (aU (bf d5)) cL)
  (bh (gn 2 sc.nd (mU hfractionD hr (ae (az (ac 1) aj) ag)))
  (bh (dF (ck (az (ac 1) aj)) (aU (bf (aD hless hr (ae (ac 0) (ae (ac 2) ag))))) cL)
  (aU (bf (kW (aD hless hr (ae (ac 2) (ae (ac 0) ag))))))))),?_⟩
 . show aL ((?f:SD) [some _,some _,none])=_
   rcases c with _ | ⟨n,s⟩
   . rfl
   . have hk:Fk (n,1):=⟨show (0:Int) < 1 by decide,hc,show (1:Int).natAbs < 2 ^ 4000 from Nat.lt_of_lt_of_le (show 1 < 2 ^ 1 by decide) (Nat.pow_le_pow_right (by decide) (by decide))⟩
     have l1:fn pX [fr (a,b),.tup [.int n,.int 1]]=some (.bl (decide (a*1 < n*b))):=e2 (op:=fun p q=>.bl (decide (p.1*q.2 < q.1*p.2))) hp hk
     have l2:fn pX [.tup [.int n,.int 1],fr (a,b)]=some (.bl (decide (n*b < a*1))):=e2 (op:=fun p q=>.bl (decide (p.1*q.2 < q.1*p.2))) hk hp
     cases s
     . simp only [aL,ba,df,ax,fg,mK,sIf,ab,fC,f2,f1,fT,asB,pF,af,aa,ah,du,eT,Zc,Zd,Ze,Zf,Zg,bI,fu,cY,d6,l1,l2]
       rfl
     . simp only [aL,ba,df,ax,fg,mK,sIf,ab,fC,f2,fT,asB,af,aa,ah,du,eT,Zc,Zd,Ze,Zf,Zg,bI,fu,cY,d6,l1]
       rfl
theorem iH:aG ["bounds","ways","middle","thing","total"] ["bounds","ways","middle"] (am eE):=⟨rfl,rfl,rfl,by decide +kernel,rfl,by decide +kernel,by decide +kernel⟩
theorem lK (F:Fun K "ring_through" "ring_through" eE f fd)  (hbound_sum:Has P w K mg base 1 "bound_sum" ["one","other"] (fn bT)) (hkeeps:Has P w K mg base 4 "keeps" ["part","bound"] (fn iE)) (hfractionD:wn P w K mg base 3 "fraction" ["top","bottom"] [1] (fn cH))  (m_range:mg "range" = none) (m_len:mg "len" = none):FnOk P w K mg base CX0 5 f fd ["bounds","ways","middle"] (bV K 3 (fn eX)):=by
 have sc:=iH
 refine bZ F iH (fun cdv A outer s H E ds d hr hG hl=>?_)
 obtain ⟨d0,d1,n,m,f,p,ok,h0,h1,rfl,rfl⟩:=bo hG
 have hown:=sX n f p m
 refine ⟨_,(au (cu 3 sc.nd PassesOwn.never rfl (aT rfl m_range (ae (aE aC bN rfl m_len PySem.boot_len (ae (ac 0) ag)) ag))
  (au (aW 4 sc.nd (aN (aD hbound_sum hr (ae (az (az (ac 0) (ac 3)) (ac 2)) (ae (az (az (ac 0) (ac 2)) (ac 3)) ag)))))
  (aF (eP (eO (ck (aD hkeeps hr (ae (mU hfractionD hr (ae aj ag)) (ae (ac 4) ag))))) (aF (bM (l7 (az (az (ac 1) (ac 3)) (ac 2)) (az (az (ac 1) (ac 2)) (ac 3))))) cR))))
  (aF (bM (aN bJ)))),?_,?own⟩
 case own=>first | rfl | exact hown
 . show aL ((?f:SD) (aS 5 _))=_
   have e0:aS 5 [d0,d1,.int (m:Int)]=[some (aw (aB n f)),some (.seq (fM n p)),some (.int (m:Int)),none,none]:=by
    show [some (sh d0),some (sh d1),some (sh (.int (m:Int))),none,none]=_
    rw [show sh d0=_ from h0,h1]
    rfl
   rw [e0]
   have hm:=ok.mn
   have hn:=ok.n41
   have len:bP [aw (aB n f)]=some (.int (n:Int)):=iB (be n f)
   have hv:=fun o1 o2:Option D=>db (g:=aa (ah bP (aa (ab 0) af)) af) (δ:=[some (aw (aB n f)),some (.seq (fM n p)),some (.int (m:Int)),o1,o2]) (n:=n) (by simp only [ab,af,aa,ah,Zc,Zd,len]) (by omega)
   have fo:Fk (0,1):=Fk.of (jY (k:=200) (by decide))
   obtain ⟨k1,k2⟩:=mq (i:=3) (s:=((ax (av 4 (vI (ah (fn bT) (aa (f2 gIx (f2 gIx (ab 0) (ab 3)) (ab 2)) (aa (f2 gIx (f2 gIx (ab 0) (ab 2)) (ab 3)) af))))) (sIf (cC (fT (ah (fn iE) (aa (ah (dfl (fn cH) [1]) (aa (fC (.int 0)) af)) (aa (ab 4) af))))) (cw (hV (f2 gIx (f2 gIx (ab 1) (ab 3)) (ab 2)) (f2 gIx (f2 gIx (ab 1) (ab 2)) (ab 3)))) ba)))) (f:=fun (i:Nat)=>D.int (i:Int)) (fun _ δ=>∃ o1 o2,δ=[some (aw (aB n f)),some (.seq (fM n p)),some (.int (m:Int)),o1,o2]) (lW f p m) (List.range n) (by
    rintro pre t post _ hx ⟨o1,o2,rfl⟩
    obtain ⟨rfl,ht⟩:=bg hx
    generalize pre.length=t at *
    obtain ⟨r1,q1,q2⟩:=i4 (be n f) ht hm
    obtain ⟨r2,q3,q4⟩:=i4 (be n f) hm ht
    rw [br f ht hm] at q2
    rw [br f hm ht] at q4
    obtain ⟨w1,w2⟩:=qF p ht hm
    obtain ⟨w3,w4⟩:=qF p hm ht
    have kk:=pN (p:=(0,1)) (b:=bs (f t m) (f m t)) fo (((ok.bk t m ht hm).sum (ok.bk m t hm ht)).mono (by decide))
    have s1:((av 4 (vI (ah (fn bT) (aa (f2 gIx (f2 gIx (ab 0) (ab 3)) (ab 2)) (aa (f2 gIx (f2 gIx (ab 0) (ab 2)) (ab 3)) af)))))) [some (aw (aB n f)),some (.seq (fM n p)),some (.int (m:Int)),some (.int (t:Int)),o2]=some (.nx [some (aw (aB n f)),some (.seq (fM n p)),some (.int (m:Int)),some (.int (t:Int)),some (bdD (bs (f t m) (f m t)))]):=cQ (bw (d:=bdD (bs (f t m) (f m t))) (by simp only [ab,f2,af,aa,ah,Zc,Zd,Ze,q1,q2,q3,q4,gS]) (eS _))
    unfold lW
    cases hk:kp (0,1) (bs (f t m) (f m t)) with
    | true =>
     refine ⟨fun _=>⟨_,ap s1 (bA (by simp only [ab,fC,fT,asB,cC,af,aa,ah,Zc,Option.map_some,Zd,Ze,Bool.not_true,d6,kk,hk]) rfl),_,_,rfl⟩,fun d z=>?_⟩
     rw [if_pos rfl] at z
     cases z
    | false =>
     refine ⟨fun z=>?_,fun d z=>?_⟩
     . rw [if_neg (by decide)] at z
       cases z
     . rw [if_neg (by decide)] at z
       cases z
       refine ap s1 (c9 (by simp only [ab,fC,fT,asB,cC,af,aa,ah,Zc,Option.map_some,Zd,Ze,Bool.not_false,d6,kk,hk]) (oQ (d:=.lst (aP (p t m++p m t))) ?_))
       have l1:=ok.ln t m ht hm
       have l2:=ok.ln m t hm ht
       have ei:aP (p t m++p m t)=aP (p t m)++aP (p m t):=List.map_append
       rw [ei]
       exact oN (a:=.seq (aP (p t m))) (b:=.seq (aP (p m t))) (by simp only [ab,f2,Zc,Zd,Ze,w1,w2]) (by simp only [ab,f2,Zc,Zd,Ze,w3,w4]) rfl rfl (by unfold aP;rw [Zi,Zi];omega) (by rw [<- ei];exact ni _)) (List.range n) [] [some (aw (aB n f)),some (.seq (fM n p)),some (.int (m:Int)),none,none] rfl ⟨_,_,rfl⟩
   unfold rgt
   cases hb:aX (lW f p m) [] (List.range n) with
   | none =>
    obtain ⟨_,w,o1,o2,rfl⟩:=k1 hb
    exact dI (ap (bD (hv _ _) w) (cr (bw rfl)))
   | some d=>exact dI (ik (bD (hv _ _) (k2 d hb)))
theorem om:aG ["table","thing","bounds","ways","middle","ring"] ["table"] (am j8):=⟨rfl,rfl,rfl,by decide +kernel,rfl,by decide +kernel,by decide +kernel⟩
theorem ui (F:Fun K "closed" "closed" j8 f fd)  (hwith_noughts:HasF P w K mg base 2 "with_noughts" ["table"] (fn gG)) (hstraight_ways:HasF P w K mg base 1 "straight_ways" ["size"] (fn fX)) (hring_through:HasF P w K mg base 5 "ring_through" ["bounds","ways","middle"] (fn eX)) (hlead_through:zS P w K mg base 2 "lead_through" ["bounds","ways","middle"] (fnM eY)) (hkeeps:Has P w K mg base 4 "keeps" ["part","bound"] (fn iE)) (hfractionD:wn P w K mg base 3 "fraction" ["top","bottom"] [1] (fn cH))  (m_range:mg "range" = none) (m_len:mg "len" = none):FnOk P w K mg base CX0 6 f fd ["table"] (bV K 1 (fn nN)):=by
 have sc:=om
 refine bZ F om (fun cdv A outer s H E ds d hr hG hl=>?_)
 obtain ⟨d0,T,n,hT,hs,hn,hB,rfl,rfl⟩:=bo hG
 have hown:=gR n T
 refine ⟨_,(au (cu 1 sc.nd PassesOwn.never rfl (aT rfl m_range (ae (aE aC bN rfl m_len PySem.boot_len (ae (ac 0) ag)) ag))
  (aF (eP (eO (ck (aD hkeeps hr (ae (mU hfractionD hr (ae aj ag)) (ae (az (az (ac 0) (ac 1)) (ac 1)) ag))))) (aF (bM (mP (bG (aN kU) (bG (fq (bG (bq 1) cb)) cb))))) cR)))
  (au (aW 2 sc.nd (cK hwith_noughts hr (ae (ac 0) ag)))
  (au (aW 3 sc.nd (cK hstraight_ways hr (ae (aE aC bN rfl m_len PySem.boot_len (ae (ac 0) ag)) ag)))
  (au (cu 4 sc.nd PassesOwn.never rfl (aT rfl m_range (ae (aE aC bN rfl m_len PySem.boot_len (ae (ac 0) ag)) ag))
   (au (aW 5 sc.nd (cK hring_through hr (ae (ac 2) (ae (ac 3) (ae (ac 4) ag)))))
   (au (eP (ig (ac 5) bJ) (aF (bM (mP (bG (aN kU) (bG (bq 5) cb))))) cR)
   (aF (vo 2 3 hlead_through hr (cA (pvi 2) (cA (pvi 3) (ae (ac 4) ag))))))))
  (aF (bM (mP (bG (aN kU) (bG (bq 2) cb))))))))),?_,?own⟩
 case own=>first | rfl | exact hown
 . show aL ((?f:SD) (aS 6 _))=_
   have e0:aS 6 [d0]=[some (aw T),none,none,none,none,none]:=by
    show [some (sh d0),none,none,none,none,none]=_
    rw [show sh d0=aw T from hT]
   rw [e0]
   have len:bP [aw T]=some (.int (n:Int)):=iB hs
   have hv:=fun o1 o2 o3 o4 o5:Option D=>db (g:=aa (ah bP (aa (ab 0) af)) af) (δ:=[some (aw T),o1,o2,o3,o4,o5]) (n:=n) (by simp only [ab,af,aa,ah,Zc,Zd,len]) (by omega)
   have fo:Fk (0,1):=Fk.of (jY (k:=200) (by decide))
   obtain ⟨k1,k2⟩:=mq (i:=1) (s:=((sIf (cC (fT (ah (fn iE) (aa (ah (dfl (fn cH) [1]) (aa (fC (.int 0)) af)) (aa (f2 gIx (f2 gIx (ab 0) (ab 1)) (ab 1)) af))))) (cw (nQ (cm (vI (fC (.str "ring"))) (cm (jH (cm (bn 1) fZ)) fZ)))) ba))) (f:=fun (i:Nat)=>D.int (i:Int)) (fun _ δ=>∃ o1,δ=[some (aw T),o1,none,none,none,none]) (lX T) (List.range n) (by
    rintro pre t post _ hx ⟨o1,rfl⟩
    obtain ⟨rfl,ht⟩:=bg hx
    generalize pre.length=t at *
    obtain ⟨r1,q1,q2⟩:=i4 hs ht ht
    have kk:=pN (p:=(0,1)) (b:=ao T t t) fo ((hB t t).mono (by decide))
    unfold lX
    cases hk:kp (0,1) (ao T t t) with
    | true =>
     refine ⟨fun _=>⟨_,bA (by simp only [ab,fC,f2,fT,asB,cC,af,aa,ah,Zc,Option.map_some,Zd,Ze,Zf,Zg,Bool.not_true,d6,q1,q2,jK,kk,hk]) rfl,some (.int (t:Int)),rfl⟩,fun d z=>?_⟩
     rw [if_pos rfl] at z
     cases z
    | false =>
     refine ⟨fun z=>?_,fun d z=>?_⟩
     . rw [if_neg (by decide)] at z
       cases z
     . rw [if_neg (by decide)] at z
       cases z
       exact c9 (by simp only [ab,fC,f2,fT,asB,cC,af,aa,ah,Zc,Option.map_some,Zd,Ze,Zf,Zg,Bool.not_false,d6,q1,q2,jK,kk,hk]) (oQ rfl)) (List.range n) [] [some (aw T),none,none,none,none,none] rfl ⟨_,rfl⟩
   obtain ⟨c,hc⟩:∃ c,c=cz T:=⟨_,rfl⟩
   have hcd:∀ i,i < n->c i i=b0:=fun i _=>by rw [hc];exact if_pos rfl
   have hcb:∀ i j,Bk 2000 (c i j):=by rw [hc];exact AY hB
   have lp:=fun o1:Option D=>mq (i:=4) (s:=((ax (av 5 (cI (fn eX) (aa (ab 2) (aa (ab 3) (aa (ab 4) af))))) (ax (sIf (fT (f2 cp (ab 5) (fC .non))) (cw (nQ (cm (vI (fC (.str "ring"))) (cm (bn 5) fZ)))) ba) (mL 2 3 (fnM eY) (aa (ab 4) af)))))) (f:=fun (i:Nat)=>D.int (i:Int)) (fun pre δ=>∃ o1 o4 o5,St n c pre.length/\δ=[some (aw T),o1,some (ak (aB n (dm c pre.length))),some (.lst (aY n (pw c pre.length))),o4,o5]) (lh n c) (List.range n) (by
    rintro pre m post _ hx ⟨o1,o4,o5,st,rfl⟩
    obtain ⟨rfl,hm⟩:=bg hx
    rw [Zh,Zj]
    generalize pre.length=m at *
    have rt:=st.rt hcb hn hm
    have er:=ny rt (cU (aB n (dm c m))) (by rw [sh,mI]:sh (.lst (aY n (pw c m)))=.seq (fM n (pw c m)))
    have ow:=sX n (dm c m) (pw c m) m
    unfold lh
    rcases jM (n:=n) (m:=m) (dm c m) (pw c m) with e | ⟨t,ht,e,bad⟩
    . have ok:=oZ e
      have st':=sx st hm ok
      have el:=nz rt (st.fw.dia m hm)
      rw [e] at er ow ⊢
      refine ⟨fun _=>⟨[some (aw T),o1,some (ak (aB n (dm c (m+1)))),some (.lst (aY n (pw c (m+1)))),some (.int (m:Int)),some .non],ap (cQ (de (ds:=[ak (aB n (dm c m)),.lst (aY n (pw c m)),.int (m:Int)]) rfl er ow)) (ap (bA rfl rfl) ?_),_,_,_,st',rfl⟩,fun d z=>by cases z⟩
      exact uO (i:=2) (j:=3) (xs:=aZ (aB n (dm c m))) (ys:=aY n (pw c m)) (es:=[.int (m:Int)]) (d0:=ak (aB n (dm c (m+1)))) (d1:=.lst (aY n (pw c (m+1)))) rfl rfl rfl el rfl (bR _) (mY _ _) (by decide)
    . rw [e] at er ow ⊢
      refine ⟨(fun z=>by cases z),fun d z=>?_⟩
      cases z
      exact ap (cQ (de (ds:=[ak (aB n (dm c m)),.lst (aY n (pw c m)),.int (m:Int)]) rfl er ow)) (ik (c9 rfl (cr rfl)))) (List.range n) [] [some (aw T),o1,some (ak (aB n (dm c 0))),some (.lst (aY n (pw c 0))),none,none] rfl ⟨_,_,_,sw hcd,rfl⟩
   unfold cM
   rw [<- hc]
   cases hb:aX (lX T) [] (List.range n) with
   | some d=>exact dI (ik (bD (hv _ _ _ _ _) (k2 d hb)))
   | none =>
    obtain ⟨_,w,o1,rfl⟩:=k1 hb
    obtain ⟨l1,l2⟩:=lp o1
    have ew:=nu (pC T) hs hn
    rw [<- hc] at ew
    refine dI (ap (bD (hv _ _ _ _ _) w) (ap (aV (de (ds:=[aw T]) rfl ew (bR _))) (ap (aV (de (ds:=[.int (n:Int)]) (by simp only [ab,af,aa,ah,Zc,Zd,Zf,Zg,len]) (lS hn) (mY _ _))) ?_)))
    dsimp only [List.set_cons_zero,List.set_cons_succ]
    cases hr2:aX (lh n c) [] (List.range n) with
    | some d=>exact ik (bD (hv _ _ _ _ _) (l2 d hr2))
    | none =>
     obtain ⟨_,w2,o1',o4,o5,st,rfl⟩:=l1 hr2
     rw [List.length_range] at w2
     exact ap (bD (hv _ _ _ _ _) w2) (cr (by rfl))
theorem lq:aG ["one","other","both","first","second"] ["one","other"] (am iq):=⟨rfl,rfl,rfl,by decide +kernel,rfl,by decide +kernel,by decide +kernel⟩
theorem Bf {a b:Bn} {δ:DS}:iS 2 [] (gDs [0,1]) (fun _=>some true) (vI (ah (fn cD) (aa (ab 0) (aa (ab 1) af)))) δ (.tup [bdD a,bdD b])=some (some (bdD (tgo a b))):=by
 show ((Dl.ownOf (vI (ah (fn cD) (aa (ab 0) (aa (ab 1) af)))) [some (sh (bdD a)),some (sh (bdD b))]).map some)=_
 rw [uR,uR]
 have e:ah (fn cD) (aa (ab 0) (aa (ab 1) af)) [some (bdD a),some (bdD b)]=some (bdD (tgo a b)):=by simp only [ab,af,aa,ah,Zc,Zd,Ze,pM]
 unfold Dl.ownOf
 rw [bw e (eS _)]
 show (if own (bdD (tgo a b))=true then some (bdD (tgo a b)) else none).map some=_
 rw [if_pos (vC _)]
 rfl
theorem so {u0 u1:Option D} {n:Nat} (hn:n<=41):∀ (T U acc:List (List Bn)) (o3 o4:Option D),(∀ r∈T,r.length=n)->acc.length+T.length<=41->∃ p3 p4,qN (gTs [3,4]) ((iw 2 (kG (wu (aa (ab 3) (aa (ab 4) af))) 2 [] (gDs [0,1]) (fun _=>some true) (vI (ah (fn cD) (aa (ab 0) (aa (ab 1) af))))))) (List.zipWith (fun d e=>D.tup [d,e]) (ci T) (ci U)) [u0,u1,some (ak acc),o3,o4]=some (.nx [u0,u1,some (ak (acc++bth T U)),p3,p4])
 | [],U,acc,o3,o4,_,_=>⟨o3,o4,by show _=some (Res.nx [u0,u1,some (ak (acc++[])),o3,o4]);rw [List.append_nil];rfl⟩
 | r :: T,[],acc,o3,o4,_,_=>⟨o3,o4,by show _=some (Res.nx [u0,u1,some (ak (acc++[])),o3,o4]);rw [List.append_nil];rfl⟩
 | r :: T,s :: U,acc,o3,o4,h,l=>by
  simp only [List.length_cons] at l
  have lr:=h r Zk
  have hb:((iw 2 (kG (wu (aa (ab 3) (aa (ab 4) af))) 2 [] (gDs [0,1]) (fun _=>some true) (vI (ah (fn cD) (aa (ab 0) (aa (ab 1) af))))))) [u0,u1,some (ak acc),some (.seq (aJ r)),some (.seq (aJ s))]=some (.nx [u0,u1,some (ak (acc++[List.zipWith tgo r s])),some (.seq (aJ r)),some (.seq (aJ s))]):=by
   have e:ak (acc++[List.zipWith tgo r s])=.lst (aZ acc++[.lst (aJ (List.zipWith tgo r s))]):=by unfold ak aZ;rw [List.map_append];rfl
   rw [e]
   refine jJ (ds:=aZ acc) rfl (wx (ds:=List.zipWith (fun d e=>D.tup [d,e]) (aJ r) (aJ s)) rfl (s8 r s fun a b=>Bf) ?_) ?_
   . unfold aJ
     rw [Zi,List.length_zipWith]
     omega
   . unfold aZ
     rw [Zi]
     omega
  obtain ⟨p3,p4,ih⟩:=so (u0:=u0) (u1:=u1) hn T U (acc++[List.zipWith tgo r s]) (some (.seq (aJ r))) (some (.seq (aJ s))) (fun x m=>h x (Zl _ m)) (by simp;omega)
  refine ⟨p3,p4,?_⟩
  rw [List.append_assoc] at ih
  have sr:sh (.tup [.seq (aJ r),.seq (aJ s)])=.tup [.seq (aJ r),.seq (aJ s)]:=by
   show D.tup [.seq (shs (aJ r)),.seq (shs (aJ s))]=_
   rw [jf (i6 r),jf (i6 s)]
  have g1:gTs [3,4] (.tup [.seq (aJ r),.seq (aJ s)]) [u0,u1,some (ak acc),o3,o4]=some [u0,u1,some (ak acc),some (.seq (aJ r)),some (.seq (aJ s))]:=by
   unfold gTs
   rw [sr]
   rfl
  have z:List.zipWith (fun d e=>D.tup [d,e]) (ci (r :: T)) (ci (s :: U))=.tup [.seq (aJ r),.seq (aJ s)] :: List.zipWith (fun d e=>D.tup [d,e]) (ci T) (ci U):=rfl
  rw [z]
  simp only [qN,g1,Zc,hb]
  exact ih
theorem qx (F:Fun K "together" "together" iq f fd)  (hclosed:HasF P w K mg base 6 "closed" ["table"] (fn nN)) (htighter_of:Has P w K mg base 2 "tighter_of" ["one","other"] (fn cD))  (m_zip:mg "zip" = none):FnOk P w K mg base CX0 7 f fd ["one","other"] (bV K 2 (fn dZ)):=by
 have sc:=lq
 refine bZ F lq (fun cdv A outer s H E ds d hr hG hl=>?_)
 obtain ⟨d0,d1,T,U,n,hT,hU,hs,gs,hn,hB,rfl,rfl⟩:=bo hG
 have hown:=gR n (bth T U)
 refine ⟨_,(au (aW 2 sc.nd (fq cb))
  (au (wX PassesOwn.never rfl (mS rfl (dJ (pgN 3 sc.nd) (dJ (pgN 4 sc.nd) kg))) (xz [3,4]) (wZ rfl m_zip (bG (bq 0) (bG (bq 1) cb)))
   (aF (kT 2 (jz PySem.F.plainAttrs_list PySem.F.slot_list_append PySem.F.type_list_append c5 (pvi 2) (cA (vb (by exact (w9 rfl m_zip (ae (ac 3) (ae (ac 4) ag)))) (T:=["left","right"]) (N:=["left","right"]) (js:=[]) (cl:=[]) (fun _ _ _ _ _=>by exact (xa [0,1] (mS rfl (dJ (pgN 0 (show List.Nodup (["left","right"]:List Str) from by decide +kernel)) (dJ (pgN 1 (show List.Nodup (["left","right"]:List Str) from by decide +kernel)) kg))))) (v7 [0,1] (by decide)) (fun _ _ _ _ _=>by exact w8) (fun _ _ _ _ _=>by exact (aN (aD htighter_of hr (ae (ac 0) (ae (ac 1) ag))))) (by exact CompG.of (T:=["left","right"]) (Z:=[]) (Y:=[]) (hcl:=(by intro p hp;cases hp)) (hN:=(by intro i y j h1 h2;cases h1)))) dW)))))
  (aF (bM (cK hclosed hr (ae (ac 2) ag)))))),?_,?own⟩
 case own=>first | rfl | exact hown
 . show aL ((?f:SD) (aS 5 _))=_
   have e0:aS 5 [d0,d1]=[some (aw T),some (aw U),none,none,none]:=by
    show [some (sh d0),some (sh d1),none,none,none]=_
    rw [show sh d0=aw T from hT,show sh d1=aw U from hU]
   rw [e0]
   obtain ⟨p3,p4,w⟩:=so (u0:=some (aw T)) (u1:=some (aw U)) hn T U [] none none hs.2 (by simp [hs.1];exact hn)
   exact dI (ap (δ':=[some (aw T),some (aw U),some (ak []),none,none]) rfl (ap (wC (δ':=[some (aw T),some (aw U),some (ak []),none,none]) rfl w) (cr (de (ds:=[ak (bth T U)]) rfl (wb (cU _) (pS hs gs) hn hB) hown))))
theorem uT:aG ["_law_script","?","_law_other_here","_law_both_here","_law_due","_law_kept","_law_table","_law_point","_law_word","_law_told","_law_kept_told","_law_one","_law_inside"] ["_law_script"] (am iX):=⟨rfl,rfl,rfl,by decide +kernel,rfl,by decide +kernel,by decide +kernel⟩
theorem zg (F:Fun K "law" "law" iX f fd)  (hLtable_by:HasF P w K mg base 3 "_law_table_by" ["_law_script"] (fn cv)) (hLother:HasF P w K mg base 2 "_law_other" ["_law_table","_law_script"] (fn gv)) (hLboth:HasF P w K mg base 2 "_law_both" ["_law_one","_law_other_here"] (fn gU)) (hLclosed:HasF P w K mg base 2 "_law_closed" ["_law_table"] (fn fL)) (htogether:HasF P w K mg base 7 "together" ["one","other"] (fn dZ)) (hLpoints:Has P w K mg base 3 "_law_points" ["_law_script","_law_point"] (fn cf)) (hLlies:HasF P w K mg base 2 "_law_lies" ["_law_table","_law_point"] (fn bj)) (hLis_ring:HasF P w K mg base 2 "_law_is_ring" ["_law_found","_law_table"] (fn dw)) (hLis_table:HasF P w K mg base 3 "_law_is_table" ["_law_found","_law_due"] (fn cZ))  (m_list:mg "list" = none):FnOk P w K mg base CX0 8 f fd ["_law_script"] (spLaw K):=by
 have sc:=uT
 refine xr F uT (fun cdv A outer s H E ns hr hl=>?_)
 refine ⟨_,(au (xW [6,7] (cK hLtable_by hr (ae (ac 0) ag)) (mS rfl (dJ (pgN 6 sc.nd) (dJ (pgN 7 sc.nd) kg))))
  (au (aW 2 sc.nd (cK hLother hr (ae (ac 6) (ae (ac 0) ag))))
  (au (aW 3 sc.nd (cK hLboth hr (ae (ac 6) (ae (ac 2) ag))))
  (au (aW 4 sc.nd (cK hLclosed hr (ae (ac 3) ag)))
  (au (aW 5 sc.nd (fq (bG (ka (by exact (eQ (ac 6))) (N:=["_law_row"]) (js:=[]) (cl:=[]) (fun _ _ _ _ _=>by exact (gw rfl m_list boot_list (ae (ac 0) ag))) (by exact CompOk.nil)) (bG (ka (by exact (eQ (ac 2))) (N:=["_law_row"]) (js:=[]) (cl:=[]) (fun _ _ _ _ _=>by exact (gw rfl m_list boot_list (ae (ac 0) ag))) (by exact CompOk.nil)) cb))))
  (au (wY [8,9] PassesOwn.never rfl (bG (cK htogether hr (ae (ac 6) (ae (ac 2) ag))) (bG (cK htogether hr (ae (ac 2) (ae (ac 6) ag))) cb)) (mS rfl (dJ (pgN 8 sc.nd) (dJ (pgN 9 sc.nd) kg))) (fun Z zk=>(fK (qt (PWD.pt (iy (dQ (ac 4) bJ) (gC (PWD.pt (g6 (kb hr.units (ac 8) kU) (gk (eO (ck (aD hLis_ring.has hr (ae (ac 9) (ae (ac 3) ag))))))))))) (g4 (pb (aN d5))) mO)
   (fK (qt (PWD.pt (iy (ig (ac 4) bJ) (gC (PWD.pt (g6 (kb hr.units (ac 8) kU) (gk (eO (ck (aD hLis_table.has hr (ae (ac 9) (ae (ac 4) ag))))))))))) (g4 (pb (aN d5))) mO)
   (fK (rE 10 zk sc.nd (va 9 rfl m_list boot_list))
   (fK (wP 9 (yU PySem.F.plainAttrs_list PySem.F.slot_list_reverse PySem.F.type_list_reverse rM (pvi 9)))
   (fK (yF 9 (jz PySem.F.plainAttrs_list PySem.F.slot_list_append PySem.F.type_list_append c5 (pvi 9) (cA (aN bJ) dW)))
   (fK (qt (PWD.pt (iy (ig (ac 4) bJ) (gC (kb hr.units (aD htogether.has hr (ae (ac 6) (ae (ac 2) ag))) (cS (ae kU (ae (ac 4) ag))))))) (g4 (pb (aN d5))) mO)
   (fK (rE 9 zk sc.nd (bq 10))
   (g4 (yE [11,12] zk (fun Z' zi=>sV 11 (zi 11 (by decide)) sc.nd PassesOwn.never rfl (w6 (aD hLpoints hr (ae (ac 0) (ae (ac 7) ag)))) (fK (sR 12 (zi 12 (by decide)) sc.nd (aN (eR (aD hLlies.has hr (ae (ac 6) (ae (ac 11) ag))) (dh (aD hLlies.has hr (ae (ac 2) (ae (ac 11) ag))))))) (g4 (qt (PWD.pt (g6 (PWD.pt (iy (ck (ac 12)) (gC (dQ (ac 4) bJ)))) (gk (PWD.pt (iy (ig (ac 4) bJ) (gC (kb hr.units (ac 12) (aD hLlies.has hr (ae (ac 9) (ae (ac 11) ag)))))))))) (g4 (pb (aN d5))) mO)))))))))))))) (show ¬ Vis (am iX) "?" by unfold Vis;decide +kernel))
  (aF (bM (aN (jR hr.units (jQ (ae (ac 6) (ae (ac 2) ag))) (ac 5))))))))))),?_⟩
 . show aL ((?f:SD) (aS 13 _))=_
   have e0:aS 13 [.seq (ns.map D.int)]=[some (.seq (ns.map D.int)),none,none,none,none,none,none,none,none,none,none,none,none]:=by
    show [some (sh (.seq (ns.map D.int))),none,none,none,none,none,none,none,none,none,none,none,none]=_
    rw [sh,eg]
   rw [e0]
   obtain ⟨T,ps,hs,hb,hl6,hpf,htb⟩:=lI ns
   have ho:own (.tup [ak T,.lst (ps.map fr)])=true:=by
    show (own (ak T) && (own (.lst (ps.map fr)) && true))=true
    rw [bR,own,mX]
    rfl
   obtain ⟨cs,hcs⟩:=uu ns (some (-12)) none
   have P:P6 ns cs ps:=⟨hcs,hl,by omega,hpf⟩
   have ok:=wR P
   have sS:sh (.seq (ns.map D.int))=.seq (ns.map D.int):=by rw [sh,eg]
   have sP:sh (.lst (ps.map fr))=.seq (ps.map fr):=tu ps
   have sP2:sh (.seq (ps.map fr))=.seq (ps.map fr):=mo ps
   have eo:=pO (ns:=ns) (cU T) hs (by omega)
   have ep:=n4 P (mo ps)
   obtain ⟨n,hn⟩:∃ n,n=ps.length+1:=⟨_,rfl⟩
   rw [<- hn] at hs eo
   obtain ⟨U,hU⟩:∃ U,U=oth ns T n:=⟨_,rfl⟩
   have gs:Sq U n:=by rw [hU];exact be _ _
   have gb:∀ i j,Bk 550 (ao U i j):=fun i j=>by rw [hU];exact yZ hb i j
   have hb5:∀ i j,Bk 550 (ao T i j):=fun i j=>(hb i j).mono (by decide)
   rw [<- hU] at eo
   have eb:=qR (cU T) (cU U) hs gs (by omega)
   obtain ⟨B,hB⟩:∃ B,B=bth T U:=⟨_,rfl⟩
   have sB:Sq B n:=by rw [hB];exact pS hs gs
   have bB:∀ i j,Bk 550 (ao B i j):=fun i j=>by rw [hB];exact zL hs gs hb5 gb i j
   have b2:∀ i j,Bk 2000 (ao (bth T U) i j):=fun i j=>by rw [<- hB];exact (bB i j).mono (by decide)
   have et:=nw (cU T) (cU U) hs gs (by omega) b2
   have et':=nw (cU U) (cU T) gs hs (by omega) (by rw [rc];exact b2)
   rw [rc U T] at et'
   rw [<- hB] at eb et et'
   have ec:=n5 (cU B) sB (by omega)
   have inB:∀ xs∈mQ cs ps,gH B xs=(gH T xs && gH U xs):=fun xs m=>by
    obtain ⟨l1,l2⟩:=ok xs m
    rw [hB]
    exact vO (by rw [l1,<- hn];exact hs) (by rw [l1,<- hn];exact gs) l2
   have fl:∀ (W:List (List Bn)),Sq W n->(∀ i j,Bk 4000 (ao W i j))->∀ xs∈mQ cs ps,fn bj [aw W,.seq (xs.map fr)]=some (.bl (gH W xs)):=fun W hq hB xs m=>by
    obtain ⟨l1,l2⟩:=ok xs m
    exact ur (pC W) (by rw [l1,<- hn];exact hq) (by omega) hB (mo xs) l2
   have fT':=fl T hs fun i j=>(hb i j).mono (by decide)
   have fU:=fl U gs fun i j=>(gb i j).mono (by decide)
   obtain ⟨S,hS⟩:∃ S,S=D.seq (ns.map D.int):=⟨_,rfl⟩
   rw [<- hS] at htb eo ep sS ⊢
   clear hcs P
   have st1:=xS (is:=[6,7]) (δ':=[some S,none,none,none,none,none,none,none,none,none,none,none,none]) (de (ds:=[S]) (g:=aa (ab 0) af) rfl htb ho) rfl rfl
   have st2:=cQ (i:=2) (de (δ:=[some S,none,none,none,none,none,some (ak T),some (.lst (ps.map fr)),none,none,none,none,none]) (ds:=[ak T,S]) (g:=aa (ab 6) (aa (ab 0) af)) rfl eo (bR U))
   have st3:=cQ (i:=3) (de (δ:=[some S,none,some (ak U),none,none,none,some (ak T),some (.lst (ps.map fr)),none,none,none,none,none]) (ds:=[ak T,ak U]) (g:=aa (ab 6) (aa (ab 2) af)) rfl eb (bR B))
   have st4:=cQ (i:=4) (de (δ:=[some S,none,some (ak U),some (ak B),none,none,some (ak T),some (.lst (ps.map fr)),none,none,none,none,none]) (ds:=[ak B]) (g:=aa (ab 3) af) rfl ec (qw n B))
   have st5:=cQ (i:=5) (f:=jH (cm (dG (fun δ=>((ab 6) δ).bind asL) [] (ee (aa (ab 0) af))) (cm (dG (fun δ=>((ab 2) δ).bind asL) [] (ee (aa (ab 0) af))) fZ))) (δ:=[some S,none,some (ak U),some (ak B),some (kq n B),none,some (ak T),some (.lst (ps.map fr)),none,none,none,none,none]) (d:=.lst [ak T,ak U]) (by
    have a1:=iR (js:=[]) (i:=6) (δ:=[some S,none,some (ak U),some (ak B),some (kq n B),none,some (ak T),some (.lst (ps.map fr)),none,none,none,none,none]) hs (by omega) rfl
    have a2:=iR (js:=[]) (i:=2) (δ:=[some S,none,some (ak U),some (ak B),some (kq n B),none,some (ak T),some (.lst (ps.map fr)),none,none,none,none,none]) gs (by omega) rfl
    unfold jH cm fZ
    rw [a1]
    dsimp only [Option.bind_some]
    rw [a2]
    rfl)
   have fin:∀ (cl due x9:D),cM n B=.tup [cl,x9]->own (.tup [cl,x9])=true->kq n B=due->(∀ (o1 o8 o9 o10 o11 o12:Option D),∃ q8 q9 q10 q11 q12,((ax (sIf (bt (fT (f2 fu (ab 4) (fC .non))) (dY (fT (f2 gq (ab 8) (fC (.str "ring")))) (cC (fT (ah (fn dw) (aa (ab 9) (aa (ab 3) af))))))) (cw (vI (fC (.bl false)))) ba) (ax (sIf (bt (fT (f2 cp (ab 4) (fC .non))) (dY (fT (f2 gq (ab 8) (fC (.str "table")))) (cC (fT (ah (fn cZ) (aa (ab 9) (aa (ab 4) af))))))) (cw (vI (fC (.bl false)))) ba) (ax (av 10 (kF 9)) (ax (on 9) (ax (iw 9 (vI (fC .non))) (ax (sIf (bt (fT (f2 cp (ab 4) (fC .non))) (fT (f2 gq (ah (fn dZ) (aa (ab 6) (aa (ab 2) af))) (bU (aa (fC (.str "table")) (aa (ab 4) af)))))) (cw (vI (fC (.bl false)))) ba) (ax (av 9 (bn 10)) (rz [11,12] (cn (jG (ah (fn cf) (aa (ab 0) (aa (ab 7) af)))) 11 (ax (av 12 (vI (cj (ah (fn bj) (aa (ab 6) (aa (ab 11) af))) (ah (fn bj) (aa (ab 2) (aa (ab 11) af)))))) (sIf (dY (bt (fT (ab 12)) (fT (f2 fu (ab 4) (fC .non)))) (bt (fT (f2 cp (ab 4) (fC .non))) (fT (f2 gq (ab 12) (ah (fn bj) (aa (ab 9) (aa (ab 11) af))))))) (cw (vI (fC (.bl false)))) ba)))))))))))) (gZ [8,9] [cl,x9] [some S,o1,some (ak U),some (ak B),some due,some (.lst [ak T,ak U]),some (ak T),some (.lst (ps.map fr)),o8,o9,o10,o11,o12])=some (.nx [some S,o1,some (ak U),some (ak B),some due,some (.lst [ak T,ak U]),some (ak T),some (.lst (ps.map fr)),q8,q9,q10,q11,q12]))->aL (((ax (oY [6,7] (cI (fn cv) (aa (ab 0) af))) (ax (av 2 (cI (fn gv) (aa (ab 6) (aa (ab 0) af)))) (ax (av 3 (cI (fn gU) (aa (ab 6) (aa (ab 2) af)))) (ax (av 4 (cI (fn fL) (aa (ab 3) af))) (ax (av 5 (jH (cm (dG (fun δ=>((ab 6) δ).bind asL) [] (ee (aa (ab 0) af))) (cm (dG (fun δ=>((ab 2) δ).bind asL) [] (ee (aa (ab 0) af))) fZ)))) (ax (qk [8,9] (cI (fn dZ) (aa (ab 6) (aa (ab 2) af))) (cI (fn dZ) (aa (ab 2) (aa (ab 6) af))) (ax (sIf (bt (fT (f2 fu (ab 4) (fC .non))) (dY (fT (f2 gq (ab 8) (fC (.str "ring")))) (cC (fT (ah (fn dw) (aa (ab 9) (aa (ab 3) af))))))) (cw (vI (fC (.bl false)))) ba) (ax (sIf (bt (fT (f2 cp (ab 4) (fC .non))) (dY (fT (f2 gq (ab 8) (fC (.str "table")))) (cC (fT (ah (fn cZ) (aa (ab 9) (aa (ab 4) af))))))) (cw (vI (fC (.bl false)))) ba) (ax (av 10 (kF 9)) (ax (on 9) (ax (iw 9 (vI (fC .non))) (ax (sIf (bt (fT (f2 cp (ab 4) (fC .non))) (fT (f2 gq (ah (fn dZ) (aa (ab 6) (aa (ab 2) af))) (bU (aa (fC (.str "table")) (aa (ab 4) af)))))) (cw (vI (fC (.bl false)))) ba) (ax (av 9 (bn 10)) (rz [11,12] (cn (jG (ah (fn cf) (aa (ab 0) (aa (ab 7) af)))) 11 (ax (av 12 (vI (cj (ah (fn bj) (aa (ab 6) (aa (ab 11) af))) (ah (fn bj) (aa (ab 2) (aa (ab 11) af)))))) (sIf (dY (bt (fT (ab 12)) (fT (f2 fu (ab 4) (fC .non)))) (bt (fT (f2 cp (ab 4) (fC .non))) (fT (f2 gq (ab 12) (ah (fn bj) (aa (ab 9) (aa (ab 11) af))))))) (cw (vI (fC (.bl false)))) ba)))))))))))) (cw (vI (f2 ce (fP (aa (ab 6) (aa (ab 2) af))) (ab 5))))))))))) [some S,none,none,none,none,none,none,none,none,none,none,none,none])=some (.bl true):=fun cl due x9 h1 h2 h3 turn=>by
    rw [h1] at et et'
    rw [h3] at st4 st5
    obtain ⟨a8,a9,a10,a11,a12,t1⟩:=turn (some (.tup [cl,x9])) none none none none none
    obtain ⟨b8,b9,b10,b11,b12,t2⟩:=turn none a8 a9 a10 a11 a12
    have v1:=de (δ:=[some S,none,some (ak U),some (ak B),some due,some (.lst [ak T,ak U]),some (ak T),some (.lst (ps.map fr)),none,none,none,none,none]) (ds:=[ak T,ak U]) (g:=aa (ab 6) (aa (ab 2) af)) rfl et h2
    have v2:=de (δ:=[some S,none,some (ak U),some (ak B),some due,some (.lst [ak T,ak U]),some (ak T),some (.lst (ps.map fr)),none,none,none,none,none]) (ds:=[ak U,ak T]) (g:=aa (ab 2) (aa (ab 6) af)) rfl et' h2
    have st6:=wD (is:=[8,9]) v1 v2 rfl rfl rfl (show 1 < 13 by decide) t1 rfl rfl t2
    refine dI (ap st1 (ap st2 (ap st3 (ap st4 (ap st5 (ap st6 (cr (bw (d:=.bl true) ?_))))))))
    have ek:=xG T U
    simp only [ab,f2,af,aa,fP,Zc,Zd,Ze,ek]
   have wk:∀ (o1 o5 o11 o12:Option D) (due cl x9:D),jG (ah (fn cf) (aa (ab 0) (aa (ab 7) af))) [some S,o1,some (aw U),some (aw B),some due,o5,some (aw T),some (.seq (ps.map fr)),some cl,some x9,none,o11,o12]=some ((mQ cs ps).map fun xs=>.seq (xs.map fr),[some S,o1.map sh,some (aw U),some (aw B),some (sh due),o5.map sh,some (aw T),some (.seq (ps.map fr)),some (sh cl),some (sh x9),none,o11.map sh,o12.map sh]):=fun o1 o5 o11 o12 due cl x9=>by
    unfold jG
    have z:ah (fn cf) (aa (ab 0) (aa (ab 7) af)) [some S,o1,some (aw U),some (aw B),some due,o5,some (aw T),some (.seq (ps.map fr)),some cl,some x9,none,o11,o12]=some (.lst (eN cs ps)):=by
     simp only [ab,af,aa,ah,Zc,Zd,Ze,ep]
    rw [z]
    dsimp only [Option.bind_some]
    rw [wI]
    dsimp only
    show some (_,[some (sh S),o1.map sh,some (sh (aw U)),some (sh (aw B)),some (sh due),o5.map sh,some (sh (aw T)),some (sh (.seq (ps.map fr))),some (sh cl),some (sh x9),none,o11.map sh,o12.map sh])=_
    rw [sS,jh,jh,jh,sP2]
   have lp:∀ (due cl x9:D),sh due=due->sh cl=cl->sh x9=x9->(∀ xs∈mQ cs ps,∀ (o1 o5 o10:Option D),(dY (bt (fT (ab 12)) (fT (f2 fu (ab 4) (fC .non)))) (bt (fT (f2 cp (ab 4) (fC .non))) (fT (f2 gq (ab 12) (ah (fn bj) (aa (ab 9) (aa (ab 11) af))))))) [some S,o1,some (aw U),some (aw B),some due,o5,some (aw T),some (.seq (ps.map fr)),some cl,some x9,o10,some (.seq (xs.map fr)),some (.bl (gH B xs))]=some false)->∀ (o1 o5 o11 o12:Option D) (due0 x0:D),sh due0=due->sh x0=x9->rz [11,12] (cn (jG (ah (fn cf) (aa (ab 0) (aa (ab 7) af)))) 11 ((ax (av 12 (vI (cj (ah (fn bj) (aa (ab 6) (aa (ab 11) af))) (ah (fn bj) (aa (ab 2) (aa (ab 11) af)))))) (sIf (dY (bt (fT (ab 12)) (fT (f2 fu (ab 4) (fC .non)))) (bt (fT (f2 cp (ab 4) (fC .non))) (fT (f2 gq (ab 12) (ah (fn bj) (aa (ab 9) (aa (ab 11) af))))))) (cw (vI (fC (.bl false)))) ba)))) [some S,o1,some (ak U),some (ak B),some due0,o5,some (ak T),some (.lst (ps.map fr)),some cl,some x0,none,o11,o12]=some (.nx [some S,o1,some (ak U),some (ak B),some due0,o5,some (ak T),some (.lst (ps.map fr)),some cl,some x0,none,none,none]):=fun due cl x9 h1 h2 h3 hc o1 o5 o11 o12 due0 x0 h4 h5=>by
    have mp:([some S,o1,some (ak U),some (ak B),some due0,o5,some (ak T),some (.lst (ps.map fr)),some cl,some x0,none,o11,o12]:DS).map (Option.map sh)=[some S,o1.map sh,some (aw U),some (aw B),some due,o5.map sh,some (aw T),some (.seq (ps.map fr)),some cl,some x9,none,o11.map sh,o12.map sh]:=by
     show [some (sh S),o1.map sh,some (sh (ak U)),some (sh (ak B)),some (sh due0),o5.map sh,some (sh (ak T)),some (sh (.lst (ps.map fr))),some (sh cl),some (sh x0),none,o11.map sh,o12.map sh]=_
     rw [sS,io,io,io,sP,h2,h4,h5]
    have w0:=wk (o1.map sh) (o5.map sh) (o11.map sh) (o12.map sh) due cl x9
    rw [h1,h2,h3] at w0
    obtain ⟨_,w,_,_,rfl⟩:=oD (i:=11) (s:=((ax (av 12 (vI (cj (ah (fn bj) (aa (ab 6) (aa (ab 11) af))) (ah (fn bj) (aa (ab 2) (aa (ab 11) af)))))) (sIf (dY (bt (fT (ab 12)) (fT (f2 fu (ab 4) (fC .non)))) (bt (fT (f2 cp (ab 4) (fC .non))) (fT (f2 gq (ab 12) (ah (fn bj) (aa (ab 9) (aa (ab 11) af))))))) (cw (vI (fC (.bl false)))) ba)))) (fun δ=>∃ o11 o12,δ=[some S,(o1.map sh).map sh,some (aw U),some (aw B),some due,(o5.map sh).map sh,some (aw T),some (.seq (ps.map fr)),some cl,some x9,none,o11,o12]) ((mQ cs ps).map fun xs=>.seq (xs.map fr)) [some S,(o1.map sh).map sh,some (aw U),some (aw B),some due,(o5.map sh).map sh,some (aw T),some (.seq (ps.map fr)),some cl,some x9,none,(o11.map sh).map sh,(o12.map sh).map sh] ⟨_,_,rfl⟩ (by
     rintro d hd _ ⟨o11,o12,rfl⟩
     obtain ⟨xs,mx,rfl⟩:=List.mem_map.mp hd
     have e3:sh (.seq (xs.map fr))=.seq (xs.map fr):=mo xs
     rw [e3]
     have a:=fT' xs mx
     have b:=fU xs mx
     refine ⟨[some S,(o1.map sh).map sh,some (aw U),some (aw B),some due,(o5.map sh).map sh,some (aw T),some (.seq (ps.map fr)),some cl,some x9,none,some (.seq (xs.map fr)),some (.bl (gH B xs))],ap (cQ (bw (d:=.bl (gH B xs)) ?_)) (bA (hc xs mx _ _ _) rfl),_,_,rfl⟩
     rw [inB xs mx]
     exact qP (by simp only [ab,af,aa,ah,Zc,Zd,Ze,Zf,Zg,a]) (by simp only [ab,af,aa,ah,Zc,Zd,Ze,Zf,Zg,b]))
    refine yt (δ:=[some S,o1,some (ak U),some (ak B),some due0,o5,some (ak T),some (.lst (ps.map fr)),some cl,some x0,none,o11,o12]) (mp ▸ bD w0 w)
   rcases pR (T:=B) (n:=n) (by omega) with ⟨r,e1,hlr,nd,lt,bad,e2⟩ | ⟨W0,_,e1,e2⟩
   . rcases nH B n with ⟨_,_,no⟩ | ⟨W,cW⟩
     . have er:=nC (d0:=.lst (aP r)) (d1:=ak B) (by rw [sh,hW]) (cU B) sB (by omega) hlr nd lt bad
       have none':∀ xs∈mQ cs ps,gH B xs=false:=fun xs m=>by
        obtain ⟨l1,l2⟩:=ok xs m
        cases z:gH B xs with
        | false=>rfl
        | true =>
         have:=(jo (by decide) l2).mp z
         rw [l1,<- hn] at this
         exact absurd this (no _)
       have rl:r.length<=7:=Nat.le_trans (gx n r nd lt) (by omega)
       refine fin (.str "ring") .non (.lst (aP r)) e1 ?ow e2 fun o1 o8 o9 o10 o11 o12=>⟨some (.str "ring"),some (.lst (aP r)),none,none,none,?_⟩
       case ow=>rw [<- e1];exact gR n B
       have q1:fu .non .non=some (.bl true):=rfl
       have q2:cp .non .non=some (.bl false):=rfl
       have q3:=tF "ring"
       refine ap (bA (by simp only [gZ,ab,fC,f2,fT,asB,cC,bt,dY,af,aa,ah,Zc,Option.map_some,Zd,Ze,Zf,Zg,Bool.not_true,fu,cY,q3,er]) rfl) (ap (bA (by simp only [gZ,ab,fC,f2,fT,asB,cC,bt,dY,af,aa,ah,Zc,Zd,Ze,Zf,Zg,q2]) rfl) (ap (aV (sj (ds:=aP r) rfl)) ?_))
       rw [hW]
       refine ap (sA (ds:=aP r) rfl (uQ r)) (ap (jJ (ds:=(aP r).reverse) (d:=.non) rfl rfl (by rw [List.length_reverse];unfold aP;rw [Zi];omega)) (ap (bA (by simp only [gZ,ab,fC,f2,fT,asB,bt,af,aa,bU,ah,Zc,Zd,Ze,Zf,Zg,q2]) rfl) (ap (aV (dS (ds:=aP r) rfl)) ?_)))
       exact lp .non (.str "ring") (.seq (aP r)) rfl rfl (by rw [sh,hW]) (fun xs mx o1 o5 o10=>by simp only [ab,fC,f2,fT,asB,bt,dY,af,aa,ah,Zc,Zd,Ze,fu,cY,none' xs mx,q2]) o1 (some (.lst [ak T,ak U])) o11 o12 .non (.lst (aP r)) rfl (by rw [sh,hW])
     . have c1:=cW.cl
       rw [e1] at c1
       injection c1 with c1
       injection c1 with c1 _
       injection c1 with c1
       exact absurd c1 (by decide)
   . rcases nH B n with ⟨r,c1,_⟩ | ⟨W,cW⟩
     . rw [c1] at e1
       injection e1 with e1
       injection e1 with e1 _
       injection e1 with e1
       exact absurd e1 (by decide)
     . have eW:W0=W:=by
        have c1:=cW.cl
        rw [e1] at c1
        injection c1 with c1
        injection c1 with _ c1
        injection c1 with c1 _
        have h1:IsT (ak W0) W:=by rw [c1];exact cU W
        exact (cU W0).inj h1
       rw [eW] at e1 e2
       have bW:∀ i j,Bk 600 (ao W i j):=cW.bk600 (by omega) bB
       have fW:=fl W cW.sq fun i j=>(bW i j).mono (by decide)
       have same:∀ xs∈mQ cs ps,gH W xs=gH B xs:=fun xs m=>by
        obtain ⟨l1,l2⟩:=ok xs m
        have a:=jo (T:=W) (by decide) l2
        have b:=jo (T:=B) (by decide) l2
        rw [l1,<- hn] at a b
        rw [Bool.eq_iff_iff,a,b]
        exact (cW.li _).symm
       have ei:=lT (cU W) (cU W) cW.sq (by omega)
       refine fin (.str "table") (ak W) (ak W) e1 ?ow e2 fun o1 o8 o9 o10 o11 o12=>⟨some (.str "table"),some (.lst (ci W)),none,none,none,?_⟩
       case ow=>rw [<- e1];exact gR n B
       have q2:cp (ak W) .non=some (.bl true):=rfl
       have q2':cp (aw W) .non=some (.bl true):=rfl
       have q3:=tF "table"
       rw [e1] at et
       refine ap (bA (by simp only [gZ,ab,fC,f2,fT,asB,cC,bt,dY,af,aa,ah,Zc,Zd,Ze,Zf,Zg,fu,cY];rfl) rfl) (ap (bA (by simp only [gZ,ab,fC,f2,fT,asB,cC,bt,dY,af,aa,ah,Zc,Option.map_some,Zd,Ze,Zf,Zg,Bool.not_true,q2,q3,ei]) rfl) (ap (aV (sj (ds:=aZ W) rfl)) ?_))
       rw [kN]
       refine ap (sA (ds:=ci W) rfl (t7 W)) (ap (jJ (ds:=(ci W).reverse) (d:=.non) rfl rfl (by rw [List.length_reverse];unfold ci;rw [Zi,cW.sq.1];omega)) (ap (bA (by simp only [gZ,ab,fC,f2,fT,asB,bt,af,aa,bU,ah,Zc,Zd,Ze,Zf,Zg,q2,et,xm]) rfl) (ap (aV (dS (ds:=ci W) rfl)) ?_)))
       exact lp (aw W) (.str "table") (aw W) (jh W) rfl (jh W) (fun xs mx o1 o5 o10=>by
        have a:=fW xs mx
        rw [same xs mx] at a
        cases z:gH B xs with
        | true=>rw [z] at a;simp only [ab,fC,f2,fT,asB,bt,dY,af,aa,ah,Zc,Zd,Ze,fu,cY,q2',a,x6];rfl
        | false=>rw [z] at a;simp only [ab,fC,f2,fT,asB,bt,dY,af,aa,ah,Zc,Zd,Ze,fu,cY,q2',a,x6]) o1 (some (.lst [ak T,ak U])) o11 o12 (ak W) (.lst (ci W)) (io W) (by unfold aw;rw [sh,kM])
end
theorem zO {l:PySem.W.OpenLaw} {w:World} {K:PySem.W.Frag} {h:Heap} {mg:Str->Option Value} {fa:Addr} (X:K.In h) (G:h.Ns mainGlobals mg) (hfa:mg "law" = some (.ref fa)) {f0 f1 f3 f4 f5 f6 f7 f8 f9 f10 f11 f12 f13 f14 f15 f16 f17 f18 f19 f20 f21 f22 f23 f24 f25 f26 f27 f28 f29 f30 f31 f32 f33 f34 f35:Addr} {f2:Addr} {od2 an2:Option Addr} {sl2:Array (Option Value)} {oc2 kV2 dc2 pm2 cd2 ct2:Value} {f36:Addr} {od36 an36:Option Addr} {sl36:Array (Option Value)} {oc36 kV36 dc36 pm36 cd36 ct36:Value} {T2 nT2:Nat} {oT2:Value} {dT2:Option Addr} {sT2:Array (Option Value)} {tk2:Tok} 
 (a0:FK K "is_whole" ir f0) (a1:FK K "common_divisor" dy f1) (a3:FK K "lowest" j6 f3) (a4:FK K "less" oX f4) (a5:FK K "keeps" l4 f5) (a6:FK K "tighter" jk f6) (a7:FK K "bound_sum" gL f7) (a8:FK K "tighter_of" gf f8) (a9:FK K "copied" j7 f9) (a10:FK K "closed" j8 f10) (a11:FK K "with_noughts" eD f11) (a12:FK K "straight_ways" dM f12) (a13:FK K "ring_through" eE f13) (a14:FK K "lead_through" eF f14) (a15:FK K "together" iq f15) (a16:FK K "_law_cell_at" eL f16) (a17:FK K "_law_mixed" gi f17) (a18:FK K "_law_lowest" fI f18) (a19:FK K "_law_less" gO f19) (a20:FK K "_law_any_table" dz f20) (a21:FK K "_law_part" gM f21) (a22:FK K "_law_planted" eJ f22) (a23:FK K "_law_table_by" dN f23) (a24:FK K "_law_whole" gg f24) (a25:FK K "_law_sum" iu f25) (a26:FK K "_law_tighter" eI f26) (a27:FK K "_law_closed" fJ f27) (a28:FK K "_law_keeps" gj f28) (a29:FK K "_law_lies" gN f29) (a30:FK K "_law_is_ring" eK f30) (a31:FK K "_law_other" gh f31) (a32:FK K "_law_is_bound" dP f32) (a33:FK K "_law_is_table" dO f33) (a34:FK K "_law_both" gP f34) (a35:FK K "_law_points" fH f35)
 (a2:PySem.W.nsIn K mainGlobals "fraction" = some (some (.ref f2))) (l2:K.lookup f2=some ⟨oc2,od2,.func (PySem.W.fnOf "fraction" "fraction" (cV dU) (bK dU) (am dU) (.ref T2) kV2 dc2 pm2 an2 cd2 ct2),sl2⟩) (t2:K.lookup T2=some ⟨oT2,dT2,.seq #[.int 1 tk2] nT2,sT2⟩) (c2:PySem.W.codeIn K cd2 "fraction" = true) (k2:PySem.W.keepIn K (.ref f2)=true)
 (a36:PySem.W.nsIn K mainGlobals "law" = some (some (.ref f36))) (l36:K.lookup f36=some ⟨oc36,od36,.func (PySem.W.fnOf "law" "law" (cV iX) (bK iX) (am iX) .none kV36 dc36 pm36 an36 cd36 ct36),sl36⟩) (c36:PySem.W.codeIn K cd36 "law" = true) (k36:PySem.W.keepIn K (.ref f36)=true)
 (z_isinstance:PySem.W.nsIn K mainGlobals "isinstance" = some none) (z_int:PySem.W.nsIn K mainGlobals "int" = some none) (z_bool:PySem.W.nsIn K mainGlobals "bool" = some none) (z_list:PySem.W.nsIn K mainGlobals "list" = some none) (z_range:PySem.W.nsIn K mainGlobals "range" = some none) (z_len:PySem.W.nsIn K mainGlobals "len" = some none) (z_zip:PySem.W.nsIn K mainGlobals "zip" = some none) (z_abs:PySem.W.nsIn K mainGlobals "abs" = some none) (z_any:PySem.W.nsIn K mainGlobals "any" = some none) (z_all:PySem.W.nsIn K mainGlobals "all" = some none) (z_set:PySem.W.nsIn K mainGlobals "set" = some none) (z_tuple:PySem.W.nsIn K mainGlobals "tuple" = some none) :
 ∃ fd:FuncData,(∀ (s:Shared) (v:Value),BindsTo s fd ⟨[v],[]⟩ [("_law_script",v)])/\∀ base:Heap,K.In base->base.Ns mainGlobals mg->FnOk l.prog w K mg base CX0 8 fa fd ["_law_script"] (spLaw K):=by
 have e:=hfa.symm.trans (PySem.W.mg_of X G a36)
 cases e
 have m_isinstance:=PySem.W.mg_none_of X G z_isinstance
 have m_int:=PySem.W.mg_none_of X G z_int
 have m_bool:=PySem.W.mg_none_of X G z_bool
 have m_list:=PySem.W.mg_none_of X G z_list
 have m_range:=PySem.W.mg_none_of X G z_range
 have m_len:=PySem.W.mg_none_of X G z_len
 have m_zip:=PySem.W.mg_none_of X G z_zip
 have m_abs:=PySem.W.mg_none_of X G z_abs
 have m_any:=PySem.W.mg_none_of X G z_any
 have m_all:=PySem.W.mg_none_of X G z_all
 have m_set:=PySem.W.mg_none_of X G z_set
 have m_tuple:=PySem.W.mg_none_of X G z_tuple
 obtain ⟨_,F0,b0⟩:=a0.get (ps:=["thing"]) fun _ _ _ _ _ _ us hl=>match us,hl with | [_],_=>rfl
 obtain ⟨_,F1,b1⟩:=a1.get (ps:=["number","above_nought"]) fun _ _ _ _ _ _ us hl=>match us,hl with | [_,_],_=>rfl
 have F2:=xD (st:=dU) l2 c2 k2
 have b2:=F2.binds (ps:=["top","bottom"]) (ds:=[]) t2 rfl fun _ _ _ _ _ _ us hl=>match us,hl with | [_,_],_=>⟨_,rfl,rfl⟩
 have e2:=F2.binds (ps:=["top","bottom"]) (ds:=[.int 1 tk2]) t2 rfl fun _ _ _ _ _ _ us hl=>by
  have h1:us.length=1:=by simpa using hl
  match us,h1 with
  | [_],_=>exact ⟨_,rfl,rfl⟩
 obtain ⟨_,F3,b3⟩:=a3.get (ps:=["top","bottom"]) fun _ _ _ _ _ _ us hl=>match us,hl with | [_,_],_=>rfl
 obtain ⟨_,F4,b4⟩:=a4.get (ps:=["one","other"]) fun _ _ _ _ _ _ us hl=>match us,hl with | [_,_],_=>rfl
 obtain ⟨_,F5,b5⟩:=a5.get (ps:=["part","bound"]) fun _ _ _ _ _ _ us hl=>match us,hl with | [_,_],_=>rfl
 obtain ⟨_,F6,b6⟩:=a6.get (ps:=["one","other"]) fun _ _ _ _ _ _ us hl=>match us,hl with | [_,_],_=>rfl
 obtain ⟨_,F7,b7⟩:=a7.get (ps:=["one","other"]) fun _ _ _ _ _ _ us hl=>match us,hl with | [_,_],_=>rfl
 obtain ⟨_,F8,b8⟩:=a8.get (ps:=["one","other"]) fun _ _ _ _ _ _ us hl=>match us,hl with | [_,_],_=>rfl
 obtain ⟨_,F9,b9⟩:=a9.get (ps:=["table"]) fun _ _ _ _ _ _ us hl=>match us,hl with | [_],_=>rfl
 obtain ⟨_,F10,b10⟩:=a10.get (ps:=["table"]) fun _ _ _ _ _ _ us hl=>match us,hl with | [_],_=>rfl
 obtain ⟨_,F11,b11⟩:=a11.get (ps:=["table"]) fun _ _ _ _ _ _ us hl=>match us,hl with | [_],_=>rfl
 obtain ⟨_,F12,b12⟩:=a12.get (ps:=["size"]) fun _ _ _ _ _ _ us hl=>match us,hl with | [_],_=>rfl
 obtain ⟨_,F13,b13⟩:=a13.get (ps:=["bounds","ways","middle"]) fun _ _ _ _ _ _ us hl=>match us,hl with | [_,_,_],_=>rfl
 obtain ⟨_,F14,b14⟩:=a14.get (ps:=["bounds","ways","middle"]) fun _ _ _ _ _ _ us hl=>match us,hl with | [_,_,_],_=>rfl
 obtain ⟨_,F15,b15⟩:=a15.get (ps:=["one","other"]) fun _ _ _ _ _ _ us hl=>match us,hl with | [_,_],_=>rfl
 obtain ⟨_,F16,b16⟩:=a16.get (ps:=["_law_script","_law_k"]) fun _ _ _ _ _ _ us hl=>match us,hl with | [_,_],_=>rfl
 obtain ⟨_,F17,b17⟩:=a17.get (ps:=["_law_cell","_law_k"]) fun _ _ _ _ _ _ us hl=>match us,hl with | [_,_],_=>rfl
 obtain ⟨_,F18,b18⟩:=a18.get (ps:=["_law_top","_law_bottom"]) fun _ _ _ _ _ _ us hl=>match us,hl with | [_,_],_=>rfl
 obtain ⟨_,F19,b19⟩:=a19.get (ps:=["_law_one","_law_other_here"]) fun _ _ _ _ _ _ us hl=>match us,hl with | [_,_],_=>rfl
 obtain ⟨_,F20,b20⟩:=a20.get (ps:=["_law_seed","_law_k","_law_most"]) fun _ _ _ _ _ _ us hl=>match us,hl with | [_,_,_],_=>rfl
 obtain ⟨_,F21,b21⟩:=a21.get (ps:=["_law_cell"]) fun _ _ _ _ _ _ us hl=>match us,hl with | [_],_=>rfl
 obtain ⟨_,F22,b22⟩:=a22.get (ps:=["_law_script","_law_point"]) fun _ _ _ _ _ _ us hl=>match us,hl with | [_,_],_=>rfl
 obtain ⟨_,F23,b23⟩:=a23.get (ps:=["_law_script"]) fun _ _ _ _ _ _ us hl=>match us,hl with | [_],_=>rfl
 obtain ⟨_,F24,b24⟩:=a24.get (ps:=["_law_found"]) fun _ _ _ _ _ _ us hl=>match us,hl with | [_],_=>rfl
 obtain ⟨_,F25,b25⟩:=a25.get (ps:=["_law_one","_law_other_here"]) fun _ _ _ _ _ _ us hl=>match us,hl with | [_,_],_=>rfl
 obtain ⟨_,F26,b26⟩:=a26.get (ps:=["_law_one","_law_other_here"]) fun _ _ _ _ _ _ us hl=>match us,hl with | [_,_],_=>rfl
 obtain ⟨_,F27,b27⟩:=a27.get (ps:=["_law_table"]) fun _ _ _ _ _ _ us hl=>match us,hl with | [_],_=>rfl
 obtain ⟨_,F28,b28⟩:=a28.get (ps:=["_law_part_here","_law_bound"]) fun _ _ _ _ _ _ us hl=>match us,hl with | [_,_],_=>rfl
 obtain ⟨_,F29,b29⟩:=a29.get (ps:=["_law_table","_law_point"]) fun _ _ _ _ _ _ us hl=>match us,hl with | [_,_],_=>rfl
 obtain ⟨_,F30,b30⟩:=a30.get (ps:=["_law_found","_law_table"]) fun _ _ _ _ _ _ us hl=>match us,hl with | [_,_],_=>rfl
 obtain ⟨_,F31,b31⟩:=a31.get (ps:=["_law_table","_law_script"]) fun _ _ _ _ _ _ us hl=>match us,hl with | [_,_],_=>rfl
 obtain ⟨_,F32,b32⟩:=a32.get (ps:=["_law_found"]) fun _ _ _ _ _ _ us hl=>match us,hl with | [_],_=>rfl
 obtain ⟨_,F33,b33⟩:=a33.get (ps:=["_law_found","_law_due"]) fun _ _ _ _ _ _ us hl=>match us,hl with | [_,_],_=>rfl
 obtain ⟨_,F34,b34⟩:=a34.get (ps:=["_law_one","_law_other_here"]) fun _ _ _ _ _ _ us hl=>match us,hl with | [_,_],_=>rfl
 obtain ⟨_,F35,b35⟩:=a35.get (ps:=["_law_script","_law_point"]) fun _ _ _ _ _ _ us hl=>match us,hl with | [_,_],_=>rfl
 have F36:=vZ (st:=iX) l36 c36 k36
 refine ⟨PySem.W.fnOf "law" "law" (cV iX) (bK iX) (am iX) .none kV36 dc36 pm36 an36 cd36 ct36,fun s v=>.of_eq rfl,fun base _ _=>?_⟩
 have his_whole:=mkP l.prog w base X G a0 (qy F0   m_isinstance m_int m_bool) b0
 have hcommon_divisor:=mkP l.prog w base X G a1 (kl F1   ) b1
 have hless:=mkP l.prog w base X G a4 (xk F4   ) b4
 have htighter:=mkP l.prog w base X G a6 (rK F6   ) b6
 have hbound_sum:=mkP l.prog w base X G a7 (pj F7   ) b7
 have hcopied:=mkF l.prog w base X G a9 (uh F9   m_list) b9
 have hstraight_ways:=mkF l.prog w base X G a12 (kY F12   m_range) b12
 have hLcell_at:=mkP l.prog w base X G a16 (lP F16   m_len) b16
 have hLmixed:=mkF l.prog w base X G a17 (nW F17   ) b17
 have hLlowest:=mkP l.prog w base X G a18 (m5 F18   m_abs) b18
 have hLless:=mkP l.prog w base X G a19 (pq F19   ) b19
 have hLwhole:=mkP l.prog w base X G a24 (nU F24   m_isinstance m_int m_bool) b24
 have hLsum:=mkP l.prog w base X G a25 (qA F25   ) b25
 have hLtighter:=mkP l.prog w base X G a26 (lM F26   ) b26
 have hLkeeps:=mkP l.prog w base X G a28 (nX F28   ) b28
 have hlowest:=mkP l.prog w base X G a3 (ug F3 hcommon_divisor  ) b3
 have htighter_of:=mkP l.prog w base X G a8 (nS F8 htighter  ) b8
 have hwith_noughts:=mkF l.prog w base X G a11 (lJ F11 hcopied  m_range m_len) b11
 have hlead_through:=mkM l.prog w base X G a14 (lL F14 hbound_sum htighter  m_range m_len) b14
 have hLany_table:=mkF l.prog w base X G a20 (km F20 hLmixed  m_range) b20
 have hLpart:=mkP l.prog w base X G a21 (po F21 hLlowest  ) b21
 have hLplanted:=mkF l.prog w base X G a22 (lN F22 hLless hLmixed hLcell_at  m_range m_len) b22
 have hLclosed:=mkF l.prog w base X G a27 (m6 F27 hLtighter hLsum  m_range m_any m_list m_len) b27
 have hLlies:=mkF l.prog w base X G a29 (pp F29 hLkeeps hLless  m_range m_len) b29
 have hLis_ring:=mkF l.prog w base X G a30 (lO F30 hLsum hLwhole  m_range m_all m_len m_isinstance m_list m_set) b30
 have hLother:=mkF l.prog w base X G a31 (nV F31 hLmixed hLcell_at  m_range m_len) b31
 have hLis_bound:=mkP l.prog w base X G a32 (k7 F32 hLwhole  m_isinstance m_tuple m_bool) b32
 have hLboth:=mkF l.prog w base X G a34 (pr F34 hLtighter  m_range m_list m_len) b34
 have hfraction:Has l.prog w K mg base 3 "fraction" ["top","bottom"] (fn cH):=⟨⟨_,_,lA F2 hlowest his_whole  ,PySem.W.mg_of X G a2,k2,b2⟩⟩
 have hfractionD:wn l.prog w K mg base 3 "fraction" ["top","bottom"] [1] (fn cH):=⟨⟨_,_,_,lA F2 hlowest his_whole  ,PySem.W.mg_of X G a2,k2,.cons ⟨_,rfl⟩ .nil,e2⟩⟩
 have hLtable_by:=mkF l.prog w base X G a23 (k5 F23 hLcell_at hLplanted hLpart hLany_table  m_int m_range) b23
 have hLis_table:=mkF l.prog w base X G a33 (k6 F33 hLis_bound  m_all m_isinstance m_list) b33
 have hLpoints:=mkP l.prog w base X G a35 (m4 F35 hLpart hLmixed  m_range m_len) b35
 have hkeeps:=mkP l.prog w base X G a5 (vL F5 hfractionD hless  ) b5
 have hring_through:=mkF l.prog w base X G a13 (lK F13 hbound_sum hkeeps hfractionD  m_range m_len) b13
 have hclosed:=mkF l.prog w base X G a10 (ui F10 hwith_noughts hstraight_ways hring_through hlead_through hkeeps hfractionD  m_range m_len) b10
 have htogether:=mkF l.prog w base X G a15 (qx F15 hclosed htighter_of  m_zip) b15
 exact zg F36 hLtable_by hLother hLboth hLclosed htogether hLpoints hLlies hLis_ring hLis_table  m_list
theorem facts {l:PySem.W.OpenLaw} {w:World} {K:PySem.W.Frag} {h:Heap} {mg:Str->Option Value} {fa:Addr} (e:FF K=FE) (X:K.In h) (G:h.Ns mainGlobals mg) (hfa:mg "law" = some (.ref fa)) :
 ∃ fd:FuncData,(∀ (s:Shared) (v:Value),BindsTo s fd ⟨[v],[]⟩ [("_law_script",v)])/\∀ base:Heap,K.In base->base.Ns mainGlobals mg->FnOk l.prog w K mg base CX0 8 fa fd ["_law_script"] (spLaw K):=by
 obtain ⟨e0,e⟩:=Prod.mk.inj e
 obtain ⟨e1,e⟩:=Prod.mk.inj e
 obtain ⟨e2,e⟩:=Prod.mk.inj e
 obtain ⟨t2,e⟩:=Prod.mk.inj e
 obtain ⟨e3,e⟩:=Prod.mk.inj e
 obtain ⟨e4,e⟩:=Prod.mk.inj e
 obtain ⟨e5,e⟩:=Prod.mk.inj e
 obtain ⟨e6,e⟩:=Prod.mk.inj e
 obtain ⟨e7,e⟩:=Prod.mk.inj e
 obtain ⟨e8,e⟩:=Prod.mk.inj e
 obtain ⟨e9,e⟩:=Prod.mk.inj e
 obtain ⟨e10,e⟩:=Prod.mk.inj e
 obtain ⟨e11,e⟩:=Prod.mk.inj e
 obtain ⟨e12,e⟩:=Prod.mk.inj e
 obtain ⟨e13,e⟩:=Prod.mk.inj e
 obtain ⟨e14,e⟩:=Prod.mk.inj e
 obtain ⟨e15,e⟩:=Prod.mk.inj e
 obtain ⟨e16,e⟩:=Prod.mk.inj e
 obtain ⟨e17,e⟩:=Prod.mk.inj e
 obtain ⟨e18,e⟩:=Prod.mk.inj e
 obtain ⟨e19,e⟩:=Prod.mk.inj e
 obtain ⟨e20,e⟩:=Prod.mk.inj e
 obtain ⟨e21,e⟩:=Prod.mk.inj e
 obtain ⟨e22,e⟩:=Prod.mk.inj e
 obtain ⟨e23,e⟩:=Prod.mk.inj e
 obtain ⟨e24,e⟩:=Prod.mk.inj e
 obtain ⟨e25,e⟩:=Prod.mk.inj e
 obtain ⟨e26,e⟩:=Prod.mk.inj e
 obtain ⟨e27,e⟩:=Prod.mk.inj e
 obtain ⟨e28,e⟩:=Prod.mk.inj e
 obtain ⟨e29,e⟩:=Prod.mk.inj e
 obtain ⟨e30,e⟩:=Prod.mk.inj e
 obtain ⟨e31,e⟩:=Prod.mk.inj e
 obtain ⟨e32,e⟩:=Prod.mk.inj e
 obtain ⟨e33,e⟩:=Prod.mk.inj e
 obtain ⟨e34,e⟩:=Prod.mk.inj e
 obtain ⟨e35,e⟩:=Prod.mk.inj e
 obtain ⟨e36,e⟩:=Prod.mk.inj e
 obtain ⟨z_isinstance,e⟩:=Prod.mk.inj e
 obtain ⟨z_int,e⟩:=Prod.mk.inj e
 obtain ⟨z_bool,e⟩:=Prod.mk.inj e
 obtain ⟨z_list,e⟩:=Prod.mk.inj e
 obtain ⟨z_range,e⟩:=Prod.mk.inj e
 obtain ⟨z_len,e⟩:=Prod.mk.inj e
 obtain ⟨z_zip,e⟩:=Prod.mk.inj e
 obtain ⟨z_abs,e⟩:=Prod.mk.inj e
 obtain ⟨z_any,e⟩:=Prod.mk.inj e
 obtain ⟨z_all,e⟩:=Prod.mk.inj e
 obtain ⟨z_set,e⟩:=Prod.mk.inj e
 have z_tuple:=e
 obtain ⟨a2,k2,_,_,_,_,_,_,_,_,_,l2,c2⟩:=Hd.fv_inv e2
 obtain ⟨_,_,_,_,_,t2⟩:=Hd.intsAt_inv t2
 obtain ⟨a36,k36,_,_,_,_,_,_,_,_,_,l36,c36⟩:=Hd.fv_inv e36
 exact zO X G hfa (FK.of2 e0) (FK.of2 e1) (FK.of2 e3) (FK.of2 e4) (FK.of2 e5) (FK.of2 e6) (FK.of2 e7) (FK.of2 e8) (FK.of2 e9) (FK.of2 e10) (FK.of2 e11) (FK.of2 e12) (FK.of2 e13) (FK.of2 e14) (FK.of2 e15) (FK.of2 e16) (FK.of2 e17) (FK.of2 e18) (FK.of2 e19) (FK.of2 e20) (FK.of2 e21) (FK.of2 e22) (FK.of2 e23) (FK.of2 e24) (FK.of2 e25) (FK.of2 e26) (FK.of2 e27) (FK.of2 e28) (FK.of2 e29) (FK.of2 e30) (FK.of2 e31) (FK.of2 e32) (FK.of2 e33) (FK.of2 e34) (FK.of2 e35) a2 l2 t2 c2 k2 a36 l36 c36 k36 z_isinstance z_int z_bool z_list z_range z_len z_zip z_abs z_any z_all z_set z_tuple
end
end Mine
open PySem PySem.W PyProof.Rows
set_option maxRecDepth 100000 in
set_option maxHeartbeats 0 in
theorem PySem.Challenge.cw_watchyard_k26_tables_together_holds : PySem.Challenge.rw_watchyard_k26_tables_together.Holds := by
 w_on;refine holds_law Mine.said fun said=>?_
 refine holds_open (q:=Mine.VW) (loose:=Mine.LO) (Xt:=Mine.XT) (XP:=XL Mine.VW []) (Yf:=Hook.obs Mine.HK) (Ya:=Hook.val Mine.HK) (YP:=Hook.says Mine.HK) (N:=3858) Mine.left (Hook.of Mine.HK) (Hook.keeps Mine.HK) (fun s e=>xl_of s (Bool.and_eq_true_iff.mp e).1) XL.keeps (by rfl) (by rfl) (by rfl) (fun s e=>recFacts_of (Bool.and_eq_true_iff.mp e).2) (by rfl) (by first | assumption | decide +kernel) (by decide +kernel) ⟨rfl,rfl,rfl,rfl,rfl,by decide +kernel⟩ ?hw ?hc
 (case hw=>w_witness2)
 exact Hd.walkE (l:=PySem.Challenge.rw_watchyard_k26_tables_together) (n:=63) (k:=8) (x:="_law_script") (T:=fun K=>Mine.FF K=Mine.FE) (sp:=fun K=>Dl.spLaw K) rfl (by decide) rfl ⟨rfl,by decide,by decide⟩ (fun _ _ Y=>Y) (fun _ _ _ _ _ e X G h=>Mine.facts e X G h) fun _ _ a ns hl _ hS=>⟨a,ns,rfl,hS,hl,fun _=>rfl⟩
