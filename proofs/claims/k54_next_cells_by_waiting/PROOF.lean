import PyProof.Rows.All
import Wide.All
import OpenK.AllK
import Wide.FinOn
import Lean
import PyProof.EqAt
import PyProof.EqKinds
import PyProof.TupleCall
import PyProof.NeKinds
import KE.IntBitsLaws
import KE.KUnpack
import KE.LcSums
import PyProof.ConsumeWalk
import PyProof.DictWalks
import PyProof.Rows.DictUnroll
import PyProof.Rows.Range3
import PyProof.Draws
import PyProof.EnumStmt
import PyProof.EnumFor
import PyProof.Walk
import PyProof.WalkLemmas
import PyProof.AutoSeq1
import PyProof.RaisesAny
import PyProof.MeetsIn
import PyProof.ZipIter
import PyProof.Rows.SetFrom
import PyProof.Rows.SortShell
import PyProof.Rows.SortWalk
import PyProof.CollectWalk
import KE.KDictSum
import KE.BitLaws
import PySem.Challenge.RW_watchyard_k54_next_cells_by_waiting
set_option Elab.async false
set_option linter.all false
set_option maxRecDepth 100000
set_option Elab.async false
set_option linter.all false
set_option maxRecDepth 100000
set_option maxHeartbeats 4000000
abbrev Za:=@Option.bind_eq_some_iff
abbrev Zb:=@Option.map_eq_some_iff
abbrev Zc:=@Option.bind_some
abbrev Zd:=@Option.map_some
abbrev Ze:=@List.getElem?_cons_zero
abbrev Zf:=@List.getElem?_cons_succ
abbrev Zg:=@List.set_cons_zero
abbrev Zh:=@List.set_cons_succ
abbrev Zi:=@List.cons_append
abbrev Zj:=@List.nil_append
abbrev Zk:=@List.append_nil
abbrev Zl:=@List.length_map
abbrev Zm:=@List.length_cons
abbrev Zn:=@List.length_nil
abbrev Zo:=@List.mem_cons_self
abbrev Zp:=@List.mem_cons_of_mem
abbrev Zq:=@List.mem_map
abbrev Zr:=@List.mem_append
abbrev Zs:=@List.mem_cons
abbrev Zt:=@List.map_cons
abbrev Zu:=@List.map_nil
abbrev Zv:=@List.getElem?_eq_getElem
abbrev Zw:=@List.nodup_nil
abbrev Zx:=@beq_self_eq_true
abbrev Zy:=@Bool.not_true
abbrev Zz:=@Bool.not_false
namespace L2
open PySem PySem.Spec PyProof.Rows
def cD (s:Stmt):Arguments:=match s with
 | .FunctionDef _ a _ _ _ _ _ _ _ _=>a
 | _=>{ posonlyargs:=[],args:=[],vararg:=none,kwonlyargs:=[],kw_defaults:=[],kwarg:=none,defaults:=[] }
def bR (s:Stmt):List Stmt:=match s with
 | .FunctionDef _ _ b _ _ _ _ _ _ _=>b
 | _=>[]
def ak (s:Stmt):Scope:=match s with
 | .FunctionDef _ _ _ _ _ _ sc _ _ _=>sc
 | _=>{ kind:=.function,names:=[],isGenerator:=false,isCoroutine:=false }
end L2
namespace Hd
open PySem PySem.Spec PyProof.Rows L2 PySem.W
def Kof (as:List Addr) (h:Heap):PySem.W.Frag:=as.filterMap fun a=>(h.get? a).map fun o=>(a,o)
theorem rP:∀ (as:List Addr) (h:Heap),(Kof as h).In h
 | [],h,a,o,e=>by cases e
 | b :: r,h,a,o,e=>by
  unfold Kof at e
  rw [List.filterMap_cons] at e
  cases hb:h.get? b with
  | none=>rw [hb] at e;exact rP r h a o e
  | some o' =>
   rw [hb] at e
   change List.lookup a ((b,o') :: Kof r h) = some o at e
   rw [List.lookup_cons] at e
   cases hc:a == b with
   | true=>rw [hc] at e;cases e;rw [beq_iff_eq.mp hc];exact hb
   | false=>rw [hc] at e;exact rP r h a o e
def hk {α:Type} (as:List Addr) (F:PySem.W.Frag->α) (v:α):PySem.W.Hook where
 α:=α
 obs:=fun s=>F (Kof as s.heap)
 val:=fun _=>v
 says:=fun _ h=>∃ K:PySem.W.Frag,K.In h/\F K = v
 of:=fun _ s e=>⟨_,rP as s.heap,e⟩
 keeps:=fun _ _ _ x k=>Exists.elim x fun K y=>⟨K,y.1.keeps k,y.2⟩
abbrev FT:=Option (Option Value) × Bool × Option (Str × Str × Arguments × FuncBody × Scope × Addr × List (Str × Addr) × Value × Addr × Bool)
def fv (K:PySem.W.Frag) (x:Str) (f:Addr):FT :=
 (PySem.W.nsIn K mainGlobals x,PySem.W.keepIn K (.ref f),match K.lookup f with
  | some ⟨_,_,.func d,_⟩=>some (d.name,d.qualname,d.params,d.body,d.scope,d.globals,d.closure,d.defaults,d.builtins,PySem.W.codeIn K d.code x)
  | _=>none)
def fe (x:Str) (st:Stmt) (dV:Value) (f:Addr):FT:=(some (some (Value.ref f)),true,some (x,x,cD st,FuncBody.stmts (bR st),ak st,mainGlobals,[],dV,builtinsNs,true))
theorem fv_inv {K:PySem.W.Frag} {x:Str} {st:Stmt} {dV:Value} {f:Addr} (e:fv K x f = fe x st dV f):PySem.W.nsIn K mainGlobals x = some (some (.ref f))/\PySem.W.keepIn K (.ref f) = true /\
 ∃ (oc:Value) (od:Option Addr) (kV doc pm:Value) (an:Option Addr) (cdv ct:Value) (osl:Array (Option Value)),K.lookup f = some ⟨oc,od,.func (PySem.W.fnOf x x (cD st) (bR st) (ak st) dV kV doc pm an cdv ct),osl⟩/\PySem.W.codeIn K cdv x = true:=by
 obtain ⟨e1,e2⟩:=Prod.mk.inj e
 obtain ⟨e2,e3⟩:=Prod.mk.inj e2
 refine ⟨e1,e2,?_⟩
 revert e3
 cases K.lookup f with
 | none=>intro e3;cases e3
 | some o =>
  obtain ⟨oc,od,dt,osl⟩:=o
  cases dt with
  | func d =>
   intro e3
   obtain ⟨a1,a2,a3,a4,a5,a6,a7,a8,a9,b1,b2,b3,b4,b5,b6⟩:=d
   obtain ⟨h1,y1⟩:=Prod.mk.inj (Option.some.inj e3)
   obtain ⟨h2,y2⟩:=Prod.mk.inj y1
   obtain ⟨h3,y3⟩:=Prod.mk.inj y2
   obtain ⟨h4,y4⟩:=Prod.mk.inj y3
   obtain ⟨h5,y5⟩:=Prod.mk.inj y4
   obtain ⟨h6,y6⟩:=Prod.mk.inj y5
   obtain ⟨h7,y7⟩:=Prod.mk.inj y6
   obtain ⟨h8,y8⟩:=Prod.mk.inj y7
   obtain ⟨h9,y9⟩:=Prod.mk.inj y8
   clear e3 y1 y2 y3 y4 y5 y6 y7 y8
   dsimp only at h1 h2 h3 h4 h5 h6 h7 h8 h9 y9
   subst h1 h2 h3 h4 h5 h6 h7 h8 h9
   exact ⟨oc,od,a9,b1,b2,b3,b4,b5,osl,rfl,y9⟩
  | _=>intro e3;cases e3
def intsAt (K:PySem.W.Frag) (T:Addr):Option (List (Option Int)):=match K.lookup T with
 | some ⟨_,_,.seq xs _,_⟩=>some (xs.toList.map fun v=>match v with | .int i _=>some i | _=>none)
 | _=>none
theorem intsAt_inv {K:PySem.W.Frag} {T:Addr} {i:Int} (e:intsAt K T = some [some i]):∃ (oT:Value) (dT:Option Addr) (tk:Tok) (nT:Nat) (sT:Array (Option Value)),K.lookup T = some ⟨oT,dT,.seq #[.int i tk] nT,sT⟩:=by
 unfold intsAt at e
 revert e
 cases K.lookup T with
 | none=>intro e;cases e
 | some o =>
  obtain ⟨oc,od,dt,osl⟩:=o
  cases dt with
  | seq xs n =>
   intro e
   obtain ⟨l⟩:=xs
   cases l with
   | nil=>cases e
   | cons v r =>
    cases r with
    | cons v' r'=>cases (List.cons.inj (Option.some.inj e)).2
    | nil =>
     cases v with
     | int j t=>cases e;exact ⟨_,_,_,_,_,rfl⟩
     | _=>cases e
  | _=>intro e;cases e
theorem left_one {p q:Program} {loose:List Str} {Xt:Shared->Bool} {α:Type} {Yf:Shared->α} {Ya:World->α} {N:Nat} {g0:Bool} {m₀:Nat} {ann:Option Value}
 (e:opening p = plainProg p.main.scope.names) (hN:Nat.ble 600 N = true) (f:∀ s,fenceModules? p s = some s)
 (size:∀ w:World,((boot_heap w.params).isNs mainGlobals,(boot_heap w.params).objs.size,(boot_heap w.params).nsMap mainGlobals "__annotations__") = (true,m₀,ann))
 (yM:∀ (w:World) (os:OsState),(topRun treeTable p w m₀ ann N ⟨boot_heap w.params,Array.mk [],boot_drawn,boot_toks,os⟩ (topStub p)).map (fun s=>((staticsOk (importedModules p.main.body) (boot_heap w.params) s.heap && namesBound p s.heap && gensDone s && laidKept (boot_heap w.params) s.heap),Yf s)) = some (true,Ya w))
 (yL:∀ (w:World) (os:OsState),(topRun treeTable p w m₀ ann N ⟨boot_heap w.params,Array.mk [],boot_drawn,boot_toks,os⟩ (topStub p)).map (fun s=>openSeen q loose (importedModules p.main.body) Xt g0 s) = some (openGood q loose)):LeftO p q loose Xt Yf Ya N g0:=fun w=>by
 obtain ⟨⟨h,gs,d,k,os⟩,e,e'⟩:=Zb.mp (boot_open e hN f w)
 obtain ⟨rfl,e'⟩:=Prod.mk.inj e'
 obtain ⟨rfl,e'⟩:=Prod.mk.inj e'
 obtain ⟨rfl,rfl⟩:=Prod.mk.inj e'
 obtain ⟨z1,z2⟩:=Prod.mk.inj (size w)
 obtain ⟨z2,z3⟩:=Prod.mk.inj z2
 obtain ⟨s₁,r,l⟩:=Zb.mp (yM w os)
 obtain ⟨l1,l3⟩:=Prod.mk.inj l
 have l2:=yL w os
 rw [r] at l2
 have t:topFrom treeTable p w N ⟨boot_heap w.params,Array.mk [],boot_drawn,boot_toks,os⟩ = some s₁:=by
  unfold topFrom
  dsimp only
  rw [z1,z2,z3]
  show (topRun treeTable p w m₀ ann N ⟨boot_heap w.params,Array.mk [],boot_drawn,boot_toks,os⟩ (topStub p)).bind _ = _
  rw [r]
  show (match staticsOk (importedModules p.main.body) (boot_heap w.params) s₁.heap && namesBound p s₁.heap && gensDone s₁ && laidKept (boot_heap w.params) s₁.heap with | true=>_ | false=>_) = _
  rw [l1]
 unfold openEnds
 rw [e]
 show ((topFrom treeTable p w N _).map _) = _
 rw [t]
 exact congrArg some (Prod.ext (Option.some.inj l2) l3)
end Hd
namespace Mine
open PySem PySem.Spec PyProof.Rows L2
def top (i:Nat):Stmt:=PySem.Challenge.pw_watchyard_k54_next_cells_by_waiting.main.body.getD i (.Pass ⟨0,0,0,0⟩)
abbrev gt:Stmt:=top 4
abbrev cR:Stmt:=top 5
abbrev nL:Stmt:=top 10
abbrev gu:Stmt:=top 11
abbrev fB:Stmt:=top 19
abbrev ci:Stmt:=top 21
abbrev gn:Stmt:=top 22
abbrev ig:Stmt:=top 24
abbrev eI:Stmt:=top 25
abbrev fF:Stmt:=top 26
abbrev eE:Stmt:=top 27
abbrev gw:Stmt:=top 28
abbrev eJ:Stmt:=top 34
abbrev eK:Stmt:=top 35
abbrev jb:Stmt:=top 7
abbrev ja:Stmt:=top 9
abbrev c8:Stmt:=top 20
abbrev gv:Stmt:=top 29
abbrev fE:Stmt:=top 30
abbrev dw:Stmt:=top 32
abbrev fG:Stmt:=top 33
abbrev cT:Stmt:=top 36
abbrev dy:Stmt:=top 39
abbrev dd:Stmt:=top 6
abbrev ke:Stmt:=top 8
abbrev fu:Stmt:=top 18
abbrev eF:Stmt:=top 31
abbrev cS:Stmt:=top 37
abbrev dR:Stmt:=top 38
abbrev ic:Stmt:=top 14
abbrev dQ:Stmt:=top 16
abbrev du:Stmt:=top 15
abbrev gq:Stmt:=top 17
abbrev ie:Stmt:=top 13
abbrev iH:Stmt:=top 40
abbrev PW:Program:=PySem.Challenge.pw_watchyard_k54_next_cells_by_waiting
abbrev VW:Program:=PySem.W.view PW [1,2,4,5,7,8,9,10,11,13,14,15,16,17,18,19,20,21,22,24,25,26,27,28,29,30,31,32,33,34,35,36,37,38,39,40]
abbrev LO:List Str:=["fraction"]
def ads:List Addr:=[mainGlobals,46,53,61,68,75,82,89,96,101,108,115,122,127,132,137,142,149,154,161,168,175,182,189,196,203,210,215,220,227,232,237,242,247,252,259,45,52,60,67,74,81,88,95,100,107,114,121,126,131,136,141,148,153,160,167,174,181,188,195,202,209,214,219,226,231,236,241,246,251,258,54]
abbrev FF (K:PySem.W.Frag):=(Hd.fv K "is_whole" 46,
 Hd.fv K "common_divisor" 53,
 Hd.fv K "fraction" 61,
 Hd.intsAt K 54,
 Hd.fv K "lowest" 68,
 Hd.fv K "minus" 75,
 Hd.fv K "summed" 82,
 Hd.fv K "less" 89,
 Hd.fv K "floor_of" 96,
 Hd.fv K "cell_of" 101,
 Hd.fv K "is_past" 108,
 Hd.fv K "broken_parts" 115,
 Hd.fv K "broken_part" 122,
 Hd.fv K "place_of" 127,
 Hd.fv K "next_cell" 132,
 Hd.fv K "is_moment" 137,
 Hd.fv K "behind_moment" 142,
 Hd.fv K "place_behind_moment" 149,
 Hd.fv K "ranks_of" 154,
 Hd.fv K "_law_at" 161,
 Hd.fv K "_law_purse" 168,
 Hd.fv K "_law_take" 175,
 Hd.fv K "_law_whole" 182,
 Hd.fv K "_law_low" 189,
 Hd.fv K "_law_sum" 196,
 Hd.fv K "_law_time" 203,
 Hd.fv K "_law_times" 210,
 Hd.fv K "_law_numbers" 215,
 Hd.fv K "_law_cell" 220,
 Hd.fv K "_law_least" 227,
 Hd.fv K "_law_known" 232,
 Hd.fv K "_law_at_moment" 237,
 Hd.fv K "_law_next_wait" 242,
 Hd.fv K "_law_behind" 247,
 Hd.fv K "_law_is_cell" 252,
 Hd.fv K "law" 259,
 PySem.W.nsIn K mainGlobals "isinstance",
 PySem.W.nsIn K mainGlobals "int",
 PySem.W.nsIn K mainGlobals "bool",
 PySem.W.nsIn K mainGlobals "tuple",
 PySem.W.nsIn K mainGlobals "zip",
 PySem.W.nsIn K mainGlobals "len",
 PySem.W.nsIn K mainGlobals "any",
 PySem.W.nsIn K mainGlobals "sorted",
 PySem.W.nsIn K mainGlobals "set",
 PySem.W.nsIn K mainGlobals "abs",
 PySem.W.nsIn K mainGlobals "range",
 PySem.W.nsIn K mainGlobals "all")
abbrev FE:=(Hd.fe "is_whole" gt .none 46,
 Hd.fe "common_divisor" cR .none 53,
 Hd.fe "fraction" dd (.ref 54) 61,
 (some [some (1:Int)]),
 Hd.fe "lowest" jb .none 68,
 Hd.fe "minus" ke .none 75,
 Hd.fe "summed" ja .none 82,
 Hd.fe "less" nL .none 89,
 Hd.fe "floor_of" gu .none 96,
 Hd.fe "cell_of" ie .none 101,
 Hd.fe "is_past" ic .none 108,
 Hd.fe "broken_parts" du .none 115,
 Hd.fe "broken_part" dQ .none 122,
 Hd.fe "place_of" gq .none 127,
 Hd.fe "next_cell" fu .none 132,
 Hd.fe "is_moment" fB .none 137,
 Hd.fe "behind_moment" c8 .none 142,
 Hd.fe "place_behind_moment" ci .none 149,
 Hd.fe "ranks_of" gn .none 154,
 Hd.fe "_law_at" ig .none 161,
 Hd.fe "_law_purse" eI .none 168,
 Hd.fe "_law_take" fF .none 175,
 Hd.fe "_law_whole" eE .none 182,
 Hd.fe "_law_low" gw .none 189,
 Hd.fe "_law_sum" gv .none 196,
 Hd.fe "_law_time" fE .none 203,
 Hd.fe "_law_times" eF .none 210,
 Hd.fe "_law_numbers" dw .none 215,
 Hd.fe "_law_cell" fG .none 220,
 Hd.fe "_law_least" eJ .none 227,
 Hd.fe "_law_known" eK .none 232,
 Hd.fe "_law_at_moment" cT .none 237,
 Hd.fe "_law_next_wait" cS .none 242,
 Hd.fe "_law_behind" dR .none 247,
 Hd.fe "_law_is_cell" dy .none 252,
 Hd.fe "law" iH .none 259,
 (some none:Option (Option Value)),
 (some none:Option (Option Value)),
 (some none:Option (Option Value)),
 (some none:Option (Option Value)),
 (some none:Option (Option Value)),
 (some none:Option (Option Value)),
 (some none:Option (Option Value)),
 (some none:Option (Option Value)),
 (some none:Option (Option Value)),
 (some none:Option (Option Value)),
 (some none:Option (Option Value)),
 (some none:Option (Option Value)))
abbrev HK:PySem.W.Hook:=Hd.hk ads FF FE
abbrev XT (s:Shared):Bool:=PySem.W.xlAt VW [] s && PySem.W.recOk [] s
theorem yM (w:World) (os:OsState):(PySem.W.topRun treeTable PW w 11 (some (.ref 6)) 3654 ⟨PySem.W.boot_heap w.params,Array.mk [],PySem.W.boot_drawn,PySem.W.boot_toks,os⟩ (PySem.W.topStub PW)).map (fun s=>((PySem.W.staticsOk (importedModules PW.main.body) (PySem.W.boot_heap w.params) s.heap && PySem.W.namesBound PW s.heap && PySem.W.gensDone s && PySem.W.laidKept (PySem.W.boot_heap w.params) s.heap),PySem.W.Hook.obs HK s)) = some (true,PySem.W.Hook.val HK w):=by
 rw [PySem.W.Fast.te14082659384304107361]
 kernel_rfl
theorem yL (w:World) (os:OsState):(PySem.W.topRun treeTable PW w 11 (some (.ref 6)) 3654 ⟨PySem.W.boot_heap w.params,Array.mk [],PySem.W.boot_drawn,PySem.W.boot_toks,os⟩ (PySem.W.topStub PW)).map (fun s=>PySem.W.openSeen VW LO (importedModules PW.main.body) XT true s) = some (PySem.W.openGood VW LO):=by
 rw [PySem.W.Fast.te14082659384304107361,PySem.W.Fast.te4187177175401517315]
 kernel_rfl
theorem left:PySem.W.LeftO PW VW LO XT (PySem.W.Hook.obs HK) (PySem.W.Hook.val HK) 3654 :=
 Hd.left_one (m₀:=11) (ann:=some (.ref 6)) (by kernel_rfl) (by kernel_rfl) (fun s=>by kernel_rfl) (fun w=>by kernel_rfl) yM yL
theorem said:PySem.Challenge.rw_watchyard_k54_next_cells_by_waiting.wellSaid = true:=by
 rw [PySem.W.Fast.te9446332074065402090]
 kernel_rfl
end Mine
namespace L2
open PySem PySem.Spec PyProof.Rows
abbrev Key:=Sum Int Str
def yf:Key->Value->Bool
 | .inl k,v=>Value.isInt k v
 | .inr x,v=>Value.isStrOf x v
def BL (w:World):Key->Int
 | .inl k=>hashInt k
 | .inr x=>hashStr w x
theorem cr:∀ {k:Key} {v:Value},yf k v = true->(∃ i t,k = Sum.inl i/\v = Value.int i t) \/ (∃ x t,k = Sum.inr x/\v = Value.str x t)
 | .inl i,v,h=>by
  obtain ⟨t,e⟩:=Value.isInt_shape (k:=i) (v:=v) h
  exact .inl ⟨i,t,rfl,e⟩
 | .inr x,v,h=>by
  obtain ⟨t,e⟩:=Value.isStrOf_shape (x:=x) (v:=v) h
  exact .inr ⟨x,t,rfl,e⟩
theorem zP (a b:Int):decide ((Sum.inl a:Key) = Sum.inl b) = (a == b):=by
 by_cases e:a = b
 . subst e;simp
 . have h:¬ (Sum.inl a:Key) = Sum.inl b:=fun q=>e (Sum.inl.inj q)
   rw [decide_eq_false h]
   exact (beq_eq_false_iff_ne.mpr e).symm
theorem zM (a b:Str):decide ((Sum.inr a:Key) = Sum.inr b) = decide (a = b):=by
 by_cases e:a = b
 . subst e;simp
 . have h:¬ (Sum.inr a:Key) = Sum.inr b:=fun q=>e (Sum.inr.inj q)
   rw [decide_eq_false h,decide_eq_false e]
theorem zO (a:Int) (b:Str):decide ((Sum.inl a:Key) = Sum.inr b) = false:=decide_eq_false (fun q=>nomatch q)
theorem zN (a:Str) (b:Int):decide ((Sum.inr a:Key) = Sum.inl b) = false:=decide_eq_false (fun q=>nomatch q)
def sU (prog:Program) (w:World):PySem.KeyKind prog w Key where
 is:=yf
 hash:=BL w
 inj:=fun v a b ha hb=>by
  rcases cr ha with ⟨i,t,rfl,rfl⟩ | ⟨x,t,rfl,rfl⟩
  . rcases cr hb with ⟨j,u,rfl,e⟩ | ⟨y,u,rfl,e⟩
    . injection e with e1 _;rw [e1]
    . exact nomatch e
  . rcases cr hb with ⟨j,u,rfl,e⟩ | ⟨y,u,rfl,e⟩
    . exact nomatch e
    . injection e with e1 _;rw [e1]
 byValue:=fun k v h=>by
  rcases cr h with ⟨i,t,rfl,rfl⟩ | ⟨x,t,rfl,rfl⟩ <;> rfl
 pyHash:=fun hv h=>by
  rcases cr hv with ⟨i,t,rfl,rfl⟩ | ⟨x,t,rfl,rfl⟩
  . exact wpAny_pyHash_int h
  . exact wpAny_pyHash_str h
 eqBool:=fun hu hv h=>by
  rcases cr hu with ⟨i,t,rfl,rfl⟩ | ⟨x,t,rfl,rfl⟩
  . rcases cr hv with ⟨j,u,rfl,rfl⟩ | ⟨y,u,rfl,rfl⟩
    . rw [zP] at h;exact wpAny_eqBool_int h
    . rw [zO] at h;exact SeqAt.EqAt.int_str i t y u _ _ _ _ h
  . rcases cr hv with ⟨j,u,rfl,rfl⟩ | ⟨y,u,rfl,rfl⟩
    . rw [zN] at h;exact SeqAt.EqAt.str_int x t j u _ _ _ _ h
    . rw [zM] at h;exact wpAny_eqBool_str h
 «strs»:=fun k x t v h=>by
  rcases cr h with ⟨i,u,rfl,e⟩ | ⟨y,u,rfl,e⟩
  . exact nomatch e
  . injection e with e1 _
    subst e1
    cases v <;> rfl
end L2
namespace L2
open PySem PySem.Spec PyProof.Rows
inductive V where
 | non | bl (b:Bool) | int (i:Int) | str (x:Str) | byt (b:Array UInt8) | flt (b:UInt64) | ref (a:Addr) | ty (n:String)
 deriving DecidableEq
def RelV:V->Value->Prop
 | .non,u=>u = Value.none
 | .bl b,u=>u = Value.bool b
 | .int i,u=>∃ t,u = Value.int i t
 | .str x,u=>∃ t,u = Value.str x t
 | .byt b,u=>∃ t,u = Value.bytes b t
 | .flt b,u=>∃ t,u = Value.float b t
 | .ref a,u=>u = Value.ref a
 | .ty n,u=>u = Value.type n
abbrev Vals:List V->List Value->Prop:=Paired RelV
theorem Vals.length {xs:List V} {us:List Value} (r:Vals xs us):xs.length = us.length:=Paired.length r
theorem Vals.get:∀ {xs:List V} {us:List Value} {i:Nat} {x:V},Vals xs us->xs[i]? = some x->∃ u,us[i]? = some u/\RelV x u
 | _,_,_,_,.nil,e=>by simp at e
 | _,_,0,_,.cons r _,e=>by simp at e;subst e;exact ⟨_,rfl,r⟩
 | _,_,i + 1,x,.cons _ t,e=>by
  obtain ⟨u,h1,h2⟩:=Vals.get (i:=i) (x:=x) t (by simpa using e)
  exact ⟨u,by simpa using h1,h2⟩
theorem Vals.set {x:V} {u:Value} (r:RelV x u):∀ {xs:List V} {us:List Value} (i:Nat),Vals xs us->Vals (xs.set i x) (us.set i u)
 | _,_,_,.nil=>.nil
 | _,_,0,.cons _ t=>.cons r t
 | _,_,i + 1,.cons q t=>.cons q (Vals.set r i t)
theorem Vals.append:∀ {xs ys:List V} {us ws:List Value},Vals xs us->Vals ys ws->Vals (xs ++ ys) (us ++ ws)
 | _,_,_,_,.nil,s=>s
 | _,_,_,_,.cons r t,s=>.cons r (Vals.append t s)
theorem Vals.take:∀ {xs:List V} {us:List Value} (n:Nat),Vals xs us->Vals (xs.take n) (us.take n)
 | _,_,0,_=>.nil
 | _,_,_ + 1,.nil=>.nil
 | _,_,n + 1,.cons r t=>.cons r (Vals.take n t)
theorem Vals.drop:∀ {xs:List V} {us:List Value} (n:Nat),Vals xs us->Vals (xs.drop n) (us.drop n)
 | _,_,0,r=>r
 | _,_,_ + 1,.nil=>.nil
 | _,_,n + 1,.cons _ t=>Vals.drop n t
def Bj:Option V->Option Value->Prop
 | some v,some u=>RelV v u
 | none,none=>True
 | _,_=>False
def KV {κ:Type}:List (κ × V)->List (κ × Value)->Prop:=Paired fun (p:κ × V) (q:κ × Value)=>p.1 = q.1/\RelV p.2 q.2
def kV:Key->V
 | .inl i=>.int i
 | .inr x=>.str x
inductive HO where
 | lst (xs:List V)
 | tup (xs:List V)
 | dK (kvs:List (Key × V)) | dT (kvs:List (List Key × V))
 | set (S:Int->Bool) (n:Nat)
 | ins (C dx:Addr) (fs:List (Str × V))
 | own (x:Addr)
 | xd (fs:List (Str × V))
 | met (f x:Addr)
 | rng (lo hi:Int)
 | frz (o:Obj) (u:HO)
 | tbl (ps:Array Value)
 | ext (φ:Heap->Prop)
abbrev Hp:=Addr->Option HO
def upd (H:Hp) (a:Addr) (o:HO):Hp:=fun b=>if b = a then some o else H b
theorem aX {H:Hp} {a:Addr} {o:HO}:upd H a o a = some o:=by unfold upd;rw [if_pos rfl]
theorem aC {H:Hp} {a b:Addr} {o:HO} (h:b ≠ a):upd H a o b = H b:=by unfold upd;rw [if_neg h]
theorem bg {H:Hp} {a b:Addr} {o:HO} (h:H a = some o) (h':H b = none):a ≠ b:=by
 intro e;subst e;rw [h] at h';cases h'
section
variable (P:Program) (w:World)
def ObjOk (H:Hp) (h:Heap) (a:Addr):HO->Prop
 | .lst xs=>xs.length <= sizeLine/\∃ (its:List Value) (n:Nat),Vals xs its/\h.get? a = some { cls:=.type "list",data:=.seq its.toArray n }
 | .tup xs=>xs.length <= sizeLine/\∃ its:List Value,Vals xs its/\IsTup h a its.toArray
 | .dK kvs=>kvs.length <= sizeLine/\(a == sysModules) = false/\∃ vs,KV kvs vs/\h.DictOf (sU P w) a vs
 | .dT kvs=>kvs.length <= sizeLine/\(a == sysModules) = false/\∃ xs:List (List Key × Addr × Value),
  Paired (fun (p:List Key × V) (q:List Key × Addr × Value)=>p.1 = q.1/\H q.2.1 = some (.tup (p.1.map kV))/\RelV p.2 q.2.2) kvs xs /\
  ∃ o es ep,h.get? a = some o/\o.ExactDict/\o.data = .dict es ep/\es.toList = xs.map (entryOfKey (tupleKind (sU P w)))/\(xs.map (·.1)).Nodup
 | .set S n=>h.SetOf (intKind P w) a S n
 | .ins C dx fs=>H dx = some (.own a)/\fs.length <= 1000/\dx ≠ a/\h.get? a = some (PySem.W.instObj C dx) /\
  ∃ mA,h.Ns1 dx mA/\(∀ f,Bj (fs.lookup f) (mA f))/\PySem.Within mA (fs.map (·.1))
 | .own _=>∃ o,h.get? a = some o
 | .xd fs=>∃ mA,h.Ns1 a mA/\∀ f,Bj (fs.lookup f) (mA f)
 | .rng lo hi=>∃ t u v,h.get? a = some { cls:=.type "range",data:=.fields #[.int lo t,.int hi u,.int 1 v] }
 | .frz o u=>h.get? a = some o/\ObjOk H h a u
 | .tbl ps=>h.get? a = some { cls:=.none,data:=.fields ps }
 | .met f x=>h.get? a = some (PySem.W.methodObj (.ref f) (.ref x))
 | .ext φ=>φ h/\(∃ o,h.get? a = some o)/\∀ h1 h2:Heap,φ h1->(∀ o,h1.get? a = some o->h2.get? a = some o)->φ h2
def HOk (H:Hp) (h:Heap):Prop:=∀ a o,H a = some o->ObjOk P w H h a o
end
section
variable {P:Program} {w:World} {H H':Hp} {h h':Heap} {a:Addr} {o:HO}
theorem ObjOk.lt (x:ObjOk P w H h a o):a < h.objs.size:=by
 cases o with
 | lst xs=>obtain ⟨_,_,_,_,e⟩:=x;exact Heap.lt_size e
 | tup xs=>obtain ⟨_,_,_,p⟩:=x;exact p.lt
 | dK kvs=>obtain ⟨_,_,_,_,o,_,_,e,_⟩:=x;exact Heap.lt_size e
 | dT kvs=>obtain ⟨_,_,_,_,o,_,_,e,_⟩:=x;exact Heap.lt_size e
 | set S n=>obtain ⟨o,_,_,_,e,_⟩:=x;exact Heap.lt_size e
 | ins C dx fs=>obtain ⟨_,_,_,e,_⟩:=x;exact Heap.lt_size e
 | own y=>obtain ⟨_,e⟩:=x;exact Heap.lt_size e
 | xd fs=>obtain ⟨_,⟨_,_,_,e,_⟩,_⟩:=x;exact Heap.lt_size e
 | rng lo hi=>obtain ⟨_,_,_,e⟩:=x;exact Heap.lt_size e
 | frz ob u=>obtain ⟨e,_⟩:=x;exact Heap.lt_size e
 | tbl ps=>exact Heap.lt_size (show h.get? a = some _ from x)
 | met f y=>exact Heap.lt_size (show h.get? a = some _ from x)
 | ext φ=>obtain ⟨_,⟨_,e⟩,_⟩:=x;exact Heap.lt_size e
theorem Paired.mapP {α β:Type} {F G:α->β->Prop}:∀ {l₁:List α} {l₂:List β},Paired F l₁ l₂->(∀ a b,F a b->G a b)->Paired G l₁ l₂
 | _,_,.nil,_=>.nil
 | _,_,.cons r t,f=>.cons (f _ _ r) (Paired.mapP t f)
theorem ObjOk.stay (x:ObjOk P w H h a o) (k:∀ b u,(b = a \/ H b = some (.own a))->h.get? b = some u->h'.get? b = some u)
 (ho:∀ b,H b = some (.own a)->H' b = some (.own a)) (ht:∀ b xs,H b = some (.tup xs)->H' b = some (.tup xs)):ObjOk P w H' h' a o:=by
 induction o with
 | lst xs=>obtain ⟨z,its,n,r,e⟩:=x;exact ⟨z,its,n,r,k _ _ (.inl rfl) e⟩
 | tup xs=>obtain ⟨z,its,r,ob,e,c⟩:=x;exact ⟨z,its,r,ob,k _ _ (.inl rfl) e,c⟩
 | dK kvs=>obtain ⟨z,y,vs,r,ob,es,ep,e,c⟩:=x;exact ⟨z,y,vs,r,ob,es,ep,k _ _ (.inl rfl) e,c⟩
 | dT kvs =>
  obtain ⟨z,y,xs,r,ob,es,ep,e,c⟩:=x
  exact ⟨z,y,xs,Paired.mapP r fun p q z=>⟨z.1,ht _ _ z.2.1,z.2.2⟩,ob,es,ep,k _ _ (.inl rfl) e,c⟩
 | set S n=>obtain ⟨ob,es,ep,t,e,c⟩:=x;exact ⟨ob,es,ep,t,k _ _ (.inl rfl) e,c⟩
 | ins C dx fs =>
  obtain ⟨d,z,ne,e,mA,⟨od,es,ep,e2,c⟩,r⟩:=x
  exact ⟨ho _ d,z,ne,k _ _ (.inl rfl) e,mA,⟨od,es,ep,k _ _ (.inr d) e2,c⟩,r⟩
 | own y=>obtain ⟨ob,e⟩:=x;exact ⟨ob,k _ _ (.inl rfl) e⟩
 | xd fs=>obtain ⟨mA,⟨od,es,ep,e,c⟩,r⟩:=x;exact ⟨mA,⟨od,es,ep,k _ _ (.inl rfl) e,c⟩,r⟩
 | rng lo hi=>obtain ⟨t,u,v,e⟩:=x;exact ⟨t,u,v,k _ _ (.inl rfl) e⟩
 | frz ob u ih=>obtain ⟨e,q⟩:=x;exact ⟨k _ _ (.inl rfl) e,ih q⟩
 | tbl ps =>
  have e:h.get? a = some { cls:=.none,data:=.fields ps }:=x
  show h'.get? a = some { cls:=.none,data:=.fields ps }
  exact k a _ (.inl rfl) e
 | met f y =>
  have e:h.get? a = some (PySem.W.methodObj (.ref f) (.ref y)):=x
  show h'.get? a = some (PySem.W.methodObj (.ref f) (.ref y))
  exact k a _ (.inl rfl) e
 | ext φ=>obtain ⟨p,⟨o,e⟩,st⟩:=x;exact ⟨st _ _ p fun o q=>k _ _ (.inl rfl) q,⟨o,k _ _ (.inl rfl) e⟩,st⟩
theorem HOk.lt (x:HOk P w H h) (e:H a = some o):a < h.objs.size:=(x a o e).lt
theorem HOk.fresh (x:HOk P w H h) (e:h.objs.size <= a):H a = none:=by
 cases q:H a with
 | none=>rfl
 | some u=>exact absurd (Nat.lt_of_lt_of_le (x.lt q) e) (Nat.lt_irrefl _)
theorem HOk.kept (x:HOk P w H h) (k:∀ b u,h.get? b = some u->h'.get? b = some u):HOk P w H h':=fun a o e =>
 (x a o e).stay (fun b u _ q=>k b u q) (fun _ q=>q) fun _ _ q=>q
theorem HOk.laid (x:HOk P w H h) (k:∀ b u,h.get? b = some u->h'.get? b = some u) (hp:h.objs.size <= a) (new:ObjOk P w (upd H a o) h' a o):HOk P w (upd H a o) h':=fun b u e=>by
 have hn:=x.fresh hp
 by_cases hb:b = a
 . subst hb;rw [aX] at e;cases e;exact new
 . rw [aC hb] at e
   exact (x b u e).stay (fun c v _ q=>k c v q) (fun c q=>by rw [aC (bg q hn)];exact q) fun c xs q=>by rw [aC (bg q hn)];exact q
end
def Rd (H:Hp) (a:Addr) (u:HO):Prop:=H a = some u \/ ∃ o,H a = some (.frz o u)
theorem Rd.ok {P:Program} {w:World} {H:Hp} {h:Heap} {a:Addr} {u:HO} (r:Rd H a u) (x:HOk P w H h):ObjOk P w H h a u:=by
 rcases r with r | ⟨o,r⟩
 . exact x a u r
 . obtain ⟨_,q⟩:=x a _ r
   exact q
def Mut:Option HO->Prop
 | some (.lst _)=>True
 | some (.dK _)=>True
 | some (.dT _)=>True
 | some (.set _ _)=>True
 | some (.ins _ _ _)=>True
 | some (.ext _)=>True
 | _=>False
section
variable {P:Program} {w:World} {H:Hp} {h h':Heap} {x e:Addr} {o':HO}
theorem HOk.write (ok:HOk P w H h) (mu:Mut (H x)) (he:e = x \/ H e = some (.own x)) (k:∀ b u,b ≠ e->h.get? b = some u->h'.get? b = some u) (heo:∃ u,h'.get? e = some u)
 (new:ObjOk P w (upd H x o') h' x o'):HOk P w (upd H x o') h':=fun b u q=>by
 have nown:∀ c y,H c = some (.own y)->c ≠ x:=fun c y r z=>by subst z;rw [r] at mu;exact mu
 have ntup:∀ c xs,H c = some (.tup xs)->c ≠ x:=fun c xs r z=>by subst z;rw [r] at mu;exact mu
 by_cases hb:b = x
 . subst hb;rw [aX] at q;cases q;exact new
 . rw [aC hb] at q
   by_cases hbe:b = e
   . have q':H b = some (.own x):=by
      rcases he with z | z
      . exact absurd (hbe.trans z) hb
      . rw [hbe];exact z
     rw [q] at q';cases q'
     obtain ⟨v,hv⟩:=heo
     exact ⟨v,by rw [hbe];exact hv⟩
   . refine (ok b u q).stay (fun c v hc r=>k c v ?_ r) (fun c r=>by rw [aC (nown c b r)];exact r) fun c xs r=>by rw [aC (ntup c xs r)];exact r
     rcases hc with rfl | hc
     . exact hbe
     . rintro rfl
       rcases he with z | z
       . exact nown c b hc z
       . rw [hc] at z;cases z;exact hb rfl
end
structure Un (fs ex:List Addr) (H H':Hp) (h h':Heap):Prop where
 keep:∀ b o,h.get? b = some o->H b = none->b ∉ fs->b ∉ ex->h'.get? b = some o
 slot:∀ b o,h.get? b = some o->H b = none->b ∈ fs->b ∉ ex->∃ sl,h'.get? b = some { o with slots:=sl }
 free:∀ b o,h.get? b = some o->H b = none->b ∉ ex->H' b = none
 there:∀ b o,h.get? b = some o->b ∉ ex->∃ o',h'.get? b = some o'
 tups:∀ b xs,H b = some (.tup xs)->H' b = some (.tup xs)
 frzs:∀ b o u,H b = some (.frz o u)->H' b = some (.frz o u)
 tbls:∀ b ps,H b = some (.tbl ps)->∃ more,H' b = some (.tbl (ps ++ more))
section
variable {fs fs' ex ex':List Addr} {H H1 H2:Hp} {h h1 h2 h':Heap} {a x e:Addr} {o:HO}
theorem Un.any (u:Un fs ex H H1 h h1) {b:Addr} {ob:Obj} (q:h.get? b = some ob) (n:H b = none) (hx:b ∉ ex):∃ sl,h1.get? b = some { ob with slots:=sl }:=by
 by_cases hb:b ∈ fs
 . exact u.slot b ob q n hb hx
 . exact ⟨ob.slots,u.keep b ob q n hb hx⟩
theorem Un.kept (k:∀ b u,h.get? b = some u->h'.get? b = some u):Un fs ex H H h h' :=
 ⟨fun b ob q _ _ _=>k b ob q,fun b ob q _ _ _=>⟨ob.slots,k b ob q⟩,fun _ _ _ n _=>n,fun b ob q _=>⟨ob,k b ob q⟩,fun _ _ q=>q,fun _ _ _ q=>q,fun _ ps q=>⟨#[],by rw [q];simp⟩⟩
theorem Un.refl:Un fs ex H H h h:=Un.kept fun _ _ q=>q
theorem Un.laid (k:∀ b u,h.get? b = some u->h'.get? b = some u) (hp:h.objs.size <= a) (hn:H a = none):Un fs ex H (upd H a o) h h' where
 keep:=fun b u q _ _ _=>k b u q
 slot:=fun b u q _ _ _=>⟨u.slots,k b u q⟩
 free:=fun b u q n _=>by rw [aC (Nat.ne_of_lt (Nat.lt_of_lt_of_le (Heap.lt_size q) hp))];exact n
 there:=fun b u q _=>⟨u,k b u q⟩
 tups:=fun b xs q=>by rw [aC (bg q hn)];exact q
 frzs:=fun b u xs q=>by rw [aC (bg q hn)];exact q
 tbls:=fun b ps q=>⟨#[],by rw [aC (bg q hn),q];simp⟩
theorem Un.write (mu:Mut (H x)) (he:e = x \/ H e = some (.own x)) (k:∀ b u,b ≠ e->h.get? b = some u->h'.get? b = some u) (heo:∃ u,h'.get? e = some u):Un fs ex H (upd H x o) h h':=by
 have hx:∀ b,H b = none->b ≠ x:=fun b n z=>by subst z;rw [n] at mu;exact mu
 have hb:∀ b,H b = none->b ≠ e:=fun b n z=>by
  subst z
  rcases he with r | r
  . exact hx b n r
  . rw [n] at r;cases r
 have hm:∀ b u,H b = some u->¬ Mut (some u)->b ≠ x:=fun b u q nm z=>by subst z;rw [q] at mu;exact nm mu
 refine ⟨fun b u q n _ _=>k b u (hb b n) q,fun b u q n _ _=>⟨u.slots,k b u (hb b n) q⟩,fun b u q n _=>by rw [aC (hx b n)];exact n,fun b u q _=>?_,
  fun b xs q=>by rw [aC (hm b _ q fun z=>z)];exact q,fun b u xs q=>by rw [aC (hm b _ q fun z=>z)];exact q,fun b ps q=>⟨#[],by rw [aC (hm b _ q fun z=>z),q];simp⟩⟩
 by_cases hbe:b = e
 . subst hbe;exact heo
 . exact ⟨u,k b u hbe q⟩
end
def trk (h:Heap) (H:Hp):List Addr:=(List.range h.objs.size).filter fun a=>(H a).isSome
def om (h:Heap) (H:Hp):Heap:=PySem.W.hideAll h (trk h H)
theorem uG (h:Heap) (H:Hp):(om h H).objs.size = h.objs.size:=PySem.W.hideAll_size _ _
theorem v9 {h:Heap} {H:Hp} {b:Addr} {o:Obj} (e:h.get? b = some o) (n:H b = none):(om h H).get? b = some o :=
 PySem.W.hideAll_get _ e fun hm=>by
  have q:(H b).isSome = true:=(List.mem_filter.mp hm).2
  rw [n] at q;simp at q
theorem xu {h:Heap} {H:Hp} {b:Addr} {o:Obj} (e:(om h H).get? b = some o):h.get? b = some o/\H b = none:=by
 have e':h.get? b = some o:=PySem.W.of_hideAll (trk h H) e
 refine ⟨e',?_⟩
 cases q:H b with
 | none=>rfl
 | some x =>
  have hm:b ∈ trk h H:=List.mem_filter.mpr ⟨List.mem_range.mpr (Heap.lt_size e'),by simp [q]⟩
  have z:(om h H).get? b = none:=PySem.W.hideAll_none (trk h H) hm
  rw [z] at e;cases e
def xM (g h:Heap) (L:Addr):List (Addr × Obj):=(List.range h.objs.size).filterMap fun a=>if a = L \/ (g.get? a).isSome = true then none else (h.get? a).map fun o=>(a,o)
def rest (g h:Heap) (L d:Addr):List (Addr × Obj):=(xM g h L).filter fun p=>decide (p.1 ≠ d)
end L2
namespace L2
open PySem PySem.Spec PyProof.Rows
structure Mod (K:PySem.W.Frag) (mg:Str->Option Value) (base:Heap):Prop where
 kin:K.In base
 glob:base.Ns mainGlobals mg
 blt:∃ mb,base.Ns builtinsNs mb/\∀ x:Str,x ≠ "__name__"->mb x = bootBuiltins x
 nolimit:base.NoLimit
structure Cx where
 prog:Program
 w:World
 K:PySem.W.Frag
 mg:Str->Option Value
 base:Heap
 A:Around
 N:List Str
 s₀:Shared
 H₀:Hp
 env:Env
 outer:List Env
 stack:List Env
 ex:List Addr
 fn:Str->Bool
 calm:Bool
 pn:List (Addr × Obj)
 xe:Value->Shared->Prop
def frs (l:List Env):List Addr:=l.filterMap (·.frame)
abbrev Cx.fs (X:Cx):List Addr:=frs X.outer
def Vis (sc:Scope) (x:Str):Prop:=sc.names.lookup x = some .local \/ sc.names.lookup x = some .cell \/ sc.names.lookup x = some .free
def Loc (sc:Scope) (x:Str):Prop:=sc.names.lookup x = some .local \/ sc.names.lookup x = some .cell
def BS (env:Env) (h:Heap) (m:Str->Option Value) (x:Str) (u:Value):Prop :=
 (env.kindOf x = some .local/\m x = some u) \/ ((env.kindOf x = some .cell \/ env.kindOf x = some .free)/\∃ c,env.cells.lookup x = some c/\h.IsCell c (some u))
structure Cx.Ok (X:Cx):Prop where
 mod:Mod X.K X.mg X.base
 kind:X.env.scope.kind = .function
 glob:X.env.globals = mainGlobals
 blt:X.env.builtins = builtinsNs
 above:X.s₀.heap.objs.size <= X.env.locals
 inj:∀ x y c,X.env.cells.lookup x = some c->X.env.cells.lookup y = some c->x = y
 has:∀ x,(X.env.kindOf x = some .cell \/ X.env.kindOf x = some .free)->∃ c,X.env.cells.lookup x = some c
 cab:∀ x c,X.fn x = true->X.env.cells.lookup x = some c->X.s₀.heap.objs.size <= c
 hd:X.calm = true->X.A.handled = none
 frames:X.A.frames = some X.stack
 stk:X.stack = X.outer \/ (X.stack = X.env :: X.outer/\X.env.frame = some X.env.locals)
 exf:∀ b ∈ X.ex,b ≠ X.env.locals/\∀ x c,X.env.cells.lookup x = some c->c ≠ b
 bs:∀ b o,X.base.get? b = some o->X.s₀.heap.get? b = some o/\X.H₀ b = none
 bsz:X.base.objs.size <= X.s₀.heap.objs.size
 noex:∀ b o,X.base.get? b = some o->b ∉ X.ex
 exfs:∀ b ∈ X.ex,b ∉ X.fs
 funs:X.s₀.heap.FunFrames X.base X.outer
 frf:∀ b ∈ X.fs,X.H₀ b = none
structure Inv (X:Cx) (pins:List (Addr × Obj)) (σ:List (Option V)) (H:Hp) (s:Shared):Prop where
 ok:X.Ok
 os:s.os = X.s₀.os
 bare:AllBare s.gens
 base:Un X.fs X.ex X.H₀ H X.s₀.heap s.heap
 loc:∃ m,s.heap.Ns X.env.locals m/\∀ (i:Nat) (x:Str) (v:V),X.N[i]? = some x->σ[i]? = some (some v)->Vis X.env.scope x->∃ u,RelV v u/\BS X.env s.heap m x u
 cell:∀ x c,X.env.cells.lookup x = some c->∃ v,s.heap.IsCell c v
 free:H X.env.locals = none
 freeC:∀ x c,X.env.cells.lookup x = some c->H c = none
 pin:∀ p ∈ X.pn ++ pins,s.heap.get? p.1 = some p.2/\H p.1 = none/\p.1 ≠ X.env.locals/\p.1 ∉ X.fs/\∀ v,p.2.data ≠ .cell v
 hok:HOk X.prog X.w H s.heap
 len:σ.length = X.N.length
section
variable {X:Cx} {pins:List (Addr × Obj)} {σ:List (Option V)} {H H':Hp} {s:Shared} {h':Heap}
theorem Cx.Ok.nofr (ok:X.Ok) {b:Addr} {o:Obj} (e:X.base.get? b = some o):b ∉ X.fs:=fun hb=>by
 have:=(ok.funs.mem hb).1
 rw [e] at this;cases this
theorem Inv.bs (I:Inv X pins σ H s):∀ b o,X.base.get? b = some o->s.heap.get? b = some o/\H b = none:=fun b o e =>
 ⟨I.base.keep b o (I.ok.bs b o e).1 (I.ok.bs b o e).2 (I.ok.nofr e) (I.ok.noex b o e),I.base.free b o (I.ok.bs b o e).1 (I.ok.bs b o e).2 (I.ok.noex b o e)⟩
theorem Inv.bk (I:Inv X pins σ H s):∀ b o,X.base.get? b = some o->s.heap.get? b = some o:=fun b o e=>(I.bs b o e).1
theorem Inv.mod (I:Inv X pins σ H s):Mod X.K X.mg X.base:=I.ok.mod
theorem Inv.kIn (I:Inv X pins σ H s):X.K.In s.heap:=I.ok.mod.kin.keeps I.bk
theorem Inv.lt (I:Inv X pins σ H s):X.env.locals < s.heap.objs.size:=let ⟨_,hn,_⟩:=I.loc;hn.lt
theorem Inv.sz (I:Inv X pins σ H s):X.s₀.heap.objs.size <= s.heap.objs.size:=Nat.le_trans I.ok.above (Nat.le_of_lt I.lt)
theorem Inv.nofs (I:Inv X pins σ H s) {a:Addr} (h:s.heap.objs.size <= a):a ∉ X.fs:=fun hb=>by
 obtain ⟨_,o,ho,_⟩:=I.ok.funs.mem hb
 exact absurd (Nat.lt_of_lt_of_le (Heap.lt_size ho) (Nat.le_trans I.sz h)) (Nat.lt_irrefl _)
theorem Inv.cne (I:Inv X pins σ H s):∀ x c,X.env.cells.lookup x = some c->c ≠ X.env.locals:=fun x c e z=>by
 obtain ⟨v,o,ho,hd⟩:=I.cell x c e
 obtain ⟨m,⟨o',es,ep,ho',hd',_⟩,_⟩:=I.loc
 rw [z,ho'] at ho;cases ho;rw [hd'] at hd;cases hd
theorem Inv.funs (I:Inv X pins σ H s):s.heap.FunFrames X.base X.outer:=by
 have all:∀ (l:List Env),(∀ b ∈ frs l,b ∈ X.fs)->X.s₀.heap.FunFrames X.base l->s.heap.FunFrames X.base l:=by
  intro l
  induction l with
  | nil=>intro _ _;trivial
  | cons env r ih =>
   intro hs hl
   obtain ⟨hk,⟨L,o,hf,hn,ho,hd⟩,hr⟩:=hl
   have hL:L ∈ X.fs:=hs L (by unfold frs;rw [List.filterMap_cons,hf];exact Zo)
   obtain ⟨sl,e⟩:=I.base.slot L o ho (I.ok.frf L hL) hL fun z=>I.ok.exfs L z hL
   exact ⟨hk,⟨L,_,hf,hn,e,hd⟩,ih (fun b hb=>hs b (by unfold frs;rw [List.filterMap_cons,hf];exact Zp _ hb)) hr⟩
 exact all X.outer (fun _ hb=>hb) I.ok.funs
theorem Inv.stack (I:Inv X pins σ H s):s.heap.FunFrames X.base X.stack:=by
 rcases I.ok.stk with e | ⟨e,hf⟩
 . rw [e];exact I.funs
 . rw [e]
   obtain ⟨m,hn,_⟩:=I.loc
   refine .cons (by rw [I.ok.kind];decide) hf hn ?_ I.funs
   exact Heap.get?_none_of_le (Nat.le_trans I.ok.bsz I.ok.above)
theorem Inv.stkSub (I:Inv X pins σ H s):∀ b ∈ frs X.stack,b ∈ X.env.locals :: X.fs:=fun b hb=>by
 rcases I.ok.stk with e | ⟨e,hf⟩
 . rw [e] at hb;exact Zp _ hb
 . rw [e] at hb
   unfold frs at hb
   rw [List.filterMap_cons,hf] at hb
   exact hb
theorem Inv.stkFree (I:Inv X pins σ H s):∀ b ∈ frs X.stack,H b = none:=fun b hb=>by
 rcases Zs.mp (I.stkSub b hb) with e | hb
 . rw [e];exact I.free
 . obtain ⟨_,o,ho,_⟩:=I.ok.funs.mem hb
   exact I.base.free b o ho (I.ok.frf b hb) fun z=>I.ok.exfs b z hb
theorem Inv.step {g':Array GenState} {t':Nat} {d':Drawn} {ch:List Addr} (I:Inv X pins σ H s)
 (hch:∀ b ∈ ch,(b ∈ X.ex \/ X.s₀.heap.objs.size <= b)/\b ≠ X.env.locals/\(∀ x c,X.env.cells.lookup x = some c->c ≠ b)/\∀ p ∈ X.pn ++ pins,p.1 ≠ b)
 (keep:∀ b o,b ≠ X.env.locals->b ∉ X.fs->b ∉ ch->s.heap.get? b = some o->H b = none->h'.get? b = some o)
 (slot:∀ b o,b ≠ X.env.locals->b ∈ X.fs->b ∉ ch->s.heap.get? b = some o->H b = none->∃ sl,h'.get? b = some { o with slots:=sl }) (free:∀ b o,b ∉ ch->s.heap.get? b = some o->H b = none->H' b = none)
 (there:∀ b o,b ∉ ch->s.heap.get? b = some o->∃ o',h'.get? b = some o')
 (tups:∀ b xs,H b = some (.tup xs)->H' b = some (.tup xs)) (frzs:∀ b o u,H b = some (.frz o u)->H' b = some (.frz o u)) (tbls:∀ b ps,H b = some (.tbl ps)->∃ more,H' b = some (.tbl (ps ++ more)))
 (ns:∀ m,s.heap.Ns X.env.locals m->h'.Ns X.env.locals m) (hok:HOk X.prog X.w H' h') (hg:AllBare g') :
 Inv X pins σ H' { s with heap:=h',gens:=g',drawn:=d',toks:=t' }:=by
 have neL:∀ b o,X.s₀.heap.get? b = some o->b ≠ X.env.locals:=fun b o e=>Nat.ne_of_lt (Nat.lt_of_lt_of_le (Heap.lt_size e) I.ok.above)
 have neC:∀ b o,X.s₀.heap.get? b = some o->b ∉ X.ex->b ∉ ch:=fun b o e hx hb=>by
  rcases (hch b hb).1 with z | z
  . exact hx z
  . exact absurd (Nat.lt_of_lt_of_le (Heap.lt_size e) z) (Nat.lt_irrefl _)
 have cellK:∀ x c,X.env.cells.lookup x = some c->∀ v,s.heap.IsCell c v->h'.IsCell c v:=fun x c e v ⟨o,ho,hd⟩=>by
  have nch:c ∉ ch:=fun z=>(hch c z).2.2.1 x c e rfl
  by_cases hc:c ∈ X.fs
  . obtain ⟨sl,q⟩:=slot c o (I.cne x c e) hc nch ho (I.freeC x c e)
    exact ⟨_,q,hd⟩
  . exact ⟨o,keep c o (I.cne x c e) hc nch ho (I.freeC x c e),hd⟩
 refine ⟨I.ok,I.os,hg,⟨fun b o e n hb hx=>?_,fun b o e n hb hx=>?_,fun b o e n hx=>?_,fun b o e hx=>?_,fun b xs e=>tups b xs (I.base.tups b xs e),fun b o xs e=>frzs b o xs (I.base.frzs b o xs e),fun b ps e=>?_⟩,?_,fun x c e=>?_,?_,fun x c e=>?_,fun p hp=>?_,hok,I.len⟩
 . exact keep b o (neL b o e) hb (neC b o e hx) (I.base.keep b o e n hb hx) (I.base.free b o e n hx)
 . obtain ⟨sl,e1⟩:=I.base.slot b o e n hb hx
   obtain ⟨sl',e2⟩:=slot b _ (neL b o e) hb (neC b o e hx) e1 (I.base.free b o e n hx)
   exact ⟨sl',e2⟩
 . obtain ⟨o',e1⟩:=I.base.there b o e hx
   exact free b o' (neC b o e hx) e1 (I.base.free b o e n hx)
 . obtain ⟨o',e1⟩:=I.base.there b o e hx
   exact there b o' (neC b o e hx) e1
 . obtain ⟨m1,e1⟩:=I.base.tbls b ps e
   obtain ⟨m2,e2⟩:=tbls b _ e1
   exact ⟨m1 ++ m2,by rw [e2,Array.append_assoc]⟩
 . obtain ⟨m,hn,hl⟩:=I.loc
   refine ⟨m,ns m hn,fun i x v e1 e2 e3=>?_⟩
   obtain ⟨u,r,l⟩:=hl i x v e1 e2 e3
   refine ⟨u,r,?_⟩
   rcases l with l | ⟨k,c,e,z⟩
   . exact .inl l
   . exact .inr ⟨k,c,e,cellK x c e _ z⟩
 . obtain ⟨v,z⟩:=I.cell x c e
   exact ⟨v,cellK x c e v z⟩
 . obtain ⟨m,⟨o,_,_,ho,_⟩,_⟩:=I.loc
   exact free _ o (fun z=>(hch _ z).2.1 rfl) ho I.free
 . obtain ⟨v,o,ho,hd⟩:=I.cell x c e
   exact free c o (fun z=>(hch c z).2.2.1 x c e rfl) ho (I.freeC x c e)
 . obtain ⟨e,n,ne,nf,d⟩:=I.pin p hp
   have nch:p.1 ∉ ch:=fun z=>(hch p.1 z).2.2.2 p hp rfl
   exact ⟨keep p.1 p.2 ne nf nch e n,free p.1 p.2 nch e n,ne,nf,d⟩
theorem Inv.un {t':Nat} (I:Inv X pins σ H s) (u:Un X.fs [] H H' s.heap h') (hok:HOk X.prog X.w H' h'):Inv X pins σ H' { s with heap:=h',toks:=t' }:=by
 obtain ⟨m,⟨o,es,ep,ho,r⟩,_⟩:=id I.loc
 obtain ⟨sl,hL⟩:=u.any ho I.free (by simp)
 exact I.step (g':=s.gens) (d':=s.drawn) (ch:=[]) (fun _ z=>nomatch z) (fun b o _ hb _ e n=>u.keep b o e n hb (by simp)) (fun b o _ hb _ e n=>u.slot b o e n hb (by simp)) (fun b o _ e n=>u.free b o e n (by simp)) (fun b o _ e=>u.there b o e (by simp)) u.tups u.frzs u.tbls (fun m' hm=>by
  obtain ⟨o',es',ep',ho',r'⟩:=hm
  rw [ho] at ho';cases ho'
  exact ⟨_,es',ep',hL,r'⟩) hok I.bare
theorem Inv.call {g':Array GenState} {t':Nat} {d':Drawn} {ch:List Addr} (I:Inv X pins σ H s) (u:Un (frs X.stack) ch H H' s.heap h') (hok:HOk X.prog X.w H' h') (hg:AllBare g')
 (hch:∀ b ∈ ch,(b ∈ X.ex \/ X.s₀.heap.objs.size <= b)/\b ≠ X.env.locals/\(∀ x c,X.env.cells.lookup x = some c->c ≠ b)/\∀ p ∈ X.pn ++ pins,p.1 ≠ b) :
 Inv X pins σ H' { s with heap:=h',gens:=g',drawn:=d',toks:=t' }:=by
 obtain ⟨m,⟨o,es,ep,ho,r⟩,_⟩:=id I.loc
 obtain ⟨sl,hL⟩:=u.any ho I.free fun z=>(hch _ z).2.1 rfl
 exact I.step (ch:=ch) hch (fun b o hL hb hc e n=>u.keep b o e n (fun z=>(Zs.mp (I.stkSub b z)).elim hL hb) hc) (fun b o _ _ hc e n=>u.any e n hc) (fun b o hc e n=>u.free b o e n hc) (fun b o hc e=>u.there b o e hc) u.tups u.frzs u.tbls (fun m' hm=>by
  obtain ⟨o',es',ep',ho',r'⟩:=hm
  rw [ho] at ho';cases ho'
  exact ⟨_,es',ep',hL,r'⟩) hok hg
theorem Inv.turned {t':Nat} {it:Addr} (I:Inv X pins σ H s) (k:∀ b o,b ≠ it->s.heap.get? b = some o->h'.get? b = some o) (hn:H it = none) (hL:it ≠ X.env.locals)
 (h1:it ∈ X.ex \/ X.s₀.heap.objs.size <= it) (h2:∀ x c,X.env.cells.lookup x = some c->c ≠ it) (h3:∀ p ∈ X.pn ++ pins,p.1 ≠ it):Inv X pins σ H { s with heap:=h',toks:=t' }:=by
 have nit:∀ b u,H b = some u->b ≠ it:=fun b u e z=>by rw [z,hn] at e;cases e
 refine I.step (g':=s.gens) (d':=s.drawn) (ch:=[it]) (fun b hb=>?_) (fun b o _ _ hc e _=>k b o (fun z=>hc (by simp [z])) e) (fun b o _ _ hc e _=>⟨o.slots,k b o (fun z=>hc (by simp [z])) e⟩) (fun _ _ _ _ n=>n)
  (fun b o hc e=>⟨o,k b o (fun z=>hc (by simp [z])) e⟩) (fun _ _ e=>e) (fun _ _ _ e=>e) (fun b ps e=>⟨#[],by rw [e];simp⟩) (fun m hm=>?_) (fun b u e=>?_) I.bare
 . have e:b = it:=by simpa using hb
   subst e
   exact ⟨h1,hL,h2,h3⟩
 . obtain ⟨o,es,ep,ho,r⟩:=hm
   exact ⟨o,es,ep,k _ o (Ne.symm hL) ho,r⟩
 . refine (I.hok b u e).stay (fun c v hc q=>k c v ?_ q) (fun _ q=>q) fun _ _ q=>q
   rcases hc with z | z
   . rw [z];exact nit b u e
   . exact nit c _ z
theorem Inv.tok (I:Inv X pins σ H s) (t:Nat):Inv X pins σ H { s with toks:=t }:=I.un (h':=s.heap) (t':=t) Un.refl I.hok
theorem Inv.kept {t':Nat} (I:Inv X pins σ H s) (k:∀ b u,s.heap.get? b = some u->h'.get? b = some u):Inv X pins σ H { s with heap:=h',toks:=t' }:=I.un (Un.kept k) (I.hok.kept k)
theorem Inv.laid {a:Addr} {o:HO} {t':Nat} (I:Inv X pins σ H s) (k:∀ b u,s.heap.get? b = some u->h'.get? b = some u) (hp:s.heap.objs.size <= a) (new:ObjOk X.prog X.w (upd H a o) h' a o) :
 Inv X pins σ (upd H a o) { s with heap:=h',toks:=t' }:=I.un (Un.laid k hp (I.hok.fresh hp)) (I.hok.laid k hp new)
theorem Inv.write {x e:Addr} {o:HO} {t':Nat} (I:Inv X pins σ H s) (mu:Mut (H x)) (he:e = x \/ H e = some (.own x)) (k:∀ b u,b ≠ e->s.heap.get? b = some u->h'.get? b = some u) (heo:∃ u,h'.get? e = some u)
 (new:ObjOk X.prog X.w (upd H x o) h' x o):Inv X pins σ (upd H x o) { s with heap:=h',toks:=t' }:=I.un (Un.write mu he k heo) (I.hok.write mu he k heo new)
theorem Inv.pins_of {pins':List (Addr × Obj)} (I:Inv X pins σ H s) (h:∀ p ∈ pins',s.heap.get? p.1 = some p.2/\H p.1 = none/\p.1 ≠ X.env.locals/\p.1 ∉ X.fs/\∀ v,p.2.data ≠ .cell v):Inv X pins' σ H s :=
 ⟨I.ok,I.os,I.bare,I.base,I.loc,I.cell,I.free,I.freeC,fun p hp=>(Zr.mp hp).elim (fun z=>I.pin p (List.mem_append_left _ z)) (h p),I.hok,I.len⟩
theorem pF {N:List Str} (hN:N.Nodup) {i j:Nat} {x:Str} (a:N[i]? = some x) (b:N[j]? = some x):i = j:=by
 obtain ⟨h1,e1⟩:=List.getElem?_eq_some_iff.mp a
 obtain ⟨h2,e2⟩:=List.getElem?_eq_some_iff.mp b
 exact (List.getElem_inj hN).mp (e1.trans e2.symm)
theorem mN {M:Model} {A:Around} {E:Value->Shared->Prop} {i:Nat} {x:Str} {v:V} {u:Value} {Q:Unit->Shared->Prop} (I:Inv X pins σ H s) (hN:X.N.Nodup) (hi:X.N[i]? = some x) (hx:Loc X.env.scope x) (r:RelV v u)
 (h:∀ s',Inv X pins (σ.set i (some v)) H s'->(∃ a,Heap.SameBut a s.heap s'.heap/\(a = X.env.locals \/ X.env.cells.lookup x = some a))->Q () s') (hf:X.fn x = true \/ X.env.scope.names.lookup x = some .local:=by first | exact .inl rfl | exact .inr rfl | assumption):wpAny M A (storeName X.env x u) Q E s:=by
 obtain ⟨m,hn,hl⟩:=id I.loc
 have hcls:(X.env.scope.kind == .class || (X.env.scope.kind == .module && X.env.locals != X.env.globals)) = false:=by rw [I.ok.kind];rfl
 have hiσ:i < σ.length:=by rw [I.len];exact (List.getElem?_eq_some_iff.mp hi).1
 have cne:=I.cne
 have tracked:∀ {a:Addr} {h':Heap},(∃ o,s.heap.get? a = some o/\H a = none)->Heap.SameBut a s.heap h'->HOk X.prog X.w H h':=fun {a h'} ha hs b ob e=>by
  obtain ⟨_,_,hfree⟩:=ha
  refine (I.hok b ob e).stay (fun c w' hc q=>(hs.2 c ?_).trans q) (fun _ q=>q) fun _ _ q=>q
  rintro rfl
  rcases hc with rfl | hc
  . rw [hfree] at e;cases e
  . rw [hfree] at hc;cases hc
 rcases hx with hk | hk
 . refine wpAny_storeName_local hk hn (fun h' hn' hs=>?_) hcls
   obtain ⟨oL,_,_,hoL,_⟩:=id hn
   refine h _ ⟨I.ok,I.os,I.bare,⟨fun b o e n hb hx=>?_,fun b o e n hb hx=>?_,I.base.free,fun b o e hx=>?_,I.base.tups,I.base.frzs,I.base.tbls⟩,⟨_,hn',fun j y v' e1 e2 e3=>?_⟩,fun y c e=>?_,I.free,I.freeC,fun p hp=>?_,tracked ⟨oL,hoL,I.free⟩ hs,by simpa using I.len⟩ ⟨_,hs,.inl rfl⟩
   . exact (hs.2 b (Nat.ne_of_lt (Nat.lt_of_lt_of_le (Heap.lt_size e) I.ok.above))).trans (I.base.keep b o e n hb hx)
   . obtain ⟨sl,e1⟩:=I.base.slot b o e n hb hx
     exact ⟨sl,(hs.2 b (Nat.ne_of_lt (Nat.lt_of_lt_of_le (Heap.lt_size e) I.ok.above))).trans e1⟩
   . obtain ⟨o',e1⟩:=I.base.there b o e hx
     exact ⟨o',(hs.2 b (Nat.ne_of_lt (Nat.lt_of_lt_of_le (Heap.lt_size e) I.ok.above))).trans e1⟩
   . by_cases hj:j = i
     . subst hj
       rw [hi] at e1;cases e1
       rw [List.getElem?_set_self hiσ] at e2
       cases e2
       exact ⟨u,r,.inl ⟨hk,by simp⟩⟩
     . rw [List.getElem?_set_ne (Ne.symm hj)] at e2
       obtain ⟨u',r',q⟩:=hl j y v' e1 e2 e3
       refine ⟨u',r',?_⟩
       rcases q with ⟨k,e⟩ | ⟨k,c,e,z⟩
       . refine .inl ⟨k,?_⟩
         have:y ≠ x:=fun e=>hj (pF hN e1 (e ▸ hi))
         simp [this,e]
       . exact .inr ⟨k,c,e,z.sameBut hs (cne y c e)⟩
   . obtain ⟨w',z⟩:=I.cell y c e
     exact ⟨w',z.sameBut hs (cne y c e)⟩
   . obtain ⟨e,n,ne,nf,d⟩:=I.pin p hp
     exact ⟨(hs.2 p.1 ne).trans e,n,ne,nf,d⟩
 . have hfn:X.fn x = true:=by
    rcases hf with z | z
    . exact z
    . rw [z] at hk;cases hk
   obtain ⟨c,hc⟩:=I.ok.has x (.inl hk)
   obtain ⟨w',z⟩:=I.cell x c hc
   refine wpAny_storeName_cell I.ok.kind hk hc z (fun h' hc' hs=>?_)
   obtain ⟨oc,hoc,hocd⟩:=id z
   refine h { s with heap:=h' } ⟨I.ok,I.os,I.bare,⟨fun b o e n hb hx=>?_,fun b o e n hb hx=>?_,I.base.free,fun b o e hx=>?_,I.base.tups,I.base.frzs,I.base.tbls⟩,⟨m,hn.sameBut hs (Ne.symm (cne x c hc)),fun j y v' e1 e2 e3=>?_⟩,fun y c' e=>?_,I.free,I.freeC,fun p hp=>?_,tracked ⟨oc,hoc,I.freeC x c hc⟩ hs,by simpa using I.len⟩ ⟨c,hs,.inr hc⟩
   . exact (hs.2 b (Nat.ne_of_lt (Nat.lt_of_lt_of_le (Heap.lt_size e) (I.ok.cab x c hfn hc)))).trans (I.base.keep b o e n hb hx)
   . obtain ⟨sl,e1⟩:=I.base.slot b o e n hb hx
     exact ⟨sl,(hs.2 b (Nat.ne_of_lt (Nat.lt_of_lt_of_le (Heap.lt_size e) (I.ok.cab x c hfn hc)))).trans e1⟩
   . obtain ⟨o',e1⟩:=I.base.there b o e hx
     exact ⟨o',(hs.2 b (Nat.ne_of_lt (Nat.lt_of_lt_of_le (Heap.lt_size e) (I.ok.cab x c hfn hc)))).trans e1⟩
   . by_cases hj:j = i
     . subst hj
       rw [hi] at e1;cases e1
       rw [List.getElem?_set_self hiσ] at e2
       cases e2
       exact ⟨u,r,.inr ⟨.inl hk,c,hc,hc'⟩⟩
     . rw [List.getElem?_set_ne (Ne.symm hj)] at e2
       obtain ⟨u',r',q⟩:=hl j y v' e1 e2 e3
       refine ⟨u',r',?_⟩
       rcases q with q | ⟨k,c',e,z'⟩
       . exact .inl q
       . refine .inr ⟨k,c',e,z'.sameBut hs ?_⟩
         rintro rfl
         exact hj (pF hN e1 (I.ok.inj _ _ _ e hc ▸ hi))
   . by_cases hcc:c' = c
     . subst hcc;exact ⟨_,hc'⟩
     . obtain ⟨w2,z2⟩:=I.cell y c' e
       exact ⟨w2,z2.sameBut hs hcc⟩
   . obtain ⟨e,n,ne,nf,d⟩:=I.pin p hp
     refine ⟨(hs.2 p.1 ?_).trans e,n,ne,nf,d⟩
     intro q
     rw [q,hoc] at e
     have q':oc = p.2:=Option.some.inj e
     exact d w' (by rw [<- q'];exact hocd)
theorem iZ {M:Model} {A:Around} {E:Value->Shared->Prop} {i:Nat} {x:Str} {v:V} {u:Value} {Q:Unit->Shared->Prop} (I:Inv X pins σ H s) (hN:X.N.Nodup) (hi:X.N[i]? = some x) (hx:Loc X.env.scope x) (r:RelV v u)
 (h:∀ s',Inv X pins (σ.set i (some v)) H s'->Q () s') (hf:X.fn x = true \/ X.env.scope.names.lookup x = some .local:=by first | exact .inl rfl | exact .inr rfl | assumption):wpAny M A (storeName X.env x u) Q E s :=
 mN I hN hi hx r (fun s' I' _=>h s' I') hf
theorem Inv.call' {s':Shared} {ch:List Addr} (I:Inv X pins σ H s) (ho:s'.os = s.os) (u:Un (frs X.stack) ch H H' s.heap s'.heap) (hok:HOk X.prog X.w H' s'.heap) (hg:AllBare s'.gens)
 (hch:∀ b ∈ ch,(b ∈ X.ex \/ X.s₀.heap.objs.size <= b)/\b ≠ X.env.locals/\(∀ x c,X.env.cells.lookup x = some c->c ≠ b)/\∀ p ∈ X.pn ++ pins,p.1 ≠ b):Inv X pins σ H' s':=by
 obtain ⟨h',g',d',t',o'⟩:=s'
 have e:o' = s.os:=ho
 subst e
 exact I.call (g':=g') (t':=t') (d':=d') u hok hg hch
end
abbrev XK:=Value->Option Addr->Hp->Prop
abbrev St:=List (Option V)
abbrev VK:=V->Hp->Prop
abbrev TE:=St->Hp->VK->Prop
abbrev TT:=St->Hp->(Bool->Hp->Prop)->Prop
abbrev TA:=St->Hp->(List V->Hp->Prop)->Prop
structure mh where
 nx:St->Hp->Prop
 rt:VK
 bk:St->Hp->Prop:=fun _ _=>False
 ct:St->Hp->Prop:=fun _ _=>False
abbrev TS:=mh->St->Hp->Prop
def EP (X:Cx) (pins:List (Addr × Obj)) (σ:St) (Q:VK) (u:Value) (s':Shared):Prop:=∃ v H',Inv X pins σ H' s'/\RelV v u/\Q v H'
def TP (X:Cx) (pins:List (Addr × Obj)) (σ:St) (Q:Bool->Hp->Prop) (b:Bool) (s':Shared):Prop:=∃ H',Inv X pins σ H' s'/\Q b H'
def AP (X:Cx) (pins:List (Addr × Obj)) (σ:St) (Q:List V->Hp->Prop) (us:List Value) (s':Shared):Prop:=∃ vs H',Inv X pins σ H' s'/\Vals vs us/\Q vs H'
def SP (X:Cx) (pins:List (Addr × Obj)) (D:mh) (f:Flow) (s':Shared):Prop :=
 match f with
 | .next=>∃ σ' H',Inv X pins σ' H' s'/\D.nx σ' H'
 | .brk=>∃ σ' H',Inv X pins σ' H' s'/\D.bk σ' H'
 | .cont=>∃ σ' H',Inv X pins σ' H' s'/\D.ct σ' H'
 | .ret u=>∃ v σ' H',Inv X pins σ' H' s'/\RelV v u/\D.rt v H'
def PE (X:Cx) (e:Expr) (t:TE):Prop :=
 ∀ (pins:List (Addr × Obj)) (s:Shared) (σ:St) (H:Hp) (Q:VK),Inv X pins σ H s->t σ H Q->wpAny (model X.prog X.w) X.A (eval e X.env) (EP X pins σ Q) X.xe s
def PT (X:Cx) (e:Expr) (t:TT):Prop :=
 ∀ (pins:List (Addr × Obj)) (s:Shared) (σ:St) (H:Hp) (Q:Bool->Hp->Prop),Inv X pins σ H s->t σ H Q->wpAny (model X.prog X.w) X.A (isTrue e X.env (eval e X.env)) (TP X pins σ Q) X.xe s
def PW (X:Cx) (e:Expr) (t:TT):Prop :=
 ∀ (whole:Sem Value) (pins:List (Addr × Obj)) (s:Shared) (σ:St) (H:Hp) (Q:Bool->Hp->Prop),Inv X pins σ H s->t σ H Q->wpAny (model X.prog X.w) X.A (isTrue e X.env whole) (TP X pins σ Q) X.xe s
def PA (X:Cx) (es:List Expr) (t:TA):Prop :=
 ∀ (pos:Pos) (pins:List (Addr × Obj)) (s:Shared) (σ:St) (H:Hp) (Q:List V->Hp->Prop),Inv X pins σ H s->t σ H Q->wpAny (model X.prog X.w) X.A (spliced (backTo pos (starEach es X.env))) (AP X pins σ Q) X.xe s
def PS (X:Cx) (st:Stmt) (t:TS):Prop :=
 ∀ (pins:List (Addr × Obj)) (s:Shared) (σ:St) (H:Hp) (D:mh),Inv X pins σ H s->t D σ H->wpAny (model X.prog X.w) X.A (exec st X.env) (SP X pins D) X.xe s
def PSs (X:Cx) (st:List Stmt) (t:TS):Prop :=
 ∀ (pins:List (Addr × Obj)) (s:Shared) (σ:St) (H:Hp) (D:mh),Inv X pins σ H s->t D σ H->wpAny (model X.prog X.w) X.A (execs st X.env) (SP X pins D) X.xe s
theorem thn {α:Type} {t:Sem α} {Q Q':α->Shared->Prop} {M:Model} {A:Around} {E:Value->Shared->Prop} {s:Shared} (h:wpAny M A t Q E s) (hQ:∀ a s,Q a s->Q' a s):wpAny M A t Q' E s:=wpAny_mono h hQ fun _ _ x=>x
end L2
namespace L2
open PySem PySem.Spec PyProof.Rows
section
variable {X:Cx}
def wV (i:Nat):TE:=fun σ H Q=>∃ v,σ[i]? = some (some v)/\Q v H
def tC (v:V):TE:=fun _ H Q=>Q v H
theorem iR {i:Nat} {x:Str} {pos:Pos} (hN:X.N[i]? = some x) (hv:Vis X.env.scope x) (hd:(x == ("__debug__":Str)) = false:=by decide) (hcd:(x == ("__classdict__":Str)) = false:=by decide):PE X (.Name x pos) (wV i):=by
 intro pins s σ H Q I h
 obtain ⟨v,e,h⟩:=h
 obtain ⟨m,hn,hl⟩:=I.loc
 obtain ⟨u,r,l⟩:=hl i x v hN e hv
 have fin:EP X pins σ Q u s:=⟨v,H,I,r,h⟩
 rcases l with ⟨hk,hm⟩ | ⟨hk,c,hc,hcell⟩
 . exact wpAny_Name (wpAny_loadName_local I.ok.kind hk hn hm fin) hd
 . rcases hk with hk | hk
   . exact wpAny_Name (wpAny_loadName_cell I.ok.kind hk hc hcell fin) hd
   . exact wpAny_Name (wpAny_loadName_free I.ok.kind hk hc hcell fin hcd) hd
theorem zq {i j pos}:PE X (.Constant (.int i) j pos) (tC (.int i)):=fun _ _ _ H _ I h=>wpAny_Constant_int ⟨.int i,H,I.tok _,⟨_,rfl⟩,h⟩
theorem AS {b j pos}:PE X (.Constant (.bool b) j pos) (tC (.bl b)):=fun _ _ _ H _ I h=>Constant_bool ⟨.bl b,H,I,rfl,h⟩
theorem zp {j pos}:PE X (.Constant .none j pos) (tC .non):=fun _ _ _ H _ I h=>Constant_none ⟨.non,H,I,rfl,h⟩
def Gl (X:Cx) (x:Str):Prop:=X.env.kindOf x = some .globalImplicit
theorem xy {E:Value->Shared->Prop} {pins:List (Addr × Obj)} {s:Shared} {σ:St} {H:Hp} {x:Str} {u:Value} {pos:Pos} {Q:Value->Shared->Prop} (I:Inv X pins σ H s) (hg:Gl X x) (hm:X.mg x = some u) (h:Q u s)
 (hd:(x == ("__debug__":Str)) = false:=by decide):wpAny (model X.prog X.w) X.A (eval (.Name x pos) X.env) Q E s :=
 Calls.Name_function_global I.ok.kind hg (Calls.loadGlobal_global (by rw [I.ok.glob];exact I.mod.glob.keeps I.bk) hm h) hd
theorem lK {E:Value->Shared->Prop} {pins:List (Addr × Obj)} {s:Shared} {σ:St} {H:Hp} {x:Str} {u:Value} {pos:Pos} {Q:Value->Shared->Prop} (I:Inv X pins σ H s) (hg:Gl X x) (hm:X.mg x = none) (hv:bootBuiltins x = some u) (h:Q u s)
 (hn:x ≠ "__name__":=by decide) (hd:(x == ("__debug__":Str)) = false:=by decide):wpAny (model X.prog X.w) X.A (eval (.Name x pos) X.env) Q E s:=by
 obtain ⟨mb,h1,h2⟩:=I.mod.blt
 exact Calls.Name_function_global I.ok.kind hg (Calls.loadGlobal_builtin (by rw [I.ok.glob];exact I.mod.glob.keeps I.bk) hm (by rw [I.ok.blt];exact h1.keeps I.bk) ((h2 x hn).trans hv) h) hd
theorem xm {x:Str} {v:V} {u:Value} {pos:Pos} (hg:Gl X x) (hm:X.mg x = none) (hv:bootBuiltins x = some u) (r:RelV v u) (hn:x ≠ "__name__":=by decide) (hd:(x == ("__debug__":Str)) = false:=by decide):PE X (.Name x pos) (tC v) :=
 fun _ _ _ H _ I h=>lK I hg hm hv ⟨v,H,I,r,h⟩ hn hd
variable {a b:Expr} {ta tb:TE} {pos:Pos}
def tB (t:TE):TT:=fun σ H Q=>t σ H fun x H1=>∃ c,x = .bl c/\Q c H1
theorem zc {e:Expr} {t:TE} (h:PE X e t) (he:∀ whole,isTrue e X.env whole = (do let v <- whole;standAt e.pos;holding [v] (truthy v)):=by intro _;rfl):PT X e (tB t):=by
 intro pins s σ H Q I hw
 refine isTrue_plain (thn (h pins s σ H _ I hw) fun v s1 ⟨x,H1,I1,r1,q1⟩=>?_) (he _)
 obtain ⟨d,rfl,q⟩:=q1
 cases r1
 exact wpAny_truthy_bool ⟨H1,I1,q⟩
variable {tA tB':TT} {rest:List Expr}
def BB (t u:TT):TT:=fun σ H Q=>t σ H fun c H1=>if c = true then u σ H1 Q else Q false H1
def tOr (t u:TT):TT:=fun σ H Q=>t σ H fun c H1=>if c = true then Q true H1 else u σ H1 Q
def Bx (t:TT):TT:=fun σ H Q=>t σ H fun c H1=>Q (!c) H1
theorem xa (ha:PT X a tA):PW X (.BoolOp .And [a] pos) tA:=by
 intro wh pins s σ H Q I h
 refine isTrue_and (thn (ha pins s σ H Q I h) fun c s1 e=>?_)
 cases c with
 | true=>exact isTrue_and_nil e
 | false=>exact e
theorem yQ (ha:PT X a tA):PW X (.BoolOp .Or [a] pos) tA:=by
 intro wh pins s σ H Q I h
 refine isTrue_or (thn (ha pins s σ H Q I h) fun c s1 e=>?_)
 cases c with
 | false=>exact isTrue_or_nil e
 | true=>exact e
theorem yS (ha:PT X a tA) (hb:PW X (.BoolOp .And (b :: rest) pos) tB'):PW X (.BoolOp .And (a :: b :: rest) pos) (BB tA tB'):=by
 intro wh pins s σ H Q I h
 refine isTrue_and (thn (ha pins s σ H _ I h) fun c s1 ⟨H1,I1,q1⟩=>?_)
 cases c with
 | true=>exact hb wh pins s1 σ H1 Q I1 q1
 | false=>exact ⟨H1,I1,q1⟩
theorem AM (ha:PT X a tA) (hb:PW X (.BoolOp .Or (b :: rest) pos) tB'):PW X (.BoolOp .Or (a :: b :: rest) pos) (tOr tA tB'):=by
 intro wh pins s σ H Q I h
 refine isTrue_or (thn (ha pins s σ H _ I h) fun c s1 ⟨H1,I1,q1⟩=>?_)
 cases c with
 | true=>exact ⟨H1,I1,q1⟩
 | false=>exact hb wh pins s1 σ H1 Q I1 q1
theorem zd (ha:PT X a tA):PT X (.UnaryOp .Not a pos) (Bx tA):=by
 intro pins s σ H Q I h
 exact isTrue_not (ha pins s σ H (fun c H1=>Q (!c) H1) I h)
def Ax (ta tb:TE):TE:=fun σ H Q=>ta σ H fun x H1=>∃ c,x = .bl c/\if c = true then tb σ H1 Q else Q (.bl false) H1
def Ar (ta:TE):TE:=fun σ H Q=>ta σ H fun x H1=>∃ c,x = .bl c/\Q (.bl (!c)) H1
theorem zm {op} {t:TE} (h:PE X a t):PE X (.BoolOp op [a] pos) t:=fun pins s σ H Q I hw=>BoolOp_one (h pins s σ H Q I hw)
theorem zr (ha:PE X a ta) (hb:PE X (.BoolOp .And (b :: rest) pos) tb):PE X (.BoolOp .And (a :: b :: rest) pos) (Ax ta tb):=by
 intro pins s σ H Q I h
 refine BoolOp_and (thn (ha pins s σ H _ I h) fun v s1 ⟨x,H1,I1,r1,q1⟩=>?_)
 obtain ⟨c,rfl,q1⟩:=q1
 cases r1
 refine wpAny_truthy_bool ?_
 cases c with
 | true=>exact hb pins s1 σ H1 Q I1 q1
 | false=>exact ⟨.bl false,H1,I1,rfl,q1⟩
theorem zn (ha:PE X a ta):PE X (.UnaryOp .Not a pos) (Ar ta):=by
 intro pins s σ H Q I h
 refine UnaryOp_ (thn (ha pins s σ H _ I h) fun v s1 ⟨x,H1,I1,r1,q1⟩=>?_)
 obtain ⟨c,rfl,q1⟩:=q1
 cases r1
 exact not_of (wpAny_truthy_bool ⟨.bl (!c),H1,I1,rfl,q1⟩)
def tIf (t:TT) (ta tb:TE):TE:=fun σ H Q=>t σ H fun c H1=>if c = true then ta σ H1 Q else tb σ H1 Q
theorem vB {c:Expr} (hc:PT X c tA) (ha:PE X a ta) (hb:PE X b tb):PE X (.IfExp c a b pos) (tIf tA ta tb):=by
 intro pins s σ H Q I h
 refine wpAny_IfExp (thn (hc pins s σ H _ I h) fun d s1 ⟨H1,I1,q1⟩=>?_)
 cases d with
 | true=>exact ha pins s1 σ H1 Q I1 q1
 | false=>exact hb pins s1 σ H1 Q I1 q1
end
end L2
namespace L2
open PySem PySem.Spec PyProof.Rows
def SqL (K:PySem.W.Frag) (H:Hp) (a:Addr) (xs:List V):Prop :=
 Rd H a (.lst xs) \/
  ∃ (o:Obj) (its:Array Value) (n:Nat),K.lookup a = some o/\o.cls = .type "list"/\o.dict = none/\o.data = .seq its n/\its.size <= sizeLine/\Vals xs its.toList
def SqT (K:PySem.W.Frag) (H:Hp) (a:Addr) (xs:List V):Prop :=
 Rd H a (.tup xs) \/
  ∃ (o:Obj) (its:Array Value) (n:Nat),K.lookup a = some o/\o.cls = .type "tuple"/\o.data = .seq its n/\its.size <= sizeLine/\Vals xs its.toList
def BR:Value->Option V
 | .none=>some .non
 | .bool b=>some (.bl b)
 | .int i _=>some (.int i)
 | .str x _=>some (.str x)
 | .bytes b _=>some (.byt b)
 | .float b _=>some (.flt b)
 | .ref a=>some (.ref a)
 | .type n=>some (.ty n)
 | _=>none
theorem RelV.abs {x:V} {u:Value} (r:RelV x u):BR u = some x:=by
 cases x with
 | non=>cases r;rfl
 | bl _=>cases r;rfl
 | int _=>obtain ⟨t,rfl⟩:=r;rfl
 | str _=>obtain ⟨t,rfl⟩:=r;rfl
 | byt _=>obtain ⟨t,rfl⟩:=r;rfl
 | flt _=>obtain ⟨t,rfl⟩:=r;rfl
 | ref _=>cases r;rfl
 | ty _=>cases r;rfl
theorem RelV.inj {x y:V} {u:Value} (r:RelV x u) (q:RelV y u):x = y:=Option.some.inj (r.abs.symm.trans q.abs)
theorem Vals.inj:∀ {xs ys:List V} {us:List Value},Vals xs us->Vals ys us->xs = ys
 | _,_,_,.nil,.nil=>rfl
 | _,_,_,.cons r t,.cons r' t'=>by rw [r.inj r',Vals.inj t t']
section
variable {X:Cx} {pins:List (Addr × Obj)} {σ:St} {H:Hp} {s:Shared} {a:Addr} {xs ys:List V}
theorem SqL.of {K:PySem.W.Frag} (h:H a = some (.lst xs)):SqL K H a xs:=.inl (.inl h)
theorem SqT.of {K:PySem.W.Frag} (h:H a = some (.tup xs)):SqT K H a xs:=.inl (.inl h)
theorem Inv.list (I:Inv X pins σ H s) (h:SqL X.K H a xs):∃ its:List Value,Vals xs its/\PlainL s.heap a its.toArray/\xs.length <= sizeLine:=by
 rcases h with h | ⟨o,its,n,hk,hc,hd,hs,hz,r⟩
 . obtain ⟨z,its,n,r,e⟩:=h.ok I.hok
   exact ⟨its,r,⟨_,n,e,rfl,rfl,rfl⟩,z⟩
 . refine ⟨its.toList,r,⟨o,n,I.kIn a o hk,hc,hd,by simpa using hs⟩,?_⟩
   have e:=r.length
   simp only [Array.length_toList] at e
   omega
theorem Inv.tuple (I:Inv X pins σ H s) (h:SqT X.K H a xs):∃ its:List Value,Vals xs its/\IsTup s.heap a its.toArray/\xs.length <= sizeLine:=by
 rcases h with h | ⟨o,its,n,hk,hc,hs,hz,r⟩
 . obtain ⟨z,its,r,p⟩:=h.ok I.hok
   exact ⟨its,r,p,z⟩
 . refine ⟨its.toList,r,⟨o,I.kIn a o hk,hc,n,by simpa using hs⟩,?_⟩
   have e:=r.length
   simp only [Array.length_toList] at e
   omega
theorem Inv.list_inj (I:Inv X pins σ H s) (h:SqL X.K H a xs) (h':SqL X.K H a ys):xs = ys:=by
 obtain ⟨its,r,⟨o,n,e,_,_,d⟩,_⟩:=I.list h
 obtain ⟨its',r',⟨o',n',e',_,_,d'⟩,_⟩:=I.list h'
 rw [e] at e';cases e'
 rw [d] at d'
 injection d' with d1 _
 have:its = its':=by simpa using congrArg Array.toList d1
 subst this
 exact r.inj r'
theorem Inv.tuple_inj (I:Inv X pins σ H s) (h:SqT X.K H a xs) (h':SqT X.K H a ys):xs = ys:=by
 obtain ⟨its,r,⟨o,e,_,n,d⟩,_⟩:=I.tuple h
 obtain ⟨its',r',⟨o',e',_,n',d'⟩,_⟩:=I.tuple h'
 rw [e] at e';cases e'
 rw [d] at d'
 injection d' with d1 _
 have:its = its':=by simpa using congrArg Array.toList d1
 subst this
 exact r.inj r'
end
abbrev Cx.wish (X:Cx) (E:Value->Shared->Prop):Cx:={ X with xe:=E }
abbrev Cx.nox (X:Cx):Cx:=X.wish fun _ _=>False
theorem Cx.Ok.wish {X:Cx} (ok:X.Ok) (E:Value->Shared->Prop):(X.wish E).Ok :=
 ⟨ok.mod,ok.kind,ok.glob,ok.blt,ok.above,ok.inj,ok.has,ok.cab,ok.hd,ok.frames,ok.stk,ok.exf,ok.bs,ok.bsz,ok.noex,ok.exfs,ok.funs,ok.frf⟩
theorem Cx.Ok.unwish {X:Cx} {E:Value->Shared->Prop} (ok:(X.wish E).Ok):X.Ok :=
 ⟨ok.mod,ok.kind,ok.glob,ok.blt,ok.above,ok.inj,ok.has,ok.cab,ok.hd,ok.frames,ok.stk,ok.exf,ok.bs,ok.bsz,ok.noex,ok.exfs,ok.funs,ok.frf⟩
section
variable {X:Cx} {pins:List (Addr × Obj)} {σ:St} {H:Hp} {s:Shared} {E:Value->Shared->Prop}
theorem Inv.wish (I:Inv X pins σ H s) (E:Value->Shared->Prop):Inv (X.wish E) pins σ H s:=⟨I.ok.wish E,I.os,I.bare,I.base,I.loc,I.cell,I.free,I.freeC,I.pin,I.hok,I.len⟩
theorem Inv.unwish (I:Inv (X.wish E) pins σ H s):Inv X pins σ H s:=⟨I.ok.unwish,I.os,I.bare,I.base,I.loc,I.cell,I.free,I.freeC,I.pin,I.hok,I.len⟩
theorem SP.unwish {D:mh} {f:Flow} {s':Shared} (h:SP (X.wish E) pins D f s'):SP X pins D f s':=by
 cases f with
 | next=>obtain ⟨σ',H',I,q⟩:=h;exact ⟨σ',H',I.unwish,q⟩
 | brk=>obtain ⟨σ',H',I,q⟩:=h;exact ⟨σ',H',I.unwish,q⟩
 | cont=>obtain ⟨σ',H',I,q⟩:=h;exact ⟨σ',H',I.unwish,q⟩
 | ret u=>obtain ⟨v,σ',H',I,r,q⟩:=h;exact ⟨v,σ',H',I.unwish,r,q⟩
theorem PSs.nox {st:List Stmt} {t:TS} (h:PSs X.nox st t):PSs X st t:=fun pins s σ H D I hw =>
 wpAny_mono (h pins s σ H D (I.wish _) hw) (fun _ _ q=>q.unwish) fun _ _ z=>False.elim z
end
section
variable {X:Cx} {st:Stmt} {rest:List Stmt} {t u:TS} {e:Expr} {te:TE} {pos:Pos}
def At:TS:=fun D σ H=>D.nx σ H
def Bu (t u:TS):TS:=fun D σ H=>t { D with nx:=u D } σ H
theorem nU:PSs X [] At:=fun _ _ σ H _ I h=>wpAny_execs_nil ⟨σ,H,I,h⟩
theorem lf (h1:PS X st t) (h2:PSs X rest u):PSs X (st :: rest) (Bu t u):=by
 intro pins s σ H D I h
 refine wpAny_execs_cons (thn (h1 pins s σ H { D with nx:=u D } I h) fun f s1 q=>?_)
 cases f with
 | next =>
  obtain ⟨σ',H',I',q⟩:=q
  exact h2 pins s1 σ' H' D I' q
 | ret v=>exact q
 | brk=>exact q
 | cont=>exact q
theorem nS (h1:PS X st t):PSs X [st] t:=by
 intro pins s σ H D I h
 refine wpAny_execs_cons (thn (h1 pins s σ H D I h) fun f s1 q=>?_)
 cases f with
 | next=>exact wpAny_execs_nil q
 | ret v=>exact q
 | brk=>exact q
 | cont=>exact q
theorem Inv.quiet {pins:List (Addr × Obj)} {σ:St} {H:Hp} {s:Shared} (I:Inv X pins σ H s):interactive X.env = false:=by simp [interactive,I.ok.kind]
def Au (te:TE):TS:=fun D σ H=>te σ H fun _ H1=>D.nx σ H1
theorem sA (he:PE X e te) (hs:swapsWith e none pos.line X.env = pure false:=by rfl):PS X (.Expr e pos) (Au te):=by
 intro pins s σ H D I h
 exact wpAny_Expr_any (thn (he pins s σ H _ I h) fun v s1 ⟨x,H1,I1,r1,q1⟩=>⟨σ,H1,I1,q1⟩) I.quiet hs
def Bv (te:TE):TS:=fun D σ H=>te σ H D.rt
theorem qB (he:PE X e te):PS X (.Return (some e) pos) (Bv te):=by
 intro pins s σ H D I h
 exact wpAny_Return_some (thn (he pins s σ H _ I h) fun v s1 ⟨x,H1,I1,r1,q1⟩=>⟨x,σ,H1,I1,r1,q1⟩)
def Bz (c:TT) (t u:TS):TS:=fun D σ H=>c σ H fun b H1=>if b = true then t D σ H1 else u D σ H1
theorem vv {c:Expr} {a b:List Stmt} {tc:TT} (hc:PT X c tc) (ha:PSs X a t) (hb:PSs X b u):PS X (.If c a b pos) (Bz tc t u):=by
 intro pins s σ H D I h
 refine wpAny_If (thn (hc pins s σ H _ I h) fun d s1 ⟨H1,I1,q1⟩=>?_)
 cases d with
 | true=>exact ha pins s1 σ H1 D I1 q1
 | false=>exact hb pins s1 σ H1 D I1 q1
def yF:TS:=fun _ _ _=>False
theorem vt:PS X st yF:=fun _ _ _ _ _ _ h=>h.elim
end
abbrev TG:=V->St->Hp->(St->Hp->Prop)->Prop
abbrev TGs:=List V->St->Hp->(St->Hp->Prop)->Prop
def PG (X:Cx) (target:Expr) (t:TG):Prop :=
 ∀ (pins:List (Addr × Obj)) (s:Shared) (σ:St) (H:Hp) (v:V) (u:Value) (Q:St->Hp->Prop),Inv X pins σ H s->RelV v u->t v σ H Q ->
  wpAny (model X.prog X.w) X.A (assign target X.env u) (fun _ s'=>∃ σ' H',Inv X pins σ' H' s'/\Q σ' H') X.xe s
def PGs (X:Cx) (ts:List Expr) (t:TGs):Prop :=
 ∀ (pins:List (Addr × Obj)) (s:Shared) (σ:St) (H:Hp) (vs:List V) (us:List Value) (Q:St->Hp->Prop),Inv X pins σ H s->Vals vs us->t vs σ H Q ->
  wpAny (model X.prog X.w) X.A (assignInOrder ((assignEach ts X.env).map (·.2)) us) (fun _ s'=>∃ σ' H',Inv X pins σ' H' s'/\Q σ' H') X.xe s
abbrev Ai:=V->V->V->Hp->(Hp->Prop)->Prop
def Bk (X:Cx) (t:Ai):Prop :=
 ∀ (pins:List (Addr × Obj)) (s:Shared) (σ:St) (H:Hp) (o i v:V) (ov iv u:Value) (Q:Hp->Prop),Inv X pins σ H s->RelV o ov->RelV i iv->RelV v u->t o i v H Q ->
  wpAny (model X.prog X.w) X.A (setItem ov iv u) (fun _ s'=>∃ H',Inv X pins σ H' s'/\Q H') X.xe s
section
variable {X:Cx} {pos:Pos}
def tQ (i:Nat):TG:=fun v σ H Q=>Q (σ.set i (some v)) H
theorem gz {i:Nat} {x:Str} (hN:X.N.Nodup) (hi:X.N[i]? = some x) (hx:Loc X.env.scope x) (hf:X.fn x = true \/ X.env.scope.names.lookup x = some .local:=by first | exact .inl rfl | exact .inr rfl | assumption):PG X (.Name x pos) (tQ i):=by
 intro pins s σ H v u Q I r h
 exact wpAny_assign_Name (iZ I hN hi hx r (fun s' I'=>⟨_,H,I',h⟩) hf)
def Bb:TGs:=fun vs σ H Q=>vs = []/\Q σ H
def yh (t:TG) (u:TGs):TGs:=fun vs σ H Q=>∃ v r,vs = v :: r/\t v σ H fun σ' H'=>u r σ' H' Q
theorem c9:PGs X [] Bb:=by
 intro pins s σ H vs us Q I r h
 obtain ⟨e,h⟩:=h
 subst e
 cases r
 exact assignInOrder_nil ⟨σ,H,I,h⟩
theorem br {e:Expr} {es:List Expr} {t:TG} {u:TGs} (h1:PG X e t) (h2:PGs X es u)
 (hs:(assignEach (e :: es) X.env).map (·.2) = assign e X.env :: (assignEach es X.env).map (·.2):=by rfl):PGs X (e :: es) (yh t u):=by
 intro pins s σ H vs us Q I r h
 obtain ⟨v,vr,e1,h⟩:=h
 subst e1
 cases r with
 | cons r rr =>
  rw [hs]
  refine assignInOrder_cons (thn (h1 pins s σ H _ _ _ I r h) fun _ s1 ⟨σ1,H1,I1,q1⟩=>?_)
  exact h2 pins s1 σ1 H1 _ _ Q I1 rr q1
def we (K:PySem.W.Frag) (n:Nat) (t:TGs):TG:=fun v σ H Q=>∃ a xs,v = .ref a/\SqT K H a xs/\xs.length = n/\t xs σ H Q
theorem eg {es:List Expr} {k:Nat} {t:TGs} {n:Nat} (hc:X.calm = true) (h:PGs X es t)
 (hn:(assignEach es X.env).length = n:=by rfl) (hst:(assignEach es X.env).findIdx? (·.1) = none:=by rfl):PG X (.Tuple es k pos) (we X.K n t):=by
 intro pins s σ H v u Q I r hw
 obtain ⟨a,xs,e1,hq,hl,hw⟩:=hw
 subst e1
 cases r
 obtain ⟨its,rv,ht,hz⟩:=I.tuple hq
 refine assign_Tuple_tuple (I.ok.hd hc) ht (by simp [hn,<- hl,rv.length]) hst fun h' hx=>?_
 have I1:Inv X pins σ H { s with heap:=h' }:=I.kept (t':=s.toks) fun b o e=>hx b o (Nat.ne_of_lt (Heap.lt_size e)) e
 exact h pins _ σ H xs _ Q I1 (by simpa using rv) hw
def BP (to ti:TE) (t:Ai):TG:=fun v σ H Q=>to σ H fun o H1=>ti σ H1 fun i H2=>t o i v H2 fun H3=>Q σ H3
theorem zl {o i:Expr} {to ti:TE} {t:Ai} (ho:PE X o to) (hi:PE X i ti) (hs:Bk X t)
 (ha:∀ v,assign (.Subscript o i pos) X.env v = (do
  let ov <- holding [v] (eval o X.env)
  let iv <- holding [v,ov] (eval i X.env)
  standAt pos
  holding [v,ov,iv] (setItem ov iv v)
  release [v,ov,iv] []):=by intro _;rfl):PG X (.Subscript o i pos) (BP to ti t):=by
 intro pins s σ H v u Q I r h
 rw [ha]
 refine wpAny_bind (wpAny_holding (thn (ho pins s σ H _ I h) fun ov s1 ⟨x,H1,I1,r1,q1⟩=>?_))
 refine wpAny_bind (wpAny_holding (thn (hi pins s1 σ H1 _ I1 q1) fun iv s2 ⟨y,H2,I2,r2,q2⟩=>?_))
 refine wpAny_bind (wpAny_standAt (wpAny_bind (wpAny_holding (thn (hs pins s2 σ H2 x y v ov iv u _ I2 r1 r2 r q2) fun _ s3 ⟨H3,I3,q3⟩=>?_))))
 exact wpAny_release ⟨σ,H3,I3,q3⟩
def Aw (te:TE) (g:TG):TS:=fun D σ H=>te σ H fun x H1=>g x σ H1 D.nx
theorem qD {tg e:Expr} {te:TE} {g:TG} (he:PE X e te) (hg:PG X tg g) (hs:swapsWithSole [tg] e pos.line X.env = pure false:=by rfl) (hw:swappedStores [tg] e X.env = pure none:=by rfl)
 (h1:(assignEach [tg] X.env).map (·.2) = [assign tg X.env]:=by rfl):PS X (.Assign [tg] e pos) (Aw te g):=by
 intro pins s σ H D I h
 refine wpAny_Assign_stores (thn (he pins s σ H _ I h) fun v s1 ⟨x,H1,I1,r1,q1⟩=>?_) hs hw
 rw [h1]
 exact thn (hg pins s1 σ H1 x v _ I1 r1 q1) fun _ s2 q=>q
theorem nV {i:Nat} {x:Str} {e:Expr} {te:TE} {pos':Pos} (hN:X.N.Nodup) (hi:X.N[i]? = some x) (hx:Loc X.env.scope x) (he:PE X e te) (hs:swapsWith e (some (.Name x pos')) pos.line X.env = pure false:=by rfl) (hf:X.fn x = true \/ X.env.scope.names.lookup x = some .local:=by first | exact .inl rfl | exact .inr rfl | assumption) :
 PS X (.Assign [.Name x pos'] e pos) (Aw te (tQ i)):=by
 intro pins s σ H D I h
 refine wpAny_Assign_Name (thn (he pins s σ H _ I h) fun v s1 ⟨y,H1,I1,r1,q1⟩=>?_) hs
 exact iZ I1 hN hi hx r1 (fun s2 I2=>⟨_,H1,I2,q1⟩) hf
def Bw (i j:Nat) (ta:TA):TS:=fun D σ H=>ta σ H fun vs H1=>∃ v w,vs = [v,w]/\D.nx ((σ.set i (some v)).set j (some w)) H1
theorem zg {i j:Nat} {x y:Str} {a b:Expr} {ta:TA} {px py pt:Pos} {kt k2 pt2} (hc:X.calm = true) (hN:X.N.Nodup) (hi:X.N[i]? = some x) (hj:X.N[j]? = some y) (hij:i ≠ j)
 (hx:X.env.scope.names.lookup x = some .local) (hy:X.env.scope.names.lookup y = some .local) (ha:PA X [a,b] ta)
 (hw:swappedStores [.Tuple [.Name x px,.Name y py] kt pt] (.Tuple [a,b] k2 pt2) X.env = pure (some [x,y]))
 (hs:swapsWithSole [.Tuple [.Name x px,.Name y py] kt pt] (.Tuple [a,b] k2 pt2) pos.line X.env = pure false:=by rfl) :
 PS X (.Assign [.Tuple [.Name x px,.Name y py] kt pt] (.Tuple [a,b] k2 pt2) pos) (Bw i j ta):=by
 intro pins s σ H D I h
 rw [exec_Assign_arm]
 refine wpAny_bind (wpAny_standAt ?_)
 rw [hs]
 refine wpAny_bind (wpAny_pure ?_)
 rw [if_neg (by decide)]
 refine wpAny_bind (Tuple_ (thn (ha _ pins s σ H _ I h) fun us s1 ⟨vs,H1,I1,r1,q1⟩=>?_))
 obtain ⟨v,w,e1,q1⟩:=q1
 subst e1
 obtain ⟨u1,u2,rfl,rv,rw'⟩:∃ u1 u2,us = [u1,u2]/\RelV v u1/\RelV w u2:=by
  cases r1 with
  | cons p q =>
   cases q with
   | cons p' q' =>
    cases q'
    exact ⟨_,_,rfl,p,p'⟩
 refine wpAny_newObj_type ?_ (by show 2 <= sizeLine;decide)
 have I2:Inv X pins σ H1 { s1 with heap:=s1.heap.push { cls:=.type "tuple",data:=.seq [u1,u2].toArray } }:=I1.kept (t':=s1.toks) fun b o e=>Heap.get?_push_of_some _ e
 rw [hw]
 refine wpAny_bind (wpAny_pure ?_)
 show wpAny (model X.prog X.w) X.A (do rule "assign.swapped-stores";let items <- unpackItems (.ref s1.heap.objs.size) 2 none;assignInOrder [fun v=>bindName X.env y v,fun v=>bindName X.env x v] items.reverse;pure Flow.next) _ _ _
 refine wpAny_bind (wpAny_rule (wpAny_bind (unpackItems_tuple (items:=#[u1,u2]) (I.ok.hd hc) (IsTup.new s1.heap _) fun h' hx'=>?_)))
 have I3:=I2.kept (h':=h') (t':=s1.toks) fun b o e=>hx' b o (Nat.ne_of_lt (Heap.lt_size e)) e
 show wpAny _ _ (assignInOrder [fun v=>bindName X.env y v,fun v=>bindName X.env x v] [u2,u1] >>= fun _=>pure Flow.next) _ _ _
 refine wpAny_bind (assignInOrder_cons (wpAny_bindName (iZ I3 hN hj (.inl hy) rw' (fun s2 I4=>?_) (.inr hy))))
 refine assignInOrder_cons (wpAny_bindName (iZ I4 hN hi (.inl hx) rv (fun s3 I5=>assignInOrder_nil (wpAny_pure ?_)) (.inr hx)))
 rw [List.set_comm _ _ (Ne.symm hij)] at I5
 exact ⟨_,H1,I5,q1⟩
end
section
variable {X:Cx} {pos:Pos}
def yD (c:TT) (tb:TS):TS:=fun D σ H=>∃ W:Nat->St->Hp->Prop,(∃ m,W m σ H)/\∀ m σ H,W m σ H ->
 c σ H fun b H1=>if b = true then ∃ N:St->Hp->Prop,(∀ σ' H',N σ' H'->∃ m',m' < m/\W m' σ' H')/\tb { D with nx:=N,ct:=N,bk:=D.nx } σ H1 else D.nx σ H1
theorem vq {c:Expr} {body:List Stmt} {tc:TT} {tb:TS} (hp:PassesOwn (model X.prog X.w) X.A X.env X.xe) (hc:PT X c tc) (hb:PSs X body tb):PS X (.While c body [] pos) (yD tc tb):=by
 intro pins s σ H D I h
 obtain ⟨W,⟨m0,w0⟩,turn⟩:=h
 refine wpAny_While (codeAny_whileLoop (fun n s'=>∃ σ' H',Inv X pins σ' H' s'/\W n σ' H') ?_ m0 ⟨σ,H,I,w0⟩)
 rintro n s1 ⟨σ1,H1,I1,w1⟩
 refine wpAny_passesOwn hp (thn (hc pins s1 σ1 H1 _ I1 (turn n σ1 H1 w1)) fun b s2 ⟨H2,I2,q2⟩=>?_)
 cases b with
 | true =>
  obtain ⟨N,hN,q2⟩:=q2
  rw [if_pos rfl]
  refine wpAny_passesOwn hp (thn (hb pins s2 σ1 H2 _ I2 q2) fun f s3 q3=>?_)
  cases f with
  | next =>
   obtain ⟨σ3,H3,I3,n3⟩:=q3
   obtain ⟨m',hm,w3⟩:=hN σ3 H3 n3
   exact ⟨m',hm,σ3,H3,I3,w3⟩
  | cont =>
   obtain ⟨σ3,H3,I3,n3⟩:=q3
   obtain ⟨m',hm,w3⟩:=hN σ3 H3 n3
   exact ⟨m',hm,σ3,H3,I3,w3⟩
  | brk=>exact q3
  | ret v=>exact q3
 | false =>
  rw [if_neg Bool.false_ne_true]
  exact wpAny_execs_nil ⟨σ1,H2,I2,q2⟩
end
structure It where
 go:Nat->Hp->Prop
 yld:Nat->Hp->V->Hp->Prop
 stop:Nat->Hp->Prop
def gj (X:Cx) (pins:List (Addr × Obj)) (H:Hp) (b:Addr):Prop :=
 H b = none/\b ≠ X.env.locals/\b ∉ X.fs/\(b ∈ X.ex \/ X.s₀.heap.objs.size <= b)/\(∀ x c,X.env.cells.lookup x = some c->c ≠ b)/\∀ p ∈ X.pn ++ pins,p.1 ≠ b
theorem Inv.fpOk {X:Cx} {pins:List (Addr × Obj)} {σ:St} {H H':Hp} {s:Shared} {b:Addr} (I:Inv X pins σ H s) (hb:s.heap.objs.size <= b) (hn:H' b = none):gj X pins H' b:=by
 refine ⟨hn,Nat.ne_of_gt (Nat.lt_of_lt_of_le I.lt hb),I.nofs hb,.inr (Nat.le_trans I.sz hb),fun x c e z=>?_,fun p hp z=>?_⟩
 . obtain ⟨v,q⟩:=I.cell x c e
   exact absurd (Nat.lt_of_lt_of_le q.lt (by rw [z];exact hb)) (Nat.lt_irrefl _)
 . exact absurd (Nat.lt_of_lt_of_le (Heap.lt_size (I.pin p hp).1) (by rw [z];exact hb)) (Nat.lt_irrefl _)
structure mI (P:Program) (w:World) (K:PySem.W.Frag) (tg:Expr) (J:It) (fp:List Addr) (it:Addr) (tn:Nat->Heap->Prop):Prop where
 mem:it ∈ fp
 obj:∀ i h,tn i h->∀ b ∈ fp,∃ o,h.get? b = some o/\∀ v,o.data ≠ .cell v
 keep:∀ i h h',tn i h->(∀ b ∈ fp,∀ o,h.get? b = some o->h'.get? b = some o)->tn i h'
 item:∀ (X:Cx),X.prog = P->X.w = w->X.K = K->X.calm = true->∀ (i:Nat) (pins:List (Addr × Obj)) (s:Shared) (σ:St) (H:Hp) (E:Value->Shared->Prop),Inv X pins σ H s->(∀ b ∈ fp,gj X pins H b)->tn i s.heap->J.go i H ->
  wpAny (model P w) X.A (pyNext (.ref it)) (fun r s1=>∃ u,r = some u /\
   wpAny (model P w) X.A (letOwnedTupleGo tg (.ref it) u) (fun _ s2=>∃ x H',Inv X pins σ H' s2/\RelV x u/\J.yld i H x H'/\tn (i + 1) s2.heap/\∀ b ∈ fp,H' b = none) E s1) E s
 done:∀ (X:Cx),X.prog = P->X.w = w->X.K = K->X.calm = true->∀ (i:Nat) (pins:List (Addr × Obj)) (s:Shared) (σ:St) (H:Hp) (E:Value->Shared->Prop),Inv X pins σ H s->(∀ b ∈ fp,gj X pins H b)->tn i s.heap->J.stop i H ->
  wpAny (model P w) X.A (pyNext (.ref it)) (fun r s1=>r = none/\Inv X pins σ H s1) E s
 self:∀ (A:Around) (i:Nat) (s:Shared) (Q:Value->Shared->Prop) (E:Value->Shared->Prop),tn i s.heap->Q (.ref it) s->wpAny (model P w) A (pyIter (.ref it)) Q E s
abbrev TI:=St->Hp->(It->Hp->Prop)->Prop
def PIE (X:Cx) (pins:List (Addr × Obj)) (σ:St) (tg:Expr) (R:It->Hp->Prop) (itv:Value) (s2:Shared):Prop :=
 ∃ (it:Addr) (fp:List Addr) (tn:Nat->Heap->Prop) (J:It) (H':Hp),itv = .ref it/\Inv X pins σ H' s2/\mI X.prog X.w X.K tg J fp it tn/\tn 0 s2.heap/\(∀ b ∈ fp,gj X pins H' b)/\R J H'
def PI (X:Cx) (tg iter:Expr) (wi:TI):Prop :=
 ∀ (pins:List (Addr × Obj)) (s:Shared) (σ:St) (H:Hp) (R:It->Hp->Prop),Inv X pins σ H s->wi σ H R ->
  wpAny (model X.prog X.w) X.A (eval iter X.env) (fun v s1=>wpAny (model X.prog X.w) X.A (pyIter v) (PIE X pins σ tg R) X.xe s1) X.xe s
theorem wc {M:Model} {A:Around} {E:Value->Shared->Prop} {s:Shared} {tg:Expr} {it:Addr} {u:Value} {o:Obj} {n:String} {vs:Array Value} {Q:Unit->Shared->Prop} (ho:s.heap.get? it = some o) (hc:o.cls = .type n) (hd:o.data = .fields vs)
 (hn:["enumerate","zip","dict_itemiterator","dict_reverseitemiterator","odict_iterator","itertools.zip_longest","itertools.pairwise"].contains n = false) (hQ:Q () s):wpAny M A (letOwnedTupleGo tg (.ref it) u) Q E s:=by
 unfold letOwnedTupleGo
 cases tg <;> first
  | exact wpAny_pure hQ
  | (cases u <;> first
   | exact wpAny_pure hQ
   | (refine wpAny_bind (wpAny_load ho ?_)
      rw [hc,hd]
      show wpAny M A (if (["enumerate","zip","dict_itemiterator","dict_reverseitemiterator","odict_iterator","itertools.zip_longest","itertools.pairwise"].contains n && vs[0]? == some (rawInt _)) = true then _ else _) Q E s
      rw [if_neg (by intro h;rw [hn,Bool.false_and] at h;cases h)]
      exact wpAny_pure hQ))
def Itl (K:PySem.W.Frag) (a:Addr):It :=
 ⟨fun i H=>∃ xs x,SqL K H a xs/\xs[i]? = some x,fun i H x H'=>H' = H/\∀ xs,SqL K H a xs->xs[i]? = some x,fun i H=>∃ xs,SqL K H a xs/\xs.length <= i⟩
def Itt (K:PySem.W.Frag) (a:Addr):It :=
 ⟨fun i H=>∃ xs x,SqT K H a xs/\xs[i]? = some x,fun i H x H'=>H' = H/\∀ xs,SqT K H a xs->xs[i]? = some x,fun i H=>∃ xs,SqT K H a xs/\xs.length <= i⟩
def Itr (lo:Int) (n:Nat):It:=⟨fun i _=>i < n,fun i H x H'=>H' = H/\x = .int (lo + i),fun i _=>n <= i⟩
theorem ue {P:Program} {w:World} {K:PySem.W.Frag} {tg:Expr} (a it:Addr):mI P w K tg (Itl K a) [it] it (fun i h=>h.IsListIter it a i) where
 mem:=by simp
 obj:=fun i h st b hb=>by
  have e:b = it:=by simpa using hb
  subst e
  obtain ⟨o,e,c,d⟩:=st
  exact ⟨o,e,fun v z=>by rw [d] at z;cases z⟩
 keep:=fun i h h' st k=>st.at fun o e=>k it (by simp) o e
 item:=by
  intro X hP hw hK hc i pins s σ H E I hf st hg
  subst hP hw hK
  obtain ⟨xs,x,hq,hx⟩:=hg
  obtain ⟨its,rv,p,hz⟩:=I.list hq
  obtain ⟨u,hu,ru⟩:=rv.get hx
  obtain ⟨f0,f1,f2,f3,f4,f5⟩:=hf it (by simp)
  refine wpAny_pyNext_list_item st p.isList (x:=u) (by simpa using hu) fun h' st' sb=>?_
  have I1:Inv X pins σ H { s with heap:=h' }:=I.turned (t':=s.toks) (fun b o hb e=>(sb.2 b hb).trans e) f0 f1 f3 f4 f5
  obtain ⟨o,e,c,d⟩:=id st'
  exact ⟨u,rfl,wc (s:={ s with heap:=h' }) e c d (by decide) ⟨x,H,I1,ru,⟨rfl,fun ys hy=>by rw [I.list_inj hy hq];exact hx⟩,st',fun b hb=>(hf b hb).1⟩⟩
 done:=by
  intro X hP hw hK hc i pins s σ H E I hf st hg
  subst hP hw hK
  obtain ⟨xs,hq,hx⟩:=hg
  obtain ⟨its,rv,p,hz⟩:=I.list hq
  obtain ⟨f0,f1,f2,f3,f4,f5⟩:=hf it (by simp)
  have hl:=rv.length
  exact wpAny_pyNext_list_end (I.ok.hd hc) st p.isList (by simp;omega) fun h' eb=>⟨rfl,I.turned (t':=s.toks) (fun b o hb e=>eb b o hb e) f0 f1 f3 f4 f5⟩
 self:=fun _ _ _ _ _ st h=>wpAny_pyIter_listiter st h
theorem qw {P:Program} {w:World} {K:PySem.W.Frag} {tg:Expr} (a it:Addr):mI P w K tg (Itt K a) [it] it (fun i h=>h.IsTupleIter it a i) where
 mem:=by simp
 obj:=fun i h st b hb=>by
  have e:b = it:=by simpa using hb
  subst e
  obtain ⟨o,e,c,d⟩:=st
  exact ⟨o,e,fun v z=>by rw [d] at z;cases z⟩
 keep:=fun i h h' st k=>st.at fun o e=>k it (by simp) o e
 item:=by
  intro X hP hw hK hc i pins s σ H E I hf st hg
  subst hP hw hK
  obtain ⟨xs,x,hq,hx⟩:=hg
  obtain ⟨its,rv,p,hz⟩:=I.tuple hq
  obtain ⟨u,hu,ru⟩:=rv.get hx
  obtain ⟨f0,f1,f2,f3,f4,f5⟩:=hf it (by simp)
  refine wpAny_pyNext_tuple_item st (show s.heap.IsTuple a its.toArray from p) (x:=u) (by simpa using hu) fun h' st' sb=>?_
  have I1:Inv X pins σ H { s with heap:=h' }:=I.turned (t':=s.toks) (fun b o hb e=>(sb.2 b hb).trans e) f0 f1 f3 f4 f5
  obtain ⟨o,e,c,d⟩:=id st'
  exact ⟨u,rfl,wc (s:={ s with heap:=h' }) e c d (by decide) ⟨x,H,I1,ru,⟨rfl,fun ys hy=>by rw [I.tuple_inj hy hq];exact hx⟩,st',fun b hb=>(hf b hb).1⟩⟩
 done:=by
  intro X hP hw hK hc i pins s σ H E I hf st hg
  subst hP hw hK
  obtain ⟨xs,hq,hx⟩:=hg
  obtain ⟨its,rv,p,hz⟩:=I.tuple hq
  obtain ⟨f0,f1,f2,f3,f4,f5⟩:=hf it (by simp)
  have hl:=rv.length
  exact wpAny_pyNext_tuple_end (I.ok.hd hc) st (show s.heap.IsTuple a its.toArray from p) (by simp;omega) fun h' eb=>⟨rfl,I.turned (t':=s.toks) (fun b o hb e=>eb b o hb e) f0 f1 f3 f4 f5⟩
 self:=fun _ _ _ _ _ st h=>wpAny_pyIter_tupleiter st h
theorem qx {P:Program} {w:World} {K:PySem.W.Frag} {tg:Expr} (it:Addr) (lo:Int) (n:Nat):mI P w K tg (Itr lo n) [it] it (fun i h=>IsRangeIter h it (lo + (i:Nat) * 1) ((n:Int) - (i:Nat)) 1) where
 mem:=by simp
 obj:=fun i h st b hb=>by
  have e:b = it:=by simpa using hb
  subst e
  exact ⟨_,st,fun v z=>by
   have z':Data.fields _ = Data.cell v:=z
   cases z'⟩
 keep:=fun i h h' st k=>k it (by simp) _ st
 item:=by
  intro X hP hw hK hc i pins s σ H E I hf st hg
  subst hP hw hK
  obtain ⟨f0,f1,f2,f3,f4,f5⟩:=hf it (by simp)
  have W:=Walks.range (prog:=X.prog) (w:=X.w) (I.ok.hd hc) it lo 1 n
  refine W.item i s _ _ hg st fun v h' tk hv st' kk=>?_
  obtain ⟨t,rfl⟩:=hv
  have I1:Inv X pins σ H { s with heap:=h',toks:=tk }:=I.turned (fun b o hb e=>kk b o (by simpa using hb) e) f0 f1 f3 f4 f5
  refine ⟨_,rfl,wc (s:={ s with heap:=h',toks:=tk }) (n:="range_iterator") st' rfl rfl (by decide) ⟨.int (lo + i),H,I1,⟨t,?_⟩,⟨rfl,rfl⟩,st',fun b hb=>(hf b hb).1⟩⟩
  rw [Int.mul_one]
 done:=by
  intro X hP hw hK hc i pins s σ H E I hf st hg
  subst hP hw hK
  obtain ⟨f0,f1,f2,f3,f4,f5⟩:=hf it (by simp)
  exact wpAny_pyNext_range_end (I.ok.hd hc) st (by have:n <= i:=hg;omega) fun h' eb=>⟨rfl,I.turned (t':=s.toks) (fun b o hb e=>eb b o hb e) f0 f1 f3 f4 f5⟩
 self:=fun _ _ _ _ _ st h=>wpAny_pyIter_rangeiter st h
end L2
namespace L2
open PySem PySem.Spec PyProof.Rows
section
variable {X:Cx} {tg:Expr}
def A9 (K:PySem.W.Frag) (tl:TE):TI:=fun σ H R=>tl σ H fun x H1=>∃ a,x = .ref a/\(∃ xs,SqL K H1 a xs)/\R (Itl K a) H1
def BN (K:PySem.W.Frag) (tl:TE):TI:=fun σ H R=>tl σ H fun x H1=>∃ a,x = .ref a/\(∃ xs,SqT K H1 a xs)/\R (Itt K a) H1
theorem sG {l:Expr} {tl:TE} (hl:PE X l tl):PI X tg l (A9 X.K tl):=by
 intro pins s σ H R I h
 refine thn (hl pins s σ H _ I h) fun v s1 ⟨x,H1,I1,r1,q1⟩=>?_
 obtain ⟨a,e,⟨xs,hq⟩,q⟩:=q1
 subst e
 cases r1
 obtain ⟨its,rv,p,hz⟩:=I1.list hq
 refine wpAny_pyIter_list p.isList ?_
 refine ⟨s1.heap.objs.size,[s1.heap.objs.size],_,_,H1,rfl,I1.kept (t':=s1.toks) fun b o e=>Heap.get?_push_of_some _ e,ue a _,⟨_,Heap.get?_push_size _ rfl,rfl,rfl⟩,fun b hb=>?_,q⟩
 have e:b = s1.heap.objs.size:=by simpa using hb
 subst e
 exact I1.fpOk (Nat.le_refl _) (I1.hok.fresh (Nat.le_refl _))
theorem zj {l:Expr} {tl:TE} (hl:PE X l tl):PI X tg l (BN X.K tl):=by
 intro pins s σ H R I h
 refine thn (hl pins s σ H _ I h) fun v s1 ⟨x,H1,I1,r1,q1⟩=>?_
 obtain ⟨a,e,⟨xs,hq⟩,q⟩:=q1
 subst e
 cases r1
 obtain ⟨its,rv,p,hz⟩:=I1.tuple hq
 refine wpAny_pyIter_tuple (show s1.heap.IsTuple a its.toArray from p) ?_
 refine ⟨s1.heap.objs.size,[s1.heap.objs.size],_,_,H1,rfl,I1.kept (t':=s1.toks) fun b o e=>Heap.get?_push_of_some _ e,qw a _,⟨_,Heap.get?_push_size _ rfl,rfl,rfl⟩,fun b hb=>?_,q⟩
 have e:b = s1.heap.objs.size:=by simpa using hb
 subst e
 exact I1.fpOk (Nat.le_refl _) (I1.hok.fresh (Nat.le_refl _))
theorem vg {pins:List (Addr × Obj)} {σ:St} {H:Hp} {s:Shared} {R:It->Hp->Prop} {E:Value->Shared->Prop} {lo hi:Int} {t u v:Tok} {tk:Nat} (I:Inv X pins σ H s) (h1:-(2 ^ 62) <= lo) (h2:lo < 2 ^ 62) (h3:-(2 ^ 62) <= hi) (h4:hi < 2 ^ 62)
 (q:R (Itr lo (hi - lo).toNat) H):wpAny (model X.prog X.w) X.A (pyIter (.ref s.heap.objs.size)) (PIE X pins σ tg R) E { s with heap:=s.heap.push { cls:=.type "range",data:=.fields #[.int lo t,.int hi u,.int 1 v] },toks:=tk }:=by
 refine wpAny_pyIter_range (IsRange.new ..) (small_one h1 h2 h3 h4) ?_
 have I1:Inv X pins σ H { s with heap:=s.heap.push { cls:=.type "range",data:=.fields #[.int lo t,.int hi u,.int 1 v] },toks:=tk }:=I.kept fun b o e=>Heap.get?_push_of_some _ e
 refine ⟨(s.heap.push { cls:=.type "range",data:=.fields #[.int lo t,.int hi u,.int 1 v] }).objs.size,[(s.heap.push { cls:=.type "range",data:=.fields #[.int lo t,.int hi u,.int 1 v] }).objs.size],_,_,H,rfl,
  I1.kept (t':=tk) fun b o e=>Heap.get?_push_of_some _ e,qx _ lo (hi - lo).toNat,?_,fun b hb=>?_,q⟩
 . have e1:lo + ((0:Nat):Int) * 1 = lo:=by simp
   have e2:(((hi - lo).toNat:Nat):Int) - ((0:Nat):Int) = Builtin.Range.rangeSize lo hi 1:=by rw [rangeSize_one];split <;> omega
   show IsRangeIter _ _ (lo + ((0:Nat):Int) * 1) ((((hi - lo).toNat:Nat):Int) - ((0:Nat):Int)) 1
   rw [e1,e2]
   exact Heap.get?_push_size _ rfl
 . have e:b = (s.heap.push { cls:=.type "range",data:=.fields #[.int lo t,.int hi u,.int 1 v] }).objs.size:=by simpa using hb
   subst e
   exact I1.fpOk (Nat.le_refl _) (I1.hok.fresh (Nat.le_refl _))
def A8 (ta:TA):TI:=fun σ H R=>ta σ H fun vs H1=>∃ j:Int,vs = [.int j]/\-(2 ^ 62) <= j/\j < 2 ^ 62/\R (Itr 0 j.toNat) H1
theorem mU {a:Expr} {ta:TA} {p pos:Pos} (hg:Gl X "range") (hm:X.mg "range" = none) (ha:PA X [a] ta) (hs:starEach [a] X.env = [(false,eval a X.env)]:=by rfl):PI X tg (.Call (.Name "range" p) [a] [] pos) (A8 ta):=by
 intro pins s σ H R I h
 refine Call_ (lK I hg hm boot_range (PyProof.Rows.callWith_type1 (thn (ha pos pins s σ H _ I h) fun us s1 ⟨vs,H1,I1,r1,q1⟩=>?_) hs rfl))
 obtain ⟨j,e,q1,q2,q⟩:=q1
 subst e
 cases r1 with
 | cons r rr =>
  cases rr
  obtain ⟨t,rfl⟩:=r
  exact call_range_1 (vg I1 (by omega) (by omega) q1 q2 (by simpa using q))
def BA (wi:TI) (g:TG) (tb:TS):TS:=fun D σ H=>wi σ H fun J H1=>∃ W:Nat->Nat->St->Hp->Prop,(∃ m,W 0 m σ H1)/\∀ i m σ H,W i m σ H ->
 (J.stop i H/\D.nx σ H) \/ (J.go i H/\∃ N:St->Hp->Prop,(∀ σ' H',N σ' H'->∃ m',m' < m/\W (i + 1) m' σ' H')/\∀ x H',J.yld i H x H'->g x σ H' fun σ2 H2=>tb { D with nx:=N,ct:=N,bk:=D.nx } σ2 H2)
def nX (fp:List Addr) (h:Heap):List (Addr × Obj):=fp.filterMap fun b=>(h.get? b).map fun o=>(b,o)
theorem de {fp:List Addr} {h:Heap} {b:Addr} {o:Obj} (hb:b ∈ fp) (e:h.get? b = some o):(b,o) ∈ nX fp h:=List.mem_filterMap.mpr ⟨b,hb,by rw [e];rfl⟩
theorem uw {fp:List Addr} {h:Heap} {p:Addr × Obj} (hp:p ∈ nX fp h):p.1 ∈ fp/\h.get? p.1 = some p.2:=by
 obtain ⟨b,hb,e⟩:=List.mem_filterMap.mp hp
 cases q:h.get? b with
 | none=>rw [q] at e;cases e
 | some o =>
  rw [q] at e
  have e':(b,o) = p:=Option.some.inj e
  subst e'
  exact ⟨hb,q⟩
theorem Inv.pinned {pins:List (Addr × Obj)} {σ:St} {H:Hp} {s:Shared} {fp:List Addr} (I:Inv X pins σ H s) (hf:∀ b ∈ fp,gj X pins H b) (ho:∀ b ∈ fp,∃ o,s.heap.get? b = some o/\∀ v,o.data ≠ .cell v):Inv X (pins ++ nX fp s.heap) σ H s :=
 I.pins_of fun p hp=>(Zr.mp hp).elim (fun z=>I.pin p (List.mem_append_right _ z)) fun z=>by
  obtain ⟨hb,e⟩:=uw z
  obtain ⟨f0,f1,f2,_⟩:=hf p.1 hb
  obtain ⟨o,e',d⟩:=ho p.1 hb
  rw [e] at e';cases e'
  exact ⟨e,f0,f1,f2,d⟩
theorem Inv.unpinned {pins pl:List (Addr × Obj)} {σ:St} {H:Hp} {s:Shared} (I:Inv X (pins ++ pl) σ H s):Inv X pins σ H s:=I.pins_of fun p hp=>I.pin p (List.mem_append_right _ (List.mem_append_left _ hp))
theorem qC {iter:Expr} {body:List Stmt} {wi:TI} {g:TG} {tb:TS} {pos:Pos} (hp:PassesOwn (model X.prog X.w) X.A X.env X.xe) (hc:X.calm = true) (hi:PI X tg iter wi) (hg:PG X tg g) (hb:PSs X body tb)
 (hs:∀ x,foldedSetIterable iter X.env x = pure x:=by intro _;rfl):PS X (.For tg iter body [] pos) (BA wi g tb):=by
 intro pins s σ H D I h
 refine wpAny_For (thn (hi pins s σ H _ I h) fun v s1 h1=>thn h1 fun itv s2 h2=>?_) hs
 obtain ⟨it,fp,tn,J,H2,e,I2,T,st2,f2,W,⟨m0,w0⟩,turn⟩:=h2
 subst e
 have stat:∀ {H':Hp},(∀ b ∈ fp,H' b = none)->∀ b ∈ fp,gj X pins H' b:=fun hn b hb=>⟨hn b hb,(f2 b hb).2⟩
 refine codeAny_forLoop_any (fun n s'=>∃ i σ' H',Inv X pins σ' H' s'/\tn i s'.heap/\(∀ b ∈ fp,H' b = none)/\W i n σ' H') ?_ m0 ⟨0,σ,H2,I2,st2,fun b hb=>(f2 b hb).1,w0⟩
 rintro n s3 ⟨i,σ3,H3,I3,st3,fr3,w3⟩
 rcases turn i n σ3 H3 w3 with ⟨stop,qn⟩ | ⟨go,N,hN,step⟩
 . refine wpAny_passesOwn hp (thn (T.done X rfl rfl rfl hc i pins s3 σ3 H3 X.xe I3 (stat fr3) st3 stop) fun r s4 ⟨hr,I4⟩=>?_)
   subst hr
   exact wpAny_execs_nil ⟨σ3,H3,I4,qn⟩
 . refine wpAny_passesOwn hp (thn (T.item X rfl rfl rfl hc i pins s3 σ3 H3 X.xe I3 (stat fr3) st3 go) fun r s4 ⟨u,hr,h4⟩=>?_)
   subst hr
   refine wpAny_passesOwn hp (thn h4 fun _ s5 ⟨x,H5,I5,r5,y5,st5,fr5⟩=>?_)
   have I5':=I5.pinned (stat fr5) (T.obj _ _ st5)
   refine wpAny_passesOwn hp (thn (hg _ s5 σ3 H5 x u _ I5' r5 (step x H5 y5)) fun _ s6 ⟨σ6,H6,I6,q6⟩=>?_)
   refine wpAny_passesOwn hp (thn (hb _ s6 σ6 H6 _ I6 q6) fun f s7 q7=>?_)
   have again:∀ {σ7:St} {H7:Hp},Inv X (pins ++ nX fp s5.heap) σ7 H7 s7->N σ7 H7->∃ m,m < n/\∃ i σ' H',Inv X pins σ' H' s7/\tn i s7.heap/\(∀ b ∈ fp,H' b = none)/\W i m σ' H':=fun {σ7 H7} I7 n7=>by
    obtain ⟨m',hm,w7⟩:=hN σ7 H7 n7
    refine ⟨m',hm,i + 1,σ7,H7,I7.unpinned,T.keep _ _ _ st5 fun b hb o e=>(I7.pin (b,o) (List.mem_append_right _ (List.mem_append_right _ (de hb e)))).1,fun b hb=>?_,w7⟩
    obtain ⟨o,e,d⟩:=T.obj _ _ st5 b hb
    exact (I7.pin (b,o) (List.mem_append_right _ (List.mem_append_right _ (de hb e)))).2.1
   cases f with
   | next=>obtain ⟨σ7,H7,I7,n7⟩:=q7;exact again I7 n7
   | cont=>obtain ⟨σ7,H7,I7,n7⟩:=q7;exact again I7 n7
   | brk=>obtain ⟨σ7,H7,I7,q7⟩:=q7;exact ⟨σ7,H7,I7.unpinned,q7⟩
   | ret v=>obtain ⟨x7,σ7,H7,I7,r7,q7⟩:=q7;exact ⟨x7,σ7,H7,I7.unpinned,r7,q7⟩
end
end L2
namespace L2
open PySem PySem.Spec PyProof.Rows
abbrev R2:=V->V->Hp->VK->Prop
def OpR (X:Cx) (f:Value->Value->Sem Value) (r:R2):Prop :=
 ∀ (pins:List (Addr × Obj)) (s:Shared) (σ:St) (H:Hp) (x y:V) (v u:Value) (Q:VK),Inv X pins σ H s->RelV x v->RelV y u->r x y H Q ->
  wpAny (model X.prog X.w) X.A (f v u) (EP X pins σ Q) X.xe s
def UnR (X:Cx) (f:Value->Sem Value) (r:V->Hp->VK->Prop):Prop :=
 ∀ (pins:List (Addr × Obj)) (s:Shared) (σ:St) (H:Hp) (x:V) (v:Value) (Q:VK),Inv X pins σ H s->RelV x v->r x H Q ->
  wpAny (model X.prog X.w) X.A (f v) (EP X pins σ Q) X.xe s
def fN (X:Cx) (f:Value) (r:List V->Hp->VK->Prop):Prop :=
 ∀ (pins:List (Addr × Obj)) (s:Shared) (σ:St) (H:Hp) (xs:List V) (us:List Value) (Q:VK),Inv X pins σ H s->Vals xs us->r xs H Q ->
  wpAny (model X.prog X.w) X.A (call f us) (EP X pins σ Q) X.xe s
def tOp (r:R2) (ta tb:TE):TE:=fun σ H Q=>ta σ H fun x H1=>tb σ H1 fun y H2=>r x y H2 Q
def tUn (r:V->Hp->VK->Prop) (ta:TE):TE:=fun σ H Q=>ta σ H fun x H1=>r x H1 Q
def rI (C:Int->Int->Prop) (g:Int->Int->V):R2:=fun x y H Q=>∃ i j,x = .int i/\y = .int j/\C i j/\Q (g i j) H
def rI0 (g:Int->Int->V):R2:=fun x y H Q=>∃ i j,x = .int i/\y = .int j/\Q (g i j) H
def rU (g:Int->V):V->Hp->VK->Prop:=fun x H Q=>∃ i,x = .int i/\Q (g i) H
section
variable {X:Cx} {a b c:Expr} {ta tb tc:TE} {pos:Pos}
theorem z9 (ha:PE X a ta) (hb:PE X b tb) {pins:List (Addr × Obj)} {s:Shared} {σ:St} {H:Hp} {R:V->V->Hp->Prop} (I:Inv X pins σ H s)
 (h:ta σ H fun x H1=>tb σ H1 fun y H2=>R x y H2) {Q:Value->Shared->Prop} {f:Value->Value->Sem Value}
 (hf:∀ v u s2 x y H2,Inv X pins σ H2 s2->RelV x v->RelV y u->R x y H2->wpAny (model X.prog X.w) X.A (f v u) Q X.xe s2) :
 wpAny (model X.prog X.w) X.A (eval a X.env) (fun v s₁=>wpAny (model X.prog X.w) X.A (eval b X.env) (fun u s₂=>wpAny (model X.prog X.w) X.A (f v u) Q X.xe s₂) X.xe s₁) X.xe s:=by
 refine thn (ha pins s σ H _ I h) fun v s1 ⟨x,H1,I1,r1,q1⟩=>?_
 refine thn (hb pins s1 σ H1 _ I1 q1) fun u s2 ⟨y,H2,I2,r2,q2⟩=>?_
 exact hf v u s2 x y H2 I2 r1 r2 q2
theorem sH {op:Operator} {r:R2} (ho:OpR X (binaryOp op) r) (ha:PE X a ta) (hb:PE X b tb):PE X (.BinOp a op b pos) (tOp r ta tb):=by
 intro pins s σ H Q I h
 exact wpAny_BinOp (z9 ha hb I h fun v u s2 x y H2 I2 rx ry q=>ho pins s2 σ H2 x y v u Q I2 rx ry q)
theorem AR {op:UnaryOp} {r:V->Hp->VK->Prop} (ho:UnR X (unaryOp op) r) (ha:PE X a ta):PE X (.UnaryOp op a pos) (tUn r ta):=by
 intro pins s σ H Q I h
 exact UnaryOp_ (thn (ha pins s σ H _ I h) fun v s1 ⟨x,H1,I1,r1,q1⟩=>ho pins s1 σ H1 x v Q I1 r1 q1)
theorem opI {f:Value->Value->Sem Value} {C:Int->Int->Prop} {g:Int->Int->Int}
 (rule:∀ (i j:Int) (t u:Tok) (s:Shared) (Q:Value->Shared->Prop) (E:Value->Shared->Prop),C i j->Q (.int (g i j) s.toks) { s with toks:=s.toks + 1 }->wpAny (model X.prog X.w) X.A (f (.int i t) (.int j u)) Q E s) :
 OpR X f (rI C fun i j=>.int (g i j)):=by
 intro pins s σ H x y v u Q I rx ry h
 obtain ⟨i,j,rfl,rfl,hc,q⟩:=h
 obtain ⟨t,rfl⟩:=rx
 obtain ⟨t',rfl⟩:=ry
 exact rule i j t t' s _ _ hc ⟨.int (g i j),H,I.tok _,⟨_,rfl⟩,q⟩
theorem AX {f:Value->Value->Sem Value} {g:Int->Int->Int}
 (rule:∀ (i j:Int) (t u:Tok) (s:Shared) (Q:Value->Shared->Prop) (E:Value->Shared->Prop),Q (.int (g i j) s.toks) { s with toks:=s.toks + 1 }->wpAny (model X.prog X.w) X.A (f (.int i t) (.int j u)) Q E s) :
 OpR X f (rI0 fun i j=>.int (g i j)):=by
 intro pins s σ H x y v u Q I rx ry h
 obtain ⟨i,j,rfl,rfl,q⟩:=h
 obtain ⟨t,rfl⟩:=rx
 obtain ⟨t',rfl⟩:=ry
 exact rule i j t t' s _ _ ⟨.int (g i j),H,I.tok _,⟨_,rfl⟩,q⟩
theorem zD {f:Value->Value->Sem Value} {g:Int->Int->Bool}
 (rule:∀ (i j:Int) (t u:Tok) (s:Shared) (Q:Value->Shared->Prop) (E:Value->Shared->Prop),Q (.bool (g i j)) s->wpAny (model X.prog X.w) X.A (f (.int i t) (.int j u)) Q E s) :
 OpR X f (rI0 fun i j=>.bl (g i j)):=by
 intro pins s σ H x y v u Q I rx ry h
 obtain ⟨i,j,rfl,rfl,q⟩:=h
 obtain ⟨t,rfl⟩:=rx
 obtain ⟨t',rfl⟩:=ry
 exact rule i j t t' s _ _ ⟨.bl (g i j),H,I,rfl,q⟩
def ka (i j:Int):Prop:=0 <= j/\j <= 1000000/\i.natAbs < 2 ^ 64
def CMul (i j:Int):Prop:=(-(2 ^ 64) < i/\i < 2 ^ 64) \/ (-(2 ^ 64) < j/\j < 2 ^ 64)
theorem CMul.ok {i j:Int} (h:CMul i j):IntMulOk i j:=by
 rcases h with ⟨h1,h2⟩ | ⟨h1,h2⟩
 . exact .of_left (intBits_le_64 h1 h2)
 . exact .of_right (intBits_le_64 h1 h2)
theorem op_add:OpR X (binaryOp .Add) (rI0 fun i j=>.int (i + j)):=AX fun _ _ _ _ _ _ _ q=>add_int q
theorem zu:OpR X (binaryOp .Sub) (rI0 fun i j=>.int (i - j)):=AX fun _ _ _ _ _ _ _ q=>sub_int q
theorem zA:OpR X (binaryOp .Mod) (rI (fun _ j=>0 < j) fun i j=>.int (i % j)):=opI fun i j _ _ _ _ _ hc q=>by
 have h1:(0:Int) < j:=hc
 exact mod_int' (by omega) (by rw [Int.fmod_eq_emod_of_nonneg i (by omega)];exact q)
theorem zv:OpR X (binaryOp .Pow) (rI ka fun i j=>.int (i ^ j.toNat)):=opI fun _ _ _ _ _ _ _ hc q=>pow_int_small hc.1 hc.2.1 hc.2.2 q
theorem unI {f:Value->Sem Value} {g:Int->Int}
 (rule:∀ (i:Int) (t:Tok) (s:Shared) (Q:Value->Shared->Prop) (E:Value->Shared->Prop),Q (.int (g i) s.toks) { s with toks:=s.toks + 1 }->wpAny (model X.prog X.w) X.A (f (.int i t)) Q E s) :
 UnR X f (rU fun i=>.int (g i)):=by
 intro pins s σ H x v Q I rx h
 obtain ⟨i,rfl,q⟩:=h
 obtain ⟨t,rfl⟩:=rx
 exact rule i t s _ _ ⟨.int (g i),H,I.tok _,⟨_,rfl⟩,q⟩
theorem yt:UnR X (unaryOp .USub) (rU fun i=>.int (-i)):=unI fun _ _ _ _ _ q=>neg_int q
end
section
variable {X:Cx} {a b c:Expr} {ta tb tc:TE} {pos:Pos}
theorem wn {pins:List (Addr × Obj)} {σ:St} {H:Hp} {s:Shared} {Q:VK} {k k':Bool} (I:Inv X pins σ H s) (q:Q (.bl k) H) (e:k = k'):EP X pins σ Q (.bool k') s:=by
 subst e
 exact ⟨.bl k,H,I,rfl,q⟩
theorem ya:OpR X (compareOp .Lt) (rI0 fun i j=>.bl (decide (i < j))):=zD fun _ _ _ _ _ _ _ q=>lt_int q
theorem yb:OpR X (compareOp .LtE) (rI0 fun i j=>.bl (decide (i <= j))):=zD fun _ _ _ _ _ _ _ q=>le_int q
theorem AW:OpR X (compareOp .Gt) (rI0 fun i j=>.bl (decide (j < i))):=zD fun _ _ _ _ _ _ _ q=>gt_int q
theorem zB:OpR X (compareOp .Is) (fun x y H Q=>y = .non/\Q (.bl (decide (x = .non))) H):=by
 intro pins s σ H x y v u Q I rx ry h
 obtain ⟨rfl,q⟩:=h
 cases ry
 refine is_none_gen (wn I q ?_)
 cases x <;> first
  | (cases rx;rfl)
  | (obtain ⟨t,rfl⟩:=rx;rfl)
theorem xp:OpR X (compareOp .IsNot) (fun x y H Q=>y = .non/\Q (.bl (!decide (x = .non))) H):=by
 intro pins s σ H x y v u Q I rx ry h
 obtain ⟨rfl,q⟩:=h
 cases ry
 refine isnot_none_gen (wn I q ?_)
 cases x <;> first
  | (cases rx;rfl)
  | (obtain ⟨t,rfl⟩:=rx;rfl)
theorem OpR.or {f:Value->Value->Sem Value} {r r':R2} (h:OpR X f r) (h':OpR X f r'):OpR X f (fun x y H Q=>r x y H Q \/ r' x y H Q):=by
 intro pins s σ H x y v u Q I rx ry q
 rcases q with q | q
 . exact h pins s σ H x y v u Q I rx ry q
 . exact h' pins s σ H x y v u Q I rx ry q
theorem eB (b:Expr) {op:CmpOp} (h:op ≠ .In:=by decide) (h2:op ≠ .NotIn:=by decide):behindInMarks op b = false:=by
 have e1:(op == CmpOp.In) = false:=by cases op <;> first | rfl | exact absurd rfl h
 have e2:(op == CmpOp.NotIn) = false:=by cases op <;> first | rfl | exact absurd rfl h2
 cases b <;> simp [behindInMarks,e1,e2]
theorem xl {op:CmpOp} {r:R2} (ho:OpR X (compareOp op) r) (ha:PE X a ta) (hb:PE X b tb) (hm:behindInMarks op b = false):PE X (.Compare a [op] [b] pos) (tOp r ta tb):=by
 intro pins s σ H Q I h
 exact wpAny_Compare1 (z9 ha hb I h fun v u s2 x y H2 I2 rx ry q=>ho pins s2 σ H2 x y v u Q I2 rx ry q) hm
def Ap (t:TE):TT:=fun σ H Q=>t σ H fun x H'=>∃ k,x = .bl k/\Q k H'
theorem xg {op:CmpOp} {r:R2} (ho:OpR X (compareOp op) r) (ha:PE X a ta) (hb:PE X b tb) (hm:behindInMarks op b = false):PT X (.Compare a [op] [b] pos) (Ap (tOp r ta tb)):=by
 intro pins s σ H Q I h
 refine wpAny_isTrue_Compare1 (thn (ha pins s σ H _ I h) fun v s1 ⟨x,H1,I1,r1,q1⟩=>thn (hb pins s1 σ H1 _ I1 q1) fun u s2 ⟨y,H2,I2,r2,q2⟩ =>
  thn (ho pins s2 σ H2 x y v u _ I2 r1 r2 q2) fun c s3 ⟨z,H3,I3,r3,k,e,q3⟩=>?_) hm
 subst e
 cases r3
 exact wpAny_truthy_bool ⟨H3,I3,q3⟩
theorem og:(sizeLine:Nat) < 2 ^ 63:=by rw [sizeLine_eq];decide
theorem kJ {x:V} {us:List Value} (r:Vals [x] us):∃ u,us = [u]/\RelV x u:=by
 cases r with
 | cons r1 r2=>cases r2;exact ⟨_,rfl,r1⟩
theorem Ao {x y:V} {us:List Value} (r:Vals [x,y] us):∃ u w',us = [u,w']/\RelV x u/\RelV y w':=by
 cases r with
 | cons r1 r2 =>
  cases r2 with
  | cons r3 r4=>cases r4;exact ⟨_,_,rfl,r1,r3⟩
theorem l6:fN X (.builtin "abs") (fun xs H Q=>∃ i,xs = [.int i]/\Q (.int (if i < 0 then -i else i)) H):=by
 intro pins s σ H xs us Q I r h
 obtain ⟨i,rfl,q⟩:=h
 obtain ⟨u,rfl,t,rfl⟩:=kJ r
 exact call_abs_int fun u tk=>⟨.int (if i < 0 then -i else i),H,I.tok _,⟨_,rfl⟩,q⟩
end
end L2
namespace L2
open PySem PySem.Spec PyProof.Rows
section
variable {prog:Program} {w:World} {A:Around} {E:Value->Shared->Prop} {s:Shared} {K:PySem.W.Frag} {x dx C f:Addr} {mA:Str->Option Value} {name:Str} {v:Value}
end
section
variable {P:Program} {w:World} {H H':Hp} {h h':Heap} {a C dx:Addr} {fs fs':List (Str × V)}
end
section
variable {X:Cx} {pins:List (Addr × Obj)} {σ:St} {H:Hp} {s:Shared} {a C dx:Addr} {fs:List (Str × V)} {f:Str} {v:V} {A:Around} {E:Value->Shared->Prop}
end
section
variable {X:Cx} {o e value:Expr} {f:Str} {pos pos' tpos:Pos} {ta tv:TE}
end
section
variable {X:Cx} {pins:List (Addr × Obj)} {σ:St} {H:Hp} {s:Shared} {A:Around} {E:Value->Shared->Prop} {Q:Value->Shared->Prop} {c:Value} {b:Bool}
end
end L2
namespace L2
open PySem PySem.Spec PyProof.Rows
structure Room (k:Nat) (A:Around):Prop where
 hd:A.handled = none
 dp:A.depth + 3 * k + 5 < recursionLimit
 un:A.units + 16 * k + 200 < cLine
theorem Room.mono {j k:Nat} {A:Around} (r:Room k A) (h:j <= k):Room j A:=⟨r.hd,by have:=r.dp;omega,by have:=r.un;omega⟩
theorem Room.deeper {k:Nat} {A:Around} (r:Room (k + 1) A) (env:Env):Room k (A.deeper env) :=
 ⟨r.hd,by have:=r.dp;show A.depth + 1 + 3 * k + 5 < _;omega,by have:=r.un;show A.units + 3 + 16 * k + 200 < _;omega⟩
theorem Room.depth {k:Nat} {A:Around} (r:Room k A):A.depth < recursionLimit:=by have:=r.dp;omega
theorem Room.units {k:Nat} {A:Around} (r:Room k A):A.units + 64 < cLine:=by have:=r.un;omega
theorem Room.units0 {k:Nat} {A:Around} (r:Room k A):A.units < cLine:=by have:=r.un;omega
def yE:TA:=fun _ H Q=>Q [] H
def u6 (ta:TE) (tr:TA):TA:=fun σ H Q=>ta σ H fun x H1=>tr σ H1 fun xs H2=>Q (x :: xs) H2
section
variable {X:Cx} {e:Expr} {es:List Expr} {te:TE} {t:TA} {pos:Pos}
theorem eU:PA X [] yE:=fun _ _ _ _ H Q I h=>Calls.spliced_nil ⟨[],H,I,.nil,h⟩
theorem cV (ha:PE X e te) (hr:PA X es t) (hs:starEach (e :: es) X.env = (false,eval e X.env) :: starEach es X.env:=by rfl):PA X (e :: es) (u6 te t):=by
 intro pos pins s σ H Q I h
 rw [hs]
 show wpAny _ _ (spliced ((false,eval e X.env) :: backTo pos (starEach es X.env))) _ _ s
 refine Calls.spliced_cons (thn (ha pins s σ H _ I h) fun u s1 ⟨x,H1,I1,r1,q1⟩=>?_)
 exact thn (hr pos pins s1 σ H1 _ I1 q1) fun us s2 ⟨xs,H2,I2,r2,q2⟩=>⟨x :: xs,H2,I2,.cons r1 r2,q2⟩
def Bt (t:TA):TE:=fun σ H Q=>t σ H fun xs H1=>xs.length <= sizeLine/\∀ p,H1 p = none->Q (.ref p) (upd H1 p (.tup xs))
def By (t:TA):TE:=fun σ H Q=>t σ H fun xs H1=>xs.length <= sizeLine/\∀ p,H1 p = none->Q (.ref p) (upd H1 p (.lst xs))
theorem qG {x1} (h:PA X es t):PE X (.Tuple es x1 pos) (Bt t):=by
 intro pins s σ H Q I hq
 refine wpAny_Tuple_spliced (thn (h pos pins s σ H _ I hq) fun us s1 ⟨xs,H1,I1,r,z,q⟩=>⟨by rw [<- r.length];exact z,?_⟩)
 have hf:H1 s1.heap.objs.size = none:=I1.hok.fresh (Nat.le_refl _)
 refine ⟨.ref s1.heap.objs.size,upd H1 s1.heap.objs.size (.tup xs),I1.laid (t':=s1.toks) (fun b u e=>Heap.get?_push_of_some _ e) (Nat.le_refl _) ?_,rfl,q _ hf⟩
 exact ⟨z,us,r,⟨_,Heap.get?_push_size _ rfl,rfl,_,rfl⟩⟩
theorem qH (h:PA X es t):PE X (.List es pos) (By t):=by
 intro pins s σ H Q I hq
 refine wpAny_List_spliced (thn (h pos pins s σ H _ I hq) fun us s1 ⟨xs,H1,I1,r,z,q⟩=>⟨by rw [<- r.length];exact z,?_⟩)
 have hf:H1 s1.heap.objs.size = none:=I1.hok.fresh (Nat.le_refl _)
 refine ⟨.ref s1.heap.objs.size,upd H1 s1.heap.objs.size (.lst xs),I1.laid (t':=s1.toks) (fun b u e=>Heap.get?_push_of_some _ e) (Nat.le_refl _) ?_,rfl,q _ hf⟩
 exact ⟨z,us,0,r,Heap.get?_push_size _ rfl⟩
end
abbrev Sp:=List V->Hp->VK->XK->Prop
abbrev CXT:=List Env->Hp->Shared->XK->Value->Shared->Prop
structure xQ (P:Program) (w:World) (K:PySem.W.Frag) (mg:Str->Option Value) (base:Heap) (A:Around) (outer:List Env) (s:Shared) (H:Hp):Prop where
 frames:A.frames = some outer
 mod:Mod K mg base
 bs:∀ b o,base.get? b = some o->s.heap.get? b = some o/\H b = none
 bsz:base.objs.size <= s.heap.objs.size
 funs:s.heap.FunFrames base outer
 frf:∀ b ∈ frs outer,H b = none
 hok:HOk P w H s.heap
 bare:AllBare s.gens
def CE (outer:List Env) (P:Program) (w:World) (H:Hp) (s:Shared) (Q:VK) (u:Value) (s':Shared):Prop :=
 ∃ v H',s'.os = s.os/\AllBare s'.gens/\Un (frs outer) [] H H' s.heap s'.heap/\HOk P w H' s'.heap/\RelV v u/\Q v H'
def CR (CX:CXT) (outer:List Env) (P:Program) (w:World) (H:Hp) (s:Shared) (Q:VK) (E:XK) (r:Result) (s':Shared):Prop :=
 match r with
 | .ok (.ret u)=>CE outer P w H s Q u s'
 | .ok _=>False
 | .error e=>CX outer H s E e s'
structure FnOk (P:Program) (w:World) (K:PySem.W.Frag) (mg:Str->Option Value) (base:Heap) (CX:CXT) (k:Nat) (f:Addr) (fd:FuncData) (ps:List Str) (sp:Sp):Prop where
 len:∀ vs H Q E,sp vs H Q E->vs.length = ps.length
 run:∀ (A:Around) (outer:List Env) (s:Shared) (H:Hp) (args:Args) (us:List Value) (vs:List V) (Q:VK) (E:XK),Room k A->xQ P w K mg base A outer s H->BindsTo s fd args (ps.zip us)->Vals vs us->sp vs H Q E ->
  codeAny (model P w) A (.call (.ref f) args) (CR CX outer P w H s Q E) s
theorem FnOk.imp {P:Program} {w:World} {K:PySem.W.Frag} {mg:Str->Option Value} {base:Heap} {CX:CXT} {k:Nat} {f:Addr} {fd:FuncData} {ps:List Str} {sp sp':Sp} (F:FnOk P w K mg base CX k f fd ps sp)
 (h:∀ vs H Q E,sp' vs H Q E->sp vs H Q E):FnOk P w K mg base CX k f fd ps sp' :=
 ⟨fun vs H Q E q=>F.len vs H Q E (h _ _ _ _ q),fun A outer s H args us vs Q E hr he hb hv hs=>F.run A outer s H args us vs Q E hr he hb hv (h _ _ _ _ hs)⟩
section
variable {X:Cx} {pins:List (Addr × Obj)} {σ:St} {H:Hp} {s s':Shared}
theorem Inv.env0 (I:Inv X pins σ H s):xQ X.prog X.w X.K X.mg X.base X.A X.stack s H :=
 ⟨I.ok.frames,I.ok.mod,I.bs,Nat.le_trans I.ok.bsz I.sz,I.stack,I.stkFree,I.hok,I.bare⟩
theorem Inv.after {Q:VK} {u:Value} (I:Inv X pins σ H s) (h:CE X.stack X.prog X.w H s Q u s'):EP X pins σ Q u s':=by
 obtain ⟨v,H',os,bare,un,hok,r,q⟩:=h
 obtain ⟨hh,g,d,t,os'⟩:=s'
 obtain rfl:os' = s.os:=os
 exact ⟨v,H',I.call (h':=hh) (g':=g) (d':=d) (t':=t) (ch:=[]) un hok bare (fun b z=>absurd z (by simp)),r,q⟩
end
def Av (sp:Sp) (dvs:List V) (E:XK) (t:TA):TE:=fun σ H Q=>t σ H fun vs H1=>sp (vs ++ dvs) H1 Q E
def Binds (K:PySem.W.Frag) (fd:FuncData) (ps:List Str) (ds:List Value):Prop :=
 ∀ (s:Shared) (us:List Value),K.In s.heap->(us ++ ds).length = ps.length->BindsTo s fd ⟨us,[]⟩ (ps.zip (us ++ ds))
theorem Binds.all {K:PySem.W.Frag} {fd:FuncData} {ps:List Str} (h:∀ us:List Value,us.length = ps.length->bindArgs fd ⟨us,[]⟩ = pure (ps.zip us)):Binds K fd ps []:=fun s us _ hl=>by
 rw [Zk] at hl ⊢
 exact .of_eq (h us hl)
def rO (CX:CXT) (X:Cx) (E:XK):Prop:=∀ (pins:List (Addr × Obj)) (σ:St) (H:Hp) (s:Shared) (e:Value) (s':Shared),Inv X pins σ H s->CX X.stack H s E e s'->X.xe e s'
section
variable {X:Cx} {CX:CXT} {k:Nat} {f C:Addr} {fd:FuncData} {ps:List Str} {sp:Sp} {dvs:List V} {ds:List Value} {E:XK} {x m:Str} {p pos apos:Pos} {e o:Expr} {es:List Expr} {ta:TE} {t:TA}
theorem yK {pins:List (Addr × Obj)} {σ:St} {H:Hp} {s:Shared} {Q:VK} {us:List Value} {vs:List V} (F:FnOk X.prog X.w X.K X.mg X.base CX k f fd ps sp) (hr:Room k X.A) (hb:Binds X.K fd ps ds) (hd:Vals dvs ds) (hx:rO CX X E)
 (I:Inv X pins σ H s) (r:Vals vs us) (h:sp (vs ++ dvs) H Q E):wpAny (model X.prog X.w) X.A (call (.ref f) us) (EP X pins σ Q) X.xe s:=by
 have r2:Vals (vs ++ dvs) (us ++ ds):=r.append hd
 have hl:(us ++ ds).length = ps.length:=by rw [<- r2.length];exact F.len _ _ _ _ h
 refine wpAny_call (codeAny_mono (F.run X.A X.stack s H ⟨us,[]⟩ (us ++ ds) (vs ++ dvs) Q E hr I.env0 (hb s us I.kIn hl) r2 h) fun r s' hq=>?_)
 cases r with
 | error e=>exact hx pins σ H s e s' I hq
 | ok fl =>
  cases fl with
  | ret u=>exact I.after hq
  | next=>exact False.elim hq
  | brk=>exact False.elim hq
  | cont=>exact False.elim hq
theorem ku (F:FnOk X.prog X.w X.K X.mg X.base CX k f fd ps sp) (hr:Room k X.A) (hg:Gl X x) (hm:X.mg x = some (.ref f)) (hk:PySem.W.keepIn X.K (.ref f) = true) (hb:Binds X.K fd ps ds) (hd:Vals dvs ds) (hx:rO CX X E)
 (ha:PA X (e :: es) t) (hdb:(x == ("__debug__":Str)) = false:=by decide) (he:starEach (e :: es) X.env = (false,eval e X.env) :: starEach es X.env:=by rfl) (hpl:(backTo pos (starEach es X.env)).any (·.1) = false:=by rfl) :
 PE X (.Call (.Name x p) (e :: es) [] pos) (Av sp dvs E t):=by
 intro pins s σ H Q I h
 refine wpAny_Call_Name_kw (xy I hg hm ?_ hdb)
 refine PySem.W.callWith_K (h₀:=X.base) I.ok.mod.kin hk (thn (ha pos pins s σ H _ I h) fun us s1 ⟨vs,H1,I1,r,q⟩=>⟨I1.kIn,?_⟩) he hpl
 exact yK F hr hb hd hx I1 r q
end
section
variable {X:Cx} {CX:CXT} {k:Nat} {f C:Addr} {fd:FuncData} {ps ks:List Str} {sp:Sp} {E:XK} {x m:Str} {p pos apos kpos:Pos} {e o:Expr} {es:List Expr} {kws:List Keyword} {te ta:TE} {t tk:TA} {nm:Option Str}
variable {g:List Value->List Value->List Value} {gV:List V->List V->List V}
end
structure aQ (N P:List Str) (sc:Scope):Prop where
 kind:sc.kind = .function
 co:sc.isCoroutine = false
 gen:sc.isGenerator = false
 nd:N.Nodup
 pre:N.take P.length = P
 par:∀ x ∈ P,sc.names.lookup x = some .local \/ sc.names.lookup x = some .cell
 nofree:∀ y ∈ sc.names,y.2 ≠ .free
theorem nr {kindOf:Str->Option NameKind} {x:Str}:∀ {binds:List (Str × Value)} {m:Str->Option Value},(∀ v,(x,v) ∉ binds)->bindL kindOf binds m x = m x
 | [],_,_=>rfl
 | (n,v) :: r,m,h=>by
  unfold bindL
  rw [nr fun w hw=>h w (Zp _ hw)]
  split
  . have:x ≠ n:=by rintro rfl;exact h v Zo
    simp [this]
  . rfl
theorem nv {kindOf:Str->Option NameKind} {x:Str}:∀ {binds:List (Str × Value)} {m:Str->Option Value},(∀ v,(x,v) ∉ binds)->bindC kindOf binds m x = m x
 | [],_,_=>rfl
 | (n,v) :: r,m,h=>by
  unfold bindC
  rw [nv fun w hw=>h w (Zp _ hw)]
  split
  . rfl
  . have:x ≠ n:=by rintro rfl;exact h v Zo
    simp [this]
theorem nu {kindOf:Str->Option NameKind} {x:Str} {v:Value}:∀ {P:List Str} {vs:List Value} {i:Nat} {m:Str->Option Value},P.Nodup->P[i]? = some x->vs[i]? = some v->kindOf x = some .local ->
 bindL kindOf (P.zip vs) m x = some v
 | [],_,_,_,_,h,_,_=>by simp at h
 | _ :: _,[],_,_,_,_,h,_=>by simp at h
 | p :: P,w :: vs,0,m,nd,h1,h2,hk=>by
  simp at h1 h2;subst h1;subst h2
  show bindL kindOf ((p,w) :: P.zip vs) m p = _
  unfold bindL
  rw [nr fun v hv=>(List.nodup_cons.mp nd).1 (List.of_mem_zip hv).1,if_pos hk]
  simp
 | p :: P,w :: vs,i + 1,m,nd,h1,h2,hk=>by
  show bindL kindOf ((p,w) :: P.zip vs) m x = _
  unfold bindL
  exact nu (i:=i) (List.nodup_cons.mp nd).2 (by simpa using h1) (by simpa using h2) hk
theorem nw {kindOf:Str->Option NameKind} {x:Str} {v:Value}:∀ {P:List Str} {vs:List Value} {i:Nat} {m:Str->Option Value},P.Nodup->P[i]? = some x->vs[i]? = some v->kindOf x ≠ some .local ->
 bindC kindOf (P.zip vs) m x = some v
 | [],_,_,_,_,h,_,_=>by simp at h
 | _ :: _,[],_,_,_,_,h,_=>by simp at h
 | p :: P,w :: vs,0,m,nd,h1,h2,hk=>by
  simp at h1 h2;subst h1;subst h2
  show bindC kindOf ((p,w) :: P.zip vs) m p = _
  unfold bindC
  rw [nv fun v hv=>(List.nodup_cons.mp nd).1 (List.of_mem_zip hv).1,if_neg hk]
  simp
 | p :: P,w :: vs,i + 1,m,nd,h1,h2,hk=>by
  show bindC kindOf ((p,w) :: P.zip vs) m x = _
  unfold bindC
  exact nw (i:=i) (List.nodup_cons.mp nd).2 (by simpa using h1) (by simpa using h2) hk
def start (N:List Str) (vs:List V):St:=vs.map some ++ List.replicate (N.length - vs.length) none
def lV (CX:CXT) (P:Program) (w:World) (K:PySem.W.Frag) (mg:Str->Option Value) (base:Heap) (N:List Str) (qual:Str) (scope:Scope) (f:Addr) (cd:Value) (A:Around) (outer:List Env) (s:Shared) (H:Hp) (E:XK):Cx where
 prog:=P
 w:=w
 K:=K
 mg:=mg
 base:=base
 A:=A.deeper (envOfC qual scope s.heap.objs.size f cd)
 N:=N
 s₀:=s
 H₀:=H
 env:=envOfC qual scope s.heap.objs.size f cd
 outer:=outer
 stack:=envOfC qual scope s.heap.objs.size f cd :: outer
 ex:=[]
 calm:=true
 fn:=fun _=>true
 pn:=[]
 xe:=fun e s'=>wpAny (model P w) (A.deeper (envOfC qual scope s.heap.objs.size f cd)) (leaving (envOfC qual scope s.heap.objs.size f cd) e) (fun _ s''=>CX outer H s E e s'') (fun e' s''=>CX outer H s E e' s'') s'
theorem qg {sc:Scope} {n:Nat} {x:Str} (h:sc.names.lookup x = some .cell):∃ c,(cellsFrom n sc.names []).lookup x = some c:=by
 have q:=PySem.W.cellsFrom_some sc.names n [] (.inl h)
 exact Option.isSome_iff_exists.mp q
theorem uF {CX:CXT} {P:Program} {w:World} {K:PySem.W.Frag} {mg:Str->Option Value} {base:Heap} {N ps:List Str} {qual:Str} {scope:Scope} {f:Addr} {cd:Value} {A:Around} {outer:List Env} {s s1:Shared} {H:Hp} {E:XK} {us:List Value} {vs:List V}
 (S:aQ N ps scope) (hd:A.handled = none) (e0:xQ P w K mg base A outer s H) (hl:vs.length = ps.length) (r:Vals vs us)
 (x:InCallC s s.heap.objs.size (bindL (envOfC qual scope s.heap.objs.size f cd).kindOf (ps.zip us) fun _=>none) (cellsFrom (s.heap.objs.size + 1) scope.names []) (bindC (envOfC qual scope s.heap.objs.size f cd).kindOf (ps.zip us) fun _=>none) s1) :
 Inv (lV CX P w K mg base N qual scope f cd A outer s H E) [] (start N vs) H s1:=by
 have hpl:ps.length <= N.length:=by have:=congrArg List.length S.pre;rw [List.length_take] at this;omega
 obtain ⟨h1,tk,rfl,hk⟩:=x.done
 have noA:∀ b:Addr,b ∉ (lV CX P w K mg base N qual scope f cd A outer s H E).ex:=fun b z=>absurd (show b ∈ ([]:List Addr) from z) (by simp)
 refine ⟨⟨e0.mod,S.kind,rfl,rfl,Nat.le_refl _,fun y z c h1 h2=>?_,fun y hy=>?_,fun y c _ h=>?_,fun _=>hd,Around.frames_deeper e0.frames,.inr ⟨rfl,rfl⟩,fun b z=>absurd z (noA b),e0.bs,e0.bsz,fun b _ _=>noA b,fun b z=>absurd z (noA b),e0.funs,e0.frf⟩,
  rfl,e0.bare,Un.kept hk,⟨_,x.toInCall.ns,fun i y v h1 h2 h3=>?_⟩,fun y c h=>⟨_,x.cell y c h⟩,e0.hok.fresh (Nat.le_refl _),fun y c h=>?_,fun p hp=>absurd (show p ∈ ([]:List (Addr × Obj)) from hp) (by simp),e0.hok.kept hk,?_⟩
 . exact name_of_addr x.apart (PySem.mem_of_lookup h1) (PySem.mem_of_lookup h2)
 . have hy:scope.names.lookup y = some .cell \/ scope.names.lookup y = some .free:=hy
   rcases hy with hy | hy
   . exact qg hy
   . exact absurd rfl (S.nofree _ (PySem.mem_of_lookup hy))
 . exact Nat.le_of_lt (x.above y c (PySem.mem_of_lookup h))
 . have hi:i < vs.length:=by
    unfold start at h2
    by_cases hi:i < vs.length
    . exact hi
    . rw [List.getElem?_append_right (by simpa using hi)] at h2
      rw [List.getElem?_replicate] at h2
      split at h2 <;> cases h2
   have ha:vs[i]? = some v:=by
    unfold start at h2
    rw [List.getElem?_append_left (by simpa using hi),List.getElem?_map] at h2
    cases e:vs[i]? with
    | none=>rw [e] at h2;cases h2
    | some a=>rw [e] at h2;cases h2;rfl
   obtain ⟨u,hu,rv⟩:=r.get ha
   have hp:ps[i]? = some y:=by
    rw [<- S.pre,List.getElem?_take_of_lt (by omega)];exact h1
   have ndP:ps.Nodup:=by rw [<- S.pre];exact S.nd.sublist (List.take_sublist _ _)
   refine ⟨u,rv,?_⟩
   rcases S.par y (List.mem_of_getElem? hp) with k | k
   . exact .inl ⟨k,nu ndP hp hu k⟩
   . obtain ⟨c,e⟩:=qg (n:=s.heap.objs.size + 1) k
     refine .inr ⟨.inl k,c,e,?_⟩
     have q:=x.cell y c e
     rw [nw ndP hp hu (by show scope.names.lookup y ≠ _;rw [k];decide)] at q
     exact q
 . exact e0.hok.fresh (Nat.le_of_lt (x.above y c (PySem.mem_of_lookup h)))
 . unfold start
   show _ = N.length
   rw [List.length_append,Zl,List.length_replicate]
   omega
theorem yi {CX:CXT} {P:Program} {w:World} {K:PySem.W.Frag} {mg:Str->Option Value} {base:Heap} {k:Nat} {f:Addr} {name qual:Str} {params:Arguments} {body:List Stmt} {scope:Scope} {dV kV doc pm cdv ct oc:Value} {an od:Option Addr}
 {osl:Array (Option Value)} {N ps:List Str} {sp:Sp} (lk:K.lookup f = some ⟨oc,od,.func (PySem.W.fnOf name qual params body scope dV kV doc pm an cdv ct),osl⟩) (hcd:PySem.W.codeIn K cdv qual = true) (S:aQ N ps scope)
 (len:∀ vs H Q E,sp vs H Q E->vs.length = ps.length)
 (hbody:∀ (A:Around) (outer:List Env) (s:Shared) (H:Hp) (vs:List V) (Q:VK) (E:XK),Room k (A.deeper (envOfC qual scope s.heap.objs.size f cdv))->sp vs H Q E ->
  ∃ t,PSs (lV CX P w K mg base N qual scope f cdv A outer s H E) body t/\t { nx:=fun _ H'=>Q .non H',rt:=Q } (start N vs) H) :
 FnOk P w K mg base CX (k + 1) f (PySem.W.fnOf name qual params body scope dV kV doc pm an cdv ct) ps sp:=by
 refine ⟨len,fun A outer s H args us vs Q E hr e0 hb r hsp=>?_⟩
 have hl:=len _ _ _ _ hsp
 have KX:K.In s.heap:=e0.mod.kin.keeps fun b o e=>(e0.bs b o e).1
 have lim:s.heap.NoLimit:=e0.mod.nolimit.keeps fun b o e=>(e0.bs b o e).1
 have hkind:∀ y ∈ ps.zip us,scope.names.lookup y.1 = some .local \/ (scope.names.lookup y.1 = some .cell/\((cellsFrom (s.heap.objs.size + 1) scope.names []).lookup y.1).isSome = true):=fun ⟨n,v⟩ hy=>by
  rcases S.par n (List.of_mem_zip hy).1 with q | q
  . exact .inl q
  . exact .inr ⟨q,PySem.W.cellsFrom_some _ _ _ (.inl q)⟩
 refine codeAny_call_function hr.depth (KX _ _ lk) rfl S.co S.gen rfl (PySem.W.codeRec_of KX hcd) (hb _ _ _ _ ?_)
 refine wpAny_newFunctionEnv_cells S.kind hkind fun env he s1 x=>?_
 subst he
 refine ⟨lim.keeps x.toInCall.keep,codeAny_func ?_⟩
 obtain ⟨t,ht,hq⟩:=hbody A outer s H vs Q E (hr.deeper _) hsp
 have I:Inv (lV CX P w K mg base N qual scope f cdv A outer s H E) [] (start N vs) H s1:=uF S hr.hd e0 hl r x
 refine wpAny_mono (ht [] s1 (start N vs) H _ I hq) (fun fl s' hs=>?_) fun e s' hs=>hs
 have fin:∀ {σ':St} {H':Hp} {v:V} {u:Value},Inv (lV CX P w K mg base N qual scope f cdv A outer s H E) [] σ' H' s'->RelV v u->Q v H'->CE outer P w H s Q u s' :=
  fun {σ' H' v u} J rv q=>⟨v,H',J.os,J.bare,J.base,J.hok,rv,q⟩
 cases fl with
 | ret u =>
  obtain ⟨v,σ',H',J,rv,q⟩:=hs
  exact fin J rv q
 | next =>
  obtain ⟨σ',H',J,q⟩:=hs
  exact fin (v:=V.non) (u:=Value.none) J rfl q
 | brk =>
  obtain ⟨_,_,_,q⟩:=hs
  exact False.elim q
 | cont =>
  obtain ⟨_,_,_,q⟩:=hs
  exact False.elim q
end L2
namespace L2
open PySem PySem.Spec PyProof.Rows
section
variable {X:Cx} {x:Str} {p pos:Pos} {e:Expr} {es:List Expr} {t:TA} {id T:String} {r:List V->Hp->VK->Prop}
def tCB (r:List V->Hp->VK->Prop) (t:TA):TE:=fun σ H Q=>t σ H fun vs H1=>r vs H1 Q
theorem lh (hc:fN X (.builtin id) r) (hg:Gl X x) (hm:X.mg x = none) (hv:bootBuiltins x = some (.builtin id)) (ha:PA X (e :: es) t) (hn:x ≠ "__name__":=by decide) (hdb:(x == ("__debug__":Str)) = false:=by decide)
 (he:starEach (e :: es) X.env = (false,eval e X.env) :: starEach es X.env:=by rfl) (hpl:(backTo pos (starEach es X.env)).any (·.1) = false:=by rfl):PE X (.Call (.Name x p) (e :: es) [] pos) (tCB r t):=by
 intro pins s σ H Q I h
 refine wpAny_Call_Name_kw (lK I hg hm hv ?_ hn hdb)
 exact PyProof.Rows.callWith_builtin1 (thn (ha pos pins s σ H _ I h) fun us s1 ⟨vs,H1,I1,r1,q1⟩=>hc pins s1 σ H1 vs us Q I1 r1 q1) he hpl
theorem jB (hc:fN X (.type T) r) (hg:Gl X x) (hm:X.mg x = none) (hv:bootBuiltins x = some (.type T)) (ha:PA X (e :: es) t) (hn:x ≠ "__name__":=by decide) (hdb:(x == ("__debug__":Str)) = false:=by decide)
 (he:starEach (e :: es) X.env = (false,eval e X.env) :: starEach es X.env:=by rfl) (hpl:(backTo pos (starEach es X.env)).any (·.1) = false:=by rfl):PE X (.Call (.Name x p) (e :: es) [] pos) (tCB r t):=by
 intro pins s σ H Q I h
 refine wpAny_Call_Name_kw (lK I hg hm hv ?_ hn hdb)
 exact PyProof.Rows.callWith_type1 (thn (ha pos pins s σ H _ I h) fun us s1 ⟨vs,H1,I1,r1,q1⟩=>hc pins s1 σ H1 vs us Q I1 r1 q1) he hpl
end
end L2
namespace HT
open PySem PyProof.Rows
section
open PySem.SeqAt
open PySem.AutoSeq1 (wpAny_loadPart')
open PySem.MeetsSeq PySem.MeetsSeq2 PySem.MeetsSeq3
end
section
variable {prog:Program} {w:World} {A:Around} {E:Value->Shared->Prop} {s:Shared}
def sIx (n d:Nat):Option Int->Nat
 | none=>d
 | some v=>if v < 0 then (v + (n:Int)).toNat else min v.toNat n
end
end HT
namespace L2
open PySem PySem.Spec PyProof.Rows
abbrev TO:=St->Hp->(Option Int->Hp->Prop)->Prop
def PO (X:Cx) (e:Option Expr) (t:TO):Prop :=
 ∀ (pins:List (Addr × Obj)) (s:Shared) (σ:St) (H:Hp) (Q:Option Int->Hp->Prop),Inv X pins σ H s->t σ H Q ->
  wpAny (model X.prog X.w) X.A (evalPart e X.env) (fun u s'=>∃ o H',Inv X pins σ H' s'/\IsPart u o/\Q o H') X.xe s
def Aq (t:TE):TO:=fun σ H Q=>t σ H fun x H1=>∃ i,x = .int i/\Q (some i) H1
section
variable {X:Cx} {e:Expr} {te:TE} {lo hi:Option Expr} {tl th:TO} {pos p2:Pos}
theorem xi (h:PE X e te):PO X (some e) (Aq te):=by
 intro pins s σ H Q I hw
 rw [evalPart_some]
 refine thn (h pins s σ H _ I hw) fun u s1 ⟨x,H1,I1,r1,q1⟩=>?_
 obtain ⟨i,rfl,q⟩:=q1
 obtain ⟨t,rfl⟩:=r1
 exact ⟨some i,H1,I1,.int i t,q⟩
def SlR (X:Cx) (r:V->Option Int->Option Int->Hp->VK->Prop):Prop :=
 ∀ (pins:List (Addr × Obj)) (s:Shared) (σ:St) (H:Hp) (x:V) (v vl vu:Value) (lo hi:Option Int) (sl:Addr) (Q:VK),Inv X pins σ H s->RelV x v->s.heap.IsSliceOf sl vl vu .none->IsPart vl lo->IsPart vu hi->r x lo hi H Q ->
  ∃ T id,typeLookup (.type T) "__getitem__" = pure (some (.builtin id))/\s.TypeIs v T/\wpAny (model X.prog X.w) X.A (getItem v (.ref sl)) (EP X pins σ Q) X.xe s
def tSl (r:V->Option Int->Option Int->Hp->VK->Prop) (te:TE) (tl th:TO):TE:=fun σ H Q=>te σ H fun x H1=>tl σ H1 fun l H2=>th σ H2 fun u H3=>r x l u H3 Q
theorem vA {r:V->Option Int->Option Int->Hp->VK->Prop} (hr:SlR X r) (he:PE X e te) (hl:PO X lo tl) (hu:PO X hi th):PE X (.Subscript e (.Slice lo hi none p2) pos) (tSl r te tl th):=by
 intro pins s σ H Q I h
 refine Subscript_ (thn (he pins s σ H _ I h) fun v s1 ⟨x,H1,I1,r1,q1⟩=>?_)
 refine wpAny_Slice (thn (hl pins s1 σ H1 _ I1 q1) fun vl s2 ⟨l,H2,I2,pl,q2⟩=>thn (hu pins s2 σ H2 _ I2 q2) fun vu s3 ⟨u,H3,I3,pu,q3⟩=>?_)
 rw [evalPart_none]
 refine wpAny_pure ?_
 have I4:Inv X pins σ H3 { s3 with heap:=s3.heap.push { cls:=.type "slice",data:=.fields #[vl,vu,.none] } }:=I3.kept (t':=s3.toks) fun b ob q=>Heap.get?_push_of_some _ q
 obtain ⟨T,id,hT,ht,hg⟩:=hr pins { s3 with heap:=s3.heap.push { cls:=.type "slice",data:=.fields #[vl,vu,.none] } } σ H3 x v vl vu l u s3.heap.objs.size Q I4 r1 (Heap.IsSliceOf.new ..) pl pu q3
 show wpAny (model X.prog X.w) X.A (subscriptTail e (.Slice lo hi none p2) v (.ref s3.heap.objs.size)) (EP X pins σ Q) X.xe { s3 with heap:=s3.heap.push { cls:=.type "slice",data:=.fields #[vl,vu,.none] } }
 exact tail_any (ops:=[.ref s3.heap.objs.size,v]) ht hT hg (by with_unfolding_all rfl)
def rC (xs:List V) (lo hi:Option Int):List V:=(xs.drop (HT.sIx xs.length 0 lo)).take (HT.sIx xs.length xs.length hi - HT.sIx xs.length 0 lo)
theorem qb (xs:List V) (lo hi:Option Int):(rC xs lo hi).length <= xs.length:=by
 unfold rC
 rw [List.length_take,List.length_drop]
 omega
end
end L2
namespace L2
open PySem PySem.Spec PyProof.Rows
def ixN (n:Nat) (i:Int):Option Nat:=if 0 <= i then (if i < n then some i.toNat else none) else if -(n:Int) <= i then some (i + n).toNat else none
def atI {α:Type} (xs:List α) (i:Int):Option α:=(ixN xs.length i).bind fun j=>xs[j]?
theorem oj {n:Nat} {i:Int} {j:Nat} (h:ixN n i = some j):seqIndex? i n = some j/\j < n/\-(n:Int) <= i/\i < n:=by
 unfold ixN at h
 by_cases h0:0 <= i
 . rw [if_pos h0] at h
   by_cases h1:i < n
   . rw [if_pos h1] at h
     have e:i.toNat = j:=Option.some.inj h
     exact ⟨by rw [seqIndex_of h0 h1,e],by omega,by omega,h1⟩
   . rw [if_neg h1] at h;cases h
 . rw [if_neg h0] at h
   by_cases h1:-(n:Int) <= i
   . rw [if_pos h1] at h
     have e:(i + n).toNat = j:=Option.some.inj h
     exact ⟨by rw [seqIndex_neg (by omega) h1,e],by omega,h1,by omega⟩
   . rw [if_neg h1] at h;cases h
theorem t9 {α:Type} {xs:List α} {i:Int} {v:α} (h:atI xs i = some v):∃ j,seqIndex? i xs.length = some j/\xs[j]? = some v/\j < xs.length/\-(xs.length:Int) <= i/\i < xs.length:=by
 unfold atI at h
 cases e:ixN xs.length i with
 | none=>rw [e] at h;cases h
 | some j =>
  rw [e] at h
  obtain ⟨h1,h2,h3,h4⟩:=oj e
  exact ⟨j,h1,h,h2,h3,h4⟩
theorem atI_nat {α:Type} {xs:List α} {j:Nat} {v:α} (h:xs[j]? = some v):atI xs (j:Int) = some v:=by
 have hj:j < xs.length:=(List.getElem?_eq_some_iff.mp h).1
 have e:ixN xs.length (j:Int) = some j:=by
  unfold ixN
  rw [if_pos (by omega),if_pos (by omega)];simp
 unfold atI;rw [e];exact h
def kE (b:Expr):Prop:=∀ o i,subscripted b false o i = operate [o,i] (getItem o i)
def IxR (X:Cx) (r:R2):Prop :=
 ∀ (value slice:Expr) (pins:List (Addr × Obj)) (s:Shared) (σ:St) (H:Hp) (x y:V) (v u:Value) (Q:VK),Inv X pins σ H s->RelV x v->RelV y u->r x y H Q ->
  subscripted slice false v u = operate [v,u] (getItem v u)->wpAny (model X.prog X.w) X.A (subscriptTail value slice v u) (EP X pins σ Q) X.xe s
def MtR (X:Cx) (id:String) (r:V->List V->Hp->VK->Prop):Prop :=
 ∀ (pins:List (Addr × Obj)) (s:Shared) (σ:St) (H:Hp) (x:V) (xs:List V) (v:Value) (us:List Value) (Q:VK),Inv X pins σ H s->RelV x v->Vals xs us->r x xs H Q ->
  wpAny (model X.prog X.w) X.A (call (.builtin id) (v :: us)) (EP X pins σ Q) X.xe s
section
variable {X:Cx} {a b:Expr} {ta tb:TE} {pos:Pos}
theorem IxR.or {r r':R2} (h:IxR X r) (h':IxR X r'):IxR X (fun x y H Q=>r x y H Q \/ r' x y H Q):=by
 intro value slice pins s σ H x y v u Q I rx ry q hs
 rcases q with q | q
 . exact h value slice pins s σ H x y v u Q I rx ry q hs
 . exact h' value slice pins s σ H x y v u Q I rx ry q hs
theorem x6 {r:R2} (hr:IxR X r) (ha:PE X a ta) (hb:PE X b tb) (hs:kE b):PE X (.Subscript a b pos) (tOp r ta tb):=by
 intro pins s σ H Q I h
 exact Subscript_ (z9 ha hb I h fun v u s2 x y H2 I2 rx ry q=>hr a b pins s2 σ H2 x y v u Q I2 rx ry q (hs _ _))
def AF (K:PySem.W.Frag):R2:=fun x y H Q=>∃ p xs i v,x = .ref p/\y = .int i/\SqL K H p xs/\atI xs i = some v/\Q v H
def AE (K:PySem.W.Frag):R2:=fun x y H Q=>∃ p xs i v,x = .ref p/\y = .int i/\SqT K H p xs/\atI xs i = some v/\Q v H
theorem ix_list:IxR X (AF X.K):=by
 intro value slice pins s σ H x y v u Q I rx ry h hs
 obtain ⟨p,xs,i,z,rfl,rfl,hq,he,q⟩:=h
 cases rx
 obtain ⟨t,rfl⟩:=ry
 obtain ⟨its,r,pl,hz⟩:=I.list hq
 obtain ⟨j,h1,h2,h3,h4,h5⟩:=t9 he
 obtain ⟨w,ew,rw'⟩:=r.get h2
 have hl:=r.length
 have hn:=og
 have fin:EP X pins σ Q w s:=⟨z,H,I,rw',q⟩
 by_cases h0:0 <= i
 . have hj:i.toNat = j:=by
    rw [seqIndex_of h0 h5] at h1
    exact Option.some.inj h1
   exact item_listR pl.isList h0 (by omega) (by rw [hj];simpa using ew) fin hs
 . have hj:(i + (its.toArray.size:Int)).toNat = j:=by
    rw [seqIndex_neg (by omega) h4] at h1
    rw [List.size_toArray,<- hl]
    exact Option.some.inj h1
   exact subscriptTail_builtinR (x:=w) pl.isList.typeIs slot_list_getitem.lookup
    (wpAny_getItem_list_neg (Q:=fun r s'=>r = w/\EP X pins σ Q r s') pl.isList (by omega) (by rw [List.size_toArray] <;> omega) (by omega) (by rw [hj];simpa using ew) ⟨rfl,fin⟩) hs
theorem vZ:IxR X (AE X.K):=by
 intro value slice pins s σ H x y v u Q I rx ry h hs
 obtain ⟨p,xs,i,z,rfl,rfl,hq,he,q⟩:=h
 cases rx
 obtain ⟨t,rfl⟩:=ry
 obtain ⟨its,r,pl,hz⟩:=I.tuple hq
 obtain ⟨j,h1,h2,h3,h4,h5⟩:=t9 he
 obtain ⟨w,ew,rw'⟩:=r.get h2
 have hl:=r.length
 have hn:=og
 have fin:EP X pins σ Q w s:=⟨z,H,I,rw',q⟩
 exact subscriptTail_builtinR (x:=w) pl.typeIs slot_tuple_getitem.lookup
  (getItem_tuple (j:=j) (Q:=fun r s'=>r = w/\EP X pins σ Q r s') pl (by omega) (by omega) (by rw [List.size_toArray,<- hl];exact h1) (by simpa using ew) ⟨rfl,fin⟩) hs
theorem qR (its:List Value) (n j:Nat) (u:Value):Obj.mapSeq (·.setIfInBounds j u) { cls:=.type "list",data:=.seq its.toArray n } = { cls:=.type "list",data:=.seq (its.set j u).toArray n }:=by
 simp [Obj.mapSeq]
theorem Inv.lst {pins:List (Addr × Obj)} {σ:St} {H:Hp} {s:Shared} {p:Addr} {xs:List V} (I:Inv X pins σ H s) (h:H p = some (.lst xs)) :
 ∃ (its:List Value) (n:Nat),Vals xs its/\s.heap.get? p = some { cls:=.type "list",data:=.seq its.toArray n }/\xs.length <= sizeLine:=by
 obtain ⟨z,its,n,r,e⟩:=I.hok p _ h
 exact ⟨its,n,r,e,z⟩
theorem Inv.lstUpd {pins:List (Addr × Obj)} {σ:St} {H:Hp} {s:Shared} {p:Addr} {xs ys:List V} {its its':List Value} {n n':Nat} {f:Obj->Obj} (I:Inv X pins σ H s) (h:H p = some (.lst xs))
 (ho:s.heap.get? p = some { cls:=.type "list",data:=.seq its.toArray n }) (hf:f { cls:=.type "list",data:=.seq its.toArray n } = { cls:=.type "list",data:=.seq its'.toArray n' }) (r:Vals ys its') (hz:ys.length <= sizeLine) (t:Nat) :
 Inv X pins σ (upd H p (.lst ys)) { s with heap:=s.heap.update p f,toks:=t }:=by
 have e:(s.heap.update p f).get? p = some { cls:=.type "list",data:=.seq its'.toArray n' }:=by
  rw [Heap.get?_update_self f ho (by rw [hf] <;> rfl),hf]
 refine I.write (x:=p) (e:=p) (by rw [h];trivial) (.inl rfl) (fun b u hb q=>(Heap.get?_update_other _ _ (Ne.symm hb)).trans q) ⟨_,e⟩ ?_
 exact ⟨hz,its',n',r,e⟩
def AB:V->V->V->Hp->(Hp->Prop)->Prop:=fun o i v H Q=>∃ p xs k j,o = .ref p/\i = .int k/\H p = some (.lst xs)/\ixN xs.length k = some j/\Q (upd H p (.lst (xs.set j v)))
theorem vb:Bk X AB:=by
 intro pins s σ H o i v ov iv u Q I ro ri rv h
 obtain ⟨p,xs,k,j,rfl,rfl,hp,hj,q⟩:=h
 cases ro
 obtain ⟨t,rfl⟩:=ri
 obtain ⟨its,n,r,ho,hz⟩:=I.lst hp
 obtain ⟨h1,h2,h3,h4⟩:=oj hj
 have hl:=r.length
 have hn:=og
 have I':Inv X pins σ (upd H p (.lst (xs.set j v))) { s with heap:=s.heap.update p (Obj.mapSeq (·.setIfInBounds j u)) } :=
  I.lstUpd hp ho (qR its n j u) (r.set rv j) (by rw [List.length_set];exact hz) s.toks
 by_cases h0:0 <= k
 . have hk:k.toNat = j:=by
    rw [seqIndex_of h0 h4] at h1
    exact Option.some.inj h1
   exact PySem.W.ki_setAt ho h0 (by omega) (by rw [List.size_toArray,<- hl];exact h4) (by rw [hk];exact ⟨_,I',q⟩)
 . have hk:(k + (its.toArray.size:Int)).toNat = j:=by
    rw [seqIndex_neg (by omega) h3] at h1
    rw [List.size_toArray,<- hl]
    exact Option.some.inj h1
   exact PySem.W.ki_setBack ho (by omega) (by rw [List.size_toArray,<- hl];exact h3) (by omega) (by rw [hk];exact ⟨_,I',q⟩)
theorem nJ (lo hi:Option Int) (n:Nat):(sliceBounds lo hi none n).1 = ((HT.sIx n 0 lo:Nat):Int)/\(sliceBounds lo hi none n).2.1 = ((HT.sIx n n hi:Nat):Int)/\(sliceBounds lo hi none n).2.2 = 1:=by
 refine ⟨?_,?_,rfl⟩
 . cases lo with
   | none=>simp [sliceBounds,HT.sIx]
   | some i =>
    simp only [sliceBounds,HT.sIx,Option.getD_none,show (1:Int) > 0 by decide,if_true]
    by_cases h:i < 0
    . simp only [h,if_true] <;> omega
    . simp only [h,if_false] <;> omega
 . cases hi with
   | none=>simp [sliceBounds,HT.sIx]
   | some i =>
    simp only [sliceBounds,HT.sIx,Option.getD_none,show (1:Int) > 0 by decide,if_true]
    by_cases h:i < 0
    . simp only [h,if_true] <;> omega
    . simp only [h,if_false] <;> omega
theorem mv (its:List Value) (lo hi:Option Int):slicePick its.toArray lo hi none = ((its.drop (HT.sIx its.length 0 lo)).take (HT.sIx its.length its.length hi - HT.sIx its.length 0 lo)).toArray:=by
 obtain ⟨h1,h2,h3⟩:=nJ lo hi its.toArray.size
 unfold slicePick
 rw [h1,h2,h3]
 simp only [sliceRange_one,pick_run,List.size_toArray] <;> rfl
def AA (K:PySem.W.Frag):V->Option Int->Option Int->Hp->VK->Prop:=fun x lo hi H Q=>∃ a xs,x = .ref a/\SqL K H a xs/\∀ p,H p = none->Q (.ref p) (upd H p (.lst (rC xs lo hi)))
theorem wX:SlR X (AA X.K):=by
 intro pins s σ H x v vl vu lo hi sl Q I rx hs pl pu h
 obtain ⟨a,xs,rfl,hx,q⟩:=h
 cases rx
 obtain ⟨its,r,ht,hz⟩:=I.list hx
 have hlen:=r.length
 refine ⟨"list",_,slot_list_getitem.lookup,ht.isList.typeIs,?_⟩
 refine wpAny_getItem_list_slice ht.isList hs pl pu .none (by simp) ?_ (by rw [List.size_toArray] <;> omega)
 rw [mv,<- hlen]
 refine ⟨.ref s.heap.objs.size,_,I.laid (t':=s.toks) (o:=.lst (rC xs lo hi)) (fun b ob q=>Heap.get?_push_of_some _ q) (Nat.le_refl _) ?_,rfl,q _ (I.hok.fresh (Nat.le_refl _))⟩
 exact ⟨Nat.le_trans (qb xs lo hi) hz,_,0,(r.drop (HT.sIx xs.length 0 lo)).take (HT.sIx xs.length xs.length hi - HT.sIx xs.length 0 lo),Heap.get?_push_size _ rfl⟩
def wl:V->Bool
 | .non=>true
 | .bl _=>true
 | .int _=>true
 | .str _=>true
 | _=>false
def eqV:V->V->Bool
 | .non,.non=>true
 | .bl a,.bl b=>a == b
 | .bl a,.int b=>(if a then 1 else 0) == b
 | .int a,.bl b=>a == (if b then 1 else 0)
 | .int a,.int b=>a == b
 | .str a,.str b=>a == b
 | _,_=>false
theorem wp {A:Around} {s:Shared} {y x:V} {u v:Value} (ry:RelV y u) (rx:RelV x v) (fy:wl y = true) (fx:wl x = true):SeqAt.EqAt A s u v (eqV y x):=by
 cases y with
 | non =>
  cases ry
  cases x with
  | non=>cases rx;exact SeqAt.EqAt.same _
  | bl b=>cases rx;exact SeqAt.EqAt.none_bool b
  | int b=>obtain ⟨t,rfl⟩:=rx;exact SeqAt.EqAt.none_int b t
  | str b=>obtain ⟨t,rfl⟩:=rx;exact SeqAt.EqAt.none_str b t
  | _=>exact absurd (show false = true from fx) Bool.false_ne_true
 | bl a =>
  cases ry
  cases x with
  | non=>cases rx;exact SeqAt.EqAt.bool_none a
  | bl b=>cases rx;exact SeqAt.EqAt.bool_bool a b
  | int b=>obtain ⟨t,rfl⟩:=rx;exact SeqAt.EqAt.bool_int a b t
  | str b=>obtain ⟨t,rfl⟩:=rx;exact SeqAt.EqAt.bool_str a b t
  | _=>exact absurd (show false = true from fx) Bool.false_ne_true
 | int a =>
  obtain ⟨t',rfl⟩:=ry
  cases x with
  | non=>cases rx;exact SeqAt.EqAt.int_none a t'
  | bl b=>cases rx;exact SeqAt.EqAt.int_bool a t' b
  | int b=>obtain ⟨t,rfl⟩:=rx;exact SeqAt.EqAt.int_int a t' b t
  | str b=>obtain ⟨t,rfl⟩:=rx;exact SeqAt.EqAt.int_str a t' b t
  | _=>exact absurd (show false = true from fx) Bool.false_ne_true
 | str a =>
  obtain ⟨t',rfl⟩:=ry
  cases x with
  | non=>cases rx;exact SeqAt.EqAt.str_none a t'
  | bl b=>cases rx;exact SeqAt.EqAt.str_bool a t' b
  | int b=>obtain ⟨t,rfl⟩:=rx;exact SeqAt.EqAt.str_int a t' b t
  | str b=>obtain ⟨t,rfl⟩:=rx;exact SeqAt.EqAt.str_str a t' b t
  | _=>exact absurd (show false = true from fx) Bool.false_ne_true
 | _=>exact absurd (show false = true from fy) Bool.false_ne_true
theorem dD:fN X (.builtin "len") (fun xs H Q=>∃ p ys,xs = [.ref p]/\(SqL X.K H p ys \/ SqT X.K H p ys)/\Q (.int ys.length) H):=by
 intro pins s σ H xs us Q I r h
 obtain ⟨p,ys,rfl,hq,q⟩:=h
 obtain ⟨u,rfl,rx⟩:=kJ r
 cases rx
 have hn:=og
 rcases hq with hq | hq
 . obtain ⟨its,r',pl,hz⟩:=I.list hq
   have hlen:=r'.length
   exact Calls.call_len_list pl.isList (by simp only [List.size_toArray] <;> omega) ⟨.int ys.length,H,I.tok _,⟨s.toks + 1,by rw [List.size_toArray,hlen]⟩,q⟩
 . obtain ⟨its,r',pl,hz⟩:=I.tuple hq
   have hlen:=r'.length
   exact len_tuple pl (by simp only [List.size_toArray] <;> omega) ⟨.int ys.length,H,I.tok _,⟨s.toks + 1,by rw [List.size_toArray,hlen]⟩,q⟩
def tyV (K:PySem.W.Frag) (T:String) (x:V) (H:Hp):Prop:=match x with
 | .str _=>T = "str"
 | .int _=>T = "int"
 | .ref p=>(T = "list"/\∃ xs,SqL K H p xs) \/ (T = "tuple"/\∃ o,K.lookup p = some o/\o.cls = .type "tuple"/\o.dict = none) \/
  (T = "dict"/\((∃ kvs,H p = some (.dK kvs)) \/ ∃ kvs,H p = some (.dT kvs))) \/ (T = "set"/\∃ S n,H p = some (.set S n))
 | _=>False
theorem yw {pins:List (Addr × Obj)} {σ:St} {H:Hp} {s:Shared} {T:String} {x:V} {v:Value} (I:Inv X pins σ H s) (r:RelV x v) (ty:tyV X.K T x H) :
 s.TypeIs v T/\∀ a,v = .ref a->∃ ob,s.heap.get? a = some ob/\ob.dict = none:=by
 cases x with
 | str z =>
  obtain ⟨t,rfl⟩:=r
  cases (show T = "str" from ty)
  exact ⟨typeIs_str s z t,fun _ e=>nomatch e⟩
 | int i =>
  obtain ⟨t,rfl⟩:=r
  cases (show T = "int" from ty)
  exact ⟨typeIs_int s i t,fun _ e=>nomatch e⟩
 | ref p =>
  cases r
  rcases ty with ⟨rfl,xs,hq⟩ | ⟨rfl,o,hk,hc,hd⟩ | ⟨rfl,hk⟩ | ⟨rfl,S,n,hk⟩
  . obtain ⟨its,_,pl,_⟩:=I.list hq
    refine ⟨pl.isList.typeIs,fun a e=>?_⟩
    cases e
    obtain ⟨o,n,e,c,hd,_⟩:=pl
    exact ⟨o,e,hd⟩
  . refine ⟨⟨o,I.kIn p o hk,hc⟩,fun a e=>?_⟩
    cases e
    exact ⟨o,I.kIn _ o hk,hd⟩
  . have z:∃ o,s.heap.get? p = some o/\o.ExactDict:=by
     rcases hk with ⟨kvs,hk⟩ | ⟨kvs,hk⟩
     . obtain ⟨_,_,_,_,o,_,_,e,ex,_⟩:=I.hok p _ hk
       exact ⟨o,e,ex⟩
     . obtain ⟨_,_,_,_,o,_,_,e,ex,_⟩:=I.hok p _ hk
       exact ⟨o,e,ex⟩
    obtain ⟨o,e,ex⟩:=z
    refine ⟨⟨o,e,ex.1⟩,fun a e2=>?_⟩
    cases e2
    exact ⟨o,e,ex.2.1⟩
  . obtain ⟨o,_,_,_,e,ex,_⟩:=I.hok p _ hk
    refine ⟨⟨o,e,ex.1⟩,fun a e2=>?_⟩
    cases e2
    exact ⟨o,e,ex.2.1⟩
 | _=>exact False.elim ty
def tBM (K:PySem.W.Frag) (T:String) (r:V->List V->Hp->VK->Prop) (to:TE) (t:TA):TE:=fun σ H Q=>to σ H fun x H1=>tyV K T x H1/\t σ H1 fun xs H2=>r x xs H2 Q
variable {o e:Expr} {es:List Expr} {to:TE} {t:TA} {name:Str} {apos cpos:Pos} {T id:String} {r:V->List V->Hp->VK->Prop}
theorem sI (pa:PlainAttrs T) (slot:Slot T name id) (hty:typeOf (.builtin id) = pure (.type "method_descriptor")) (hm:MtR X id r) (ho:PE X o to) (ha:PA X (e :: es) t)
 (hbase:attributeBase o name X.env (eval o X.env) = eval o X.env:=by rfl)
 (hfew:((backTo cpos (starEach (e :: es) X.env)).all (fun x=>!x.1) && (backToKw cpos (keywordEach [] X.env)).all (fun x=>x.1.isSome)
  && decide ((e :: es).length + ([]:List Keyword).length + (if ([]:List Keyword).isEmpty then 0 else 1) < 30)) = true:=by rfl)
 (hline:(apos.endLine == cpos.line) = true:=by rfl) (hs:starEach (e :: es) X.env = (false,eval e X.env) :: starEach es X.env:=by rfl) (hplain:(backTo cpos (starEach es X.env)).any (·.1) = false:=by rfl) :
 PE X (.Call (.Attribute o name apos) (e :: es) [] cpos) (tBM X.K T r to t):=by
 intro pins s σ H Q I h
 refine wpAny_Call_method_late hbase hfew hline rfl (thn (ho pins s σ H _ I h) fun v s1 ⟨x,H1,I1,r1,ty,q1⟩=>?_)
 obtain ⟨h1,h2⟩:=yw I1 r1 ty
 refine ⟨T,id,pa,slot,hty,h1,h2,?_⟩
 have hA:=ha cpos pins s1 σ H1 _ I1 q1
 rw [hs] at hA ⊢
 refine Calls.callWith_builtin (by show (false || (backTo cpos (starEach es X.env)).any (·.1)) = false;rw [hplain] <;> rfl) (Calls.evalArgs_plain ?_)
 exact thn hA fun us s2 ⟨vs,H2,I2,r2,q2⟩=>hm pins s2 σ H2 x vs v us Q I2 r1 r2 q2
end
end L2
namespace L2
open PySem PySem.Spec PyProof.Rows
def MtM (X:Cx) (id:String) (r:V->List V->Hp->VK->Prop):Prop :=
 ∀ (pins:List (Addr × Obj)) (s:Shared) (σ:St) (H:Hp) (x:V) (xs:List V) (v:Value) (us:List Value) (Q:VK),Inv X pins σ H s->RelV x v->Vals xs us->r x xs H Q ->
  wpAny (model X.prog X.w) X.A (call (.builtin id) (v :: us)) (EP X pins σ Q) X.xe s
theorem Vals.one:∀ {x:V} {us:List Value},Vals [x] us->∃ u,us = [u]/\RelV x u
 | _,_,.cons r .nil=>⟨_,rfl,r⟩
section
variable {X:Cx} {pins:List (Addr × Obj)} {σ:St} {H:Hp} {s:Shared} {l b:Addr} {xs ys zs:List V}
theorem Inv.lset {its its':List Value} {n:Nat} {f:Array Value->Array Value} {t':Nat} (I:Inv X pins σ H s) (hH:H l = some (.lst xs))
 (e:s.heap.get? l = some { cls:=.type "list",data:=.seq its.toArray n }) (hf:f its.toArray = its'.toArray) (hv:Vals ys its') (hz:ys.length <= sizeLine) :
 Inv X pins σ (upd H l (.lst ys)) { s with heap:=s.heap.update l (Obj.mapSeq f),toks:=t' }:=by
 have q:=PySem.IsL.update e f
 rw [hf] at q
 refine I.write (x:=l) (e:=l) (by rw [hH];exact trivial) (.inl rfl) (fun b' u hb hu=>(Heap.get?_update_other s.heap (Obj.mapSeq f) (Ne.symm hb)).trans hu) ⟨_,q⟩ ?_
 exact ⟨hz,its',_,hv,q⟩
theorem Inv.lnew {its:List Value} {t':Nat} (I:Inv X pins σ H s) (hv:Vals ys its) (hz:ys.length <= sizeLine) :
 Inv X pins σ (upd H s.heap.objs.size (.lst ys)) { s with heap:=s.heap.push { cls:=.type "list",data:=.seq its.toArray },toks:=t' } :=
 I.laid (fun _ _ q=>Heap.get?_push_of_some _ q) (Nat.le_refl _) ⟨hz,its,0,hv,Heap.get?_push_size _ rfl⟩
theorem Inv.fresh (I:Inv X pins σ H s):H s.heap.objs.size = none:=I.hok.fresh (Nat.le_refl _)
theorem Inv.lstM (I:Inv X pins σ H s) (hH:H l = some (.lst xs)):xs.length <= sizeLine/\∃ (its:List Value) (n:Nat),Vals xs its/\xs.length = its.length/\s.heap.get? l = some { cls:=.type "list",data:=.seq its.toArray n }:=by
 obtain ⟨z,its,n,r,e⟩:=I.hok l _ hH
 exact ⟨z,its,n,r,r.length,e⟩
end
section
variable {X:Cx}
def nM:V->List V->Hp->VK->Prop:=fun x vs H Q=>∃ l xs y,x = .ref l/\vs = [y]/\H l = some (.lst xs)/\xs.length < sizeLine/\Q .non (upd H l (.lst (xs ++ [y])))
theorem io:MtM X "list.append" nM:=by
 intro pins s σ H x vs v us Q I rx rv h
 obtain ⟨l,xs,y,rfl,rfl,hH,hz,q⟩:=h
 cases rx
 obtain ⟨u,rfl,ru⟩:=rv.one
 obtain ⟨z,its,n,r,hl,e⟩:=I.lstM hH
 refine call_meets F.slot_list_append ⟨_,e,rfl⟩ F.entry_list_append (F.args_list_append_2 _ _) (PySem.list_append l its.toArray n u (by rw [List.size_toArray];omega)) ⟨e,?_⟩
 refine ⟨.non,_,I.lset (its':=its ++ [u]) hH e (by simp) (r.append (.cons ru .nil)) ?_,rfl,q⟩
 rw [List.length_append,List.length_singleton]
 omega
def AJ:R2:=fun x y H Q=>∃ l b xs zs,x = .ref l/\y = .ref b/\H l = some (.lst xs)/\H b = some (.lst zs)/\xs.length + zs.length <= sizeLine/\∀ p,H p = none->Q (.ref p) (upd H p (.lst (xs ++ zs)))
theorem nZ:OpR X (binaryOp .Add) AJ:=by
 intro pins s σ H x y v u Q I rx ry h
 obtain ⟨l,b,xs,zs,rfl,rfl,hH,hB,hz,q⟩:=h
 cases rx
 cases ry
 obtain ⟨z,its,n,r,hl,e⟩:=I.lstM hH
 obtain ⟨z2,its2,n2,r2,hl2,e2⟩:=I.lstM hB
 refine PySem.P.add_list e e2 ?_ (by rw [List.size_toArray,List.size_toArray];omega)
 have ea:its.toArray ++ its2.toArray = (its ++ its2).toArray:=by simp
 rw [ea]
 exact ⟨.ref _,_,I.lnew (t':=s.toks) (r.append r2) (by rw [List.length_append];omega),rfl,q _ I.fresh⟩
end
section
variable {prog:Program} {w:World} {A:Around} {E:Value->Shared->Prop} {s:Shared}
end
section
variable {X:Cx}
end
end L2
namespace Att
open PySem PySem.W PySem.Calls PyProof.Rows
theorem j8 {P:Params} {h:Heap}:∀ (ns:List Int) (vs:List Value),WellAll P h vs (ns.map WData.int)->IntsAre vs ns:=by
 intro ns
 induction ns with
 | nil =>
  intro vs w
  rw [Zu] at w
  cases w
  exact .nil
 | cons n ns ih =>
  intro vs w
  rw [Zt] at w
  cases w with
  | cons a b =>
   cases a
   exact .cons _ _ (ih _ b)
theorem uj {l:OpenLaw} {n:Nat} (hn:l.most = some n) {P:Params} {h:Heap} {args:List WData} {vals:List Value}
 (hpre:l.row.toRowW.claim.pre args = true) (hwl:WellAll P h vals args) :
 ∃ a vs ns,vals = [Value.ref a]/\args = [WData.list (ns.map WData.int)]/\h.get? a = some { cls:=.type "list",data:=.seq vs.toArray }/\IntsAre vs ns/\ns.length <= n:=by
 have hsh:WShape.hasAll [] args [.list .int] = true:=(pre_splitW hpre).1
 have hc:l.pre.holds [] { args:=args } = true:=(pre_splitW hpre).2
 obtain ⟨d,r,rfl,h1,h2⟩:=hasAllW_cons hsh
 obtain rfl:=hasAllW_nil h2
 obtain ⟨xs,rfl,h3⟩:=hasW_list h1
 obtain ⟨ns,rfl⟩:=items_int h3
 have hlen:ns.length <= n:=by
  unfold OpenLaw.pre at hc
  have h4:(WTm.not (.lt (.lit (.int (n:Int))) (.len (.arg 0)))).holds [] { args:=[.list (ns.map .int)] } = true:=by
   have h4:=(holds_andW hc).1
   rw [hn] at h4
   exact h4
  have h5:=condW_of h4 (w_not (w_lt w_lit (w_len_list (w_arg rfl))))
  rw [Zl] at h5
  refine Nat.le_of_not_lt fun q=>?_
  have q':(n:Int) < ((ns.length:Nat):Int):=by omega
  first
   | (rw [decide_eq_true q'] at h5;exact absurd h5 (by decide))
   | (simp at h5;omega)
 cases hwl with
 | cons w1 w2 =>
  cases w2
  cases w1 with
  | list ho hall=>exact ⟨_,_,ns,rfl,rfl,ho,j8 ns _ hall,hlen⟩
theorem um (l:OpenLaw) (args:List WData):l.row.toRowW.claim.post args (.bool true) args = true :=
 postW_of (r:=l.row.toRowW) (X:=(true == true))
  (show WShape.has [] (.bool true) .bool = true by first | rfl | decide | simp [WShape.has,WShape.arms,WShape.armsAll])
  (show (WTm.eq .res (.lit (.bool true))).value [] { args:=args,res:=some (.bool true),after:=args } = some (.bool (true == true)) from w_eq_bool (w_res rfl) w_lit) rfl
theorem attach_call {l:OpenLaw} {n:Nat} {q:Program} {loose:List Str} {XP:(Str->Option Value)->Heap->Prop} {YP:World->Heap->Prop} {d:DefRec}
 (hn:l.most = some n) (hdf:d.params.defaults = [])
 (call:∀ (w:World) (s₀ s₁:Shared) (mg mb:Str->Option Value) (fa:Addr) (o:Obj) (pm cd doc:Value) (a:Addr) (vs:List Value) (ns:List Int),
  Ground q loose [] XP w s₀ mg mb s₁.heap->YP w s₁.heap ->
  s₁.heap.get? fa = some o->o.data = .func (docDef d.name d.params d.body d.scope pm cd doc)->s₁.heap.CodeRec cd d.name->mg d.name = some (.ref fa) ->
  s₁.heap.get? a = some { cls:=.type "list",data:=.seq vs.toArray }->IntsAre vs ns->ns.length <= n->s₁.gens = #[] ->
  codeAny (model l.prog w) callerA (.call (.ref fa) ⟨[.ref a],[]⟩) (fun r s'=>r = .ok (.ret (.bool true))/\OldK s₁.heap s'.heap/\s'.os = s₁.os/\AllBare s'.gens) s₁) :
 WalkO q loose XP YP l.row.toRowW d [] (fun f vs=>PySem.call f vs):=by
 intro w s₀ s₁ mg mb G Y fa o pm cd doc dV kV ho hd hcd hD hmg hg args vals as hpre hlay hrd hwl hlo
 obtain rfl:dV = .none:=Dflts.none hD hdf
 obtain rfl:kV = .none:=Dflts.noKw hD
 obtain ⟨a,vs,ns,rfl,rfl,hobj,hints,hlen⟩:=uj hn hpre hwl
 refine enter_call (codeAny_mono (call w s₀ s₁ mg mb fa o pm cd doc a vs ns G Y ho (fd_plain hd) hcd hmg hobj hints hlen hg) fun r s' hq=>?_)
 obtain ⟨rfl,h2,h3,h4⟩:=hq
 exact ⟨.inl ⟨.bool true,.bool true,[],rfl,fun _=>rfl,.bool true,um l _,fun _=>⟨List.Pairwise.nil,fun _ hm=>(nomatch hm)⟩⟩,h2,h3,h4⟩
section
variable {prog:Program} {w:World} {A:Around} {E:Value->Shared->Prop} {s:Shared} {K:Frag}
def BJ (h:Heap) (L d:Addr):List (Addr × Obj):=(List.range h.objs.size).filterMap fun a=>if a = L \/ a = d then none else (h.get? a).map fun o=>(a,o)
end
end Att
namespace L2
open PySem PySem.Spec PyProof.Rows
theorem hX:∀ {vs:List Value} {ns:List Int},IntsAre vs ns->Vals (ns.map V.int) vs
 | _,_,.nil=>.nil
 | _,_,.cons n t h=>.cons ⟨t,rfl⟩ (hX h)
def Aj (H:Hp):Prop:=∀ b,H b = none \/ ∃ o xs,H b = some (.frz o (.lst xs))
theorem vY {P:Program} {w:World} {K:PySem.W.Frag} {mg mb:Str->Option Value} {CX:CXT} {k:Nat} {fa a:Addr} {fd:FuncData} {x:Str} {sp:Sp} {s₁:Shared} {vs:List Value} {ns:List Int}
 (KX:K.In s₁.heap) (hns:s₁.heap.Ns mainGlobals mg) (hb:s₁.heap.Ns builtinsNs mb) (hbb:∀ x:Str,x ≠ "__name__"->mb x = bootBuiltins x) (hlim:s₁.heap.NoLimit) (hg:s₁.gens = #[])
 (ha:s₁.heap.get? a = some { cls:=.type "list",data:=.seq vs.toArray }) (hi:IntsAre vs ns) (hl:ns.length <= sizeLine) (hr:Room k callerA)
 (F:∀ base:Heap,K.In base->base.Ns mainGlobals mg->FnOk P w K mg base CX k fa fd [x] sp) (hbind:∀ (s:Shared) (u:Value),BindsTo s fd ⟨[u],[]⟩ [(x,u)])
 (hsp:∀ H:Hp,Aj H->SqL K H a (ns.map V.int)->sp [.ref a] H (fun v _=>v = .bl true) fun _ _ _=>False)
 (hCX:∀ H e s',CX [] H s₁ (fun _ _ _=>False) e s'->False) :
 codeAny (model P w) callerA (.call (.ref fa) ⟨[.ref a],[]⟩) (fun r s'=>r = .ok (.ret (.bool true))/\OldK s₁.heap s'.heap/\s'.os = s₁.os/\AllBare s'.gens) s₁:=by
 have rv:=hX hi
 have lenV:=hi.length
 have core:∀ H:Hp,Aj H->SqL K H a (ns.map V.int)->HOk P w H s₁.heap->(∀ b,H b ≠ none->b = a)->(H a ≠ none->K.lookup a = none) ->
  codeAny (model P w) callerA (.call (.ref fa) ⟨[.ref a],[]⟩) (fun r s'=>r = .ok (.ret (.bool true))/\OldK s₁.heap s'.heap/\s'.os = s₁.os/\AllBare s'.gens) s₁:=by
  intro H hO hS hok hA hK
  have base_of:∀ {b:Addr} {o:Obj},s₁.heap.get? b = some o->H b = none->(om s₁.heap H).get? b = some o:=fun e n=>v9 e n
  have noA:∀ {b:Addr} {o:Obj} {es:Array DictEntry} {ep:Nat},s₁.heap.get? b = some o->o.data = .dict es ep->H b = none:=fun {b o es ep} e d=>by
   cases q:H b with
   | none=>rfl
   | some u =>
    have e':b = a:=hA b (by rw [q];simp)
    subst e'
    rw [ha] at e;cases e
    have d':Data.seq vs.toArray _ = Data.dict es ep:=d
    cases d'
  have nsK:∀ {b:Addr} {m:Str->Option Value},s₁.heap.Ns b m->(om s₁.heap H).Ns b m:=fun {b m} ⟨o,es,ep,e,d,r⟩=>⟨o,es,ep,base_of e (noA e d),d,r⟩
  have hKb:K.In (om s₁.heap H):=fun b o e=>base_of (KX b o e) (by
   cases q:H b with
   | none=>rfl
   | some u =>
    have e':b = a:=hA b (by rw [q];simp)
    subst e'
    rw [hK (by rw [q];simp)] at e;cases e)
  have hM:Mod K mg (om s₁.heap H):=⟨hKb,nsK hns,⟨mb,nsK hb,hbb⟩,let ⟨mc,h1,h2⟩:=hlim;⟨mc,nsK h1,h2⟩⟩
  have e0:xQ P w K mg (om s₁.heap H) callerA [] s₁ H:=⟨rfl,hM,fun b o e=>xu e,Nat.le_of_eq (uG _ _),trivial,fun b hb=>absurd (show b ∈ ([]:List Addr) from hb) (by simp),hok,.of_eq hg⟩
  refine codeAny_mono ((F _ hKb (nsK hns)).run callerA [] s₁ H ⟨[.ref a],[]⟩ [.ref a] [.ref a] _ _ hr e0 (hbind s₁ (.ref a)) (.cons rfl .nil) (hsp H hO hS)) fun r s' h=>?_
  cases r with
  | error e=>exact (hCX H e s' h).elim
  | ok fl =>
   cases fl with
   | next=>exact False.elim h
   | brk=>exact False.elim h
   | cont=>exact False.elim h
   | ret u =>
    obtain ⟨v,H',os,bare,un,hok',r',q⟩:=h
    have q':v = .bl true:=q
    subst q'
    obtain rfl:u = Value.bool true:=r'
    refine ⟨rfl,OldK.of_keep fun b o e=>?_,os,bare⟩
    cases q:H b with
    | none=>exact un.keep b o e q (by intro z;exact absurd (show b ∈ ([]:List Addr) from z) (by simp)) (by simp)
    | some u =>
     rcases hO b with z | ⟨ob,xs,z⟩
     . rw [q] at z;cases z
     . have z2:=un.frzs b ob _ z
       obtain ⟨e1,_⟩:=hok b _ z
       obtain ⟨e2,_⟩:=hok' b _ z2
       rw [e] at e1;cases e1
       exact e2
 cases hk:K.lookup a with
 | some o =>
  have e:=KX a o hk
  rw [ha] at e
  cases e
  refine core (fun _=>none) (fun _=>.inl rfl) (.inr ⟨_,vs.toArray,_,hk,rfl,rfl,rfl,by rw [List.size_toArray,lenV];exact hl,by simpa using rv⟩) (fun b u z=>by have z':(none:Option HO) = some u:=z;cases z') (fun b z=>absurd rfl z) fun z=>absurd rfl z
 | none =>
  refine core (fun b=>if b = a then some (.frz { cls:=.type "list",data:=.seq vs.toArray } (.lst (ns.map V.int))) else none) (fun b=>?_) (.inl (.inr ⟨{ cls:=.type "list",data:=.seq vs.toArray },if_pos rfl⟩)) (fun b u z=>?_) (fun b z=>?_) fun _=>hk
  . by_cases hb:b = a
    . exact .inr ⟨_,_,if_pos hb⟩
    . exact .inl (if_neg hb)
  . by_cases hb:b = a
    . have z':=(if_pos hb).symm.trans z
      cases z'
      subst hb
      exact ⟨ha,by rw [Zl];exact hl,vs,_,rv,ha⟩
    . have z':=(if_neg hb).symm.trans z
      cases z'
  . by_cases hb:b = a
    . exact hb
    . exact absurd (if_neg hb) z
end L2
namespace L2
open PySem PySem.Spec PyProof.Rows
end L2
namespace L2
open PySem PySem.Spec PyProof.Rows
abbrev CX0:CXT:=fun _ _ _ _ _ _=>False
abbrev E0:XK:=fun _ _ _=>False
theorem sK {X:Cx}:rO CX0 X E0:=fun _ _ _ _ _ _ _ h=>h.elim
structure Fun (K:PySem.W.Frag) (x qual:Str) (st:Stmt) (f:Addr) (fd:FuncData):Prop where
 ex:∃ (oc:Value) (od:Option Addr) (kV doc pm:Value) (an:Option Addr) (cdv ct:Value) (osl:Array (Option Value)),
  fd = PySem.W.fnOf x qual (cD st) (bR st) (ak st) .none kV doc pm an cdv ct/\K.lookup f = some ⟨oc,od,.func fd,osl⟩/\PySem.W.codeIn K cdv qual = true
 kp:PySem.W.keepIn K (.ref f) = true
section
variable {P:Program} {w:World} {K:PySem.W.Frag} {mg:Str->Option Value} {base:Heap}
theorem Fun.ok {x qual:Str} {st:Stmt} {f:Addr} {fd:FuncData} {N ps:List Str} {k:Nat} {sp:Sp} (F:Fun K x qual st f fd) (S:aQ N ps (ak st)) (len:∀ vs H Q E,sp vs H Q E->vs.length = ps.length)
 (hbody:∀ (cdv:Value) (A:Around) (outer:List Env) (s:Shared) (H:Hp) (vs:List V) (Q:VK) (E:XK),Room k (A.deeper (envOfC qual (ak st) s.heap.objs.size f cdv))->sp vs H Q E ->
  ∃ t,PSs (lV CX0 P w K mg base N qual (ak st) f cdv A outer s H E).nox (bR st) t/\t { nx:=fun _ H'=>Q .non H',rt:=Q } (start N vs) H):FnOk P w K mg base CX0 (k + 1) f fd ps sp:=by
 obtain ⟨oc,od,kV,doc,pm,an,cdv,ct,osl,rfl,lk,hcd⟩:=F.ex
 refine yi lk hcd S len fun A outer s H vs Q E hr hsp=>?_
 obtain ⟨t,h,q⟩:=hbody cdv A outer s H vs Q E hr hsp
 exact ⟨t,h.nox,q⟩
theorem Fun.binds {x qual:Str} {st:Stmt} {f:Addr} {fd:FuncData} {ps:List Str} (F:Fun K x qual st f fd)
 (h:∀ (kV doc pm:Value) (an:Option Addr) (cdv ct:Value) (us:List Value),us.length = ps.length->bindArgs (PySem.W.fnOf x qual (cD st) (bR st) (ak st) .none kV doc pm an cdv ct) ⟨us,[]⟩ = pure (ps.zip us)):Binds K fd ps []:=by
 obtain ⟨oc,od,kV,doc,pm,an,cdv,ct,osl,rfl,lk,hcd⟩:=F.ex
 exact .all (h kV doc pm an cdv ct)
theorem wj {x qual:Str} {st:Stmt} {f:Addr} {oc:Value} {od an:Option Addr} {osl:Array (Option Value)} {kV doc pm cdv ct:Value} (l:K.lookup f = some ⟨oc,od,.func (PySem.W.fnOf x qual (cD st) (bR st) (ak st) .none kV doc pm an cdv ct),osl⟩)
 (c:PySem.W.codeIn K cdv qual = true) (k:PySem.W.keepIn K (.ref f) = true):Fun K x qual st f (PySem.W.fnOf x qual (cD st) (bR st) (ak st) .none kV doc pm an cdv ct):=⟨⟨oc,od,kV,doc,pm,an,cdv,ct,osl,rfl,l,c⟩,k⟩
end
theorem jv {n:Nat} (h:n <= 1000):n < sizeLine:=Nat.lt_of_le_of_lt h (by decide)
section
variable {X:Cx}
end
def Same (H H':Hp):Prop:=∀ b o,H b = some o->H' b = some o
theorem Same.refl (H:Hp):Same H H:=fun _ _ h=>h
theorem Same.trans {H H1 H2:Hp} (a:Same H H1) (b:Same H1 H2):Same H H2:=fun c o h=>b c o (a c o h)
theorem Same.seq {K:PySem.W.Frag} {H H':Hp} {a:Addr} {xs:List V} (e:Same H H') (h:SqL K H a xs):SqL K H' a xs:=by
 rcases h with (h | ⟨o,h⟩) | h
 . exact .inl (.inl (e _ _ h))
 . exact .inl (.inr ⟨o,e _ _ h⟩)
 . exact .inr h
end L2
namespace L2
open PySem PySem.Spec PyProof.Rows
end L2
namespace L2
open PySem PySem.Spec PyProof.Rows
section
variable (P:Program) (w:World)
end
section
variable {P:Program} {w:World} {H H':Hp} {h h':Heap} {a:Addr} {o:HO}
end
section
variable {P:Program} {w:World} {H:Hp} {h h':Heap} {x e:Addr} {o':HO}
end
section
variable {fs fs' ex ex':List Addr} {H H1 H2:Hp} {h h1 h2 h':Heap} {a x e:Addr} {o:HO}
end
end L2
namespace L2
open PySem PySem.Spec PyProof.Rows
section
variable {X:Cx} {pins:List (Addr × Obj)} {σ:List (Option V)} {H H':Hp} {s:Shared} {h':Heap}
end
end L2
namespace L2
open PySem PySem.Spec PyProof.Rows
section
variable {X:Cx}
variable {a b:Expr} {ta tb:TE} {pos:Pos}
variable {tA tB':TT} {rest:List Expr}
end
end L2
namespace L2
open PySem PySem.Spec PyProof.Rows
section
variable {X:Cx} {pins:List (Addr × Obj)} {σ:St} {H:Hp} {s:Shared} {a:Addr} {xs ys:List V}
end
section
variable {X:Cx} {pins:List (Addr × Obj)} {σ:St} {H:Hp} {s:Shared} {E:Value->Shared->Prop}
end
section
variable {X:Cx} {st:Stmt} {rest:List Stmt} {t u:TS} {e:Expr} {te:TE} {pos:Pos}
end
section
variable {X:Cx} {pos:Pos}
end
section
variable {X:Cx} {pos:Pos}
end
end L2
namespace L2
open PySem PySem.Spec PyProof.Rows
section
variable {X:Cx} {tg:Expr}
end
end L2
namespace L2
open PySem PySem.Spec PyProof.Rows
section
variable {X:Cx} {a b c:Expr} {ta tb tc:TE} {pos:Pos}
end
section
variable {X:Cx} {a b c:Expr} {ta tb tc:TE} {pos:Pos}
end
end L2
namespace L2
open PySem PySem.Spec PyProof.Rows
section
variable {prog:Program} {w:World} {A:Around} {E:Value->Shared->Prop} {s:Shared} {K:PySem.W.Frag} {x dx C f:Addr} {mA:Str->Option Value} {name:Str} {v:Value}
end
section
variable {P:Program} {w:World} {H H':Hp} {h h':Heap} {a C dx:Addr} {fs fs':List (Str × V)}
end
section
variable {X:Cx} {pins:List (Addr × Obj)} {σ:St} {H:Hp} {s:Shared} {a C dx:Addr} {fs:List (Str × V)} {f:Str} {v:V} {A:Around} {E:Value->Shared->Prop}
end
section
variable {X:Cx} {o e value:Expr} {f:Str} {pos pos' tpos:Pos} {ta tv:TE}
end
section
variable {X:Cx} {pins:List (Addr × Obj)} {σ:St} {H:Hp} {s:Shared} {A:Around} {E:Value->Shared->Prop} {Q:Value->Shared->Prop} {c:Value} {b:Bool}
end
end L2
namespace L2
open PySem PySem.Spec PyProof.Rows
section
variable {X:Cx} {e:Expr} {es:List Expr} {te:TE} {t:TA} {pos:Pos}
end
section
variable {X:Cx} {pins:List (Addr × Obj)} {σ:St} {H:Hp} {s s':Shared}
end
section
variable {X:Cx} {CX:CXT} {k:Nat} {f C:Addr} {fd:FuncData} {ps:List Str} {sp:Sp} {dvs:List V} {ds:List Value} {E:XK} {x m:Str} {p pos apos:Pos} {e o:Expr} {es:List Expr} {ta:TE} {t:TA}
end
section
variable {X:Cx} {CX:CXT} {k:Nat} {f C:Addr} {fd:FuncData} {ps ks:List Str} {sp:Sp} {E:XK} {x m:Str} {p pos apos kpos:Pos} {e o:Expr} {es:List Expr} {kws:List Keyword} {te ta:TE} {t tk:TA} {nm:Option Str}
variable {g:List Value->List Value->List Value} {gV:List V->List V->List V}
end
end L2
namespace L2
open PySem PySem.Spec PyProof.Rows
section
variable {X:Cx} {x:Str} {p pos:Pos} {e:Expr} {es:List Expr} {t:TA} {id T:String} {r:List V->Hp->VK->Prop}
end
end L2
namespace L2
open PySem PySem.Spec PyProof.Rows
section
variable {κ:Type} [DecidableEq κ]
def je (kvs:List (κ × V)) (k:κ) (v:V):List (κ × V) :=
 if (kvs.any fun kv=>decide (kv.1 = k)) = true then kvs.map (fun kv=>if kv.1 = k then (kv.1,v) else kv) else kvs ++ [(k,v)]
end
section
variable {P:Program} {w:World} {H:Hp} {h:Heap} {a:Addr}
end
section
variable {X:Cx} {pins:List (Addr × Obj)} {σ:St} {H:Hp} {s:Shared} {a:Addr} {y v:V} {u r:Value} {o:Option V} {A:Around} {E:Value->Shared->Prop}
end
section
variable {X:Cx} {pins:List (Addr × Obj)} {σ:St} {H:Hp} {s:Shared} {a:Addr} {kvs:List (Key × V)} {k:Key} {u:Value} {A:Around} {E:Value->Shared->Prop}
end
section
variable {X:Cx} {o i e value:Expr} {pos pos' tpos:Pos} {td ty tv:TE}
end
section
variable {X:Cx} {pos:Pos}
end
section
variable {X:Cx} {pins:List (Addr × Obj)} {σ:St} {H:Hp} {s:Shared} {a:Addr} {y d:V} {u r:Value} {o:Option V} {A:Around} {E:Value->Shared->Prop}
end
section
variable {X:Cx} {o e f:Expr} {apos cpos:Pos} {td ty tx:TE}
end
section
variable {X:Cx} {pins:List (Addr × Obj)} {σ:St} {H:Hp} {s:Shared} {a:Addr} {kvs:List (Key × V)} {A:Around} {E:Value->Shared->Prop}
end
section
variable {X:Cx} {pins:List (Addr × Obj)} {σ:St} {H:Hp} {s:Shared} {a:Addr} {y:V} {u:Value} {A:Around} {E:Value->Shared->Prop}
end
end L2
namespace Mth
def gc (t b:Int):Int:=(Int.gcd t b:Int)
theorem eC {t b:Int} (h:0 < b):0 < gc t b:=by
 unfold gc
 have:0 < Int.gcd t b:=Int.gcd_pos_of_ne_zero_right t (by omega)
 omega
theorem on {t b:Int}:gc b (t % b) = gc t b:=by
 unfold gc
 have h:t % b = t + (-(t / b)) * b:=by
  have:=Int.emod_add_mul_ediv t b
  grind
 rw [h,Int.gcd_add_mul_right_right,Int.gcd_comm]
theorem tL {t:Int} (h:0 <= t):gc t 0 = t:=by
 unfold gc
 rw [Int.gcd_zero_right];omega
theorem gY {t b:Int}:gc t b ∣ t:=Int.gcd_dvd_left t b
theorem dY {t b:Int}:gc t b ∣ b:=Int.gcd_dvd_right t b
theorem tM {t b:Int} (h:0 < b):gc t b <= b:=Int.le_of_dvd h dY
theorem zV {t b:Int}:gc (t.natAbs:Int) b = gc t b:=by
 unfold gc;simp [Int.gcd]
def rd (t b:Int):Int × Int:=(t / gc t b,b / gc t b)
structure Lo (a b:Int):Prop where
 pos:0 < b
 one:gc a b = 1
theorem yN {t b:Int}:(rd t b).1 * gc t b = t:=Int.ediv_mul_cancel gY
theorem w6 {t b:Int}:(rd t b).2 * gc t b = b:=Int.ediv_mul_cancel dY
theorem gd {t b:Int} (h:0 < b):Lo (rd t b).1 (rd t b).2:=by
 have hg:=eC (t:=t) h
 constructor
 . have e:=w6 (t:=t) (b:=b)
   have:0 < (rd t b).2 * gc t b:=by omega
   exact Int.pos_of_mul_pos_left this hg
 . unfold gc rd
   simp only
   have:=Int.gcd_ediv_gcd_ediv_gcd (i:=t) (j:=b) (by unfold gc at hg;omega)
   unfold gc
   rw [this];rfl
theorem kZ {t b:Int}:(rd t b).1 * b = t * (rd t b).2:=by
 have e1:=yN (t:=t) (b:=b)
 have e2:=w6 (t:=t) (b:=b)
 generalize (rd t b).1 = x at *
 generalize (rd t b).2 = y at *
 generalize gc t b = g at *
 subst e1 e2
 grind
theorem Lo.ext {a b c d:Int} (h:Lo a b) (k:Lo c d) (e:a * d = c * b):a = c/\b = d:=by
 have hb:=h.pos
 have hd:=k.pos
 have h1:b ∣ d:=by
  have:b ∣ a * d:=⟨c,by rw [e,Int.mul_comm]⟩
  have hg:Int.gcd b a = 1:=by have:=h.one;unfold gc at this;rw [Int.gcd_comm];omega
  have h3:=Int.dvd_gcd_mul_iff_dvd_mul.mpr this
  rw [hg] at h3
  simpa using h3
 have h2:d ∣ b:=by
  have:d ∣ c * b:=⟨a,by rw [<- e,Int.mul_comm]⟩
  have hg:Int.gcd d c = 1:=by have:=k.one;unfold gc at this;rw [Int.gcd_comm];omega
  have h3:=Int.dvd_gcd_mul_iff_dvd_mul.mpr this
  rw [hg] at h3
  simpa using h3
 have hbd:b = d:=Int.le_antisymm (Int.le_of_dvd hd h1) (Int.le_of_dvd hb h2)
 subst hbd
 exact ⟨Int.eq_of_mul_eq_mul_right (by omega) e,rfl⟩
theorem vf {t b a c:Int} (h:0 < b) (k:Lo a c) (e:t * c = a * b):rd t b = (a,c):=by
 have x:=(gd (t:=t) h).ext k (by
  have e1:=yN (t:=t) (b:=b)
  have e2:=w6 (t:=t) (b:=b)
  have hg:=eC (t:=t) h
  generalize (rd t b).1 = x at *
  generalize (rd t b).2 = y at *
  generalize gc t b = g at *
  have:g * (x * c) = g * (a * y):=by grind
  exact Int.eq_of_mul_eq_mul_left (by omega) this)
 exact Prod.ext x.1 x.2
theorem gb {a b:Int} (h:Lo a b):rd a b = (a,b):=vf h.pos h rfl
theorem w5 {x y z w:Int} (h:0 < y) (k:0 < w) (e:x * w = z * y):rd x y = rd z w:=by
 have c:=kZ (t:=z) (b:=w)
 refine vf h (gd k) ?_
 have:w * (x * (rd z w).2) = w * ((rd z w).1 * y):=by grind
 exact Int.eq_of_mul_eq_mul_left (by omega) this
def pl (p q:Int × Int):Int × Int:=rd (p.1 * q.2 + q.1 * p.2) (p.2 * q.2)
def mi (p q:Int × Int):Int × Int:=rd (p.1 * q.2 - q.1 * p.2) (p.2 * q.2)
def ti (p q:Int × Int):Int × Int:=rd (p.1 * q.1) (p.2 * q.2)
abbrev Lw (p:Int × Int):Prop:=Lo p.1 p.2
theorem x3 {t b:Int} (h:0 < b):Lw (rd t b):=gd h
theorem Lo.neg {a b:Int} (h:Lo a b):Lo (-a) b:=⟨h.pos,by have:=h.one;unfold gc at *;rw [Int.neg_gcd];exact this⟩
def Sm (k:Nat) (x:Int):Prop:=x.natAbs < 2 ^ k
theorem Sm.mono {k l:Nat} {x:Int} (h:Sm k x) (e:k <= l):Sm l x:=Nat.lt_of_lt_of_le h (Nat.pow_le_pow_right (by decide) e)
theorem Sm.mul {k l:Nat} {x y:Int} (h:Sm k x) (g:Sm l y):Sm (k + l) (x * y):=by
 unfold Sm at *
 rw [Int.natAbs_mul,Nat.pow_add]
 exact Nat.mul_lt_mul'' h g
theorem Sm.neg {k:Nat} {x:Int} (h:Sm k x):Sm k (-x):=by unfold Sm at *;omega
theorem Sm.of {k:Nat} {x:Int} (h:-(2 ^ k:Nat) < x) (g:x < (2 ^ k:Nat)):Sm k x:=by unfold Sm;omega
theorem Sm.div {k:Nat} {x g:Int} (h:Sm k x) (hg:0 < g) (d:g ∣ x):Sm k (x / g):=by
 obtain ⟨c,rfl⟩:=d
 rw [Int.mul_ediv_cancel_left _ (by omega)]
 unfold Sm at *
 rw [Int.natAbs_mul] at h
 have:1 * c.natAbs <= g.natAbs * c.natAbs:=Nat.mul_le_mul_right _ (by omega)
 omega
theorem xZ {k:Nat} {t b:Int} (hb:0 < b) (h:Sm k t) (g:Sm k b):Sm k (rd t b).1/\Sm k (rd t b).2 :=
 ⟨h.div (eC hb) gY,g.div (eC hb) dY⟩
structure Fr (k:Nat) (p:Int × Int):Prop where
 lw:Lw p
 s1:Sm k p.1
 s2:Sm k p.2
theorem Fr.pos {k:Nat} {p:Int × Int} (h:Fr k p):0 < p.2:=h.lw.pos
theorem Fr.rd {k:Nat} {t b:Int} (h:0 < b) (s:Sm k t) (g:Sm k b):Fr k (rd t b):=⟨x3 h,(xZ h s g).1,(xZ h s g).2⟩
def low (t b:Int):Int × Int:=if b < 0 then rd (-t) (-b) else rd t b
theorem xw {t b:Int} (h:0 < b):low t b = rd t b:=by unfold low;rw [if_neg (by omega)]
end Mth
namespace Mth
abbrev Bn:=Option (Int × Bool)
def kp (p:Int × Int):Bn->Bool
 | none=>true
 | some (n,true)=>decide (p.1 * 1 < n * p.2)
 | some (n,false)=>!decide (n * p.2 < p.1 * 1)
def bs:Bn->Bn->Bn
 | some (n,s),some (m,t)=>some (n + m,s || t)
 | _,_=>none
def b2 (s:Bool):Int:=if s then 1 else 0
def far (f:Int) (s:Bool):Int:=if f = 0/\s = true then 1 else f
end Mth
namespace Mth
theorem oo {a b:Int}:gc a b = 1 <-> Nat.Coprime a.natAbs b.natAbs:=by
 unfold gc Nat.Coprime
 rw [Int.gcd]
 omega
theorem gZ {a b:Int} (h:gc a b = 1):gc b a = 1:=by
 rw [oo] at *;exact h.symm
theorem ky {t a b:Int} (h:gc t a = 1) (k:gc t b = 1):gc t (a * b) = 1:=by
 rw [oo] at *
 rw [Int.natAbs_mul]
 exact h.mul_right k
theorem kz {t s a b:Int} (h:gc t a = 1) (k:s ∣ t) (l:b ∣ a):gc s b = 1:=by
 rw [oo] at *
 exact Nat.Coprime.coprime_dvd_left (Int.natAbs_dvd_natAbs.mpr k) (Nat.Coprime.coprime_dvd_right (Int.natAbs_dvd_natAbs.mpr l) h)
theorem tO {a b m:Int} (h:gc a b = 1):gc (a + m * b) b = 1:=by
 unfold gc at *
 rw [Int.gcd_comm,Int.gcd_add_mul_right_right,Int.gcd_comm]
 exact h
theorem tN {a b:Int} (h:0 < b):gc (a / gc a b) (b / gc a b) = 1:=(gd (t:=a) h).one
theorem oG {d a:Int} (h:d ∣ a):a / d ∣ a:=⟨d,(Int.ediv_mul_cancel h).symm⟩
def sm (a b c e:Int):Int × Int :=
 ((a * (e / gc b e) + c * (b / gc b e)) / gc (a * (e / gc b e) + c * (b / gc b e)) (gc b e),
  b / gc b e * (e / gc (a * (e / gc b e) + c * (b / gc b e)) (gc b e)))
theorem Ay {a b c e:Int} (h:Lo a b) (k:Lo c e):sm a b c e = rd (a * e + c * b) (b * e):=by
 have hb:=h.pos
 have he:=k.pos
 have hg:=eC (t:=b) he
 have d1:gc b e ∣ b:=gY
 have d2:gc b e ∣ e:=dY
 have e1:=Int.ediv_mul_cancel d1
 have e2:=Int.ediv_mul_cancel d2
 have q:=tN (a:=b) he
 have p1:=oG d1
 have p2:=oG d2
 unfold sm
 generalize hg':gc b e = g at *
 generalize hP:b / g = P at *
 generalize hE:e / g = E at *
 generalize hT:a * E + c * P = T at *
 have hl:=eC (t:=T) hg
 have l1:gc T g ∣ T:=gY
 have l2:gc T g ∣ g:=dY
 have l3:gc T g ∣ e:=Int.dvd_trans l2 d2
 have f1:=Int.ediv_mul_cancel l1
 have f2:=Int.ediv_mul_cancel l2
 have f3:=Int.ediv_mul_cancel l3
 have u:=tN (a:=T) hg
 have tP:gc T P = 1:=by
  rw [<- hT]
  refine tO ?_
  have x1:gc P a = 1:=kz (gZ h.one) p1 (Int.dvd_refl a)
  exact gZ (ky x1 q)
 have tE:gc T E = 1:=by
  rw [<- hT,Int.add_comm]
  refine tO ?_
  have x1:gc E c = 1:=kz (gZ k.one) p2 (Int.dvd_refl c)
  exact gZ (ky x1 (gZ q))
 have p3:=oG l1
 generalize hl':gc T g = l at *
 generalize hT':T / l = T' at *
 generalize hG':g / l = G' at *
 have ee:e / l = E * G':=by
  rw [<- e2,<- f2]
  have:E * (G' * l) = E * G' * l:=by grind
  rw [this,Int.mul_ediv_cancel _ (by omega)]
 rw [ee]
 have hP0:0 < P:=by
  have:0 < P * g:=by omega
  exact Int.pos_of_mul_pos_left this hg
 have hE0:0 < E:=by
  have:0 < E * g:=by omega
  exact Int.pos_of_mul_pos_left this hg
 have hG0:0 < G':=by
  have:0 < G' * l:=by omega
  exact Int.pos_of_mul_pos_left this hl
 refine (vf (Int.mul_pos hb he) ⟨Int.mul_pos hP0 (Int.mul_pos hE0 hG0),?_⟩ ?_).symm
 . exact ky (kz tP p3 (Int.dvd_refl P)) (ky (kz tE p3 (Int.dvd_refl E)) u)
 . have:a * e + c * b = T * g:=by rw [<- hT,<- e1,<- e2];grind
   rw [this,<- f1,<- e1,<- e2]
   rw [<- f2]
   grind
def tm (a b c e:Int):Int × Int:=(a / gc a e * (c / gc c b),b / gc c b * (e / gc a e))
theorem AY {p q:Int × Int} (h:Lw p) (k:Lw q):mi p q = sm p.1 p.2 (-q.1) q.2:=by
 rw [Ay h (Lo.neg k)]
 unfold mi
 rw [Int.neg_mul,<- Int.sub_eq_add_neg]
end Mth
namespace Mth
theorem d4 (n:Int):Rat.divInt n 1 = (n:Rat):=by simp [Rat.divInt,Rat.mkRat_one]
def vl (p:Int × Int):Rat:=Rat.divInt p.1 p.2
theorem iY {t b:Int} (h:0 < b):vl (rd t b) = Rat.divInt t b:=by
 unfold vl
 have l:=(gd (t:=t) h).pos
 rw [Rat.divInt_eq_divInt_iff (by omega) (by omega)]
 exact kZ
theorem jL {p q:Int × Int} (hp:0 < p.2) (hq:0 < q.2):vl (pl p q) = vl p + vl q:=by
 unfold pl
 rw [iY (Int.mul_pos hp hq)]
 unfold vl
 rw [Rat.divInt_add_divInt _ _ (by omega) (by omega)]
theorem xT {p q:Int × Int} (hp:0 < p.2) (hq:0 < q.2):vl (mi p q) = vl p - vl q:=by
 unfold mi
 rw [iY (Int.mul_pos hp hq)]
 unfold vl
 rw [Rat.divInt_sub_divInt _ _ (by omega) (by omega)]
theorem An {p q:Int × Int} (hp:0 < p.2) (hq:0 < q.2):vl (ti p q) = vl p * vl q:=by
 unfold ti
 rw [iY (Int.mul_pos hp hq)]
 unfold vl
 rw [Rat.divInt_mul_divInt]
theorem d8 (n:Int):vl (n,1) = (n:Rat):=by
 unfold vl
 exact d4 n
theorem kH {p q:Int × Int} (hp:Lw p) (hq:Lw q) (h:vl p = vl q):p = q:=by
 unfold vl at h
 have h1:=hp.pos
 have h2:=hq.pos
 rw [Rat.divInt_eq_divInt_iff (by omega) (by omega)] at h
 obtain ⟨a,b⟩:=hp.ext hq h
 exact Prod.ext a b
theorem rA {t b:Int} (hb:0 < b):0 < Rat.divInt t b <-> 0 < t:=by
 have hb':(0:Rat) < (b:Rat):=by
  have:=(Rat.intCast_lt_intCast (a:=0) (b:=b)).mpr hb
  simpa using this
 have e:Rat.divInt t b * (b:Rat) = (t:Rat):=by
  have h1:(b:Rat) = Rat.divInt b 1:=(d4 b).symm
  have h2:(t:Rat) = Rat.divInt t 1:=(d4 t).symm
  rw [h1,h2,Rat.divInt_mul_divInt,Rat.divInt_eq_divInt_iff (by omega) (by omega)]
  grind
 constructor
 . intro h
   have:=Rat.mul_pos h hb'
   rw [e] at this
   exact (Rat.intCast_lt_intCast (a:=0)).mp (by simpa using this)
 . intro h
   have ht:(0:Rat) < (t:Rat):=by
    have:=(Rat.intCast_lt_intCast (a:=0) (b:=t)).mpr h
    simpa using this
   rw [<- e] at ht
   by_cases q:0 < Rat.divInt t b
   . exact q
   . have:Rat.divInt t b * (b:Rat) <= 0:=by
      have h3:Rat.divInt t b <= 0:=by grind
      have:=Rat.mul_le_mul_of_nonneg_right h3 (Rat.le_of_lt hb')
      grind
     grind
theorem mJ {p q:Int × Int} (hp:0 < p.2) (hq:0 < q.2):vl p < vl q <-> p.1 * q.2 < q.1 * p.2:=by
 have h:=rA (t:=q.1 * p.2 - p.1 * q.2) (b:=q.2 * p.2) (Int.mul_pos hq hp)
 have e:Rat.divInt (q.1 * p.2 - p.1 * q.2) (q.2 * p.2) = vl q - vl p:=by
  unfold vl
  rw [Rat.divInt_sub_divInt _ _ (by omega) (by omega)]
 rw [e] at h
 constructor
 . intro g
   have:=h.mp (by grind)
   omega
 . intro g
   have:=h.mpr (by omega)
   grind
section
variable {c:Nat->Nat->Bn} {n:Nat} {x:Nat->Rat}
end
end Mth
namespace Mth
def bp (q:Int × Int):Int × Int:=(q.1 % q.2,q.2)
theorem j4 {q:Int × Int} (h:Lw q):Lw (bp q):=⟨h.pos,by
 have e:=h.one
 have s:=on (t:=q.1) (b:=q.2)
 show gc (q.1 % q.2) q.2 = 1
 rw [<- e,<- s]
 unfold gc
 rw [Int.gcd_comm]⟩
theorem x4 {q:Int × Int} (h:Lw q):rd (q.1 % q.2) q.2 = bp q:=gb (j4 h)
theorem vS {q:Int × Int} (h:Lw q):mi q (q.1 / q.2,1) = bp q:=by
 unfold mi
 have e:q.1 * 1 - q.1 / q.2 * q.2 = q.1 % q.2:=by
  have:=Int.emod_add_mul_ediv q.1 q.2
  rw [Int.mul_comm q.2] at this
  omega
 show rd (q.1 * 1 - q.1 / q.2 * q.2) (q.2 * 1) = bp q
 rw [e,Int.mul_one,x4 h]
structure Tm (q:Int × Int):Prop where
 lw:Lw q
 nn:0 <= q.1
 up:q.1 < 62 * q.2
 le:q.2 <= 10 ^ 40
structure Tw (q:Int × Int):Prop where
 lw:Lw q
 nn:0 <= q.1
 up:q.1 < 100 * q.2
 le:q.2 <= 10 ^ 130
theorem Tm.w {q:Int × Int} (h:Tm q):Tw q:=⟨h.lw,h.nn,by have:=h.up;have:=h.lw.pos;omega,by have:=h.le;omega⟩
theorem Tw.fr {q:Int × Int} (h:Tw q):Fr 500 q:=by
 have p:=h.lw.pos
 have a:=h.nn
 have b:=h.up
 have c:=h.le
 refine ⟨h.lw,Sm.of ?_ ?_,Sm.of ?_ ?_⟩ <;> omega
theorem Tw.bp_fr {q:Int × Int} (h:Tw q):Fr 500 (bp q):=by
 have p:=h.lw.pos
 have c:=h.le
 have z0:=Int.emod_nonneg q.1 (b:=q.2) (by omega)
 have z1:=Int.emod_lt_of_pos q.1 p
 refine ⟨j4 h.lw,Sm.of ?_ ?_,Sm.of ?_ ?_⟩ <;> (show _ < _) <;> dsimp only [bp] <;> omega
def past (g:Int) (q:Int × Int):Bool:=decide (g * q.2 < q.1)
def fV (ps:List (Int × Int)) (p:Int × Int):List (Int × Int):=if (!decide (p = (0,1)) && !ps.contains p) = true then ps ++ [p] else ps
def dst:List (Int × Int)->List (Int × Int)->List (Int × Int)
 | ps,[]=>ps
 | ps,q :: qs=>dst (fV ps (bp q)) qs
def wi:List Int->List (Int × Int)->List (Int × Int)
 | m :: ms,q :: qs=>if past m q then wi ms qs else q :: wi ms qs
 | _,_=>[]
def rk (ps:List (Int × Int)) (q:Int × Int):Nat:=(ps.filter fun p=>decide (p.1 * q.2 <= q.1 % q.2 * p.2)).length
def plc (ps:List (Int × Int)) (g:Int) (q:Int × Int):Int × Int:=if past g q then (g + 1,0) else (q.1 / q.2,(rk ps q:Int))
def cls (ps:List (Int × Int)):List Int->List (Int × Int)->List (Int × Int)
 | m :: ms,q :: qs=>plc ps m q :: cls ps ms qs
 | _,_=>[]
def cel (ms:List Int) (qs:List (Int × Int)):List (Int × Int):=cls (dst [] (wi ms qs)) ms qs
def mom:List Int->List (Int × Int)->Bool
 | m :: ms,c :: cs=>(decide (c.2 = 0) && decide (c.1 <= m)) || mom ms cs
 | _,_=>false
theorem wL {ps:List (Int × Int)} {p x:Int × Int} (h:x ∈ ps):x ∈ fV ps p:=by
 unfold fV
 split
 . exact List.mem_append_left _ h
 . exact h
theorem wM {ps:List (Int × Int)} {p:Int × Int} (h:p ≠ (0,1)):p ∈ fV ps p:=by
 unfold fV
 split
 . exact List.mem_append_right _ Zo
 . rename_i n
   by_cases c:p ∈ ps
   . exact c
   . exact absurd (by simp [h,c]) n
theorem l9 {ps:List (Int × Int)} {p:Int × Int}:(fV ps p).length <= ps.length + 1:=by
 unfold fV
 split
 . simp
 . omega
theorem wN {P:Int × Int->Prop} {ps:List (Int × Int)} {p:Int × Int} (h:∀ x ∈ ps,P x) (k:p ≠ (0,1)->P p):∀ x ∈ fV ps p,P x:=by
 unfold fV
 split
 . rename_i c
   intro x m
   rcases Zr.mp m with m | m
   . exact h x m
   . rw [List.mem_singleton.mp m]
     refine k fun e=>?_
     rw [e] at c
     simp at c
 . exact h
theorem tV:∀ (qs:List (Int × Int)) {ps:List (Int × Int)} {x:Int × Int},x ∈ ps->x ∈ dst ps qs
 | [],_,_,h=>h
 | _ :: qs,_,_,h=>tV qs (wL h)
theorem oH:∀ (qs:List (Int × Int)) {ps:List (Int × Int)} {q:Int × Int},q ∈ qs->bp q ≠ (0,1)->bp q ∈ dst ps qs
 | [],_,_,h,_=>by cases h
 | r :: qs,ps,q,h,n=>by
  rcases Zs.mp h with e | e
  . subst e
    exact tV qs (wM n)
  . exact oH qs e n
theorem jq {P:Int × Int->Prop}:∀ (qs:List (Int × Int)) {ps:List (Int × Int)},(∀ x ∈ ps,P x)->(∀ q ∈ qs,bp q ≠ (0,1)->P (bp q))->∀ x ∈ dst ps qs,P x
 | [],_,h,_=>h
 | r :: qs,ps,h,k=>jq qs (wN h (k r Zo)) fun q m=>k q (Zp _ m)
theorem kC:∀ (qs:List (Int × Int)) {ps:List (Int × Int)},(dst ps qs).length <= ps.length + qs.length
 | [],_=>by simp [dst]
 | r :: qs,ps=>by
  have:=kC qs (ps:=fV ps (bp r))
  have h:=l9 (ps:=ps) (p:=bp r)
  simp only [dst,Zm]
  omega
theorem cM:∀ (ms:List Int) (qs:List (Int × Int)) {q:Int × Int},q ∈ wi ms qs->q ∈ qs
 | [],_,_,h=>by cases h
 | _ :: _,[],_,h=>by cases h
 | m :: ms,r :: qs,q,h=>by
  unfold wi at h
  split at h
  . exact Zp _ (cM ms qs h)
  . rcases Zs.mp h with e | e
    . rw [e];exact Zo
    . exact Zp _ (cM ms qs e)
theorem rT (m:Int) (ms:List Int) (q:Int × Int) (qs:List (Int × Int)):wi (m :: ms) (q :: qs) = if past m q then wi ms qs else q :: wi ms qs:=rfl
theorem gO:∀ (ms:List Int) (qs:List (Int × Int)),(wi ms qs).length <= qs.length
 | [],_=>by simp [wi]
 | _ :: _,[]=>by simp [wi]
 | m :: ms,r :: qs=>by
  have:=gO ms qs
  unfold wi
  split
  . simp;omega
  . simp;omega
theorem sj {ps:List (Int × Int)} {q:Int × Int} (h:Tw q) (a:∀ p ∈ ps,0 < p.1) (b:q.2 ≠ 1->bp q ∈ ps):((rk ps q:Int) = 0) <-> q.2 = 1:=by
 have hp:=h.lw.pos
 constructor
 . intro z
   by_cases e:q.2 = 1
   . exact e
   . exfalso
     have m:=b e
     have:bp q ∈ ps.filter fun p=>decide (p.1 * q.2 <= q.1 % q.2 * p.2):=List.mem_filter.mpr ⟨m,decide_eq_true (Int.le_refl _)⟩
     have:=List.length_pos_of_mem this
     unfold rk at z
     omega
 . intro e
   have:rk ps q = 0:=by
    unfold rk
    rw [List.length_eq_zero_iff,List.filter_eq_nil_iff]
    intro p m
    have:=a p m
    rw [e]
    simp only [decide_eq_true_eq,Int.emod_one,Int.zero_mul,Int.mul_one]
    omega
   rw [this];rfl
theorem iW {q:Int × Int} (h:Lw q):bp q = (0,1) <-> q.2 = 1:=by
 constructor
 . intro e
   exact (Prod.mk.inj e).2
 . intro e
   show (q.1 % q.2,q.2) = (0,1)
   rw [e,Int.emod_one]
theorem wF {q:Int × Int} (h:Lw q) (n:bp q ≠ (0,1)):0 < (bp q).1:=by
 have p:=h.pos
 have z0:=Int.emod_nonneg q.1 (b:=q.2) (by omega)
 show 0 < q.1 % q.2
 by_cases e:q.1 % q.2 = 0
 . exfalso
   have:=(j4 h).one
   have h2:gc (q.1 % q.2) q.2 = 1:=this
   rw [e] at h2
   have h3:gc 0 q.2 = q.2:=by
    unfold gc
    rw [Int.gcd_zero_left]
    omega
   rw [h3] at h2
   exact n ((iW h).mpr h2)
 . omega
theorem sR {ps:List (Int × Int)} (a:∀ p ∈ ps,0 < p.1):∀ (ms:List Int) (qs:List (Int × Int)),(∀ q ∈ qs,Tw q)->(∀ q ∈ wi ms qs,q.2 ≠ 1->bp q ∈ ps)->mom ms (cls ps ms qs) = (wi ms qs).any fun q=>decide (q.2 = 1)
 | [],_,_,_=>by simp [mom,wi]
 | _ :: _,[],_,_=>by simp [mom,cls,wi]
 | m :: ms,q :: qs,t,b=>by
  have tq:=t q Zo
  have ih:=fun hb=>sR a ms qs (fun x h=>t x (Zp _ h)) hb
  unfold cls mom
  cases hp:past m q with
  | true =>
   have e:wi (m :: ms) (q :: qs) = wi ms qs:=by
    show (if past m q = true then wi ms qs else q :: wi ms qs) = _
    rw [hp,if_pos rfl]
   rw [e] at b ⊢
   rw [ih b]
   have:plc ps m q = (m + 1,0):=by unfold plc;rw [hp,if_pos rfl]
   rw [this]
   have:decide (m + 1 <= m) = false:=decide_eq_false (by omega)
   simp [this]
  | false =>
   have e:wi (m :: ms) (q :: qs) = q :: wi ms qs:=by
    show (if past m q = true then wi ms qs else q :: wi ms qs) = _
    rw [hp,if_neg Bool.false_ne_true]
   rw [e] at b ⊢
   rw [ih fun x h=>b x (Zp _ h)]
   have:plc ps m q = (q.1 / q.2,(rk ps q:Int)):=by unfold plc;rw [hp,if_neg Bool.false_ne_true]
   rw [this]
   have le:q.1 <= m * q.2:=by
    have:=of_decide_eq_false hp
    omega
   have pos:=tq.lw.pos
   have le2:q.1 / q.2 <= m:=Int.ediv_le_of_le_mul pos le
   have z:=sj tq a (b q Zo)
   rw [List.any_cons]
   congr 1
   dsimp only
   rw [decide_eq_true le2,Bool.and_true]
   exact decide_eq_decide.mpr z
theorem sS {ms:List Int} {qs:List (Int × Int)} (t:∀ q ∈ qs,Tw q):mom ms (cel ms qs) = (wi ms qs).any fun q=>decide (q.2 = 1):=by
 refine sR (jq _ (fun x z=>by cases z) fun q m n=>wF (t q (cM ms qs m)).lw n) ms qs t fun q m n=>?_
 exact oH _ m fun e=>n ((iW (t q (cM ms qs m)).lw).mp e)
end Mth
namespace Mth
theorem yx {w t b:Int} (hw:0 <= w) (hw2:w <= 61) (ht:0 <= t) (htb:t < b) (hb:b <= 10 ^ 40):Tm (rd (w * b + t) b):=by
 have pb:0 < b:=by omega
 have l:=x3 (t:=w * b + t) pb
 have c:=kZ (t:=w * b + t) (b:=b)
 have gp:=eC (t:=w * b + t) pb
 have r2:=w6 (t:=w * b + t) (b:=b)
 have r1:=yN (t:=w * b + t) (b:=b)
 have wb:0 <= w * b:=Int.mul_nonneg hw (by omega)
 refine ⟨l,?_,?_,?_⟩
 . have:0 <= (rd (w * b + t) b).1 * gc (w * b + t) b:=by rw [r1];omega
   exact Int.nonneg_of_mul_nonneg_left this gp
 . have h1:w * b + t < 62 * b:=by
    have:w * b <= 61 * b:=Int.mul_le_mul_of_nonneg_right hw2 (by omega)
    omega
   have h2:(rd (w * b + t) b).1 * gc (w * b + t) b < 62 * (rd (w * b + t) b).2 * gc (w * b + t) b:=by
    rw [r1,Int.mul_assoc,r2];exact h1
   exact Int.lt_of_mul_lt_mul_right h2 (Int.le_of_lt gp)
 . have:(rd (w * b + t) b).2 <= b:=by
    show b / gc (w * b + t) b <= b
    exact Int.ediv_le_self _ (by omega)
   omega
end Mth
namespace Mth
theorem xJ {p q:Int × Int} (hp:Lw p) (hq:Lw q) (h:p.1 * q.2 = q.1 * p.2):p = q:=by
 have a:=w5 (x:=p.1) (y:=p.2) (z:=q.1) (w:=q.2) hp.pos hq.pos h
 rw [gb hp,gb hq] at a
 exact a
def cG (rs:List Int) (t:Int):Nat:=(([1,2,3,4]:List Int).filter fun j=>decide (j ∈ rs) && decide (j <= t)).length
structure Wp (zs:List ((Int × Int) × Int)):Prop where
 tm:∀ z ∈ zs,Tw z.1
 rg:∀ z ∈ zs,0 <= z.2/\z.2 <= 4
 ze:∀ z ∈ zs,bp z.1 = (0,1) <-> z.2 = 0
 le:∀ y ∈ zs,∀ z ∈ zs,(bp y.1).1 * (bp z.1).2 <= (bp z.1).1 * (bp y.1).2 <-> y.2 <= z.2
theorem Wp.eq {zs:List ((Int × Int) × Int)} (W:Wp zs) {y z:(Int × Int) × Int} (hy:y ∈ zs) (hz:z ∈ zs):bp y.1 = bp z.1 <-> y.2 = z.2:=by
 have a:=W.le y hy z hz
 have b:=W.le z hz y hy
 constructor
 . intro e
   have h1:=a.mp (by rw [e];exact Int.le_refl _)
   have h2:=b.mp (by rw [e];exact Int.le_refl _)
   omega
 . intro e
   have h1:=a.mpr (by omega)
   have h2:=b.mpr (by omega)
   exact xJ (j4 (W.tm y hy).lw) (j4 (W.tm z hz).lw) (Int.le_antisymm h1 h2)
def ql (us:List ((Int × Int) × Int)) (z:(Int × Int) × Int):List ((Int × Int) × Int):=if z.2 = 0 \/ z.2 ∈ us.map (·.2) then us else us ++ [z]
theorem xN {zs us:List ((Int × Int) × Int)} (W:Wp zs) (hu:∀ u ∈ us,u ∈ zs) {z:(Int × Int) × Int} (hz:z ∈ zs):fV (us.map fun u=>bp u.1) (bp z.1) = (ql us z).map fun u=>bp u.1:=by
 unfold fV ql
 have c1:(decide (bp z.1 = (0,1))) = decide (z.2 = 0):=decide_eq_decide.mpr (W.ze z hz)
 have c2:(us.map fun u=>bp u.1).contains (bp z.1) = decide (z.2 ∈ us.map (·.2)):=by
  rw [Bool.eq_iff_iff,List.contains_iff_mem,decide_eq_true_iff,Zq,Zq]
  constructor
  . rintro ⟨u,hu',e⟩
    exact ⟨u,hu',(W.eq (hu u hu') hz).mp e⟩
  . rintro ⟨u,hu',e⟩
    exact ⟨u,hu',(W.eq (hu u hu') hz).mpr e⟩
 rw [c1,c2]
 by_cases h1:z.2 = 0
 . simp [h1]
 . by_cases h2:z.2 ∈ us.map (·.2)
   . simp [h1,h2]
   . simp only [h1,h2,decide_false,Zz,Bool.and_self,if_true,or_self,if_false,List.map_append,Zt,Zu]
structure Us (zs us:List ((Int × Int) × Int)):Prop where
 sub:∀ u ∈ us,u ∈ zs
 nd:(us.map (·.2)).Nodup
 nz:∀ u ∈ us,u.2 ≠ 0
theorem wu {zs:List ((Int × Int) × Int)} (W:Wp zs):∀ (ys us:List ((Int × Int) × Int)),(∀ y ∈ ys,y ∈ zs)->Us zs us->∃ vs,Us zs vs/\dst (us.map fun u=>bp u.1) (ys.map (·.1)) = vs.map (fun u=>bp u.1)/\(∀ x,x ∈ us.map (·.2)->x ∈ vs.map (·.2))/\∀ y ∈ ys,y.2 ≠ 0->y.2 ∈ vs.map (·.2)
 | [],us,_,U=>⟨us,U,rfl,fun _ h=>h,fun _ m=>nomatch m⟩
 | z :: ys,us,h,U=>by
  have hz:=h z Zo
  have U2:Us zs (ql us z):=by
   unfold ql
   split
   . exact U
   . rename_i c
     have c1:z.2 ≠ 0:=fun e=>c (.inl e)
     have c2:z.2 ∉ us.map (·.2):=fun e=>c (.inr e)
     refine ⟨fun u m=>?_,?_,fun u m=>?_⟩
     . rcases Zr.mp m with m | m
       . exact U.sub u m
       . rw [List.mem_singleton.mp m];exact hz
     . rw [List.map_append,List.nodup_append]
       refine ⟨U.nd,by simp,fun a ha b hb e=>?_⟩
       simp at hb
       rw [e,hb] at ha
       exact c2 ha
     . rcases Zr.mp m with m | m
       . exact U.nz u m
       . rw [List.mem_singleton.mp m];exact c1
  obtain ⟨vs,V,e,s1,s2⟩:=wu W ys (ql us z) (fun y m=>h y (Zp _ m)) U2
  have up:∀ x,x ∈ us.map (·.2)->x ∈ (ql us z).map (·.2):=fun x m=>by
   unfold ql
   split
   . exact m
   . rw [List.map_append];exact List.mem_append_left _ m
  refine ⟨vs,V,?_,fun x m=>s1 x (up x m),fun y m n=>?_⟩
  . show dst (fV (us.map fun u=>bp u.1) (bp z.1)) (ys.map (·.1)) = _
    rw [xN W U.sub hz]
    exact e
  . rcases Zs.mp m with q | q
    . subst q
      refine s1 _ ?_
      unfold ql
      split
      . rename_i c
        exact c.resolve_left n
      . rw [List.map_append];exact List.mem_append_right _ (by simp)
    . exact s2 y q n
theorem lI:∀ {l m:List Int},l.Nodup->m.Nodup->(∀ x,x ∈ l <-> x ∈ m)->l.length = m.length
 | [],m,_,_,h=>by
  cases m with
  | nil=>rfl
  | cons a m=>exact absurd ((h a).mpr Zo) (by simp)
 | a :: l,m,d,e,h=>by
  have am:=(h a).mp Zo
  have d':=List.nodup_cons.mp d
  have:=lI (l:=l) (m:=m.erase a) d'.2 (e.erase a) (fun x=>by
   rw [e.mem_erase_iff]
   constructor
   . intro q
     exact ⟨fun z=>d'.1 (z ▸ q),(h x).mp (Zp _ q)⟩
   . rintro ⟨n,q⟩
     exact (Zs.mp ((h x).mpr q)).resolve_left n)
  rw [List.length_erase_of_mem am] at this
  have lp:=List.length_pos_of_mem am
  simp only [Zm]
  omega
theorem ve {zs:List ((Int × Int) × Int)} (W:Wp zs) {z:(Int × Int) × Int} (hz:z ∈ zs):rk (dst [] (zs.map (·.1))) z.1 = cG (zs.map (·.2)) z.2:=by
 obtain ⟨us,U,e,_,s2⟩:=wu W zs [] (fun _ m=>m) ⟨(fun _ m=>nomatch m),Zw,(fun _ m=>nomatch m)⟩
 have e':dst [] (zs.map (·.1)) = us.map fun u=>bp u.1:=e
 rw [e']
 have h1:rk (us.map fun u=>bp u.1) z.1 = ((us.map (·.2)).filter fun j=>decide (j <= z.2)).length:=by
  unfold rk
  rw [List.filter_map,List.filter_map,Zl,Zl]
  congr 1
  refine List.filter_congr fun u m=>?_
  exact decide_eq_decide.mpr (W.le u (U.sub u m) z hz)
 rw [h1]
 unfold cG
 refine lI (List.Pairwise.filter _ U.nd) (List.Pairwise.filter _ (show List.Nodup [1,2,3,4] by decide)) fun x=>?_
 rw [List.mem_filter,List.mem_filter,Bool.and_eq_true,decide_eq_true_iff,decide_eq_true_iff]
 constructor
 . rintro ⟨m,l⟩
   obtain ⟨u,mu,rfl⟩:=Zq.mp m
   have r:=W.rg u (U.sub u mu)
   have n:=U.nz u mu
   refine ⟨?_,List.mem_map_of_mem (U.sub u mu),l⟩
   simp only [Zs,List.not_mem_nil,or_false]
   omega
 . rintro ⟨r,m,l⟩
   obtain ⟨y,my,rfl⟩:=Zq.mp m
   refine ⟨s2 y my fun q=>?_,l⟩
   rw [q] at r
   exact absurd r (by decide)
def wk:List Int->List (Int × Int)->List Int->List ((Int × Int) × Int)
 | m :: ms,q :: qs,t :: ts=>if past m q then wk ms qs ts else (q,t) :: wk ms qs ts
 | _,_,_=>[]
def ck (K:List Int):List Int->List (Int × Int)->List Int->List (Int × Int)
 | m :: ms,q :: qs,t :: ts=>(if past m q then (m + 1,0) else (q.1 / q.2,(cG K t:Int))) :: ck K ms qs ts
 | _,_,_=>[]
theorem gN:∀ (ms:List Int) (qs:List (Int × Int)) (ts:List Int),qs.length = ts.length->(wk ms qs ts).map (·.1) = wi ms qs
 | [],_,_,_=>by simp [wk,wi]
 | _ :: _,[],_,_=>by simp [wk,wi]
 | _ :: _,_ :: _,[],h=>by simp at h
 | m :: ms,q :: qs,t :: ts,h=>by
  have ih:=gN ms qs ts (by simpa using h)
  unfold wk wi
  split
  . exact ih
  . rw [Zt,ih]
theorem rF {ps:List (Int × Int)} {K:List Int}:∀ (ms:List Int) (qs:List (Int × Int)) (ts:List Int),qs.length = ts.length->(∀ z ∈ wk ms qs ts,rk ps z.1 = cG K z.2)->cls ps ms qs = ck K ms qs ts
 | [],_,_,_,_=>by simp [cls,ck]
 | _ :: _,[],_,_,_=>by simp [cls,ck]
 | _ :: _,_ :: _,[],h,_=>by simp at h
 | m :: ms,q :: qs,t :: ts,h,g=>by
  unfold cls ck plc
  unfold wk at g
  cases hp:past m q with
  | true =>
   rw [hp,if_pos rfl] at g
   rw [if_pos rfl,if_pos rfl,rF ms qs ts (by simpa using h) g]
  | false =>
   rw [hp,if_neg Bool.false_ne_true] at g
   have e:rk ps q = cG K t:=g (q,t) Zo
   rw [if_neg Bool.false_ne_true,if_neg Bool.false_ne_true,rF ms qs ts (by simpa using h) fun z m=>g z (Zp _ m),e]
theorem lX {ms:List Int} {qs:List (Int × Int)} {ts:List Int} (hl:qs.length = ts.length) (W:Wp (wk ms qs ts)):cel ms qs = ck ((wk ms qs ts).map (·.2)) ms qs ts:=by
 unfold cel
 refine rF ms qs ts hl fun z m=>?_
 rw [<- gN ms qs ts hl]
 exact ve W m
end Mth
namespace Mth
theorem fS {α:Type} {f g:α->Bool}:∀ (ps:List α),(∀ p ∈ ps,f p = true->g p = true)->(ps.filter f).length <= (ps.filter g).length
 | [],_=>Nat.le_refl _
 | p :: ps,h=>by
  have ih:=fS ps fun x m=>h x (Zp _ m)
  have hp:=h p Zo
  rw [List.filter_cons,List.filter_cons]
  cases e:f p with
  | true=>rw [hp e];simpa using ih
  | false =>
   cases g p with
   | true=>simp;omega
   | false=>simpa using ih
theorem iI {α:Type} {f g:α->Bool} {x:α}:∀ (ps:List α),(∀ p ∈ ps,f p = true->g p = true)->x ∈ ps->f x = false->g x = true->(ps.filter f).length < (ps.filter g).length
 | [],_,m,_,_=>nomatch m
 | p :: ps,h,m,a,b=>by
  have hp:=h p Zo
  have le:=fS ps fun x m=>h x (Zp _ m)
  rw [List.filter_cons,List.filter_cons]
  rcases Zs.mp m with q | q
  . subst q
    rw [a,b]
    simp
    omega
  . have ih:=iI ps (fun x m=>h x (Zp _ m)) q a b
    cases e:f p with
    | true=>rw [hp e];simpa using ih
    | false =>
     cases g p with
     | true=>simp;omega
     | false=>simpa using ih
theorem qp {ps:List (Int × Int)}:∀ (ms:List Int) (qs:List (Int × Int)),wk ms qs ((cls ps ms qs).map (·.2)) = (wi ms qs).map fun q=>(q,(rk ps q:Int))
 | [],_=>by simp [wk,wi]
 | _ :: _,[]=>by simp [wk,wi]
 | m :: ms,q :: qs=>by
  have ih:=qp (ps:=ps) ms qs
  unfold cls
  rw [Zt]
  unfold wk wi
  split
  . exact ih
  . rename_i c
    rw [Zt,ih]
    congr 2
    unfold plc
    rw [if_neg c]
theorem yd {a b c d e f:Int} (hb:0 < b) (hd:0 < d) (hf:0 < f) (h1:a * d <= c * b) (h2:c * f <= e * d):a * f <= e * b:=by
 have x1:a * d * f <= c * b * f:=Int.mul_le_mul_of_nonneg_right h1 (Int.le_of_lt hf)
 have x2:c * f * b <= e * d * b:=Int.mul_le_mul_of_nonneg_right h2 (Int.le_of_lt hb)
 have e1:a * d * f = a * f * d:=by rw [Int.mul_assoc,Int.mul_comm d f,<- Int.mul_assoc]
 have e2:c * b * f = c * f * b:=by rw [Int.mul_assoc,Int.mul_comm b f,<- Int.mul_assoc]
 have e3:e * d * b = e * b * d:=by rw [Int.mul_assoc,Int.mul_comm d b,<- Int.mul_assoc]
 exact Int.le_of_mul_le_mul_right (by rw [<- e1,<- e3];omega) hd
theorem vK {ms:List Int} {qs:List (Int × Int)} (t:∀ q ∈ qs,Tw q) (l4:qs.length <= 4):Wp (wk ms qs ((cel ms qs).map (·.2))):=by
 have ta:∀ q ∈ wi ms qs,Tw q:=fun q m=>t q (cM ms qs m)
 have pa:∀ p ∈ dst [] (wi ms qs),0 < p.1:=jq _ (fun x z=>by cases z) fun q m n=>wF (ta q m).lw n
 have pb:∀ p ∈ dst [] (wi ms qs),0 < p.2:=jq _ (fun x z=>by cases z) fun q m _=>(j4 (ta q m).lw).pos
 have pm:∀ q ∈ wi ms qs,q.2 ≠ 1->bp q ∈ dst [] (wi ms qs):=fun q m n=>oH _ m fun e=>n ((iW (ta q m).lw).mp e)
 have pl:(dst [] (wi ms qs)).length <= 4:=by
  have a:=kC (wi ms qs) (ps:=[])
  have b:=gO ms qs
  simp at a
  omega
 unfold cel
 generalize dst [] (wi ms qs) = ps at *
 rw [qp]
 refine ⟨fun z m=>?_,fun z m=>?_,fun z m=>?_,fun y my z mz=>?_⟩
 . obtain ⟨q,mq,rfl⟩:=Zq.mp m
   exact ta q mq
 . obtain ⟨q,mq,rfl⟩:=Zq.mp m
   have:rk ps q <= ps.length:=by unfold rk;exact List.length_filter_le _ _
   dsimp only
   omega
 . obtain ⟨q,mq,rfl⟩:=Zq.mp m
   dsimp only
   rw [sj (ta q mq) pa (pm q mq),iW (ta q mq).lw]
 . obtain ⟨q,mq,rfl⟩:=Zq.mp my
   obtain ⟨r,mr,rfl⟩:=Zq.mp mz
   dsimp only
   have hq:=(ta q mq).lw.pos
   have hr:=(ta r mr).lw.pos
   constructor
   . intro h
     have:rk ps q <= rk ps r:=by
      unfold rk
      refine fS ps fun p m e=>decide_eq_true ?_
      have e:=of_decide_eq_true e
      exact yd (pb p m) hq hr e h
     omega
   . intro h
     rcases Int.lt_or_le ((bp r).1 * (bp q).2) ((bp q).1 * (bp r).2) with c | c
     . exfalso
       have c':r.1 % r.2 * q.2 < q.1 % q.2 * r.2:=c
       have nn:=Int.emod_nonneg r.1 (b:=r.2) (by omega)
       have q1:q.2 ≠ 1:=fun e=>by
        rw [e,Int.emod_one,Int.zero_mul] at c'
        have:=Int.mul_nonneg nn (show (0:Int) <= 1 by decide)
        omega
       have:rk ps r < rk ps q:=by
        unfold rk
        refine iI (x:=bp q) ps (fun p m e=>decide_eq_true ?_) (pm q mq q1) (decide_eq_false ?_) (decide_eq_true (Int.le_refl _))
        . have e:=of_decide_eq_true e
          exact yd (pb p m) hr hq e (Int.le_of_lt c)
        . show ¬ q.1 % q.2 * r.2 <= r.1 % r.2 * q.2
          omega
       omega
     . exact c
end Mth
namespace Mth
theorem kF:∀ (ms:List Int) (qs:List (Int × Int)) (ts:List Int) {z:(Int × Int) × Int},z ∈ wk ms qs ts->z.1 ∈ qs/\z.2 ∈ ts
 | [],_,_,_,h=>by simp [wk] at h
 | _ :: _,[],_,_,h=>by simp [wk] at h
 | _ :: _,_ :: _,[],_,h=>by simp [wk] at h
 | m :: ms,q :: qs,t :: ts,z,h=>by
  unfold wk at h
  split at h
  . obtain ⟨a,b⟩:=kF ms qs ts h
    exact ⟨Zp _ a,Zp _ b⟩
  . rcases Zs.mp h with e | e
    . rw [e];exact ⟨Zo,Zo⟩
    . obtain ⟨a,b⟩:=kF ms qs ts e
      exact ⟨Zp _ a,Zp _ b⟩
theorem qf {ps:List (Int × Int)}:∀ (ms:List Int) (qs:List (Int × Int)),ms.length = qs.length->(cls ps ms qs).length = qs.length
 | [],[],_=>rfl
 | [],_ :: _,h=>by simp at h
 | _ :: _,[],h=>by simp at h
 | m :: ms,q :: qs,h=>by
  show (plc ps m q :: cls ps ms qs).length = _
  rw [Zm,Zm,qf ms qs (by simpa using h)]
structure Kn (ms:List Int) (qs:List (Int × Int)) (ts:List Int):Prop where
 len:qs.length = ts.length
 W:Wp (wk ms qs ts)
 own:∀ z ∈ wk ms qs ts,(cG ((wk ms qs ts).map (·.2)) z.2:Int) = z.2
 one:∀ z ∈ wk ms qs ts,z.1.2 = 1->z.2 = 0
 is:cel ms qs = ck ((wk ms qs ts).map (·.2)) ms qs ts
theorem kn {ms:List Int} {qs:List (Int × Int)} (hl:ms.length = qs.length) (t:∀ q ∈ qs,Tw q) (l4:qs.length <= 4):Kn ms qs ((cel ms qs).map (·.2)):=by
 have W:=vK (ms:=ms) t l4
 have len:qs.length = ((cel ms qs).map (·.2)).length:=by
  rw [Zl]
  unfold cel
  rw [qf ms qs hl]
 have own:∀ z ∈ wk ms qs ((cel ms qs).map (·.2)),z.2 = (rk (dst [] (wi ms qs)) z.1:Int):=fun z m=>by
  unfold cel at m
  rw [qp] at m
  obtain ⟨q,_,rfl⟩:=Zq.mp m
  rfl
 refine ⟨len,W,fun z m=>?_,fun z m o=>?_,lX len W⟩
 . rw [<- ve W m,gN ms qs _ len]
   exact (own z m).symm
 . have:=(W.ze z m).mp ((iW (W.tm z m).lw).mpr o)
   exact this
theorem m9 {m:Int} {q:Int × Int} (p:0 < q.2) (h:past m q = false):q.1 / q.2 <= m:=by
 have:¬ m * q.2 < q.1:=of_decide_eq_false h
 exact Int.ediv_le_of_le_mul p (by omega)
end Mth
namespace Mth
def mn (ns:List Int):List Int:=([0,1,2,3,4]:List Int).filter fun k=>decide (k ∈ ns)
end Mth
namespace Mth
theorem oU (rs:List Int):mn (0 :: rs) = 0 :: ([1,2,3,4]:List Int).filter fun j=>decide (j ∈ rs):=by
 unfold mn
 rw [List.filter_cons_of_pos (by simp)]
 congr 1
 apply List.filter_congr
 intro x hx
 have:x ≠ 0:=by
  intro e
  subst e
  revert hx
  decide
 simp [this]
theorem wo (p:Int->Bool):([1,2,3,4]:List Int).filter p = (if p 1 then [1] else []) ++ ((if p 2 then [2] else []) ++ ((if p 3 then [3] else []) ++ (if p 4 then [4] else []))):=by
 simp only [List.filter_cons,List.filter_nil]
 cases p 1 <;> cases p 2 <;> cases p 3 <;> cases p 4 <;> rfl
theorem vW (p:Int->Bool):(([1,2,3,4]:List Int).filter p).length = (if p 1 then 1 else 0) + ((if p 2 then 1 else 0) + ((if p 3 then 1 else 0) + (if p 4 then 1 else 0))):=by
 rw [wo]
 cases p 1 <;> cases p 2 <;> cases p 3 <;> cases p 4 <;> rfl
theorem wD {ps:List (Int × Int)} (l:ps.length <= 4):∀ (ms:List Int) (qs:List (Int × Int)),(∀ m ∈ ms,0 <= m/\m <= 60)->(∀ q ∈ qs,Tw q)->∀ c ∈ cls ps ms qs,(0 <= c.1/\c.1 <= 61)/\0 <= c.2/\c.2 <= 4
 | [],_,_,_,_,m=>by cases m
 | _ :: _,[],_,_,_,m=>by cases m
 | m :: ms,q :: qs,hm,hq,c,mc=>by
  rcases Zs.mp (show c ∈ plc ps m q :: cls ps ms qs from mc) with e | e
  . subst e
    have a:=hm m Zo
    have t:=hq q Zo
    have p0:=t.lw.pos
    have n0:=t.nn
    have u0:=t.up
    unfold plc
    split
    . exact ⟨⟨by show 0 <= m + 1;omega,by show m + 1 <= 61;omega⟩,by show (0:Int) <= 0;omega,by show (0:Int) <= 4;omega⟩
    . rename_i np
      have r:rk ps q <= ps.length:=List.length_filter_le _ _
      refine ⟨⟨?_,?_⟩,?_,?_⟩
      . exact Int.ediv_nonneg n0 (Int.le_of_lt p0)
      . have:q.1 / q.2 <= m:=m9 p0 (by simpa using np)
        show q.1 / q.2 <= 61
        omega
      . show (0:Int) <= (rk ps q:Int)
        omega
      . show (rk ps q:Int) <= 4
        omega
  . exact wD l ms qs (fun x h=>hm x (Zp _ h)) (fun x h=>hq x (Zp _ h)) c e
theorem z7 {ms:List Int} {qs:List (Int × Int)} (gr:∀ m ∈ ms,0 <= m/\m <= 60) (t:∀ q ∈ qs,Tw q) (l4:qs.length <= 4):∀ c ∈ cel ms qs,(0 <= c.1/\c.1 <= 61)/\0 <= c.2/\c.2 <= 4:=by
 have a:=kC (wi ms qs) (ps:=[])
 have b:=gO ms qs
 exact wD (by simp only [Zn] at a;omega) ms qs gr t
end Mth
namespace Mth
theorem mK {q:Int × Int} (h:0 < q.2):vl q = ((q.1 / q.2:Int):Rat) + vl (bp q):=by
 unfold vl bp
 rw [<- d4 (q.1 / q.2),Rat.divInt_add_divInt _ _ (by omega) (by omega)]
 have:=Int.emod_add_mul_ediv q.1 q.2
 rw [Int.mul_comm q.2] at this
 rw [Int.mul_one,Int.one_mul,show q.1 / q.2 * q.2 + q.1 % q.2 = q.1 by omega]
theorem uW {p q:Int × Int} (hp:0 < p.2) (hq:0 < q.2):vl p <= vl q <-> p.1 * q.2 <= q.1 * p.2:=by
 have:=mJ hq hp
 constructor
 . intro h
   by_cases c:p.1 * q.2 <= q.1 * p.2
   . exact c
   . have:=this.mpr (by omega)
     grind
 . intro h
   by_cases c:vl p <= vl q
   . exact c
   . have:=this.mp (by grind)
     omega
theorem iK {q:Int × Int} (h:0 < q.2):0 <= vl (bp q):=by
 have:=(uW (p:=(0,1)) (q:=bp q) (by decide) h).mpr (by
  have:=Int.emod_nonneg q.1 (b:=q.2) (by omega)
  show 0 * q.2 <= q.1 % q.2 * 1
  omega)
 rw [d8] at this
 simpa using this
theorem t5 {q:Int × Int} (h:0 < q.2):vl (bp q) < 1:=by
 have:=(mJ (p:=bp q) (q:=(1,1)) h (by decide)).mpr (by
  have:=Int.emod_lt_of_pos q.1 h
  show q.1 % q.2 * 1 < 1 * q.2
  omega)
 rw [d8] at this
 simpa using this
theorem wm {q:Int × Int} {n:Int} {f:Rat} (h:0 < q.2) (e:vl q = (n:Rat) + f) (f0:0 <= f) (f1:f < 1):q.1 / q.2 = n/\vl (bp q) = f:=by
 have a:=mK h
 have b:=iK h
 have c:=t5 h
 have key:q.1 / q.2 = n:=by
  rcases Int.lt_trichotomy (q.1 / q.2) n with l | l | l
  . have:=(Rat.intCast_le_intCast (a:=q.1 / q.2 + 1) (b:=n)).mpr (by omega)
    rw [Rat.intCast_add] at this
    grind
  . exact l
  . have:=(Rat.intCast_le_intCast (a:=n + 1) (b:=q.1 / q.2)).mpr (by omega)
    rw [Rat.intCast_add] at this
    grind
 refine ⟨key,?_⟩
 rw [key] at a
 grind
theorem iw {q:Int × Int} (h:Lw q):bp q = (0,1) <-> vl (bp q) = 0:=by
 constructor
 . intro e
   rw [e,d8]
   rfl
 . intro e
   exact kH (j4 h) (q:=(0,1)) ⟨by decide,by decide⟩ (by rw [e,d8];rfl)
theorem ik {m:Int} {q:Int × Int} (h:0 < q.2):past m q = true <-> (m:Rat) < vl q:=by
 have:=mJ (p:=(m,1)) (q:=q) (show (0:Int) < 1 by decide) h
 rw [d8] at this
 rw [this]
 unfold past
 simp
theorem pE {m:Int} {q:Int × Int} (h:0 < q.2):past m q = false <-> vl q <= (m:Rat):=by
 have:=ik (m:=m) h
 constructor
 . intro e
   by_cases c:vl q <= (m:Rat)
   . exact c
   . have:=this.mpr (by grind)
     rw [e] at this
     cases this
 . intro e
   cases c:past m q with
   | false=>rfl
   | true =>
    have:=this.mp c
    grind
def co (q:Int × Int):Int × Int:=(q.2 - q.1 % q.2,q.2)
def lsF:Int × Int->List (Int × Int)->Int × Int
 | f,[]=>f
 | f,x :: xs=>lsF (if x.1 * f.2 < f.1 * x.2 then x else f) xs
theorem tj:∀ (xs:List (Int × Int)) (f:Int × Int),lsF f xs = f \/ lsF f xs ∈ xs
 | [],f=>.inl rfl
 | x :: xs,f=>by
  show lsF (if x.1 * f.2 < f.1 * x.2 then x else f) xs = f \/ lsF (if x.1 * f.2 < f.1 * x.2 then x else f) xs ∈ x :: xs
  rcases tj xs (if x.1 * f.2 < f.1 * x.2 then x else f) with h | h
  . rw [h]
    split
    . exact .inr Zo
    . exact .inl rfl
  . exact .inr (Zp _ h)
theorem vV:∀ (xs:List (Int × Int)) (f:Int × Int),0 < f.2->(∀ x ∈ xs,0 < x.2)->vl (lsF f xs) <= vl f/\∀ x ∈ xs,vl (lsF f xs) <= vl x
 | [],f,_,_=>⟨Rat.le_refl,fun _ m=>nomatch m⟩
 | x :: xs,f,hf,hx=>by
  have x0:=hx x Zo
  show vl (lsF (if x.1 * f.2 < f.1 * x.2 then x else f) xs) <= vl f/\∀ y ∈ x :: xs,vl (lsF (if x.1 * f.2 < f.1 * x.2 then x else f) xs) <= vl y
  have ih:=vV xs (if x.1 * f.2 < f.1 * x.2 then x else f) (by split <;> assumption) fun y m=>hx y (Zp _ m)
  have c:=mJ x0 hf
  by_cases g:x.1 * f.2 < f.1 * x.2
  . rw [if_pos g] at ih ⊢
    have:=c.mpr g
    refine ⟨by grind,fun y m=>?_⟩
    rcases Zs.mp m with e | e
    . rw [e];exact ih.1
    . exact ih.2 y e
  . rw [if_neg g] at ih ⊢
    have:¬ vl x < vl f:=fun z=>g (c.mp z)
    refine ⟨ih.1,fun y m=>?_⟩
    rcases Zs.mp m with e | e
    . rw [e];grind
    . exact ih.2 y e
theorem rW {q:Int × Int} (h:0 < q.2):vl (co q) = 1 - vl (bp q):=by
 unfold vl co bp
 have:(1:Rat) = Rat.divInt 1 1:=by rw [d4];rfl
 rw [this,Rat.divInt_sub_divInt _ _ (by omega) (by omega)]
 congr 1
 . omega
 . omega
theorem wz {q:Int × Int} (h:Lw q):Lw (co q):=⟨h.pos,by
 have e:=(j4 h).one
 show gc (q.2 - q.1 % q.2) q.2 = 1
 have e':gc (q.1 % q.2) q.2 = 1:=e
 unfold gc at e' ⊢
 rw [<- e',Int.gcd_comm,Int.gcd_comm (q.1 % q.2)]
 rw [Int.gcd_self_sub_right]⟩
theorem lJ {q:Int × Int} {r:List (Int × Int)} (h:∀ x ∈ q :: r,Lw x):∃ x ∈ q :: r,lsF (co q) ((q :: r).map co) = co x/\∀ y ∈ q :: r,vl (bp y) <= vl (bp x):=by
 obtain ⟨x,mx,ex⟩:∃ x ∈ q :: r,lsF (co q) ((q :: r).map co) = co x:=by
  rcases tj ((q :: r).map co) (co q) with e | e
  . exact ⟨q,Zo,e⟩
  . obtain ⟨x,m,e⟩:=Zq.mp e
    exact ⟨x,m,e.symm⟩
 refine ⟨x,mx,ex,fun y my=>?_⟩
 have:=(vV ((q :: r).map co) (co q) (h q Zo).pos fun z m=>by
  obtain ⟨z',m',e⟩:=Zq.mp m
  rw [<- e]
  exact (h z' m').pos).2 (co y) (Zq.mpr ⟨y,my,rfl⟩)
 rw [ex,rW (h x mx).pos,rW (h y my).pos] at this
 grind
end Mth
set_option maxHeartbeats 4000000
namespace Mth
def pbm (step m:Int) (c:Int × Int):Int × Int:=if 0 < c.2 then (c.1,c.2 + step) else if c.1 < m then (c.1,1) else (m + 1,0)
def zbm (step:Int):List Int->List (Int × Int)->List (Int × Int)
 | m :: ms,c :: cs=>pbm step m c :: zbm step ms cs
 | _,_=>[]
def lvg:List Int->List (Int × Int)->Bool
 | m :: ms,c :: cs=>(decide (c.2 = 0) && decide (c.1 < m)) || lvg ms cs
 | _,_=>false
def bmo (ms:List Int) (cs:List (Int × Int)):List (Int × Int):=zbm (if lvg ms cs then 1 else 0) ms cs
structure Sml (q q':Int × Int) (d:Rat):Prop where
 lw:Lw q
 lw':Lw q'
 nn:0 <= q.1
 e:vl q' = vl q + d
 d0:0 < d
 d1:vl (bp q) + d < 1
theorem Sml.at {q q':Int × Int} {d:Rat} (h:Sml q q' d):q'.1 / q'.2 = q.1 / q.2/\vl (bp q') = vl (bp q) + d:=by
 have a:=mK h.lw.pos
 have b:=iK h.lw.pos
 have c:=h.d0
 exact wm h.lw'.pos (by rw [h.e,a];grind) (by grind) h.d1
theorem Sml.past {q q':Int × Int} {d:Rat} {m:Int} (h:Sml q q' d):past m q' = (Mth.past m q || (decide (bp q = (0,1)) && decide (q.1 / q.2 = m))):=by
 have p:=h.lw.pos
 have p':=h.lw'.pos
 have a:=mK p
 have b:=iK p
 have e:=h.e
 have d0:=h.d0
 have d1:=h.d1
 cases c:Mth.past m q with
 | true =>
  have:=(ik p).mp c
  rw [Bool.true_or]
  exact (ik p').mpr (by grind)
 | false =>
  have l:=(pE p).mp c
  rw [Bool.false_or]
  by_cases z:bp q = (0,1)
  . have z':=(iw h.lw).mp z
    rw [decide_eq_true z,Bool.true_and]
    by_cases y:q.1 / q.2 = m
    . rw [decide_eq_true y]
      refine (ik p').mpr ?_
      rw [e,a,z',y]
      grind
    . rw [decide_eq_false y]
      refine (pE p').mpr ?_
      have:q.1 / q.2 <= m:=by
       have:=m9 p c
       exact this
      have:=(Rat.intCast_le_intCast (a:=q.1 / q.2 + 1) (b:=m)).mpr (by omega)
      rw [Rat.intCast_add] at this
      rw [e,a]
      grind
  . rw [decide_eq_false z,Bool.false_and]
    refine (pE p').mpr ?_
    have nz:vl (bp q) ≠ 0:=fun y=>z ((iw h.lw).mpr y)
    have:q.1 / q.2 < m:=by
     have f:=m9 p c
     rcases Int.lt_or_eq_of_le f with g | g
     . exact g
     . rw [a,g] at l
       exact absurd (show vl (bp q) = 0 by grind) nz
    have:=(Rat.intCast_le_intCast (a:=q.1 / q.2 + 1) (b:=m)).mpr (by omega)
    rw [Rat.intCast_add] at this
    rw [e,a]
    grind
theorem xK {K:List Int} (h:1 ∈ K):cG K 1 = 1:=by
 unfold cG
 rw [vW]
 simp [h]
theorem wC (K:List Int):cG K 0 = 0:=by
 unfold cG
 rw [vW]
 simp
structure Add (f:Int × Int->Int × Int) (d:Rat) (qs:List (Int × Int)):Prop where
 lw:∀ q ∈ qs,Lw q
 nn:∀ q ∈ qs,0 <= q.1
 lw':∀ q ∈ qs,Lw (f q)
 e:∀ q ∈ qs,vl (f q) = vl q + d
 d0:0 < d
theorem Add.tail {f:Int × Int->Int × Int} {d:Rat} {q:Int × Int} {qs:List (Int × Int)} (h:Add f d (q :: qs)):Add f d qs :=
 ⟨fun x m=>h.lw x (Zp _ m),fun x m=>h.nn x (Zp _ m),fun x m=>h.lw' x (Zp _ m),fun x m=>h.e x (Zp _ m),h.d0⟩
theorem Add.past {f:Int × Int->Int × Int} {d:Rat} {qs:List (Int × Int)} {q:Int × Int} {m:Int} (h:Add f d qs) (mq:q ∈ qs) (p:Mth.past m q = true):Mth.past m (f q) = true:=by
 have a:=(ik (h.lw q mq).pos).mp p
 have b:=h.e q mq
 have c:=h.d0
 exact (ik (h.lw' q mq).pos).mpr (by grind)
theorem Add.sml {f:Int × Int->Int × Int} {d:Rat} {qs:List (Int × Int)} {q:Int × Int} (h:Add f d qs) (mq:q ∈ qs) (l:vl (bp q) + d < 1):Sml q (f q) d:=⟨h.lw q mq,h.lw' q mq,h.nn q mq,h.e q mq,h.d0,l⟩
def up1 (t:Int):Int:=t + 1
theorem fW {f:Int × Int->Int × Int} {g:Int->Int} {d:Rat}:∀ (ms:List Int) (qs:List (Int × Int)) (ts:List Int),Add f d qs->∀ z ∈ wk ms (qs.map f) (ts.map g),∃ y ∈ wk ms qs ts,z = (f y.1,g y.2)
 | [],_,_,_,z,h=>by simp [wk] at h
 | _ :: _,[],_,_,z,h=>by simp [wk] at h
 | _ :: _,_ :: _,[],_,z,h=>by simp [wk] at h
 | m :: ms,q :: qs,t :: ts,A,z,h=>by
  have h':z ∈ (if past m (f q) then wk ms (qs.map f) (ts.map g) else (f q,g t) :: wk ms (qs.map f) (ts.map g)):=h
  show ∃ y ∈ (if past m q then wk ms qs ts else (q,t) :: wk ms qs ts),z = (f y.1,g y.2)
  have tail:z ∈ wk ms (qs.map f) (ts.map g)->∃ y ∈ (if past m q then wk ms qs ts else (q,t) :: wk ms qs ts),z = (f y.1,g y.2):=fun k=>by
   obtain ⟨y,my,e⟩:=fW ms qs ts A.tail z k
   refine ⟨y,?_,e⟩
   split
   . exact my
   . exact Zp _ my
  split at h'
  . exact tail h'
  . rename_i np
    rcases Zs.mp h' with e | e
    . have:¬ past m q = true:=fun p=>np (A.past Zo p)
      rw [if_neg this]
      exact ⟨(q,t),Zo,e⟩
    . exact tail e
theorem qq {f:Int × Int->Int × Int} {g:Int->Int} {d:Rat}:∀ (ms:List Int) (qs:List (Int × Int)) (ts:List Int),Add f d qs->∀ y ∈ wk ms qs ts,(∀ m,past m y.1 = false->past m (f y.1) = false)->(f y.1,g y.2) ∈ wk ms (qs.map f) (ts.map g)
 | [],_,_,_,y,h,_=>by simp [wk] at h
 | _ :: _,[],_,_,y,h,_=>by simp [wk] at h
 | _ :: _,_ :: _,[],_,y,h,_=>by simp [wk] at h
 | m :: ms,q :: qs,t :: ts,A,y,h,k=>by
  have h':y ∈ (if past m q then wk ms qs ts else (q,t) :: wk ms qs ts):=h
  show (f y.1,g y.2) ∈ (if past m (f q) then wk ms (qs.map f) (ts.map g) else (f q,g t) :: wk ms (qs.map f) (ts.map g))
  have tail:y ∈ wk ms qs ts->(f y.1,g y.2) ∈ (if past m (f q) then wk ms (qs.map f) (ts.map g) else (f q,g t) :: wk ms (qs.map f) (ts.map g)):=fun z=>by
   have:=qq (g:=g) ms qs ts A.tail y z k
   split
   . exact this
   . exact Zp _ this
  split at h'
  . exact tail h'
  . rename_i np
    rcases Zs.mp h' with e | e
    . subst e
      have:=k m (by simpa using np)
      rw [if_neg (by rw [this];exact Bool.false_ne_true)]
      exact Zo
    . exact tail e
theorem AV {step m x:Int}:pbm step m (x,0) = if x < m then (x,1) else (m + 1,0):=if_neg (by show ¬ (0:Int) < 0;decide)
theorem AU {step m x t:Int} (h:0 < t):pbm step m (x,t) = (x,t + step):=if_pos h
theorem t6 {f:Int × Int->Int × Int} {d:Rat} {K K':List Int} {step:Int}:∀ (ms:List Int) (qs:List (Int × Int)) (ts:List Int),qs.length = ts.length->Add f d qs->(∀ z ∈ wk ms qs ts,vl (bp z.1) + d < 1)->(∀ z ∈ wk ms qs ts,(cG K z.2:Int) = z.2/\0 <= z.2)->(∀ z ∈ wk ms qs ts,bp z.1 = (0,1) <-> z.2 = 0) ->
 (∀ z ∈ wk ms qs ts,z.2 ≠ 0->(cG K' (z.2 + 1):Int) = z.2 + step)->(∀ z ∈ wk ms (qs.map f) (ts.map up1),z.2 ∈ K')->ck K' ms (qs.map f) (ts.map up1) = zbm step ms (ck K ms qs ts)
 | [],_,_,_,_,_,_,_,_,_=>by simp [ck,zbm]
 | _ :: _,[],_,_,_,_,_,_,_,_=>by simp [ck,zbm]
 | _ :: _,_ :: _,[],l,_,_,_,_,_,_=>by simp at l
 | m :: ms,q :: qs,t :: ts,l,A,hk,own,ze,c1,sub=>by
  have unf:wk (m :: ms) (q :: qs) (t :: ts) = if past m q then wk ms qs ts else (q,t) :: wk ms qs ts:=rfl
  have unf':wk (m :: ms) ((q :: qs).map f) ((t :: ts).map up1) = if past m (f q) then wk ms (qs.map f) (ts.map up1) else (f q,t + 1) :: wk ms (qs.map f) (ts.map up1):=rfl
  have inn:∀ z ∈ wk ms qs ts,z ∈ wk (m :: ms) (q :: qs) (t :: ts):=fun z h=>by
   rw [unf]
   split
   . exact h
   . exact Zp _ h
  have inn':∀ z ∈ wk ms (qs.map f) (ts.map up1),z ∈ wk (m :: ms) ((q :: qs).map f) ((t :: ts).map up1):=fun z h=>by
   rw [unf']
   split
   . exact h
   . exact Zp _ h
  have ih:=t6 (K:=K) (K':=K') (step:=step) ms qs ts (by simpa using l) A.tail (fun z h=>hk z (inn z h)) (fun z h=>own z (inn z h)) (fun z h=>ze z (inn z h)) (fun z h=>c1 z (inn z h)) (fun z h=>sub z (inn' z h))
  show (if past m (f q) then (m + 1,0) else ((f q).1 / (f q).2,(cG K' (t + 1):Int))) :: ck K' ms (qs.map f) (ts.map up1) = pbm step m (if past m q then (m + 1,0) else (q.1 / q.2,(cG K t:Int))) :: zbm step ms (ck K ms qs ts)
  rw [ih]
  congr 1
  by_cases p:past m q = true
  . rw [if_pos p,if_pos (A.past Zo p)]
    unfold pbm
    rw [if_neg (by show ¬ (0:Int) < 0;decide),if_neg (by show ¬ m + 1 < m;omega)]
  . have mz:(q,t) ∈ wk (m :: ms) (q :: qs) (t :: ts):=by
     rw [unf,if_neg p]
     exact Zo
    have hk':=hk (q,t) mz
    dsimp only at hk'
    have S:=A.sml Zo hk'
    obtain ⟨fl,_⟩:=S.at
    have pp:=S.past (m:=m)
    have pf:past m q = false:=by simpa using p
    obtain ⟨o,o0⟩:=own _ mz
    have o':(cG K t:Int) = t:=o
    have o0':0 <= t:=o0
    rw [pf,Bool.false_or] at pp
    rw [if_neg p,o',fl,pp]
    have z:=ze _ mz
    by_cases t0:t = 0
    . have b0:bp q = (0,1):=z.mpr t0
      subst t0
      rw [AV,decide_eq_true b0,Bool.true_and]
      have fle:q.1 / q.2 <= m:=m9 (A.lw q Zo).pos pf
      by_cases em:q.1 / q.2 = m
      . rw [if_pos (by rw [decide_eq_true em]),if_neg (by omega)]
      . rw [if_neg (by rw [decide_eq_false em];exact Bool.false_ne_true),if_pos (by omega)]
        have np':¬ past m (f q) = true:=by
         rw [pp,decide_eq_true b0,decide_eq_false em]
         exact Bool.false_ne_true
        have:(0:Int) + 1 ∈ K':=sub (f q,0 + 1) (by rw [unf',if_neg np'];exact Zo)
        rw [show (0:Int) + 1 = 1 by decide] at this ⊢
        rw [xK this]
        rfl
    . have b0:bp q ≠ (0,1):=fun e=>t0 (z.mp e)
      rw [decide_eq_false b0,Bool.false_and,if_neg Bool.false_ne_true,AU (by omega)]
      rw [show (cG K' (t + 1):Int) = t + step from c1 _ mz t0]
theorem pK {f:Int × Int->Int × Int} {d:Rat} {K:List Int}:∀ (ms:List Int) (qs:List (Int × Int)) (ts:List Int),qs.length = ts.length->Add f d qs->(∀ z ∈ wk ms qs ts,vl (bp z.1) + d < 1)->(∀ z ∈ wk ms qs ts,(cG K z.2:Int) = z.2/\0 <= z.2)->(∀ z ∈ wk ms qs ts,bp z.1 = (0,1) <-> z.2 = 0) ->
 (lvg ms (ck K ms qs ts) = true <-> 1 ∈ (wk ms (qs.map f) (ts.map up1)).map (·.2))
 | [],_,_,_,_,_,_,_=>by simp [ck,lvg,wk]
 | _ :: _,[],_,_,_,_,_,_=>by simp [ck,lvg,wk]
 | _ :: _,_ :: _,[],l,_,_,_,_=>by simp at l
 | m :: ms,q :: qs,t :: ts,l,A,hk,own,ze=>by
  have unf:wk (m :: ms) (q :: qs) (t :: ts) = if past m q then wk ms qs ts else (q,t) :: wk ms qs ts:=rfl
  have unf':wk (m :: ms) ((q :: qs).map f) ((t :: ts).map up1) = if past m (f q) then wk ms (qs.map f) (ts.map up1) else (f q,t + 1) :: wk ms (qs.map f) (ts.map up1):=rfl
  have inn:∀ z ∈ wk ms qs ts,z ∈ wk (m :: ms) (q :: qs) (t :: ts):=fun z h=>by
   rw [unf]
   split
   . exact h
   . exact Zp _ h
  have ih:=pK (K:=K) ms qs ts (by simpa using l) A.tail (fun z h=>hk z (inn z h)) (fun z h=>own z (inn z h)) (fun z h=>ze z (inn z h))
  show ((decide ((if past m q then (m + 1,0) else (q.1 / q.2,(cG K t:Int))).2 = 0) && decide ((if past m q then (m + 1,0) else (q.1 / q.2,(cG K t:Int))).1 < m)) || lvg ms (ck K ms qs ts)) = true <-> _
  rw [unf',Bool.or_eq_true,ih]
  by_cases p:past m q = true
  . rw [if_pos p,if_pos (A.past Zo p)]
    have:(decide ((m + 1,(0:Int)).2 = 0) && decide ((m + 1,(0:Int)).1 < m)) = false:=by
     rw [decide_eq_false (show ¬ m + 1 < m by omega),Bool.and_false]
    rw [this]
    simp
  . have mz:(q,t) ∈ wk (m :: ms) (q :: qs) (t :: ts):=by
     rw [unf,if_neg p]
     exact Zo
    have hk':=hk (q,t) mz
    dsimp only at hk'
    have S:=A.sml Zo hk'
    have pp:=S.past (m:=m)
    have pf:past m q = false:=by simpa using p
    have o':(cG K t:Int) = t:=(own _ mz).1
    have fle:q.1 / q.2 <= m:=m9 (A.lw q Zo).pos pf
    rw [pf,Bool.false_or] at pp
    rw [if_neg p,o',pp]
    have z:=ze _ mz
    dsimp only at z
    by_cases t0:t = 0
    . have b0:bp q = (0,1):=z.mpr t0
      rw [decide_eq_true b0,Bool.true_and,decide_eq_true t0,Bool.true_and]
      by_cases em:q.1 / q.2 = m
      . rw [if_pos (by rw [decide_eq_true em]),decide_eq_false (by omega)]
        simp
      . rw [if_neg (by rw [decide_eq_false em];exact Bool.false_ne_true),decide_eq_true (by omega)]
        rw [t0]
        simp
    . have b0:bp q ≠ (0,1):=fun e=>t0 (z.mp e)
      rw [decide_eq_false b0,Bool.false_and,if_neg Bool.false_ne_true,decide_eq_false t0,Bool.false_and]
      have:¬ (1:Int) = t + 1:=by omega
      simp [this]
theorem uQ {K K':List Int} {t:Int} (t1:1 <= t) (t3:t <= 3) (h:∀ j:Int,1 <= j->j <= 3->(j + 1 ∈ K' <-> j ∈ K)):(cG K' (t + 1):Int) = (cG K t:Int) + (if 1 ∈ K' then 1 else 0):=by
 unfold cG
 rw [vW,vW]
 have h1:=h 1 (by decide) (by decide)
 have h2:=h 2 (by decide) (by decide)
 have h3:=h 3 (by decide) (by decide)
 rw [show (1:Int) + 1 = 2 by decide] at h1
 rw [show (2:Int) + 1 = 3 by decide] at h2
 rw [show (3:Int) + 1 = 4 by decide] at h3
 have c:t = 1 \/ t = 2 \/ t = 3:=by omega
 simp only [h1,h2,h3]
 rcases c with rfl | rfl | rfl <;> by_cases a0:(1:Int) ∈ K' <;> by_cases a1:(1:Int) ∈ K <;> by_cases a2:(2:Int) ∈ K <;> by_cases a3:(3:Int) ∈ K <;> simp [a0,a1,a2,a3]
theorem yc:∀ (l K:List Int),l.Nodup->l ⊆ K->l.length <= K.length
 | [],_,_,_=>Nat.zero_le _
 | x :: l,K,h,s=>by
  have hx:=List.nodup_cons.mp h
  have mx:x ∈ K:=s Zo
  have:=yc l (K.erase x) hx.2 fun y my=>(List.mem_erase_of_ne (a:=y) (b:=x) (fun e=>hx.1 (by rw [<- e];exact my))).mpr (s (Zp _ my))
  rw [List.length_erase_of_mem mx] at this
  have:=List.length_pos_of_mem mx
  simp only [Zm]
  omega
theorem uC {K:List Int} (l:K.length <= 4) (h0:0 ∈ K) (h:cG K 4 = 4):False:=by
 unfold cG at h
 rw [vW] at h
 obtain ⟨m1,m2,m3,m4⟩:(1:Int) ∈ K/\(2:Int) ∈ K/\(3:Int) ∈ K/\(4:Int) ∈ K:=by
  by_cases a1:(1:Int) ∈ K <;> by_cases a2:(2:Int) ∈ K <;> by_cases a3:(3:Int) ∈ K <;> by_cases a4:(4:Int) ∈ K <;> simp [a1,a2,a3,a4] at h ⊢
 have sub:([0,1,2,3,4]:List Int) ⊆ K:=fun x m=>by
  simp only [Zs,List.not_mem_nil,or_false] at m
  rcases m with rfl | rfl | rfl | rfl | rfl <;> assumption
 have:=yc ([0,1,2,3,4]:List Int) K (by decide) sub
 simp only [Zm,Zn] at this
 omega
theorem uU:∀ (ms:List Int) (qs:List (Int × Int)) (ts:List Int),(wk ms qs ts).length <= qs.length
 | [],_,_=>by simp [wk]
 | _ :: _,[],_=>by simp [wk]
 | _ :: _,_ :: _,[]=>by simp [wk]
 | m :: ms,q :: qs,t :: ts=>by
  have:=uU ms qs ts
  show (if past m q then wk ms qs ts else (q,t) :: wk ms qs ts).length <= qs.length + 1
  split
  . omega
  . simp only [Zm];omega
theorem m5 {p q:Int × Int} (hp:0 < p.2) (hq:0 < q.2):(bp p).1 * (bp q).2 <= (bp q).1 * (bp p).2 <-> vl (bp p) <= vl (bp q):=(uW (p:=bp p) (q:=bp q) hp hq).symm
theorem z8 {ms:List Int} {qs:List (Int × Int)} {f:Int × Int->Int × Int} {d:Rat} (hl:ms.length = qs.length) (t:∀ q ∈ qs,Tw q) (l4:qs.length <= 4) (A:Add f d qs) (tf:∀ q ∈ qs,Tw (f q)) (hk:∀ q ∈ wi ms qs,vl (bp q) + d < 1) (mo:∃ q ∈ wi ms qs,bp q = (0,1)) :
 cel ms (qs.map f) = bmo ms (cel ms qs):=by
 have N:=kn hl t l4
 obtain ⟨ts,hts⟩:∃ ts,ts = (cel ms qs).map (·.2):=⟨_,rfl⟩
 rw [<- hts] at N
 have fst:∀ z ∈ wk ms qs ts,z.1 ∈ wi ms qs:=fun z m=>by
  rw [<- gN ms qs ts N.len]
  exact Zq.mpr ⟨z,m,rfl⟩
 have hk':∀ z ∈ wk ms qs ts,vl (bp z.1) + d < 1:=fun z m=>hk z.1 (fst z m)
 have own:∀ z ∈ wk ms qs ts,(cG ((wk ms qs ts).map (·.2)) z.2:Int) = z.2/\0 <= z.2:=fun z m=>⟨N.own z m,(N.W.rg z m).1⟩
 have h0:(0:Int) ∈ (wk ms qs ts).map (·.2):=by
  obtain ⟨q,mq,e⟩:=mo
  rw [<- gN ms qs ts N.len] at mq
  obtain ⟨z,mz,rfl⟩:=Zq.mp mq
  exact Zq.mpr ⟨z,mz,(N.W.ze z mz).mp e⟩
 have le3:∀ z ∈ wk ms qs ts,z.2 <= 3:=fun z m=>by
  have r:=(N.W.rg z m).2
  by_cases c:z.2 = 4
  . have o:=(own z m).1
    rw [c] at o
    exact (uC (by rw [Zl];have:=uU ms qs ts;omega) h0 (by omega)).elim
  . omega
 have inq:∀ z ∈ wk ms qs ts,z.1 ∈ qs:=fun z m=>(kF ms qs ts m).1
 have stay:∀ z ∈ wk ms qs ts,z.2 ≠ 0->∀ m,past m z.1 = false->past m (f z.1) = false:=fun z mz n m p=>by
  have S:=A.sml (inq z mz) (hk' z mz)
  rw [S.past,p,Bool.false_or,decide_eq_false fun e=>n ((N.W.ze z mz).mp e),Bool.false_and]
 have W':Wp (wk ms (qs.map f) (ts.map up1)):=by
  refine ⟨fun z' m'=>?_,fun z' m'=>?_,fun z' m'=>?_,fun y' my' z' mz'=>?_⟩
  . obtain ⟨z,m,rfl⟩:=fW ms qs ts A z' m'
    exact tf z.1 (inq z m)
  . obtain ⟨z,m,rfl⟩:=fW ms qs ts A z' m'
    have a:=(N.W.rg z m).1
    have b:=le3 z m
    exact ⟨by show 0 <= z.2 + 1;omega,by show z.2 + 1 <= 4;omega⟩
  . obtain ⟨z,m,rfl⟩:=fW ms qs ts A z' m'
    have S:=A.sml (inq z m) (hk' z m)
    have a:=(N.W.rg z m).1
    constructor
    . intro e
      have:=(iw S.lw').mp e
      rw [S.at.2] at this
      have:=iK S.lw.pos
      have:=S.d0
      grind
    . intro e
      have e':z.2 + 1 = 0:=e
      omega
  . obtain ⟨y,my,rfl⟩:=fW ms qs ts A y' my'
    obtain ⟨z,mz,rfl⟩:=fW ms qs ts A z' mz'
    have S:=A.sml (inq y my) (hk' y my)
    have R:=A.sml (inq z mz) (hk' z mz)
    show (bp (f y.1)).1 * (bp (f z.1)).2 <= (bp (f z.1)).1 * (bp (f y.1)).2 <-> y.2 + 1 <= z.2 + 1
    rw [m5 S.lw'.pos R.lw'.pos,S.at.2,R.at.2]
    have o:=N.W.le y my z mz
    rw [m5 S.lw.pos R.lw.pos] at o
    constructor
    . intro h
      have:=o.mp (by grind)
      omega
    . intro h
      have:=o.mpr (by omega)
      grind
 have len':(qs.map f).length = (ts.map up1).length:=by rw [Zl,Zl];exact N.len
 rw [lX len' W',N.is]
 unfold bmo
 have lv:=pK (f:=f) (d:=d) (K:=(wk ms qs ts).map (·.2)) ms qs ts N.len A hk' own (fun z m=>N.W.ze z m)
 refine t6 (d:=d) ms qs ts N.len A hk' own (fun z m=>N.W.ze z m) (fun z m n=>?_) fun z m=>Zq.mpr ⟨z,m,rfl⟩
 have a:=(N.W.rg z m).1
 have:=uQ (K:=(wk ms qs ts).map (·.2)) (K':=(wk ms (qs.map f) (ts.map up1)).map (·.2)) (t:=z.2) (by omega) (le3 z m) fun j j1 j3=>by
  constructor
  . intro h
    obtain ⟨z',m',e⟩:=Zq.mp h
    obtain ⟨y,my,rfl⟩:=fW ms qs ts A z' m'
    have e':y.2 + 1 = j + 1:=e
    exact Zq.mpr ⟨y,my,by omega⟩
  . intro h
    obtain ⟨y,my,e⟩:=Zq.mp h
    have e':y.2 = j:=e
    exact Zq.mpr ⟨_,qq (g:=up1) ms qs ts A y my (stay y my (by omega)),by show y.2 + 1 = j + 1;omega⟩
 rw [this,(own z m).1]
 congr 1
 by_cases c:(1:Int) ∈ (wk ms (qs.map f) (ts.map up1)).map (·.2)
 . rw [if_pos c,if_pos (lv.mpr c)]
 . rw [if_neg c,if_neg fun h=>c (lv.mp h)]
end Mth
set_option maxHeartbeats 4000000
namespace Mth
theorem wB {K K':List Int} {t:Int} (h:∀ j:Int,1 <= j->j <= t->(j ∈ K' <-> j ∈ K)):cG K' t = cG K t:=by
 unfold cG
 congr 1
 apply List.filter_congr
 intro j mj
 by_cases c:j <= t
 . have:1 <= j:=by
    simp only [Zs,List.not_mem_nil,or_false] at mj
    omega
   simp only [h j this c]
 . rw [decide_eq_false c,Bool.and_false,Bool.and_false]
theorem u4 {q q':Int × Int} {d:Rat} (p:0 < q.2) (p':0 < q'.2) (e:vl q' = vl q + d) (h:vl (bp q) + d = 1):q'.1 / q'.2 = q.1 / q.2 + 1/\vl (bp q') = 0:=by
 have a:=mK p
 refine wm p' ?_ (by grind) (by grind)
 rw [e,a,Rat.intCast_add]
 grind
theorem lL {q q':Int × Int} {d:Rat} {m:Int} (l:Lw q) (p':0 < q'.2) (e:vl q' = vl q + d) (h:vl (bp q) + d <= 1) (nz:bp q ≠ (0,1)) (np:past m q = false):past m q' = false:=by
 have p:=l.pos
 have a:=mK p
 have f:=m9 p np
 have g:=(pE p).mp np
 have nz':vl (bp q) ≠ 0:=fun y=>nz ((iw l).mpr y)
 have b:=iK p
 have lt:q.1 / q.2 < m:=by
  rcases Int.lt_or_eq_of_le f with g' | g'
  . exact g'
  . rw [a,g'] at g
    exact absurd (show vl (bp q) = 0 by grind) nz'
 have:=(Rat.intCast_le_intCast (a:=q.1 / q.2 + 1) (b:=m)).mpr (by omega)
 rw [Rat.intCast_add] at this
 refine (pE p').mpr ?_
 rw [e,a]
 grind
def dn (L t:Int):Int:=if t = L then 0 else t
def stp (L:Int) (c:Int × Int):Int × Int:=if c.2 = L then (c.1 + 1,0) else c
theorem rZ {f:Int × Int->Int × Int} {d:Rat} {K K':List Int} {L:Int} (L0:0 < L):∀ (ms:List Int) (qs:List (Int × Int)) (ts:List Int),qs.length = ts.length->Add f d qs->(∀ z ∈ wk ms qs ts,bp z.1 ≠ (0,1))->(∀ z ∈ wk ms qs ts,if z.2 = L then vl (bp z.1) + d = 1 else vl (bp z.1) + d < 1)->(∀ z ∈ wk ms qs ts,(cG K z.2:Int) = z.2) ->
 (∀ z ∈ wk ms qs ts,z.2 ≠ L->(cG K' z.2:Int) = z.2)->ck K' ms (qs.map f) (ts.map (dn L)) = (ck K ms qs ts).map (stp L)
 | [],_,_,_,_,_,_,_,_=>by simp [ck]
 | _ :: _,[],_,_,_,_,_,_,_=>by simp [ck]
 | _ :: _,_ :: _,[],l,_,_,_,_,_=>by simp at l
 | m :: ms,q :: qs,t :: ts,l,A,nz,hk,own,c1=>by
  have unf:wk (m :: ms) (q :: qs) (t :: ts) = if past m q then wk ms qs ts else (q,t) :: wk ms qs ts:=rfl
  have inn:∀ z ∈ wk ms qs ts,z ∈ wk (m :: ms) (q :: qs) (t :: ts):=fun z h=>by
   rw [unf]
   split
   . exact h
   . exact Zp _ h
  have ih:=rZ (K:=K) (K':=K') L0 ms qs ts (by simpa using l) A.tail (fun z h=>nz z (inn z h)) (fun z h=>hk z (inn z h)) (fun z h=>own z (inn z h)) (fun z h=>c1 z (inn z h))
  show (if past m (f q) then (m + 1,0) else ((f q).1 / (f q).2,(cG K' (dn L t):Int))) :: ck K' ms (qs.map f) (ts.map (dn L)) = stp L (if past m q then (m + 1,0) else (q.1 / q.2,(cG K t:Int))) :: (ck K ms qs ts).map (stp L)
  rw [ih]
  congr 1
  by_cases p:past m q = true
  . rw [if_pos p,if_pos (A.past Zo p)]
    unfold stp
    rw [if_neg (by show ¬ (0:Int) = L;omega)]
  . have mz:(q,t) ∈ wk (m :: ms) (q :: qs) (t :: ts):=by
     rw [unf,if_neg p]
     exact Zo
    have pf:past m q = false:=by simpa using p
    have hk':=hk (q,t) mz
    have nz':=nz (q,t) mz
    have o':(cG K t:Int) = t:=own _ mz
    dsimp only at hk' nz'
    have lq:=A.lw q Zo
    have lq':=A.lw' q Zo
    have eq:=A.e q Zo
    have st:past m (f q) = false:=lL lq lq'.pos eq (by split at hk' <;> grind) nz' pf
    rw [if_neg p,if_neg (by rw [st];exact Bool.false_ne_true),o']
    unfold stp dn
    by_cases c:t = L
    . rw [if_pos c] at hk' ⊢
      rw [if_pos c,(u4 lq.pos lq'.pos eq hk').1,wC]
      rfl
    . rw [if_neg c] at hk' ⊢
      have S:=A.sml Zo hk'
      rw [if_neg c,S.at.1,show (cG K' t:Int) = t from c1 _ mz c]
theorem oJ {K:List Int}:∀ (ms:List Int) (qs:List (Int × Int)) (ts:List Int),∀ c ∈ ck K ms qs ts,c.2 = 0 \/ ∃ z ∈ wk ms qs ts,c.2 = (cG K z.2:Int)
 | [],_,_,c,h=>by simp [ck] at h
 | _ :: _,[],_,c,h=>by simp [ck] at h
 | _ :: _,_ :: _,[],c,h=>by simp [ck] at h
 | m :: ms,q :: qs,t :: ts,c,h=>by
  rcases Zs.mp (show c ∈ (if past m q then (m + 1,0) else (q.1 / q.2,(cG K t:Int))) :: ck K ms qs ts from h) with e | e
  . by_cases p:past m q = true
    . rw [if_pos p] at e
      exact .inl (by rw [e])
    . rw [if_neg p] at e
      refine .inr ⟨(q,t),?_,by rw [e]⟩
      show (q,t) ∈ (if past m q then wk ms qs ts else (q,t) :: wk ms qs ts)
      rw [if_neg p]
      exact Zo
  . rcases oJ ms qs ts c e with h | ⟨z,mz,h⟩
    . exact .inl h
    . refine .inr ⟨z,?_,h⟩
      show z ∈ (if past m q then wk ms qs ts else (q,t) :: wk ms qs ts)
      split
      . exact mz
      . exact Zp _ mz
theorem yr {ms:List Int} {qs:List (Int × Int)} {f:Int × Int->Int × Int} {d:Rat} {x:Int × Int} (hl:ms.length = qs.length) (t:∀ q ∈ qs,Tw q) (l4:qs.length <= 4) (A:Add f d qs) (tf:∀ q ∈ qs,Tw (f q)) (mx:x ∈ wi ms qs) (gr:∀ q ∈ wi ms qs,vl (bp q) <= vl (bp x)) (ed:d = 1 - vl (bp x)) (nz:∀ q ∈ wi ms qs,bp q ≠ (0,1)) :
 ∃ L,0 < L/\cel ms (qs.map f) = (cel ms qs).map (stp L)/\L ∈ (cel ms qs).map (·.2)/\∀ r ∈ (cel ms qs).map (·.2),r <= L:=by
 have N:=kn hl t l4
 obtain ⟨ts,hts⟩:∃ ts,ts = (cel ms qs).map (·.2):=⟨_,rfl⟩
 rw [<- hts] at N ⊢
 have fst:∀ z ∈ wk ms qs ts,z.1 ∈ wi ms qs:=fun z m=>by
  rw [<- gN ms qs ts N.len]
  exact Zq.mpr ⟨z,m,rfl⟩
 obtain ⟨zx,mzx,ex⟩:∃ z ∈ wk ms qs ts,z.1 = x:=by
  rw [<- gN ms qs ts N.len] at mx
  obtain ⟨z,mz,e⟩:=Zq.mp mx
  exact ⟨z,mz,e⟩
 have inq:∀ z ∈ wk ms qs ts,z.1 ∈ qs:=fun z m=>(kF ms qs ts m).1
 have lw:∀ z ∈ wk ms qs ts,Lw z.1:=fun z m=>A.lw z.1 (inq z m)
 have nz':∀ z ∈ wk ms qs ts,bp z.1 ≠ (0,1):=fun z m=>nz z.1 (fst z m)
 have pos:∀ z ∈ wk ms qs ts,0 < z.2:=fun z m=>by
  have a:=(N.W.rg z m).1
  have b:z.2 ≠ 0:=fun e=>nz' z m ((N.W.ze z m).mpr e)
  omega
 have leL:∀ z ∈ wk ms qs ts,z.2 <= zx.2:=fun z m=>(N.W.le z m zx mzx).mp ((m5 (lw z m).pos (lw zx mzx).pos).mpr (by rw [ex];exact gr z.1 (fst z m)))
 have cas:∀ z ∈ wk ms qs ts,if z.2 = zx.2 then vl (bp z.1) + d = 1 else vl (bp z.1) + d < 1:=fun z m=>by
  have a:=gr z.1 (fst z m)
  have o:=N.W.le zx mzx z m
  rw [m5 (lw zx mzx).pos (lw z m).pos,ex] at o
  split
  . rename_i c
    have:=o.mpr (by omega)
    grind
  . rename_i c
    have l:=leL z m
    have:¬ vl (bp x) <= vl (bp z.1):=fun h=>c (by have:=o.mp h;omega)
    grind
 have stay:∀ z ∈ wk ms qs ts,∀ m,past m z.1 = false->past m (f z.1) = false:=fun z mz m p =>
  lL (lw z mz) (A.lw' z.1 (inq z mz)).pos (A.e z.1 (inq z mz)) (by have:=cas z mz;split at this <;> grind) (nz' z mz) p
 have bpv:∀ z ∈ wk ms qs ts,vl (bp (f z.1)) = if z.2 = zx.2 then 0 else vl (bp z.1) + d:=fun z m=>by
  have c:=cas z m
  split at c
  . rename_i e
    rw [if_pos e]
    exact (u4 (lw z m).pos (A.lw' z.1 (inq z m)).pos (A.e z.1 (inq z m)) c).2
  . rename_i e
    rw [if_neg e]
    exact (A.sml (inq z m) c).at.2
 have d0:=A.d0
 have W':Wp (wk ms (qs.map f) (ts.map (dn zx.2))):=by
  refine ⟨fun z' m'=>?_,fun z' m'=>?_,fun z' m'=>?_,fun y' my' z' mz'=>?_⟩
  . obtain ⟨z,m,rfl⟩:=fW ms qs ts A z' m'
    exact tf z.1 (inq z m)
  . obtain ⟨z,m,rfl⟩:=fW ms qs ts A z' m'
    have a:=N.W.rg z m
    show 0 <= dn zx.2 z.2/\dn zx.2 z.2 <= 4
    unfold dn
    split
    . decide
    . exact a
  . obtain ⟨z,m,rfl⟩:=fW ms qs ts A z' m'
    have a:=pos z m
    have b:=iK (lw z m).pos
    show bp (f z.1) = (0,1) <-> dn zx.2 z.2 = 0
    rw [iw (A.lw' z.1 (inq z m)),bpv z m]
    unfold dn
    split
    . simp
    . constructor
      . intro e;grind
      . intro e;omega
  . obtain ⟨y,my,rfl⟩:=fW ms qs ts A y' my'
    obtain ⟨z,mz,rfl⟩:=fW ms qs ts A z' mz'
    show (bp (f y.1)).1 * (bp (f z.1)).2 <= (bp (f z.1)).1 * (bp (f y.1)).2 <-> dn zx.2 y.2 <= dn zx.2 z.2
    rw [m5 (A.lw' y.1 (inq y my)).pos (A.lw' z.1 (inq z mz)).pos,bpv y my,bpv z mz]
    have o:=N.W.le y my z mz
    rw [m5 (lw y my).pos (lw z mz).pos] at o
    have a:=pos y my
    have b:=pos z mz
    have p:=iK (lw y my).pos
    have q:=iK (lw z mz).pos
    unfold dn
    by_cases c1:y.2 = zx.2 <;> by_cases c2:z.2 = zx.2
    . rw [if_pos c1,if_pos c2,if_pos c1,if_pos c2];simp
    . rw [if_pos c1,if_neg c2,if_pos c1,if_neg c2]
      exact ⟨fun _=>by omega,fun _=>by grind⟩
    . rw [if_neg c1,if_pos c2,if_neg c1,if_pos c2]
      exact ⟨fun h=>by grind,fun h=>by omega⟩
    . rw [if_neg c1,if_neg c2,if_neg c1,if_neg c2]
      exact ⟨fun h=>o.mp (by grind),fun h=>by have:=o.mpr h;grind⟩
 have len':(qs.map f).length = (ts.map (dn zx.2)).length:=by rw [Zl,Zl];exact N.len
 refine ⟨zx.2,pos zx mzx,?_,(kF ms qs ts mzx).2,fun r mr=>?_⟩
 . rw [lX len' W',N.is]
   refine rZ (d:=d) (pos zx mzx) ms qs ts N.len A nz' cas (fun z m=>N.own z m) fun z m n=>?_
   rw [wB (K:=(wk ms qs ts).map (·.2)) fun j j1 jt=>?_]
   . exact N.own z m
   . have l:=leL z m
     constructor
     . intro h
       obtain ⟨z',m',e⟩:=Zq.mp h
       obtain ⟨y,my,rfl⟩:=fW ms qs ts A z' m'
       have e':dn zx.2 y.2 = j:=e
       unfold dn at e'
       split at e'
       . omega
       . exact Zq.mpr ⟨y,my,e'⟩
     . intro h
       obtain ⟨y,my,e⟩:=Zq.mp h
       have e':y.2 = j:=e
       refine Zq.mpr ⟨_,qq (g:=dn zx.2) ms qs ts A y my (stay y my),?_⟩
       show dn zx.2 y.2 = j
       unfold dn
       rw [if_neg (by omega)]
       exact e'
 . rw [hts] at mr
   obtain ⟨c,mc,rfl⟩:=Zq.mp mr
   rw [N.is] at mc
   have p0:=pos zx mzx
   rcases oJ ms qs ts c mc with e | ⟨z,mz,e⟩
   . rw [e];omega
   . rw [e,N.own z mz]
     exact leL z mz
end Mth
set_option maxHeartbeats 4000000
namespace Mth
def eV (rs:List Int):Int:=((mn (0 :: rs)).getLast?).getD 0
theorem pM {rs:List Int} {L:Int} (l0:0 <= L) (l4:L <= 4) (h:L = 0 \/ L ∈ rs) (k:∀ r ∈ rs,r <= L):eV rs = L:=by
 unfold eV
 rw [oU,wo]
 have n:∀ j:Int,L < j->¬ j ∈ rs:=fun j lj m=>by have:=k j m;omega
 have c:L = 0 \/ L = 1 \/ L = 2 \/ L = 3 \/ L = 4:=by omega
 rcases c with rfl | rfl | rfl | rfl | rfl
 . simp [n 1 (by decide),n 2 (by decide),n 3 (by decide),n 4 (by decide)]
 . have:(1:Int) ∈ rs:=h.resolve_left (by decide)
   simp [this,n 2 (by decide),n 3 (by decide),n 4 (by decide)]
 . have:(2:Int) ∈ rs:=h.resolve_left (by decide)
   by_cases a1:(1:Int) ∈ rs <;> simp [this,a1,n 3 (by decide),n 4 (by decide)]
 . have:(3:Int) ∈ rs:=h.resolve_left (by decide)
   by_cases a1:(1:Int) ∈ rs <;> by_cases a2:(2:Int) ∈ rs <;> simp [this,a1,a2,n 4 (by decide)]
 . have:(4:Int) ∈ rs:=h.resolve_left (by decide)
   by_cases a1:(1:Int) ∈ rs <;> by_cases a2:(2:Int) ∈ rs <;> by_cases a3:(3:Int) ∈ rs <;> simp [this,a1,a2,a3]
def nxt (ms:List Int) (cs:List (Int × Int)):Option (List (Int × Int)):=if mom ms cs then some (bmo ms cs) else if eV (cs.map (·.2)) = 0 then none else some (cs.map (stp (eV (cs.map (·.2)))))
def mot (ms:List Int) (qs:List (Int × Int)):Bool:=(wi ms qs).any fun q=>decide (q.2 = 1)
def nwt (ms:List Int) (qs:List (Int × Int)):Option (Int × Int):=match wi ms qs with
 | []=>none
 | q :: r=>some (if mot ms qs then rd (lsF (co q) ((q :: r).map co)).1 (2 * (lsF (co q) ((q :: r).map co)).2) else lsF (co q) ((q :: r).map co))
structure Wt (ms:List Int) (qs:List (Int × Int)) (w x:Int × Int):Prop where
 lw:Lw w
 mx:x ∈ wi ms qs
 gr:∀ q ∈ wi ms qs,vl (bp q) <= vl (bp x)
 e:vl w = if mot ms qs then (1 - vl (bp x)) * (1 / 2) else 1 - vl (bp x)
theorem pD {ms:List Int} {qs:List (Int × Int)} {w:Int × Int} (l:∀ q ∈ qs,Lw q) (h:nwt ms qs = some w):∃ x,Wt ms qs w x:=by
 unfold nwt at h
 have lw:∀ q ∈ wi ms qs,Lw q:=fun q m=>l q (cM ms qs m)
 split at h
 . cases h
 . rename_i q r e
   have lw':∀ y ∈ q :: r,Lw y:=fun y m=>lw y (by rw [e];exact m)
   obtain ⟨x,mx,ex,gr⟩:=lJ lw'
   rw [ex] at h
   have cx:=wz (lw' x mx)
   refine ⟨x,?_⟩
   have mx':x ∈ wi ms qs:=by rw [e];exact mx
   have gr':∀ y ∈ wi ms qs,vl (bp y) <= vl (bp x):=fun y m=>gr y (by rw [<- e];exact m)
   by_cases c:mot ms qs = true
   . rw [if_pos c] at h
     cases h
     have p2:0 < 2 * (co x).2:=by have:=cx.pos;omega
     refine ⟨gd p2,mx',gr',?_⟩
     rw [if_pos c,iY p2,<- rW (lw' x mx).pos]
     unfold vl
     have h2:(1 / 2:Rat) = Rat.divInt 1 2:=by
      rw [Rat.divInt_eq_div]
      rfl
     rw [h2,Rat.divInt_mul_divInt,Int.mul_one,Int.mul_comm 2]
   . rw [if_neg c] at h
     cases h
     exact ⟨cx,mx',gr',by rw [if_neg c,rW (lw' x mx).pos]⟩
theorem nwt_none {ms:List Int} {qs:List (Int × Int)}:nwt ms qs = none <-> wi ms qs = []:=by
 unfold nwt
 split
 . rename_i e;simp [e]
 . rename_i e;simp [e]
theorem Wt.pos {ms:List Int} {qs:List (Int × Int)} {w x:Int × Int} (l:∀ q ∈ qs,Lw q) (h:Wt ms qs w x):0 < vl w/\vl w <= 1:=by
 have p:=(l x (cM ms qs h.mx)).pos
 have a:=t5 p
 have b:=iK p
 have e:=h.e
 split at e <;> grind
theorem Wt.add {ms:List Int} {qs:List (Int × Int)} {w x:Int × Int} (l:∀ q ∈ qs,Lw q) (nn:∀ q ∈ qs,0 <= q.1) (h:Wt ms qs w x):Add (fun q=>pl q w) (vl w) qs :=
 ⟨l,nn,fun q m=>gd (Int.mul_pos (l q m).pos h.lw.pos),fun q m=>jL (l q m).pos h.lw.pos,(h.pos l).1⟩
theorem oa {ms:List Int} {qs:List (Int × Int)} (l:∀ q ∈ qs,Lw q):mot ms qs = true <-> ∃ q ∈ wi ms qs,bp q = (0,1):=by
 unfold mot
 rw [List.any_eq_true]
 constructor
 . rintro ⟨q,m,e⟩
   exact ⟨q,m,(iW (l q (cM ms qs m))).mpr (of_decide_eq_true e)⟩
 . rintro ⟨q,m,e⟩
   exact ⟨q,m,decide_eq_true ((iW (l q (cM ms qs m))).mp e)⟩
theorem z6 {ms:List Int} {qs:List (Int × Int)} (t:∀ q ∈ qs,Tw q) (l4:qs.length <= 4) (hl:ms.length = qs.length):∀ r ∈ (cel ms qs).map (·.2),0 <= r/\r <= 4/\(wi ms qs = []->r = 0):=fun r mr=>by
 have N:=kn hl t l4
 obtain ⟨c,mc,rfl⟩:=Zq.mp mr
 have is:=N.is
 rw [is] at mc
 rcases oJ ms qs _ c mc with e | ⟨z,mz,e⟩
 . rw [e];exact ⟨by decide,by decide,fun _=>rfl⟩
 . rw [e,N.own z mz]
   have g:=N.W.rg z mz
   refine ⟨g.1,g.2,fun w=>?_⟩
   have:z.1 ∈ wi ms qs:=by
    rw [<- gN ms qs _ N.len]
    exact Zq.mpr ⟨z,mz,rfl⟩
   rw [w] at this
   cases this
theorem zF {ms:List Int} {qs:List (Int × Int)} (hl:ms.length = qs.length) (t:∀ q ∈ qs,Tw q) (l4:qs.length <= 4) (tf:∀ w,nwt ms qs = some w->∀ q ∈ qs,Tw (pl q w)):nxt ms (cel ms qs) = (nwt ms qs).map fun w=>cel ms (qs.map fun q=>pl q w):=by
 have lw:∀ q ∈ qs,Lw q:=fun q m=>(t q m).lw
 have mc:mom ms (cel ms qs) = mot ms qs:=sS t
 have rk:=z6 t l4 hl
 cases e:nwt ms qs with
 | none =>
  have w0:=nwt_none.mp e
  have m0:mot ms qs = false:=by unfold mot;rw [w0];rfl
  unfold nxt
  rw [mc,m0,if_neg Bool.false_ne_true,if_pos (pM (by decide) (by decide) (.inl rfl) fun r mr=>by rw [(rk r mr).2.2 w0];decide)]
  rfl
 | some w =>
  obtain ⟨x,X⟩:=pD lw e
  have A:=X.add lw fun q m=>(t q m).nn
  have tf':=tf w e
  have px:=(lw x (cM ms qs X.mx)).pos
  have b1:=t5 px
  unfold nxt
  rw [mc]
  cases m:mot ms qs with
  | true =>
   rw [if_pos rfl]
   have ew:=X.e
   rw [m,if_pos rfl] at ew
   show some _ = some (cel ms (qs.map fun q=>pl q w))
   rw [z8 hl t l4 A tf' (fun q mq=>by have:=X.gr q mq;grind) ((oa lw).mp m)]
  | false =>
   rw [if_neg Bool.false_ne_true]
   have ew:=X.e
   rw [m,if_neg Bool.false_ne_true] at ew
   obtain ⟨L,l0,ec,lm,lx⟩:=yr hl t l4 A tf' X.mx X.gr ew fun q mq z=>by
    have:=(oa lw).mpr ⟨q,mq,z⟩
    rw [m] at this
    cases this
   have el:eV ((cel ms qs).map (·.2)) = L:=pM (by omega) (rk L lm).2.1 (.inr lm) lx
   rw [el,if_neg (by omega)]
   show some _ = some (cel ms (qs.map fun q=>pl q w))
   rw [ec]
theorem oI {p:Int × Int} {a b:Int} (h:Lw p) (hb:0 < b) (e:vl p = Rat.divInt a b):p.2 <= b:=by
 have q:=iY (t:=a) hb
 have:p = rd a b:=kH h (gd hb) (by rw [e,q])
 rw [this]
 have g:=eC (t:=a) hb
 exact Int.ediv_le_self _ (by omega)
structure Wn (ms:List Int) (qs0 qs:List (Int × Int)) (k:Nat) (W:Int × Int):Prop where
 lw:Lw W
 nn:0 <= vl W
 le:vl W <= ((k:Int):Rat)
 is:qs = qs0.map fun q=>pl q W
 b:W.2 <= 2 * 10 ^ 80
 m:mot ms qs = true->W.2 <= 10 ^ 40
theorem xS {q:Int × Int} (h:0 < q.2):0 <= vl q <-> 0 <= q.1:=by
 have:=uW (p:=(0,1)) (q:=q) (by decide) h
 rw [d8] at this
 constructor
 . intro e
   have:=this.mp (by simpa using e)
   dsimp only at this
   omega
 . intro e
   have:=this.mpr (by dsimp only;omega)
   simpa using this
theorem plw {p q:Int × Int} (hp:0 < p.2) (hq:0 < q.2):Lw (pl p q):=gd (Int.mul_pos hp hq)
theorem vz {p q:Int × Int} (hp:0 < p.2) (hq:0 < q.2):(pl p q).2 <= p.2 * q.2:=by
 refine oI (plw hp hq) (Int.mul_pos hp hq) (a:=p.1 * q.2 + q.1 * p.2) ?_
 unfold pl
 exact iY (Int.mul_pos hp hq)
theorem Wn.tw {ms:List Int} {qs0 qs:List (Int × Int)} {k:Nat} {W:Int × Int} (h:Wn ms qs0 qs k W) (k10:k <= 10) (t0:∀ q ∈ qs0,Tm q):∀ q ∈ qs,Tw q:=fun q mq=>by
 rw [h.is] at mq
 obtain ⟨p,mp,rfl⟩:=Zq.mp mq
 have tp:=t0 p mp
 have p0:=tp.lw.pos
 have W0:=h.lw.pos
 have L:=plw p0 W0
 have e:=jL p0 W0
 have a:=(xS p0).mpr tp.nn
 have b:=h.nn
 have c:=h.le
 have d:vl p < 62:=by
  have:=(mJ (p:=p) (q:=(62,1)) p0 (by decide)).mpr (by have:=tp.up;dsimp only;omega)
  rw [d8] at this
  simpa using this
 have kr:((k:Int):Rat) <= ((10:Int):Rat):=(Rat.intCast_le_intCast (a:=(k:Int)) (b:=10)).mpr (by omega)
 have k10':((10:Int):Rat) = 10:=rfl
 refine ⟨L,(xS L.pos).mp (by grind),?_,?_⟩
 . have:=(mJ (p:=pl p W) (q:=(100,1)) L.pos (by decide)).mp (by
    rw [d8]
    have:((100:Int):Rat) = 100:=rfl
    grind)
   dsimp only at this
   omega
 . have g:=vz p0 W0
   have l1:=tp.le
   have l2:=h.b
   have:p.2 * W.2 <= 10 ^ 40 * (2 * 10 ^ 80):=Int.mul_le_mul l1 l2 (by omega) (by decide)
   have n:(10:Int) ^ 40 * (2 * 10 ^ 80) <= 10 ^ 130:=by decide
   omega
theorem Wn.start {ms:List Int} {qs:List (Int × Int)} (t:∀ q ∈ qs,Tm q):Wn ms qs qs 0 (0,1):=by
 refine ⟨⟨by decide,by decide⟩,by rw [d8];decide,by rw [d8];decide,?_,by decide,fun _=>by decide⟩
 have:∀ q ∈ qs,pl q (0,1) = q:=fun q m=>by
  unfold pl
  show rd (q.1 * 1 + 0 * q.2) (q.2 * 1) = q
  rw [Int.mul_one,Int.zero_mul,Int.add_zero,Int.mul_one]
  exact gb (t q m).lw
 exact (List.map_congr_left this |>.trans (List.map_id' qs)).symm
theorem xR {f:Int × Int->Int × Int} {d:Rat}:∀ (ms:List Int) (qs:List (Int × Int)),Add f d qs->∀ z ∈ wi ms (qs.map f),∃ y ∈ wi ms qs,z = f y
 | [],_,_,z,h=>by simp [wi] at h
 | _ :: _,[],_,z,h=>by simp [wi] at h
 | m :: ms,q :: qs,A,z,h=>by
  have h':z ∈ (if past m (f q) then wi ms (qs.map f) else f q :: wi ms (qs.map f)):=h
  show ∃ y ∈ (if past m q then wi ms qs else q :: wi ms qs),z = f y
  have tail:z ∈ wi ms (qs.map f)->∃ y ∈ (if past m q then wi ms qs else q :: wi ms qs),z = f y:=fun k=>by
   obtain ⟨y,my,e⟩:=xR ms qs A.tail z k
   refine ⟨y,?_,e⟩
   split
   . exact my
   . exact Zp _ my
  split at h'
  . exact tail h'
  . rename_i np
    rcases Zs.mp h' with e | e
    . have:¬ past m q = true:=fun p=>np (A.past Zo p)
      rw [if_neg this]
      exact ⟨q,Zo,e⟩
    . exact tail e
theorem Wn.step {ms:List Int} {qs0 qs:List (Int × Int)} {k:Nat} {W w:Int × Int} (h:Wn ms qs0 qs k W) (t0:∀ q ∈ qs0,Tm q) (t:∀ q ∈ qs,Tw q) (e:nwt ms qs = some w):Wn ms qs0 (qs.map fun q=>pl q w) (k + 1) (pl W w):=by
 have lw:∀ q ∈ qs,Lw q:=fun q m=>(t q m).lw
 obtain ⟨x,X⟩:=pD lw e
 have W0:=h.lw.pos
 have w0:=X.lw.pos
 have ew:=jL W0 w0
 obtain ⟨d0,d1⟩:=X.pos lw
 have kc:(((k + 1:Nat):Int):Rat) = ((k:Int):Rat) + 1:=Rat.intCast_add (k:Int) 1
 have L:=plw W0 w0
 obtain ⟨x0,m0,ex⟩:∃ x0 ∈ qs0,pl x0 W = x:=by
  have:=cM ms qs X.mx
  rw [h.is] at this
  obtain ⟨x0,m0,ex⟩:=Zq.mp this
  exact ⟨x0,m0,ex⟩
 have tx:=t0 x0 m0
 have x00:=tx.lw.pos
 have vx:=jL x00 W0
 rw [ex] at vx
 have lx:=lw x (cM ms qs X.mx)
 have fx:=mK lx.pos
 have sml:mot ms qs = false->(pl W w).2 <= x0.2:=fun mt=>by
  have E:=X.e
  rw [mt,if_neg Bool.false_ne_true] at E
  have:pl W w = mi (1 + x.1 / x.2,1) x0:=kH L (gd (Int.mul_pos (show (0:Int) < 1 by decide) x00)) (by
   rw [ew,xT (show (0:Int) < 1 by decide) x00,d8,Rat.intCast_add]
   have o:((1:Int):Rat) = 1:=rfl
   grind)
  rw [this]
  have:=oI (p:=mi (1 + x.1 / x.2,1) x0) (gd (Int.mul_pos (show (0:Int) < 1 by decide) x00)) (Int.mul_pos (show (0:Int) < 1 by decide) x00) (iY (Int.mul_pos (show (0:Int) < 1 by decide) x00))
  rw [Int.one_mul] at this
  exact this
 have big:mot ms qs = true->(pl W w).2 <= 2 * (W.2 * x0.2):=fun mt=>by
  have E:=X.e
  rw [mt,if_pos rfl] at E
  have o2:(0:Int) < ((1,2):Int × Int).2:=by decide
  have p1:=plw (q:=(1 + x.1 / x.2,1)) W0 (show (0:Int) < 1 by decide)
  have p2:Lw (mi (pl W (1 + x.1 / x.2,1)) x0):=gd (Int.mul_pos p1.pos x00)
  have p3:Lw (ti (mi (pl W (1 + x.1 / x.2,1)) x0) (1,2)):=gd (Int.mul_pos p2.pos o2)
  have hf:vl (1,2) = 1 / 2:=by
   unfold vl
   rw [Rat.divInt_eq_div]
   rfl
  have:pl W w = ti (mi (pl W (1 + x.1 / x.2,1)) x0) (1,2):=kH L p3 (by
   rw [ew,An p2.pos o2,xT p1.pos x00,jL W0 (show (0:Int) < 1 by decide),d8,Rat.intCast_add,hf]
   have o:((1:Int):Rat) = 1:=rfl
   grind)
  rw [this]
  have d1:=vz (p:=W) (q:=(1 + x.1 / x.2,1)) W0 (show (0:Int) < 1 by decide)
  have d2:=oI p2 (Int.mul_pos p1.pos x00) (iY (Int.mul_pos p1.pos x00))
  have d3:=oI p3 (Int.mul_pos p2.pos o2) (iY (Int.mul_pos p2.pos o2))
  dsimp only at d1 d3
  have:=Int.mul_le_mul_of_nonneg_right d1 (show 0 <= x0.2 by omega)
  rw [Int.mul_one] at this
  omega
 refine ⟨L,by have:=h.nn;grind,by have:=h.le;grind,?_,?_,fun mt=>?_⟩
 . rw [h.is,List.map_map]
   refine List.map_congr_left fun q m=>?_
   have q0:=(t0 q m).lw.pos
   show pl (pl q W) w = pl q (pl W w)
   refine kH (plw (plw q0 W0).pos w0) (plw q0 L.pos) ?_
   rw [jL (plw q0 W0).pos w0,jL q0 W0,jL q0 L.pos,ew]
   grind
 . cases mt:mot ms qs with
   | true =>
    have g:=big mt
    have:=Int.mul_le_mul (h.m mt) tx.le (by omega) (by decide)
    have n:(10:Int) ^ 40 * 10 ^ 40 = 10 ^ 80:=by decide
    omega
   | false =>
    have:=sml mt
    have:=tx.le
    omega
 . cases mt':mot ms qs with
   | false =>
    have:=sml mt'
    have:=tx.le
    omega
   | true =>
    have A:=X.add lw fun q m=>(t q m).nn
    have E:=X.e
    rw [mt',if_pos rfl] at E
    have b1:=t5 lx.pos
    have lw2:∀ q ∈ qs.map (fun q=>pl q w),Lw q:=fun q m=>by
     obtain ⟨p,mp,rfl⟩:=Zq.mp m
     exact A.lw' p mp
    obtain ⟨q',mq',z⟩:=(oa lw2).mp mt
    obtain ⟨p,mp,ep⟩:=xR ms qs A q' mq'
    have S:=A.sml (cM ms qs mp) (by have:=X.gr p mp;grind)
    have:=(iw S.lw').mp (by rw [<- ep];exact z)
    rw [S.at.2] at this
    have:=iK S.lw.pos
    have:=S.d0
    grind
end Mth
namespace Dl
open PySem PySem.Spec PyProof.Rows L2
structure BV (P:Program) (w:World) (H H':Hp) (s:Shared) (l:List Env) (B:Heap) (s':Shared):Prop where
 os:s'.os = s.os
 bare:AllBare s'.gens
 un:Un (frs l) [] H H' s.heap s'.heap
 hok:HOk P w H' B
 keepB:∀ b o,s.heap.get? b = some o->H b = none->b ∉ frs l->B.get? b = some o
 thereB:∀ b o,s.heap.get? b = some o->b ∉ frs l->∃ o',B.get? b = some o'
def BU (P:Program) (w:World) (H H':Hp) (s:Shared) (l:List Env) (x C:Addr) (s':Shared):Prop :=
 ∃ (B:Heap) (t:Addr),BV P w H H' s l B s'/\Heap.FlyingW B l x (.ref C) (.ref t) s'.heap
section
variable {P:Program} {w:World} {H H':Hp} {s s':Shared} {l:List Env} {B:Heap} {h':Heap}
end
def yj (X:Cx) (C:Addr) (σ:L2.St) (H:Hp):Prop:=∀ (pins:List (Addr × Obj)) (s:Shared) (h':Heap) (e:Addr) (vs:List Value),L2.Inv X pins σ H s->Heap.MadeExcOf s.heap h' e (.ref C) vs->X.xe (.ref e) { s with heap:=h' }
def Bi (X:Cx) (C:Addr) (σ:L2.St) (H:Hp):Prop:=∀ (pins:List (Addr × Obj)) (H₀:Hp) (s:Shared) (x:Addr) (s':Shared),L2.Inv X pins σ H₀ s->BU X.prog X.w H₀ H s X.stack x C s'->X.xe (.ref x) s'
section
variable {P:Program} {w:World} {K:PySem.W.Frag} {mg:Str->Option Value} {base:Heap} {N:List Str} {qual:Str} {scope:Scope} {f:Addr} {cd:Value} {A:Around} {outer:List Env} {s:Shared} {H:Hp} {E:XK}
end
end Dl
namespace Dl
open PySem PySem.Spec PyProof.Rows L2
inductive D where
 | non
 | bl (b:Bool)
 | int (i:Int)
 | str (x:Str)
 | tup (ds:List D)
 | lst (ds:List D)
 | seq (ds:List D)
 | ty (n:String)
 | dct
 | exc (C:Addr)
 | cls (C:Addr)
 | ms (ks:List Int) (ds:List D)
 | mf (ks:List Int) (ds:List D)
 | md (ks:List Int) (ds:List D)
def BX (a:Addr):HO:=.ext fun h=>∃ o,h.get? a = some o/\o.cls = .type "dict"
def BW (a C:Addr):HO:=.ext fun h=>∃ o vs,h.get? a = some o/\o.cls = .ref C/\o.data = .fields vs
mutual
inductive Rep (K:PySem.W.Frag) (H:Hp):V->D->Prop
 | non:Rep K H .non .non
 | bl (b:Bool):Rep K H (.bl b) (.bl b)
 | int (i:Int):Rep K H (.int i) (.int i)
 | str (x:Str):Rep K H (.str x) (.str x)
 | ty (n:String):Rep K H (.ty n) (.ty n)
 | tup {a:Addr} {vs:List V} {ds:List D} (h:SqT K H a vs) (r:Reps K H vs ds):Rep K H (.ref a) (.tup ds)
 | lst {a:Addr} {vs:List V} {ds:List D} (h:H a = some (.lst vs)) (r:Reps K H vs ds):Rep K H (.ref a) (.lst ds)
 | seq {a:Addr} {vs:List V} {ds:List D} (h:SqL K H a vs) (r:Reps K H vs ds):Rep K H (.ref a) (.seq ds)
 | dct {a:Addr} (h:H a = some (BX a)):Rep K H (.ref a) .dct
 | exc {a C:Addr} (h:H a = some (BW a C)):Rep K H (.ref a) (.exc C)
 | cls (C:Addr):Rep K H (.ref C) (.cls C)
 | ms {a:Addr} {ks:List Int} {vs:List V} {ds:List D} (h:Rd H a (.dK ((ks.map Sum.inl).zip vs))) (l:ks.length = ds.length) (r:Reps K H vs ds):Rep K H (.ref a) (.ms ks ds)
 | mf {a:Addr} {ks:List Int} {vs:List V} {ds:List D} (h:∃ o,H a = some (.frz o (.dK ((ks.map Sum.inl).zip vs)))) (l:ks.length = ds.length) (r:Reps K H vs ds):Rep K H (.ref a) (.mf ks ds)
 | md {a:Addr} {ks:List Int} {vs:List V} {ds:List D} (h:H a = some (.dK ((ks.map Sum.inl).zip vs))) (l:ks.length = ds.length) (r:Reps K H vs ds):Rep K H (.ref a) (.md ks ds)
inductive Reps (K:PySem.W.Frag) (H:Hp):List V->List D->Prop
 | nil:Reps K H [] []
 | cons {v:V} {d:D} {vs:List V} {ds:List D} (r:Rep K H v d) (t:Reps K H vs ds):Reps K H (v :: vs) (d :: ds)
end
theorem oV {K:PySem.W.Frag} {H H':Hp} {a:Addr} {xs:List V} (e:Same H H') (h:SqT K H a xs):SqT K H' a xs:=by
 rcases h with (h | ⟨o,h⟩) | h
 . exact .inl (.inl (e _ _ h))
 . exact .inl (.inr ⟨o,e _ _ h⟩)
 . exact .inr h
mutual
theorem Rep.mono {K:PySem.W.Frag} {H H':Hp} (e:Same H H'):∀ {v:V} {d:D},Rep K H v d->Rep K H' v d
 | _,_,.non=>.non
 | _,_,.bl b=>.bl b
 | _,_,.int i=>.int i
 | _,_,.str x=>.str x
 | _,_,.ty n=>.ty n
 | _,_,.tup h r=>.tup (oV e h) (Reps.mono e r)
 | _,_,.lst h r=>.lst (e _ _ h) (Reps.mono e r)
 | _,_,.seq h r=>.seq (e.seq h) (Reps.mono e r)
 | _,_,.dct h=>.dct (e _ _ h)
 | _,_,.exc h=>.exc (e _ _ h)
 | _,_,.cls C=>.cls C
 | _,_,.ms h l r=>.ms (h.imp (e _ _) fun ⟨o,h⟩=>⟨o,e _ _ h⟩) l (Reps.mono e r)
 | _,_,.mf ⟨o,h⟩ l r=>.mf ⟨o,e _ _ h⟩ l (Reps.mono e r)
 | _,_,.md h l r=>.md (e _ _ h) l (Reps.mono e r)
theorem Reps.mono {K:PySem.W.Frag} {H H':Hp} (e:Same H H'):∀ {vs:List V} {ds:List D},Reps K H vs ds->Reps K H' vs ds
 | _,_,.nil=>.nil
 | _,_,.cons r t=>.cons (Rep.mono e r) (Reps.mono e t)
end
theorem Reps.length {K:PySem.W.Frag} {H:Hp}:∀ {vs:List V} {ds:List D},Reps K H vs ds->vs.length = ds.length
 | _,_,.nil=>rfl
 | _,_,.cons _ t=>congrArg (· + 1) (Reps.length t)
theorem Reps.get {K:PySem.W.Frag} {H:Hp}:∀ {vs:List V} {ds:List D} {i:Nat} {d:D},Reps K H vs ds->ds[i]? = some d->∃ v,vs[i]? = some v/\Rep K H v d
 | _,_,_,_,.nil,e=>by simp at e
 | _,_,0,_,.cons r _,e=>by simp at e;subst e;exact ⟨_,rfl,r⟩
 | _,_,i + 1,d,.cons _ t,e=>by
  obtain ⟨v,h1,h2⟩:=Reps.get (i:=i) (d:=d) t (by simpa using e)
  exact ⟨v,by simpa using h1,h2⟩
theorem Reps.getV {K:PySem.W.Frag} {H:Hp}:∀ {vs:List V} {ds:List D} {i:Nat} {v:V},Reps K H vs ds->vs[i]? = some v->∃ d,ds[i]? = some d/\Rep K H v d
 | _,_,_,_,.nil,e=>by simp at e
 | _,_,0,_,.cons r _,e=>by simp at e;subst e;exact ⟨_,rfl,r⟩
 | _,_,i + 1,d,.cons _ t,e=>by
  obtain ⟨v,h1,h2⟩:=Reps.getV (i:=i) (v:=d) t (by simpa using e)
  exact ⟨v,by simpa using h1,h2⟩
theorem Reps.append {K:PySem.W.Frag} {H:Hp}:∀ {vs us:List V} {ds es:List D},Reps K H vs ds->Reps K H us es->Reps K H (vs ++ us) (ds ++ es)
 | _,_,_,_,.nil,s=>s
 | _,_,_,_,.cons r t,s=>.cons r (Reps.append t s)
theorem Reps.take {K:PySem.W.Frag} {H:Hp}:∀ {vs:List V} {ds:List D} (n:Nat),Reps K H vs ds->Reps K H (vs.take n) (ds.take n)
 | _,_,0,_=>.nil
 | _,_,_ + 1,.nil=>.nil
 | _,_,n + 1,.cons r t=>.cons r (Reps.take n t)
theorem Reps.drop {K:PySem.W.Frag} {H:Hp}:∀ {vs:List V} {ds:List D} (n:Nat),Reps K H vs ds->Reps K H (vs.drop n) (ds.drop n)
 | _,_,0,r=>r
 | _,_,_ + 1,.nil=>.nil
 | _,_,n + 1,.cons _ t=>Reps.drop n t
theorem Reps.ints {K:PySem.W.Frag} {H:Hp}:∀ (ns:List Int),Reps K H (ns.map V.int) (ns.map D.int)
 | []=>.nil
 | n :: r=>.cons (.int n) (Reps.ints r)
theorem Reps.atI {K:PySem.W.Frag} {H:Hp} {vs:List V} {ds:List D} {i:Int} {d:D} (r:Reps K H vs ds) (e:L2.atI ds i = some d):∃ v,L2.atI vs i = some v/\Rep K H v d:=by
 unfold L2.atI at e ⊢
 rw [<- r.length] at e
 obtain ⟨j,h1,h2⟩:=Za.mp e
 obtain ⟨v,h3,h4⟩:=r.get h2
 exact ⟨v,by rw [h1];exact h3,h4⟩
abbrev DS:=List (Option D)
structure RepS (K:PySem.W.Frag) (H:Hp) (σ:L2.St) (δ:DS):Prop where
 len:σ.length = δ.length
 val:∀ (i:Nat) (d:D),δ[i]? = some (some d)->∃ v,σ[i]? = some (some v)/\Rep K H v d
theorem RepS.mono {K:PySem.W.Frag} {H H':Hp} {σ:L2.St} {δ:DS} (e:Same H H') (h:RepS K H σ δ):RepS K H' σ δ :=
 ⟨h.len,fun i d q=>let ⟨v,a,b⟩:=h.val i d q;⟨v,a,b.mono e⟩⟩
theorem RepS.set {K:PySem.W.Frag} {H:Hp} {σ:L2.St} {δ:DS} {v:V} {d:D} (h:RepS K H σ δ) (i:Nat) (r:Rep K H v d):RepS K H (σ.set i (some v)) (δ.set i (some d)):=by
 refine ⟨by rw [List.length_set,List.length_set];exact h.len,fun j e q=>?_⟩
 have hl:=h.len
 rw [List.getElem?_set] at q ⊢
 by_cases hj:i = j
 . subst hj
   rw [if_pos rfl] at q ⊢
   by_cases hi:i < δ.length
   . rw [if_pos hi] at q
     rw [if_pos (by omega)]
     have:d = e:=by simpa using q
     subst this
     exact ⟨v,rfl,r⟩
   . rw [if_neg hi] at q;cases q
 . rw [if_neg hj] at q ⊢
   exact h.val j e q
theorem RepS.start {K:PySem.W.Frag} {H:Hp} {N:List Str} {vs:List V} {ds:List D} (r:Reps K H vs ds):RepS K H (L2.start N vs) (ds.map some ++ List.replicate (N.length - ds.length) none):=by
 unfold L2.start
 refine ⟨by simp [r.length],fun i d q=>?_⟩
 have hi:i < ds.length:=by
  by_cases hi:i < ds.length
  . exact hi
  . rw [List.getElem?_append_right (by simpa using hi),List.getElem?_replicate] at q
    split at q <;> cases q
 rw [List.getElem?_append_left (by simpa using hi),List.getElem?_map] at q
 obtain ⟨e,h1,h2⟩:=Zb.mp q
 cases h2
 obtain ⟨v,h3,h4⟩:=r.get h1
 have hv:i < vs.length:=by rw [r.length];exact hi
 exact ⟨v,by rw [List.getElem?_append_left (by simpa using hv),List.getElem?_map,h3];rfl,h4⟩
abbrev FD:=DS->Option D
def up (K:PySem.W.Frag) (f:FD):TE:=fun σ H Q=>∃ δ d,RepS K H σ δ/\f δ = some d/\∀ v H',Same H H'->Rep K H' v d->Q v H'
def PD (X:Cx) (e:Expr) (f:FD):Prop:=PE X e (up X.K f)
theorem imp {X:Cx} {e:Expr} {t t':TE} (h:PE X e t) (w:∀ σ H Q,t' σ H Q->t σ H Q):PE X e t':=fun pins s σ H Q I q=>h pins s σ H Q I (w σ H Q q)
theorem bB {H:Hp} {p:Addr} (h:H p = none) (o:HO):Same H (upd H p o):=fun b u q=>by rw [aC (bg q h)];exact q
def ae (i:Nat):FD:=fun δ=>match δ[i]? with
 | some (some d)=>some d
 | _=>none
def fC (d:D):FD:=fun _=>some d
def f2 (g:D->D->Option D) (fa fb:FD):FD:=fun δ=>(fa δ).bind fun x=>(fb δ).bind fun y=>g x y
def f1 (g:D->Option D) (fa:FD):FD:=fun δ=>(fa δ).bind g
section
variable {X:Cx} {a b e:Expr} {fa fb f:FD} {pos:Pos}
theorem aa (i:Nat) {x:Str} (hN:X.N[i]? = some x:=by rfl) (hv:Vis X.env.scope x:=by first | exact Or.inl rfl | exact Or.inr (Or.inl rfl) | exact Or.inr (Or.inr rfl)) (hd:(x == ("__debug__":Str)) = false:=by decide)
 (hcd:(x == ("__classdict__":Str)) = false:=by decide):PD X (.Name x pos) (ae i) :=
 imp (iR hN hv hd hcd) fun σ H Q ⟨δ,d,R,e,k⟩=>by
  unfold ae at e
  split at e
  . rename_i d' h
    cases e
    obtain ⟨v,h1,h2⟩:=R.val i _ h
    exact ⟨v,h1,k v H (Same.refl H) h2⟩
  . cases e
theorem af {i j}:PD X (.Constant (.int i) j pos) (fC (.int i)):=imp zq fun σ H Q ⟨δ,d,R,e,k⟩=>by cases e;exact k _ H (Same.refl H) (.int i)
theorem pj {b j}:PD X (.Constant (.bool b) j pos) (fC (.bl b)):=imp AS fun σ H Q ⟨δ,d,R,e,k⟩=>by cases e;exact k _ H (Same.refl H) (.bl b)
theorem jC {j}:PD X (.Constant .none j pos) (fC .non):=imp zp fun σ H Q ⟨δ,d,R,e,k⟩=>by cases e;exact k _ H (Same.refl H) .non
theorem mV {x:Str} {n:String} (hg:Gl X x) (hm:X.mg x = none) (hv:bootBuiltins x = some (.type n)) (hn:x ≠ "__name__":=by decide) (hd:(x == ("__debug__":Str)) = false:=by decide):PD X (.Name x pos) (fC (.ty n)) :=
 imp (xm (v:=.ty n) hg hm hv rfl hn hd) fun σ H Q ⟨δ,d,R,e,k⟩=>by cases e;exact k _ H (Same.refl H) (.ty n)
def R2D (K:PySem.W.Frag) (r:R2) (g:D->D->Option D):Prop :=
 ∀ (x y:V) (H:Hp) (Q:VK) (a b d:D),Rep K H x a->Rep K H y b->g a b = some d->(∀ w H',Same H H'->Rep K H' w d->Q w H')->r x y H Q
theorem xG {r:R2} {g:D->D->Option D} (hg:R2D X.K r g) {σ:L2.St} {H:Hp} {Q:VK} (h:up X.K (f2 g fa fb) σ H Q):tOp r (up X.K fa) (up X.K fb) σ H Q:=by
 obtain ⟨δ,d,R,e,k⟩:=h
 unfold f2 at e
 obtain ⟨x,ex,e⟩:=Za.mp e
 obtain ⟨y,ey,e⟩:=Za.mp e
 exact ⟨δ,x,R,ex,fun v H1 s1 r1=>⟨δ,y,R.mono s1,ey,fun w H2 s2 r2=>hg v w H2 Q x y d (r1.mono s2) r2 e fun z H' s3=>k z H' ((s1.trans s2).trans s3)⟩⟩
theorem ln {op:Operator} {r:R2} {g:D->D->Option D} (ho:OpR X (binaryOp op) r) (hg:R2D X.K r g) (ha:PD X a fa) (hb:PD X b fb):PD X (.BinOp a op b pos) (f2 g fa fb) :=
 imp (sH ho ha hb) fun _ _ _=>xG hg
theorem qK {op:CmpOp} {r:R2} {g:D->D->Option D} (ho:OpR X (compareOp op) r) (hg:R2D X.K r g) (ha:PD X a fa) (hb:PD X b fb) (hm:behindInMarks op b = false):PD X (.Compare a [op] [b] pos) (f2 g fa fb) :=
 imp (xl ho ha hb hm) fun _ _ _=>xG hg
theorem zt {r:R2} {g:D->D->Option D} (hr:IxR X r) (hg:R2D X.K r g) (ha:PD X a fa) (hb:PD X b fb) (hs:kE b):PD X (.Subscript a b pos) (f2 g fa fb) :=
 imp (x6 hr ha hb hs) fun _ _ _=>xG hg
theorem R2D.or {K:PySem.W.Frag} {r r':R2} {g g':D->D->Option D} (h:R2D K r g) (h':R2D K r' g'):R2D K (fun x y H Q=>r x y H Q \/ r' x y H Q) (fun a b=>(g a b).or (g' a b)):=by
 intro x y H Q a b d ra rb e k
 cases q:g a b with
 | some z =>
  have e':(g a b).or (g' a b) = some d:=e
  rw [q] at e'
  cases e'
  exact .inl (h x y H Q a b _ ra rb q k)
 | none =>
  have e':(g a b).or (g' a b) = some d:=e
  rw [q] at e'
  exact .inr (h' x y H Q a b d ra rb e' k)
end
def Bd (x:Int):Prop:=x.natAbs < 2 ^ 9000
instance (x:Int):Decidable (Bd x):=by unfold Bd;exact inferInstance
theorem Bd.bits {x:Int} (h:Bd x):Builtin.Int.intBits x <= 2 ^ 20:=by
 have h':x.natAbs < 2 ^ (2 ^ 20):=Nat.lt_of_lt_of_le h (Nat.pow_le_pow_right (by decide) (by decide))
 exact PySem.intBits_le_iff.mpr h'
theorem Bd.log {x:Int} (h:Bd x) (h0:x ≠ 0):x.natAbs.log2 < 9000:=(Nat.log2_lt (by omega)).mpr h
section
variable {X:Cx} {K:PySem.W.Frag}
def aY (i j:Int):Prop:=Bd i/\Bd j
theorem xr:OpR X (binaryOp .Mult) (rI aY fun i j=>.int (i * j)):=opI fun _ _ _ _ _ _ _ hc q=>mul_int q (.of_bits hc.1.bits hc.2.bits)
def dI (_ j:Int):Prop:=0 < j/\Bd j
theorem vM:OpR X (binaryOp .FloorDiv) (rI dI fun i j=>.int (i / j)):=opI fun i j _ _ _ _ _ hc q=>by
 have h1:(0:Int) < j:=hc.1
 exact floordiv_int (by omega) (by rw [Int.fdiv_eq_ediv_of_nonneg i (by omega)];exact q) (.inl (PyProof.noPylong_of_log2 (hc.2.log (by omega))))
def gI0 (g:Int->Int->D):D->D->Option D
 | .int i,.int j=>some (g i j)
 | _,_=>none
def gI (C:Int->Int->Prop) [∀ i j,Decidable (C i j)] (g:Int->Int->D):D->D->Option D
 | .int i,.int j=>if C i j then some (g i j) else none
 | _,_=>none
instance (i j:Int):Decidable (aY i j):=by unfold aY;exact inferInstance
instance (i j:Int):Decidable (dI i j):=by unfold dI;exact inferInstance
instance (i j:Int):Decidable (ka i j):=by unfold ka;exact inferInstance
theorem jW {g:Int->Int->V} {g':Int->Int->D} (h:∀ H i j,Rep K H (g i j) (g' i j)):R2D K (rI0 g) (gI0 g'):=by
 intro x y H Q a b d ra rb e k
 cases ra with
 | int i =>
  cases rb with
  | int j=>cases e;exact ⟨i,j,rfl,rfl,k _ H (Same.refl H) (h H i j)⟩
  | _=>cases e
 | _=>cases e
theorem vj {C:Int->Int->Prop} [∀ i j,Decidable (C i j)] {g:Int->Int->V} {g':Int->Int->D} (h:∀ H i j,Rep K H (g i j) (g' i j)):R2D K (rI C g) (gI C g'):=by
 intro x y H Q a b d ra rb e k
 cases ra with
 | int i =>
  cases rb with
  | int j =>
   have e':(if C i j then some (g' i j) else none) = some d:=e
   by_cases hc:C i j
   . rw [if_pos hc] at e';cases e';exact ⟨i,j,rfl,rfl,hc,k _ H (Same.refl H) (h H i j)⟩
   . rw [if_neg hc] at e';cases e'
  | _=>cases e
 | _=>cases e
end
def uI:D->D->Option D
 | .lst xs,.lst ys=>if xs.length + ys.length <= 1000 then some (.lst (xs ++ ys)) else none
 | _,_=>none
theorem cq {n:Nat} (h:n <= 1000):n <= sizeLine:=Nat.le_of_lt (jv h)
theorem vi {K:PySem.W.Frag}:R2D K AJ uI:=by
 intro x y H Q a b d ra rb e k
 cases ra with
 | @lst p xs ds hp rp =>
  cases rb with
  | @lst q ys es hq rq =>
   have e':(if ds.length + es.length <= 1000 then some (D.lst (ds ++ es)) else none) = some d:=e
   by_cases hc:ds.length + es.length <= 1000
   . rw [if_pos hc] at e';cases e'
     refine ⟨p,q,xs,ys,rfl,rfl,hp,hq,cq (by rw [rp.length,rq.length];exact hc),fun l hl=>?_⟩
     have s:=bB hl (.lst (xs ++ ys))
     exact k _ _ s (.lst aX ((rp.append rq).mono s))
   . rw [if_neg hc] at e';cases e'
  | _=>cases e
 | _=>cases e
def jH:D->D->Option D:=fun a b=>(gI0 (fun i j=>.int (i + j)) a b).or (uI a b)
def gIx:D->D->Option D
 | .tup ds,.int i=>L2.atI ds i
 | .lst ds,.int i=>L2.atI ds i
 | .seq ds,.int i=>L2.atI ds i
 | _,_=>none
theorem x5 {K:PySem.W.Frag}:R2D K (fun x y H Q=>AF K x y H Q \/ AE K x y H Q) gIx:=by
 intro x y H Q a b d ra rb e k
 cases rb with
 | int i =>
  cases ra with
  | @tup p vs ds hp rp =>
   have e':L2.atI ds i = some d:=e
   obtain ⟨v,h1,h2⟩:=rp.atI e'
   exact .inr ⟨p,vs,i,v,rfl,rfl,hp,h1,k v H (Same.refl H) h2⟩
  | @lst p vs ds hp rp =>
   have e':L2.atI ds i = some d:=e
   obtain ⟨v,h1,h2⟩:=rp.atI e'
   exact .inl ⟨p,vs,i,v,rfl,rfl,SqL.of hp,h1,k v H (Same.refl H) h2⟩
  | @seq p vs ds hp rp =>
   have e':L2.atI ds i = some d:=e
   obtain ⟨v,h1,h2⟩:=rp.atI e'
   exact .inl ⟨p,vs,i,v,rfl,rfl,hp,h1,k v H (Same.refl H) h2⟩
  | _=>cases e
 | _=>cases ra <;> cases e
section
variable {X:Cx} {a b e:Expr} {fa fb f:FD} {pos:Pos}
theorem eT (ha:PD X a fa) (hb:PD X b fb):PD X (.BinOp a .Add b pos) (f2 jH fa fb):=ln (op_add.or nZ) ((jW fun _ _ _=>.int _).or vi) ha hb
theorem vC (ha:PD X a fa) (hb:PD X b fb):PD X (.BinOp a .Sub b pos) (f2 (gI0 fun i j=>.int (i - j)) fa fb):=ln zu (jW fun _ _ _=>.int _) ha hb
theorem cC (ha:PD X a fa) (hb:PD X b fb):PD X (.BinOp a .Mult b pos) (f2 (gI aY fun i j=>.int (i * j)) fa fb):=ln xr (vj fun _ _ _=>.int _) ha hb
theorem da (ha:PD X a fa) (hb:PD X b fb):PD X (.BinOp a .FloorDiv b pos) (f2 (gI dI fun i j=>.int (i / j)) fa fb):=ln vM (vj fun _ _ _=>.int _) ha hb
theorem ej (ha:PD X a fa) (hb:PD X b fb):PD X (.BinOp a .Mod b pos) (f2 (gI (fun _ j=>0 < j) fun i j=>.int (i % j)) fa fb):=ln zA (vj fun _ _ _=>.int _) ha hb
theorem vE (ha:PD X a fa) (hb:PD X b fb):PD X (.BinOp a .Pow b pos) (f2 (gI ka fun i j=>.int (i ^ j.toNat)) fa fb):=ln zv (vj fun _ _ _=>.int _) ha hb
theorem aU (ha:PD X a fa) (hb:PD X b fb) (hs:kE b:=by intro _ _;rfl):PD X (.Subscript a b pos) (f2 gIx fa fb):=zt (ix_list.or vZ) x5 ha hb hs
def bz:D->Option D
 | .int i=>some (.int (-i))
 | _=>none
theorem nY (ha:PD X a fa):PD X (.UnaryOp .USub a pos) (f1 bz fa):=imp (AR yt ha) fun σ H Q ⟨δ,d,R,e,k⟩=>by
 unfold f1 at e
 obtain ⟨x,ex,e⟩:=Za.mp e
 refine ⟨δ,x,R,ex,fun v H1 s1 r1=>?_⟩
 cases r1 with
 | int i=>cases e;exact ⟨i,rfl,k _ H1 s1 (.int _)⟩
 | _=>cases e
end
abbrev FT:=DS->Option Bool
def upT (K:PySem.W.Frag) (f:FT):TT:=fun σ H Q=>∃ δ b,RepS K H σ δ/\f δ = some b/\∀ H',Same H H'->Q b H'
def PTD (X:Cx) (e:Expr) (f:FT):Prop:=PT X e (upT X.K f)
def PWD (X:Cx) (e:Expr) (f:FT):Prop:=PW X e (upT X.K f)
theorem zU {X:Cx} {e:Expr} {t t':TT} (h:PT X e t) (w:∀ σ H Q,t' σ H Q->t σ H Q):PT X e t':=fun pins s σ H Q I q=>h pins s σ H Q I (w σ H Q q)
theorem A6 {X:Cx} {e:Expr} {t t':TT} (h:PW X e t) (w:∀ σ H Q,t' σ H Q->t σ H Q):PW X e t':=fun wh pins s σ H Q I q=>h wh pins s σ H Q I (w σ H Q q)
def asB:D->Option Bool
 | .bl b=>some b
 | _=>none
def fT (f:FD):FT:=fun δ=>(f δ).bind asB
def aN (f:FT):FT:=fun δ=>(f δ).map not
def aK (f g:FT):FT:=fun δ=>(f δ).bind fun b=>match b with
 | true=>g δ
 | false=>some false
def bn (f g:FT):FT:=fun δ=>(f δ).bind fun b=>match b with
 | true=>some true
 | false=>g δ
section
variable {X:Cx} {a b e:Expr} {fa fb f:FD} {ta tb:FT} {rest:List Expr} {pos:Pos}
theorem wJ {K:PySem.W.Frag} {t:TE} (w:∀ σ H Q,up K f σ H Q->t σ H Q) {σ:L2.St} {H:Hp} {Q:Bool->Hp->Prop} (h:upT K (fT f) σ H Q):t σ H fun x H1=>∃ c,x = .bl c/\Q c H1:=by
 obtain ⟨δ,b,R,e,k⟩:=h
 unfold fT at e
 obtain ⟨d,ed,e⟩:=Za.mp e
 refine w σ H _ ⟨δ,d,R,ed,fun v H' s r=>?_⟩
 cases r with
 | bl c=>cases e;exact ⟨_,rfl,k H' s⟩
 | _=>cases e
theorem dC (h:PD X e f) (he:∀ whole,isTrue e X.env whole = (do let v <- whole;standAt e.pos;holding [v] (truthy v)):=by intro _;rfl):PTD X e (fT f) :=
 zU (zc h he) fun _ _ _ q=>wJ (fun _ _ _ z=>z) q
theorem dU {op:CmpOp} {r:R2} {g:D->D->Option D} (ho:OpR X (compareOp op) r) (hg:R2D X.K r g) (ha:PD X a fa) (hb:PD X b fb) (hm:behindInMarks op b = false):PTD X (.Compare a [op] [b] pos) (fT (f2 g fa fb)) :=
 zU (xg ho ha hb hm) fun _ _ _ q=>wJ (fun _ _ _ z=>xG hg z) q
theorem gy (ha:PTD X a ta):PTD X (.UnaryOp .Not a pos) (aN ta):=zU (zd ha) fun σ H Q ⟨δ,b,R,e,k⟩=>by
 unfold aN at e
 obtain ⟨c,ec,e⟩:=Zb.mp e
 exact ⟨δ,c,R,ec,fun H' s=>by have:=k H' s;rw [<- e] at this;exact this⟩
theorem PWD.pt (h:PWD X e ta):PTD X e ta:=h _
theorem k4 (ha:PTD X a ta):PWD X (.BoolOp .And [a] pos) ta:=xa ha
theorem kf (ha:PTD X a ta):PWD X (.BoolOp .Or [a] pos) ta:=yQ ha
theorem kg (ha:PTD X a ta) (hb:PWD X (.BoolOp .And (b :: rest) pos) tb):PWD X (.BoolOp .And (a :: b :: rest) pos) (aK ta tb):=A6 (yS ha hb) fun σ H Q ⟨δ,c,R,e,k⟩=>by
 unfold aK at e
 obtain ⟨d,ed,e⟩:=Za.mp e
 refine ⟨δ,d,R,ed,fun H' s=>?_⟩
 cases d with
 | true=>exact ⟨δ,c,R.mono s,e,fun H2 s2=>k H2 (s.trans s2)⟩
 | false=>cases e;exact k H' s
theorem nN (ha:PTD X a ta) (hb:PWD X (.BoolOp .Or (b :: rest) pos) tb):PWD X (.BoolOp .Or (a :: b :: rest) pos) (bn ta tb):=A6 (AM ha hb) fun σ H Q ⟨δ,c,R,e,k⟩=>by
 unfold bn at e
 obtain ⟨d,ed,e⟩:=Za.mp e
 refine ⟨δ,d,R,ed,fun H' s=>?_⟩
 cases d with
 | false=>exact ⟨δ,c,R.mono s,e,fun H2 s2=>k H2 (s.trans s2)⟩
 | true=>cases e;exact k H' s
def aL (f g:FD):FD:=fun δ=>(f δ).bind fun x=>match x with
 | .bl true=>g δ
 | .bl false=>some (.bl false)
 | _=>none
def bH (f g:FD):FD:=fun δ=>(f δ).bind fun x=>match x with
 | .bl true=>some (.bl true)
 | .bl false=>g δ
 | _=>none
def bC:D->Option D
 | .bl b=>some (.bl (!b))
 | _=>none
theorem iS {op} (h:PD X a f):PD X (.BoolOp op [a] pos) f:=zm h
theorem iT (ha:PD X a fa) (hb:PD X (.BoolOp .And (b :: rest) pos) fb):PD X (.BoolOp .And (a :: b :: rest) pos) (aL fa fb):=imp (zr ha hb) fun σ H Q ⟨δ,d,R,e,k⟩=>by
 unfold aL at e
 obtain ⟨x,ex,e⟩:=Za.mp e
 refine ⟨δ,x,R,ex,fun v H1 s1 r1=>?_⟩
 cases r1 with
 | bl c =>
  refine ⟨c,rfl,?_⟩
  cases c with
  | true=>rw [if_pos rfl];exact ⟨δ,d,R.mono s1,e,fun w H2 s2=>k w H2 (s1.trans s2)⟩
  | false=>rw [if_neg Bool.false_ne_true];cases e;exact k _ H1 s1 (.bl false)
 | _=>cases e
theorem vF (ha:PD X a fa):PD X (.UnaryOp .Not a pos) (f1 bC fa):=imp (zn ha) fun σ H Q ⟨δ,d,R,e,k⟩=>by
 unfold f1 at e
 obtain ⟨x,ex,e⟩:=Za.mp e
 refine ⟨δ,x,R,ex,fun v H1 s1 r1=>?_⟩
 cases r1 with
 | bl c=>cases e;exact ⟨c,rfl,k _ H1 s1 (.bl _)⟩
 | _=>cases e
end
abbrev FA:=DS->Option (List D)
def upA (K:PySem.W.Frag) (n:Nat) (f:FA):TA:=fun σ H Q=>∃ δ ds,RepS K H σ δ/\f δ = some ds/\∀ vs H',Same H H'->Reps K H' vs ds->vs.length = n->Q vs H'
def PAD (X:Cx) (es:List Expr) (f:FA):Prop:=PA X es (upA X.K es.length f)
theorem ol {X:Cx} {es:List Expr} {t t':TA} (h:PA X es t) (w:∀ σ H Q,t' σ H Q->t σ H Q):PA X es t':=fun pos pins s σ H Q I q=>h pos pins s σ H Q I (w σ H Q q)
def aj:FA:=fun _=>some []
def ac (f:FD) (g:FA):FA:=fun δ=>(f δ).bind fun x=>(g δ).bind fun xs=>some (x :: xs)
def cn (K:PySem.W.Frag) (n:Nat) (G:List D->Option D):Sp:=fun vs H Q _=>vs.length = n/\∃ ds d,Reps K H vs ds/\G ds = some d/\∀ v H',Same H H'->Rep K H' v d->Q v H'
def bh (g:FA):FD:=fun δ=>(g δ).bind fun ds=>some (.tup ds)
def bo (g:FA):FD:=fun δ=>(g δ).bind fun ds=>some (.lst ds)
def au (G:List D->Option D) (g:FA):FD:=fun δ=>(g δ).bind G
section
variable {X:Cx} {e:Expr} {es:List Expr} {f:FD} {g:FA} {pos p:Pos}
theorem ah:PAD X [] aj:=ol eU fun σ H Q ⟨δ,ds,R,e,k⟩=>by cases e;exact k [] H (Same.refl H) .nil rfl
theorem ab (ha:PD X e f) (hr:PAD X es g) (hs:starEach (e :: es) X.env = (false,eval e X.env) :: starEach es X.env:=by rfl):PAD X (e :: es) (ac f g):=ol (cV ha hr hs) fun σ H Q ⟨δ,ds,R,q,k⟩=>by
 unfold ac at q
 obtain ⟨x,ex,q⟩:=Za.mp q
 obtain ⟨xs,exs,q⟩:=Za.mp q
 cases q
 exact ⟨δ,x,R,ex,fun v H1 s1 r1=>⟨δ,xs,R.mono s1,exs,fun vs H2 s2 r2 l=>k (v :: vs) H2 (s1.trans s2) (.cons (r1.mono s2) r2) (congrArg (· + 1) l)⟩⟩
theorem cY {x1} (h:PAD X es g) (hz:es.length <= 1000:=by decide):PD X (.Tuple es x1 pos) (bh g):=imp (qG h) fun σ H Q ⟨δ,d,R,q,k⟩=>by
 unfold bh at q
 obtain ⟨ds,eds,q⟩:=Za.mp q
 cases q
 refine ⟨δ,ds,R,eds,fun vs H1 s1 r1 l=>⟨cq (by rw [l];exact hz),fun p hp=>?_⟩⟩
 have s:=bB hp (.tup vs)
 exact k _ _ (s1.trans s) (.tup (SqT.of aX) (r1.mono s))
theorem qI (h:PAD X es g) (hz:es.length <= 1000:=by decide):PD X (.List es pos) (bo g):=imp (qH h) fun σ H Q ⟨δ,d,R,q,k⟩=>by
 unfold bo at q
 obtain ⟨ds,eds,q⟩:=Za.mp q
 cases q
 refine ⟨δ,ds,R,eds,fun vs H1 s1 r1 l=>⟨cq (by rw [l];exact hz),fun p hp=>?_⟩⟩
 have s:=bB hp (.lst vs)
 exact k _ _ (s1.trans s) (.lst aX (r1.mono s))
theorem xo {k n:Nat} {x:Str} {f:Addr} {fd:FuncData} {ps:List Str} {G:List D->Option D} (F:FnOk X.prog X.w X.K X.mg X.base CX0 k f fd ps (cn X.K n G)) (hr:Room k X.A) (hg:Gl X x) (hm:X.mg x = some (.ref f)) (hk:PySem.W.keepIn X.K (.ref f) = true) (hb:Binds X.K fd ps [])
 (ha:PAD X (e :: es) g) (hn:(e :: es).length = n:=by rfl) (hdb:(x == ("__debug__":Str)) = false:=by decide) (he:starEach (e :: es) X.env = (false,eval e X.env) :: starEach es X.env:=by rfl) (hpl:(backTo pos (starEach es X.env)).any (·.1) = false:=by rfl) :
 PD X (.Call (.Name x p) (e :: es) [] pos) (au G g):=imp (ku F hr hg hm hk hb .nil (sK) ha hdb he hpl) fun σ H Q ⟨δ,d,R,q,k⟩=>by
 unfold au at q
 obtain ⟨ds,eds,q⟩:=Za.mp q
 refine ⟨δ,ds,R,eds,fun vs H1 s1 r1 l=>?_⟩
 show cn X.K n G (vs ++ []) H1 Q E0
 rw [Zk]
 exact ⟨l.trans hn,ds,d,r1,q,fun v H' s=>k v H' (s1.trans s)⟩
def hV (K:PySem.W.Frag) (r:List V->Hp->VK->Prop) (G:List D->Option D):Prop :=
 ∀ (xs:List V) (H:Hp) (Q:VK) (ds:List D) (d:D),Reps K H xs ds->G ds = some d->(∀ w H',Same H H'->Rep K H' w d->Q w H')->r xs H Q
theorem v8 {r:List V->Hp->VK->Prop} {G:List D->Option D} {n:Nat} (hG:hV X.K r G) {σ:L2.St} {H:Hp} {Q:VK} (h:up X.K (au G g) σ H Q):tCB r (upA X.K n g) σ H Q:=by
 obtain ⟨δ,d,R,q,k⟩:=h
 unfold au at q
 obtain ⟨ds,eds,q⟩:=Za.mp q
 exact ⟨δ,ds,R,eds,fun vs H1 s1 r1 _=>hG vs H1 Q ds d r1 q fun w H' s=>k w H' (s1.trans s)⟩
theorem ca {id:String} {x:Str} {r:List V->Hp->VK->Prop} {G:List D->Option D} (hc:fN X (.builtin id) r) (hG:hV X.K r G) (hg:Gl X x) (hm:X.mg x = none) (hv:bootBuiltins x = some (.builtin id)) (ha:PAD X (e :: es) g) (hn:x ≠ "__name__":=by decide) (hdb:(x == ("__debug__":Str)) = false:=by decide)
 (he:starEach (e :: es) X.env = (false,eval e X.env) :: starEach es X.env:=by rfl) (hpl:(backTo pos (starEach es X.env)).any (·.1) = false:=by rfl):PD X (.Call (.Name x p) (e :: es) [] pos) (au G g) :=
 imp (lh hc hg hm hv ha hn hdb he hpl) fun _ _ _ h=>v8 hG h
theorem ur {T:String} {x:Str} {r:List V->Hp->VK->Prop} {G:List D->Option D} (hc:fN X (.type T) r) (hG:hV X.K r G) (hg:Gl X x) (hm:X.mg x = none) (hv:bootBuiltins x = some (.type T)) (ha:PAD X (e :: es) g) (hn:x ≠ "__name__":=by decide) (hdb:(x == ("__debug__":Str)) = false:=by decide)
 (he:starEach (e :: es) X.env = (false,eval e X.env) :: starEach es X.env:=by rfl) (hpl:(backTo pos (starEach es X.env)).any (·.1) = false:=by rfl):PD X (.Call (.Name x p) (e :: es) [] pos) (au G g) :=
 imp (jB hc hg hm hv ha hn hdb he hpl) fun _ _ _ h=>v8 hG h
end
theorem jV {K:PySem.W.Frag} {H:Hp} {xs:List V} {d:D} (r:Reps K H xs [d]):∃ x,xs = [x]/\Rep K H x d:=by
 cases r with
 | cons a t=>cases t;exact ⟨_,rfl,a⟩
theorem xY {K:PySem.W.Frag} {H:Hp} {xs:List V} {d e:D} (r:Reps K H xs [d,e]):∃ x y,xs = [x,y]/\Rep K H x d/\Rep K H y e:=by
 cases r with
 | cons a t =>
  obtain ⟨y,h1,h2⟩:=jV t
  subst h1
  exact ⟨_,y,rfl,a,h2⟩
def bA:List D->Option D
 | [.int i]=>some (.int (i.natAbs:Int))
 | _=>none
theorem rH {K:PySem.W.Frag}:hV K (fun xs H Q=>∃ i,xs = [.int i]/\Q (.int (if i < 0 then -i else i)) H) bA:=by
 intro xs H Q ds d r e k
 unfold bA at e
 split at e
 . rename_i i
   cases e
   obtain ⟨x,rfl,rx⟩:=jV r
   cases rx
   refine ⟨i,rfl,?_⟩
   have e:(if i < 0 then -i else i) = (i.natAbs:Int):=by split <;> omega
   rw [e]
   exact k _ H (Same.refl H) (.int _)
 . cases e
def bG:List D->Option D
 | [.int i]=>some (.int i)
 | [.bl b]=>some (.int (if b then 1 else 0))
 | _=>none
def ot:List D->Option D
 | [.tup ds]=>some (.int ds.length)
 | [.lst ds]=>some (.int ds.length)
 | [.seq ds]=>some (.int ds.length)
 | _=>none
theorem lY {K:PySem.W.Frag}:hV K (fun xs H Q=>∃ p ys,xs = [.ref p]/\(SqL K H p ys \/ SqT K H p ys)/\Q (.int ys.length) H) ot:=by
 intro xs H Q ds d r e k
 unfold ot at e
 split at e
 . cases e
   obtain ⟨x,rfl,rx⟩:=jV r
   cases rx with
   | @tup p vs _ hp rp=>exact ⟨p,vs,rfl,.inr hp,by rw [rp.length];exact k _ H (Same.refl H) (.int _)⟩
 . cases e
   obtain ⟨x,rfl,rx⟩:=jV r
   cases rx with
   | @lst p vs _ hp rp=>exact ⟨p,vs,rfl,.inl (SqL.of hp),by rw [rp.length];exact k _ H (Same.refl H) (.int _)⟩
 . cases e
   obtain ⟨x,rfl,rx⟩:=jV r
   cases rx with
   | @seq p vs _ hp rp=>exact ⟨p,vs,rfl,.inl hp,by rw [rp.length];exact k _ H (Same.refl H) (.int _)⟩
 . cases e
def Bs:D->Option String
 | .non=>some "NoneType"
 | .bl _=>some "bool"
 | .int _=>some "int"
 | .str _=>some "str"
 | .tup _=>some "tuple"
 | .lst _=>some "list"
 | .seq _=>some "list"
 | .dct=>some "dict"
 | .ty _=>none
 | .exc _=>none
 | .cls _=>none
 | .ms _ _=>none
 | .mf _ _=>none
 | .md _ _=>none
def qm (n:String) (d:D) (b:Bool):Prop:=∃ t,Bs d = some t/\∀ K:PySem.W.Frag,PySem.W.kitOne K (.type t) (.type n) = some b
def AG (K:PySem.W.Frag):List V->Hp->VK->Prop:=fun xs H Q=>∃ x n d b,xs = [x,.ty n]/\Rep K H x d/\qm n d b/\Q (.bl b) H
theorem gi {X:Cx}:fN X (.builtin "isinstance") (AG X.K):=by
 intro pins s σ H xs us Q I r h
 obtain ⟨x,n,d,b,rfl,rx,⟨t,ht,hk⟩,q⟩:=h
 obtain ⟨u,w',rfl,ru,rw'⟩:=Ao r
 cases (show w' = Value.type n from rw')
 have e:=hk X.K
 have fin:∀ tk,EP X pins σ Q (.bool b) { s with toks:=tk }:=fun tk=>⟨.bl b,H,I.tok _,rfl,q⟩
 cases rx with
 | non=>cases ht;cases (show u = Value.none from ru);exact PySem.W.kia_one PySem.W.kitx_none I.kIn True.intro e (fun z=>nomatch z) fin
 | bl y=>cases ht;cases (show u = Value.bool y from ru);exact PySem.W.kia_one PySem.W.kitx_bool I.kIn True.intro e (fun z=>nomatch z) fin
 | int i=>cases ht;obtain ⟨t,z⟩:=(show ∃ t,u = Value.int i t from ru);cases z;exact PySem.W.kia_one PySem.W.kitx_int I.kIn True.intro e (fun z=>nomatch z) fin
 | str y=>cases ht;obtain ⟨t,z⟩:=(show ∃ t,u = Value.str y t from ru);cases z;exact PySem.W.kia_one PySem.W.kitx_str I.kIn True.intro e (fun z=>nomatch z) fin
 | ty n=>cases ht
 | exc h=>cases ht
 | cls C=>cases ht
 | ms h l r=>cases ht
 | mf h l r=>cases ht
 | md h l r=>cases ht
 | @dct a h =>
  cases ht
  cases (show u = Value.ref a from ru)
  exact PySem.W.kia_one PySem.W.kitx_dict I.kIn (I.hok a _ h).1 e (fun z=>nomatch z) fin
 | @tup a vs ds hp rp =>
  cases ht
  cases (show u = Value.ref a from ru)
  obtain ⟨its,_,⟨o,h1,h2,_⟩,_⟩:=I.tuple hp
  exact PySem.W.kia_one PySem.W.kitx_tuple I.kIn ⟨o,h1,h2⟩ e (fun z=>nomatch z) fin
 | @lst a vs ds hp rp =>
  cases ht
  cases (show u = Value.ref a from ru)
  obtain ⟨its,_,⟨o,n',h1,h2,_⟩,_⟩:=I.list (SqL.of (K:=X.K) hp)
  exact PySem.W.kia_one PySem.W.kitx_list I.kIn ⟨o,h1,h2⟩ e (fun z=>nomatch z) fin
 | @seq a vs ds hp rp =>
  cases ht
  cases (show u = Value.ref a from ru)
  obtain ⟨its,_,⟨o,n',h1,h2,_⟩,_⟩:=I.list hp
  exact PySem.W.kia_one PySem.W.kitx_list I.kIn ⟨o,h1,h2⟩ e (fun z=>nomatch z) fin
def isInt:D->Option Bool
 | .int _=>some true
 | .bl _=>some true
 | .ty _=>none
 | .exc _=>none
 | .cls _=>none
 | .ms _ _=>none
 | .mf _ _=>none
 | .md _ _=>none
 | _=>some false
def isBool:D->Option Bool
 | .bl _=>some true
 | .ty _=>none
 | .exc _=>none
 | .cls _=>none
 | .ms _ _=>none
 | .mf _ _=>none
 | .md _ _=>none
 | _=>some false
def isTup:D->Option Bool
 | .tup _=>some true
 | .ty _=>none
 | .exc _=>none
 | .cls _=>none
 | .ms _ _=>none
 | .mf _ _=>none
 | .md _ _=>none
 | _=>some false
def wf (n:String) (p:D->Option Bool):List D->Option D
 | [d,.ty m]=>if m = n then (p d).map D.bl else none
 | _=>none
theorem jJ {K:PySem.W.Frag} {n:String} {p:D->Option Bool} (hp:∀ d b,p d = some b->qm n d b):hV K (AG K) (wf n p):=by
 intro xs H Q ds d r e k
 unfold wf at e
 split at e
 . rename_i x m
   by_cases hm:m = n
   . subst hm
     rw [if_pos rfl] at e
     obtain ⟨b,hb,e⟩:=Zb.mp e
     cases e
     obtain ⟨v,w,rfl,rv,rw'⟩:=xY r
     cases rw'
     exact ⟨v,m,x,b,rfl,rv,hp x b hb,k _ H (Same.refl H) (.bl b)⟩
   . rw [if_neg hm] at e;cases e
 . cases e
theorem qU (n:String) (K:PySem.W.Frag):PySem.W.kitOne K (.type n) (.type n) = some true:=by
 unfold PySem.W.kitOne
 rw [if_pos (Zx _)]
theorem pz (d:D) (b:Bool) (h:isInt d = some b):qm "int" d b:=by
 cases d <;> (first | cases h) <;> first
  | exact ⟨_,rfl,fun K=>qU _ K⟩
  | exact ⟨_,rfl,fun K=>by kernel_rfl⟩
theorem mW (d:D) (b:Bool) (h:isBool d = some b):qm "bool" d b:=by
 cases d <;> (first | cases h) <;> first
  | exact ⟨_,rfl,fun K=>qU _ K⟩
  | exact ⟨_,rfl,fun K=>by kernel_rfl⟩
theorem pw (d:D) (b:Bool) (h:isTup d = some b):qm "tuple" d b:=by
 cases d <;> (first | cases h) <;> first
  | exact ⟨_,rfl,fun K=>qU _ K⟩
  | exact ⟨_,rfl,fun K=>by kernel_rfl⟩
def toV:D->Option V
 | .non=>some .non
 | .bl b=>some (.bl b)
 | .int i=>some (.int i)
 | .str x=>some (.str x)
 | _=>none
def c4 (d:D):Bool:=(toV d).isSome
def eqF:D->D->Bool
 | .non,.non=>true
 | .bl a,.bl b=>a == b
 | .bl a,.int b=>(if a then 1 else 0) == b
 | .int a,.bl b=>a == (if b then 1 else 0)
 | .int a,.int b=>a == b
 | .str a,.str b=>a == b
 | _,_=>false
def mG:List D->List D->Bool
 | [],[]=>true
 | a :: as,b :: bs=>eqF a b && mG as bs
 | _,_=>false
theorem Rep.flat {K:PySem.W.Frag} {H:Hp} {v:V} {d:D} (r:Rep K H v d) (f:c4 d = true):wl v = true/\toV d = some v:=by
 cases r <;> first | exact ⟨rfl,rfl⟩ | (exact absurd f (by decide)) | (exact absurd f Bool.false_ne_true)
theorem oy {a b:D} {x y:V} (ha:toV a = some x) (hb:toV b = some y):eqV x y = eqF a b:=by
 cases a <;> (first | cases ha) <;> cases b <;> (first | cases hb) <;> rfl
theorem lP:∀ (as bs:List D) (e:Nat->Bool),(∀ j a b,as[j]? = some a->bs[j]? = some b->e j = eqF a b)->((List.range (min as.length bs.length)).all e && as.length == bs.length) = mG as bs
 | [],[],e,_=>rfl
 | [],b :: bs,e,_=>by simp [mG]
 | a :: as,[],e,_=>by simp [mG]
 | a :: as,b :: bs,e,h=>by
  have ih:=lP as bs (fun j=>e (j + 1)) (fun j x y h1 h2=>h (j + 1) x y (by simpa using h1) (by simpa using h2))
  have h0:e 0 = eqF a b:=h 0 a b rfl rfl
  show ((List.range (min (as.length + 1) (bs.length + 1))).all e && (as.length + 1) == (bs.length + 1)) = (eqF a b && mG as bs)
  rw [<- ih,<- h0,show min (as.length + 1) (bs.length + 1) = min as.length bs.length + 1 by omega,List.range_succ_eq_map,List.all_cons,List.all_map,Bool.and_assoc]
  have:((as.length + 1) == (bs.length + 1)) = (as.length == bs.length):=by rw [Bool.eq_iff_iff];simp
  rw [this]
  rfl
def uH:D->D->Option Bool
 | .tup as,.tup bs=>if as.all c4 && bs.all c4 then some (mG as bs) else none
 | .lst as,.lst bs=>if as.all c4 && bs.all c4 then some (mG as bs) else none
 | .non,.tup _=>some false
 | .tup _,.non=>some false
 | .non,.lst _=>some false
 | .lst _,.non=>some false
 | a,b=>if c4 a && c4 b then some (eqF a b) else none
def gEq (a b:D):Option D:=(uH a b).map D.bl
def gNe (a b:D):Option D:=(uH a b).map fun c=>D.bl (!c)
section
variable {K:PySem.W.Frag} {H:Hp}
theorem jo {A:Around} {s:Shared} {vs ws:List V} {us zs:List Value} {as bs:List D} (r1:Vals vs us) (r2:Vals ws zs) (q1:Reps K H vs as) (q2:Reps K H ws bs) (g1:as.all c4 = true) (g2:bs.all c4 = true) :
 ∀ j (h1:j < us.toArray.size) (h2:j < zs.toArray.size),SeqAt.EqAt A s us.toArray[j] zs.toArray[j] (eqF (as.getD j .non) (bs.getD j .non)):=by
 intro j h1 h2
 have l1:=r1.length
 have l2:=r2.length
 rw [List.size_toArray] at h1 h2
 have k1:j < vs.length:=by omega
 have k2:j < ws.length:=by omega
 obtain ⟨u,e1,p1⟩:=r1.get (i:=j) (x:=vs[j]) (by simp [k1])
 obtain ⟨z,e2,p2⟩:=r2.get (i:=j) (x:=ws[j]) (by simp [k2])
 obtain ⟨a,e3,p3⟩:=q1.getV (i:=j) (v:=vs[j]) (by simp [k1])
 obtain ⟨b,e4,p4⟩:=q2.getV (i:=j) (v:=ws[j]) (by simp [k2])
 have f1:c4 a = true:=List.all_eq_true.mp g1 a (List.mem_of_getElem? e3)
 have f2:c4 b = true:=List.all_eq_true.mp g2 b (List.mem_of_getElem? e4)
 have w1:us.toArray[j] = u:=by
  have:us[j]? = some us[j]:=by simp [h1]
  rw [this] at e1
  simpa using e1
 have w2:zs.toArray[j] = z:=by
  have:zs[j]? = some zs[j]:=by simp [h2]
  rw [this] at e2
  simpa using e2
 rw [w1,w2,List.getD_eq_getElem?_getD,List.getD_eq_getElem?_getD,e3,e4]
 show SeqAt.EqAt A s u z (eqF a b)
 rw [<- oy (p3.flat f1).2 (p4.flat f2).2]
 exact wp p1 p2 (p3.flat f1).1 (p4.flat f2).1
theorem l8 {as bs:List D}:((List.range (min as.length bs.length)).all (fun j=>eqF (as.getD j .non) (bs.getD j .non)) && as.length == bs.length) = mG as bs :=
 lP as bs _ fun j a b h1 h2=>by
  show eqF (as.getD j .non) (bs.getD j .non) = eqF a b
  rw [List.getD_eq_getElem?_getD,List.getD_eq_getElem?_getD,h1,h2] <;> rfl
theorem sk {A:Around} {s:Shared} {x y:V} {u v:Value} {a b:D} (rx:RelV x u) (ry:RelV y v) (ra:Rep K H x a) (rb:Rep K H y b) (g1:c4 a = true) (g2:c4 b = true):SeqAt.RcAt A s u v (eqF a b)/\SeqAt.RcNeAt A s u v (!eqF a b):=by
 cases ra with
 | non =>
  cases (show u = Value.none from rx)
  cases rb with
  | non=>cases (show v = Value.none from ry);exact ⟨SeqAt.RcAt.none_none,SeqAt.RcNeAt.none_none⟩
  | bl c=>cases (show v = Value.bool c from ry);exact ⟨SeqAt.RcAt.none_bool c,SeqAt.RcNeAt.none_bool c⟩
  | int j=>obtain ⟨t,rfl⟩:=(show ∃ t,v = Value.int j t from ry);exact ⟨SeqAt.RcAt.none_int j t,SeqAt.RcNeAt.none_int j t⟩
  | str j=>obtain ⟨t,rfl⟩:=(show ∃ t,v = Value.str j t from ry);exact ⟨SeqAt.RcAt.none_str j t,SeqAt.RcNeAt.none_str j t⟩
  | _=>exact absurd g2 Bool.false_ne_true
 | bl i =>
  cases (show u = Value.bool i from rx)
  cases rb with
  | non=>cases (show v = Value.none from ry);exact ⟨SeqAt.RcAt.bool_none i,SeqAt.RcNeAt.bool_none i⟩
  | bl c=>cases (show v = Value.bool c from ry);exact ⟨SeqAt.RcAt.bool_bool i c,SeqAt.RcNeAt.bool_bool i c⟩
  | int j=>obtain ⟨t,rfl⟩:=(show ∃ t,v = Value.int j t from ry);exact ⟨SeqAt.RcAt.bool_int i j t,SeqAt.RcNeAt.bool_int i j t⟩
  | str j=>obtain ⟨t,rfl⟩:=(show ∃ t,v = Value.str j t from ry);exact ⟨SeqAt.RcAt.bool_str i j t,SeqAt.RcNeAt.bool_str i j t⟩
  | _=>exact absurd g2 Bool.false_ne_true
 | int i =>
  obtain ⟨t',rfl⟩:=(show ∃ t,u = Value.int i t from rx)
  cases rb with
  | non=>cases (show v = Value.none from ry);exact ⟨SeqAt.RcAt.int_none i t',SeqAt.RcNeAt.int_none i t'⟩
  | bl c=>cases (show v = Value.bool c from ry);exact ⟨SeqAt.RcAt.int_bool i t' c,SeqAt.RcNeAt.int_bool i t' c⟩
  | int j=>obtain ⟨t,rfl⟩:=(show ∃ t,v = Value.int j t from ry);exact ⟨SeqAt.RcAt.int_int i t' j t,SeqAt.RcNeAt.int_int i t' j t⟩
  | str j=>obtain ⟨t,rfl⟩:=(show ∃ t,v = Value.str j t from ry);exact ⟨SeqAt.RcAt.int_str i t' j t,SeqAt.RcNeAt.int_str i t' j t⟩
  | _=>exact absurd g2 Bool.false_ne_true
 | str i =>
  obtain ⟨t',rfl⟩:=(show ∃ t,u = Value.str i t from rx)
  cases rb with
  | non=>cases (show v = Value.none from ry);exact ⟨SeqAt.RcAt.str_none i t',SeqAt.RcNeAt.str_none i t'⟩
  | bl c=>cases (show v = Value.bool c from ry);exact ⟨SeqAt.RcAt.str_bool i t' c,SeqAt.RcNeAt.str_bool i t' c⟩
  | int j=>obtain ⟨t,rfl⟩:=(show ∃ t,v = Value.int j t from ry);exact ⟨SeqAt.RcAt.str_int i t' j t,SeqAt.RcNeAt.str_int i t' j t⟩
  | str j=>obtain ⟨t,rfl⟩:=(show ∃ t,v = Value.str j t from ry);exact ⟨SeqAt.RcAt.str_str i t' j t,SeqAt.RcNeAt.str_str i t' j t⟩
  | _=>exact absurd g2 Bool.false_ne_true
 | _=>exact absurd g1 Bool.false_ne_true
end
theorem Az {X:Cx} {pins:List (Addr × Obj)} {σ:L2.St} {H:Hp} {s:Shared} (I:Inv X pins σ H s) (hu:X.A.units < cLine) {x y:V} {u v:Value} {a b:D} {c:Bool} (rx:RelV x u) (ry:RelV y v) (ra:Rep X.K H x a) (rb:Rep X.K H y b) (e:uH a b = some c) :
 SeqAt.RcAt X.A s u v c/\SeqAt.RcNeAt X.A s u v (!c):=by
 unfold uH at e
 split at e
 . -- two tuples
   rename_i as bs
   cases ra with
   | @tup p vs _ hp rp =>
    cases rb with
    | @tup q ws _ hq rq =>
     split at e
     . rename_i hf
       cases e
       rw [Bool.and_eq_true] at hf
       cases (show u = Value.ref p from rx)
       cases (show v = Value.ref q from ry)
       obtain ⟨its,r1,t1,_⟩:=I.tuple hp
       obtain ⟨jts,r2,t2,_⟩:=I.tuple hq
       have l1:its.toArray.size = as.length:=by rw [List.size_toArray,<- r1.length,rp.length]
       have l2:jts.toArray.size = bs.length:=by rw [List.size_toArray,<- r2.length,rq.length]
       have h1:=SeqAt.RcAt.tuples (A:=X.A) (s:=s) t1 t2 hu (jo r1 r2 rp rq hf.1 hf.2)
       have h2:=SeqAt.RcNeAt.tuples (A:=X.A) (s:=s) t1 t2 hu (jo r1 r2 rp rq hf.1 hf.2)
       rw [l1,l2,l8] at h1 h2
       exact ⟨h1,h2⟩
     . cases e
 . -- two lists
   rename_i as bs
   cases ra with
   | @lst p vs _ hp rp =>
    cases rb with
    | @lst q ws _ hq rq =>
     split at e
     . rename_i hf
       cases e
       rw [Bool.and_eq_true] at hf
       cases (show u = Value.ref p from rx)
       cases (show v = Value.ref q from ry)
       obtain ⟨its,r1,t1,_⟩:=I.list (SqL.of (K:=X.K) hp)
       obtain ⟨jts,r2,t2,_⟩:=I.list (SqL.of (K:=X.K) hq)
       have l1:its.toArray.size = as.length:=by rw [List.size_toArray,<- r1.length,rp.length]
       have l2:jts.toArray.size = bs.length:=by rw [List.size_toArray,<- r2.length,rq.length]
       by_cases hl:its.toArray.size = jts.toArray.size
       . have h1:=SeqAt.RcAt.lists (A:=X.A) (s:=s) t1.isList t2.isList hl hu (jo r1 r2 rp rq hf.1 hf.2)
         have h2:=SeqAt.RcNeAt.lists (A:=X.A) (s:=s) t1.isList t2.isList hl hu (jo r1 r2 rp rq hf.1 hf.2)
         have h3:(List.range its.toArray.size).all (fun j=>eqF (as.getD j .non) (bs.getD j .non)) = mG as bs:=by
          rw [<- l8,l1,show min as.length bs.length = as.length by omega,show (as.length == bs.length) = true by rw [beq_iff_eq];omega,Bool.and_true]
         rw [h3] at h1 h2
         exact ⟨h1,h2⟩
       . have h1:=SeqAt.RcAt.lists_lengths (A:=X.A) (s:=s) t1.isList t2.isList (by simpa [bne_iff_ne] using hl) hu
         have h2:=SeqAt.RcNeAt.lists_lengths (A:=X.A) (s:=s) t1.isList t2.isList (by simpa [bne_iff_ne] using hl) hu
         have h3:mG as bs = false:=by
          rw [<- l8,show (as.length == bs.length) = false by rw [beq_eq_false_iff_ne];omega,Bool.and_false]
         rw [h3]
         exact ⟨h1,h2⟩
     . cases e
 . cases e
   cases ra
   cases rb with
   | @tup q ws bs hq rq =>
    cases (show u = Value.none from rx)
    cases (show v = Value.ref q from ry)
    obtain ⟨its,r1,t1,_⟩:=I.tuple hq
    exact ⟨SeqAt.RcAt.none_tuple t1 hu,SeqAt.RcNeAt.none_tuple t1 hu⟩
 . cases e
   cases rb
   cases ra with
   | @tup q ws bs hq rq =>
    cases (show v = Value.none from ry)
    cases (show u = Value.ref q from rx)
    obtain ⟨its,r1,t1,_⟩:=I.tuple hq
    exact ⟨SeqAt.RcAt.tuple_none t1 hu,SeqAt.RcNeAt.tuple_none t1 hu⟩
 . cases e
   cases ra
   cases rb with
   | @lst q ws bs hq rq =>
    cases (show u = Value.none from rx)
    cases (show v = Value.ref q from ry)
    obtain ⟨its,r1,t1,_⟩:=I.list (SqL.of (K:=X.K) hq)
    exact ⟨SeqAt.RcAt.none_list t1.isList hu,SeqAt.RcNeAt.none_list t1.isList hu⟩
 . cases e
   cases rb
   cases ra with
   | @lst q ws bs hq rq =>
    cases (show v = Value.none from ry)
    cases (show u = Value.ref q from rx)
    obtain ⟨its,r1,t1,_⟩:=I.list (SqL.of (K:=X.K) hq)
    exact ⟨SeqAt.RcAt.list_none t1.isList hu,SeqAt.RcNeAt.list_none t1.isList hu⟩
 . split at e
   . rename_i hf
     cases e
     rw [Bool.and_eq_true] at hf
     exact sk rx ry ra rb hf.1 hf.2
   . cases e
def AI (K:PySem.W.Frag):R2:=fun x y H Q=>∃ a b c,Rep K H x a/\Rep K H y b/\uH a b = some c/\Q (.bl c) H
def AD (K:PySem.W.Frag):R2:=fun x y H Q=>∃ a b c,Rep K H x a/\Rep K H y b/\uH a b = some c/\Q (.bl (!c)) H
theorem zC {X:Cx} (hu:X.A.units < cLine):OpR X (compareOp .Eq) (AI X.K):=by
 intro pins s σ H x y v u Q I rx ry h
 obtain ⟨a,b,c,ra,rb,e,q⟩:=h
 exact (Az I hu rx ry ra rb e).1 X.prog X.w _ _ ⟨.bl c,H,I,rfl,q⟩
theorem zy {X:Cx} (hu:X.A.units < cLine):OpR X (compareOp .NotEq) (AD X.K):=by
 intro pins s σ H x y v u Q I rx ry h
 obtain ⟨a,b,c,ra,rb,e,q⟩:=h
 exact (Az I hu rx ry ra rb e).2 X.prog X.w _ _ ⟨.bl (!c),H,I,rfl,q⟩
theorem AL {K:PySem.W.Frag}:R2D K (AI K) gEq:=by
 intro x y H Q a b d ra rb e k
 unfold gEq at e
 obtain ⟨c,hc,e⟩:=Zb.mp e
 cases e
 exact ⟨a,b,c,ra,rb,hc,k _ H (Same.refl H) (.bl _)⟩
theorem AK {K:PySem.W.Frag}:R2D K (AD K) gNe:=by
 intro x y H Q a b d ra rb e k
 unfold gNe at e
 obtain ⟨c,hc,e⟩:=Zb.mp e
 cases e
 exact ⟨a,b,c,ra,rb,hc,k _ H (Same.refl H) (.bl _)⟩
section
variable {X:Cx} {a b e:Expr} {fa fb f:FD} {pos:Pos}
theorem zb (hu:X.A.units < cLine) (ha:PD X a fa) (hb:PD X b fb):PTD X (.Compare a [.Eq] [b] pos) (fT (f2 gEq fa fb)):=dU (zC hu) AL ha hb (eB _)
theorem za (hu:X.A.units < cLine) (ha:PD X a fa) (hb:PD X b fb):PTD X (.Compare a [.NotEq] [b] pos) (fT (f2 gNe fa fb)):=dU (zy hu) AK ha hb (eB _)
abbrev gLt:D->D->Option D:=gI0 fun i j=>.bl (decide (i < j))
abbrev gLe:D->D->Option D:=gI0 fun i j=>.bl (decide (i <= j))
abbrev gGt:D->D->Option D:=gI0 fun i j=>.bl (decide (j < i))
theorem x8 (ha:PD X a fa) (hb:PD X b fb):PD X (.Compare a [.Lt] [b] pos) (f2 gLt fa fb):=qK ya (jW fun _ _ _=>.bl _) ha hb (eB _)
theorem AT (ha:PD X a fa) (hb:PD X b fb):PD X (.Compare a [.LtE] [b] pos) (f2 gLe fa fb):=qK yb (jW fun _ _ _=>.bl _) ha hb (eB _)
theorem nQ (ha:PD X a fa) (hb:PD X b fb):PTD X (.Compare a [.Lt] [b] pos) (fT (f2 gLt fa fb)):=dU ya (jW fun _ _ _=>.bl _) ha hb (eB _)
theorem qA (ha:PD X a fa) (hb:PD X b fb):PTD X (.Compare a [.LtE] [b] pos) (fT (f2 gLe fa fb)):=dU yb (jW fun _ _ _=>.bl _) ha hb (eB _)
theorem nR (ha:PD X a fa) (hb:PD X b fb):PTD X (.Compare a [.Gt] [b] pos) (fT (f2 gGt fa fb)):=dU AW (jW fun _ _ _=>.bl _) ha hb (eB _)
def v7:D->Bool
 | .non=>true
 | _=>false
def mF (a b:D):Option D:=match b with
 | .non=>some (.bl (v7 a))
 | _=>none
def jZ (a b:D):Option D:=match b with
 | .non=>some (.bl (!v7 a))
 | _=>none
theorem pP {K:PySem.W.Frag} {H:Hp} {x:V} {a:D} (r:Rep K H x a):decide (x = .non) = v7 a:=by
 cases r <;> rfl
theorem yP {K:PySem.W.Frag}:R2D K (fun x y H Q=>y = .non/\Q (.bl (decide (x = .non))) H) mF:=by
 intro x y H Q a b d ra rb e k
 cases rb with
 | non=>cases e;exact ⟨rfl,by rw [pP ra];exact k _ H (Same.refl H) (.bl _)⟩
 | _=>cases e
theorem w8 {K:PySem.W.Frag}:R2D K (fun x y H Q=>y = .non/\Q (.bl (!decide (x = .non))) H) jZ:=by
 intro x y H Q a b d ra rb e k
 cases rb with
 | non=>cases e;exact ⟨rfl,by rw [pP ra];exact k _ H (Same.refl H) (.bl _)⟩
 | _=>cases e
theorem sw (ha:PD X a fa) (hb:PD X b fb):PTD X (.Compare a [.Is] [b] pos) (fT (f2 mF fa fb)):=dU zB yP ha hb (eB _)
theorem pd (ha:PD X a fa) (hb:PD X b fb):PTD X (.Compare a [.IsNot] [b] pos) (fT (f2 jZ fa fb)):=dU xp w8 ha hb (eB _)
end
inductive Res where
 | nx (δ:DS)
 | rt (d:D)
 | bk (δ:DS)
 | ct (δ:DS)
 | ex (C:Addr) (δ:DS)
 | mk (C:Addr) (δ:DS)
abbrev SD:=DS->Option Res
def RP (X:Cx) (E:mh) (H:Hp):Res->Prop
 | .nx δ=>∀ σ' H',Same H H'->RepS X.K H' σ' δ->E.nx σ' H'
 | .rt d=>∀ v H',Same H H'->Rep X.K H' v d->E.rt v H'
 | .bk δ=>∀ σ' H',Same H H'->RepS X.K H' σ' δ->E.bk σ' H'
 | .ct δ=>∀ σ' H',Same H H'->RepS X.K H' σ' δ->E.ct σ' H'
 | .ex C δ=>∀ σ' H',Same H H'->RepS X.K H' σ' δ->Bi X C σ' H'
 | .mk C δ=>∀ σ' H',Same H H'->RepS X.K H' σ' δ->yj X C σ' H'
theorem RP.mono {X:Cx} {E:mh} {H H1:Hp} {r:Res} (s:Same H H1) (h:RP X E H r):RP X E H1 r:=by
 cases r with
 | nx δ=>exact fun σ' H' s2 R=>h σ' H' (s.trans s2) R
 | rt d=>exact fun v H' s2 R=>h v H' (s.trans s2) R
 | bk δ=>exact fun σ' H' s2 R=>h σ' H' (s.trans s2) R
 | ct δ=>exact fun σ' H' s2 R=>h σ' H' (s.trans s2) R
 | ex C δ=>exact fun σ' H' s2 R=>h σ' H' (s.trans s2) R
 | mk C δ=>exact fun σ' H' s2 R=>h σ' H' (s.trans s2) R
def upS (X:Cx) (s:SD):TS:=fun E σ H=>∃ δ r,RepS X.K H σ δ/\s δ = some r/\RP X E H r
def PSD (X:Cx) (st:Stmt) (s:SD):Prop:=PS X st (upS X s)
def oN (X:Cx) (sts:List Stmt) (s:SD):Prop:=PSs X sts (upS X s)
theorem fU {X:Cx} {st:Stmt} {t t':TS} (h:PS X st t) (w:∀ E σ H,t' E σ H->t E σ H):PS X st t':=fun pins s σ H E I q=>h pins s σ H E I (w E σ H q)
theorem m7 {X:Cx} {st:List Stmt} {t t':TS} (h:PSs X st t) (w:∀ E σ H,t' E σ H->t E σ H):PSs X st t':=fun pins s σ H E I q=>h pins s σ H E I (w E σ H q)
def aZ:SD:=fun δ=>some (.nx δ)
def aS (u:SD):Res->Option Res
 | .nx δ=>u δ
 | r=>some r
def aO (s u:SD):SD:=fun δ=>(s δ).bind (aS u)
def bv (f:FD):SD:=fun δ=>(f δ).bind fun d=>some (.rt d)
def aT (f:FD):SD:=fun δ=>(f δ).bind fun _=>some (.nx δ)
def bt (i:Nat) (f:FD):SD:=fun δ=>(f δ).bind fun d=>some (.nx (δ.set i (some d)))
def sIf (c:FT) (s u:SD):SD:=fun δ=>(c δ).bind fun b=>match b with
 | true=>s δ
 | false=>u δ
def yJ:SD:=fun _=>none
section
variable {X:Cx} {st:Stmt} {rest:List Stmt} {s u:SD} {e:Expr} {f:FD} {c:FT} {pos:Pos}
theorem jg:oN X [] aZ:=m7 nU fun E σ H ⟨δ,r,R,e,k⟩=>by cases e;exact k σ H (Same.refl H) R
theorem bS (h1:PSD X st s) (h2:oN X rest u):oN X (st :: rest) (aO s u):=m7 (lf h1 h2) fun E σ H ⟨δ,r,R,e,k⟩=>by
 unfold aO at e
 obtain ⟨r1,e1,e⟩:=Za.mp e
 refine ⟨δ,r1,R,e1,?_⟩
 cases r1 with
 | nx δ'=>exact fun σ' H' s1 R1=>⟨δ',r,R1,e,k.mono s1⟩
 | rt d=>cases e;exact k
 | bk d=>cases e;exact k
 | ct d=>cases e;exact k
 | ex C d=>cases e;exact k
 | mk C d=>cases e;exact k
theorem bL (h:PSD X st s):oN X [st] s:=nS h
theorem cj (he:PD X e f):PSD X (.Return (some e) pos) (bv f):=fU (qB he) fun E σ H ⟨δ,r,R,q,k⟩=>by
 unfold bv at q
 obtain ⟨d,ed,q⟩:=Za.mp q
 cases q
 exact ⟨δ,d,R,ed,k⟩
theorem dW (i:Nat) {x:Str} {pos':Pos} (hN:X.N.Nodup) (he:PD X e f) (hi:X.N[i]? = some x:=by rfl) (hx:Loc X.env.scope x:=by first | exact Or.inl rfl | exact Or.inr rfl) (hs:swapsWith e (some (.Name x pos')) pos.line X.env = pure false:=by rfl) (hf:X.fn x = true \/ X.env.scope.names.lookup x = some .local:=by first | exact .inl rfl | exact .inr rfl | assumption) :
 PSD X (.Assign [.Name x pos'] e pos) (bt i f):=fU (nV hN hi hx he hs hf) fun E σ H ⟨δ,r,R,q,k⟩=>by
 unfold bt at q
 obtain ⟨d,ed,q⟩:=Za.mp q
 cases q
 exact ⟨δ,d,R,ed,fun v H' s1 r1=>k (σ.set i (some v)) H' s1 ((R.mono s1).set i r1)⟩
theorem lg {cx:Expr} {a b:List Stmt} (hc:PTD X cx c) (ha:oN X a s) (hb:oN X b u):PSD X (.If cx a b pos) (sIf c s u):=fU (vv hc ha hb) fun E σ H ⟨δ,r,R,q,k⟩=>by
 unfold sIf at q
 obtain ⟨d,ed,q⟩:=Za.mp q
 refine ⟨δ,d,R,ed,fun H' s1=>?_⟩
 cases d with
 | true=>rw [if_pos rfl];exact ⟨δ,r,R.mono s1,q,k.mono s1⟩
 | false=>rw [if_neg Bool.false_ne_true];exact ⟨δ,r,R.mono s1,q,k.mono s1⟩
theorem mT:PSD X st yJ:=fU vt fun E σ H ⟨δ,r,R,e,k⟩=>by cases e
def bw (i j:Nat) (g:FA):SD:=fun δ=>(g δ).bind fun ds=>match ds with
 | [a,b]=>some (.nx ((δ.set i (some a)).set j (some b)))
 | _=>none
theorem sy (i j:Nat) {x y:Str} {a b:Expr} {g:FA} {px py pt:Pos} {kt k2 pt2} (hc:X.calm = true) (hN:X.N.Nodup) (ha:PAD X [a,b] g) (hi:X.N[i]? = some x:=by rfl) (hj:X.N[j]? = some y:=by rfl) (hij:i ≠ j:=by decide)
 (hx:X.env.scope.names.lookup x = some .local:=by rfl) (hy:X.env.scope.names.lookup y = some .local:=by rfl)
 (hw:swappedStores [.Tuple [.Name x px,.Name y py] kt pt] (.Tuple [a,b] k2 pt2) X.env = pure (some [x,y]):=by rfl)
 (hs:swapsWithSole [.Tuple [.Name x px,.Name y py] kt pt] (.Tuple [a,b] k2 pt2) pos.line X.env = pure false:=by rfl) :
 PSD X (.Assign [.Tuple [.Name x px,.Name y py] kt pt] (.Tuple [a,b] k2 pt2) pos) (bw i j g):=fU (zg hc hN hi hj hij hx hy ha hw hs) fun E σ H ⟨δ,r,R,q,k⟩=>by
 unfold bw at q
 obtain ⟨ds,ed,q⟩:=Za.mp q
 split at q
 . rename_i d1 d2
   cases q
   refine ⟨δ,_,R,ed,fun vs H' s1 r1 _=>?_⟩
   obtain ⟨v,w,rfl,rv,rw'⟩:=xY r1
   exact ⟨v,w,rfl,k _ H' s1 (((R.mono s1).set i rv).set j rw')⟩
 . cases q
def bE (i j:Nat) (f:FD):SD:=fun δ=>(f δ).bind fun d=>match d with
 | .tup [a,b]=>some (.nx ((δ.set i (some a)).set j (some b)))
 | _=>none
end
def d9:Nat->FT->SD->SD
 | 0,_,_=>fun _=>none
 | n + 1,c,s=>fun δ=>(c δ).bind fun b=>match b with
  | true=>(s δ).bind fun r=>match r with
   | .nx δ'=>d9 n c s δ'
   | .ct δ'=>d9 n c s δ'
   | .bk δ'=>some (.nx δ')
   | .rt d=>some (.rt d)
   | .ex C δ'=>some (.ex C δ')
   | .mk C δ'=>some (.mk C δ')
  | false=>some (.nx δ)
theorem mS {X:Cx} {cx:Expr} {body:List Stmt} {c:FT} {s:SD} {pos:Pos} (n:Nat) (hp:PassesOwn (model X.prog X.w) X.A X.env X.xe) (hc:PTD X cx c) (hb:oN X body s):PSD X (.While cx body [] pos) (d9 n c s):=fU (vq hp hc hb) fun E σ H ⟨δ,r,R,e,k⟩=>by
 refine ⟨fun m σ H=>∃ δ r,RepS X.K H σ δ/\d9 m c s δ = some r/\RP X E H r,⟨n,δ,r,R,e,k⟩,?_⟩
 rintro m σ H ⟨δ,r,R,e,k⟩
 cases m with
 | zero=>exact absurd e (by intro z;cases z)
 | succ m =>
  obtain ⟨b,eb,e⟩:=Za.mp (show ((c δ).bind _) = some r from e)
  refine ⟨δ,b,R,eb,fun H1 s1=>?_⟩
  cases b with
  | true =>
   rw [if_pos rfl]
   obtain ⟨r1,e1,e⟩:=Za.mp (show ((s δ).bind _) = some r from e)
   refine ⟨fun σ' H'=>∃ m',m' < m + 1/\∃ δ r,RepS X.K H' σ' δ/\d9 m' c s δ = some r/\RP X E H' r,fun _ _ z=>z,⟨δ,r1,R.mono s1,e1,?_⟩⟩
   cases r1 with
   | nx δ'=>exact fun σ' H' s2 R2=>⟨m,Nat.lt_succ_self m,δ',r,R2,e,k.mono (s1.trans s2)⟩
   | ct δ'=>exact fun σ' H' s2 R2=>⟨m,Nat.lt_succ_self m,δ',r,R2,e,k.mono (s1.trans s2)⟩
   | bk δ'=>cases e;exact fun σ' H' s2 R2=>k σ' H' (s1.trans s2) R2
   | rt d=>cases e;exact fun v H' s2 R2=>k v H' (s1.trans s2) R2
   | ex C δ'=>cases e;exact fun σ' H' s2 R2=>k σ' H' (s1.trans s2) R2
   | mk C δ'=>cases e;exact fun σ' H' s2 R2=>k σ' H' (s1.trans s2) R2
  | false =>
   rw [if_neg Bool.false_ne_true]
   cases e
   exact k σ H1 s1 (R.mono s1)
def ItD (K:PySem.W.Frag) (J:It) (H1:Hp) (ds:List D):Prop:=∀ i H2,Same H1 H2 ->
 (i < ds.length->J.go i H2/\∀ x H',J.yld i H2 x H'->Same H2 H'/\∃ d,ds[i]? = some d/\Rep K H' x d)/\(ds.length <= i->J.stop i H2)
def upI (K:PySem.W.Frag) (src:FA):TI:=fun σ H R=>∃ δ ds,RepS K H σ δ/\src δ = some ds/\∀ J H1,Same H H1->ItD K J H1 ds->R J H1
def PID (X:Cx) (tg iter:Expr) (src:FA):Prop:=PI X tg iter (upI X.K src)
theorem qW {X:Cx} {tg iter:Expr} {t t':TI} (h:PI X tg iter t) (w:∀ σ H R,t' σ H R->t σ H R):PI X tg iter t':=fun pins s σ H R I q=>h pins s σ H R I (w σ H R q)
def asL:D->Option (List D)
 | .lst ds=>some ds
 | .seq ds=>some ds
 | _=>none
theorem tF {K:PySem.W.Frag} {H1:Hp} {a:Addr} {vs:List V} {ds:List D} (hq:SqL K H1 a vs) (r:Reps K H1 vs ds):ItD K (Itl K a) H1 ds:=by
 intro i H2 s
 have hq2:=s.seq hq
 have r2:=r.mono s
 have hl:=r2.length
 refine ⟨fun hi=>⟨⟨vs,vs[i],hq2,by simp [show i < vs.length by omega]⟩,fun x H' y=>?_⟩,fun hi=>⟨vs,hq2,by omega⟩⟩
 obtain ⟨e,y⟩:=y
 subst e
 obtain ⟨d,h1,h2⟩:=r2.getV (y vs hq2)
 exact ⟨Same.refl _,d,h1,h2⟩
theorem eS {X:Cx} {tg l:Expr} {f:FD} (hl:PD X l f):PID X tg l (fun δ=>(f δ).bind asL):=qW (sG hl) fun σ H R ⟨δ,ds,R0,e,k⟩=>by
 obtain ⟨d,ed,e⟩:=Za.mp e
 refine ⟨δ,d,R0,ed,fun v H1 s1 r1=>?_⟩
 cases r1 with
 | @lst p vs es hp rp=>cases e;exact ⟨p,rfl,⟨vs,SqL.of hp⟩,k _ H1 s1 (tF (SqL.of hp) rp)⟩
 | @seq p vs es hp rp=>cases e;exact ⟨p,rfl,⟨vs,hp⟩,k _ H1 s1 (tF hp rp)⟩
 | _=>cases e
def upG (K:PySem.W.Frag) (g:D->DS->Option DS):TG:=fun v σ H Q=>∃ d δ δ',Rep K H v d/\RepS K H σ δ/\g d δ = some δ'/\∀ σ',RepS K H σ' δ'->Q σ' H
def PGD (X:Cx) (tg:Expr) (g:D->DS->Option DS):Prop:=PG X tg (upG X.K g)
def bu (i:Nat):D->DS->Option DS:=fun d δ=>some (δ.set i (some d))
theorem pi {X:Cx} (i:Nat) {x:Str} {pos:Pos} (hN:X.N.Nodup) (hi:X.N[i]? = some x:=by rfl) (hx:Loc X.env.scope x:=by first | exact Or.inl rfl | exact Or.inr rfl) (hf:X.fn x = true \/ X.env.scope.names.lookup x = some .local:=by first | exact .inl rfl | exact .inr rfl | assumption):PGD X (.Name x pos) (bu i) :=
 fun pins s σ H v u Q I r ⟨d,δ,δ',rv,R,e,k⟩=>by
  cases e
  exact gz hN hi hx hf pins s σ H v u Q I r (k _ (R.set i rv))
def bx (g:D->DS->Option DS) (s:SD):List D->SD
 | []=>fun δ=>some (.nx δ)
 | d :: ds=>fun δ=>(g d δ).bind fun δ1=>(s δ1).bind fun r=>match r with
  | .nx δ'=>bx g s ds δ'
  | .ct δ'=>bx g s ds δ'
  | .bk δ'=>some (.nx δ')
  | .rt d=>some (.rt d)
  | .ex C δ'=>some (.ex C δ')
  | .mk C δ'=>some (.mk C δ')
def bF (src:FA) (g:D->DS->Option DS) (s:SD):SD:=fun δ=>(src δ).bind fun ds=>bx g s ds δ
def az:Option Res->Option D
 | some (.rt d)=>some d
 | some (.nx _)=>some .non
 | _=>none
def start (n:Nat) (ds:List D):DS:=ds.map some ++ List.replicate (n - ds.length) none
section
variable {P:Program} {w:World} {K:PySem.W.Frag} {mg:Str->Option Value} {base:Heap}
theorem cI {x qual:Str} {st:Stmt} {f:Addr} {fd:FuncData} {N ps:List Str} {k:Nat} {G:List D->Option D} (F:Fun K x qual st f fd) (S:aQ N ps (ak st))
 (hbody:∀ (cdv:Value) (A:Around) (outer:List Env) (s:Shared) (H:Hp) (E:XK) (ds:List D) (d:D),Room k (A.deeper (envOfC qual (ak st) s.heap.objs.size f cdv))->G ds = some d->ds.length = ps.length ->
  ∃ t,oN (lV CX0 P w K mg base N qual (ak st) f cdv A outer s H E).nox (bR st) t/\az (t (start N.length ds)) = some d):FnOk P w K mg base CX0 (k + 1) f fd ps (cn K ps.length G):=by
 refine F.ok S (fun vs H Q E h=>h.1) (fun cdv A outer s H vs Q E hr h=>?_)
 obtain ⟨hl,ds,d,r,e,q⟩:=h
 obtain ⟨t,ht,hq⟩:=hbody cdv A outer s H E ds d hr e (r.length.symm.trans hl)
 refine ⟨_,ht,start N.length ds,?_⟩
 cases z:t (start N.length ds) with
 | none=>rw [z] at hq;cases hq
 | some res =>
  rw [z] at hq
  refine ⟨res,RepS.start r,rfl,?_⟩
  cases res with
  | rt d'=>cases hq;exact q
  | nx δ=>cases hq;exact fun σ' H' s1 _=>q _ H' s1 .non
  | bk δ=>cases hq
  | ct δ=>cases hq
  | ex C δ=>cases hq
  | mk C δ=>cases hq
structure Has (P:Program) (w:World) (K:PySem.W.Frag) (mg:Str->Option Value) (base:Heap) (k:Nat) (x:Str) (ps:List Str) (G:List D->Option D):Prop where
 ex:∃ f fd,FnOk P w K mg base CX0 k f fd ps (cn K ps.length G)/\mg x = some (.ref f)/\PySem.W.keepIn K (.ref f) = true/\Binds K fd ps []
end
theorem aR {X:Cx} {e:Expr} {es:List Expr} {g:FA} {pos p:Pos} {k j:Nat} {x:Str} {ps:List Str} {G:List D->Option D} (F:Has X.prog X.w X.K X.mg X.base k x ps G) (hr:Room j X.A) (ha:PAD X (e :: es) g) (hk:k <= j:=by decide) (hg:Gl X x:=by rfl)
 (hn:(e :: es).length = ps.length:=by rfl) (hdb:(x == ("__debug__":Str)) = false:=by decide) (he:starEach (e :: es) X.env = (false,eval e X.env) :: starEach es X.env:=by rfl) (hpl:(backTo pos (starEach es X.env)).any (·.1) = false:=by rfl) :
 PD X (.Call (.Name x p) (e :: es) [] pos) (au G g):=by
 obtain ⟨f,fd,F,hm,kp,hb⟩:=F.ex
 exact xo F (hr.mono hk) hg hm kp hb ha hn hdb he hpl
end Dl
namespace Dl
open PySem PySem.Spec PyProof.Rows L2
def spLaw (K:PySem.W.Frag):Sp:=fun vs H Q _=>∃ (a:Addr) (ns:List Int),vs = [.ref a]/\SqL K H a (ns.map V.int)/\ns.length <= 63/\∀ H',Q (.bl true) H'
end Dl
namespace Dl
noncomputable def fn (S:List D->D->Prop):List D->Option D:=fun ds=>by
 classical exact if h:∃ d,S ds d then some h.choose else none
theorem bI {S:List D->D->Prop} {ds:List D} {d:D} (h:fn S ds = some d):S ds d:=by
 unfold fn at h
 split at h
 . rename_i q
   have e:=Option.some.inj h
   rw [<- e]
   exact q.choose_spec
 . cases h
theorem cu {S:List D->D->Prop} {ds:List D} {d:D} (u:∀ d',S ds d'->d' = d) (h:S ds d):fn S ds = some d:=by
 unfold fn
 have q:∃ d,S ds d:=⟨d,h⟩
 rw [dif_pos q]
 exact congrArg some (u _ q.choose_spec)
theorem aw (a b:Int):gNe (.int a) (.int b) = some (.bl (!(a == b))):=rfl
theorem ay (a b:Int):gEq (.int a) (.int b) = some (.bl (a == b)):=rfl
theorem aH (a b:Bool):gEq (.bl a) (.bl b) = some (.bl (a == b)):=rfl
theorem aq (a b c d:Int):gEq (.tup [.int a,.int b]) (.tup [.int c,.int d]) = some (.bl (a == c && b == d)):=by
 show some (D.bl (a == c && (b == d && true))) = _
 rw [Bool.and_true]
theorem al (a b c d:Int):gNe (.tup [.int a,.int b]) (.tup [.int c,.int d]) = some (.bl (!(a == c && b == d))):=by
 show some (D.bl (!(a == c && (b == d && true)))) = _
 rw [Bool.and_true]
theorem ar (a b:Int):jH (.int a) (.int b) = some (.int (a + b)):=rfl
theorem aV {C:Int->Int->Prop} [∀ i j,Decidable (C i j)] {g:Int->Int->D} {i j:Int} (h:C i j):gI C g (.int i) (.int j) = some (g i j):=if_pos h
end Dl
namespace Dl
theorem ag (n:String) (p:D->Option Bool) (d:D):wf n p [d,.ty n] = (p d).map D.bl:=if_pos rfl
theorem aG (a b:D):gIx (.tup [a,b]) (.int 0) = some a:=rfl
theorem aF (a b:D):gIx (.tup [a,b]) (.int 1) = some b:=rfl
theorem ax (a b:D):ot [.tup [a,b]] = some (.int 2):=rfl
theorem ao (ds:List D):ot [.seq ds] = some (.int ds.length):=rfl
theorem oY {n:Nat} {c:FT} {s:SD} {δ δ':DS} (hc:c δ = some true) (hs:s δ = some (.nx δ')):d9 (n + 1) c s δ = d9 n c s δ':=by
 simp only [d9,hc,hs,Zc]
theorem t8 {x y:Int} (h0:0 <= x) (h:x <= y) (hy:Bd y):Bd x:=Nat.lt_of_le_of_lt (show x.natAbs <= y.natAbs by omega) hy
end Dl
namespace Dl
open PySem PySem.Spec PyProof.Rows L2
abbrev FO:=DS->Option (Option Int)
def asI:D->Option (Option Int)
 | .int i=>some (some i)
 | _=>none
def faS (f:FD):FO:=fun δ=>(f δ).bind asI
def w4 (n d:Nat):Option Int->Nat
 | none=>d
 | some v=>if v < 0 then (v + (n:Int)).toNat else min v.toNat n
def cutD (ds:List D) (lo hi:Option Int):List D:=(ds.drop (w4 ds.length 0 lo)).take (w4 ds.length ds.length hi - w4 ds.length 0 lo)
def fSl (f:FD) (lo hi:FO):FD:=fun δ=>(f δ).bind fun d=>(asL d).bind fun ds=>(lo δ).bind fun l=>(hi δ).bind fun h=>some (.lst (cutD ds l h))
def dfl (G:List D->Option D) (dv:List Int):List D->Option D:=fun ds=>G (ds ++ dv.map D.int)
def lG (g:D->Option D):List D->Option (List D)
 | []=>some []
 | d :: ds=>(g d).bind fun x=>(lG g ds).bind fun xs=>some (x :: xs)
def cg (js:List Nat) (δ:DS):DS:=js.map fun j=>match δ[j]? with
 | some o=>o
 | none=>none
def lO (src:FA) (js:List Nat) (elt:FD):FD:=fun δ=>(src δ).bind fun ds=>(lG (fun d=>elt (some d :: cg js δ)) ds).bind fun xs=>if xs.length <= 1000 then some (.lst xs) else none
def fQ (a b c:Int):List D:=(List.range ((b - a + c - 1) / c).toNat).map fun i=>.int (a + (i:Nat) * c)
def asR:List D->Option (List D)
 | [.int b]=>if -(2 ^ 62) <= b/\b < 2 ^ 62 then some (fQ 0 b 1) else none
 | [.int a,.int b]=>if -(2 ^ 62) <= a/\a < 2 ^ 62/\-(2 ^ 62) <= b/\b < 2 ^ 62 then some (fQ a b 1) else none
 | [.int a,.int b,.int c]=>if -(2 ^ 62) <= a/\a < 2 ^ 62/\-(2 ^ 62) <= b/\b < 2 ^ 62/\c = 2 then some (fQ a b c) else none
 | _=>none
end Dl
namespace Dl
theorem uN (ns:List Int) (lo hi:Option Int):∃ ms:List Int,cutD (ns.map D.int) lo hi = ms.map D.int:=by
 unfold cutD
 exact ⟨_,by rw [<- List.map_drop,<- List.map_take]⟩
end Dl
namespace Dl
open PySem PySem.Spec PyProof.Rows L2
structure FunD (K:PySem.W.Frag) (x qual:Str) (st:Stmt) (f:Addr) (fd:FuncData) (dV:Value):Prop where
 ex:∃ (oc:Value) (od:Option Addr) (kV doc pm:Value) (an:Option Addr) (cdv ct:Value) (osl:Array (Option Value)),
  fd = PySem.W.fnOf x qual (cD st) (bR st) (ak st) dV kV doc pm an cdv ct/\K.lookup f = some ⟨oc,od,.func fd,osl⟩/\PySem.W.codeIn K cdv qual = true
 kp:PySem.W.keepIn K (.ref f) = true
section
variable {P:Program} {w:World} {K:PySem.W.Frag} {mg:Str->Option Value} {base:Heap}
theorem vo {x qual:Str} {st:Stmt} {f:Addr} {fd:FuncData} {dV:Value} {N ps:List Str} {k:Nat} {G:List D->Option D} (F:FunD K x qual st f fd dV) (S:aQ N ps (ak st))
 (hbody:∀ (cdv:Value) (A:Around) (outer:List Env) (s:Shared) (H:Hp) (E:XK) (ds:List D) (d:D),Room k (A.deeper (envOfC qual (ak st) s.heap.objs.size f cdv))->G ds = some d->ds.length = ps.length ->
  ∃ t,oN (lV CX0 P w K mg base N qual (ak st) f cdv A outer s H E).nox (bR st) t/\az (t (start N.length ds)) = some d):FnOk P w K mg base CX0 (k + 1) f fd ps (cn K ps.length G):=by
 obtain ⟨oc,od,kV,doc,pm,an,cdv,ct,osl,rfl,lk,hcd⟩:=F.ex
 refine yi lk hcd S (fun vs H Q E h=>h.1) fun A outer s H vs Q E hr hsp=>?_
 obtain ⟨hl,ds,d,r,e,q⟩:=hsp
 obtain ⟨t,ht,hq⟩:=hbody cdv A outer s H E ds d hr e (r.length.symm.trans hl)
 refine ⟨_,ht.nox,start N.length ds,?_⟩
 cases z:t (start N.length ds) with
 | none=>rw [z] at hq;cases hq
 | some res =>
  rw [z] at hq
  refine ⟨res,RepS.start r,rfl,?_⟩
  cases res with
  | rt d'=>cases hq;exact q
  | nx δ=>cases hq;exact fun σ' H' s1 _=>q _ H' s1 .non
  | bk δ=>cases hq
  | ct δ=>cases hq
  | ex C δ=>cases hq
  | mk C δ=>cases hq
theorem FunD.binds {x qual:Str} {st:Stmt} {f T:Addr} {fd:FuncData} {ps:List Str} {o:Obj} {items:Array Value} {n:Nat} {ds:List Value} (F:FunD K x qual st f fd (.ref T)) (ho:K.lookup T = some o) (hs:o.data = .seq items n)
 (h:∀ (kV doc pm:Value) (an:Option Addr) (cdv ct:Value) (us:List Value),(us ++ ds).length = ps.length->∃ k,bindArgs (PySem.W.fnOf x qual (cD st) (bR st) (ak st) (.ref T) kV doc pm an cdv ct) ⟨us,[]⟩ = seqItems? (.ref T) >>= k/\k (some items) = pure (ps.zip (us ++ ds))):Binds K fd ps ds:=by
 obtain ⟨oc,od,kV,doc,pm,an,cdv,ct,osl,rfl,lk,hcd⟩:=F.ex
 intro s us KI hl
 obtain ⟨k,h1,h2⟩:=h kV doc pm an cdv ct us hl
 exact PySem.W.binds_K KI rfl ho hs h1 h2
theorem xH {x qual:Str} {st:Stmt} {f:Addr} {oc dV:Value} {od an:Option Addr} {osl:Array (Option Value)} {kV doc pm cdv ct:Value} (l:K.lookup f = some ⟨oc,od,.func (PySem.W.fnOf x qual (cD st) (bR st) (ak st) dV kV doc pm an cdv ct),osl⟩)
 (c:PySem.W.codeIn K cdv qual = true) (k:PySem.W.keepIn K (.ref f) = true):FunD K x qual st f (PySem.W.fnOf x qual (cD st) (bR st) (ak st) dV kV doc pm an cdv ct) dV:=⟨⟨oc,od,kV,doc,pm,an,cdv,ct,osl,rfl,l,c⟩,k⟩
structure wQ (P:Program) (w:World) (K:PySem.W.Frag) (mg:Str->Option Value) (base:Heap) (k:Nat) (x:Str) (ps:List Str) (dv:List Int) (G:List D->Option D):Prop where
 ex:∃ f fd ds,FnOk P w K mg base CX0 k f fd ps (cn K ps.length G)/\mg x = some (.ref f)/\PySem.W.keepIn K (.ref f) = true/\Vals (dv.map V.int) ds/\Binds K fd ps ds
end
theorem lu {X:Cx} {e:Expr} {es:List Expr} {g:FA} {pos p:Pos} {k j:Nat} {x:Str} {ps:List Str} {dv:List Int} {G:List D->Option D} (F:wQ X.prog X.w X.K X.mg X.base k x ps dv G) (hr:Room j X.A) (ha:PAD X (e :: es) g) (hk:k <= j:=by decide) (hg:Gl X x:=by rfl)
 (hn:(e :: es).length + dv.length = ps.length:=by rfl) (hdb:(x == ("__debug__":Str)) = false:=by decide) (he:starEach (e :: es) X.env = (false,eval e X.env) :: starEach es X.env:=by rfl) (hpl:(backTo pos (starEach es X.env)).any (·.1) = false:=by rfl) :
 PD X (.Call (.Name x p) (e :: es) [] pos) (au (dfl G dv) g):=by
 obtain ⟨f,fd,ds,F,hm,kp,hv,hb⟩:=F.ex
 refine imp (ku F (hr.mono hk) hg hm kp hb hv sK ha hdb he hpl) fun σ H Q ⟨δ,d,R,q,k⟩=>?_
 unfold au at q
 obtain ⟨ds,eds,q⟩:=Za.mp q
 refine ⟨δ,ds,R,eds,fun vs H1 s1 r1 l=>?_⟩
 exact ⟨by rw [List.length_append,l,Zl];exact hn,ds ++ dv.map D.int,d,r1.append (Reps.ints dv),q,fun v H' s=>k v H' (s1.trans s)⟩
def upO (K:PySem.W.Frag) (f:FO):TO:=fun σ H Q=>∃ δ o,RepS K H σ δ/\f δ = some o/\∀ H',Same H H'->Q o H'
def POD (X:Cx) (e:Option Expr) (f:FO):Prop:=PO X e (upO X.K f)
theorem se (n d:Nat) (o:Option Int):w4 n d o = HT.sIx n d o:=by cases o <;> rfl
theorem wx {K:PySem.W.Frag} {H:Hp} {vs:List V} {ds:List D} (r:Reps K H vs ds) (lo hi:Option Int):Reps K H (rC vs lo hi) (cutD ds lo hi):=by
 unfold rC cutD
 rw [r.length,se,se]
 exact (r.drop _).take _
section
variable {X:Cx} {e:Expr} {f:FD} {lo hi:Option Expr} {fl fh:FO} {pos p2:Pos}
theorem pe (h:PD X e f):POD X (some e) (faS f):=fun pins s σ H Q I ⟨δ,o,R,q,k⟩=>xi h pins s σ H Q I (by
 unfold faS at q
 obtain ⟨d,ed,q⟩:=Za.mp q
 refine ⟨δ,d,R,ed,fun v H1 s1 r1=>?_⟩
 cases r1 with
 | int i=>cases q;exact ⟨i,rfl,k H1 s1⟩
 | _=>cases q)
theorem vD (he:PD X e f) (hl:POD X lo fl) (hu:POD X hi fh):PD X (.Subscript e (.Slice lo hi none p2) pos) (fSl f fl fh):=imp (vA wX he hl hu) fun σ H Q ⟨δ,d,R,q,k⟩=>by
 unfold fSl at q
 obtain ⟨x,ex,q⟩:=Za.mp q
 obtain ⟨ds,eds,q⟩:=Za.mp q
 obtain ⟨l,el,q⟩:=Za.mp q
 obtain ⟨h,eh,q⟩:=Za.mp q
 cases q
 refine ⟨δ,x,R,ex,fun v H1 s1 r1=>⟨δ,l,R.mono s1,el,fun H2 s2=>⟨δ,h,(R.mono s1).mono s2,eh,fun H3 s3=>?_⟩⟩⟩
 have r3:=(r1.mono s2).mono s3
 have fin:∀ (a:Addr) (vs:List V),SqL X.K H3 a vs->Reps X.K H3 vs ds->AA X.K (.ref a) l h H3 Q:=fun a vs hq rp=>by
  refine ⟨a,vs,rfl,hq,fun p hp=>?_⟩
  have s:=bB hp (.lst (rC vs l h))
  exact k _ _ (((s1.trans s2).trans s3).trans s) (.lst aX ((wx rp l h).mono s))
 cases r3 with
 | @lst p vs es hp rp=>cases eds;exact fin p vs (SqL.of hp) rp
 | @seq p vs es hp rp=>cases eds;exact fin p vs hp rp
 | _=>cases eds
end
section
variable {prog:Program} {w:World} {A:Around} {E:Value->Shared->Prop}
end
end Dl
namespace Dl
open PySem PySem.Spec PyProof.Rows L2
structure CompOk (X:Cx) (scope:Scope) (cl:List (Str × Addr)) (x:Str) (N:List Str) (js:List Nat):Prop where
 clos:closureFor scope X.env = pure cl
 nocell:∀ y ∈ scope.names,y.2 ≠ .cell
 kind:scope.kind = .function
 names:∀ y ∈ scope.names,y.2 = .local->scope.names.lookup y.1 = some .local
 hx:scope.names.lookup x = some .local
 nd:N.Nodup
 h0:N[0]? = some x
 len:N.length = js.length + 1
 clx:cl.lookup x = none
 cls:∀ y c,cl.lookup y = some c->X.env.cells.lookup y = some c
 has:∀ y,((relabel scope X.env).names.lookup y = some .cell \/ (relabel scope X.env).names.lookup y = some .free)->∃ c,cl.lookup y = some c
 fr:∀ i y j,N[i + 1]? = some y->js[i]? = some j->X.N[j]? = some y/\X.env.scope.names.lookup y = some .cell/\(relabel scope X.env).names.lookup y = some .cell/\∀ c,X.env.cells.lookup y = some c->cl.lookup y = some c
abbrev bK (X:Cx) (scope:Scope) (cl:List (Str × Addr)) (x:Str) (N:List Str) (C:Addr) (s₂:Shared) (H₂:Hp) (fp:List Addr) (pn:List (Addr × Obj)):Cx :=
 { X with env:=compEnvC scope cl C X.env,N:=N,s₀:=s₂,H₀:=H₂,outer:=X.stack,stack:=X.stack,ex:=fp,fn:=fun y=>y == x,calm:=true,pn:=pn,xe:=fun _ _=>False }
section
variable {X:Cx} {pins:List (Addr × Obj)} {σ:L2.St} {H₂:Hp} {s₂:Shared} {scope:Scope} {cl:List (Str × Addr)} {x:Str} {N:List Str} {js:List Nat} {C:Addr} {fp:List Addr}
theorem uO (I:L2.Inv X pins σ H₂ s₂) (hcm:X.calm = true) (O:CompOk X scope cl x N js) (hC:s₂.heap.objs.size <= C) (hf:∀ b ∈ fp,gj X pins H₂ b) (ho:∀ b ∈ fp,∃ o,s₂.heap.get? b = some o):(bK X scope cl x N C s₂ H₂ fp (X.pn ++ pins)).Ok where
 mod:=I.ok.mod
 kind:=O.kind
 glob:=I.ok.glob
 blt:=I.ok.blt
 above:=hC
 inj:=fun y z c h1 h2=>I.ok.inj y z c (O.cls y c h1) (O.cls z c h2)
 has:=fun y h=>O.has y h
 cab:=fun y c h1 h2=>by
  have e:y = x:=by simpa using h1
  subst e
  have:cl.lookup y = some c:=h2
  rw [O.clx] at this
  cases this
 hd:=fun _=>I.ok.hd hcm
 frames:=I.ok.frames
 stk:=.inl rfl
 exf:=fun b hb=>by
  obtain ⟨o,e⟩:=ho b hb
  refine ⟨Nat.ne_of_lt (Nat.lt_of_lt_of_le (Heap.lt_size e) hC),fun y c h z=>?_⟩
  exact (hf b hb).2.2.2.2.1 y c (O.cls y c h) z
 bs:=I.bs
 bsz:=Nat.le_trans I.ok.bsz I.sz
 noex:=fun b o e hb=>by
  rcases (hf b hb).2.2.2.1 with z | z
  . exact I.ok.noex b o e z
  . exact absurd (Nat.lt_of_lt_of_le (Heap.lt_size e) (Nat.le_trans I.ok.bsz z)) (Nat.lt_irrefl _)
 exfs:=fun b hb z=>by
  rcases Zs.mp (I.stkSub b z) with e | e
  . exact (hf b hb).2.1 e
  . exact (hf b hb).2.2.1 e
 funs:=I.stack
 frf:=I.stkFree
end
theorem lF {g:D->Option D}:∀ {ds xs:List D},lG g ds = some xs->xs.length = ds.length/\∀ (i:Nat) d,ds[i]? = some d->∃ e,g d = some e/\xs[i]? = some e
 | [],xs,h=>by
  cases h
  exact ⟨rfl,fun i d e=>by simp at e⟩
 | d :: ds,xs,h=>by
  obtain ⟨x,ex,h⟩:=Za.mp (show ((g d).bind _) = some xs from h)
  obtain ⟨ys,ey,h⟩:=Za.mp h
  cases h
  obtain ⟨h1,h2⟩:=lF ey
  refine ⟨by simp [h1],fun i e he=>?_⟩
  cases i with
  | zero=>simp at he;subst he;exact ⟨x,ex,rfl⟩
  | succ i =>
   obtain ⟨z,hz1,hz2⟩:=h2 i e (by simpa using he)
   exact ⟨z,hz1,by simpa using hz2⟩
def cA (js:List Nat) (σ:L2.St):L2.St:=js.map fun j=>match σ[j]? with
 | some o=>o
 | none=>none
theorem jw {K:PySem.W.Frag} {H:Hp} {σ:L2.St} {δ:DS} (R:RepS K H σ δ) (js:List Nat):RepS K H (none :: cA js σ) (none :: cg js δ):=by
 refine ⟨by simp [cA,cg],fun i d q=>?_⟩
 cases i with
 | zero=>simp at q
 | succ i =>
  have q':(cg js δ)[i]? = some (some d):=by simpa using q
  unfold cg at q'
  rw [List.getElem?_map] at q'
  obtain ⟨j,h1,h2⟩:=Zb.mp q'
  cases h3:δ[j]? with
  | none=>rw [h3] at h2;cases h2
  | some o =>
   rw [h3] at h2
   have h2':o = some d:=h2
   subst h2'
   obtain ⟨v,h4,h5⟩:=R.val j d h3
   refine ⟨v,?_,h5⟩
   show (cA js σ)[i]? = some (some v)
   unfold cA
   rw [List.getElem?_map,h1]
   show some (match σ[j]? with | some o=>o | none=>none) = some (some v)
   rw [h4]
theorem bindF {α β:Type} {M:Model} {A:Around} {m:Sem α} {f:α->Sem β} {Q:α->Shared->Prop} {R:β->Shared->Prop} {E:Value->Shared->Prop} {s:Shared} (h:wpAny M A m Q (fun _ _=>False) s) (k:∀ a s',Q a s'->wpAny M A (f a) R E s'):wpAny M A (m>>=f) R E s:=wpAny_bind (wpAny_mono h k fun _ _=>False.elim)
theorem gE {prog:Program} {w:World} {A:Around} {R:Result->Shared->Prop} {s:Shared} {elt target iter:Expr} {scope:Scope} {pos:Pos} {it acc:Value} {env:Env} (J:Nat->Shared->Prop)
 (turn:∀ n s,J n s->wpAny (model prog w) A (pyNext it) (fun r s₁=>match r with
  | none=>R (.ok .next) s₁
  | some v=>wpAny (model prog w) A (letOwnedTupleGo target it v) (fun _ s₂=>wpAny (model prog w) A (assign target env v) (fun _ s₃=>wpAny (model prog w) A (eval elt env) (fun y s₄ =>
   wpAny (model prog w) A (call (.builtin "list.append") [acc,y]) (fun _ s₅=>∃ m,m < n/\J m s₅) (fun _ _=>False) s₄) (fun _ _=>False) s₃) (fun _ _=>False) s₂) (fun _ _=>False) s₁) (fun _ _=>False) s)
 (n:Nat) (h:J n s):codeAny (model prog w) A (.compLoop (.ListComp elt [⟨target,iter,[],0⟩] scope pos) 0 it acc env) R s:=by
 refine codeAny_loop rfl J (fun n s j=>wpAny_noted (m:=compTurn (.ListComp elt [⟨target,iter,[],0⟩] scope pos) 0 it acc env) (compTurn_list1 elt target iter scope pos it acc env▸wpAny_bind (wpAny_standAt (bindF (turn n s j) fun r _ q=>?_)))) n h
 cases r with
 | none=>exact wpAny_pure q
 | some v=>
  exact bindF q fun _ _ q=>bindF q fun _ _ q=>wpAny_bind (bindF q fun _ _ q=>bindF q fun _ _ q=>wpAny_pure (wpAny_pure ⟨rfl,q⟩))
section
variable {X:Cx} {pins:List (Addr × Obj)} {σ:L2.St} {H₂:Hp} {s₂:Shared} {scope:Scope} {cl:List (Str × Addr)} {x:Str} {N:List Str} {js:List Nat} {C:Addr} {fp:List Addr}
theorem fK (I:L2.Inv X pins σ H₂ s₂) {a:Addr} (h:s₂.heap.objs.size <= a):a ∉ frs X.stack:=fun z=>by
 rcases Zs.mp (I.stkSub a z) with e | e
 . exact absurd (Nat.lt_of_lt_of_le I.lt (by rw [<- e];exact h)) (Nat.lt_irrefl _)
 . exact I.nofs h e
theorem iV {h₁:Heap} {m:Str->Option Value} {tk:Nat} (I:L2.Inv X pins σ H₂ s₂) (hcm:X.calm = true) (O:CompOk X scope cl x N js) (hC:s₂.heap.objs.size <= C) (hf:∀ b ∈ fp,gj X pins H₂ b) (ho:∀ b ∈ fp,∃ o,s₂.heap.get? b = some o)
 (old:∀ b o,s₂.heap.get? b = some o->h₁.get? b = some o) (hns:h₁.Ns C m) (hl:σ.length = X.N.length):L2.Inv (bK X scope cl x N C s₂ H₂ fp (X.pn ++ pins)) [] (none :: cA js σ) H₂ { s₂ with heap:=h₁,toks:=tk } where
 ok:=uO I hcm O hC hf ho
 os:=rfl
 bare:=I.bare
 base:=Un.kept old
 loc:=by
  refine ⟨m,hns,fun i y v h1 h2 h3=>?_⟩
  cases i with
  | zero=>simp at h2
  | succ i =>
   have h2':(cA js σ)[i]? = some (some v):=by simpa using h2
   unfold cA at h2'
   rw [List.getElem?_map] at h2'
   obtain ⟨j,hj,h4⟩:=Zb.mp h2'
   have h5:σ[j]? = some (some v):=by
    cases q:σ[j]? with
    | none=>rw [q] at h4;cases h4
    | some o=>rw [q] at h4;exact congrArg some h4
   obtain ⟨f1,f2,f3,f4⟩:=O.fr i y j h1 hj
   obtain ⟨m',hn',hl'⟩:=I.loc
   obtain ⟨u,ru,lk⟩:=hl' j y v f1 h5 (.inr (.inl f2))
   refine ⟨u,ru,?_⟩
   rcases lk with ⟨k1,_⟩ | ⟨_,c,hc,o,hco,hcd⟩
   . have:X.env.scope.names.lookup y = some .local:=k1
     rw [f2] at this
     cases this
   . exact .inr ⟨.inl f3,c,f4 c hc,o,old c o hco,hcd⟩
 cell:=fun y c e=>by
  obtain ⟨v,o,h1,h2⟩:=I.cell y c (O.cls y c e)
  exact ⟨v,o,old c o h1,h2⟩
 free:=I.hok.fresh hC
 freeC:=fun y c e=>I.freeC y c (O.cls y c e)
 pin:=fun p hp=>by
  have hp':p ∈ X.pn ++ pins:=by simpa using hp
  obtain ⟨h1,h2,h3,h4,h5⟩:=I.pin p hp'
  refine ⟨old _ _ h1,h2,Nat.ne_of_lt (Nat.lt_of_lt_of_le (Heap.lt_size h1) hC),fun z=>?_,h5⟩
  rcases Zs.mp (I.stkSub p.1 z) with e | e
  . exact h3 e
  . exact h4 e
 hok:=I.hok.kept old
 len:=by
  show (none :: cA js σ).length = N.length
  rw [O.len]
  simp [cA]
theorem rD {elt iter:Expr} {px pos:Pos} {it:Addr} {tn:Nat->Heap->Prop} {J:It} {ds xs:List D} {δ:DS} {felt:FD} {RR:Value->Addr->Result->Shared->Prop} {E:Value->Shared->Prop} (I:L2.Inv X pins σ H₂ s₂) (hcm:X.calm = true) (O:CompOk X scope cl x N js)
 (T:mI X.prog X.w X.K (.Name x px) J fp it tn) (st:tn 0 s₂.heap) (hf:∀ b ∈ fp,gj X pins H₂ b) (itd:ItD X.K J H₂ ds) (R:RepS X.K H₂ σ δ) (he:∀ C s₂ H₂ fp pn,PD (bK X scope cl x N C s₂ H₂ fp pn) elt felt)
 (hm:lG (fun d=>felt (some d :: cg js δ)) ds = some xs) (hz:xs.length <= 1000)
 (hRR:∀ (D C:Addr) (s':Shared) (Hend:Hp) (vs:List V),s₂.heap.objs.size <= C->L2.Inv X pins σ Hend s'->Same H₂ Hend->Hend D = some (.lst vs)->Reps X.K Hend vs xs->(∃ m,s'.heap.Ns C m)->Hend C = none->RR (.ref D) C (.ok .next) s') :
 wpAny (model X.prog X.w) X.A (newList []) (fun acc s₃=>wpAny (model X.prog X.w) X.A (newFunctionEnv scope X.env.globals cl [] X.env.qual none .none (some X.env)) (fun cenv s₄ =>
  codeAny (model X.prog X.w) X.A (.compStart (.ListComp elt [⟨.Name x px,iter,[],0⟩] scope pos) 0 (.ref it) acc { cenv with scope:=relabel scope X.env }) (RR acc cenv.locals) s₄) E s₃) E s₂:=by
 obtain ⟨ml,mg'⟩:=lF hm
 have objs:=T.obj 0 s₂.heap st
 have objs':∀ b ∈ fp,∃ o,s₂.heap.get? b = some o:=fun b hb=>let ⟨o,h,_⟩:=objs b hb;⟨o,h⟩
 refine wpAny_newObj_type (wpAny_newFunctionEnv O.nocell (by intro y hy;simp at hy) (fun h₁ hns₁ hsb₁=>?_) O.kind)
 dsimp only at hns₁ hsb₁ ⊢
 generalize hP:s₂.heap.push { cls:=.type "list",dict:=none,data:=.seq ([]:List Value).toArray } = P2 at hns₁ hsb₁ ⊢
 have hC:P2.objs.size = s₂.heap.objs.size + 1:=by rw [<- hP,Heap.size_push]
 generalize hCC:P2.objs.size = C at *
 have hCle:s₂.heap.objs.size <= C:=by omega
 have hDle:s₂.heap.objs.size <= s₂.heap.objs.size:=by omega
 have hDC:s₂.heap.objs.size ≠ C:=by omega
 have old:∀ b o,s₂.heap.get? b = some o->h₁.get? b = some o:=fun b o e=>by
  refine hsb₁.extBut b o (Nat.ne_of_lt (Nat.lt_of_lt_of_le (Heap.lt_size e) hCle)) (Heap.get?_push_of_some _ ?_)
  rw [<- hP]
  exact Heap.get?_push_of_some _ e
 have hacc:h₁.get? s₂.heap.objs.size = some { cls:=.type "list",data:=.seq ([]:List Value).toArray }:=by
  refine hsb₁.extBut s₂.heap.objs.size _ hDC (Heap.get?_push_of_some _ ?_)
  rw [<- hP]
  exact Heap.get?_push_size _ rfl
 have I0:=fun tk=>iV (C:=C) (tk:=tk) I hcm O hCle hf objs' old hns₁ I.len
 have dstk:s₂.heap.objs.size ∉ frs X.stack:=fK I hDle
 have fne:∀ b ∈ fp,b ≠ s₂.heap.objs.size:=fun b hb e=>by
  obtain ⟨o,h⟩:=objs' b hb
  exact absurd (Heap.lt_size h) (by rw [e];exact Nat.lt_irrefl _)
 have cne:∀ y c,cl.lookup y = some c->c ≠ s₂.heap.objs.size:=fun y c e z=>by
  obtain ⟨v,o,h1,_⟩:=I.cell y c (O.cls y c e)
  exact absurd (Heap.lt_size h1) (by rw [z];exact Nat.lt_irrefl _)
 have pne:∀ p ∈ X.pn ++ pins,p.1 ≠ s₂.heap.objs.size:=fun p hp e=>by
  exact absurd (Heap.lt_size (I.pin p hp).1) (by rw [e];exact Nat.lt_irrefl _)
 have stat:∀ {H':Hp} {pl:List (Addr × Obj)},(∀ b ∈ fp,H' b = none)->(∀ p ∈ pl,∀ b ∈ fp,p.1 ≠ b)->∀ b ∈ fp,gj (bK X scope cl x N C s₂ H₂ fp (X.pn ++ pins)) pl H' b:=fun {H' pl} hn hpl b hb=>by
  obtain ⟨o,h⟩:=objs' b hb
  refine ⟨hn b hb,Nat.ne_of_lt (Nat.lt_of_lt_of_le (Heap.lt_size h) hCle),fun z=>?_,.inl hb,fun y c e=>(hf b hb).2.2.2.2.1 y c (O.cls y c e),fun p hp=>?_⟩
  . rcases Zs.mp (I.stkSub b z) with e | e
    . exact (hf b hb).2.1 e
    . exact (hf b hb).2.2.1 e
  . rcases Zr.mp hp with q | q
    . exact (hf b hb).2.2.2.2.2 p q
    . exact hpl p q b hb
 have loop:∀ s₃:Shared,s₃ = { s₂ with heap:=h₁,toks:=s₂.toks + ([]:List (Str × Value)).length } ->
  codeAny (model X.prog X.w) X.A (.compLoop (.ListComp elt [⟨.Name x px,iter,[],0⟩] scope pos) 0 (.ref it) (.ref s₂.heap.objs.size) (compEnvC scope cl C X.env)) (RR (.ref s₂.heap.objs.size) C) s₃:=by
  rintro s₃ rfl
  refine gE (fun n s=>∃ (i:Nat) (σ':L2.St) (H':Hp) (vs:List V) (o:Option D),n = ds.length - i/\i <= ds.length/\L2.Inv (bK X scope cl x N C s₂ H₂ fp (X.pn ++ pins)) [] σ' H' s/\Same H₂ H'/\RepS X.K H' σ' (o :: cg js δ)/\tn i s.heap/\(∀ b ∈ fp,H' b = none) /\
   (∃ (its:List Value) (k:Nat),Vals vs its/\s.heap.get? s₂.heap.objs.size = some { cls:=.type "list",data:=.seq its.toArray k })/\H' s₂.heap.objs.size = none/\Reps X.K H' vs (xs.take i)/\vs.length = i) ?_ ds.length
   ⟨0,_,H₂,[],none,rfl,Nat.zero_le _,I0 _,Same.refl _,jw R js,T.keep 0 _ _ st (fun b hb o e=>old b o e),fun b hb=>(hf b hb).1,⟨[],0,.nil,hacc⟩,I.hok.fresh hDle,.nil,rfl⟩
  rintro n s ⟨i,σ',H',vs,o,rfl,hi,I',sm,R',st',fr',⟨its,k,rv,hD⟩,fD,rr,hl⟩
  by_cases hlt:i < ds.length
  . -- one more
    obtain ⟨go,yl⟩:=(itd i H' sm).1 hlt
    have hd0:ds[i]? = some ds[i]:=by simp [hlt]
    obtain ⟨e,ge,xe⟩:=mg' i _ hd0
    have I1:L2.Inv (bK X scope cl x N C s₂ H₂ fp (X.pn ++ pins)) [(s₂.heap.objs.size,{ cls:=.type "list",data:=.seq its.toArray k })] σ' H' s:=I'.pins_of fun p hp=>by
     have:p = (s₂.heap.objs.size,{ cls:=.type "list",data:=.seq its.toArray k }):=by simpa using hp
     subst this
     exact ⟨hD,fD,hDC,dstk,fun v z=>by cases z⟩
    refine thn (T.item (bK X scope cl x N C s₂ H₂ fp (X.pn ++ pins)) rfl rfl rfl rfl i _ s σ' H' (fun _ _=>False) I1 (stat fr' fun p hp b hb=>by
     have:p = (s₂.heap.objs.size,{ cls:=.type "list",data:=.seq its.toArray k }):=by simpa using hp
     subst this
     exact (fne b hb).symm) st' go) fun r s1 ⟨u,hr,h4⟩=>?_
    subst hr
    refine thn h4 fun _ s2 ⟨y,H'',I2,ru,yy,st2,fr2⟩=>?_
    obtain ⟨s3,d,hd,rd⟩:=yl y H'' yy
    have hd':d = ds[i]:=by rw [hd0] at hd;exact (Option.some.inj hd).symm
    subst hd'
    have I3:=I2.pinned (stat fr2 fun p hp b hb=>by
     have:p = (s₂.heap.objs.size,{ cls:=.type "list",data:=.seq its.toArray k }):=by simpa using hp
     subst this
     exact (fne b hb).symm) (T.obj _ _ st2)
    refine thn (gz (X:=bK X scope cl x N C s₂ H₂ fp (X.pn ++ pins)) (i:=0) O.nd O.h0 (.inl (lookup_relabel_local O.hx)) (.inl (by simp)) _ s2 σ' H'' y u (fun σ4 H4=>σ4 = σ'.set 0 (some y)/\H4 = H'') I3 ru ⟨rfl,rfl⟩) fun _ s4 ⟨σ4,H4,I4,e1,e2⟩=>?_
    subst e1 e2
    have R4:RepS X.K H4 (σ'.set 0 (some y)) (some ds[i] :: cg js δ):=(R'.mono s3).set 0 rd
    refine thn (he C s₂ H₂ fp (X.pn ++ pins) _ s4 (σ'.set 0 (some y)) H4 (fun v H5=>Same H4 H5/\Rep X.K H5 v e) I4 ⟨_,e,R4,ge,fun v H5 s5 r5=>⟨s5,r5⟩⟩) fun wv s5 ⟨v,H5,I5,rw5,s45,r5⟩=>?_
    have hD5:s5.heap.get? s₂.heap.objs.size = some { cls:=.type "list",data:=.seq its.toArray k }:=(I5.pin (s₂.heap.objs.size,{ cls:=.type "list",data:=.seq its.toArray k }) (by simp)).1
    have fD5:H5 s₂.heap.objs.size = none:=(I5.pin (s₂.heap.objs.size,{ cls:=.type "list",data:=.seq its.toArray k }) (by simp)).2.1
    have pf:∀ b ∈ fp,∀ ob,s2.heap.get? b = some ob->s5.heap.get? b = some ob/\H5 b = none:=fun b hb ob hob=>by
     have:=I5.pin (b,ob) (List.mem_append_right _ (List.mem_append_right _ (de hb hob)))
     exact ⟨this.1,this.2.1⟩
    have lz:its.length <= 1000:=by
     have:=rv.length
     omega
    refine call_meets F.slot_list_append ⟨_,hD5,rfl⟩ F.entry_list_append (F.args_list_append_2 _ _) (PySem.list_append s₂.heap.objs.size its.toArray k wv (by rw [List.size_toArray];exact cq lz)) ⟨hD5,?_⟩
    have q:=PySem.IsL.update hD5 (fun a=>a.push wv)
    have I6:L2.Inv (bK X scope cl x N C s₂ H₂ fp (X.pn ++ pins)) [] (σ'.set 0 (some y)) H5 { s5 with heap:=s5.heap.update s₂.heap.objs.size (Obj.mapSeq fun a=>a.push wv),toks:=s5.toks } :=
     (I5.pins_of (pins':=[]) fun p hp=>by simp at hp).turned (it:=s₂.heap.objs.size) (t':=s5.toks) (fun b ob hb hu=>(Heap.get?_update_other s5.heap _ (Ne.symm hb)).trans hu) fD5 hDC (.inr hDle) cne (fun p hp=>by
      rcases Zr.mp hp with z | z
      . exact pne p z
      . simp at z)
    refine ⟨ds.length - (i + 1),by omega,i + 1,σ'.set 0 (some y),H5,vs ++ [v],some ds[i],rfl,hlt,I6,(sm.trans s3).trans s45,R4.mono s45,?_,?_,?_,fD5,?_,by simp [hl]⟩
    . refine T.keep _ _ _ st2 fun b hb ob hob=>?_
      exact (Heap.get?_update_other s5.heap _ (Ne.symm (fne b hb))).trans (pf b hb ob hob).1
    . intro b hb
      obtain ⟨ob,hob,_⟩:=T.obj _ _ st2 b hb
      exact (pf b hb ob hob).2
    . have hf7:its.toArray.push wv = (its ++ [wv]).toArray:=by simp
      rw [hf7] at q
      exact ⟨its ++ [wv],_,rv.append (.cons rw5 .nil),q⟩
    . have e8:xs.take (i + 1) = xs.take i ++ [e]:=by
       rw [List.take_add_one,xe];rfl
      rw [e8]
      exact ((rr.mono s3).mono s45).append (.cons r5 .nil)
  . -- the end
    have hie:i = ds.length:=by omega
    refine thn (T.done (bK X scope cl x N C s₂ H₂ fp (X.pn ++ pins)) rfl rfl rfl rfl i [(s₂.heap.objs.size,{ cls:=.type "list",data:=.seq its.toArray k })] s σ' H' (fun _ _=>False) (I'.pins_of fun p hp=>by
     have:p = (s₂.heap.objs.size,{ cls:=.type "list",data:=.seq its.toArray k }):=by simpa using hp
     subst this
     exact ⟨hD,fD,hDC,dstk,fun v z=>by cases z⟩) (stat fr' fun p hp b hb=>by
     have:p = (s₂.heap.objs.size,{ cls:=.type "list",data:=.seq its.toArray k }):=by simpa using hp
     subst this
     exact (fne b hb).symm) st' ((itd i H' sm).2 (by omega))) fun r s1 ⟨hr,I8⟩=>?_
    subst hr
    have hD8:s1.heap.get? s₂.heap.objs.size = some { cls:=.type "list",data:=.seq its.toArray k }:=(I8.pin (s₂.heap.objs.size,{ cls:=.type "list",data:=.seq its.toArray k }) (by simp)).1
    have hxs:xs.take i = xs:=List.take_of_length_le (by omega)
    rw [hxs] at rr
    have sn:=bB fD (.lst vs)
    have dn:∀ b,∀ u,H' b = some u->b ≠ s₂.heap.objs.size:=fun b u z=>bg z fD
    have un:Un (frs X.stack) fp H₂ (upd H' s₂.heap.objs.size (.lst vs)) s₂.heap s1.heap:=by
     have b0:=I8.base
     refine ⟨fun b ob e n1 n2 n3=>b0.keep b ob e n1 n2 n3,fun b ob e n1 n2 n3=>b0.slot b ob e n1 n2 n3,fun b ob e n1 n3=>?_,fun b ob e n3=>b0.there b ob e n3,fun b zs e=>?_,fun b ob u e=>?_,fun b ps e=>?_⟩
     . rw [aC (Nat.ne_of_lt (Heap.lt_size e))]
       exact b0.free b ob e n1 n3
     . have z:=b0.tups b zs e
       rw [aC (dn _ _ z)]
       exact z
     . have z:=b0.frzs b ob u e
       rw [aC (dn _ _ z)]
       exact z
     . obtain ⟨more,z⟩:=b0.tbls b ps e
       exact ⟨more,by rw [aC (dn _ _ z)];exact z⟩
    have hok:HOk X.prog X.w (upd H' s₂.heap.objs.size (.lst vs)) s1.heap:=fun b u z=>by
     by_cases hb:b = s₂.heap.objs.size
     . rw [hb] at z ⊢
       rw [aX] at z
       cases z
       exact ⟨cq (by omega),its,k,rv,hD8⟩
     . rw [aC hb] at z
       exact (I8.hok b u z).stay (fun _ _ _ q=>q) (fun c q=>by rw [aC (dn _ _ q)];exact q) fun c ys q=>by rw [aC (dn _ _ q)];exact q
    have IX:L2.Inv X pins σ (upd H' s₂.heap.objs.size (.lst vs)) s1:=I.call' I8.os un hok I8.bare fun b hb=>⟨(hf b hb).2.2.2.1,(hf b hb).2.1,(hf b hb).2.2.2.2.1,(hf b hb).2.2.2.2.2⟩
    obtain ⟨m8,hn8,_⟩:=I8.loc
    refine hRR s₂.heap.objs.size C s1 _ vs hCle IX (sm.trans sn) aX (rr.mono sn) ⟨m8,hn8⟩ ?_
    rw [aC (Ne.symm hDC)]
    exact I8.free
 exact codeAny_compStart_list (loop _ rfl) (T.self X.A 0 _ _ _ (T.keep 0 _ _ st (fun b hb o e=>old b o e)) (loop _ rfl))
theorem ir {C:Addr} {h':Heap} {s':Shared} {Hend:Hp} (I:L2.Inv X pins σ Hend s') (I0:L2.Inv X pins σ H₂ s₂) (hC:s₂.heap.objs.size <= C) (fC:Hend C = none) (hs:Heap.SameBut C s'.heap h'):L2.Inv X pins σ Hend { s' with heap:=h' } :=
 I.turned (it:=C) (t':=s'.toks) (fun b o hb e=>(hs.2 b hb).trans e) fC (Nat.ne_of_gt (Nat.lt_of_lt_of_le I0.lt hC)) (.inr (Nat.le_trans I0.sz hC))
  (fun y c e z=>by
   obtain ⟨v,o,h1,_⟩:=I0.cell y c e
   exact absurd (Nat.lt_of_lt_of_le (Heap.lt_size h1) (by rw [z];exact hC)) (Nat.lt_irrefl _))
  (fun p hp z=>absurd (Nat.lt_of_lt_of_le (Heap.lt_size (I0.pin p hp).1) (by rw [z];exact hC)) (Nat.lt_irrefl _))
theorem kw {elt iter:Expr} {px pos:Pos} {src:FA} {felt:FD} (hi:PID X (.Name x px) iter src) {N:List Str} {js:List Nat} (he:∀ C s₂ H₂ fp pn,PD (bK X scope cl x N C s₂ H₂ fp pn) elt felt) (O:CompOk X scope cl x N js) (hcm:X.calm = true:=by rfl)
 (hs:∀ v,foldedSetIterable iter X.env v = pure v:=by intro _;rfl):PD X (.ListComp elt [⟨.Name x px,iter,[],0⟩] scope pos) (lO src js felt):=by
 intro pins s σ H Q I ⟨δ,d,R,q,k⟩
 unfold lO at q
 obtain ⟨ds,eds,q⟩:=Za.mp q
 obtain ⟨xs,exs,q⟩:=Za.mp q
 by_cases hz:xs.length <= 1000
 . rw [if_pos hz] at q
   cases q
   rw [eval_ListComp]
   refine wpAny_comprehension_free (use:=none) rfl hs O.clos O.kind O.names ?_
   refine wpAny_mono (hi pins s σ H (fun J H1=>Same H H1/\ItD X.K J H1 ds) I ⟨δ,ds,R,eds,fun J H1 s1 itd=>⟨s1,itd⟩⟩) (fun v s1 h1=>wpAny_mono h1 (fun itv s2 h2=>?_) fun _ _ z=>z) fun _ _ z=>z
   obtain ⟨it,fp,tn,J,H2,rfl,I2,T,st,hf,s1,itd⟩:=h2
   refine rD (RR:=fun acc C=>compPost (model X.prog X.w) X.A X.xe none (EP X pins σ Q) acc C) I2 hcm O T st hf itd (R.mono s1) he exs hz ?_
   intro D C s' Hend vs hC IX sm hD rr ⟨m,hn⟩ fC
   exact ⟨m,hn,fun h' hs'=>⟨.ref D,Hend,ir IX I2 hC fC hs',rfl,k _ _ (s1.trans sm) (.lst hD rr)⟩⟩
 . rw [if_neg hz] at q;cases q
end
end Dl
namespace Dl
open PySem PySem.Spec PyProof.Rows L2
theorem CompOk.one {X:Cx} {scope:Scope} {c:Addr} {x z:Str} {j:Nat} (clos:closureFor scope X.env = pure [(z,c)]:=by rfl) (nocell:∀ y ∈ scope.names,y.2 ≠ .cell:=by decide +kernel) (kind:scope.kind = .function:=by rfl)
 (names:∀ y ∈ scope.names,y.2 = .local->scope.names.lookup y.1 = some .local:=by decide +kernel) (hx:scope.names.lookup x = some .local:=by rfl) (hne:x ≠ z:=by decide +kernel) (hcell:X.env.cells.lookup z = some c:=by rfl)
 (hfr:∀ p ∈ scope.names,p.2 = .free->p.1 = z:=by decide +kernel) (hj:X.N[j]? = some z:=by rfl) (hk:X.env.scope.names.lookup z = some .cell:=by rfl) (hk':(relabel scope X.env).names.lookup z = some .cell:=by rfl):CompOk X scope [(z,c)] x [x,z] [j] where
 clos:=clos
 nocell:=nocell
 kind:=kind
 names:=names
 hx:=hx
 nd:=by simp [hne]
 h0:=rfl
 len:=rfl
 clx:=by
  show List.lookup x [(z,c)] = none
  have q:(x == z) = false:=beq_eq_false_iff_ne.mpr hne
  rw [List.lookup_cons,q]
  rfl
 cls:=fun y a h=>by
  have h':List.lookup y [(z,c)] = some a:=h
  by_cases hy:y = z
  . subst hy
    simp at h'
    subst h'
    exact hcell
  . have q:(y == z) = false:=beq_eq_false_iff_ne.mpr hy
    rw [List.lookup_cons,q] at h'
    cases h'
 has:=fun y h=>by
  have key:∀ k,(k = NameKind.cell \/ k = NameKind.free)->(relabel scope X.env).names.lookup y = some k->y = z:=fun k hk h=>by
   have m:=PySem.mem_of_lookup h
   unfold relabel at m
   obtain ⟨⟨n,k'⟩,m1,m2⟩:=Zq.mp m
   dsimp only at m2
   have hk1:k' = NameKind.free:=by
    split at m2
    . rename_i hc
      rw [Bool.and_eq_true,Bool.and_eq_true] at hc
      exact beq_iff_eq.mp hc.1.1
    . have e:k' = k:=congrArg Prod.snd m2
      rcases hk with z1 | z1
      . exact absurd (e.trans z1) (nocell _ m1)
      . exact e.trans z1
   have hn:n = y:=by split at m2 <;> exact congrArg Prod.fst m2
   rw [<- hn]
   exact hfr _ m1 hk1
  have e:y = z:=by
   rcases h with h | h
   . exact key _ (.inl rfl) h
   . exact key _ (.inr rfl) h
  subst e
  exact ⟨c,by simp⟩
 fr:=fun i y k h1 h2=>by
  cases i with
  | zero =>
   have e1:z = y:=Option.some.inj h1
   have e2:j = k:=Option.some.inj h2
   subst e1 e2
   refine ⟨hj,hk,hk',fun a ha=>?_⟩
   rw [hcell] at ha
   cases ha
   simp
  | succ i=>cases h2
end Dl
namespace Dl
open PySem PySem.Spec PyProof.Rows L2
end Dl
namespace Dl
open PySem PySem.Spec PyProof.Rows L2
section
variable {P:Program} {w:World} {K:PySem.W.Frag} {mg:Str->Option Value} {base:Heap}
end
section
variable {X:Cx} {a b:Expr} {fa fb:FD} {pos:Pos}
end
end Dl
namespace Dl
open PySem PySem.Spec PyProof.Rows L2
section
variable {X:Cx} {pins:List (Addr × Obj)} {σ:L2.St} {H H₀ H':Hp} {s s':Shared} {B:Heap} {x C t:Addr}
end
section
variable {X:Cx} {pins:List (Addr × Obj)} {σ:L2.St} {H:Hp} {s:Shared} {h':Heap}
end
end Dl
namespace Dl
open PySem PySem.Spec PyProof.Rows L2
mutual
def imm:D->Bool
 | .tup ds=>dN ds
 | .lst _=>false
 | .seq _=>false
 | .ms _ _=>false
 | .mf _ _=>false
 | .md _ _=>false
 | _=>true
def dN:List D->Bool
 | []=>true
 | d :: ds=>imm d && dN ds
end
mutual
def own:D->Bool
 | .tup ds=>iA ds
 | .lst ds=>iA ds
 | .seq _=>false
 | .ms _ _=>false
 | .mf _ _=>false
 | _=>true
def iA:List D->Bool
 | []=>true
 | d :: ds=>own d && iA ds
end
mutual
def sh:D->D
 | .tup ds=>.tup (shs ds)
 | .lst ds=>.seq (shs ds)
 | .seq ds=>.seq (shs ds)
 | .ms ks ds=>.ms ks (shs ds)
 | .mf ks ds=>.mf ks (shs ds)
 | .md ks ds=>.ms ks (shs ds)
 | d=>d
def shs:List D->List D
 | []=>[]
 | d :: ds=>sh d :: shs ds
end
theorem c7:∀ (ds:List D),shs ds = ds.map sh
 | []=>rfl
 | d :: ds=>by rw [shs,c7 ds];rfl
mutual
theorem sa:∀ (d:D),sh (sh d) = sh d
 | .non=>rfl
 | .bl _=>rfl
 | .int _=>rfl
 | .str _=>rfl
 | .ty _=>rfl
 | .dct=>rfl
 | .exc _=>rfl
 | .cls _=>rfl
 | .ms ks ds=>by rw [sh,sh,gl ds]
 | .mf ks ds=>by rw [sh,sh,gl ds]
 | .md ks ds=>by rw [sh,sh,gl ds]
 | .tup ds=>by rw [sh,sh,gl ds]
 | .lst ds=>by rw [sh,sh,gl ds]
 | .seq ds=>by rw [sh,sh,gl ds]
theorem gl:∀ (ds:List D),shs (shs ds) = shs ds
 | []=>rfl
 | d :: ds=>by rw [shs,shs,sa d,gl ds]
end
def mtb:HO->Bool
 | .lst _=>true
 | .dK _=>true
 | .frz _ (.dK _)=>true
 | _=>false
abbrev MO:={u:HO // mtb u = true}
def cX (H H':Hp):Prop:=∀ a u,H a = some u->mtb u = false->H' a = some u
theorem bJ {H H':Hp} (s:Same H H'):cX H H':=fun a u e _=>s a u e
theorem uD {H:Hp} {a:Addr} {u:HO} {o:HO} (h:H a = some u) (m:mtb u = true):cX H (upd H a o):=fun b w e n=>by
 by_cases hb:b = a
 . subst hb;rw [h] at e;cases e;rw [m] at n;cases n
 . rw [aC hb];exact e
theorem pN {H:Hp} {a:Addr} {vs:List V} {o:HO} (h:H a = some (.lst vs)):cX H (upd H a o):=uD h rfl
theorem fX {K:PySem.W.Frag} {H H':Hp} {a:Addr} {xs:List V} (k:cX H H') (h:SqT K H a xs):SqT K H' a xs:=by
 rcases h with (h | ⟨o,h⟩) | h
 . exact .inl (.inl (k _ _ h rfl))
 . exact .inl (.inr ⟨o,k _ _ h rfl⟩)
 . exact .inr h
mutual
theorem gW {K:PySem.W.Frag} {H H':Hp} (k:cX H H'):∀ {v:V} {d:D},Rep K H v d->imm d = true->Rep K H' v d
 | _,_,.non,_=>.non
 | _,_,.bl b,_=>.bl b
 | _,_,.int i,_=>.int i
 | _,_,.str x,_=>.str x
 | _,_,.ty n,_=>.ty n
 | _,_,.tup h r,i=>.tup (fX k h) (fZ k r (by rw [imm] at i;exact i))
 | _,_,.lst h r,i=>by rw [imm] at i;cases i
 | _,_,.seq h r,i=>by rw [imm] at i;cases i
 | _,_,.dct h,_=>.dct (k _ _ h rfl)
 | _,_,.exc h,_=>.exc (k _ _ h rfl)
 | _,_,.cls C,_=>.cls C
 | _,_,.ms h l r,i=>by rw [imm] at i;cases i
 | _,_,.mf h l r,i=>by rw [imm] at i;cases i
 | _,_,.md h l r,i=>by rw [imm] at i;cases i
theorem fZ {K:PySem.W.Frag} {H H':Hp} (k:cX H H'):∀ {vs:List V} {ds:List D},Reps K H vs ds->dN ds = true->Reps K H' vs ds
 | _,_,.nil,_=>.nil
 | _,_,.cons r t,i=>by
  rw [dN,Bool.and_eq_true] at i
  exact .cons (gW k r i.1) (fZ k t i.2)
end
mutual
theorem kX {K:PySem.W.Frag} {H:Hp}:∀ {v:V} {d:D},Rep K H v d->Rep K H v (sh d)
 | _,_,.non=>.non
 | _,_,.bl b=>.bl b
 | _,_,.int i=>.int i
 | _,_,.str x=>.str x
 | _,_,.ty n=>.ty n
 | _,_,.tup h r=>by rw [sh];exact .tup h (cU r)
 | _,_,.lst h r=>by rw [sh];exact .seq (SqL.of h) (cU r)
 | _,_,.seq h r=>by rw [sh];exact .seq h (cU r)
 | _,_,.dct h=>.dct h
 | _,_,.exc h=>.exc h
 | _,_,.cls C=>.cls C
 | _,_,.ms h l r=>by rw [sh];exact .ms h (by rw [c7,Zl];exact l) (cU r)
 | _,_,.mf h l r=>by rw [sh];exact .mf h (by rw [c7,Zl];exact l) (cU r)
 | _,_,.md h l r=>by rw [sh];exact .ms (.inl h) (by rw [c7,Zl];exact l) (cU r)
theorem cU {K:PySem.W.Frag} {H:Hp}:∀ {vs:List V} {ds:List D},Reps K H vs ds->Reps K H vs (shs ds)
 | _,_,.nil=>.nil
 | _,_,.cons r t=>by rw [shs];exact .cons (kX r) (cU t)
end
mutual
inductive RepO (K:PySem.W.Frag) (F H:Hp):V->D->List Addr->Prop
 | imm {v:V} {d:D} (i:imm d = true) (h:Rep K H v d):RepO K F H v d []
 | shr {v:V} {ds:List D} (h:Rep K F v (.seq ds)):RepO K F H v (.seq ds) []
 | shm {v:V} {ks:List Int} {ds:List D} (h:Rep K F v (.ms ks ds)):RepO K F H v (.ms ks ds) []
 | shf {v:V} {ks:List Int} {ds:List D} (h:Rep K F v (.mf ks ds)):RepO K F H v (.mf ks ds) []
 | tup {a:Addr} {vs:List V} {ds:List D} {A:List Addr} (h:SqT K H a vs) (r:RepOs K F H vs ds A):RepO K F H (.ref a) (.tup ds) A
 | lst {a:Addr} {vs:List V} {ds:List D} {A:List Addr} (h:H a = some (.lst vs)) (n:F a = none) (r:RepOs K F H vs ds A):RepO K F H (.ref a) (.lst ds) (a :: A)
 | md {a:Addr} {ks:List Int} {vs:List V} {ds:List D} (h:H a = some (.dK ((ks.map Sum.inl).zip vs))) (n:F a = none) (l:ks.length = ds.length) (i:dN ds = true) (r:Reps K H vs ds):RepO K F H (.ref a) (.md ks ds) [a]
inductive RepOs (K:PySem.W.Frag) (F H:Hp):List V->List D->List Addr->Prop
 | nil:RepOs K F H [] [] []
 | cons {v:V} {d:D} {vs:List V} {ds:List D} {A B C:List Addr} (r:RepO K F H v d A) (t:RepOs K F H vs ds B) (e:C = A ++ B):RepOs K F H (v :: vs) (d :: ds) C
end
section
variable {K:PySem.W.Frag} {F H F' H':Hp}
mutual
theorem RepO.rep (s:Same F H):∀ {v:V} {d:D} {A:List Addr},RepO K F H v d A->Rep K H v d
 | _,_,_,.imm _ h=>h
 | _,_,_,.shr h=>h.mono s
 | _,_,_,.shm h=>h.mono s
 | _,_,_,.shf h=>h.mono s
 | _,_,_,.tup h r=>.tup h (RepOs.reps s r)
 | _,_,_,.lst h _ r=>.lst h (RepOs.reps s r)
 | _,_,_,.md h _ l _ r=>.md h l r
theorem RepOs.reps (s:Same F H):∀ {vs:List V} {ds:List D} {A:List Addr},RepOs K F H vs ds A->Reps K H vs ds
 | _,_,_,.nil=>.nil
 | _,_,_,.cons r t _=>.cons (RepO.rep s r) (RepOs.reps s t)
end
mutual
theorem RepO.dom:∀ {v:V} {d:D} {A:List Addr},RepO K F H v d A->∀ a ∈ A,(∃ u:MO,H a = some u.1)/\F a = none
 | _,_,_,.imm _ _,_,m=>nomatch m
 | _,_,_,.shr _,_,m=>nomatch m
 | _,_,_,.shm _,_,m=>nomatch m
 | _,_,_,.shf _,_,m=>nomatch m
 | _,_,_,.tup _ r,a,m=>RepOs.dom r a m
 | _,_,_,.lst h n r,a,m=>by
  rcases Zs.mp m with e | e
  . subst e;exact ⟨⟨⟨_,rfl⟩,h⟩,n⟩
  . exact RepOs.dom r a e
 | _,_,_,.md h n _ _ _,a,m=>by
  rcases List.mem_singleton.mp m with rfl
  exact ⟨⟨⟨_,rfl⟩,h⟩,n⟩
theorem RepOs.dom:∀ {vs:List V} {ds:List D} {A:List Addr},RepOs K F H vs ds A->∀ a ∈ A,(∃ u:MO,H a = some u.1)/\F a = none
 | _,_,_,.nil,_,m=>nomatch m
 | _,_,_,.cons r t e,a,m=>by
  subst e
  rcases Zr.mp m with z | z
  . exact RepO.dom r a z
  . exact RepOs.dom t a z
end
mutual
theorem RepO.frame (k:cX H H'):∀ {v:V} {d:D} {A:List Addr},RepO K F H v d A->(∀ a ∈ A,H' a = H a)->RepO K F H' v d A
 | _,_,_,.imm i h,_=>.imm i (gW k h i)
 | _,_,_,.shr h,_=>.shr h
 | _,_,_,.shm h,_=>.shm h
 | _,_,_,.shf h,_=>.shf h
 | _,_,_,.tup h r,e=>.tup (fX k h) (RepOs.frame k r e)
 | _,_,_,.lst h n r,e=>.lst ((e _ Zo).trans h) n (RepOs.frame k r fun a m=>e a (Zp _ m))
 | _,_,_,.md h n l i r,e=>.md ((e _ Zo).trans h) n l i (fZ k r i)
theorem RepOs.frame (k:cX H H'):∀ {vs:List V} {ds:List D} {A:List Addr},RepOs K F H vs ds A->(∀ a ∈ A,H' a = H a)->RepOs K F H' vs ds A
 | _,_,_,.nil,_=>.nil
 | _,_,_,.cons r t e,q=>by
  subst e
  exact .cons (RepO.frame k r fun a m=>q a (List.mem_append_left _ m)) (RepOs.frame k t fun a m=>q a (List.mem_append_right _ m)) rfl
end
mutual
theorem RepO.froz (s:Same F F'):∀ {v:V} {d:D} {A:List Addr},RepO K F H v d A->(∀ a ∈ A,F' a = none)->RepO K F' H v d A
 | _,_,_,.imm i h,_=>.imm i h
 | _,_,_,.shr h,_=>.shr (h.mono s)
 | _,_,_,.shm h,_=>.shm (h.mono s)
 | _,_,_,.shf h,_=>.shf (h.mono s)
 | _,_,_,.tup h r,e=>.tup h (RepOs.froz s r e)
 | _,_,_,.lst h n r,e=>.lst h (e _ Zo) (RepOs.froz s r fun a m=>e a (Zp _ m))
 | _,_,_,.md h n l i r,e=>.md h (e _ Zo) l i r
theorem RepOs.froz (s:Same F F'):∀ {vs:List V} {ds:List D} {A:List Addr},RepOs K F H vs ds A->(∀ a ∈ A,F' a = none)->RepOs K F' H vs ds A
 | _,_,_,.nil,_=>.nil
 | _,_,_,.cons r t e,q=>by
  subst e
  exact .cons (RepO.froz s r fun a m=>q a (List.mem_append_left _ m)) (RepOs.froz s t fun a m=>q a (List.mem_append_right _ m)) rfl
end
mutual
theorem RepO.thaw (s:Same F' F):∀ {v:V} {d:D} {A:List Addr},RepO K F H v d A->own d = true->RepO K F' H v d A
 | _,_,_,.imm i h,_=>.imm i h
 | _,_,_,.shr h,o=>by rw [own] at o;cases o
 | _,_,_,.shm h,o=>by rw [own] at o;cases o
 | _,_,_,.shf h,o=>by rw [own] at o;cases o
 | _,_,_,.tup h r,o=>.tup h (RepOs.thaw s r (by rw [own] at o;exact o))
 | _,_,_,.lst (a:=a) h n r,o=>.lst h (by
  cases q:F' a with
  | none=>rfl
  | some u=>rw [s a u q] at n;cases n) (RepOs.thaw s r (by rw [own] at o;exact o))
 | _,_,_,.md (a:=a) h n l i r,o=>.md h (by
  cases q:F' a with
  | none=>rfl
  | some u=>rw [s a u q] at n;cases n) l i r
theorem RepOs.thaw (s:Same F' F):∀ {vs:List V} {ds:List D} {A:List Addr},RepOs K F H vs ds A->iA ds = true->RepOs K F' H vs ds A
 | _,_,_,.nil,_=>.nil
 | _,_,_,.cons r t e,o=>by
  rw [iA,Bool.and_eq_true] at o
  exact .cons (RepO.thaw s r o.1) (RepOs.thaw s t o.2) e
end
mutual
theorem RepO.none_of:∀ {v:V} {d:D} {A:List Addr},RepO K F H v d A->imm d = true->A = []
 | _,_,_,.imm _ _,_=>rfl
 | _,_,_,.shr _,_=>rfl
 | _,_,_,.shm _,_=>rfl
 | _,_,_,.shf _,_=>rfl
 | _,_,_,.tup _ r,i=>RepOs.none_of r (by rw [imm] at i;exact i)
 | _,_,_,.lst _ _ _,i=>by rw [imm] at i;cases i
 | _,_,_,.md _ _ _ _ _,i=>by rw [imm] at i;cases i
theorem RepOs.none_of:∀ {vs:List V} {ds:List D} {A:List Addr},RepOs K F H vs ds A->dN ds = true->A = []
 | _,_,_,.nil,_=>rfl
 | _,_,_,.cons r t e,i=>by
  rw [dN,Bool.and_eq_true] at i
  rw [e,RepO.none_of r i.1,RepOs.none_of t i.2]
  rfl
end
theorem RepO.seq_nil {v:V} {ds:List D}:∀ {d:D} {A:List Addr},RepO K F H v d A->d = .seq ds->A = []
 | _,_,.imm i _,e=>rfl
 | _,_,.shr _,_=>rfl
 | _,_,.shm _,_=>rfl
 | _,_,.shf _,_=>rfl
 | _,_,.tup _ _,e=>nomatch e
 | _,_,.lst _ _ _,e=>nomatch e
 | _,_,.md _ _ _ _ _,e=>nomatch e
noncomputable def frz (F H:Hp) (A:List Addr):Hp:=fun a=>match H a with
 | some u=>if mtb u = true then (if (F a).isSome = true \/ a ∈ A then some u else none) else some u
 | none=>none
theorem tR {A:List Addr} {a:Addr} {u:HO} (h:H a = some u) (m:a ∈ A):frz F H A a = some u:=by
 unfold frz;rw [h]
 show (if mtb u = true then (if (F a).isSome = true \/ a ∈ A then some u else none) else some u) = some u
 rw [if_pos (show (F a).isSome = true \/ a ∈ A from .inr m)]
 split <;> rfl
theorem lN {A:List Addr}:cX H (frz F H A):=fun a u e n=>by
 unfold frz
 rw [e]
 exact if_neg (by rw [n];exact fun z=>nomatch z)
theorem lM {A:List Addr} (s:Same F H):Same F (frz F H A):=fun a u e=>by
 have h:=s a u e
 unfold frz;rw [h]
 show (if mtb u = true then (if (F a).isSome = true \/ a ∈ A then some u else none) else some u) = some u
 rw [if_pos (show (F a).isSome = true \/ a ∈ A from .inl (by rw [e];rfl))]
 split <;> rfl
theorem rc {A:List Addr}:Same (frz F H A) H:=fun a u e=>by
 unfold frz at e
 split at e
 . rename_i w h
   rw [h]
   split at e
   . split at e
     . exact e
     . cases e
   . exact e
 . cases e
theorem kA {A:List Addr} {a:Addr} {u:MO} (h:H a = some u.1) (n:F a = none) (m:a ∉ A):frz F H A a = none:=by
 unfold frz;rw [h]
 show (if mtb u.1 = true then (if (F a).isSome = true \/ a ∈ A then some u.1 else none) else some u.1) = none
 rw [if_pos u.2]
 refine if_neg fun z=>?_
 rcases z with z | z
 . rw [n] at z;cases z
 . exact m z
mutual
theorem RepO.freeze (s:Same F F') (k:cX H F'):∀ {v:V} {d:D} {A:List Addr},RepO K F H v d A->(∀ a u,a ∈ A->H a = some u->F' a = some u)->Rep K F' v (sh d)
 | _,_,_,.imm i h,_=>kX (gW k h i)
 | _,_,_,.shr h,_=>kX (h.mono s)
 | _,_,_,.shm h,_=>kX (h.mono s)
 | _,_,_,.shf h,_=>kX (h.mono s)
 | _,_,_,.tup h r,e=>by rw [sh];exact .tup (fX k h) (RepOs.freeze s k r e)
 | _,_,_,.lst h _ r,e=>by rw [sh];exact .seq (SqL.of (e _ _ Zo h)) (RepOs.freeze s k r fun a vs m=>e a vs (Zp _ m))
 | _,_,_,.md h _ l i r,e=>by rw [sh];exact .ms (.inl (e _ _ Zo h)) (by rw [c7,Zl];exact l) (cU (fZ k r i))
theorem RepOs.freeze (s:Same F F') (k:cX H F'):∀ {vs:List V} {ds:List D} {A:List Addr},RepOs K F H vs ds A->(∀ a u,a ∈ A->H a = some u->F' a = some u)->Reps K F' vs (shs ds)
 | _,_,_,.nil,_=>.nil
 | _,_,_,.cons r t e,q=>by
  subst e
  rw [shs]
  exact .cons (RepO.freeze s k r fun a vs m=>q a vs (List.mem_append_left _ m)) (RepOs.freeze s k t fun a vs m=>q a vs (List.mem_append_right _ m))
end
mutual
theorem RepO.of_sh (s:Same F H):∀ {v:V} {d:D},Rep K F v d->RepO K F H v (sh d) []
 | _,_,.non=>.imm rfl .non
 | _,_,.bl b=>.imm rfl (.bl b)
 | _,_,.int i=>.imm rfl (.int i)
 | _,_,.str x=>.imm rfl (.str x)
 | _,_,.ty n=>.imm rfl (.ty n)
 | _,_,.tup h r=>by rw [sh];exact .tup (oV s h) (RepOs.of_sh s r)
 | _,_,.lst h r=>by rw [sh];exact .shr (.seq (SqL.of h) (cU r))
 | _,_,.seq h r=>by rw [sh];exact .shr (.seq h (cU r))
 | _,_,.dct h=>.imm rfl (.dct (s _ _ h))
 | _,_,.exc h=>.imm rfl (.exc (s _ _ h))
 | _,_,.cls C=>.imm rfl (.cls C)
 | _,_,.ms h l r=>by rw [sh];exact .shm (.ms h (by rw [c7,Zl];exact l) (cU r))
 | _,_,.mf h l r=>by rw [sh];exact .shf (.mf h (by rw [c7,Zl];exact l) (cU r))
 | _,_,.md h l r=>by rw [sh];exact .shm (.ms (.inl h) (by rw [c7,Zl];exact l) (cU r))
theorem RepOs.of_sh (s:Same F H):∀ {vs:List V} {ds:List D},Reps K F vs ds->RepOs K F H vs (shs ds) []
 | _,_,.nil=>.nil
 | _,_,.cons r t=>by rw [shs];exact .cons (RepO.of_sh s r) (RepOs.of_sh s t) rfl
end
theorem RepOs.length:∀ {vs:List V} {ds:List D} {A:List Addr},RepOs K F H vs ds A->vs.length = ds.length
 | _,_,_,.nil=>rfl
 | _,_,_,.cons _ t _=>congrArg (· + 1) (RepOs.length t)
theorem RepOs.snoc:∀ {vs:List V} {ds:List D} {A B:List Addr} {v:V} {d:D},RepOs K F H vs ds A->RepO K F H v d B->RepOs K F H (vs ++ [v]) (ds ++ [d]) (A ++ B)
 | _,_,_,_,_,_,.nil,r=>.cons r .nil (by simp)
 | _,_,_,_,_,_,.cons q t e,r=>.cons q (RepOs.snoc t r) (by rw [e,List.append_assoc])
theorem RepOs.pick:∀ {vs:List V} {ds:List D} {A:List Addr} {i:Nat} {d:D},RepOs K F H vs ds A->ds[i]? = some d->∃ v A1 B A2,vs[i]? = some v/\RepO K F H v d B/\A = A1 ++ (B ++ A2) /\
 ∀ {H':Hp} {v':V} {d':D} {B':List Addr},cX H H'->(∀ a,a ∈ A1 \/ a ∈ A2->H' a = H a)->RepO K F H' v' d' B'->RepOs K F H' (vs.set i v') (ds.set i d') (A1 ++ (B' ++ A2))
 | _,_,_,_,_,.nil,e=>by simp at e
 | _,_,_,0,_,.cons (A:=A) (B:=B) r t e,q=>by
  simp at q
  subst q
  refine ⟨_,[],A,B,rfl,r,by simpa using e,fun k h r'=>?_⟩
  exact .cons r' (t.frame k fun a m=>h a (.inr m)) (by simp)
 | _,_,_,i + 1,d,.cons (A:=A0) (B:=B0) r t e,q=>by
  obtain ⟨v,A1,B,A2,h1,h2,h3,h4⟩:=RepOs.pick (i:=i) (d:=d) t (by simpa using q)
  refine ⟨v,A0 ++ A1,B,A2,by simpa using h1,h2,by rw [e,h3,List.append_assoc],fun k h r'=>?_⟩
  refine .cons (r.frame k fun a m=>h a (.inl (List.mem_append_left _ m))) (h4 k (fun a m=>h a ?_) r') (by rw [List.append_assoc])
  rcases m with m | m
  . exact .inl (List.mem_append_right _ m)
  . exact .inr m
end
end Dl
namespace Dl
open PySem PySem.Spec PyProof.Rows L2
structure RepA (K:PySem.W.Frag) (F H:Hp) (σ:L2.St) (δ:DS) (As:Nat->List Addr):Prop where
 fz:Same F H
 len:σ.length = δ.length
 val:∀ (i:Nat) (d:D),δ[i]? = some (some d)->∃ v,σ[i]? = some (some v)/\RepO K F H v d (As i)
 non:∀ (i:Nat),(∀ d,δ[i]? ≠ some (some d))->As i = []
 nd:∀ i,(As i).Nodup
 dj:∀ i j a,i ≠ j->a ∈ As i->a ∉ As j
def fg (K:PySem.W.Frag) (F H:Hp) (σ:L2.St) (δ:DS):Prop:=∃ As,RepA K F H σ δ As
section
variable {K:PySem.W.Frag} {F H F' H':Hp} {σ:L2.St} {δ:DS} {As:Nat->List Addr}
theorem RepA.toS (R:RepA K F H σ δ As):RepS K H σ δ:=⟨R.len,fun i d q=>let ⟨v,h1,h2⟩:=R.val i d q;⟨v,h1,h2.rep R.fz⟩⟩
theorem RepA.dom (R:RepA K F H σ δ As) {i:Nat} {a:Addr} (m:a ∈ As i):(∃ u:MO,H a = some u.1)/\F a = none:=by
 by_cases h:∃ d,δ[i]? = some (some d)
 . obtain ⟨d,h⟩:=h
   obtain ⟨v,_,h2⟩:=R.val i d h
   exact h2.dom a m
 . rw [R.non i fun d z=>h ⟨d,z⟩] at m;cases m
theorem RepA.grow (R:RepA K F H σ δ As) (s:Same H H'):RepA K F H' σ δ As :=
 ⟨R.fz.trans s,R.len,fun i d q=>by
  obtain ⟨v,h1,h2⟩:=R.val i d q
  refine ⟨v,h1,h2.frame (bJ s) fun a m=>?_⟩
  obtain ⟨⟨vs,e⟩,_⟩:=h2.dom a m
  rw [e];exact s a _ e,R.non,R.nd,R.dj⟩
theorem RepA.froz (R:RepA K F H σ δ As) (s:Same F F') (s':Same F' H) (n:∀ i a,a ∈ As i->F' a = none):RepA K F' H σ δ As :=
 ⟨s',R.len,fun i d q=>let ⟨v,h1,h2⟩:=R.val i d q;⟨v,h1,h2.froz s (n i)⟩,R.non,R.nd,R.dj⟩
def g8 (As:Nat->List Addr) (i:Nat) (A:List Addr):Nat->List Addr:=fun j=>if j = i then A else As j
theorem ba {i:Nat} {A:List Addr}:g8 As i A i = A:=if_pos rfl
theorem bi {i j:Nat} {A:List Addr} (h:j ≠ i):g8 As i A j = As j:=if_neg h
theorem RepA.set {v:V} {d:D} {A:List Addr} (R:RepA K F H σ δ As) (i:Nat) (hi:i < δ.length) (r:RepO K F H v d A) (nd:A.Nodup) (dj:∀ j a,j ≠ i->a ∈ As j->a ∉ A):RepA K F H (σ.set i (some v)) (δ.set i (some d)) (g8 As i A):=by
 have hl:=R.len
 refine ⟨R.fz,by rw [List.length_set,List.length_set];exact hl,fun j e q=>?_,fun j h=>?_,fun j=>?_,fun j k a hjk m=>?_⟩
 . rw [List.getElem?_set] at q ⊢
   by_cases hj:i = j
   . subst hj
     rw [if_pos rfl,if_pos hi] at q
     rw [if_pos rfl,if_pos (by omega),ba]
     have:d = e:=by simpa using q
     subst this
     exact ⟨v,rfl,r⟩
   . rw [if_neg hj] at q ⊢
     rw [bi (Ne.symm hj)]
     exact R.val j e q
 . by_cases hj:j = i
   . subst hj
     exact absurd (by rw [List.getElem?_set,if_pos rfl,if_pos hi]) (h d)
   . rw [bi hj]
     refine R.non j fun e z=>h e ?_
     rw [List.getElem?_set_ne (Ne.symm hj)]
     exact z
 . by_cases hj:j = i
   . subst hj;rw [ba];exact nd
   . rw [bi hj];exact R.nd j
 . by_cases hj:j = i
   . subst hj
     rw [ba] at m
     rw [bi (Ne.symm hjk)]
     exact fun z=>dj k a (Ne.symm hjk) z m
   . rw [bi hj] at m
     by_cases hk:k = i
     . subst hk;rw [ba];exact dj j a hj m
     . rw [bi hk];exact R.dj j k a hjk m
theorem RepA.drop (R:RepA K F H σ δ As) (i:Nat):RepA K F H σ (δ.set i none) (g8 As i []):=by
 refine ⟨R.fz,by rw [List.length_set];exact R.len,fun j e q=>?_,fun j h=>?_,fun j=>?_,fun j k a hjk m=>?_⟩
 . rw [List.getElem?_set] at q
   by_cases hj:i = j
   . subst hj;rw [if_pos rfl] at q;split at q <;> cases q
   . rw [if_neg hj] at q
     rw [bi (Ne.symm hj)]
     exact R.val j e q
 . by_cases hj:j = i
   . subst hj;rw [ba]
   . rw [bi hj]
     refine R.non j fun e z=>h e ?_
     rw [List.getElem?_set_ne (Ne.symm hj)]
     exact z
 . by_cases hj:j = i
   . subst hj;rw [ba];exact Zw
   . rw [bi hj];exact R.nd j
 . by_cases hj:j = i
   . subst hj;rw [ba] at m;cases m
   . rw [bi hj] at m
     by_cases hk:k = i
     . subst hk;rw [ba];exact fun z=>nomatch z
     . rw [bi hk];exact R.dj j k a hjk m
theorem RepA.write {v:V} {d:D} {A:List Addr} {i:Nat} (R:RepA K F H σ δ As) (hi:i < δ.length) (hσ:σ[i]? = some (some v)) (k:cX H H') (fz:Same F H') (e:∀ j a,j ≠ i->a ∈ As j->H' a = H a) (r:RepO K F H' v d A) (nd:A.Nodup) (dj:∀ j a,j ≠ i->a ∈ As j->a ∉ A) :
 RepA K F H' σ (δ.set i (some d)) (g8 As i A):=by
 refine ⟨fz,by rw [List.length_set];exact R.len,fun j e' q=>?_,fun j h=>?_,fun j=>?_,fun j k a hjk m=>?_⟩
 . rw [List.getElem?_set] at q
   by_cases hj:i = j
   . subst hj
     rw [if_pos rfl,if_pos hi] at q
     have:d = e':=by simpa using q
     subst this
     rw [ba]
     exact ⟨v,hσ,r⟩
   . rw [if_neg hj] at q
     rw [bi (Ne.symm hj)]
     obtain ⟨w,h1,h2⟩:=R.val j e' q
     exact ⟨w,h1,h2.frame k (fun a m=>e j a (Ne.symm hj) m)⟩
 . by_cases hj:j = i
   . subst hj
     exact absurd (by rw [List.getElem?_set,if_pos rfl,if_pos hi]) (h d)
   . rw [bi hj]
     refine R.non j fun e z=>h e ?_
     rw [List.getElem?_set_ne (Ne.symm hj)]
     exact z
 . by_cases hj:j = i
   . subst hj;rw [ba];exact nd
   . rw [bi hj];exact R.nd j
 . by_cases hj:j = i
   . subst hj
     rw [ba] at m
     rw [bi (Ne.symm hjk)]
     exact fun z=>dj k a (Ne.symm hjk) z m
   . rw [bi hj] at m
     by_cases hk:k = i
     . subst hk;rw [ba];exact dj j a hj m
     . rw [bi hk];exact R.dj j k a hjk m
end
abbrev FM:=DS->Option (D × DS)
abbrev FMA:=DS->Option (List D × DS)
structure Ev (F H:Hp) (As:Nat->List Addr) (F' H':Hp) (As':Nat->List Addr) (A:List Addr):Prop where
 fs:Same F F'
 hs:Same H H'
 nf:∀ a (u:MO),H a = some u.1->F a = none->(∀ i,a ∉ As i)->F' a = none
 fa:∀ i a,a ∈ As' i->(∃ j,a ∈ As j) \/ H a = none
 fA:∀ a,a ∈ A->(∃ j,a ∈ As j) \/ H a = none
 nd:A.Nodup
 dj:∀ i a,a ∈ As' i->a ∉ A
theorem Ev.pure {F H H':Hp} {As:Nat->List Addr} (s:Same H H'):Ev F H As F H' As [] :=
 ⟨Same.refl F,s,fun _ _ _ n _=>n,fun i _ m=>.inl ⟨i,m⟩,fun _ m=>(nomatch m),Zw,fun _ _ _ z=>(nomatch z)⟩
theorem Ev.fresh {F H H':Hp} {As:Nat->List Addr} {A:List Addr} (s:Same H H') (h:∀ a ∈ A,H a = none) (nd:A.Nodup) (dom:∀ i a,a ∈ As i->∃ u:MO,H a = some u.1):Ev F H As F H' As A :=
 ⟨Same.refl F,s,fun _ _ _ n _=>n,fun i _ m=>.inl ⟨i,m⟩,fun a m=>.inr (h a m),nd,fun i a m z=>by
  obtain ⟨vs,e⟩:=dom i a m
  rw [h a z] at e;cases e⟩
theorem Ev.seq {F H F1 H1 F2 H2:Hp} {As As1 As2:Nat->List Addr} {A B:List Addr} (a:Ev F H As F1 H1 As1 A) (b:Ev F1 H1 As1 F2 H2 As2 B) (dA:∀ x ∈ A,∃ u:MO,H1 x = some u.1):Ev F H As F2 H2 As2 (A ++ B) where
 fs:=a.fs.trans b.fs
 hs:=a.hs.trans b.hs
 nf:=fun x vs e n h=>b.nf x vs (a.hs x _ e) (a.nf x vs e n h) fun i m=>by
  rcases a.fa i x m with ⟨j,z⟩ | z
  . exact h j z
  . rw [e] at z;cases z
 fa:=fun i x m=>by
  rcases b.fa i x m with ⟨j,z⟩ | z
  . exact a.fa j x z
  . refine .inr ?_
    cases q:H x with
    | none=>rfl
    | some u=>rw [a.hs x u q] at z;cases z
 fA:=fun x m=>by
  rcases Zr.mp m with z | z
  . exact a.fA x z
  . rcases b.fA x z with ⟨j,y⟩ | y
    . exact a.fa j x y
    . refine .inr ?_
      cases q:H x with
      | none=>rfl
      | some u=>rw [a.hs x u q] at y;cases y
 nd:=by
  refine List.nodup_append.mpr ⟨a.nd,b.nd,fun x hx y hy e=>?_⟩
  subst e
  rcases b.fA x hy with ⟨j,z⟩ | z
  . exact a.dj j x z hx
  . obtain ⟨vs,e⟩:=dA x hx
    rw [z] at e;cases e
 dj:=fun i x m z=>by
  rcases Zr.mp z with z | z
  . rcases b.fa i x m with ⟨j,y⟩ | y
    . exact a.dj j x y z
    . obtain ⟨vs,e⟩:=dA x z
      rw [y] at e;cases e
  . exact b.dj i x m z
theorem Ev.stays {K:PySem.W.Frag} {F1 H1 F2 H2:Hp} {As1 As2:Nat->List Addr} {A B:List Addr} {v:V} {d:D} (b:Ev F1 H1 As1 F2 H2 As2 B) (r:RepO K F1 H1 v d A) (dj:∀ i a,a ∈ As1 i->a ∉ A):RepO K F2 H2 v d A:=by
 have h1:RepO K F1 H2 v d A:=r.frame (bJ b.hs) fun a m=>by
  obtain ⟨⟨vs,e⟩,_⟩:=r.dom a m
  rw [e];exact b.hs a _ e
 refine h1.froz b.fs fun a m=>?_
 obtain ⟨⟨vs,e⟩,n⟩:=r.dom a m
 exact b.nf a vs e n fun i z=>dj i a z m
def upV (K:PySem.W.Frag) (f:FM):TE:=fun σ H Q=>∃ F δ As d δ',RepA K F H σ δ As/\f δ = some (d,δ')/\∀ v F' H' A As',Ev F H As F' H' As' A->RepA K F' H' σ δ' As'->RepO K F' H' v d A->Q v H'
def Bm (K:PySem.W.Frag) (n:Nat) (f:FMA):TA:=fun σ H Q=>∃ F δ As ds δ',RepA K F H σ δ As/\f δ = some (ds,δ')/\∀ vs F' H' A As',Ev F H As F' H' As' A->RepA K F' H' σ δ' As'->RepOs K F' H' vs ds A->vs.length = n->Q vs H'
def PV (X:Cx) (e:Expr) (f:FM):Prop:=PE X e (upV X.K f)
def PVA (X:Cx) (es:List Expr) (f:FMA):Prop:=PA X es (Bm X.K es.length f)
def vI (f:FD):FM:=fun δ=>(f δ).bind fun d=>if imm d then some (d,δ) else none
def aA (i:Nat):FM:=fun δ=>match δ[i]? with
 | some (some (.seq ds))=>some (.seq ds,δ)
 | some (some d)=>if imm d then some (d,δ) else some (d,δ.set i none)
 | _=>none
def aD (i:Nat):FM:=fun δ=>match δ[i]? with
 | some (some d)=>some (sh d,δ.set i (some (sh d)))
 | _=>none
def bc:FMA:=fun δ=>some ([],δ)
def aB (f:FM) (g:FMA):FMA:=fun δ=>(f δ).bind fun p=>(g p.2).bind fun q=>some (p.1 :: q.1,q.2)
def bj (g:FMA):FM:=fun δ=>(g δ).bind fun p=>some (.lst p.1,p.2)
def bm (g:FMA):FM:=fun δ=>(g δ).bind fun p=>some (.tup p.1,p.2)
def aJ (G:List D->Option D) (g:FA):FM:=fun δ=>(g δ).bind fun ds=>(G ds).bind fun d=>if own d then some (d,δ) else none
def bW (K:PySem.W.Frag) (n:Nat) (G:List D->Option D):Sp:=fun vs H Q _=>vs.length = n/\∃ ds d,Reps K H vs ds/\G ds = some d/\∀ v H' A,Same H H'->RepO K H H' v d A->A.Nodup->Q v H'
section
variable {X:Cx} {e:Expr} {es:List Expr} {f:FD} {fm:FM} {g:FMA} {ga:FA} {pos p:Pos}
theorem be (h:PD X e f):PV X e (vI f):=imp h fun σ H Q ⟨F,δ,As,d,δ',R,q,k⟩=>by
 unfold vI at q
 obtain ⟨d0,ed,q⟩:=Za.mp q
 split at q
 . rename_i hi
   cases q
   exact ⟨δ,d,R.toS,ed,fun v H' s r=>k v F H' [] As (.pure s) (R.grow s) (.imm hi r)⟩
 . cases q
theorem bQ (i:Nat) {x:Str} (hN:X.N[i]? = some x:=by rfl) (hv:Vis X.env.scope x:=by first | exact Or.inl rfl | exact Or.inr (Or.inl rfl) | exact Or.inr (Or.inr rfl)) (hd:(x == ("__debug__":Str)) = false:=by decide)
 (hcd:(x == ("__classdict__":Str)) = false:=by decide):PV X (.Name x pos) (aA i) :=
 imp (iR hN hv hd hcd) fun σ H Q ⟨F,δ,As,d,δ',R,q,k⟩=>by
  unfold aA at q
  split at q
  . rename_i ds h
    cases q
    obtain ⟨v,h1,h2⟩:=R.val i _ h
    rw [h2.seq_nil rfl] at h2
    exact ⟨v,h1,k v F H [] As (.pure (Same.refl H)) R h2⟩
  . rename_i d0 _ h
    obtain ⟨v,h1,h2⟩:=R.val i _ h
    split at q
    . rename_i hi
      cases q
      have z:=h2.none_of hi
      rw [z] at h2
      exact ⟨v,h1,k v F H [] As (.pure (Same.refl H)) R h2⟩
    . cases q
      refine ⟨v,h1,k v F H (As i) (g8 As i []) ⟨Same.refl F,Same.refl H,fun _ _ _ n _=>n,fun j a m=>?_,fun a m=>.inl ⟨i,m⟩,R.nd i,fun j a m=>?_⟩ (R.drop i) h2⟩
      . by_cases hj:j = i
        . subst hj;rw [ba] at m;cases m
        . rw [bi hj] at m;exact .inl ⟨j,m⟩
      . by_cases hj:j = i
        . subst hj;rw [ba] at m;cases m
        . rw [bi hj] at m;exact R.dj j i a hj m
  . cases q
theorem k6 (i:Nat) {x:Str} (hN:X.N[i]? = some x:=by rfl) (hv:Vis X.env.scope x:=by first | exact Or.inl rfl | exact Or.inr (Or.inl rfl) | exact Or.inr (Or.inr rfl)) (hd:(x == ("__debug__":Str)) = false:=by decide)
 (hcd:(x == ("__classdict__":Str)) = false:=by decide):PV X (.Name x pos) (aD i) :=
 imp (iR hN hv hd hcd) fun σ H Q ⟨F,δ,As,d,δ',R,q,k⟩=>by
  unfold aD at q
  split at q
  . rename_i d0 h
    cases q
    obtain ⟨v,h1,h2⟩:=R.val i _ h
    have hi:i < δ.length:=(List.getElem?_eq_some_iff.mp h).1
    have s1:=lM (A:=As i) R.fz
    have s2:Same (frz F H (As i)) H:=rc
    have z:Rep X.K (frz F H (As i)) v (sh d0):=h2.freeze s1 lN fun a vs m e=>tR e m
    have z2:RepO X.K (frz F H (As i)) H v (sh (sh d0)) []:=RepO.of_sh s2 z
    rw [sa d0] at z2
    have R1:=(R.drop i).froz s1 s2 (fun j a m=>by
     by_cases hj:j = i
     . subst hj;rw [ba] at m;cases m
     . rw [bi hj] at m
       obtain ⟨⟨vs,e⟩,n⟩:=R.dom m
       exact kA e n (R.dj j i a hj m))
    have R2:=R1.set i (by rw [List.length_set];exact hi) z2 Zw fun _ _ _ _ z=>nomatch z
    have hσ:σ.set i (some v) = σ:=by
     refine List.ext_getElem? fun j=>?_
     rw [List.getElem?_set]
     split
     . rename_i hj;subst hj
       rw [h1,if_pos (by rw [R.len];exact hi)]
     . rfl
    rw [hσ,List.set_set] at R2
    refine ⟨v,h1,k v _ H [] _ ⟨s1,Same.refl H,fun a vs e n h=>kA e n (h i),fun j a m=>?_,fun _ m=>(nomatch m),Zw,fun _ _ _ z=>(nomatch z)⟩ R2 z2⟩
    by_cases hj:j = i
    . subst hj;rw [ba] at m;cases m
    . rw [bi hj,bi hj] at m;exact .inl ⟨j,m⟩
  . cases q
theorem dz:PVA X [] bc:=ol eU fun σ H Q ⟨F,δ,As,ds,δ',R,q,k⟩=>by
 cases q
 exact k [] F H [] As (.pure (Same.refl H)) R .nil rfl
theorem cF (ha:PV X e fm) (hr:PVA X es g) (hs:starEach (e :: es) X.env = (false,eval e X.env) :: starEach es X.env:=by rfl):PVA X (e :: es) (aB fm g):=ol (cV ha hr hs) fun σ H Q ⟨F,δ,As,ds,δ',R,q,k⟩=>by
 unfold aB at q
 obtain ⟨⟨d1,δ1⟩,e1,q⟩:=Za.mp q
 obtain ⟨⟨ds2,δ2⟩,e2,q⟩:=Za.mp q
 cases q
 refine ⟨F,δ,As,d1,δ1,R,e1,fun v F1 H1 A As1 ev1 R1 r1=>⟨F1,δ1,As1,ds2,δ2,R1,e2,fun vs F2 H2 B As2 ev2 R2 r2 l=>?_⟩⟩
 exact k (v :: vs) F2 H2 (A ++ B) As2 (ev1.seq ev2 fun x m=>(r1.dom x m).1) R2 (.cons (ev2.stays r1 ev1.dj) r2 rfl) (congrArg (· + 1) l)
theorem yV {x1} (h:PVA X es g) (hz:es.length <= 1000:=by decide):PV X (.Tuple es x1 pos) (bm g):=imp (qG h) fun σ H Q ⟨F,δ,As,d,δ',R,q,k⟩=>by
 unfold bm at q
 obtain ⟨⟨ds,δ1⟩,e1,q⟩:=Za.mp q
 cases q
 refine ⟨F,δ,As,ds,_,R,e1,fun vs F1 H1 A As1 ev R1 r1 l=>⟨cq (by rw [l];exact hz),fun p hp=>?_⟩⟩
 have s:=bB hp (.tup vs)
 have ev':Ev F H As F1 (upd H1 p (.tup vs)) As1 A:=⟨ev.fs,ev.hs.trans s,ev.nf,ev.fa,ev.fA,ev.nd,ev.dj⟩
 refine k _ F1 _ A As1 ev' (R1.grow s) (.tup (SqT.of aX) (r1.frame (bJ s) fun a m=>?_))
 obtain ⟨⟨ws,e⟩,_⟩:=r1.dom a m
 rw [e];exact s a _ e
theorem iP (h:PVA X es g) (hz:es.length <= 1000:=by decide):PV X (.List es pos) (bj g):=imp (qH h) fun σ H Q ⟨F,δ,As,d,δ',R,q,k⟩=>by
 unfold bj at q
 obtain ⟨⟨ds,δ1⟩,e1,q⟩:=Za.mp q
 cases q
 refine ⟨F,δ,As,ds,_,R,e1,fun vs F1 H1 A As1 ev R1 r1 l=>⟨cq (by rw [l];exact hz),fun p hp=>?_⟩⟩
 have s:=bB hp (.lst vs)
 have np:∀ {u:Hp},Same u H1->u p = none:=fun {u} su=>by
  cases q:u p with
  | none=>rfl
  | some o=>rw [su p o q] at hp;cases hp
 have ev':Ev F H As F1 (upd H1 p (.lst vs)) As1 (p :: A):=⟨ev.fs,ev.hs.trans s,ev.nf,ev.fa,fun a m=>by
  rcases Zs.mp m with z | z
  . subst z;exact .inr (np ev.hs)
  . exact ev.fA a z,List.nodup_cons.mpr ⟨fun m=>(by
    obtain ⟨⟨ws,e⟩,_⟩:=r1.dom p m
    rw [hp] at e;cases e),ev.nd⟩,fun i a m z=>by
  rcases Zs.mp z with z | z
  . subst z
    obtain ⟨⟨ws,e⟩,_⟩:=R1.dom m
    rw [hp] at e;cases e
  . exact ev.dj i a m z⟩
 refine k _ F1 _ (p :: A) As1 ev' (R1.grow s) (.lst aX (np R1.fz) (r1.frame (bJ s) fun a m=>?_))
 obtain ⟨⟨ws,e⟩,_⟩:=r1.dom a m
 rw [e];exact s a _ e
end
end Dl
namespace Dl
open PySem PySem.Spec PyProof.Rows L2
def RPM (X:Cx) (E:mh) (F:Hp):Res->Prop
 | .nx δ=>∀ σ' F' H',Same F F'->fg X.K F' H' σ' δ->E.nx σ' H'
 | .rt d=>∀ v F' H' A,Same F F'->Same F' H'->RepO X.K F' H' v d A->A.Nodup->E.rt v H'
 | .bk δ=>∀ σ' F' H',Same F F'->fg X.K F' H' σ' δ->E.bk σ' H'
 | .ct δ=>∀ σ' F' H',Same F F'->fg X.K F' H' σ' δ->E.ct σ' H'
 | .ex C δ=>∀ σ' F' H',Same F F'->fg X.K F' H' σ' δ->Bi X C σ' H'
 | .mk C δ=>∀ σ' F' H',Same F F'->fg X.K F' H' σ' δ->yj X C σ' H'
theorem RPM.mono {X:Cx} {E:mh} {F F1:Hp} {r:Res} (s:Same F F1) (h:RPM X E F r):RPM X E F1 r:=by
 cases r with
 | nx δ=>exact fun σ' F' H' s2 R=>h σ' F' H' (s.trans s2) R
 | rt d=>exact fun v F' H' A s2=>h v F' H' A (s.trans s2)
 | bk δ=>exact fun σ' F' H' s2 R=>h σ' F' H' (s.trans s2) R
 | ct δ=>exact fun σ' F' H' s2 R=>h σ' F' H' (s.trans s2) R
 | ex C δ=>exact fun σ' F' H' s2 R=>h σ' F' H' (s.trans s2) R
 | mk C δ=>exact fun σ' F' H' s2 R=>h σ' F' H' (s.trans s2) R
def upM (X:Cx) (s:SD):TS:=fun E σ H=>∃ F δ r,fg X.K F H σ δ/\s δ = some r/\RPM X E F r
def PMD (X:Cx) (st:Stmt) (s:SD):Prop:=PS X st (upM X s)
def PMs (X:Cx) (sts:List Stmt) (s:SD):Prop:=PSs X sts (upM X s)
section
variable {K:PySem.W.Frag} {F H:Hp} {σ:L2.St} {δ:DS} {As:Nat->List Addr}
theorem RepA.setM {v:V} {d:D} {A:List Addr} (R:RepA K F H σ δ As) (i:Nat) (r:RepO K F H v d A) (nd:A.Nodup) (dj:∀ j a,a ∈ As j->a ∉ A):fg K F H (σ.set i (some v)) (δ.set i (some d)):=by
 by_cases hi:i < δ.length
 . exact ⟨_,R.set i hi r nd fun j a _ m=>dj j a m⟩
 . have hl:=R.len
   rw [List.set_eq_of_length_le (by omega),List.set_eq_of_length_le (by omega)]
   exact ⟨As,R⟩
end
section
variable {X:Cx} {st:Stmt} {rest:List Stmt} {s u:SD} {e:Expr} {f:FD} {fm:FM} {c:FT} {pos:Pos}
theorem dM:PMs X [] aZ:=m7 nU fun E σ H ⟨F,δ,r,R,e,k⟩=>by cases e;exact k σ F H (Same.refl F) R
theorem aW (h1:PMD X st s) (h2:PMs X rest u):PMs X (st :: rest) (aO s u):=m7 (lf h1 h2) fun E σ H ⟨F,δ,r,R,e,k⟩=>by
 unfold aO at e
 obtain ⟨r1,e1,e⟩:=Za.mp e
 refine ⟨F,δ,r1,R,e1,?_⟩
 cases r1 with
 | nx δ'=>exact fun σ' F' H' s1 R1=>⟨F',δ',r,R1,e,k.mono s1⟩
 | rt d=>cases e;exact k
 | bk d=>cases e;exact k
 | ct d=>cases e;exact k
 | ex C d=>cases e;exact k
 | mk C d=>cases e;exact k
theorem bq (h:PMD X st s):PMs X [st] s:=nS h
theorem fI {cx:Expr} {a b:List Stmt} (hc:PTD X cx c) (ha:PMs X a s) (hb:PMs X b u):PMD X (.If cx a b pos) (sIf c s u):=fU (vv hc ha hb) fun E σ H ⟨F,δ,r,⟨As,R⟩,q,k⟩=>by
 unfold sIf at q
 obtain ⟨d,ed,q⟩:=Za.mp q
 refine ⟨δ,d,R.toS,ed,fun H' s1=>?_⟩
 cases d with
 | true=>rw [if_pos rfl];exact ⟨F,δ,r,⟨As,R.grow s1⟩,q,k⟩
 | false=>rw [if_neg Bool.false_ne_true];exact ⟨F,δ,r,⟨As,R.grow s1⟩,q,k⟩
def av (i:Nat) (f:FM):SD:=fun δ=>(f δ).bind fun p=>some (.nx (p.2.set i (some p.1)))
def aP (f:FM):SD:=fun δ=>(f δ).bind fun p=>some (.rt p.1)
def aE (f:FM):SD:=fun δ=>(f δ).bind fun p=>some (.nx p.2)
theorem bZ (i:Nat) {x:Str} {pos':Pos} (hN:X.N.Nodup) (he:PV X e fm) (hi:X.N[i]? = some x:=by rfl) (hx:Loc X.env.scope x:=by first | exact Or.inl rfl | exact Or.inr rfl) (hs:swapsWith e (some (.Name x pos')) pos.line X.env = pure false:=by rfl) (hf:X.fn x = true \/ X.env.scope.names.lookup x = some .local:=by first | exact .inl rfl | exact .inr rfl | assumption) :
 PMD X (.Assign [.Name x pos'] e pos) (av i fm):=fU (nV hN hi hx he hs hf) fun E σ H ⟨F,δ,r,⟨As,R⟩,q,k⟩=>by
 unfold av at q
 obtain ⟨⟨d,δ'⟩,ed,q⟩:=Za.mp q
 cases q
 exact ⟨F,δ,As,d,δ',R,ed,fun v F' H' A As' ev R' r'=>k (σ.set i (some v)) F' H' ev.fs (R'.setM i r' ev.nd ev.dj)⟩
theorem bU (he:PV X e fm):PMD X (.Return (some e) pos) (aP fm):=fU (qB he) fun E σ H ⟨F,δ,r,⟨As,R⟩,q,k⟩=>by
 unfold aP at q
 obtain ⟨⟨d,δ'⟩,ed,q⟩:=Za.mp q
 cases q
 exact ⟨F,δ,As,d,δ',R,ed,fun v F' H' A As' ev R' r'=>k v F' H' A ev.fs R'.fz r' ev.nd⟩
end
def ItF (K:PySem.W.Frag) (J:It) (F:Hp) (ds:List D):Prop:=∀ i H2,Same F H2 ->
 (i < ds.length->J.go i H2/\∀ x H',J.yld i H2 x H'->H' = H2/\∃ d,ds[i]? = some d/\Rep K F x d)/\(ds.length <= i->J.stop i H2)
def Bq (K:PySem.W.Frag) (src:FMA):TI:=fun σ H R=>∃ F δ As ds δ',RepA K F H σ δ As/\src δ = some (ds,δ')/\∀ J F' H1 As',Same F F'->RepA K F' H1 σ δ' As'->ItF K J F' ds->R J H1
def PIM (X:Cx) (tg iter:Expr) (src:FMA):Prop:=PI X tg iter (Bq X.K src)
theorem v5 {K:PySem.W.Frag} {F:Hp} {a:Addr} {vs:List V} {ds:List D} (hq:SqL K F a vs) (r:Reps K F vs ds):ItF K (Itl K a) F ds:=by
 intro i H2 s
 have hq2:=s.seq hq
 have hl:=r.length
 refine ⟨fun hi=>⟨⟨vs,vs[i],hq2,by simp [show i < vs.length by omega]⟩,fun x H' y=>?_⟩,fun hi=>⟨vs,hq2,by omega⟩⟩
 obtain ⟨e,y⟩:=y
 subst e
 obtain ⟨d,h1,h2⟩:=r.getV (y vs hq2)
 exact ⟨rfl,d,h1,h2⟩
def kK (f:FM):FMA:=fun δ=>(f δ).bind fun p=>match sh p.1 with
 | .seq ds=>some (ds,p.2)
 | _=>none
theorem jh {X:Cx} {tg l:Expr} {fm:FM} (hl:PV X l fm):PIM X tg l (kK fm):=qW (sG hl) fun σ H R ⟨F,δ,As,ds,δ',R0,e,k⟩=>by
 unfold kK at e
 obtain ⟨⟨d,δ1⟩,ed,e⟩:=Za.mp e
 dsimp only at e
 split at e
 . rename_i es hs
   cases e
   refine ⟨F,δ,As,d,_,R0,ed,fun v F1 H1 A As1 ev R1 r1=>?_⟩
   have s1:=lM (A:=A) R1.fz
   have s2:Same (frz F1 H1 A) H1:=rc
   have z:Rep X.K (frz F1 H1 A) v (sh d):=r1.freeze s1 lN fun a vs m e=>tR e m
   rw [hs] at z
   have R2:=R1.froz s1 s2 (fun j a m=>by
    obtain ⟨⟨vs,e⟩,n⟩:=R1.dom m
    exact kA e n (ev.dj j a m))
   cases z with
   | @seq p vs _ hp rp=>exact ⟨p,rfl,⟨vs,s2.seq hp⟩,k _ _ H1 As1 (ev.fs.trans s1) R2 (v5 hp rp)⟩
 . cases e
theorem m6 {K:PySem.W.Frag} {F:Hp} {lo:Int} {n:Nat}:ItF K (Itr lo n) F ((List.range n).map fun (i:Nat)=>D.int (lo + (i:Int) * 1)):=by
 intro i H2 s
 refine ⟨fun hi=>?_,fun hi=>(show n <= i by simpa using hi)⟩
 have hi':i < n:=by simpa using hi
 refine ⟨hi',fun x H' y=>?_⟩
 obtain ⟨e,y⟩:=y
 subst e y
 refine ⟨rfl,.int (lo + (i:Int) * 1),?_,by rw [Int.mul_one];exact .int _⟩
 rw [List.getElem?_map,List.getElem?_range hi']
 rfl
def nF (g:FA):FMA:=fun δ=>(g δ).bind fun ds=>(asR ds).bind fun rs=>if ds.length <= 2 then some (rs,δ) else none
theorem qF {X:Cx} {tg a:Expr} {g:FA} {p pos:Pos} (hg:Gl X "range") (hm:X.mg "range" = none) (ha:PAD X [a] g) (hs:starEach [a] X.env = [(false,eval a X.env)]:=by rfl):PIM X tg (.Call (.Name "range" p) [a] [] pos) (nF g) :=
 qW (mU hg hm ha hs) fun σ H R ⟨F,δ,As,ds,δ',R0,e,k⟩=>by
 unfold nF at e
 obtain ⟨xs,exs,e⟩:=Za.mp e
 obtain ⟨rs,ers,e⟩:=Za.mp e
 split at e
 . cases e
   refine ⟨δ,xs,R0.toS,exs,fun vs H1 s1 r1 l=>?_⟩
   match xs,r1,ers with
   | [.int b],r1,e =>
    obtain ⟨v,rfl,rv⟩:=jV r1
    cases rv
    have e':(if -(2 ^ 62) <= b/\b < 2 ^ 62 then some (fQ 0 b 1) else none) = some ds:=e
    by_cases hb:-(2 ^ 62) <= b/\b < 2 ^ 62
    . rw [if_pos hb] at e'
      have e2:fQ 0 b 1 = ds:=Option.some.inj e'
      refine ⟨b,rfl,hb.1,hb.2,k _ F H1 As (Same.refl F) (R0.grow s1) ?_⟩
      have h:=m6 (K:=X.K) (F:=F) (lo:=0) (n:=b.toNat)
      have e3:((b - 0 + 1 - 1) / 1).toNat = b.toNat:=by congr 1;omega
      unfold fQ at e2
      rw [e3] at e2
      rw [<- e2]
      exact h
    . rw [if_neg hb] at e';cases e'
   | [],r1,e=>cases r1;cases l
   | _ :: _ :: _,r1,e =>
    have:=r1.length
    rw [l] at this
    cases this
   | [.non],r1,e=>cases e
   | [.bl _],r1,e=>cases e
   | [.str _],r1,e=>cases e
   | [.tup _],r1,e=>cases e
   | [.lst _],r1,e=>cases e
   | [.seq _],r1,e=>cases e
   | [.ty _],r1,e=>cases e
   | [.dct],r1,e=>cases e
   | [.exc _],r1,e=>cases e
   | [.cls _],r1,e=>cases e
   | [.ms _ _],r1,e=>cases e
   | [.mf _ _],r1,e=>cases e
   | [.md _ _],r1,e=>cases e
 . cases e
def forM (i:Nat) (s:SD):List D->SD
 | []=>fun δ=>some (.nx δ)
 | d :: ds=>fun δ=>(s (δ.set i (some (sh d)))).bind fun r=>match r with
  | .nx δ'=>forM i s ds δ'
  | .ct δ'=>forM i s ds δ'
  | .bk δ'=>some (.nx δ')
  | .rt d=>some (.rt d)
  | .ex C δ'=>some (.ex C δ')
  | .mk C δ'=>some (.mk C δ')
def jU (src:FMA) (i:Nat) (s:SD):SD:=fun δ=>(src δ).bind fun p=>forM i s p.1 p.2
theorem nW {X:Cx} {iter:Expr} {body:List Stmt} {src:FMA} {s:SD} {x:Str} {px pos:Pos} (i:Nat) (hN:X.N.Nodup) (hp:PassesOwn (model X.prog X.w) X.A X.env X.xe) (hc:X.calm = true) (hi:PIM X (.Name x px) iter src) (hb:PMs X body s)
 (hx:X.N[i]? = some x:=by rfl) (hl:Loc X.env.scope x:=by first | exact Or.inl rfl | exact Or.inr rfl) (hf:X.fn x = true \/ X.env.scope.names.lookup x = some .local:=by first | exact .inl rfl | exact .inr rfl | assumption)
 (hs:∀ x,foldedSetIterable iter X.env x = pure x:=by intro _;rfl):PMD X (.For (.Name x px) iter body [] pos) (jU src i s):=fU (qC hp hc hi (gz hN hx hl hf) hb hs) fun E σ H ⟨F,δ,r,⟨As,R⟩,e,k⟩=>by
 unfold jU at e
 obtain ⟨⟨ds,δ1⟩,eds,e⟩:=Za.mp e
 refine ⟨F,δ,As,ds,δ1,R,eds,fun J F1 H1 As1 s1 R1 it=>?_⟩
 refine ⟨fun j m σ H=>m = ds.length - j/\j <= ds.length/\∃ F2 δ,Same F1 F2/\fg X.K F2 H σ δ/\forM i s (ds.drop j) δ = some r/\RPM X E F2 r,⟨ds.length,rfl,Nat.zero_le _,F1,δ1,Same.refl _,⟨As1,R1⟩,e,k.mono s1⟩,?_⟩
 rintro j m σ H2 ⟨rfl,hjl,F2,δ2,s2,⟨As2,R2⟩,e2,k2⟩
 by_cases hlt:j < ds.length
 . obtain ⟨go,yl⟩:=(it j H2 (s2.trans R2.fz)).1 hlt
   rw [List.drop_eq_getElem_cons hlt] at e2
   obtain ⟨r4,e4,e2⟩:=Za.mp (show ((s (δ2.set i (some (sh ds[j])))).bind _) = some r from e2)
   refine .inr ⟨go,fun σ' H'=>∃ F3 δ,Same F1 F3/\fg X.K F3 H' σ' δ/\forM i s (ds.drop (j + 1)) δ = some r/\RPM X E F3 r,fun σ' H' z=>⟨ds.length - (j + 1),by omega,rfl,hlt,z⟩,fun y H' yy=>?_⟩
   obtain ⟨eH,d,hd,rx⟩:=yl y H' yy
   subst eH
   have hd':d = ds[j]:=by
    rw [Zv hlt] at hd
    exact (Option.some.inj hd).symm
   subst hd'
   have R3:=R2.setM i (RepO.of_sh R2.fz (rx.mono s2)) Zw fun _ _ _ z=>nomatch z
   refine ⟨F2,δ2.set i (some (sh ds[j])),r4,R3,e4,?_⟩
   cases r4 with
   | nx δ'=>exact fun σ' F' H'' s4 R4=>⟨F',δ',s2.trans s4,R4,e2,k2.mono s4⟩
   | ct δ'=>exact fun σ' F' H'' s4 R4=>⟨F',δ',s2.trans s4,R4,e2,k2.mono s4⟩
   | bk δ'=>cases e2;exact k2
   | rt d=>cases e2;exact k2
   | ex C δ'=>cases e2;exact k2
   | mk C δ'=>cases e2;exact k2
 . have e:j = ds.length:=by omega
   subst e
   rw [List.drop_length] at e2
   cases e2
   exact .inl ⟨(it _ H2 (s2.trans R2.fz)).2 (Nat.le_refl _),k2 σ F2 H2 (Same.refl _) ⟨As2,R2⟩⟩
def bf (n:Nat) (ds:List D):DS:=(shs ds).map some ++ List.replicate (n - ds.length) none
theorem kY {K:PySem.W.Frag} {H:Hp} {N:List Str} {vs:List V} {ds:List D} (r:Reps K H vs ds):fg K H H (L2.start N vs) (bf N.length ds):=by
 have l2:(shs ds).length = ds.length:=by rw [c7,Zl]
 refine ⟨fun _=>[],Same.refl H,by unfold L2.start bf;simp [r.length,l2],fun i d q=>?_,fun _ _=>rfl,fun _=>Zw,fun _ _ _ _ m=>nomatch m⟩
 unfold bf at q
 unfold L2.start
 have hi:i < ds.length:=by
  by_cases hi:i < ds.length
  . exact hi
  . rw [List.getElem?_append_right (by simpa [l2] using hi),List.getElem?_replicate] at q
    split at q <;> cases q
 rw [List.getElem?_append_left (by simpa [l2] using hi),List.getElem?_map] at q
 obtain ⟨e,h1,h2⟩:=Zb.mp q
 cases h2
 rw [c7,List.getElem?_map] at h1
 obtain ⟨d0,h3,h4⟩:=Zb.mp h1
 subst h4
 obtain ⟨v,h5,h6⟩:=r.get h3
 have hv:i < vs.length:=by rw [r.length];exact hi
 exact ⟨v,by rw [List.getElem?_append_left (by simpa using hv),List.getElem?_map,h5];rfl,RepO.of_sh (Same.refl H) h6⟩
section
variable {P:Program} {w:World} {K:PySem.W.Frag} {mg:Str->Option Value} {base:Heap}
theorem ce {x qual:Str} {st:Stmt} {f:Addr} {fd:FuncData} {N ps:List Str} {k:Nat} {G:List D->Option D} (F:Fun K x qual st f fd) (S:aQ N ps (ak st))
 (hbody:∀ (cdv:Value) (A:Around) (outer:List Env) (s:Shared) (H:Hp) (E:XK) (ds:List D) (d:D),Room k (A.deeper (envOfC qual (ak st) s.heap.objs.size f cdv))->G ds = some d->ds.length = ps.length ->
  ∃ t,PMs (lV CX0 P w K mg base N qual (ak st) f cdv A outer s H E).nox (bR st) t/\az (t (bf N.length ds)) = some d/\own d = true):FnOk P w K mg base CX0 (k + 1) f fd ps (bW K ps.length G):=by
 refine F.ok S (fun vs H Q E h=>h.1) (fun cdv A outer s H vs Q E hr h=>?_)
 obtain ⟨hl,ds,d,r,e,q⟩:=h
 obtain ⟨t,ht,hq,ho⟩:=hbody cdv A outer s H E ds d hr e (r.length.symm.trans hl)
 refine ⟨_,ht,H,bf N.length ds,?_⟩
 cases z:t (bf N.length ds) with
 | none=>rw [z] at hq;cases hq
 | some res =>
  rw [z] at hq
  refine ⟨res,kY r,rfl,?_⟩
  cases res with
  | rt d'=>cases hq;exact fun v F' H' A s1 s2 r1 nd=>q v H' A (s1.trans s2) (r1.thaw s1 ho) nd
  | nx δ=>cases hq;exact fun σ' F' H' s1 ⟨As,R⟩=>q _ H' [] (s1.trans R.fz) (.imm rfl .non) Zw
  | bk δ=>cases hq
  | ct δ=>cases hq
  | ex C δ=>cases hq
  | mk C δ=>cases hq
structure HasF (P:Program) (w:World) (K:PySem.W.Frag) (mg:Str->Option Value) (base:Heap) (k:Nat) (x:Str) (ps:List Str) (G:List D->Option D):Prop where
 ex:∃ f fd,FnOk P w K mg base CX0 k f fd ps (bW K ps.length G)/\mg x = some (.ref f)/\PySem.W.keepIn K (.ref f) = true/\Binds K fd ps []
theorem HasF.has {k:Nat} {x:Str} {ps:List Str} {G:List D->Option D} (h:HasF P w K mg base k x ps G):Has P w K mg base k x ps G:=by
 obtain ⟨f,fd,F,h1,h2,h3⟩:=h.ex
 refine ⟨f,fd,F.imp fun vs H Q E ⟨l,ds,d,r,e,q⟩=>⟨l,ds,d,r,e,fun v H' A s r1 _=>q v H' s (r1.rep s)⟩,h1,h2,h3⟩
theorem xA {x qual q:Str} {st:Stmt} {f:Addr} {fd:FuncData} {N:List Str} {k:Nat} (F:Fun K x qual st f fd) (S:aQ N [q] (ak st))
 (hbody:∀ (cdv:Value) (A:Around) (outer:List Env) (s:Shared) (H:Hp) (E:XK) (ns:List Int),Room k (A.deeper (envOfC qual (ak st) s.heap.objs.size f cdv))->ns.length <= 63 ->
  ∃ t,PMs (lV CX0 P w K mg base N qual (ak st) f cdv A outer s H E).nox (bR st) t/\az (t (bf N.length [.seq (ns.map D.int)])) = some (.bl true)):FnOk P w K mg base CX0 (k + 1) f fd [q] (spLaw K):=by
 refine F.ok S (fun vs H Q E h=>?_) (fun cdv A outer s H vs Q E hr h=>?_)
 . obtain ⟨a,ns,rfl,_⟩:=h
   rfl
 obtain ⟨a,ns,rfl,hS,hl,q⟩:=h
 obtain ⟨t,ht,hq⟩:=hbody cdv A outer s H E ns hr hl
 refine ⟨_,ht,H,bf N.length [.seq (ns.map D.int)],?_⟩
 cases z:t (bf N.length [.seq (ns.map D.int)]) with
 | none=>rw [z] at hq;cases hq
 | some res =>
  rw [z] at hq
  refine ⟨res,kY (.cons (.seq hS (Reps.ints ns)) .nil),rfl,?_⟩
  cases res with
  | rt d' =>
   cases hq
   intro v F' H' A s1 s2 r1 nd
   cases r1.rep s2
   exact q H'
  | nx δ=>cases hq
  | bk δ=>cases hq
  | ct δ=>cases hq
  | ex C δ=>cases hq
  | mk C δ=>cases hq
end
theorem dS {X:Cx} {e:Expr} {es:List Expr} {g:FA} {pos p:Pos} {k j:Nat} {x:Str} {ps:List Str} {G:List D->Option D} (F:HasF X.prog X.w X.K X.mg X.base k x ps G) (hr:Room j X.A) (ha:PAD X (e :: es) g) (hk:k <= j:=by decide) (hg:Gl X x:=by rfl)
 (hn:(e :: es).length = ps.length:=by rfl) (hdb:(x == ("__debug__":Str)) = false:=by decide) (he:starEach (e :: es) X.env = (false,eval e X.env) :: starEach es X.env:=by rfl) (hpl:(backTo pos (starEach es X.env)).any (·.1) = false:=by rfl) :
 PV X (.Call (.Name x p) (e :: es) [] pos) (aJ G g):=by
 obtain ⟨f,fd,F,hm,kp,hb⟩:=F.ex
 refine imp (ku F (hr.mono hk) hg hm kp hb .nil sK ha hdb he hpl) fun σ H Q ⟨F0,δ,As,d,δ',R,q,k⟩=>?_
 unfold aJ at q
 obtain ⟨ds,eds,q⟩:=Za.mp q
 obtain ⟨d0,ed,q⟩:=Za.mp q
 split at q
 . rename_i ho
   cases q
   refine ⟨δ,ds,R.toS,eds,fun vs H1 s1 r1 l=>?_⟩
   show bW X.K ps.length G (vs ++ []) H1 Q E0
   rw [Zk]
   refine ⟨l.trans hn,ds,d,r1,ed,fun v H' A s2 r2 nd=>?_⟩
   have nA:∀ a ∈ A,H a = none:=fun a m=>by
    cases z:H a with
    | none=>rfl
    | some u=>have:=(r2.dom a m).2;rw [s1 a u z] at this;cases this
   exact k v F0 H' A As (.fresh (s1.trans s2) nA nd fun i a m=>(R.dom m).1) (R.grow (s1.trans s2)) (r2.thaw (R.fz.trans s1) ho)
 . cases q
end Dl
namespace Dl
open PySem PySem.Spec PyProof.Rows L2
section
variable {K:PySem.W.Frag} {F H:Hp} {σ:L2.St} {δ:DS} {As:Nat->List Addr}
theorem RepO.lst_inv {ds:List D}:∀ {v:V} {d:D} {A:List Addr},RepO K F H v d A->d = .lst ds->∃ a vs A0,v = .ref a/\A = a :: A0/\H a = some (.lst vs)/\F a = none/\RepOs K F H vs ds A0
 | _,_,_,.imm i _,e=>by subst e;rw [Dl.imm] at i;cases i
 | _,_,_,.shr _,e=>nomatch e
 | _,_,_,.tup _ _,e=>nomatch e
 | _,_,_,.lst h n r,e=>by cases e;exact ⟨_,_,_,rfl,rfl,h,n,r⟩
theorem RepA.lst {i:Nat} {ds:List D} (R:RepA K F H σ δ As) (h:δ[i]? = some (some (.lst ds))):∃ a vs A0,σ[i]? = some (some (.ref a))/\As i = a :: A0/\H a = some (.lst vs)/\F a = none/\RepOs K F H vs ds A0:=by
 obtain ⟨v,h1,h2⟩:=R.val i _ h
 obtain ⟨a,vs,A0,rfl,e,h3,h4,h5⟩:=h2.lst_inv rfl
 exact ⟨a,vs,A0,h1,e,h3,h4,h5⟩
theorem vd {a:Addr} {o:HO} (s:Same F H) (n:F a = none):Same F (upd H a o):=fun b u e=>by
 have:b ≠ a:=fun z=>by rw [z,n] at e;cases e
 rw [aC this];exact s b u e
theorem RepA.wr {i:Nat} {a:Addr} {vs vs':List V} {ds ds':List D} {A0 A':List Addr} (R:RepA K F H σ δ As) (h:δ[i]? = some (some (.lst ds))) (hσ:σ[i]? = some (some (.ref a))) (hA:As i = a :: A0) (ha:H a = some (.lst vs)) (hF:F a = none)
 (r:RepOs K F H vs' ds' A') (na:a ∉ A') (nd:A'.Nodup) (dj:∀ j x,j ≠ i->x ∈ As j->x ∉ A'):fg K F (upd H a (.lst vs')) σ (δ.set i (some (.lst ds'))):=by
 have hi:i < δ.length:=(List.getElem?_eq_some_iff.mp h).1
 have nj:∀ j x,j ≠ i->x ∈ As j->x ≠ a:=fun j x hj m z=>R.dj j i x hj m (by rw [hA,z];exact Zo)
 refine ⟨_,R.write hi hσ (pN ha) (vd R.fz hF) (fun j x hj m=>aC (nj j x hj m)) (.lst aX hF (r.frame (pN ha) fun x m=>aC fun z=>na (z ▸ m))) (List.nodup_cons.mpr ⟨na,nd⟩) fun j x hj m z=>?_⟩
 rcases Zs.mp z with z | z
 . exact nj j x hj m z
 . exact dj j x hj m z
end
def jd (i:Nat) (fm:FM):SD:=fun δ=>match δ[i]? with
 | some (some (.lst _))=>(fm δ).bind fun p=>match p.2[i]? with
  | some (some (.lst ds))=>if ds.length <= 999 then some (.nx (p.2.set i (some (.lst (ds ++ [p.1]))))) else none
  | _=>none
 | _=>none
def wZ (i:Nat) (fk:FD) (fm:FM):SD:=fun δ=>(fm δ).bind fun p=>match p.2[i]? with
 | some (some (.lst ds))=>(fk p.2).bind fun kd=>match kd with
  | .int k=>(ixN ds.length k).bind fun j=>some (.nx (p.2.set i (some (.lst (ds.set j p.1)))))
  | _=>none
 | _=>none
section
variable {X:Cx} {e ei:Expr} {fk:FD} {fm:FM} {pos p1 p2 p3 p4:Pos}
theorem qE (i:Nat) {c:Expr} (hc:PE X c (tBM X.K "list" nM (wV i) (u6 (upV X.K fm) yE))) (hs:swapsWith c none pos.line X.env = pure false:=by rfl):PMD X (.Expr c pos) (jd i fm):=fU (sA hc hs) fun E σ H ⟨F,δ,r,⟨As,R⟩,q,k⟩=>by
 unfold jd at q
 split at q
 . rename_i ds0 h0
   obtain ⟨⟨d,δ'⟩,ed,q⟩:=Za.mp q
   dsimp only at q
   split at q
   . rename_i ds h1
     split at q
     . rename_i hz
       cases q
       obtain ⟨a,vs0,A00,s0,_,g0,_,_⟩:=R.lst h0
       refine ⟨.ref a,s0,.inl ⟨rfl,_,SqL.of g0⟩,F,δ,As,d,δ',R,ed,fun v F' H' A As' ev R' r'=>?_⟩
       obtain ⟨a1,vs,A0,s1,eA,g1,n1,ro⟩:=R'.lst h1
       have ea:a1 = a:=by rw [s0] at s1;cases s1;rfl
       subst ea
       refine ⟨a1,vs,v,rfl,rfl,g1,Nat.lt_of_le_of_lt (by rw [ro.length];exact hz) (jv (show 999 <= 1000 by decide)),?_⟩
       have nd0:=R'.nd i
       rw [eA] at nd0
       have nd1:=List.nodup_cons.mp nd0
       have ai:a1 ∈ As' i:=by rw [eA];exact Zo
       refine k σ F' _ ev.fs (R'.wr h1 s1 eA g1 n1 (ro.snoc r') (fun z=>?_) (List.nodup_append.mpr ⟨nd1.2,ev.nd,fun x hx y hy e=>?_⟩) fun j x hj m z=>?_)
       . rcases Zr.mp z with z | z
         . exact nd1.1 z
         . exact ev.dj i a1 ai z
       . subst e
         exact ev.dj i x (by rw [eA];exact Zp _ hx) hy
       . rcases Zr.mp z with z | z
         . exact R'.dj j i x hj m (by rw [eA];exact Zp _ z)
         . exact ev.dj j x m z
     . cases q
   . cases q
 . cases q
end
end Dl
namespace Dl
open PySem PySem.Spec PyProof.Rows L2
def shO (δ:DS):DS:=δ.map (Option.map sh)
def ownOf (f:FM) (δ:DS):Option D:=(f δ).bind fun p=>if own p.1 then some p.1 else none
theorem RepS.toA {K:PySem.W.Frag} {H:Hp} {σ:L2.St} {δ:DS} (R:RepS K H σ δ):RepA K H H σ (shO δ) (fun _=>[]):=by
 refine ⟨Same.refl H,by unfold shO;rw [Zl];exact R.len,fun i d q=>?_,fun _ _=>rfl,fun _=>Zw,fun _ _ _ _ m=>nomatch m⟩
 unfold shO at q
 rw [List.getElem?_map] at q
 obtain ⟨o,h1,h2⟩:=Zb.mp q
 cases o with
 | none=>cases h2
 | some d0 =>
  cases h2
  obtain ⟨v,h3,h4⟩:=R.val i d0 h1
  exact ⟨v,h3,RepO.of_sh (Same.refl H) h4⟩
theorem x9 {K:PySem.W.Frag} {H₂ H4:Hp} {σ:L2.St} {δ:DS} {f:FM} {e:D} (h:ownOf f (shO δ) = some e) (R:RepS K H4 σ δ) (s:Same H₂ H4):upV K f σ H4 fun v H5=>Same H4 H5/\∃ A,RepO K H₂ H5 v e A/\A.Nodup/\∀ a ∈ A,H4 a = none:=by
 unfold ownOf at h
 obtain ⟨⟨d,δ'⟩,e1,h⟩:=Za.mp h
 split at h
 . rename_i ho
   cases h
   refine ⟨H4,shO δ,fun _=>[],d,δ',R.toA,e1,fun v F' H' A As' ev R' r'=>⟨ev.hs,A,(r'.thaw ev.fs ho).thaw s ho,ev.nd,fun a m=>?_⟩⟩
   rcases ev.fA a m with ⟨j,z⟩ | z
   . cases z
   . exact z
 . cases h
theorem cN {H H':Hp} {a:Addr} (s:Same H H') (h:H' a = none):H a = none:=by
 cases q:H a with
 | none=>rfl
 | some u=>rw [s a u q] at h;cases h
theorem ub {K:PySem.W.Frag} {F H H':Hp} {vs:List V} {ds:List D} {Acc A:List Addr} {v:V} {e:D} (r:RepOs K F H vs ds Acc) (nd:Acc.Nodup) (s:Same H H') (r':RepO K F H' v e A) (nd':A.Nodup) (fr:∀ a ∈ A,H a = none):∃ Acc',RepOs K F H' (vs ++ [v]) (ds ++ [e]) Acc'/\Acc'.Nodup:=by
 refine ⟨Acc ++ A,(r.frame (bJ s) fun a m=>?_).snoc r',List.nodup_append.mpr ⟨nd,nd',fun x hx y hy q=>?_⟩⟩
 . obtain ⟨⟨ws,e⟩,_⟩:=r.dom a m
   rw [e];exact s a _ e
 . subst q
   obtain ⟨⟨ws,e⟩,_⟩:=r.dom x hx
   rw [fr x hy] at e;cases e
section
variable {X:Cx} {pins:List (Addr × Obj)} {σ:L2.St} {H₂:Hp} {s₂:Shared} {scope:Scope} {cl:List (Str × Addr)} {x:Str} {N:List Str} {js:List Nat} {C:Addr} {fp:List Addr}
theorem qe {elt iter:Expr} {px pos:Pos} {it:Addr} {tn:Nat->Heap->Prop} {J:It} {ds xs:List D} {δ:DS} {felt:FM} {RR:Value->Addr->Result->Shared->Prop} {E:Value->Shared->Prop} (I:L2.Inv X pins σ H₂ s₂) (hcm:X.calm = true) (O:CompOk X scope cl x N js)
 (T:mI X.prog X.w X.K (.Name x px) J fp it tn) (st:tn 0 s₂.heap) (hf:∀ b ∈ fp,gj X pins H₂ b) (itd:ItD X.K J H₂ ds) (R:RepS X.K H₂ σ δ) (he:∀ C s₂ H₂ fp pn,PV (bK X scope cl x N C s₂ H₂ fp pn) elt felt)
 (hm:lG (fun d=>ownOf felt (shO (some d :: cg js δ))) ds = some xs) (hz:xs.length <= 1000)
 (hRR:∀ (D C:Addr) (s':Shared) (Hend:Hp) (vs:List V),s₂.heap.objs.size <= C->L2.Inv X pins σ Hend s'->Same H₂ Hend->Hend D = some (.lst vs)->(∃ Acc,RepOs X.K H₂ Hend vs xs Acc/\Acc.Nodup/\D ∉ Acc/\H₂ D = none)->(∃ m,s'.heap.Ns C m)->Hend C = none->RR (.ref D) C (.ok .next) s') :
 wpAny (model X.prog X.w) X.A (newList []) (fun acc s₃=>wpAny (model X.prog X.w) X.A (newFunctionEnv scope X.env.globals cl [] X.env.qual none .none (some X.env)) (fun cenv s₄ =>
  codeAny (model X.prog X.w) X.A (.compStart (.ListComp elt [⟨.Name x px,iter,[],0⟩] scope pos) 0 (.ref it) acc { cenv with scope:=relabel scope X.env }) (RR acc cenv.locals) s₄) E s₃) E s₂:=by
 obtain ⟨ml,mg'⟩:=lF hm
 have objs:=T.obj 0 s₂.heap st
 have objs':∀ b ∈ fp,∃ o,s₂.heap.get? b = some o:=fun b hb=>let ⟨o,h,_⟩:=objs b hb;⟨o,h⟩
 refine wpAny_newObj_type (wpAny_newFunctionEnv O.nocell (by intro y hy;simp at hy) (fun h₁ hns₁ hsb₁=>?_) O.kind)
 dsimp only at hns₁ hsb₁ ⊢
 generalize hP:s₂.heap.push { cls:=.type "list",dict:=none,data:=.seq ([]:List Value).toArray } = P2 at hns₁ hsb₁ ⊢
 have hC:P2.objs.size = s₂.heap.objs.size + 1:=by rw [<- hP,Heap.size_push]
 generalize hCC:P2.objs.size = C at *
 have hCle:s₂.heap.objs.size <= C:=by omega
 have hDle:s₂.heap.objs.size <= s₂.heap.objs.size:=by omega
 have hDC:s₂.heap.objs.size ≠ C:=by omega
 have old:∀ b o,s₂.heap.get? b = some o->h₁.get? b = some o:=fun b o e=>by
  refine hsb₁.extBut b o (Nat.ne_of_lt (Nat.lt_of_lt_of_le (Heap.lt_size e) hCle)) (Heap.get?_push_of_some _ ?_)
  rw [<- hP]
  exact Heap.get?_push_of_some _ e
 have hacc:h₁.get? s₂.heap.objs.size = some { cls:=.type "list",data:=.seq ([]:List Value).toArray }:=by
  refine hsb₁.extBut s₂.heap.objs.size _ hDC (Heap.get?_push_of_some _ ?_)
  rw [<- hP]
  exact Heap.get?_push_size _ rfl
 have I0:=fun tk=>iV (C:=C) (tk:=tk) I hcm O hCle hf objs' old hns₁ I.len
 have dstk:s₂.heap.objs.size ∉ frs X.stack:=fK I hDle
 have fne:∀ b ∈ fp,b ≠ s₂.heap.objs.size:=fun b hb e=>by
  obtain ⟨o,h⟩:=objs' b hb
  exact absurd (Heap.lt_size h) (by rw [e];exact Nat.lt_irrefl _)
 have cne:∀ y c,cl.lookup y = some c->c ≠ s₂.heap.objs.size:=fun y c e z=>by
  obtain ⟨v,o,h1,_⟩:=I.cell y c (O.cls y c e)
  exact absurd (Heap.lt_size h1) (by rw [z];exact Nat.lt_irrefl _)
 have pne:∀ p ∈ X.pn ++ pins,p.1 ≠ s₂.heap.objs.size:=fun p hp e=>by
  exact absurd (Heap.lt_size (I.pin p hp).1) (by rw [e];exact Nat.lt_irrefl _)
 have stat:∀ {H':Hp} {pl:List (Addr × Obj)},(∀ b ∈ fp,H' b = none)->(∀ p ∈ pl,∀ b ∈ fp,p.1 ≠ b)->∀ b ∈ fp,gj (bK X scope cl x N C s₂ H₂ fp (X.pn ++ pins)) pl H' b:=fun {H' pl} hn hpl b hb=>by
  obtain ⟨o,h⟩:=objs' b hb
  refine ⟨hn b hb,Nat.ne_of_lt (Nat.lt_of_lt_of_le (Heap.lt_size h) hCle),fun z=>?_,.inl hb,fun y c e=>(hf b hb).2.2.2.2.1 y c (O.cls y c e),fun p hp=>?_⟩
  . rcases Zs.mp (I.stkSub b z) with e | e
    . exact (hf b hb).2.1 e
    . exact (hf b hb).2.2.1 e
  . rcases Zr.mp hp with q | q
    . exact (hf b hb).2.2.2.2.2 p q
    . exact hpl p q b hb
 have loop:∀ s₃:Shared,s₃ = { s₂ with heap:=h₁,toks:=s₂.toks + ([]:List (Str × Value)).length } ->
  codeAny (model X.prog X.w) X.A (.compLoop (.ListComp elt [⟨.Name x px,iter,[],0⟩] scope pos) 0 (.ref it) (.ref s₂.heap.objs.size) (compEnvC scope cl C X.env)) (RR (.ref s₂.heap.objs.size) C) s₃:=by
  rintro s₃ rfl
  refine gE (fun n s=>∃ (i:Nat) (σ':L2.St) (H':Hp) (vs:List V) (o:Option D),n = ds.length - i/\i <= ds.length/\L2.Inv (bK X scope cl x N C s₂ H₂ fp (X.pn ++ pins)) [] σ' H' s/\Same H₂ H'/\RepS X.K H' σ' (o :: cg js δ)/\tn i s.heap/\(∀ b ∈ fp,H' b = none) /\
   (∃ (its:List Value) (k:Nat),Vals vs its/\s.heap.get? s₂.heap.objs.size = some { cls:=.type "list",data:=.seq its.toArray k })/\H' s₂.heap.objs.size = none/\(∃ Acc,RepOs X.K H₂ H' vs (xs.take i) Acc/\Acc.Nodup)/\vs.length = i) ?_ ds.length
   ⟨0,_,H₂,[],none,rfl,Nat.zero_le _,I0 _,Same.refl _,jw R js,T.keep 0 _ _ st (fun b hb o e=>old b o e),fun b hb=>(hf b hb).1,⟨[],0,.nil,hacc⟩,I.hok.fresh hDle,⟨[],.nil,Zw⟩,rfl⟩
  rintro n s ⟨i,σ',H',vs,o,rfl,hi,I',sm,R',st',fr',⟨its,k,rv,hD⟩,fD,⟨Acc,rr,nda⟩,hl⟩
  by_cases hlt:i < ds.length
  . -- one more
    obtain ⟨go,yl⟩:=(itd i H' sm).1 hlt
    have hd0:ds[i]? = some ds[i]:=by simp [hlt]
    obtain ⟨e,ge,xe⟩:=mg' i _ hd0
    have I1:L2.Inv (bK X scope cl x N C s₂ H₂ fp (X.pn ++ pins)) [(s₂.heap.objs.size,{ cls:=.type "list",data:=.seq its.toArray k })] σ' H' s:=I'.pins_of fun p hp=>by
     have:p = (s₂.heap.objs.size,{ cls:=.type "list",data:=.seq its.toArray k }):=by simpa using hp
     subst this
     exact ⟨hD,fD,hDC,dstk,fun v z=>by cases z⟩
    refine thn (T.item (bK X scope cl x N C s₂ H₂ fp (X.pn ++ pins)) rfl rfl rfl rfl i _ s σ' H' (fun _ _=>False) I1 (stat fr' fun p hp b hb=>by
     have:p = (s₂.heap.objs.size,{ cls:=.type "list",data:=.seq its.toArray k }):=by simpa using hp
     subst this
     exact (fne b hb).symm) st' go) fun r s1 ⟨u,hr,h4⟩=>?_
    subst hr
    refine thn h4 fun _ s2 ⟨y,H'',I2,ru,yy,st2,fr2⟩=>?_
    obtain ⟨s3,d,hd,rd⟩:=yl y H'' yy
    have hd':d = ds[i]:=by rw [hd0] at hd;exact (Option.some.inj hd).symm
    subst hd'
    have I3:=I2.pinned (stat fr2 fun p hp b hb=>by
     have:p = (s₂.heap.objs.size,{ cls:=.type "list",data:=.seq its.toArray k }):=by simpa using hp
     subst this
     exact (fne b hb).symm) (T.obj _ _ st2)
    refine thn (gz (X:=bK X scope cl x N C s₂ H₂ fp (X.pn ++ pins)) (i:=0) O.nd O.h0 (.inl (lookup_relabel_local O.hx)) (.inl (by simp)) _ s2 σ' H'' y u (fun σ4 H4=>σ4 = σ'.set 0 (some y)/\H4 = H'') I3 ru ⟨rfl,rfl⟩) fun _ s4 ⟨σ4,H4,I4,e1,e2⟩=>?_
    subst e1 e2
    have R4:RepS X.K H4 (σ'.set 0 (some y)) (some ds[i] :: cg js δ):=(R'.mono s3).set 0 rd
    refine thn (he C s₂ H₂ fp (X.pn ++ pins) _ s4 (σ'.set 0 (some y)) H4 (fun v H5=>Same H4 H5/\∃ A,RepO X.K H₂ H5 v e A/\A.Nodup/\∀ a ∈ A,H4 a = none) I4 (x9 ge R4 (sm.trans s3))) fun wv s5 ⟨v,H5,I5,rw5,s45,A5,r5,nd5,fr5⟩=>?_
    have hD5:s5.heap.get? s₂.heap.objs.size = some { cls:=.type "list",data:=.seq its.toArray k }:=(I5.pin (s₂.heap.objs.size,{ cls:=.type "list",data:=.seq its.toArray k }) (by simp)).1
    have fD5:H5 s₂.heap.objs.size = none:=(I5.pin (s₂.heap.objs.size,{ cls:=.type "list",data:=.seq its.toArray k }) (by simp)).2.1
    have pf:∀ b ∈ fp,∀ ob,s2.heap.get? b = some ob->s5.heap.get? b = some ob/\H5 b = none:=fun b hb ob hob=>by
     have:=I5.pin (b,ob) (List.mem_append_right _ (List.mem_append_right _ (de hb hob)))
     exact ⟨this.1,this.2.1⟩
    have lz:its.length <= 1000:=by
     have:=rv.length
     omega
    refine call_meets F.slot_list_append ⟨_,hD5,rfl⟩ F.entry_list_append (F.args_list_append_2 _ _) (PySem.list_append s₂.heap.objs.size its.toArray k wv (by rw [List.size_toArray];exact cq lz)) ⟨hD5,?_⟩
    have q:=PySem.IsL.update hD5 (fun a=>a.push wv)
    have I6:L2.Inv (bK X scope cl x N C s₂ H₂ fp (X.pn ++ pins)) [] (σ'.set 0 (some y)) H5 { s5 with heap:=s5.heap.update s₂.heap.objs.size (Obj.mapSeq fun a=>a.push wv),toks:=s5.toks } :=
     (I5.pins_of (pins':=[]) fun p hp=>by simp at hp).turned (it:=s₂.heap.objs.size) (t':=s5.toks) (fun b ob hb hu=>(Heap.get?_update_other s5.heap _ (Ne.symm hb)).trans hu) fD5 hDC (.inr hDle) cne (fun p hp=>by
      rcases Zr.mp hp with z | z
      . exact pne p z
      . simp at z)
    refine ⟨ds.length - (i + 1),by omega,i + 1,σ'.set 0 (some y),H5,vs ++ [v],some ds[i],rfl,hlt,I6,(sm.trans s3).trans s45,R4.mono s45,?_,?_,?_,fD5,?_,by simp [hl]⟩
    . refine T.keep _ _ _ st2 fun b hb ob hob=>?_
      exact (Heap.get?_update_other s5.heap _ (Ne.symm (fne b hb))).trans (pf b hb ob hob).1
    . intro b hb
      obtain ⟨ob,hob,_⟩:=T.obj _ _ st2 b hb
      exact (pf b hb ob hob).2
    . have hf7:its.toArray.push wv = (its ++ [wv]).toArray:=by simp
      rw [hf7] at q
      exact ⟨its ++ [wv],_,rv.append (.cons rw5 .nil),q⟩
    . have e8:xs.take (i + 1) = xs.take i ++ [e]:=by
       rw [List.take_add_one,xe];rfl
      rw [e8]
      exact ub rr nda (s3.trans s45) r5 nd5 fun a m=>(cN s3 (fr5 a m))
  . -- the end
    have hie:i = ds.length:=by omega
    refine thn (T.done (bK X scope cl x N C s₂ H₂ fp (X.pn ++ pins)) rfl rfl rfl rfl i [(s₂.heap.objs.size,{ cls:=.type "list",data:=.seq its.toArray k })] s σ' H' (fun _ _=>False) (I'.pins_of fun p hp=>by
     have:p = (s₂.heap.objs.size,{ cls:=.type "list",data:=.seq its.toArray k }):=by simpa using hp
     subst this
     exact ⟨hD,fD,hDC,dstk,fun v z=>by cases z⟩) (stat fr' fun p hp b hb=>by
     have:p = (s₂.heap.objs.size,{ cls:=.type "list",data:=.seq its.toArray k }):=by simpa using hp
     subst this
     exact (fne b hb).symm) st' ((itd i H' sm).2 (by omega))) fun r s1 ⟨hr,I8⟩=>?_
    subst hr
    have hD8:s1.heap.get? s₂.heap.objs.size = some { cls:=.type "list",data:=.seq its.toArray k }:=(I8.pin (s₂.heap.objs.size,{ cls:=.type "list",data:=.seq its.toArray k }) (by simp)).1
    have hxs:xs.take i = xs:=List.take_of_length_le (by omega)
    rw [hxs] at rr
    have sn:=bB fD (.lst vs)
    have dn:∀ b,∀ u,H' b = some u->b ≠ s₂.heap.objs.size:=fun b u z=>bg z fD
    have un:Un (frs X.stack) fp H₂ (upd H' s₂.heap.objs.size (.lst vs)) s₂.heap s1.heap:=by
     have b0:=I8.base
     refine ⟨fun b ob e n1 n2 n3=>b0.keep b ob e n1 n2 n3,fun b ob e n1 n2 n3=>b0.slot b ob e n1 n2 n3,fun b ob e n1 n3=>?_,fun b ob e n3=>b0.there b ob e n3,fun b zs e=>?_,fun b ob u e=>?_,fun b ps e=>?_⟩
     . rw [aC (Nat.ne_of_lt (Heap.lt_size e))]
       exact b0.free b ob e n1 n3
     . have z:=b0.tups b zs e
       rw [aC (dn _ _ z)]
       exact z
     . have z:=b0.frzs b ob u e
       rw [aC (dn _ _ z)]
       exact z
     . obtain ⟨more,z⟩:=b0.tbls b ps e
       exact ⟨more,by rw [aC (dn _ _ z)];exact z⟩
    have hok:HOk X.prog X.w (upd H' s₂.heap.objs.size (.lst vs)) s1.heap:=fun b u z=>by
     by_cases hb:b = s₂.heap.objs.size
     . rw [hb] at z ⊢
       rw [aX] at z
       cases z
       exact ⟨cq (by omega),its,k,rv,hD8⟩
     . rw [aC hb] at z
       exact (I8.hok b u z).stay (fun _ _ _ q=>q) (fun c q=>by rw [aC (dn _ _ q)];exact q) fun c ys q=>by rw [aC (dn _ _ q)];exact q
    have IX:L2.Inv X pins σ (upd H' s₂.heap.objs.size (.lst vs)) s1:=I.call' I8.os un hok I8.bare fun b hb=>⟨(hf b hb).2.2.2.1,(hf b hb).2.1,(hf b hb).2.2.2.2.1,(hf b hb).2.2.2.2.2⟩
    obtain ⟨m8,hn8,_⟩:=I8.loc
    refine hRR s₂.heap.objs.size C s1 _ vs hCle IX (sm.trans sn) aX ⟨Acc,rr.frame (bJ sn) (fun a m=>by
     obtain ⟨⟨ws,e⟩,_⟩:=rr.dom a m
     rw [e];exact sn a _ e),nda,fun m=>(by
     obtain ⟨⟨ws,e⟩,_⟩:=rr.dom _ m
     rw [fD] at e;cases e),I.hok.fresh hDle⟩ ⟨m8,hn8⟩ ?_
    rw [aC (Ne.symm hDC)]
    exact I8.free
 exact codeAny_compStart_list (loop _ rfl) (T.self X.A 0 _ _ _ (T.keep 0 _ _ st (fun b hb o e=>old b o e)) (loop _ rfl))
def uX (src:FA) (js:List Nat) (felt:FM):FM:=fun δ=>(src δ).bind fun ds=>(lG (fun d=>ownOf felt (shO (some d :: cg js δ))) ds).bind fun xs=>if xs.length <= 1000 then some (.lst xs,δ) else none
theorem mX {f:FM} {g:D->DS}:∀ {ds xs:List D},lG (fun d=>ownOf f (g d)) ds = some xs->iA xs = true
 | [],xs,h=>by cases h;rfl
 | d :: ds,xs,h=>by
  obtain ⟨x,ex,h⟩:=Za.mp (show ((ownOf f (g d)).bind _) = some xs from h)
  obtain ⟨ys,ey,h⟩:=Za.mp h
  cases h
  rw [iA,mX ey,Bool.and_true]
  unfold ownOf at ex
  obtain ⟨p,_,ex⟩:=Za.mp ex
  split at ex
  . rename_i ho;cases ex;exact ho
  . cases ex
theorem tW {K:PySem.W.Frag} {F H H1 Hend:Hp} {σ:L2.St} {δ:DS} {As:Nat->List Addr} {xs:List D} {vs:List V} {D:Addr} (RA:RepA K F H σ δ As) (ho:iA xs = true) (s:Same H Hend) (s1:Same H H1) (hD:Hend D = some (.lst vs)) (h:∃ Acc,RepOs K H1 Hend vs xs Acc/\Acc.Nodup/\D ∉ Acc/\H1 D = none) :
 ∃ A,Ev F H As F Hend As A/\RepA K F Hend σ δ As/\RepO K F Hend (.ref D) (.lst xs) A:=by
 obtain ⟨Acc,r,nd,nD,hn⟩:=h
 refine ⟨D :: Acc,.fresh s (fun a m=>?_) (List.nodup_cons.mpr ⟨nD,nd⟩) (fun i a m=>(RA.dom m).1),RA.grow s,.lst hD ?_ (r.thaw (RA.fz.trans s1) ho)⟩
 . rcases Zs.mp m with z | z
   . rw [z];exact cN s1 hn
   . exact cN s1 (r.dom a z).2
 . exact cN (RA.fz.trans s1) hn
theorem tX {K:PySem.W.Frag} {F H H1 Hend:Hp} {σ:L2.St} {δ:DS} {As:Nat->List Addr} {xs:List D} {vs:List V} {D:Addr} {Q:VK} (RA:RepA K F H σ δ As) (k:∀ v F' H' A As',Ev F H As F' H' As' A->RepA K F' H' σ δ As'->RepO K F' H' v (.lst xs) A->Q v H') (ho:iA xs = true) (s:Same H Hend) (s1:Same H H1) (hD:Hend D = some (.lst vs)) (h:∃ Acc,RepOs K H1 Hend vs xs Acc/\Acc.Nodup/\D ∉ Acc/\H1 D = none):Q (.ref D) Hend:=by
 obtain ⟨A,ev,R',r'⟩:=tW RA ho s s1 hD h
 exact k _ F Hend A As ev R' r'
theorem wy {K:PySem.W.Frag} {F H H1 Hend:Hp} {σ:L2.St} {δ:DS} {As:Nat->List Addr} {xs:List D} {vs:List V} {D:Addr} {Q:L2.St->Hp->Prop} (i:Nat) (RA:RepA K F H σ δ As) (k:∀ σ' F' H',Same F F'->fg K F' H' σ' (δ.set i (some (.lst xs)))->Q σ' H') (ho:iA xs = true) (s:Same H Hend) (s1:Same H H1) (hD:Hend D = some (.lst vs)) (h:∃ Acc,RepOs K H1 Hend vs xs Acc/\Acc.Nodup/\D ∉ Acc/\H1 D = none):Q (σ.set i (some (.ref D))) Hend:=by
 obtain ⟨A,ev,R',r'⟩:=tW RA ho s s1 hD h
 exact k _ F Hend (Same.refl F) (R'.setM i r' ev.nd ev.dj)
theorem xb {elt iter:Expr} {px pos:Pos} {src:FA} {felt:FM} (hi:PID X (.Name x px) iter src) {N:List Str} {js:List Nat} (he:∀ C s₂ H₂ fp pn,PV (bK X scope cl x N C s₂ H₂ fp pn) elt felt) (O:CompOk X scope cl x N js) (hcm:X.calm = true:=by rfl)
 (hs:∀ v,foldedSetIterable iter X.env v = pure v:=by intro _;rfl):PV X (.ListComp elt [⟨.Name x px,iter,[],0⟩] scope pos) (uX src js felt):=by
 intro pins s σ H Q I ⟨F,δ,As,d,δ',RA,q,k⟩
 have R:=RA.toS
 unfold uX at q
 obtain ⟨ds,eds,q⟩:=Za.mp q
 obtain ⟨xs,exs,q⟩:=Za.mp q
 by_cases hz:xs.length <= 1000
 . rw [if_pos hz] at q
   cases q
   rw [eval_ListComp]
   refine wpAny_comprehension_free (use:=none) rfl hs O.clos O.kind O.names ?_
   refine wpAny_mono (hi pins s σ H (fun J H1=>Same H H1/\ItD X.K J H1 ds) I ⟨δ,ds,R,eds,fun J H1 s1 itd=>⟨s1,itd⟩⟩) (fun v s1 h1=>wpAny_mono h1 (fun itv s2 h2=>?_) fun _ _ z=>z) fun _ _ z=>z
   obtain ⟨it,fp,tn,J,H2,rfl,I2,T,st,hf,s1,itd⟩:=h2
   refine qe (RR:=fun acc C=>compPost (model X.prog X.w) X.A X.xe none (EP X pins σ Q) acc C) I2 hcm O T st hf itd (R.mono s1) he exs hz ?_
   intro D C s' Hend vs hC IX sm hD rr ⟨m,hn⟩ fC
   exact ⟨m,hn,fun h' hs'=>⟨.ref D,Hend,ir IX I2 hC fC hs',rfl,tX RA k (mX exs) (s1.trans sm) s1 hD rr⟩⟩
 . rw [if_neg hz] at q;cases q
end
end Dl
namespace Dl
open PySem PySem.Spec PyProof.Rows L2
section
variable {K:PySem.W.Frag} {F H:Hp} {σ:L2.St} {δ:DS} {As:Nat->List Addr}
theorem RepOs.of_imm:∀ {vs:List V} {ds:List D},Reps K H vs ds->dN ds = true->RepOs K F H vs ds []
 | _,_,.nil,_=>.nil
 | _,_,.cons r t,i=>by
  rw [dN,Bool.and_eq_true] at i
  exact .cons (.imm i.1 r) (RepOs.of_imm t i.2) rfl
theorem zG {H1:Hp} {vs:List V} {ds:List D} {p:Addr} {Q:VK} (R:RepA K F H σ δ As) (s:Same H H1) (r:Reps K H1 vs ds) (i:dN ds = true) (hp:H1 p = none)
 (k:∀ v F' H' A As',Ev F H As F' H' As' A->RepA K F' H' σ δ As'->RepO K F' H' v (.lst ds) A->Q v H'):Q (.ref p) (upd H1 p (.lst vs)):=by
 have sn:=bB hp (.lst vs)
 have np:=cN s hp
 refine k _ F _ [p] As (.fresh (s.trans sn) (fun a m=>?_) (List.nodup_cons.mpr ⟨fun z=>(nomatch z),Zw⟩) (fun i a m=>(R.dom m).1)) (R.grow (s.trans sn)) (.lst aX (cN R.fz np) (RepOs.of_imm (r.mono sn) i))
 rw [List.mem_singleton.mp m]
 exact np
end
def qT (d:D) (δ:DS):Option (D × DS):=match d with
 | .lst ds=>if dN ds then some (.lst ds,δ) else none
 | _=>none
theorem qS {d d':D} {δ δ':DS} (h:qT d δ = some (d',δ')):∃ ds,d = .lst ds/\d' = .lst ds/\δ' = δ/\dN ds = true:=by
 unfold qT at h
 split at h
 . rename_i ds
   split at h
   . rename_i hi
     cases h
     exact ⟨ds,rfl,rfl,rfl,hi⟩
   . cases h
 . cases h
def uY (fa fb:FD):FM:=fun δ=>(f2 uI fa fb δ).bind fun d=>qT d δ
section
variable {X:Cx} {e a b:Expr} {f fa fb:FD} {lo hi:Option Expr} {fl fh:FO} {g:FA} {pos p2 p:Pos}
theorem yW (ha:PD X a fa) (hb:PD X b fb):PV X (.BinOp a .Add b pos) (uY fa fb):=imp (sH nZ ha hb) fun σ H Q ⟨F,δ,As,d,δ',RA,q,k⟩=>by
 unfold uY at q
 obtain ⟨d0,e0,q⟩:=Za.mp q
 obtain ⟨ds,rfl,rfl,rfl,hi⟩:=qS q
 unfold f2 at e0
 obtain ⟨x,ex,e0⟩:=Za.mp e0
 obtain ⟨y,ey,e0⟩:=Za.mp e0
 refine ⟨_,x,RA.toS,ex,fun v H1 s1 r1=>⟨_,y,RA.toS.mono s1,ey,fun w H2 s2 r2=>?_⟩⟩
 unfold uI at e0
 split at e0
 . rename_i xs ys
   split at e0
   . rename_i hz
     cases e0
     have r1':=r1.mono s2
     cases r1' with
     | @lst p vs _ hp rp =>
      cases r2 with
      | @lst q ws _ hq rq=>exact ⟨p,q,vs,ws,rfl,rfl,hp,hq,by rw [rp.length,rq.length];exact cq hz,fun l hl=>zG RA (s1.trans s2) (rp.append rq) hi hl k⟩
   . cases e0
 . cases e0
end
theorem imms_mem:∀ {ds:List D},dN ds = true <-> ∀ d ∈ ds,imm d = true
 | []=>⟨fun _ _ m=>(nomatch m),fun _=>rfl⟩
 | d :: ds=>by
  rw [dN,Bool.and_eq_true,imms_mem (ds:=ds)]
  exact ⟨fun h e m=>(Zs.mp m).elim (fun z=>z ▸ h.1) (h.2 e),fun h=>⟨h d Zo,fun e m=>h e (Zp _ m)⟩⟩
section
variable {K:PySem.W.Frag} {F H:Hp} {σ:L2.St} {δ:DS} {As:Nat->List Addr}
end
section
variable {X:Cx} {pos:Pos}
end
end Dl
namespace Dl
open PySem PySem.Spec PyProof.Rows L2
end Dl
namespace Dl
open PySem PySem.Spec PyProof.Rows L2
def eqL (f:D->D->Option Bool):List D->List D->Option Bool
 | [],[]=>some true
 | [],_ :: _=>some false
 | _ :: _,[]=>some false
 | a :: as,b :: bs=>(f a b).bind fun x=>(eqL f as bs).bind fun y=>some (x && y)
def eqN:Nat->D->D->Option Bool
 | 0,a,b=>if c4 a && c4 b then some (eqF a b) else none
 | n + 1,a,b=>match a,b with
  | .tup as,.tup bs=>eqL (eqN n) as bs
  | .lst as,.lst bs=>eqL (eqN n) as bs
  | .lst as,.seq bs=>eqL (eqN n) as bs
  | .seq as,.lst bs=>eqL (eqN n) as bs
  | .seq as,.seq bs=>eqL (eqN n) as bs
  | .non,.tup _=>some false
  | .tup _,.non=>some false
  | .non,.lst _=>some false
  | .lst _,.non=>some false
  | .non,.seq _=>some false
  | .seq _,.non=>some false
  | a,b=>if c4 a && c4 b then some (eqF a b) else none
theorem tT {f:D->D->Option Bool}:∀ {as bs:List D} {c:Bool},eqL f as bs = some c->∀ (j:Nat) (a b:D),as[j]? = some a->bs[j]? = some b->∃ x,f a b = some x
 | [],_,_,_,_,_,_,h,_=>by simp at h
 | _ :: _,[],_,_,_,_,_,_,h=>by simp at h
 | a :: as,b :: bs,c,h,j,x,y,h1,h2=>by
  obtain ⟨u,e1,h⟩:=Za.mp (show ((f a b).bind _) = some c from h)
  obtain ⟨v,e2,h⟩:=Za.mp h
  cases j with
  | zero=>simp at h1 h2;subst h1 h2;exact ⟨u,e1⟩
  | succ j=>exact tT e2 j x y (by simpa using h1) (by simpa using h2)
theorem oA {f:D->D->Option Bool}:∀ {as bs:List D} {c:Bool} {e:Nat->Bool},eqL f as bs = some c->(∀ (j:Nat) (a b:D) (x:Bool),as[j]? = some a->bs[j]? = some b->f a b = some x->e j = x)->((List.range (min as.length bs.length)).all e && as.length == bs.length) = c
 | [],[],c,e,h,_=>by cases h;rfl
 | [],_ :: _,c,e,h,_=>by cases h;simp
 | _ :: _,[],c,e,h,_=>by cases h;simp
 | a :: as,b :: bs,c,e,h,he=>by
  obtain ⟨u,e1,h⟩:=Za.mp (show ((f a b).bind _) = some c from h)
  obtain ⟨v,e2,h⟩:=Za.mp h
  cases h
  have ih:=oA (e:=fun j=>e (j + 1)) e2 fun j x y z h1 h2 h3=>he (j + 1) x y z (by simpa using h1) (by simpa using h2) h3
  have h0:e 0 = u:=he 0 a b u rfl rfl e1
  show ((List.range (min (as.length + 1) (bs.length + 1))).all e && (as.length + 1) == (bs.length + 1)) = (u && v)
  have hm:min (as.length + 1) (bs.length + 1) = min as.length bs.length + 1:=by omega
  have hq:((as.length + 1) == (bs.length + 1)) = (as.length == bs.length):=by rw [Bool.eq_iff_iff];simp
  rw [<- ih,<- h0,hm,List.range_succ_eq_map,List.all_cons,List.all_map,Bool.and_assoc,hq]
  rfl
theorem tS {f:D->D->Option Bool}:∀ {as bs:List D} {c:Bool},eqL f as bs = some c->as.length ≠ bs.length->c = false
 | [],[],_,_,n=>absurd rfl n
 | [],_ :: _,c,h,_=>by cases h;rfl
 | _ :: _,[],c,h,_=>by cases h;rfl
 | a :: as,b :: bs,c,h,n=>by
  obtain ⟨u,e1,h⟩:=Za.mp (show ((f a b).bind _) = some c from h)
  obtain ⟨v,e2,h⟩:=Za.mp h
  cases h
  rw [tS e2 (fun z=>n (congrArg (· + 1) z)),Bool.and_false]
theorem oC {A:Around} {s:Shared} {b:Addr} {k:Bool} (h:SeqAt.RcAt A s .none (.ref b) k):SeqAt.EqAt A s .none (.ref b) k:=fun prog w E Q hq=>by
 unfold eqBool
 refine wpAny_holding (wpAny_ite_split (fun z=>nomatch (eq_of_beq z:Value.none = Value.ref b)) fun _=>?_)
 have z:=h prog w E (fun a s'=>wpAny (model prog w) A (truthOfDropped a) Q E s') (wpAny_truthy_bool hq)
 exact wpAny_bind z
theorem oB {A:Around} {s:Shared} {b:Addr} {k:Bool} (h:SeqAt.RcAt A s (.ref b) .none k):SeqAt.EqAt A s (.ref b) .none k:=fun prog w E Q hq=>by
 unfold eqBool
 refine wpAny_holding (wpAny_ite_split (fun z=>nomatch (eq_of_beq z:Value.ref b = Value.none)) fun _=>?_)
 have z:=h prog w E (fun a s'=>wpAny (model prog w) A (truthOfDropped a) Q E s') (wpAny_truthy_bool hq)
 exact wpAny_bind z
section
variable {X:Cx} {pins:List (Addr × Obj)} {σ:L2.St} {H:Hp} {s:Shared}
theorem jz (I:L2.Inv X pins σ H s):∀ (n:Nat) {v:V} {a b:D} {c:Bool},Rep X.K H v a->Rep X.K H v b->eqN n a b = some c->c = true
 | 0,v,a,b,c,ra,rb,h=>by
  unfold eqN at h
  split at h
  . rename_i hf
    cases h
    rw [Bool.and_eq_true] at hf
    have e1:=(ra.flat hf.1).2
    have e2:=(rb.flat hf.2).2
    rw [<- oy e1 e2]
    cases ra <;> first | rfl | (simp [eqV];done) | exact absurd hf.1 Bool.false_ne_true
  . cases h
 | n + 1,v,a,b,c,ra,rb,h=>by
  have many:∀ {vs:List V} {as bs:List D},Reps X.K H vs as->Reps X.K H vs bs->∀ {c:Bool},eqL (eqN n) as bs = some c->c = true:=by
   intro vs
   induction vs with
   | nil=>intro as bs r1 r2 c h;cases r1;cases r2;cases h;rfl
   | cons v vs ih =>
    intro as bs r1 r2 c h
    cases r1 with
    | cons p1 t1 =>
     cases r2 with
     | cons p2 t2 =>
      obtain ⟨u,e1,h⟩:=Za.mp (show ((eqN n _ _).bind _) = some c from h)
      obtain ⟨w,e2,h⟩:=Za.mp h
      cases h
      rw [jz I n p1 p2 e1,ih t1 t2 e2]
      rfl
  have flatC:∀ {a b:D},Rep X.K H v a->Rep X.K H v b->(if c4 a && c4 b then some (eqF a b) else none) = some c->c = true:=fun {a b} ra rb h=>by
   refine jz I 0 ra rb ?_
   unfold eqN
   exact h
  cases ra with
  | non=>cases rb;exact flatC .non .non h
  | bl x=>cases rb;exact flatC (.bl x) (.bl x) h
  | int x=>cases rb;exact flatC (.int x) (.int x) h
  | str x=>cases rb;exact flatC (.str x) (.str x) h
  | ty x=>cases rb;exact flatC (.ty x) (.ty x) h
  | @tup p vs as hp rp =>
   cases rb with
   | @tup _ ws bs hq rq =>
    have e:=I.tuple_inj hp hq
    subst e
    exact many rp rq h
   | lst _ _=>cases h
   | seq _ _=>cases h
   | dct _=>cases h
   | exc _=>cases h
   | cls _=>cases h
   | ms _ _ _=>cases h
   | mf _ _ _=>cases h
   | md _ _ _=>cases h
  | @lst p vs as hp rp =>
   cases rb with
   | @lst _ ws bs hq rq =>
    have e:=I.list_inj (SqL.of (K:=X.K) hp) (SqL.of hq)
    subst e
    exact many rp rq h
   | @seq _ ws bs hq rq =>
    have e:=I.list_inj (SqL.of hp) hq
    subst e
    exact many rp rq h
   | tup _ _=>cases h
   | dct _=>cases h
   | exc _=>cases h
   | cls _=>cases h
   | ms _ _ _=>cases h
   | mf _ _ _=>cases h
   | md _ _ _=>cases h
  | @seq p vs as hp rp =>
   cases rb with
   | @lst _ ws bs hq rq =>
    have e:=I.list_inj hp (SqL.of hq)
    subst e
    exact many rp rq h
   | @seq _ ws bs hq rq =>
    have e:=I.list_inj hp hq
    subst e
    exact many rp rq h
   | tup _ _=>cases h
   | dct _=>cases h
   | exc _=>cases h
   | cls _=>cases h
   | ms _ _ _=>cases h
   | mf _ _ _=>cases h
   | md _ _ _=>cases h
  | dct h1=>cases rb <;> cases h
  | exc h1=>cases rb <;> cases h
  | cls C=>cases rb <;> cases h
  | ms=>cases rb <;> cases h
  | mf=>cases rb <;> cases h
  | md=>cases rb <;> cases h
theorem pU (I:L2.Inv X pins σ H s):∀ (n:Nat) (A:Around),A.units + n < cLine->∀ {x y:V} {u v:Value} {a b:D} {c:Bool},RelV x u->RelV y v->Rep X.K H x a->Rep X.K H y b->eqN n a b = some c->SeqAt.RcAt A s u v c/\SeqAt.RcNeAt A s u v (!c)/\SeqAt.EqAt A s u v c
 | 0,A,hu,x,y,u,v,a,b,c,rx,ry,ra,rb,h=>by
  unfold eqN at h
  split at h
  . rename_i hf
    cases h
    rw [Bool.and_eq_true] at hf
    have z:=sk (A:=A) (s:=s) rx ry ra rb hf.1 hf.2
    refine ⟨z.1,z.2,?_⟩
    rw [<- oy (ra.flat hf.1).2 (rb.flat hf.2).2]
    exact wp rx ry (ra.flat hf.1).1 (rb.flat hf.2).1
  . cases h
 | n + 1,A,hu,x,y,u,v,a,b,c,rx,ry,ra,rb,h=>by
  have hu0:A.units < cLine:=by omega
  have hu1:A.in1.units + n < cLine:=by show A.units + 1 + n < cLine;omega
  have items:∀ {vs ws:List V} {us zs:List Value} {as bs:List D} {c:Bool},Vals vs us->Vals ws zs->Reps X.K H vs as->Reps X.K H ws bs->eqL (eqN n) as bs = some c ->
   ∃ e:Nat->Bool,(∀ j (h1:j < us.toArray.size) (h2:j < zs.toArray.size),SeqAt.EqAt A.in1 s us.toArray[j] zs.toArray[j] (e j))/\∀ (j:Nat) (a b:D) (x:Bool),as[j]? = some a->bs[j]? = some b->eqN n a b = some x->e j = x:=by
   intro vs ws us zs as bs c r1 r2 q1 q2 h
   refine ⟨fun j=>((as[j]?).bind fun a=>(bs[j]?).bind fun b=>eqN n a b).getD true,fun j h1 h2=>?_,fun j a b x e1 e2 e3=>by dsimp only;rw [e1,e2,Zc,Zc,e3];rfl⟩
   have l1:=r1.length
   have l2:=r2.length
   rw [List.size_toArray] at h1 h2
   have k1:j < vs.length:=by omega
   have k2:j < ws.length:=by omega
   obtain ⟨u',e1,p1⟩:=r1.get (i:=j) (x:=vs[j]) (by simp [k1])
   obtain ⟨z',e2,p2⟩:=r2.get (i:=j) (x:=ws[j]) (by simp [k2])
   obtain ⟨a',e3,p3⟩:=q1.getV (i:=j) (v:=vs[j]) (by simp [k1])
   obtain ⟨b',e4,p4⟩:=q2.getV (i:=j) (v:=ws[j]) (by simp [k2])
   have w1:us.toArray[j] = u':=by
    have z:us[j]? = some us[j]:=by simp [h1]
    rw [z] at e1;simpa using e1
   have w2:zs.toArray[j] = z':=by
    have z:zs[j]? = some zs[j]:=by simp [h2]
    rw [z] at e2;simpa using e2
   obtain ⟨x',ex⟩:=tT h j a' b' e3 e4
   dsimp only
   rw [w1,w2,e3,e4,Zc,Zc,ex]
   exact (pU I n A.in1 hu1 p1 p2 p3 p4 ex).2.2
  have refs:∀ {p q:Addr},u = .ref p->v = .ref q->SeqAt.RcAt A s (.ref p) (.ref q) c->SeqAt.RcNeAt A s (.ref p) (.ref q) (!c)->SeqAt.RcAt A s u v c/\SeqAt.RcNeAt A s u v (!c)/\SeqAt.EqAt A s u v c:=fun {p q} e1 e2 z1 z2=>by
   subst e1 e2
   refine ⟨z1,z2,?_⟩
   by_cases hpq:p = q
   . subst hpq
     have exy:x = y:=rx.inj ry
     subst exy
     rw [jz I (n + 1) ra rb h]
     exact SeqAt.EqAt.same _
   . exact SeqAt.EqAt.of_refs hpq z1
  have lists:∀ {p q:Addr} {vs ws:List V} {as bs:List D},u = .ref p->v = .ref q->SqL X.K H p vs->SqL X.K H q ws->Reps X.K H vs as->Reps X.K H ws bs->eqL (eqN n) as bs = some c->SeqAt.RcAt A s u v c/\SeqAt.RcNeAt A s u v (!c)/\SeqAt.EqAt A s u v c:=fun {p q vs ws as bs} e1 e2 hp hq rp rq hc=>by
   obtain ⟨its,r1,t1,_⟩:=I.list hp
   obtain ⟨jts,r2,t2,_⟩:=I.list hq
   have l1:its.toArray.size = as.length:=by rw [List.size_toArray,<- r1.length,rp.length]
   have l2:jts.toArray.size = bs.length:=by rw [List.size_toArray,<- r2.length,rq.length]
   obtain ⟨e,he,hx⟩:=items r1 r2 rp rq hc
   by_cases hl:its.toArray.size = jts.toArray.size
   . have z:=oA hc hx
     have hb:(as.length == bs.length) = true:=by rw [beq_iff_eq];omega
     have hm:min as.length bs.length = its.toArray.size:=by omega
     rw [hb,hm,Bool.and_true] at z
     have z1:=SeqAt.RcAt.lists (A:=A) (s:=s) t1.isList t2.isList hl hu0 he
     have z2:=SeqAt.RcNeAt.lists (A:=A) (s:=s) t1.isList t2.isList hl hu0 he
     rw [z] at z1 z2
     exact refs e1 e2 z1 z2
   . have z1:=SeqAt.RcAt.lists_lengths (A:=A) (s:=s) t1.isList t2.isList (by simpa [bne_iff_ne] using hl) hu0
     have z2:=SeqAt.RcNeAt.lists_lengths (A:=A) (s:=s) t1.isList t2.isList (by simpa [bne_iff_ne] using hl) hu0
     have z:=tS hc (by omega)
     subst z
     exact refs e1 e2 z1 z2
  have flatC:(if c4 a && c4 b then some (eqF a b) else none) = some c->SeqAt.RcAt A s u v c/\SeqAt.RcNeAt A s u v (!c)/\SeqAt.EqAt A s u v c:=fun h=>pU I 0 A (by omega) rx ry ra rb (by unfold eqN;exact h)
  cases ra with
  | non =>
   cases (show u = Value.none from rx)
   cases rb with
   | @tup q ws bs hq rq =>
    cases h
    cases (show v = Value.ref q from ry)
    obtain ⟨its,r1,t1,_⟩:=I.tuple hq
    exact ⟨SeqAt.RcAt.none_tuple t1 hu0,SeqAt.RcNeAt.none_tuple t1 hu0,oC (SeqAt.RcAt.none_tuple t1 hu0)⟩
   | @lst q ws bs hq rq =>
    cases h
    cases (show v = Value.ref q from ry)
    obtain ⟨its,r1,t1,_⟩:=I.list (SqL.of (K:=X.K) hq)
    exact ⟨SeqAt.RcAt.none_list t1.isList hu0,SeqAt.RcNeAt.none_list t1.isList hu0,oC (SeqAt.RcAt.none_list t1.isList hu0)⟩
   | @seq q ws bs hq rq =>
    cases h
    cases (show v = Value.ref q from ry)
    obtain ⟨its,r1,t1,_⟩:=I.list hq
    exact ⟨SeqAt.RcAt.none_list t1.isList hu0,SeqAt.RcNeAt.none_list t1.isList hu0,oC (SeqAt.RcAt.none_list t1.isList hu0)⟩
   | _=>exact flatC h
  | @tup p vs as hp rp =>
   cases rb with
   | @tup q ws bs hq rq =>
    obtain ⟨its,r1,t1,_⟩:=I.tuple hp
    obtain ⟨jts,r2,t2,_⟩:=I.tuple hq
    have l1:its.toArray.size = as.length:=by rw [List.size_toArray,<- r1.length,rp.length]
    have l2:jts.toArray.size = bs.length:=by rw [List.size_toArray,<- r2.length,rq.length]
    have hc:eqL (eqN n) as bs = some c:=h
    obtain ⟨e,he,hx⟩:=items r1 r2 rp rq hc
    have z:=oA hc hx
    have z1:=SeqAt.RcAt.tuples (A:=A) (s:=s) t1 t2 hu0 he
    have z2:=SeqAt.RcNeAt.tuples (A:=A) (s:=s) t1 t2 hu0 he
    rw [l1,l2,z] at z1 z2
    exact refs (show u = Value.ref p from rx) (show v = Value.ref q from ry) z1 z2
   | non =>
    cases h
    cases (show u = Value.ref p from rx)
    cases (show v = Value.none from ry)
    obtain ⟨its,r1,t1,_⟩:=I.tuple hp
    exact ⟨SeqAt.RcAt.tuple_none t1 hu0,SeqAt.RcNeAt.tuple_none t1 hu0,oB (SeqAt.RcAt.tuple_none t1 hu0)⟩
   | _=>cases h
  | @lst p vs as hp rp =>
   cases rb with
   | @lst q ws bs hq rq=>exact lists (show u = Value.ref p from rx) (show v = Value.ref q from ry) (SqL.of hp) (SqL.of hq) rp rq h
   | @seq q ws bs hq rq=>exact lists (show u = Value.ref p from rx) (show v = Value.ref q from ry) (SqL.of hp) hq rp rq h
   | non =>
    cases h
    cases (show u = Value.ref p from rx)
    cases (show v = Value.none from ry)
    obtain ⟨its,r1,t1,_⟩:=I.list (SqL.of (K:=X.K) hp)
    exact ⟨SeqAt.RcAt.list_none t1.isList hu0,SeqAt.RcNeAt.list_none t1.isList hu0,oB (SeqAt.RcAt.list_none t1.isList hu0)⟩
   | _=>cases h
  | @seq p vs as hp rp =>
   cases rb with
   | @lst q ws bs hq rq=>exact lists (show u = Value.ref p from rx) (show v = Value.ref q from ry) hp (SqL.of hq) rp rq h
   | @seq q ws bs hq rq=>exact lists (show u = Value.ref p from rx) (show v = Value.ref q from ry) hp hq rp rq h
   | non =>
    cases h
    cases (show u = Value.ref p from rx)
    cases (show v = Value.none from ry)
    obtain ⟨its,r1,t1,_⟩:=I.list hp
    exact ⟨SeqAt.RcAt.list_none t1.isList hu0,SeqAt.RcNeAt.list_none t1.isList hu0,oB (SeqAt.RcAt.list_none t1.isList hu0)⟩
   | _=>cases h
  | bl x=>cases rb <;> first | exact flatC h | cases h
  | int x=>cases rb <;> first | exact flatC h | cases h
  | str x=>cases rb <;> first | exact flatC h | cases h
  | ty x=>cases rb <;> first | exact flatC h | cases h
  | dct h1=>cases rb <;> first | exact flatC h | cases h
  | exc h1=>cases rb <;> first | exact flatC h | cases h
  | cls C=>cases rb <;> first | exact flatC h | cases h
  | ms=>cases rb <;> first | exact flatC h | cases h
  | mf=>cases rb <;> first | exact flatC h | cases h
  | md=>cases rb <;> first | exact flatC h | cases h
end
def c0 (a b:D):Option D:=(eqN 6 a b).map D.bl
def gD (a b:D):Option D:=(eqN 6 a b).map fun c=>D.bl (!c)
def AH (K:PySem.W.Frag):R2:=fun x y H Q=>∃ a b c,Rep K H x a/\Rep K H y b/\eqN 6 a b = some c/\Q (.bl c) H
def AC (K:PySem.W.Frag):R2:=fun x y H Q=>∃ a b c,Rep K H x a/\Rep K H y b/\eqN 6 a b = some c/\Q (.bl (!c)) H
section
variable {X:Cx} {a b:Expr} {fa fb:FD} {pos:Pos}
theorem vO (hu:X.A.units + 64 < cLine):OpR X (compareOp .Eq) (AH X.K):=by
 intro pins s σ H x y v u Q I rx ry ⟨a,b,c,ra,rb,e,q⟩
 exact (pU I 6 X.A (by omega) rx ry ra rb e).1 X.prog X.w _ _ ⟨.bl c,H,I,rfl,q⟩
theorem zw (hu:X.A.units + 64 < cLine):OpR X (compareOp .NotEq) (AC X.K):=by
 intro pins s σ H x y v u Q I rx ry ⟨a,b,c,ra,rb,e,q⟩
 exact (pU I 6 X.A (by omega) rx ry ra rb e).2.1 X.prog X.w _ _ ⟨.bl (!c),H,I,rfl,q⟩
theorem vh {K:PySem.W.Frag}:R2D K (AH K) c0:=by
 intro x y H Q a b d ra rb e k
 unfold c0 at e
 obtain ⟨c,hc,e⟩:=Zb.mp e
 cases e
 exact ⟨a,b,c,ra,rb,hc,k _ H (Same.refl H) (.bl _)⟩
theorem yO {K:PySem.W.Frag}:R2D K (AC K) gD:=by
 intro x y H Q a b d ra rb e k
 unfold gD at e
 obtain ⟨c,hc,e⟩:=Zb.mp e
 cases e
 exact ⟨a,b,c,ra,rb,hc,k _ H (Same.refl H) (.bl _)⟩
theorem lr (hu:X.A.units + 64 < cLine) (ha:PD X a fa) (hb:PD X b fb):PD X (.Compare a [.Eq] [b] pos) (f2 c0 fa fb):=qK (vO hu) vh ha hb (eB _)
theorem ii (hu:X.A.units + 64 < cLine) (ha:PD X a fa) (hb:PD X b fb):PTD X (.Compare a [.Eq] [b] pos) (fT (f2 c0 fa fb)):=dU (vO hu) vh ha hb (eB _)
theorem km (hu:X.A.units + 64 < cLine) (ha:PD X a fa) (hb:PD X b fb):PTD X (.Compare a [.NotEq] [b] pos) (fT (f2 gD fa fb)):=dU (zw hu) yO ha hb (eB _)
end
end Dl
namespace Dl
open PySem PySem.Spec PyProof.Rows L2
section
open PySem.SeqAt
open PySem.AutoSeq1 (wpAny_loadPart')
open PySem.MeetsSeq PySem.MeetsSeq2 PySem.MeetsSeq3
end
section
variable {X:Cx} {a b:Expr} {fa fb:FD} {pos:Pos}
end
theorem pvi {X:Cx} (i:Nat) {x:Str} {pos:Pos} (hN:X.N[i]? = some x:=by rfl) (hv:Vis X.env.scope x:=by first | exact Or.inl rfl | exact Or.inr (Or.inl rfl) | exact Or.inr (Or.inr rfl)) (hd:(x == ("__debug__":Str)) = false:=by decide)
 (hcd:(x == ("__classdict__":Str)) = false:=by decide):PE X (.Name x pos) (wV i):=iR hN hv hd hcd
end Dl
namespace Dl
open PySem PySem.Spec PyProof.Rows L2
section
variable {X:Cx} {pos:Pos} {r:Nat} {c e:Expr} {f:FD} {g:List D->Option (List D)} {rest:List Stmt}
end
end Dl
namespace Dl
open PySem PySem.Spec PyProof.Rows L2
theorem CompOk.nil {X:Cx} {scope:Scope} {x:Str} (clos:closureFor scope X.env = pure []:=by rfl) (nocell:∀ y ∈ scope.names,y.2 ≠ .cell:=by decide +kernel) (kind:scope.kind = .function:=by rfl)
 (names:∀ y ∈ scope.names,y.2 = .local->scope.names.lookup y.1 = some .local:=by decide +kernel) (hx:scope.names.lookup x = some .local:=by rfl) (hfr:∀ p ∈ scope.names,p.2 ≠ .free:=by decide +kernel):CompOk X scope [] x [x] [] where
 clos:=clos
 nocell:=nocell
 kind:=kind
 names:=names
 hx:=hx
 nd:=by simp
 h0:=rfl
 len:=rfl
 clx:=rfl
 cls:=fun y a h=>by cases h
 has:=fun y h=>by
  have key:∀ k,(k = NameKind.cell \/ k = NameKind.free)->(relabel scope X.env).names.lookup y = some k->False:=fun k hk h=>by
   have m:=PySem.mem_of_lookup h
   unfold relabel at m
   obtain ⟨⟨n,k'⟩,m1,m2⟩:=Zq.mp m
   dsimp only at m2
   refine hfr _ m1 ?_
   show k' = NameKind.free
   split at m2
   . rename_i hc
     rw [Bool.and_eq_true,Bool.and_eq_true] at hc
     exact beq_iff_eq.mp hc.1.1
   . have e:k' = k:=congrArg Prod.snd m2
     rcases hk with z1 | z1
     . exact absurd (e.trans z1) (nocell _ m1)
     . exact e.trans z1
  rcases h with h | h
  . exact (key _ (.inl rfl) h).elim
  . exact (key _ (.inr rfl) h).elim
 fr:=fun i y k h1 h2=>by simp at h2
end Dl
namespace Dl
open PySem PySem.Spec PyProof.Rows L2
def fP:List Nat->TGs
 | []=>Bb
 | i :: is=>yh (tQ i) (fP is)
def oW:List Nat->List D->DS->DS
 | i :: is,d :: ds,δ=>oW is ds (δ.set i (some d))
 | _,_,δ=>δ
def pQ (is:List Nat) (n:Nat):Bool:=is.all fun i=>decide (i < n)
theorem kW {K:PySem.W.Frag} {F H:Hp}:∀ {vs:List V} {ds:List D},Reps K H vs ds->dN ds = true->RepOs K F H vs ds []
 | _,_,.nil,_=>.nil
 | _,_,.cons r t,i=>by
  rw [dN,Bool.and_eq_true] at i
  exact .cons (.imm i.1 r) (kW t i.2) rfl
theorem RepO.parts {K:PySem.W.Frag} {F H:Hp} {v:V} {ds:List D} {A:List Addr} (r:RepO K F H v (.tup ds) A):∃ a vs,v = .ref a/\SqT K H a vs/\RepOs K F H vs ds A:=by
 cases r with
 | imm i h =>
  cases h with
  | tup h r=>exact ⟨_,_,rfl,h,kW r (by rw [Dl.imm] at i;exact i)⟩
 | tup h r=>exact ⟨_,_,rfl,h,r⟩
theorem RepOs.len {K:PySem.W.Frag} {F H:Hp}:∀ {vs:List V} {ds:List D} {A:List Addr},RepOs K F H vs ds A->vs.length = ds.length
 | _,_,_,.nil=>rfl
 | _,_,_,.cons _ t _=>by rw [Zm,Zm,RepOs.len t]
theorem jn {K:PySem.W.Frag} {F H:Hp}:∀ (is:List Nat) {vs:List V} {ds:List D} {A:List Addr} {σ:L2.St} {δ:DS} {As:Nat->List Addr} {Q:L2.St->Hp->Prop},RepOs K F H vs ds A->A.Nodup->(∀ j a,a ∈ As j->a ∉ A)->RepA K F H σ δ As->ds.length = is.length->pQ is δ.length = true->(∀ σ',fg K F H σ' (oW is ds δ)->Q σ' H)->fP is vs σ H Q
 | [],_,_,_,σ,δ,As,Q,.nil,_,_,R,_,_,k=>⟨rfl,k σ ⟨As,R⟩⟩
 | [],_,_,_,_,_,_,_,.cons _ _ _,_,_,_,l,_,_=>by cases l
 | _ :: _,_,_,_,_,_,_,_,.nil,_,_,_,l,_,_=>by cases l
 | i :: is,_,_,_,σ,δ,As,Q,.cons (v:=v) (d:=d) (vs:=vs) (ds:=ds) (A:=A) (B:=B) r t e,nd,dj,R,l,hi,k=>by
  subst e
  have hi':(decide (i < δ.length) && pQ is δ.length) = true:=hi
  rw [Bool.and_eq_true] at hi'
  have h1:i < δ.length:=of_decide_eq_true hi'.1
  rw [List.nodup_append] at nd
  have R1:=R.set i h1 r nd.1 fun j a _ m z=>dj j a m (List.mem_append_left _ z)
  refine ⟨v,vs,rfl,?_⟩
  show fP is vs (σ.set i (some v)) H Q
  refine jn is t nd.2.1 (fun j a m z=>?_) R1 (by simpa using l) (by rw [List.length_set];exact hi'.2) k
  unfold g8 at m
  by_cases hj:j = i
  . rw [if_pos hj] at m
    exact nd.2.2 a m a z rfl
  . rw [if_neg hj] at m
    exact dj j a m (List.mem_append_right _ z)
def oZ (is:List Nat) (fm:FM):SD:=fun δ=>(fm δ).bind fun p=>match p.1 with
 | .tup ds=>if ds.length = is.length/\pQ is p.2.length = true then some (.nx (oW is ds p.2)) else none
 | _=>none
theorem pgN {X:Cx} (i:Nat) {x:Str} {pos:Pos} (hN:X.N.Nodup) (hi:X.N[i]? = some x:=by rfl) (hx:Loc X.env.scope x:=by first | exact Or.inl rfl | exact Or.inr rfl) (hf:X.fn x = true \/ X.env.scope.names.lookup x = some .local:=by first | exact .inl rfl | exact .inr rfl | assumption):PG X (.Name x pos) (tQ i):=gz hN hi hx hf
theorem AQ {X:Cx} {e:Expr} {es:List Expr} {kt:Nat} {pt pos:Pos} {fm:FM} (is:List Nat) (he:PV X e fm) (hg:PG X (.Tuple es kt pt) (we X.K is.length (fP is)))
 (hs:swapsWithSole [.Tuple es kt pt] e pos.line X.env = pure false:=by rfl) (hw:swappedStores [.Tuple es kt pt] e X.env = pure none:=by rfl)
 (h1:(assignEach [.Tuple es kt pt] X.env).map (·.2) = [assign (.Tuple es kt pt) X.env]:=by rfl):PMD X (.Assign [.Tuple es kt pt] e pos) (oZ is fm):=fU (qD he hg hs hw h1) fun E σ H ⟨F,δ,r,⟨As,R⟩,q,k⟩=>by
 unfold oZ at q
 obtain ⟨⟨d,δ'⟩,ed,q⟩:=Za.mp q
 dsimp only at q
 split at q
 . rename_i ds
   split at q
   . rename_i hl
     cases q
     refine ⟨F,δ,As,_,δ',R,ed,fun v F' H' A As' ev R' r'=>?_⟩
     obtain ⟨a,vs,rfl,sq,ro⟩:=r'.parts
     exact ⟨a,vs,rfl,sq,ro.len.trans hl.1,jn is ro ev.nd ev.dj R' hl.1 hl.2 fun σ' R2=>k σ' F' H' ev.fs R2⟩
   . cases q
 . cases q
def ym (K:PySem.W.Frag) (t:TG) (g:D->DS->Option DS):Prop:=∀ {F H:Hp} {σ:L2.St} {δ δ':DS} {As:Nat->List Addr} {v:V} {d:D} {Q:L2.St->Hp->Prop},RepA K F H σ δ As->RepO K F H v (sh d) []->g d δ = some δ'->(∀ σ',fg K F H σ' δ'->Q σ' H)->t v σ H Q
def gTs (is:List Nat):D->DS->Option DS:=fun d δ=>match sh d with
 | .tup ds=>if ds.length = is.length/\pQ is δ.length = true then some (oW is ds δ) else none
 | _=>none
theorem tK {K:PySem.W.Frag} (is:List Nat):ym K (we K is.length (fP is)) (gTs is):=by
 intro F H σ δ δ' As v d Q R r q k
 unfold gTs at q
 split at q
 . rename_i ds hd
   split at q
   . rename_i hl
     cases q
     rw [hd] at r
     obtain ⟨a,vs,rfl,sq,ro⟩:=r.parts
     exact ⟨a,vs,rfl,sq,ro.len.trans hl.1,jn is ro Zw (fun _ _ _ z=>nomatch z) R hl.1 hl.2 k⟩
   . cases q
 . cases q
def pS (g:D->DS->Option DS) (s:SD):List D->SD
 | []=>fun δ=>some (.nx δ)
 | d :: ds=>fun δ=>(g d δ).bind fun δ1=>(s δ1).bind fun r=>match r with
  | .nx δ'=>pS g s ds δ'
  | .ct δ'=>pS g s ds δ'
  | .bk δ'=>some (.nx δ')
  | .rt d=>some (.rt d)
  | .ex C δ'=>some (.ex C δ')
  | .mk C δ'=>some (.mk C δ')
def sg (src:FMA) (g:D->DS->Option DS) (s:SD):SD:=fun δ=>(src δ).bind fun p=>pS g s p.1 p.2
end Dl
namespace Dl
open PySem PySem.Spec PyProof.Rows L2
theorem xI {X:Cx} {scope:Scope} {y:Str} (nocell:∀ y ∈ scope.names,y.2 ≠ .cell) (h:(relabel scope X.env).names.lookup y = some .cell \/ (relabel scope X.env).names.lookup y = some .free):∃ p ∈ scope.names,p.2 = .free/\p.1 = y:=by
 have key:∀ k,(k = NameKind.cell \/ k = NameKind.free)->(relabel scope X.env).names.lookup y = some k->∃ p ∈ scope.names,p.2 = .free/\p.1 = y:=fun k hk h=>by
  have m:=PySem.mem_of_lookup h
  unfold relabel at m
  obtain ⟨⟨n,k'⟩,m1,m2⟩:=Zq.mp m
  dsimp only at m2
  refine ⟨_,m1,?_,?_⟩
  . show k' = NameKind.free
    split at m2
    . rename_i hc
      rw [Bool.and_eq_true,Bool.and_eq_true] at hc
      exact beq_iff_eq.mp hc.1.1
    . have e:k' = k:=congrArg Prod.snd m2
      rcases hk with z1 | z1
      . exact absurd (e.trans z1) (nocell _ m1)
      . exact e.trans z1
  . show n = y
    split at m2 <;> exact congrArg Prod.fst m2
 rcases h with h | h
 . exact key _ (.inl rfl) h
 . exact key _ (.inr rfl) h
end Dl
namespace Dl
open PySem PySem.Spec PyProof.Rows L2
end Dl
namespace Dl
open PySem PySem.Spec PyProof.Rows L2
def nB (i j:Int):Prop:=(Bd i/\Bd j) \/ L2.CMul i j
instance (i j:Int):Decidable (nB i j):=by unfold nB L2.CMul;exact inferInstance
theorem xq {X:Cx}:OpR X (binaryOp .Mult) (rI nB fun i j=>.int (i * j)):=opI fun _ _ _ _ _ _ _ hc q=>by
 rcases hc with hc | hc
 . exact mul_int q (.of_bits hc.1.bits hc.2.bits)
 . exact mul_int q hc.ok
theorem xn {X:Cx} {a b:Expr} {fa fb:FD} {pos:Pos} (ha:PD X a fa) (hb:PD X b fb):PD X (.BinOp a .Mult b pos) (f2 (gI nB fun i j=>.int (i * j)) fa fb):=ln xq (vj fun _ _ _=>.int _) ha hb
def eM:D->Option (List D)
 | .tup ds=>some ds
 | .lst ds=>some ds
 | .seq ds=>some ds
 | _=>none
def cL:List D->Option (List Bool)
 | []=>some []
 | .bl b :: ds=>(cL ds).bind fun bs=>some (b :: bs)
 | _ :: _=>none
def wI:List D->Option (List D)
 | [.lst ds]=>some ds
 | [.seq ds]=>some ds
 | _=>none
def wg (as:List D):Option D:=(wI as).bind fun ds=>(cL ds).bind fun bs=>some (.bl (bs.all id))
def Bc (as:List D):Option D:=(wI as).bind fun ds=>(cL ds).bind fun bs=>some (.bl (bs.any id))
theorem iO {K:PySem.W.Frag} {H:Hp}:∀ {vs:List V} {ds:List D} {bs:List Bool},Reps K H vs ds->cL ds = some bs->vs = bs.map V.bl
 | _,_,_,.nil,h=>by cases h;rfl
 | v :: vs,d :: ds,bs,.cons r t,h=>by
  cases d with
  | bl b =>
   obtain ⟨cs,h1,h2⟩:=Za.mp (show ((cL ds).bind fun bs=>some (b :: bs)) = some bs from h)
   cases h2
   cases r
   rw [iO t h1]
   rfl
  | _=>cases h
theorem iM:∀ {bs:List Bool} {us:List Value},Vals (bs.map V.bl) us->LSm.BoolsAre us bs
 | [],_,.nil=>.nil
 | b :: bs,u :: us,.cons r t=>by
  have e:u = .bool b:=r
  subst e
  exact .cons b (iM t)
theorem qh {X:Cx} (hc:X.calm = true):fN X (.builtin "all") (fun xs H Q=>∃ p ys,∃ bs:List Bool,xs = [.ref p]/\SqL X.K H p ys/\ys = bs.map V.bl/\Q (.bl (bs.all id)) H):=by
 intro pins s σ H xs us Q I r h
 obtain ⟨p,ys,bs,rfl,hq,rfl,q⟩:=h
 obtain ⟨u,rfl,rx⟩:=kJ r
 cases rx
 obtain ⟨its,r',pl,hz⟩:=I.list hq
 have hb:=iM r'
 have hlt:p < s.heap.objs.size:=by obtain ⟨_,e,_⟩:=pl.isList;exact Heap.lt_size e
 refine call_all_walk (wpAny_pyIter_list pl.isList ?_)
 refine ⟨s.heap.objs.size,[s.heap.objs.size,p],[s.heap.objs.size],its.toArray.size,_,_,fun i=>(bs[i]?).getD true,rfl,Walks.list (A:=X.A.in1) (I.ok.hd hc) _ p (Nat.ne_of_lt hlt) its.toArray,
  ⟨⟨_,Heap.get?_push_size _ rfl,rfl,rfl⟩,pl.isList.push _⟩,fun i v s' Q' E' hP hQ=>?_,fun h' tk hk=>?_⟩
 . obtain ⟨b,e,rfl⟩:=hb.get i v (by simpa using hP)
   simp only [e,Option.getD_some] at hQ
   exact wpAny_truthy_bool hQ
 . have e:((List.range its.toArray.size).all fun i=>(bs[i]?).getD true) = bs.all id:=by
    rw [List.size_toArray,hb.length];exact LSm.range_all bs
   rw [e]
   exact ⟨.bl _,H,I.kept (t':=tk) (LSm.kept_iter hk),rfl,q⟩
theorem lZ {X:Cx} (hc:X.calm = true):fN X (.builtin "any") (fun xs H Q=>∃ p ys,∃ bs:List Bool,xs = [.ref p]/\SqL X.K H p ys/\ys = bs.map V.bl/\Q (.bl (bs.any id)) H):=by
 intro pins s σ H xs us Q I r h
 obtain ⟨p,ys,bs,rfl,hq,rfl,q⟩:=h
 obtain ⟨u,rfl,rx⟩:=kJ r
 cases rx
 obtain ⟨its,r',pl,hz⟩:=I.list hq
 have hb:=iM r'
 have hlt:p < s.heap.objs.size:=by obtain ⟨_,e,_⟩:=pl.isList;exact Heap.lt_size e
 refine call_any_walk (wpAny_pyIter_list pl.isList ?_)
 refine ⟨s.heap.objs.size,[s.heap.objs.size,p],[s.heap.objs.size],its.toArray.size,_,_,fun i=>(bs[i]?).getD false,rfl,Walks.list (A:=X.A.in1) (I.ok.hd hc) _ p (Nat.ne_of_lt hlt) its.toArray,
  ⟨⟨_,Heap.get?_push_size _ rfl,rfl,rfl⟩,pl.isList.push _⟩,fun i v s' Q' E' hP hQ=>?_,fun h' tk hk=>?_⟩
 . obtain ⟨b,e,rfl⟩:=hb.get i v (by simpa using hP)
   simp only [e,Option.getD_some] at hQ
   exact wpAny_truthy_bool hQ
 . have e:((List.range its.toArray.size).any fun i=>(bs[i]?).getD false) = bs.any id:=by
    rw [List.size_toArray,hb.length];exact LSm.range_any bs
   rw [e]
   exact ⟨.bl _,H,I.kept (t':=tk) (LSm.kept_iter hk),rfl,q⟩
theorem l7 {K:PySem.W.Frag} {H:Hp} {xs:List V} {as ds:List D} (r:Reps K H xs as) (e:wI as = some ds):∃ p ys,xs = [.ref p]/\SqL K H p ys/\Reps K H ys ds:=by
 unfold wI at e
 split at e
 . cases e
   obtain ⟨x,rfl,rx⟩:=jV r
   cases rx with
   | @lst p vs _ hp rp=>exact ⟨p,vs,rfl,SqL.of hp,rp⟩
 . cases e
   obtain ⟨x,rfl,rx⟩:=jV r
   cases rx with
   | @seq p vs _ hp rp=>exact ⟨p,vs,rfl,hp,rp⟩
 . cases e
theorem wE {K:PySem.W.Frag}:hV K (fun xs H Q=>∃ p ys,∃ bs:List Bool,xs = [.ref p]/\SqL K H p ys/\ys = bs.map V.bl/\Q (.bl (bs.all id)) H) wg:=by
 intro xs H Q as d r e k
 unfold wg at e
 obtain ⟨ds,e1,e⟩:=Za.mp e
 obtain ⟨bs,e2,e⟩:=Za.mp e
 cases e
 obtain ⟨p,ys,h1,h2,h3⟩:=l7 r e1
 exact ⟨p,ys,bs,h1,h2,iO h3 e2,k _ H (Same.refl H) (.bl _)⟩
theorem rG {K:PySem.W.Frag}:hV K (fun xs H Q=>∃ p ys,∃ bs:List Bool,xs = [.ref p]/\SqL K H p ys/\ys = bs.map V.bl/\Q (.bl (bs.any id)) H) Bc:=by
 intro xs H Q as d r e k
 unfold Bc at e
 obtain ⟨ds,e1,e⟩:=Za.mp e
 obtain ⟨bs,e2,e⟩:=Za.mp e
 cases e
 obtain ⟨p,ys,h1,h2,h3⟩:=l7 r e1
 exact ⟨p,ys,bs,h1,h2,iO h3 e2,k _ H (Same.refl H) (.bl _)⟩
theorem nk:bootBuiltins "all" = some (.builtin "all"):=by decide +kernel
theorem jK:bootBuiltins "any" = some (.builtin "any"):=by decide +kernel
end Dl
namespace Dl
open PySem PySem.Spec PyProof.Rows L2
def asT:D->Option (List D)
 | .tup ds=>some ds
 | _=>none
theorem kU {K:PySem.W.Frag} {H H':Hp} (s:Same H H') {a:Addr} {vs:List V} (h:SqT K H a vs):SqT K H' a vs:=fX (bJ s) h
theorem zR {K:PySem.W.Frag} {H1:Hp} {a:Addr} {vs:List V} {ds:List D} (hq:SqT K H1 a vs) (r:Reps K H1 vs ds):ItD K (Itt K a) H1 ds:=by
 intro i H2 s
 have hq2:=kU s hq
 have r2:=r.mono s
 have hl:=r2.length
 refine ⟨fun hi=>⟨⟨vs,vs[i],hq2,by simp [show i < vs.length by omega]⟩,fun x H' y=>?_⟩,fun hi=>⟨vs,hq2,by omega⟩⟩
 obtain ⟨e,y⟩:=y
 subst e
 obtain ⟨d,h1,h2⟩:=r2.getV (y vs hq2)
 exact ⟨Same.refl _,d,h1,h2⟩
theorem kq {X:Cx} {tg l:Expr} {f:FD} (hl:PD X l f):PID X tg l (fun δ=>(f δ).bind asT):=qW (zj hl) fun σ H R ⟨δ,ds,R0,e,k⟩=>by
 obtain ⟨d,ed,e⟩:=Za.mp e
 refine ⟨δ,d,R0,ed,fun v H1 s1 r1=>?_⟩
 cases r1 with
 | @tup p vs es hp rp=>cases e;exact ⟨p,rfl,⟨vs,hp⟩,k _ H1 s1 (zR hp rp)⟩
 | _=>cases e
end Dl
namespace Dl
open PySem PySem.Spec PyProof.Rows L2
end Dl
namespace Dl
open PySem PySem.Spec PyProof.Rows L2
end Dl
namespace Dl
open PySem PySem.Spec PyProof.Rows L2
structure CompG (X:Cx) (scope:Scope) (cl:List (Str × Addr)) (T N:List Str) (js:List Nat):Prop where
 clos:closureFor scope X.env = pure cl
 nocell:∀ y ∈ scope.names,y.2 ≠ .cell
 kind:scope.kind = .function
 names:∀ y ∈ scope.names,y.2 = .local->scope.names.lookup y.1 = some .local
 nd:N.Nodup
 len:N.length = T.length + js.length
 clx:∀ y,T.contains y = true->cl.lookup y = none
 cls:∀ y c,cl.lookup y = some c->X.env.cells.lookup y = some c
 has:∀ y,((relabel scope X.env).names.lookup y = some .cell \/ (relabel scope X.env).names.lookup y = some .free)->∃ c,cl.lookup y = some c
 fr:∀ i y j,N[T.length + i]? = some y->js[i]? = some j->X.N[j]? = some y/\X.env.scope.names.lookup y = some .cell/\(relabel scope X.env).names.lookup y = some .cell/\∀ c,X.env.cells.lookup y = some c->cl.lookup y = some c
abbrev cv (X:Cx) (scope:Scope) (cl:List (Str × Addr)) (T N:List Str) (C:Addr) (s₂:Shared) (H₂:Hp) (fp:List Addr) (pn:List (Addr × Obj)):Cx :=
 { X with env:=compEnvC scope cl C X.env,N:=N,s₀:=s₂,H₀:=H₂,outer:=X.stack,stack:=X.stack,ex:=fp,fn:=fun y=>T.contains y,calm:=true,pn:=pn,xe:=fun _ _=>False }
theorem iU {y:Str}:∀ {cl:List (Str × Addr)},y ∈ cl.map (·.1)->∃ c,cl.lookup y = some c
 | [],h=>by cases h
 | (z,c) :: cl,h=>by
  by_cases hy:y = z
  . subst hy
    exact ⟨c,by simp⟩
  . have q:(y == z) = false:=beq_eq_false_iff_ne.mpr hy
    rw [List.lookup_cons,q]
    refine iU ?_
    rcases Zs.mp h with e | e
    . exact absurd e hy
    . exact e
theorem CompG.of {X:Cx} {scope:Scope} {cl:List (Str × Addr)} {T Z Y:List Str} {js:List Nat} (clos:closureFor scope X.env = pure cl:=by rfl) (hY:cl.map (·.1) = Y:=by rfl) (nocell:∀ y ∈ scope.names,y.2 ≠ .cell:=by decide +kernel) (kind:scope.kind = .function:=by rfl)
 (names:∀ y ∈ scope.names,y.2 = .local->scope.names.lookup y.1 = some .local:=by decide +kernel) (nd:(T ++ Z).Nodup:=by decide +kernel) (len:Z.length = js.length:=by rfl) (dis:∀ y ∈ T,y ∉ Y:=by decide +kernel)
 (hcl:∀ p ∈ cl,X.env.cells.lookup p.1 = some p.2) (hfr:∀ p ∈ scope.names,p.2 = .free->p.1 ∈ Y:=by decide +kernel) (hZ:∀ y ∈ Z,y ∈ Y:=by decide +kernel)
 (hN:∀ (i:Nat) y j,Z[i]? = some y->js[i]? = some j->X.N[j]? = some y/\X.env.scope.names.lookup y = some .cell/\(relabel scope X.env).names.lookup y = some .cell):CompG X scope cl T (T ++ Z) js where
 clos:=clos
 nocell:=nocell
 kind:=kind
 names:=names
 nd:=nd
 len:=by rw [List.length_append,len]
 clx:=fun y hy=>by
  cases q:cl.lookup y with
  | none=>rfl
  | some c =>
   have m:y ∈ Y:=by
    rw [<- hY]
    exact Zq.mpr ⟨_,PySem.mem_of_lookup q,rfl⟩
   exact absurd m (dis y (List.contains_iff_mem.mp hy))
 cls:=fun y c h=>hcl _ (PySem.mem_of_lookup h)
 has:=fun y h=>by
  obtain ⟨p,m,f,rfl⟩:=xI nocell h
  exact iU (by rw [hY];exact hfr p m f)
 fr:=fun i y j h1 h2=>by
  rw [List.getElem?_append_right (Nat.le_add_right _ _),Nat.add_sub_cancel_left] at h1
  obtain ⟨a,b,c⟩:=hN i y j h1 h2
  refine ⟨a,b,c,fun e he=>?_⟩
  obtain ⟨e',he'⟩:=iU (cl:=cl) (y:=y) (by rw [hY];exact hZ y (List.mem_of_getElem? h1))
  have:=hcl _ (PySem.mem_of_lookup he')
  dsimp only at this
  rw [he] at this
  cases this
  exact he'
def wP (X:Cx) (ifs:List Expr) (f:FT):Prop:=∀ (pins:List (Addr × Obj)) (s:Shared) (σ:L2.St) (H:Hp) (Q:Bool->Hp->Prop),L2.Inv X pins σ H s->upT X.K f σ H Q ->
 wpAny (model X.prog X.w) X.A (forIn ifs true fun c r=>if r = true then do let ok <- isTrue c X.env (eval c X.env);pure (ForInStep.yield ok) else pure (ForInStep.yield r)) (TP X pins σ Q) X.xe s
theorem ij {X:Cx}:wP X [] (fun _=>some true):=fun pins s σ H Q I ⟨δ,b,R,e,k⟩=>by
 cases e
 exact wpAny_tests_nil ⟨H,I,k H (Same.refl H)⟩
theorem ko {X:Cx} {c:Expr} {f:FT} (h:PTD X c f):wP X [c] f:=fun pins s σ H Q I q=>wpAny_tests_one (h pins s σ H Q I q)
def gDs (is:List Nat):D->DS->Option DS:=fun d δ=>match d with
 | .tup ds=>if ds.length = is.length then some (oW is ds δ) else none
 | _=>none
theorem vR {K:PySem.W.Frag} {H:Hp}:∀ (is:List Nat) {vs:List V} {ds:List D} {σ:L2.St} {δ:DS} {Q:L2.St->Hp->Prop},Reps K H vs ds->RepS K H σ δ->ds.length = is.length->(∀ σ',RepS K H σ' (oW is ds δ)->Q σ' H)->fP is vs σ H Q
 | [],_,_,σ,δ,Q,.nil,R,_,k=>⟨rfl,k σ R⟩
 | [],_,_,_,_,_,.cons _ _,_,l,_=>by cases l
 | _ :: _,_,_,_,_,_,.nil,_,l,_=>by cases l
 | i :: is,_,_,σ,δ,Q,.cons (v:=v) (vs:=vs) r t,R,l,k=>⟨v,vs,rfl,vR is t (R.set i r) (by simpa using l) k⟩
theorem fJ {X:Cx} {es:List Expr} {k:Nat} {pos:Pos} (is:List Nat) (hg:PG X (.Tuple es k pos) (we X.K is.length (fP is))):PGD X (.Tuple es k pos) (gDs is):=fun pins s σ H v u Q I r ⟨d,δ,δ',rv,R,e,q⟩=>by
 unfold gDs at e
 split at e
 . rename_i ds
   split at e
   . rename_i hl
     cases e
     cases rv with
     | tup hs rs=>exact hg pins s σ H _ u Q I r ⟨_,_,rfl,hs,rs.length.trans hl,vR is rs R hl q⟩
   . cases e
 . cases e
def xO (δ δ':DS):Prop:=δ'.length = δ.length/\∀ (i:Nat) d,δ[i]? = some (some d)->δ'[i]? = some (some d)
theorem RepS.weak {K:PySem.W.Frag} {H:Hp} {σ:L2.St} {δ δ':DS} (R:RepS K H σ δ') (w:xO δ δ'):RepS K H σ δ:=⟨R.len.trans w.1,fun i d q=>R.val i d (w.2 i d q)⟩
def fR (n:Nat) (δ:DS):DS:=List.replicate n none ++ δ
theorem jy:∀ (is:List Nat) (ds:List D) {n:Nat} {δ0 δ:DS},(∀ i ∈ is,i < n)->xO (fR n δ0) δ->xO (fR n δ0) (oW is ds δ)
 | [],_,_,_,_,_,k=>k
 | _ :: _,[],_,_,_,_,k=>k
 | i :: is,d :: ds,n,δ0,δ,hi,k=>jy is ds (fun j m=>hi j (Zp _ m)) ⟨by rw [List.length_set];exact k.1,fun j e q=>by
  have hj:n <= j:=Nat.le_of_not_lt fun hlt=>by
   unfold fR at q
   rw [List.getElem?_append_left (by simpa using hlt),List.getElem?_replicate,if_pos hlt] at q
   cases q
  have:=hi i Zo
  rw [List.getElem?_set_ne (by omega)]
  exact k.2 j e q⟩
def qo (n:Nat) (g:D->DS->Option DS):Prop:=∀ d δ0 δ1,g d (fR n δ0) = some δ1->xO (fR n δ0) δ1
theorem dZ {n:Nat} (is:List Nat) (h:∀ i ∈ is,i < n):qo n (gDs is):=fun d δ0 δ1 e=>by
 unfold gDs at e
 split at e
 . split at e
   . cases e
     exact jy is _ h ⟨rfl,fun _ _ q=>q⟩
   . cases e
 . cases e
theorem nb {n:Nat} (i:Nat) (h:i < n):qo n (bu i):=fun d δ0 δ1 e=>by
 cases e
 exact jy [i] [d] (fun j m=>by simp at m;subst m;exact h) ⟨rfl,fun _ _ q=>q⟩
def eL (f:D->Option (Option D)):List D->Option (List D)
 | []=>some []
 | d :: ds=>(f d).bind fun o=>(eL f ds).bind fun xs=>some (o.toList ++ xs)
theorem pJ {f:D->Option (Option D)}:∀ {ds es:List D} {xs ys:List D},eL f ds = some xs->eL f es = some ys->eL f (ds ++ es) = some (xs ++ ys)
 | [],es,xs,ys,h,g=>by cases h;exact g
 | d :: ds,es,xs,ys,h,g=>by
  obtain ⟨o,eo,h⟩:=Za.mp (show ((f d).bind _) = some xs from h)
  obtain ⟨zs,ez,h⟩:=Za.mp h
  cases h
  show ((f d).bind _) = _
  rw [eo]
  show ((eL f (ds ++ es)).bind _) = _
  rw [pJ ez g,List.append_assoc]
  rfl
theorem mY {f:D->Option (Option D)}:∀ {ds xs:List D},eL f ds = some xs->∀ i,∃ ys,eL f (ds.take i) = some ys/\ys.length <= xs.length
 | [],xs,h,i=>⟨[],by simp [eL],Nat.zero_le _⟩
 | d :: ds,xs,h,0=>⟨[],rfl,Nat.zero_le _⟩
 | d :: ds,xs,h,i + 1=>by
  obtain ⟨o,eo,h⟩:=Za.mp (show ((f d).bind _) = some xs from h)
  obtain ⟨zs,ez,h⟩:=Za.mp h
  cases h
  obtain ⟨ys,e,l⟩:=mY ez i
  refine ⟨o.toList ++ ys,?_,by simp;exact l⟩
  show ((f d).bind _) = _
  rw [eo]
  show ((eL f (ds.take i)).bind _) = _
  rw [e]
  rfl
theorem sY {f:D->Option (Option D)}:∀ {ds xs:List D},eL f ds = some xs->∀ (i:Nat) d,ds[i]? = some d->∃ o,f d = some o
 | [],_,_,i,d,e=>by simp at e
 | d :: ds,xs,h,0,d',e=>by
  obtain ⟨o,eo,h⟩:=Za.mp (show ((f d).bind _) = some xs from h)
  simp at e
  subst e
  exact ⟨o,eo⟩
 | d :: ds,xs,h,i + 1,d',e=>by
  obtain ⟨o,eo,h⟩:=Za.mp (show ((f d).bind _) = some xs from h)
  obtain ⟨zs,ez,h⟩:=Za.mp h
  exact sY ez i d' (by simpa using e)
def df (n:Nat) (js:List Nat) (g:D->DS->Option DS) (fc:FT) (felt:FM) (δ:DS) (d:D):Option (Option D):=(g d (fR n (cg js δ))).bind fun δ1=>(fc δ1).bind fun b=>if b then (ownOf felt (shO δ1)).map some else some none
def gP (src:FA) (n:Nat) (js:List Nat) (g:D->DS->Option DS) (fc:FT) (felt:FM):FM:=fun δ=>(src δ).bind fun ds=>(eL (df n js g fc felt δ) ds).bind fun xs=>if xs.length <= 1000 then some (.lst xs,δ) else none
theorem lW {prog:Program} {w:World} {A:Around} {R:Result->Shared->Prop} {s:Shared} {elt target iter:Expr} {ifs:List Expr} {scope:Scope} {pos:Pos} {it acc:Value} {env:Env} (J:Nat->Shared->Prop)
 (turn:∀ n s,J n s->wpAny (model prog w) A (pyNext it) (fun r s₁=>match r with
  | none=>R (.ok .next) s₁
  | some v=>wpAny (model prog w) A (letOwnedTupleGo target it v) (fun _ s₂=>wpAny (model prog w) A (assign target env v) (fun _ s₃ =>
   wpAny (model prog w) A (forIn ifs true fun c r=>if r = true then do let ok <- isTrue c env (eval c env);pure (ForInStep.yield ok) else pure (ForInStep.yield r)) (fun ok sT =>
   if ok = true then wpAny (model prog w) A (eval elt env) (fun y s₄ =>
   wpAny (model prog w) A (call (.builtin "list.append") [acc,y]) (fun _ s₅=>∃ m,m < n/\J m s₅) (fun _ _=>False) s₄) (fun _ _=>False) sT else ∃ m,m < n/\J m sT) (fun _ _=>False) s₃) (fun _ _=>False) s₂) (fun _ _=>False) s₁) (fun _ _=>False) s)
 (n:Nat) (h:J n s):codeAny (model prog w) A (.compLoop (.ListComp elt [⟨target,iter,ifs,0⟩] scope pos) 0 it acc env) R s:=by
 refine codeAny_loop rfl J (fun n s j=>wpAny_noted (m:=compTurn (.ListComp elt [⟨target,iter,ifs,0⟩] scope pos) 0 it acc env) (compTurn_list elt target iter ifs scope pos it acc env▸wpAny_bind (wpAny_standAt (bindF (turn n s j) fun r _ q=>?_)))) n h
 cases r with
 | none=>exact wpAny_pure q
 | some v=>
  exact bindF q fun _ _ q=>bindF q fun _ _ q=>bindF q fun b _ q=>by
   cases b with
   | false=>exact wpAny_pure ⟨rfl,q⟩
   | true=>exact wpAny_bind (bindF q fun _ _ q=>bindF q fun _ _ q=>wpAny_pure (wpAny_pure ⟨rfl,q⟩))
section
variable {X:Cx} {pins:List (Addr × Obj)} {σ:L2.St} {H₂:Hp} {s₂:Shared} {scope:Scope} {cl:List (Str × Addr)} {T N:List Str} {js:List Nat} {C:Addr} {fp:List Addr}
theorem rE (I:L2.Inv X pins σ H₂ s₂) (hcm:X.calm = true) (O:CompG X scope cl T N js) (hC:s₂.heap.objs.size <= C) (hf:∀ b ∈ fp,gj X pins H₂ b) (ho:∀ b ∈ fp,∃ o,s₂.heap.get? b = some o):(cv X scope cl T N C s₂ H₂ fp (X.pn ++ pins)).Ok where
 mod:=I.ok.mod
 kind:=O.kind
 glob:=I.ok.glob
 blt:=I.ok.blt
 above:=hC
 inj:=fun y z c h1 h2=>I.ok.inj y z c (O.cls y c h1) (O.cls z c h2)
 has:=fun y h=>O.has y h
 cab:=fun y c h1 h2=>by
  have:cl.lookup y = some c:=h2
  rw [O.clx y h1] at this
  cases this
 hd:=fun _=>I.ok.hd hcm
 frames:=I.ok.frames
 stk:=.inl rfl
 exf:=fun b hb=>by
  obtain ⟨o,e⟩:=ho b hb
  refine ⟨Nat.ne_of_lt (Nat.lt_of_lt_of_le (Heap.lt_size e) hC),fun y c h z=>?_⟩
  exact (hf b hb).2.2.2.2.1 y c (O.cls y c h) z
 bs:=I.bs
 bsz:=Nat.le_trans I.ok.bsz I.sz
 noex:=fun b o e hb=>by
  rcases (hf b hb).2.2.2.1 with z | z
  . exact I.ok.noex b o e z
  . exact absurd (Nat.lt_of_lt_of_le (Heap.lt_size e) (Nat.le_trans I.ok.bsz z)) (Nat.lt_irrefl _)
 exfs:=fun b hb z=>by
  rcases Zs.mp (I.stkSub b z) with e | e
  . exact (hf b hb).2.1 e
  . exact (hf b hb).2.2.1 e
 funs:=I.stack
 frf:=I.stkFree
theorem qc {h₁:Heap} {m:Str->Option Value} {tk:Nat} (I:L2.Inv X pins σ H₂ s₂) (hcm:X.calm = true) (O:CompG X scope cl T N js) (hC:s₂.heap.objs.size <= C) (hf:∀ b ∈ fp,gj X pins H₂ b) (ho:∀ b ∈ fp,∃ o,s₂.heap.get? b = some o)
 (old:∀ b o,s₂.heap.get? b = some o->h₁.get? b = some o) (hns:h₁.Ns C m) (hl:σ.length = X.N.length):L2.Inv (cv X scope cl T N C s₂ H₂ fp (X.pn ++ pins)) [] (List.replicate T.length none ++ cA js σ) H₂ { s₂ with heap:=h₁,toks:=tk } where
 ok:=rE I hcm O hC hf ho
 os:=rfl
 bare:=I.bare
 base:=Un.kept old
 loc:=by
  refine ⟨m,hns,fun i y v h1 h2 h3=>?_⟩
  by_cases hi:i < T.length
  . rw [List.getElem?_append_left (by simpa using hi),List.getElem?_replicate,if_pos hi] at h2
    cases h2
  . obtain ⟨i,rfl⟩:∃ k,i = T.length + k:=⟨i - T.length,by omega⟩
    have h2':(cA js σ)[i]? = some (some v):=by
     rw [List.getElem?_append_right (by simp)] at h2
     simpa using h2
    unfold cA at h2'
    rw [List.getElem?_map] at h2'
    obtain ⟨j,hj,h4⟩:=Zb.mp h2'
    have h5:σ[j]? = some (some v):=by
     cases q:σ[j]? with
     | none=>rw [q] at h4;cases h4
     | some o=>rw [q] at h4;exact congrArg some h4
    obtain ⟨f1,f2,f3,f4⟩:=O.fr i y j h1 hj
    obtain ⟨m',hn',hl'⟩:=I.loc
    obtain ⟨u,ru,lk⟩:=hl' j y v f1 h5 (.inr (.inl f2))
    refine ⟨u,ru,?_⟩
    rcases lk with ⟨k1,_⟩ | ⟨_,c,hc,o,hco,hcd⟩
    . have:X.env.scope.names.lookup y = some .local:=k1
      rw [f2] at this
      cases this
    . exact .inr ⟨.inl f3,c,f4 c hc,o,old c o hco,hcd⟩
 cell:=fun y c e=>by
  obtain ⟨v,o,h1,h2⟩:=I.cell y c (O.cls y c e)
  exact ⟨v,o,old c o h1,h2⟩
 free:=I.hok.fresh hC
 freeC:=fun y c e=>I.freeC y c (O.cls y c e)
 pin:=fun p hp=>by
  have hp':p ∈ X.pn ++ pins:=by simpa using hp
  obtain ⟨h1,h2,h3,h4,h5⟩:=I.pin p hp'
  refine ⟨old _ _ h1,h2,Nat.ne_of_lt (Nat.lt_of_lt_of_le (Heap.lt_size h1) hC),fun z=>?_,h5⟩
  rcases Zs.mp (I.stkSub p.1 z) with e | e
  . exact h3 e
  . exact h4 e
 hok:=I.hok.kept old
 len:=by
  show (List.replicate T.length none ++ cA js σ).length = N.length
  rw [O.len]
  simp [cA]
theorem qz {K:PySem.W.Frag} {H:Hp} {σ:L2.St} {δ:DS} (R:RepS K H σ δ) (n:Nat) (js:List Nat):RepS K H (List.replicate n none ++ cA js σ) (fR n (cg js δ)):=by
 refine ⟨by simp [cA,cg,fR],fun i d q=>?_⟩
 unfold fR at q
 by_cases hi:i < n
 . rw [List.getElem?_append_left (by simpa using hi),List.getElem?_replicate,if_pos hi] at q
   cases q
 . obtain ⟨k,rfl⟩:∃ k,i = n + k:=⟨i - n,by omega⟩
   rw [List.getElem?_append_right (by simp)] at q ⊢
   have q':(none :: cg js δ)[k + 1]? = some (some d):=by simpa using q
   obtain ⟨v,h1,h2⟩:=(jw R js).val (k + 1) d q'
   exact ⟨v,by simpa using h1,h2⟩
theorem j2 {elt tg iter:Expr} {ifs:List Expr} {pos:Pos} {it:Addr} {tn:Nat->Heap->Prop} {J:It} {ds xs:List D} {δ:DS} {g:D->DS->Option DS} {fc:FT} {felt:FM} {RR:Value->Addr->Result->Shared->Prop} {E:Value->Shared->Prop} (I:L2.Inv X pins σ H₂ s₂) (hcm:X.calm = true) (O:CompG X scope cl T N js)
 (TT:mI X.prog X.w X.K tg J fp it tn) (st:tn 0 s₂.heap) (hf:∀ b ∈ fp,gj X pins H₂ b) (itd:ItD X.K J H₂ ds) (R:RepS X.K H₂ σ δ) (hg:∀ C s₂ H₂ fp pn,PGD (cv X scope cl T N C s₂ H₂ fp pn) tg g) (fl:qo T.length g) (hc:∀ C s₂ H₂ fp pn,wP (cv X scope cl T N C s₂ H₂ fp pn) ifs fc) (he:∀ C s₂ H₂ fp pn,PV (cv X scope cl T N C s₂ H₂ fp pn) elt felt)
 (hm:eL (df T.length js g fc felt δ) ds = some xs) (hz:xs.length <= 1000)
 (hRR:∀ (D C:Addr) (s':Shared) (Hend:Hp) (vs:List V),s₂.heap.objs.size <= C->L2.Inv X pins σ Hend s'->Same H₂ Hend->Hend D = some (.lst vs)->(∃ Acc,RepOs X.K H₂ Hend vs xs Acc/\Acc.Nodup/\D ∉ Acc/\H₂ D = none)->(∃ m,s'.heap.Ns C m)->Hend C = none->RR (.ref D) C (.ok .next) s') :
 wpAny (model X.prog X.w) X.A (newList []) (fun acc s₃=>wpAny (model X.prog X.w) X.A (newFunctionEnv scope X.env.globals cl [] X.env.qual none .none (some X.env)) (fun cenv s₄ =>
  codeAny (model X.prog X.w) X.A (.compStart (.ListComp elt [⟨tg,iter,ifs,0⟩] scope pos) 0 (.ref it) acc { cenv with scope:=relabel scope X.env }) (RR acc cenv.locals) s₄) E s₃) E s₂:=by
 have objs:=TT.obj 0 s₂.heap st
 have objs':∀ b ∈ fp,∃ o,s₂.heap.get? b = some o:=fun b hb=>let ⟨o,h,_⟩:=objs b hb;⟨o,h⟩
 refine wpAny_newObj_type (wpAny_newFunctionEnv O.nocell (by intro y hy;simp at hy) (fun h₁ hns₁ hsb₁=>?_) O.kind)
 dsimp only at hns₁ hsb₁ ⊢
 generalize hP:s₂.heap.push { cls:=.type "list",dict:=none,data:=.seq ([]:List Value).toArray } = P2 at hns₁ hsb₁ ⊢
 have hC:P2.objs.size = s₂.heap.objs.size + 1:=by rw [<- hP,Heap.size_push]
 generalize hCC:P2.objs.size = C at *
 have hCle:s₂.heap.objs.size <= C:=by omega
 have hDle:s₂.heap.objs.size <= s₂.heap.objs.size:=by omega
 have hDC:s₂.heap.objs.size ≠ C:=by omega
 have old:∀ b o,s₂.heap.get? b = some o->h₁.get? b = some o:=fun b o e=>by
  refine hsb₁.extBut b o (Nat.ne_of_lt (Nat.lt_of_lt_of_le (Heap.lt_size e) hCle)) (Heap.get?_push_of_some _ ?_)
  rw [<- hP]
  exact Heap.get?_push_of_some _ e
 have hacc:h₁.get? s₂.heap.objs.size = some { cls:=.type "list",data:=.seq ([]:List Value).toArray }:=by
  refine hsb₁.extBut s₂.heap.objs.size _ hDC (Heap.get?_push_of_some _ ?_)
  rw [<- hP]
  exact Heap.get?_push_size _ rfl
 have I0:=fun tk=>qc (C:=C) (tk:=tk) I hcm O hCle hf objs' old hns₁ I.len
 have dstk:s₂.heap.objs.size ∉ frs X.stack:=fK I hDle
 have fne:∀ b ∈ fp,b ≠ s₂.heap.objs.size:=fun b hb e=>by
  obtain ⟨o,h⟩:=objs' b hb
  exact absurd (Heap.lt_size h) (by rw [e];exact Nat.lt_irrefl _)
 have cne:∀ y c,cl.lookup y = some c->c ≠ s₂.heap.objs.size:=fun y c e z=>by
  obtain ⟨v,o,h1,_⟩:=I.cell y c (O.cls y c e)
  exact absurd (Heap.lt_size h1) (by rw [z];exact Nat.lt_irrefl _)
 have pne:∀ p ∈ X.pn ++ pins,p.1 ≠ s₂.heap.objs.size:=fun p hp e=>by
  exact absurd (Heap.lt_size (I.pin p hp).1) (by rw [e];exact Nat.lt_irrefl _)
 have stat:∀ {H':Hp} {pl:List (Addr × Obj)},(∀ b ∈ fp,H' b = none)->(∀ p ∈ pl,∀ b ∈ fp,p.1 ≠ b)->∀ b ∈ fp,gj (cv X scope cl T N C s₂ H₂ fp (X.pn ++ pins)) pl H' b:=fun {H' pl} hn hpl b hb=>by
  obtain ⟨o,h⟩:=objs' b hb
  refine ⟨hn b hb,Nat.ne_of_lt (Nat.lt_of_lt_of_le (Heap.lt_size h) hCle),fun z=>?_,.inl hb,fun y c e=>(hf b hb).2.2.2.2.1 y c (O.cls y c e),fun p hp=>?_⟩
  . rcases Zs.mp (I.stkSub b z) with e | e
    . exact (hf b hb).2.1 e
    . exact (hf b hb).2.2.1 e
  . rcases Zr.mp hp with q | q
    . exact (hf b hb).2.2.2.2.2 p q
    . exact hpl p q b hb
 have loop:∀ s₃:Shared,s₃ = { s₂ with heap:=h₁,toks:=s₂.toks + ([]:List (Str × Value)).length } ->
  codeAny (model X.prog X.w) X.A (.compLoop (.ListComp elt [⟨tg,iter,ifs,0⟩] scope pos) 0 (.ref it) (.ref s₂.heap.objs.size) (compEnvC scope cl C X.env)) (RR (.ref s₂.heap.objs.size) C) s₃:=by
  rintro s₃ rfl
  refine lW (fun n s=>∃ (i:Nat) (σ':L2.St) (H':Hp) (vs:List V) (ys:List D),n = ds.length - i/\i <= ds.length/\L2.Inv (cv X scope cl T N C s₂ H₂ fp (X.pn ++ pins)) [] σ' H' s/\Same H₂ H'/\RepS X.K H' σ' (fR T.length (cg js δ))/\tn i s.heap/\(∀ b ∈ fp,H' b = none) /\
   (∃ (its:List Value) (k:Nat),Vals vs its/\s.heap.get? s₂.heap.objs.size = some { cls:=.type "list",data:=.seq its.toArray k })/\H' s₂.heap.objs.size = none/\(∃ Acc,RepOs X.K H₂ H' vs ys Acc/\Acc.Nodup)/\eL (df T.length js g fc felt δ) (ds.take i) = some ys/\ys.length <= 1000) ?_ ds.length
   ⟨0,_,H₂,[],[],rfl,Nat.zero_le _,I0 _,Same.refl _,qz R _ js,TT.keep 0 _ _ st (fun b hb o e=>old b o e),fun b hb=>(hf b hb).1,⟨[],0,.nil,hacc⟩,I.hok.fresh hDle,⟨[],.nil,Zw⟩,rfl,Nat.zero_le _⟩
  rintro n s ⟨i,σ',H',vs,ys,rfl,hi,I',sm,R',st',fr',⟨its,k,rv,hD⟩,fD,⟨Acc,rr,nda⟩,hys,hyl⟩
  by_cases hlt:i < ds.length
  . -- one more
    obtain ⟨go,yl⟩:=(itd i H' sm).1 hlt
    have hd0:ds[i]? = some ds[i]:=by simp [hlt]
    obtain ⟨oe,ge⟩:=sY hm i _ hd0
    have hys1:eL (df T.length js g fc felt δ) (ds.take (i + 1)) = some (ys ++ oe.toList):=by
     have e8:ds.take (i + 1) = ds.take i ++ [ds[i]]:=by rw [List.take_add_one,hd0];rfl
     rw [e8]
     refine pJ hys ?_
     show ((df T.length js g fc felt δ ds[i]).bind _) = _
     rw [ge]
     simp [eL]
    have hyl1:(ys ++ oe.toList).length <= 1000:=by
     obtain ⟨zs,ez,l⟩:=mY hm (i + 1)
     rw [hys1] at ez
     cases ez
     omega
    unfold df at ge
    obtain ⟨δ1,eδ1,ge⟩:=Za.mp ge
    obtain ⟨ok,eok,ge⟩:=Za.mp ge
    have kp:=fl _ _ _ eδ1
    have I1:L2.Inv (cv X scope cl T N C s₂ H₂ fp (X.pn ++ pins)) [(s₂.heap.objs.size,{ cls:=.type "list",data:=.seq its.toArray k })] σ' H' s:=I'.pins_of fun p hp=>by
     have:p = (s₂.heap.objs.size,{ cls:=.type "list",data:=.seq its.toArray k }):=by simpa using hp
     subst this
     exact ⟨hD,fD,hDC,dstk,fun v z=>by cases z⟩
    refine thn (TT.item (cv X scope cl T N C s₂ H₂ fp (X.pn ++ pins)) rfl rfl rfl rfl i _ s σ' H' (fun _ _=>False) I1 (stat fr' fun p hp b hb=>by
     have:p = (s₂.heap.objs.size,{ cls:=.type "list",data:=.seq its.toArray k }):=by simpa using hp
     subst this
     exact (fne b hb).symm) st' go) fun r s1 ⟨u,hr,h4⟩=>?_
    subst hr
    refine thn h4 fun _ s2 ⟨y,H'',I2,ru,yy,st2,fr2⟩=>?_
    obtain ⟨s3,d,hd,rd⟩:=yl y H'' yy
    have hd':d = ds[i]:=by rw [hd0] at hd;exact (Option.some.inj hd).symm
    subst hd'
    have I3:=I2.pinned (stat fr2 fun p hp b hb=>by
     have:p = (s₂.heap.objs.size,{ cls:=.type "list",data:=.seq its.toArray k }):=by simpa using hp
     subst this
     exact (fne b hb).symm) (TT.obj _ _ st2)
    refine thn (hg C s₂ H₂ fp (X.pn ++ pins) _ s2 σ' H'' y u (fun σ4 H4=>RepS X.K H4 σ4 δ1/\H4 = H'') I3 ru ⟨_,_,δ1,rd,R'.mono s3,eδ1,fun σ4 r4=>⟨r4,rfl⟩⟩) fun _ s4 ⟨σ4,H4,I4,R4,e2⟩=>?_
    subst e2
    refine thn (hc C s₂ H₂ fp (X.pn ++ pins) _ s4 σ4 H4 (fun b H5=>b = ok/\Same H4 H5) I4 ⟨δ1,ok,R4,eok,fun H5 s5=>⟨rfl,s5⟩⟩) fun okv sT ⟨HT,IT,hok',sT4⟩=>?_
    have hDT:sT.heap.get? s₂.heap.objs.size = some { cls:=.type "list",data:=.seq its.toArray k }:=(IT.pin (s₂.heap.objs.size,{ cls:=.type "list",data:=.seq its.toArray k }) (by simp)).1
    have fDT:HT s₂.heap.objs.size = none:=(IT.pin (s₂.heap.objs.size,{ cls:=.type "list",data:=.seq its.toArray k }) (by simp)).2.1
    have RT:RepS X.K HT σ4 δ1:=R4.mono sT4
    have lz:its.length <= 1000:=by
     have:=rv.length
     have:=rr.len
     omega
    cases ok with
    | false =>
     cases ge
     rw [hok',if_neg (by decide)]
     have pf:∀ b ∈ fp,∀ ob,s2.heap.get? b = some ob->sT.heap.get? b = some ob/\HT b = none:=fun b hb ob hob=>by
      have:=IT.pin (b,ob) (List.mem_append_right _ (List.mem_append_right _ (de hb hob)))
      exact ⟨this.1,this.2.1⟩
     simp only [Option.toList_none,Zk] at hys1
     refine ⟨ds.length - (i + 1),by omega,i + 1,σ4,HT,vs,ys,rfl,hlt,IT.pins_of (pins':=[]) (fun p hp=>by simp at hp),(sm.trans s3).trans sT4,RT.weak kp,?_,?_,⟨its,k,rv,hDT⟩,fDT,?_,hys1,hyl⟩
     . refine TT.keep _ _ _ st2 fun b hb ob hob=>(pf b hb ob hob).1
     . intro b hb
       obtain ⟨ob,hob,_⟩:=TT.obj _ _ st2 b hb
       exact (pf b hb ob hob).2
     . refine ⟨Acc,rr.frame (bJ (s3.trans sT4)) (fun a m=>?_),nda⟩
       obtain ⟨⟨ws,e⟩,_⟩:=rr.dom a m
       rw [e];exact (s3.trans sT4) a _ e
    | true =>
     rw [hok',if_pos rfl]
     obtain ⟨e,ge2,eo⟩:=Zb.mp (show (ownOf felt (shO δ1)).map some = some oe from ge)
     subst eo
     refine thn (he C s₂ H₂ fp (X.pn ++ pins) _ sT σ4 HT (fun v H5=>Same HT H5/\∃ A,RepO X.K H₂ H5 v e A/\A.Nodup/\∀ a ∈ A,HT a = none) IT (x9 ge2 RT ((sm.trans s3).trans sT4))) fun wv s5 ⟨v,H5,I5,rw5,s45,A5,r5,nd5,fr5⟩=>?_
     have hD5:s5.heap.get? s₂.heap.objs.size = some { cls:=.type "list",data:=.seq its.toArray k }:=(I5.pin (s₂.heap.objs.size,{ cls:=.type "list",data:=.seq its.toArray k }) (by simp)).1
     have fD5:H5 s₂.heap.objs.size = none:=(I5.pin (s₂.heap.objs.size,{ cls:=.type "list",data:=.seq its.toArray k }) (by simp)).2.1
     have pf:∀ b ∈ fp,∀ ob,s2.heap.get? b = some ob->s5.heap.get? b = some ob/\H5 b = none:=fun b hb ob hob=>by
      have:=I5.pin (b,ob) (List.mem_append_right _ (List.mem_append_right _ (de hb hob)))
      exact ⟨this.1,this.2.1⟩
     refine call_meets F.slot_list_append ⟨_,hD5,rfl⟩ F.entry_list_append (F.args_list_append_2 _ _) (PySem.list_append s₂.heap.objs.size its.toArray k wv (by rw [List.size_toArray];exact cq lz)) ⟨hD5,?_⟩
     have q:=PySem.IsL.update hD5 (fun a=>a.push wv)
     have I6:L2.Inv (cv X scope cl T N C s₂ H₂ fp (X.pn ++ pins)) [] σ4 H5 { s5 with heap:=s5.heap.update s₂.heap.objs.size (Obj.mapSeq fun a=>a.push wv),toks:=s5.toks } :=
      (I5.pins_of (pins':=[]) fun p hp=>by simp at hp).turned (it:=s₂.heap.objs.size) (t':=s5.toks) (fun b ob hb hu=>(Heap.get?_update_other s5.heap _ (Ne.symm hb)).trans hu) fD5 hDC (.inr hDle) cne (fun p hp=>by
       rcases Zr.mp hp with z | z
       . exact pne p z
       . simp at z)
     refine ⟨ds.length - (i + 1),by omega,i + 1,σ4,H5,vs ++ [v],ys ++ [e],rfl,hlt,I6,((sm.trans s3).trans sT4).trans s45,(RT.mono s45).weak kp,?_,?_,?_,fD5,?_,hys1,hyl1⟩
     . refine TT.keep _ _ _ st2 fun b hb ob hob=>?_
       exact (Heap.get?_update_other s5.heap _ (Ne.symm (fne b hb))).trans (pf b hb ob hob).1
     . intro b hb
       obtain ⟨ob,hob,_⟩:=TT.obj _ _ st2 b hb
       exact (pf b hb ob hob).2
     . have hf7:its.toArray.push wv = (its ++ [wv]).toArray:=by simp
       rw [hf7] at q
       exact ⟨its ++ [wv],_,rv.append (.cons rw5 .nil),q⟩
     . exact ub rr nda ((s3.trans sT4).trans s45) r5 nd5 fun a m=>cN (s3.trans sT4) (fr5 a m)
  . -- the end
    have hie:i = ds.length:=by omega
    refine thn (TT.done (cv X scope cl T N C s₂ H₂ fp (X.pn ++ pins)) rfl rfl rfl rfl i [(s₂.heap.objs.size,{ cls:=.type "list",data:=.seq its.toArray k })] s σ' H' (fun _ _=>False) (I'.pins_of fun p hp=>by
     have:p = (s₂.heap.objs.size,{ cls:=.type "list",data:=.seq its.toArray k }):=by simpa using hp
     subst this
     exact ⟨hD,fD,hDC,dstk,fun v z=>by cases z⟩) (stat fr' fun p hp b hb=>by
     have:p = (s₂.heap.objs.size,{ cls:=.type "list",data:=.seq its.toArray k }):=by simpa using hp
     subst this
     exact (fne b hb).symm) st' ((itd i H' sm).2 (by omega))) fun r s1 ⟨hr,I8⟩=>?_
    subst hr
    have hD8:s1.heap.get? s₂.heap.objs.size = some { cls:=.type "list",data:=.seq its.toArray k }:=(I8.pin (s₂.heap.objs.size,{ cls:=.type "list",data:=.seq its.toArray k }) (by simp)).1
    have hxs:ds.take i = ds:=List.take_of_length_le (by omega)
    rw [hxs,hm] at hys
    cases hys
    have sn:=bB fD (.lst vs)
    have dn:∀ b,∀ u,H' b = some u->b ≠ s₂.heap.objs.size:=fun b u z=>bg z fD
    have un:Un (frs X.stack) fp H₂ (upd H' s₂.heap.objs.size (.lst vs)) s₂.heap s1.heap:=by
     have b0:=I8.base
     refine ⟨fun b ob e n1 n2 n3=>b0.keep b ob e n1 n2 n3,fun b ob e n1 n2 n3=>b0.slot b ob e n1 n2 n3,fun b ob e n1 n3=>?_,fun b ob e n3=>b0.there b ob e n3,fun b zs e=>?_,fun b ob u e=>?_,fun b ps e=>?_⟩
     . rw [aC (Nat.ne_of_lt (Heap.lt_size e))]
       exact b0.free b ob e n1 n3
     . have z:=b0.tups b zs e
       rw [aC (dn _ _ z)]
       exact z
     . have z:=b0.frzs b ob u e
       rw [aC (dn _ _ z)]
       exact z
     . obtain ⟨more,z⟩:=b0.tbls b ps e
       exact ⟨more,by rw [aC (dn _ _ z)];exact z⟩
    have hok:HOk X.prog X.w (upd H' s₂.heap.objs.size (.lst vs)) s1.heap:=fun b u z=>by
     by_cases hb:b = s₂.heap.objs.size
     . rw [hb] at z ⊢
       rw [aX] at z
       cases z
       exact ⟨cq (by have:=rr.len;omega),its,k,rv,hD8⟩
     . rw [aC hb] at z
       exact (I8.hok b u z).stay (fun _ _ _ q=>q) (fun c q=>by rw [aC (dn _ _ q)];exact q) fun c ys q=>by rw [aC (dn _ _ q)];exact q
    have IX:L2.Inv X pins σ (upd H' s₂.heap.objs.size (.lst vs)) s1:=I.call' I8.os un hok I8.bare fun b hb=>⟨(hf b hb).2.2.2.1,(hf b hb).2.1,(hf b hb).2.2.2.2.1,(hf b hb).2.2.2.2.2⟩
    obtain ⟨m8,hn8,_⟩:=I8.loc
    refine hRR s₂.heap.objs.size C s1 _ vs hCle IX (sm.trans sn) aX ⟨Acc,rr.frame (bJ sn) (fun a m=>by
     obtain ⟨⟨ws,e⟩,_⟩:=rr.dom a m
     rw [e];exact sn a _ e),nda,fun m=>(by
     obtain ⟨⟨ws,e⟩,_⟩:=rr.dom _ m
     rw [fD] at e;cases e),I.hok.fresh hDle⟩ ⟨m8,hn8⟩ ?_
    rw [aC (Ne.symm hDC)]
    exact I8.free
 exact codeAny_compStart_list (loop _ rfl) (TT.self X.A 0 _ _ _ (TT.keep 0 _ _ st (fun b hb o e=>old b o e)) (loop _ rfl))
theorem iq {n:Nat} {js:List Nat} {g:D->DS->Option DS} {fc:FT} {f:FM} {δ:DS}:∀ {ds xs:List D},eL (df n js g fc f δ) ds = some xs->iA xs = true
 | [],xs,h=>by cases h;rfl
 | d :: ds,xs,h=>by
  obtain ⟨o,eo,h⟩:=Za.mp (show ((df n js g fc f δ d).bind _) = some xs from h)
  obtain ⟨ys,ey,h⟩:=Za.mp h
  cases h
  unfold df at eo
  obtain ⟨δ1,_,eo⟩:=Za.mp eo
  obtain ⟨b,_,eo⟩:=Za.mp eo
  cases b with
  | false=>cases eo;exact iq ey
  | true =>
   obtain ⟨e,ge,eo⟩:=Zb.mp (show (ownOf f (shO δ1)).map some = some o from eo)
   subst eo
   show (own e && iA ys) = true
   rw [iq ey,Bool.and_true]
   unfold ownOf at ge
   obtain ⟨p,_,ge⟩:=Za.mp ge
   split at ge
   . rename_i ho;cases ge;exact ho
   . cases ge
theorem dB {elt tg iter:Expr} {ifs:List Expr} {pos:Pos} {src:FA} {g:D->DS->Option DS} {fc:FT} {felt:FM} (hi:PID X tg iter src) {T N:List Str} {js:List Nat} (hg:∀ C s₂ H₂ fp pn,PGD (cv X scope cl T N C s₂ H₂ fp pn) tg g) (fl:qo T.length g) (hc:∀ C s₂ H₂ fp pn,wP (cv X scope cl T N C s₂ H₂ fp pn) ifs fc) (he:∀ C s₂ H₂ fp pn,PV (cv X scope cl T N C s₂ H₂ fp pn) elt felt) (O:CompG X scope cl T N js) (hcm:X.calm = true:=by rfl)
 (hs:∀ v,foldedSetIterable iter X.env v = pure v:=by intro _;rfl):PV X (.ListComp elt [⟨tg,iter,ifs,0⟩] scope pos) (gP src T.length js g fc felt):=by
 intro pins s σ H Q I ⟨F,δ,As,d,δ',RA,q,k⟩
 have R:=RA.toS
 unfold gP at q
 obtain ⟨ds,eds,q⟩:=Za.mp q
 obtain ⟨xs,exs,q⟩:=Za.mp q
 by_cases hz:xs.length <= 1000
 . rw [if_pos hz] at q
   cases q
   rw [eval_ListComp]
   refine wpAny_comprehension_free (use:=none) rfl hs O.clos O.kind O.names ?_
   refine wpAny_mono (hi pins s σ H (fun J H1=>Same H H1/\ItD X.K J H1 ds) I ⟨δ,ds,R,eds,fun J H1 s1 itd=>⟨s1,itd⟩⟩) (fun v s1 h1=>wpAny_mono h1 (fun itv s2 h2=>?_) fun _ _ z=>z) fun _ _ z=>z
   obtain ⟨it,fp,tn,J,H2,rfl,I2,TT,st,hf,s1,itd⟩:=h2
   refine j2 (RR:=fun acc C=>compPost (model X.prog X.w) X.A X.xe none (EP X pins σ Q) acc C) I2 hcm O TT st hf itd (R.mono s1) hg fl hc he exs hz ?_
   intro D C s' Hend vs hC IX sm hD rr ⟨m,hn⟩ fC
   exact ⟨m,hn,fun h' hs'=>⟨.ref D,Hend,ir IX I2 hC fC hs',rfl,tX RA k (iq exs) (s1.trans sm) s1 hD rr⟩⟩
 . rw [if_neg hz] at q;cases q
theorem vw (i:Nat) {y:Str} {elt tg iter:Expr} {ifs:List Expr} {py pos spos:Pos} {src:FA} {g:D->DS->Option DS} {fc:FT} {felt:FM} (hN:X.N.Nodup) (hi:PID X tg iter src) {T N:List Str} {js:List Nat} (hg:∀ C s₂ H₂ fp pn,PGD (cv X scope cl T N C s₂ H₂ fp pn) tg g) (fl:qo T.length g) (hc:∀ C s₂ H₂ fp pn,wP (cv X scope cl T N C s₂ H₂ fp pn) ifs fc) (he:∀ C s₂ H₂ fp pn,PV (cv X scope cl T N C s₂ H₂ fp pn) elt felt) (O:CompG X scope cl T N js)
 (hsw:swapsWith (.ListComp elt [⟨tg,iter,ifs,0⟩] scope pos) (some (.Name y py)) spos.line X.env = pure true:=by rfl) (hy:X.N[i]? = some y:=by rfl) (hl:Loc X.env.scope y:=by first | exact Or.inl rfl | exact Or.inr rfl) (hcm:X.calm = true:=by rfl)
 (hs:∀ v,foldedSetIterable iter X.env v = pure v:=by intro _;rfl) (hfn:X.fn y = true \/ X.env.scope.names.lookup y = some .local:=by first | exact .inl rfl | exact .inr rfl | assumption) :
 PMD X (.Assign [.Name y py] (.ListComp elt [⟨tg,iter,ifs,0⟩] scope pos) spos) (av i (gP src T.length js g fc felt)):=by
 intro pins s σ H D I ⟨F,δ,r,⟨As,RA⟩,q,k⟩
 have R:=RA.toS
 unfold av at q
 obtain ⟨⟨d,δ'⟩,ed,q⟩:=Za.mp q
 cases q
 unfold gP at ed
 obtain ⟨ds,eds,q⟩:=Za.mp ed
 obtain ⟨xs,exs,q⟩:=Za.mp q
 by_cases hz:xs.length <= 1000
 . rw [if_pos hz] at q
   cases q
   rw [exec_Assign_Name_used _ _ _ _ hsw]
   refine wpAny_bind (wpAny_standAt (wpAny_bind ?_))
   show wpAny _ X.A (do let _ <- comprehension (.ListComp elt [⟨tg,iter,ifs,0⟩] scope pos) scope X.env _ (newList []) false (eval iter X.env) (some (assign (.Name y py) X.env))) _ _ s
   refine wpAny_bind (wpAny_mono (wpAny_comprehension_free (use:=some (assign (.Name y py) X.env)) (Q:=fun _ s'=>SP X pins D .next s') rfl hs O.clos O.kind O.names ?_) (fun _ s' hq=>wpAny_pure (wpAny_pure hq)) fun _ _ z=>z)
   refine wpAny_mono (hi pins s σ H (fun J H1=>Same H H1/\ItD X.K J H1 ds) I ⟨δ,ds,R,eds,fun J H1 s1 itd=>⟨s1,itd⟩⟩) (fun v s1 h1=>wpAny_mono h1 (fun itv s2 h2=>?_) fun _ _ z=>z) fun _ _ z=>z
   obtain ⟨it,fp,tn,J,H2,rfl,I2,TT,st,hf,s1,itd⟩:=h2
   refine j2 (RR:=fun acc C=>compPost (model X.prog X.w) X.A X.xe (some (assign (.Name y py) X.env)) (fun _ s'=>SP X pins D .next s') acc C) I2 hcm O TT st hf itd (R.mono s1) hg fl hc he exs hz ?_
   intro DA C s' Hend vs hC IX sm hD rr ⟨m,hn⟩ fC
   show wpAny _ X.A (assign (.Name y py) X.env (.ref DA)) _ _ s'
   refine wpAny_assign_Name (mN (v:=.ref DA) IX hN hy hl rfl (fun s9 I9 ⟨a,hsb,ha⟩=>?_) hfn)
   have hCa:C ≠ a:=by
    rintro rfl
    rcases ha with z | z
    . exact absurd (Nat.lt_of_lt_of_le I2.lt (by rw [<- z];exact hC)) (Nat.lt_irrefl _)
    . obtain ⟨v,o,h1,_⟩:=I2.cell y _ z
      exact absurd (Nat.lt_of_lt_of_le (Heap.lt_size h1) hC) (Nat.lt_irrefl _)
   refine ⟨m,hn.at' fun o e=>(hsb.2 C hCa).trans e,fun h' hs'=>⟨_,Hend,?_,wy i RA k (iq exs) (s1.trans sm) s1 hD rr⟩⟩
   exact I9.turned (it:=C) (t':=s9.toks) (fun b o hb e=>(hs'.2 b hb).trans e) fC (Nat.ne_of_gt (Nat.lt_of_lt_of_le I2.lt hC)) (.inr (Nat.le_trans I2.sz hC))
    (fun y c e z=>by
     obtain ⟨v,o,h1,_⟩:=I2.cell y c e
     exact absurd (Nat.lt_of_lt_of_le (Heap.lt_size h1) (by rw [z];exact hC)) (Nat.lt_irrefl _))
    (fun p hp z=>absurd (Nat.lt_of_lt_of_le (Heap.lt_size (I2.pin p hp).1) (by rw [z];exact hC)) (Nat.lt_irrefl _))
 . rw [if_neg hz] at q;cases q
end
end Dl
namespace Dl
open PySem PySem.Spec PyProof.Rows L2
section
variable {X:Cx} {pins:List (Addr × Obj)} {σ:L2.St} {H:Hp} {s:Shared} {h':Heap}
theorem xV {t':Nat} {ch:List Addr} (I:L2.Inv X pins σ H s) (k:∀ b o,b ∉ ch->s.heap.get? b = some o->h'.get? b = some o) (hf:∀ b ∈ ch,gj X pins H b):L2.Inv X pins σ H { s with heap:=h',toks:=t' }:=by
 have nit:∀ b u,H b = some u->b ∉ ch:=fun b u e m=>by rw [(hf b m).1] at e;cases e
 refine I.step (g':=s.gens) (d':=s.drawn) (ch:=ch) (fun b hb=>⟨(hf b hb).2.2.2.1,(hf b hb).2.1,(hf b hb).2.2.2.2.1,(hf b hb).2.2.2.2.2⟩) (fun b o _ _ hc e _=>k b o hc e) (fun b o _ _ hc e _=>⟨o.slots,k b o hc e⟩) (fun _ _ _ _ n=>n)
  (fun b o hc e=>⟨o,k b o hc e⟩) (fun _ _ e=>e) (fun _ _ _ e=>e) (fun b ps e=>⟨#[],by rw [e];simp⟩) (fun m hm=>?_) (fun b u e=>?_) I.bare
 . obtain ⟨o,es,ep,ho,r⟩:=hm
   exact ⟨o,es,ep,k _ o (fun m=>(hf _ m).2.1 rfl) ho,r⟩
 . refine (I.hok b u e).stay (fun c v hc q=>k c v ?_ q) (fun _ q=>q) fun _ _ q=>q
   rcases hc with z | z
   . rw [z];exact nit b u e
   . exact nit c _ z
theorem xU {t':Nat} {ch:List Addr} {a:Addr} {xs:List V} (I:L2.Inv X pins σ H s) (k:∀ b o,b ∉ ch->s.heap.get? b = some o->h'.get? b = some o) (hf:∀ b ∈ ch,gj X pins H b) (ha:s.heap.objs.size <= a) (new:ObjOk X.prog X.w (upd H a (.tup xs)) h' a (.tup xs)):L2.Inv X pins σ (upd H a (.tup xs)) { s with heap:=h',toks:=t' }:=by
 have fa:H a = none:=I.hok.fresh ha
 have nit:∀ b u,H b = some u->b ∉ ch:=fun b u e m=>by rw [(hf b m).1] at e;cases e
 have na:∀ b u,H b = some u->b ≠ a:=fun b u e z=>by rw [z,fa] at e;cases e
 refine I.step (g':=s.gens) (d':=s.drawn) (ch:=ch) (fun b hb=>⟨(hf b hb).2.2.2.1,(hf b hb).2.1,(hf b hb).2.2.2.2.1,(hf b hb).2.2.2.2.2⟩) (fun b o _ _ hc e _=>k b o hc e) (fun b o _ _ hc e _=>⟨o.slots,k b o hc e⟩) (fun b o _ e n=>?_)
  (fun b o hc e=>⟨o,k b o hc e⟩) (fun b _ e=>by rw [aC (na b _ e)];exact e) (fun b _ _ e=>by rw [aC (na b _ e)];exact e) (fun b ps e=>⟨#[],by rw [aC (na b _ e),e];simp⟩) (fun m hm=>?_) (fun b u e=>?_) I.bare
 . rw [aC (Nat.ne_of_lt (Nat.lt_of_lt_of_le (Heap.lt_size e) ha))]
   exact n
 . obtain ⟨o,es,ep,ho,r⟩:=hm
   exact ⟨o,es,ep,k _ o (fun m=>(hf _ m).2.1 rfl) ho,r⟩
 . by_cases hb:b = a
   . subst hb
     rw [aX] at e
     cases e
     exact new
   . rw [aC hb] at e
     refine (I.hok b u e).stay (fun c v hc q=>k c v ?_ q) (fun c q=>by rw [aC (na c _ q)];exact q) fun c ys q=>by rw [aC (na c _ q)];exact q
     rcases hc with z | z
     . rw [z];exact nit b u e
     . exact nit c _ z
end
def Itz (K:PySem.W.Frag) (a b:Addr):It :=
 ⟨fun i H=>∃ xs ys x y,SqL K H a xs/\SqL K H b ys/\xs[i]? = some x/\ys[i]? = some y,fun i H v H'=>∃ p x y,v = .ref p/\H p = none/\H' = upd H p (.tup [x,y])/\(∀ xs,SqL K H a xs->xs[i]? = some x)/\∀ ys,SqL K H b ys->ys[i]? = some y,
  fun i H=>∃ xs ys,SqL K H a xs/\SqL K H b ys/\(xs.length <= i \/ ys.length <= i)⟩
def Bh (z TI TO i1 i2 l1 l2:Addr) (i:Nat) (h:Heap):Prop:=IsZip h z TI TO .none/\IsPair h TI (.ref i1) (.ref i2)/\(∃ a b,IsPair h TO a b)/\h.IsListIter i1 l1 i/\h.IsListIter i2 l2 i
theorem uZ {P:Program} {w:World} {K:PySem.W.Frag} {es:List Expr} {kt:Nat} {pt:Pos} {z TI TO i1 i2 l1 l2:Addr} (D:ZipApart z TI TO i1 i2 l1 l2):mI P w K (.Tuple es kt pt) (Itz K l1 l2) [z,TI,TO,i1,i2] z (Bh z TI TO i1 i2 l1 l2) where
 mem:=by simp
 obj:=fun i h st b hb=>by
  obtain ⟨hz,hTI,⟨a,b',hTO⟩,⟨o1,e1,_,d1⟩,⟨o2,e2,_,d2⟩⟩:=st
  simp only [Zs,List.not_mem_nil,or_false] at hb
  rcases hb with rfl | rfl | rfl | rfl | rfl
  . exact ⟨_,hz,fun v q=>by cases q⟩
  . exact ⟨_,hTI,fun v q=>by cases q⟩
  . exact ⟨_,hTO,fun v q=>by cases q⟩
  . exact ⟨_,e1,fun v q=>by rw [d1] at q;cases q⟩
  . exact ⟨_,e2,fun v q=>by rw [d2] at q;cases q⟩
 keep:=fun i h h' st k=>by
  obtain ⟨hz,hTI,⟨a,b',hTO⟩,h1,h2⟩:=st
  exact ⟨k z (by simp) _ hz,k TI (by simp) _ hTI,⟨a,b',k TO (by simp) _ hTO⟩,h1.at fun o e=>k i1 (by simp) o e,h2.at fun o e=>k i2 (by simp) o e⟩
 item:=by
  intro X hP hw hK hc i pins s σ H E I hf st hg
  subst hP hw hK
  obtain ⟨xs,ys,x,y,hq1,hq2,hx,hy⟩:=hg
  obtain ⟨hz,hTI,⟨a,b',hTO⟩,h1,h2⟩:=st
  obtain ⟨its,rv,p,_⟩:=I.list hq1
  obtain ⟨jts,rw',p',_⟩:=I.list hq2
  obtain ⟨u,hu,ru⟩:=rv.get hx
  obtain ⟨v,hv,rv2⟩:=rw'.get hy
  refine wpAny_pyNext_zip_item D hz hTI hTO h1 h2 p.isList p'.isList (x:=u) (y:=v) (by simpa using hu) (by simpa using hv) fun h' hz' hTO' h1' h2' hT hsz hk=>?_
  have fT:H s.heap.objs.size = none:=I.hok.fresh (Nat.le_refl _)
  refine ⟨_,rfl,wpAny_letOwnedTupleGo_zip hz' fun h'' hz'' sb=>?_⟩
  have lt:∀ b ∈ [z,TI,TO,i1,i2],b < s.heap.objs.size:=fun b hb=>by
   obtain ⟨o1,e1,_⟩:=h1
   obtain ⟨o2,e2,_⟩:=h2
   simp only [Zs,List.not_mem_nil,or_false] at hb
   rcases hb with rfl | rfl | rfl | rfl | rfl
   . exact Heap.lt_size hz
   . exact Heap.lt_size hTI
   . exact Heap.lt_size hTO
   . exact Heap.lt_size e1
   . exact Heap.lt_size e2
  have zne:s.heap.objs.size ≠ z:=Nat.ne_of_gt (lt z (by simp))
  have up:∀ b o,b ≠ z->h'.get? b = some o->h''.get? b = some o:=fun b o hb e=>(sb.2 b hb).trans e
  have kk:∀ b o,b ∉ [z,TI,TO,i1,i2]->s.heap.get? b = some o->h''.get? b = some o:=fun b o hb e=>by
   simp only [Zs,List.not_mem_nil,or_false,not_or] at hb
   exact up b o hb.1 (hk b o hb.1 hb.2.2.1 hb.2.2.2.1 hb.2.2.2.2 e)
  have hT2:h''.get? s.heap.objs.size = some { cls:=.type "tuple",data:=.seq #[u,v] }:=up _ _ zne hT
  refine ⟨.ref s.heap.objs.size,upd H s.heap.objs.size (.tup [x,y]),xU (s:=s) (h':=h'') (t':=s.toks) I kk hf (Nat.le_refl _) ⟨by show 2 <= sizeLine;decide,[u,v],.cons ru (.cons rv2 .nil),⟨_,hT2,rfl,_,rfl⟩⟩,rfl,⟨_,x,y,rfl,fT,rfl,fun zs q=>by rw [I.list_inj q hq1];exact hx,fun zs q=>by rw [I.list_inj q hq2];exact hy⟩,⟨hz'',?_,⟨u,v,up _ _ D.TOz hTO'⟩,h1'.at fun o e=>up _ o D.i1z e,h2'.at fun o e=>up _ o D.i2z e⟩,fun b hb=>?_⟩
  . exact up _ _ D.TIz (hk TI _ D.TIz D.TITO D.TIi1 D.TIi2 hTI)
  . rw [aC (Nat.ne_of_lt (lt b hb))]
    exact (hf b hb).1
 done:=by
  intro X hP hw hK hc i pins s σ H E I hf st hg
  subst hP hw hK
  obtain ⟨xs,ys,hq1,hq2,hl⟩:=hg
  obtain ⟨hz,hTI,⟨a,b',hTO⟩,h1,h2⟩:=st
  obtain ⟨its,rv,p,_⟩:=I.list hq1
  obtain ⟨jts,rw',p',_⟩:=I.list hq2
  have l1:=rv.length
  have l2:=rw'.length
  refine wpAny_pyNext_zip_end (I.ok.hd hc) D hz hTI hTO h1 h2 p.isList p'.isList (by
   rcases hl with h | h
   . exact .inl (by simp;omega)
   . exact .inr (by simp;omega)) fun h' hk=>⟨rfl,xV (t':=s.toks) I (fun b o hb e=>?_) hf⟩
  simp only [Zs,List.not_mem_nil,or_false,not_or] at hb
  exact hk b o hb.1 hb.2.2.1 hb.2.2.2.1 hb.2.2.2.2 e
 self:=fun _ _ _ _ _ st h=>wpAny_pyIter_zip st.1 h
theorem zQ {K:PySem.W.Frag} {H1:Hp} {a b:Addr} {vs ws:List V} {ds es:List D} (hq:SqL K H1 a vs) (r:Reps K H1 vs ds) (hq':SqL K H1 b ws) (r':Reps K H1 ws es):ItD K (Itz K a b) H1 (List.zipWith (fun d e=>D.tup [d,e]) ds es):=by
 intro i H2 s
 have h1:=s.seq hq
 have h2:=s.seq hq'
 have l1:=r.length
 have l2:=r'.length
 rw [List.length_zipWith]
 refine ⟨fun hi=>⟨⟨vs,ws,vs[i]'(by omega),ws[i]'(by omega),h1,h2,by simp [show i < vs.length by omega],by simp [show i < ws.length by omega]⟩,fun x H' y=>?_⟩,fun hi=>⟨vs,ws,h1,h2,by omega⟩⟩
 obtain ⟨p,u,v,rfl,hp,rfl,yu,yv⟩:=y
 obtain ⟨d,hd,rd⟩:=r.getV (yu vs h1)
 obtain ⟨e,he,re⟩:=r'.getV (yv ws h2)
 have sn:=bB hp (.tup [u,v])
 refine ⟨sn,.tup [d,e],?_,.tup (SqT.of aX) (.cons ((rd.mono s).mono sn) (.cons ((re.mono s).mono sn) .nil))⟩
 rw [List.getElem?_zipWith,hd,he]
theorem ua {K:PySem.W.Frag} {H:Hp} {v:V} {d:D} {ds:List D} (r:Rep K H v d) (e:asL d = some ds):∃ a vs,v = .ref a/\SqL K H a vs/\Reps K H vs ds:=by
 cases r with
 | @lst p vs es hp rp=>cases e;exact ⟨p,vs,rfl,SqL.of hp,rp⟩
 | @seq p vs es hp rp=>cases e;exact ⟨p,vs,rfl,hp,rp⟩
 | _=>cases e
end Dl
namespace Dl
open PySem PySem.Spec PyProof.Rows L2
section
variable {X:Cx} {Z:L2.St->Prop} {st:Stmt} {rest:List Stmt} {s u:SD} {e:Expr} {fk fl:FD} {fm:FM} {c:FT} {pos:Pos}
end
section
variable {P:Program} {w:World} {K:PySem.W.Frag} {mg:Str->Option Value} {base:Heap}
end
noncomputable def g7 (H:Hp) (A:List Addr):Hp:=fun a=>if a ∈ A then none else H a
theorem tZ {H:Hp} {A:List Addr}:Same (g7 H A) H:=fun a u e=>by
 unfold g7 at e
 split at e
 . cases e
 . exact e
theorem qi {H:Hp} {A:List Addr} {a:Addr} (m:a ∈ A):g7 H A a = none:=if_pos m
theorem gF {H:Hp} {A:List Addr} {a:Addr} (m:a ∉ A):g7 H A a = H a:=if_neg m
end Dl
namespace Dl
open PySem PySem.Spec PyProof.Rows L2
theorem hX:∀ {ns:List Int} {us:List Value},Vals (ns.map V.int) us->PyProof.Rows.IntsAre us ns
 | [],_,.nil=>.nil
 | n :: ns,_,.cons r t=>by
  obtain ⟨tk,rfl⟩:=r
  exact .cons n tk (hX t)
section
variable {X:Cx}
end
section
variable {K:PySem.W.Frag} {F H:Hp} {σ:L2.St} {δ:DS} {As:Nat->List Addr} {i:Nat} {x:D} {ds:List D}
end
section
variable {X:Cx} {pos:Pos} {c:Expr} {f:FD}
end
end Dl
namespace Dl
open PySem PySem.Spec PyProof.Rows L2
noncomputable def fnM (S:List D->D × D->Prop) (ds:List D):Option (D × D):=by
 classical exact if h:(∃ d,S ds d)/\∀ d e,S ds d->S ds e->d = e then some h.1.choose else none
theorem ou {S:List D->D × D->Prop} {ds:List D} {p:D × D} (u:∀ q,S ds q->q = p) (h:S ds p):fnM S ds = some p:=by
 unfold fnM
 rw [dif_pos ⟨⟨p,h⟩,fun d e a b=>(u d a).trans (u e b).symm⟩]
 exact congrArg some (u _ (Exists.choose_spec (⟨p,h⟩:∃ d,S ds d)))
theorem kB {S:List D->D × D->Prop} {ds:List D} {p:D × D} (h:fnM S ds = some p):S ds p:=by
 unfold fnM at h
 split at h
 . rename_i g
   cases h
   exact g.1.choose_spec
 . cases h
end Dl
namespace Dl
open PySem PySem.Spec PyProof.Rows L2
def lk (ks:List Int) (ds:List D) (k:Int):Option D:=((ks.zip ds).find? fun p=>decide (p.1 = k)).map (·.2)
section
variable {X:Cx} {a b:Expr} {fa fb:FD} {pos:Pos}
end
section
variable {K:PySem.W.Frag} {F H:Hp} {σ:L2.St} {δ:DS} {As:Nat->List Addr}
end
section
variable {X:Cx} {e ei:Expr} {fk:FD} {fm:FM} {pos p1 p2 p3 p4:Pos}
end
section
variable {K:PySem.W.Frag} {F H:Hp} {σ:L2.St} {δ:DS} {As:Nat->List Addr}
end
section
variable {X:Cx} {e ek ev:Expr} {g:FA} {fk fv:FD} {pos p:Pos}
end
end Dl
namespace Dl
open PySem PySem.Spec PyProof.Rows L2
end Dl
namespace Dl
open PySem PySem.Spec PyProof.Rows L2
section
variable {X:Cx} {pins:List (Addr × Obj)} {σ:L2.St} {H:Hp} {s:Shared} {a:Addr} {u u':HO}
end
end Dl
namespace Dl
open PySem PySem.Spec PyProof.Rows L2
end Dl
namespace Dl
open PySem PySem.Spec PyProof.Rows L2
section
variable {P:Program} {w:World} {K:PySem.W.Frag} {mg:Str->Option Value} {base:Heap}
end
end Dl
namespace Dl
open PySem PySem.Spec PyProof.Rows L2
section
variable {P:Program} {w:World} {K:PySem.W.Frag} {mg:Str->Option Value} {base:Heap}
end
end Dl
namespace Dl
open PySem PySem.Spec PyProof.Rows L2
def fIf (c:FT) (a b:FD):FD:=fun δ=>(c δ).bind fun t=>if t then a δ else b δ
theorem qJ {X:Cx} {c a b:Expr} {fc:FT} {fa fb:FD} {pos:Pos} (hc:PTD X c fc) (ha:PD X a fa) (hb:PD X b fb):PD X (.IfExp c a b pos) (fIf fc fa fb):=imp (vB hc ha hb) fun σ H Q ⟨δ,d,R,q,k⟩=>by
 unfold fIf at q
 obtain ⟨t,et,q⟩:=Za.mp q
 refine ⟨δ,t,R,et,fun H' s1=>?_⟩
 cases t with
 | true=>rw [if_pos rfl] at q ⊢;exact ⟨δ,d,R.mono s1,q,fun v H2 s2 r=>k v H2 (s1.trans s2) r⟩
 | false=>rw [if_neg Bool.false_ne_true] at q ⊢;exact ⟨δ,d,R.mono s1,q,fun v H2 s2 r=>k v H2 (s1.trans s2) r⟩
section
variable {P:Program} {w:World} {K:PySem.W.Frag} {mg:Str->Option Value} {base:Heap}
end
end Dl
namespace Dl
open PySem PySem.Spec PyProof.Rows L2
end Dl
namespace Dl
open PySem PySem.Spec PyProof.Rows L2
def rY (fa fb:FM):FM:=fun δ=>(fa δ).bind fun p=>(fb p.2).bind fun q=>match p.1,q.1 with
 | .lst xs,.lst ys=>if xs.length + ys.length <= 1000 then some (.lst (xs ++ ys),q.2) else none
 | _,_=>none
theorem RepOs.cat {K:PySem.W.Frag} {F H:Hp}:∀ {vs:List V} {ds:List D} {A:List Addr} {ws:List V} {es:List D} {B:List Addr},RepOs K F H vs ds A->RepOs K F H ws es B->RepOs K F H (vs ++ ws) (ds ++ es) (A ++ B)
 | _,_,_,_,_,_,.nil,h=>h
 | _,_,_,_,_,_,.cons r t e,h=>.cons r (t.cat h) (by rw [e,List.append_assoc])
section
variable {X:Cx} {a b:Expr} {pos:Pos} {fa fb:FM}
theorem xc (ha:PV X a fa) (hb:PV X b fb):PV X (.BinOp a .Add b pos) (rY fa fb):=imp (sH nZ ha hb) fun σ H Q ⟨F,δ,As,d,δ',R,q,k⟩=>by
 unfold rY at q
 obtain ⟨⟨d1,δ1⟩,e1,q⟩:=Za.mp q
 obtain ⟨⟨d2,δ2⟩,e2,q⟩:=Za.mp q
 refine ⟨F,δ,As,d1,δ1,R,e1,fun v F1 H1 A As1 ev1 R1 r1=>⟨F1,δ1,As1,d2,δ2,R1,e2,fun w F2 H2 B As2 ev2 R2 r2=>?_⟩⟩
 have evs:=ev1.seq ev2 fun x m=>(r1.dom x m).1
 have r1':=ev2.stays r1 ev1.dj
 dsimp only at q
 cases d1 with
 | lst xs =>
  cases d2 with
  | lst ys =>
   dsimp only at q
   by_cases hz:xs.length + ys.length <= 1000
   . rw [if_pos hz] at q
     cases q
     cases r1' with
     | imm i _=>cases i
     | @lst p vs _ A hp np rp =>
      cases r2 with
      | imm i _=>cases i
      | @lst q ws _ B hq nq rq =>
       refine ⟨p,q,vs,ws,rfl,rfl,hp,hq,by rw [rp.length,rq.length];exact cq hz,fun l hl=>?_⟩
       have s:=bB hl (.lst (vs ++ ws))
       have no:∀ {u:Hp},Same u H2->u l = none:=fun {u} su=>by
        cases z:u l with
        | none=>rfl
        | some o=>rw [su l o z] at hl;cases hl
       have rr:=rp.cat rq
       have sub:∀ x,x ∈ A ++ B->x ∈ (p :: A) ++ (q :: B):=fun x m=>by
        rcases Zr.mp m with m | m
        . exact Zr.mpr (.inl (Zp _ m))
        . exact Zr.mpr (.inr (Zp _ m))
       have nd:(A ++ B).Nodup:=evs.nd.sublist (List.Sublist.append (List.sublist_cons_self p A) (List.sublist_cons_self q B))
       have ev':Ev F H As F2 (upd H2 l (.lst (vs ++ ws))) As2 (l :: (A ++ B)):=⟨evs.fs,evs.hs.trans s,evs.nf,evs.fa,fun x m=>by
        rcases Zs.mp m with z | z
        . subst z;exact .inr (no evs.hs)
        . exact evs.fA x (sub x z),List.nodup_cons.mpr ⟨fun m=>(by
          obtain ⟨⟨us,e⟩,_⟩:=rr.dom l m
          rw [hl] at e;cases e),nd⟩,fun i x m z=>by
        rcases Zs.mp z with z | z
        . subst z
          obtain ⟨⟨us,e⟩,_⟩:=R2.dom m
          rw [hl] at e;cases e
        . exact evs.dj i x m (sub x z)⟩
       refine k _ F2 _ (l :: (A ++ B)) As2 ev' (R2.grow s) (.lst aX (no R2.fz) (rr.frame (bJ s) fun x m=>?_))
       obtain ⟨⟨us,e⟩,_⟩:=rr.dom x m
       rw [e];exact s x _ e
   . rw [if_neg hz] at q;cases q
  | _=>cases q
 | _=>cases q
end
end Dl
namespace Dl
open PySem PySem.Spec PyProof.Rows L2
def qv (G:List D->Option D) (f:FM):FM:=fun δ=>(f δ).bind fun p=>(G [p.1]).bind fun d=>if imm d then some (d,p.2) else none
theorem nO {X:Cx} {e:Expr} {f:FM} {id:String} {x:Str} {p pos:Pos} {r:List V->Hp->VK->Prop} {G:List D->Option D} (hc:fN X (.builtin id) r) (hG:hV X.K r G) (hg:Gl X x) (hm:X.mg x = none) (hv:bootBuiltins x = some (.builtin id)) (h:PV X e f) (hn:x ≠ "__name__":=by decide) (hdb:(x == ("__debug__":Str)) = false:=by decide)
 (he:starEach [e] X.env = (false,eval e X.env) :: starEach [] X.env:=by rfl) (hpl:(backTo pos (starEach [] X.env)).any (·.1) = false:=by rfl):PV X (.Call (.Name x p) [e] [] pos) (qv G f) :=
 imp (lh hc hg hm hv (cF h dz he) hn hdb he hpl) fun σ H Q ⟨F,δ,As,d,δ',R,q,k⟩=>by
  unfold qv at q
  obtain ⟨⟨d1,δ1⟩,e1,q⟩:=Za.mp q
  obtain ⟨d2,e2,q⟩:=Za.mp q
  by_cases hi:imm d2 = true
  . rw [if_pos hi] at q
    cases q
    refine ⟨F,δ,As,[d1],δ1,R,by unfold aB bc;rw [e1];rfl,fun vs F1 H1 A As1 ev R1 r1 l=>?_⟩
    exact hG vs H1 Q [d1] d (RepOs.reps R1.fz r1) e2 fun v H2 s r2=>k v F1 H2 [] As1 ⟨ev.fs,ev.hs.trans s,ev.nf,ev.fa,fun _ m=>(by cases m),Zw,fun _ _ _ z=>(by cases z)⟩ (R1.grow s) (.imm hi r2)
  . rw [if_neg hi] at q;cases q
end Dl
namespace Hd
open PySem PySem.Spec PyProof.Rows L2
theorem walkE {l:PySem.W.OpenLaw} {n k:Nat} {q:Program} {loose:List Str} {XP:(Str->Option Value)->Heap->Prop} {YP:World->Heap->Prop} {d:DefRec} {T:PySem.W.Frag->Prop} {sp:PySem.W.Frag->Sp} {x:Str}
 (hn:l.most = some n) (hn2:n <= sizeLine) (hdf:d.params.defaults = []) (hr:Room k callerA)
 (hY:∀ (w:World) (h:Heap),YP w h->∃ K:PySem.W.Frag,K.In h/\T K)
 (F:∀ (w:World) (K:PySem.W.Frag) (mg:Str->Option Value) (fa:Addr) (h:Heap),T K->K.In h->h.Ns mainGlobals mg->mg d.name = some (.ref fa) ->
  ∃ fd:FuncData,(∀ (s:Shared) (u:Value),BindsTo s fd ⟨[u],[]⟩ [(x,u)]) /\
   ∀ base:Heap,K.In base->base.Ns mainGlobals mg->FnOk l.prog w K mg base CX0 k fa fd [x] (sp K))
 (hsp:∀ (K:PySem.W.Frag) (H:Hp) (a:Addr) (ns:List Int),ns.length <= n->Aj H->SqL K H a (ns.map V.int)->sp K [.ref a] H (fun v _=>v = .bl true) fun _ _ _=>False) :
 PySem.W.WalkO q loose XP YP l.row.toRowW d [] (fun f vs=>PySem.call f vs):=by
 refine Att.attach_call hn hdf fun w s₀ s₁ mg mb fa o pm cd doc a vs ns G Y ho hd hcd hmg hobj hints hlen hg=>?_
 obtain ⟨K,KX,hT⟩:=hY w _ Y
 obtain ⟨fd,hb,hF⟩:=F w K mg fa _ hT KX G.T.g hmg
 exact vY KX G.T.g G.T.b G.T.builtins G.T.nolimit hg hobj hints (Nat.le_trans hlen hn2) hr hF hb (fun H hO hS=>hsp K H a ns hlen hO hS) fun H e s' z=>z
end Hd
namespace Hd
open PySem PySem.Spec PyProof.Rows PySem.W
end Hd
namespace Sw
open PySem
def Ri (xs:Array Nat):Prop:=xs.toList.Pairwise (· < ·)
theorem Ri.lt {xs:Array Nat} (h:Ri xs) {i k:Nat} (hik:i < k) (hk:k < xs.size):xs[i]'(Nat.lt_trans hik hk) < xs[k]:=by
 have:=List.pairwise_iff_getElem.mp h i k (by simp;omega) (by simpa using hk) hik
 simpa using this
theorem Ri.down {xs:Array Nat} (h:Ri xs) {j i k:Nat} (hik:i <= k) (hk:xs.getD k j < j):xs.getD i j < j:=by
 by_cases l:k < xs.size
 . have li:i < xs.size:=Nat.lt_of_le_of_lt hik l
   rw [Array.getD_eq_getD_getElem?,Array.getElem?_eq_getElem l] at hk
   rw [Array.getD_eq_getD_getElem?,Array.getElem?_eq_getElem li]
   by_cases e:i = k
   . subst e;exact hk
   . exact Nat.lt_trans (h.lt (by omega) l) hk
 . rw [Array.getD_eq_getD_getElem?,Array.getElem?_eq_none (by omega)] at hk
   exact absurd hk (Nat.lt_irrefl _)
theorem qY {xs:Array Nat} {j:Nat} (mono:∀ i k,i <= k->xs.getD k j < j->xs.getD i j < j):∀ (fuel lo hi:Nat),lo <= hi->hi - lo <= fuel->(∀ i,i < lo->xs.getD i j < j)->(∀ i,hi <= i->¬ xs.getD i j < j)->(∀ i,i < SetTable.below.go xs j fuel lo hi->xs.getD i j < j)/\∀ i,SetTable.below.go xs j fuel lo hi <= i->¬ xs.getD i j < j
 | 0,lo,hi,h,g,a,b=>by
  have:lo = hi:=by omega
  subst this
  exact ⟨a,b⟩
 | fuel + 1,lo,hi,h,g,a,b=>by
  unfold SetTable.below.go
  split
  . rename_i l
    dsimp only
    split
    . rename_i c
      exact qY mono fuel _ _ (by omega) (by omega) (fun i hi'=>mono i _ (Nat.le_of_lt_succ hi') c) b
    . rename_i c
      exact qY mono fuel _ _ (by omega) (by omega) a (fun i hi' z=>c (mono _ i hi' z))
  . have:lo = hi:=by omega
    subst this
    exact ⟨a,b⟩
theorem ny {xs:Array Nat} (h:Ri xs) (j:Nat):(∀ i,i < SetTable.below xs j->xs.getD i j < j)/\∀ i,SetTable.below xs j <= i->¬ xs.getD i j < j :=
 qY (fun _ _ a b=>h.down a b) xs.size 0 xs.size (Nat.zero_le _) (by omega) (fun _ z=>absurd z (Nat.not_lt_zero _)) (fun i hi z=>by
  rw [Array.getD_eq_getD_getElem?,Array.getElem?_eq_none hi] at z
  exact absurd z (Nat.lt_irrefl _))
theorem rM {xs:Array Nat} (h:Ri xs) {i:Nat} (hi:i < xs.size):SetTable.below xs (xs[i] + 1) = i + 1:=by
 obtain ⟨a,b⟩:=ny h (xs[i] + 1)
 rcases Nat.lt_trichotomy (SetTable.below xs (xs[i] + 1)) (i + 1) with c | c | c
 . have:=b i (by omega)
   rw [Array.getD_eq_getD_getElem?,Array.getElem?_eq_getElem hi] at this
   exact absurd (Nat.lt_succ_self _) this
 . exact c
 . have:=a (i + 1) c
   have l:i + 1 < xs.size:=by
    rcases Nat.lt_or_ge (i + 1) xs.size with z | z
    . exact z
    . rw [Array.getD_eq_getD_getElem?,Array.getElem?_eq_none z] at this
      exact absurd this (Nat.lt_irrefl _)
   rw [Array.getD_eq_getD_getElem?,Array.getElem?_eq_getElem l] at this
   have q:xs[i] < xs[i + 1]:=h.lt (k:=i + 1) (by omega) l
   simp only [Option.getD_some] at this
   omega
theorem rK {xs:Array Nat} (h:Ri xs):SetTable.below xs 0 = 0:=by
 rcases Nat.eq_zero_or_pos (SetTable.below xs 0) with c | c
 . exact c
 . exact absurd ((ny h 0).1 0 c) (Nat.not_lt_zero _)
end Sw
namespace Sw
open PySem
def gk:List (List Nat):=[[],[0],[1],[0,1],[2],[0,2],[1,2],[0,1,2],[3],[0,3],[1,3],[0,1,3],[2,3],[0,2,3],[1,2,3],[0,1,2,3],[4],[0,4],[1,4],[0,1,4],[2,4],[0,2,4],[1,2,4],[0,1,2,4],[3,4],[0,3,4],[1,3,4],[0,1,3,4],[2,3,4],[0,2,3,4],[1,2,3,4],[0,1,2,3,4]]
def t7 (led:Bool) (ks:List Nat):SetTable:={ mask:=7,place:=ks.toArray,dummies:=#[],finger:=0,led:=led,moves:=0,plain:=true }
def tb (led:Bool) (ks:List Nat):SetTable:=if ks.length = 5 then { mask:=31,place:=ks.toArray,dummies:=#[],finger:=0,led:=led,moves:=1,plain:=true } else t7 led ks
def pos (ks:List Nat) (k:Nat):Nat:=SetTable.below ks.toArray k
def ins (ks:List Nat) (k:Nat):List Nat:=ks.take (pos ks k) ++ k :: ks.drop (pos ks k)
def je (ks:List Nat) (k:Nat):List Nat:=if k ∈ ks then ks else ins ks k
theorem wd:∀ led ∈ [true,false],∀ ks ∈ gk,∀ k ∈ [0,1,2,3,4],k ∉ ks->(tb led ks).freeSlot (k:Int) = some (k,false)/\(tb led ks).put k = (t7 led (ins ks k),pos ks k)/\ins ks k ∈ gk/\pos ks k <= ks.length:=by decide +kernel
theorem BO:∀ ks ∈ gk,∀ k ∈ [0,1,2,3,4],∀ j ∈ [0,1,2,3,4],k ∉ ks->(j ∈ ins ks k <-> j = k \/ j ∈ ks):=by decide +kernel
theorem pR:∀ led ∈ [true,false],∀ ks ∈ gk,(tb led ks).fits ks.length = true/\(t7 led ks).fits ks.length = true/\(t7 led ks).tooFull = decide (ks.length = 5)/\ks.length <= 5/\ks = (List.range 5).filter (fun k=>decide (k ∈ ks))/\(∀ k ∈ ks,k ∈ [0,1,2,3,4])/\(ks.length = 5->ks = [0,1,2,3,4]):=by decide +kernel
theorem Ba:∀ led ∈ [true,false],(t7 led [0,1,2,3,4]).relaid #[0,1,2,3,4] (SetTable.grown 5) = some (tb led [0,1,2,3,4],#[0,1,2,3,4])/\coversAll #[0,1,2,3,4] 5 = true/\(tb led [0,1,2,3,4]).fits 5 = true:=by decide +kernel
theorem qZ:∀ k ∈ [0,1,2,3,4],hashInt ((k:Nat):Int) = ((k:Nat):Int):=by decide +kernel
theorem gC (led:Bool):led ∈ [true,false]:=by cases led <;> simp
def EsIs:List (Int × Value)->List Nat->Prop
 | [],[]=>True
 | e :: es,k :: ks=>(∃ t,e = ((k:Int),.int (k:Int) t))/\EsIs es ks
 | _,_=>False
theorem EsIs.len:∀ {es:List (Int × Value)} {ks:List Nat},EsIs es ks->es.length = ks.length
 | [],[],_=>rfl
 | e :: es,k :: ks,h=>by rw [Zm,Zm,h.2.len]
 | [],_ :: _,h=>h.elim
 | _ :: _,[],h=>h.elim
theorem EsIs.app:∀ {es fs:List (Int × Value)} {ks ls:List Nat},EsIs es ks->EsIs fs ls->EsIs (es ++ fs) (ks ++ ls)
 | [],_,[],_,_,g=>g
 | e :: es,_,k :: ks,_,h,g=>⟨h.1,h.2.app g⟩
 | [],_,_ :: _,_,h,_=>h.elim
 | _ :: _,_,[],_,h,_=>h.elim
theorem EsIs.cut:∀ (p:Nat) {es:List (Int × Value)} {ks:List Nat},EsIs es ks->EsIs (es.take p) (ks.take p)/\EsIs (es.drop p) (ks.drop p)
 | 0,_,_,h=>⟨trivial,h⟩
 | p + 1,[],[],_=>⟨trivial,trivial⟩
 | p + 1,e :: es,k :: ks,h=>⟨⟨h.1,(EsIs.cut p h.2).1⟩,(EsIs.cut p h.2).2⟩
 | _ + 1,[],_ :: _,h=>h.elim
 | _ + 1,_ :: _,[],h=>h.elim
theorem EsIs.mem:∀ {es:List (Int × Value)} {ks:List Nat},EsIs es ks->∀ e ∈ es,∃ k ∈ ks,∃ t,e = ((k:Int),.int (k:Int) t)
 | e :: es,k :: ks,h,x,m=>by
  rcases Zs.mp m with q | q
  . obtain ⟨t,ht⟩:=h.1
    exact ⟨k,Zo,t,q.trans ht⟩
  . obtain ⟨k',m',t,ht⟩:=h.2.mem x q
    exact ⟨k',Zp _ m',t,ht⟩
 | [],_ :: _,h,_,_=>h.elim
 | _ :: _,[],h,_,_=>h.elim
theorem EsIs.has:∀ {es:List (Int × Value)} {ks:List Nat},EsIs es ks->∀ k ∈ ks,∃ t,((k:Int),Value.int (k:Int) t) ∈ es
 | e :: es,k :: ks,h,x,m=>by
  rcases Zs.mp m with q | q
  . obtain ⟨t,ht⟩:=h.1
    exact ⟨t,by rw [q,<- ht];exact Zo⟩
  . obtain ⟨t,ht⟩:=h.2.has x q
    exact ⟨t,Zp _ ht⟩
 | [],_ :: _,h,_,_=>h.elim
 | _ :: _,[],h,_,_=>h.elim
theorem EsIs.fst:∀ {es:List (Int × Value)} {ks:List Nat},EsIs es ks->es.map (·.1) = ks.map fun (k:Nat)=>(k:Int)
 | [],[],_=>rfl
 | e :: es,k :: ks,h=>by
  obtain ⟨t,ht⟩:=h.1
  rw [Zt,Zt,h.2.fst,ht]
 | [],_ :: _,h=>h.elim
 | _ :: _,[],h=>h.elim
section
variable {prog:Program} {w:World} {A:Around} {E:Value->Shared->Prop} {s:Shared}
theorem EsIs.elems {es:List (Int × Value)} {ks:List Nat} (h:EsIs es ks) (g:∀ k ∈ ks,k ∈ [0,1,2,3,4]):ElemsOf (intKind prog w) es:=fun e m=>by
 obtain ⟨k,mk,t,rfl⟩:=h.mem e m
 exact ⟨⟨(k:Int),intKind_is _ _ _ _,(qZ k (g k mk)).symm⟩,rfl⟩
theorem jY {α:Type} (xs:Array α) (p:Nat) (x:α):(SetTable.insertAt xs p x).toList = xs.toList.take p ++ x :: xs.toList.drop p:=by
 unfold SetTable.insertAt
 simp [Array.toList_extract,List.extract_eq_drop_take,List.take_of_length_le]
theorem uB {led:Bool} {ks:List Nat} {k:Nat} {es:Array (Int × Value)} (x:Value) (hs:ks ∈ gk) (hk:k ∈ [0,1,2,3,4]) (n:k ∉ ks) (hl:es.size = ks.length):layNew (tb led ks) es (k:Int) x = (SetTable.insertAt es (pos ks k) ((k:Int),x),t7 led (ins ks k),false,false):=by
 obtain ⟨h1,h2,h3,h4⟩:=wd led (gC led) ks hs k hk n
 have sz:(SetTable.insertAt es (pos ks k) ((k:Int),x)).size = (ins ks k).length:=by
  rw [<- Array.length_toList,jY]
  unfold ins
  rw [List.length_append,List.length_append,Zm,Zm,List.length_take,List.length_take,List.length_drop,List.length_drop,Array.length_toList,hl]
 have f:=(pR led (gC led) (ins ks k) h3).2.1
 unfold layNew
 rw [h1]
 dsimp only
 rw [h2]
 dsimp only
 rw [sz]
 unfold SetTable.orStandIn
 rw [f]
 rfl
theorem tG {es:Array (Int × Value)} {ks:List Nat} {k:Nat} (h:EsIs es.toList ks):(k ∈ ks->∃ j,es.toList.findIdx? (fun e=>(intKind prog w).is (k:Int) e.2) = some j)/\(k ∉ ks->es.toList.findIdx? (fun e=>(intKind prog w).is (k:Int) e.2) = none):=by
 constructor
 . intro m
   obtain ⟨t,ht⟩:=h.has k m
   cases q:es.toList.findIdx? (fun e=>(intKind prog w).is (k:Int) e.2) with
   | some j=>exact ⟨j,rfl⟩
   | none =>
    have:=List.findIdx?_eq_none_iff.mp q _ ht
    rw [intKind_is] at this
    cases this
 . intro n
   refine List.findIdx?_eq_none_iff.mpr fun e m=>?_
   obtain ⟨k',mk,t,rfl⟩:=h.mem e m
   cases q:(intKind prog w).is (k:Int) (Value.int (k':Int) t) with
   | false=>rfl
   | true =>
    have:=(intKind prog w).inj _ _ _ q (intKind_is _ _ _ _)
    have:k = k':=by omega
    exact absurd (this ▸ mk) n
theorem pc {led:Bool} {es:Array (Int × Value)} (h:EsIs es.toList [0,1,2,3,4]):relayAll (t7 led [0,1,2,3,4]) es (SetTable.grown es.size) = (es,tb led [0,1,2,3,4],false):=by
 obtain ⟨h1,h2,h3⟩:=Ba led (gC led)
 have sz:es.size = 5:=by rw [<- Array.length_toList];exact h.len
 have em:es.map (·.1) = #[0,1,2,3,4]:=by
  apply Array.toList_inj.mp
  rw [Array.toList_map,h.fst]
  rfl
 have ef:(#[0,1,2,3,4]:Array Nat).filterMap (es[·]?) = es:=by
  obtain ⟨xs⟩:=es
  match xs,sz with
  | [a,b,c,d,e],_=>rfl
 unfold relayAll
 rw [em,sz,h1]
 dsimp only
 rw [ef,sz,h2,h3]
 rfl
def SetS (h:Heap) (a:Addr) (led:Bool) (ks:List Nat):Prop:=∃ o es ep,h.get? a = some o/\o.ExactSet/\o.data = .set es ep (tb led ks)/\EsIs es.toList ks/\ks ∈ gk
theorem uT {a:Addr} {led:Bool} {ks:List Nat} {k:Nat} {t:Tok} {Q:Bool->Shared->Prop} (hS:SetS s.heap a led ks) (hk:k ∈ [0,1,2,3,4])
 (q:∀ b h',Heap.SameBut a s.heap h'->SetS h' a led (je ks k)->Q b { s with heap:=h' }):wpAny (model prog w) A (setAddHashed a (.int (k:Int) t) (k:Int)) Q E s:=by
 obtain ⟨o,es,ep,g1,g2,g3,g4,g5⟩:=id hS
 obtain ⟨f1,_,_,f4,f5,f6,_⟩:=pR led (gC led) ks g5
 have sz:es.size = ks.length:=by rw [<- Array.length_toList];exact g4.len
 have fz:(tb led ks).fits es.size = true:=by rw [sz];exact f1
 have el:=g4.elems (prog:=prog) (w:=w) f6
 have hh:(intKind prog w).hash (k:Int) = (k:Int):=qZ k hk
 unfold setAddHashed setAddHashedIn
 refine wpAny_holding (wpAny_bind (wpAny_setState_of g1 g3 fz ?_))
 dsimp only
 rw [byScan_of (knd:=intKind prog w) (x:=.int (k:Int) t) rfl (by rw [sz];show ks.length < 4096;omega) el]
 simp only [if_true]
 unfold setAddByScan
 refine wpAny_bind (wpAny_bind (wpAny_rule (wpAny_bind ?_)))
 have sc:∀ (Q':ScanMet->Shared->Prop),Q' (match es.toList.findIdx? (fun e=>(intKind prog w).is (k:Int) e.2) with | some j=>.found (0 + j) | none=>.absent) s->wpAny (model prog w) A (setScan a (.int (k:Int) t) (k:Int) true es) Q' E s:=fun Q' z=>by
  have y:=wpAny_setScan_of (prog:=prog) (w:=w) (A:=A) (E:=E) (adding:=true) (knd:=intKind prog w) (k:=(k:Int)) (x:=.int (k:Int) t) (intKind_is _ _ _ _) g1 g3 fz el z
  rw [hh] at y
  exact y
 refine sc _ ?_
 by_cases m:k ∈ ks
 . obtain ⟨j,hj⟩:=(tG (prog:=prog) (w:=w) (k:=k) g4).1 m
   rw [hj]
   dsimp only
   refine wpAny_pure (wpAny_pure ?_)
   have e:s = { s with heap:=s.heap }:=by cases s;rfl
   rw [e]
   refine q false s.heap (Heap.SameBut.refl a s.heap) ?_
   unfold je
   rw [if_pos m]
   exact hS
 . rw [(tG (prog:=prog) (w:=w) (k:=k) g4).2 m]
   dsimp only
   rw [uB (.int (k:Int) t) g5 hk m sz]
   dsimp only
   obtain ⟨_,_,i3,i4⟩:=wd led (gC led) ks g5 k hk m
   have ep':EsIs (SetTable.insertAt es (pos ks k) ((k:Int),Value.int (k:Int) t)).toList (ins ks k):=by
    rw [jY]
    exact (g4.cut (pos ks k)).1.app ⟨⟨t,rfl⟩,(g4.cut (pos ks k)).2⟩
   obtain ⟨_,_,y3,y4,_,y6,y7⟩:=pR led (gC led) (ins ks k) i3
   have sz':(SetTable.insertAt es (pos ks k) ((k:Int),Value.int (k:Int) t)).size = (ins ks k).length:=by rw [<- Array.length_toList];exact ep'.len
   have epk:je ks k = ins ks k:=by unfold je;rw [if_neg m]
   generalize SetTable.insertAt es (pos ks k) ((k:Int),Value.int (k:Int) t) = es1 at *
   refine wpAny_bind (wpAny_pure ?_)
   rw [if_pos (show (t7 led (ins ks k)).plain = true from rfl)]
   refine wpAny_bind (wpAny_pure ?_)
   simp only [if_true]
   have l5:es1.size <= sizeLine:=by rw [sz',sizeLine_eq];omega
   refine wpAny_bind (wpAny_storeSet_of g1 g3 ?_ l5)
   have st1:(s.heap.update a (Obj.putSet es1 (t7 led (ins ks k)))).get? a = some { o with data:=.set es1 (ep + 1) (t7 led (ins ks k)) }:=by
    have z:=Heap.get?_update_self (Obj.putSet es1 (t7 led (ins ks k))) g1 (by rw [putSet_of es1 _ g3];rfl)
    rw [putSet_of es1 _ g3] at z
    exact z
   rw [y3]
   by_cases c5:(ins ks k).length = 5
   . have e5:=y7 c5
     rw [e5] at ep' epk st1 i3 ⊢
     rw [if_pos (by decide),pc ep']
     dsimp only
     refine wpAny_bind (wpAny_pure ?_)
     refine wpAny_bind (wpAny_storeSet_of st1 rfl ?_ l5)
     have z:=Heap.get?_update_self (Obj.putSet es1 (tb led [0,1,2,3,4])) st1 (by rw [putSet_of es1 _ rfl];rfl)
     rw [putSet_of es1 _ rfl] at z
     exact wpAny_pure (wpAny_pure (q true _ ((Heap.SameBut.update ..).trans (Heap.SameBut.update ..)) ⟨_,es1,ep + 1 + 1,z,g2,by rw [epk],by rw [epk];exact ep',by rw [epk];exact i3⟩))
   . rw [if_neg (by simp [c5])]
     refine wpAny_pure (wpAny_pure (q true _ (Heap.SameBut.update ..) ⟨_,es1,ep + 1,st1,g2,?_,?_,?_⟩))
     . unfold tb
       rw [epk,if_neg c5]
     . rw [epk];exact ep'
     . rw [epk];exact i3
end
end Sw
namespace Sw
open PySem PySem.Spec PyProof.Rows
def ledOf (w:World):Bool:=!(w.params.followText "set-order")
theorem slot_nx:Slot "set_iterator" "__next__" "set_iterator.__next__":=.of (owner:="set_iterator") (n:="__next__") (by rw [typeLookup_type,builtinLookup_eq_fast];kernel_rfl) (by decide +kernel) (by decide +kernel) (by decide +kernel) (by first | exact .inl (by decide +kernel) | exact .inr (by decide +kernel)) (by rw [isSubtype_type];kernel_rfl)
theorem wq:entryFor table "set_iterator.__next__" = some Builtin.«set_iterator.__next__»:=entryFor_of_fast (by kernel_rfl)
theorem z5:entryFor table "set.__iter__" = some Builtin.«frozenset.__iter__»:=entryFor_alias (id':="frozenset.__iter__") (by kernel_rfl) rfl (by decide +kernel) (by kernel_rfl)
theorem wK (a:Value):argsOk "set_iterator.__next__" ⟨[a],[]⟩:=by unfold argsOk;kernel_rfl
theorem zI:typeLookup (.type "set") "__len__" = pure (some (.builtin "set.__len__")):=by rw [typeLookup_type,builtinLookup_eq_fast];kernel_rfl
abbrev itO (first:Value) (i:Nat) (a:Addr) (n ep:Nat):Obj:={ cls:=.type "set_iterator",data:=.fields #[first,.int i 0,.ref a,.int n 0,.int ep 0] }
section
variable {prog:Program} {w:World} {A:Around} {E:Value->Shared->Prop} {s:Shared} {a:Addr} {o:Obj} {es:Array (Int × Value)} {ep:Nat} {ks:List Nat}
theorem qX {r:Addr} {Q:Bool->Shared->Prop} (T:s.TypeIs (.ref r) "set") (q:Q false s):wpAny (model prog w) A (Builtin.List.listLengthHint (.ref r)) Q E s:=by
 unfold Builtin.List.listLengthHint;refine wpAny_bind (wpAny_specialOf T zI ?_)
 generalize hid:("set.__len__":String) = id0
 wp_delta
 rw [show splitId id0 = some ("set","__len__") from by subst hid;decide +kernel];subst hid
 refine wpAny_bind (wpAny_isInstance (T:="set") (b:=true) T (by rw [isSubtype_type];kernel_rfl) ?_);refine wpAny_ite_split (fun z=>absurd z (by decide)) (fun _=>?_);refine wpAny_ite_split (fun _=>?_) (fun z=>absurd (by decide +kernel) z)
 exact wpAny_bind (wpAny_typeOf T (wpAny_pure q))
theorem pg (led:Bool) (ks:List Nat):(tb led ks).plain = true:=by unfold tb;split <;> rfl
theorem zJ (led:Bool) (ks:List Nat):(tb led ks).led = led:=by unfold tb;split <;> rfl
theorem vy (led:Bool) (ks:List Nat):(tb led ks).place = ks.toArray:=by unfold tb;split <;> rfl
theorem v6 {Q:Value->Shared->Prop} (g1:s.heap.get? a = some o) (g2:o.ExactSet) (g3:o.data = .set es ep (tb (ledOf w) ks)) (fz:(tb (ledOf w) ks).fits es.size = true) (q:Q (.ref s.heap.objs.size) { s with heap:=s.heap.push (itO (.int 0 0) 0 a es.size ep) }):wpAny (model prog w) A (pyIter (.ref a)) Q E s:=by
 have T:s.TypeIs (.ref a) "set":=⟨o,g1,g2.1⟩
 refine wpAny_pyIter_slot T PySem.F.slot_set_iter (wpAny_call_entry PySem.F.slot_set_iter T z5 ?_ (PySem.F.args_set_iter_1 _))
 unfold Builtin.«frozenset.__iter__»
 refine wpAny_bind (m:=Builtin.Frozenset.slot0 "__iter__" _) (wpAny_pure ?_)
 refine wpAny_bind (m:=Builtin.Frozenset.sizeOf a) (wpAny_bind (wpAny_setEntries_of g1 g3 fz (wpAny_pure ?_)))
 refine wpAny_bind (m:=setDrawn a) ?_
 unfold setDrawn setsByText
 refine wpAny_bind (wpAny_setState_of g1 g3 fz ?_)
 dsimp only
 refine wpAny_bind (wpAny_bind (wpAny_askSetting (wpAny_pure ?_)))
 refine wpAny_pure ?_
 have dr:(!(model prog w).w.params.followText "set-order" && (!(tb (ledOf w) ks).plain && decide (es.size > 1))) = false:=by rw [pg];simp
 refine wpAny_ite_split (fun z=>?_) fun _=>?_
 . exact absurd (dr.symm.trans z) (by decide)
 refine wpAny_bind (wpAny_pure ?_)
 refine wpAny_bind (wpAny_setEpoch_of g1 g3 fz ?_)
 refine wpAny_bind (wpAny_newObj_type (wpAny_pure ⟨_,rfl,"set_iterator",_,⟨_,Heap.get?_push_size _ rfl,rfl⟩,slot_nx.lookup,?_⟩))
 exact q
def dL (w:World) (ks:List Nat):Nat->Nat
 | 0=>0
 | i + 1=>if ledOf w then ks.getD i 0 + 1 else 0
def iB (w:World) (a:Addr) (ep:Nat) (es:Array (Int × Value)):Array (Int × Value):=if ledOf w then es else pickOrder (w.params.setOrder a ep) es
theorem xX:∀ ks ∈ gk,Ri ks.toArray:=fun ks m=>by
 have:∀ ks ∈ gk,ks.Pairwise (· < ·):=by decide +kernel
 exact this ks m
theorem mP (hl:ledOf w = true) (i:Nat):dL w ks (i + 1) = ks.getD i 0 + 1:=by
 show (if ledOf w = true then ks.getD i 0 + 1 else 0) = _
 rw [if_pos hl]
theorem rL {i:Nat} (hl:ledOf w = true) (g5:ks ∈ gk) (hi:i <= ks.length):SetTable.below ks.toArray (dL w ks i) = i:=by
 cases i with
 | zero=>exact rK (xX ks g5)
 | succ i =>
  have l:i < ks.toArray.size:=by simp only [List.size_toArray];omega
  have:=rM (xX ks g5) l
  rw [mP hl,List.getD_eq_getElem?_getD,Zv (by omega)]
  simpa using this
theorem uc {Q:Array (Int × Value)->Shared->Prop} (ht:w.params.followText "set-order" = true) (g1:s.heap.get? a = some o) (g3:o.data = .set es ep (tb (ledOf w) ks)) (fz:(tb (ledOf w) ks).fits es.size = true) (q:Q (pickOrder (w.params.setOrder a ep) es) s):wpAny (model prog w) A (setWalk a) Q E s:=by
 unfold setWalk
 refine wpAny_bind (wpAny_setState_of g1 g3 fz ?_)
 dsimp only
 refine wpAny_bind (m:=setsByText) ?_
 unfold setsByText
 refine wpAny_bind (wpAny_askSetting (wpAny_pure ?_))
 refine wpAny_ite_split (fun _=>?_) (fun z=>absurd ht z)
 exact wpAny_bind (wpAny_askSetting (wpAny_pure q))
theorem lE {i:Nat} {Q:Option (Value × Nat)->Shared->Prop} (g1:s.heap.get? a = some o) (g3:o.data = .set es ep (tb (ledOf w) ks)) (fz:(tb (ledOf w) ks).fits es.size = true) (g5:ks ∈ gk) (sz:es.size = ks.length) (hi:i <= ks.length)
 (q:Q (((iB w a ep es)[i]?).map fun e=>(e.2,dL w ks (i + 1))) s):wpAny (model prog w) A (setNext a (dL w ks i) i ep) Q E s:=by
 unfold setNext
 refine wpAny_bind (wpAny_setState_of g1 g3 fz ?_)
 dsimp only
 refine wpAny_bind (m:=setsByText) ?_
 unfold setsByText
 refine wpAny_bind (wpAny_askSetting (wpAny_pure ?_))
 cases ht:w.params.followText "set-order" with
 | true =>
  have nl:ledOf w = false:=by unfold ledOf;rw [ht];rfl
  have s0:∀ i,dL w ks i = 0:=fun i=>by cases i with
   | zero=>rfl
   | succ i=>unfold dL;rw [nl];rfl
  refine wpAny_ite_split (fun _=>?_) (fun z=>absurd ht z)
  refine wpAny_ite_split (fun z=>absurd z (by simp)) (fun _=>?_)
  refine wpAny_bind (uc ht g1 g3 fz (wpAny_pure ?_))
  rw [s0]
  unfold iB at q
  rw [s0,nl] at q
  exact q
 | false =>
  have yl:ledOf w = true:=by unfold ledOf;rw [ht];rfl
  refine wpAny_ite_split (fun z=>absurd (ht.symm.trans z) (by decide)) (fun _=>?_)
  refine wpAny_ite_split (fun z=>absurd z ?_) (fun _=>?_)
  . show ¬ ((!(tb (ledOf w) ks).plain && decide (es.size > 1)) = true)
    rw [pg]
    simp
  refine wpAny_bind (wpAny_ite_split (fun z=>absurd z ?_) (fun _=>wpAny_pure ?_))
  . rw [zJ,yl]
    simp
  refine wpAny_pure ?_
  rw [vy,rL yl g5 hi]
  unfold iB at q
  rw [yl] at q
  simp only [if_true] at q
  rw [mP yl] at q
  by_cases l:i < ks.length
  . have e1:es[i]? = some es[i]:=Array.getElem?_eq_getElem (by omega)
    have e2:ks.toArray[i]? = some ks[i]:=by simp [l]
    rw [e1,List.getD_eq_getElem?_getD,Zv l] at q
    rw [e1,e2]
    exact q
  . have e1:es[i]? = none:=Array.getElem?_eq_none (by omega)
    rw [e1] at q
    rw [e1]
    exact q
theorem xj {I:Addr} {i:Nat} {e:Int × Value} {Q:Option Value->Shared->Prop} (hI:s.heap.get? I = some (itO (.int (dL w ks i) 0) i a es.size ep)) (g1:s.heap.get? a = some o) (g3:o.data = .set es ep (tb (ledOf w) ks)) (fz:(tb (ledOf w) ks).fits es.size = true) (g5:ks ∈ gk) (sz:es.size = ks.length) (hi:i < ks.length) (hx:(iB w a ep es)[i]? = some e)
 (q:∀ h',h'.get? I = some (itO (.int (dL w ks (i + 1)) 0) (i + 1) a es.size ep)->(∀ b o,b ≠ I->s.heap.get? b = some o->h'.get? b = some o)->Q (some e.2) { s with heap:=h' }):wpAny (model prog w) A (pyNext (.ref I)) Q E s:=by
 have T:s.TypeIs (.ref I) "set_iterator":=⟨_,hI,rfl⟩
 unfold pyNext
 refine wpAny_bind (wpAny_attempt (wpAny_callSpecial?_slot (name:=Str.ofString "__next__") T slot_nx (wpAny_call_entry slot_nx T wq ?_ (wK _))))
 unfold Builtin.«set_iterator.__next__»
 refine wpAny_bind (wpAny_pure ?_)
 refine wpAny_bind (wpAny_fieldsOf hI rfl ?_)
 dsimp only
 refine wpAny_bind (wpAny_setEntries_of g1 g3 fz ?_)
 refine wpAny_ite_split (fun z=>absurd z (by simp)) (fun _=>?_)
 refine wpAny_bind (m:=setNext a _ _ _) ?_
 simp only [Int.toNat_natCast]
 refine lE g1 g3 fz g5 sz (Nat.le_of_lt hi) ?_
 rw [hx]
 dsimp only [Option.map_some]
 refine wpAny_bind (wpAny_setField hI rfl (by simp) ?_)
 have u1:(s.heap.update I (Obj.mapFields (·.setIfInBounds 0 (rawInt ((dL w ks (i + 1):Nat):Int))))).get? I = some (itO (.int (dL w ks (i + 1)) 0) i a es.size ep):=Heap.get?_update_self _ hI rfl
 refine wpAny_bind (wpAny_setField u1 rfl (by simp) ?_)
 refine wpAny_pure ⟨_,rfl,wpAny_pure (q _ (Heap.get?_update_self _ u1 rfl) fun b o hb e=>?_)⟩
 exact (Heap.get?_update_other _ _ (Ne.symm hb)).trans ((Heap.get?_update_other _ _ (Ne.symm hb)).trans e)
theorem r9:Slot "set_iterator" "__iter__" "set_iterator.__iter__":=.of (owner:="set_iterator") (n:="__iter__") (by rw [typeLookup_type,builtinLookup_eq_fast];kernel_rfl) (by decide +kernel) (by decide +kernel) (by decide +kernel) (by first | exact .inl (by decide +kernel) | exact .inr (by decide +kernel)) (by rw [isSubtype_type];kernel_rfl)
theorem zZ:entryFor table "set_iterator.__iter__" = some Builtin.«dict_keyiterator.__iter__»:=entryFor_alias (id':="dict_keyiterator.__iter__") (by kernel_rfl) rfl (by decide +kernel) (by kernel_rfl)
theorem Ad (a:Value):argsOk "set_iterator.__iter__" ⟨[a],[]⟩:=by unfold argsOk;kernel_rfl
theorem rf {α:Type} {l:List α} {i:Nat} (h:i < l.length):([l[i]] ++ l.eraseIdx i).Perm l:=by
 have e:l.take i ++ l[i] :: l.drop (i + 1) = l:=by rw [List.getElem_cons_drop,List.take_append_drop]
 rw [List.eraseIdx_eq_take_drop_succ]
 exact (List.perm_middle (l₁:=l.take i) (l₂:=l.drop (i + 1)) (a:=l[i])).symm.trans (List.Perm.of_eq e)
theorem sD {α:Type} (next:Nat->Nat):∀ (f k:Nat) (l:List α) (out:Array α),l.length <= f->(pickOrder.go next f k l out).toList.Perm (out.toList ++ l)
 | 0,k,l,out,h=>by
  have:l = []:=List.eq_nil_of_length_eq_zero (by omega)
  subst this
  rw [Zk]
  exact List.Perm.refl _
 | f + 1,k,l,out,h=>by
  unfold pickOrder.go
  by_cases z:l = []
  . subst z
    simp
  . have lp:0 < l.length:=List.length_pos_iff.mpr z
    have lt:next k % l.length < l.length:=Nat.mod_lt _ lp
    rw [Zv lt]
    dsimp only
    refine (sD next f (k + 1) _ _ (by rw [List.length_eraseIdx_of_lt lt];omega)).trans ?_
    rw [Array.toList_push,List.append_assoc]
    exact List.Perm.append_left _ (rf lt)
theorem uq {α:Type} (next:Nat->Nat) (xs:Array α):(pickOrder next xs).toList.Perm xs.toList:=by
 have:=sD next xs.size 0 xs.toList #[] (by simp)
 simpa [pickOrder] using this
theorem lB (w:World) (a:Addr) (ep:Nat) (es:Array (Int × Value)):(iB w a ep es).toList.Perm es.toList:=by
 unfold iB
 split
 . exact List.Perm.refl _
 . exact uq _ _
theorem lA (w:World) (a:Addr) (ep:Nat) (es:Array (Int × Value)):(iB w a ep es).size = es.size:=by
 rw [<- Array.length_toList,(lB w a ep es).length_eq,Array.length_toList]
end
end Sw
namespace Sw
open PySem PySem.Spec PyProof.Rows PySem.W
section
variable {prog:Program} {w:World} {A:Around} {E:Value->Shared->Prop} {s:Shared} {a:Addr} {o:Obj} {es:Array (Int × Value)} {ep:Nat} {ks:List Nat}
theorem tI:∀ {es:List (Int × Value)},(∀ e ∈ es,∃ t,e.2 = .int e.1 t)->IntsAre (es.map (·.2)) (es.map (·.1))
 | [],_=>.nil
 | e :: es,h=>by
  obtain ⟨t,ht⟩:=h e Zo
  rw [Zt,Zt,ht]
  exact .cons _ t (tI fun x m=>h x (Zp _ m))
theorem uk:∀ ks ∈ gk,(ks.map fun (k:Nat)=>(k:Int)).Pairwise (· <= ·):=by decide +kernel
end
def putAll (ns:List Nat):List Nat:=ns.foldl je []
def srtN (ns:List Nat):List Nat:=(List.range 5).filter fun k=>decide (k ∈ ns)
theorem xf {ks:List Nat} {k:Nat} (hs:ks ∈ gk) (hk:k ∈ [0,1,2,3,4]):je ks k ∈ gk/\∀ j ∈ [0,1,2,3,4],j ∈ je ks k <-> j = k \/ j ∈ ks:=by
 unfold je
 by_cases m:k ∈ ks
 . rw [if_pos m]
   exact ⟨hs,fun j _=>⟨.inr,fun h=>h.elim (fun e=>e ▸ m) id⟩⟩
 . rw [if_neg m]
   exact ⟨(wd true (by simp) ks hs k hk m).2.2.1,fun j hj=>BO ks hs k hk j hj m⟩
theorem pT:∀ (ns ks:List Nat),ks ∈ gk->(∀ k ∈ ns,k ∈ [0,1,2,3,4])->ns.foldl je ks ∈ gk/\∀ j ∈ [0,1,2,3,4],j ∈ ns.foldl je ks <-> j ∈ ns \/ j ∈ ks
 | [],ks,h,_=>⟨h,fun j _=>by simp⟩
 | k :: ns,ks,h,g=>by
  obtain ⟨p1,p2⟩:=xf h (g k Zo)
  obtain ⟨h1,h2⟩:=pT ns (je ks k) p1 fun x m=>g x (Zp _ m)
  refine ⟨h1,fun j hj=>?_⟩
  rw [List.foldl_cons,h2 j hj,p2 j hj,Zs]
  constructor
  . rintro (a | a | a)
    . exact .inl (.inr a)
    . exact .inl (.inl a)
    . exact .inr a
  . rintro ((a | a) | a)
    . exact .inr (.inl a)
    . exact .inl a
    . exact .inr (.inr a)
theorem putAll_srt {ns:List Nat} (h:∀ k ∈ ns,k ∈ [0,1,2,3,4]):putAll ns = srtN ns:=by
 obtain ⟨h1,h2⟩:=pT ns [] (by decide) h
 have e:=(pR true (by simp) _ h1).2.2.2.2.1
 unfold putAll srtN
 rw [e]
 refine List.filter_congr fun j mj=>?_
 have mj':j ∈ [0,1,2,3,4]:=by
  have:j < 5:=List.mem_range.mp mj
  simp only [Zs,List.not_mem_nil,or_false]
  omega
 have:=h2 j mj'
 simp only [List.not_mem_nil,or_false] at this
 exact decide_eq_decide.mpr this
end Sw
namespace Sw
open PySem PySem.Spec PyProof.Rows
section
variable {prog:Program} {w:World} {A:Around} {E:Value->Shared->Prop} {s:Shared}
theorem SetS.same {h h':Heap} {a:Addr} {led:Bool} {ks:List Nat} (k:∀ o,h.get? a = some o->h'.get? a = some o) (x:SetS h a led ks):SetS h' a led ks:=by
 obtain ⟨o,es,ep,g,r⟩:=x
 exact ⟨o,es,ep,k o g,r⟩
def Left (items:Array Value):Nat->List Nat->Prop
 | i,[]=>items[i]? = none
 | i,k :: ms=>(∃ t,items[i]? = some (.int (k:Int) t))/\k ∈ [0,1,2,3,4]/\Left items (i + 1) ms
theorem tt {R:Result->Shared->Prop} {S I:Addr} (h:wpAny (model prog w) A.in1 (Builtin.«set.update.loop» ⟨[.ref S,.ref I],[]⟩) (fun fin s'=>match fin with | .done f=>R (.ok f) s' | .again c=>c.quiet = true/\codeAny (model prog w) A c R s') (fun e s'=>R (.error e) s') s):codeAny (model prog w) A (.builtin "set.update.loop" ⟨[.ref S,.ref I],[]⟩) R s :=
 codeAny_builtin PyProof.Rows.F.entry_set_update_loop (by rw [Around.under_plainId PyProof.Rows.F.plain_set_update_loop];exact h)
theorem uJ {R:Result->Shared->Prop} {S I l:Addr} {items:Array Value} {led:Bool} (hh:A.handled = none) (d1:S ≠ I) (d2:l ≠ S) (d3:l ≠ I):∀ (ms:List Nat) (i:Nat) (ks:List Nat) (s:Shared),Left items i ms->s.heap.IsListIter I l i->s.heap.IsList l items->SetS s.heap S led ks ->
 (∀ h' tk,(∀ b o,b ≠ S->b ≠ I->s.heap.get? b = some o->h'.get? b = some o)->SetS h' S led (ms.foldl je ks)->R (.ok (.ret .none)) { s with heap:=h',toks:=tk })->codeAny (model prog w) A (.builtin "set.update.loop" ⟨[.ref S,.ref I],[]⟩) R s:=by
 have hh1:A.in1.handled = none:=hh
 intro ms
 induction ms with
 | nil =>
  intro i ks s hm hI hl hS hR
  refine tt (wpAny_bind (m:=pyNext (.ref I)) (wpAny_pyNext_list_end hh1 hI hl hm fun h' x=>wpAny_pure (hR h' s.toks (fun b o _ b2 e=>x b o b2 e) (hS.same fun o e=>x S o d1 e))))
 | cons k ms ih =>
  intro i ks s hm hI hl hS hR
  obtain ⟨⟨t,ht⟩,hk,hm⟩:=hm
  refine tt (wpAny_bind (m:=pyNext (.ref I)) (wpAny_pyNext_list_item hI hl ht fun h1 hI1 s1=>?_))
  have hS1:SetS h1 S led ks:=hS.same fun o e=>(s1.2 S d1).trans e
  refine wpAny_bind (wpAny_holding (m:=setAdd S (.int (k:Int) t)) (wpAny_holding (wpAny_bind (wpAny_pyHash_int ?_))))
  rw [qZ k hk]
  refine uT hS1 hk fun b h2 s2 hS2=>wpAny_pure ⟨plainId_quiet PyProof.Rows.F.plain_set_update_loop _,?_⟩
  refine ih (i + 1) (je ks k) _ hm (hI1.at fun o e=>(s2.2 I d1.symm).trans e) (hl.at fun o e=>(s2.2 l d2).trans ((s1.2 l d3).trans e)) hS2 fun h' tk kk q=>hR h' tk (fun b o b1 b2 e=>kk b o b1 b2 ((s2.2 b b1).trans ((s1.2 b b2).trans e))) q
theorem BH {T newId initId:String} {args:List Value} {Q:Value->Shared->Prop} (ft:TypeCalled T newId initId) (ct:checkTypeCall T ⟨args,[]⟩ = pure ())
 (h:wpAny (model prog w) A.in1 (call (.builtin newId) (.type T :: args)) (fun obj s1=>s1.TypeIs obj T/\wpAny (model prog w) A.in1 (callSpecial? obj "__init__" args) (fun r s2=>r = some .none/\Q obj s2) E s1) E s):wpAny (model prog w) A (call (.type T) args) Q E s:=by
 obtain ⟨nt,cc,⟨c,tl,mr⟩,mb,_,su,_⟩:=ft
 refine wpAny_call (codeAny_of_tree (wpAny_pure ⟨Code.quiet_builtin _ (by decide +kernel),codeAny_builtin F.entry_type_call ?_⟩))
 rw [Around.under_plain (weight_type_call_type T args []) (units_type_call_type T args [])]
 unfold Builtin.«type.__call__»
 wp_walk using wpAny_mono h
 . rintro obj s1 ⟨hT,hi⟩
   wp_walk using wpAny_mono hi
   . rintro r s2 ⟨rfl,q⟩
     wp_walk
     exact q
   . exact fun _ _ e=>e
 . exact fun _ _ e=>e
abbrev BG (w:World):Obj:={ cls:=.type "set",dict:=none,data:=.set #[] 0 (t7 (ledOf w) []) }
theorem uz {x:Value} {Q:Value->Shared->Prop} (q:Q (.ref s.heap.objs.size) { s with heap:=s.heap.push (BG w) }):wpAny (model prog w) A (call (.builtin "set.__new__") [.type "set",x]) Q E s:=by
 refine wpAny_call (codeAny_call_builtin PySem.F.plain_set_new PySem.F.entry_set_new (wpAny_of_eq (PySem.F.newCall_set_1 x) ?_))
 have su:=sub_set_self
 obtain ⟨hp,g,d,tk,os⟩:=s
 unfold Builtin.«set.__new__»
 wp_walk using wpAny_askSetting
 exact q
theorem qV {S l:Addr} {led:Bool} {items:Array Value} {ms:List Nat} {Q:Option Value->Shared->Prop} (hh:A.handled = none) (d2:l ≠ S) (hS:s.heap.get? S = some { cls:=.type "set",dict:=none,data:=.set #[] 0 (t7 led []) }) (hl:s.heap.IsList l items) (hm:Left items 0 ms)
 (q:∀ h' tk,(∀ b o,b ≠ S->s.heap.get? b = some o->h'.get? b = some o)->SetS h' S led (putAll ms)->Q (some .none) { s with heap:=h',toks:=tk }):wpAny (model prog w) A (callSpecial? (.ref S) "__init__" [.ref l]) Q E s:=by
 have hT:s.TypeIs (.ref S) "set":=⟨_,hS,rfl⟩
 have TL:s.TypeIs (.ref l) "list":=hl.typeIs
 have n1:=PySem.F.sub_list_set
 have n2:=PySem.F.sub_list_frozenset
 have hh1:A.in1.handled = none:=hh
 have sl:S < s.heap.objs.size:=Heap.lt_size hS
 have ll:l < s.heap.objs.size:=by obtain ⟨o,e,_⟩:=hl;exact Heap.lt_size e
 have st:∀ (Q:(Array (Int × Value) × Nat × SetTable)->Shared->Prop) (E:Value->Shared->Prop),Q (#[],0,t7 led []) s->wpAny (model prog w) A.in1 (setState S) Q E s:=fun Q E h=>wpAny_setState_of hS rfl (by cases led <;> decide +kernel) h
 refine wpAny_callSpecial?_slot hT PySem.F.called_set.init (wpAny_call (codeAny_call_builtin PySem.F.called_set.init.plain PySem.F.entry_set_init (check_set_init_1 hT ?_)))
 unfold Builtin.«set.__init__»
 wp_walk using st _ _,wpAny_pyIter_list hl
 refine uJ (led:=led) hh1 (Nat.ne_of_lt sl) d2 (Nat.ne_of_lt ll) ms 0 [] _ hm ⟨_,Heap.get?_push_size _ rfl,rfl,rfl⟩ (hl.push _) ⟨_,#[],0,Heap.get?_push_of_some _ hS,⟨rfl,rfl,rfl⟩,rfl,trivial,by decide⟩ fun h' tk k x=>?_
 dsimp only
 wp_walk
 exact q h' tk (fun b o b1 e=>k b o b1 (Nat.ne_of_lt (Heap.lt_size e)) (Heap.get?_push_of_some _ e)) x
theorem set_small {l:Addr} {items:Array Value} {ms:List Nat} {Q:Value->Shared->Prop} (hh:A.handled = none) (hl:s.heap.IsList l items) (hm:Left items 0 ms)
 (q:∀ h' tk,(∀ b o,s.heap.get? b = some o->h'.get? b = some o)->SetS h' s.heap.objs.size (ledOf w) (putAll ms)->Q (.ref s.heap.objs.size) { s with heap:=h',toks:=tk }):wpAny (model prog w) A (call (.type "set") [.ref l]) Q E s:=by
 have ll:l < s.heap.objs.size:=by obtain ⟨o,e,_⟩:=hl;exact Heap.lt_size e
 refine BH PySem.F.called_set (PySem.F.typeCall_set_1 _) (uz ⟨⟨_,Heap.get?_push_size _ rfl,rfl⟩,qV hh (Nat.ne_of_lt ll) (Heap.get?_push_size _ rfl) (hl.push _) hm fun h' tk k x=>⟨rfl,q h' tk (fun b o e=>k b o (Nat.ne_of_lt (Heap.lt_size e)) (Heap.get?_push_of_some _ e)) x⟩⟩)
end
end Sw
namespace Sw
open PySem PySem.Spec PyProof.Rows
section
variable {prog:Program} {w:World} {A:Around} {E:Value->Shared->Prop} {s:Shared} {a:Addr} {o:Obj} {es:Array (Int × Value)} {ep:Nat} {ks:List Nat}
theorem zh {I:Addr} {Q:Option Value->Shared->Prop} (hh:A.handled = none) (hI:s.heap.get? I = some (itO (.int (dL w ks ks.length) 0) ks.length a es.size ep)) (g1:s.heap.get? a = some o) (g3:o.data = .set es ep (tb (ledOf w) ks)) (fz:(tb (ledOf w) ks).fits es.size = true) (g5:ks ∈ gk) (sz:es.size = ks.length)
 (q:∀ h',(∀ b o,b ≠ I->s.heap.get? b = some o->h'.get? b = some o)->Q none { s with heap:=h' }):wpAny (model prog w) A (pyNext (.ref I)) Q E s:=by
 have T:s.TypeIs (.ref I) "set_iterator":=⟨_,hI,rfl⟩
 have hh1:A.in1.handled = none:=hh
 have nx:∀ (Q:Option (Value × Nat)->Shared->Prop) (E:Value->Shared->Prop),Q none s->wpAny (model prog w) A.in1 (setNext a (dL w ks ks.length:Int).toNat (ks.length:Int).toNat (ep:Int).toNat) Q E s:=fun Q E h=>by
  simp only [Int.toNat_natCast]
  exact lE g1 g3 fz g5 sz (Nat.le_refl _) (by rw [Array.getElem?_eq_none (by rw [lA,sz];exact Nat.le_refl _)];exact h)
 have en:∀ (Q:Array (Int × Value)->Shared->Prop) (E:Value->Shared->Prop),Q es s->wpAny (model prog w) A.in1 (setEntries a) Q E s:=fun Q E h=>wpAny_setEntries_of g1 g3 fz h
 obtain ⟨hp,g,d,tk,os⟩:=s
 unfold pyNext
 refine wpAny_bind (wpAny_attempt (wpAny_callSpecial?_slot T slot_nx (wpAny_call_entry slot_nx T wq ?_ (wK _))))
 unfold Builtin.«set_iterator.__next__»
 wp_walk using en _ _,nx _ _
 unfold raiseNew
 wp_walk
 refine wpAny_of_eq (show isSubtype (.type "StopIteration") (.type "StopIteration") = _ from isSubtype_stop) ?_
 wp_walk
 exact q _ fun b o n e=>Heap.get?_push_of_some _ (Heap.get?_push_of_some _ ((Heap.SameBut.update ..).extBut b o n e))
theorem Ac {i:Nat} (sz:es.size = ks.length) (hi:i < ks.length):∃ e,(iB w a ep es)[i]? = some e:=⟨_,Array.getElem?_eq_getElem (by rw [lA,sz];exact hi)⟩
def uV (w:World) (I a:Addr) (o:Obj) (es:Array (Int × Value)) (ep:Nat) (ks:List Nat) (i:Nat) (h:Heap):Prop:=h.get? I = some (itO (.int (dL w ks i) 0) i a es.size ep)/\h.get? a = some o
theorem oR {I:Addr} (hh:A.handled = none) (n:a ≠ I) (g3:o.data = .set es ep (tb (ledOf w) ks)) (fz:(tb (ledOf w) ks).fits es.size = true) (g5:ks ∈ gk) (sz:es.size = ks.length) :
 Walks prog w A I [I,a] [I] ks.length (fun i v=>∃ e,(iB w a ep es)[i]? = some e/\v = e.2) (uV w I a o es ep ks) where
 sub:=fun b hb=>by rw [List.mem_singleton.mp hb];exact Zo
 frame:=fun i h h' st k=>⟨k I (by simp) _ st.1,k a (by simp) _ st.2⟩
 item:=fun i s Q E hi st q=>by
  obtain ⟨e,he⟩:=Ac (w:=w) (a:=a) (ep:=ep) sz hi
  refine xj (e:=e) st.1 st.2 g3 fz g5 sz hi he fun h' x k=>q e.2 h' s.toks ⟨e,he,rfl⟩ ⟨x,k a o n st.2⟩ fun b o hb e=>k b o (fun z=>hb (by rw [z];exact List.mem_singleton_self _)) e
 done:=fun s Q E st q=>zh hh st.1 st.2 g3 fz g5 sz fun h' k=>q h' s.toks fun b o hb e=>k b o (fun z=>hb (by rw [z];exact List.mem_singleton_self _)) e
 self:=fun i s Q E st h=>by
  have T:s.TypeIs (.ref I) "set_iterator":=⟨_,st.1,rfl⟩
  refine wpAny_pyIter_slot T r9 (wpAny_call_entry r9 T zZ (wpAny_pure ⟨_,rfl,?_⟩) (Ad _))
  exact ⟨"set_iterator",_,T,slot_nx.lookup,h⟩
end
end Sw
namespace Sw
open PySem PySem.Spec PyProof.Rows PySem.W
section
variable {prog:Program} {w:World} {A:Around} {E:Value->Shared->Prop} {s:Shared} {a:Addr} {o:Obj} {es:Array (Int × Value)} {ep:Nat} {ks:List Nat}
theorem ui (g2:o.ExactSet) (g3:o.data = .set es ep (tb (ledOf w) ks)) (fz:(tb (ledOf w) ks).fits es.size = true) (g5:ks ∈ gk) (sz:es.size = ks.length) :
 KdlSrc prog w "set" a a ks.length (fun i v=>∃ e,(iB w a ep es)[i]? = some e/\v = e.2) (fun h=>h.get? a = some o) where
 type:=fun s ok=>⟨o,ok,g2.1⟩
 there:=fun h ok=>⟨Heap.lt_size ok,Heap.lt_size ok⟩
 keep:=fun h h' ok k=>k a (.inl rfl) _ ok
 notList:=by decide
 notTuple:=by decide
 hint:=fun A E s Q ok q=>qX ⟨o,ok,g2.1⟩ q
 iter:=fun A s hh ok=>⟨_,uV w s.heap.objs.size a o es ep ks,fun E Q q=>v6 ok g2 g3 fz q,oR hh (Nat.ne_of_lt (Heap.lt_size ok)) g3 fz g5 sz,Heap.get?_push_size _ rfl,Heap.get?_push_of_some _ ok⟩
theorem vL {acc:Array Value} (h:ItemsOf (fun i v=>∃ e,(iB w a ep es)[i]? = some e/\v = e.2) acc ks.length) (sz:es.size = ks.length):acc.toList = (iB w a ep es).toList.map (·.2):=by
 apply List.ext_getElem?
 intro i
 rw [List.getElem?_map,Array.getElem?_toList,Array.getElem?_toList]
 cases q:acc[i]? with
 | none =>
  have:acc.size <= i:=Array.getElem?_eq_none_iff.mp q
  rw [Array.getElem?_eq_none (by rw [lA,sz,<- h.1];exact this)]
  rfl
 | some v =>
  obtain ⟨e,he,rfl⟩:=h.2 i v q
  rw [he]
  rfl
theorem u9:∀ {l m:List Int},l.Perm m->l.Pairwise (· <= ·)->m.Pairwise (· <= ·)->l = m
 | [],m,p,_,_=>(List.nil_perm.mp p).symm
 | x :: l,[],p,_,_=>absurd p.length_eq (by simp)
 | x :: l,y :: m,p,hl,hm=>by
  have hx:=List.pairwise_cons.mp hl
  have hy:=List.pairwise_cons.mp hm
  have e:x = y:=by
   have a1:x <= y:=by
    rcases Zs.mp (p.symm.subset Zo) with z | z
    . omega
    . exact hx.1 y z
   have a2:y <= x:=by
    rcases Zs.mp (p.subset Zo) with z | z
    . omega
    . exact hy.1 x z
   omega
  subst e
  rw [u9 ((List.perm_cons x).mp p) hx.2 hy.2]
theorem sorted_small {Q:Value->Shared->Prop} (hh:A.handled = none) (hS:SetS s.heap a (ledOf w) ks)
 (q:∀ (h1 h':Heap) tk (out:Array Value),(∀ b o,s.heap.get? b = some o->h1.get? b = some o)->(∀ b o,h1.get? b = some o->h'.get? b = some o)->(∃ e,h'.get? h1.objs.size = some (seqObj "list" out e))->IntsAre out.toList (ks.map fun (k:Nat)=>(k:Int))->Q (.ref h1.objs.size) { s with heap:=h',toks:=tk }):wpAny (model prog w) A (call (.builtin "sorted") [.ref a]) Q E s:=by
 obtain ⟨o,es,ep,g1,g2,g3,g4,g5⟩:=hS
 have sz:es.size = ks.length:=by rw [<- Array.length_toList];exact g4.len
 obtain ⟨f1,_,_,f4,_⟩:=pR (ledOf w) (gC _) ks g5
 have fz:(tb (ledOf w) ks).fits es.size = true:=by rw [sz];exact f1
 have K:=ui (prog:=prog) (a:=a) g2 g3 fz g5 sz
 have hh1:A.in1.handled = none:=hh
 have l5:ks.length <= sizeLine:=Nat.le_trans f4 (by decide)
 have pm:((iB w a ep es).toList.map (·.1)).Perm (ks.map fun (k:Nat)=>(k:Int)):=by
  rw [<- g4.fst]
  exact (lB w a ep es).map _
 have it:∀ e ∈ (iB w a ep es).toList,∃ t,e.2 = .int e.1 t:=fun e m=>by
  obtain ⟨k,_,t,rfl⟩:=g4.mem e ((lB w a ep es).subset m)
  exact ⟨t,rfl⟩
 refine Calls.call_function_entry kind_sorted plain_sorted entry_sorted (args_sorted1 _) ?_
 have co:∀ (R:List Value->Shared->Prop) (E:Value->Shared->Prop),(∀ (h':Heap) (tk:Nat) (acc:Array Value),(∀ b o,s.heap.get? b = some o->h'.get? b = some o)->ItemsOf (fun i v=>∃ e,(iB w a ep es)[i]? = some e/\v = e.2) acc ks.length->R acc.toList { s with heap:=h',toks:=tk })->wpAny (model prog w) A.in1 (collect (([.ref a]:List Value).headD .none)) R E s:=fun R E h=>kdu_collect K hh1 g1 l5 h
 unfold Builtin.«sorted»
 wp_walk using co _ _
 intro h1 tk acc k1 ia
 have va:=vL ia sz
 have il:IntsAre acc.toList ((iB w a ep es).toList.map (·.1)):=by
  rw [va]
  exact tI it
 have la:acc.toList.length = ks.length:=by rw [Array.length_toList];exact ia.1
 have szl:¬ acc.toList.toArray.size > sizeLine:=by
  rw [List.size_toArray,la]
  exact Nat.not_lt.mpr l5
 wp_walk
 rw [if_neg szl]
 have ho:(h1.push (seqObj "list" acc.toList.toArray 0)).get? h1.objs.size = some (seqObj "list" acc.toList.toArray 0):=Heap.get?_push_size _ rfl
 have so:∀ (Q:Value->Shared->Prop) (E:Value->Shared->Prop),(∀ (h':Heap) (out:Array Value),(∀ b o,h1.get? b = some o->h'.get? b = some o)->(∃ e,h'.get? h1.objs.size = some (seqObj "list" out e))->IntsAre out.toList (ks.map fun (k:Nat)=>(k:Int))->Q .none { s with heap:=h',toks:=tk }) ->
  wpAny (model prog w) A.in1 (call (.builtin "list.sort") [.ref h1.objs.size]) Q E { s with heap:=h1.push (seqObj "list" acc.toList.toArray 0),toks:=tk }:=fun Q E h=>by
  refine wpAny_call_entry slot_list_sort ⟨_,ho,rfl⟩ entry_list_sort (list_sort_tree ho il (by omega) fun out ns' hI hp hP=>⟨.none,rfl,?_⟩) (args_list_sort _)
  obtain ⟨e,he⟩:=sortedHeap_at (out:=out) ho
  refine h _ out (fun b o q=>?_) ⟨e,he⟩ (u9 (hp.trans pm) hP (uk ks g5) ▸ hI)
  have lb:b < h1.objs.size:=Heap.lt_size q
  rw [sortedHeap_old (Nat.ne_of_lt lb) (by rw [size_push'];exact Nat.lt_succ_of_lt lb)]
  exact Heap.get?_push_of_some _ q
 wp_walk using so _ _
 intro h2 out k2 li hI
 wp_walk
 exact ⟨_,rfl,q h1 h2 tk out k1 k2 li hI⟩
end
end Sw
namespace Dl
open PySem PySem.Spec PyProof.Rows L2
structure EvW (F H:Hp) (As:Nat->List Addr) (F' H':Hp) (As':Nat->List Addr) (A:List Addr):Prop where
 fs:Same F F'
 ks:∀ a u,H a = some u->(∀ i,a ∉ As i)->H' a = some u
 nf:∀ a (u:MO),H a = some u.1->F a = none->(∀ i,a ∉ As i)->F' a = none
 fa:∀ i a,a ∈ As' i->(∃ j,a ∈ As j) \/ H a = none
 fA:∀ a,a ∈ A->(∃ j,a ∈ As j) \/ H a = none
 nd:A.Nodup
 dj:∀ i a,a ∈ As' i->a ∉ A
theorem Ev.toW {F H F' H':Hp} {As As':Nat->List Addr} {A:List Addr} (e:Ev F H As F' H' As' A):EvW F H As F' H' As' A:=⟨e.fs,fun a u h _=>e.hs a u h,e.nf,e.fa,e.fA,e.nd,e.dj⟩
def Ak (H:Hp) (As:Nat->List Addr):Prop:=∀ i a,a ∈ As i->∃ u:MO,H a = some u.1
theorem RepA.domA {K:PySem.W.Frag} {F H:Hp} {σ:L2.St} {δ:DS} {As:Nat->List Addr} (R:RepA K F H σ δ As):Ak H As:=fun _ _ m=>(R.dom m).1
theorem EvW.ki {F H F' H':Hp} {As As':Nat->List Addr} {A:List Addr} (e:EvW F H As F' H' As' A) (d:Ak H As):cX H H':=fun a u h n=>e.ks a u h fun i m=>by
 obtain ⟨w,h2⟩:=d i a m
 rw [h] at h2
 cases h2
 rw [w.2] at n
 cases n
theorem EvW.old {F H F' H':Hp} {As As':Nat->List Addr} {A:List Addr} (e:EvW F H As F' H' As' A) {a:Addr} (n:H' a = none):(∃ j,a ∈ As j) \/ H a = none:=by
 by_cases h:∃ j,a ∈ As j
 . exact .inl h
 . refine .inr ?_
   cases q:H a with
   | none=>rfl
   | some u=>rw [e.ks a u q fun i m=>h ⟨i,m⟩] at n;cases n
theorem EvW.seq {F H F1 H1 F2 H2:Hp} {As As1 As2:Nat->List Addr} {A B:List Addr} (a:EvW F H As F1 H1 As1 A) (b:EvW F1 H1 As1 F2 H2 As2 B) (dA:∀ x ∈ A,∃ u:MO,H1 x = some u.1):EvW F H As F2 H2 As2 (A ++ B) where
 fs:=a.fs.trans b.fs
 ks:=fun x u e h=>b.ks x u (a.ks x u e h) fun i m=>by
  rcases a.fa i x m with ⟨j,z⟩ | z
  . exact h j z
  . rw [e] at z;cases z
 nf:=fun x vs e n h=>b.nf x vs (a.ks x _ e h) (a.nf x vs e n h) fun i m=>by
  rcases a.fa i x m with ⟨j,z⟩ | z
  . exact h j z
  . rw [e] at z;cases z
 fa:=fun i x m=>by
  rcases b.fa i x m with ⟨j,z⟩ | z
  . exact a.fa j x z
  . exact a.old z
 fA:=fun x m=>by
  rcases Zr.mp m with z | z
  . exact a.fA x z
  . rcases b.fA x z with ⟨j,y⟩ | y
    . exact a.fa j x y
    . exact a.old y
 nd:=by
  refine List.nodup_append.mpr ⟨a.nd,b.nd,fun x hx y hy e=>?_⟩
  subst e
  rcases b.fA x hy with ⟨j,z⟩ | z
  . exact a.dj j x z hx
  . obtain ⟨vs,e⟩:=dA x hx
    rw [z] at e;cases e
 dj:=fun i x m z=>by
  rcases Zr.mp z with z | z
  . rcases b.fa i x m with ⟨j,y⟩ | y
    . exact a.dj j x y z
    . obtain ⟨vs,e⟩:=dA x z
      rw [y] at e;cases e
  . exact b.dj i x m z
theorem EvW.bare {F H F' H':Hp} {As As':Nat->List Addr} {A:List Addr} (e:EvW F H As F' H' As' A):EvW F H As F' H' As' []:=⟨e.fs,e.ks,e.nf,e.fa,fun _ m=>(nomatch m),Zw,fun _ _ _ z=>(nomatch z)⟩
theorem EvW.grow {F H F' H' H2:Hp} {As As':Nat->List Addr} {A:List Addr} (e:EvW F H As F' H' As' A) (s:Same H' H2):EvW F H As F' H2 As' A:=⟨e.fs,fun a u h n=>s a u (e.ks a u h n),e.nf,e.fa,e.fA,e.nd,e.dj⟩
theorem EvW.stays {K:PySem.W.Frag} {F1 H1 F2 H2:Hp} {As1 As2:Nat->List Addr} {A B:List Addr} {v:V} {d:D} (b:EvW F1 H1 As1 F2 H2 As2 B) (dm:Ak H1 As1) (r:RepO K F1 H1 v d A) (dj:∀ i a,a ∈ As1 i->a ∉ A):RepO K F2 H2 v d A:=by
 have h1:RepO K F1 H2 v d A:=r.frame (b.ki dm) fun a m=>by
  obtain ⟨⟨vs,e⟩,_⟩:=r.dom a m
  rw [e];exact b.ks a _ e fun i z=>dj i a z m
 refine h1.froz b.fs fun a m=>?_
 obtain ⟨⟨vs,e⟩,n⟩:=r.dom a m
 exact b.nf a vs e n fun i z=>dj i a z m
def upW (K:PySem.W.Frag) (f:FM):TE:=fun σ H Q=>∃ F δ As d δ',RepA K F H σ δ As/\f δ = some (d,δ')/\∀ v F' H' A As',EvW F H As F' H' As' A->RepA K F' H' σ δ' As'->RepO K F' H' v d A->Q v H'
def Bl (K:PySem.W.Frag) (n:Nat) (f:FMA):TA:=fun σ H Q=>∃ F δ As ds δ',RepA K F H σ δ As/\f δ = some (ds,δ')/\∀ vs F' H' A As',EvW F H As F' H' As' A->RepA K F' H' σ δ' As'->RepOs K F' H' vs ds A->vs.length = n->Q vs H'
def PW (X:Cx) (e:Expr) (f:FM):Prop:=PE X e (upW X.K f)
def PWA (X:Cx) (es:List Expr) (f:FMA):Prop:=PA X es (Bl X.K es.length f)
section
variable {X:Cx} {e a b:Expr} {es:List Expr} {f:FD} {fm fa fb:FM} {g:FMA} {ga:FA} {pos p:Pos}
theorem fH (h:PV X e fm):PW X e fm:=imp h fun σ H Q ⟨F,δ,As,d,δ',R,q,k⟩=>⟨F,δ,As,d,δ',R,q,fun v F' H' A As' ev R' r'=>k v F' H' A As' ev.toW R' r'⟩
theorem kh:PWA X [] bc:=ol eU fun σ H Q ⟨F,δ,As,ds,δ',R,q,k⟩=>by
 cases q
 exact k [] F H [] As (Ev.pure (Same.refl H)).toW R .nil rfl
theorem eQ (ha:PW X e fm) (hr:PWA X es g) (hs:starEach (e :: es) X.env = (false,eval e X.env) :: starEach es X.env:=by rfl):PWA X (e :: es) (aB fm g):=ol (cV ha hr hs) fun σ H Q ⟨F,δ,As,ds,δ',R,q,k⟩=>by
 unfold aB at q
 obtain ⟨⟨d1,δ1⟩,e1,q⟩:=Za.mp q
 obtain ⟨⟨ds2,δ2⟩,e2,q⟩:=Za.mp q
 cases q
 refine ⟨F,δ,As,d1,δ1,R,e1,fun v F1 H1 A As1 ev1 R1 r1=>⟨F1,δ1,As1,ds2,δ2,R1,e2,fun vs F2 H2 B As2 ev2 R2 r2 l=>?_⟩⟩
 exact k (v :: vs) F2 H2 (A ++ B) As2 (ev1.seq ev2 fun x m=>(r1.dom x m).1) R2 (.cons (ev2.stays R1.domA r1 ev1.dj) r2 rfl) (congrArg (· + 1) l)
theorem vk {x1} (h:PWA X es g) (hz:es.length <= 1000:=by decide):PW X (.Tuple es x1 pos) (bm g):=imp (qG h) fun σ H Q ⟨F,δ,As,d,δ',R,q,k⟩=>by
 unfold bm at q
 obtain ⟨⟨ds,δ1⟩,e1,q⟩:=Za.mp q
 cases q
 refine ⟨F,δ,As,ds,_,R,e1,fun vs F1 H1 A As1 ev R1 r1 l=>⟨cq (by rw [l];exact hz),fun p hp=>?_⟩⟩
 have s:=bB hp (.tup vs)
 refine k _ F1 _ A As1 (ev.grow s) (R1.grow s) (.tup (SqT.of aX) (r1.frame (bJ s) fun a m=>?_))
 obtain ⟨⟨ws,e⟩,_⟩:=r1.dom a m
 rw [e];exact s a _ e
theorem yR (h:PWA X es g) (hz:es.length <= 1000:=by decide):PW X (.List es pos) (bj g):=imp (qH h) fun σ H Q ⟨F,δ,As,d,δ',R,q,k⟩=>by
 unfold bj at q
 obtain ⟨⟨ds,δ1⟩,e1,q⟩:=Za.mp q
 cases q
 refine ⟨F,δ,As,ds,_,R,e1,fun vs F1 H1 A As1 ev R1 r1 l=>⟨cq (by rw [l];exact hz),fun p hp=>?_⟩⟩
 have s:=bB hp (.lst vs)
 have np:F1 p = none:=by
  cases q:F1 p with
  | none=>rfl
  | some o=>rw [R1.fz p o q] at hp;cases hp
 have ev':EvW F H As F1 (upd H1 p (.lst vs)) As1 (p :: A):=⟨ev.fs,(ev.grow s).ks,ev.nf,ev.fa,fun a m=>by
  rcases Zs.mp m with z | z
  . subst z;exact ev.old hp
  . exact ev.fA a z,List.nodup_cons.mpr ⟨fun m=>(by
    obtain ⟨⟨ws,e⟩,_⟩:=r1.dom p m
    rw [hp] at e;cases e),ev.nd⟩,fun i a m z=>by
  rcases Zs.mp z with z | z
  . subst z
    obtain ⟨⟨ws,e⟩,_⟩:=R1.dom m
    rw [hp] at e;cases e
  . exact ev.dj i a m z⟩
 refine k _ F1 _ (p :: A) As1 ev' (R1.grow s) (.lst aX np (r1.frame (bJ s) fun a m=>?_))
 obtain ⟨⟨ws,e⟩,_⟩:=r1.dom a m
 rw [e];exact s a _ e
def iL (g:D->D->Option D) (fa fb:FM):FM:=fun δ=>(fa δ).bind fun p=>(fb p.2).bind fun q=>(g p.1 q.1).bind fun d=>if imm d then some (d,q.2) else none
theorem yg {r:R2} {g:D->D->Option D} (hg:R2D X.K r g) {σ:L2.St} {H:Hp} {Q:VK} (h:upW X.K (iL g fa fb) σ H Q):tOp r (upW X.K fa) (upW X.K fb) σ H Q:=by
 obtain ⟨F,δ,As,d,δ',R,q,k⟩:=h
 unfold iL at q
 obtain ⟨⟨d1,δ1⟩,e1,q⟩:=Za.mp q
 obtain ⟨⟨d2,δ2⟩,e2,q⟩:=Za.mp q
 obtain ⟨d3,e3,q⟩:=Za.mp q
 dsimp only at e2 e3 q
 split at q
 . rename_i hi
   cases q
   refine ⟨F,δ,As,d1,δ1,R,e1,fun v F1 H1 A As1 ev1 R1 r1=>⟨F1,δ1,As1,d2,_,R1,e2,fun w F2 H2 B As2 ev2 R2 r2=>?_⟩⟩
   have r1':=(ev2.stays R1.domA r1 ev1.dj).rep R2.fz
   refine hg v w H2 Q d1 d2 d r1' (r2.rep R2.fz) e3 fun z H' s3 rz=>?_
   exact k z F2 H' [] As2 ((ev1.seq ev2 fun x m=>(r1.dom x m).1).grow s3).bare (R2.grow s3) (.imm hi rz)
 . cases q
theorem AN {op:Operator} {r:R2} {g:D->D->Option D} (ho:OpR X (binaryOp op) r) (hg:R2D X.K r g) (ha:PW X a fa) (hb:PW X b fb):PW X (.BinOp a op b pos) (iL g fa fb):=imp (sH ho ha hb) fun _ _ _=>yg hg
theorem yU (ha:PW X a fa) (hb:PW X b fb):PW X (.BinOp a .Add b pos) (iL jH fa fb):=AN (op_add.or nZ) ((jW fun _ _ _=>.int _).or vi) ha hb
theorem vm (ha:PW X a fa) (hb:PW X b fb) (hs:kE b:=by intro _ _;rfl):PW X (.Subscript a b pos) (iL gIx fa fb):=imp (x6 (ix_list.or vZ) ha hb hs) fun _ _ _=>yg x5
end
def Br (K:PySem.W.Frag) (i n:Nat) (g:FA):TA:=fun σ H Q=>∃ F δ As ds,RepA K F H σ δ As/\g δ = some ds/\∀ vs H',Same H H'->Reps K (g7 H' (As i)) vs ds->vs.length = n->Q vs H'
def PAW (X:Cx) (i:Nat) (es:List Expr) (g:FA):Prop:=PA X es (Br X.K i es.length g)
theorem nh {H H':Hp} {A:List Addr} (s:Same H H'):Same (g7 H A) (g7 H' A):=fun a u e=>by
 unfold g7 at e ⊢
 split at e
 . cases e
 . rename_i h
   rw [if_neg h]
   exact s a u e
theorem pO {H:Hp} {A:List Addr} (d:∀ a ∈ A,∃ u:MO,H a = some u.1):cX H (g7 H A):=fun a u e n=>by
 by_cases h:a ∈ A
 . obtain ⟨w,h2⟩:=d a h
   rw [e] at h2
   cases h2
   rw [w.2] at n
   cases n
 . rw [gF h];exact e
def di:FA:=fun _=>some []
def dF (f:FD) (g:FA):FA:=fun δ=>(f δ).bind fun d=>if imm d then (g δ).bind fun ds=>some (d :: ds) else none
def rN (i j:Nat) (g:FA):FA:=fun δ=>match δ[j]? with
 | some (some d)=>if i = j then none else (g δ).bind fun ds=>some (d :: ds)
 | _=>none
section
variable {X:Cx} {e:Expr} {es:List Expr} {f:FD} {g:FA} {pos:Pos} {i:Nat}
theorem cJ:PAW X i [] di:=ol eU fun σ H Q ⟨F,δ,As,ds,R,q,k⟩=>by
 cases q
 exact k [] H (Same.refl H) .nil rfl
theorem db (ha:PD X e f) (hr:PAW X i es g) (hs:starEach (e :: es) X.env = (false,eval e X.env) :: starEach es X.env:=by rfl):PAW X i (e :: es) (dF f g):=ol (cV ha hr hs) fun σ H Q ⟨F,δ,As,ds,R,q,k⟩=>by
 unfold dF at q
 obtain ⟨d,ed,q⟩:=Za.mp q
 split at q
 . rename_i hi
   obtain ⟨ds',es',q⟩:=Za.mp q
   cases q
   refine ⟨δ,d,R.toS,ed,fun v H1 s1 r1=>⟨F,δ,As,ds',R.grow s1,es',fun vs H2 s2 r2 l=>?_⟩⟩
   refine k (v :: vs) H2 (s1.trans s2) (.cons ((gW (pO fun a m=>?_) r1 hi).mono (nh s2)) r2) (congrArg (· + 1) l)
   exact ((R.grow s1).dom m).1
 . cases q
theorem sJ (j:Nat) {x:Str} (hr:PAW X i es g) (hN:X.N[j]? = some x:=by rfl) (hv:Vis X.env.scope x:=by first | exact Or.inl rfl | exact Or.inr (Or.inl rfl) | exact Or.inr (Or.inr rfl)) (hd:(x == ("__debug__":Str)) = false:=by decide) (hcd:(x == ("__classdict__":Str)) = false:=by decide)
 (hs:starEach (.Name x pos :: es) X.env = (false,eval (.Name x pos) X.env) :: starEach es X.env:=by rfl):PAW X i (.Name x pos :: es) (rN i j g):=ol (cV (iR hN hv hd hcd) hr hs) fun σ H Q ⟨F,δ,As,ds,R,q,k⟩=>by
 unfold rN at q
 split at q
 . rename_i d hj
   split at q
   . cases q
   . rename_i hne
     obtain ⟨ds',es',q⟩:=Za.mp q
     cases q
     obtain ⟨v,h1,h2⟩:=R.val j d hj
     refine ⟨v,h1,F,δ,As,ds',R,es',fun vs H2 s2 r2 l=>k (v :: vs) H2 s2 (.cons ?_ r2) (congrArg (· + 1) l)⟩
     have h3:=h2.frame (H':=g7 H (As i)) (pO fun a m=>(R.dom m).1) fun a m=>gF (R.dj j i a (Ne.symm hne) m)
     refine (h3.rep fun a u e=>?_).mono (nh s2)
     rw [gF fun m=>?_]
     . exact R.fz a u e
     . rw [(R.dom m).2] at e;cases e
 . cases q
end
def oQ (K:PySem.W.Frag) (n:Nat) (G:List D->Option (D × D)):Sp:=fun vs H Q _=>vs.length = n/\∃ v0 ws F d0 A0 es d0' r,vs = v0 :: ws/\Same F H/\RepO K F H v0 d0 A0/\A0.Nodup/\Reps K F ws es /\
 G (d0 :: es) = some (d0',r)/\∀ v F' H' A0' A,Same F F'->Same F' H'->RepO K F' H' v0 d0' A0'->RepO K F' H' v r A->(A0' ++ A).Nodup->Q v H'
structure me (P:Program) (w:World) (K:PySem.W.Frag) (mg:Str->Option Value) (base:Heap) (k:Nat) (x:Str) (ps:List Str) (G:List D->Option (D × D)):Prop where
 ex:∃ f fd,FnOk P w K mg base CX0 k f fd ps (oQ K ps.length G)/\mg x = some (.ref f)/\PySem.W.keepIn K (.ref f) = true/\Binds K fd ps []
def bY (i:Nat) (G:List D->Option (D × D)) (g:FA):FM:=fun δ=>match δ[i]? with
 | some (some d0)=>(g δ).bind fun es=>(G (d0 :: es)).bind fun p=>if own p.1 = true/\own p.2 = true then some (p.2,δ.set i (some p.1)) else none
 | _=>none
theorem cH {X:Cx} {es:List Expr} {g:FA} {px pos p:Pos} {k l:Nat} {x y:Str} {ps:List Str} {G:List D->Option (D × D)} (i:Nat) (F:me X.prog X.w X.K X.mg X.base k x ps G) (hr:Room l X.A) (ha:PAW X i es g) (hk:k <= l:=by decide) (hg:Gl X x:=by rfl)
 (hN:X.N[i]? = some y:=by rfl) (hv:Vis X.env.scope y:=by first | exact Or.inl rfl | exact Or.inr (Or.inl rfl) | exact Or.inr (Or.inr rfl)) (hd:(y == ("__debug__":Str)) = false:=by decide) (hcd:(y == ("__classdict__":Str)) = false:=by decide)
 (hn:es.length + 1 = ps.length:=by rfl) (hdb:(x == ("__debug__":Str)) = false:=by decide) (he:starEach (.Name y px :: es) X.env = (false,eval (.Name y px) X.env) :: starEach es X.env:=by rfl) (hpl:(backTo pos (starEach es X.env)).any (·.1) = false:=by rfl) :
 PW X (.Call (.Name x p) (.Name y px :: es) [] pos) (bY i G g):=by
 obtain ⟨f,fd,F,hm,kp,hb⟩:=F.ex
 refine imp (ku F (hr.mono hk) hg hm kp hb .nil sK (cV (iR hN hv hd hcd) ha he) hdb he hpl) fun σ H Q ⟨F0,δ,As,d,δ',R,q,k⟩=>?_
 unfold bY at q
 split at q
 . rename_i d0 hi
   obtain ⟨ds,eds,q⟩:=Za.mp q
   obtain ⟨⟨d0',r⟩,eG,q⟩:=Za.mp q
   dsimp only at q
   split at q
   . rename_i ho
     cases q
     obtain ⟨v0,s0,r0⟩:=R.val i _ hi
     refine ⟨v0,s0,F0,δ,As,ds,R,eds,fun vs H1 t1 rr lv=>?_⟩
     show oQ X.K ps.length G ((v0 :: vs) ++ []) H1 _ E0
     rw [Zk]
     have R1:=R.grow t1
     obtain ⟨v0',s0',r1⟩:=R1.val i _ hi
     rw [s0] at s0'
     cases s0'
     have il:i < δ.length:=(List.getElem?_eq_some_iff.mp hi).1
     have sF:Same F0 (g7 H1 (As i)):=fun a u e=>by
      rw [gF fun m=>?_]
      . exact R1.fz a u e
      . rw [(R1.dom m).2] at e;cases e
     refine ⟨by simp [lv,hn],v0,vs,g7 H1 (As i),d0,As i,ds,d0',d,rfl,tZ,r1.froz sF fun a m=>qi m,R1.nd i,rr,eG,fun v F' H' A0' A sf sh w0 wr nd=>?_⟩
     have nd2:=List.nodup_append.mp nd
     have kb:∀ a u,H1 a = some u->a ∉ As i->H' a = some u/\F' a ≠ none:=fun a u e m=>by
      have b:g7 H1 (As i) a = some u:=by rw [gF m];exact e
      have c:=sf a u b
      exact ⟨sh a u c,by rw [c];exact fun z=>nomatch z⟩
     have oth:∀ kx a,kx ≠ i->a ∈ As kx->H' a = H1 a/\F' a ≠ none:=fun kx a h1 m=>by
      obtain ⟨⟨ws,h⟩,_⟩:=R1.dom m
      have:=kb a _ h (R1.dj kx i a h1 m)
      exact ⟨by rw [h];exact this.1,this.2⟩
     have new:∀ a,F' a = none->(∃ j,a ∈ As j) \/ H a = none:=fun a n=>by
      by_cases m:a ∈ As i
      . exact .inl ⟨i,m⟩
      . refine .inr ?_
        cases z:H a with
        | none=>rfl
        | some u=>exact absurd n (kb a u (t1 a u z) m).2
     have ev:EvW F0 H As F0 H' (g8 As i A0') A:=⟨Same.refl _,fun a u e h=>(kb a u (t1 a u e) (h i)).1,fun _ _ _ n _=>n,fun kx a m=>by
      by_cases hkx:kx = i
      . subst hkx
        rw [ba] at m
        exact new a (w0.dom a m).2
      . rw [bi hkx] at m;exact .inl ⟨kx,m⟩,fun a m=>new a (wr.dom a m).2,nd2.2.1,fun kx a m z=>by
      by_cases hkx:kx = i
      . subst hkx
        rw [ba] at m
        exact nd2.2.2 a m a z rfl
      . rw [bi hkx] at m
        exact (oth kx a hkx m).2 (wr.dom a z).2⟩
     have kI:cX H1 H':=fun a u e nl=>(kb a u e fun m=>by
      obtain ⟨⟨w,h⟩,_⟩:=R1.dom m
      rw [e] at h;cases h;rw [w.2] at nl;cases nl).1
     exact k v F0 H' A (g8 As i A0') ev (R1.write il s0 kI ((sF.trans sf).trans sh) (fun j a hj m=>(oth j a hj m).1) (w0.thaw (sF.trans sf) ho.1) nd2.1 fun j a hj m z=>(oth j a hj m).2 (w0.dom a z).2) (wr.thaw (sF.trans sf) ho.2)
   . cases q
 . cases q
end Dl
namespace Dl
open PySem PySem.Spec PyProof.Rows L2
def RPW (X:Cx) (Z:L2.St->Prop) (E:mh) (F:Hp):Res->Prop
 | .nx δ=>∀ σ' F' H',Same F F'->fg X.K F' H' σ' δ->Z σ'->E.nx σ' H'
 | .rt d=>∃ r p,d = .tup [r,p]/\∀ v σ' δ' F' H' A As,Same F F'->RepA X.K F' H' σ' δ' As->Z σ'->δ'[0]? = some (some p)->RepO X.K F' H' v r A->A.Nodup->(∀ i a,a ∈ As i->a ∉ A)->E.rt v H'
 | .bk δ=>∀ σ' F' H',Same F F'->fg X.K F' H' σ' δ->Z σ'->E.bk σ' H'
 | .ct δ=>∀ σ' F' H',Same F F'->fg X.K F' H' σ' δ->Z σ'->E.ct σ' H'
 | .ex _ _=>False
 | .mk _ _=>False
theorem RPW.mono {X:Cx} {Z:L2.St->Prop} {E:mh} {F F1:Hp} {r:Res} (s:Same F F1) (h:RPW X Z E F r):RPW X Z E F1 r:=by
 cases r with
 | nx δ=>exact fun σ' F' H' s2 R=>h σ' F' H' (s.trans s2) R
 | rt d=>obtain ⟨r,p,e,q⟩:=h;exact ⟨r,p,e,fun v σ' δ' F' H' A As s2=>q v σ' δ' F' H' A As (s.trans s2)⟩
 | bk δ=>exact fun σ' F' H' s2 R=>h σ' F' H' (s.trans s2) R
 | ct δ=>exact fun σ' F' H' s2 R=>h σ' F' H' (s.trans s2) R
 | ex C δ=>exact h
 | mk C δ=>exact h
def upU (X:Cx) (Z:L2.St->Prop) (s:SD):TS:=fun E σ H=>∃ F δ r,fg X.K F H σ δ/\Z σ/\s δ = some r/\RPW X Z E F r
def PUD (X:Cx) (Z:L2.St->Prop) (st:Stmt) (s:SD):Prop:=PS X st (upU X Z s)
def PUs (X:Cx) (Z:L2.St->Prop) (sts:List Stmt) (s:SD):Prop:=PSs X sts (upU X Z s)
def wO (Z:L2.St->Prop):Prop:=∀ i,1 <= i->∀ σ v,Z σ->Z (σ.set i (some v))
def jc (f:FM):SD:=fun δ=>(f δ).bind fun p=>match p.2[0]? with
 | some (some d)=>some (.rt (.tup [p.1,d]))
 | _=>none
theorem sQ {Z:L2.St->Prop} {H:Hp} {Q Q':L2.St->Hp->Prop} (zk:wO Z):∀ (is:List Nat) {vs:List V} {σ:L2.St},(∀ i ∈ is,1 <= i)->Z σ->(∀ σ' H',Q' σ' H'->Z σ'->Q σ' H')->fP is vs σ H Q'->fP is vs σ H Q
 | [],_,_,_,z,k,h=>⟨h.1,k _ _ h.2 z⟩
 | i :: is,_,σ,hi,z,k,⟨v,ws,e,h⟩=>⟨v,ws,e,sQ zk is (fun j m=>hi j (Zp _ m)) (zk i (hi i Zo) σ v z) k h⟩
section
variable {X:Cx} {Z:L2.St->Prop} {st:Stmt} {rest:List Stmt} {s u:SD} {e ei:Expr} {fk fl:FD} {fm:FM} {c:FT} {pos p1 p2:Pos}
theorem nP:PUs X Z [] aZ:=m7 nU fun E σ H ⟨F,δ,r,R,hz,e,k⟩=>by cases e;exact k σ F H (Same.refl F) R hz
theorem cz (h1:PUD X Z st s) (h2:PUs X Z rest u):PUs X Z (st :: rest) (aO s u):=m7 (lf h1 h2) fun E σ H ⟨F,δ,r,R,hz,e,k⟩=>by
 unfold aO at e
 obtain ⟨r1,e1,e⟩:=Za.mp e
 refine ⟨F,δ,r1,R,hz,e1,?_⟩
 cases r1 with
 | nx δ'=>exact fun σ' F' H' s1 R1 z1=>⟨F',δ',r,R1,z1,e,k.mono s1⟩
 | rt d=>cases e;exact k
 | bk d=>cases e;exact k
 | ct d=>cases e;exact k
 | ex C d=>cases e;exact k
 | mk C d=>cases e;exact k
theorem gx (h:PUD X Z st s):PUs X Z [st] s:=nS h
theorem ss {cx:Expr} {a b:List Stmt} (hc:PTD X cx c) (ha:PUs X Z a s) (hb:PUs X Z b u):PUD X Z (.If cx a b pos) (sIf c s u):=fU (vv hc ha hb) fun E σ H ⟨F,δ,r,⟨As,R⟩,hz,q,k⟩=>by
 unfold sIf at q
 obtain ⟨d,ed,q⟩:=Za.mp q
 refine ⟨δ,d,R.toS,ed,fun H' s1=>?_⟩
 cases d with
 | true=>rw [if_pos rfl];exact ⟨F,δ,r,⟨As,R.grow s1⟩,hz,q,k⟩
 | false=>rw [if_neg Bool.false_ne_true];exact ⟨F,δ,r,⟨As,R.grow s1⟩,hz,q,k⟩
theorem eR (i:Nat) {x:Str} {pos':Pos} (zk:wO Z) (hN:X.N.Nodup) (he:PW X e fm) (h2:1 <= i:=by decide) (hi:X.N[i]? = some x:=by rfl) (hx:Loc X.env.scope x:=by first | exact Or.inl rfl | exact Or.inr rfl) (hs:swapsWith e (some (.Name x pos')) pos.line X.env = pure false:=by rfl) (hf:X.fn x = true \/ X.env.scope.names.lookup x = some .local:=by first | exact .inl rfl | exact .inr rfl | assumption) :
 PUD X Z (.Assign [.Name x pos'] e pos) (av i fm):=fU (nV hN hi hx he hs hf) fun E σ H ⟨F,δ,r,⟨As,R⟩,hz,q,k⟩=>by
 unfold av at q
 obtain ⟨⟨d,δ'⟩,ed,q⟩:=Za.mp q
 cases q
 exact ⟨F,δ,As,d,δ',R,ed,fun v F' H' A As' ev R' r'=>k (σ.set i (some v)) F' H' ev.fs (R'.setM i r' ev.nd ev.dj) (zk i h2 σ v hz)⟩
theorem sB (i:Nat) {x:Str} {pos':Pos} (hN:X.N.Nodup) (he:PW X e fm) (hi:X.N[i]? = some x:=by rfl) (hx:Loc X.env.scope x:=by first | exact Or.inl rfl | exact Or.inr rfl) (hs:swapsWith e (some (.Name x pos')) pos.line X.env = pure false:=by rfl) (hf:X.fn x = true \/ X.env.scope.names.lookup x = some .local:=by first | exact .inl rfl | exact .inr rfl | assumption) :
 PMD X (.Assign [.Name x pos'] e pos) (av i fm):=fU (nV hN hi hx he hs hf) fun E σ H ⟨F,δ,r,⟨As,R⟩,q,k⟩=>by
 unfold av at q
 obtain ⟨⟨d,δ'⟩,ed,q⟩:=Za.mp q
 cases q
 exact ⟨F,δ,As,d,δ',R,ed,fun v F' H' A As' ev R' r'=>k (σ.set i (some v)) F' H' ev.fs (R'.setM i r' ev.nd ev.dj)⟩
theorem AO {es:List Expr} {kt:Nat} {pt:Pos} (is:List Nat) (zk:wO Z) (he:PW X e fm) (hg:PG X (.Tuple es kt pt) (we X.K is.length (fP is))) (h2:∀ i ∈ is,1 <= i:=by decide)
 (hs:swapsWithSole [.Tuple es kt pt] e pos.line X.env = pure false:=by rfl) (hw:swappedStores [.Tuple es kt pt] e X.env = pure none:=by rfl)
 (h1:(assignEach [.Tuple es kt pt] X.env).map (·.2) = [assign (.Tuple es kt pt) X.env]:=by rfl):PUD X Z (.Assign [.Tuple es kt pt] e pos) (oZ is fm):=fU (qD he hg hs hw h1) fun E σ H ⟨F,δ,r,⟨As,R⟩,hz,q,k⟩=>by
 unfold oZ at q
 obtain ⟨⟨d,δ'⟩,ed,q⟩:=Za.mp q
 dsimp only at q
 split at q
 . rename_i ds
   split at q
   . rename_i hl
     cases q
     refine ⟨F,δ,As,_,δ',R,ed,fun v F' H' A As' ev R' r'=>?_⟩
     obtain ⟨a,vs,rfl,sq,ro⟩:=r'.parts
     exact ⟨a,vs,rfl,sq,ro.len.trans hl.1,sQ zk is h2 hz (fun σ' H' h z=>h.2 z) (jn (Q:=fun σ' H2=>H2 = H'/\(Z σ'->E.nx σ' H2)) is ro ev.nd ev.dj R' hl.1 hl.2 fun σ' R2=>⟨rfl,k σ' F' H' ev.fs R2⟩)⟩
   . cases q
 . cases q
theorem k8 (he:PW X e fm):PUD X Z (.Return (some e) pos) (jc fm):=fU (qB he) fun E σ H ⟨F,δ,r,⟨As,R⟩,hz,q,k⟩=>by
 unfold jc at q
 obtain ⟨⟨d,δ'⟩,ed,q⟩:=Za.mp q
 dsimp only at q
 split at q
 . rename_i p hp
   cases q
   obtain ⟨r,p',e,q⟩:=k
   cases e
   exact ⟨F,δ,As,d,δ',R,ed,fun v F' H' A As' ev R' r'=>q v σ δ' F' H' A As' ev.fs R' hz hp r' ev.nd ev.dj⟩
 . cases q
theorem vp (i:Nat) {x:Str} (he:PV X e fm) (hk:PD X ei fk) (hN:X.N[i]? = some x:=by rfl) (hv:Vis X.env.scope x:=by first | exact Or.inl rfl | exact Or.inr (Or.inl rfl) | exact Or.inr (Or.inr rfl)) (hd:(x == ("__debug__":Str)) = false:=by decide) (hcd:(x == ("__classdict__":Str)) = false:=by decide)
 (hs:swapsWithSole [.Subscript (.Name x p1) ei p2] e pos.line X.env = pure false:=by rfl) (hw:swappedStores [.Subscript (.Name x p1) ei p2] e X.env = pure none:=by rfl)
 (h1:(assignEach [.Subscript (.Name x p1) ei p2] X.env).map (·.2) = [assign (.Subscript (.Name x p1) ei p2) X.env]:=by rfl)
 (hA:∀ v,assign (.Subscript (.Name x p1) ei p2) X.env v = (do
  let ov <- holding [v] (eval (.Name x p1) X.env)
  let iv <- holding [v,ov] (eval ei X.env)
  standAt p2
  holding [v,ov,iv] (setItem ov iv v)
  release [v,ov,iv] []):=by intro _;rfl) :
 PUD X Z (.Assign [.Subscript (.Name x p1) ei p2] e pos) (wZ i fk fm) :=
 fU (qD he (zl (iR hN hv hd hcd) hk vb hA) hs hw h1) fun E σ H ⟨F,δ,r,⟨As,R⟩,hz,q,k⟩=>by
 unfold wZ at q
 obtain ⟨⟨d,δ'⟩,ed,q⟩:=Za.mp q
 dsimp only at q
 split at q
 . rename_i ds h1
   obtain ⟨kd,ek,q⟩:=Za.mp q
   split at q
   . rename_i kk
     obtain ⟨j,hj,q⟩:=Za.mp q
     cases q
     refine ⟨F,δ,As,d,δ',R,ed,fun v F' H' A As' ev R' r'=>?_⟩
     obtain ⟨a,vs,A0,s1,eA,g1,n1,ro⟩:=R'.lst h1
     refine ⟨.ref a,s1,δ',.int kk,R'.toS,ek,fun iv H2 s2 ri=>?_⟩
     cases ri
     have R2:=R'.grow s2
     have r2:RepO X.K F' H2 v d A:=r'.frame (bJ s2) fun x m=>by
      obtain ⟨⟨ws,e⟩,_⟩:=r'.dom x m
      rw [e];exact s2 x _ e
     obtain ⟨a2,vs2,A2,s12,eA2,g2,n2,ro2⟩:=R2.lst h1
     have ea:a2 = a:=by rw [s1] at s12;cases s12;rfl
     subst ea
     refine ⟨a2,vs2,kk,j,rfl,rfl,g2,by rw [ro2.length];exact hj,?_⟩
     have jl:j < ds.length:=(oj hj).2.1
     obtain ⟨v0,A1,B,A3,_,rB,eA0,pk⟩:=ro2.pick (i:=j) (d:=ds[j]) (Zv jl)
     have rn:=pk (H':=H2) (fun _ _ e _=>e) (fun _ _=>rfl) r2
     have nd0:=R2.nd i
     rw [eA2,eA0] at nd0
     have nd1:=List.nodup_cons.mp nd0
     have nd2:=List.nodup_append.mp nd1.2
     have nd3:=List.nodup_append.mp nd2.2.1
     have inI:∀ y,y ∈ A1 \/ y ∈ A3->y ∈ As' i:=fun y m=>by
      rw [eA2,eA0]
      refine Zp _ ?_
      rcases m with m | m
      . exact List.mem_append_left _ m
      . exact List.mem_append_right _ (List.mem_append_right _ m)
     have ai:a2 ∈ As' i:=by rw [eA2];exact Zo
     refine k σ F' _ ev.fs (R2.wr h1 s12 eA2 g2 n2 rn (fun z=>?_) ?_ fun jj y hj m z=>?_) hz
     . rcases Zr.mp z with z | z
       . exact nd1.1 (List.mem_append_left _ z)
       . rcases Zr.mp z with z | z
         . exact ev.dj i a2 ai z
         . exact nd1.1 (List.mem_append_right _ (List.mem_append_right _ z))
     . refine List.nodup_append.mpr ⟨nd2.1,List.nodup_append.mpr ⟨ev.nd,nd3.2.1,fun y hy w hw e=>?_⟩,fun y hy w hw e=>?_⟩
       . subst e;exact ev.dj i y (inI y (.inr hw)) hy
       . subst e
         rcases Zr.mp hw with z | z
         . exact ev.dj i y (inI y (.inl hy)) z
         . exact nd2.2.2 y hy y (List.mem_append_right _ z) rfl
     . rcases Zr.mp z with z | z
       . exact R2.dj jj i y hj m (inI y (.inl z))
       . rcases Zr.mp z with z | z
         . exact ev.dj jj y m z
         . exact R2.dj jj i y hj m (inI y (.inr z))
   . cases q
 . cases q
theorem yZ (i:Nat) {c:Expr} (hc:PE X c (tBM X.K "list" nM (wV i) (u6 (upW X.K fm) yE))) (hs:swapsWith c none pos.line X.env = pure false:=by rfl):PUD X Z (.Expr c pos) (jd i fm):=fU (sA hc hs) fun E σ H ⟨F,δ,r,⟨As,R⟩,hz,q,k⟩=>by
 unfold jd at q
 split at q
 . rename_i ds0 h0
   obtain ⟨⟨d,δ'⟩,ed,q⟩:=Za.mp q
   dsimp only at q
   split at q
   . rename_i ds h1
     split at q
     . rename_i hl
       cases q
       obtain ⟨a,vs0,A00,s0,_,g0,_,_⟩:=R.lst h0
       refine ⟨.ref a,s0,.inl ⟨rfl,_,SqL.of g0⟩,F,δ,As,d,δ',R,ed,fun v F' H' A As' ev R' r'=>?_⟩
       obtain ⟨a1,vs,A0,s1,eA,g1,n1,ro⟩:=R'.lst h1
       have ea:a1 = a:=by rw [s0] at s1;cases s1;rfl
       subst ea
       refine ⟨a1,vs,v,rfl,rfl,g1,Nat.lt_of_le_of_lt (by rw [ro.length];exact hl) (jv (show 999 <= 1000 by decide)),?_⟩
       have nd0:=R'.nd i
       rw [eA] at nd0
       have nd1:=List.nodup_cons.mp nd0
       have ai:a1 ∈ As' i:=by rw [eA];exact Zo
       refine k σ F' _ ev.fs (R'.wr h1 s1 eA g1 n1 (ro.snoc r') (fun z=>?_) (List.nodup_append.mpr ⟨nd1.2,ev.nd,fun x hx y hy e=>?_⟩) fun j x hj m z=>?_) hz
       . rcases Zr.mp z with z | z
         . exact nd1.1 z
         . exact ev.dj i a1 ai z
       . subst e
         exact ev.dj i x (by rw [eA];exact Zp _ hx) hy
       . rcases Zr.mp z with z | z
         . exact R'.dj j i x hj m (by rw [eA];exact Zp _ z)
         . exact ev.dj j x m z
     . cases q
   . cases q
 . cases q
theorem yY {iter:Expr} {body:List Stmt} {src:FMA} {x:Str} {px:Pos} (i:Nat) (zk:wO Z) (hN:X.N.Nodup) (hp:PassesOwn (model X.prog X.w) X.A X.env X.xe) (hc:X.calm = true) (hi:PIM X (.Name x px) iter src) (hb:PUs X Z body s) (h2:1 <= i:=by decide)
 (hx:X.N[i]? = some x:=by rfl) (hl:Loc X.env.scope x:=by first | exact Or.inl rfl | exact Or.inr rfl) (hf:X.fn x = true \/ X.env.scope.names.lookup x = some .local:=by first | exact .inl rfl | exact .inr rfl | assumption)
 (hs:∀ x,foldedSetIterable iter X.env x = pure x:=by intro _;rfl):PUD X Z (.For (.Name x px) iter body [] pos) (jU src i s):=fU (qC hp hc hi (gz hN hx hl hf) hb hs) fun E σ H ⟨F,δ,r,⟨As,R⟩,hz,e,k⟩=>by
 unfold jU at e
 obtain ⟨⟨ds,δ1⟩,eds,e⟩:=Za.mp e
 refine ⟨F,δ,As,ds,δ1,R,eds,fun J F1 H1 As1 s1 R1 it=>?_⟩
 refine ⟨fun j m σ H=>m = ds.length - j/\j <= ds.length/\∃ F2 δ,Same F1 F2/\fg X.K F2 H σ δ/\Z σ/\forM i s (ds.drop j) δ = some r/\RPW X Z E F2 r,⟨ds.length,rfl,Nat.zero_le _,F1,δ1,Same.refl _,⟨As1,R1⟩,hz,e,k.mono s1⟩,?_⟩
 rintro j m σ H2 ⟨rfl,hjl,F2,δ2,s2,⟨As2,R2⟩,z2,e2,k2⟩
 by_cases hlt:j < ds.length
 . obtain ⟨go,yl⟩:=(it j H2 (s2.trans R2.fz)).1 hlt
   rw [List.drop_eq_getElem_cons hlt] at e2
   obtain ⟨r4,e4,e2⟩:=Za.mp (show ((s (δ2.set i (some (sh ds[j])))).bind _) = some r from e2)
   refine .inr ⟨go,fun σ' H'=>∃ F3 δ,Same F1 F3/\fg X.K F3 H' σ' δ/\Z σ'/\forM i s (ds.drop (j + 1)) δ = some r/\RPW X Z E F3 r,fun σ' H' z=>⟨ds.length - (j + 1),by omega,rfl,hlt,z⟩,fun y H' yy=>?_⟩
   obtain ⟨eH,d,hd,rx⟩:=yl y H' yy
   subst eH
   have hd':d = ds[j]:=by
    rw [Zv hlt] at hd
    exact (Option.some.inj hd).symm
   subst hd'
   have R3:=R2.setM i (RepO.of_sh R2.fz (rx.mono s2)) Zw fun _ _ _ z=>nomatch z
   refine ⟨F2,δ2.set i (some (sh ds[j])),r4,R3,zk i h2 σ y z2,e4,?_⟩
   cases r4 with
   | nx δ'=>exact fun σ' F' H'' s4 R4 z4=>⟨F',δ',s2.trans s4,R4,z4,e2,k2.mono s4⟩
   | ct δ'=>exact fun σ' F' H'' s4 R4 z4=>⟨F',δ',s2.trans s4,R4,z4,e2,k2.mono s4⟩
   | bk δ'=>cases e2;exact k2
   | rt d=>cases e2;exact k2
   | ex C δ'=>cases e2;exact k2
   | mk C δ'=>cases e2;exact k2
 . have e:j = ds.length:=by omega
   subst e
   rw [List.drop_length] at e2
   cases e2
   exact .inl ⟨(it _ H2 (s2.trans R2.fz)).2 (Nat.le_refl _),k2 σ F2 H2 (Same.refl _) ⟨As2,R2⟩ z2⟩
end
def dc (n:Nat) (d0:D) (es:List D):DS:=some d0 :: ((shs es).map some ++ List.replicate (n - (es.length + 1)) none)
def asU (A0:List Addr):Nat->List Addr
 | 0=>A0
 | _=>[]
theorem o9 {K:PySem.W.Frag} {F H:Hp} {N:List Str} {v0:V} {ws:List V} {d0:D} {es:List D} {A0:List Addr} (s:Same F H) (r0:RepO K F H v0 d0 A0) (nd:A0.Nodup) (r:Reps K F ws es):fg K F H (L2.start N (v0 :: ws)) (dc N.length d0 es):=by
 have l:=r.length
 have l2:(shs es).length = es.length:=by rw [c7,Zl]
 refine ⟨asU A0,s,by unfold L2.start dc;simp [l,l2],fun i d q=>?_,fun i h=>?_,fun i=>?_,fun i j a hij m=>?_⟩
 . match i,q with
   | 0,q=>cases q;exact ⟨v0,rfl,r0⟩
   | i + 1,q =>
    have q':((shs es).map some ++ List.replicate (N.length - (es.length + 1)) none)[i]? = some (some d):=q
    have hi:i < es.length:=by
     by_cases hi:i < es.length
     . exact hi
     . rw [List.getElem?_append_right (by simpa [l2] using hi),List.getElem?_replicate] at q'
       split at q' <;> cases q'
    rw [List.getElem?_append_left (by simpa [l2] using hi),List.getElem?_map] at q'
    obtain ⟨e,h1,h2⟩:=Zb.mp q'
    cases h2
    rw [c7,List.getElem?_map] at h1
    obtain ⟨e0,h3,h4⟩:=Zb.mp h1
    subst h4
    obtain ⟨v,h5,h6⟩:=r.get h3
    refine ⟨v,?_,RepO.of_sh s h6⟩
    unfold L2.start
    show (ws.map some ++ _)[i]? = _
    rw [List.getElem?_append_left (by rw [Zl,l];exact hi),List.getElem?_map,h5]
    rfl
 . match i,h with
   | 0,h=>exact absurd rfl (h d0)
   | i + 1,_=>rfl
 . match i with
   | 0=>exact nd
   | i + 1=>exact Zw
 . match i,j,hij,m with
   | 0,0,hij,_=>exact absurd rfl hij
   | 0,j + 1,_,_=>exact fun z=>nomatch z
   | i + 1,_,_,m=>cases m
section
variable {P:Program} {w:World} {K:PySem.W.Frag} {mg:Str->Option Value} {base:Heap}
theorem jf {x qual:Str} {st:Stmt} {f:Addr} {fd:FuncData} {N ps:List Str} {k:Nat} {G:List D->Option (D × D)} (F:Fun K x qual st f fd) (S:aQ N ps (ak st))
 (hbody:∀ (cdv:Value) (A:Around) (outer:List Env) (s:Shared) (H:Hp) (E:XK) (Z:L2.St->Prop) (d0:D) (es:List D) (d0' r:D),Room k (A.deeper (envOfC qual (ak st) s.heap.objs.size f cdv))->wO Z->G (d0 :: es) = some (d0',r)->es.length + 1 = ps.length ->
  ∃ t,PUs (lV CX0 P w K mg base N qual (ak st) f cdv A outer s H E).nox Z (bR st) t/\t (dc N.length d0 es) = some (.rt (.tup [r,d0']))):FnOk P w K mg base CX0 (k + 1) f fd ps (oQ K ps.length G):=by
 refine F.ok S (fun vs H Q E h=>h.1) (fun cdv A outer s H vs Q E hr h=>?_)
 obtain ⟨hl,v0,ws,F0,d0,A0,es,d0',r,rfl,s0,r0,nd,rr,e,q⟩:=h
 obtain ⟨t,ht,hq⟩:=hbody cdv A outer s H E (fun σ=>σ[0]? = some (some v0)) d0 es d0' r hr (fun i hi σ v a=>by show (σ.set i (some v))[0]? = some (some v0);rw [List.getElem?_set_ne (by omega)];exact a) e (by rw [<- hl,Zm,rr.length])
 refine ⟨_,ht,F0,_,_,o9 s0 r0 nd rr,rfl,hq,r,d0',rfl,fun v σ' δ' F' H' A' As s1 R z g0 ra nd2 dj=>?_⟩
 obtain ⟨u0,h0,w0⟩:=R.val 0 _ g0
 rw [z] at h0
 cases h0
 exact q v F' H' (As 0) A' s1 R.fz w0 ra (List.nodup_append.mpr ⟨R.nd 0,nd2,fun a m b m' e=>by subst e;exact dj 0 a m m'⟩)
end
end Dl
namespace Dl
open PySem PySem.Spec PyProof.Rows L2
def ItN (K:PySem.W.Frag) (J:It) (ds:List D):Prop:=ItF K J (fun _=>none) ds
def mZ (felt:FM):List D->D->Option (List D × D)
 | [],p=>some ([],p)
 | d :: ds,p=>(felt [some d,some p]).bind fun q=>match q.2 with
  | [some _,some p']=>if imm q.1 then (mZ felt ds p').bind fun t=>some (q.1 :: t.1,t.2) else none
  | _=>none
def rQ (K:PySem.W.Frag) (felt:FM) (v0:V) (FB:Hp) (ds:List D) (t:List D × D) (i:Nat) (σ':L2.St) (H':Hp) (vs:List V):Prop :=
 ∃ F' As' o p xs rest,Same FB F'/\RepA K F' H' σ' [o,some p] As'/\As' 0 = []/\σ'[1]? = some (some v0)/\Reps K H' vs xs/\dN xs = true/\xs.length = i/\mZ felt (ds.drop i) p = some (rest,t.2)/\xs ++ rest = t.1
section
variable {X:Cx} {pins:List (Addr × Obj)} {σ:L2.St} {H₂:Hp} {s₂:Shared} {scope:Scope} {cl:List (Str × Addr)} {x:Str} {N:List Str} {C:Addr} {fp:List Addr} {ip:Nat}
theorem uP {K:PySem.W.Frag} {felt:FM} {v0 y v:V} {FB H' H5:Hp} {ds:List D} {t:List D × D} {i:Nat} {σ':L2.St} {vs:List V} {d:D} (h:rQ K felt v0 FB ds t i σ' H' vs) (hi:ds[i]? = some d) (im:imm d = true) (ry:Rep K H' y d) :
 ∃ T:VK->Prop,(∀ Q:VK,T Q->upW K felt (σ'.set 0 (some y)) H' Q)/\T fun v H5=>rQ K felt v0 FB ds t (i + 1) (σ'.set 0 (some y)) H5 (vs ++ [v]):=by
 refine ⟨fun Q=>upW K felt (σ'.set 0 (some y)) H' Q,fun Q h=>h,?_⟩
 obtain ⟨F',As',o,p,xs,rest,sF,R,a0,hv,rr,ims,hl,lw,ex⟩:=h
 have hlt:i < ds.length:=(List.getElem?_eq_some_iff.mp hi).1
 have hd:ds.drop i = d :: ds.drop (i + 1):=by
  rw [List.drop_eq_getElem_cons hlt]
  congr 1
  rw [Zv hlt] at hi
  exact Option.some.inj hi
 rw [hd] at lw
 obtain ⟨⟨e,δ'⟩,eq,lw⟩:=Za.mp (show ((felt [some d,some p]).bind _) = some (rest,t.2) from lw)
 dsimp only at lw
 split at lw
 . rename_i o' p'
   split at lw
   . rename_i hi2
     obtain ⟨t2,e2,lw⟩:=Za.mp lw
     have lw0:(e :: t2.1,t2.2) = (rest,t.2):=Option.some.inj lw
     obtain ⟨lw1,lw2⟩:=Prod.mk.inj lw0
     subst lw1
     have R0:=R.set 0 (by show 0 < 2;decide) (.imm im ry) Zw fun _ _ _ _ z=>nomatch z
     refine ⟨F',[some d,some p],_,e,_,R0,eq,fun v F5 H5 A As5 ev R5 r5=>?_⟩
     have A0:=r5.none_of hi2
     subst A0
     have k5:=ev.ki R0.domA
     refine ⟨F5,g8 As5 0 [],none,p',xs ++ [e],t2.1,sF.trans ev.fs,?_,ba,?_,?_,?_,by simp [hl],lw2 ▸ e2,?_⟩
     . have:=R5.drop 0
       exact this
     . rw [List.getElem?_set_ne (by decide)];exact hv
     . exact (fZ k5 rr ims).append (.cons (r5.rep R5.fz) .nil)
     . refine imms_mem.mpr fun z m=>?_
       rcases Zr.mp m with m | m
       . exact imms_mem.mp ims z m
       . rw [List.mem_singleton.mp m];exact hi2
     . rw [<- ex];simp
   . cases lw
 . cases lw
theorem qd {elt iter:Expr} {px pos:Pos} {it:Addr} {tn:Nat->Heap->Prop} {J:It} {ds:List D} {t:List D × D} {v0:V} {FB:Hp} {felt:FM} {RR:Value->Addr->Result->Shared->Prop} {E:Value->Shared->Prop} (I:L2.Inv X pins σ H₂ s₂) (hcm:X.calm = true) (O:CompOk X scope cl x N [ip])
 (T:mI X.prog X.w X.K (.Name x px) J fp it tn) (st:tn 0 s₂.heap) (hf:∀ b ∈ fp,gj X pins H₂ b) (itd:ItN X.K J ds) (ims:dN ds = true) (R:rQ X.K felt v0 FB ds t 0 (none :: cA [ip] σ) H₂ []) (he:∀ C s₂ H₂ fp pn,PW (bK X scope cl x N C s₂ H₂ fp pn) elt felt)
 (hz:ds.length <= 1000)
 (hRR:∀ (D C:Addr) (s':Shared) (H':Hp) (vs:List V) (σ':L2.St),s₂.heap.objs.size <= C->L2.Inv X pins σ (upd H' D (.lst vs)) s'->H' D = none->H₂ D = none->rQ X.K felt v0 FB ds t ds.length σ' H' vs->(∃ m,s'.heap.Ns C m)->upd H' D (.lst vs) C = none->RR (.ref D) C (.ok .next) s') :
 wpAny (model X.prog X.w) X.A (newList []) (fun acc s₃=>wpAny (model X.prog X.w) X.A (newFunctionEnv scope X.env.globals cl [] X.env.qual none .none (some X.env)) (fun cenv s₄ =>
  codeAny (model X.prog X.w) X.A (.compStart (.ListComp elt [⟨.Name x px,iter,[],0⟩] scope pos) 0 (.ref it) acc { cenv with scope:=relabel scope X.env }) (RR acc cenv.locals) s₄) E s₃) E s₂:=by
 have objs:=T.obj 0 s₂.heap st
 have objs':∀ b ∈ fp,∃ o,s₂.heap.get? b = some o:=fun b hb=>let ⟨o,h,_⟩:=objs b hb;⟨o,h⟩
 refine wpAny_newObj_type (wpAny_newFunctionEnv O.nocell (by intro y hy;simp at hy) (fun h₁ hns₁ hsb₁=>?_) O.kind)
 dsimp only at hns₁ hsb₁ ⊢
 generalize hP:s₂.heap.push { cls:=.type "list",dict:=none,data:=.seq ([]:List Value).toArray } = P2 at hns₁ hsb₁ ⊢
 have hC:P2.objs.size = s₂.heap.objs.size + 1:=by rw [<- hP,Heap.size_push]
 generalize hCC:P2.objs.size = C at *
 have hCle:s₂.heap.objs.size <= C:=by omega
 have hDle:s₂.heap.objs.size <= s₂.heap.objs.size:=by omega
 have hDC:s₂.heap.objs.size ≠ C:=by omega
 have old:∀ b o,s₂.heap.get? b = some o->h₁.get? b = some o:=fun b o e=>by
  refine hsb₁.extBut b o (Nat.ne_of_lt (Nat.lt_of_lt_of_le (Heap.lt_size e) hCle)) (Heap.get?_push_of_some _ ?_)
  rw [<- hP]
  exact Heap.get?_push_of_some _ e
 have hacc:h₁.get? s₂.heap.objs.size = some { cls:=.type "list",data:=.seq ([]:List Value).toArray }:=by
  refine hsb₁.extBut s₂.heap.objs.size _ hDC (Heap.get?_push_of_some _ ?_)
  rw [<- hP]
  exact Heap.get?_push_size _ rfl
 have I0:=fun tk=>iV (C:=C) (tk:=tk) I hcm O hCle hf objs' old hns₁ I.len
 have dstk:s₂.heap.objs.size ∉ frs X.stack:=fK I hDle
 have fne:∀ b ∈ fp,b ≠ s₂.heap.objs.size:=fun b hb e=>by
  obtain ⟨o,h⟩:=objs' b hb
  exact absurd (Heap.lt_size h) (by rw [e];exact Nat.lt_irrefl _)
 have cne:∀ y c,cl.lookup y = some c->c ≠ s₂.heap.objs.size:=fun y c e z=>by
  obtain ⟨v,o,h1,_⟩:=I.cell y c (O.cls y c e)
  exact absurd (Heap.lt_size h1) (by rw [z];exact Nat.lt_irrefl _)
 have pne:∀ p ∈ X.pn ++ pins,p.1 ≠ s₂.heap.objs.size:=fun p hp e=>by
  exact absurd (Heap.lt_size (I.pin p hp).1) (by rw [e];exact Nat.lt_irrefl _)
 have stat:∀ {H':Hp} {pl:List (Addr × Obj)},(∀ b ∈ fp,H' b = none)->(∀ p ∈ pl,∀ b ∈ fp,p.1 ≠ b)->∀ b ∈ fp,gj (bK X scope cl x N C s₂ H₂ fp (X.pn ++ pins)) pl H' b:=fun {H' pl} hn hpl b hb=>by
  obtain ⟨o,h⟩:=objs' b hb
  refine ⟨hn b hb,Nat.ne_of_lt (Nat.lt_of_lt_of_le (Heap.lt_size h) hCle),fun z=>?_,.inl hb,fun y c e=>(hf b hb).2.2.2.2.1 y c (O.cls y c e),fun p hp=>?_⟩
  . rcases Zs.mp (I.stkSub b z) with e | e
    . exact (hf b hb).2.1 e
    . exact (hf b hb).2.2.1 e
  . rcases Zr.mp hp with q | q
    . exact (hf b hb).2.2.2.2.2 p q
    . exact hpl p q b hb
 have loop:∀ s₃:Shared,s₃ = { s₂ with heap:=h₁,toks:=s₂.toks + ([]:List (Str × Value)).length } ->
  codeAny (model X.prog X.w) X.A (.compLoop (.ListComp elt [⟨.Name x px,iter,[],0⟩] scope pos) 0 (.ref it) (.ref s₂.heap.objs.size) (compEnvC scope cl C X.env)) (RR (.ref s₂.heap.objs.size) C) s₃:=by
  rintro s₃ rfl
  refine gE (fun n s=>∃ (i:Nat) (σ':L2.St) (H':Hp) (vs:List V),n = ds.length - i/\i <= ds.length/\L2.Inv (bK X scope cl x N C s₂ H₂ fp (X.pn ++ pins)) [] σ' H' s/\tn i s.heap/\(∀ b ∈ fp,H' b = none) /\
   (∃ (its:List Value) (k:Nat),Vals vs its/\s.heap.get? s₂.heap.objs.size = some { cls:=.type "list",data:=.seq its.toArray k })/\H' s₂.heap.objs.size = none/\rQ X.K felt v0 FB ds t i σ' H' vs/\vs.length = i) ?_ ds.length
   ⟨0,_,H₂,[],rfl,Nat.zero_le _,I0 _,T.keep 0 _ _ st (fun b hb o e=>old b o e),fun b hb=>(hf b hb).1,⟨[],0,.nil,hacc⟩,I.hok.fresh hDle,R,rfl⟩
  rintro n s ⟨i,σ',H',vs,rfl,hi,I',st',fr',⟨its,k,rv,hD⟩,fD,cm,hl⟩
  have sN:Same (fun _=>none) H':=fun _ _ z=>nomatch z
  by_cases hlt:i < ds.length
  . obtain ⟨go,yl⟩:=(itd i H' sN).1 hlt
    have hd0:ds[i]? = some ds[i]:=by simp [hlt]
    have I1:L2.Inv (bK X scope cl x N C s₂ H₂ fp (X.pn ++ pins)) [(s₂.heap.objs.size,{ cls:=.type "list",data:=.seq its.toArray k })] σ' H' s:=I'.pins_of fun p hp=>by
     have:p = (s₂.heap.objs.size,{ cls:=.type "list",data:=.seq its.toArray k }):=by simpa using hp
     subst this
     exact ⟨hD,fD,hDC,dstk,fun v z=>by cases z⟩
    refine thn (T.item (bK X scope cl x N C s₂ H₂ fp (X.pn ++ pins)) rfl rfl rfl rfl i _ s σ' H' (fun _ _=>False) I1 (stat fr' fun p hp b hb=>by
     have:p = (s₂.heap.objs.size,{ cls:=.type "list",data:=.seq its.toArray k }):=by simpa using hp
     subst this
     exact (fne b hb).symm) st' go) fun r s1 ⟨u,hr,h4⟩=>?_
    subst hr
    refine thn h4 fun _ s2 ⟨y,H'',I2,ru,yy,st2,fr2⟩=>?_
    obtain ⟨e3,d,hd,rd⟩:=yl y H'' yy
    subst e3
    have hd':d = ds[i]:=by rw [hd0] at hd;exact (Option.some.inj hd).symm
    subst hd'
    have I3:=I2.pinned (stat fr2 fun p hp b hb=>by
     have:p = (s₂.heap.objs.size,{ cls:=.type "list",data:=.seq its.toArray k }):=by simpa using hp
     subst this
     exact (fne b hb).symm) (T.obj _ _ st2)
    refine thn (gz (X:=bK X scope cl x N C s₂ H₂ fp (X.pn ++ pins)) (i:=0) O.nd O.h0 (.inl (lookup_relabel_local O.hx)) (.inl (by simp)) _ s2 σ' H'' y u (fun σ4 H4=>σ4 = σ'.set 0 (some y)/\H4 = H'') I3 ru ⟨rfl,rfl⟩) fun _ s4 ⟨σ4,H4,I4,e1,e2⟩=>?_
    subst e1 e2
    obtain ⟨TT,t1,t2⟩:=uP (v:=y) (H5:=H4) cm hd0 (imms_mem.mp ims _ (List.getElem_mem hlt)) (rd.mono sN)
    refine thn (he C s₂ H₂ fp (X.pn ++ pins) _ s4 (σ'.set 0 (some y)) H4 (fun v H5=>rQ X.K felt v0 FB ds t (i + 1) (σ'.set 0 (some y)) H5 (vs ++ [v])) I4 (t1 _ t2)) fun wv s5 ⟨v,H5,I5,rw5,cm5⟩=>?_
    have hD5:s5.heap.get? s₂.heap.objs.size = some { cls:=.type "list",data:=.seq its.toArray k }:=(I5.pin (s₂.heap.objs.size,{ cls:=.type "list",data:=.seq its.toArray k }) (by simp)).1
    have fD5:H5 s₂.heap.objs.size = none:=(I5.pin (s₂.heap.objs.size,{ cls:=.type "list",data:=.seq its.toArray k }) (by simp)).2.1
    have pf:∀ b ∈ fp,∀ ob,s2.heap.get? b = some ob->s5.heap.get? b = some ob/\H5 b = none:=fun b hb ob hob=>by
     have:=I5.pin (b,ob) (List.mem_append_right _ (List.mem_append_right _ (de hb hob)))
     exact ⟨this.1,this.2.1⟩
    have lz:its.length <= 1000:=by
     have:=rv.length
     omega
    refine call_meets F.slot_list_append ⟨_,hD5,rfl⟩ F.entry_list_append (F.args_list_append_2 _ _) (PySem.list_append s₂.heap.objs.size its.toArray k wv (by rw [List.size_toArray];exact cq lz)) ⟨hD5,?_⟩
    have q:=PySem.IsL.update hD5 (fun a=>a.push wv)
    have I6:L2.Inv (bK X scope cl x N C s₂ H₂ fp (X.pn ++ pins)) [] (σ'.set 0 (some y)) H5 { s5 with heap:=s5.heap.update s₂.heap.objs.size (Obj.mapSeq fun a=>a.push wv),toks:=s5.toks } :=
     (I5.pins_of (pins':=[]) fun p hp=>by simp at hp).turned (it:=s₂.heap.objs.size) (t':=s5.toks) (fun b ob hb hu=>(Heap.get?_update_other s5.heap _ (Ne.symm hb)).trans hu) fD5 hDC (.inr hDle) cne (fun p hp=>by
      rcases Zr.mp hp with z | z
      . exact pne p z
      . simp at z)
    refine ⟨ds.length - (i + 1),by omega,i + 1,σ'.set 0 (some y),H5,vs ++ [v],rfl,hlt,I6,?_,?_,?_,fD5,cm5,by simp [hl]⟩
    . refine T.keep _ _ _ st2 fun b hb ob hob=>?_
      exact (Heap.get?_update_other s5.heap _ (Ne.symm (fne b hb))).trans (pf b hb ob hob).1
    . intro b hb
      obtain ⟨ob,hob,_⟩:=T.obj _ _ st2 b hb
      exact (pf b hb ob hob).2
    . have hf7:its.toArray.push wv = (its ++ [wv]).toArray:=by simp
      rw [hf7] at q
      exact ⟨its ++ [wv],_,rv.append (.cons rw5 .nil),q⟩
  . have hie:i = ds.length:=by omega
    refine thn (T.done (bK X scope cl x N C s₂ H₂ fp (X.pn ++ pins)) rfl rfl rfl rfl i [(s₂.heap.objs.size,{ cls:=.type "list",data:=.seq its.toArray k })] s σ' H' (fun _ _=>False) (I'.pins_of fun p hp=>by
     have:p = (s₂.heap.objs.size,{ cls:=.type "list",data:=.seq its.toArray k }):=by simpa using hp
     subst this
     exact ⟨hD,fD,hDC,dstk,fun v z=>by cases z⟩) (stat fr' fun p hp b hb=>by
     have:p = (s₂.heap.objs.size,{ cls:=.type "list",data:=.seq its.toArray k }):=by simpa using hp
     subst this
     exact (fne b hb).symm) st' ((itd i H' sN).2 (by omega))) fun r s1 ⟨hr,I8⟩=>?_
    subst hr
    have hD8:s1.heap.get? s₂.heap.objs.size = some { cls:=.type "list",data:=.seq its.toArray k }:=(I8.pin (s₂.heap.objs.size,{ cls:=.type "list",data:=.seq its.toArray k }) (by simp)).1
    have dn:∀ b,∀ u,H' b = some u->b ≠ s₂.heap.objs.size:=fun b u z=>bg z fD
    have un:Un (frs X.stack) fp H₂ (upd H' s₂.heap.objs.size (.lst vs)) s₂.heap s1.heap:=by
     have b0:=I8.base
     refine ⟨fun b ob e n1 n2 n3=>b0.keep b ob e n1 n2 n3,fun b ob e n1 n2 n3=>b0.slot b ob e n1 n2 n3,fun b ob e n1 n3=>?_,fun b ob e n3=>b0.there b ob e n3,fun b zs e=>?_,fun b ob u e=>?_,fun b ps e=>?_⟩
     . rw [aC (Nat.ne_of_lt (Heap.lt_size e))]
       exact b0.free b ob e n1 n3
     . have z:=b0.tups b zs e
       rw [aC (dn _ _ z)]
       exact z
     . have z:=b0.frzs b ob u e
       rw [aC (dn _ _ z)]
       exact z
     . obtain ⟨more,z⟩:=b0.tbls b ps e
       exact ⟨more,by rw [aC (dn _ _ z)];exact z⟩
    have hok:HOk X.prog X.w (upd H' s₂.heap.objs.size (.lst vs)) s1.heap:=fun b u z=>by
     by_cases hb:b = s₂.heap.objs.size
     . rw [hb] at z ⊢
       rw [aX] at z
       cases z
       exact ⟨cq (by omega),its,k,rv,hD8⟩
     . rw [aC hb] at z
       exact (I8.hok b u z).stay (fun _ _ _ q=>q) (fun c q=>by rw [aC (dn _ _ q)];exact q) fun c ys q=>by rw [aC (dn _ _ q)];exact q
    have IX:L2.Inv X pins σ (upd H' s₂.heap.objs.size (.lst vs)) s1:=I.call' I8.os un hok I8.bare fun b hb=>⟨(hf b hb).2.2.2.1,(hf b hb).2.1,(hf b hb).2.2.2.2.1,(hf b hb).2.2.2.2.2⟩
    obtain ⟨m8,hn8,_⟩:=I8.loc
    refine hRR s₂.heap.objs.size C s1 H' vs σ' hCle IX fD (I.hok.fresh hDle) (hie ▸ cm) ⟨m8,hn8⟩ ?_
    rw [aC (Ne.symm hDC)]
    exact I8.free
 exact codeAny_compStart_list (loop _ rfl) (T.self X.A 0 _ _ _ (T.keep 0 _ _ st (fun b hb o e=>old b o e)) (loop _ rfl))
end
end Dl
namespace Dl
open PySem PySem.Spec PyProof.Rows L2
def Bp (K:PySem.W.Frag) (src:FMA):TI:=fun σ H R=>∃ F δ As ds δ',RepA K F H σ δ As/\src δ = some (ds,δ')/\∀ J F' H1 As',EvW F H As F' H1 As' []->RepA K F' H1 σ δ' As'->ItN K J ds->R J H1
def PIW (X:Cx) (tg iter:Expr) (src:FMA):Prop:=PI X tg iter (Bp X.K src)
def kG (fa:FM):FMA:=fun δ=>(fa δ).bind fun p=>match p.1 with
 | .int b=>if -(2 ^ 62) <= b/\b < 2 ^ 62 then some (fQ 0 b 1,p.2) else none
 | _=>none
theorem uo {X:Cx} {tg a:Expr} {fa:FM} {p pos:Pos} (hg:Gl X "range") (hm:X.mg "range" = none) (ha:PWA X [a] (aB fa bc)) (hs:starEach [a] X.env = [(false,eval a X.env)]:=by rfl):PIW X tg (.Call (.Name "range" p) [a] [] pos) (kG fa) :=
 qW (mU hg hm ha hs) fun σ H R ⟨F,δ,As,ds,δ',R0,e,k⟩=>by
 unfold kG at e
 obtain ⟨⟨d,δ1⟩,e1,e⟩:=Za.mp e
 dsimp only at e
 split at e
 . rename_i b
   split at e
   . rename_i hb
     cases e
     refine ⟨F,δ,As,[.int b],_,R0,(by unfold aB bc;rw [e1];rfl),fun vs F1 H1 A As1 ev R1 r1 l=>?_⟩
     cases r1 with
     | cons r rr _ =>
      cases rr
      cases r with
      | imm _ h =>
       cases h
       refine ⟨b,rfl,hb.1,hb.2,k _ F1 H1 As1 ev.bare R1 ?_⟩
       have h:=m6 (K:=X.K) (F:=fun _=>none) (lo:=0) (n:=b.toNat)
       have e3:((b - 0 + 1 - 1) / 1).toNat = b.toNat:=by congr 1;omega
       unfold ItN fQ
       rw [e3]
       exact h
   . cases e
 . cases e
def oS (ip:Nat) (src:FMA) (felt:FM):FM:=fun δ=>(src δ).bind fun q=>match q.2[ip]? with
 | some (some p)=>(mZ felt q.1 p).bind fun t=>if q.1.length <= 1000/\dN q.1 = true/\own t.2 = true then some (.lst t.1,q.2.set ip (some t.2)) else none
 | _=>none
section
variable {X:Cx} {scope:Scope} {cl:List (Str × Addr)} {x:Str} {N:List Str}
theorem w9 {elt iter:Expr} {px pos:Pos} {src:FMA} {felt:FM} (ip:Nat) (hi:PIW X (.Name x px) iter src) (he:∀ C s₂ H₂ fp pn,PW (bK X scope cl x N C s₂ H₂ fp pn) elt felt) (O:CompOk X scope cl x N [ip]) (hcm:X.calm = true:=by rfl)
 (hs:∀ v,foldedSetIterable iter X.env v = pure v:=by intro _;rfl):PW X (.ListComp elt [⟨.Name x px,iter,[],0⟩] scope pos) (oS ip src felt):=by
 intro pins s σ H Q I ⟨F,δ,As,d,δ',RA,q,k⟩
 unfold oS at q
 obtain ⟨⟨ds,δ1⟩,eds,q⟩:=Za.mp q
 dsimp only at q
 split at q
 . rename_i p hp
   obtain ⟨t,et,q⟩:=Za.mp q
   split at q
   . rename_i hc
     obtain ⟨hz,ims,ho⟩:=hc
     cases q
     rw [eval_ListComp]
     refine wpAny_comprehension_free (use:=none) rfl hs O.clos O.kind O.names ?_
     refine wpAny_mono (hi pins s σ H (fun J H1=>∃ F1 As1,EvW F H As F1 H1 As1 []/\RepA X.K F1 H1 σ δ1 As1/\ItN X.K J ds) I ⟨F,δ,As,ds,δ1,RA,eds,fun J F1 H1 As1 ev R1 itd=>⟨F1,As1,ev,R1,itd⟩⟩) (fun v s1 h1=>wpAny_mono h1 (fun itv s2 h2=>?_) fun _ _ z=>z) fun _ _ z=>z
     obtain ⟨it,fp,tn,J,H2,rfl,I2,T,st,hf,F1,As1,ev,R1,itd⟩:=h2
     obtain ⟨v0,s0,r0⟩:=R1.val ip _ hp
     have il:ip < δ1.length:=(List.getElem?_eq_some_iff.mp hp).1
     have sF:Same F1 (g7 H2 (As1 ip)):=fun a u e=>by
      rw [gF fun m=>?_]
      . exact R1.fz a u e
      . rw [(R1.dom m).2] at e;cases e
     have sv:cA [ip] σ = [some v0]:=by
      unfold cA
      show [match σ[ip]? with | some o=>o | none=>none] = _
      rw [s0]
     have cm0:rQ X.K felt v0 (g7 H2 (As1 ip)) ds t 0 (none :: cA [ip] σ) H2 []:=by
      refine ⟨g7 H2 (As1 ip),fun i=>if i = 1 then As1 ip else [],none,p,[],t.1,Same.refl _,⟨tZ,by rw [sv];rfl,fun i d q=>?_,fun i h=>?_,fun i=>?_,fun i j a hij m=>?_⟩,rfl,by rw [sv];rfl,.nil,rfl,rfl,et,rfl⟩
      . match i,q with
        | 1,q =>
         cases q
         rw [sv]
         exact ⟨v0,rfl,r0.froz sF fun a m=>qi m⟩
      . by_cases h1:i = 1
        . subst h1;exact absurd rfl (h p)
        . exact if_neg h1
      . show (if i = 1 then As1 ip else []).Nodup
        split
        . exact R1.nd ip
        . exact Zw
      . have m':a ∈ (if i = 1 then As1 ip else []):=m
        show a ∉ (if j = 1 then As1 ip else [])
        split at m'
        . rename_i h1
          rw [if_neg fun h2=>hij (h1.trans h2.symm)]
          exact fun z=>nomatch z
        . cases m'
     refine qd (RR:=fun acc C=>compPost (model X.prog X.w) X.A X.xe none (EP X pins σ Q) acc C) I2 hcm O T st hf itd ims cm0 he hz ?_
     intro D C s' H' vs σ' hC IX fD fD2 cm ⟨m,hn⟩ fC
     refine ⟨m,hn,fun h' hs'=>⟨.ref D,_,ir IX I2 hC fC hs',rfl,?_⟩⟩
     obtain ⟨F',As',o,p',xs,rest,sf,R',a0,hv,rr,imx,hl,lw,ex⟩:=cm
     rw [List.drop_length] at lw
     have lw0:([],p') = (rest,t.2):=Option.some.inj lw
     obtain ⟨l1,l2⟩:=Prod.mk.inj lw0
     subst l1
     rw [Zk] at ex
     subst ex
     obtain ⟨v1,h1,w0⟩:=R'.val 1 p' rfl
     rw [hv] at h1
     cases h1
     rw [l2] at w0
     have sn:=bB fD (.lst vs)
     have kb:∀ a u,H2 a = some u->a ∉ As1 ip->H' a = some u/\F' a ≠ none:=fun a u e m=>by
      have b:g7 H2 (As1 ip) a = some u:=by rw [gF m];exact e
      have c:=sf a u b
      exact ⟨R'.fz a u c,by rw [c];exact fun z=>nomatch z⟩
     have oth:∀ kx a,kx ≠ ip->a ∈ As1 kx->H' a = H2 a/\F' a ≠ none:=fun kx a h1 m=>by
      obtain ⟨⟨ws,h⟩,_⟩:=R1.dom m
      have:=kb a _ h (R1.dj kx ip a h1 m)
      exact ⟨by rw [h];exact this.1,this.2⟩
     have w1:RepO X.K F' (upd H' D (.lst vs)) v0 t.2 (As' 1):=w0.frame (bJ sn) fun a m=>by
      obtain ⟨⟨ws,e⟩,_⟩:=w0.dom a m
      rw [e];exact sn a _ e
     have nD:∀ j,D ∉ As1 j:=fun j m=>by
      obtain ⟨⟨ws,h⟩,_⟩:=R1.dom m
      rw [fD2] at h;cases h
     have nD1:D ∉ As' 1:=fun m=>by
      obtain ⟨⟨ws,h⟩,_⟩:=w0.dom D m
      rw [fD] at h;cases h
     have ev2:EvW F1 H2 As1 F1 (upd H' D (.lst vs)) (g8 As1 ip (As' 1)) [D]:=⟨Same.refl _,fun a u e h=>sn a u (kb a u e (h ip)).1,fun _ _ _ n _=>n,fun kx a m=>by
      by_cases hkx:kx = ip
      . subst hkx
        rw [ba] at m
        by_cases mm:a ∈ As1 kx
        . exact .inl ⟨kx,mm⟩
        . refine .inr ?_
          cases z:H2 a with
          | none=>rfl
          | some u=>exact absurd (w0.dom a m).2 (kb a u z mm).2
      . rw [bi hkx] at m;exact .inl ⟨kx,m⟩,fun a m=>by rw [List.mem_singleton.mp m];exact .inr fD2,List.nodup_cons.mpr ⟨fun z=>(nomatch z),Zw⟩,fun kx a m z=>by
      rw [List.mem_singleton.mp z] at m
      by_cases hkx:kx = ip
      . subst hkx
        rw [ba] at m
        exact nD1 m
      . rw [bi hkx] at m
        exact nD kx m⟩
     have kI:cX H2 (upd H' D (.lst vs)):=fun a u e nl=>sn a u (kb a u e fun m=>by
      obtain ⟨⟨w,h⟩,_⟩:=R1.dom m
      rw [e] at h;cases h;rw [w.2] at nl;cases nl).1
     have R2:=R1.write il s0 kI (((sF.trans sf).trans R'.fz).trans sn) (fun j a hj m=>by
      obtain ⟨e1,e2⟩:=oth j a hj m
      obtain ⟨⟨ws,h⟩,_⟩:=R1.dom m
      rw [h] at e1 ⊢
      exact sn a _ e1) (w1.thaw (sF.trans sf) ho) (R'.nd 1) fun j a hj m z=>(oth j a hj m).2 (w0.dom a z).2
     refine k (.ref D) F1 _ [D] _ (ev.seq ev2 fun _ z=>nomatch z) R2 (.lst aX ?_ (kW (rr.mono sn) imx))
     cases z:F1 D with
     | none=>rfl
     | some u=>rw [R1.fz D u z] at fD2;cases fD2
   . cases q
 . cases q
end
end Dl
namespace Dl
open PySem
theorem pW {α β:Type} {M:Model} {A:Around} {E:Value->Shared->Prop} {Q:β->Shared->Prop} (f:α->β->Sem (ForInStep β)) (r:β) (I:Nat->Shared->Prop):∀ (l:List α) (k:Nat) (s:Shared),I k s ->
 (∀ j x u,l[j]? = some x->I (k + j) u->wpAny M A (f x r) (fun t v=>t = .yield r/\I (k + j + 1) v) E u)->(∀ u,I (k + l.length) u->Q r u)->wpAny M A (forIn l r f) Q E s
 | [],k,s,i,_,q=>by rw [List.forIn_nil];exact wpAny_pure (q s i)
 | x :: l,k,s,i,st,q=>by
  rw [List.forIn_cons]
  refine wpAny_bind (wpAny_mono (st 0 x s rfl i) (fun t u e=>?_) fun _ _ e=>e)
  obtain ⟨rfl,iu⟩:=e
  refine pW f r I l (k + 1) u iu (fun j y v e iv=>?_) fun v iv=>q v ?_
  . have:=st (j + 1) y v (by simpa using e) (by rw [show k + (j + 1) = k + 1 + j by omega];exact iv)
    rw [show k + (j + 1) + 1 = k + 1 + j + 1 by omega] at this
    exact this
  . rw [Zm,show k + (l.length + 1) = k + 1 + l.length by omega]
    exact iv
structure Drw (prog:Program) (w:World) (A:Around) (it:Addr) (fp:List Addr) (S S':Heap->Prop) (P:Value->Prop) (En:Prop):Prop where
 keep:∀ h h',S h->(∀ b ∈ fp,∀ o,h.get? b = some o->h'.get? b = some o)->S h'
 keep':∀ h h',S' h->(∀ b ∈ fp,∀ o,h.get? b = some o->h'.get? b = some o)->S' h'
 draw:∀ (s:Shared) (Q:Value->Shared->Prop) (E:Value->Shared->Prop),S s.heap->(∀ x h',P x->S' h'->Heap.SameBut it s.heap h'->Q x { s with heap:=h' }) ->
  (En->∀ h' e,Heap.ExtBut it s.heap h'->(∃ o,h'.get? e = some o/\o.cls = .type "StopIteration")->E (.ref e) { s with heap:=h' })->wpAny (model prog w) A (Builtin.SmallTypes.nextOf (.ref it)) Q E s
section
variable {prog:Program} {w:World} {A:Around} {E:Value->Shared->Prop} {s:Shared} {its:List Addr} {fp:Nat->List Addr} {S S':Nat->Heap->Prop} {P:Nat->Value->Prop} {En:Prop} {z TI TO:Addr}
abbrev iN (a:Array Value):Obj:={ cls:=.type "tuple",data:=.seq a }
structure Ah (prog:Program) (w:World) (A:Around) (its:List Addr) (fp:Nat->List Addr) (S S':Nat->Heap->Prop) (P:Nat->Value->Prop) (En:Prop) (z TO:Addr):Prop where
 dr:∀ (j:Nat) (i:Addr),its[j]? = some i->Drw prog w A i (fp j) (S j) (S' j) (P j) En
 oz:TO ≠ z
 zi:z ∉ its
 oi:TO ∉ its
 zf:∀ j,z ∉ fp j
 of:∀ j,TO ∉ fp j
 ap:∀ (j k:Nat) (i:Addr),j < its.length->its[k]? = some i->j ≠ k->i ∉ fp j
structure ZInv (h0:Heap) (its:List Addr) (S S':Nat->Heap->Prop) (P:Nat->Value->Prop) (z TI TO:Addr) (k:Nat) (h:Heap):Prop where
 sz:h.objs.size = h0.objs.size
 zo:IsZip h z TI TO .ellipsis
 to:∃ a:Array Value,h.get? TO = some (iN a)/\a.size = its.length/\∀ j < k,∃ x,a[j]? = some x/\P j x
 st:∀ j < its.length,(j < k->S' j h)/\(k <= j->S j h)
 fr:∀ c o,c ≠ z->c ≠ TO->c ∉ its->h0.get? c = some o->h.get? c = some o
theorem ZInv.next {h0 h h1 h2:Heap} {k:Nat} {i:Addr} {x:Value} {a:Array Value} (R:Ah prog w A its fp S S' P En z TO) (I:ZInv h0 its S S' P z TI TO k h) (hi:its[k]? = some i) (px:P k x) (sx:S' k h1) (s1:Heap.SameBut i h h1)
 (ha:h.get? TO = some (iN a)) (hn:a.size = its.length) (hp:∀ j < k,∃ x,a[j]? = some x/\P j x) (s2:Heap.SameBut TO h1 h2) (g2:h2.get? TO = some (iN (a.setIfInBounds k x))):ZInv h0 its S S' P z TI TO (k + 1) h2:=by
 have mi:i ∈ its:=List.mem_of_getElem? hi
 have kl:k < its.length:=(List.getElem?_eq_some_iff.mp hi).1
 have up:∀ c,c ≠ i->c ≠ TO->h2.get? c = h.get? c:=fun c c1 c2=>(s2.2 c c2).trans (s1.2 c c1)
 refine ⟨by rw [s2.1,s1.1,I.sz],?_,⟨_,g2,by rw [Array.size_setIfInBounds,hn],fun j hj=>?_⟩,fun j hj=>⟨fun l=>?_,fun l=>?_⟩,fun c o c1 c2 c3 e=>?_⟩
 . show h2.get? z = _
   rw [up z (fun e=>R.zi (e ▸ mi)) R.oz.symm]
   exact I.zo
 . by_cases e:j = k
   . subst e
     exact ⟨x,Array.getElem?_setIfInBounds_self_of_lt (by omega),px⟩
   . obtain ⟨y,hy,py⟩:=hp j (by omega)
     exact ⟨y,by rw [Array.getElem?_setIfInBounds_ne (by omega)];exact hy,py⟩
 . by_cases e:j = k
   . subst e
     exact (R.dr j i hi).keep' h1 h2 sx fun b hb o q=>(s2.2 b (fun z=>R.of j (z ▸ hb))).trans q
   . exact (R.dr j _ (Zv hj)).keep' h h2 ((I.st j hj).1 (by omega)) fun b hb o q=>(up b (fun z=>R.ap j k i hj hi e (z ▸ hb)) (fun z=>R.of j (z ▸ hb))).trans q
 . exact (R.dr j _ (Zv hj)).keep h h2 ((I.st j hj).2 (by omega)) fun b hb o q=>(up b (fun z=>R.ap j k i hj hi (by omega) (z ▸ hb)) (fun z=>R.of j (z ▸ hb))).trans q
 . rw [up c (fun z=>c3 (z ▸ mi)) c2]
   exact I.fr c o c1 c2 c3 e
theorem wR {Q:Value->Shared->Prop} {a0:Array Value} (R:Ah prog w A its fp S S' P En z TO) (hz:IsZip s.heap z TI TO .none) (hI:s.heap.get? TI = some (iN (its.map Value.ref).toArray)) (hO:s.heap.get? TO = some (iN a0)) (hn:a0.size = its.length) (hl:its.length <= 1000) (ne:its ≠ []) (hS:∀ j < its.length,S j s.heap)
 (hQ:∀ h' a,IsZip h' z TI TO (rawInt s.heap.objs.size)->h'.get? TO = some (iN a)->a.size = its.length->(∀ j < its.length,∃ x,a[j]? = some x/\P j x)->h'.get? s.heap.objs.size = some (iN a)->(∀ j < its.length,S' j h')->h'.objs.size = s.heap.objs.size + 1->(∀ c o,c ≠ z->c ≠ TO->c ∉ its->s.heap.get? c = some o->h'.get? c = some o)->Q (.ref s.heap.objs.size) { s with heap:=h' })
 (hE:En->∀ h' e,(∀ c o,c ≠ z->c ≠ TO->c ∉ its->s.heap.get? c = some o->h'.get? c = some o)->(∃ o,h'.get? e = some o/\o.cls = .type "StopIteration")->E (.ref e) { s with heap:=h' }) :
 wpAny (model prog w) A (Builtin.«zip.__next__» ⟨[.ref z],[]⟩) (fun fin s'=>∃ v,fin = .done (.ret v)/\Q v s') E s:=by
 obtain ⟨hp,g,d,tk,os⟩:=s
 have hz':hp.get? z = some { cls:=.type "zip",dict:=none,data:=.fields #[.none,.bool false,.bool false,.ref TI,.ref TO],slots:=#[] }:=hz
 have hI':hp.get? TI = some { cls:=.type "tuple",data:=.seq (its.map Value.ref).toArray }:=hI
 unfold Builtin.«zip.__next__»
 wp_walk using pW _ _ (fun k u=>∃ h,u = ⟨h,g,d,tk,os⟩/\ZInv hp its S S' P z TI TO k h)
 . have sb:Heap.SameBut z hp (hp.update z (Obj.mapFields fun x=>x.setIfInBounds 0 Value.ellipsis)):=Heap.SameBut.update ..
   refine ⟨_,rfl,sb.1,Heap.get?_update_self _ hz' rfl,⟨a0,(sb.2 _ R.oz).trans hO,hn,fun j q=>absurd q (Nat.not_lt_zero _)⟩,fun j hj=>⟨fun q=>absurd q (Nat.not_lt_zero _),fun _=>?_⟩,fun c o c1 _ _ e=>(sb.2 c c1).trans e⟩
   exact (R.dr j _ (Zv hj)).keep _ _ (hS j hj) fun b hb o e=>(sb.2 b fun q=>R.zf j (q ▸ hb)).trans e
 . rintro j ⟨v,k⟩ u hx ⟨h,rfl,I⟩
   obtain ⟨i,hi,rfl,rfl⟩:∃ i,its[j]? = some i/\v = .ref i/\k = j:=by
    simp only [List.getElem?_zipIdx,List.getElem?_map,Option.map_map,Zb,Function.comp,Prod.mk.injEq] at hx
    obtain ⟨i,hi,rfl,rfl⟩:=hx
    exact ⟨i,hi,rfl,by omega⟩
   rw [Nat.zero_add] at I ⊢
   obtain ⟨a,ha,han,hap⟩:=I.to
   have mi:i ∈ its:=List.mem_of_getElem? hi
   have kl:k < its.length:=(List.getElem?_eq_some_iff.mp hi).1
   have zo:=I.zo
   dsimp only
   refine wpAny_bind (wpAny_onRaise (wpAny_bind (m:=Builtin.SmallTypes.nextOf (.ref i)) ((R.dr k i hi).draw _ _ _ ((I.st k kl).2 (Nat.le_refl _)) (fun x h1 px sx s1=>wpAny_pure ?_) (fun en h1 e s1 he=>?_))))
   . have ha1:h1.get? TO = some (iN a):=(s1.2 TO fun q=>R.oi (q ▸ mi)).trans ha
     refine wpAny_bind (wpAny_seqItems ha1 rfl ?_)
     refine wpAny_bind (wpAny_updateSeq ha1 rfl ?_ ?_ ?_)
     . refine wpAny_bind (wpAny_letGo (wpAny_pure ⟨rfl,_,rfl,I.next R hi px sx s1 ha han hap (Heap.SameBut.update ..) ?_⟩))
       rw [Heap.get?_update_self _ ha1 rfl]
       simp [Obj.mapSeq]
     . show a.size <= 2 ^ 24
       omega
     . rw [Array.size_setIfInBounds]
       show a.size <= 2 ^ 24 + 1
       omega
   . obtain ⟨oe,hoe,hce⟩:=he
     have z1:IsZip h1 z TI TO .ellipsis:=s1 z _ (fun q=>R.zi (q ▸ mi)) zo
     have ez:e ≠ z:=fun q=>by
      have:=(q ▸ hoe).symm.trans z1
      injection this with this
      rw [this] at hce
      exact absurd (show Value.type "zip" = Value.type "StopIteration" from hce) (by decide)
     refine wpAny_setField_rec z1 (by simp) fun h2 _ s2=>hE en h2 e (fun c o c1 c2 c3 q=>?_) ⟨oe,(s2.2 e ez).trans hoe,hce⟩
     exact (s2.2 c c1).trans (s1 c o (fun x=>c3 (x ▸ mi)) (I.fr c o c1 c2 c3 q))
 . rintro u ⟨h,rfl,I⟩
   rw [Nat.zero_add] at I
   simp only [List.length_zipIdx,Zl] at I
   obtain ⟨a,ha,han,hap⟩:=I.to
   have zo:=I.zo
   have szl:¬ a.toList.toArray.size > sizeLine:=by
    show ¬ a.toList.toArray.size > 2 ^ 24
    rw [List.size_toArray,Array.length_toList]
    omega
   have zsz:z < h.objs.size:=Heap.lt_size zo
   wp_walk
   rw [if_neg szl]
   wp_walk
   refine ⟨_,rfl,?_⟩
   have z1:(h.push (iN a.toList.toArray)).get? z = some { cls:=.type "zip",dict:=none,data:=.fields #[.ellipsis,.bool false,.bool false,.ref TI,.ref TO],slots:=#[] }:=Heap.get?_push_of_some _ zo
   have z2:=Heap.get?_update_self (Obj.mapFields fun x=>x.setIfInBounds 0 (rawInt (h.objs.size:Int))) z1 rfl
   have z3:=Heap.get?_update_self (Obj.mapFields fun x=>x.setIfInBounds 1 (Value.bool false)) z2 rfl
   have s2:Heap.SameBut z (h.push (iN a.toList.toArray)) ((h.push (iN a.toList.toArray)).update z (Obj.mapFields fun x=>x.setIfInBounds 0 (rawInt (h.objs.size:Int)))):=Heap.SameBut.update ..
   have s3:Heap.SameBut z _ (((h.push (iN a.toList.toArray)).update z (Obj.mapFields fun x=>x.setIfInBounds 0 (rawInt (h.objs.size:Int)))).update z (Obj.mapFields fun x=>x.setIfInBounds 1 (Value.bool false))):=Heap.SameBut.update ..
   have up:∀ c o,c ≠ z->h.get? c = some o->(((h.push (iN a.toList.toArray)).update z (Obj.mapFields fun x=>x.setIfInBounds 0 (rawInt (h.objs.size:Int)))).update z (Obj.mapFields fun x=>x.setIfInBounds 1 (Value.bool false))).get? c = some o:=fun c o c1 e=>(s3.2 c c1).trans ((s2.2 c c1).trans (Heap.get?_push_of_some _ e))
   have sz:h.objs.size = hp.objs.size:=I.sz
   have q:=hQ _ a (by rw [<- sz];exact z3) (up _ _ R.oz ha) han hap ?_ (fun j hj=>?_) ?_ fun c o c1 c2 c3 e=>up c o c1 (I.fr c o c1 c2 c3 e)
   . rw [<- sz] at q
     exact q
   . rw [<- sz]
     refine (s3.2 _ (Nat.ne_of_gt zsz)).trans ((s2.2 _ (Nat.ne_of_gt zsz)).trans ?_)
     rw [Heap.get?_push_size _ rfl]
   . exact (R.dr j _ (Zv hj)).keep' h _ ((I.st j hj).1 hj) fun b hb o e=>up b o (fun x=>R.zf j (x ▸ hb)) e
   . rw [s3.1,s2.1,Heap.size_push,sz]
theorem wT {it t:Addr} {i:Nat} {items:Array Value} {Q:Value->Shared->Prop} (hh:A.handled = none) (a:s.heap.IsTupleIter it t i) (b:s.heap.IsTuple t items)
 (hQ:∀ x h',items[i]? = some x->h'.IsTupleIter it t (i + 1)->Heap.SameBut it s.heap h'->Q x { s with heap:=h' })
 (hE:items[i]? = none->∀ h' e,Heap.ExtBut it s.heap h'->(∃ o,h'.get? e = some o/\o.cls = .type "StopIteration")->E (.ref e) { s with heap:=h' }) :
 wpAny (model prog w) A (Builtin.SmallTypes.nextOf (.ref it)) Q E s:=by
 have T:=a.typeIs
 obtain ⟨⟨c1,d1,a1,l1⟩,ho,hc,hd⟩:=id a
 obtain ⟨⟨c2,d2,a2,l2⟩,hu,hc2,n,hd2⟩:=b
 cases hc;cases hd;cases hc2;cases hd2
 unfold Builtin.SmallTypes.nextOf
 refine wpAny_bind (wpAny_callSpecial?_slot (name:=Str.ofString "__next__") T F.slot_tuple_iterator_next (wpAny_call_entry F.slot_tuple_iterator_next T F.entry_tuple_iterator_next ?_ (F.args_tuple_iterator_next_1 _)))
 unfold Builtin.«tuple_iterator.__next__»
 obtain ⟨hp,g,d,tk,os⟩:=s
 have hd':A.in1.handled = none:=hh
 cases hx:items[i]? with
 | some x =>
  wp_walk
  simp only [Int.toNat_natCast,hx]
  wp_walk
  refine ⟨x,rfl,wpAny_pure (hQ x _ hx ⟨_,Heap.get?_update_self _ ho rfl,rfl,?_⟩ (Heap.SameBut.update ..))⟩
  simp [Obj.mapFields,rawInt]
 | none =>
  wp_walk
  simp only [Int.toNat_natCast,hx]
  wp_walk
  unfold raiseNew
  wp_walk
  exact hE hx _ _ (((Heap.SameBut.update ..).extBut.push _).push _) ⟨_,Heap.get?_push_size _ rfl,rfl⟩
theorem ww (hh:A.handled = none) {it l:Addr} (n:l ≠ it) (i:Nat) (xs:Array Value) {En:Prop} (en:xs[i]? = none->En):Drw prog w A it [it,l] (fun h=>h.IsListIter it l i/\h.IsList l xs) (fun h=>h.IsListIter it l (i + 1)/\h.IsList l xs) (fun x=>xs[i]? = some x) En where
 keep:=fun _ _ a k=>⟨a.1.at fun o e=>k _ (by simp) o e,a.2.at fun o e=>k _ (by simp) o e⟩
 keep':=fun _ _ a k=>⟨a.1.at fun o e=>k _ (by simp) o e,a.2.at fun o e=>k _ (by simp) o e⟩
 draw:=fun s Q E a q e=>by
  cases hx:xs[i]? with
  | some x=>exact wpAny_nextOf_list_item a.1 a.2 hx fun h' b s1=>q x h' hx ⟨b,a.2.at fun o z=>(s1.2 l n).trans z⟩ s1
  | none=>exact wpAny_nextOf_list_end hh a.1 a.2 hx (e (en hx))
theorem uM (hh:A.handled = none) {it t:Addr} (n:t ≠ it) (i:Nat) (xs:Array Value) {En:Prop} (en:xs[i]? = none->En):Drw prog w A it [it,t] (fun h=>h.IsTupleIter it t i/\h.IsTuple t xs) (fun h=>h.IsTupleIter it t (i + 1)/\h.IsTuple t xs) (fun x=>xs[i]? = some x) En where
 keep:=fun _ _ a k=>⟨a.1.at fun o e=>k _ (by simp) o e,a.2.at fun o e=>k _ (by simp) o e⟩
 keep':=fun _ _ a k=>⟨a.1.at fun o e=>k _ (by simp) o e,a.2.at fun o e=>k _ (by simp) o e⟩
 draw:=fun s Q E a q e=>wT hh a.1 a.2 (fun x h' hx b s1=>q x h' hx ⟨b,a.2.at fun o z=>(s1.2 t n).trans z⟩ s1) fun hx=>e (en hx)
def pk {α:Type} (a b:α) (j:Nat):α:=if j = 0 then a else b
theorem sO {i1 i2 l1 l2:Addr} {k:Nat} {xs ys:Array Value} {a b:Value} {Q:Option Value->Shared->Prop} (hh:A.handled = none) (D:ZipApart z TI TO i1 i2 l1 l2) (hz:IsZip s.heap z TI TO .none) (hTI:IsPair s.heap TI (.ref i1) (.ref i2)) (hTO:IsPair s.heap TO a b)
 (h1:s.heap.IsListIter i1 l1 k) (h2:s.heap.IsTupleIter i2 l2 k) (g1:s.heap.IsList l1 xs) (g2:s.heap.IsTuple l2 ys)
 (hQ:∀ x y h',xs[k]? = some x->ys[k]? = some y->IsZip h' z TI TO (rawInt s.heap.objs.size)->IsPair h' TO x y->h'.IsListIter i1 l1 (k + 1)->h'.IsTupleIter i2 l2 (k + 1)->IsPair h' s.heap.objs.size x y->(∀ c o,c ∉ [z,TO,i1,i2]->s.heap.get? c = some o->h'.get? c = some o)->Q (some (.ref s.heap.objs.size)) { s with heap:=h' })
 (hE:xs[k]? = none \/ ys[k]? = none->∀ h',(∀ c o,c ∉ [z,TO,i1,i2]->s.heap.get? c = some o->h'.get? c = some o)->Q none { s with heap:=h' }):wpAny (model prog w) A (pyNext (.ref z)) Q E s:=by
 have T:s.TypeIs (.ref z) "zip":=⟨_,hz,rfl⟩
 have hh1:A.in1.handled = none:=hh
 have out:∀ c,c ∉ [z,TO,i1,i2]->c ≠ z/\c ≠ TO/\c ∉ [i1,i2]:=fun c n=>by
  simp only [Zs,List.not_mem_nil,or_false,not_or] at n ⊢
  exact n
 have R:Ah prog w A.in1 [i1,i2] (pk [i1,l1] [i2,l2]) (pk (fun h=>h.IsListIter i1 l1 k/\h.IsList l1 xs) fun h=>h.IsTupleIter i2 l2 k/\h.IsTuple l2 ys) (pk (fun h=>h.IsListIter i1 l1 (k + 1)/\h.IsList l1 xs) fun h=>h.IsTupleIter i2 l2 (k + 1)/\h.IsTuple l2 ys)
  (pk (fun x=>xs[k]? = some x) fun y=>ys[k]? = some y) (xs[k]? = none \/ ys[k]? = none) z TO:=by
  have two:∀ (j:Nat) (i:Addr),[i1,i2][j]? = some i->j = 0/\i = i1 \/ j = 1/\i = i2:=fun j i e=>by
   match j,e with
   | 0,e=>exact .inl ⟨rfl,(Option.some.inj e).symm⟩
   | 1,e=>exact .inr ⟨rfl,(Option.some.inj e).symm⟩
  refine ⟨fun j i e=>?_,D.TOz,?_,?_,fun j=>?_,fun j=>?_,fun j m i hj e n=>?_⟩
  . rcases two j i e with ⟨rfl,rfl⟩ | ⟨rfl,rfl⟩
    . exact ww hh1 D.l1i1 k xs .inl
    . exact uM hh1 D.l2i2 k ys .inr
  . simp only [Zs,List.not_mem_nil,or_false,not_or]
    exact ⟨D.i1z.symm,D.i2z.symm⟩
  . simp only [Zs,List.not_mem_nil,or_false,not_or]
    exact ⟨D.TOi1,D.TOi2⟩
  . unfold pk
    split <;> simp only [Zs,List.not_mem_nil,or_false,not_or]
    . exact ⟨D.i1z.symm,D.l1z.symm⟩
    . exact ⟨D.i2z.symm,D.l2z.symm⟩
  . unfold pk
    split <;> simp only [Zs,List.not_mem_nil,or_false,not_or]
    . exact ⟨D.TOi1,D.l1TO.symm⟩
    . exact ⟨D.TOi2,D.l2TO.symm⟩
  . rcases two m i e with ⟨rfl,rfl⟩ | ⟨rfl,rfl⟩
    . rw [pk,if_neg n]
      simp only [Zs,List.not_mem_nil,or_false,not_or]
      exact ⟨D.i12,D.l2i1.symm⟩
    . unfold pk
      split <;> simp only [Zs,List.not_mem_nil,or_false,not_or]
      . exact ⟨D.i12.symm,D.l1i2.symm⟩
      . rename_i h0
        have:j < 2:=hj
        omega
 unfold pyNext
 refine wpAny_bind (wpAny_attempt (wpAny_callSpecial?_slot (name:=Str.ofString "__next__") T F.slot_zip_next (wpAny_call_entry F.slot_zip_next T F.entry_zip_next (wR (a0:=#[a,b]) R hz hTI hTO rfl (by simp) (by simp) (fun j hj=>?_) (fun h' u yz yo yn yp yT ys' _ yk=>wpAny_pure ?_) fun en h' e yk ye=>?_) (F.args_zip_next_1 _))))
 . match j,hj with
   | 0,_=>exact ⟨h1,g1⟩
   | 1,_=>exact ⟨h2,g2⟩
 . obtain ⟨x,ux,px⟩:=yp 0 (by simp)
   obtain ⟨y,uy,py⟩:=yp 1 (by simp)
   have eu:u = #[x,y]:=by
    apply Array.ext_getElem?
    intro j
    match j with
    | 0=>exact ux
    | 1=>exact uy
    | j + 2=>rw [Array.getElem?_eq_none (by rw [yn];simp),Array.getElem?_eq_none (by simp)]
   subst eu
   exact hQ x y h' px py yz yo (ys' 0 (by simp)).1 (ys' 1 (by simp)).1 yT fun c o n e=>yk c o (out c n).1 (out c n).2.1 (out c n).2.2 e
 . obtain ⟨o,ho,hc⟩:=ye
   exact wpAny_bind (wpAny_isInstance (T:="StopIteration") (b:=true) ⟨o,ho,hc⟩ isSubtype_stop (wpAny_pure (hE en h' fun c o n e=>yk c o (out c n).1 (out c n).2.1 (out c n).2.2 e)))
def jA (h:Heap):List Obj->Heap
 | []=>h
 | o :: os=>jA (h.push o) os
theorem iQ {c:Addr} {o:Obj}:∀ (os:List Obj) (h:Heap),h.get? c = some o->(jA h os).get? c = some o
 | [],_,e=>e
 | _ :: os,_,e=>iQ os _ (Heap.get?_push_of_some _ e)
theorem k7 {o:Obj} (f:o.isFreed = false):∀ (os:List Obj) (i:Nat) (h:Heap),os[i]? = some o->(jA h os).get? (h.objs.size + i) = some o
 | o' :: os,0,h,e=>by
  cases e
  exact iQ os _ (Heap.get?_push_size _ f)
 | o' :: os,i + 1,h,e=>by
  have:=k7 f os i (h.push o') e
  rw [Heap.size_push,Nat.add_assoc,Nat.add_comm 1 i] at this
  exact this
def oO (n l1 l2:Addr):List Obj:=[{ cls:=.type "list_iterator",data:=.fields #[.ref l1,.int 0 0] },{ cls:=.type "tuple_iterator",data:=.fields #[.ref l2,.int 0 0] },iN #[.ref n,.ref (n + 1)],iN #[.none,.none],{ cls:=.type "zip",data:=.fields #[.none,.bool false,.bool false,.ref (n + 2),.ref (n + 3)] }]
theorem vT (l1 l2:Addr) (xs ys:Array Value):Meets (Builtin.«zip.__new__» ⟨[.type "zip",.ref l1,.ref l2],[]⟩) fun _ R s=>s.heap.IsList l1 xs/\s.heap.IsTuple l2 ys/\R (.ok (.ret (.ref (s.heap.objs.size + 4)))) { s with heap:=jA s.heap (oO s.heap.objs.size l1 l2) }:=Meets.of_wp fun prog w A R s ⟨g1,g2,h⟩=>by
 have sub:=sub_zip
 obtain ⟨hp,g,d,tk,os⟩:=s
 wp_walk using wpAny_pyIter_list g1,wpAny_pyIter_tuple (g2.push _)
 simp only [jA,oO] at h
 simp only [Heap.size_push] at h ⊢
 exact ⟨_,rfl,h⟩
theorem xL {l1 l2:Addr} {xs ys:Array Value} {Q:Value->Shared->Prop} (g1:s.heap.IsList l1 xs) (g2:s.heap.IsTuple l2 ys)
 (h:∀ n h',n = s.heap.objs.size->IsZip h' (n + 4) (n + 2) (n + 3) .none->IsPair h' (n + 2) (.ref n) (.ref (n + 1))->IsPair h' (n + 3) .none .none->h'.IsListIter n l1 0->h'.IsTupleIter (n + 1) l2 0->(∀ c o,s.heap.get? c = some o->h'.get? c = some o)->Q (.ref (n + 4)) { s with heap:=h' }):wpAny (model prog w) A (call (.type "zip") [.ref l1,.ref l2]) Q E s:=by
 have at_:=fun (o:Obj) (f:o.isFreed = false) (i:Nat) (e:(oO s.heap.objs.size l1 l2)[i]? = some o)=>k7 f (oO s.heap.objs.size l1 l2) i s.heap e
 have zz:=at_ _ rfl 4 rfl
 refine callType_new (S:=fun _ R s=>s.heap.IsList l1 xs/\s.heap.IsTuple l2 ys/\R (.ok (.ret (.ref (s.heap.objs.size + 4)))) { s with heap:=jA s.heap (oO s.heap.objs.size l1 l2) }) F.called_zip (by decide) (F.typeCall_zip_2 _ _) (F.newCall_zip_2 _ _) (fun o=>F.args_object_init_3 o _ _) F.entry_zip_new (vT l1 l2 xs ys) ⟨g1,g2,⟨_,zz,rfl⟩,?_⟩
 exact h _ _ rfl zz (at_ _ rfl 2 rfl) (at_ _ rfl 3 rfl) ⟨_,at_ _ rfl 0 rfl,rfl,rfl⟩ ⟨_,at_ _ rfl 1 rfl,rfl,rfl⟩ fun c o e=>iQ _ _ e
end
end Dl
namespace Dl
open PySem PySem.Spec PyProof.Rows L2
def ItZ (K:PySem.W.Frag) (J:It) (F:Hp) (ds:List D):Prop:=∀ i H2,Same F H2 ->
 (i < ds.length->J.go i H2/\∀ x H',J.yld i H2 x H'->Same H2 H'/\∃ d,ds[i]? = some d/\∀ F2,Same F F2->Same F2 H'->RepO K F2 H' x (sh d) [])/\(ds.length <= i->J.stop i H2)
def Bo (K:PySem.W.Frag) (src:FMA):TI:=fun σ H R=>∃ F δ As ds δ',RepA K F H σ δ As/\src δ = some (ds,δ')/\∀ J F' H1 As',Same F F'->RepA K F' H1 σ δ' As'->ItZ K J F' ds->R J H1
def PIZ (X:Cx) (tg iter:Expr) (src:FMA):Prop:=PI X tg iter (Bo X.K src)
theorem sC {X:Cx} {tg iter:Expr} {body:List Stmt} {src:FMA} {s:SD} {t:TG} {g:D->DS->Option DS} {pos:Pos} (hp:PassesOwn (model X.prog X.w) X.A X.env X.xe) (hc:X.calm = true) (hg:PG X tg t) (good:ym X.K t g) (hi:PIZ X tg iter src) (hb:PMs X body s)
 (hs:∀ x,foldedSetIterable iter X.env x = pure x:=by intro _;rfl):PMD X (.For tg iter body [] pos) (sg src g s):=fU (qC hp hc hi hg hb hs) fun E σ H ⟨F,δ,r,⟨As,R⟩,e,k⟩=>by
 unfold sg at e
 obtain ⟨⟨ds,δ1⟩,eds,e⟩:=Za.mp e
 refine ⟨F,δ,As,ds,δ1,R,eds,fun J F1 H1 As1 s1 R1 it=>?_⟩
 refine ⟨fun j m σ H=>m = ds.length - j/\j <= ds.length/\∃ F2 δ,Same F1 F2/\fg X.K F2 H σ δ/\pS g s (ds.drop j) δ = some r/\RPM X E F2 r,⟨ds.length,rfl,Nat.zero_le _,F1,δ1,Same.refl _,⟨As1,R1⟩,e,k.mono s1⟩,?_⟩
 rintro j m σ H2 ⟨rfl,hjl,F2,δ2,s2,⟨As2,R2⟩,e2,k2⟩
 by_cases hlt:j < ds.length
 . obtain ⟨go,yl⟩:=(it j H2 (s2.trans R2.fz)).1 hlt
   rw [List.drop_eq_getElem_cons hlt] at e2
   obtain ⟨δ3,e3,e2⟩:=Za.mp (show ((g ds[j] δ2).bind _) = some r from e2)
   obtain ⟨r4,e4,e2⟩:=Za.mp e2
   refine .inr ⟨go,fun σ' H'=>∃ F3 δ,Same F1 F3/\fg X.K F3 H' σ' δ/\pS g s (ds.drop (j + 1)) δ = some r/\RPM X E F3 r,fun σ' H' z=>⟨ds.length - (j + 1),by omega,rfl,hlt,z⟩,fun y H' yy=>?_⟩
   obtain ⟨eH,d,hd,rx⟩:=yl y H' yy
   have hd':d = ds[j]:=by
    rw [Zv hlt] at hd
    exact (Option.some.inj hd).symm
   subst hd'
   have R2':=R2.grow eH
   refine good R2' (rx F2 s2 R2'.fz) e3 fun σ3 R3=>?_
   refine ⟨F2,δ3,r4,R3,e4,?_⟩
   cases r4 with
   | nx δ'=>exact fun σ' F' H'' s4 R4=>⟨F',δ',s2.trans s4,R4,e2,k2.mono s4⟩
   | ct δ'=>exact fun σ' F' H'' s4 R4=>⟨F',δ',s2.trans s4,R4,e2,k2.mono s4⟩
   | bk δ'=>cases e2;exact k2
   | rt d=>cases e2;exact k2
   | ex C δ'=>cases e2;exact k2
   | mk C δ'=>cases e2;exact k2
 . have e:j = ds.length:=by omega
   subst e
   rw [List.drop_length] at e2
   cases e2
   exact .inl ⟨(it _ H2 (s2.trans R2.fz)).2 (Nat.le_refl _),k2 σ F2 H2 (Same.refl _) ⟨As2,R2⟩⟩
theorem xD {K:PySem.W.Frag} {F:Hp} {a b:Addr} {vs ws:List V} {ds es:List D} (hq:SqL K F a vs) (r:Reps K F vs ds) (hq':SqL K F b ws) (r':Reps K F ws es):ItZ K (Itz K a b) F (List.zipWith (fun d e=>D.tup [d,e]) ds es):=by
 intro i H2 s
 have h1:=s.seq hq
 have h2:=s.seq hq'
 have l1:=r.length
 have l2:=r'.length
 rw [List.length_zipWith]
 refine ⟨fun hi=>⟨⟨vs,ws,vs[i]'(by omega),ws[i]'(by omega),h1,h2,by simp [show i < vs.length by omega],by simp [show i < ws.length by omega]⟩,fun x H' y=>?_⟩,fun hi=>⟨vs,ws,h1,h2,by omega⟩⟩
 obtain ⟨p,u,v,rfl,hp,rfl,yu,yv⟩:=y
 obtain ⟨d,hd,rd⟩:=r.getV (yu vs h1)
 obtain ⟨e,he,re⟩:=r'.getV (yv ws h2)
 have sn:=bB hp (.tup [u,v])
 refine ⟨sn,.tup [d,e],by rw [List.getElem?_zipWith,hd,he],fun F2 s2 s3=>?_⟩
 show RepO K F2 _ (.ref p) (.tup [sh d,sh e]) []
 exact .tup (SqT.of aX) (.cons (RepO.of_sh s3 (rd.mono s2)) (.cons (RepO.of_sh s3 (re.mono s2)) .nil rfl) rfl)
theorem RepO.seqF {K:PySem.W.Frag} {F H:Hp} {v:V} {xs:List D} {A:List Addr} (r:RepO K F H v (.seq xs) A):∃ a vs,v = .ref a/\SqL K F a vs/\Reps K F vs xs:=by
 cases r with
 | imm i _=>cases i
 | shr h =>
  cases h with
  | @seq p vs es hp rp=>exact ⟨p,vs,rfl,hp,rp⟩
end Dl
namespace Dl
open PySem PySem.Spec PyProof.Rows L2
def xP (K:PySem.W.Frag) (a b:Addr):It :=
 ⟨fun i H=>∃ xs ys x y,SqL K H a xs/\SqT K H b ys/\xs[i]? = some x/\ys[i]? = some y,fun i H v H'=>∃ p x y,v = .ref p/\H p = none/\H' = upd H p (.tup [x,y])/\(∀ xs,SqL K H a xs->xs[i]? = some x)/\∀ ys,SqT K H b ys->ys[i]? = some y,
  fun i H=>∃ xs ys,SqL K H a xs/\SqT K H b ys/\(xs.length <= i \/ ys.length <= i)⟩
def Ag (z TI TO i1 i2 l1 l2:Addr) (i:Nat) (h:Heap):Prop:=IsZip h z TI TO .none/\IsPair h TI (.ref i1) (.ref i2)/\(∃ a b,IsPair h TO a b)/\h.IsListIter i1 l1 i/\h.IsTupleIter i2 l2 i
theorem wW {X:Cx} {pins:List (Addr × Obj)} {σ:L2.St} {H:Hp} {s:Shared} {a:Addr} {xs ys:List V} (I:L2.Inv X pins σ H s) (h:SqT X.K H a xs) (h':SqT X.K H a ys):xs = ys:=I.tuple_inj h h'
theorem ud {P:Program} {w:World} {K:PySem.W.Frag} {es:List Expr} {kt:Nat} {pt:Pos} {z TI TO i1 i2 l1 l2:Addr} (D:ZipApart z TI TO i1 i2 l1 l2):mI P w K (.Tuple es kt pt) (xP K l1 l2) [z,TI,TO,i1,i2] z (Ag z TI TO i1 i2 l1 l2) where
 mem:=by simp
 obj:=fun i h st b hb=>by
  obtain ⟨hz,hTI,⟨a,b',hTO⟩,⟨o1,e1,_,d1⟩,⟨o2,e2,_,d2⟩⟩:=st
  simp only [Zs,List.not_mem_nil,or_false] at hb
  rcases hb with rfl | rfl | rfl | rfl | rfl
  . exact ⟨_,hz,fun v q=>by cases q⟩
  . exact ⟨_,hTI,fun v q=>by cases q⟩
  . exact ⟨_,hTO,fun v q=>by cases q⟩
  . exact ⟨_,e1,fun v q=>by rw [d1] at q;cases q⟩
  . exact ⟨_,e2,fun v q=>by rw [d2] at q;cases q⟩
 keep:=fun i h h' st k=>by
  obtain ⟨hz,hTI,⟨a,b',hTO⟩,h1,h2⟩:=st
  exact ⟨k z (by simp) _ hz,k TI (by simp) _ hTI,⟨a,b',k TO (by simp) _ hTO⟩,h1.at fun o e=>k i1 (by simp) o e,h2.at fun o e=>k i2 (by simp) o e⟩
 item:=by
  intro X hP hw hK hc i pins s σ H E I hf st hg
  subst hP hw hK
  obtain ⟨xs,ys,x,y,hq1,hq2,hx,hy⟩:=hg
  obtain ⟨hz,hTI,⟨a,b',hTO⟩,h1,h2⟩:=st
  obtain ⟨its,rv,p,_⟩:=I.list hq1
  obtain ⟨jts,rw',p',_⟩:=I.tuple hq2
  obtain ⟨u,hu,ru⟩:=rv.get hx
  obtain ⟨v,hv,rv2⟩:=rw'.get hy
  have hu':its.toArray[i]? = some u:=by simpa using hu
  have hv':jts.toArray[i]? = some v:=by simpa using hv
  refine sO (I.ok.hd hc) D hz hTI hTO h1 h2 p.isList (show s.heap.IsTuple l2 jts.toArray from p') (fun u' v' h' eu ev hz' hTO' h1' h2' hT hk=>?_) fun en=>by
   rw [hu',hv'] at en
   rcases en with en | en <;> cases en
  cases hu'.symm.trans eu
  cases hv'.symm.trans ev
  have fT:H s.heap.objs.size = none:=I.hok.fresh (Nat.le_refl _)
  refine ⟨_,rfl,wpAny_letOwnedTupleGo_zip hz' fun h'' hz'' sb=>?_⟩
  have lt:∀ b ∈ [z,TI,TO,i1,i2],b < s.heap.objs.size:=fun b hb=>by
   obtain ⟨o1,e1,_⟩:=h1
   obtain ⟨o2,e2,_⟩:=h2
   simp only [Zs,List.not_mem_nil,or_false] at hb
   rcases hb with rfl | rfl | rfl | rfl | rfl
   . exact Heap.lt_size hz
   . exact Heap.lt_size hTI
   . exact Heap.lt_size hTO
   . exact Heap.lt_size e1
   . exact Heap.lt_size e2
  have zne:s.heap.objs.size ≠ z:=Nat.ne_of_gt (lt z (by simp))
  have up:∀ b o,b ≠ z->h'.get? b = some o->h''.get? b = some o:=fun b o hb e=>(sb.2 b hb).trans e
  have kk:∀ b o,b ∉ [z,TI,TO,i1,i2]->s.heap.get? b = some o->h''.get? b = some o:=fun b o hb e=>by
   simp only [Zs,List.not_mem_nil,or_false,not_or] at hb
   exact up b o hb.1 (hk b o (by simp only [Zs,List.not_mem_nil,or_false,not_or];exact ⟨hb.1,hb.2.2⟩) e)
  have hT2:h''.get? s.heap.objs.size = some { cls:=.type "tuple",data:=.seq #[u,v] }:=up _ _ zne hT
  refine ⟨.ref s.heap.objs.size,upd H s.heap.objs.size (.tup [x,y]),xU (s:=s) (h':=h'') (t':=s.toks) I kk hf (Nat.le_refl _) ⟨by show 2 <= sizeLine;decide,[u,v],.cons ru (.cons rv2 .nil),⟨_,hT2,rfl,_,rfl⟩⟩,rfl,⟨_,x,y,rfl,fT,rfl,fun zs q=>by rw [I.list_inj q hq1];exact hx,fun zs q=>by rw [wW I q hq2];exact hy⟩,⟨hz'',?_,⟨u,v,up _ _ D.TOz hTO'⟩,h1'.at fun o e=>up _ o D.i1z e,h2'.at fun o e=>up _ o D.i2z e⟩,fun b hb=>?_⟩
  . exact up _ _ D.TIz (hk TI _ (by simp only [Zs,List.not_mem_nil,or_false,not_or];exact ⟨D.TIz,D.TITO,D.TIi1,D.TIi2⟩) hTI)
  . rw [aC (Nat.ne_of_lt (lt b hb))]
    exact (hf b hb).1
 done:=by
  intro X hP hw hK hc i pins s σ H E I hf st hg
  subst hP hw hK
  obtain ⟨xs,ys,hq1,hq2,hl⟩:=hg
  obtain ⟨hz,hTI,⟨a,b',hTO⟩,h1,h2⟩:=st
  obtain ⟨its,rv,p,_⟩:=I.list hq1
  obtain ⟨jts,rw',p',_⟩:=I.tuple hq2
  have n1:=rv.length
  have n2:=rw'.length
  refine sO (I.ok.hd hc) D hz hTI hTO h1 h2 p.isList (show s.heap.IsTuple l2 jts.toArray from p') (fun u' v' h' eu ev=>?_) fun _ h' hk=>⟨rfl,xV (t':=s.toks) I (fun b o hb e=>?_) hf⟩
  . have e1:i < its.length:=by simpa using (Array.getElem?_eq_some_iff.mp eu).1
    have e2:i < jts.length:=by simpa using (Array.getElem?_eq_some_iff.mp ev).1
    omega
  . simp only [Zs,List.not_mem_nil,or_false,not_or] at hb
    exact hk b o (by simp only [Zs,List.not_mem_nil,or_false,not_or];exact ⟨hb.1,hb.2.2⟩) e
 self:=fun _ _ _ _ _ st h=>wpAny_pyIter_zip st.1 h
def A7 (K:PySem.W.Frag) (ta:TA):TI:=fun σ H R=>ta σ H fun vs H1=>∃ a b,vs = [.ref a,.ref b]/\(∃ xs,SqL K H1 a xs)/\(((∃ ys,SqL K H1 b ys)/\R (Itz K a b) H1) \/ ((∃ ys,SqT K H1 b ys)/\R (xP K a b) H1))
theorem sE {X:Cx} {es:List Expr} {kt:Nat} {pt:Pos} {a b:Expr} {ta:TA} {p pos:Pos} (hg:Gl X "zip") (hm:X.mg "zip" = none) (ha:PA X [a,b] ta) (hs:starEach [a,b] X.env = [(false,eval a X.env),(false,eval b X.env)]:=by rfl) (hs2:starEach [b] X.env = [(false,eval b X.env)]:=by rfl) :
 PI X (.Tuple es kt pt) (.Call (.Name "zip" p) [a,b] [] pos) (A7 X.K ta):=by
 intro pins s σ H R I h
 refine Call_ (lK I hg hm PyProof.Rows.boot_zip (PyProof.Rows.callWith_type1 (thn (ha pos pins s σ H _ I h) fun us s1 ⟨vs,H1,I1,r1,q1⟩=>?_) (by rw [hs,hs2]) (by rw [hs2];rfl)))
 obtain ⟨l1,l2,e,⟨xs,hq1⟩,q⟩:=q1
 subst e
 cases r1 with
 | cons r rr =>
  cases rr with
  | cons r' rr =>
   cases rr
   cases r
   cases r'
   obtain ⟨its,rv,p,_⟩:=I1.list hq1
   have a1:l1 < s1.heap.objs.size:=by obtain ⟨_,e,_⟩:=p.isList;exact Heap.lt_size e
   rcases q with ⟨⟨ys,hq2⟩,q⟩ | ⟨⟨ys,hq2⟩,q⟩
   . obtain ⟨jts,rw',p',_⟩:=I1.list hq2
     have a2:l2 < s1.heap.objs.size:=by obtain ⟨_,e,_⟩:=p'.isList;exact Heap.lt_size e
     refine call_zip_2 p.isList p'.isList fun h' hz hTI hTO h1 h2 hsz hk=>wpAny_pyIter_zip hz ?_
     refine ⟨_,_,_,_,H1,rfl,I1.kept (t':=s1.toks) hk,uZ (PyProof.Rows.zipApart_new a1 a2),⟨hz,hTI,⟨_,_,hTO⟩,h1,h2⟩,fun b hb=>?_,q⟩
     have hb':s1.heap.objs.size <= b:=by
      simp only [Zs,List.not_mem_nil,or_false] at hb
      rcases hb with rfl | rfl | rfl | rfl | rfl <;> omega
     exact I1.fpOk hb' (I1.hok.fresh hb')
   . obtain ⟨jts,rw',p',_⟩:=I1.tuple hq2
     have a2:l2 < s1.heap.objs.size:=by obtain ⟨_,e,_⟩:=p';exact Heap.lt_size e
     refine xL p.isList p' fun n h' en hz hTI hTO h1 h2 hk=>wpAny_pyIter_zip hz ?_
     subst en
     refine ⟨_,_,_,_,H1,rfl,I1.kept (t':=s1.toks) hk,ud (PyProof.Rows.zipApart_new a1 a2),⟨hz,hTI,⟨_,_,hTO⟩,h1,h2⟩,fun b hb=>?_,q⟩
     have hb':s1.heap.objs.size <= b:=by
      simp only [Zs,List.not_mem_nil,or_false] at hb
      rcases hb with rfl | rfl | rfl | rfl | rfl <;> omega
     exact I1.fpOk hb' (I1.hok.fresh hb')
theorem xE {K:PySem.W.Frag} {H1:Hp} {a b:Addr} {vs ws:List V} {ds es:List D} (hq:SqL K H1 a vs) (r:Reps K H1 vs ds) (hq':SqT K H1 b ws) (r':Reps K H1 ws es):ItD K (xP K a b) H1 (List.zipWith (fun d e=>D.tup [d,e]) ds es):=by
 intro i H2 s
 have h1:=s.seq hq
 have h2:=kU s hq'
 have l1:=r.length
 have l2:=r'.length
 rw [List.length_zipWith]
 refine ⟨fun hi=>⟨⟨vs,ws,vs[i]'(by omega),ws[i]'(by omega),h1,h2,by simp [show i < vs.length by omega],by simp [show i < ws.length by omega]⟩,fun x H' y=>?_⟩,fun hi=>⟨vs,ws,h1,h2,by omega⟩⟩
 obtain ⟨p,u,v,rfl,hp,rfl,yu,yv⟩:=y
 obtain ⟨d,hd,rd⟩:=r.getV (yu vs h1)
 obtain ⟨e,he,re⟩:=r'.getV (yv ws h2)
 have sn:=bB hp (.tup [u,v])
 refine ⟨sn,.tup [d,e],?_,.tup (SqT.of aX) (.cons ((rd.mono s).mono sn) (.cons ((re.mono s).mono sn) .nil))⟩
 rw [List.getElem?_zipWith,hd,he]
def rR (g:FA):FA:=fun δ=>(g δ).bind fun xs=>match xs with
 | [x,y]=>(asL x).bind fun ds=>(eM y).bind fun es=>some (List.zipWith (fun d e=>D.tup [d,e]) ds es)
 | _=>none
theorem uE {K:PySem.W.Frag} {H:Hp} {v:V} {d:D} {ds:List D} (r:Rep K H v d) (e:eM d = some ds):∃ a vs,v = .ref a/\(SqL K H a vs \/ SqT K H a vs)/\Reps K H vs ds:=by
 cases r with
 | @lst p vs es hp rp=>cases e;exact ⟨p,vs,rfl,.inl (SqL.of hp),rp⟩
 | @seq p vs es hp rp=>cases e;exact ⟨p,vs,rfl,.inl hp,rp⟩
 | @tup p vs es hp rp=>cases e;exact ⟨p,vs,rfl,.inr hp,rp⟩
 | _=>cases e
theorem gf {X:Cx} {es:List Expr} {kt:Nat} {pt:Pos} {a b:Expr} {g:FA} {p pos:Pos} (hg:Gl X "zip") (hm:X.mg "zip" = none) (ha:PAD X [a,b] g) (hs:starEach [a,b] X.env = [(false,eval a X.env),(false,eval b X.env)]:=by rfl) (hs2:starEach [b] X.env = [(false,eval b X.env)]:=by rfl) :
 PID X (.Tuple es kt pt) (.Call (.Name "zip" p) [a,b] [] pos) (rR g):=qW (sE hg hm ha hs hs2) fun σ H R ⟨δ,ds,R0,e,k⟩=>by
 unfold rR at e
 obtain ⟨xs,exs,e⟩:=Za.mp e
 match xs,exs,e with
 | [x,y],exs,e =>
  obtain ⟨us,eu,e⟩:=Za.mp (show ((asL x).bind fun ds=>(eM y).bind fun es=>some (List.zipWith (fun d e=>D.tup [d,e]) ds es)) = some ds from e)
  obtain ⟨ws,ew,e⟩:=Za.mp e
  cases e
  refine ⟨δ,[x,y],R0,exs,fun vs H1 s1 r1 l=>?_⟩
  cases r1 with
  | cons r rr =>
   cases rr with
   | cons r' rr =>
    cases rr
    obtain ⟨p,vs,rfl,hq,rp⟩:=ua r eu
    obtain ⟨p',vs',rfl,hq',rp'⟩:=uE r' ew
    refine ⟨p,p',rfl,⟨_,hq⟩,?_⟩
    rcases hq' with hq' | hq'
    . exact .inl ⟨⟨_,hq'⟩,k _ H1 s1 (zQ hq rp hq' rp')⟩
    . exact .inr ⟨⟨_,hq'⟩,k _ H1 s1 (xE hq rp hq' rp')⟩
theorem v4 {K:PySem.W.Frag} {F H1:Hp} {a b:Addr} {vs ws:List V} {ds es:List D} (hq:SqL K F a vs) (r:Reps K F vs ds) (hq':SqT K F b ws) (r':Reps K F ws es):ItZ K (xP K a b) F (List.zipWith (fun d e=>D.tup [d,e]) ds es):=by
 intro i H2 s
 have h1:=s.seq hq
 have h2:=kU s hq'
 have l1:=r.length
 have l2:=r'.length
 rw [List.length_zipWith]
 refine ⟨fun hi=>⟨⟨vs,ws,vs[i]'(by omega),ws[i]'(by omega),h1,h2,by simp [show i < vs.length by omega],by simp [show i < ws.length by omega]⟩,fun x H' y=>?_⟩,fun hi=>⟨vs,ws,h1,h2,by omega⟩⟩
 obtain ⟨p,u,v,rfl,hp,rfl,yu,yv⟩:=y
 obtain ⟨d,hd,rd⟩:=r.getV (yu vs h1)
 obtain ⟨e,he,re⟩:=r'.getV (yv ws h2)
 have sn:=bB hp (.tup [u,v])
 refine ⟨sn,.tup [d,e],by rw [List.getElem?_zipWith,hd,he],fun F2 s2 s3=>?_⟩
 show RepO K F2 _ (.ref p) (.tup [sh d,sh e]) []
 exact .tup (SqT.of aX) (.cons (RepO.of_sh s3 (rd.mono s2)) (.cons (RepO.of_sh s3 (re.mono s2)) .nil rfl) rfl)
end Dl
namespace Dl
open PySem PySem.Spec PyProof.Rows L2
def yI:D->Option (List D)
 | .seq ys=>some ys
 | .tup ys=>if dN ys then some ys else none
 | _=>none
def rX (fa fb:FM):FMA:=fun δ=>(fa δ).bind fun p=>(fb p.2).bind fun q=>match p.1 with
 | .seq xs=>(yI q.1).bind fun ys=>some (List.zipWith (fun d e=>D.tup [d,e]) xs ys,q.2)
 | _=>none
mutual
theorem RepO.keepI1 {K:PySem.W.Frag} {F H F':Hp} (k:cX H F'):∀ {v:V} {d:D} {A:List Addr},RepO K F H v d A->imm d = true->Rep K F' v d
 | _,_,_,.imm i h,_=>gW k h i
 | _,_,_,.shr _,i=>by rw [imm] at i;cases i
 | _,_,_,.shm _,i=>by rw [imm] at i;cases i
 | _,_,_,.shf _,i=>by rw [imm] at i;cases i
 | _,_,_,.tup h r,i=>.tup (fX k h) (RepOs.keepI k r (by rw [imm] at i;exact i))
 | _,_,_,.lst _ _ _,i=>by rw [imm] at i;cases i
 | _,_,_,.md _ _ _ _ _,i=>by rw [imm] at i;cases i
theorem RepOs.keepI {K:PySem.W.Frag} {F H F':Hp} (k:cX H F'):∀ {vs:List V} {ds:List D} {A:List Addr},RepOs K F H vs ds A->dN ds = true->Reps K F' vs ds
 | _,_,_,.nil,_=>.nil
 | _,_,_,.cons r t _,i=>by
  rw [dN,Bool.and_eq_true] at i
  exact .cons (RepO.keepI1 k r i.1) (RepOs.keepI k t i.2)
end
theorem yH {K:PySem.W.Frag} {F H:Hp} {v:V} {d:D} {A:List Addr} {ys:List D} (r:RepO K F H v d A) (e:yI d = some ys):∃ a vs,v = .ref a/\((∀ F',Same F F'->SqL K F' a vs) \/ (∀ F',cX H F'->SqT K F' a vs))/\∀ F',Same F F'->cX H F'->Reps K F' vs ys:=by
 cases d with
 | seq zs =>
  cases e
  obtain ⟨a,vs,rfl,hq,rp⟩:=r.seqF
  exact ⟨a,vs,rfl,.inl fun F' s=>s.seq hq,fun F' s _=>rp.mono s⟩
 | tup zs =>
  have e:(if dN zs = true then some zs else none) = some ys:=e
  split at e
  . rename_i hi
    cases e
    obtain ⟨a,vs,rfl,sq,ro⟩:=r.parts
    refine ⟨a,vs,rfl,.inr fun F' k=>fX k sq,fun F' s k=>?_⟩
    exact RepOs.keepI k ro hi
  . cases e
 | _=>cases e
theorem ph {X:Cx} {es:List Expr} {kt:Nat} {pt:Pos} {a b:Expr} {fa fb:FM} {p pos:Pos} (hg:Gl X "zip") (hm:X.mg "zip" = none) (ha:PVA X [a,b] (aB fa (aB fb bc))) (hs:starEach [a,b] X.env = [(false,eval a X.env),(false,eval b X.env)]:=by rfl) (hs2:starEach [b] X.env = [(false,eval b X.env)]:=by rfl) :
 PIZ X (.Tuple es kt pt) (.Call (.Name "zip" p) [a,b] [] pos) (rX fa fb):=qW (sE hg hm ha hs hs2) fun σ H R ⟨F,δ,As,ds,δ',R0,e,k⟩=>by
 unfold rX at e
 obtain ⟨⟨x,δ1⟩,e1,e⟩:=Za.mp e
 obtain ⟨⟨y,δ2⟩,e2,e⟩:=Za.mp e
 dsimp only at e e2
 cases x with
 | seq xs =>
  obtain ⟨ys,ey,e⟩:=Za.mp e
  cases e
  refine ⟨F,δ,As,[.seq xs,y],_,R0,(by unfold aB bc;rw [e1];dsimp only [Option.bind_some];rw [e2];rfl),fun vs F1 H1 A As1 ev R1 r1 l=>?_⟩
  cases r1 with
  | cons r rr _ =>
   cases rr with
   | cons r' rr _ =>
    cases rr
    have s1:=lM (A:=[]) R1.fz
    have s2:Same (frz F1 H1 []) H1:=rc
    have kI:cX H1 (frz F1 H1 []):=lN
    have R2:=R1.froz s1 s2 (fun j a m=>by
     obtain ⟨⟨vs,e⟩,n⟩:=R1.dom m
     exact kA e n (fun z=>nomatch z))
    obtain ⟨p,vs,rfl,hq,rp⟩:=r.seqF
    obtain ⟨p',vs',rfl,hq',rp'⟩:=yH r' ey
    refine ⟨p,p',rfl,⟨_,R1.fz.seq hq⟩,?_⟩
    rcases hq' with hq' | hq'
    . exact .inl ⟨⟨_,R1.fz.seq (hq' F1 (Same.refl _))⟩,k _ _ H1 As1 (ev.fs.trans s1) R2 (xD (s1.seq hq) (rp.mono s1) (hq' _ s1) (rp' _ s1 kI))⟩
    . exact .inr ⟨⟨_,hq' H1 (fun _ _ e _=>e)⟩,k _ _ H1 As1 (ev.fs.trans s1) R2 (v4 (H1:=H1) (s1.seq hq) (rp.mono s1) (hq' _ kI) (rp' _ s1 kI))⟩
 | _=>cases e
theorem d5 {X:Cx}:fN X (.type "tuple") (fun xs H Q=>∃ p ys,xs = [.ref p]/\SqL X.K H p ys/\∀ l,H l = none->Q (.ref l) (upd H l (.tup ys))):=by
 intro pins s σ H xs us Q I r h
 obtain ⟨p,ys,rfl,hq,q⟩:=h
 obtain ⟨u,rfl,rx⟩:=kJ r
 cases rx
 obtain ⟨its,r',pl,hz⟩:=I.list hq
 have hlen:=r'.length
 refine call_tuple_list pl.isList (fun h' kp=>?_) (by simp only [List.size_toArray];omega)
 have na:s.heap.get? h'.objs.size = none:=by
  cases z:s.heap.get? h'.objs.size with
  | none=>rfl
  | some o=>exact absurd (Heap.lt_size (kp _ _ z)) (Nat.lt_irrefl _)
 have hn:H h'.objs.size = none:=(I.hok.kept kp).fresh (Nat.le_refl _)
 have k2:∀ b u,s.heap.get? b = some u->(h'.push { cls:=.type "tuple",data:=.seq its.toArray }).get? b = some u:=fun b u e=>Heap.get?_push_of_some _ (kp b u e)
 have un:Un X.fs [] H (upd H h'.objs.size (.tup ys)) s.heap (h'.push { cls:=.type "tuple",data:=.seq its.toArray }) :=
  ⟨fun b u e _ _ _=>k2 b u e,fun b u e _ _ _=>⟨u.slots,k2 b u e⟩,fun b u e n _=>by rw [aC (fun z=>by subst z;rw [na] at e;cases e)];exact n,fun b u e _=>⟨u,k2 b u e⟩,fun b xs e=>by rw [aC (bg e hn)];exact e,fun b u xs e=>by rw [aC (bg e hn)];exact e,fun b ps e=>⟨#[],by rw [aC (bg e hn),e];simp⟩⟩
 have hok:HOk X.prog X.w (upd H h'.objs.size (.tup ys)) (h'.push { cls:=.type "tuple",data:=.seq its.toArray }):=fun b u e=>by
  by_cases hb:b = h'.objs.size
  . rw [hb] at e ⊢
    rw [aX] at e
    cases e
    exact ⟨hz,its,r',IsTup.new _ _⟩
  . rw [aC hb] at e
    exact (I.hok b u e).stay (fun c v _ q=>k2 c v q) (fun c q=>by rw [aC (bg q hn)];exact q) fun c xs q=>by rw [aC (bg q hn)];exact q
 exact ⟨.ref h'.objs.size,_,I.un (t':=s.toks) un hok,rfl,q _ hn⟩
end Dl
namespace Dl
open PySem
section
variable {prog:Program} {w:World} {A:Around} {E:Value->Shared->Prop} {s:Shared}
end
end Dl
namespace Dl
open PySem PySem.Spec PyProof.Rows L2
def q9 (as:List D):Option D:=(wI as).bind fun ds=>some (.tup ds)
theorem g6 {K:PySem.W.Frag}:hV K (fun xs H Q=>∃ p ys,xs = [.ref p]/\SqL K H p ys/\∀ l,H l = none->Q (.ref l) (upd H l (.tup ys))) q9:=by
 intro xs H Q as d r e k
 unfold q9 at e
 obtain ⟨ds,e1,e⟩:=Za.mp e
 cases e
 obtain ⟨p,ys,h1,h2,h3⟩:=l7 r e1
 exact ⟨p,ys,h1,h2,fun l hl=>k _ _ (bB hl _) (.tup (SqT.of aX) (h3.mono (bB hl _)))⟩
theorem d6:bootBuiltins "tuple" = some (.type "tuple"):=by decide +kernel
theorem kj {X:Cx} {e:Expr} {f:FM} {T:String} {x:Str} {p pos:Pos} {r:List V->Hp->VK->Prop} {G:List D->Option D} (hc:fN X (.type T) r) (hG:hV X.K r G) (hg:Gl X x) (hm:X.mg x = none) (hv:bootBuiltins x = some (.type T)) (h:PV X e f) (hn:x ≠ "__name__":=by decide) (hdb:(x == ("__debug__":Str)) = false:=by decide)
 (he:starEach [e] X.env = (false,eval e X.env) :: starEach [] X.env:=by rfl) (hpl:(backTo pos (starEach [] X.env)).any (·.1) = false:=by rfl):PV X (.Call (.Name x p) [e] [] pos) (qv G f):=imp (jB hc hg hm hv (cV h eU he) hn hdb he hpl) fun σ H Q ⟨F,δ,As,d,δ',R,q,k⟩=>by
 unfold qv at q
 obtain ⟨⟨d1,δ1⟩,e1,q⟩:=Za.mp q
 obtain ⟨d2,e2,q⟩:=Za.mp q
 dsimp only at e2 q
 split at q
 . rename_i hi
   cases q
   refine ⟨F,δ,As,d1,_,R,e1,fun v F1 H1 A As1 ev R1 r1=>?_⟩
   refine hG [v] H1 Q [d1] d (.cons (r1.rep R1.fz) .nil) e2 fun w H' s r2=>?_
   exact k w F1 H' [] As1 ⟨ev.fs,ev.hs.trans s,ev.nf,ev.fa,fun _ m=>(nomatch m),Zw,fun _ _ _ z=>(nomatch z)⟩ (R1.grow s) (.imm hi r2)
 . cases q
def jD:D->Option (Int × Int)
 | .tup [.int i,.int j]=>some (i,j)
 | _=>none
def gA:List D->Option (List (Int × Int))
 | []=>some []
 | d :: ds=>(jD d).bind fun p=>(gA ds).bind fun ps=>some (p :: ps)
def dX (a b:D):Option D:=(jD a).bind fun p=>(asL b).bind fun ds=>(gA ds).bind fun ps=>some (.bl (!ps.contains p))
theorem ly {d:D} {p:Int × Int} (h:jD d = some p):d = .tup [.int p.1,.int p.2]:=by
 unfold jD at h
 split at h
 . cases h;rfl
 . cases h
theorem vG {K:PySem.W.Frag} {H:Hp} {v:V} {i j:Int} (r:Rep K H v (.tup [.int i,.int j])):∃ a,v = .ref a/\SqT K H a [.int i,.int j]:=by
 cases r with
 | tup h rr =>
  cases rr with
  | cons r1 rr =>
   cases rr with
   | cons r2 rr =>
    cases rr
    cases r1
    cases r2
    exact ⟨_,rfl,h⟩
theorem pV (i j k l:Int):eqN 6 (.tup [.int i,.int j]) (.tup [.int k,.int l]) = some (decide ((i,j) = (k,l))):=by
 show some ((i == k) && ((j == l) && true)) = _
 congr 1
 by_cases h1:i = k
 . by_cases h2:j = l
   . subst h1 h2;simp
   . have:¬ ((i,j) = (k,l)):=fun z=>h2 (Prod.mk.inj z).2
     rw [decide_eq_false this]
     simp [h2]
 . have:¬ ((i,j) = (k,l)):=fun z=>h1 (Prod.mk.inj z).1
   rw [decide_eq_false this]
   simp [h1]
section
variable {X:Cx} {a b:Expr} {fa fb:FD} {pos:Pos}
def sr (K:PySem.W.Frag):R2:=fun x y H Q=>∃ p q ds ps ys,Rep K H x (.tup [.int p.1,.int p.2])/\y = .ref q/\SqL K H q ys/\Reps K H ys ds/\gA ds = some ps/\Q (.bl (!ps.contains p)) H
open Classical in
theorem qj {pins:List (Addr × Obj)} {σ:L2.St} {H:Hp} {s:Shared} (I:L2.Inv X pins σ H s) {p:Int × Int} {v:Value} {x:V} (rx:RelV x v) (ra:Rep X.K H x (.tup [.int p.1,.int p.2])) (A:Around) (hu:A.units + 6 < cLine):∀ {ys:List V} {us:List Value} {ds:List D} {ps:List (Int × Int)},Vals ys us->Reps X.K H ys ds->gA ds = some ps ->
 (∀ u ∈ us,SeqAt.EqAt A s u v (decide (∃ q,u = .ref q/\SqT X.K H q [.int p.1,.int p.2])))/\(us.any fun u=>decide (∃ q,u = .ref q/\SqT X.K H q [.int p.1,.int p.2])) = ps.contains p
 | _,_,_,_,.nil,.nil,e=>by cases e;exact ⟨fun u m=>(nomatch m),rfl⟩
 | y :: ys,u :: us,d :: ds,ps,.cons ru t,.cons r rr,e=>by
  obtain ⟨q,eq,e⟩:=Za.mp (show ((jD d).bind _) = some ps from e)
  obtain ⟨qs,eqs,e⟩:=Za.mp e
  cases e
  obtain ⟨h1,h2⟩:=qj I rx ra A hu t rr eqs
  have ed:=ly eq
  subst ed
  have key:(decide (∃ z,u = .ref z/\SqT X.K H z [.int p.1,.int p.2])) = decide (q = p):=by
   obtain ⟨z,rfl,hz⟩:=vG r
   cases ru
   by_cases hq:q = p
   . subst hq
     rw [decide_eq_true rfl]
     exact decide_eq_true ⟨z,rfl,hz⟩
   . rw [decide_eq_false hq]
     refine decide_eq_false ?_
     rintro ⟨z',e,hz'⟩
     cases e
     have:=I.tuple_inj hz hz'
     cases p
     cases q
     cases this
     exact hq rfl
  have eqv:SeqAt.EqAt A s u v (decide (q = p)):=(pU I 6 A hu ru rx r ra (pV q.1 q.2 p.1 p.2)).2.2
  refine ⟨fun w m=>?_,?_⟩
  . rcases Zs.mp m with z | z
    . rw [z,key];exact eqv
    . exact h1 w z
  . rw [List.any_cons,h2,key,List.contains_cons]
    congr 1
    by_cases hq:q = p
    . subst hq;simp
    . rw [decide_eq_false hq]
      exact (beq_eq_false_iff_ne.mpr (Ne.symm hq)).symm
open Classical in
theorem ut (hu:X.A.units + 64 < cLine):OpR X (compareOp .NotIn) (sr X.K):=by
 intro pins s σ H x y v u Q I rx ry h
 obtain ⟨p,q,ds,ps,ys,ra,rfl,hq,rr,e,k⟩:=h
 cases ry
 obtain ⟨its,r,pl,hz⟩:=I.list hq
 obtain ⟨h1,h2⟩:=qj I rx ra X.A.in1 (by show X.A.units + 1 + 6 < cLine;omega) r rr e
 refine SeqAt.notIn_listAt _ pl.isList (fun w hw=>h1 w (by simpa using hw)) ⟨.bl _,H,I,rfl,?_⟩
 rw [show its.toArray.any (fun u=>decide (∃ q,u = Value.ref q/\SqT X.K H q [V.int p.1,V.int p.2])) = its.any (fun u=>decide (∃ q,u = Value.ref q/\SqT X.K H q [V.int p.1,V.int p.2])) by simp,h2]
 exact k
theorem ul {K:PySem.W.Frag}:R2D K (sr K) dX:=by
 intro x y H Q a b d ra rb e k
 unfold dX at e
 obtain ⟨p,ep,e⟩:=Za.mp e
 obtain ⟨ds,eds,e⟩:=Za.mp e
 obtain ⟨ps,eps,e⟩:=Za.mp e
 cases e
 have:=ly ep
 subst this
 obtain ⟨q,vs,rfl,hq,rr⟩:=ua rb eds
 exact ⟨p,q,ds,ps,vs,ra,rfl,hq,rr,eps,k _ H (Same.refl H) (.bl _)⟩
theorem lc (hu:X.A.units + 64 < cLine) (ha:PD X a fa) (hb:PD X b fb) (hm:behindInMarks .NotIn b = false:=by with_unfolding_all rfl):PTD X (.Compare a [.NotIn] [b] pos) (fT (f2 dX fa fb)):=dU (ut hu) ul ha hb hm
end
end Dl
namespace Dl
open PySem PySem.Spec PyProof.Rows L2
end Dl
namespace Dl
open PySem PySem.Spec PyProof.Rows L2
section
variable {X:Cx} {pins:List (Addr × Obj)} {σ:L2.St} {H:Hp} {s:Shared}
end
end Dl
namespace Dl
open PySem PySem.Spec PyProof.Rows L2
section
variable {X:Cx} {Z:L2.St->Prop} {e:Expr} {fm:FM} {pos:Pos}
end
end Dl
namespace Dl
open PySem PySem.Spec PyProof.Rows L2
end Dl
namespace Dl
open PySem PySem.Spec PyProof.Rows L2
def fi:List D->Option (List Nat)
 | []=>some []
 | d :: ds=>match d with
  | .int i=>if 0 <= i/\i <= 4 then (fi ds).bind fun ns=>some (i.toNat :: ns) else none
  | _=>none
def uh (ns:List Nat):List D:=((List.range 5).filter fun k=>decide (k ∈ ns)).map fun (k:Nat)=>D.int (k:Int)
def nE (f:FM):FM:=fun δ=>(f δ).bind fun p=>match p.1 with
 | .lst ds=>(fi ds).bind fun ns=>some (.lst (uh ns),p.2)
 | _=>none
end Dl
namespace Dl
open PySem PySem.Spec PyProof.Rows L2
section
variable {X:Cx} {a b:Expr} {fa fb:FD} {pos:Pos}
end
end Dl
namespace Dl
open PySem PySem.Spec PyProof.Rows L2
theorem xk {X:Cx} {tg l:Expr} {f:FD} (hl:PD X l f):PID X tg l (fun δ=>(f δ).bind eM):=fun pins s σ H R I ⟨δ,ds,R0,e,k⟩=>by
 obtain ⟨d,ed,e⟩:=Za.mp e
 cases d with
 | tup xs=>exact kq hl pins s σ H R I ⟨δ,ds,R0,by dsimp only;rw [ed];exact e,k⟩
 | lst xs=>exact eS hl pins s σ H R I ⟨δ,ds,R0,by dsimp only;rw [ed];exact e,k⟩
 | seq xs=>exact eS hl pins s σ H R I ⟨δ,ds,R0,by dsimp only;rw [ed];exact e,k⟩
 | _=>cases e
end Dl
namespace Dl
open PySem PySem.Spec PyProof.Rows L2
theorem tH {X:Cx} {pins:List (Addr × Obj)} {σ:L2.St} {H:Hp} {s:Shared} {h':Heap} {t':Nat} {a:Addr} {u:HO} (I:L2.Inv X pins σ H s) (k:∀ b o,s.heap.get? b = some o->h'.get? b = some o) (na:s.heap.get? a = none) (hn:H a = none) (new:ObjOk X.prog X.w (upd H a u) h' a u):L2.Inv X pins σ (upd H a u) { s with heap:=h',toks:=t' }:=by
 have un:Un X.fs [] H (upd H a u) s.heap h':=⟨fun b u e _ _ _=>k b u e,fun b u e _ _ _=>⟨u.slots,k b u e⟩,fun b u e n _=>by rw [aC (fun z=>by subst z;rw [na] at e;cases e)];exact n,fun b u e _=>⟨u,k b u e⟩,fun b xs e=>by rw [aC (bg e hn)];exact e,fun b u xs e=>by rw [aC (bg e hn)];exact e,fun b ps e=>⟨#[],by rw [aC (bg e hn),e];simp⟩⟩
 refine I.un (t':=t') un fun b v e=>?_
 by_cases hb:b = a
 . rw [hb] at e ⊢
   rw [aX] at e
   cases e
   exact new
 . rw [aC hb] at e
   exact (I.hok b v e).stay (fun c v _ q=>k c v q) (fun c q=>by rw [aC (bg q hn)];exact q) fun c xs q=>by rw [aC (bg q hn)];exact q
def wY (w:World) (l:Addr) (ns:List Nat):HO:=.ext fun h=>Sw.SetS h l (Sw.ledOf w) (Sw.putAll ns)
def vN (n:Nat):V:=.int (n:Int)
theorem tz:∀ (ns:List Nat) (pre its:List Value),Vals (ns.map vN) its->(∀ n ∈ ns,n ∈ [0,1,2,3,4])->Sw.Left (pre ++ its).toArray pre.length ns
 | [],pre,its,r,_=>by
  cases r
  show (pre ++ []).toArray[pre.length]? = none
  simp
 | n :: ns,pre,its,r,h=>by
  cases r with
  | cons a t =>
   obtain ⟨k,rfl⟩:=a
   refine ⟨⟨k,by simp⟩,h n Zo,?_⟩
   rename_i us
   have:=tz ns (pre ++ [.int (n:Int) k]) us t fun x m=>h x (Zp _ m)
   rw [List.append_assoc,List.length_append] at this
   exact this
theorem uR {X:Cx} (hc:X.calm = true):fN X (.type "set") (fun xs H Q=>∃ p ns,xs = [.ref p]/\SqL X.K H p (ns.map vN)/\(∀ n ∈ ns,n ∈ [0,1,2,3,4])/\∀ l,H l = none->Q (.ref l) (upd H l (wY X.w l ns))):=by
 intro pins s σ H xs us Q I r h
 obtain ⟨p,ns,rfl,hq,h5,q⟩:=h
 obtain ⟨u,rfl,rx⟩:=kJ r
 cases rx
 obtain ⟨its,r',pl,hz⟩:=I.list hq
 refine Sw.set_small (ms:=ns) (I.ok.hd hc) pl.isList (tz ns [] its r' h5) fun h' tk kp hS=>?_
 have hn:H s.heap.objs.size = none:=I.hok.fresh (Nat.le_refl _)
 have na:s.heap.get? s.heap.objs.size = none:=by
  cases z:s.heap.get? s.heap.objs.size with
  | none=>rfl
  | some o=>exact absurd (Heap.lt_size z) (Nat.lt_irrefl _)
 refine ⟨.ref s.heap.objs.size,_,tH I kp na hn (u:=wY X.w s.heap.objs.size ns) ⟨hS,?_,fun h1 h2 x k=>x.same k⟩,rfl,q _ hn⟩
 obtain ⟨o,_,_,g,_⟩:=hS
 exact ⟨o,g⟩
theorem mL:∀ {us:List Value} {ks:List Nat},IntsAre us (ks.map fun (k:Nat)=>(k:Int))->Vals (ks.map vN) us
 | _,[],h=>by cases h;exact .nil
 | _,k :: ks,h=>by
  cases h with
  | cons _ t h=>exact .cons ⟨t,rfl⟩ (mL h)
theorem rJ {X:Cx} (hc:X.calm = true):fN X (.builtin "sorted") (fun xs H Q=>∃ p ns,xs = [.ref p]/\H p = some (wY X.w p ns)/\(∀ n ∈ ns,n ∈ [0,1,2,3,4])/\∀ l,H l = none->Q (.ref l) (upd H l (.lst ((Sw.srtN ns).map vN)))):=by
 intro pins s σ H xs us Q I r h
 obtain ⟨p,ns,rfl,hq,h5,q⟩:=h
 obtain ⟨u,rfl,rx⟩:=kJ r
 cases rx
 obtain ⟨hS,_,_⟩:=I.hok p _ hq
 rw [Sw.putAll_srt h5] at hS
 refine Sw.sorted_small (I.ok.hd hc) hS fun h1 h' tk out k1 k2 li hI=>?_
 have na:s.heap.get? h1.objs.size = none:=by
  cases z:s.heap.get? h1.objs.size with
  | none=>rfl
  | some o=>exact absurd (Heap.lt_size (k1 _ _ z)) (Nat.lt_irrefl _)
 have hn:H h1.objs.size = none:=(I.hok.kept k1).fresh (Nat.le_refl _)
 obtain ⟨e,he⟩:=li
 have l5:(Sw.srtN ns).length <= 5:=List.length_filter_le _ _
 exact ⟨.ref h1.objs.size,_,tH I (fun b o z=>k2 b o (k1 b o z)) na hn (u:=.lst ((Sw.srtN ns).map vN)) ⟨by rw [Zl];exact Nat.le_trans l5 (by decide),out.toList,e,mL hI,by simpa using he⟩,rfl,q _ hn⟩
theorem kN {K:PySem.W.Frag} {F H:Hp}:∀ {vs:List V} {ds:List D} {A:List Addr} {ns:List Nat},RepOs K F H vs ds A->fi ds = some ns->vs = ns.map vN/\∀ n ∈ ns,n ∈ [0,1,2,3,4]
 | _,[],_,ns,r,e=>by
  cases r
  cases e
  exact ⟨rfl,fun _ m=>nomatch m⟩
 | _,d :: ds,_,ns,r,e=>by
  cases r with
  | cons a t _ =>
   unfold fi at e
   split at e
   . rename_i i
     split at e
     . rename_i hi
       obtain ⟨ms,em,e⟩:=Za.mp e
       cases e
       obtain ⟨h1,h2⟩:=kN t em
       subst h1
       have ev:∀ {v:V} {B:List Addr},RepO K F H v (.int i) B->v = .int i:=fun r=>by
        cases r with
        | imm _ r=>cases r;rfl
       rw [ev a]
       have:((i.toNat:Nat):Int) = i:=by omega
       refine ⟨by show _ = vN i.toNat :: ms.map vN;unfold vN;rw [this],fun n m=>?_⟩
       rcases Zs.mp m with z | z
       . have c:i = 0 \/ i = 1 \/ i = 2 \/ i = 3 \/ i = 4:=by omega
         rw [z]
         rcases c with rfl | rfl | rfl | rfl | rfl <;> decide
       . exact h2 n z
     . cases e
   . cases e
theorem mO {K:PySem.W.Frag} {F H:Hp}:∀ (ks:List Nat),RepOs K F H (ks.map vN) (ks.map fun (k:Nat)=>D.int (k:Int)) []
 | []=>.nil
 | k :: ks=>.cons (.imm rfl (.int _)) (mO ks) rfl
theorem oK:bootBuiltins "sorted" = some (.builtin "sorted"):=by decide +kernel
theorem uS:bootBuiltins "set" = some (.type "set"):=by decide +kernel
theorem vn {X:Cx} {e:Expr} {f:FM} {p p' pos pos':Pos} (hg:Gl X "sorted") (hm:X.mg "sorted" = none) (hg':Gl X "set") (hm':X.mg "set" = none) (h:PV X e f) (hc:X.calm = true:=by rfl)
 (he:starEach [e] X.env = (false,eval e X.env) :: starEach [] X.env:=by rfl) (hpl:(backTo pos' (starEach [] X.env)).any (·.1) = false:=by rfl)
 (he':starEach [.Call (.Name "set" p') [e] [] pos'] X.env = (false,eval (.Call (.Name "set" p') [e] [] pos') X.env) :: starEach [] X.env:=by rfl) (hpl':(backTo pos (starEach [] X.env)).any (·.1) = false:=by rfl) :
 PV X (.Call (.Name "sorted" p) [.Call (.Name "set" p') [e] [] pos'] [] pos) (nE f) :=
 imp (lh (rJ hc) hg hm oK (cV (jB (uR hc) hg' hm' uS (cV h eU he) (by decide) (by decide) he hpl) eU he') (by decide) (by decide) he' hpl') fun σ H Q ⟨F,δ,As,d,δ',R,q,k⟩=>by
  unfold nE at q
  obtain ⟨⟨d1,δ1⟩,e1,q⟩:=Za.mp q
  dsimp only at q
  cases d1 with
  | lst ds =>
   obtain ⟨ns,e2,q⟩:=Za.mp (show ((fi ds).bind fun ns=>some (D.lst (uh ns),δ1)) = some (d,δ') from q)
   cases q
   refine ⟨F,δ,As,.lst ds,_,R,e1,fun v F1 H1 A As1 ev R1 r1=>?_⟩
   cases r1 with
   | imm i _=>cases i
   | @lst a vs _ B ha nf rs =>
    obtain ⟨rfl,h5⟩:=kN rs e2
    refine ⟨a,ns,rfl,SqL.of ha,h5,fun l hl=>⟨l,ns,rfl,aX,h5,fun m hm2=>?_⟩⟩
    have s1:=bB hl (wY X.w l ns)
    have s2:=bB hm2 (.lst ((Sw.srtN ns).map vN))
    have s3:=s1.trans s2
    have nm:H1 m = none:=by
     cases z:H1 m with
     | none=>rfl
     | some o=>rw [s1 m o z] at hm2;cases hm2
    have np:∀ {u:Hp},Same u H1->u m = none:=fun {u} su=>by
     cases z:u m with
     | none=>rfl
     | some o=>rw [su m o z] at nm;cases nm
    refine k (.ref m) F1 _ [m] As1 ⟨ev.fs,ev.hs.trans s3,ev.nf,ev.fa,fun b z=>?_,(by simp),fun i b mb z=>?_⟩ (R1.grow s3) (.lst aX (np R1.fz) (mO (Sw.srtN ns)))
    . rw [List.mem_singleton.mp z]
      exact .inr (np ev.hs)
    . rw [List.mem_singleton.mp z] at mb
      obtain ⟨⟨u,e⟩,_⟩:=R1.dom mb
      rw [nm] at e
      cases e
  | _=>cases q
end Dl
namespace Mine
open PySem PySem.Spec PyProof.Rows L2 Dl
noncomputable section
open Mth
abbrev fr (p:Int × Int):D:=.tup [.int p.1,.int p.2]
def oq:D->Option Bool
 | .int _=>some true
 | .ty _=>none
 | .exc _=>none
 | .cls _=>none
 | .ms _ _=>none
 | .mf _ _=>none
 | .md _ _=>none
 | _=>some false
abbrev Md (x:Int):Prop:=Sm 4000 x
theorem Md.bd {x:Int} (h:Md x):Bd x:=h.mono (l:=9000) (by decide)
theorem wG {k:Nat} {x:Int} (h:Sm k x) (e:k <= 9000:=by decide):Bd x:=h.mono (l:=9000) e
theorem dE {x:Int} (h:x.natAbs < 2 ^ 64:=by decide):Bd x:=wG (k:=64) h
theorem Aa {x:Int} (h:Bd x):Bd (-x):=by unfold Bd at *;rw [Int.natAbs_neg];exact h
structure Fk (p:Int × Int):Prop where
 pos:0 < p.2
 s1:Md p.1
 s2:Md p.2
theorem Fk.of {k:Nat} {p:Int × Int} (h:Fr k p) (e:k <= 4000:=by decide):Fk p:=⟨h.pos,h.s1.mono e,h.s2.mono e⟩
def gG (ds:List D) (d:D):Prop:=∃ x b,oq x = some b/\ds = [x]/\d = .bl b
theorem eW {x:D} {b:Bool} (h:oq x = some b):fn gG [x] = some (.bl b):=cu (fun d' h'=>by
 obtain ⟨x',b',h1,h2,rfl⟩:=h'
 cases h2;rw [h] at h1;cases h1;rfl) ⟨x,b,h,rfl,rfl⟩
abbrev cE:=gG
def cW (ds:List D) (d:D):Prop:=∃ a b,0 < b/\ds = [.int a,.int b]/\d = .int (gc a b)
theorem dO {a b:Int} (h:0 < b):fn cW [.int a,.int b] = some (.int (gc a b)):=cu (fun d' h'=>by
 obtain ⟨a',b',h1,h2,rfl⟩:=h'
 cases h2;rfl) ⟨a,b,h,rfl,rfl⟩
def ma (ds:List D) (d:D):Prop:=∃ t b,0 < b/\Bd b/\ds = [.int t,.int b]/\d = fr (rd t b)
theorem pY {t b:Int} (h:0 < b) (g:Bd b):fn ma [.int t,.int b] = some (fr (rd t b)):=cu (fun d' h'=>by
 obtain ⟨t',b',_,_,h2,rfl⟩:=h'
 cases h2;rfl) ⟨t,b,h,g,rfl,rfl⟩
def S2 (op:Int × Int->Int × Int->D) (ds:List D) (d:D):Prop:=∃ p q:Int × Int,Fk p/\Fk q/\ds = [fr p,fr q]/\d = op p q
theorem e2 {op:Int × Int->Int × Int->D} {p q:Int × Int} (h:Fk p) (g:Fk q):fn (S2 op) [fr p,fr q] = some (op p q):=cu (fun d' h'=>by
 obtain ⟨⟨a,b⟩,⟨c,e⟩,_,_,h2,rfl⟩:=h'
 obtain ⟨a',b'⟩:=p
 obtain ⟨c',e'⟩:=q
 cases h2;rfl) ⟨p,q,h,g,rfl,rfl⟩
abbrev g9:=S2 fun p q=>.bl (decide (p.1 * q.2 < q.1 * p.2))
theorem cZ:∀ {ns ms:List Int},ns.map D.int = ms.map D.int->ns = ms
 | [],[],_=>rfl
 | [],_ :: _,h=>by cases h
 | _ :: _,[],h=>by cases h
 | n :: ns,m :: ms,h=>by
  have h':D.int n :: ns.map D.int = D.int m :: ms.map D.int:=h
  injection h' with h1 h2
  injection h1 with h1
  rw [h1,cZ h2]
def cell (ns:List Int) (k:Int):Int:=ns.getD k.toNat 0
def hU (ds:List D) (d:D):Prop:=∃ (ns:List Int) (k:Int),0 <= k/\ds = [.seq (ns.map D.int),.int k]/\d = .int (cell ns k)
theorem lU {ns:List Int} {k:Int} (h:0 <= k):fn hU [.seq (ns.map D.int),.int k] = some (.int (cell ns k)):=cu (fun d' h'=>by
 obtain ⟨ns',k',_,h2,rfl⟩:=h'
 injection h2 with h3 h4
 injection h3 with h3
 injection h4 with h4
 injection h4 with h4
 rw [cZ h3,h4]) ⟨ns,k,h,rfl,rfl⟩
structure Flw (p:Int × Int):Prop extends Fk p where
 lw:Lw p
theorem Flw.of {k:Nat} {p:Int × Int} (h:Fr k p) (e:k <= 4000:=by decide):Flw p:=⟨Fk.of h e,h.lw⟩
def S2w (op:Int × Int->Int × Int->D) (ds:List D) (d:D):Prop:=∃ p q:Int × Int,Flw p/\Flw q/\ds = [fr p,fr q]/\d = op p q
theorem e2w {op:Int × Int->Int × Int->D} {p q:Int × Int} (h:Flw p) (g:Flw q):fn (S2w op) [fr p,fr q] = some (op p q):=cu (fun d' h'=>by
 obtain ⟨⟨a,b⟩,⟨c,e⟩,_,_,h2,rfl⟩:=h'
 obtain ⟨a',b'⟩:=p
 obtain ⟨c',e'⟩:=q
 cases h2;rfl) ⟨p,q,h,g,rfl,rfl⟩
def ju (ds:List D) (d:D):Prop:=∃ p q:Int × Int,Flw p/\Flw q/\ds = [fr p,.int q.1,.int q.2]/\d = fr (sm p.1 p.2 q.1 q.2)
theorem wt {p q:Int × Int} (h:Flw p) (g:Flw q):fn ju [fr p,.int q.1,.int q.2] = some (fr (sm p.1 p.2 q.1 q.2)):=cu (fun d' h'=>by
 obtain ⟨⟨a,b⟩,⟨c,e⟩,_,_,h2,rfl⟩:=h'
 obtain ⟨a',b'⟩:=p
 obtain ⟨c',e'⟩:=q
 cases h2;rfl) ⟨p,q,h,g,rfl,rfl⟩
theorem Flw.neg {p:Int × Int} (h:Flw p):Flw (-p.1,p.2):=⟨⟨h.pos,h.s1.neg,h.s2⟩,h.lw.neg⟩
theorem qP {x g:Int} (h:Md x) (hg:0 < g) (d:g ∣ x):Bd (x / g):=(Sm.div h hg d).mono (l:=9000) (by decide)
abbrev oM:=S2w fun p q=>fr (mi p q)
theorem xx (n:Int):low n 1 = (n,1):=by
 rw [xw (by decide)]
 exact gb ⟨by decide,by unfold gc;simp⟩
def cf (ds:List D) (d:D):Prop:=∃ t b,b ≠ 0/\Bd b/\ds = [.int t,.int b]/\d = fr (low t b)
theorem rl {t b:Int} (h:b ≠ 0) (g:Bd b):fn cf [.int t,.int b] = some (fr (low t b)):=cu (fun d' h'=>by
 obtain ⟨t',b',_,_,h2,rfl⟩:=h'
 cases h2;rfl) ⟨t,b,h,g,rfl,rfl⟩
theorem fM {n:Int}:dfl (fn cf) [1] [.int n] = some (.tup [.int n,.int 1]):=by
 have h:=rl (t:=n) (b:=1) (by decide) dE
 rw [xx] at h
 exact h
theorem dJ {s:SD} {δ:DS} {d:D} (h:s δ = some (.rt d)):az (s δ) = some d:=by rw [h];rfl
theorem aI {s u:SD} {δ δ':DS} {r:Res} (h:s δ = some (.nx δ')) (g:u δ' = some r):aO s u δ = some r:=by unfold aO;rw [h];exact g
theorem ib {s u:SD} {δ:DS} {d:D} (h:s δ = some (.rt d)):aO s u δ = some (.rt d):=by unfold aO;rw [h];rfl
theorem bD {i:Nat} {f:FM} {δ δ':DS} {d:D} (h:f δ = some (d,δ')):av i f δ = some (.nx (δ'.set i (some d))):=by unfold av;rw [h];rfl
theorem cw {f:FM} {δ δ':DS} {d:D} (h:f δ = some (d,δ')):aP f δ = some (.rt d):=by unfold aP;rw [h];rfl
theorem i0 {f:FM} {δ δ':DS} {d p:D} (h:f δ = some (d,δ')) (g:δ'[0]? = some (some p)):jc f δ = some (.rt (.tup [d,p])):=by unfold jc;rw [h];dsimp only [Option.bind_some];rw [g]
theorem bT {c:FT} {s u:SD} {δ:DS} {r:Res} (h:c δ = some false) (g:u δ = some r):sIf c s u δ = some r:=by unfold sIf;rw [h];exact g
theorem dk {c:FT} {s u:SD} {δ:DS} {r:Res} (h:c δ = some true) (g:s δ = some r):sIf c s u δ = some r:=by unfold sIf;rw [h];exact g
theorem kM {src:FMA} {i:Nat} {s:SD} {δ δ':DS} {ds:List D} {r:Res} (h:src δ = some (ds,δ')) (g:Dl.forM i s ds δ' = some r):jU src i s δ = some r:=by unfold jU;rw [h];exact g
theorem r8 {src:FMA} {g:D->DS->Option DS} {s:SD} {δ δ':DS} {ds:List D} {r:Res} (h:src δ = some (ds,δ')) (k:pS g s ds δ' = some r):sg src g s δ = some r:=by unfold sg;rw [h];exact k
theorem nI {δ δ':DS} {i:Nat} {fm:FM} {xs ds:List D} {d:D} (h:δ[i]? = some (some (.lst xs))) (g:fm δ = some (d,δ')) (h':δ'[i]? = some (some (.lst ds))) (l:ds.length <= 999):jd i fm δ = some (.nx (δ'.set i (some (.lst (ds ++ [d]))))):=by
 unfold jd
 rw [h]
 dsimp only
 rw [g]
 dsimp only [Option.bind_some]
 rw [h']
 exact if_pos l
theorem nH {i:Nat} {δ:DS} {d:D} {ds:List D} (h:δ[i]? = some (some d)) (g:sh d = .seq ds) (k:sh (.seq ds) = .seq ds):kK (aD i) δ = some (ds,δ.set i (some (.seq ds))):=by
 unfold kK aD
 rw [h]
 simp only [Zc,g,k]
theorem xW {is:List Nat} {fm:FM} {δ δ':DS} {ds:List D} (h:fm δ = some (.tup ds,δ')) (l:ds.length = is.length) (i:pQ is δ'.length = true):oZ is fm δ = some (.nx (oW is ds δ')):=by
 unfold oZ
 rw [h]
 dsimp only [Option.bind_some]
 rw [if_pos ⟨l,i⟩]
theorem bM {f:FD} {δ:DS} {d:D} (h:f δ = some d) (g:imm d = true:=by rfl):vI f δ = some (d,δ):=by unfold vI;rw [h];exact if_pos g
theorem fO {G:List D->Option D} {g:FA} {δ:DS} {ds:List D} {d:D} (h:g δ = some ds) (k:G ds = some d) (o:own d = true):aJ G g δ = some (d,δ):=by unfold aJ;rw [h];show ((G ds).bind _) = _;rw [k];exact if_pos o
theorem qt {i:Nat} {δ:DS} {ds:List D} (h:δ[i]? = some (some (.lst ds))):aA i δ = some (.lst ds,δ.set i none):=by unfold aA;rw [h];rfl
theorem qr {f g:FM} {δ δ1 δ2:DS} {a b:D} (h:f δ = some (a,δ1)) (k:g δ1 = some (b,δ2)):bm (aB f (aB g bc)) δ = some (.tup [a,b],δ2):=by
 unfold bm aB
 rw [h]
 dsimp only [Option.bind_some]
 rw [k]
 rfl
theorem qu {f g:FM} {δ δ1 δ2:DS} {a b:D} (h:f δ = some (a,δ1)) (k:g δ1 = some (b,δ2)):bj (aB f (aB g bc)) δ = some (.lst [a,b],δ2):=by
 unfold bj aB
 rw [h]
 dsimp only [Option.bind_some]
 rw [k]
 rfl
theorem jM {G:List D->Option D} {f:FM} {δ δ':DS} {d e:D} (h:f δ = some (d,δ')) (g:G [d] = some e) (i:imm e = true):qv G f δ = some (e,δ'):=by
 unfold qv
 rw [h]
 dsimp only [Option.bind_some]
 rw [g]
 exact if_pos i
theorem nC {i:Nat} {G:List D->Option (D × D)} {g:FA} {δ:DS} {d0 p r:D} {es:List D} (h:δ[i]? = some (some d0)) (k:g δ = some es) (e:G (d0 :: es) = some (p,r)) (o:own p = true) (o':own r = true):bY i G g δ = some (r,δ.set i (some p)):=by
 unfold bY
 rw [h]
 dsimp only
 rw [k]
 dsimp only [Option.bind_some]
 rw [e]
 exact if_pos ⟨o,o'⟩
theorem rV {g:D->D->Option D} {fa fb:FM} {δ δ1 δ2:DS} {a b d:D} (h:fa δ = some (a,δ1)) (k:fb δ1 = some (b,δ2)) (e:g a b = some d) (i:imm d = true):iL g fa fb δ = some (d,δ2):=by
 unfold iL
 rw [h]
 dsimp only [Option.bind_some]
 rw [k]
 dsimp only [Option.bind_some]
 rw [e]
 exact if_pos i
theorem Af {f:FD} {δ:DS} {d:D} (h:f δ = some d) (i:imm d = true):dF f di δ = some [d]:=by
 unfold dF di
 rw [h]
 exact if_pos i
theorem dP {src:FA} {n:Nat} {js:List Nat} {g:D->DS->Option DS} {fc:FT} {felt:FM} {δ:DS} {ds xs:List D} (h:src δ = some ds) (k:eL (df n js g fc felt δ) ds = some xs) (l:xs.length <= 1000):gP src n js g fc felt δ = some (.lst xs,δ):=by
 unfold gP
 rw [h]
 dsimp only [Option.bind_some]
 rw [k]
 exact if_pos l
theorem gX {α:Type} {f:D->Option (Option D)} {g:α->D} {h:α->D} (b:α->Bool):∀ (xs:List α),(∀ x ∈ xs,f (g x) = some (if b x then some (h x) else none))->eL f (xs.map g) = some ((xs.filter b).map h)
 | [],_=>rfl
 | x :: xs,e=>by
  show ((f (g x)).bind _) = _
  rw [e x Zo]
  dsimp only [Option.bind_some]
  rw [gX b xs fun y m=>e y (Zp _ m),List.filter_cons]
  cases b x <;> rfl
theorem bV:∀ {ps qs:List (Int × Int)},ps.map fr = qs.map fr->ps = qs
 | [],[],_=>rfl
 | [],_ :: _,h=>by cases h
 | _ :: _,[],h=>by cases h
 | (a,b) :: ps,(c,d) :: qs,h=>by
  have h':fr (a,b) :: ps.map fr = fr (c,d) :: qs.map fr:=h
  injection h' with h1 h2
  cases h1
  rw [bV h2]
theorem nK:∀ (ps:List (Int × Int)),shs (ps.map fr) = ps.map fr
 | []=>rfl
 | p :: ps=>by show sh (fr p) :: shs (ps.map fr) = _;rw [nK ps];rfl
theorem fL:∀ (ps:List (Int × Int)),dN (ps.map fr) = true
 | []=>rfl
 | p :: ps=>by show (imm (fr p) && dN (ps.map fr)) = true;rw [fL ps];rfl
theorem cK:∀ (ps:List (Int × Int)),iA (ps.map fr) = true
 | []=>rfl
 | p :: ps=>by show (own (fr p) && iA (ps.map fr)) = true;rw [cK ps];rfl
theorem kP:∀ (ns:List Int),shs (ns.map D.int) = ns.map D.int
 | []=>rfl
 | n :: ns=>by show sh (.int n) :: shs (ns.map D.int) = _;rw [kP ns];rfl
theorem jG:∀ (ns:List Int),dN (ns.map D.int) = true
 | []=>rfl
 | n :: ns=>by show (imm (.int n) && dN (ns.map D.int)) = true;rw [jG ns];rfl
theorem jE:∀ (ns:List Int),iA (ns.map D.int) = true
 | []=>rfl
 | n :: ns=>by show (own (.int n) && iA (ns.map D.int)) = true;rw [jE ns];rfl
theorem jx (ps:List (Int × Int)):sh (.tup (ps.map fr)) = .tup (ps.map fr):=by rw [sh,nK]
theorem kQ (ps:List (Int × Int)):sh (.seq (ps.map fr)) = .seq (ps.map fr):=by rw [sh,nK]
theorem gS (ps:List (Int × Int)):sh (.lst (ps.map fr)) = .seq (ps.map fr):=by rw [sh,nK]
theorem gR (ns:List Int):sh (.lst (ns.map D.int)) = .seq (ns.map D.int):=by rw [sh,kP]
theorem gQ (ns:List Int):sh (.seq (ns.map D.int)) = .seq (ns.map D.int):=by rw [sh,kP]
theorem yG (p:Int × Int):sh (fr p) = fr p:=rfl
theorem po:∀ (ps:List (Int × Int)),gA (ps.map fr) = some ps
 | []=>rfl
 | p :: ps=>by show ((jD (fr p)).bind fun q=>(gA (ps.map fr)).bind fun qs=>some (q :: qs)) = _;rw [po ps];rfl
theorem sP (p q:Int × Int):gD (fr p) (fr q) = some (.bl (!decide (p = q))):=by
 unfold gD
 rw [pV]
 rfl
theorem sM (p:Int × Int) (ps:List (Int × Int)):dX (fr p) (.lst (ps.map fr)) = some (.bl (!ps.contains p)):=by
 unfold dX
 show ((gA (ps.map fr)).bind fun qs=>some (D.bl (!qs.contains p))) = _
 rw [po]
 rfl
theorem vU {k:Nat} {x:Int} (h:Sm k x) (e:k <= 4000:=by decide):Md x:=h.mono e
theorem tmK {q:Int × Int} (h:Tw q):Fk q:=Fk.of h.fr
theorem tmW {q:Int × Int} (h:Tw q):Flw q:=Flw.of h.fr
theorem tmB {q:Int × Int} (h:Tw q):Fk (bp q):=Fk.of h.bp_fr
def Gr (g:Int):Prop:=0 <= g/\g <= 60
theorem Gr.fk {g:Int} (h:Gr g):Fk (g,1):=⟨show (0:Int) < 1 by decide,vU (k:=64) (by show g.natAbs < 2 ^ 64;have:=h.1;have:=h.2;omega),vU (k:=64) (show (1:Int).natAbs < 2 ^ 64 by decide)⟩
theorem zH (n:Int):Lo n 1:=⟨by decide,by unfold gc;simp⟩
def eZ (ds:List D) (d:D):Prop:=∃ q:Int × Int,Fk q/\ds = [fr q]/\d = .int (q.1 / q.2)
theorem lQ {q:Int × Int} (h:Fk q):fn eZ [fr q] = some (.int (q.1 / q.2)):=cu (fun d' h'=>by
 obtain ⟨⟨a,b⟩,_,h2,rfl⟩:=h'
 obtain ⟨c,d⟩:=q
 cases h2;rfl) ⟨q,h,rfl,rfl⟩
def dh (ds:List D) (d:D):Prop:=∃ (g:Int) (q:Int × Int),Gr g/\Tw q/\ds = [.int g,fr q]/\d = .bl (past g q)
theorem nc {g:Int} {q:Int × Int} (h:Gr g) (k:Tw q):fn dh [.int g,fr q] = some (.bl (past g q)):=cu (fun d' h'=>by
 obtain ⟨g',⟨a,b⟩,_,_,h2,rfl⟩:=h'
 obtain ⟨c,d⟩:=q
 cases h2;rfl) ⟨g,q,h,k,rfl,rfl⟩
def cy (ds:List D) (d:D):Prop:=∃ q:Int × Int,Tw q/\ds = [fr q]/\d = fr (bp q)
theorem iJ {q:Int × Int} (h:Tw q):fn cy [fr q] = some (fr (bp q)):=cu (fun d' h'=>by
 obtain ⟨⟨a,b⟩,_,h2,rfl⟩:=h'
 obtain ⟨c,d⟩:=q
 cases h2;rfl) ⟨q,h,rfl,rfl⟩
def ff (ds:List D) (d:D):Prop:=∃ (d0:D) (qs:List (Int × Int)),sh d0 = .seq (qs.map fr)/\(∀ q ∈ qs,Tw q)/\qs.length <= 4/\ds = [d0]/\d = .lst ((dst [] qs).map fr)
theorem lR {d0:D} {qs:List (Int × Int)} (h:sh d0 = .seq (qs.map fr)) (k:∀ q ∈ qs,Tw q) (l:qs.length <= 4):fn ff [d0] = some (.lst ((dst [] qs).map fr)):=cu (fun d' h'=>by
 obtain ⟨d1,rs,h1,_,_,h2,rfl⟩:=h'
 cases h2
 rw [h] at h1
 injection h1 with h1
 rw [bV h1]) ⟨d0,qs,h,k,l,rfl,rfl⟩
def eY (ds:List D) (d:D):Prop:=∃ (g:Int) (q:Int × Int) (d0:D) (ps:List (Int × Int)),Gr g/\Tw q/\sh d0 = .seq (ps.map fr)/\(∀ p ∈ ps,Fk p)/\ps.length <= 4/\ds = [.int g,fr q,d0]/\d = fr (plc ps g q)
theorem rj {g:Int} {q:Int × Int} {d0:D} {ps:List (Int × Int)} (a:Gr g) (b:Tw q) (h:sh d0 = .seq (ps.map fr)) (k:∀ p ∈ ps,Fk p) (l:ps.length <= 4):fn eY [.int g,fr q,d0] = some (fr (plc ps g q)):=cu (fun d' h'=>by
 obtain ⟨g',⟨a',b'⟩,d1,rs,_,_,h1,_,_,h2,rfl⟩:=h'
 obtain ⟨c,d⟩:=q
 cases h2
 rw [h] at h1
 injection h1 with h1
 rw [bV h1]) ⟨g,q,d0,ps,a,b,h,k,l,rfl,rfl⟩
structure Dr (ms:List Int) (qs:List (Int × Int)):Prop where
 gr:∀ m ∈ ms,Gr m
 tm:∀ q ∈ qs,Tw q
 le:qs.length <= 4
def iy (ds:List D) (d:D):Prop:=∃ (d0:D) (ms:List Int) (qs:List (Int × Int)),sh d0 = .seq (ms.map D.int)/\Dr ms qs/\ds = [d0,.tup (qs.map fr)]/\d = .tup ((cel ms qs).map fr)
theorem uK {d0:D} {ms:List Int} {qs:List (Int × Int)} (h:sh d0 = .seq (ms.map D.int)) (k:Dr ms qs):fn iy [d0,.tup (qs.map fr)] = some (.tup ((cel ms qs).map fr)):=cu (fun d' h'=>by
 obtain ⟨d1,ns,rs,h1,_,h2,rfl⟩:=h'
 injection h2 with h3 h4
 injection h4 with h4
 injection h4 with h4
 subst h3
 rw [h] at h1
 injection h1 with h1
 rw [bV h4,cZ h1]) ⟨d0,ms,qs,h,k,rfl,rfl⟩
def cO (ds:List D) (d:D):Prop:=∃ (d0:D) (ms:List Int) (cs:List (Int × Int)),sh d0 = .seq (ms.map D.int)/\cs.length <= 4/\ds = [d0,.tup (cs.map fr)]/\d = .bl (mom ms cs)
theorem j0 {d0:D} {ms:List Int} {cs:List (Int × Int)} (h:sh d0 = .seq (ms.map D.int)) (k:cs.length <= 4):fn cO [d0,.tup (cs.map fr)] = some (.bl (mom ms cs)):=cu (fun d' h'=>by
 obtain ⟨d1,ns,rs,h1,_,h2,rfl⟩:=h'
 injection h2 with h3 h4
 injection h4 with h4
 injection h4 with h4
 subst h3
 rw [h] at h1
 injection h1 with h1
 rw [bV h4,cZ h1]) ⟨d0,ms,cs,h,k,rfl,rfl⟩
theorem qQ {f:D->Option (Option D)}:∀ (ms:List Int) (qs:List (Int × Int)),(∀ m ∈ ms,∀ q ∈ qs,f (.tup [.int m,fr q]) = some (if past m q then none else some (fr q)))->eL f (List.zipWith (fun d e=>D.tup [d,e]) (ms.map D.int) (qs.map fr)) = some ((wi ms qs).map fr)
 | [],qs,_=>rfl
 | m :: ms,[],_=>rfl
 | m :: ms,q :: qs,h=>by
  show ((f (.tup [.int m,fr q])).bind _) = _
  rw [h m Zo q Zo]
  dsimp only [Option.bind_some]
  rw [qQ ms qs fun x hx y hy=>h x (Zp _ hx) y (Zp _ hy)]
  rw [rT]
  cases past m q <;> rfl
theorem sX {f:D->Option (Option D)} {ps:List (Int × Int)}:∀ (ms:List Int) (qs:List (Int × Int)),(∀ m ∈ ms,∀ q ∈ qs,f (.tup [.int m,fr q]) = some (some (fr (plc ps m q))))->eL f (List.zipWith (fun d e=>D.tup [d,e]) (ms.map D.int) (qs.map fr)) = some ((cls ps ms qs).map fr)
 | [],qs,_=>rfl
 | m :: ms,[],_=>rfl
 | m :: ms,q :: qs,h=>by
  show ((f (.tup [.int m,fr q])).bind _) = _
  rw [h m Zo q Zo]
  dsimp only [Option.bind_some]
  rw [sX ms qs fun x hx y hy=>h x (Zp _ hx) y (Zp _ hy)]
  rfl
def uA:List Int->List (Int × Int)->List Bool
 | m :: ms,c :: cs=>(decide (c.2 = 0) && decide (c.1 <= m)) :: uA ms cs
 | _,_=>[]
theorem pH:∀ (ms:List Int) (cs:List (Int × Int)),(uA ms cs).any id = mom ms cs
 | [],_=>rfl
 | _ :: _,[]=>rfl
 | m :: ms,c :: cs=>by
  show (_ || (uA ms cs).any id) = (_ || mom ms cs)
  rw [pH ms cs]
  rfl
theorem pG:∀ (ms:List Int) (cs:List (Int × Int)),(uA ms cs).length <= cs.length
 | [],_=>Nat.zero_le _
 | _ :: _,[]=>Nat.zero_le _
 | m :: ms,c :: cs=>Nat.succ_le_succ (pG ms cs)
theorem pI {f:D->Option (Option D)}:∀ (ms:List Int) (cs:List (Int × Int)),(∀ m ∈ ms,∀ c ∈ cs,f (.tup [.int m,fr c]) = some (some (.bl (decide (c.2 = 0) && decide (c.1 <= m)))))->eL f (List.zipWith (fun d e=>D.tup [d,e]) (ms.map D.int) (cs.map fr)) = some ((uA ms cs).map D.bl)
 | [],cs,_=>rfl
 | m :: ms,[],_=>rfl
 | m :: ms,c :: cs,h=>by
  show ((f (.tup [.int m,fr c])).bind _) = _
  rw [h m Zo c Zo]
  dsimp only [Option.bind_some]
  rw [pI ms cs fun x hx y hy=>h x (Zp _ hx) y (Zp _ hy)]
  rfl
theorem jr:∀ (bs:List Bool),cL (bs.map D.bl) = some bs
 | []=>rfl
 | b :: bs=>by show ((cL (bs.map D.bl)).bind fun cs=>some (b :: cs)) = _;rw [jr bs];rfl
theorem kD {ps:List (Int × Int)}:∀ (ms:List Int) (qs:List (Int × Int)),(cls ps ms qs).length <= qs.length
 | [],_=>Nat.zero_le _
 | _ :: _,[]=>Nat.zero_le _
 | m :: ms,q :: qs=>Nat.succ_le_succ (kD ms qs)
theorem hW {g:FA} {δ:DS} {d0 d1:D} {xs ys:List D} (h:g δ = some [d0,d1]) (a:asL d0 = some xs) (b:eM d1 = some ys):rR g δ = some (List.zipWith (fun d e=>D.tup [d,e]) xs ys):=by
 unfold rR
 rw [h]
 dsimp only [Option.bind_some]
 rw [a]
 dsimp only [Option.bind_some]
 rw [b]
 rfl
theorem Dr.pfk {ms:List Int} {qs:List (Int × Int)} (h:Dr ms qs):∀ p ∈ dst [] (wi ms qs),Fk p:=jq _ (fun x z=>by cases z) fun q m _=>tmB (h.tm q (cM ms qs m))
theorem Dr.plen {ms:List Int} {qs:List (Int × Int)} (h:Dr ms qs):(dst [] (wi ms qs)).length <= 4:=by
 have a:=kC (wi ms qs) (ps:=[])
 have b:=gO ms qs
 have c:=h.le
 simp only [Zn] at a
 omega
abbrev iz:=hU
theorem uL {ns:List Int} {k:Int} (h:0 <= k):fn iz [.seq (ns.map D.int),.int k] = some (.int (cell ns k)):=lU h
abbrev pu (a b:Int):D:=.lst [.int a,.int b]
structure Pu (a b:Int):Prop where
 a0:0 <= a
 b0:0 <= b
 b1:b < 2147483648
def eN (ds:List D) (d:D):Prop:=∃ c w,(w = 0 \/ w = 1)/\ds = [.int c,.int w]/\d = pu ((c.natAbs:Int) * (1 - w)) ((c.natAbs:Int) % 2147483563 + 1)
theorem oE {c w:Int} (h:w = 0 \/ w = 1):fn eN [.int c,.int w] = some (pu ((c.natAbs:Int) * (1 - w)) ((c.natAbs:Int) % 2147483563 + 1)):=cu (fun d' h'=>by
 obtain ⟨c',w',_,h2,rfl⟩:=h'
 cases h2;rfl) ⟨c,w,h,rfl,rfl⟩
theorem yX (c w:Int) (h:w = 0 \/ w = 1):Pu ((c.natAbs:Int) * (1 - w)) ((c.natAbs:Int) % 2147483563 + 1):=by
 have z0:0 <= (c.natAbs:Int) % 2147483563:=Int.emod_nonneg _ (by decide)
 have z1:(c.natAbs:Int) % 2147483563 < 2147483563:=Int.emod_lt_of_pos _ (by decide)
 refine ⟨Int.mul_nonneg (by omega) (by omega),by omega,by omega⟩
def tkB (a b:Int):Int:=if 0 < a then b else (b * 48271 + 9973) % 2147483629
def tkA (a m:Int):Int:=if 0 < a then a / m else a
def tkV (a b m:Int):Int:=if 0 < a then a % m else tkB a b * tkB a b % 2147483587 / 7 % m
def aM (ds:List D) (p:D × D):Prop:=∃ a b m,Pu a b/\0 < m/\Bd m/\ds = [pu a b,.int m]/\p = (pu (tkA a m) (tkB a b),.int (tkV a b m))
theorem p9 {a b m:Int} (h:Pu a b) (k:0 < m) (l:Bd m):fnM aM [pu a b,.int m] = some (pu (tkA a m) (tkB a b),.int (tkV a b m)):=ou (fun d' h'=>by
 obtain ⟨a',b',m',_,_,_,h2,rfl⟩:=h'
 cases h2;rfl) ⟨a,b,m,h,k,l,rfl,rfl⟩
theorem yC {a b m:Int} (h:Pu a b) (k:0 < m) (l:Bd m):∃ a' b' v,fnM aM [pu a b,.int m] = some (pu a' b',.int v)/\Pu a' b'/\0 <= v/\v < m:=by
 refine ⟨_,_,_,p9 h k l,⟨?_,?_,?_⟩,?_,?_⟩
 . unfold tkA
   split
   . exact Int.ediv_nonneg h.a0 (by omega)
   . exact h.a0
 . unfold tkB
   split
   . exact h.b0
   . exact Int.emod_nonneg _ (by decide)
 . unfold tkB
   split
   . exact h.b1
   . have:=Int.emod_lt_of_pos (b * 48271 + 9973) (b:=2147483629) (by decide)
     omega
 . unfold tkV
   split
   . exact Int.emod_nonneg _ (by omega)
   . exact Int.emod_nonneg _ (by omega)
 . unfold tkV
   split
   . exact Int.emod_lt_of_pos _ k
   . exact Int.emod_lt_of_pos _ k
theorem eP {i:Nat} {f:FD} {δ:DS} {a b m:Int} (h:δ[i]? = some (some (pu a b))) (p:Pu a b) (e:f δ = some (.int m)) (k:0 < m) (l:Bd m):∃ a' b' v,bY i (fnM aM) (dF f di) δ = some (.int v,δ.set i (some (pu a' b')))/\Pu a' b'/\0 <= v/\v < m:=by
 obtain ⟨a',b',v,g,q,v0,v1⟩:=yC p k l
 exact ⟨a',b',v,nC h (Af e rfl) g rfl rfl,q,v0,v1⟩
def bO (ds:List D) (d:D):Prop:=∃ t b,0 < b/\Bd b/\ds = [.int t,.int b]/\d = fr (rd t b)
theorem eX {t b:Int} (h:0 < b) (g:Bd b):fn bO [.int t,.int b] = some (fr (rd t b)):=cu (fun d' h'=>by
 obtain ⟨t',b',_,_,h2,rfl⟩:=h'
 cases h2;rfl) ⟨t,b,h,g,rfl,rfl⟩
theorem Ab {b:Int} (h:0 < b) (k:b <= 10 ^ 40):Bd b:=wG (k:=200) (by show b.natAbs < 2 ^ 200;omega)
def tmR:SD:=((aO (av 3 (bY 0 (fnM aM) (dF (fC (.int 4)) di))) (aO (av 4 (bY 0 (fnM aM) (dF (f2 jH (ae 1) (fC (.int 2))) di))) (aO (av 5 (vI (bh (ac (fC (.int 0)) (ac (fC (.int 1)) aj))))) (aO (sIf (fT (f2 c0 (ae 3) (fC (.int 1)))) (aO (av 6 (iL jH (vI (fC (.int 2))) (bY 0 (fnM aM) (dF (fC (.int 5)) di)))) (av 5 (bm (aB (bY 0 (fnM aM) (dF (ae 6) di)) (aB (aA 6) bc))))) aZ) (aO (sIf (fT (f2 c0 (ae 3) (fC (.int 2)))) (aO (av 7 (iL gIx (bj (aB (vI (f2 (gI ka fun i j=>.int (i ^ j.toNat)) (fC (.int 10)) (fC (.int 8)))) (aB (vI (f2 (gI ka fun i j=>.int (i ^ j.toNat)) (fC (.int 10)) (fC (.int 40)))) bc))) (bY 0 (fnM aM) (dF (fC (.int 2)) di)))) (av 5 (bm (aB (bY 0 (fnM aM) (dF (ae 7) di)) (aB (aA 7) bc))))) aZ) (aO (sIf (aK (fT (f2 c0 (ae 3) (fC (.int 3)))) (fT (f2 gD (ae 2) (bo aj)))) (aO (oZ [8,6] (iL gIx (aA 2) (bY 0 (fnM aM) (dF (au ot (ac (ae 2) aj)) di)))) (av 5 (vI (bh (ac (f2 (gI (fun _ j=>0 < j) fun i j=>.int (i % j)) (ae 8) (ae 6)) (ac (ae 6) aj)))))) aZ) (jc (vI (au (fn bO) (ac (f2 jH (f2 (gI aY fun i j=>.int (i * j)) (ae 4) (f2 gIx (ae 5) (fC (.int 1)))) (f2 gIx (ae 5) (fC (.int 0)))) (ac (f2 gIx (ae 5) (fC (.int 1))) aj))))))))))))
def cB (ds:List D) (p:D × D):Prop:=∃ d0 es,ds = d0 :: es/\tmR (dc 9 d0 es) = some (.rt (.tup [p.2,p.1]))
theorem qL {R:SD} {n:Nat} {d0 p r:D} {es:List D} (h:R (dc n d0 es) = some (.rt (.tup [r,p]))):∀ q:D × D,(∃ d1 fs,d0 :: es = d1 :: fs/\R (dc n d1 fs) = some (.rt (.tup [q.2,q.1])))->q = (p,r):=fun q h'=>by
 obtain ⟨d1,fs,h1,h2⟩:=h'
 cases h1
 rw [h] at h2
 injection h2 with h2
 injection h2 with h2
 injection h2 with h2
 injection h2 with h3 h4
 injection h4 with h4
 rw [h3,h4]
theorem pZ {d0 p r:D} {es:List D} (h:tmR (dc 9 d0 es) = some (.rt (.tup [r,p]))):fnM cB (d0 :: es) = some (p,r):=ou (qL h) ⟨d0,es,rfl,h⟩
structure Sh (s:Int × Int):Prop where
 t0:0 <= s.1
 t1:s.1 < s.2
 le:s.2 <= 10 ^ 40
theorem yA {a b wh:Int} {s:Int × Int} {o1 o2 o3 o6 o7 o8:Option D} (w0:0 <= wh) (w1:wh <= 61) (h:Sh s):((jc (vI (au (fn bO) (ac (f2 jH (f2 (gI aY fun i j=>.int (i * j)) (ae 4) (f2 gIx (ae 5) (fC (.int 1)))) (f2 gIx (ae 5) (fC (.int 0)))) (ac (f2 gIx (ae 5) (fC (.int 1))) aj)))))) [some (pu a b),o1,o2,o3,some (.int wh),some (fr s),o6,o7,o8] = some (.rt (.tup [fr (rd (wh * s.2 + s.1) s.2),pu a b])):=by
 have p0:0 < s.2:=by have:=h.t0;have:=h.t1;omega
 have m1:aY wh s.2:=⟨dE (by omega),Ab p0 h.le⟩
 refine i0 (bM (d:=fr (rd (wh * s.2 + s.1) s.2)) ?_) rfl
 simp only [az,aZ,aS,aO,bv,aT,bt,sIf,bw,bE,bF,asL,bu,bx,ae,fC,f2,f1,fT,asB,aN,aK,bn,aL,bH,bC,bz,aj,ac,bh,bo,au,bA,bG,ax,ao,aG,aF,gI0,ar,aw,ay,aH,aq,al,ag,Dl.isInt,Dl.isBool,Dl.isTup,Zc,Zd,Zt,Zu,Zm,Zn,Ze,Zf,Zg,Zh,Zi,Zj,Zk,Zy,Zz,Zx,av,aP,aE,vI,aA,aD,bc,aB,bj,bm,aJ,aV (C:=aY) m1,eX (t:=wh * s.2 + s.1) p0 (Ab p0 h.le)]
theorem kL {k:Int} (j:Int) {o0 o1 o2 o4 o5 o6 o7 o8:Option D} (h:k ≠ j):fT (f2 c0 (ae 3) (fC (.int j))) [o0,o1,o2,some (.int k),o4,o5,o6,o7,o8] = some false:=by
 show some (k == j) = some false
 rw [beq_eq_false_iff_ne.mpr h]
theorem nG {k:Int} {o0 o1 o2 o4 o5 o6 o7 o8:Option D}:fT (f2 c0 (ae 3) (fC (.int k))) [o0,o1,o2,some (.int k),o4,o5,o6,o7,o8] = some true:=by
 show some (k == k) = some true
 rw [Zx]
theorem qy {k:Int} {o0 o1 o2 o4 o5 o6 o7 o8:Option D} (h:k ≠ 3):aK (fT (f2 c0 (ae 3) (fC (.int 3)))) (fT (f2 gD (ae 2) (bo aj))) [o0,o1,o2,some (.int k),o4,o5,o6,o7,o8] = some false:=by
 unfold aK
 rw [kL 3 h]
 rfl
theorem u5 {a b g kd wh:Int} {hs:List (Int × Int)} {u:SD} (p:Pu a b) (hk:∀ q ∈ hs,Tm q) (hl:hs.length <= 4):∃ a' b' s o6 o7 o8,Pu a' b'/\Sh s/\∀ r,u [some (pu a' b'),some (.int g),some (.seq (hs.map fr)),some (.int kd),some (.int wh),some (fr s),o6,o7,o8] = some r->aO ((sIf (fT (f2 c0 (ae 3) (fC (.int 1)))) (aO (av 6 (iL jH (vI (fC (.int 2))) (bY 0 (fnM aM) (dF (fC (.int 5)) di)))) (av 5 (bm (aB (bY 0 (fnM aM) (dF (ae 6) di)) (aB (aA 6) bc))))) aZ)) (aO ((sIf (fT (f2 c0 (ae 3) (fC (.int 2)))) (aO (av 7 (iL gIx (bj (aB (vI (f2 (gI ka fun i j=>.int (i ^ j.toNat)) (fC (.int 10)) (fC (.int 8)))) (aB (vI (f2 (gI ka fun i j=>.int (i ^ j.toNat)) (fC (.int 10)) (fC (.int 40)))) bc))) (bY 0 (fnM aM) (dF (fC (.int 2)) di)))) (av 5 (bm (aB (bY 0 (fnM aM) (dF (ae 7) di)) (aB (aA 7) bc))))) aZ)) (aO ((sIf (aK (fT (f2 c0 (ae 3) (fC (.int 3)))) (fT (f2 gD (ae 2) (bo aj)))) (aO (oZ [8,6] (iL gIx (aA 2) (bY 0 (fnM aM) (dF (au ot (ac (ae 2) aj)) di)))) (av 5 (vI (bh (ac (f2 (gI (fun _ j=>0 < j) fun i j=>.int (i % j)) (ae 8) (ae 6)) (ac (ae 6) aj)))))) aZ)) u)) [some (pu a b),some (.int g),some (.seq (hs.map fr)),some (.int kd),some (.int wh),some (fr (0,1)),none,none,none] = some r:=by
 have sh0:Sh (0,1):=⟨by decide,by decide,by decide⟩
 by_cases k1:kd = 1
 . subst k1
   obtain ⟨a1,b1,v,c1,P1,v0,v1⟩:=eP (i:=0) (f:=fC (.int 5)) (m:=5) (δ:=[some (pu a b),some (.int g),some (.seq (hs.map fr)),some (.int 1),some (.int wh),some (fr (0,1)),none,none,none]) rfl p rfl (by decide) dE
   obtain ⟨a2,b2,x,c2,P2,x0,x1⟩:=eP (i:=0) (f:=ae 6) (m:=2 + v) (δ:=[some (pu a1 b1),some (.int g),some (.seq (hs.map fr)),some (.int 1),some (.int wh),some (fr (0,1)),some (.int (2 + v)),none,none]) rfl P1 rfl (by omega) (dE (by omega))
   refine ⟨a2,b2,(x,2 + v),some (.int (2 + v)),none,none,P2,⟨x0,x1,by show 2 + v <= 10 ^ 40;omega⟩,fun r hr=>?_⟩
   refine aI (dk nG (aI (δ':=[some (pu a1 b1),some (.int g),some (.seq (hs.map fr)),some (.int 1),some (.int wh),some (fr (0,1)),some (.int (2 + v)),none,none]) (bD (rV (bM (d:=.int 2) rfl) c1 (d:=.int (2 + v)) rfl rfl)) (bD (qr c2 (b:=.int (2 + v)) rfl)))) (aI (bT (kL 2 (by decide)) rfl) (aI (bT (qy (by decide)) rfl) hr))
 by_cases k2:kd = 2
 . subst k2
   obtain ⟨a1,b1,v,c1,P1,v0,v1⟩:=eP (i:=0) (f:=fC (.int 2)) (m:=2) (δ:=[some (pu a b),some (.int g),some (.seq (hs.map fr)),some (.int 2),some (.int wh),some (fr (0,1)),none,none,none]) rfl p rfl (by decide) dE
   obtain ⟨far,ef,f0,f1⟩:∃ far,gIx (.lst [.int (10 ^ (8:Int).toNat),.int (10 ^ (40:Int).toNat)]) (.int v) = some (.int far)/\0 < far/\far <= 10 ^ 40:=by
    rcases (show v = 0 \/ v = 1 by omega) with e | e
    . subst e;exact ⟨10 ^ (8:Int).toNat,rfl,by decide,by decide⟩
    . subst e;exact ⟨10 ^ (40:Int).toNat,rfl,by decide,by decide⟩
   obtain ⟨a2,b2,x,c2,P2,x0,x1⟩:=eP (i:=0) (f:=ae 7) (m:=far) (δ:=[some (pu a1 b1),some (.int g),some (.seq (hs.map fr)),some (.int 2),some (.int wh),some (fr (0,1)),none,some (.int far),none]) rfl P1 rfl f0 (Ab f0 f1)
   have bp1:ka 10 8:=⟨by decide,by decide,by decide⟩
   have bp2:ka 10 40:=⟨by decide,by decide,by decide⟩
   refine ⟨a2,b2,(x,far),none,some (.int far),none,P2,⟨x0,x1,f1⟩,fun r hr=>?_⟩
   refine aI (bT (kL 1 (by decide)) rfl) (aI (dk nG (aI (δ':=[some (pu a1 b1),some (.int g),some (.seq (hs.map fr)),some (.int 2),some (.int wh),some (fr (0,1)),none,some (.int far),none]) (bD (rV (qu (bM (d:=.int (10 ^ (8:Int).toNat)) ?_) (bM (d:=.int (10 ^ (40:Int).toNat)) ?_)) c1 ef rfl)) (bD (qr c2 (b:=.int far) rfl)))) (aI (bT (qy (by decide)) rfl) hr))
   . simp only [az,aZ,aS,aO,bv,aT,bt,sIf,bw,bE,bF,asL,bu,bx,ae,fC,f2,f1,fT,asB,aN,aK,bn,aL,bH,bC,bz,aj,ac,bh,bo,au,bA,bG,ax,ao,aG,aF,gI0,ar,aw,ay,aH,aq,al,ag,Dl.isInt,Dl.isBool,Dl.isTup,Zc,Zd,Zt,Zu,Zm,Zn,Ze,Zf,Zg,Zh,Zi,Zj,Zk,Zy,Zz,Zx,av,aP,aE,vI,aA,aD,bc,aB,bj,bm,aJ,aV (C:=ka) bp1]
   . simp only [az,aZ,aS,aO,bv,aT,bt,sIf,bw,bE,bF,asL,bu,bx,ae,fC,f2,f1,fT,asB,aN,aK,bn,aL,bH,bC,bz,aj,ac,bh,bo,au,bA,bG,ax,ao,aG,aF,gI0,ar,aw,ay,aH,aq,al,ag,Dl.isInt,Dl.isBool,Dl.isTup,Zc,Zd,Zt,Zu,Zm,Zn,Ze,Zf,Zg,Zh,Zi,Zj,Zk,Zy,Zz,Zx,av,aP,aE,vI,aA,aD,bc,aB,bj,bm,aJ,aV (C:=ka) bp2]
 by_cases k3:kd = 3/\hs ≠ []
 . obtain ⟨k3,hn⟩:=k3
   subst k3
   have hl0:0 < hs.length:=List.length_pos_iff.mpr hn
   obtain ⟨a1,b1,v,c1,P1,v0,v1⟩:=eP (i:=0) (f:=au ot (ac (ae 2) aj)) (m:=(hs.length:Int)) (δ:=[some (pu a b),some (.int g),some (.seq (hs.map fr)),some (.int 3),some (.int wh),some (fr (0,1)),none,none,none]) rfl p (by show some (D.int ((hs.map fr).length:Nat)) = _;rw [Zl]) (by omega) (dE (by omega))
   have vl:v.toNat < hs.length:=by omega
   have tq:=hk hs[v.toNat] (List.getElem_mem vl)
   have ix:gIx (.seq (hs.map fr)) (.int v) = some (fr hs[v.toNat]):=by
    show L2.atI (hs.map fr) v = _
    have ev:v = ((v.toNat:Nat):Int):=by omega
    have h3:=atI_nat (xs:=hs.map fr) (j:=v.toNat) (v:=fr hs[v.toNat]) (by rw [List.getElem?_map,Zv vl];rfl)
    rw [<- ev] at h3
    exact h3
   have p0:=tq.lw.pos
   have hc:aK (fT (f2 c0 (ae 3) (fC (.int 3)))) (fT (f2 gD (ae 2) (bo aj))) [some (pu a b),some (.int g),some (.seq (hs.map fr)),some (.int 3),some (.int wh),some (fr (0,1)),none,none,none] = some true:=by
    unfold aK
    rw [nG]
    cases hs with
    | nil=>exact absurd rfl hn
    | cons q qs=>rfl
   have mm:gI (fun _ j=>0 < j) (fun i j=>D.int (i % j)) (.int hs[v.toNat].1) (.int hs[v.toNat].2) = some (.int (hs[v.toNat].1 % hs[v.toNat].2)):=aV (C:=fun _ j=>0 < j) p0
   refine ⟨a1,b1,bp hs[v.toNat],some (.int hs[v.toNat].2),none,some (.int hs[v.toNat].1),P1,⟨Int.emod_nonneg _ (by omega),Int.emod_lt_of_pos _ p0,tq.le⟩,fun r hr=>?_⟩
   refine aI (bT (kL 1 (by decide)) rfl) (aI (bT (kL 2 (by decide)) rfl) (aI (dk hc (aI (δ':=[some (pu a1 b1),some (.int g),some (.seq (hs.map fr)),some (.int 3),some (.int wh),some (fr (0,1)),some (.int hs[v.toNat].2),none,some (.int hs[v.toNat].1)]) (xW (rV (a:=.seq (hs.map fr)) rfl c1 ix rfl) rfl rfl) (bD (bM (d:=fr (bp hs[v.toNat])) ?_)))) hr))
   simp only [az,aZ,aS,aO,bv,aT,bt,sIf,bw,bE,bF,asL,bu,bx,ae,fC,f2,f1,fT,asB,aN,aK,bn,aL,bH,bC,bz,aj,ac,bh,bo,au,bA,bG,ax,ao,aG,aF,gI0,ar,aw,ay,aH,aq,al,ag,Dl.isInt,Dl.isBool,Dl.isTup,Zc,Zd,Zt,Zu,Zm,Zn,Ze,Zf,Zg,Zh,Zi,Zj,Zk,Zy,Zz,Zx,av,aP,aE,vI,aA,aD,bc,aB,bj,bm,aJ,mm]
   rfl
 . refine ⟨a,b,(0,1),none,none,none,p,sh0,fun r hr=>?_⟩
   refine aI (bT (kL 1 k1) rfl) (aI (bT (kL 2 k2) rfl) (aI (bT ?_ rfl) hr))
   by_cases e3:kd = 3
   . subst e3
     have:hs = []:=by
      by_cases e:hs = []
      . exact e
      . exact absurd ⟨rfl,e⟩ k3
     subst this
     unfold aK
     rw [nG]
     rfl
   . exact qy e3
theorem yB {a b g:Int} {d0:D} {hs:List (Int × Int)} (p:Pu a b) (hg:Gr g) (h:sh d0 = .seq (hs.map fr)) (k:∀ q ∈ hs,Tm q) (l:hs.length <= 4):∃ a' b' q,fnM cB [pu a b,.int g,d0] = some (pu a' b',fr q)/\Pu a' b'/\Tm q:=by
 have e0:dc 9 (pu a b) [.int g,d0] = [some (pu a b),some (.int g),some (.seq (hs.map fr)),none,none,none,none,none,none]:=by
  show [some (pu a b),some (sh (.int g)),some (sh d0),none,none,none,none,none,none] = _
  rw [h]
  rfl
 obtain ⟨a1,b1,kd,c1,P1,k0,k1⟩:=eP (i:=0) (f:=fC (.int 4)) (m:=4) (δ:=[some (pu a b),some (.int g),some (.seq (hs.map fr)),none,none,none,none,none,none]) rfl p rfl (by decide) dE
 have hg0:=hg.1
 have hg1:=hg.2
 obtain ⟨a2,b2,wh,c2,P2,w0,w1⟩:=eP (i:=0) (f:=f2 jH (ae 1) (fC (.int 2))) (m:=g + 2) (δ:=[some (pu a1 b1),some (.int g),some (.seq (hs.map fr)),some (.int kd),none,none,none,none,none]) rfl P1 rfl (by omega) (dE (by omega))
 obtain ⟨a3,b3,s,o6,o7,o8,P3,S3,fin⟩:=u5 (g:=g) (kd:=kd) (wh:=wh) (u:=((jc (vI (au (fn bO) (ac (f2 jH (f2 (gI aY fun i j=>.int (i * j)) (ae 4) (f2 gIx (ae 5) (fC (.int 1)))) (f2 gIx (ae 5) (fC (.int 0)))) (ac (f2 gIx (ae 5) (fC (.int 1))) aj))))))) P2 k l
 refine ⟨a3,b3,_,pZ ?_,P3,yx w0 (by omega) S3.t0 S3.t1 S3.le⟩
 rw [e0]
 exact aI (bD c1) (aI (bD c2) (aI (δ':=[some (pu a2 b2),some (.int g),some (.seq (hs.map fr)),some (.int kd),some (.int wh),some (fr (0,1)),none,none,none]) (bD (bM (d:=fr (0,1)) rfl)) (fin _ (yA w0 (by omega) S3))))
def tsR:SD:=((aO (av 2 (bj bc)) (aO (jU (kK (aD 1)) 3 (jd 2 (bY 0 (fnM cB) (dF (ae 3) (rN 0 2 di))))) (jc (aA 2)))))
def dG (ds:List D) (p:D × D):Prop:=∃ d0 es,ds = d0 :: es/\tsR (dc 4 d0 es) = some (.rt (.tup [p.2,p.1]))
theorem oD {d0 p r:D} {es:List D} (h:tsR (dc 4 d0 es) = some (.rt (.tup [r,p]))):fnM dG (d0 :: es) = some (p,r):=ou (qL h) ⟨d0,es,rfl,h⟩
theorem r6 {u:Option D}:∀ (ms:List Int) (hs:List (Int × Int)) (a b:Int) (o:Option D),Pu a b->(∀ m ∈ ms,Gr m)->(∀ q ∈ hs,Tm q)->hs.length + ms.length <= 4->∃ (a' b':Int) (qs:List (Int × Int)) (o':Option D),Dl.forM 3 ((jd 2 (bY 0 (fnM cB) (dF (ae 3) (rN 0 2 di))))) (ms.map D.int) [some (pu a b),u,some (.lst (hs.map fr)),o] = some (.nx [some (pu a' b'),u,some (.lst (qs.map fr)),o'])/\Pu a' b'/\(∀ q ∈ qs,Tm q)/\qs.length = hs.length + ms.length
 | [],hs,a,b,o,p,_,h,_=>⟨a,b,hs,o,rfl,p,h,rfl⟩
 | m :: ms,hs,a,b,o,p,g,h,l=>by
  simp only [Zm] at l
  obtain ⟨a1,b1,q,e1,P1,tq⟩:=yB (d0:=.lst (hs.map fr)) p (g m Zo) (gS hs) h (by omega)
  have hb:((jd 2 (bY 0 (fnM cB) (dF (ae 3) (rN 0 2 di))))) [some (pu a b),u,some (.lst (hs.map fr)),some (.int m)] = some (.nx [some (pu a1 b1),u,some (.lst ((hs ++ [q]).map fr)),some (.int m)]):=by
   rw [List.map_append]
   exact nI (xs:=hs.map fr) (ds:=hs.map fr) (δ':=[some (pu a1 b1),u,some (.lst (hs.map fr)),some (.int m)]) rfl (d:=fr q) (nC (d0:=pu a b) (es:=[.int m,.lst (hs.map fr)]) rfl rfl e1 rfl rfl) rfl (by rw [Zl];omega)
  obtain ⟨a2,b2,qs,o',ih,P2,tqs,lq⟩:=r6 (u:=u) ms (hs ++ [q]) a1 b1 (some (.int m)) P1 (fun x hx=>g x (Zp _ hx)) (fun x hx=>by
   rcases Zr.mp hx with z | z
   . exact h x z
   . rw [List.mem_singleton.mp z];exact tq) (by simp;omega)
  refine ⟨a2,b2,qs,o',?_,P2,tqs,by rw [lq];simp;omega⟩
  show ((((jd 2 (bY 0 (fnM cB) (dF (ae 3) (rN 0 2 di))))) [some (pu a b),u,some (.lst (hs.map fr)),some (.int m)]).bind _) = _
  rw [hb]
  exact ih
theorem wU {a b:Int} {d0:D} {ms:List Int} (p:Pu a b) (h:sh d0 = .seq (ms.map D.int)) (g:∀ m ∈ ms,Gr m) (l:ms.length <= 4):∃ (a' b':Int) (qs:List (Int × Int)),fnM dG [pu a b,d0] = some (pu a' b',.lst (qs.map fr))/\Pu a' b'/\(∀ q ∈ qs,Tm q)/\qs.length = ms.length:=by
 have e0:dc 4 (pu a b) [d0] = [some (pu a b),some (.seq (ms.map D.int)),none,none]:=by
  show [some (pu a b),some (sh d0),none,none] = _
  rw [h]
 obtain ⟨a',b',qs,o',w,P,tq,lq⟩:=r6 (u:=some (.seq (ms.map D.int))) ms [] a b none p g (fun x z=>by cases z) (by simpa using l)
 refine ⟨a',b',qs,oD ?_,P,tq,by simpa using lq⟩
 rw [e0]
 exact aI (δ':=[some (pu a b),some (.seq (ms.map D.int)),some (.lst []),none]) rfl (aI (kM (nH (d:=.seq (ms.map D.int)) rfl (gQ ms) (gQ ms)) w) (i0 (qt rfl) rfl))
def nuR:SD:=((jc (oS 0 (kG (bY 0 (fnM aM) (dF (fC (.int 5)) di))) (iL gIx (bj (aB (bY 1 (fnM aM) (dF (fC (.int 4)) di)) (aB (bY 1 (fnM aM) (dF (fC (.int 61)) di)) bc))) (bY 1 (fnM aM) (dF (fC (.int 2)) di))))))
def cP (ds:List D) (p:D × D):Prop:=∃ d0 es,ds = d0 :: es/\nuR (dc 1 d0 es) = some (.rt (.tup [p.2,p.1]))
theorem lS {d0 p r:D} {es:List D} (h:nuR (dc 1 d0 es) = some (.rt (.tup [r,p]))):fnM cP (d0 :: es) = some (p,r):=ou (qL h) ⟨d0,es,rfl,h⟩
def nuE:FM:=iL gIx (bj (aB (bY 1 (fnM aM) (dF (fC (.int 4)) di)) (aB (bY 1 (fnM aM) (dF (fC (.int 61)) di)) bc))) (bY 1 (fnM aM) (dF (fC (.int 2)) di))
theorem sL:∀ (ks:List Int) (a b:Int),Pu a b->∃ (a' b':Int) (ms:List Int),mZ nuE (ks.map D.int) (pu a b) = some (ms.map D.int,pu a' b')/\Pu a' b'/\(∀ m ∈ ms,Gr m)/\ms.length = ks.length
 | [],a,b,p=>⟨a,b,[],rfl,p,(fun _ z=>by cases z),rfl⟩
 | k :: ks,a,b,p=>by
  obtain ⟨a1,b1,v1,c1,P1,x0,x1⟩:=eP (i:=1) (f:=fC (.int 4)) (m:=4) (δ:=[some (.int k),some (pu a b)]) rfl p rfl (by decide) dE
  obtain ⟨a2,b2,v2,c2,P2,y0,y1⟩:=eP (i:=1) (f:=fC (.int 61)) (m:=61) (δ:=[some (.int k),some (pu a1 b1)]) rfl P1 rfl (by decide) dE
  obtain ⟨a3,b3,v3,c3,P3,z0,z1⟩:=eP (i:=1) (f:=fC (.int 2)) (m:=2) (δ:=[some (.int k),some (pu a2 b2)]) rfl P2 rfl (by decide) dE
  obtain ⟨m,em,gm⟩:∃ m,gIx (.lst [.int v1,.int v2]) (.int v3) = some (.int m)/\Gr m:=by
   rcases (show v3 = 0 \/ v3 = 1 by omega) with e | e
   . subst e;exact ⟨v1,rfl,by omega,by omega⟩
   . subst e;exact ⟨v2,rfl,by omega,by omega⟩
  obtain ⟨a4,b4,ms,ih,P4,gs,lm⟩:=sL ks a3 b3 P3
  have e1:nuE [some (.int k),some (pu a b)] = some (.int m,[some (.int k),some (pu a3 b3)]):=rV (qu c1 c2) c3 em rfl
  refine ⟨a4,b4,m :: ms,?_,P4,fun x hx=>?_,by simp [lm]⟩
  . show ((nuE [some (.int k),some (pu a b)]).bind _) = _
    rw [e1]
    show ((mZ nuE (ks.map D.int) (pu a3 b3)).bind _) = _
    rw [ih]
    rfl
  . rcases Zs.mp hx with z | z
    . rw [z];exact gm
    . exact gs x z
theorem uf {a b:Int} (p:Pu a b):∃ (a' b':Int) (ms:List Int),fnM cP [pu a b] = some (pu a' b',.lst (ms.map D.int))/\Pu a' b'/\(∀ m ∈ ms,Gr m)/\ms.length <= 4:=by
 obtain ⟨a1,b1,n,c1,P1,n0,n1⟩:=eP (i:=0) (f:=fC (.int 5)) (m:=5) (δ:=[some (pu a b)]) rfl p rfl (by decide) dE
 have rg:fQ 0 n 1 = ((List.range n.toNat).map fun i:Nat=>(i:Int)).map D.int:=by
  unfold fQ
  rw [List.map_map]
  have:((n - 0 + 1 - 1) / 1).toNat = n.toNat:=by congr 1;omega
  rw [this]
  refine List.map_congr_left fun i _=>?_
  show D.int (0 + (i:Int) * 1) = D.int (i:Int)
  congr 1
  omega
 obtain ⟨a2,b2,ms,lw,P2,gs,lm⟩:=sL ((List.range n.toNat).map fun i:Nat=>(i:Int)) a1 b1 P1
 rw [Zl,List.length_range] at lm
 refine ⟨a2,b2,ms,lS ?_,P2,gs,by omega⟩
 have e0:dc 1 (pu a b) [] = [some (pu a b)]:=rfl
 rw [e0]
 refine i0 (d:=.lst (ms.map D.int)) (δ':=[some (pu a2 b2)]) ?_ rfl
 show oS 0 (kG (bY 0 (fnM aM) (dF (fC (.int 5)) di))) nuE [some (pu a b)] = _
 unfold oS kG
 rw [c1]
 dsimp only [Option.bind_some]
 rw [if_pos (show -(2 ^ 62) <= n/\n < 2 ^ 62 by omega),rg]
 show ((mZ nuE _ (pu a1 b1)).bind _) = _
 rw [lw]
 dsimp only [Option.bind_some]
 rw [if_pos ⟨by rw [Zl,Zl,List.length_range];omega,jG _,rfl⟩]
 rfl
def Hs (d:D) (qs:List (Int × Int)):Prop:=sh d = .tup (qs.map fr) \/ sh d = .seq (qs.map fr)
theorem Hs.inj {d:D} {qs rs:List (Int × Int)} (h:Hs d qs) (g:Hs d rs):qs = rs:=by
 rcases h with h | h <;> rcases g with g | g <;> rw [h] at g
 . injection g with g;exact bV g
 . cases g
 . cases g
 . injection g with g;exact bV g
theorem Hs.it {d:D} {qs:List (Int × Int)} (h:Hs d qs):eM (sh d) = some (qs.map fr):=by
 rcases h with h | h <;> rw [h] <;> rfl
theorem Hs.si {d:D} {qs:List (Int × Int)} (h:Hs d qs):yI (sh d) = some (qs.map fr):=by
 rcases h with h | h
 . rw [h];exact if_pos (fL qs)
 . rw [h];rfl
theorem Hs.nm {d:D} {qs:List (Int × Int)} {δ:DS} {i:Nat} (h:Hs d qs) (k:δ[i]? = some (some (sh d))):aA i δ = some (sh d,δ):=by
 unfold aA
 rw [k]
 rcases h with h | h
 . rw [h];exact if_pos (fL qs)
 . rw [h]
def d7 (ds:List D) (d:D):Prop:=∃ (d0 d1:D) (ms:List Int) (qs:List (Int × Int)),sh d0 = .seq (ms.map D.int)/\Hs d1 qs/\Dr ms qs/\ds = [d0,d1]/\d = .tup ((cel ms qs).map fr)
theorem qa {d0 d1:D} {ms:List Int} {qs:List (Int × Int)} (h:sh d0 = .seq (ms.map D.int)) (g:Hs d1 qs) (k:Dr ms qs):fn d7 [d0,d1] = some (.tup ((cel ms qs).map fr)):=cu (fun d' h'=>by
 obtain ⟨e0,e1,ns,rs,h1,g1,_,h2,rfl⟩:=h'
 cases h2
 rw [h] at h1
 injection h1 with h1
 rw [g.inj g1,cZ h1]) ⟨d0,d1,ms,qs,h,g,k,rfl,rfl⟩
def dH (ds:List D) (d:D):Prop:=∃ (d0 d1:D) (ms:List Int) (qs:List (Int × Int)),sh d0 = .seq (ms.map D.int)/\Hs d1 qs/\Dr ms qs/\ds = [d0,d1]/\d = .lst ((wi ms qs).map fr)
theorem jp {d0 d1:D} {ms:List Int} {qs:List (Int × Int)} (h:sh d0 = .seq (ms.map D.int)) (g:Hs d1 qs) (k:Dr ms qs):fn dH [d0,d1] = some (.lst ((wi ms qs).map fr)):=cu (fun d' h'=>by
 obtain ⟨e0,e1,ns,rs,h1,g1,_,h2,rfl⟩:=h'
 cases h2
 rw [h] at h1
 injection h1 with h1
 rw [g.inj g1,cZ h1]) ⟨d0,d1,ms,qs,h,g,k,rfl,rfl⟩
def bP (ds:List D) (d:D):Prop:=∃ (d0 d1:D) (ms:List Int) (qs:List (Int × Int)),sh d0 = .seq (ms.map D.int)/\Hs d1 qs/\Dr ms qs/\ds = [d0,d1]/\d = .bl ((wi ms qs).any fun q=>decide (q.2 = 1))
theorem gh {d0 d1:D} {ms:List Int} {qs:List (Int × Int)} (h:sh d0 = .seq (ms.map D.int)) (g:Hs d1 qs) (k:Dr ms qs):fn bP [d0,d1] = some (.bl ((wi ms qs).any fun q=>decide (q.2 = 1))):=cu (fun d' h'=>by
 obtain ⟨e0,e1,ns,rs,h1,g1,_,h2,rfl⟩:=h'
 cases h2
 rw [h] at h1
 injection h1 with h1
 rw [g.inj g1,cZ h1]) ⟨d0,d1,ms,qs,h,g,k,rfl,rfl⟩
def cQ (ds:List D) (d:D):Prop:=∃ (cs:List (Int × Int)),cs.length <= 4/\ds = [.tup (cs.map fr),.tup (cs.map fr)]/\d = .bl true
theorem lT {cs:List (Int × Int)} (l:cs.length <= 4):fn cQ [.tup (cs.map fr),.tup (cs.map fr)] = some (.bl true):=cu (fun d' h'=>by
 obtain ⟨_,_,_,rfl⟩:=h'
 rfl) ⟨cs,l,rfl,rfl⟩
theorem tU (n:Nat):∀ (cs:List (Int × Int)),eqL (eqN (n + 2)) (cs.map fr) (cs.map fr) = some true
 | []=>rfl
 | c :: cs=>by
  show (((some ((c.1 == c.1) && ((c.2 == c.2) && true)):Option Bool)).bind fun x=>(eqL (eqN (n + 2)) (cs.map fr) (cs.map fr)).bind fun y=>some (x && y)) = _
  rw [tU n cs]
  simp
theorem zX (cs:List (Int × Int)):c0 (.tup (cs.map fr)) (.tup (cs.map fr)) = some (.bl true):=by
 show (eqL (eqN 5) (cs.map fr) (cs.map fr)).map D.bl = _
 rw [tU 3 cs]
 rfl
theorem gg {f:D->Option D} {g:Int × Int->D} {h:Int × Int->D}:∀ (cs:List (Int × Int)),(∀ c ∈ cs,f (g c) = some (h c))->lG f (cs.map g) = some (cs.map h)
 | [],_=>rfl
 | c :: cs,e=>by
  show ((f (g c)).bind fun x=>(lG f (cs.map g)).bind fun xs=>some (x :: xs)) = _
  rw [e c Zo,gg cs fun x m=>e x (Zp _ m)]
  rfl
theorem ow {src:FA} {js:List Nat} {felt:FD} {δ:DS} {ds xs:List D} (h:src δ = some ds) (k:lG (fun d=>felt (some d :: cg js δ)) ds = some xs) (l:xs.length <= 1000):lO src js felt δ = some (.lst xs):=by
 unfold lO
 rw [h]
 dsimp only [Option.bind_some]
 rw [k]
 exact if_pos l
theorem ox {G:List D->Option D} {f:FD} {δ:DS} {a d:D} (h:f δ = some a) (g:G [a] = some d):au G (ac f aj) δ = some d:=by
 unfold au ac aj
 rw [h]
 exact g
theorem Bg {f g:FD} {δ:DS} {d:D} (h:f δ = some (.bl true)) (k:g δ = some d):aL f g δ = some d:=by
 unfold aL
 rw [h]
 exact k
theorem qk:∀ (cs:List (Int × Int)),wg [.lst (cs.map fun _=>D.bl true)] = some (.bl true):=fun cs=>by
 have:cL (cs.map fun _=>D.bl true) = some (cs.map fun _=>true):=by
  induction cs with
  | nil=>rfl
  | cons c cs ih=>show ((cL (cs.map fun _=>D.bl true)).bind fun bs=>some (true :: bs)) = _;rw [ih];rfl
 show ((cL (cs.map fun _=>D.bl true)).bind fun bs=>some (D.bl (bs.all id))) = _
 rw [this]
 show some (D.bl ((cs.map fun _=>true).all id)) = _
 congr 2
 simp
theorem oh (m:Int) (q:Int × Int):decide (q.1 <= m * q.2) = !past m q:=by
 unfold past
 by_cases h:m * q.2 < q.1
 . rw [decide_eq_true h,decide_eq_false (by omega)];rfl
 . rw [decide_eq_false h,decide_eq_true (by omega)];rfl
theorem wa {m:Int} (h:Gr m):Bd m:=dE (by have:=h.1;have:=h.2;omega)
theorem mM {q:Int × Int} (h:Tw q):Bd q.2:=wG (k:=500) (by show q.2.natAbs < 2 ^ 500;have:=h.lw.pos;have:=h.le;omega)
theorem kO:∀ (ns:List Int),(∀ n ∈ ns,0 <= n/\n <= 4)->fi (ns.map D.int) = some (ns.map Int.toNat)
 | [],_=>rfl
 | n :: ns,h=>by
  show (if 0 <= n/\n <= 4 then (fi (ns.map D.int)).bind fun ms=>some (n.toNat :: ms) else none) = _
  rw [if_pos (h n Zo),kO ns fun x m=>h x (Zp _ m)]
  rfl
theorem ug {ns:List Int} (h:∀ n ∈ ns,0 <= n/\n <= 4):uh (ns.map Int.toNat) = (mn ns).map D.int:=by
 unfold uh mn
 have e:([0,1,2,3,4]:List Int) = (List.range 5).map fun (k:Nat)=>(k:Int):=rfl
 rw [e,List.filter_map,List.map_map]
 have f:(List.range 5).filter (fun k=>decide (k ∈ ns.map Int.toNat)) = (List.range 5).filter ((fun k=>decide (k ∈ ns)) ∘ fun k=>((k:Nat):Int)):=by
  apply List.filter_congr
  intro k _
  have:k ∈ ns.map Int.toNat <-> (k:Int) ∈ ns:=by
   constructor
   . intro m
     obtain ⟨n,hn,e⟩:=Zq.mp m
     have:=h n hn
     rw [show (k:Int) = n by omega]
     exact hn
   . intro m
     exact Zq.mpr ⟨(k:Int),m,by omega⟩
  simp only [Function.comp,this]
 rw [f]
 rfl
theorem wS {f:FM} {δ δ':DS} {ns:List Int} (h:f δ = some (.lst (ns.map D.int),δ')) (k:∀ n ∈ ns,0 <= n/\n <= 4):nE f δ = some (.lst ((mn ns).map D.int),δ'):=by
 unfold nE
 rw [h]
 show ((fi (ns.map D.int)).bind fun ms=>some (D.lst (uh ms),δ')) = _
 rw [kO ns k]
 show some (D.lst (uh (ns.map Int.toNat)),δ') = _
 rw [ug k]
theorem yq {fa fb:FM} {δ δ1 δ2:DS} {xs ys:List D} (h:fa δ = some (.lst xs,δ1)) (k:fb δ1 = some (.lst ys,δ2)) (l:xs.length + ys.length <= 1000):rY fa fb δ = some (.lst (xs ++ ys),δ2):=by
 unfold rY
 rw [h]
 dsimp only [Option.bind_some]
 rw [k]
 exact if_pos l
theorem lH {α:Type} {f:D->Option (Option D)} {g h:α->D}:∀ (xs:List α),(∀ x ∈ xs,f (g x) = some (some (h x)))->eL f (xs.map g) = some (xs.map h)
 | [],_=>rfl
 | x :: xs,e=>by
  show ((f (g x)).bind _) = _
  rw [e x Zo]
  dsimp only [Option.bind_some]
  rw [lH xs fun y m=>e y (Zp _ m)]
  rfl
structure Cb (cs:List (Int × Int)):Prop where
 bd:∀ c ∈ cs,(0 <= c.1/\c.1 <= 61)/\0 <= c.2/\c.2 <= 4
 le:cs.length <= 4
def iX (ds:List D) (d:D):Prop:=∃ (d0:D) (cs:List (Int × Int)),eM (sh d0) = some (cs.map fr)/\Cb cs/\ds = [d0]/\d = .lst ((mn (0 :: cs.map (·.2))).map D.int)
theorem rh {d0:D} {cs:List (Int × Int)} (h:eM (sh d0) = some (cs.map fr)) (k:Cb cs):fn iX [d0] = some (.lst ((mn (0 :: cs.map (·.2))).map D.int)):=cu (fun d' h'=>by
 obtain ⟨d1,rs,h1,_,h2,rfl⟩:=h'
 cases h2
 rw [h] at h1
 injection h1 with h1
 rw [bV h1]) ⟨d0,cs,h,k,rfl,rfl⟩
def bN (ds:List D) (d:D):Prop:=∃ (g s:Int) (c:Int × Int),ds = [.int g,fr c,.int s]/\d = fr (pbm s g c)
theorem gM {g s:Int} {c:Int × Int}:fn bN [.int g,fr c,.int s] = some (fr (pbm s g c)):=cu (fun d' h'=>by
 obtain ⟨g',s',⟨a,b⟩,h2,rfl⟩:=h'
 obtain ⟨x,y⟩:=c
 cases h2;rfl) ⟨g,s,c,rfl,rfl⟩
def eD (ds:List D) (d:D):Prop:=∃ (d0:D) (ms:List Int) (cs:List (Int × Int)),sh d0 = .seq (ms.map D.int)/\cs.length <= 4/\ds = [d0,.tup (cs.map fr)]/\d = .tup ((bmo ms cs).map fr)
theorem j9 {d0:D} {ms:List Int} {cs:List (Int × Int)} (h:sh d0 = .seq (ms.map D.int)) (k:cs.length <= 4):fn eD [d0,.tup (cs.map fr)] = some (.tup ((bmo ms cs).map fr)):=cu (fun d' h'=>by
 obtain ⟨d1,ns,rs,h1,_,h2,rfl⟩:=h'
 injection h2 with h3 h4
 injection h4 with h4
 injection h4 with h4
 subst h3
 rw [h] at h1
 injection h1 with h1
 rw [bV h4,cZ h1]) ⟨d0,ms,cs,h,k,rfl,rfl⟩
def nxD (o:Option (List (Int × Int))):D:=o.elim .non fun cs=>.tup (cs.map fr)
theorem vJ (o:Option (List (Int × Int))):own (nxD o) = true:=by
 cases o with
 | none=>rfl
 | some cs=>exact cK cs
def dg (ds:List D) (d:D):Prop:=∃ (d0:D) (ms:List Int) (cs:List (Int × Int)),sh d0 = .seq (ms.map D.int)/\Cb cs/\ds = [d0,.tup (cs.map fr)]/\d = nxD (nxt ms cs)
theorem pX {d0:D} {ms:List Int} {cs:List (Int × Int)} (h:sh d0 = .seq (ms.map D.int)) (k:Cb cs):fn dg [d0,.tup (cs.map fr)] = some (nxD (nxt ms cs)):=cu (fun d' h'=>by
 obtain ⟨d1,ns,rs,h1,_,h2,rfl⟩:=h'
 injection h2 with h3 h4
 injection h4 with h4
 injection h4 with h4
 subst h3
 rw [h] at h1
 injection h1 with h1
 rw [bV h4,cZ h1]) ⟨d0,ms,cs,h,k,rfl,rfl⟩
def gH (ds:List D) (d:D):Prop:=∃ p w:Int × Int,Fk p/\Fk w/\ds = [fr p,fr w]/\d = fr (pl p w)
theorem rm {p w:Int × Int} (h:Fk p) (k:Fk w):fn gH [fr p,fr w] = some (fr (pl p w)):=cu (fun d' h'=>by
 obtain ⟨⟨a,b⟩,⟨c,e⟩,_,_,h2,rfl⟩:=h'
 obtain ⟨x,y⟩:=p
 obtain ⟨u,v⟩:=w
 cases h2;rfl) ⟨p,w,h,k,rfl,rfl⟩
def eO (ds:List D) (d:D):Prop:=∃ (d0:D) (q:Int × Int) (r:List (Int × Int)),sh d0 = .seq ((q :: r).map fr)/\(∀ x ∈ q :: r,Fk x)/\ds = [d0]/\d = fr (lsF q (q :: r))
theorem oF {d0:D} {q:Int × Int} {r:List (Int × Int)} (h:sh d0 = .seq ((q :: r).map fr)) (k:∀ x ∈ q :: r,Fk x):fn eO [d0] = some (fr (lsF q (q :: r))):=cu (fun d' h'=>by
 obtain ⟨d1,q',r',h1,_,h2,rfl⟩:=h'
 cases h2
 rw [h] at h1
 injection h1 with h1
 have:=bV h1
 injection this with a b
 rw [a,b]) ⟨d0,q,r,h,k,rfl,rfl⟩
def wtD (o:Option (Int × Int)):D:=o.elim .non fr
theorem vH (o:Option (Int × Int)):own (wtD o) = true:=by cases o <;> rfl
def bX (ds:List D) (d:D):Prop:=∃ (d0 d1:D) (ms:List Int) (qs:List (Int × Int)),sh d0 = .seq (ms.map D.int)/\Hs d1 qs/\Dr ms qs/\ds = [d0,d1]/\d = wtD (nwt ms qs)
theorem jI {d0 d1:D} {ms:List Int} {qs:List (Int × Int)} (h:sh d0 = .seq (ms.map D.int)) (g:Hs d1 qs) (k:Dr ms qs):fn bX [d0,d1] = some (wtD (nwt ms qs)):=cu (fun d' h'=>by
 obtain ⟨e0,e1,ns,rs,h1,g1,_,h2,rfl⟩:=h'
 cases h2
 rw [h] at h1
 injection h1 with h1
 rw [g.inj g1,cZ h1]) ⟨d0,d1,ms,qs,h,g,k,rfl,rfl⟩
def c6 (ds:List D) (d:D):Prop:=∃ (d0:D) (qs:List (Int × Int)) (w:Int × Int),sh d0 = .seq (qs.map fr)/\(∀ q ∈ qs,Fk q)/\qs.length <= 4/\Fk w/\ds = [d0,fr w]/\d = .lst ((qs.map fun q=>pl q w).map fr)
theorem mH {d0:D} {qs:List (Int × Int)} {w:Int × Int} (h:sh d0 = .seq (qs.map fr)) (k:∀ q ∈ qs,Fk q) (l:qs.length <= 4) (g:Fk w):fn c6 [d0,fr w] = some (.lst ((qs.map fun q=>pl q w).map fr)):=cu (fun d' h'=>by
 obtain ⟨d1,rs,⟨a,b⟩,h1,_,_,_,h2,rfl⟩:=h'
 obtain ⟨x,y⟩:=w
 cases h2
 rw [h] at h1
 injection h1 with h1
 rw [bV h1]) ⟨d0,qs,w,h,k,l,g,rfl,rfl⟩
def lvL:List Int->List (Int × Int)->List Bool
 | m :: ms,c :: cs=>(decide (c.2 = 0) && decide (c.1 < m)) :: lvL ms cs
 | _,_=>[]
theorem s8:∀ (ms:List Int) (cs:List (Int × Int)),(lvL ms cs).any id = lvg ms cs
 | [],_=>rfl
 | _ :: _,[]=>rfl
 | m :: ms,c :: cs=>by
  show (_ || (lvL ms cs).any id) = (_ || lvg ms cs)
  rw [s8 ms cs]
  rfl
theorem sZ:∀ (ms:List Int) (cs:List (Int × Int)),(lvL ms cs).length <= cs.length
 | [],_=>Nat.zero_le _
 | _ :: _,[]=>Nat.zero_le _
 | m :: ms,c :: cs=>Nat.succ_le_succ (sZ ms cs)
theorem sW {f:D->Option (Option D)}:∀ (ms:List Int) (cs:List (Int × Int)),(∀ m ∈ ms,∀ c ∈ cs,f (.tup [.int m,fr c]) = some (some (.bl (decide (c.2 = 0) && decide (c.1 < m)))))->eL f (List.zipWith (fun d e=>D.tup [d,e]) (ms.map D.int) (cs.map fr)) = some ((lvL ms cs).map D.bl)
 | [],cs,_=>rfl
 | m :: ms,[],_=>rfl
 | m :: ms,c :: cs,h=>by
  show ((f (.tup [.int m,fr c])).bind _) = _
  rw [h m Zo c Zo]
  dsimp only [Option.bind_some]
  rw [sW ms cs fun x hx y hy=>h x (Zp _ hx) y (Zp _ hy)]
  rfl
theorem sV {f:D->Option (Option D)} {s:Int}:∀ (ms:List Int) (cs:List (Int × Int)),(∀ m ∈ ms,∀ c ∈ cs,f (.tup [.int m,fr c]) = some (some (fr (pbm s m c))))->eL f (List.zipWith (fun d e=>D.tup [d,e]) (ms.map D.int) (cs.map fr)) = some ((zbm s ms cs).map fr)
 | [],cs,_=>rfl
 | m :: ms,[],_=>rfl
 | m :: ms,c :: cs,h=>by
  show ((f (.tup [.int m,fr c])).bind _) = _
  rw [h m Zo c Zo]
  dsimp only [Option.bind_some]
  rw [sV ms cs fun x hx y hy=>h x (Zp _ hx) y (Zp _ hy)]
  rfl
theorem rS {s:Int}:∀ (ms:List Int) (cs:List (Int × Int)),(zbm s ms cs).length <= cs.length
 | [],_=>Nat.zero_le _
 | _ :: _,[]=>Nat.zero_le _
 | m :: ms,c :: cs=>Nat.succ_le_succ (rS ms cs)
theorem Am {ns:List Int} {o:List (Option D)} (hl:ns.length <= 63) (a b:Int):∃ ms:List Int,kK (uY (bo (ac (fC (.int 0)) aj)) (fSl (ae 0) (faS (fC (.int a))) (faS (fC (.int b))))) (some (.seq (ns.map D.int)) :: o) = some (ms.map D.int,some (.seq (ns.map D.int)) :: o):=by
 obtain ⟨ms,e⟩:=uN ns (some a) (some b)
 refine ⟨0 :: ms,?_⟩
 have s1:fSl (ae 0) (faS (fC (.int a))) (faS (fC (.int b))) (some (.seq (ns.map D.int)) :: o) = some (.lst (ms.map D.int)):=by
  rw [<- e]
  rfl
 have s2:uY (bo (ac (fC (.int 0)) aj)) (fSl (ae 0) (faS (fC (.int a))) (faS (fC (.int b)))) (some (.seq (ns.map D.int)) :: o) = some (.lst ((0 :: ms).map D.int),some (.seq (ns.map D.int)) :: o):=by
  have lm:ms.length <= 63:=by
   have:(Dl.cutD (ns.map D.int) (some a) (some b)).length <= (ns.map D.int).length:=by
    unfold Dl.cutD
    rw [List.length_take,List.length_drop]
    omega
   rw [e,Zl,Zl] at this
   omega
  have g:uI (.lst [.int 0]) (.lst (ms.map D.int)) = some (.lst ((0 :: ms).map D.int)):=if_pos (by rw [Zl];simp;omega)
  unfold uY f2
  rw [s1]
  show ((uI (.lst [.int 0]) (.lst (ms.map D.int))).bind _) = _
  rw [g]
  exact if_pos (jG (0 :: ms))
 unfold kK
 rw [s2]
 dsimp only [Option.bind_some]
 rw [gR]
theorem BD (x:Int):x % 2 = 0 \/ x % 2 = 1:=by omega
structure FK (K:PySem.W.Frag) (x:Str) (st:Stmt) (f:Addr):Prop where
 ns:PySem.W.nsIn K mainGlobals x = some (some (.ref f))
 ex:∃ (oc:Value) (od:Option Addr) (kV doc pm:Value) (an:Option Addr) (cdv ct:Value) (osl:Array (Option Value)),K.lookup f = some ⟨oc,od,.func (PySem.W.fnOf x x (cD st) (bR st) (ak st) .none kV doc pm an cdv ct),osl⟩/\PySem.W.codeIn K cdv x = true
 kp:PySem.W.keepIn K (.ref f) = true
theorem FK.get {K:PySem.W.Frag} {x:Str} {st:Stmt} {f:Addr} {ps:List Str} (h:FK K x st f) (b:∀ (kV doc pm:Value) (an:Option Addr) (cdv ct:Value) (us:List Value),us.length = ps.length->bindArgs (PySem.W.fnOf x x (cD st) (bR st) (ak st) .none kV doc pm an cdv ct) ⟨us,[]⟩ = pure (ps.zip us)):∃ fd,Fun K x x st f fd/\Binds K fd ps []:=by
 obtain ⟨oc,od,kV,doc,pm,an,cdv,ct,osl,l,c⟩:=h.ex
 have F:=wj (st:=st) l c h.kp
 exact ⟨_,F,F.binds b⟩
theorem FK.of2 {K:PySem.W.Frag} {x:Str} {st:Stmt} {f:Addr} (e:Hd.fv K x f = Hd.fe x st .none f):FK K x st f:=⟨(Hd.fv_inv e).1,(Hd.fv_inv e).2.2,(Hd.fv_inv e).2.1⟩
section
variable (P:Program) (w:World) (base:Heap) {K:PySem.W.Frag} {mg:Str->Option Value} {h:Heap} {k:Nat} {f:Addr} {fd:FuncData} {x:Str} {st:Stmt} {ps:List Str}
theorem mkP {G:List D->Option D} (X:K.In h) (N:h.Ns mainGlobals mg) (a:FK K x st f) (o:FnOk P w K mg base CX0 k f fd ps (cn K ps.length G)) (b:Binds K fd ps []):Has P w K mg base k x ps G:=⟨⟨_,_,o,PySem.W.mg_of X N a.ns,a.kp,b⟩⟩
theorem mkF {G:List D->Option D} (X:K.In h) (N:h.Ns mainGlobals mg) (a:FK K x st f) (o:FnOk P w K mg base CX0 k f fd ps (bW K ps.length G)) (b:Binds K fd ps []):HasF P w K mg base k x ps G:=⟨⟨_,_,o,PySem.W.mg_of X N a.ns,a.kp,b⟩⟩
theorem mkU {G:List D->Option (D × D)} (X:K.In h) (N:h.Ns mainGlobals mg) (a:FK K x st f) (o:FnOk P w K mg base CX0 k f fd ps (oQ K ps.length G)) (b:Binds K fd ps []):me P w K mg base k x ps G:=⟨⟨_,_,o,PySem.W.mg_of X N a.ns,a.kp,b⟩⟩
end
section
variable {P:Program} {w:World} {K:PySem.W.Frag} {mg:Str->Option Value} {base:Heap} {f:Addr} {fd:FuncData}
theorem jP:aQ ["thing"] ["thing"] (ak gt):=⟨rfl,rfl,rfl,by decide +kernel,rfl,by decide +kernel,by decide +kernel⟩
theorem pv (F:Fun K "is_whole" "is_whole" gt f fd)    (m_isinstance:mg "isinstance" = none) (m_int:mg "int" = none) (m_bool:mg "bool" = none):FnOk P w K mg base CX0 1 f fd ["thing"] (cn K 1 (fn gG)):=by
 have sc:=jP
 refine cI F jP (fun cdv A outer s H E ds d hr hG hl=>?_)
 obtain ⟨x,b,h,rfl,rfl⟩:=bI hG
 refine ⟨_,(bL (cj (iT (ca gi (jJ pz) rfl m_isinstance boot_isinstance (ab (aa 0) (ab (mV rfl m_int boot_int) ah))) (iS (vF (ca gi (jJ mW) rfl m_isinstance boot_isinstance (ab (aa 0) (ab (mV rfl m_bool boot_bool) ah)))))))),?_⟩
 . show az ((?f:SD) [some _]) = _
   cases x <;> simp [oq] at h <;> subst h <;> rfl
theorem fj:aQ ["number","above_nought","one","other","rest"] ["number","above_nought"] (ak cR):=⟨rfl,rfl,rfl,by decide +kernel,rfl,by decide +kernel,by decide +kernel⟩
def cdC:FT:=fT (f2 gNe (ae 3) (fC (.int 0)))
def cdS:SD:=aO (bt 4 (f2 (gI (fun _ j=>0 < j) fun i j=>.int (i % j)) (ae 2) (ae 3))) (aO (bt 2 (ae 3)) (bt 3 (ae 4)))
theorem tY:∀ (n:Nat) (x y:Int) (u v o:Option D),0 <= y->(y = 0->0 <= x)->y.toNat < n->∃ o',d9 n cdC cdS [u,v,some (.int x),some (.int y),o] = some (.nx [u,v,some (.int (gc x y)),some (.int 0),o'])
 | 0,x,y,u,v,o,h0,h1,h2=>by omega
 | n + 1,x,y,u,v,o,h0,h1,h2=>by
  by_cases h:y = 0
  . subst h
    refine ⟨o,?_⟩
    rw [tL (h1 rfl)]
    rfl
  . have hy:0 < y:=by omega
    have hc:cdC [u,v,some (.int x),some (.int y),o] = some true:=by
     show some (!(y == 0)) = some true
     simp [h]
    have hs:cdS [u,v,some (.int x),some (.int y),o] = some (.nx [u,v,some (.int y),some (.int (x % y)),some (.int (x % y))]):=by
     unfold cdS
     simp only [az,aZ,aS,aO,bv,aT,bt,sIf,bw,bE,bF,asL,bu,bx,ae,fC,f2,f1,fT,asB,aN,aK,bn,aL,bH,bC,bz,aj,ac,bh,bo,au,bA,bG,ax,ao,aG,aF,gI0,ar,aw,ay,aH,aq,al,ag,Dl.isInt,Dl.isBool,Dl.isTup,Zc,Zd,Zt,Zu,Zm,Zn,Ze,Zf,Zg,Zh,Zi,Zj,Zk,Zy,Zz,Zx,av,aP,aE,vI,aA,aD,bc,aB,bj,bm,aJ,aV (C:=fun _ j=>0 < j) (i:=x) hy]
    obtain ⟨o',ih⟩:=tY n y (x % y) u v (some (.int (x % y))) (Int.emod_nonneg x h) (fun _=>h0) (by have:=Int.emod_lt_of_pos x hy;omega)
    refine ⟨o',?_⟩
    rw [on] at ih
    rw [oY hc hs]
    exact ih
theorem ji (F:Fun K "common_divisor" "common_divisor" cR f fd)    :FnOk P w K mg base CX0 1 f fd ["number","above_nought"] (cn K 2 (fn cW)):=by
 have sc:=fj
 refine cI F fj (fun cdv A outer s H E ds d hr hG hl=>?_)
 obtain ⟨a,b,hb,rfl,rfl⟩:=bI hG
 refine ⟨_,(bS (dW 2 sc.nd (aa 0))
  (bS (dW 3 sc.nd (aa 1))
  (bS (mS (b.toNat + 1) PassesOwn.never (za hr.units0 (aa 3) af)
   (bS (dW 4 sc.nd (ej (aa 2) (aa 3)))
   (bS (dW 2 sc.nd (aa 3))
   (bL (dW 3 sc.nd (aa 4))))))
  (bL (cj (aa 2)))))),?_⟩
 . show az ((?f:SD) [some _,some _,none,none,none]) = _
   obtain ⟨o,ho⟩:=tY (b.toNat + 1) a b (some (.int a)) (some (.int b)) none (by omega) (by omega) (by omega)
   show az ((d9 (b.toNat + 1) cdC cdS [some (.int a),some (.int b),some (.int a),some (.int b),none]).bind (aS (bv (ae 2)))) = _
   rw [ho]
   rfl
theorem sd:aQ ["one","other"] ["one","other"] (ak nL):=⟨rfl,rfl,rfl,by decide +kernel,rfl,by decide +kernel,by decide +kernel⟩
theorem xt (F:Fun K "less" "less" nL f fd)    :FnOk P w K mg base CX0 1 f fd ["one","other"] (cn K 2 (fn g9)):=by
 have sc:=sd
 refine cI F sd (fun cdv A outer s H E ds d hr hG hl=>?_)
 obtain ⟨⟨a,b⟩,⟨c,e⟩,hp,hq,rfl,rfl⟩:=bI hG
 refine ⟨_,(bL (cj (x8 (cC (aU (aa 0) af) (aU (aa 1) af)) (cC (aU (aa 1) af) (aU (aa 0) af))))),?_⟩
 . show az ((?f:SD) [some _,some _]) = _
   simp only [az,aZ,aS,aO,bv,aT,bt,sIf,bw,bE,bF,asL,bu,bx,ae,fC,f2,f1,fT,asB,aN,aK,bn,aL,bH,bC,bz,aj,ac,bh,bo,au,bA,bG,ax,ao,aG,aF,gI0,ar,aw,ay,aH,aq,al,ag,Dl.isInt,Dl.isBool,Dl.isTup,Zc,Zd,Zt,Zu,Zm,Zn,Ze,Zf,Zg,Zh,Zi,Zj,Zk,Zy,Zz,Zx,av,aP,aE,vI,aA,aD,bc,aB,bj,bm,aJ,aV (C:=aY) (i:=a) (j:=e) ⟨hp.s1.bd,hq.s2.bd⟩,aV (C:=aY) (i:=c) (j:=b) ⟨hq.s1.bd,hp.s2.bd⟩]
theorem jR:aQ ["one"] ["one"] (ak gu):=⟨rfl,rfl,rfl,by decide +kernel,rfl,by decide +kernel,by decide +kernel⟩
theorem pA (F:Fun K "floor_of" "floor_of" gu f fd)    :FnOk P w K mg base CX0 1 f fd ["one"] (cn K 1 (fn eZ)):=by
 have sc:=jR
 refine cI F jR (fun cdv A outer s H E ds d hr hG hl=>?_)
 obtain ⟨⟨a,b⟩,h,rfl,rfl⟩:=bI hG
 refine ⟨_,(bL (cj (da (aU (aa 0) af) (aU (aa 0) af)))),?_⟩
 . show az ((?f:SD) [some _]) = _
   simp only [az,aZ,aS,aO,bv,aT,bt,sIf,bw,bE,bF,asL,bu,bx,ae,fC,f2,f1,fT,asB,aN,aK,bn,aL,bH,bC,bz,aj,ac,bh,bo,au,bA,bG,ax,ao,aG,aF,gI0,ar,aw,ay,aH,aq,al,ag,Dl.isInt,Dl.isBool,Dl.isTup,Zc,Zd,Zt,Zu,Zm,Zn,Ze,Zf,Zg,Zh,Zi,Zj,Zk,Zy,Zz,Zx,av,aP,aE,vI,aA,aD,bc,aB,bj,bm,aJ,aV (C:=dI) (i:=a) (j:=b) ⟨h.pos,h.s2.bd⟩]
theorem i6:aQ ["most","cell"] ["most","cell"] (ak fB):=⟨rfl,rfl,rfl,by decide +kernel,rfl,by decide +kernel,by decide +kernel⟩
theorem BM {m:Int} {c:Int × Int} {δ:DS}:df 2 [] (gDs [0,1]) (fun _=>some true) (vI (aL (f2 c0 (f2 gIx (ae 1) (fC (.int 1))) (fC (.int 0))) (f2 gLe (f2 gIx (ae 1) (fC (.int 0))) (ae 0)))) δ (.tup [.int m,fr c]) = some (some (.bl (decide (c.2 = 0) && decide (c.1 <= m)))):=by
 show ((Dl.ownOf (vI (aL (f2 c0 (f2 gIx (ae 1) (fC (.int 1))) (fC (.int 0))) (f2 gLe (f2 gIx (ae 1) (fC (.int 0))) (ae 0)))) [some (.int m),some (fr c)]).map some) = _
 have e:(aL (f2 c0 (f2 gIx (ae 1) (fC (.int 1))) (fC (.int 0))) (f2 gLe (f2 gIx (ae 1) (fC (.int 0))) (ae 0))) [some (.int m),some (fr c)] = some (.bl (decide (c.2 = 0) && decide (c.1 <= m))):=by
  have g0:c0 (.int c.2) (.int 0) = some (.bl (c.2 == 0)):=rfl
  by_cases z:c.2 = 0
  . have z':(c.2 == 0) = true:=by simp [z]
    simp only [az,aZ,aS,aO,bv,aT,bt,sIf,bw,bE,bF,asL,bu,bx,ae,fC,f2,f1,fT,asB,aN,aK,bn,aL,bH,bC,bz,aj,ac,bh,bo,au,bA,bG,ax,ao,aG,aF,gI0,ar,aw,ay,aH,aq,al,ag,Dl.isInt,Dl.isBool,Dl.isTup,Zc,Zd,Zt,Zu,Zm,Zn,Ze,Zf,Zg,Zh,Zi,Zj,Zk,Zy,Zz,Zx,av,aP,aE,vI,aA,aD,bc,aB,bj,bm,aJ,g0,z',decide_eq_true z,gLe]
    rfl
  . have z':(c.2 == 0) = false:=by simp [z]
    simp only [az,aZ,aS,aO,bv,aT,bt,sIf,bw,bE,bF,asL,bu,bx,ae,fC,f2,f1,fT,asB,aN,aK,bn,aL,bH,bC,bz,aj,ac,bh,bo,au,bA,bG,ax,ao,aG,aF,gI0,ar,aw,ay,aH,aq,al,ag,Dl.isInt,Dl.isBool,Dl.isTup,Zc,Zd,Zt,Zu,Zm,Zn,Ze,Zf,Zg,Zh,Zi,Zj,Zk,Zy,Zz,Zx,av,aP,aE,vI,aA,aD,bc,aB,bj,bm,aJ,g0,z',decide_eq_false z]
    rfl
 unfold Dl.ownOf
 rw [bM e]
 rfl
theorem n5 (F:Fun K "is_moment" "is_moment" fB f fd)    (m_any:mg "any" = none) (m_zip:mg "zip" = none):FnOk P w K mg base CX0 1 f fd ["most","cell"] (bW K 2 (fn cO)):=by
 have sc:=i6
 refine ce F i6 (fun cdv A outer s H E ds d hr hG hl=>?_)
 obtain ⟨d0,ms,cs,h,k,rfl,rfl⟩:=bI hG
 have hown:own (.bl (mom ms cs)) = true:=rfl
 refine ⟨_,(bq (bU (nO (lZ rfl) rG rfl m_any jK (dB (by exact (gf rfl m_zip (ab (aa 0) (ab (aa 1) ah)))) (T:=["greatest","place"]) (N:=["greatest","place"]) (js:=[]) (cl:=[]) (fun _ _ _ _ _=>by exact (fJ [0,1] (eg rfl (br (pgN 0 (show List.Nodup (["greatest","place"]:List Str) from by decide +kernel)) (br (pgN 1 (show List.Nodup (["greatest","place"]:List Str) from by decide +kernel)) c9))))) (dZ [0,1] (by decide)) (fun _ _ _ _ _=>by exact ij) (fun _ _ _ _ _=>by exact (be (iT (lr hr.units (aU (aa 1) af) af) (iS (AT (aU (aa 1) af) (aa 0)))))) (by exact CompG.of (T:=["greatest","place"]) (Z:=[]) (Y:=[]) (hcl:=(by intro p hp;cases hp)) (hN:=(by intro i y j h1 h2;cases h1))))))),?_,?own⟩
 case own=>first | rfl | exact hown
 . show az ((?f:SD) (bf 2 _)) = _
   have e0:bf 2 [d0,.tup (cs.map fr)] = [some (.seq (ms.map D.int)),some (.tup (cs.map fr))]:=by
    show [some (sh d0),some (sh (.tup (cs.map fr)))] = _
    rw [h,jx]
   rw [e0]
   refine dJ (cw (jM (dP (hW (d0:=.seq (ms.map D.int)) (d1:=.tup (cs.map fr)) rfl rfl rfl) (pI ms cs fun m hm c hc=>BM) ?_) ?_ rfl))
   . rw [Zl]
     have:=pG ms cs
     omega
   . show ((cL ((uA ms cs).map D.bl)).bind fun bs=>some (D.bl (bs.any id))) = _
     rw [jr,<- pH]
     rfl
theorem dq:aQ ["greatest","place","step"] ["greatest","place","step"] (ak ci):=⟨rfl,rfl,rfl,by decide +kernel,rfl,by decide +kernel,by decide +kernel⟩
theorem gB (F:Fun K "place_behind_moment" "place_behind_moment" ci f fd)    :FnOk P w K mg base CX0 1 f fd ["greatest","place","step"] (cn K 3 (fn bN)):=by
 have sc:=dq
 refine cI F dq (fun cdv A outer s H E ds d hr hG hl=>?_)
 obtain ⟨g,s,⟨x,t⟩,rfl,rfl⟩:=bI hG
 refine ⟨_,(bS (lg (nR (aU (aa 1) af) af) (bL (cj (cY (ab (aU (aa 1) af) (ab (eT (aU (aa 1) af) (aa 2)) ah))))) jg)
  (bS (lg (nQ (aU (aa 1) af) (aa 0)) (bL (cj (cY (ab (aU (aa 1) af) (ab af ah))))) jg)
  (bL (cj (cY (ab (eT (aa 0) af) (ab af ah))))))),?_⟩
 . show az ((?f:SD) [some _,some _,some _]) = _
   unfold pbm
   dsimp only
   by_cases c1:0 < t
   . rw [if_pos c1]
     have d1:decide (0 < t) = true:=decide_eq_true c1
     simp only [az,aZ,aS,aO,bv,aT,bt,sIf,bw,bE,bF,asL,bu,bx,ae,fC,f2,f1,fT,asB,aN,aK,bn,aL,bH,bC,bz,aj,ac,bh,bo,au,bA,bG,ax,ao,aG,aF,gI0,ar,aw,ay,aH,aq,al,ag,Dl.isInt,Dl.isBool,Dl.isTup,Zc,Zd,Zt,Zu,Zm,Zn,Ze,Zf,Zg,Zh,Zi,Zj,Zk,Zy,Zz,Zx,av,aP,aE,vI,aA,aD,bc,aB,bj,bm,aJ,gGt,gLt,d1]
   . rw [if_neg c1]
     have d1:decide (0 < t) = false:=decide_eq_false c1
     by_cases c2:x < g
     . rw [if_pos c2]
       have d2:decide (x < g) = true:=decide_eq_true c2
       simp only [az,aZ,aS,aO,bv,aT,bt,sIf,bw,bE,bF,asL,bu,bx,ae,fC,f2,f1,fT,asB,aN,aK,bn,aL,bH,bC,bz,aj,ac,bh,bo,au,bA,bG,ax,ao,aG,aF,gI0,ar,aw,ay,aH,aq,al,ag,Dl.isInt,Dl.isBool,Dl.isTup,Zc,Zd,Zt,Zu,Zm,Zn,Ze,Zf,Zg,Zh,Zi,Zj,Zk,Zy,Zz,Zx,av,aP,aE,vI,aA,aD,bc,aB,bj,bm,aJ,gGt,gLt,d1,d2]
     . rw [if_neg c2]
       have d2:decide (x < g) = false:=decide_eq_false c2
       simp only [az,aZ,aS,aO,bv,aT,bt,sIf,bw,bE,bF,asL,bu,bx,ae,fC,f2,f1,fT,asB,aN,aK,bn,aL,bH,bC,bz,aj,ac,bh,bo,au,bA,bG,ax,ao,aG,aF,gI0,ar,aw,ay,aH,aq,al,ag,Dl.isInt,Dl.isBool,Dl.isTup,Zc,Zd,Zt,Zu,Zm,Zn,Ze,Zf,Zg,Zh,Zi,Zj,Zk,Zy,Zz,Zx,av,aP,aE,vI,aA,aD,bc,aB,bj,bm,aJ,gGt,gLt,d1,d2]
theorem jN:aQ ["cell"] ["cell"] (ak gn):=⟨rfl,rfl,rfl,by decide +kernel,rfl,by decide +kernel,by decide +kernel⟩
theorem BC {c:Int × Int} {δ:DS}:df 2 [] (gDs [0,1]) (fun _=>some true) (aA 1) δ (fr c) = some (some (.int c.2)):=rfl
theorem pq (F:Fun K "ranks_of" "ranks_of" gn f fd)    (m_sorted:mg "sorted" = none) (m_set:mg "set" = none):FnOk P w K mg base CX0 1 f fd ["cell"] (bW K 1 (fn iX)):=by
 have sc:=jN
 refine ce F jN (fun cdv A outer s H E ds d hr hG hl=>?_)
 obtain ⟨d0,cs,h,k,rfl,rfl⟩:=bI hG
 have hown:own (.lst ((mn (0 :: cs.map (·.2))).map D.int)) = true:=jE _
 refine ⟨_,(bq (bU (vn rfl m_sorted rfl m_set (xc (iP (cF (be af) dz)) (dB (by exact (xk (aa 0))) (T:=["whole","rank"]) (N:=["whole","rank"]) (js:=[]) (cl:=[]) (fun _ _ _ _ _=>by exact (fJ [0,1] (eg rfl (br (pgN 0 (show List.Nodup (["whole","rank"]:List Str) from by decide +kernel)) (br (pgN 1 (show List.Nodup (["whole","rank"]:List Str) from by decide +kernel)) c9))))) (dZ [0,1] (by decide)) (fun _ _ _ _ _=>by exact ij) (fun _ _ _ _ _=>by exact (bQ 1)) (by exact CompG.of (T:=["whole","rank"]) (Z:=[]) (Y:=[]) (hcl:=(by intro p hp;cases hp)) (hN:=(by intro i y j h1 h2;cases h1)))))))),?_,?own⟩
 case own=>first | rfl | exact hown
 . show az ((?f:SD) (bf 1 _)) = _
   have e0:bf 1 [d0] = [some (sh d0)]:=rfl
   rw [e0]
   have l:=k.le
   have c1:gP (fun δ=>((ae 0) δ).bind eM) 2 [] (gDs [0,1]) (fun _=>some true) (aA 1) [some (sh d0)] = some (.lst ((cs.map (·.2)).map D.int),[some (sh d0)]):=by
    refine dP (ds:=cs.map fr) h ?_ (by rw [Zl,Zl];omega)
    rw [List.map_map]
    exact lH cs fun c _=>BC
   refine dJ (cw (wS (ns:=0 :: cs.map (·.2)) (yq (xs:=[.int 0]) (ys:=(cs.map (·.2)).map D.int) (δ1:=[some (sh d0)]) rfl c1 (by rw [Zl,Zl];show 1 + cs.length <= 1000;omega)) fun n m=>?_))
   rcases Zs.mp m with e | e
   . rw [e];decide
   . obtain ⟨c,mc,rfl⟩:=Zq.mp e
     exact (k.bd c mc).2
theorem kT:aQ ["_law_script","_law_k"] ["_law_script","_law_k"] (ak ig):=⟨rfl,rfl,rfl,by decide +kernel,rfl,by decide +kernel,by decide +kernel⟩
theorem qO (F:Fun K "_law_at" "_law_at" ig f fd)    (m_len:mg "len" = none):FnOk P w K mg base CX0 1 f fd ["_law_script","_law_k"] (cn K 2 (fn iz)):=by
 have sc:=kT
 refine cI F kT (fun cdv A outer s H E ds d hr hG hl=>?_)
 obtain ⟨ns,k,hk,rfl,rfl⟩:=bI hG
 refine ⟨_,(bL (cj (qJ (nQ (aa 1) (ca dD lY rfl m_len PySem.boot_len (ab (aa 0) ah))) (aU (aa 0) (aa 1)) af))),?_⟩
 . show az ((?f:SD) [some _,some _]) = _
   by_cases hlt:k < (ns.length:Int)
   . have h1:decide (k < (((ns.map D.int).length:Nat):Int)) = true:=decide_eq_true (by rw [Zl];exact hlt)
     have h2:gIx (.seq (ns.map D.int)) (.int k) = some (.int (cell ns k)):=by
      show L2.atI (ns.map D.int) k = _
      have ek:k = ((k.toNat:Nat):Int):=by omega
      have hk2:k.toNat < ns.length:=by omega
      have h3:=atI_nat (xs:=ns.map D.int) (j:=k.toNat) (v:=D.int ns[k.toNat]) (by rw [List.getElem?_map,Zv hk2] <;> rfl)
      rw [<- ek] at h3
      rw [h3]
      unfold cell
      simp [List.getD_eq_getElem?_getD,hk2]
     simp only [az,aZ,aS,aO,bv,aT,bt,sIf,bw,bE,bF,asL,bu,bx,ae,fC,f2,f1,fT,asB,aN,aK,bn,aL,bH,bC,bz,aj,ac,bh,bo,au,bA,bG,ax,ao,aG,aF,gI0,ar,aw,ay,aH,aq,al,ag,Dl.isInt,Dl.isBool,Dl.isTup,Zc,Zd,Zt,Zu,Zm,Zn,Ze,Zf,Zg,Zh,Zi,Zj,Zk,Zy,Zz,Zx,av,aP,aE,vI,aA,aD,bc,aB,bj,bm,aJ,fIf,gLt,if_true,h1,h2]
   . have h1:decide (k < (((ns.map D.int).length:Nat):Int)) = false:=decide_eq_false (by rw [Zl];exact hlt)
     have h2:cell ns k = 0:=by
      unfold cell
      rw [List.getD_eq_getElem?_getD,List.getElem?_eq_none (by omega)]
      rfl
     simp only [az,aZ,aS,aO,bv,aT,bt,sIf,bw,bE,bF,asL,bu,bx,ae,fC,f2,f1,fT,asB,aN,aK,bn,aL,bH,bC,bz,aj,ac,bh,bo,au,bA,bG,ax,ao,aG,aF,gI0,ar,aw,ay,aH,aq,al,ag,Dl.isInt,Dl.isBool,Dl.isTup,Zc,Zd,Zt,Zu,Zm,Zn,Ze,Zf,Zg,Zh,Zi,Zj,Zk,Zy,Zz,Zx,av,aP,aE,vI,aA,aD,bc,aB,bj,bm,aJ,fIf,gLt,if_true,h1,h2]
     rfl
theorem iE:aQ ["_law_cell_here","_law_way"] ["_law_cell_here","_law_way"] (ak eI):=⟨rfl,rfl,rfl,by decide +kernel,rfl,by decide +kernel,by decide +kernel⟩
theorem mC (F:Fun K "_law_purse" "_law_purse" eI f fd)    (m_abs:mg "abs" = none):FnOk P w K mg base CX0 1 f fd ["_law_cell_here","_law_way"] (bW K 2 (fn eN)):=by
 have sc:=iE
 refine ce F iE (fun cdv A outer s H E ds d hr hG hl=>?_)
 obtain ⟨c,w,hw,rfl,rfl⟩:=bI hG
 have hown:own (pu ((c.natAbs:Int) * (1 - w)) ((c.natAbs:Int) % 2147483563 + 1)) = true:=rfl
 refine ⟨_,(bq (bU (iP (cF (be (xn (ca l6 rH rfl m_abs PyProof.Rows.boot_abs (ab (aa 0) ah)) (vC af (aa 1)))) (cF (be (eT (ej (ca l6 rH rfl m_abs PyProof.Rows.boot_abs (ab (aa 0) ah)) af) af)) dz))))),?_,?own⟩
 case own=>first | rfl | exact hown
 . show az ((?f:SD) (bf 2 _)) = _
   have e0:bf 2 [.int c,.int w] = [some (.int c),some (.int w)]:=rfl
   rw [e0]
   have m1:nB (c.natAbs:Int) (1 - w):=.inr (.inr (by omega))
   refine dJ (cw (qu (bM (d:=.int ((c.natAbs:Int) * (1 - w))) ?_) (bM (d:=.int ((c.natAbs:Int) % 2147483563 + 1)) ?_)))
   . simp only [az,aZ,aS,aO,bv,aT,bt,sIf,bw,bE,bF,asL,bu,bx,ae,fC,f2,f1,fT,asB,aN,aK,bn,aL,bH,bC,bz,aj,ac,bh,bo,au,bA,bG,ax,ao,aG,aF,gI0,ar,aw,ay,aH,aq,al,ag,Dl.isInt,Dl.isBool,Dl.isTup,Zc,Zd,Zt,Zu,Zm,Zn,Ze,Zf,Zg,Zh,Zi,Zj,Zk,Zy,Zz,Zx,av,aP,aE,vI,aA,aD,bc,aB,bj,bm,aJ,aV (C:=nB) m1]
   . simp only [az,aZ,aS,aO,bv,aT,bt,sIf,bw,bE,bF,asL,bu,bx,ae,fC,f2,f1,fT,asB,aN,aK,bn,aL,bH,bC,bz,aj,ac,bh,bo,au,bA,bG,ax,ao,aG,aF,gI0,ar,aw,ay,aH,aq,al,ag,Dl.isInt,Dl.isBool,Dl.isTup,Zc,Zd,Zt,Zu,Zm,Zn,Ze,Zf,Zg,Zh,Zi,Zj,Zk,Zy,Zz,Zx,av,aP,aE,vI,aA,aD,bc,aB,bj,bm,aJ,aV (C:=fun _ j=>0 < j) (i:=(c.natAbs:Int)) (j:=2147483563) (by decide)]
theorem i8:aQ ["_law_purse_here","_law_many","_law_stirred","_law_number"] ["_law_purse_here","_law_many"] (ak fF):=⟨rfl,rfl,rfl,by decide +kernel,rfl,by decide +kernel,by decide +kernel⟩
theorem n8 (F:Fun K "_law_take" "_law_take" fF f fd)    :FnOk P w K mg base CX0 1 f fd ["_law_purse_here","_law_many"] (oQ K 2 (fnM aM)):=by
 have sc:=i8
 refine jf F i8 (fun cdv A outer s H E Z d0 es d0' r hr zk hG hl=>?_)
 obtain ⟨a,b,m,h,k,l,e1,e2⟩:=kB hG
 cases e1
 cases e2
 refine ⟨_,(cz (ss (nR (aU (aa 0) af) af) (cz (eR 3 zk sc.nd (fH (be (aU (aa 0) af))))
  (cz (vp 0 (be (da (aa 3) (aa 1))) af)
  (gx (k8 (fH (be (ej (aa 3) (aa 1)))))))) nP)
  (cz (vp 0 (be (ej (eT (cC (aU (aa 0) af) af) af) af)) af)
  (cz (eR 2 zk sc.nd (fH (be (ej (cC (aU (aa 0) af) (aU (aa 0) af)) af))))
  (gx (k8 (fH (be (ej (da (aa 2) af) (aa 1))))))))),?_⟩
 . rw [show (["_law_purse_here","_law_many","_law_stirred","_law_number"]:List Str).length = 4 from rfl]
   show _ = some (Res.rt (.tup [.int (tkV a b m),pu (tkA a m) (tkB a b)]))
   have e0:dc 4 (pu a b) [.int m] = [some (pu a b),some (.int m),none,none]:=rfl
   rw [e0]
   have hc:fT (f2 gGt (f2 gIx (ae 0) (fC (.int 0))) (fC (.int 0))) [some (pu a b),some (.int m),none,none] = some (decide (0 < a)):=rfl
   by_cases ha:0 < a
   . have ea:tkA a m = a / m:=if_pos ha
     have eb:tkB a b = b:=if_pos ha
     have ev:tkV a b m = a % m:=if_pos ha
     rw [ea,eb,ev]
     rw [decide_eq_true ha] at hc
     refine ib (dk hc (aI (δ':=[some (pu a b),some (.int m),none,some (.int a)]) (bD (bM (d:=.int a) rfl)) (aI (δ':=[some (pu (a / m) b),some (.int m),none,some (.int a)]) ?_ (i0 (bM (d:=.int (a % m)) ?_) rfl))))
     . unfold wZ
       rw [bM (d:=.int (a / m)) (by simp only [az,aZ,aS,aO,bv,aT,bt,sIf,bw,bE,bF,asL,bu,bx,ae,fC,f2,f1,fT,asB,aN,aK,bn,aL,bH,bC,bz,aj,ac,bh,bo,au,bA,bG,ax,ao,aG,aF,gI0,ar,aw,ay,aH,aq,al,ag,Dl.isInt,Dl.isBool,Dl.isTup,Zc,Zd,Zt,Zu,Zm,Zn,Ze,Zf,Zg,Zh,Zi,Zj,Zk,Zy,Zz,Zx,av,aP,aE,vI,aA,aD,bc,aB,bj,bm,aJ,aV (C:=dI) (i:=a) (j:=m) ⟨k,l⟩])]
       rfl
     . simp only [az,aZ,aS,aO,bv,aT,bt,sIf,bw,bE,bF,asL,bu,bx,ae,fC,f2,f1,fT,asB,aN,aK,bn,aL,bH,bC,bz,aj,ac,bh,bo,au,bA,bG,ax,ao,aG,aF,gI0,ar,aw,ay,aH,aq,al,ag,Dl.isInt,Dl.isBool,Dl.isTup,Zc,Zd,Zt,Zu,Zm,Zn,Ze,Zf,Zg,Zh,Zi,Zj,Zk,Zy,Zz,Zx,av,aP,aE,vI,aA,aD,bc,aB,bj,bm,aJ,aV (C:=fun _ j=>0 < j) (i:=a) (j:=m) k]
   . rw [decide_eq_false ha] at hc
     have ea:tkA a m = a:=if_neg ha
     have eb:tkB a b = (b * 48271 + 9973) % 2147483629:=if_neg ha
     have ev:tkV a b m = tkB a b * tkB a b % 2147483587 / 7 % m:=if_neg ha
     rw [ev,ea]
     have b0:=h.b0
     have b1:=h.b1
     have t0:0 <= tkB a b:=by rw [eb];exact Int.emod_nonneg _ (by decide)
     have t1:tkB a b < 2147483629:=by rw [eb];exact Int.emod_lt_of_pos _ (by decide)
     have m1:aY b 48271:=⟨dE (by omega),dE⟩
     have m2:aY (tkB a b) (tkB a b):=⟨dE (by omega),dE (by omega)⟩
     have i1:gIx (pu a b) (.int 1) = some (.int b):=rfl
     have i2:gIx (pu a (tkB a b)) (.int 1) = some (.int (tkB a b)):=rfl
     refine aI (δ':=[some (pu a b),some (.int m),none,none]) (bT hc rfl) (aI (δ':=[some (pu a (tkB a b)),some (.int m),none,none]) ?_ (aI (δ':=[some (pu a (tkB a b)),some (.int m),some (.int (tkB a b * tkB a b % 2147483587)),none]) (bD (bM (d:=.int (tkB a b * tkB a b % 2147483587)) ?_)) (i0 (bM (d:=.int (tkB a b * tkB a b % 2147483587 / 7 % m)) ?_) rfl)))
     . unfold wZ
       rw [bM (d:=.int (tkB a b)) (by rw [eb];simp only [az,aZ,aS,aO,bv,aT,bt,sIf,bw,bE,bF,asL,bu,bx,ae,fC,f2,f1,fT,asB,aN,aK,bn,aL,bH,bC,bz,aj,ac,bh,bo,au,bA,bG,ax,ao,aG,aF,gI0,ar,aw,ay,aH,aq,al,ag,Dl.isInt,Dl.isBool,Dl.isTup,Zc,Zd,Zt,Zu,Zm,Zn,Ze,Zf,Zg,Zh,Zi,Zj,Zk,Zy,Zz,Zx,av,aP,aE,vI,aA,aD,bc,aB,bj,bm,aJ,i1,aV (C:=aY) m1,aV (C:=fun _ j=>0 < j) (i:=b * 48271 + 9973) (j:=2147483629) (by decide)])]
       rfl
     . simp only [az,aZ,aS,aO,bv,aT,bt,sIf,bw,bE,bF,asL,bu,bx,ae,fC,f2,f1,fT,asB,aN,aK,bn,aL,bH,bC,bz,aj,ac,bh,bo,au,bA,bG,ax,ao,aG,aF,gI0,ar,aw,ay,aH,aq,al,ag,Dl.isInt,Dl.isBool,Dl.isTup,Zc,Zd,Zt,Zu,Zm,Zn,Ze,Zf,Zg,Zh,Zi,Zj,Zk,Zy,Zz,Zx,av,aP,aE,vI,aA,aD,bc,aB,bj,bm,aJ,i2,aV (C:=aY) m2,aV (C:=fun _ j=>0 < j) (i:=tkB a b * tkB a b) (j:=2147483587) (by decide)]
     . simp only [az,aZ,aS,aO,bv,aT,bt,sIf,bw,bE,bF,asL,bu,bx,ae,fC,f2,f1,fT,asB,aN,aK,bn,aL,bH,bC,bz,aj,ac,bh,bo,au,bA,bG,ax,ao,aG,aF,gI0,ar,aw,ay,aH,aq,al,ag,Dl.isInt,Dl.isBool,Dl.isTup,Zc,Zd,Zt,Zu,Zm,Zn,Ze,Zf,Zg,Zh,Zi,Zj,Zk,Zy,Zz,Zx,av,aP,aE,vI,aA,aD,bc,aB,bj,bm,aJ,aV (C:=dI) (i:=tkB a b * tkB a b % 2147483587) (j:=7) ⟨by decide,dE⟩,aV (C:=fun _ j=>0 < j) (i:=tkB a b * tkB a b % 2147483587 / 7) (j:=m) k]
theorem iC:aQ ["_law_found"] ["_law_found"] (ak eE):=⟨rfl,rfl,rfl,by decide +kernel,rfl,by decide +kernel,by decide +kernel⟩
theorem mw (F:Fun K "_law_whole" "_law_whole" eE f fd)    (m_isinstance:mg "isinstance" = none) (m_int:mg "int" = none) (m_bool:mg "bool" = none):FnOk P w K mg base CX0 1 f fd ["_law_found"] (cn K 1 (fn cE)):=by
 have sc:=iC
 refine cI F iC (fun cdv A outer s H E ds d hr hG hl=>?_)
 obtain ⟨x,b,h,rfl,rfl⟩:=bI hG
 refine ⟨_,(bL (cj (iT (ca gi (jJ pz) rfl m_isinstance boot_isinstance (ab (aa 0) (ab (mV rfl m_int boot_int) ah))) (iS (vF (ca gi (jJ mW) rfl m_isinstance boot_isinstance (ab (aa 0) (ab (mV rfl m_bool boot_bool) ah)))))))),?_⟩
 . show az ((?f:SD) [some _]) = _
   cases x <;> simp [oq] at h <;> subst h <;> rfl
theorem jT:aQ ["_law_top","_law_bottom","_law_one","_law_other"] ["_law_top","_law_bottom"] (ak gw):=⟨rfl,rfl,rfl,by decide +kernel,rfl,by decide +kernel,by decide +kernel⟩
def loC:FT:=fT (f2 gGt (ae 3) (fC (.int 0)))
def loS:SD:=bw 2 3 (ac (ae 3) (ac (f2 (gI (fun _ j=>0 < j) fun i j=>.int (i % j)) (ae 2) (ae 3)) aj))
theorem tu:∀ (n:Nat) (x y:Int) (u v:Option D),0 <= y->(y = 0->0 <= x)->y.toNat < n->d9 n loC loS [u,v,some (.int x),some (.int y)] = some (.nx [u,v,some (.int (gc x y)),some (.int 0)])
 | 0,x,y,u,v,h0,h1,h2=>by omega
 | n + 1,x,y,u,v,h0,h1,h2=>by
  by_cases h:y = 0
  . subst h
    rw [tL (h1 rfl)]
    rfl
  . have hy:0 < y:=by omega
    have hc:loC [u,v,some (.int x),some (.int y)] = some true:=by
     show some (decide (0 < y)) = some true
     rw [decide_eq_true hy]
    have hs:loS [u,v,some (.int x),some (.int y)] = some (.nx [u,v,some (.int y),some (.int (x % y))]):=by
     unfold loS
     simp only [az,aZ,aS,aO,bv,aT,bt,sIf,bw,bE,bF,asL,bu,bx,ae,fC,f2,f1,fT,asB,aN,aK,bn,aL,bH,bC,bz,aj,ac,bh,bo,au,bA,bG,ax,ao,aG,aF,gI0,ar,aw,ay,aH,aq,al,ag,Dl.isInt,Dl.isBool,Dl.isTup,Zc,Zd,Zt,Zu,Zm,Zn,Ze,Zf,Zg,Zh,Zi,Zj,Zk,Zy,Zz,Zx,av,aP,aE,vI,aA,aD,bc,aB,bj,bm,aJ,aV (C:=fun _ j=>0 < j) (i:=x) hy]
    have ih:=tu n y (x % y) u v (Int.emod_nonneg x h) (fun _=>h0) (by have:=Int.emod_lt_of_pos x hy;omega)
    rw [on] at ih
    rw [oY hc hs]
    exact ih
theorem pC (F:Fun K "_law_low" "_law_low" gw f fd)    (m_abs:mg "abs" = none):FnOk P w K mg base CX0 1 f fd ["_law_top","_law_bottom"] (cn K 2 (fn bO)):=by
 have sc:=jT
 refine cI F jT (fun cdv A outer s H E ds d hr hG hl=>?_)
 obtain ⟨t,b,hb,hB,rfl,rfl⟩:=bI hG
 refine ⟨_,(bS (sy 2 3 rfl sc.nd (ab (ca l6 rH rfl m_abs PyProof.Rows.boot_abs (ab (aa 0) ah)) (ab (aa 1) ah)))
  (bS (mS (b.toNat + 1) PassesOwn.never (nR (aa 3) af)
   (bL (sy 2 3 rfl sc.nd (ab (aa 3) (ab (ej (aa 2) (aa 3)) ah)))))
  (bL (cj (cY (ab (da (aa 0) (aa 2)) (ab (da (aa 1) (aa 2)) ah))))))),?_⟩
 . show az ((?f:SD) [some _,some _,none,none]) = _
   have hg:=eC (t:=t) hb
   have hgB:Bd (gc t b):=t8 (by omega) (tM (t:=t) hb) hB
   have lp:=tu (b.toNat + 1) (t.natAbs:Int) b (some (.int t)) (some (.int b)) (by omega) (by omega) (by omega)
   rw [zV] at lp
   show az ((d9 (b.toNat + 1) loC loS [some (.int t),some (.int b),some (.int (t.natAbs:Int)),some (.int b)]).bind (aS (bv (bh (ac (f2 (gI dI fun i j=>.int (i / j)) (ae 0) (ae 2)) (ac (f2 (gI dI fun i j=>.int (i / j)) (ae 1) (ae 2)) aj)))))) = _
   rw [lp]
   simp only [az,aZ,aS,aO,bv,aT,bt,sIf,bw,bE,bF,asL,bu,bx,ae,fC,f2,f1,fT,asB,aN,aK,bn,aL,bH,bC,bz,aj,ac,bh,bo,au,bA,bG,ax,ao,aG,aF,gI0,ar,aw,ay,aH,aq,al,ag,Dl.isInt,Dl.isBool,Dl.isTup,Zc,Zd,Zt,Zu,Zm,Zn,Ze,Zf,Zg,Zh,Zi,Zj,Zk,Zy,Zz,Zx,av,aP,aE,vI,aA,aD,bc,aB,bj,bm,aJ,aV (C:=dI) (i:=t) ⟨hg,hgB⟩,aV (C:=dI) (i:=b) ⟨hg,hgB⟩]
   rfl
theorem iF:aQ ["_law_some","_law_found","_law_one"] ["_law_some"] (ak eJ):=⟨rfl,rfl,rfl,by decide +kernel,rfl,by decide +kernel,by decide +kernel⟩
def leB:SD:=((sIf (fT (f2 gLt (f2 (gI aY fun i j=>.int (i * j)) (f2 gIx (ae 2) (fC (.int 0))) (f2 gIx (ae 1) (fC (.int 1)))) (f2 (gI aY fun i j=>.int (i * j)) (f2 gIx (ae 1) (fC (.int 0))) (f2 gIx (ae 2) (fC (.int 1)))))) (av 1 (aA 2)) aZ))
theorem xC (q:Int × Int) (r:List (Int × Int)):f2 gIx (ae 0) (fC (.int 0)) [some (.seq ((q :: r).map fr)),none,none] = some (fr q):=by
 show L2.atI (fr q :: r.map fr) ((0:Nat):Int) = some (fr q)
 rw [L2.atI_nat]
 rfl
theorem tD {u:Option D}:∀ (xs:List (Int × Int)) (f:Int × Int) (o:Option D),Fk f->(∀ x ∈ xs,Fk x)->∃ o',Dl.forM 2 leB (xs.map fr) [u,some (fr f),o] = some (.nx [u,some (fr (lsF f xs)),o'])
 | [],f,o,_,_=>⟨o,rfl⟩
 | x :: xs,f,o,hf,hx=>by
  have x0:=hx x Zo
  have m1:aY x.1 f.2:=⟨x0.s1.bd,hf.s2.bd⟩
  have m2:aY f.1 x.2:=⟨hf.s1.bd,x0.s2.bd⟩
  have hc:fT (f2 gLt (f2 (gI aY fun i j=>.int (i * j)) (f2 gIx (ae 2) (fC (.int 0))) (f2 gIx (ae 1) (fC (.int 1)))) (f2 (gI aY fun i j=>.int (i * j)) (f2 gIx (ae 1) (fC (.int 0))) (f2 gIx (ae 2) (fC (.int 1))))) [u,some (fr f),some (fr x)] = some (decide (x.1 * f.2 < f.1 * x.2)):=by
   simp only [az,aZ,aS,aO,bv,aT,bt,sIf,bw,bE,bF,asL,bu,bx,ae,fC,f2,f1,fT,asB,aN,aK,bn,aL,bH,bC,bz,aj,ac,bh,bo,au,bA,bG,ax,ao,aG,aF,gI0,ar,aw,ay,aH,aq,al,ag,Dl.isInt,Dl.isBool,Dl.isTup,Zc,Zd,Zt,Zu,Zm,Zn,Ze,Zf,Zg,Zh,Zi,Zj,Zk,Zy,Zz,Zx,av,aP,aE,vI,aA,aD,bc,aB,bj,bm,aJ,gLt,aV (C:=aY) m1,aV (C:=aY) m2]
  have hb:leB [u,some (fr f),some (fr x)] = some (.nx [u,some (fr (if x.1 * f.2 < f.1 * x.2 then x else f)),some (fr x)]):=by
   by_cases c:x.1 * f.2 < f.1 * x.2
   . rw [if_pos c]
     rw [decide_eq_true c] at hc
     exact dk hc (bD (δ':=[u,some (fr f),some (fr x)]) (d:=fr x) rfl)
   . rw [if_neg c]
     rw [decide_eq_false c] at hc
     exact bT hc rfl
  obtain ⟨o',ih⟩:=tD (u:=u) xs (if x.1 * f.2 < f.1 * x.2 then x else f) (some (fr x)) (by split <;> assumption) fun y m=>hx y (Zp _ m)
  refine ⟨o',?_⟩
  show ((leB [u,some (fr f),some (fr x)]).bind _) = _
  rw [hb]
  exact ih
theorem mD (F:Fun K "_law_least" "_law_least" eJ f fd)    :FnOk P w K mg base CX0 1 f fd ["_law_some"] (bW K 1 (fn eO)):=by
 have sc:=iF
 refine ce F iF (fun cdv A outer s H E ds d hr hG hl=>?_)
 obtain ⟨d0,q,r,h,k,rfl,rfl⟩:=bI hG
 have hown:own (fr (lsF q (q :: r))) = true:=rfl
 refine ⟨_,(aW (bZ 1 sc.nd (be (aU (aa 0) af)))
  (aW (nW 2 sc.nd PassesOwn.never rfl (jh (k6 0))
   (bq (fI (nQ (cC (aU (aa 2) af) (aU (aa 1) af)) (cC (aU (aa 1) af) (aU (aa 2) af))) (bq (bZ 1 sc.nd (bQ 2))) dM)))
  (bq (bU (bQ 1))))),?_,?own⟩
 case own=>first | rfl | exact hown
 . show az ((?f:SD) (bf 3 _)) = _
   have e0:bf 3 [d0] = [some (.seq ((q :: r).map fr)),none,none]:=by
    show [some (sh d0),none,none] = _
    rw [h]
   rw [e0]
   obtain ⟨o',lp⟩:=tD (u:=some (.seq ((q :: r).map fr))) (q :: r) q none (k q Zo) k
   exact dJ (aI (δ':=[some (.seq ((q :: r).map fr)),some (fr q),none]) (bD (bM (d:=fr q) (xC q r))) (aI (kM (nH (d:=.seq ((q :: r).map fr)) rfl (kQ _) (kQ _)) lp) (cw rfl)))
theorem iG:aQ ["_law_most","_law_hands"] ["_law_most","_law_hands"] (ak eK):=⟨rfl,rfl,rfl,by decide +kernel,rfl,by decide +kernel,by decide +kernel⟩
theorem BK {m:Int} {q:Int × Int} {δ:DS} (h:Gr m) (k:Tw q):df 2 [] (gDs [0,1]) (fT (f2 gLe (f2 gIx (ae 1) (fC (.int 0))) (f2 (gI aY fun i j=>.int (i * j)) (ae 0) (f2 gIx (ae 1) (fC (.int 1)))))) (aA 1) δ (.tup [.int m,fr q]) = some (if past m q then none else some (fr q)):=by
 show ((fT (f2 gLe (f2 gIx (ae 1) (fC (.int 0))) (f2 (gI aY fun i j=>.int (i * j)) (ae 0) (f2 gIx (ae 1) (fC (.int 1))))) [some (.int m),some (fr q)]).bind fun b=>if b then (Dl.ownOf (aA 1) (shO [some (.int m),some (fr q)])).map some else some none) = _
 have m1:aY m q.2:=⟨wa h,mM k⟩
 have c:fT (f2 gLe (f2 gIx (ae 1) (fC (.int 0))) (f2 (gI aY fun i j=>.int (i * j)) (ae 0) (f2 gIx (ae 1) (fC (.int 1))))) [some (.int m),some (fr q)] = some (!past m q):=by
  rw [<- oh]
  simp only [az,aZ,aS,aO,bv,aT,bt,sIf,bw,bE,bF,asL,bu,bx,ae,fC,f2,f1,fT,asB,aN,aK,bn,aL,bH,bC,bz,aj,ac,bh,bo,au,bA,bG,ax,ao,aG,aF,gI0,ar,aw,ay,aH,aq,al,ag,Dl.isInt,Dl.isBool,Dl.isTup,Zc,Zd,Zt,Zu,Zm,Zn,Ze,Zf,Zg,Zh,Zi,Zj,Zk,Zy,Zz,Zx,av,aP,aE,vI,aA,aD,bc,aB,bj,bm,aJ,gLe,aV (C:=aY) m1]
 rw [c]
 cases past m q <;> rfl
theorem mE (F:Fun K "_law_known" "_law_known" eK f fd)    (m_zip:mg "zip" = none):FnOk P w K mg base CX0 1 f fd ["_law_most","_law_hands"] (bW K 2 (fn dH)):=by
 have sc:=iG
 refine ce F iG (fun cdv A outer s H E ds d hr hG hl=>?_)
 obtain ⟨d0,d1,ms,qs,h,g,k,rfl,rfl⟩:=bI hG
 have hown:own (.lst ((wi ms qs).map fr)) = true:=cK _
 refine ⟨_,(bq (bU (dB (by exact (gf rfl m_zip (ab (aa 0) (ab (aa 1) ah)))) (T:=["_law_greatest","_law_time_here"]) (N:=["_law_greatest","_law_time_here"]) (js:=[]) (cl:=[]) (fun _ _ _ _ _=>by exact (fJ [0,1] (eg rfl (br (pgN 0 (show List.Nodup (["_law_greatest","_law_time_here"]:List Str) from by decide +kernel)) (br (pgN 1 (show List.Nodup (["_law_greatest","_law_time_here"]:List Str) from by decide +kernel)) c9))))) (dZ [0,1] (by decide)) (fun _ _ _ _ _=>by exact (ko (qA (aU (aa 1) af) (cC (aa 0) (aU (aa 1) af))))) (fun _ _ _ _ _=>by exact (bQ 1)) (by exact CompG.of (T:=["_law_greatest","_law_time_here"]) (Z:=[]) (Y:=[]) (hcl:=(by intro p hp;cases hp)) (hN:=(by intro i y j h1 h2;cases h1)))))),?_,?own⟩
 case own=>first | rfl | exact hown
 . show az ((?f:SD) (bf 2 _)) = _
   have e0:bf 2 [d0,d1] = [some (.seq (ms.map D.int)),some (sh d1)]:=by
    show [some (sh d0),some (sh d1)] = _
    rw [h]
   rw [e0]
   refine dJ (cw (dP (hW (d0:=.seq (ms.map D.int)) (d1:=sh d1) rfl rfl g.it) (qQ ms qs fun m hm q hq=>BK (k.gr m hm) (k.tm q hq)) ?_))
   rw [Zl]
   have:=gO ms qs
   have:=k.le
   omega
theorem mR:aQ ["top","bottom","divisor"] ["top","bottom"] (ak jb):=⟨rfl,rfl,rfl,by decide +kernel,rfl,by decide +kernel,by decide +kernel⟩
theorem uv (F:Fun K "lowest" "lowest" jb f fd)  (hcommon_divisor:Has P w K mg base 1 "common_divisor" ["number","above_nought"] (fn cW))  :FnOk P w K mg base CX0 2 f fd ["top","bottom"] (cn K 2 (fn ma)):=by
 have sc:=mR
 refine cI F mR (fun cdv A outer s H E ds d hr hG hl=>?_)
 obtain ⟨t,b,hb,hB,rfl,rfl⟩:=bI hG
 refine ⟨_,(bS (dW 2 sc.nd (aR hcommon_divisor hr (ab (aa 0) (ab (aa 1) ah))))
  (bL (cj (cY (ab (da (aa 0) (aa 2)) (ab (da (aa 1) (aa 2)) ah)))))),?_⟩
 . show az ((?f:SD) [some _,some _,none]) = _
   have hg:=eC (t:=t) hb
   have hgB:Bd (gc t b):=t8 (by omega) (tM (t:=t) hb) hB
   simp only [az,aZ,aS,aO,bv,aT,bt,sIf,bw,bE,bF,asL,bu,bx,ae,fC,f2,f1,fT,asB,aN,aK,bn,aL,bH,bC,bz,aj,ac,bh,bo,au,bA,bG,ax,ao,aG,aF,gI0,ar,aw,ay,aH,aq,al,ag,Dl.isInt,Dl.isBool,Dl.isTup,Zc,Zd,Zt,Zu,Zm,Zn,Ze,Zf,Zg,Zh,Zi,Zj,Zk,Zy,Zz,Zx,av,aP,aE,vI,aA,aD,bc,aB,bj,bm,aJ,dO (a:=t) hb,aV (C:=dI) (i:=t) ⟨hg,hgB⟩,aV (C:=dI) (i:=b) ⟨hg,hgB⟩]
   rfl
theorem mQ:aQ ["one","top","bottom","shared","part","total","left"] ["one","top","bottom"] (ak ja):=⟨rfl,rfl,rfl,by decide +kernel,rfl,by decide +kernel,by decide +kernel⟩
theorem uu (F:Fun K "summed" "summed" ja f fd)  (hcommon_divisor:Has P w K mg base 1 "common_divisor" ["number","above_nought"] (fn cW))  :FnOk P w K mg base CX0 2 f fd ["one","top","bottom"] (cn K 3 (fn ju)):=by
 have sc:=mQ
 refine cI F mQ (fun cdv A outer s H E ds d hr hG hl=>?_)
 obtain ⟨⟨a,b⟩,⟨c,e⟩,hp,hq,rfl,rfl⟩:=bI hG
 refine ⟨_,(bS (dW 3 sc.nd (aR hcommon_divisor hr (ab (aU (aa 0) af) (ab (aa 2) ah))))
  (bS (dW 4 sc.nd (da (aU (aa 0) af) (aa 3)))
  (bS (dW 5 sc.nd (eT (cC (aU (aa 0) af) (da (aa 2) (aa 3))) (cC (aa 1) (aa 4))))
  (bS (dW 6 sc.nd (aR hcommon_divisor hr (ab (aa 5) (ab (aa 3) ah))))
  (bL (cj (cY (ab (da (aa 5) (aa 6)) (ab (cC (aa 4) (da (aa 2) (aa 6))) ah))))))))),?_⟩
 . show az ((?f:SD) [some _,some _,some _,none,none,none,none]) = _
   have hb:0 < b:=hp.pos
   have he:0 < e:=hq.pos
   have hg:=eC (t:=b) he
   have hgB:Bd (gc b e):=t8 (by omega) (tM (t:=b) he) hq.s2.bd
   have b1:Bd (b / gc b e):=qP hp.s2 hg gY
   have b2:Bd (e / gc b e):=qP hq.s2 hg dY
   have hl:=eC (t:=a * (e / gc b e) + c * (b / gc b e)) hg
   have hlB:Bd (gc (a * (e / gc b e) + c * (b / gc b e)) (gc b e)):=t8 (by omega) (tM (t:=a * (e / gc b e) + c * (b / gc b e)) hg) hgB
   have b3:Bd (e / gc (a * (e / gc b e) + c * (b / gc b e)) (gc b e)):=qP hq.s2 hl (Int.dvd_trans dY dY)
   simp only [az,aZ,aS,aO,bv,aT,bt,sIf,bw,bE,bF,asL,bu,bx,ae,fC,f2,f1,fT,asB,aN,aK,bn,aL,bH,bC,bz,aj,ac,bh,bo,au,bA,bG,ax,ao,aG,aF,gI0,ar,aw,ay,aH,aq,al,ag,Dl.isInt,Dl.isBool,Dl.isTup,Zc,Zd,Zt,Zu,Zm,Zn,Ze,Zf,Zg,Zh,Zi,Zj,Zk,Zy,Zz,Zx,av,aP,aE,vI,aA,aD,bc,aB,bj,bm,aJ,dO (a:=b) he,aV (C:=dI) (i:=b) ⟨hg,hgB⟩,aV (C:=dI) (i:=e) ⟨hg,hgB⟩,aV (C:=aY) (i:=a) (j:=e / gc b e) ⟨hp.s1.bd,b2⟩,aV (C:=aY) (i:=c) (j:=b / gc b e) ⟨hq.s1.bd,b1⟩,
    dO (a:=a * (e / gc b e) + c * (b / gc b e)) hg,aV (C:=dI) (i:=a * (e / gc b e) + c * (b / gc b e)) ⟨hl,hlB⟩,aV (C:=dI) (i:=e) ⟨hl,hlB⟩,aV (C:=aY) (i:=b / gc b e) ⟨b1,b3⟩]
   rfl
theorem fY:aQ ["most","cell","leaving","step"] ["most","cell"] (ak c8):=⟨rfl,rfl,rfl,by decide +kernel,rfl,by decide +kernel,by decide +kernel⟩
theorem BI {m:Int} {c:Int × Int} {δ:DS}:df 2 [] (gDs [0,1]) (fun _=>some true) (vI (aL (f2 c0 (f2 gIx (ae 1) (fC (.int 1))) (fC (.int 0))) (f2 gLt (f2 gIx (ae 1) (fC (.int 0))) (ae 0)))) δ (.tup [.int m,fr c]) = some (some (.bl (decide (c.2 = 0) && decide (c.1 < m)))):=by
 show ((Dl.ownOf (vI (aL (f2 c0 (f2 gIx (ae 1) (fC (.int 1))) (fC (.int 0))) (f2 gLt (f2 gIx (ae 1) (fC (.int 0))) (ae 0)))) [some (.int m),some (fr c)]).map some) = _
 have e:(aL (f2 c0 (f2 gIx (ae 1) (fC (.int 1))) (fC (.int 0))) (f2 gLt (f2 gIx (ae 1) (fC (.int 0))) (ae 0))) [some (.int m),some (fr c)] = some (.bl (decide (c.2 = 0) && decide (c.1 < m))):=by
  have g0:c0 (.int c.2) (.int 0) = some (.bl (c.2 == 0)):=rfl
  by_cases z:c.2 = 0
  . have z':(c.2 == 0) = true:=by simp [z]
    simp only [az,aZ,aS,aO,bv,aT,bt,sIf,bw,bE,bF,asL,bu,bx,ae,fC,f2,f1,fT,asB,aN,aK,bn,aL,bH,bC,bz,aj,ac,bh,bo,au,bA,bG,ax,ao,aG,aF,gI0,ar,aw,ay,aH,aq,al,ag,Dl.isInt,Dl.isBool,Dl.isTup,Zc,Zd,Zt,Zu,Zm,Zn,Ze,Zf,Zg,Zh,Zi,Zj,Zk,Zy,Zz,Zx,av,aP,aE,vI,aA,aD,bc,aB,bj,bm,aJ,g0,z',decide_eq_true z,gLt]
    rfl
  . have z':(c.2 == 0) = false:=by simp [z]
    simp only [az,aZ,aS,aO,bv,aT,bt,sIf,bw,bE,bF,asL,bu,bx,ae,fC,f2,f1,fT,asB,aN,aK,bn,aL,bH,bC,bz,aj,ac,bh,bo,au,bA,bG,ax,ao,aG,aF,gI0,ar,aw,ay,aH,aq,al,ag,Dl.isInt,Dl.isBool,Dl.isTup,Zc,Zd,Zt,Zu,Zm,Zn,Ze,Zf,Zg,Zh,Zi,Zj,Zk,Zy,Zz,Zx,av,aP,aE,vI,aA,aD,bc,aB,bj,bm,aJ,g0,z',decide_eq_false z]
    rfl
 unfold Dl.ownOf
 rw [bM e]
 rfl
theorem BQ {m s:Int} {c:Int × Int} {o0 o1 o2:Option D}:df 2 [3] (gDs [0,1]) (fun _=>some true) (vI (au (fn bN) (ac (ae 0) (ac (ae 1) (ac (ae 2) aj))))) [o0,o1,o2,some (.int s)] (.tup [.int m,fr c]) = some (some (fr (pbm s m c))):=by
 show ((Dl.ownOf (vI (au (fn bN) (ac (ae 0) (ac (ae 1) (ac (ae 2) aj))))) [some (.int m),some (fr c),some (.int s)]).map some) = _
 unfold Dl.ownOf
 rw [bM (d:=fr (pbm s m c)) (by simp only [az,aZ,aS,aO,bv,aT,bt,sIf,bw,bE,bF,asL,bu,bx,ae,fC,f2,f1,fT,asB,aN,aK,bn,aL,bH,bC,bz,aj,ac,bh,bo,au,bA,bG,ax,ao,aG,aF,gI0,ar,aw,ay,aH,aq,al,ag,Dl.isInt,Dl.isBool,Dl.isTup,Zc,Zd,Zt,Zu,Zm,Zn,Ze,Zf,Zg,Zh,Zi,Zj,Zk,Zy,Zz,Zx,av,aP,aE,vI,aA,aD,bc,aB,bj,bm,aJ,gM])]
 rfl
theorem jF (F:Fun K "behind_moment" "behind_moment" c8 f fd)  (hplace_behind_moment:Has P w K mg base 1 "place_behind_moment" ["greatest","place","step"] (fn bN))  (m_any:mg "any" = none) (m_tuple:mg "tuple" = none) (m_zip:mg "zip" = none):FnOk P w K mg base CX0 2 f fd ["most","cell"] (bW K 2 (fn eD)):=by
 have sc:=fY
 refine ce F fY (fun cdv A outer s H E ds d hr hG hl=>?_)
 obtain ⟨d0,ms,cs,h,k,rfl,rfl⟩:=bI hG
 have hown:own (.tup ((bmo ms cs).map fr)) = true:=cK _
 refine ⟨_,(aW (bZ 2 sc.nd (nO (lZ rfl) rG rfl m_any jK (dB (by exact (gf rfl m_zip (ab (aa 0) (ab (aa 1) ah)))) (T:=["greatest","place"]) (N:=["greatest","place"]) (js:=[]) (cl:=[]) (fun _ _ _ _ _=>by exact (fJ [0,1] (eg rfl (br (pgN 0 (show List.Nodup (["greatest","place"]:List Str) from by decide +kernel)) (br (pgN 1 (show List.Nodup (["greatest","place"]:List Str) from by decide +kernel)) c9))))) (dZ [0,1] (by decide)) (fun _ _ _ _ _=>by exact ij) (fun _ _ _ _ _=>by exact (be (iT (lr hr.units (aU (aa 1) af) af) (iS (x8 (aU (aa 1) af) (aa 0)))))) (by exact CompG.of (T:=["greatest","place"]) (Z:=[]) (Y:=[]) (hcl:=(by intro p hp;cases hp)) (hN:=(by intro i y j h1 h2;cases h1))))))
  (aW (bZ 3 sc.nd (be (qJ (dC (aa 2)) af af)))
  (bq (bU (kj d5 g6 rfl m_tuple d6 (dB (by exact (gf rfl m_zip (ab (aa 0) (ab (aa 1) ah)))) (T:=["greatest","place"]) (N:=["greatest","place","step"]) (js:=[3]) (cl:=[("step",_)]) (fun _ _ _ _ _=>by exact (fJ [0,1] (eg rfl (br (pgN 0 (show List.Nodup (["greatest","place","step"]:List Str) from by decide +kernel)) (br (pgN 1 (show List.Nodup (["greatest","place","step"]:List Str) from by decide +kernel)) c9))))) (dZ [0,1] (by decide)) (fun _ _ _ _ _=>by exact ij) (fun _ _ _ _ _=>by exact (be (aR hplace_behind_moment hr (ab (aa 0) (ab (aa 1) (ab (aa 2) ah)))))) (by exact CompG.of (T:=["greatest","place"]) (Z:=["step"]) (Y:=["step"]) (hcl:=(by intro p hp;simp only [Zs,List.not_mem_nil,or_false] at hp;subst hp;rfl)) (hN:=(by intro i y j h1 h2;match i,h1,h2 with | 0,h1,h2=>cases h1;cases h2;exact ⟨rfl,rfl,rfl⟩ | n + 1,h1,h2=>cases h1))))))))),?_,?own⟩
 case own=>first | rfl | exact hown
 . show az ((?f:SD) (bf 4 _)) = _
   have e0:bf 4 [d0,.tup (cs.map fr)] = [some (.seq (ms.map D.int)),some (.tup (cs.map fr)),none,none]:=by
    show [some (sh d0),some (sh (.tup (cs.map fr))),none,none] = _
    rw [h,jx]
   rw [e0]
   have l1:=sZ ms cs
   have l2:=rS (s:=if lvg ms cs then 1 else 0) ms cs
   refine dJ (aI (δ':=[some (.seq (ms.map D.int)),some (.tup (cs.map fr)),some (.bl (lvg ms cs)),none]) (bD (jM (dP (hW (d0:=.seq (ms.map D.int)) (d1:=.tup (cs.map fr)) rfl rfl rfl) (sW ms cs fun m hm c hc=>BI) ?_) ?_ rfl)) (aI (δ':=[some (.seq (ms.map D.int)),some (.tup (cs.map fr)),some (.bl (lvg ms cs)),some (.int (if lvg ms cs then 1 else 0))]) (bD (bM (d:=.int (if lvg ms cs then 1 else 0)) ?_)) (cw (jM (dP (hW (d0:=.seq (ms.map D.int)) (d1:=.tup (cs.map fr)) rfl rfl rfl) (xs:=(bmo ms cs).map fr) (sV ms cs fun m hm c hc=>BQ) ?_) rfl (fL _)))))
   . rw [Zl];omega
   . show ((cL ((lvL ms cs).map D.bl)).bind fun bs=>some (D.bl (bs.any id))) = _
     rw [jr,<- s8]
     rfl
   . simp only [az,aZ,aS,aO,bv,aT,bt,sIf,bw,bE,bF,asL,bu,bx,ae,fC,f2,f1,fT,asB,aN,aK,bn,aL,bH,bC,bz,aj,ac,bh,bo,au,bA,bG,ax,ao,aG,aF,gI0,ar,aw,ay,aH,aq,al,ag,Dl.isInt,Dl.isBool,Dl.isTup,Zc,Zd,Zt,Zu,Zm,Zn,Ze,Zf,Zg,Zh,Zi,Zj,Zk,Zy,Zz,Zx,av,aP,aE,vI,aA,aD,bc,aB,bj,bm,aJ,fIf]
     cases lvg ms cs <;> rfl
   . unfold bmo
     rw [Zl];omega
theorem jS:aQ ["_law_one","_law_other"] ["_law_one","_law_other"] (ak gv):=⟨rfl,rfl,rfl,by decide +kernel,rfl,by decide +kernel,by decide +kernel⟩
theorem wH {x y:Int} (h:Md x) (k:Md y):Bd (x * y):=(Sm.mul h k).mono (l:=9000) (by decide)
theorem pB (F:Fun K "_law_sum" "_law_sum" gv f fd)  (hLlow:Has P w K mg base 1 "_law_low" ["_law_top","_law_bottom"] (fn bO))  :FnOk P w K mg base CX0 2 f fd ["_law_one","_law_other"] (cn K 2 (fn gH)):=by
 have sc:=jS
 refine cI F jS (fun cdv A outer s H E ds d hr hG hl=>?_)
 obtain ⟨⟨a,b⟩,⟨c,e⟩,h,k,rfl,rfl⟩:=bI hG
 refine ⟨_,(bL (cj (aR hLlow hr (ab (eT (cC (aU (aa 0) af) (aU (aa 1) af)) (cC (aU (aa 1) af) (aU (aa 0) af))) (ab (cC (aU (aa 0) af) (aU (aa 1) af)) ah))))),?_⟩
 . show az ((?f:SD) [some _,some _]) = _
   have pb:=Int.mul_pos h.pos k.pos
   have bb:Bd (b * e):=wH h.s2 k.s2
   have m1:aY a e:=⟨h.s1.bd,k.s2.bd⟩
   have m2:aY c b:=⟨k.s1.bd,h.s2.bd⟩
   have m3:aY b e:=⟨h.s2.bd,k.s2.bd⟩
   simp only [az,aZ,aS,aO,bv,aT,bt,sIf,bw,bE,bF,asL,bu,bx,ae,fC,f2,f1,fT,asB,aN,aK,bn,aL,bH,bC,bz,aj,ac,bh,bo,au,bA,bG,ax,ao,aG,aF,gI0,ar,aw,ay,aH,aq,al,ag,Dl.isInt,Dl.isBool,Dl.isTup,Zc,Zd,Zt,Zu,Zm,Zn,Ze,Zf,Zg,Zh,Zi,Zj,Zk,Zy,Zz,Zx,av,aP,aE,vI,aA,aD,bc,aB,bj,bm,aJ,aV (C:=aY) m1,aV (C:=aY) m2,aV (C:=aY) m3,eX (t:=a * e + c * b) pb bb]
   rfl
theorem i7:aQ ["_law_purse_here","_law_most","_law_hands","_law_kind","_law_whole_here","_law_share","_law_bottom","_law_far","_law_top"] ["_law_purse_here","_law_most","_law_hands"] (ak fE):=⟨rfl,rfl,rfl,by decide +kernel,rfl,by decide +kernel,by decide +kernel⟩
theorem n6 (F:Fun K "_law_time" "_law_time" fE f fd)  (hLtake:me P w K mg base 1 "_law_take" ["_law_purse_here","_law_many"] (fnM aM)) (hLlow:Has P w K mg base 1 "_law_low" ["_law_top","_law_bottom"] (fn bO))  (m_len:mg "len" = none):FnOk P w K mg base CX0 2 f fd ["_law_purse_here","_law_most","_law_hands"] (oQ K 3 (fnM cB)):=by
 have sc:=i7
 refine jf F i7 (fun cdv A outer s H E Z d0 es d0' r hr zk hG hl=>?_)
 obtain ⟨d1,fs,h1,h2⟩:=kB hG
 cases h1
 refine ⟨_,(cz (eR 3 zk sc.nd (cH 0 hLtake hr (db af cJ)))
  (cz (eR 4 zk sc.nd (cH 0 hLtake hr (db (eT (aa 1) af) cJ)))
  (cz (eR 5 zk sc.nd (fH (be (cY (ab af (ab af ah))))))
  (cz (ss (ii hr.units (aa 3) af) (cz (eR 6 zk sc.nd (yU (fH (be af)) (cH 0 hLtake hr (db af cJ))))
   (gx (eR 5 zk sc.nd (vk (eQ (cH 0 hLtake hr (db (aa 6) cJ)) (eQ (fH (bQ 6)) kh)))))) nP)
  (cz (ss (ii hr.units (aa 3) af) (cz (eR 7 zk sc.nd (vm (fH (iP (cF (be (vE af af)) (cF (be (vE af af)) dz)))) (cH 0 hLtake hr (db af cJ))))
   (gx (eR 5 zk sc.nd (vk (eQ (cH 0 hLtake hr (db (aa 7) cJ)) (eQ (fH (bQ 7)) kh)))))) nP)
  (cz (ss (PWD.pt (kg (ii hr.units (aa 3) af) (k4 (km hr.units (aa 2) (qI ah))))) (cz (AO [8,6] zk (vm (fH (bQ 2)) (cH 0 hLtake hr (db (ca dD lY rfl m_len PySem.boot_len (ab (aa 2) ah)) cJ))) (eg rfl (br (pgN 8 sc.nd) (br (pgN 6 sc.nd) c9))))
   (gx (eR 5 zk sc.nd (fH (be (cY (ab (ej (aa 8) (aa 6)) (ab (aa 6) ah)))))))) nP)
  (gx (k8 (fH (be (aR hLlow hr (ab (eT (cC (aa 4) (aU (aa 5) af)) (aU (aa 5) af)) (ab (aU (aa 5) af) ah))))))))))))),?_⟩
 . rw [show (["_law_purse_here","_law_most","_law_hands","_law_kind","_law_whole_here","_law_share","_law_bottom","_law_far","_law_top"]:List Str).length = 9 from rfl]
   exact h2
theorem gK:aQ ["_law_purse_here"] ["_law_purse_here"] (ak dw):=⟨rfl,rfl,rfl,by decide +kernel,rfl,by decide +kernel,by decide +kernel⟩
theorem j6 (F:Fun K "_law_numbers" "_law_numbers" dw f fd)  (hLtake:me P w K mg base 1 "_law_take" ["_law_purse_here","_law_many"] (fnM aM))  (m_range:mg "range" = none):FnOk P w K mg base CX0 2 f fd ["_law_purse_here"] (oQ K 1 (fnM cP)):=by
 have sc:=gK
 refine jf F gK (fun cdv A outer s H E Z d0 es d0' r hr zk hG hl=>?_)
 obtain ⟨d1,fs,h1,h2⟩:=kB hG
 cases h1
 refine ⟨_,(gx (k8 (w9 0 (by exact (uo rfl m_range (eQ (cH 0 hLtake hr (db af cJ)) kh))) (N:=["_law_k","_law_purse_here"]) (cl:=[("_law_purse_here",_)]) (fun _ _ _ _ _=>by exact (vm (yR (eQ (cH 1 hLtake hr (db af cJ)) (eQ (cH 1 hLtake hr (db af cJ)) kh))) (cH 1 hLtake hr (db af cJ)))) (by exact CompOk.one)))),?_⟩
 . rw [show (["_law_purse_here"]:List Str).length = 1 from rfl]
   exact h2
theorem i9:aQ ["_law_most","_law_hands","_law_shares","_law_found","_law_greatest","_law_time_here","_law_share","_law_rank","_law_pair"] ["_law_most","_law_hands"] (ak fG):=⟨rfl,rfl,rfl,by decide +kernel,rfl,by decide +kernel,by decide +kernel⟩
def lcA:SD:=((aO (av 6 (vI (au (fn bO) (ac (f2 (gI (fun _ j=>0 < j) fun i j=>.int (i % j)) (f2 gIx (ae 5) (fC (.int 0))) (f2 gIx (ae 5) (fC (.int 1)))) (ac (f2 gIx (ae 5) (fC (.int 1))) aj))))) (sIf (aK (fT (f2 gLe (f2 gIx (ae 5) (fC (.int 0))) (f2 (gI aY fun i j=>.int (i * j)) (ae 4) (f2 gIx (ae 5) (fC (.int 1)))))) (aK (fT (f2 gD (ae 6) (bh (ac (fC (.int 0)) (ac (fC (.int 1)) aj))))) (fT (f2 dX (ae 6) (ae 2))))) (jd 2 (aA 6)) aZ)))
def lcB:SD:=((aO (av 6 (vI (bh (ac (f2 (gI (fun _ j=>0 < j) fun i j=>.int (i % j)) (f2 gIx (ae 5) (fC (.int 0))) (f2 gIx (ae 5) (fC (.int 1)))) (ac (f2 gIx (ae 5) (fC (.int 1))) aj))))) (aO (av 7 (qv ot (gP (fun δ=>((ae 2) δ).bind asL) 1 [6] (bu 0) (fT (f2 gLe (f2 (gI aY fun i j=>.int (i * j)) (f2 gIx (ae 0) (fC (.int 0))) (f2 gIx (ae 1) (fC (.int 1)))) (f2 (gI aY fun i j=>.int (i * j)) (f2 gIx (ae 1) (fC (.int 0))) (f2 gIx (ae 0) (fC (.int 1)))))) (aA 0)))) (aO (av 8 (vI (bh (ac (f2 (gI dI fun i j=>.int (i / j)) (f2 gIx (ae 5) (fC (.int 0))) (f2 gIx (ae 5) (fC (.int 1)))) (ac (ae 7) aj))))) (aO (sIf (fT (f2 gGt (f2 gIx (ae 5) (fC (.int 0))) (f2 (gI aY fun i j=>.int (i * j)) (ae 4) (f2 gIx (ae 5) (fC (.int 1)))))) (av 8 (vI (bh (ac (f2 jH (ae 4) (fC (.int 1))) (ac (fC (.int 0)) aj))))) aZ) (jd 3 (aA 8)))))))
theorem A4 {u0 u1 u3 u7 u8:Option D}:∀ (ms:List Int) (qs ps:List (Int × Int)) (o4 o5 o6:Option D),(∀ m ∈ ms,Gr m)->(∀ q ∈ qs,Tw q)->ps.length + qs.length <= 4->∃ o4' o5' o6',pS (gTs [4,5]) lcA (List.zipWith (fun d e=>D.tup [d,e]) (ms.map D.int) (qs.map fr)) [u0,u1,some (.lst (ps.map fr)),u3,o4,o5,o6,u7,u8] = some (.nx [u0,u1,some (.lst ((dst ps (wi ms qs)).map fr)),u3,o4',o5',o6',u7,u8])
 | [],qs,ps,o4,o5,o6,_,_,_=>⟨o4,o5,o6,rfl⟩
 | m :: ms,[],ps,o4,o5,o6,_,_,_=>⟨o4,o5,o6,rfl⟩
 | m :: ms,q :: qs,ps,o4,o5,o6,hm,hq,l=>by
  simp only [Zm] at l
  have gm:=hm m Zo
  have tq:=hq q Zo
  have p0:=tq.lw.pos
  have m1:aY m q.2:=⟨wa gm,mM tq⟩
  have lw:fn bO [.int (q.1 % q.2),.int q.2] = some (fr (bp q)):=by rw [<- x4 tq.lw];exact eX p0 (mM tq)
  have ne:gD (fr (bp q)) (.tup [.int 0,.int 1]) = some (.bl (!decide (bp q = (0,1)))):=sP (bp q) (0,1)
  have ni:=sM (bp q) ps
  have hb:lcA [u0,u1,some (.lst (ps.map fr)),u3,some (.int m),some (fr q),o6,u7,u8] = some (.nx [u0,u1,some (.lst ((if past m q then ps else fV ps (bp q)).map fr)),u3,some (.int m),some (fr q),some (fr (bp q)),u7,u8]):=by
   refine aI (δ':=[u0,u1,some (.lst (ps.map fr)),u3,some (.int m),some (fr q),some (fr (bp q)),u7,u8]) (bD (bM (d:=fr (bp q)) ?_)) ?_
   . simp only [az,aZ,aS,aO,bv,aT,bt,sIf,bw,bE,bF,asL,bu,bx,ae,fC,f2,f1,fT,asB,aN,aK,bn,aL,bH,bC,bz,aj,ac,bh,bo,au,bA,bG,ax,ao,aG,aF,gI0,ar,aw,ay,aH,aq,al,ag,Dl.isInt,Dl.isBool,Dl.isTup,Zc,Zd,Zt,Zu,Zm,Zn,Ze,Zf,Zg,Zh,Zi,Zj,Zk,Zy,Zz,Zx,av,aP,aE,vI,aA,aD,bc,aB,bj,bm,aJ,aV (C:=fun _ j=>0 < j) (i:=q.1) (j:=q.2) p0,lw]
   . cases hp:past m q with
     | true =>
      rw [if_pos rfl]
      refine bT ?_ rfl
      have:decide (q.1 <= m * q.2) = false:=by rw [oh,hp];rfl
      simp only [az,aZ,aS,aO,bv,aT,bt,sIf,bw,bE,bF,asL,bu,bx,ae,fC,f2,f1,fT,asB,aN,aK,bn,aL,bH,bC,bz,aj,ac,bh,bo,au,bA,bG,ax,ao,aG,aF,gI0,ar,aw,ay,aH,aq,al,ag,Dl.isInt,Dl.isBool,Dl.isTup,Zc,Zd,Zt,Zu,Zm,Zn,Ze,Zf,Zg,Zh,Zi,Zj,Zk,Zy,Zz,Zx,av,aP,aE,vI,aA,aD,bc,aB,bj,bm,aJ,gLe,aV (C:=aY) m1,this]
      try rfl
     | false =>
      rw [if_neg Bool.false_ne_true]
      have h1:decide (q.1 <= m * q.2) = true:=by rw [oh,hp];rfl
      have hc:aK (fT (f2 gLe (f2 gIx (ae 5) (fC (.int 0))) (f2 (gI aY fun i j=>.int (i * j)) (ae 4) (f2 gIx (ae 5) (fC (.int 1)))))) (aK (fT (f2 gD (ae 6) (bh (ac (fC (.int 0)) (ac (fC (.int 1)) aj))))) (fT (f2 dX (ae 6) (ae 2)))) [u0,u1,some (.lst (ps.map fr)),u3,some (.int m),some (fr q),some (fr (bp q)),u7,u8] = some (!decide (bp q = (0,1)) && !ps.contains (bp q)):=by
       by_cases e:bp q = (0,1)
       . simp only [az,aZ,aS,aO,bv,aT,bt,sIf,bw,bE,bF,asL,bu,bx,ae,fC,f2,f1,fT,asB,aN,aK,bn,aL,bH,bC,bz,aj,ac,bh,bo,au,bA,bG,ax,ao,aG,aF,gI0,ar,aw,ay,aH,aq,al,ag,Dl.isInt,Dl.isBool,Dl.isTup,Zc,Zd,Zt,Zu,Zm,Zn,Ze,Zf,Zg,Zh,Zi,Zj,Zk,Zy,Zz,Zx,av,aP,aE,vI,aA,aD,bc,aB,bj,bm,aJ,gLe,aV (C:=aY) m1,h1,ne,ni,e,decide_true]
         try rfl
       . have e':decide (bp q = (0,1)) = false:=decide_eq_false e
         simp only [az,aZ,aS,aO,bv,aT,bt,sIf,bw,bE,bF,asL,bu,bx,ae,fC,f2,f1,fT,asB,aN,aK,bn,aL,bH,bC,bz,aj,ac,bh,bo,au,bA,bG,ax,ao,aG,aF,gI0,ar,aw,ay,aH,aq,al,ag,Dl.isInt,Dl.isBool,Dl.isTup,Zc,Zd,Zt,Zu,Zm,Zn,Ze,Zf,Zg,Zh,Zi,Zj,Zk,Zy,Zz,Zx,av,aP,aE,vI,aA,aD,bc,aB,bj,bm,aJ,gLe,aV (C:=aY) m1,h1,ne,ni,e',Bool.true_and]
         try rfl
      unfold fV
      split
      . rename_i c
        rw [c] at hc
        refine dk hc ?_
        rw [List.map_append]
        exact nI (xs:=ps.map fr) (ds:=ps.map fr) (δ':=[u0,u1,some (.lst (ps.map fr)),u3,some (.int m),some (fr q),some (fr (bp q)),u7,u8]) rfl (d:=fr (bp q)) rfl rfl (by rw [Zl];omega)
      . rename_i c
        rw [Bool.not_eq_true] at c
        rw [c] at hc
        exact bT hc rfl
  have le2:(if past m q then ps else fV ps (bp q)).length <= ps.length + 1:=by
   split
   . omega
   . exact l9
  obtain ⟨o4',o5',o6',ih⟩:=A4 (u0:=u0) (u1:=u1) (u3:=u3) (u7:=u7) (u8:=u8) ms qs (if past m q then ps else fV ps (bp q)) (some (.int m)) (some (fr q)) (some (fr (bp q))) (fun x h=>hm x (Zp _ h)) (fun x h=>hq x (Zp _ h)) (by omega)
  refine ⟨o4',o5',o6',?_⟩
  have ed:dst ps (wi (m :: ms) (q :: qs)) = dst (if past m q then ps else fV ps (bp q)) (wi ms qs):=by
   rw [rT]
   cases past m q <;> rfl
  rw [ed]
  show ((lcA [u0,u1,some (.lst (ps.map fr)),u3,some (.int m),some (fr q),o6,u7,u8]).bind _) = _
  rw [hb]
  exact ih
theorem xz {δ0 δ1 δ2 δ3 δ4 δ5 δ7 δ8:Option D} {t p:Int × Int} (h:Tw t) (k:Fk p):df 1 [6] (bu 0) (fT (f2 gLe (f2 (gI aY fun i j=>.int (i * j)) (f2 gIx (ae 0) (fC (.int 0))) (f2 gIx (ae 1) (fC (.int 1)))) (f2 (gI aY fun i j=>.int (i * j)) (f2 gIx (ae 1) (fC (.int 0))) (f2 gIx (ae 0) (fC (.int 1)))))) (aA 0) [δ0,δ1,δ2,δ3,δ4,δ5,some (fr (bp t)),δ7,δ8] (fr p) = some (if decide (p.1 * t.2 <= t.1 % t.2 * p.2) then some (fr p) else none):=by
 have f:=tmB h
 have c:fT (f2 gLe (f2 (gI aY fun i j=>.int (i * j)) (f2 gIx (ae 0) (fC (.int 0))) (f2 gIx (ae 1) (fC (.int 1)))) (f2 (gI aY fun i j=>.int (i * j)) (f2 gIx (ae 1) (fC (.int 0))) (f2 gIx (ae 0) (fC (.int 1))))) [some (fr p),some (fr (bp t))] = some (decide (p.1 * t.2 <= t.1 % t.2 * p.2)):=by
  have m1:aY p.1 (bp t).2:=⟨k.s1.bd,f.s2.bd⟩
  have m2:aY (bp t).1 p.2:=⟨f.s1.bd,k.s2.bd⟩
  simp only [az,aZ,aS,aO,bv,aT,bt,sIf,bw,bE,bF,asL,bu,bx,ae,fC,f2,f1,fT,asB,aN,aK,bn,aL,bH,bC,bz,aj,ac,bh,bo,au,bA,bG,ax,ao,aG,aF,gI0,ar,aw,ay,aH,aq,al,ag,Dl.isInt,Dl.isBool,Dl.isTup,Zc,Zd,Zt,Zu,Zm,Zn,Ze,Zf,Zg,Zh,Zi,Zj,Zk,Zy,Zz,Zx,av,aP,aE,vI,aA,aD,bc,aB,bj,bm,aJ,gLe,aV (C:=aY) m1,aV (C:=aY) m2]
  rfl
 show ((fT (f2 gLe (f2 (gI aY fun i j=>.int (i * j)) (f2 gIx (ae 0) (fC (.int 0))) (f2 gIx (ae 1) (fC (.int 1)))) (f2 (gI aY fun i j=>.int (i * j)) (f2 gIx (ae 1) (fC (.int 0))) (f2 gIx (ae 0) (fC (.int 1))))) [some (fr p),some (fr (bp t))]).bind fun b=>if b then (Dl.ownOf (aA 0) (shO [some (fr p),some (fr (bp t))])).map some else some none) = _
 rw [c]
 cases decide (p.1 * t.2 <= t.1 % t.2 * p.2) <;> rfl
theorem AZ {u0 u1:Option D} {ps:List (Int × Int)} (hp:∀ p ∈ ps,Fk p) (lp:ps.length <= 4):∀ (ms:List Int) (qs cs:List (Int × Int)) (o4 o5 o6 o7 o8:Option D),(∀ m ∈ ms,Gr m)->(∀ q ∈ qs,Tw q)->cs.length + qs.length <= 4->∃ o4' o5' o6' o7' o8',pS (gTs [4,5]) lcB (List.zipWith (fun d e=>D.tup [d,e]) (ms.map D.int) (qs.map fr)) [u0,u1,some (.lst (ps.map fr)),some (.lst (cs.map fr)),o4,o5,o6,o7,o8] = some (.nx [u0,u1,some (.lst (ps.map fr)),some (.lst ((cs ++ cls ps ms qs).map fr)),o4',o5',o6',o7',o8'])
 | [],qs,cs,o4,o5,o6,o7,o8,_,_,_=>⟨o4,o5,o6,o7,o8,by show _ = some (Res.nx [u0,u1,some (.lst (ps.map fr)),some (.lst ((cs ++ []).map fr)),o4,o5,o6,o7,o8]);rw [Zk];rfl⟩
 | m :: ms,[],cs,o4,o5,o6,o7,o8,_,_,_=>⟨o4,o5,o6,o7,o8,by show _ = some (Res.nx [u0,u1,some (.lst (ps.map fr)),some (.lst ((cs ++ []).map fr)),o4,o5,o6,o7,o8]);rw [Zk];rfl⟩
 | m :: ms,q :: qs,cs,o4,o5,o6,o7,o8,hm,hq,l=>by
  simp only [Zm] at l
  have gm:=hm m Zo
  have tq:=hq q Zo
  have p0:=tq.lw.pos
  have m1:aY m q.2:=⟨wa gm,mM tq⟩
  have hb:∃ o8',lcB [u0,u1,some (.lst (ps.map fr)),some (.lst (cs.map fr)),some (.int m),some (fr q),o6,o7,o8] = some (.nx [u0,u1,some (.lst (ps.map fr)),some (.lst ((cs ++ [plc ps m q]).map fr)),some (.int m),some (fr q),some (fr (bp q)),some (.int (rk ps q)),o8']):=by
   refine ⟨some (fr (plc ps m q)),?_⟩
   refine aI (δ':=[u0,u1,some (.lst (ps.map fr)),some (.lst (cs.map fr)),some (.int m),some (fr q),some (fr (bp q)),o7,o8]) (bD (bM (d:=fr (bp q)) ?_)) (aI (δ':=[u0,u1,some (.lst (ps.map fr)),some (.lst (cs.map fr)),some (.int m),some (fr q),some (fr (bp q)),some (.int (rk ps q)),o8]) (bD (jM (d:=.lst ((ps.filter fun p=>decide (p.1 * q.2 <= q.1 % q.2 * p.2)).map fr)) (dP (ds:=ps.map fr) rfl (gX (fun p=>decide (p.1 * q.2 <= q.1 % q.2 * p.2)) ps fun p hm=>xz tq (hp p hm)) ?_) ?_ rfl)) (aI (δ':=[u0,u1,some (.lst (ps.map fr)),some (.lst (cs.map fr)),some (.int m),some (fr q),some (fr (bp q)),some (.int (rk ps q)),some (fr (q.1 / q.2,(rk ps q:Int)))]) (bD (bM (d:=fr (q.1 / q.2,(rk ps q:Int))) ?_)) (aI (δ':=[u0,u1,some (.lst (ps.map fr)),some (.lst (cs.map fr)),some (.int m),some (fr q),some (fr (bp q)),some (.int (rk ps q)),some (fr (plc ps m q))]) ?_ ?_)))
   . simp only [az,aZ,aS,aO,bv,aT,bt,sIf,bw,bE,bF,asL,bu,bx,ae,fC,f2,f1,fT,asB,aN,aK,bn,aL,bH,bC,bz,aj,ac,bh,bo,au,bA,bG,ax,ao,aG,aF,gI0,ar,aw,ay,aH,aq,al,ag,Dl.isInt,Dl.isBool,Dl.isTup,Zc,Zd,Zt,Zu,Zm,Zn,Ze,Zf,Zg,Zh,Zi,Zj,Zk,Zy,Zz,Zx,av,aP,aE,vI,aA,aD,bc,aB,bj,bm,aJ,aV (C:=fun _ j=>0 < j) (i:=q.1) (j:=q.2) p0]
     rfl
   . rw [Zl]
     have:=List.length_filter_le (fun p=>decide (p.1 * q.2 <= q.1 % q.2 * p.2)) ps
     omega
   . show some (D.int ((List.map fr (ps.filter fun p=>decide (p.1 * q.2 <= q.1 % q.2 * p.2))).length:Nat)) = _
     rw [Zl]
     rfl
   . simp only [az,aZ,aS,aO,bv,aT,bt,sIf,bw,bE,bF,asL,bu,bx,ae,fC,f2,f1,fT,asB,aN,aK,bn,aL,bH,bC,bz,aj,ac,bh,bo,au,bA,bG,ax,ao,aG,aF,gI0,ar,aw,ay,aH,aq,al,ag,Dl.isInt,Dl.isBool,Dl.isTup,Zc,Zd,Zt,Zu,Zm,Zn,Ze,Zf,Zg,Zh,Zi,Zj,Zk,Zy,Zz,Zx,av,aP,aE,vI,aA,aD,bc,aB,bj,bm,aJ,aV (C:=dI) (i:=q.1) (j:=q.2) ⟨p0,mM tq⟩]
   . have hc:fT (f2 gGt (f2 gIx (ae 5) (fC (.int 0))) (f2 (gI aY fun i j=>.int (i * j)) (ae 4) (f2 gIx (ae 5) (fC (.int 1))))) [u0,u1,some (.lst (ps.map fr)),some (.lst (cs.map fr)),some (.int m),some (fr q),some (fr (bp q)),some (.int (rk ps q)),some (fr (q.1 / q.2,(rk ps q:Int)))] = some (past m q):=by
      simp only [az,aZ,aS,aO,bv,aT,bt,sIf,bw,bE,bF,asL,bu,bx,ae,fC,f2,f1,fT,asB,aN,aK,bn,aL,bH,bC,bz,aj,ac,bh,bo,au,bA,bG,ax,ao,aG,aF,gI0,ar,aw,ay,aH,aq,al,ag,Dl.isInt,Dl.isBool,Dl.isTup,Zc,Zd,Zt,Zu,Zm,Zn,Ze,Zf,Zg,Zh,Zi,Zj,Zk,Zy,Zz,Zx,av,aP,aE,vI,aA,aD,bc,aB,bj,bm,aJ,gGt,gLt,aV (C:=aY) m1]
      rfl
     unfold plc
     cases hpq:past m q with
     | true =>
      rw [hpq] at hc
      rw [if_pos rfl]
      exact dk hc (bD (bM (d:=fr (m + 1,0)) rfl))
     | false =>
      rw [hpq] at hc
      rw [if_neg Bool.false_ne_true]
      exact bT hc rfl
   . rw [List.map_append]
     exact nI (xs:=cs.map fr) (ds:=cs.map fr) (δ':=[u0,u1,some (.lst (ps.map fr)),some (.lst (cs.map fr)),some (.int m),some (fr q),some (fr (bp q)),some (.int (rk ps q)),some (fr (plc ps m q))]) rfl (d:=fr (plc ps m q)) rfl rfl (by rw [Zl];omega)
  obtain ⟨o8',hb⟩:=hb
  obtain ⟨p4,p5,p6,p7,p8,ih⟩:=AZ (u0:=u0) (u1:=u1) hp lp ms qs (cs ++ [plc ps m q]) (some (.int m)) (some (fr q)) (some (fr (bp q))) (some (.int (rk ps q))) o8' (fun x h=>hm x (Zp _ h)) (fun x h=>hq x (Zp _ h)) (by simp;omega)
  refine ⟨p4,p5,p6,p7,p8,?_⟩
  rw [List.append_assoc] at ih
  show ((lcB [u0,u1,some (.lst (ps.map fr)),some (.lst (cs.map fr)),some (.int m),some (fr q),o6,o7,o8]).bind _) = _
  rw [hb]
  exact ih
theorem oP {δ:DS} {d0 d1:D} {ms:List Int} {qs:List (Int × Int)} (a:δ[0]? = some (some (.seq (ms.map D.int)))) (b:δ[1]? = some (some (sh d1))) (h:Hs d1 qs):rX (aA 0) (aA 1) δ = some (List.zipWith (fun d e=>D.tup [d,e]) (ms.map D.int) (qs.map fr),δ):=by
 unfold rX
 have e1:aA 0 δ = some (.seq (ms.map D.int),δ):=by unfold aA;rw [a]
 rw [e1]
 dsimp only [Option.bind_some]
 rw [h.nm b]
 dsimp only [Option.bind_some]
 rw [h.si]
 rfl
theorem n9 (F:Fun K "_law_cell" "_law_cell" fG f fd)  (hLlow:Has P w K mg base 1 "_law_low" ["_law_top","_law_bottom"] (fn bO))  (m_zip:mg "zip" = none) (m_tuple:mg "tuple" = none) (m_len:mg "len" = none):FnOk P w K mg base CX0 2 f fd ["_law_most","_law_hands"] (bW K 2 (fn d7)):=by
 have sc:=i9
 refine ce F i9 (fun cdv A outer s H E ds d hr hG hl=>?_)
 obtain ⟨d0,d1,ms,qs,h,g,k,rfl,rfl⟩:=bI hG
 have hown:own (.tup ((cel ms qs).map fr)) = true:=cK _
 refine ⟨_,(aW (bZ 2 sc.nd (iP dz))
  (aW (sC PassesOwn.never rfl (eg rfl (br (pgN 4 sc.nd) (br (pgN 5 sc.nd) c9))) (tK [4,5]) (ph rfl m_zip (cF (bQ 0) (cF (bQ 1) dz)))
   (aW (bZ 6 sc.nd (be (aR hLlow hr (ab (ej (aU (aa 5) af) (aU (aa 5) af)) (ab (aU (aa 5) af) ah)))))
   (bq (fI (PWD.pt (kg (qA (aU (aa 5) af) (cC (aa 4) (aU (aa 5) af))) (kg (km hr.units (aa 6) (cY (ab af (ab af ah)))) (k4 (lc hr.units (aa 6) (aa 2)))))) (bq (qE 2 (sI PySem.F.plainAttrs_list PySem.F.slot_list_append PySem.F.type_list_append io (pvi 2) (cV (bQ 6) eU)))) dM))))
  (aW (bZ 3 sc.nd (iP dz))
  (aW (sC PassesOwn.never rfl (eg rfl (br (pgN 4 sc.nd) (br (pgN 5 sc.nd) c9))) (tK [4,5]) (ph rfl m_zip (cF (bQ 0) (cF (bQ 1) dz)))
   (aW (bZ 6 sc.nd (be (cY (ab (ej (aU (aa 5) af) (aU (aa 5) af)) (ab (aU (aa 5) af) ah)))))
   (aW (bZ 7 sc.nd (nO dD lY rfl m_len PySem.boot_len (dB (by exact (eS (aa 2))) (T:=["_law_one"]) (N:=["_law_one","_law_share"]) (js:=[6]) (cl:=[("_law_share",_)]) (fun _ _ _ _ _=>by exact (pi 0 (show List.Nodup (["_law_one","_law_share"]:List Str) from by decide +kernel))) (nb 0 (by decide)) (fun _ _ _ _ _=>by exact (ko (qA (cC (aU (aa 0) af) (aU (aa 1) af)) (cC (aU (aa 1) af) (aU (aa 0) af))))) (fun _ _ _ _ _=>by exact (bQ 0)) (by exact CompG.of (T:=["_law_one"]) (Z:=["_law_share"]) (Y:=["_law_share"]) (hcl:=(by intro p hp;simp only [Zs,List.not_mem_nil,or_false] at hp;subst hp;rfl)) (hN:=(by intro i y j h1 h2;match i,h1,h2 with | 0,h1,h2=>cases h1;cases h2;exact ⟨rfl,rfl,rfl⟩ | n + 1,h1,h2=>cases h1))))))
   (aW (bZ 8 sc.nd (be (cY (ab (da (aU (aa 5) af) (aU (aa 5) af)) (ab (aa 7) ah)))))
   (aW (fI (nR (aU (aa 5) af) (cC (aa 4) (aU (aa 5) af))) (bq (bZ 8 sc.nd (be (cY (ab (eT (aa 4) af) (ab af ah)))))) dM)
   (bq (qE 3 (sI PySem.F.plainAttrs_list PySem.F.slot_list_append PySem.F.type_list_append io (pvi 3) (cV (bQ 8) eU)))))))))
  (bq (bU (kj d5 g6 rfl m_tuple d6 (bQ 3)))))))),?_,?own⟩
 case own=>first | rfl | exact hown
 . show az ((?f:SD) (bf 9 _)) = _
   have e0:bf 9 [d0,d1] = [some (.seq (ms.map D.int)),some (sh d1),none,none,none,none,none,none,none]:=by
    show [some (sh d0),some (sh d1),none,none,none,none,none,none,none] = _
    rw [h]
   rw [e0]
   have k1:=k.le
   obtain ⟨o4,o5,o6,w1⟩:=A4 (u0:=some (.seq (ms.map D.int))) (u1:=some (sh d1)) (u3:=none) (u7:=none) (u8:=none) ms qs [] none none none k.gr k.tm (by simpa using k1)
   obtain ⟨p4,p5,p6,p7,p8,w2⟩:=AZ (u0:=some (.seq (ms.map D.int))) (u1:=some (sh d1)) k.pfk k.plen ms qs [] o4 o5 o6 none none k.gr k.tm (by simpa using k1)
   exact dJ (aI (δ':=[some (.seq (ms.map D.int)),some (sh d1),some (.lst []),none,none,none,none,none,none]) rfl (aI (r8 (oP (d0:=d0) rfl rfl g) w1) (aI (δ':=[some (.seq (ms.map D.int)),some (sh d1),some (.lst ((dst [] (wi ms qs)).map fr)),some (.lst []),o4,o5,o6,none,none]) rfl (aI (r8 (oP (d0:=d0) rfl rfl g) w2) (cw (jM (qt rfl) rfl (fL _)))))))
theorem fq:aQ ["_law_most","_law_hands"] ["_law_most","_law_hands"] (ak cT):=⟨rfl,rfl,rfl,by decide +kernel,rfl,by decide +kernel,by decide +kernel⟩
theorem jm (F:Fun K "_law_at_moment" "_law_at_moment" cT f fd)  (hLknown:HasF P w K mg base 1 "_law_known" ["_law_most","_law_hands"] (fn dH))  (m_any:mg "any" = none):FnOk P w K mg base CX0 2 f fd ["_law_most","_law_hands"] (bW K 2 (fn bP)):=by
 have sc:=fq
 refine ce F fq (fun cdv A outer s H E ds d hr hG hl=>?_)
 obtain ⟨d0,d1,ms,qs,h,g,k,rfl,rfl⟩:=bI hG
 have hown:own (.bl ((wi ms qs).any fun q=>decide (q.2 = 1))) = true:=rfl
 refine ⟨_,(bq (bU (be (ca (lZ rfl) rG rfl m_any jK (ab (kw (by exact (eS (aR hLknown.has hr (ab (aa 0) (ab (aa 1) ah))))) (N:=["_law_time_here"]) (js:=[]) (cl:=[]) (fun _ _ _ _ _=>by exact (lr hr.units (aU (aa 0) af) af)) (by exact CompOk.nil)) ah))))),?_,?own⟩
 case own=>first | rfl | exact hown
 . show az ((?f:SD) (bf 2 _)) = _
   have e0:bf 2 [d0,d1] = [some (.seq (ms.map D.int)),some (sh d1)]:=by
    show [some (sh d0),some (sh d1)] = _
    rw [h]
   rw [e0]
   have g2:Hs (sh d1) qs:=by
    unfold Hs
    rw [sa]
    exact g
   have kn:=jp (d0:=.seq (ms.map D.int)) (d1:=sh d1) (gQ ms) g2 k
   refine dJ (cw (bM (ox (ow (ds:=(wi ms qs).map fr) (xs:=(wi ms qs).map fun q=>D.bl (decide (q.2 = 1))) ?_ (gg _ fun q _=>?_) ?_) ?_)))
   . show ((au (fn dH) (ac (ae 0) (ac (ae 1) aj)) [some (.seq (ms.map D.int)),some (sh d1)]).bind asL) = _
     simp only [az,aZ,aS,aO,bv,aT,bt,sIf,bw,bE,bF,asL,bu,bx,ae,fC,f2,f1,fT,asB,aN,aK,bn,aL,bH,bC,bz,aj,ac,bh,bo,au,bA,bG,ax,ao,aG,aF,gI0,ar,aw,ay,aH,aq,al,ag,Dl.isInt,Dl.isBool,Dl.isTup,Zc,Zd,Zt,Zu,Zm,Zn,Ze,Zf,Zg,Zh,Zi,Zj,Zk,Zy,Zz,Zx,av,aP,aE,vI,aA,aD,bc,aB,bj,bm,aJ,kn]
   . show some (D.bl (q.2 == 1)) = _
     by_cases z:q.2 = 1
     . rw [z];rfl
     . rw [decide_eq_false z,beq_eq_false_iff_ne.mpr z]
   . rw [Zl]
     have:=gO ms qs
     have:=k.le
     omega
   . have b:cL ((wi ms qs).map fun q=>D.bl (decide (q.2 = 1))) = some ((wi ms qs).map fun q=>decide (q.2 = 1)):=by
      have:=jr ((wi ms qs).map fun q=>decide (q.2 = 1))
      rw [List.map_map] at this
      exact this
     show ((cL ((wi ms qs).map fun q=>D.bl (decide (q.2 = 1)))).bind fun bs=>some (D.bl (bs.any id))) = _
     rw [b]
     show some (D.bl (((wi ms qs).map fun q=>decide (q.2 = 1)).any id)) = _
     rw [List.any_map]
     rfl
theorem gL:aQ ["_law_found","_law_due"] ["_law_found","_law_due"] (ak dy):=⟨rfl,rfl,rfl,by decide +kernel,rfl,by decide +kernel,by decide +kernel⟩
theorem j7 (F:Fun K "_law_is_cell" "_law_is_cell" dy f fd)  (hLwhole:Has P w K mg base 1 "_law_whole" ["_law_found"] (fn cE))  (m_all:mg "all" = none) (m_isinstance:mg "isinstance" = none) (m_tuple:mg "tuple" = none) (m_len:mg "len" = none):FnOk P w K mg base CX0 2 f fd ["_law_found","_law_due"] (bW K 2 (fn cQ)):=by
 have sc:=gL
 refine ce F gL (fun cdv A outer s H E ds d hr hG hl=>?_)
 obtain ⟨cs,l,rfl,rfl⟩:=bI hG
 have hown:own (.bl true) = true:=rfl
 refine ⟨_,(aW (fI (PWD.pt (nN (gy (dC (ca gi (jJ pw) rfl m_isinstance boot_isinstance (ab (aa 0) (ab (mV rfl m_tuple boot_tuple) ah))))) (kf (gy (dC (ca (qh rfl) wE rfl m_all nk (ab (kw (by exact (kq (aa 0))) (N:=["_law_pair"]) (js:=[]) (cl:=[]) (fun _ _ _ _ _=>by exact (iT (ca gi (jJ pw) rfl m_isinstance boot_isinstance (ab (aa 0) (ab (mV rfl m_tuple boot_tuple) ah))) (iS (lr hr.units (ca dD lY rfl m_len PySem.boot_len (ab (aa 0) ah)) af)))) (by exact CompOk.nil)) ah))))))) (bq (bU (be pj))) dM)
  (bq (bU (be (iT (ca (qh rfl) wE rfl m_all nk (ab (kw (by exact (kq (aa 0))) (N:=["_law_pair"]) (js:=[]) (cl:=[]) (fun _ _ _ _ _=>by exact (iT (aR hLwhole hr (ab (aU (aa 0) af) ah)) (iS (aR hLwhole hr (ab (aU (aa 0) af) ah))))) (by exact CompOk.nil)) ah)) (iS (lr hr.units (aa 0) (aa 1)))))))),?_,?own⟩
 case own=>first | rfl | exact hown
 . show az ((?f:SD) (bf 2 _)) = _
   have e0:bf 2 [.tup (cs.map fr),.tup (cs.map fr)] = [some (.tup (cs.map fr)),some (.tup (cs.map fr))]:=by
    show [some (sh (.tup (cs.map fr))),some (sh (.tup (cs.map fr)))] = _
    rw [jx]
   rw [e0]
   have c1:lO (fun δ=>((ae 0) δ).bind asT) [] (aL (au (wf "tuple" isTup) (ac (ae 0) (ac (fC (.ty "tuple")) aj))) (f2 c0 (au ot (ac (ae 0) aj)) (fC (.int 2)))) [some (.tup (cs.map fr)),some (.tup (cs.map fr))] = some (.lst (cs.map fun _=>D.bl true)):=ow (ds:=cs.map fr) rfl (gg cs fun c _=>rfl) (by rw [Zl];omega)
   have c2:lO (fun δ=>((ae 0) δ).bind asT) [] (aL (au (fn cE) (ac (f2 gIx (ae 0) (fC (.int 0))) aj)) (au (fn cE) (ac (f2 gIx (ae 0) (fC (.int 1))) aj))) [some (.tup (cs.map fr)),some (.tup (cs.map fr))] = some (.lst (cs.map fun _=>D.bl true)):=ow (ds:=cs.map fr) rfl (gg cs fun c _=>by
    have w:∀ i:Int,fn cE [.int i] = some (.bl true):=fun i=>eW rfl
    show aL (au (fn cE) (ac (f2 gIx (ae 0) (fC (.int 0))) aj)) (au (fn cE) (ac (f2 gIx (ae 0) (fC (.int 1))) aj)) [some (fr c)] = _
    simp only [az,aZ,aS,aO,bv,aT,bt,sIf,bw,bE,bF,asL,bu,bx,ae,fC,f2,f1,fT,asB,aN,aK,bn,aL,bH,bC,bz,aj,ac,bh,bo,au,bA,bG,ax,ao,aG,aF,gI0,ar,aw,ay,aH,aq,al,ag,Dl.isInt,Dl.isBool,Dl.isTup,Zc,Zd,Zt,Zu,Zm,Zn,Ze,Zf,Zg,Zh,Zi,Zj,Zk,Zy,Zz,Zx,av,aP,aE,vI,aA,aD,bc,aB,bj,bm,aJ,w]) (by rw [Zl];omega)
   have a1:=ox (G:=wg) c1 (qk cs)
   have a2:=ox (G:=wg) c2 (qk cs)
   have i1:au (wf "tuple" isTup) (ac (ae 0) (ac (fC (.ty "tuple")) aj)) [some (.tup (cs.map fr)),some (.tup (cs.map fr))] = some (.bl true):=rfl
   have eqv:f2 c0 (ae 0) (ae 1) [some (.tup (cs.map fr)),some (.tup (cs.map fr))] = some (.bl true):=zX cs
   refine dJ (aI (bT ?_ rfl) (cw (bM (d:=.bl true) ?_)))
   . simp only [bn,aN,fT,i1,a1,asB,Zc,Zd,Zy]
   . exact Bg a2 eqv
theorem jQ:aQ ["top","bottom"] ["top","bottom"] (ak dd):=⟨rfl,rfl,rfl,by decide +kernel,rfl,by decide +kernel,by decide +kernel⟩
theorem jX {dV:Value} (F:FunD K "fraction" "fraction" dd f fd dV)  (hlowest:Has P w K mg base 2 "lowest" ["top","bottom"] (fn ma)) (his_whole:Has P w K mg base 1 "is_whole" ["thing"] (fn gG))  :FnOk P w K mg base CX0 3 f fd ["top","bottom"] (cn K 2 (fn cf)):=by
 have sc:=jQ
 refine vo F jQ (fun cdv A outer s H E ds d hr hG hl=>?_)
 obtain ⟨t,b,hb,hB,rfl,rfl⟩:=bI hG
 refine ⟨_,(bS (lg (PWD.pt (nN (gy (dC (aR his_whole hr (ab (aa 0) ah)))) (kf (gy (dC (aR his_whole hr (ab (aa 1) ah))))))) (bL mT) jg)
  (bS (lg (zb hr.units0 (aa 1) af) (bL mT) jg)
  (bS (lg (nQ (aa 1) af) (bL (cj (aR hlowest hr (ab (nY (aa 0)) (ab (nY (aa 1)) ah))))) jg)
  (bL (cj (aR hlowest hr (ab (aa 0) (ab (aa 1) ah)))))))),?_⟩
 . show az ((?f:SD) [some _,some _]) = _
   have h0:(b == 0) = false:=by simp [hb]
   by_cases hn:b < 0
   . have h1:decide (b < 0) = true:=decide_eq_true hn
     simp only [az,aZ,aS,aO,bv,aT,bt,sIf,bw,bE,bF,asL,bu,bx,ae,fC,f2,f1,fT,asB,aN,aK,bn,aL,bH,bC,bz,aj,ac,bh,bo,au,bA,bG,ax,ao,aG,aF,gI0,ar,aw,ay,aH,aq,al,ag,Dl.isInt,Dl.isBool,Dl.isTup,Zc,Zd,Zt,Zu,Zm,Zn,Ze,Zf,Zg,Zh,Zi,Zj,Zk,Zy,Zz,Zx,av,aP,aE,vI,aA,aD,bc,aB,bj,bm,aJ,eW (x:=.int t) rfl,eW (x:=.int b) rfl,h0,h1,pY (t:=-t) (b:=-b) (by omega) (Aa hB)]
     unfold low
     rw [if_pos hn]
   . have h1:decide (b < 0) = false:=decide_eq_false hn
     simp only [az,aZ,aS,aO,bv,aT,bt,sIf,bw,bE,bF,asL,bu,bx,ae,fC,f2,f1,fT,asB,aN,aK,bn,aL,bH,bC,bz,aj,ac,bh,bo,au,bA,bG,ax,ao,aG,aF,gI0,ar,aw,ay,aH,aq,al,ag,Dl.isInt,Dl.isBool,Dl.isTup,Zc,Zd,Zt,Zu,Zm,Zn,Ze,Zf,Zg,Zh,Zi,Zj,Zk,Zy,Zz,Zx,av,aP,aE,vI,aA,aD,bc,aB,bj,bm,aJ,eW (x:=.int t) rfl,eW (x:=.int b) rfl,h0,h1,pY (t:=t) (b:=b) (by omega) hB]
     unfold low
     rw [if_neg hn]
theorem oX:aQ ["one","other"] ["one","other"] (ak ke):=⟨rfl,rfl,rfl,by decide +kernel,rfl,by decide +kernel,by decide +kernel⟩
theorem vP (F:Fun K "minus" "minus" ke f fd)  (hsummed:Has P w K mg base 2 "summed" ["one","top","bottom"] (fn ju))  :FnOk P w K mg base CX0 3 f fd ["one","other"] (cn K 2 (fn oM)):=by
 have sc:=oX
 refine cI F oX (fun cdv A outer s H E ds d hr hG hl=>?_)
 obtain ⟨⟨a,b⟩,⟨c,e⟩,hp,hq,rfl,rfl⟩:=bI hG
 refine ⟨_,(bL (cj (aR hsummed hr (ab (aa 0) (ab (nY (aU (aa 1) af)) (ab (aU (aa 1) af) ah)))))),?_⟩
 . show az ((?f:SD) [some _,some _]) = _
   have h:=wt hp hq.neg
   have h':fn ju [.tup [.int a,.int b],.int (-c),.int e] = some (fr (mi (a,b) (c,e))):=by rw [AY hp.lw hq.lw];exact h
   simp only [az,aZ,aS,aO,bv,aT,bt,sIf,bw,bE,bF,asL,bu,bx,ae,fC,f2,f1,fT,asB,aN,aK,bn,aL,bH,bC,bz,aj,ac,bh,bo,au,bA,bG,ax,ao,aG,aF,gI0,ar,aw,ay,aH,aq,al,ag,Dl.isInt,Dl.isBool,Dl.isTup,Zc,Zd,Zt,Zu,Zm,Zn,Ze,Zf,Zg,Zh,Zi,Zj,Zk,Zy,Zz,Zx,av,aP,aE,vI,aA,aD,bc,aB,bj,bm,aJ,h']
theorem i5:aQ ["most","cell","last"] ["most","cell"] (ak fu):=⟨rfl,rfl,rfl,by decide +kernel,rfl,by decide +kernel,by decide +kernel⟩
theorem BE {c:Int × Int} {L:Int} {o0 o1:Option D}:df 2 [2] (gDs [0,1]) (fun _=>some true) (vI (fIf (fT (f2 c0 (ae 1) (ae 2))) (bh (ac (f2 jH (ae 0) (fC (.int 1))) (ac (fC (.int 0)) aj))) (bh (ac (ae 0) (ac (ae 1) aj))))) [o0,o1,some (.int L)] (fr c) = some (some (fr (stp L c))):=by
 show ((Dl.ownOf (vI (fIf (fT (f2 c0 (ae 1) (ae 2))) (bh (ac (f2 jH (ae 0) (fC (.int 1))) (ac (fC (.int 0)) aj))) (bh (ac (ae 0) (ac (ae 1) aj))))) [some (.int c.1),some (.int c.2),some (.int L)]).map some) = _
 have g0:c0 (.int c.2) (.int L) = some (.bl (c.2 == L)):=rfl
 unfold Dl.ownOf
 rw [bM (d:=fr (stp L c)) ?_]
 . unfold stp;split <;> rfl
 . unfold stp
   by_cases z:c.2 = L
   . have z':(c.2 == L) = true:=by simp [z]
     rw [if_pos z]
     simp only [az,aZ,aS,aO,bv,aT,bt,sIf,bw,bE,bF,asL,bu,bx,ae,fC,f2,f1,fT,asB,aN,aK,bn,aL,bH,bC,bz,aj,ac,bh,bo,au,bA,bG,ax,ao,aG,aF,gI0,ar,aw,ay,aH,aq,al,ag,Dl.isInt,Dl.isBool,Dl.isTup,Zc,Zd,Zt,Zu,Zm,Zn,Ze,Zf,Zg,Zh,Zi,Zj,Zk,Zy,Zz,Zx,av,aP,aE,vI,aA,aD,bc,aB,bj,bm,aJ,fIf,g0,z']
     rfl
   . have z':(c.2 == L) = false:=by simp [z]
     rw [if_neg z]
     simp only [az,aZ,aS,aO,bv,aT,bt,sIf,bw,bE,bF,asL,bu,bx,ae,fC,f2,f1,fT,asB,aN,aK,bn,aL,bH,bC,bz,aj,ac,bh,bo,au,bA,bG,ax,ao,aG,aF,gI0,ar,aw,ay,aH,aq,al,ag,Dl.isInt,Dl.isBool,Dl.isTup,Zc,Zd,Zt,Zu,Zm,Zn,Ze,Zf,Zg,Zh,Zi,Zj,Zk,Zy,Zz,Zx,av,aP,aE,vI,aA,aD,bc,aB,bj,bm,aJ,fIf,g0,z']
     rfl
theorem xB (rs:List Int):gIx (.lst ((mn (0 :: rs)).map D.int)) (.int (-1)) = some (.int (eV rs)):=by
 unfold eV
 rw [oU,wo]
 by_cases a1:(1:Int) ∈ rs <;> by_cases a2:(2:Int) ∈ rs <;> by_cases a3:(3:Int) ∈ rs <;> by_cases a4:(4:Int) ∈ rs <;> simp only [a1,a2,a3,a4,decide_true,decide_false,if_true,if_false,Bool.false_eq_true] <;> rfl
theorem n4 (F:Fun K "next_cell" "next_cell" fu f fd)  (his_moment:HasF P w K mg base 1 "is_moment" ["most","cell"] (fn cO)) (hbehind_moment:HasF P w K mg base 2 "behind_moment" ["most","cell"] (fn eD)) (hranks_of:HasF P w K mg base 1 "ranks_of" ["cell"] (fn iX))  (m_tuple:mg "tuple" = none):FnOk P w K mg base CX0 3 f fd ["most","cell"] (bW K 2 (fn dg)):=by
 have sc:=i5
 refine ce F i5 (fun cdv A outer s H E ds d hr hG hl=>?_)
 obtain ⟨d0,ms,cs,h,k,rfl,rfl⟩:=bI hG
 have hown:own (nxD (nxt ms cs)) = true:=vJ _
 refine ⟨_,(aW (fI (dC (aR his_moment.has hr (ab (aa 0) (ab (aa 1) ah)))) (bq (bU (dS hbehind_moment hr (ab (aa 0) (ab (aa 1) ah))))) dM)
  (aW (bZ 2 sc.nd (be (aU (aR hranks_of.has hr (ab (aa 1) ah)) (nY af))))
  (aW (fI (ii hr.units (aa 2) af) (bq (bU (be jC))) dM)
  (bq (bU (kj d5 g6 rfl m_tuple d6 (dB (by exact (kq (aa 1))) (T:=["whole","rank"]) (N:=["whole","rank","last"]) (js:=[2]) (cl:=[("last",_)]) (fun _ _ _ _ _=>by exact (fJ [0,1] (eg rfl (br (pgN 0 (show List.Nodup (["whole","rank","last"]:List Str) from by decide +kernel)) (br (pgN 1 (show List.Nodup (["whole","rank","last"]:List Str) from by decide +kernel)) c9))))) (dZ [0,1] (by decide)) (fun _ _ _ _ _=>by exact ij) (fun _ _ _ _ _=>by exact (be (qJ (ii hr.units (aa 1) (aa 2)) (cY (ab (eT (aa 0) af) (ab af ah))) (cY (ab (aa 0) (ab (aa 1) ah)))))) (by exact CompG.of (T:=["whole","rank"]) (Z:=["last"]) (Y:=["last"]) (hcl:=(by intro p hp;simp only [Zs,List.not_mem_nil,or_false] at hp;subst hp;rfl)) (hN:=(by intro i y j h1 h2;match i,h1,h2 with | 0,h1,h2=>cases h1;cases h2;exact ⟨rfl,rfl,rfl⟩ | n + 1,h1,h2=>cases h1)))))))))),?_,?own⟩
 case own=>first | rfl | exact hown
 . show az ((?f:SD) (bf 3 _)) = _
   have e0:bf 3 [d0,.tup (cs.map fr)] = [some (.seq (ms.map D.int)),some (.tup (cs.map fr)),none]:=by
    show [some (sh d0),some (sh (.tup (cs.map fr))),none] = _
    rw [h,jx]
   rw [e0]
   have l:=k.le
   have em:=j0 (d0:=.seq (ms.map D.int)) (cs:=cs) (gQ ms) l
   have eb:=j9 (d0:=.seq (ms.map D.int)) (cs:=cs) (gQ ms) l
   have er:=rh (d0:=.tup (cs.map fr)) (cs:=cs) (by rw [jx];rfl) k
   have hc:fT (au (fn cO) (ac (ae 0) (ac (ae 1) aj))) [some (.seq (ms.map D.int)),some (.tup (cs.map fr)),none] = some (mom ms cs):=by simp only [az,aZ,aS,aO,bv,aT,bt,sIf,bw,bE,bF,asL,bu,bx,ae,fC,f2,f1,fT,asB,aN,aK,bn,aL,bH,bC,bz,aj,ac,bh,bo,au,bA,bG,ax,ao,aG,aF,gI0,ar,aw,ay,aH,aq,al,ag,Dl.isInt,Dl.isBool,Dl.isTup,Zc,Zd,Zt,Zu,Zm,Zn,Ze,Zf,Zg,Zh,Zi,Zj,Zk,Zy,Zz,Zx,av,aP,aE,vI,aA,aD,bc,aB,bj,bm,aJ,em]
   unfold nxt
   cases hm:mom ms cs with
   | true =>
    rw [hm] at hc
    rw [if_pos rfl]
    exact dJ (ib (dk hc (cw (fO (ds:=[.seq (ms.map D.int),.tup (cs.map fr)]) rfl eb (cK _)))))
   | false =>
    rw [hm] at hc
    rw [if_neg Bool.false_ne_true]
    refine dJ (aI (bT hc rfl) (aI (δ':=[some (.seq (ms.map D.int)),some (.tup (cs.map fr)),some (.int (eV (cs.map (·.2))))]) (bD (bM (d:=.int (eV (cs.map (·.2)))) ?_)) ?_))
    . have ng:f1 bz (fC (.int 1)) [some (.seq (ms.map D.int)),some (.tup (cs.map fr)),none] = some (.int (-1)):=rfl
      simp only [az,aZ,aS,aO,bv,aT,bt,sIf,bw,bE,bF,asL,bu,bx,ae,fC,f2,f1,fT,asB,aN,aK,bn,aL,bH,bC,bz,aj,ac,bh,bo,au,bA,bG,ax,ao,aG,aF,gI0,ar,aw,ay,aH,aq,al,ag,Dl.isInt,Dl.isBool,Dl.isTup,Zc,Zd,Zt,Zu,Zm,Zn,Ze,Zf,Zg,Zh,Zi,Zj,Zk,Zy,Zz,Zx,av,aP,aE,vI,aA,aD,bc,aB,bj,bm,aJ,er,ng,xB]
    have g0:fT (f2 c0 (ae 2) (fC (.int 0))) [some (.seq (ms.map D.int)),some (.tup (cs.map fr)),some (.int (eV (cs.map (·.2))))] = some (eV (cs.map (·.2)) == 0):=rfl
    by_cases z:eV (cs.map (·.2)) = 0
    . rw [if_pos z]
      have z':(eV (cs.map (·.2)) == 0) = true:=by simp [z]
      rw [z'] at g0
      exact ib (dk g0 (cw (bM (d:=.non) rfl)))
    . rw [if_neg z]
      have z':(eV (cs.map (·.2)) == 0) = false:=by simp [z]
      rw [z'] at g0
      refine aI (bT g0 rfl) (cw (jM (dP (ds:=cs.map fr) rfl (xs:=(cs.map (stp (eV (cs.map (·.2))))).map fr) ?_ ?_) rfl (fL _)))
      . rw [List.map_map]
        exact lH cs fun c _=>BE
      . rw [Zl,Zl]
        omega
theorem iD:aQ ["_law_purse_here","_law_mosts_due","_law_hands","_law_most"] ["_law_purse_here","_law_mosts_due"] (ak eF):=⟨rfl,rfl,rfl,by decide +kernel,rfl,by decide +kernel,by decide +kernel⟩
theorem mB (F:Fun K "_law_times" "_law_times" eF f fd)  (hLtime:me P w K mg base 2 "_law_time" ["_law_purse_here","_law_most","_law_hands"] (fnM cB))  :FnOk P w K mg base CX0 3 f fd ["_law_purse_here","_law_mosts_due"] (oQ K 2 (fnM dG)):=by
 have sc:=iD
 refine jf F iD (fun cdv A outer s H E Z d0 es d0' r hr zk hG hl=>?_)
 obtain ⟨d1,fs,h1,h2⟩:=kB hG
 cases h1
 refine ⟨_,(cz (eR 2 zk sc.nd (fH (iP dz)))
  (cz (yY 3 zk sc.nd PassesOwn.never rfl (jh (k6 1))
   (gx (yZ 2 (sI PySem.F.plainAttrs_list PySem.F.slot_list_append PySem.F.type_list_append io (pvi 2) (cV (cH 0 hLtime hr (db (aa 3) (sJ 2 cJ))) eU)))))
  (gx (k8 (fH (bQ 2)))))),?_⟩
 . rw [show (["_law_purse_here","_law_mosts_due","_law_hands","_law_most"]:List Str).length = 4 from rfl]
   exact h2
theorem fo:aQ ["_law_most","_law_hands","_law_known_here","_law_top","_law_bottom"] ["_law_most","_law_hands"] (ak cS):=⟨rfl,rfl,rfl,by decide +kernel,rfl,by decide +kernel,by decide +kernel⟩
theorem BF {q:Int × Int} (h:Tw q):au (fn bO) (ac (f2 (gI0 fun i j=>.int (i - j)) (f2 gIx (ae 0) (fC (.int 1))) (f2 (gI (fun _ j=>0 < j) fun i j=>.int (i % j)) (f2 gIx (ae 0) (fC (.int 0))) (f2 gIx (ae 0) (fC (.int 1))))) (ac (f2 gIx (ae 0) (fC (.int 1))) aj)) [some (fr q)] = some (fr (co q)):=by
 have p0:=h.lw.pos
 have l:=eX (t:=q.2 - q.1 % q.2) (b:=q.2) p0 (mM h)
 rw [show rd (q.2 - q.1 % q.2) q.2 = co q from gb (wz h.lw)] at l
 simp only [az,aZ,aS,aO,bv,aT,bt,sIf,bw,bE,bF,asL,bu,bx,ae,fC,f2,f1,fT,asB,aN,aK,bn,aL,bH,bC,bz,aj,ac,bh,bo,au,bA,bG,ax,ao,aG,aF,gI0,ar,aw,ay,aH,aq,al,ag,Dl.isInt,Dl.isBool,Dl.isTup,Zc,Zd,Zt,Zu,Zm,Zn,Ze,Zf,Zg,Zh,Zi,Zj,Zk,Zy,Zz,Zx,av,aP,aE,vI,aA,aD,bc,aB,bj,bm,aJ,aV (C:=fun _ j=>0 < j) (i:=q.1) (j:=q.2) p0,l]
theorem wA {q:Int × Int} (h:Tw q):Fk (co q):=by
 have p0:=h.lw.pos
 have c:=h.le
 have z0:=Int.emod_nonneg q.1 (b:=q.2) (by omega)
 have z1:=Int.emod_lt_of_pos q.1 p0
 exact Fk.of (k:=500) ⟨wz h.lw,Sm.of (by show _ < _;dsimp only [co];omega) (by show _ < _;dsimp only [co];omega),Sm.of (by show _ < _;dsimp only [co];omega) (by show _ < _;dsimp only [co];omega)⟩
theorem zW {f:FD} {δ:DS} {d:D} (h:f δ = some d):ac f aj δ = some [d]:=by unfold ac aj;rw [h];rfl
theorem zY:∀ (ds:List D),c0 (.lst ds) (.lst []) = some (.bl (decide (ds = [])))
 | []=>rfl
 | x :: xs=>by
  rw [decide_eq_false (by simp)]
  rfl
theorem jk (F:Fun K "_law_next_wait" "_law_next_wait" cS f fd)  (hLknown:HasF P w K mg base 1 "_law_known" ["_law_most","_law_hands"] (fn dH)) (hLleast:HasF P w K mg base 1 "_law_least" ["_law_some"] (fn eO)) (hLat_moment:HasF P w K mg base 2 "_law_at_moment" ["_law_most","_law_hands"] (fn bP)) (hLlow:Has P w K mg base 1 "_law_low" ["_law_top","_law_bottom"] (fn bO))  :FnOk P w K mg base CX0 3 f fd ["_law_most","_law_hands"] (bW K 2 (fn bX)):=by
 have sc:=fo
 refine ce F fo (fun cdv A outer s H E ds d hr hG hl=>?_)
 obtain ⟨d0,d1,ms,qs,h,g,k,rfl,rfl⟩:=bI hG
 have hown:own (wtD (nwt ms qs)) = true:=vH _
 refine ⟨_,(aW (bZ 2 sc.nd (dS hLknown hr (ab (aa 0) (ab (aa 1) ah))))
  (aW (fI (ii hr.units (aa 2) (qI ah)) (bq (bU (be jC))) dM)
  (aW (AQ [3,4] (dS hLleast hr (ab (kw (by exact (eS (aa 2))) (N:=["_law_time_here"]) (js:=[]) (cl:=[]) (fun _ _ _ _ _=>by exact (aR hLlow hr (ab (vC (aU (aa 0) af) (ej (aU (aa 0) af) (aU (aa 0) af))) (ab (aU (aa 0) af) ah)))) (by exact CompOk.nil)) ah)) (eg rfl (br (pgN 3 sc.nd) (br (pgN 4 sc.nd) c9))))
  (aW (fI (dC (aR hLat_moment.has hr (ab (aa 0) (ab (aa 1) ah)))) (bq (bU (be (aR hLlow hr (ab (aa 3) (ab (cC af (aa 4)) ah)))))) dM)
  (bq (bU (be (cY (ab (aa 3) (ab (aa 4) ah)))))))))),?_,?own⟩
 case own=>first | rfl | exact hown
 . show az ((?f:SD) (bf 5 _)) = _
   have e0:bf 5 [d0,d1] = [some (.seq (ms.map D.int)),some (sh d1),none,none,none]:=by
    show [some (sh d0),some (sh d1),none,none,none] = _
    rw [h]
   rw [e0]
   have g2:Hs (sh d1) qs:=by
    unfold Hs
    rw [sa]
    exact g
   have kn:=jp (d0:=.seq (ms.map D.int)) (d1:=sh d1) (gQ ms) g2 k
   have am:=gh (d0:=.seq (ms.map D.int)) (d1:=sh d1) (gQ ms) g2 k
   have tw:∀ q ∈ wi ms qs,Tw q:=fun q m=>k.tm q (cM ms qs m)
   refine dJ (aI (δ':=[some (.seq (ms.map D.int)),some (sh d1),some (.lst ((wi ms qs).map fr)),none,none]) (bD (fO (ds:=[.seq (ms.map D.int),sh d1]) rfl kn (cK _))) ?_)
   have hc:fT (f2 c0 (ae 2) (bo aj)) [some (.seq (ms.map D.int)),some (sh d1),some (.lst ((wi ms qs).map fr)),none,none] = some (decide ((wi ms qs).map fr = [])):=by
    show ((c0 (.lst ((wi ms qs).map fr)) (.lst [])).bind asB) = _
    rw [zY]
    rfl
   have lw:=gO ms qs
   have l4:=k.le
   have em:mot ms qs = (wi ms qs).any fun q=>decide (q.2 = 1):=rfl
   rw [<- em] at am
   unfold nwt
   cases ew:wi ms qs with
   | nil =>
    rw [ew] at hc
    exact ib (dk hc (cw (bM (d:=.non) rfl)))
   | cons q r =>
    rw [ew] at hc tw lw
    have tw':∀ x ∈ q :: r,Lw x:=fun x m=>(tw x m).lw
    obtain ⟨x,mx,ex,_⟩:=lJ tw'
    have fx:=wA (tw x mx)
    have le:=oF (d0:=.lst (((q :: r).map co).map fr)) (q:=co q) (r:=r.map co) (gS _) (fun y my=>by
     obtain ⟨z,mz,rfl⟩:=Zq.mp (show y ∈ (q :: r).map co from my)
     exact wA (tw z mz))
    have le':fn eO [.lst (((q :: r).map co).map fr)] = some (fr (co x)):=by
     rw [le,<- ex]
     rfl
    have cp:lO (fun δ=>((ae 2) δ).bind asL) [] (au (fn bO) (ac (f2 (gI0 fun i j=>.int (i - j)) (f2 gIx (ae 0) (fC (.int 1))) (f2 (gI (fun _ j=>0 < j) fun i j=>.int (i % j)) (f2 gIx (ae 0) (fC (.int 0))) (f2 gIx (ae 0) (fC (.int 1))))) (ac (f2 gIx (ae 0) (fC (.int 1))) aj))) [some (.seq (ms.map D.int)),some (sh d1),some (.lst ((q :: r).map fr)),none,none] = some (.lst (((q :: r).map co).map fr)):=ow (ds:=(q :: r).map fr) rfl (by
     rw [List.map_map]
     exact gg (q :: r) fun y m=>BF (tw y m)) (by rw [Zl,Zl];omega)
    refine aI (bT hc rfl) (aI (δ':=[some (.seq (ms.map D.int)),some (sh d1),some (.lst ((q :: r).map fr)),some (.int (co x).1),some (.int (co x).2)]) (xW (δ':=[some (.seq (ms.map D.int)),some (sh d1),some (.lst ((q :: r).map fr)),none,none]) (ds:=[.int (co x).1,.int (co x).2]) (fO (ds:=[.lst (((q :: r).map co).map fr)]) ?_ le' rfl) rfl rfl) ?_)
    . exact zW cp
    have ha:fT (au (fn bP) (ac (ae 0) (ac (ae 1) aj))) [some (.seq (ms.map D.int)),some (sh d1),some (.lst ((q :: r).map fr)),some (.int (co x).1),some (.int (co x).2)] = some (mot ms qs):=by
     simp only [az,aZ,aS,aO,bv,aT,bt,sIf,bw,bE,bF,asL,bu,bx,ae,fC,f2,f1,fT,asB,aN,aK,bn,aL,bH,bC,bz,aj,ac,bh,bo,au,bA,bG,ax,ao,aG,aF,gI0,ar,aw,ay,aH,aq,al,ag,Dl.isInt,Dl.isBool,Dl.isTup,Zc,Zd,Zt,Zu,Zm,Zn,Ze,Zf,Zg,Zh,Zi,Zj,Zk,Zy,Zz,Zx,av,aP,aE,vI,aA,aD,bc,aB,bj,bm,aJ,am]
    dsimp only
    rw [ex]
    cases hm:mot ms qs with
    | true =>
     rw [if_pos rfl]
     rw [hm] at ha
     have p2:0 < 2 * (co x).2:=by have:=fx.pos;omega
     have b2:Bd (2 * (co x).2):=wH (show Md 2 from vU (k:=64) (show (2:Int).natAbs < 2 ^ 64 by decide)) fx.s2
     refine ib (dk ha (cw (bM (d:=fr (rd (co x).1 (2 * (co x).2))) ?_)))
     have m1:aY 2 (co x).2:=⟨dE,fx.s2.bd⟩
     simp only [az,aZ,aS,aO,bv,aT,bt,sIf,bw,bE,bF,asL,bu,bx,ae,fC,f2,f1,fT,asB,aN,aK,bn,aL,bH,bC,bz,aj,ac,bh,bo,au,bA,bG,ax,ao,aG,aF,gI0,ar,aw,ay,aH,aq,al,ag,Dl.isInt,Dl.isBool,Dl.isTup,Zc,Zd,Zt,Zu,Zm,Zn,Ze,Zf,Zg,Zh,Zi,Zj,Zk,Zy,Zz,Zx,av,aP,aE,vI,aA,aD,bc,aB,bj,bm,aJ,aV (C:=aY) m1,eX (t:=(co x).1) p2 b2]
    | false =>
     rw [hm] at ha
     rw [if_neg Bool.false_ne_true]
     exact aI (bT ha rfl) (cw (bM (d:=fr (co x)) rfl))
theorem gU:aQ ["_law_hands","_law_wait"] ["_law_hands","_law_wait"] (ak dR):=⟨rfl,rfl,rfl,by decide +kernel,rfl,by decide +kernel,by decide +kernel⟩
theorem lD (F:Fun K "_law_behind" "_law_behind" dR f fd)  (hLsum:Has P w K mg base 2 "_law_sum" ["_law_one","_law_other"] (fn gH))  :FnOk P w K mg base CX0 3 f fd ["_law_hands","_law_wait"] (bW K 2 (fn c6)):=by
 have sc:=gU
 refine ce F gU (fun cdv A outer s H E ds d hr hG hl=>?_)
 obtain ⟨d0,qs,w,h,k,l,g,rfl,rfl⟩:=bI hG
 have hown:own (.lst ((qs.map fun q=>pl q w).map fr)) = true:=cK _
 refine ⟨_,(bq (bU (xb (by exact (eS (aa 0))) (N:=["_law_time_here","_law_wait"]) (js:=[1]) (cl:=[("_law_wait",_)]) (fun _ _ _ _ _=>by exact (be (aR hLsum hr (ab (aa 0) (ab (aa 1) ah))))) (by exact CompOk.one)))),?_,?own⟩
 case own=>first | rfl | exact hown
 . show az ((?f:SD) (bf 2 _)) = _
   have e0:bf 2 [d0,fr w] = [some (.seq (qs.map fr)),some (fr w)]:=by
    show [some (sh d0),some (sh (fr w))] = _
    rw [h]
    rfl
   rw [e0]
   refine dJ (cw (δ':=[some (.seq (qs.map fr)),some (fr w)]) ?_)
   unfold uX
   show ((lG _ (qs.map fr)).bind _) = _
   rw [gg (h:=fun q=>fr (pl q w)) qs fun q m=>?_]
   . show (if (qs.map fun q=>fr (pl q w)).length <= 1000 then some (D.lst (qs.map fun q=>fr (pl q w)),_) else none) = _
     rw [if_pos (by rw [Zl];omega),List.map_map]
     rfl
   . show Dl.ownOf (vI (au (fn gH) (ac (ae 0) (ac (ae 1) aj)))) [some (fr q),some (fr w)] = _
     unfold Dl.ownOf
     rw [bM (d:=fr (pl q w)) (by simp only [az,aZ,aS,aO,bv,aT,bt,sIf,bw,bE,bF,asL,bu,bx,ae,fC,f2,f1,fT,asB,aN,aK,bn,aL,bH,bC,bz,aj,ac,bh,bo,au,bA,bG,ax,ao,aG,aF,gI0,ar,aw,ay,aH,aq,al,ag,Dl.isInt,Dl.isBool,Dl.isTup,Zc,Zd,Zt,Zu,Zm,Zn,Ze,Zf,Zg,Zh,Zi,Zj,Zk,Zy,Zz,Zx,av,aP,aE,vI,aA,aD,bc,aB,bj,bm,aJ,rm (k q m) g])]
     rfl
theorem kR:aQ ["greatest","time"] ["greatest","time"] (ak ic):=⟨rfl,rfl,rfl,by decide +kernel,rfl,by decide +kernel,by decide +kernel⟩
theorem qM (F:Fun K "is_past" "is_past" ic f fd)  (hless:Has P w K mg base 1 "less" ["one","other"] (fn g9)) (hfractionD:wQ P w K mg base 3 "fraction" ["top","bottom"] [1] (fn cf))  :FnOk P w K mg base CX0 4 f fd ["greatest","time"] (cn K 2 (fn dh)):=by
 have sc:=kR
 refine cI F kR (fun cdv A outer s H E ds d hr hG hl=>?_)
 obtain ⟨g,⟨a,b⟩,h,k,rfl,rfl⟩:=bI hG
 refine ⟨_,(bL (cj (aR hless hr (ab (lu hfractionD hr (ab (aa 0) ah)) (ab (aa 1) ah))))),?_⟩
 . show az ((?f:SD) [some _,some _]) = _
   have l1:fn g9 [.tup [.int g,.int 1],fr (a,b)] = some (.bl (decide (g * b < a * 1))):=e2 (op:=fun p q=>.bl (decide (p.1 * q.2 < q.1 * p.2))) h.fk (tmK k)
   rw [Int.mul_one] at l1
   simp only [az,aZ,aS,aO,bv,aT,bt,sIf,bw,bE,bF,asL,bu,bx,ae,fC,f2,f1,fT,asB,aN,aK,bn,aL,bH,bC,bz,aj,ac,bh,bo,au,bA,bG,ax,ao,aG,aF,gI0,ar,aw,ay,aH,aq,al,ag,Dl.isInt,Dl.isBool,Dl.isTup,Zc,Zd,Zt,Zu,Zm,Zn,Ze,Zf,Zg,Zh,Zi,Zj,Zk,Zy,Zz,Zx,av,aP,aE,vI,aA,aD,bc,aB,bj,bm,aJ,fM,l1]
   rfl
theorem gT:aQ ["time"] ["time"] (ak dQ):=⟨rfl,rfl,rfl,by decide +kernel,rfl,by decide +kernel,by decide +kernel⟩
theorem lC (F:Fun K "broken_part" "broken_part" dQ f fd)  (hminus:Has P w K mg base 3 "minus" ["one","other"] (fn oM)) (hfractionD:wQ P w K mg base 3 "fraction" ["top","bottom"] [1] (fn cf)) (hfloor_of:Has P w K mg base 1 "floor_of" ["one"] (fn eZ))  :FnOk P w K mg base CX0 4 f fd ["time"] (cn K 1 (fn cy)):=by
 have sc:=gT
 refine cI F gT (fun cdv A outer s H E ds d hr hG hl=>?_)
 obtain ⟨⟨a,b⟩,h,rfl,rfl⟩:=bI hG
 refine ⟨_,(bL (cj (aR hminus hr (ab (aa 0) (ab (lu hfractionD hr (ab (aR hfloor_of hr (ab (aa 0) ah)) ah)) ah))))),?_⟩
 . show az ((?f:SD) [some _]) = _
   have p0:=h.lw.pos
   have n0:=h.nn
   have u0:=h.up
   have d0:0 <= a / b:=Int.ediv_nonneg n0 (by omega)
   have d1:a / b < 100:=Int.ediv_lt_of_lt_mul p0 u0
   have fl:Flw (a / b,1):=Flw.of (k:=64) ⟨zH _,by show (a / b).natAbs < 2 ^ 64;omega,show (1:Int).natAbs < 2 ^ 64 by decide⟩
   have l1:fn oM [fr (a,b),.tup [.int (a / b),.int 1]] = some (fr (bp (a,b))):=by
    rw [<- vS h.lw]
    exact e2w (op:=fun p q=>fr (mi p q)) (tmW h) fl
   have l2:fn eZ [.tup [.int a,.int b]] = some (.int (a / b)):=lQ (tmK h)
   simp only [az,aZ,aS,aO,bv,aT,bt,sIf,bw,bE,bF,asL,bu,bx,ae,fC,f2,f1,fT,asB,aN,aK,bn,aL,bH,bC,bz,aj,ac,bh,bo,au,bA,bG,ax,ao,aG,aF,gI0,ar,aw,ay,aH,aq,al,ag,Dl.isInt,Dl.isBool,Dl.isTup,Zc,Zd,Zt,Zu,Zm,Zn,Ze,Zf,Zg,Zh,Zi,Zj,Zk,Zy,Zz,Zx,av,aP,aE,vI,aA,aD,bc,aB,bj,bm,aJ,l2,fM,l1]
theorem gJ:aQ ["times","told","time","part"] ["times"] (ak du):=⟨rfl,rfl,rfl,by decide +kernel,rfl,by decide +kernel,by decide +kernel⟩
def bpB:SD:=((aO (av 3 (vI (au (fn cy) (ac (ae 2) aj)))) (sIf (aK (fT (f2 gD (ae 3) (au (dfl (fn cf) [1]) (ac (fC (.int 0)) aj)))) (fT (f2 dX (ae 3) (ae 1)))) (jd 1 (aA 3)) aZ)))
theorem t4 (u:Option D):∀ (qs ps:List (Int × Int)) (o o':Option D),(∀ q ∈ qs,Tw q)->ps.length + qs.length <= 4->∃ o1 o2,Dl.forM 2 bpB (qs.map fr) [u,some (.lst (ps.map fr)),o,o'] = some (.nx [u,some (.lst ((dst ps qs).map fr)),o1,o2])
 | [],ps,o,o',_,_=>⟨o,o',rfl⟩
 | q :: qs,ps,o,o',h,l=>by
  have tq:=h q Zo
  have hb:∃ o2,bpB [u,some (.lst (ps.map fr)),some (fr q),o'] = some (.nx [u,some (.lst ((fV ps (bp q)).map fr)),some (fr q),o2]):=by
   refine ⟨some (fr (bp q)),?_⟩
   have s1:bpB [u,some (.lst (ps.map fr)),some (fr q),o'] = aO (av 3 (vI (au (fn cy) (ac (ae 2) aj)))) (sIf (aK (fT (f2 gD (ae 3) (au (dfl (fn cf) [1]) (ac (fC (.int 0)) aj)))) (fT (f2 dX (ae 3) (ae 1)))) (jd 1 (aA 3)) aZ) [u,some (.lst (ps.map fr)),some (fr q),o']:=rfl
   rw [s1]
   refine aI (δ':=[u,some (.lst (ps.map fr)),some (fr q),some (fr (bp q))]) (bD (bM (by show ((au (fn cy) (ac (ae 2) aj)) _) = some (fr (bp q));simp only [az,aZ,aS,aO,bv,aT,bt,sIf,bw,bE,bF,asL,bu,bx,ae,fC,f2,f1,fT,asB,aN,aK,bn,aL,bH,bC,bz,aj,ac,bh,bo,au,bA,bG,ax,ao,aG,aF,gI0,ar,aw,ay,aH,aq,al,ag,Dl.isInt,Dl.isBool,Dl.isTup,Zc,Zd,Zt,Zu,Zm,Zn,Ze,Zf,Zg,Zh,Zi,Zj,Zk,Zy,Zz,Zx,av,aP,aE,vI,aA,aD,bc,aB,bj,bm,aJ,iJ tq]))) ?_
   have ne:gD (fr (bp q)) (.tup [.int 0,.int 1]) = some (.bl (!decide (bp q = (0,1)))):=sP (bp q) (0,1)
   have ni:=sM (bp q) ps
   have hc:aK (fT (f2 gD (ae 3) (au (dfl (fn cf) [1]) (ac (fC (.int 0)) aj)))) (fT (f2 dX (ae 3) (ae 1))) [u,some (.lst (ps.map fr)),some (fr q),some (fr (bp q))] = some (!decide (bp q = (0,1)) && !ps.contains (bp q)):=by
    by_cases e:bp q = (0,1)
    . simp only [az,aZ,aS,aO,bv,aT,bt,sIf,bw,bE,bF,asL,bu,bx,ae,fC,f2,f1,fT,asB,aN,aK,bn,aL,bH,bC,bz,aj,ac,bh,bo,au,bA,bG,ax,ao,aG,aF,gI0,ar,aw,ay,aH,aq,al,ag,Dl.isInt,Dl.isBool,Dl.isTup,Zc,Zd,Zt,Zu,Zm,Zn,Ze,Zf,Zg,Zh,Zi,Zj,Zk,Zy,Zz,Zx,av,aP,aE,vI,aA,aD,bc,aB,bj,bm,aJ,fM,ne,ni,e,decide_true]
      try rfl
    . have e':decide (bp q = (0,1)) = false:=decide_eq_false e
      simp only [az,aZ,aS,aO,bv,aT,bt,sIf,bw,bE,bF,asL,bu,bx,ae,fC,f2,f1,fT,asB,aN,aK,bn,aL,bH,bC,bz,aj,ac,bh,bo,au,bA,bG,ax,ao,aG,aF,gI0,ar,aw,ay,aH,aq,al,ag,Dl.isInt,Dl.isBool,Dl.isTup,Zc,Zd,Zt,Zu,Zm,Zn,Ze,Zf,Zg,Zh,Zi,Zj,Zk,Zy,Zz,Zx,av,aP,aE,vI,aA,aD,bc,aB,bj,bm,aJ,fM,ne,ni,e',Bool.true_and]
      try rfl
   unfold fV
   split
   . rename_i c
     rw [c] at hc
     refine dk hc ?_
     rw [List.map_append]
     exact nI (xs:=ps.map fr) (ds:=ps.map fr) (δ':=[u,some (.lst (ps.map fr)),some (fr q),some (fr (bp q))]) rfl (d:=fr (bp q)) rfl rfl (by rw [Zl];simp at l;omega)
   . rename_i c
     rw [Bool.not_eq_true] at c
     rw [c] at hc
     exact bT hc rfl
  obtain ⟨o2,hb⟩:=hb
  obtain ⟨o3,o4,ih⟩:=t4 u qs (fV ps (bp q)) (some (fr q)) o2 (fun x m=>h x (Zp _ m)) (by have:=l9 (ps:=ps) (p:=bp q);simp at l;omega)
  refine ⟨o3,o4,?_⟩
  show ((bpB [u,some (.lst (ps.map fr)),some (sh (fr q)),o']).bind _) = _
  rw [yG,hb]
  exact ih
theorem j5 (F:Fun K "broken_parts" "broken_parts" du f fd)  (hbroken_part:Has P w K mg base 4 "broken_part" ["time"] (fn cy)) (hfractionD:wQ P w K mg base 3 "fraction" ["top","bottom"] [1] (fn cf))  :FnOk P w K mg base CX0 5 f fd ["times"] (bW K 1 (fn ff)):=by
 have sc:=gJ
 refine ce F gJ (fun cdv A outer s H E ds d hr hG hl=>?_)
 obtain ⟨d0,qs,h,k,l,rfl,rfl⟩:=bI hG
 have hown:own (.lst ((dst [] qs).map fr)) = true:=cK _
 refine ⟨_,(aW (bZ 1 sc.nd (iP dz))
  (aW (nW 2 sc.nd PassesOwn.never rfl (jh (k6 0))
   (aW (bZ 3 sc.nd (be (aR hbroken_part hr (ab (aa 2) ah))))
   (bq (fI (PWD.pt (kg (km hr.units (aa 3) (lu hfractionD hr (ab af ah))) (k4 (lc hr.units (aa 3) (aa 1))))) (bq (qE 1 (sI PySem.F.plainAttrs_list PySem.F.slot_list_append PySem.F.type_list_append io (pvi 1) (cV (bQ 3) eU)))) dM))))
  (bq (bU (bQ 1))))),?_,?own⟩
 case own=>first | rfl | exact hown
 . show az ((?f:SD) (bf 4 _)) = _
   have e0:bf 4 [d0] = [some (.seq (qs.map fr)),none,none,none]:=by
    show [some (sh d0),none,none,none] = _
    rw [h]
   rw [e0]
   obtain ⟨o1,o2,w⟩:=t4 (some (.seq (qs.map fr))) qs [] none none k (by simpa using l)
   exact dJ (aI (δ':=[some (.seq (qs.map fr)),some (.lst []),none,none]) rfl (aI (kM (nH (d:=.seq (qs.map fr)) rfl (kQ qs) (kQ qs)) w) (cw (qt rfl))))
theorem jO:aQ ["greatest","time","parts","own"] ["greatest","time","parts"] (ak gq):=⟨rfl,rfl,rfl,by decide +kernel,rfl,by decide +kernel,by decide +kernel⟩
theorem not_lt (a b:Int):(!decide (a < b)) = decide (b <= a):=by
 by_cases h:a < b
 . rw [decide_eq_true h,decide_eq_false (by omega)];rfl
 . rw [decide_eq_false h,decide_eq_true (by omega)];rfl
theorem xh {g q:D} {d:D} {t p:Int × Int} (h:Tw t) (k:Fk p):df 1 [3] (bu 0) (aN (fT (au (fn g9) (ac (ae 1) (ac (ae 0) aj))))) (aA 0) [some g,some q,some d,some (fr (bp t))] (fr p) = some (if decide (p.1 * t.2 <= t.1 % t.2 * p.2) then some (fr p) else none):=by
 have l1:fn g9 [fr (bp t),fr p] = some (.bl (decide (t.1 % t.2 * p.2 < p.1 * t.2))):=e2 (op:=fun p q=>.bl (decide (p.1 * q.2 < q.1 * p.2))) (tmB h) k
 show ((aN (fT (au (fn g9) (ac (ae 1) (ac (ae 0) aj)))) [some (fr p),some (fr (bp t))]).bind fun b=>if b then (Dl.ownOf (aA 0) (shO [some (fr p),some (fr (bp t))])).map some else some none) = _
 have c:aN (fT (au (fn g9) (ac (ae 1) (ac (ae 0) aj)))) [some (fr p),some (fr (bp t))] = some (decide (p.1 * t.2 <= t.1 % t.2 * p.2)):=by
  rw [<- not_lt]
  simp only [az,aZ,aS,aO,bv,aT,bt,sIf,bw,bE,bF,asL,bu,bx,ae,fC,f2,f1,fT,asB,aN,aK,bn,aL,bH,bC,bz,aj,ac,bh,bo,au,bA,bG,ax,ao,aG,aF,gI0,ar,aw,ay,aH,aq,al,ag,Dl.isInt,Dl.isBool,Dl.isTup,Zc,Zd,Zt,Zu,Zm,Zn,Ze,Zf,Zg,Zh,Zi,Zj,Zk,Zy,Zz,Zx,av,aP,aE,vI,aA,aD,bc,aB,bj,bm,aJ,l1]
 rw [c]
 cases decide (p.1 * t.2 <= t.1 % t.2 * p.2) <;> rfl
theorem pr (F:Fun K "place_of" "place_of" gq f fd)  (his_past:Has P w K mg base 4 "is_past" ["greatest","time"] (fn dh)) (hbroken_part:Has P w K mg base 4 "broken_part" ["time"] (fn cy)) (hfloor_of:Has P w K mg base 1 "floor_of" ["one"] (fn eZ)) (hless:Has P w K mg base 1 "less" ["one","other"] (fn g9))  (m_len:mg "len" = none):FnOk P w K mg base CX0 5 f fd ["greatest","time","parts"] (bW K 3 (fn eY)):=by
 have sc:=jO
 refine ce F jO (fun cdv A outer s H E ds d hr hG hl=>?_)
 obtain ⟨g,q,d0,ps,a,b,h,k,l,rfl,rfl⟩:=bI hG
 have hown:own (fr (plc ps g q)) = true:=rfl
 refine ⟨_,(aW (fI (dC (aR his_past hr (ab (aa 0) (ab (aa 1) ah)))) (bq (bU (be (cY (ab (eT (aa 0) af) (ab af ah)))))) dM)
  (aW (bZ 3 sc.nd (be (aR hbroken_part hr (ab (aa 1) ah))))
  (bq (bU (yV (cF (be (aR hfloor_of hr (ab (aa 1) ah))) (cF (nO dD lY rfl m_len PySem.boot_len (dB (by exact (eS (aa 2))) (T:=["part"]) (N:=["part","own"]) (js:=[3]) (cl:=[("own",_)]) (fun _ _ _ _ _=>by exact (pi 0 (show List.Nodup (["part","own"]:List Str) from by decide +kernel))) (nb 0 (by decide)) (fun _ _ _ _ _=>by exact (ko (gy (dC (aR hless hr (ab (aa 1) (ab (aa 0) ah))))))) (fun _ _ _ _ _=>by exact (bQ 0)) (by exact CompG.of (T:=["part"]) (Z:=["own"]) (Y:=["own"]) (hcl:=(by intro p hp;simp only [Zs,List.not_mem_nil,or_false] at hp;subst hp;rfl)) (hN:=(by intro i y j h1 h2;match i,h1,h2 with | 0,h1,h2=>cases h1;cases h2;exact ⟨rfl,rfl,rfl⟩ | n + 1,h1,h2=>cases h1))))) dz))))))),?_,?own⟩
 case own=>first | rfl | exact hown
 . show az ((?f:SD) (bf 4 _)) = _
   have e0:bf 4 [.int g,fr q,d0] = [some (.int g),some (fr q),some (.seq (ps.map fr)),none]:=by
    show [some (sh (.int g)),some (sh (fr q)),some (sh d0),none] = _
    rw [h]
    rfl
   rw [e0]
   have hc:∀ o,fT (au (fn dh) (ac (ae 0) (ac (ae 1) aj))) [some (.int g),some (fr q),some (.seq (ps.map fr)),o] = some (past g q):=fun o=>by simp only [az,aZ,aS,aO,bv,aT,bt,sIf,bw,bE,bF,asL,bu,bx,ae,fC,f2,f1,fT,asB,aN,aK,bn,aL,bH,bC,bz,aj,ac,bh,bo,au,bA,bG,ax,ao,aG,aF,gI0,ar,aw,ay,aH,aq,al,ag,Dl.isInt,Dl.isBool,Dl.isTup,Zc,Zd,Zt,Zu,Zm,Zn,Ze,Zf,Zg,Zh,Zi,Zj,Zk,Zy,Zz,Zx,av,aP,aE,vI,aA,aD,bc,aB,bj,bm,aJ,nc a b]
   unfold plc
   cases hp:past g q with
   | true =>
    rw [if_pos rfl]
    have hc:=hc none
    rw [hp] at hc
    exact dJ (ib (dk hc (cw (bM (d:=fr (g + 1,0)) rfl))))
   | false =>
    rw [if_neg Bool.false_ne_true]
    have hc:=hc none
    rw [hp] at hc
    refine dJ (aI (bT hc rfl) (aI (δ':=[some (.int g),some (fr q),some (.seq (ps.map fr)),some (fr (bp q))]) (bD (bM (d:=fr (bp q)) (by simp only [az,aZ,aS,aO,bv,aT,bt,sIf,bw,bE,bF,asL,bu,bx,ae,fC,f2,f1,fT,asB,aN,aK,bn,aL,bH,bC,bz,aj,ac,bh,bo,au,bA,bG,ax,ao,aG,aF,gI0,ar,aw,ay,aH,aq,al,ag,Dl.isInt,Dl.isBool,Dl.isTup,Zc,Zd,Zt,Zu,Zm,Zn,Ze,Zf,Zg,Zh,Zi,Zj,Zk,Zy,Zz,Zx,av,aP,aE,vI,aA,aD,bc,aB,bj,bm,aJ,iJ b]))) (cw (qr (bM (d:=.int (q.1 / q.2)) (by simp only [az,aZ,aS,aO,bv,aT,bt,sIf,bw,bE,bF,asL,bu,bx,ae,fC,f2,f1,fT,asB,aN,aK,bn,aL,bH,bC,bz,aj,ac,bh,bo,au,bA,bG,ax,ao,aG,aF,gI0,ar,aw,ay,aH,aq,al,ag,Dl.isInt,Dl.isBool,Dl.isTup,Zc,Zd,Zt,Zu,Zm,Zn,Ze,Zf,Zg,Zh,Zi,Zj,Zk,Zy,Zz,Zx,av,aP,aE,vI,aA,aD,bc,aB,bj,bm,aJ,lQ (tmK b)])) (jM (d:=.lst ((ps.filter fun p=>decide (p.1 * q.2 <= q.1 % q.2 * p.2)).map fr)) (dP (ds:=ps.map fr) rfl (gX (fun p=>decide (p.1 * q.2 <= q.1 % q.2 * p.2)) ps fun p m=>xh b (k p m)) ?_) ?_ rfl)))))
    . rw [Zl]
      have:=List.length_filter_le (fun p=>decide (p.1 * q.2 <= q.1 % q.2 * p.2)) ps
      omega
    . show some (D.int ((List.map fr (ps.filter fun p=>decide (p.1 * q.2 <= q.1 % q.2 * p.2))).length:Nat)) = _
      rw [Zl]
      rfl
theorem kS:aQ ["most","times","within","parts"] ["most","times"] (ak ie):=⟨rfl,rfl,rfl,by decide +kernel,rfl,by decide +kernel,by decide +kernel⟩
theorem Bf {m:Int} {q:Int × Int} {δ:DS} (h:Gr m) (k:Tw q):df 2 [] (gDs [0,1]) (aN (fT (au (fn dh) (ac (ae 0) (ac (ae 1) aj))))) (aA 1) δ (.tup [.int m,fr q]) = some (if past m q then none else some (fr q)):=by
 show ((aN (fT (au (fn dh) (ac (ae 0) (ac (ae 1) aj)))) [some (.int m),some (fr q)]).bind fun b=>if b then (Dl.ownOf (aA 1) (shO [some (.int m),some (fr q)])).map some else some none) = _
 have c:aN (fT (au (fn dh) (ac (ae 0) (ac (ae 1) aj)))) [some (.int m),some (fr q)] = some (!past m q):=by simp only [az,aZ,aS,aO,bv,aT,bt,sIf,bw,bE,bF,asL,bu,bx,ae,fC,f2,f1,fT,asB,aN,aK,bn,aL,bH,bC,bz,aj,ac,bh,bo,au,bA,bG,ax,ao,aG,aF,gI0,ar,aw,ay,aH,aq,al,ag,Dl.isInt,Dl.isBool,Dl.isTup,Zc,Zd,Zt,Zu,Zm,Zn,Ze,Zf,Zg,Zh,Zi,Zj,Zk,Zy,Zz,Zx,av,aP,aE,vI,aA,aD,bc,aB,bj,bm,aJ,nc h k]
 rw [c]
 cases past m q <;> rfl
theorem Be {m:Int} {q:Int × Int} {d1 d2 d3:Option D} {ps:List (Int × Int)} (h:Gr m) (k:Tw q) (f:∀ p ∈ ps,Fk p) (l:ps.length <= 4):df 2 [3] (gDs [0,1]) (fun _=>some true) (aJ (fn eY) (ac (ae 0) (ac (ae 1) (ac (ae 2) aj)))) [d1,d2,d3,some (.lst (ps.map fr))] (.tup [.int m,fr q]) = some (some (fr (plc ps m q))):=by
 show ((Dl.ownOf (aJ (fn eY) (ac (ae 0) (ac (ae 1) (ac (ae 2) aj)))) [some (.int m),some (fr q),some (sh (.lst (ps.map fr)))]).map some) = _
 rw [gS]
 unfold Dl.ownOf
 rw [fO (d:=fr (plc ps m q)) (ds:=[.int m,fr q,.seq (ps.map fr)]) rfl (rj h k (kQ ps) f l) rfl]
 rfl
theorem qN (F:Fun K "cell_of" "cell_of" ie f fd)  (hbroken_parts:HasF P w K mg base 5 "broken_parts" ["times"] (fn ff)) (hplace_of:HasF P w K mg base 5 "place_of" ["greatest","time","parts"] (fn eY)) (his_past:Has P w K mg base 4 "is_past" ["greatest","time"] (fn dh))  (m_tuple:mg "tuple" = none) (m_zip:mg "zip" = none):FnOk P w K mg base CX0 6 f fd ["most","times"] (bW K 2 (fn iy)):=by
 have sc:=kS
 refine ce F kS (fun cdv A outer s H E ds d hr hG hl=>?_)
 obtain ⟨d0,ms,qs,h,k,rfl,rfl⟩:=bI hG
 have hown:own (.tup ((cel ms qs).map fr)) = true:=cK _
 refine ⟨_,(aW (vw 2 sc.nd (by exact (gf rfl m_zip (ab (aa 0) (ab (aa 1) ah)))) (T:=["greatest","time"]) (N:=["greatest","time"]) (js:=[]) (cl:=[]) (fun _ _ _ _ _=>by exact (fJ [0,1] (eg rfl (br (pgN 0 (show List.Nodup (["greatest","time"]:List Str) from by decide +kernel)) (br (pgN 1 (show List.Nodup (["greatest","time"]:List Str) from by decide +kernel)) c9))))) (dZ [0,1] (by decide)) (fun _ _ _ _ _=>by exact (ko (gy (dC (aR his_past hr (ab (aa 0) (ab (aa 1) ah))))))) (fun _ _ _ _ _=>by exact (bQ 1)) (by exact CompG.of (T:=["greatest","time"]) (Z:=[]) (Y:=[]) (hcl:=(by intro p hp;cases hp)) (hN:=(by intro i y j h1 h2;cases h1))))
  (aW (bZ 3 sc.nd (dS hbroken_parts hr (ab (aa 2) ah)))
  (bq (bU (kj d5 g6 rfl m_tuple d6 (dB (by exact (gf rfl m_zip (ab (aa 0) (ab (aa 1) ah)))) (T:=["greatest","time"]) (N:=["greatest","time","parts"]) (js:=[3]) (cl:=[("parts",_)]) (fun _ _ _ _ _=>by exact (fJ [0,1] (eg rfl (br (pgN 0 (show List.Nodup (["greatest","time","parts"]:List Str) from by decide +kernel)) (br (pgN 1 (show List.Nodup (["greatest","time","parts"]:List Str) from by decide +kernel)) c9))))) (dZ [0,1] (by decide)) (fun _ _ _ _ _=>by exact ij) (fun _ _ _ _ _=>by exact (dS hplace_of hr (ab (aa 0) (ab (aa 1) (ab (aa 2) ah))))) (by exact CompG.of (T:=["greatest","time"]) (Z:=["parts"]) (Y:=["parts"]) (hcl:=(by intro p hp;simp only [Zs,List.not_mem_nil,or_false] at hp;subst hp;rfl)) (hN:=(by intro i y j h1 h2;match i,h1,h2 with | 0,h1,h2=>cases h1;cases h2;exact ⟨rfl,rfl,rfl⟩ | n + 1,h1,h2=>cases h1))))))))),?_,?own⟩
 case own=>first | rfl | exact hown
 . show az ((?f:SD) (bf 4 _)) = _
   have e0:bf 4 [d0,.tup (qs.map fr)] = [some (.seq (ms.map D.int)),some (.tup (qs.map fr)),none,none]:=by
    show [some (sh d0),some (sh (.tup (qs.map fr))),none,none] = _
    rw [h,jx]
   rw [e0]
   have k1:=k.le
   have k2:=gO ms qs
   refine dJ (aI (δ':=[some (.seq (ms.map D.int)),some (.tup (qs.map fr)),some (.lst ((wi ms qs).map fr)),none]) (bD (dP (hW (d0:=.seq (ms.map D.int)) (d1:=.tup (qs.map fr)) rfl rfl rfl) (qQ ms qs fun m hm q hq=>Bf (k.gr m hm) (k.tm q hq)) ?_)) (aI (δ':=[some (.seq (ms.map D.int)),some (.tup (qs.map fr)),some (.lst ((wi ms qs).map fr)),some (.lst ((dst [] (wi ms qs)).map fr))]) (bD (fO (ds:=[.lst ((wi ms qs).map fr)]) rfl (lR (gS _) (fun q m=>k.tm q (cM ms qs m)) (by omega)) (cK _))) (cw (jM (dP (hW (d0:=.seq (ms.map D.int)) (d1:=.tup (qs.map fr)) rfl rfl rfl) (sX ms qs fun m hm q hq=>Be (k.gr m hm) (k.tm q hq) k.pfk k.plen) ?_) rfl (fL _)))))
   . rw [Zl];omega
   . rw [Zl]
     have:=kD (ps:=dst [] (wi ms qs)) ms qs
     omega
theorem vc:aQ ["_law_script","_law_cell_here","_law_purse_here","_law_most","_law_hands","_law_here","_law_k","_law_wait","_law_after"] ["_law_script"] (ak iH):=⟨rfl,rfl,rfl,by decide +kernel,rfl,by decide +kernel,by decide +kernel⟩
def zL:SD:=((aO (av 2 (aJ (fn eN) (ac (ae 1) (ac (f2 (gI (fun _ j=>0 < j) fun i j=>.int (i % j)) (au (fn iz) (ac (ae 0) (ac (fC (.int 0)) aj))) (fC (.int 2))) aj)))) (aO (av 3 (bY 2 (fnM cP) di)) (aO (av 4 (bY 2 (fnM dG) (rN 2 3 di))) (aO (av 5 (aJ (fn iy) (ac (ae 3) (ac (au q9 (ac (ae 4) aj)) aj)))) (jU (nF (ac (fC (.int 9)) aj)) 6 (aO (av 7 (aJ (fn bX) (ac (ae 3) (ac (ae 4) aj)))) (aO (av 8 (aJ (fn dg) (ac (ae 3) (ac (ae 5) aj)))) (sIf (bn (fT (f2 mF (ae 7) (fC .non))) (fT (f2 mF (ae 8) (fC .non)))) (sIf (bn (fT (f2 jZ (ae 7) (fC .non))) (fT (f2 jZ (ae 8) (fC .non)))) (aP (vI (fC (.bl false)))) aZ) (aO (av 4 (aJ (fn c6) (ac (ae 4) (ac (ae 7) aj)))) (aO (sIf (aN (fT (au (fn cQ) (ac (ae 8) (ac (au (fn d7) (ac (ae 3) (ac (ae 4) aj))) aj))))) (aP (vI (fC (.bl false)))) aZ) (aO (sIf (fT (f2 gD (au (fn cO) (ac (ae 3) (ac (ae 8) aj))) (au (fn bP) (ac (ae 3) (ac (ae 4) aj))))) (aP (vI (fC (.bl false)))) aZ) (av 5 (aA 8))))))))))))))
def zK:SD:=((aO (av 7 (aJ (fn bX) (ac (ae 3) (ac (ae 4) aj)))) (aO (av 8 (aJ (fn dg) (ac (ae 3) (ac (ae 5) aj)))) (sIf (bn (fT (f2 mF (ae 7) (fC .non))) (fT (f2 mF (ae 8) (fC .non)))) (sIf (bn (fT (f2 jZ (ae 7) (fC .non))) (fT (f2 jZ (ae 8) (fC .non)))) (aP (vI (fC (.bl false)))) aZ) (aO (av 4 (aJ (fn c6) (ac (ae 4) (ac (ae 7) aj)))) (aO (sIf (aN (fT (au (fn cQ) (ac (ae 8) (ac (au (fn d7) (ac (ae 3) (ac (ae 4) aj))) aj))))) (aP (vI (fC (.bl false)))) aZ) (aO (sIf (fT (f2 gD (au (fn cO) (ac (ae 3) (ac (ae 8) aj))) (au (fn bP) (ac (ae 3) (ac (ae 4) aj))))) (aP (vI (fC (.bl false)))) aZ) (av 5 (aA 8)))))))))
theorem zS (o:Option (Int × Int)):mF (wtD o) .non = some (.bl o.isNone):=by cases o <;> rfl
theorem zT (o:Option (List (Int × Int))):mF (nxD o) .non = some (.bl o.isNone):=by cases o <;> rfl
theorem xv (x:Bool):gD (.bl x) (.bl x) = some (.bl false):=by cases x <;> rfl
theorem Al {ms:List Int} {qs:List (Int × Int)} {w:Int × Int} (k:Dr ms qs) (e:nwt ms qs = some w):Fk w:=by
 unfold nwt at e
 have tw:∀ q ∈ wi ms qs,Tw q:=fun q m=>k.tm q (cM ms qs m)
 split at e
 . cases e
 . rename_i q r ew
   have tw':∀ x ∈ q :: r,Tw x:=fun x m=>tw x (by rw [ew];exact m)
   obtain ⟨x,mx,ex,_⟩:=lJ fun y m=>(tw' y m).lw
   rw [ex] at e
   have fx:=wA (tw' x mx)
   cases hm:mot ms qs with
   | true =>
    rw [hm,if_pos rfl] at e
    cases e
    have h:=(tw' x mx).lw.pos
    have c:=(tw' x mx).le
    have z0:=Int.emod_nonneg x.1 (b:=x.2) (by omega)
    have z1:=Int.emod_lt_of_pos x.1 h
    have p2:0 < 2 * (co x).2:=by have:=fx.pos;omega
    exact Fk.of (k:=500) (Fr.rd p2 (Sm.of (by show _ < _;dsimp only [co];omega) (by show _ < _;dsimp only [co];omega)) (Sm.of (by show _ < _;dsimp only [co];omega) (by show _ < _;dsimp only [co];omega)))
   | false =>
    rw [hm,if_neg Bool.false_ne_true] at e
    cases e
    exact fx
theorem xF {ms:List Int} {qs0 qs:List (Int × Int)} {k:Nat} {W:Int × Int} {u0 u1 u2 o6 o7 o8:Option D} (gm:∀ m ∈ ms,Gr m) (t0:∀ q ∈ qs0,Tm q) (hl:ms.length = qs0.length) (l4:qs0.length <= 4) (h:Wn ms qs0 qs k W) (k9:k <= 9) :
 ∃ (qs':List (Int × Int)) (W':Int × Int) (o7' o8':Option D),Wn ms qs0 qs' (k + 1) W'/\zK [u0,u1,u2,some (.lst (ms.map D.int)),some (.lst (qs.map fr)),some (.tup ((cel ms qs).map fr)),o6,o7,o8] = some (.nx [u0,u1,u2,some (.lst (ms.map D.int)),some (.lst (qs'.map fr)),some (.tup ((cel ms qs').map fr)),o6,o7',o8']):=by
 have tw:=h.tw (by omega) t0
 have lq:qs.length = qs0.length:=by rw [h.is,Zl]
 have dr:Dr ms qs:=⟨gm,tw,by omega⟩
 have gr:∀ m ∈ ms,0 <= m/\m <= 60:=gm
 have cb:Cb (cel ms qs):=⟨z7 gr tw (by omega),by have:=kD (ps:=dst [] (wi ms qs)) ms qs;have:(cel ms qs).length <= qs.length:=this;omega⟩
 have ew:=jI (d0:=.lst (ms.map D.int)) (d1:=.lst (qs.map fr)) (gR ms) (.inr (gS qs)) dr
 have en:=pX (d0:=.lst (ms.map D.int)) (ms:=ms) (gR ms) cb
 have ok:=zF (hl.trans lq.symm) tw (by omega) fun w e=>by
  have S:=h.step t0 tw e
  have:=S.tw (by omega) t0
  intro q m
  exact this _ (Zq.mpr ⟨q,m,rfl⟩)
 have s1:av 7 (aJ (fn bX) (ac (ae 3) (ac (ae 4) aj))) [u0,u1,u2,some (.lst (ms.map D.int)),some (.lst (qs.map fr)),some (.tup ((cel ms qs).map fr)),o6,o7,o8] = some (.nx [u0,u1,u2,some (.lst (ms.map D.int)),some (.lst (qs.map fr)),some (.tup ((cel ms qs).map fr)),o6,some (wtD (nwt ms qs)),o8]):=bD (fO (ds:=[.lst (ms.map D.int),.lst (qs.map fr)]) rfl ew (vH _))
 have s2:av 8 (aJ (fn dg) (ac (ae 3) (ac (ae 5) aj))) [u0,u1,u2,some (.lst (ms.map D.int)),some (.lst (qs.map fr)),some (.tup ((cel ms qs).map fr)),o6,some (wtD (nwt ms qs)),o8] = some (.nx [u0,u1,u2,some (.lst (ms.map D.int)),some (.lst (qs.map fr)),some (.tup ((cel ms qs).map fr)),o6,some (wtD (nwt ms qs)),some (nxD (nxt ms (cel ms qs)))]):=bD (fO (ds:=[.lst (ms.map D.int),.tup ((cel ms qs).map fr)]) rfl en (vJ _))
 have hc:bn (fT (f2 mF (ae 7) (fC .non))) (fT (f2 mF (ae 8) (fC .non))) [u0,u1,u2,some (.lst (ms.map D.int)),some (.lst (qs.map fr)),some (.tup ((cel ms qs).map fr)),o6,some (wtD (nwt ms qs)),some (nxD (nxt ms (cel ms qs)))] = some ((nwt ms qs).isNone || (nxt ms (cel ms qs)).isNone):=by
  simp only [az,aZ,aS,aO,bv,aT,bt,sIf,bw,bE,bF,asL,bu,bx,ae,fC,f2,f1,fT,asB,aN,aK,bn,aL,bH,bC,bz,aj,ac,bh,bo,au,bA,bG,ax,ao,aG,aF,gI0,ar,aw,ay,aH,aq,al,ag,Dl.isInt,Dl.isBool,Dl.isTup,Zc,Zd,Zt,Zu,Zm,Zn,Ze,Zf,Zg,Zh,Zi,Zj,Zk,Zy,Zz,Zx,av,aP,aE,vI,aA,aD,bc,aB,bj,bm,aJ,zS,zT]
  cases (nwt ms qs).isNone <;> rfl
 cases e:nwt ms qs with
 | none =>
  rw [e] at s1 s2 hc ok
  rw [ok] at s2 hc
  have hd:bn (fT (f2 jZ (ae 7) (fC .non))) (fT (f2 jZ (ae 8) (fC .non))) [u0,u1,u2,some (.lst (ms.map D.int)),some (.lst (qs.map fr)),some (.tup ((cel ms qs).map fr)),o6,some (wtD none),some (nxD none)] = some false:=rfl
  refine ⟨qs,W,_,_,⟨h.lw,h.nn,?_,h.is,h.b,h.m⟩,aI s1 (aI s2 (dk hc (bT hd rfl)))⟩
  have a:=h.le
  have:(((k + 1:Nat):Int):Rat) = ((k:Int):Rat) + 1:=Rat.intCast_add (k:Int) 1
  grind
 | some w =>
  have S:=h.step t0 tw e
  have tw2:=S.tw (by omega) t0
  have fw:=Al dr e
  rw [e] at s1 s2 hc ok
  rw [ok] at s2 hc
  have lq2:(qs.map fun q=>pl q w).length = qs0.length:=by rw [Zl,lq]
  have dr2:Dr ms (qs.map fun q=>pl q w):=⟨gm,tw2,by omega⟩
  have eb:=mH (d0:=.lst (qs.map fr)) (gS qs) (fun q m=>tmK (tw q m)) (by omega) fw
  have cl2:(cel ms (qs.map fun q=>pl q w)).length <= 4:=by have:=kD (ps:=dst [] (wi ms (qs.map fun q=>pl q w))) ms (qs.map fun q=>pl q w);have:(cel ms (qs.map fun q=>pl q w)).length <= (qs.map fun q=>pl q w).length:=this;omega
  have ec:=qa (d0:=.lst (ms.map D.int)) (d1:=.lst ((qs.map fun q=>pl q w).map fr)) (gR ms) (.inr (gS _)) dr2
  have ei:=lT cl2
  have em:=j0 (d0:=.lst (ms.map D.int)) (cs:=cel ms (qs.map fun q=>pl q w)) (gR ms) cl2
  have ea:=gh (d0:=.lst (ms.map D.int)) (d1:=.lst ((qs.map fun q=>pl q w).map fr)) (gR ms) (.inr (gS _)) dr2
  rw [sS tw2] at em
  refine ⟨qs.map fun q=>pl q w,pl W w,some (wtD (some w)),some (.tup ((cel ms (qs.map fun q=>pl q w)).map fr)),S,aI s1 (aI s2 (bT hc (aI (δ':=[u0,u1,u2,some (.lst (ms.map D.int)),some (.lst ((qs.map fun q=>pl q w).map fr)),some (.tup ((cel ms qs).map fr)),o6,some (wtD (some w)),some (.tup ((cel ms (qs.map fun q=>pl q w)).map fr))]) (bD (fO (ds:=[.lst (qs.map fr),fr w]) rfl eb (cK _))) (aI (bT ?_ rfl) (aI (bT ?_ rfl) (bD (d:=.tup ((cel ms (qs.map fun q=>pl q w)).map fr)) (δ':=[u0,u1,u2,some (.lst (ms.map D.int)),some (.lst ((qs.map fun q=>pl q w).map fr)),some (.tup ((cel ms qs).map fr)),o6,some (wtD (some w)),some (.tup ((cel ms (qs.map fun q=>pl q w)).map fr))]) ?_))))))⟩
  . simp only [az,aZ,aS,aO,bv,aT,bt,sIf,bw,bE,bF,asL,bu,bx,ae,fC,f2,f1,fT,asB,aN,aK,bn,aL,bH,bC,bz,aj,ac,bh,bo,au,bA,bG,ax,ao,aG,aF,gI0,ar,aw,ay,aH,aq,al,ag,Dl.isInt,Dl.isBool,Dl.isTup,Zc,Zd,Zt,Zu,Zm,Zn,Ze,Zf,Zg,Zh,Zi,Zj,Zk,Zy,Zz,Zx,av,aP,aE,vI,aA,aD,bc,aB,bj,bm,aJ,ec,ei]
  . simp only [az,aZ,aS,aO,bv,aT,bt,sIf,bw,bE,bF,asL,bu,bx,ae,fC,f2,f1,fT,asB,aN,aK,bn,aL,bH,bC,bz,aj,ac,bh,bo,au,bA,bG,ax,ao,aG,aF,gI0,ar,aw,ay,aH,aq,al,ag,Dl.isInt,Dl.isBool,Dl.isTup,Zc,Zd,Zt,Zu,Zm,Zn,Ze,Zf,Zg,Zh,Zi,Zj,Zk,Zy,Zz,Zx,av,aP,aE,vI,aA,aD,bc,aB,bj,bm,aJ,em,ea,xv]
  . unfold aA
    show (if imm (.tup ((cel ms (qs.map fun q=>pl q w)).map fr)) = true then some _ else _) = _
    exact if_pos (show imm (D.tup _) = true from fL _)
theorem tJ {ms:List Int} {qs0:List (Int × Int)} {u0 u1 u2:Option D} (gm:∀ m ∈ ms,Gr m) (t0:∀ q ∈ qs0,Tm q) (hl:ms.length = qs0.length) (l4:qs0.length <= 4):∀ (ks:List Int) (k:Nat) (qs:List (Int × Int)) (W:Int × Int) (o6 o7 o8:Option D),Wn ms qs0 qs k W->k + ks.length <= 9 ->
 ∃ p4 p5 p6 p7 p8,Dl.forM 6 zK (ks.map D.int) [u0,u1,u2,some (.lst (ms.map D.int)),some (.lst (qs.map fr)),some (.tup ((cel ms qs).map fr)),o6,o7,o8] = some (.nx [u0,u1,u2,some (.lst (ms.map D.int)),p4,p5,p6,p7,p8])
 | [],k,qs,W,o6,o7,o8,_,_=>⟨_,_,_,_,_,rfl⟩
 | j :: ks,k,qs,W,o6,o7,o8,h,l=>by
  simp only [Zm] at l
  obtain ⟨qs',W',o7',o8',h',st⟩:=xF (u0:=u0) (u1:=u1) (u2:=u2) (o6:=some (.int j)) (o7:=o7) (o8:=o8) gm t0 hl l4 h (by omega)
  obtain ⟨p4,p5,p6,p7,p8,ih⟩:=tJ (u0:=u0) (u1:=u1) (u2:=u2) gm t0 hl l4 ks (k + 1) qs' W' (some (.int j)) o7' o8' h' (by omega)
  refine ⟨p4,p5,p6,p7,p8,?_⟩
  show ((zK [u0,u1,u2,some (.lst (ms.map D.int)),some (.lst (qs.map fr)),some (.tup ((cel ms qs).map fr)),some (.int j),o7,o8]).bind _) = _
  rw [st]
  exact ih
theorem vQ {δ:DS}:nF (ac (fC (.int 9)) aj) δ = some (([0,1,2,3,4,5,6,7,8]:List Int).map D.int,δ):=rfl
theorem vX {ns:List Int} {c:Int} {o2 o3 o4 o5 o6 o7 o8:Option D}:∃ p2 p3 p4 p5 p6 p7 p8,zL [some (.seq (ns.map D.int)),some (.int c),o2,o3,o4,o5,o6,o7,o8] = some (.nx [some (.seq (ns.map D.int)),some (.int c),p2,p3,p4,p5,p6,p7,p8]):=by
 have w:=BD (cell ns 0)
 obtain ⟨a1,b1,ms,n1,P1,gm,lm⟩:=uf (yX c (cell ns 0 % 2) w)
 obtain ⟨a2,b2,qs,n2,P2,tq,lq⟩:=wU (d0:=.lst (ms.map D.int)) P1 (gR ms) gm lm
 have dr:Dr ms qs:=⟨gm,fun q m=>(tq q m).w,by omega⟩
 have ec:=uK (d0:=.lst (ms.map D.int)) (gR ms) dr
 have ep:=oE (c:=c) w
 have e0:=uL (ns:=ns) (k:=0) (by decide)
 obtain ⟨p4,p5,p6,p7,p8,lp⟩:=tJ (ms:=ms) (qs0:=qs) (u0:=some (.seq (ns.map D.int))) (u1:=some (.int c)) (u2:=some (pu a2 b2)) gm tq (by omega) (by omega) [0,1,2,3,4,5,6,7,8] 0 qs (0,1) o6 o7 o8 (Wn.start tq) (by decide)
 refine ⟨some (pu a2 b2),some (.lst (ms.map D.int)),p4,p5,p6,p7,p8,?_⟩
 refine aI (δ':=[some (.seq (ns.map D.int)),some (.int c),some (pu ((c.natAbs:Int) * (1 - cell ns 0 % 2)) ((c.natAbs:Int) % 2147483563 + 1)),o3,o4,o5,o6,o7,o8]) (bD (fO (ds:=[.int c,.int (cell ns 0 % 2)]) ?_ ep rfl)) ?_
 . simp only [az,aZ,aS,aO,bv,aT,bt,sIf,bw,bE,bF,asL,bu,bx,ae,fC,f2,f1,fT,asB,aN,aK,bn,aL,bH,bC,bz,aj,ac,bh,bo,au,bA,bG,ax,ao,aG,aF,gI0,ar,aw,ay,aH,aq,al,ag,Dl.isInt,Dl.isBool,Dl.isTup,Zc,Zd,Zt,Zu,Zm,Zn,Ze,Zf,Zg,Zh,Zi,Zj,Zk,Zy,Zz,Zx,av,aP,aE,vI,aA,aD,bc,aB,bj,bm,aJ,e0,aV (C:=fun _ j=>0 < j) (i:=cell ns 0) (j:=2) (by decide)]
 refine aI (δ':=[some (.seq (ns.map D.int)),some (.int c),some (pu a1 b1),some (.lst (ms.map D.int)),o4,o5,o6,o7,o8]) (bD (nC (es:=[]) rfl rfl n1 rfl (jE ms))) ?_
 refine aI (δ':=[some (.seq (ns.map D.int)),some (.int c),some (pu a2 b2),some (.lst (ms.map D.int)),some (.lst (qs.map fr)),o5,o6,o7,o8]) (bD (nC (es:=[.lst (ms.map D.int)]) rfl rfl n2 rfl (cK qs))) ?_
 refine aI (δ':=[some (.seq (ns.map D.int)),some (.int c),some (pu a2 b2),some (.lst (ms.map D.int)),some (.lst (qs.map fr)),some (.tup ((cel ms qs).map fr)),o6,o7,o8]) (bD (fO (ds:=[.lst (ms.map D.int),.tup (qs.map fr)]) rfl ec (cK _))) ?_
 exact kM vQ lp
theorem pL {ns:List Int}:∀ (ks:List Int) (o1 o2 o3 o4 o5 o6 o7 o8:Option D),∃ p1 p2 p3 p4 p5 p6 p7 p8,Dl.forM 1 zL (ks.map D.int) [some (.seq (ns.map D.int)),o1,o2,o3,o4,o5,o6,o7,o8] = some (.nx [some (.seq (ns.map D.int)),p1,p2,p3,p4,p5,p6,p7,p8])
 | [],o1,o2,o3,o4,o5,o6,o7,o8=>⟨o1,o2,o3,o4,o5,o6,o7,o8,rfl⟩
 | k :: ks,o1,o2,o3,o4,o5,o6,o7,o8=>by
  obtain ⟨q2,q3,q4,q5,q6,q7,q8,h⟩:=vX (ns:=ns) (c:=k) (o2:=o2) (o3:=o3) (o4:=o4) (o5:=o5) (o6:=o6) (o7:=o7) (o8:=o8)
  obtain ⟨p1,p2,p3,p4,p5,p6,p7,p8,ih⟩:=pL (ns:=ns) ks (some (.int k)) q2 q3 q4 q5 q6 q7 q8
  refine ⟨p1,p2,p3,p4,p5,p6,p7,p8,?_⟩
  show ((zL [some (.seq (ns.map D.int)),some (.int k),o2,o3,o4,o5,o6,o7,o8]).bind _) = _
  rw [h]
  exact ih
theorem zE (F:Fun K "law" "law" iH f fd)  (hLpurse:HasF P w K mg base 1 "_law_purse" ["_law_cell_here","_law_way"] (fn eN)) (hLnumbers:me P w K mg base 2 "_law_numbers" ["_law_purse_here"] (fnM cP)) (hLtimes:me P w K mg base 3 "_law_times" ["_law_purse_here","_law_mosts_due"] (fnM dG)) (hcell_of:HasF P w K mg base 6 "cell_of" ["most","times"] (fn iy)) (hLnext_wait:HasF P w K mg base 3 "_law_next_wait" ["_law_most","_law_hands"] (fn bX)) (hnext_cell:HasF P w K mg base 3 "next_cell" ["most","cell"] (fn dg)) (hLat:Has P w K mg base 1 "_law_at" ["_law_script","_law_k"] (fn iz)) (hLbehind:HasF P w K mg base 3 "_law_behind" ["_law_hands","_law_wait"] (fn c6)) (hLis_cell:HasF P w K mg base 2 "_law_is_cell" ["_law_found","_law_due"] (fn cQ)) (his_moment:HasF P w K mg base 1 "is_moment" ["most","cell"] (fn cO)) (hLat_moment:HasF P w K mg base 2 "_law_at_moment" ["_law_most","_law_hands"] (fn bP)) (hLcell:HasF P w K mg base 2 "_law_cell" ["_law_most","_law_hands"] (fn d7))  (m_range:mg "range" = none) (m_tuple:mg "tuple" = none):FnOk P w K mg base CX0 7 f fd ["_law_script"] (spLaw K):=by
 have sc:=vc
 refine xA F vc (fun cdv A outer s H E ns hr hl=>?_)
 refine ⟨_,(aW (nW 1 sc.nd PassesOwn.never rfl (jh (yW (qI (ab af ah)) (vD (aa 0) (pe af) (pe af))))
  (aW (bZ 2 sc.nd (dS hLpurse hr (ab (aa 1) (ab (ej (aR hLat hr (ab (aa 0) (ab af ah))) af) ah))))
  (aW (sB 3 sc.nd (cH 2 hLnumbers hr cJ))
  (aW (sB 4 sc.nd (cH 2 hLtimes hr (sJ 3 cJ)))
  (aW (bZ 5 sc.nd (dS hcell_of hr (ab (aa 3) (ab (ur d5 g6 rfl m_tuple d6 (ab (aa 4) ah)) ah))))
  (bq (nW 6 sc.nd PassesOwn.never rfl (qF rfl m_range (ab af ah))
   (aW (bZ 7 sc.nd (dS hLnext_wait hr (ab (aa 3) (ab (aa 4) ah))))
   (aW (bZ 8 sc.nd (dS hnext_cell hr (ab (aa 3) (ab (aa 5) ah))))
   (bq (fI (PWD.pt (nN (sw (aa 7) jC) (kf (sw (aa 8) jC)))) (bq (fI (PWD.pt (nN (pd (aa 7) jC) (kf (pd (aa 8) jC)))) (bq (bU (be pj))) dM)) (aW (bZ 4 sc.nd (dS hLbehind hr (ab (aa 4) (ab (aa 7) ah))))
    (aW (fI (gy (dC (aR hLis_cell.has hr (ab (aa 8) (ab (aR hLcell.has hr (ab (aa 3) (ab (aa 4) ah))) ah))))) (bq (bU (be pj))) dM)
    (aW (fI (km hr.units (aR his_moment.has hr (ab (aa 3) (ab (aa 8) ah))) (aR hLat_moment.has hr (ab (aa 3) (ab (aa 4) ah)))) (bq (bU (be pj))) dM)
    (bq (bZ 5 sc.nd (bQ 8)))))))))))))))))
  (bq (bU (be pj)))),?_⟩
 . show az ((?f:SD) (bf 9 _)) = _
   have e0:bf 9 [.seq (ns.map D.int)] = [some (.seq (ns.map D.int)),none,none,none,none,none,none,none,none]:=by
    show [some (sh (.seq (ns.map D.int))),none,none,none,none,none,none,none,none] = _
    rw [gQ]
   rw [e0]
   obtain ⟨ms,ew⟩:=Am (ns:=ns) (o:=[none,none,none,none,none,none,none,none]) hl 1 13
   obtain ⟨p1,p2,p3,p4,p5,p6,p7,p8,lp⟩:=pL (ns:=ns) ms none none none none none none none none
   exact dJ (aI (kM ew lp) (cw (bM (d:=.bl true) rfl)))
end
theorem Ae {l:PySem.W.OpenLaw} {w:World} {K:PySem.W.Frag} {h:Heap} {mg:Str->Option Value} {fa:Addr} (X:K.In h) (G:h.Ns mainGlobals mg) (hfa:mg "law" = some (.ref fa)) {f0 f1 f3 f4 f5 f6 f7 f8 f9 f10 f11 f12 f13 f14 f15 f16 f17 f18 f19 f20 f21 f22 f23 f24 f25 f26 f27 f28 f29 f30 f31 f32 f33:Addr} {f2:Addr} {od2 an2:Option Addr} {sl2:Array (Option Value)} {oc2 kV2 dc2 pm2 cd2 ct2:Value} {f34:Addr} {od34 an34:Option Addr} {sl34:Array (Option Value)} {oc34 kV34 dc34 pm34 cd34 ct34:Value} {T2 nT2:Nat} {oT2:Value} {dT2:Option Addr} {sT2:Array (Option Value)} {tk2:Tok} 
 (a0:FK K "is_whole" gt f0) (a1:FK K "common_divisor" cR f1) (a3:FK K "lowest" jb f3) (a4:FK K "minus" ke f4) (a5:FK K "summed" ja f5) (a6:FK K "less" nL f6) (a7:FK K "floor_of" gu f7) (a8:FK K "cell_of" ie f8) (a9:FK K "is_past" ic f9) (a10:FK K "broken_parts" du f10) (a11:FK K "broken_part" dQ f11) (a12:FK K "place_of" gq f12) (a13:FK K "next_cell" fu f13) (a14:FK K "is_moment" fB f14) (a15:FK K "behind_moment" c8 f15) (a16:FK K "place_behind_moment" ci f16) (a17:FK K "ranks_of" gn f17) (a18:FK K "_law_at" ig f18) (a19:FK K "_law_purse" eI f19) (a20:FK K "_law_take" fF f20) (a21:FK K "_law_whole" eE f21) (a22:FK K "_law_low" gw f22) (a23:FK K "_law_sum" gv f23) (a24:FK K "_law_time" fE f24) (a25:FK K "_law_times" eF f25) (a26:FK K "_law_numbers" dw f26) (a27:FK K "_law_cell" fG f27) (a28:FK K "_law_least" eJ f28) (a29:FK K "_law_known" eK f29) (a30:FK K "_law_at_moment" cT f30) (a31:FK K "_law_next_wait" cS f31) (a32:FK K "_law_behind" dR f32) (a33:FK K "_law_is_cell" dy f33)
 (a2:PySem.W.nsIn K mainGlobals "fraction" = some (some (.ref f2))) (l2:K.lookup f2 = some ⟨oc2,od2,.func (PySem.W.fnOf "fraction" "fraction" (cD dd) (bR dd) (ak dd) (.ref T2) kV2 dc2 pm2 an2 cd2 ct2),sl2⟩) (t2:K.lookup T2 = some ⟨oT2,dT2,.seq #[.int 1 tk2] nT2,sT2⟩) (c2:PySem.W.codeIn K cd2 "fraction" = true) (k2:PySem.W.keepIn K (.ref f2) = true)
 (a34:PySem.W.nsIn K mainGlobals "law" = some (some (.ref f34))) (l34:K.lookup f34 = some ⟨oc34,od34,.func (PySem.W.fnOf "law" "law" (cD iH) (bR iH) (ak iH) .none kV34 dc34 pm34 an34 cd34 ct34),sl34⟩) (c34:PySem.W.codeIn K cd34 "law" = true) (k34:PySem.W.keepIn K (.ref f34) = true)
 (z_isinstance:PySem.W.nsIn K mainGlobals "isinstance" = some none) (z_int:PySem.W.nsIn K mainGlobals "int" = some none) (z_bool:PySem.W.nsIn K mainGlobals "bool" = some none) (z_tuple:PySem.W.nsIn K mainGlobals "tuple" = some none) (z_zip:PySem.W.nsIn K mainGlobals "zip" = some none) (z_len:PySem.W.nsIn K mainGlobals "len" = some none) (z_any:PySem.W.nsIn K mainGlobals "any" = some none) (z_sorted:PySem.W.nsIn K mainGlobals "sorted" = some none) (z_set:PySem.W.nsIn K mainGlobals "set" = some none) (z_abs:PySem.W.nsIn K mainGlobals "abs" = some none) (z_range:PySem.W.nsIn K mainGlobals "range" = some none) (z_all:PySem.W.nsIn K mainGlobals "all" = some none) :
 ∃ fd:FuncData,(∀ (s:Shared) (v:Value),BindsTo s fd ⟨[v],[]⟩ [("_law_script",v)])/\∀ base:Heap,K.In base->base.Ns mainGlobals mg->FnOk l.prog w K mg base CX0 7 fa fd ["_law_script"] (spLaw K):=by
 have e:=hfa.symm.trans (PySem.W.mg_of X G a34)
 cases e
 have m_isinstance:=PySem.W.mg_none_of X G z_isinstance
 have m_int:=PySem.W.mg_none_of X G z_int
 have m_bool:=PySem.W.mg_none_of X G z_bool
 have m_tuple:=PySem.W.mg_none_of X G z_tuple
 have m_zip:=PySem.W.mg_none_of X G z_zip
 have m_len:=PySem.W.mg_none_of X G z_len
 have m_any:=PySem.W.mg_none_of X G z_any
 have m_sorted:=PySem.W.mg_none_of X G z_sorted
 have m_set:=PySem.W.mg_none_of X G z_set
 have m_abs:=PySem.W.mg_none_of X G z_abs
 have m_range:=PySem.W.mg_none_of X G z_range
 have m_all:=PySem.W.mg_none_of X G z_all
 obtain ⟨_,F0,b0⟩:=a0.get (ps:=["thing"]) fun _ _ _ _ _ _ us hl=>match us,hl with | [_],_=>rfl
 obtain ⟨_,F1,b1⟩:=a1.get (ps:=["number","above_nought"]) fun _ _ _ _ _ _ us hl=>match us,hl with | [_,_],_=>rfl
 have F2:=xH (st:=dd) l2 c2 k2
 have b2:=F2.binds (ps:=["top","bottom"]) (ds:=[]) t2 rfl fun _ _ _ _ _ _ us hl=>match us,hl with | [_,_],_=>⟨_,rfl,rfl⟩
 have e2:=F2.binds (ps:=["top","bottom"]) (ds:=[.int 1 tk2]) t2 rfl fun _ _ _ _ _ _ us hl=>by
  have h1:us.length = 1:=by simpa using hl
  match us,h1 with
  | [_],_=>exact ⟨_,rfl,rfl⟩
 obtain ⟨_,F3,b3⟩:=a3.get (ps:=["top","bottom"]) fun _ _ _ _ _ _ us hl=>match us,hl with | [_,_],_=>rfl
 obtain ⟨_,F4,b4⟩:=a4.get (ps:=["one","other"]) fun _ _ _ _ _ _ us hl=>match us,hl with | [_,_],_=>rfl
 obtain ⟨_,F5,b5⟩:=a5.get (ps:=["one","top","bottom"]) fun _ _ _ _ _ _ us hl=>match us,hl with | [_,_,_],_=>rfl
 obtain ⟨_,F6,b6⟩:=a6.get (ps:=["one","other"]) fun _ _ _ _ _ _ us hl=>match us,hl with | [_,_],_=>rfl
 obtain ⟨_,F7,b7⟩:=a7.get (ps:=["one"]) fun _ _ _ _ _ _ us hl=>match us,hl with | [_],_=>rfl
 obtain ⟨_,F8,b8⟩:=a8.get (ps:=["most","times"]) fun _ _ _ _ _ _ us hl=>match us,hl with | [_,_],_=>rfl
 obtain ⟨_,F9,b9⟩:=a9.get (ps:=["greatest","time"]) fun _ _ _ _ _ _ us hl=>match us,hl with | [_,_],_=>rfl
 obtain ⟨_,F10,b10⟩:=a10.get (ps:=["times"]) fun _ _ _ _ _ _ us hl=>match us,hl with | [_],_=>rfl
 obtain ⟨_,F11,b11⟩:=a11.get (ps:=["time"]) fun _ _ _ _ _ _ us hl=>match us,hl with | [_],_=>rfl
 obtain ⟨_,F12,b12⟩:=a12.get (ps:=["greatest","time","parts"]) fun _ _ _ _ _ _ us hl=>match us,hl with | [_,_,_],_=>rfl
 obtain ⟨_,F13,b13⟩:=a13.get (ps:=["most","cell"]) fun _ _ _ _ _ _ us hl=>match us,hl with | [_,_],_=>rfl
 obtain ⟨_,F14,b14⟩:=a14.get (ps:=["most","cell"]) fun _ _ _ _ _ _ us hl=>match us,hl with | [_,_],_=>rfl
 obtain ⟨_,F15,b15⟩:=a15.get (ps:=["most","cell"]) fun _ _ _ _ _ _ us hl=>match us,hl with | [_,_],_=>rfl
 obtain ⟨_,F16,b16⟩:=a16.get (ps:=["greatest","place","step"]) fun _ _ _ _ _ _ us hl=>match us,hl with | [_,_,_],_=>rfl
 obtain ⟨_,F17,b17⟩:=a17.get (ps:=["cell"]) fun _ _ _ _ _ _ us hl=>match us,hl with | [_],_=>rfl
 obtain ⟨_,F18,b18⟩:=a18.get (ps:=["_law_script","_law_k"]) fun _ _ _ _ _ _ us hl=>match us,hl with | [_,_],_=>rfl
 obtain ⟨_,F19,b19⟩:=a19.get (ps:=["_law_cell_here","_law_way"]) fun _ _ _ _ _ _ us hl=>match us,hl with | [_,_],_=>rfl
 obtain ⟨_,F20,b20⟩:=a20.get (ps:=["_law_purse_here","_law_many"]) fun _ _ _ _ _ _ us hl=>match us,hl with | [_,_],_=>rfl
 obtain ⟨_,F21,b21⟩:=a21.get (ps:=["_law_found"]) fun _ _ _ _ _ _ us hl=>match us,hl with | [_],_=>rfl
 obtain ⟨_,F22,b22⟩:=a22.get (ps:=["_law_top","_law_bottom"]) fun _ _ _ _ _ _ us hl=>match us,hl with | [_,_],_=>rfl
 obtain ⟨_,F23,b23⟩:=a23.get (ps:=["_law_one","_law_other"]) fun _ _ _ _ _ _ us hl=>match us,hl with | [_,_],_=>rfl
 obtain ⟨_,F24,b24⟩:=a24.get (ps:=["_law_purse_here","_law_most","_law_hands"]) fun _ _ _ _ _ _ us hl=>match us,hl with | [_,_,_],_=>rfl
 obtain ⟨_,F25,b25⟩:=a25.get (ps:=["_law_purse_here","_law_mosts_due"]) fun _ _ _ _ _ _ us hl=>match us,hl with | [_,_],_=>rfl
 obtain ⟨_,F26,b26⟩:=a26.get (ps:=["_law_purse_here"]) fun _ _ _ _ _ _ us hl=>match us,hl with | [_],_=>rfl
 obtain ⟨_,F27,b27⟩:=a27.get (ps:=["_law_most","_law_hands"]) fun _ _ _ _ _ _ us hl=>match us,hl with | [_,_],_=>rfl
 obtain ⟨_,F28,b28⟩:=a28.get (ps:=["_law_some"]) fun _ _ _ _ _ _ us hl=>match us,hl with | [_],_=>rfl
 obtain ⟨_,F29,b29⟩:=a29.get (ps:=["_law_most","_law_hands"]) fun _ _ _ _ _ _ us hl=>match us,hl with | [_,_],_=>rfl
 obtain ⟨_,F30,b30⟩:=a30.get (ps:=["_law_most","_law_hands"]) fun _ _ _ _ _ _ us hl=>match us,hl with | [_,_],_=>rfl
 obtain ⟨_,F31,b31⟩:=a31.get (ps:=["_law_most","_law_hands"]) fun _ _ _ _ _ _ us hl=>match us,hl with | [_,_],_=>rfl
 obtain ⟨_,F32,b32⟩:=a32.get (ps:=["_law_hands","_law_wait"]) fun _ _ _ _ _ _ us hl=>match us,hl with | [_,_],_=>rfl
 obtain ⟨_,F33,b33⟩:=a33.get (ps:=["_law_found","_law_due"]) fun _ _ _ _ _ _ us hl=>match us,hl with | [_,_],_=>rfl
 have F34:=wj (st:=iH) l34 c34 k34
 refine ⟨PySem.W.fnOf "law" "law" (cD iH) (bR iH) (ak iH) .none kV34 dc34 pm34 an34 cd34 ct34,fun s v=>.of_eq rfl,fun base _ _=>?_⟩
 have his_whole:=mkP l.prog w base X G a0 (pv F0   m_isinstance m_int m_bool) b0
 have hcommon_divisor:=mkP l.prog w base X G a1 (ji F1   ) b1
 have hless:=mkP l.prog w base X G a6 (xt F6   ) b6
 have hfloor_of:=mkP l.prog w base X G a7 (pA F7   ) b7
 have his_moment:=mkF l.prog w base X G a14 (n5 F14   m_any m_zip) b14
 have hplace_behind_moment:=mkP l.prog w base X G a16 (gB F16   ) b16
 have hranks_of:=mkF l.prog w base X G a17 (pq F17   m_sorted m_set) b17
 have hLat:=mkP l.prog w base X G a18 (qO F18   m_len) b18
 have hLpurse:=mkF l.prog w base X G a19 (mC F19   m_abs) b19
 have hLtake:=mkU l.prog w base X G a20 (n8 F20   ) b20
 have hLwhole:=mkP l.prog w base X G a21 (mw F21   m_isinstance m_int m_bool) b21
 have hLlow:=mkP l.prog w base X G a22 (pC F22   m_abs) b22
 have hLleast:=mkF l.prog w base X G a28 (mD F28   ) b28
 have hLknown:=mkF l.prog w base X G a29 (mE F29   m_zip) b29
 have hlowest:=mkP l.prog w base X G a3 (uv F3 hcommon_divisor  ) b3
 have hsummed:=mkP l.prog w base X G a5 (uu F5 hcommon_divisor  ) b5
 have hbehind_moment:=mkF l.prog w base X G a15 (jF F15 hplace_behind_moment  m_any m_tuple m_zip) b15
 have hLsum:=mkP l.prog w base X G a23 (pB F23 hLlow  ) b23
 have hLtime:=mkU l.prog w base X G a24 (n6 F24 hLtake hLlow  m_len) b24
 have hLnumbers:=mkU l.prog w base X G a26 (j6 F26 hLtake  m_range) b26
 have hLcell:=mkF l.prog w base X G a27 (n9 F27 hLlow  m_zip m_tuple m_len) b27
 have hLat_moment:=mkF l.prog w base X G a30 (jm F30 hLknown  m_any) b30
 have hLis_cell:=mkF l.prog w base X G a33 (j7 F33 hLwhole  m_all m_isinstance m_tuple m_len) b33
 have hfraction:Has l.prog w K mg base 3 "fraction" ["top","bottom"] (fn cf):=⟨⟨_,_,jX F2 hlowest his_whole  ,PySem.W.mg_of X G a2,k2,b2⟩⟩
 have hfractionD:wQ l.prog w K mg base 3 "fraction" ["top","bottom"] [1] (fn cf):=⟨⟨_,_,_,jX F2 hlowest his_whole  ,PySem.W.mg_of X G a2,k2,.cons ⟨_,rfl⟩ .nil,e2⟩⟩
 have hminus:=mkP l.prog w base X G a4 (vP F4 hsummed  ) b4
 have hnext_cell:=mkF l.prog w base X G a13 (n4 F13 his_moment hbehind_moment hranks_of  m_tuple) b13
 have hLtimes:=mkU l.prog w base X G a25 (mB F25 hLtime  ) b25
 have hLnext_wait:=mkF l.prog w base X G a31 (jk F31 hLknown hLleast hLat_moment hLlow  ) b31
 have hLbehind:=mkF l.prog w base X G a32 (lD F32 hLsum  ) b32
 have his_past:=mkP l.prog w base X G a9 (qM F9 hless hfractionD  ) b9
 have hbroken_part:=mkP l.prog w base X G a11 (lC F11 hminus hfractionD hfloor_of  ) b11
 have hbroken_parts:=mkF l.prog w base X G a10 (j5 F10 hbroken_part hfractionD  ) b10
 have hplace_of:=mkF l.prog w base X G a12 (pr F12 his_past hbroken_part hfloor_of hless  m_len) b12
 have hcell_of:=mkF l.prog w base X G a8 (qN F8 hbroken_parts hplace_of his_past  m_tuple m_zip) b8
 exact zE F34 hLpurse hLnumbers hLtimes hcell_of hLnext_wait hnext_cell hLat hLbehind hLis_cell his_moment hLat_moment hLcell  m_range m_tuple
theorem facts {l:PySem.W.OpenLaw} {w:World} {K:PySem.W.Frag} {h:Heap} {mg:Str->Option Value} {fa:Addr} (e:FF K = FE) (X:K.In h) (G:h.Ns mainGlobals mg) (hfa:mg "law" = some (.ref fa)) :
 ∃ fd:FuncData,(∀ (s:Shared) (v:Value),BindsTo s fd ⟨[v],[]⟩ [("_law_script",v)])/\∀ base:Heap,K.In base->base.Ns mainGlobals mg->FnOk l.prog w K mg base CX0 7 fa fd ["_law_script"] (spLaw K):=by
 obtain ⟨e0,e⟩:=Prod.mk.inj e
 obtain ⟨e1,e⟩:=Prod.mk.inj e
 obtain ⟨e2,e⟩:=Prod.mk.inj e
 obtain ⟨t2,e⟩:=Prod.mk.inj e
 obtain ⟨e3,e⟩:=Prod.mk.inj e
 obtain ⟨e4,e⟩:=Prod.mk.inj e
 obtain ⟨e5,e⟩:=Prod.mk.inj e
 obtain ⟨e6,e⟩:=Prod.mk.inj e
 obtain ⟨e7,e⟩:=Prod.mk.inj e
 obtain ⟨e8,e⟩:=Prod.mk.inj e
 obtain ⟨e9,e⟩:=Prod.mk.inj e
 obtain ⟨e10,e⟩:=Prod.mk.inj e
 obtain ⟨e11,e⟩:=Prod.mk.inj e
 obtain ⟨e12,e⟩:=Prod.mk.inj e
 obtain ⟨e13,e⟩:=Prod.mk.inj e
 obtain ⟨e14,e⟩:=Prod.mk.inj e
 obtain ⟨e15,e⟩:=Prod.mk.inj e
 obtain ⟨e16,e⟩:=Prod.mk.inj e
 obtain ⟨e17,e⟩:=Prod.mk.inj e
 obtain ⟨e18,e⟩:=Prod.mk.inj e
 obtain ⟨e19,e⟩:=Prod.mk.inj e
 obtain ⟨e20,e⟩:=Prod.mk.inj e
 obtain ⟨e21,e⟩:=Prod.mk.inj e
 obtain ⟨e22,e⟩:=Prod.mk.inj e
 obtain ⟨e23,e⟩:=Prod.mk.inj e
 obtain ⟨e24,e⟩:=Prod.mk.inj e
 obtain ⟨e25,e⟩:=Prod.mk.inj e
 obtain ⟨e26,e⟩:=Prod.mk.inj e
 obtain ⟨e27,e⟩:=Prod.mk.inj e
 obtain ⟨e28,e⟩:=Prod.mk.inj e
 obtain ⟨e29,e⟩:=Prod.mk.inj e
 obtain ⟨e30,e⟩:=Prod.mk.inj e
 obtain ⟨e31,e⟩:=Prod.mk.inj e
 obtain ⟨e32,e⟩:=Prod.mk.inj e
 obtain ⟨e33,e⟩:=Prod.mk.inj e
 obtain ⟨e34,e⟩:=Prod.mk.inj e
 obtain ⟨z_isinstance,e⟩:=Prod.mk.inj e
 obtain ⟨z_int,e⟩:=Prod.mk.inj e
 obtain ⟨z_bool,e⟩:=Prod.mk.inj e
 obtain ⟨z_tuple,e⟩:=Prod.mk.inj e
 obtain ⟨z_zip,e⟩:=Prod.mk.inj e
 obtain ⟨z_len,e⟩:=Prod.mk.inj e
 obtain ⟨z_any,e⟩:=Prod.mk.inj e
 obtain ⟨z_sorted,e⟩:=Prod.mk.inj e
 obtain ⟨z_set,e⟩:=Prod.mk.inj e
 obtain ⟨z_abs,e⟩:=Prod.mk.inj e
 obtain ⟨z_range,e⟩:=Prod.mk.inj e
 have z_all:=e
 obtain ⟨a2,k2,_,_,_,_,_,_,_,_,_,l2,c2⟩:=Hd.fv_inv e2
 obtain ⟨_,_,_,_,_,t2⟩:=Hd.intsAt_inv t2
 obtain ⟨a34,k34,_,_,_,_,_,_,_,_,_,l34,c34⟩:=Hd.fv_inv e34
 exact Ae X G hfa (FK.of2 e0) (FK.of2 e1) (FK.of2 e3) (FK.of2 e4) (FK.of2 e5) (FK.of2 e6) (FK.of2 e7) (FK.of2 e8) (FK.of2 e9) (FK.of2 e10) (FK.of2 e11) (FK.of2 e12) (FK.of2 e13) (FK.of2 e14) (FK.of2 e15) (FK.of2 e16) (FK.of2 e17) (FK.of2 e18) (FK.of2 e19) (FK.of2 e20) (FK.of2 e21) (FK.of2 e22) (FK.of2 e23) (FK.of2 e24) (FK.of2 e25) (FK.of2 e26) (FK.of2 e27) (FK.of2 e28) (FK.of2 e29) (FK.of2 e30) (FK.of2 e31) (FK.of2 e32) (FK.of2 e33) a2 l2 t2 c2 k2 a34 l34 c34 k34 z_isinstance z_int z_bool z_tuple z_zip z_len z_any z_sorted z_set z_abs z_range z_all
end
end Mine
open PySem PySem.W PyProof.Rows
set_option maxRecDepth 100000 in
set_option maxHeartbeats 0 in
theorem PySem.Challenge.cw_watchyard_k54_next_cells_by_waiting_holds : PySem.Challenge.rw_watchyard_k54_next_cells_by_waiting.Holds := by
 w_on;refine holds_law Mine.said fun said=>?_
 refine holds_open (q:=Mine.VW) (loose:=Mine.LO) (Xt:=Mine.XT) (XP:=XL Mine.VW []) (Yf:=Hook.obs Mine.HK) (Ya:=Hook.val Mine.HK) (YP:=Hook.says Mine.HK) (N:=3654) Mine.left (Hook.of Mine.HK) (Hook.keeps Mine.HK) (fun s e=>xl_of s (Bool.and_eq_true_iff.mp e).1) XL.keeps (by rfl) (by rfl) (by rfl) (fun s e=>recFacts_of (Bool.and_eq_true_iff.mp e).2) (by rfl) (by first | assumption | decide +kernel) (by decide +kernel) ⟨rfl,rfl,rfl,rfl,rfl,by decide +kernel⟩ ?hw ?hc
 (case hw=>w_witness2)
 exact Hd.walkE (l:=PySem.Challenge.rw_watchyard_k54_next_cells_by_waiting) (n:=63) (k:=7) (x:="_law_script") (T:=fun K=>Mine.FF K = Mine.FE) (sp:=fun K=>Dl.spLaw K) rfl (by decide) rfl ⟨rfl,by decide,by decide⟩ (fun _ _ Y=>Y) (fun _ _ _ _ _ e X G h=>Mine.facts e X G h) fun _ _ a ns hl _ hS=>⟨a,ns,rfl,hS,hl,fun _=>rfl⟩
