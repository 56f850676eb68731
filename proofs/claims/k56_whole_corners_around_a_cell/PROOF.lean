import PyProof.Rows.All
import Wide.All
import OpenK.AllK
import Wide.FinOn
import Lean
import PyProof.EqAt
import PyProof.EqKinds
import PyProof.TupleCall
import PyProof.NeKinds
import KE.IntBitsLaws
import KE.KUnpack
import KE.LcSums
import PyProof.ConsumeWalk
import PyProof.DictWalks
import PyProof.Rows.DictUnroll
import PyProof.Rows.Range3
import PyProof.Draws
import PyProof.EnumStmt
import PyProof.EnumFor
import PyProof.Walk
import PyProof.WalkLemmas
import PyProof.AutoSeq1
import PyProof.RaisesAny
import PyProof.MeetsIn
import PyProof.ZipIter
import PyProof.Rows.SetFrom
import PyProof.Rows.SortShell
import PyProof.Rows.SortWalk
import PyProof.CollectWalk
import KE.KDictSum
import KE.BitLaws
import PyProof.SetRoads
import PySem.Challenge.RW_watchyard_k56_whole_corners_around_a_cel
set_option Elab.async false
set_option linter.all false
set_option maxRecDepth 100000
set_option Elab.async false
set_option linter.all false
set_option maxRecDepth 100000
set_option maxHeartbeats 4000000
abbrev Za:=@Option.bind_eq_some_iff
abbrev Zb:=@Option.map_eq_some_iff
abbrev Zc:=@Option.bind_some
abbrev Zd:=@List.getElem?_cons_zero
abbrev Ze:=@List.getElem?_cons_succ
abbrev Zf:=@List.length_append
abbrev Zg:=@List.length_map
abbrev Zh:=@List.length_cons
abbrev Zi:=@List.mem_cons_self
abbrev Zj:=@List.mem_cons_of_mem
abbrev Zk:=@List.mem_singleton
abbrev Zl:=@List.mem_map
abbrev Zm:=@List.mem_append
abbrev Zn:=@List.mem_cons
abbrev Zo:=@List.getD_eq_getElem?_getD
abbrev Zp:=@List.getElem?_eq_getElem
abbrev Zq:=@List.nodup_nil
abbrev Zr:=@PySem.W.Frag
abbrev Zs:=@Bool.false_ne_true
abbrev Zt:=@Nat.lt_of_lt_of_le
abbrev Zu:=@List.mem_append_right
abbrev Zv:=@decide_eq_false
abbrev Zw:=@decide_eq_true
abbrev Zx:=@List.size_toArray
abbrev Zy:=@Option.some.inj
abbrev Zz:=@List.not_mem_nil
abbrev ZA:=@Nat.ne_of_lt
abbrev ZB:=@Nat.lt_irrefl
abbrev ZC:=@Array.length_toList
abbrev ZD:=@List.getElem?_map
abbrev ZE:=@List.getElem?_append_right
abbrev ZF:=@List.mem_of_getElem?
abbrev ZG:=@List.getElem?_eq_some_iff
abbrev ZH:=@Nat.le_refl
abbrev ZI:=@Bool.and_eq_true
namespace L2
open PySem PySem.Spec PyProof.Rows
def bK (s:Stmt):Arguments:=match s with
 | .FunctionDef _ a _ _ _ _ _ _ _ _=>a
 | _=>{ posonlyargs:=[],args:=[],vararg:=none,kwonlyargs:=[],kw_defaults:=[],kwarg:=none,defaults:=[] }
def aV (s:Stmt):List Stmt:=match s with
 | .FunctionDef _ _ b _ _ _ _ _ _ _=>b
 | _=>[]
def aj (s:Stmt):Scope:=match s with
 | .FunctionDef _ _ _ _ _ _ sc _ _ _=>sc
 | _=>{ kind:=.function,names:=[],isGenerator:=false,isCoroutine:=false }
end L2
namespace Hd
open PySem PySem.Spec PyProof.Rows L2 PySem.W
def Kof (as:List Addr) (h:Heap):Zr:=as.filterMap fun a=>(h.get? a).map fun o=>(a,o)
theorem uj:∀ (as:List Addr) (h:Heap),(Kof as h).In h
 | [],h,a,o,e=>by cases e
 | b :: r,h,a,o,e=>by
  unfold Kof at e;rw [List.filterMap_cons] at e;cases hb:h.get? b with
  | none=>rw [hb] at e;exact uj r h a o e
  | some o' =>
   rw [hb] at e;change List.lookup a ((b,o') :: Kof r h)=some o at e;rw [List.lookup_cons] at e;cases hc:a == b with
   | true=>rw [hc] at e;cases e;rw [beq_iff_eq.mp hc];exact hb
   | false=>rw [hc] at e;exact uj r h a o e
def hk {α:Type} (as:List Addr) (F:Zr->α) (v:α):PySem.W.Hook where
 α:=α
 obs:=fun s=>F (Kof as s.heap)
 val:=fun _=>v
 says:=fun _ h=>∃ K:Zr,K.In h/\F K=v
 of:=fun _ s e=>⟨_,uj as s.heap,e⟩
 keeps:=fun _ _ _ x k=>Exists.elim x fun K y=>⟨K,y.1.keeps k,y.2⟩
abbrev FT:=Option (Option Value)×Bool×Option (Str×Str×Arguments×FuncBody×Scope×Addr×List (Str×Addr)×Value×Addr×Bool)
def fv (K:Zr) (x:Str) (f:Addr):FT :=
 (PySem.W.nsIn K mainGlobals x,PySem.W.keepIn K (.ref f),match K.lookup f with
  | some ⟨_,_,.func d,_⟩=>some (d.name,d.qualname,d.params,d.body,d.scope,d.globals,d.closure,d.defaults,d.builtins,PySem.W.codeIn K d.code x)
  | _=>none)
def fe (x:Str) (st:Stmt) (dV:Value) (f:Addr):FT:=(some (some (Value.ref f)),true,some (x,x,bK st,FuncBody.stmts (aV st),aj st,mainGlobals,[],dV,builtinsNs,true))
theorem fv_inv {K:Zr} {x:Str} {st:Stmt} {dV:Value} {f:Addr} (e:fv K x f=fe x st dV f):PySem.W.nsIn K mainGlobals x=some (some (.ref f))/\PySem.W.keepIn K (.ref f)=true /\
 ∃ (oc:Value) (od:Option Addr) (kV doc pm:Value) (an:Option Addr) (cdv ct:Value) (osl:Array (Option Value)),K.lookup f=some ⟨oc,od,.func (PySem.W.fnOf x x (bK st) (aV st) (aj st) dV kV doc pm an cdv ct),osl⟩/\PySem.W.codeIn K cdv x=true:=by
 obtain ⟨e1,e2⟩:=Prod.mk.inj e;obtain ⟨e2,e3⟩:=Prod.mk.inj e2;refine ⟨e1,e2,?_⟩;revert e3;cases K.lookup f with
 | none=>intro e3;cases e3
 | some o =>
  obtain ⟨oc,od,dt,osl⟩:=o;cases dt with
  | func d =>
   intro e3;obtain ⟨a1,a2,a3,a4,a5,a6,a7,a8,a9,b1,b2,b3,b4,b5,b6⟩:=d;obtain ⟨h1,y1⟩:=Prod.mk.inj (Zy e3);obtain ⟨h2,y2⟩:=Prod.mk.inj y1;obtain ⟨h3,y3⟩:=Prod.mk.inj y2;obtain ⟨h4,y4⟩:=Prod.mk.inj y3;obtain ⟨h5,y5⟩:=Prod.mk.inj y4;obtain ⟨h6,y6⟩:=Prod.mk.inj y5;obtain ⟨h7,y7⟩:=Prod.mk.inj y6;obtain ⟨h8,y8⟩:=Prod.mk.inj y7;obtain ⟨h9,y9⟩:=Prod.mk.inj y8;clear e3 y1 y2 y3 y4 y5 y6 y7 y8;dsimp only at h1 h2 h3 h4 h5 h6 h7 h8 h9 y9;subst h1 h2 h3 h4 h5 h6 h7 h8 h9;exact ⟨oc,od,a9,b1,b2,b3,b4,b5,osl,rfl,y9⟩
  | _=>intro e3;cases e3
def intsAt (K:Zr) (T:Addr):Option (List (Option Int)):=match K.lookup T with
 | some ⟨_,_,.seq xs _,_⟩=>some (xs.toList.map fun v=>match v with | .int i _=>some i | _=>none)
 | _=>none
theorem intsAt_inv {K:Zr} {T:Addr} {i:Int} (e:intsAt K T=some [some i]):∃ (oT:Value) (dT:Option Addr) (tk:Tok) (nT:Nat) (sT:Array (Option Value)),K.lookup T=some ⟨oT,dT,.seq #[.int i tk] nT,sT⟩:=by
 unfold intsAt at e;revert e;cases K.lookup T with
 | none=>intro e;cases e
 | some o =>
  obtain ⟨oc,od,dt,osl⟩:=o;cases dt with
  | seq xs n =>
   intro e;obtain ⟨l⟩:=xs;cases l with
   | nil=>cases e
   | cons v r =>
    cases r with
    | cons v' r'=>cases (List.cons.inj (Zy e)).2
    | nil =>
     cases v with
     | int j t=>cases e;exact ⟨_,_,_,_,_,rfl⟩
     | _=>cases e
  | _=>intro e;cases e
theorem left_one {p q:Program} {loose:List Str} {Xt:Shared->Bool} {α:Type} {Yf:Shared->α} {Ya:World->α} {N:Nat} {g0:Bool} {m₀:Nat} {ann:Option Value}
 (e:opening p=plainProg p.main.scope.names) (hN:Nat.ble 600 N=true) (f:∀ s,fenceModules? p s=some s)
 (size:∀ w:World,((boot_heap w.params).isNs mainGlobals,(boot_heap w.params).objs.size,(boot_heap w.params).nsMap mainGlobals "__annotations__")=(true,m₀,ann))
 (CD:∀ (w:World) (os:OsState),(topRun treeTable p w m₀ ann N ⟨boot_heap w.params,Array.mk [],boot_drawn,boot_toks,os⟩ (topStub p)).map (fun s=>((staticsOk (importedModules p.main.body) (boot_heap w.params) s.heap && namesBound p s.heap && gensDone s && laidKept (boot_heap w.params) s.heap),Yf s))=some (true,Ya w))
 (CC:∀ (w:World) (os:OsState),(topRun treeTable p w m₀ ann N ⟨boot_heap w.params,Array.mk [],boot_drawn,boot_toks,os⟩ (topStub p)).map (fun s=>openSeen q loose (importedModules p.main.body) Xt g0 s)=some (openGood q loose)):LeftO p q loose Xt Yf Ya N g0:=fun w=>by
 obtain ⟨⟨h,gs,d,k,os⟩,e,e'⟩:=Zb.mp (boot_open e hN f w);obtain ⟨rfl,e'⟩:=Prod.mk.inj e';obtain ⟨rfl,e'⟩:=Prod.mk.inj e';obtain ⟨rfl,rfl⟩:=Prod.mk.inj e';obtain ⟨z1,z2⟩:=Prod.mk.inj (size w);obtain ⟨z2,z3⟩:=Prod.mk.inj z2;obtain ⟨s₁,r,l⟩:=Zb.mp (CD w os);obtain ⟨l1,l3⟩:=Prod.mk.inj l;have l2:=CC w os;rw [r] at l2;have t:topFrom treeTable p w N ⟨boot_heap w.params,Array.mk [],boot_drawn,boot_toks,os⟩=some s₁:=by
  unfold topFrom;dsimp only;rw [z1,z2,z3];show (topRun treeTable p w m₀ ann N ⟨boot_heap w.params,Array.mk [],boot_drawn,boot_toks,os⟩ (topStub p)).bind _=_;rw [r];show (match staticsOk (importedModules p.main.body) (boot_heap w.params) s₁.heap && namesBound p s₁.heap && gensDone s₁ && laidKept (boot_heap w.params) s₁.heap with | true=>_ | false=>_)=_
  rw [l1]
 unfold openEnds;rw [e];show ((topFrom treeTable p w N _).map _)=_;rw [t];exact congrArg some (Prod.ext (Zy l2) l3)
end Hd
namespace Mine
open PySem PySem.Spec PyProof.Rows L2
def top (i:Nat):Stmt:=PySem.Challenge.pw_watchyard_k56_whole_corners_around_a_cel.main.body.getD i (.Pass ⟨0,0,0,0⟩)
abbrev fS:Stmt:=top 4
abbrev bX:Stmt:=top 5
abbrev oY:Stmt:=top 10
abbrev fU:Stmt:=top 11
abbrev eF:Stmt:=top 19
abbrev bh:Stmt:=top 21
abbrev fQ:Stmt:=top 22
abbrev jB:Stmt:=top 24
abbrev io:Stmt:=top 26
abbrev dL:Stmt:=top 27
abbrev eJ:Stmt:=top 28
abbrev dI:Stmt:=top 29
abbrev fW:Stmt:=top 30
abbrev dM:Stmt:=top 35
abbrev jA:Stmt:=top 7
abbrev jz:Stmt:=top 9
abbrev cr:Stmt:=top 20
abbrev ij:Stmt:=top 23
abbrev fV:Stmt:=top 31
abbrev eI:Stmt:=top 32
abbrev cG:Stmt:=top 34
abbrev dN:Stmt:=top 38
abbrev cz:Stmt:=top 6
abbrev kP:Stmt:=top 8
abbrev eE:Stmt:=top 18
abbrev dJ:Stmt:=top 33
abbrev c8:Stmt:=top 36
abbrev cH:Stmt:=top 37
abbrev ii:Stmt:=top 14
abbrev c7:Stmt:=top 16
abbrev cF:Stmt:=top 15
abbrev fR:Stmt:=top 17
abbrev ik:Stmt:=top 13
abbrev iQ:Stmt:=top 39
abbrev PW:Program:=PySem.Challenge.pw_watchyard_k56_whole_corners_around_a_cel
abbrev VW:Program:=PySem.W.view PW [1,2,4,5,7,8,9,10,11,13,14,15,16,17,18,19,20,21,22,23,24,26,27,28,29,30,31,32,33,34,35,36,37,38,39]
abbrev LO:List Str:=["fraction"]
def ads:List Addr:=[mainGlobals,46,53,61,68,75,82,89,96,101,108,115,122,127,132,137,142,149,154,159,164,171,178,185,192,199,206,213,220,225,230,235,242,247,252,45,52,60,67,74,81,88,95,100,107,114,121,126,131,136,141,148,153,158,163,170,177,184,191,198,205,212,219,224,229,234,241,246,251,54]
abbrev FF (K:Zr):=(Hd.fv K "is_whole" 46,
 Hd.fv K "common_divisor" 53,
 Hd.fv K "fraction" 61,
 Hd.intsAt K 54,
 Hd.fv K "lowest" 68,
 Hd.fv K "minus" 75,
 Hd.fv K "summed" 82,
 Hd.fv K "less" 89,
 Hd.fv K "floor_of" 96,
 Hd.fv K "cell_of" 101,
 Hd.fv K "is_past" 108,
 Hd.fv K "broken_parts" 115,
 Hd.fv K "broken_part" 122,
 Hd.fv K "place_of" 127,
 Hd.fv K "next_cell" 132,
 Hd.fv K "is_moment" 137,
 Hd.fv K "behind_moment" 142,
 Hd.fv K "place_behind_moment" 149,
 Hd.fv K "ranks_of" 154,
 Hd.fv K "corners" 159,
 Hd.fv K "corner" 164,
 Hd.fv K "_law_at" 171,
 Hd.fv K "_law_purse" 178,
 Hd.fv K "_law_take" 185,
 Hd.fv K "_law_whole" 192,
 Hd.fv K "_law_low" 199,
 Hd.fv K "_law_sum" 206,
 Hd.fv K "_law_time" 213,
 Hd.fv K "_law_times" 220,
 Hd.fv K "_law_numbers" 225,
 Hd.fv K "_law_known" 230,
 Hd.fv K "_law_shares" 235,
 Hd.fv K "_law_is_mean" 242,
 Hd.fv K "_law_go_on" 247,
 Hd.fv K "law" 252,
 PySem.W.nsIn K mainGlobals "isinstance",
 PySem.W.nsIn K mainGlobals "int",
 PySem.W.nsIn K mainGlobals "bool",
 PySem.W.nsIn K mainGlobals "tuple",
 PySem.W.nsIn K mainGlobals "zip",
 PySem.W.nsIn K mainGlobals "len",
 PySem.W.nsIn K mainGlobals "any",
 PySem.W.nsIn K mainGlobals "sorted",
 PySem.W.nsIn K mainGlobals "set",
 PySem.W.nsIn K mainGlobals "range",
 PySem.W.nsIn K mainGlobals "abs",
 PySem.W.nsIn K mainGlobals "enumerate",
 PySem.W.nsIn K mainGlobals "list",
 PySem.W.nsIn K mainGlobals "all")
abbrev FE:=(Hd.fe "is_whole" fS .none 46,
 Hd.fe "common_divisor" bX .none 53,
 Hd.fe "fraction" cz (.ref 54) 61,
 (some [some (1:Int)]),
 Hd.fe "lowest" jA .none 68,
 Hd.fe "minus" kP .none 75,
 Hd.fe "summed" jz .none 82,
 Hd.fe "less" oY .none 89,
 Hd.fe "floor_of" fU .none 96,
 Hd.fe "cell_of" ik .none 101,
 Hd.fe "is_past" ii .none 108,
 Hd.fe "broken_parts" cF .none 115,
 Hd.fe "broken_part" c7 .none 122,
 Hd.fe "place_of" fR .none 127,
 Hd.fe "next_cell" eE .none 132,
 Hd.fe "is_moment" eF .none 137,
 Hd.fe "behind_moment" cr .none 142,
 Hd.fe "place_behind_moment" bh .none 149,
 Hd.fe "ranks_of" fQ .none 154,
 Hd.fe "corners" ij .none 159,
 Hd.fe "corner" jB .none 164,
 Hd.fe "_law_at" io .none 171,
 Hd.fe "_law_purse" dL .none 178,
 Hd.fe "_law_take" eJ .none 185,
 Hd.fe "_law_whole" dI .none 192,
 Hd.fe "_law_low" fW .none 199,
 Hd.fe "_law_sum" fV .none 206,
 Hd.fe "_law_time" eI .none 213,
 Hd.fe "_law_times" dJ .none 220,
 Hd.fe "_law_numbers" cG .none 225,
 Hd.fe "_law_known" dM .none 230,
 Hd.fe "_law_shares" c8 .none 235,
 Hd.fe "_law_is_mean" cH .none 242,
 Hd.fe "_law_go_on" dN .none 247,
 Hd.fe "law" iQ .none 252,
 (some none:Option (Option Value)),
 (some none:Option (Option Value)),
 (some none:Option (Option Value)),
 (some none:Option (Option Value)),
 (some none:Option (Option Value)),
 (some none:Option (Option Value)),
 (some none:Option (Option Value)),
 (some none:Option (Option Value)),
 (some none:Option (Option Value)),
 (some none:Option (Option Value)),
 (some none:Option (Option Value)),
 (some none:Option (Option Value)),
 (some none:Option (Option Value)),
 (some none:Option (Option Value)))
abbrev HK:PySem.W.Hook:=Hd.hk ads FF FE
abbrev XT (s:Shared):Bool:=PySem.W.xlAt VW [] s && PySem.W.recOk [] s
theorem CD (w:World) (os:OsState):(PySem.W.topRun treeTable PW w 11 (some (.ref 6)) 3594 ⟨PySem.W.boot_heap w.params,Array.mk [],PySem.W.boot_drawn,PySem.W.boot_toks,os⟩ (PySem.W.topStub PW)).map (fun s=>((PySem.W.staticsOk (importedModules PW.main.body) (PySem.W.boot_heap w.params) s.heap && PySem.W.namesBound PW s.heap && PySem.W.gensDone s && PySem.W.laidKept (PySem.W.boot_heap w.params) s.heap),PySem.W.Hook.obs HK s))=some (true,PySem.W.Hook.val HK w):=by
 rw [PySem.W.Fast.te14082659384304107361]
 kernel_rfl
theorem CC (w:World) (os:OsState):(PySem.W.topRun treeTable PW w 11 (some (.ref 6)) 3594 ⟨PySem.W.boot_heap w.params,Array.mk [],PySem.W.boot_drawn,PySem.W.boot_toks,os⟩ (PySem.W.topStub PW)).map (fun s=>PySem.W.openSeen VW LO (importedModules PW.main.body) XT true s)=some (PySem.W.openGood VW LO):=by
 rw [PySem.W.Fast.te14082659384304107361,PySem.W.Fast.te4187177175401517315]
 kernel_rfl
theorem left:PySem.W.LeftO PW VW LO XT (PySem.W.Hook.obs HK) (PySem.W.Hook.val HK) 3594 :=
 Hd.left_one (m₀:=11) (ann:=some (.ref 6)) (by kernel_rfl) (by kernel_rfl) (fun s=>by kernel_rfl) (fun w=>by kernel_rfl) CD CC
theorem said:PySem.Challenge.rw_watchyard_k56_whole_corners_around_a_cel.wellSaid=true:=by
 rw [PySem.W.Fast.te9446332074065402090]
 kernel_rfl
end Mine
namespace L2
open PySem PySem.Spec PyProof.Rows
abbrev Key:=Sum Int Str
def og:Key->Value->Bool
 | .inl k,v=>Value.isInt k v
 | .inr x,v=>Value.isStrOf x v
def FR (w:World):Key->Int
 | .inl k=>hashInt k
 | .inr x=>hashStr w x
theorem bo:∀ {k:Key} {v:Value},og k v=true->(∃ i t,k=Sum.inl i/\v=Value.int i t) \/ (∃ x t,k=Sum.inr x/\v=Value.str x t)
 | .inl i,v,h=>by
  obtain ⟨t,e⟩:=Value.isInt_shape (k:=i) (v:=v) h;exact .inl ⟨i,t,rfl,e⟩
 | .inr x,v,h=>by
  obtain ⟨t,e⟩:=Value.isStrOf_shape (x:=x) (v:=v) h;exact .inr ⟨x,t,rfl,e⟩
theorem wM (i:Int) (t:Tok):og (.inl i) (.int i t)=true:=by simp [og,Value.isInt]
theorem wL (x:Str) (t:Tok):og (.inr x) (.str x t)=true:=by simp [og,Value.isStrOf]
theorem DB (a b:Int):decide ((Sum.inl a:Key)=Sum.inl b)=(a == b):=by
 by_cases e:a=b
 . subst e;simp
 . have h:¬ (Sum.inl a:Key)=Sum.inl b:=fun q=>e (Sum.inl.inj q)
   rw [Zv h];exact (beq_eq_false_iff_ne.mpr e).symm
theorem Dx (a b:Str):decide ((Sum.inr a:Key)=Sum.inr b)=decide (a=b):=by
 by_cases e:a=b
 . subst e;simp
 . have h:¬ (Sum.inr a:Key)=Sum.inr b:=fun q=>e (Sum.inr.inj q)
   rw [Zv h,Zv e]
theorem Dz (a:Int) (b:Str):decide ((Sum.inl a:Key)=Sum.inr b)=false:=Zv (fun q=>nomatch q)
theorem Dy (a:Str) (b:Int):decide ((Sum.inr a:Key)=Sum.inl b)=false:=Zv (fun q=>nomatch q)
def gh (prog:Program) (w:World):PySem.KeyKind prog w Key where
 is:=og
 hash:=FR w
 inj:=fun v a b ha hb=>by
  rcases bo ha with ⟨i,t,rfl,rfl⟩ | ⟨x,t,rfl,rfl⟩
  . rcases bo hb with ⟨j,u,rfl,e⟩ | ⟨y,u,rfl,e⟩
    . injection e with e1 _;rw [e1]
    . exact nomatch e
  . rcases bo hb with ⟨j,u,rfl,e⟩ | ⟨y,u,rfl,e⟩
    . exact nomatch e
    . injection e with e1 _;rw [e1]
 byValue:=fun k v h=>by
  rcases bo h with ⟨i,t,rfl,rfl⟩ | ⟨x,t,rfl,rfl⟩ <;> rfl
 pyHash:=fun hv h=>by
  rcases bo hv with ⟨i,t,rfl,rfl⟩ | ⟨x,t,rfl,rfl⟩
  . exact wpAny_pyHash_int h
  . exact wpAny_pyHash_str h
 eqBool:=fun hu hv h=>by
  rcases bo hu with ⟨i,t,rfl,rfl⟩ | ⟨x,t,rfl,rfl⟩
  . rcases bo hv with ⟨j,u,rfl,rfl⟩ | ⟨y,u,rfl,rfl⟩
    . rw [DB] at h;exact wpAny_eqBool_int h
    . rw [Dz] at h;exact SeqAt.EqAt.int_str i t y u _ _ _ _ h
  . rcases bo hv with ⟨j,u,rfl,rfl⟩ | ⟨y,u,rfl,rfl⟩
    . rw [Dy] at h;exact SeqAt.EqAt.str_int x t j u _ _ _ _ h
    . rw [Dx] at h;exact wpAny_eqBool_str h
 «strs»:=fun k x t v h=>by
  rcases bo h with ⟨i,u,rfl,e⟩ | ⟨y,u,rfl,e⟩
  . exact nomatch e
  . injection e with e1 _
    subst e1;cases v <;> rfl
theorem rc (prog:Program) (w:World) (i:Int) (t:Tok):(gh prog w).is (.inl i) (.int i t)=true:=wM i t
theorem qZ (prog:Program) (w:World) (x:Str) (t:Tok):(gh prog w).is (.inr x) (.str x t)=true:=wL x t
end L2
namespace L2
open PySem PySem.Spec PyProof.Rows
inductive V where
 | non | bl (b:Bool) | int (i:Int) | str (x:Str) | byt (b:Array UInt8) | flt (b:UInt64) | ref (a:Addr) | ty (n:String)
 deriving DecidableEq
def RelV:V->Value->Prop
 | .non,u=>u=Value.none
 | .bl b,u=>u=Value.bool b
 | .int i,u=>∃ t,u=Value.int i t
 | .str x,u=>∃ t,u=Value.str x t
 | .byt b,u=>∃ t,u=Value.bytes b t
 | .flt b,u=>∃ t,u=Value.float b t
 | .ref a,u=>u=Value.ref a
 | .ty n,u=>u=Value.type n
abbrev Vals:List V->List Value->Prop:=Paired RelV
theorem Vals.length {xs:List V} {us:List Value} (r:Vals xs us):xs.length=us.length:=Paired.length r
theorem Vals.get:∀ {xs:List V} {us:List Value} {i:Nat} {x:V},Vals xs us->xs[i]? = some x->∃ u,us[i]? = some u/\RelV x u
 | _,_,_,_,.nil,e=>by simp at e
 | _,_,0,_,.cons r _,e=>by simp at e;subst e;exact ⟨_,rfl,r⟩
 | _,_,i+1,x,.cons _ t,e=>by
  obtain ⟨u,h1,h2⟩:=Vals.get (i:=i) (x:=x) t (by simpa using e)
  exact ⟨u,by simpa using h1,h2⟩
theorem Vals.set {x:V} {u:Value} (r:RelV x u):∀ {xs:List V} {us:List Value} (i:Nat),Vals xs us->Vals (xs.set i x) (us.set i u)
 | _,_,_,.nil=>.nil
 | _,_,0,.cons _ t=>.cons r t
 | _,_,i+1,.cons q t=>.cons q (Vals.set r i t)
theorem Vals.append:∀ {xs ys:List V} {us ws:List Value},Vals xs us->Vals ys ws->Vals (xs++ys) (us++ws)
 | _,_,_,_,.nil,s=>s
 | _,_,_,_,.cons r t,s=>.cons r (Vals.append t s)
theorem Vals.take:∀ {xs:List V} {us:List Value} (n:Nat),Vals xs us->Vals (xs.take n) (us.take n)
 | _,_,0,_=>.nil
 | _,_,_+1,.nil=>.nil
 | _,_,n+1,.cons r t=>.cons r (Vals.take n t)
theorem Vals.drop:∀ {xs:List V} {us:List Value} (n:Nat),Vals xs us->Vals (xs.drop n) (us.drop n)
 | _,_,0,r=>r
 | _,_,_+1,.nil=>.nil
 | _,_,n+1,.cons _ t=>Vals.drop n t
def Fh:Option V->Option Value->Prop
 | some v,some u=>RelV v u
 | none,none=>True
 | _,_=>False
def KV {κ:Type}:List (κ×V)->List (κ×Value)->Prop:=Paired fun (p:κ×V) (q:κ×Value)=>p.1=q.1/\RelV p.2 q.2
def kV:Key->V
 | .inl i=>.int i
 | .inr x=>.str x
inductive HO where
 | lst (xs:List V)
 | tup (xs:List V)
 | dK (kvs:List (Key×V)) | dT (kvs:List (List Key×V))
 | set (S:Int->Bool) (n:Nat)
 | ins (C dx:Addr) (fs:List (Str×V))
 | own (x:Addr)
 | xd (fs:List (Str×V))
 | met (f x:Addr)
 | rng (lo hi:Int)
 | frz (o:Obj) (u:HO)
 | tbl (ps:Array Value)
 | ext (φ:Heap->Prop)
abbrev Hp:=Addr->Option HO
def upd (H:Hp) (a:Addr) (o:HO):Hp:=fun b=>if b=a then some o else H b
theorem aw {H:Hp} {a:Addr} {o:HO}:upd H a o a=some o:=by unfold upd;rw [if_pos rfl]
theorem al {H:Hp} {a b:Addr} {o:HO} (h:b ≠ a):upd H a o b=H b:=by unfold upd;rw [if_neg h]
theorem aA {H:Hp} {a b:Addr} {o:HO} (h:H a=some o) (h':H b=none):a ≠ b:=by
 intro e;subst e;rw [h] at h';cases h'
section
variable (P:Program) (w:World)
def ObjOk (H:Hp) (h:Heap) (a:Addr):HO->Prop
 | .lst xs=>xs.length<=sizeLine/\∃ (its:List Value) (n:Nat),Vals xs its/\h.get? a=some { cls:=.type "list",data:=.seq its.toArray n }
 | .tup xs=>xs.length<=sizeLine/\∃ its:List Value,Vals xs its/\IsTup h a its.toArray
 | .dK kvs=>kvs.length<=sizeLine/\(a == sysModules)=false/\∃ vs,KV kvs vs/\h.DictOf (gh P w) a vs
 | .dT kvs=>kvs.length<=sizeLine/\(a == sysModules)=false/\∃ xs:List (List Key×Addr×Value),
  Paired (fun (p:List Key×V) (q:List Key×Addr×Value)=>p.1=q.1/\H q.2.1=some (.tup (p.1.map kV))/\RelV p.2 q.2.2) kvs xs /\
  ∃ o es ep,h.get? a=some o/\o.ExactDict/\o.data=.dict es ep/\es.toList=xs.map (entryOfKey (tupleKind (gh P w)))/\(xs.map (·.1)).Nodup
 | .set S n=>h.SetOf (intKind P w) a S n
 | .ins C dx fs=>H dx=some (.own a)/\fs.length<=1000/\dx ≠ a/\h.get? a=some (PySem.W.instObj C dx) /\
  ∃ mA,h.Ns1 dx mA/\(∀ f,Fh (fs.lookup f) (mA f))/\PySem.Within mA (fs.map (·.1))
 | .own _=>∃ o,h.get? a=some o
 | .xd fs=>∃ mA,h.Ns1 a mA/\∀ f,Fh (fs.lookup f) (mA f)
 | .rng lo hi=>∃ t u v,h.get? a=some { cls:=.type "range",data:=.fields #[.int lo t,.int hi u,.int 1 v] }
 | .frz o u=>h.get? a=some o/\ObjOk H h a u
 | .tbl ps=>h.get? a=some { cls:=.none,data:=.fields ps }
 | .met f x=>h.get? a=some (PySem.W.methodObj (.ref f) (.ref x))
 | .ext φ=>φ h/\(∃ o,h.get? a=some o)/\∀ h1 h2:Heap,φ h1->(∀ o,h1.get? a=some o->h2.get? a=some o)->φ h2
def HOk (H:Hp) (h:Heap):Prop:=∀ a o,H a=some o->ObjOk P w H h a o
end
section
variable {P:Program} {w:World} {H H':Hp} {h h':Heap} {a:Addr} {o:HO}
theorem ObjOk.lt (x:ObjOk P w H h a o):a < h.objs.size:=by
 cases o with
 | lst xs=>obtain ⟨_,_,_,_,e⟩:=x;exact Heap.lt_size e
 | tup xs=>obtain ⟨_,_,_,p⟩:=x;exact p.lt
 | dK kvs=>obtain ⟨_,_,_,_,o,_,_,e,_⟩:=x;exact Heap.lt_size e
 | dT kvs=>obtain ⟨_,_,_,_,o,_,_,e,_⟩:=x;exact Heap.lt_size e
 | set S n=>obtain ⟨o,_,_,_,e,_⟩:=x;exact Heap.lt_size e
 | ins C dx fs=>obtain ⟨_,_,_,e,_⟩:=x;exact Heap.lt_size e
 | own y=>obtain ⟨_,e⟩:=x;exact Heap.lt_size e
 | xd fs=>obtain ⟨_,⟨_,_,_,e,_⟩,_⟩:=x;exact Heap.lt_size e
 | rng lo hi=>obtain ⟨_,_,_,e⟩:=x;exact Heap.lt_size e
 | frz ob u=>obtain ⟨e,_⟩:=x;exact Heap.lt_size e
 | tbl ps=>exact Heap.lt_size (show h.get? a=some _ from x)
 | met f y=>exact Heap.lt_size (show h.get? a=some _ from x)
 | ext φ=>obtain ⟨_,⟨_,e⟩,_⟩:=x;exact Heap.lt_size e
theorem Paired.mapP {α β:Type} {F G:α->β->Prop}:∀ {l₁:List α} {l₂:List β},Paired F l₁ l₂->(∀ a b,F a b->G a b)->Paired G l₁ l₂
 | _,_,.nil,_=>.nil
 | _,_,.cons r t,f=>.cons (f _ _ r) (Paired.mapP t f)
theorem ObjOk.stay (x:ObjOk P w H h a o) (k:∀ b u,(b=a \/ H b=some (.own a))->h.get? b=some u->h'.get? b=some u)
 (ho:∀ b,H b=some (.own a)->H' b=some (.own a)) (ht:∀ b xs,H b=some (.tup xs)->H' b=some (.tup xs)):ObjOk P w H' h' a o:=by
 induction o with
 | lst xs=>obtain ⟨z,its,n,r,e⟩:=x;exact ⟨z,its,n,r,k _ _ (.inl rfl) e⟩
 | tup xs=>obtain ⟨z,its,r,ob,e,c⟩:=x;exact ⟨z,its,r,ob,k _ _ (.inl rfl) e,c⟩
 | dK kvs=>obtain ⟨z,y,vs,r,ob,es,ep,e,c⟩:=x;exact ⟨z,y,vs,r,ob,es,ep,k _ _ (.inl rfl) e,c⟩
 | dT kvs =>
  obtain ⟨z,y,xs,r,ob,es,ep,e,c⟩:=x;exact ⟨z,y,xs,Paired.mapP r fun p q z=>⟨z.1,ht _ _ z.2.1,z.2.2⟩,ob,es,ep,k _ _ (.inl rfl) e,c⟩
 | set S n=>obtain ⟨ob,es,ep,t,e,c⟩:=x;exact ⟨ob,es,ep,t,k _ _ (.inl rfl) e,c⟩
 | ins C dx fs =>
  obtain ⟨d,z,ne,e,mA,⟨od,es,ep,e2,c⟩,r⟩:=x;exact ⟨ho _ d,z,ne,k _ _ (.inl rfl) e,mA,⟨od,es,ep,k _ _ (.inr d) e2,c⟩,r⟩
 | own y=>obtain ⟨ob,e⟩:=x;exact ⟨ob,k _ _ (.inl rfl) e⟩
 | xd fs=>obtain ⟨mA,⟨od,es,ep,e,c⟩,r⟩:=x;exact ⟨mA,⟨od,es,ep,k _ _ (.inl rfl) e,c⟩,r⟩
 | rng lo hi=>obtain ⟨t,u,v,e⟩:=x;exact ⟨t,u,v,k _ _ (.inl rfl) e⟩
 | frz ob u ih=>obtain ⟨e,q⟩:=x;exact ⟨k _ _ (.inl rfl) e,ih q⟩
 | tbl ps =>
  have e:h.get? a=some { cls:=.none,data:=.fields ps }:=x;show h'.get? a=some { cls:=.none,data:=.fields ps };exact k a _ (.inl rfl) e
 | met f y =>
  have e:h.get? a=some (PySem.W.methodObj (.ref f) (.ref y)):=x;show h'.get? a=some (PySem.W.methodObj (.ref f) (.ref y));exact k a _ (.inl rfl) e
 | ext φ=>obtain ⟨p,⟨o,e⟩,st⟩:=x;exact ⟨st _ _ p fun o q=>k _ _ (.inl rfl) q,⟨o,k _ _ (.inl rfl) e⟩,st⟩
theorem HOk.lt (x:HOk P w H h) (e:H a=some o):a < h.objs.size:=(x a o e).lt
theorem HOk.fresh (x:HOk P w H h) (e:h.objs.size<=a):H a=none:=by
 cases q:H a with
 | none=>rfl
 | some u=>exact absurd (Zt (x.lt q) e) (ZB _)
theorem HOk.kept (x:HOk P w H h) (k:∀ b u,h.get? b=some u->h'.get? b=some u):HOk P w H h':=fun a o e =>
 (x a o e).stay (fun b u _ q=>k b u q) (fun _ q=>q) fun _ _ q=>q
theorem HOk.laid (x:HOk P w H h) (k:∀ b u,h.get? b=some u->h'.get? b=some u) (hp:h.objs.size<=a) (new:ObjOk P w (upd H a o) h' a o):HOk P w (upd H a o) h':=fun b u e=>by
 have hn:=x.fresh hp
 by_cases hb:b=a
 . subst hb;rw [aw] at e;cases e;exact new
 . rw [al hb] at e;exact (x b u e).stay (fun c v _ q=>k c v q) (fun c q=>by rw [al (aA q hn)];exact q) fun c xs q=>by rw [al (aA q hn)];exact q
end
def Rd (H:Hp) (a:Addr) (u:HO):Prop:=H a=some u \/ ∃ o,H a=some (.frz o u)
theorem Rd.ok {P:Program} {w:World} {H:Hp} {h:Heap} {a:Addr} {u:HO} (r:Rd H a u) (x:HOk P w H h):ObjOk P w H h a u:=by
 rcases r with r | ⟨o,r⟩
 . exact x a u r
 . obtain ⟨_,q⟩:=x a _ r;exact q
def Mut:Option HO->Prop
 | some (.lst _)=>True
 | some (.dK _)=>True
 | some (.dT _)=>True
 | some (.set _ _)=>True
 | some (.ins _ _ _)=>True
 | some (.ext _)=>True
 | _=>False
section
variable {P:Program} {w:World} {H:Hp} {h h':Heap} {x e:Addr} {o':HO}
theorem HOk.write (ok:HOk P w H h) (mu:Mut (H x)) (he:e=x \/ H e=some (.own x)) (k:∀ b u,b ≠ e->h.get? b=some u->h'.get? b=some u) (heo:∃ u,h'.get? e=some u)
 (new:ObjOk P w (upd H x o') h' x o'):HOk P w (upd H x o') h':=fun b u q=>by
 have nown:∀ c y,H c=some (.own y)->c ≠ x:=fun c y r z=>by subst z;rw [r] at mu;exact mu
 have ntup:∀ c xs,H c=some (.tup xs)->c ≠ x:=fun c xs r z=>by subst z;rw [r] at mu;exact mu
 by_cases hb:b=x
 . subst hb;rw [aw] at q;cases q;exact new
 . rw [al hb] at q
   by_cases hbe:b=e
   . have q':H b=some (.own x):=by
      rcases he with z | z
      . exact absurd (hbe.trans z) hb
      . rw [hbe];exact z
     rw [q] at q';cases q';obtain ⟨v,hv⟩:=heo;exact ⟨v,by rw [hbe];exact hv⟩
   . refine (ok b u q).stay (fun c v hc r=>k c v ?_ r) (fun c r=>by rw [al (nown c b r)];exact r) fun c xs r=>by rw [al (ntup c xs r)];exact r
     rcases hc with rfl | hc
     . exact hbe
     . rintro rfl
       rcases he with z | z
       . exact nown c b hc z
       . rw [hc] at z;cases z;exact hb rfl
end
structure Un (fs ex:List Addr) (H H':Hp) (h h':Heap):Prop where
 keep:∀ b o,h.get? b=some o->H b=none->b ∉ fs->b ∉ ex->h'.get? b=some o
 slot:∀ b o,h.get? b=some o->H b=none->b∈fs->b ∉ ex->∃ sl,h'.get? b=some { o with slots:=sl }
 free:∀ b o,h.get? b=some o->H b=none->b ∉ ex->H' b=none
 there:∀ b o,h.get? b=some o->b ∉ ex->∃ o',h'.get? b=some o'
 tups:∀ b xs,H b=some (.tup xs)->H' b=some (.tup xs)
 frzs:∀ b o u,H b=some (.frz o u)->H' b=some (.frz o u)
 tbls:∀ b ps,H b=some (.tbl ps)->∃ more,H' b=some (.tbl (ps++more))
section
variable {fs fs' ex ex':List Addr} {H H1 H2:Hp} {h h1 h2 h':Heap} {a x e:Addr} {o:HO}
theorem Un.any (u:Un fs ex H H1 h h1) {b:Addr} {ob:Obj} (q:h.get? b=some ob) (n:H b=none) (hx:b ∉ ex):∃ sl,h1.get? b=some { ob with slots:=sl }:=by
 by_cases hb:b∈fs
 . exact u.slot b ob q n hb hx
 . exact ⟨ob.slots,u.keep b ob q n hb hx⟩
theorem Un.kept (k:∀ b u,h.get? b=some u->h'.get? b=some u):Un fs ex H H h h' :=
 ⟨fun b ob q _ _ _=>k b ob q,fun b ob q _ _ _=>⟨ob.slots,k b ob q⟩,fun _ _ _ n _=>n,fun b ob q _=>⟨ob,k b ob q⟩,fun _ _ q=>q,fun _ _ _ q=>q,fun _ ps q=>⟨#[],by rw [q];simp⟩⟩
theorem Un.refl:Un fs ex H H h h:=Un.kept fun _ _ q=>q
theorem Un.laid (k:∀ b u,h.get? b=some u->h'.get? b=some u) (hp:h.objs.size<=a) (hn:H a=none):Un fs ex H (upd H a o) h h' where
 keep:=fun b u q _ _ _=>k b u q
 slot:=fun b u q _ _ _=>⟨u.slots,k b u q⟩
 free:=fun b u q n _=>by rw [al (ZA (Zt (Heap.lt_size q) hp))];exact n
 there:=fun b u q _=>⟨u,k b u q⟩
 tups:=fun b xs q=>by rw [al (aA q hn)];exact q
 frzs:=fun b u xs q=>by rw [al (aA q hn)];exact q
 tbls:=fun b ps q=>⟨#[],by rw [al (aA q hn),q];simp⟩
theorem Un.write (mu:Mut (H x)) (he:e=x \/ H e=some (.own x)) (k:∀ b u,b ≠ e->h.get? b=some u->h'.get? b=some u) (heo:∃ u,h'.get? e=some u):Un fs ex H (upd H x o) h h':=by
 have hx:∀ b,H b=none->b ≠ x:=fun b n z=>by subst z;rw [n] at mu;exact mu
 have hb:∀ b,H b=none->b ≠ e:=fun b n z=>by
  subst z;rcases he with r | r
  . exact hx b n r
  . rw [n] at r;cases r
 have hm:∀ b u,H b=some u->¬ Mut (some u)->b ≠ x:=fun b u q nm z=>by subst z;rw [q] at mu;exact nm mu
 refine ⟨fun b u q n _ _=>k b u (hb b n) q,fun b u q n _ _=>⟨u.slots,k b u (hb b n) q⟩,fun b u q n _=>by rw [al (hx b n)];exact n,fun b u q _=>?_,
  fun b xs q=>by rw [al (hm b _ q fun z=>z)];exact q,fun b u xs q=>by rw [al (hm b _ q fun z=>z)];exact q,fun b ps q=>⟨#[],by rw [al (hm b _ q fun z=>z),q];simp⟩⟩
 by_cases hbe:b=e
 . subst hbe;exact heo
 . exact ⟨u,k b u hbe q⟩
end
def trk (h:Heap) (H:Hp):List Addr:=(List.range h.objs.size).filter fun a=>(H a).isSome
def pQ (h:Heap) (H:Hp):Heap:=PySem.W.hideAll h (trk h H)
theorem wR (h:Heap) (H:Hp):(pQ h H).objs.size=h.objs.size:=PySem.W.hideAll_size _ _
theorem zp {h:Heap} {H:Hp} {b:Addr} {o:Obj} (e:h.get? b=some o) (n:H b=none):(pQ h H).get? b=some o :=
 PySem.W.hideAll_get _ e fun hm=>by
  have q:(H b).isSome=true:=(List.mem_filter.mp hm).2;rw [n] at q;simp at q
theorem AV {h:Heap} {H:Hp} {b:Addr} {o:Obj} (e:(pQ h H).get? b=some o):h.get? b=some o/\H b=none:=by
 have e':h.get? b=some o:=PySem.W.of_hideAll (trk h H) e;refine ⟨e',?_⟩;cases q:H b with
 | none=>rfl
 | some x =>
  have hm:b∈trk h H:=List.mem_filter.mpr ⟨List.mem_range.mpr (Heap.lt_size e'),by simp [q]⟩
  have z:(pQ h H).get? b=none:=PySem.W.hideAll_none (trk h H) hm;rw [z] at e;cases e
def Bz (g h:Heap) (L:Addr):List (Addr×Obj):=(List.range h.objs.size).filterMap fun a=>if a=L \/ (g.get? a).isSome=true then none else (h.get? a).map fun o=>(a,o)
def rest (g h:Heap) (L d:Addr):List (Addr×Obj):=(Bz g h L).filter fun p=>decide (p.1 ≠ d)
end L2
namespace L2
open PySem PySem.Spec PyProof.Rows
structure Mod (K:Zr) (mg:Str->Option Value) (base:Heap):Prop where
 kin:K.In base
 glob:base.Ns mainGlobals mg
 blt:∃ mb,base.Ns builtinsNs mb/\∀ x:Str,x ≠ "__name__"->mb x=bootBuiltins x
 nolimit:base.NoLimit
structure Cx where
 prog:Program
 w:World
 K:Zr
 mg:Str->Option Value
 base:Heap
 A:Around
 N:List Str
 s₀:Shared
 H₀:Hp
 env:Env
 outer:List Env
 stack:List Env
 ex:List Addr
 fn:Str->Bool
 calm:Bool
 pn:List (Addr×Obj)
 xe:Value->Shared->Prop
def frs (l:List Env):List Addr:=l.filterMap (·.frame)
abbrev Cx.fs (X:Cx):List Addr:=frs X.outer
def Vis (sc:Scope) (x:Str):Prop:=sc.names.lookup x=some .local \/ sc.names.lookup x=some .cell \/ sc.names.lookup x=some .free
def Loc (sc:Scope) (x:Str):Prop:=sc.names.lookup x=some .local \/ sc.names.lookup x=some .cell
def Gg (env:Env) (h:Heap) (m:Str->Option Value) (x:Str) (u:Value):Prop :=
 (env.kindOf x=some .local/\m x=some u) \/ ((env.kindOf x=some .cell \/ env.kindOf x=some .free)/\∃ c,env.cells.lookup x=some c/\h.IsCell c (some u))
structure Cx.Ok (X:Cx):Prop where
 mod:Mod X.K X.mg X.base
 kind:X.env.scope.kind=.function
 glob:X.env.globals=mainGlobals
 blt:X.env.builtins=builtinsNs
 above:X.s₀.heap.objs.size<=X.env.locals
 inj:∀ x y c,X.env.cells.lookup x=some c->X.env.cells.lookup y=some c->x=y
 has:∀ x,(X.env.kindOf x=some .cell \/ X.env.kindOf x=some .free)->∃ c,X.env.cells.lookup x=some c
 cab:∀ x c,X.fn x=true->X.env.cells.lookup x=some c->X.s₀.heap.objs.size<=c
 hd:X.calm=true->X.A.handled=none
 frames:X.A.frames=some X.stack
 stk:X.stack=X.outer \/ (X.stack=X.env :: X.outer/\X.env.frame=some X.env.locals)
 exf:∀ b∈X.ex,b ≠ X.env.locals/\∀ x c,X.env.cells.lookup x=some c->c ≠ b
 bs:∀ b o,X.base.get? b=some o->X.s₀.heap.get? b=some o/\X.H₀ b=none
 bsz:X.base.objs.size<=X.s₀.heap.objs.size
 noex:∀ b o,X.base.get? b=some o->b ∉ X.ex
 exfs:∀ b∈X.ex,b ∉ X.fs
 funs:X.s₀.heap.FunFrames X.base X.outer
 frf:∀ b∈X.fs,X.H₀ b=none
structure Inv (X:Cx) (pins:List (Addr×Obj)) (σ:List (Option V)) (H:Hp) (s:Shared):Prop where
 ok:X.Ok
 os:s.os=X.s₀.os
 bare:AllBare s.gens
 base:Un X.fs X.ex X.H₀ H X.s₀.heap s.heap
 loc:∃ m,s.heap.Ns X.env.locals m/\∀ (i:Nat) (x:Str) (v:V),X.N[i]? = some x->σ[i]? = some (some v)->Vis X.env.scope x->∃ u,RelV v u/\Gg X.env s.heap m x u
 cell:∀ x c,X.env.cells.lookup x=some c->∃ v,s.heap.IsCell c v
 free:H X.env.locals=none
 freeC:∀ x c,X.env.cells.lookup x=some c->H c=none
 pin:∀ p∈X.pn++pins,s.heap.get? p.1=some p.2/\H p.1=none/\p.1 ≠ X.env.locals/\p.1 ∉ X.fs/\∀ v,p.2.data ≠ .cell v
 hok:HOk X.prog X.w H s.heap
 len:σ.length=X.N.length
section
variable {X:Cx} {pins:List (Addr×Obj)} {σ:List (Option V)} {H H':Hp} {s:Shared} {h':Heap}
theorem Cx.Ok.nofr (ok:X.Ok) {b:Addr} {o:Obj} (e:X.base.get? b=some o):b ∉ X.fs:=fun hb=>by
 have:=(ok.funs.mem hb).1;rw [e] at this;cases this
theorem Inv.bs (I:Inv X pins σ H s):∀ b o,X.base.get? b=some o->s.heap.get? b=some o/\H b=none:=fun b o e =>
 ⟨I.base.keep b o (I.ok.bs b o e).1 (I.ok.bs b o e).2 (I.ok.nofr e) (I.ok.noex b o e),I.base.free b o (I.ok.bs b o e).1 (I.ok.bs b o e).2 (I.ok.noex b o e)⟩
theorem Inv.bk (I:Inv X pins σ H s):∀ b o,X.base.get? b=some o->s.heap.get? b=some o:=fun b o e=>(I.bs b o e).1
theorem Inv.mod (I:Inv X pins σ H s):Mod X.K X.mg X.base:=I.ok.mod
theorem Inv.kIn (I:Inv X pins σ H s):X.K.In s.heap:=I.ok.mod.kin.keeps I.bk
theorem Inv.lt (I:Inv X pins σ H s):X.env.locals < s.heap.objs.size:=let ⟨_,hn,_⟩:=I.loc;hn.lt
theorem Inv.sz (I:Inv X pins σ H s):X.s₀.heap.objs.size<=s.heap.objs.size:=Nat.le_trans I.ok.above (Nat.le_of_lt I.lt)
theorem Inv.nofs (I:Inv X pins σ H s) {a:Addr} (h:s.heap.objs.size<=a):a ∉ X.fs:=fun hb=>by
 obtain ⟨_,o,ho,_⟩:=I.ok.funs.mem hb;exact absurd (Zt (Heap.lt_size ho) (Nat.le_trans I.sz h)) (ZB _)
theorem Inv.cne (I:Inv X pins σ H s):∀ x c,X.env.cells.lookup x=some c->c ≠ X.env.locals:=fun x c e z=>by
 obtain ⟨v,o,ho,hd⟩:=I.cell x c e;obtain ⟨m,⟨o',es,ep,ho',hd',_⟩,_⟩:=I.loc;rw [z,ho'] at ho;cases ho;rw [hd'] at hd;cases hd
theorem Inv.funs (I:Inv X pins σ H s):s.heap.FunFrames X.base X.outer:=by
 have all:∀ (l:List Env),(∀ b∈frs l,b∈X.fs)->X.s₀.heap.FunFrames X.base l->s.heap.FunFrames X.base l:=by
  intro l
  induction l with
  | nil=>intro _ _;trivial
  | cons env r ih =>
   intro hs hl;obtain ⟨hk,⟨L,o,hf,hn,ho,hd⟩,hr⟩:=hl;have hL:L∈X.fs:=hs L (by unfold frs;rw [List.filterMap_cons,hf];exact Zi)
   obtain ⟨sl,e⟩:=I.base.slot L o ho (I.ok.frf L hL) hL fun z=>I.ok.exfs L z hL
   exact ⟨hk,⟨L,_,hf,hn,e,hd⟩,ih (fun b hb=>hs b (by unfold frs;rw [List.filterMap_cons,hf];exact Zj _ hb)) hr⟩
 exact all X.outer (fun _ hb=>hb) I.ok.funs
theorem Inv.stack (I:Inv X pins σ H s):s.heap.FunFrames X.base X.stack:=by
 rcases I.ok.stk with e | ⟨e,hf⟩
 . rw [e];exact I.funs
 . rw [e];obtain ⟨m,hn,_⟩:=I.loc;refine .cons (by rw [I.ok.kind];decide) hf hn ?_ I.funs
   exact Heap.get?_none_of_le (Nat.le_trans I.ok.bsz I.ok.above)
theorem Inv.stkSub (I:Inv X pins σ H s):∀ b∈frs X.stack,b∈X.env.locals :: X.fs:=fun b hb=>by
 rcases I.ok.stk with e | ⟨e,hf⟩
 . rw [e] at hb;exact Zj _ hb
 . rw [e] at hb;unfold frs at hb;rw [List.filterMap_cons,hf] at hb;exact hb
theorem Inv.stkFree (I:Inv X pins σ H s):∀ b∈frs X.stack,H b=none:=fun b hb=>by
 rcases Zn.mp (I.stkSub b hb) with e | hb
 . rw [e];exact I.free
 . obtain ⟨_,o,ho,_⟩:=I.ok.funs.mem hb;exact I.base.free b o ho (I.ok.frf b hb) fun z=>I.ok.exfs b z hb
theorem Inv.step {g':Array GenState} {t':Nat} {d':Drawn} {ch:List Addr} (I:Inv X pins σ H s)
 (hch:∀ b∈ch,(b∈X.ex \/ X.s₀.heap.objs.size<=b)/\b ≠ X.env.locals/\(∀ x c,X.env.cells.lookup x=some c->c ≠ b)/\∀ p∈X.pn++pins,p.1 ≠ b)
 (keep:∀ b o,b ≠ X.env.locals->b ∉ X.fs->b ∉ ch->s.heap.get? b=some o->H b=none->h'.get? b=some o)
 (slot:∀ b o,b ≠ X.env.locals->b∈X.fs->b ∉ ch->s.heap.get? b=some o->H b=none->∃ sl,h'.get? b=some { o with slots:=sl }) (free:∀ b o,b ∉ ch->s.heap.get? b=some o->H b=none->H' b=none)
 (there:∀ b o,b ∉ ch->s.heap.get? b=some o->∃ o',h'.get? b=some o')
 (tups:∀ b xs,H b=some (.tup xs)->H' b=some (.tup xs)) (frzs:∀ b o u,H b=some (.frz o u)->H' b=some (.frz o u)) (tbls:∀ b ps,H b=some (.tbl ps)->∃ more,H' b=some (.tbl (ps++more)))
 (ns:∀ m,s.heap.Ns X.env.locals m->h'.Ns X.env.locals m) (hok:HOk X.prog X.w H' h') (hg:AllBare g') :
 Inv X pins σ H' { s with heap:=h',gens:=g',drawn:=d',toks:=t' }:=by
 have neL:∀ b o,X.s₀.heap.get? b=some o->b ≠ X.env.locals:=fun b o e=>ZA (Zt (Heap.lt_size e) I.ok.above)
 have neC:∀ b o,X.s₀.heap.get? b=some o->b ∉ X.ex->b ∉ ch:=fun b o e hx hb=>by
  rcases (hch b hb).1 with z | z
  . exact hx z
  . exact absurd (Zt (Heap.lt_size e) z) (ZB _)
 have cellK:∀ x c,X.env.cells.lookup x=some c->∀ v,s.heap.IsCell c v->h'.IsCell c v:=fun x c e v ⟨o,ho,hd⟩=>by
  have nch:c ∉ ch:=fun z=>(hch c z).2.2.1 x c e rfl
  by_cases hc:c∈X.fs
  . obtain ⟨sl,q⟩:=slot c o (I.cne x c e) hc nch ho (I.freeC x c e);exact ⟨_,q,hd⟩
  . exact ⟨o,keep c o (I.cne x c e) hc nch ho (I.freeC x c e),hd⟩
 refine ⟨I.ok,I.os,hg,⟨fun b o e n hb hx=>?_,fun b o e n hb hx=>?_,fun b o e n hx=>?_,fun b o e hx=>?_,fun b xs e=>tups b xs (I.base.tups b xs e),fun b o xs e=>frzs b o xs (I.base.frzs b o xs e),fun b ps e=>?_⟩,?_,fun x c e=>?_,?_,fun x c e=>?_,fun p hp=>?_,hok,I.len⟩
 . exact keep b o (neL b o e) hb (neC b o e hx) (I.base.keep b o e n hb hx) (I.base.free b o e n hx)
 . obtain ⟨sl,e1⟩:=I.base.slot b o e n hb hx;obtain ⟨sl',e2⟩:=slot b _ (neL b o e) hb (neC b o e hx) e1 (I.base.free b o e n hx);exact ⟨sl',e2⟩
 . obtain ⟨o',e1⟩:=I.base.there b o e hx;exact free b o' (neC b o e hx) e1 (I.base.free b o e n hx)
 . obtain ⟨o',e1⟩:=I.base.there b o e hx;exact there b o' (neC b o e hx) e1
 . obtain ⟨m1,e1⟩:=I.base.tbls b ps e;obtain ⟨m2,e2⟩:=tbls b _ e1;exact ⟨m1++m2,by rw [e2,Array.append_assoc]⟩
 . obtain ⟨m,hn,hl⟩:=I.loc;refine ⟨m,ns m hn,fun i x v e1 e2 e3=>?_⟩
   obtain ⟨u,r,l⟩:=hl i x v e1 e2 e3;refine ⟨u,r,?_⟩;rcases l with l | ⟨k,c,e,z⟩
   . exact .inl l
   . exact .inr ⟨k,c,e,cellK x c e _ z⟩
 . obtain ⟨v,z⟩:=I.cell x c e;exact ⟨v,cellK x c e v z⟩
 . obtain ⟨m,⟨o,_,_,ho,_⟩,_⟩:=I.loc;exact free _ o (fun z=>(hch _ z).2.1 rfl) ho I.free
 . obtain ⟨v,o,ho,hd⟩:=I.cell x c e;exact free c o (fun z=>(hch c z).2.2.1 x c e rfl) ho (I.freeC x c e)
 . obtain ⟨e,n,ne,nf,d⟩:=I.pin p hp;have nch:p.1 ∉ ch:=fun z=>(hch p.1 z).2.2.2 p hp rfl
   exact ⟨keep p.1 p.2 ne nf nch e n,free p.1 p.2 nch e n,ne,nf,d⟩
theorem Inv.un {t':Nat} (I:Inv X pins σ H s) (u:Un X.fs [] H H' s.heap h') (hok:HOk X.prog X.w H' h'):Inv X pins σ H' { s with heap:=h',toks:=t' }:=by
 obtain ⟨m,⟨o,es,ep,ho,r⟩,_⟩:=id I.loc;obtain ⟨sl,hL⟩:=u.any ho I.free (by simp)
 exact I.step (g':=s.gens) (d':=s.drawn) (ch:=[]) (fun _ z=>nomatch z) (fun b o _ hb _ e n=>u.keep b o e n hb (by simp)) (fun b o _ hb _ e n=>u.slot b o e n hb (by simp)) (fun b o _ e n=>u.free b o e n (by simp)) (fun b o _ e=>u.there b o e (by simp)) u.tups u.frzs u.tbls (fun m' hm=>by
  obtain ⟨o',es',ep',ho',r'⟩:=hm;rw [ho] at ho';cases ho';exact ⟨_,es',ep',hL,r'⟩) hok I.bare
theorem Inv.call {g':Array GenState} {t':Nat} {d':Drawn} {ch:List Addr} (I:Inv X pins σ H s) (u:Un (frs X.stack) ch H H' s.heap h') (hok:HOk X.prog X.w H' h') (hg:AllBare g')
 (hch:∀ b∈ch,(b∈X.ex \/ X.s₀.heap.objs.size<=b)/\b ≠ X.env.locals/\(∀ x c,X.env.cells.lookup x=some c->c ≠ b)/\∀ p∈X.pn++pins,p.1 ≠ b) :
 Inv X pins σ H' { s with heap:=h',gens:=g',drawn:=d',toks:=t' }:=by
 obtain ⟨m,⟨o,es,ep,ho,r⟩,_⟩:=id I.loc;obtain ⟨sl,hL⟩:=u.any ho I.free fun z=>(hch _ z).2.1 rfl
 exact I.step (ch:=ch) hch (fun b o hL hb hc e n=>u.keep b o e n (fun z=>(Zn.mp (I.stkSub b z)).elim hL hb) hc) (fun b o _ _ hc e n=>u.any e n hc) (fun b o hc e n=>u.free b o e n hc) (fun b o hc e=>u.there b o e hc) u.tups u.frzs u.tbls (fun m' hm=>by
  obtain ⟨o',es',ep',ho',r'⟩:=hm;rw [ho] at ho';cases ho';exact ⟨_,es',ep',hL,r'⟩) hok hg
theorem Inv.turned {t':Nat} {it:Addr} (I:Inv X pins σ H s) (k:∀ b o,b ≠ it->s.heap.get? b=some o->h'.get? b=some o) (hn:H it=none) (hL:it ≠ X.env.locals)
 (h1:it∈X.ex \/ X.s₀.heap.objs.size<=it) (h2:∀ x c,X.env.cells.lookup x=some c->c ≠ it) (h3:∀ p∈X.pn++pins,p.1 ≠ it):Inv X pins σ H { s with heap:=h',toks:=t' }:=by
 have nit:∀ b u,H b=some u->b ≠ it:=fun b u e z=>by rw [z,hn] at e;cases e
 refine I.step (g':=s.gens) (d':=s.drawn) (ch:=[it]) (fun b hb=>?_) (fun b o _ _ hc e _=>k b o (fun z=>hc (by simp [z])) e) (fun b o _ _ hc e _=>⟨o.slots,k b o (fun z=>hc (by simp [z])) e⟩) (fun _ _ _ _ n=>n)
  (fun b o hc e=>⟨o,k b o (fun z=>hc (by simp [z])) e⟩) (fun _ _ e=>e) (fun _ _ _ e=>e) (fun b ps e=>⟨#[],by rw [e];simp⟩) (fun m hm=>?_) (fun b u e=>?_) I.bare
 . have e:b=it:=by simpa using hb
   subst e;exact ⟨h1,hL,h2,h3⟩
 . obtain ⟨o,es,ep,ho,r⟩:=hm;exact ⟨o,es,ep,k _ o (Ne.symm hL) ho,r⟩
 . refine (I.hok b u e).stay (fun c v hc q=>k c v ?_ q) (fun _ q=>q) fun _ _ q=>q
   rcases hc with z | z
   . rw [z];exact nit b u e
   . exact nit c _ z
theorem Inv.tok (I:Inv X pins σ H s) (t:Nat):Inv X pins σ H { s with toks:=t }:=I.un (h':=s.heap) (t':=t) Un.refl I.hok
theorem Inv.kept {t':Nat} (I:Inv X pins σ H s) (k:∀ b u,s.heap.get? b=some u->h'.get? b=some u):Inv X pins σ H { s with heap:=h',toks:=t' }:=I.un (Un.kept k) (I.hok.kept k)
theorem Inv.laid {a:Addr} {o:HO} {t':Nat} (I:Inv X pins σ H s) (k:∀ b u,s.heap.get? b=some u->h'.get? b=some u) (hp:s.heap.objs.size<=a) (new:ObjOk X.prog X.w (upd H a o) h' a o) :
 Inv X pins σ (upd H a o) { s with heap:=h',toks:=t' }:=I.un (Un.laid k hp (I.hok.fresh hp)) (I.hok.laid k hp new)
theorem Inv.write {x e:Addr} {o:HO} {t':Nat} (I:Inv X pins σ H s) (mu:Mut (H x)) (he:e=x \/ H e=some (.own x)) (k:∀ b u,b ≠ e->s.heap.get? b=some u->h'.get? b=some u) (heo:∃ u,h'.get? e=some u)
 (new:ObjOk X.prog X.w (upd H x o) h' x o):Inv X pins σ (upd H x o) { s with heap:=h',toks:=t' }:=I.un (Un.write mu he k heo) (I.hok.write mu he k heo new)
theorem Inv.pins_of {pins':List (Addr×Obj)} (I:Inv X pins σ H s) (h:∀ p∈pins',s.heap.get? p.1=some p.2/\H p.1=none/\p.1 ≠ X.env.locals/\p.1 ∉ X.fs/\∀ v,p.2.data ≠ .cell v):Inv X pins' σ H s :=
 ⟨I.ok,I.os,I.bare,I.base,I.loc,I.cell,I.free,I.freeC,fun p hp=>(Zm.mp hp).elim (fun z=>I.pin p (List.mem_append_left _ z)) (h p),I.hok,I.len⟩
theorem qV {N:List Str} (hN:N.Nodup) {i j:Nat} {x:Str} (a:N[i]? = some x) (b:N[j]? = some x):i=j:=by
 obtain ⟨h1,e1⟩:=ZG.mp a;obtain ⟨h2,e2⟩:=ZG.mp b;exact (List.getElem_inj hN).mp (e1.trans e2.symm)
theorem nH {M:Model} {A:Around} {E:Value->Shared->Prop} {i:Nat} {x:Str} {v:V} {u:Value} {Q:Unit->Shared->Prop} (I:Inv X pins σ H s) (hN:X.N.Nodup) (hi:X.N[i]? = some x) (hx:Loc X.env.scope x) (r:RelV v u)
 (h:∀ s',Inv X pins (σ.set i (some v)) H s'->(∃ a,Heap.SameBut a s.heap s'.heap/\(a=X.env.locals \/ X.env.cells.lookup x=some a))->Q () s') (hf:X.fn x=true \/ X.env.scope.names.lookup x=some .local:=by first | exact .inl rfl | exact .inr rfl | assumption):wpAny M A (storeName X.env x u) Q E s:=by
 obtain ⟨m,hn,hl⟩:=id I.loc;have hcls:(X.env.scope.kind == .class || (X.env.scope.kind == .module && X.env.locals != X.env.globals))=false:=by rw [I.ok.kind];rfl
 have hiσ:i < σ.length:=by rw [I.len];exact (ZG.mp hi).1
 have cne:=I.cne;have tracked:∀ {a:Addr} {h':Heap},(∃ o,s.heap.get? a=some o/\H a=none)->Heap.SameBut a s.heap h'->HOk X.prog X.w H h':=fun {a h'} ha hs b ob e=>by
  obtain ⟨_,_,hfree⟩:=ha;refine (I.hok b ob e).stay (fun c w' hc q=>(hs.2 c ?_).trans q) (fun _ q=>q) fun _ _ q=>q
  rintro rfl
  rcases hc with rfl | hc
  . rw [hfree] at e;cases e
  . rw [hfree] at hc;cases hc
 rcases hx with hk | hk
 . refine wpAny_storeName_local hk hn (fun h' hn' hs=>?_) hcls
   obtain ⟨oL,_,_,hoL,_⟩:=id hn;refine h _ ⟨I.ok,I.os,I.bare,⟨fun b o e n hb hx=>?_,fun b o e n hb hx=>?_,I.base.free,fun b o e hx=>?_,I.base.tups,I.base.frzs,I.base.tbls⟩,⟨_,hn',fun j y v' e1 e2 e3=>?_⟩,fun y c e=>?_,I.free,I.freeC,fun p hp=>?_,tracked ⟨oL,hoL,I.free⟩ hs,by simpa using I.len⟩ ⟨_,hs,.inl rfl⟩
   . exact (hs.2 b (ZA (Zt (Heap.lt_size e) I.ok.above))).trans (I.base.keep b o e n hb hx)
   . obtain ⟨sl,e1⟩:=I.base.slot b o e n hb hx;exact ⟨sl,(hs.2 b (ZA (Zt (Heap.lt_size e) I.ok.above))).trans e1⟩
   . obtain ⟨o',e1⟩:=I.base.there b o e hx;exact ⟨o',(hs.2 b (ZA (Zt (Heap.lt_size e) I.ok.above))).trans e1⟩
   . by_cases hj:j=i
     . subst hj;rw [hi] at e1;cases e1;rw [List.getElem?_set_self hiσ] at e2;cases e2;exact ⟨u,r,.inl ⟨hk,by simp⟩⟩
     . rw [List.getElem?_set_ne (Ne.symm hj)] at e2;obtain ⟨u',r',q⟩:=hl j y v' e1 e2 e3;refine ⟨u',r',?_⟩;rcases q with ⟨k,e⟩ | ⟨k,c,e,z⟩
       . refine .inl ⟨k,?_⟩;have:y ≠ x:=fun e=>hj (qV hN e1 (e ▸ hi))
         simp [this,e]
       . exact .inr ⟨k,c,e,z.sameBut hs (cne y c e)⟩
   . obtain ⟨w',z⟩:=I.cell y c e;exact ⟨w',z.sameBut hs (cne y c e)⟩
   . obtain ⟨e,n,ne,nf,d⟩:=I.pin p hp;exact ⟨(hs.2 p.1 ne).trans e,n,ne,nf,d⟩
 . have hfn:X.fn x=true:=by
    rcases hf with z | z
    . exact z
    . rw [z] at hk;cases hk
   obtain ⟨c,hc⟩:=I.ok.has x (.inl hk);obtain ⟨w',z⟩:=I.cell x c hc;refine wpAny_storeName_cell I.ok.kind hk hc z (fun h' hc' hs=>?_)
   obtain ⟨oc,hoc,hocd⟩:=id z;refine h { s with heap:=h' } ⟨I.ok,I.os,I.bare,⟨fun b o e n hb hx=>?_,fun b o e n hb hx=>?_,I.base.free,fun b o e hx=>?_,I.base.tups,I.base.frzs,I.base.tbls⟩,⟨m,hn.sameBut hs (Ne.symm (cne x c hc)),fun j y v' e1 e2 e3=>?_⟩,fun y c' e=>?_,I.free,I.freeC,fun p hp=>?_,tracked ⟨oc,hoc,I.freeC x c hc⟩ hs,by simpa using I.len⟩ ⟨c,hs,.inr hc⟩
   . exact (hs.2 b (ZA (Zt (Heap.lt_size e) (I.ok.cab x c hfn hc)))).trans (I.base.keep b o e n hb hx)
   . obtain ⟨sl,e1⟩:=I.base.slot b o e n hb hx;exact ⟨sl,(hs.2 b (ZA (Zt (Heap.lt_size e) (I.ok.cab x c hfn hc)))).trans e1⟩
   . obtain ⟨o',e1⟩:=I.base.there b o e hx;exact ⟨o',(hs.2 b (ZA (Zt (Heap.lt_size e) (I.ok.cab x c hfn hc)))).trans e1⟩
   . by_cases hj:j=i
     . subst hj;rw [hi] at e1;cases e1;rw [List.getElem?_set_self hiσ] at e2;cases e2;exact ⟨u,r,.inr ⟨.inl hk,c,hc,hc'⟩⟩
     . rw [List.getElem?_set_ne (Ne.symm hj)] at e2;obtain ⟨u',r',q⟩:=hl j y v' e1 e2 e3;refine ⟨u',r',?_⟩;rcases q with q | ⟨k,c',e,z'⟩
       . exact .inl q
       . refine .inr ⟨k,c',e,z'.sameBut hs ?_⟩
         rintro rfl
         exact hj (qV hN e1 (I.ok.inj _ _ _ e hc ▸ hi))
   . by_cases hcc:c'=c
     . subst hcc;exact ⟨_,hc'⟩
     . obtain ⟨w2,z2⟩:=I.cell y c' e;exact ⟨w2,z2.sameBut hs hcc⟩
   . obtain ⟨e,n,ne,nf,d⟩:=I.pin p hp;refine ⟨(hs.2 p.1 ?_).trans e,n,ne,nf,d⟩;intro q;rw [q,hoc] at e;have q':oc=p.2:=Zy e;exact d w' (by rw [<- q'];exact hocd)
theorem jp {M:Model} {A:Around} {E:Value->Shared->Prop} {i:Nat} {x:Str} {v:V} {u:Value} {Q:Unit->Shared->Prop} (I:Inv X pins σ H s) (hN:X.N.Nodup) (hi:X.N[i]? = some x) (hx:Loc X.env.scope x) (r:RelV v u)
 (h:∀ s',Inv X pins (σ.set i (some v)) H s'->Q () s') (hf:X.fn x=true \/ X.env.scope.names.lookup x=some .local:=by first | exact .inl rfl | exact .inr rfl | assumption):wpAny M A (storeName X.env x u) Q E s :=
 nH I hN hi hx r (fun s' I' _=>h s' I') hf
theorem Inv.call' {s':Shared} {ch:List Addr} (I:Inv X pins σ H s) (ho:s'.os=s.os) (u:Un (frs X.stack) ch H H' s.heap s'.heap) (hok:HOk X.prog X.w H' s'.heap) (hg:AllBare s'.gens)
 (hch:∀ b∈ch,(b∈X.ex \/ X.s₀.heap.objs.size<=b)/\b ≠ X.env.locals/\(∀ x c,X.env.cells.lookup x=some c->c ≠ b)/\∀ p∈X.pn++pins,p.1 ≠ b):Inv X pins σ H' s':=by
 obtain ⟨h',g',d',t',o'⟩:=s';have e:o'=s.os:=ho;subst e;exact I.call (g':=g') (t':=t') (d':=d') u hok hg hch
end
abbrev XK:=Value->Option Addr->Hp->Prop
abbrev St:=List (Option V)
abbrev VK:=V->Hp->Prop
abbrev TE:=St->Hp->VK->Prop
abbrev TT:=St->Hp->(Bool->Hp->Prop)->Prop
abbrev TA:=St->Hp->(List V->Hp->Prop)->Prop
structure j9 where
 nx:St->Hp->Prop
 rt:VK
 bk:St->Hp->Prop:=fun _ _=>False
 ct:St->Hp->Prop:=fun _ _=>False
abbrev TS:=j9->St->Hp->Prop
def EP (X:Cx) (pins:List (Addr×Obj)) (σ:St) (Q:VK) (u:Value) (s':Shared):Prop:=∃ v H',Inv X pins σ H' s'/\RelV v u/\Q v H'
def TP (X:Cx) (pins:List (Addr×Obj)) (σ:St) (Q:Bool->Hp->Prop) (b:Bool) (s':Shared):Prop:=∃ H',Inv X pins σ H' s'/\Q b H'
def AP (X:Cx) (pins:List (Addr×Obj)) (σ:St) (Q:List V->Hp->Prop) (us:List Value) (s':Shared):Prop:=∃ vs H',Inv X pins σ H' s'/\Vals vs us/\Q vs H'
def SP (X:Cx) (pins:List (Addr×Obj)) (D:j9) (f:Flow) (s':Shared):Prop :=
 match f with
 | .next=>∃ σ' H',Inv X pins σ' H' s'/\D.nx σ' H'
 | .brk=>∃ σ' H',Inv X pins σ' H' s'/\D.bk σ' H'
 | .cont=>∃ σ' H',Inv X pins σ' H' s'/\D.ct σ' H'
 | .ret u=>∃ v σ' H',Inv X pins σ' H' s'/\RelV v u/\D.rt v H'
def PE (X:Cx) (e:Expr) (t:TE):Prop :=
 ∀ (pins:List (Addr×Obj)) (s:Shared) (σ:St) (H:Hp) (Q:VK),Inv X pins σ H s->t σ H Q->wpAny (model X.prog X.w) X.A (eval e X.env) (EP X pins σ Q) X.xe s
def PT (X:Cx) (e:Expr) (t:TT):Prop :=
 ∀ (pins:List (Addr×Obj)) (s:Shared) (σ:St) (H:Hp) (Q:Bool->Hp->Prop),Inv X pins σ H s->t σ H Q->wpAny (model X.prog X.w) X.A (isTrue e X.env (eval e X.env)) (TP X pins σ Q) X.xe s
def PW (X:Cx) (e:Expr) (t:TT):Prop :=
 ∀ (whole:Sem Value) (pins:List (Addr×Obj)) (s:Shared) (σ:St) (H:Hp) (Q:Bool->Hp->Prop),Inv X pins σ H s->t σ H Q->wpAny (model X.prog X.w) X.A (isTrue e X.env whole) (TP X pins σ Q) X.xe s
def PA (X:Cx) (es:List Expr) (t:TA):Prop :=
 ∀ (pos:Pos) (pins:List (Addr×Obj)) (s:Shared) (σ:St) (H:Hp) (Q:List V->Hp->Prop),Inv X pins σ H s->t σ H Q->wpAny (model X.prog X.w) X.A (spliced (backTo pos (starEach es X.env))) (AP X pins σ Q) X.xe s
def PS (X:Cx) (st:Stmt) (t:TS):Prop :=
 ∀ (pins:List (Addr×Obj)) (s:Shared) (σ:St) (H:Hp) (D:j9),Inv X pins σ H s->t D σ H->wpAny (model X.prog X.w) X.A (exec st X.env) (SP X pins D) X.xe s
def PSs (X:Cx) (st:List Stmt) (t:TS):Prop :=
 ∀ (pins:List (Addr×Obj)) (s:Shared) (σ:St) (H:Hp) (D:j9),Inv X pins σ H s->t D σ H->wpAny (model X.prog X.w) X.A (execs st X.env) (SP X pins D) X.xe s
theorem thn {α:Type} {t:Sem α} {Q Q':α->Shared->Prop} {M:Model} {A:Around} {E:Value->Shared->Prop} {s:Shared} (h:wpAny M A t Q E s) (hQ:∀ a s,Q a s->Q' a s):wpAny M A t Q' E s:=wpAny_mono h hQ fun _ _ x=>x
end L2
namespace L2
open PySem PySem.Spec PyProof.Rows
section
variable {X:Cx}
def we (i:Nat):TE:=fun σ H Q=>∃ v,σ[i]? = some (some v)/\Q v H
def tC (v:V):TE:=fun _ H Q=>Q v H
theorem ja {i:Nat} {x:Str} {pos:Pos} (hN:X.N[i]? = some x) (hv:Vis X.env.scope x) (hd:(x == ("__debug__":Str))=false:=by decide) (hcd:(x == ("__classdict__":Str))=false:=by decide):PE X (.Name x pos) (we i):=by
 intro pins s σ H Q I h;obtain ⟨v,e,h⟩:=h;obtain ⟨m,hn,hl⟩:=I.loc;obtain ⟨u,r,l⟩:=hl i x v hN e hv;have fin:EP X pins σ Q u s:=⟨v,H,I,r,h⟩;rcases l with ⟨hk,hm⟩ | ⟨hk,c,hc,hcell⟩
 . exact wpAny_Name (wpAny_loadName_local I.ok.kind hk hn hm fin) hd
 . rcases hk with hk | hk
   . exact wpAny_Name (wpAny_loadName_cell I.ok.kind hk hc hcell fin) hd
   . exact wpAny_Name (wpAny_loadName_free I.ok.kind hk hc hcell fin hcd) hd
theorem C5 {i j pos}:PE X (.Constant (.int i) j pos) (tC (.int i)):=fun _ _ _ H _ I h=>wpAny_Constant_int ⟨.int i,H,I.tok _,⟨_,rfl⟩,h⟩
theorem EQ {b j pos}:PE X (.Constant (.bool b) j pos) (tC (.bl b)):=fun _ _ _ H _ I h=>Constant_bool ⟨.bl b,H,I,rfl,h⟩
theorem C4 {j pos}:PE X (.Constant .none j pos) (tC .non):=fun _ _ _ H _ I h=>Constant_none ⟨.non,H,I,rfl,h⟩
def Gl (X:Cx) (x:Str):Prop:=X.env.kindOf x=some .globalImplicit
theorem Bc {E:Value->Shared->Prop} {pins:List (Addr×Obj)} {s:Shared} {σ:St} {H:Hp} {x:Str} {u:Value} {pos:Pos} {Q:Value->Shared->Prop} (I:Inv X pins σ H s) (hg:Gl X x) (hm:X.mg x=some u) (h:Q u s)
 (hd:(x == ("__debug__":Str))=false:=by decide):wpAny (model X.prog X.w) X.A (eval (.Name x pos) X.env) Q E s :=
 Calls.Name_function_global I.ok.kind hg (Calls.loadGlobal_global (by rw [I.ok.glob];exact I.mod.glob.keeps I.bk) hm h) hd
theorem gX {E:Value->Shared->Prop} {pins:List (Addr×Obj)} {s:Shared} {σ:St} {H:Hp} {x:Str} {u:Value} {pos:Pos} {Q:Value->Shared->Prop} (I:Inv X pins σ H s) (hg:Gl X x) (hm:X.mg x=none) (hv:bootBuiltins x=some u) (h:Q u s)
 (hn:x ≠ "__name__":=by decide) (hd:(x == ("__debug__":Str))=false:=by decide):wpAny (model X.prog X.w) X.A (eval (.Name x pos) X.env) Q E s:=by
 obtain ⟨mb,h1,h2⟩:=I.mod.blt;exact Calls.Name_function_global I.ok.kind hg (Calls.loadGlobal_builtin (by rw [I.ok.glob];exact I.mod.glob.keeps I.bk) hm (by rw [I.ok.blt];exact h1.keeps I.bk) ((h2 x hn).trans hv) h) hd
theorem AL {x:Str} {v:V} {u:Value} {pos:Pos} (hg:Gl X x) (hm:X.mg x=none) (hv:bootBuiltins x=some u) (r:RelV v u) (hn:x ≠ "__name__":=by decide) (hd:(x == ("__debug__":Str))=false:=by decide):PE X (.Name x pos) (tC v) :=
 fun _ _ _ H _ I h=>gX I hg hm hv ⟨v,H,I,r,h⟩ hn hd
variable {a b:Expr} {ta tb:TE} {pos:Pos}
def tB (t:TE):TT:=fun σ H Q=>t σ H fun x H1=>∃ c,x=.bl c/\Q c H1
theorem CS {e:Expr} {t:TE} (h:PE X e t) (he:∀ whole,isTrue e X.env whole=(do let v <- whole;standAt e.pos;holding [v] (truthy v)):=by intro _;rfl):PT X e (tB t):=by
 intro pins s σ H Q I hw;refine isTrue_plain (thn (h pins s σ H _ I hw) fun v s1 ⟨x,H1,I1,r1,q1⟩=>?_) (he _)
 obtain ⟨d,rfl,q⟩:=q1;cases r1;exact wpAny_truthy_bool ⟨H1,I1,q⟩
variable {tA tB':TT} {rest:List Expr}
def Fz (t u:TT):TT:=fun σ H Q=>t σ H fun c H1=>if c=true then u σ H1 Q else Q false H1
def tOr (t u:TT):TT:=fun σ H Q=>t σ H fun c H1=>if c=true then Q true H1 else u σ H1 Q
def Fv (t:TT):TT:=fun σ H Q=>t σ H fun c H1=>Q (!c) H1
theorem AA (ha:PT X a tA):PW X (.BoolOp .And [a] pos) tA:=by
 intro wh pins s σ H Q I h;refine isTrue_and (thn (ha pins s σ H Q I h) fun c s1 e=>?_)
 cases c with
 | true=>exact isTrue_and_nil e
 | false=>exact e
theorem CH (ha:PT X a tA):PW X (.BoolOp .Or [a] pos) tA:=by
 intro wh pins s σ H Q I h;refine isTrue_or (thn (ha pins s σ H Q I h) fun c s1 e=>?_)
 cases c with
 | false=>exact isTrue_or_nil e
 | true=>exact e
theorem CJ (ha:PT X a tA) (hb:PW X (.BoolOp .And (b :: rest) pos) tB'):PW X (.BoolOp .And (a :: b :: rest) pos) (Fz tA tB'):=by
 intro wh pins s σ H Q I h;refine isTrue_and (thn (ha pins s σ H _ I h) fun c s1 ⟨H1,I1,q1⟩=>?_)
 cases c with
 | true=>exact hb wh pins s1 σ H1 Q I1 q1
 | false=>exact ⟨H1,I1,q1⟩
theorem EK (ha:PT X a tA) (hb:PW X (.BoolOp .Or (b :: rest) pos) tB'):PW X (.BoolOp .Or (a :: b :: rest) pos) (tOr tA tB'):=by
 intro wh pins s σ H Q I h;refine isTrue_or (thn (ha pins s σ H _ I h) fun c s1 ⟨H1,I1,q1⟩=>?_)
 cases c with
 | true=>exact ⟨H1,I1,q1⟩
 | false=>exact hb wh pins s1 σ H1 Q I1 q1
theorem CT (ha:PT X a tA):PT X (.UnaryOp .Not a pos) (Fv tA):=by
 intro pins s σ H Q I h;exact isTrue_not (ha pins s σ H (fun c H1=>Q (!c) H1) I h)
def Ep (ta tb:TE):TE:=fun σ H Q=>ta σ H fun x H1=>∃ c,x=.bl c/\if c=true then tb σ H1 Q else Q (.bl false) H1
def Ei (ta:TE):TE:=fun σ H Q=>ta σ H fun x H1=>∃ c,x=.bl c/\Q (.bl (!c)) H1
theorem C2 {op} {t:TE} (h:PE X a t):PE X (.BoolOp op [a] pos) t:=fun pins s σ H Q I hw=>BoolOp_one (h pins s σ H Q I hw)
theorem C7 (ha:PE X a ta) (hb:PE X (.BoolOp .And (b :: rest) pos) tb):PE X (.BoolOp .And (a :: b :: rest) pos) (Ep ta tb):=by
 intro pins s σ H Q I h;refine BoolOp_and (thn (ha pins s σ H _ I h) fun v s1 ⟨x,H1,I1,r1,q1⟩=>?_)
 obtain ⟨c,rfl,q1⟩:=q1;cases r1;refine wpAny_truthy_bool ?_;cases c with
 | true=>exact hb pins s1 σ H1 Q I1 q1
 | false=>exact ⟨.bl false,H1,I1,rfl,q1⟩
theorem C3 (ha:PE X a ta):PE X (.UnaryOp .Not a pos) (Ei ta):=by
 intro pins s σ H Q I h;refine UnaryOp_ (thn (ha pins s σ H _ I h) fun v s1 ⟨x,H1,I1,r1,q1⟩=>?_)
 obtain ⟨c,rfl,q1⟩:=q1;cases r1;exact not_of (wpAny_truthy_bool ⟨.bl (!c),H1,I1,rfl,q1⟩)
def tIf (t:TT) (ta tb:TE):TE:=fun σ H Q=>t σ H fun c H1=>if c=true then ta σ H1 Q else tb σ H1 Q
theorem ym {c:Expr} (hc:PT X c tA) (ha:PE X a ta) (hb:PE X b tb):PE X (.IfExp c a b pos) (tIf tA ta tb):=by
 intro pins s σ H Q I h;refine wpAny_IfExp (thn (hc pins s σ H _ I h) fun d s1 ⟨H1,I1,q1⟩=>?_)
 cases d with
 | true=>exact ha pins s1 σ H1 Q I1 q1
 | false=>exact hb pins s1 σ H1 Q I1 q1
end
end L2
namespace L2
open PySem PySem.Spec PyProof.Rows
def SqL (K:Zr) (H:Hp) (a:Addr) (xs:List V):Prop :=
 Rd H a (.lst xs) \/
  ∃ (o:Obj) (its:Array Value) (n:Nat),K.lookup a=some o/\o.cls=.type "list"/\o.dict=none/\o.data=.seq its n/\its.size<=sizeLine/\Vals xs its.toList
def SqT (K:Zr) (H:Hp) (a:Addr) (xs:List V):Prop :=
 Rd H a (.tup xs) \/
  ∃ (o:Obj) (its:Array Value) (n:Nat),K.lookup a=some o/\o.cls=.type "tuple"/\o.data=.seq its n/\its.size<=sizeLine/\Vals xs its.toList
def Ge:Value->Option V
 | .none=>some .non
 | .bool b=>some (.bl b)
 | .int i _=>some (.int i)
 | .str x _=>some (.str x)
 | .bytes b _=>some (.byt b)
 | .float b _=>some (.flt b)
 | .ref a=>some (.ref a)
 | .type n=>some (.ty n)
 | _=>none
theorem RelV.abs {x:V} {u:Value} (r:RelV x u):Ge u=some x:=by
 cases x with
 | non=>cases r;rfl
 | bl _=>cases r;rfl
 | int _=>obtain ⟨t,rfl⟩:=r;rfl
 | str _=>obtain ⟨t,rfl⟩:=r;rfl
 | byt _=>obtain ⟨t,rfl⟩:=r;rfl
 | flt _=>obtain ⟨t,rfl⟩:=r;rfl
 | ref _=>cases r;rfl
 | ty _=>cases r;rfl
theorem RelV.inj {x y:V} {u:Value} (r:RelV x u) (q:RelV y u):x=y:=Zy (r.abs.symm.trans q.abs)
theorem Vals.inj:∀ {xs ys:List V} {us:List Value},Vals xs us->Vals ys us->xs=ys
 | _,_,_,.nil,.nil=>rfl
 | _,_,_,.cons r t,.cons r' t'=>by rw [r.inj r',Vals.inj t t']
section
variable {X:Cx} {pins:List (Addr×Obj)} {σ:St} {H:Hp} {s:Shared} {a:Addr} {xs ys:List V}
theorem SqL.of {K:Zr} (h:H a=some (.lst xs)):SqL K H a xs:=.inl (.inl h)
theorem SqT.of {K:Zr} (h:H a=some (.tup xs)):SqT K H a xs:=.inl (.inl h)
theorem Inv.list (I:Inv X pins σ H s) (h:SqL X.K H a xs):∃ its:List Value,Vals xs its/\PlainL s.heap a its.toArray/\xs.length<=sizeLine:=by
 rcases h with h | ⟨o,its,n,hk,hc,hd,hs,hz,r⟩
 . obtain ⟨z,its,n,r,e⟩:=h.ok I.hok;exact ⟨its,r,⟨_,n,e,rfl,rfl,rfl⟩,z⟩
 . refine ⟨its.toList,r,⟨o,n,I.kIn a o hk,hc,hd,by simpa using hs⟩,?_⟩
   have e:=r.length;simp only [ZC] at e;omega
theorem Inv.tuple (I:Inv X pins σ H s) (h:SqT X.K H a xs):∃ its:List Value,Vals xs its/\IsTup s.heap a its.toArray/\xs.length<=sizeLine:=by
 rcases h with h | ⟨o,its,n,hk,hc,hs,hz,r⟩
 . obtain ⟨z,its,r,p⟩:=h.ok I.hok;exact ⟨its,r,p,z⟩
 . refine ⟨its.toList,r,⟨o,I.kIn a o hk,hc,n,by simpa using hs⟩,?_⟩
   have e:=r.length;simp only [ZC] at e;omega
theorem Inv.list_inj (I:Inv X pins σ H s) (h:SqL X.K H a xs) (h':SqL X.K H a ys):xs=ys:=by
 obtain ⟨its,r,⟨o,n,e,_,_,d⟩,_⟩:=I.list h;obtain ⟨its',r',⟨o',n',e',_,_,d'⟩,_⟩:=I.list h';rw [e] at e';cases e';rw [d] at d';injection d' with d1 _
 have:its=its':=by simpa using congrArg Array.toList d1
 subst this;exact r.inj r'
theorem Inv.tuple_inj (I:Inv X pins σ H s) (h:SqT X.K H a xs) (h':SqT X.K H a ys):xs=ys:=by
 obtain ⟨its,r,⟨o,e,_,n,d⟩,_⟩:=I.tuple h;obtain ⟨its',r',⟨o',e',_,n',d'⟩,_⟩:=I.tuple h';rw [e] at e';cases e';rw [d] at d';injection d' with d1 _
 have:its=its':=by simpa using congrArg Array.toList d1
 subst this;exact r.inj r'
end
abbrev Cx.wish (X:Cx) (E:Value->Shared->Prop):Cx:={ X with xe:=E }
abbrev Cx.nox (X:Cx):Cx:=X.wish fun _ _=>False
theorem Cx.Ok.wish {X:Cx} (ok:X.Ok) (E:Value->Shared->Prop):(X.wish E).Ok :=
 ⟨ok.mod,ok.kind,ok.glob,ok.blt,ok.above,ok.inj,ok.has,ok.cab,ok.hd,ok.frames,ok.stk,ok.exf,ok.bs,ok.bsz,ok.noex,ok.exfs,ok.funs,ok.frf⟩
theorem Cx.Ok.unwish {X:Cx} {E:Value->Shared->Prop} (ok:(X.wish E).Ok):X.Ok :=
 ⟨ok.mod,ok.kind,ok.glob,ok.blt,ok.above,ok.inj,ok.has,ok.cab,ok.hd,ok.frames,ok.stk,ok.exf,ok.bs,ok.bsz,ok.noex,ok.exfs,ok.funs,ok.frf⟩
section
variable {X:Cx} {pins:List (Addr×Obj)} {σ:St} {H:Hp} {s:Shared} {E:Value->Shared->Prop}
theorem Inv.wish (I:Inv X pins σ H s) (E:Value->Shared->Prop):Inv (X.wish E) pins σ H s:=⟨I.ok.wish E,I.os,I.bare,I.base,I.loc,I.cell,I.free,I.freeC,I.pin,I.hok,I.len⟩
theorem Inv.unwish (I:Inv (X.wish E) pins σ H s):Inv X pins σ H s:=⟨I.ok.unwish,I.os,I.bare,I.base,I.loc,I.cell,I.free,I.freeC,I.pin,I.hok,I.len⟩
theorem SP.unwish {D:j9} {f:Flow} {s':Shared} (h:SP (X.wish E) pins D f s'):SP X pins D f s':=by
 cases f with
 | next=>obtain ⟨σ',H',I,q⟩:=h;exact ⟨σ',H',I.unwish,q⟩
 | brk=>obtain ⟨σ',H',I,q⟩:=h;exact ⟨σ',H',I.unwish,q⟩
 | cont=>obtain ⟨σ',H',I,q⟩:=h;exact ⟨σ',H',I.unwish,q⟩
 | ret u=>obtain ⟨v,σ',H',I,r,q⟩:=h;exact ⟨v,σ',H',I.unwish,r,q⟩
theorem PSs.nox {st:List Stmt} {t:TS} (h:PSs X.nox st t):PSs X st t:=fun pins s σ H D I hw =>
 wpAny_mono (h pins s σ H D (I.wish _) hw) (fun _ _ q=>q.unwish) fun _ _ z=>False.elim z
end
section
variable {X:Cx} {st:Stmt} {rest:List Stmt} {t u:TS} {e:Expr} {te:TE} {pos:Pos}
def Ej:TS:=fun D σ H=>D.nx σ H
def Fs (t u:TS):TS:=fun D σ H=>t { D with nx:=u D } σ H
theorem kT:PSs X [] Ej:=fun _ _ σ H _ I h=>wpAny_execs_nil ⟨σ,H,I,h⟩
theorem jH (h1:PS X st t) (h2:PSs X rest u):PSs X (st :: rest) (Fs t u):=by
 intro pins s σ H D I h;refine wpAny_execs_cons (thn (h1 pins s σ H { D with nx:=u D } I h) fun f s1 q=>?_)
 cases f with
 | next =>
  obtain ⟨σ',H',I',q⟩:=q;exact h2 pins s1 σ' H' D I' q
 | ret v=>exact q
 | brk=>exact q
 | cont=>exact q
theorem kS (h1:PS X st t):PSs X [st] t:=by
 intro pins s σ H D I h;refine wpAny_execs_cons (thn (h1 pins s σ H D I h) fun f s1 q=>?_)
 cases f with
 | next=>exact wpAny_execs_nil q
 | ret v=>exact q
 | brk=>exact q
 | cont=>exact q
theorem Inv.quiet {pins:List (Addr×Obj)} {σ:St} {H:Hp} {s:Shared} (I:Inv X pins σ H s):interactive X.env=false:=by simp [interactive,I.ok.kind]
def Ek (te:TE):TS:=fun D σ H=>te σ H fun _ H1=>D.nx σ H1
theorem kU (he:PE X e te) (hs:swapsWith e none pos.line X.env=pure false:=by rfl):PS X (.Expr e pos) (Ek te):=by
 intro pins s σ H D I h;exact wpAny_Expr_any (thn (he pins s σ H _ I h) fun v s1 ⟨x,H1,I1,r1,q1⟩=>⟨σ,H1,I1,q1⟩) I.quiet hs
def Ft (te:TE):TS:=fun D σ H=>te σ H D.rt
theorem po (he:PE X e te):PS X (.Return (some e) pos) (Ft te):=by
 intro pins s σ H D I h;exact wpAny_Return_some (thn (he pins s σ H _ I h) fun v s1 ⟨x,H1,I1,r1,q1⟩=>⟨x,σ,H1,I1,r1,q1⟩)
def Fx (c:TT) (t u:TS):TS:=fun D σ H=>c σ H fun b H1=>if b=true then t D σ H1 else u D σ H1
theorem uP {c:Expr} {a b:List Stmt} {tc:TT} (hc:PT X c tc) (ha:PSs X a t) (hb:PSs X b u):PS X (.If c a b pos) (Fx tc t u):=by
 intro pins s σ H D I h;refine wpAny_If (thn (hc pins s σ H _ I h) fun d s1 ⟨H1,I1,q1⟩=>?_)
 cases d with
 | true=>exact ha pins s1 σ H1 D I1 q1
 | false=>exact hb pins s1 σ H1 D I1 q1
def Cv:TS:=fun _ _ _=>False
theorem yb:PS X st Cv:=fun _ _ _ _ _ _ h=>h.elim
end
abbrev TG:=V->St->Hp->(St->Hp->Prop)->Prop
abbrev TGs:=List V->St->Hp->(St->Hp->Prop)->Prop
def PG (X:Cx) (target:Expr) (t:TG):Prop :=
 ∀ (pins:List (Addr×Obj)) (s:Shared) (σ:St) (H:Hp) (v:V) (u:Value) (Q:St->Hp->Prop),Inv X pins σ H s->RelV v u->t v σ H Q ->
  wpAny (model X.prog X.w) X.A (assign target X.env u) (fun _ s'=>∃ σ' H',Inv X pins σ' H' s'/\Q σ' H') X.xe s
def PGs (X:Cx) (ts:List Expr) (t:TGs):Prop :=
 ∀ (pins:List (Addr×Obj)) (s:Shared) (σ:St) (H:Hp) (vs:List V) (us:List Value) (Q:St->Hp->Prop),Inv X pins σ H s->Vals vs us->t vs σ H Q ->
  wpAny (model X.prog X.w) X.A (assignInOrder ((assignEach ts X.env).map (·.2)) us) (fun _ s'=>∃ σ' H',Inv X pins σ' H' s'/\Q σ' H') X.xe s
abbrev D7:=V->V->V->Hp->(Hp->Prop)->Prop
def Fi (X:Cx) (t:D7):Prop :=
 ∀ (pins:List (Addr×Obj)) (s:Shared) (σ:St) (H:Hp) (o i v:V) (ov iv u:Value) (Q:Hp->Prop),Inv X pins σ H s->RelV o ov->RelV i iv->RelV v u->t o i v H Q ->
  wpAny (model X.prog X.w) X.A (setItem ov iv u) (fun _ s'=>∃ H',Inv X pins σ H' s'/\Q H') X.xe s
section
variable {X:Cx} {pos:Pos}
def vB (i:Nat):TG:=fun v σ H Q=>Q (σ.set i (some v)) H
theorem eN {i:Nat} {x:Str} (hN:X.N.Nodup) (hi:X.N[i]? = some x) (hx:Loc X.env.scope x) (hf:X.fn x=true \/ X.env.scope.names.lookup x=some .local:=by first | exact .inl rfl | exact .inr rfl | assumption):PG X (.Name x pos) (vB i):=by
 intro pins s σ H v u Q I r h;exact wpAny_assign_Name (jp I hN hi hx r (fun s' I'=>⟨_,H,I',h⟩) hf)
def Fa:TGs:=fun vs σ H Q=>vs=[]/\Q σ H
def Cd (t:TG) (u:TGs):TGs:=fun vs σ H Q=>∃ v r,vs=v :: r/\t v σ H fun σ' H'=>u r σ' H' Q
theorem cu:PGs X [] Fa:=by
 intro pins s σ H vs us Q I r h;obtain ⟨e,h⟩:=h;subst e;cases r;exact assignInOrder_nil ⟨σ,H,I,h⟩
theorem aF {e:Expr} {es:List Expr} {t:TG} {u:TGs} (h1:PG X e t) (h2:PGs X es u)
 (hs:(assignEach (e :: es) X.env).map (·.2)=assign e X.env :: (assignEach es X.env).map (·.2):=by rfl):PGs X (e :: es) (Cd t u):=by
 intro pins s σ H vs us Q I r h;obtain ⟨v,vr,e1,h⟩:=h;subst e1;cases r with
 | cons r rr =>
  rw [hs];refine assignInOrder_cons (thn (h1 pins s σ H _ _ _ I r h) fun _ s1 ⟨σ1,H1,I1,q1⟩=>?_)
  exact h2 pins s1 σ1 H1 _ _ Q I1 rr q1
def DH (K:Zr) (n:Nat) (t:TGs):TG:=fun v σ H Q=>∃ a xs,v=.ref a/\SqT K H a xs/\xs.length=n/\t xs σ H Q
theorem dB {es:List Expr} {k:Nat} {t:TGs} {n:Nat} (hc:X.calm=true) (h:PGs X es t)
 (hn:(assignEach es X.env).length=n:=by rfl) (hst:(assignEach es X.env).findIdx? (·.1)=none:=by rfl):PG X (.Tuple es k pos) (DH X.K n t):=by
 intro pins s σ H v u Q I r hw;obtain ⟨a,xs,e1,hq,hl,hw⟩:=hw;subst e1;cases r;obtain ⟨its,rv,ht,hz⟩:=I.tuple hq;refine assign_Tuple_tuple (I.ok.hd hc) ht (by simp [hn,<- hl,rv.length]) hst fun h' hx=>?_
 have I1:Inv X pins σ H { s with heap:=h' }:=I.kept (t':=s.toks) fun b o e=>hx b o (ZA (Heap.lt_size e)) e
 exact h pins _ σ H xs _ Q I1 (by simpa using rv) hw
def FZ (to ti:TE) (t:D7):TG:=fun v σ H Q=>to σ H fun o H1=>ti σ H1 fun i H2=>t o i v H2 fun H3=>Q σ H3
theorem C1 {o i:Expr} {to ti:TE} {t:D7} (ho:PE X o to) (hi:PE X i ti) (hs:Fi X t)
 (ha:∀ v,assign (.Subscript o i pos) X.env v=(do
  let ov <- holding [v] (eval o X.env)
  let iv <- holding [v,ov] (eval i X.env)
  standAt pos
  holding [v,ov,iv] (setItem ov iv v)
  release [v,ov,iv] []):=by intro _;rfl):PG X (.Subscript o i pos) (FZ to ti t):=by
 intro pins s σ H v u Q I r h;rw [ha];refine wpAny_bind (wpAny_holding (thn (ho pins s σ H _ I h) fun ov s1 ⟨x,H1,I1,r1,q1⟩=>?_))
 refine wpAny_bind (wpAny_holding (thn (hi pins s1 σ H1 _ I1 q1) fun iv s2 ⟨y,H2,I2,r2,q2⟩=>?_))
 refine wpAny_bind (wpAny_standAt (wpAny_bind (wpAny_holding (thn (hs pins s2 σ H2 x y v ov iv u _ I2 r1 r2 r q2) fun _ s3 ⟨H3,I3,q3⟩=>?_))))
 exact wpAny_release ⟨σ,H3,I3,q3⟩
def Eo (te:TE) (g:TG):TS:=fun D σ H=>te σ H fun x H1=>g x σ H1 D.nx
theorem yc {tg e:Expr} {te:TE} {g:TG} (he:PE X e te) (hg:PG X tg g) (hs:swapsWithSole [tg] e pos.line X.env=pure false:=by rfl) (hw:swappedStores [tg] e X.env=pure none:=by rfl)
 (h1:(assignEach [tg] X.env).map (·.2)=[assign tg X.env]:=by rfl):PS X (.Assign [tg] e pos) (Eo te g):=by
 intro pins s σ H D I h;refine wpAny_Assign_stores (thn (he pins s σ H _ I h) fun v s1 ⟨x,H1,I1,r1,q1⟩=>?_) hs hw
 rw [h1];exact thn (hg pins s1 σ H1 x v _ I1 r1 q1) fun _ s2 q=>q
theorem pj {i:Nat} {x:Str} {e:Expr} {te:TE} {pos':Pos} (hN:X.N.Nodup) (hi:X.N[i]? = some x) (hx:Loc X.env.scope x) (he:PE X e te) (hs:swapsWith e (some (.Name x pos')) pos.line X.env=pure false:=by rfl) (hf:X.fn x=true \/ X.env.scope.names.lookup x=some .local:=by first | exact .inl rfl | exact .inr rfl | assumption) :
 PS X (.Assign [.Name x pos'] e pos) (Eo te (vB i)):=by
 intro pins s σ H D I h;refine wpAny_Assign_Name (thn (he pins s σ H _ I h) fun v s1 ⟨y,H1,I1,r1,q1⟩=>?_) hs
 exact jp I1 hN hi hx r1 (fun s2 I2=>⟨_,H1,I2,q1⟩) hf
def Fu (i j:Nat) (ta:TA):TS:=fun D σ H=>ta σ H fun vs H1=>∃ v w,vs=[v,w]/\D.nx ((σ.set i (some v)).set j (some w)) H1
theorem CU {i j:Nat} {x y:Str} {a b:Expr} {ta:TA} {px py pt:Pos} {kt k2 pt2} (hc:X.calm=true) (hN:X.N.Nodup) (hi:X.N[i]? = some x) (hj:X.N[j]? = some y) (hij:i ≠ j)
 (hx:X.env.scope.names.lookup x=some .local) (hy:X.env.scope.names.lookup y=some .local) (ha:PA X [a,b] ta)
 (hw:swappedStores [.Tuple [.Name x px,.Name y py] kt pt] (.Tuple [a,b] k2 pt2) X.env=pure (some [x,y]))
 (hs:swapsWithSole [.Tuple [.Name x px,.Name y py] kt pt] (.Tuple [a,b] k2 pt2) pos.line X.env=pure false:=by rfl) :
 PS X (.Assign [.Tuple [.Name x px,.Name y py] kt pt] (.Tuple [a,b] k2 pt2) pos) (Fu i j ta):=by
 intro pins s σ H D I h;rw [exec_Assign_arm];refine wpAny_bind (wpAny_standAt ?_);rw [hs];refine wpAny_bind (wpAny_pure ?_);rw [if_neg (by decide)]
 refine wpAny_bind (Tuple_ (thn (ha _ pins s σ H _ I h) fun us s1 ⟨vs,H1,I1,r1,q1⟩=>?_))
 obtain ⟨v,w,e1,q1⟩:=q1;subst e1;obtain ⟨u1,u2,rfl,rv,rw'⟩:∃ u1 u2,us=[u1,u2]/\RelV v u1/\RelV w u2:=by
  cases r1 with
  | cons p q =>
   cases q with
   | cons p' q' =>
    cases q';exact ⟨_,_,rfl,p,p'⟩
 refine wpAny_newObj_type ?_ (by show 2<=sizeLine;decide)
 have I2:Inv X pins σ H1 { s1 with heap:=s1.heap.push { cls:=.type "tuple",data:=.seq [u1,u2].toArray } }:=I1.kept (t':=s1.toks) fun b o e=>Heap.get?_push_of_some _ e
 rw [hw];refine wpAny_bind (wpAny_pure ?_);show wpAny (model X.prog X.w) X.A (do rule "assign.swapped-stores";let items <- unpackItems (.ref s1.heap.objs.size) 2 none;assignInOrder [fun v=>bindName X.env y v,fun v=>bindName X.env x v] items.reverse;pure Flow.next) _ _ _
 refine wpAny_bind (wpAny_rule (wpAny_bind (unpackItems_tuple (items:=#[u1,u2]) (I.ok.hd hc) (IsTup.new s1.heap _) fun h' hx'=>?_)))
 have I3:=I2.kept (h':=h') (t':=s1.toks) fun b o e=>hx' b o (ZA (Heap.lt_size e)) e
 show wpAny _ _ (assignInOrder [fun v=>bindName X.env y v,fun v=>bindName X.env x v] [u2,u1] >>= fun _=>pure Flow.next) _ _ _
 refine wpAny_bind (assignInOrder_cons (wpAny_bindName (jp I3 hN hj (.inl hy) rw' (fun s2 I4=>?_) (.inr hy))))
 refine assignInOrder_cons (wpAny_bindName (jp I4 hN hi (.inl hx) rv (fun s3 I5=>assignInOrder_nil (wpAny_pure ?_)) (.inr hx)))
 rw [List.set_comm _ _ (Ne.symm hij)] at I5;exact ⟨_,H1,I5,q1⟩
end
section
variable {X:Cx} {pos:Pos}
def Cu (c:TT) (tb:TS):TS:=fun D σ H=>∃ W:Nat->St->Hp->Prop,(∃ m,W m σ H)/\∀ m σ H,W m σ H ->
 c σ H fun b H1=>if b=true then ∃ N:St->Hp->Prop,(∀ σ' H',N σ' H'->∃ m',m' < m/\W m' σ' H')/\tb { D with nx:=N,ct:=N,bk:=D.nx } σ H1 else D.nx σ H1
theorem ya {c:Expr} {body:List Stmt} {tc:TT} {tb:TS} (hp:PassesOwn (model X.prog X.w) X.A X.env X.xe) (hc:PT X c tc) (hb:PSs X body tb):PS X (.While c body [] pos) (Cu tc tb):=by
 intro pins s σ H D I h;obtain ⟨W,⟨m0,w0⟩,turn⟩:=h;refine wpAny_While (codeAny_whileLoop (fun n s'=>∃ σ' H',Inv X pins σ' H' s'/\W n σ' H') ?_ m0 ⟨σ,H,I,w0⟩)
 rintro n s1 ⟨σ1,H1,I1,w1⟩
 refine wpAny_passesOwn hp (thn (hc pins s1 σ1 H1 _ I1 (turn n σ1 H1 w1)) fun b s2 ⟨H2,I2,q2⟩=>?_)
 cases b with
 | true =>
  obtain ⟨N,hN,q2⟩:=q2;rw [if_pos rfl];refine wpAny_passesOwn hp (thn (hb pins s2 σ1 H2 _ I2 q2) fun f s3 q3=>?_)
  cases f with
  | next =>
   obtain ⟨σ3,H3,I3,n3⟩:=q3;obtain ⟨m',hm,w3⟩:=hN σ3 H3 n3;exact ⟨m',hm,σ3,H3,I3,w3⟩
  | cont =>
   obtain ⟨σ3,H3,I3,n3⟩:=q3;obtain ⟨m',hm,w3⟩:=hN σ3 H3 n3;exact ⟨m',hm,σ3,H3,I3,w3⟩
  | brk=>exact q3
  | ret v=>exact q3
 | false =>
  rw [if_neg Zs];exact wpAny_execs_nil ⟨σ1,H2,I2,q2⟩
end
structure It where
 go:Nat->Hp->Prop
 yld:Nat->Hp->V->Hp->Prop
 stop:Nat->Hp->Prop
def fg (X:Cx) (pins:List (Addr×Obj)) (H:Hp) (b:Addr):Prop :=
 H b=none/\b ≠ X.env.locals/\b ∉ X.fs/\(b∈X.ex \/ X.s₀.heap.objs.size<=b)/\(∀ x c,X.env.cells.lookup x=some c->c ≠ b)/\∀ p∈X.pn++pins,p.1 ≠ b
theorem Inv.fpOk {X:Cx} {pins:List (Addr×Obj)} {σ:St} {H H':Hp} {s:Shared} {b:Addr} (I:Inv X pins σ H s) (hb:s.heap.objs.size<=b) (hn:H' b=none):fg X pins H' b:=by
 refine ⟨hn,Nat.ne_of_gt (Zt I.lt hb),I.nofs hb,.inr (Nat.le_trans I.sz hb),fun x c e z=>?_,fun p hp z=>?_⟩
 . obtain ⟨v,q⟩:=I.cell x c e;exact absurd (Zt q.lt (by rw [z];exact hb)) (ZB _)
 . exact absurd (Zt (Heap.lt_size (I.pin p hp).1) (by rw [z];exact hb)) (ZB _)
structure kK (P:Program) (w:World) (K:Zr) (tg:Expr) (J:It) (fp:List Addr) (it:Addr) (tn:Nat->Heap->Prop):Prop where
 mem:it∈fp
 obj:∀ i h,tn i h->∀ b∈fp,∃ o,h.get? b=some o/\∀ v,o.data ≠ .cell v
 keep:∀ i h h',tn i h->(∀ b∈fp,∀ o,h.get? b=some o->h'.get? b=some o)->tn i h'
 item:∀ (X:Cx),X.prog=P->X.w=w->X.K=K->X.calm=true->∀ (i:Nat) (pins:List (Addr×Obj)) (s:Shared) (σ:St) (H:Hp) (E:Value->Shared->Prop),Inv X pins σ H s->(∀ b∈fp,fg X pins H b)->tn i s.heap->J.go i H ->
  wpAny (model P w) X.A (pyNext (.ref it)) (fun r s1=>∃ u,r=some u /\
   wpAny (model P w) X.A (letOwnedTupleGo tg (.ref it) u) (fun _ s2=>∃ x H',Inv X pins σ H' s2/\RelV x u/\J.yld i H x H'/\tn (i+1) s2.heap/\∀ b∈fp,H' b=none) E s1) E s
 done:∀ (X:Cx),X.prog=P->X.w=w->X.K=K->X.calm=true->∀ (i:Nat) (pins:List (Addr×Obj)) (s:Shared) (σ:St) (H:Hp) (E:Value->Shared->Prop),Inv X pins σ H s->(∀ b∈fp,fg X pins H b)->tn i s.heap->J.stop i H ->
  wpAny (model P w) X.A (pyNext (.ref it)) (fun r s1=>r=none/\Inv X pins σ H s1) E s
 self:∀ (A:Around) (i:Nat) (s:Shared) (Q:Value->Shared->Prop) (E:Value->Shared->Prop),tn i s.heap->Q (.ref it) s->wpAny (model P w) A (pyIter (.ref it)) Q E s
abbrev TI:=St->Hp->(It->Hp->Prop)->Prop
def PIE (X:Cx) (pins:List (Addr×Obj)) (σ:St) (tg:Expr) (R:It->Hp->Prop) (itv:Value) (s2:Shared):Prop :=
 ∃ (it:Addr) (fp:List Addr) (tn:Nat->Heap->Prop) (J:It) (H':Hp),itv=.ref it/\Inv X pins σ H' s2/\kK X.prog X.w X.K tg J fp it tn/\tn 0 s2.heap/\(∀ b∈fp,fg X pins H' b)/\R J H'
def PI (X:Cx) (tg iter:Expr) (wi:TI):Prop :=
 ∀ (pins:List (Addr×Obj)) (s:Shared) (σ:St) (H:Hp) (R:It->Hp->Prop),Inv X pins σ H s->wi σ H R ->
  wpAny (model X.prog X.w) X.A (eval iter X.env) (fun v s1=>wpAny (model X.prog X.w) X.A (pyIter v) (PIE X pins σ tg R) X.xe s1) X.xe s
theorem vp {M:Model} {A:Around} {E:Value->Shared->Prop} {s:Shared} {tg:Expr} {it:Addr} {u:Value} {o:Obj} {n:String} {vs:Array Value} {Q:Unit->Shared->Prop} (ho:s.heap.get? it=some o) (hc:o.cls=.type n) (hd:o.data=.fields vs)
 (hn:["enumerate","zip","dict_itemiterator","dict_reverseitemiterator","odict_iterator","itertools.zip_longest","itertools.pairwise"].contains n=false) (hQ:Q () s):wpAny M A (letOwnedTupleGo tg (.ref it) u) Q E s:=by
 unfold letOwnedTupleGo;cases tg <;> first
  | exact wpAny_pure hQ
  | (cases u <;> first
   | exact wpAny_pure hQ
   | (refine wpAny_bind (wpAny_load ho ?_)
      rw [hc,hd];show wpAny M A (if (["enumerate","zip","dict_itemiterator","dict_reverseitemiterator","odict_iterator","itertools.zip_longest","itertools.pairwise"].contains n && vs[0]? == some (rawInt _))=true then _ else _) Q E s
      rw [if_neg (by intro h;rw [hn,Bool.false_and] at h;cases h)]
      exact wpAny_pure hQ))
def Itl (K:Zr) (a:Addr):It :=
 ⟨fun i H=>∃ xs x,SqL K H a xs/\xs[i]? = some x,fun i H x H'=>H'=H/\∀ xs,SqL K H a xs->xs[i]? = some x,fun i H=>∃ xs,SqL K H a xs/\xs.length<=i⟩
def Itt (K:Zr) (a:Addr):It :=
 ⟨fun i H=>∃ xs x,SqT K H a xs/\xs[i]? = some x,fun i H x H'=>H'=H/\∀ xs,SqT K H a xs->xs[i]? = some x,fun i H=>∃ xs,SqT K H a xs/\xs.length<=i⟩
def Itr (lo:Int) (n:Nat):It:=⟨fun i _=>i < n,fun i H x H'=>H'=H/\x=.int (lo+i),fun i _=>n<=i⟩
theorem wa {P:Program} {w:World} {K:Zr} {tg:Expr} (a it:Addr):kK P w K tg (Itl K a) [it] it (fun i h=>h.IsListIter it a i) where
 mem:=by simp
 obj:=fun i h st b hb=>by
  have e:b=it:=by simpa using hb
  subst e;obtain ⟨o,e,c,d⟩:=st;exact ⟨o,e,fun v z=>by rw [d] at z;cases z⟩
 keep:=fun i h h' st k=>st.at fun o e=>k it (by simp) o e
 item:=by
  intro X hP hw hK hc i pins s σ H E I hf st hg;subst hP hw hK;obtain ⟨xs,x,hq,hx⟩:=hg;obtain ⟨its,rv,p,hz⟩:=I.list hq;obtain ⟨u,hu,ru⟩:=rv.get hx;obtain ⟨f0,f1,f2,f3,f4,f5⟩:=hf it (by simp)
  refine wpAny_pyNext_list_item st p.isList (x:=u) (by simpa using hu) fun h' st' sb=>?_
  have I1:Inv X pins σ H { s with heap:=h' }:=I.turned (t':=s.toks) (fun b o hb e=>(sb.2 b hb).trans e) f0 f1 f3 f4 f5
  obtain ⟨o,e,c,d⟩:=id st';exact ⟨u,rfl,vp (s:={ s with heap:=h' }) e c d (by decide) ⟨x,H,I1,ru,⟨rfl,fun ys hy=>by rw [I.list_inj hy hq];exact hx⟩,st',fun b hb=>(hf b hb).1⟩⟩
 done:=by
  intro X hP hw hK hc i pins s σ H E I hf st hg;subst hP hw hK;obtain ⟨xs,hq,hx⟩:=hg;obtain ⟨its,rv,p,hz⟩:=I.list hq;obtain ⟨f0,f1,f2,f3,f4,f5⟩:=hf it (by simp)
  have hl:=rv.length;exact wpAny_pyNext_list_end (I.ok.hd hc) st p.isList (by simp;omega) fun h' eb=>⟨rfl,I.turned (t':=s.toks) (fun b o hb e=>eb b o hb e) f0 f1 f3 f4 f5⟩
 self:=fun _ _ _ _ _ st h=>wpAny_pyIter_listiter st h
theorem sK {P:Program} {w:World} {K:Zr} {tg:Expr} (a it:Addr):kK P w K tg (Itt K a) [it] it (fun i h=>h.IsTupleIter it a i) where
 mem:=by simp
 obj:=fun i h st b hb=>by
  have e:b=it:=by simpa using hb
  subst e;obtain ⟨o,e,c,d⟩:=st;exact ⟨o,e,fun v z=>by rw [d] at z;cases z⟩
 keep:=fun i h h' st k=>st.at fun o e=>k it (by simp) o e
 item:=by
  intro X hP hw hK hc i pins s σ H E I hf st hg;subst hP hw hK;obtain ⟨xs,x,hq,hx⟩:=hg;obtain ⟨its,rv,p,hz⟩:=I.tuple hq;obtain ⟨u,hu,ru⟩:=rv.get hx;obtain ⟨f0,f1,f2,f3,f4,f5⟩:=hf it (by simp)
  refine wpAny_pyNext_tuple_item st (show s.heap.IsTuple a its.toArray from p) (x:=u) (by simpa using hu) fun h' st' sb=>?_
  have I1:Inv X pins σ H { s with heap:=h' }:=I.turned (t':=s.toks) (fun b o hb e=>(sb.2 b hb).trans e) f0 f1 f3 f4 f5
  obtain ⟨o,e,c,d⟩:=id st';exact ⟨u,rfl,vp (s:={ s with heap:=h' }) e c d (by decide) ⟨x,H,I1,ru,⟨rfl,fun ys hy=>by rw [I.tuple_inj hy hq];exact hx⟩,st',fun b hb=>(hf b hb).1⟩⟩
 done:=by
  intro X hP hw hK hc i pins s σ H E I hf st hg;subst hP hw hK;obtain ⟨xs,hq,hx⟩:=hg;obtain ⟨its,rv,p,hz⟩:=I.tuple hq;obtain ⟨f0,f1,f2,f3,f4,f5⟩:=hf it (by simp)
  have hl:=rv.length;exact wpAny_pyNext_tuple_end (I.ok.hd hc) st (show s.heap.IsTuple a its.toArray from p) (by simp;omega) fun h' eb=>⟨rfl,I.turned (t':=s.toks) (fun b o hb e=>eb b o hb e) f0 f1 f3 f4 f5⟩
 self:=fun _ _ _ _ _ st h=>wpAny_pyIter_tupleiter st h
theorem sL {P:Program} {w:World} {K:Zr} {tg:Expr} (it:Addr) (lo:Int) (n:Nat):kK P w K tg (Itr lo n) [it] it (fun i h=>IsRangeIter h it (lo+(i:Nat)*1) ((n:Int) - (i:Nat)) 1) where
 mem:=by simp
 obj:=fun i h st b hb=>by
  have e:b=it:=by simpa using hb
  subst e;exact ⟨_,st,fun v z=>by
   have z':Data.fields _=Data.cell v:=z;cases z'⟩
 keep:=fun i h h' st k=>k it (by simp) _ st
 item:=by
  intro X hP hw hK hc i pins s σ H E I hf st hg;subst hP hw hK;obtain ⟨f0,f1,f2,f3,f4,f5⟩:=hf it (by simp)
  have W:=Walks.range (prog:=X.prog) (w:=X.w) (I.ok.hd hc) it lo 1 n;refine W.item i s _ _ hg st fun v h' tk hv st' kk=>?_
  obtain ⟨t,rfl⟩:=hv;have I1:Inv X pins σ H { s with heap:=h',toks:=tk }:=I.turned (fun b o hb e=>kk b o (by simpa using hb) e) f0 f1 f3 f4 f5
  refine ⟨_,rfl,vp (s:={ s with heap:=h',toks:=tk }) (n:="range_iterator") st' rfl rfl (by decide) ⟨.int (lo+i),H,I1,⟨t,?_⟩,⟨rfl,rfl⟩,st',fun b hb=>(hf b hb).1⟩⟩
  rw [Int.mul_one]
 done:=by
  intro X hP hw hK hc i pins s σ H E I hf st hg;subst hP hw hK;obtain ⟨f0,f1,f2,f3,f4,f5⟩:=hf it (by simp)
  exact wpAny_pyNext_range_end (I.ok.hd hc) st (by have:n<=i:=hg;omega) fun h' eb=>⟨rfl,I.turned (t':=s.toks) (fun b o hb e=>eb b o hb e) f0 f1 f3 f4 f5⟩
 self:=fun _ _ _ _ _ st h=>wpAny_pyIter_rangeiter st h
end L2
namespace L2
open PySem PySem.Spec PyProof.Rows
section
variable {X:Cx} {tg:Expr}
def E6 (K:Zr) (tl:TE):TI:=fun σ H R=>tl σ H fun x H1=>∃ a,x=.ref a/\(∃ xs,SqL K H1 a xs)/\R (Itl K a) H1
def FU (K:Zr) (tl:TE):TI:=fun σ H R=>tl σ H fun x H1=>∃ a,x=.ref a/\(∃ xs,SqT K H1 a xs)/\R (Itt K a) H1
theorem uS {l:Expr} {tl:TE} (hl:PE X l tl):PI X tg l (E6 X.K tl):=by
 intro pins s σ H R I h;refine thn (hl pins s σ H _ I h) fun v s1 ⟨x,H1,I1,r1,q1⟩=>?_
 obtain ⟨a,e,⟨xs,hq⟩,q⟩:=q1;subst e;cases r1;obtain ⟨its,rv,p,hz⟩:=I1.list hq;refine wpAny_pyIter_list p.isList ?_;refine ⟨s1.heap.objs.size,[s1.heap.objs.size],_,_,H1,rfl,I1.kept (t':=s1.toks) fun b o e=>Heap.get?_push_of_some _ e,wa a _,⟨_,Heap.get?_push_size _ rfl,rfl,rfl⟩,fun b hb=>?_,q⟩
 have e:b=s1.heap.objs.size:=by simpa using hb
 subst e;exact I1.fpOk (ZH _) (I1.hok.fresh (ZH _))
theorem C0 {l:Expr} {tl:TE} (hl:PE X l tl):PI X tg l (FU X.K tl):=by
 intro pins s σ H R I h;refine thn (hl pins s σ H _ I h) fun v s1 ⟨x,H1,I1,r1,q1⟩=>?_
 obtain ⟨a,e,⟨xs,hq⟩,q⟩:=q1;subst e;cases r1;obtain ⟨its,rv,p,hz⟩:=I1.tuple hq;refine wpAny_pyIter_tuple (show s1.heap.IsTuple a its.toArray from p) ?_
 refine ⟨s1.heap.objs.size,[s1.heap.objs.size],_,_,H1,rfl,I1.kept (t':=s1.toks) fun b o e=>Heap.get?_push_of_some _ e,sK a _,⟨_,Heap.get?_push_size _ rfl,rfl,rfl⟩,fun b hb=>?_,q⟩
 have e:b=s1.heap.objs.size:=by simpa using hb
 subst e;exact I1.fpOk (ZH _) (I1.hok.fresh (ZH _))
theorem qH {pins:List (Addr×Obj)} {σ:St} {H:Hp} {s:Shared} {R:It->Hp->Prop} {E:Value->Shared->Prop} {lo hi:Int} {t u v:Tok} {tk:Nat} (I:Inv X pins σ H s) (h1:-(2 ^ 62)<=lo) (h2:lo < 2 ^ 62) (h3:-(2 ^ 62)<=hi) (h4:hi < 2 ^ 62)
 (q:R (Itr lo (hi - lo).toNat) H):wpAny (model X.prog X.w) X.A (pyIter (.ref s.heap.objs.size)) (PIE X pins σ tg R) E { s with heap:=s.heap.push { cls:=.type "range",data:=.fields #[.int lo t,.int hi u,.int 1 v] },toks:=tk }:=by
 refine wpAny_pyIter_range (IsRange.new ..) (small_one h1 h2 h3 h4) ?_;have I1:Inv X pins σ H { s with heap:=s.heap.push { cls:=.type "range",data:=.fields #[.int lo t,.int hi u,.int 1 v] },toks:=tk }:=I.kept fun b o e=>Heap.get?_push_of_some _ e
 refine ⟨(s.heap.push { cls:=.type "range",data:=.fields #[.int lo t,.int hi u,.int 1 v] }).objs.size,[(s.heap.push { cls:=.type "range",data:=.fields #[.int lo t,.int hi u,.int 1 v] }).objs.size],_,_,H,rfl,
  I1.kept (t':=tk) fun b o e=>Heap.get?_push_of_some _ e,sL _ lo (hi - lo).toNat,?_,fun b hb=>?_,q⟩
 . have e1:lo+((0:Nat):Int)*1=lo:=by simp
   have e2:(((hi - lo).toNat:Nat):Int) - ((0:Nat):Int)=Builtin.Range.rangeSize lo hi 1:=by rw [rangeSize_one];split <;> omega
   show IsRangeIter _ _ (lo+((0:Nat):Int)*1) ((((hi - lo).toNat:Nat):Int) - ((0:Nat):Int)) 1;rw [e1,e2];exact Heap.get?_push_size _ rfl
 . have e:b=(s.heap.push { cls:=.type "range",data:=.fields #[.int lo t,.int hi u,.int 1 v] }).objs.size:=by simpa using hb
   subst e;exact I1.fpOk (ZH _) (I1.hok.fresh (ZH _))
def E5 (ta:TA):TI:=fun σ H R=>ta σ H fun vs H1=>∃ j:Int,vs=[.int j]/\-(2 ^ 62)<=j/\j < 2 ^ 62/\R (Itr 0 j.toNat) H1
def E4 (ta:TA):TI:=fun σ H R=>ta σ H fun vs H1=>∃ i j:Int,vs=[.int i,.int j]/\(-(2 ^ 62)<=i/\i < 2 ^ 62/\-(2 ^ 62)<=j/\j < 2 ^ 62)/\R (Itr i (j - i).toNat) H1
theorem nU {a:Expr} {ta:TA} {p pos:Pos} (hg:Gl X "range") (hm:X.mg "range" = none) (ha:PA X [a] ta) (hs:starEach [a] X.env=[(false,eval a X.env)]:=by rfl):PI X tg (.Call (.Name "range" p) [a] [] pos) (E5 ta):=by
 intro pins s σ H R I h;refine Call_ (gX I hg hm boot_range (PyProof.Rows.callWith_type1 (thn (ha pos pins s σ H _ I h) fun us s1 ⟨vs,H1,I1,r1,q1⟩=>?_) hs rfl))
 obtain ⟨j,e,q1,q2,q⟩:=q1;subst e;cases r1 with
 | cons r rr =>
  cases rr;obtain ⟨t,rfl⟩:=r;exact call_range_1 (qH I1 (by omega) (by omega) q1 q2 (by simpa using q))
theorem wz {a b:Expr} {ta:TA} {p pos:Pos} (hg:Gl X "range") (hm:X.mg "range" = none) (ha:PA X [a,b] ta) (hs:starEach [a,b] X.env=[(false,eval a X.env),(false,eval b X.env)]:=by rfl) (hs2:starEach [b] X.env=[(false,eval b X.env)]:=by rfl) :
 PI X tg (.Call (.Name "range" p) [a,b] [] pos) (E4 ta):=by
 intro pins s σ H R I h;refine Call_ (gX I hg hm boot_range (PyProof.Rows.callWith_type1 (thn (ha pos pins s σ H _ I h) fun us s1 ⟨vs,H1,I1,r1,q1⟩=>?_) (by rw [hs,hs2]) (by rw [hs2];rfl)))
 obtain ⟨i,j,e,⟨q1,q2,q3,q4⟩,q⟩:=q1;subst e;cases r1 with
 | cons r rr =>
  cases rr with
  | cons r' rr =>
   cases rr;obtain ⟨t,rfl⟩:=r;obtain ⟨t',rfl⟩:=r';exact call_range_2 (qH I1 q1 q2 q3 q4 q)
def Fy (wi:TI) (g:TG) (tb:TS):TS:=fun D σ H=>wi σ H fun J H1=>∃ W:Nat->Nat->St->Hp->Prop,(∃ m,W 0 m σ H1)/\∀ i m σ H,W i m σ H ->
 (J.stop i H/\D.nx σ H) \/ (J.go i H/\∃ N:St->Hp->Prop,(∀ σ' H',N σ' H'->∃ m',m' < m/\W (i+1) m' σ' H')/\∀ x H',J.yld i H x H'->g x σ H' fun σ2 H2=>tb { D with nx:=N,ct:=N,bk:=D.nx } σ2 H2)
def pv (fp:List Addr) (h:Heap):List (Addr×Obj):=fp.filterMap fun b=>(h.get? b).map fun o=>(b,o)
theorem cA {fp:List Addr} {h:Heap} {b:Addr} {o:Obj} (hb:b∈fp) (e:h.get? b=some o):(b,o)∈pv fp h:=List.mem_filterMap.mpr ⟨b,hb,by rw [e];rfl⟩
theorem wE {fp:List Addr} {h:Heap} {p:Addr×Obj} (hp:p∈pv fp h):p.1∈fp/\h.get? p.1=some p.2:=by
 obtain ⟨b,hb,e⟩:=List.mem_filterMap.mp hp;cases q:h.get? b with
 | none=>rw [q] at e;cases e
 | some o =>
  rw [q] at e;have e':(b,o)=p:=Zy e;subst e';exact ⟨hb,q⟩
theorem Inv.pinned {pins:List (Addr×Obj)} {σ:St} {H:Hp} {s:Shared} {fp:List Addr} (I:Inv X pins σ H s) (hf:∀ b∈fp,fg X pins H b) (ho:∀ b∈fp,∃ o,s.heap.get? b=some o/\∀ v,o.data ≠ .cell v):Inv X (pins++pv fp s.heap) σ H s :=
 I.pins_of fun p hp=>(Zm.mp hp).elim (fun z=>I.pin p (Zu _ z)) fun z=>by
  obtain ⟨hb,e⟩:=wE z;obtain ⟨f0,f1,f2,_⟩:=hf p.1 hb;obtain ⟨o,e',d⟩:=ho p.1 hb;rw [e] at e';cases e';exact ⟨e,f0,f1,f2,d⟩
theorem Inv.unpinned {pins pl:List (Addr×Obj)} {σ:St} {H:Hp} {s:Shared} (I:Inv X (pins++pl) σ H s):Inv X pins σ H s:=I.pins_of fun p hp=>I.pin p (Zu _ (List.mem_append_left _ hp))
theorem pq {iter:Expr} {body:List Stmt} {wi:TI} {g:TG} {tb:TS} {pos:Pos} (hp:PassesOwn (model X.prog X.w) X.A X.env X.xe) (hc:X.calm=true) (hi:PI X tg iter wi) (hg:PG X tg g) (hb:PSs X body tb)
 (hs:∀ x,foldedSetIterable iter X.env x=pure x:=by intro _;rfl):PS X (.For tg iter body [] pos) (Fy wi g tb):=by
 intro pins s σ H D I h;refine wpAny_For (thn (hi pins s σ H _ I h) fun v s1 h1=>thn h1 fun itv s2 h2=>?_) hs
 obtain ⟨it,fp,tn,J,H2,e,I2,T,st2,f2,W,⟨m0,w0⟩,turn⟩:=h2;subst e;have stat:∀ {H':Hp},(∀ b∈fp,H' b=none)->∀ b∈fp,fg X pins H' b:=fun hn b hb=>⟨hn b hb,(f2 b hb).2⟩
 refine codeAny_forLoop_any (fun n s'=>∃ i σ' H',Inv X pins σ' H' s'/\tn i s'.heap/\(∀ b∈fp,H' b=none)/\W i n σ' H') ?_ m0 ⟨0,σ,H2,I2,st2,fun b hb=>(f2 b hb).1,w0⟩
 rintro n s3 ⟨i,σ3,H3,I3,st3,fr3,w3⟩
 rcases turn i n σ3 H3 w3 with ⟨stop,qn⟩ | ⟨go,N,hN,step⟩
 . refine wpAny_passesOwn hp (thn (T.done X rfl rfl rfl hc i pins s3 σ3 H3 X.xe I3 (stat fr3) st3 stop) fun r s4 ⟨hr,I4⟩=>?_)
   subst hr;exact wpAny_execs_nil ⟨σ3,H3,I4,qn⟩
 . refine wpAny_passesOwn hp (thn (T.item X rfl rfl rfl hc i pins s3 σ3 H3 X.xe I3 (stat fr3) st3 go) fun r s4 ⟨u,hr,h4⟩=>?_)
   subst hr;refine wpAny_passesOwn hp (thn h4 fun _ s5 ⟨x,H5,I5,r5,y5,st5,fr5⟩=>?_)
   have I5':=I5.pinned (stat fr5) (T.obj _ _ st5);refine wpAny_passesOwn hp (thn (hg _ s5 σ3 H5 x u _ I5' r5 (step x H5 y5)) fun _ s6 ⟨σ6,H6,I6,q6⟩=>?_)
   refine wpAny_passesOwn hp (thn (hb _ s6 σ6 H6 _ I6 q6) fun f s7 q7=>?_)
   have again:∀ {σ7:St} {H7:Hp},Inv X (pins++pv fp s5.heap) σ7 H7 s7->N σ7 H7->∃ m,m < n/\∃ i σ' H',Inv X pins σ' H' s7/\tn i s7.heap/\(∀ b∈fp,H' b=none)/\W i m σ' H':=fun {σ7 H7} I7 n7=>by
    obtain ⟨m',hm,w7⟩:=hN σ7 H7 n7;refine ⟨m',hm,i+1,σ7,H7,I7.unpinned,T.keep _ _ _ st5 fun b hb o e=>(I7.pin (b,o) (Zu _ (Zu _ (cA hb e)))).1,fun b hb=>?_,w7⟩
    obtain ⟨o,e,d⟩:=T.obj _ _ st5 b hb;exact (I7.pin (b,o) (Zu _ (Zu _ (cA hb e)))).2.1
   cases f with
   | next=>obtain ⟨σ7,H7,I7,n7⟩:=q7;exact again I7 n7
   | cont=>obtain ⟨σ7,H7,I7,n7⟩:=q7;exact again I7 n7
   | brk=>obtain ⟨σ7,H7,I7,q7⟩:=q7;exact ⟨σ7,H7,I7.unpinned,q7⟩
   | ret v=>obtain ⟨x7,σ7,H7,I7,r7,q7⟩:=q7;exact ⟨x7,σ7,H7,I7.unpinned,r7,q7⟩
end
end L2
namespace L2
open PySem PySem.Spec PyProof.Rows
abbrev R2:=V->V->Hp->VK->Prop
def OpR (X:Cx) (f:Value->Value->Sem Value) (r:R2):Prop :=
 ∀ (pins:List (Addr×Obj)) (s:Shared) (σ:St) (H:Hp) (x y:V) (v u:Value) (Q:VK),Inv X pins σ H s->RelV x v->RelV y u->r x y H Q ->
  wpAny (model X.prog X.w) X.A (f v u) (EP X pins σ Q) X.xe s
def UnR (X:Cx) (f:Value->Sem Value) (r:V->Hp->VK->Prop):Prop :=
 ∀ (pins:List (Addr×Obj)) (s:Shared) (σ:St) (H:Hp) (x:V) (v:Value) (Q:VK),Inv X pins σ H s->RelV x v->r x H Q ->
  wpAny (model X.prog X.w) X.A (f v) (EP X pins σ Q) X.xe s
def cW (X:Cx) (f:Value) (r:List V->Hp->VK->Prop):Prop :=
 ∀ (pins:List (Addr×Obj)) (s:Shared) (σ:St) (H:Hp) (xs:List V) (us:List Value) (Q:VK),Inv X pins σ H s->Vals xs us->r xs H Q ->
  wpAny (model X.prog X.w) X.A (call f us) (EP X pins σ Q) X.xe s
def tOp (r:R2) (ta tb:TE):TE:=fun σ H Q=>ta σ H fun x H1=>tb σ H1 fun y H2=>r x y H2 Q
def tUn (r:V->Hp->VK->Prop) (ta:TE):TE:=fun σ H Q=>ta σ H fun x H1=>r x H1 Q
def rI (C:Int->Int->Prop) (g:Int->Int->V):R2:=fun x y H Q=>∃ i j,x=.int i/\y=.int j/\C i j/\Q (g i j) H
def rI0 (g:Int->Int->V):R2:=fun x y H Q=>∃ i j,x=.int i/\y=.int j/\Q (g i j) H
def rU (g:Int->V):V->Hp->VK->Prop:=fun x H Q=>∃ i,x=.int i/\Q (g i) H
section
variable {X:Cx} {a b c:Expr} {ta tb tc:TE} {pos:Pos}
theorem DW (ha:PE X a ta) (hb:PE X b tb) {pins:List (Addr×Obj)} {s:Shared} {σ:St} {H:Hp} {R:V->V->Hp->Prop} (I:Inv X pins σ H s)
 (h:ta σ H fun x H1=>tb σ H1 fun y H2=>R x y H2) {Q:Value->Shared->Prop} {f:Value->Value->Sem Value}
 (hf:∀ v u s2 x y H2,Inv X pins σ H2 s2->RelV x v->RelV y u->R x y H2->wpAny (model X.prog X.w) X.A (f v u) Q X.xe s2) :
 wpAny (model X.prog X.w) X.A (eval a X.env) (fun v s₁=>wpAny (model X.prog X.w) X.A (eval b X.env) (fun u s₂=>wpAny (model X.prog X.w) X.A (f v u) Q X.xe s₂) X.xe s₁) X.xe s:=by
 refine thn (ha pins s σ H _ I h) fun v s1 ⟨x,H1,I1,r1,q1⟩=>?_
 refine thn (hb pins s1 σ H1 _ I1 q1) fun u s2 ⟨y,H2,I2,r2,q2⟩=>?_
 exact hf v u s2 x y H2 I2 r1 r2 q2
theorem uT {op:Operator} {r:R2} (ho:OpR X (binaryOp op) r) (ha:PE X a ta) (hb:PE X b tb):PE X (.BinOp a op b pos) (tOp r ta tb):=by
 intro pins s σ H Q I h;exact wpAny_BinOp (DW ha hb I h fun v u s2 x y H2 I2 rx ry q=>ho pins s2 σ H2 x y v u Q I2 rx ry q)
theorem EO {op:UnaryOp} {r:V->Hp->VK->Prop} (ho:UnR X (unaryOp op) r) (ha:PE X a ta):PE X (.UnaryOp op a pos) (tUn r ta):=by
 intro pins s σ H Q I h;exact UnaryOp_ (thn (ha pins s σ H _ I h) fun v s1 ⟨x,H1,I1,r1,q1⟩=>ho pins s1 σ H1 x v Q I1 r1 q1)
theorem opI {f:Value->Value->Sem Value} {C:Int->Int->Prop} {g:Int->Int->Int}
 (rule:∀ (i j:Int) (t u:Tok) (s:Shared) (Q:Value->Shared->Prop) (E:Value->Shared->Prop),C i j->Q (.int (g i j) s.toks) { s with toks:=s.toks+1 }->wpAny (model X.prog X.w) X.A (f (.int i t) (.int j u)) Q E s) :
 OpR X f (rI C fun i j=>.int (g i j)):=by
 intro pins s σ H x y v u Q I rx ry h;obtain ⟨i,j,rfl,rfl,hc,q⟩:=h;obtain ⟨t,rfl⟩:=rx;obtain ⟨t',rfl⟩:=ry;exact rule i j t t' s _ _ hc ⟨.int (g i j),H,I.tok _,⟨_,rfl⟩,q⟩
theorem EV {f:Value->Value->Sem Value} {g:Int->Int->Int}
 (rule:∀ (i j:Int) (t u:Tok) (s:Shared) (Q:Value->Shared->Prop) (E:Value->Shared->Prop),Q (.int (g i j) s.toks) { s with toks:=s.toks+1 }->wpAny (model X.prog X.w) X.A (f (.int i t) (.int j u)) Q E s) :
 OpR X f (rI0 fun i j=>.int (g i j)):=by
 intro pins s σ H x y v u Q I rx ry h;obtain ⟨i,j,rfl,rfl,q⟩:=h;obtain ⟨t,rfl⟩:=rx;obtain ⟨t',rfl⟩:=ry;exact rule i j t t' s _ _ ⟨.int (g i j),H,I.tok _,⟨_,rfl⟩,q⟩
theorem Dh {f:Value->Value->Sem Value} {g:Int->Int->Bool}
 (rule:∀ (i j:Int) (t u:Tok) (s:Shared) (Q:Value->Shared->Prop) (E:Value->Shared->Prop),Q (.bool (g i j)) s->wpAny (model X.prog X.w) X.A (f (.int i t) (.int j u)) Q E s) :
 OpR X f (rI0 fun i j=>.bl (g i j)):=by
 intro pins s σ H x y v u Q I rx ry h;obtain ⟨i,j,rfl,rfl,q⟩:=h;obtain ⟨t,rfl⟩:=rx;obtain ⟨t',rfl⟩:=ry;exact rule i j t t' s _ _ ⟨.bl (g i j),H,I,rfl,q⟩
def kL (i j:Int):Prop:=0<=j/\j<=1000000/\i.natAbs < 2 ^ 64
def CMul (i j:Int):Prop:=(-(2 ^ 64) < i/\i < 2 ^ 64) \/ (-(2 ^ 64) < j/\j < 2 ^ 64)
theorem CMul.ok {i j:Int} (h:CMul i j):IntMulOk i j:=by
 rcases h with ⟨h1,h2⟩ | ⟨h1,h2⟩
 . exact .of_left (intBits_le_64 h1 h2)
 . exact .of_right (intBits_le_64 h1 h2)
theorem op_add:OpR X (binaryOp .Add) (rI0 fun i j=>.int (i+j)):=EV fun _ _ _ _ _ _ _ q=>add_int q
theorem Dc:OpR X (binaryOp .Sub) (rI0 fun i j=>.int (i - j)):=EV fun _ _ _ _ _ _ _ q=>sub_int q
theorem Df:OpR X (binaryOp .Mod) (rI (fun _ j=>0 < j) fun i j=>.int (i % j)):=opI fun i j _ _ _ _ _ hc q=>by
 have h1:(0:Int) < j:=hc;exact mod_int' (by omega) (by rw [Int.fmod_eq_emod_of_nonneg i (by omega)];exact q)
theorem Dd:OpR X (binaryOp .Pow) (rI kL fun i j=>.int (i ^ j.toNat)):=opI fun _ _ _ _ _ _ _ hc q=>pow_int_small hc.1 hc.2.1 hc.2.2 q
theorem unI {f:Value->Sem Value} {g:Int->Int}
 (rule:∀ (i:Int) (t:Tok) (s:Shared) (Q:Value->Shared->Prop) (E:Value->Shared->Prop),Q (.int (g i) s.toks) { s with toks:=s.toks+1 }->wpAny (model X.prog X.w) X.A (f (.int i t)) Q E s) :
 UnR X f (rU fun i=>.int (g i)):=by
 intro pins s σ H x v Q I rx h;obtain ⟨i,rfl,q⟩:=h;obtain ⟨t,rfl⟩:=rx;exact rule i t s _ _ ⟨.int (g i),H,I.tok _,⟨_,rfl⟩,q⟩
theorem Cp:UnR X (unaryOp .USub) (rU fun i=>.int (-i)):=unI fun _ _ _ _ _ q=>neg_int q
end
section
variable {X:Cx} {a b c:Expr} {ta tb tc:TE} {pos:Pos}
theorem DJ {pins:List (Addr×Obj)} {σ:St} {H:Hp} {s:Shared} {Q:VK} {k k':Bool} (I:Inv X pins σ H s) (q:Q (.bl k) H) (e:k=k'):EP X pins σ Q (.bool k') s:=by
 subst e;exact ⟨.bl k,H,I,rfl,q⟩
theorem BZ:OpR X (compareOp .Lt) (rI0 fun i j=>.bl (decide (i < j))):=Dh fun _ _ _ _ _ _ _ q=>lt_int q
theorem B1:OpR X (compareOp .LtE) (rI0 fun i j=>.bl (decide (i<=j))):=Dh fun _ _ _ _ _ _ _ q=>le_int q
theorem EU:OpR X (compareOp .Gt) (rI0 fun i j=>.bl (decide (j < i))):=Dh fun _ _ _ _ _ _ _ q=>gt_int q
theorem AR:OpR X (compareOp .IsNot) (fun x y H Q=>y=.non/\Q (.bl (!decide (x=.non))) H):=by
 intro pins s σ H x y v u Q I rx ry h;obtain ⟨rfl,q⟩:=h;cases ry;refine isnot_none_gen (DJ I q ?_);cases x <;> first
  | (cases rx;rfl)
  | (obtain ⟨t,rfl⟩:=rx;rfl)
theorem OpR.or {f:Value->Value->Sem Value} {r r':R2} (h:OpR X f r) (h':OpR X f r'):OpR X f (fun x y H Q=>r x y H Q \/ r' x y H Q):=by
 intro pins s σ H x y v u Q I rx ry q;rcases q with q | q
 . exact h pins s σ H x y v u Q I rx ry q
 . exact h' pins s σ H x y v u Q I rx ry q
theorem dD (b:Expr) {op:CmpOp} (h:op ≠ .In:=by decide) (h2:op ≠ .NotIn:=by decide):behindInMarks op b=false:=by
 have e1:(op == CmpOp.In)=false:=by cases op <;> first | rfl | exact absurd rfl h
 have e2:(op == CmpOp.NotIn)=false:=by cases op <;> first | rfl | exact absurd rfl h2
 cases b <;> simp [behindInMarks,e1,e2]
theorem AK {op:CmpOp} {r:R2} (ho:OpR X (compareOp op) r) (ha:PE X a ta) (hb:PE X b tb) (hm:behindInMarks op b=false):PE X (.Compare a [op] [b] pos) (tOp r ta tb):=by
 intro pins s σ H Q I h;exact wpAny_Compare1 (DW ha hb I h fun v u s2 x y H2 I2 rx ry q=>ho pins s2 σ H2 x y v u Q I2 rx ry q) hm
def Eg (t:TE):TT:=fun σ H Q=>t σ H fun x H'=>∃ k,x=.bl k/\Q k H'
theorem AE {op:CmpOp} {r:R2} (ho:OpR X (compareOp op) r) (ha:PE X a ta) (hb:PE X b tb) (hm:behindInMarks op b=false):PT X (.Compare a [op] [b] pos) (Eg (tOp r ta tb)):=by
 intro pins s σ H Q I h;refine wpAny_isTrue_Compare1 (thn (ha pins s σ H _ I h) fun v s1 ⟨x,H1,I1,r1,q1⟩=>thn (hb pins s1 σ H1 _ I1 q1) fun u s2 ⟨y,H2,I2,r2,q2⟩ =>
  thn (ho pins s2 σ H2 x y v u _ I2 r1 r2 q2) fun c s3 ⟨z,H3,I3,r3,k,e,q3⟩=>?_) hm
 subst e;cases r3;exact wpAny_truthy_bool ⟨H3,I3,q3⟩
theorem pL:(sizeLine:Nat) < 2 ^ 63:=by rw [sizeLine_eq];decide
theorem fq {x:V} {us:List Value} (r:Vals [x] us):∃ u,us=[u]/\RelV x u:=by
 cases r with
 | cons r1 r2=>cases r2;exact ⟨_,rfl,r1⟩
theorem Ed {x y:V} {us:List Value} (r:Vals [x,y] us):∃ u w',us=[u,w']/\RelV x u/\RelV y w':=by
 cases r with
 | cons r1 r2 =>
  cases r2 with
  | cons r3 r4=>cases r4;exact ⟨_,_,rfl,r1,r3⟩
theorem mX:cW X (.builtin "abs") (fun xs H Q=>∃ i,xs=[.int i]/\Q (.int (if i < 0 then -i else i)) H):=by
 intro pins s σ H xs us Q I r h;obtain ⟨i,rfl,q⟩:=h;obtain ⟨u,rfl,t,rfl⟩:=fq r;exact call_abs_int fun u tk=>⟨.int (if i < 0 then -i else i),H,I.tok _,⟨_,rfl⟩,q⟩
theorem xg:cW X (.type "int") (fun xs H Q=>(∃ i,xs=[.int i]/\Q (.int i) H) \/ ∃ k,xs=[.bl k]/\Q (.int (if k then 1 else 0)) H):=by
 intro pins s σ H xs us Q I r h;rcases h with ⟨i,rfl,q⟩ | ⟨k,rfl,q⟩
 . obtain ⟨u,rfl,t,rfl⟩:=fq r;exact call_int_int ⟨.int i,H,I,⟨_,rfl⟩,q⟩
 . obtain ⟨u,rfl,r1⟩:=fq r;cases r1;exact call_int_bool ⟨.int (if k then 1 else 0),H,I.tok _,⟨_,rfl⟩,q⟩
end
end L2
namespace L2
open PySem PySem.Spec PyProof.Rows
section
variable {prog:Program} {w:World} {A:Around} {E:Value->Shared->Prop} {s:Shared} {K:Zr} {x dx C f:Addr} {mA:Str->Option Value} {name:Str} {v:Value}
end
section
variable {P:Program} {w:World} {H H':Hp} {h h':Heap} {a C dx:Addr} {fs fs':List (Str×V)}
end
section
variable {X:Cx} {pins:List (Addr×Obj)} {σ:St} {H:Hp} {s:Shared} {a C dx:Addr} {fs:List (Str×V)} {f:Str} {v:V} {A:Around} {E:Value->Shared->Prop}
end
section
variable {X:Cx} {o e value:Expr} {f:Str} {pos pos' tpos:Pos} {ta tv:TE}
end
section
variable {X:Cx} {pins:List (Addr×Obj)} {σ:St} {H:Hp} {s:Shared} {A:Around} {E:Value->Shared->Prop} {Q:Value->Shared->Prop} {c:Value} {b:Bool}
end
end L2
namespace L2
open PySem PySem.Spec PyProof.Rows
structure Room (k:Nat) (A:Around):Prop where
 hd:A.handled=none
 dp:A.depth+3*k+5 < recursionLimit
 un:A.units+16*k+200 < cLine
theorem Room.mono {j k:Nat} {A:Around} (r:Room k A) (h:j<=k):Room j A:=⟨r.hd,by have:=r.dp;omega,by have:=r.un;omega⟩
theorem Room.deeper {k:Nat} {A:Around} (r:Room (k+1) A) (env:Env):Room k (A.deeper env) :=
 ⟨r.hd,by have:=r.dp;show A.depth+1+3*k+5 < _;omega,by have:=r.un;show A.units+3+16*k+200 < _;omega⟩
theorem Room.depth {k:Nat} {A:Around} (r:Room k A):A.depth < recursionLimit:=by have:=r.dp;omega
theorem Room.units {k:Nat} {A:Around} (r:Room k A):A.units+64 < cLine:=by have:=r.un;omega
theorem Room.units0 {k:Nat} {A:Around} (r:Room k A):A.units < cLine:=by have:=r.un;omega
def Al:TA:=fun _ H Q=>Q [] H
def qz (ta:TE) (tr:TA):TA:=fun σ H Q=>ta σ H fun x H1=>tr σ H1 fun xs H2=>Q (x :: xs) H2
section
variable {X:Cx} {e:Expr} {es:List Expr} {te:TE} {t:TA} {pos:Pos}
theorem cY:PA X [] Al:=fun _ _ _ _ H Q I h=>Calls.spliced_nil ⟨[],H,I,.nil,h⟩
theorem bz (ha:PE X e te) (hr:PA X es t) (hs:starEach (e :: es) X.env=(false,eval e X.env) :: starEach es X.env:=by rfl):PA X (e :: es) (qz te t):=by
 intro pos pins s σ H Q I h;rw [hs];show wpAny _ _ (spliced ((false,eval e X.env) :: backTo pos (starEach es X.env))) _ _ s;refine Calls.spliced_cons (thn (ha pins s σ H _ I h) fun u s1 ⟨x,H1,I1,r1,q1⟩=>?_)
 exact thn (hr pos pins s1 σ H1 _ I1 q1) fun us s2 ⟨xs,H2,I2,r2,q2⟩=>⟨x :: xs,H2,I2,.cons r1 r2,q2⟩
def Fq (t:TA):TE:=fun σ H Q=>t σ H fun xs H1=>xs.length<=sizeLine/\∀ p,H1 p=none->Q (.ref p) (upd H1 p (.tup xs))
def Fw (t:TA):TE:=fun σ H Q=>t σ H fun xs H1=>xs.length<=sizeLine/\∀ p,H1 p=none->Q (.ref p) (upd H1 p (.lst xs))
theorem sZ {x1} (h:PA X es t):PE X (.Tuple es x1 pos) (Fq t):=by
 intro pins s σ H Q I hq;refine wpAny_Tuple_spliced (thn (h pos pins s σ H _ I hq) fun us s1 ⟨xs,H1,I1,r,z,q⟩=>⟨by rw [<- r.length];exact z,?_⟩)
 have hf:H1 s1.heap.objs.size=none:=I1.hok.fresh (ZH _);refine ⟨.ref s1.heap.objs.size,upd H1 s1.heap.objs.size (.tup xs),I1.laid (t':=s1.toks) (fun b u e=>Heap.get?_push_of_some _ e) (ZH _) ?_,rfl,q _ hf⟩
 exact ⟨z,us,r,⟨_,Heap.get?_push_size _ rfl,rfl,_,rfl⟩⟩
theorem s8 (h:PA X es t):PE X (.List es pos) (Fw t):=by
 intro pins s σ H Q I hq;refine wpAny_List_spliced (thn (h pos pins s σ H _ I hq) fun us s1 ⟨xs,H1,I1,r,z,q⟩=>⟨by rw [<- r.length];exact z,?_⟩)
 have hf:H1 s1.heap.objs.size=none:=I1.hok.fresh (ZH _);refine ⟨.ref s1.heap.objs.size,upd H1 s1.heap.objs.size (.lst xs),I1.laid (t':=s1.toks) (fun b u e=>Heap.get?_push_of_some _ e) (ZH _) ?_,rfl,q _ hf⟩
 exact ⟨z,us,0,r,Heap.get?_push_size _ rfl⟩
end
abbrev Sp:=List V->Hp->VK->XK->Prop
abbrev CXT:=List Env->Hp->Shared->XK->Value->Shared->Prop
structure BG (P:Program) (w:World) (K:Zr) (mg:Str->Option Value) (base:Heap) (A:Around) (outer:List Env) (s:Shared) (H:Hp):Prop where
 frames:A.frames=some outer
 mod:Mod K mg base
 bs:∀ b o,base.get? b=some o->s.heap.get? b=some o/\H b=none
 bsz:base.objs.size<=s.heap.objs.size
 funs:s.heap.FunFrames base outer
 frf:∀ b∈frs outer,H b=none
 hok:HOk P w H s.heap
 bare:AllBare s.gens
def CE (outer:List Env) (P:Program) (w:World) (H:Hp) (s:Shared) (Q:VK) (u:Value) (s':Shared):Prop :=
 ∃ v H',s'.os=s.os/\AllBare s'.gens/\Un (frs outer) [] H H' s.heap s'.heap/\HOk P w H' s'.heap/\RelV v u/\Q v H'
def CR (CX:CXT) (outer:List Env) (P:Program) (w:World) (H:Hp) (s:Shared) (Q:VK) (E:XK) (r:Result) (s':Shared):Prop :=
 match r with
 | .ok (.ret u)=>CE outer P w H s Q u s'
 | .ok _=>False
 | .error e=>CX outer H s E e s'
structure FnOk (P:Program) (w:World) (K:Zr) (mg:Str->Option Value) (base:Heap) (CX:CXT) (k:Nat) (f:Addr) (fd:FuncData) (ps:List Str) (sp:Sp):Prop where
 len:∀ vs H Q E,sp vs H Q E->vs.length=ps.length
 run:∀ (A:Around) (outer:List Env) (s:Shared) (H:Hp) (args:Args) (us:List Value) (vs:List V) (Q:VK) (E:XK),Room k A->BG P w K mg base A outer s H->BindsTo s fd args (ps.zip us)->Vals vs us->sp vs H Q E ->
  codeAny (model P w) A (.call (.ref f) args) (CR CX outer P w H s Q E) s
theorem FnOk.imp {P:Program} {w:World} {K:Zr} {mg:Str->Option Value} {base:Heap} {CX:CXT} {k:Nat} {f:Addr} {fd:FuncData} {ps:List Str} {sp sp':Sp} (F:FnOk P w K mg base CX k f fd ps sp)
 (h:∀ vs H Q E,sp' vs H Q E->sp vs H Q E):FnOk P w K mg base CX k f fd ps sp' :=
 ⟨fun vs H Q E q=>F.len vs H Q E (h _ _ _ _ q),fun A outer s H args us vs Q E hr he hb hv hs=>F.run A outer s H args us vs Q E hr he hb hv (h _ _ _ _ hs)⟩
section
variable {X:Cx} {pins:List (Addr×Obj)} {σ:St} {H:Hp} {s s':Shared}
theorem Inv.env0 (I:Inv X pins σ H s):BG X.prog X.w X.K X.mg X.base X.A X.stack s H :=
 ⟨I.ok.frames,I.ok.mod,I.bs,Nat.le_trans I.ok.bsz I.sz,I.stack,I.stkFree,I.hok,I.bare⟩
theorem Inv.after {Q:VK} {u:Value} (I:Inv X pins σ H s) (h:CE X.stack X.prog X.w H s Q u s'):EP X pins σ Q u s':=by
 obtain ⟨v,H',os,bare,un,hok,r,q⟩:=h;obtain ⟨hh,g,d,t,os'⟩:=s';obtain rfl:os'=s.os:=os;exact ⟨v,H',I.call (h':=hh) (g':=g) (d':=d) (t':=t) (ch:=[]) un hok bare (fun b z=>absurd z (by simp)),r,q⟩
end
def El (sp:Sp) (dvs:List V) (E:XK) (t:TA):TE:=fun σ H Q=>t σ H fun vs H1=>sp (vs++dvs) H1 Q E
def Binds (K:Zr) (fd:FuncData) (ps:List Str) (ds:List Value):Prop :=
 ∀ (s:Shared) (us:List Value),K.In s.heap->(us++ds).length=ps.length->BindsTo s fd ⟨us,[]⟩ (ps.zip (us++ds))
theorem Binds.all {K:Zr} {fd:FuncData} {ps:List Str} (h:∀ us:List Value,us.length=ps.length->bindArgs fd ⟨us,[]⟩=pure (ps.zip us)):Binds K fd ps []:=fun s us _ hl=>by
 rw [List.append_nil] at hl ⊢;exact .of_eq (h us hl)
def ui (CX:CXT) (X:Cx) (E:XK):Prop:=∀ (pins:List (Addr×Obj)) (σ:St) (H:Hp) (s:Shared) (e:Value) (s':Shared),Inv X pins σ H s->CX X.stack H s E e s'->X.xe e s'
section
variable {X:Cx} {CX:CXT} {k:Nat} {f C:Addr} {fd:FuncData} {ps:List Str} {sp:Sp} {dvs:List V} {ds:List Value} {E:XK} {x m:Str} {p pos apos:Pos} {e o:Expr} {es:List Expr} {ta:TE} {t:TA}
theorem CB {pins:List (Addr×Obj)} {σ:St} {H:Hp} {s:Shared} {Q:VK} {us:List Value} {vs:List V} (F:FnOk X.prog X.w X.K X.mg X.base CX k f fd ps sp) (hr:Room k X.A) (hb:Binds X.K fd ps ds) (hd:Vals dvs ds) (hx:ui CX X E)
 (I:Inv X pins σ H s) (r:Vals vs us) (h:sp (vs++dvs) H Q E):wpAny (model X.prog X.w) X.A (call (.ref f) us) (EP X pins σ Q) X.xe s:=by
 have r2:Vals (vs++dvs) (us++ds):=r.append hd;have hl:(us++ds).length=ps.length:=by rw [<- r2.length];exact F.len _ _ _ _ h
 refine wpAny_call (codeAny_mono (F.run X.A X.stack s H ⟨us,[]⟩ (us++ds) (vs++dvs) Q E hr I.env0 (hb s us I.kIn hl) r2 h) fun r s' hq=>?_)
 cases r with
 | error e=>exact hx pins σ H s e s' I hq
 | ok fl =>
  cases fl with
  | ret u=>exact I.after hq
  | next=>exact False.elim hq
  | brk=>exact False.elim hq
  | cont=>exact False.elim hq
theorem kX (F:FnOk X.prog X.w X.K X.mg X.base CX k f fd ps sp) (hr:Room k X.A) (hg:Gl X x) (hm:X.mg x=some (.ref f)) (hk:PySem.W.keepIn X.K (.ref f)=true) (hb:Binds X.K fd ps ds) (hd:Vals dvs ds) (hx:ui CX X E)
 (ha:PA X (e :: es) t) (hdb:(x == ("__debug__":Str))=false:=by decide) (he:starEach (e :: es) X.env=(false,eval e X.env) :: starEach es X.env:=by rfl) (hpl:(backTo pos (starEach es X.env)).any (·.1)=false:=by rfl) :
 PE X (.Call (.Name x p) (e :: es) [] pos) (El sp dvs E t):=by
 intro pins s σ H Q I h;refine wpAny_Call_Name_kw (Bc I hg hm ?_ hdb);refine PySem.W.callWith_K (h₀:=X.base) I.ok.mod.kin hk (thn (ha pos pins s σ H _ I h) fun us s1 ⟨vs,H1,I1,r,q⟩=>⟨I1.kIn,?_⟩) he hpl
 exact CB F hr hb hd hx I1 r q
end
section
variable {X:Cx} {CX:CXT} {k:Nat} {f C:Addr} {fd:FuncData} {ps ks:List Str} {sp:Sp} {E:XK} {x m:Str} {p pos apos kpos:Pos} {e o:Expr} {es:List Expr} {kws:List Keyword} {te ta:TE} {t tk:TA} {nm:Option Str}
variable {g:List Value->List Value->List Value} {gV:List V->List V->List V}
end
structure au (N P:List Str) (sc:Scope):Prop where
 kind:sc.kind=.function
 co:sc.isCoroutine=false
 gen:sc.isGenerator=false
 nd:N.Nodup
 pre:N.take P.length=P
 par:∀ x∈P,sc.names.lookup x=some .local \/ sc.names.lookup x=some .cell
 nofree:∀ y∈sc.names,y.2 ≠ .free
theorem oC {kindOf:Str->Option NameKind} {x:Str}:∀ {binds:List (Str×Value)} {m:Str->Option Value},(∀ v,(x,v) ∉ binds)->bindL kindOf binds m x=m x
 | [],_,_=>rfl
 | (n,v) :: r,m,h=>by
  unfold bindL;rw [oC fun w hw=>h w (Zj _ hw)]
  split
  . have:x ≠ n:=by rintro rfl;exact h v Zi
    simp [this]
  . rfl
theorem oE {kindOf:Str->Option NameKind} {x:Str}:∀ {binds:List (Str×Value)} {m:Str->Option Value},(∀ v,(x,v) ∉ binds)->bindC kindOf binds m x=m x
 | [],_,_=>rfl
 | (n,v) :: r,m,h=>by
  unfold bindC;rw [oE fun w hw=>h w (Zj _ hw)]
  split
  . rfl
  . have:x ≠ n:=by rintro rfl;exact h v Zi
    simp [this]
theorem oD {kindOf:Str->Option NameKind} {x:Str} {v:Value}:∀ {P:List Str} {vs:List Value} {i:Nat} {m:Str->Option Value},P.Nodup->P[i]? = some x->vs[i]? = some v->kindOf x=some .local ->
 bindL kindOf (P.zip vs) m x=some v
 | [],_,_,_,_,h,_,_=>by simp at h
 | _ :: _,[],_,_,_,_,h,_=>by simp at h
 | p :: P,w :: vs,0,m,nd,h1,h2,hk=>by
  simp at h1 h2;subst h1;subst h2;show bindL kindOf ((p,w) :: P.zip vs) m p=_;unfold bindL;rw [oC fun v hv=>(List.nodup_cons.mp nd).1 (List.of_mem_zip hv).1,if_pos hk]
  simp
 | p :: P,w :: vs,i+1,m,nd,h1,h2,hk=>by
  show bindL kindOf ((p,w) :: P.zip vs) m x=_;unfold bindL;exact oD (i:=i) (List.nodup_cons.mp nd).2 (by simpa using h1) (by simpa using h2) hk
theorem oF {kindOf:Str->Option NameKind} {x:Str} {v:Value}:∀ {P:List Str} {vs:List Value} {i:Nat} {m:Str->Option Value},P.Nodup->P[i]? = some x->vs[i]? = some v->kindOf x ≠ some .local ->
 bindC kindOf (P.zip vs) m x=some v
 | [],_,_,_,_,h,_,_=>by simp at h
 | _ :: _,[],_,_,_,_,h,_=>by simp at h
 | p :: P,w :: vs,0,m,nd,h1,h2,hk=>by
  simp at h1 h2;subst h1;subst h2;show bindC kindOf ((p,w) :: P.zip vs) m p=_;unfold bindC;rw [oE fun v hv=>(List.nodup_cons.mp nd).1 (List.of_mem_zip hv).1,if_neg hk]
  simp
 | p :: P,w :: vs,i+1,m,nd,h1,h2,hk=>by
  show bindC kindOf ((p,w) :: P.zip vs) m x=_;unfold bindC;exact oF (i:=i) (List.nodup_cons.mp nd).2 (by simpa using h1) (by simpa using h2) hk
def start (N:List Str) (vs:List V):St:=vs.map some++List.replicate (N.length - vs.length) none
def mT (CX:CXT) (P:Program) (w:World) (K:Zr) (mg:Str->Option Value) (base:Heap) (N:List Str) (qual:Str) (scope:Scope) (f:Addr) (cd:Value) (A:Around) (outer:List Env) (s:Shared) (H:Hp) (E:XK):Cx where
 prog:=P
 w:=w
 K:=K
 mg:=mg
 base:=base
 A:=A.deeper (envOfC qual scope s.heap.objs.size f cd)
 N:=N
 s₀:=s
 H₀:=H
 env:=envOfC qual scope s.heap.objs.size f cd
 outer:=outer
 stack:=envOfC qual scope s.heap.objs.size f cd :: outer
 ex:=[]
 calm:=true
 fn:=fun _=>true
 pn:=[]
 xe:=fun e s'=>wpAny (model P w) (A.deeper (envOfC qual scope s.heap.objs.size f cd)) (leaving (envOfC qual scope s.heap.objs.size f cd) e) (fun _ s''=>CX outer H s E e s'') (fun e' s''=>CX outer H s E e' s'') s'
theorem sj {sc:Scope} {n:Nat} {x:Str} (h:sc.names.lookup x=some .cell):∃ c,(cellsFrom n sc.names []).lookup x=some c:=by
 have q:=PySem.W.cellsFrom_some sc.names n [] (.inl h);exact Option.isSome_iff_exists.mp q
theorem wP {CX:CXT} {P:Program} {w:World} {K:Zr} {mg:Str->Option Value} {base:Heap} {N ps:List Str} {qual:Str} {scope:Scope} {f:Addr} {cd:Value} {A:Around} {outer:List Env} {s s1:Shared} {H:Hp} {E:XK} {us:List Value} {vs:List V}
 (S:au N ps scope) (hd:A.handled=none) (e0:BG P w K mg base A outer s H) (hl:vs.length=ps.length) (r:Vals vs us)
 (x:InCallC s s.heap.objs.size (bindL (envOfC qual scope s.heap.objs.size f cd).kindOf (ps.zip us) fun _=>none) (cellsFrom (s.heap.objs.size+1) scope.names []) (bindC (envOfC qual scope s.heap.objs.size f cd).kindOf (ps.zip us) fun _=>none) s1) :
 Inv (mT CX P w K mg base N qual scope f cd A outer s H E) [] (start N vs) H s1:=by
 have hpl:ps.length<=N.length:=by have:=congrArg List.length S.pre;rw [List.length_take] at this;omega
 obtain ⟨h1,tk,rfl,hk⟩:=x.done;have noA:∀ b:Addr,b ∉ (mT CX P w K mg base N qual scope f cd A outer s H E).ex:=fun b z=>absurd (show b∈([]:List Addr) from z) (by simp)
 refine ⟨⟨e0.mod,S.kind,rfl,rfl,ZH _,fun y z c h1 h2=>?_,fun y hy=>?_,fun y c _ h=>?_,fun _=>hd,Around.frames_deeper e0.frames,.inr ⟨rfl,rfl⟩,fun b z=>absurd z (noA b),e0.bs,e0.bsz,fun b _ _=>noA b,fun b z=>absurd z (noA b),e0.funs,e0.frf⟩,
  rfl,e0.bare,Un.kept hk,⟨_,x.toInCall.ns,fun i y v h1 h2 h3=>?_⟩,fun y c h=>⟨_,x.cell y c h⟩,e0.hok.fresh (ZH _),fun y c h=>?_,fun p hp=>absurd (show p∈([]:List (Addr×Obj)) from hp) (by simp),e0.hok.kept hk,?_⟩
 . exact name_of_addr x.apart (PySem.mem_of_lookup h1) (PySem.mem_of_lookup h2)
 . have hy:scope.names.lookup y=some .cell \/ scope.names.lookup y=some .free:=hy;rcases hy with hy | hy
   . exact sj hy
   . exact absurd rfl (S.nofree _ (PySem.mem_of_lookup hy))
 . exact Nat.le_of_lt (x.above y c (PySem.mem_of_lookup h))
 . have hi:i < vs.length:=by
    unfold start at h2
    by_cases hi:i < vs.length
    . exact hi
    . rw [ZE (by simpa using hi)] at h2
      rw [List.getElem?_replicate] at h2;split at h2 <;> cases h2
   have ha:vs[i]? = some v:=by
    unfold start at h2;rw [List.getElem?_append_left (by simpa using hi),ZD] at h2
    cases e:vs[i]? with
    | none=>rw [e] at h2;cases h2
    | some a=>rw [e] at h2;cases h2;rfl
   obtain ⟨u,hu,rv⟩:=r.get ha;have hp:ps[i]? = some y:=by
    rw [<- S.pre,List.getElem?_take_of_lt (by omega)];exact h1
   have ndP:ps.Nodup:=by rw [<- S.pre];exact S.nd.sublist (List.take_sublist _ _)
   refine ⟨u,rv,?_⟩;rcases S.par y (ZF hp) with k | k
   . exact .inl ⟨k,oD ndP hp hu k⟩
   . obtain ⟨c,e⟩:=sj (n:=s.heap.objs.size+1) k;refine .inr ⟨.inl k,c,e,?_⟩;have q:=x.cell y c e;rw [oF ndP hp hu (by show scope.names.lookup y ≠ _;rw [k];decide)] at q
     exact q
 . exact e0.hok.fresh (Nat.le_of_lt (x.above y c (PySem.mem_of_lookup h)))
 . unfold start;show _=N.length;rw [Zf,Zg,List.length_replicate];omega
theorem Ce {CX:CXT} {P:Program} {w:World} {K:Zr} {mg:Str->Option Value} {base:Heap} {k:Nat} {f:Addr} {name qual:Str} {params:Arguments} {body:List Stmt} {scope:Scope} {dV kV doc pm cdv ct oc:Value} {an od:Option Addr}
 {osl:Array (Option Value)} {N ps:List Str} {sp:Sp} (lk:K.lookup f=some ⟨oc,od,.func (PySem.W.fnOf name qual params body scope dV kV doc pm an cdv ct),osl⟩) (hcd:PySem.W.codeIn K cdv qual=true) (S:au N ps scope)
 (len:∀ vs H Q E,sp vs H Q E->vs.length=ps.length)
 (hbody:∀ (A:Around) (outer:List Env) (s:Shared) (H:Hp) (vs:List V) (Q:VK) (E:XK),Room k (A.deeper (envOfC qual scope s.heap.objs.size f cdv))->sp vs H Q E ->
  ∃ t,PSs (mT CX P w K mg base N qual scope f cdv A outer s H E) body t/\t { nx:=fun _ H'=>Q .non H',rt:=Q } (start N vs) H) :
 FnOk P w K mg base CX (k+1) f (PySem.W.fnOf name qual params body scope dV kV doc pm an cdv ct) ps sp:=by
 refine ⟨len,fun A outer s H args us vs Q E hr e0 hb r hsp=>?_⟩
 have hl:=len _ _ _ _ hsp;have KX:K.In s.heap:=e0.mod.kin.keeps fun b o e=>(e0.bs b o e).1
 have lim:s.heap.NoLimit:=e0.mod.nolimit.keeps fun b o e=>(e0.bs b o e).1
 have hkind:∀ y∈ps.zip us,scope.names.lookup y.1=some .local \/ (scope.names.lookup y.1=some .cell/\((cellsFrom (s.heap.objs.size+1) scope.names []).lookup y.1).isSome=true):=fun ⟨n,v⟩ hy=>by
  rcases S.par n (List.of_mem_zip hy).1 with q | q
  . exact .inl q
  . exact .inr ⟨q,PySem.W.cellsFrom_some _ _ _ (.inl q)⟩
 refine codeAny_call_function hr.depth (KX _ _ lk) rfl S.co S.gen rfl (PySem.W.codeRec_of KX hcd) (hb _ _ _ _ ?_);refine wpAny_newFunctionEnv_cells S.kind hkind fun env he s1 x=>?_
 subst he;refine ⟨lim.keeps x.toInCall.keep,codeAny_func ?_⟩;obtain ⟨t,ht,hq⟩:=hbody A outer s H vs Q E (hr.deeper _) hsp;have I:Inv (mT CX P w K mg base N qual scope f cdv A outer s H E) [] (start N vs) H s1:=wP S hr.hd e0 hl r x;refine wpAny_mono (ht [] s1 (start N vs) H _ I hq) (fun fl s' hs=>?_) fun e s' hs=>hs
 have fin:∀ {σ':St} {H':Hp} {v:V} {u:Value},Inv (mT CX P w K mg base N qual scope f cdv A outer s H E) [] σ' H' s'->RelV v u->Q v H'->CE outer P w H s Q u s' :=
  fun {σ' H' v u} J rv q=>⟨v,H',J.os,J.bare,J.base,J.hok,rv,q⟩
 cases fl with
 | ret u =>
  obtain ⟨v,σ',H',J,rv,q⟩:=hs;exact fin J rv q
 | next =>
  obtain ⟨σ',H',J,q⟩:=hs;exact fin (v:=V.non) (u:=Value.none) J rfl q
 | brk =>
  obtain ⟨_,_,_,q⟩:=hs;exact False.elim q
 | cont =>
  obtain ⟨_,_,_,q⟩:=hs;exact False.elim q
end L2
namespace L2
open PySem PySem.Spec PyProof.Rows
section
variable {X:Cx} {x:Str} {p pos:Pos} {e:Expr} {es:List Expr} {t:TA} {id T:String} {r:List V->Hp->VK->Prop}
def tCB (r:List V->Hp->VK->Prop) (t:TA):TE:=fun σ H Q=>t σ H fun vs H1=>r vs H1 Q
theorem jK (hc:cW X (.builtin id) r) (hg:Gl X x) (hm:X.mg x=none) (hv:bootBuiltins x=some (.builtin id)) (ha:PA X (e :: es) t) (hn:x ≠ "__name__":=by decide) (hdb:(x == ("__debug__":Str))=false:=by decide)
 (he:starEach (e :: es) X.env=(false,eval e X.env) :: starEach es X.env:=by rfl) (hpl:(backTo pos (starEach es X.env)).any (·.1)=false:=by rfl):PE X (.Call (.Name x p) (e :: es) [] pos) (tCB r t):=by
 intro pins s σ H Q I h;refine wpAny_Call_Name_kw (gX I hg hm hv ?_ hn hdb);exact PyProof.Rows.callWith_builtin1 (thn (ha pos pins s σ H _ I h) fun us s1 ⟨vs,H1,I1,r1,q1⟩=>hc pins s1 σ H1 vs us Q I1 r1 q1) he hpl
theorem fH (hc:cW X (.type T) r) (hg:Gl X x) (hm:X.mg x=none) (hv:bootBuiltins x=some (.type T)) (ha:PA X (e :: es) t) (hn:x ≠ "__name__":=by decide) (hdb:(x == ("__debug__":Str))=false:=by decide)
 (he:starEach (e :: es) X.env=(false,eval e X.env) :: starEach es X.env:=by rfl) (hpl:(backTo pos (starEach es X.env)).any (·.1)=false:=by rfl):PE X (.Call (.Name x p) (e :: es) [] pos) (tCB r t):=by
 intro pins s σ H Q I h;refine wpAny_Call_Name_kw (gX I hg hm hv ?_ hn hdb);exact PyProof.Rows.callWith_type1 (thn (ha pos pins s σ H _ I h) fun us s1 ⟨vs,H1,I1,r1,q1⟩=>hc pins s1 σ H1 vs us Q I1 r1 q1) he hpl
end
end L2
namespace HT
open PySem PyProof.Rows
section
open PySem.SeqAt
open PySem.AutoSeq1 (wpAny_loadPart')
open PySem.MeetsSeq PySem.MeetsSeq2 PySem.MeetsSeq3
end
section
variable {prog:Program} {w:World} {A:Around} {E:Value->Shared->Prop} {s:Shared}
def sIx (n d:Nat):Option Int->Nat
 | none=>d
 | some v=>if v < 0 then (v+(n:Int)).toNat else min v.toNat n
end
end HT
namespace L2
open PySem PySem.Spec PyProof.Rows
abbrev TO:=St->Hp->(Option Int->Hp->Prop)->Prop
def PO (X:Cx) (e:Option Expr) (t:TO):Prop :=
 ∀ (pins:List (Addr×Obj)) (s:Shared) (σ:St) (H:Hp) (Q:Option Int->Hp->Prop),Inv X pins σ H s->t σ H Q ->
  wpAny (model X.prog X.w) X.A (evalPart e X.env) (fun u s'=>∃ o H',Inv X pins σ H' s'/\IsPart u o/\Q o H') X.xe s
def Eh (t:TE):TO:=fun σ H Q=>t σ H fun x H1=>∃ i,x=.int i/\Q (some i) H1
section
variable {X:Cx} {e:Expr} {te:TE} {lo hi:Option Expr} {tl th:TO} {pos p2:Pos}
theorem AG (h:PE X e te):PO X (some e) (Eh te):=by
 intro pins s σ H Q I hw;rw [evalPart_some];refine thn (h pins s σ H _ I hw) fun u s1 ⟨x,H1,I1,r1,q1⟩=>?_
 obtain ⟨i,rfl,q⟩:=q1;obtain ⟨t,rfl⟩:=r1;exact ⟨some i,H1,I1,.int i t,q⟩
def SlR (X:Cx) (r:V->Option Int->Option Int->Hp->VK->Prop):Prop :=
 ∀ (pins:List (Addr×Obj)) (s:Shared) (σ:St) (H:Hp) (x:V) (v vl vu:Value) (lo hi:Option Int) (sl:Addr) (Q:VK),Inv X pins σ H s->RelV x v->s.heap.IsSliceOf sl vl vu .none->IsPart vl lo->IsPart vu hi->r x lo hi H Q ->
  ∃ T id,typeLookup (.type T) "__getitem__" = pure (some (.builtin id))/\s.TypeIs v T/\wpAny (model X.prog X.w) X.A (getItem v (.ref sl)) (EP X pins σ Q) X.xe s
def tSl (r:V->Option Int->Option Int->Hp->VK->Prop) (te:TE) (tl th:TO):TE:=fun σ H Q=>te σ H fun x H1=>tl σ H1 fun l H2=>th σ H2 fun u H3=>r x l u H3 Q
theorem yj {r:V->Option Int->Option Int->Hp->VK->Prop} (hr:SlR X r) (he:PE X e te) (hl:PO X lo tl) (hu:PO X hi th):PE X (.Subscript e (.Slice lo hi none p2) pos) (tSl r te tl th):=by
 intro pins s σ H Q I h;refine Subscript_ (thn (he pins s σ H _ I h) fun v s1 ⟨x,H1,I1,r1,q1⟩=>?_)
 refine wpAny_Slice (thn (hl pins s1 σ H1 _ I1 q1) fun vl s2 ⟨l,H2,I2,pl,q2⟩=>thn (hu pins s2 σ H2 _ I2 q2) fun vu s3 ⟨u,H3,I3,pu,q3⟩=>?_)
 rw [evalPart_none];refine wpAny_pure ?_;have I4:Inv X pins σ H3 { s3 with heap:=s3.heap.push { cls:=.type "slice",data:=.fields #[vl,vu,.none] } }:=I3.kept (t':=s3.toks) fun b ob q=>Heap.get?_push_of_some _ q
 obtain ⟨T,id,hT,ht,hg⟩:=hr pins { s3 with heap:=s3.heap.push { cls:=.type "slice",data:=.fields #[vl,vu,.none] } } σ H3 x v vl vu l u s3.heap.objs.size Q I4 r1 (Heap.IsSliceOf.new ..) pl pu q3
 show wpAny (model X.prog X.w) X.A (subscriptTail e (.Slice lo hi none p2) v (.ref s3.heap.objs.size)) (EP X pins σ Q) X.xe { s3 with heap:=s3.heap.push { cls:=.type "slice",data:=.fields #[vl,vu,.none] } }
 exact tail_any (ops:=[.ref s3.heap.objs.size,v]) ht hT hg (by with_unfolding_all rfl)
def tY (xs:List V) (lo hi:Option Int):List V:=(xs.drop (HT.sIx xs.length 0 lo)).take (HT.sIx xs.length xs.length hi - HT.sIx xs.length 0 lo)
theorem r9 (xs:List V) (lo hi:Option Int):(tY xs lo hi).length<=xs.length:=by
 unfold tY;rw [List.length_take,List.length_drop];omega
end
end L2
namespace L2
open PySem PySem.Spec PyProof.Rows
def ixN (n:Nat) (i:Int):Option Nat:=if 0<=i then (if i < n then some i.toNat else none) else if -(n:Int)<=i then some (i+n).toNat else none
def atI {α:Type} (xs:List α) (i:Int):Option α:=(ixN xs.length i).bind fun j=>xs[j]?
theorem pN {n:Nat} {i:Int} {j:Nat} (h:ixN n i=some j):seqIndex? i n=some j/\j < n/\-(n:Int)<=i/\i < n:=by
 unfold ixN at h
 by_cases h0:0<=i
 . rw [if_pos h0] at h
   by_cases h1:i < n
   . rw [if_pos h1] at h;have e:i.toNat=j:=Zy h;exact ⟨by rw [seqIndex_of h0 h1,e],by omega,by omega,h1⟩
   . rw [if_neg h1] at h;cases h
 . rw [if_neg h0] at h
   by_cases h1:-(n:Int)<=i
   . rw [if_pos h1] at h;have e:(i+n).toNat=j:=Zy h;exact ⟨by rw [seqIndex_neg (by omega) h1,e],by omega,h1,by omega⟩
   . rw [if_neg h1] at h;cases h
theorem vZ {α:Type} {xs:List α} {i:Int} {v:α} (h:atI xs i=some v):∃ j,seqIndex? i xs.length=some j/\xs[j]? = some v/\j < xs.length/\-(xs.length:Int)<=i/\i < xs.length:=by
 unfold atI at h;cases e:ixN xs.length i with
 | none=>rw [e] at h;cases h
 | some j =>
  rw [e] at h;obtain ⟨h1,h2,h3,h4⟩:=pN e;exact ⟨j,h1,h,h2,h3,h4⟩
theorem atI_nat {α:Type} {xs:List α} {j:Nat} {v:α} (h:xs[j]? = some v):atI xs (j:Int)=some v:=by
 have hj:j < xs.length:=(ZG.mp h).1;have e:ixN xs.length (j:Int)=some j:=by
  unfold ixN;rw [if_pos (by omega),if_pos (by omega)];simp
 unfold atI;rw [e];exact h
def lu (b:Expr):Prop:=∀ o i,subscripted b false o i=operate [o,i] (getItem o i)
def IxR (X:Cx) (r:R2):Prop :=
 ∀ (value slice:Expr) (pins:List (Addr×Obj)) (s:Shared) (σ:St) (H:Hp) (x y:V) (v u:Value) (Q:VK),Inv X pins σ H s->RelV x v->RelV y u->r x y H Q ->
  subscripted slice false v u=operate [v,u] (getItem v u)->wpAny (model X.prog X.w) X.A (subscriptTail value slice v u) (EP X pins σ Q) X.xe s
def MtR (X:Cx) (id:String) (r:V->List V->Hp->VK->Prop):Prop :=
 ∀ (pins:List (Addr×Obj)) (s:Shared) (σ:St) (H:Hp) (x:V) (xs:List V) (v:Value) (us:List Value) (Q:VK),Inv X pins σ H s->RelV x v->Vals xs us->r x xs H Q ->
  wpAny (model X.prog X.w) X.A (call (.builtin id) (v :: us)) (EP X pins σ Q) X.xe s
section
variable {X:Cx} {a b:Expr} {ta tb:TE} {pos:Pos}
theorem IxR.or {r r':R2} (h:IxR X r) (h':IxR X r'):IxR X (fun x y H Q=>r x y H Q \/ r' x y H Q):=by
 intro value slice pins s σ H x y v u Q I rx ry q hs;rcases q with q | q
 . exact h value slice pins s σ H x y v u Q I rx ry q hs
 . exact h' value slice pins s σ H x y v u Q I rx ry q hs
theorem BW {r:R2} (hr:IxR X r) (ha:PE X a ta) (hb:PE X b tb) (hs:lu b):PE X (.Subscript a b pos) (tOp r ta tb):=by
 intro pins s σ H Q I h;exact Subscript_ (DW ha hb I h fun v u s2 x y H2 I2 rx ry q=>hr a b pins s2 σ H2 x y v u Q I2 rx ry q (hs _ _))
def ED (K:Zr):R2:=fun x y H Q=>∃ p xs i v,x=.ref p/\y=.int i/\SqL K H p xs/\atI xs i=some v/\Q v H
def EC (K:Zr):R2:=fun x y H Q=>∃ p xs i v,x=.ref p/\y=.int i/\SqT K H p xs/\atI xs i=some v/\Q v H
theorem ix_list:IxR X (ED X.K):=by
 intro value slice pins s σ H x y v u Q I rx ry h hs;obtain ⟨p,xs,i,z,rfl,rfl,hq,he,q⟩:=h;cases rx;obtain ⟨t,rfl⟩:=ry;obtain ⟨its,r,pl,hz⟩:=I.list hq;obtain ⟨j,h1,h2,h3,h4,h5⟩:=vZ he;obtain ⟨w,ew,rw'⟩:=r.get h2;have hl:=r.length;have hn:=pL;have fin:EP X pins σ Q w s:=⟨z,H,I,rw',q⟩
 by_cases h0:0<=i
 . have hj:i.toNat=j:=by
    rw [seqIndex_of h0 h5] at h1;exact Zy h1
   exact item_listR pl.isList h0 (by omega) (by rw [hj];simpa using ew) fin hs
 . have hj:(i+(its.toArray.size:Int)).toNat=j:=by
    rw [seqIndex_neg (by omega) h4] at h1
    rw [Zx,<- hl];exact Zy h1
   exact subscriptTail_builtinR (x:=w) pl.isList.typeIs slot_list_getitem.lookup
    (wpAny_getItem_list_neg (Q:=fun r s'=>r=w/\EP X pins σ Q r s') pl.isList (by omega) (by rw [Zx] <;> omega) (by omega) (by rw [hj];simpa using ew) ⟨rfl,fin⟩) hs
theorem yZ:IxR X (EC X.K):=by
 intro value slice pins s σ H x y v u Q I rx ry h hs;obtain ⟨p,xs,i,z,rfl,rfl,hq,he,q⟩:=h;cases rx;obtain ⟨t,rfl⟩:=ry;obtain ⟨its,r,pl,hz⟩:=I.tuple hq;obtain ⟨j,h1,h2,h3,h4,h5⟩:=vZ he;obtain ⟨w,ew,rw'⟩:=r.get h2;have hl:=r.length;have hn:=pL;have fin:EP X pins σ Q w s:=⟨z,H,I,rw',q⟩;exact subscriptTail_builtinR (x:=w) pl.typeIs slot_tuple_getitem.lookup
  (getItem_tuple (j:=j) (Q:=fun r s'=>r=w/\EP X pins σ Q r s') pl (by omega) (by omega) (by rw [Zx,<- hl];exact h1) (by simpa using ew) ⟨rfl,fin⟩) hs
theorem tK (its:List Value) (n j:Nat) (u:Value):Obj.mapSeq (·.setIfInBounds j u) { cls:=.type "list",data:=.seq its.toArray n }={ cls:=.type "list",data:=.seq (its.set j u).toArray n }:=by
 simp [Obj.mapSeq]
theorem Inv.lst {pins:List (Addr×Obj)} {σ:St} {H:Hp} {s:Shared} {p:Addr} {xs:List V} (I:Inv X pins σ H s) (h:H p=some (.lst xs)) :
 ∃ (its:List Value) (n:Nat),Vals xs its/\s.heap.get? p=some { cls:=.type "list",data:=.seq its.toArray n }/\xs.length<=sizeLine:=by
 obtain ⟨z,its,n,r,e⟩:=I.hok p _ h;exact ⟨its,n,r,e,z⟩
theorem Inv.lstUpd {pins:List (Addr×Obj)} {σ:St} {H:Hp} {s:Shared} {p:Addr} {xs ys:List V} {its its':List Value} {n n':Nat} {f:Obj->Obj} (I:Inv X pins σ H s) (h:H p=some (.lst xs))
 (ho:s.heap.get? p=some { cls:=.type "list",data:=.seq its.toArray n }) (hf:f { cls:=.type "list",data:=.seq its.toArray n }={ cls:=.type "list",data:=.seq its'.toArray n' }) (r:Vals ys its') (hz:ys.length<=sizeLine) (t:Nat) :
 Inv X pins σ (upd H p (.lst ys)) { s with heap:=s.heap.update p f,toks:=t }:=by
 have e:(s.heap.update p f).get? p=some { cls:=.type "list",data:=.seq its'.toArray n' }:=by
  rw [Heap.get?_update_self f ho (by rw [hf] <;> rfl),hf]
 refine I.write (x:=p) (e:=p) (by rw [h];trivial) (.inl rfl) (fun b u hb q=>(Heap.get?_update_other _ _ (Ne.symm hb)).trans q) ⟨_,e⟩ ?_
 exact ⟨hz,its',n',r,e⟩
def Ez:V->V->V->Hp->(Hp->Prop)->Prop:=fun o i v H Q=>∃ p xs k j,o=.ref p/\i=.int k/\H p=some (.lst xs)/\ixN xs.length k=some j/\Q (upd H p (.lst (xs.set j v)))
theorem xE:Fi X Ez:=by
 intro pins s σ H o i v ov iv u Q I ro ri rv h;obtain ⟨p,xs,k,j,rfl,rfl,hp,hj,q⟩:=h;cases ro;obtain ⟨t,rfl⟩:=ri;obtain ⟨its,n,r,ho,hz⟩:=I.lst hp;obtain ⟨h1,h2,h3,h4⟩:=pN hj;have hl:=r.length;have hn:=pL;have I':Inv X pins σ (upd H p (.lst (xs.set j v))) { s with heap:=s.heap.update p (Obj.mapSeq (·.setIfInBounds j u)) } :=
  I.lstUpd hp ho (tK its n j u) (r.set rv j) (by rw [List.length_set];exact hz) s.toks
 by_cases h0:0<=k
 . have hk:k.toNat=j:=by
    rw [seqIndex_of h0 h4] at h1;exact Zy h1
   exact PySem.W.ki_setAt ho h0 (by omega) (by rw [Zx,<- hl];exact h4) (by rw [hk];exact ⟨_,I',q⟩)
 . have hk:(k+(its.toArray.size:Int)).toNat=j:=by
    rw [seqIndex_neg (by omega) h3] at h1
    rw [Zx,<- hl];exact Zy h1
   exact PySem.W.ki_setBack ho (by omega) (by rw [Zx,<- hl];exact h3) (by omega) (by rw [hk];exact ⟨_,I',q⟩)
theorem oU (lo hi:Option Int) (n:Nat):(sliceBounds lo hi none n).1=((HT.sIx n 0 lo:Nat):Int)/\(sliceBounds lo hi none n).2.1=((HT.sIx n n hi:Nat):Int)/\(sliceBounds lo hi none n).2.2=1:=by
 refine ⟨?_,?_,rfl⟩
 . cases lo with
   | none=>simp [sliceBounds,HT.sIx]
   | some i =>
    simp only [sliceBounds,HT.sIx,Option.getD_none,show (1:Int) > 0 by decide,if_true]
    by_cases h:i < 0
    . simp only [h,if_true] <;> omega
    . simp only [h,if_false] <;> omega
 . cases hi with
   | none=>simp [sliceBounds,HT.sIx]
   | some i =>
    simp only [sliceBounds,HT.sIx,Option.getD_none,show (1:Int) > 0 by decide,if_true]
    by_cases h:i < 0
    . simp only [h,if_true] <;> omega
    . simp only [h,if_false] <;> omega
theorem m9 (its:List Value) (lo hi:Option Int):slicePick its.toArray lo hi none=((its.drop (HT.sIx its.length 0 lo)).take (HT.sIx its.length its.length hi - HT.sIx its.length 0 lo)).toArray:=by
 obtain ⟨h1,h2,h3⟩:=oU lo hi its.toArray.size;unfold slicePick;rw [h1,h2,h3];simp only [sliceRange_one,pick_run,Zx] <;> rfl
def Ey (K:Zr):V->Option Int->Option Int->Hp->VK->Prop:=fun x lo hi H Q=>∃ a xs,x=.ref a/\SqL K H a xs/\∀ p,H p=none->Q (.ref p) (upd H p (.lst (tY xs lo hi)))
theorem Am:SlR X (Ey X.K):=by
 intro pins s σ H x v vl vu lo hi sl Q I rx hs pl pu h;obtain ⟨a,xs,rfl,hx,q⟩:=h;cases rx;obtain ⟨its,r,ht,hz⟩:=I.list hx;have hlen:=r.length;refine ⟨"list",_,slot_list_getitem.lookup,ht.isList.typeIs,?_⟩;refine wpAny_getItem_list_slice ht.isList hs pl pu .none (by simp) ?_ (by rw [Zx] <;> omega)
 rw [m9,<- hlen];refine ⟨.ref s.heap.objs.size,_,I.laid (t':=s.toks) (o:=.lst (tY xs lo hi)) (fun b ob q=>Heap.get?_push_of_some _ q) (ZH _) ?_,rfl,q _ (I.hok.fresh (ZH _))⟩
 exact ⟨Nat.le_trans (r9 xs lo hi) hz,_,0,(r.drop (HT.sIx xs.length 0 lo)).take (HT.sIx xs.length xs.length hi - HT.sIx xs.length 0 lo),Heap.get?_push_size _ rfl⟩
def zB:V->Bool
 | .non=>true
 | .bl _=>true
 | .int _=>true
 | .str _=>true
 | _=>false
def eqV:V->V->Bool
 | .non,.non=>true
 | .bl a,.bl b=>a == b
 | .bl a,.int b=>(if a then 1 else 0) == b
 | .int a,.bl b=>a == (if b then 1 else 0)
 | .int a,.int b=>a == b
 | .str a,.str b=>a == b
 | _,_=>false
theorem zG {A:Around} {s:Shared} {y x:V} {u v:Value} (ry:RelV y u) (rx:RelV x v) (fy:zB y=true) (fx:zB x=true):SeqAt.EqAt A s u v (eqV y x):=by
 cases y with
 | non =>
  cases ry;cases x with
  | non=>cases rx;exact SeqAt.EqAt.same _
  | bl b=>cases rx;exact SeqAt.EqAt.none_bool b
  | int b=>obtain ⟨t,rfl⟩:=rx;exact SeqAt.EqAt.none_int b t
  | str b=>obtain ⟨t,rfl⟩:=rx;exact SeqAt.EqAt.none_str b t
  | _=>exact absurd (show false=true from fx) Zs
 | bl a =>
  cases ry;cases x with
  | non=>cases rx;exact SeqAt.EqAt.bool_none a
  | bl b=>cases rx;exact SeqAt.EqAt.bool_bool a b
  | int b=>obtain ⟨t,rfl⟩:=rx;exact SeqAt.EqAt.bool_int a b t
  | str b=>obtain ⟨t,rfl⟩:=rx;exact SeqAt.EqAt.bool_str a b t
  | _=>exact absurd (show false=true from fx) Zs
 | int a =>
  obtain ⟨t',rfl⟩:=ry;cases x with
  | non=>cases rx;exact SeqAt.EqAt.int_none a t'
  | bl b=>cases rx;exact SeqAt.EqAt.int_bool a t' b
  | int b=>obtain ⟨t,rfl⟩:=rx;exact SeqAt.EqAt.int_int a t' b t
  | str b=>obtain ⟨t,rfl⟩:=rx;exact SeqAt.EqAt.int_str a t' b t
  | _=>exact absurd (show false=true from fx) Zs
 | str a =>
  obtain ⟨t',rfl⟩:=ry;cases x with
  | non=>cases rx;exact SeqAt.EqAt.str_none a t'
  | bl b=>cases rx;exact SeqAt.EqAt.str_bool a t' b
  | int b=>obtain ⟨t,rfl⟩:=rx;exact SeqAt.EqAt.str_int a t' b t
  | str b=>obtain ⟨t,rfl⟩:=rx;exact SeqAt.EqAt.str_str a t' b t
  | _=>exact absurd (show false=true from fx) Zs
 | _=>exact absurd (show false=true from fy) Zs
theorem aI:cW X (.builtin "len") (fun xs H Q=>∃ p ys,xs=[.ref p]/\(SqL X.K H p ys \/ SqT X.K H p ys)/\Q (.int ys.length) H):=by
 intro pins s σ H xs us Q I r h;obtain ⟨p,ys,rfl,hq,q⟩:=h;obtain ⟨u,rfl,rx⟩:=fq r;cases rx;have hn:=pL;rcases hq with hq | hq
 . obtain ⟨its,r',pl,hz⟩:=I.list hq;have hlen:=r'.length;exact Calls.call_len_list pl.isList (by simp only [Zx] <;> omega) ⟨.int ys.length,H,I.tok _,⟨s.toks+1,by rw [Zx,hlen]⟩,q⟩
 . obtain ⟨its,r',pl,hz⟩:=I.tuple hq;have hlen:=r'.length;exact len_tuple pl (by simp only [Zx] <;> omega) ⟨.int ys.length,H,I.tok _,⟨s.toks+1,by rw [Zx,hlen]⟩,q⟩
theorem qm:cW X (.type "list") (fun xs H Q=>∃ p ys,xs=[.ref p]/\(SqL X.K H p ys \/ SqT X.K H p ys)/\∀ l,H l=none->Q (.ref l) (upd H l (.lst ys))):=by
 intro pins s σ H xs us Q I r h;obtain ⟨p,ys,rfl,hq,q⟩:=h;obtain ⟨u,rfl,rx⟩:=fq r;cases rx;have fin:∀ (its:List Value),Vals ys its->ys.length<=sizeLine->∀ (h':Heap) (c':Nat),(∀ b o',s.heap.get? b=some o'->h'.get? b=some o') ->
  h'.get? s.heap.objs.size=some { cls:=.type "list",dict:=none,data:=.seq its.toArray c',slots:=#[] }->EP X pins σ Q (.ref s.heap.objs.size) { s with heap:=h' }:=fun its r' hz h' c' kp e =>
  ⟨.ref s.heap.objs.size,_,I.laid (t':=s.toks) kp (ZH _) (show ObjOk X.prog X.w _ h' _ (.lst ys) from ⟨hz,its,c',r',e⟩),rfl,q _ (I.hok.fresh (ZH _))⟩
 rcases hq with hq | hq
 . obtain ⟨its,r',pl,hz⟩:=I.list hq;have hlen:=r'.length;obtain ⟨o,ho,hc,n,hd⟩:=pl.isList;exact call_list_seq p (.inl rfl) ho hc hd (fun h' c' kp e=>fin its r' hz h' c' kp e) (by simp only [Zx] <;> omega)
 . obtain ⟨its,r',pl,hz⟩:=I.tuple hq;have hlen:=r'.length;obtain ⟨o,ho,hc,n,hd⟩:=pl;exact call_list_seq p (.inr rfl) ho hc hd (fun h' c' kp e=>fin its r' hz h' c' kp e) (by simp only [Zx] <;> omega)
def tyV (K:Zr) (T:String) (x:V) (H:Hp):Prop:=match x with
 | .str _=>T = "str"
 | .int _=>T = "int"
 | .ref p=>(T = "list"/\∃ xs,SqL K H p xs) \/ (T = "tuple"/\∃ o,K.lookup p=some o/\o.cls=.type "tuple"/\o.dict=none) \/
  (T = "dict"/\((∃ kvs,H p=some (.dK kvs)) \/ ∃ kvs,H p=some (.dT kvs))) \/ (T = "set"/\∃ S n,H p=some (.set S n))
 | _=>False
theorem xq {pins:List (Addr×Obj)} {σ:St} {H:Hp} {s:Shared} {T:String} {x:V} {v:Value} (I:Inv X pins σ H s) (r:RelV x v) (ty:tyV X.K T x H) :
 s.TypeIs v T/\∀ a,v=.ref a->∃ ob,s.heap.get? a=some ob/\ob.dict=none:=by
 cases x with
 | str z =>
  obtain ⟨t,rfl⟩:=r;cases (show T = "str" from ty)
  exact ⟨typeIs_str s z t,fun _ e=>nomatch e⟩
 | int i =>
  obtain ⟨t,rfl⟩:=r;cases (show T = "int" from ty)
  exact ⟨typeIs_int s i t,fun _ e=>nomatch e⟩
 | ref p =>
  cases r;rcases ty with ⟨rfl,xs,hq⟩ | ⟨rfl,o,hk,hc,hd⟩ | ⟨rfl,hk⟩ | ⟨rfl,S,n,hk⟩
  . obtain ⟨its,_,pl,_⟩:=I.list hq;refine ⟨pl.isList.typeIs,fun a e=>?_⟩
    cases e;obtain ⟨o,n,e,c,hd,_⟩:=pl;exact ⟨o,e,hd⟩
  . refine ⟨⟨o,I.kIn p o hk,hc⟩,fun a e=>?_⟩
    cases e;exact ⟨o,I.kIn _ o hk,hd⟩
  . have z:∃ o,s.heap.get? p=some o/\o.ExactDict:=by
     rcases hk with ⟨kvs,hk⟩ | ⟨kvs,hk⟩
     . obtain ⟨_,_,_,_,o,_,_,e,ex,_⟩:=I.hok p _ hk;exact ⟨o,e,ex⟩
     . obtain ⟨_,_,_,_,o,_,_,e,ex,_⟩:=I.hok p _ hk;exact ⟨o,e,ex⟩
    obtain ⟨o,e,ex⟩:=z;refine ⟨⟨o,e,ex.1⟩,fun a e2=>?_⟩
    cases e2;exact ⟨o,e,ex.2.1⟩
  . obtain ⟨o,_,_,_,e,ex,_⟩:=I.hok p _ hk;refine ⟨⟨o,e,ex.1⟩,fun a e2=>?_⟩
    cases e2;exact ⟨o,e,ex.2.1⟩
 | _=>exact False.elim ty
def Em (K:Zr) (T:String) (r:V->List V->Hp->VK->Prop) (to:TE):TE:=fun σ H Q=>to σ H fun x H1=>tyV K T x H1/\r x [] H1 Q
def tBM (K:Zr) (T:String) (r:V->List V->Hp->VK->Prop) (to:TE) (t:TA):TE:=fun σ H Q=>to σ H fun x H1=>tyV K T x H1/\t σ H1 fun xs H2=>r x xs H2 Q
variable {o e:Expr} {es:List Expr} {to:TE} {t:TA} {name:Str} {apos cpos:Pos} {T id:String} {r:V->List V->Hp->VK->Prop}
theorem C6 (pa:PlainAttrs T) (slot:Slot T name id) (hty:typeOf (.builtin id)=pure (.type "method_descriptor")) (hm:MtR X id r) (ho:PE X o to)
 (hbase:attributeBase o name X.env (eval o X.env)=eval o X.env:=by rfl) (hline:(apos.endLine == cpos.line)=true:=by rfl):PE X (.Call (.Attribute o name apos) [] [] cpos) (Em X.K T r to):=by
 intro pins s σ H Q I h;refine wpAny_Call_method0_late hbase hline (thn (ho pins s σ H _ I h) fun v s1 ⟨x,H1,I1,r1,ty,q1⟩=>?_)
 obtain ⟨h1,h2⟩:=xq I1 r1 ty;exact ⟨T,id,pa,slot,hty,h1,h2,Calls.callWith_builtin rfl (PySem.evalArgs_none (hm pins s1 σ H1 x [] v [] Q I1 r1 .nil q1))⟩
theorem uU (pa:PlainAttrs T) (slot:Slot T name id) (hty:typeOf (.builtin id)=pure (.type "method_descriptor")) (hm:MtR X id r) (ho:PE X o to) (ha:PA X (e :: es) t)
 (hbase:attributeBase o name X.env (eval o X.env)=eval o X.env:=by rfl)
 (hfew:((backTo cpos (starEach (e :: es) X.env)).all (fun x=>!x.1) && (backToKw cpos (keywordEach [] X.env)).all (fun x=>x.1.isSome)
  && decide ((e :: es).length+([]:List Keyword).length+(if ([]:List Keyword).isEmpty then 0 else 1) < 30))=true:=by rfl)
 (hline:(apos.endLine == cpos.line)=true:=by rfl) (hs:starEach (e :: es) X.env=(false,eval e X.env) :: starEach es X.env:=by rfl) (hplain:(backTo cpos (starEach es X.env)).any (·.1)=false:=by rfl) :
 PE X (.Call (.Attribute o name apos) (e :: es) [] cpos) (tBM X.K T r to t):=by
 intro pins s σ H Q I h;refine wpAny_Call_method_late hbase hfew hline rfl (thn (ho pins s σ H _ I h) fun v s1 ⟨x,H1,I1,r1,ty,q1⟩=>?_)
 obtain ⟨h1,h2⟩:=xq I1 r1 ty;refine ⟨T,id,pa,slot,hty,h1,h2,?_⟩;have hA:=ha cpos pins s1 σ H1 _ I1 q1;rw [hs] at hA ⊢;refine Calls.callWith_builtin (by show (false || (backTo cpos (starEach es X.env)).any (·.1))=false;rw [hplain] <;> rfl) (Calls.evalArgs_plain ?_)
 exact thn hA fun us s2 ⟨vs,H2,I2,r2,q2⟩=>hm pins s2 σ H2 x vs v us Q I2 r1 r2 q2
end
end L2
namespace L2
open PySem PySem.Spec PyProof.Rows
def MtM (X:Cx) (id:String) (r:V->List V->Hp->VK->Prop):Prop :=
 ∀ (pins:List (Addr×Obj)) (s:Shared) (σ:St) (H:Hp) (x:V) (xs:List V) (v:Value) (us:List Value) (Q:VK),Inv X pins σ H s->RelV x v->Vals xs us->r x xs H Q ->
  wpAny (model X.prog X.w) X.A (call (.builtin id) (v :: us)) (EP X pins σ Q) X.xe s
theorem Vals.one:∀ {x:V} {us:List Value},Vals [x] us->∃ u,us=[u]/\RelV x u
 | _,_,.cons r .nil=>⟨_,rfl,r⟩
theorem Vals.zero:∀ {us:List Value},Vals [] us->us=[]
 | _,.nil=>rfl
section
variable {X:Cx} {pins:List (Addr×Obj)} {σ:St} {H:Hp} {s:Shared} {l b:Addr} {xs ys zs:List V}
theorem Inv.lset {its its':List Value} {n:Nat} {f:Array Value->Array Value} {t':Nat} (I:Inv X pins σ H s) (hH:H l=some (.lst xs))
 (e:s.heap.get? l=some { cls:=.type "list",data:=.seq its.toArray n }) (hf:f its.toArray=its'.toArray) (hv:Vals ys its') (hz:ys.length<=sizeLine) :
 Inv X pins σ (upd H l (.lst ys)) { s with heap:=s.heap.update l (Obj.mapSeq f),toks:=t' }:=by
 have q:=PySem.IsL.update e f;rw [hf] at q;refine I.write (x:=l) (e:=l) (by rw [hH];exact trivial) (.inl rfl) (fun b' u hb hu=>(Heap.get?_update_other s.heap (Obj.mapSeq f) (Ne.symm hb)).trans hu) ⟨_,q⟩ ?_
 exact ⟨hz,its',_,hv,q⟩
theorem Inv.lnew {its:List Value} {t':Nat} (I:Inv X pins σ H s) (hv:Vals ys its) (hz:ys.length<=sizeLine) :
 Inv X pins σ (upd H s.heap.objs.size (.lst ys)) { s with heap:=s.heap.push { cls:=.type "list",data:=.seq its.toArray },toks:=t' } :=
 I.laid (fun _ _ q=>Heap.get?_push_of_some _ q) (ZH _) ⟨hz,its,0,hv,Heap.get?_push_size _ rfl⟩
theorem Inv.fresh (I:Inv X pins σ H s):H s.heap.objs.size=none:=I.hok.fresh (ZH _)
theorem Inv.lstM (I:Inv X pins σ H s) (hH:H l=some (.lst xs)):xs.length<=sizeLine/\∃ (its:List Value) (n:Nat),Vals xs its/\xs.length=its.length/\s.heap.get? l=some { cls:=.type "list",data:=.seq its.toArray n }:=by
 obtain ⟨z,its,n,r,e⟩:=I.hok l _ hH;exact ⟨z,its,n,r,r.length,e⟩
end
section
variable {X:Cx}
def oZ:V->List V->Hp->VK->Prop:=fun x vs H Q=>∃ l xs y,x=.ref l/\vs=[y]/\H l=some (.lst xs)/\xs.length < sizeLine/\Q .non (upd H l (.lst (xs++[y])))
theorem j4:MtM X "list.append" oZ:=by
 intro pins s σ H x vs v us Q I rx rv h;obtain ⟨l,xs,y,rfl,rfl,hH,hz,q⟩:=h;cases rx;obtain ⟨u,rfl,ru⟩:=rv.one;obtain ⟨z,its,n,r,hl,e⟩:=I.lstM hH;refine call_meets F.slot_list_append ⟨_,e,rfl⟩ F.entry_list_append (F.args_list_append_2 _ _) (PySem.list_append l its.toArray n u (by rw [Zx];omega)) ⟨e,?_⟩
 refine ⟨.non,_,I.lset (its':=its++[u]) hH e (by simp) (r.append (.cons ru .nil)) ?_,rfl,q⟩
 rw [Zf,List.length_singleton];omega
def xQ:V->List V->Hp->VK->Prop:=fun x vs H Q=>∃ l xs,x=.ref l/\vs=[]/\H l=some (.lst xs)/\Q .non (upd H l (.lst []))
theorem yM:MtM X "list.clear" xQ:=by
 intro pins s σ H x vs v us Q I rx rv h;obtain ⟨l,xs,rfl,rfl,hH,q⟩:=h;cases rx;have hus:=rv.zero;subst hus;obtain ⟨z,its,n,r,hl,e⟩:=I.lstM hH;refine call_meets F.slot_list_clear ⟨_,e,rfl⟩ F.entry_list_clear (F.args_list_clear_1 _) (AutoSeq1.list_clear_list_0 l its.toArray n (by rw [Zx];omega)) ⟨e,?_⟩
 exact ⟨.non,_,I.lset (its':=[]) (ys:=[]) hH e rfl .nil (Nat.zero_le _),rfl,q⟩
def EH:R2:=fun x y H Q=>∃ l b xs zs,x=.ref l/\y=.ref b/\H l=some (.lst xs)/\H b=some (.lst zs)/\xs.length+zs.length<=sizeLine/\∀ p,H p=none->Q (.ref p) (upd H p (.lst (xs++zs)))
theorem pD:OpR X (binaryOp .Add) EH:=by
 intro pins s σ H x y v u Q I rx ry h;obtain ⟨l,b,xs,zs,rfl,rfl,hH,hB,hz,q⟩:=h;cases rx;cases ry;obtain ⟨z,its,n,r,hl,e⟩:=I.lstM hH;obtain ⟨z2,its2,n2,r2,hl2,e2⟩:=I.lstM hB;refine PySem.P.add_list e e2 ?_ (by rw [Zx,Zx];omega)
 have ea:its.toArray++its2.toArray=(its++its2).toArray:=by simp
 rw [ea];exact ⟨.ref _,_,I.lnew (t':=s.toks) (r.append r2) (by rw [Zf];omega),rfl,q _ I.fresh⟩
end
section
variable {prog:Program} {w:World} {A:Around} {E:Value->Shared->Prop} {s:Shared}
end
section
variable {X:Cx}
end
end L2
namespace Att
open PySem PySem.W PySem.Calls PyProof.Rows
theorem kH {P:Params} {h:Heap}:∀ (ns:List Int) (vs:List Value),WellAll P h vs (ns.map WData.int)->IntsAre vs ns:=by
 intro ns
 induction ns with
 | nil =>
  intro vs w;rw [List.map_nil] at w;cases w;exact .nil
 | cons n ns ih =>
  intro vs w;rw [List.map_cons] at w;cases w with
  | cons a b =>
   cases a;exact .cons _ _ (ih _ b)
theorem wn {l:OpenLaw} {n:Nat} (hn:l.most=some n) {P:Params} {h:Heap} {args:List WData} {vals:List Value}
 (hpre:l.row.toRowW.claim.pre args=true) (hwl:WellAll P h vals args) :
 ∃ a vs ns,vals=[Value.ref a]/\args=[WData.list (ns.map WData.int)]/\h.get? a=some { cls:=.type "list",data:=.seq vs.toArray }/\IntsAre vs ns/\ns.length<=n:=by
 have hsh:WShape.hasAll [] args [.list .int]=true:=(pre_splitW hpre).1;have hc:l.pre.holds [] { args:=args }=true:=(pre_splitW hpre).2;obtain ⟨d,r,rfl,h1,h2⟩:=hasAllW_cons hsh;obtain rfl:=hasAllW_nil h2;obtain ⟨xs,rfl,h3⟩:=hasW_list h1;obtain ⟨ns,rfl⟩:=items_int h3;have hlen:ns.length<=n:=by
  unfold OpenLaw.pre at hc;have h4:(WTm.not (.lt (.lit (.int (n:Int))) (.len (.arg 0)))).holds [] { args:=[.list (ns.map .int)] }=true:=by
   have h4:=(holds_andW hc).1;rw [hn] at h4;exact h4
  have h5:=condW_of h4 (w_not (w_lt w_lit (w_len_list (w_arg rfl))));rw [Zg] at h5;refine Nat.le_of_not_lt fun q=>?_
  have q':(n:Int) < ((ns.length:Nat):Int):=by omega
  first
   | (rw [Zw q'] at h5;exact absurd h5 (by decide))
   | (simp at h5;omega)
 cases hwl with
 | cons w1 w2 =>
  cases w2;cases w1 with
  | list ho hall=>exact ⟨_,_,ns,rfl,rfl,ho,kH ns _ hall,hlen⟩
theorem ww (l:OpenLaw) (args:List WData):l.row.toRowW.claim.post args (.bool true) args=true :=
 postW_of (r:=l.row.toRowW) (X:=(true == true))
  (show WShape.has [] (.bool true) .bool=true by first | rfl | decide | simp [WShape.has,WShape.arms,WShape.armsAll])
  (show (WTm.eq .res (.lit (.bool true))).value [] { args:=args,res:=some (.bool true),after:=args }=some (.bool (true == true)) from w_eq_bool (w_res rfl) w_lit) rfl
theorem attach_call {l:OpenLaw} {n:Nat} {q:Program} {loose:List Str} {XP:(Str->Option Value)->Heap->Prop} {YP:World->Heap->Prop} {d:DefRec}
 (hn:l.most=some n) (hdf:d.params.defaults=[])
 (call:∀ (w:World) (s₀ s₁:Shared) (mg mb:Str->Option Value) (fa:Addr) (o:Obj) (pm cd doc:Value) (a:Addr) (vs:List Value) (ns:List Int),
  Ground q loose [] XP w s₀ mg mb s₁.heap->YP w s₁.heap ->
  s₁.heap.get? fa=some o->o.data=.func (docDef d.name d.params d.body d.scope pm cd doc)->s₁.heap.CodeRec cd d.name->mg d.name=some (.ref fa) ->
  s₁.heap.get? a=some { cls:=.type "list",data:=.seq vs.toArray }->IntsAre vs ns->ns.length<=n->s₁.gens = #[] ->
  codeAny (model l.prog w) callerA (.call (.ref fa) ⟨[.ref a],[]⟩) (fun r s'=>r=.ok (.ret (.bool true))/\OldK s₁.heap s'.heap/\s'.os=s₁.os/\AllBare s'.gens) s₁) :
 WalkO q loose XP YP l.row.toRowW d [] (fun f vs=>PySem.call f vs):=by
 intro w s₀ s₁ mg mb G Y fa o pm cd doc dV kV ho hd hcd hD hmg hg args vals as hpre hlay hrd hwl hlo;obtain rfl:dV=.none:=Dflts.none hD hdf;obtain rfl:kV=.none:=Dflts.noKw hD;obtain ⟨a,vs,ns,rfl,rfl,hobj,hints,hlen⟩:=wn hn hpre hwl;refine enter_call (codeAny_mono (call w s₀ s₁ mg mb fa o pm cd doc a vs ns G Y ho (fd_plain hd) hcd hmg hobj hints hlen hg) fun r s' hq=>?_)
 obtain ⟨rfl,h2,h3,h4⟩:=hq;exact ⟨.inl ⟨.bool true,.bool true,[],rfl,fun _=>rfl,.bool true,ww l _,fun _=>⟨List.Pairwise.nil,fun _ hm=>(nomatch hm)⟩⟩,h2,h3,h4⟩
section
variable {prog:Program} {w:World} {A:Around} {E:Value->Shared->Prop} {s:Shared} {K:Frag}
def FP (h:Heap) (L d:Addr):List (Addr×Obj):=(List.range h.objs.size).filterMap fun a=>if a=L \/ a=d then none else (h.get? a).map fun o=>(a,o)
end
end Att
namespace L2
open PySem PySem.Spec PyProof.Rows
theorem ig:∀ {vs:List Value} {ns:List Int},IntsAre vs ns->Vals (ns.map V.int) vs
 | _,_,.nil=>.nil
 | _,_,.cons n t h=>.cons ⟨t,rfl⟩ (ig h)
def D8 (H:Hp):Prop:=∀ b,H b=none \/ ∃ o xs,H b=some (.frz o (.lst xs))
theorem yY {P:Program} {w:World} {K:Zr} {mg mb:Str->Option Value} {CX:CXT} {k:Nat} {fa a:Addr} {fd:FuncData} {x:Str} {sp:Sp} {s₁:Shared} {vs:List Value} {ns:List Int}
 (KX:K.In s₁.heap) (hns:s₁.heap.Ns mainGlobals mg) (hb:s₁.heap.Ns builtinsNs mb) (hbb:∀ x:Str,x ≠ "__name__"->mb x=bootBuiltins x) (hlim:s₁.heap.NoLimit) (hg:s₁.gens = #[])
 (ha:s₁.heap.get? a=some { cls:=.type "list",data:=.seq vs.toArray }) (hi:IntsAre vs ns) (hl:ns.length<=sizeLine) (hr:Room k callerA)
 (F:∀ base:Heap,K.In base->base.Ns mainGlobals mg->FnOk P w K mg base CX k fa fd [x] sp) (hbind:∀ (s:Shared) (u:Value),BindsTo s fd ⟨[u],[]⟩ [(x,u)])
 (hsp:∀ H:Hp,D8 H->SqL K H a (ns.map V.int)->sp [.ref a] H (fun v _=>v=.bl true) fun _ _ _=>False)
 (hCX:∀ H e s',CX [] H s₁ (fun _ _ _=>False) e s'->False) :
 codeAny (model P w) callerA (.call (.ref fa) ⟨[.ref a],[]⟩) (fun r s'=>r=.ok (.ret (.bool true))/\OldK s₁.heap s'.heap/\s'.os=s₁.os/\AllBare s'.gens) s₁:=by
 have rv:=ig hi;have lenV:=hi.length;have core:∀ H:Hp,D8 H->SqL K H a (ns.map V.int)->HOk P w H s₁.heap->(∀ b,H b ≠ none->b=a)->(H a ≠ none->K.lookup a=none) ->
  codeAny (model P w) callerA (.call (.ref fa) ⟨[.ref a],[]⟩) (fun r s'=>r=.ok (.ret (.bool true))/\OldK s₁.heap s'.heap/\s'.os=s₁.os/\AllBare s'.gens) s₁:=by
  intro H hO hS hok hA hK;have base_of:∀ {b:Addr} {o:Obj},s₁.heap.get? b=some o->H b=none->(pQ s₁.heap H).get? b=some o:=fun e n=>zp e n
  have noA:∀ {b:Addr} {o:Obj} {es:Array DictEntry} {ep:Nat},s₁.heap.get? b=some o->o.data=.dict es ep->H b=none:=fun {b o es ep} e d=>by
   cases q:H b with
   | none=>rfl
   | some u =>
    have e':b=a:=hA b (by rw [q];simp)
    subst e';rw [ha] at e;cases e;have d':Data.seq vs.toArray _=Data.dict es ep:=d;cases d'
  have nsK:∀ {b:Addr} {m:Str->Option Value},s₁.heap.Ns b m->(pQ s₁.heap H).Ns b m:=fun {b m} ⟨o,es,ep,e,d,r⟩=>⟨o,es,ep,base_of e (noA e d),d,r⟩
  have hKb:K.In (pQ s₁.heap H):=fun b o e=>base_of (KX b o e) (by
   cases q:H b with
   | none=>rfl
   | some u =>
    have e':b=a:=hA b (by rw [q];simp)
    subst e';rw [hK (by rw [q];simp)] at e;cases e)
  have hM:Mod K mg (pQ s₁.heap H):=⟨hKb,nsK hns,⟨mb,nsK hb,hbb⟩,let ⟨mc,h1,h2⟩:=hlim;⟨mc,nsK h1,h2⟩⟩;have e0:BG P w K mg (pQ s₁.heap H) callerA [] s₁ H:=⟨rfl,hM,fun b o e=>AV e,Nat.le_of_eq (wR _ _),trivial,fun b hb=>absurd (show b∈([]:List Addr) from hb) (by simp),hok,.of_eq hg⟩
  refine codeAny_mono ((F _ hKb (nsK hns)).run callerA [] s₁ H ⟨[.ref a],[]⟩ [.ref a] [.ref a] _ _ hr e0 (hbind s₁ (.ref a)) (.cons rfl .nil) (hsp H hO hS)) fun r s' h=>?_
  cases r with
  | error e=>exact (hCX H e s' h).elim
  | ok fl =>
   cases fl with
   | next=>exact False.elim h
   | brk=>exact False.elim h
   | cont=>exact False.elim h
   | ret u =>
    obtain ⟨v,H',os,bare,un,hok',r',q⟩:=h;have q':v=.bl true:=q;subst q';obtain rfl:u=Value.bool true:=r';refine ⟨rfl,OldK.of_keep fun b o e=>?_,os,bare⟩
    cases q:H b with
    | none=>exact un.keep b o e q (by intro z;exact absurd (show b∈([]:List Addr) from z) (by simp)) (by simp)
    | some u =>
     rcases hO b with z | ⟨ob,xs,z⟩
     . rw [q] at z;cases z
     . have z2:=un.frzs b ob _ z;obtain ⟨e1,_⟩:=hok b _ z;obtain ⟨e2,_⟩:=hok' b _ z2;rw [e] at e1;cases e1;exact e2
 cases hk:K.lookup a with
 | some o =>
  have e:=KX a o hk;rw [ha] at e;cases e;refine core (fun _=>none) (fun _=>.inl rfl) (.inr ⟨_,vs.toArray,_,hk,rfl,rfl,rfl,by rw [Zx,lenV];exact hl,by simpa using rv⟩) (fun b u z=>by have z':(none:Option HO)=some u:=z;cases z') (fun b z=>absurd rfl z) fun z=>absurd rfl z
 | none =>
  refine core (fun b=>if b=a then some (.frz { cls:=.type "list",data:=.seq vs.toArray } (.lst (ns.map V.int))) else none) (fun b=>?_) (.inl (.inr ⟨{ cls:=.type "list",data:=.seq vs.toArray },if_pos rfl⟩)) (fun b u z=>?_) (fun b z=>?_) fun _=>hk
  . by_cases hb:b=a
    . exact .inr ⟨_,_,if_pos hb⟩
    . exact .inl (if_neg hb)
  . by_cases hb:b=a
    . have z':=(if_pos hb).symm.trans z;cases z';subst hb;exact ⟨ha,by rw [Zg];exact hl,vs,_,rv,ha⟩
    . have z':=(if_neg hb).symm.trans z;cases z'
  . by_cases hb:b=a
    . exact hb
    . exact absurd (if_neg hb) z
end L2
namespace L2
open PySem PySem.Spec PyProof.Rows
end L2
namespace L2
open PySem PySem.Spec PyProof.Rows
abbrev CX0:CXT:=fun _ _ _ _ _ _=>False
abbrev E0:XK:=fun _ _ _=>False
theorem uW {X:Cx}:ui CX0 X E0:=fun _ _ _ _ _ _ _ h=>h.elim
structure Fun (K:Zr) (x qual:Str) (st:Stmt) (f:Addr) (fd:FuncData):Prop where
 ex:∃ (oc:Value) (od:Option Addr) (kV doc pm:Value) (an:Option Addr) (cdv ct:Value) (osl:Array (Option Value)),
  fd=PySem.W.fnOf x qual (bK st) (aV st) (aj st) .none kV doc pm an cdv ct/\K.lookup f=some ⟨oc,od,.func fd,osl⟩/\PySem.W.codeIn K cdv qual=true
 kp:PySem.W.keepIn K (.ref f)=true
section
variable {P:Program} {w:World} {K:Zr} {mg:Str->Option Value} {base:Heap}
theorem Fun.ok {x qual:Str} {st:Stmt} {f:Addr} {fd:FuncData} {N ps:List Str} {k:Nat} {sp:Sp} (F:Fun K x qual st f fd) (S:au N ps (aj st)) (len:∀ vs H Q E,sp vs H Q E->vs.length=ps.length)
 (hbody:∀ (cdv:Value) (A:Around) (outer:List Env) (s:Shared) (H:Hp) (vs:List V) (Q:VK) (E:XK),Room k (A.deeper (envOfC qual (aj st) s.heap.objs.size f cdv))->sp vs H Q E ->
  ∃ t,PSs (mT CX0 P w K mg base N qual (aj st) f cdv A outer s H E).nox (aV st) t/\t { nx:=fun _ H'=>Q .non H',rt:=Q } (start N vs) H):FnOk P w K mg base CX0 (k+1) f fd ps sp:=by
 obtain ⟨oc,od,kV,doc,pm,an,cdv,ct,osl,rfl,lk,hcd⟩:=F.ex;refine Ce lk hcd S len fun A outer s H vs Q E hr hsp=>?_
 obtain ⟨t,h,q⟩:=hbody cdv A outer s H vs Q E hr hsp;exact ⟨t,h.nox,q⟩
theorem Fun.binds {x qual:Str} {st:Stmt} {f:Addr} {fd:FuncData} {ps:List Str} (F:Fun K x qual st f fd)
 (h:∀ (kV doc pm:Value) (an:Option Addr) (cdv ct:Value) (us:List Value),us.length=ps.length->bindArgs (PySem.W.fnOf x qual (bK st) (aV st) (aj st) .none kV doc pm an cdv ct) ⟨us,[]⟩=pure (ps.zip us)):Binds K fd ps []:=by
 obtain ⟨oc,od,kV,doc,pm,an,cdv,ct,osl,rfl,lk,hcd⟩:=F.ex;exact .all (h kV doc pm an cdv ct)
theorem zt {x qual:Str} {st:Stmt} {f:Addr} {oc:Value} {od an:Option Addr} {osl:Array (Option Value)} {kV doc pm cdv ct:Value} (l:K.lookup f=some ⟨oc,od,.func (PySem.W.fnOf x qual (bK st) (aV st) (aj st) .none kV doc pm an cdv ct),osl⟩)
 (c:PySem.W.codeIn K cdv qual=true) (k:PySem.W.keepIn K (.ref f)=true):Fun K x qual st f (PySem.W.fnOf x qual (bK st) (aV st) (aj st) .none kV doc pm an cdv ct):=⟨⟨oc,od,kV,doc,pm,an,cdv,ct,osl,rfl,l,c⟩,k⟩
end
theorem jT {n:Nat} (h:n<=1000):n < sizeLine:=Nat.lt_of_le_of_lt h (by decide)
section
variable {X:Cx}
end
def Same (H H':Hp):Prop:=∀ b o,H b=some o->H' b=some o
theorem Same.refl (H:Hp):Same H H:=fun _ _ h=>h
theorem Same.trans {H H1 H2:Hp} (a:Same H H1) (b:Same H1 H2):Same H H2:=fun c o h=>b c o (a c o h)
theorem Same.seq {K:Zr} {H H':Hp} {a:Addr} {xs:List V} (e:Same H H') (h:SqL K H a xs):SqL K H' a xs:=by
 rcases h with (h | ⟨o,h⟩) | h
 . exact .inl (.inl (e _ _ h))
 . exact .inl (.inr ⟨o,e _ _ h⟩)
 . exact .inr h
end L2
namespace L2
open PySem PySem.Spec PyProof.Rows
end L2
namespace L2
open PySem PySem.Spec PyProof.Rows
section
variable (P:Program) (w:World)
end
section
variable {P:Program} {w:World} {H H':Hp} {h h':Heap} {a:Addr} {o:HO}
end
section
variable {P:Program} {w:World} {H:Hp} {h h':Heap} {x e:Addr} {o':HO}
end
section
variable {fs fs' ex ex':List Addr} {H H1 H2:Hp} {h h1 h2 h':Heap} {a x e:Addr} {o:HO}
end
end L2
namespace L2
open PySem PySem.Spec PyProof.Rows
section
variable {X:Cx} {pins:List (Addr×Obj)} {σ:List (Option V)} {H H':Hp} {s:Shared} {h':Heap}
end
end L2
namespace L2
open PySem PySem.Spec PyProof.Rows
section
variable {X:Cx}
variable {a b:Expr} {ta tb:TE} {pos:Pos}
variable {tA tB':TT} {rest:List Expr}
end
end L2
namespace L2
open PySem PySem.Spec PyProof.Rows
section
variable {X:Cx} {pins:List (Addr×Obj)} {σ:St} {H:Hp} {s:Shared} {a:Addr} {xs ys:List V}
end
section
variable {X:Cx} {pins:List (Addr×Obj)} {σ:St} {H:Hp} {s:Shared} {E:Value->Shared->Prop}
end
section
variable {X:Cx} {st:Stmt} {rest:List Stmt} {t u:TS} {e:Expr} {te:TE} {pos:Pos}
end
section
variable {X:Cx} {pos:Pos}
end
section
variable {X:Cx} {pos:Pos}
end
end L2
namespace L2
open PySem PySem.Spec PyProof.Rows
section
variable {X:Cx} {tg:Expr}
end
end L2
namespace L2
open PySem PySem.Spec PyProof.Rows
section
variable {X:Cx} {a b c:Expr} {ta tb tc:TE} {pos:Pos}
end
section
variable {X:Cx} {a b c:Expr} {ta tb tc:TE} {pos:Pos}
end
end L2
namespace L2
open PySem PySem.Spec PyProof.Rows
section
variable {prog:Program} {w:World} {A:Around} {E:Value->Shared->Prop} {s:Shared} {K:Zr} {x dx C f:Addr} {mA:Str->Option Value} {name:Str} {v:Value}
end
section
variable {P:Program} {w:World} {H H':Hp} {h h':Heap} {a C dx:Addr} {fs fs':List (Str×V)}
end
section
variable {X:Cx} {pins:List (Addr×Obj)} {σ:St} {H:Hp} {s:Shared} {a C dx:Addr} {fs:List (Str×V)} {f:Str} {v:V} {A:Around} {E:Value->Shared->Prop}
end
section
variable {X:Cx} {o e value:Expr} {f:Str} {pos pos' tpos:Pos} {ta tv:TE}
end
section
variable {X:Cx} {pins:List (Addr×Obj)} {σ:St} {H:Hp} {s:Shared} {A:Around} {E:Value->Shared->Prop} {Q:Value->Shared->Prop} {c:Value} {b:Bool}
end
end L2
namespace L2
open PySem PySem.Spec PyProof.Rows
section
variable {X:Cx} {e:Expr} {es:List Expr} {te:TE} {t:TA} {pos:Pos}
end
section
variable {X:Cx} {pins:List (Addr×Obj)} {σ:St} {H:Hp} {s s':Shared}
end
section
variable {X:Cx} {CX:CXT} {k:Nat} {f C:Addr} {fd:FuncData} {ps:List Str} {sp:Sp} {dvs:List V} {ds:List Value} {E:XK} {x m:Str} {p pos apos:Pos} {e o:Expr} {es:List Expr} {ta:TE} {t:TA}
end
section
variable {X:Cx} {CX:CXT} {k:Nat} {f C:Addr} {fd:FuncData} {ps ks:List Str} {sp:Sp} {E:XK} {x m:Str} {p pos apos kpos:Pos} {e o:Expr} {es:List Expr} {kws:List Keyword} {te ta:TE} {t tk:TA} {nm:Option Str}
variable {g:List Value->List Value->List Value} {gV:List V->List V->List V}
end
end L2
namespace L2
open PySem PySem.Spec PyProof.Rows
section
variable {X:Cx} {x:Str} {p pos:Pos} {e:Expr} {es:List Expr} {t:TA} {id T:String} {r:List V->Hp->VK->Prop}
end
end L2
namespace L2
open PySem PySem.Spec PyProof.Rows
section
variable {κ:Type} [DecidableEq κ]
def jE (kvs:List (κ×V)) (k:κ) (v:V):List (κ×V) :=
 if (kvs.any fun kv=>decide (kv.1=k))=true then kvs.map (fun kv=>if kv.1=k then (kv.1,v) else kv) else kvs++[(k,v)]
def mS (kvs:List (κ×V)) (k:κ):List (κ×V):=kvs.filter fun kv=>decide (kv.1 ≠ k)
end
theorem EZ {P:Program} {w:World} {k:Key} {u:Value} (r:RelV (kV k) u):(gh P w).is k u=true:=by
 cases k with
 | inl i=>obtain ⟨t,e⟩:=(show ∃ t,u=Value.int i t from r);subst e;exact rc P w i t
 | inr x=>obtain ⟨t,e⟩:=(show ∃ t,u=Value.str x t from r);subst e;exact qZ P w x t
theorem oj {P:Program} {w:World}:∀ {ks:List Key} {us:List Value},Vals (ks.map kV) us->ItemsAre (gh P w) ks us
 | [],_,r=>by rw [List.map_nil] at r;cases r;exact .nil
 | k :: ks,_,r=>by
  rw [List.map_cons] at r;cases r with
  | cons h t=>exact .cons (EZ h) (oj t)
section
variable {P:Program} {w:World} {H:Hp} {h:Heap} {a:Addr}
theorem tM {ks:List Key} (ok:HOk P w H h) (e:H a=some (.tup (ks.map kV))):(tupleKind (gh P w)).is h ks a:=by
 obtain ⟨_,its,r,o,h1,h2,n,h3⟩:=(show ObjOk P w H h a (.tup (ks.map kV)) from ok a _ e)
 exact ⟨o,its.toArray,n,h1,h2,h3,by simpa using oj r⟩
end
section
variable {X:Cx} {pins:List (Addr×Obj)} {σ:St} {H:Hp} {s:Shared} {a:Addr} {y v:V} {u r:Value} {o:Option V} {A:Around} {E:Value->Shared->Prop}
end
section
variable {X:Cx} {pins:List (Addr×Obj)} {σ:St} {H:Hp} {s:Shared} {a:Addr} {kvs:List (Key×V)} {k:Key} {u:Value} {A:Around} {E:Value->Shared->Prop}
end
section
variable {X:Cx} {o i e value:Expr} {pos pos' tpos:Pos} {td ty tv:TE}
end
section
variable {X:Cx} {pos:Pos}
end
section
variable {X:Cx} {pins:List (Addr×Obj)} {σ:St} {H:Hp} {s:Shared} {a:Addr} {y d:V} {u r:Value} {o:Option V} {A:Around} {E:Value->Shared->Prop}
end
section
variable {X:Cx} {o e f:Expr} {apos cpos:Pos} {td ty tx:TE}
end
section
variable {X:Cx} {pins:List (Addr×Obj)} {σ:St} {H:Hp} {s:Shared} {a:Addr} {kvs:List (Key×V)} {A:Around} {E:Value->Shared->Prop}
end
section
variable {X:Cx} {pins:List (Addr×Obj)} {σ:St} {H:Hp} {s:Shared} {a:Addr} {y:V} {u:Value} {A:Around} {E:Value->Shared->Prop}
end
end L2
namespace Mth
def gc (t b:Int):Int:=(Int.gcd t b:Int)
theorem dE {t b:Int} (h:0 < b):0 < gc t b:=by
 unfold gc;have:0 < Int.gcd t b:=Int.gcd_pos_of_ne_zero_right t (by omega)
 omega
theorem pS {t b:Int}:gc b (t % b)=gc t b:=by
 unfold gc;have h:t % b=t+(-(t / b))*b:=by
  have:=Int.emod_add_mul_ediv t b
  grind
 rw [h,Int.gcd_add_mul_right_right,Int.gcd_comm]
theorem vv {t:Int} (h:0<=t):gc t 0=t:=by
 unfold gc;rw [Int.gcd_zero_right];omega
theorem gY {t b:Int}:gc t b ∣ t:=Int.gcd_dvd_left t b
theorem df {t b:Int}:gc t b ∣ b:=Int.gcd_dvd_right t b
theorem vw {t b:Int} (h:0 < b):gc t b<=b:=Int.le_of_dvd h df
theorem DG {t b:Int}:gc (t.natAbs:Int) b=gc t b:=by
 unfold gc;simp [Int.gcd]
def rd (t b:Int):Int×Int:=(t / gc t b,b / gc t b)
structure Lo (a b:Int):Prop where
 pos:0 < b
 one:gc a b=1
theorem CF {t b:Int}:(rd t b).1*gc t b=t:=Int.ediv_mul_cancel gY
theorem Av {t b:Int}:(rd t b).2*gc t b=b:=Int.ediv_mul_cancel df
theorem eK {t b:Int} (h:0 < b):Lo (rd t b).1 (rd t b).2:=by
 have hg:=dE (t:=t) h;constructor
 . have e:=Av (t:=t) (b:=b);have:0 < (rd t b).2*gc t b:=by omega
   exact Int.pos_of_mul_pos_left this hg
 . unfold gc rd;simp only;have:=Int.gcd_ediv_gcd_ediv_gcd (i:=t) (j:=b) (by unfold gc at hg;omega)
   unfold gc;rw [this];rfl
theorem lQ {t b:Int}:(rd t b).1*b=t*(rd t b).2:=by
 have e1:=CF (t:=t) (b:=b);have e2:=Av (t:=t) (b:=b);generalize (rd t b).1=x at *
 generalize (rd t b).2=y at *
 generalize gc t b=g at *
 subst e1 e2
 grind
theorem Lo.ext {a b c d:Int} (h:Lo a b) (k:Lo c d) (e:a*d=c*b):a=c/\b=d:=by
 have hb:=h.pos;have hd:=k.pos;have h1:b ∣ d:=by
  have:b ∣ a*d:=⟨c,by rw [e,Int.mul_comm]⟩
  have hg:Int.gcd b a=1:=by have:=h.one;unfold gc at this;rw [Int.gcd_comm];omega
  have h3:=Int.dvd_gcd_mul_iff_dvd_mul.mpr this;rw [hg] at h3;simpa using h3
 have h2:d ∣ b:=by
  have:d ∣ c*b:=⟨a,by rw [<- e,Int.mul_comm]⟩
  have hg:Int.gcd d c=1:=by have:=k.one;unfold gc at this;rw [Int.gcd_comm];omega
  have h3:=Int.dvd_gcd_mul_iff_dvd_mul.mpr this;rw [hg] at h3;simpa using h3
 have hbd:b=d:=Int.le_antisymm (Int.le_of_dvd hd h1) (Int.le_of_dvd hb h2);subst hbd;exact ⟨Int.eq_of_mul_eq_mul_right (by omega) e,rfl⟩
theorem xP {t b a c:Int} (h:0 < b) (k:Lo a c) (e:t*c=a*b):rd t b=(a,c):=by
 have x:=(eK (t:=t) h).ext k (by
  have e1:=CF (t:=t) (b:=b);have e2:=Av (t:=t) (b:=b);have hg:=dE (t:=t) h;generalize (rd t b).1=x at *
  generalize (rd t b).2=y at *
  generalize gc t b=g at *
  have:g*(x*c)=g*(a*y):=by grind
  exact Int.eq_of_mul_eq_mul_left (by omega) this)
 exact Prod.ext x.1 x.2
theorem fG {a b:Int} (h:Lo a b):rd a b=(a,b):=xP h.pos h rfl
theorem Au {x y z w:Int} (h:0 < y) (k:0 < w) (e:x*w=z*y):rd x y=rd z w:=by
 have c:=lQ (t:=z) (b:=w);refine xP h (eK k) ?_;have:w*(x*(rd z w).2)=w*((rd z w).1*y):=by grind
 exact Int.eq_of_mul_eq_mul_left (by omega) this
def pl (p q:Int×Int):Int×Int:=rd (p.1*q.2+q.1*p.2) (p.2*q.2)
def mi (p q:Int×Int):Int×Int:=rd (p.1*q.2 - q.1*p.2) (p.2*q.2)
def ti (p q:Int×Int):Int×Int:=rd (p.1*q.1) (p.2*q.2)
abbrev Lw (p:Int×Int):Prop:=Lo p.1 p.2
theorem BQ {t b:Int} (h:0 < b):Lw (rd t b):=eK h
theorem BV {p q:Int×Int} (h:0 < p.2) (k:0 < q.2):Lw (pl p q):=eK (Int.mul_pos h k)
theorem Lo.neg {a b:Int} (h:Lo a b):Lo (-a) b:=⟨h.pos,by have:=h.one;unfold gc at *;rw [Int.neg_gcd];exact this⟩
theorem Dt:Lo 0 1:=⟨by decide,by decide⟩
def Sm (k:Nat) (x:Int):Prop:=x.natAbs < 2 ^ k
theorem Sm.mono {k l:Nat} {x:Int} (h:Sm k x) (e:k<=l):Sm l x:=Zt h (Nat.pow_le_pow_right (by decide) e)
theorem Sm.mul {k l:Nat} {x y:Int} (h:Sm k x) (g:Sm l y):Sm (k+l) (x*y):=by
 unfold Sm at *
 rw [Int.natAbs_mul,Nat.pow_add];exact Nat.mul_lt_mul'' h g
theorem Sm.add {k:Nat} {x y:Int} (h:Sm k x) (g:Sm k y):Sm (k+1) (x+y):=by
 unfold Sm at *
 rw [Nat.pow_succ];omega
theorem Sm.neg {k:Nat} {x:Int} (h:Sm k x):Sm k (-x):=by unfold Sm at *;omega
theorem Sm.of {k:Nat} {x:Int} (h:-(2 ^ k:Nat) < x) (g:x < (2 ^ k:Nat)):Sm k x:=by unfold Sm;omega
theorem Sm.div {k:Nat} {x g:Int} (h:Sm k x) (hg:0 < g) (d:g ∣ x):Sm k (x / g):=by
 obtain ⟨c,rfl⟩:=d;rw [Int.mul_ediv_cancel_left _ (by omega)]
 unfold Sm at *
 rw [Int.natAbs_mul] at h;have:1*c.natAbs<=g.natAbs*c.natAbs:=Nat.mul_le_mul_right _ (by omega)
 omega
theorem BP {k:Nat} {t b:Int} (hb:0 < b) (h:Sm k t) (g:Sm k b):Sm k (rd t b).1/\Sm k (rd t b).2 :=
 ⟨h.div (dE hb) gY,g.div (dE hb) df⟩
structure Fr (k:Nat) (p:Int×Int):Prop where
 lw:Lw p
 s1:Sm k p.1
 s2:Sm k p.2
theorem Fr.mono {k l:Nat} {p:Int×Int} (h:Fr k p) (e:k<=l):Fr l p:=⟨h.lw,h.s1.mono e,h.s2.mono e⟩
theorem Fr.pos {k:Nat} {p:Int×Int} (h:Fr k p):0 < p.2:=h.lw.pos
theorem Fr.rd {k:Nat} {t b:Int} (h:0 < b) (s:Sm k t) (g:Sm k b):Fr k (rd t b):=⟨BQ h,(BP h s g).1,(BP h s g).2⟩
def low (t b:Int):Int×Int:=if b < 0 then rd (-t) (-b) else rd t b
theorem A8 {t b:Int} (h:0 < b):low t b=rd t b:=by unfold low;rw [if_neg (by omega)]
end Mth
namespace Mth
abbrev Bn:=Option (Int×Bool)
def kp (p:Int×Int):Bn->Bool
 | none=>true
 | some (n,true)=>decide (p.1*1 < n*p.2)
 | some (n,false)=>!decide (n*p.2 < p.1*1)
def bs:Bn->Bn->Bn
 | some (n,s),some (m,t)=>some (n+m,s || t)
 | _,_=>none
def b2 (s:Bool):Int:=if s then 1 else 0
def far (f:Int) (s:Bool):Int:=if f=0/\s=true then 1 else f
end Mth
namespace Mth
def tgt:Bn->Bn->Bool
 | none,_=>false
 | some _,none=>true
 | some (n,s),some (m,t)=>if n=m then s && !t else decide (n < m)
def sel (a b:Bn) (p:Int×Int):Bool:=!kp p a && kp p b
def cnt (a b:Bn) (ps:List (Int×Int)):Int:=((ps.filter (sel a b)).length:Nat)
def B2:Bn->List Int
 | none=>[]
 | some (n,_)=>[n]
def FI (a b:Bn):List Int:=0 :: (B2 a++B2 b)
def Ga (n:Int):List (Int×Int):=[(n,1),(2*n - 1,2),(2*n+1,2),(n+1,1),(n - 1,1)]
def FV:Bn->Bn->Int
 | none,none=>0+0
 | none,some (m,_)=>m+0
 | some (n,_),none=>n+0
 | some (n,_),some (m,_)=>m+n
def tr (a b:Bn):List (Int×Int):=(FI a b).flatMap Ga++[low (FV a b) 2]
end Mth
namespace Mth
def Le (a b:Bn):Prop:=tgt b a=false
abbrev b0:Bn:=some (0,false)
def Nn (a:Bn):Prop:=Le b0 a
section
variable (c:Nat->Nat->Bn)
def dm:Nat->Nat->Nat->Bn
 | 0=>c
 | m+1=>fun i j=>if tgt (bs (dm m i m) (dm m m j)) (dm m i j) then bs (dm m i m) (dm m m j) else dm m i j
def Ok (n m:Nat):Prop:=∀ k,k < m->∀ i,i < n->Nn (bs (dm c k i k) (dm c k k i))
variable {c} {n:Nat}
variable (c) in
end
def tg2 (a b:Bn):Bn:=if tgt b a then b else a
def sqf (f:Nat->Nat->Bn) (i j:Nat) (ms:List Nat) (x:Bn):Bn:=ms.foldl (fun x m=>tg2 x (bs (f i m) (f m j))) x
def sq (n:Nat) (f:Nat->Nat->Bn) (i j:Nat):Bn:=sqf f i j (List.range n) (f i j)
section
variable {c:Nat->Nat->Bn} {n:Nat}
end
end Mth
namespace Mth
theorem di (n:Int):Rat.divInt n 1=(n:Rat):=by simp [Rat.divInt,Rat.mkRat_one]
def vl (p:Int×Int):Rat:=Rat.divInt p.1 p.2
theorem iI {t b:Int} (h:0 < b):vl (rd t b)=Rat.divInt t b:=by
 unfold vl;have l:=(eK (t:=t) h).pos;rw [Rat.divInt_eq_divInt_iff (by omega) (by omega)]
 exact lQ
theorem iJ {p q:Int×Int} (hp:0 < p.2) (hq:0 < q.2):vl (pl p q)=vl p+vl q:=by
 unfold pl;rw [iI (Int.mul_pos hp hq)];unfold vl;rw [Rat.divInt_add_divInt _ _ (by omega) (by omega)]
theorem BK {p q:Int×Int} (hp:0 < p.2) (hq:0 < q.2):vl (mi p q)=vl p - vl q:=by
 unfold mi;rw [iI (Int.mul_pos hp hq)];unfold vl;rw [Rat.divInt_sub_divInt _ _ (by omega) (by omega)]
theorem BI {p q:Int×Int} (hp:0 < p.2) (hq:0 < q.2):vl (ti p q)=vl p*vl q:=by
 unfold ti;rw [iI (Int.mul_pos hp hq)];unfold vl;rw [Rat.divInt_mul_divInt]
theorem bB (n:Int):vl (n,1)=(n:Rat):=by
 unfold vl;exact di n
theorem fN {p q:Int×Int} (hp:Lw p) (hq:Lw q) (h:vl p=vl q):p=q:=by
 unfold vl at h;have h1:=hp.pos;have h2:=hq.pos;rw [Rat.divInt_eq_divInt_iff (by omega) (by omega)] at h
 obtain ⟨a,b⟩:=hp.ext hq h;exact Prod.ext a b
theorem tX {t b:Int} (hb:0 < b):0 < Rat.divInt t b <-> 0 < t:=by
 have hb':(0:Rat) < (b:Rat):=by
  have:=(Rat.intCast_lt_intCast (a:=0) (b:=b)).mpr hb;simpa using this
 have e:Rat.divInt t b*(b:Rat)=(t:Rat):=by
  have h1:(b:Rat)=Rat.divInt b 1:=(di b).symm;have h2:(t:Rat)=Rat.divInt t 1:=(di t).symm;rw [h1,h2,Rat.divInt_mul_divInt,Rat.divInt_eq_divInt_iff (by omega) (by omega)]
  grind
 constructor
 . intro h;have:=Rat.mul_pos h hb';rw [e] at this;exact (Rat.intCast_lt_intCast (a:=0)).mp (by simpa using this)
 . intro h;have ht:(0:Rat) < (t:Rat):=by
    have:=(Rat.intCast_lt_intCast (a:=0) (b:=t)).mpr h;simpa using this
   rw [<- e] at ht
   by_cases q:0 < Rat.divInt t b
   . exact q
   . have:Rat.divInt t b*(b:Rat)<=0:=by
      have h3:Rat.divInt t b<=0:=by grind
      have:=Rat.mul_le_mul_of_nonneg_right h3 (Rat.le_of_lt hb')
      grind
     grind
theorem lB {p q:Int×Int} (hp:0 < p.2) (hq:0 < q.2):vl p < vl q <-> p.1*q.2 < q.1*p.2:=by
 have h:=tX (t:=q.1*p.2 - p.1*q.2) (b:=q.2*p.2) (Int.mul_pos hq hp);have e:Rat.divInt (q.1*p.2 - p.1*q.2) (q.2*p.2)=vl q - vl p:=by
  unfold vl;rw [Rat.divInt_sub_divInt _ _ (by omega) (by omega)]
 rw [e] at h;constructor
 . intro g;have:=h.mp (by grind)
   omega
 . intro g;have:=h.mpr (by omega)
   grind
section
variable {c:Nat->Nat->Bn} {n:Nat} {x:Nat->Rat}
end
end Mth
namespace Mth
theorem pT {a b:Int}:gc a b=1 <-> Nat.Coprime a.natAbs b.natAbs:=by
 unfold gc Nat.Coprime;rw [Int.gcd];omega
theorem gZ {a b:Int} (h:gc a b=1):gc b a=1:=by
 rw [pT] at *;exact h.symm
theorem k6 {t a b:Int} (h:gc t a=1) (k:gc t b=1):gc t (a*b)=1:=by
 rw [pT] at *
 rw [Int.natAbs_mul];exact h.mul_right k
theorem k7 {t s a b:Int} (h:gc t a=1) (k:s ∣ t) (l:b ∣ a):gc s b=1:=by
 rw [pT] at *
 exact Nat.Coprime.coprime_dvd_left (Int.natAbs_dvd_natAbs.mpr k) (Nat.Coprime.coprime_dvd_right (Int.natAbs_dvd_natAbs.mpr l) h)
theorem vz {a b m:Int} (h:gc a b=1):gc (a+m*b) b=1:=by
 unfold gc at *
 rw [Int.gcd_comm,Int.gcd_add_mul_right_right,Int.gcd_comm];exact h
theorem vy {a b:Int} (h:0 < b):gc (a / gc a b) (b / gc a b)=1:=(eK (t:=a) h).one
theorem qg {d a:Int} (h:d ∣ a):a / d ∣ a:=⟨d,(Int.ediv_mul_cancel h).symm⟩
def sm (a b c e:Int):Int×Int :=
 ((a*(e / gc b e)+c*(b / gc b e)) / gc (a*(e / gc b e)+c*(b / gc b e)) (gc b e),
  b / gc b e*(e / gc (a*(e / gc b e)+c*(b / gc b e)) (gc b e)))
theorem Es {a b c e:Int} (h:Lo a b) (k:Lo c e):sm a b c e=rd (a*e+c*b) (b*e):=by
 have hb:=h.pos;have he:=k.pos;have hg:=dE (t:=b) he;have d1:gc b e ∣ b:=gY;have d2:gc b e ∣ e:=df;have e1:=Int.ediv_mul_cancel d1;have e2:=Int.ediv_mul_cancel d2;have q:=vy (a:=b) he;have p1:=qg d1;have p2:=qg d2;unfold sm;generalize hg':gc b e=g at *
 generalize hP:b / g=P at *
 generalize hE:e / g=E at *
 generalize hT:a*E+c*P=T at *
 have hl:=dE (t:=T) hg;have l1:gc T g ∣ T:=gY;have l2:gc T g ∣ g:=df;have l3:gc T g ∣ e:=Int.dvd_trans l2 d2;have f1:=Int.ediv_mul_cancel l1;have f2:=Int.ediv_mul_cancel l2;have f3:=Int.ediv_mul_cancel l3;have u:=vy (a:=T) hg;have tP:gc T P=1:=by
  rw [<- hT];refine vz ?_;have x1:gc P a=1:=k7 (gZ h.one) p1 (Int.dvd_refl a);exact gZ (k6 x1 q)
 have tE:gc T E=1:=by
  rw [<- hT,Int.add_comm];refine vz ?_;have x1:gc E c=1:=k7 (gZ k.one) p2 (Int.dvd_refl c);exact gZ (k6 x1 (gZ q))
 have p3:=qg l1;generalize hl':gc T g=l at *
 generalize hT':T / l=T' at *
 generalize hG':g / l=G' at *
 have ee:e / l=E*G':=by
  rw [<- e2,<- f2];have:E*(G'*l)=E*G'*l:=by grind
  rw [this,Int.mul_ediv_cancel _ (by omega)]
 rw [ee];have hP0:0 < P:=by
  have:0 < P*g:=by omega
  exact Int.pos_of_mul_pos_left this hg
 have hE0:0 < E:=by
  have:0 < E*g:=by omega
  exact Int.pos_of_mul_pos_left this hg
 have hG0:0 < G':=by
  have:0 < G'*l:=by omega
  exact Int.pos_of_mul_pos_left this hl
 refine (xP (Int.mul_pos hb he) ⟨Int.mul_pos hP0 (Int.mul_pos hE0 hG0),?_⟩ ?_).symm
 . exact k6 (k7 tP p3 (Int.dvd_refl P)) (k6 (k7 tE p3 (Int.dvd_refl E)) u)
 . have:a*e+c*b=T*g:=by rw [<- hT,<- e1,<- e2];grind
   rw [this,<- f1,<- e1,<- e2];rw [<- f2]
   grind
def tm (a b c e:Int):Int×Int:=(a / gc a e*(c / gc c b),b / gc c b*(e / gc a e))
theorem EW {p q:Int×Int} (h:Lw p) (k:Lw q):mi p q=sm p.1 p.2 (-q.1) q.2:=by
 rw [Es h (Lo.neg k)];unfold mi;rw [Int.neg_mul,<- Int.sub_eq_add_neg]
end Mth
namespace Mth
def bp (q:Int×Int):Int×Int:=(q.1 % q.2,q.2)
theorem eS {q:Int×Int} (h:Lw q):Lw (bp q):=⟨h.pos,by
 have e:=h.one;have s:=pS (t:=q.1) (b:=q.2);show gc (q.1 % q.2) q.2=1;rw [<- e,<- s];unfold gc;rw [Int.gcd_comm]⟩
theorem BR {q:Int×Int} (h:Lw q):rd (q.1 % q.2) q.2=bp q:=fG (eS h)
theorem yP {q:Int×Int} (h:Lw q):mi q (q.1 / q.2,1)=bp q:=by
 unfold mi;have e:q.1*1 - q.1 / q.2*q.2=q.1 % q.2:=by
  have:=Int.emod_add_mul_ediv q.1 q.2;rw [Int.mul_comm q.2] at this;omega
 show rd (q.1*1 - q.1 / q.2*q.2) (q.2*1)=bp q;rw [e,Int.mul_one,BR h]
structure Tm (q:Int×Int):Prop where
 lw:Lw q
 nn:0<=q.1
 up:q.1 < 62*q.2
 le:q.2<=10 ^ 40
structure Tw (q:Int×Int):Prop where
 lw:Lw q
 nn:0<=q.1
 up:q.1 < 100*q.2
 le:q.2<=10 ^ 130
theorem Tm.w {q:Int×Int} (h:Tm q):Tw q:=⟨h.lw,h.nn,by have:=h.up;have:=h.lw.pos;omega,by have:=h.le;omega⟩
theorem Tw.fr {q:Int×Int} (h:Tw q):Fr 500 q:=by
 have p:=h.lw.pos;have a:=h.nn;have b:=h.up;have c:=h.le;refine ⟨h.lw,Sm.of ?_ ?_,Sm.of ?_ ?_⟩ <;> omega
theorem Tw.bp_fr {q:Int×Int} (h:Tw q):Fr 500 (bp q):=by
 have p:=h.lw.pos;have c:=h.le;have z0:=Int.emod_nonneg q.1 (b:=q.2) (by omega)
 have z1:=Int.emod_lt_of_pos q.1 p;refine ⟨eS h.lw,Sm.of ?_ ?_,Sm.of ?_ ?_⟩ <;> (show _ < _) <;> dsimp only [bp] <;> omega
def past (g:Int) (q:Int×Int):Bool:=decide (g*q.2 < q.1)
def gK (ps:List (Int×Int)) (p:Int×Int):List (Int×Int):=if (!decide (p=(0,1)) && !ps.contains p)=true then ps++[p] else ps
def dst:List (Int×Int)->List (Int×Int)->List (Int×Int)
 | ps,[]=>ps
 | ps,q :: qs=>dst (gK ps (bp q)) qs
def wi:List Int->List (Int×Int)->List (Int×Int)
 | m :: ms,q :: qs=>if past m q then wi ms qs else q :: wi ms qs
 | _,_=>[]
def rk (ps:List (Int×Int)) (q:Int×Int):Nat:=(ps.filter fun p=>decide (p.1*q.2<=q.1 % q.2*p.2)).length
def plc (ps:List (Int×Int)) (g:Int) (q:Int×Int):Int×Int:=if past g q then (g+1,0) else (q.1 / q.2,(rk ps q:Int))
def cls (ps:List (Int×Int)):List Int->List (Int×Int)->List (Int×Int)
 | m :: ms,q :: qs=>plc ps m q :: cls ps ms qs
 | _,_=>[]
def cel (ms:List Int) (qs:List (Int×Int)):List (Int×Int):=cls (dst [] (wi ms qs)) ms qs
def mom:List Int->List (Int×Int)->Bool
 | m :: ms,c :: cs=>(decide (c.2=0) && decide (c.1<=m)) || mom ms cs
 | _,_=>false
theorem z8 {ps:List (Int×Int)} {p x:Int×Int} (h:x∈ps):x∈gK ps p:=by
 unfold gK;split
 . exact List.mem_append_left _ h
 . exact h
theorem z9 {ps:List (Int×Int)} {p:Int×Int} (h:p ≠ (0,1)):p∈gK ps p:=by
 unfold gK;split
 . exact Zu _ Zi
 . rename_i n
   by_cases c:p∈ps
   . exact c
   . exact absurd (by simp [h,c]) n
theorem sB {ps:List (Int×Int)} {p:Int×Int}:(gK ps p).length<=ps.length+1:=by
 unfold gK;split
 . simp
 . omega
theorem Aa {P:Int×Int->Prop} {ps:List (Int×Int)} {p:Int×Int} (h:∀ x∈ps,P x) (k:p ≠ (0,1)->P p):∀ x∈gK ps p,P x:=by
 unfold gK;split
 . rename_i c;intro x m;rcases Zm.mp m with m | m
   . exact h x m
   . rw [Zk.mp m];refine k fun e=>?_
     rw [e] at c;simp at c
 . exact h
theorem vO:∀ (qs:List (Int×Int)) {ps:List (Int×Int)} {x:Int×Int},x∈ps->x∈dst ps qs
 | [],_,_,h=>h
 | _ :: qs,_,_,h=>vO qs (z8 h)
theorem lc:∀ (qs:List (Int×Int)) {ps:List (Int×Int)} {q:Int×Int},q∈qs->bp q ≠ (0,1)->bp q∈dst ps qs
 | [],_,_,h,_=>by cases h
 | r :: qs,ps,q,h,n=>by
  rcases Zn.mp h with e | e
  . subst e;exact vO qs (z9 n)
  . exact lc qs e n
theorem iB {P:Int×Int->Prop}:∀ (qs:List (Int×Int)) {ps:List (Int×Int)},(∀ x∈ps,P x)->(∀ q∈qs,bp q ≠ (0,1)->P (bp q))->∀ x∈dst ps qs,P x
 | [],_,h,_=>h
 | r :: qs,ps,h,k=>iB qs (Aa h (k r Zi)) fun q m=>k q (Zj _ m)
theorem k9:∀ (qs:List (Int×Int)) {ps:List (Int×Int)},(dst ps qs).length<=ps.length+qs.length
 | [],_=>by simp [dst]
 | r :: qs,ps=>by
  have:=k9 qs (ps:=gK ps (bp r));have h:=sB (ps:=ps) (p:=bp r);simp only [dst,Zh];omega
theorem bA:∀ (ms:List Int) (qs:List (Int×Int)) {q:Int×Int},q∈wi ms qs->q∈qs
 | [],_,_,h=>by cases h
 | _ :: _,[],_,h=>by cases h
 | m :: ms,r :: qs,q,h=>by
  unfold wi at h;split at h
  . exact Zj _ (bA ms qs h)
  . rcases Zn.mp h with e | e
    . rw [e];exact Zi
    . exact Zj _ (bA ms qs e)
theorem jm (m:Int) (ms:List Int) (q:Int×Int) (qs:List (Int×Int)):wi (m :: ms) (q :: qs)=if past m q then wi ms qs else q :: wi ms qs:=rfl
theorem fM:∀ (ms:List Int) (qs:List (Int×Int)),(wi ms qs).length<=qs.length
 | [],_=>by simp [wi]
 | _ :: _,[]=>by simp [wi]
 | m :: ms,r :: qs=>by
  have:=fM ms qs;unfold wi;split
  . simp;omega
  . simp;omega
theorem uH {ps:List (Int×Int)} {q:Int×Int} (h:Tw q) (a:∀ p∈ps,0 < p.1) (b:q.2 ≠ 1->bp q∈ps):((rk ps q:Int)=0) <-> q.2=1:=by
 have hp:=h.lw.pos;constructor
 . intro z
   by_cases e:q.2=1
   . exact e
   . exfalso;have m:=b e;have:bp q∈ps.filter fun p=>decide (p.1*q.2<=q.1 % q.2*p.2):=List.mem_filter.mpr ⟨m,Zw (Int.le_refl _)⟩
     have:=List.length_pos_of_mem this;unfold rk at z;omega
 . intro e;have:rk ps q=0:=by
    unfold rk;rw [List.length_eq_zero_iff,List.filter_eq_nil_iff];intro p m;have:=a p m;rw [e];simp only [decide_eq_true_eq,Int.emod_one,Int.zero_mul,Int.mul_one];omega
   rw [this];rfl
theorem jh {q:Int×Int} (h:Lw q):bp q=(0,1) <-> q.2=1:=by
 constructor
 . intro e;exact (Prod.mk.inj e).2
 . intro e;show (q.1 % q.2,q.2)=(0,1);rw [e,Int.emod_one]
theorem zY {q:Int×Int} (h:Lw q) (n:bp q ≠ (0,1)):0 < (bp q).1:=by
 have p:=h.pos;have z0:=Int.emod_nonneg q.1 (b:=q.2) (by omega)
 show 0 < q.1 % q.2
 by_cases e:q.1 % q.2=0
 . exfalso;have:=(eS h).one;have h2:gc (q.1 % q.2) q.2=1:=this;rw [e] at h2;have h3:gc 0 q.2=q.2:=by
    unfold gc;rw [Int.gcd_zero_left];omega
   rw [h3] at h2;exact n ((jh h).mpr h2)
 . omega
theorem u4 {ps:List (Int×Int)} (a:∀ p∈ps,0 < p.1):∀ (ms:List Int) (qs:List (Int×Int)),(∀ q∈qs,Tw q)->(∀ q∈wi ms qs,q.2 ≠ 1->bp q∈ps)->mom ms (cls ps ms qs)=(wi ms qs).any fun q=>decide (q.2=1)
 | [],_,_,_=>by simp [mom,wi]
 | _ :: _,[],_,_=>by simp [mom,cls,wi]
 | m :: ms,q :: qs,t,b=>by
  have tq:=t q Zi;have ih:=fun hb=>u4 a ms qs (fun x h=>t x (Zj _ h)) hb
  unfold cls mom;cases hp:past m q with
  | true =>
   have e:wi (m :: ms) (q :: qs)=wi ms qs:=by
    show (if past m q=true then wi ms qs else q :: wi ms qs)=_
    rw [hp,if_pos rfl]
   rw [e] at b ⊢;rw [ih b];have:plc ps m q=(m+1,0):=by unfold plc;rw [hp,if_pos rfl]
   rw [this];have:decide (m+1<=m)=false:=Zv (by omega)
   simp [this]
  | false =>
   have e:wi (m :: ms) (q :: qs)=q :: wi ms qs:=by
    show (if past m q=true then wi ms qs else q :: wi ms qs)=_
    rw [hp,if_neg Zs]
   rw [e] at b ⊢;rw [ih fun x h=>b x (Zj _ h)]
   have:plc ps m q=(q.1 / q.2,(rk ps q:Int)):=by unfold plc;rw [hp,if_neg Zs]
   rw [this];have le:q.1<=m*q.2:=by
    have:=of_decide_eq_false hp;omega
   have pos:=tq.lw.pos;have le2:q.1 / q.2<=m:=Int.ediv_le_of_le_mul pos le;have z:=uH tq a (b q Zi);rw [List.any_cons]
   congr 1
   dsimp only;rw [Zw le2,Bool.and_true];exact decide_eq_decide.mpr z
theorem AX {ms:List Int} {qs:List (Int×Int)} (t:∀ q∈qs,Tw q):mom ms (cel ms qs)=(wi ms qs).any fun q=>decide (q.2=1):=by
 refine u4 (iB _ (fun x z=>by cases z) fun q m n=>zY (t q (bA ms qs m)).lw n) ms qs t fun q m n=>?_
 exact lc _ m fun e=>n ((jh (t q (bA ms qs m)).lw).mp e)
end Mth
namespace Mth
theorem Cq {w t b:Int} (hw:0<=w) (hw2:w<=61) (ht:0<=t) (htb:t < b) (hb:b<=10 ^ 40):Tm (rd (w*b+t) b):=by
 have pb:0 < b:=by omega
 have l:=BQ (t:=w*b+t) pb;have c:=lQ (t:=w*b+t) (b:=b);have gp:=dE (t:=w*b+t) pb;have r2:=Av (t:=w*b+t) (b:=b);have r1:=CF (t:=w*b+t) (b:=b);have wb:0<=w*b:=Int.mul_nonneg hw (by omega)
 refine ⟨l,?_,?_,?_⟩
 . have:0<=(rd (w*b+t) b).1*gc (w*b+t) b:=by rw [r1];omega
   exact Int.nonneg_of_mul_nonneg_left this gp
 . have h1:w*b+t < 62*b:=by
    have:w*b<=61*b:=Int.mul_le_mul_of_nonneg_right hw2 (by omega)
    omega
   have h2:(rd (w*b+t) b).1*gc (w*b+t) b < 62*(rd (w*b+t) b).2*gc (w*b+t) b:=by
    rw [r1,Int.mul_assoc,r2];exact h1
   exact Int.lt_of_mul_lt_mul_right h2 (Int.le_of_lt gp)
 . have:(rd (w*b+t) b).2<=b:=by
    show b / gc (w*b+t) b<=b;exact Int.ediv_le_self _ (by omega)
   omega
end Mth
namespace Mth
theorem Bs {p q:Int×Int} (hp:Lw p) (hq:Lw q) (h:p.1*q.2=q.1*p.2):p=q:=by
 have a:=Au (x:=p.1) (y:=p.2) (z:=q.1) (w:=q.2) hp.pos hq.pos h;rw [fG hp,fG hq] at a;exact a
def bN (rs:List Int) (t:Int):Nat:=(([1,2,3,4]:List Int).filter fun j=>decide (j∈rs) && decide (j<=t)).length
structure Wp (zs:List ((Int×Int)×Int)):Prop where
 tm:∀ z∈zs,Tw z.1
 rg:∀ z∈zs,0<=z.2/\z.2<=4
 ze:∀ z∈zs,bp z.1=(0,1) <-> z.2=0
 le:∀ y∈zs,∀ z∈zs,(bp y.1).1*(bp z.1).2<=(bp z.1).1*(bp y.1).2 <-> y.2<=z.2
theorem Wp.eq {zs:List ((Int×Int)×Int)} (W:Wp zs) {y z:(Int×Int)×Int} (hy:y∈zs) (hz:z∈zs):bp y.1=bp z.1 <-> y.2=z.2:=by
 have a:=W.le y hy z hz;have b:=W.le z hz y hy;constructor
 . intro e;have h1:=a.mp (by rw [e];exact Int.le_refl _)
   have h2:=b.mp (by rw [e];exact Int.le_refl _)
   omega
 . intro e;have h1:=a.mpr (by omega)
   have h2:=b.mpr (by omega)
   exact Bs (eS (W.tm y hy).lw) (eS (W.tm z hz).lw) (Int.le_antisymm h1 h2)
def sA (us:List ((Int×Int)×Int)) (z:(Int×Int)×Int):List ((Int×Int)×Int):=if z.2=0 \/ z.2∈us.map (·.2) then us else us++[z]
theorem BC {zs us:List ((Int×Int)×Int)} (W:Wp zs) (hu:∀ u∈us,u∈zs) {z:(Int×Int)×Int} (hz:z∈zs):gK (us.map fun u=>bp u.1) (bp z.1)=(sA us z).map fun u=>bp u.1:=by
 unfold gK sA;have c1:(decide (bp z.1=(0,1)))=decide (z.2=0):=decide_eq_decide.mpr (W.ze z hz);have c2:(us.map fun u=>bp u.1).contains (bp z.1)=decide (z.2∈us.map (·.2)):=by
  rw [Bool.eq_iff_iff,List.contains_iff_mem,decide_eq_true_iff,Zl,Zl];constructor
  . rintro ⟨u,hu',e⟩
    exact ⟨u,hu',(W.eq (hu u hu') hz).mp e⟩
  . rintro ⟨u,hu',e⟩
    exact ⟨u,hu',(W.eq (hu u hu') hz).mpr e⟩
 rw [c1,c2]
 by_cases h1:z.2=0
 . simp [h1]
 . by_cases h2:z.2∈us.map (·.2)
   . simp [h1,h2]
   . simp only [h1,h2,decide_false,Bool.not_false,Bool.and_self,if_true,or_self,if_false,List.map_append,List.map_cons,List.map_nil]
structure Us (zs us:List ((Int×Int)×Int)):Prop where
 sub:∀ u∈us,u∈zs
 nd:(us.map (·.2)).Nodup
 nz:∀ u∈us,u.2 ≠ 0
theorem zM {zs:List ((Int×Int)×Int)} (W:Wp zs):∀ (ys us:List ((Int×Int)×Int)),(∀ y∈ys,y∈zs)->Us zs us->∃ vs,Us zs vs/\dst (us.map fun u=>bp u.1) (ys.map (·.1))=vs.map (fun u=>bp u.1)/\(∀ x,x∈us.map (·.2)->x∈vs.map (·.2))/\∀ y∈ys,y.2 ≠ 0->y.2∈vs.map (·.2)
 | [],us,_,U=>⟨us,U,rfl,fun _ h=>h,fun _ m=>nomatch m⟩
 | z :: ys,us,h,U=>by
  have hz:=h z Zi;have U2:Us zs (sA us z):=by
   unfold sA;split
   . exact U
   . rename_i c;have c1:z.2 ≠ 0:=fun e=>c (.inl e)
     have c2:z.2 ∉ us.map (·.2):=fun e=>c (.inr e)
     refine ⟨fun u m=>?_,?_,fun u m=>?_⟩
     . rcases Zm.mp m with m | m
       . exact U.sub u m
       . rw [Zk.mp m];exact hz
     . rw [List.map_append,List.nodup_append];refine ⟨U.nd,by simp,fun a ha b hb e=>?_⟩
       simp at hb;rw [e,hb] at ha;exact c2 ha
     . rcases Zm.mp m with m | m
       . exact U.nz u m
       . rw [Zk.mp m];exact c1
  obtain ⟨vs,V,e,s1,s2⟩:=zM W ys (sA us z) (fun y m=>h y (Zj _ m)) U2
  have up:∀ x,x∈us.map (·.2)->x∈(sA us z).map (·.2):=fun x m=>by
   unfold sA;split
   . exact m
   . rw [List.map_append];exact List.mem_append_left _ m
  refine ⟨vs,V,?_,fun x m=>s1 x (up x m),fun y m n=>?_⟩
  . show dst (gK (us.map fun u=>bp u.1) (bp z.1)) (ys.map (·.1))=_
    rw [BC W U.sub hz];exact e
  . rcases Zn.mp m with q | q
    . subst q;refine s1 _ ?_;unfold sA;split
      . rename_i c;exact c.resolve_left n
      . rw [List.map_append];exact Zu _ (by simp)
    . exact s2 y q n
theorem mC:∀ {l m:List Int},l.Nodup->m.Nodup->(∀ x,x∈l <-> x∈m)->l.length=m.length
 | [],m,_,_,h=>by
  cases m with
  | nil=>rfl
  | cons a m=>exact absurd ((h a).mpr Zi) (by simp)
 | a :: l,m,d,e,h=>by
  have am:=(h a).mp Zi;have d':=List.nodup_cons.mp d;have:=mC (l:=l) (m:=m.erase a) d'.2 (e.erase a) (fun x=>by
   rw [e.mem_erase_iff];constructor
   . intro q;exact ⟨fun z=>d'.1 (z ▸ q),(h x).mp (Zj _ q)⟩
   . rintro ⟨n,q⟩
     exact (Zn.mp ((h x).mpr q)).resolve_left n)
  rw [List.length_erase_of_mem am] at this;have lp:=List.length_pos_of_mem am;simp only [Zh];omega
theorem xO {zs:List ((Int×Int)×Int)} (W:Wp zs) {z:(Int×Int)×Int} (hz:z∈zs):rk (dst [] (zs.map (·.1))) z.1=bN (zs.map (·.2)) z.2:=by
 obtain ⟨us,U,e,_,s2⟩:=zM W zs [] (fun _ m=>m) ⟨(fun _ m=>nomatch m),Zq,(fun _ m=>nomatch m)⟩
 have e':dst [] (zs.map (·.1))=us.map fun u=>bp u.1:=e
 rw [e'];have h1:rk (us.map fun u=>bp u.1) z.1=((us.map (·.2)).filter fun j=>decide (j<=z.2)).length:=by
  unfold rk;rw [List.filter_map,List.filter_map,Zg,Zg]
  congr 1
  refine List.filter_congr fun u m=>?_
  exact decide_eq_decide.mpr (W.le u (U.sub u m) z hz)
 rw [h1];unfold bN;refine mC (List.Pairwise.filter _ U.nd) (List.Pairwise.filter _ (show List.Nodup [1,2,3,4] by decide)) fun x=>?_
 rw [List.mem_filter,List.mem_filter,ZI,decide_eq_true_iff,decide_eq_true_iff];constructor
 . rintro ⟨m,l⟩
   obtain ⟨u,mu,rfl⟩:=Zl.mp m;have r:=W.rg u (U.sub u mu);have n:=U.nz u mu;refine ⟨?_,List.mem_map_of_mem (U.sub u mu),l⟩;simp only [Zn,Zz,or_false];omega
 . rintro ⟨r,m,l⟩
   obtain ⟨y,my,rfl⟩:=Zl.mp m;refine ⟨s2 y my fun q=>?_,l⟩
   rw [q] at r;exact absurd r (by decide)
def wk:List Int->List (Int×Int)->List Int->List ((Int×Int)×Int)
 | m :: ms,q :: qs,t :: ts=>if past m q then wk ms qs ts else (q,t) :: wk ms qs ts
 | _,_,_=>[]
def ck (K:List Int):List Int->List (Int×Int)->List Int->List (Int×Int)
 | m :: ms,q :: qs,t :: ts=>(if past m q then (m+1,0) else (q.1 / q.2,(bN K t:Int))) :: ck K ms qs ts
 | _,_,_=>[]
theorem gL:∀ (ms:List Int) (qs:List (Int×Int)) (ts:List Int),qs.length=ts.length->(wk ms qs ts).map (·.1)=wi ms qs
 | [],_,_,_=>by simp [wk,wi]
 | _ :: _,[],_,_=>by simp [wk,wi]
 | _ :: _,_ :: _,[],h=>by simp at h
 | m :: ms,q :: qs,t :: ts,h=>by
  have ih:=gL ms qs ts (by simpa using h)
  unfold wk wi;split
  . exact ih
  . rw [List.map_cons,ih]
theorem t6 {ps:List (Int×Int)} {K:List Int}:∀ (ms:List Int) (qs:List (Int×Int)) (ts:List Int),qs.length=ts.length->(∀ z∈wk ms qs ts,rk ps z.1=bN K z.2)->cls ps ms qs=ck K ms qs ts
 | [],_,_,_,_=>by simp [cls,ck]
 | _ :: _,[],_,_,_=>by simp [cls,ck]
 | _ :: _,_ :: _,[],h,_=>by simp at h
 | m :: ms,q :: qs,t :: ts,h,g=>by
  unfold cls ck plc;unfold wk at g;cases hp:past m q with
  | true =>
   rw [hp,if_pos rfl] at g;rw [if_pos rfl,if_pos rfl,t6 ms qs ts (by simpa using h) g]
  | false =>
   rw [hp,if_neg Zs] at g;have e:rk ps q=bN K t:=g (q,t) Zi;rw [if_neg Zs,if_neg Zs,t6 ms qs ts (by simpa using h) fun z m=>g z (Zj _ m),e]
theorem mV {ms:List Int} {qs:List (Int×Int)} {ts:List Int} (hl:qs.length=ts.length) (W:Wp (wk ms qs ts)):cel ms qs=ck ((wk ms qs ts).map (·.2)) ms qs ts:=by
 unfold cel;refine t6 ms qs ts hl fun z m=>?_
 rw [<- gL ms qs ts hl];exact xO W m
end Mth
namespace Mth
theorem ff {α:Type} {f g:α->Bool}:∀ (ps:List α),(∀ p∈ps,f p=true->g p=true)->(ps.filter f).length<=(ps.filter g).length
 | [],_=>ZH _
 | p :: ps,h=>by
  have ih:=ff ps fun x m=>h x (Zj _ m)
  have hp:=h p Zi;rw [List.filter_cons,List.filter_cons];cases e:f p with
  | true=>rw [hp e];simpa using ih
  | false =>
   cases g p with
   | true=>simp;omega
   | false=>simpa using ih
theorem iT {α:Type} {f g:α->Bool} {x:α}:∀ (ps:List α),(∀ p∈ps,f p=true->g p=true)->x∈ps->f x=false->g x=true->(ps.filter f).length < (ps.filter g).length
 | [],_,m,_,_=>nomatch m
 | p :: ps,h,m,a,b=>by
  have hp:=h p Zi;have le:=ff ps fun x m=>h x (Zj _ m)
  rw [List.filter_cons,List.filter_cons];rcases Zn.mp m with q | q
  . subst q;rw [a,b];simp;omega
  . have ih:=iT ps (fun x m=>h x (Zj _ m)) q a b
    cases e:f p with
    | true=>rw [hp e];simpa using ih
    | false =>
     cases g p with
     | true=>simp;omega
     | false=>simpa using ih
theorem sD {ps:List (Int×Int)}:∀ (ms:List Int) (qs:List (Int×Int)),wk ms qs ((cls ps ms qs).map (·.2))=(wi ms qs).map fun q=>(q,(rk ps q:Int))
 | [],_=>by simp [wk,wi]
 | _ :: _,[]=>by simp [wk,wi]
 | m :: ms,q :: qs=>by
  have ih:=sD (ps:=ps) ms qs;unfold cls;rw [List.map_cons];unfold wk wi;split
  . exact ih
  . rename_i c;rw [List.map_cons,ih]
    congr 2
    unfold plc;rw [if_neg c]
theorem B6 {a b c d e f:Int} (hb:0 < b) (hd:0 < d) (hf:0 < f) (h1:a*d<=c*b) (h2:c*f<=e*d):a*f<=e*b:=by
 have x1:a*d*f<=c*b*f:=Int.mul_le_mul_of_nonneg_right h1 (Int.le_of_lt hf);have x2:c*f*b<=e*d*b:=Int.mul_le_mul_of_nonneg_right h2 (Int.le_of_lt hb);have e1:a*d*f=a*f*d:=by rw [Int.mul_assoc,Int.mul_comm d f,<- Int.mul_assoc]
 have e2:c*b*f=c*f*b:=by rw [Int.mul_assoc,Int.mul_comm b f,<- Int.mul_assoc]
 have e3:e*d*b=e*b*d:=by rw [Int.mul_assoc,Int.mul_comm d b,<- Int.mul_assoc]
 exact Int.le_of_mul_le_mul_right (by rw [<- e1,<- e3];omega) hd
theorem yC {ms:List Int} {qs:List (Int×Int)} (t:∀ q∈qs,Tw q) (l4:qs.length<=4):Wp (wk ms qs ((cel ms qs).map (·.2))):=by
 have ta:∀ q∈wi ms qs,Tw q:=fun q m=>t q (bA ms qs m)
 have pa:∀ p∈dst [] (wi ms qs),0 < p.1:=iB _ (fun x z=>by cases z) fun q m n=>zY (ta q m).lw n
 have pb:∀ p∈dst [] (wi ms qs),0 < p.2:=iB _ (fun x z=>by cases z) fun q m _=>(eS (ta q m).lw).pos
 have pm:∀ q∈wi ms qs,q.2 ≠ 1->bp q∈dst [] (wi ms qs):=fun q m n=>lc _ m fun e=>n ((jh (ta q m).lw).mp e)
 have pl:(dst [] (wi ms qs)).length<=4:=by
  have a:=k9 (wi ms qs) (ps:=[]);have b:=fM ms qs;simp at a;omega
 unfold cel;generalize dst [] (wi ms qs)=ps at *
 rw [sD];refine ⟨fun z m=>?_,fun z m=>?_,fun z m=>?_,fun y my z mz=>?_⟩
 . obtain ⟨q,mq,rfl⟩:=Zl.mp m;exact ta q mq
 . obtain ⟨q,mq,rfl⟩:=Zl.mp m;have:rk ps q<=ps.length:=by unfold rk;exact List.length_filter_le _ _
   dsimp only;omega
 . obtain ⟨q,mq,rfl⟩:=Zl.mp m;dsimp only;rw [uH (ta q mq) pa (pm q mq),jh (ta q mq).lw]
 . obtain ⟨q,mq,rfl⟩:=Zl.mp my;obtain ⟨r,mr,rfl⟩:=Zl.mp mz;dsimp only;have hq:=(ta q mq).lw.pos;have hr:=(ta r mr).lw.pos;constructor
   . intro h;have:rk ps q<=rk ps r:=by
      unfold rk;refine ff ps fun p m e=>Zw ?_
      have e:=of_decide_eq_true e;exact B6 (pb p m) hq hr e h
     omega
   . intro h;rcases Int.lt_or_le ((bp r).1*(bp q).2) ((bp q).1*(bp r).2) with c | c
     . exfalso;have c':r.1 % r.2*q.2 < q.1 % q.2*r.2:=c;have nn:=Int.emod_nonneg r.1 (b:=r.2) (by omega)
       have q1:q.2 ≠ 1:=fun e=>by
        rw [e,Int.emod_one,Int.zero_mul] at c';have:=Int.mul_nonneg nn (show (0:Int)<=1 by decide)
        omega
       have:rk ps r < rk ps q:=by
        unfold rk;refine iT (x:=bp q) ps (fun p m e=>Zw ?_) (pm q mq q1) (Zv ?_) (Zw (Int.le_refl _))
        . have e:=of_decide_eq_true e;exact B6 (pb p m) hr hq e (Int.le_of_lt c)
        . show ¬ q.1 % q.2*r.2<=r.1 % r.2*q.2;omega
       omega
     . exact c
end Mth
namespace Mth
theorem ly:∀ (ms:List Int) (qs:List (Int×Int)) (ts:List Int) {z:(Int×Int)×Int},z∈wk ms qs ts->z.1∈qs/\z.2∈ts
 | [],_,_,_,h=>by simp [wk] at h
 | _ :: _,[],_,_,h=>by simp [wk] at h
 | _ :: _,_ :: _,[],_,h=>by simp [wk] at h
 | m :: ms,q :: qs,t :: ts,z,h=>by
  unfold wk at h;split at h
  . obtain ⟨a,b⟩:=ly ms qs ts h;exact ⟨Zj _ a,Zj _ b⟩
  . rcases Zn.mp h with e | e
    . rw [e];exact ⟨Zi,Zi⟩
    . obtain ⟨a,b⟩:=ly ms qs ts e;exact ⟨Zj _ a,Zj _ b⟩
theorem g9 {ps:List (Int×Int)}:∀ (ms:List Int) (qs:List (Int×Int)),ms.length=qs.length->(cls ps ms qs).length=qs.length
 | [],[],_=>rfl
 | [],_ :: _,h=>by simp at h
 | _ :: _,[],h=>by simp at h
 | m :: ms,q :: qs,h=>by
  show (plc ps m q :: cls ps ms qs).length=_;rw [Zh,Zh,g9 ms qs (by simpa using h)]
structure Kn (ms:List Int) (qs:List (Int×Int)) (ts:List Int):Prop where
 len:qs.length=ts.length
 W:Wp (wk ms qs ts)
 own:∀ z∈wk ms qs ts,(bN ((wk ms qs ts).map (·.2)) z.2:Int)=z.2
 one:∀ z∈wk ms qs ts,z.1.2=1->z.2=0
 is:cel ms qs=ck ((wk ms qs ts).map (·.2)) ms qs ts
theorem kn {ms:List Int} {qs:List (Int×Int)} (hl:ms.length=qs.length) (t:∀ q∈qs,Tw q) (l4:qs.length<=4):Kn ms qs ((cel ms qs).map (·.2)):=by
 have W:=yC (ms:=ms) t l4;have len:qs.length=((cel ms qs).map (·.2)).length:=by
  rw [Zg];unfold cel;rw [g9 ms qs hl]
 have own:∀ z∈wk ms qs ((cel ms qs).map (·.2)),z.2=(rk (dst [] (wi ms qs)) z.1:Int):=fun z m=>by
  unfold cel at m;rw [sD] at m;obtain ⟨q,_,rfl⟩:=Zl.mp m;rfl
 refine ⟨len,W,fun z m=>?_,fun z m o=>?_,mV len W⟩
 . rw [<- xO W m,gL ms qs _ len];exact (own z m).symm
 . have:=(W.ze z m).mp ((jh (W.tm z m).lw).mpr o);exact this
theorem oo {m:Int} {q:Int×Int} (p:0 < q.2) (h:past m q=false):q.1 / q.2<=m:=by
 have:¬ m*q.2 < q.1:=of_decide_eq_false h;exact Int.ediv_le_of_le_mul p (by omega)
end Mth
namespace Mth
def fu (ns:List Int):List Int:=([0,1,2,3,4]:List Int).filter fun k=>decide (k∈ns)
end Mth
namespace Mth
theorem qA (rs:List Int):fu (0 :: rs)=0 :: ([1,2,3,4]:List Int).filter fun j=>decide (j∈rs):=by
 unfold fu;rw [List.filter_cons_of_pos (by simp)]
 congr 1
 apply List.filter_congr
 intro x hx;have:x ≠ 0:=by
  intro e;subst e;revert hx;decide
 simp [this]
theorem zD (p:Int->Bool):([1,2,3,4]:List Int).filter p=(if p 1 then [1] else [])++((if p 2 then [2] else [])++((if p 3 then [3] else [])++(if p 4 then [4] else []))):=by
 simp only [List.filter_cons,List.filter_nil];cases p 1 <;> cases p 2 <;> cases p 3 <;> cases p 4 <;> rfl
theorem yV (p:Int->Bool):(([1,2,3,4]:List Int).filter p).length=(if p 1 then 1 else 0)+((if p 2 then 1 else 0)+((if p 3 then 1 else 0)+(if p 4 then 1 else 0))):=by
 rw [zD];cases p 1 <;> cases p 2 <;> cases p 3 <;> cases p 4 <;> rfl
theorem zU {ps:List (Int×Int)} (l:ps.length<=4):∀ (ms:List Int) (qs:List (Int×Int)),(∀ m∈ms,0<=m/\m<=60)->(∀ q∈qs,Tw q)->∀ c∈cls ps ms qs,(0<=c.1/\c.1<=61)/\0<=c.2/\c.2<=4
 | [],_,_,_,_,m=>by cases m
 | _ :: _,[],_,_,_,m=>by cases m
 | m :: ms,q :: qs,hm,hq,c,mc=>by
  rcases Zn.mp (show c∈plc ps m q :: cls ps ms qs from mc) with e | e
  . subst e;have a:=hm m Zi;have t:=hq q Zi;have p0:=t.lw.pos;have n0:=t.nn;have u0:=t.up;unfold plc;split
    . exact ⟨⟨by show 0<=m+1;omega,by show m+1<=61;omega⟩,by show (0:Int)<=0;omega,by show (0:Int)<=4;omega⟩
    . rename_i np;have r:rk ps q<=ps.length:=List.length_filter_le _ _;refine ⟨⟨?_,?_⟩,?_,?_⟩
      . exact Int.ediv_nonneg n0 (Int.le_of_lt p0)
      . have:q.1 / q.2<=m:=oo p0 (by simpa using np)
        show q.1 / q.2<=61;omega
      . show (0:Int)<=(rk ps q:Int);omega
      . show (rk ps q:Int)<=4;omega
  . exact zU l ms qs (fun x h=>hm x (Zj _ h)) (fun x h=>hq x (Zj _ h)) c e
theorem zW {ms:List Int} {qs:List (Int×Int)} (gr:∀ m∈ms,0<=m/\m<=60) (t:∀ q∈qs,Tw q) (l4:qs.length<=4):∀ c∈cel ms qs,(0<=c.1/\c.1<=61)/\0<=c.2/\c.2<=4:=by
 have a:=k9 (wi ms qs) (ps:=[]);have b:=fM ms qs;exact zU (by simp only [List.length_nil] at a;omega) ms qs gr t
end Mth
namespace Mth
theorem lC {q:Int×Int} (h:0 < q.2):vl q=((q.1 / q.2:Int):Rat)+vl (bp q):=by
 unfold vl bp;rw [<- di (q.1 / q.2),Rat.divInt_add_divInt _ _ (by omega) (by omega)]
 have:=Int.emod_add_mul_ediv q.1 q.2;rw [Int.mul_comm q.2] at this;rw [Int.mul_one,Int.one_mul,show q.1 / q.2*q.2+q.1 % q.2=q.1 by omega]
theorem uo {p q:Int×Int} (hp:0 < p.2) (hq:0 < q.2):vl p<=vl q <-> p.1*q.2<=q.1*p.2:=by
 have:=lB hq hp;constructor
 . intro h
   by_cases c:p.1*q.2<=q.1*p.2
   . exact c
   . have:=this.mpr (by omega)
     grind
 . intro h
   by_cases c:vl p<=vl q
   . exact c
   . have:=this.mp (by grind)
     omega
theorem hW {q:Int×Int} (h:0 < q.2):0<=vl (bp q):=by
 have:=(uo (p:=(0,1)) (q:=bp q) (by decide) h).mpr (by
  have:=Int.emod_nonneg q.1 (b:=q.2) (by omega)
  show 0*q.2<=q.1 % q.2*1;omega)
 rw [bB] at this;simpa using this
theorem sr {q:Int×Int} (h:0 < q.2):vl (bp q) < 1:=by
 have:=(lB (p:=bp q) (q:=(1,1)) h (by decide)).mpr (by
  have:=Int.emod_lt_of_pos q.1 h;show q.1 % q.2*1 < 1*q.2;omega)
 rw [bB] at this;simpa using this
theorem zC {q:Int×Int} {n:Int} {f:Rat} (h:0 < q.2) (e:vl q=(n:Rat)+f) (f0:0<=f) (f1:f < 1):q.1 / q.2=n/\vl (bp q)=f:=by
 have a:=lC h;have b:=hW h;have c:=sr h;have key:q.1 / q.2=n:=by
  rcases Int.lt_trichotomy (q.1 / q.2) n with l | l | l
  . have:=(Rat.intCast_le_intCast (a:=q.1 / q.2+1) (b:=n)).mpr (by omega)
    rw [Rat.intCast_add] at this
    grind
  . exact l
  . have:=(Rat.intCast_le_intCast (a:=n+1) (b:=q.1 / q.2)).mpr (by omega)
    rw [Rat.intCast_add] at this
    grind
 refine ⟨key,?_⟩;rw [key] at a
 grind
theorem iD {q:Int×Int} (h:Lw q):bp q=(0,1) <-> vl (bp q)=0:=by
 constructor
 . intro e;rw [e,bB];rfl
 . intro e;exact fN (eS h) (q:=(0,1)) ⟨by decide,by decide⟩ (by rw [e,bB];rfl)
theorem ir {m:Int} {q:Int×Int} (h:0 < q.2):past m q=true <-> (m:Rat) < vl q:=by
 have:=lB (p:=(m,1)) (q:=q) (show (0:Int) < 1 by decide) h
 rw [bB] at this;rw [this];unfold past;simp
theorem qU {m:Int} {q:Int×Int} (h:0 < q.2):past m q=false <-> vl q<=(m:Rat):=by
 have:=ir (m:=m) h;constructor
 . intro e
   by_cases c:vl q<=(m:Rat)
   . exact c
   . have:=this.mpr (by grind)
     rw [e] at this;cases this
 . intro e;cases c:past m q with
   | false=>rfl
   | true =>
    have:=this.mp c
    grind
def co (q:Int×Int):Int×Int:=(q.2 - q.1 % q.2,q.2)
def lsF:Int×Int->List (Int×Int)->Int×Int
 | f,[]=>f
 | f,x :: xs=>lsF (if x.1*f.2 < f.1*x.2 then x else f) xs
theorem vd:∀ (xs:List (Int×Int)) (f:Int×Int),lsF f xs=f \/ lsF f xs∈xs
 | [],f=>.inl rfl
 | x :: xs,f=>by
  show lsF (if x.1*f.2 < f.1*x.2 then x else f) xs=f \/ lsF (if x.1*f.2 < f.1*x.2 then x else f) xs∈x :: xs
  rcases vd xs (if x.1*f.2 < f.1*x.2 then x else f) with h | h
  . rw [h];split
    . exact .inr Zi
    . exact .inl rfl
  . exact .inr (Zj _ h)
theorem yU:∀ (xs:List (Int×Int)) (f:Int×Int),0 < f.2->(∀ x∈xs,0 < x.2)->vl (lsF f xs)<=vl f/\∀ x∈xs,vl (lsF f xs)<=vl x
 | [],f,_,_=>⟨Rat.le_refl,fun _ m=>nomatch m⟩
 | x :: xs,f,hf,hx=>by
  have x0:=hx x Zi;show vl (lsF (if x.1*f.2 < f.1*x.2 then x else f) xs)<=vl f/\∀ y∈x :: xs,vl (lsF (if x.1*f.2 < f.1*x.2 then x else f) xs)<=vl y
  have ih:=yU xs (if x.1*f.2 < f.1*x.2 then x else f) (by split <;> assumption) fun y m=>hx y (Zj _ m)
  have c:=lB x0 hf
  by_cases g:x.1*f.2 < f.1*x.2
  . rw [if_pos g] at ih ⊢;have:=c.mpr g;refine ⟨by grind,fun y m=>?_⟩
    rcases Zn.mp m with e | e
    . rw [e];exact ih.1
    . exact ih.2 y e
  . rw [if_neg g] at ih ⊢;have:¬ vl x < vl f:=fun z=>g (c.mp z)
    refine ⟨ih.1,fun y m=>?_⟩
    rcases Zn.mp m with e | e
    . rw [e];grind
    . exact ih.2 y e
theorem uq {q:Int×Int} (h:0 < q.2):vl (co q)=1 - vl (bp q):=by
 unfold vl co bp;have:(1:Rat)=Rat.divInt 1 1:=by rw [di];rfl
 rw [this,Rat.divInt_sub_divInt _ _ (by omega) (by omega)]
 congr 1
 . omega
 . omega
theorem Fd {q:Int×Int} (h:Lw q):Lw (co q):=⟨h.pos,by
 have e:=(eS h).one;show gc (q.2 - q.1 % q.2) q.2=1;have e':gc (q.1 % q.2) q.2=1:=e;unfold gc at e' ⊢;rw [<- e',Int.gcd_comm,Int.gcd_comm (q.1 % q.2)];rw [Int.gcd_self_sub_right]⟩
theorem yW {q:Int×Int} {r:List (Int×Int)} (h:∀ x∈q :: r,Lw x):∃ x∈q :: r,lsF (co q) ((q :: r).map co)=co x/\∀ y∈q :: r,vl (bp y)<=vl (bp x):=by
 obtain ⟨x,mx,ex⟩:∃ x∈q :: r,lsF (co q) ((q :: r).map co)=co x:=by
  rcases vd ((q :: r).map co) (co q) with e | e
  . exact ⟨q,Zi,e⟩
  . obtain ⟨x,m,e⟩:=Zl.mp e;exact ⟨x,m,e.symm⟩
 refine ⟨x,mx,ex,fun y my=>?_⟩
 have:=(yU ((q :: r).map co) (co q) (h q Zi).pos fun z m=>by
  obtain ⟨z',m',e⟩:=Zl.mp m;rw [<- e];exact (h z' m').pos).2 (co y) (Zl.mpr ⟨y,my,rfl⟩)
 rw [ex,uq (h x mx).pos,uq (h y my).pos] at this
 grind
end Mth
set_option maxHeartbeats 4000000
namespace Mth
def pbm (step m:Int) (c:Int×Int):Int×Int:=if 0 < c.2 then (c.1,c.2+step) else if c.1 < m then (c.1,1) else (m+1,0)
def zbm (step:Int):List Int->List (Int×Int)->List (Int×Int)
 | m :: ms,c :: cs=>pbm step m c :: zbm step ms cs
 | _,_=>[]
def lvg:List Int->List (Int×Int)->Bool
 | m :: ms,c :: cs=>(decide (c.2=0) && decide (c.1 < m)) || lvg ms cs
 | _,_=>false
def bmo (ms:List Int) (cs:List (Int×Int)):List (Int×Int):=zbm (if lvg ms cs then 1 else 0) ms cs
structure Sml (q q':Int×Int) (d:Rat):Prop where
 lw:Lw q
 lw':Lw q'
 nn:0<=q.1
 e:vl q'=vl q+d
 d0:0 < d
 d1:vl (bp q)+d < 1
theorem Sml.at {q q':Int×Int} {d:Rat} (h:Sml q q' d):q'.1 / q'.2=q.1 / q.2/\vl (bp q')=vl (bp q)+d:=by
 have a:=lC h.lw.pos;have b:=hW h.lw.pos;have c:=h.d0;exact zC h.lw'.pos (by rw [h.e,a];grind) (by grind) h.d1
theorem Sml.past {q q':Int×Int} {d:Rat} {m:Int} (h:Sml q q' d):past m q'=(Mth.past m q || (decide (bp q=(0,1)) && decide (q.1 / q.2=m))):=by
 have p:=h.lw.pos;have p':=h.lw'.pos;have a:=lC p;have b:=hW p;have e:=h.e;have d0:=h.d0;have d1:=h.d1;cases c:Mth.past m q with
 | true =>
  have:=(ir p).mp c;rw [Bool.true_or];exact (ir p').mpr (by grind)
 | false =>
  have l:=(qU p).mp c;rw [Bool.false_or]
  by_cases z:bp q=(0,1)
  . have z':=(iD h.lw).mp z;rw [Zw z,Bool.true_and]
    by_cases y:q.1 / q.2=m
    . rw [Zw y];refine (ir p').mpr ?_;rw [e,a,z',y]
      grind
    . rw [Zv y];refine (qU p').mpr ?_;have:q.1 / q.2<=m:=by
       have:=oo p c;exact this
      have:=(Rat.intCast_le_intCast (a:=q.1 / q.2+1) (b:=m)).mpr (by omega)
      rw [Rat.intCast_add] at this;rw [e,a]
      grind
  . rw [Zv z,Bool.false_and];refine (qU p').mpr ?_;have nz:vl (bp q) ≠ 0:=fun y=>z ((iD h.lw).mpr y)
    have:q.1 / q.2 < m:=by
     have f:=oo p c;rcases Int.lt_or_eq_of_le f with g | g
     . exact g
     . rw [a,g] at l;exact absurd (show vl (bp q)=0 by grind) nz
    have:=(Rat.intCast_le_intCast (a:=q.1 / q.2+1) (b:=m)).mpr (by omega)
    rw [Rat.intCast_add] at this;rw [e,a]
    grind
theorem Bw {K:List Int} (h:1∈K):bN K 1=1:=by
 unfold bN;rw [yV];simp [h]
theorem zS (K:List Int):bN K 0=0:=by
 unfold bN;rw [yV];simp
structure Add (f:Int×Int->Int×Int) (d:Rat) (qs:List (Int×Int)):Prop where
 lw:∀ q∈qs,Lw q
 nn:∀ q∈qs,0<=q.1
 lw':∀ q∈qs,Lw (f q)
 e:∀ q∈qs,vl (f q)=vl q+d
 d0:0 < d
theorem Add.tail {f:Int×Int->Int×Int} {d:Rat} {q:Int×Int} {qs:List (Int×Int)} (h:Add f d (q :: qs)):Add f d qs :=
 ⟨fun x m=>h.lw x (Zj _ m),fun x m=>h.nn x (Zj _ m),fun x m=>h.lw' x (Zj _ m),fun x m=>h.e x (Zj _ m),h.d0⟩
theorem Add.past {f:Int×Int->Int×Int} {d:Rat} {qs:List (Int×Int)} {q:Int×Int} {m:Int} (h:Add f d qs) (mq:q∈qs) (p:Mth.past m q=true):Mth.past m (f q)=true:=by
 have a:=(ir (h.lw q mq).pos).mp p;have b:=h.e q mq;have c:=h.d0;exact (ir (h.lw' q mq).pos).mpr (by grind)
theorem Add.sml {f:Int×Int->Int×Int} {d:Rat} {qs:List (Int×Int)} {q:Int×Int} (h:Add f d qs) (mq:q∈qs) (l:vl (bp q)+d < 1):Sml q (f q) d:=⟨h.lw q mq,h.lw' q mq,h.nn q mq,h.e q mq,h.d0,l⟩
def up1 (t:Int):Int:=t+1
theorem fj {f:Int×Int->Int×Int} {g:Int->Int} {d:Rat}:∀ (ms:List Int) (qs:List (Int×Int)) (ts:List Int),Add f d qs->∀ z∈wk ms (qs.map f) (ts.map g),∃ y∈wk ms qs ts,z=(f y.1,g y.2)
 | [],_,_,_,z,h=>by simp [wk] at h
 | _ :: _,[],_,_,z,h=>by simp [wk] at h
 | _ :: _,_ :: _,[],_,z,h=>by simp [wk] at h
 | m :: ms,q :: qs,t :: ts,A,z,h=>by
  have h':z∈(if past m (f q) then wk ms (qs.map f) (ts.map g) else (f q,g t) :: wk ms (qs.map f) (ts.map g)):=h
  show ∃ y∈(if past m q then wk ms qs ts else (q,t) :: wk ms qs ts),z=(f y.1,g y.2)
  have tail:z∈wk ms (qs.map f) (ts.map g)->∃ y∈(if past m q then wk ms qs ts else (q,t) :: wk ms qs ts),z=(f y.1,g y.2):=fun k=>by
   obtain ⟨y,my,e⟩:=fj ms qs ts A.tail z k;refine ⟨y,?_,e⟩;split
   . exact my
   . exact Zj _ my
  split at h'
  . exact tail h'
  . rename_i np;rcases Zn.mp h' with e | e
    . have:¬ past m q=true:=fun p=>np (A.past Zi p)
      rw [if_neg this];exact ⟨(q,t),Zi,e⟩
    . exact tail e
theorem sE {f:Int×Int->Int×Int} {g:Int->Int} {d:Rat}:∀ (ms:List Int) (qs:List (Int×Int)) (ts:List Int),Add f d qs->∀ y∈wk ms qs ts,(∀ m,past m y.1=false->past m (f y.1)=false)->(f y.1,g y.2)∈wk ms (qs.map f) (ts.map g)
 | [],_,_,_,y,h,_=>by simp [wk] at h
 | _ :: _,[],_,_,y,h,_=>by simp [wk] at h
 | _ :: _,_ :: _,[],_,y,h,_=>by simp [wk] at h
 | m :: ms,q :: qs,t :: ts,A,y,h,k=>by
  have h':y∈(if past m q then wk ms qs ts else (q,t) :: wk ms qs ts):=h
  show (f y.1,g y.2)∈(if past m (f q) then wk ms (qs.map f) (ts.map g) else (f q,g t) :: wk ms (qs.map f) (ts.map g))
  have tail:y∈wk ms qs ts->(f y.1,g y.2)∈(if past m (f q) then wk ms (qs.map f) (ts.map g) else (f q,g t) :: wk ms (qs.map f) (ts.map g)):=fun z=>by
   have:=sE (g:=g) ms qs ts A.tail y z k;split
   . exact this
   . exact Zj _ this
  split at h'
  . exact tail h'
  . rename_i np;rcases Zn.mp h' with e | e
    . subst e;have:=k m (by simpa using np)
      rw [if_neg (by rw [this];exact Zs)]
      exact Zi
    . exact tail e
theorem ET {step m x:Int}:pbm step m (x,0)=if x < m then (x,1) else (m+1,0):=if_neg (by show ¬ (0:Int) < 0;decide)
theorem ES {step m x t:Int} (h:0 < t):pbm step m (x,t)=(x,t+step):=if_pos h
theorem vX {f:Int×Int->Int×Int} {d:Rat} {K K':List Int} {step:Int}:∀ (ms:List Int) (qs:List (Int×Int)) (ts:List Int),qs.length=ts.length->Add f d qs->(∀ z∈wk ms qs ts,vl (bp z.1)+d < 1)->(∀ z∈wk ms qs ts,(bN K z.2:Int)=z.2/\0<=z.2)->(∀ z∈wk ms qs ts,bp z.1=(0,1) <-> z.2=0) ->
 (∀ z∈wk ms qs ts,z.2 ≠ 0->(bN K' (z.2+1):Int)=z.2+step)->(∀ z∈wk ms (qs.map f) (ts.map up1),z.2∈K')->ck K' ms (qs.map f) (ts.map up1)=zbm step ms (ck K ms qs ts)
 | [],_,_,_,_,_,_,_,_,_=>by simp [ck,zbm]
 | _ :: _,[],_,_,_,_,_,_,_,_=>by simp [ck,zbm]
 | _ :: _,_ :: _,[],l,_,_,_,_,_,_=>by simp at l
 | m :: ms,q :: qs,t :: ts,l,A,hk,own,ze,c1,sub=>by
  have unf:wk (m :: ms) (q :: qs) (t :: ts)=if past m q then wk ms qs ts else (q,t) :: wk ms qs ts:=rfl
  have unf':wk (m :: ms) ((q :: qs).map f) ((t :: ts).map up1)=if past m (f q) then wk ms (qs.map f) (ts.map up1) else (f q,t+1) :: wk ms (qs.map f) (ts.map up1):=rfl
  have inn:∀ z∈wk ms qs ts,z∈wk (m :: ms) (q :: qs) (t :: ts):=fun z h=>by
   rw [unf];split
   . exact h
   . exact Zj _ h
  have inn':∀ z∈wk ms (qs.map f) (ts.map up1),z∈wk (m :: ms) ((q :: qs).map f) ((t :: ts).map up1):=fun z h=>by
   rw [unf'];split
   . exact h
   . exact Zj _ h
  have ih:=vX (K:=K) (K':=K') (step:=step) ms qs ts (by simpa using l) A.tail (fun z h=>hk z (inn z h)) (fun z h=>own z (inn z h)) (fun z h=>ze z (inn z h)) (fun z h=>c1 z (inn z h)) (fun z h=>sub z (inn' z h))
  show (if past m (f q) then (m+1,0) else ((f q).1 / (f q).2,(bN K' (t+1):Int))) :: ck K' ms (qs.map f) (ts.map up1)=pbm step m (if past m q then (m+1,0) else (q.1 / q.2,(bN K t:Int))) :: zbm step ms (ck K ms qs ts)
  rw [ih]
  congr 1
  by_cases p:past m q=true
  . rw [if_pos p,if_pos (A.past Zi p)];unfold pbm;rw [if_neg (by show ¬ (0:Int) < 0;decide),if_neg (by show ¬ m+1 < m;omega)]
  . have mz:(q,t)∈wk (m :: ms) (q :: qs) (t :: ts):=by
     rw [unf,if_neg p];exact Zi
    have hk':=hk (q,t) mz;dsimp only at hk';have S:=A.sml Zi hk';obtain ⟨fl,_⟩:=S.at
    have pp:=S.past (m:=m);have pf:past m q=false:=by simpa using p
    obtain ⟨o,o0⟩:=own _ mz;have o':(bN K t:Int)=t:=o;have o0':0<=t:=o0;rw [pf,Bool.false_or] at pp;rw [if_neg p,o',fl,pp];have z:=ze _ mz
    by_cases t0:t=0
    . have b0:bp q=(0,1):=z.mpr t0;subst t0;rw [ET,Zw b0,Bool.true_and];have fle:q.1 / q.2<=m:=oo (A.lw q Zi).pos pf
      by_cases em:q.1 / q.2=m
      . rw [if_pos (by rw [Zw em]),if_neg (by omega)]
      . rw [if_neg (by rw [Zv em];exact Zs),if_pos (by omega)]
        have np':¬ past m (f q)=true:=by
         rw [pp,Zw b0,Zv em];exact Zs
        have:(0:Int)+1∈K':=sub (f q,0+1) (by rw [unf',if_neg np'];exact Zi)
        rw [show (0:Int)+1=1 by decide] at this ⊢
        rw [Bw this];rfl
    . have b0:bp q ≠ (0,1):=fun e=>t0 (z.mp e)
      rw [Zv b0,Bool.false_and,if_neg Zs,ES (by omega)]
      rw [show (bN K' (t+1):Int)=t+step from c1 _ mz t0]
theorem rj {f:Int×Int->Int×Int} {d:Rat} {K:List Int}:∀ (ms:List Int) (qs:List (Int×Int)) (ts:List Int),qs.length=ts.length->Add f d qs->(∀ z∈wk ms qs ts,vl (bp z.1)+d < 1)->(∀ z∈wk ms qs ts,(bN K z.2:Int)=z.2/\0<=z.2)->(∀ z∈wk ms qs ts,bp z.1=(0,1) <-> z.2=0) ->
 (lvg ms (ck K ms qs ts)=true <-> 1∈(wk ms (qs.map f) (ts.map up1)).map (·.2))
 | [],_,_,_,_,_,_,_=>by simp [ck,lvg,wk]
 | _ :: _,[],_,_,_,_,_,_=>by simp [ck,lvg,wk]
 | _ :: _,_ :: _,[],l,_,_,_,_=>by simp at l
 | m :: ms,q :: qs,t :: ts,l,A,hk,own,ze=>by
  have unf:wk (m :: ms) (q :: qs) (t :: ts)=if past m q then wk ms qs ts else (q,t) :: wk ms qs ts:=rfl
  have unf':wk (m :: ms) ((q :: qs).map f) ((t :: ts).map up1)=if past m (f q) then wk ms (qs.map f) (ts.map up1) else (f q,t+1) :: wk ms (qs.map f) (ts.map up1):=rfl
  have inn:∀ z∈wk ms qs ts,z∈wk (m :: ms) (q :: qs) (t :: ts):=fun z h=>by
   rw [unf];split
   . exact h
   . exact Zj _ h
  have ih:=rj (K:=K) ms qs ts (by simpa using l) A.tail (fun z h=>hk z (inn z h)) (fun z h=>own z (inn z h)) (fun z h=>ze z (inn z h))
  show ((decide ((if past m q then (m+1,0) else (q.1 / q.2,(bN K t:Int))).2=0) && decide ((if past m q then (m+1,0) else (q.1 / q.2,(bN K t:Int))).1 < m)) || lvg ms (ck K ms qs ts))=true <-> _
  rw [unf',Bool.or_eq_true,ih]
  by_cases p:past m q=true
  . rw [if_pos p,if_pos (A.past Zi p)];have:(decide ((m+1,(0:Int)).2=0) && decide ((m+1,(0:Int)).1 < m))=false:=by
     rw [Zv (show ¬ m+1 < m by omega),Bool.and_false]
    rw [this];simp
  . have mz:(q,t)∈wk (m :: ms) (q :: qs) (t :: ts):=by
     rw [unf,if_neg p];exact Zi
    have hk':=hk (q,t) mz;dsimp only at hk';have S:=A.sml Zi hk';have pp:=S.past (m:=m);have pf:past m q=false:=by simpa using p
    have o':(bN K t:Int)=t:=(own _ mz).1;have fle:q.1 / q.2<=m:=oo (A.lw q Zi).pos pf;rw [pf,Bool.false_or] at pp;rw [if_neg p,o',pp];have z:=ze _ mz;dsimp only at z
    by_cases t0:t=0
    . have b0:bp q=(0,1):=z.mpr t0;rw [Zw b0,Bool.true_and,Zw t0,Bool.true_and]
      by_cases em:q.1 / q.2=m
      . rw [if_pos (by rw [Zw em]),Zv (by omega)]
        simp
      . rw [if_neg (by rw [Zv em];exact Zs),Zw (by omega)]
        rw [t0];simp
    . have b0:bp q ≠ (0,1):=fun e=>t0 (z.mp e)
      rw [Zv b0,Bool.false_and,if_neg Zs,Zv t0,Bool.false_and];have:¬ (1:Int)=t+1:=by omega
      simp [this]
theorem w8 {K K':List Int} {t:Int} (t1:1<=t) (t3:t<=3) (h:∀ j:Int,1<=j->j<=3->(j+1∈K' <-> j∈K)):(bN K' (t+1):Int)=(bN K t:Int)+(if 1∈K' then 1 else 0):=by
 unfold bN;rw [yV,yV];have h1:=h 1 (by decide) (by decide)
 have h2:=h 2 (by decide) (by decide)
 have h3:=h 3 (by decide) (by decide)
 rw [show (1:Int)+1=2 by decide] at h1
 rw [show (2:Int)+1=3 by decide] at h2
 rw [show (3:Int)+1=4 by decide] at h3
 have c:t=1 \/ t=2 \/ t=3:=by omega
 simp only [h1,h2,h3];rcases c with rfl | rfl | rfl <;> by_cases a0:(1:Int)∈K' <;> by_cases a1:(1:Int)∈K <;> by_cases a2:(2:Int)∈K <;> by_cases a3:(3:Int)∈K <;> simp [a0,a1,a2,a3]
theorem B3:∀ (l K:List Int),l.Nodup->l ⊆ K->l.length<=K.length
 | [],_,_,_=>Nat.zero_le _
 | x :: l,K,h,s=>by
  have hx:=List.nodup_cons.mp h;have mx:x∈K:=s Zi;have:=B3 l (K.erase x) hx.2 fun y my=>(List.mem_erase_of_ne (a:=y) (b:=x) (fun e=>hx.1 (by rw [<- e];exact my))).mpr (s (Zj _ my))
  rw [List.length_erase_of_mem mx] at this;have:=List.length_pos_of_mem mx;simp only [Zh];omega
theorem wK {K:List Int} (l:K.length<=4) (h0:0∈K) (h:bN K 4=4):False:=by
 unfold bN at h;rw [yV] at h;obtain ⟨m1,m2,m3,m4⟩:(1:Int)∈K/\(2:Int)∈K/\(3:Int)∈K/\(4:Int)∈K:=by
  by_cases a1:(1:Int)∈K <;> by_cases a2:(2:Int)∈K <;> by_cases a3:(3:Int)∈K <;> by_cases a4:(4:Int)∈K <;> simp [a1,a2,a3,a4] at h ⊢
 have sub:([0,1,2,3,4]:List Int) ⊆ K:=fun x m=>by
  simp only [Zn,Zz,or_false] at m;rcases m with rfl | rfl | rfl | rfl | rfl <;> assumption
 have:=B3 ([0,1,2,3,4]:List Int) K (by decide) sub
 simp only [Zh,List.length_nil] at this;omega
theorem xm:∀ (ms:List Int) (qs:List (Int×Int)) (ts:List Int),(wk ms qs ts).length<=qs.length
 | [],_,_=>by simp [wk]
 | _ :: _,[],_=>by simp [wk]
 | _ :: _,_ :: _,[]=>by simp [wk]
 | m :: ms,q :: qs,t :: ts=>by
  have:=xm ms qs ts;show (if past m q then wk ms qs ts else (q,t) :: wk ms qs ts).length<=qs.length+1
  split
  . omega
  . simp only [Zh];omega
theorem oa {p q:Int×Int} (hp:0 < p.2) (hq:0 < q.2):(bp p).1*(bp q).2<=(bp q).1*(bp p).2 <-> vl (bp p)<=vl (bp q):=(uo (p:=bp p) (q:=bp q) hp hq).symm
theorem DV {ms:List Int} {qs:List (Int×Int)} {f:Int×Int->Int×Int} {d:Rat} (hl:ms.length=qs.length) (t:∀ q∈qs,Tw q) (l4:qs.length<=4) (A:Add f d qs) (tf:∀ q∈qs,Tw (f q)) (hk:∀ q∈wi ms qs,vl (bp q)+d < 1) (mo:∃ q∈wi ms qs,bp q=(0,1)) :
 cel ms (qs.map f)=bmo ms (cel ms qs):=by
 have N:=kn hl t l4;obtain ⟨ts,hts⟩:∃ ts,ts=(cel ms qs).map (·.2):=⟨_,rfl⟩;rw [<- hts] at N;have fst:∀ z∈wk ms qs ts,z.1∈wi ms qs:=fun z m=>by
  rw [<- gL ms qs ts N.len];exact Zl.mpr ⟨z,m,rfl⟩
 have hk':∀ z∈wk ms qs ts,vl (bp z.1)+d < 1:=fun z m=>hk z.1 (fst z m)
 have own:∀ z∈wk ms qs ts,(bN ((wk ms qs ts).map (·.2)) z.2:Int)=z.2/\0<=z.2:=fun z m=>⟨N.own z m,(N.W.rg z m).1⟩
 have h0:(0:Int)∈(wk ms qs ts).map (·.2):=by
  obtain ⟨q,mq,e⟩:=mo;rw [<- gL ms qs ts N.len] at mq;obtain ⟨z,mz,rfl⟩:=Zl.mp mq;exact Zl.mpr ⟨z,mz,(N.W.ze z mz).mp e⟩
 have le3:∀ z∈wk ms qs ts,z.2<=3:=fun z m=>by
  have r:=(N.W.rg z m).2
  by_cases c:z.2=4
  . have o:=(own z m).1;rw [c] at o;exact (wK (by rw [Zg];have:=xm ms qs ts;omega) h0 (by omega)).elim
  . omega
 have inq:∀ z∈wk ms qs ts,z.1∈qs:=fun z m=>(ly ms qs ts m).1
 have stay:∀ z∈wk ms qs ts,z.2 ≠ 0->∀ m,past m z.1=false->past m (f z.1)=false:=fun z mz n m p=>by
  have S:=A.sml (inq z mz) (hk' z mz);rw [S.past,p,Bool.false_or,Zv fun e=>n ((N.W.ze z mz).mp e),Bool.false_and]
 have W':Wp (wk ms (qs.map f) (ts.map up1)):=by
  refine ⟨fun z' m'=>?_,fun z' m'=>?_,fun z' m'=>?_,fun y' my' z' mz'=>?_⟩
  . obtain ⟨z,m,rfl⟩:=fj ms qs ts A z' m';exact tf z.1 (inq z m)
  . obtain ⟨z,m,rfl⟩:=fj ms qs ts A z' m';have a:=(N.W.rg z m).1;have b:=le3 z m;exact ⟨by show 0<=z.2+1;omega,by show z.2+1<=4;omega⟩
  . obtain ⟨z,m,rfl⟩:=fj ms qs ts A z' m';have S:=A.sml (inq z m) (hk' z m);have a:=(N.W.rg z m).1;constructor
    . intro e;have:=(iD S.lw').mp e;rw [S.at.2] at this;have:=hW S.lw.pos;have:=S.d0
      grind
    . intro e;have e':z.2+1=0:=e;omega
  . obtain ⟨y,my,rfl⟩:=fj ms qs ts A y' my';obtain ⟨z,mz,rfl⟩:=fj ms qs ts A z' mz';have S:=A.sml (inq y my) (hk' y my);have R:=A.sml (inq z mz) (hk' z mz);show (bp (f y.1)).1*(bp (f z.1)).2<=(bp (f z.1)).1*(bp (f y.1)).2 <-> y.2+1<=z.2+1;rw [oa S.lw'.pos R.lw'.pos,S.at.2,R.at.2];have o:=N.W.le y my z mz;rw [oa S.lw.pos R.lw.pos] at o;constructor
    . intro h;have:=o.mp (by grind)
      omega
    . intro h;have:=o.mpr (by omega)
      grind
 have len':(qs.map f).length=(ts.map up1).length:=by rw [Zg,Zg];exact N.len
 rw [mV len' W',N.is];unfold bmo;have lv:=rj (f:=f) (d:=d) (K:=(wk ms qs ts).map (·.2)) ms qs ts N.len A hk' own (fun z m=>N.W.ze z m)
 refine vX (d:=d) ms qs ts N.len A hk' own (fun z m=>N.W.ze z m) (fun z m n=>?_) fun z m=>Zl.mpr ⟨z,m,rfl⟩
 have a:=(N.W.rg z m).1;have:=w8 (K:=(wk ms qs ts).map (·.2)) (K':=(wk ms (qs.map f) (ts.map up1)).map (·.2)) (t:=z.2) (by omega) (le3 z m) fun j j1 j3=>by
  constructor
  . intro h;obtain ⟨z',m',e⟩:=Zl.mp h;obtain ⟨y,my,rfl⟩:=fj ms qs ts A z' m';have e':y.2+1=j+1:=e;exact Zl.mpr ⟨y,my,by omega⟩
  . intro h;obtain ⟨y,my,e⟩:=Zl.mp h;have e':y.2=j:=e;exact Zl.mpr ⟨_,sE (g:=up1) ms qs ts A y my (stay y my (by omega)),by show y.2+1=j+1;omega⟩
 rw [this,(own z m).1]
 congr 1
 by_cases c:(1:Int)∈(wk ms (qs.map f) (ts.map up1)).map (·.2)
 . rw [if_pos c,if_pos (lv.mpr c)]
 . rw [if_neg c,if_neg fun h=>c (lv.mp h)]
end Mth
set_option maxHeartbeats 4000000
namespace Mth
theorem zR {K K':List Int} {t:Int} (h:∀ j:Int,1<=j->j<=t->(j∈K' <-> j∈K)):bN K' t=bN K t:=by
 unfold bN
 congr 1
 apply List.filter_congr
 intro j mj
 by_cases c:j<=t
 . have:1<=j:=by
    simp only [Zn,Zz,or_false] at mj;omega
   simp only [h j this c]
 . rw [Zv c,Bool.and_false,Bool.and_false]
theorem xw {q q':Int×Int} {d:Rat} (p:0 < q.2) (p':0 < q'.2) (e:vl q'=vl q+d) (h:vl (bp q)+d=1):q'.1 / q'.2=q.1 / q.2+1/\vl (bp q')=0:=by
 have a:=lC p;refine zC p' ?_ (by grind) (by grind)
 rw [e,a,Rat.intCast_add]
 grind
theorem mE {q q':Int×Int} {d:Rat} {m:Int} (l:Lw q) (p':0 < q'.2) (e:vl q'=vl q+d) (h:vl (bp q)+d<=1) (nz:bp q ≠ (0,1)) (np:past m q=false):past m q'=false:=by
 have p:=l.pos;have a:=lC p;have f:=oo p np;have g:=(qU p).mp np;have nz':vl (bp q) ≠ 0:=fun y=>nz ((iD l).mpr y)
 have b:=hW p;have lt:q.1 / q.2 < m:=by
  rcases Int.lt_or_eq_of_le f with g' | g'
  . exact g'
  . rw [a,g'] at g;exact absurd (show vl (bp q)=0 by grind) nz'
 have:=(Rat.intCast_le_intCast (a:=q.1 / q.2+1) (b:=m)).mpr (by omega)
 rw [Rat.intCast_add] at this;refine (qU p').mpr ?_;rw [e,a]
 grind
def dn (L t:Int):Int:=if t=L then 0 else t
def stp (L:Int) (c:Int×Int):Int×Int:=if c.2=L then (c.1+1,0) else c
theorem ut {f:Int×Int->Int×Int} {d:Rat} {K K':List Int} {L:Int} (L0:0 < L):∀ (ms:List Int) (qs:List (Int×Int)) (ts:List Int),qs.length=ts.length->Add f d qs->(∀ z∈wk ms qs ts,bp z.1 ≠ (0,1))->(∀ z∈wk ms qs ts,if z.2=L then vl (bp z.1)+d=1 else vl (bp z.1)+d < 1)->(∀ z∈wk ms qs ts,(bN K z.2:Int)=z.2) ->
 (∀ z∈wk ms qs ts,z.2 ≠ L->(bN K' z.2:Int)=z.2)->ck K' ms (qs.map f) (ts.map (dn L))=(ck K ms qs ts).map (stp L)
 | [],_,_,_,_,_,_,_,_=>by simp [ck]
 | _ :: _,[],_,_,_,_,_,_,_=>by simp [ck]
 | _ :: _,_ :: _,[],l,_,_,_,_,_=>by simp at l
 | m :: ms,q :: qs,t :: ts,l,A,nz,hk,own,c1=>by
  have unf:wk (m :: ms) (q :: qs) (t :: ts)=if past m q then wk ms qs ts else (q,t) :: wk ms qs ts:=rfl
  have inn:∀ z∈wk ms qs ts,z∈wk (m :: ms) (q :: qs) (t :: ts):=fun z h=>by
   rw [unf];split
   . exact h
   . exact Zj _ h
  have ih:=ut (K:=K) (K':=K') L0 ms qs ts (by simpa using l) A.tail (fun z h=>nz z (inn z h)) (fun z h=>hk z (inn z h)) (fun z h=>own z (inn z h)) (fun z h=>c1 z (inn z h))
  show (if past m (f q) then (m+1,0) else ((f q).1 / (f q).2,(bN K' (dn L t):Int))) :: ck K' ms (qs.map f) (ts.map (dn L))=stp L (if past m q then (m+1,0) else (q.1 / q.2,(bN K t:Int))) :: (ck K ms qs ts).map (stp L)
  rw [ih]
  congr 1
  by_cases p:past m q=true
  . rw [if_pos p,if_pos (A.past Zi p)];unfold stp;rw [if_neg (by show ¬ (0:Int)=L;omega)]
  . have mz:(q,t)∈wk (m :: ms) (q :: qs) (t :: ts):=by
     rw [unf,if_neg p];exact Zi
    have pf:past m q=false:=by simpa using p
    have hk':=hk (q,t) mz;have nz':=nz (q,t) mz;have o':(bN K t:Int)=t:=own _ mz;dsimp only at hk' nz';have lq:=A.lw q Zi;have lq':=A.lw' q Zi;have eq:=A.e q Zi;have st:past m (f q)=false:=mE lq lq'.pos eq (by split at hk' <;> grind) nz' pf
    rw [if_neg p,if_neg (by rw [st];exact Zs),o']
    unfold stp dn
    by_cases c:t=L
    . rw [if_pos c] at hk' ⊢;rw [if_pos c,(xw lq.pos lq'.pos eq hk').1,zS];rfl
    . rw [if_neg c] at hk' ⊢;have S:=A.sml Zi hk';rw [if_neg c,S.at.1,show (bN K' t:Int)=t from c1 _ mz c]
theorem ql {K:List Int}:∀ (ms:List Int) (qs:List (Int×Int)) (ts:List Int),∀ c∈ck K ms qs ts,c.2=0 \/ ∃ z∈wk ms qs ts,c.2=(bN K z.2:Int)
 | [],_,_,c,h=>by simp [ck] at h
 | _ :: _,[],_,c,h=>by simp [ck] at h
 | _ :: _,_ :: _,[],c,h=>by simp [ck] at h
 | m :: ms,q :: qs,t :: ts,c,h=>by
  rcases Zn.mp (show c∈(if past m q then (m+1,0) else (q.1 / q.2,(bN K t:Int))) :: ck K ms qs ts from h) with e | e
  . by_cases p:past m q=true
    . rw [if_pos p] at e;exact .inl (by rw [e])
    . rw [if_neg p] at e;refine .inr ⟨(q,t),?_,by rw [e]⟩
      show (q,t)∈(if past m q then wk ms qs ts else (q,t) :: wk ms qs ts)
      rw [if_neg p];exact Zi
  . rcases ql ms qs ts c e with h | ⟨z,mz,h⟩
    . exact .inl h
    . refine .inr ⟨z,?_,h⟩;show z∈(if past m q then wk ms qs ts else (q,t) :: wk ms qs ts)
      split
      . exact mz
      . exact Zj _ mz
theorem Co {ms:List Int} {qs:List (Int×Int)} {f:Int×Int->Int×Int} {d:Rat} {x:Int×Int} (hl:ms.length=qs.length) (t:∀ q∈qs,Tw q) (l4:qs.length<=4) (A:Add f d qs) (tf:∀ q∈qs,Tw (f q)) (mx:x∈wi ms qs) (gr:∀ q∈wi ms qs,vl (bp q)<=vl (bp x)) (ed:d=1 - vl (bp x)) (nz:∀ q∈wi ms qs,bp q ≠ (0,1)) :
 ∃ L,0 < L/\cel ms (qs.map f)=(cel ms qs).map (stp L)/\L∈(cel ms qs).map (·.2)/\∀ r∈(cel ms qs).map (·.2),r<=L:=by
 have N:=kn hl t l4;obtain ⟨ts,hts⟩:∃ ts,ts=(cel ms qs).map (·.2):=⟨_,rfl⟩;rw [<- hts] at N ⊢;have fst:∀ z∈wk ms qs ts,z.1∈wi ms qs:=fun z m=>by
  rw [<- gL ms qs ts N.len];exact Zl.mpr ⟨z,m,rfl⟩
 obtain ⟨zx,mzx,ex⟩:∃ z∈wk ms qs ts,z.1=x:=by
  rw [<- gL ms qs ts N.len] at mx;obtain ⟨z,mz,e⟩:=Zl.mp mx;exact ⟨z,mz,e⟩
 have inq:∀ z∈wk ms qs ts,z.1∈qs:=fun z m=>(ly ms qs ts m).1
 have lw:∀ z∈wk ms qs ts,Lw z.1:=fun z m=>A.lw z.1 (inq z m)
 have nz':∀ z∈wk ms qs ts,bp z.1 ≠ (0,1):=fun z m=>nz z.1 (fst z m)
 have pos:∀ z∈wk ms qs ts,0 < z.2:=fun z m=>by
  have a:=(N.W.rg z m).1;have b:z.2 ≠ 0:=fun e=>nz' z m ((N.W.ze z m).mpr e)
  omega
 have leL:∀ z∈wk ms qs ts,z.2<=zx.2:=fun z m=>(N.W.le z m zx mzx).mp ((oa (lw z m).pos (lw zx mzx).pos).mpr (by rw [ex];exact gr z.1 (fst z m)))
 have cas:∀ z∈wk ms qs ts,if z.2=zx.2 then vl (bp z.1)+d=1 else vl (bp z.1)+d < 1:=fun z m=>by
  have a:=gr z.1 (fst z m);have o:=N.W.le zx mzx z m;rw [oa (lw zx mzx).pos (lw z m).pos,ex] at o;split
  . rename_i c;have:=o.mpr (by omega)
    grind
  . rename_i c;have l:=leL z m;have:¬ vl (bp x)<=vl (bp z.1):=fun h=>c (by have:=o.mp h;omega)
    grind
 have stay:∀ z∈wk ms qs ts,∀ m,past m z.1=false->past m (f z.1)=false:=fun z mz m p =>
  mE (lw z mz) (A.lw' z.1 (inq z mz)).pos (A.e z.1 (inq z mz)) (by have:=cas z mz;split at this <;> grind) (nz' z mz) p
 have bpv:∀ z∈wk ms qs ts,vl (bp (f z.1))=if z.2=zx.2 then 0 else vl (bp z.1)+d:=fun z m=>by
  have c:=cas z m;split at c
  . rename_i e;rw [if_pos e];exact (xw (lw z m).pos (A.lw' z.1 (inq z m)).pos (A.e z.1 (inq z m)) c).2
  . rename_i e;rw [if_neg e];exact (A.sml (inq z m) c).at.2
 have d0:=A.d0;have W':Wp (wk ms (qs.map f) (ts.map (dn zx.2))):=by
  refine ⟨fun z' m'=>?_,fun z' m'=>?_,fun z' m'=>?_,fun y' my' z' mz'=>?_⟩
  . obtain ⟨z,m,rfl⟩:=fj ms qs ts A z' m';exact tf z.1 (inq z m)
  . obtain ⟨z,m,rfl⟩:=fj ms qs ts A z' m';have a:=N.W.rg z m;show 0<=dn zx.2 z.2/\dn zx.2 z.2<=4;unfold dn;split
    . decide
    . exact a
  . obtain ⟨z,m,rfl⟩:=fj ms qs ts A z' m';have a:=pos z m;have b:=hW (lw z m).pos;show bp (f z.1)=(0,1) <-> dn zx.2 z.2=0;rw [iD (A.lw' z.1 (inq z m)),bpv z m];unfold dn;split
    . simp
    . constructor
      . intro e;grind
      . intro e;omega
  . obtain ⟨y,my,rfl⟩:=fj ms qs ts A y' my';obtain ⟨z,mz,rfl⟩:=fj ms qs ts A z' mz';show (bp (f y.1)).1*(bp (f z.1)).2<=(bp (f z.1)).1*(bp (f y.1)).2 <-> dn zx.2 y.2<=dn zx.2 z.2;rw [oa (A.lw' y.1 (inq y my)).pos (A.lw' z.1 (inq z mz)).pos,bpv y my,bpv z mz];have o:=N.W.le y my z mz;rw [oa (lw y my).pos (lw z mz).pos] at o;have a:=pos y my;have b:=pos z mz;have p:=hW (lw y my).pos;have q:=hW (lw z mz).pos;unfold dn
    by_cases c1:y.2=zx.2 <;> by_cases c2:z.2=zx.2
    . rw [if_pos c1,if_pos c2,if_pos c1,if_pos c2];simp
    . rw [if_pos c1,if_neg c2,if_pos c1,if_neg c2];exact ⟨fun _=>by omega,fun _=>by grind⟩
    . rw [if_neg c1,if_pos c2,if_neg c1,if_pos c2];exact ⟨fun h=>by grind,fun h=>by omega⟩
    . rw [if_neg c1,if_neg c2,if_neg c1,if_neg c2];exact ⟨fun h=>o.mp (by grind),fun h=>by have:=o.mpr h;grind⟩
 have len':(qs.map f).length=(ts.map (dn zx.2)).length:=by rw [Zg,Zg];exact N.len
 refine ⟨zx.2,pos zx mzx,?_,(ly ms qs ts mzx).2,fun r mr=>?_⟩
 . rw [mV len' W',N.is];refine ut (d:=d) (pos zx mzx) ms qs ts N.len A nz' cas (fun z m=>N.own z m) fun z m n=>?_
   rw [zR (K:=(wk ms qs ts).map (·.2)) fun j j1 jt=>?_]
   . exact N.own z m
   . have l:=leL z m;constructor
     . intro h;obtain ⟨z',m',e⟩:=Zl.mp h;obtain ⟨y,my,rfl⟩:=fj ms qs ts A z' m';have e':dn zx.2 y.2=j:=e;unfold dn at e';split at e'
       . omega
       . exact Zl.mpr ⟨y,my,e'⟩
     . intro h;obtain ⟨y,my,e⟩:=Zl.mp h;have e':y.2=j:=e;refine Zl.mpr ⟨_,sE (g:=dn zx.2) ms qs ts A y my (stay y my),?_⟩;show dn zx.2 y.2=j;unfold dn;rw [if_neg (by omega)]
       exact e'
 . rw [hts] at mr;obtain ⟨c,mc,rfl⟩:=Zl.mp mr;rw [N.is] at mc;have p0:=pos zx mzx;rcases ql ms qs ts c mc with e | ⟨z,mz,e⟩
   . rw [e];omega
   . rw [e,N.own z mz];exact leL z mz
end Mth
set_option maxHeartbeats 4000000
namespace Mth
def dH (rs:List Int):Int:=((fu (0 :: rs)).getLast?).getD 0
theorem mD {rs:List Int} {L:Int} (l0:0<=L) (l4:L<=4) (h:L=0 \/ L∈rs) (k:∀ r∈rs,r<=L):dH rs=L:=by
 unfold dH;rw [qA,zD];have n:∀ j:Int,L < j->¬ j∈rs:=fun j lj m=>by have:=k j m;omega
 have c:L=0 \/ L=1 \/ L=2 \/ L=3 \/ L=4:=by omega
 rcases c with rfl | rfl | rfl | rfl | rfl
 . simp [n 1 (by decide),n 2 (by decide),n 3 (by decide),n 4 (by decide)]
 . have:(1:Int)∈rs:=h.resolve_left (by decide)
   simp [this,n 2 (by decide),n 3 (by decide),n 4 (by decide)]
 . have:(2:Int)∈rs:=h.resolve_left (by decide)
   by_cases a1:(1:Int)∈rs <;> simp [this,a1,n 3 (by decide),n 4 (by decide)]
 . have:(3:Int)∈rs:=h.resolve_left (by decide)
   by_cases a1:(1:Int)∈rs <;> by_cases a2:(2:Int)∈rs <;> simp [this,a1,a2,n 4 (by decide)]
 . have:(4:Int)∈rs:=h.resolve_left (by decide)
   by_cases a1:(1:Int)∈rs <;> by_cases a2:(2:Int)∈rs <;> by_cases a3:(3:Int)∈rs <;> simp [this,a1,a2,a3]
def nxt (ms:List Int) (cs:List (Int×Int)):Option (List (Int×Int)):=if mom ms cs then some (bmo ms cs) else if dH (cs.map (·.2))=0 then none else some (cs.map (stp (dH (cs.map (·.2)))))
def mot (ms:List Int) (qs:List (Int×Int)):Bool:=(wi ms qs).any fun q=>decide (q.2=1)
def nwt (ms:List Int) (qs:List (Int×Int)):Option (Int×Int):=match wi ms qs with
 | []=>none
 | q :: r=>some (if mot ms qs then rd (lsF (co q) ((q :: r).map co)).1 (2*(lsF (co q) ((q :: r).map co)).2) else lsF (co q) ((q :: r).map co))
structure Wt (ms:List Int) (qs:List (Int×Int)) (w x:Int×Int):Prop where
 lw:Lw w
 mx:x∈wi ms qs
 gr:∀ q∈wi ms qs,vl (bp q)<=vl (bp x)
 e:vl w=if mot ms qs then (1 - vl (bp x))*(1 / 2) else 1 - vl (bp x)
theorem qT {ms:List Int} {qs:List (Int×Int)} {w:Int×Int} (l:∀ q∈qs,Lw q) (h:nwt ms qs=some w):∃ x,Wt ms qs w x:=by
 unfold nwt at h;have lw:∀ q∈wi ms qs,Lw q:=fun q m=>l q (bA ms qs m)
 split at h
 . cases h
 . rename_i q r e;have lw':∀ y∈q :: r,Lw y:=fun y m=>lw y (by rw [e];exact m)
   obtain ⟨x,mx,ex,gr⟩:=yW lw';rw [ex] at h;have cx:=Fd (lw' x mx);refine ⟨x,?_⟩;have mx':x∈wi ms qs:=by rw [e];exact mx
   have gr':∀ y∈wi ms qs,vl (bp y)<=vl (bp x):=fun y m=>gr y (by rw [<- e];exact m)
   by_cases c:mot ms qs=true
   . rw [if_pos c] at h;cases h;have p2:0 < 2*(co x).2:=by have:=cx.pos;omega
     refine ⟨eK p2,mx',gr',?_⟩;rw [if_pos c,iI p2,<- uq (lw' x mx).pos];unfold vl;have h2:(1 / 2:Rat)=Rat.divInt 1 2:=by
      rw [Rat.divInt_eq_div];rfl
     rw [h2,Rat.divInt_mul_divInt,Int.mul_one,Int.mul_comm 2]
   . rw [if_neg c] at h;cases h;exact ⟨cx,mx',gr',by rw [if_neg c,uq (lw' x mx).pos]⟩
theorem nwt_none {ms:List Int} {qs:List (Int×Int)}:nwt ms qs=none <-> wi ms qs=[]:=by
 unfold nwt;split
 . rename_i e;simp [e]
 . rename_i e;simp [e]
theorem Wt.pos {ms:List Int} {qs:List (Int×Int)} {w x:Int×Int} (l:∀ q∈qs,Lw q) (h:Wt ms qs w x):0 < vl w/\vl w<=1:=by
 have p:=(l x (bA ms qs h.mx)).pos;have a:=sr p;have b:=hW p;have e:=h.e;split at e <;> grind
theorem Wt.add {ms:List Int} {qs:List (Int×Int)} {w x:Int×Int} (l:∀ q∈qs,Lw q) (nn:∀ q∈qs,0<=q.1) (h:Wt ms qs w x):Add (fun q=>pl q w) (vl w) qs :=
 ⟨l,nn,fun q m=>eK (Int.mul_pos (l q m).pos h.lw.pos),fun q m=>iJ (l q m).pos h.lw.pos,(h.pos l).1⟩
theorem pJ {ms:List Int} {qs:List (Int×Int)} (l:∀ q∈qs,Lw q):mot ms qs=true <-> ∃ q∈wi ms qs,bp q=(0,1):=by
 unfold mot;rw [List.any_eq_true];constructor
 . rintro ⟨q,m,e⟩
   exact ⟨q,m,(jh (l q (bA ms qs m))).mpr (of_decide_eq_true e)⟩
 . rintro ⟨q,m,e⟩
   exact ⟨q,m,Zw ((jh (l q (bA ms qs m))).mp e)⟩
theorem DP {ms:List Int} {qs:List (Int×Int)} (t:∀ q∈qs,Tw q) (l4:qs.length<=4) (hl:ms.length=qs.length):∀ r∈(cel ms qs).map (·.2),0<=r/\r<=4/\(wi ms qs=[]->r=0):=fun r mr=>by
 have N:=kn hl t l4;obtain ⟨c,mc,rfl⟩:=Zl.mp mr;have is:=N.is;rw [is] at mc;rcases ql ms qs _ c mc with e | ⟨z,mz,e⟩
 . rw [e];exact ⟨by decide,by decide,fun _=>rfl⟩
 . rw [e,N.own z mz];have g:=N.W.rg z mz;refine ⟨g.1,g.2,fun w=>?_⟩
   have:z.1∈wi ms qs:=by
    rw [<- gL ms qs _ N.len];exact Zl.mpr ⟨z,mz,rfl⟩
   rw [w] at this;cases this
theorem Dk {ms:List Int} {qs:List (Int×Int)} (hl:ms.length=qs.length) (t:∀ q∈qs,Tw q) (l4:qs.length<=4) (tf:∀ w,nwt ms qs=some w->∀ q∈qs,Tw (pl q w)):nxt ms (cel ms qs)=(nwt ms qs).map fun w=>cel ms (qs.map fun q=>pl q w):=by
 have lw:∀ q∈qs,Lw q:=fun q m=>(t q m).lw
 have mc:mom ms (cel ms qs)=mot ms qs:=AX t;have rk:=DP t l4 hl;cases e:nwt ms qs with
 | none =>
  have w0:=nwt_none.mp e;have m0:mot ms qs=false:=by unfold mot;rw [w0];rfl
  unfold nxt;rw [mc,m0,if_neg Zs,if_pos (mD (by decide) (by decide) (.inl rfl) fun r mr=>by rw [(rk r mr).2.2 w0];decide)]
  rfl
 | some w =>
  obtain ⟨x,X⟩:=qT lw e;have A:=X.add lw fun q m=>(t q m).nn
  have tf':=tf w e;have px:=(lw x (bA ms qs X.mx)).pos;have b1:=sr px;unfold nxt;rw [mc];cases m:mot ms qs with
  | true =>
   rw [if_pos rfl];have ew:=X.e;rw [m,if_pos rfl] at ew;show some _=some (cel ms (qs.map fun q=>pl q w))
   rw [DV hl t l4 A tf' (fun q mq=>by have:=X.gr q mq;grind) ((pJ lw).mp m)]
  | false =>
   rw [if_neg Zs];have ew:=X.e;rw [m,if_neg Zs] at ew;obtain ⟨L,l0,ec,lm,lx⟩:=Co hl t l4 A tf' X.mx X.gr ew fun q mq z=>by
    have:=(pJ lw).mpr ⟨q,mq,z⟩;rw [m] at this;cases this
   have el:dH ((cel ms qs).map (·.2))=L:=mD (by omega) (rk L lm).2.1 (.inr lm) lx
   rw [el,if_neg (by omega)]
   show some _=some (cel ms (qs.map fun q=>pl q w))
   rw [ec]
theorem qh {p:Int×Int} {a b:Int} (h:Lw p) (hb:0 < b) (e:vl p=Rat.divInt a b):p.2<=b:=by
 have q:=iI (t:=a) hb;have:p=rd a b:=fN h (eK hb) (by rw [e,q])
 rw [this];have g:=dE (t:=a) hb;exact Int.ediv_le_self _ (by omega)
structure Wn (ms:List Int) (qs0 qs:List (Int×Int)) (k:Nat) (W:Int×Int):Prop where
 lw:Lw W
 nn:0<=vl W
 le:vl W<=((k:Int):Rat)
 is:qs=qs0.map fun q=>pl q W
 b:W.2<=2*10 ^ 80
 m:mot ms qs=true->W.2<=10 ^ 40
theorem BJ {q:Int×Int} (h:0 < q.2):0<=vl q <-> 0<=q.1:=by
 have:=uo (p:=(0,1)) (q:=q) (by decide) h
 rw [bB] at this;constructor
 . intro e;have:=this.mp (by simpa using e)
   dsimp only at this;omega
 . intro e;have:=this.mpr (by dsimp only;omega)
   simpa using this
theorem plw {p q:Int×Int} (hp:0 < p.2) (hq:0 < q.2):Lw (pl p q):=eK (Int.mul_pos hp hq)
theorem yh {p q:Int×Int} (hp:0 < p.2) (hq:0 < q.2):(pl p q).2<=p.2*q.2:=by
 refine qh (plw hp hq) (Int.mul_pos hp hq) (a:=p.1*q.2+q.1*p.2) ?_;unfold pl;exact iI (Int.mul_pos hp hq)
theorem Wn.tw {ms:List Int} {qs0 qs:List (Int×Int)} {k:Nat} {W:Int×Int} (h:Wn ms qs0 qs k W) (k10:k<=10) (t0:∀ q∈qs0,Tm q):∀ q∈qs,Tw q:=fun q mq=>by
 rw [h.is] at mq;obtain ⟨p,mp,rfl⟩:=Zl.mp mq;have tp:=t0 p mp;have p0:=tp.lw.pos;have W0:=h.lw.pos;have L:=plw p0 W0;have e:=iJ p0 W0;have a:=(BJ p0).mpr tp.nn;have b:=h.nn;have c:=h.le;have d:vl p < 62:=by
  have:=(lB (p:=p) (q:=(62,1)) p0 (by decide)).mpr (by have:=tp.up;dsimp only;omega)
  rw [bB] at this;simpa using this
 have kr:((k:Int):Rat)<=((10:Int):Rat):=(Rat.intCast_le_intCast (a:=(k:Int)) (b:=10)).mpr (by omega)
 have k10':((10:Int):Rat)=10:=rfl;refine ⟨L,(BJ L.pos).mp (by grind),?_,?_⟩
 . have:=(lB (p:=pl p W) (q:=(100,1)) L.pos (by decide)).mp (by
    rw [bB];have:((100:Int):Rat)=100:=rfl
    grind)
   dsimp only at this;omega
 . have g:=yh p0 W0;have l1:=tp.le;have l2:=h.b;have:p.2*W.2<=10 ^ 40*(2*10 ^ 80):=Int.mul_le_mul l1 l2 (by omega) (by decide)
   have n:(10:Int) ^ 40*(2*10 ^ 80)<=10 ^ 130:=by decide
   omega
theorem Wn.start {ms:List Int} {qs:List (Int×Int)} (t:∀ q∈qs,Tm q):Wn ms qs qs 0 (0,1):=by
 refine ⟨⟨by decide,by decide⟩,by rw [bB];decide,by rw [bB];decide,?_,by decide,fun _=>by decide⟩
 have:∀ q∈qs,pl q (0,1)=q:=fun q m=>by
  unfold pl;show rd (q.1*1+0*q.2) (q.2*1)=q;rw [Int.mul_one,Int.zero_mul,Int.add_zero,Int.mul_one];exact fG (t q m).lw
 exact (List.map_congr_left this |>.trans (List.map_id' qs)).symm
theorem BH {f:Int×Int->Int×Int} {d:Rat}:∀ (ms:List Int) (qs:List (Int×Int)),Add f d qs->∀ z∈wi ms (qs.map f),∃ y∈wi ms qs,z=f y
 | [],_,_,z,h=>by simp [wi] at h
 | _ :: _,[],_,z,h=>by simp [wi] at h
 | m :: ms,q :: qs,A,z,h=>by
  have h':z∈(if past m (f q) then wi ms (qs.map f) else f q :: wi ms (qs.map f)):=h
  show ∃ y∈(if past m q then wi ms qs else q :: wi ms qs),z=f y
  have tail:z∈wi ms (qs.map f)->∃ y∈(if past m q then wi ms qs else q :: wi ms qs),z=f y:=fun k=>by
   obtain ⟨y,my,e⟩:=BH ms qs A.tail z k;refine ⟨y,?_,e⟩;split
   . exact my
   . exact Zj _ my
  split at h'
  . exact tail h'
  . rename_i np;rcases Zn.mp h' with e | e
    . have:¬ past m q=true:=fun p=>np (A.past Zi p)
      rw [if_neg this];exact ⟨q,Zi,e⟩
    . exact tail e
theorem Wn.step {ms:List Int} {qs0 qs:List (Int×Int)} {k:Nat} {W w:Int×Int} (h:Wn ms qs0 qs k W) (t0:∀ q∈qs0,Tm q) (t:∀ q∈qs,Tw q) (e:nwt ms qs=some w):Wn ms qs0 (qs.map fun q=>pl q w) (k+1) (pl W w):=by
 have lw:∀ q∈qs,Lw q:=fun q m=>(t q m).lw
 obtain ⟨x,X⟩:=qT lw e;have W0:=h.lw.pos;have w0:=X.lw.pos;have ew:=iJ W0 w0;obtain ⟨d0,d1⟩:=X.pos lw;have kc:(((k+1:Nat):Int):Rat)=((k:Int):Rat)+1:=Rat.intCast_add (k:Int) 1;have L:=plw W0 w0;obtain ⟨x0,m0,ex⟩:∃ x0∈qs0,pl x0 W=x:=by
  have:=bA ms qs X.mx;rw [h.is] at this;obtain ⟨x0,m0,ex⟩:=Zl.mp this;exact ⟨x0,m0,ex⟩
 have tx:=t0 x0 m0;have x00:=tx.lw.pos;have vx:=iJ x00 W0;rw [ex] at vx;have lx:=lw x (bA ms qs X.mx);have fx:=lC lx.pos;have sml:mot ms qs=false->(pl W w).2<=x0.2:=fun mt=>by
  have E:=X.e;rw [mt,if_neg Zs] at E;have:pl W w=mi (1+x.1 / x.2,1) x0:=fN L (eK (Int.mul_pos (show (0:Int) < 1 by decide) x00)) (by
   rw [ew,BK (show (0:Int) < 1 by decide) x00,bB,Rat.intCast_add]
   have o:((1:Int):Rat)=1:=rfl
   grind)
  rw [this];have:=qh (p:=mi (1+x.1 / x.2,1) x0) (eK (Int.mul_pos (show (0:Int) < 1 by decide) x00)) (Int.mul_pos (show (0:Int) < 1 by decide) x00) (iI (Int.mul_pos (show (0:Int) < 1 by decide) x00))
  rw [Int.one_mul] at this;exact this
 have big:mot ms qs=true->(pl W w).2<=2*(W.2*x0.2):=fun mt=>by
  have E:=X.e;rw [mt,if_pos rfl] at E;have o2:(0:Int) < ((1,2):Int×Int).2:=by decide
  have p1:=plw (q:=(1+x.1 / x.2,1)) W0 (show (0:Int) < 1 by decide)
  have p2:Lw (mi (pl W (1+x.1 / x.2,1)) x0):=eK (Int.mul_pos p1.pos x00);have p3:Lw (ti (mi (pl W (1+x.1 / x.2,1)) x0) (1,2)):=eK (Int.mul_pos p2.pos o2);have hf:vl (1,2)=1 / 2:=by
   unfold vl;rw [Rat.divInt_eq_div];rfl
  have:pl W w=ti (mi (pl W (1+x.1 / x.2,1)) x0) (1,2):=fN L p3 (by
   rw [ew,BI p2.pos o2,BK p1.pos x00,iJ W0 (show (0:Int) < 1 by decide),bB,Rat.intCast_add,hf]
   have o:((1:Int):Rat)=1:=rfl
   grind)
  rw [this];have d1:=yh (p:=W) (q:=(1+x.1 / x.2,1)) W0 (show (0:Int) < 1 by decide)
  have d2:=qh p2 (Int.mul_pos p1.pos x00) (iI (Int.mul_pos p1.pos x00));have d3:=qh p3 (Int.mul_pos p2.pos o2) (iI (Int.mul_pos p2.pos o2));dsimp only at d1 d3;have:=Int.mul_le_mul_of_nonneg_right d1 (show 0<=x0.2 by omega)
  rw [Int.mul_one] at this;omega
 refine ⟨L,by have:=h.nn;grind,by have:=h.le;grind,?_,?_,fun mt=>?_⟩
 . rw [h.is,List.map_map];refine List.map_congr_left fun q m=>?_
   have q0:=(t0 q m).lw.pos;show pl (pl q W) w=pl q (pl W w);refine fN (plw (plw q0 W0).pos w0) (plw q0 L.pos) ?_;rw [iJ (plw q0 W0).pos w0,iJ q0 W0,iJ q0 L.pos,ew]
   grind
 . cases mt:mot ms qs with
   | true =>
    have g:=big mt;have:=Int.mul_le_mul (h.m mt) tx.le (by omega) (by decide)
    have n:(10:Int) ^ 40*10 ^ 40=10 ^ 80:=by decide
    omega
   | false =>
    have:=sml mt;have:=tx.le;omega
 . cases mt':mot ms qs with
   | false =>
    have:=sml mt';have:=tx.le;omega
   | true =>
    have A:=X.add lw fun q m=>(t q m).nn
    have E:=X.e;rw [mt',if_pos rfl] at E;have b1:=sr lx.pos;have lw2:∀ q∈qs.map (fun q=>pl q w),Lw q:=fun q m=>by
     obtain ⟨p,mp,rfl⟩:=Zl.mp m;exact A.lw' p mp
    obtain ⟨q',mq',z⟩:=(pJ lw2).mp mt;obtain ⟨p,mp,ep⟩:=BH ms qs A q' mq';have S:=A.sml (bA ms qs mp) (by have:=X.gr p mp;grind)
    have:=(iD S.lw').mp (by rw [<- ep];exact z)
    rw [S.at.2] at this;have:=hW S.lw.pos;have:=S.d0
    grind
end Mth
set_option maxHeartbeats 4000000
namespace Mth
def ltC (b:List (Int×Int)) (s:Int×Int):Nat:=(b.filter fun x=>decide (x.1*s.2 < s.1*x.2)).length
def jO (b:List (Int×Int)) (s:Int×Int):List (Int×Int):=if s∈b then b else b.take (ltC b s)++s :: b.drop (ltC b s)
def qo:List (Int×Int)->List (Int×Int)->List (Int×Int)
 | b,[]=>b
 | b,q :: qs=>qo (jO b (bp q)) qs
structure Bk (b:List (Int×Int)):Prop where
 lw:∀ x∈b,Lw x
 rg:∀ x∈b,0<=vl x/\vl x < 1
 up:b.Pairwise fun x y=>vl x < vl y
theorem gW {x s:Int×Int} {b:List (Int×Int)} (hx:0 < x.2) (hs:0 < s.2):ltC (x :: b) s=(if vl x < vl s then 1 else 0)+ltC b s:=by
 unfold ltC;rw [List.filter_cons];have:=lB hx hs
 by_cases c:x.1*s.2 < s.1*x.2
 . rw [if_pos (Zw c),if_pos (this.mpr c),Zh];omega
 . rw [if_neg (by simp [c]),if_neg fun h=>c (this.mp h)];omega
theorem mw {s:Int×Int} (hs:0 < s.2):∀ (b:List (Int×Int)),(∀ x∈b,0 < x.2)->(∀ x∈b,vl s<=vl x)->ltC b s=0
 | [],_,_=>rfl
 | x :: b,p,h=>by
  have:=h x Zi;rw [gW (p x Zi) hs,if_neg (by grind),mw hs b (fun y m=>p y (Zj _ m)) fun y m=>h y (Zj _ m)]
theorem zl {s:Int×Int} (hs:0 < s.2):∀ (b:List (Int×Int)),(∀ x∈b,0 < x.2)->b.Pairwise (fun x y=>vl x < vl y)->(∀ x∈b,vl x ≠ vl s)->(b.take (ltC b s)++s :: b.drop (ltC b s)).Pairwise fun x y=>vl x < vl y
 | [],_,_,_=>by simp [ltC]
 | x :: b,p,u,n=>by
  have u':=List.pairwise_cons.mp u;have x0:=p x Zi;rw [gW x0 hs]
  by_cases c:vl x < vl s
  . rw [if_pos c,Nat.add_comm,List.take_succ_cons,List.drop_succ_cons,List.cons_append];refine List.pairwise_cons.mpr ⟨fun y m=>?_,zl hs b (fun y m=>p y (Zj _ m)) u'.2 fun y m=>n y (Zj _ m)⟩
    rcases Zm.mp m with h | h
    . exact u'.1 y (List.mem_of_mem_take h)
    . rcases Zn.mp h with h | h
      . rw [h];exact c
      . exact u'.1 y (List.mem_of_mem_drop h)
  . have z:∀ y∈x :: b,vl s<=vl y:=fun y m=>by
     have nx:=n x Zi;rcases Zn.mp m with h | h
     . rw [h];grind
     . have:=u'.1 y h;grind
    have l0:=mw hs b (fun y m=>p y (Zj _ m)) fun y m=>z y (Zj _ m)
    rw [if_neg c,l0];show (s :: x :: b).Pairwise _;refine List.pairwise_cons.mpr ⟨fun y m=>?_,u⟩
    have:=z y m;have:=n y m
    grind
theorem insS_mem {b:List (Int×Int)} {s x:Int×Int}:x∈jO b s <-> x=s \/ x∈b:=by
 unfold jO;split
 . rename_i h;exact ⟨.inr,fun e=>e.elim (fun e=>e ▸ h) id⟩
 . have:=List.take_append_drop (ltC b s) b;constructor
   . intro m;rcases Zm.mp m with h | h
     . exact .inr (List.mem_of_mem_take h)
     . rcases Zn.mp h with h | h
       . exact .inl h
       . exact .inr (List.mem_of_mem_drop h)
   . rintro (h | h)
     . rw [h];exact Zu _ Zi
     . rw [<- this] at h;rcases Zm.mp h with h | h
       . exact List.mem_append_left _ h
       . exact Zu _ (Zj _ h)
theorem Bk.ins {b:List (Int×Int)} {s:Int×Int} (h:Bk b) (l:Lw s) (r:0<=vl s/\vl s < 1):Bk (jO b s):=by
 refine ⟨fun x m=>?_,fun x m=>?_,?_⟩
 . rcases insS_mem.mp m with e | e
   . rw [e];exact l
   . exact h.lw x e
 . rcases insS_mem.mp m with e | e
   . rw [e];exact r
   . exact h.rg x e
 . unfold jO;split
   . exact h.up
   . rename_i n;exact zl l.pos b (fun x m=>(h.lw x m).pos) h.up fun x m e=>n (fN (h.lw x m) l e ▸ m)
theorem jg:∀ (qs b:List (Int×Int)),(∀ q∈qs,Lw q)->Bk b->Bk (qo b qs)
 | [],_,_,h=>h
 | q :: qs,b,l,h=>jg qs _ (fun x m=>l x (Zj _ m)) (h.ins (eS (l q Zi)) ⟨hW (l q Zi).pos,sr (l q Zi).pos⟩)
theorem gq:∀ (qs b:List (Int×Int)) (x:Int×Int),x∈qo b qs <-> x∈b \/ ∃ q∈qs,x=bp q
 | [],b,x=>by simp [qo]
 | q :: qs,b,x=>by
  show x∈qo (jO b (bp q)) qs <-> _;rw [gq qs _ x,insS_mem];simp only [Zn,exists_eq_or_imp];constructor
  . rintro ((h | h) | h)
    . exact .inr (.inl h)
    . exact .inl h
    . exact .inr (.inr h)
  . rintro (h | h | h)
    . exact .inl (.inr h)
    . exact .inl (.inl h)
    . exact .inr h
theorem j2:Bk [(0,1)]:=⟨fun x m=>by rw [Zk.mp m];exact ⟨by decide,by decide⟩,fun x m=>by rw [Zk.mp m,bB];exact ⟨by decide,by decide⟩,List.pairwise_singleton _ _⟩
def brk (zs:List (Int×Int)):List (Int×Int):=qo [(0,1)] zs
theorem fK {zs:List (Int×Int)} (l:∀ q∈zs,Lw q):∃ tl,brk zs=(0,1) :: tl:=by
 have B:=jg zs _ l j2;have m:((0,1):Int×Int)∈brk zs:=(gq zs _ _).mpr (.inl Zi);have B':Bk (brk zs):=B;cases e:brk zs with
 | nil=>rw [e] at m;cases m
 | cons x tl =>
  rw [e] at m B';rcases Zn.mp m with h | h
  . exact ⟨tl,by rw [<- h]⟩
  . have a:=(List.pairwise_cons.mp B'.up).1 _ h;have b:=(B'.rg x Zi).1;rw [bB] at a;have:((0:Int):Rat)=0:=rfl;exact absurd a (by grind)
theorem B4 {f:Int×Int}:∀ (b:List (Int×Int)),(∀ x∈b,Lw x)->b.Pairwise (fun x y=>vl x < vl y)->f∈b->b[ltC b f]? = some f
 | [],_,_,m=>by cases m
 | x :: b,l,u,m=>by
  have u':=List.pairwise_cons.mp u;have lf:=l f m;rw [gW (l x Zi).pos lf.pos];rcases Zn.mp m with h | h
  . subst h;rw [if_neg (by grind),mw lf.pos b (fun y my=>(l y (Zj _ my)).pos) fun y my=>by have:=u'.1 y my;grind]
    rfl
  . rw [if_pos (u'.1 f h),Nat.add_comm,Ze];exact B4 b (fun y my=>l y (Zj _ my)) u'.2 h
theorem BD {ps:List (Int×Int)} {p:Int×Int} (h:ps.Nodup):(gK ps p).Nodup:=by
 unfold gK;split
 . rename_i c;rw [ZI] at c;have n:p ∉ ps:=by simpa using c.2
   exact List.nodup_append.mpr ⟨h,by simp,fun a ma b mb e=>n (by rw [Zk.mp mb] at e;exact e ▸ ma)⟩
 . exact h
theorem zN:∀ (qs ps:List (Int×Int)),ps.Nodup->(dst ps qs).Nodup
 | [],_,h=>h
 | _ :: qs,_,h=>zN qs _ (BD h)
theorem Bv {zs:List (Int×Int)} {x:Int×Int}:x∈dst [] zs <-> x ≠ (0,1)/\∃ q∈zs,x=bp q:=by
 constructor
 . intro m;exact iB (P:=fun x=>x ≠ (0,1)/\∃ q∈zs,x=bp q) zs (fun _ z=>by cases z) (fun q mq n=>⟨n,q,mq,rfl⟩) x m
 . rintro ⟨n,q,mq,rfl⟩
   exact lc zs mq n
theorem Et {zs:List (Int×Int)} {q:Int×Int} (l:∀ x∈zs,Lw x) (mq:q∈zs):rk (dst [] zs) q=ltC (brk zs) (bp q):=by
 have B:Bk (brk zs):=jg zs _ l j2;obtain ⟨tl,et⟩:=fK l;have lq:=l q mq;have mb:∀ x,x∈brk zs <-> x∈([(0,1)]:List (Int×Int)) \/ ∃ q∈zs,x=bp q:=gq zs _;rw [et] at B mb ⊢;have u:=List.pairwise_cons.mp B.up;have nd:tl.Nodup:=u.2.imp fun h e=>by rw [e] at h;grind
 have z0:vl ((0,1):Int×Int)=0:=by rw [bB];rfl
 have n0:∀ x∈tl,x ≠ (0,1):=fun x m e=>by
  have:=u.1 x m;rw [e] at this
  grind
 have pm:(dst [] zs).Perm tl:=(List.perm_ext_iff_of_nodup (zN zs [] Zq) nd).mpr fun x=>by
  rw [Bv];constructor
  . rintro ⟨n,h⟩
    rcases Zn.mp ((mb x).mpr (.inr h)) with e | e
    . exact absurd e n
    . exact e
  . intro m;refine ⟨n0 x m,?_⟩;rcases (mb x).mp (Zj _ m) with e | e
    . exact absurd (Zk.mp e) (n0 x m)
    . exact e
 have e1:rk (dst [] zs) q=(tl.filter fun p=>decide (p.1*q.2<=q.1 % q.2*p.2)).length:=(pm.filter _).length_eq
 rw [e1,gW (by decide) (eS lq).pos]
 have cases':∀ (b:List (Int×Int)),(∀ x∈b,Lw x)->b.Pairwise (fun x y=>vl x < vl y)->(b.filter fun p=>decide (p.1*q.2<=q.1 % q.2*p.2)).length=ltC b (bp q)+if bp q∈b then 1 else 0:=by
  intro b
  induction b with
  | nil=>intro _ _;rfl
  | cons x b ih =>
   intro lb ub;have ub':=List.pairwise_cons.mp ub;have lx:=lb x Zi;have h1:=uo (p:=x) (q:=bp q) lx.pos (eS lq).pos;have h2:=ih (fun y m=>lb y (Zj _ m)) ub'.2
   rw [gW lx.pos (eS lq).pos,List.filter_cons];have h1':vl x<=vl (bp q) <-> x.1*q.2<=q.1 % q.2*x.2:=h1
   by_cases c:x.1*q.2<=q.1 % q.2*x.2
   . rw [if_pos (Zw c),Zh,h2];have cv:=h1'.mpr c
     by_cases e:x=bp q
     . have nb:bp q ∉ b:=fun m=>by have:=ub'.1 _ m;rw [e] at this;grind
       rw [if_neg nb,if_pos (show bp q∈x :: b by rw [e];exact Zi),if_neg (show ¬ vl x < vl (bp q) by rw [e];exact Rat.lt_irrefl)];omega
     . have ne:vl x ≠ vl (bp q):=fun z=>e (fN lx (eS lq) z)
       rw [if_pos (show vl x < vl (bp q) by grind)]
       have:(bp q∈x :: b) <-> bp q∈b:=⟨fun m=>(Zn.mp m).resolve_left fun z=>e z.symm,Zj _⟩
       simp only [this];omega
   . rw [if_neg (by simp [c]),h2]
     have cv:¬ vl x<=vl (bp q):=fun z=>c (h1'.mp z)
     have e:bp q ≠ x:=fun z=>cv (by rw [z];grind)
     have:(bp q∈x :: b) <-> bp q∈b:=⟨fun m=>(Zn.mp m).resolve_left e,Zj _⟩
     rw [if_neg (show ¬ vl x < vl (bp q) by grind)]
     simp only [this];omega
 rw [cases' tl (fun x m=>B.lw x (Zj _ m)) u.2]
 by_cases z:bp q=(0,1)
 . rw [if_neg (fun m=>n0 _ m z),z,if_neg (by grind)]
   omega
 . have mt:bp q∈tl:=(Zn.mp ((mb (bp q)).mpr (.inr ⟨q,mq,rfl⟩))).resolve_left z;have:=u.1 _ mt;rw [if_pos mt,if_pos this];omega
end Mth
set_option maxHeartbeats 4000000
namespace Mth
def cor (L:Int) (cs:List (Int×Int)):List Int:=cs.map fun c=>if L < c.2 then c.1+1 else c.1
def cnN (n:Nat) (cs:List (Int×Int)):List (List Int):=(List.range n).map fun (i:Nat)=>cor ((n:Int) - 1 - (i:Int)) cs
def cnr (cs:List (Int×Int)):List (List Int):=cnN (fu (0 :: cs.map (·.2))).length cs
def ng (p:Int×Int):Int×Int:=(-p.1,p.2)
def jQ:Int×Int->List (Int×Int)->List (Int×Int)
 | _,[]=>[]
 | p,x :: r=>pl p (ng x) :: jQ x r
def shr (b:List (Int×Int)):List (Int×Int):=jQ (1,1) b.reverse
def mnF:Int×Int->List (Int×Int)->List Int->Int×Int
 | m,s :: ss,k :: ks=>mnF (pl m (s.1*k,s.2)) ss ks
 | m,_,_=>m
structure Full (n:Nat) (cs:List (Int×Int)):Prop where
 lo:∀ c∈cs,0<=c.2/\c.2<=(n:Int)
 on:∀ j:Int,1<=j->j<=(n:Int)->∃ c∈cs,c.2=j
 le:n<=4
theorem Full.cnt {n:Nat} {cs:List (Int×Int)} (h:Full n cs):(fu (0 :: cs.map (·.2))).length=n+1:=by
 have on:∀ j:Int,1<=j->j<=(n:Int)->j∈cs.map (·.2):=fun j a b=>by
  obtain ⟨c,m,e⟩:=h.on j a b;exact Zl.mpr ⟨c,m,e⟩
 have no:∀ j:Int,(n:Int) < j->j ∉ cs.map (·.2):=fun j a m=>by
  obtain ⟨c,mc,e⟩:=Zl.mp m;have:=(h.lo c mc).2;omega
 have le:=h.le;generalize cs.map (·.2)=rs at on no;unfold fu;have z:∀ j:Int,1<=j->j<=4->decide (j∈(0:Int) :: rs)=decide (j<=(n:Int)):=fun j a b=>by
  by_cases c:j<=(n:Int)
  . rw [Zw c,Zw (Zj _ (on j a c))]
  . rw [Zv c,Zv];intro m;rcases Zn.mp m with e | e
    . omega
    . exact no j (by omega) e
 have z0:decide ((0:Int)∈(0:Int) :: rs)=true:=Zw Zi;simp only [List.filter_cons,List.filter_nil,z0,z 1 (by decide) (by decide),z 2 (by decide) (by decide),z 3 (by decide) (by decide),z 4 (by decide) (by decide)]
 match n,le with
 | 0,_=>rfl
 | 1,_=>rfl
 | 2,_=>rfl
 | 3,_=>rfl
 | 4,_=>rfl
theorem Full.cnr {n:Nat} {cs:List (Int×Int)} (h:Full n cs):cnr cs=cnN (n+1) cs:=by
 unfold Mth.cnr;rw [h.cnt]
theorem iC (n:Nat) (cs:List (Int×Int)):(cnN n cs).length=n:=by unfold cnN;rw [Zg,List.length_range]
theorem vR (L:Int) (cs:List (Int×Int)):(cor L cs).length=cs.length:=Zg _
theorem DN {L L':Int} {cs:List (Int×Int)} (h:cor L cs=cor L' cs):∀ c∈cs,L < c.2 <-> L' < c.2:=fun c m=>by
 have:=List.map_inj_left.mp h c m
 by_cases a:L < c.2 <;> by_cases b:L' < c.2 <;> simp only [a,b,if_true,if_false] at this ⊢ <;> omega
theorem Full.nodup {n:Nat} {cs:List (Int×Int)} (h:Full n cs):(cnN (n+1) cs).Nodup:=by
 unfold cnN;refine List.Pairwise.map _ (R:=fun (i j:Nat)=>i ≠ j/\i < n+1/\j < n+1) ?_ ?_
 . rintro i j ⟨ne,hi,hj⟩ e
   have key:∀ (a b:Nat),a < n+1->b < n+1->a < b->cor (((n+1:Nat):Int) - 1 - (a:Int)) cs=cor (((n+1:Nat):Int) - 1 - (b:Int)) cs->False:=fun a b ha hb lt e=>by
    obtain ⟨c,mc,ec⟩:=h.on ((n:Int) - a) (by omega) (by omega)
    have:=(DN e c mc).mpr (by omega)
    omega
   rcases Nat.lt_or_gt_of_ne ne with l | l
   . exact key i j hi hj l e
   . exact key j i hj hi l e.symm
 . refine List.Pairwise.imp_of_mem ?_ (List.nodup_range (n:=n+1));intro i j mi mj ne;exact ⟨ne,List.mem_range.mp mi,List.mem_range.mp mj⟩
theorem zV {ps:List (Int×Int)}:∀ (ms:List Int) (qs:List (Int×Int)) (c:Int×Int),c∈cls ps ms qs->(∃ m q,past m q=true/\c=(m+1,0)) \/ ∃ q∈wi ms qs,c=(q.1 / q.2,(rk ps q:Int))
 | [],_,c,h=>by cases h
 | _ :: _,[],c,h=>by cases h
 | m :: ms,q :: qs,c,h=>by
  rw [jm];rcases Zn.mp (show c∈plc ps m q :: cls ps ms qs from h) with e | e
  . unfold plc at e;cases p:past m q with
    | true=>rw [p,if_pos rfl] at e;exact .inl ⟨m,q,p,e⟩
    | false=>rw [p,if_neg Zs] at e;exact .inr ⟨q,by rw [if_neg Zs];exact Zi,e⟩
  . rcases zV ms qs c e with ⟨m',q',a,b⟩ | ⟨q',a,b⟩
    . exact .inl ⟨m',q',a,b⟩
    . refine .inr ⟨q',?_,b⟩;split
      . exact a
      . exact Zj _ a
theorem qk {ps:List (Int×Int)}:∀ (ms:List Int) (qs:List (Int×Int)) (q:Int×Int),q∈wi ms qs->(q.1 / q.2,(rk ps q:Int))∈cls ps ms qs
 | [],_,q,h=>by cases h
 | _ :: _,[],q,h=>by cases h
 | m :: ms,x :: qs,q,h=>by
  rw [jm] at h;show _∈plc ps m x :: cls ps ms qs;cases p:past m x with
  | true=>rw [p,if_pos rfl] at h;exact Zj _ (qk ms qs q h)
  | false =>
   rw [p,if_neg Zs] at h;rcases Zn.mp h with e | e
   . rw [e];unfold plc;rw [p,if_neg Zs];exact Zi
   . exact Zj _ (qk ms qs q e)
theorem rG {b:List (Int×Int)} {s:Int×Int}:(jO b s).length<=b.length+1:=by
 unfold jO;split
 . omega
 . rw [Zf,Zh,List.length_take,List.length_drop];omega
theorem ln:∀ (qs b:List (Int×Int)),(qo b qs).length<=b.length+qs.length
 | [],b=>ZH _
 | q :: qs,b=>by
  have h:=ln qs (jO b (bp q));have k:=rG (b:=b) (s:=bp q);show (qo (jO b (bp q)) qs).length<=_;rw [Zh];omega
theorem uc {zs:List (Int×Int)} {q:Int×Int} (l:∀ x∈zs,Lw x) (mq:q∈zs):(brk zs)[rk (dst [] zs) q]? = some (bp q):=by
 have B:Bk (brk zs):=jg zs _ l j2;rw [Et l mq];exact B4 _ B.lw B.up ((gq zs _ _).mpr (.inr ⟨q,mq,rfl⟩))
theorem mI {ms:List Int} {qs:List (Int×Int)} (l:∀ q∈qs,Lw q) (l4:qs.length<=4):Full ((brk (wi ms qs)).length - 1) (cel ms qs):=by
 have lz:∀ x∈wi ms qs,Lw x:=fun x m=>l x (bA ms qs m)
 have B:Bk (brk (wi ms qs)):=jg _ _ lz j2;obtain ⟨tl,et⟩:=fK lz;have pos:0 < (brk (wi ms qs)).length:=by rw [et];exact Nat.succ_pos _
 refine ⟨fun c m=>?_,fun j j1 jn=>?_,?_⟩
 . rcases zV ms qs c m with ⟨m',q,_,e⟩ | ⟨q,mq,e⟩
   . rw [e];exact ⟨Int.le_refl 0,Int.natCast_nonneg _⟩
   . have h:=uc lz mq;have:=(ZG.mp h).1;rw [e];exact ⟨Int.natCast_nonneg _,by show ((rk (dst [] (wi ms qs)) q:Nat):Int)<=_;omega⟩
 . have hj:j.toNat < (brk (wi ms qs)).length:=by omega
   have g:=Zp hj;have mb:=List.getElem_mem hj;generalize ex:(brk (wi ms qs))[j.toNat]=x at g mb;have nd:(brk (wi ms qs)).Nodup:=B.up.imp fun h e=>by rw [e] at h;grind
   rcases (gq (wi ms qs) [(0,1)] x).mp mb with h | ⟨q,mq,e⟩
   . have h0:(brk (wi ms qs))[0]? = some (0,1):=by rw [et];rfl
     have e1:=Zk.mp h;rw [e1] at g;have:=(List.getElem?_inj hj nd).mp (g.trans h0.symm);omega
   . have h:=uc lz mq;rw [<- e] at h;have:=(List.getElem?_inj hj nd).mp (g.trans h.symm);exact ⟨_,qk ms qs q mq,by show ((rk (dst [] (wi ms qs)) q:Nat):Int)=j;omega⟩
 . have a:=ln (wi ms qs) [(0,1)];have b:=fM ms qs;have:(brk (wi ms qs)).length<=1+(wi ms qs).length:=a;omega
theorem tH {p:Int×Int} (h:0 < p.2):0 < (ng p).2:=h
theorem Ec {p:Int×Int} (h:0 < p.2):vl (ng p) = - vl p:=by
 unfold vl ng;exact Rat.neg_divInt _ _ |>.symm
theorem r8:∀ (r:List (Int×Int)) (p:Int×Int),(jQ p r).length=r.length
 | [],_=>rfl
 | x :: r,p=>by show (jQ x r).length+1=_;rw [r8 r x];rfl
theorem uD (b:List (Int×Int)):(shr b).length=b.length:=by unfold shr;rw [r8,List.length_reverse]
theorem Cj {s:Int×Int} (h:0 < s.2) (k:Int):vl (s.1*k,s.2)=vl s*(k:Rat):=by
 have:=BI (p:=s) (q:=(k,1)) h (show (0:Int) < 1 by decide)
 rw [bB] at this;rw [<- this];unfold ti;rw [iI (by show 0 < s.2*1;omega)]
 show Rat.divInt _ _=Rat.divInt (s.1*k) (s.2*1);rw [Int.mul_one]
def wf:List (Int×Int)->List Int->Rat
 | s :: ss,k :: ks=>vl s*(k:Rat)+wf ss ks
 | _,_=>0
theorem yO:∀ (ss:List (Int×Int)) (ks:List Int) (m:Int×Int),Lw m->(∀ s∈ss,0 < s.2)->Lw (mnF m ss ks)/\vl (mnF m ss ks)=vl m+wf ss ks
 | [],ks,m,l,_=>⟨l,by show vl m=vl m+0;grind⟩
 | s :: ss,[],m,l,_=>⟨l,by show vl m=vl m+0;grind⟩
 | s :: ss,k :: ks,m,l,h=>by
  have hs:=h s Zi;obtain ⟨a,b⟩:=yO ss ks (pl m (s.1*k,s.2)) (BV l.pos hs) fun x mx=>h x (Zj _ mx)
  refine ⟨a,?_⟩;show vl (mnF (pl m (s.1*k,s.2)) ss ks)=vl m+(vl s*(k:Rat)+wf ss ks);rw [b,iJ l.pos (by exact hs),Cj hs]
  grind
def t5 (w:Int) (k:Nat):Nat->List Int
 | 0=>[]
 | n+1=>(if n < k then w+1 else w) :: t5 w k n
theorem kN {w:Int} {k:Nat}:∀ (r:List (Int×Int)) (p x:Int×Int),0 < p.2->(∀ y∈r,0 < y.2)->r.getLast? = some (0,1)->(r.length<=k/\x=p \/ r.reverse[k]? = some x)->wf (jQ p r) (t5 w k r.length)=(w:Rat)*vl p+vl x
 | [],p,x,_,_,e,_=>by cases e
 | y :: r,p,x,hp,hr,e,hx=>by
  have hy:=hr y Zi;show vl (pl p (ng y))*((if r.length < k then w+1 else w:Int):Rat)+wf (jQ y r) (t5 w k r.length)=_
  rw [iJ hp (tH hy),Ec hy];have w1:((w+1:Int):Rat)=(w:Rat)+1:=Rat.intCast_add w 1;cases r with
  | nil =>
   have y0:y=(0,1):=by simpa using e
   have v0:vl y=0:=by rw [y0,bB];rfl
   show (vl p + -vl y)*((if 0 < k then w+1 else w:Int):Rat)+0=_
   rcases hx with ⟨l,rfl⟩ | hx
   . rw [if_pos (show 0 < k from l),w1,v0];grind
   . have:k=0/\x=y:=by
      match k,hx with
      | 0,hx=>exact ⟨rfl,by simpa using hx.symm⟩
      | k+1,hx=>simp at hx
     rw [this.1,if_neg (by omega),this.2,v0];grind
  | cons z r =>
   have e':(z :: r).getLast? = some (0,1):=by simpa using e
   have hr':∀ v∈z :: r,0 < v.2:=fun v m=>hr v (Zj _ m)
   rcases hx with ⟨l,rfl⟩ | hx
   . have l':(z :: r).length < k:=l;rw [kN (z :: r) y y hy hr' e' (.inl ⟨by omega,rfl⟩),if_pos l',w1]
     grind
   . rw [List.reverse_cons] at hx
     by_cases c:k < (z :: r).length
     . have hx':(z :: r).reverse[k]? = some x:=by
        rw [List.getElem?_append_left (by rw [List.length_reverse];exact c)] at hx
        exact hx
       rw [kN (z :: r) y x hy hr' e' (.inr hx'),if_neg (by omega)]
       grind
     . rw [ZE (by rw [List.length_reverse];omega),List.length_reverse] at hx
       have kk:k=(z :: r).length/\x=y:=by
        have:k - (z :: r).length=0:=by
         rcases Nat.eq_zero_or_pos (k - (z :: r).length) with h | h
         . exact h
         . rw [List.getElem?_eq_none (by rw [List.length_singleton];exact h)] at hx;cases hx
        rw [this] at hx;exact ⟨by omega,by simpa using hx.symm⟩
       rw [kk.2,kN (z :: r) y y hy hr' e' (.inl ⟨by omega,rfl⟩),if_neg (by omega)]
       grind
theorem uz {zs:List (Int×Int)} {w:Int} {k:Nat} {x:Int×Int} (l:∀ q∈zs,Lw q) (h:(brk zs)[k]? = some x):wf (shr (brk zs)) (t5 w k (brk zs).length)=(w:Rat)+vl x:=by
 have B:Bk (brk zs):=jg zs _ l j2;obtain ⟨tl,et⟩:=fK l;have e:=kN (w:=w) (k:=k) (brk zs).reverse (1,1) x (by decide) (fun y m=>(B.lw y (List.mem_reverse.mp m)).pos) (by rw [et];simp) (.inr (by rw [List.reverse_reverse];exact h))
 rw [List.length_reverse] at e;rw [show shr (brk zs)=jQ (1,1) (brk zs).reverse from rfl,e,bB]
 have:((1:Int):Rat)=1:=rfl
 grind
def due (m:Int) (q:Int×Int):Int×Int:=if m*q.2 < q.1 then (m+1,1) else q
theorem g8 {L:Int}:∀ (cs:List (Int×Int)) (k:Nat) (c:Int×Int),cs[k]? = some c->(cor L cs).getD k 0=if L < c.2 then c.1+1 else c.1:=fun cs k c h=>by
 unfold cor;rw [Zo,ZD,h];rfl
theorem lg {cs:List (Int×Int)} {k:Nat} {w:Int} {t:Nat} (h:cs[k]? = some (w,(t:Int))):∀ (n:Nat),(cnN n cs).map (fun x=>x.getD k 0)=t5 w t n:=fun n=>by
 have e:∀ (n:Nat),t5 w t n=(List.range n).map fun (i:Nat)=>if (n:Int) - 1 - (i:Int) < (t:Int) then w+1 else w:=by
  intro n
  induction n with
  | zero=>rfl
  | succ n ih =>
   show (if n < t then w+1 else w) :: t5 w t n=_
   rw [ih,List.range_succ_eq_map,List.map_cons,List.map_map];refine congr (congrArg List.cons ?_) ?_
   . by_cases c:n < t
     . rw [if_pos c,if_pos (by omega)]
     . rw [if_neg c,if_neg (by omega)]
   . apply List.map_congr_left
     intro i _;show _=if ((n+1:Nat):Int) - 1 - ((i+1:Nat):Int) < (t:Int) then w+1 else w
     by_cases c:(n:Int) - 1 - (i:Int) < (t:Int)
     . rw [if_pos c,if_pos (by omega)]
     . rw [if_neg c,if_neg (by omega)]
 rw [e n];unfold cnN;rw [List.map_map];apply List.map_congr_left
 intro i _;exact g8 cs k _ h
theorem si {ps:List (Int×Int)}:∀ (ms:List Int) (qs:List (Int×Int)) (k:Nat) (m:Int) (q:Int×Int),ms[k]? = some m->qs[k]? = some q->(cls ps ms qs)[k]? = some (plc ps m q)/\(past m q=false->q∈wi ms qs)
 | [],_,k,m,q,h,_=>by cases h
 | _ :: _,[],k,m,q,_,h=>by cases h
 | m :: ms,q :: qs,0,m',q',h,g=>by
  cases h;cases g;refine ⟨rfl,fun p=>?_⟩
  rw [jm,p,if_neg Zs];exact Zi
 | m :: ms,q :: qs,k+1,m',q',h,g=>by
  obtain ⟨a,b⟩:=si (ps:=ps) ms qs k m' q' h g;refine ⟨a,fun p=>?_⟩
  rw [jm];split
  . exact b p
  . exact Zj _ (b p)
theorem Cz {zs:List (Int×Int)} (l:∀ q∈zs,Lw q):∀ s∈shr (brk zs),Lw s:=by
 have B:Bk (brk zs):=jg zs _ l j2;have key:∀ (r:List (Int×Int)) (p:Int×Int),0 < p.2->(∀ y∈r,0 < y.2)->∀ s∈jQ p r,Lw s:=by
  intro r
  induction r with
  | nil=>intro p _ _ s m;cases m
  | cons y r ih =>
   intro p hp hr s m;have hy:=hr y Zi;rcases Zn.mp (show s∈pl p (ng y) :: jQ y r from m) with e | e
   . rw [e];exact BV hp (tH hy)
   . exact ih y hy (fun z mz=>hr z (Zj _ mz)) s e
 exact key _ _ (by decide) fun y m=>(B.lw y (List.mem_reverse.mp m)).pos
theorem A6 {ms:List Int} {qs:List (Int×Int)} (l:∀ q∈qs,Lw q) (l4:qs.length<=4) (k:Nat) (m:Int) (q:Int×Int) (hm:ms[k]? = some m) (hq:qs[k]? = some q) :
 mnF (0,1) (shr (brk (wi ms qs))) ((cnr (cel ms qs)).map fun x=>x.getD k 0)=due m q:=by
 have lz:∀ x∈wi ms qs,Lw x:=fun x mx=>l x (bA ms qs mx)
 have F:=mI (ms:=ms) l l4;obtain ⟨tl,et⟩:=fK lz;have en:(brk (wi ms qs)).length - 1+1=(brk (wi ms qs)).length:=by rw [et];rfl
 have lq:=l q (ZF hq);obtain ⟨at',inw⟩:=si (ps:=dst [] (wi ms qs)) ms qs k m q hm hq;have at'':(cel ms qs)[k]? = some (plc (dst [] (wi ms qs)) m q):=at';rw [F.cnr,en];have L:=yO (shr (brk (wi ms qs))) ((cnN (brk (wi ms qs)).length (cel ms qs)).map fun x=>x.getD k 0) (0,1) Dt fun s ms'=>(Cz lz s ms').pos
 have z0:vl ((0,1):Int×Int)=0:=by rw [bB];rfl
 unfold plc at at'';cases p:past m q with
 | true =>
  rw [p,if_pos rfl] at at'';rw [lg (w:=m+1) (t:=0) at'',uz (x:=(0,1)) lz (by rw [et];rfl),z0] at L
  have e:due m q=(m+1,1):=if_pos (of_decide_eq_true p);rw [e,lg (w:=m+1) (t:=0) at''];refine fN L.1 ⟨by show (0:Int) < 1;decide,by unfold gc;simp⟩ ?_
  rw [L.2,bB]
  grind
 | false =>
  rw [p,if_neg Zs] at at'';have mq:=inw p;rw [lg at'',uz lz (uc lz mq),z0] at L;have e:due m q=q:=if_neg (of_decide_eq_false p);rw [e,lg at''];refine fN L.1 lq ?_;rw [L.2,lC lq.pos]
  grind
theorem jk {s:Int}:∀ (ms:List Int) (cs:List (Int×Int)),zbm s ms cs=List.zipWith (pbm s) ms cs
 | [],_=>rfl
 | _ :: _,[]=>rfl
 | m :: ms,c :: cs=>by show pbm s m c :: zbm s ms cs=_;rw [jk ms cs];rfl
theorem tL:∀ (ms:List Int) (cs:List (Int×Int)) (k:Nat) (m:Int) (c:Int×Int),ms[k]? = some m->cs[k]? = some c->c.2=0->c.1 < m->lvg ms cs=true
 | [],_,k,m,c,h,_,_,_=>by cases h
 | _ :: _,[],k,m,c,_,h,_,_=>by cases h
 | m :: ms,c :: cs,0,m',c',h,g,a,b=>by
  cases h;cases g;show (_ || lvg ms cs)=true
  rw [Zw a,Zw b];rfl
 | m :: ms,c :: cs,k+1,m',c',h,g,a,b=>by
  show (_ || lvg ms cs)=true
  rw [tL ms cs k m' c' h g a b,Bool.or_true]
theorem yR:∀ (ms:List Int) (cs:List (Int×Int)),lvg ms cs=true->∃ (k:Nat) (m:Int) (c:Int×Int),ms[k]? = some m/\cs[k]? = some c/\c.2=0/\c.1 < m
 | [],_,h=>by cases h
 | _ :: _,[],h=>by cases h
 | m :: ms,c :: cs,h=>by
  have h':((decide (c.2=0) && decide (c.1 < m)) || lvg ms cs)=true:=h
  rw [Bool.or_eq_true,ZI] at h';rcases h' with ⟨a,b⟩ | h'
  . exact ⟨0,m,c,rfl,rfl,of_decide_eq_true a,of_decide_eq_true b⟩
  . obtain ⟨k,m',c',a,b,r⟩:=yR ms cs h';exact ⟨k+1,m',c',a,b,r⟩
theorem lh {n:Nat} {cs:List (Int×Int)} {i:Nat} (h:i < n):(cnN n cs).getD i []=cor ((n:Int) - 1 - (i:Int)) cs:=by
 unfold cnN;rw [Zo,ZD,List.getElem?_range h];rfl
theorem pR {α:Type} {xs:List α} {x:α} (m:x∈xs):∃ k:Nat,xs[k]? = some x:=by
 obtain ⟨k,h,e⟩:=List.mem_iff_getElem.mp m;exact ⟨k,by rw [Zp h,e]⟩
theorem oX {ms:List Int} {cs:List (Int×Int)} (hl:cs.length=ms.length) {k:Nat} {c:Int×Int} (h:cs[k]? = some c):∃ m,ms[k]? = some m:=by
 have:=(ZG.mp h).1;exact ⟨ms[k]'(by omega),Zp _⟩
theorem zv {n:Nat} {ms:List Int} {cs:List (Int×Int)} (F:Full n cs) (hl:cs.length=ms.length) (b:∀ c∈bmo ms cs,c.2<=4):Full (n+if lvg ms cs then 1 else 0) (bmo ms cs):=by
 have at':∀ (k:Nat) (m:Int) (c:Int×Int),ms[k]? = some m->cs[k]? = some c->(bmo ms cs)[k]? = some (pbm (if lvg ms cs then 1 else 0) m c):=fun k m c hm hc=>by
  unfold bmo;rw [jk,List.getElem?_zipWith,hm,hc]
 have len:(bmo ms cs).length=cs.length:=by
  unfold bmo;rw [jk,List.length_zipWith];omega
 have lo:∀ c∈bmo ms cs,0<=c.2/\c.2<=((n+if lvg ms cs then 1 else 0:Nat):Int):=fun c mc=>by
  obtain ⟨k,hk⟩:=pR mc;have lk:=(ZG.mp hk).1;have hc:cs[k]? = some (cs[k]'(by omega)):=Zp _
  obtain ⟨m,hm⟩:=oX hl hc;have e:=at' k m _ hm hc;rw [hk] at e;injection e with e
  have bd:=F.lo _ (ZF hc);generalize cs[k]'(by omega)=c0 at *
  rw [e];unfold pbm
  by_cases c1:0 < c0.2
  . rw [if_pos c1];cases lvg ms cs <;> simp <;> omega
  . rw [if_neg c1]
    by_cases c2:c0.1 < m
    . rw [if_pos c2,tL ms cs k m c0 hm hc (by omega) c2]
      simp;omega
    . rw [if_neg c2];exact ⟨Int.le_refl 0,Int.natCast_nonneg _⟩
 have on:∀ j:Int,1<=j->j<=((n+if lvg ms cs then 1 else 0:Nat):Int)->∃ c∈bmo ms cs,c.2=j:=fun j j1 jn=>by
  cases e:lvg ms cs with
  | true =>
   rw [e] at jn at'
   by_cases z:j=1
   . obtain ⟨k,m,c,hm,hc,a,bb⟩:=yR ms cs e;refine ⟨_,ZF (at' k m c hm hc),?_⟩;unfold pbm;rw [if_neg (by omega),if_pos bb,z]
   . obtain ⟨c,mc,ec⟩:=F.on (j - 1) (by omega) (by simp at jn;omega)
     obtain ⟨k,hc⟩:=pR mc;obtain ⟨m,hm⟩:=oX hl hc;refine ⟨_,ZF (at' k m c hm hc),?_⟩;unfold pbm;rw [if_pos (by omega)]
     show c.2+1=j;omega
  | false =>
   rw [e] at jn at';obtain ⟨c,mc,ec⟩:=F.on j j1 (by simpa using jn)
   obtain ⟨k,hc⟩:=pR mc;obtain ⟨m,hm⟩:=oX hl hc;refine ⟨_,ZF (at' k m c hm hc),?_⟩;unfold pbm;rw [if_pos (by omega)]
   show c.2+0=j;omega
 refine ⟨lo,on,?_⟩;rcases Nat.eq_zero_or_pos (n+if lvg ms cs then 1 else 0) with h | h
 . omega
 . obtain ⟨c,mc,ec⟩:=on _ (by omega) (Int.le_refl _)
   have:=b c mc;omega
theorem zu {n:Nat} {cs:List (Int×Int)} (F:Full n cs) (h:1<=n):Full (n - 1) (cs.map (stp (n:Int))):=by
 have:=F.le;refine ⟨fun c mc=>?_,fun j j1 jn=>?_,by omega⟩
 . obtain ⟨c0,m0,rfl⟩:=Zl.mp mc;have bd:=F.lo c0 m0;unfold stp
   by_cases z:c0.2=(n:Int)
   . rw [if_pos z];exact ⟨Int.le_refl 0,Int.natCast_nonneg _⟩
   . rw [if_neg z];omega
 . obtain ⟨c,mc,ec⟩:=F.on j j1 (by omega)
   exact ⟨_,Zl.mpr ⟨c,mc,rfl⟩,by unfold stp;rw [if_neg (by omega)];exact ec⟩
theorem Bl {n:Nat} {ms:List Int} {cs ct:List (Int×Int)} (F:Full n cs) (hl:cs.length=ms.length) (h:nxt ms cs=some ct) (b:∀ c∈ct,c.2<=4) :
 ct.length=ms.length/\(cnr cs).length<=(cnr ct).length+(if mom ms cs then 0 else 1)/\∀ (c k:Nat),(if mom ms cs then 0 else 1)<=c->c < (cnr cs).length->k < ms.length->(ct.getD k (0,0)).1<=ms.getD k 0->((cnr cs).getD c []).getD k 0=((cnr ct).getD (c - (if mom ms cs then 0 else 1)) []).getD k 0:=by
 unfold nxt at h;cases hm:mom ms cs with
 | true =>
  rw [hm,if_pos rfl] at h;cases h;have F':=zv F hl b;rw [if_pos rfl,F.cnr,F'.cnr,iC,iC];have len:(bmo ms cs).length=ms.length:=by
   unfold bmo;rw [jk,List.length_zipWith];omega
  refine ⟨len,by split <;> omega,fun c k _ hc hk kn=>?_⟩
  have hc0:cs[k]? = some (cs[k]'(by omega)):=Zp _
  have hm0:ms[k]? = some (ms[k]'hk):=Zp _;have at':(bmo ms cs)[k]? = some (pbm (if lvg ms cs then 1 else 0) (ms[k]'hk) (cs[k]'(by omega))):=by
   unfold bmo;rw [jk,List.getElem?_zipWith,hm0,hc0]
  rw [Zo,at',Zo,hm0] at kn;have bd:=F.lo _ (ZF hc0);rw [Nat.sub_zero,lh hc,lh (by split <;> omega),g8 _ _ _ hc0,g8 _ _ _ at']
  generalize cs[k]'(by omega)=c0 at *
  generalize ms[k]'hk=m at *
  simp only [Option.getD_some] at kn;unfold pbm at kn ⊢
  by_cases c1:0 < c0.2
  . simp only [if_pos c1];cases lvg ms cs with
    | true =>
     simp only [if_true]
     by_cases z:((n+1:Nat):Int) - 1 - (c:Int) < c0.2
     . rw [if_pos z,if_pos (by omega)]
     . rw [if_neg z,if_neg (by omega)]
    | false =>
     simp only [Bool.false_eq_true,if_false]
     by_cases z:((n+1:Nat):Int) - 1 - (c:Int) < c0.2
     . rw [if_pos z,if_pos (by omega)]
     . rw [if_neg z,if_neg (by omega)]
  . simp only [if_neg c1] at kn ⊢
    by_cases c2:c0.1 < m
    . have lv:=tL ms cs k m c0 hm0 hc0 (by omega) c2
      simp only [if_pos c2,lv,if_true]
      by_cases z:((n+1:Nat):Int) - 1 - (c:Int) < c0.2
      . rw [if_pos z,if_pos (by omega)]
      . rw [if_neg z,if_neg (by omega)]
    . simp only [if_neg c2] at kn;omega
 | false =>
  have last:dH (cs.map (·.2))=(n:Int):=mD (Int.natCast_nonneg n) (by have:=F.le;omega) (by
   rcases Nat.eq_zero_or_pos n with z | z
   . left;omega
   . obtain ⟨c,mc,e⟩:=F.on n (by omega) (Int.le_refl _)
     exact .inr (Zl.mpr ⟨c,mc,e⟩)) fun r mr=>by
   obtain ⟨c,mc,rfl⟩:=Zl.mp mr;exact (F.lo c mc).2
  rw [hm,if_neg Zs,last] at h
  by_cases z:(n:Int)=0
  . rw [if_pos z] at h;cases h
  rw [if_neg z] at h;cases h;have F':=zu F (by omega)
  rw [if_neg Zs,F.cnr,F'.cnr,iC,iC];refine ⟨by rw [Zg,hl],by omega,fun c k c1 hc hk _=>?_⟩
  have hc0:cs[k]? = some (cs[k]'(by omega)):=Zp _
  have at':(cs.map (stp (n:Int)))[k]? = some (stp n (cs[k]'(by omega))):=by rw [ZD,hc0];rfl
  have bd:=F.lo _ (ZF hc0);rw [lh hc,lh (by omega),g8 _ _ _ hc0,g8 _ _ _ at']
  generalize cs[k]'(by omega)=c0 at *
  unfold stp
  by_cases y:c0.2=(n:Int)
  . rw [if_pos y,if_pos (by omega),if_neg (by show ¬ _ < (0:Int);omega)]
  . rw [if_neg y]
    by_cases x:((n+1:Nat):Int) - 1 - (c:Int) < c0.2
    . rw [if_pos x,if_pos (by omega)]
    . rw [if_neg x,if_neg (by omega)]
end Mth
namespace Dl
open PySem PySem.Spec PyProof.Rows L2
structure Gi (P:Program) (w:World) (H H':Hp) (s:Shared) (l:List Env) (B:Heap) (s':Shared):Prop where
 os:s'.os=s.os
 bare:AllBare s'.gens
 un:Un (frs l) [] H H' s.heap s'.heap
 hok:HOk P w H' B
 keepB:∀ b o,s.heap.get? b=some o->H b=none->b ∉ frs l->B.get? b=some o
 thereB:∀ b o,s.heap.get? b=some o->b ∉ frs l->∃ o',B.get? b=some o'
def Gh (P:Program) (w:World) (H H':Hp) (s:Shared) (l:List Env) (x C:Addr) (s':Shared):Prop :=
 ∃ (B:Heap) (t:Addr),Gi P w H H' s l B s'/\Heap.FlyingW B l x (.ref C) (.ref t) s'.heap
section
variable {P:Program} {w:World} {H H':Hp} {s s':Shared} {l:List Env} {B:Heap} {h':Heap}
end
def Ci (X:Cx) (C:Addr) (σ:L2.St) (H:Hp):Prop:=∀ (pins:List (Addr×Obj)) (s:Shared) (h':Heap) (e:Addr) (vs:List Value),L2.Inv X pins σ H s->Heap.MadeExcOf s.heap h' e (.ref C) vs->X.xe (.ref e) { s with heap:=h' }
def Fg (X:Cx) (C:Addr) (σ:L2.St) (H:Hp):Prop:=∀ (pins:List (Addr×Obj)) (H₀:Hp) (s:Shared) (x:Addr) (s':Shared),L2.Inv X pins σ H₀ s->Gh X.prog X.w H₀ H s X.stack x C s'->X.xe (.ref x) s'
section
variable {P:Program} {w:World} {K:Zr} {mg:Str->Option Value} {base:Heap} {N:List Str} {qual:Str} {scope:Scope} {f:Addr} {cd:Value} {A:Around} {outer:List Env} {s:Shared} {H:Hp} {E:XK}
end
end Dl
namespace Dl
open PySem PySem.Spec PyProof.Rows L2
inductive D where
 | non
 | bl (b:Bool)
 | int (i:Int)
 | str (x:Str)
 | tup (ds:List D)
 | lst (ds:List D)
 | seq (ds:List D)
 | ty (n:String)
 | dct
 | exc (C:Addr)
 | cls (C:Addr)
 | ms (ks:List Int) (ds:List D)
 | mf (ks:List Int) (ds:List D)
 | md (ks:List Int) (ds:List D)
def Gk (a:Addr):HO:=.ext fun h=>∃ o,h.get? a=some o/\o.cls=.type "dict"
def Gj (a C:Addr):HO:=.ext fun h=>∃ o vs,h.get? a=some o/\o.cls=.ref C/\o.data=.fields vs
mutual
inductive Rep (K:Zr) (H:Hp):V->D->Prop
 | non:Rep K H .non .non
 | bl (b:Bool):Rep K H (.bl b) (.bl b)
 | int (i:Int):Rep K H (.int i) (.int i)
 | str (x:Str):Rep K H (.str x) (.str x)
 | ty (n:String):Rep K H (.ty n) (.ty n)
 | tup {a:Addr} {vs:List V} {ds:List D} (h:SqT K H a vs) (r:Reps K H vs ds):Rep K H (.ref a) (.tup ds)
 | lst {a:Addr} {vs:List V} {ds:List D} (h:H a=some (.lst vs)) (r:Reps K H vs ds):Rep K H (.ref a) (.lst ds)
 | seq {a:Addr} {vs:List V} {ds:List D} (h:SqL K H a vs) (r:Reps K H vs ds):Rep K H (.ref a) (.seq ds)
 | dct {a:Addr} (h:H a=some (Gk a)):Rep K H (.ref a) .dct
 | exc {a C:Addr} (h:H a=some (Gj a C)):Rep K H (.ref a) (.exc C)
 | cls (C:Addr):Rep K H (.ref C) (.cls C)
 | ms {a:Addr} {ks:List Int} {vs:List V} {ds:List D} (h:Rd H a (.dK ((ks.map Sum.inl).zip vs))) (l:ks.length=ds.length) (r:Reps K H vs ds):Rep K H (.ref a) (.ms ks ds)
 | mf {a:Addr} {ks:List Int} {vs:List V} {ds:List D} (h:∃ o,H a=some (.frz o (.dK ((ks.map Sum.inl).zip vs)))) (l:ks.length=ds.length) (r:Reps K H vs ds):Rep K H (.ref a) (.mf ks ds)
 | md {a:Addr} {ks:List Int} {vs:List V} {ds:List D} (h:H a=some (.dK ((ks.map Sum.inl).zip vs))) (l:ks.length=ds.length) (r:Reps K H vs ds):Rep K H (.ref a) (.md ks ds)
inductive Reps (K:Zr) (H:Hp):List V->List D->Prop
 | nil:Reps K H [] []
 | cons {v:V} {d:D} {vs:List V} {ds:List D} (r:Rep K H v d) (t:Reps K H vs ds):Reps K H (v :: vs) (d :: ds)
end
theorem qB {K:Zr} {H H':Hp} {a:Addr} {xs:List V} (e:Same H H') (h:SqT K H a xs):SqT K H' a xs:=by
 rcases h with (h | ⟨o,h⟩) | h
 . exact .inl (.inl (e _ _ h))
 . exact .inl (.inr ⟨o,e _ _ h⟩)
 . exact .inr h
mutual
theorem Rep.mono {K:Zr} {H H':Hp} (e:Same H H'):∀ {v:V} {d:D},Rep K H v d->Rep K H' v d
 | _,_,.non=>.non
 | _,_,.bl b=>.bl b
 | _,_,.int i=>.int i
 | _,_,.str x=>.str x
 | _,_,.ty n=>.ty n
 | _,_,.tup h r=>.tup (qB e h) (Reps.mono e r)
 | _,_,.lst h r=>.lst (e _ _ h) (Reps.mono e r)
 | _,_,.seq h r=>.seq (e.seq h) (Reps.mono e r)
 | _,_,.dct h=>.dct (e _ _ h)
 | _,_,.exc h=>.exc (e _ _ h)
 | _,_,.cls C=>.cls C
 | _,_,.ms h l r=>.ms (h.imp (e _ _) fun ⟨o,h⟩=>⟨o,e _ _ h⟩) l (Reps.mono e r)
 | _,_,.mf ⟨o,h⟩ l r=>.mf ⟨o,e _ _ h⟩ l (Reps.mono e r)
 | _,_,.md h l r=>.md (e _ _ h) l (Reps.mono e r)
theorem Reps.mono {K:Zr} {H H':Hp} (e:Same H H'):∀ {vs:List V} {ds:List D},Reps K H vs ds->Reps K H' vs ds
 | _,_,.nil=>.nil
 | _,_,.cons r t=>.cons (Rep.mono e r) (Reps.mono e t)
end
theorem Reps.length {K:Zr} {H:Hp}:∀ {vs:List V} {ds:List D},Reps K H vs ds->vs.length=ds.length
 | _,_,.nil=>rfl
 | _,_,.cons _ t=>congrArg (· + 1) (Reps.length t)
theorem Reps.get {K:Zr} {H:Hp}:∀ {vs:List V} {ds:List D} {i:Nat} {d:D},Reps K H vs ds->ds[i]? = some d->∃ v,vs[i]? = some v/\Rep K H v d
 | _,_,_,_,.nil,e=>by simp at e
 | _,_,0,_,.cons r _,e=>by simp at e;subst e;exact ⟨_,rfl,r⟩
 | _,_,i+1,d,.cons _ t,e=>by
  obtain ⟨v,h1,h2⟩:=Reps.get (i:=i) (d:=d) t (by simpa using e)
  exact ⟨v,by simpa using h1,h2⟩
theorem Reps.getV {K:Zr} {H:Hp}:∀ {vs:List V} {ds:List D} {i:Nat} {v:V},Reps K H vs ds->vs[i]? = some v->∃ d,ds[i]? = some d/\Rep K H v d
 | _,_,_,_,.nil,e=>by simp at e
 | _,_,0,_,.cons r _,e=>by simp at e;subst e;exact ⟨_,rfl,r⟩
 | _,_,i+1,d,.cons _ t,e=>by
  obtain ⟨v,h1,h2⟩:=Reps.getV (i:=i) (v:=d) t (by simpa using e)
  exact ⟨v,by simpa using h1,h2⟩
theorem Reps.append {K:Zr} {H:Hp}:∀ {vs us:List V} {ds es:List D},Reps K H vs ds->Reps K H us es->Reps K H (vs++us) (ds++es)
 | _,_,_,_,.nil,s=>s
 | _,_,_,_,.cons r t,s=>.cons r (Reps.append t s)
theorem Reps.take {K:Zr} {H:Hp}:∀ {vs:List V} {ds:List D} (n:Nat),Reps K H vs ds->Reps K H (vs.take n) (ds.take n)
 | _,_,0,_=>.nil
 | _,_,_+1,.nil=>.nil
 | _,_,n+1,.cons r t=>.cons r (Reps.take n t)
theorem Reps.drop {K:Zr} {H:Hp}:∀ {vs:List V} {ds:List D} (n:Nat),Reps K H vs ds->Reps K H (vs.drop n) (ds.drop n)
 | _,_,0,r=>r
 | _,_,_+1,.nil=>.nil
 | _,_,n+1,.cons _ t=>Reps.drop n t
theorem Reps.ints {K:Zr} {H:Hp}:∀ (ns:List Int),Reps K H (ns.map V.int) (ns.map D.int)
 | []=>.nil
 | n :: r=>.cons (.int n) (Reps.ints r)
theorem Reps.atI {K:Zr} {H:Hp} {vs:List V} {ds:List D} {i:Int} {d:D} (r:Reps K H vs ds) (e:L2.atI ds i=some d):∃ v,L2.atI vs i=some v/\Rep K H v d:=by
 unfold L2.atI at e ⊢;rw [<- r.length] at e;obtain ⟨j,h1,h2⟩:=Za.mp e;obtain ⟨v,h3,h4⟩:=r.get h2;exact ⟨v,by rw [h1];exact h3,h4⟩
abbrev DS:=List (Option D)
structure RepS (K:Zr) (H:Hp) (σ:L2.St) (δ:DS):Prop where
 len:σ.length=δ.length
 val:∀ (i:Nat) (d:D),δ[i]? = some (some d)->∃ v,σ[i]? = some (some v)/\Rep K H v d
theorem RepS.mono {K:Zr} {H H':Hp} {σ:L2.St} {δ:DS} (e:Same H H') (h:RepS K H σ δ):RepS K H' σ δ :=
 ⟨h.len,fun i d q=>let ⟨v,a,b⟩:=h.val i d q;⟨v,a,b.mono e⟩⟩
theorem RepS.set {K:Zr} {H:Hp} {σ:L2.St} {δ:DS} {v:V} {d:D} (h:RepS K H σ δ) (i:Nat) (r:Rep K H v d):RepS K H (σ.set i (some v)) (δ.set i (some d)):=by
 refine ⟨by rw [List.length_set,List.length_set];exact h.len,fun j e q=>?_⟩
 have hl:=h.len;rw [List.getElem?_set] at q ⊢
 by_cases hj:i=j
 . subst hj;rw [if_pos rfl] at q ⊢
   by_cases hi:i < δ.length
   . rw [if_pos hi] at q;rw [if_pos (by omega)]
     have:d=e:=by simpa using q
     subst this;exact ⟨v,rfl,r⟩
   . rw [if_neg hi] at q;cases q
 . rw [if_neg hj] at q ⊢;exact h.val j e q
theorem RepS.start {K:Zr} {H:Hp} {N:List Str} {vs:List V} {ds:List D} (r:Reps K H vs ds):RepS K H (L2.start N vs) (ds.map some++List.replicate (N.length - ds.length) none):=by
 unfold L2.start;refine ⟨by simp [r.length],fun i d q=>?_⟩
 have hi:i < ds.length:=by
  by_cases hi:i < ds.length
  . exact hi
  . rw [ZE (by simpa using hi),List.getElem?_replicate] at q
    split at q <;> cases q
 rw [List.getElem?_append_left (by simpa using hi),ZD] at q
 obtain ⟨e,h1,h2⟩:=Zb.mp q;cases h2;obtain ⟨v,h3,h4⟩:=r.get h1;have hv:i < vs.length:=by rw [r.length];exact hi
 exact ⟨v,by rw [List.getElem?_append_left (by simpa using hv),ZD,h3];rfl,h4⟩
abbrev FD:=DS->Option D
def up (K:Zr) (f:FD):TE:=fun σ H Q=>∃ δ d,RepS K H σ δ/\f δ=some d/\∀ v H',Same H H'->Rep K H' v d->Q v H'
def PD (X:Cx) (e:Expr) (f:FD):Prop:=PE X e (up X.K f)
theorem imp {X:Cx} {e:Expr} {t t':TE} (h:PE X e t) (w:∀ σ H Q,t' σ H Q->t σ H Q):PE X e t':=fun pins s σ H Q I q=>h pins s σ H Q I (w σ H Q q)
theorem aJ {H:Hp} {p:Addr} (h:H p=none) (o:HO):Same H (upd H p o):=fun b u q=>by rw [al (aA q h)];exact q
def ae (i:Nat):FD:=fun δ=>match δ[i]? with
 | some (some d)=>some d
 | _=>none
def fC (d:D):FD:=fun _=>some d
def f2 (g:D->D->Option D) (fa fb:FD):FD:=fun δ=>(fa δ).bind fun x=>(fb δ).bind fun y=>g x y
def f1 (g:D->Option D) (fa:FD):FD:=fun δ=>(fa δ).bind g
section
variable {X:Cx} {a b e:Expr} {fa fb f:FD} {pos:Pos}
theorem ab (i:Nat) {x:Str} (hN:X.N[i]? = some x:=by rfl) (hv:Vis X.env.scope x:=by first | exact Or.inl rfl | exact Or.inr (Or.inl rfl) | exact Or.inr (Or.inr rfl)) (hd:(x == ("__debug__":Str))=false:=by decide)
 (hcd:(x == ("__classdict__":Str))=false:=by decide):PD X (.Name x pos) (ae i) :=
 imp (ja hN hv hd hcd) fun σ H Q ⟨δ,d,R,e,k⟩=>by
  unfold ae at e;split at e
  . rename_i d' h;cases e;obtain ⟨v,h1,h2⟩:=R.val i _ h;exact ⟨v,h1,k v H (Same.refl H) h2⟩
  . cases e
theorem ag {i j}:PD X (.Constant (.int i) j pos) (fC (.int i)):=imp C5 fun σ H Q ⟨δ,d,R,e,k⟩=>by cases e;exact k _ H (Same.refl H) (.int i)
theorem gT {b j}:PD X (.Constant (.bool b) j pos) (fC (.bl b)):=imp EQ fun σ H Q ⟨δ,d,R,e,k⟩=>by cases e;exact k _ H (Same.refl H) (.bl b)
theorem yt {j}:PD X (.Constant .none j pos) (fC .non):=imp C4 fun σ H Q ⟨δ,d,R,e,k⟩=>by cases e;exact k _ H (Same.refl H) .non
theorem nV {x:Str} {n:String} (hg:Gl X x) (hm:X.mg x=none) (hv:bootBuiltins x=some (.type n)) (hn:x ≠ "__name__":=by decide) (hd:(x == ("__debug__":Str))=false:=by decide):PD X (.Name x pos) (fC (.ty n)) :=
 imp (AL (v:=.ty n) hg hm hv rfl hn hd) fun σ H Q ⟨δ,d,R,e,k⟩=>by cases e;exact k _ H (Same.refl H) (.ty n)
def R2D (K:Zr) (r:R2) (g:D->D->Option D):Prop :=
 ∀ (x y:V) (H:Hp) (Q:VK) (a b d:D),Rep K H x a->Rep K H y b->g a b=some d->(∀ w H',Same H H'->Rep K H' w d->Q w H')->r x y H Q
theorem Bj {r:R2} {g:D->D->Option D} (hg:R2D X.K r g) {σ:L2.St} {H:Hp} {Q:VK} (h:up X.K (f2 g fa fb) σ H Q):tOp r (up X.K fa) (up X.K fb) σ H Q:=by
 obtain ⟨δ,d,R,e,k⟩:=h;unfold f2 at e;obtain ⟨x,ex,e⟩:=Za.mp e;obtain ⟨y,ey,e⟩:=Za.mp e;exact ⟨δ,x,R,ex,fun v H1 s1 r1=>⟨δ,y,R.mono s1,ey,fun w H2 s2 r2=>hg v w H2 Q x y d (r1.mono s2) r2 e fun z H' s3=>k z H' ((s1.trans s2).trans s3)⟩⟩
theorem lY {op:Operator} {r:R2} {g:D->D->Option D} (ho:OpR X (binaryOp op) r) (hg:R2D X.K r g) (ha:PD X a fa) (hb:PD X b fb):PD X (.BinOp a op b pos) (f2 g fa fb) :=
 imp (uT ho ha hb) fun _ _ _=>Bj hg
theorem pA {op:CmpOp} {r:R2} {g:D->D->Option D} (ho:OpR X (compareOp op) r) (hg:R2D X.K r g) (ha:PD X a fa) (hb:PD X b fb) (hm:behindInMarks op b=false):PD X (.Compare a [op] [b] pos) (f2 g fa fb) :=
 imp (AK ho ha hb hm) fun _ _ _=>Bj hg
theorem Da {r:R2} {g:D->D->Option D} (hr:IxR X r) (hg:R2D X.K r g) (ha:PD X a fa) (hb:PD X b fb) (hs:lu b):PD X (.Subscript a b pos) (f2 g fa fb) :=
 imp (BW hr ha hb hs) fun _ _ _=>Bj hg
theorem R2D.or {K:Zr} {r r':R2} {g g':D->D->Option D} (h:R2D K r g) (h':R2D K r' g'):R2D K (fun x y H Q=>r x y H Q \/ r' x y H Q) (fun a b=>(g a b).or (g' a b)):=by
 intro x y H Q a b d ra rb e k;cases q:g a b with
 | some z =>
  have e':(g a b).or (g' a b)=some d:=e;rw [q] at e';cases e';exact .inl (h x y H Q a b _ ra rb q k)
 | none =>
  have e':(g a b).or (g' a b)=some d:=e;rw [q] at e';exact .inr (h' x y H Q a b d ra rb e' k)
end
def Bd (x:Int):Prop:=x.natAbs < 2 ^ 9000
instance (x:Int):Decidable (Bd x):=by unfold Bd;exact inferInstance
theorem Bd.bits {x:Int} (h:Bd x):Builtin.Int.intBits x<=2 ^ 20:=by
 have h':x.natAbs < 2 ^ (2 ^ 20):=Zt h (Nat.pow_le_pow_right (by decide) (by decide))
 exact PySem.intBits_le_iff.mpr h'
theorem Bd.log {x:Int} (h:Bd x) (h0:x ≠ 0):x.natAbs.log2 < 9000:=(Nat.log2_lt (by omega)).mpr h
section
variable {X:Cx} {K:Zr}
def aG (i j:Int):Prop:=Bd i/\Bd j
theorem AT:OpR X (binaryOp .Mult) (rI aG fun i j=>.int (i*j)):=opI fun _ _ _ _ _ _ _ hc q=>mul_int q (.of_bits hc.1.bits hc.2.bits)
def dy (_ j:Int):Prop:=0 < j/\Bd j
theorem yG:OpR X (binaryOp .FloorDiv) (rI dy fun i j=>.int (i / j)):=opI fun i j _ _ _ _ _ hc q=>by
 have h1:(0:Int) < j:=hc.1;exact floordiv_int (by omega) (by rw [Int.fdiv_eq_ediv_of_nonneg i (by omega)];exact q) (.inl (PyProof.noPylong_of_log2 (hc.2.log (by omega))))
def gI0 (g:Int->Int->D):D->D->Option D
 | .int i,.int j=>some (g i j)
 | _,_=>none
def gI (C:Int->Int->Prop) [∀ i j,Decidable (C i j)] (g:Int->Int->D):D->D->Option D
 | .int i,.int j=>if C i j then some (g i j) else none
 | _,_=>none
instance (i j:Int):Decidable (aG i j):=by unfold aG;exact inferInstance
instance (i j:Int):Decidable (dy i j):=by unfold dy;exact inferInstance
instance (i j:Int):Decidable (kL i j):=by unfold kL;exact inferInstance
theorem kw {g:Int->Int->V} {g':Int->Int->D} (h:∀ H i j,Rep K H (g i j) (g' i j)):R2D K (rI0 g) (gI0 g'):=by
 intro x y H Q a b d ra rb e k;cases ra with
 | int i =>
  cases rb with
  | int j=>cases e;exact ⟨i,j,rfl,rfl,k _ H (Same.refl H) (h H i j)⟩
  | _=>cases e
 | _=>cases e
theorem xU {C:Int->Int->Prop} [∀ i j,Decidable (C i j)] {g:Int->Int->V} {g':Int->Int->D} (h:∀ H i j,Rep K H (g i j) (g' i j)):R2D K (rI C g) (gI C g'):=by
 intro x y H Q a b d ra rb e k;cases ra with
 | int i =>
  cases rb with
  | int j =>
   have e':(if C i j then some (g' i j) else none)=some d:=e
   by_cases hc:C i j
   . rw [if_pos hc] at e';cases e';exact ⟨i,j,rfl,rfl,hc,k _ H (Same.refl H) (h H i j)⟩
   . rw [if_neg hc] at e';cases e'
  | _=>cases e
 | _=>cases e
end
def wT:D->D->Option D
 | .lst xs,.lst ys=>if xs.length+ys.length<=1000 then some (.lst (xs++ys)) else none
 | _,_=>none
theorem bn {n:Nat} (h:n<=1000):n<=sizeLine:=Nat.le_of_lt (jT h)
theorem xT {K:Zr}:R2D K EH wT:=by
 intro x y H Q a b d ra rb e k;cases ra with
 | @lst p xs ds hp rp =>
  cases rb with
  | @lst q ys es hq rq =>
   have e':(if ds.length+es.length<=1000 then some (D.lst (ds++es)) else none)=some d:=e
   by_cases hc:ds.length+es.length<=1000
   . rw [if_pos hc] at e';cases e';refine ⟨p,q,xs,ys,rfl,rfl,hp,hq,bn (by rw [rp.length,rq.length];exact hc),fun l hl=>?_⟩
     have s:=aJ hl (.lst (xs++ys));exact k _ _ s (.lst aw ((rp.append rq).mono s))
   . rw [if_neg hc] at e';cases e'
  | _=>cases e
 | _=>cases e
def jd:D->D->Option D:=fun a b=>(gI0 (fun i j=>.int (i+j)) a b).or (wT a b)
def gIx:D->D->Option D
 | .tup ds,.int i=>L2.atI ds i
 | .lst ds,.int i=>L2.atI ds i
 | .seq ds,.int i=>L2.atI ds i
 | _,_=>none
theorem BS {K:Zr}:R2D K (fun x y H Q=>ED K x y H Q \/ EC K x y H Q) gIx:=by
 intro x y H Q a b d ra rb e k;cases rb with
 | int i =>
  cases ra with
  | @tup p vs ds hp rp =>
   have e':L2.atI ds i=some d:=e;obtain ⟨v,h1,h2⟩:=rp.atI e';exact .inr ⟨p,vs,i,v,rfl,rfl,hp,h1,k v H (Same.refl H) h2⟩
  | @lst p vs ds hp rp =>
   have e':L2.atI ds i=some d:=e;obtain ⟨v,h1,h2⟩:=rp.atI e';exact .inl ⟨p,vs,i,v,rfl,rfl,SqL.of hp,h1,k v H (Same.refl H) h2⟩
  | @seq p vs ds hp rp =>
   have e':L2.atI ds i=some d:=e;obtain ⟨v,h1,h2⟩:=rp.atI e';exact .inl ⟨p,vs,i,v,rfl,rfl,hp,h1,k v H (Same.refl H) h2⟩
  | _=>cases e
 | _=>cases ra <;> cases e
section
variable {X:Cx} {a b e:Expr} {fa fb f:FD} {pos:Pos}
theorem dC (ha:PD X a fa) (hb:PD X b fb):PD X (.BinOp a .Add b pos) (f2 jd fa fb):=lY (op_add.or pD) ((kw fun _ _ _=>.int _).or xT) ha hb
theorem jb (ha:PD X a fa) (hb:PD X b fb):PD X (.BinOp a .Sub b pos) (f2 (gI0 fun i j=>.int (i - j)) fa fb):=lY Dc (kw fun _ _ _=>.int _) ha hb
theorem cj (ha:PD X a fa) (hb:PD X b fb):PD X (.BinOp a .Mult b pos) (f2 (gI aG fun i j=>.int (i*j)) fa fb):=lY AT (xU fun _ _ _=>.int _) ha hb
theorem cL (ha:PD X a fa) (hb:PD X b fb):PD X (.BinOp a .FloorDiv b pos) (f2 (gI dy fun i j=>.int (i / j)) fa fb):=lY yG (xU fun _ _ _=>.int _) ha hb
theorem eY (ha:PD X a fa) (hb:PD X b fb):PD X (.BinOp a .Mod b pos) (f2 (gI (fun _ j=>0 < j) fun i j=>.int (i % j)) fa fb):=lY Df (xU fun _ _ _=>.int _) ha hb
theorem yr (ha:PD X a fa) (hb:PD X b fb):PD X (.BinOp a .Pow b pos) (f2 (gI kL fun i j=>.int (i ^ j.toNat)) fa fb):=lY Dd (xU fun _ _ _=>.int _) ha hb
theorem av (ha:PD X a fa) (hb:PD X b fb) (hs:lu b:=by intro _ _;rfl):PD X (.Subscript a b pos) (f2 gIx fa fb):=Da (ix_list.or yZ) BS ha hb hs
def j6:D->Option D
 | .int i=>some (.int (-i))
 | _=>none
theorem gd (ha:PD X a fa):PD X (.UnaryOp .USub a pos) (f1 j6 fa):=imp (EO Cp ha) fun σ H Q ⟨δ,d,R,e,k⟩=>by
 unfold f1 at e;obtain ⟨x,ex,e⟩:=Za.mp e;refine ⟨δ,x,R,ex,fun v H1 s1 r1=>?_⟩
 cases r1 with
 | int i=>cases e;exact ⟨i,rfl,k _ H1 s1 (.int _)⟩
 | _=>cases e
end
abbrev FT:=DS->Option Bool
def upT (K:Zr) (f:FT):TT:=fun σ H Q=>∃ δ b,RepS K H σ δ/\f δ=some b/\∀ H',Same H H'->Q b H'
def PTD (X:Cx) (e:Expr) (f:FT):Prop:=PT X e (upT X.K f)
def PWD (X:Cx) (e:Expr) (f:FT):Prop:=PW X e (upT X.K f)
theorem DF {X:Cx} {e:Expr} {t t':TT} (h:PT X e t) (w:∀ σ H Q,t' σ H Q->t σ H Q):PT X e t':=fun pins s σ H Q I q=>h pins s σ H Q I (w σ H Q q)
theorem E2 {X:Cx} {e:Expr} {t t':TT} (h:PW X e t) (w:∀ σ H Q,t' σ H Q->t σ H Q):PW X e t':=fun wh pins s σ H Q I q=>h wh pins s σ H Q I (w σ H Q q)
def asB:D->Option Bool
 | .bl b=>some b
 | _=>none
def fT (f:FD):FT:=fun δ=>(f δ).bind asB
def bG (f:FT):FT:=fun δ=>(f δ).map not
def dh (f g:FT):FT:=fun δ=>(f δ).bind fun b=>match b with
 | true=>g δ
 | false=>some false
def mK (f g:FT):FT:=fun δ=>(f δ).bind fun b=>match b with
 | true=>some true
 | false=>g δ
section
variable {X:Cx} {a b e:Expr} {fa fb f:FD} {ta tb:FT} {rest:List Expr} {pos:Pos}
theorem z6 {K:Zr} {t:TE} (w:∀ σ H Q,up K f σ H Q->t σ H Q) {σ:L2.St} {H:Hp} {Q:Bool->Hp->Prop} (h:upT K (fT f) σ H Q):t σ H fun x H1=>∃ c,x=.bl c/\Q c H1:=by
 obtain ⟨δ,b,R,e,k⟩:=h;unfold fT at e;obtain ⟨d,ed,e⟩:=Za.mp e;refine w σ H _ ⟨δ,d,R,ed,fun v H' s r=>?_⟩
 cases r with
 | bl c=>cases e;exact ⟨_,rfl,k H' s⟩
 | _=>cases e
theorem ca (h:PD X e f) (he:∀ whole,isTrue e X.env whole=(do let v <- whole;standAt e.pos;holding [v] (truthy v)):=by intro _;rfl):PTD X e (fT f) :=
 DF (CS h he) fun _ _ _ q=>z6 (fun _ _ _ z=>z) q
theorem dQ {op:CmpOp} {r:R2} {g:D->D->Option D} (ho:OpR X (compareOp op) r) (hg:R2D X.K r g) (ha:PD X a fa) (hb:PD X b fb) (hm:behindInMarks op b=false):PTD X (.Compare a [op] [b] pos) (fT (f2 g fa fb)) :=
 DF (AE ho ha hb hm) fun _ _ _ q=>z6 (fun _ _ _ z=>Bj hg z) q
theorem dP (ha:PTD X a ta):PTD X (.UnaryOp .Not a pos) (bG ta):=DF (CT ha) fun σ H Q ⟨δ,b,R,e,k⟩=>by
 unfold bG at e;obtain ⟨c,ec,e⟩:=Zb.mp e;exact ⟨δ,c,R,ec,fun H' s=>by have:=k H' s;rw [<- e] at this;exact this⟩
theorem PWD.pt (h:PWD X e ta):PTD X e ta:=h _
theorem lR (ha:PTD X a ta):PWD X (.BoolOp .And [a] pos) ta:=AA ha
theorem pc (ha:PTD X a ta):PWD X (.BoolOp .Or [a] pos) ta:=CH ha
theorem pe (ha:PTD X a ta) (hb:PWD X (.BoolOp .And (b :: rest) pos) tb):PWD X (.BoolOp .And (a :: b :: rest) pos) (dh ta tb):=E2 (CJ ha hb) fun σ H Q ⟨δ,c,R,e,k⟩=>by
 unfold dh at e;obtain ⟨d,ed,e⟩:=Za.mp e;refine ⟨δ,d,R,ed,fun H' s=>?_⟩
 cases d with
 | true=>exact ⟨δ,c,R.mono s,e,fun H2 s2=>k H2 (s.trans s2)⟩
 | false=>cases e;exact k H' s
theorem pd (ha:PTD X a ta) (hb:PWD X (.BoolOp .Or (b :: rest) pos) tb):PWD X (.BoolOp .Or (a :: b :: rest) pos) (mK ta tb):=E2 (EK ha hb) fun σ H Q ⟨δ,c,R,e,k⟩=>by
 unfold mK at e;obtain ⟨d,ed,e⟩:=Za.mp e;refine ⟨δ,d,R,ed,fun H' s=>?_⟩
 cases d with
 | false=>exact ⟨δ,c,R.mono s,e,fun H2 s2=>k H2 (s.trans s2)⟩
 | true=>cases e;exact k H' s
def gF (f g:FD):FD:=fun δ=>(f δ).bind fun x=>match x with
 | .bl true=>g δ
 | .bl false=>some (.bl false)
 | _=>none
def E9:D->Option D
 | .bl b=>some (.bl (!b))
 | _=>none
theorem pw {op} (h:PD X a f):PD X (.BoolOp op [a] pos) f:=C2 h
theorem pB (ha:PD X a fa) (hb:PD X (.BoolOp .And (b :: rest) pos) fb):PD X (.BoolOp .And (a :: b :: rest) pos) (gF fa fb):=imp (C7 ha hb) fun σ H Q ⟨δ,d,R,e,k⟩=>by
 unfold gF at e;obtain ⟨x,ex,e⟩:=Za.mp e;refine ⟨δ,x,R,ex,fun v H1 s1 r1=>?_⟩
 cases r1 with
 | bl c =>
  refine ⟨c,rfl,?_⟩;cases c with
  | true=>rw [if_pos rfl];exact ⟨δ,d,R.mono s1,e,fun w H2 s2=>k w H2 (s1.trans s2)⟩
  | false=>rw [if_neg Zs];cases e;exact k _ H1 s1 (.bl false)
 | _=>cases e
theorem tj (ha:PD X a fa):PD X (.UnaryOp .Not a pos) (f1 E9 fa):=imp (C3 ha) fun σ H Q ⟨δ,d,R,e,k⟩=>by
 unfold f1 at e;obtain ⟨x,ex,e⟩:=Za.mp e;refine ⟨δ,x,R,ex,fun v H1 s1 r1=>?_⟩
 cases r1 with
 | bl c=>cases e;exact ⟨c,rfl,k _ H1 s1 (.bl _)⟩
 | _=>cases e
end
abbrev FA:=DS->Option (List D)
def upA (K:Zr) (n:Nat) (f:FA):TA:=fun σ H Q=>∃ δ ds,RepS K H σ δ/\f δ=some ds/\∀ vs H',Same H H'->Reps K H' vs ds->vs.length=n->Q vs H'
def PAD (X:Cx) (es:List Expr) (f:FA):Prop:=PA X es (upA X.K es.length f)
theorem pP {X:Cx} {es:List Expr} {t t':TA} (h:PA X es t) (w:∀ σ H Q,t' σ H Q->t σ H Q):PA X es t':=fun pos pins s σ H Q I q=>h pos pins s σ H Q I (w σ H Q q)
def ah:FA:=fun _=>some []
def ac (f:FD) (g:FA):FA:=fun δ=>(f δ).bind fun x=>(g δ).bind fun xs=>some (x :: xs)
def bf (K:Zr) (n:Nat) (G:List D->Option D):Sp:=fun vs H Q _=>vs.length=n/\∃ ds d,Reps K H vs ds/\G ds=some d/\∀ v H',Same H H'->Rep K H' v d->Q v H'
def cC (g:FA):FD:=fun δ=>(g δ).bind fun ds=>some (.tup ds)
def rQ (g:FA):FD:=fun δ=>(g δ).bind fun ds=>some (.lst ds)
def ak (G:List D->Option D) (g:FA):FD:=fun δ=>(g δ).bind G
section
variable {X:Cx} {e:Expr} {es:List Expr} {f:FD} {g:FA} {pos p:Pos}
theorem af:PAD X [] ah:=pP cY fun σ H Q ⟨δ,ds,R,e,k⟩=>by cases e;exact k [] H (Same.refl H) .nil rfl
theorem aa (ha:PD X e f) (hr:PAD X es g) (hs:starEach (e :: es) X.env=(false,eval e X.env) :: starEach es X.env:=by rfl):PAD X (e :: es) (ac f g):=pP (bz ha hr hs) fun σ H Q ⟨δ,ds,R,q,k⟩=>by
 unfold ac at q;obtain ⟨x,ex,q⟩:=Za.mp q;obtain ⟨xs,exs,q⟩:=Za.mp q;cases q;exact ⟨δ,x,R,ex,fun v H1 s1 r1=>⟨δ,xs,R.mono s1,exs,fun vs H2 s2 r2 l=>k (v :: vs) H2 (s1.trans s2) (.cons (r1.mono s2) r2) (congrArg (· + 1) l)⟩⟩
theorem bM {x1} (h:PAD X es g) (hz:es.length<=1000:=by decide):PD X (.Tuple es x1 pos) (cC g):=imp (sZ h) fun σ H Q ⟨δ,d,R,q,k⟩=>by
 unfold cC at q;obtain ⟨ds,eds,q⟩:=Za.mp q;cases q;refine ⟨δ,ds,R,eds,fun vs H1 s1 r1 l=>⟨bn (by rw [l];exact hz),fun p hp=>?_⟩⟩
 have s:=aJ hp (.tup vs);exact k _ _ (s1.trans s) (.tup (SqT.of aw) (r1.mono s))
theorem yw (h:PAD X es g) (hz:es.length<=1000:=by decide):PD X (.List es pos) (rQ g):=imp (s8 h) fun σ H Q ⟨δ,d,R,q,k⟩=>by
 unfold rQ at q;obtain ⟨ds,eds,q⟩:=Za.mp q;cases q;refine ⟨δ,ds,R,eds,fun vs H1 s1 r1 l=>⟨bn (by rw [l];exact hz),fun p hp=>?_⟩⟩
 have s:=aJ hp (.lst vs);exact k _ _ (s1.trans s) (.lst aw (r1.mono s))
theorem AQ {k n:Nat} {x:Str} {f:Addr} {fd:FuncData} {ps:List Str} {G:List D->Option D} (F:FnOk X.prog X.w X.K X.mg X.base CX0 k f fd ps (bf X.K n G)) (hr:Room k X.A) (hg:Gl X x) (hm:X.mg x=some (.ref f)) (hk:PySem.W.keepIn X.K (.ref f)=true) (hb:Binds X.K fd ps [])
 (ha:PAD X (e :: es) g) (hn:(e :: es).length=n:=by rfl) (hdb:(x == ("__debug__":Str))=false:=by decide) (he:starEach (e :: es) X.env=(false,eval e X.env) :: starEach es X.env:=by rfl) (hpl:(backTo pos (starEach es X.env)).any (·.1)=false:=by rfl) :
 PD X (.Call (.Name x p) (e :: es) [] pos) (ak G g):=imp (kX F hr hg hm hk hb .nil (uW) ha hdb he hpl) fun σ H Q ⟨δ,d,R,q,k⟩=>by
 unfold ak at q;obtain ⟨ds,eds,q⟩:=Za.mp q;refine ⟨δ,ds,R,eds,fun vs H1 s1 r1 l=>?_⟩
 show bf X.K n G (vs++[]) H1 Q E0;rw [List.append_nil];exact ⟨l.trans hn,ds,d,r1,q,fun v H' s=>k v H' (s1.trans s)⟩
def gG (K:Zr) (r:List V->Hp->VK->Prop) (G:List D->Option D):Prop :=
 ∀ (xs:List V) (H:Hp) (Q:VK) (ds:List D) (d:D),Reps K H xs ds->G ds=some d->(∀ w H',Same H H'->Rep K H' w d->Q w H')->r xs H Q
theorem zn {r:List V->Hp->VK->Prop} {G:List D->Option D} {n:Nat} (hG:gG X.K r G) {σ:L2.St} {H:Hp} {Q:VK} (h:up X.K (ak G g) σ H Q):tCB r (upA X.K n g) σ H Q:=by
 obtain ⟨δ,d,R,q,k⟩:=h;unfold ak at q;obtain ⟨ds,eds,q⟩:=Za.mp q;exact ⟨δ,ds,R,eds,fun vs H1 s1 r1 _=>hG vs H1 Q ds d r1 q fun w H' s=>k w H' (s1.trans s)⟩
theorem aL {id:String} {x:Str} {r:List V->Hp->VK->Prop} {G:List D->Option D} (hc:cW X (.builtin id) r) (hG:gG X.K r G) (hg:Gl X x) (hm:X.mg x=none) (hv:bootBuiltins x=some (.builtin id)) (ha:PAD X (e :: es) g) (hn:x ≠ "__name__":=by decide) (hdb:(x == ("__debug__":Str))=false:=by decide)
 (he:starEach (e :: es) X.env=(false,eval e X.env) :: starEach es X.env:=by rfl) (hpl:(backTo pos (starEach es X.env)).any (·.1)=false:=by rfl):PD X (.Call (.Name x p) (e :: es) [] pos) (ak G g) :=
 imp (jK hc hg hm hv ha hn hdb he hpl) fun _ _ _ h=>zn hG h
theorem nW {T:String} {x:Str} {r:List V->Hp->VK->Prop} {G:List D->Option D} (hc:cW X (.type T) r) (hG:gG X.K r G) (hg:Gl X x) (hm:X.mg x=none) (hv:bootBuiltins x=some (.type T)) (ha:PAD X (e :: es) g) (hn:x ≠ "__name__":=by decide) (hdb:(x == ("__debug__":Str))=false:=by decide)
 (he:starEach (e :: es) X.env=(false,eval e X.env) :: starEach es X.env:=by rfl) (hpl:(backTo pos (starEach es X.env)).any (·.1)=false:=by rfl):PD X (.Call (.Name x p) (e :: es) [] pos) (ak G g) :=
 imp (fH hc hg hm hv ha hn hdb he hpl) fun _ _ _ h=>zn hG h
end
theorem fF {K:Zr} {H:Hp} {xs:List V} {d:D} (r:Reps K H xs [d]):∃ x,xs=[x]/\Rep K H x d:=by
 cases r with
 | cons a t=>cases t;exact ⟨_,rfl,a⟩
theorem uI {K:Zr} {H:Hp} {xs:List V} {d e:D} (r:Reps K H xs [d,e]):∃ x y,xs=[x,y]/\Rep K H x d/\Rep K H y e:=by
 cases r with
 | cons a t =>
  obtain ⟨y,h1,h2⟩:=fF t;subst h1;exact ⟨_,y,rfl,a,h2⟩
def Bq:List D->Option D
 | [.int i]=>some (.int (i.natAbs:Int))
 | _=>none
theorem t9 {K:Zr}:gG K (fun xs H Q=>∃ i,xs=[.int i]/\Q (.int (if i < 0 then -i else i)) H) Bq:=by
 intro xs H Q ds d r e k;unfold Bq at e;split at e
 . rename_i i;cases e;obtain ⟨x,rfl,rx⟩:=fF r;cases rx;refine ⟨i,rfl,?_⟩;have e:(if i < 0 then -i else i)=(i.natAbs:Int):=by split <;> omega
   rw [e];exact k _ H (Same.refl H) (.int _)
 . cases e
def DI:List D->Option D
 | [.int i]=>some (.int i)
 | [.bl b]=>some (.int (if b then 1 else 0))
 | _=>none
theorem DQ {K:Zr}:gG K (fun xs H Q=>(∃ i,xs=[.int i]/\Q (.int i) H) \/ ∃ k,xs=[.bl k]/\Q (.int (if k then 1 else 0)) H) DI:=by
 intro xs H Q ds d r e k;unfold DI at e;split at e
 . rename_i i;cases e;obtain ⟨x,rfl,rx⟩:=fF r;cases rx;exact .inl ⟨i,rfl,k _ H (Same.refl H) (.int _)⟩
 . rename_i b;cases e;obtain ⟨x,rfl,rx⟩:=fF r;cases rx;exact .inr ⟨b,rfl,k _ H (Same.refl H) (.int _)⟩
 . cases e
def dF:List D->Option D
 | [.tup ds]=>some (.int ds.length)
 | [.lst ds]=>some (.int ds.length)
 | [.seq ds]=>some (.int ds.length)
 | _=>none
theorem c6 {K:Zr}:gG K (fun xs H Q=>∃ p ys,xs=[.ref p]/\(SqL K H p ys \/ SqT K H p ys)/\Q (.int ys.length) H) dF:=by
 intro xs H Q ds d r e k;unfold dF at e;split at e
 . cases e;obtain ⟨x,rfl,rx⟩:=fF r;cases rx with
   | @tup p vs _ hp rp=>exact ⟨p,vs,rfl,.inr hp,by rw [rp.length];exact k _ H (Same.refl H) (.int _)⟩
 . cases e;obtain ⟨x,rfl,rx⟩:=fF r;cases rx with
   | @lst p vs _ hp rp=>exact ⟨p,vs,rfl,.inl (SqL.of hp),by rw [rp.length];exact k _ H (Same.refl H) (.int _)⟩
 . cases e;obtain ⟨x,rfl,rx⟩:=fF r;cases rx with
   | @seq p vs _ hp rp=>exact ⟨p,vs,rfl,.inl hp,by rw [rp.length];exact k _ H (Same.refl H) (.int _)⟩
 . cases e
def Fp:D->Option String
 | .non=>some "NoneType"
 | .bl _=>some "bool"
 | .int _=>some "int"
 | .str _=>some "str"
 | .tup _=>some "tuple"
 | .lst _=>some "list"
 | .seq _=>some "list"
 | .dct=>some "dict"
 | .ty _=>none
 | .exc _=>none
 | .cls _=>none
 | .ms _ _=>none
 | .mf _ _=>none
 | .md _ _=>none
def oH (n:String) (d:D) (b:Bool):Prop:=∃ t,Fp d=some t/\∀ K:Zr,PySem.W.kitOne K (.type t) (.type n)=some b
def EE (K:Zr):List V->Hp->VK->Prop:=fun xs H Q=>∃ x n d b,xs=[x,.ty n]/\Rep K H x d/\oH n d b/\Q (.bl b) H
theorem fJ {X:Cx}:cW X (.builtin "isinstance") (EE X.K):=by
 intro pins s σ H xs us Q I r h;obtain ⟨x,n,d,b,rfl,rx,⟨t,ht,hk⟩,q⟩:=h;obtain ⟨u,w',rfl,ru,rw'⟩:=Ed r;cases (show w'=Value.type n from rw')
 have e:=hk X.K;have fin:∀ tk,EP X pins σ Q (.bool b) { s with toks:=tk }:=fun tk=>⟨.bl b,H,I.tok _,rfl,q⟩
 cases rx with
 | non=>cases ht;cases (show u=Value.none from ru);exact PySem.W.kia_one PySem.W.kitx_none I.kIn True.intro e (fun z=>nomatch z) fin
 | bl y=>cases ht;cases (show u=Value.bool y from ru);exact PySem.W.kia_one PySem.W.kitx_bool I.kIn True.intro e (fun z=>nomatch z) fin
 | int i=>cases ht;obtain ⟨t,z⟩:=(show ∃ t,u=Value.int i t from ru);cases z;exact PySem.W.kia_one PySem.W.kitx_int I.kIn True.intro e (fun z=>nomatch z) fin
 | str y=>cases ht;obtain ⟨t,z⟩:=(show ∃ t,u=Value.str y t from ru);cases z;exact PySem.W.kia_one PySem.W.kitx_str I.kIn True.intro e (fun z=>nomatch z) fin
 | ty n=>cases ht
 | exc h=>cases ht
 | cls C=>cases ht
 | ms h l r=>cases ht
 | mf h l r=>cases ht
 | md h l r=>cases ht
 | @dct a h =>
  cases ht;cases (show u=Value.ref a from ru)
  exact PySem.W.kia_one PySem.W.kitx_dict I.kIn (I.hok a _ h).1 e (fun z=>nomatch z) fin
 | @tup a vs ds hp rp =>
  cases ht;cases (show u=Value.ref a from ru)
  obtain ⟨its,_,⟨o,h1,h2,_⟩,_⟩:=I.tuple hp;exact PySem.W.kia_one PySem.W.kitx_tuple I.kIn ⟨o,h1,h2⟩ e (fun z=>nomatch z) fin
 | @lst a vs ds hp rp =>
  cases ht;cases (show u=Value.ref a from ru)
  obtain ⟨its,_,⟨o,n',h1,h2,_⟩,_⟩:=I.list (SqL.of (K:=X.K) hp);exact PySem.W.kia_one PySem.W.kitx_list I.kIn ⟨o,h1,h2⟩ e (fun z=>nomatch z) fin
 | @seq a vs ds hp rp =>
  cases ht;cases (show u=Value.ref a from ru)
  obtain ⟨its,_,⟨o,n',h1,h2,_⟩,_⟩:=I.list hp;exact PySem.W.kia_one PySem.W.kitx_list I.kIn ⟨o,h1,h2⟩ e (fun z=>nomatch z) fin
def isInt:D->Option Bool
 | .int _=>some true
 | .bl _=>some true
 | .ty _=>none
 | .exc _=>none
 | .cls _=>none
 | .ms _ _=>none
 | .mf _ _=>none
 | .md _ _=>none
 | _=>some false
def DE:D->Option Bool
 | .bl _=>some true
 | .ty _=>none
 | .exc _=>none
 | .cls _=>none
 | .ms _ _=>none
 | .mf _ _=>none
 | .md _ _=>none
 | _=>some false
def rF:D->Option Bool
 | .tup _=>some true
 | .ty _=>none
 | .exc _=>none
 | .cls _=>none
 | .ms _ _=>none
 | .mf _ _=>none
 | .md _ _=>none
 | _=>some false
def rL (n:String) (p:D->Option Bool):List D->Option D
 | [d,.ty m]=>if m=n then (p d).map D.bl else none
 | _=>none
theorem j7 {K:Zr} {n:String} {p:D->Option Bool} (hp:∀ d b,p d=some b->oH n d b):gG K (EE K) (rL n p):=by
 intro xs H Q ds d r e k;unfold rL at e;split at e
 . rename_i x m
   by_cases hm:m=n
   . subst hm;rw [if_pos rfl] at e;obtain ⟨b,hb,e⟩:=Zb.mp e;cases e;obtain ⟨v,w,rfl,rv,rw'⟩:=uI r;cases rw';exact ⟨v,m,x,b,rfl,rv,hp x b hb,k _ H (Same.refl H) (.bl b)⟩
   . rw [if_neg hm] at e;cases e
 . cases e
theorem pM (n:String) (K:Zr):PySem.W.kitOne K (.type n) (.type n)=some true:=by
 unfold PySem.W.kitOne;rw [if_pos (beq_self_eq_true _)]
theorem qP (d:D) (b:Bool) (h:isInt d=some b):oH "int" d b:=by
 cases d <;> (first | cases h) <;> first
  | exact ⟨_,rfl,fun K=>pM _ K⟩
  | exact ⟨_,rfl,fun K=>by kernel_rfl⟩
theorem nX (d:D) (b:Bool) (h:DE d=some b):oH "bool" d b:=by
 cases d <;> (first | cases h) <;> first
  | exact ⟨_,rfl,fun K=>pM _ K⟩
  | exact ⟨_,rfl,fun K=>by kernel_rfl⟩
theorem yJ (d:D) (b:Bool) (h:rF d=some b):oH "tuple" d b:=by
 cases d <;> (first | cases h) <;> first
  | exact ⟨_,rfl,fun K=>pM _ K⟩
  | exact ⟨_,rfl,fun K=>by kernel_rfl⟩
def toV:D->Option V
 | .non=>some .non
 | .bl b=>some (.bl b)
 | .int i=>some (.int i)
 | .str x=>some (.str x)
 | _=>none
def cp (d:D):Bool:=(toV d).isSome
def eqF:D->D->Bool
 | .non,.non=>true
 | .bl a,.bl b=>a == b
 | .bl a,.int b=>(if a then 1 else 0) == b
 | .int a,.bl b=>a == (if b then 1 else 0)
 | .int a,.int b=>a == b
 | .str a,.str b=>a == b
 | _,_=>false
def ny:List D->List D->Bool
 | [],[]=>true
 | a :: as,b :: bs=>eqF a b && ny as bs
 | _,_=>false
theorem Rep.flat {K:Zr} {H:Hp} {v:V} {d:D} (r:Rep K H v d) (f:cp d=true):zB v=true/\toV d=some v:=by
 cases r <;> first | exact ⟨rfl,rfl⟩ | (exact absurd f (by decide)) | (exact absurd f Zs)
theorem pY {a b:D} {x y:V} (ha:toV a=some x) (hb:toV b=some y):eqV x y=eqF a b:=by
 cases a <;> (first | cases ha) <;> cases b <;> (first | cases hb) <;> rfl
theorem mL:∀ (as bs:List D) (e:Nat->Bool),(∀ j a b,as[j]? = some a->bs[j]? = some b->e j=eqF a b)->((List.range (min as.length bs.length)).all e && as.length == bs.length)=ny as bs
 | [],[],e,_=>rfl
 | [],b :: bs,e,_=>by simp [ny]
 | a :: as,[],e,_=>by simp [ny]
 | a :: as,b :: bs,e,h=>by
  have ih:=mL as bs (fun j=>e (j+1)) (fun j x y h1 h2=>h (j+1) x y (by simpa using h1) (by simpa using h2))
  have h0:e 0=eqF a b:=h 0 a b rfl rfl;show ((List.range (min (as.length+1) (bs.length+1))).all e && (as.length+1) == (bs.length+1))=(eqF a b && ny as bs);rw [<- ih,<- h0,show min (as.length+1) (bs.length+1)=min as.length bs.length+1 by omega,List.range_succ_eq_map,List.all_cons,List.all_map,Bool.and_assoc]
  have:((as.length+1) == (bs.length+1))=(as.length == bs.length):=by rw [Bool.eq_iff_iff];simp
  rw [this];rfl
def wS:D->D->Option Bool
 | .tup as,.tup bs=>if as.all cp && bs.all cp then some (ny as bs) else none
 | .lst as,.lst bs=>if as.all cp && bs.all cp then some (ny as bs) else none
 | .non,.tup _=>some false
 | .tup _,.non=>some false
 | .non,.lst _=>some false
 | .lst _,.non=>some false
 | a,b=>if cp a && cp b then some (eqF a b) else none
def gEq (a b:D):Option D:=(wS a b).map D.bl
def gNe (a b:D):Option D:=(wS a b).map fun c=>D.bl (!c)
section
variable {K:Zr} {H:Hp}
theorem jM {A:Around} {s:Shared} {vs ws:List V} {us zs:List Value} {as bs:List D} (r1:Vals vs us) (r2:Vals ws zs) (q1:Reps K H vs as) (q2:Reps K H ws bs) (g1:as.all cp=true) (g2:bs.all cp=true) :
 ∀ j (h1:j < us.toArray.size) (h2:j < zs.toArray.size),SeqAt.EqAt A s us.toArray[j] zs.toArray[j] (eqF (as.getD j .non) (bs.getD j .non)):=by
 intro j h1 h2;have l1:=r1.length;have l2:=r2.length;rw [Zx] at h1 h2;have k1:j < vs.length:=by omega
 have k2:j < ws.length:=by omega
 obtain ⟨u,e1,p1⟩:=r1.get (i:=j) (x:=vs[j]) (by simp [k1])
 obtain ⟨z,e2,p2⟩:=r2.get (i:=j) (x:=ws[j]) (by simp [k2])
 obtain ⟨a,e3,p3⟩:=q1.getV (i:=j) (v:=vs[j]) (by simp [k1])
 obtain ⟨b,e4,p4⟩:=q2.getV (i:=j) (v:=ws[j]) (by simp [k2])
 have f1:cp a=true:=List.all_eq_true.mp g1 a (ZF e3);have f2:cp b=true:=List.all_eq_true.mp g2 b (ZF e4);have w1:us.toArray[j]=u:=by
  have:us[j]? = some us[j]:=by simp [h1]
  rw [this] at e1;simpa using e1
 have w2:zs.toArray[j]=z:=by
  have:zs[j]? = some zs[j]:=by simp [h2]
  rw [this] at e2;simpa using e2
 rw [w1,w2,Zo,Zo,e3,e4];show SeqAt.EqAt A s u z (eqF a b);rw [<- pY (p3.flat f1).2 (p4.flat f2).2];exact zG p1 p2 (p3.flat f1).1 (p4.flat f2).1
theorem mZ {as bs:List D}:((List.range (min as.length bs.length)).all (fun j=>eqF (as.getD j .non) (bs.getD j .non)) && as.length == bs.length)=ny as bs :=
 mL as bs _ fun j a b h1 h2=>by
  show eqF (as.getD j .non) (bs.getD j .non)=eqF a b;rw [Zo,Zo,h1,h2] <;> rfl
theorem uJ {A:Around} {s:Shared} {x y:V} {u v:Value} {a b:D} (rx:RelV x u) (ry:RelV y v) (ra:Rep K H x a) (rb:Rep K H y b) (g1:cp a=true) (g2:cp b=true):SeqAt.RcAt A s u v (eqF a b)/\SeqAt.RcNeAt A s u v (!eqF a b):=by
 cases ra with
 | non =>
  cases (show u=Value.none from rx)
  cases rb with
  | non=>cases (show v=Value.none from ry);exact ⟨SeqAt.RcAt.none_none,SeqAt.RcNeAt.none_none⟩
  | bl c=>cases (show v=Value.bool c from ry);exact ⟨SeqAt.RcAt.none_bool c,SeqAt.RcNeAt.none_bool c⟩
  | int j=>obtain ⟨t,rfl⟩:=(show ∃ t,v=Value.int j t from ry);exact ⟨SeqAt.RcAt.none_int j t,SeqAt.RcNeAt.none_int j t⟩
  | str j=>obtain ⟨t,rfl⟩:=(show ∃ t,v=Value.str j t from ry);exact ⟨SeqAt.RcAt.none_str j t,SeqAt.RcNeAt.none_str j t⟩
  | _=>exact absurd g2 Zs
 | bl i =>
  cases (show u=Value.bool i from rx)
  cases rb with
  | non=>cases (show v=Value.none from ry);exact ⟨SeqAt.RcAt.bool_none i,SeqAt.RcNeAt.bool_none i⟩
  | bl c=>cases (show v=Value.bool c from ry);exact ⟨SeqAt.RcAt.bool_bool i c,SeqAt.RcNeAt.bool_bool i c⟩
  | int j=>obtain ⟨t,rfl⟩:=(show ∃ t,v=Value.int j t from ry);exact ⟨SeqAt.RcAt.bool_int i j t,SeqAt.RcNeAt.bool_int i j t⟩
  | str j=>obtain ⟨t,rfl⟩:=(show ∃ t,v=Value.str j t from ry);exact ⟨SeqAt.RcAt.bool_str i j t,SeqAt.RcNeAt.bool_str i j t⟩
  | _=>exact absurd g2 Zs
 | int i =>
  obtain ⟨t',rfl⟩:=(show ∃ t,u=Value.int i t from rx)
  cases rb with
  | non=>cases (show v=Value.none from ry);exact ⟨SeqAt.RcAt.int_none i t',SeqAt.RcNeAt.int_none i t'⟩
  | bl c=>cases (show v=Value.bool c from ry);exact ⟨SeqAt.RcAt.int_bool i t' c,SeqAt.RcNeAt.int_bool i t' c⟩
  | int j=>obtain ⟨t,rfl⟩:=(show ∃ t,v=Value.int j t from ry);exact ⟨SeqAt.RcAt.int_int i t' j t,SeqAt.RcNeAt.int_int i t' j t⟩
  | str j=>obtain ⟨t,rfl⟩:=(show ∃ t,v=Value.str j t from ry);exact ⟨SeqAt.RcAt.int_str i t' j t,SeqAt.RcNeAt.int_str i t' j t⟩
  | _=>exact absurd g2 Zs
 | str i =>
  obtain ⟨t',rfl⟩:=(show ∃ t,u=Value.str i t from rx)
  cases rb with
  | non=>cases (show v=Value.none from ry);exact ⟨SeqAt.RcAt.str_none i t',SeqAt.RcNeAt.str_none i t'⟩
  | bl c=>cases (show v=Value.bool c from ry);exact ⟨SeqAt.RcAt.str_bool i t' c,SeqAt.RcNeAt.str_bool i t' c⟩
  | int j=>obtain ⟨t,rfl⟩:=(show ∃ t,v=Value.int j t from ry);exact ⟨SeqAt.RcAt.str_int i t' j t,SeqAt.RcNeAt.str_int i t' j t⟩
  | str j=>obtain ⟨t,rfl⟩:=(show ∃ t,v=Value.str j t from ry);exact ⟨SeqAt.RcAt.str_str i t' j t,SeqAt.RcNeAt.str_str i t' j t⟩
  | _=>exact absurd g2 Zs
 | _=>exact absurd g1 Zs
end
theorem Ex {X:Cx} {pins:List (Addr×Obj)} {σ:L2.St} {H:Hp} {s:Shared} (I:Inv X pins σ H s) (hu:X.A.units < cLine) {x y:V} {u v:Value} {a b:D} {c:Bool} (rx:RelV x u) (ry:RelV y v) (ra:Rep X.K H x a) (rb:Rep X.K H y b) (e:wS a b=some c) :
 SeqAt.RcAt X.A s u v c/\SeqAt.RcNeAt X.A s u v (!c):=by
 unfold wS at e;split at e
 . -- two tuples
   rename_i as bs;cases ra with
   | @tup p vs _ hp rp =>
    cases rb with
    | @tup q ws _ hq rq =>
     split at e
     . rename_i hf;cases e;rw [ZI] at hf;cases (show u=Value.ref p from rx)
       cases (show v=Value.ref q from ry)
       obtain ⟨its,r1,t1,_⟩:=I.tuple hp;obtain ⟨jts,r2,t2,_⟩:=I.tuple hq;have l1:its.toArray.size=as.length:=by rw [Zx,<- r1.length,rp.length]
       have l2:jts.toArray.size=bs.length:=by rw [Zx,<- r2.length,rq.length]
       have h1:=SeqAt.RcAt.tuples (A:=X.A) (s:=s) t1 t2 hu (jM r1 r2 rp rq hf.1 hf.2);have h2:=SeqAt.RcNeAt.tuples (A:=X.A) (s:=s) t1 t2 hu (jM r1 r2 rp rq hf.1 hf.2);rw [l1,l2,mZ] at h1 h2;exact ⟨h1,h2⟩
     . cases e
 . -- two lists
   rename_i as bs;cases ra with
   | @lst p vs _ hp rp =>
    cases rb with
    | @lst q ws _ hq rq =>
     split at e
     . rename_i hf;cases e;rw [ZI] at hf;cases (show u=Value.ref p from rx)
       cases (show v=Value.ref q from ry)
       obtain ⟨its,r1,t1,_⟩:=I.list (SqL.of (K:=X.K) hp);obtain ⟨jts,r2,t2,_⟩:=I.list (SqL.of (K:=X.K) hq);have l1:its.toArray.size=as.length:=by rw [Zx,<- r1.length,rp.length]
       have l2:jts.toArray.size=bs.length:=by rw [Zx,<- r2.length,rq.length]
       by_cases hl:its.toArray.size=jts.toArray.size
       . have h1:=SeqAt.RcAt.lists (A:=X.A) (s:=s) t1.isList t2.isList hl hu (jM r1 r2 rp rq hf.1 hf.2);have h2:=SeqAt.RcNeAt.lists (A:=X.A) (s:=s) t1.isList t2.isList hl hu (jM r1 r2 rp rq hf.1 hf.2);have h3:(List.range its.toArray.size).all (fun j=>eqF (as.getD j .non) (bs.getD j .non))=ny as bs:=by
          rw [<- mZ,l1,show min as.length bs.length=as.length by omega,show (as.length == bs.length)=true by rw [beq_iff_eq];omega,Bool.and_true]
         rw [h3] at h1 h2;exact ⟨h1,h2⟩
       . have h1:=SeqAt.RcAt.lists_lengths (A:=X.A) (s:=s) t1.isList t2.isList (by simpa [bne_iff_ne] using hl) hu
         have h2:=SeqAt.RcNeAt.lists_lengths (A:=X.A) (s:=s) t1.isList t2.isList (by simpa [bne_iff_ne] using hl) hu
         have h3:ny as bs=false:=by
          rw [<- mZ,show (as.length == bs.length)=false by rw [beq_eq_false_iff_ne];omega,Bool.and_false]
         rw [h3];exact ⟨h1,h2⟩
     . cases e
 . cases e;cases ra;cases rb with
   | @tup q ws bs hq rq =>
    cases (show u=Value.none from rx)
    cases (show v=Value.ref q from ry)
    obtain ⟨its,r1,t1,_⟩:=I.tuple hq;exact ⟨SeqAt.RcAt.none_tuple t1 hu,SeqAt.RcNeAt.none_tuple t1 hu⟩
 . cases e;cases rb;cases ra with
   | @tup q ws bs hq rq =>
    cases (show v=Value.none from ry)
    cases (show u=Value.ref q from rx)
    obtain ⟨its,r1,t1,_⟩:=I.tuple hq;exact ⟨SeqAt.RcAt.tuple_none t1 hu,SeqAt.RcNeAt.tuple_none t1 hu⟩
 . cases e;cases ra;cases rb with
   | @lst q ws bs hq rq =>
    cases (show u=Value.none from rx)
    cases (show v=Value.ref q from ry)
    obtain ⟨its,r1,t1,_⟩:=I.list (SqL.of (K:=X.K) hq);exact ⟨SeqAt.RcAt.none_list t1.isList hu,SeqAt.RcNeAt.none_list t1.isList hu⟩
 . cases e;cases rb;cases ra with
   | @lst q ws bs hq rq =>
    cases (show v=Value.none from ry)
    cases (show u=Value.ref q from rx)
    obtain ⟨its,r1,t1,_⟩:=I.list (SqL.of (K:=X.K) hq);exact ⟨SeqAt.RcAt.list_none t1.isList hu,SeqAt.RcNeAt.list_none t1.isList hu⟩
 . split at e
   . rename_i hf;cases e;rw [ZI] at hf;exact uJ rx ry ra rb hf.1 hf.2
   . cases e
def EG (K:Zr):R2:=fun x y H Q=>∃ a b c,Rep K H x a/\Rep K H y b/\wS a b=some c/\Q (.bl c) H
def EB (K:Zr):R2:=fun x y H Q=>∃ a b c,Rep K H x a/\Rep K H y b/\wS a b=some c/\Q (.bl (!c)) H
theorem Dg {X:Cx} (hu:X.A.units < cLine):OpR X (compareOp .Eq) (EG X.K):=by
 intro pins s σ H x y v u Q I rx ry h;obtain ⟨a,b,c,ra,rb,e,q⟩:=h;exact (Ex I hu rx ry ra rb e).1 X.prog X.w _ _ ⟨.bl c,H,I,rfl,q⟩
theorem De {X:Cx} (hu:X.A.units < cLine):OpR X (compareOp .NotEq) (EB X.K):=by
 intro pins s σ H x y v u Q I rx ry h;obtain ⟨a,b,c,ra,rb,e,q⟩:=h;exact (Ex I hu rx ry ra rb e).2 X.prog X.w _ _ ⟨.bl (!c),H,I,rfl,q⟩
theorem EJ {K:Zr}:R2D K (EG K) gEq:=by
 intro x y H Q a b d ra rb e k;unfold gEq at e;obtain ⟨c,hc,e⟩:=Zb.mp e;cases e;exact ⟨a,b,c,ra,rb,hc,k _ H (Same.refl H) (.bl _)⟩
theorem EI {K:Zr}:R2D K (EB K) gNe:=by
 intro x y H Q a b d ra rb e k;unfold gNe at e;obtain ⟨c,hc,e⟩:=Zb.mp e;cases e;exact ⟨a,b,c,ra,rb,hc,k _ H (Same.refl H) (.bl _)⟩
section
variable {X:Cx} {a b e:Expr} {fa fb f:FD} {pos:Pos}
theorem CQ (hu:X.A.units < cLine) (ha:PD X a fa) (hb:PD X b fb):PTD X (.Compare a [.Eq] [b] pos) (fT (f2 gEq fa fb)):=dQ (Dg hu) EJ ha hb (dD _)
theorem x8 (hu:X.A.units < cLine) (ha:PD X a fa) (hb:PD X b fb):PTD X (.Compare a [.NotEq] [b] pos) (fT (f2 gNe fa fb)):=dQ (De hu) EI ha hb (dD _)
abbrev gLt:D->D->Option D:=gI0 fun i j=>.bl (decide (i < j))
abbrev gLe:D->D->Option D:=gI0 fun i j=>.bl (decide (i<=j))
abbrev gGt:D->D->Option D:=gI0 fun i j=>.bl (decide (j < i))
theorem BX (ha:PD X a fa) (hb:PD X b fb):PD X (.Compare a [.Lt] [b] pos) (f2 gLt fa fb):=pA BZ (kw fun _ _ _=>.bl _) ha hb (dD _)
theorem ER (ha:PD X a fa) (hb:PD X b fb):PD X (.Compare a [.LtE] [b] pos) (f2 gLe fa fb):=pA B1 (kw fun _ _ _=>.bl _) ha hb (dD _)
theorem pi (ha:PD X a fa) (hb:PD X b fb):PTD X (.Compare a [.Lt] [b] pos) (fT (f2 gLt fa fb)):=dQ BZ (kw fun _ _ _=>.bl _) ha hb (dD _)
theorem x9 (ha:PD X a fa) (hb:PD X b fb):PTD X (.Compare a [.LtE] [b] pos) (fT (f2 gLe fa fb)):=dQ B1 (kw fun _ _ _=>.bl _) ha hb (dD _)
theorem lV (ha:PD X a fa) (hb:PD X b fb):PTD X (.Compare a [.Gt] [b] pos) (fT (f2 gGt fa fb)):=dQ EU (kw fun _ _ _=>.bl _) ha hb (dD _)
def B9:D->Bool
 | .non=>true
 | _=>false
def vA (a b:D):Option D:=match b with
 | .non=>some (.bl (!B9 a))
 | _=>none
theorem zh {K:Zr} {H:Hp} {x:V} {a:D} (r:Rep K H x a):decide (x=.non)=B9 a:=by
 cases r <;> rfl
theorem Aw {K:Zr}:R2D K (fun x y H Q=>y=.non/\Q (.bl (!decide (x=.non))) H) vA:=by
 intro x y H Q a b d ra rb e k;cases rb with
 | non=>cases e;exact ⟨rfl,by rw [zh ra];exact k _ H (Same.refl H) (.bl _)⟩
 | _=>cases e
theorem x6 (ha:PD X a fa) (hb:PD X b fb):PTD X (.Compare a [.IsNot] [b] pos) (fT (f2 vA fa fb)):=dQ AR Aw ha hb (dD _)
end
inductive Res where
 | nx (δ:DS)
 | rt (d:D)
 | bk (δ:DS)
 | ct (δ:DS)
 | ex (C:Addr) (δ:DS)
 | mk (C:Addr) (δ:DS)
abbrev SD:=DS->Option Res
def RP (X:Cx) (E:j9) (H:Hp):Res->Prop
 | .nx δ=>∀ σ' H',Same H H'->RepS X.K H' σ' δ->E.nx σ' H'
 | .rt d=>∀ v H',Same H H'->Rep X.K H' v d->E.rt v H'
 | .bk δ=>∀ σ' H',Same H H'->RepS X.K H' σ' δ->E.bk σ' H'
 | .ct δ=>∀ σ' H',Same H H'->RepS X.K H' σ' δ->E.ct σ' H'
 | .ex C δ=>∀ σ' H',Same H H'->RepS X.K H' σ' δ->Fg X C σ' H'
 | .mk C δ=>∀ σ' H',Same H H'->RepS X.K H' σ' δ->Ci X C σ' H'
theorem RP.mono {X:Cx} {E:j9} {H H1:Hp} {r:Res} (s:Same H H1) (h:RP X E H r):RP X E H1 r:=by
 cases r with
 | nx δ=>exact fun σ' H' s2 R=>h σ' H' (s.trans s2) R
 | rt d=>exact fun v H' s2 R=>h v H' (s.trans s2) R
 | bk δ=>exact fun σ' H' s2 R=>h σ' H' (s.trans s2) R
 | ct δ=>exact fun σ' H' s2 R=>h σ' H' (s.trans s2) R
 | ex C δ=>exact fun σ' H' s2 R=>h σ' H' (s.trans s2) R
 | mk C δ=>exact fun σ' H' s2 R=>h σ' H' (s.trans s2) R
def upS (X:Cx) (s:SD):TS:=fun E σ H=>∃ δ r,RepS X.K H σ δ/\s δ=some r/\RP X E H r
def PSD (X:Cx) (st:Stmt) (s:SD):Prop:=PS X st (upS X s)
def nC (X:Cx) (sts:List Stmt) (s:SD):Prop:=PSs X sts (upS X s)
theorem de {X:Cx} {st:Stmt} {t t':TS} (h:PS X st t) (w:∀ E σ H,t' E σ H->t E σ H):PS X st t':=fun pins s σ H E I q=>h pins s σ H E I (w E σ H q)
theorem kz {X:Cx} {st:List Stmt} {t t':TS} (h:PSs X st t) (w:∀ E σ H,t' E σ H->t E σ H):PSs X st t':=fun pins s σ H E I q=>h pins s σ H E I (w E σ H q)
def cI:SD:=fun δ=>some (.nx δ)
def gE (u:SD):Res->Option Res
 | .nx δ=>u δ
 | r=>some r
def aN (s u:SD):SD:=fun δ=>(s δ).bind (gE u)
def eW (f:FD):SD:=fun δ=>(f δ).bind fun d=>some (.rt d)
def i5 (i:Nat) (f:FD):SD:=fun δ=>(f δ).bind fun d=>some (.nx (δ.set i (some d)))
def sIf (c:FT) (s u:SD):SD:=fun δ=>(c δ).bind fun b=>match b with
 | true=>s δ
 | false=>u δ
def CA:SD:=fun _=>none
section
variable {X:Cx} {st:Stmt} {rest:List Stmt} {s u:SD} {e:Expr} {f:FD} {c:FT} {pos:Pos}
theorem gb:nC X [] cI:=kz kT fun E σ H ⟨δ,r,R,e,k⟩=>by cases e;exact k σ H (Same.refl H) R
theorem aK (h1:PSD X st s) (h2:nC X rest u):nC X (st :: rest) (aN s u):=kz (jH h1 h2) fun E σ H ⟨δ,r,R,e,k⟩=>by
 unfold aN at e;obtain ⟨r1,e1,e⟩:=Za.mp e;refine ⟨δ,r1,R,e1,?_⟩;cases r1 with
 | nx δ'=>exact fun σ' H' s1 R1=>⟨δ',r,R1,e,k.mono s1⟩
 | rt d=>cases e;exact k
 | bk d=>cases e;exact k
 | ct d=>cases e;exact k
 | ex C d=>cases e;exact k
 | mk C d=>cases e;exact k
theorem aH (h:PSD X st s):nC X [st] s:=kS h
theorem aY (he:PD X e f):PSD X (.Return (some e) pos) (eW f):=de (po he) fun E σ H ⟨δ,r,R,q,k⟩=>by
 unfold eW at q;obtain ⟨d,ed,q⟩:=Za.mp q;cases q;exact ⟨δ,d,R,ed,k⟩
theorem bP (i:Nat) {x:Str} {pos':Pos} (hN:X.N.Nodup) (he:PD X e f) (hi:X.N[i]? = some x:=by rfl) (hx:Loc X.env.scope x:=by first | exact Or.inl rfl | exact Or.inr rfl) (hs:swapsWith e (some (.Name x pos')) pos.line X.env=pure false:=by rfl) (hf:X.fn x=true \/ X.env.scope.names.lookup x=some .local:=by first | exact .inl rfl | exact .inr rfl | assumption) :
 PSD X (.Assign [.Name x pos'] e pos) (i5 i f):=de (pj hN hi hx he hs hf) fun E σ H ⟨δ,r,R,q,k⟩=>by
 unfold i5 at q;obtain ⟨d,ed,q⟩:=Za.mp q;cases q;exact ⟨δ,d,R,ed,fun v H' s1 r1=>k (σ.set i (some v)) H' s1 ((R.mono s1).set i r1)⟩
theorem i9 {cx:Expr} {a b:List Stmt} (hc:PTD X cx c) (ha:nC X a s) (hb:nC X b u):PSD X (.If cx a b pos) (sIf c s u):=de (uP hc ha hb) fun E σ H ⟨δ,r,R,q,k⟩=>by
 unfold sIf at q;obtain ⟨d,ed,q⟩:=Za.mp q;refine ⟨δ,d,R,ed,fun H' s1=>?_⟩
 cases d with
 | true=>rw [if_pos rfl];exact ⟨δ,r,R.mono s1,q,k.mono s1⟩
 | false=>rw [if_neg Zs];exact ⟨δ,r,R.mono s1,q,k.mono s1⟩
theorem nR:PSD X st CA:=de yb fun E σ H ⟨δ,r,R,e,k⟩=>by cases e
def Aq (i j:Nat) (g:FA):SD:=fun δ=>(g δ).bind fun ds=>match ds with
 | [a,b]=>some (.nx ((δ.set i (some a)).set j (some b)))
 | _=>none
theorem uN (i j:Nat) {x y:Str} {a b:Expr} {g:FA} {px py pt:Pos} {kt k2 pt2} (hc:X.calm=true) (hN:X.N.Nodup) (ha:PAD X [a,b] g) (hi:X.N[i]? = some x:=by rfl) (hj:X.N[j]? = some y:=by rfl) (hij:i ≠ j:=by decide)
 (hx:X.env.scope.names.lookup x=some .local:=by rfl) (hy:X.env.scope.names.lookup y=some .local:=by rfl)
 (hw:swappedStores [.Tuple [.Name x px,.Name y py] kt pt] (.Tuple [a,b] k2 pt2) X.env=pure (some [x,y]):=by rfl)
 (hs:swapsWithSole [.Tuple [.Name x px,.Name y py] kt pt] (.Tuple [a,b] k2 pt2) pos.line X.env=pure false:=by rfl) :
 PSD X (.Assign [.Tuple [.Name x px,.Name y py] kt pt] (.Tuple [a,b] k2 pt2) pos) (Aq i j g):=de (CU hc hN hi hj hij hx hy ha hw hs) fun E σ H ⟨δ,r,R,q,k⟩=>by
 unfold Aq at q;obtain ⟨ds,ed,q⟩:=Za.mp q;split at q
 . rename_i d1 d2;cases q;refine ⟨δ,_,R,ed,fun vs H' s1 r1 _=>?_⟩
   obtain ⟨v,w,rfl,rv,rw'⟩:=uI r1;exact ⟨v,w,rfl,k _ H' s1 (((R.mono s1).set i rv).set j rw')⟩
 . cases q
end
def dz:Nat->FT->SD->SD
 | 0,_,_=>fun _=>none
 | n+1,c,s=>fun δ=>(c δ).bind fun b=>match b with
  | true=>(s δ).bind fun r=>match r with
   | .nx δ'=>dz n c s δ'
   | .ct δ'=>dz n c s δ'
   | .bk δ'=>some (.nx δ')
   | .rt d=>some (.rt d)
   | .ex C δ'=>some (.ex C δ')
   | .mk C δ'=>some (.mk C δ')
  | false=>some (.nx δ)
theorem nQ {X:Cx} {cx:Expr} {body:List Stmt} {c:FT} {s:SD} {pos:Pos} (n:Nat) (hp:PassesOwn (model X.prog X.w) X.A X.env X.xe) (hc:PTD X cx c) (hb:nC X body s):PSD X (.While cx body [] pos) (dz n c s):=de (ya hp hc hb) fun E σ H ⟨δ,r,R,e,k⟩=>by
 refine ⟨fun m σ H=>∃ δ r,RepS X.K H σ δ/\dz m c s δ=some r/\RP X E H r,⟨n,δ,r,R,e,k⟩,?_⟩
 rintro m σ H ⟨δ,r,R,e,k⟩
 cases m with
 | zero=>exact absurd e (by intro z;cases z)
 | succ m =>
  obtain ⟨b,eb,e⟩:=Za.mp (show ((c δ).bind _)=some r from e)
  refine ⟨δ,b,R,eb,fun H1 s1=>?_⟩
  cases b with
  | true =>
   rw [if_pos rfl];obtain ⟨r1,e1,e⟩:=Za.mp (show ((s δ).bind _)=some r from e)
   refine ⟨fun σ' H'=>∃ m',m' < m+1/\∃ δ r,RepS X.K H' σ' δ/\dz m' c s δ=some r/\RP X E H' r,fun _ _ z=>z,⟨δ,r1,R.mono s1,e1,?_⟩⟩
   cases r1 with
   | nx δ'=>exact fun σ' H' s2 R2=>⟨m,Nat.lt_succ_self m,δ',r,R2,e,k.mono (s1.trans s2)⟩
   | ct δ'=>exact fun σ' H' s2 R2=>⟨m,Nat.lt_succ_self m,δ',r,R2,e,k.mono (s1.trans s2)⟩
   | bk δ'=>cases e;exact fun σ' H' s2 R2=>k σ' H' (s1.trans s2) R2
   | rt d=>cases e;exact fun v H' s2 R2=>k v H' (s1.trans s2) R2
   | ex C δ'=>cases e;exact fun σ' H' s2 R2=>k σ' H' (s1.trans s2) R2
   | mk C δ'=>cases e;exact fun σ' H' s2 R2=>k σ' H' (s1.trans s2) R2
  | false =>
   rw [if_neg Zs];cases e;exact k σ H1 s1 (R.mono s1)
def ItD (K:Zr) (J:It) (H1:Hp) (ds:List D):Prop:=∀ i H2,Same H1 H2 ->
 (i < ds.length->J.go i H2/\∀ x H',J.yld i H2 x H'->Same H2 H'/\∃ d,ds[i]? = some d/\Rep K H' x d)/\(ds.length<=i->J.stop i H2)
def upI (K:Zr) (src:FA):TI:=fun σ H R=>∃ δ ds,RepS K H σ δ/\src δ=some ds/\∀ J H1,Same H H1->ItD K J H1 ds->R J H1
def PID (X:Cx) (tg iter:Expr) (src:FA):Prop:=PI X tg iter (upI X.K src)
theorem rH {X:Cx} {tg iter:Expr} {t t':TI} (h:PI X tg iter t) (w:∀ σ H R,t' σ H R->t σ H R):PI X tg iter t':=fun pins s σ H R I q=>h pins s σ H R I (w σ H R q)
def asL:D->Option (List D)
 | .lst ds=>some ds
 | .seq ds=>some ds
 | _=>none
theorem vk {K:Zr} {H1:Hp} {a:Addr} {vs:List V} {ds:List D} (hq:SqL K H1 a vs) (r:Reps K H1 vs ds):ItD K (Itl K a) H1 ds:=by
 intro i H2 s;have hq2:=s.seq hq;have r2:=r.mono s;have hl:=r2.length;refine ⟨fun hi=>⟨⟨vs,vs[i],hq2,by simp [show i < vs.length by omega]⟩,fun x H' y=>?_⟩,fun hi=>⟨vs,hq2,by omega⟩⟩
 obtain ⟨e,y⟩:=y;subst e;obtain ⟨d,h1,h2⟩:=r2.getV (y vs hq2);exact ⟨Same.refl _,d,h1,h2⟩
theorem gS {X:Cx} {tg l:Expr} {f:FD} (hl:PD X l f):PID X tg l (fun δ=>(f δ).bind asL):=rH (uS hl) fun σ H R ⟨δ,ds,R0,e,k⟩=>by
 obtain ⟨d,ed,e⟩:=Za.mp e;refine ⟨δ,d,R0,ed,fun v H1 s1 r1=>?_⟩
 cases r1 with
 | @lst p vs es hp rp=>cases e;exact ⟨p,rfl,⟨vs,SqL.of hp⟩,k _ H1 s1 (vk (SqL.of hp) rp)⟩
 | @seq p vs es hp rp=>cases e;exact ⟨p,rfl,⟨vs,hp⟩,k _ H1 s1 (vk hp rp)⟩
 | _=>cases e
def upG (K:Zr) (g:D->DS->Option DS):TG:=fun v σ H Q=>∃ d δ δ',Rep K H v d/\RepS K H σ δ/\g d δ=some δ'/\∀ σ',RepS K H σ' δ'->Q σ' H
def PGD (X:Cx) (tg:Expr) (g:D->DS->Option DS):Prop:=PG X tg (upG X.K g)
def nw (i:Nat):D->DS->Option DS:=fun d δ=>some (δ.set i (some d))
theorem jJ {X:Cx} (i:Nat) {x:Str} {pos:Pos} (hN:X.N.Nodup) (hi:X.N[i]? = some x:=by rfl) (hx:Loc X.env.scope x:=by first | exact Or.inl rfl | exact Or.inr rfl) (hf:X.fn x=true \/ X.env.scope.names.lookup x=some .local:=by first | exact .inl rfl | exact .inr rfl | assumption):PGD X (.Name x pos) (nw i) :=
 fun pins s σ H v u Q I r ⟨d,δ,δ',rv,R,e,k⟩=>by
  cases e;exact eN hN hi hx hf pins s σ H v u Q I r (k _ (R.set i rv))
def rO (g:D->DS->Option DS) (s:SD):List D->SD
 | []=>fun δ=>some (.nx δ)
 | d :: ds=>fun δ=>(g d δ).bind fun δ1=>(s δ1).bind fun r=>match r with
  | .nx δ'=>rO g s ds δ'
  | .ct δ'=>rO g s ds δ'
  | .bk δ'=>some (.nx δ')
  | .rt d=>some (.rt d)
  | .ex C δ'=>some (.ex C δ')
  | .mk C δ'=>some (.mk C δ')
def xM (src:FA) (g:D->DS->Option DS) (s:SD):SD:=fun δ=>(src δ).bind fun ds=>rO g s ds δ
theorem uO {X:Cx} {tg iter:Expr} {body:List Stmt} {src:FA} {g:D->DS->Option DS} {s:SD} {pos:Pos} (hp:PassesOwn (model X.prog X.w) X.A X.env X.xe) (hc:X.calm=true) (hi:PID X tg iter src) (hg:PGD X tg g) (hb:nC X body s)
 (hs:∀ x,foldedSetIterable iter X.env x=pure x:=by intro _;rfl):PSD X (.For tg iter body [] pos) (xM src g s):=de (pq hp hc hi hg hb hs) fun E σ H ⟨δ,r,R,e,k⟩=>by
 unfold xM at e;obtain ⟨ds,eds,e⟩:=Za.mp e;refine ⟨δ,ds,R,eds,fun J H1 s1 it=>?_⟩
 refine ⟨fun i m σ H=>m=ds.length - i/\i<=ds.length/\Same H1 H/\∃ δ,RepS X.K H σ δ/\rO g s (ds.drop i) δ=some r/\RP X E H r,⟨ds.length,rfl,Nat.zero_le _,Same.refl _,δ,R.mono s1,e,k.mono s1⟩,?_⟩
 rintro i m σ H2 ⟨rfl,hil,s2,δ2,R2,e2,k2⟩
 by_cases hlt:i < ds.length
 . obtain ⟨go,yl⟩:=(it i H2 s2).1 hlt;rw [List.drop_eq_getElem_cons hlt] at e2;obtain ⟨δ3,e3,e2⟩:=Za.mp (show ((g ds[i] δ2).bind _)=some r from e2)
   obtain ⟨r4,e4,e2⟩:=Za.mp e2;refine .inr ⟨go,fun σ' H'=>Same H1 H'/\∃ δ,RepS X.K H' σ' δ/\rO g s (ds.drop (i+1)) δ=some r/\RP X E H' r,fun σ' H' z=>⟨ds.length - (i+1),by omega,rfl,hlt,z⟩,fun x H' y=>?_⟩
   obtain ⟨s3,d,hd,rx⟩:=yl x H' y;have hd':d=ds[i]:=by
    rw [Zp hlt] at hd;exact (Zy hd).symm
   subst hd';refine ⟨ds[i],δ2,δ3,rx,R2.mono s3,e3,fun σ3 R3=>⟨δ3,r4,R3,e4,?_⟩⟩
   cases r4 with
   | nx δ'=>exact fun σ' H'' s4 R4=>⟨(s2.trans s3).trans s4,δ',R4,e2,(k2.mono s3).mono s4⟩
   | ct δ'=>exact fun σ' H'' s4 R4=>⟨(s2.trans s3).trans s4,δ',R4,e2,(k2.mono s3).mono s4⟩
   | bk δ'=>cases e2;exact fun σ' H'' s4 R4=>k2 σ' H'' (s3.trans s4) R4
   | rt d=>cases e2;exact fun v H'' s4 R4=>k2 v H'' (s3.trans s4) R4
   | ex C δ'=>cases e2;exact fun σ' H'' s4 R4=>k2 σ' H'' (s3.trans s4) R4
   | mk C δ'=>cases e2;exact fun σ' H'' s4 R4=>k2 σ' H'' (s3.trans s4) R4
 . have e:i=ds.length:=by omega
   subst e;rw [List.drop_length] at e2;cases e2;exact .inl ⟨(it _ H2 s2).2 (ZH _),k2 σ H2 (Same.refl _) R2⟩
def aC:Option Res->Option D
 | some (.rt d)=>some d
 | some (.nx _)=>some .non
 | _=>none
def start (n:Nat) (ds:List D):DS:=ds.map some++List.replicate (n - ds.length) none
section
variable {P:Program} {w:World} {K:Zr} {mg:Str->Option Value} {base:Heap}
theorem bI {x qual:Str} {st:Stmt} {f:Addr} {fd:FuncData} {N ps:List Str} {k:Nat} {G:List D->Option D} (F:Fun K x qual st f fd) (S:au N ps (aj st))
 (hbody:∀ (cdv:Value) (A:Around) (outer:List Env) (s:Shared) (H:Hp) (E:XK) (ds:List D) (d:D),Room k (A.deeper (envOfC qual (aj st) s.heap.objs.size f cdv))->G ds=some d->ds.length=ps.length ->
  ∃ t,nC (mT CX0 P w K mg base N qual (aj st) f cdv A outer s H E).nox (aV st) t/\aC (t (start N.length ds))=some d):FnOk P w K mg base CX0 (k+1) f fd ps (bf K ps.length G):=by
 refine F.ok S (fun vs H Q E h=>h.1) (fun cdv A outer s H vs Q E hr h=>?_)
 obtain ⟨hl,ds,d,r,e,q⟩:=h;obtain ⟨t,ht,hq⟩:=hbody cdv A outer s H E ds d hr e (r.length.symm.trans hl);refine ⟨_,ht,start N.length ds,?_⟩;cases z:t (start N.length ds) with
 | none=>rw [z] at hq;cases hq
 | some res =>
  rw [z] at hq;refine ⟨res,RepS.start r,rfl,?_⟩;cases res with
  | rt d'=>cases hq;exact q
  | nx δ=>cases hq;exact fun σ' H' s1 _=>q _ H' s1 .non
  | bk δ=>cases hq
  | ct δ=>cases hq
  | ex C δ=>cases hq
  | mk C δ=>cases hq
structure Has (P:Program) (w:World) (K:Zr) (mg:Str->Option Value) (base:Heap) (k:Nat) (x:Str) (ps:List Str) (G:List D->Option D):Prop where
 ex:∃ f fd,FnOk P w K mg base CX0 k f fd ps (bf K ps.length G)/\mg x=some (.ref f)/\PySem.W.keepIn K (.ref f)=true/\Binds K fd ps []
end
theorem ar {X:Cx} {e:Expr} {es:List Expr} {g:FA} {pos p:Pos} {k j:Nat} {x:Str} {ps:List Str} {G:List D->Option D} (F:Has X.prog X.w X.K X.mg X.base k x ps G) (hr:Room j X.A) (ha:PAD X (e :: es) g) (hk:k<=j:=by decide) (hg:Gl X x:=by rfl)
 (hn:(e :: es).length=ps.length:=by rfl) (hdb:(x == ("__debug__":Str))=false:=by decide) (he:starEach (e :: es) X.env=(false,eval e X.env) :: starEach es X.env:=by rfl) (hpl:(backTo pos (starEach es X.env)).any (·.1)=false:=by rfl) :
 PD X (.Call (.Name x p) (e :: es) [] pos) (ak G g):=by
 obtain ⟨f,fd,F,hm,kp,hb⟩:=F.ex;exact AQ F (hr.mono hk) hg hm kp hb ha hn hdb he hpl
end Dl
namespace Dl
open PySem PySem.Spec PyProof.Rows L2
def spLaw (K:Zr):Sp:=fun vs H Q _=>∃ (a:Addr) (ns:List Int),vs=[.ref a]/\SqL K H a (ns.map V.int)/\ns.length<=63/\∀ H',Q (.bl true) H'
end Dl
namespace Dl
noncomputable def fn (S:List D->D->Prop):List D->Option D:=fun ds=>by
 classical exact if h:∃ d,S ds d then some h.choose else none
theorem aQ {S:List D->D->Prop} {ds:List D} {d:D} (h:fn S ds=some d):S ds d:=by
 unfold fn at h;split at h
 . rename_i q;have e:=Zy h;rw [<- e];exact q.choose_spec
 . cases h
theorem bv {S:List D->D->Prop} {ds:List D} {d:D} (u:∀ d',S ds d'->d'=d) (h:S ds d):fn S ds=some d:=by
 unfold fn;have q:∃ d,S ds d:=⟨d,h⟩;rw [dif_pos q];exact congrArg some (u _ q.choose_spec)
theorem vD (a b:Int):gEq (.int a) (.int b)=some (.bl (a == b)):=rfl
theorem bD (a b:Int):jd (.int a) (.int b)=some (.int (a+b)):=rfl
theorem aB {C:Int->Int->Prop} [∀ i j,Decidable (C i j)] {g:Int->Int->D} {i j:Int} (h:C i j):gI C g (.int i) (.int j)=some (g i j):=if_pos h
end Dl
namespace Dl
theorem bm (a b:D):gIx (.tup [a,b]) (.int 0)=some a:=rfl
theorem bt (a b:D):gIx (.tup [a,b]) (.int 1)=some b:=rfl
theorem rK (ds:List D):dF [.seq ds]=some (.int ds.length):=rfl
theorem qE {n:Nat} {c:FT} {s:SD} {δ δ':DS} (hc:c δ=some true) (hs:s δ=some (.nx δ')):dz (n+1) c s δ=dz n c s δ':=by
 simp only [dz,hc,hs,Zc]
theorem vY {x y:Int} (h0:0<=x) (h:x<=y) (hy:Bd y):Bd x:=Nat.lt_of_le_of_lt (show x.natAbs<=y.natAbs by omega) hy
end Dl
namespace Dl
open PySem PySem.Spec PyProof.Rows L2
abbrev FO:=DS->Option (Option Int)
def asI:D->Option (Option Int)
 | .int i=>some (some i)
 | _=>none
def faS (f:FD):FO:=fun δ=>(f δ).bind asI
def Ar (n d:Nat):Option Int->Nat
 | none=>d
 | some v=>if v < 0 then (v+(n:Int)).toNat else min v.toNat n
def cutD (ds:List D) (lo hi:Option Int):List D:=(ds.drop (Ar ds.length 0 lo)).take (Ar ds.length ds.length hi - Ar ds.length 0 lo)
def fSl (f:FD) (lo hi:FO):FD:=fun δ=>(f δ).bind fun d=>(asL d).bind fun ds=>(lo δ).bind fun l=>(hi δ).bind fun h=>some (.lst (cutD ds l h))
def dfl (G:List D->Option D) (dv:List Int):List D->Option D:=fun ds=>G (ds++dv.map D.int)
def nv (g:D->Option D):List D->Option (List D)
 | []=>some []
 | d :: ds=>(g d).bind fun x=>(nv g ds).bind fun xs=>some (x :: xs)
def aX (js:List Nat) (δ:DS):DS:=js.map fun j=>match δ[j]? with
 | some o=>o
 | none=>none
def kA (src:FA) (js:List Nat) (elt:FD):FD:=fun δ=>(src δ).bind fun ds=>(nv (fun d=>elt (some d :: aX js δ)) ds).bind fun xs=>if xs.length<=1000 then some (.lst xs) else none
def cJ (a b c:Int):List D:=(List.range ((b - a+c - 1) / c).toNat).map fun i=>.int (a+(i:Nat)*c)
def asR:List D->Option (List D)
 | [.int b]=>if -(2 ^ 62)<=b/\b < 2 ^ 62 then some (cJ 0 b 1) else none
 | [.int a,.int b]=>if -(2 ^ 62)<=a/\a < 2 ^ 62/\-(2 ^ 62)<=b/\b < 2 ^ 62 then some (cJ a b 1) else none
 | [.int a,.int b,.int c]=>if -(2 ^ 62)<=a/\a < 2 ^ 62/\-(2 ^ 62)<=b/\b < 2 ^ 62/\c=2 then some (cJ a b c) else none
 | _=>none
def xC (g:FA):FA:=fun δ=>(g δ).bind asR
end Dl
namespace Dl
theorem w4 (ns:List Int) (lo hi:Option Int):∃ ms:List Int,cutD (ns.map D.int) lo hi=ms.map D.int:=by
 unfold cutD;exact ⟨_,by rw [<- List.map_drop,<- List.map_take]⟩
end Dl
namespace Dl
open PySem PySem.Spec PyProof.Rows L2
structure FunD (K:Zr) (x qual:Str) (st:Stmt) (f:Addr) (fd:FuncData) (dV:Value):Prop where
 ex:∃ (oc:Value) (od:Option Addr) (kV doc pm:Value) (an:Option Addr) (cdv ct:Value) (osl:Array (Option Value)),
  fd=PySem.W.fnOf x qual (bK st) (aV st) (aj st) dV kV doc pm an cdv ct/\K.lookup f=some ⟨oc,od,.func fd,osl⟩/\PySem.W.codeIn K cdv qual=true
 kp:PySem.W.keepIn K (.ref f)=true
section
variable {P:Program} {w:World} {K:Zr} {mg:Str->Option Value} {base:Heap}
theorem x3 {x qual:Str} {st:Stmt} {f:Addr} {fd:FuncData} {dV:Value} {N ps:List Str} {k:Nat} {G:List D->Option D} (F:FunD K x qual st f fd dV) (S:au N ps (aj st))
 (hbody:∀ (cdv:Value) (A:Around) (outer:List Env) (s:Shared) (H:Hp) (E:XK) (ds:List D) (d:D),Room k (A.deeper (envOfC qual (aj st) s.heap.objs.size f cdv))->G ds=some d->ds.length=ps.length ->
  ∃ t,nC (mT CX0 P w K mg base N qual (aj st) f cdv A outer s H E).nox (aV st) t/\aC (t (start N.length ds))=some d):FnOk P w K mg base CX0 (k+1) f fd ps (bf K ps.length G):=by
 obtain ⟨oc,od,kV,doc,pm,an,cdv,ct,osl,rfl,lk,hcd⟩:=F.ex;refine Ce lk hcd S (fun vs H Q E h=>h.1) fun A outer s H vs Q E hr hsp=>?_
 obtain ⟨hl,ds,d,r,e,q⟩:=hsp;obtain ⟨t,ht,hq⟩:=hbody cdv A outer s H E ds d hr e (r.length.symm.trans hl);refine ⟨_,ht.nox,start N.length ds,?_⟩;cases z:t (start N.length ds) with
 | none=>rw [z] at hq;cases hq
 | some res =>
  rw [z] at hq;refine ⟨res,RepS.start r,rfl,?_⟩;cases res with
  | rt d'=>cases hq;exact q
  | nx δ=>cases hq;exact fun σ' H' s1 _=>q _ H' s1 .non
  | bk δ=>cases hq
  | ct δ=>cases hq
  | ex C δ=>cases hq
  | mk C δ=>cases hq
theorem FunD.binds {x qual:Str} {st:Stmt} {f T:Addr} {fd:FuncData} {ps:List Str} {o:Obj} {items:Array Value} {n:Nat} {ds:List Value} (F:FunD K x qual st f fd (.ref T)) (ho:K.lookup T=some o) (hs:o.data=.seq items n)
 (h:∀ (kV doc pm:Value) (an:Option Addr) (cdv ct:Value) (us:List Value),(us++ds).length=ps.length->∃ k,bindArgs (PySem.W.fnOf x qual (bK st) (aV st) (aj st) (.ref T) kV doc pm an cdv ct) ⟨us,[]⟩=seqItems? (.ref T) >>= k/\k (some items)=pure (ps.zip (us++ds))):Binds K fd ps ds:=by
 obtain ⟨oc,od,kV,doc,pm,an,cdv,ct,osl,rfl,lk,hcd⟩:=F.ex;intro s us KI hl;obtain ⟨k,h1,h2⟩:=h kV doc pm an cdv ct us hl;exact PySem.W.binds_K KI rfl ho hs h1 h2
theorem Br {x qual:Str} {st:Stmt} {f:Addr} {oc dV:Value} {od an:Option Addr} {osl:Array (Option Value)} {kV doc pm cdv ct:Value} (l:K.lookup f=some ⟨oc,od,.func (PySem.W.fnOf x qual (bK st) (aV st) (aj st) dV kV doc pm an cdv ct),osl⟩)
 (c:PySem.W.codeIn K cdv qual=true) (k:PySem.W.keepIn K (.ref f)=true):FunD K x qual st f (PySem.W.fnOf x qual (bK st) (aV st) (aj st) dV kV doc pm an cdv ct) dV:=⟨⟨oc,od,kV,doc,pm,an,cdv,ct,osl,rfl,l,c⟩,k⟩
structure Ae (P:Program) (w:World) (K:Zr) (mg:Str->Option Value) (base:Heap) (k:Nat) (x:Str) (ps:List Str) (dv:List Int) (G:List D->Option D):Prop where
 ex:∃ f fd ds,FnOk P w K mg base CX0 k f fd ps (bf K ps.length G)/\mg x=some (.ref f)/\PySem.W.keepIn K (.ref f)=true/\Vals (dv.map V.int) ds/\Binds K fd ps ds
end
theorem lZ {X:Cx} {e:Expr} {es:List Expr} {g:FA} {pos p:Pos} {k j:Nat} {x:Str} {ps:List Str} {dv:List Int} {G:List D->Option D} (F:Ae X.prog X.w X.K X.mg X.base k x ps dv G) (hr:Room j X.A) (ha:PAD X (e :: es) g) (hk:k<=j:=by decide) (hg:Gl X x:=by rfl)
 (hn:(e :: es).length+dv.length=ps.length:=by rfl) (hdb:(x == ("__debug__":Str))=false:=by decide) (he:starEach (e :: es) X.env=(false,eval e X.env) :: starEach es X.env:=by rfl) (hpl:(backTo pos (starEach es X.env)).any (·.1)=false:=by rfl) :
 PD X (.Call (.Name x p) (e :: es) [] pos) (ak (dfl G dv) g):=by
 obtain ⟨f,fd,ds,F,hm,kp,hv,hb⟩:=F.ex;refine imp (kX F (hr.mono hk) hg hm kp hb hv uW ha hdb he hpl) fun σ H Q ⟨δ,d,R,q,k⟩=>?_
 unfold ak at q;obtain ⟨ds,eds,q⟩:=Za.mp q;refine ⟨δ,ds,R,eds,fun vs H1 s1 r1 l=>?_⟩
 exact ⟨by rw [Zf,l,Zg];exact hn,ds++dv.map D.int,d,r1.append (Reps.ints dv),q,fun v H' s=>k v H' (s1.trans s)⟩
def upO (K:Zr) (f:FO):TO:=fun σ H Q=>∃ δ o,RepS K H σ δ/\f δ=some o/\∀ H',Same H H'->Q o H'
def POD (X:Cx) (e:Option Expr) (f:FO):Prop:=PO X e (upO X.K f)
theorem uG (n d:Nat) (o:Option Int):Ar n d o=HT.sIx n d o:=by cases o <;> rfl
theorem zP {K:Zr} {H:Hp} {vs:List V} {ds:List D} (r:Reps K H vs ds) (lo hi:Option Int):Reps K H (tY vs lo hi) (cutD ds lo hi):=by
 unfold tY cutD;rw [r.length,uG,uG];exact (r.drop _).take _
section
variable {X:Cx} {e:Expr} {f:FD} {lo hi:Option Expr} {fl fh:FO} {pos p2:Pos}
theorem qI (h:PD X e f):POD X (some e) (faS f):=fun pins s σ H Q I ⟨δ,o,R,q,k⟩=>AG h pins s σ H Q I (by
 unfold faS at q;obtain ⟨d,ed,q⟩:=Za.mp q;refine ⟨δ,d,R,ed,fun v H1 s1 r1=>?_⟩
 cases r1 with
 | int i=>cases q;exact ⟨i,rfl,k H1 s1⟩
 | _=>cases q)
theorem yq (he:PD X e f) (hl:POD X lo fl) (hu:POD X hi fh):PD X (.Subscript e (.Slice lo hi none p2) pos) (fSl f fl fh):=imp (yj Am he hl hu) fun σ H Q ⟨δ,d,R,q,k⟩=>by
 unfold fSl at q;obtain ⟨x,ex,q⟩:=Za.mp q;obtain ⟨ds,eds,q⟩:=Za.mp q;obtain ⟨l,el,q⟩:=Za.mp q;obtain ⟨h,eh,q⟩:=Za.mp q;cases q;refine ⟨δ,x,R,ex,fun v H1 s1 r1=>⟨δ,l,R.mono s1,el,fun H2 s2=>⟨δ,h,(R.mono s1).mono s2,eh,fun H3 s3=>?_⟩⟩⟩
 have r3:=(r1.mono s2).mono s3;have fin:∀ (a:Addr) (vs:List V),SqL X.K H3 a vs->Reps X.K H3 vs ds->Ey X.K (.ref a) l h H3 Q:=fun a vs hq rp=>by
  refine ⟨a,vs,rfl,hq,fun p hp=>?_⟩
  have s:=aJ hp (.lst (tY vs l h));exact k _ _ (((s1.trans s2).trans s3).trans s) (.lst aw ((zP rp l h).mono s))
 cases r3 with
 | @lst p vs es hp rp=>cases eds;exact fin p vs (SqL.of hp) rp
 | @seq p vs es hp rp=>cases eds;exact fin p vs hp rp
 | _=>cases eds
end
section
variable {prog:Program} {w:World} {A:Around} {E:Value->Shared->Prop}
end
theorem Eu {K:Zr} {H:Hp} {xs:List V} {d e f:D} (r:Reps K H xs [d,e,f]):∃ x y z,xs=[x,y,z]/\Rep K H x d/\Rep K H y e/\Rep K H z f:=by
 cases r with
 | cons a t =>
  obtain ⟨y,z,h1,h2,h3⟩:=uI t;subst h1;exact ⟨_,y,z,rfl,a,h2,h3⟩
theorem sW {K:Zr} {H:Hp} {lo:Int} {n:Nat}:ItD K (Itr lo n) H ((List.range n).map fun (i:Nat)=>D.int (lo+(i:Int)*1)):=by
 intro i H2 s;refine ⟨fun hi=>?_,fun hi=>(show n<=i by simpa using hi)⟩
 have hi':i < n:=by simpa using hi
 refine ⟨hi',fun x H' y=>?_⟩
 obtain ⟨e,y⟩:=y;subst e y;refine ⟨Same.refl _,.int (lo+(i:Int)*1),?_,by rw [Int.mul_one];exact .int _⟩
 rw [ZD,List.getElem?_range hi'];rfl
theorem lX {X:Cx} {tg a:Expr} {g:FA} {p pos:Pos} (hg:Gl X "range") (hm:X.mg "range" = none) (ha:PAD X [a] g) (hs:starEach [a] X.env=[(false,eval a X.env)]:=by rfl):PID X tg (.Call (.Name "range" p) [a] [] pos) (xC g) :=
 rH (nU hg hm ha hs) fun σ H R ⟨δ,ds,R0,e,k⟩=>by
 unfold xC at e;obtain ⟨xs,exs,e⟩:=Za.mp e;refine ⟨δ,xs,R0,exs,fun vs H1 s1 r1 l=>?_⟩
 match xs,r1,e with
 | [.int b],r1,e =>
  obtain ⟨v,rfl,rv⟩:=fF r1;cases rv;have e':(if -(2 ^ 62)<=b/\b < 2 ^ 62 then some (cJ 0 b 1) else none)=some ds:=e
  by_cases hb:-(2 ^ 62)<=b/\b < 2 ^ 62
  . rw [if_pos hb] at e';have e2:cJ 0 b 1=ds:=Zy e';refine ⟨b,rfl,hb.1,hb.2,k _ H1 s1 ?_⟩;have h:=sW (K:=X.K) (H:=H1) (lo:=0) (n:=b.toNat);have e3:((b - 0+1 - 1) / 1).toNat=b.toNat:=by congr 1;omega
    unfold cJ at e2;rw [e3] at e2;rw [<- e2];exact h
  . rw [if_neg hb] at e';cases e'
 | [],r1,e=>cases r1;cases l
 | _ :: _ :: _,r1,e=>
  have:=r1.length;rw [l] at this;cases this
 | [.non],r1,e=>cases e
 | [.bl _],r1,e=>cases e
 | [.str _],r1,e=>cases e
 | [.tup _],r1,e=>cases e
 | [.lst _],r1,e=>cases e
 | [.seq _],r1,e=>cases e
 | [.ty _],r1,e=>cases e
 | [.dct],r1,e=>cases e
 | [.exc _],r1,e=>cases e
 | [.cls _],r1,e=>cases e
 | [.ms _ _],r1,e=>cases e
 | [.mf _ _],r1,e=>cases e
 | [.md _ _],r1,e=>cases e
end Dl
namespace Dl
open PySem PySem.Spec PyProof.Rows L2
structure CompOk (X:Cx) (scope:Scope) (cl:List (Str×Addr)) (x:Str) (N:List Str) (js:List Nat):Prop where
 clos:closureFor scope X.env=pure cl
 nocell:∀ y∈scope.names,y.2 ≠ .cell
 kind:scope.kind=.function
 names:∀ y∈scope.names,y.2=.local->scope.names.lookup y.1=some .local
 hx:scope.names.lookup x=some .local
 nd:N.Nodup
 h0:N[0]? = some x
 len:N.length=js.length+1
 clx:cl.lookup x=none
 cls:∀ y c,cl.lookup y=some c->X.env.cells.lookup y=some c
 has:∀ y,((relabel scope X.env).names.lookup y=some .cell \/ (relabel scope X.env).names.lookup y=some .free)->∃ c,cl.lookup y=some c
 fr:∀ i y j,N[i+1]? = some y->js[i]? = some j->X.N[j]? = some y/\X.env.scope.names.lookup y=some .cell/\(relabel scope X.env).names.lookup y=some .cell/\∀ c,X.env.cells.lookup y=some c->cl.lookup y=some c
abbrev aR (X:Cx) (scope:Scope) (cl:List (Str×Addr)) (x:Str) (N:List Str) (C:Addr) (s₂:Shared) (H₂:Hp) (fp:List Addr) (pn:List (Addr×Obj)):Cx :=
 { X with env:=compEnvC scope cl C X.env,N:=N,s₀:=s₂,H₀:=H₂,outer:=X.stack,stack:=X.stack,ex:=fp,fn:=fun y=>y == x,calm:=true,pn:=pn,xe:=fun _ _=>False }
section
variable {X:Cx} {pins:List (Addr×Obj)} {σ:L2.St} {H₂:Hp} {s₂:Shared} {scope:Scope} {cl:List (Str×Addr)} {x:Str} {N:List Str} {js:List Nat} {C:Addr} {fp:List Addr}
theorem w5 (I:L2.Inv X pins σ H₂ s₂) (hcm:X.calm=true) (O:CompOk X scope cl x N js) (hC:s₂.heap.objs.size<=C) (hf:∀ b∈fp,fg X pins H₂ b) (ho:∀ b∈fp,∃ o,s₂.heap.get? b=some o):(aR X scope cl x N C s₂ H₂ fp (X.pn++pins)).Ok where
 mod:=I.ok.mod
 kind:=O.kind
 glob:=I.ok.glob
 blt:=I.ok.blt
 above:=hC
 inj:=fun y z c h1 h2=>I.ok.inj y z c (O.cls y c h1) (O.cls z c h2)
 has:=fun y h=>O.has y h
 cab:=fun y c h1 h2=>by
  have e:y=x:=by simpa using h1
  subst e;have:cl.lookup y=some c:=h2;rw [O.clx] at this;cases this
 hd:=fun _=>I.ok.hd hcm
 frames:=I.ok.frames
 stk:=.inl rfl
 exf:=fun b hb=>by
  obtain ⟨o,e⟩:=ho b hb;refine ⟨ZA (Zt (Heap.lt_size e) hC),fun y c h z=>?_⟩
  exact (hf b hb).2.2.2.2.1 y c (O.cls y c h) z
 bs:=I.bs
 bsz:=Nat.le_trans I.ok.bsz I.sz
 noex:=fun b o e hb=>by
  rcases (hf b hb).2.2.2.1 with z | z
  . exact I.ok.noex b o e z
  . exact absurd (Zt (Heap.lt_size e) (Nat.le_trans I.ok.bsz z)) (ZB _)
 exfs:=fun b hb z=>by
  rcases Zn.mp (I.stkSub b z) with e | e
  . exact (hf b hb).2.1 e
  . exact (hf b hb).2.2.1 e
 funs:=I.stack
 frf:=I.stkFree
end
theorem mv {g:D->Option D}:∀ {ds xs:List D},nv g ds=some xs->xs.length=ds.length/\∀ (i:Nat) d,ds[i]? = some d->∃ e,g d=some e/\xs[i]? = some e
 | [],xs,h=>by
  cases h;exact ⟨rfl,fun i d e=>by simp at e⟩
 | d :: ds,xs,h=>by
  obtain ⟨x,ex,h⟩:=Za.mp (show ((g d).bind _)=some xs from h)
  obtain ⟨ys,ey,h⟩:=Za.mp h;cases h;obtain ⟨h1,h2⟩:=mv ey;refine ⟨by simp [h1],fun i e he=>?_⟩
  cases i with
  | zero=>simp at he;subst he;exact ⟨x,ex,rfl⟩
  | succ i =>
   obtain ⟨z,hz1,hz2⟩:=h2 i e (by simpa using he)
   exact ⟨z,hz1,by simpa using hz2⟩
def bC (js:List Nat) (σ:L2.St):L2.St:=js.map fun j=>match σ[j]? with
 | some o=>o
 | none=>none
theorem jU {K:Zr} {H:Hp} {σ:L2.St} {δ:DS} (R:RepS K H σ δ) (js:List Nat):RepS K H (none :: bC js σ) (none :: aX js δ):=by
 refine ⟨by simp [bC,aX],fun i d q=>?_⟩
 cases i with
 | zero=>simp at q
 | succ i =>
  have q':(aX js δ)[i]? = some (some d):=by simpa using q
  unfold aX at q';rw [ZD] at q';obtain ⟨j,h1,h2⟩:=Zb.mp q';cases h3:δ[j]? with
  | none=>rw [h3] at h2;cases h2
  | some o =>
   rw [h3] at h2;have h2':o=some d:=h2;subst h2';obtain ⟨v,h4,h5⟩:=R.val j d h3;refine ⟨v,?_,h5⟩;show (bC js σ)[i]? = some (some v);unfold bC;rw [ZD,h1];show some (match σ[j]? with | some o=>o | none=>none)=some (some v)
   rw [h4]
theorem bindF {α β:Type} {M:Model} {A:Around} {m:Sem α} {f:α->Sem β} {Q:α->Shared->Prop} {R:β->Shared->Prop} {E:Value->Shared->Prop} {s:Shared} (h:wpAny M A m Q (fun _ _=>False) s) (k:∀ a s',Q a s'->wpAny M A (f a) R E s'):wpAny M A (m>>=f) R E s:=wpAny_bind (wpAny_mono h k fun _ _=>False.elim)
theorem gl {prog:Program} {w:World} {A:Around} {R:Result->Shared->Prop} {s:Shared} {elt target iter:Expr} {scope:Scope} {pos:Pos} {it acc:Value} {env:Env} (J:Nat->Shared->Prop)
 (turn:∀ n s,J n s->wpAny (model prog w) A (pyNext it) (fun r s₁=>match r with
  | none=>R (.ok .next) s₁
  | some v=>wpAny (model prog w) A (letOwnedTupleGo target it v) (fun _ s₂=>wpAny (model prog w) A (assign target env v) (fun _ s₃=>wpAny (model prog w) A (eval elt env) (fun y s₄ =>
   wpAny (model prog w) A (call (.builtin "list.append") [acc,y]) (fun _ s₅=>∃ m,m < n/\J m s₅) (fun _ _=>False) s₄) (fun _ _=>False) s₃) (fun _ _=>False) s₂) (fun _ _=>False) s₁) (fun _ _=>False) s)
 (n:Nat) (h:J n s):codeAny (model prog w) A (.compLoop (.ListComp elt [⟨target,iter,[],0⟩] scope pos) 0 it acc env) R s:=by
 refine codeAny_loop rfl J (fun n s j=>wpAny_noted (m:=compTurn (.ListComp elt [⟨target,iter,[],0⟩] scope pos) 0 it acc env) (compTurn_list1 elt target iter scope pos it acc env▸wpAny_bind (wpAny_standAt (bindF (turn n s j) fun r _ q=>?_)))) n h
 cases r with
 | none=>exact wpAny_pure q
 | some v=>
  exact bindF q fun _ _ q=>bindF q fun _ _ q=>wpAny_bind (bindF q fun _ _ q=>bindF q fun _ _ q=>wpAny_pure (wpAny_pure ⟨rfl,q⟩))
section
variable {X:Cx} {pins:List (Addr×Obj)} {σ:L2.St} {H₂:Hp} {s₂:Shared} {scope:Scope} {cl:List (Str×Addr)} {x:Str} {N:List Str} {js:List Nat} {C:Addr} {fp:List Addr}
theorem eO (I:L2.Inv X pins σ H₂ s₂) {a:Addr} (h:s₂.heap.objs.size<=a):a ∉ frs X.stack:=fun z=>by
 rcases Zn.mp (I.stkSub a z) with e | e
 . exact absurd (Zt I.lt (by rw [<- e];exact h)) (ZB _)
 . exact I.nofs h e
theorem jf {h₁:Heap} {m:Str->Option Value} {tk:Nat} (I:L2.Inv X pins σ H₂ s₂) (hcm:X.calm=true) (O:CompOk X scope cl x N js) (hC:s₂.heap.objs.size<=C) (hf:∀ b∈fp,fg X pins H₂ b) (ho:∀ b∈fp,∃ o,s₂.heap.get? b=some o)
 (old:∀ b o,s₂.heap.get? b=some o->h₁.get? b=some o) (hns:h₁.Ns C m) (hl:σ.length=X.N.length):L2.Inv (aR X scope cl x N C s₂ H₂ fp (X.pn++pins)) [] (none :: bC js σ) H₂ { s₂ with heap:=h₁,toks:=tk } where
 ok:=w5 I hcm O hC hf ho
 os:=rfl
 bare:=I.bare
 base:=Un.kept old
 loc:=by
  refine ⟨m,hns,fun i y v h1 h2 h3=>?_⟩
  cases i with
  | zero=>simp at h2
  | succ i =>
   have h2':(bC js σ)[i]? = some (some v):=by simpa using h2
   unfold bC at h2';rw [ZD] at h2';obtain ⟨j,hj,h4⟩:=Zb.mp h2';have h5:σ[j]? = some (some v):=by
    cases q:σ[j]? with
    | none=>rw [q] at h4;cases h4
    | some o=>rw [q] at h4;exact congrArg some h4
   obtain ⟨f1,f2,f3,f4⟩:=O.fr i y j h1 hj;obtain ⟨m',hn',hl'⟩:=I.loc;obtain ⟨u,ru,lk⟩:=hl' j y v f1 h5 (.inr (.inl f2));refine ⟨u,ru,?_⟩;rcases lk with ⟨k1,_⟩ | ⟨_,c,hc,o,hco,hcd⟩
   . have:X.env.scope.names.lookup y=some .local:=k1;rw [f2] at this;cases this
   . exact .inr ⟨.inl f3,c,f4 c hc,o,old c o hco,hcd⟩
 cell:=fun y c e=>by
  obtain ⟨v,o,h1,h2⟩:=I.cell y c (O.cls y c e);exact ⟨v,o,old c o h1,h2⟩
 free:=I.hok.fresh hC
 freeC:=fun y c e=>I.freeC y c (O.cls y c e)
 pin:=fun p hp=>by
  have hp':p∈X.pn++pins:=by simpa using hp
  obtain ⟨h1,h2,h3,h4,h5⟩:=I.pin p hp';refine ⟨old _ _ h1,h2,ZA (Zt (Heap.lt_size h1) hC),fun z=>?_,h5⟩
  rcases Zn.mp (I.stkSub p.1 z) with e | e
  . exact h3 e
  . exact h4 e
 hok:=I.hok.kept old
 len:=by
  show (none :: bC js σ).length=N.length;rw [O.len];simp [bC]
theorem tZ {elt iter:Expr} {px pos:Pos} {it:Addr} {tn:Nat->Heap->Prop} {J:It} {ds xs:List D} {δ:DS} {felt:FD} {RR:Value->Addr->Result->Shared->Prop} {E:Value->Shared->Prop} (I:L2.Inv X pins σ H₂ s₂) (hcm:X.calm=true) (O:CompOk X scope cl x N js)
 (T:kK X.prog X.w X.K (.Name x px) J fp it tn) (st:tn 0 s₂.heap) (hf:∀ b∈fp,fg X pins H₂ b) (itd:ItD X.K J H₂ ds) (R:RepS X.K H₂ σ δ) (he:∀ C s₂ H₂ fp pn,PD (aR X scope cl x N C s₂ H₂ fp pn) elt felt)
 (hm:nv (fun d=>felt (some d :: aX js δ)) ds=some xs) (hz:xs.length<=1000)
 (hRR:∀ (D C:Addr) (s':Shared) (Hend:Hp) (vs:List V),s₂.heap.objs.size<=C->L2.Inv X pins σ Hend s'->Same H₂ Hend->Hend D=some (.lst vs)->Reps X.K Hend vs xs->(∃ m,s'.heap.Ns C m)->Hend C=none->RR (.ref D) C (.ok .next) s') :
 wpAny (model X.prog X.w) X.A (newList []) (fun acc s₃=>wpAny (model X.prog X.w) X.A (newFunctionEnv scope X.env.globals cl [] X.env.qual none .none (some X.env)) (fun cenv s₄ =>
  codeAny (model X.prog X.w) X.A (.compStart (.ListComp elt [⟨.Name x px,iter,[],0⟩] scope pos) 0 (.ref it) acc { cenv with scope:=relabel scope X.env }) (RR acc cenv.locals) s₄) E s₃) E s₂:=by
 obtain ⟨ml,mg'⟩:=mv hm;have objs:=T.obj 0 s₂.heap st;have objs':∀ b∈fp,∃ o,s₂.heap.get? b=some o:=fun b hb=>let ⟨o,h,_⟩:=objs b hb;⟨o,h⟩
 refine wpAny_newObj_type (wpAny_newFunctionEnv O.nocell (by intro y hy;simp at hy) (fun h₁ hns₁ hsb₁=>?_) O.kind)
 dsimp only at hns₁ hsb₁ ⊢;generalize hP:s₂.heap.push { cls:=.type "list",dict:=none,data:=.seq ([]:List Value).toArray }=P2 at hns₁ hsb₁ ⊢;have hC:P2.objs.size=s₂.heap.objs.size+1:=by rw [<- hP,Heap.size_push]
 generalize hCC:P2.objs.size=C at *
 have hCle:s₂.heap.objs.size<=C:=by omega
 have hDle:s₂.heap.objs.size<=s₂.heap.objs.size:=by omega
 have hDC:s₂.heap.objs.size ≠ C:=by omega
 have old:∀ b o,s₂.heap.get? b=some o->h₁.get? b=some o:=fun b o e=>by
  refine hsb₁.extBut b o (ZA (Zt (Heap.lt_size e) hCle)) (Heap.get?_push_of_some _ ?_);rw [<- hP];exact Heap.get?_push_of_some _ e
 have hacc:h₁.get? s₂.heap.objs.size=some { cls:=.type "list",data:=.seq ([]:List Value).toArray }:=by
  refine hsb₁.extBut s₂.heap.objs.size _ hDC (Heap.get?_push_of_some _ ?_);rw [<- hP];exact Heap.get?_push_size _ rfl
 have I0:=fun tk=>jf (C:=C) (tk:=tk) I hcm O hCle hf objs' old hns₁ I.len
 have dstk:s₂.heap.objs.size ∉ frs X.stack:=eO I hDle;have fne:∀ b∈fp,b ≠ s₂.heap.objs.size:=fun b hb e=>by
  obtain ⟨o,h⟩:=objs' b hb;exact absurd (Heap.lt_size h) (by rw [e];exact ZB _)
 have cne:∀ y c,cl.lookup y=some c->c ≠ s₂.heap.objs.size:=fun y c e z=>by
  obtain ⟨v,o,h1,_⟩:=I.cell y c (O.cls y c e);exact absurd (Heap.lt_size h1) (by rw [z];exact ZB _)
 have pne:∀ p∈X.pn++pins,p.1 ≠ s₂.heap.objs.size:=fun p hp e=>by
  exact absurd (Heap.lt_size (I.pin p hp).1) (by rw [e];exact ZB _)
 have stat:∀ {H':Hp} {pl:List (Addr×Obj)},(∀ b∈fp,H' b=none)->(∀ p∈pl,∀ b∈fp,p.1 ≠ b)->∀ b∈fp,fg (aR X scope cl x N C s₂ H₂ fp (X.pn++pins)) pl H' b:=fun {H' pl} hn hpl b hb=>by
  obtain ⟨o,h⟩:=objs' b hb;refine ⟨hn b hb,ZA (Zt (Heap.lt_size h) hCle),fun z=>?_,.inl hb,fun y c e=>(hf b hb).2.2.2.2.1 y c (O.cls y c e),fun p hp=>?_⟩
  . rcases Zn.mp (I.stkSub b z) with e | e
    . exact (hf b hb).2.1 e
    . exact (hf b hb).2.2.1 e
  . rcases Zm.mp hp with q | q
    . exact (hf b hb).2.2.2.2.2 p q
    . exact hpl p q b hb
 have loop:∀ s₃:Shared,s₃={ s₂ with heap:=h₁,toks:=s₂.toks+([]:List (Str×Value)).length } ->
  codeAny (model X.prog X.w) X.A (.compLoop (.ListComp elt [⟨.Name x px,iter,[],0⟩] scope pos) 0 (.ref it) (.ref s₂.heap.objs.size) (compEnvC scope cl C X.env)) (RR (.ref s₂.heap.objs.size) C) s₃:=by
  rintro s₃ rfl
  refine gl (fun n s=>∃ (i:Nat) (σ':L2.St) (H':Hp) (vs:List V) (o:Option D),n=ds.length - i/\i<=ds.length/\L2.Inv (aR X scope cl x N C s₂ H₂ fp (X.pn++pins)) [] σ' H' s/\Same H₂ H'/\RepS X.K H' σ' (o :: aX js δ)/\tn i s.heap/\(∀ b∈fp,H' b=none) /\
   (∃ (its:List Value) (k:Nat),Vals vs its/\s.heap.get? s₂.heap.objs.size=some { cls:=.type "list",data:=.seq its.toArray k })/\H' s₂.heap.objs.size=none/\Reps X.K H' vs (xs.take i)/\vs.length=i) ?_ ds.length
   ⟨0,_,H₂,[],none,rfl,Nat.zero_le _,I0 _,Same.refl _,jU R js,T.keep 0 _ _ st (fun b hb o e=>old b o e),fun b hb=>(hf b hb).1,⟨[],0,.nil,hacc⟩,I.hok.fresh hDle,.nil,rfl⟩
  rintro n s ⟨i,σ',H',vs,o,rfl,hi,I',sm,R',st',fr',⟨its,k,rv,hD⟩,fD,rr,hl⟩
  by_cases hlt:i < ds.length
  . -- one more
    obtain ⟨go,yl⟩:=(itd i H' sm).1 hlt;have hd0:ds[i]? = some ds[i]:=by simp [hlt]
    obtain ⟨e,ge,xe⟩:=mg' i _ hd0;have I1:L2.Inv (aR X scope cl x N C s₂ H₂ fp (X.pn++pins)) [(s₂.heap.objs.size,{ cls:=.type "list",data:=.seq its.toArray k })] σ' H' s:=I'.pins_of fun p hp=>by
     have:p=(s₂.heap.objs.size,{ cls:=.type "list",data:=.seq its.toArray k }):=by simpa using hp
     subst this;exact ⟨hD,fD,hDC,dstk,fun v z=>by cases z⟩
    refine thn (T.item (aR X scope cl x N C s₂ H₂ fp (X.pn++pins)) rfl rfl rfl rfl i _ s σ' H' (fun _ _=>False) I1 (stat fr' fun p hp b hb=>by
     have:p=(s₂.heap.objs.size,{ cls:=.type "list",data:=.seq its.toArray k }):=by simpa using hp
     subst this;exact (fne b hb).symm) st' go) fun r s1 ⟨u,hr,h4⟩=>?_
    subst hr;refine thn h4 fun _ s2 ⟨y,H'',I2,ru,yy,st2,fr2⟩=>?_
    obtain ⟨s3,d,hd,rd⟩:=yl y H'' yy;have hd':d=ds[i]:=by rw [hd0] at hd;exact (Zy hd).symm
    subst hd';have I3:=I2.pinned (stat fr2 fun p hp b hb=>by
     have:p=(s₂.heap.objs.size,{ cls:=.type "list",data:=.seq its.toArray k }):=by simpa using hp
     subst this;exact (fne b hb).symm) (T.obj _ _ st2)
    refine thn (eN (X:=aR X scope cl x N C s₂ H₂ fp (X.pn++pins)) (i:=0) O.nd O.h0 (.inl (lookup_relabel_local O.hx)) (.inl (by simp)) _ s2 σ' H'' y u (fun σ4 H4=>σ4=σ'.set 0 (some y)/\H4=H'') I3 ru ⟨rfl,rfl⟩) fun _ s4 ⟨σ4,H4,I4,e1,e2⟩=>?_
    subst e1 e2;have R4:RepS X.K H4 (σ'.set 0 (some y)) (some ds[i] :: aX js δ):=(R'.mono s3).set 0 rd;refine thn (he C s₂ H₂ fp (X.pn++pins) _ s4 (σ'.set 0 (some y)) H4 (fun v H5=>Same H4 H5/\Rep X.K H5 v e) I4 ⟨_,e,R4,ge,fun v H5 s5 r5=>⟨s5,r5⟩⟩) fun wv s5 ⟨v,H5,I5,rw5,s45,r5⟩=>?_
    have hD5:s5.heap.get? s₂.heap.objs.size=some { cls:=.type "list",data:=.seq its.toArray k }:=(I5.pin (s₂.heap.objs.size,{ cls:=.type "list",data:=.seq its.toArray k }) (by simp)).1
    have fD5:H5 s₂.heap.objs.size=none:=(I5.pin (s₂.heap.objs.size,{ cls:=.type "list",data:=.seq its.toArray k }) (by simp)).2.1
    have pf:∀ b∈fp,∀ ob,s2.heap.get? b=some ob->s5.heap.get? b=some ob/\H5 b=none:=fun b hb ob hob=>by
     have:=I5.pin (b,ob) (Zu _ (Zu _ (cA hb hob)));exact ⟨this.1,this.2.1⟩
    have lz:its.length<=1000:=by
     have:=rv.length;omega
    refine call_meets F.slot_list_append ⟨_,hD5,rfl⟩ F.entry_list_append (F.args_list_append_2 _ _) (PySem.list_append s₂.heap.objs.size its.toArray k wv (by rw [Zx];exact bn lz)) ⟨hD5,?_⟩
    have q:=PySem.IsL.update hD5 (fun a=>a.push wv)
    have I6:L2.Inv (aR X scope cl x N C s₂ H₂ fp (X.pn++pins)) [] (σ'.set 0 (some y)) H5 { s5 with heap:=s5.heap.update s₂.heap.objs.size (Obj.mapSeq fun a=>a.push wv),toks:=s5.toks } :=
     (I5.pins_of (pins':=[]) fun p hp=>by simp at hp).turned (it:=s₂.heap.objs.size) (t':=s5.toks) (fun b ob hb hu=>(Heap.get?_update_other s5.heap _ (Ne.symm hb)).trans hu) fD5 hDC (.inr hDle) cne (fun p hp=>by
      rcases Zm.mp hp with z | z
      . exact pne p z
      . simp at z)
    refine ⟨ds.length - (i+1),by omega,i+1,σ'.set 0 (some y),H5,vs++[v],some ds[i],rfl,hlt,I6,(sm.trans s3).trans s45,R4.mono s45,?_,?_,?_,fD5,?_,by simp [hl]⟩
    . refine T.keep _ _ _ st2 fun b hb ob hob=>?_
      exact (Heap.get?_update_other s5.heap _ (Ne.symm (fne b hb))).trans (pf b hb ob hob).1
    . intro b hb;obtain ⟨ob,hob,_⟩:=T.obj _ _ st2 b hb;exact (pf b hb ob hob).2
    . have hf7:its.toArray.push wv=(its++[wv]).toArray:=by simp
      rw [hf7] at q;exact ⟨its++[wv],_,rv.append (.cons rw5 .nil),q⟩
    . have e8:xs.take (i+1)=xs.take i++[e]:=by
       rw [List.take_add_one,xe];rfl
      rw [e8];exact ((rr.mono s3).mono s45).append (.cons r5 .nil)
  . -- the end
    have hie:i=ds.length:=by omega
    refine thn (T.done (aR X scope cl x N C s₂ H₂ fp (X.pn++pins)) rfl rfl rfl rfl i [(s₂.heap.objs.size,{ cls:=.type "list",data:=.seq its.toArray k })] s σ' H' (fun _ _=>False) (I'.pins_of fun p hp=>by
     have:p=(s₂.heap.objs.size,{ cls:=.type "list",data:=.seq its.toArray k }):=by simpa using hp
     subst this;exact ⟨hD,fD,hDC,dstk,fun v z=>by cases z⟩) (stat fr' fun p hp b hb=>by
     have:p=(s₂.heap.objs.size,{ cls:=.type "list",data:=.seq its.toArray k }):=by simpa using hp
     subst this;exact (fne b hb).symm) st' ((itd i H' sm).2 (by omega))) fun r s1 ⟨hr,I8⟩=>?_
    subst hr;have hD8:s1.heap.get? s₂.heap.objs.size=some { cls:=.type "list",data:=.seq its.toArray k }:=(I8.pin (s₂.heap.objs.size,{ cls:=.type "list",data:=.seq its.toArray k }) (by simp)).1
    have hxs:xs.take i=xs:=List.take_of_length_le (by omega)
    rw [hxs] at rr;have sn:=aJ fD (.lst vs);have dn:∀ b,∀ u,H' b=some u->b ≠ s₂.heap.objs.size:=fun b u z=>aA z fD
    have un:Un (frs X.stack) fp H₂ (upd H' s₂.heap.objs.size (.lst vs)) s₂.heap s1.heap:=by
     have b0:=I8.base;refine ⟨fun b ob e n1 n2 n3=>b0.keep b ob e n1 n2 n3,fun b ob e n1 n2 n3=>b0.slot b ob e n1 n2 n3,fun b ob e n1 n3=>?_,fun b ob e n3=>b0.there b ob e n3,fun b zs e=>?_,fun b ob u e=>?_,fun b ps e=>?_⟩
     . rw [al (ZA (Heap.lt_size e))];exact b0.free b ob e n1 n3
     . have z:=b0.tups b zs e;rw [al (dn _ _ z)];exact z
     . have z:=b0.frzs b ob u e;rw [al (dn _ _ z)];exact z
     . obtain ⟨more,z⟩:=b0.tbls b ps e;exact ⟨more,by rw [al (dn _ _ z)];exact z⟩
    have hok:HOk X.prog X.w (upd H' s₂.heap.objs.size (.lst vs)) s1.heap:=fun b u z=>by
     by_cases hb:b=s₂.heap.objs.size
     . rw [hb] at z ⊢;rw [aw] at z;cases z;exact ⟨bn (by omega),its,k,rv,hD8⟩
     . rw [al hb] at z;exact (I8.hok b u z).stay (fun _ _ _ q=>q) (fun c q=>by rw [al (dn _ _ q)];exact q) fun c ys q=>by rw [al (dn _ _ q)];exact q
    have IX:L2.Inv X pins σ (upd H' s₂.heap.objs.size (.lst vs)) s1:=I.call' I8.os un hok I8.bare fun b hb=>⟨(hf b hb).2.2.2.1,(hf b hb).2.1,(hf b hb).2.2.2.2.1,(hf b hb).2.2.2.2.2⟩
    obtain ⟨m8,hn8,_⟩:=I8.loc;refine hRR s₂.heap.objs.size C s1 _ vs hCle IX (sm.trans sn) aw (rr.mono sn) ⟨m8,hn8⟩ ?_;rw [al (Ne.symm hDC)];exact I8.free
 exact codeAny_compStart_list (loop _ rfl) (T.self X.A 0 _ _ _ (T.keep 0 _ _ st (fun b hb o e=>old b o e)) (loop _ rfl))
theorem iz {C:Addr} {h':Heap} {s':Shared} {Hend:Hp} (I:L2.Inv X pins σ Hend s') (I0:L2.Inv X pins σ H₂ s₂) (hC:s₂.heap.objs.size<=C) (fC:Hend C=none) (hs:Heap.SameBut C s'.heap h'):L2.Inv X pins σ Hend { s' with heap:=h' } :=
 I.turned (it:=C) (t':=s'.toks) (fun b o hb e=>(hs.2 b hb).trans e) fC (Nat.ne_of_gt (Zt I0.lt hC)) (.inr (Nat.le_trans I0.sz hC))
  (fun y c e z=>by
   obtain ⟨v,o,h1,_⟩:=I0.cell y c e;exact absurd (Zt (Heap.lt_size h1) (by rw [z];exact hC)) (ZB _))
  (fun p hp z=>absurd (Zt (Heap.lt_size (I0.pin p hp).1) (by rw [z];exact hC)) (ZB _))
theorem AO {elt iter:Expr} {px pos:Pos} {src:FA} {felt:FD} (hi:PID X (.Name x px) iter src) {N:List Str} {js:List Nat} (he:∀ C s₂ H₂ fp pn,PD (aR X scope cl x N C s₂ H₂ fp pn) elt felt) (O:CompOk X scope cl x N js) (hcm:X.calm=true:=by rfl)
 (hs:∀ v,foldedSetIterable iter X.env v=pure v:=by intro _;rfl):PD X (.ListComp elt [⟨.Name x px,iter,[],0⟩] scope pos) (kA src js felt):=by
 intro pins s σ H Q I ⟨δ,d,R,q,k⟩;unfold kA at q;obtain ⟨ds,eds,q⟩:=Za.mp q;obtain ⟨xs,exs,q⟩:=Za.mp q
 by_cases hz:xs.length<=1000
 . rw [if_pos hz] at q;cases q;rw [eval_ListComp];refine wpAny_comprehension_free (use:=none) rfl hs O.clos O.kind O.names ?_;refine wpAny_mono (hi pins s σ H (fun J H1=>Same H H1/\ItD X.K J H1 ds) I ⟨δ,ds,R,eds,fun J H1 s1 itd=>⟨s1,itd⟩⟩) (fun v s1 h1=>wpAny_mono h1 (fun itv s2 h2=>?_) fun _ _ z=>z) fun _ _ z=>z
   obtain ⟨it,fp,tn,J,H2,rfl,I2,T,st,hf,s1,itd⟩:=h2;refine tZ (RR:=fun acc C=>compPost (model X.prog X.w) X.A X.xe none (EP X pins σ Q) acc C) I2 hcm O T st hf itd (R.mono s1) he exs hz ?_
   intro D C s' Hend vs hC IX sm hD rr ⟨m,hn⟩ fC;exact ⟨m,hn,fun h' hs'=>⟨.ref D,Hend,iz IX I2 hC fC hs',rfl,k _ _ (s1.trans sm) (.lst hD rr)⟩⟩
 . rw [if_neg hz] at q;cases q
end
end Dl
namespace Dl
open PySem PySem.Spec PyProof.Rows L2
theorem CompOk.one {X:Cx} {scope:Scope} {c:Addr} {x z:Str} {j:Nat} (clos:closureFor scope X.env=pure [(z,c)]:=by rfl) (nocell:∀ y∈scope.names,y.2 ≠ .cell:=by decide +kernel) (kind:scope.kind=.function:=by rfl)
 (names:∀ y∈scope.names,y.2=.local->scope.names.lookup y.1=some .local:=by decide +kernel) (hx:scope.names.lookup x=some .local:=by rfl) (hne:x ≠ z:=by decide +kernel) (hcell:X.env.cells.lookup z=some c:=by rfl)
 (hfr:∀ p∈scope.names,p.2=.free->p.1=z:=by decide +kernel) (hj:X.N[j]? = some z:=by rfl) (hk:X.env.scope.names.lookup z=some .cell:=by rfl) (hk':(relabel scope X.env).names.lookup z=some .cell:=by rfl):CompOk X scope [(z,c)] x [x,z] [j] where
 clos:=clos
 nocell:=nocell
 kind:=kind
 names:=names
 hx:=hx
 nd:=by simp [hne]
 h0:=rfl
 len:=rfl
 clx:=by
  show List.lookup x [(z,c)]=none;have q:(x == z)=false:=beq_eq_false_iff_ne.mpr hne;rw [List.lookup_cons,q];rfl
 cls:=fun y a h=>by
  have h':List.lookup y [(z,c)]=some a:=h
  by_cases hy:y=z
  . subst hy;simp at h';subst h';exact hcell
  . have q:(y == z)=false:=beq_eq_false_iff_ne.mpr hy;rw [List.lookup_cons,q] at h';cases h'
 has:=fun y h=>by
  have key:∀ k,(k=NameKind.cell \/ k=NameKind.free)->(relabel scope X.env).names.lookup y=some k->y=z:=fun k hk h=>by
   have m:=PySem.mem_of_lookup h;unfold relabel at m;obtain ⟨⟨n,k'⟩,m1,m2⟩:=Zl.mp m;dsimp only at m2;have hk1:k'=NameKind.free:=by
    split at m2
    . rename_i hc;rw [ZI,ZI] at hc;exact beq_iff_eq.mp hc.1.1
    . have e:k'=k:=congrArg Prod.snd m2;rcases hk with z1 | z1
      . exact absurd (e.trans z1) (nocell _ m1)
      . exact e.trans z1
   have hn:n=y:=by split at m2 <;> exact congrArg Prod.fst m2
   rw [<- hn];exact hfr _ m1 hk1
  have e:y=z:=by
   rcases h with h | h
   . exact key _ (.inl rfl) h
   . exact key _ (.inr rfl) h
  subst e;exact ⟨c,by simp⟩
 fr:=fun i y k h1 h2=>by
  cases i with
  | zero =>
   have e1:z=y:=Zy h1;have e2:j=k:=Zy h2;subst e1 e2;refine ⟨hj,hk,hk',fun a ha=>?_⟩
   rw [hcell] at ha;cases ha;simp
  | succ i=>cases h2
end Dl
namespace Dl
open PySem PySem.Spec PyProof.Rows L2
end Dl
namespace Dl
open PySem PySem.Spec PyProof.Rows L2
section
variable {P:Program} {w:World} {K:Zr} {mg:Str->Option Value} {base:Heap}
end
section
variable {X:Cx} {a b:Expr} {fa fb:FD} {pos:Pos}
end
end Dl
namespace Dl
open PySem PySem.Spec PyProof.Rows L2
section
variable {X:Cx} {pins:List (Addr×Obj)} {σ:L2.St} {H H₀ H':Hp} {s s':Shared} {B:Heap} {x C t:Addr}
end
section
variable {X:Cx} {pins:List (Addr×Obj)} {σ:L2.St} {H:Hp} {s:Shared} {h':Heap}
end
end Dl
namespace Dl
open PySem PySem.Spec PyProof.Rows L2
mutual
def imm:D->Bool
 | .tup ds=>cT ds
 | .lst _=>false
 | .seq _=>false
 | .ms _ _=>false
 | .mf _ _=>false
 | .md _ _=>false
 | _=>true
def cT:List D->Bool
 | []=>true
 | d :: ds=>imm d && cT ds
end
mutual
def own:D->Bool
 | .tup ds=>gH ds
 | .lst ds=>gH ds
 | .seq _=>false
 | .ms _ _=>false
 | .mf _ _=>false
 | _=>true
def gH:List D->Bool
 | []=>true
 | d :: ds=>own d && gH ds
end
mutual
def sh:D->D
 | .tup ds=>.tup (shs ds)
 | .lst ds=>.seq (shs ds)
 | .seq ds=>.seq (shs ds)
 | .ms ks ds=>.ms ks (shs ds)
 | .mf ks ds=>.mf ks (shs ds)
 | .md ks ds=>.ms ks (shs ds)
 | d=>d
def shs:List D->List D
 | []=>[]
 | d :: ds=>sh d :: shs ds
end
theorem cq:∀ (ds:List D),shs ds=ds.map sh
 | []=>rfl
 | d :: ds=>by rw [shs,cq ds];rfl
mutual
theorem BN:∀ (d:D),sh (sh d)=sh d
 | .non=>rfl
 | .bl _=>rfl
 | .int _=>rfl
 | .str _=>rfl
 | .ty _=>rfl
 | .dct=>rfl
 | .exc _=>rfl
 | .cls _=>rfl
 | .ms ks ds=>by rw [sh,sh,fP ds]
 | .mf ks ds=>by rw [sh,sh,fP ds]
 | .md ks ds=>by rw [sh,sh,fP ds]
 | .tup ds=>by rw [sh,sh,fP ds]
 | .lst ds=>by rw [sh,sh,fP ds]
 | .seq ds=>by rw [sh,sh,fP ds]
theorem fP:∀ (ds:List D),shs (shs ds)=shs ds
 | []=>rfl
 | d :: ds=>by rw [shs,shs,BN d,fP ds]
end
def mtb:HO->Bool
 | .lst _=>true
 | .dK _=>true
 | .frz _ (.dK _)=>true
 | _=>false
abbrev MO:={u:HO // mtb u=true}
def dw (H H':Hp):Prop:=∀ a u,H a=some u->mtb u=false->H' a=some u
theorem aO {H H':Hp} (s:Same H H'):dw H H':=fun a u e _=>s a u e
theorem wN {H:Hp} {a:Addr} {u:HO} {o:HO} (h:H a=some u) (m:mtb u=true):dw H (upd H a o):=fun b w e n=>by
 by_cases hb:b=a
 . subst hb;rw [h] at e;cases e;rw [m] at n;cases n
 . rw [al hb];exact e
theorem rD {H:Hp} {a:Addr} {vs:List V} {o:HO} (h:H a=some (.lst vs)):dw H (upd H a o):=wN h rfl
theorem jr {K:Zr} {H H':Hp} {a:Addr} {xs:List V} (k:dw H H') (h:SqT K H a xs):SqT K H' a xs:=by
 rcases h with (h | ⟨o,h⟩) | h
 . exact .inl (.inl (k _ _ h rfl))
 . exact .inl (.inr ⟨o,k _ _ h rfl⟩)
 . exact .inr h
mutual
theorem jD {K:Zr} {H H':Hp} (k:dw H H'):∀ {v:V} {d:D},Rep K H v d->imm d=true->Rep K H' v d
 | _,_,.non,_=>.non
 | _,_,.bl b,_=>.bl b
 | _,_,.int i,_=>.int i
 | _,_,.str x,_=>.str x
 | _,_,.ty n,_=>.ty n
 | _,_,.tup h r,i=>.tup (jr k h) (fE k r (by rw [imm] at i;exact i))
 | _,_,.lst h r,i=>by rw [imm] at i;cases i
 | _,_,.seq h r,i=>by rw [imm] at i;cases i
 | _,_,.dct h,_=>.dct (k _ _ h rfl)
 | _,_,.exc h,_=>.exc (k _ _ h rfl)
 | _,_,.cls C,_=>.cls C
 | _,_,.ms h l r,i=>by rw [imm] at i;cases i
 | _,_,.mf h l r,i=>by rw [imm] at i;cases i
 | _,_,.md h l r,i=>by rw [imm] at i;cases i
theorem fE {K:Zr} {H H':Hp} (k:dw H H'):∀ {vs:List V} {ds:List D},Reps K H vs ds->cT ds=true->Reps K H' vs ds
 | _,_,.nil,_=>.nil
 | _,_,.cons r t,i=>by
  rw [cT,ZI] at i;exact .cons (jD k r i.1) (fE k t i.2)
end
mutual
theorem lO {K:Zr} {H:Hp}:∀ {v:V} {d:D},Rep K H v d->Rep K H v (sh d)
 | _,_,.non=>.non
 | _,_,.bl b=>.bl b
 | _,_,.int i=>.int i
 | _,_,.str x=>.str x
 | _,_,.ty n=>.ty n
 | _,_,.tup h r=>by rw [sh];exact .tup h (bY r)
 | _,_,.lst h r=>by rw [sh];exact .seq (SqL.of h) (bY r)
 | _,_,.seq h r=>by rw [sh];exact .seq h (bY r)
 | _,_,.dct h=>.dct h
 | _,_,.exc h=>.exc h
 | _,_,.cls C=>.cls C
 | _,_,.ms h l r=>by rw [sh];exact .ms h (by rw [cq,Zg];exact l) (bY r)
 | _,_,.mf h l r=>by rw [sh];exact .mf h (by rw [cq,Zg];exact l) (bY r)
 | _,_,.md h l r=>by rw [sh];exact .ms (.inl h) (by rw [cq,Zg];exact l) (bY r)
theorem bY {K:Zr} {H:Hp}:∀ {vs:List V} {ds:List D},Reps K H vs ds->Reps K H vs (shs ds)
 | _,_,.nil=>.nil
 | _,_,.cons r t=>by rw [shs];exact .cons (lO r) (bY t)
end
mutual
inductive RepO (K:Zr) (F H:Hp):V->D->List Addr->Prop
 | imm {v:V} {d:D} (i:imm d=true) (h:Rep K H v d):RepO K F H v d []
 | shr {v:V} {ds:List D} (h:Rep K F v (.seq ds)):RepO K F H v (.seq ds) []
 | shm {v:V} {ks:List Int} {ds:List D} (h:Rep K F v (.ms ks ds)):RepO K F H v (.ms ks ds) []
 | shf {v:V} {ks:List Int} {ds:List D} (h:Rep K F v (.mf ks ds)):RepO K F H v (.mf ks ds) []
 | tup {a:Addr} {vs:List V} {ds:List D} {A:List Addr} (h:SqT K H a vs) (r:RepOs K F H vs ds A):RepO K F H (.ref a) (.tup ds) A
 | lst {a:Addr} {vs:List V} {ds:List D} {A:List Addr} (h:H a=some (.lst vs)) (n:F a=none) (r:RepOs K F H vs ds A):RepO K F H (.ref a) (.lst ds) (a :: A)
 | md {a:Addr} {ks:List Int} {vs:List V} {ds:List D} (h:H a=some (.dK ((ks.map Sum.inl).zip vs))) (n:F a=none) (l:ks.length=ds.length) (i:cT ds=true) (r:Reps K H vs ds):RepO K F H (.ref a) (.md ks ds) [a]
inductive RepOs (K:Zr) (F H:Hp):List V->List D->List Addr->Prop
 | nil:RepOs K F H [] [] []
 | cons {v:V} {d:D} {vs:List V} {ds:List D} {A B C:List Addr} (r:RepO K F H v d A) (t:RepOs K F H vs ds B) (e:C=A++B):RepOs K F H (v :: vs) (d :: ds) C
end
section
variable {K:Zr} {F H F' H':Hp}
mutual
theorem RepO.rep (s:Same F H):∀ {v:V} {d:D} {A:List Addr},RepO K F H v d A->Rep K H v d
 | _,_,_,.imm _ h=>h
 | _,_,_,.shr h=>h.mono s
 | _,_,_,.shm h=>h.mono s
 | _,_,_,.shf h=>h.mono s
 | _,_,_,.tup h r=>.tup h (RepOs.reps s r)
 | _,_,_,.lst h _ r=>.lst h (RepOs.reps s r)
 | _,_,_,.md h _ l _ r=>.md h l r
theorem RepOs.reps (s:Same F H):∀ {vs:List V} {ds:List D} {A:List Addr},RepOs K F H vs ds A->Reps K H vs ds
 | _,_,_,.nil=>.nil
 | _,_,_,.cons r t _=>.cons (RepO.rep s r) (RepOs.reps s t)
end
mutual
theorem RepO.dom:∀ {v:V} {d:D} {A:List Addr},RepO K F H v d A->∀ a∈A,(∃ u:MO,H a=some u.1)/\F a=none
 | _,_,_,.imm _ _,_,m=>nomatch m
 | _,_,_,.shr _,_,m=>nomatch m
 | _,_,_,.shm _,_,m=>nomatch m
 | _,_,_,.shf _,_,m=>nomatch m
 | _,_,_,.tup _ r,a,m=>RepOs.dom r a m
 | _,_,_,.lst h n r,a,m=>by
  rcases Zn.mp m with e | e
  . subst e;exact ⟨⟨⟨_,rfl⟩,h⟩,n⟩
  . exact RepOs.dom r a e
 | _,_,_,.md h n _ _ _,a,m=>by
  rcases Zk.mp m with rfl
  exact ⟨⟨⟨_,rfl⟩,h⟩,n⟩
theorem RepOs.dom:∀ {vs:List V} {ds:List D} {A:List Addr},RepOs K F H vs ds A->∀ a∈A,(∃ u:MO,H a=some u.1)/\F a=none
 | _,_,_,.nil,_,m=>nomatch m
 | _,_,_,.cons r t e,a,m=>by
  subst e;rcases Zm.mp m with z | z
  . exact RepO.dom r a z
  . exact RepOs.dom t a z
end
mutual
theorem RepO.frame (k:dw H H'):∀ {v:V} {d:D} {A:List Addr},RepO K F H v d A->(∀ a∈A,H' a=H a)->RepO K F H' v d A
 | _,_,_,.imm i h,_=>.imm i (jD k h i)
 | _,_,_,.shr h,_=>.shr h
 | _,_,_,.shm h,_=>.shm h
 | _,_,_,.shf h,_=>.shf h
 | _,_,_,.tup h r,e=>.tup (jr k h) (RepOs.frame k r e)
 | _,_,_,.lst h n r,e=>.lst ((e _ Zi).trans h) n (RepOs.frame k r fun a m=>e a (Zj _ m))
 | _,_,_,.md h n l i r,e=>.md ((e _ Zi).trans h) n l i (fE k r i)
theorem RepOs.frame (k:dw H H'):∀ {vs:List V} {ds:List D} {A:List Addr},RepOs K F H vs ds A->(∀ a∈A,H' a=H a)->RepOs K F H' vs ds A
 | _,_,_,.nil,_=>.nil
 | _,_,_,.cons r t e,q=>by
  subst e;exact .cons (RepO.frame k r fun a m=>q a (List.mem_append_left _ m)) (RepOs.frame k t fun a m=>q a (Zu _ m)) rfl
end
mutual
theorem RepO.froz (s:Same F F'):∀ {v:V} {d:D} {A:List Addr},RepO K F H v d A->(∀ a∈A,F' a=none)->RepO K F' H v d A
 | _,_,_,.imm i h,_=>.imm i h
 | _,_,_,.shr h,_=>.shr (h.mono s)
 | _,_,_,.shm h,_=>.shm (h.mono s)
 | _,_,_,.shf h,_=>.shf (h.mono s)
 | _,_,_,.tup h r,e=>.tup h (RepOs.froz s r e)
 | _,_,_,.lst h n r,e=>.lst h (e _ Zi) (RepOs.froz s r fun a m=>e a (Zj _ m))
 | _,_,_,.md h n l i r,e=>.md h (e _ Zi) l i r
theorem RepOs.froz (s:Same F F'):∀ {vs:List V} {ds:List D} {A:List Addr},RepOs K F H vs ds A->(∀ a∈A,F' a=none)->RepOs K F' H vs ds A
 | _,_,_,.nil,_=>.nil
 | _,_,_,.cons r t e,q=>by
  subst e;exact .cons (RepO.froz s r fun a m=>q a (List.mem_append_left _ m)) (RepOs.froz s t fun a m=>q a (Zu _ m)) rfl
end
mutual
theorem RepO.thaw (s:Same F' F):∀ {v:V} {d:D} {A:List Addr},RepO K F H v d A->own d=true->RepO K F' H v d A
 | _,_,_,.imm i h,_=>.imm i h
 | _,_,_,.shr h,o=>by rw [own] at o;cases o
 | _,_,_,.shm h,o=>by rw [own] at o;cases o
 | _,_,_,.shf h,o=>by rw [own] at o;cases o
 | _,_,_,.tup h r,o=>.tup h (RepOs.thaw s r (by rw [own] at o;exact o))
 | _,_,_,.lst (a:=a) h n r,o=>.lst h (by
  cases q:F' a with
  | none=>rfl
  | some u=>rw [s a u q] at n;cases n) (RepOs.thaw s r (by rw [own] at o;exact o))
 | _,_,_,.md (a:=a) h n l i r,o=>.md h (by
  cases q:F' a with
  | none=>rfl
  | some u=>rw [s a u q] at n;cases n) l i r
theorem RepOs.thaw (s:Same F' F):∀ {vs:List V} {ds:List D} {A:List Addr},RepOs K F H vs ds A->gH ds=true->RepOs K F' H vs ds A
 | _,_,_,.nil,_=>.nil
 | _,_,_,.cons r t e,o=>by
  rw [gH,ZI] at o;exact .cons (RepO.thaw s r o.1) (RepOs.thaw s t o.2) e
end
mutual
theorem RepO.none_of:∀ {v:V} {d:D} {A:List Addr},RepO K F H v d A->imm d=true->A=[]
 | _,_,_,.imm _ _,_=>rfl
 | _,_,_,.shr _,_=>rfl
 | _,_,_,.shm _,_=>rfl
 | _,_,_,.shf _,_=>rfl
 | _,_,_,.tup _ r,i=>RepOs.none_of r (by rw [imm] at i;exact i)
 | _,_,_,.lst _ _ _,i=>by rw [imm] at i;cases i
 | _,_,_,.md _ _ _ _ _,i=>by rw [imm] at i;cases i
theorem RepOs.none_of:∀ {vs:List V} {ds:List D} {A:List Addr},RepOs K F H vs ds A->cT ds=true->A=[]
 | _,_,_,.nil,_=>rfl
 | _,_,_,.cons r t e,i=>by
  rw [cT,ZI] at i;rw [e,RepO.none_of r i.1,RepOs.none_of t i.2];rfl
end
theorem RepO.seq_nil {v:V} {ds:List D}:∀ {d:D} {A:List Addr},RepO K F H v d A->d=.seq ds->A=[]
 | _,_,.imm i _,e=>rfl
 | _,_,.shr _,_=>rfl
 | _,_,.shm _,_=>rfl
 | _,_,.shf _,_=>rfl
 | _,_,.tup _ _,e=>nomatch e
 | _,_,.lst _ _ _,e=>nomatch e
 | _,_,.md _ _ _ _ _,e=>nomatch e
noncomputable def frz (F H:Hp) (A:List Addr):Hp:=fun a=>match H a with
 | some u=>if mtb u=true then (if (F a).isSome=true \/ a∈A then some u else none) else some u
 | none=>none
theorem vE {A:List Addr} {a:Addr} {u:HO} (h:H a=some u) (m:a∈A):frz F H A a=some u:=by
 unfold frz;rw [h];show (if mtb u=true then (if (F a).isSome=true \/ a∈A then some u else none) else some u)=some u
 rw [if_pos (show (F a).isSome=true \/ a∈A from .inr m)]
 split <;> rfl
theorem rN {A:List Addr}:dw H (frz F H A):=fun a u e n=>by
 unfold frz;rw [e];exact if_neg (by rw [n];exact fun z=>nomatch z)
theorem rM {A:List Addr} (s:Same F H):Same F (frz F H A):=fun a u e=>by
 have h:=s a u e;unfold frz;rw [h];show (if mtb u=true then (if (F a).isSome=true \/ a∈A then some u else none) else some u)=some u
 rw [if_pos (show (F a).isSome=true \/ a∈A from .inl (by rw [e];rfl))]
 split <;> rfl
theorem zw {A:List Addr}:Same (frz F H A) H:=fun a u e=>by
 unfold frz at e;split at e
 . rename_i w h;rw [h];split at e
   . split at e
     . exact e
     . cases e
   . exact e
 . cases e
theorem pV {A:List Addr} {a:Addr} {u:MO} (h:H a=some u.1) (n:F a=none) (m:a ∉ A):frz F H A a=none:=by
 unfold frz;rw [h];show (if mtb u.1=true then (if (F a).isSome=true \/ a∈A then some u.1 else none) else some u.1)=none
 rw [if_pos u.2];refine if_neg fun z=>?_
 rcases z with z | z
 . rw [n] at z;cases z
 . exact m z
mutual
theorem RepO.freeze (s:Same F F') (k:dw H F'):∀ {v:V} {d:D} {A:List Addr},RepO K F H v d A->(∀ a u,a∈A->H a=some u->F' a=some u)->Rep K F' v (sh d)
 | _,_,_,.imm i h,_=>lO (jD k h i)
 | _,_,_,.shr h,_=>lO (h.mono s)
 | _,_,_,.shm h,_=>lO (h.mono s)
 | _,_,_,.shf h,_=>lO (h.mono s)
 | _,_,_,.tup h r,e=>by rw [sh];exact .tup (jr k h) (RepOs.freeze s k r e)
 | _,_,_,.lst h _ r,e=>by rw [sh];exact .seq (SqL.of (e _ _ Zi h)) (RepOs.freeze s k r fun a vs m=>e a vs (Zj _ m))
 | _,_,_,.md h _ l i r,e=>by rw [sh];exact .ms (.inl (e _ _ Zi h)) (by rw [cq,Zg];exact l) (bY (fE k r i))
theorem RepOs.freeze (s:Same F F') (k:dw H F'):∀ {vs:List V} {ds:List D} {A:List Addr},RepOs K F H vs ds A->(∀ a u,a∈A->H a=some u->F' a=some u)->Reps K F' vs (shs ds)
 | _,_,_,.nil,_=>.nil
 | _,_,_,.cons r t e,q=>by
  subst e;rw [shs];exact .cons (RepO.freeze s k r fun a vs m=>q a vs (List.mem_append_left _ m)) (RepOs.freeze s k t fun a vs m=>q a vs (Zu _ m))
end
mutual
theorem RepO.of_sh (s:Same F H):∀ {v:V} {d:D},Rep K F v d->RepO K F H v (sh d) []
 | _,_,.non=>.imm rfl .non
 | _,_,.bl b=>.imm rfl (.bl b)
 | _,_,.int i=>.imm rfl (.int i)
 | _,_,.str x=>.imm rfl (.str x)
 | _,_,.ty n=>.imm rfl (.ty n)
 | _,_,.tup h r=>by rw [sh];exact .tup (qB s h) (RepOs.of_sh s r)
 | _,_,.lst h r=>by rw [sh];exact .shr (.seq (SqL.of h) (bY r))
 | _,_,.seq h r=>by rw [sh];exact .shr (.seq h (bY r))
 | _,_,.dct h=>.imm rfl (.dct (s _ _ h))
 | _,_,.exc h=>.imm rfl (.exc (s _ _ h))
 | _,_,.cls C=>.imm rfl (.cls C)
 | _,_,.ms h l r=>by rw [sh];exact .shm (.ms h (by rw [cq,Zg];exact l) (bY r))
 | _,_,.mf h l r=>by rw [sh];exact .shf (.mf h (by rw [cq,Zg];exact l) (bY r))
 | _,_,.md h l r=>by rw [sh];exact .shm (.ms (.inl h) (by rw [cq,Zg];exact l) (bY r))
theorem RepOs.of_sh (s:Same F H):∀ {vs:List V} {ds:List D},Reps K F vs ds->RepOs K F H vs (shs ds) []
 | _,_,.nil=>.nil
 | _,_,.cons r t=>by rw [shs];exact .cons (RepO.of_sh s r) (RepOs.of_sh s t) rfl
end
theorem RepOs.length:∀ {vs:List V} {ds:List D} {A:List Addr},RepOs K F H vs ds A->vs.length=ds.length
 | _,_,_,.nil=>rfl
 | _,_,_,.cons _ t _=>congrArg (· + 1) (RepOs.length t)
theorem RepOs.snoc:∀ {vs:List V} {ds:List D} {A B:List Addr} {v:V} {d:D},RepOs K F H vs ds A->RepO K F H v d B->RepOs K F H (vs++[v]) (ds++[d]) (A++B)
 | _,_,_,_,_,_,.nil,r=>.cons r .nil (by simp)
 | _,_,_,_,_,_,.cons q t e,r=>.cons q (RepOs.snoc t r) (by rw [e,List.append_assoc])
theorem RepOs.pick:∀ {vs:List V} {ds:List D} {A:List Addr} {i:Nat} {d:D},RepOs K F H vs ds A->ds[i]? = some d->∃ v A1 B A2,vs[i]? = some v/\RepO K F H v d B/\A=A1++(B++A2) /\
 ∀ {H':Hp} {v':V} {d':D} {B':List Addr},dw H H'->(∀ a,a∈A1 \/ a∈A2->H' a=H a)->RepO K F H' v' d' B'->RepOs K F H' (vs.set i v') (ds.set i d') (A1++(B'++A2))
 | _,_,_,_,_,.nil,e=>by simp at e
 | _,_,_,0,_,.cons (A:=A) (B:=B) r t e,q=>by
  simp at q;subst q;refine ⟨_,[],A,B,rfl,r,by simpa using e,fun k h r'=>?_⟩
  exact .cons r' (t.frame k fun a m=>h a (.inr m)) (by simp)
 | _,_,_,i+1,d,.cons (A:=A0) (B:=B0) r t e,q=>by
  obtain ⟨v,A1,B,A2,h1,h2,h3,h4⟩:=RepOs.pick (i:=i) (d:=d) t (by simpa using q)
  refine ⟨v,A0++A1,B,A2,by simpa using h1,h2,by rw [e,h3,List.append_assoc],fun k h r'=>?_⟩
  refine .cons (r.frame k fun a m=>h a (.inl (List.mem_append_left _ m))) (h4 k (fun a m=>h a ?_) r') (by rw [List.append_assoc])
  rcases m with m | m
  . exact .inl (Zu _ m)
  . exact .inr m
end
end Dl
namespace Dl
open PySem PySem.Spec PyProof.Rows L2
structure RepA (K:Zr) (F H:Hp) (σ:L2.St) (δ:DS) (As:Nat->List Addr):Prop where
 fz:Same F H
 len:σ.length=δ.length
 val:∀ (i:Nat) (d:D),δ[i]? = some (some d)->∃ v,σ[i]? = some (some v)/\RepO K F H v d (As i)
 non:∀ (i:Nat),(∀ d,δ[i]? ≠ some (some d))->As i=[]
 nd:∀ i,(As i).Nodup
 dj:∀ i j a,i ≠ j->a∈As i->a ∉ As j
def cU (K:Zr) (F H:Hp) (σ:L2.St) (δ:DS):Prop:=∃ As,RepA K F H σ δ As
section
variable {K:Zr} {F H F' H':Hp} {σ:L2.St} {δ:DS} {As:Nat->List Addr}
theorem RepA.toS (R:RepA K F H σ δ As):RepS K H σ δ:=⟨R.len,fun i d q=>let ⟨v,h1,h2⟩:=R.val i d q;⟨v,h1,h2.rep R.fz⟩⟩
theorem RepA.dom (R:RepA K F H σ δ As) {i:Nat} {a:Addr} (m:a∈As i):(∃ u:MO,H a=some u.1)/\F a=none:=by
 by_cases h:∃ d,δ[i]? = some (some d)
 . obtain ⟨d,h⟩:=h;obtain ⟨v,_,h2⟩:=R.val i d h;exact h2.dom a m
 . rw [R.non i fun d z=>h ⟨d,z⟩] at m;cases m
theorem RepA.grow (R:RepA K F H σ δ As) (s:Same H H'):RepA K F H' σ δ As :=
 ⟨R.fz.trans s,R.len,fun i d q=>by
  obtain ⟨v,h1,h2⟩:=R.val i d q;refine ⟨v,h1,h2.frame (aO s) fun a m=>?_⟩
  obtain ⟨⟨vs,e⟩,_⟩:=h2.dom a m;rw [e];exact s a _ e,R.non,R.nd,R.dj⟩
theorem RepA.froz (R:RepA K F H σ δ As) (s:Same F F') (s':Same F' H) (n:∀ i a,a∈As i->F' a=none):RepA K F' H σ δ As :=
 ⟨s',R.len,fun i d q=>let ⟨v,h1,h2⟩:=R.val i d q;⟨v,h1,h2.froz s (n i)⟩,R.non,R.nd,R.dj⟩
def ib (As:Nat->List Addr) (i:Nat) (A:List Addr):Nat->List Addr:=fun j=>if j=i then A else As j
theorem az {i:Nat} {A:List Addr}:ib As i A i=A:=if_pos rfl
theorem aD {i j:Nat} {A:List Addr} (h:j ≠ i):ib As i A j=As j:=if_neg h
theorem RepA.set {v:V} {d:D} {A:List Addr} (R:RepA K F H σ δ As) (i:Nat) (hi:i < δ.length) (r:RepO K F H v d A) (nd:A.Nodup) (dj:∀ j a,j ≠ i->a∈As j->a ∉ A):RepA K F H (σ.set i (some v)) (δ.set i (some d)) (ib As i A):=by
 have hl:=R.len;refine ⟨R.fz,by rw [List.length_set,List.length_set];exact hl,fun j e q=>?_,fun j h=>?_,fun j=>?_,fun j k a hjk m=>?_⟩
 . rw [List.getElem?_set] at q ⊢
   by_cases hj:i=j
   . subst hj;rw [if_pos rfl,if_pos hi] at q;rw [if_pos rfl,if_pos (by omega),az]
     have:d=e:=by simpa using q
     subst this;exact ⟨v,rfl,r⟩
   . rw [if_neg hj] at q ⊢;rw [aD (Ne.symm hj)];exact R.val j e q
 . by_cases hj:j=i
   . subst hj;exact absurd (by rw [List.getElem?_set,if_pos rfl,if_pos hi]) (h d)
   . rw [aD hj];refine R.non j fun e z=>h e ?_
     rw [List.getElem?_set_ne (Ne.symm hj)];exact z
 . by_cases hj:j=i
   . subst hj;rw [az];exact nd
   . rw [aD hj];exact R.nd j
 . by_cases hj:j=i
   . subst hj;rw [az] at m;rw [aD (Ne.symm hjk)];exact fun z=>dj k a (Ne.symm hjk) z m
   . rw [aD hj] at m
     by_cases hk:k=i
     . subst hk;rw [az];exact dj j a hj m
     . rw [aD hk];exact R.dj j k a hjk m
theorem RepA.drop (R:RepA K F H σ δ As) (i:Nat):RepA K F H σ (δ.set i none) (ib As i []):=by
 refine ⟨R.fz,by rw [List.length_set];exact R.len,fun j e q=>?_,fun j h=>?_,fun j=>?_,fun j k a hjk m=>?_⟩
 . rw [List.getElem?_set] at q
   by_cases hj:i=j
   . subst hj;rw [if_pos rfl] at q;split at q <;> cases q
   . rw [if_neg hj] at q;rw [aD (Ne.symm hj)];exact R.val j e q
 . by_cases hj:j=i
   . subst hj;rw [az]
   . rw [aD hj];refine R.non j fun e z=>h e ?_
     rw [List.getElem?_set_ne (Ne.symm hj)];exact z
 . by_cases hj:j=i
   . subst hj;rw [az];exact Zq
   . rw [aD hj];exact R.nd j
 . by_cases hj:j=i
   . subst hj;rw [az] at m;cases m
   . rw [aD hj] at m
     by_cases hk:k=i
     . subst hk;rw [az];exact fun z=>nomatch z
     . rw [aD hk];exact R.dj j k a hjk m
theorem RepA.write {v:V} {d:D} {A:List Addr} {i:Nat} (R:RepA K F H σ δ As) (hi:i < δ.length) (hσ:σ[i]? = some (some v)) (k:dw H H') (fz:Same F H') (e:∀ j a,j ≠ i->a∈As j->H' a=H a) (r:RepO K F H' v d A) (nd:A.Nodup) (dj:∀ j a,j ≠ i->a∈As j->a ∉ A) :
 RepA K F H' σ (δ.set i (some d)) (ib As i A):=by
 refine ⟨fz,by rw [List.length_set];exact R.len,fun j e' q=>?_,fun j h=>?_,fun j=>?_,fun j k a hjk m=>?_⟩
 . rw [List.getElem?_set] at q
   by_cases hj:i=j
   . subst hj;rw [if_pos rfl,if_pos hi] at q;have:d=e':=by simpa using q
     subst this;rw [az];exact ⟨v,hσ,r⟩
   . rw [if_neg hj] at q;rw [aD (Ne.symm hj)];obtain ⟨w,h1,h2⟩:=R.val j e' q;exact ⟨w,h1,h2.frame k (fun a m=>e j a (Ne.symm hj) m)⟩
 . by_cases hj:j=i
   . subst hj;exact absurd (by rw [List.getElem?_set,if_pos rfl,if_pos hi]) (h d)
   . rw [aD hj];refine R.non j fun e z=>h e ?_
     rw [List.getElem?_set_ne (Ne.symm hj)];exact z
 . by_cases hj:j=i
   . subst hj;rw [az];exact nd
   . rw [aD hj];exact R.nd j
 . by_cases hj:j=i
   . subst hj;rw [az] at m;rw [aD (Ne.symm hjk)];exact fun z=>dj k a (Ne.symm hjk) z m
   . rw [aD hj] at m
     by_cases hk:k=i
     . subst hk;rw [az];exact dj j a hj m
     . rw [aD hk];exact R.dj j k a hjk m
end
abbrev FM:=DS->Option (D×DS)
abbrev FMA:=DS->Option (List D×DS)
structure Ev (F H:Hp) (As:Nat->List Addr) (F' H':Hp) (As':Nat->List Addr) (A:List Addr):Prop where
 fs:Same F F'
 hs:Same H H'
 nf:∀ a (u:MO),H a=some u.1->F a=none->(∀ i,a ∉ As i)->F' a=none
 fa:∀ i a,a∈As' i->(∃ j,a∈As j) \/ H a=none
 fA:∀ a,a∈A->(∃ j,a∈As j) \/ H a=none
 nd:A.Nodup
 dj:∀ i a,a∈As' i->a ∉ A
theorem Ev.pure {F H H':Hp} {As:Nat->List Addr} (s:Same H H'):Ev F H As F H' As [] :=
 ⟨Same.refl F,s,fun _ _ _ n _=>n,fun i _ m=>.inl ⟨i,m⟩,fun _ m=>(nomatch m),Zq,fun _ _ _ z=>(nomatch z)⟩
theorem Ev.fresh {F H H':Hp} {As:Nat->List Addr} {A:List Addr} (s:Same H H') (h:∀ a∈A,H a=none) (nd:A.Nodup) (dom:∀ i a,a∈As i->∃ u:MO,H a=some u.1):Ev F H As F H' As A :=
 ⟨Same.refl F,s,fun _ _ _ n _=>n,fun i _ m=>.inl ⟨i,m⟩,fun a m=>.inr (h a m),nd,fun i a m z=>by
  obtain ⟨vs,e⟩:=dom i a m;rw [h a z] at e;cases e⟩
theorem Ev.seq {F H F1 H1 F2 H2:Hp} {As As1 As2:Nat->List Addr} {A B:List Addr} (a:Ev F H As F1 H1 As1 A) (b:Ev F1 H1 As1 F2 H2 As2 B) (dA:∀ x∈A,∃ u:MO,H1 x=some u.1):Ev F H As F2 H2 As2 (A++B) where
 fs:=a.fs.trans b.fs
 hs:=a.hs.trans b.hs
 nf:=fun x vs e n h=>b.nf x vs (a.hs x _ e) (a.nf x vs e n h) fun i m=>by
  rcases a.fa i x m with ⟨j,z⟩ | z
  . exact h j z
  . rw [e] at z;cases z
 fa:=fun i x m=>by
  rcases b.fa i x m with ⟨j,z⟩ | z
  . exact a.fa j x z
  . refine .inr ?_;cases q:H x with
    | none=>rfl
    | some u=>rw [a.hs x u q] at z;cases z
 fA:=fun x m=>by
  rcases Zm.mp m with z | z
  . exact a.fA x z
  . rcases b.fA x z with ⟨j,y⟩ | y
    . exact a.fa j x y
    . refine .inr ?_;cases q:H x with
      | none=>rfl
      | some u=>rw [a.hs x u q] at y;cases y
 nd:=by
  refine List.nodup_append.mpr ⟨a.nd,b.nd,fun x hx y hy e=>?_⟩
  subst e;rcases b.fA x hy with ⟨j,z⟩ | z
  . exact a.dj j x z hx
  . obtain ⟨vs,e⟩:=dA x hx;rw [z] at e;cases e
 dj:=fun i x m z=>by
  rcases Zm.mp z with z | z
  . rcases b.fa i x m with ⟨j,y⟩ | y
    . exact a.dj j x y z
    . obtain ⟨vs,e⟩:=dA x z;rw [y] at e;cases e
  . exact b.dj i x m z
theorem Ev.stays {K:Zr} {F1 H1 F2 H2:Hp} {As1 As2:Nat->List Addr} {A B:List Addr} {v:V} {d:D} (b:Ev F1 H1 As1 F2 H2 As2 B) (r:RepO K F1 H1 v d A) (dj:∀ i a,a∈As1 i->a ∉ A):RepO K F2 H2 v d A:=by
 have h1:RepO K F1 H2 v d A:=r.frame (aO b.hs) fun a m=>by
  obtain ⟨⟨vs,e⟩,_⟩:=r.dom a m;rw [e];exact b.hs a _ e
 refine h1.froz b.fs fun a m=>?_
 obtain ⟨⟨vs,e⟩,n⟩:=r.dom a m;exact b.nf a vs e n fun i z=>dj i a z m
def upV (K:Zr) (f:FM):TE:=fun σ H Q=>∃ F δ As d δ',RepA K F H σ δ As/\f δ=some (d,δ')/\∀ v F' H' A As',Ev F H As F' H' As' A->RepA K F' H' σ δ' As'->RepO K F' H' v d A->Q v H'
def Fl (K:Zr) (n:Nat) (f:FMA):TA:=fun σ H Q=>∃ F δ As ds δ',RepA K F H σ δ As/\f δ=some (ds,δ')/\∀ vs F' H' A As',Ev F H As F' H' As' A->RepA K F' H' σ δ' As'->RepOs K F' H' vs ds A->vs.length=n->Q vs H'
def PV (X:Cx) (e:Expr) (f:FM):Prop:=PE X e (upV X.K f)
def PVA (X:Cx) (es:List Expr) (f:FMA):Prop:=PA X es (Fl X.K es.length f)
def vI (f:FD):FM:=fun δ=>(f δ).bind fun d=>if imm d then some (d,δ) else none
def bF (i:Nat):FM:=fun δ=>match δ[i]? with
 | some (some (.seq ds))=>some (.seq ds,δ)
 | some (some d)=>if imm d then some (d,δ) else some (d,δ.set i none)
 | _=>none
def iX (i:Nat):FM:=fun δ=>match δ[i]? with
 | some (some d)=>some (sh d,δ.set i (some (sh d)))
 | _=>none
def iG:FMA:=fun δ=>some ([],δ)
def bi (f:FM) (g:FMA):FMA:=fun δ=>(f δ).bind fun p=>(g p.2).bind fun q=>some (p.1 :: q.1,q.2)
def kD (g:FMA):FM:=fun δ=>(g δ).bind fun p=>some (.lst p.1,p.2)
def m7 (g:FMA):FM:=fun δ=>(g δ).bind fun p=>some (.tup p.1,p.2)
def gA (G:List D->Option D) (g:FA):FM:=fun δ=>(g δ).bind fun ds=>(G ds).bind fun d=>if own d then some (d,δ) else none
def bq (K:Zr) (n:Nat) (G:List D->Option D):Sp:=fun vs H Q _=>vs.length=n/\∃ ds d,Reps K H vs ds/\G ds=some d/\∀ v H' A,Same H H'->RepO K H H' v d A->A.Nodup->Q v H'
section
variable {X:Cx} {e:Expr} {es:List Expr} {f:FD} {fm:FM} {g:FMA} {ga:FA} {pos p:Pos}
theorem ay (h:PD X e f):PV X e (vI f):=imp h fun σ H Q ⟨F,δ,As,d,δ',R,q,k⟩=>by
 unfold vI at q;obtain ⟨d0,ed,q⟩:=Za.mp q;split at q
 . rename_i hi;cases q;exact ⟨δ,d,R.toS,ed,fun v H' s r=>k v F H' [] As (.pure s) (R.grow s) (.imm hi r)⟩
 . cases q
theorem bZ (i:Nat) {x:Str} (hN:X.N[i]? = some x:=by rfl) (hv:Vis X.env.scope x:=by first | exact Or.inl rfl | exact Or.inr (Or.inl rfl) | exact Or.inr (Or.inr rfl)) (hd:(x == ("__debug__":Str))=false:=by decide)
 (hcd:(x == ("__classdict__":Str))=false:=by decide):PV X (.Name x pos) (bF i) :=
 imp (ja hN hv hd hcd) fun σ H Q ⟨F,δ,As,d,δ',R,q,k⟩=>by
  unfold bF at q;split at q
  . rename_i ds h;cases q;obtain ⟨v,h1,h2⟩:=R.val i _ h;rw [h2.seq_nil rfl] at h2;exact ⟨v,h1,k v F H [] As (.pure (Same.refl H)) R h2⟩
  . rename_i d0 _ h;obtain ⟨v,h1,h2⟩:=R.val i _ h;split at q
    . rename_i hi;cases q;have z:=h2.none_of hi;rw [z] at h2;exact ⟨v,h1,k v F H [] As (.pure (Same.refl H)) R h2⟩
    . cases q;refine ⟨v,h1,k v F H (As i) (ib As i []) ⟨Same.refl F,Same.refl H,fun _ _ _ n _=>n,fun j a m=>?_,fun a m=>.inl ⟨i,m⟩,R.nd i,fun j a m=>?_⟩ (R.drop i) h2⟩
      . by_cases hj:j=i
        . subst hj;rw [az] at m;cases m
        . rw [aD hj] at m;exact .inl ⟨j,m⟩
      . by_cases hj:j=i
        . subst hj;rw [az] at m;cases m
        . rw [aD hj] at m;exact R.dj j i a hj m
  . cases q
theorem lS (i:Nat) {x:Str} (hN:X.N[i]? = some x:=by rfl) (hv:Vis X.env.scope x:=by first | exact Or.inl rfl | exact Or.inr (Or.inl rfl) | exact Or.inr (Or.inr rfl)) (hd:(x == ("__debug__":Str))=false:=by decide)
 (hcd:(x == ("__classdict__":Str))=false:=by decide):PV X (.Name x pos) (iX i) :=
 imp (ja hN hv hd hcd) fun σ H Q ⟨F,δ,As,d,δ',R,q,k⟩=>by
  unfold iX at q;split at q
  . rename_i d0 h;cases q;obtain ⟨v,h1,h2⟩:=R.val i _ h;have hi:i < δ.length:=(ZG.mp h).1;have s1:=rM (A:=As i) R.fz;have s2:Same (frz F H (As i)) H:=zw;have z:Rep X.K (frz F H (As i)) v (sh d0):=h2.freeze s1 rN fun a vs m e=>vE e m
    have z2:RepO X.K (frz F H (As i)) H v (sh (sh d0)) []:=RepO.of_sh s2 z;rw [BN d0] at z2;have R1:=(R.drop i).froz s1 s2 (fun j a m=>by
     by_cases hj:j=i
     . subst hj;rw [az] at m;cases m
     . rw [aD hj] at m;obtain ⟨⟨vs,e⟩,n⟩:=R.dom m;exact pV e n (R.dj j i a hj m))
    have R2:=R1.set i (by rw [List.length_set];exact hi) z2 Zq fun _ _ _ _ z=>nomatch z
    have hσ:σ.set i (some v)=σ:=by
     refine List.ext_getElem? fun j=>?_
     rw [List.getElem?_set];split
     . rename_i hj;subst hj;rw [h1,if_pos (by rw [R.len];exact hi)]
     . rfl
    rw [hσ,List.set_set] at R2;refine ⟨v,h1,k v _ H [] _ ⟨s1,Same.refl H,fun a vs e n h=>pV e n (h i),fun j a m=>?_,fun _ m=>(nomatch m),Zq,fun _ _ _ z=>(nomatch z)⟩ R2 z2⟩
    by_cases hj:j=i
    . subst hj;rw [az] at m;cases m
    . rw [aD hj,aD hj] at m;exact .inl ⟨j,m⟩
  . cases q
theorem dO:PVA X [] iG:=pP cY fun σ H Q ⟨F,δ,As,ds,δ',R,q,k⟩=>by
 cases q;exact k [] F H [] As (.pure (Same.refl H)) R .nil rfl
theorem cn (ha:PV X e fm) (hr:PVA X es g) (hs:starEach (e :: es) X.env=(false,eval e X.env) :: starEach es X.env:=by rfl):PVA X (e :: es) (bi fm g):=pP (bz ha hr hs) fun σ H Q ⟨F,δ,As,ds,δ',R,q,k⟩=>by
 unfold bi at q;obtain ⟨⟨d1,δ1⟩,e1,q⟩:=Za.mp q;obtain ⟨⟨ds2,δ2⟩,e2,q⟩:=Za.mp q;cases q;refine ⟨F,δ,As,d1,δ1,R,e1,fun v F1 H1 A As1 ev1 R1 r1=>⟨F1,δ1,As1,ds2,δ2,R1,e2,fun vs F2 H2 B As2 ev2 R2 r2 l=>?_⟩⟩
 exact k (v :: vs) F2 H2 (A++B) As2 (ev1.seq ev2 fun x m=>(r1.dom x m).1) R2 (.cons (ev2.stays r1 ev1.dj) r2 rfl) (congrArg (· + 1) l)
theorem CL {x1} (h:PVA X es g) (hz:es.length<=1000:=by decide):PV X (.Tuple es x1 pos) (m7 g):=imp (sZ h) fun σ H Q ⟨F,δ,As,d,δ',R,q,k⟩=>by
 unfold m7 at q;obtain ⟨⟨ds,δ1⟩,e1,q⟩:=Za.mp q;cases q;refine ⟨F,δ,As,ds,_,R,e1,fun vs F1 H1 A As1 ev R1 r1 l=>⟨bn (by rw [l];exact hz),fun p hp=>?_⟩⟩
 have s:=aJ hp (.tup vs);have ev':Ev F H As F1 (upd H1 p (.tup vs)) As1 A:=⟨ev.fs,ev.hs.trans s,ev.nf,ev.fa,ev.fA,ev.nd,ev.dj⟩;refine k _ F1 _ A As1 ev' (R1.grow s) (.tup (SqT.of aw) (r1.frame (aO s) fun a m=>?_))
 obtain ⟨⟨ws,e⟩,_⟩:=r1.dom a m;rw [e];exact s a _ e
theorem i7 (h:PVA X es g) (hz:es.length<=1000:=by decide):PV X (.List es pos) (kD g):=imp (s8 h) fun σ H Q ⟨F,δ,As,d,δ',R,q,k⟩=>by
 unfold kD at q;obtain ⟨⟨ds,δ1⟩,e1,q⟩:=Za.mp q;cases q;refine ⟨F,δ,As,ds,_,R,e1,fun vs F1 H1 A As1 ev R1 r1 l=>⟨bn (by rw [l];exact hz),fun p hp=>?_⟩⟩
 have s:=aJ hp (.lst vs);have np:∀ {u:Hp},Same u H1->u p=none:=fun {u} su=>by
  cases q:u p with
  | none=>rfl
  | some o=>rw [su p o q] at hp;cases hp
 have ev':Ev F H As F1 (upd H1 p (.lst vs)) As1 (p :: A):=⟨ev.fs,ev.hs.trans s,ev.nf,ev.fa,fun a m=>by
  rcases Zn.mp m with z | z
  . subst z;exact .inr (np ev.hs)
  . exact ev.fA a z,List.nodup_cons.mpr ⟨fun m=>(by
    obtain ⟨⟨ws,e⟩,_⟩:=r1.dom p m;rw [hp] at e;cases e),ev.nd⟩,fun i a m z=>by
  rcases Zn.mp z with z | z
  . subst z;obtain ⟨⟨ws,e⟩,_⟩:=R1.dom m;rw [hp] at e;cases e
  . exact ev.dj i a m z⟩
 refine k _ F1 _ (p :: A) As1 ev' (R1.grow s) (.lst aw (np R1.fz) (r1.frame (aO s) fun a m=>?_))
 obtain ⟨⟨ws,e⟩,_⟩:=r1.dom a m;rw [e];exact s a _ e
end
end Dl
namespace Dl
open PySem PySem.Spec PyProof.Rows L2
def RPM (X:Cx) (E:j9) (F:Hp):Res->Prop
 | .nx δ=>∀ σ' F' H',Same F F'->cU X.K F' H' σ' δ->E.nx σ' H'
 | .rt d=>∀ v F' H' A,Same F F'->Same F' H'->RepO X.K F' H' v d A->A.Nodup->E.rt v H'
 | .bk δ=>∀ σ' F' H',Same F F'->cU X.K F' H' σ' δ->E.bk σ' H'
 | .ct δ=>∀ σ' F' H',Same F F'->cU X.K F' H' σ' δ->E.ct σ' H'
 | .ex C δ=>∀ σ' F' H',Same F F'->cU X.K F' H' σ' δ->Fg X C σ' H'
 | .mk C δ=>∀ σ' F' H',Same F F'->cU X.K F' H' σ' δ->Ci X C σ' H'
theorem RPM.mono {X:Cx} {E:j9} {F F1:Hp} {r:Res} (s:Same F F1) (h:RPM X E F r):RPM X E F1 r:=by
 cases r with
 | nx δ=>exact fun σ' F' H' s2 R=>h σ' F' H' (s.trans s2) R
 | rt d=>exact fun v F' H' A s2=>h v F' H' A (s.trans s2)
 | bk δ=>exact fun σ' F' H' s2 R=>h σ' F' H' (s.trans s2) R
 | ct δ=>exact fun σ' F' H' s2 R=>h σ' F' H' (s.trans s2) R
 | ex C δ=>exact fun σ' F' H' s2 R=>h σ' F' H' (s.trans s2) R
 | mk C δ=>exact fun σ' F' H' s2 R=>h σ' F' H' (s.trans s2) R
def upM (X:Cx) (s:SD):TS:=fun E σ H=>∃ F δ r,cU X.K F H σ δ/\s δ=some r/\RPM X E F r
def PMD (X:Cx) (st:Stmt) (s:SD):Prop:=PS X st (upM X s)
def PMs (X:Cx) (sts:List Stmt) (s:SD):Prop:=PSs X sts (upM X s)
section
variable {K:Zr} {F H:Hp} {σ:L2.St} {δ:DS} {As:Nat->List Addr}
theorem RepA.setM {v:V} {d:D} {A:List Addr} (R:RepA K F H σ δ As) (i:Nat) (r:RepO K F H v d A) (nd:A.Nodup) (dj:∀ j a,a∈As j->a ∉ A):cU K F H (σ.set i (some v)) (δ.set i (some d)):=by
 by_cases hi:i < δ.length
 . exact ⟨_,R.set i hi r nd fun j a _ m=>dj j a m⟩
 . have hl:=R.len;rw [List.set_eq_of_length_le (by omega),List.set_eq_of_length_le (by omega)]
   exact ⟨As,R⟩
end
section
variable {X:Cx} {st:Stmt} {rest:List Stmt} {s u:SD} {e:Expr} {f:FD} {fm:FM} {c:FT} {pos:Pos}
theorem eX:PMs X [] cI:=kz kT fun E σ H ⟨F,δ,r,R,e,k⟩=>by cases e;exact k σ F H (Same.refl F) R
theorem ax (h1:PMD X st s) (h2:PMs X rest u):PMs X (st :: rest) (aN s u):=kz (jH h1 h2) fun E σ H ⟨F,δ,r,R,e,k⟩=>by
 unfold aN at e;obtain ⟨r1,e1,e⟩:=Za.mp e;refine ⟨F,δ,r1,R,e1,?_⟩;cases r1 with
 | nx δ'=>exact fun σ' F' H' s1 R1=>⟨F',δ',r,R1,e,k.mono s1⟩
 | rt d=>cases e;exact k
 | bk d=>cases e;exact k
 | ct d=>cases e;exact k
 | ex C d=>cases e;exact k
 | mk C d=>cases e;exact k
theorem aP (h:PMD X st s):PMs X [st] s:=kS h
theorem iR {cx:Expr} {a b:List Stmt} (hc:PTD X cx c) (ha:PMs X a s) (hb:PMs X b u):PMD X (.If cx a b pos) (sIf c s u):=de (uP hc ha hb) fun E σ H ⟨F,δ,r,⟨As,R⟩,q,k⟩=>by
 unfold sIf at q;obtain ⟨d,ed,q⟩:=Za.mp q;refine ⟨δ,d,R.toS,ed,fun H' s1=>?_⟩
 cases d with
 | true=>rw [if_pos rfl];exact ⟨F,δ,r,⟨As,R.grow s1⟩,q,k⟩
 | false=>rw [if_neg Zs];exact ⟨F,δ,r,⟨As,R.grow s1⟩,q,k⟩
def aS (i:Nat) (f:FM):SD:=fun δ=>(f δ).bind fun p=>some (.nx (p.2.set i (some p.1)))
def dZ (f:FM):SD:=fun δ=>(f δ).bind fun p=>some (.rt p.1)
theorem bJ (i:Nat) {x:Str} {pos':Pos} (hN:X.N.Nodup) (he:PV X e fm) (hi:X.N[i]? = some x:=by rfl) (hx:Loc X.env.scope x:=by first | exact Or.inl rfl | exact Or.inr rfl) (hs:swapsWith e (some (.Name x pos')) pos.line X.env=pure false:=by rfl) (hf:X.fn x=true \/ X.env.scope.names.lookup x=some .local:=by first | exact .inl rfl | exact .inr rfl | assumption) :
 PMD X (.Assign [.Name x pos'] e pos) (aS i fm):=de (pj hN hi hx he hs hf) fun E σ H ⟨F,δ,r,⟨As,R⟩,q,k⟩=>by
 unfold aS at q;obtain ⟨⟨d,δ'⟩,ed,q⟩:=Za.mp q;cases q;exact ⟨F,δ,As,d,δ',R,ed,fun v F' H' A As' ev R' r'=>k (σ.set i (some v)) F' H' ev.fs (R'.setM i r' ev.nd ev.dj)⟩
theorem bj (he:PV X e fm):PMD X (.Return (some e) pos) (dZ fm):=de (po he) fun E σ H ⟨F,δ,r,⟨As,R⟩,q,k⟩=>by
 unfold dZ at q;obtain ⟨⟨d,δ'⟩,ed,q⟩:=Za.mp q;cases q;exact ⟨F,δ,As,d,δ',R,ed,fun v F' H' A As' ev R' r'=>k v F' H' A ev.fs R'.fz r' ev.nd⟩
end
def ItF (K:Zr) (J:It) (F:Hp) (ds:List D):Prop:=∀ i H2,Same F H2 ->
 (i < ds.length->J.go i H2/\∀ x H',J.yld i H2 x H'->H'=H2/\∃ d,ds[i]? = some d/\Rep K F x d)/\(ds.length<=i->J.stop i H2)
def Fn (K:Zr) (src:FMA):TI:=fun σ H R=>∃ F δ As ds δ',RepA K F H σ δ As/\src δ=some (ds,δ')/\∀ J F' H1 As',Same F F'->RepA K F' H1 σ δ' As'->ItF K J F' ds->R J H1
def PIM (X:Cx) (tg iter:Expr) (src:FMA):Prop:=PI X tg iter (Fn X.K src)
theorem zb {K:Zr} {F:Hp} {a:Addr} {vs:List V} {ds:List D} (hq:SqL K F a vs) (r:Reps K F vs ds):ItF K (Itl K a) F ds:=by
 intro i H2 s;have hq2:=s.seq hq;have hl:=r.length;refine ⟨fun hi=>⟨⟨vs,vs[i],hq2,by simp [show i < vs.length by omega]⟩,fun x H' y=>?_⟩,fun hi=>⟨vs,hq2,by omega⟩⟩
 obtain ⟨e,y⟩:=y;subst e;obtain ⟨d,h1,h2⟩:=r.getV (y vs hq2);exact ⟨rfl,d,h1,h2⟩
def iK (f:FM):FMA:=fun δ=>(f δ).bind fun p=>match sh p.1 with
 | .seq ds=>some (ds,p.2)
 | _=>none
theorem gR {X:Cx} {tg l:Expr} {fm:FM} (hl:PV X l fm):PIM X tg l (iK fm):=rH (uS hl) fun σ H R ⟨F,δ,As,ds,δ',R0,e,k⟩=>by
 unfold iK at e;obtain ⟨⟨d,δ1⟩,ed,e⟩:=Za.mp e;dsimp only at e;split at e
 . rename_i es hs;cases e;refine ⟨F,δ,As,d,_,R0,ed,fun v F1 H1 A As1 ev R1 r1=>?_⟩
   have s1:=rM (A:=A) R1.fz;have s2:Same (frz F1 H1 A) H1:=zw;have z:Rep X.K (frz F1 H1 A) v (sh d):=r1.freeze s1 rN fun a vs m e=>vE e m
   rw [hs] at z;have R2:=R1.froz s1 s2 (fun j a m=>by
    obtain ⟨⟨vs,e⟩,n⟩:=R1.dom m;exact pV e n (ev.dj j a m))
   cases z with
   | @seq p vs _ hp rp=>exact ⟨p,rfl,⟨vs,s2.seq hp⟩,k _ _ H1 As1 (ev.fs.trans s1) R2 (zb hp rp)⟩
 . cases e
theorem wO {K:Zr} {F:Hp} {lo:Int} {n:Nat}:ItF K (Itr lo n) F ((List.range n).map fun (i:Nat)=>D.int (lo+(i:Int)*1)):=by
 intro i H2 s;refine ⟨fun hi=>?_,fun hi=>(show n<=i by simpa using hi)⟩
 have hi':i < n:=by simpa using hi
 refine ⟨hi',fun x H' y=>?_⟩
 obtain ⟨e,y⟩:=y;subst e y;refine ⟨rfl,.int (lo+(i:Int)*1),?_,by rw [Int.mul_one];exact .int _⟩
 rw [ZD,List.getElem?_range hi'];rfl
def forM (i:Nat) (s:SD):List D->SD
 | []=>fun δ=>some (.nx δ)
 | d :: ds=>fun δ=>(s (δ.set i (some (sh d)))).bind fun r=>match r with
  | .nx δ'=>forM i s ds δ'
  | .ct δ'=>forM i s ds δ'
  | .bk δ'=>some (.nx δ')
  | .rt d=>some (.rt d)
  | .ex C δ'=>some (.ex C δ')
  | .mk C δ'=>some (.mk C δ')
def gQ (src:FMA) (i:Nat) (s:SD):SD:=fun δ=>(src δ).bind fun p=>forM i s p.1 p.2
theorem lW {X:Cx} {iter:Expr} {body:List Stmt} {src:FMA} {s:SD} {x:Str} {px pos:Pos} (i:Nat) (hN:X.N.Nodup) (hp:PassesOwn (model X.prog X.w) X.A X.env X.xe) (hc:X.calm=true) (hi:PIM X (.Name x px) iter src) (hb:PMs X body s)
 (hx:X.N[i]? = some x:=by rfl) (hl:Loc X.env.scope x:=by first | exact Or.inl rfl | exact Or.inr rfl) (hf:X.fn x=true \/ X.env.scope.names.lookup x=some .local:=by first | exact .inl rfl | exact .inr rfl | assumption)
 (hs:∀ x,foldedSetIterable iter X.env x=pure x:=by intro _;rfl):PMD X (.For (.Name x px) iter body [] pos) (gQ src i s):=de (pq hp hc hi (eN hN hx hl hf) hb hs) fun E σ H ⟨F,δ,r,⟨As,R⟩,e,k⟩=>by
 unfold gQ at e;obtain ⟨⟨ds,δ1⟩,eds,e⟩:=Za.mp e;refine ⟨F,δ,As,ds,δ1,R,eds,fun J F1 H1 As1 s1 R1 it=>?_⟩
 refine ⟨fun j m σ H=>m=ds.length - j/\j<=ds.length/\∃ F2 δ,Same F1 F2/\cU X.K F2 H σ δ/\forM i s (ds.drop j) δ=some r/\RPM X E F2 r,⟨ds.length,rfl,Nat.zero_le _,F1,δ1,Same.refl _,⟨As1,R1⟩,e,k.mono s1⟩,?_⟩
 rintro j m σ H2 ⟨rfl,hjl,F2,δ2,s2,⟨As2,R2⟩,e2,k2⟩
 by_cases hlt:j < ds.length
 . obtain ⟨go,yl⟩:=(it j H2 (s2.trans R2.fz)).1 hlt;rw [List.drop_eq_getElem_cons hlt] at e2;obtain ⟨r4,e4,e2⟩:=Za.mp (show ((s (δ2.set i (some (sh ds[j])))).bind _)=some r from e2)
   refine .inr ⟨go,fun σ' H'=>∃ F3 δ,Same F1 F3/\cU X.K F3 H' σ' δ/\forM i s (ds.drop (j+1)) δ=some r/\RPM X E F3 r,fun σ' H' z=>⟨ds.length - (j+1),by omega,rfl,hlt,z⟩,fun y H' yy=>?_⟩
   obtain ⟨eH,d,hd,rx⟩:=yl y H' yy;subst eH;have hd':d=ds[j]:=by
    rw [Zp hlt] at hd;exact (Zy hd).symm
   subst hd';have R3:=R2.setM i (RepO.of_sh R2.fz (rx.mono s2)) Zq fun _ _ _ z=>nomatch z
   refine ⟨F2,δ2.set i (some (sh ds[j])),r4,R3,e4,?_⟩;cases r4 with
   | nx δ'=>exact fun σ' F' H'' s4 R4=>⟨F',δ',s2.trans s4,R4,e2,k2.mono s4⟩
   | ct δ'=>exact fun σ' F' H'' s4 R4=>⟨F',δ',s2.trans s4,R4,e2,k2.mono s4⟩
   | bk δ'=>cases e2;exact k2
   | rt d=>cases e2;exact k2
   | ex C δ'=>cases e2;exact k2
   | mk C δ'=>cases e2;exact k2
 . have e:j=ds.length:=by omega
   subst e;rw [List.drop_length] at e2;cases e2;exact .inl ⟨(it _ H2 (s2.trans R2.fz)).2 (ZH _),k2 σ F2 H2 (Same.refl _) ⟨As2,R2⟩⟩
def aE (n:Nat) (ds:List D):DS:=(shs ds).map some++List.replicate (n - ds.length) none
theorem lP {K:Zr} {H:Hp} {N:List Str} {vs:List V} {ds:List D} (r:Reps K H vs ds):cU K H H (L2.start N vs) (aE N.length ds):=by
 have l2:(shs ds).length=ds.length:=by rw [cq,Zg]
 refine ⟨fun _=>[],Same.refl H,by unfold L2.start aE;simp [r.length,l2],fun i d q=>?_,fun _ _=>rfl,fun _=>Zq,fun _ _ _ _ m=>nomatch m⟩
 unfold aE at q;unfold L2.start;have hi:i < ds.length:=by
  by_cases hi:i < ds.length
  . exact hi
  . rw [ZE (by simpa [l2] using hi),List.getElem?_replicate] at q
    split at q <;> cases q
 rw [List.getElem?_append_left (by simpa [l2] using hi),ZD] at q
 obtain ⟨e,h1,h2⟩:=Zb.mp q;cases h2;rw [cq,ZD] at h1;obtain ⟨d0,h3,h4⟩:=Zb.mp h1;subst h4;obtain ⟨v,h5,h6⟩:=r.get h3;have hv:i < vs.length:=by rw [r.length];exact hi
 exact ⟨v,by rw [List.getElem?_append_left (by simpa using hv),ZD,h5];rfl,RepO.of_sh (Same.refl H) h6⟩
section
variable {P:Program} {w:World} {K:Zr} {mg:Str->Option Value} {base:Heap}
theorem bE {x qual:Str} {st:Stmt} {f:Addr} {fd:FuncData} {N ps:List Str} {k:Nat} {G:List D->Option D} (F:Fun K x qual st f fd) (S:au N ps (aj st))
 (hbody:∀ (cdv:Value) (A:Around) (outer:List Env) (s:Shared) (H:Hp) (E:XK) (ds:List D) (d:D),Room k (A.deeper (envOfC qual (aj st) s.heap.objs.size f cdv))->G ds=some d->ds.length=ps.length ->
  ∃ t,PMs (mT CX0 P w K mg base N qual (aj st) f cdv A outer s H E).nox (aV st) t/\aC (t (aE N.length ds))=some d/\own d=true):FnOk P w K mg base CX0 (k+1) f fd ps (bq K ps.length G):=by
 refine F.ok S (fun vs H Q E h=>h.1) (fun cdv A outer s H vs Q E hr h=>?_)
 obtain ⟨hl,ds,d,r,e,q⟩:=h;obtain ⟨t,ht,hq,ho⟩:=hbody cdv A outer s H E ds d hr e (r.length.symm.trans hl);refine ⟨_,ht,H,aE N.length ds,?_⟩;cases z:t (aE N.length ds) with
 | none=>rw [z] at hq;cases hq
 | some res =>
  rw [z] at hq;refine ⟨res,lP r,rfl,?_⟩;cases res with
  | rt d'=>cases hq;exact fun v F' H' A s1 s2 r1 nd=>q v H' A (s1.trans s2) (r1.thaw s1 ho) nd
  | nx δ=>cases hq;exact fun σ' F' H' s1 ⟨As,R⟩=>q _ H' [] (s1.trans R.fz) (.imm rfl .non) Zq
  | bk δ=>cases hq
  | ct δ=>cases hq
  | ex C δ=>cases hq
  | mk C δ=>cases hq
structure HasF (P:Program) (w:World) (K:Zr) (mg:Str->Option Value) (base:Heap) (k:Nat) (x:Str) (ps:List Str) (G:List D->Option D):Prop where
 ex:∃ f fd,FnOk P w K mg base CX0 k f fd ps (bq K ps.length G)/\mg x=some (.ref f)/\PySem.W.keepIn K (.ref f)=true/\Binds K fd ps []
theorem HasF.has {k:Nat} {x:Str} {ps:List Str} {G:List D->Option D} (h:HasF P w K mg base k x ps G):Has P w K mg base k x ps G:=by
 obtain ⟨f,fd,F,h1,h2,h3⟩:=h.ex;refine ⟨f,fd,F.imp fun vs H Q E ⟨l,ds,d,r,e,q⟩=>⟨l,ds,d,r,e,fun v H' A s r1 _=>q v H' s (r1.rep s)⟩,h1,h2,h3⟩
theorem Bf {x qual q:Str} {st:Stmt} {f:Addr} {fd:FuncData} {N:List Str} {k:Nat} (F:Fun K x qual st f fd) (S:au N [q] (aj st))
 (hbody:∀ (cdv:Value) (A:Around) (outer:List Env) (s:Shared) (H:Hp) (E:XK) (ns:List Int),Room k (A.deeper (envOfC qual (aj st) s.heap.objs.size f cdv))->ns.length<=63 ->
  ∃ t,PMs (mT CX0 P w K mg base N qual (aj st) f cdv A outer s H E).nox (aV st) t/\aC (t (aE N.length [.seq (ns.map D.int)]))=some (.bl true)):FnOk P w K mg base CX0 (k+1) f fd [q] (spLaw K):=by
 refine F.ok S (fun vs H Q E h=>?_) (fun cdv A outer s H vs Q E hr h=>?_)
 . obtain ⟨a,ns,rfl,_⟩:=h;rfl
 obtain ⟨a,ns,rfl,hS,hl,q⟩:=h;obtain ⟨t,ht,hq⟩:=hbody cdv A outer s H E ns hr hl;refine ⟨_,ht,H,aE N.length [.seq (ns.map D.int)],?_⟩;cases z:t (aE N.length [.seq (ns.map D.int)]) with
 | none=>rw [z] at hq;cases hq
 | some res =>
  rw [z] at hq;refine ⟨res,lP (.cons (.seq hS (Reps.ints ns)) .nil),rfl,?_⟩;cases res with
  | rt d' =>
   cases hq;intro v F' H' A s1 s2 r1 nd;cases r1.rep s2;exact q H'
  | nx δ=>cases hq
  | bk δ=>cases hq
  | ct δ=>cases hq
  | ex C δ=>cases hq
  | mk C δ=>cases hq
end
theorem c9 {X:Cx} {e:Expr} {es:List Expr} {g:FA} {pos p:Pos} {k j:Nat} {x:Str} {ps:List Str} {G:List D->Option D} (F:HasF X.prog X.w X.K X.mg X.base k x ps G) (hr:Room j X.A) (ha:PAD X (e :: es) g) (hk:k<=j:=by decide) (hg:Gl X x:=by rfl)
 (hn:(e :: es).length=ps.length:=by rfl) (hdb:(x == ("__debug__":Str))=false:=by decide) (he:starEach (e :: es) X.env=(false,eval e X.env) :: starEach es X.env:=by rfl) (hpl:(backTo pos (starEach es X.env)).any (·.1)=false:=by rfl) :
 PV X (.Call (.Name x p) (e :: es) [] pos) (gA G g):=by
 obtain ⟨f,fd,F,hm,kp,hb⟩:=F.ex;refine imp (kX F (hr.mono hk) hg hm kp hb .nil uW ha hdb he hpl) fun σ H Q ⟨F0,δ,As,d,δ',R,q,k⟩=>?_
 unfold gA at q;obtain ⟨ds,eds,q⟩:=Za.mp q;obtain ⟨d0,ed,q⟩:=Za.mp q;split at q
 . rename_i ho;cases q;refine ⟨δ,ds,R.toS,eds,fun vs H1 s1 r1 l=>?_⟩
   show bq X.K ps.length G (vs++[]) H1 Q E0;rw [List.append_nil];refine ⟨l.trans hn,ds,d,r1,ed,fun v H' A s2 r2 nd=>?_⟩
   have nA:∀ a∈A,H a=none:=fun a m=>by
    cases z:H a with
    | none=>rfl
    | some u=>have:=(r2.dom a m).2;rw [s1 a u z] at this;cases this
   exact k v F0 H' A As (.fresh (s1.trans s2) nA nd fun i a m=>(R.dom m).1) (R.grow (s1.trans s2)) (r2.thaw (R.fz.trans s1) ho)
 . cases q
end Dl
namespace Dl
open PySem PySem.Spec PyProof.Rows L2
section
variable {K:Zr} {F H:Hp} {σ:L2.St} {δ:DS} {As:Nat->List Addr}
theorem RepO.lst_inv {ds:List D}:∀ {v:V} {d:D} {A:List Addr},RepO K F H v d A->d=.lst ds->∃ a vs A0,v=.ref a/\A=a :: A0/\H a=some (.lst vs)/\F a=none/\RepOs K F H vs ds A0
 | _,_,_,.imm i _,e=>by subst e;rw [Dl.imm] at i;cases i
 | _,_,_,.shr _,e=>nomatch e
 | _,_,_,.tup _ _,e=>nomatch e
 | _,_,_,.lst h n r,e=>by cases e;exact ⟨_,_,_,rfl,rfl,h,n,r⟩
theorem RepA.lst {i:Nat} {ds:List D} (R:RepA K F H σ δ As) (h:δ[i]? = some (some (.lst ds))):∃ a vs A0,σ[i]? = some (some (.ref a))/\As i=a :: A0/\H a=some (.lst vs)/\F a=none/\RepOs K F H vs ds A0:=by
 obtain ⟨v,h1,h2⟩:=R.val i _ h;obtain ⟨a,vs,A0,rfl,e,h3,h4,h5⟩:=h2.lst_inv rfl;exact ⟨a,vs,A0,h1,e,h3,h4,h5⟩
theorem xI {a:Addr} {o:HO} (s:Same F H) (n:F a=none):Same F (upd H a o):=fun b u e=>by
 have:b ≠ a:=fun z=>by rw [z,n] at e;cases e
 rw [al this];exact s b u e
theorem RepA.wr {i:Nat} {a:Addr} {vs vs':List V} {ds ds':List D} {A0 A':List Addr} (R:RepA K F H σ δ As) (h:δ[i]? = some (some (.lst ds))) (hσ:σ[i]? = some (some (.ref a))) (hA:As i=a :: A0) (ha:H a=some (.lst vs)) (hF:F a=none)
 (r:RepOs K F H vs' ds' A') (na:a ∉ A') (nd:A'.Nodup) (dj:∀ j x,j ≠ i->x∈As j->x ∉ A'):cU K F (upd H a (.lst vs')) σ (δ.set i (some (.lst ds'))):=by
 have hi:i < δ.length:=(ZG.mp h).1;have nj:∀ j x,j ≠ i->x∈As j->x ≠ a:=fun j x hj m z=>R.dj j i x hj m (by rw [hA,z];exact Zi)
 refine ⟨_,R.write hi hσ (rD ha) (xI R.fz hF) (fun j x hj m=>al (nj j x hj m)) (.lst aw hF (r.frame (rD ha) fun x m=>al fun z=>na (z ▸ m))) (List.nodup_cons.mpr ⟨na,nd⟩) fun j x hj m z=>?_⟩
 rcases Zn.mp z with z | z
 . exact nj j x hj m z
 . exact dj j x hj m z
end
def jY (i:Nat) (fm:FM):SD:=fun δ=>match δ[i]? with
 | some (some (.lst _))=>(fm δ).bind fun p=>match p.2[i]? with
  | some (some (.lst ds))=>if ds.length<=999 then some (.nx (p.2.set i (some (.lst (ds++[p.1]))))) else none
  | _=>none
 | _=>none
def Ap (i:Nat) (fk:FD) (fm:FM):SD:=fun δ=>(fm δ).bind fun p=>match p.2[i]? with
 | some (some (.lst ds))=>(fk p.2).bind fun kd=>match kd with
  | .int k=>(ixN ds.length k).bind fun j=>some (.nx (p.2.set i (some (.lst (ds.set j p.1)))))
  | _=>none
 | _=>none
section
variable {X:Cx} {e ei:Expr} {fk:FD} {fm:FM} {pos p1 p2 p3 p4:Pos}
theorem yf (i:Nat) {c:Expr} (hc:PE X c (tBM X.K "list" oZ (we i) (qz (upV X.K fm) Al))) (hs:swapsWith c none pos.line X.env=pure false:=by rfl):PMD X (.Expr c pos) (jY i fm):=de (kU hc hs) fun E σ H ⟨F,δ,r,⟨As,R⟩,q,k⟩=>by
 unfold jY at q;split at q
 . rename_i ds0 h0;obtain ⟨⟨d,δ'⟩,ed,q⟩:=Za.mp q;dsimp only at q;split at q
   . rename_i ds h1;split at q
     . rename_i hz;cases q;obtain ⟨a,vs0,A00,s0,_,g0,_,_⟩:=R.lst h0;refine ⟨.ref a,s0,.inl ⟨rfl,_,SqL.of g0⟩,F,δ,As,d,δ',R,ed,fun v F' H' A As' ev R' r'=>?_⟩
       obtain ⟨a1,vs,A0,s1,eA,g1,n1,ro⟩:=R'.lst h1;have ea:a1=a:=by rw [s0] at s1;cases s1;rfl
       subst ea;refine ⟨a1,vs,v,rfl,rfl,g1,Nat.lt_of_le_of_lt (by rw [ro.length];exact hz) (jT (show 999<=1000 by decide)),?_⟩
       have nd0:=R'.nd i;rw [eA] at nd0;have nd1:=List.nodup_cons.mp nd0;have ai:a1∈As' i:=by rw [eA];exact Zi
       refine k σ F' _ ev.fs (R'.wr h1 s1 eA g1 n1 (ro.snoc r') (fun z=>?_) (List.nodup_append.mpr ⟨nd1.2,ev.nd,fun x hx y hy e=>?_⟩) fun j x hj m z=>?_)
       . rcases Zm.mp z with z | z
         . exact nd1.1 z
         . exact ev.dj i a1 ai z
       . subst e;exact ev.dj i x (by rw [eA];exact Zj _ hx) hy
       . rcases Zm.mp z with z | z
         . exact R'.dj j i x hj m (by rw [eA];exact Zj _ z)
         . exact ev.dj j x m z
     . cases q
   . cases q
 . cases q
end
end Dl
namespace Dl
open PySem PySem.Spec PyProof.Rows L2
def shO (δ:DS):DS:=δ.map (Option.map sh)
def ownOf (f:FM) (δ:DS):Option D:=(f δ).bind fun p=>if own p.1 then some p.1 else none
theorem RepS.toA {K:Zr} {H:Hp} {σ:L2.St} {δ:DS} (R:RepS K H σ δ):RepA K H H σ (shO δ) (fun _=>[]):=by
 refine ⟨Same.refl H,by unfold shO;rw [Zg];exact R.len,fun i d q=>?_,fun _ _=>rfl,fun _=>Zq,fun _ _ _ _ m=>nomatch m⟩
 unfold shO at q;rw [ZD] at q;obtain ⟨o,h1,h2⟩:=Zb.mp q;cases o with
 | none=>cases h2
 | some d0 =>
  cases h2;obtain ⟨v,h3,h4⟩:=R.val i d0 h1;exact ⟨v,h3,RepO.of_sh (Same.refl H) h4⟩
theorem BY {K:Zr} {H₂ H4:Hp} {σ:L2.St} {δ:DS} {f:FM} {e:D} (h:ownOf f (shO δ)=some e) (R:RepS K H4 σ δ) (s:Same H₂ H4):upV K f σ H4 fun v H5=>Same H4 H5/\∃ A,RepO K H₂ H5 v e A/\A.Nodup/\∀ a∈A,H4 a=none:=by
 unfold ownOf at h;obtain ⟨⟨d,δ'⟩,e1,h⟩:=Za.mp h;split at h
 . rename_i ho;cases h;refine ⟨H4,shO δ,fun _=>[],d,δ',R.toA,e1,fun v F' H' A As' ev R' r'=>⟨ev.hs,A,(r'.thaw ev.fs ho).thaw s ho,ev.nd,fun a m=>?_⟩⟩
   rcases ev.fA a m with ⟨j,z⟩ | z
   . cases z
   . exact z
 . cases h
theorem bU {H H':Hp} {a:Addr} (s:Same H H') (h:H' a=none):H a=none:=by
 cases q:H a with
 | none=>rfl
 | some u=>rw [s a u q] at h;cases h
theorem v6 {K:Zr} {F H H':Hp} {vs:List V} {ds:List D} {Acc A:List Addr} {v:V} {e:D} (r:RepOs K F H vs ds Acc) (nd:Acc.Nodup) (s:Same H H') (r':RepO K F H' v e A) (nd':A.Nodup) (fr:∀ a∈A,H a=none):∃ Acc',RepOs K F H' (vs++[v]) (ds++[e]) Acc'/\Acc'.Nodup:=by
 refine ⟨Acc++A,(r.frame (aO s) fun a m=>?_).snoc r',List.nodup_append.mpr ⟨nd,nd',fun x hx y hy q=>?_⟩⟩
 . obtain ⟨⟨ws,e⟩,_⟩:=r.dom a m;rw [e];exact s a _ e
 . subst q;obtain ⟨⟨ws,e⟩,_⟩:=r.dom x hx;rw [fr x hy] at e;cases e
section
variable {X:Cx} {pins:List (Addr×Obj)} {σ:L2.St} {H₂:Hp} {s₂:Shared} {scope:Scope} {cl:List (Str×Addr)} {x:Str} {N:List Str} {js:List Nat} {C:Addr} {fp:List Addr}
theorem se {elt iter:Expr} {px pos:Pos} {it:Addr} {tn:Nat->Heap->Prop} {J:It} {ds xs:List D} {δ:DS} {felt:FM} {RR:Value->Addr->Result->Shared->Prop} {E:Value->Shared->Prop} (I:L2.Inv X pins σ H₂ s₂) (hcm:X.calm=true) (O:CompOk X scope cl x N js)
 (T:kK X.prog X.w X.K (.Name x px) J fp it tn) (st:tn 0 s₂.heap) (hf:∀ b∈fp,fg X pins H₂ b) (itd:ItD X.K J H₂ ds) (R:RepS X.K H₂ σ δ) (he:∀ C s₂ H₂ fp pn,PV (aR X scope cl x N C s₂ H₂ fp pn) elt felt)
 (hm:nv (fun d=>ownOf felt (shO (some d :: aX js δ))) ds=some xs) (hz:xs.length<=1000)
 (hRR:∀ (D C:Addr) (s':Shared) (Hend:Hp) (vs:List V),s₂.heap.objs.size<=C->L2.Inv X pins σ Hend s'->Same H₂ Hend->Hend D=some (.lst vs)->(∃ Acc,RepOs X.K H₂ Hend vs xs Acc/\Acc.Nodup/\D ∉ Acc/\H₂ D=none)->(∃ m,s'.heap.Ns C m)->Hend C=none->RR (.ref D) C (.ok .next) s') :
 wpAny (model X.prog X.w) X.A (newList []) (fun acc s₃=>wpAny (model X.prog X.w) X.A (newFunctionEnv scope X.env.globals cl [] X.env.qual none .none (some X.env)) (fun cenv s₄ =>
  codeAny (model X.prog X.w) X.A (.compStart (.ListComp elt [⟨.Name x px,iter,[],0⟩] scope pos) 0 (.ref it) acc { cenv with scope:=relabel scope X.env }) (RR acc cenv.locals) s₄) E s₃) E s₂:=by
 obtain ⟨ml,mg'⟩:=mv hm;have objs:=T.obj 0 s₂.heap st;have objs':∀ b∈fp,∃ o,s₂.heap.get? b=some o:=fun b hb=>let ⟨o,h,_⟩:=objs b hb;⟨o,h⟩
 refine wpAny_newObj_type (wpAny_newFunctionEnv O.nocell (by intro y hy;simp at hy) (fun h₁ hns₁ hsb₁=>?_) O.kind)
 dsimp only at hns₁ hsb₁ ⊢;generalize hP:s₂.heap.push { cls:=.type "list",dict:=none,data:=.seq ([]:List Value).toArray }=P2 at hns₁ hsb₁ ⊢;have hC:P2.objs.size=s₂.heap.objs.size+1:=by rw [<- hP,Heap.size_push]
 generalize hCC:P2.objs.size=C at *
 have hCle:s₂.heap.objs.size<=C:=by omega
 have hDle:s₂.heap.objs.size<=s₂.heap.objs.size:=by omega
 have hDC:s₂.heap.objs.size ≠ C:=by omega
 have old:∀ b o,s₂.heap.get? b=some o->h₁.get? b=some o:=fun b o e=>by
  refine hsb₁.extBut b o (ZA (Zt (Heap.lt_size e) hCle)) (Heap.get?_push_of_some _ ?_);rw [<- hP];exact Heap.get?_push_of_some _ e
 have hacc:h₁.get? s₂.heap.objs.size=some { cls:=.type "list",data:=.seq ([]:List Value).toArray }:=by
  refine hsb₁.extBut s₂.heap.objs.size _ hDC (Heap.get?_push_of_some _ ?_);rw [<- hP];exact Heap.get?_push_size _ rfl
 have I0:=fun tk=>jf (C:=C) (tk:=tk) I hcm O hCle hf objs' old hns₁ I.len
 have dstk:s₂.heap.objs.size ∉ frs X.stack:=eO I hDle;have fne:∀ b∈fp,b ≠ s₂.heap.objs.size:=fun b hb e=>by
  obtain ⟨o,h⟩:=objs' b hb;exact absurd (Heap.lt_size h) (by rw [e];exact ZB _)
 have cne:∀ y c,cl.lookup y=some c->c ≠ s₂.heap.objs.size:=fun y c e z=>by
  obtain ⟨v,o,h1,_⟩:=I.cell y c (O.cls y c e);exact absurd (Heap.lt_size h1) (by rw [z];exact ZB _)
 have pne:∀ p∈X.pn++pins,p.1 ≠ s₂.heap.objs.size:=fun p hp e=>by
  exact absurd (Heap.lt_size (I.pin p hp).1) (by rw [e];exact ZB _)
 have stat:∀ {H':Hp} {pl:List (Addr×Obj)},(∀ b∈fp,H' b=none)->(∀ p∈pl,∀ b∈fp,p.1 ≠ b)->∀ b∈fp,fg (aR X scope cl x N C s₂ H₂ fp (X.pn++pins)) pl H' b:=fun {H' pl} hn hpl b hb=>by
  obtain ⟨o,h⟩:=objs' b hb;refine ⟨hn b hb,ZA (Zt (Heap.lt_size h) hCle),fun z=>?_,.inl hb,fun y c e=>(hf b hb).2.2.2.2.1 y c (O.cls y c e),fun p hp=>?_⟩
  . rcases Zn.mp (I.stkSub b z) with e | e
    . exact (hf b hb).2.1 e
    . exact (hf b hb).2.2.1 e
  . rcases Zm.mp hp with q | q
    . exact (hf b hb).2.2.2.2.2 p q
    . exact hpl p q b hb
 have loop:∀ s₃:Shared,s₃={ s₂ with heap:=h₁,toks:=s₂.toks+([]:List (Str×Value)).length } ->
  codeAny (model X.prog X.w) X.A (.compLoop (.ListComp elt [⟨.Name x px,iter,[],0⟩] scope pos) 0 (.ref it) (.ref s₂.heap.objs.size) (compEnvC scope cl C X.env)) (RR (.ref s₂.heap.objs.size) C) s₃:=by
  rintro s₃ rfl
  refine gl (fun n s=>∃ (i:Nat) (σ':L2.St) (H':Hp) (vs:List V) (o:Option D),n=ds.length - i/\i<=ds.length/\L2.Inv (aR X scope cl x N C s₂ H₂ fp (X.pn++pins)) [] σ' H' s/\Same H₂ H'/\RepS X.K H' σ' (o :: aX js δ)/\tn i s.heap/\(∀ b∈fp,H' b=none) /\
   (∃ (its:List Value) (k:Nat),Vals vs its/\s.heap.get? s₂.heap.objs.size=some { cls:=.type "list",data:=.seq its.toArray k })/\H' s₂.heap.objs.size=none/\(∃ Acc,RepOs X.K H₂ H' vs (xs.take i) Acc/\Acc.Nodup)/\vs.length=i) ?_ ds.length
   ⟨0,_,H₂,[],none,rfl,Nat.zero_le _,I0 _,Same.refl _,jU R js,T.keep 0 _ _ st (fun b hb o e=>old b o e),fun b hb=>(hf b hb).1,⟨[],0,.nil,hacc⟩,I.hok.fresh hDle,⟨[],.nil,Zq⟩,rfl⟩
  rintro n s ⟨i,σ',H',vs,o,rfl,hi,I',sm,R',st',fr',⟨its,k,rv,hD⟩,fD,⟨Acc,rr,nda⟩,hl⟩
  by_cases hlt:i < ds.length
  . -- one more
    obtain ⟨go,yl⟩:=(itd i H' sm).1 hlt;have hd0:ds[i]? = some ds[i]:=by simp [hlt]
    obtain ⟨e,ge,xe⟩:=mg' i _ hd0;have I1:L2.Inv (aR X scope cl x N C s₂ H₂ fp (X.pn++pins)) [(s₂.heap.objs.size,{ cls:=.type "list",data:=.seq its.toArray k })] σ' H' s:=I'.pins_of fun p hp=>by
     have:p=(s₂.heap.objs.size,{ cls:=.type "list",data:=.seq its.toArray k }):=by simpa using hp
     subst this;exact ⟨hD,fD,hDC,dstk,fun v z=>by cases z⟩
    refine thn (T.item (aR X scope cl x N C s₂ H₂ fp (X.pn++pins)) rfl rfl rfl rfl i _ s σ' H' (fun _ _=>False) I1 (stat fr' fun p hp b hb=>by
     have:p=(s₂.heap.objs.size,{ cls:=.type "list",data:=.seq its.toArray k }):=by simpa using hp
     subst this;exact (fne b hb).symm) st' go) fun r s1 ⟨u,hr,h4⟩=>?_
    subst hr;refine thn h4 fun _ s2 ⟨y,H'',I2,ru,yy,st2,fr2⟩=>?_
    obtain ⟨s3,d,hd,rd⟩:=yl y H'' yy;have hd':d=ds[i]:=by rw [hd0] at hd;exact (Zy hd).symm
    subst hd';have I3:=I2.pinned (stat fr2 fun p hp b hb=>by
     have:p=(s₂.heap.objs.size,{ cls:=.type "list",data:=.seq its.toArray k }):=by simpa using hp
     subst this;exact (fne b hb).symm) (T.obj _ _ st2)
    refine thn (eN (X:=aR X scope cl x N C s₂ H₂ fp (X.pn++pins)) (i:=0) O.nd O.h0 (.inl (lookup_relabel_local O.hx)) (.inl (by simp)) _ s2 σ' H'' y u (fun σ4 H4=>σ4=σ'.set 0 (some y)/\H4=H'') I3 ru ⟨rfl,rfl⟩) fun _ s4 ⟨σ4,H4,I4,e1,e2⟩=>?_
    subst e1 e2;have R4:RepS X.K H4 (σ'.set 0 (some y)) (some ds[i] :: aX js δ):=(R'.mono s3).set 0 rd;refine thn (he C s₂ H₂ fp (X.pn++pins) _ s4 (σ'.set 0 (some y)) H4 (fun v H5=>Same H4 H5/\∃ A,RepO X.K H₂ H5 v e A/\A.Nodup/\∀ a∈A,H4 a=none) I4 (BY ge R4 (sm.trans s3))) fun wv s5 ⟨v,H5,I5,rw5,s45,A5,r5,nd5,fr5⟩=>?_
    have hD5:s5.heap.get? s₂.heap.objs.size=some { cls:=.type "list",data:=.seq its.toArray k }:=(I5.pin (s₂.heap.objs.size,{ cls:=.type "list",data:=.seq its.toArray k }) (by simp)).1
    have fD5:H5 s₂.heap.objs.size=none:=(I5.pin (s₂.heap.objs.size,{ cls:=.type "list",data:=.seq its.toArray k }) (by simp)).2.1
    have pf:∀ b∈fp,∀ ob,s2.heap.get? b=some ob->s5.heap.get? b=some ob/\H5 b=none:=fun b hb ob hob=>by
     have:=I5.pin (b,ob) (Zu _ (Zu _ (cA hb hob)));exact ⟨this.1,this.2.1⟩
    have lz:its.length<=1000:=by
     have:=rv.length;omega
    refine call_meets F.slot_list_append ⟨_,hD5,rfl⟩ F.entry_list_append (F.args_list_append_2 _ _) (PySem.list_append s₂.heap.objs.size its.toArray k wv (by rw [Zx];exact bn lz)) ⟨hD5,?_⟩
    have q:=PySem.IsL.update hD5 (fun a=>a.push wv)
    have I6:L2.Inv (aR X scope cl x N C s₂ H₂ fp (X.pn++pins)) [] (σ'.set 0 (some y)) H5 { s5 with heap:=s5.heap.update s₂.heap.objs.size (Obj.mapSeq fun a=>a.push wv),toks:=s5.toks } :=
     (I5.pins_of (pins':=[]) fun p hp=>by simp at hp).turned (it:=s₂.heap.objs.size) (t':=s5.toks) (fun b ob hb hu=>(Heap.get?_update_other s5.heap _ (Ne.symm hb)).trans hu) fD5 hDC (.inr hDle) cne (fun p hp=>by
      rcases Zm.mp hp with z | z
      . exact pne p z
      . simp at z)
    refine ⟨ds.length - (i+1),by omega,i+1,σ'.set 0 (some y),H5,vs++[v],some ds[i],rfl,hlt,I6,(sm.trans s3).trans s45,R4.mono s45,?_,?_,?_,fD5,?_,by simp [hl]⟩
    . refine T.keep _ _ _ st2 fun b hb ob hob=>?_
      exact (Heap.get?_update_other s5.heap _ (Ne.symm (fne b hb))).trans (pf b hb ob hob).1
    . intro b hb;obtain ⟨ob,hob,_⟩:=T.obj _ _ st2 b hb;exact (pf b hb ob hob).2
    . have hf7:its.toArray.push wv=(its++[wv]).toArray:=by simp
      rw [hf7] at q;exact ⟨its++[wv],_,rv.append (.cons rw5 .nil),q⟩
    . have e8:xs.take (i+1)=xs.take i++[e]:=by
       rw [List.take_add_one,xe];rfl
      rw [e8];exact v6 rr nda (s3.trans s45) r5 nd5 fun a m=>(bU s3 (fr5 a m))
  . -- the end
    have hie:i=ds.length:=by omega
    refine thn (T.done (aR X scope cl x N C s₂ H₂ fp (X.pn++pins)) rfl rfl rfl rfl i [(s₂.heap.objs.size,{ cls:=.type "list",data:=.seq its.toArray k })] s σ' H' (fun _ _=>False) (I'.pins_of fun p hp=>by
     have:p=(s₂.heap.objs.size,{ cls:=.type "list",data:=.seq its.toArray k }):=by simpa using hp
     subst this;exact ⟨hD,fD,hDC,dstk,fun v z=>by cases z⟩) (stat fr' fun p hp b hb=>by
     have:p=(s₂.heap.objs.size,{ cls:=.type "list",data:=.seq its.toArray k }):=by simpa using hp
     subst this;exact (fne b hb).symm) st' ((itd i H' sm).2 (by omega))) fun r s1 ⟨hr,I8⟩=>?_
    subst hr;have hD8:s1.heap.get? s₂.heap.objs.size=some { cls:=.type "list",data:=.seq its.toArray k }:=(I8.pin (s₂.heap.objs.size,{ cls:=.type "list",data:=.seq its.toArray k }) (by simp)).1
    have hxs:xs.take i=xs:=List.take_of_length_le (by omega)
    rw [hxs] at rr;have sn:=aJ fD (.lst vs);have dn:∀ b,∀ u,H' b=some u->b ≠ s₂.heap.objs.size:=fun b u z=>aA z fD
    have un:Un (frs X.stack) fp H₂ (upd H' s₂.heap.objs.size (.lst vs)) s₂.heap s1.heap:=by
     have b0:=I8.base;refine ⟨fun b ob e n1 n2 n3=>b0.keep b ob e n1 n2 n3,fun b ob e n1 n2 n3=>b0.slot b ob e n1 n2 n3,fun b ob e n1 n3=>?_,fun b ob e n3=>b0.there b ob e n3,fun b zs e=>?_,fun b ob u e=>?_,fun b ps e=>?_⟩
     . rw [al (ZA (Heap.lt_size e))];exact b0.free b ob e n1 n3
     . have z:=b0.tups b zs e;rw [al (dn _ _ z)];exact z
     . have z:=b0.frzs b ob u e;rw [al (dn _ _ z)];exact z
     . obtain ⟨more,z⟩:=b0.tbls b ps e;exact ⟨more,by rw [al (dn _ _ z)];exact z⟩
    have hok:HOk X.prog X.w (upd H' s₂.heap.objs.size (.lst vs)) s1.heap:=fun b u z=>by
     by_cases hb:b=s₂.heap.objs.size
     . rw [hb] at z ⊢;rw [aw] at z;cases z;exact ⟨bn (by omega),its,k,rv,hD8⟩
     . rw [al hb] at z;exact (I8.hok b u z).stay (fun _ _ _ q=>q) (fun c q=>by rw [al (dn _ _ q)];exact q) fun c ys q=>by rw [al (dn _ _ q)];exact q
    have IX:L2.Inv X pins σ (upd H' s₂.heap.objs.size (.lst vs)) s1:=I.call' I8.os un hok I8.bare fun b hb=>⟨(hf b hb).2.2.2.1,(hf b hb).2.1,(hf b hb).2.2.2.2.1,(hf b hb).2.2.2.2.2⟩
    obtain ⟨m8,hn8,_⟩:=I8.loc;refine hRR s₂.heap.objs.size C s1 _ vs hCle IX (sm.trans sn) aw ⟨Acc,rr.frame (aO sn) (fun a m=>by
     obtain ⟨⟨ws,e⟩,_⟩:=rr.dom a m;rw [e];exact sn a _ e),nda,fun m=>(by
     obtain ⟨⟨ws,e⟩,_⟩:=rr.dom _ m;rw [fD] at e;cases e),I.hok.fresh hDle⟩ ⟨m8,hn8⟩ ?_
    rw [al (Ne.symm hDC)];exact I8.free
 exact codeAny_compStart_list (loop _ rfl) (T.self X.A 0 _ _ _ (T.keep 0 _ _ st (fun b hb o e=>old b o e)) (loop _ rfl))
def xo (src:FA) (js:List Nat) (felt:FM):FM:=fun δ=>(src δ).bind fun ds=>(nv (fun d=>ownOf felt (shO (some d :: aX js δ))) ds).bind fun xs=>if xs.length<=1000 then some (.lst xs,δ) else none
theorem nZ {f:FM} {g:D->DS}:∀ {ds xs:List D},nv (fun d=>ownOf f (g d)) ds=some xs->gH xs=true
 | [],xs,h=>by cases h;rfl
 | d :: ds,xs,h=>by
  obtain ⟨x,ex,h⟩:=Za.mp (show ((ownOf f (g d)).bind _)=some xs from h)
  obtain ⟨ys,ey,h⟩:=Za.mp h;cases h;rw [gH,nZ ey,Bool.and_true];unfold ownOf at ex;obtain ⟨p,_,ex⟩:=Za.mp ex;split at ex
  . rename_i ho;cases ex;exact ho
  . cases ex
theorem vS {K:Zr} {F H H1 Hend:Hp} {σ:L2.St} {δ:DS} {As:Nat->List Addr} {xs:List D} {vs:List V} {D:Addr} (RA:RepA K F H σ δ As) (ho:gH xs=true) (s:Same H Hend) (s1:Same H H1) (hD:Hend D=some (.lst vs)) (h:∃ Acc,RepOs K H1 Hend vs xs Acc/\Acc.Nodup/\D ∉ Acc/\H1 D=none) :
 ∃ A,Ev F H As F Hend As A/\RepA K F Hend σ δ As/\RepO K F Hend (.ref D) (.lst xs) A:=by
 obtain ⟨Acc,r,nd,nD,hn⟩:=h;refine ⟨D :: Acc,.fresh s (fun a m=>?_) (List.nodup_cons.mpr ⟨nD,nd⟩) (fun i a m=>(RA.dom m).1),RA.grow s,.lst hD ?_ (r.thaw (RA.fz.trans s1) ho)⟩
 . rcases Zn.mp m with z | z
   . rw [z];exact bU s1 hn
   . exact bU s1 (r.dom a z).2
 . exact bU (RA.fz.trans s1) hn
theorem vT {K:Zr} {F H H1 Hend:Hp} {σ:L2.St} {δ:DS} {As:Nat->List Addr} {xs:List D} {vs:List V} {D:Addr} {Q:VK} (RA:RepA K F H σ δ As) (k:∀ v F' H' A As',Ev F H As F' H' As' A->RepA K F' H' σ δ As'->RepO K F' H' v (.lst xs) A->Q v H') (ho:gH xs=true) (s:Same H Hend) (s1:Same H H1) (hD:Hend D=some (.lst vs)) (h:∃ Acc,RepOs K H1 Hend vs xs Acc/\Acc.Nodup/\D ∉ Acc/\H1 D=none):Q (.ref D) Hend:=by
 obtain ⟨A,ev,R',r'⟩:=vS RA ho s s1 hD h;exact k _ F Hend A As ev R' r'
theorem zQ {K:Zr} {F H H1 Hend:Hp} {σ:L2.St} {δ:DS} {As:Nat->List Addr} {xs:List D} {vs:List V} {D:Addr} {Q:L2.St->Hp->Prop} (i:Nat) (RA:RepA K F H σ δ As) (k:∀ σ' F' H',Same F F'->cU K F' H' σ' (δ.set i (some (.lst xs)))->Q σ' H') (ho:gH xs=true) (s:Same H Hend) (s1:Same H H1) (hD:Hend D=some (.lst vs)) (h:∃ Acc,RepOs K H1 Hend vs xs Acc/\Acc.Nodup/\D ∉ Acc/\H1 D=none):Q (σ.set i (some (.ref D))) Hend:=by
 obtain ⟨A,ev,R',r'⟩:=vS RA ho s s1 hD h;exact k _ F Hend (Same.refl F) (R'.setM i r' ev.nd ev.dj)
theorem AB {elt iter:Expr} {px pos:Pos} {src:FA} {felt:FM} (hi:PID X (.Name x px) iter src) {N:List Str} {js:List Nat} (he:∀ C s₂ H₂ fp pn,PV (aR X scope cl x N C s₂ H₂ fp pn) elt felt) (O:CompOk X scope cl x N js) (hcm:X.calm=true:=by rfl)
 (hs:∀ v,foldedSetIterable iter X.env v=pure v:=by intro _;rfl):PV X (.ListComp elt [⟨.Name x px,iter,[],0⟩] scope pos) (xo src js felt):=by
 intro pins s σ H Q I ⟨F,δ,As,d,δ',RA,q,k⟩;have R:=RA.toS;unfold xo at q;obtain ⟨ds,eds,q⟩:=Za.mp q;obtain ⟨xs,exs,q⟩:=Za.mp q
 by_cases hz:xs.length<=1000
 . rw [if_pos hz] at q;cases q;rw [eval_ListComp];refine wpAny_comprehension_free (use:=none) rfl hs O.clos O.kind O.names ?_;refine wpAny_mono (hi pins s σ H (fun J H1=>Same H H1/\ItD X.K J H1 ds) I ⟨δ,ds,R,eds,fun J H1 s1 itd=>⟨s1,itd⟩⟩) (fun v s1 h1=>wpAny_mono h1 (fun itv s2 h2=>?_) fun _ _ z=>z) fun _ _ z=>z
   obtain ⟨it,fp,tn,J,H2,rfl,I2,T,st,hf,s1,itd⟩:=h2;refine se (RR:=fun acc C=>compPost (model X.prog X.w) X.A X.xe none (EP X pins σ Q) acc C) I2 hcm O T st hf itd (R.mono s1) he exs hz ?_
   intro D C s' Hend vs hC IX sm hD rr ⟨m,hn⟩ fC;exact ⟨m,hn,fun h' hs'=>⟨.ref D,Hend,iz IX I2 hC fC hs',rfl,vT RA k (nZ exs) (s1.trans sm) s1 hD rr⟩⟩
 . rw [if_neg hz] at q;cases q
end
end Dl
namespace Dl
open PySem PySem.Spec PyProof.Rows L2
section
variable {K:Zr} {F H:Hp} {σ:L2.St} {δ:DS} {As:Nat->List Addr}
theorem RepOs.of_imm:∀ {vs:List V} {ds:List D},Reps K H vs ds->cT ds=true->RepOs K F H vs ds []
 | _,_,.nil,_=>.nil
 | _,_,.cons r t,i=>by
  rw [cT,ZI] at i;exact .cons (.imm i.1 r) (RepOs.of_imm t i.2) rfl
theorem pI {H1:Hp} {vs:List V} {ds:List D} {p:Addr} {Q:VK} (R:RepA K F H σ δ As) (s:Same H H1) (r:Reps K H1 vs ds) (i:cT ds=true) (hp:H1 p=none)
 (k:∀ v F' H' A As',Ev F H As F' H' As' A->RepA K F' H' σ δ As'->RepO K F' H' v (.lst ds) A->Q v H'):Q (.ref p) (upd H1 p (.lst vs)):=by
 have sn:=aJ hp (.lst vs);have np:=bU s hp;refine k _ F _ [p] As (.fresh (s.trans sn) (fun a m=>?_) (List.nodup_cons.mpr ⟨fun z=>(nomatch z),Zq⟩) (fun i a m=>(R.dom m).1)) (R.grow (s.trans sn)) (.lst aw (bU R.fz np) (RepOs.of_imm (r.mono sn) i))
 rw [Zk.mp m];exact np
end
def pK (d:D) (δ:DS):Option (D×DS):=match d with
 | .lst ds=>if cT ds then some (.lst ds,δ) else none
 | _=>none
theorem mB {d d':D} {δ δ':DS} (h:pK d δ=some (d',δ')):∃ ds,d=.lst ds/\d'=.lst ds/\δ'=δ/\cT ds=true:=by
 unfold pK at h;split at h
 . rename_i ds;split at h
   . rename_i hi;cases h;exact ⟨ds,rfl,rfl,rfl,hi⟩
   . cases h
 . cases h
def vC:List D->Option D
 | [.lst ds]=>some (.lst ds)
 | [.seq ds]=>some (.lst ds)
 | [.tup ds]=>some (.lst ds)
 | _=>none
def oN (g:FA):FM:=fun δ=>(g δ).bind fun ds=>(vC ds).bind fun d=>pK d δ
def xp (fa fb:FD):FM:=fun δ=>(f2 wT fa fb δ).bind fun d=>pK d δ
section
variable {X:Cx} {e a b:Expr} {f fa fb:FD} {lo hi:Option Expr} {fl fh:FO} {g:FA} {pos p2 p:Pos}
theorem wt (hg:Gl X "list") (hm:X.mg "list" = none) (hv:bootBuiltins "list" = some (.type "list")) (ha:PAD X [e] g) (he:starEach [e] X.env=(false,eval e X.env) :: starEach [] X.env:=by rfl) (hpl:(backTo pos (starEach [] X.env)).any (·.1)=false:=by rfl) :
 PV X (.Call (.Name "list" p) [e] [] pos) (oN g):=imp (fH qm hg hm hv ha (by decide) (by decide) he hpl) fun σ H Q ⟨F,δ,As,d,δ',RA,q,k⟩=>by
 unfold oN at q;obtain ⟨xs,exs,q⟩:=Za.mp q;obtain ⟨d0,e0,q⟩:=Za.mp q;obtain ⟨ds,rfl,rfl,rfl,hi⟩:=mB q;refine ⟨_,xs,RA.toS,exs,fun vs H1 s1 r1 l=>?_⟩
 unfold vC at e0;split at e0
 . cases e0;obtain ⟨v,rfl,rv⟩:=fF r1;cases rv with
   | @lst p vs _ hp rp=>exact ⟨p,vs,rfl,.inl (SqL.of hp),fun l hl=>pI RA s1 rp hi hl k⟩
 . cases e0;obtain ⟨v,rfl,rv⟩:=fF r1;cases rv with
   | @seq p vs _ hp rp=>exact ⟨p,vs,rfl,.inl hp,fun l hl=>pI RA s1 rp hi hl k⟩
 . cases e0;obtain ⟨v,rfl,rv⟩:=fF r1;cases rv with
   | @tup p vs _ hp rp=>exact ⟨p,vs,rfl,.inr hp,fun l hl=>pI RA s1 rp hi hl k⟩
 . cases e0
theorem CM (ha:PD X a fa) (hb:PD X b fb):PV X (.BinOp a .Add b pos) (xp fa fb):=imp (uT pD ha hb) fun σ H Q ⟨F,δ,As,d,δ',RA,q,k⟩=>by
 unfold xp at q;obtain ⟨d0,e0,q⟩:=Za.mp q;obtain ⟨ds,rfl,rfl,rfl,hi⟩:=mB q;unfold f2 at e0;obtain ⟨x,ex,e0⟩:=Za.mp e0;obtain ⟨y,ey,e0⟩:=Za.mp e0;refine ⟨_,x,RA.toS,ex,fun v H1 s1 r1=>⟨_,y,RA.toS.mono s1,ey,fun w H2 s2 r2=>?_⟩⟩
 unfold wT at e0;split at e0
 . rename_i xs ys;split at e0
   . rename_i hz;cases e0;have r1':=r1.mono s2;cases r1' with
     | @lst p vs _ hp rp =>
      cases r2 with
      | @lst q ws _ hq rq=>exact ⟨p,q,vs,ws,rfl,rfl,hp,hq,by rw [rp.length,rq.length];exact bn hz,fun l hl=>pI RA (s1.trans s2) (rp.append rq) hi hl k⟩
   . cases e0
 . cases e0
end
def sV (i:Nat):SD:=fun δ=>match δ[i]? with
 | some (some (.lst _))=>some (.nx (δ.set i (some (.lst []))))
 | _=>none
theorem imms_mem:∀ {ds:List D},cT ds=true <-> ∀ d∈ds,imm d=true
 | []=>⟨fun _ _ m=>(nomatch m),fun _=>rfl⟩
 | d :: ds=>by
  rw [cT,ZI,imms_mem (ds:=ds)];exact ⟨fun h e m=>(Zn.mp m).elim (fun z=>z ▸ h.1) (h.2 e),fun h=>⟨h d Zi,fun e m=>h e (Zj _ m)⟩⟩
section
variable {K:Zr} {F H:Hp} {σ:L2.St} {δ:DS} {As:Nat->List Addr}
theorem RepA.wrI {i:Nat} {ds es:List D} {a:Addr} {vs ws:List V} {A0:List Addr} (R:RepA K F H σ δ As) (h:δ[i]? = some (some (.lst ds))) (hσ:σ[i]? = some (some (.ref a))) (hA:As i=a :: A0) (ha:H a=some (.lst vs)) (hF:F a=none) (r:Reps K H ws es) (hi:cT es=true) :
 cU K F (upd H a (.lst ws)) σ (δ.set i (some (.lst es))):=R.wr h hσ hA ha hF (RepOs.of_imm r hi) (fun z=>nomatch z) Zq fun _ _ _ _ z=>nomatch z
end
section
variable {X:Cx} {pos:Pos}
theorem yd (i:Nat) {c:Expr} (hc:PE X c (Em X.K "list" xQ (we i))) (hs:swapsWith c none pos.line X.env=pure false:=by rfl):PMD X (.Expr c pos) (sV i):=de (kU hc hs) fun E σ H ⟨F,δ,r,⟨As,R⟩,q,k⟩=>by
 unfold sV at q;split at q
 . rename_i ds h;cases q;obtain ⟨a,vs,A0,s0,eA,g0,n0,ro⟩:=R.lst h;exact ⟨.ref a,s0,.inl ⟨rfl,_,SqL.of g0⟩,a,vs,rfl,rfl,g0,k σ F _ (Same.refl F) (R.wrI h s0 eA g0 n0 .nil rfl)⟩
 . cases q
end
end Dl
namespace Dl
open PySem PySem.Spec PyProof.Rows L2
end Dl
namespace Dl
open PySem PySem.Spec PyProof.Rows L2
def eqL (f:D->D->Option Bool):List D->List D->Option Bool
 | [],[]=>some true
 | [],_ :: _=>some false
 | _ :: _,[]=>some false
 | a :: as,b :: bs=>(f a b).bind fun x=>(eqL f as bs).bind fun y=>some (x && y)
def eqN:Nat->D->D->Option Bool
 | 0,a,b=>if cp a && cp b then some (eqF a b) else none
 | n+1,a,b=>match a,b with
  | .tup as,.tup bs=>eqL (eqN n) as bs
  | .lst as,.lst bs=>eqL (eqN n) as bs
  | .lst as,.seq bs=>eqL (eqN n) as bs
  | .seq as,.lst bs=>eqL (eqN n) as bs
  | .seq as,.seq bs=>eqL (eqN n) as bs
  | .non,.tup _=>some false
  | .tup _,.non=>some false
  | .non,.lst _=>some false
  | .lst _,.non=>some false
  | .non,.seq _=>some false
  | .seq _,.non=>some false
  | a,b=>if cp a && cp b then some (eqF a b) else none
theorem vK {f:D->D->Option Bool}:∀ {as bs:List D} {c:Bool},eqL f as bs=some c->∀ (j:Nat) (a b:D),as[j]? = some a->bs[j]? = some b->∃ x,f a b=some x
 | [],_,_,_,_,_,_,h,_=>by simp at h
 | _ :: _,[],_,_,_,_,_,_,h=>by simp at h
 | a :: as,b :: bs,c,h,j,x,y,h1,h2=>by
  obtain ⟨u,e1,h⟩:=Za.mp (show ((f a b).bind _)=some c from h)
  obtain ⟨v,e2,h⟩:=Za.mp h;cases j with
  | zero=>simp at h1 h2;subst h1 h2;exact ⟨u,e1⟩
  | succ j=>exact vK e2 j x y (by simpa using h1) (by simpa using h2)
theorem pZ {f:D->D->Option Bool}:∀ {as bs:List D} {c:Bool} {e:Nat->Bool},eqL f as bs=some c->(∀ (j:Nat) (a b:D) (x:Bool),as[j]? = some a->bs[j]? = some b->f a b=some x->e j=x)->((List.range (min as.length bs.length)).all e && as.length == bs.length)=c
 | [],[],c,e,h,_=>by cases h;rfl
 | [],_ :: _,c,e,h,_=>by cases h;simp
 | _ :: _,[],c,e,h,_=>by cases h;simp
 | a :: as,b :: bs,c,e,h,he=>by
  obtain ⟨u,e1,h⟩:=Za.mp (show ((f a b).bind _)=some c from h)
  obtain ⟨v,e2,h⟩:=Za.mp h;cases h;have ih:=pZ (e:=fun j=>e (j+1)) e2 fun j x y z h1 h2 h3=>he (j+1) x y z (by simpa using h1) (by simpa using h2) h3
  have h0:e 0=u:=he 0 a b u rfl rfl e1;show ((List.range (min (as.length+1) (bs.length+1))).all e && (as.length+1) == (bs.length+1))=(u && v);have hm:min (as.length+1) (bs.length+1)=min as.length bs.length+1:=by omega
  have hq:((as.length+1) == (bs.length+1))=(as.length == bs.length):=by rw [Bool.eq_iff_iff];simp
  rw [<- ih,<- h0,hm,List.range_succ_eq_map,List.all_cons,List.all_map,Bool.and_assoc,hq];rfl
theorem vH {f:D->D->Option Bool}:∀ {as bs:List D} {c:Bool},eqL f as bs=some c->as.length ≠ bs.length->c=false
 | [],[],_,_,n=>absurd rfl n
 | [],_ :: _,c,h,_=>by cases h;rfl
 | _ :: _,[],c,h,_=>by cases h;rfl
 | a :: as,b :: bs,c,h,n=>by
  obtain ⟨u,e1,h⟩:=Za.mp (show ((f a b).bind _)=some c from h)
  obtain ⟨v,e2,h⟩:=Za.mp h;cases h;rw [vH e2 (fun z=>n (congrArg (· + 1) z)),Bool.and_false]
theorem qb {A:Around} {s:Shared} {b:Addr} {k:Bool} (h:SeqAt.RcAt A s .none (.ref b) k):SeqAt.EqAt A s .none (.ref b) k:=fun prog w E Q hq=>by
 unfold eqBool;refine wpAny_holding (wpAny_ite_split (fun z=>nomatch (eq_of_beq z:Value.none=Value.ref b)) fun _=>?_)
 have z:=h prog w E (fun a s'=>wpAny (model prog w) A (truthOfDropped a) Q E s') (wpAny_truthy_bool hq)
 exact wpAny_bind z
theorem qa {A:Around} {s:Shared} {b:Addr} {k:Bool} (h:SeqAt.RcAt A s (.ref b) .none k):SeqAt.EqAt A s (.ref b) .none k:=fun prog w E Q hq=>by
 unfold eqBool;refine wpAny_holding (wpAny_ite_split (fun z=>nomatch (eq_of_beq z:Value.ref b=Value.none)) fun _=>?_)
 have z:=h prog w E (fun a s'=>wpAny (model prog w) A (truthOfDropped a) Q E s') (wpAny_truthy_bool hq)
 exact wpAny_bind z
section
variable {X:Cx} {pins:List (Addr×Obj)} {σ:L2.St} {H:Hp} {s:Shared}
theorem jX (I:L2.Inv X pins σ H s):∀ (n:Nat) {v:V} {a b:D} {c:Bool},Rep X.K H v a->Rep X.K H v b->eqN n a b=some c->c=true
 | 0,v,a,b,c,ra,rb,h=>by
  unfold eqN at h;split at h
  . rename_i hf;cases h;rw [ZI] at hf;have e1:=(ra.flat hf.1).2;have e2:=(rb.flat hf.2).2;rw [<- pY e1 e2];cases ra <;> first | rfl | (simp [eqV];done) | exact absurd hf.1 Zs
  . cases h
 | n+1,v,a,b,c,ra,rb,h=>by
  have many:∀ {vs:List V} {as bs:List D},Reps X.K H vs as->Reps X.K H vs bs->∀ {c:Bool},eqL (eqN n) as bs=some c->c=true:=by
   intro vs
   induction vs with
   | nil=>intro as bs r1 r2 c h;cases r1;cases r2;cases h;rfl
   | cons v vs ih =>
    intro as bs r1 r2 c h;cases r1 with
    | cons p1 t1 =>
     cases r2 with
     | cons p2 t2 =>
      obtain ⟨u,e1,h⟩:=Za.mp (show ((eqN n _ _).bind _)=some c from h)
      obtain ⟨w,e2,h⟩:=Za.mp h;cases h;rw [jX I n p1 p2 e1,ih t1 t2 e2];rfl
  have flatC:∀ {a b:D},Rep X.K H v a->Rep X.K H v b->(if cp a && cp b then some (eqF a b) else none)=some c->c=true:=fun {a b} ra rb h=>by
   refine jX I 0 ra rb ?_;unfold eqN;exact h
  cases ra with
  | non=>cases rb;exact flatC .non .non h
  | bl x=>cases rb;exact flatC (.bl x) (.bl x) h
  | int x=>cases rb;exact flatC (.int x) (.int x) h
  | str x=>cases rb;exact flatC (.str x) (.str x) h
  | ty x=>cases rb;exact flatC (.ty x) (.ty x) h
  | @tup p vs as hp rp =>
   cases rb with
   | @tup _ ws bs hq rq =>
    have e:=I.tuple_inj hp hq;subst e;exact many rp rq h
   | lst _ _=>cases h
   | seq _ _=>cases h
   | dct _=>cases h
   | exc _=>cases h
   | cls _=>cases h
   | ms _ _ _=>cases h
   | mf _ _ _=>cases h
   | md _ _ _=>cases h
  | @lst p vs as hp rp =>
   cases rb with
   | @lst _ ws bs hq rq =>
    have e:=I.list_inj (SqL.of (K:=X.K) hp) (SqL.of hq);subst e;exact many rp rq h
   | @seq _ ws bs hq rq =>
    have e:=I.list_inj (SqL.of hp) hq;subst e;exact many rp rq h
   | tup _ _=>cases h
   | dct _=>cases h
   | exc _=>cases h
   | cls _=>cases h
   | ms _ _ _=>cases h
   | mf _ _ _=>cases h
   | md _ _ _=>cases h
  | @seq p vs as hp rp =>
   cases rb with
   | @lst _ ws bs hq rq =>
    have e:=I.list_inj hp (SqL.of hq);subst e;exact many rp rq h
   | @seq _ ws bs hq rq =>
    have e:=I.list_inj hp hq;subst e;exact many rp rq h
   | tup _ _=>cases h
   | dct _=>cases h
   | exc _=>cases h
   | cls _=>cases h
   | ms _ _ _=>cases h
   | mf _ _ _=>cases h
   | md _ _ _=>cases h
  | dct h1=>cases rb <;> cases h
  | exc h1=>cases rb <;> cases h
  | cls C=>cases rb <;> cases h
  | ms=>cases rb <;> cases h
  | mf=>cases rb <;> cases h
  | md=>cases rb <;> cases h
theorem rS (I:L2.Inv X pins σ H s):∀ (n:Nat) (A:Around),A.units+n < cLine->∀ {x y:V} {u v:Value} {a b:D} {c:Bool},RelV x u->RelV y v->Rep X.K H x a->Rep X.K H y b->eqN n a b=some c->SeqAt.RcAt A s u v c/\SeqAt.RcNeAt A s u v (!c)/\SeqAt.EqAt A s u v c
 | 0,A,hu,x,y,u,v,a,b,c,rx,ry,ra,rb,h=>by
  unfold eqN at h;split at h
  . rename_i hf;cases h;rw [ZI] at hf;have z:=uJ (A:=A) (s:=s) rx ry ra rb hf.1 hf.2;refine ⟨z.1,z.2,?_⟩;rw [<- pY (ra.flat hf.1).2 (rb.flat hf.2).2];exact zG rx ry (ra.flat hf.1).1 (rb.flat hf.2).1
  . cases h
 | n+1,A,hu,x,y,u,v,a,b,c,rx,ry,ra,rb,h=>by
  have hu0:A.units < cLine:=by omega
  have hu1:A.in1.units+n < cLine:=by show A.units+1+n < cLine;omega
  have items:∀ {vs ws:List V} {us zs:List Value} {as bs:List D} {c:Bool},Vals vs us->Vals ws zs->Reps X.K H vs as->Reps X.K H ws bs->eqL (eqN n) as bs=some c ->
   ∃ e:Nat->Bool,(∀ j (h1:j < us.toArray.size) (h2:j < zs.toArray.size),SeqAt.EqAt A.in1 s us.toArray[j] zs.toArray[j] (e j))/\∀ (j:Nat) (a b:D) (x:Bool),as[j]? = some a->bs[j]? = some b->eqN n a b=some x->e j=x:=by
   intro vs ws us zs as bs c r1 r2 q1 q2 h;refine ⟨fun j=>((as[j]?).bind fun a=>(bs[j]?).bind fun b=>eqN n a b).getD true,fun j h1 h2=>?_,fun j a b x e1 e2 e3=>by dsimp only;rw [e1,e2,Zc,Zc,e3];rfl⟩
   have l1:=r1.length;have l2:=r2.length;rw [Zx] at h1 h2;have k1:j < vs.length:=by omega
   have k2:j < ws.length:=by omega
   obtain ⟨u',e1,p1⟩:=r1.get (i:=j) (x:=vs[j]) (by simp [k1])
   obtain ⟨z',e2,p2⟩:=r2.get (i:=j) (x:=ws[j]) (by simp [k2])
   obtain ⟨a',e3,p3⟩:=q1.getV (i:=j) (v:=vs[j]) (by simp [k1])
   obtain ⟨b',e4,p4⟩:=q2.getV (i:=j) (v:=ws[j]) (by simp [k2])
   have w1:us.toArray[j]=u':=by
    have z:us[j]? = some us[j]:=by simp [h1]
    rw [z] at e1;simpa using e1
   have w2:zs.toArray[j]=z':=by
    have z:zs[j]? = some zs[j]:=by simp [h2]
    rw [z] at e2;simpa using e2
   obtain ⟨x',ex⟩:=vK h j a' b' e3 e4;dsimp only;rw [w1,w2,e3,e4,Zc,Zc,ex];exact (rS I n A.in1 hu1 p1 p2 p3 p4 ex).2.2
  have refs:∀ {p q:Addr},u=.ref p->v=.ref q->SeqAt.RcAt A s (.ref p) (.ref q) c->SeqAt.RcNeAt A s (.ref p) (.ref q) (!c)->SeqAt.RcAt A s u v c/\SeqAt.RcNeAt A s u v (!c)/\SeqAt.EqAt A s u v c:=fun {p q} e1 e2 z1 z2=>by
   subst e1 e2;refine ⟨z1,z2,?_⟩
   by_cases hpq:p=q
   . subst hpq;have exy:x=y:=rx.inj ry;subst exy;rw [jX I (n+1) ra rb h];exact SeqAt.EqAt.same _
   . exact SeqAt.EqAt.of_refs hpq z1
  have lists:∀ {p q:Addr} {vs ws:List V} {as bs:List D},u=.ref p->v=.ref q->SqL X.K H p vs->SqL X.K H q ws->Reps X.K H vs as->Reps X.K H ws bs->eqL (eqN n) as bs=some c->SeqAt.RcAt A s u v c/\SeqAt.RcNeAt A s u v (!c)/\SeqAt.EqAt A s u v c:=fun {p q vs ws as bs} e1 e2 hp hq rp rq hc=>by
   obtain ⟨its,r1,t1,_⟩:=I.list hp;obtain ⟨jts,r2,t2,_⟩:=I.list hq;have l1:its.toArray.size=as.length:=by rw [Zx,<- r1.length,rp.length]
   have l2:jts.toArray.size=bs.length:=by rw [Zx,<- r2.length,rq.length]
   obtain ⟨e,he,hx⟩:=items r1 r2 rp rq hc
   by_cases hl:its.toArray.size=jts.toArray.size
   . have z:=pZ hc hx;have hb:(as.length == bs.length)=true:=by rw [beq_iff_eq];omega
     have hm:min as.length bs.length=its.toArray.size:=by omega
     rw [hb,hm,Bool.and_true] at z;have z1:=SeqAt.RcAt.lists (A:=A) (s:=s) t1.isList t2.isList hl hu0 he;have z2:=SeqAt.RcNeAt.lists (A:=A) (s:=s) t1.isList t2.isList hl hu0 he;rw [z] at z1 z2;exact refs e1 e2 z1 z2
   . have z1:=SeqAt.RcAt.lists_lengths (A:=A) (s:=s) t1.isList t2.isList (by simpa [bne_iff_ne] using hl) hu0
     have z2:=SeqAt.RcNeAt.lists_lengths (A:=A) (s:=s) t1.isList t2.isList (by simpa [bne_iff_ne] using hl) hu0
     have z:=vH hc (by omega)
     subst z;exact refs e1 e2 z1 z2
  have flatC:(if cp a && cp b then some (eqF a b) else none)=some c->SeqAt.RcAt A s u v c/\SeqAt.RcNeAt A s u v (!c)/\SeqAt.EqAt A s u v c:=fun h=>rS I 0 A (by omega) rx ry ra rb (by unfold eqN;exact h)
  cases ra with
  | non =>
   cases (show u=Value.none from rx)
   cases rb with
   | @tup q ws bs hq rq =>
    cases h;cases (show v=Value.ref q from ry)
    obtain ⟨its,r1,t1,_⟩:=I.tuple hq;exact ⟨SeqAt.RcAt.none_tuple t1 hu0,SeqAt.RcNeAt.none_tuple t1 hu0,qb (SeqAt.RcAt.none_tuple t1 hu0)⟩
   | @lst q ws bs hq rq =>
    cases h;cases (show v=Value.ref q from ry)
    obtain ⟨its,r1,t1,_⟩:=I.list (SqL.of (K:=X.K) hq);exact ⟨SeqAt.RcAt.none_list t1.isList hu0,SeqAt.RcNeAt.none_list t1.isList hu0,qb (SeqAt.RcAt.none_list t1.isList hu0)⟩
   | @seq q ws bs hq rq =>
    cases h;cases (show v=Value.ref q from ry)
    obtain ⟨its,r1,t1,_⟩:=I.list hq;exact ⟨SeqAt.RcAt.none_list t1.isList hu0,SeqAt.RcNeAt.none_list t1.isList hu0,qb (SeqAt.RcAt.none_list t1.isList hu0)⟩
   | _=>exact flatC h
  | @tup p vs as hp rp =>
   cases rb with
   | @tup q ws bs hq rq =>
    obtain ⟨its,r1,t1,_⟩:=I.tuple hp;obtain ⟨jts,r2,t2,_⟩:=I.tuple hq;have l1:its.toArray.size=as.length:=by rw [Zx,<- r1.length,rp.length]
    have l2:jts.toArray.size=bs.length:=by rw [Zx,<- r2.length,rq.length]
    have hc:eqL (eqN n) as bs=some c:=h;obtain ⟨e,he,hx⟩:=items r1 r2 rp rq hc;have z:=pZ hc hx;have z1:=SeqAt.RcAt.tuples (A:=A) (s:=s) t1 t2 hu0 he;have z2:=SeqAt.RcNeAt.tuples (A:=A) (s:=s) t1 t2 hu0 he;rw [l1,l2,z] at z1 z2;exact refs (show u=Value.ref p from rx) (show v=Value.ref q from ry) z1 z2
   | non =>
    cases h;cases (show u=Value.ref p from rx)
    cases (show v=Value.none from ry)
    obtain ⟨its,r1,t1,_⟩:=I.tuple hp;exact ⟨SeqAt.RcAt.tuple_none t1 hu0,SeqAt.RcNeAt.tuple_none t1 hu0,qa (SeqAt.RcAt.tuple_none t1 hu0)⟩
   | _=>cases h
  | @lst p vs as hp rp =>
   cases rb with
   | @lst q ws bs hq rq=>exact lists (show u=Value.ref p from rx) (show v=Value.ref q from ry) (SqL.of hp) (SqL.of hq) rp rq h
   | @seq q ws bs hq rq=>exact lists (show u=Value.ref p from rx) (show v=Value.ref q from ry) (SqL.of hp) hq rp rq h
   | non =>
    cases h;cases (show u=Value.ref p from rx)
    cases (show v=Value.none from ry)
    obtain ⟨its,r1,t1,_⟩:=I.list (SqL.of (K:=X.K) hp);exact ⟨SeqAt.RcAt.list_none t1.isList hu0,SeqAt.RcNeAt.list_none t1.isList hu0,qa (SeqAt.RcAt.list_none t1.isList hu0)⟩
   | _=>cases h
  | @seq p vs as hp rp =>
   cases rb with
   | @lst q ws bs hq rq=>exact lists (show u=Value.ref p from rx) (show v=Value.ref q from ry) hp (SqL.of hq) rp rq h
   | @seq q ws bs hq rq=>exact lists (show u=Value.ref p from rx) (show v=Value.ref q from ry) hp hq rp rq h
   | non =>
    cases h;cases (show u=Value.ref p from rx)
    cases (show v=Value.none from ry)
    obtain ⟨its,r1,t1,_⟩:=I.list hp;exact ⟨SeqAt.RcAt.list_none t1.isList hu0,SeqAt.RcNeAt.list_none t1.isList hu0,qa (SeqAt.RcAt.list_none t1.isList hu0)⟩
   | _=>cases h
  | bl x=>cases rb <;> first | exact flatC h | cases h
  | int x=>cases rb <;> first | exact flatC h | cases h
  | str x=>cases rb <;> first | exact flatC h | cases h
  | ty x=>cases rb <;> first | exact flatC h | cases h
  | dct h1=>cases rb <;> first | exact flatC h | cases h
  | exc h1=>cases rb <;> first | exact flatC h | cases h
  | cls C=>cases rb <;> first | exact flatC h | cases h
  | ms=>cases rb <;> first | exact flatC h | cases h
  | mf=>cases rb <;> first | exact flatC h | cases h
  | md=>cases rb <;> first | exact flatC h | cases h
end
def dg (a b:D):Option D:=(eqN 6 a b).map D.bl
def cf (a b:D):Option D:=(eqN 6 a b).map fun c=>D.bl (!c)
def EF (K:Zr):R2:=fun x y H Q=>∃ a b c,Rep K H x a/\Rep K H y b/\eqN 6 a b=some c/\Q (.bl c) H
def EA (K:Zr):R2:=fun x y H Q=>∃ a b c,Rep K H x a/\Rep K H y b/\eqN 6 a b=some c/\Q (.bl (!c)) H
section
variable {X:Cx} {a b:Expr} {fa fb:FD} {pos:Pos}
theorem yH (hu:X.A.units+64 < cLine):OpR X (compareOp .Eq) (EF X.K):=by
 intro pins s σ H x y v u Q I rx ry ⟨a,b,c,ra,rb,e,q⟩;exact (rS I 6 X.A (by omega) rx ry ra rb e).1 X.prog X.w _ _ ⟨.bl c,H,I,rfl,q⟩
theorem yF (hu:X.A.units+64 < cLine):OpR X (compareOp .NotEq) (EA X.K):=by
 intro pins s σ H x y v u Q I rx ry ⟨a,b,c,ra,rb,e,q⟩;exact (rS I 6 X.A (by omega) rx ry ra rb e).2.1 X.prog X.w _ _ ⟨.bl (!c),H,I,rfl,q⟩
theorem xS {K:Zr}:R2D K (EF K) dg:=by
 intro x y H Q a b d ra rb e k;unfold dg at e;obtain ⟨c,hc,e⟩:=Zb.mp e;cases e;exact ⟨a,b,c,ra,rb,hc,k _ H (Same.refl H) (.bl _)⟩
theorem xR {K:Zr}:R2D K (EA K) cf:=by
 intro x y H Q a b d ra rb e k;unfold cf at e;obtain ⟨c,hc,e⟩:=Zb.mp e;cases e;exact ⟨a,b,c,ra,rb,hc,k _ H (Same.refl H) (.bl _)⟩
theorem yx (hu:X.A.units+64 < cLine) (ha:PD X a fa) (hb:PD X b fb):PD X (.Compare a [.Eq] [b] pos) (f2 dg fa fb):=pA (yH hu) xS ha hb (dD _)
theorem C9 (hu:X.A.units+64 < cLine) (ha:PD X a fa) (hb:PD X b fb):PD X (.Compare a [.NotEq] [b] pos) (f2 cf fa fb):=pA (yF hu) xR ha hb (dD _)
theorem jG (hu:X.A.units+64 < cLine) (ha:PD X a fa) (hb:PD X b fb):PTD X (.Compare a [.Eq] [b] pos) (fT (f2 dg fa fb)):=dQ (yH hu) xS ha hb (dD _)
theorem iq (hu:X.A.units+64 < cLine) (ha:PD X a fa) (hb:PD X b fb):PTD X (.Compare a [.NotEq] [b] pos) (fT (f2 cf fa fb)):=dQ (yF hu) xR ha hb (dD _)
end
end Dl
namespace Dl
open PySem PySem.Spec PyProof.Rows L2
section
open PySem.SeqAt
open PySem.AutoSeq1 (wpAny_loadPart')
open PySem.MeetsSeq PySem.MeetsSeq2 PySem.MeetsSeq3
end
section
variable {X:Cx} {a b:Expr} {fa fb:FD} {pos:Pos}
end
def zj:D->Option Bool
 | .lst _=>some true
 | .seq _=>some true
 | .ty _=>none
 | .exc _=>none
 | .cls _=>none
 | .ms _ _=>none
 | .mf _ _=>none
 | .md _ _=>none
 | _=>some false
theorem yK (d:D) (b:Bool) (h:zj d=some b):oH "list" d b:=by
 cases d <;> (first | cases h) <;> first
  | exact ⟨_,rfl,fun K=>pM _ K⟩
  | exact ⟨_,rfl,fun K=>by kernel_rfl⟩
theorem pvi {X:Cx} (i:Nat) {x:Str} {pos:Pos} (hN:X.N[i]? = some x:=by rfl) (hv:Vis X.env.scope x:=by first | exact Or.inl rfl | exact Or.inr (Or.inl rfl) | exact Or.inr (Or.inr rfl)) (hd:(x == ("__debug__":Str))=false:=by decide)
 (hcd:(x == ("__classdict__":Str))=false:=by decide):PE X (.Name x pos) (we i):=ja hN hv hd hcd
end Dl
namespace Dl
open PySem PySem.Spec PyProof.Rows L2
section
variable {X:Cx} {pos:Pos} {r:Nat} {c e:Expr} {f:FD} {g:List D->Option (List D)} {rest:List Stmt}
end
end Dl
namespace Dl
open PySem PySem.Spec PyProof.Rows L2
theorem CompOk.nil {X:Cx} {scope:Scope} {x:Str} (clos:closureFor scope X.env=pure []:=by rfl) (nocell:∀ y∈scope.names,y.2 ≠ .cell:=by decide +kernel) (kind:scope.kind=.function:=by rfl)
 (names:∀ y∈scope.names,y.2=.local->scope.names.lookup y.1=some .local:=by decide +kernel) (hx:scope.names.lookup x=some .local:=by rfl) (hfr:∀ p∈scope.names,p.2 ≠ .free:=by decide +kernel):CompOk X scope [] x [x] [] where
 clos:=clos
 nocell:=nocell
 kind:=kind
 names:=names
 hx:=hx
 nd:=by simp
 h0:=rfl
 len:=rfl
 clx:=rfl
 cls:=fun y a h=>by cases h
 has:=fun y h=>by
  have key:∀ k,(k=NameKind.cell \/ k=NameKind.free)->(relabel scope X.env).names.lookup y=some k->False:=fun k hk h=>by
   have m:=PySem.mem_of_lookup h;unfold relabel at m;obtain ⟨⟨n,k'⟩,m1,m2⟩:=Zl.mp m;dsimp only at m2;refine hfr _ m1 ?_;show k'=NameKind.free;split at m2
   . rename_i hc;rw [ZI,ZI] at hc;exact beq_iff_eq.mp hc.1.1
   . have e:k'=k:=congrArg Prod.snd m2;rcases hk with z1 | z1
     . exact absurd (e.trans z1) (nocell _ m1)
     . exact e.trans z1
  rcases h with h | h
  . exact (key _ (.inl rfl) h).elim
  . exact (key _ (.inr rfl) h).elim
 fr:=fun i y k h1 h2=>by simp at h2
end Dl
namespace Dl
open PySem PySem.Spec PyProof.Rows L2
def gM:List Nat->TGs
 | []=>Fa
 | i :: is=>Cd (vB i) (gM is)
def sU:List Nat->List D->DS->DS
 | i :: is,d :: ds,δ=>sU is ds (δ.set i (some d))
 | _,_,δ=>δ
def vn (is:List Nat) (n:Nat):Bool:=is.all fun i=>decide (i < n)
theorem lN {K:Zr} {F H:Hp}:∀ {vs:List V} {ds:List D},Reps K H vs ds->cT ds=true->RepOs K F H vs ds []
 | _,_,.nil,_=>.nil
 | _,_,.cons r t,i=>by
  rw [cT,ZI] at i;exact .cons (.imm i.1 r) (lN t i.2) rfl
theorem RepO.parts {K:Zr} {F H:Hp} {v:V} {ds:List D} {A:List Addr} (r:RepO K F H v (.tup ds) A):∃ a vs,v=.ref a/\SqT K H a vs/\RepOs K F H vs ds A:=by
 cases r with
 | imm i h =>
  cases h with
  | tup h r=>exact ⟨_,_,rfl,h,lN r (by rw [Dl.imm] at i;exact i)⟩
 | tup h r=>exact ⟨_,_,rfl,h,r⟩
theorem RepOs.len {K:Zr} {F H:Hp}:∀ {vs:List V} {ds:List D} {A:List Addr},RepOs K F H vs ds A->vs.length=ds.length
 | _,_,_,.nil=>rfl
 | _,_,_,.cons _ t _=>by rw [Zh,Zh,RepOs.len t]
theorem qW {K:Zr} {F H:Hp}:∀ (is:List Nat) {vs:List V} {ds:List D} {A:List Addr} {σ:L2.St} {δ:DS} {As:Nat->List Addr} {Q:L2.St->Hp->Prop},RepOs K F H vs ds A->A.Nodup->(∀ j a,a∈As j->a ∉ A)->RepA K F H σ δ As->ds.length=is.length->vn is δ.length=true->(∀ σ',cU K F H σ' (sU is ds δ)->Q σ' H)->gM is vs σ H Q
 | [],_,_,_,σ,δ,As,Q,.nil,_,_,R,_,_,k=>⟨rfl,k σ ⟨As,R⟩⟩
 | [],_,_,_,_,_,_,_,.cons _ _ _,_,_,_,l,_,_=>by cases l
 | _ :: _,_,_,_,_,_,_,_,.nil,_,_,_,l,_,_=>by cases l
 | i :: is,_,_,_,σ,δ,As,Q,.cons (v:=v) (d:=d) (vs:=vs) (ds:=ds) (A:=A) (B:=B) r t e,nd,dj,R,l,hi,k=>by
  subst e;have hi':(decide (i < δ.length) && vn is δ.length)=true:=hi;rw [ZI] at hi';have h1:i < δ.length:=of_decide_eq_true hi'.1;rw [List.nodup_append] at nd;have R1:=R.set i h1 r nd.1 fun j a _ m z=>dj j a m (List.mem_append_left _ z)
  refine ⟨v,vs,rfl,?_⟩;show gM is vs (σ.set i (some v)) H Q;refine qW is t nd.2.1 (fun j a m z=>?_) R1 (by simpa using l) (by rw [List.length_set];exact hi'.2) k
  unfold ib at m
  by_cases hj:j=i
  . rw [if_pos hj] at m;exact nd.2.2 a m a z rfl
  . rw [if_neg hj] at m;exact dj j a m (Zu _ z)
def wo (is:List Nat) (fm:FM):SD:=fun δ=>(fm δ).bind fun p=>match p.1 with
 | .tup ds=>if ds.length=is.length/\vn is p.2.length=true then some (.nx (sU is ds p.2)) else none
 | _=>none
theorem pgN {X:Cx} (i:Nat) {x:Str} {pos:Pos} (hN:X.N.Nodup) (hi:X.N[i]? = some x:=by rfl) (hx:Loc X.env.scope x:=by first | exact Or.inl rfl | exact Or.inr rfl) (hf:X.fn x=true \/ X.env.scope.names.lookup x=some .local:=by first | exact .inl rfl | exact .inr rfl | assumption):PG X (.Name x pos) (vB i):=eN hN hi hx hf
end Dl
namespace Dl
open PySem PySem.Spec PyProof.Rows L2
theorem vf {y z u:Str} {c e a:Addr} (h:List.lookup y [(z,c),(u,e)]=some a):(y=z/\c=a) \/ (y=u/\e=a):=by
 by_cases hy:y=z
 . subst hy;simp at h;exact .inl ⟨rfl,h⟩
 . have q:(y == z)=false:=beq_eq_false_iff_ne.mpr hy;rw [List.lookup_cons,q] at h
   by_cases hu:y=u
   . subst hu;simp at h;exact .inr ⟨rfl,h⟩
   . have q2:(y == u)=false:=beq_eq_false_iff_ne.mpr hu;rw [List.lookup_cons,q2] at h;cases h
theorem k4 {z u:Str} {c e:Addr}:List.lookup z [(z,c),(u,e)]=some c:=by simp
theorem kZ {z u:Str} {c e:Addr} (h:z ≠ u):List.lookup u [(z,c),(u,e)]=some e:=by
 have q:(u == z)=false:=beq_eq_false_iff_ne.mpr h.symm;rw [List.lookup_cons,q];simp
theorem pW {X:Cx} {scope:Scope} {y:Str} (nocell:∀ y∈scope.names,y.2 ≠ .cell) (h:(relabel scope X.env).names.lookup y=some .cell \/ (relabel scope X.env).names.lookup y=some .free):∃ p∈scope.names,p.2=.free/\p.1=y:=by
 have key:∀ k,(k=NameKind.cell \/ k=NameKind.free)->(relabel scope X.env).names.lookup y=some k->∃ p∈scope.names,p.2=.free/\p.1=y:=fun k hk h=>by
  have m:=PySem.mem_of_lookup h;unfold relabel at m;obtain ⟨⟨n,k'⟩,m1,m2⟩:=Zl.mp m;dsimp only at m2;refine ⟨_,m1,?_,?_⟩
  . show k'=NameKind.free;split at m2
    . rename_i hc;rw [ZI,ZI] at hc;exact beq_iff_eq.mp hc.1.1
    . have e:k'=k:=congrArg Prod.snd m2;rcases hk with z1 | z1
      . exact absurd (e.trans z1) (nocell _ m1)
      . exact e.trans z1
  . show n=y;split at m2 <;> exact congrArg Prod.fst m2
 rcases h with h | h
 . exact key _ (.inl rfl) h
 . exact key _ (.inr rfl) h
theorem CompOk.two {X:Cx} {scope:Scope} {c e:Addr} {x z u:Str} {j k:Nat} (clos:closureFor scope X.env=pure [(z,c),(u,e)]:=by rfl) (nocell:∀ y∈scope.names,y.2 ≠ .cell:=by decide +kernel) (kind:scope.kind=.function:=by rfl)
 (names:∀ y∈scope.names,y.2=.local->scope.names.lookup y.1=some .local:=by decide +kernel) (hx:scope.names.lookup x=some .local:=by rfl) (hne:x ≠ z:=by decide +kernel) (hne':x ≠ u:=by decide +kernel) (hzu:z ≠ u:=by decide +kernel) (hcell:X.env.cells.lookup z=some c:=by rfl) (hcell':X.env.cells.lookup u=some e:=by rfl)
 (hfr:∀ p∈scope.names,p.2=.free->p.1=z \/ p.1=u:=by decide +kernel) (hj:X.N[j]? = some z:=by rfl) (hJ:X.N[k]? = some u:=by rfl) (hk:X.env.scope.names.lookup z=some .cell:=by rfl) (hk':(relabel scope X.env).names.lookup z=some .cell:=by rfl) (hu:X.env.scope.names.lookup u=some .cell:=by rfl) (hu':(relabel scope X.env).names.lookup u=some .cell:=by rfl):CompOk X scope [(z,c),(u,e)] x [x,z,u] [j,k] where
 clos:=clos
 nocell:=nocell
 kind:=kind
 names:=names
 hx:=hx
 nd:=by simp [hne,hne',hzu]
 h0:=rfl
 len:=rfl
 clx:=by
  cases q:List.lookup x [(z,c),(u,e)] with
  | none=>rfl
  | some a=>rcases vf q with ⟨h,_⟩ | ⟨h,_⟩ <;> exact absurd h (by assumption)
 cls:=fun y a h=>by
  rcases vf h with ⟨rfl,rfl⟩ | ⟨rfl,rfl⟩
  . exact hcell
  . exact hcell'
 has:=fun y h=>by
  obtain ⟨p,m,f,rfl⟩:=pW nocell h;rcases hfr p m f with q | q
  . exact ⟨c,by rw [q];exact k4⟩
  . exact ⟨e,by rw [q];exact kZ hzu⟩
 fr:=fun i y l h1 h2=>by
  match i with
  | 0 =>
   have e1:z=y:=Zy h1;have e2:j=l:=Zy h2;subst e1 e2;refine ⟨hj,hk,hk',fun a ha=>?_⟩
   rw [hcell] at ha;cases ha;exact k4
  | 1 =>
   have e1:u=y:=Zy h1;have e2:k=l:=Zy h2;subst e1 e2;refine ⟨hJ,hu,hu',fun a ha=>?_⟩
   rw [hcell'] at ha;cases ha;exact kZ hzu
  | i+2=>cases h2
theorem CompOk.swp {X:Cx} {scope:Scope} {c e:Addr} {x z u:Str} {j k:Nat} (clos:closureFor scope X.env=pure [(u,e),(z,c)]:=by rfl) (nocell:∀ y∈scope.names,y.2 ≠ .cell:=by decide +kernel) (kind:scope.kind=.function:=by rfl)
 (names:∀ y∈scope.names,y.2=.local->scope.names.lookup y.1=some .local:=by decide +kernel) (hx:scope.names.lookup x=some .local:=by rfl) (hne:x ≠ z:=by decide +kernel) (hne':x ≠ u:=by decide +kernel) (hzu:u ≠ z:=by decide +kernel) (hcell:X.env.cells.lookup z=some c:=by rfl) (hcell':X.env.cells.lookup u=some e:=by rfl)
 (hfr:∀ p∈scope.names,p.2=.free->p.1=z \/ p.1=u:=by decide +kernel) (hj:X.N[j]? = some z:=by rfl) (hJ:X.N[k]? = some u:=by rfl) (hk:X.env.scope.names.lookup z=some .cell:=by rfl) (hk':(relabel scope X.env).names.lookup z=some .cell:=by rfl) (hu:X.env.scope.names.lookup u=some .cell:=by rfl) (hu':(relabel scope X.env).names.lookup u=some .cell:=by rfl):CompOk X scope [(u,e),(z,c)] x [x,z,u] [j,k] where
 clos:=clos
 nocell:=nocell
 kind:=kind
 names:=names
 hx:=hx
 nd:=by simp [hne,hne',hzu.symm]
 h0:=rfl
 len:=rfl
 clx:=by
  cases q:List.lookup x [(u,e),(z,c)] with
  | none=>rfl
  | some a=>rcases vf q with ⟨h,_⟩ | ⟨h,_⟩ <;> exact absurd h (by assumption)
 cls:=fun y a h=>by
  rcases vf h with ⟨rfl,rfl⟩ | ⟨rfl,rfl⟩
  . exact hcell'
  . exact hcell
 has:=fun y h=>by
  obtain ⟨p,m,f,rfl⟩:=pW nocell h;rcases hfr p m f with q | q
  . exact ⟨c,by rw [q];exact kZ hzu⟩
  . exact ⟨e,by rw [q];exact k4⟩
 fr:=fun i y l h1 h2=>by
  match i with
  | 0 =>
   have e1:z=y:=Zy h1;have e2:j=l:=Zy h2;subst e1 e2;refine ⟨hj,hk,hk',fun a ha=>?_⟩
   rw [hcell] at ha;cases ha;exact kZ hzu
  | 1 =>
   have e1:u=y:=Zy h1;have e2:k=l:=Zy h2;subst e1 e2;refine ⟨hJ,hu,hu',fun a ha=>?_⟩
   rw [hcell'] at ha;cases ha;exact k4
  | i+2=>cases h2
end Dl
namespace Dl
open PySem PySem.Spec PyProof.Rows L2
end Dl
namespace Dl
open PySem PySem.Spec PyProof.Rows L2
def oJ (i j:Int):Prop:=(Bd i/\Bd j) \/ L2.CMul i j
instance (i j:Int):Decidable (oJ i j):=by unfold oJ L2.CMul;exact inferInstance
theorem AS {X:Cx}:OpR X (binaryOp .Mult) (rI oJ fun i j=>.int (i*j)):=opI fun _ _ _ _ _ _ _ hc q=>by
 rcases hc with hc | hc
 . exact mul_int q (.of_bits hc.1.bits hc.2.bits)
 . exact mul_int q hc.ok
theorem AM {X:Cx} {a b:Expr} {fa fb:FD} {pos:Pos} (ha:PD X a fa) (hb:PD X b fb):PD X (.BinOp a .Mult b pos) (f2 (gI oJ fun i j=>.int (i*j)) fa fb):=lY AS (xU fun _ _ _=>.int _) ha hb
def cM:D->Option (List D)
 | .tup ds=>some ds
 | .lst ds=>some ds
 | .seq ds=>some ds
 | _=>none
def cO:List D->Option (List Bool)
 | []=>some []
 | .bl b :: ds=>(cO ds).bind fun bs=>some (b :: bs)
 | _ :: _=>none
def z5:List D->Option (List D)
 | [.lst ds]=>some ds
 | [.seq ds]=>some ds
 | _=>none
def wU (as:List D):Option D:=(z5 as).bind fun ds=>(cO ds).bind fun bs=>some (.bl (bs.all id))
def Bp (as:List D):Option D:=(z5 as).bind fun ds=>(cO ds).bind fun bs=>some (.bl (bs.any id))
theorem i6 {K:Zr} {H:Hp}:∀ {vs:List V} {ds:List D} {bs:List Bool},Reps K H vs ds->cO ds=some bs->vs=bs.map V.bl
 | _,_,_,.nil,h=>by cases h;rfl
 | v :: vs,d :: ds,bs,.cons r t,h=>by
  cases d with
  | bl b =>
   obtain ⟨cs,h1,h2⟩:=Za.mp (show ((cO ds).bind fun bs=>some (b :: bs))=some bs from h)
   cases h2;cases r;rw [i6 t h1];rfl
  | _=>cases h
theorem iW:∀ {bs:List Bool} {us:List Value},Vals (bs.map V.bl) us->LSm.BoolsAre us bs
 | [],_,.nil=>.nil
 | b :: bs,u :: us,.cons r t=>by
  have e:u=.bool b:=r;subst e;exact .cons b (iW t)
theorem zX {X:Cx} (hc:X.calm=true):cW X (.builtin "all") (fun xs H Q=>∃ p ys,∃ bs:List Bool,xs=[.ref p]/\SqL X.K H p ys/\ys=bs.map V.bl/\Q (.bl (bs.all id)) H):=by
 intro pins s σ H xs us Q I r h;obtain ⟨p,ys,bs,rfl,hq,rfl,q⟩:=h;obtain ⟨u,rfl,rx⟩:=fq r;cases rx;obtain ⟨its,r',pl,hz⟩:=I.list hq;have hb:=iW r';have hlt:p < s.heap.objs.size:=by obtain ⟨_,e,_⟩:=pl.isList;exact Heap.lt_size e
 refine call_all_walk (wpAny_pyIter_list pl.isList ?_);refine ⟨s.heap.objs.size,[s.heap.objs.size,p],[s.heap.objs.size],its.toArray.size,_,_,fun i=>(bs[i]?).getD true,rfl,Walks.list (A:=X.A.in1) (I.ok.hd hc) _ p (ZA hlt) its.toArray,
  ⟨⟨_,Heap.get?_push_size _ rfl,rfl,rfl⟩,pl.isList.push _⟩,fun i v s' Q' E' hP hQ=>?_,fun h' tk hk=>?_⟩
 . obtain ⟨b,e,rfl⟩:=hb.get i v (by simpa using hP)
   simp only [e,Option.getD_some] at hQ;exact wpAny_truthy_bool hQ
 . have e:((List.range its.toArray.size).all fun i=>(bs[i]?).getD true)=bs.all id:=by
    rw [Zx,hb.length];exact LSm.range_all bs
   rw [e];exact ⟨.bl _,H,I.kept (t':=tk) (LSm.kept_iter hk),rfl,q⟩
theorem mW {X:Cx} (hc:X.calm=true):cW X (.builtin "any") (fun xs H Q=>∃ p ys,∃ bs:List Bool,xs=[.ref p]/\SqL X.K H p ys/\ys=bs.map V.bl/\Q (.bl (bs.any id)) H):=by
 intro pins s σ H xs us Q I r h;obtain ⟨p,ys,bs,rfl,hq,rfl,q⟩:=h;obtain ⟨u,rfl,rx⟩:=fq r;cases rx;obtain ⟨its,r',pl,hz⟩:=I.list hq;have hb:=iW r';have hlt:p < s.heap.objs.size:=by obtain ⟨_,e,_⟩:=pl.isList;exact Heap.lt_size e
 refine call_any_walk (wpAny_pyIter_list pl.isList ?_);refine ⟨s.heap.objs.size,[s.heap.objs.size,p],[s.heap.objs.size],its.toArray.size,_,_,fun i=>(bs[i]?).getD false,rfl,Walks.list (A:=X.A.in1) (I.ok.hd hc) _ p (ZA hlt) its.toArray,
  ⟨⟨_,Heap.get?_push_size _ rfl,rfl,rfl⟩,pl.isList.push _⟩,fun i v s' Q' E' hP hQ=>?_,fun h' tk hk=>?_⟩
 . obtain ⟨b,e,rfl⟩:=hb.get i v (by simpa using hP)
   simp only [e,Option.getD_some] at hQ;exact wpAny_truthy_bool hQ
 . have e:((List.range its.toArray.size).any fun i=>(bs[i]?).getD false)=bs.any id:=by
    rw [Zx,hb.length];exact LSm.range_any bs
   rw [e];exact ⟨.bl _,H,I.kept (t':=tk) (LSm.kept_iter hk),rfl,q⟩
theorem mY {K:Zr} {H:Hp} {xs:List V} {as ds:List D} (r:Reps K H xs as) (e:z5 as=some ds):∃ p ys,xs=[.ref p]/\SqL K H p ys/\Reps K H ys ds:=by
 unfold z5 at e;split at e
 . cases e;obtain ⟨x,rfl,rx⟩:=fF r;cases rx with
   | @lst p vs _ hp rp=>exact ⟨p,vs,rfl,SqL.of hp,rp⟩
 . cases e;obtain ⟨x,rfl,rx⟩:=fF r;cases rx with
   | @seq p vs _ hp rp=>exact ⟨p,vs,rfl,hp,rp⟩
 . cases e
theorem DR {K:Zr}:gG K (fun xs H Q=>∃ p ys,∃ bs:List Bool,xs=[.ref p]/\SqL K H p ys/\ys=bs.map V.bl/\Q (.bl (bs.all id)) H) wU:=by
 intro xs H Q as d r e k;unfold wU at e;obtain ⟨ds,e1,e⟩:=Za.mp e;obtain ⟨bs,e2,e⟩:=Za.mp e;cases e;obtain ⟨p,ys,h1,h2,h3⟩:=mY r e1;exact ⟨p,ys,bs,h1,h2,i6 h3 e2,k _ H (Same.refl H) (.bl _)⟩
theorem t8 {K:Zr}:gG K (fun xs H Q=>∃ p ys,∃ bs:List Bool,xs=[.ref p]/\SqL K H p ys/\ys=bs.map V.bl/\Q (.bl (bs.any id)) H) Bp:=by
 intro xs H Q as d r e k;unfold Bp at e;obtain ⟨ds,e1,e⟩:=Za.mp e;obtain ⟨bs,e2,e⟩:=Za.mp e;cases e;obtain ⟨p,ys,h1,h2,h3⟩:=mY r e1;exact ⟨p,ys,bs,h1,h2,i6 h3 e2,k _ H (Same.refl H) (.bl _)⟩
theorem xh:bootBuiltins "all" = some (.builtin "all"):=by decide +kernel
theorem j8:bootBuiltins "any" = some (.builtin "any"):=by decide +kernel
end Dl
namespace Dl
open PySem PySem.Spec PyProof.Rows L2
def asT:D->Option (List D)
 | .tup ds=>some ds
 | _=>none
theorem lM {K:Zr} {H H':Hp} (s:Same H H') {a:Addr} {vs:List V} (h:SqT K H a vs):SqT K H' a vs:=jr (aO s) h
theorem DD {K:Zr} {H1:Hp} {a:Addr} {vs:List V} {ds:List D} (hq:SqT K H1 a vs) (r:Reps K H1 vs ds):ItD K (Itt K a) H1 ds:=by
 intro i H2 s;have hq2:=lM s hq;have r2:=r.mono s;have hl:=r2.length;refine ⟨fun hi=>⟨⟨vs,vs[i],hq2,by simp [show i < vs.length by omega]⟩,fun x H' y=>?_⟩,fun hi=>⟨vs,hq2,by omega⟩⟩
 obtain ⟨e,y⟩:=y;subst e;obtain ⟨d,h1,h2⟩:=r2.getV (y vs hq2);exact ⟨Same.refl _,d,h1,h2⟩
theorem kW {X:Cx} {tg l:Expr} {f:FD} (hl:PD X l f):PID X tg l (fun δ=>(f δ).bind asT):=rH (C0 hl) fun σ H R ⟨δ,ds,R0,e,k⟩=>by
 obtain ⟨d,ed,e⟩:=Za.mp e;refine ⟨δ,d,R0,ed,fun v H1 s1 r1=>?_⟩
 cases r1 with
 | @tup p vs es hp rp=>cases e;exact ⟨p,rfl,⟨vs,hp⟩,k _ H1 s1 (DD hp rp)⟩
 | _=>cases e
end Dl
namespace Dl
open PySem PySem.Spec PyProof.Rows L2
end Dl
namespace Dl
open PySem PySem.Spec PyProof.Rows L2
end Dl
namespace Dl
open PySem PySem.Spec PyProof.Rows L2
structure CompG (X:Cx) (scope:Scope) (cl:List (Str×Addr)) (T N:List Str) (js:List Nat):Prop where
 clos:closureFor scope X.env=pure cl
 nocell:∀ y∈scope.names,y.2 ≠ .cell
 kind:scope.kind=.function
 names:∀ y∈scope.names,y.2=.local->scope.names.lookup y.1=some .local
 nd:N.Nodup
 len:N.length=T.length+js.length
 clx:∀ y,T.contains y=true->cl.lookup y=none
 cls:∀ y c,cl.lookup y=some c->X.env.cells.lookup y=some c
 has:∀ y,((relabel scope X.env).names.lookup y=some .cell \/ (relabel scope X.env).names.lookup y=some .free)->∃ c,cl.lookup y=some c
 fr:∀ i y j,N[T.length+i]? = some y->js[i]? = some j->X.N[j]? = some y/\X.env.scope.names.lookup y=some .cell/\(relabel scope X.env).names.lookup y=some .cell/\∀ c,X.env.cells.lookup y=some c->cl.lookup y=some c
abbrev br (X:Cx) (scope:Scope) (cl:List (Str×Addr)) (T N:List Str) (C:Addr) (s₂:Shared) (H₂:Hp) (fp:List Addr) (pn:List (Addr×Obj)):Cx :=
 { X with env:=compEnvC scope cl C X.env,N:=N,s₀:=s₂,H₀:=H₂,outer:=X.stack,stack:=X.stack,ex:=fp,fn:=fun y=>T.contains y,calm:=true,pn:=pn,xe:=fun _ _=>False }
theorem jc {y:Str}:∀ {cl:List (Str×Addr)},y∈cl.map (·.1)->∃ c,cl.lookup y=some c
 | [],h=>by cases h
 | (z,c) :: cl,h=>by
  by_cases hy:y=z
  . subst hy;exact ⟨c,by simp⟩
  . have q:(y == z)=false:=beq_eq_false_iff_ne.mpr hy;rw [List.lookup_cons,q];refine jc ?_;rcases Zn.mp h with e | e
    . exact absurd e hy
    . exact e
theorem CompG.of {X:Cx} {scope:Scope} {cl:List (Str×Addr)} {T Z Y:List Str} {js:List Nat} (clos:closureFor scope X.env=pure cl:=by rfl) (hY:cl.map (·.1)=Y:=by rfl) (nocell:∀ y∈scope.names,y.2 ≠ .cell:=by decide +kernel) (kind:scope.kind=.function:=by rfl)
 (names:∀ y∈scope.names,y.2=.local->scope.names.lookup y.1=some .local:=by decide +kernel) (nd:(T++Z).Nodup:=by decide +kernel) (len:Z.length=js.length:=by rfl) (dis:∀ y∈T,y ∉ Y:=by decide +kernel)
 (hcl:∀ p∈cl,X.env.cells.lookup p.1=some p.2) (hfr:∀ p∈scope.names,p.2=.free->p.1∈Y:=by decide +kernel) (hZ:∀ y∈Z,y∈Y:=by decide +kernel)
 (hN:∀ (i:Nat) y j,Z[i]? = some y->js[i]? = some j->X.N[j]? = some y/\X.env.scope.names.lookup y=some .cell/\(relabel scope X.env).names.lookup y=some .cell):CompG X scope cl T (T++Z) js where
 clos:=clos
 nocell:=nocell
 kind:=kind
 names:=names
 nd:=nd
 len:=by rw [Zf,len]
 clx:=fun y hy=>by
  cases q:cl.lookup y with
  | none=>rfl
  | some c =>
   have m:y∈Y:=by
    rw [<- hY];exact Zl.mpr ⟨_,PySem.mem_of_lookup q,rfl⟩
   exact absurd m (dis y (List.contains_iff_mem.mp hy))
 cls:=fun y c h=>hcl _ (PySem.mem_of_lookup h)
 has:=fun y h=>by
  obtain ⟨p,m,f,rfl⟩:=pW nocell h;exact jc (by rw [hY];exact hfr p m f)
 fr:=fun i y j h1 h2=>by
  rw [ZE (Nat.le_add_right _ _),Nat.add_sub_cancel_left] at h1;obtain ⟨a,b,c⟩:=hN i y j h1 h2;refine ⟨a,b,c,fun e he=>?_⟩
  obtain ⟨e',he'⟩:=jc (cl:=cl) (y:=y) (by rw [hY];exact hZ y (ZF h1))
  have:=hcl _ (PySem.mem_of_lookup he');dsimp only at this;rw [he] at this;cases this;exact he'
def Ac (X:Cx) (ifs:List Expr) (f:FT):Prop:=∀ (pins:List (Addr×Obj)) (s:Shared) (σ:L2.St) (H:Hp) (Q:Bool->Hp->Prop),L2.Inv X pins σ H s->upT X.K f σ H Q ->
 wpAny (model X.prog X.w) X.A (forIn ifs true fun c r=>if r=true then do let ok <- isTrue c X.env (eval c X.env);pure (ForInStep.yield ok) else pure (ForInStep.yield r)) (TP X pins σ Q) X.xe s
theorem eM {X:Cx}:Ac X [] (fun _=>some true):=fun pins s σ H Q I ⟨δ,b,R,e,k⟩=>by
 cases e;exact wpAny_tests_nil ⟨H,I,k H (Same.refl H)⟩
theorem jI {X:Cx} {c:Expr} {f:FT} (h:PTD X c f):Ac X [c] f:=fun pins s σ H Q I q=>wpAny_tests_one (h pins s σ H Q I q)
def gDs (is:List Nat):D->DS->Option DS:=fun d δ=>match d with
 | .tup ds=>if ds.length=is.length then some (sU is ds δ) else none
 | _=>none
theorem yL {K:Zr} {H:Hp}:∀ (is:List Nat) {vs:List V} {ds:List D} {σ:L2.St} {δ:DS} {Q:L2.St->Hp->Prop},Reps K H vs ds->RepS K H σ δ->ds.length=is.length->(∀ σ',RepS K H σ' (sU is ds δ)->Q σ' H)->gM is vs σ H Q
 | [],_,_,σ,δ,Q,.nil,R,_,k=>⟨rfl,k σ R⟩
 | [],_,_,_,_,_,.cons _ _,_,l,_=>by cases l
 | _ :: _,_,_,_,_,_,.nil,_,l,_=>by cases l
 | i :: is,_,_,σ,δ,Q,.cons (v:=v) (vs:=vs) r t,R,l,k=>⟨v,vs,rfl,yL is t (R.set i r) (by simpa using l) k⟩
theorem cK {X:Cx} {es:List Expr} {k:Nat} {pos:Pos} (is:List Nat) (hg:PG X (.Tuple es k pos) (DH X.K is.length (gM is))):PGD X (.Tuple es k pos) (gDs is):=fun pins s σ H v u Q I r ⟨d,δ,δ',rv,R,e,q⟩=>by
 unfold gDs at e;split at e
 . rename_i ds;split at e
   . rename_i hl;cases e;cases rv with
     | tup hs rs=>exact hg pins s σ H _ u Q I r ⟨_,_,rfl,hs,rs.length.trans hl,yL is rs R hl q⟩
   . cases e
 . cases e
def BE (δ δ':DS):Prop:=δ'.length=δ.length/\∀ (i:Nat) d,δ[i]? = some (some d)->δ'[i]? = some (some d)
theorem RepS.weak {K:Zr} {H:Hp} {σ:L2.St} {δ δ':DS} (R:RepS K H σ δ') (w:BE δ δ'):RepS K H σ δ:=⟨R.len.trans w.1,fun i d q=>R.val i d (w.2 i d q)⟩
def eZ (n:Nat) (δ:DS):DS:=List.replicate n none++δ
theorem jW:∀ (is:List Nat) (ds:List D) {n:Nat} {δ0 δ:DS},(∀ i∈is,i < n)->BE (eZ n δ0) δ->BE (eZ n δ0) (sU is ds δ)
 | [],_,_,_,_,_,k=>k
 | _ :: _,[],_,_,_,_,k=>k
 | i :: is,d :: ds,n,δ0,δ,hi,k=>jW is ds (fun j m=>hi j (Zj _ m)) ⟨by rw [List.length_set];exact k.1,fun j e q=>by
  have hj:n<=j:=Nat.le_of_not_lt fun hlt=>by
   unfold eZ at q;rw [List.getElem?_append_left (by simpa using hlt),List.getElem?_replicate,if_pos hlt] at q
   cases q
  have:=hi i Zi;rw [List.getElem?_set_ne (by omega)]
  exact k.2 j e q⟩
def sC (n:Nat) (g:D->DS->Option DS):Prop:=∀ d δ0 δ1,g d (eZ n δ0)=some δ1->BE (eZ n δ0) δ1
theorem cN {n:Nat} (is:List Nat) (h:∀ i∈is,i < n):sC n (gDs is):=fun d δ0 δ1 e=>by
 unfold gDs at e;split at e
 . split at e
   . cases e;exact jW is _ h ⟨rfl,fun _ _ q=>q⟩
   . cases e
 . cases e
theorem iA {n:Nat} (i:Nat) (h:i < n):sC n (nw i):=fun d δ0 δ1 e=>by
 cases e;exact jW [i] [d] (fun j m=>by simp at m;subst m;exact h) ⟨rfl,fun _ _ q=>q⟩
def dR (f:D->Option (Option D)):List D->Option (List D)
 | []=>some []
 | d :: ds=>(f d).bind fun o=>(dR f ds).bind fun xs=>some (o.toList++xs)
theorem rh {f:D->Option (Option D)}:∀ {ds es:List D} {xs ys:List D},dR f ds=some xs->dR f es=some ys->dR f (ds++es)=some (xs++ys)
 | [],es,xs,ys,h,g=>by cases h;exact g
 | d :: ds,es,xs,ys,h,g=>by
  obtain ⟨o,eo,h⟩:=Za.mp (show ((f d).bind _)=some xs from h)
  obtain ⟨zs,ez,h⟩:=Za.mp h;cases h;show ((f d).bind _)=_;rw [eo];show ((dR f (ds++es)).bind _)=_;rw [rh ez g,List.append_assoc];rfl
theorem n6 {f:D->Option (Option D)}:∀ {ds xs:List D},dR f ds=some xs->∀ i,∃ ys,dR f (ds.take i)=some ys/\ys.length<=xs.length
 | [],xs,h,i=>⟨[],by simp [dR],Nat.zero_le _⟩
 | d :: ds,xs,h,0=>⟨[],rfl,Nat.zero_le _⟩
 | d :: ds,xs,h,i+1=>by
  obtain ⟨o,eo,h⟩:=Za.mp (show ((f d).bind _)=some xs from h)
  obtain ⟨zs,ez,h⟩:=Za.mp h;cases h;obtain ⟨ys,e,l⟩:=n6 ez i;refine ⟨o.toList++ys,?_,by simp;exact l⟩
  show ((f d).bind _)=_;rw [eo];show ((dR f (ds.take i)).bind _)=_;rw [e];rfl
theorem u9 {f:D->Option (Option D)}:∀ {ds xs:List D},dR f ds=some xs->∀ (i:Nat) d,ds[i]? = some d->∃ o,f d=some o
 | [],_,_,i,d,e=>by simp at e
 | d :: ds,xs,h,0,d',e=>by
  obtain ⟨o,eo,h⟩:=Za.mp (show ((f d).bind _)=some xs from h)
  simp at e;subst e;exact ⟨o,eo⟩
 | d :: ds,xs,h,i+1,d',e=>by
  obtain ⟨o,eo,h⟩:=Za.mp (show ((f d).bind _)=some xs from h)
  obtain ⟨zs,ez,h⟩:=Za.mp h;exact u9 ez i d' (by simpa using e)
def bR (n:Nat) (js:List Nat) (g:D->DS->Option DS) (fc:FT) (felt:FM) (δ:DS) (d:D):Option (Option D):=(g d (eZ n (aX js δ))).bind fun δ1=>(fc δ1).bind fun b=>if b then (ownOf felt (shO δ1)).map some else some none
def dX (src:FA) (n:Nat) (js:List Nat) (g:D->DS->Option DS) (fc:FT) (felt:FM):FM:=fun δ=>(src δ).bind fun ds=>(dR (bR n js g fc felt δ) ds).bind fun xs=>if xs.length<=1000 then some (.lst xs,δ) else none
theorem mU {prog:Program} {w:World} {A:Around} {R:Result->Shared->Prop} {s:Shared} {elt target iter:Expr} {ifs:List Expr} {scope:Scope} {pos:Pos} {it acc:Value} {env:Env} (J:Nat->Shared->Prop)
 (turn:∀ n s,J n s->wpAny (model prog w) A (pyNext it) (fun r s₁=>match r with
  | none=>R (.ok .next) s₁
  | some v=>wpAny (model prog w) A (letOwnedTupleGo target it v) (fun _ s₂=>wpAny (model prog w) A (assign target env v) (fun _ s₃ =>
   wpAny (model prog w) A (forIn ifs true fun c r=>if r=true then do let ok <- isTrue c env (eval c env);pure (ForInStep.yield ok) else pure (ForInStep.yield r)) (fun ok sT =>
   if ok=true then wpAny (model prog w) A (eval elt env) (fun y s₄ =>
   wpAny (model prog w) A (call (.builtin "list.append") [acc,y]) (fun _ s₅=>∃ m,m < n/\J m s₅) (fun _ _=>False) s₄) (fun _ _=>False) sT else ∃ m,m < n/\J m sT) (fun _ _=>False) s₃) (fun _ _=>False) s₂) (fun _ _=>False) s₁) (fun _ _=>False) s)
 (n:Nat) (h:J n s):codeAny (model prog w) A (.compLoop (.ListComp elt [⟨target,iter,ifs,0⟩] scope pos) 0 it acc env) R s:=by
 refine codeAny_loop rfl J (fun n s j=>wpAny_noted (m:=compTurn (.ListComp elt [⟨target,iter,ifs,0⟩] scope pos) 0 it acc env) (compTurn_list elt target iter ifs scope pos it acc env▸wpAny_bind (wpAny_standAt (bindF (turn n s j) fun r _ q=>?_)))) n h
 cases r with
 | none=>exact wpAny_pure q
 | some v=>
  exact bindF q fun _ _ q=>bindF q fun _ _ q=>bindF q fun b _ q=>by
   cases b with
   | false=>exact wpAny_pure ⟨rfl,q⟩
   | true=>exact wpAny_bind (bindF q fun _ _ q=>bindF q fun _ _ q=>wpAny_pure (wpAny_pure ⟨rfl,q⟩))
section
variable {X:Cx} {pins:List (Addr×Obj)} {σ:L2.St} {H₂:Hp} {s₂:Shared} {scope:Scope} {cl:List (Str×Addr)} {T N:List Str} {js:List Nat} {C:Addr} {fp:List Addr}
theorem t4 (I:L2.Inv X pins σ H₂ s₂) (hcm:X.calm=true) (O:CompG X scope cl T N js) (hC:s₂.heap.objs.size<=C) (hf:∀ b∈fp,fg X pins H₂ b) (ho:∀ b∈fp,∃ o,s₂.heap.get? b=some o):(br X scope cl T N C s₂ H₂ fp (X.pn++pins)).Ok where
 mod:=I.ok.mod
 kind:=O.kind
 glob:=I.ok.glob
 blt:=I.ok.blt
 above:=hC
 inj:=fun y z c h1 h2=>I.ok.inj y z c (O.cls y c h1) (O.cls z c h2)
 has:=fun y h=>O.has y h
 cab:=fun y c h1 h2=>by
  have:cl.lookup y=some c:=h2;rw [O.clx y h1] at this;cases this
 hd:=fun _=>I.ok.hd hcm
 frames:=I.ok.frames
 stk:=.inl rfl
 exf:=fun b hb=>by
  obtain ⟨o,e⟩:=ho b hb;refine ⟨ZA (Zt (Heap.lt_size e) hC),fun y c h z=>?_⟩
  exact (hf b hb).2.2.2.2.1 y c (O.cls y c h) z
 bs:=I.bs
 bsz:=Nat.le_trans I.ok.bsz I.sz
 noex:=fun b o e hb=>by
  rcases (hf b hb).2.2.2.1 with z | z
  . exact I.ok.noex b o e z
  . exact absurd (Zt (Heap.lt_size e) (Nat.le_trans I.ok.bsz z)) (ZB _)
 exfs:=fun b hb z=>by
  rcases Zn.mp (I.stkSub b z) with e | e
  . exact (hf b hb).2.1 e
  . exact (hf b hb).2.2.1 e
 funs:=I.stack
 frf:=I.stkFree
theorem sa {h₁:Heap} {m:Str->Option Value} {tk:Nat} (I:L2.Inv X pins σ H₂ s₂) (hcm:X.calm=true) (O:CompG X scope cl T N js) (hC:s₂.heap.objs.size<=C) (hf:∀ b∈fp,fg X pins H₂ b) (ho:∀ b∈fp,∃ o,s₂.heap.get? b=some o)
 (old:∀ b o,s₂.heap.get? b=some o->h₁.get? b=some o) (hns:h₁.Ns C m) (hl:σ.length=X.N.length):L2.Inv (br X scope cl T N C s₂ H₂ fp (X.pn++pins)) [] (List.replicate T.length none++bC js σ) H₂ { s₂ with heap:=h₁,toks:=tk } where
 ok:=t4 I hcm O hC hf ho
 os:=rfl
 bare:=I.bare
 base:=Un.kept old
 loc:=by
  refine ⟨m,hns,fun i y v h1 h2 h3=>?_⟩
  by_cases hi:i < T.length
  . rw [List.getElem?_append_left (by simpa using hi),List.getElem?_replicate,if_pos hi] at h2
    cases h2
  . obtain ⟨i,rfl⟩:∃ k,i=T.length+k:=⟨i - T.length,by omega⟩
    have h2':(bC js σ)[i]? = some (some v):=by
     rw [ZE (by simp)] at h2
     simpa using h2
    unfold bC at h2';rw [ZD] at h2';obtain ⟨j,hj,h4⟩:=Zb.mp h2';have h5:σ[j]? = some (some v):=by
     cases q:σ[j]? with
     | none=>rw [q] at h4;cases h4
     | some o=>rw [q] at h4;exact congrArg some h4
    obtain ⟨f1,f2,f3,f4⟩:=O.fr i y j h1 hj;obtain ⟨m',hn',hl'⟩:=I.loc;obtain ⟨u,ru,lk⟩:=hl' j y v f1 h5 (.inr (.inl f2));refine ⟨u,ru,?_⟩;rcases lk with ⟨k1,_⟩ | ⟨_,c,hc,o,hco,hcd⟩
    . have:X.env.scope.names.lookup y=some .local:=k1;rw [f2] at this;cases this
    . exact .inr ⟨.inl f3,c,f4 c hc,o,old c o hco,hcd⟩
 cell:=fun y c e=>by
  obtain ⟨v,o,h1,h2⟩:=I.cell y c (O.cls y c e);exact ⟨v,o,old c o h1,h2⟩
 free:=I.hok.fresh hC
 freeC:=fun y c e=>I.freeC y c (O.cls y c e)
 pin:=fun p hp=>by
  have hp':p∈X.pn++pins:=by simpa using hp
  obtain ⟨h1,h2,h3,h4,h5⟩:=I.pin p hp';refine ⟨old _ _ h1,h2,ZA (Zt (Heap.lt_size h1) hC),fun z=>?_,h5⟩
  rcases Zn.mp (I.stkSub p.1 z) with e | e
  . exact h3 e
  . exact h4 e
 hok:=I.hok.kept old
 len:=by
  show (List.replicate T.length none++bC js σ).length=N.length;rw [O.len];simp [bC]
theorem sQ {K:Zr} {H:Hp} {σ:L2.St} {δ:DS} (R:RepS K H σ δ) (n:Nat) (js:List Nat):RepS K H (List.replicate n none++bC js σ) (eZ n (aX js δ)):=by
 refine ⟨by simp [bC,aX,eZ],fun i d q=>?_⟩
 unfold eZ at q
 by_cases hi:i < n
 . rw [List.getElem?_append_left (by simpa using hi),List.getElem?_replicate,if_pos hi] at q
   cases q
 . obtain ⟨k,rfl⟩:∃ k,i=n+k:=⟨i - n,by omega⟩
   rw [ZE (by simp)] at q ⊢
   have q':(none :: aX js δ)[k+1]? = some (some d):=by simpa using q
   obtain ⟨v,h1,h2⟩:=(jU R js).val (k+1) d q';exact ⟨v,by simpa using h1,h2⟩
theorem kC {elt tg iter:Expr} {ifs:List Expr} {pos:Pos} {it:Addr} {tn:Nat->Heap->Prop} {J:It} {ds xs:List D} {δ:DS} {g:D->DS->Option DS} {fc:FT} {felt:FM} {RR:Value->Addr->Result->Shared->Prop} {E:Value->Shared->Prop} (I:L2.Inv X pins σ H₂ s₂) (hcm:X.calm=true) (O:CompG X scope cl T N js)
 (TT:kK X.prog X.w X.K tg J fp it tn) (st:tn 0 s₂.heap) (hf:∀ b∈fp,fg X pins H₂ b) (itd:ItD X.K J H₂ ds) (R:RepS X.K H₂ σ δ) (hg:∀ C s₂ H₂ fp pn,PGD (br X scope cl T N C s₂ H₂ fp pn) tg g) (fl:sC T.length g) (hc:∀ C s₂ H₂ fp pn,Ac (br X scope cl T N C s₂ H₂ fp pn) ifs fc) (he:∀ C s₂ H₂ fp pn,PV (br X scope cl T N C s₂ H₂ fp pn) elt felt)
 (hm:dR (bR T.length js g fc felt δ) ds=some xs) (hz:xs.length<=1000)
 (hRR:∀ (D C:Addr) (s':Shared) (Hend:Hp) (vs:List V),s₂.heap.objs.size<=C->L2.Inv X pins σ Hend s'->Same H₂ Hend->Hend D=some (.lst vs)->(∃ Acc,RepOs X.K H₂ Hend vs xs Acc/\Acc.Nodup/\D ∉ Acc/\H₂ D=none)->(∃ m,s'.heap.Ns C m)->Hend C=none->RR (.ref D) C (.ok .next) s') :
 wpAny (model X.prog X.w) X.A (newList []) (fun acc s₃=>wpAny (model X.prog X.w) X.A (newFunctionEnv scope X.env.globals cl [] X.env.qual none .none (some X.env)) (fun cenv s₄ =>
  codeAny (model X.prog X.w) X.A (.compStart (.ListComp elt [⟨tg,iter,ifs,0⟩] scope pos) 0 (.ref it) acc { cenv with scope:=relabel scope X.env }) (RR acc cenv.locals) s₄) E s₃) E s₂:=by
 have objs:=TT.obj 0 s₂.heap st;have objs':∀ b∈fp,∃ o,s₂.heap.get? b=some o:=fun b hb=>let ⟨o,h,_⟩:=objs b hb;⟨o,h⟩
 refine wpAny_newObj_type (wpAny_newFunctionEnv O.nocell (by intro y hy;simp at hy) (fun h₁ hns₁ hsb₁=>?_) O.kind)
 dsimp only at hns₁ hsb₁ ⊢;generalize hP:s₂.heap.push { cls:=.type "list",dict:=none,data:=.seq ([]:List Value).toArray }=P2 at hns₁ hsb₁ ⊢;have hC:P2.objs.size=s₂.heap.objs.size+1:=by rw [<- hP,Heap.size_push]
 generalize hCC:P2.objs.size=C at *
 have hCle:s₂.heap.objs.size<=C:=by omega
 have hDle:s₂.heap.objs.size<=s₂.heap.objs.size:=by omega
 have hDC:s₂.heap.objs.size ≠ C:=by omega
 have old:∀ b o,s₂.heap.get? b=some o->h₁.get? b=some o:=fun b o e=>by
  refine hsb₁.extBut b o (ZA (Zt (Heap.lt_size e) hCle)) (Heap.get?_push_of_some _ ?_);rw [<- hP];exact Heap.get?_push_of_some _ e
 have hacc:h₁.get? s₂.heap.objs.size=some { cls:=.type "list",data:=.seq ([]:List Value).toArray }:=by
  refine hsb₁.extBut s₂.heap.objs.size _ hDC (Heap.get?_push_of_some _ ?_);rw [<- hP];exact Heap.get?_push_size _ rfl
 have I0:=fun tk=>sa (C:=C) (tk:=tk) I hcm O hCle hf objs' old hns₁ I.len
 have dstk:s₂.heap.objs.size ∉ frs X.stack:=eO I hDle;have fne:∀ b∈fp,b ≠ s₂.heap.objs.size:=fun b hb e=>by
  obtain ⟨o,h⟩:=objs' b hb;exact absurd (Heap.lt_size h) (by rw [e];exact ZB _)
 have cne:∀ y c,cl.lookup y=some c->c ≠ s₂.heap.objs.size:=fun y c e z=>by
  obtain ⟨v,o,h1,_⟩:=I.cell y c (O.cls y c e);exact absurd (Heap.lt_size h1) (by rw [z];exact ZB _)
 have pne:∀ p∈X.pn++pins,p.1 ≠ s₂.heap.objs.size:=fun p hp e=>by
  exact absurd (Heap.lt_size (I.pin p hp).1) (by rw [e];exact ZB _)
 have stat:∀ {H':Hp} {pl:List (Addr×Obj)},(∀ b∈fp,H' b=none)->(∀ p∈pl,∀ b∈fp,p.1 ≠ b)->∀ b∈fp,fg (br X scope cl T N C s₂ H₂ fp (X.pn++pins)) pl H' b:=fun {H' pl} hn hpl b hb=>by
  obtain ⟨o,h⟩:=objs' b hb;refine ⟨hn b hb,ZA (Zt (Heap.lt_size h) hCle),fun z=>?_,.inl hb,fun y c e=>(hf b hb).2.2.2.2.1 y c (O.cls y c e),fun p hp=>?_⟩
  . rcases Zn.mp (I.stkSub b z) with e | e
    . exact (hf b hb).2.1 e
    . exact (hf b hb).2.2.1 e
  . rcases Zm.mp hp with q | q
    . exact (hf b hb).2.2.2.2.2 p q
    . exact hpl p q b hb
 have loop:∀ s₃:Shared,s₃={ s₂ with heap:=h₁,toks:=s₂.toks+([]:List (Str×Value)).length } ->
  codeAny (model X.prog X.w) X.A (.compLoop (.ListComp elt [⟨tg,iter,ifs,0⟩] scope pos) 0 (.ref it) (.ref s₂.heap.objs.size) (compEnvC scope cl C X.env)) (RR (.ref s₂.heap.objs.size) C) s₃:=by
  rintro s₃ rfl
  refine mU (fun n s=>∃ (i:Nat) (σ':L2.St) (H':Hp) (vs:List V) (ys:List D),n=ds.length - i/\i<=ds.length/\L2.Inv (br X scope cl T N C s₂ H₂ fp (X.pn++pins)) [] σ' H' s/\Same H₂ H'/\RepS X.K H' σ' (eZ T.length (aX js δ))/\tn i s.heap/\(∀ b∈fp,H' b=none) /\
   (∃ (its:List Value) (k:Nat),Vals vs its/\s.heap.get? s₂.heap.objs.size=some { cls:=.type "list",data:=.seq its.toArray k })/\H' s₂.heap.objs.size=none/\(∃ Acc,RepOs X.K H₂ H' vs ys Acc/\Acc.Nodup)/\dR (bR T.length js g fc felt δ) (ds.take i)=some ys/\ys.length<=1000) ?_ ds.length
   ⟨0,_,H₂,[],[],rfl,Nat.zero_le _,I0 _,Same.refl _,sQ R _ js,TT.keep 0 _ _ st (fun b hb o e=>old b o e),fun b hb=>(hf b hb).1,⟨[],0,.nil,hacc⟩,I.hok.fresh hDle,⟨[],.nil,Zq⟩,rfl,Nat.zero_le _⟩
  rintro n s ⟨i,σ',H',vs,ys,rfl,hi,I',sm,R',st',fr',⟨its,k,rv,hD⟩,fD,⟨Acc,rr,nda⟩,hys,hyl⟩
  by_cases hlt:i < ds.length
  . -- one more
    obtain ⟨go,yl⟩:=(itd i H' sm).1 hlt;have hd0:ds[i]? = some ds[i]:=by simp [hlt]
    obtain ⟨oe,ge⟩:=u9 hm i _ hd0;have hys1:dR (bR T.length js g fc felt δ) (ds.take (i+1))=some (ys++oe.toList):=by
     have e8:ds.take (i+1)=ds.take i++[ds[i]]:=by rw [List.take_add_one,hd0];rfl
     rw [e8];refine rh hys ?_;show ((bR T.length js g fc felt δ ds[i]).bind _)=_;rw [ge];simp [dR]
    have hyl1:(ys++oe.toList).length<=1000:=by
     obtain ⟨zs,ez,l⟩:=n6 hm (i+1);rw [hys1] at ez;cases ez;omega
    unfold bR at ge;obtain ⟨δ1,eδ1,ge⟩:=Za.mp ge;obtain ⟨ok,eok,ge⟩:=Za.mp ge;have kp:=fl _ _ _ eδ1;have I1:L2.Inv (br X scope cl T N C s₂ H₂ fp (X.pn++pins)) [(s₂.heap.objs.size,{ cls:=.type "list",data:=.seq its.toArray k })] σ' H' s:=I'.pins_of fun p hp=>by
     have:p=(s₂.heap.objs.size,{ cls:=.type "list",data:=.seq its.toArray k }):=by simpa using hp
     subst this;exact ⟨hD,fD,hDC,dstk,fun v z=>by cases z⟩
    refine thn (TT.item (br X scope cl T N C s₂ H₂ fp (X.pn++pins)) rfl rfl rfl rfl i _ s σ' H' (fun _ _=>False) I1 (stat fr' fun p hp b hb=>by
     have:p=(s₂.heap.objs.size,{ cls:=.type "list",data:=.seq its.toArray k }):=by simpa using hp
     subst this;exact (fne b hb).symm) st' go) fun r s1 ⟨u,hr,h4⟩=>?_
    subst hr;refine thn h4 fun _ s2 ⟨y,H'',I2,ru,yy,st2,fr2⟩=>?_
    obtain ⟨s3,d,hd,rd⟩:=yl y H'' yy;have hd':d=ds[i]:=by rw [hd0] at hd;exact (Zy hd).symm
    subst hd';have I3:=I2.pinned (stat fr2 fun p hp b hb=>by
     have:p=(s₂.heap.objs.size,{ cls:=.type "list",data:=.seq its.toArray k }):=by simpa using hp
     subst this;exact (fne b hb).symm) (TT.obj _ _ st2)
    refine thn (hg C s₂ H₂ fp (X.pn++pins) _ s2 σ' H'' y u (fun σ4 H4=>RepS X.K H4 σ4 δ1/\H4=H'') I3 ru ⟨_,_,δ1,rd,R'.mono s3,eδ1,fun σ4 r4=>⟨r4,rfl⟩⟩) fun _ s4 ⟨σ4,H4,I4,R4,e2⟩=>?_
    subst e2;refine thn (hc C s₂ H₂ fp (X.pn++pins) _ s4 σ4 H4 (fun b H5=>b=ok/\Same H4 H5) I4 ⟨δ1,ok,R4,eok,fun H5 s5=>⟨rfl,s5⟩⟩) fun okv sT ⟨HT,IT,hok',sT4⟩=>?_
    have hDT:sT.heap.get? s₂.heap.objs.size=some { cls:=.type "list",data:=.seq its.toArray k }:=(IT.pin (s₂.heap.objs.size,{ cls:=.type "list",data:=.seq its.toArray k }) (by simp)).1
    have fDT:HT s₂.heap.objs.size=none:=(IT.pin (s₂.heap.objs.size,{ cls:=.type "list",data:=.seq its.toArray k }) (by simp)).2.1
    have RT:RepS X.K HT σ4 δ1:=R4.mono sT4;have lz:its.length<=1000:=by
     have:=rv.length;have:=rr.len;omega
    cases ok with
    | false =>
     cases ge;rw [hok',if_neg (by decide)]
     have pf:∀ b∈fp,∀ ob,s2.heap.get? b=some ob->sT.heap.get? b=some ob/\HT b=none:=fun b hb ob hob=>by
      have:=IT.pin (b,ob) (Zu _ (Zu _ (cA hb hob)));exact ⟨this.1,this.2.1⟩
     simp only [Option.toList_none,List.append_nil] at hys1;refine ⟨ds.length - (i+1),by omega,i+1,σ4,HT,vs,ys,rfl,hlt,IT.pins_of (pins':=[]) (fun p hp=>by simp at hp),(sm.trans s3).trans sT4,RT.weak kp,?_,?_,⟨its,k,rv,hDT⟩,fDT,?_,hys1,hyl⟩
     . refine TT.keep _ _ _ st2 fun b hb ob hob=>(pf b hb ob hob).1
     . intro b hb;obtain ⟨ob,hob,_⟩:=TT.obj _ _ st2 b hb;exact (pf b hb ob hob).2
     . refine ⟨Acc,rr.frame (aO (s3.trans sT4)) (fun a m=>?_),nda⟩
       obtain ⟨⟨ws,e⟩,_⟩:=rr.dom a m;rw [e];exact (s3.trans sT4) a _ e
    | true =>
     rw [hok',if_pos rfl];obtain ⟨e,ge2,eo⟩:=Zb.mp (show (ownOf felt (shO δ1)).map some=some oe from ge)
     subst eo;refine thn (he C s₂ H₂ fp (X.pn++pins) _ sT σ4 HT (fun v H5=>Same HT H5/\∃ A,RepO X.K H₂ H5 v e A/\A.Nodup/\∀ a∈A,HT a=none) IT (BY ge2 RT ((sm.trans s3).trans sT4))) fun wv s5 ⟨v,H5,I5,rw5,s45,A5,r5,nd5,fr5⟩=>?_
     have hD5:s5.heap.get? s₂.heap.objs.size=some { cls:=.type "list",data:=.seq its.toArray k }:=(I5.pin (s₂.heap.objs.size,{ cls:=.type "list",data:=.seq its.toArray k }) (by simp)).1
     have fD5:H5 s₂.heap.objs.size=none:=(I5.pin (s₂.heap.objs.size,{ cls:=.type "list",data:=.seq its.toArray k }) (by simp)).2.1
     have pf:∀ b∈fp,∀ ob,s2.heap.get? b=some ob->s5.heap.get? b=some ob/\H5 b=none:=fun b hb ob hob=>by
      have:=I5.pin (b,ob) (Zu _ (Zu _ (cA hb hob)));exact ⟨this.1,this.2.1⟩
     refine call_meets F.slot_list_append ⟨_,hD5,rfl⟩ F.entry_list_append (F.args_list_append_2 _ _) (PySem.list_append s₂.heap.objs.size its.toArray k wv (by rw [Zx];exact bn lz)) ⟨hD5,?_⟩
     have q:=PySem.IsL.update hD5 (fun a=>a.push wv)
     have I6:L2.Inv (br X scope cl T N C s₂ H₂ fp (X.pn++pins)) [] σ4 H5 { s5 with heap:=s5.heap.update s₂.heap.objs.size (Obj.mapSeq fun a=>a.push wv),toks:=s5.toks } :=
      (I5.pins_of (pins':=[]) fun p hp=>by simp at hp).turned (it:=s₂.heap.objs.size) (t':=s5.toks) (fun b ob hb hu=>(Heap.get?_update_other s5.heap _ (Ne.symm hb)).trans hu) fD5 hDC (.inr hDle) cne (fun p hp=>by
       rcases Zm.mp hp with z | z
       . exact pne p z
       . simp at z)
     refine ⟨ds.length - (i+1),by omega,i+1,σ4,H5,vs++[v],ys++[e],rfl,hlt,I6,((sm.trans s3).trans sT4).trans s45,(RT.mono s45).weak kp,?_,?_,?_,fD5,?_,hys1,hyl1⟩
     . refine TT.keep _ _ _ st2 fun b hb ob hob=>?_
       exact (Heap.get?_update_other s5.heap _ (Ne.symm (fne b hb))).trans (pf b hb ob hob).1
     . intro b hb;obtain ⟨ob,hob,_⟩:=TT.obj _ _ st2 b hb;exact (pf b hb ob hob).2
     . have hf7:its.toArray.push wv=(its++[wv]).toArray:=by simp
       rw [hf7] at q;exact ⟨its++[wv],_,rv.append (.cons rw5 .nil),q⟩
     . exact v6 rr nda ((s3.trans sT4).trans s45) r5 nd5 fun a m=>bU (s3.trans sT4) (fr5 a m)
  . -- the end
    have hie:i=ds.length:=by omega
    refine thn (TT.done (br X scope cl T N C s₂ H₂ fp (X.pn++pins)) rfl rfl rfl rfl i [(s₂.heap.objs.size,{ cls:=.type "list",data:=.seq its.toArray k })] s σ' H' (fun _ _=>False) (I'.pins_of fun p hp=>by
     have:p=(s₂.heap.objs.size,{ cls:=.type "list",data:=.seq its.toArray k }):=by simpa using hp
     subst this;exact ⟨hD,fD,hDC,dstk,fun v z=>by cases z⟩) (stat fr' fun p hp b hb=>by
     have:p=(s₂.heap.objs.size,{ cls:=.type "list",data:=.seq its.toArray k }):=by simpa using hp
     subst this;exact (fne b hb).symm) st' ((itd i H' sm).2 (by omega))) fun r s1 ⟨hr,I8⟩=>?_
    subst hr;have hD8:s1.heap.get? s₂.heap.objs.size=some { cls:=.type "list",data:=.seq its.toArray k }:=(I8.pin (s₂.heap.objs.size,{ cls:=.type "list",data:=.seq its.toArray k }) (by simp)).1
    have hxs:ds.take i=ds:=List.take_of_length_le (by omega)
    rw [hxs,hm] at hys;cases hys;have sn:=aJ fD (.lst vs);have dn:∀ b,∀ u,H' b=some u->b ≠ s₂.heap.objs.size:=fun b u z=>aA z fD
    have un:Un (frs X.stack) fp H₂ (upd H' s₂.heap.objs.size (.lst vs)) s₂.heap s1.heap:=by
     have b0:=I8.base;refine ⟨fun b ob e n1 n2 n3=>b0.keep b ob e n1 n2 n3,fun b ob e n1 n2 n3=>b0.slot b ob e n1 n2 n3,fun b ob e n1 n3=>?_,fun b ob e n3=>b0.there b ob e n3,fun b zs e=>?_,fun b ob u e=>?_,fun b ps e=>?_⟩
     . rw [al (ZA (Heap.lt_size e))];exact b0.free b ob e n1 n3
     . have z:=b0.tups b zs e;rw [al (dn _ _ z)];exact z
     . have z:=b0.frzs b ob u e;rw [al (dn _ _ z)];exact z
     . obtain ⟨more,z⟩:=b0.tbls b ps e;exact ⟨more,by rw [al (dn _ _ z)];exact z⟩
    have hok:HOk X.prog X.w (upd H' s₂.heap.objs.size (.lst vs)) s1.heap:=fun b u z=>by
     by_cases hb:b=s₂.heap.objs.size
     . rw [hb] at z ⊢;rw [aw] at z;cases z;exact ⟨bn (by have:=rr.len;omega),its,k,rv,hD8⟩
     . rw [al hb] at z;exact (I8.hok b u z).stay (fun _ _ _ q=>q) (fun c q=>by rw [al (dn _ _ q)];exact q) fun c ys q=>by rw [al (dn _ _ q)];exact q
    have IX:L2.Inv X pins σ (upd H' s₂.heap.objs.size (.lst vs)) s1:=I.call' I8.os un hok I8.bare fun b hb=>⟨(hf b hb).2.2.2.1,(hf b hb).2.1,(hf b hb).2.2.2.2.1,(hf b hb).2.2.2.2.2⟩
    obtain ⟨m8,hn8,_⟩:=I8.loc;refine hRR s₂.heap.objs.size C s1 _ vs hCle IX (sm.trans sn) aw ⟨Acc,rr.frame (aO sn) (fun a m=>by
     obtain ⟨⟨ws,e⟩,_⟩:=rr.dom a m;rw [e];exact sn a _ e),nda,fun m=>(by
     obtain ⟨⟨ws,e⟩,_⟩:=rr.dom _ m;rw [fD] at e;cases e),I.hok.fresh hDle⟩ ⟨m8,hn8⟩ ?_
    rw [al (Ne.symm hDC)];exact I8.free
 exact codeAny_compStart_list (loop _ rfl) (TT.self X.A 0 _ _ _ (TT.keep 0 _ _ st (fun b hb o e=>old b o e)) (loop _ rfl))
theorem iw {n:Nat} {js:List Nat} {g:D->DS->Option DS} {fc:FT} {f:FM} {δ:DS}:∀ {ds xs:List D},dR (bR n js g fc f δ) ds=some xs->gH xs=true
 | [],xs,h=>by cases h;rfl
 | d :: ds,xs,h=>by
  obtain ⟨o,eo,h⟩:=Za.mp (show ((bR n js g fc f δ d).bind _)=some xs from h)
  obtain ⟨ys,ey,h⟩:=Za.mp h;cases h;unfold bR at eo;obtain ⟨δ1,_,eo⟩:=Za.mp eo;obtain ⟨b,_,eo⟩:=Za.mp eo;cases b with
  | false=>cases eo;exact iw ey
  | true =>
   obtain ⟨e,ge,eo⟩:=Zb.mp (show (ownOf f (shO δ1)).map some=some o from eo)
   subst eo;show (own e && gH ys)=true;rw [iw ey,Bool.and_true];unfold ownOf at ge;obtain ⟨p,_,ge⟩:=Za.mp ge;split at ge
   . rename_i ho;cases ge;exact ho
   . cases ge
theorem bT {elt tg iter:Expr} {ifs:List Expr} {pos:Pos} {src:FA} {g:D->DS->Option DS} {fc:FT} {felt:FM} (hi:PID X tg iter src) {T N:List Str} {js:List Nat} (hg:∀ C s₂ H₂ fp pn,PGD (br X scope cl T N C s₂ H₂ fp pn) tg g) (fl:sC T.length g) (hc:∀ C s₂ H₂ fp pn,Ac (br X scope cl T N C s₂ H₂ fp pn) ifs fc) (he:∀ C s₂ H₂ fp pn,PV (br X scope cl T N C s₂ H₂ fp pn) elt felt) (O:CompG X scope cl T N js) (hcm:X.calm=true:=by rfl)
 (hs:∀ v,foldedSetIterable iter X.env v=pure v:=by intro _;rfl):PV X (.ListComp elt [⟨tg,iter,ifs,0⟩] scope pos) (dX src T.length js g fc felt):=by
 intro pins s σ H Q I ⟨F,δ,As,d,δ',RA,q,k⟩;have R:=RA.toS;unfold dX at q;obtain ⟨ds,eds,q⟩:=Za.mp q;obtain ⟨xs,exs,q⟩:=Za.mp q
 by_cases hz:xs.length<=1000
 . rw [if_pos hz] at q;cases q;rw [eval_ListComp];refine wpAny_comprehension_free (use:=none) rfl hs O.clos O.kind O.names ?_;refine wpAny_mono (hi pins s σ H (fun J H1=>Same H H1/\ItD X.K J H1 ds) I ⟨δ,ds,R,eds,fun J H1 s1 itd=>⟨s1,itd⟩⟩) (fun v s1 h1=>wpAny_mono h1 (fun itv s2 h2=>?_) fun _ _ z=>z) fun _ _ z=>z
   obtain ⟨it,fp,tn,J,H2,rfl,I2,TT,st,hf,s1,itd⟩:=h2;refine kC (RR:=fun acc C=>compPost (model X.prog X.w) X.A X.xe none (EP X pins σ Q) acc C) I2 hcm O TT st hf itd (R.mono s1) hg fl hc he exs hz ?_
   intro D C s' Hend vs hC IX sm hD rr ⟨m,hn⟩ fC;exact ⟨m,hn,fun h' hs'=>⟨.ref D,Hend,iz IX I2 hC fC hs',rfl,vT RA k (iw exs) (s1.trans sm) s1 hD rr⟩⟩
 . rw [if_neg hz] at q;cases q
theorem qJ (i:Nat) {y:Str} {elt tg iter:Expr} {ifs:List Expr} {py pos spos:Pos} {src:FA} {g:D->DS->Option DS} {fc:FT} {felt:FM} (hN:X.N.Nodup) (hi:PID X tg iter src) {T N:List Str} {js:List Nat} (hg:∀ C s₂ H₂ fp pn,PGD (br X scope cl T N C s₂ H₂ fp pn) tg g) (fl:sC T.length g) (hc:∀ C s₂ H₂ fp pn,Ac (br X scope cl T N C s₂ H₂ fp pn) ifs fc) (he:∀ C s₂ H₂ fp pn,PV (br X scope cl T N C s₂ H₂ fp pn) elt felt) (O:CompG X scope cl T N js)
 (hsw:swapsWith (.ListComp elt [⟨tg,iter,ifs,0⟩] scope pos) (some (.Name y py)) spos.line X.env=pure true:=by rfl) (hy:X.N[i]? = some y:=by rfl) (hl:Loc X.env.scope y:=by first | exact Or.inl rfl | exact Or.inr rfl) (hcm:X.calm=true:=by rfl)
 (hs:∀ v,foldedSetIterable iter X.env v=pure v:=by intro _;rfl) (hfn:X.fn y=true \/ X.env.scope.names.lookup y=some .local:=by first | exact .inl rfl | exact .inr rfl | assumption) :
 PMD X (.Assign [.Name y py] (.ListComp elt [⟨tg,iter,ifs,0⟩] scope pos) spos) (aS i (dX src T.length js g fc felt)):=by
 intro pins s σ H D I ⟨F,δ,r,⟨As,RA⟩,q,k⟩;have R:=RA.toS;unfold aS at q;obtain ⟨⟨d,δ'⟩,ed,q⟩:=Za.mp q;cases q;unfold dX at ed;obtain ⟨ds,eds,q⟩:=Za.mp ed;obtain ⟨xs,exs,q⟩:=Za.mp q
 by_cases hz:xs.length<=1000
 . rw [if_pos hz] at q;cases q;rw [exec_Assign_Name_used _ _ _ _ hsw];refine wpAny_bind (wpAny_standAt (wpAny_bind ?_));show wpAny _ X.A (do let _ <- comprehension (.ListComp elt [⟨tg,iter,ifs,0⟩] scope pos) scope X.env _ (newList []) false (eval iter X.env) (some (assign (.Name y py) X.env))) _ _ s
   refine wpAny_bind (wpAny_mono (wpAny_comprehension_free (use:=some (assign (.Name y py) X.env)) (Q:=fun _ s'=>SP X pins D .next s') rfl hs O.clos O.kind O.names ?_) (fun _ s' hq=>wpAny_pure (wpAny_pure hq)) fun _ _ z=>z)
   refine wpAny_mono (hi pins s σ H (fun J H1=>Same H H1/\ItD X.K J H1 ds) I ⟨δ,ds,R,eds,fun J H1 s1 itd=>⟨s1,itd⟩⟩) (fun v s1 h1=>wpAny_mono h1 (fun itv s2 h2=>?_) fun _ _ z=>z) fun _ _ z=>z
   obtain ⟨it,fp,tn,J,H2,rfl,I2,TT,st,hf,s1,itd⟩:=h2;refine kC (RR:=fun acc C=>compPost (model X.prog X.w) X.A X.xe (some (assign (.Name y py) X.env)) (fun _ s'=>SP X pins D .next s') acc C) I2 hcm O TT st hf itd (R.mono s1) hg fl hc he exs hz ?_
   intro DA C s' Hend vs hC IX sm hD rr ⟨m,hn⟩ fC;show wpAny _ X.A (assign (.Name y py) X.env (.ref DA)) _ _ s';refine wpAny_assign_Name (nH (v:=.ref DA) IX hN hy hl rfl (fun s9 I9 ⟨a,hsb,ha⟩=>?_) hfn)
   have hCa:C ≠ a:=by
    rintro rfl
    rcases ha with z | z
    . exact absurd (Zt I2.lt (by rw [<- z];exact hC)) (ZB _)
    . obtain ⟨v,o,h1,_⟩:=I2.cell y _ z;exact absurd (Zt (Heap.lt_size h1) hC) (ZB _)
   refine ⟨m,hn.at' fun o e=>(hsb.2 C hCa).trans e,fun h' hs'=>⟨_,Hend,?_,zQ i RA k (iw exs) (s1.trans sm) s1 hD rr⟩⟩
   exact I9.turned (it:=C) (t':=s9.toks) (fun b o hb e=>(hs'.2 b hb).trans e) fC (Nat.ne_of_gt (Zt I2.lt hC)) (.inr (Nat.le_trans I2.sz hC))
    (fun y c e z=>by
     obtain ⟨v,o,h1,_⟩:=I2.cell y c e;exact absurd (Zt (Heap.lt_size h1) (by rw [z];exact hC)) (ZB _))
    (fun p hp z=>absurd (Zt (Heap.lt_size (I2.pin p hp).1) (by rw [z];exact hC)) (ZB _))
 . rw [if_neg hz] at q;cases q
end
end Dl
namespace Dl
open PySem PySem.Spec PyProof.Rows L2
section
variable {X:Cx} {pins:List (Addr×Obj)} {σ:L2.St} {H:Hp} {s:Shared} {h':Heap}
theorem xu {t':Nat} {ch:List Addr} (I:L2.Inv X pins σ H s) (k:∀ b o,b ∉ ch->s.heap.get? b=some o->h'.get? b=some o) (hf:∀ b∈ch,fg X pins H b):L2.Inv X pins σ H { s with heap:=h',toks:=t' }:=by
 have nit:∀ b u,H b=some u->b ∉ ch:=fun b u e m=>by rw [(hf b m).1] at e;cases e
 refine I.step (g':=s.gens) (d':=s.drawn) (ch:=ch) (fun b hb=>⟨(hf b hb).2.2.2.1,(hf b hb).2.1,(hf b hb).2.2.2.2.1,(hf b hb).2.2.2.2.2⟩) (fun b o _ _ hc e _=>k b o hc e) (fun b o _ _ hc e _=>⟨o.slots,k b o hc e⟩) (fun _ _ _ _ n=>n)
  (fun b o hc e=>⟨o,k b o hc e⟩) (fun _ _ e=>e) (fun _ _ _ e=>e) (fun b ps e=>⟨#[],by rw [e];simp⟩) (fun m hm=>?_) (fun b u e=>?_) I.bare
 . obtain ⟨o,es,ep,ho,r⟩:=hm;exact ⟨o,es,ep,k _ o (fun m=>(hf _ m).2.1 rfl) ho,r⟩
 . refine (I.hok b u e).stay (fun c v hc q=>k c v ?_ q) (fun _ q=>q) fun _ _ q=>q
   rcases hc with z | z
   . rw [z];exact nit b u e
   . exact nit c _ z
theorem xt {t':Nat} {ch:List Addr} {a:Addr} {xs:List V} (I:L2.Inv X pins σ H s) (k:∀ b o,b ∉ ch->s.heap.get? b=some o->h'.get? b=some o) (hf:∀ b∈ch,fg X pins H b) (ha:s.heap.objs.size<=a) (new:ObjOk X.prog X.w (upd H a (.tup xs)) h' a (.tup xs)):L2.Inv X pins σ (upd H a (.tup xs)) { s with heap:=h',toks:=t' }:=by
 have fa:H a=none:=I.hok.fresh ha;have nit:∀ b u,H b=some u->b ∉ ch:=fun b u e m=>by rw [(hf b m).1] at e;cases e
 have na:∀ b u,H b=some u->b ≠ a:=fun b u e z=>by rw [z,fa] at e;cases e
 refine I.step (g':=s.gens) (d':=s.drawn) (ch:=ch) (fun b hb=>⟨(hf b hb).2.2.2.1,(hf b hb).2.1,(hf b hb).2.2.2.2.1,(hf b hb).2.2.2.2.2⟩) (fun b o _ _ hc e _=>k b o hc e) (fun b o _ _ hc e _=>⟨o.slots,k b o hc e⟩) (fun b o _ e n=>?_)
  (fun b o hc e=>⟨o,k b o hc e⟩) (fun b _ e=>by rw [al (na b _ e)];exact e) (fun b _ _ e=>by rw [al (na b _ e)];exact e) (fun b ps e=>⟨#[],by rw [al (na b _ e),e];simp⟩) (fun m hm=>?_) (fun b u e=>?_) I.bare
 . rw [al (ZA (Zt (Heap.lt_size e) ha))];exact n
 . obtain ⟨o,es,ep,ho,r⟩:=hm;exact ⟨o,es,ep,k _ o (fun m=>(hf _ m).2.1 rfl) ho,r⟩
 . by_cases hb:b=a
   . subst hb;rw [aw] at e;cases e;exact new
   . rw [al hb] at e;refine (I.hok b u e).stay (fun c v hc q=>k c v ?_ q) (fun c q=>by rw [al (na c _ q)];exact q) fun c ys q=>by rw [al (na c _ q)];exact q
     rcases hc with z | z
     . rw [z];exact nit b u e
     . exact nit c _ z
end
def Itz (K:Zr) (a b:Addr):It :=
 ⟨fun i H=>∃ xs ys x y,SqL K H a xs/\SqL K H b ys/\xs[i]? = some x/\ys[i]? = some y,fun i H v H'=>∃ p x y,v=.ref p/\H p=none/\H'=upd H p (.tup [x,y])/\(∀ xs,SqL K H a xs->xs[i]? = some x)/\∀ ys,SqL K H b ys->ys[i]? = some y,
  fun i H=>∃ xs ys,SqL K H a xs/\SqL K H b ys/\(xs.length<=i \/ ys.length<=i)⟩
def Ff (z TI TO i1 i2 l1 l2:Addr) (i:Nat) (h:Heap):Prop:=IsZip h z TI TO .none/\IsPair h TI (.ref i1) (.ref i2)/\(∃ a b,IsPair h TO a b)/\h.IsListIter i1 l1 i/\h.IsListIter i2 l2 i
theorem xr {P:Program} {w:World} {K:Zr} {es:List Expr} {kt:Nat} {pt:Pos} {z TI TO i1 i2 l1 l2:Addr} (D:ZipApart z TI TO i1 i2 l1 l2):kK P w K (.Tuple es kt pt) (Itz K l1 l2) [z,TI,TO,i1,i2] z (Ff z TI TO i1 i2 l1 l2) where
 mem:=by simp
 obj:=fun i h st b hb=>by
  obtain ⟨hz,hTI,⟨a,b',hTO⟩,⟨o1,e1,_,d1⟩,⟨o2,e2,_,d2⟩⟩:=st;simp only [Zn,Zz,or_false] at hb;rcases hb with rfl | rfl | rfl | rfl | rfl
  . exact ⟨_,hz,fun v q=>by cases q⟩
  . exact ⟨_,hTI,fun v q=>by cases q⟩
  . exact ⟨_,hTO,fun v q=>by cases q⟩
  . exact ⟨_,e1,fun v q=>by rw [d1] at q;cases q⟩
  . exact ⟨_,e2,fun v q=>by rw [d2] at q;cases q⟩
 keep:=fun i h h' st k=>by
  obtain ⟨hz,hTI,⟨a,b',hTO⟩,h1,h2⟩:=st;exact ⟨k z (by simp) _ hz,k TI (by simp) _ hTI,⟨a,b',k TO (by simp) _ hTO⟩,h1.at fun o e=>k i1 (by simp) o e,h2.at fun o e=>k i2 (by simp) o e⟩
 item:=by
  intro X hP hw hK hc i pins s σ H E I hf st hg;subst hP hw hK;obtain ⟨xs,ys,x,y,hq1,hq2,hx,hy⟩:=hg;obtain ⟨hz,hTI,⟨a,b',hTO⟩,h1,h2⟩:=st;obtain ⟨its,rv,p,_⟩:=I.list hq1;obtain ⟨jts,rw',p',_⟩:=I.list hq2;obtain ⟨u,hu,ru⟩:=rv.get hx;obtain ⟨v,hv,rv2⟩:=rw'.get hy;refine wpAny_pyNext_zip_item D hz hTI hTO h1 h2 p.isList p'.isList (x:=u) (y:=v) (by simpa using hu) (by simpa using hv) fun h' hz' hTO' h1' h2' hT hsz hk=>?_
  have fT:H s.heap.objs.size=none:=I.hok.fresh (ZH _);refine ⟨_,rfl,wpAny_letOwnedTupleGo_zip hz' fun h'' hz'' sb=>?_⟩
  have lt:∀ b∈[z,TI,TO,i1,i2],b < s.heap.objs.size:=fun b hb=>by
   obtain ⟨o1,e1,_⟩:=h1;obtain ⟨o2,e2,_⟩:=h2;simp only [Zn,Zz,or_false] at hb;rcases hb with rfl | rfl | rfl | rfl | rfl
   . exact Heap.lt_size hz
   . exact Heap.lt_size hTI
   . exact Heap.lt_size hTO
   . exact Heap.lt_size e1
   . exact Heap.lt_size e2
  have zne:s.heap.objs.size ≠ z:=Nat.ne_of_gt (lt z (by simp))
  have up:∀ b o,b ≠ z->h'.get? b=some o->h''.get? b=some o:=fun b o hb e=>(sb.2 b hb).trans e
  have kk:∀ b o,b ∉ [z,TI,TO,i1,i2]->s.heap.get? b=some o->h''.get? b=some o:=fun b o hb e=>by
   simp only [Zn,Zz,or_false,not_or] at hb;exact up b o hb.1 (hk b o hb.1 hb.2.2.1 hb.2.2.2.1 hb.2.2.2.2 e)
  have hT2:h''.get? s.heap.objs.size=some { cls:=.type "tuple",data:=.seq #[u,v] }:=up _ _ zne hT;refine ⟨.ref s.heap.objs.size,upd H s.heap.objs.size (.tup [x,y]),xt (s:=s) (h':=h'') (t':=s.toks) I kk hf (ZH _) ⟨by show 2<=sizeLine;decide,[u,v],.cons ru (.cons rv2 .nil),⟨_,hT2,rfl,_,rfl⟩⟩,rfl,⟨_,x,y,rfl,fT,rfl,fun zs q=>by rw [I.list_inj q hq1];exact hx,fun zs q=>by rw [I.list_inj q hq2];exact hy⟩,⟨hz'',?_,⟨u,v,up _ _ D.TOz hTO'⟩,h1'.at fun o e=>up _ o D.i1z e,h2'.at fun o e=>up _ o D.i2z e⟩,fun b hb=>?_⟩
  . exact up _ _ D.TIz (hk TI _ D.TIz D.TITO D.TIi1 D.TIi2 hTI)
  . rw [al (ZA (lt b hb))];exact (hf b hb).1
 done:=by
  intro X hP hw hK hc i pins s σ H E I hf st hg;subst hP hw hK;obtain ⟨xs,ys,hq1,hq2,hl⟩:=hg;obtain ⟨hz,hTI,⟨a,b',hTO⟩,h1,h2⟩:=st;obtain ⟨its,rv,p,_⟩:=I.list hq1;obtain ⟨jts,rw',p',_⟩:=I.list hq2;have l1:=rv.length;have l2:=rw'.length;refine wpAny_pyNext_zip_end (I.ok.hd hc) D hz hTI hTO h1 h2 p.isList p'.isList (by
   rcases hl with h | h
   . exact .inl (by simp;omega)
   . exact .inr (by simp;omega)) fun h' hk=>⟨rfl,xu (t':=s.toks) I (fun b o hb e=>?_) hf⟩
  simp only [Zn,Zz,or_false,not_or] at hb;exact hk b o hb.1 hb.2.2.1 hb.2.2.2.1 hb.2.2.2.2 e
 self:=fun _ _ _ _ _ st h=>wpAny_pyIter_zip st.1 h
theorem DC {K:Zr} {H1:Hp} {a b:Addr} {vs ws:List V} {ds es:List D} (hq:SqL K H1 a vs) (r:Reps K H1 vs ds) (hq':SqL K H1 b ws) (r':Reps K H1 ws es):ItD K (Itz K a b) H1 (List.zipWith (fun d e=>D.tup [d,e]) ds es):=by
 intro i H2 s;have h1:=s.seq hq;have h2:=s.seq hq';have l1:=r.length;have l2:=r'.length;rw [List.length_zipWith];refine ⟨fun hi=>⟨⟨vs,ws,vs[i]'(by omega),ws[i]'(by omega),h1,h2,by simp [show i < vs.length by omega],by simp [show i < ws.length by omega]⟩,fun x H' y=>?_⟩,fun hi=>⟨vs,ws,h1,h2,by omega⟩⟩
 obtain ⟨p,u,v,rfl,hp,rfl,yu,yv⟩:=y;obtain ⟨d,hd,rd⟩:=r.getV (yu vs h1);obtain ⟨e,he,re⟩:=r'.getV (yv ws h2);have sn:=aJ hp (.tup [u,v]);refine ⟨sn,.tup [d,e],?_,.tup (SqT.of aw) (.cons ((rd.mono s).mono sn) (.cons ((re.mono s).mono sn) .nil))⟩;rw [List.getElem?_zipWith,hd,he]
theorem qq {K:Zr} {H:Hp} {v:V} {d:D} {ds:List D} (r:Rep K H v d) (e:asL d=some ds):∃ a vs,v=.ref a/\SqL K H a vs/\Reps K H vs ds:=by
 cases r with
 | @lst p vs es hp rp=>cases e;exact ⟨p,vs,rfl,SqL.of hp,rp⟩
 | @seq p vs es hp rp=>cases e;exact ⟨p,vs,rfl,hp,rp⟩
 | _=>cases e
end Dl
namespace Dl
open PySem PySem.Spec PyProof.Rows L2
def RPZ (X:Cx) (Z:L2.St->Prop) (E:j9) (F:Hp):Res->Prop
 | .nx δ=>∀ σ' F' H',Same F F'->cU X.K F' H' σ' δ->Z σ'->E.nx σ' H'
 | .rt d=>∀ v F' H' A,Same F F'->Same F' H'->RepO X.K F' H' v d A->A.Nodup->E.rt v H'
 | .bk δ=>∀ σ' F' H',Same F F'->cU X.K F' H' σ' δ->Z σ'->E.bk σ' H'
 | .ct δ=>∀ σ' F' H',Same F F'->cU X.K F' H' σ' δ->Z σ'->E.ct σ' H'
 | .ex _ _=>False
 | .mk _ _=>False
theorem RPZ.mono {X:Cx} {Z:L2.St->Prop} {E:j9} {F F1:Hp} {r:Res} (s:Same F F1) (h:RPZ X Z E F r):RPZ X Z E F1 r:=by
 cases r with
 | nx δ=>exact fun σ' F' H' s2 R=>h σ' F' H' (s.trans s2) R
 | rt d=>exact fun v F' H' A s2=>h v F' H' A (s.trans s2)
 | bk δ=>exact fun σ' F' H' s2 R=>h σ' F' H' (s.trans s2) R
 | ct δ=>exact fun σ' F' H' s2 R=>h σ' F' H' (s.trans s2) R
 | ex C δ=>exact h
 | mk C δ=>exact h
def upZ (X:Cx) (Z:L2.St->Prop) (s:SD):TS:=fun E σ H=>∃ F δ r,cU X.K F H σ δ/\Z σ/\s δ=some r/\RPZ X Z E F r
def PZD (X:Cx) (Z:L2.St->Prop) (st:Stmt) (s:SD):Prop:=PS X st (upZ X Z s)
def PZs (X:Cx) (Z:L2.St->Prop) (sts:List Stmt) (s:SD):Prop:=PSs X sts (upZ X Z s)
section
variable {X:Cx} {Z:L2.St->Prop} {st:Stmt} {rest:List Stmt} {s u:SD} {e:Expr} {fk fl:FD} {fm:FM} {c:FT} {pos:Pos}
theorem xW:PZs X Z [] cI:=kz kT fun E σ H ⟨F,δ,r,R,hz,e,k⟩=>by cases e;exact k σ F H (Same.refl F) R hz
theorem Ay (h1:PZD X Z st s) (h2:PZs X Z rest u):PZs X Z (st :: rest) (aN s u):=kz (jH h1 h2) fun E σ H ⟨F,δ,r,R,hz,e,k⟩=>by
 unfold aN at e;obtain ⟨r1,e1,e⟩:=Za.mp e;refine ⟨F,δ,r1,R,hz,e1,?_⟩;cases r1 with
 | nx δ'=>exact fun σ' F' H' s1 R1 z1=>⟨F',δ',r,R1,z1,e,k.mono s1⟩
 | rt d=>cases e;exact k
 | bk d=>cases e;exact k
 | ct d=>cases e;exact k
 | ex C d=>cases e;exact k
 | mk C d=>cases e;exact k
theorem sX (h:PZD X Z st s):PZs X Z [st] s:=kS h
theorem BU {cx:Expr} {a b:List Stmt} (hc:PTD X cx c) (ha:PZs X Z a s) (hb:PZs X Z b u):PZD X Z (.If cx a b pos) (sIf c s u):=de (uP hc ha hb) fun E σ H ⟨F,δ,r,⟨As,R⟩,hz,q,k⟩=>by
 unfold sIf at q;obtain ⟨d,ed,q⟩:=Za.mp q;refine ⟨δ,d,R.toS,ed,fun H' s1=>?_⟩
 cases d with
 | true=>rw [if_pos rfl];exact ⟨F,δ,r,⟨As,R.grow s1⟩,hz,q,k⟩
 | false=>rw [if_neg Zs];exact ⟨F,δ,r,⟨As,R.grow s1⟩,hz,q,k⟩
theorem Ax {iter:Expr} {body:List Stmt} {src:FMA} {x:Str} {px:Pos} (i:Nat) (zi:∀ σ v,Z σ->Z (σ.set i (some v))) (hN:X.N.Nodup) (hp:PassesOwn (model X.prog X.w) X.A X.env X.xe) (hc:X.calm=true) (hi:PIM X (.Name x px) iter src) (hb:PZs X Z body s)
 (hx:X.N[i]? = some x:=by rfl) (hl:Loc X.env.scope x:=by first | exact Or.inl rfl | exact Or.inr rfl) (hf:X.fn x=true \/ X.env.scope.names.lookup x=some .local:=by first | exact .inl rfl | exact .inr rfl | assumption)
 (hs:∀ x,foldedSetIterable iter X.env x=pure x:=by intro _;rfl):PZD X Z (.For (.Name x px) iter body [] pos) (gQ src i s):=de (pq hp hc hi (eN hN hx hl hf) hb hs) fun E σ H ⟨F,δ,r,⟨As,R⟩,hz,e,k⟩=>by
 unfold gQ at e;obtain ⟨⟨ds,δ1⟩,eds,e⟩:=Za.mp e;refine ⟨F,δ,As,ds,δ1,R,eds,fun J F1 H1 As1 s1 R1 it=>?_⟩
 refine ⟨fun j m σ H=>m=ds.length - j/\j<=ds.length/\∃ F2 δ,Same F1 F2/\cU X.K F2 H σ δ/\Z σ/\forM i s (ds.drop j) δ=some r/\RPZ X Z E F2 r,⟨ds.length,rfl,Nat.zero_le _,F1,δ1,Same.refl _,⟨As1,R1⟩,hz,e,k.mono s1⟩,?_⟩
 rintro j m σ H2 ⟨rfl,hjl,F2,δ2,s2,⟨As2,R2⟩,z2,e2,k2⟩
 by_cases hlt:j < ds.length
 . obtain ⟨go,yl⟩:=(it j H2 (s2.trans R2.fz)).1 hlt;rw [List.drop_eq_getElem_cons hlt] at e2;obtain ⟨r4,e4,e2⟩:=Za.mp (show ((s (δ2.set i (some (sh ds[j])))).bind _)=some r from e2)
   refine .inr ⟨go,fun σ' H'=>∃ F3 δ,Same F1 F3/\cU X.K F3 H' σ' δ/\Z σ'/\forM i s (ds.drop (j+1)) δ=some r/\RPZ X Z E F3 r,fun σ' H' z=>⟨ds.length - (j+1),by omega,rfl,hlt,z⟩,fun y H' yy=>?_⟩
   obtain ⟨eH,d,hd,rx⟩:=yl y H' yy;subst eH;have hd':d=ds[j]:=by
    rw [Zp hlt] at hd;exact (Zy hd).symm
   subst hd';have R3:=R2.setM i (RepO.of_sh R2.fz (rx.mono s2)) Zq fun _ _ _ z=>nomatch z
   refine ⟨F2,δ2.set i (some (sh ds[j])),r4,R3,zi σ y z2,e4,?_⟩;cases r4 with
   | nx δ'=>exact fun σ' F' H'' s4 R4 z4=>⟨F',δ',s2.trans s4,R4,z4,e2,k2.mono s4⟩
   | ct δ'=>exact fun σ' F' H'' s4 R4 z4=>⟨F',δ',s2.trans s4,R4,z4,e2,k2.mono s4⟩
   | bk δ'=>cases e2;exact k2
   | rt d=>cases e2;exact k2
   | ex C δ'=>cases e2;exact k2
   | mk C δ'=>cases e2;exact k2
 . have e:j=ds.length:=by omega
   subst e;rw [List.drop_length] at e2;cases e2;exact .inl ⟨(it _ H2 (s2.trans R2.fz)).2 (ZH _),k2 σ F2 H2 (Same.refl _) ⟨As2,R2⟩ z2⟩
end
section
variable {P:Program} {w:World} {K:Zr} {mg:Str->Option Value} {base:Heap}
end
noncomputable def hV (H:Hp) (A:List Addr):Hp:=fun a=>if a∈A then none else H a
theorem vV {H:Hp} {A:List Addr}:Same (hV H A) H:=fun a u e=>by
 unfold hV at e;split at e
 . cases e
 . exact e
theorem sk {H:Hp} {A:List Addr} {a:Addr} (m:a∈A):hV H A a=none:=if_pos m
theorem gn {H:Hp} {A:List Addr} {a:Addr} (m:a ∉ A):hV H A a=H a:=if_neg m
end Dl
namespace Dl
open PySem PySem.Spec PyProof.Rows L2
theorem ig:∀ {ns:List Int} {us:List Value},Vals (ns.map V.int) us->PyProof.Rows.IntsAre us ns
 | [],_,.nil=>.nil
 | n :: ns,_,.cons r t=>by
  obtain ⟨tk,rfl⟩:=r;exact .cons n tk (ig t)
section
variable {X:Cx}
end
section
variable {K:Zr} {F H:Hp} {σ:L2.St} {δ:DS} {As:Nat->List Addr} {i:Nat} {x:D} {ds:List D}
end
section
variable {X:Cx} {pos:Pos} {c:Expr} {f:FD}
end
end Dl
namespace Dl
open PySem PySem.Spec PyProof.Rows L2
noncomputable def fnM (S:List D->D×D->Prop) (ds:List D):Option (D×D):=by
 classical exact if h:(∃ d,S ds d)/\∀ d e,S ds d->S ds e->d=e then some h.1.choose else none
theorem pX {S:List D->D×D->Prop} {ds:List D} {p:D×D} (u:∀ q,S ds q->q=p) (h:S ds p):fnM S ds=some p:=by
 unfold fnM;rw [dif_pos ⟨⟨p,h⟩,fun d e a b=>(u d a).trans (u e b).symm⟩]
 exact congrArg some (u _ (Exists.choose_spec (⟨p,h⟩:∃ d,S ds d)))
theorem k8 {S:List D->D×D->Prop} {ds:List D} {p:D×D} (h:fnM S ds=some p):S ds p:=by
 unfold fnM at h;split at h
 . rename_i g;cases h;exact g.1.choose_spec
 . cases h
end Dl
namespace Dl
open PySem PySem.Spec PyProof.Rows L2
def lk (ks:List Int) (ds:List D) (k:Int):Option D:=((ks.zip ds).find? fun p=>decide (p.1=k)).map (·.2)
section
variable {X:Cx} {a b:Expr} {fa fb:FD} {pos:Pos}
end
section
variable {K:Zr} {F H:Hp} {σ:L2.St} {δ:DS} {As:Nat->List Addr}
end
section
variable {X:Cx} {e ei:Expr} {fk:FD} {fm:FM} {pos p1 p2 p3 p4:Pos}
end
section
variable {K:Zr} {F H:Hp} {σ:L2.St} {δ:DS} {As:Nat->List Addr}
end
section
variable {X:Cx} {e ek ev:Expr} {g:FA} {fk fv:FD} {pos p:Pos}
end
end Dl
namespace Dl
open PySem PySem.Spec PyProof.Rows L2
end Dl
namespace Dl
open PySem PySem.Spec PyProof.Rows L2
section
variable {X:Cx} {pins:List (Addr×Obj)} {σ:L2.St} {H:Hp} {s:Shared} {a:Addr} {u u':HO}
end
end Dl
namespace Dl
open PySem PySem.Spec PyProof.Rows L2
def xB (g:FA):FA:=fun δ=>(g δ).bind fun xs=>match xs with
 | [.int i,.int j]=>if -(2 ^ 62)<=i/\i < 2 ^ 62/\-(2 ^ 62)<=j/\j < 2 ^ 62 then some ((List.range (j - i).toNat).map fun k=>D.int (i+((k:Nat):Int))) else none
 | _=>none
end Dl
namespace Dl
open PySem PySem.Spec PyProof.Rows L2
section
variable {P:Program} {w:World} {K:Zr} {mg:Str->Option Value} {base:Heap}
end
theorem RepA.allSh {K:Zr} {F H H1:Hp} {σ:L2.St} {δ:DS} {As:Nat->List Addr} (R:RepA K F H σ δ As) (s1:Same H H1):RepA K H1 H1 σ (δ.map (Option.map sh)) (fun _=>[]):=by
 refine ⟨Same.refl H1,by rw [Zg];exact R.len,fun i d0 q=>?_,fun _ _=>rfl,fun _=>Zq,fun _ _ _ _ m=>nomatch m⟩
 rw [ZD] at q;obtain ⟨o,h1,h2⟩:=Zb.mp q;obtain ⟨d1,h3,h4⟩:=Zb.mp h2;subst h4;subst h3;obtain ⟨v0,h5,h6⟩:=R.val i _ h1;exact ⟨v0,h5,RepO.of_sh (Same.refl H1) ((h6.rep R.fz).mono s1)⟩
end Dl
namespace Dl
open PySem PySem.Spec PyProof.Rows L2
section
variable {P:Program} {w:World} {K:Zr} {mg:Str->Option Value} {base:Heap}
end
end Dl
namespace Dl
open PySem PySem.Spec PyProof.Rows L2
def fIf (c:FT) (a b:FD):FD:=fun δ=>(c δ).bind fun t=>if t then a δ else b δ
theorem pz {X:Cx} {c a b:Expr} {fc:FT} {fa fb:FD} {pos:Pos} (hc:PTD X c fc) (ha:PD X a fa) (hb:PD X b fb):PD X (.IfExp c a b pos) (fIf fc fa fb):=imp (ym hc ha hb) fun σ H Q ⟨δ,d,R,q,k⟩=>by
 unfold fIf at q;obtain ⟨t,et,q⟩:=Za.mp q;refine ⟨δ,t,R,et,fun H' s1=>?_⟩
 cases t with
 | true=>rw [if_pos rfl] at q ⊢;exact ⟨δ,d,R.mono s1,q,fun v H2 s2 r=>k v H2 (s1.trans s2) r⟩
 | false=>rw [if_neg Zs] at q ⊢;exact ⟨δ,d,R.mono s1,q,fun v H2 s2 r=>k v H2 (s1.trans s2) r⟩
section
variable {P:Program} {w:World} {K:Zr} {mg:Str->Option Value} {base:Heap}
end
end Dl
namespace Dl
open PySem PySem.Spec PyProof.Rows L2
end Dl
namespace Dl
open PySem PySem.Spec PyProof.Rows L2
def ur (fa fb:FM):FM:=fun δ=>(fa δ).bind fun p=>(fb p.2).bind fun q=>match p.1,q.1 with
 | .lst xs,.lst ys=>if xs.length+ys.length<=1000 then some (.lst (xs++ys),q.2) else none
 | _,_=>none
theorem RepOs.cat {K:Zr} {F H:Hp}:∀ {vs:List V} {ds:List D} {A:List Addr} {ws:List V} {es:List D} {B:List Addr},RepOs K F H vs ds A->RepOs K F H ws es B->RepOs K F H (vs++ws) (ds++es) (A++B)
 | _,_,_,_,_,_,.nil,h=>h
 | _,_,_,_,_,_,.cons r t e,h=>.cons r (t.cat h) (by rw [e,List.append_assoc])
section
variable {X:Cx} {a b:Expr} {pos:Pos} {fa fb:FM}
theorem AC (ha:PV X a fa) (hb:PV X b fb):PV X (.BinOp a .Add b pos) (ur fa fb):=imp (uT pD ha hb) fun σ H Q ⟨F,δ,As,d,δ',R,q,k⟩=>by
 unfold ur at q;obtain ⟨⟨d1,δ1⟩,e1,q⟩:=Za.mp q;obtain ⟨⟨d2,δ2⟩,e2,q⟩:=Za.mp q;refine ⟨F,δ,As,d1,δ1,R,e1,fun v F1 H1 A As1 ev1 R1 r1=>⟨F1,δ1,As1,d2,δ2,R1,e2,fun w F2 H2 B As2 ev2 R2 r2=>?_⟩⟩
 have evs:=ev1.seq ev2 fun x m=>(r1.dom x m).1
 have r1':=ev2.stays r1 ev1.dj;dsimp only at q;cases d1 with
 | lst xs =>
  cases d2 with
  | lst ys =>
   dsimp only at q
   by_cases hz:xs.length+ys.length<=1000
   . rw [if_pos hz] at q;cases q;cases r1' with
     | imm i _=>cases i
     | @lst p vs _ A hp np rp =>
      cases r2 with
      | imm i _=>cases i
      | @lst q ws _ B hq nq rq =>
       refine ⟨p,q,vs,ws,rfl,rfl,hp,hq,by rw [rp.length,rq.length];exact bn hz,fun l hl=>?_⟩
       have s:=aJ hl (.lst (vs++ws));have no:∀ {u:Hp},Same u H2->u l=none:=fun {u} su=>by
        cases z:u l with
        | none=>rfl
        | some o=>rw [su l o z] at hl;cases hl
       have rr:=rp.cat rq;have sub:∀ x,x∈A++B->x∈(p :: A)++(q :: B):=fun x m=>by
        rcases Zm.mp m with m | m
        . exact Zm.mpr (.inl (Zj _ m))
        . exact Zm.mpr (.inr (Zj _ m))
       have nd:(A++B).Nodup:=evs.nd.sublist (List.Sublist.append (List.sublist_cons_self p A) (List.sublist_cons_self q B));have ev':Ev F H As F2 (upd H2 l (.lst (vs++ws))) As2 (l :: (A++B)):=⟨evs.fs,evs.hs.trans s,evs.nf,evs.fa,fun x m=>by
        rcases Zn.mp m with z | z
        . subst z;exact .inr (no evs.hs)
        . exact evs.fA x (sub x z),List.nodup_cons.mpr ⟨fun m=>(by
          obtain ⟨⟨us,e⟩,_⟩:=rr.dom l m;rw [hl] at e;cases e),nd⟩,fun i x m z=>by
        rcases Zn.mp z with z | z
        . subst z;obtain ⟨⟨us,e⟩,_⟩:=R2.dom m;rw [hl] at e;cases e
        . exact evs.dj i x m (sub x z)⟩
       refine k _ F2 _ (l :: (A++B)) As2 ev' (R2.grow s) (.lst aw (no R2.fz) (rr.frame (aO s) fun x m=>?_))
       obtain ⟨⟨us,e⟩,_⟩:=rr.dom x m;rw [e];exact s x _ e
   . rw [if_neg hz] at q;cases q
  | _=>cases q
 | _=>cases q
end
end Dl
namespace Dl
open PySem PySem.Spec PyProof.Rows L2
def sJ (G:List D->Option D) (f:FM):FM:=fun δ=>(f δ).bind fun p=>(G [p.1]).bind fun d=>if imm d then some (d,p.2) else none
theorem pg {X:Cx} {e:Expr} {f:FM} {id:String} {x:Str} {p pos:Pos} {r:List V->Hp->VK->Prop} {G:List D->Option D} (hc:cW X (.builtin id) r) (hG:gG X.K r G) (hg:Gl X x) (hm:X.mg x=none) (hv:bootBuiltins x=some (.builtin id)) (h:PV X e f) (hn:x ≠ "__name__":=by decide) (hdb:(x == ("__debug__":Str))=false:=by decide)
 (he:starEach [e] X.env=(false,eval e X.env) :: starEach [] X.env:=by rfl) (hpl:(backTo pos (starEach [] X.env)).any (·.1)=false:=by rfl):PV X (.Call (.Name x p) [e] [] pos) (sJ G f) :=
 imp (jK hc hg hm hv (cn h dO he) hn hdb he hpl) fun σ H Q ⟨F,δ,As,d,δ',R,q,k⟩=>by
  unfold sJ at q;obtain ⟨⟨d1,δ1⟩,e1,q⟩:=Za.mp q;obtain ⟨d2,e2,q⟩:=Za.mp q
  by_cases hi:imm d2=true
  . rw [if_pos hi] at q;cases q;refine ⟨F,δ,As,[d1],δ1,R,by unfold bi iG;rw [e1];rfl,fun vs F1 H1 A As1 ev R1 r1 l=>?_⟩
    exact hG vs H1 Q [d1] d (RepOs.reps R1.fz r1) e2 fun v H2 s r2=>k v F1 H2 [] As1 ⟨ev.fs,ev.hs.trans s,ev.nf,ev.fa,fun _ m=>(by cases m),Zq,fun _ _ _ z=>(by cases z)⟩ (R1.grow s) (.imm hi r2)
  . rw [if_neg hi] at q;cases q
end Dl
namespace Hd
open PySem PySem.Spec PyProof.Rows L2
theorem walkE {l:PySem.W.OpenLaw} {n k:Nat} {q:Program} {loose:List Str} {XP:(Str->Option Value)->Heap->Prop} {YP:World->Heap->Prop} {d:DefRec} {T:Zr->Prop} {sp:Zr->Sp} {x:Str}
 (hn:l.most=some n) (hn2:n<=sizeLine) (hdf:d.params.defaults=[]) (hr:Room k callerA)
 (hY:∀ (w:World) (h:Heap),YP w h->∃ K:Zr,K.In h/\T K)
 (F:∀ (w:World) (K:Zr) (mg:Str->Option Value) (fa:Addr) (h:Heap),T K->K.In h->h.Ns mainGlobals mg->mg d.name=some (.ref fa) ->
  ∃ fd:FuncData,(∀ (s:Shared) (u:Value),BindsTo s fd ⟨[u],[]⟩ [(x,u)]) /\
   ∀ base:Heap,K.In base->base.Ns mainGlobals mg->FnOk l.prog w K mg base CX0 k fa fd [x] (sp K))
 (hsp:∀ (K:Zr) (H:Hp) (a:Addr) (ns:List Int),ns.length<=n->D8 H->SqL K H a (ns.map V.int)->sp K [.ref a] H (fun v _=>v=.bl true) fun _ _ _=>False) :
 PySem.W.WalkO q loose XP YP l.row.toRowW d [] (fun f vs=>PySem.call f vs):=by
 refine Att.attach_call hn hdf fun w s₀ s₁ mg mb fa o pm cd doc a vs ns G Y ho hd hcd hmg hobj hints hlen hg=>?_
 obtain ⟨K,KX,hT⟩:=hY w _ Y;obtain ⟨fd,hb,hF⟩:=F w K mg fa _ hT KX G.T.g hmg;exact yY KX G.T.g G.T.b G.T.builtins G.T.nolimit hg hobj hints (Nat.le_trans hlen hn2) hr hF hb (fun H hO hS=>hsp K H a ns hlen hO hS) fun H e s' z=>z
end Hd
namespace Hd
open PySem PySem.Spec PyProof.Rows PySem.W
end Hd
namespace Sw
open PySem
def Ri (xs:Array Nat):Prop:=xs.toList.Pairwise (· < ·)
theorem Ri.lt {xs:Array Nat} (h:Ri xs) {i k:Nat} (hik:i < k) (hk:k < xs.size):xs[i]'(Nat.lt_trans hik hk) < xs[k]:=by
 have:=List.pairwise_iff_getElem.mp h i k (by simp;omega) (by simpa using hk) hik
 simpa using this
theorem Ri.down {xs:Array Nat} (h:Ri xs) {j i k:Nat} (hik:i<=k) (hk:xs.getD k j < j):xs.getD i j < j:=by
 by_cases l:k < xs.size
 . have li:i < xs.size:=Nat.lt_of_le_of_lt hik l;rw [Array.getD_eq_getD_getElem?,Array.getElem?_eq_getElem l] at hk;rw [Array.getD_eq_getD_getElem?,Array.getElem?_eq_getElem li]
   by_cases e:i=k
   . subst e;exact hk
   . exact Nat.lt_trans (h.lt (by omega) l) hk
 . rw [Array.getD_eq_getD_getElem?,Array.getElem?_eq_none (by omega)] at hk
   exact absurd hk (ZB _)
theorem tR {xs:Array Nat} {j:Nat} (mono:∀ i k,i<=k->xs.getD k j < j->xs.getD i j < j):∀ (fuel lo hi:Nat),lo<=hi->hi - lo<=fuel->(∀ i,i < lo->xs.getD i j < j)->(∀ i,hi<=i->¬ xs.getD i j < j)->(∀ i,i < SetTable.below.go xs j fuel lo hi->xs.getD i j < j)/\∀ i,SetTable.below.go xs j fuel lo hi<=i->¬ xs.getD i j < j
 | 0,lo,hi,h,g,a,b=>by
  have:lo=hi:=by omega
  subst this;exact ⟨a,b⟩
 | fuel+1,lo,hi,h,g,a,b=>by
  unfold SetTable.below.go;split
  . rename_i l;dsimp only;split
    . rename_i c;exact tR mono fuel _ _ (by omega) (by omega) (fun i hi'=>mono i _ (Nat.le_of_lt_succ hi') c) b
    . rename_i c;exact tR mono fuel _ _ (by omega) (by omega) a (fun i hi' z=>c (mono _ i hi' z))
  . have:lo=hi:=by omega
    subst this;exact ⟨a,b⟩
theorem oG {xs:Array Nat} (h:Ri xs) (j:Nat):(∀ i,i < SetTable.below xs j->xs.getD i j < j)/\∀ i,SetTable.below xs j<=i->¬ xs.getD i j < j :=
 tR (fun _ _ a b=>h.down a b) xs.size 0 xs.size (Nat.zero_le _) (by omega) (fun _ z=>absurd z (Nat.not_lt_zero _)) (fun i hi z=>by
  rw [Array.getD_eq_getD_getElem?,Array.getElem?_eq_none hi] at z;exact absurd z (ZB _))
theorem uf {xs:Array Nat} (h:Ri xs) {i:Nat} (hi:i < xs.size):SetTable.below xs (xs[i]+1)=i+1:=by
 obtain ⟨a,b⟩:=oG h (xs[i]+1);rcases Nat.lt_trichotomy (SetTable.below xs (xs[i]+1)) (i+1) with c | c | c
 . have:=b i (by omega)
   rw [Array.getD_eq_getD_getElem?,Array.getElem?_eq_getElem hi] at this;exact absurd (Nat.lt_succ_self _) this
 . exact c
 . have:=a (i+1) c;have l:i+1 < xs.size:=by
    rcases Nat.lt_or_ge (i+1) xs.size with z | z
    . exact z
    . rw [Array.getD_eq_getD_getElem?,Array.getElem?_eq_none z] at this;exact absurd this (ZB _)
   rw [Array.getD_eq_getD_getElem?,Array.getElem?_eq_getElem l] at this;have q:xs[i] < xs[i+1]:=h.lt (k:=i+1) (by omega) l
   simp only [Option.getD_some] at this;omega
theorem ud {xs:Array Nat} (h:Ri xs):SetTable.below xs 0=0:=by
 rcases Nat.eq_zero_or_pos (SetTable.below xs 0) with c | c
 . exact c
 . exact absurd ((oG h 0).1 0 c) (Nat.not_lt_zero _)
end Sw
namespace Sw
open PySem
def fO:List (List Nat):=[[],[0],[1],[0,1],[2],[0,2],[1,2],[0,1,2],[3],[0,3],[1,3],[0,1,3],[2,3],[0,2,3],[1,2,3],[0,1,2,3],[4],[0,4],[1,4],[0,1,4],[2,4],[0,2,4],[1,2,4],[0,1,2,4],[3,4],[0,3,4],[1,3,4],[0,1,3,4],[2,3,4],[0,2,3,4],[1,2,3,4],[0,1,2,3,4]]
def t7 (led:Bool) (ks:List Nat):SetTable:={ mask:=7,place:=ks.toArray,dummies:=#[],finger:=0,led:=led,moves:=0,plain:=true }
def tb (led:Bool) (ks:List Nat):SetTable:=if ks.length=5 then { mask:=31,place:=ks.toArray,dummies:=#[],finger:=0,led:=led,moves:=1,plain:=true } else t7 led ks
def pos (ks:List Nat) (k:Nat):Nat:=SetTable.below ks.toArray k
def ins (ks:List Nat) (k:Nat):List Nat:=ks.take (pos ks k)++k :: ks.drop (pos ks k)
def jE (ks:List Nat) (k:Nat):List Nat:=if k∈ks then ks else ins ks k
theorem zq:∀ led∈[true,false],∀ ks∈fO,∀ k∈[0,1,2,3,4],k ∉ ks->(tb led ks).freeSlot (k:Int)=some (k,false)/\(tb led ks).put k=(t7 led (ins ks k),pos ks k)/\ins ks k∈fO/\pos ks k<=ks.length:=by decide +kernel
theorem FY:∀ ks∈fO,∀ k∈[0,1,2,3,4],∀ j∈[0,1,2,3,4],k ∉ ks->(j∈ins ks k <-> j=k \/ j∈ks):=by decide +kernel
theorem rJ:∀ led∈[true,false],∀ ks∈fO,(tb led ks).fits ks.length=true/\(t7 led ks).fits ks.length=true/\(t7 led ks).tooFull=decide (ks.length=5)/\ks.length<=5/\ks=(List.range 5).filter (fun k=>decide (k∈ks))/\(∀ k∈ks,k∈[0,1,2,3,4])/\(ks.length=5->ks=[0,1,2,3,4]):=by decide +kernel
theorem E8:∀ led∈[true,false],(t7 led [0,1,2,3,4]).relaid #[0,1,2,3,4] (SetTable.grown 5)=some (tb led [0,1,2,3,4],#[0,1,2,3,4])/\coversAll #[0,1,2,3,4] 5=true/\(tb led [0,1,2,3,4]).fits 5=true:=by decide +kernel
theorem tS:∀ k∈[0,1,2,3,4],hashInt ((k:Nat):Int)=((k:Nat):Int):=by decide +kernel
theorem gi (led:Bool):led∈[true,false]:=by cases led <;> simp
def EsIs:List (Int×Value)->List Nat->Prop
 | [],[]=>True
 | e :: es,k :: ks=>(∃ t,e=((k:Int),.int (k:Int) t))/\EsIs es ks
 | _,_=>False
theorem EsIs.len:∀ {es:List (Int×Value)} {ks:List Nat},EsIs es ks->es.length=ks.length
 | [],[],_=>rfl
 | e :: es,k :: ks,h=>by rw [Zh,Zh,h.2.len]
 | [],_ :: _,h=>h.elim
 | _ :: _,[],h=>h.elim
theorem EsIs.app:∀ {es fs:List (Int×Value)} {ks ls:List Nat},EsIs es ks->EsIs fs ls->EsIs (es++fs) (ks++ls)
 | [],_,[],_,_,g=>g
 | e :: es,_,k :: ks,_,h,g=>⟨h.1,h.2.app g⟩
 | [],_,_ :: _,_,h,_=>h.elim
 | _ :: _,_,[],_,h,_=>h.elim
theorem EsIs.cut:∀ (p:Nat) {es:List (Int×Value)} {ks:List Nat},EsIs es ks->EsIs (es.take p) (ks.take p)/\EsIs (es.drop p) (ks.drop p)
 | 0,_,_,h=>⟨trivial,h⟩
 | p+1,[],[],_=>⟨trivial,trivial⟩
 | p+1,e :: es,k :: ks,h=>⟨⟨h.1,(EsIs.cut p h.2).1⟩,(EsIs.cut p h.2).2⟩
 | _+1,[],_ :: _,h=>h.elim
 | _+1,_ :: _,[],h=>h.elim
theorem EsIs.mem:∀ {es:List (Int×Value)} {ks:List Nat},EsIs es ks->∀ e∈es,∃ k∈ks,∃ t,e=((k:Int),.int (k:Int) t)
 | e :: es,k :: ks,h,x,m=>by
  rcases Zn.mp m with q | q
  . obtain ⟨t,ht⟩:=h.1;exact ⟨k,Zi,t,q.trans ht⟩
  . obtain ⟨k',m',t,ht⟩:=h.2.mem x q;exact ⟨k',Zj _ m',t,ht⟩
 | [],_ :: _,h,_,_=>h.elim
 | _ :: _,[],h,_,_=>h.elim
theorem EsIs.has:∀ {es:List (Int×Value)} {ks:List Nat},EsIs es ks->∀ k∈ks,∃ t,((k:Int),Value.int (k:Int) t)∈es
 | e :: es,k :: ks,h,x,m=>by
  rcases Zn.mp m with q | q
  . obtain ⟨t,ht⟩:=h.1;exact ⟨t,by rw [q,<- ht];exact Zi⟩
  . obtain ⟨t,ht⟩:=h.2.has x q;exact ⟨t,Zj _ ht⟩
 | [],_ :: _,h,_,_=>h.elim
 | _ :: _,[],h,_,_=>h.elim
theorem EsIs.fst:∀ {es:List (Int×Value)} {ks:List Nat},EsIs es ks->es.map (·.1)=ks.map fun (k:Nat)=>(k:Int)
 | [],[],_=>rfl
 | e :: es,k :: ks,h=>by
  obtain ⟨t,ht⟩:=h.1;rw [List.map_cons,List.map_cons,h.2.fst,ht]
 | [],_ :: _,h=>h.elim
 | _ :: _,[],h=>h.elim
section
variable {prog:Program} {w:World} {A:Around} {E:Value->Shared->Prop} {s:Shared}
theorem EsIs.elems {es:List (Int×Value)} {ks:List Nat} (h:EsIs es ks) (g:∀ k∈ks,k∈[0,1,2,3,4]):ElemsOf (intKind prog w) es:=fun e m=>by
 obtain ⟨k,mk,t,rfl⟩:=h.mem e m;exact ⟨⟨(k:Int),intKind_is _ _ _ _,(tS k (g k mk)).symm⟩,rfl⟩
theorem eQ {α:Type} (xs:Array α) (p:Nat) (x:α):(SetTable.insertAt xs p x).toList=xs.toList.take p++x :: xs.toList.drop p:=by
 unfold SetTable.insertAt;simp [Array.toList_extract,List.extract_eq_drop_take,List.take_of_length_le]
theorem wI {led:Bool} {ks:List Nat} {k:Nat} {es:Array (Int×Value)} (x:Value) (hs:ks∈fO) (hk:k∈[0,1,2,3,4]) (n:k ∉ ks) (hl:es.size=ks.length):layNew (tb led ks) es (k:Int) x=(SetTable.insertAt es (pos ks k) ((k:Int),x),t7 led (ins ks k),false,false):=by
 obtain ⟨h1,h2,h3,h4⟩:=zq led (gi led) ks hs k hk n;have sz:(SetTable.insertAt es (pos ks k) ((k:Int),x)).size=(ins ks k).length:=by
  rw [<- ZC,eQ];unfold ins;rw [Zf,Zf,Zh,Zh,List.length_take,List.length_take,List.length_drop,List.length_drop,ZC,hl]
 have f:=(rJ led (gi led) (ins ks k) h3).2.1;unfold layNew;rw [h1];dsimp only;rw [h2];dsimp only;rw [sz];unfold SetTable.orStandIn;rw [f];rfl
theorem vm {es:Array (Int×Value)} {ks:List Nat} {k:Nat} (h:EsIs es.toList ks):(k∈ks->∃ j,es.toList.findIdx? (fun e=>(intKind prog w).is (k:Int) e.2)=some j)/\(k ∉ ks->es.toList.findIdx? (fun e=>(intKind prog w).is (k:Int) e.2)=none):=by
 constructor
 . intro m;obtain ⟨t,ht⟩:=h.has k m;cases q:es.toList.findIdx? (fun e=>(intKind prog w).is (k:Int) e.2) with
   | some j=>exact ⟨j,rfl⟩
   | none =>
    have:=List.findIdx?_eq_none_iff.mp q _ ht;rw [intKind_is] at this;cases this
 . intro n;refine List.findIdx?_eq_none_iff.mpr fun e m=>?_
   obtain ⟨k',mk,t,rfl⟩:=h.mem e m;cases q:(intKind prog w).is (k:Int) (Value.int (k':Int) t) with
   | false=>rfl
   | true =>
    have:=(intKind prog w).inj _ _ _ q (intKind_is _ _ _ _);have:k=k':=by omega
    exact absurd (this ▸ mk) n
theorem qG {led:Bool} {es:Array (Int×Value)} (h:EsIs es.toList [0,1,2,3,4]):relayAll (t7 led [0,1,2,3,4]) es (SetTable.grown es.size)=(es,tb led [0,1,2,3,4],false):=by
 obtain ⟨h1,h2,h3⟩:=E8 led (gi led);have sz:es.size=5:=by rw [<- ZC];exact h.len
 have em:es.map (·.1) = #[0,1,2,3,4]:=by
  apply Array.toList_inj.mp
  rw [Array.toList_map,h.fst];rfl
 have ef:(#[0,1,2,3,4]:Array Nat).filterMap (es[·]?)=es:=by
  obtain ⟨xs⟩:=es
  match xs,sz with
  | [a,b,c,d,e],_=>rfl
 unfold relayAll;rw [em,sz,h1];dsimp only;rw [ef,sz,h2,h3];rfl
def SetS (h:Heap) (a:Addr) (led:Bool) (ks:List Nat):Prop:=∃ o es ep,h.get? a=some o/\o.ExactSet/\o.data=.set es ep (tb led ks)/\EsIs es.toList ks/\ks∈fO
theorem xi {a:Addr} {led:Bool} {ks:List Nat} {k:Nat} {t:Tok} {Q:Bool->Shared->Prop} (hS:SetS s.heap a led ks) (hk:k∈[0,1,2,3,4])
 (q:∀ b h',Heap.SameBut a s.heap h'->SetS h' a led (jE ks k)->Q b { s with heap:=h' }):wpAny (model prog w) A (setAddHashed a (.int (k:Int) t) (k:Int)) Q E s:=by
 obtain ⟨o,es,ep,g1,g2,g3,g4,g5⟩:=id hS;obtain ⟨f1,_,_,f4,f5,f6,_⟩:=rJ led (gi led) ks g5;have sz:es.size=ks.length:=by rw [<- ZC];exact g4.len
 have fz:(tb led ks).fits es.size=true:=by rw [sz];exact f1
 have el:=g4.elems (prog:=prog) (w:=w) f6;have hh:(intKind prog w).hash (k:Int)=(k:Int):=tS k hk;unfold setAddHashed setAddHashedIn;refine wpAny_holding (wpAny_bind (wpAny_setState_of g1 g3 fz ?_));dsimp only;rw [byScan_of (knd:=intKind prog w) (x:=.int (k:Int) t) rfl (by rw [sz];show ks.length < 4096;omega) el]
 simp only [if_true];unfold setAddByScan;refine wpAny_bind (wpAny_bind (wpAny_rule (wpAny_bind ?_)));have sc:∀ (Q':ScanMet->Shared->Prop),Q' (match es.toList.findIdx? (fun e=>(intKind prog w).is (k:Int) e.2) with | some j=>.found (0+j) | none=>.absent) s->wpAny (model prog w) A (setScan a (.int (k:Int) t) (k:Int) true es) Q' E s:=fun Q' z=>by
  have y:=wpAny_setScan_of (prog:=prog) (w:=w) (A:=A) (E:=E) (adding:=true) (knd:=intKind prog w) (k:=(k:Int)) (x:=.int (k:Int) t) (intKind_is _ _ _ _) g1 g3 fz el z;rw [hh] at y;exact y
 refine sc _ ?_
 by_cases m:k∈ks
 . obtain ⟨j,hj⟩:=(vm (prog:=prog) (w:=w) (k:=k) g4).1 m;rw [hj];dsimp only;refine wpAny_pure (wpAny_pure ?_);have e:s={ s with heap:=s.heap }:=by cases s;rfl
   rw [e];refine q false s.heap (Heap.SameBut.refl a s.heap) ?_;unfold jE;rw [if_pos m];exact hS
 . rw [(vm (prog:=prog) (w:=w) (k:=k) g4).2 m];dsimp only;rw [wI (.int (k:Int) t) g5 hk m sz];dsimp only;obtain ⟨_,_,i3,i4⟩:=zq led (gi led) ks g5 k hk m;have ep':EsIs (SetTable.insertAt es (pos ks k) ((k:Int),Value.int (k:Int) t)).toList (ins ks k):=by
    rw [eQ];exact (g4.cut (pos ks k)).1.app ⟨⟨t,rfl⟩,(g4.cut (pos ks k)).2⟩
   obtain ⟨_,_,y3,y4,_,y6,y7⟩:=rJ led (gi led) (ins ks k) i3;have sz':(SetTable.insertAt es (pos ks k) ((k:Int),Value.int (k:Int) t)).size=(ins ks k).length:=by rw [<- ZC];exact ep'.len
   have epk:jE ks k=ins ks k:=by unfold jE;rw [if_neg m]
   generalize SetTable.insertAt es (pos ks k) ((k:Int),Value.int (k:Int) t)=es1 at *
   refine wpAny_bind (wpAny_pure ?_);rw [if_pos (show (t7 led (ins ks k)).plain=true from rfl)]
   refine wpAny_bind (wpAny_pure ?_);simp only [if_true];have l5:es1.size<=sizeLine:=by rw [sz',sizeLine_eq];omega
   refine wpAny_bind (wpAny_storeSet_of g1 g3 ?_ l5);have st1:(s.heap.update a (Obj.putSet es1 (t7 led (ins ks k)))).get? a=some { o with data:=.set es1 (ep+1) (t7 led (ins ks k)) }:=by
    have z:=Heap.get?_update_self (Obj.putSet es1 (t7 led (ins ks k))) g1 (by rw [putSet_of es1 _ g3];rfl)
    rw [putSet_of es1 _ g3] at z;exact z
   rw [y3]
   by_cases c5:(ins ks k).length=5
   . have e5:=y7 c5;rw [e5] at ep' epk st1 i3 ⊢;rw [if_pos (by decide),qG ep']
     dsimp only;refine wpAny_bind (wpAny_pure ?_);refine wpAny_bind (wpAny_storeSet_of st1 rfl ?_ l5);have z:=Heap.get?_update_self (Obj.putSet es1 (tb led [0,1,2,3,4])) st1 (by rw [putSet_of es1 _ rfl];rfl)
     rw [putSet_of es1 _ rfl] at z;exact wpAny_pure (wpAny_pure (q true _ ((Heap.SameBut.update ..).trans (Heap.SameBut.update ..)) ⟨_,es1,ep+1+1,z,g2,by rw [epk],by rw [epk];exact ep',by rw [epk];exact i3⟩))
   . rw [if_neg (by simp [c5])]
     refine wpAny_pure (wpAny_pure (q true _ (Heap.SameBut.update ..) ⟨_,es1,ep+1,st1,g2,?_,?_,?_⟩))
     . unfold tb;rw [epk,if_neg c5]
     . rw [epk];exact ep'
     . rw [epk];exact i3
end
end Sw
namespace Sw
open PySem PySem.Spec PyProof.Rows
def ledOf (w:World):Bool:=!(w.params.followText "set-order")
theorem slot_nx:Slot "set_iterator" "__next__" "set_iterator.__next__":=.of (owner:="set_iterator") (n:="__next__") (by rw [typeLookup_type,builtinLookup_eq_fast];kernel_rfl) (by decide +kernel) (by decide +kernel) (by decide +kernel) (by first | exact .inl (by decide +kernel) | exact .inr (by decide +kernel)) (by rw [isSubtype_type];kernel_rfl)
theorem zI:entryFor table "set_iterator.__next__" = some Builtin.«set_iterator.__next__»:=entryFor_of_fast (by kernel_rfl)
theorem DM:entryFor table "set.__iter__" = some Builtin.«frozenset.__iter__»:=entryFor_alias (id':="frozenset.__iter__") (by kernel_rfl) rfl (by decide +kernel) (by kernel_rfl)
theorem z7 (a:Value):argsOk "set_iterator.__next__" ⟨[a],[]⟩:=by unfold argsOk;kernel_rfl
theorem Du:typeLookup (.type "set") "__len__" = pure (some (.builtin "set.__len__")):=by rw [typeLookup_type,builtinLookup_eq_fast];kernel_rfl
abbrev itO (first:Value) (i:Nat) (a:Addr) (n ep:Nat):Obj:={ cls:=.type "set_iterator",data:=.fields #[first,.int i 0,.ref a,.int n 0,.int ep 0] }
section
variable {prog:Program} {w:World} {A:Around} {E:Value->Shared->Prop} {s:Shared} {a:Addr} {o:Obj} {es:Array (Int×Value)} {ep:Nat} {ks:List Nat}
theorem tQ {r:Addr} {Q:Bool->Shared->Prop} (T:s.TypeIs (.ref r) "set") (q:Q false s):wpAny (model prog w) A (Builtin.List.listLengthHint (.ref r)) Q E s:=by
 unfold Builtin.List.listLengthHint;refine wpAny_bind (wpAny_specialOf T Du ?_);generalize hid:("set.__len__":String)=id0
 wp_delta
 rw [show splitId id0=some ("set","__len__") from by subst hid;decide +kernel];subst hid
 refine wpAny_bind (wpAny_isInstance (T:="set") (b:=true) T (by rw [isSubtype_type];kernel_rfl) ?_);refine wpAny_ite_split (fun z=>absurd z (by decide)) (fun _=>?_);refine wpAny_ite_split (fun _=>?_) (fun z=>absurd (by decide +kernel) z)
 exact wpAny_bind (wpAny_typeOf T (wpAny_pure q))
theorem qK (led:Bool) (ks:List Nat):(tb led ks).plain=true:=by unfold tb;split <;> rfl
theorem Dv (led:Bool) (ks:List Nat):(tb led ks).led=led:=by unfold tb;split <;> rfl
theorem yg (led:Bool) (ks:List Nat):(tb led ks).place=ks.toArray:=by unfold tb;split <;> rfl
theorem zg {Q:Value->Shared->Prop} (g1:s.heap.get? a=some o) (g2:o.ExactSet) (g3:o.data=.set es ep (tb (ledOf w) ks)) (fz:(tb (ledOf w) ks).fits es.size=true) (q:Q (.ref s.heap.objs.size) { s with heap:=s.heap.push (itO (.int 0 0) 0 a es.size ep) }):wpAny (model prog w) A (pyIter (.ref a)) Q E s:=by
 have T:s.TypeIs (.ref a) "set":=⟨o,g1,g2.1⟩;refine wpAny_pyIter_slot T PySem.F.slot_set_iter (wpAny_call_entry PySem.F.slot_set_iter T DM ?_ (PySem.F.args_set_iter_1 _));unfold Builtin.«frozenset.__iter__»;refine wpAny_bind (m:=Builtin.Frozenset.slot0 "__iter__" _) (wpAny_pure ?_);refine wpAny_bind (m:=Builtin.Frozenset.sizeOf a) (wpAny_bind (wpAny_setEntries_of g1 g3 fz (wpAny_pure ?_)));refine wpAny_bind (m:=setDrawn a) ?_;unfold setDrawn setsByText;refine wpAny_bind (wpAny_setState_of g1 g3 fz ?_);dsimp only;refine wpAny_bind (wpAny_bind (wpAny_askSetting (wpAny_pure ?_)));refine wpAny_pure ?_;have dr:(!(model prog w).w.params.followText "set-order" && (!(tb (ledOf w) ks).plain && decide (es.size > 1)))=false:=by rw [qK];simp
 refine wpAny_ite_split (fun z=>?_) fun _=>?_
 . exact absurd (dr.symm.trans z) (by decide)
 refine wpAny_bind (wpAny_pure ?_);refine wpAny_bind (wpAny_setEpoch_of g1 g3 fz ?_);refine wpAny_bind (wpAny_newObj_type (wpAny_pure ⟨_,rfl,"set_iterator",_,⟨_,Heap.get?_push_size _ rfl,rfl⟩,slot_nx.lookup,?_⟩));exact q
def cX (w:World) (ks:List Nat):Nat->Nat
 | 0=>0
 | i+1=>if ledOf w then ks.getD i 0+1 else 0
def iH (w:World) (a:Addr) (ep:Nat) (es:Array (Int×Value)):Array (Int×Value):=if ledOf w then es else pickOrder (w.params.setOrder a ep) es
theorem BO:∀ ks∈fO,Ri ks.toArray:=fun ks m=>by
 have:∀ ks∈fO,ks.Pairwise (· < ·):=by decide +kernel
 exact this ks m
theorem nK (hl:ledOf w=true) (i:Nat):cX w ks (i+1)=ks.getD i 0+1:=by
 show (if ledOf w=true then ks.getD i 0+1 else 0)=_
 rw [if_pos hl]
theorem ue {i:Nat} (hl:ledOf w=true) (g5:ks∈fO) (hi:i<=ks.length):SetTable.below ks.toArray (cX w ks i)=i:=by
 cases i with
 | zero=>exact ud (BO ks g5)
 | succ i =>
  have l:i < ks.toArray.size:=by simp only [Zx];omega
  have:=uf (BO ks g5) l;rw [nK hl,Zo,Zp (by omega)]
  simpa using this
theorem v8 {Q:Array (Int×Value)->Shared->Prop} (ht:w.params.followText "set-order" = true) (g1:s.heap.get? a=some o) (g3:o.data=.set es ep (tb (ledOf w) ks)) (fz:(tb (ledOf w) ks).fits es.size=true) (q:Q (pickOrder (w.params.setOrder a ep) es) s):wpAny (model prog w) A (setWalk a) Q E s:=by
 unfold setWalk;refine wpAny_bind (wpAny_setState_of g1 g3 fz ?_);dsimp only;refine wpAny_bind (m:=setsByText) ?_;unfold setsByText;refine wpAny_bind (wpAny_askSetting (wpAny_pure ?_));refine wpAny_ite_split (fun _=>?_) (fun z=>absurd ht z)
 exact wpAny_bind (wpAny_askSetting (wpAny_pure q))
theorem mn {i:Nat} {Q:Option (Value×Nat)->Shared->Prop} (g1:s.heap.get? a=some o) (g3:o.data=.set es ep (tb (ledOf w) ks)) (fz:(tb (ledOf w) ks).fits es.size=true) (g5:ks∈fO) (sz:es.size=ks.length) (hi:i<=ks.length)
 (q:Q (((iH w a ep es)[i]?).map fun e=>(e.2,cX w ks (i+1))) s):wpAny (model prog w) A (setNext a (cX w ks i) i ep) Q E s:=by
 unfold setNext;refine wpAny_bind (wpAny_setState_of g1 g3 fz ?_);dsimp only;refine wpAny_bind (m:=setsByText) ?_;unfold setsByText;refine wpAny_bind (wpAny_askSetting (wpAny_pure ?_));cases ht:w.params.followText "set-order" with
 | true =>
  have nl:ledOf w=false:=by unfold ledOf;rw [ht];rfl
  have s0:∀ i,cX w ks i=0:=fun i=>by cases i with
   | zero=>rfl
   | succ i=>unfold cX;rw [nl];rfl
  refine wpAny_ite_split (fun _=>?_) (fun z=>absurd ht z)
  refine wpAny_ite_split (fun z=>absurd z (by simp)) (fun _=>?_)
  refine wpAny_bind (v8 ht g1 g3 fz (wpAny_pure ?_));rw [s0];unfold iH at q;rw [s0,nl] at q;exact q
 | false =>
  have yl:ledOf w=true:=by unfold ledOf;rw [ht];rfl
  refine wpAny_ite_split (fun z=>absurd (ht.symm.trans z) (by decide)) (fun _=>?_)
  refine wpAny_ite_split (fun z=>absurd z ?_) (fun _=>?_)
  . show ¬ ((!(tb (ledOf w) ks).plain && decide (es.size > 1))=true);rw [qK];simp
  refine wpAny_bind (wpAny_ite_split (fun z=>absurd z ?_) (fun _=>wpAny_pure ?_))
  . rw [Dv,yl];simp
  refine wpAny_pure ?_;rw [yg,ue yl g5 hi];unfold iH at q;rw [yl] at q;simp only [if_true] at q;rw [nK yl] at q
  by_cases l:i < ks.length
  . have e1:es[i]? = some es[i]:=Array.getElem?_eq_getElem (by omega)
    have e2:ks.toArray[i]? = some ks[i]:=by simp [l]
    rw [e1,Zo,Zp l] at q;rw [e1,e2];exact q
  . have e1:es[i]? = none:=Array.getElem?_eq_none (by omega)
    rw [e1] at q;rw [e1];exact q
theorem AH {I:Addr} {i:Nat} {e:Int×Value} {Q:Option Value->Shared->Prop} (hI:s.heap.get? I=some (itO (.int (cX w ks i) 0) i a es.size ep)) (g1:s.heap.get? a=some o) (g3:o.data=.set es ep (tb (ledOf w) ks)) (fz:(tb (ledOf w) ks).fits es.size=true) (g5:ks∈fO) (sz:es.size=ks.length) (hi:i < ks.length) (hx:(iH w a ep es)[i]? = some e)
 (q:∀ h',h'.get? I=some (itO (.int (cX w ks (i+1)) 0) (i+1) a es.size ep)->(∀ b o,b ≠ I->s.heap.get? b=some o->h'.get? b=some o)->Q (some e.2) { s with heap:=h' }):wpAny (model prog w) A (pyNext (.ref I)) Q E s:=by
 have T:s.TypeIs (.ref I) "set_iterator":=⟨_,hI,rfl⟩;unfold pyNext;refine wpAny_bind (wpAny_attempt (wpAny_callSpecial?_slot (name:=Str.ofString "__next__") T slot_nx (wpAny_call_entry slot_nx T zI ?_ (z7 _))));unfold Builtin.«set_iterator.__next__»;refine wpAny_bind (wpAny_pure ?_);refine wpAny_bind (wpAny_fieldsOf hI rfl ?_);dsimp only;refine wpAny_bind (wpAny_setEntries_of g1 g3 fz ?_);refine wpAny_ite_split (fun z=>absurd z (by simp)) (fun _=>?_)
 refine wpAny_bind (m:=setNext a _ _ _) ?_;simp only [Int.toNat_natCast];refine mn g1 g3 fz g5 sz (Nat.le_of_lt hi) ?_;rw [hx];dsimp only [Option.map_some];refine wpAny_bind (wpAny_setField hI rfl (by simp) ?_)
 have u1:(s.heap.update I (Obj.mapFields (·.setIfInBounds 0 (rawInt ((cX w ks (i+1):Nat):Int))))).get? I=some (itO (.int (cX w ks (i+1)) 0) i a es.size ep):=Heap.get?_update_self _ hI rfl;refine wpAny_bind (wpAny_setField u1 rfl (by simp) ?_)
 refine wpAny_pure ⟨_,rfl,wpAny_pure (q _ (Heap.get?_update_self _ u1 rfl) fun b o hb e=>?_)⟩
 exact (Heap.get?_update_other _ _ (Ne.symm hb)).trans ((Heap.get?_update_other _ _ (Ne.symm hb)).trans e)
theorem uC:Slot "set_iterator" "__iter__" "set_iterator.__iter__":=.of (owner:="set_iterator") (n:="__iter__") (by rw [typeLookup_type,builtinLookup_eq_fast];kernel_rfl) (by decide +kernel) (by decide +kernel) (by decide +kernel) (by first | exact .inl (by decide +kernel) | exact .inr (by decide +kernel)) (by rw [isSubtype_type];kernel_rfl)
theorem DL:entryFor table "set_iterator.__iter__" = some Builtin.«dict_keyiterator.__iter__»:=entryFor_alias (id':="dict_keyiterator.__iter__") (by kernel_rfl) rfl (by decide +kernel) (by kernel_rfl)
theorem D1 (a:Value):argsOk "set_iterator.__iter__" ⟨[a],[]⟩:=by unfold argsOk;kernel_rfl
theorem tU {α:Type} {l:List α} {i:Nat} (h:i < l.length):([l[i]]++l.eraseIdx i).Perm l:=by
 have e:l.take i++l[i] :: l.drop (i+1)=l:=by rw [List.getElem_cons_drop,List.take_append_drop]
 rw [List.eraseIdx_eq_take_drop_succ];exact (List.perm_middle (l₁:=l.take i) (l₂:=l.drop (i+1)) (a:=l[i])).symm.trans (List.Perm.of_eq e)
theorem uR {α:Type} (next:Nat->Nat):∀ (f k:Nat) (l:List α) (out:Array α),l.length<=f->(pickOrder.go next f k l out).toList.Perm (out.toList++l)
 | 0,k,l,out,h=>by
  have:l=[]:=List.eq_nil_of_length_eq_zero (by omega)
  subst this;rw [List.append_nil];exact List.Perm.refl _
 | f+1,k,l,out,h=>by
  unfold pickOrder.go
  by_cases z:l=[]
  . subst z;simp
  . have lp:0 < l.length:=List.length_pos_iff.mpr z;have lt:next k % l.length < l.length:=Nat.mod_lt _ lp;rw [Zp lt];dsimp only;refine (uR next f (k+1) _ _ (by rw [List.length_eraseIdx_of_lt lt];omega)).trans ?_
    rw [Array.toList_push,List.append_assoc];exact List.Perm.append_left _ (tU lt)
theorem wy {α:Type} (next:Nat->Nat) (xs:Array α):(pickOrder next xs).toList.Perm xs.toList:=by
 have:=uR next xs.size 0 xs.toList #[] (by simp)
 simpa [pickOrder] using this
theorem l8 (w:World) (a:Addr) (ep:Nat) (es:Array (Int×Value)):(iH w a ep es).toList.Perm es.toList:=by
 unfold iH;split
 . exact List.Perm.refl _
 . exact wy _ _
theorem l7 (w:World) (a:Addr) (ep:Nat) (es:Array (Int×Value)):(iH w a ep es).size=es.size:=by
 rw [<- ZC,(l8 w a ep es).length_eq,ZC]
end
end Sw
namespace Sw
open PySem PySem.Spec PyProof.Rows PySem.W
section
variable {prog:Program} {w:World} {A:Around} {E:Value->Shared->Prop} {s:Shared} {a:Addr} {o:Obj} {es:Array (Int×Value)} {ep:Nat} {ks:List Nat}
theorem jN:∀ {es:List (Int×Value)},(∀ e∈es,∃ t,e.2=.int e.1 t)->IntsAre (es.map (·.2)) (es.map (·.1))
 | [],_=>.nil
 | e :: es,h=>by
  obtain ⟨t,ht⟩:=h e Zi;rw [List.map_cons,List.map_cons,ht];exact .cons _ t (jN fun x m=>h x (Zj _ m))
theorem wp:∀ ks∈fO,(ks.map fun (k:Nat)=>(k:Int)).Pairwise (· <= ·):=by decide +kernel
end
def putAll (ns:List Nat):List Nat:=ns.foldl jE []
def srtN (ns:List Nat):List Nat:=(List.range 5).filter fun k=>decide (k∈ns)
theorem AD {ks:List Nat} {k:Nat} (hs:ks∈fO) (hk:k∈[0,1,2,3,4]):jE ks k∈fO/\∀ j∈[0,1,2,3,4],j∈jE ks k <-> j=k \/ j∈ks:=by
 unfold jE
 by_cases m:k∈ks
 . rw [if_pos m];exact ⟨hs,fun j _=>⟨.inr,fun h=>h.elim (fun e=>e ▸ m) id⟩⟩
 . rw [if_neg m];exact ⟨(zq true (by simp) ks hs k hk m).2.2.1,fun j hj=>FY ks hs k hk j hj m⟩
theorem rP:∀ (ns ks:List Nat),ks∈fO->(∀ k∈ns,k∈[0,1,2,3,4])->ns.foldl jE ks∈fO/\∀ j∈[0,1,2,3,4],j∈ns.foldl jE ks <-> j∈ns \/ j∈ks
 | [],ks,h,_=>⟨h,fun j _=>by simp⟩
 | k :: ns,ks,h,g=>by
  obtain ⟨p1,p2⟩:=AD h (g k Zi);obtain ⟨h1,h2⟩:=rP ns (jE ks k) p1 fun x m=>g x (Zj _ m)
  refine ⟨h1,fun j hj=>?_⟩
  rw [List.foldl_cons,h2 j hj,p2 j hj,Zn];constructor
  . rintro (a | a | a)
    . exact .inl (.inr a)
    . exact .inl (.inl a)
    . exact .inr a
  . rintro ((a | a) | a)
    . exact .inr (.inl a)
    . exact .inl a
    . exact .inr (.inr a)
theorem putAll_srt {ns:List Nat} (h:∀ k∈ns,k∈[0,1,2,3,4]):putAll ns=srtN ns:=by
 obtain ⟨h1,h2⟩:=rP ns [] (by decide) h
 have e:=(rJ true (by simp) _ h1).2.2.2.2.1
 unfold putAll srtN;rw [e];refine List.filter_congr fun j mj=>?_
 have mj':j∈[0,1,2,3,4]:=by
  have:j < 5:=List.mem_range.mp mj;simp only [Zn,Zz,or_false];omega
 have:=h2 j mj';simp only [Zz,or_false] at this;exact decide_eq_decide.mpr this
end Sw
namespace Sw
open PySem PySem.Spec PyProof.Rows
section
variable {prog:Program} {w:World} {A:Around} {E:Value->Shared->Prop} {s:Shared}
theorem SetS.same {h h':Heap} {a:Addr} {led:Bool} {ks:List Nat} (k:∀ o,h.get? a=some o->h'.get? a=some o) (x:SetS h a led ks):SetS h' a led ks:=by
 obtain ⟨o,es,ep,g,r⟩:=x;exact ⟨o,es,ep,k o g,r⟩
def Left (items:Array Value):Nat->List Nat->Prop
 | i,[]=>items[i]? = none
 | i,k :: ms=>(∃ t,items[i]? = some (.int (k:Int) t))/\k∈[0,1,2,3,4]/\Left items (i+1) ms
theorem kY {R:Result->Shared->Prop} {S I:Addr} (h:wpAny (model prog w) A.in1 (Builtin.«set.update.loop» ⟨[.ref S,.ref I],[]⟩) (fun fin s'=>match fin with | .done f=>R (.ok f) s' | .again c=>c.quiet=true/\codeAny (model prog w) A c R s') (fun e s'=>R (.error e) s') s):codeAny (model prog w) A (.builtin "set.update.loop" ⟨[.ref S,.ref I],[]⟩) R s :=
 codeAny_builtin PyProof.Rows.F.entry_set_update_loop (by rw [Around.under_plainId PyProof.Rows.F.plain_set_update_loop];exact h)
theorem wW {R:Result->Shared->Prop} {S I l:Addr} {items:Array Value} {led:Bool} (hh:A.handled=none) (d1:S ≠ I) (d2:l ≠ S) (d3:l ≠ I):∀ (ms:List Nat) (i:Nat) (ks:List Nat) (s:Shared),Left items i ms->s.heap.IsListIter I l i->s.heap.IsList l items->SetS s.heap S led ks ->
 (∀ h' tk,(∀ b o,b ≠ S->b ≠ I->s.heap.get? b=some o->h'.get? b=some o)->SetS h' S led (ms.foldl jE ks)->R (.ok (.ret .none)) { s with heap:=h',toks:=tk })->codeAny (model prog w) A (.builtin "set.update.loop" ⟨[.ref S,.ref I],[]⟩) R s:=by
 have hh1:A.in1.handled=none:=hh;intro ms
 induction ms with
 | nil =>
  intro i ks s hm hI hl hS hR;refine kY (wpAny_bind (m:=pyNext (.ref I)) (wpAny_pyNext_list_end hh1 hI hl hm fun h' x=>wpAny_pure (hR h' s.toks (fun b o _ b2 e=>x b o b2 e) (hS.same fun o e=>x S o d1 e))))
 | cons k ms ih =>
  intro i ks s hm hI hl hS hR;obtain ⟨⟨t,ht⟩,hk,hm⟩:=hm;refine kY (wpAny_bind (m:=pyNext (.ref I)) (wpAny_pyNext_list_item hI hl ht fun h1 hI1 s1=>?_))
  have hS1:SetS h1 S led ks:=hS.same fun o e=>(s1.2 S d1).trans e
  refine wpAny_bind (wpAny_holding (m:=setAdd S (.int (k:Int) t)) (wpAny_holding (wpAny_bind (wpAny_pyHash_int ?_))));rw [tS k hk];refine xi hS1 hk fun b h2 s2 hS2=>wpAny_pure ⟨plainId_quiet PyProof.Rows.F.plain_set_update_loop _,?_⟩
  refine ih (i+1) (jE ks k) _ hm (hI1.at fun o e=>(s2.2 I d1.symm).trans e) (hl.at fun o e=>(s2.2 l d2).trans ((s1.2 l d3).trans e)) hS2 fun h' tk kk q=>hR h' tk (fun b o b1 b2 e=>kk b o b1 b2 ((s2.2 b b1).trans ((s1.2 b b2).trans e))) q
theorem EX {T newId initId:String} {args:List Value} {Q:Value->Shared->Prop} (ft:TypeCalled T newId initId) (ct:checkTypeCall T ⟨args,[]⟩=pure ())
 (h:wpAny (model prog w) A.in1 (call (.builtin newId) (.type T :: args)) (fun obj s1=>s1.TypeIs obj T/\wpAny (model prog w) A.in1 (callSpecial? obj "__init__" args) (fun r s2=>r=some .none/\Q obj s2) E s1) E s):wpAny (model prog w) A (call (.type T) args) Q E s:=by
 obtain ⟨nt,cc,⟨c,tl,mr⟩,mb,_,su,_⟩:=ft;refine wpAny_call (codeAny_of_tree (wpAny_pure ⟨Code.quiet_builtin _ (by decide +kernel),codeAny_builtin F.entry_type_call ?_⟩))
 rw [Around.under_plain (weight_type_call_type T args []) (units_type_call_type T args [])];unfold Builtin.«type.__call__»
 wp_walk using wpAny_mono h
 . rintro obj s1 ⟨hT,hi⟩
   wp_walk using wpAny_mono hi
   . rintro r s2 ⟨rfl,q⟩
     wp_walk
     exact q
   . exact fun _ _ e=>e
 . exact fun _ _ e=>e
abbrev FJ (w:World):Obj:={ cls:=.type "set",dict:=none,data:=.set #[] 0 (t7 (ledOf w) []) }
theorem nY {x:Value} {Q:Value->Shared->Prop} (q:Q (.ref s.heap.objs.size) { s with heap:=s.heap.push (FJ w) }):wpAny (model prog w) A (call (.builtin "set.__new__") [.type "set",x]) Q E s:=by
 refine wpAny_call (codeAny_call_builtin PySem.F.plain_set_new PySem.F.entry_set_new (wpAny_of_eq (PySem.F.newCall_set_1 x) ?_));have su:=sub_set_self;obtain ⟨hp,g,d,tk,os⟩:=s;unfold Builtin.«set.__new__»
 wp_walk using wpAny_askSetting
 exact q
theorem tO {S l:Addr} {led:Bool} {items:Array Value} {ms:List Nat} {Q:Option Value->Shared->Prop} (hh:A.handled=none) (d2:l ≠ S) (hS:s.heap.get? S=some { cls:=.type "set",dict:=none,data:=.set #[] 0 (t7 led []) }) (hl:s.heap.IsList l items) (hm:Left items 0 ms)
 (q:∀ h' tk,(∀ b o,b ≠ S->s.heap.get? b=some o->h'.get? b=some o)->SetS h' S led (putAll ms)->Q (some .none) { s with heap:=h',toks:=tk }):wpAny (model prog w) A (callSpecial? (.ref S) "__init__" [.ref l]) Q E s:=by
 have hT:s.TypeIs (.ref S) "set":=⟨_,hS,rfl⟩;have TL:s.TypeIs (.ref l) "list":=hl.typeIs;have n1:=PySem.F.sub_list_set;have n2:=PySem.F.sub_list_frozenset;have hh1:A.in1.handled=none:=hh;have sl:S < s.heap.objs.size:=Heap.lt_size hS;have ll:l < s.heap.objs.size:=by obtain ⟨o,e,_⟩:=hl;exact Heap.lt_size e
 have st:∀ (Q:(Array (Int×Value)×Nat×SetTable)->Shared->Prop) (E:Value->Shared->Prop),Q (#[],0,t7 led []) s->wpAny (model prog w) A.in1 (setState S) Q E s:=fun Q E h=>wpAny_setState_of hS rfl (by cases led <;> decide +kernel) h
 refine wpAny_callSpecial?_slot hT PySem.F.called_set.init (wpAny_call (codeAny_call_builtin PySem.F.called_set.init.plain PySem.F.entry_set_init (check_set_init_1 hT ?_)));unfold Builtin.«set.__init__»
 wp_walk using st _ _,wpAny_pyIter_list hl
 refine wW (led:=led) hh1 (ZA sl) d2 (ZA ll) ms 0 [] _ hm ⟨_,Heap.get?_push_size _ rfl,rfl,rfl⟩ (hl.push _) ⟨_,#[],0,Heap.get?_push_of_some _ hS,⟨rfl,rfl,rfl⟩,rfl,trivial,by decide⟩ fun h' tk k x=>?_
 dsimp only
 wp_walk
 exact q h' tk (fun b o b1 e=>k b o b1 (ZA (Heap.lt_size e)) (Heap.get?_push_of_some _ e)) x
theorem set_small {l:Addr} {items:Array Value} {ms:List Nat} {Q:Value->Shared->Prop} (hh:A.handled=none) (hl:s.heap.IsList l items) (hm:Left items 0 ms)
 (q:∀ h' tk,(∀ b o,s.heap.get? b=some o->h'.get? b=some o)->SetS h' s.heap.objs.size (ledOf w) (putAll ms)->Q (.ref s.heap.objs.size) { s with heap:=h',toks:=tk }):wpAny (model prog w) A (call (.type "set") [.ref l]) Q E s:=by
 have ll:l < s.heap.objs.size:=by obtain ⟨o,e,_⟩:=hl;exact Heap.lt_size e
 refine EX PySem.F.called_set (PySem.F.typeCall_set_1 _) (nY ⟨⟨_,Heap.get?_push_size _ rfl,rfl⟩,tO hh (ZA ll) (Heap.get?_push_size _ rfl) (hl.push _) hm fun h' tk k x=>⟨rfl,q h' tk (fun b o e=>k b o (ZA (Heap.lt_size e)) (Heap.get?_push_of_some _ e)) x⟩⟩)
end
end Sw
namespace Sw
open PySem PySem.Spec PyProof.Rows
section
variable {prog:Program} {w:World} {A:Around} {E:Value->Shared->Prop} {s:Shared} {a:Addr} {o:Obj} {es:Array (Int×Value)} {ep:Nat} {ks:List Nat}
theorem CV {I:Addr} {Q:Option Value->Shared->Prop} (hh:A.handled=none) (hI:s.heap.get? I=some (itO (.int (cX w ks ks.length) 0) ks.length a es.size ep)) (g1:s.heap.get? a=some o) (g3:o.data=.set es ep (tb (ledOf w) ks)) (fz:(tb (ledOf w) ks).fits es.size=true) (g5:ks∈fO) (sz:es.size=ks.length)
 (q:∀ h',(∀ b o,b ≠ I->s.heap.get? b=some o->h'.get? b=some o)->Q none { s with heap:=h' }):wpAny (model prog w) A (pyNext (.ref I)) Q E s:=by
 have T:s.TypeIs (.ref I) "set_iterator":=⟨_,hI,rfl⟩;have hh1:A.in1.handled=none:=hh;have nx:∀ (Q:Option (Value×Nat)->Shared->Prop) (E:Value->Shared->Prop),Q none s->wpAny (model prog w) A.in1 (setNext a (cX w ks ks.length:Int).toNat (ks.length:Int).toNat (ep:Int).toNat) Q E s:=fun Q E h=>by
  simp only [Int.toNat_natCast];exact mn g1 g3 fz g5 sz (ZH _) (by rw [Array.getElem?_eq_none (by rw [l7,sz];exact ZH _)];exact h)
 have en:∀ (Q:Array (Int×Value)->Shared->Prop) (E:Value->Shared->Prop),Q es s->wpAny (model prog w) A.in1 (setEntries a) Q E s:=fun Q E h=>wpAny_setEntries_of g1 g3 fz h
 obtain ⟨hp,g,d,tk,os⟩:=s;unfold pyNext;refine wpAny_bind (wpAny_attempt (wpAny_callSpecial?_slot T slot_nx (wpAny_call_entry slot_nx T zI ?_ (z7 _))));unfold Builtin.«set_iterator.__next__»
 wp_walk using en _ _,nx _ _
 unfold raiseNew
 wp_walk
 refine wpAny_of_eq (show isSubtype (.type "StopIteration") (.type "StopIteration")=_ from isSubtype_stop) ?_
 wp_walk
 exact q _ fun b o n e=>Heap.get?_push_of_some _ (Heap.get?_push_of_some _ ((Heap.SameBut.update ..).extBut b o n e))
theorem D0 {i:Nat} (sz:es.size=ks.length) (hi:i < ks.length):∃ e,(iH w a ep es)[i]? = some e:=⟨_,Array.getElem?_eq_getElem (by rw [l7,sz];exact hi)⟩
def xn (w:World) (I a:Addr) (o:Obj) (es:Array (Int×Value)) (ep:Nat) (ks:List Nat) (i:Nat) (h:Heap):Prop:=h.get? I=some (itO (.int (cX w ks i) 0) i a es.size ep)/\h.get? a=some o
theorem qw {I:Addr} (hh:A.handled=none) (n:a ≠ I) (g3:o.data=.set es ep (tb (ledOf w) ks)) (fz:(tb (ledOf w) ks).fits es.size=true) (g5:ks∈fO) (sz:es.size=ks.length) :
 Walks prog w A I [I,a] [I] ks.length (fun i v=>∃ e,(iH w a ep es)[i]? = some e/\v=e.2) (xn w I a o es ep ks) where
 sub:=fun b hb=>by rw [Zk.mp hb];exact Zi
 frame:=fun i h h' st k=>⟨k I (by simp) _ st.1,k a (by simp) _ st.2⟩
 item:=fun i s Q E hi st q=>by
  obtain ⟨e,he⟩:=D0 (w:=w) (a:=a) (ep:=ep) sz hi;refine AH (e:=e) st.1 st.2 g3 fz g5 sz hi he fun h' x k=>q e.2 h' s.toks ⟨e,he,rfl⟩ ⟨x,k a o n st.2⟩ fun b o hb e=>k b o (fun z=>hb (by rw [z];exact List.mem_singleton_self _)) e
 done:=fun s Q E st q=>CV hh st.1 st.2 g3 fz g5 sz fun h' k=>q h' s.toks fun b o hb e=>k b o (fun z=>hb (by rw [z];exact List.mem_singleton_self _)) e
 self:=fun i s Q E st h=>by
  have T:s.TypeIs (.ref I) "set_iterator":=⟨_,st.1,rfl⟩;refine wpAny_pyIter_slot T uC (wpAny_call_entry uC T DL (wpAny_pure ⟨_,rfl,?_⟩) (D1 _));exact ⟨"set_iterator",_,T,slot_nx.lookup,h⟩
end
end Sw
namespace Sw
open PySem PySem.Spec PyProof.Rows PySem.W
section
variable {prog:Program} {w:World} {A:Around} {E:Value->Shared->Prop} {s:Shared} {a:Addr} {o:Obj} {es:Array (Int×Value)} {ep:Nat} {ks:List Nat}
theorem wl (g2:o.ExactSet) (g3:o.data=.set es ep (tb (ledOf w) ks)) (fz:(tb (ledOf w) ks).fits es.size=true) (g5:ks∈fO) (sz:es.size=ks.length) :
 KdlSrc prog w "set" a a ks.length (fun i v=>∃ e,(iH w a ep es)[i]? = some e/\v=e.2) (fun h=>h.get? a=some o) where
 type:=fun s ok=>⟨o,ok,g2.1⟩
 there:=fun h ok=>⟨Heap.lt_size ok,Heap.lt_size ok⟩
 keep:=fun h h' ok k=>k a (.inl rfl) _ ok
 notList:=by decide
 notTuple:=by decide
 hint:=fun A E s Q ok q=>tQ ⟨o,ok,g2.1⟩ q
 iter:=fun A s hh ok=>⟨_,xn w s.heap.objs.size a o es ep ks,fun E Q q=>zg ok g2 g3 fz q,qw hh (ZA (Heap.lt_size ok)) g3 fz g5 sz,Heap.get?_push_size _ rfl,Heap.get?_push_of_some _ ok⟩
theorem yE {acc:Array Value} (h:ItemsOf (fun i v=>∃ e,(iH w a ep es)[i]? = some e/\v=e.2) acc ks.length) (sz:es.size=ks.length):acc.toList=(iH w a ep es).toList.map (·.2):=by
 apply List.ext_getElem?
 intro i;rw [ZD,Array.getElem?_toList,Array.getElem?_toList];cases q:acc[i]? with
 | none =>
  have:acc.size<=i:=Array.getElem?_eq_none_iff.mp q;rw [Array.getElem?_eq_none (by rw [l7,sz,<- h.1];exact this)]
  rfl
 | some v =>
  obtain ⟨e,he,rfl⟩:=h.2 i v q;rw [he];rfl
theorem xA:∀ {l m:List Int},l.Perm m->l.Pairwise (· <= ·)->m.Pairwise (· <= ·)->l=m
 | [],m,p,_,_=>(List.nil_perm.mp p).symm
 | x :: l,[],p,_,_=>absurd p.length_eq (by simp)
 | x :: l,y :: m,p,hl,hm=>by
  have hx:=List.pairwise_cons.mp hl;have hy:=List.pairwise_cons.mp hm;have e:x=y:=by
   have a1:x<=y:=by
    rcases Zn.mp (p.symm.subset Zi) with z | z
    . omega
    . exact hx.1 y z
   have a2:y<=x:=by
    rcases Zn.mp (p.subset Zi) with z | z
    . omega
    . exact hy.1 x z
   omega
  subst e;rw [xA ((List.perm_cons x).mp p) hx.2 hy.2]
theorem sorted_small {Q:Value->Shared->Prop} (hh:A.handled=none) (hS:SetS s.heap a (ledOf w) ks)
 (q:∀ (h1 h':Heap) tk (out:Array Value),(∀ b o,s.heap.get? b=some o->h1.get? b=some o)->(∀ b o,h1.get? b=some o->h'.get? b=some o)->(∃ e,h'.get? h1.objs.size=some (seqObj "list" out e))->IntsAre out.toList (ks.map fun (k:Nat)=>(k:Int))->Q (.ref h1.objs.size) { s with heap:=h',toks:=tk }):wpAny (model prog w) A (call (.builtin "sorted") [.ref a]) Q E s:=by
 obtain ⟨o,es,ep,g1,g2,g3,g4,g5⟩:=hS;have sz:es.size=ks.length:=by rw [<- ZC];exact g4.len
 obtain ⟨f1,_,_,f4,_⟩:=rJ (ledOf w) (gi _) ks g5;have fz:(tb (ledOf w) ks).fits es.size=true:=by rw [sz];exact f1
 have K:=wl (prog:=prog) (a:=a) g2 g3 fz g5 sz;have hh1:A.in1.handled=none:=hh;have l5:ks.length<=sizeLine:=Nat.le_trans f4 (by decide)
 have pm:((iH w a ep es).toList.map (·.1)).Perm (ks.map fun (k:Nat)=>(k:Int)):=by
  rw [<- g4.fst];exact (l8 w a ep es).map _
 have it:∀ e∈(iH w a ep es).toList,∃ t,e.2=.int e.1 t:=fun e m=>by
  obtain ⟨k,_,t,rfl⟩:=g4.mem e ((l8 w a ep es).subset m);exact ⟨t,rfl⟩
 refine Calls.call_function_entry kind_sorted plain_sorted entry_sorted (args_sorted1 _) ?_;have co:∀ (R:List Value->Shared->Prop) (E:Value->Shared->Prop),(∀ (h':Heap) (tk:Nat) (acc:Array Value),(∀ b o,s.heap.get? b=some o->h'.get? b=some o)->ItemsOf (fun i v=>∃ e,(iH w a ep es)[i]? = some e/\v=e.2) acc ks.length->R acc.toList { s with heap:=h',toks:=tk })->wpAny (model prog w) A.in1 (collect (([.ref a]:List Value).headD .none)) R E s:=fun R E h=>kdu_collect K hh1 g1 l5 h
 unfold Builtin.«sorted»
 wp_walk using co _ _
 intro h1 tk acc k1 ia;have va:=yE ia sz;have il:IntsAre acc.toList ((iH w a ep es).toList.map (·.1)):=by
  rw [va];exact jN it
 have la:acc.toList.length=ks.length:=by rw [ZC];exact ia.1
 have szl:¬ acc.toList.toArray.size > sizeLine:=by
  rw [Zx,la];exact Nat.not_lt.mpr l5
 wp_walk
 rw [if_neg szl];have ho:(h1.push (seqObj "list" acc.toList.toArray 0)).get? h1.objs.size=some (seqObj "list" acc.toList.toArray 0):=Heap.get?_push_size _ rfl;have so:∀ (Q:Value->Shared->Prop) (E:Value->Shared->Prop),(∀ (h':Heap) (out:Array Value),(∀ b o,h1.get? b=some o->h'.get? b=some o)->(∃ e,h'.get? h1.objs.size=some (seqObj "list" out e))->IntsAre out.toList (ks.map fun (k:Nat)=>(k:Int))->Q .none { s with heap:=h',toks:=tk }) ->
  wpAny (model prog w) A.in1 (call (.builtin "list.sort") [.ref h1.objs.size]) Q E { s with heap:=h1.push (seqObj "list" acc.toList.toArray 0),toks:=tk }:=fun Q E h=>by
  refine wpAny_call_entry slot_list_sort ⟨_,ho,rfl⟩ entry_list_sort (list_sort_tree ho il (by omega) fun out ns' hI hp hP=>⟨.none,rfl,?_⟩) (args_list_sort _)
  obtain ⟨e,he⟩:=sortedHeap_at (out:=out) ho;refine h _ out (fun b o q=>?_) ⟨e,he⟩ (xA (hp.trans pm) hP (wp ks g5) ▸ hI)
  have lb:b < h1.objs.size:=Heap.lt_size q;rw [sortedHeap_old (ZA lb) (by rw [size_push'];exact Nat.lt_succ_of_lt lb)]
  exact Heap.get?_push_of_some _ q
 wp_walk using so _ _
 intro h2 out k2 li hI
 wp_walk
 exact ⟨_,rfl,q h1 h2 tk out k1 k2 li hI⟩
end
end Sw
namespace Sw
open PySem
theorem oP {α:Type}:∀ {l m:List α},l.Nodup->(∀ x∈l,x∈m)->l.length<=m.length
 | [],_,_,_=>Nat.zero_le _
 | x :: l,m,n,h=>by
  have n':=List.nodup_cons.mp n;obtain ⟨a,b,rfl⟩:=List.append_of_mem (h x Zi);have:=oP (m:=a++b) n'.2 fun y hy=>by
   have hm:=h y (Zj _ hy);rcases Zm.mp hm with z | z
   . exact List.mem_append_left _ z
   . rcases Zn.mp z with z | z
     . rw [z] at hy;exact absurd hy n'.1
     . exact Zu _ z
  rw [Zf] at this;rw [Zh,Zf,Zh];omega
theorem nL {t:SetTable} {j i:Nat} (h:t.slot j=.live i):t.place[i]? = some j:=by
 unfold SetTable.slot at h;dsimp only at h;split at h
 . rename_i c;cases h;exact eq_of_beq c
 . split at h <;> cases h
theorem qC {t:SetTable} (hd:t.dummies = #[]) (j:Nat):t.slot j=.empty \/ ∃ i,t.slot j=.live i:=by
 unfold SetTable.slot;dsimp only;split
 . exact .inr ⟨_,rfl⟩
 . rw [hd];exact .inl rfl
theorem wm {t:SetTable} (hd:t.dummies = #[]) (hp:t.place.size<=7):∃ j,j < 8/\t.slot j=.empty:=by
 apply Classical.byContradiction
 intro n;have all:∀ j∈List.range 8,j∈t.place.toList:=fun j m=>by
  rcases qC hd j with e | ⟨i,e⟩
  . exact absurd ⟨j,List.mem_range.mp m,e⟩ n
  . have:=nL e;rw [<- Array.getElem?_toList] at this;exact ZF this
 have:=oP List.nodup_range all;rw [List.length_range,ZC] at this;omega
def adv (t:SetTable):Nat->SetTable.Probe->SetTable.Probe
 | 0,p=>p
 | n+1,p=>adv t n (t.advance p)
structure P7 (p:SetTable.Probe):Prop where
 more:p.more=0
 ji:p.j=p.i
 lt:p.i < 8
 dm:p.dummy=none
 pt:p.perturb < 2 ^ 64
theorem BA {t:SetTable} (hm:t.mask=7) {p:SetTable.Probe} (h:P7 p):P7 (t.advance p)/\(t.advance p).i=(p.i*5+1+p.perturb / 32) % 8/\(t.advance p).perturb=p.perturb / 32:=by
 obtain ⟨h1,h2,h3,h4,h5⟩:=h;unfold SetTable.advance SetTable.leap SetTable.runEnd;rw [if_neg (by omega),hm]
 dsimp only;have l:(p.i*5+1+p.perturb / 32) % (7+1) < 8:=Nat.mod_lt _ (by decide)
 refine ⟨⟨?_,rfl,l,h4,by show p.perturb / 32 < 2 ^ 64;omega⟩,rfl,rfl⟩
 show (if _ then _ else _) - _=0
 rw [if_neg (by omega)]
 omega
theorem v5 (t:SetTable):∀ (n m:Nat) (p:SetTable.Probe),adv t (n+m) p=adv t m (adv t n p)
 | 0,m,p=>by rw [Nat.zero_add];rfl
 | n+1,m,p=>by
  rw [show n+1+m=(n+m)+1 by omega]
  exact v5 t n m (t.advance p)
theorem ug {t:SetTable} (hm:t.mask=7):∀ (n:Nat) {p:SetTable.Probe},P7 p->P7 (adv t n p)/\(adv t n p).perturb=p.perturb / 32 ^ n
 | 0,p,h=>⟨h,by simp [adv]⟩
 | n+1,p,h=>by
  obtain ⟨a,_,c⟩:=BA hm h;obtain ⟨d,e⟩:=ug hm n a;refine ⟨d,?_⟩;show (adv t n (t.advance p)).perturb=_;rw [e,c,Nat.div_div_eq_div_mul,Nat.pow_succ,Nat.mul_comm]
def lcg:Nat->Nat->Nat
 | 0,i=>i
 | n+1,i=>lcg n ((i*5+1) % 8)
theorem Be:∀ i∈List.range 8,∀ j∈List.range 8,∃ n∈List.range 8,lcg n i=j:=by decide +kernel
theorem v4 {t:SetTable} (hm:t.mask=7):∀ (n:Nat) {p:SetTable.Probe},P7 p->p.perturb=0->(adv t n p).i=lcg n p.i
 | 0,_,_,_=>rfl
 | n+1,p,h,z=>by
  obtain ⟨a,b,c⟩:=BA hm h;show (adv t n (t.advance p)).i=lcg n ((p.i*5+1) % 8);rw [v4 hm n a (by rw [c,z])]
  rw [b,z]
theorem Ew {t:SetTable} (hm:t.mask=7) (hd:t.dummies = #[]) (hp:t.place.size<=7) {p:SetTable.Probe} (h:P7 p):∃ n,n<=20/\t.slot (adv t n p).j=.empty:=by
 obtain ⟨j,hj,ej⟩:=wm hd hp;obtain ⟨a,b⟩:=ug hm 13 h;have z:(adv t 13 p).perturb=0:=by
  rw [b];have:=h.pt;exact Nat.div_eq_of_lt (Zt this (by decide))
 obtain ⟨n,hn,en⟩:=Be _ (List.mem_range.mpr a.lt) j (List.mem_range.mpr hj);have hn:=List.mem_range.mp hn;refine ⟨13+n,by omega,?_⟩
 rw [v5,(ug hm n a).1.ji,v4 hm n a z,en];exact ej
theorem xz {t:SetTable} (hm:t.mask=7) (h:Int):P7 (t.probeStart h):=by
 have e:SetTable.bits h % (t.mask+1) < 8:=by rw [hm];exact Nat.mod_lt _ (by decide)
 refine ⟨?_,rfl,e,rfl,?_⟩
 . show SetTable.runEnd t.mask _ - _=0;unfold SetTable.runEnd;rw [if_neg (by omega)]
   omega
 . show SetTable.bits h < 2 ^ 64;unfold SetTable.bits;have:=Int.emod_lt_of_pos h (show (0:Int) < 2 ^ 64 by decide)
   have:=Int.emod_nonneg h (show (2 ^ 64:Int) ≠ 0 by decide)
   omega
theorem go7 {t:SetTable} {ha:Nat->Int} {h:Int} (hm:t.mask=7) (hd:t.dummies = #[]):∀ (n fuel:Nat) (p:SetTable.Probe),n < fuel->P7 p->t.slot (adv t n p).j=.empty->(∃ j,SetTable.probe.go t ha h fuel p=some (.empty j none)) \/ ∃ j i m nx,SetTable.probe.go t ha h fuel p=some (.candidate j i nx)/\t.slot j=.live i/\P7 nx/\m < n/\t.slot (adv t m nx).j=.empty
 | n,0,_,l,_,_=>absurd l (Nat.not_lt_zero _)
 | n,fuel+1,p,l,hp,e=>by
  unfold SetTable.probe.go;rcases qC hd p.j with z | ⟨i,z⟩
  . rw [z];exact .inl ⟨p.j,by rw [hp.dm]⟩
  . rw [z];dsimp only;cases n with
    | zero =>
     rw [show adv t 0 p=p from rfl,z] at e
     cases e
    | succ n =>
     split
     . exact .inr ⟨p.j,i,n,_,rfl,z,(BA hm hp).1,Nat.lt_succ_self _,e⟩
     . rcases go7 hm hd n fuel (t.advance p) (by omega) (BA hm hp).1 e with q | ⟨j,i,m,nx,q1,q2,q3,q4,q5⟩
       . exact .inl q
       . exact .inr ⟨j,i,m,nx,q1,q2,q3,by omega,q5⟩
theorem zA {α:Type} {f g:Nat->Option α} {j:Nat}:∀ (l:List Nat),l.Nodup->j∈l->f j=none->(g j).isSome=true->(∀ i,i ≠ j->g i=f i)->(l.filterMap g).length=(l.filterMap f).length+1
 | [],_,m,_,_,_=>nomatch m
 | x :: l,n,m,e,s,h=>by
  have n':=List.nodup_cons.mp n;rcases Zn.mp m with z | z
  . subst z;have:∀ (l:List Nat),j ∉ l->l.filterMap g=l.filterMap f:=fun l=>by
     induction l with
     | nil=>intro _;rfl
     | cons y l ih =>
      intro q;have q1:y ≠ j:=fun z=>q (z ▸ Zi)
      have q2:=ih fun z=>q (Zj _ z)
      rw [List.filterMap_cons,List.filterMap_cons,h y q1,q2]
    have:=this l n'.1;obtain ⟨v,hv⟩:=Option.isSome_iff_exists.mp s;rw [List.filterMap_cons_none e,List.filterMap_cons_some hv,this];rfl
  . have ne:x ≠ j:=fun q=>n'.1 (q ▸ z)
    have ih:=zA l n'.2 z e s h;cases q:f x with
    | none=>rw [List.filterMap_cons_none q,List.filterMap_cons_none ((h x ne).trans q),ih]
    | some v=>rw [List.filterMap_cons_some q,List.filterMap_cons_some ((h x ne).trans q),Zh,Zh,ih]
def lv (o:Array (Option Nat)):List (Nat×Nat):=(List.range 32).filterMap fun j=>(o.getD j none).map (j,·)
structure Ow (o:Array (Option Nat)) (k:Nat):Prop where
 sz:o.size=32
 ct:(lv o).length=k
 lt:∀ x∈lv o,x.2 < k
theorem yD:Ow (Array.replicate 32 none) 0:=⟨by decide,by decide +kernel,fun x m=>by
 have:lv (Array.replicate 32 none)=[]:=by decide +kernel
 rw [this] at m;cases m⟩
theorem lv_mem {o:Array (Option Nat)} {x:Nat×Nat}:x∈lv o <-> x.1 < 32/\o.getD x.1 none=some x.2:=by
 unfold lv;rw [List.mem_filterMap];constructor
 . rintro ⟨j,m,e⟩
   obtain ⟨v,hv,e⟩:=Zb.mp e;rw [<- e];exact ⟨List.mem_range.mp m,hv⟩
 . rintro ⟨a,b⟩
   exact ⟨x.1,List.mem_range.mpr a,by rw [b];rfl⟩
theorem Db {o:Array (Option Nat)} {k j:Nat} (h:Ow o k) (hj:j < 32) (e:o.getD j none=none):Ow (o.setIfInBounds j (some k)) (k+1):=by
 have gt:∀ i,(o.setIfInBounds j (some k)).getD i none=if i=j then some k else o.getD i none:=fun i=>by
  rw [Array.getD_eq_getD_getElem?,Array.getD_eq_getD_getElem?,Array.getElem?_setIfInBounds]
  by_cases c:j=i
  . rw [if_pos c,if_pos c.symm,if_pos (by rw [h.sz];exact hj)]
    rfl
  . rw [if_neg c,if_neg (Ne.symm c)]
 refine ⟨by rw [Array.size_setIfInBounds];exact h.sz,?_,fun x m=>?_⟩
 . unfold lv;rw [zA (f:=fun j=>(o.getD j none).map (j,·)) (j:=j) _ List.nodup_range (List.mem_range.mpr hj) (by rw [e];rfl) (by rw [gt,if_pos rfl];rfl) (fun i hi=>by rw [gt,if_neg hi])]
   rw [<- h.ct];rfl
 . obtain ⟨a,b⟩:=lv_mem.mp m;rw [gt] at b;split at b
   . cases b;exact Nat.lt_succ_self _
   . exact Nat.lt_succ_of_lt (h.lt x (lv_mem.mpr ⟨a,b⟩))
theorem xN {o:Array (Option Nat)} {k i:Nat} (h:Ow o k) (hk:k<=4) (hi:i < 23):∃ c,((List.range (SetTable.runEnd 31 i+1 - i)).find? fun c=>(o.getD (i+c) (some 0)).isNone)=some c:=by
 have er:SetTable.runEnd 31 i+1 - i=10:=by
  unfold SetTable.runEnd;rw [if_pos (by omega)]
  omega
 rw [er];cases q:(List.range 10).find? fun c=>(o.getD (i+c) (some 0)).isNone with
 | some c=>exact ⟨c,rfl⟩
 | none =>
  exfalso;have all:=List.find?_eq_none.mp q;have:=oP (l:=(List.range 10).map (i + ·)) (m:=(lv o).map (·.1)) (by
   exact List.pairwise_map.mpr (List.nodup_range.imp fun {a b} n e=>n (by omega))) fun x m=>by
   obtain ⟨c,hc,rfl⟩:=Zl.mp m;have hc':=List.mem_range.mp hc;have z:=all c hc;have l:i+c < o.size:=by rw [h.sz];omega
   rw [Array.getD_eq_getD_getElem?,Array.getElem?_eq_getElem l] at z;cases w:o[i+c] with
   | none=>rw [w] at z;exact absurd rfl z
   | some v =>
    refine Zl.mpr ⟨(i+c,v),lv_mem.mpr ⟨by omega,?_⟩,rfl⟩
    rw [Array.getD_eq_getD_getElem?,Array.getElem?_eq_getElem l,w];rfl
  rw [Zg,Zg,List.length_range,h.ct] at this;omega
theorem wV {o:Array (Option Nat)} {k i c:Nat} (h:Ow o k) (hi:i < 32) (e:((List.range (SetTable.runEnd 31 i+1 - i)).find? fun c=>(o.getD (i+c) (some 0)).isNone)=some c):i+c < 32/\o.getD (i+c) none=none:=by
 have m:=List.mem_of_find?_eq_some e;have p:=List.find?_some e;have m:=List.mem_range.mp m;have l:i+c < 32:=by
  unfold SetTable.runEnd at m;split at m <;> omega
 refine ⟨l,?_⟩;have l':i+c < o.size:=by rw [h.sz];exact l
 rw [Array.getD_eq_getD_getElem?,Array.getElem?_eq_getElem l'] at p ⊢;exact Option.isNone_iff_eq_none.mp p
def lpn:Nat->Nat->Nat->Nat×Nat
 | 0,i,q=>(i,q)
 | n+1,i,q=>lpn n ((i*5+1+q / 32) % 32) (q / 32)
theorem ve:∀ (n m i q:Nat),lpn (n+m) i q=lpn m (lpn n i q).1 (lpn n i q).2
 | 0,m,i,q=>by rw [Nat.zero_add];rfl
 | n+1,m,i,q=>by
  rw [show n+1+m=(n+m)+1 by omega]
  exact ve n m _ _
theorem B5:∀ (n i q:Nat),i < 32->(lpn n i q).1 < 32/\(lpn n i q).2=q / 32 ^ n
 | 0,i,q,h=>⟨h,by simp [lpn]⟩
 | n+1,i,q,h=>by
  obtain ⟨a,b⟩:=B5 n ((i*5+1+q / 32) % 32) (q / 32) (Nat.mod_lt _ (by decide))
  refine ⟨a,?_⟩;show (lpn n _ _).2=_;rw [b,Nat.div_div_eq_div_mul,Nat.pow_succ,Nat.mul_comm]
theorem A7:∀ i∈List.range 32,∃ n∈List.range 6,(lpn n i 0).1 < 23:=by decide +kernel
theorem wH {i q:Nat} (hi:i < 32) (hq:q < 2 ^ 64):∃ n,n<=18/\(lpn n i q).1 < 23:=by
 obtain ⟨a,b⟩:=B5 13 i q hi;have z:(lpn 13 i q).2=0:=by
  rw [b];exact Nat.div_eq_of_lt (Zt hq (by decide))
 obtain ⟨n,hn,e⟩:=A7 _ (List.mem_range.mpr a);have hn:=List.mem_range.mp hn;refine ⟨13+n,by omega,?_⟩
 rw [ve,z];exact e
theorem mJ {o:Array (Option Nat)} {k:Nat} (h:Ow o k) (hk:k<=4):∀ (n fuel i q:Nat),n < fuel->i < 32->(lpn n i q).1 < 23->∃ j,SetTable.layClean.free 31 o fuel i q=some j/\j < 32/\o.getD j none=none
 | n,0,_,_,l,_,_=>absurd l (Nat.not_lt_zero _)
 | n,fuel+1,i,q,l,hi,e=>by
  unfold SetTable.layClean.free;cases z:(List.range (SetTable.runEnd 31 i+1 - i)).find? fun c=>(o.getD (i+c) (some 0)).isNone with
  | some c =>
   obtain ⟨a,b⟩:=wV h hi z;exact ⟨i+c,rfl,a,b⟩
  | none =>
   cases n with
   | zero =>
    obtain ⟨c,hc⟩:=xN h hk (show i < 23 from e)
    rw [z] at hc;cases hc
   | succ n =>
    unfold SetTable.leap;dsimp only;exact mJ h hk n fuel _ _ (by omega) (Nat.mod_lt _ (by decide)) e
theorem rm:∀ (hs:List Int) (o:Array (Option Nat)) (k:Nat),Ow o k->k+hs.length<=5->∃ o',hs.foldl (fun (acc:Option (Array (Option Nat)×Nat)) h=>do
 let (owner,k) <- acc
 let j <- SetTable.layClean.free 31 owner (SetTable.turns 31) (SetTable.bits h % (31+1)) (SetTable.bits h)
 pure (owner.setIfInBounds j (some k),k+1)) (some (o,k))=some (o',k+hs.length)/\Ow o' (k+hs.length)
 | [],o,k,h,_=>⟨o,rfl,h⟩
 | x :: hs,o,k,h,l=>by
  rw [Zh] at l;have hb:SetTable.bits x < 2 ^ 64:=by
   unfold SetTable.bits;have:=Int.emod_lt_of_pos x (show (0:Int) < 2 ^ 64 by decide)
   have:=Int.emod_nonneg x (show (2 ^ 64:Int) ≠ 0 by decide)
   omega
  have hi:SetTable.bits x % (31+1) < 32:=Nat.mod_lt _ (by decide)
  obtain ⟨n,hn,en⟩:=wH hi hb;obtain ⟨j,ej,lj,nj⟩:=mJ h (by omega) n (SetTable.turns 31) _ _ (by show n < 46;omega) hi en
  obtain ⟨o',e',w⟩:=rm hs _ (k+1) (Db h lj nj) (by omega)
  refine ⟨o',?_,by rw [Zh,show k+(hs.length+1)=k+1+hs.length by omega];exact w⟩
  rw [List.foldl_cons,Zh,show k+(hs.length+1)=k+1+hs.length by omega,<- e']
  congr 1
  show ((some (o,k)).bind _)=_;dsimp only [Option.bind_some];rw [ej];rfl
theorem At {t:SetTable} {hs:Array Int} (n:hs.size=5):∃ t' ord,t.relaid hs (SetTable.grown 5)=some (t',ord)/\t'.fits 5=true/\ord.size=5/\∀ k∈ord.toList,k < 5:=by
 have hl:hs.toList.length=5:=by rw [ZC];exact n
 obtain ⟨o',e',w⟩:=rm hs.toList (Array.replicate 32 none) 0 yD (by omega)
 rw [hl] at e' w;have m31:SetTable.sizeAbove (SetTable.grown 5) - 1=31:=by decide +kernel
 unfold SetTable.relaid;rw [m31];unfold SetTable.laid SetTable.layClean;rw [<- Array.foldl_toList,e'];refine ⟨_,_,rfl,?_,?_,?_⟩
 . have hc:(lv o').length=5:=w.ct;show (_ == _ && decide (_<=_))=true;unfold SetTable.fill;have:((List.map (fun x=>x.1) (lv o')).toArray).size=5:=by rw [Zx,Zg,hc]
   simp only [ZI,decide_eq_true_eq,beq_iff_eq];exact ⟨this,by
    show ((List.map (fun x=>x.1) (lv o')).toArray).size+0<=31
    rw [this];decide⟩
 . show ((lv o').map (·.2)).toArray.size=5;rw [Zx,Zg];exact w.ct
 . intro k hk;have hk:k∈(lv o').map (·.2):=hk;obtain ⟨x,mx,rfl⟩:=Zl.mp hk;exact w.lt x mx
end Sw
namespace Sw
open PySem PySem.Spec PyProof.Rows
section
variable {prog:Program} {w:World} {A:Around} {E:Value->Shared->Prop} {s:Shared}
theorem w9 (n:Nat) {v:Value} (h:carriedByValue v=true):ofAClassStatement n v=pure false:=by
 cases v with
 | ref a=>simp [carriedByValue] at h
 | _=>first | rfl | simp [ofAClassStatement] | (unfold ofAClassStatement;rfl)
theorem tN {ks:List Int} {vs:List Value} (h:ItemsAre (intKind prog w) ks vs):∀ v∈vs,∃ k t,v=.int k t:=by
 induction h with
 | nil=>intro v m;cases m
 | cons h1 _ ih =>
  intro v m;rcases Zn.mp m with z | z
  . obtain ⟨t,e⟩:=Value.isInt_shape h1;exact ⟨_,t,z.trans e⟩
  . exact ih v z
theorem oy {ks:List Int} {a:Addr} {Q:Bool->Shared->Prop} (hk:IsTupleKey (intKind prog w) s.heap ks a) (q:Q false s):wpAny (model prog w) A (ofAClassStatement 8 (.ref a)) Q E s:=by
 have hT:=hk.typeIs;obtain ⟨o,items,n,ho,_,hd,hi⟩:=hk;unfold ofAClassStatement;refine wpAny_bind (wpAny_typeOf hT ?_);dsimp only;refine wpAny_bind (wpAny_pure ?_);refine wpAny_bind (wpAny_seqItems ho hd ?_);dsimp only;refine wpAny_bind ?_;show wpAny _ _ (forIn items _ _) _ _ s;rw [<- Array.forIn_toList];refine wpAny_forIn_list _ (fun rest r s'=>r.1=none/\s'=s/\∀ v∈rest,carriedByValue v=true) _ ?_ ?_ _ _ ⟨rfl,rfl,hi.byValue⟩
 . rintro v rest r s' ⟨hr,rfl,hall⟩
   rw [w9 _ (hall v Zi)];refine wpAny_bind (wpAny_pure ?_);exact wpAny_pure ⟨rfl,rfl,fun u hu'=>hall u (Zj _ hu')⟩
 . rintro ⟨r1,r2⟩ s' ⟨hr,rfl,_⟩
   simp only at hr;subst hr;exact wpAny_pure q
theorem Ag {ks:List Int} {a:Addr} {Q:Bool->Shared->Prop} (hk:IsTupleKey (intKind prog w) s.heap ks a) (q:Q true s):wpAny (model prog w) A (hashByValue 8 (.ref a)) Q E s:=by
 have hT:=hk.typeIs;obtain ⟨o,items,n,ho,_,hd,hi⟩:=hk;unfold hashByValue;refine wpAny_bind (wpAny_specialOf hT F.slot_tuple_hash.lookup ?_);dsimp only;refine wpAny_bind (wpAny_seqItems ho hd ?_);dsimp only [Option.getD_some];refine wpAny_bind ?_;show wpAny _ _ (forIn items _ _) _ _ s;rw [<- Array.forIn_toList];refine wpAny_forIn_list _ (fun rest r s'=>r.1=none/\s'=s/\∀ v∈rest,∃ k t,v=.int k t) _ ?_ ?_ _ _ ⟨rfl,rfl,tN hi⟩
 . rintro v rest r s' ⟨hr,rfl,hall⟩
   obtain ⟨k,t,rfl⟩:=hall v Zi;rw [show hashByValue 7 (.int k t)=pure true by simp [hashByValue]]
   refine wpAny_bind (wpAny_pure ?_);exact wpAny_pure ⟨rfl,rfl,fun u hu'=>hall u (Zj _ hu')⟩
 . rintro ⟨r1,r2⟩ s' ⟨hr,rfl,_⟩
   simp only at hr;subst hr;exact wpAny_pure q
theorem xG {ks:List Int} {a:Addr} {Q:Bool->Shared->Prop} (hk:IsTupleKey (intKind prog w) s.heap ks a) {ys:List Value} (hy:∀ y∈ys,∃ b kb,y=.ref b/\IsTupleKey (intKind prog w) s.heap kb b) (q:Q false s):wpAny (model prog w) A (searchCouldBeSeen (.ref a) ys) Q E s:=by
 unfold searchCouldBeSeen;refine wpAny_bind ?_;refine wpAny_forIn_list _ (fun rest r s'=>r.1=none/\s'=s/\∀ y∈rest,∃ b kb,y=.ref b/\IsTupleKey (intKind prog w) s.heap kb b) _ ?_ ?_ _ _ ⟨rfl,rfl,hy⟩
 . rintro y rest r s' ⟨hr,rfl,hall⟩
   obtain ⟨b,kb,rfl,hb⟩:=hall y Zi;have tl:∀ u∈rest,∃ b kb,u=Value.ref b/\IsTupleKey (intKind prog w) s'.heap kb b:=fun u hu=>hall u (Zj _ hu)
   dsimp only;split
   . exact wpAny_pure ⟨rfl,rfl,tl⟩
   . refine wpAny_bind (wpAny_eqIsQuiet_tuple hk ?_);simp only [Bool.not_true,Bool.false_eq_true,if_false];refine wpAny_bind (wpAny_eqIsQuiet_tuple hb ?_);simp only [Bool.not_true,Bool.false_eq_true,if_false];refine wpAny_bind (oy hk ?_);simp only [Bool.false_eq_true,if_false];refine wpAny_bind (oy hb ?_);simp only [Bool.false_eq_true,if_false];exact wpAny_pure ⟨rfl,rfl,tl⟩
 . rintro ⟨r1,r2⟩ s' ⟨hr,rfl,_⟩
   simp only at hr;subst hr;exact wpAny_pure q
theorem lH {S a:Addr} {o:Obj} {es:Array (Int×Value)} {ep:Nat} {t:SetTable} {ks:List Int} {h:Int} {Q:SetFound->Shared->Prop} (hu:A.units < cLine) (ho:s.heap.get? S=some o) (hd:o.data=.set es ep t) (hm:t.mask=7) (hdm:t.dummies = #[]) (hz:t.place.size=es.size) (h5:es.size<=4)
 (hk:IsTupleKey (intKind prog w) s.heap ks a) (he:∀ e∈es.toList,∃ b kb,e.2=.ref b/\kb ≠ ks/\IsTupleKey (intKind prog w) s.heap kb b) (q:∀ j,Q (.free j false) s) :
 ∀ (n fuel:Nat) (p:Option SetTable.Probe),n < fuel->n<=20->P7 (p.getD (t.probeStart h))->t.slot (adv t n (p.getD (t.probeStart h))).j=.empty->wpAny (model prog w) A (setSearchFrom S (.ref a) h true fuel p) Q E s
 | n,0,_,l,_,_,_=>absurd l (Nat.not_lt_zero _)
 | n,fuel+1,p,l,l20,hp,e=>by
  have fz:t.fits es.size=true:=by
   unfold SetTable.fits SetTable.fill;rw [hz,hdm,hm];simp;omega
  have gw:t.gaveWay=false:=by unfold SetTable.gaveWay;rw [hm];rfl
  unfold setSearchFrom;refine wpAny_bind (wpAny_setState_of ho hd fz ?_);dsimp only;rw [gw];simp only [Bool.false_eq_true,if_false];have pr:∀ ha:Nat->Int,t.probe ha h (p.getD (t.probeStart h))=SetTable.probe.go t ha h 220 (p.getD (t.probeStart h)):=fun ha=>by
   unfold SetTable.probe SetTable.turns;rw [hm]
  rw [pr];rcases go7 (h:=h) hm hdm n 220 _ (by omega) hp e with ⟨j,ej⟩ | ⟨j,i,m,nx,ec,lv,p7,lm,en⟩
  . rw [ej];dsimp only;exact wpAny_pure (q j)
  . rw [ec];dsimp only;have li:i < es.size:=by
     have:=nL lv;rw [<- hz];exact (Array.getElem?_eq_some_iff.mp this).1
    have ei:es[i]? = some es[i]:=Array.getElem?_eq_getElem li;obtain ⟨b,kb,eb,nb,tb⟩:=he es[i] (by simp)
    have sn:∀ (Q':Bool->Shared->Prop),Q' false s->wpAny (model prog w) A (searchCouldBeSeen (.ref a) ((es.filter (·.1 == h)).toList.map (·.2))) Q' E s:=fun Q' z=>xG hk (fun y my=>by
     obtain ⟨x,mx,rfl⟩:=Zl.mp my;have mx:x∈es.toList:=by
      have:=(Array.mem_filter.mp (Array.mem_toList_iff.mp mx)).1;exact Array.mem_toList_iff.mpr this
     obtain ⟨b,kb,e1,_,e2⟩:=he x mx;exact ⟨b,kb,e1,e2⟩) z
    obtain ⟨hh,y,ey⟩:∃ hh y,es[i]=(hh,y):=⟨_,_,rfl⟩;rw [ey] at eb;dsimp only at eb;have sm:t.sameMemory t.moves t.mask=some true:=by unfold SetTable.sameMemory;simp
    have again:=lH (h:=h) hu ho hd hm hdm hz h5 hk he q m fuel (some nx) (by omega) (by omega) p7 en
    rcases Bool.eq_false_or_eq_true t.led with tl | tl
    rotate_left
    . simp only [tl,Bool.not_false,if_true];refine wpAny_bind (sn _ ?_);simp only [Bool.false_eq_true,if_false];rw [ei,ey];dsimp only;rw [eb];refine wpAny_bind (wpAny_holding (wpAny_eqBool_tuple hu tb hk ?_));rw [Zv nb];refine wpAny_bind (wpAny_setState_of ho hd fz ?_);simp only [Bool.and_false,Bool.false_eq_true,if_false,sm,if_true,lv,ei,ey,eb];exact wpAny_bind (wpAny_isSame_ref_self (wpAny_bind (wpAny_pure again)))
    . simp only [tl,Bool.not_true,Bool.false_eq_true,if_false];rw [ei,ey];dsimp only;rw [eb];refine wpAny_bind (wpAny_holding (wpAny_eqBool_tuple hu tb hk ?_));rw [Zv nb];refine wpAny_bind (wpAny_setState_of ho hd fz ?_);simp only [Bool.and_false,Bool.false_eq_true,if_false,sm,if_true,lv,ei,ey,eb];exact wpAny_bind (wpAny_isSame_ref_self (wpAny_bind (wpAny_pure again)))
end
end Sw
namespace Sw
open PySem PySem.Spec PyProof.Rows
section
variable {prog:Program} {w:World} {A:Around} {E:Value->Shared->Prop} {s:Shared}
def SetT (prog:Program) (w:World) (h:Heap) (S:Addr) (n:Nat) (ps:List (List Int)):Prop:=∃ o es ep t,h.get? S=some o/\o.ExactSet/\o.data=.set es ep t/\t.fits es.size=true/\es.size=n/\(n<=4->t.mask=7/\t.dummies = #[])/\∀ e∈es.toList,∃ b kb,e.2=.ref b/\kb∈ps/\IsTupleKey (intKind prog w) h kb b
theorem vj {h h':Heap} {S:Addr} {o:Obj} {es:Array (Int×Value)} {ep:Nat} {t:SetTable} {ks:List Int} {a:Addr} (ho:h.get? S=some o) (hd:o.data=.set es ep t) (sb:Heap.SameBut S h h') (k:IsTupleKey (intKind prog w) h ks a):IsTupleKey (intKind prog w) h' ks a:=by
 obtain ⟨o',items,n,ho',hc,hd',hi⟩:=k;have ne:a ≠ S:=by
  rintro rfl
  rw [ho] at ho';cases ho';rw [hd] at hd';cases hd'
 exact ⟨o',items,n,(sb.2 a ne).trans ho',hc,hd',hi⟩
theorem mH {α:Type} (xs:Array α) (p:Nat) (x:α):(SetTable.insertAt xs p x).size=xs.size+1:=by
 rw [<- ZC,eQ,Zf,Zh,List.length_take,List.length_drop,ZC];omega
theorem BB {S a:Addr} {n:Nat} {ps:List (List Int)} {ks:List Int} {h:Int} {Q:Bool->Shared->Prop} (hu:A.units < cLine) (hS:SetT prog w s.heap S n ps) (h4:n<=4) (hk:IsTupleKey (intKind prog w) s.heap ks a) (hn:ks ∉ ps)
 (q:∀ b h',Heap.SameBut S s.heap h'->SetT prog w h' S (n+1) (ks :: ps)->Q b { s with heap:=h' }):wpAny (model prog w) A (setAddHashed S (.ref a) h) Q E s:=by
 obtain ⟨o,es,ep,t,ho,hx,hd,fz,sz,tm,he⟩:=hS;obtain ⟨hm,hdm⟩:=tm h4;have hz:t.place.size=es.size:=by
  unfold SetTable.fits at fz;rw [ZI] at fz;exact eq_of_beq fz.1
 have l4:es.size<=4:=by omega
 unfold setAddHashed setAddHashedIn;refine wpAny_holding (wpAny_bind (wpAny_setState_of ho hd fz ?_));dsimp only;rw [show byScan (.ref a) es=false from rfl]
 simp only [Bool.false_eq_true,if_false];obtain ⟨m,lm,em⟩:=Ew hm hdm (by omega) (xz hm h)
 unfold setSearch;refine wpAny_bind (lH hu ho hd hm hdm hz l4 hk (fun e me=>by
  obtain ⟨b,kb,e1,e2,e3⟩:=he e me;exact ⟨b,kb,e1,fun z=>hn (z ▸ e2),e3⟩) (fun j=>?_) m 100000 none (by omega) lm (xz hm h) em)
 dsimp only;refine wpAny_bind (wpAny_setState_of ho hd fz ?_);dsimp only;generalize ex:t.put j=tp;obtain ⟨t1,p⟩:=tp;have pt:t1.mask=7/\t1.dummies = #[]/\t1.place.size=es.size+1:=by
  unfold SetTable.put at ex;cases ex;refine ⟨hm,?_,?_⟩
  . dsimp only;rw [hdm];rfl
  . dsimp only;rw [mH,hz]
 dsimp only;have f1:t1.fits (SetTable.insertAt es p (h,Value.ref a)).size=true:=by
  unfold SetTable.fits SetTable.fill;rw [mH,pt.2.2,pt.2.1,pt.1];simp;omega
 have sz1:(SetTable.insertAt es p (h,Value.ref a)).size=n+1:=by rw [mH,sz]
 have em1:∀ e∈(SetTable.insertAt es p (h,Value.ref a)).toList,e=(h,Value.ref a) \/ e∈es.toList:=fun e me=>by
  rw [eQ] at me;rcases Zm.mp me with z | z
  . exact .inr (List.mem_of_mem_take z)
  . rcases Zn.mp z with z | z
    . exact .inl z
    . exact .inr (List.mem_of_mem_drop z)
 generalize SetTable.insertAt es p (h,Value.ref a)=es1 at *
 have l5:es1.size<=sizeLine:=by rw [sz1,sizeLine_eq];omega
 have full:t1.tooFull=decide (n=4):=by
  unfold SetTable.tooFull SetTable.fill;rw [pt.2.2,pt.2.1,pt.1,sz]
  by_cases c:n=4
  . subst c;rfl
  . rw [Zv c];simp;omega
 have st1:(s.heap.update S (Obj.putSet es1 t1)).get? S=some { o with data:=.set es1 (ep+1) t1 }:=by
  have z:=Heap.get?_update_self (Obj.putSet es1 t1) ho (by rw [putSet_of es1 _ hd];rfl)
  rw [putSet_of es1 _ hd] at z;exact z
 have sb1:Heap.SameBut S s.heap (s.heap.update S (Obj.putSet es1 t1)):=Heap.SameBut.update ..;have mem1:∀ h',Heap.SameBut S s.heap h'->∀ e∈es1.toList,∃ b kb,e.2=.ref b/\kb∈ks :: ps/\IsTupleKey (intKind prog w) h' kb b:=fun h' sb e me=>by
  rcases em1 e me with z | z
  . exact ⟨a,ks,by rw [z],Zi,vj ho hd sb hk⟩
  . obtain ⟨b,kb,e1,e2,e3⟩:=he e z;exact ⟨b,kb,e1,Zj _ e2,vj ho hd sb e3⟩
 have go:∀ byv:Bool,byv=true->wpAny (model prog w) A (storeSet S es1 (if byv=true then t1 else { t1 with plain:=false })) (fun _ s'=>s'={ s with heap:=s.heap.update S (Obj.putSet es1 t1) }) E s:=fun byv hb=>by
  rw [hb];exact wpAny_storeSet_of ho hd rfl l5
 have last:n=4->wpAny (model prog w) A (setRelay S (SetTable.grown (es.size+1))) (fun _ s'=>∃ h',s'={ s with heap:=h' }/\Heap.SameBut S s.heap h'/\SetT prog w h' S (n+1) (ks :: ps)) E { s with heap:=s.heap.update S (Obj.putSet es1 t1) }:=fun n4=>by
  unfold setRelay;refine wpAny_bind (wpAny_setState_of st1 rfl f1 ?_);dsimp only;have e5:es.size+1=5:=by omega
  have s5:es1.size=5:=by omega
  rw [e5,if_neg (by decide +kernel)]
  obtain ⟨t2,ord,er,ft,os,ol⟩:=At (t:=t1) (hs:=es1.map (·.1)) (by rw [Array.size_map];exact s5)
  rw [er];have fm:∀ (l:List Nat),(∀ k∈l,k < 5)->(l.filterMap (es1[·]?)).length=l.length/\∀ x∈l.filterMap (es1[·]?),x∈es1.toList:=fun l=>by
   induction l with
   | nil=>intro _;exact ⟨rfl,fun x mx=>by cases mx⟩
   | cons k l ih =>
    intro hl;have lk:k < es1.size:=by rw [s5];exact hl k Zi
    obtain ⟨i1,i2⟩:=ih fun k' m'=>hl k' (Zj _ m')
    rw [List.filterMap_cons_some (b:=es1[k]) (Array.getElem?_eq_getElem lk)];refine ⟨by rw [Zh,Zh,i1],fun x mx=>?_⟩
    rcases Zn.mp mx with z | z
    . rw [z];simp
    . exact i2 x z
  obtain ⟨g1,g2⟩:=fm ord.toList ol;have z1:(ord.filterMap (es1[·]?)).size=5:=by
   rw [<- ZC,Array.toList_filterMap,g1,ZC,os]
  have z2:∀ x∈(ord.filterMap (es1[·]?)).toList,x∈es1.toList:=fun x mx=>by
   rw [Array.toList_filterMap] at mx;exact g2 x mx
  refine wpAny_bind (wpAny_of_eq (a:=(ord.filterMap (es1[·]?),t2)) ?_ ?_)
  . show (if _ then _ else _)=_
    exact if_neg (by rw [z1,s5];decide)
  dsimp only;generalize ord.filterMap (es1[·]?)=es2 at *
  refine wpAny_storeSet_of st1 rfl ?_ (by rw [z1,sizeLine_eq];omega)
  have st2:=Heap.get?_update_self (Obj.putSet es2 t2) st1 (by rw [putSet_of es2 _ rfl];rfl)
  rw [putSet_of es2 _ rfl] at st2;have sb2:Heap.SameBut S s.heap ((s.heap.update S (Obj.putSet es1 t1)).update S (Obj.putSet es2 t2)):=sb1.trans (Heap.SameBut.update ..);refine ⟨_,rfl,sb2,_,es2,_,t2,st2,hx,rfl,by rw [z1];exact ft,by omega,fun z=>absurd z (by omega),fun e me=>mem1 _ sb2 e (z2 e me)⟩
 cases hp:t1.plain
 case' true =>
  simp only [if_true];refine wpAny_bind (Ag hk ?_);refine wpAny_bind (wpAny_mono (go true rfl) (fun _ s' e=>?_) fun _ _ x=>x)
  subst e
 case' false =>
  simp only [Bool.false_eq_true,if_false];refine wpAny_bind (wpAny_pure ?_);refine wpAny_bind (wpAny_mono (go true rfl) (fun _ s' e=>?_) fun _ _ x=>x)
  subst e
 all_goals
  simp only [if_true,full,Bool.not_false,Bool.true_and,decide_eq_true_eq]
  by_cases n4:n=4
  . rw [if_pos n4];refine wpAny_bind (wpAny_mono (last n4) (fun _ s' e=>?_) fun _ _ x=>x)
    obtain ⟨h',rfl,sb,st⟩:=e;exact wpAny_pure (q true h' sb st)
  . rw [if_neg n4];exact wpAny_pure (q true _ sb1 ⟨_,es1,_,t1,st1,hx,rfl,f1,sz1,fun _=>⟨pt.1,pt.2.1⟩,mem1 _ sb1⟩)
end
end Sw
namespace Sw
open PySem PySem.Spec PyProof.Rows
section
variable {prog:Program} {w:World} {A:Around} {E:Value->Shared->Prop} {s:Shared}
theorem mF {h h':Heap} {ks:List Int} {a:Addr} (k:∀ o,h.get? a=some o->h'.get? a=some o) (x:IsTupleKey (intKind prog w) h ks a):IsTupleKey (intKind prog w) h' ks a:=by
 obtain ⟨o,items,n,ho,r⟩:=x;exact ⟨o,items,n,k o ho,r⟩
def LeftT (prog:Program) (w:World) (h0:Heap) (items:Array Value):Nat->List (List Int)->Prop
 | i,[]=>items[i]? = none
 | i,k :: ms=>(∃ a,items[i]? = some (.ref a)/\IsTupleKey (intKind prog w) h0 k a)/\LeftT prog w h0 items (i+1) ms
theorem SetT.same {h h':Heap} {S:Addr} {n:Nat} {ps:List (List Int)} {h0:Heap} (k:∀ o,h.get? S=some o->h'.get? S=some o) (kt:∀ b kb,IsTupleKey (intKind prog w) h kb b->IsTupleKey (intKind prog w) h' kb b) (x:SetT prog w h S n ps):SetT prog w h' S n ps:=by
 obtain ⟨o,es,ep,t,g,g2,g3,g4,g5,g6,g7⟩:=x;exact ⟨o,es,ep,t,k o g,g2,g3,g4,g5,g6,fun e me=>let ⟨b,kb,e1,e2,e3⟩:=g7 e me;⟨b,kb,e1,e2,kt b kb e3⟩⟩
theorem zd {h h':Heap} {I l:Addr} {i:Nat} {ks:List Int} {b:Addr} (hI:h.IsListIter I l i) (k:∀ b,b ≠ I->h'.get? b=h.get? b) (x:IsTupleKey (intKind prog w) h ks b):IsTupleKey (intKind prog w) h' ks b:=by
 refine mF (fun o e=>?_) x
 have ne:b ≠ I:=by
  rintro rfl
  obtain ⟨o1,g1,g2,g3⟩:=hI;obtain ⟨o2,items,n,q1,q2,q3,q4⟩:=x;rw [g1] at q1;cases q1;rw [q2] at g2;exact absurd g2 (by decide)
 rw [k b ne];exact e
theorem zE {R:Result->Shared->Prop} {S I l:Addr} {items:Array Value} {h0:Heap} (hu:A.in1.units < cLine) (hh:A.handled=none) (d1:S ≠ I) (d2:l ≠ S) (d3:l ≠ I) (oS:h0.get? S=none) (oI:h0.get? I=none):∀ (ms:List (List Int)) (i n:Nat) (ps:List (List Int)) (s:Shared),LeftT prog w h0 items i ms->ms.Nodup->(∀ k∈ms,k ∉ ps)->n+ms.length<=5->(∀ b o,h0.get? b=some o->s.heap.get? b=some o)->s.heap.IsListIter I l i->s.heap.IsList l items->SetT prog w s.heap S n ps ->
 (∀ h' tk ps',(∀ b o,b ≠ S->b ≠ I->s.heap.get? b=some o->h'.get? b=some o)->SetT prog w h' S (n+ms.length) ps'->R (.ok (.ret .none)) { s with heap:=h',toks:=tk })->codeAny (model prog w) A (.builtin "set.update.loop" ⟨[.ref S,.ref I],[]⟩) R s:=by
 have hh1:A.in1.handled=none:=hh;intro ms
 induction ms with
 | nil =>
  intro i n ps s hm _ _ _ _ hI hl hS hR;refine kY (wpAny_bind (m:=pyNext (.ref I)) (wpAny_pyNext_list_end hh1 hI hl hm fun h' x=>wpAny_pure (hR h' s.toks ps (fun b o _ b2 e=>x b o b2 e) ?_)))
  exact SetT.same (h0:=h0) (fun o e=>x S o d1 e) (fun b kb z=>by
   refine mF (fun o e=>x b o ?_ e) z
   rintro rfl
   obtain ⟨o1,g1,g2,g3⟩:=hI;obtain ⟨o2,its,m,q1,q2,q3,q4⟩:=z;rw [g1] at q1;cases q1;rw [q2] at g2;exact absurd g2 (by decide)) hS
 | cons k ms ih =>
  intro i n ps s hm nd nps lm h0s hI hl hS hR;obtain ⟨⟨a,ha,ka⟩,hm⟩:=hm;have nd':=List.nodup_cons.mp nd;rw [Zh] at lm hR;have naI:a ≠ I:=by
   rintro rfl
   obtain ⟨o,_,_,g,_⟩:=ka;rw [oI] at g;cases g
  refine kY (wpAny_bind (m:=pyNext (.ref I)) (wpAny_pyNext_list_item hI hl ha fun h1 hI1 s1=>?_))
  have ka1:IsTupleKey (intKind prog w) h1 k a:=mF (fun o e=>by rw [s1.2 a naI];exact h0s a o e) ka
  have hS1:SetT prog w h1 S n ps:=SetT.same (h0:=h0) (fun o e=>(s1.2 S d1).trans e) (fun b kb z=>zd hI (fun b nb=>s1.2 b nb) z) hS
  refine wpAny_bind (wpAny_holding (m:=setAdd S (.ref a)) (wpAny_holding (wpAny_bind (wpAny_pyHash_tuple hu ka1 ?_))));refine BB hu hS1 (by omega) ka1 (nps k Zi) fun b h2 s2 hS2=>wpAny_pure ⟨plainId_quiet PyProof.Rows.F.plain_set_update_loop _,?_⟩
  refine ih (i+1) (n+1) (k :: ps) _ hm nd'.2 (fun k' m' z=>?_) (by omega) (fun b o e=>?_) (hI1.at fun o e=>(s2.2 I d1.symm).trans e) (hl.at fun o e=>(s2.2 l d2).trans ((s1.2 l d3).trans e)) hS2 fun h' tk ps' kk q=>hR h' tk ps' (fun b o b1 b2 e=>kk b o b1 b2 ((s2.2 b b1).trans ((s1.2 b b2).trans e))) (by rw [show n+(ms.length+1)=n+1+ms.length by omega];exact q)
  . rcases Zn.mp z with z | z
    . exact nd'.1 (z ▸ m')
    . exact nps k' (Zj _ m') z
  . have nS:b ≠ S:=fun z=>by rw [z,oS] at e;cases e
    have nI:b ≠ I:=fun z=>by rw [z,oI] at e;cases e
    show h2.get? b=some o;rw [s2.2 b nS,s1.2 b nI];exact h0s b o e
theorem none_size {h:Heap} {n:Nat} (l:h.objs.size<=n):h.get? n=none:=by
 cases z:h.get? n with
 | none=>rfl
 | some o=>exact absurd (Heap.lt_size z) (Nat.not_lt.mpr l)
theorem zm {S l:Addr} {led:Bool} {items:Array Value} {ms:List (List Int)} {h0:Heap} {Q:Option Value->Shared->Prop} (hu:A.units+16 < cLine) (hh:A.handled=none) (d2:l ≠ S) (hS:s.heap.get? S=some { cls:=.type "set",dict:=none,data:=.set #[] 0 (t7 led []) }) (hl:s.heap.IsList l items) (hm:LeftT prog w h0 items 0 ms) (nd:ms.Nodup) (l5:ms.length<=5) (oS:h0.get? S=none) (h0s:∀ b o,h0.get? b=some o->s.heap.get? b=some o)
 (q:∀ h' tk ps',(∀ b o,b ≠ S->s.heap.get? b=some o->h'.get? b=some o)->SetT prog w h' S ms.length ps'->Q (some .none) { s with heap:=h',toks:=tk }):wpAny (model prog w) A (callSpecial? (.ref S) "__init__" [.ref l]) Q E s:=by
 have hT:s.TypeIs (.ref S) "set":=⟨_,hS,rfl⟩;have TL:s.TypeIs (.ref l) "list":=hl.typeIs;have n1:=PySem.F.sub_list_set;have n2:=PySem.F.sub_list_frozenset;have hh1:A.in1.handled=none:=hh;have sl:S < s.heap.objs.size:=Heap.lt_size hS;have ll:l < s.heap.objs.size:=by obtain ⟨o,e,_⟩:=hl;exact Heap.lt_size e
 have st:∀ (Q:(Array (Int×Value)×Nat×SetTable)->Shared->Prop) (E:Value->Shared->Prop),Q (#[],0,t7 led []) s->wpAny (model prog w) A.in1 (setState S) Q E s:=fun Q E h=>wpAny_setState_of hS rfl (by cases led <;> decide +kernel) h
 have u1:A.in1.in1.units < cLine:=by show A.units+1+1 < cLine;omega
 refine wpAny_callSpecial?_slot hT PySem.F.called_set.init (wpAny_call (codeAny_call_builtin PySem.F.called_set.init.plain PySem.F.entry_set_init (check_set_init_1 hT ?_)));unfold Builtin.«set.__init__»
 wp_walk using st _ _,wpAny_pyIter_list hl
 refine zE (h0:=h0) u1 hh1 (ZA sl) d2 (ZA ll) oS (by
  cases z:h0.get? s.heap.objs.size with
  | none=>rfl
  | some o=>exact absurd (Heap.lt_size (h0s _ _ z)) (ZB _)) ms 0 0 [] _ hm nd (fun _ _ z=>nomatch z) (by omega) (fun b o e=>Heap.get?_push_of_some _ (h0s b o e)) ⟨_,Heap.get?_push_size _ rfl,rfl,rfl⟩ (hl.push _) ⟨_,#[],0,_,Heap.get?_push_of_some _ hS,⟨rfl,rfl,rfl⟩,rfl,by cases led <;> decide +kernel,rfl,fun _=>⟨rfl,rfl⟩,fun e me=>nomatch me⟩ fun h' tk ps' k x=>?_
 dsimp only;rw [Nat.zero_add] at x
 wp_walk
 exact q h' tk ps' (fun b o b1 e=>k b o b1 (ZA (Heap.lt_size e)) (Heap.get?_push_of_some _ e)) x
theorem set_tup {l:Addr} {items:Array Value} {ms:List (List Int)} {Q:Value->Shared->Prop} (hu:A.units+32 < cLine) (hh:A.handled=none) (hl:s.heap.IsList l items) (hm:LeftT prog w s.heap items 0 ms) (nd:ms.Nodup) (l5:ms.length<=5)
 (q:∀ h' tk ps',(∀ b o,s.heap.get? b=some o->h'.get? b=some o)->SetT prog w h' s.heap.objs.size ms.length ps'->Q (.ref s.heap.objs.size) { s with heap:=h',toks:=tk }):wpAny (model prog w) A (call (.type "set") [.ref l]) Q E s:=by
 have ll:l < s.heap.objs.size:=by obtain ⟨o,e,_⟩:=hl;exact Heap.lt_size e
 refine EX PySem.F.called_set (PySem.F.typeCall_set_1 _) (nY ⟨⟨_,Heap.get?_push_size _ rfl,rfl⟩,zm (h0:=s.heap) (by show A.units+1+16 < cLine;omega) hh (ZA ll) (Heap.get?_push_size _ rfl) (hl.push _) hm nd l5 (none_size (ZH _)) (fun b o e=>Heap.get?_push_of_some _ e) fun h' tk ps' k x=>⟨rfl,q h' tk ps' (fun b o e=>k b o (ZA (Heap.lt_size e)) (Heap.get?_push_of_some _ e)) x⟩⟩)
end
end Sw
namespace Dl
open PySem PySem.Spec PyProof.Rows L2
structure EvW (F H:Hp) (As:Nat->List Addr) (F' H':Hp) (As':Nat->List Addr) (A:List Addr):Prop where
 fs:Same F F'
 ks:∀ a u,H a=some u->(∀ i,a ∉ As i)->H' a=some u
 nf:∀ a (u:MO),H a=some u.1->F a=none->(∀ i,a ∉ As i)->F' a=none
 fa:∀ i a,a∈As' i->(∃ j,a∈As j) \/ H a=none
 fA:∀ a,a∈A->(∃ j,a∈As j) \/ H a=none
 nd:A.Nodup
 dj:∀ i a,a∈As' i->a ∉ A
theorem Ev.toW {F H F' H':Hp} {As As':Nat->List Addr} {A:List Addr} (e:Ev F H As F' H' As' A):EvW F H As F' H' As' A:=⟨e.fs,fun a u h _=>e.hs a u h,e.nf,e.fa,e.fA,e.nd,e.dj⟩
def Ea (H:Hp) (As:Nat->List Addr):Prop:=∀ i a,a∈As i->∃ u:MO,H a=some u.1
theorem RepA.domA {K:Zr} {F H:Hp} {σ:L2.St} {δ:DS} {As:Nat->List Addr} (R:RepA K F H σ δ As):Ea H As:=fun _ _ m=>(R.dom m).1
theorem EvW.ki {F H F' H':Hp} {As As':Nat->List Addr} {A:List Addr} (e:EvW F H As F' H' As' A) (d:Ea H As):dw H H':=fun a u h n=>e.ks a u h fun i m=>by
 obtain ⟨w,h2⟩:=d i a m;rw [h] at h2;cases h2;rw [w.2] at n;cases n
theorem EvW.old {F H F' H':Hp} {As As':Nat->List Addr} {A:List Addr} (e:EvW F H As F' H' As' A) {a:Addr} (n:H' a=none):(∃ j,a∈As j) \/ H a=none:=by
 by_cases h:∃ j,a∈As j
 . exact .inl h
 . refine .inr ?_;cases q:H a with
   | none=>rfl
   | some u=>rw [e.ks a u q fun i m=>h ⟨i,m⟩] at n;cases n
theorem EvW.seq {F H F1 H1 F2 H2:Hp} {As As1 As2:Nat->List Addr} {A B:List Addr} (a:EvW F H As F1 H1 As1 A) (b:EvW F1 H1 As1 F2 H2 As2 B) (dA:∀ x∈A,∃ u:MO,H1 x=some u.1):EvW F H As F2 H2 As2 (A++B) where
 fs:=a.fs.trans b.fs
 ks:=fun x u e h=>b.ks x u (a.ks x u e h) fun i m=>by
  rcases a.fa i x m with ⟨j,z⟩ | z
  . exact h j z
  . rw [e] at z;cases z
 nf:=fun x vs e n h=>b.nf x vs (a.ks x _ e h) (a.nf x vs e n h) fun i m=>by
  rcases a.fa i x m with ⟨j,z⟩ | z
  . exact h j z
  . rw [e] at z;cases z
 fa:=fun i x m=>by
  rcases b.fa i x m with ⟨j,z⟩ | z
  . exact a.fa j x z
  . exact a.old z
 fA:=fun x m=>by
  rcases Zm.mp m with z | z
  . exact a.fA x z
  . rcases b.fA x z with ⟨j,y⟩ | y
    . exact a.fa j x y
    . exact a.old y
 nd:=by
  refine List.nodup_append.mpr ⟨a.nd,b.nd,fun x hx y hy e=>?_⟩
  subst e;rcases b.fA x hy with ⟨j,z⟩ | z
  . exact a.dj j x z hx
  . obtain ⟨vs,e⟩:=dA x hx;rw [z] at e;cases e
 dj:=fun i x m z=>by
  rcases Zm.mp z with z | z
  . rcases b.fa i x m with ⟨j,y⟩ | y
    . exact a.dj j x y z
    . obtain ⟨vs,e⟩:=dA x z;rw [y] at e;cases e
  . exact b.dj i x m z
theorem EvW.bare {F H F' H':Hp} {As As':Nat->List Addr} {A:List Addr} (e:EvW F H As F' H' As' A):EvW F H As F' H' As' []:=⟨e.fs,e.ks,e.nf,e.fa,fun _ m=>(nomatch m),Zq,fun _ _ _ z=>(nomatch z)⟩
theorem EvW.grow {F H F' H' H2:Hp} {As As':Nat->List Addr} {A:List Addr} (e:EvW F H As F' H' As' A) (s:Same H' H2):EvW F H As F' H2 As' A:=⟨e.fs,fun a u h n=>s a u (e.ks a u h n),e.nf,e.fa,e.fA,e.nd,e.dj⟩
theorem EvW.stays {K:Zr} {F1 H1 F2 H2:Hp} {As1 As2:Nat->List Addr} {A B:List Addr} {v:V} {d:D} (b:EvW F1 H1 As1 F2 H2 As2 B) (dm:Ea H1 As1) (r:RepO K F1 H1 v d A) (dj:∀ i a,a∈As1 i->a ∉ A):RepO K F2 H2 v d A:=by
 have h1:RepO K F1 H2 v d A:=r.frame (b.ki dm) fun a m=>by
  obtain ⟨⟨vs,e⟩,_⟩:=r.dom a m;rw [e];exact b.ks a _ e fun i z=>dj i a z m
 refine h1.froz b.fs fun a m=>?_
 obtain ⟨⟨vs,e⟩,n⟩:=r.dom a m;exact b.nf a vs e n fun i z=>dj i a z m
def upW (K:Zr) (f:FM):TE:=fun σ H Q=>∃ F δ As d δ',RepA K F H σ δ As/\f δ=some (d,δ')/\∀ v F' H' A As',EvW F H As F' H' As' A->RepA K F' H' σ δ' As'->RepO K F' H' v d A->Q v H'
def Fj (K:Zr) (n:Nat) (f:FMA):TA:=fun σ H Q=>∃ F δ As ds δ',RepA K F H σ δ As/\f δ=some (ds,δ')/\∀ vs F' H' A As',EvW F H As F' H' As' A->RepA K F' H' σ δ' As'->RepOs K F' H' vs ds A->vs.length=n->Q vs H'
def PW (X:Cx) (e:Expr) (f:FM):Prop:=PE X e (upW X.K f)
def PWA (X:Cx) (es:List Expr) (f:FMA):Prop:=PA X es (Fj X.K es.length f)
section
variable {X:Cx} {e a b:Expr} {es:List Expr} {f:FD} {fm fa fb:FM} {g:FMA} {ga:FA} {pos p:Pos}
theorem eL (h:PV X e fm):PW X e fm:=imp h fun σ H Q ⟨F,δ,As,d,δ',R,q,k⟩=>⟨F,δ,As,d,δ',R,q,fun v F' H' A As' ev R' r'=>k v F' H' A As' ev.toW R' r'⟩
theorem kQ:PWA X [] iG:=pP cY fun σ H Q ⟨F,δ,As,ds,δ',R,q,k⟩=>by
 cases q;exact k [] F H [] As (Ev.pure (Same.refl H)).toW R .nil rfl
theorem d4 (ha:PW X e fm) (hr:PWA X es g) (hs:starEach (e :: es) X.env=(false,eval e X.env) :: starEach es X.env:=by rfl):PWA X (e :: es) (bi fm g):=pP (bz ha hr hs) fun σ H Q ⟨F,δ,As,ds,δ',R,q,k⟩=>by
 unfold bi at q;obtain ⟨⟨d1,δ1⟩,e1,q⟩:=Za.mp q;obtain ⟨⟨ds2,δ2⟩,e2,q⟩:=Za.mp q;cases q;refine ⟨F,δ,As,d1,δ1,R,e1,fun v F1 H1 A As1 ev1 R1 r1=>⟨F1,δ1,As1,ds2,δ2,R1,e2,fun vs F2 H2 B As2 ev2 R2 r2 l=>?_⟩⟩
 exact k (v :: vs) F2 H2 (A++B) As2 (ev1.seq ev2 fun x m=>(r1.dom x m).1) R2 (.cons (ev2.stays R1.domA r1 ev1.dj) r2 rfl) (congrArg (· + 1) l)
theorem xX {x1} (h:PWA X es g) (hz:es.length<=1000:=by decide):PW X (.Tuple es x1 pos) (m7 g):=imp (sZ h) fun σ H Q ⟨F,δ,As,d,δ',R,q,k⟩=>by
 unfold m7 at q;obtain ⟨⟨ds,δ1⟩,e1,q⟩:=Za.mp q;cases q;refine ⟨F,δ,As,ds,_,R,e1,fun vs F1 H1 A As1 ev R1 r1 l=>⟨bn (by rw [l];exact hz),fun p hp=>?_⟩⟩
 have s:=aJ hp (.tup vs);refine k _ F1 _ A As1 (ev.grow s) (R1.grow s) (.tup (SqT.of aw) (r1.frame (aO s) fun a m=>?_))
 obtain ⟨⟨ws,e⟩,_⟩:=r1.dom a m;rw [e];exact s a _ e
theorem CI (h:PWA X es g) (hz:es.length<=1000:=by decide):PW X (.List es pos) (kD g):=imp (s8 h) fun σ H Q ⟨F,δ,As,d,δ',R,q,k⟩=>by
 unfold kD at q;obtain ⟨⟨ds,δ1⟩,e1,q⟩:=Za.mp q;cases q;refine ⟨F,δ,As,ds,_,R,e1,fun vs F1 H1 A As1 ev R1 r1 l=>⟨bn (by rw [l];exact hz),fun p hp=>?_⟩⟩
 have s:=aJ hp (.lst vs);have np:F1 p=none:=by
  cases q:F1 p with
  | none=>rfl
  | some o=>rw [R1.fz p o q] at hp;cases hp
 have ev':EvW F H As F1 (upd H1 p (.lst vs)) As1 (p :: A):=⟨ev.fs,(ev.grow s).ks,ev.nf,ev.fa,fun a m=>by
  rcases Zn.mp m with z | z
  . subst z;exact ev.old hp
  . exact ev.fA a z,List.nodup_cons.mpr ⟨fun m=>(by
    obtain ⟨⟨ws,e⟩,_⟩:=r1.dom p m;rw [hp] at e;cases e),ev.nd⟩,fun i a m z=>by
  rcases Zn.mp z with z | z
  . subst z;obtain ⟨⟨ws,e⟩,_⟩:=R1.dom m;rw [hp] at e;cases e
  . exact ev.dj i a m z⟩
 refine k _ F1 _ (p :: A) As1 ev' (R1.grow s) (.lst aw np (r1.frame (aO s) fun a m=>?_))
 obtain ⟨⟨ws,e⟩,_⟩:=r1.dom a m;rw [e];exact s a _ e
def iV (g:D->D->Option D) (fa fb:FM):FM:=fun δ=>(fa δ).bind fun p=>(fb p.2).bind fun q=>(g p.1 q.1).bind fun d=>if imm d then some (d,q.2) else none
theorem Cc {r:R2} {g:D->D->Option D} (hg:R2D X.K r g) {σ:L2.St} {H:Hp} {Q:VK} (h:upW X.K (iV g fa fb) σ H Q):tOp r (upW X.K fa) (upW X.K fb) σ H Q:=by
 obtain ⟨F,δ,As,d,δ',R,q,k⟩:=h;unfold iV at q;obtain ⟨⟨d1,δ1⟩,e1,q⟩:=Za.mp q;obtain ⟨⟨d2,δ2⟩,e2,q⟩:=Za.mp q;obtain ⟨d3,e3,q⟩:=Za.mp q;dsimp only at e2 e3 q;split at q
 . rename_i hi;cases q;refine ⟨F,δ,As,d1,δ1,R,e1,fun v F1 H1 A As1 ev1 R1 r1=>⟨F1,δ1,As1,d2,_,R1,e2,fun w F2 H2 B As2 ev2 R2 r2=>?_⟩⟩
   have r1':=(ev2.stays R1.domA r1 ev1.dj).rep R2.fz;refine hg v w H2 Q d1 d2 d r1' (r2.rep R2.fz) e3 fun z H' s3 rz=>?_
   exact k z F2 H' [] As2 ((ev1.seq ev2 fun x m=>(r1.dom x m).1).grow s3).bare (R2.grow s3) (.imm hi rz)
 . cases q
theorem EL {op:Operator} {r:R2} {g:D->D->Option D} (ho:OpR X (binaryOp op) r) (hg:R2D X.K r g) (ha:PW X a fa) (hb:PW X b fb):PW X (.BinOp a op b pos) (iV g fa fb):=imp (uT ho ha hb) fun _ _ _=>Cc hg
theorem CK (ha:PW X a fa) (hb:PW X b fb):PW X (.BinOp a .Add b pos) (iV jd fa fb):=EL (op_add.or pD) ((kw fun _ _ _=>.int _).or xT) ha hb
theorem xY (ha:PW X a fa) (hb:PW X b fb) (hs:lu b:=by intro _ _;rfl):PW X (.Subscript a b pos) (iV gIx fa fb):=imp (BW (ix_list.or yZ) ha hb hs) fun _ _ _=>Cc BS
end
def Fo (K:Zr) (i n:Nat) (g:FA):TA:=fun σ H Q=>∃ F δ As ds,RepA K F H σ δ As/\g δ=some ds/\∀ vs H',Same H H'->Reps K (hV H' (As i)) vs ds->vs.length=n->Q vs H'
def PAW (X:Cx) (i:Nat) (es:List Expr) (g:FA):Prop:=PA X es (Fo X.K i es.length g)
theorem oA {H H':Hp} {A:List Addr} (s:Same H H'):Same (hV H A) (hV H' A):=fun a u e=>by
 unfold hV at e ⊢;split at e
 . cases e
 . rename_i h;rw [if_neg h];exact s a u e
theorem rE {H:Hp} {A:List Addr} (d:∀ a∈A,∃ u:MO,H a=some u.1):dw H (hV H A):=fun a u e n=>by
 by_cases h:a∈A
 . obtain ⟨w,h2⟩:=d a h;rw [e] at h2;cases h2;rw [w.2] at n;cases n
 . rw [gn h];exact e
def cD:FA:=fun _=>some []
def cP (f:FD) (g:FA):FA:=fun δ=>(f δ).bind fun d=>if imm d then (g δ).bind fun ds=>some (d :: ds) else none
def uh (i j:Nat) (g:FA):FA:=fun δ=>match δ[j]? with
 | some (some d)=>if i=j then none else (g δ).bind fun ds=>some (d :: ds)
 | _=>none
section
variable {X:Cx} {e:Expr} {es:List Expr} {f:FD} {g:FA} {pos:Pos} {i:Nat}
theorem bQ:PAW X i [] cD:=pP cY fun σ H Q ⟨F,δ,As,ds,R,q,k⟩=>by
 cases q;exact k [] H (Same.refl H) .nil rfl
theorem cw (ha:PD X e f) (hr:PAW X i es g) (hs:starEach (e :: es) X.env=(false,eval e X.env) :: starEach es X.env:=by rfl):PAW X i (e :: es) (cP f g):=pP (bz ha hr hs) fun σ H Q ⟨F,δ,As,ds,R,q,k⟩=>by
 unfold cP at q;obtain ⟨d,ed,q⟩:=Za.mp q;split at q
 . rename_i hi;obtain ⟨ds',es',q⟩:=Za.mp q;cases q;refine ⟨δ,d,R.toS,ed,fun v H1 s1 r1=>⟨F,δ,As,ds',R.grow s1,es',fun vs H2 s2 r2 l=>?_⟩⟩
   refine k (v :: vs) H2 (s1.trans s2) (.cons ((jD (rE fun a m=>?_) r1 hi).mono (oA s2)) r2) (congrArg (· + 1) l)
   exact ((R.grow s1).dom m).1
 . cases q
theorem uV (j:Nat) {x:Str} (hr:PAW X i es g) (hN:X.N[j]? = some x:=by rfl) (hv:Vis X.env.scope x:=by first | exact Or.inl rfl | exact Or.inr (Or.inl rfl) | exact Or.inr (Or.inr rfl)) (hd:(x == ("__debug__":Str))=false:=by decide) (hcd:(x == ("__classdict__":Str))=false:=by decide)
 (hs:starEach (.Name x pos :: es) X.env=(false,eval (.Name x pos) X.env) :: starEach es X.env:=by rfl):PAW X i (.Name x pos :: es) (uh i j g):=pP (bz (ja hN hv hd hcd) hr hs) fun σ H Q ⟨F,δ,As,ds,R,q,k⟩=>by
 unfold uh at q;split at q
 . rename_i d hj;split at q
   . cases q
   . rename_i hne;obtain ⟨ds',es',q⟩:=Za.mp q;cases q;obtain ⟨v,h1,h2⟩:=R.val j d hj;refine ⟨v,h1,F,δ,As,ds',R,es',fun vs H2 s2 r2 l=>k (v :: vs) H2 s2 (.cons ?_ r2) (congrArg (· + 1) l)⟩
     have h3:=h2.frame (H':=hV H (As i)) (rE fun a m=>(R.dom m).1) fun a m=>gn (R.dj j i a (Ne.symm hne) m)
     refine (h3.rep fun a u e=>?_).mono (oA s2)
     rw [gn fun m=>?_]
     . exact R.fz a u e
     . rw [(R.dom m).2] at e;cases e
 . cases q
end
def qv (K:Zr) (n:Nat) (G:List D->Option (D×D)):Sp:=fun vs H Q _=>vs.length=n/\∃ v0 ws F d0 A0 es d0' r,vs=v0 :: ws/\Same F H/\RepO K F H v0 d0 A0/\A0.Nodup/\Reps K F ws es /\
 G (d0 :: es)=some (d0',r)/\∀ v F' H' A0' A,Same F F'->Same F' H'->RepO K F' H' v0 d0' A0'->RepO K F' H' v r A->(A0'++A).Nodup->Q v H'
structure m6 (P:Program) (w:World) (K:Zr) (mg:Str->Option Value) (base:Heap) (k:Nat) (x:Str) (ps:List Str) (G:List D->Option (D×D)):Prop where
 ex:∃ f fd,FnOk P w K mg base CX0 k f fd ps (qv K ps.length G)/\mg x=some (.ref f)/\PySem.W.keepIn K (.ref f)=true/\Binds K fd ps []
def be (i:Nat) (G:List D->Option (D×D)) (g:FA):FM:=fun δ=>match δ[i]? with
 | some (some d0)=>(g δ).bind fun es=>(G (d0 :: es)).bind fun p=>if own p.1=true/\own p.2=true then some (p.2,δ.set i (some p.1)) else none
 | _=>none
theorem bO {X:Cx} {es:List Expr} {g:FA} {px pos p:Pos} {k l:Nat} {x y:Str} {ps:List Str} {G:List D->Option (D×D)} (i:Nat) (F:m6 X.prog X.w X.K X.mg X.base k x ps G) (hr:Room l X.A) (ha:PAW X i es g) (hk:k<=l:=by decide) (hg:Gl X x:=by rfl)
 (hN:X.N[i]? = some y:=by rfl) (hv:Vis X.env.scope y:=by first | exact Or.inl rfl | exact Or.inr (Or.inl rfl) | exact Or.inr (Or.inr rfl)) (hd:(y == ("__debug__":Str))=false:=by decide) (hcd:(y == ("__classdict__":Str))=false:=by decide)
 (hn:es.length+1=ps.length:=by rfl) (hdb:(x == ("__debug__":Str))=false:=by decide) (he:starEach (.Name y px :: es) X.env=(false,eval (.Name y px) X.env) :: starEach es X.env:=by rfl) (hpl:(backTo pos (starEach es X.env)).any (·.1)=false:=by rfl) :
 PW X (.Call (.Name x p) (.Name y px :: es) [] pos) (be i G g):=by
 obtain ⟨f,fd,F,hm,kp,hb⟩:=F.ex;refine imp (kX F (hr.mono hk) hg hm kp hb .nil uW (bz (ja hN hv hd hcd) ha he) hdb he hpl) fun σ H Q ⟨F0,δ,As,d,δ',R,q,k⟩=>?_
 unfold be at q;split at q
 . rename_i d0 hi;obtain ⟨ds,eds,q⟩:=Za.mp q;obtain ⟨⟨d0',r⟩,eG,q⟩:=Za.mp q;dsimp only at q;split at q
   . rename_i ho;cases q;obtain ⟨v0,s0,r0⟩:=R.val i _ hi;refine ⟨v0,s0,F0,δ,As,ds,R,eds,fun vs H1 t1 rr lv=>?_⟩
     show qv X.K ps.length G ((v0 :: vs)++[]) H1 _ E0;rw [List.append_nil];have R1:=R.grow t1;obtain ⟨v0',s0',r1⟩:=R1.val i _ hi;rw [s0] at s0';cases s0';have il:i < δ.length:=(ZG.mp hi).1;have sF:Same F0 (hV H1 (As i)):=fun a u e=>by
      rw [gn fun m=>?_]
      . exact R1.fz a u e
      . rw [(R1.dom m).2] at e;cases e
     refine ⟨by simp [lv,hn],v0,vs,hV H1 (As i),d0,As i,ds,d0',d,rfl,vV,r1.froz sF fun a m=>sk m,R1.nd i,rr,eG,fun v F' H' A0' A sf sh w0 wr nd=>?_⟩
     have nd2:=List.nodup_append.mp nd;have kb:∀ a u,H1 a=some u->a ∉ As i->H' a=some u/\F' a ≠ none:=fun a u e m=>by
      have b:hV H1 (As i) a=some u:=by rw [gn m];exact e
      have c:=sf a u b;exact ⟨sh a u c,by rw [c];exact fun z=>nomatch z⟩
     have oth:∀ kx a,kx ≠ i->a∈As kx->H' a=H1 a/\F' a ≠ none:=fun kx a h1 m=>by
      obtain ⟨⟨ws,h⟩,_⟩:=R1.dom m;have:=kb a _ h (R1.dj kx i a h1 m);exact ⟨by rw [h];exact this.1,this.2⟩
     have new:∀ a,F' a=none->(∃ j,a∈As j) \/ H a=none:=fun a n=>by
      by_cases m:a∈As i
      . exact .inl ⟨i,m⟩
      . refine .inr ?_;cases z:H a with
        | none=>rfl
        | some u=>exact absurd n (kb a u (t1 a u z) m).2
     have ev:EvW F0 H As F0 H' (ib As i A0') A:=⟨Same.refl _,fun a u e h=>(kb a u (t1 a u e) (h i)).1,fun _ _ _ n _=>n,fun kx a m=>by
      by_cases hkx:kx=i
      . subst hkx;rw [az] at m;exact new a (w0.dom a m).2
      . rw [aD hkx] at m;exact .inl ⟨kx,m⟩,fun a m=>new a (wr.dom a m).2,nd2.2.1,fun kx a m z=>by
      by_cases hkx:kx=i
      . subst hkx;rw [az] at m;exact nd2.2.2 a m a z rfl
      . rw [aD hkx] at m;exact (oth kx a hkx m).2 (wr.dom a z).2⟩
     have kI:dw H1 H':=fun a u e nl=>(kb a u e fun m=>by
      obtain ⟨⟨w,h⟩,_⟩:=R1.dom m;rw [e] at h;cases h;rw [w.2] at nl;cases nl).1
     exact k v F0 H' A (ib As i A0') ev (R1.write il s0 kI ((sF.trans sf).trans sh) (fun j a hj m=>(oth j a hj m).1) (w0.thaw (sF.trans sf) ho.1) nd2.1 fun j a hj m z=>(oth j a hj m).2 (w0.dom a z).2) (wr.thaw (sF.trans sf) ho.2)
   . cases q
 . cases q
end Dl
namespace Dl
open PySem PySem.Spec PyProof.Rows L2
def RPW (X:Cx) (Z:L2.St->Prop) (E:j9) (F:Hp):Res->Prop
 | .nx δ=>∀ σ' F' H',Same F F'->cU X.K F' H' σ' δ->Z σ'->E.nx σ' H'
 | .rt d=>∃ r p,d=.tup [r,p]/\∀ v σ' δ' F' H' A As,Same F F'->RepA X.K F' H' σ' δ' As->Z σ'->δ'[0]? = some (some p)->RepO X.K F' H' v r A->A.Nodup->(∀ i a,a∈As i->a ∉ A)->E.rt v H'
 | .bk δ=>∀ σ' F' H',Same F F'->cU X.K F' H' σ' δ->Z σ'->E.bk σ' H'
 | .ct δ=>∀ σ' F' H',Same F F'->cU X.K F' H' σ' δ->Z σ'->E.ct σ' H'
 | .ex _ _=>False
 | .mk _ _=>False
theorem RPW.mono {X:Cx} {Z:L2.St->Prop} {E:j9} {F F1:Hp} {r:Res} (s:Same F F1) (h:RPW X Z E F r):RPW X Z E F1 r:=by
 cases r with
 | nx δ=>exact fun σ' F' H' s2 R=>h σ' F' H' (s.trans s2) R
 | rt d=>obtain ⟨r,p,e,q⟩:=h;exact ⟨r,p,e,fun v σ' δ' F' H' A As s2=>q v σ' δ' F' H' A As (s.trans s2)⟩
 | bk δ=>exact fun σ' F' H' s2 R=>h σ' F' H' (s.trans s2) R
 | ct δ=>exact fun σ' F' H' s2 R=>h σ' F' H' (s.trans s2) R
 | ex C δ=>exact h
 | mk C δ=>exact h
def upU (X:Cx) (Z:L2.St->Prop) (s:SD):TS:=fun E σ H=>∃ F δ r,cU X.K F H σ δ/\Z σ/\s δ=some r/\RPW X Z E F r
def PUD (X:Cx) (Z:L2.St->Prop) (st:Stmt) (s:SD):Prop:=PS X st (upU X Z s)
def PUs (X:Cx) (Z:L2.St->Prop) (sts:List Stmt) (s:SD):Prop:=PSs X sts (upU X Z s)
def Ab (Z:L2.St->Prop):Prop:=∀ i,1<=i->∀ σ v,Z σ->Z (σ.set i (some v))
def jC (f:FM):SD:=fun δ=>(f δ).bind fun p=>match p.2[0]? with
 | some (some d)=>some (.rt (.tup [p.1,d]))
 | _=>none
theorem u3 {Z:L2.St->Prop} {H:Hp} {Q Q':L2.St->Hp->Prop} (zk:Ab Z):∀ (is:List Nat) {vs:List V} {σ:L2.St},(∀ i∈is,1<=i)->Z σ->(∀ σ' H',Q' σ' H'->Z σ'->Q σ' H')->gM is vs σ H Q'->gM is vs σ H Q
 | [],_,_,_,z,k,h=>⟨h.1,k _ _ h.2 z⟩
 | i :: is,_,σ,hi,z,k,⟨v,ws,e,h⟩=>⟨v,ws,e,u3 zk is (fun j m=>hi j (Zj _ m)) (zk i (hi i Zi) σ v z) k h⟩
section
variable {X:Cx} {Z:L2.St->Prop} {st:Stmt} {rest:List Stmt} {s u:SD} {e ei:Expr} {fk fl:FD} {fm:FM} {c:FT} {pos p1 p2:Pos}
theorem ph:PUs X Z [] cI:=kz kT fun E σ H ⟨F,δ,r,R,hz,e,k⟩=>by cases e;exact k σ F H (Same.refl F) R hz
theorem bw (h1:PUD X Z st s) (h2:PUs X Z rest u):PUs X Z (st :: rest) (aN s u):=kz (jH h1 h2) fun E σ H ⟨F,δ,r,R,hz,e,k⟩=>by
 unfold aN at e;obtain ⟨r1,e1,e⟩:=Za.mp e;refine ⟨F,δ,r1,R,hz,e1,?_⟩;cases r1 with
 | nx δ'=>exact fun σ' F' H' s1 R1 z1=>⟨F',δ',r,R1,z1,e,k.mono s1⟩
 | rt d=>cases e;exact k
 | bk d=>cases e;exact k
 | ct d=>cases e;exact k
 | ex C d=>cases e;exact k
 | mk C d=>cases e;exact k
theorem fZ (h:PUD X Z st s):PUs X Z [st] s:=kS h
theorem uM {cx:Expr} {a b:List Stmt} (hc:PTD X cx c) (ha:PUs X Z a s) (hb:PUs X Z b u):PUD X Z (.If cx a b pos) (sIf c s u):=de (uP hc ha hb) fun E σ H ⟨F,δ,r,⟨As,R⟩,hz,q,k⟩=>by
 unfold sIf at q;obtain ⟨d,ed,q⟩:=Za.mp q;refine ⟨δ,d,R.toS,ed,fun H' s1=>?_⟩
 cases d with
 | true=>rw [if_pos rfl];exact ⟨F,δ,r,⟨As,R.grow s1⟩,hz,q,k⟩
 | false=>rw [if_neg Zs];exact ⟨F,δ,r,⟨As,R.grow s1⟩,hz,q,k⟩
theorem d5 (i:Nat) {x:Str} {pos':Pos} (zk:Ab Z) (hN:X.N.Nodup) (he:PW X e fm) (h2:1<=i:=by decide) (hi:X.N[i]? = some x:=by rfl) (hx:Loc X.env.scope x:=by first | exact Or.inl rfl | exact Or.inr rfl) (hs:swapsWith e (some (.Name x pos')) pos.line X.env=pure false:=by rfl) (hf:X.fn x=true \/ X.env.scope.names.lookup x=some .local:=by first | exact .inl rfl | exact .inr rfl | assumption) :
 PUD X Z (.Assign [.Name x pos'] e pos) (aS i fm):=de (pj hN hi hx he hs hf) fun E σ H ⟨F,δ,r,⟨As,R⟩,hz,q,k⟩=>by
 unfold aS at q;obtain ⟨⟨d,δ'⟩,ed,q⟩:=Za.mp q;cases q;exact ⟨F,δ,As,d,δ',R,ed,fun v F' H' A As' ev R' r'=>k (σ.set i (some v)) F' H' ev.fs (R'.setM i r' ev.nd ev.dj) (zk i h2 σ v hz)⟩
theorem uQ (i:Nat) {x:Str} {pos':Pos} (hN:X.N.Nodup) (he:PW X e fm) (hi:X.N[i]? = some x:=by rfl) (hx:Loc X.env.scope x:=by first | exact Or.inl rfl | exact Or.inr rfl) (hs:swapsWith e (some (.Name x pos')) pos.line X.env=pure false:=by rfl) (hf:X.fn x=true \/ X.env.scope.names.lookup x=some .local:=by first | exact .inl rfl | exact .inr rfl | assumption) :
 PMD X (.Assign [.Name x pos'] e pos) (aS i fm):=de (pj hN hi hx he hs hf) fun E σ H ⟨F,δ,r,⟨As,R⟩,q,k⟩=>by
 unfold aS at q;obtain ⟨⟨d,δ'⟩,ed,q⟩:=Za.mp q;cases q;exact ⟨F,δ,As,d,δ',R,ed,fun v F' H' A As' ev R' r'=>k (σ.set i (some v)) F' H' ev.fs (R'.setM i r' ev.nd ev.dj)⟩
theorem EM {es:List Expr} {kt:Nat} {pt:Pos} (is:List Nat) (zk:Ab Z) (he:PW X e fm) (hg:PG X (.Tuple es kt pt) (DH X.K is.length (gM is))) (h2:∀ i∈is,1<=i:=by decide)
 (hs:swapsWithSole [.Tuple es kt pt] e pos.line X.env=pure false:=by rfl) (hw:swappedStores [.Tuple es kt pt] e X.env=pure none:=by rfl)
 (h1:(assignEach [.Tuple es kt pt] X.env).map (·.2)=[assign (.Tuple es kt pt) X.env]:=by rfl):PUD X Z (.Assign [.Tuple es kt pt] e pos) (wo is fm):=de (yc he hg hs hw h1) fun E σ H ⟨F,δ,r,⟨As,R⟩,hz,q,k⟩=>by
 unfold wo at q;obtain ⟨⟨d,δ'⟩,ed,q⟩:=Za.mp q;dsimp only at q;split at q
 . rename_i ds;split at q
   . rename_i hl;cases q;refine ⟨F,δ,As,_,δ',R,ed,fun v F' H' A As' ev R' r'=>?_⟩
     obtain ⟨a,vs,rfl,sq,ro⟩:=r'.parts;exact ⟨a,vs,rfl,sq,ro.len.trans hl.1,u3 zk is h2 hz (fun σ' H' h z=>h.2 z) (qW (Q:=fun σ' H2=>H2=H'/\(Z σ'->E.nx σ' H2)) is ro ev.nd ev.dj R' hl.1 hl.2 fun σ' R2=>⟨rfl,k σ' F' H' ev.fs R2⟩)⟩
   . cases q
 . cases q
theorem lT (he:PW X e fm):PUD X Z (.Return (some e) pos) (jC fm):=de (po he) fun E σ H ⟨F,δ,r,⟨As,R⟩,hz,q,k⟩=>by
 unfold jC at q;obtain ⟨⟨d,δ'⟩,ed,q⟩:=Za.mp q;dsimp only at q;split at q
 . rename_i p hp;cases q;obtain ⟨r,p',e,q⟩:=k;cases e;exact ⟨F,δ,As,d,δ',R,ed,fun v F' H' A As' ev R' r'=>q v σ δ' F' H' A As' ev.fs R' hz hp r' ev.nd ev.dj⟩
 . cases q
theorem x4 (i:Nat) {x:Str} (he:PV X e fm) (hk:PD X ei fk) (hN:X.N[i]? = some x:=by rfl) (hv:Vis X.env.scope x:=by first | exact Or.inl rfl | exact Or.inr (Or.inl rfl) | exact Or.inr (Or.inr rfl)) (hd:(x == ("__debug__":Str))=false:=by decide) (hcd:(x == ("__classdict__":Str))=false:=by decide)
 (hs:swapsWithSole [.Subscript (.Name x p1) ei p2] e pos.line X.env=pure false:=by rfl) (hw:swappedStores [.Subscript (.Name x p1) ei p2] e X.env=pure none:=by rfl)
 (h1:(assignEach [.Subscript (.Name x p1) ei p2] X.env).map (·.2)=[assign (.Subscript (.Name x p1) ei p2) X.env]:=by rfl)
 (hA:∀ v,assign (.Subscript (.Name x p1) ei p2) X.env v=(do
  let ov <- holding [v] (eval (.Name x p1) X.env)
  let iv <- holding [v,ov] (eval ei X.env)
  standAt p2
  holding [v,ov,iv] (setItem ov iv v)
  release [v,ov,iv] []):=by intro _;rfl) :
 PUD X Z (.Assign [.Subscript (.Name x p1) ei p2] e pos) (Ap i fk fm) :=
 de (yc he (C1 (ja hN hv hd hcd) hk xE hA) hs hw h1) fun E σ H ⟨F,δ,r,⟨As,R⟩,hz,q,k⟩=>by
 unfold Ap at q;obtain ⟨⟨d,δ'⟩,ed,q⟩:=Za.mp q;dsimp only at q;split at q
 . rename_i ds h1;obtain ⟨kd,ek,q⟩:=Za.mp q;split at q
   . rename_i kk;obtain ⟨j,hj,q⟩:=Za.mp q;cases q;refine ⟨F,δ,As,d,δ',R,ed,fun v F' H' A As' ev R' r'=>?_⟩
     obtain ⟨a,vs,A0,s1,eA,g1,n1,ro⟩:=R'.lst h1;refine ⟨.ref a,s1,δ',.int kk,R'.toS,ek,fun iv H2 s2 ri=>?_⟩
     cases ri;have R2:=R'.grow s2;have r2:RepO X.K F' H2 v d A:=r'.frame (aO s2) fun x m=>by
      obtain ⟨⟨ws,e⟩,_⟩:=r'.dom x m;rw [e];exact s2 x _ e
     obtain ⟨a2,vs2,A2,s12,eA2,g2,n2,ro2⟩:=R2.lst h1;have ea:a2=a:=by rw [s1] at s12;cases s12;rfl
     subst ea;refine ⟨a2,vs2,kk,j,rfl,rfl,g2,by rw [ro2.length];exact hj,?_⟩
     have jl:j < ds.length:=(pN hj).2.1;obtain ⟨v0,A1,B,A3,_,rB,eA0,pk⟩:=ro2.pick (i:=j) (d:=ds[j]) (Zp jl);have rn:=pk (H':=H2) (fun _ _ e _=>e) (fun _ _=>rfl) r2
     have nd0:=R2.nd i;rw [eA2,eA0] at nd0;have nd1:=List.nodup_cons.mp nd0;have nd2:=List.nodup_append.mp nd1.2;have nd3:=List.nodup_append.mp nd2.2.1;have inI:∀ y,y∈A1 \/ y∈A3->y∈As' i:=fun y m=>by
      rw [eA2,eA0];refine Zj _ ?_;rcases m with m | m
      . exact List.mem_append_left _ m
      . exact Zu _ (Zu _ m)
     have ai:a2∈As' i:=by rw [eA2];exact Zi
     refine k σ F' _ ev.fs (R2.wr h1 s12 eA2 g2 n2 rn (fun z=>?_) ?_ fun jj y hj m z=>?_) hz
     . rcases Zm.mp z with z | z
       . exact nd1.1 (List.mem_append_left _ z)
       . rcases Zm.mp z with z | z
         . exact ev.dj i a2 ai z
         . exact nd1.1 (Zu _ (Zu _ z))
     . refine List.nodup_append.mpr ⟨nd2.1,List.nodup_append.mpr ⟨ev.nd,nd3.2.1,fun y hy w hw e=>?_⟩,fun y hy w hw e=>?_⟩
       . subst e;exact ev.dj i y (inI y (.inr hw)) hy
       . subst e;rcases Zm.mp hw with z | z
         . exact ev.dj i y (inI y (.inl hy)) z
         . exact nd2.2.2 y hy y (Zu _ z) rfl
     . rcases Zm.mp z with z | z
       . exact R2.dj jj i y hj m (inI y (.inl z))
       . rcases Zm.mp z with z | z
         . exact ev.dj jj y m z
         . exact R2.dj jj i y hj m (inI y (.inr z))
   . cases q
 . cases q
theorem CP (i:Nat) {c:Expr} (hc:PE X c (tBM X.K "list" oZ (we i) (qz (upW X.K fm) Al))) (hs:swapsWith c none pos.line X.env=pure false:=by rfl):PUD X Z (.Expr c pos) (jY i fm):=de (kU hc hs) fun E σ H ⟨F,δ,r,⟨As,R⟩,hz,q,k⟩=>by
 unfold jY at q;split at q
 . rename_i ds0 h0;obtain ⟨⟨d,δ'⟩,ed,q⟩:=Za.mp q;dsimp only at q;split at q
   . rename_i ds h1;split at q
     . rename_i hl;cases q;obtain ⟨a,vs0,A00,s0,_,g0,_,_⟩:=R.lst h0;refine ⟨.ref a,s0,.inl ⟨rfl,_,SqL.of g0⟩,F,δ,As,d,δ',R,ed,fun v F' H' A As' ev R' r'=>?_⟩
       obtain ⟨a1,vs,A0,s1,eA,g1,n1,ro⟩:=R'.lst h1;have ea:a1=a:=by rw [s0] at s1;cases s1;rfl
       subst ea;refine ⟨a1,vs,v,rfl,rfl,g1,Nat.lt_of_le_of_lt (by rw [ro.length];exact hl) (jT (show 999<=1000 by decide)),?_⟩
       have nd0:=R'.nd i;rw [eA] at nd0;have nd1:=List.nodup_cons.mp nd0;have ai:a1∈As' i:=by rw [eA];exact Zi
       refine k σ F' _ ev.fs (R'.wr h1 s1 eA g1 n1 (ro.snoc r') (fun z=>?_) (List.nodup_append.mpr ⟨nd1.2,ev.nd,fun x hx y hy e=>?_⟩) fun j x hj m z=>?_) hz
       . rcases Zm.mp z with z | z
         . exact nd1.1 z
         . exact ev.dj i a1 ai z
       . subst e;exact ev.dj i x (by rw [eA];exact Zj _ hx) hy
       . rcases Zm.mp z with z | z
         . exact R'.dj j i x hj m (by rw [eA];exact Zj _ z)
         . exact ev.dj j x m z
     . cases q
   . cases q
 . cases q
theorem CO {iter:Expr} {body:List Stmt} {src:FMA} {x:Str} {px:Pos} (i:Nat) (zk:Ab Z) (hN:X.N.Nodup) (hp:PassesOwn (model X.prog X.w) X.A X.env X.xe) (hc:X.calm=true) (hi:PIM X (.Name x px) iter src) (hb:PUs X Z body s) (h2:1<=i:=by decide)
 (hx:X.N[i]? = some x:=by rfl) (hl:Loc X.env.scope x:=by first | exact Or.inl rfl | exact Or.inr rfl) (hf:X.fn x=true \/ X.env.scope.names.lookup x=some .local:=by first | exact .inl rfl | exact .inr rfl | assumption)
 (hs:∀ x,foldedSetIterable iter X.env x=pure x:=by intro _;rfl):PUD X Z (.For (.Name x px) iter body [] pos) (gQ src i s):=de (pq hp hc hi (eN hN hx hl hf) hb hs) fun E σ H ⟨F,δ,r,⟨As,R⟩,hz,e,k⟩=>by
 unfold gQ at e;obtain ⟨⟨ds,δ1⟩,eds,e⟩:=Za.mp e;refine ⟨F,δ,As,ds,δ1,R,eds,fun J F1 H1 As1 s1 R1 it=>?_⟩
 refine ⟨fun j m σ H=>m=ds.length - j/\j<=ds.length/\∃ F2 δ,Same F1 F2/\cU X.K F2 H σ δ/\Z σ/\forM i s (ds.drop j) δ=some r/\RPW X Z E F2 r,⟨ds.length,rfl,Nat.zero_le _,F1,δ1,Same.refl _,⟨As1,R1⟩,hz,e,k.mono s1⟩,?_⟩
 rintro j m σ H2 ⟨rfl,hjl,F2,δ2,s2,⟨As2,R2⟩,z2,e2,k2⟩
 by_cases hlt:j < ds.length
 . obtain ⟨go,yl⟩:=(it j H2 (s2.trans R2.fz)).1 hlt;rw [List.drop_eq_getElem_cons hlt] at e2;obtain ⟨r4,e4,e2⟩:=Za.mp (show ((s (δ2.set i (some (sh ds[j])))).bind _)=some r from e2)
   refine .inr ⟨go,fun σ' H'=>∃ F3 δ,Same F1 F3/\cU X.K F3 H' σ' δ/\Z σ'/\forM i s (ds.drop (j+1)) δ=some r/\RPW X Z E F3 r,fun σ' H' z=>⟨ds.length - (j+1),by omega,rfl,hlt,z⟩,fun y H' yy=>?_⟩
   obtain ⟨eH,d,hd,rx⟩:=yl y H' yy;subst eH;have hd':d=ds[j]:=by
    rw [Zp hlt] at hd;exact (Zy hd).symm
   subst hd';have R3:=R2.setM i (RepO.of_sh R2.fz (rx.mono s2)) Zq fun _ _ _ z=>nomatch z
   refine ⟨F2,δ2.set i (some (sh ds[j])),r4,R3,zk i h2 σ y z2,e4,?_⟩;cases r4 with
   | nx δ'=>exact fun σ' F' H'' s4 R4 z4=>⟨F',δ',s2.trans s4,R4,z4,e2,k2.mono s4⟩
   | ct δ'=>exact fun σ' F' H'' s4 R4 z4=>⟨F',δ',s2.trans s4,R4,z4,e2,k2.mono s4⟩
   | bk δ'=>cases e2;exact k2
   | rt d=>cases e2;exact k2
   | ex C δ'=>cases e2;exact k2
   | mk C δ'=>cases e2;exact k2
 . have e:j=ds.length:=by omega
   subst e;rw [List.drop_length] at e2;cases e2;exact .inl ⟨(it _ H2 (s2.trans R2.fz)).2 (ZH _),k2 σ F2 H2 (Same.refl _) ⟨As2,R2⟩ z2⟩
end
def cy (n:Nat) (d0:D) (es:List D):DS:=some d0 :: ((shs es).map some++List.replicate (n - (es.length+1)) none)
def asU (A0:List Addr):Nat->List Addr
 | 0=>A0
 | _=>[]
theorem qF {K:Zr} {F H:Hp} {N:List Str} {v0:V} {ws:List V} {d0:D} {es:List D} {A0:List Addr} (s:Same F H) (r0:RepO K F H v0 d0 A0) (nd:A0.Nodup) (r:Reps K F ws es):cU K F H (L2.start N (v0 :: ws)) (cy N.length d0 es):=by
 have l:=r.length;have l2:(shs es).length=es.length:=by rw [cq,Zg]
 refine ⟨asU A0,s,by unfold L2.start cy;simp [l,l2],fun i d q=>?_,fun i h=>?_,fun i=>?_,fun i j a hij m=>?_⟩
 . match i,q with
   | 0,q=>cases q;exact ⟨v0,rfl,r0⟩
   | i+1,q =>
    have q':((shs es).map some++List.replicate (N.length - (es.length+1)) none)[i]? = some (some d):=q;have hi:i < es.length:=by
     by_cases hi:i < es.length
     . exact hi
     . rw [ZE (by simpa [l2] using hi),List.getElem?_replicate] at q'
       split at q' <;> cases q'
    rw [List.getElem?_append_left (by simpa [l2] using hi),ZD] at q'
    obtain ⟨e,h1,h2⟩:=Zb.mp q';cases h2;rw [cq,ZD] at h1;obtain ⟨e0,h3,h4⟩:=Zb.mp h1;subst h4;obtain ⟨v,h5,h6⟩:=r.get h3;refine ⟨v,?_,RepO.of_sh s h6⟩;unfold L2.start;show (ws.map some++_)[i]? = _;rw [List.getElem?_append_left (by rw [Zg,l];exact hi),ZD,h5]
    rfl
 . match i,h with
   | 0,h=>exact absurd rfl (h d0)
   | i+1,_=>rfl
 . match i with
   | 0=>exact nd
   | i+1=>exact Zq
 . match i,j,hij,m with
   | 0,0,hij,_=>exact absurd rfl hij
   | 0,j+1,_,_=>exact fun z=>nomatch z
   | i+1,_,_,m=>cases m
section
variable {P:Program} {w:World} {K:Zr} {mg:Str->Option Value} {base:Heap}
theorem jF {x qual:Str} {st:Stmt} {f:Addr} {fd:FuncData} {N ps:List Str} {k:Nat} {G:List D->Option (D×D)} (F:Fun K x qual st f fd) (S:au N ps (aj st))
 (hbody:∀ (cdv:Value) (A:Around) (outer:List Env) (s:Shared) (H:Hp) (E:XK) (Z:L2.St->Prop) (d0:D) (es:List D) (d0' r:D),Room k (A.deeper (envOfC qual (aj st) s.heap.objs.size f cdv))->Ab Z->G (d0 :: es)=some (d0',r)->es.length+1=ps.length ->
  ∃ t,PUs (mT CX0 P w K mg base N qual (aj st) f cdv A outer s H E).nox Z (aV st) t/\t (cy N.length d0 es)=some (.rt (.tup [r,d0']))):FnOk P w K mg base CX0 (k+1) f fd ps (qv K ps.length G):=by
 refine F.ok S (fun vs H Q E h=>h.1) (fun cdv A outer s H vs Q E hr h=>?_)
 obtain ⟨hl,v0,ws,F0,d0,A0,es,d0',r,rfl,s0,r0,nd,rr,e,q⟩:=h;obtain ⟨t,ht,hq⟩:=hbody cdv A outer s H E (fun σ=>σ[0]? = some (some v0)) d0 es d0' r hr (fun i hi σ v a=>by show (σ.set i (some v))[0]? = some (some v0);rw [List.getElem?_set_ne (by omega)];exact a) e (by rw [<- hl,Zh,rr.length])
 refine ⟨_,ht,F0,_,_,qF s0 r0 nd rr,rfl,hq,r,d0',rfl,fun v σ' δ' F' H' A' As s1 R z g0 ra nd2 dj=>?_⟩
 obtain ⟨u0,h0,w0⟩:=R.val 0 _ g0;rw [z] at h0;cases h0;exact q v F' H' (As 0) A' s1 R.fz w0 ra (List.nodup_append.mpr ⟨R.nd 0,nd2,fun a m b m' e=>by subst e;exact dj 0 a m m'⟩)
end
end Dl
namespace Dl
open PySem PySem.Spec PyProof.Rows L2
def ItN (K:Zr) (J:It) (ds:List D):Prop:=ItF K J (fun _=>none) ds
def n8 (felt:FM):List D->D->Option (List D×D)
 | [],p=>some ([],p)
 | d :: ds,p=>(felt [some d,some p]).bind fun q=>match q.2 with
  | [some _,some p']=>if imm q.1 then (n8 felt ds p').bind fun t=>some (q.1 :: t.1,t.2) else none
  | _=>none
def uk (K:Zr) (felt:FM) (v0:V) (FB:Hp) (ds:List D) (t:List D×D) (i:Nat) (σ':L2.St) (H':Hp) (vs:List V):Prop :=
 ∃ F' As' o p xs rest,Same FB F'/\RepA K F' H' σ' [o,some p] As'/\As' 0=[]/\σ'[1]? = some (some v0)/\Reps K H' vs xs/\cT xs=true/\xs.length=i/\n8 felt (ds.drop i) p=some (rest,t.2)/\xs++rest=t.1
section
variable {X:Cx} {pins:List (Addr×Obj)} {σ:L2.St} {H₂:Hp} {s₂:Shared} {scope:Scope} {cl:List (Str×Addr)} {x:Str} {N:List Str} {C:Addr} {fp:List Addr} {ip:Nat}
theorem w6 {K:Zr} {felt:FM} {v0 y v:V} {FB H' H5:Hp} {ds:List D} {t:List D×D} {i:Nat} {σ':L2.St} {vs:List V} {d:D} (h:uk K felt v0 FB ds t i σ' H' vs) (hi:ds[i]? = some d) (im:imm d=true) (ry:Rep K H' y d) :
 ∃ T:VK->Prop,(∀ Q:VK,T Q->upW K felt (σ'.set 0 (some y)) H' Q)/\T fun v H5=>uk K felt v0 FB ds t (i+1) (σ'.set 0 (some y)) H5 (vs++[v]):=by
 refine ⟨fun Q=>upW K felt (σ'.set 0 (some y)) H' Q,fun Q h=>h,?_⟩
 obtain ⟨F',As',o,p,xs,rest,sF,R,a0,hv,rr,ims,hl,lw,ex⟩:=h;have hlt:i < ds.length:=(ZG.mp hi).1;have hd:ds.drop i=d :: ds.drop (i+1):=by
  rw [List.drop_eq_getElem_cons hlt]
  congr 1
  rw [Zp hlt] at hi;exact Zy hi
 rw [hd] at lw;obtain ⟨⟨e,δ'⟩,eq,lw⟩:=Za.mp (show ((felt [some d,some p]).bind _)=some (rest,t.2) from lw)
 dsimp only at lw;split at lw
 . rename_i o' p';split at lw
   . rename_i hi2;obtain ⟨t2,e2,lw⟩:=Za.mp lw;have lw0:(e :: t2.1,t2.2)=(rest,t.2):=Zy lw;obtain ⟨lw1,lw2⟩:=Prod.mk.inj lw0;subst lw1;have R0:=R.set 0 (by show 0 < 2;decide) (.imm im ry) Zq fun _ _ _ _ z=>nomatch z
     refine ⟨F',[some d,some p],_,e,_,R0,eq,fun v F5 H5 A As5 ev R5 r5=>?_⟩
     have A0:=r5.none_of hi2;subst A0;have k5:=ev.ki R0.domA;refine ⟨F5,ib As5 0 [],none,p',xs++[e],t2.1,sF.trans ev.fs,?_,az,?_,?_,?_,by simp [hl],lw2 ▸ e2,?_⟩
     . have:=R5.drop 0;exact this
     . rw [List.getElem?_set_ne (by decide)];exact hv
     . exact (fE k5 rr ims).append (.cons (r5.rep R5.fz) .nil)
     . refine imms_mem.mpr fun z m=>?_
       rcases Zm.mp m with m | m
       . exact imms_mem.mp ims z m
       . rw [Zk.mp m];exact hi2
     . rw [<- ex];simp
   . cases lw
 . cases lw
theorem sd {elt iter:Expr} {px pos:Pos} {it:Addr} {tn:Nat->Heap->Prop} {J:It} {ds:List D} {t:List D×D} {v0:V} {FB:Hp} {felt:FM} {RR:Value->Addr->Result->Shared->Prop} {E:Value->Shared->Prop} (I:L2.Inv X pins σ H₂ s₂) (hcm:X.calm=true) (O:CompOk X scope cl x N [ip])
 (T:kK X.prog X.w X.K (.Name x px) J fp it tn) (st:tn 0 s₂.heap) (hf:∀ b∈fp,fg X pins H₂ b) (itd:ItN X.K J ds) (ims:cT ds=true) (R:uk X.K felt v0 FB ds t 0 (none :: bC [ip] σ) H₂ []) (he:∀ C s₂ H₂ fp pn,PW (aR X scope cl x N C s₂ H₂ fp pn) elt felt)
 (hz:ds.length<=1000)
 (hRR:∀ (D C:Addr) (s':Shared) (H':Hp) (vs:List V) (σ':L2.St),s₂.heap.objs.size<=C->L2.Inv X pins σ (upd H' D (.lst vs)) s'->H' D=none->H₂ D=none->uk X.K felt v0 FB ds t ds.length σ' H' vs->(∃ m,s'.heap.Ns C m)->upd H' D (.lst vs) C=none->RR (.ref D) C (.ok .next) s') :
 wpAny (model X.prog X.w) X.A (newList []) (fun acc s₃=>wpAny (model X.prog X.w) X.A (newFunctionEnv scope X.env.globals cl [] X.env.qual none .none (some X.env)) (fun cenv s₄ =>
  codeAny (model X.prog X.w) X.A (.compStart (.ListComp elt [⟨.Name x px,iter,[],0⟩] scope pos) 0 (.ref it) acc { cenv with scope:=relabel scope X.env }) (RR acc cenv.locals) s₄) E s₃) E s₂:=by
 have objs:=T.obj 0 s₂.heap st;have objs':∀ b∈fp,∃ o,s₂.heap.get? b=some o:=fun b hb=>let ⟨o,h,_⟩:=objs b hb;⟨o,h⟩
 refine wpAny_newObj_type (wpAny_newFunctionEnv O.nocell (by intro y hy;simp at hy) (fun h₁ hns₁ hsb₁=>?_) O.kind)
 dsimp only at hns₁ hsb₁ ⊢;generalize hP:s₂.heap.push { cls:=.type "list",dict:=none,data:=.seq ([]:List Value).toArray }=P2 at hns₁ hsb₁ ⊢;have hC:P2.objs.size=s₂.heap.objs.size+1:=by rw [<- hP,Heap.size_push]
 generalize hCC:P2.objs.size=C at *
 have hCle:s₂.heap.objs.size<=C:=by omega
 have hDle:s₂.heap.objs.size<=s₂.heap.objs.size:=by omega
 have hDC:s₂.heap.objs.size ≠ C:=by omega
 have old:∀ b o,s₂.heap.get? b=some o->h₁.get? b=some o:=fun b o e=>by
  refine hsb₁.extBut b o (ZA (Zt (Heap.lt_size e) hCle)) (Heap.get?_push_of_some _ ?_);rw [<- hP];exact Heap.get?_push_of_some _ e
 have hacc:h₁.get? s₂.heap.objs.size=some { cls:=.type "list",data:=.seq ([]:List Value).toArray }:=by
  refine hsb₁.extBut s₂.heap.objs.size _ hDC (Heap.get?_push_of_some _ ?_);rw [<- hP];exact Heap.get?_push_size _ rfl
 have I0:=fun tk=>jf (C:=C) (tk:=tk) I hcm O hCle hf objs' old hns₁ I.len
 have dstk:s₂.heap.objs.size ∉ frs X.stack:=eO I hDle;have fne:∀ b∈fp,b ≠ s₂.heap.objs.size:=fun b hb e=>by
  obtain ⟨o,h⟩:=objs' b hb;exact absurd (Heap.lt_size h) (by rw [e];exact ZB _)
 have cne:∀ y c,cl.lookup y=some c->c ≠ s₂.heap.objs.size:=fun y c e z=>by
  obtain ⟨v,o,h1,_⟩:=I.cell y c (O.cls y c e);exact absurd (Heap.lt_size h1) (by rw [z];exact ZB _)
 have pne:∀ p∈X.pn++pins,p.1 ≠ s₂.heap.objs.size:=fun p hp e=>by
  exact absurd (Heap.lt_size (I.pin p hp).1) (by rw [e];exact ZB _)
 have stat:∀ {H':Hp} {pl:List (Addr×Obj)},(∀ b∈fp,H' b=none)->(∀ p∈pl,∀ b∈fp,p.1 ≠ b)->∀ b∈fp,fg (aR X scope cl x N C s₂ H₂ fp (X.pn++pins)) pl H' b:=fun {H' pl} hn hpl b hb=>by
  obtain ⟨o,h⟩:=objs' b hb;refine ⟨hn b hb,ZA (Zt (Heap.lt_size h) hCle),fun z=>?_,.inl hb,fun y c e=>(hf b hb).2.2.2.2.1 y c (O.cls y c e),fun p hp=>?_⟩
  . rcases Zn.mp (I.stkSub b z) with e | e
    . exact (hf b hb).2.1 e
    . exact (hf b hb).2.2.1 e
  . rcases Zm.mp hp with q | q
    . exact (hf b hb).2.2.2.2.2 p q
    . exact hpl p q b hb
 have loop:∀ s₃:Shared,s₃={ s₂ with heap:=h₁,toks:=s₂.toks+([]:List (Str×Value)).length } ->
  codeAny (model X.prog X.w) X.A (.compLoop (.ListComp elt [⟨.Name x px,iter,[],0⟩] scope pos) 0 (.ref it) (.ref s₂.heap.objs.size) (compEnvC scope cl C X.env)) (RR (.ref s₂.heap.objs.size) C) s₃:=by
  rintro s₃ rfl
  refine gl (fun n s=>∃ (i:Nat) (σ':L2.St) (H':Hp) (vs:List V),n=ds.length - i/\i<=ds.length/\L2.Inv (aR X scope cl x N C s₂ H₂ fp (X.pn++pins)) [] σ' H' s/\tn i s.heap/\(∀ b∈fp,H' b=none) /\
   (∃ (its:List Value) (k:Nat),Vals vs its/\s.heap.get? s₂.heap.objs.size=some { cls:=.type "list",data:=.seq its.toArray k })/\H' s₂.heap.objs.size=none/\uk X.K felt v0 FB ds t i σ' H' vs/\vs.length=i) ?_ ds.length
   ⟨0,_,H₂,[],rfl,Nat.zero_le _,I0 _,T.keep 0 _ _ st (fun b hb o e=>old b o e),fun b hb=>(hf b hb).1,⟨[],0,.nil,hacc⟩,I.hok.fresh hDle,R,rfl⟩
  rintro n s ⟨i,σ',H',vs,rfl,hi,I',st',fr',⟨its,k,rv,hD⟩,fD,cm,hl⟩
  have sN:Same (fun _=>none) H':=fun _ _ z=>nomatch z
  by_cases hlt:i < ds.length
  . obtain ⟨go,yl⟩:=(itd i H' sN).1 hlt;have hd0:ds[i]? = some ds[i]:=by simp [hlt]
    have I1:L2.Inv (aR X scope cl x N C s₂ H₂ fp (X.pn++pins)) [(s₂.heap.objs.size,{ cls:=.type "list",data:=.seq its.toArray k })] σ' H' s:=I'.pins_of fun p hp=>by
     have:p=(s₂.heap.objs.size,{ cls:=.type "list",data:=.seq its.toArray k }):=by simpa using hp
     subst this;exact ⟨hD,fD,hDC,dstk,fun v z=>by cases z⟩
    refine thn (T.item (aR X scope cl x N C s₂ H₂ fp (X.pn++pins)) rfl rfl rfl rfl i _ s σ' H' (fun _ _=>False) I1 (stat fr' fun p hp b hb=>by
     have:p=(s₂.heap.objs.size,{ cls:=.type "list",data:=.seq its.toArray k }):=by simpa using hp
     subst this;exact (fne b hb).symm) st' go) fun r s1 ⟨u,hr,h4⟩=>?_
    subst hr;refine thn h4 fun _ s2 ⟨y,H'',I2,ru,yy,st2,fr2⟩=>?_
    obtain ⟨e3,d,hd,rd⟩:=yl y H'' yy;subst e3;have hd':d=ds[i]:=by rw [hd0] at hd;exact (Zy hd).symm
    subst hd';have I3:=I2.pinned (stat fr2 fun p hp b hb=>by
     have:p=(s₂.heap.objs.size,{ cls:=.type "list",data:=.seq its.toArray k }):=by simpa using hp
     subst this;exact (fne b hb).symm) (T.obj _ _ st2)
    refine thn (eN (X:=aR X scope cl x N C s₂ H₂ fp (X.pn++pins)) (i:=0) O.nd O.h0 (.inl (lookup_relabel_local O.hx)) (.inl (by simp)) _ s2 σ' H'' y u (fun σ4 H4=>σ4=σ'.set 0 (some y)/\H4=H'') I3 ru ⟨rfl,rfl⟩) fun _ s4 ⟨σ4,H4,I4,e1,e2⟩=>?_
    subst e1 e2;obtain ⟨TT,t1,t2⟩:=w6 (v:=y) (H5:=H4) cm hd0 (imms_mem.mp ims _ (List.getElem_mem hlt)) (rd.mono sN);refine thn (he C s₂ H₂ fp (X.pn++pins) _ s4 (σ'.set 0 (some y)) H4 (fun v H5=>uk X.K felt v0 FB ds t (i+1) (σ'.set 0 (some y)) H5 (vs++[v])) I4 (t1 _ t2)) fun wv s5 ⟨v,H5,I5,rw5,cm5⟩=>?_
    have hD5:s5.heap.get? s₂.heap.objs.size=some { cls:=.type "list",data:=.seq its.toArray k }:=(I5.pin (s₂.heap.objs.size,{ cls:=.type "list",data:=.seq its.toArray k }) (by simp)).1
    have fD5:H5 s₂.heap.objs.size=none:=(I5.pin (s₂.heap.objs.size,{ cls:=.type "list",data:=.seq its.toArray k }) (by simp)).2.1
    have pf:∀ b∈fp,∀ ob,s2.heap.get? b=some ob->s5.heap.get? b=some ob/\H5 b=none:=fun b hb ob hob=>by
     have:=I5.pin (b,ob) (Zu _ (Zu _ (cA hb hob)));exact ⟨this.1,this.2.1⟩
    have lz:its.length<=1000:=by
     have:=rv.length;omega
    refine call_meets F.slot_list_append ⟨_,hD5,rfl⟩ F.entry_list_append (F.args_list_append_2 _ _) (PySem.list_append s₂.heap.objs.size its.toArray k wv (by rw [Zx];exact bn lz)) ⟨hD5,?_⟩
    have q:=PySem.IsL.update hD5 (fun a=>a.push wv)
    have I6:L2.Inv (aR X scope cl x N C s₂ H₂ fp (X.pn++pins)) [] (σ'.set 0 (some y)) H5 { s5 with heap:=s5.heap.update s₂.heap.objs.size (Obj.mapSeq fun a=>a.push wv),toks:=s5.toks } :=
     (I5.pins_of (pins':=[]) fun p hp=>by simp at hp).turned (it:=s₂.heap.objs.size) (t':=s5.toks) (fun b ob hb hu=>(Heap.get?_update_other s5.heap _ (Ne.symm hb)).trans hu) fD5 hDC (.inr hDle) cne (fun p hp=>by
      rcases Zm.mp hp with z | z
      . exact pne p z
      . simp at z)
    refine ⟨ds.length - (i+1),by omega,i+1,σ'.set 0 (some y),H5,vs++[v],rfl,hlt,I6,?_,?_,?_,fD5,cm5,by simp [hl]⟩
    . refine T.keep _ _ _ st2 fun b hb ob hob=>?_
      exact (Heap.get?_update_other s5.heap _ (Ne.symm (fne b hb))).trans (pf b hb ob hob).1
    . intro b hb;obtain ⟨ob,hob,_⟩:=T.obj _ _ st2 b hb;exact (pf b hb ob hob).2
    . have hf7:its.toArray.push wv=(its++[wv]).toArray:=by simp
      rw [hf7] at q;exact ⟨its++[wv],_,rv.append (.cons rw5 .nil),q⟩
  . have hie:i=ds.length:=by omega
    refine thn (T.done (aR X scope cl x N C s₂ H₂ fp (X.pn++pins)) rfl rfl rfl rfl i [(s₂.heap.objs.size,{ cls:=.type "list",data:=.seq its.toArray k })] s σ' H' (fun _ _=>False) (I'.pins_of fun p hp=>by
     have:p=(s₂.heap.objs.size,{ cls:=.type "list",data:=.seq its.toArray k }):=by simpa using hp
     subst this;exact ⟨hD,fD,hDC,dstk,fun v z=>by cases z⟩) (stat fr' fun p hp b hb=>by
     have:p=(s₂.heap.objs.size,{ cls:=.type "list",data:=.seq its.toArray k }):=by simpa using hp
     subst this;exact (fne b hb).symm) st' ((itd i H' sN).2 (by omega))) fun r s1 ⟨hr,I8⟩=>?_
    subst hr;have hD8:s1.heap.get? s₂.heap.objs.size=some { cls:=.type "list",data:=.seq its.toArray k }:=(I8.pin (s₂.heap.objs.size,{ cls:=.type "list",data:=.seq its.toArray k }) (by simp)).1
    have dn:∀ b,∀ u,H' b=some u->b ≠ s₂.heap.objs.size:=fun b u z=>aA z fD
    have un:Un (frs X.stack) fp H₂ (upd H' s₂.heap.objs.size (.lst vs)) s₂.heap s1.heap:=by
     have b0:=I8.base;refine ⟨fun b ob e n1 n2 n3=>b0.keep b ob e n1 n2 n3,fun b ob e n1 n2 n3=>b0.slot b ob e n1 n2 n3,fun b ob e n1 n3=>?_,fun b ob e n3=>b0.there b ob e n3,fun b zs e=>?_,fun b ob u e=>?_,fun b ps e=>?_⟩
     . rw [al (ZA (Heap.lt_size e))];exact b0.free b ob e n1 n3
     . have z:=b0.tups b zs e;rw [al (dn _ _ z)];exact z
     . have z:=b0.frzs b ob u e;rw [al (dn _ _ z)];exact z
     . obtain ⟨more,z⟩:=b0.tbls b ps e;exact ⟨more,by rw [al (dn _ _ z)];exact z⟩
    have hok:HOk X.prog X.w (upd H' s₂.heap.objs.size (.lst vs)) s1.heap:=fun b u z=>by
     by_cases hb:b=s₂.heap.objs.size
     . rw [hb] at z ⊢;rw [aw] at z;cases z;exact ⟨bn (by omega),its,k,rv,hD8⟩
     . rw [al hb] at z;exact (I8.hok b u z).stay (fun _ _ _ q=>q) (fun c q=>by rw [al (dn _ _ q)];exact q) fun c ys q=>by rw [al (dn _ _ q)];exact q
    have IX:L2.Inv X pins σ (upd H' s₂.heap.objs.size (.lst vs)) s1:=I.call' I8.os un hok I8.bare fun b hb=>⟨(hf b hb).2.2.2.1,(hf b hb).2.1,(hf b hb).2.2.2.2.1,(hf b hb).2.2.2.2.2⟩
    obtain ⟨m8,hn8,_⟩:=I8.loc;refine hRR s₂.heap.objs.size C s1 H' vs σ' hCle IX fD (I.hok.fresh hDle) (hie ▸ cm) ⟨m8,hn8⟩ ?_;rw [al (Ne.symm hDC)];exact I8.free
 exact codeAny_compStart_list (loop _ rfl) (T.self X.A 0 _ _ _ (T.keep 0 _ _ st (fun b hb o e=>old b o e)) (loop _ rfl))
end
end Dl
namespace Dl
open PySem PySem.Spec PyProof.Rows L2
def Fm (K:Zr) (src:FMA):TI:=fun σ H R=>∃ F δ As ds δ',RepA K F H σ δ As/\src δ=some (ds,δ')/\∀ J F' H1 As',EvW F H As F' H1 As' []->RepA K F' H1 σ δ' As'->ItN K J ds->R J H1
def PIW (X:Cx) (tg iter:Expr) (src:FMA):Prop:=PI X tg iter (Fm X.K src)
def lA (fa:FM):FMA:=fun δ=>(fa δ).bind fun p=>match p.1 with
 | .int b=>if -(2 ^ 62)<=b/\b < 2 ^ 62 then some (cJ 0 b 1,p.2) else none
 | _=>none
theorem wx {X:Cx} {tg a:Expr} {fa:FM} {p pos:Pos} (hg:Gl X "range") (hm:X.mg "range" = none) (ha:PWA X [a] (bi fa iG)) (hs:starEach [a] X.env=[(false,eval a X.env)]:=by rfl):PIW X tg (.Call (.Name "range" p) [a] [] pos) (lA fa) :=
 rH (nU hg hm ha hs) fun σ H R ⟨F,δ,As,ds,δ',R0,e,k⟩=>by
 unfold lA at e;obtain ⟨⟨d,δ1⟩,e1,e⟩:=Za.mp e;dsimp only at e;split at e
 . rename_i b;split at e
   . rename_i hb;cases e;refine ⟨F,δ,As,[.int b],_,R0,(by unfold bi iG;rw [e1];rfl),fun vs F1 H1 A As1 ev R1 r1 l=>?_⟩
     cases r1 with
     | cons r rr _ =>
      cases rr;cases r with
      | imm _ h =>
       cases h;refine ⟨b,rfl,hb.1,hb.2,k _ F1 H1 As1 ev.bare R1 ?_⟩;have h:=wO (K:=X.K) (F:=fun _=>none) (lo:=0) (n:=b.toNat)
       have e3:((b - 0+1 - 1) / 1).toNat=b.toNat:=by congr 1;omega
       unfold ItN cJ;rw [e3];exact h
   . cases e
 . cases e
def qx (ip:Nat) (src:FMA) (felt:FM):FM:=fun δ=>(src δ).bind fun q=>match q.2[ip]? with
 | some (some p)=>(n8 felt q.1 p).bind fun t=>if q.1.length<=1000/\cT q.1=true/\own t.2=true then some (.lst t.1,q.2.set ip (some t.2)) else none
 | _=>none
section
variable {X:Cx} {scope:Scope} {cl:List (Str×Addr)} {x:Str} {N:List Str}
theorem Az {elt iter:Expr} {px pos:Pos} {src:FMA} {felt:FM} (ip:Nat) (hi:PIW X (.Name x px) iter src) (he:∀ C s₂ H₂ fp pn,PW (aR X scope cl x N C s₂ H₂ fp pn) elt felt) (O:CompOk X scope cl x N [ip]) (hcm:X.calm=true:=by rfl)
 (hs:∀ v,foldedSetIterable iter X.env v=pure v:=by intro _;rfl):PW X (.ListComp elt [⟨.Name x px,iter,[],0⟩] scope pos) (qx ip src felt):=by
 intro pins s σ H Q I ⟨F,δ,As,d,δ',RA,q,k⟩;unfold qx at q;obtain ⟨⟨ds,δ1⟩,eds,q⟩:=Za.mp q;dsimp only at q;split at q
 . rename_i p hp;obtain ⟨t,et,q⟩:=Za.mp q;split at q
   . rename_i hc;obtain ⟨hz,ims,ho⟩:=hc;cases q;rw [eval_ListComp];refine wpAny_comprehension_free (use:=none) rfl hs O.clos O.kind O.names ?_;refine wpAny_mono (hi pins s σ H (fun J H1=>∃ F1 As1,EvW F H As F1 H1 As1 []/\RepA X.K F1 H1 σ δ1 As1/\ItN X.K J ds) I ⟨F,δ,As,ds,δ1,RA,eds,fun J F1 H1 As1 ev R1 itd=>⟨F1,As1,ev,R1,itd⟩⟩) (fun v s1 h1=>wpAny_mono h1 (fun itv s2 h2=>?_) fun _ _ z=>z) fun _ _ z=>z
     obtain ⟨it,fp,tn,J,H2,rfl,I2,T,st,hf,F1,As1,ev,R1,itd⟩:=h2;obtain ⟨v0,s0,r0⟩:=R1.val ip _ hp;have il:ip < δ1.length:=(ZG.mp hp).1;have sF:Same F1 (hV H2 (As1 ip)):=fun a u e=>by
      rw [gn fun m=>?_]
      . exact R1.fz a u e
      . rw [(R1.dom m).2] at e;cases e
     have sv:bC [ip] σ=[some v0]:=by
      unfold bC;show [match σ[ip]? with | some o=>o | none=>none]=_
      rw [s0]
     have cm0:uk X.K felt v0 (hV H2 (As1 ip)) ds t 0 (none :: bC [ip] σ) H2 []:=by
      refine ⟨hV H2 (As1 ip),fun i=>if i=1 then As1 ip else [],none,p,[],t.1,Same.refl _,⟨vV,by rw [sv];rfl,fun i d q=>?_,fun i h=>?_,fun i=>?_,fun i j a hij m=>?_⟩,rfl,by rw [sv];rfl,.nil,rfl,rfl,et,rfl⟩
      . match i,q with
        | 1,q =>
         cases q;rw [sv];exact ⟨v0,rfl,r0.froz sF fun a m=>sk m⟩
      . by_cases h1:i=1
        . subst h1;exact absurd rfl (h p)
        . exact if_neg h1
      . show (if i=1 then As1 ip else []).Nodup
        split
        . exact R1.nd ip
        . exact Zq
      . have m':a∈(if i=1 then As1 ip else []):=m
        show a ∉ (if j=1 then As1 ip else [])
        split at m'
        . rename_i h1;rw [if_neg fun h2=>hij (h1.trans h2.symm)]
          exact fun z=>nomatch z
        . cases m'
     refine sd (RR:=fun acc C=>compPost (model X.prog X.w) X.A X.xe none (EP X pins σ Q) acc C) I2 hcm O T st hf itd ims cm0 he hz ?_
     intro D C s' H' vs σ' hC IX fD fD2 cm ⟨m,hn⟩ fC;refine ⟨m,hn,fun h' hs'=>⟨.ref D,_,iz IX I2 hC fC hs',rfl,?_⟩⟩
     obtain ⟨F',As',o,p',xs,rest,sf,R',a0,hv,rr,imx,hl,lw,ex⟩:=cm;rw [List.drop_length] at lw;have lw0:([],p')=(rest,t.2):=Zy lw;obtain ⟨l1,l2⟩:=Prod.mk.inj lw0;subst l1;rw [List.append_nil] at ex;subst ex;obtain ⟨v1,h1,w0⟩:=R'.val 1 p' rfl;rw [hv] at h1;cases h1;rw [l2] at w0;have sn:=aJ fD (.lst vs);have kb:∀ a u,H2 a=some u->a ∉ As1 ip->H' a=some u/\F' a ≠ none:=fun a u e m=>by
      have b:hV H2 (As1 ip) a=some u:=by rw [gn m];exact e
      have c:=sf a u b;exact ⟨R'.fz a u c,by rw [c];exact fun z=>nomatch z⟩
     have oth:∀ kx a,kx ≠ ip->a∈As1 kx->H' a=H2 a/\F' a ≠ none:=fun kx a h1 m=>by
      obtain ⟨⟨ws,h⟩,_⟩:=R1.dom m;have:=kb a _ h (R1.dj kx ip a h1 m);exact ⟨by rw [h];exact this.1,this.2⟩
     have w1:RepO X.K F' (upd H' D (.lst vs)) v0 t.2 (As' 1):=w0.frame (aO sn) fun a m=>by
      obtain ⟨⟨ws,e⟩,_⟩:=w0.dom a m;rw [e];exact sn a _ e
     have nD:∀ j,D ∉ As1 j:=fun j m=>by
      obtain ⟨⟨ws,h⟩,_⟩:=R1.dom m;rw [fD2] at h;cases h
     have nD1:D ∉ As' 1:=fun m=>by
      obtain ⟨⟨ws,h⟩,_⟩:=w0.dom D m;rw [fD] at h;cases h
     have ev2:EvW F1 H2 As1 F1 (upd H' D (.lst vs)) (ib As1 ip (As' 1)) [D]:=⟨Same.refl _,fun a u e h=>sn a u (kb a u e (h ip)).1,fun _ _ _ n _=>n,fun kx a m=>by
      by_cases hkx:kx=ip
      . subst hkx;rw [az] at m
        by_cases mm:a∈As1 kx
        . exact .inl ⟨kx,mm⟩
        . refine .inr ?_;cases z:H2 a with
          | none=>rfl
          | some u=>exact absurd (w0.dom a m).2 (kb a u z mm).2
      . rw [aD hkx] at m;exact .inl ⟨kx,m⟩,fun a m=>by rw [Zk.mp m];exact .inr fD2,List.nodup_cons.mpr ⟨fun z=>(nomatch z),Zq⟩,fun kx a m z=>by
      rw [Zk.mp z] at m
      by_cases hkx:kx=ip
      . subst hkx;rw [az] at m;exact nD1 m
      . rw [aD hkx] at m;exact nD kx m⟩
     have kI:dw H2 (upd H' D (.lst vs)):=fun a u e nl=>sn a u (kb a u e fun m=>by
      obtain ⟨⟨w,h⟩,_⟩:=R1.dom m;rw [e] at h;cases h;rw [w.2] at nl;cases nl).1
     have R2:=R1.write il s0 kI (((sF.trans sf).trans R'.fz).trans sn) (fun j a hj m=>by
      obtain ⟨e1,e2⟩:=oth j a hj m;obtain ⟨⟨ws,h⟩,_⟩:=R1.dom m;rw [h] at e1 ⊢;exact sn a _ e1) (w1.thaw (sF.trans sf) ho) (R'.nd 1) fun j a hj m z=>(oth j a hj m).2 (w0.dom a z).2
     refine k (.ref D) F1 _ [D] _ (ev.seq ev2 fun _ z=>nomatch z) R2 (.lst aw ?_ (lN (rr.mono sn) imx))
     cases z:F1 D with
     | none=>rfl
     | some u=>rw [R1.fz D u z] at fD2;cases fD2
   . cases q
 . cases q
end
end Dl
namespace Dl
open PySem
theorem rV {α β:Type} {M:Model} {A:Around} {E:Value->Shared->Prop} {Q:β->Shared->Prop} (f:α->β->Sem (ForInStep β)) (r:β) (I:Nat->Shared->Prop):∀ (l:List α) (k:Nat) (s:Shared),I k s ->
 (∀ j x u,l[j]? = some x->I (k+j) u->wpAny M A (f x r) (fun t v=>t=.yield r/\I (k+j+1) v) E u)->(∀ u,I (k+l.length) u->Q r u)->wpAny M A (forIn l r f) Q E s
 | [],k,s,i,_,q=>by rw [List.forIn_nil];exact wpAny_pure (q s i)
 | x :: l,k,s,i,st,q=>by
  rw [List.forIn_cons];refine wpAny_bind (wpAny_mono (st 0 x s rfl i) (fun t u e=>?_) fun _ _ e=>e)
  obtain ⟨rfl,iu⟩:=e;refine rV f r I l (k+1) u iu (fun j y v e iv=>?_) fun v iv=>q v ?_
  . have:=st (j+1) y v (by simpa using e) (by rw [show k+(j+1)=k+1+j by omega];exact iv)
    rw [show k+(j+1)+1=k+1+j+1 by omega] at this
    exact this
  . rw [Zh,show k+(l.length+1)=k+1+l.length by omega]
    exact iv
structure Drw (prog:Program) (w:World) (A:Around) (it:Addr) (fp:List Addr) (S S':Heap->Prop) (P:Value->Prop) (En:Prop):Prop where
 keep:∀ h h',S h->(∀ b∈fp,∀ o,h.get? b=some o->h'.get? b=some o)->S h'
 keep':∀ h h',S' h->(∀ b∈fp,∀ o,h.get? b=some o->h'.get? b=some o)->S' h'
 draw:∀ (s:Shared) (Q:Value->Shared->Prop) (E:Value->Shared->Prop),S s.heap->(∀ x h',P x->S' h'->Heap.SameBut it s.heap h'->Q x { s with heap:=h' }) ->
  (En->∀ h' e,Heap.ExtBut it s.heap h'->(∃ o,h'.get? e=some o/\o.cls=.type "StopIteration")->E (.ref e) { s with heap:=h' })->wpAny (model prog w) A (Builtin.SmallTypes.nextOf (.ref it)) Q E s
section
variable {prog:Program} {w:World} {A:Around} {E:Value->Shared->Prop} {s:Shared} {its:List Addr} {fp:Nat->List Addr} {S S':Nat->Heap->Prop} {P:Nat->Value->Prop} {En:Prop} {z TI TO:Addr}
abbrev iY (a:Array Value):Obj:={ cls:=.type "tuple",data:=.seq a }
structure D6 (prog:Program) (w:World) (A:Around) (its:List Addr) (fp:Nat->List Addr) (S S':Nat->Heap->Prop) (P:Nat->Value->Prop) (En:Prop) (z TO:Addr):Prop where
 dr:∀ (j:Nat) (i:Addr),its[j]? = some i->Drw prog w A i (fp j) (S j) (S' j) (P j) En
 oz:TO ≠ z
 zi:z ∉ its
 oi:TO ∉ its
 zf:∀ j,z ∉ fp j
 of:∀ j,TO ∉ fp j
 ap:∀ (j k:Nat) (i:Addr),j < its.length->its[k]? = some i->j ≠ k->i ∉ fp j
structure ZInv (h0:Heap) (its:List Addr) (S S':Nat->Heap->Prop) (P:Nat->Value->Prop) (z TI TO:Addr) (k:Nat) (h:Heap):Prop where
 sz:h.objs.size=h0.objs.size
 zo:IsZip h z TI TO .ellipsis
 to:∃ a:Array Value,h.get? TO=some (iY a)/\a.size=its.length/\∀ j < k,∃ x,a[j]? = some x/\P j x
 st:∀ j < its.length,(j < k->S' j h)/\(k<=j->S j h)
 fr:∀ c o,c ≠ z->c ≠ TO->c ∉ its->h0.get? c=some o->h.get? c=some o
theorem ZInv.next {h0 h h1 h2:Heap} {k:Nat} {i:Addr} {x:Value} {a:Array Value} (R:D6 prog w A its fp S S' P En z TO) (I:ZInv h0 its S S' P z TI TO k h) (hi:its[k]? = some i) (px:P k x) (sx:S' k h1) (s1:Heap.SameBut i h h1)
 (ha:h.get? TO=some (iY a)) (hn:a.size=its.length) (hp:∀ j < k,∃ x,a[j]? = some x/\P j x) (s2:Heap.SameBut TO h1 h2) (g2:h2.get? TO=some (iY (a.setIfInBounds k x))):ZInv h0 its S S' P z TI TO (k+1) h2:=by
 have mi:i∈its:=ZF hi;have kl:k < its.length:=(ZG.mp hi).1;have up:∀ c,c ≠ i->c ≠ TO->h2.get? c=h.get? c:=fun c c1 c2=>(s2.2 c c2).trans (s1.2 c c1)
 refine ⟨by rw [s2.1,s1.1,I.sz],?_,⟨_,g2,by rw [Array.size_setIfInBounds,hn],fun j hj=>?_⟩,fun j hj=>⟨fun l=>?_,fun l=>?_⟩,fun c o c1 c2 c3 e=>?_⟩
 . show h2.get? z=_;rw [up z (fun e=>R.zi (e ▸ mi)) R.oz.symm]
   exact I.zo
 . by_cases e:j=k
   . subst e;exact ⟨x,Array.getElem?_setIfInBounds_self_of_lt (by omega),px⟩
   . obtain ⟨y,hy,py⟩:=hp j (by omega)
     exact ⟨y,by rw [Array.getElem?_setIfInBounds_ne (by omega)];exact hy,py⟩
 . by_cases e:j=k
   . subst e;exact (R.dr j i hi).keep' h1 h2 sx fun b hb o q=>(s2.2 b (fun z=>R.of j (z ▸ hb))).trans q
   . exact (R.dr j _ (Zp hj)).keep' h h2 ((I.st j hj).1 (by omega)) fun b hb o q=>(up b (fun z=>R.ap j k i hj hi e (z ▸ hb)) (fun z=>R.of j (z ▸ hb))).trans q
 . exact (R.dr j _ (Zp hj)).keep h h2 ((I.st j hj).2 (by omega)) fun b hb o q=>(up b (fun z=>R.ap j k i hj hi (by omega) (z ▸ hb)) (fun z=>R.of j (z ▸ hb))).trans q
 . rw [up c (fun z=>c3 (z ▸ mi)) c2]
   exact I.fr c o c1 c2 c3 e
theorem Af {Q:Value->Shared->Prop} {a0:Array Value} (R:D6 prog w A its fp S S' P En z TO) (hz:IsZip s.heap z TI TO .none) (hI:s.heap.get? TI=some (iY (its.map Value.ref).toArray)) (hO:s.heap.get? TO=some (iY a0)) (hn:a0.size=its.length) (hl:its.length<=1000) (ne:its ≠ []) (hS:∀ j < its.length,S j s.heap)
 (hQ:∀ h' a,IsZip h' z TI TO (rawInt s.heap.objs.size)->h'.get? TO=some (iY a)->a.size=its.length->(∀ j < its.length,∃ x,a[j]? = some x/\P j x)->h'.get? s.heap.objs.size=some (iY a)->(∀ j < its.length,S' j h')->h'.objs.size=s.heap.objs.size+1->(∀ c o,c ≠ z->c ≠ TO->c ∉ its->s.heap.get? c=some o->h'.get? c=some o)->Q (.ref s.heap.objs.size) { s with heap:=h' })
 (hE:En->∀ h' e,(∀ c o,c ≠ z->c ≠ TO->c ∉ its->s.heap.get? c=some o->h'.get? c=some o)->(∃ o,h'.get? e=some o/\o.cls=.type "StopIteration")->E (.ref e) { s with heap:=h' }) :
 wpAny (model prog w) A (Builtin.«zip.__next__» ⟨[.ref z],[]⟩) (fun fin s'=>∃ v,fin=.done (.ret v)/\Q v s') E s:=by
 obtain ⟨hp,g,d,tk,os⟩:=s;have hz':hp.get? z=some { cls:=.type "zip",dict:=none,data:=.fields #[.none,.bool false,.bool false,.ref TI,.ref TO],slots:=#[] }:=hz;have hI':hp.get? TI=some { cls:=.type "tuple",data:=.seq (its.map Value.ref).toArray }:=hI;unfold Builtin.«zip.__next__»
 wp_walk using rV _ _ (fun k u=>∃ h,u=⟨h,g,d,tk,os⟩/\ZInv hp its S S' P z TI TO k h)
 . have sb:Heap.SameBut z hp (hp.update z (Obj.mapFields fun x=>x.setIfInBounds 0 Value.ellipsis)):=Heap.SameBut.update ..
   refine ⟨_,rfl,sb.1,Heap.get?_update_self _ hz' rfl,⟨a0,(sb.2 _ R.oz).trans hO,hn,fun j q=>absurd q (Nat.not_lt_zero _)⟩,fun j hj=>⟨fun q=>absurd q (Nat.not_lt_zero _),fun _=>?_⟩,fun c o c1 _ _ e=>(sb.2 c c1).trans e⟩
   exact (R.dr j _ (Zp hj)).keep _ _ (hS j hj) fun b hb o e=>(sb.2 b fun q=>R.zf j (q ▸ hb)).trans e
 . rintro j ⟨v,k⟩ u hx ⟨h,rfl,I⟩
   obtain ⟨i,hi,rfl,rfl⟩:∃ i,its[j]? = some i/\v=.ref i/\k=j:=by
    simp only [List.getElem?_zipIdx,ZD,Option.map_map,Zb,Function.comp,Prod.mk.injEq] at hx;obtain ⟨i,hi,rfl,rfl⟩:=hx;exact ⟨i,hi,rfl,by omega⟩
   rw [Nat.zero_add] at I ⊢;obtain ⟨a,ha,han,hap⟩:=I.to;have mi:i∈its:=ZF hi;have kl:k < its.length:=(ZG.mp hi).1;have zo:=I.zo;dsimp only;refine wpAny_bind (wpAny_onRaise (wpAny_bind (m:=Builtin.SmallTypes.nextOf (.ref i)) ((R.dr k i hi).draw _ _ _ ((I.st k kl).2 (ZH _)) (fun x h1 px sx s1=>wpAny_pure ?_) (fun en h1 e s1 he=>?_))))
   . have ha1:h1.get? TO=some (iY a):=(s1.2 TO fun q=>R.oi (q ▸ mi)).trans ha
     refine wpAny_bind (wpAny_seqItems ha1 rfl ?_);refine wpAny_bind (wpAny_updateSeq ha1 rfl ?_ ?_ ?_)
     . refine wpAny_bind (wpAny_letGo (wpAny_pure ⟨rfl,_,rfl,I.next R hi px sx s1 ha han hap (Heap.SameBut.update ..) ?_⟩));rw [Heap.get?_update_self _ ha1 rfl];simp [Obj.mapSeq]
     . show a.size<=2 ^ 24;omega
     . rw [Array.size_setIfInBounds];show a.size<=2 ^ 24+1;omega
   . obtain ⟨oe,hoe,hce⟩:=he;have z1:IsZip h1 z TI TO .ellipsis:=s1 z _ (fun q=>R.zi (q ▸ mi)) zo
     have ez:e ≠ z:=fun q=>by
      have:=(q ▸ hoe).symm.trans z1;injection this with this
      rw [this] at hce;exact absurd (show Value.type "zip" = Value.type "StopIteration" from hce) (by decide)
     refine wpAny_setField_rec z1 (by simp) fun h2 _ s2=>hE en h2 e (fun c o c1 c2 c3 q=>?_) ⟨oe,(s2.2 e ez).trans hoe,hce⟩
     exact (s2.2 c c1).trans (s1 c o (fun x=>c3 (x ▸ mi)) (I.fr c o c1 c2 c3 q))
 . rintro u ⟨h,rfl,I⟩
   rw [Nat.zero_add] at I;simp only [List.length_zipIdx,Zg] at I;obtain ⟨a,ha,han,hap⟩:=I.to;have zo:=I.zo;have szl:¬ a.toList.toArray.size > sizeLine:=by
    show ¬ a.toList.toArray.size > 2 ^ 24;rw [Zx,ZC];omega
   have zsz:z < h.objs.size:=Heap.lt_size zo
   wp_walk
   rw [if_neg szl]
   wp_walk
   refine ⟨_,rfl,?_⟩;have z1:(h.push (iY a.toList.toArray)).get? z=some { cls:=.type "zip",dict:=none,data:=.fields #[.ellipsis,.bool false,.bool false,.ref TI,.ref TO],slots:=#[] }:=Heap.get?_push_of_some _ zo;have z2:=Heap.get?_update_self (Obj.mapFields fun x=>x.setIfInBounds 0 (rawInt (h.objs.size:Int))) z1 rfl
   have z3:=Heap.get?_update_self (Obj.mapFields fun x=>x.setIfInBounds 1 (Value.bool false)) z2 rfl
   have s2:Heap.SameBut z (h.push (iY a.toList.toArray)) ((h.push (iY a.toList.toArray)).update z (Obj.mapFields fun x=>x.setIfInBounds 0 (rawInt (h.objs.size:Int)))):=Heap.SameBut.update ..
   have s3:Heap.SameBut z _ (((h.push (iY a.toList.toArray)).update z (Obj.mapFields fun x=>x.setIfInBounds 0 (rawInt (h.objs.size:Int)))).update z (Obj.mapFields fun x=>x.setIfInBounds 1 (Value.bool false))):=Heap.SameBut.update ..
   have up:∀ c o,c ≠ z->h.get? c=some o->(((h.push (iY a.toList.toArray)).update z (Obj.mapFields fun x=>x.setIfInBounds 0 (rawInt (h.objs.size:Int)))).update z (Obj.mapFields fun x=>x.setIfInBounds 1 (Value.bool false))).get? c=some o:=fun c o c1 e=>(s3.2 c c1).trans ((s2.2 c c1).trans (Heap.get?_push_of_some _ e))
   have sz:h.objs.size=hp.objs.size:=I.sz;have q:=hQ _ a (by rw [<- sz];exact z3) (up _ _ R.oz ha) han hap ?_ (fun j hj=>?_) ?_ fun c o c1 c2 c3 e=>up c o c1 (I.fr c o c1 c2 c3 e)
   . rw [<- sz] at q;exact q
   . rw [<- sz];refine (s3.2 _ (Nat.ne_of_gt zsz)).trans ((s2.2 _ (Nat.ne_of_gt zsz)).trans ?_);rw [Heap.get?_push_size _ rfl]
   . exact (R.dr j _ (Zp hj)).keep' h _ ((I.st j hj).1 hj) fun b hb o e=>up b o (fun x=>R.zf j (x ▸ hb)) e
   . rw [s3.1,s2.1,Heap.size_push,sz]
theorem kM {it t:Addr} {i:Nat} {items:Array Value} {Q:Value->Shared->Prop} (hh:A.handled=none) (a:s.heap.IsTupleIter it t i) (b:s.heap.IsTuple t items)
 (hQ:∀ x h',items[i]? = some x->h'.IsTupleIter it t (i+1)->Heap.SameBut it s.heap h'->Q x { s with heap:=h' })
 (hE:items[i]? = none->∀ h' e,Heap.ExtBut it s.heap h'->(∃ o,h'.get? e=some o/\o.cls=.type "StopIteration")->E (.ref e) { s with heap:=h' }) :
 wpAny (model prog w) A (Builtin.SmallTypes.nextOf (.ref it)) Q E s:=by
 have T:=a.typeIs;obtain ⟨⟨c1,d1,a1,l1⟩,ho,hc,hd⟩:=id a;obtain ⟨⟨c2,d2,a2,l2⟩,hu,hc2,n,hd2⟩:=b;cases hc;cases hd;cases hc2;cases hd2;unfold Builtin.SmallTypes.nextOf;refine wpAny_bind (wpAny_callSpecial?_slot (name:=Str.ofString "__next__") T F.slot_tuple_iterator_next (wpAny_call_entry F.slot_tuple_iterator_next T F.entry_tuple_iterator_next ?_ (F.args_tuple_iterator_next_1 _)));unfold Builtin.«tuple_iterator.__next__»;obtain ⟨hp,g,d,tk,os⟩:=s;have hd':A.in1.handled=none:=hh;cases hx:items[i]? with
 | some x =>
  wp_walk
  simp only [Int.toNat_natCast,hx]
  wp_walk
  refine ⟨x,rfl,wpAny_pure (hQ x _ hx ⟨_,Heap.get?_update_self _ ho rfl,rfl,?_⟩ (Heap.SameBut.update ..))⟩;simp [Obj.mapFields,rawInt]
 | none =>
  wp_walk
  simp only [Int.toNat_natCast,hx]
  wp_walk
  unfold raiseNew
  wp_walk
  exact hE hx _ _ (((Heap.SameBut.update ..).extBut.push _).push _) ⟨_,Heap.get?_push_size _ rfl,rfl⟩
theorem zO (hh:A.handled=none) {it l:Addr} (n:l ≠ it) (i:Nat) (xs:Array Value) {En:Prop} (en:xs[i]? = none->En):Drw prog w A it [it,l] (fun h=>h.IsListIter it l i/\h.IsList l xs) (fun h=>h.IsListIter it l (i+1)/\h.IsList l xs) (fun x=>xs[i]? = some x) En where
 keep:=fun _ _ a k=>⟨a.1.at fun o e=>k _ (by simp) o e,a.2.at fun o e=>k _ (by simp) o e⟩
 keep':=fun _ _ a k=>⟨a.1.at fun o e=>k _ (by simp) o e,a.2.at fun o e=>k _ (by simp) o e⟩
 draw:=fun s Q E a q e=>by
  cases hx:xs[i]? with
  | some x=>exact wpAny_nextOf_list_item a.1 a.2 hx fun h' b s1=>q x h' hx ⟨b,a.2.at fun o z=>(s1.2 l n).trans z⟩ s1
  | none=>exact wpAny_nextOf_list_end hh a.1 a.2 hx (e (en hx))
theorem wZ (hh:A.handled=none) {it t:Addr} (n:t ≠ it) (i:Nat) (xs:Array Value) {En:Prop} (en:xs[i]? = none->En):Drw prog w A it [it,t] (fun h=>h.IsTupleIter it t i/\h.IsTuple t xs) (fun h=>h.IsTupleIter it t (i+1)/\h.IsTuple t xs) (fun x=>xs[i]? = some x) En where
 keep:=fun _ _ a k=>⟨a.1.at fun o e=>k _ (by simp) o e,a.2.at fun o e=>k _ (by simp) o e⟩
 keep':=fun _ _ a k=>⟨a.1.at fun o e=>k _ (by simp) o e,a.2.at fun o e=>k _ (by simp) o e⟩
 draw:=fun s Q E a q e=>kM hh a.1 a.2 (fun x h' hx b s1=>q x h' hx ⟨b,a.2.at fun o z=>(s1.2 t n).trans z⟩ s1) fun hx=>e (en hx)
def pk {α:Type} (a b:α) (j:Nat):α:=if j=0 then a else b
theorem uZ {i1 i2 l1 l2:Addr} {k:Nat} {xs ys:Array Value} {a b:Value} {Q:Option Value->Shared->Prop} (hh:A.handled=none) (D:ZipApart z TI TO i1 i2 l1 l2) (hz:IsZip s.heap z TI TO .none) (hTI:IsPair s.heap TI (.ref i1) (.ref i2)) (hTO:IsPair s.heap TO a b)
 (h1:s.heap.IsListIter i1 l1 k) (h2:s.heap.IsTupleIter i2 l2 k) (g1:s.heap.IsList l1 xs) (g2:s.heap.IsTuple l2 ys)
 (hQ:∀ x y h',xs[k]? = some x->ys[k]? = some y->IsZip h' z TI TO (rawInt s.heap.objs.size)->IsPair h' TO x y->h'.IsListIter i1 l1 (k+1)->h'.IsTupleIter i2 l2 (k+1)->IsPair h' s.heap.objs.size x y->(∀ c o,c ∉ [z,TO,i1,i2]->s.heap.get? c=some o->h'.get? c=some o)->Q (some (.ref s.heap.objs.size)) { s with heap:=h' })
 (hE:xs[k]? = none \/ ys[k]? = none->∀ h',(∀ c o,c ∉ [z,TO,i1,i2]->s.heap.get? c=some o->h'.get? c=some o)->Q none { s with heap:=h' }):wpAny (model prog w) A (pyNext (.ref z)) Q E s:=by
 have T:s.TypeIs (.ref z) "zip":=⟨_,hz,rfl⟩;have hh1:A.in1.handled=none:=hh;have out:∀ c,c ∉ [z,TO,i1,i2]->c ≠ z/\c ≠ TO/\c ∉ [i1,i2]:=fun c n=>by
  simp only [Zn,Zz,or_false,not_or] at n ⊢;exact n
 have R:D6 prog w A.in1 [i1,i2] (pk [i1,l1] [i2,l2]) (pk (fun h=>h.IsListIter i1 l1 k/\h.IsList l1 xs) fun h=>h.IsTupleIter i2 l2 k/\h.IsTuple l2 ys) (pk (fun h=>h.IsListIter i1 l1 (k+1)/\h.IsList l1 xs) fun h=>h.IsTupleIter i2 l2 (k+1)/\h.IsTuple l2 ys)
  (pk (fun x=>xs[k]? = some x) fun y=>ys[k]? = some y) (xs[k]? = none \/ ys[k]? = none) z TO:=by
  have two:∀ (j:Nat) (i:Addr),[i1,i2][j]? = some i->j=0/\i=i1 \/ j=1/\i=i2:=fun j i e=>by
   match j,e with
   | 0,e=>exact .inl ⟨rfl,(Zy e).symm⟩
   | 1,e=>exact .inr ⟨rfl,(Zy e).symm⟩
  refine ⟨fun j i e=>?_,D.TOz,?_,?_,fun j=>?_,fun j=>?_,fun j m i hj e n=>?_⟩
  . rcases two j i e with ⟨rfl,rfl⟩ | ⟨rfl,rfl⟩
    . exact zO hh1 D.l1i1 k xs .inl
    . exact wZ hh1 D.l2i2 k ys .inr
  . simp only [Zn,Zz,or_false,not_or];exact ⟨D.i1z.symm,D.i2z.symm⟩
  . simp only [Zn,Zz,or_false,not_or];exact ⟨D.TOi1,D.TOi2⟩
  . unfold pk;split <;> simp only [Zn,Zz,or_false,not_or]
    . exact ⟨D.i1z.symm,D.l1z.symm⟩
    . exact ⟨D.i2z.symm,D.l2z.symm⟩
  . unfold pk;split <;> simp only [Zn,Zz,or_false,not_or]
    . exact ⟨D.TOi1,D.l1TO.symm⟩
    . exact ⟨D.TOi2,D.l2TO.symm⟩
  . rcases two m i e with ⟨rfl,rfl⟩ | ⟨rfl,rfl⟩
    . rw [pk,if_neg n];simp only [Zn,Zz,or_false,not_or];exact ⟨D.i12,D.l2i1.symm⟩
    . unfold pk;split <;> simp only [Zn,Zz,or_false,not_or]
      . exact ⟨D.i12.symm,D.l1i2.symm⟩
      . rename_i h0;have:j < 2:=hj;omega
 unfold pyNext;refine wpAny_bind (wpAny_attempt (wpAny_callSpecial?_slot (name:=Str.ofString "__next__") T F.slot_zip_next (wpAny_call_entry F.slot_zip_next T F.entry_zip_next (Af (a0:=#[a,b]) R hz hTI hTO rfl (by simp) (by simp) (fun j hj=>?_) (fun h' u yz yo yn yp yT ys' _ yk=>wpAny_pure ?_) fun en h' e yk ye=>?_) (F.args_zip_next_1 _))))
 . match j,hj with
   | 0,_=>exact ⟨h1,g1⟩
   | 1,_=>exact ⟨h2,g2⟩
 . obtain ⟨x,ux,px⟩:=yp 0 (by simp)
   obtain ⟨y,uy,py⟩:=yp 1 (by simp)
   have eu:u = #[x,y]:=by
    apply Array.ext_getElem?
    intro j
    match j with
    | 0=>exact ux
    | 1=>exact uy
    | j+2=>rw [Array.getElem?_eq_none (by rw [yn];simp),Array.getElem?_eq_none (by simp)]
   subst eu;exact hQ x y h' px py yz yo (ys' 0 (by simp)).1 (ys' 1 (by simp)).1 yT fun c o n e=>yk c o (out c n).1 (out c n).2.1 (out c n).2.2 e
 . obtain ⟨o,ho,hc⟩:=ye;exact wpAny_bind (wpAny_isInstance (T:="StopIteration") (b:=true) ⟨o,ho,hc⟩ isSubtype_stop (wpAny_pure (hE en h' fun c o n e=>yk c o (out c n).1 (out c n).2.1 (out c n).2.2 e)))
def i8 (h:Heap):List Obj->Heap
 | []=>h
 | o :: os=>i8 (h.push o) os
theorem fX {c:Addr} {o:Obj}:∀ (os:List Obj) (h:Heap),h.get? c=some o->(i8 h os).get? c=some o
 | [],_,e=>e
 | _ :: os,_,e=>fX os _ (Heap.get?_push_of_some _ e)
theorem fY {o:Obj} (f:o.isFreed=false):∀ (os:List Obj) (i:Nat) (h:Heap),os[i]? = some o->(i8 h os).get? (h.objs.size+i)=some o
 | o' :: os,0,h,e=>by
  cases e;exact fX os _ (Heap.get?_push_size _ f)
 | o' :: os,i+1,h,e=>by
  have:=fY f os i (h.push o') e;rw [Heap.size_push,Nat.add_assoc,Nat.add_comm 1 i] at this;exact this
def qt (n l1 l2:Addr):List Obj:=[{ cls:=.type "list_iterator",data:=.fields #[.ref l1,.int 0 0] },{ cls:=.type "tuple_iterator",data:=.fields #[.ref l2,.int 0 0] },iY #[.ref n,.ref (n+1)],iY #[.none,.none],{ cls:=.type "zip",data:=.fields #[.none,.bool false,.bool false,.ref (n+2),.ref (n+3)] }]
theorem yQ (l1 l2:Addr) (xs ys:Array Value):Meets (Builtin.«zip.__new__» ⟨[.type "zip",.ref l1,.ref l2],[]⟩) fun _ R s=>s.heap.IsList l1 xs/\s.heap.IsTuple l2 ys/\R (.ok (.ret (.ref (s.heap.objs.size+4)))) { s with heap:=i8 s.heap (qt s.heap.objs.size l1 l2) }:=Meets.of_wp fun prog w A R s ⟨g1,g2,h⟩=>by
 have sub:=sub_zip;obtain ⟨hp,g,d,tk,os⟩:=s
 wp_walk using wpAny_pyIter_list g1,wpAny_pyIter_tuple (g2.push _)
 simp only [i8,qt] at h;simp only [Heap.size_push] at h ⊢;exact ⟨_,rfl,h⟩
theorem Bx {l1 l2:Addr} {xs ys:Array Value} {Q:Value->Shared->Prop} (g1:s.heap.IsList l1 xs) (g2:s.heap.IsTuple l2 ys)
 (h:∀ n h',n=s.heap.objs.size->IsZip h' (n+4) (n+2) (n+3) .none->IsPair h' (n+2) (.ref n) (.ref (n+1))->IsPair h' (n+3) .none .none->h'.IsListIter n l1 0->h'.IsTupleIter (n+1) l2 0->(∀ c o,s.heap.get? c=some o->h'.get? c=some o)->Q (.ref (n+4)) { s with heap:=h' }):wpAny (model prog w) A (call (.type "zip") [.ref l1,.ref l2]) Q E s:=by
 have at_:=fun (o:Obj) (f:o.isFreed=false) (i:Nat) (e:(qt s.heap.objs.size l1 l2)[i]? = some o)=>fY f (qt s.heap.objs.size l1 l2) i s.heap e
 have zz:=at_ _ rfl 4 rfl;refine callType_new (S:=fun _ R s=>s.heap.IsList l1 xs/\s.heap.IsTuple l2 ys/\R (.ok (.ret (.ref (s.heap.objs.size+4)))) { s with heap:=i8 s.heap (qt s.heap.objs.size l1 l2) }) F.called_zip (by decide) (F.typeCall_zip_2 _ _) (F.newCall_zip_2 _ _) (fun o=>F.args_object_init_3 o _ _) F.entry_zip_new (yQ l1 l2 xs ys) ⟨g1,g2,⟨_,zz,rfl⟩,?_⟩
 exact h _ _ rfl zz (at_ _ rfl 2 rfl) (at_ _ rfl 3 rfl) ⟨_,at_ _ rfl 0 rfl,rfl,rfl⟩ ⟨_,at_ _ rfl 1 rfl,rfl,rfl⟩ fun c o e=>fX _ _ e
end
end Dl
namespace Dl
open PySem PySem.Spec PyProof.Rows L2
end Dl
namespace Dl
open PySem PySem.Spec PyProof.Rows L2
def D9 (K:Zr) (a b:Addr):It :=
 ⟨fun i H=>∃ xs ys x y,SqL K H a xs/\SqT K H b ys/\xs[i]? = some x/\ys[i]? = some y,fun i H v H'=>∃ p x y,v=.ref p/\H p=none/\H'=upd H p (.tup [x,y])/\(∀ xs,SqL K H a xs->xs[i]? = some x)/\∀ ys,SqT K H b ys->ys[i]? = some y,
  fun i H=>∃ xs ys,SqL K H a xs/\SqT K H b ys/\(xs.length<=i \/ ys.length<=i)⟩
def D5 (z TI TO i1 i2 l1 l2:Addr) (i:Nat) (h:Heap):Prop:=IsZip h z TI TO .none/\IsPair h TI (.ref i1) (.ref i2)/\(∃ a b,IsPair h TO a b)/\h.IsListIter i1 l1 i/\h.IsTupleIter i2 l2 i
theorem uB {X:Cx} {pins:List (Addr×Obj)} {σ:L2.St} {H:Hp} {s:Shared} {a:Addr} {xs ys:List V} (I:L2.Inv X pins σ H s) (h:SqT X.K H a xs) (h':SqT X.K H a ys):xs=ys:=I.tuple_inj h h'
theorem v9 {P:Program} {w:World} {K:Zr} {es:List Expr} {kt:Nat} {pt:Pos} {z TI TO i1 i2 l1 l2:Addr} (D:ZipApart z TI TO i1 i2 l1 l2):kK P w K (.Tuple es kt pt) (D9 K l1 l2) [z,TI,TO,i1,i2] z (D5 z TI TO i1 i2 l1 l2) where
 mem:=by simp
 obj:=fun i h st b hb=>by
  obtain ⟨hz,hTI,⟨a,b',hTO⟩,⟨o1,e1,_,d1⟩,⟨o2,e2,_,d2⟩⟩:=st;simp only [Zn,Zz,or_false] at hb;rcases hb with rfl | rfl | rfl | rfl | rfl
  . exact ⟨_,hz,fun v q=>by cases q⟩
  . exact ⟨_,hTI,fun v q=>by cases q⟩
  . exact ⟨_,hTO,fun v q=>by cases q⟩
  . exact ⟨_,e1,fun v q=>by rw [d1] at q;cases q⟩
  . exact ⟨_,e2,fun v q=>by rw [d2] at q;cases q⟩
 keep:=fun i h h' st k=>by
  obtain ⟨hz,hTI,⟨a,b',hTO⟩,h1,h2⟩:=st;exact ⟨k z (by simp) _ hz,k TI (by simp) _ hTI,⟨a,b',k TO (by simp) _ hTO⟩,h1.at fun o e=>k i1 (by simp) o e,h2.at fun o e=>k i2 (by simp) o e⟩
 item:=by
  intro X hP hw hK hc i pins s σ H E I hf st hg;subst hP hw hK;obtain ⟨xs,ys,x,y,hq1,hq2,hx,hy⟩:=hg;obtain ⟨hz,hTI,⟨a,b',hTO⟩,h1,h2⟩:=st;obtain ⟨its,rv,p,_⟩:=I.list hq1;obtain ⟨jts,rw',p',_⟩:=I.tuple hq2;obtain ⟨u,hu,ru⟩:=rv.get hx;obtain ⟨v,hv,rv2⟩:=rw'.get hy;have hu':its.toArray[i]? = some u:=by simpa using hu
  have hv':jts.toArray[i]? = some v:=by simpa using hv
  refine uZ (I.ok.hd hc) D hz hTI hTO h1 h2 p.isList (show s.heap.IsTuple l2 jts.toArray from p') (fun u' v' h' eu ev hz' hTO' h1' h2' hT hk=>?_) fun en=>by
   rw [hu',hv'] at en;rcases en with en | en <;> cases en
  cases hu'.symm.trans eu;cases hv'.symm.trans ev;have fT:H s.heap.objs.size=none:=I.hok.fresh (ZH _);refine ⟨_,rfl,wpAny_letOwnedTupleGo_zip hz' fun h'' hz'' sb=>?_⟩
  have lt:∀ b∈[z,TI,TO,i1,i2],b < s.heap.objs.size:=fun b hb=>by
   obtain ⟨o1,e1,_⟩:=h1;obtain ⟨o2,e2,_⟩:=h2;simp only [Zn,Zz,or_false] at hb;rcases hb with rfl | rfl | rfl | rfl | rfl
   . exact Heap.lt_size hz
   . exact Heap.lt_size hTI
   . exact Heap.lt_size hTO
   . exact Heap.lt_size e1
   . exact Heap.lt_size e2
  have zne:s.heap.objs.size ≠ z:=Nat.ne_of_gt (lt z (by simp))
  have up:∀ b o,b ≠ z->h'.get? b=some o->h''.get? b=some o:=fun b o hb e=>(sb.2 b hb).trans e
  have kk:∀ b o,b ∉ [z,TI,TO,i1,i2]->s.heap.get? b=some o->h''.get? b=some o:=fun b o hb e=>by
   simp only [Zn,Zz,or_false,not_or] at hb;exact up b o hb.1 (hk b o (by simp only [Zn,Zz,or_false,not_or];exact ⟨hb.1,hb.2.2⟩) e)
  have hT2:h''.get? s.heap.objs.size=some { cls:=.type "tuple",data:=.seq #[u,v] }:=up _ _ zne hT;refine ⟨.ref s.heap.objs.size,upd H s.heap.objs.size (.tup [x,y]),xt (s:=s) (h':=h'') (t':=s.toks) I kk hf (ZH _) ⟨by show 2<=sizeLine;decide,[u,v],.cons ru (.cons rv2 .nil),⟨_,hT2,rfl,_,rfl⟩⟩,rfl,⟨_,x,y,rfl,fT,rfl,fun zs q=>by rw [I.list_inj q hq1];exact hx,fun zs q=>by rw [uB I q hq2];exact hy⟩,⟨hz'',?_,⟨u,v,up _ _ D.TOz hTO'⟩,h1'.at fun o e=>up _ o D.i1z e,h2'.at fun o e=>up _ o D.i2z e⟩,fun b hb=>?_⟩
  . exact up _ _ D.TIz (hk TI _ (by simp only [Zn,Zz,or_false,not_or];exact ⟨D.TIz,D.TITO,D.TIi1,D.TIi2⟩) hTI)
  . rw [al (ZA (lt b hb))];exact (hf b hb).1
 done:=by
  intro X hP hw hK hc i pins s σ H E I hf st hg;subst hP hw hK;obtain ⟨xs,ys,hq1,hq2,hl⟩:=hg;obtain ⟨hz,hTI,⟨a,b',hTO⟩,h1,h2⟩:=st;obtain ⟨its,rv,p,_⟩:=I.list hq1;obtain ⟨jts,rw',p',_⟩:=I.tuple hq2;have n1:=rv.length;have n2:=rw'.length;refine uZ (I.ok.hd hc) D hz hTI hTO h1 h2 p.isList (show s.heap.IsTuple l2 jts.toArray from p') (fun u' v' h' eu ev=>?_) fun _ h' hk=>⟨rfl,xu (t':=s.toks) I (fun b o hb e=>?_) hf⟩
  . have e1:i < its.length:=by simpa using (Array.getElem?_eq_some_iff.mp eu).1
    have e2:i < jts.length:=by simpa using (Array.getElem?_eq_some_iff.mp ev).1
    omega
  . simp only [Zn,Zz,or_false,not_or] at hb;exact hk b o (by simp only [Zn,Zz,or_false,not_or];exact ⟨hb.1,hb.2.2⟩) e
 self:=fun _ _ _ _ _ st h=>wpAny_pyIter_zip st.1 h
def E3 (K:Zr) (ta:TA):TI:=fun σ H R=>ta σ H fun vs H1=>∃ a b,vs=[.ref a,.ref b]/\(∃ xs,SqL K H1 a xs)/\(((∃ ys,SqL K H1 b ys)/\R (Itz K a b) H1) \/ ((∃ ys,SqT K H1 b ys)/\R (D9 K a b) H1))
theorem AJ {X:Cx} {es:List Expr} {kt:Nat} {pt:Pos} {a b:Expr} {ta:TA} {p pos:Pos} (hg:Gl X "zip") (hm:X.mg "zip" = none) (ha:PA X [a,b] ta) (hs:starEach [a,b] X.env=[(false,eval a X.env),(false,eval b X.env)]:=by rfl) (hs2:starEach [b] X.env=[(false,eval b X.env)]:=by rfl) :
 PI X (.Tuple es kt pt) (.Call (.Name "zip" p) [a,b] [] pos) (E3 X.K ta):=by
 intro pins s σ H R I h;refine Call_ (gX I hg hm PyProof.Rows.boot_zip (PyProof.Rows.callWith_type1 (thn (ha pos pins s σ H _ I h) fun us s1 ⟨vs,H1,I1,r1,q1⟩=>?_) (by rw [hs,hs2]) (by rw [hs2];rfl)))
 obtain ⟨l1,l2,e,⟨xs,hq1⟩,q⟩:=q1;subst e;cases r1 with
 | cons r rr =>
  cases rr with
  | cons r' rr =>
   cases rr;cases r;cases r';obtain ⟨its,rv,p,_⟩:=I1.list hq1;have a1:l1 < s1.heap.objs.size:=by obtain ⟨_,e,_⟩:=p.isList;exact Heap.lt_size e
   rcases q with ⟨⟨ys,hq2⟩,q⟩ | ⟨⟨ys,hq2⟩,q⟩
   . obtain ⟨jts,rw',p',_⟩:=I1.list hq2;have a2:l2 < s1.heap.objs.size:=by obtain ⟨_,e,_⟩:=p'.isList;exact Heap.lt_size e
     refine call_zip_2 p.isList p'.isList fun h' hz hTI hTO h1 h2 hsz hk=>wpAny_pyIter_zip hz ?_
     refine ⟨_,_,_,_,H1,rfl,I1.kept (t':=s1.toks) hk,xr (PyProof.Rows.zipApart_new a1 a2),⟨hz,hTI,⟨_,_,hTO⟩,h1,h2⟩,fun b hb=>?_,q⟩
     have hb':s1.heap.objs.size<=b:=by
      simp only [Zn,Zz,or_false] at hb;rcases hb with rfl | rfl | rfl | rfl | rfl <;> omega
     exact I1.fpOk hb' (I1.hok.fresh hb')
   . obtain ⟨jts,rw',p',_⟩:=I1.tuple hq2;have a2:l2 < s1.heap.objs.size:=by obtain ⟨_,e,_⟩:=p';exact Heap.lt_size e
     refine Bx p.isList p' fun n h' en hz hTI hTO h1 h2 hk=>wpAny_pyIter_zip hz ?_
     subst en;refine ⟨_,_,_,_,H1,rfl,I1.kept (t':=s1.toks) hk,v9 (PyProof.Rows.zipApart_new a1 a2),⟨hz,hTI,⟨_,_,hTO⟩,h1,h2⟩,fun b hb=>?_,q⟩
     have hb':s1.heap.objs.size<=b:=by
      simp only [Zn,Zz,or_false] at hb;rcases hb with rfl | rfl | rfl | rfl | rfl <;> omega
     exact I1.fpOk hb' (I1.hok.fresh hb')
theorem Bi {K:Zr} {H1:Hp} {a b:Addr} {vs ws:List V} {ds es:List D} (hq:SqL K H1 a vs) (r:Reps K H1 vs ds) (hq':SqT K H1 b ws) (r':Reps K H1 ws es):ItD K (D9 K a b) H1 (List.zipWith (fun d e=>D.tup [d,e]) ds es):=by
 intro i H2 s;have h1:=s.seq hq;have h2:=lM s hq';have l1:=r.length;have l2:=r'.length;rw [List.length_zipWith];refine ⟨fun hi=>⟨⟨vs,ws,vs[i]'(by omega),ws[i]'(by omega),h1,h2,by simp [show i < vs.length by omega],by simp [show i < ws.length by omega]⟩,fun x H' y=>?_⟩,fun hi=>⟨vs,ws,h1,h2,by omega⟩⟩
 obtain ⟨p,u,v,rfl,hp,rfl,yu,yv⟩:=y;obtain ⟨d,hd,rd⟩:=r.getV (yu vs h1);obtain ⟨e,he,re⟩:=r'.getV (yv ws h2);have sn:=aJ hp (.tup [u,v]);refine ⟨sn,.tup [d,e],?_,.tup (SqT.of aw) (.cons ((rd.mono s).mono sn) (.cons ((re.mono s).mono sn) .nil))⟩;rw [List.getElem?_zipWith,hd,he]
def qu (g:FA):FA:=fun δ=>(g δ).bind fun xs=>match xs with
 | [x,y]=>(asL x).bind fun ds=>(cM y).bind fun es=>some (List.zipWith (fun d e=>D.tup [d,e]) ds es)
 | _=>none
theorem oh {K:Zr} {H:Hp} {v:V} {d:D} {ds:List D} (r:Rep K H v d) (e:cM d=some ds):∃ a vs,v=.ref a/\(SqL K H a vs \/ SqT K H a vs)/\Reps K H vs ds:=by
 cases r with
 | @lst p vs es hp rp=>cases e;exact ⟨p,vs,rfl,.inl (SqL.of hp),rp⟩
 | @seq p vs es hp rp=>cases e;exact ⟨p,vs,rfl,.inl hp,rp⟩
 | @tup p vs es hp rp=>cases e;exact ⟨p,vs,rfl,.inr hp,rp⟩
 | _=>cases e
theorem d6 {X:Cx} {es:List Expr} {kt:Nat} {pt:Pos} {a b:Expr} {g:FA} {p pos:Pos} (hg:Gl X "zip") (hm:X.mg "zip" = none) (ha:PAD X [a,b] g) (hs:starEach [a,b] X.env=[(false,eval a X.env),(false,eval b X.env)]:=by rfl) (hs2:starEach [b] X.env=[(false,eval b X.env)]:=by rfl) :
 PID X (.Tuple es kt pt) (.Call (.Name "zip" p) [a,b] [] pos) (qu g):=rH (AJ hg hm ha hs hs2) fun σ H R ⟨δ,ds,R0,e,k⟩=>by
 unfold qu at e;obtain ⟨xs,exs,e⟩:=Za.mp e
 match xs,exs,e with
 | [x,y],exs,e =>
  obtain ⟨us,eu,e⟩:=Za.mp (show ((asL x).bind fun ds=>(cM y).bind fun es=>some (List.zipWith (fun d e=>D.tup [d,e]) ds es))=some ds from e)
  obtain ⟨ws,ew,e⟩:=Za.mp e;cases e;refine ⟨δ,[x,y],R0,exs,fun vs H1 s1 r1 l=>?_⟩
  cases r1 with
  | cons r rr =>
   cases rr with
   | cons r' rr =>
    cases rr;obtain ⟨p,vs,rfl,hq,rp⟩:=qq r eu;obtain ⟨p',vs',rfl,hq',rp'⟩:=oh r' ew;refine ⟨p,p',rfl,⟨_,hq⟩,?_⟩;rcases hq' with hq' | hq'
    . exact .inl ⟨⟨_,hq'⟩,k _ H1 s1 (DC hq rp hq' rp')⟩
    . exact .inr ⟨⟨_,hq'⟩,k _ H1 s1 (Bi hq rp hq' rp')⟩
end Dl
namespace Dl
open PySem PySem.Spec PyProof.Rows L2
theorem dk {X:Cx}:cW X (.type "tuple") (fun xs H Q=>∃ p ys,xs=[.ref p]/\SqL X.K H p ys/\∀ l,H l=none->Q (.ref l) (upd H l (.tup ys))):=by
 intro pins s σ H xs us Q I r h;obtain ⟨p,ys,rfl,hq,q⟩:=h;obtain ⟨u,rfl,rx⟩:=fq r;cases rx;obtain ⟨its,r',pl,hz⟩:=I.list hq;have hlen:=r'.length;refine call_tuple_list pl.isList (fun h' kp=>?_) (by simp only [Zx];omega)
 have na:s.heap.get? h'.objs.size=none:=by
  cases z:s.heap.get? h'.objs.size with
  | none=>rfl
  | some o=>exact absurd (Heap.lt_size (kp _ _ z)) (ZB _)
 have hn:H h'.objs.size=none:=(I.hok.kept kp).fresh (ZH _);have k2:∀ b u,s.heap.get? b=some u->(h'.push { cls:=.type "tuple",data:=.seq its.toArray }).get? b=some u:=fun b u e=>Heap.get?_push_of_some _ (kp b u e)
 have un:Un X.fs [] H (upd H h'.objs.size (.tup ys)) s.heap (h'.push { cls:=.type "tuple",data:=.seq its.toArray }) :=
  ⟨fun b u e _ _ _=>k2 b u e,fun b u e _ _ _=>⟨u.slots,k2 b u e⟩,fun b u e n _=>by rw [al (fun z=>by subst z;rw [na] at e;cases e)];exact n,fun b u e _=>⟨u,k2 b u e⟩,fun b xs e=>by rw [al (aA e hn)];exact e,fun b u xs e=>by rw [al (aA e hn)];exact e,fun b ps e=>⟨#[],by rw [al (aA e hn),e];simp⟩⟩
 have hok:HOk X.prog X.w (upd H h'.objs.size (.tup ys)) (h'.push { cls:=.type "tuple",data:=.seq its.toArray }):=fun b u e=>by
  by_cases hb:b=h'.objs.size
  . rw [hb] at e ⊢;rw [aw] at e;cases e;exact ⟨hz,its,r',IsTup.new _ _⟩
  . rw [al hb] at e;exact (I.hok b u e).stay (fun c v _ q=>k2 c v q) (fun c q=>by rw [al (aA q hn)];exact q) fun c xs q=>by rw [al (aA q hn)];exact q
 exact ⟨.ref h'.objs.size,_,I.un (t':=s.toks) un hok,rfl,q _ hn⟩
end Dl
namespace Dl
open PySem
section
variable {prog:Program} {w:World} {A:Around} {E:Value->Shared->Prop} {s:Shared}
def enO (n:Addr):Obj:={ cls:=.type "enumerate",data:=.fields #[.none,.bool false,.ref n,rawInt 0,.none,.none] }
theorem wu {M:Model} {A:Around} {E:Value->Shared->Prop} {s:Shared} {b:Bool} {Q:Bool->Shared->Prop} (h:Q false s) (k:Q true s):wpAny M A (pure b) Q E s:=wpAny_pure (by cases b;exact h;exact k)
theorem zH (v:Value) (oI:Obj):MeetsIn prog w (Builtin.«enumerate.__new__» ⟨[.type "enumerate",v],[]⟩) fun _ R s=>(∀ (A:Around) (E:Value->Shared->Prop) (Q:Value->Shared->Prop),Q (.ref s.heap.objs.size) { s with heap:=s.heap.push oI }->wpAny (model prog w) A (pyIter v) Q E s) /\
 R (.ok (.ret (.ref (s.heap.objs.size+1)))) { s with heap:=i8 s.heap [oI,enO s.heap.objs.size] }:=MeetsIn.of_wp fun A R s ⟨hit,h⟩=>by
 have sub:=sub_enumerate;obtain ⟨hp,g,d,tk,os⟩:=s
 wp_walk
 have it:∀ Q:Value->Shared->Prop,Q (.ref hp.objs.size) ⟨hp.push oI,g,d,tk,os⟩->wpAny (model prog w) A.in1 (pyIter v) Q (fun e s'=>R (Except.error e) s') ⟨hp,g,d,tk,os⟩:=fun Q=>hit A.in1 _ Q
 refine wpAny_stack_any fun st=>wu ?_ ?_ <;> wp_walk using it <;> rw [Heap.size_push] <;> exact ⟨_,rfl,h⟩
theorem oq {v:Value} {oI:Obj} {Q:Value->Shared->Prop} (fi:oI.isFreed=false) (hit:∀ (A:Around) (E:Value->Shared->Prop) (Q:Value->Shared->Prop),Q (.ref s.heap.objs.size) { s with heap:=s.heap.push oI }->wpAny (model prog w) A (pyIter v) Q E s)
 (h:∀ n h',n=s.heap.objs.size->IsEnum h' (n+1) n 0 .none->h'.get? n=some oI->(∀ c o,s.heap.get? c=some o->h'.get? c=some o)->Q (.ref (n+1)) { s with heap:=h' }):wpAny (model prog w) A (call (.type "enumerate") [v]) Q E s:=by
 have zz:=fY (o:=enO s.heap.objs.size) rfl [oI,enO s.heap.objs.size] 1 s.heap rfl;refine PySem.callType_newIn F.called_enumerate (by decide) (F.typeCall_enumerate_1 _) (F.newCall_enumerate_1 _) (fun o=>F.args_object_init_2 o _) F.entry_enumerate_new (zH v oI) ⟨hit,⟨_,zz,rfl⟩,?_⟩
 exact h _ _ rfl zz (fY fi [oI,enO s.heap.objs.size] 0 s.heap rfl) fun c o e=>fX _ _ e
theorem r6 (hh:A.handled=none) (it t:Addr) (n:t ≠ it) (items:Array Value):Draws prog w A it [it,t] items.size (fun i x=>items[i]? = some x) (fun i h=>h.IsTupleIter it t i/\h.IsTuple t items) where
 live:=fun i h st=>by obtain ⟨⟨o,e,_⟩,_⟩:=st;exact ⟨o,e⟩
 frame:=fun i h h' st k=>⟨st.1.at fun o e=>k _ (by simp) o e,st.2.at fun o e=>k _ (by simp) o e⟩
 item:=fun i s Q E hi st q=>kM hh st.1 st.2 (fun x h' hx b s1=>q x h' s.toks hx ⟨b,st.2.at fun o z=>(s1.2 t n).trans z⟩ s1) fun e=>by
  rw [Array.getElem?_eq_getElem hi] at e;cases e
 done:=fun s Q E st q=>kM hh st.1 st.2 (fun x h' hx=>by
  rw [Array.getElem?_eq_none (ZH _)] at hx;cases hx) fun _=>q
end
end Dl
namespace Dl
open PySem PySem.Spec PyProof.Rows L2
def tT (as:List D):Option D:=(z5 as).bind fun ds=>some (.tup ds)
theorem hU {K:Zr}:gG K (fun xs H Q=>∃ p ys,xs=[.ref p]/\SqL K H p ys/\∀ l,H l=none->Q (.ref l) (upd H l (.tup ys))) tT:=by
 intro xs H Q as d r e k;unfold tT at e;obtain ⟨ds,e1,e⟩:=Za.mp e;cases e;obtain ⟨p,ys,h1,h2,h3⟩:=mY r e1;exact ⟨p,ys,h1,h2,fun l hl=>k _ _ (aJ hl _) (.tup (SqT.of aw) (h3.mono (aJ hl _)))⟩
theorem dq:bootBuiltins "tuple" = some (.type "tuple"):=by decide +kernel
theorem kR {X:Cx} {e:Expr} {f:FM} {T:String} {x:Str} {p pos:Pos} {r:List V->Hp->VK->Prop} {G:List D->Option D} (hc:cW X (.type T) r) (hG:gG X.K r G) (hg:Gl X x) (hm:X.mg x=none) (hv:bootBuiltins x=some (.type T)) (h:PV X e f) (hn:x ≠ "__name__":=by decide) (hdb:(x == ("__debug__":Str))=false:=by decide)
 (he:starEach [e] X.env=(false,eval e X.env) :: starEach [] X.env:=by rfl) (hpl:(backTo pos (starEach [] X.env)).any (·.1)=false:=by rfl):PV X (.Call (.Name x p) [e] [] pos) (sJ G f):=imp (fH hc hg hm hv (bz h cY he) hn hdb he hpl) fun σ H Q ⟨F,δ,As,d,δ',R,q,k⟩=>by
 unfold sJ at q;obtain ⟨⟨d1,δ1⟩,e1,q⟩:=Za.mp q;obtain ⟨d2,e2,q⟩:=Za.mp q;dsimp only at e2 q;split at q
 . rename_i hi;cases q;refine ⟨F,δ,As,d1,_,R,e1,fun v F1 H1 A As1 ev R1 r1=>?_⟩
   refine hG [v] H1 Q [d1] d (.cons (r1.rep R1.fz) .nil) e2 fun w H' s r2=>?_
   exact k w F1 H' [] As1 ⟨ev.fs,ev.hs.trans s,ev.nf,ev.fa,fun _ m=>(nomatch m),Zq,fun _ _ _ z=>(nomatch z)⟩ (R1.grow s) (.imm hi r2)
 . cases q
def jZ:D->Option (Int×Int)
 | .tup [.int i,.int j]=>some (i,j)
 | _=>none
def gf:List D->Option (List (Int×Int))
 | []=>some []
 | d :: ds=>(jZ d).bind fun p=>(gf ds).bind fun ps=>some (p :: ps)
def da (a b:D):Option D:=(jZ a).bind fun p=>(asL b).bind fun ds=>(gf ds).bind fun ps=>some (.bl (!ps.contains p))
theorem l6 {d:D} {p:Int×Int} (h:jZ d=some p):d=.tup [.int p.1,.int p.2]:=by
 unfold jZ at h;split at h
 . cases h;rfl
 . cases h
theorem yA {K:Zr} {H:Hp} {v:V} {i j:Int} (r:Rep K H v (.tup [.int i,.int j])):∃ a,v=.ref a/\SqT K H a [.int i,.int j]:=by
 cases r with
 | tup h rr =>
  cases rr with
  | cons r1 rr =>
   cases rr with
   | cons r2 rr =>
    cases rr;cases r1;cases r2;exact ⟨_,rfl,h⟩
theorem rT (i j k l:Int):eqN 6 (.tup [.int i,.int j]) (.tup [.int k,.int l])=some (decide ((i,j)=(k,l))):=by
 show some ((i == k) && ((j == l) && true))=_
 congr 1
 by_cases h1:i=k
 . by_cases h2:j=l
   . subst h1 h2;simp
   . have:¬ ((i,j)=(k,l)):=fun z=>h2 (Prod.mk.inj z).2
     rw [Zv this];simp [h2]
 . have:¬ ((i,j)=(k,l)):=fun z=>h1 (Prod.mk.inj z).1
   rw [Zv this];simp [h1]
section
variable {X:Cx} {a b:Expr} {fa fb:FD} {pos:Pos}
def uK (K:Zr):R2:=fun x y H Q=>∃ p q ds ps ys,Rep K H x (.tup [.int p.1,.int p.2])/\y=.ref q/\SqL K H q ys/\Reps K H ys ds/\gf ds=some ps/\Q (.bl (!ps.contains p)) H
open Classical in
theorem sw {pins:List (Addr×Obj)} {σ:L2.St} {H:Hp} {s:Shared} (I:L2.Inv X pins σ H s) {p:Int×Int} {v:Value} {x:V} (rx:RelV x v) (ra:Rep X.K H x (.tup [.int p.1,.int p.2])) (A:Around) (hu:A.units+6 < cLine):∀ {ys:List V} {us:List Value} {ds:List D} {ps:List (Int×Int)},Vals ys us->Reps X.K H ys ds->gf ds=some ps ->
 (∀ u∈us,SeqAt.EqAt A s u v (decide (∃ q,u=.ref q/\SqT X.K H q [.int p.1,.int p.2])))/\(us.any fun u=>decide (∃ q,u=.ref q/\SqT X.K H q [.int p.1,.int p.2]))=ps.contains p
 | _,_,_,_,.nil,.nil,e=>by cases e;exact ⟨fun u m=>(nomatch m),rfl⟩
 | y :: ys,u :: us,d :: ds,ps,.cons ru t,.cons r rr,e=>by
  obtain ⟨q,eq,e⟩:=Za.mp (show ((jZ d).bind _)=some ps from e)
  obtain ⟨qs,eqs,e⟩:=Za.mp e;cases e;obtain ⟨h1,h2⟩:=sw I rx ra A hu t rr eqs;have ed:=l6 eq;subst ed;have key:(decide (∃ z,u=.ref z/\SqT X.K H z [.int p.1,.int p.2]))=decide (q=p):=by
   obtain ⟨z,rfl,hz⟩:=yA r;cases ru
   by_cases hq:q=p
   . subst hq;rw [Zw rfl];exact Zw ⟨z,rfl,hz⟩
   . rw [Zv hq];refine Zv ?_
     rintro ⟨z',e,hz'⟩
     cases e;have:=I.tuple_inj hz hz';cases p;cases q;cases this;exact hq rfl
  have eqv:SeqAt.EqAt A s u v (decide (q=p)):=(rS I 6 A hu ru rx r ra (rT q.1 q.2 p.1 p.2)).2.2;refine ⟨fun w m=>?_,?_⟩
  . rcases Zn.mp m with z | z
    . rw [z,key];exact eqv
    . exact h1 w z
  . rw [List.any_cons,h2,key,List.contains_cons]
    congr 1
    by_cases hq:q=p
    . subst hq;simp
    . rw [Zv hq];exact (beq_eq_false_iff_ne.mpr (Ne.symm hq)).symm
open Classical in
theorem wA (hu:X.A.units+64 < cLine):OpR X (compareOp .NotIn) (uK X.K):=by
 intro pins s σ H x y v u Q I rx ry h;obtain ⟨p,q,ds,ps,ys,ra,rfl,hq,rr,e,k⟩:=h;cases ry;obtain ⟨its,r,pl,hz⟩:=I.list hq;obtain ⟨h1,h2⟩:=sw I rx ra X.A.in1 (by show X.A.units+1+6 < cLine;omega) r rr e
 refine SeqAt.notIn_listAt _ pl.isList (fun w hw=>h1 w (by simpa using hw)) ⟨.bl _,H,I,rfl,?_⟩
 rw [show its.toArray.any (fun u=>decide (∃ q,u=Value.ref q/\SqT X.K H q [V.int p.1,V.int p.2]))=its.any (fun u=>decide (∃ q,u=Value.ref q/\SqT X.K H q [V.int p.1,V.int p.2])) by simp,h2]
 exact k
theorem wq {K:Zr}:R2D K (uK K) da:=by
 intro x y H Q a b d ra rb e k;unfold da at e;obtain ⟨p,ep,e⟩:=Za.mp e;obtain ⟨ds,eds,e⟩:=Za.mp e;obtain ⟨ps,eps,e⟩:=Za.mp e;cases e;have:=l6 ep;subst this;obtain ⟨q,vs,rfl,hq,rr⟩:=qq rb eds;exact ⟨p,q,ds,ps,vs,ra,rfl,hq,rr,eps,k _ H (Same.refl H) (.bl _)⟩
theorem lU (hu:X.A.units+64 < cLine) (ha:PD X a fa) (hb:PD X b fb) (hm:behindInMarks .NotIn b=false:=by with_unfolding_all rfl):PTD X (.Compare a [.NotIn] [b] pos) (fT (f2 da fa fb)):=dQ (wA hu) wq ha hb hm
end
end Dl
namespace Dl
open PySem PySem.Spec PyProof.Rows L2
end Dl
namespace Dl
open PySem PySem.Spec PyProof.Rows L2
section
variable {X:Cx} {pins:List (Addr×Obj)} {σ:L2.St} {H:Hp} {s:Shared}
end
end Dl
namespace Dl
open PySem PySem.Spec PyProof.Rows L2
section
variable {X:Cx} {Z:L2.St->Prop} {e:Expr} {fm:FM} {pos:Pos}
theorem xV (he:PV X e fm):PZD X Z (.Return (some e) pos) (dZ fm):=de (po he) fun E σ H ⟨F,δ,r,⟨As,R⟩,hz,q,k⟩=>by
 unfold dZ at q;obtain ⟨⟨d,δ'⟩,ed,q⟩:=Za.mp q;cases q;exact ⟨F,δ,As,d,δ',R,ed,fun v F' H' A As' ev R' r'=>k v F' H' A ev.fs R'.fz r' ev.nd⟩
end
end Dl
namespace Dl
open PySem PySem.Spec PyProof.Rows L2
def mS (ks:List Nat) (δ:DS):DS:=ks.foldl (fun δ k=>δ.set k none) δ
theorem ow:∀ (ks:List Nat) (δ:DS),(mS ks δ).length=δ.length
 | [],_=>rfl
 | k :: ks,δ=>by
  show (mS ks (δ.set k none)).length=_;rw [ow ks,List.length_set]
theorem ox:∀ (ks:List Nat) (δ:DS) (j:Nat) (d:D),(mS ks δ)[j]? = some (some d)->j ∉ ks/\δ[j]? = some (some d)
 | [],_,_,_,h=>⟨Zz,h⟩
 | k :: ks,δ,j,d,h=>by
  obtain ⟨h1,h2⟩:=ox ks (δ.set k none) j d h;rw [List.getElem?_set] at h2
  by_cases e:k=j
  . rw [if_pos e] at h2;split at h2 <;> cases h2
  . rw [if_neg e] at h2;exact ⟨fun m=>(Zn.mp m).elim (fun z=>e z.symm) h1,h2⟩
def xL (ks:List Nat) (s:SD):SD:=fun δ=>(s (δ.map (Option.map sh))).bind fun (r:Res)=>match r with
 | .nx _=>some (.nx (mS ks δ))
 | .rt d=>some (.rt d)
 | _=>none
theorem CG {X:Cx} {st:Stmt} {s:SD} {C:(L2.St->Prop)->Prop} (h:∀ Z,C Z->PZD X Z st s):PS X st (fun E σ H=>∃ Z,C Z/\upZ X Z s E σ H):=fun pins st σ H E I ⟨Z,zk,u⟩=>h Z zk pins st σ H E I u
theorem RepA.back {K:Zr} {F H H':Hp} {σ σ':L2.St} {δ:DS} {As:Nat->List Addr} (ks:List Nat) (R:RepA K F H σ δ As) (s:Same H H') (l:σ'.length=σ.length) (e:∀ j,j ∉ ks->σ'[j]? = σ[j]?):cU K F H' σ' (mS ks δ):=by
 have G:=R.grow s
 classical
 refine ⟨fun j=>if ∃ d,(mS ks δ)[j]? = some (some d) then As j else [],G.fz,by rw [l,ow];exact R.len,fun j d q=>?_,fun j q=>if_neg fun ⟨d,z⟩=>q d z,fun j=>?_,fun i j a n m m'=>?_⟩
 . obtain ⟨h1,h2⟩:=ox ks δ j d q;obtain ⟨v,h3,h4⟩:=G.val j d h2;rw [if_pos ⟨d,q⟩];exact ⟨v,(e j h1).trans h3,h4⟩
 . split
   . exact R.nd j
   . exact Zq
 . split at m
   . split at m'
     . exact R.dj i j a n m m'
     . cases m'
   . cases m
end Dl
namespace Dl
open PySem PySem.Spec PyProof.Rows L2
def zF (f:FM):FD:=fun δ=>(f (shO δ)).bind fun p=>some p.1
def eC:List D->Option (List Nat)
 | []=>some []
 | d :: ds=>match d with
  | .int i=>if 0<=i/\i<=4 then (eC ds).bind fun ns=>some (i.toNat :: ns) else none
  | _=>none
def wj (ns:List Nat):List D:=((List.range 5).filter fun k=>decide (k∈ns)).map fun (k:Nat)=>D.int (k:Int)
def oM (f:FM):FM:=fun δ=>(f δ).bind fun p=>match p.1 with
 | .lst ds=>(eC ds).bind fun ns=>some (.lst (wj ns),p.2)
 | _=>none
def enF:Nat->List D->List D
 | _,[]=>[]
 | i,d :: ds=>.tup [.int (i:Int),d] :: enF (i+1) ds
def enD (g:FA):FA:=fun δ=>(g δ).bind fun xs=>match xs with
 | [x]=>(cM x).bind fun ds=>some (enF 0 ds)
 | _=>none
def mG:List D->Option (List Int)
 | []=>some []
 | d :: ds=>match d with
  | .int i=>(mG ds).bind fun ns=>some (i :: ns)
  | _=>none
end Dl
namespace Dl
open PySem PySem.Spec PyProof.Rows L2
theorem C8 {X:Cx} {e:Expr} {f:FM} (h:PV X e f):PD X e (zF f):=imp h fun σ H Q ⟨δ,d,R,q,k⟩=>by
 unfold zF at q;obtain ⟨⟨d',δ'⟩,e1,q⟩:=Za.mp q;cases q;exact ⟨H,shO δ,fun _=>[],d',δ',R.toA,e1,fun v F' H' A As' ev R' r=>k v H' ev.hs (r.rep R'.fz)⟩
section
variable {X:Cx} {a b:Expr} {fa fb:FD} {pos:Pos}
end
theorem om {K:Zr} {H:Hp}:∀ {vs:List V} {ds:List D} {ns:List Int},Reps K H vs ds->mG ds=some ns->vs=ns.map V.int
 | _,[],ns,r,e=>by
  cases r;cases e;rfl
 | _,d :: ds,ns,r,e=>by
  cases r with
  | cons a t =>
   unfold mG at e;split at e
   . rename_i i;obtain ⟨ms,em,e⟩:=Za.mp e;cases e;rw [om t em];cases a;rfl
   . cases e
end Dl
namespace Dl
open PySem PySem.Spec PyProof.Rows L2
def BF (sq:Hp->List V->Prop):It :=
 ⟨fun i H=>∃ xs x,sq H xs/\xs[i]? = some x,fun i H v H'=>∃ p x,v=.ref p/\H p=none/\H'=upd H p (.tup [.int (i:Int),x])/\∀ xs,sq H xs->xs[i]? = some x,fun i H=>∃ xs,sq H xs/\xs.length<=i⟩
structure EnS (P:Program) (w:World) (K:Zr) (sq:Hp->List V->Prop) (it t:Addr) (itr:Nat->Heap->Prop):Prop where
 inj:∀ (X:Cx) (pins:List (Addr×Obj)) (σ:L2.St) (H:Hp) (s:Shared) (xs ys:List V),X.K=K->L2.Inv X pins σ H s->sq H xs->sq H ys->xs=ys
 obj:∀ i h,itr i h->∃ o,h.get? it=some o/\∀ v,o.data ≠ .cell v
 keep:∀ i h h',itr i h->(∀ o,h.get? it=some o->h'.get? it=some o)->itr i h'
 src:∀ (X:Cx) (pins:List (Addr×Obj)) (σ:L2.St) (H:Hp) (s:Shared) (xs:List V),X.prog=P->X.w=w->X.K=K->L2.Inv X pins σ H s->sq H xs->∃ (its:List Value) (St:Nat->Heap->Prop),Vals xs its/\(∀ i,itr i s.heap->St i s.heap)/\(∀ i h,St i h->itr i h)/\∀ A:Around,A.handled=none->Draws P w A it [it,t] its.length (fun i x=>its[i]? = some x) St/\∀ i,its.length<=i->∀ (s:Shared) (Q:Value->Shared->Prop) (E:Value->Shared->Prop),St i s.heap->(∀ h' e,Heap.ExtBut it s.heap h'->(∃ o,h'.get? e=some o/\o.cls=.type "StopIteration")->E (.ref e) { s with heap:=h' })->wpAny (model P w) A (Builtin.SmallTypes.nextOf (.ref it)) Q E s
theorem uu {P:Program} {w:World} {K:Zr} {es:List Expr} {kt:Nat} {pt:Pos} {sq:Hp->List V->Prop} {e it t:Addr} {itr:Nat->Heap->Prop} (S:EnS P w K sq it t itr) (n1:e ≠ it) (n2:e ≠ t) :
 kK P w K (.Tuple es kt pt) (BF sq) [e,it] e (fun i h=>(∃ old,IsEnum h e it (i:Int) old)/\itr i h) where
 mem:=by simp
 obj:=fun i h st b hb=>by
  obtain ⟨⟨old,he⟩,hi⟩:=st;simp only [Zn,Zz,or_false] at hb;rcases hb with rfl | rfl
  . exact ⟨_,he,fun v q=>by cases q⟩
  . exact S.obj i h hi
 keep:=fun i h h' st k=>by
  obtain ⟨⟨old,he⟩,hi⟩:=st;exact ⟨⟨old,k e (by simp) _ he⟩,S.keep i h h' hi fun o q=>k it (by simp) o q⟩
 item:=by
  intro X hP hw hK hc i pins s σ H E I hf st hg;obtain ⟨xs,x,hq,hx⟩:=hg;obtain ⟨⟨old,he⟩,hi⟩:=st;obtain ⟨its,St,rv,up,dn,dr⟩:=S.src X pins σ H s xs hP hw hK I hq;obtain ⟨u,hu,ru⟩:=rv.get hx;have il:i < its.length:=(ZG.mp hu).1;have hd:X.A.in1.handled=none:=I.ok.hd hc;subst hP hw;refine wpAny_pyNext_enum_itemD (dr X.A.in1 hd).1 he (up i hi) il n1 (by simp [n1,n2]) fun y h' tk py ho hs' hT hsz hk=>?_
  cases hu.symm.trans py;have lt:∀ b∈[e,it],b < s.heap.objs.size:=fun b hb=>by
   simp only [Zn,Zz,or_false] at hb;rcases hb with rfl | rfl
   . exact Heap.lt_size he
   . obtain ⟨o,q,_⟩:=S.obj i _ hi;exact Heap.lt_size q
  have fT:H s.heap.objs.size=none:=I.hok.fresh (ZH _);refine ⟨_,rfl,wpAny_letOwnedTupleGo_enum ho fun h'' he'' sb=>?_⟩
  have zne:s.heap.objs.size ≠ e:=Nat.ne_of_gt (lt e (by simp))
  have kk:∀ b o,b ∉ [e,it]->s.heap.get? b=some o->h''.get? b=some o:=fun b o hb q=>by
   simp only [Zn,Zz,or_false,not_or] at hb;exact (sb.2 b hb.1).trans (hk b o hb.1 hb.2 q)
  have hT2:h''.get? s.heap.objs.size=some { cls:=.type "tuple",data:=.seq #[.int (i:Int) tk,u] }:=(sb.2 _ zne).trans hT;refine ⟨.ref s.heap.objs.size,upd H s.heap.objs.size (.tup [.int (i:Int),x]),xt (s:=s) (h':=h'') (t':=tk+1) I kk hf (ZH _) ⟨by show 2<=sizeLine;decide,[.int (i:Int) tk,u],.cons ⟨tk,rfl⟩ (.cons ru .nil),⟨_,hT2,rfl,_,rfl⟩⟩,rfl,⟨_,x,rfl,fT,rfl,fun zs q=>by rw [S.inj X pins σ H s zs xs hK I q hq];exact hx⟩,⟨⟨u,he''⟩,S.keep (i+1) h' h'' (dn _ _ hs') fun o q=>(sb.2 it (Ne.symm n1)).trans q⟩,fun b hb=>?_⟩
  rw [al (ZA (lt b hb))];exact (hf b hb).1
 done:=by
  intro X hP hw hK hc i pins s σ H E I hf st hg;obtain ⟨xs,hq,hl⟩:=hg;obtain ⟨⟨old,he⟩,hi⟩:=st;obtain ⟨its,St,rv,up,dn,dr⟩:=S.src X pins σ H s xs hP hw hK I hq;have l1:=rv.length;have hd:X.A.in1.handled=none:=I.ok.hd hc;subst hP hw;have D:Draws X.prog X.w X.A.in1 it [it,t] i (fun _ _=>False) (fun j h=>j=i/\St i h):=⟨fun j h q=>(dr X.A.in1 hd).1.live i h q.2,fun j h h' q k=>⟨q.1,(dr X.A.in1 hd).1.frame i h h' q.2 k⟩,fun j s Q E l q=>absurd q.1 (ZA l),fun s Q E q k=>(dr X.A.in1 hd).2 i (by omega) s Q E q.2 k⟩
  refine wpAny_pyNext_enum_endD D he ⟨rfl,up i hi⟩ fun h' x=>⟨rfl,xu (t':=s.toks) I (fun b o hb q=>?_) hf⟩
  exact x b o (fun z=>hb (by rw [z];simp)) q
 self:=fun A i s Q E st h=>by
  obtain ⟨⟨old,he⟩,_⟩:=st;exact wpAny_pyIter_enum he h
theorem zJ {P:Program} {w:World} {K:Zr} {it t:Addr} (n:t ≠ it):EnS P w K (fun H xs=>SqT K H t xs) it t (fun i h=>h.IsTupleIter it t i) where
 inj:=fun X pins σ H s xs ys hK I h h'=>by subst hK;exact uB I h h'
 obj:=fun i h q=>by
  obtain ⟨o,e,_,d⟩:=q;exact ⟨o,e,fun v z=>by rw [d] at z;cases z⟩
 keep:=fun i h h' q k=>q.at fun o e=>k o e
 src:=fun X pins σ H s xs hP hw hK I h=>by
  subst hK;obtain ⟨its,r,p,_⟩:=I.tuple h;have p':s.heap.IsTuple t its.toArray:=p;refine ⟨its,fun i h=>h.IsTupleIter it t i/\h.IsTuple t its.toArray,r,fun i q=>⟨q,p'⟩,fun i h q=>q.1,fun A hh=>⟨?_,fun i l s Q E q k=>kM hh q.1 q.2 (fun x h' hx=>?_) fun _=>k⟩⟩
  . have:=r6 (prog:=P) (w:=w) hh it t n its.toArray;simpa using this
  . rw [Array.getElem?_eq_none (by simpa using l)] at hx
    cases hx
theorem Bu {P:Program} {w:World} {K:Zr} {it t:Addr} (n:t ≠ it):EnS P w K (fun H xs=>SqL K H t xs) it t (fun i h=>h.IsListIter it t i) where
 inj:=fun X pins σ H s xs ys hK I h h'=>by subst hK;exact I.list_inj h h'
 obj:=fun i h q=>by
  obtain ⟨o,e,_,d⟩:=q;exact ⟨o,e,fun v z=>by rw [d] at z;cases z⟩
 keep:=fun i h h' q k=>q.at fun o e=>k o e
 src:=fun X pins σ H s xs hP hw hK I h=>by
  subst hK;obtain ⟨its,r,p,_⟩:=I.list h;refine ⟨its,fun i h=>h.IsListIter it t i/\h.IsList t its.toArray,r,fun i q=>⟨q,p.isList⟩,fun i h q=>q.1,fun A hh=>⟨?_,fun i l s Q E q k=>wpAny_nextOf_list_end hh q.1 q.2 (Array.getElem?_eq_none (by simpa using l)) k⟩⟩
  have:=Draws.list (prog:=P) (w:=w) hh it t n its.toArray;simpa using this
def iEn (K:Zr) (ta:TA):TI:=fun σ H R=>ta σ H fun vs H1=>∃ a,vs=[.ref a]/\(((∃ ys,SqL K H1 a ys)/\R (BF fun H xs=>SqL K H a xs) H1) \/ ((∃ ys,SqT K H1 a ys)/\R (BF fun H xs=>SqT K H a xs) H1))
theorem EN {X:Cx} {es:List Expr} {kt:Nat} {pt:Pos} {a:Expr} {ta:TA} {p pos:Pos} (hg:Gl X "enumerate") (hm:X.mg "enumerate" = none) (ha:PA X [a] ta) (hs:starEach [a] X.env=(false,eval a X.env) :: starEach [] X.env:=by rfl) (hpl:(backTo pos (starEach [] X.env)).any (·.1)=false:=by rfl) :
 PI X (.Tuple es kt pt) (.Call (.Name "enumerate" p) [a] [] pos) (iEn X.K ta):=by
 intro pins s σ H R I h;refine Call_ (gX I hg hm PyProof.Rows.boot_enumerate (PyProof.Rows.callWith_type1 (thn (ha pos pins s σ H _ I h) fun us s1 ⟨vs,H1,I1,r1,q1⟩=>?_) hs hpl))
 obtain ⟨l,e,q⟩:=q1;subst e;cases r1 with
 | cons r rr =>
  cases rr;cases r;have fp:∀ (n:Addr) (H':Hp),n=s1.heap.objs.size->(∀ b∈[n+1,n],fg X pins H1 b):=fun n H' en b hb=>by
   have hb':s1.heap.objs.size<=b:=by
    subst en;simp only [Zn,Zz,or_false] at hb;rcases hb with rfl | rfl
    . exact Nat.le_succ _
    . exact ZH _
   exact I1.fpOk hb' (I1.hok.fresh hb')
  rcases q with ⟨⟨ys,hq⟩,q⟩ | ⟨⟨ys,hq⟩,q⟩
  . obtain ⟨its,rv,p,_⟩:=I1.list hq;have a1:l < s1.heap.objs.size:=by obtain ⟨_,e,_⟩:=p.isList;exact Heap.lt_size e
    refine oq (oI:={ cls:=.type "list_iterator",data:=.fields #[.ref l,.int 0 0] }) rfl (fun A E Q k=>wpAny_pyIter_list p.isList k) fun n h' en he hi hk=>wpAny_pyIter_enum he ?_
    exact ⟨_,_,_,_,H1,rfl,I1.kept (t':=s1.toks) hk,uu (Bu (t:=l) (by rw [en];exact ZA a1)) (Nat.succ_ne_self n) (by rw [en];exact Nat.ne_of_gt (Nat.lt_succ_of_lt a1)),⟨⟨_,he⟩,⟨_,hi,rfl,rfl⟩⟩,fp n H1 en,q⟩
  . obtain ⟨its,rv,p,_⟩:=I1.tuple hq;have p':s1.heap.IsTuple l its.toArray:=p;have a1:l < s1.heap.objs.size:=by obtain ⟨_,e,_⟩:=p';exact Heap.lt_size e
    refine oq (oI:={ cls:=.type "tuple_iterator",data:=.fields #[.ref l,.int 0 0] }) rfl (fun A E Q k=>wpAny_pyIter_tuple p' k) fun n h' en he hi hk=>wpAny_pyIter_enum he ?_
    exact ⟨_,_,_,_,H1,rfl,I1.kept (t':=s1.toks) hk,uu (zJ (t:=l) (by rw [en];exact ZA a1)) (Nat.succ_ne_self n) (by rw [en];exact Nat.ne_of_gt (Nat.lt_succ_of_lt a1)),⟨⟨_,he⟩,⟨_,hi,rfl,rfl⟩⟩,fp n H1 en,q⟩
theorem vM:∀ (ds:List D) (k i:Nat),(enF k ds)[i]? = (ds[i]?).map fun d=>D.tup [.int ((k+i:Nat):Int),d]
 | [],_,_=>rfl
 | d :: ds,k,0=>rfl
 | d :: ds,k,i+1=>by
  show (enF (k+1) ds)[i]? = _;rw [vM ds (k+1) i,Ze,show k+1+i=k+(i+1) by omega]
theorem vL:∀ (ds:List D) (k:Nat),(enF k ds).length=ds.length
 | [],_=>rfl
 | d :: ds,k=>by show (enF (k+1) ds).length+1=_;rw [vL ds (k+1)];rfl
theorem B8 {K:Zr} {H1:Hp} {sq:Hp->List V->Prop} {vs:List V} {ds:List D} (hs:∀ H2,Same H1 H2->sq H2 vs) (r:Reps K H1 vs ds):ItD K (BF sq) H1 (enF 0 ds):=by
 intro i H2 s;have h1:=hs H2 s;have l1:=r.length;rw [vL];refine ⟨fun hi=>⟨⟨vs,vs[i]'(by omega),h1,by simp [show i < vs.length by omega]⟩,fun x H' y=>?_⟩,fun hi=>⟨vs,h1,by omega⟩⟩
 obtain ⟨p,u,rfl,hp,rfl,yu⟩:=y;obtain ⟨d,hd,rd⟩:=r.getV (yu vs h1);have sn:=aJ hp (.tup [.int (i:Int),u]);refine ⟨sn,.tup [.int (i:Int),d],?_,.tup (SqT.of aw) (.cons (.int _) (.cons ((rd.mono s).mono sn) .nil))⟩;rw [vM,hd,Nat.zero_add];rfl
theorem CZ {X:Cx} {es:List Expr} {kt:Nat} {pt:Pos} {a:Expr} {g:FA} {p pos:Pos} (hg:Gl X "enumerate") (hm:X.mg "enumerate" = none) (ha:PAD X [a] g) (hs:starEach [a] X.env=(false,eval a X.env) :: starEach [] X.env:=by rfl) (hpl:(backTo pos (starEach [] X.env)).any (·.1)=false:=by rfl) :
 PID X (.Tuple es kt pt) (.Call (.Name "enumerate" p) [a] [] pos) (enD g):=rH (EN hg hm ha hs hpl) fun σ H R ⟨δ,ds,R0,e,k⟩=>by
 unfold enD at e;obtain ⟨xs,exs,e⟩:=Za.mp e
 match xs,exs,e with
 | [x],exs,e =>
  obtain ⟨us,eu,e⟩:=Za.mp (show ((cM x).bind fun ds=>some (enF 0 ds))=some ds from e)
  cases e;refine ⟨δ,[x],R0,exs,fun vs H1 s1 r1 l=>?_⟩
  cases r1 with
  | cons r rr =>
   cases rr;obtain ⟨p,vs,rfl,hq,rp⟩:=oh r eu;refine ⟨p,rfl,?_⟩;rcases hq with hq | hq
   . exact .inl ⟨⟨_,hq⟩,k _ H1 s1 (B8 (fun H2 s=>s.seq hq) rp)⟩
   . exact .inr ⟨⟨_,hq⟩,k _ H1 s1 (B8 (fun H2 s=>lM s hq) rp)⟩
theorem AI {X:Cx} {tg l:Expr} {f:FD} (hl:PD X l f):PID X tg l (fun δ=>(f δ).bind cM):=fun pins s σ H R I ⟨δ,ds,R0,e,k⟩=>by
 obtain ⟨d,ed,e⟩:=Za.mp e;cases d with
 | tup xs=>exact kW hl pins s σ H R I ⟨δ,ds,R0,by dsimp only;rw [ed];exact e,k⟩
 | lst xs=>exact gS hl pins s σ H R I ⟨δ,ds,R0,by dsimp only;rw [ed];exact e,k⟩
 | seq xs=>exact gS hl pins s σ H R I ⟨δ,ds,R0,by dsimp only;rw [ed];exact e,k⟩
 | _=>cases e
end Dl
namespace Dl
open PySem PySem.Spec PyProof.Rows L2
theorem pO {X:Cx} {pins:List (Addr×Obj)} {σ:L2.St} {H:Hp} {s:Shared} {h':Heap} {t':Nat} {a:Addr} {u:HO} (I:L2.Inv X pins σ H s) (k:∀ b o,s.heap.get? b=some o->h'.get? b=some o) (na:s.heap.get? a=none) (hn:H a=none) (new:ObjOk X.prog X.w (upd H a u) h' a u):L2.Inv X pins σ (upd H a u) { s with heap:=h',toks:=t' }:=by
 have un:Un X.fs [] H (upd H a u) s.heap h':=⟨fun b u e _ _ _=>k b u e,fun b u e _ _ _=>⟨u.slots,k b u e⟩,fun b u e n _=>by rw [al (fun z=>by subst z;rw [na] at e;cases e)];exact n,fun b u e _=>⟨u,k b u e⟩,fun b xs e=>by rw [al (aA e hn)];exact e,fun b u xs e=>by rw [al (aA e hn)];exact e,fun b ps e=>⟨#[],by rw [al (aA e hn),e];simp⟩⟩
 refine I.un (t':=t') un fun b v e=>?_
 by_cases hb:b=a
 . rw [hb] at e ⊢;rw [aw] at e;cases e;exact new
 . rw [al hb] at e;exact (I.hok b v e).stay (fun c v _ q=>k c v q) (fun c q=>by rw [al (aA q hn)];exact q) fun c xs q=>by rw [al (aA q hn)];exact q
def Ao (w:World) (l:Addr) (ns:List Nat):HO:=.ext fun h=>Sw.SetS h l (Sw.ledOf w) (Sw.putAll ns)
def vN (n:Nat):V:=.int (n:Int)
theorem vh:∀ (ns:List Nat) (pre its:List Value),Vals (ns.map vN) its->(∀ n∈ns,n∈[0,1,2,3,4])->Sw.Left (pre++its).toArray pre.length ns
 | [],pre,its,r,_=>by
  cases r;show (pre++[]).toArray[pre.length]? = none;simp
 | n :: ns,pre,its,r,h=>by
  cases r with
  | cons a t =>
   obtain ⟨k,rfl⟩:=a;refine ⟨⟨k,by simp⟩,h n Zi,?_⟩
   rename_i us;have:=vh ns (pre++[.int (n:Int) k]) us t fun x m=>h x (Zj _ m)
   rw [List.append_assoc,Zf] at this;exact this
theorem xc {X:Cx} (hc:X.calm=true):cW X (.type "set") (fun xs H Q=>∃ p ns,xs=[.ref p]/\SqL X.K H p (ns.map vN)/\(∀ n∈ns,n∈[0,1,2,3,4])/\∀ l,H l=none->Q (.ref l) (upd H l (Ao X.w l ns))):=by
 intro pins s σ H xs us Q I r h;obtain ⟨p,ns,rfl,hq,h5,q⟩:=h;obtain ⟨u,rfl,rx⟩:=fq r;cases rx;obtain ⟨its,r',pl,hz⟩:=I.list hq;refine Sw.set_small (ms:=ns) (I.ok.hd hc) pl.isList (vh ns [] its r' h5) fun h' tk kp hS=>?_
 have hn:H s.heap.objs.size=none:=I.hok.fresh (ZH _);have na:s.heap.get? s.heap.objs.size=none:=by
  cases z:s.heap.get? s.heap.objs.size with
  | none=>rfl
  | some o=>exact absurd (Heap.lt_size z) (ZB _)
 refine ⟨.ref s.heap.objs.size,_,pO I kp na hn (u:=Ao X.w s.heap.objs.size ns) ⟨hS,?_,fun h1 h2 x k=>x.same k⟩,rfl,q _ hn⟩
 obtain ⟨o,_,_,g,_⟩:=hS;exact ⟨o,g⟩
theorem nE:∀ {us:List Value} {ks:List Nat},IntsAre us (ks.map fun (k:Nat)=>(k:Int))->Vals (ks.map vN) us
 | _,[],h=>by cases h;exact .nil
 | _,k :: ks,h=>by
  cases h with
  | cons _ t h=>exact .cons ⟨t,rfl⟩ (nE h)
theorem ua {X:Cx} (hc:X.calm=true):cW X (.builtin "sorted") (fun xs H Q=>∃ p ns,xs=[.ref p]/\H p=some (Ao X.w p ns)/\(∀ n∈ns,n∈[0,1,2,3,4])/\∀ l,H l=none->Q (.ref l) (upd H l (.lst ((Sw.srtN ns).map vN)))):=by
 intro pins s σ H xs us Q I r h;obtain ⟨p,ns,rfl,hq,h5,q⟩:=h;obtain ⟨u,rfl,rx⟩:=fq r;cases rx;obtain ⟨hS,_,_⟩:=I.hok p _ hq;rw [Sw.putAll_srt h5] at hS;refine Sw.sorted_small (I.ok.hd hc) hS fun h1 h' tk out k1 k2 li hI=>?_
 have na:s.heap.get? h1.objs.size=none:=by
  cases z:s.heap.get? h1.objs.size with
  | none=>rfl
  | some o=>exact absurd (Heap.lt_size (k1 _ _ z)) (ZB _)
 have hn:H h1.objs.size=none:=(I.hok.kept k1).fresh (ZH _);obtain ⟨e,he⟩:=li;have l5:(Sw.srtN ns).length<=5:=List.length_filter_le _ _;exact ⟨.ref h1.objs.size,_,pO I (fun b o z=>k2 b o (k1 b o z)) na hn (u:=.lst ((Sw.srtN ns).map vN)) ⟨by rw [Zg];exact Nat.le_trans l5 (by decide),out.toList,e,nE hI,by simpa using he⟩,rfl,q _ hn⟩
theorem lE {K:Zr} {F H:Hp}:∀ {vs:List V} {ds:List D} {A:List Addr} {ns:List Nat},RepOs K F H vs ds A->eC ds=some ns->vs=ns.map vN/\∀ n∈ns,n∈[0,1,2,3,4]
 | _,[],_,ns,r,e=>by
  cases r;cases e;exact ⟨rfl,fun _ m=>nomatch m⟩
 | _,d :: ds,_,ns,r,e=>by
  cases r with
  | cons a t _ =>
   unfold eC at e;split at e
   . rename_i i;split at e
     . rename_i hi;obtain ⟨ms,em,e⟩:=Za.mp e;cases e;obtain ⟨h1,h2⟩:=lE t em;subst h1;have ev:∀ {v:V} {B:List Addr},RepO K F H v (.int i) B->v=.int i:=fun r=>by
        cases r with
        | imm _ r=>cases r;rfl
       rw [ev a];have:((i.toNat:Nat):Int)=i:=by omega
       refine ⟨by show _=vN i.toNat :: ms.map vN;unfold vN;rw [this],fun n m=>?_⟩
       rcases Zn.mp m with z | z
       . have c:i=0 \/ i=1 \/ i=2 \/ i=3 \/ i=4:=by omega
         rw [z];rcases c with rfl | rfl | rfl | rfl | rfl <;> decide
       . exact h2 n z
     . cases e
   . cases e
theorem nJ {K:Zr} {F H:Hp}:∀ (ks:List Nat),RepOs K F H (ks.map vN) (ks.map fun (k:Nat)=>D.int (k:Int)) []
 | []=>.nil
 | k :: ks=>.cons (.imm rfl (.int _)) (nJ ks) rfl
theorem qp:bootBuiltins "sorted" = some (.builtin "sorted"):=by decide +kernel
theorem oB:bootBuiltins "set" = some (.type "set"):=by decide +kernel
theorem xZ {X:Cx} {e:Expr} {f:FM} {p p' pos pos':Pos} (hg:Gl X "sorted") (hm:X.mg "sorted" = none) (hg':Gl X "set") (hm':X.mg "set" = none) (h:PV X e f) (hc:X.calm=true:=by rfl)
 (he:starEach [e] X.env=(false,eval e X.env) :: starEach [] X.env:=by rfl) (hpl:(backTo pos' (starEach [] X.env)).any (·.1)=false:=by rfl)
 (he':starEach [.Call (.Name "set" p') [e] [] pos'] X.env=(false,eval (.Call (.Name "set" p') [e] [] pos') X.env) :: starEach [] X.env:=by rfl) (hpl':(backTo pos (starEach [] X.env)).any (·.1)=false:=by rfl) :
 PV X (.Call (.Name "sorted" p) [.Call (.Name "set" p') [e] [] pos'] [] pos) (oM f) :=
 imp (jK (ua hc) hg hm qp (bz (fH (xc hc) hg' hm' oB (bz h cY he) (by decide) (by decide) he hpl) cY he') (by decide) (by decide) he' hpl') fun σ H Q ⟨F,δ,As,d,δ',R,q,k⟩=>by
  unfold oM at q;obtain ⟨⟨d1,δ1⟩,e1,q⟩:=Za.mp q;dsimp only at q;cases d1 with
  | lst ds =>
   obtain ⟨ns,e2,q⟩:=Za.mp (show ((eC ds).bind fun ns=>some (D.lst (wj ns),δ1))=some (d,δ') from q)
   cases q;refine ⟨F,δ,As,.lst ds,_,R,e1,fun v F1 H1 A As1 ev R1 r1=>?_⟩
   cases r1 with
   | imm i _=>cases i
   | @lst a vs _ B ha nf rs =>
    obtain ⟨rfl,h5⟩:=lE rs e2;refine ⟨a,ns,rfl,SqL.of ha,h5,fun l hl=>⟨l,ns,rfl,aw,h5,fun m hm2=>?_⟩⟩
    have s1:=aJ hl (Ao X.w l ns);have s2:=aJ hm2 (.lst ((Sw.srtN ns).map vN));have s3:=s1.trans s2;have nm:H1 m=none:=by
     cases z:H1 m with
     | none=>rfl
     | some o=>rw [s1 m o z] at hm2;cases hm2
    have np:∀ {u:Hp},Same u H1->u m=none:=fun {u} su=>by
     cases z:u m with
     | none=>rfl
     | some o=>rw [su m o z] at nm;cases nm
    refine k (.ref m) F1 _ [m] As1 ⟨ev.fs,ev.hs.trans s3,ev.nf,ev.fa,fun b z=>?_,(by simp),fun i b mb z=>?_⟩ (R1.grow s3) (.lst aw (np R1.fz) (nJ (Sw.srtN ns)))
    . rw [Zk.mp z];exact .inr (np ev.hs)
    . rw [Zk.mp z] at mb;obtain ⟨⟨u,e⟩,_⟩:=R1.dom mb;rw [nm] at e;cases e
  | _=>cases q
end Dl
namespace Dl
open PySem PySem.Spec PyProof.Rows L2
def Ee:D->Option (List Int)
 | .tup ds=>mG ds
 | _=>none
def nG:List D->Option (List (List Int))
 | []=>some []
 | d :: ds=>(Ee d).bind fun m=>(nG ds).bind fun ms=>some (m :: ms)
def zr (a:D):Option D:=(asL a).bind fun ds=>(nG ds).bind fun ms=>if ms.Nodup/\ms.length<=5 then some (.int (ms.length:Int)) else none
def rR (f:FD):FD:=fun δ=>(f δ).bind zr
def v7 (K:Zr) (H:Hp):List V->List (List Int)->Prop
 | [],[]=>True
 | y :: ys,m :: ms=>(∃ a,y=.ref a/\SqT K H a (m.map V.int))/\v7 K H ys ms
 | _,_=>False
def Gf (h:Heap) (S:Addr) (n:Nat):Prop:=∃ o es ep t,h.get? S=some o/\o.ExactSet/\o.data=.set es ep t/\t.fits es.size=true/\es.size=n
def xF (l:Addr) (n:Nat):HO:=.ext fun h=>Gf h l n
theorem tM {prog:Program} {w:World}:∀ {m:List Int} {its:List Value},Vals (m.map V.int) its->ItemsAre (intKind prog w) m its
 | [],_,h=>by cases h;exact .nil
 | k :: m,_,h=>by
  cases h with
  | cons a t =>
   obtain ⟨u,rfl⟩:=a;exact .cons (intKind_is _ _ _ _) (tM t)
theorem rl {X:Cx} {pins:List (Addr×Obj)} {σ:L2.St} {H:Hp} {s:Shared} (I:L2.Inv X pins σ H s):∀ (ms:List (List Int)) (ys:List V) (pre its:List Value),v7 X.K H ys ms->Vals ys its->Sw.LeftT X.prog X.w s.heap (pre++its).toArray pre.length ms
 | [],[],pre,its,_,r=>by
  cases r;show (pre++[]).toArray[pre.length]? = none;simp
 | m :: ms,y :: ys,pre,its,t,r=>by
  obtain ⟨⟨a,rfl,sq⟩,t⟩:=t
  match its,r with
  | _ :: us,.cons ra rr =>
   cases ra;obtain ⟨its0,rv,tp,_⟩:=I.tuple sq;obtain ⟨o,g1,g2,n,g3⟩:=tp;refine ⟨⟨a,by simp,o,its0.toArray,n,g1,g2,g3,tM rv⟩,?_⟩
   have:=rl I ms ys (pre++[.ref a]) us t rr;rw [List.append_assoc,Zf] at this;exact this
 | [],_ :: _,_,_,t,_=>t.elim
 | _ :: _,[],_,_,t,_=>t.elim
theorem xa {X:Cx} (hc:X.calm=true) (hu:X.A.units+64 < cLine):cW X (.type "set") (fun xs H Q=>∃ p ys ms,xs=[.ref p]/\SqL X.K H p ys/\v7 X.K H ys ms/\ms.Nodup/\ms.length<=5/\∀ l,H l=none->Q (.ref l) (upd H l (xF l ms.length))):=by
 intro pins s σ H xs us Q I r h;obtain ⟨p,ys,ms,rfl,hq,ht,nd,l5,q⟩:=h;obtain ⟨u,rfl,rx⟩:=fq r;cases rx;obtain ⟨its,r',pl,hz⟩:=I.list hq;refine Sw.set_tup (ms:=ms) (by omega) (I.ok.hd hc) pl.isList (rl I ms ys [] its ht r') nd l5 fun h' tk ps' kp hS=>?_
 have hn:H s.heap.objs.size=none:=I.hok.fresh (ZH _);have na:s.heap.get? s.heap.objs.size=none:=Sw.none_size (ZH _);obtain ⟨o,es,ep,t,g1,g2,g3,g4,g5,_⟩:=hS;refine ⟨.ref s.heap.objs.size,_,pO I kp na hn (u:=xF s.heap.objs.size ms.length) ⟨⟨o,es,ep,t,g1,g2,g3,g4,g5⟩,⟨o,g1⟩,fun h1 h2 x k=>?_⟩,rfl,q _ hn⟩
 obtain ⟨o,es,ep,t,e1,r⟩:=x;exact ⟨o,es,ep,t,k o e1,r⟩
theorem xf {X:Cx}:cW X (.builtin "len") (fun xs H Q=>∃ p n,xs=[.ref p]/\H p=some (xF p n)/\n<=5/\Q (.int (n:Int)) H):=by
 intro pins s σ H xs us Q I r h;obtain ⟨p,n,rfl,hq,n5,q⟩:=h;obtain ⟨u,rfl,rx⟩:=fq r;cases rx;obtain ⟨⟨o,es,ep,t,g1,g2,g3,g4,g5⟩,_,_⟩:=I.hok p _ hq;refine call_len_set g1 g2 g3 g4 (by omega) ⟨.int (n:Int),H,I.kept (t':=s.toks+1+1) fun b o e=>e,⟨s.toks+1,by rw [g5]⟩,q⟩
theorem nF {K:Zr} {H:Hp}:∀ {vs:List V} {ds:List D} {ms:List (List Int)},Reps K H vs ds->nG ds=some ms->v7 K H vs ms
 | _,[],_,.nil,e=>by cases e;trivial
 | _,d :: ds,ms,.cons r t,e=>by
  obtain ⟨m,em,e⟩:=Za.mp (show ((Ee d).bind _)=some ms from e)
  obtain ⟨ms',e2,e⟩:=Za.mp e;cases e;refine ⟨?_,nF t e2⟩;cases d with
  | tup xs =>
   cases r with
   | tup h rr =>
    have:=om rr em;subst this;exact ⟨_,rfl,h⟩
  | _=>cases em
theorem AN {X:Cx} {e:Expr} {f:FD} {p p' pos pos':Pos} (hu:X.A.units+64 < cLine) (hg:Gl X "len") (hm:X.mg "len" = none) (hg':Gl X "set") (hm':X.mg "set" = none) (h:PD X e f) (hc:X.calm=true:=by rfl)
 (he:starEach [e] X.env=(false,eval e X.env) :: starEach [] X.env:=by rfl) (hpl:(backTo pos' (starEach [] X.env)).any (·.1)=false:=by rfl)
 (he':starEach [.Call (.Name "set" p') [e] [] pos'] X.env=(false,eval (.Call (.Name "set" p') [e] [] pos') X.env) :: starEach [] X.env:=by rfl) (hpl':(backTo pos (starEach [] X.env)).any (·.1)=false:=by rfl) :
 PD X (.Call (.Name "len" p) [.Call (.Name "set" p') [e] [] pos'] [] pos) (rR f) :=
 imp (jK xf hg hm PySem.boot_len (bz (fH (xa hc hu) hg' hm' oB (bz h cY he) (by decide) (by decide) he hpl) cY he') (by decide) (by decide) he' hpl') fun σ H Q ⟨δ,d,R,q,k⟩=>by
  unfold rR at q;obtain ⟨x,ex,q⟩:=Za.mp q;unfold zr at q;obtain ⟨ds,ed,q⟩:=Za.mp q;obtain ⟨ms,em,q⟩:=Za.mp q;split at q
  . rename_i hh;cases q;refine ⟨δ,x,R,ex,fun v H1 s1 r1=>?_⟩
    obtain ⟨a,vs,rfl,hq,rp⟩:=qq r1 ed;refine ⟨a,vs,ms,rfl,hq,nF rp em,hh.1,hh.2,fun l hl=>⟨l,ms.length,rfl,aw,hh.2,?_⟩⟩
    exact k _ _ (s1.trans (aJ hl _)) (.int _)
  . cases q
theorem za {K:Zr} {F:Hp} {lo:Int} {n:Nat}:ItF K (Itr lo n) F ((List.range n).map fun k=>D.int (lo+((k:Nat):Int))):=by
 intro i H2 s;refine ⟨fun hi=>?_,fun hi=>(show n<=i by simpa using hi)⟩
 have hi':i < n:=by simpa using hi
 refine ⟨hi',fun x H' y=>?_⟩
 obtain ⟨e,y⟩:=y;subst e y;refine ⟨rfl,.int (lo+(i:Int)),?_,.int _⟩;rw [ZD,List.getElem?_range hi'];rfl
def jo (g:FA):FMA:=fun δ=>(xB g δ).bind fun rs=>some (rs,δ)
theorem sY {X:Cx} {tg a b:Expr} {g:FA} {p pos:Pos} (hg:Gl X "range") (hm:X.mg "range" = none) (ha:PAD X [a,b] g) (hs:starEach [a,b] X.env=[(false,eval a X.env),(false,eval b X.env)]:=by rfl) (hs2:starEach [b] X.env=[(false,eval b X.env)]:=by rfl) :
 PIM X tg (.Call (.Name "range" p) [a,b] [] pos) (jo g):=rH (wz hg hm ha hs hs2) fun σ H R ⟨F,δ,As,ds,δ',R0,e,k⟩=>by
 unfold jo xB at e;obtain ⟨rs,ers,e⟩:=Za.mp e;cases e;obtain ⟨xs,exs,e⟩:=Za.mp ers;split at e
 . rename_i i j;split at e
   . rename_i hb;cases e;refine ⟨δ,_,R0.toS,exs,fun vs H1 s1 r1 l=>?_⟩
     obtain ⟨x,y,rfl,rx,ry⟩:=uI r1;cases rx;cases ry;exact ⟨i,j,rfl,hb,k _ F H1 As (Same.refl F) (R0.grow s1) za⟩
   . cases e
 . cases e
def Itm (lo:Int) (n:Nat):It:=⟨fun i _=>i < n,fun i H x H'=>H'=H/\x=.int (lo+i*(-1)),fun i _=>n<=i⟩
theorem wc {P:Program} {w:World} {K:Zr} {tg:Expr} (it:Addr) (lo:Int) (n:Nat):kK P w K tg (Itm lo n) [it] it (fun i h=>IsRangeIter h it (lo+(i:Nat)*(-1)) ((n:Int) - (i:Nat)) (-1)) where
 mem:=by simp
 obj:=fun i h st b hb=>by
  have e:b=it:=by simpa using hb
  subst e;exact ⟨_,st,fun v z=>by
   have z':Data.fields _=Data.cell v:=z;cases z'⟩
 keep:=fun i h h' st k=>k it (by simp) _ st
 item:=by
  intro X hP hw hK hc i pins s σ H E I hf st hg;subst hP hw hK;obtain ⟨f0,f1,f2,f3,f4,f5⟩:=hf it (by simp)
  refine (Walks.range (prog:=X.prog) (w:=X.w) (I.ok.hd hc) it lo (-1) n).item i s _ _ hg st fun v h' tk hv st' kk=>?_
  obtain ⟨t,rfl⟩:=hv;exact ⟨_,rfl,vp (s:={ s with heap:=h',toks:=tk }) (n:="range_iterator") st' rfl rfl (by decide) ⟨.int (lo+i*(-1)),H,I.turned (fun b o hb e=>kk b o (by simpa using hb) e) f0 f1 f3 f4 f5,⟨t,rfl⟩,⟨rfl,rfl⟩,st',fun b hb=>(hf b hb).1⟩⟩
 done:=by
  intro X hP hw hK hc i pins s σ H E I hf st hg;subst hP hw hK;obtain ⟨f0,f1,f2,f3,f4,f5⟩:=hf it (by simp)
  exact wpAny_pyNext_range_end (I.ok.hd hc) st (by have:n<=i:=hg;omega) fun h' eb=>⟨rfl,I.turned (t':=s.toks) (fun b o hb e=>eb b o hb e) f0 f1 f3 f4 f5⟩
 self:=fun _ _ _ _ _ st h=>wpAny_pyIter_rangeiter st h
def qy (g:FA):FMA:=fun δ=>(g δ).bind fun xs=>match xs with
 | [.int i,.int j,.int m]=>if -(2 ^ 62)<=i/\i < 2 ^ 62/\-(2 ^ 62)<=j/\j < 2 ^ 62/\m = -1 then some ((List.range (i - j).toNat).map fun k=>D.int (i - ((k:Nat):Int)),δ) else none
 | _=>none
theorem nM (a b:Int):Builtin.Range.rangeSize a b (-1)=(((a - b).toNat:Nat):Int):=by
 unfold Builtin.Range.rangeSize;rw [if_neg (by decide),show (-(-1):Int)=1 from rfl,Int.ediv_one]
 split <;> omega
theorem sP {a b:Int} (ha:-(2 ^ 62)<=a) (ha':a < 2 ^ 62) (hb:-(2 ^ 62)<=b) (hb':b < 2 ^ 62):Builtin.Range.small a b (-1)=true:=by
 unfold Builtin.Range.small;rw [nM];simp only [Builtin.Range.rangeFitsLong,ZI,Bool.or_eq_true,decide_eq_true_eq,beq_iff_eq,show ¬ ((-1:Int) > 0) by decide,if_false]
 omega
theorem zc {K:Zr} {F:Hp} {lo:Int} {n:Nat}:ItF K (Itm lo n) F ((List.range n).map fun k=>D.int (lo - ((k:Nat):Int))):=by
 intro i H2 s;refine ⟨fun hi=>?_,fun hi=>(show n<=i by simpa using hi)⟩
 have hi':i < n:=by simpa using hi
 refine ⟨hi',fun x H' y=>?_⟩
 obtain ⟨e,y⟩:=y;subst e y;refine ⟨rfl,.int (lo - (i:Int)),?_,by rw [show lo+(i:Int)*(-1)=lo - i by omega];exact .int _⟩
 rw [ZD,List.getElem?_range hi'];rfl
theorem yi {X:Cx} {tg a b c:Expr} {g:FA} {p pos:Pos} (hg:Gl X "range") (hm:X.mg "range" = none) (ha:PAD X [a,b,c] g) (hs:starEach [a,b,c] X.env=[(false,eval a X.env),(false,eval b X.env),(false,eval c X.env)]:=by rfl) (hs2:starEach [b,c] X.env=[(false,eval b X.env),(false,eval c X.env)]:=by rfl) :
 PIM X tg (.Call (.Name "range" p) [a,b,c] [] pos) (qy g):=by
 intro pins s σ H R I ⟨F,δ,As,ds,δ',R0,e,k⟩;unfold qy at e;obtain ⟨xs,exs,e⟩:=Za.mp e;refine Call_ (gX I hg hm boot_range (PyProof.Rows.callWith_type1 (thn (ha pos pins s σ H (fun vs H1=>Same H H1/\Reps X.K H1 vs xs/\vs.length=3) I ⟨δ,xs,R0.toS,exs,fun vs H1 s1 r1 l=>⟨s1,r1,l⟩⟩) fun us s1 ⟨vs,H1,I1,r1,sm,rp,l⟩=>?_) (by rw [hs,hs2]) (by rw [hs2];rfl)))
 split at e
 . rename_i i j m _;split at e
   . rename_i hb;obtain ⟨h1,h2,h3,h4,rfl⟩:=hb;cases e;obtain ⟨v1,v2,v3,rfl,q1,q2,q3⟩:=Eu rp;have q1:v1=.int i:=by cases q1;rfl
     have q2:v2=.int j:=by cases q2;rfl
     have q3:v3=.int (-1):=by cases q3;rfl
     subst q1 q2 q3;cases r1 with
     | cons r r1 =>
      cases r1 with
      | cons r' r1 =>
       cases r1 with
       | cons r'' r1 =>
        cases r1;obtain ⟨t,rfl⟩:=r;obtain ⟨t',rfl⟩:=r';obtain ⟨t'',rfl⟩:=r'';refine call_range_3 (by decide) ?_ (.inl (PyProof.noPylong_small (by decide)))
        have I2:L2.Inv X pins σ H1 { s1 with heap:=s1.heap.push { cls:=.type "range",data:=.fields #[.int i t,.int j t',.int (-1) t''] },toks:=s1.toks }:=I1.kept fun b o e=>Heap.get?_push_of_some _ e
        refine wpAny_pyIter_range (IsRange.new ..) (sP h1 h2 h3 h4) ?_;refine ⟨_,[_],_,Itm i (i - j).toNat,H1,rfl,I2.kept (t':=s1.toks) fun b o e=>Heap.get?_push_of_some _ e,wc _ i (i - j).toNat,?_,fun b hb=>?_,k _ F H1 As (Same.refl F) (R0.grow sm) zc⟩
        . have e1:i+((0:Nat):Int)*(-1)=i:=by omega
          have e3:(((i - j).toNat:Nat):Int) - ((0:Nat):Int)=Builtin.Range.rangeSize i j (-1):=by rw [nM];omega
          rw [e1,e3];exact Heap.get?_push_size _ rfl
        . have e:=Zk.mp hb;subst e;exact I2.fpOk (ZH _) (I2.hok.fresh (ZH _))
   . cases e
 . cases e
def uL:V->List V->Hp->VK->Prop:=fun x vs H Q=>∃ (l:Addr) (xs:List V) (z:Int) (y:V),x=.ref l/\vs=[.int z,y]/\H l=some (.lst xs)/\0<=z/\z<=(xs.length:Int)/\xs.length < 1000/\Q .non (upd H l (.lst (xs.take z.toNat++y :: xs.drop z.toNat)))
theorem wF {X:Cx}:MtM X "list.insert" uL:=by
 intro pins s σ H x vs v us Q I rx rv h;obtain ⟨l,xs,z,y,rfl,rfl,hH,z0,hk,hz,q⟩:=h;cases rx;cases rv with
 | cons r1 rv =>
  obtain ⟨u,rfl,ru⟩:=fq rv;obtain ⟨t,rfl⟩:=r1;obtain ⟨_,its,n,r,hl,e⟩:=I.lstM hH;have lz:its.length=xs.length:=r.length.symm;have sl:xs.length < sizeLine:=Zt hz (by rw [sizeLine_eq];decide)
  have fi:Builtin.List.listFitsIndex z=true:=by
   unfold Builtin.List.listFitsIndex;simp only [ZI,decide_eq_true_eq];omega
  have hc0:¬ (!Builtin.List.listFitsIndex z)=true:=by rw [fi];decide
  have hs1:its.toArray.size<=sizeLine:=by rw [Zx];omega
  refine call_meets F.slot_list_insert ⟨_,e,rfl⟩ F.entry_list_insert (F.args_list_insert_3 _ _ _) (@PySem.AutoSeq1.list_insert_list_int_val_1 l its.toArray n z t u hc0 hs1) ⟨e,?_⟩;refine ⟨.non,_,I.lset (its':=its.take z.toNat++u :: its.drop z.toNat) hH e ?_ ((r.take z.toNat).append (.cons ru (r.drop z.toNat))) ?_,rfl,q⟩
  . dsimp only;rw [if_neg (by omega)]
    have ek:min z.toNat its.toArray.size=z.toNat:=by rw [Zx];omega
    rw [ek];apply Array.toList_inj.mp
    simp [List.extract_eq_drop_take,List.take_of_length_le]
  . rw [Zf,Zh,List.length_take,List.length_drop];omega
def Ca:D->Option Int
 | .int k=>some k
 | _=>none
theorem wQ {d:D} {k:Int} (h:Ca d=some k):d=.int k:=by
 cases d with
 | int i=>cases h;rfl
 | _=>cases h
def xK (i:Nat) (fk fe:FD):SD:=fun δ=>match δ[i]? with
 | some (some (.lst ds))=>if cT ds=true/\ds.length < 1000 then (fk δ).bind fun x=>(Ca x).bind fun k=>(fe δ).bind fun d=>if 0<=k/\k<=ds.length/\imm d=true then some (.nx (δ.set i (some (.lst (ds.take k.toNat++d :: ds.drop k.toNat))))) else none else none
 | _=>none
theorem Reps.takeK {K:Zr} {H:Hp}:∀ (k:Nat) {vs:List V} {ds:List D},Reps K H vs ds->Reps K H (vs.take k) (ds.take k)/\Reps K H (vs.drop k) (ds.drop k)
 | 0,_,_,r=>⟨.nil,r⟩
 | k+1,_,_,.nil=>⟨.nil,.nil⟩
 | k+1,_,_,.cons a t=>⟨.cons a (Reps.takeK k t).1,(Reps.takeK k t).2⟩
theorem Reps.appK {K:Zr} {H:Hp}:∀ {vs ws:List V} {ds es:List D},Reps K H vs ds->Reps K H ws es->Reps K H (vs++ws) (ds++es)
 | _,_,_,_,.nil,r=>r
 | _,_,_,_,.cons a t,r=>.cons a (Reps.appK t r)
theorem CW {X:Cx} {pos:Pos} {fk fe:FD} (i:Nat) {c:Expr} (hc:PE X c (tBM X.K "list" uL (we i) (qz (up X.K fk) (qz (up X.K fe) Al)))) (hs:swapsWith c none pos.line X.env=pure false:=by rfl):PMD X (.Expr c pos) (xK i fk fe):=de (kU hc hs) fun E σ H ⟨F,δ,r,⟨As,R⟩,q,k⟩=>by
 unfold xK at q;split at q
 . rename_i ds h;split at q
   . rename_i hi;obtain ⟨x,ex,q⟩:=Za.mp q;obtain ⟨m,em',q⟩:=Za.mp q;obtain ⟨d,ed,q⟩:=Za.mp q;have e0:=wQ em';rw [e0] at ex;split at q
     . rename_i hm;cases q;obtain ⟨a,vs,A0,s0,eA,g0,n0,ro⟩:=R.lst h;refine ⟨.ref a,s0,.inl ⟨rfl,_,SqL.of g0⟩,δ,.int m,R.toS,ex,fun v1 H1 s1 r1=>⟨δ,d,R.toS.mono s1,ed,fun v2 H2 s2 r2=>?_⟩⟩
       have e1:v1=.int m:=by cases r1;rfl
       subst e1;have R2:=R.grow (s1.trans s2);have g2:H2 a=some (.lst vs):=s2 a _ (s1 a _ g0);have lv:vs.length=ds.length:=ro.length;have rp:Reps X.K H2 vs ds:=(ro.reps R.fz).mono (s1.trans s2);obtain ⟨p1,p2⟩:=Reps.takeK m.toNat rp;refine ⟨a,vs,m,v2,rfl,rfl,g2,hm.1,by omega,by omega,k σ F _ (Same.refl F) (R2.wrI h s0 eA g2 n0 (Reps.appK p1 (.cons r2 p2)) (imms_mem.mpr fun x mx=>?_))⟩
       rcases Zm.mp mx with z | z
       . exact imms_mem.mp hi.1 x (List.mem_of_mem_take z)
       . rcases Zn.mp z with z | z
         . rw [z];exact hm.2.2
         . exact imms_mem.mp hi.1 x (List.mem_of_mem_drop z)
     . cases q
   . cases q
 . cases q
theorem CY {X:Cx} {st:Stmt} {s:SD} (ks:List Nat) (h:∀ Z',(∀ j∈ks,∀ σ v,Z' σ->Z' (σ.set j (some v)))->PZD X Z' st s):PMD X st (xL ks s):=de (CG (C:=fun Z'=>∀ j∈ks,∀ σ v,Z' σ->Z' (σ.set j (some v))) h) fun E σ H ⟨F,δ,r,⟨As,R⟩,q,k⟩=>by
 unfold xL at q;obtain ⟨r0,e0,q⟩:=Za.mp q;refine ⟨fun σ'=>σ'.length=σ.length/\∀ j,j ∉ ks->σ'[j]? = σ[j]?,fun j m σ' v z=>⟨by rw [List.length_set];exact z.1,fun i n=>by
  have ji:j ≠ i:=fun e=>n (by rw [<- e];exact m)
  rw [List.getElem?_set_ne ji];exact z.2 i n⟩,H,_,r0,⟨_,R.allSh (Same.refl H)⟩,⟨rfl,fun _ _=>rfl⟩,e0,?_⟩
 cases r0 with
 | nx δ'=>cases q;exact fun σ' F' H' s1 ⟨As',R'⟩ z=>k σ' F H' (Same.refl F) (R.back ks (s1.trans R'.fz) z.1 z.2)
 | rt d=>cases q;exact fun v F' H' A s1 s2 r' nd=>k v F' H' A (R.fz.trans s1) s2 r' nd
 | bk δ'=>cases q
 | ct δ'=>cases q
 | ex C δ'=>cases q
 | mk C δ'=>cases q
end Dl
namespace Mine
open PySem PySem.Spec PyProof.Rows L2 Dl
noncomputable section
open Mth
abbrev fr (p:Int×Int):D:=.tup [.int p.1,.int p.2]
def pU:D->Option Bool
 | .int _=>some true
 | .ty _=>none
 | .exc _=>none
 | .cls _=>none
 | .ms _ _=>none
 | .mf _ _=>none
 | .md _ _=>none
 | _=>some false
abbrev Md (x:Int):Prop:=Sm 4000 x
theorem Md.bd {x:Int} (h:Md x):Bd x:=h.mono (l:=9000) (by decide)
theorem zZ {k:Nat} {x:Int} (h:Sm k x) (e:k<=9000:=by decide):Bd x:=h.mono (l:=9000) e
theorem cV {x:Int} (h:x.natAbs < 2 ^ 64:=by decide):Bd x:=zZ (k:=64) h
theorem DX {x:Int} (h:Bd x):Bd (-x):=by unfold Bd at *;rw [Int.natAbs_neg];exact h
structure Fk (p:Int×Int):Prop where
 pos:0 < p.2
 s1:Md p.1
 s2:Md p.2
theorem Fk.of {k:Nat} {p:Int×Int} (h:Fr k p) (e:k<=4000:=by decide):Fk p:=⟨h.pos,h.s1.mono e,h.s2.mono e⟩
def gv (ds:List D) (d:D):Prop:=∃ x b,pU x=some b/\ds=[x]/\d=.bl b
theorem d7 {x:D} {b:Bool} (h:pU x=some b):fn gv [x]=some (.bl b):=bv (fun d' h'=>by
 obtain ⟨x',b',h1,h2,rfl⟩:=h';cases h2;rw [h] at h1;cases h1;rfl) ⟨x,b,h,rfl,rfl⟩
abbrev bL:=gv
def ci (ds:List D) (d:D):Prop:=∃ a b,0 < b/\ds=[.int a,.int b]/\d=.int (gc a b)
theorem c4 {a b:Int} (h:0 < b):fn ci [.int a,.int b]=some (.int (gc a b)):=bv (fun d' h'=>by
 obtain ⟨a',b',h1,h2,rfl⟩:=h';cases h2;rfl) ⟨a,b,h,rfl,rfl⟩
def m5 (ds:List D) (d:D):Prop:=∃ t b,0 < b/\Bd b/\ds=[.int t,.int b]/\d=fr (rd t b)
theorem rX {t b:Int} (h:0 < b) (g:Bd b):fn m5 [.int t,.int b]=some (fr (rd t b)):=bv (fun d' h'=>by
 obtain ⟨t',b',_,_,h2,rfl⟩:=h';cases h2;rfl) ⟨t,b,h,g,rfl,rfl⟩
def S2 (op:Int×Int->Int×Int->D) (ds:List D) (d:D):Prop:=∃ p q:Int×Int,Fk p/\Fk q/\ds=[fr p,fr q]/\d=op p q
theorem e2 {op:Int×Int->Int×Int->D} {p q:Int×Int} (h:Fk p) (g:Fk q):fn (S2 op) [fr p,fr q]=some (op p q):=bv (fun d' h'=>by
 obtain ⟨⟨a,b⟩,⟨c,e⟩,_,_,h2,rfl⟩:=h';obtain ⟨a',b'⟩:=p;obtain ⟨c',e'⟩:=q;cases h2;rfl) ⟨p,q,h,g,rfl,rfl⟩
abbrev ic:=S2 fun p q=>.bl (decide (p.1*q.2 < q.1*p.2))
theorem dd:∀ {ns ms:List Int},ns.map D.int=ms.map D.int->ns=ms
 | [],[],_=>rfl
 | [],_ :: _,h=>by cases h
 | _ :: _,[],h=>by cases h
 | n :: ns,m :: ms,h=>by
  have h':D.int n :: ns.map D.int=D.int m :: ms.map D.int:=h;injection h' with h1 h2
  injection h1 with h1
  rw [h1,dd h2]
def cell (ns:List Int) (k:Int):Int:=ns.getD k.toNat 0
def ie (ds:List D) (d:D):Prop:=∃ (ns:List Int) (k:Int),0<=k/\ds=[.seq (ns.map D.int),.int k]/\d=.int (cell ns k)
theorem mR {ns:List Int} {k:Int} (h:0<=k):fn ie [.seq (ns.map D.int),.int k]=some (.int (cell ns k)):=bv (fun d' h'=>by
 obtain ⟨ns',k',_,h2,rfl⟩:=h';injection h2 with h3 h4
 injection h3 with h3
 injection h4 with h4
 injection h4 with h4
 rw [dd h3,h4]) ⟨ns,k,h,rfl,rfl⟩
structure Flw (p:Int×Int):Prop extends Fk p where
 lw:Lw p
theorem Flw.of {k:Nat} {p:Int×Int} (h:Fr k p) (e:k<=4000:=by decide):Flw p:=⟨Fk.of h e,h.lw⟩
def S2w (op:Int×Int->Int×Int->D) (ds:List D) (d:D):Prop:=∃ p q:Int×Int,Flw p/\Flw q/\ds=[fr p,fr q]/\d=op p q
theorem e2w {op:Int×Int->Int×Int->D} {p q:Int×Int} (h:Flw p) (g:Flw q):fn (S2w op) [fr p,fr q]=some (op p q):=bv (fun d' h'=>by
 obtain ⟨⟨a,b⟩,⟨c,e⟩,_,_,h2,rfl⟩:=h';obtain ⟨a',b'⟩:=p;obtain ⟨c',e'⟩:=q;cases h2;rfl) ⟨p,q,h,g,rfl,rfl⟩
def jR (ds:List D) (d:D):Prop:=∃ p q:Int×Int,Flw p/\Flw q/\ds=[fr p,.int q.1,.int q.2]/\d=fr (sm p.1 p.2 q.1 q.2)
theorem zK {p q:Int×Int} (h:Flw p) (g:Flw q):fn jR [fr p,.int q.1,.int q.2]=some (fr (sm p.1 p.2 q.1 q.2)):=bv (fun d' h'=>by
 obtain ⟨⟨a,b⟩,⟨c,e⟩,_,_,h2,rfl⟩:=h';obtain ⟨a',b'⟩:=p;obtain ⟨c',e'⟩:=q;cases h2;rfl) ⟨p,q,h,g,rfl,rfl⟩
theorem Flw.neg {p:Int×Int} (h:Flw p):Flw (-p.1,p.2):=⟨⟨h.pos,h.s1.neg,h.s2⟩,h.lw.neg⟩
theorem tI {x g:Int} (h:Md x) (hg:0 < g) (d:g ∣ x):Bd (x / g):=(Sm.div h hg d).mono (l:=9000) (by decide)
abbrev qr:=S2w fun p q=>fr (mi p q)
def Bk (k:Nat):Bn->Prop
 | none=>True
 | some (n,_)=>Sm k n
theorem A9 (n:Int):low n 1=(n,1):=by
 rw [A8 (by decide)]
 exact fG ⟨by decide,by unfold gc;simp⟩
def bg (ds:List D) (d:D):Prop:=∃ t b,b ≠ 0/\Bd b/\ds=[.int t,.int b]/\d=fr (low t b)
theorem tW {t b:Int} (h:b ≠ 0) (g:Bd b):fn bg [.int t,.int b]=some (fr (low t b)):=bv (fun d' h'=>by
 obtain ⟨t',b',_,_,h2,rfl⟩:=h';cases h2;rfl) ⟨t,b,h,g,rfl,rfl⟩
theorem eR {n:Int}:dfl (fn bg) [1] [.int n]=some (.tup [.int n,.int 1]):=by
 have h:=tW (t:=n) (b:=1) (by decide) cV
 rw [A9] at h;exact h
theorem dc {s:SD} {δ:DS} {d:D} (h:s δ=some (.rt d)):aC (s δ)=some d:=by rw [h];rfl
theorem ao {s u:SD} {δ δ':DS} {r:Res} (h:s δ=some (.nx δ')) (g:u δ'=some r):aN s u δ=some r:=by unfold aN;rw [h];exact g
theorem kO {s u:SD} {δ:DS} {d:D} (h:s δ=some (.rt d)):aN s u δ=some (.rt d):=by unfold aN;rw [h];rfl
theorem aM {i:Nat} {f:FM} {δ δ':DS} {d:D} (h:f δ=some (d,δ')):aS i f δ=some (.nx (δ'.set i (some d))):=by unfold aS;rw [h];rfl
theorem bS {f:FM} {δ δ':DS} {d:D} (h:f δ=some (d,δ')):dZ f δ=some (.rt d):=by unfold dZ;rw [h];rfl
theorem jq {f:FM} {δ δ':DS} {d p:D} (h:f δ=some (d,δ')) (g:δ'[0]? = some (some p)):jC f δ=some (.rt (.tup [d,p])):=by unfold jC;rw [h];dsimp only [Option.bind_some];rw [g]
theorem bc {c:FT} {s u:SD} {δ:DS} {r:Res} (h:c δ=some false) (g:u δ=some r):sIf c s u δ=some r:=by unfold sIf;rw [h];exact g
theorem eV {c:FT} {s u:SD} {δ:DS} {r:Res} (h:c δ=some true) (g:s δ=some r):sIf c s u δ=some r:=by unfold sIf;rw [h];exact g
theorem iZ {src:FMA} {i:Nat} {s:SD} {δ δ':DS} {ds:List D} {r:Res} (h:src δ=some (ds,δ')) (g:Dl.forM i s ds δ'=some r):gQ src i s δ=some r:=by unfold gQ;rw [h];exact g
theorem sO {δ δ':DS} {i:Nat} {fm:FM} {xs ds:List D} {d:D} (h:δ[i]? = some (some (.lst xs))) (g:fm δ=some (d,δ')) (h':δ'[i]? = some (some (.lst ds))) (l:ds.length<=999):jY i fm δ=some (.nx (δ'.set i (some (.lst (ds++[d]))))):=by
 unfold jY;rw [h];dsimp only;rw [g];dsimp only [Option.bind_some];rw [h'];exact if_pos l
theorem oQ {i:Nat} {δ:DS} {d:D} {ds:List D} (h:δ[i]? = some (some d)) (g:sh d=.seq ds) (k:sh (.seq ds)=.seq ds):iK (iX i) δ=some (ds,δ.set i (some (.seq ds))):=by
 unfold iK iX;rw [h];simp only [Zc,g,k]
theorem Er {is:List Nat} {fm:FM} {δ δ':DS} {ds:List D} (h:fm δ=some (.tup ds,δ')) (l:ds.length=is.length) (i:vn is δ'.length=true):wo is fm δ=some (.nx (sU is ds δ')):=by
 unfold wo;rw [h];dsimp only [Option.bind_some];rw [if_pos ⟨l,i⟩]
theorem aW {f:FD} {δ:DS} {d:D} (h:f δ=some d) (g:imm d=true:=by rfl):vI f δ=some (d,δ):=by unfold vI;rw [h];exact if_pos g
theorem eU {G:List D->Option D} {g:FA} {δ:DS} {ds:List D} {d:D} (h:g δ=some ds) (k:G ds=some d) (o:own d=true):gA G g δ=some (d,δ):=by unfold gA;rw [h];show ((G ds).bind _)=_;rw [k];exact if_pos o
theorem sH {i:Nat} {δ:DS} {ds:List D} (h:δ[i]? = some (some (.lst ds))):bF i δ=some (.lst ds,δ.set i none):=by unfold bF;rw [h];rfl
theorem sG {f g:FM} {δ δ1 δ2:DS} {a b:D} (h:f δ=some (a,δ1)) (k:g δ1=some (b,δ2)):m7 (bi f (bi g iG)) δ=some (.tup [a,b],δ2):=by
 unfold m7 bi;rw [h];dsimp only [Option.bind_some];rw [k];rfl
theorem sI {f g:FM} {δ δ1 δ2:DS} {a b:D} (h:f δ=some (a,δ1)) (k:g δ1=some (b,δ2)):kD (bi f (bi g iG)) δ=some (.lst [a,b],δ2):=by
 unfold kD bi;rw [h];dsimp only [Option.bind_some];rw [k];rfl
theorem kf {G:List D->Option D} {f:FM} {δ δ':DS} {d e:D} (h:f δ=some (d,δ')) (g:G [d]=some e) (i:imm e=true):sJ G f δ=some (e,δ'):=by
 unfold sJ;rw [h];dsimp only [Option.bind_some];rw [g];exact if_pos i
theorem oK {i:Nat} {G:List D->Option (D×D)} {g:FA} {δ:DS} {d0 p r:D} {es:List D} (h:δ[i]? = some (some d0)) (k:g δ=some es) (e:G (d0 :: es)=some (p,r)) (o:own p=true) (o':own r=true):be i G g δ=some (r,δ.set i (some p)):=by
 unfold be;rw [h];dsimp only;rw [k];dsimp only [Option.bind_some];rw [e];exact if_pos ⟨o,o'⟩
theorem um {g:D->D->Option D} {fa fb:FM} {δ δ1 δ2:DS} {a b d:D} (h:fa δ=some (a,δ1)) (k:fb δ1=some (b,δ2)) (e:g a b=some d) (i:imm d=true):iV g fa fb δ=some (d,δ2):=by
 unfold iV;rw [h];dsimp only [Option.bind_some];rw [k];dsimp only [Option.bind_some];rw [e];exact if_pos i
theorem D4 {f:FD} {δ:DS} {d:D} (h:f δ=some d) (i:imm d=true):cP f cD δ=some [d]:=by
 unfold cP cD;rw [h];exact if_pos i
theorem bW {src:FA} {n:Nat} {js:List Nat} {g:D->DS->Option DS} {fc:FT} {felt:FM} {δ:DS} {ds xs:List D} (h:src δ=some ds) (k:dR (bR n js g fc felt δ) ds=some xs) (l:xs.length<=1000):dX src n js g fc felt δ=some (.lst xs,δ):=by
 unfold dX;rw [h];dsimp only [Option.bind_some];rw [k];exact if_pos l
theorem eP {α:Type} {f:D->Option (Option D)} {g:α->D} {h:α->D} (b:α->Bool):∀ (xs:List α),(∀ x∈xs,f (g x)=some (if b x then some (h x) else none))->dR f (xs.map g)=some ((xs.filter b).map h)
 | [],_=>rfl
 | x :: xs,e=>by
  show ((f (g x)).bind _)=_;rw [e x Zi];dsimp only [Option.bind_some];rw [eP b xs fun y m=>e y (Zj _ m),List.filter_cons]
  cases b x <;> rfl
theorem aU:∀ {ps qs:List (Int×Int)},ps.map fr=qs.map fr->ps=qs
 | [],[],_=>rfl
 | [],_ :: _,h=>by cases h
 | _ :: _,[],h=>by cases h
 | (a,b) :: ps,(c,d) :: qs,h=>by
  have h':fr (a,b) :: ps.map fr=fr (c,d) :: qs.map fr:=h;injection h' with h1 h2
  cases h1;rw [aU h2]
theorem oV:∀ (ps:List (Int×Int)),shs (ps.map fr)=ps.map fr
 | []=>rfl
 | p :: ps=>by show sh (fr p) :: shs (ps.map fr)=_;rw [oV ps];rfl
theorem jP:∀ (ps:List (Int×Int)),cT (ps.map fr)=true
 | []=>rfl
 | p :: ps=>by show (imm (fr p) && cT (ps.map fr))=true;rw [jP ps];rfl
theorem ce:∀ (ps:List (Int×Int)),gH (ps.map fr)=true
 | []=>rfl
 | p :: ps=>by show (own (fr p) && gH (ps.map fr))=true;rw [ce ps];rfl
theorem ju:∀ (ns:List Int),shs (ns.map D.int)=ns.map D.int
 | []=>rfl
 | n :: ns=>by show sh (.int n) :: shs (ns.map D.int)=_;rw [ju ns];rfl
theorem fI:∀ (ns:List Int),cT (ns.map D.int)=true
 | []=>rfl
 | n :: ns=>by show (imm (.int n) && cT (ns.map D.int))=true;rw [fI ns];rfl
theorem cZ:∀ (ns:List Int),gH (ns.map D.int)=true
 | []=>rfl
 | n :: ns=>by show (own (.int n) && gH (ns.map D.int))=true;rw [cZ ns];rfl
theorem dY (ps:List (Int×Int)):sh (.tup (ps.map fr))=.tup (ps.map fr):=by rw [sh,oV]
theorem oW (ps:List (Int×Int)):sh (.seq (ps.map fr))=.seq (ps.map fr):=by rw [sh,oV]
theorem lG (ps:List (Int×Int)):sh (.lst (ps.map fr))=.seq (ps.map fr):=by rw [sh,oV]
theorem gN (ns:List Int):sh (.lst (ns.map D.int))=.seq (ns.map D.int):=by rw [sh,ju]
theorem i0 (ns:List Int):sh (.seq (ns.map D.int))=.seq (ns.map D.int):=by rw [sh,ju]
theorem xD (p:Int×Int):sh (fr p)=fr p:=rfl
theorem qL:∀ (ps:List (Int×Int)),gf (ps.map fr)=some ps
 | []=>rfl
 | p :: ps=>by show ((jZ (fr p)).bind fun q=>(gf (ps.map fr)).bind fun qs=>some (q :: qs))=_;rw [qL ps];rfl
theorem AW (p q:Int×Int):cf (fr p) (fr q)=some (.bl (!decide (p=q))):=by
 unfold cf;rw [rT];rfl
theorem uY (p:Int×Int) (ps:List (Int×Int)):da (fr p) (.lst (ps.map fr))=some (.bl (!ps.contains p)):=by
 unfold da;show ((gf (ps.map fr)).bind fun qs=>some (D.bl (!qs.contains p)))=_
 rw [qL];rfl
theorem iS {k:Nat} {x:Int} (h:Sm k x) (e:k<=4000:=by decide):Md x:=h.mono e
theorem tmK {q:Int×Int} (h:Tw q):Fk q:=Fk.of h.fr
theorem tmW {q:Int×Int} (h:Tw q):Flw q:=Flw.of h.fr
theorem tmB {q:Int×Int} (h:Tw q):Fk (bp q):=Fk.of h.bp_fr
def Gr (g:Int):Prop:=0<=g/\g<=60
theorem Gr.fk {g:Int} (h:Gr g):Fk (g,1):=⟨show (0:Int) < 1 by decide,iS (k:=64) (by show g.natAbs < 2 ^ 64;have:=h.1;have:=h.2;omega),iS (k:=64) (show (1:Int).natAbs < 2 ^ 64 by decide)⟩
theorem Ds (n:Int):Lo n 1:=⟨by decide,by unfold gc;simp⟩
def d9 (ds:List D) (d:D):Prop:=∃ q:Int×Int,Fk q/\ds=[fr q]/\d=.int (q.1 / q.2)
theorem mN {q:Int×Int} (h:Fk q):fn d9 [fr q]=some (.int (q.1 / q.2)):=bv (fun d' h'=>by
 obtain ⟨⟨a,b⟩,_,h2,rfl⟩:=h';obtain ⟨c,d⟩:=q;cases h2;rfl) ⟨q,h,rfl,rfl⟩
def cB (ds:List D) (d:D):Prop:=∃ (g:Int) (q:Int×Int),Gr g/\Tw q/\ds=[.int g,fr q]/\d=.bl (past g q)
theorem ot {g:Int} {q:Int×Int} (h:Gr g) (k:Tw q):fn cB [.int g,fr q]=some (.bl (past g q)):=bv (fun d' h'=>by
 obtain ⟨g',⟨a,b⟩,_,_,h2,rfl⟩:=h';obtain ⟨c,d⟩:=q;cases h2;rfl) ⟨g,q,h,k,rfl,rfl⟩
def bu (ds:List D) (d:D):Prop:=∃ q:Int×Int,Tw q/\ds=[fr q]/\d=fr (bp q)
theorem iU {q:Int×Int} (h:Tw q):fn bu [fr q]=some (fr (bp q)):=bv (fun d' h'=>by
 obtain ⟨⟨a,b⟩,_,h2,rfl⟩:=h';obtain ⟨c,d⟩:=q;cases h2;rfl) ⟨q,h,rfl,rfl⟩
def eB (ds:List D) (d:D):Prop:=∃ (d0:D) (qs:List (Int×Int)),sh d0=.seq (qs.map fr)/\(∀ q∈qs,Tw q)/\qs.length<=4/\ds=[d0]/\d=.lst ((dst [] qs).map fr)
theorem mO {d0:D} {qs:List (Int×Int)} (h:sh d0=.seq (qs.map fr)) (k:∀ q∈qs,Tw q) (l:qs.length<=4):fn eB [d0]=some (.lst ((dst [] qs).map fr)):=bv (fun d' h'=>by
 obtain ⟨d1,rs,h1,_,_,h2,rfl⟩:=h';cases h2;rw [h] at h1;injection h1 with h1
 rw [aU h1]) ⟨d0,qs,h,k,l,rfl,rfl⟩
def d8 (ds:List D) (d:D):Prop:=∃ (g:Int) (q:Int×Int) (d0:D) (ps:List (Int×Int)),Gr g/\Tw q/\sh d0=.seq (ps.map fr)/\(∀ p∈ps,Fk p)/\ps.length<=4/\ds=[.int g,fr q,d0]/\d=fr (plc ps g q)
theorem tV {g:Int} {q:Int×Int} {d0:D} {ps:List (Int×Int)} (a:Gr g) (b:Tw q) (h:sh d0=.seq (ps.map fr)) (k:∀ p∈ps,Fk p) (l:ps.length<=4):fn d8 [.int g,fr q,d0]=some (fr (plc ps g q)):=bv (fun d' h'=>by
 obtain ⟨g',⟨a',b'⟩,d1,rs,_,_,h1,_,_,h2,rfl⟩:=h';obtain ⟨c,d⟩:=q;cases h2;rw [h] at h1;injection h1 with h1
 rw [aU h1]) ⟨g,q,d0,ps,a,b,h,k,l,rfl,rfl⟩
structure Dr (ms:List Int) (qs:List (Int×Int)):Prop where
 gr:∀ m∈ms,Gr m
 tm:∀ q∈qs,Tw q
 le:qs.length<=4
def iE (ds:List D) (d:D):Prop:=∃ (d0:D) (ms:List Int) (qs:List (Int×Int)),sh d0=.seq (ms.map D.int)/\Dr ms qs/\ds=[d0,.tup (qs.map fr)]/\d=.tup ((cel ms qs).map fr)
theorem wX {d0:D} {ms:List Int} {qs:List (Int×Int)} (h:sh d0=.seq (ms.map D.int)) (k:Dr ms qs):fn iE [d0,.tup (qs.map fr)]=some (.tup ((cel ms qs).map fr)):=bv (fun d' h'=>by
 obtain ⟨d1,ns,rs,h1,_,h2,rfl⟩:=h';injection h2 with h3 h4
 injection h4 with h4
 injection h4 with h4
 subst h3;rw [h] at h1;injection h1 with h1
 rw [aU h4,dd h1]) ⟨d0,ms,qs,h,k,rfl,rfl⟩
def du (ds:List D) (d:D):Prop:=∃ (d0:D) (ms:List Int) (cs:List (Int×Int)),sh d0=.seq (ms.map D.int)/\cs.length<=4/\ds=[d0,.tup (cs.map fr)]/\d=.bl (mom ms cs)
theorem kB {d0:D} {ms:List Int} {cs:List (Int×Int)} (h:sh d0=.seq (ms.map D.int)) (k:cs.length<=4):fn du [d0,.tup (cs.map fr)]=some (.bl (mom ms cs)):=bv (fun d' h'=>by
 obtain ⟨d1,ns,rs,h1,_,h2,rfl⟩:=h';injection h2 with h3 h4
 injection h4 with h4
 injection h4 with h4
 subst h3;rw [h] at h1;injection h1 with h1
 rw [aU h4,dd h1]) ⟨d0,ms,cs,h,k,rfl,rfl⟩
theorem tJ {f:D->Option (Option D)}:∀ (ms:List Int) (qs:List (Int×Int)),(∀ m∈ms,∀ q∈qs,f (.tup [.int m,fr q])=some (if past m q then none else some (fr q)))->dR f (List.zipWith (fun d e=>D.tup [d,e]) (ms.map D.int) (qs.map fr))=some ((wi ms qs).map fr)
 | [],qs,_=>rfl
 | m :: ms,[],_=>rfl
 | m :: ms,q :: qs,h=>by
  show ((f (.tup [.int m,fr q])).bind _)=_;rw [h m Zi q Zi];dsimp only [Option.bind_some];rw [tJ ms qs fun x hx y hy=>h x (Zj _ hx) y (Zj _ hy)]
  rw [jm];cases past m q <;> rfl
theorem u8 {f:D->Option (Option D)} {ps:List (Int×Int)}:∀ (ms:List Int) (qs:List (Int×Int)),(∀ m∈ms,∀ q∈qs,f (.tup [.int m,fr q])=some (some (fr (plc ps m q))))->dR f (List.zipWith (fun d e=>D.tup [d,e]) (ms.map D.int) (qs.map fr))=some ((cls ps ms qs).map fr)
 | [],qs,_=>rfl
 | m :: ms,[],_=>rfl
 | m :: ms,q :: qs,h=>by
  show ((f (.tup [.int m,fr q])).bind _)=_;rw [h m Zi q Zi];dsimp only [Option.bind_some];rw [u8 ms qs fun x hx y hy=>h x (Zj _ hx) y (Zj _ hy)]
  rfl
def wG:List Int->List (Int×Int)->List Bool
 | m :: ms,c :: cs=>(decide (c.2=0) && decide (c.1<=m)) :: wG ms cs
 | _,_=>[]
theorem qY:∀ (ms:List Int) (cs:List (Int×Int)),(wG ms cs).any id=mom ms cs
 | [],_=>rfl
 | _ :: _,[]=>rfl
 | m :: ms,c :: cs=>by
  show (_ || (wG ms cs).any id)=(_ || mom ms cs)
  rw [qY ms cs];rfl
theorem qX:∀ (ms:List Int) (cs:List (Int×Int)),(wG ms cs).length<=cs.length
 | [],_=>Nat.zero_le _
 | _ :: _,[]=>Nat.zero_le _
 | m :: ms,c :: cs=>Nat.succ_le_succ (qX ms cs)
theorem rf {f:D->Option (Option D)}:∀ (ms:List Int) (cs:List (Int×Int)),(∀ m∈ms,∀ c∈cs,f (.tup [.int m,fr c])=some (some (.bl (decide (c.2=0) && decide (c.1<=m)))))->dR f (List.zipWith (fun d e=>D.tup [d,e]) (ms.map D.int) (cs.map fr))=some ((wG ms cs).map D.bl)
 | [],cs,_=>rfl
 | m :: ms,[],_=>rfl
 | m :: ms,c :: cs,h=>by
  show ((f (.tup [.int m,fr c])).bind _)=_;rw [h m Zi c Zi];dsimp only [Option.bind_some];rw [rf ms cs fun x hx y hy=>h x (Zj _ hx) y (Zj _ hy)]
  rfl
theorem hX:∀ (bs:List Bool),cO (bs.map D.bl)=some bs
 | []=>rfl
 | b :: bs=>by show ((cO (bs.map D.bl)).bind fun cs=>some (b :: cs))=_;rw [hX bs];rfl
theorem qj {ps:List (Int×Int)}:∀ (ms:List Int) (qs:List (Int×Int)),(cls ps ms qs).length<=qs.length
 | [],_=>Nat.zero_le _
 | _ :: _,[]=>Nat.zero_le _
 | m :: ms,q :: qs=>Nat.succ_le_succ (qj ms qs)
theorem fL {g:FA} {δ:DS} {d0 d1:D} {xs ys:List D} (h:g δ=some [d0,d1]) (a:asL d0=some xs) (b:cM d1=some ys):qu g δ=some (List.zipWith (fun d e=>D.tup [d,e]) xs ys):=by
 unfold qu;rw [h];dsimp only [Option.bind_some];rw [a];dsimp only [Option.bind_some];rw [b];rfl
theorem Dr.pfk {ms:List Int} {qs:List (Int×Int)} (h:Dr ms qs):∀ p∈dst [] (wi ms qs),Fk p:=iB _ (fun x z=>by cases z) fun q m _=>tmB (h.tm q (bA ms qs m))
theorem Dr.plen {ms:List Int} {qs:List (Int×Int)} (h:Dr ms qs):(dst [] (wi ms qs)).length<=4:=by
 have a:=k9 (wi ms qs) (ps:=[]);have b:=fM ms qs;have c:=h.le;simp only [List.length_nil] at a;omega
abbrev iF:=ie
theorem wY {ns:List Int} {k:Int} (h:0<=k):fn iF [.seq (ns.map D.int),.int k]=some (.int (cell ns k)):=mR h
abbrev pu (a b:Int):D:=.lst [.int a,.int b]
structure Pu (a b:Int):Prop where
 a0:0<=a
 b0:0<=b
 b1:b < 2147483648
def dS (ds:List D) (d:D):Prop:=∃ c w,(w=0 \/ w=1)/\ds=[.int c,.int w]/\d=pu ((c.natAbs:Int)*(1 - w)) ((c.natAbs:Int) % 2147483563+1)
theorem qd {c w:Int} (h:w=0 \/ w=1):fn dS [.int c,.int w]=some (pu ((c.natAbs:Int)*(1 - w)) ((c.natAbs:Int) % 2147483563+1)):=bv (fun d' h'=>by
 obtain ⟨c',w',_,h2,rfl⟩:=h';cases h2;rfl) ⟨c,w,h,rfl,rfl⟩
theorem CN (c w:Int) (h:w=0 \/ w=1):Pu ((c.natAbs:Int)*(1 - w)) ((c.natAbs:Int) % 2147483563+1):=by
 have z0:0<=(c.natAbs:Int) % 2147483563:=Int.emod_nonneg _ (by decide)
 have z1:(c.natAbs:Int) % 2147483563 < 2147483563:=Int.emod_lt_of_pos _ (by decide)
 refine ⟨Int.mul_nonneg (by omega) (by omega),by omega,by omega⟩
def tkB (a b:Int):Int:=if 0 < a then b else (b*48271+9973) % 2147483629
def tkA (a m:Int):Int:=if 0 < a then a / m else a
def tkV (a b m:Int):Int:=if 0 < a then a % m else tkB a b*tkB a b % 2147483587 / 7 % m
def aq (ds:List D) (p:D×D):Prop:=∃ a b m,Pu a b/\0 < m/\Bd m/\ds=[pu a b,.int m]/\p=(pu (tkA a m) (tkB a b),.int (tkV a b m))
theorem rZ {a b m:Int} (h:Pu a b) (k:0 < m) (l:Bd m):fnM aq [pu a b,.int m]=some (pu (tkA a m) (tkB a b),.int (tkV a b m)):=pX (fun d' h'=>by
 obtain ⟨a',b',m',_,_,_,h2,rfl⟩:=h';cases h2;rfl) ⟨a,b,m,h,k,l,rfl,rfl⟩
theorem Ct {a b m:Int} (h:Pu a b) (k:0 < m) (l:Bd m):∃ a' b' v,fnM aq [pu a b,.int m]=some (pu a' b',.int v)/\Pu a' b'/\0<=v/\v < m:=by
 refine ⟨_,_,_,rZ h k l,⟨?_,?_,?_⟩,?_,?_⟩
 . unfold tkA;split
   . exact Int.ediv_nonneg h.a0 (by omega)
   . exact h.a0
 . unfold tkB;split
   . exact h.b0
   . exact Int.emod_nonneg _ (by decide)
 . unfold tkB;split
   . exact h.b1
   . have:=Int.emod_lt_of_pos (b*48271+9973) (b:=2147483629) (by decide)
     omega
 . unfold tkV;split
   . exact Int.emod_nonneg _ (by omega)
   . exact Int.emod_nonneg _ (by omega)
 . unfold tkV;split
   . exact Int.emod_lt_of_pos _ k
   . exact Int.emod_lt_of_pos _ k
theorem dW {i:Nat} {f:FD} {δ:DS} {a b m:Int} (h:δ[i]? = some (some (pu a b))) (p:Pu a b) (e:f δ=some (.int m)) (k:0 < m) (l:Bd m):∃ a' b' v,be i (fnM aq) (cP f cD) δ=some (.int v,δ.set i (some (pu a' b')))/\Pu a' b'/\0<=v/\v < m:=by
 obtain ⟨a',b',v,g,q,v0,v1⟩:=Ct p k l;exact ⟨a',b',v,oK h (D4 e rfl) g rfl rfl,q,v0,v1⟩
def ba (ds:List D) (d:D):Prop:=∃ t b,0 < b/\Bd b/\ds=[.int t,.int b]/\d=fr (rd t b)
theorem gk {t b:Int} (h:0 < b) (g:Bd b):fn ba [.int t,.int b]=some (fr (rd t b)):=bv (fun d' h'=>by
 obtain ⟨t',b',_,_,h2,rfl⟩:=h';cases h2;rfl) ⟨t,b,h,g,rfl,rfl⟩
theorem DZ {b:Int} (h:0 < b) (k:b<=10 ^ 40):Bd b:=zZ (k:=200) (by show b.natAbs < 2 ^ 200;omega)
def tmR:SD:=((aN (aS 3 (be 0 (fnM aq) (cP (fC (.int 4)) cD))) (aN (aS 4 (be 0 (fnM aq) (cP (f2 jd (ae 1) (fC (.int 2))) cD))) (aN (aS 5 (vI (cC (ac (fC (.int 0)) (ac (fC (.int 1)) ah))))) (aN (sIf (fT (f2 dg (ae 3) (fC (.int 1)))) (aN (aS 6 (iV jd (vI (fC (.int 2))) (be 0 (fnM aq) (cP (fC (.int 5)) cD)))) (aS 5 (m7 (bi (be 0 (fnM aq) (cP (ae 6) cD)) (bi (bF 6) iG))))) cI) (aN (sIf (fT (f2 dg (ae 3) (fC (.int 2)))) (aN (aS 7 (iV gIx (kD (bi (vI (f2 (gI kL fun i j=>.int (i ^ j.toNat)) (fC (.int 10)) (fC (.int 8)))) (bi (vI (f2 (gI kL fun i j=>.int (i ^ j.toNat)) (fC (.int 10)) (fC (.int 40)))) iG))) (be 0 (fnM aq) (cP (fC (.int 2)) cD)))) (aS 5 (m7 (bi (be 0 (fnM aq) (cP (ae 7) cD)) (bi (bF 7) iG))))) cI) (aN (sIf (dh (fT (f2 dg (ae 3) (fC (.int 3)))) (fT (f2 cf (ae 2) (rQ ah)))) (aN (wo [8,6] (iV gIx (bF 2) (be 0 (fnM aq) (cP (ak dF (ac (ae 2) ah)) cD)))) (aS 5 (vI (cC (ac (f2 (gI (fun _ j=>0 < j) fun i j=>.int (i % j)) (ae 8) (ae 6)) (ac (ae 6) ah)))))) cI) (jC (vI (ak (fn ba) (ac (f2 jd (f2 (gI aG fun i j=>.int (i*j)) (ae 4) (f2 gIx (ae 5) (fC (.int 1)))) (f2 gIx (ae 5) (fC (.int 0)))) (ac (f2 gIx (ae 5) (fC (.int 1))) ah))))))))))))
def bH (ds:List D) (p:D×D):Prop:=∃ d0 es,ds=d0 :: es/\tmR (cy 9 d0 es)=some (.rt (.tup [p.2,p.1]))
theorem tt {R:SD} {n:Nat} {d0 p r:D} {es:List D} (h:R (cy n d0 es)=some (.rt (.tup [r,p]))):∀ q:D×D,(∃ d1 fs,d0 :: es=d1 :: fs/\R (cy n d1 fs)=some (.rt (.tup [q.2,q.1])))->q=(p,r):=fun q h'=>by
 obtain ⟨d1,fs,h1,h2⟩:=h';cases h1;rw [h] at h2;injection h2 with h2
 injection h2 with h2
 injection h2 with h2
 injection h2 with h3 h4
 injection h4 with h4
 rw [h3,h4]
theorem rY {d0 p r:D} {es:List D} (h:tmR (cy 9 d0 es)=some (.rt (.tup [r,p]))):fnM bH (d0 :: es)=some (p,r):=pX (tt h) ⟨d0,es,rfl,h⟩
structure Sh (s:Int×Int):Prop where
 t0:0<=s.1
 t1:s.1 < s.2
 le:s.2<=10 ^ 40
theorem Cr {a b wh:Int} {s:Int×Int} {o1 o2 o3 o6 o7 o8:Option D} (w0:0<=wh) (w1:wh<=61) (h:Sh s):((jC (vI (ak (fn ba) (ac (f2 jd (f2 (gI aG fun i j=>.int (i*j)) (ae 4) (f2 gIx (ae 5) (fC (.int 1)))) (f2 gIx (ae 5) (fC (.int 0)))) (ac (f2 gIx (ae 5) (fC (.int 1))) ah)))))) [some (pu a b),o1,o2,o3,some (.int wh),some (fr s),o6,o7,o8]=some (.rt (.tup [fr (rd (wh*s.2+s.1) s.2),pu a b])):=by
 have p0:0 < s.2:=by have:=h.t0;have:=h.t1;omega
 have m1:aG wh s.2:=⟨cV (by omega),DZ p0 h.le⟩
 refine jq (aW (d:=fr (rd (wh*s.2+s.1) s.2)) ?_) rfl;simp only [ae,fC,f2,ah,ac,ak,bm,bt,bD,Zc,Zd,Ze,aB (C:=aG) m1,gk (t:=wh*s.2+s.1) p0 (DZ p0 h.le)]
theorem lD {k:Int} (j:Int) {o0 o1 o2 o4 o5 o6 o7 o8:Option D} (h:k ≠ j):fT (f2 dg (ae 3) (fC (.int j))) [o0,o1,o2,some (.int k),o4,o5,o6,o7,o8]=some false:=by
 show some (k == j)=some false;rw [beq_eq_false_iff_ne.mpr h]
theorem oO {k:Int} {o0 o1 o2 o4 o5 o6 o7 o8:Option D}:fT (f2 dg (ae 3) (fC (.int k))) [o0,o1,o2,some (.int k),o4,o5,o6,o7,o8]=some true:=by
 show some (k == k)=some true;rw [beq_self_eq_true]
theorem sM {k:Int} {o0 o1 o2 o4 o5 o6 o7 o8:Option D} (h:k ≠ 3):dh (fT (f2 dg (ae 3) (fC (.int 3)))) (fT (f2 cf (ae 2) (rQ ah))) [o0,o1,o2,some (.int k),o4,o5,o6,o7,o8]=some false:=by
 unfold dh;rw [lD 3 h];rfl
theorem xx {a b g kd wh:Int} {hs:List (Int×Int)} {u:SD} (p:Pu a b) (hk:∀ q∈hs,Tm q) (hl:hs.length<=4):∃ a' b' s o6 o7 o8,Pu a' b'/\Sh s/\∀ r,u [some (pu a' b'),some (.int g),some (.seq (hs.map fr)),some (.int kd),some (.int wh),some (fr s),o6,o7,o8]=some r->aN ((sIf (fT (f2 dg (ae 3) (fC (.int 1)))) (aN (aS 6 (iV jd (vI (fC (.int 2))) (be 0 (fnM aq) (cP (fC (.int 5)) cD)))) (aS 5 (m7 (bi (be 0 (fnM aq) (cP (ae 6) cD)) (bi (bF 6) iG))))) cI)) (aN ((sIf (fT (f2 dg (ae 3) (fC (.int 2)))) (aN (aS 7 (iV gIx (kD (bi (vI (f2 (gI kL fun i j=>.int (i ^ j.toNat)) (fC (.int 10)) (fC (.int 8)))) (bi (vI (f2 (gI kL fun i j=>.int (i ^ j.toNat)) (fC (.int 10)) (fC (.int 40)))) iG))) (be 0 (fnM aq) (cP (fC (.int 2)) cD)))) (aS 5 (m7 (bi (be 0 (fnM aq) (cP (ae 7) cD)) (bi (bF 7) iG))))) cI)) (aN ((sIf (dh (fT (f2 dg (ae 3) (fC (.int 3)))) (fT (f2 cf (ae 2) (rQ ah)))) (aN (wo [8,6] (iV gIx (bF 2) (be 0 (fnM aq) (cP (ak dF (ac (ae 2) ah)) cD)))) (aS 5 (vI (cC (ac (f2 (gI (fun _ j=>0 < j) fun i j=>.int (i % j)) (ae 8) (ae 6)) (ac (ae 6) ah)))))) cI)) u)) [some (pu a b),some (.int g),some (.seq (hs.map fr)),some (.int kd),some (.int wh),some (fr (0,1)),none,none,none]=some r:=by
 have sh0:Sh (0,1):=⟨by decide,by decide,by decide⟩
 by_cases k1:kd=1
 . subst k1;obtain ⟨a1,b1,v,c1,P1,v0,v1⟩:=dW (i:=0) (f:=fC (.int 5)) (m:=5) (δ:=[some (pu a b),some (.int g),some (.seq (hs.map fr)),some (.int 1),some (.int wh),some (fr (0,1)),none,none,none]) rfl p rfl (by decide) cV
   obtain ⟨a2,b2,x,c2,P2,x0,x1⟩:=dW (i:=0) (f:=ae 6) (m:=2+v) (δ:=[some (pu a1 b1),some (.int g),some (.seq (hs.map fr)),some (.int 1),some (.int wh),some (fr (0,1)),some (.int (2+v)),none,none]) rfl P1 rfl (by omega) (cV (by omega))
   refine ⟨a2,b2,(x,2+v),some (.int (2+v)),none,none,P2,⟨x0,x1,by show 2+v<=10 ^ 40;omega⟩,fun r hr=>?_⟩
   refine ao (eV oO (ao (δ':=[some (pu a1 b1),some (.int g),some (.seq (hs.map fr)),some (.int 1),some (.int wh),some (fr (0,1)),some (.int (2+v)),none,none]) (aM (um (aW (d:=.int 2) rfl) c1 (d:=.int (2+v)) rfl rfl)) (aM (sG c2 (b:=.int (2+v)) rfl)))) (ao (bc (lD 2 (by decide)) rfl) (ao (bc (sM (by decide)) rfl) hr))
 by_cases k2:kd=2
 . subst k2;obtain ⟨a1,b1,v,c1,P1,v0,v1⟩:=dW (i:=0) (f:=fC (.int 2)) (m:=2) (δ:=[some (pu a b),some (.int g),some (.seq (hs.map fr)),some (.int 2),some (.int wh),some (fr (0,1)),none,none,none]) rfl p rfl (by decide) cV
   obtain ⟨far,ef,f0,f1⟩:∃ far,gIx (.lst [.int (10 ^ (8:Int).toNat),.int (10 ^ (40:Int).toNat)]) (.int v)=some (.int far)/\0 < far/\far<=10 ^ 40:=by
    rcases (show v=0 \/ v=1 by omega) with e | e
    . subst e;exact ⟨10 ^ (8:Int).toNat,rfl,by decide,by decide⟩
    . subst e;exact ⟨10 ^ (40:Int).toNat,rfl,by decide,by decide⟩
   obtain ⟨a2,b2,x,c2,P2,x0,x1⟩:=dW (i:=0) (f:=ae 7) (m:=far) (δ:=[some (pu a1 b1),some (.int g),some (.seq (hs.map fr)),some (.int 2),some (.int wh),some (fr (0,1)),none,some (.int far),none]) rfl P1 rfl f0 (DZ f0 f1);have bp1:kL 10 8:=⟨by decide,by decide,by decide⟩
   have bp2:kL 10 40:=⟨by decide,by decide,by decide⟩
   refine ⟨a2,b2,(x,far),none,some (.int far),none,P2,⟨x0,x1,f1⟩,fun r hr=>?_⟩
   refine ao (bc (lD 1 (by decide)) rfl) (ao (eV oO (ao (δ':=[some (pu a1 b1),some (.int g),some (.seq (hs.map fr)),some (.int 2),some (.int wh),some (fr (0,1)),none,some (.int far),none]) (aM (um (sI (aW (d:=.int (10 ^ (8:Int).toNat)) ?_) (aW (d:=.int (10 ^ (40:Int).toNat)) ?_)) c1 ef rfl)) (aM (sG c2 (b:=.int far) rfl)))) (ao (bc (sM (by decide)) rfl) hr))
   . simp only [fC,f2,Zc,aB (C:=kL) bp1]
   . simp only [fC,f2,Zc,aB (C:=kL) bp2]
 by_cases k3:kd=3/\hs ≠ []
 . obtain ⟨k3,hn⟩:=k3;subst k3;have hl0:0 < hs.length:=List.length_pos_iff.mpr hn;obtain ⟨a1,b1,v,c1,P1,v0,v1⟩:=dW (i:=0) (f:=ak dF (ac (ae 2) ah)) (m:=(hs.length:Int)) (δ:=[some (pu a b),some (.int g),some (.seq (hs.map fr)),some (.int 3),some (.int wh),some (fr (0,1)),none,none,none]) rfl p (by show some (D.int ((hs.map fr).length:Nat))=_;rw [Zg]) (by omega) (cV (by omega))
   have vl:v.toNat < hs.length:=by omega
   have tq:=hk hs[v.toNat] (List.getElem_mem vl);have ix:gIx (.seq (hs.map fr)) (.int v)=some (fr hs[v.toNat]):=by
    show L2.atI (hs.map fr) v=_;have ev:v=((v.toNat:Nat):Int):=by omega
    have h3:=atI_nat (xs:=hs.map fr) (j:=v.toNat) (v:=fr hs[v.toNat]) (by rw [ZD,Zp vl];rfl)
    rw [<- ev] at h3;exact h3
   have p0:=tq.lw.pos;have hc:dh (fT (f2 dg (ae 3) (fC (.int 3)))) (fT (f2 cf (ae 2) (rQ ah))) [some (pu a b),some (.int g),some (.seq (hs.map fr)),some (.int 3),some (.int wh),some (fr (0,1)),none,none,none]=some true:=by
    unfold dh;rw [oO];cases hs with
    | nil=>exact absurd rfl hn
    | cons q qs=>rfl
   have mm:gI (fun _ j=>0 < j) (fun i j=>D.int (i % j)) (.int hs[v.toNat].1) (.int hs[v.toNat].2)=some (.int (hs[v.toNat].1 % hs[v.toNat].2)):=aB (C:=fun _ j=>0 < j) p0
   refine ⟨a1,b1,bp hs[v.toNat],some (.int hs[v.toNat].2),none,some (.int hs[v.toNat].1),P1,⟨Int.emod_nonneg _ (by omega),Int.emod_lt_of_pos _ p0,tq.le⟩,fun r hr=>?_⟩
   refine ao (bc (lD 1 (by decide)) rfl) (ao (bc (lD 2 (by decide)) rfl) (ao (eV hc (ao (δ':=[some (pu a1 b1),some (.int g),some (.seq (hs.map fr)),some (.int 3),some (.int wh),some (fr (0,1)),some (.int hs[v.toNat].2),none,some (.int hs[v.toNat].1)]) (Er (um (a:=.seq (hs.map fr)) rfl c1 ix rfl) rfl rfl) (aM (aW (d:=fr (bp hs[v.toNat])) ?_)))) hr))
   simp only [ae,f2,ah,ac,cC,Zc,Zd,Ze,mm];rfl
 . refine ⟨a,b,(0,1),none,none,none,p,sh0,fun r hr=>?_⟩
   refine ao (bc (lD 1 k1) rfl) (ao (bc (lD 2 k2) rfl) (ao (bc ?_ rfl) hr))
   by_cases e3:kd=3
   . subst e3;have:hs=[]:=by
      by_cases e:hs=[]
      . exact e
      . exact absurd ⟨rfl,e⟩ k3
     subst this;unfold dh;rw [oO];rfl
   . exact sM e3
theorem Cs {a b g:Int} {d0:D} {hs:List (Int×Int)} (p:Pu a b) (hg:Gr g) (h:sh d0=.seq (hs.map fr)) (k:∀ q∈hs,Tm q) (l:hs.length<=4):∃ a' b' q,fnM bH [pu a b,.int g,d0]=some (pu a' b',fr q)/\Pu a' b'/\Tm q:=by
 have e0:cy 9 (pu a b) [.int g,d0]=[some (pu a b),some (.int g),some (.seq (hs.map fr)),none,none,none,none,none,none]:=by
  show [some (pu a b),some (sh (.int g)),some (sh d0),none,none,none,none,none,none]=_;rw [h];rfl
 obtain ⟨a1,b1,kd,c1,P1,k0,k1⟩:=dW (i:=0) (f:=fC (.int 4)) (m:=4) (δ:=[some (pu a b),some (.int g),some (.seq (hs.map fr)),none,none,none,none,none,none]) rfl p rfl (by decide) cV
 have hg0:=hg.1;have hg1:=hg.2;obtain ⟨a2,b2,wh,c2,P2,w0,w1⟩:=dW (i:=0) (f:=f2 jd (ae 1) (fC (.int 2))) (m:=g+2) (δ:=[some (pu a1 b1),some (.int g),some (.seq (hs.map fr)),some (.int kd),none,none,none,none,none]) rfl P1 rfl (by omega) (cV (by omega))
 obtain ⟨a3,b3,s,o6,o7,o8,P3,S3,fin⟩:=xx (g:=g) (kd:=kd) (wh:=wh) (u:=((jC (vI (ak (fn ba) (ac (f2 jd (f2 (gI aG fun i j=>.int (i*j)) (ae 4) (f2 gIx (ae 5) (fC (.int 1)))) (f2 gIx (ae 5) (fC (.int 0)))) (ac (f2 gIx (ae 5) (fC (.int 1))) ah))))))) P2 k l
 refine ⟨a3,b3,_,rY ?_,P3,Cq w0 (by omega) S3.t0 S3.t1 S3.le⟩
 rw [e0];exact ao (aM c1) (ao (aM c2) (ao (δ':=[some (pu a2 b2),some (.int g),some (.seq (hs.map fr)),some (.int kd),some (.int wh),some (fr (0,1)),none,none,none]) (aM (aW (d:=fr (0,1)) rfl)) (fin _ (Cr w0 (by omega) S3))))
def tsR:SD:=((aN (aS 2 (kD iG)) (aN (gQ (iK (iX 1)) 3 (jY 2 (be 0 (fnM bH) (cP (ae 3) (uh 0 2 cD))))) (jC (bF 2)))))
def cQ (ds:List D) (p:D×D):Prop:=∃ d0 es,ds=d0 :: es/\tsR (cy 4 d0 es)=some (.rt (.tup [p.2,p.1]))
theorem qc {d0 p r:D} {es:List D} (h:tsR (cy 4 d0 es)=some (.rt (.tup [r,p]))):fnM cQ (d0 :: es)=some (p,r):=pX (tt h) ⟨d0,es,rfl,h⟩
theorem uw {u:Option D}:∀ (ms:List Int) (hs:List (Int×Int)) (a b:Int) (o:Option D),Pu a b->(∀ m∈ms,Gr m)->(∀ q∈hs,Tm q)->hs.length+ms.length<=4->∃ (a' b':Int) (qs:List (Int×Int)) (o':Option D),Dl.forM 3 ((jY 2 (be 0 (fnM bH) (cP (ae 3) (uh 0 2 cD))))) (ms.map D.int) [some (pu a b),u,some (.lst (hs.map fr)),o]=some (.nx [some (pu a' b'),u,some (.lst (qs.map fr)),o'])/\Pu a' b'/\(∀ q∈qs,Tm q)/\qs.length=hs.length+ms.length
 | [],hs,a,b,o,p,_,h,_=>⟨a,b,hs,o,rfl,p,h,rfl⟩
 | m :: ms,hs,a,b,o,p,g,h,l=>by
  simp only [Zh] at l;obtain ⟨a1,b1,q,e1,P1,tq⟩:=Cs (d0:=.lst (hs.map fr)) p (g m Zi) (lG hs) h (by omega)
  have hb:((jY 2 (be 0 (fnM bH) (cP (ae 3) (uh 0 2 cD))))) [some (pu a b),u,some (.lst (hs.map fr)),some (.int m)]=some (.nx [some (pu a1 b1),u,some (.lst ((hs++[q]).map fr)),some (.int m)]):=by
   rw [List.map_append];exact sO (xs:=hs.map fr) (ds:=hs.map fr) (δ':=[some (pu a1 b1),u,some (.lst (hs.map fr)),some (.int m)]) rfl (d:=fr q) (oK (d0:=pu a b) (es:=[.int m,.lst (hs.map fr)]) rfl rfl e1 rfl rfl) rfl (by rw [Zg];omega)
  obtain ⟨a2,b2,qs,o',ih,P2,tqs,lq⟩:=uw (u:=u) ms (hs++[q]) a1 b1 (some (.int m)) P1 (fun x hx=>g x (Zj _ hx)) (fun x hx=>by
   rcases Zm.mp hx with z | z
   . exact h x z
   . rw [Zk.mp z];exact tq) (by simp;omega)
  refine ⟨a2,b2,qs,o',?_,P2,tqs,by rw [lq];simp;omega⟩
  show ((((jY 2 (be 0 (fnM bH) (cP (ae 3) (uh 0 2 cD))))) [some (pu a b),u,some (.lst (hs.map fr)),some (.int m)]).bind _)=_;rw [hb];exact ih
theorem Ak {a b:Int} {d0:D} {ms:List Int} (p:Pu a b) (h:sh d0=.seq (ms.map D.int)) (g:∀ m∈ms,Gr m) (l:ms.length<=4):∃ (a' b':Int) (qs:List (Int×Int)),fnM cQ [pu a b,d0]=some (pu a' b',.lst (qs.map fr))/\Pu a' b'/\(∀ q∈qs,Tm q)/\qs.length=ms.length:=by
 have e0:cy 4 (pu a b) [d0]=[some (pu a b),some (.seq (ms.map D.int)),none,none]:=by
  show [some (pu a b),some (sh d0),none,none]=_;rw [h]
 obtain ⟨a',b',qs,o',w,P,tq,lq⟩:=uw (u:=some (.seq (ms.map D.int))) ms [] a b none p g (fun x z=>by cases z) (by simpa using l)
 refine ⟨a',b',qs,qc ?_,P,tq,by simpa using lq⟩
 rw [e0];exact ao (δ':=[some (pu a b),some (.seq (ms.map D.int)),some (.lst []),none]) rfl (ao (iZ (oQ (d:=.seq (ms.map D.int)) rfl (i0 ms) (i0 ms)) w) (jq (sH rfl) rfl))
def nuR:SD:=((jC (qx 0 (lA (be 0 (fnM aq) (cP (fC (.int 5)) cD))) (iV gIx (kD (bi (be 1 (fnM aq) (cP (fC (.int 4)) cD)) (bi (be 1 (fnM aq) (cP (fC (.int 61)) cD)) iG))) (be 1 (fnM aq) (cP (fC (.int 2)) cD))))))
def bV (ds:List D) (p:D×D):Prop:=∃ d0 es,ds=d0 :: es/\nuR (cy 1 d0 es)=some (.rt (.tup [p.2,p.1]))
theorem mP {d0 p r:D} {es:List D} (h:nuR (cy 1 d0 es)=some (.rt (.tup [r,p]))):fnM bV (d0 :: es)=some (p,r):=pX (tt h) ⟨d0,es,rfl,h⟩
def nuE:FM:=iV gIx (kD (bi (be 1 (fnM aq) (cP (fC (.int 4)) cD)) (bi (be 1 (fnM aq) (cP (fC (.int 61)) cD)) iG))) (be 1 (fnM aq) (cP (fC (.int 2)) cD))
theorem uX:∀ (ks:List Int) (a b:Int),Pu a b->∃ (a' b':Int) (ms:List Int),n8 nuE (ks.map D.int) (pu a b)=some (ms.map D.int,pu a' b')/\Pu a' b'/\(∀ m∈ms,Gr m)/\ms.length=ks.length
 | [],a,b,p=>⟨a,b,[],rfl,p,(fun _ z=>by cases z),rfl⟩
 | k :: ks,a,b,p=>by
  obtain ⟨a1,b1,v1,c1,P1,x0,x1⟩:=dW (i:=1) (f:=fC (.int 4)) (m:=4) (δ:=[some (.int k),some (pu a b)]) rfl p rfl (by decide) cV
  obtain ⟨a2,b2,v2,c2,P2,y0,y1⟩:=dW (i:=1) (f:=fC (.int 61)) (m:=61) (δ:=[some (.int k),some (pu a1 b1)]) rfl P1 rfl (by decide) cV
  obtain ⟨a3,b3,v3,c3,P3,z0,z1⟩:=dW (i:=1) (f:=fC (.int 2)) (m:=2) (δ:=[some (.int k),some (pu a2 b2)]) rfl P2 rfl (by decide) cV
  obtain ⟨m,em,gm⟩:∃ m,gIx (.lst [.int v1,.int v2]) (.int v3)=some (.int m)/\Gr m:=by
   rcases (show v3=0 \/ v3=1 by omega) with e | e
   . subst e;exact ⟨v1,rfl,by omega,by omega⟩
   . subst e;exact ⟨v2,rfl,by omega,by omega⟩
  obtain ⟨a4,b4,ms,ih,P4,gs,lm⟩:=uX ks a3 b3 P3;have e1:nuE [some (.int k),some (pu a b)]=some (.int m,[some (.int k),some (pu a3 b3)]):=um (sI c1 c2) c3 em rfl;refine ⟨a4,b4,m :: ms,?_,P4,fun x hx=>?_,by simp [lm]⟩
  . show ((nuE [some (.int k),some (pu a b)]).bind _)=_;rw [e1];show ((n8 nuE (ks.map D.int) (pu a3 b3)).bind _)=_;rw [ih];rfl
  . rcases Zn.mp hx with z | z
    . rw [z];exact gm
    . exact gs x z
theorem wd {a b:Int} (p:Pu a b):∃ (a' b':Int) (ms:List Int),fnM bV [pu a b]=some (pu a' b',.lst (ms.map D.int))/\Pu a' b'/\(∀ m∈ms,Gr m)/\ms.length<=4:=by
 obtain ⟨a1,b1,n,c1,P1,n0,n1⟩:=dW (i:=0) (f:=fC (.int 5)) (m:=5) (δ:=[some (pu a b)]) rfl p rfl (by decide) cV
 have rg:cJ 0 n 1=((List.range n.toNat).map fun i:Nat=>(i:Int)).map D.int:=by
  unfold cJ;rw [List.map_map];have:((n - 0+1 - 1) / 1).toNat=n.toNat:=by congr 1;omega
  rw [this];refine List.map_congr_left fun i _=>?_
  show D.int (0+(i:Int)*1)=D.int (i:Int)
  congr 1
  omega
 obtain ⟨a2,b2,ms,lw,P2,gs,lm⟩:=uX ((List.range n.toNat).map fun i:Nat=>(i:Int)) a1 b1 P1
 rw [Zg,List.length_range] at lm;refine ⟨a2,b2,ms,mP ?_,P2,gs,by omega⟩
 have e0:cy 1 (pu a b) []=[some (pu a b)]:=rfl;rw [e0];refine jq (d:=.lst (ms.map D.int)) (δ':=[some (pu a2 b2)]) ?_ rfl;show qx 0 (lA (be 0 (fnM aq) (cP (fC (.int 5)) cD))) nuE [some (pu a b)]=_;unfold qx lA;rw [c1];dsimp only [Option.bind_some];rw [if_pos (show -(2 ^ 62)<=n/\n < 2 ^ 62 by omega),rg]
 show ((n8 nuE _ (pu a1 b1)).bind _)=_;rw [lw];dsimp only [Option.bind_some];rw [if_pos ⟨by rw [Zg,Zg,List.length_range];omega,fI _,rfl⟩]
 rfl
def Hs (d:D) (qs:List (Int×Int)):Prop:=sh d=.tup (qs.map fr) \/ sh d=.seq (qs.map fr)
theorem Hs.inj {d:D} {qs rs:List (Int×Int)} (h:Hs d qs) (g:Hs d rs):qs=rs:=by
 rcases h with h | h <;> rcases g with g | g <;> rw [h] at g
 . injection g with g;exact aU g
 . cases g
 . cases g
 . injection g with g;exact aU g
theorem Hs.it {d:D} {qs:List (Int×Int)} (h:Hs d qs):cM (sh d)=some (qs.map fr):=by
 rcases h with h | h <;> rw [h] <;> rfl
def gz (ds:List D) (d:D):Prop:=∃ (d0 d1:D) (ms:List Int) (qs:List (Int×Int)),sh d0=.seq (ms.map D.int)/\Hs d1 qs/\Dr ms qs/\ds=[d0,d1]/\d=.lst ((wi ms qs).map fr)
theorem qe {d0 d1:D} {ms:List Int} {qs:List (Int×Int)} (h:sh d0=.seq (ms.map D.int)) (g:Hs d1 qs) (k:Dr ms qs):fn gz [d0,d1]=some (.lst ((wi ms qs).map fr)):=bv (fun d' h'=>by
 obtain ⟨e0,e1,ns,rs,h1,g1,_,h2,rfl⟩:=h';cases h2;rw [h] at h1;injection h1 with h1
 rw [g.inj g1,dd h1]) ⟨d0,d1,ms,qs,h,g,k,rfl,rfl⟩
theorem vJ (n:Nat):∀ (cs:List Int),eqL (eqN (n+1)) (cs.map D.int) (cs.map D.int)=some true
 | []=>rfl
 | c :: cs=>by
  show (((some (c == c)):Option Bool).bind fun x=>(eqL (eqN (n+1)) (cs.map D.int) (cs.map D.int)).bind fun y=>some (x && y))=_
  rw [vJ n cs];simp
theorem DK {src:FA} {js:List Nat} {felt:FD} {δ:DS} {ds xs:List D} (h:src δ=some ds) (k:nv (fun d=>felt (some d :: aX js δ)) ds=some xs) (l:xs.length<=1000):kA src js felt δ=some (.lst xs):=by
 unfold kA;rw [h];dsimp only [Option.bind_some];rw [k];exact if_pos l
theorem gj {G:List D->Option D} {f:FD} {δ:DS} {a d:D} (h:f δ=some a) (g:G [a]=some d):ak G (ac f ah) δ=some d:=by
 unfold ak ac ah;rw [h];exact g
theorem Bb (m:Int) (q:Int×Int):decide (q.1<=m*q.2) = !past m q:=by
 unfold past
 by_cases h:m*q.2 < q.1
 . rw [Zw h,Zv (by omega)];rfl
 . rw [Zv h,Zw (by omega)];rfl
theorem E7 {m:Int} (h:Gr m):Bd m:=cV (by have:=h.1;have:=h.2;omega)
theorem xy {q:Int×Int} (h:Tw q):Bd q.2:=zZ (k:=500) (by show q.2.natAbs < 2 ^ 500;have:=h.lw.pos;have:=h.le;omega)
theorem lF:∀ (ns:List Int),(∀ n∈ns,0<=n/\n<=4)->eC (ns.map D.int)=some (ns.map Int.toNat)
 | [],_=>rfl
 | n :: ns,h=>by
  show (if 0<=n/\n<=4 then (eC (ns.map D.int)).bind fun ms=>some (n.toNat :: ms) else none)=_
  rw [if_pos (h n Zi),lF ns fun x m=>h x (Zj _ m)]
  rfl
theorem wg {ns:List Int} (h:∀ n∈ns,0<=n/\n<=4):wj (ns.map Int.toNat)=(fu ns).map D.int:=by
 unfold wj fu;have e:([0,1,2,3,4]:List Int)=(List.range 5).map fun (k:Nat)=>(k:Int):=rfl
 rw [e,List.filter_map,List.map_map];have f:(List.range 5).filter (fun k=>decide (k∈ns.map Int.toNat))=(List.range 5).filter ((fun k=>decide (k∈ns)) ∘ fun k=>((k:Nat):Int)):=by
  apply List.filter_congr
  intro k _;have:k∈ns.map Int.toNat <-> (k:Int)∈ns:=by
   constructor
   . intro m;obtain ⟨n,hn,e⟩:=Zl.mp m;have:=h n hn;rw [show (k:Int)=n by omega]
     exact hn
   . intro m;exact Zl.mpr ⟨(k:Int),m,by omega⟩
  simp only [Function.comp,this]
 rw [f];rfl
theorem Ah {f:FM} {δ δ':DS} {ns:List Int} (h:f δ=some (.lst (ns.map D.int),δ')) (k:∀ n∈ns,0<=n/\n<=4):oM f δ=some (.lst ((fu ns).map D.int),δ'):=by
 unfold oM;rw [h];show ((eC (ns.map D.int)).bind fun ms=>some (D.lst (wj ms),δ'))=_
 rw [lF ns k];show some (D.lst (wj (ns.map Int.toNat)),δ')=_;rw [wg k]
theorem Cn {fa fb:FM} {δ δ1 δ2:DS} {xs ys:List D} (h:fa δ=some (.lst xs,δ1)) (k:fb δ1=some (.lst ys,δ2)) (l:xs.length+ys.length<=1000):ur fa fb δ=some (.lst (xs++ys),δ2):=by
 unfold ur;rw [h];dsimp only [Option.bind_some];rw [k];exact if_pos l
theorem gU {α:Type} {f:D->Option (Option D)} {g h:α->D}:∀ (xs:List α),(∀ x∈xs,f (g x)=some (some (h x)))->dR f (xs.map g)=some (xs.map h)
 | [],_=>rfl
 | x :: xs,e=>by
  show ((f (g x)).bind _)=_;rw [e x Zi];dsimp only [Option.bind_some];rw [gU xs fun y m=>e y (Zj _ m)]
  rfl
structure Cb (cs:List (Int×Int)):Prop where
 bd:∀ c∈cs,(0<=c.1/\c.1<=61)/\0<=c.2/\c.2<=4
 le:cs.length<=4
def gu (ds:List D) (d:D):Prop:=∃ (d0:D) (cs:List (Int×Int)),cM (sh d0)=some (cs.map fr)/\Cb cs/\ds=[d0]/\d=.lst ((fu (0 :: cs.map (·.2))).map D.int)
theorem mM {d0:D} {cs:List (Int×Int)} (h:cM (sh d0)=some (cs.map fr)) (k:Cb cs):fn gu [d0]=some (.lst ((fu (0 :: cs.map (·.2))).map D.int)):=bv (fun d' h'=>by
 obtain ⟨d1,rs,h1,_,h2,rfl⟩:=h';cases h2;rw [h] at h1;injection h1 with h1
 rw [aU h1]) ⟨d0,cs,h,k,rfl,rfl⟩
def aT (ds:List D) (d:D):Prop:=∃ (g s:Int) (c:Int×Int),ds=[.int g,fr c,.int s]/\d=fr (pbm s g c)
theorem gJ {g s:Int} {c:Int×Int}:fn aT [.int g,fr c,.int s]=some (fr (pbm s g c)):=bv (fun d' h'=>by
 obtain ⟨g',s',⟨a,b⟩,h2,rfl⟩:=h';obtain ⟨x,y⟩:=c;cases h2;rfl) ⟨g,s,c,rfl,rfl⟩
def dG (ds:List D) (d:D):Prop:=∃ (d0:D) (ms:List Int) (cs:List (Int×Int)),sh d0=.seq (ms.map D.int)/\cs.length<=4/\ds=[d0,.tup (cs.map fr)]/\d=.tup ((bmo ms cs).map fr)
theorem kJ {d0:D} {ms:List Int} {cs:List (Int×Int)} (h:sh d0=.seq (ms.map D.int)) (k:cs.length<=4):fn dG [d0,.tup (cs.map fr)]=some (.tup ((bmo ms cs).map fr)):=bv (fun d' h'=>by
 obtain ⟨d1,ns,rs,h1,_,h2,rfl⟩:=h';injection h2 with h3 h4
 injection h4 with h4
 injection h4 with h4
 subst h3;rw [h] at h1;injection h1 with h1
 rw [aU h4,dd h1]) ⟨d0,ms,cs,h,k,rfl,rfl⟩
def nxD (o:Option (List (Int×Int))):D:=o.elim .non fun cs=>.tup (cs.map fr)
theorem yB (o:Option (List (Int×Int))):own (nxD o)=true:=by
 cases o with
 | none=>rfl
 | some cs=>exact ce cs
def eT (ds:List D) (d:D):Prop:=∃ (d0:D) (ms:List Int) (cs:List (Int×Int)),sh d0=.seq (ms.map D.int)/\Cb cs/\ds=[d0,.tup (cs.map fr)]/\d=nxD (nxt ms cs)
theorem rW {d0:D} {ms:List Int} {cs:List (Int×Int)} (h:sh d0=.seq (ms.map D.int)) (k:Cb cs):fn eT [d0,.tup (cs.map fr)]=some (nxD (nxt ms cs)):=bv (fun d' h'=>by
 obtain ⟨d1,ns,rs,h1,_,h2,rfl⟩:=h';injection h2 with h3 h4
 injection h4 with h4
 injection h4 with h4
 subst h3;rw [h] at h1;injection h1 with h1
 rw [aU h4,dd h1]) ⟨d0,ms,cs,h,k,rfl,rfl⟩
def aZ (ds:List D) (d:D):Prop:=∃ p w:Int×Int,Fk p/\Fk w/\ds=[fr p,fr w]/\d=fr (pl p w)
theorem je {p w:Int×Int} (h:Fk p) (k:Fk w):fn aZ [fr p,fr w]=some (fr (pl p w)):=bv (fun d' h'=>by
 obtain ⟨⟨a,b⟩,⟨c,e⟩,_,_,h2,rfl⟩:=h';obtain ⟨x,y⟩:=p;obtain ⟨u,v⟩:=w;cases h2;rfl) ⟨p,w,h,k,rfl,rfl⟩
def lvL:List Int->List (Int×Int)->List Bool
 | m :: ms,c :: cs=>(decide (c.2=0) && decide (c.1 < m)) :: lvL ms cs
 | _,_=>[]
theorem vc:∀ (ms:List Int) (cs:List (Int×Int)),(lvL ms cs).any id=lvg ms cs
 | [],_=>rfl
 | _ :: _,[]=>rfl
 | m :: ms,c :: cs=>by
  show (_ || (lvL ms cs).any id)=(_ || lvg ms cs)
  rw [vc ms cs];rfl
theorem vb:∀ (ms:List Int) (cs:List (Int×Int)),(lvL ms cs).length<=cs.length
 | [],_=>Nat.zero_le _
 | _ :: _,[]=>Nat.zero_le _
 | m :: ms,c :: cs=>Nat.succ_le_succ (vb ms cs)
theorem u7 {f:D->Option (Option D)}:∀ (ms:List Int) (cs:List (Int×Int)),(∀ m∈ms,∀ c∈cs,f (.tup [.int m,fr c])=some (some (.bl (decide (c.2=0) && decide (c.1 < m)))))->dR f (List.zipWith (fun d e=>D.tup [d,e]) (ms.map D.int) (cs.map fr))=some ((lvL ms cs).map D.bl)
 | [],cs,_=>rfl
 | m :: ms,[],_=>rfl
 | m :: ms,c :: cs,h=>by
  show ((f (.tup [.int m,fr c])).bind _)=_;rw [h m Zi c Zi];dsimp only [Option.bind_some];rw [u7 ms cs fun x hx y hy=>h x (Zj _ hx) y (Zj _ hy)]
  rfl
theorem u6 {f:D->Option (Option D)} {s:Int}:∀ (ms:List Int) (cs:List (Int×Int)),(∀ m∈ms,∀ c∈cs,f (.tup [.int m,fr c])=some (some (fr (pbm s m c))))->dR f (List.zipWith (fun d e=>D.tup [d,e]) (ms.map D.int) (cs.map fr))=some ((zbm s ms cs).map fr)
 | [],cs,_=>rfl
 | m :: ms,[],_=>rfl
 | m :: ms,c :: cs,h=>by
  show ((f (.tup [.int m,fr c])).bind _)=_;rw [h m Zi c Zi];dsimp only [Option.bind_some];rw [u6 ms cs fun x hx y hy=>h x (Zj _ hx) y (Zj _ hy)]
  rfl
theorem ul {s:Int}:∀ (ms:List Int) (cs:List (Int×Int)),(zbm s ms cs).length<=cs.length
 | [],_=>Nat.zero_le _
 | _ :: _,[]=>Nat.zero_le _
 | m :: ms,c :: cs=>Nat.succ_le_succ (ul ms cs)
def tpD (c:List Int):D:=.tup (c.map D.int)
theorem BM (c:List Int):sh (tpD c)=tpD c:=by unfold tpD;rw [sh,ju]
theorem sR:∀ (xs:List (List Int)),shs (xs.map tpD)=xs.map tpD
 | []=>rfl
 | x :: xs=>by show sh (tpD x) :: shs (xs.map tpD)=_;rw [sR xs,BM];rfl
theorem vo:∀ (xs:List (List Int)),cT (xs.map tpD)=true
 | []=>rfl
 | x :: xs=>by show (imm (tpD x) && cT (xs.map tpD))=true;rw [vo xs,show imm (tpD x)=true from fI x];rfl
theorem pC:∀ (xs:List (List Int)),gH (xs.map tpD)=true
 | []=>rfl
 | x :: xs=>by show (own (tpD x) && gH (xs.map tpD))=true;rw [pC xs,show own (tpD x)=true from cZ x];rfl
theorem sS (xs:List (List Int)):sh (.lst (xs.map tpD))=.seq (xs.map tpD):=by rw [sh,sR]
theorem jV (xs:List (List Int)):sh (.seq (xs.map tpD))=.seq (xs.map tpD):=by rw [sh,sR]
theorem xv {x:List Int} {k:Nat} (h:k < x.length):gIx (tpD x) (.int (k:Int))=some (.int (x.getD k 0)):=by
 show L2.atI (x.map D.int) (k:Int)=_;refine L2.atI_nat ?_;rw [ZD,Zp h,Zo,Zp h];rfl
def jS (ds:List D) (d:D):Prop:=∃ (cs:List (Int×Int)) (L:Int),cs.length<=4/\ds=[.tup (cs.map fr),.int L]/\d=tpD (cor L cs)
theorem zL {cs:List (Int×Int)} {L:Int} (h:cs.length<=4):fn jS [.tup (cs.map fr),.int L]=some (tpD (cor L cs)):=bv (fun d' h'=>by
 obtain ⟨rs,L',_,h2,rfl⟩:=h';injection h2 with h3 h4
 injection h4 with h4
 injection h4 with h4
 injection h3 with h3
 rw [aU h3,h4]) ⟨cs,L,h,rfl,rfl⟩
def dU (ds:List D) (d:D):Prop:=∃ (cs:List (Int×Int)),Cb cs/\ds=[.tup (cs.map fr)]/\d=.lst ((cnr cs).map tpD)
theorem ou {cs:List (Int×Int)} (h:Cb cs):fn dU [.tup (cs.map fr)]=some (.lst ((cnr cs).map tpD)):=bv (fun d' h'=>by
 obtain ⟨rs,_,h2,rfl⟩:=h';injection h2 with h3 h4
 injection h3 with h3
 rw [aU h3]) ⟨cs,h,rfl,rfl⟩
structure Dn (ms:List Int) (qs:List (Int×Int)):Prop where
 gr:∀ m∈ms,Gr m
 tm:∀ q∈qs,Tm q
 le:qs.length<=4
 eq:ms.length=qs.length
theorem Dn.dr {ms:List Int} {qs:List (Int×Int)} (h:Dn ms qs):Dr ms qs:=⟨h.gr,fun q m=>(h.tm q m).w,h.le⟩
def db (ds:List D) (d:D):Prop:=∃ (d0 d1:D) (ms:List Int) (qs:List (Int×Int)),sh d0=.seq (ms.map D.int)/\sh d1=.seq (qs.map fr)/\Dn ms qs/\ds=[d0,d1]/\d=.lst ((shr (brk (wi ms qs))).map fr)
theorem nB {d0 d1:D} {ms:List Int} {qs:List (Int×Int)} (h:sh d0=.seq (ms.map D.int)) (g:sh d1=.seq (qs.map fr)) (k:Dn ms qs):fn db [d0,d1]=some (.lst ((shr (brk (wi ms qs))).map fr)):=bv (fun d' h'=>by
 obtain ⟨e0,e1,ns,rs,h1,g1,_,h2,rfl⟩:=h';cases h2;rw [h] at h1;rw [g] at g1;injection h1 with h1
 injection g1 with g1
 rw [aU g1,dd h1]) ⟨d0,d1,ms,qs,h,g,k,rfl,rfl⟩
structure Ad (ms:List Int) (qs ss:List (Int×Int)) (xs:List (List Int)):Prop where
 dn:Dn ms qs
 sf:∀ s∈ss,Fr 300 s
 le:ss.length<=5
 xl:∀ x∈xs,x.length=qs.length
 xb:∀ x∈xs,∀ i∈x,0<=i/\i<=63
 is:∀ (k:Nat) (m:Int) (q:Int×Int),ms[k]? = some m->qs[k]? = some q->mnF (0,1) ss (xs.map fun x=>x.getD k 0)=due m q
def cR (ds:List D) (d:D):Prop:=∃ (ms:List Int) (qs ss:List (Int×Int)) (xs:List (List Int)),Ad ms qs ss xs/\ds=[.lst (ms.map D.int),.lst (qs.map fr),.lst (ss.map fr),.lst (xs.map tpD)]/\d=.bl true
theorem mQ {ms:List Int} {qs ss:List (Int×Int)} {xs:List (List Int)} (h:Ad ms qs ss xs):fn cR [.lst (ms.map D.int),.lst (qs.map fr),.lst (ss.map fr),.lst (xs.map tpD)]=some (.bl true):=bv (fun d' h'=>by
 obtain ⟨_,_,_,_,_,_,rfl⟩:=h';rfl) ⟨ms,qs,ss,xs,h,rfl,rfl⟩
structure xj (f:Nat) (ms:List Int) (cs ct:List (Int×Int)) (xs ys:List (List Int)):Prop where
 l1:cs.length=ms.length
 l2:ct.length=ms.length
 l4:ms.length<=4
 fi:f=if mom ms cs then 0 else 1
 x5:xs.length<=5
 le:xs.length<=ys.length+f
 xl:∀ x∈xs,x.length=ms.length
 yl:∀ y∈ys,y.length=ms.length
 ok:∀ (c k:Nat),f<=c->c < xs.length->k < ms.length->(ct.getD k (0,0)).1<=ms.getD k 0->(xs.getD c []).getD k 0=(ys.getD (c - f) []).getD k 0
def cS (ds:List D) (d:D):Prop:=∃ (f:Nat) (ms:List Int) (cs ct:List (Int×Int)) (xs ys:List (List Int)),xj f ms cs ct xs ys/\ds=[.lst (ms.map D.int),.tup (cs.map fr),.tup (ct.map fr),.lst (xs.map tpD),.lst (ys.map tpD)]/\d=.bl true
theorem qf {f:Nat} {ms:List Int} {cs ct:List (Int×Int)} {xs ys:List (List Int)} (h:xj f ms cs ct xs ys):fn cS [.lst (ms.map D.int),.tup (cs.map fr),.tup (ct.map fr),.lst (xs.map tpD),.lst (ys.map tpD)]=some (.bl true):=bv (fun d' h'=>by
 obtain ⟨_,_,_,_,_,_,_,_,rfl⟩:=h';rfl) ⟨f,ms,cs,ct,xs,ys,h,rfl,rfl⟩
theorem Eb {ns:List Int} {o:List (Option D)} (hl:ns.length<=63) (a b:Int):∃ ms:List Int,iK (xp (rQ (ac (fC (.int 0)) ah)) (fSl (ae 0) (faS (fC (.int a))) (faS (fC (.int b))))) (some (.seq (ns.map D.int)) :: o)=some (ms.map D.int,some (.seq (ns.map D.int)) :: o):=by
 obtain ⟨ms,e⟩:=w4 ns (some a) (some b);refine ⟨0 :: ms,?_⟩;have s1:fSl (ae 0) (faS (fC (.int a))) (faS (fC (.int b))) (some (.seq (ns.map D.int)) :: o)=some (.lst (ms.map D.int)):=by
  rw [<- e];rfl
 have s2:xp (rQ (ac (fC (.int 0)) ah)) (fSl (ae 0) (faS (fC (.int a))) (faS (fC (.int b)))) (some (.seq (ns.map D.int)) :: o)=some (.lst ((0 :: ms).map D.int),some (.seq (ns.map D.int)) :: o):=by
  have lm:ms.length<=63:=by
   have:(Dl.cutD (ns.map D.int) (some a) (some b)).length<=(ns.map D.int).length:=by
    unfold Dl.cutD;rw [List.length_take,List.length_drop];omega
   rw [e,Zg,Zg] at this;omega
  have g:wT (.lst [.int 0]) (.lst (ms.map D.int))=some (.lst ((0 :: ms).map D.int)):=if_pos (by rw [Zg];simp;omega)
  unfold xp f2;rw [s1];show ((wT (.lst [.int 0]) (.lst (ms.map D.int))).bind _)=_;rw [g];exact if_pos (fI (0 :: ms))
 unfold iK;rw [s2];dsimp only [Option.bind_some];rw [gN]
theorem FG (x:Int):x % 2=0 \/ x % 2=1:=by omega
structure FK (K:Zr) (x:Str) (st:Stmt) (f:Addr):Prop where
 ns:PySem.W.nsIn K mainGlobals x=some (some (.ref f))
 ex:∃ (oc:Value) (od:Option Addr) (kV doc pm:Value) (an:Option Addr) (cdv ct:Value) (osl:Array (Option Value)),K.lookup f=some ⟨oc,od,.func (PySem.W.fnOf x x (bK st) (aV st) (aj st) .none kV doc pm an cdv ct),osl⟩/\PySem.W.codeIn K cdv x=true
 kp:PySem.W.keepIn K (.ref f)=true
theorem FK.get {K:Zr} {x:Str} {st:Stmt} {f:Addr} {ps:List Str} (h:FK K x st f) (b:∀ (kV doc pm:Value) (an:Option Addr) (cdv ct:Value) (us:List Value),us.length=ps.length->bindArgs (PySem.W.fnOf x x (bK st) (aV st) (aj st) .none kV doc pm an cdv ct) ⟨us,[]⟩=pure (ps.zip us)):∃ fd,Fun K x x st f fd/\Binds K fd ps []:=by
 obtain ⟨oc,od,kV,doc,pm,an,cdv,ct,osl,l,c⟩:=h.ex;have F:=zt (st:=st) l c h.kp;exact ⟨_,F,F.binds b⟩
theorem FK.of2 {K:Zr} {x:Str} {st:Stmt} {f:Addr} (e:Hd.fv K x f=Hd.fe x st .none f):FK K x st f:=⟨(Hd.fv_inv e).1,(Hd.fv_inv e).2.2,(Hd.fv_inv e).2.1⟩
section
variable (P:Program) (w:World) (base:Heap) {K:Zr} {mg:Str->Option Value} {h:Heap} {k:Nat} {f:Addr} {fd:FuncData} {x:Str} {st:Stmt} {ps:List Str}
theorem mkP {G:List D->Option D} (X:K.In h) (N:h.Ns mainGlobals mg) (a:FK K x st f) (o:FnOk P w K mg base CX0 k f fd ps (bf K ps.length G)) (b:Binds K fd ps []):Has P w K mg base k x ps G:=⟨⟨_,_,o,PySem.W.mg_of X N a.ns,a.kp,b⟩⟩
theorem mkF {G:List D->Option D} (X:K.In h) (N:h.Ns mainGlobals mg) (a:FK K x st f) (o:FnOk P w K mg base CX0 k f fd ps (bq K ps.length G)) (b:Binds K fd ps []):HasF P w K mg base k x ps G:=⟨⟨_,_,o,PySem.W.mg_of X N a.ns,a.kp,b⟩⟩
theorem mkU {G:List D->Option (D×D)} (X:K.In h) (N:h.Ns mainGlobals mg) (a:FK K x st f) (o:FnOk P w K mg base CX0 k f fd ps (qv K ps.length G)) (b:Binds K fd ps []):m6 P w K mg base k x ps G:=⟨⟨_,_,o,PySem.W.mg_of X N a.ns,a.kp,b⟩⟩
end
section
variable {P:Program} {w:World} {K:Zr} {mg:Str->Option Value} {base:Heap} {f:Addr} {fd:FuncData}
theorem kj:au ["thing"] ["thing"] (aj fS):=⟨rfl,rfl,rfl,by decide +kernel,rfl,by decide +kernel,by decide +kernel⟩
theorem qO (F:Fun K "is_whole" "is_whole" fS f fd)    (m_isinstance:mg "isinstance" = none) (m_int:mg "int" = none) (m_bool:mg "bool" = none):FnOk P w K mg base CX0 1 f fd ["thing"] (bf K 1 (fn gv)):=by
 have sc:=kj;refine bI F kj (fun cdv A outer s H E ds d hr hG hl=>?_)
 obtain ⟨x,b,h,rfl,rfl⟩:=aQ hG;refine ⟨_,(aH (aY (pB (aL fJ (j7 qP) rfl m_isinstance boot_isinstance (aa (ab 0) (aa (nV rfl m_int boot_int) af))) (pw (tj (aL fJ (j7 nX) rfl m_isinstance boot_isinstance (aa (ab 0) (aa (nV rfl m_bool boot_bool) af)))))))),?_⟩
 . show aC ((?f:SD) [some _])=_;cases x <;> simp [pU] at h <;> subst h <;> rfl
theorem eD:au ["number","above_nought","one","other","rest"] ["number","above_nought"] (aj bX):=⟨rfl,rfl,rfl,by decide +kernel,rfl,by decide +kernel,by decide +kernel⟩
def cdC:FT:=fT (f2 gNe (ae 3) (fC (.int 0)))
def cdS:SD:=aN (i5 4 (f2 (gI (fun _ j=>0 < j) fun i j=>.int (i % j)) (ae 2) (ae 3))) (aN (i5 2 (ae 3)) (i5 3 (ae 4)))
theorem vU:∀ (n:Nat) (x y:Int) (u v o:Option D),0<=y->(y=0->0<=x)->y.toNat < n->∃ o',dz n cdC cdS [u,v,some (.int x),some (.int y),o]=some (.nx [u,v,some (.int (gc x y)),some (.int 0),o'])
 | 0,x,y,u,v,o,h0,h1,h2=>by omega
 | n+1,x,y,u,v,o,h0,h1,h2=>by
  by_cases h:y=0
  . subst h;refine ⟨o,?_⟩;rw [vv (h1 rfl)];rfl
  . have hy:0 < y:=by omega
    have hc:cdC [u,v,some (.int x),some (.int y),o]=some true:=by
     show some (!(y == 0))=some true;simp [h]
    have hs:cdS [u,v,some (.int x),some (.int y),o]=some (.nx [u,v,some (.int y),some (.int (x % y)),some (.int (x % y))]):=by
     unfold cdS;simp only [gE,aN,i5,ae,f2,Zc,Zd,Ze,List.set_cons_zero,List.set_cons_succ,aB (C:=fun _ j=>0 < j) (i:=x) hy]
    obtain ⟨o',ih⟩:=vU n y (x % y) u v (some (.int (x % y))) (Int.emod_nonneg x h) (fun _=>h0) (by have:=Int.emod_lt_of_pos x hy;omega)
    refine ⟨o',?_⟩;rw [pS] at ih;rw [qE hc hs];exact ih
theorem jL (F:Fun K "common_divisor" "common_divisor" bX f fd)    :FnOk P w K mg base CX0 1 f fd ["number","above_nought"] (bf K 2 (fn ci)):=by
 have sc:=eD;refine bI F eD (fun cdv A outer s H E ds d hr hG hl=>?_)
 obtain ⟨a,b,hb,rfl,rfl⟩:=aQ hG;refine ⟨_,(aK (bP 2 sc.nd (ab 0))
  (aK (bP 3 sc.nd (ab 1))
  (aK (nQ (b.toNat+1) PassesOwn.never (x8 hr.units0 (ab 3) ag)
   (aK (bP 4 sc.nd (eY (ab 2) (ab 3)))
   (aK (bP 2 sc.nd (ab 3))
   (aH (bP 3 sc.nd (ab 4))))))
  (aH (aY (ab 2)))))),?_⟩
 . show aC ((?f:SD) [some _,some _,none,none,none])=_;obtain ⟨o,ho⟩:=vU (b.toNat+1) a b (some (.int a)) (some (.int b)) none (by omega) (by omega) (by omega)
   show aC ((dz (b.toNat+1) cdC cdS [some (.int a),some (.int b),some (.int a),some (.int b),none]).bind (gE (eW (ae 2))))=_;rw [ho];rfl
theorem uF:au ["one","other"] ["one","other"] (aj oY):=⟨rfl,rfl,rfl,by decide +kernel,rfl,by decide +kernel,by decide +kernel⟩
theorem AU (F:Fun K "less" "less" oY f fd)    :FnOk P w K mg base CX0 1 f fd ["one","other"] (bf K 2 (fn ic)):=by
 have sc:=uF;refine bI F uF (fun cdv A outer s H E ds d hr hG hl=>?_)
 obtain ⟨⟨a,b⟩,⟨c,e⟩,hp,hq,rfl,rfl⟩:=aQ hG;refine ⟨_,(aH (aY (BX (cj (av (ab 0) ag) (av (ab 1) ag)) (cj (av (ab 1) ag) (av (ab 0) ag))))),?_⟩
 . show aC ((?f:SD) [some _,some _])=_;simp only [aC,eW,ae,fC,f2,bm,bt,gI0,Zc,Zd,Ze,aB (C:=aG) (i:=a) (j:=e) ⟨hp.s1.bd,hq.s2.bd⟩,aB (C:=aG) (i:=c) (j:=b) ⟨hq.s1.bd,hp.s2.bd⟩]
theorem ko:au ["one"] ["one"] (aj fU):=⟨rfl,rfl,rfl,by decide +kernel,rfl,by decide +kernel,by decide +kernel⟩
theorem qQ (F:Fun K "floor_of" "floor_of" fU f fd)    :FnOk P w K mg base CX0 1 f fd ["one"] (bf K 1 (fn d9)):=by
 have sc:=ko;refine bI F ko (fun cdv A outer s H E ds d hr hG hl=>?_)
 obtain ⟨⟨a,b⟩,h,rfl,rfl⟩:=aQ hG;refine ⟨_,(aH (aY (cL (av (ab 0) ag) (av (ab 0) ag)))),?_⟩
 . show aC ((?f:SD) [some _])=_;simp only [aC,eW,ae,fC,f2,bm,bt,Zc,Zd,aB (C:=dy) (i:=a) (j:=b) ⟨h.pos,h.s2.bd⟩]
theorem jw:au ["most","cell"] ["most","cell"] (aj eF):=⟨rfl,rfl,rfl,by decide +kernel,rfl,by decide +kernel,by decide +kernel⟩
theorem FS {m:Int} {c:Int×Int} {δ:DS}:bR 2 [] (gDs [0,1]) (fun _=>some true) (vI (gF (f2 dg (f2 gIx (ae 1) (fC (.int 1))) (fC (.int 0))) (f2 gLe (f2 gIx (ae 1) (fC (.int 0))) (ae 0)))) δ (.tup [.int m,fr c])=some (some (.bl (decide (c.2=0) && decide (c.1<=m)))):=by
 show ((Dl.ownOf (vI (gF (f2 dg (f2 gIx (ae 1) (fC (.int 1))) (fC (.int 0))) (f2 gLe (f2 gIx (ae 1) (fC (.int 0))) (ae 0)))) [some (.int m),some (fr c)]).map some)=_;have e:(gF (f2 dg (f2 gIx (ae 1) (fC (.int 1))) (fC (.int 0))) (f2 gLe (f2 gIx (ae 1) (fC (.int 0))) (ae 0))) [some (.int m),some (fr c)]=some (.bl (decide (c.2=0) && decide (c.1<=m))):=by
  have g0:dg (.int c.2) (.int 0)=some (.bl (c.2 == 0)):=rfl
  by_cases z:c.2=0
  . have z':(c.2 == 0)=true:=by simp [z]
    simp only [ae,fC,f2,gF,bm,bt,gI0,Zc,Zd,Ze,g0,z',Zw z,gLe];rfl
  . have z':(c.2 == 0)=false:=by simp [z]
    simp only [ae,fC,f2,gF,bm,bt,gI0,Zc,Zd,Ze,g0,z',Zv z];rfl
 unfold Dl.ownOf;rw [aW e];rfl
theorem pF (F:Fun K "is_moment" "is_moment" eF f fd)    (m_any:mg "any" = none) (m_zip:mg "zip" = none):FnOk P w K mg base CX0 1 f fd ["most","cell"] (bq K 2 (fn du)):=by
 have sc:=jw;refine bE F jw (fun cdv A outer s H E ds d hr hG hl=>?_)
 obtain ⟨d0,ms,cs,h,k,rfl,rfl⟩:=aQ hG;have hown:own (.bl (mom ms cs))=true:=rfl;refine ⟨_,(aP (bj (pg (mW rfl) t8 rfl m_any j8 (bT (by exact (d6 rfl m_zip (aa (ab 0) (aa (ab 1) af)))) (T:=["greatest","place"]) (N:=["greatest","place"]) (js:=[]) (cl:=[]) (fun _ _ _ _ _=>by exact (cK [0,1] (dB rfl (aF (pgN 0 (show List.Nodup (["greatest","place"]:List Str) from by decide +kernel)) (aF (pgN 1 (show List.Nodup (["greatest","place"]:List Str) from by decide +kernel)) cu))))) (cN [0,1] (by decide)) (fun _ _ _ _ _=>by exact eM) (fun _ _ _ _ _=>by exact (ay (pB (yx hr.units (av (ab 1) ag) ag) (pw (ER (av (ab 1) ag) (ab 0)))))) (by exact CompG.of (T:=["greatest","place"]) (Z:=[]) (Y:=[]) (hcl:=(by intro p hp;cases hp)) (hN:=(by intro i y j h1 h2;cases h1))))))),?_,?own⟩
 case own=>first | rfl | exact hown
 . show aC ((?f:SD) (aE 2 _))=_;have e0:aE 2 [d0,.tup (cs.map fr)]=[some (.seq (ms.map D.int)),some (.tup (cs.map fr))]:=by
    show [some (sh d0),some (sh (.tup (cs.map fr)))]=_;rw [h,dY]
   rw [e0];refine dc (bS (kf (bW (fL (d0:=.seq (ms.map D.int)) (d1:=.tup (cs.map fr)) rfl rfl rfl) (rf ms cs fun m hm c hc=>FS) ?_) ?_ rfl))
   . rw [Zg];have:=qX ms cs;omega
   . show ((cO ((wG ms cs).map D.bl)).bind fun bs=>some (D.bl (bs.any id)))=_
     rw [hX,<- qY];rfl
theorem cE:au ["greatest","place","step"] ["greatest","place","step"] (aj bh):=⟨rfl,rfl,rfl,by decide +kernel,rfl,by decide +kernel,by decide +kernel⟩
theorem gg (F:Fun K "place_behind_moment" "place_behind_moment" bh f fd)    :FnOk P w K mg base CX0 1 f fd ["greatest","place","step"] (bf K 3 (fn aT)):=by
 have sc:=cE;refine bI F cE (fun cdv A outer s H E ds d hr hG hl=>?_)
 obtain ⟨g,s,⟨x,t⟩,rfl,rfl⟩:=aQ hG;refine ⟨_,(aK (i9 (lV (av (ab 1) ag) ag) (aH (aY (bM (aa (av (ab 1) ag) (aa (dC (av (ab 1) ag) (ab 2)) af))))) gb)
  (aK (i9 (pi (av (ab 1) ag) (ab 0)) (aH (aY (bM (aa (av (ab 1) ag) (aa ag af))))) gb)
  (aH (aY (bM (aa (dC (ab 0) ag) (aa ag af))))))),?_⟩
 . show aC ((?f:SD) [some _,some _,some _])=_;unfold pbm;dsimp only
   by_cases c1:0 < t
   . rw [if_pos c1];have d1:decide (0 < t)=true:=Zw c1;simp only [aC,cI,gE,aN,eW,sIf,ae,fC,f2,fT,asB,ah,ac,cC,bm,bt,gI0,bD,Zc,Zd,Ze,gGt,gLt,d1]
   . rw [if_neg c1];have d1:decide (0 < t)=false:=Zv c1
     by_cases c2:x < g
     . rw [if_pos c2];have d2:decide (x < g)=true:=Zw c2;simp only [aC,cI,gE,aN,eW,sIf,ae,fC,f2,fT,asB,ah,ac,cC,bm,bt,gI0,bD,Zc,Zd,Ze,gGt,gLt,d1,d2]
     . rw [if_neg c2];have d2:decide (x < g)=false:=Zv c2;simp only [aC,cI,gE,aN,eW,sIf,ae,fC,f2,fT,asB,ah,ac,cC,bm,bt,gI0,bD,Zc,Zd,Ze,gGt,gLt,d1,d2]
theorem kg:au ["cell"] ["cell"] (aj fQ):=⟨rfl,rfl,rfl,by decide +kernel,rfl,by decide +kernel,by decide +kernel⟩
theorem FC {c:Int×Int} {δ:DS}:bR 2 [] (gDs [0,1]) (fun _=>some true) (bF 1) δ (fr c)=some (some (.int c.2)):=rfl
theorem qM (F:Fun K "ranks_of" "ranks_of" fQ f fd)    (m_sorted:mg "sorted" = none) (m_set:mg "set" = none):FnOk P w K mg base CX0 1 f fd ["cell"] (bq K 1 (fn gu)):=by
 have sc:=kg;refine bE F kg (fun cdv A outer s H E ds d hr hG hl=>?_)
 obtain ⟨d0,cs,h,k,rfl,rfl⟩:=aQ hG;have hown:own (.lst ((fu (0 :: cs.map (·.2))).map D.int))=true:=cZ _;refine ⟨_,(aP (bj (xZ rfl m_sorted rfl m_set (AC (i7 (cn (ay ag) dO)) (bT (by exact (AI (ab 0))) (T:=["whole","rank"]) (N:=["whole","rank"]) (js:=[]) (cl:=[]) (fun _ _ _ _ _=>by exact (cK [0,1] (dB rfl (aF (pgN 0 (show List.Nodup (["whole","rank"]:List Str) from by decide +kernel)) (aF (pgN 1 (show List.Nodup (["whole","rank"]:List Str) from by decide +kernel)) cu))))) (cN [0,1] (by decide)) (fun _ _ _ _ _=>by exact eM) (fun _ _ _ _ _=>by exact (bZ 1)) (by exact CompG.of (T:=["whole","rank"]) (Z:=[]) (Y:=[]) (hcl:=(by intro p hp;cases hp)) (hN:=(by intro i y j h1 h2;cases h1)))))))),?_,?own⟩
 case own=>first | rfl | exact hown
 . show aC ((?f:SD) (aE 1 _))=_;have e0:aE 1 [d0]=[some (sh d0)]:=rfl;rw [e0];have l:=k.le;have c1:dX (fun δ=>((ae 0) δ).bind cM) 2 [] (gDs [0,1]) (fun _=>some true) (bF 1) [some (sh d0)]=some (.lst ((cs.map (·.2)).map D.int),[some (sh d0)]):=by
    refine bW (ds:=cs.map fr) h ?_ (by rw [Zg,Zg];omega)
    rw [List.map_map];exact gU cs fun c _=>FC
   refine dc (bS (Ah (ns:=0 :: cs.map (·.2)) (Cn (xs:=[.int 0]) (ys:=(cs.map (·.2)).map D.int) (δ1:=[some (sh d0)]) rfl c1 (by rw [Zg,Zg];show 1+cs.length<=1000;omega)) fun n m=>?_))
   rcases Zn.mp m with e | e
   . rw [e];decide
   . obtain ⟨c,mc,rfl⟩:=Zl.mp e;exact (k.bd c mc).2
theorem nP:au ["cell","level"] ["cell","level"] (aj jB):=⟨rfl,rfl,rfl,by decide +kernel,rfl,by decide +kernel,by decide +kernel⟩
theorem Gb {c:Int×Int} {L:Int} {o0:Option D}:bR 2 [1] (gDs [0,1]) (fun _=>some true) (vI (fIf (fT (f2 gGt (ae 1) (ae 2))) (f2 jd (ae 0) (fC (.int 1))) (ae 0))) [o0,some (.int L)] (fr c)=some (some (.int (if L < c.2 then c.1+1 else c.1))):=by
 show ((Dl.ownOf (vI (fIf (fT (f2 gGt (ae 1) (ae 2))) (f2 jd (ae 0) (fC (.int 1))) (ae 0))) [some (.int c.1),some (.int c.2),some (.int L)]).map some)=_;unfold Dl.ownOf;rw [aW (d:=.int (if L < c.2 then c.1+1 else c.1)) ?_]
 . rfl
 . by_cases z:L < c.2
   . have d1:decide (L < c.2)=true:=Zw z;rw [if_pos z];simp only [ae,fC,f2,fT,asB,gI0,bD,Zc,Zd,Ze,fIf,gGt,d1];rfl
   . have d1:decide (L < c.2)=false:=Zv z;rw [if_neg z];simp only [ae,fC,f2,fT,asB,gI0,bD,Zc,Zd,Ze,fIf,gGt,d1];rfl
theorem wD (F:Fun K "corner" "corner" jB f fd)    (m_tuple:mg "tuple" = none):FnOk P w K mg base CX0 1 f fd ["cell","level"] (bq K 2 (fn jS)):=by
 have sc:=nP;refine bE F nP (fun cdv A outer s H E ds d hr hG hl=>?_)
 obtain ⟨cs,L,k,rfl,rfl⟩:=aQ hG;have hown:own (tpD (cor L cs))=true:=cZ _;refine ⟨_,(aP (bj (kR dk hU rfl m_tuple dq (bT (by exact (kW (ab 0))) (T:=["whole","rank"]) (N:=["whole","rank","level"]) (js:=[1]) (cl:=[("level",_)]) (fun _ _ _ _ _=>by exact (cK [0,1] (dB rfl (aF (pgN 0 (show List.Nodup (["whole","rank","level"]:List Str) from by decide +kernel)) (aF (pgN 1 (show List.Nodup (["whole","rank","level"]:List Str) from by decide +kernel)) cu))))) (cN [0,1] (by decide)) (fun _ _ _ _ _=>by exact eM) (fun _ _ _ _ _=>by exact (ay (pz (lV (ab 1) (ab 2)) (dC (ab 0) ag) (ab 0)))) (by exact CompG.of (T:=["whole","rank"]) (Z:=["level"]) (Y:=["level"]) (hcl:=(by intro p hp;simp only [Zn,Zz,or_false] at hp;subst hp;rfl)) (hN:=(by intro i y j h1 h2;match i,h1,h2 with | 0,h1,h2=>cases h1;cases h2;exact ⟨rfl,rfl,rfl⟩ | n+1,h1,h2=>cases h1))))))),?_,?own⟩
 case own=>first | rfl | exact hown
 . show aC ((?f:SD) (aE 2 _))=_;have e0:aE 2 [.tup (cs.map fr),.int L]=[some (.tup (cs.map fr)),some (.int L)]:=by
    show [some (sh (.tup (cs.map fr))),some (sh (.int L))]=_;rw [dY];rfl
   rw [e0];refine dc (bS (kf (bW (ds:=cs.map fr) rfl (xs:=(cor L cs).map D.int) ?_ ?_) rfl (fI _)))
   . unfold cor;rw [List.map_map];exact gU cs fun c _=>Gb
   . rw [Zg,vR];omega
theorem lL:au ["_law_script","_law_k"] ["_law_script","_law_k"] (aj io):=⟨rfl,rfl,rfl,by decide +kernel,rfl,by decide +kernel,by decide +kernel⟩
theorem tG (F:Fun K "_law_at" "_law_at" io f fd)    (m_len:mg "len" = none):FnOk P w K mg base CX0 1 f fd ["_law_script","_law_k"] (bf K 2 (fn iF)):=by
 have sc:=lL;refine bI F lL (fun cdv A outer s H E ds d hr hG hl=>?_)
 obtain ⟨ns,k,hk,rfl,rfl⟩:=aQ hG;refine ⟨_,(aH (aY (pz (pi (ab 1) (aL aI c6 rfl m_len PySem.boot_len (aa (ab 0) af))) (av (ab 0) (ab 1)) ag))),?_⟩
 . show aC ((?f:SD) [some _,some _])=_
   by_cases hlt:k < (ns.length:Int)
   . have h1:decide (k < (((ns.map D.int).length:Nat):Int))=true:=Zw (by rw [Zg];exact hlt)
     have h2:gIx (.seq (ns.map D.int)) (.int k)=some (.int (cell ns k)):=by
      show L2.atI (ns.map D.int) k=_;have ek:k=((k.toNat:Nat):Int):=by omega
      have hk2:k.toNat < ns.length:=by omega
      have h3:=atI_nat (xs:=ns.map D.int) (j:=k.toNat) (v:=D.int ns[k.toNat]) (by rw [ZD,Zp hk2] <;> rfl)
      rw [<- ek] at h3;rw [h3];unfold cell;simp [Zo,hk2]
     simp only [aC,eW,ae,fC,f2,fT,asB,ah,ac,ak,rK,gI0,Zc,Zd,Ze,fIf,gLt,if_true,h1,h2]
   . have h1:decide (k < (((ns.map D.int).length:Nat):Int))=false:=Zv (by rw [Zg];exact hlt)
     have h2:cell ns k=0:=by
      unfold cell;rw [Zo,List.getElem?_eq_none (by omega)]
      rfl
     simp only [aC,eW,ae,fC,f2,fT,asB,ah,ac,ak,rK,gI0,Zc,Zd,Ze,fIf,gLt,h1,h2];rfl
theorem iN:au ["_law_cell","_law_way"] ["_law_cell","_law_way"] (aj dL):=⟨rfl,rfl,rfl,by decide +kernel,rfl,by decide +kernel,by decide +kernel⟩
theorem nk (F:Fun K "_law_purse" "_law_purse" dL f fd)    (m_abs:mg "abs" = none):FnOk P w K mg base CX0 1 f fd ["_law_cell","_law_way"] (bq K 2 (fn dS)):=by
 have sc:=iN;refine bE F iN (fun cdv A outer s H E ds d hr hG hl=>?_)
 obtain ⟨c,w,hw,rfl,rfl⟩:=aQ hG;have hown:own (pu ((c.natAbs:Int)*(1 - w)) ((c.natAbs:Int) % 2147483563+1))=true:=rfl;refine ⟨_,(aP (bj (i7 (cn (ay (AM (aL mX t9 rfl m_abs PyProof.Rows.boot_abs (aa (ab 0) af)) (jb ag (ab 1)))) (cn (ay (dC (eY (aL mX t9 rfl m_abs PyProof.Rows.boot_abs (aa (ab 0) af)) ag) ag)) dO))))),?_,?own⟩
 case own=>first | rfl | exact hown
 . show aC ((?f:SD) (aE 2 _))=_;have e0:aE 2 [.int c,.int w]=[some (.int c),some (.int w)]:=rfl;rw [e0];have m1:oJ (c.natAbs:Int) (1 - w):=.inr (.inr (by omega))
   refine dc (bS (sI (aW (d:=.int ((c.natAbs:Int)*(1 - w))) ?_) (aW (d:=.int ((c.natAbs:Int) % 2147483563+1)) ?_)))
   . simp only [ae,fC,f2,ah,ac,ak,Bq,gI0,Zc,Zd,Ze,aB (C:=oJ) m1]
   . simp only [ae,fC,f2,ah,ac,ak,Bq,bD,Zc,Zd,aB (C:=fun _ j=>0 < j) (i:=(c.natAbs:Int)) (j:=2147483563) (by decide)]
theorem jy:au ["_law_purse_here","_law_many","_law_stirred","_law_number"] ["_law_purse_here","_law_many"] (aj eJ):=⟨rfl,rfl,rfl,by decide +kernel,rfl,by decide +kernel,by decide +kernel⟩
theorem pH (F:Fun K "_law_take" "_law_take" eJ f fd)    :FnOk P w K mg base CX0 1 f fd ["_law_purse_here","_law_many"] (qv K 2 (fnM aq)):=by
 have sc:=jy;refine jF F jy (fun cdv A outer s H E Z d0 es d0' r hr zk hG hl=>?_)
 obtain ⟨a,b,m,h,k,l,e1,e2⟩:=k8 hG;cases e1;cases e2;refine ⟨_,(bw (uM (lV (av (ab 0) ag) ag) (bw (d5 3 zk sc.nd (eL (ay (av (ab 0) ag))))
  (bw (x4 0 (ay (cL (ab 3) (ab 1))) ag)
  (fZ (lT (eL (ay (eY (ab 3) (ab 1)))))))) ph)
  (bw (x4 0 (ay (eY (dC (cj (av (ab 0) ag) ag) ag) ag)) ag)
  (bw (d5 2 zk sc.nd (eL (ay (eY (cj (av (ab 0) ag) (av (ab 0) ag)) ag))))
  (fZ (lT (eL (ay (eY (cL (ab 2) ag) (ab 1))))))))),?_⟩
 . rw [show (["_law_purse_here","_law_many","_law_stirred","_law_number"]:List Str).length=4 from rfl]
   show _=some (Res.rt (.tup [.int (tkV a b m),pu (tkA a m) (tkB a b)]));have e0:cy 4 (pu a b) [.int m]=[some (pu a b),some (.int m),none,none]:=rfl;rw [e0];have hc:fT (f2 gGt (f2 gIx (ae 0) (fC (.int 0))) (fC (.int 0))) [some (pu a b),some (.int m),none,none]=some (decide (0 < a)):=rfl
   by_cases ha:0 < a
   . have ea:tkA a m=a / m:=if_pos ha;have eb:tkB a b=b:=if_pos ha;have ev:tkV a b m=a % m:=if_pos ha;rw [ea,eb,ev];rw [Zw ha] at hc;refine kO (eV hc (ao (δ':=[some (pu a b),some (.int m),none,some (.int a)]) (aM (aW (d:=.int a) rfl)) (ao (δ':=[some (pu (a / m) b),some (.int m),none,some (.int a)]) ?_ (jq (aW (d:=.int (a % m)) ?_) rfl))))
     . unfold Ap;rw [aW (d:=.int (a / m)) (by simp only [ae,f2,Zc,Zd,Ze,aB (C:=dy) (i:=a) (j:=m) ⟨k,l⟩])]
       rfl
     . simp only [ae,f2,Zc,Zd,Ze,aB (C:=fun _ j=>0 < j) (i:=a) (j:=m) k]
   . rw [Zv ha] at hc;have ea:tkA a m=a:=if_neg ha;have eb:tkB a b=(b*48271+9973) % 2147483629:=if_neg ha;have ev:tkV a b m=tkB a b*tkB a b % 2147483587 / 7 % m:=if_neg ha;rw [ev,ea];have b0:=h.b0;have b1:=h.b1;have t0:0<=tkB a b:=by rw [eb];exact Int.emod_nonneg _ (by decide)
     have t1:tkB a b < 2147483629:=by rw [eb];exact Int.emod_lt_of_pos _ (by decide)
     have m1:aG b 48271:=⟨cV (by omega),cV⟩
     have m2:aG (tkB a b) (tkB a b):=⟨cV (by omega),cV (by omega)⟩
     have i1:gIx (pu a b) (.int 1)=some (.int b):=rfl;have i2:gIx (pu a (tkB a b)) (.int 1)=some (.int (tkB a b)):=rfl;refine ao (δ':=[some (pu a b),some (.int m),none,none]) (bc hc rfl) (ao (δ':=[some (pu a (tkB a b)),some (.int m),none,none]) ?_ (ao (δ':=[some (pu a (tkB a b)),some (.int m),some (.int (tkB a b*tkB a b % 2147483587)),none]) (aM (aW (d:=.int (tkB a b*tkB a b % 2147483587)) ?_)) (jq (aW (d:=.int (tkB a b*tkB a b % 2147483587 / 7 % m)) ?_) rfl)))
     . unfold Ap;rw [aW (d:=.int (tkB a b)) (by rw [eb];simp only [ae,fC,f2,bD,Zc,Zd,i1,aB (C:=aG) m1,aB (C:=fun _ j=>0 < j) (i:=b*48271+9973) (j:=2147483629) (by decide)])]
       rfl
     . simp only [ae,fC,f2,Zc,Zd,i2,aB (C:=aG) m2,aB (C:=fun _ j=>0 < j) (i:=tkB a b*tkB a b) (j:=2147483587) (by decide)]
     . simp only [ae,fC,f2,Zc,Zd,Ze,aB (C:=dy) (i:=tkB a b*tkB a b % 2147483587) (j:=7) ⟨by decide,cV⟩,aB (C:=fun _ j=>0 < j) (i:=tkB a b*tkB a b % 2147483587 / 7) (j:=m) k]
theorem iL:au ["_law_found"] ["_law_found"] (aj dI):=⟨rfl,rfl,rfl,by decide +kernel,rfl,by decide +kernel,by decide +kernel⟩
theorem nc (F:Fun K "_law_whole" "_law_whole" dI f fd)    (m_isinstance:mg "isinstance" = none) (m_int:mg "int" = none) (m_bool:mg "bool" = none):FnOk P w K mg base CX0 1 f fd ["_law_found"] (bf K 1 (fn bL)):=by
 have sc:=iL;refine bI F iL (fun cdv A outer s H E ds d hr hG hl=>?_)
 obtain ⟨x,b,h,rfl,rfl⟩:=aQ hG;refine ⟨_,(aH (aY (pB (aL fJ (j7 qP) rfl m_isinstance boot_isinstance (aa (ab 0) (aa (nV rfl m_int boot_int) af))) (pw (tj (aL fJ (j7 nX) rfl m_isinstance boot_isinstance (aa (ab 0) (aa (nV rfl m_bool boot_bool) af)))))))),?_⟩
 . show aC ((?f:SD) [some _])=_;cases x <;> simp [pU] at h <;> subst h <;> rfl
theorem ku:au ["_law_top","_law_bottom","_law_one","_law_other"] ["_law_top","_law_bottom"] (aj fW):=⟨rfl,rfl,rfl,by decide +kernel,rfl,by decide +kernel,by decide +kernel⟩
def loC:FT:=fT (f2 gGt (ae 3) (fC (.int 0)))
def loS:SD:=Aq 2 3 (ac (ae 3) (ac (f2 (gI (fun _ j=>0 < j) fun i j=>.int (i % j)) (ae 2) (ae 3)) ah))
theorem vg:∀ (n:Nat) (x y:Int) (u v:Option D),0<=y->(y=0->0<=x)->y.toNat < n->dz n loC loS [u,v,some (.int x),some (.int y)]=some (.nx [u,v,some (.int (gc x y)),some (.int 0)])
 | 0,x,y,u,v,h0,h1,h2=>by omega
 | n+1,x,y,u,v,h0,h1,h2=>by
  by_cases h:y=0
  . subst h;rw [vv (h1 rfl)];rfl
  . have hy:0 < y:=by omega
    have hc:loC [u,v,some (.int x),some (.int y)]=some true:=by
     show some (decide (0 < y))=some true;rw [Zw hy]
    have hs:loS [u,v,some (.int x),some (.int y)]=some (.nx [u,v,some (.int y),some (.int (x % y))]):=by
     unfold loS;simp only [Aq,ae,f2,ah,ac,Zc,Zd,Ze,List.set_cons_zero,List.set_cons_succ,aB (C:=fun _ j=>0 < j) (i:=x) hy]
    have ih:=vg n y (x % y) u v (Int.emod_nonneg x h) (fun _=>h0) (by have:=Int.emod_lt_of_pos x hy;omega)
    rw [pS] at ih;rw [qE hc hs];exact ih
theorem qS (F:Fun K "_law_low" "_law_low" fW f fd)    (m_abs:mg "abs" = none):FnOk P w K mg base CX0 1 f fd ["_law_top","_law_bottom"] (bf K 2 (fn ba)):=by
 have sc:=ku;refine bI F ku (fun cdv A outer s H E ds d hr hG hl=>?_)
 obtain ⟨t,b,hb,hB,rfl,rfl⟩:=aQ hG;refine ⟨_,(aK (uN 2 3 rfl sc.nd (aa (aL mX t9 rfl m_abs PyProof.Rows.boot_abs (aa (ab 0) af)) (aa (ab 1) af)))
  (aK (nQ (b.toNat+1) PassesOwn.never (lV (ab 3) ag)
   (aH (uN 2 3 rfl sc.nd (aa (ab 3) (aa (eY (ab 2) (ab 3)) af)))))
  (aH (aY (bM (aa (cL (ab 0) (ab 2)) (aa (cL (ab 1) (ab 2)) af))))))),?_⟩
 . show aC ((?f:SD) [some _,some _,none,none])=_;have hg:=dE (t:=t) hb;have hgB:Bd (gc t b):=vY (by omega) (vw (t:=t) hb) hB
   have lp:=vg (b.toNat+1) (t.natAbs:Int) b (some (.int t)) (some (.int b)) (by omega) (by omega) (by omega)
   rw [DG] at lp;show aC ((dz (b.toNat+1) loC loS [some (.int t),some (.int b),some (.int (t.natAbs:Int)),some (.int b)]).bind (gE (eW (cC (ac (f2 (gI dy fun i j=>.int (i / j)) (ae 0) (ae 2)) (ac (f2 (gI dy fun i j=>.int (i / j)) (ae 1) (ae 2)) ah))))))=_
   rw [lp];simp only [aC,gE,eW,ae,f2,ah,ac,cC,Zc,Zd,Ze,aB (C:=dy) (i:=t) ⟨hg,hgB⟩,aB (C:=dy) (i:=b) ⟨hg,hgB⟩];rfl
theorem iO:au ["_law_most","_law_hands"] ["_law_most","_law_hands"] (aj dM):=⟨rfl,rfl,rfl,by decide +kernel,rfl,by decide +kernel,by decide +kernel⟩
theorem FQ {m:Int} {q:Int×Int} {δ:DS} (h:Gr m) (k:Tw q):bR 2 [] (gDs [0,1]) (fT (f2 gLe (f2 gIx (ae 1) (fC (.int 0))) (f2 (gI aG fun i j=>.int (i*j)) (ae 0) (f2 gIx (ae 1) (fC (.int 1)))))) (bF 1) δ (.tup [.int m,fr q])=some (if past m q then none else some (fr q)):=by
 show ((fT (f2 gLe (f2 gIx (ae 1) (fC (.int 0))) (f2 (gI aG fun i j=>.int (i*j)) (ae 0) (f2 gIx (ae 1) (fC (.int 1))))) [some (.int m),some (fr q)]).bind fun b=>if b then (Dl.ownOf (bF 1) (shO [some (.int m),some (fr q)])).map some else some none)=_
 have m1:aG m q.2:=⟨E7 h,xy k⟩;have c:fT (f2 gLe (f2 gIx (ae 1) (fC (.int 0))) (f2 (gI aG fun i j=>.int (i*j)) (ae 0) (f2 gIx (ae 1) (fC (.int 1))))) [some (.int m),some (fr q)]=some (!past m q):=by
  rw [<- Bb];simp only [ae,fC,f2,fT,asB,bm,bt,gI0,Zc,Zd,Ze,gLe,aB (C:=aG) m1]
 rw [c];cases past m q <;> rfl
theorem nr (F:Fun K "_law_known" "_law_known" dM f fd)    (m_zip:mg "zip" = none):FnOk P w K mg base CX0 1 f fd ["_law_most","_law_hands"] (bq K 2 (fn gz)):=by
 have sc:=iO;refine bE F iO (fun cdv A outer s H E ds d hr hG hl=>?_)
 obtain ⟨d0,d1,ms,qs,h,g,k,rfl,rfl⟩:=aQ hG;have hown:own (.lst ((wi ms qs).map fr))=true:=ce _;refine ⟨_,(aP (bj (bT (by exact (d6 rfl m_zip (aa (ab 0) (aa (ab 1) af)))) (T:=["_law_greatest","_law_time_here"]) (N:=["_law_greatest","_law_time_here"]) (js:=[]) (cl:=[]) (fun _ _ _ _ _=>by exact (cK [0,1] (dB rfl (aF (pgN 0 (show List.Nodup (["_law_greatest","_law_time_here"]:List Str) from by decide +kernel)) (aF (pgN 1 (show List.Nodup (["_law_greatest","_law_time_here"]:List Str) from by decide +kernel)) cu))))) (cN [0,1] (by decide)) (fun _ _ _ _ _=>by exact (jI (x9 (av (ab 1) ag) (cj (ab 0) (av (ab 1) ag))))) (fun _ _ _ _ _=>by exact (bZ 1)) (by exact CompG.of (T:=["_law_greatest","_law_time_here"]) (Z:=[]) (Y:=[]) (hcl:=(by intro p hp;cases hp)) (hN:=(by intro i y j h1 h2;cases h1)))))),?_,?own⟩
 case own=>first | rfl | exact hown
 . show aC ((?f:SD) (aE 2 _))=_;have e0:aE 2 [d0,d1]=[some (.seq (ms.map D.int)),some (sh d1)]:=by
    show [some (sh d0),some (sh d1)]=_;rw [h]
   rw [e0];refine dc (bS (bW (fL (d0:=.seq (ms.map D.int)) (d1:=sh d1) rfl rfl g.it) (tJ ms qs fun m hm q hq=>FQ (k.gr m hm) (k.tm q hq)) ?_))
   rw [Zg];have:=fM ms qs;have:=k.le;omega
theorem nO:au ["top","bottom","divisor"] ["top","bottom"] (aj jA):=⟨rfl,rfl,rfl,by decide +kernel,rfl,by decide +kernel,by decide +kernel⟩
theorem wC (F:Fun K "lowest" "lowest" jA f fd)  (hcommon_divisor:Has P w K mg base 1 "common_divisor" ["number","above_nought"] (fn ci))  :FnOk P w K mg base CX0 2 f fd ["top","bottom"] (bf K 2 (fn m5)):=by
 have sc:=nO;refine bI F nO (fun cdv A outer s H E ds d hr hG hl=>?_)
 obtain ⟨t,b,hb,hB,rfl,rfl⟩:=aQ hG;refine ⟨_,(aK (bP 2 sc.nd (ar hcommon_divisor hr (aa (ab 0) (aa (ab 1) af))))
  (aH (aY (bM (aa (cL (ab 0) (ab 2)) (aa (cL (ab 1) (ab 2)) af)))))),?_⟩
 . show aC ((?f:SD) [some _,some _,none])=_;have hg:=dE (t:=t) hb;have hgB:Bd (gc t b):=vY (by omega) (vw (t:=t) hb) hB
   simp only [aC,gE,aN,eW,i5,ae,f2,ah,ac,cC,ak,Zc,Zd,Ze,List.set_cons_zero,List.set_cons_succ,c4 (a:=t) hb,aB (C:=dy) (i:=t) ⟨hg,hgB⟩,aB (C:=dy) (i:=b) ⟨hg,hgB⟩];rfl
theorem nN:au ["one","top","bottom","shared","part","total","left"] ["one","top","bottom"] (aj jz):=⟨rfl,rfl,rfl,by decide +kernel,rfl,by decide +kernel,by decide +kernel⟩
theorem wB (F:Fun K "summed" "summed" jz f fd)  (hcommon_divisor:Has P w K mg base 1 "common_divisor" ["number","above_nought"] (fn ci))  :FnOk P w K mg base CX0 2 f fd ["one","top","bottom"] (bf K 3 (fn jR)):=by
 have sc:=nN;refine bI F nN (fun cdv A outer s H E ds d hr hG hl=>?_)
 obtain ⟨⟨a,b⟩,⟨c,e⟩,hp,hq,rfl,rfl⟩:=aQ hG;refine ⟨_,(aK (bP 3 sc.nd (ar hcommon_divisor hr (aa (av (ab 0) ag) (aa (ab 2) af))))
  (aK (bP 4 sc.nd (cL (av (ab 0) ag) (ab 3)))
  (aK (bP 5 sc.nd (dC (cj (av (ab 0) ag) (cL (ab 2) (ab 3))) (cj (ab 1) (ab 4))))
  (aK (bP 6 sc.nd (ar hcommon_divisor hr (aa (ab 5) (aa (ab 3) af))))
  (aH (aY (bM (aa (cL (ab 5) (ab 6)) (aa (cj (ab 4) (cL (ab 2) (ab 6))) af))))))))),?_⟩
 . show aC ((?f:SD) [some _,some _,some _,none,none,none,none])=_;have hb:0 < b:=hp.pos;have he:0 < e:=hq.pos;have hg:=dE (t:=b) he;have hgB:Bd (gc b e):=vY (by omega) (vw (t:=b) he) hq.s2.bd
   have b1:Bd (b / gc b e):=tI hp.s2 hg gY;have b2:Bd (e / gc b e):=tI hq.s2 hg df;have hl:=dE (t:=a*(e / gc b e)+c*(b / gc b e)) hg;have hlB:Bd (gc (a*(e / gc b e)+c*(b / gc b e)) (gc b e)):=vY (by omega) (vw (t:=a*(e / gc b e)+c*(b / gc b e)) hg) hgB
   have b3:Bd (e / gc (a*(e / gc b e)+c*(b / gc b e)) (gc b e)):=tI hq.s2 hl (Int.dvd_trans df df);simp only [aC,gE,aN,eW,i5,ae,fC,f2,ah,ac,cC,ak,bm,bt,bD,Zc,Zd,Ze,List.set_cons_zero,List.set_cons_succ,c4 (a:=b) he,aB (C:=dy) (i:=b) ⟨hg,hgB⟩,aB (C:=dy) (i:=e) ⟨hg,hgB⟩,aB (C:=aG) (i:=a) (j:=e / gc b e) ⟨hp.s1.bd,b2⟩,aB (C:=aG) (i:=c) (j:=b / gc b e) ⟨hq.s1.bd,b1⟩,c4 (a:=a*(e / gc b e)+c*(b / gc b e)) hg,aB (C:=dy) (i:=a*(e / gc b e)+c*(b / gc b e)) ⟨hl,hlB⟩,aB (C:=dy) (i:=e) ⟨hl,hlB⟩,aB (C:=aG) (i:=b / gc b e) ⟨b1,b3⟩];rfl
theorem fB:au ["most","cell","leaving","step"] ["most","cell"] (aj cr):=⟨rfl,rfl,rfl,by decide +kernel,rfl,by decide +kernel,by decide +kernel⟩
theorem FL {m:Int} {c:Int×Int} {δ:DS}:bR 2 [] (gDs [0,1]) (fun _=>some true) (vI (gF (f2 dg (f2 gIx (ae 1) (fC (.int 1))) (fC (.int 0))) (f2 gLt (f2 gIx (ae 1) (fC (.int 0))) (ae 0)))) δ (.tup [.int m,fr c])=some (some (.bl (decide (c.2=0) && decide (c.1 < m)))):=by
 show ((Dl.ownOf (vI (gF (f2 dg (f2 gIx (ae 1) (fC (.int 1))) (fC (.int 0))) (f2 gLt (f2 gIx (ae 1) (fC (.int 0))) (ae 0)))) [some (.int m),some (fr c)]).map some)=_;have e:(gF (f2 dg (f2 gIx (ae 1) (fC (.int 1))) (fC (.int 0))) (f2 gLt (f2 gIx (ae 1) (fC (.int 0))) (ae 0))) [some (.int m),some (fr c)]=some (.bl (decide (c.2=0) && decide (c.1 < m))):=by
  have g0:dg (.int c.2) (.int 0)=some (.bl (c.2 == 0)):=rfl
  by_cases z:c.2=0
  . have z':(c.2 == 0)=true:=by simp [z]
    simp only [ae,fC,f2,gF,bm,bt,gI0,Zc,Zd,Ze,g0,z',Zw z,gLt];rfl
  . have z':(c.2 == 0)=false:=by simp [z]
    simp only [ae,fC,f2,gF,bm,bt,gI0,Zc,Zd,Ze,g0,z',Zv z];rfl
 unfold Dl.ownOf;rw [aW e];rfl
theorem Gd {m s:Int} {c:Int×Int} {o0 o1 o2:Option D}:bR 2 [3] (gDs [0,1]) (fun _=>some true) (vI (ak (fn aT) (ac (ae 0) (ac (ae 1) (ac (ae 2) ah))))) [o0,o1,o2,some (.int s)] (.tup [.int m,fr c])=some (some (fr (pbm s m c))):=by
 show ((Dl.ownOf (vI (ak (fn aT) (ac (ae 0) (ac (ae 1) (ac (ae 2) ah))))) [some (.int m),some (fr c),some (.int s)]).map some)=_;unfold Dl.ownOf;rw [aW (d:=fr (pbm s m c)) (by simp only [ae,ah,ac,ak,Zc,Zd,Ze,gJ])]
 rfl
theorem j0 (F:Fun K "behind_moment" "behind_moment" cr f fd)  (hplace_behind_moment:Has P w K mg base 1 "place_behind_moment" ["greatest","place","step"] (fn aT))  (m_any:mg "any" = none) (m_tuple:mg "tuple" = none) (m_zip:mg "zip" = none):FnOk P w K mg base CX0 2 f fd ["most","cell"] (bq K 2 (fn dG)):=by
 have sc:=fB;refine bE F fB (fun cdv A outer s H E ds d hr hG hl=>?_)
 obtain ⟨d0,ms,cs,h,k,rfl,rfl⟩:=aQ hG;have hown:own (.tup ((bmo ms cs).map fr))=true:=ce _;refine ⟨_,(ax (bJ 2 sc.nd (pg (mW rfl) t8 rfl m_any j8 (bT (by exact (d6 rfl m_zip (aa (ab 0) (aa (ab 1) af)))) (T:=["greatest","place"]) (N:=["greatest","place"]) (js:=[]) (cl:=[]) (fun _ _ _ _ _=>by exact (cK [0,1] (dB rfl (aF (pgN 0 (show List.Nodup (["greatest","place"]:List Str) from by decide +kernel)) (aF (pgN 1 (show List.Nodup (["greatest","place"]:List Str) from by decide +kernel)) cu))))) (cN [0,1] (by decide)) (fun _ _ _ _ _=>by exact eM) (fun _ _ _ _ _=>by exact (ay (pB (yx hr.units (av (ab 1) ag) ag) (pw (BX (av (ab 1) ag) (ab 0)))))) (by exact CompG.of (T:=["greatest","place"]) (Z:=[]) (Y:=[]) (hcl:=(by intro p hp;cases hp)) (hN:=(by intro i y j h1 h2;cases h1))))))
  (ax (bJ 3 sc.nd (ay (pz (ca (ab 2)) ag ag)))
  (aP (bj (kR dk hU rfl m_tuple dq (bT (by exact (d6 rfl m_zip (aa (ab 0) (aa (ab 1) af)))) (T:=["greatest","place"]) (N:=["greatest","place","step"]) (js:=[3]) (cl:=[("step",_)]) (fun _ _ _ _ _=>by exact (cK [0,1] (dB rfl (aF (pgN 0 (show List.Nodup (["greatest","place","step"]:List Str) from by decide +kernel)) (aF (pgN 1 (show List.Nodup (["greatest","place","step"]:List Str) from by decide +kernel)) cu))))) (cN [0,1] (by decide)) (fun _ _ _ _ _=>by exact eM) (fun _ _ _ _ _=>by exact (ay (ar hplace_behind_moment hr (aa (ab 0) (aa (ab 1) (aa (ab 2) af)))))) (by exact CompG.of (T:=["greatest","place"]) (Z:=["step"]) (Y:=["step"]) (hcl:=(by intro p hp;simp only [Zn,Zz,or_false] at hp;subst hp;rfl)) (hN:=(by intro i y j h1 h2;match i,h1,h2 with | 0,h1,h2=>cases h1;cases h2;exact ⟨rfl,rfl,rfl⟩ | n+1,h1,h2=>cases h1))))))))),?_,?own⟩
 case own=>first | rfl | exact hown
 . show aC ((?f:SD) (aE 4 _))=_;have e0:aE 4 [d0,.tup (cs.map fr)]=[some (.seq (ms.map D.int)),some (.tup (cs.map fr)),none,none]:=by
    show [some (sh d0),some (sh (.tup (cs.map fr))),none,none]=_;rw [h,dY]
   rw [e0];have l1:=vb ms cs;have l2:=ul (s:=if lvg ms cs then 1 else 0) ms cs
   refine dc (ao (δ':=[some (.seq (ms.map D.int)),some (.tup (cs.map fr)),some (.bl (lvg ms cs)),none]) (aM (kf (bW (fL (d0:=.seq (ms.map D.int)) (d1:=.tup (cs.map fr)) rfl rfl rfl) (u7 ms cs fun m hm c hc=>FL) ?_) ?_ rfl)) (ao (δ':=[some (.seq (ms.map D.int)),some (.tup (cs.map fr)),some (.bl (lvg ms cs)),some (.int (if lvg ms cs then 1 else 0))]) (aM (aW (d:=.int (if lvg ms cs then 1 else 0)) ?_)) (bS (kf (bW (fL (d0:=.seq (ms.map D.int)) (d1:=.tup (cs.map fr)) rfl rfl rfl) (xs:=(bmo ms cs).map fr) (u6 ms cs fun m hm c hc=>Gd) ?_) rfl (jP _)))))
   . rw [Zg];omega
   . show ((cO ((lvL ms cs).map D.bl)).bind fun bs=>some (D.bl (bs.any id)))=_
     rw [hX,<- vc];rfl
   . simp only [ae,fC,fT,asB,Zc,Zd,Ze,fIf];cases lvg ms cs <;> rfl
   . unfold bmo;rw [Zg];omega
theorem lJ:au ["cell","count"] ["cell"] (aj ij):=⟨rfl,rfl,rfl,by decide +kernel,rfl,by decide +kernel,by decide +kernel⟩
theorem By (n:Nat):cJ 0 (n:Int) 1=(List.range n).map fun (i:Nat)=>D.int (i:Int):=by
 have e:(((n:Int) - 0+1 - 1) / 1).toNat=n:=by omega
 unfold cJ;rw [e]
 congr 1
 funext i
 congr 1
 omega
theorem Fe {b:Int} (h:0<=b) (g:b<=1000):asR [.int b]=some (cJ 0 b 1):=by
 show (if -(2 ^ 62)<=b/\b < 2 ^ 62 then some (cJ 0 b 1) else none)=_
 rw [if_pos (by omega)]
theorem DU {n:Nat} (h:n<=1000):asR [.int (n:Int)]=some ((List.range n).map fun (i:Nat)=>D.int (i:Int)):=by
 rw [Fe (by omega) (by omega),By]
theorem DT {g:FA} {δ:DS} {ds xs:List D} (h:g δ=some ds) (k:asR ds=some xs):xC g δ=some xs:=by unfold xC;rw [h];exact k
theorem Cg {g:FA} {δ:DS} {n:Nat} (h:g δ=some [.int (n:Int)]) (l:n<=1000):xC g δ=some ((List.range n).map fun (i:Nat)=>D.int (i:Int)):=DT h (DU l)
theorem j5 {α:Type} {f:D->Option D} {g h:α->D}:∀ (cs:List α),(∀ c∈cs,f (g c)=some (h c))->nv f (cs.map g)=some (cs.map h)
 | [],_=>rfl
 | c :: cs,e=>by
  show ((f (g c)).bind fun x=>(nv f (cs.map g)).bind fun xs=>some (x :: xs))=_
  rw [e c Zi,j5 cs fun x m=>e x (Zj _ m)]
  rfl
theorem Gc {cs:List (Int×Int)} {n:Nat} {i:Nat} (l:cs.length<=4):Dl.ownOf (gA (fn jS) (ac (ae 1) (ac (f2 (gI0 fun i j=>.int (i - j)) (f2 (gI0 fun i j=>.int (i - j)) (ae 2) (fC (.int 1))) (ae 0)) ah))) (shO (some (.int (i:Int)) :: aX [0,1] [some (.tup (cs.map fr)),some (.int (n:Int))]))=some (tpD (cor ((n:Int) - 1 - (i:Int)) cs)):=by
 have e:shO (some (.int (i:Int)) :: aX [0,1] [some (.tup (cs.map fr)),some (.int (n:Int))])=[some (.int (i:Int)),some (.tup (cs.map fr)),some (.int (n:Int))]:=by
  show [some (D.int (i:Int)),some (sh (.tup (cs.map fr))),some (.int (n:Int))]=_;rw [dY]
 rw [e];unfold Dl.ownOf;rw [eU (ds:=[.tup (cs.map fr),.int ((n:Int) - 1 - (i:Int))]) rfl (zL l) (cZ _)];show (if own (tpD _)=true then _ else _)=_
 rw [if_pos (show own (tpD _)=true from cZ _)]
theorem tD (F:Fun K "corners" "corners" ij f fd)  (hranks_of:HasF P w K mg base 1 "ranks_of" ["cell"] (fn gu)) (hcorner:HasF P w K mg base 1 "corner" ["cell","level"] (fn jS))  (m_len:mg "len" = none) (m_range:mg "range" = none):FnOk P w K mg base CX0 2 f fd ["cell"] (bq K 1 (fn dU)):=by
 have sc:=lJ;refine bE F lJ (fun cdv A outer s H E ds d hr hG hl=>?_)
 obtain ⟨cs,k,rfl,rfl⟩:=aQ hG;have hown:own (.lst ((cnr cs).map tpD))=true:=pC _;refine ⟨_,(ax (bJ 1 sc.nd (ay (aL aI c6 rfl m_len PySem.boot_len (aa (ar hranks_of.has hr (aa (ab 0) af)) af))))
  (aP (bj (AB (by exact (lX rfl m_range (aa (ab 1) af))) (N:=["number","cell","count"]) (js:=[0,1]) (cl:=[("count",_),("cell",_)]) (fun _ _ _ _ _=>by exact (c9 hcorner hr (aa (ab 1) (aa (jb (jb (ab 2) ag) (ab 0)) af)))) (by exact CompOk.swp))))),?_,?own⟩
 case own=>first | rfl | exact hown
 . show aC ((?f:SD) (aE 2 _))=_;have e0:aE 2 [.tup (cs.map fr)]=[some (.tup (cs.map fr)),none]:=by
    show [some (sh (.tup (cs.map fr))),none]=_;rw [dY]
   rw [e0];have er:=mM (d0:=.tup (cs.map fr)) (cs:=cs) (by rw [dY];rfl) k
   have l5:(fu (0 :: cs.map (·.2))).length<=5:=List.length_filter_le _ _;refine dc (ao (δ':=[some (.tup (cs.map fr)),some (.int ((fu (0 :: cs.map (·.2))).length:Int))]) (aM (aW (d:=.int ((fu (0 :: cs.map (·.2))).length:Int)) ?_)) (bS (δ':=[some (.tup (cs.map fr)),some (.int ((fu (0 :: cs.map (·.2))).length:Int))]) ?_))
   . simp only [ae,ah,ac,ak,Zc,Zd,er];show some (D.int (((fu (0 :: cs.map (·.2))).map D.int).length:Int))=_;rw [Zg]
   . unfold xo;rw [Cg (n:=(fu (0 :: cs.map (·.2))).length) rfl (by omega)]
     dsimp only [Option.bind_some];rw [j5 (h:=fun (i:Nat)=>tpD (cor (((fu (0 :: cs.map (·.2))).length:Int) - 1 - (i:Int)) cs)) (List.range _) fun i _=>Gc k.le]
     dsimp only [Option.bind_some];rw [if_pos (by rw [Zg,List.length_range];omega)]
     unfold cnr cnN;rw [List.map_map];rfl
theorem kq:au ["_law_one","_law_other"] ["_law_one","_law_other"] (aj fV):=⟨rfl,rfl,rfl,by decide +kernel,rfl,by decide +kernel,by decide +kernel⟩
theorem DY {x y:Int} (h:Md x) (k:Md y):Bd (x*y):=(Sm.mul h k).mono (l:=9000) (by decide)
theorem qR (F:Fun K "_law_sum" "_law_sum" fV f fd)  (hLlow:Has P w K mg base 1 "_law_low" ["_law_top","_law_bottom"] (fn ba))  :FnOk P w K mg base CX0 2 f fd ["_law_one","_law_other"] (bf K 2 (fn aZ)):=by
 have sc:=kq;refine bI F kq (fun cdv A outer s H E ds d hr hG hl=>?_)
 obtain ⟨⟨a,b⟩,⟨c,e⟩,h,k,rfl,rfl⟩:=aQ hG;refine ⟨_,(aH (aY (ar hLlow hr (aa (dC (cj (av (ab 0) ag) (av (ab 1) ag)) (cj (av (ab 1) ag) (av (ab 0) ag))) (aa (cj (av (ab 0) ag) (av (ab 1) ag)) af))))),?_⟩
 . show aC ((?f:SD) [some _,some _])=_;have pb:=Int.mul_pos h.pos k.pos;have bb:Bd (b*e):=DY h.s2 k.s2;have m1:aG a e:=⟨h.s1.bd,k.s2.bd⟩;have m2:aG c b:=⟨k.s1.bd,h.s2.bd⟩;have m3:aG b e:=⟨h.s2.bd,k.s2.bd⟩;simp only [aC,eW,ae,fC,f2,ah,ac,ak,bm,bt,bD,Zc,Zd,Ze,aB (C:=aG) m1,aB (C:=aG) m2,aB (C:=aG) m3,gk (t:=a*e+c*b) pb bb];rfl
theorem jx:au ["_law_purse_here","_law_most","_law_hands","_law_kind","_law_whole_here","_law_share","_law_bottom","_law_far","_law_top"] ["_law_purse_here","_law_most","_law_hands"] (aj eI):=⟨rfl,rfl,rfl,by decide +kernel,rfl,by decide +kernel,by decide +kernel⟩
theorem pG (F:Fun K "_law_time" "_law_time" eI f fd)  (hLtake:m6 P w K mg base 1 "_law_take" ["_law_purse_here","_law_many"] (fnM aq)) (hLlow:Has P w K mg base 1 "_law_low" ["_law_top","_law_bottom"] (fn ba))  (m_len:mg "len" = none):FnOk P w K mg base CX0 2 f fd ["_law_purse_here","_law_most","_law_hands"] (qv K 3 (fnM bH)):=by
 have sc:=jx;refine jF F jx (fun cdv A outer s H E Z d0 es d0' r hr zk hG hl=>?_)
 obtain ⟨d1,fs,h1,h2⟩:=k8 hG;cases h1;refine ⟨_,(bw (d5 3 zk sc.nd (bO 0 hLtake hr (cw ag bQ)))
  (bw (d5 4 zk sc.nd (bO 0 hLtake hr (cw (dC (ab 1) ag) bQ)))
  (bw (d5 5 zk sc.nd (eL (ay (bM (aa ag (aa ag af))))))
  (bw (uM (jG hr.units (ab 3) ag) (bw (d5 6 zk sc.nd (CK (eL (ay ag)) (bO 0 hLtake hr (cw ag bQ))))
   (fZ (d5 5 zk sc.nd (xX (d4 (bO 0 hLtake hr (cw (ab 6) bQ)) (d4 (eL (bZ 6)) kQ)))))) ph)
  (bw (uM (jG hr.units (ab 3) ag) (bw (d5 7 zk sc.nd (xY (eL (i7 (cn (ay (yr ag ag)) (cn (ay (yr ag ag)) dO)))) (bO 0 hLtake hr (cw ag bQ))))
   (fZ (d5 5 zk sc.nd (xX (d4 (bO 0 hLtake hr (cw (ab 7) bQ)) (d4 (eL (bZ 7)) kQ)))))) ph)
  (bw (uM (PWD.pt (pe (jG hr.units (ab 3) ag) (lR (iq hr.units (ab 2) (yw af))))) (bw (EM [8,6] zk (xY (eL (bZ 2)) (bO 0 hLtake hr (cw (aL aI c6 rfl m_len PySem.boot_len (aa (ab 2) af)) bQ))) (dB rfl (aF (pgN 8 sc.nd) (aF (pgN 6 sc.nd) cu))))
   (fZ (d5 5 zk sc.nd (eL (ay (bM (aa (eY (ab 8) (ab 6)) (aa (ab 6) af)))))))) ph)
  (fZ (lT (eL (ay (ar hLlow hr (aa (dC (cj (ab 4) (av (ab 5) ag)) (av (ab 5) ag)) (aa (av (ab 5) ag) af))))))))))))),?_⟩
 . rw [show (["_law_purse_here","_law_most","_law_hands","_law_kind","_law_whole_here","_law_share","_law_bottom","_law_far","_law_top"]:List Str).length=9 from rfl]
   exact h2
theorem gC:au ["_law_purse_here"] ["_law_purse_here"] (aj cG):=⟨rfl,rfl,rfl,by decide +kernel,rfl,by decide +kernel,by decide +kernel⟩
theorem kF (F:Fun K "_law_numbers" "_law_numbers" cG f fd)  (hLtake:m6 P w K mg base 1 "_law_take" ["_law_purse_here","_law_many"] (fnM aq))  (m_range:mg "range" = none):FnOk P w K mg base CX0 2 f fd ["_law_purse_here"] (qv K 1 (fnM bV)):=by
 have sc:=gC;refine jF F gC (fun cdv A outer s H E Z d0 es d0' r hr zk hG hl=>?_)
 obtain ⟨d1,fs,h1,h2⟩:=k8 hG;cases h1;refine ⟨_,(fZ (lT (Az 0 (by exact (wx rfl m_range (d4 (bO 0 hLtake hr (cw ag bQ)) kQ))) (N:=["_law_k","_law_purse_here"]) (cl:=[("_law_purse_here",_)]) (fun _ _ _ _ _=>by exact (xY (CI (d4 (bO 1 hLtake hr (cw ag bQ)) (d4 (bO 1 hLtake hr (cw ag bQ)) kQ))) (bO 1 hLtake hr (cw ag bQ)))) (by exact CompOk.one)))),?_⟩
 . rw [show (["_law_purse_here"]:List Str).length=1 from rfl]
   exact h2
theorem iP:au ["_law_most","_law_here","_law_after","_law_some","_law_more","_law_first","_law_known_here","_law_c"] ["_law_most","_law_here","_law_after","_law_some","_law_more"] (aj dN):=⟨rfl,rfl,rfl,by decide +kernel,rfl,by decide +kernel,by decide +kernel⟩
def goB:SD:=((sIf (fT (ak Bp (ac (zF (dX (fun δ=>((ae 6) δ).bind asL) 1 [7,5,4,3] (nw 0) (fun _=>some true) (vI (f2 cf (f2 gIx (f2 gIx (ae 4) (ae 1)) (ae 0)) (f2 gIx (f2 gIx (ae 3) (f2 (gI0 fun i j=>.int (i - j)) (ae 1) (ae 2))) (ae 0)))))) ah))) (dZ (vI (fC (.bl false)))) cI))
theorem FX {ms:List Int} {ct:List (Int×Int)} {k:Nat} {o1 o3 o4 o5 o6 o7:Option D} (hm:k < ms.length) (hc:k < ct.length):bR 1 [2,0] (nw 0) (fT (f2 gLe (f2 gIx (f2 gIx (ae 1) (ae 0)) (fC (.int 0))) (f2 gIx (ae 2) (ae 0)))) (bF 0) [some (.seq (ms.map D.int)),o1,some (.tup (ct.map fr)),o3,o4,o5,o6,o7] (.int (k:Int))=some (if decide ((ct.getD k (0,0)).1<=ms.getD k 0) then some (.int (k:Int)) else none):=by
 show ((fT (f2 gLe (f2 gIx (f2 gIx (ae 1) (ae 0)) (fC (.int 0))) (f2 gIx (ae 2) (ae 0))) [some (.int (k:Int)),some (.tup (ct.map fr)),some (.seq (ms.map D.int))]).bind fun b=>if b then (Dl.ownOf (bF 0) (shO [some (.int (k:Int)),some (.tup (ct.map fr)),some (.seq (ms.map D.int))])).map some else some none)=_
 have i1:gIx (.tup (ct.map fr)) (.int (k:Int))=some (fr (ct.getD k (0,0))):=by
  show L2.atI (ct.map fr) (k:Int)=_;refine L2.atI_nat ?_;rw [ZD,Zp hc,Zo,Zp hc];rfl
 have i2:gIx (.seq (ms.map D.int)) (.int (k:Int))=some (.int (ms.getD k 0)):=by
  show L2.atI (ms.map D.int) (k:Int)=_;refine L2.atI_nat ?_;rw [ZD,Zp hm,Zo,Zp hm];rfl
 have c:fT (f2 gLe (f2 gIx (f2 gIx (ae 1) (ae 0)) (fC (.int 0))) (f2 gIx (ae 2) (ae 0))) [some (.int (k:Int)),some (.tup (ct.map fr)),some (.seq (ms.map D.int))]=some (decide ((ct.getD k (0,0)).1<=ms.getD k 0)):=by
  simp only [ae,fC,f2,fT,asB,bm,gI0,Zc,Zd,Ze,i1,i2,gLe]
 rw [c];cases decide ((ct.getD k (0,0)).1<=ms.getD k 0) <;> rfl
theorem BL {xs:List (List Int)} {c:Nat} (h:c < xs.length):gIx (.seq (xs.map tpD)) (.int (c:Int))=some (tpD (xs.getD c [])):=by
 show L2.atI (xs.map tpD) (c:Int)=_;refine L2.atI_nat ?_;rw [ZD,Zp h,Zo,Zp h];rfl
theorem vt {xs:List (List Int)} {c:Nat} (h:c < xs.length):xs.getD c []∈xs:=by
 rw [Zo,Zp h];exact List.getElem_mem h
theorem FW {f:Nat} {ms:List Int} {cs ct:List (Int×Int)} {xs ys:List (List Int)} {c k:Nat} {o0 o1 o2 o6:Option D} (G:xj f ms cs ct xs ys) (fc:f<=c) (hc:c < xs.length) (hk:k < ms.length) (kn:(ct.getD k (0,0)).1<=ms.getD k 0):bR 1 [7,5,4,3] (nw 0) (fun _=>some true) (vI (f2 cf (f2 gIx (f2 gIx (ae 4) (ae 1)) (ae 0)) (f2 gIx (f2 gIx (ae 3) (f2 (gI0 fun i j=>.int (i - j)) (ae 1) (ae 2))) (ae 0)))) [o0,o1,o2,some (.seq (xs.map tpD)),some (.seq (ys.map tpD)),some (.int (f:Int)),o6,some (.int (c:Int))] (.int (k:Int))=some (some (.bl false)):=by
 show ((Dl.ownOf (vI (f2 cf (f2 gIx (f2 gIx (ae 4) (ae 1)) (ae 0)) (f2 gIx (f2 gIx (ae 3) (f2 (gI0 fun i j=>.int (i - j)) (ae 1) (ae 2))) (ae 0)))) (shO [some (.int (k:Int)),some (.int (c:Int)),some (.int (f:Int)),some (.seq (ys.map tpD)),some (.seq (xs.map tpD))])).map some)=_
 have e:shO [some (.int (k:Int)),some (.int (c:Int)),some (.int (f:Int)),some (.seq (ys.map tpD)),some (.seq (xs.map tpD))]=[some (.int (k:Int)),some (.int (c:Int)),some (.int (f:Int)),some (.seq (ys.map tpD)),some (.seq (xs.map tpD))]:=by
  show [some (D.int (k:Int)),some (.int (c:Int)),some (.int (f:Int)),some (sh (.seq (ys.map tpD))),some (sh (.seq (xs.map tpD)))]=_;rw [jV,jV]
 rw [e];have le:=G.le;have hy:c - f < ys.length:=by omega
 have ok:=G.ok c k fc hc hk kn;have i1:=BL hc;have i2:=BL hy;have i3:=xv (x:=xs.getD c []) (k:=k) (by rw [G.xl _ (vt hc)];exact hk)
 have i4:=xv (x:=ys.getD (c - f) []) (k:=k) (by rw [G.yl _ (vt hy)];exact hk)
 rw [<- ok] at i4;have sb:(c:Int) - (f:Int)=((c - f:Nat):Int):=by omega
 have ne:∀ z:Int,cf (.int z) (.int z)=some (.bl false):=fun z=>by
  show some (D.bl (!(z == z)))=_;simp
 unfold Dl.ownOf;rw [aW (d:=.bl false) ?_]
 . rfl
 . simp only [ae,f2,gI0,Zc,Zd,Ze,i1,i3,sb,i2,i4,ne]
theorem EY (ks:List Nat):sh (.lst (ks.map fun (k:Nat)=>D.int (k:Int)))=.seq (ks.map fun (k:Nat)=>D.int (k:Int)):=by
 have:=gN (ks.map fun (k:Nat)=>(k:Int))
 rw [List.map_map] at this;exact this
theorem Bo {f:Nat} {ms:List Int} {cs ct:List (Int×Int)} {xs ys:List (List Int)} {ks:List Nat} {c:Nat} {o0 o1 o2:Option D} (G:xj f ms cs ct xs ys) (fc:f<=c) (hc:c < xs.length) (kl:ks.length<=4) (kk:∀ k∈ks,k < ms.length/\(ct.getD k (0,0)).1<=ms.getD k 0):goB [o0,o1,o2,some (.seq (xs.map tpD)),some (.seq (ys.map tpD)),some (.int (f:Int)),some (.lst (ks.map fun (k:Nat)=>D.int (k:Int))),some (.int (c:Int))]=some (.nx [o0,o1,o2,some (.seq (xs.map tpD)),some (.seq (ys.map tpD)),some (.int (f:Int)),some (.lst (ks.map fun (k:Nat)=>D.int (k:Int))),some (.int (c:Int))]):=by
 refine bc ?_ rfl;have cg:∀ o0 o1 o2:Option D,dX (fun δ=>((ae 6) δ).bind asL) 1 [7,5,4,3] (nw 0) (fun _=>some true) (vI (f2 cf (f2 gIx (f2 gIx (ae 4) (ae 1)) (ae 0)) (f2 gIx (f2 gIx (ae 3) (f2 (gI0 fun i j=>.int (i - j)) (ae 1) (ae 2))) (ae 0)))) [o0,o1,o2,some (.seq (xs.map tpD)),some (.seq (ys.map tpD)),some (.int (f:Int)),some (.seq (ks.map fun (k:Nat)=>D.int (k:Int))),some (.int (c:Int))]=some (.lst ((ks.map fun _=>false).map D.bl),[o0,o1,o2,some (.seq (xs.map tpD)),some (.seq (ys.map tpD)),some (.int (f:Int)),some (.seq (ks.map fun (k:Nat)=>D.int (k:Int))),some (.int (c:Int))]):=fun o0 o1 o2=>by
  refine bW (ds:=ks.map fun (k:Nat)=>D.int (k:Int)) rfl ?_ (by rw [Zg,Zg];omega)
  rw [List.map_map];exact gU ks fun k mk=>FW G fc hc (kk k mk).1 (kk k mk).2
 have fo:zF (dX (fun δ=>((ae 6) δ).bind asL) 1 [7,5,4,3] (nw 0) (fun _=>some true) (vI (f2 cf (f2 gIx (f2 gIx (ae 4) (ae 1)) (ae 0)) (f2 gIx (f2 gIx (ae 3) (f2 (gI0 fun i j=>.int (i - j)) (ae 1) (ae 2))) (ae 0))))) [o0,o1,o2,some (.seq (xs.map tpD)),some (.seq (ys.map tpD)),some (.int (f:Int)),some (.lst (ks.map fun (k:Nat)=>D.int (k:Int))),some (.int (c:Int))]=some (.lst ((ks.map fun _=>false).map D.bl)):=by
  unfold zF;have e:shO [o0,o1,o2,some (.seq (xs.map tpD)),some (.seq (ys.map tpD)),some (.int (f:Int)),some (.lst (ks.map fun (k:Nat)=>D.int (k:Int))),some (.int (c:Int))]=[o0.map sh,o1.map sh,o2.map sh,some (.seq (xs.map tpD)),some (.seq (ys.map tpD)),some (.int (f:Int)),some (.seq (ks.map fun (k:Nat)=>D.int (k:Int))),some (.int (c:Int))]:=by
   show [o0.map sh,o1.map sh,o2.map sh,some (sh (.seq (xs.map tpD))),some (sh (.seq (ys.map tpD))),some (.int (f:Int)),some (sh (.lst (ks.map fun (k:Nat)=>D.int (k:Int)))),some (.int (c:Int))]=_
   rw [jV,jV,EY]
  rw [e,cg];rfl
 have an:Bp [.lst ((ks.map fun _=>false).map D.bl)]=some (.bl false):=by
  show ((cO ((ks.map fun _=>false).map D.bl)).bind fun bs=>some (D.bl (bs.any id)))=_
  rw [hX];show some (D.bl ((ks.map fun _=>false).any id))=_
  congr 2
  simp
 have fc':=gj fo an;unfold fT;rw [fc'];rfl
theorem vq {f:Nat} {ms:List Int} {cs ct:List (Int×Int)} {xs ys:List (List Int)} {ks:List Nat} {o0 o1 o2:Option D} (G:xj f ms cs ct xs ys) (kl:ks.length<=4) (kk:∀ k∈ks,k < ms.length/\(ct.getD k (0,0)).1<=ms.getD k 0):∀ (js:List Nat) (o7:Option D),(∀ c∈js,f<=c/\c < xs.length)->∃ p7,Dl.forM 7 goB (js.map fun (c:Nat)=>D.int (c:Int)) [o0,o1,o2,some (.seq (xs.map tpD)),some (.seq (ys.map tpD)),some (.int (f:Int)),some (.lst (ks.map fun (k:Nat)=>D.int (k:Int))),o7]=some (.nx [o0,o1,o2,some (.seq (xs.map tpD)),some (.seq (ys.map tpD)),some (.int (f:Int)),some (.lst (ks.map fun (k:Nat)=>D.int (k:Int))),p7])
 | [],o7,_=>⟨o7,rfl⟩
 | c :: js,o7,h=>by
  obtain ⟨p7,ih⟩:=vq (o0:=o0) (o1:=o1) (o2:=o2) G kl kk js (some (.int (c:Int))) fun x m=>h x (Zj _ m)
  have hc:=h c Zi;refine ⟨p7,?_⟩;show ((goB [o0,o1,o2,some (.seq (xs.map tpD)),some (.seq (ys.map tpD)),some (.int (f:Int)),some (.lst (ks.map fun (k:Nat)=>D.int (k:Int))),some (.int (c:Int))]).bind _)=_
  rw [Bo G hc.1 hc.2 kl kk];exact ih
theorem Ai {g:FA} {δ:DS} {i j:Int} (h:g δ=some [.int i,.int j]) (a:0<=i) (a':i<=1000) (b:0<=j) (b':j<=1000):jo g δ=some ((List.range (j - i).toNat).map fun k=>D.int (i+((k:Nat):Int)),δ):=by
 unfold jo xB;rw [h];show ((if -(2 ^ 62)<=i/\i < 2 ^ 62/\-(2 ^ 62)<=j/\j < 2 ^ 62 then some ((List.range (j - i).toNat).map fun k=>D.int (i+((k:Nat):Int))) else none).bind _)=_
 rw [if_pos (by omega)]
 rfl
theorem Ck {g:FA} {δ:DS} {f n:Nat} (h:g δ=some [.int (f:Int),.int (n:Int)]) (l:f<=1000) (l':n<=1000):jo g δ=some (((List.range (n - f)).map fun (k:Nat)=>f+k).map (fun (c:Nat)=>D.int (c:Int)),δ):=by
 rw [Ai h (by omega) (by omega) (by omega) (by omega),List.map_map]
 have e:((n:Int) - (f:Int)).toNat=n - f:=by omega
 rw [e]
 congr 2
theorem nu (F:Fun K "_law_go_on" "_law_go_on" dN f fd)  (his_moment:HasF P w K mg base 1 "is_moment" ["most","cell"] (fn du))  (m_int:mg "int" = none) (m_range:mg "range" = none) (m_len:mg "len" = none) (m_any:mg "any" = none):FnOk P w K mg base CX0 2 f fd ["_law_most","_law_here","_law_after","_law_some","_law_more"] (bq K 5 (fn cS)):=by
 have sc:=iP;refine bE F iP (fun cdv A outer s H E ds d hr hG hl=>?_)
 obtain ⟨f,ms,cs,ct,xs,ys,G,rfl,rfl⟩:=aQ hG;refine ⟨_,(ax (bJ 5 sc.nd (ay (nW xg DQ rfl m_int boot_int (aa (tj (ar his_moment.has hr (aa (ab 0) (aa (ab 1) af)))) af))))
  (ax (qJ 6 sc.nd (by exact (lX rfl m_range (aa (aL aI c6 rfl m_len PySem.boot_len (aa (ab 0) af)) af))) (T:=["_law_k"]) (N:=["_law_k","_law_after","_law_most"]) (js:=[2,0]) (cl:=[("_law_most",_),("_law_after",_)]) (fun _ _ _ _ _=>by exact (jJ 0 (show List.Nodup (["_law_k","_law_after","_law_most"]:List Str) from by decide +kernel))) (iA 0 (by decide)) (fun _ _ _ _ _=>by exact (jI (x9 (av (av (ab 1) (ab 0)) ag) (av (ab 2) (ab 0))))) (fun _ _ _ _ _=>by exact (bZ 0)) (by exact CompG.of (T:=["_law_k"]) (Z:=["_law_after","_law_most"]) (Y:=["_law_most","_law_after"]) (hcl:=(by intro p hp;simp only [Zn,Zz,or_false] at hp;rcases hp with rfl | rfl <;> rfl)) (hN:=(by intro i y j h1 h2;match i,h1,h2 with | 0,h1,h2=>cases h1;cases h2;exact ⟨rfl,rfl,rfl⟩ | 1,h1,h2=>cases h1;cases h2;exact ⟨rfl,rfl,rfl⟩ | n+2,h1,h2=>cases h1))))
  (ax (lW 7 sc.nd PassesOwn.never rfl (sY rfl m_range (aa (ab 5) (aa (aL aI c6 rfl m_len PySem.boot_len (aa (ab 3) af)) af)))
   (aP (iR (ca (aL (mW rfl) t8 rfl m_any j8 (aa (C8 (bT (by exact (gS (ab 6))) (T:=["_law_k"]) (N:=["_law_k","_law_c","_law_first","_law_more","_law_some"]) (js:=[7,5,4,3]) (cl:=[("_law_some",_),("_law_more",_),("_law_first",_),("_law_c",_)]) (fun _ _ _ _ _=>by exact (jJ 0 (show List.Nodup (["_law_k","_law_c","_law_first","_law_more","_law_some"]:List Str) from by decide +kernel))) (iA 0 (by decide)) (fun _ _ _ _ _=>by exact eM) (fun _ _ _ _ _=>by exact (ay (C9 hr.units (av (av (ab 4) (ab 1)) (ab 0)) (av (av (ab 3) (jb (ab 1) (ab 2))) (ab 0))))) (by exact CompG.of (T:=["_law_k"]) (Z:=["_law_c","_law_first","_law_more","_law_some"]) (Y:=["_law_some","_law_more","_law_first","_law_c"]) (hcl:=(by intro p hp;simp only [Zn,Zz,or_false] at hp;rcases hp with rfl | rfl | rfl | rfl <;> rfl)) (hN:=(by intro i y j h1 h2;match i,h1,h2 with | 0,h1,h2=>cases h1;cases h2;exact ⟨rfl,rfl,rfl⟩ | 1,h1,h2=>cases h1;cases h2;exact ⟨rfl,rfl,rfl⟩ | 2,h1,h2=>cases h1;cases h2;exact ⟨rfl,rfl,rfl⟩ | 3,h1,h2=>cases h1;cases h2;exact ⟨rfl,rfl,rfl⟩ | n+4,h1,h2=>cases h1))))) af))) (aP (bj (ay gT))) eX)))
  (aP (bj (ay gT)))))),?_,?own⟩
 case own=>first | rfl | exact hown
 . show aC ((?f:SD) (aE 8 _))=_;have e0:aE 8 [.lst (ms.map D.int),.tup (cs.map fr),.tup (ct.map fr),.lst (xs.map tpD),.lst (ys.map tpD)]=[some (.seq (ms.map D.int)),some (.tup (cs.map fr)),some (.tup (ct.map fr)),some (.seq (xs.map tpD)),some (.seq (ys.map tpD)),none,none,none]:=by
    show [some (sh (.lst (ms.map D.int))),some (sh (.tup (cs.map fr))),some (sh (.tup (ct.map fr))),some (sh (.lst (xs.map tpD))),some (sh (.lst (ys.map tpD))),none,none,none]=_;rw [gN,dY,dY,sS,sS]
   rw [e0];have l4:=G.l4;have x5:=G.x5;have l2:=G.l2;have f1':f<=1:=by rw [G.fi];split <;> omega
   have em:=kB (d0:=.seq (ms.map D.int)) (cs:=cs) (i0 ms) (by rw [G.l1];exact l4)
   obtain ⟨p7,lp⟩:=vq (ks:=(List.range ms.length).filter fun k=>decide ((ct.getD k (0,0)).1<=ms.getD k 0)) (o0:=some (.seq (ms.map D.int))) (o1:=some (.tup (cs.map fr))) (o2:=some (.tup (ct.map fr))) G (by
    have:=List.length_filter_le (fun k=>decide ((ct.getD k (0,0)).1<=ms.getD k 0)) (List.range ms.length)
    rw [List.length_range] at this;omega) (fun k mk=>by
    obtain ⟨a,b⟩:=List.mem_filter.mp mk;exact ⟨List.mem_range.mp a,of_decide_eq_true b⟩) ((List.range (xs.length - f)).map fun (k:Nat)=>f+k) none fun c mc=>by
    obtain ⟨k,mk,rfl⟩:=Zl.mp mc;have:=List.mem_range.mp mk;omega
   refine dc (ao (δ':=[some (.seq (ms.map D.int)),some (.tup (cs.map fr)),some (.tup (ct.map fr)),some (.seq (xs.map tpD)),some (.seq (ys.map tpD)),some (.int (f:Int)),none,none]) (aM (aW (d:=.int (f:Int)) ?_)) (ao (δ':=[some (.seq (ms.map D.int)),some (.tup (cs.map fr)),some (.tup (ct.map fr)),some (.seq (xs.map tpD)),some (.seq (ys.map tpD)),some (.int (f:Int)),some (.lst (((List.range ms.length).filter fun k=>decide ((ct.getD k (0,0)).1<=ms.getD k 0)).map fun (k:Nat)=>D.int (k:Int))),none]) (aM (bW (ds:=(List.range ms.length).map fun (k:Nat)=>D.int (k:Int)) (Cg ?_ (by omega)) (eP (fun k=>decide ((ct.getD k (0,0)).1<=ms.getD k 0)) (List.range ms.length) fun k mk=>FX (List.mem_range.mp mk) (by have:=List.mem_range.mp mk;omega)) ?_)) (ao (iZ (Ck (f:=f) (n:=xs.length) ?_ (by omega) (by omega)) lp) (bS (aW (d:=.bl true) rfl)))))
   . have:(if (!mom ms cs)=true then (1:Int) else 0)=(f:Int):=by rw [G.fi];cases mom ms cs <;> rfl
     rw [<- this];simp only [ae,f1,E9,ah,ac,ak,DI,Zc,Zd,Ze,em]
   . show some [D.int ((ms.map D.int).length:Int)]=_;rw [Zg]
   . rw [Zg];have:=List.length_filter_le (fun k=>decide ((ct.getD k (0,0)).1<=ms.getD k 0)) (List.range ms.length)
     rw [List.length_range] at this;omega
   . show some [D.int (f:Int),D.int ((xs.map tpD).length:Int)]=_;rw [Zg]
theorem km:au ["top","bottom"] ["top","bottom"] (aj cz):=⟨rfl,rfl,rfl,by decide +kernel,rfl,by decide +kernel,by decide +kernel⟩
theorem ky {dV:Value} (F:FunD K "fraction" "fraction" cz f fd dV)  (hlowest:Has P w K mg base 2 "lowest" ["top","bottom"] (fn m5)) (his_whole:Has P w K mg base 1 "is_whole" ["thing"] (fn gv))  :FnOk P w K mg base CX0 3 f fd ["top","bottom"] (bf K 2 (fn bg)):=by
 have sc:=km;refine x3 F km (fun cdv A outer s H E ds d hr hG hl=>?_)
 obtain ⟨t,b,hb,hB,rfl,rfl⟩:=aQ hG;refine ⟨_,(aK (i9 (PWD.pt (pd (dP (ca (ar his_whole hr (aa (ab 0) af)))) (pc (dP (ca (ar his_whole hr (aa (ab 1) af))))))) (aH nR) gb)
  (aK (i9 (CQ hr.units0 (ab 1) ag) (aH nR) gb)
  (aK (i9 (pi (ab 1) ag) (aH (aY (ar hlowest hr (aa (gd (ab 0)) (aa (gd (ab 1)) af))))) gb)
  (aH (aY (ar hlowest hr (aa (ab 0) (aa (ab 1) af)))))))),?_⟩
 . show aC ((?f:SD) [some _,some _])=_;have h0:(b == 0)=false:=by simp [hb]
   by_cases hn:b < 0
   . have h1:decide (b < 0)=true:=Zw hn;simp only [aC,cI,gE,aN,eW,sIf,ae,fC,f2,f1,fT,asB,bG,mK,j6,ah,ac,ak,gI0,vD,Zc,Option.map_some,Zd,Ze,Bool.not_true,d7 (x:=.int t) rfl,d7 (x:=.int b) rfl,h0,h1,rX (t:=-t) (b:=-b) (by omega) (DX hB)]
     unfold low;rw [if_pos hn]
   . have h1:decide (b < 0)=false:=Zv hn;simp only [aC,cI,gE,aN,eW,sIf,ae,fC,f2,f1,fT,asB,bG,mK,j6,ah,ac,ak,gI0,vD,Zc,Option.map_some,Zd,Ze,Bool.not_true,d7 (x:=.int t) rfl,d7 (x:=.int b) rfl,h0,h1,rX (t:=t) (b:=b) (by omega) hB]
     unfold low;rw [if_neg hn]
theorem qD:au ["one","other"] ["one","other"] (aj kP):=⟨rfl,rfl,rfl,by decide +kernel,rfl,by decide +kernel,by decide +kernel⟩
theorem yI (F:Fun K "minus" "minus" kP f fd)  (hsummed:Has P w K mg base 2 "summed" ["one","top","bottom"] (fn jR))  :FnOk P w K mg base CX0 3 f fd ["one","other"] (bf K 2 (fn qr)):=by
 have sc:=qD;refine bI F qD (fun cdv A outer s H E ds d hr hG hl=>?_)
 obtain ⟨⟨a,b⟩,⟨c,e⟩,hp,hq,rfl,rfl⟩:=aQ hG;refine ⟨_,(aH (aY (ar hsummed hr (aa (ab 0) (aa (gd (av (ab 1) ag)) (aa (av (ab 1) ag) af)))))),?_⟩
 . show aC ((?f:SD) [some _,some _])=_;have h:=zK hp hq.neg;have h':fn jR [.tup [.int a,.int b],.int (-c),.int e]=some (fr (mi (a,b) (c,e))):=by rw [EW hp.lw hq.lw];exact h
   simp only [aC,eW,ae,fC,f2,f1,j6,ah,ac,ak,bm,bt,Zc,Zd,Ze,h']
theorem jv:au ["most","cell","last"] ["most","cell"] (aj eE):=⟨rfl,rfl,rfl,by decide +kernel,rfl,by decide +kernel,by decide +kernel⟩
theorem FH {c:Int×Int} {L:Int} {o0 o1:Option D}:bR 2 [2] (gDs [0,1]) (fun _=>some true) (vI (fIf (fT (f2 dg (ae 1) (ae 2))) (cC (ac (f2 jd (ae 0) (fC (.int 1))) (ac (fC (.int 0)) ah))) (cC (ac (ae 0) (ac (ae 1) ah))))) [o0,o1,some (.int L)] (fr c)=some (some (fr (stp L c))):=by
 show ((Dl.ownOf (vI (fIf (fT (f2 dg (ae 1) (ae 2))) (cC (ac (f2 jd (ae 0) (fC (.int 1))) (ac (fC (.int 0)) ah))) (cC (ac (ae 0) (ac (ae 1) ah))))) [some (.int c.1),some (.int c.2),some (.int L)]).map some)=_;have g0:dg (.int c.2) (.int L)=some (.bl (c.2 == L)):=rfl;unfold Dl.ownOf;rw [aW (d:=fr (stp L c)) ?_]
 . unfold stp;split <;> rfl
 . unfold stp
   by_cases z:c.2=L
   . have z':(c.2 == L)=true:=by simp [z]
     rw [if_pos z];simp only [ae,fC,f2,fT,asB,ah,ac,cC,bD,Zc,Zd,Ze,fIf,g0,z'];rfl
   . have z':(c.2 == L)=false:=by simp [z]
     rw [if_neg z];simp only [ae,fC,f2,fT,asB,ah,ac,cC,bD,Zc,Zd,Ze,fIf,g0,z'];rfl
theorem Bg (rs:List Int):gIx (.lst ((fu (0 :: rs)).map D.int)) (.int (-1))=some (.int (dH rs)):=by
 unfold dH;rw [qA,zD]
 by_cases a1:(1:Int)∈rs <;> by_cases a2:(2:Int)∈rs <;> by_cases a3:(3:Int)∈rs <;> by_cases a4:(4:Int)∈rs <;> simp only [a1,a2,a3,a4,decide_true,decide_false,if_true,if_false,Bool.false_eq_true] <;> rfl
theorem pE (F:Fun K "next_cell" "next_cell" eE f fd)  (his_moment:HasF P w K mg base 1 "is_moment" ["most","cell"] (fn du)) (hbehind_moment:HasF P w K mg base 2 "behind_moment" ["most","cell"] (fn dG)) (hranks_of:HasF P w K mg base 1 "ranks_of" ["cell"] (fn gu))  (m_tuple:mg "tuple" = none):FnOk P w K mg base CX0 3 f fd ["most","cell"] (bq K 2 (fn eT)):=by
 have sc:=jv;refine bE F jv (fun cdv A outer s H E ds d hr hG hl=>?_)
 obtain ⟨d0,ms,cs,h,k,rfl,rfl⟩:=aQ hG;have hown:own (nxD (nxt ms cs))=true:=yB _;refine ⟨_,(ax (iR (ca (ar his_moment.has hr (aa (ab 0) (aa (ab 1) af)))) (aP (bj (c9 hbehind_moment hr (aa (ab 0) (aa (ab 1) af))))) eX)
  (ax (bJ 2 sc.nd (ay (av (ar hranks_of.has hr (aa (ab 1) af)) (gd ag))))
  (ax (iR (jG hr.units (ab 2) ag) (aP (bj (ay yt))) eX)
  (aP (bj (kR dk hU rfl m_tuple dq (bT (by exact (kW (ab 1))) (T:=["whole","rank"]) (N:=["whole","rank","last"]) (js:=[2]) (cl:=[("last",_)]) (fun _ _ _ _ _=>by exact (cK [0,1] (dB rfl (aF (pgN 0 (show List.Nodup (["whole","rank","last"]:List Str) from by decide +kernel)) (aF (pgN 1 (show List.Nodup (["whole","rank","last"]:List Str) from by decide +kernel)) cu))))) (cN [0,1] (by decide)) (fun _ _ _ _ _=>by exact eM) (fun _ _ _ _ _=>by exact (ay (pz (jG hr.units (ab 1) (ab 2)) (bM (aa (dC (ab 0) ag) (aa ag af))) (bM (aa (ab 0) (aa (ab 1) af)))))) (by exact CompG.of (T:=["whole","rank"]) (Z:=["last"]) (Y:=["last"]) (hcl:=(by intro p hp;simp only [Zn,Zz,or_false] at hp;subst hp;rfl)) (hN:=(by intro i y j h1 h2;match i,h1,h2 with | 0,h1,h2=>cases h1;cases h2;exact ⟨rfl,rfl,rfl⟩ | n+1,h1,h2=>cases h1)))))))))),?_,?own⟩
 case own=>first | rfl | exact hown
 . show aC ((?f:SD) (aE 3 _))=_;have e0:aE 3 [d0,.tup (cs.map fr)]=[some (.seq (ms.map D.int)),some (.tup (cs.map fr)),none]:=by
    show [some (sh d0),some (sh (.tup (cs.map fr))),none]=_;rw [h,dY]
   rw [e0];have l:=k.le;have em:=kB (d0:=.seq (ms.map D.int)) (cs:=cs) (i0 ms) l;have eb:=kJ (d0:=.seq (ms.map D.int)) (cs:=cs) (i0 ms) l;have er:=mM (d0:=.tup (cs.map fr)) (cs:=cs) (by rw [dY];rfl) k
   have hc:fT (ak (fn du) (ac (ae 0) (ac (ae 1) ah))) [some (.seq (ms.map D.int)),some (.tup (cs.map fr)),none]=some (mom ms cs):=by simp only [ae,fT,asB,ah,ac,ak,Zc,Zd,Ze,em]
   unfold nxt;cases hm:mom ms cs with
   | true =>
    rw [hm] at hc;rw [if_pos rfl];exact dc (kO (eV hc (bS (eU (ds:=[.seq (ms.map D.int),.tup (cs.map fr)]) rfl eb (ce _)))))
   | false =>
    rw [hm] at hc;rw [if_neg Zs];refine dc (ao (bc hc rfl) (ao (δ':=[some (.seq (ms.map D.int)),some (.tup (cs.map fr)),some (.int (dH (cs.map (·.2))))]) (aM (aW (d:=.int (dH (cs.map (·.2)))) ?_)) ?_))
    . have ng:f1 j6 (fC (.int 1)) [some (.seq (ms.map D.int)),some (.tup (cs.map fr)),none]=some (.int (-1)):=rfl;simp only [ae,fC,f2,f1,j6,ah,ac,ak,Zc,Zd,Ze,er,Bg]
    have g0:fT (f2 dg (ae 2) (fC (.int 0))) [some (.seq (ms.map D.int)),some (.tup (cs.map fr)),some (.int (dH (cs.map (·.2))))]=some (dH (cs.map (·.2)) == 0):=rfl
    by_cases z:dH (cs.map (·.2))=0
    . rw [if_pos z];have z':(dH (cs.map (·.2)) == 0)=true:=by simp [z]
      rw [z'] at g0;exact kO (eV g0 (bS (aW (d:=.non) rfl)))
    . rw [if_neg z];have z':(dH (cs.map (·.2)) == 0)=false:=by simp [z]
      rw [z'] at g0;refine ao (bc g0 rfl) (bS (kf (bW (ds:=cs.map fr) rfl (xs:=(cs.map (stp (dH (cs.map (·.2))))).map fr) ?_ ?_) rfl (jP _)))
      . rw [List.map_map];exact gU cs fun c _=>FH
      . rw [Zg,Zg];omega
theorem iM:au ["_law_purse_here","_law_mosts_due","_law_hands","_law_most"] ["_law_purse_here","_law_mosts_due"] (aj dJ):=⟨rfl,rfl,rfl,by decide +kernel,rfl,by decide +kernel,by decide +kernel⟩
theorem nh (F:Fun K "_law_times" "_law_times" dJ f fd)  (hLtime:m6 P w K mg base 2 "_law_time" ["_law_purse_here","_law_most","_law_hands"] (fnM bH))  :FnOk P w K mg base CX0 3 f fd ["_law_purse_here","_law_mosts_due"] (qv K 2 (fnM cQ)):=by
 have sc:=iM;refine jF F iM (fun cdv A outer s H E Z d0 es d0' r hr zk hG hl=>?_)
 obtain ⟨d1,fs,h1,h2⟩:=k8 hG;cases h1;refine ⟨_,(bw (d5 2 zk sc.nd (eL (i7 dO)))
  (bw (CO 3 zk sc.nd PassesOwn.never rfl (gR (lS 1))
   (fZ (CP 2 (uU PySem.F.plainAttrs_list PySem.F.slot_list_append PySem.F.type_list_append j4 (pvi 2) (bz (bO 0 hLtime hr (cw (ab 3) (uV 2 bQ))) cY)))))
  (fZ (lT (eL (bZ 2)))))),?_⟩
 . rw [show (["_law_purse_here","_law_mosts_due","_law_hands","_law_most"]:List Str).length=4 from rfl]
   exact h2
theorem gP:au ["_law_most","_law_hands","_law_breaks","_law_time_here","_law_found","_law_k","_law_share","_law_spot"] ["_law_most","_law_hands"] (aj c8):=⟨rfl,rfl,rfl,by decide +kernel,rfl,by decide +kernel,by decide +kernel⟩
def shB:SD:=((aN (aS 6 (vI (ak (fn ba) (ac (f2 (gI (fun _ j=>0 < j) fun i j=>.int (i % j)) (f2 gIx (ae 3) (fC (.int 0))) (f2 gIx (ae 3) (fC (.int 1)))) (ac (f2 gIx (ae 3) (fC (.int 1))) ah))))) (sIf (fT (f2 da (ae 6) (ae 2))) (aN (aS 7 (sJ dF (dX (fun δ=>((ae 2) δ).bind asL) 1 [6] (nw 0) (fT (f2 gLt (f2 (gI aG fun i j=>.int (i*j)) (f2 gIx (ae 0) (fC (.int 0))) (f2 gIx (ae 1) (fC (.int 1)))) (f2 (gI aG fun i j=>.int (i*j)) (f2 gIx (ae 1) (fC (.int 0))) (f2 gIx (ae 0) (fC (.int 1)))))) (bF 0)))) (xK 2 (ae 7) (ae 6))) cI)))
def shD:SD:=((jY 4 (vI (ak (fn aZ) (ac (f2 gIx (ae 2) (ae 5)) (ac (cC (ac (f1 j6 (f2 gIx (f2 gIx (ae 2) (f2 (gI0 fun i j=>.int (i - j)) (ae 5) (fC (.int 1)))) (fC (.int 0)))) (ac (f2 gIx (f2 gIx (ae 2) (f2 (gI0 fun i j=>.int (i - j)) (ae 5) (fC (.int 1)))) (fC (.int 1))) ah))) ah))))))
theorem Dq {x:Int} (h:Md x):Md (-x):=Sm.neg h
theorem Cf {p:Int×Int} (h:Fk p):Fk (ng p):=⟨h.pos,Dq h.s1,h.s2⟩
theorem FN {x s:Int×Int} {o0 o1 o2 o3 o4 o5 o7:Option D} (hx:Fk x) (hs:Fk s):bR 1 [6] (nw 0) (fT (f2 gLt (f2 (gI aG fun i j=>.int (i*j)) (f2 gIx (ae 0) (fC (.int 0))) (f2 gIx (ae 1) (fC (.int 1)))) (f2 (gI aG fun i j=>.int (i*j)) (f2 gIx (ae 1) (fC (.int 0))) (f2 gIx (ae 0) (fC (.int 1)))))) (bF 0) [o0,o1,o2,o3,o4,o5,some (fr s),o7] (fr x)=some (if decide (x.1*s.2 < s.1*x.2) then some (fr x) else none):=by
 show ((fT (f2 gLt (f2 (gI aG fun i j=>.int (i*j)) (f2 gIx (ae 0) (fC (.int 0))) (f2 gIx (ae 1) (fC (.int 1)))) (f2 (gI aG fun i j=>.int (i*j)) (f2 gIx (ae 1) (fC (.int 0))) (f2 gIx (ae 0) (fC (.int 1))))) [some (fr x),some (fr s)]).bind fun b=>if b then (Dl.ownOf (bF 0) (shO [some (fr x),some (fr s)])).map some else some none)=_
 have m1:aG x.1 s.2:=⟨hx.s1.bd,hs.s2.bd⟩;have m2:aG s.1 x.2:=⟨hs.s1.bd,hx.s2.bd⟩;have c:fT (f2 gLt (f2 (gI aG fun i j=>.int (i*j)) (f2 gIx (ae 0) (fC (.int 0))) (f2 gIx (ae 1) (fC (.int 1)))) (f2 (gI aG fun i j=>.int (i*j)) (f2 gIx (ae 1) (fC (.int 0))) (f2 gIx (ae 0) (fC (.int 1))))) [some (fr x),some (fr s)]=some (decide (x.1*s.2 < s.1*x.2)):=by
  simp only [ae,fC,f2,fT,asB,bm,bt,gI0,Zc,Zd,Ze,aB (C:=aG) m1,aB (C:=aG) m2,gLt]
 rw [c];cases decide (x.1*s.2 < s.1*x.2) <;> rfl
theorem Cw {δ:DS} {i:Nat} {fk fe:FD} {b:List (Int×Int)} {s:Int×Int} {k:Nat} (h:δ[i]? = some (some (.lst (b.map fr)))) (l:b.length < 1000) (hk:fk δ=some (.int (k:Int))) (kl:k<=b.length) (he:fe δ=some (fr s)):xK i fk fe δ=some (.nx (δ.set i (some (.lst ((b.take k++s :: b.drop k).map fr))))):=by
 unfold xK;rw [h];dsimp only;rw [if_pos ⟨jP b,by rw [Zg];exact l⟩,hk]
 show ((fe δ).bind fun d=>if 0<=(k:Int)/\(k:Int)<=((b.map fr).length:Int)/\imm d=true then some (Res.nx (δ.set i (some (.lst ((b.map fr).take (k:Int).toNat++d :: (b.map fr).drop (k:Int).toNat))))) else none)=_
 rw [he];dsimp only [Option.bind_some];rw [if_pos ⟨by omega,by rw [Zg];omega,rfl⟩,Int.toNat_natCast,List.map_append,List.map_cons,List.map_take,List.map_drop]
theorem yS (b:List (Int×Int)) (s:Int×Int):ltC b s<=b.length:=List.length_filter_le _ _
theorem An {b:List (Int×Int)} {q:Int×Int} {o0 o1 o4 o5 o6 o7:Option D} (tq:Tw q) (fb:∀ x∈b,Fk x) (l:b.length<=10):∃ o7',shB [o0,o1,some (.lst (b.map fr)),some (fr q),o4,o5,o6,o7]=some (.nx [o0,o1,some (.lst ((jO b (bp q)).map fr)),some (fr q),o4,o5,some (fr (bp q)),o7']):=by
 have p0:=tq.lw.pos;have lo:=gk (t:=q.1 % q.2) (b:=q.2) p0 (xy tq);rw [BR tq.lw] at lo;have s1:aS 6 (vI (ak (fn ba) (ac (f2 (gI (fun _ j=>0 < j) fun i j=>.int (i % j)) (f2 gIx (ae 3) (fC (.int 0))) (f2 gIx (ae 3) (fC (.int 1)))) (ac (f2 gIx (ae 3) (fC (.int 1))) ah)))) [o0,o1,some (.lst (b.map fr)),some (fr q),o4,o5,o6,o7]=some (.nx [o0,o1,some (.lst (b.map fr)),some (fr q),o4,o5,some (fr (bp q)),o7]):=aM (aW (d:=fr (bp q)) (by simp only [ae,fC,f2,ah,ac,ak,bm,bt,Zc,Zd,Ze,aB (C:=fun _ j=>0 < j) (i:=q.1) (j:=q.2) p0,lo]))
 have hc:fT (f2 da (ae 6) (ae 2)) [o0,o1,some (.lst (b.map fr)),some (fr q),o4,o5,some (fr (bp q)),o7]=some (!b.contains (bp q)):=by
  have ni:=uY (bp q) b;simp only [ae,f2,fT,asB,Zc,Zd,Ze,ni]
 by_cases m:bp q∈b
 . have e:jO b (bp q)=b:=if_pos m;have c:b.contains (bp q)=true:=by simpa using m
   rw [c] at hc;rw [e];exact ⟨o7,ao s1 (bc hc rfl)⟩
 . have e:jO b (bp q)=b.take (ltC b (bp q))++bp q :: b.drop (ltC b (bp q)):=if_neg m;have c:b.contains (bp q)=false:=by simpa using m
   rw [c] at hc;rw [e];refine ⟨some (.int (ltC b (bp q):Int)),ao s1 (eV hc (ao (δ':=[o0,o1,some (.lst (b.map fr)),some (fr q),o4,o5,some (fr (bp q)),some (.int (ltC b (bp q):Int))]) (aM (kf (bW (ds:=b.map fr) rfl (eP (fun x=>decide (x.1*(bp q).2 < (bp q).1*x.2)) b fun x mx=>FN (fb x mx) (tmB tq)) ?_) ?_ rfl)) (Cw (b:=b) (s:=bp q) (k:=ltC b (bp q)) rfl (by omega) rfl (yS _ _) rfl)))⟩
   . rw [Zg];have:=yS b (bp q);unfold ltC at this;omega
   . show some (D.int (((b.filter fun x=>decide (x.1*(bp q).2 < (bp q).1*x.2)).map fr).length:Int))=_
     rw [Zg];rfl
theorem uE {o0 o1 o4 o5:Option D}:∀ (zs b:List (Int×Int)) (o3 o6 o7:Option D),(∀ q∈zs,Tw q)->(∀ x∈b,Fk x)->b.length+zs.length<=10->∃ p3 p6 p7,Dl.forM 3 shB (zs.map fr) [o0,o1,some (.lst (b.map fr)),o3,o4,o5,o6,o7]=some (.nx [o0,o1,some (.lst ((qo b zs).map fr)),p3,o4,o5,p6,p7])
 | [],b,o3,o6,o7,_,_,_=>⟨o3,o6,o7,rfl⟩
 | q :: zs,b,o3,o6,o7,h,fb,l=>by
  have tq:=h q Zi;simp only [Zh] at l;obtain ⟨o7',st⟩:=An (o0:=o0) (o1:=o1) (o4:=o4) (o5:=o5) (o6:=o6) (o7:=o7) tq fb (by omega)
  obtain ⟨p3,p6,p7,ih⟩:=uE (o0:=o0) (o1:=o1) (o4:=o4) (o5:=o5) zs (jO b (bp q)) (some (fr q)) (some (fr (bp q))) o7' (fun x m=>h x (Zj _ m)) (fun x m=>by
   rcases insS_mem.mp m with e | e
   . rw [e];exact tmB tq
   . exact fb x e) (by have:=rG (b:=b) (s:=bp q);omega)
  refine ⟨p3,p6,p7,?_⟩;show ((shB [o0,o1,some (.lst (b.map fr)),some (sh (fr q)),o4,o5,o6,o7]).bind _)=_;rw [xD,st];exact ih
def wJ:Nat->List Int
 | 0=>[]
 | n+1=>((n+1:Nat):Int) :: wJ n
theorem rC:∀ (n:Nat),(List.range n).map (fun k=>D.int ((n:Int) - ((k:Nat):Int)))=(wJ n).map D.int
 | 0=>rfl
 | n+1=>by
  rw [List.range_succ_eq_map,List.map_cons,List.map_map];show D.int (((n+1:Nat):Int) - ((0:Nat):Int)) :: _=D.int ((n+1:Nat):Int) :: (wJ n).map D.int;rw [<- rC n];refine congr (congrArg List.cons (congrArg D.int (by omega))) ?_
  . apply List.map_congr_left
    intro i _;show D.int (((n+1:Nat):Int) - ((i+1:Nat):Int))=_
    congr 1
    omega
theorem B7 {b:List (Int×Int)} {k:Nat} {x:Int×Int} (h:b[k]? = some x):gIx (.lst (b.map fr)) (.int (k:Int))=some (fr x):=by
 show L2.atI (b.map fr) (k:Int)=some (fr x);exact L2.atI_nat (by rw [ZD,h];rfl)
theorem Bh {b:List (Int×Int)} {x:Int×Int}:gIx (.lst ((b++[x]).map fr)) (.int (-1))=some (fr x):=by
 show L2.atI ((b++[x]).map fr) (-1)=some (fr x);unfold L2.atI L2.ixN;rw [if_neg (by decide),if_pos (by rw [Zg,Zf,List.length_singleton];omega)]
 show ((b++[x]).map fr)[(-1+(((b++[x]).map fr).length:Int)).toNat]? = _;have e:(-1+(((b++[x]).map fr).length:Int)).toNat=b.length:=by rw [Zg,Zf,List.length_singleton];omega
 rw [e,ZD,ZE (ZH _),Nat.sub_self];rfl
theorem vP {b:List (Int×Int)} {o0 o1 o3 o6 o7:Option D} (fb:∀ x∈b,Fk x):∀ (r:List (Int×Int)) (x:Int×Int) (t:List (Int×Int)) (fs:List (Int×Int)) (o5:Option D),b=(x :: r).reverse++t->fs.length+r.length<=10->∃ p5,Dl.forM 5 shD ((wJ r.length).map D.int) [o0,o1,some (.lst (b.map fr)),o3,some (.lst (fs.map fr)),o5,o6,o7]=some (.nx [o0,o1,some (.lst (b.map fr)),o3,some (.lst ((fs++jQ x r).map fr)),p5,o6,o7])
 | [],x,t,fs,o5,_,_=>⟨o5,by rw [show jQ x []=[] from rfl,List.append_nil];rfl⟩
 | y :: r,x,t,fs,o5,e,l=>by
  have e':b=(y :: r).reverse++(x :: t):=by rw [e,List.reverse_cons,List.append_assoc];rfl
  simp only [Zh] at l;obtain ⟨p5,ih⟩:=vP (o0:=o0) (o1:=o1) (o3:=o3) (o6:=o6) (o7:=o7) fb r y (x :: t) (fs++[pl x (ng y)]) (some (.int ((r.length+1:Nat):Int))) e' (by rw [Zf,List.length_singleton];omega)
  have gx:b[r.length+1]? = some x:=by
   rw [e',ZE (by rw [List.length_reverse];exact ZH _),List.length_reverse,Zh,Nat.sub_self]
   rfl
  have gy:b[r.length]? = some y:=by
   rw [e',List.reverse_cons,List.append_assoc,ZE (by rw [List.length_reverse];exact ZH _),List.length_reverse,Nat.sub_self]
   rfl
  have ix:=B7 gx;have iy:=B7 gy;have es:=je (fb x (ZF gx)) (Cf (fb y (ZF gy)));have es':fn aZ [fr x,.tup [.int (-y.1),.int y.2]]=some (fr (pl x (ng y))):=es;have st:shD [o0,o1,some (.lst (b.map fr)),o3,some (.lst (fs.map fr)),some (.int ((r.length+1:Nat):Int)),o6,o7]=some (.nx [o0,o1,some (.lst (b.map fr)),o3,some (.lst ((fs++[pl x (ng y)]).map fr)),some (.int ((r.length+1:Nat):Int)),o6,o7]):=by
   rw [List.map_append];refine sO (xs:=fs.map fr) (ds:=fs.map fr) (δ':=[o0,o1,some (.lst (b.map fr)),o3,some (.lst (fs.map fr)),some (.int ((r.length+1:Nat):Int)),o6,o7]) rfl (d:=fr (pl x (ng y))) (aW ?_) rfl (by rw [Zg];omega)
   have sb:(((r.length+1:Nat):Int) - 1)=(r.length:Int):=by omega
   simp only [ae,fC,f2,f1,j6,ah,ac,cC,ak,bm,bt,gI0,Zc,Zd,Ze,ix,sb,iy];show ((fn aZ [fr x,.tup [.int (-y.1),.int y.2]]))=_;exact es'
  refine ⟨p5,?_⟩;show ((shD [o0,o1,some (.lst (b.map fr)),o3,some (.lst (fs.map fr)),some (.int ((r.length+1:Nat):Int)),o6,o7]).bind _)=_;rw [st];show Dl.forM 5 shD ((wJ r.length).map D.int) [o0,o1,some (.lst (b.map fr)),o3,some (.lst ((fs++[pl x (ng y)]).map fr)),some (.int ((r.length+1:Nat):Int)),o6,o7]=_;rw [ih,List.append_assoc];rfl
theorem Di:Fk ((1,1):Int×Int):=⟨show (0:Int) < 1 by decide,iS (k:=64) (show (1:Int).natAbs < 2 ^ 64 by decide),iS (k:=64) (show (1:Int).natAbs < 2 ^ 64 by decide)⟩
theorem xk:Fk ((0,1):Int×Int):=⟨show (0:Int) < 1 by decide,iS (k:=64) (show (0:Int).natAbs < 2 ^ 64 by decide),iS (k:=64) (show (1:Int).natAbs < 2 ^ 64 by decide)⟩
theorem Aj {g:FA} {δ:DS} {i j m:Int} (h:g δ=some [.int i,.int j,.int m]) (a:0<=i) (a':i<=1000) (b:0<=j) (b':j<=1000) (c:m = -1):qy g δ=some ((List.range (i - j).toNat).map fun k=>D.int (i - ((k:Nat):Int)),δ):=by
 unfold qy;rw [h];show (if -(2 ^ 62)<=i/\i < 2 ^ 62/\-(2 ^ 62)<=j/\j < 2 ^ 62/\m = -1 then _ else _)=_
 rw [if_pos (by omega)]
theorem Cm {g:FA} {δ:DS} {n:Nat} (h:g δ=some [.int (n:Int),.int 0,.int (-1)]) (l:n<=1000):qy g δ=some ((wJ n).map D.int,δ):=by
 have e:((n:Int) - 0).toNat=n:=by omega
 rw [Aj h (by omega) (by omega) (by decide) (by decide) rfl,e,rC]
theorem mh (F:Fun K "_law_shares" "_law_shares" c8 f fd)  (hLknown:HasF P w K mg base 1 "_law_known" ["_law_most","_law_hands"] (fn gz)) (hLlow:Has P w K mg base 1 "_law_low" ["_law_top","_law_bottom"] (fn ba)) (hLsum:Has P w K mg base 2 "_law_sum" ["_law_one","_law_other"] (fn aZ))  (m_range:mg "range" = none) (m_len:mg "len" = none):FnOk P w K mg base CX0 3 f fd ["_law_most","_law_hands"] (bq K 2 (fn db)):=by
 have sc:=gP;refine bE F gP (fun cdv A outer s H E ds d hr hG hl=>?_)
 obtain ⟨d0,d1,ms,qs,h,g,k,rfl,rfl⟩:=aQ hG;have hown:own (.lst ((shr (brk (wi ms qs))).map fr))=true:=ce _;refine ⟨_,(ax (bJ 2 sc.nd (i7 (cn (ay (bM (aa ag (aa ag af)))) dO)))
  (ax (lW 3 sc.nd PassesOwn.never rfl (gR (c9 hLknown hr (aa (ab 0) (aa (ab 1) af))))
   (ax (bJ 6 sc.nd (ay (ar hLlow hr (aa (eY (av (ab 3) ag) (av (ab 3) ag)) (aa (av (ab 3) ag) af)))))
   (aP (iR (lU hr.units (ab 6) (ab 2)) (ax (bJ 7 sc.nd (pg aI c6 rfl m_len PySem.boot_len (bT (by exact (gS (ab 2))) (T:=["_law_one"]) (N:=["_law_one","_law_share"]) (js:=[6]) (cl:=[("_law_share",_)]) (fun _ _ _ _ _=>by exact (jJ 0 (show List.Nodup (["_law_one","_law_share"]:List Str) from by decide +kernel))) (iA 0 (by decide)) (fun _ _ _ _ _=>by exact (jI (pi (cj (av (ab 0) ag) (av (ab 1) ag)) (cj (av (ab 1) ag) (av (ab 0) ag))))) (fun _ _ _ _ _=>by exact (bZ 0)) (by exact CompG.of (T:=["_law_one"]) (Z:=["_law_share"]) (Y:=["_law_share"]) (hcl:=(by intro p hp;simp only [Zn,Zz,or_false] at hp;subst hp;rfl)) (hN:=(by intro i y j h1 h2;match i,h1,h2 with | 0,h1,h2=>cases h1;cases h2;exact ⟨rfl,rfl,rfl⟩ | n+1,h1,h2=>cases h1))))))
    (aP (CW 2 (uU PySem.F.plainAttrs_list PySem.F.slot_list_insert PySem.F.type_list_insert wF (pvi 2) (bz (ab 7) (bz (ab 6) cY)))))) eX))))
  (ax (bJ 4 sc.nd (i7 (cn (ay (ar hLsum hr (aa (bM (aa ag (aa ag af))) (aa (bM (aa (gd (av (av (ab 2) (gd ag)) ag)) (aa (av (av (ab 2) (gd ag)) ag) af))) af)))) dO)))
  (ax (lW 5 sc.nd PassesOwn.never rfl (yi rfl m_range (aa (jb (aL aI c6 rfl m_len PySem.boot_len (aa (ab 2) af)) ag) (aa ag (aa (gd ag) af))))
   (aP (yf 4 (uU PySem.F.plainAttrs_list PySem.F.slot_list_append PySem.F.type_list_append j4 (pvi 4) (bz (ay (ar hLsum hr (aa (av (ab 2) (ab 5)) (aa (bM (aa (gd (av (av (ab 2) (jb (ab 5) ag)) ag)) (aa (av (av (ab 2) (jb (ab 5) ag)) ag) af))) af)))) cY)))))
  (aP (bj (bZ 4))))))),?_,?own⟩
 case own=>first | rfl | exact hown
 . show aC ((?f:SD) (aE 8 _))=_;have e0:aE 8 [d0,d1]=[some (.seq (ms.map D.int)),some (.seq (qs.map fr)),none,none,none,none,none,none]:=by
    show [some (sh d0),some (sh d1),none,none,none,none,none,none]=_;rw [h,g]
   rw [e0];have tz:∀ q∈wi ms qs,Tw q:=fun q m=>(k.tm q (bA ms qs m)).w
   have lz:=fM ms qs;have l4:=k.le;have ek:=qe (d0:=.seq (ms.map D.int)) (d1:=.seq (qs.map fr)) (i0 ms) (.inr (oW qs)) k.dr;obtain ⟨p3,p6,p7,lp⟩:=uE (o0:=some (.seq (ms.map D.int))) (o1:=some (.seq (qs.map fr))) (o4:=none) (o5:=none) (wi ms qs) [(0,1)] none none none tz (fun x m=>by rw [Zk.mp m];exact xk) (by simp;omega)
   have fb:∀ x∈brk (wi ms qs),Fk x:=fun x m=>by
    rcases (gq _ _ x).mp m with e | ⟨q,mq,e⟩
    . rw [Zk.mp e];exact xk
    . rw [e];exact tmB (tz q mq)
   have lb:(brk (wi ms qs)).length<=5:=by
    have:=ln (wi ms qs) [(0,1)];have:(brk (wi ms qs)).length<=1+(wi ms qs).length:=this;omega
   obtain ⟨tl,et⟩:=fK fun q m=>(tz q m).lw
   refine dc (ao (δ':=[some (.seq (ms.map D.int)),some (.seq (qs.map fr)),some (.lst (([(0,1)]:List (Int×Int)).map fr)),none,none,none,none,none]) rfl (ao (iZ (δ':=[some (.seq (ms.map D.int)),some (.seq (qs.map fr)),some (.lst (([(0,1)]:List (Int×Int)).map fr)),none,none,none,none,none]) (ds:=(wi ms qs).map fr) ?_ lp) ?_))
   . unfold iK;rw [eU (ds:=[.seq (ms.map D.int),.seq (qs.map fr)]) rfl ek (ce _)];dsimp only [Option.bind_some];rw [lG]
   . show aN _ _ [some (.seq (ms.map D.int)),some (.seq (qs.map fr)),some (.lst ((brk (wi ms qs)).map fr)),p3,none,none,p6,p7]=_;have ne:(brk (wi ms qs)).reverse ≠ []:=by rw [et];simp
     cases er:(brk (wi ms qs)).reverse with
     | nil=>exact absurd er ne
     | cons x r =>
      have eb:brk (wi ms qs)=(x :: r).reverse:=by rw [<- er,List.reverse_reverse]
      have lr:(brk (wi ms qs)).length=r.length+1:=by rw [eb,List.length_reverse];rfl
      have il:gIx (.lst ((brk (wi ms qs)).map fr)) (.int (-1))=some (fr x):=by rw [eb,List.reverse_cons];exact Bh
      have fx:Fk x:=fb x (by rw [eb];simp)
      have es:fn aZ [.tup [.int 1,.int 1],.tup [.int (-x.1),.int x.2]]=some (fr (pl (1,1) (ng x))):=je Di (Cf fx);obtain ⟨p5,ld⟩:=vP (b:=brk (wi ms qs)) (o0:=some (.seq (ms.map D.int))) (o1:=some (.seq (qs.map fr))) (o3:=p3) (o6:=p6) (o7:=p7) fb r x [] [pl (1,1) (ng x)] none (by rw [eb,List.append_nil]) (by simp;omega)
      have fin:shr (brk (wi ms qs))=[pl (1,1) (ng x)]++jQ x r:=by unfold shr;rw [er];rfl
      rw [fin];have ng1:f1 j6 (fC (.int 1)) [some (.seq (ms.map D.int)),some (.seq (qs.map fr)),some (.lst ((brk (wi ms qs)).map fr)),p3,none,none,p6,p7]=some (.int (-1)):=rfl;refine ao (δ':=[some (.seq (ms.map D.int)),some (.seq (qs.map fr)),some (.lst ((brk (wi ms qs)).map fr)),p3,some (.lst (([pl (1,1) (ng x)]:List (Int×Int)).map fr)),none,p6,p7]) (aM (d:=.lst [fr (pl (1,1) (ng x))]) (δ':=[some (.seq (ms.map D.int)),some (.seq (qs.map fr)),some (.lst ((brk (wi ms qs)).map fr)),p3,none,none,p6,p7]) ?_) (ao (iZ (Cm (n:=r.length) ?_ (by omega)) ld) (bS (sH rfl)))
      . have vi:=aW (f:=ak (fn aZ) (ac (cC (ac (fC (.int 1)) (ac (fC (.int 1)) ah))) (ac (cC (ac (f1 j6 (f2 gIx (f2 gIx (ae 2) (f1 j6 (fC (.int 1)))) (fC (.int 0)))) (ac (f2 gIx (f2 gIx (ae 2) (f1 j6 (fC (.int 1)))) (fC (.int 1))) ah))) ah))) (δ:=[some (.seq (ms.map D.int)),some (.seq (qs.map fr)),some (.lst ((brk (wi ms qs)).map fr)),p3,none,none,p6,p7]) (d:=fr (pl (1,1) (ng x))) (by
         simp only [ae,fC,f2,f1,j6,ah,ac,cC,ak,bm,bt,Zc,Zd,Ze,il];exact es)
        unfold kD bi;rw [vi];rfl
      . have:(((brk (wi ms qs)).map fr).length:Int) - 1=(r.length:Int):=by rw [Zg,lr];omega
        show some [D.int ((((brk (wi ms qs)).map fr).length:Int) - 1),.int 0,.int (-1)]=_;rw [this]
theorem gD:au ["_law_most","_law_hands","_law_shares_here","_law_some","_law_k","_law_time_here","_law_mean","_law_due","_law_share","_law_corner"] ["_law_most","_law_hands","_law_shares_here","_law_some"] (aj cH):=⟨rfl,rfl,rfl,by decide +kernel,rfl,by decide +kernel,by decide +kernel⟩
def mnB:SD:=((aN (i5 6 (cC (ac (fC (.int 0)) (ac (fC (.int 1)) ah)))) (aN (xM (qu (ac (ae 2) (ac (ae 3) ah))) (gDs [8,9]) (i5 6 (ak (fn aZ) (ac (ae 6) (ac (cC (ac (f2 (gI aG fun i j=>.int (i*j)) (f2 gIx (ae 8) (fC (.int 0))) (f2 gIx (ae 9) (ae 4))) (ac (f2 gIx (ae 8) (fC (.int 1))) ah))) ah))))) (aN (i5 7 (ak (fn ba) (ac (f2 gIx (ae 5) (fC (.int 0))) (ac (f2 gIx (ae 5) (fC (.int 1))) ah)))) (aN (sIf (fT (f2 gGt (f2 gIx (ae 5) (fC (.int 0))) (f2 (gI aG fun i j=>.int (i*j)) (f2 gIx (ae 0) (ae 4)) (f2 gIx (ae 5) (fC (.int 1)))))) (i5 7 (cC (ac (f2 jd (f2 gIx (ae 0) (ae 4)) (fC (.int 1))) (ac (fC (.int 1)) ah)))) cI) (sIf (fT (f2 gNe (ae 6) (ae 7))) (eW (fC (.bl false))) cI))))))
def mnI:SD:=((i5 6 (ak (fn aZ) (ac (ae 6) (ac (cC (ac (f2 (gI aG fun i j=>.int (i*j)) (f2 gIx (ae 8) (fC (.int 0))) (f2 gIx (ae 9) (ae 4))) (ac (f2 gIx (ae 8) (fC (.int 1))) ah))) ah)))))
theorem oR {i:Nat} {f:FD} {δ:DS} {d:D} (h:f δ=some d):i5 i f δ=some (.nx (δ.set i (some d))):=by unfold i5;rw [h];rfl
theorem uA {src:FA} {g:D->DS->Option DS} {s:SD} {δ:DS} {ds:List D} {r:Res} (h:src δ=some ds) (k:rO g s ds δ=some r):xM src g s δ=some r:=by unfold xM;rw [h];exact k
theorem E1 {ms:List Int} {k:Nat} {m:Int} (h:ms[k]? = some m):gIx (.lst (ms.map D.int)) (.int (k:Int))=some (.int m):=by
 show L2.atI (ms.map D.int) (k:Int)=_;exact L2.atI_nat (by rw [ZD,h];rfl)
theorem zy {k l:Nat} {p q:Int×Int} (h:Fr k p) (g:0 < q.2) (a:Sm l q.1) (b:Sm l q.2):Fr (k+l+1) (pl p q) :=
 Fr.rd (Int.mul_pos h.pos g) (Sm.add (h.s1.mul b) ((a.mul h.s2).mono (by omega))) ((h.s2.mul b).mono (by omega))
theorem Dp (p:Int×Int):gNe (fr p) (fr p)=some (.bl false):=by
 show some (D.bl (!((p.1 == p.1) && ((p.2 == p.2) && true))))=_;simp
theorem AZ {s m:Int×Int} {x:List Int} {k a:Nat} {o0 o1 o2 o3 o5 o7:Option D} (fm:Fr a m) (la:a<=4000) (fs:Fr 300 s) (hk:k < x.length) (hx:∀ i∈x,0<=i/\i<=63):Fr (a+307) (pl m (s.1*x.getD k 0,s.2))/\mnI [o0,o1,o2,o3,some (.int (k:Int)),o5,some (fr m),o7,some (fr s),some (tpD x)]=some (.nx [o0,o1,o2,o3,some (.int (k:Int)),o5,some (fr (pl m (s.1*x.getD k 0,s.2))),o7,some (fr s),some (tpD x)]):=by
 have e:x.getD k 0=x[k]'hk:=by rw [Zo,Zp hk];rfl
 have bx:=hx _ (List.getElem_mem hk);rw [<- e] at bx;have ix:=xv hk;generalize x.getD k 0=y at bx ix;have sy:Sm 6 y:=Sm.of (by omega) (by omega)
 have s1:Sm 306 (s.1*y):=fs.s1.mul sy;have s2:Sm 306 s.2:=fs.s2.mono (by decide)
 have fw:Fk (s.1*y,s.2):=⟨fs.pos,iS s1,iS s2⟩;have es:fn aZ [fr m,.tup [.int (s.1*y),.int s.2]]=some (fr (pl m (s.1*y,s.2))):=je (Fk.of fm la) fw;have m1:aG s.1 y:=⟨(iS fs.s1).bd,(iS sy).bd⟩;refine ⟨zy fm fs.pos s1 s2,?_⟩;refine oR (d:=fr (pl m (s.1*y,s.2))) ?_;simp only [ae,fC,f2,ah,ac,cC,ak,bm,bt,Zc,Zd,Ze,ix,aB (C:=aG) m1];exact es
theorem u5 {k:Nat} {o0 o1 o2 o3 o5 o7:Option D}:∀ (ss:List (Int×Int)) (xs:List (List Int)) (m:Int×Int) (a:Nat) (o8 o9:Option D),Fr a m->a+307*ss.length<=4000->(∀ s∈ss,Fr 300 s)->(∀ x∈xs,k < x.length)->(∀ x∈xs,∀ i∈x,0<=i/\i<=63) ->
 ∃ p8 p9,rO (gDs [8,9]) mnI (List.zipWith (fun d e=>D.tup [d,e]) (ss.map fr) (xs.map tpD)) [o0,o1,o2,o3,some (.int (k:Int)),o5,some (fr m),o7,o8,o9]=some (.nx [o0,o1,o2,o3,some (.int (k:Int)),o5,some (fr (mnF m ss (xs.map fun x=>x.getD k 0))),o7,p8,p9])
 | [],xs,m,a,o8,o9,_,_,_,_,_=>⟨o8,o9,rfl⟩
 | s :: ss,[],m,a,o8,o9,_,_,_,_,_=>⟨o8,o9,rfl⟩
 | s :: ss,x :: xs,m,a,o8,o9,fm,la,fs,hk,hx=>by
  simp only [Zh] at la;obtain ⟨f',st⟩:=AZ (o0:=o0) (o1:=o1) (o2:=o2) (o3:=o3) (o5:=o5) (o7:=o7) fm (by omega) (fs s Zi) (hk x Zi) (hx x Zi)
  obtain ⟨p8,p9,ih⟩:=u5 (k:=k) (o0:=o0) (o1:=o1) (o2:=o2) (o3:=o3) (o5:=o5) (o7:=o7) ss xs _ (a+307) (some (fr s)) (some (tpD x)) f' (by omega) (fun y my=>fs y (Zj _ my)) (fun y my=>hk y (Zj _ my)) fun y my=>hx y (Zj _ my)
  refine ⟨p8,p9,?_⟩;show ((mnI [o0,o1,o2,o3,some (.int (k:Int)),o5,some (fr m),o7,some (fr s),some (tpD x)]).bind _)=_;rw [st];exact ih
theorem AY {ms:List Int} {qs ss:List (Int×Int)} {xs:List (List Int)} {k:Nat} {m:Int} {q:Int×Int} {o6 o7 o8 o9:Option D} (h:Ad ms qs ss xs) (hm:ms[k]? = some m) (hq:qs[k]? = some q):∃ p6 p7 p8 p9,mnB [some (.lst (ms.map D.int)),some (.lst (qs.map fr)),some (.lst (ss.map fr)),some (.lst (xs.map tpD)),some (.int (k:Int)),some (fr q),o6,o7,o8,o9]=some (.nx [some (.lst (ms.map D.int)),some (.lst (qs.map fr)),some (.lst (ss.map fr)),some (.lst (xs.map tpD)),some (.int (k:Int)),some (fr q),p6,p7,p8,p9]):=by
 have tq:=(h.dn.tm q (ZF hq)).w;have gm:=h.dn.gr m (ZF hm);have lk:=(ZG.mp hq).1;have is:=h.is k m q hm hq;have le:=h.le;obtain ⟨p8,p9,lp⟩:=u5 (k:=k) (o0:=some (.lst (ms.map D.int))) (o1:=some (.lst (qs.map fr))) (o2:=some (.lst (ss.map fr))) (o3:=some (.lst (xs.map tpD))) (o5:=some (fr q)) (o7:=o7) ss xs (0,1) 64 o8 o9 ⟨Dt,show (0:Int).natAbs < 2 ^ 64 by decide,show (1:Int).natAbs < 2 ^ 64 by decide⟩ (by omega) h.sf (fun x mx=>by rw [h.xl x mx];exact lk) h.xb
 rw [is] at lp;have lo:=gk (t:=q.1) (b:=q.2) tq.lw.pos (xy tq);rw [fG tq.lw] at lo;have im:=E1 hm;have m1:aG m q.2:=⟨gm.fk.s1.bd,(tmK tq).s2.bd⟩;have d1:(fr (due m q))=fr (due m q):=rfl;refine ⟨some (fr (due m q)),some (fr (due m q)),p8,p9,?_⟩;refine ao (δ':=[some (.lst (ms.map D.int)),some (.lst (qs.map fr)),some (.lst (ss.map fr)),some (.lst (xs.map tpD)),some (.int (k:Int)),some (fr q),some (fr (0,1)),o7,o8,o9]) rfl (ao (uA (fL (d0:=.lst (ss.map fr)) (d1:=.lst (xs.map tpD)) rfl rfl rfl) lp) ?_);refine ao (δ':=[some (.lst (ms.map D.int)),some (.lst (qs.map fr)),some (.lst (ss.map fr)),some (.lst (xs.map tpD)),some (.int (k:Int)),some (fr q),some (fr (due m q)),some (fr q),p8,p9]) (oR (d:=fr q) ?_) ?_
 . simp only [ae,fC,f2,ah,ac,ak,bm,bt,Zc,Zd,Ze];exact lo
 have hc:fT (f2 gGt (f2 gIx (ae 5) (fC (.int 0))) (f2 (gI aG fun i j=>.int (i*j)) (f2 gIx (ae 0) (ae 4)) (f2 gIx (ae 5) (fC (.int 1))))) [some (.lst (ms.map D.int)),some (.lst (qs.map fr)),some (.lst (ss.map fr)),some (.lst (xs.map tpD)),some (.int (k:Int)),some (fr q),some (fr (due m q)),some (fr q),p8,p9]=some (decide (m*q.2 < q.1)):=by
  simp only [ae,fC,f2,fT,asB,bm,bt,gI0,Zc,Zd,Ze,im,aB (C:=aG) m1,gGt]
 refine ao (δ':=[some (.lst (ms.map D.int)),some (.lst (qs.map fr)),some (.lst (ss.map fr)),some (.lst (xs.map tpD)),some (.int (k:Int)),some (fr q),some (fr (due m q)),some (fr (due m q)),p8,p9]) ?_ (bc ?_ rfl)
 . by_cases z:m*q.2 < q.1
   . rw [Zw z] at hc;refine eV hc ?_;have e:due m q=(m+1,1):=if_pos z;rw [e];refine oR (d:=fr (m+1,1)) ?_;simp only [ae,fC,f2,ah,ac,cC,bD,Zc,Zd,Ze,im]
   . rw [Zv z] at hc;have e:due m q=q:=if_neg z;rw [e] at hc ⊢;exact bc hc rfl
 . show ((gNe (fr (due m q)) (fr (due m q))).bind asB)=_;rw [Dp];rfl
theorem yN {ms:List Int} {qs ss:List (Int×Int)} {xs:List (List Int)} (h:Ad ms qs ss xs):∀ (rs:List (Int×Int)) (k:Nat) (o4 o5 o6 o7 o8 o9:Option D),(∀ (i:Nat) (q:Int×Int),rs[i]? = some q->qs[k+i]? = some q)->∃ p4 p5 p6 p7 p8 p9,rO (gDs [4,5]) mnB (enF k (rs.map fr)) [some (.lst (ms.map D.int)),some (.lst (qs.map fr)),some (.lst (ss.map fr)),some (.lst (xs.map tpD)),o4,o5,o6,o7,o8,o9]=some (.nx [some (.lst (ms.map D.int)),some (.lst (qs.map fr)),some (.lst (ss.map fr)),some (.lst (xs.map tpD)),p4,p5,p6,p7,p8,p9])
 | [],k,o4,o5,o6,o7,o8,o9,_=>⟨o4,o5,o6,o7,o8,o9,rfl⟩
 | q :: rs,k,o4,o5,o6,o7,o8,o9,g=>by
  have hq:=g 0 q rfl;rw [Nat.add_zero] at hq;have lk:=(ZG.mp hq).1;have lm:k < ms.length:=by rw [h.dn.eq];exact lk
  obtain ⟨p6,p7,p8,p9,st⟩:=AY (o6:=o6) (o7:=o7) (o8:=o8) (o9:=o9) h (Zp lm) hq;obtain ⟨q4,q5,q6,q7,q8,q9,ih⟩:=yN h rs (k+1) (some (.int (k:Int))) (some (fr q)) p6 p7 p8 p9 fun i x hx=>by
   have:=g (i+1) x hx;rw [show k+1+i=k+(i+1) by omega]
   exact this
  refine ⟨q4,q5,q6,q7,q8,q9,?_⟩;show ((mnB [some (.lst (ms.map D.int)),some (.lst (qs.map fr)),some (.lst (ss.map fr)),some (.lst (xs.map tpD)),some (.int (k:Int)),some (fr q),o6,o7,o8,o9]).bind _)=_;rw [st];exact ih
theorem kG (F:Fun K "_law_is_mean" "_law_is_mean" cH f fd)  (hLlow:Has P w K mg base 1 "_law_low" ["_law_top","_law_bottom"] (fn ba)) (hLsum:Has P w K mg base 2 "_law_sum" ["_law_one","_law_other"] (fn aZ))  (m_enumerate:mg "enumerate" = none) (m_zip:mg "zip" = none):FnOk P w K mg base CX0 3 f fd ["_law_most","_law_hands","_law_shares_here","_law_some"] (bf K 4 (fn cR)):=by
 have sc:=gD;refine bI F gD (fun cdv A outer s H E ds d hr hG hl=>?_)
 obtain ⟨ms,qs,ss,xs,h,rfl,rfl⟩:=aQ hG;refine ⟨_,(aK (uO PassesOwn.never rfl (CZ rfl m_enumerate (aa (ab 1) af)) (cK [4,5] (dB rfl (aF (pgN 4 sc.nd) (aF (pgN 5 sc.nd) cu))))
  (aK (bP 6 sc.nd (bM (aa ag (aa ag af))))
  (aK (uO PassesOwn.never rfl (d6 rfl m_zip (aa (ab 2) (aa (ab 3) af))) (cK [8,9] (dB rfl (aF (pgN 8 sc.nd) (aF (pgN 9 sc.nd) cu))))
   (aH (bP 6 sc.nd (ar hLsum hr (aa (ab 6) (aa (bM (aa (cj (av (ab 8) ag) (av (ab 9) (ab 4))) (aa (av (ab 8) ag) af))) af))))))
  (aK (bP 7 sc.nd (ar hLlow hr (aa (av (ab 5) ag) (aa (av (ab 5) ag) af))))
  (aK (i9 (lV (av (ab 5) ag) (cj (av (ab 0) (ab 4)) (av (ab 5) ag))) (aH (bP 7 sc.nd (bM (aa (dC (av (ab 0) (ab 4)) ag) (aa ag af))))) gb)
  (aH (i9 (x8 hr.units0 (ab 6) (ab 7)) (aH (aY gT)) gb)))))))
  (aH (aY gT))),?_⟩
 . show aC ((?f:SD) [some _,some _,some _,some _,none,none,none,none,none,none])=_;obtain ⟨p4,p5,p6,p7,p8,p9,lp⟩:=yN h qs 0 none none none none none none fun i q hq=>by rw [Nat.zero_add];exact hq
   exact dc (ao (uA (ds:=enF 0 (qs.map fr)) rfl lp) rfl)
theorem lI:au ["greatest","time"] ["greatest","time"] (aj ii):=⟨rfl,rfl,rfl,by decide +kernel,rfl,by decide +kernel,by decide +kernel⟩
theorem tu (F:Fun K "is_past" "is_past" ii f fd)  (hless:Has P w K mg base 1 "less" ["one","other"] (fn ic)) (hfractionD:Ae P w K mg base 3 "fraction" ["top","bottom"] [1] (fn bg))  :FnOk P w K mg base CX0 4 f fd ["greatest","time"] (bf K 2 (fn cB)):=by
 have sc:=lI;refine bI F lI (fun cdv A outer s H E ds d hr hG hl=>?_)
 obtain ⟨g,⟨a,b⟩,h,k,rfl,rfl⟩:=aQ hG;refine ⟨_,(aH (aY (ar hless hr (aa (lZ hfractionD hr (aa (ab 0) af)) (aa (ab 1) af))))),?_⟩
 . show aC ((?f:SD) [some _,some _])=_;have l1:fn ic [.tup [.int g,.int 1],fr (a,b)]=some (.bl (decide (g*b < a*1))):=e2 (op:=fun p q=>.bl (decide (p.1*q.2 < q.1*p.2))) h.fk (tmK k)
   rw [Int.mul_one] at l1;simp only [aC,eW,ae,ah,ac,ak,Zc,Zd,Ze,eR,l1];rfl
theorem gO:au ["time"] ["time"] (aj c7):=⟨rfl,rfl,rfl,by decide +kernel,rfl,by decide +kernel,by decide +kernel⟩
theorem l9 (F:Fun K "broken_part" "broken_part" c7 f fd)  (hminus:Has P w K mg base 3 "minus" ["one","other"] (fn qr)) (hfractionD:Ae P w K mg base 3 "fraction" ["top","bottom"] [1] (fn bg)) (hfloor_of:Has P w K mg base 1 "floor_of" ["one"] (fn d9))  :FnOk P w K mg base CX0 4 f fd ["time"] (bf K 1 (fn bu)):=by
 have sc:=gO;refine bI F gO (fun cdv A outer s H E ds d hr hG hl=>?_)
 obtain ⟨⟨a,b⟩,h,rfl,rfl⟩:=aQ hG;refine ⟨_,(aH (aY (ar hminus hr (aa (ab 0) (aa (lZ hfractionD hr (aa (ar hfloor_of hr (aa (ab 0) af)) af)) af))))),?_⟩
 . show aC ((?f:SD) [some _])=_;have p0:=h.lw.pos;have n0:=h.nn;have u0:=h.up;have d0:0<=a / b:=Int.ediv_nonneg n0 (by omega)
   have d1:a / b < 100:=Int.ediv_lt_of_lt_mul p0 u0;have fl:Flw (a / b,1):=Flw.of (k:=64) ⟨Ds _,by show (a / b).natAbs < 2 ^ 64;omega,show (1:Int).natAbs < 2 ^ 64 by decide⟩
   have l1:fn qr [fr (a,b),.tup [.int (a / b),.int 1]]=some (fr (bp (a,b))):=by
    rw [<- yP h.lw];exact e2w (op:=fun p q=>fr (mi p q)) (tmW h) fl
   have l2:fn d9 [.tup [.int a,.int b]]=some (.int (a / b)):=mN (tmK h);simp only [aC,eW,ae,ah,ac,ak,Zc,Zd,l2,eR,l1]
theorem gB:au ["times","told","time","part"] ["times"] (aj cF):=⟨rfl,rfl,rfl,by decide +kernel,rfl,by decide +kernel,by decide +kernel⟩
def bpB:SD:=((aN (aS 3 (vI (ak (fn bu) (ac (ae 2) ah)))) (sIf (dh (fT (f2 cf (ae 3) (ak (dfl (fn bg) [1]) (ac (fC (.int 0)) ah)))) (fT (f2 da (ae 3) (ae 1)))) (jY 1 (bF 3)) cI)))
theorem vW (u:Option D):∀ (qs ps:List (Int×Int)) (o o':Option D),(∀ q∈qs,Tw q)->ps.length+qs.length<=4->∃ o1 o2,Dl.forM 2 bpB (qs.map fr) [u,some (.lst (ps.map fr)),o,o']=some (.nx [u,some (.lst ((dst ps qs).map fr)),o1,o2])
 | [],ps,o,o',_,_=>⟨o,o',rfl⟩
 | q :: qs,ps,o,o',h,l=>by
  have tq:=h q Zi;have hb:∃ o2,bpB [u,some (.lst (ps.map fr)),some (fr q),o']=some (.nx [u,some (.lst ((gK ps (bp q)).map fr)),some (fr q),o2]):=by
   refine ⟨some (fr (bp q)),?_⟩;have s1:bpB [u,some (.lst (ps.map fr)),some (fr q),o']=aN (aS 3 (vI (ak (fn bu) (ac (ae 2) ah)))) (sIf (dh (fT (f2 cf (ae 3) (ak (dfl (fn bg) [1]) (ac (fC (.int 0)) ah)))) (fT (f2 da (ae 3) (ae 1)))) (jY 1 (bF 3)) cI) [u,some (.lst (ps.map fr)),some (fr q),o']:=rfl;rw [s1];refine ao (δ':=[u,some (.lst (ps.map fr)),some (fr q),some (fr (bp q))]) (aM (aW (by show ((ak (fn bu) (ac (ae 2) ah)) _)=some (fr (bp q));simp only [ae,ah,ac,ak,Zc,Zd,Ze,iU tq]))) ?_
   have ne:cf (fr (bp q)) (.tup [.int 0,.int 1])=some (.bl (!decide (bp q=(0,1)))):=AW (bp q) (0,1);have ni:=uY (bp q) ps;have hc:dh (fT (f2 cf (ae 3) (ak (dfl (fn bg) [1]) (ac (fC (.int 0)) ah)))) (fT (f2 da (ae 3) (ae 1))) [u,some (.lst (ps.map fr)),some (fr q),some (fr (bp q))]=some (!decide (bp q=(0,1)) && !ps.contains (bp q)):=by
    by_cases e:bp q=(0,1)
    . simp only [ae,fC,f2,fT,dh,ah,ac,ak,Zc,Zd,Ze,Bool.not_true,eR,e,decide_true]
      try rfl
    . have e':decide (bp q=(0,1))=false:=Zv e;simp only [ae,fC,f2,fT,asB,dh,ah,ac,ak,Zc,Zd,Ze,Bool.not_false,eR,ne,ni,e',Bool.true_and]
      try rfl
   unfold gK;split
   . rename_i c;rw [c] at hc;refine eV hc ?_;rw [List.map_append];exact sO (xs:=ps.map fr) (ds:=ps.map fr) (δ':=[u,some (.lst (ps.map fr)),some (fr q),some (fr (bp q))]) rfl (d:=fr (bp q)) rfl rfl (by rw [Zg];simp at l;omega)
   . rename_i c;rw [Bool.not_eq_true] at c;rw [c] at hc;exact bc hc rfl
  obtain ⟨o2,hb⟩:=hb;obtain ⟨o3,o4,ih⟩:=vW u qs (gK ps (bp q)) (some (fr q)) o2 (fun x m=>h x (Zj _ m)) (by have:=sB (ps:=ps) (p:=bp q);simp at l;omega)
  refine ⟨o3,o4,?_⟩;show ((bpB [u,some (.lst (ps.map fr)),some (sh (fr q)),o']).bind _)=_;rw [xD,hb];exact ih
theorem kE (F:Fun K "broken_parts" "broken_parts" cF f fd)  (hbroken_part:Has P w K mg base 4 "broken_part" ["time"] (fn bu)) (hfractionD:Ae P w K mg base 3 "fraction" ["top","bottom"] [1] (fn bg))  :FnOk P w K mg base CX0 5 f fd ["times"] (bq K 1 (fn eB)):=by
 have sc:=gB;refine bE F gB (fun cdv A outer s H E ds d hr hG hl=>?_)
 obtain ⟨d0,qs,h,k,l,rfl,rfl⟩:=aQ hG;have hown:own (.lst ((dst [] qs).map fr))=true:=ce _;refine ⟨_,(ax (bJ 1 sc.nd (i7 dO))
  (ax (lW 2 sc.nd PassesOwn.never rfl (gR (lS 0))
   (ax (bJ 3 sc.nd (ay (ar hbroken_part hr (aa (ab 2) af))))
   (aP (iR (PWD.pt (pe (iq hr.units (ab 3) (lZ hfractionD hr (aa ag af))) (lR (lU hr.units (ab 3) (ab 1))))) (aP (yf 1 (uU PySem.F.plainAttrs_list PySem.F.slot_list_append PySem.F.type_list_append j4 (pvi 1) (bz (bZ 3) cY)))) eX))))
  (aP (bj (bZ 1))))),?_,?own⟩
 case own=>first | rfl | exact hown
 . show aC ((?f:SD) (aE 4 _))=_;have e0:aE 4 [d0]=[some (.seq (qs.map fr)),none,none,none]:=by
    show [some (sh d0),none,none,none]=_;rw [h]
   rw [e0];obtain ⟨o1,o2,w⟩:=vW (some (.seq (qs.map fr))) qs [] none none k (by simpa using l)
   exact dc (ao (δ':=[some (.seq (qs.map fr)),some (.lst []),none,none]) rfl (ao (iZ (oQ (d:=.seq (qs.map fr)) rfl (oW qs) (oW qs)) w) (bS (sH rfl))))
theorem kh:au ["greatest","time","parts","own"] ["greatest","time","parts"] (aj fR):=⟨rfl,rfl,rfl,by decide +kernel,rfl,by decide +kernel,by decide +kernel⟩
theorem not_lt (a b:Int):(!decide (a < b))=decide (b<=a):=by
 by_cases h:a < b
 . rw [Zw h,Zv (by omega)];rfl
 . rw [Zv h,Zw (by omega)];rfl
theorem AF {g q:D} {d:D} {t p:Int×Int} (h:Tw t) (k:Fk p):bR 1 [3] (nw 0) (bG (fT (ak (fn ic) (ac (ae 1) (ac (ae 0) ah))))) (bF 0) [some g,some q,some d,some (fr (bp t))] (fr p)=some (if decide (p.1*t.2<=t.1 % t.2*p.2) then some (fr p) else none):=by
 have l1:fn ic [fr (bp t),fr p]=some (.bl (decide (t.1 % t.2*p.2 < p.1*t.2))):=e2 (op:=fun p q=>.bl (decide (p.1*q.2 < q.1*p.2))) (tmB h) k
 show ((bG (fT (ak (fn ic) (ac (ae 1) (ac (ae 0) ah)))) [some (fr p),some (fr (bp t))]).bind fun b=>if b then (Dl.ownOf (bF 0) (shO [some (fr p),some (fr (bp t))])).map some else some none)=_
 have c:bG (fT (ak (fn ic) (ac (ae 1) (ac (ae 0) ah)))) [some (fr p),some (fr (bp t))]=some (decide (p.1*t.2<=t.1 % t.2*p.2)):=by
  rw [<- not_lt];simp only [ae,fT,asB,bG,ah,ac,ak,Zc,Option.map_some,Zd,Ze,l1]
 rw [c];cases decide (p.1*t.2<=t.1 % t.2*p.2) <;> rfl
theorem qN (F:Fun K "place_of" "place_of" fR f fd)  (his_past:Has P w K mg base 4 "is_past" ["greatest","time"] (fn cB)) (hbroken_part:Has P w K mg base 4 "broken_part" ["time"] (fn bu)) (hfloor_of:Has P w K mg base 1 "floor_of" ["one"] (fn d9)) (hless:Has P w K mg base 1 "less" ["one","other"] (fn ic))  (m_len:mg "len" = none):FnOk P w K mg base CX0 5 f fd ["greatest","time","parts"] (bq K 3 (fn d8)):=by
 have sc:=kh;refine bE F kh (fun cdv A outer s H E ds d hr hG hl=>?_)
 obtain ⟨g,q,d0,ps,a,b,h,k,l,rfl,rfl⟩:=aQ hG;have hown:own (fr (plc ps g q))=true:=rfl;refine ⟨_,(ax (iR (ca (ar his_past hr (aa (ab 0) (aa (ab 1) af)))) (aP (bj (ay (bM (aa (dC (ab 0) ag) (aa ag af)))))) eX)
  (ax (bJ 3 sc.nd (ay (ar hbroken_part hr (aa (ab 1) af))))
  (aP (bj (CL (cn (ay (ar hfloor_of hr (aa (ab 1) af))) (cn (pg aI c6 rfl m_len PySem.boot_len (bT (by exact (gS (ab 2))) (T:=["part"]) (N:=["part","own"]) (js:=[3]) (cl:=[("own",_)]) (fun _ _ _ _ _=>by exact (jJ 0 (show List.Nodup (["part","own"]:List Str) from by decide +kernel))) (iA 0 (by decide)) (fun _ _ _ _ _=>by exact (jI (dP (ca (ar hless hr (aa (ab 1) (aa (ab 0) af))))))) (fun _ _ _ _ _=>by exact (bZ 0)) (by exact CompG.of (T:=["part"]) (Z:=["own"]) (Y:=["own"]) (hcl:=(by intro p hp;simp only [Zn,Zz,or_false] at hp;subst hp;rfl)) (hN:=(by intro i y j h1 h2;match i,h1,h2 with | 0,h1,h2=>cases h1;cases h2;exact ⟨rfl,rfl,rfl⟩ | n+1,h1,h2=>cases h1))))) dO))))))),?_,?own⟩
 case own=>first | rfl | exact hown
 . show aC ((?f:SD) (aE 4 _))=_;have e0:aE 4 [.int g,fr q,d0]=[some (.int g),some (fr q),some (.seq (ps.map fr)),none]:=by
    show [some (sh (.int g)),some (sh (fr q)),some (sh d0),none]=_;rw [h];rfl
   rw [e0];have hc:∀ o,fT (ak (fn cB) (ac (ae 0) (ac (ae 1) ah))) [some (.int g),some (fr q),some (.seq (ps.map fr)),o]=some (past g q):=fun o=>by simp only [ae,fT,asB,ah,ac,ak,Zc,Zd,Ze,ot a b]
   unfold plc;cases hp:past g q with
   | true =>
    rw [if_pos rfl];have hc:=hc none;rw [hp] at hc;exact dc (kO (eV hc (bS (aW (d:=fr (g+1,0)) rfl))))
   | false =>
    rw [if_neg Zs];have hc:=hc none;rw [hp] at hc;refine dc (ao (bc hc rfl) (ao (δ':=[some (.int g),some (fr q),some (.seq (ps.map fr)),some (fr (bp q))]) (aM (aW (d:=fr (bp q)) (by simp only [ae,ah,ac,ak,Zc,Zd,Ze,iU b]))) (bS (sG (aW (d:=.int (q.1 / q.2)) (by simp only [ae,ah,ac,ak,Zc,Zd,Ze,mN (tmK b)])) (kf (d:=.lst ((ps.filter fun p=>decide (p.1*q.2<=q.1 % q.2*p.2)).map fr)) (bW (ds:=ps.map fr) rfl (eP (fun p=>decide (p.1*q.2<=q.1 % q.2*p.2)) ps fun p m=>AF b (k p m)) ?_) ?_ rfl)))))
    . rw [Zg];have:=List.length_filter_le (fun p=>decide (p.1*q.2<=q.1 % q.2*p.2)) ps
      omega
    . show some (D.int ((List.map fr (ps.filter fun p=>decide (p.1*q.2<=q.1 % q.2*p.2))).length:Nat))=_
      rw [Zg];rfl
theorem lK:au ["most","times","within","parts"] ["most","times"] (aj ik):=⟨rfl,rfl,rfl,by decide +kernel,rfl,by decide +kernel,by decide +kernel⟩
theorem Fc {m:Int} {q:Int×Int} {δ:DS} (h:Gr m) (k:Tw q):bR 2 [] (gDs [0,1]) (bG (fT (ak (fn cB) (ac (ae 0) (ac (ae 1) ah))))) (bF 1) δ (.tup [.int m,fr q])=some (if past m q then none else some (fr q)):=by
 show ((bG (fT (ak (fn cB) (ac (ae 0) (ac (ae 1) ah)))) [some (.int m),some (fr q)]).bind fun b=>if b then (Dl.ownOf (bF 1) (shO [some (.int m),some (fr q)])).map some else some none)=_
 have c:bG (fT (ak (fn cB) (ac (ae 0) (ac (ae 1) ah)))) [some (.int m),some (fr q)]=some (!past m q):=by simp only [ae,fT,asB,bG,ah,ac,ak,Zc,Option.map_some,Zd,Ze,ot h k]
 rw [c];cases past m q <;> rfl
theorem Fb {m:Int} {q:Int×Int} {d1 d2 d3:Option D} {ps:List (Int×Int)} (h:Gr m) (k:Tw q) (f:∀ p∈ps,Fk p) (l:ps.length<=4):bR 2 [3] (gDs [0,1]) (fun _=>some true) (gA (fn d8) (ac (ae 0) (ac (ae 1) (ac (ae 2) ah)))) [d1,d2,d3,some (.lst (ps.map fr))] (.tup [.int m,fr q])=some (some (fr (plc ps m q))):=by
 show ((Dl.ownOf (gA (fn d8) (ac (ae 0) (ac (ae 1) (ac (ae 2) ah)))) [some (.int m),some (fr q),some (sh (.lst (ps.map fr)))]).map some)=_;rw [lG];unfold Dl.ownOf;rw [eU (d:=fr (plc ps m q)) (ds:=[.int m,fr q,.seq (ps.map fr)]) rfl (tV h k (oW ps) f l) rfl];rfl
theorem tF (F:Fun K "cell_of" "cell_of" ik f fd)  (hbroken_parts:HasF P w K mg base 5 "broken_parts" ["times"] (fn eB)) (hplace_of:HasF P w K mg base 5 "place_of" ["greatest","time","parts"] (fn d8)) (his_past:Has P w K mg base 4 "is_past" ["greatest","time"] (fn cB))  (m_tuple:mg "tuple" = none) (m_zip:mg "zip" = none):FnOk P w K mg base CX0 6 f fd ["most","times"] (bq K 2 (fn iE)):=by
 have sc:=lK;refine bE F lK (fun cdv A outer s H E ds d hr hG hl=>?_)
 obtain ⟨d0,ms,qs,h,k,rfl,rfl⟩:=aQ hG;have hown:own (.tup ((cel ms qs).map fr))=true:=ce _;refine ⟨_,(ax (qJ 2 sc.nd (by exact (d6 rfl m_zip (aa (ab 0) (aa (ab 1) af)))) (T:=["greatest","time"]) (N:=["greatest","time"]) (js:=[]) (cl:=[]) (fun _ _ _ _ _=>by exact (cK [0,1] (dB rfl (aF (pgN 0 (show List.Nodup (["greatest","time"]:List Str) from by decide +kernel)) (aF (pgN 1 (show List.Nodup (["greatest","time"]:List Str) from by decide +kernel)) cu))))) (cN [0,1] (by decide)) (fun _ _ _ _ _=>by exact (jI (dP (ca (ar his_past hr (aa (ab 0) (aa (ab 1) af))))))) (fun _ _ _ _ _=>by exact (bZ 1)) (by exact CompG.of (T:=["greatest","time"]) (Z:=[]) (Y:=[]) (hcl:=(by intro p hp;cases hp)) (hN:=(by intro i y j h1 h2;cases h1))))
  (ax (bJ 3 sc.nd (c9 hbroken_parts hr (aa (ab 2) af)))
  (aP (bj (kR dk hU rfl m_tuple dq (bT (by exact (d6 rfl m_zip (aa (ab 0) (aa (ab 1) af)))) (T:=["greatest","time"]) (N:=["greatest","time","parts"]) (js:=[3]) (cl:=[("parts",_)]) (fun _ _ _ _ _=>by exact (cK [0,1] (dB rfl (aF (pgN 0 (show List.Nodup (["greatest","time","parts"]:List Str) from by decide +kernel)) (aF (pgN 1 (show List.Nodup (["greatest","time","parts"]:List Str) from by decide +kernel)) cu))))) (cN [0,1] (by decide)) (fun _ _ _ _ _=>by exact eM) (fun _ _ _ _ _=>by exact (c9 hplace_of hr (aa (ab 0) (aa (ab 1) (aa (ab 2) af))))) (by exact CompG.of (T:=["greatest","time"]) (Z:=["parts"]) (Y:=["parts"]) (hcl:=(by intro p hp;simp only [Zn,Zz,or_false] at hp;subst hp;rfl)) (hN:=(by intro i y j h1 h2;match i,h1,h2 with | 0,h1,h2=>cases h1;cases h2;exact ⟨rfl,rfl,rfl⟩ | n+1,h1,h2=>cases h1))))))))),?_,?own⟩
 case own=>first | rfl | exact hown
 . show aC ((?f:SD) (aE 4 _))=_;have e0:aE 4 [d0,.tup (qs.map fr)]=[some (.seq (ms.map D.int)),some (.tup (qs.map fr)),none,none]:=by
    show [some (sh d0),some (sh (.tup (qs.map fr))),none,none]=_;rw [h,dY]
   rw [e0];have k1:=k.le;have k2:=fM ms qs;refine dc (ao (δ':=[some (.seq (ms.map D.int)),some (.tup (qs.map fr)),some (.lst ((wi ms qs).map fr)),none]) (aM (bW (fL (d0:=.seq (ms.map D.int)) (d1:=.tup (qs.map fr)) rfl rfl rfl) (tJ ms qs fun m hm q hq=>Fc (k.gr m hm) (k.tm q hq)) ?_)) (ao (δ':=[some (.seq (ms.map D.int)),some (.tup (qs.map fr)),some (.lst ((wi ms qs).map fr)),some (.lst ((dst [] (wi ms qs)).map fr))]) (aM (eU (ds:=[.lst ((wi ms qs).map fr)]) rfl (mO (lG _) (fun q m=>k.tm q (bA ms qs m)) (by omega)) (ce _))) (bS (kf (bW (fL (d0:=.seq (ms.map D.int)) (d1:=.tup (qs.map fr)) rfl rfl rfl) (u8 ms qs fun m hm q hq=>Fb (k.gr m hm) (k.tm q hq) k.pfk k.plen) ?_) rfl (jP _)))))
   . rw [Zg];omega
   . rw [Zg];have:=qj (ps:=dst [] (wi ms qs)) ms qs;omega
theorem xH:au ["_law_script","_law_cell","_law_purse_here","_law_most","_law_hands","_law_here","_law_some","_law_shares_here","_law_corner","_law_after","_law_kept"] ["_law_script"] (aj iQ):=⟨rfl,rfl,rfl,by decide +kernel,rfl,by decide +kernel,by decide +kernel⟩
def Dw:SD:=((aN (aS 2 (gA (fn dS) (ac (ae 1) (ac (f2 (gI (fun _ j=>0 < j) fun i j=>.int (i % j)) (ak (fn iF) (ac (ae 0) (ac (fC (.int 0)) ah))) (fC (.int 2))) ah)))) (aN (aS 3 (be 2 (fnM bV) cD)) (aN (aS 4 (be 2 (fnM cQ) (uh 2 3 cD))) (aN (aS 5 (gA (fn iE) (ac (ae 3) (ac (ak tT (ac (ae 4) ah)) ah)))) (aN (aS 6 (gA (fn dU) (ac (ae 5) ah))) (aN (aS 7 (gA (fn db) (ac (ae 3) (ac (ae 4) ah)))) (aN (sIf (mK (bG (fT (ak (rL "list" zj) (ac (ae 6) (ac (fC (.ty "list")) ah))))) (mK (fT (f2 cf (ak dF (ac (ae 6) ah)) (ak dF (ac (ae 7) ah)))) (fT (f2 cf (rR (ae 6)) (ak dF (ac (ae 6) ah)))))) (dZ (vI (fC (.bl false)))) cI) (aN (xL [8] (gQ (iK (iX 6)) 8 (aN (sIf (mK (bG (fT (ak (rL "tuple" rF) (ac (ae 8) (ac (fC (.ty "tuple")) ah))))) (fT (f2 cf (ak dF (ac (ae 8) ah)) (ak dF (ac (ae 3) ah))))) (dZ (vI (fC (.bl false)))) cI) (sIf (bG (fT (ak wU (ac (kA (fun δ=>((ae 8) δ).bind asT) [] (ak (fn bL) (ac (ae 0) ah))) ah)))) (dZ (vI (fC (.bl false)))) cI)))) (aN (sIf (bG (fT (ak (fn cR) (ac (ae 3) (ac (ae 4) (ac (ae 7) (ac (ae 6) ah))))))) (dZ (vI (fC (.bl false)))) cI) (aN (aS 9 (gA (fn eT) (ac (ae 3) (ac (ae 5) ah)))) (aN (sIf (dh (fT (f2 vA (ae 9) (fC .non))) (bG (fT (ak (fn cS) (ac (ae 3) (ac (ae 5) (ac (ae 9) (ac (ae 6) (ac (ak (fn dU) (ac (ae 9) ah)) ah))))))))) (dZ (vI (fC (.bl false)))) cI) (aN (aS 10 (oN (ac (ae 6) ah))) (aN (sV 6) (sIf (fT (f2 cf (ak (fn dU) (ac (ae 5) ah)) (ae 10))) (dZ (vI (fC (.bl false)))) cI)))))))))))))))
def frB:SD:=((aN (sIf (mK (bG (fT (ak (rL "tuple" rF) (ac (ae 8) (ac (fC (.ty "tuple")) ah))))) (fT (f2 cf (ak dF (ac (ae 8) ah)) (ak dF (ac (ae 3) ah))))) (dZ (vI (fC (.bl false)))) cI) (sIf (bG (fT (ak wU (ac (kA (fun δ=>((ae 8) δ).bind asT) [] (ak (fn bL) (ac (ae 0) ah))) ah)))) (dZ (vI (fC (.bl false)))) cI)))
theorem Do (z:Int):cf (.int z) (.int z)=some (.bl false):=by
 show some (D.bl (!(z == z)))=_;simp
theorem vG (n:Nat):∀ (xs:List (List Int)),eqL (eqN (n+2)) (xs.map tpD) (xs.map tpD)=some true
 | []=>rfl
 | x :: xs=>by
  show ((eqL (eqN (n+1)) (x.map D.int) (x.map D.int)).bind fun a=>(eqL (eqN (n+2)) (xs.map tpD) (xs.map tpD)).bind fun y=>some (a && y))=_
  rw [vJ n x,vG n xs];rfl
theorem Dm (xs:List (List Int)):cf (.lst (xs.map tpD)) (.lst (xs.map tpD))=some (.bl false):=by
 show (eqL (eqN 5) (xs.map tpD) (xs.map tpD)).map (fun c=>D.bl (!c))=_
 rw [vG 3 xs];rfl
theorem jN:∀ (x:List Int),mG (x.map D.int)=some x
 | []=>rfl
 | i :: x=>by show ((mG (x.map D.int)).bind fun ns=>some (i :: ns))=_;rw [jN x];rfl
theorem uv:∀ (xs:List (List Int)),nG (xs.map tpD)=some xs
 | []=>rfl
 | x :: xs=>by
  show ((mG (x.map D.int)).bind fun m=>(nG (xs.map tpD)).bind fun ms=>some (m :: ms))=_
  rw [jN x,uv xs];rfl
theorem Ba {xs:List (List Int)} (h:xs.Nodup) (l:xs.length<=5):zr (.lst (xs.map tpD))=some (.int (xs.length:Int)):=by
 show ((nG (xs.map tpD)).bind fun ms=>if ms.Nodup/\ms.length<=5 then some (D.int (ms.length:Int)) else none)=_
 rw [uv];exact if_pos ⟨h,l⟩
theorem D2 {α:Type} (cs:List α):wU [.lst (cs.map fun _=>D.bl true)]=some (.bl true):=by
 have e:(cs.map fun _=>D.bl true)=(cs.map fun _=>true).map D.bl:=by rw [List.map_map];rfl
 rw [e];show ((cO ((cs.map fun _=>true).map D.bl)).bind fun bs=>some (D.bl (bs.all id)))=_
 rw [hX];show some (D.bl ((cs.map fun _=>true).all id))=_
 congr 2
 simp
theorem Bt {ms x:List Int} {o0 o1 o2 o4 o5 o6 o7 o9 o10:Option D} (hx:x.length=ms.length) (l:x.length<=4):frB [o0,o1,o2,some (.seq (ms.map D.int)),o4,o5,o6,o7,some (tpD x),o9,o10]=some (.nx [o0,o1,o2,some (.seq (ms.map D.int)),o4,o5,o6,o7,some (tpD x),o9,o10]):=by
 have w:∀ i:Int,fn bL [.int i]=some (.bl true):=fun i=>d7 rfl
 have l1:dF [tpD x]=some (.int (x.length:Int)):=by show some (D.int ((x.map D.int).length:Int))=_;rw [Zg]
 have l2:dF [.seq (ms.map D.int)]=some (.int (x.length:Int)):=by show some (D.int ((ms.map D.int).length:Int))=_;rw [Zg,hx]
 have c1:mK (bG (fT (ak (rL "tuple" rF) (ac (ae 8) (ac (fC (.ty "tuple")) ah))))) (fT (f2 cf (ak dF (ac (ae 8) ah)) (ak dF (ac (ae 3) ah)))) [o0,o1,o2,some (.seq (ms.map D.int)),o4,o5,o6,o7,some (tpD x),o9,o10]=some false:=by
  have a:bG (fT (ak (rL "tuple" rF) (ac (ae 8) (ac (fC (.ty "tuple")) ah)))) [o0,o1,o2,some (.seq (ms.map D.int)),o4,o5,o6,o7,some (tpD x),o9,o10]=some false:=rfl;have b:fT (f2 cf (ak dF (ac (ae 8) ah)) (ak dF (ac (ae 3) ah))) [o0,o1,o2,some (.seq (ms.map D.int)),o4,o5,o6,o7,some (tpD x),o9,o10]=some false:=by
   have p:=gj (f:=ae 8) (δ:=[o0,o1,o2,some (.seq (ms.map D.int)),o4,o5,o6,o7,some (tpD x),o9,o10]) rfl l1;have q:=gj (f:=ae 3) (δ:=[o0,o1,o2,some (.seq (ms.map D.int)),o4,o5,o6,o7,some (tpD x),o9,o10]) rfl l2;unfold fT f2;rw [p,q];show ((cf (.int (x.length:Int)) (.int (x.length:Int))).bind asB)=_;rw [Do];rfl
  unfold mK;rw [a,b];rfl
 have cm:kA (fun δ=>((ae 8) δ).bind asT) [] (ak (fn bL) (ac (ae 0) ah)) [o0,o1,o2,some (.seq (ms.map D.int)),o4,o5,o6,o7,some (tpD x),o9,o10]=some (.lst (x.map fun _=>D.bl true)):=by
  refine DK (ds:=x.map D.int) rfl (j5 x fun i _=>?_) (by rw [Zg];omega)
  exact gj (f:=ae 0) rfl (w i)
 have c2:bG (fT (ak wU (ac (kA (fun δ=>((ae 8) δ).bind asT) [] (ak (fn bL) (ac (ae 0) ah))) ah))) [o0,o1,o2,some (.seq (ms.map D.int)),o4,o5,o6,o7,some (tpD x),o9,o10]=some false:=by
  unfold bG fT;rw [gj cm (D2 x)];rfl
 exact ao (bc c1 rfl) (bc c2 rfl)
theorem vF {ms:List Int} {o0 o1 o2 o4 o5 o6 o7 o9 o10:Option D}:∀ (xs:List (List Int)) (o8:Option D),(∀ x∈xs,x.length=ms.length)->ms.length<=4->∃ p8,Dl.forM 8 frB (xs.map tpD) [o0,o1,o2,some (.seq (ms.map D.int)),o4,o5,o6,o7,o8,o9,o10]=some (.nx [o0,o1,o2,some (.seq (ms.map D.int)),o4,o5,o6,o7,p8,o9,o10])
 | [],o8,_,_=>⟨o8,rfl⟩
 | x :: xs,o8,h,l=>by
  have hx:=h x Zi;obtain ⟨p8,ih⟩:=vF (ms:=ms) (o0:=o0) (o1:=o1) (o2:=o2) (o4:=o4) (o5:=o5) (o6:=o6) (o7:=o7) (o9:=o9) (o10:=o10) xs (some (tpD x)) (fun y m=>h y (Zj _ m)) l
  refine ⟨p8,?_⟩;show ((frB [o0,o1,o2,some (.seq (ms.map D.int)),o4,o5,o6,o7,some (sh (tpD x)),o9,o10]).bind _)=_;rw [BM,Bt hx (by omega)]
  exact ih
theorem Cy {ms:List Int} {xs:List (List Int)} {o0 o1 o2 o4 o5 o7 o8 o9 o10:Option D} (h:∀ x∈xs,x.length=ms.length) (l:ms.length<=4):xL [8] (gQ (iK (iX 6)) 8 frB) [o0,o1,o2,some (.lst (ms.map D.int)),o4,o5,some (.lst (xs.map tpD)),o7,o8,o9,o10]=some (.nx [o0,o1,o2,some (.lst (ms.map D.int)),o4,o5,some (.lst (xs.map tpD)),o7,none,o9,o10]):=by
 obtain ⟨p8,lp⟩:=vF (ms:=ms) (o0:=o0.map sh) (o1:=o1.map sh) (o2:=o2.map sh) (o4:=o4.map sh) (o5:=o5.map sh) (o6:=some (.seq (xs.map tpD))) (o7:=o7.map sh) (o9:=o9.map sh) (o10:=o10.map sh) xs (o8.map sh) h l;unfold xL;have e:List.map (Option.map sh) [o0,o1,o2,some (.lst (ms.map D.int)),o4,o5,some (.lst (xs.map tpD)),o7,o8,o9,o10]=[o0.map sh,o1.map sh,o2.map sh,some (.seq (ms.map D.int)),o4.map sh,o5.map sh,some (.seq (xs.map tpD)),o7.map sh,o8.map sh,o9.map sh,o10.map sh]:=by
  show [o0.map sh,o1.map sh,o2.map sh,some (sh (.lst (ms.map D.int))),o4.map sh,o5.map sh,some (sh (.lst (xs.map tpD))),o7.map sh,o8.map sh,o9.map sh,o10.map sh]=_;rw [gN,sS]
 rw [e,iZ (oQ (d:=.seq (xs.map tpD)) rfl (jV xs) (jV xs)) lp];rfl
theorem Ef {q:Int×Int} (h:Tm q):Fr 134 (bp q):=by
 have p0:=h.lw.pos;have le:=h.le;have z0:=Int.emod_nonneg q.1 (b:=q.2) (by omega)
 have z1:=Int.emod_lt_of_pos q.1 p0;exact ⟨eS h.lw,Sm.of (by show _ < q.1 % q.2;omega) (by show q.1 % q.2 < _;omega),Sm.of (by show _ < q.2;omega) (by show q.2 < _;omega)⟩
theorem vQ:∀ (r:List (Int×Int)) (p:Int×Int),Fr 134 p->(∀ y∈r,Fr 134 y)->∀ s∈jQ p r,Fr 300 s
 | [],_,_,_,s,m=>by cases m
 | y :: r,p,hp,hr,s,m=>by
  have hy:=hr y Zi;rcases Zn.mp (show s∈pl p (ng y) :: jQ y r from m) with e | e
  . rw [e];exact (zy hp (tH hy.pos) hy.s1.neg hy.s2).mono (by decide)
  . exact vQ r y hy (fun z mz=>hr z (Zj _ mz)) s e
theorem sg (cs:List (Int×Int)):(cnr cs).length<=5:=by
 unfold cnr;rw [iC];exact List.length_filter_le _ _
theorem zT {cs:List (Int×Int)} {x:List Int} (m:x∈cnr cs):∃ L,x=cor L cs:=by
 unfold cnr cnN at m;obtain ⟨i,_,rfl⟩:=Zl.mp m;exact ⟨_,rfl⟩
theorem qi {cs:List (Int×Int)}:∀ x∈cnr cs,x.length=cs.length:=fun x m=>by
 obtain ⟨L,rfl⟩:=zT m;exact vR L cs
theorem DO {cs:List (Int×Int)} (h:Cb cs):∀ x∈cnr cs,∀ i∈x,0<=i/\i<=63:=fun x m i mi=>by
 obtain ⟨L,rfl⟩:=zT m;obtain ⟨c,mc,rfl⟩:=Zl.mp mi;have:=(h.bd c mc).1;split <;> omega
theorem A4 {ms:List Int} {qs:List (Int×Int)} (k:Dn ms qs) (cb:Cb (cel ms qs)):Ad ms qs (shr (brk (wi ms qs))) (cnr (cel ms qs)):=by
 have l4:=k.le;have lw:∀ q∈qs,Lw q:=fun q m=>(k.tm q m).lw
 have cl:(cel ms qs).length=qs.length:=g9 ms qs k.eq;refine ⟨k,?_,?_,fun x m=>by rw [qi x m,cl],DO cb,fun i m q hm hq=>A6 lw l4 i m q hm hq⟩
 . refine vQ _ _ ⟨⟨by decide,by decide⟩,show (1:Int).natAbs < 2 ^ 134 by decide,show (1:Int).natAbs < 2 ^ 134 by decide⟩ fun y m=>?_
   rcases (gq (wi ms qs) [(0,1)] y).mp (List.mem_reverse.mp m) with e | ⟨q,mq,e⟩
   . rw [Zk.mp e];exact ⟨Dt,show (0:Int).natAbs < 2 ^ 134 by decide,show (1:Int).natAbs < 2 ^ 134 by decide⟩
   . rw [e];exact Ef (k.tm q (bA ms qs mq))
 . rw [uD];have a:(brk (wi ms qs)).length<=1+(wi ms qs).length:=ln (wi ms qs) [(0,1)];have b:=fM ms qs;omega
theorem xJ {ms:List Int} {qs:List (Int×Int)} (k:Dn ms qs):(cnr (cel ms qs)).length=(shr (brk (wi ms qs))).length/\(cnr (cel ms qs)).Nodup:=by
 have lw:∀ q∈qs,Lw q:=fun q m=>(k.tm q m).lw
 have F:=mI (ms:=ms) lw k.le;obtain ⟨tl,et⟩:=fK (zs:=wi ms qs) fun q m=>lw q (bA ms qs m)
 have en:(brk (wi ms qs)).length - 1+1=(brk (wi ms qs)).length:=by rw [et];rfl
 refine ⟨?_,by rw [F.cnr];exact F.nodup⟩
 rw [F.cnr,iC,en,uD]
theorem Bm {ms:List Int} {qs ct:List (Int×Int)} (k:Dn ms qs) (h:nxt ms (cel ms qs)=some ct) (cb:Cb ct):xj (if mom ms (cel ms qs) then 0 else 1) ms (cel ms qs) ct (cnr (cel ms qs)) (cnr ct):=by
 have lw:∀ q∈qs,Lw q:=fun q m=>(k.tm q m).lw
 have cl:(cel ms qs).length=qs.length:=g9 ms qs k.eq;have cm:(cel ms qs).length=ms.length:=cl.trans k.eq.symm;have l4:=k.le;have ke:=k.eq;obtain ⟨a,b,c⟩:=Bl (mI (ms:=ms) lw l4) cm h fun x mx=>(cb.bd x mx).2.2
 exact ⟨cm,a,by omega,rfl,sg _,b,fun x m=>by rw [qi x m,cm],fun x m=>by rw [qi x m,a],c⟩
theorem yX {ns:List Int} {c:Int} {o2 o3 o4 o5 o6 o7 o8 o9 o10:Option D}:∃ p2 p3 p4 p5 p6 p7 p8 p9 p10,Dw [some (.seq (ns.map D.int)),some (.int c),o2,o3,o4,o5,o6,o7,o8,o9,o10]=some (.nx [some (.seq (ns.map D.int)),some (.int c),p2,p3,p4,p5,p6,p7,p8,p9,p10]):=by
 have w:=FG (cell ns 0);obtain ⟨a1,b1,ms,n1,P1,gm,lm⟩:=wd (CN c (cell ns 0 % 2) w);obtain ⟨a2,b2,qs,n2,P2,tq,lq⟩:=Ak (d0:=.lst (ms.map D.int)) P1 (gN ms) gm lm;have hl:ms.length=qs.length:=by omega
 have l4:qs.length<=4:=by omega
 have dn:Dn ms qs:=⟨gm,tq,l4,hl⟩;have tw:∀ q∈qs,Tw q:=fun q m=>(tq q m).w
 have gr:∀ m∈ms,0<=m/\m<=60:=gm;have cl:(cel ms qs).length=qs.length:=g9 ms qs hl;have cb:Cb (cel ms qs):=⟨zW gr tw l4,by omega⟩
 have ec:=wX (d0:=.lst (ms.map D.int)) (gN ms) dn.dr;have ep:=qd (c:=c) w;have e0:=wY (ns:=ns) (k:=0) (by decide)
 have ek:=ou cb;have es:=nB (d0:=.lst (ms.map D.int)) (d1:=.lst (qs.map fr)) (gN ms) (lG qs) dn;have em:=mQ (A4 dn cb);have en:=rW (d0:=.lst (ms.map D.int)) (ms:=ms) (gN ms) cb;obtain ⟨sl,nd⟩:=xJ dn;have xl:∀ x∈cnr (cel ms qs),x.length=ms.length:=fun x m=>by rw [qi x m,cl,hl]
 have x5:=sg (cel ms qs);have ls:=Ba nd x5;have go:∀ ct,nxt ms (cel ms qs)=some ct->Cb ct/\fn cS [.lst (ms.map D.int),.tup ((cel ms qs).map fr),.tup (ct.map fr),.lst ((cnr (cel ms qs)).map tpD),.lst ((cnr ct).map tpD)]=some (.bl true):=fun ct e=>by
  have S:=fun w (ew:nwt ms qs=some w)=>((Wn.start tq (ms:=ms)).step tq tw ew).tw (by decide) tq
  have ok:=Dk hl tw l4 fun w ew q m=>S w ew _ (Zl.mpr ⟨q,m,rfl⟩)
  rw [e] at ok;cases ew:nwt ms qs with
  | none=>rw [ew] at ok;cases ok
  | some w =>
   rw [ew] at ok;injection ok with ok
   have ok:ct=cel ms (qs.map fun q=>pl q w):=ok
   have l2:(qs.map fun q=>pl q w).length<=4:=by rw [Zg];exact l4
   have cb2:Cb ct:=by
    rw [ok];exact ⟨zW gr (S w ew) l2,by have:=qj (ps:=dst [] (wi ms (qs.map fun q=>pl q w))) ms (qs.map fun q=>pl q w);have:(cel ms (qs.map fun q=>pl q w)).length<=(qs.map fun q=>pl q w).length:=this;omega⟩
   exact ⟨cb2,qf (Bm dn e cb2)⟩
 generalize exs:cnr (cel ms qs)=xs at *
 generalize ess:shr (brk (wi ms qs))=ss at *
 refine ⟨some (pu a2 b2),some (.lst (ms.map D.int)),some (.lst (qs.map fr)),some (.tup ((cel ms qs).map fr)),some (.lst []),some (.lst (ss.map fr)),none,some (nxD (nxt ms (cel ms qs))),some (.lst (xs.map tpD)),?_⟩;refine ao (δ':=[some (.seq (ns.map D.int)),some (.int c),some (pu ((c.natAbs:Int)*(1 - cell ns 0 % 2)) ((c.natAbs:Int) % 2147483563+1)),o3,o4,o5,o6,o7,o8,o9,o10]) (aM (eU (ds:=[.int c,.int (cell ns 0 % 2)]) ?_ ep rfl)) ?_
 . simp only [ae,fC,f2,ah,ac,ak,Zc,Zd,Ze,e0,aB (C:=fun _ j=>0 < j) (i:=cell ns 0) (j:=2) (by decide)]
 refine ao (δ':=[some (.seq (ns.map D.int)),some (.int c),some (pu a1 b1),some (.lst (ms.map D.int)),o4,o5,o6,o7,o8,o9,o10]) (aM (oK (es:=[]) rfl rfl n1 rfl (cZ ms))) ?_;refine ao (δ':=[some (.seq (ns.map D.int)),some (.int c),some (pu a2 b2),some (.lst (ms.map D.int)),some (.lst (qs.map fr)),o5,o6,o7,o8,o9,o10]) (aM (oK (es:=[.lst (ms.map D.int)]) rfl rfl n2 rfl (ce qs))) ?_;refine ao (δ':=[some (.seq (ns.map D.int)),some (.int c),some (pu a2 b2),some (.lst (ms.map D.int)),some (.lst (qs.map fr)),some (.tup ((cel ms qs).map fr)),o6,o7,o8,o9,o10]) (aM (eU (ds:=[.lst (ms.map D.int),.tup (qs.map fr)]) rfl ec (ce _))) ?_;refine ao (δ':=[some (.seq (ns.map D.int)),some (.int c),some (pu a2 b2),some (.lst (ms.map D.int)),some (.lst (qs.map fr)),some (.tup ((cel ms qs).map fr)),some (.lst (xs.map tpD)),o7,o8,o9,o10]) (aM (eU (ds:=[.tup ((cel ms qs).map fr)]) rfl ek (pC _))) ?_;refine ao (δ':=[some (.seq (ns.map D.int)),some (.int c),some (pu a2 b2),some (.lst (ms.map D.int)),some (.lst (qs.map fr)),some (.tup ((cel ms qs).map fr)),some (.lst (xs.map tpD)),some (.lst (ss.map fr)),o8,o9,o10]) (aM (eU (ds:=[.lst (ms.map D.int),.lst (qs.map fr)]) rfl es (ce _))) ?_;refine ao (bc ?_ rfl) ?_
 . have g6:dF [.lst (xs.map tpD)]=some (.int (xs.length:Int)):=by show some (D.int ((xs.map tpD).length:Int))=_;rw [Zg]
   have g7:dF [.lst (ss.map fr)]=some (.int (xs.length:Int)):=by show some (D.int ((ss.map fr).length:Int))=_;rw [Zg,sl]
   have f6:=gj (f:=ae 6) (δ:=[some (.seq (ns.map D.int)),some (.int c),some (pu a2 b2),some (.lst (ms.map D.int)),some (.lst (qs.map fr)),some (.tup ((cel ms qs).map fr)),some (.lst (xs.map tpD)),some (.lst (ss.map fr)),o8,o9,o10]) rfl g6;have f7:=gj (f:=ae 7) (δ:=[some (.seq (ns.map D.int)),some (.int c),some (pu a2 b2),some (.lst (ms.map D.int)),some (.lst (qs.map fr)),some (.tup ((cel ms qs).map fr)),some (.lst (xs.map tpD)),some (.lst (ss.map fr)),o8,o9,o10]) rfl g7;have fl:rR (ae 6) [some (.seq (ns.map D.int)),some (.int c),some (pu a2 b2),some (.lst (ms.map D.int)),some (.lst (qs.map fr)),some (.tup ((cel ms qs).map fr)),some (.lst (xs.map tpD)),some (.lst (ss.map fr)),o8,o9,o10]=some (.int (xs.length:Int)):=ls;have a:bG (fT (ak (rL "list" zj) (ac (ae 6) (ac (fC (.ty "list")) ah)))) [some (.seq (ns.map D.int)),some (.int c),some (pu a2 b2),some (.lst (ms.map D.int)),some (.lst (qs.map fr)),some (.tup ((cel ms qs).map fr)),some (.lst (xs.map tpD)),some (.lst (ss.map fr)),o8,o9,o10]=some false:=rfl;have b:fT (f2 cf (ak dF (ac (ae 6) ah)) (ak dF (ac (ae 7) ah))) [some (.seq (ns.map D.int)),some (.int c),some (pu a2 b2),some (.lst (ms.map D.int)),some (.lst (qs.map fr)),some (.tup ((cel ms qs).map fr)),some (.lst (xs.map tpD)),some (.lst (ss.map fr)),o8,o9,o10]=some false:=by
    unfold fT f2;rw [f6,f7];show ((cf (.int (xs.length:Int)) (.int (xs.length:Int))).bind asB)=_;rw [Do];rfl
   have d:fT (f2 cf (rR (ae 6)) (ak dF (ac (ae 6) ah))) [some (.seq (ns.map D.int)),some (.int c),some (pu a2 b2),some (.lst (ms.map D.int)),some (.lst (qs.map fr)),some (.tup ((cel ms qs).map fr)),some (.lst (xs.map tpD)),some (.lst (ss.map fr)),o8,o9,o10]=some false:=by
    unfold fT f2;rw [f6,fl];show ((cf (.int (xs.length:Int)) (.int (xs.length:Int))).bind asB)=_;rw [Do];rfl
   unfold mK;rw [a];dsimp only [Option.bind_some];rw [b];dsimp only [Option.bind_some];rw [d]
 refine ao (Cy xl (by omega)) ?_
 refine ao (bc ?_ rfl) ?_
 . simp only [ae,fT,asB,bG,ah,ac,ak,Zc,Option.map_some,Zd,Ze,Bool.not_true,em]
 refine ao (δ':=[some (.seq (ns.map D.int)),some (.int c),some (pu a2 b2),some (.lst (ms.map D.int)),some (.lst (qs.map fr)),some (.tup ((cel ms qs).map fr)),some (.lst (xs.map tpD)),some (.lst (ss.map fr)),none,some (nxD (nxt ms (cel ms qs))),o10]) (aM (eU (ds:=[.lst (ms.map D.int),.tup ((cel ms qs).map fr)]) rfl en (yB _))) ?_;refine ao (bc ?_ rfl) ?_
 . cases e:nxt ms (cel ms qs) with
   | none=>rfl
   | some ct =>
    obtain ⟨cb2,eg⟩:=go ct e;have ek2:=ou cb2;have n9:vA (.tup (ct.map fr)) .non=some (.bl true):=rfl;show dh _ _ [some (.seq (ns.map D.int)),some (.int c),some (pu a2 b2),some (.lst (ms.map D.int)),some (.lst (qs.map fr)),some (.tup ((cel ms qs).map fr)),some (.lst (xs.map tpD)),some (.lst (ss.map fr)),none,some (.tup (ct.map fr)),o10]=_;simp only [ae,fC,f2,fT,asB,bG,dh,ah,ac,ak,Zc,Option.map_some,Zd,Ze,Bool.not_true,n9,ek2,eg]
 refine ao (δ':=[some (.seq (ns.map D.int)),some (.int c),some (pu a2 b2),some (.lst (ms.map D.int)),some (.lst (qs.map fr)),some (.tup ((cel ms qs).map fr)),some (.lst (xs.map tpD)),some (.lst (ss.map fr)),none,some (nxD (nxt ms (cel ms qs))),some (.lst (xs.map tpD))]) (aM (d:=.lst (xs.map tpD)) (δ':=[some (.seq (ns.map D.int)),some (.int c),some (pu a2 b2),some (.lst (ms.map D.int)),some (.lst (qs.map fr)),some (.tup ((cel ms qs).map fr)),some (.lst (xs.map tpD)),some (.lst (ss.map fr)),none,some (nxD (nxt ms (cel ms qs))),o10]) (show (if cT (xs.map tpD)=true then some _ else none)=_ from if_pos (vo xs))) ?_
 refine ao (δ':=[some (.seq (ns.map D.int)),some (.int c),some (pu a2 b2),some (.lst (ms.map D.int)),some (.lst (qs.map fr)),some (.tup ((cel ms qs).map fr)),some (.lst []),some (.lst (ss.map fr)),none,some (nxD (nxt ms (cel ms qs))),some (.lst (xs.map tpD))]) rfl ?_;refine bc ?_ rfl;simp only [ae,f2,fT,asB,ah,ac,ak,Zc,Zd,Ze,ek,Dm]
theorem rA {ns:List Int}:∀ (ks:List Int) (o1 o2 o3 o4 o5 o6 o7 o8 o9 o10:Option D),∃ p1 p2 p3 p4 p5 p6 p7 p8 p9 p10,Dl.forM 1 Dw (ks.map D.int) [some (.seq (ns.map D.int)),o1,o2,o3,o4,o5,o6,o7,o8,o9,o10]=some (.nx [some (.seq (ns.map D.int)),p1,p2,p3,p4,p5,p6,p7,p8,p9,p10])
 | [],o1,o2,o3,o4,o5,o6,o7,o8,o9,o10=>⟨o1,o2,o3,o4,o5,o6,o7,o8,o9,o10,rfl⟩
 | k :: ks,o1,o2,o3,o4,o5,o6,o7,o8,o9,o10=>by
  obtain ⟨q2,q3,q4,q5,q6,q7,q8,q9,q10,h⟩:=yX (ns:=ns) (c:=k) (o2:=o2) (o3:=o3) (o4:=o4) (o5:=o5) (o6:=o6) (o7:=o7) (o8:=o8) (o9:=o9) (o10:=o10);obtain ⟨p1,p2,p3,p4,p5,p6,p7,p8,p9,p10,ih⟩:=rA (ns:=ns) ks (some (.int k)) q2 q3 q4 q5 q6 q7 q8 q9 q10;refine ⟨p1,p2,p3,p4,p5,p6,p7,p8,p9,p10,?_⟩;show ((Dw [some (.seq (ns.map D.int)),some (.int k),o2,o3,o4,o5,o6,o7,o8,o9,o10]).bind _)=_;rw [h];exact ih
theorem Dj (F:Fun K "law" "law" iQ f fd)  (hLpurse:HasF P w K mg base 1 "_law_purse" ["_law_cell","_law_way"] (fn dS)) (hLnumbers:m6 P w K mg base 2 "_law_numbers" ["_law_purse_here"] (fnM bV)) (hLtimes:m6 P w K mg base 3 "_law_times" ["_law_purse_here","_law_mosts_due"] (fnM cQ)) (hcell_of:HasF P w K mg base 6 "cell_of" ["most","times"] (fn iE)) (hcorners:HasF P w K mg base 2 "corners" ["cell"] (fn dU)) (hLshares:HasF P w K mg base 3 "_law_shares" ["_law_most","_law_hands"] (fn db)) (hnext_cell:HasF P w K mg base 3 "next_cell" ["most","cell"] (fn eT)) (hLis_mean:Has P w K mg base 3 "_law_is_mean" ["_law_most","_law_hands","_law_shares_here","_law_some"] (fn cR)) (hLat:Has P w K mg base 1 "_law_at" ["_law_script","_law_k"] (fn iF)) (hLgo_on:HasF P w K mg base 2 "_law_go_on" ["_law_most","_law_here","_law_after","_law_some","_law_more"] (fn cS)) (hLwhole:Has P w K mg base 1 "_law_whole" ["_law_found"] (fn bL))  (m_list:mg "list" = none) (m_tuple:mg "tuple" = none) (m_isinstance:mg "isinstance" = none) (m_len:mg "len" = none) (m_all:mg "all" = none) (m_set:mg "set" = none):FnOk P w K mg base CX0 7 f fd ["_law_script"] (spLaw K):=by
 have sc:=xH;refine Bf F xH (fun cdv A outer s H E ns hr hl=>?_)
 refine ⟨_,(ax (lW 1 sc.nd PassesOwn.never rfl (gR (CM (yw (aa ag af)) (yq (ab 0) (qI ag) (qI ag))))
  (ax (bJ 2 sc.nd (c9 hLpurse hr (aa (ab 1) (aa (eY (ar hLat hr (aa (ab 0) (aa ag af))) ag) af))))
  (ax (uQ 3 sc.nd (bO 2 hLnumbers hr bQ))
  (ax (uQ 4 sc.nd (bO 2 hLtimes hr (uV 3 bQ)))
  (ax (bJ 5 sc.nd (c9 hcell_of hr (aa (ab 3) (aa (nW dk hU rfl m_tuple dq (aa (ab 4) af)) af))))
  (ax (bJ 6 sc.nd (c9 hcorners hr (aa (ab 5) af)))
  (ax (bJ 7 sc.nd (c9 hLshares hr (aa (ab 3) (aa (ab 4) af))))
  (ax (iR (PWD.pt (pd (dP (ca (aL fJ (j7 yK) rfl m_isinstance boot_isinstance (aa (ab 6) (aa (nV rfl m_list boot_list) af))))) (pd (iq hr.units (aL aI c6 rfl m_len PySem.boot_len (aa (ab 6) af)) (aL aI c6 rfl m_len PySem.boot_len (aa (ab 7) af))) (pc (iq hr.units (AN hr.units rfl m_len rfl m_set (ab 6)) (aL aI c6 rfl m_len PySem.boot_len (aa (ab 6) af))))))) (aP (bj (ay gT))) eX)
  (ax (CY [8] (fun Z' zi=>Ax 8 (zi 8 (by decide)) sc.nd PassesOwn.never rfl (gR (lS 6)) (Ay (BU (PWD.pt (pd (dP (ca (aL fJ (j7 yJ) rfl m_isinstance boot_isinstance (aa (ab 8) (aa (nV rfl m_tuple boot_tuple) af))))) (pc (iq hr.units (aL aI c6 rfl m_len PySem.boot_len (aa (ab 8) af)) (aL aI c6 rfl m_len PySem.boot_len (aa (ab 3) af)))))) (sX (xV (ay gT))) xW) (sX (BU (dP (ca (aL (zX rfl) DR rfl m_all xh (aa (AO (by exact (kW (ab 8))) (N:=["_law_one"]) (js:=[]) (cl:=[]) (fun _ _ _ _ _=>by exact (ar hLwhole hr (aa (ab 0) af))) (by exact CompOk.nil)) af)))) (sX (xV (ay gT))) xW)))))
  (ax (iR (dP (ca (ar hLis_mean hr (aa (ab 3) (aa (ab 4) (aa (ab 7) (aa (ab 6) af))))))) (aP (bj (ay gT))) eX)
  (ax (bJ 9 sc.nd (c9 hnext_cell hr (aa (ab 3) (aa (ab 5) af))))
  (ax (iR (PWD.pt (pe (x6 (ab 9) yt) (lR (dP (ca (ar hLgo_on.has hr (aa (ab 3) (aa (ab 5) (aa (ab 9) (aa (ab 6) (aa (ar hcorners.has hr (aa (ab 9) af)) af))))))))))) (aP (bj (ay gT))) eX)
  (ax (bJ 10 sc.nd (wt rfl m_list boot_list (aa (ab 6) af)))
  (ax (yd 6 (C6 PySem.F.plainAttrs_list PySem.F.slot_list_clear PySem.F.type_list_clear yM (pvi 6)))
  (aP (iR (iq hr.units (ar hcorners.has hr (aa (ab 5) af)) (ab 10)) (aP (bj (ay gT))) eX))))))))))))))))
  (aP (bj (ay gT)))),?_⟩
 . show aC ((?f:SD) (aE 11 _))=_;have e0:aE 11 [.seq (ns.map D.int)]=[some (.seq (ns.map D.int)),none,none,none,none,none,none,none,none,none,none]:=by
    show [some (sh (.seq (ns.map D.int))),none,none,none,none,none,none,none,none,none,none]=_;rw [i0]
   rw [e0];obtain ⟨ms,ew⟩:=Eb (ns:=ns) (o:=[none,none,none,none,none,none,none,none,none,none]) hl 1 17;obtain ⟨p1,p2,p3,p4,p5,p6,p7,p8,p9,p10,lp⟩:=rA (ns:=ns) ms none none none none none none none none none none;exact dc (ao (iZ ew lp) (bS (aW (d:=.bl true) rfl)))
end
theorem D3 {l:PySem.W.OpenLaw} {w:World} {K:Zr} {h:Heap} {mg:Str->Option Value} {fa:Addr} (X:K.In h) (G:h.Ns mainGlobals mg) (hfa:mg "law" = some (.ref fa)) {f0 f1 f3 f4 f5 f6 f7 f8 f9 f10 f11 f12 f13 f14 f15 f16 f17 f18 f19 f20 f21 f22 f23 f24 f25 f26 f27 f28 f29 f30 f31 f32:Addr} {f2:Addr} {od2 an2:Option Addr} {sl2:Array (Option Value)} {oc2 kV2 dc2 pm2 cd2 ct2:Value} {f33:Addr} {od33 an33:Option Addr} {sl33:Array (Option Value)} {oc33 kV33 dc33 pm33 cd33 ct33:Value} {T2 nT2:Nat} {oT2:Value} {dT2:Option Addr} {sT2:Array (Option Value)} {tk2:Tok} 
 (a0:FK K "is_whole" fS f0) (a1:FK K "common_divisor" bX f1) (a3:FK K "lowest" jA f3) (a4:FK K "minus" kP f4) (a5:FK K "summed" jz f5) (a6:FK K "less" oY f6) (a7:FK K "floor_of" fU f7) (a8:FK K "cell_of" ik f8) (a9:FK K "is_past" ii f9) (a10:FK K "broken_parts" cF f10) (a11:FK K "broken_part" c7 f11) (a12:FK K "place_of" fR f12) (a13:FK K "next_cell" eE f13) (a14:FK K "is_moment" eF f14) (a15:FK K "behind_moment" cr f15) (a16:FK K "place_behind_moment" bh f16) (a17:FK K "ranks_of" fQ f17) (a18:FK K "corners" ij f18) (a19:FK K "corner" jB f19) (a20:FK K "_law_at" io f20) (a21:FK K "_law_purse" dL f21) (a22:FK K "_law_take" eJ f22) (a23:FK K "_law_whole" dI f23) (a24:FK K "_law_low" fW f24) (a25:FK K "_law_sum" fV f25) (a26:FK K "_law_time" eI f26) (a27:FK K "_law_times" dJ f27) (a28:FK K "_law_numbers" cG f28) (a29:FK K "_law_known" dM f29) (a30:FK K "_law_shares" c8 f30) (a31:FK K "_law_is_mean" cH f31) (a32:FK K "_law_go_on" dN f32)
 (a2:PySem.W.nsIn K mainGlobals "fraction" = some (some (.ref f2))) (l2:K.lookup f2=some ⟨oc2,od2,.func (PySem.W.fnOf "fraction" "fraction" (bK cz) (aV cz) (aj cz) (.ref T2) kV2 dc2 pm2 an2 cd2 ct2),sl2⟩) (t2:K.lookup T2=some ⟨oT2,dT2,.seq #[.int 1 tk2] nT2,sT2⟩) (c2:PySem.W.codeIn K cd2 "fraction" = true) (k2:PySem.W.keepIn K (.ref f2)=true)
 (a33:PySem.W.nsIn K mainGlobals "law" = some (some (.ref f33))) (l33:K.lookup f33=some ⟨oc33,od33,.func (PySem.W.fnOf "law" "law" (bK iQ) (aV iQ) (aj iQ) .none kV33 dc33 pm33 an33 cd33 ct33),sl33⟩) (c33:PySem.W.codeIn K cd33 "law" = true) (k33:PySem.W.keepIn K (.ref f33)=true)
 (z_isinstance:PySem.W.nsIn K mainGlobals "isinstance" = some none) (z_int:PySem.W.nsIn K mainGlobals "int" = some none) (z_bool:PySem.W.nsIn K mainGlobals "bool" = some none) (z_tuple:PySem.W.nsIn K mainGlobals "tuple" = some none) (z_zip:PySem.W.nsIn K mainGlobals "zip" = some none) (z_len:PySem.W.nsIn K mainGlobals "len" = some none) (z_any:PySem.W.nsIn K mainGlobals "any" = some none) (z_sorted:PySem.W.nsIn K mainGlobals "sorted" = some none) (z_set:PySem.W.nsIn K mainGlobals "set" = some none) (z_range:PySem.W.nsIn K mainGlobals "range" = some none) (z_abs:PySem.W.nsIn K mainGlobals "abs" = some none) (z_enumerate:PySem.W.nsIn K mainGlobals "enumerate" = some none) (z_list:PySem.W.nsIn K mainGlobals "list" = some none) (z_all:PySem.W.nsIn K mainGlobals "all" = some none) :
 ∃ fd:FuncData,(∀ (s:Shared) (v:Value),BindsTo s fd ⟨[v],[]⟩ [("_law_script",v)])/\∀ base:Heap,K.In base->base.Ns mainGlobals mg->FnOk l.prog w K mg base CX0 7 fa fd ["_law_script"] (spLaw K):=by
 have e:=hfa.symm.trans (PySem.W.mg_of X G a33);cases e;have m_isinstance:=PySem.W.mg_none_of X G z_isinstance;have m_int:=PySem.W.mg_none_of X G z_int;have m_bool:=PySem.W.mg_none_of X G z_bool;have m_tuple:=PySem.W.mg_none_of X G z_tuple;have m_zip:=PySem.W.mg_none_of X G z_zip;have m_len:=PySem.W.mg_none_of X G z_len;have m_any:=PySem.W.mg_none_of X G z_any;have m_sorted:=PySem.W.mg_none_of X G z_sorted;have m_set:=PySem.W.mg_none_of X G z_set;have m_range:=PySem.W.mg_none_of X G z_range;have m_abs:=PySem.W.mg_none_of X G z_abs;have m_enumerate:=PySem.W.mg_none_of X G z_enumerate;have m_list:=PySem.W.mg_none_of X G z_list;have m_all:=PySem.W.mg_none_of X G z_all;obtain ⟨_,F0,b0⟩:=a0.get (ps:=["thing"]) fun _ _ _ _ _ _ us hl=>match us,hl with | [_],_=>rfl
 obtain ⟨_,F1,b1⟩:=a1.get (ps:=["number","above_nought"]) fun _ _ _ _ _ _ us hl=>match us,hl with | [_,_],_=>rfl
 have F2:=Br (st:=cz) l2 c2 k2;have b2:=F2.binds (ps:=["top","bottom"]) (ds:=[]) t2 rfl fun _ _ _ _ _ _ us hl=>match us,hl with | [_,_],_=>⟨_,rfl,rfl⟩
 have e2:=F2.binds (ps:=["top","bottom"]) (ds:=[.int 1 tk2]) t2 rfl fun _ _ _ _ _ _ us hl=>by
  have h1:us.length=1:=by simpa using hl
  match us,h1 with
  | [_],_=>exact ⟨_,rfl,rfl⟩
 obtain ⟨_,F3,b3⟩:=a3.get (ps:=["top","bottom"]) fun _ _ _ _ _ _ us hl=>match us,hl with | [_,_],_=>rfl
 obtain ⟨_,F4,b4⟩:=a4.get (ps:=["one","other"]) fun _ _ _ _ _ _ us hl=>match us,hl with | [_,_],_=>rfl
 obtain ⟨_,F5,b5⟩:=a5.get (ps:=["one","top","bottom"]) fun _ _ _ _ _ _ us hl=>match us,hl with | [_,_,_],_=>rfl
 obtain ⟨_,F6,b6⟩:=a6.get (ps:=["one","other"]) fun _ _ _ _ _ _ us hl=>match us,hl with | [_,_],_=>rfl
 obtain ⟨_,F7,b7⟩:=a7.get (ps:=["one"]) fun _ _ _ _ _ _ us hl=>match us,hl with | [_],_=>rfl
 obtain ⟨_,F8,b8⟩:=a8.get (ps:=["most","times"]) fun _ _ _ _ _ _ us hl=>match us,hl with | [_,_],_=>rfl
 obtain ⟨_,F9,b9⟩:=a9.get (ps:=["greatest","time"]) fun _ _ _ _ _ _ us hl=>match us,hl with | [_,_],_=>rfl
 obtain ⟨_,F10,b10⟩:=a10.get (ps:=["times"]) fun _ _ _ _ _ _ us hl=>match us,hl with | [_],_=>rfl
 obtain ⟨_,F11,b11⟩:=a11.get (ps:=["time"]) fun _ _ _ _ _ _ us hl=>match us,hl with | [_],_=>rfl
 obtain ⟨_,F12,b12⟩:=a12.get (ps:=["greatest","time","parts"]) fun _ _ _ _ _ _ us hl=>match us,hl with | [_,_,_],_=>rfl
 obtain ⟨_,F13,b13⟩:=a13.get (ps:=["most","cell"]) fun _ _ _ _ _ _ us hl=>match us,hl with | [_,_],_=>rfl
 obtain ⟨_,F14,b14⟩:=a14.get (ps:=["most","cell"]) fun _ _ _ _ _ _ us hl=>match us,hl with | [_,_],_=>rfl
 obtain ⟨_,F15,b15⟩:=a15.get (ps:=["most","cell"]) fun _ _ _ _ _ _ us hl=>match us,hl with | [_,_],_=>rfl
 obtain ⟨_,F16,b16⟩:=a16.get (ps:=["greatest","place","step"]) fun _ _ _ _ _ _ us hl=>match us,hl with | [_,_,_],_=>rfl
 obtain ⟨_,F17,b17⟩:=a17.get (ps:=["cell"]) fun _ _ _ _ _ _ us hl=>match us,hl with | [_],_=>rfl
 obtain ⟨_,F18,b18⟩:=a18.get (ps:=["cell"]) fun _ _ _ _ _ _ us hl=>match us,hl with | [_],_=>rfl
 obtain ⟨_,F19,b19⟩:=a19.get (ps:=["cell","level"]) fun _ _ _ _ _ _ us hl=>match us,hl with | [_,_],_=>rfl
 obtain ⟨_,F20,b20⟩:=a20.get (ps:=["_law_script","_law_k"]) fun _ _ _ _ _ _ us hl=>match us,hl with | [_,_],_=>rfl
 obtain ⟨_,F21,b21⟩:=a21.get (ps:=["_law_cell","_law_way"]) fun _ _ _ _ _ _ us hl=>match us,hl with | [_,_],_=>rfl
 obtain ⟨_,F22,b22⟩:=a22.get (ps:=["_law_purse_here","_law_many"]) fun _ _ _ _ _ _ us hl=>match us,hl with | [_,_],_=>rfl
 obtain ⟨_,F23,b23⟩:=a23.get (ps:=["_law_found"]) fun _ _ _ _ _ _ us hl=>match us,hl with | [_],_=>rfl
 obtain ⟨_,F24,b24⟩:=a24.get (ps:=["_law_top","_law_bottom"]) fun _ _ _ _ _ _ us hl=>match us,hl with | [_,_],_=>rfl
 obtain ⟨_,F25,b25⟩:=a25.get (ps:=["_law_one","_law_other"]) fun _ _ _ _ _ _ us hl=>match us,hl with | [_,_],_=>rfl
 obtain ⟨_,F26,b26⟩:=a26.get (ps:=["_law_purse_here","_law_most","_law_hands"]) fun _ _ _ _ _ _ us hl=>match us,hl with | [_,_,_],_=>rfl
 obtain ⟨_,F27,b27⟩:=a27.get (ps:=["_law_purse_here","_law_mosts_due"]) fun _ _ _ _ _ _ us hl=>match us,hl with | [_,_],_=>rfl
 obtain ⟨_,F28,b28⟩:=a28.get (ps:=["_law_purse_here"]) fun _ _ _ _ _ _ us hl=>match us,hl with | [_],_=>rfl
 obtain ⟨_,F29,b29⟩:=a29.get (ps:=["_law_most","_law_hands"]) fun _ _ _ _ _ _ us hl=>match us,hl with | [_,_],_=>rfl
 obtain ⟨_,F30,b30⟩:=a30.get (ps:=["_law_most","_law_hands"]) fun _ _ _ _ _ _ us hl=>match us,hl with | [_,_],_=>rfl
 obtain ⟨_,F31,b31⟩:=a31.get (ps:=["_law_most","_law_hands","_law_shares_here","_law_some"]) fun _ _ _ _ _ _ us hl=>match us,hl with | [_,_,_,_],_=>rfl
 obtain ⟨_,F32,b32⟩:=a32.get (ps:=["_law_most","_law_here","_law_after","_law_some","_law_more"]) fun _ _ _ _ _ _ us hl=>match us,hl with | [_,_,_,_,_],_=>rfl
 have F33:=zt (st:=iQ) l33 c33 k33;refine ⟨PySem.W.fnOf "law" "law" (bK iQ) (aV iQ) (aj iQ) .none kV33 dc33 pm33 an33 cd33 ct33,fun s v=>.of_eq rfl,fun base _ _=>?_⟩
 have his_whole:=mkP l.prog w base X G a0 (qO F0   m_isinstance m_int m_bool) b0;have hcommon_divisor:=mkP l.prog w base X G a1 (jL F1   ) b1;have hless:=mkP l.prog w base X G a6 (AU F6   ) b6;have hfloor_of:=mkP l.prog w base X G a7 (qQ F7   ) b7;have his_moment:=mkF l.prog w base X G a14 (pF F14   m_any m_zip) b14;have hplace_behind_moment:=mkP l.prog w base X G a16 (gg F16   ) b16;have hranks_of:=mkF l.prog w base X G a17 (qM F17   m_sorted m_set) b17;have hcorner:=mkF l.prog w base X G a19 (wD F19   m_tuple) b19;have hLat:=mkP l.prog w base X G a20 (tG F20   m_len) b20;have hLpurse:=mkF l.prog w base X G a21 (nk F21   m_abs) b21;have hLtake:=mkU l.prog w base X G a22 (pH F22   ) b22;have hLwhole:=mkP l.prog w base X G a23 (nc F23   m_isinstance m_int m_bool) b23;have hLlow:=mkP l.prog w base X G a24 (qS F24   m_abs) b24;have hLknown:=mkF l.prog w base X G a29 (nr F29   m_zip) b29;have hlowest:=mkP l.prog w base X G a3 (wC F3 hcommon_divisor  ) b3;have hsummed:=mkP l.prog w base X G a5 (wB F5 hcommon_divisor  ) b5;have hbehind_moment:=mkF l.prog w base X G a15 (j0 F15 hplace_behind_moment  m_any m_tuple m_zip) b15;have hcorners:=mkF l.prog w base X G a18 (tD F18 hranks_of hcorner  m_len m_range) b18;have hLsum:=mkP l.prog w base X G a25 (qR F25 hLlow  ) b25;have hLtime:=mkU l.prog w base X G a26 (pG F26 hLtake hLlow  m_len) b26;have hLnumbers:=mkU l.prog w base X G a28 (kF F28 hLtake  m_range) b28;have hLgo_on:=mkF l.prog w base X G a32 (nu F32 his_moment  m_int m_range m_len m_any) b32;have hfraction:Has l.prog w K mg base 3 "fraction" ["top","bottom"] (fn bg):=⟨⟨_,_,ky F2 hlowest his_whole  ,PySem.W.mg_of X G a2,k2,b2⟩⟩;have hfractionD:Ae l.prog w K mg base 3 "fraction" ["top","bottom"] [1] (fn bg):=⟨⟨_,_,_,ky F2 hlowest his_whole  ,PySem.W.mg_of X G a2,k2,.cons ⟨_,rfl⟩ .nil,e2⟩⟩;have hminus:=mkP l.prog w base X G a4 (yI F4 hsummed  ) b4;have hnext_cell:=mkF l.prog w base X G a13 (pE F13 his_moment hbehind_moment hranks_of  m_tuple) b13;have hLtimes:=mkU l.prog w base X G a27 (nh F27 hLtime  ) b27;have hLshares:=mkF l.prog w base X G a30 (mh F30 hLknown hLlow hLsum  m_range m_len) b30;have hLis_mean:=mkP l.prog w base X G a31 (kG F31 hLlow hLsum  m_enumerate m_zip) b31;have his_past:=mkP l.prog w base X G a9 (tu F9 hless hfractionD  ) b9;have hbroken_part:=mkP l.prog w base X G a11 (l9 F11 hminus hfractionD hfloor_of  ) b11;have hbroken_parts:=mkF l.prog w base X G a10 (kE F10 hbroken_part hfractionD  ) b10;have hplace_of:=mkF l.prog w base X G a12 (qN F12 his_past hbroken_part hfloor_of hless  m_len) b12;have hcell_of:=mkF l.prog w base X G a8 (tF F8 hbroken_parts hplace_of his_past  m_tuple m_zip) b8;exact Dj F33 hLpurse hLnumbers hLtimes hcell_of hcorners hLshares hnext_cell hLis_mean hLat hLgo_on hLwhole  m_list m_tuple m_isinstance m_len m_all m_set
theorem facts {l:PySem.W.OpenLaw} {w:World} {K:Zr} {h:Heap} {mg:Str->Option Value} {fa:Addr} (e:FF K=FE) (X:K.In h) (G:h.Ns mainGlobals mg) (hfa:mg "law" = some (.ref fa)) :
 ∃ fd:FuncData,(∀ (s:Shared) (v:Value),BindsTo s fd ⟨[v],[]⟩ [("_law_script",v)])/\∀ base:Heap,K.In base->base.Ns mainGlobals mg->FnOk l.prog w K mg base CX0 7 fa fd ["_law_script"] (spLaw K):=by
 obtain ⟨e0,e⟩:=Prod.mk.inj e;obtain ⟨e1,e⟩:=Prod.mk.inj e;obtain ⟨e2,e⟩:=Prod.mk.inj e;obtain ⟨t2,e⟩:=Prod.mk.inj e;obtain ⟨e3,e⟩:=Prod.mk.inj e;obtain ⟨e4,e⟩:=Prod.mk.inj e;obtain ⟨e5,e⟩:=Prod.mk.inj e;obtain ⟨e6,e⟩:=Prod.mk.inj e;obtain ⟨e7,e⟩:=Prod.mk.inj e;obtain ⟨e8,e⟩:=Prod.mk.inj e;obtain ⟨e9,e⟩:=Prod.mk.inj e;obtain ⟨e10,e⟩:=Prod.mk.inj e;obtain ⟨e11,e⟩:=Prod.mk.inj e;obtain ⟨e12,e⟩:=Prod.mk.inj e;obtain ⟨e13,e⟩:=Prod.mk.inj e;obtain ⟨e14,e⟩:=Prod.mk.inj e;obtain ⟨e15,e⟩:=Prod.mk.inj e;obtain ⟨e16,e⟩:=Prod.mk.inj e;obtain ⟨e17,e⟩:=Prod.mk.inj e;obtain ⟨e18,e⟩:=Prod.mk.inj e;obtain ⟨e19,e⟩:=Prod.mk.inj e;obtain ⟨e20,e⟩:=Prod.mk.inj e;obtain ⟨e21,e⟩:=Prod.mk.inj e;obtain ⟨e22,e⟩:=Prod.mk.inj e;obtain ⟨e23,e⟩:=Prod.mk.inj e;obtain ⟨e24,e⟩:=Prod.mk.inj e;obtain ⟨e25,e⟩:=Prod.mk.inj e;obtain ⟨e26,e⟩:=Prod.mk.inj e;obtain ⟨e27,e⟩:=Prod.mk.inj e;obtain ⟨e28,e⟩:=Prod.mk.inj e;obtain ⟨e29,e⟩:=Prod.mk.inj e;obtain ⟨e30,e⟩:=Prod.mk.inj e;obtain ⟨e31,e⟩:=Prod.mk.inj e;obtain ⟨e32,e⟩:=Prod.mk.inj e;obtain ⟨e33,e⟩:=Prod.mk.inj e;obtain ⟨z_isinstance,e⟩:=Prod.mk.inj e;obtain ⟨z_int,e⟩:=Prod.mk.inj e;obtain ⟨z_bool,e⟩:=Prod.mk.inj e;obtain ⟨z_tuple,e⟩:=Prod.mk.inj e;obtain ⟨z_zip,e⟩:=Prod.mk.inj e;obtain ⟨z_len,e⟩:=Prod.mk.inj e;obtain ⟨z_any,e⟩:=Prod.mk.inj e;obtain ⟨z_sorted,e⟩:=Prod.mk.inj e;obtain ⟨z_set,e⟩:=Prod.mk.inj e;obtain ⟨z_range,e⟩:=Prod.mk.inj e;obtain ⟨z_abs,e⟩:=Prod.mk.inj e;obtain ⟨z_enumerate,e⟩:=Prod.mk.inj e;obtain ⟨z_list,e⟩:=Prod.mk.inj e;have z_all:=e;obtain ⟨a2,k2,_,_,_,_,_,_,_,_,_,l2,c2⟩:=Hd.fv_inv e2;obtain ⟨_,_,_,_,_,t2⟩:=Hd.intsAt_inv t2;obtain ⟨a33,k33,_,_,_,_,_,_,_,_,_,l33,c33⟩:=Hd.fv_inv e33;exact D3 X G hfa (FK.of2 e0) (FK.of2 e1) (FK.of2 e3) (FK.of2 e4) (FK.of2 e5) (FK.of2 e6) (FK.of2 e7) (FK.of2 e8) (FK.of2 e9) (FK.of2 e10) (FK.of2 e11) (FK.of2 e12) (FK.of2 e13) (FK.of2 e14) (FK.of2 e15) (FK.of2 e16) (FK.of2 e17) (FK.of2 e18) (FK.of2 e19) (FK.of2 e20) (FK.of2 e21) (FK.of2 e22) (FK.of2 e23) (FK.of2 e24) (FK.of2 e25) (FK.of2 e26) (FK.of2 e27) (FK.of2 e28) (FK.of2 e29) (FK.of2 e30) (FK.of2 e31) (FK.of2 e32) a2 l2 t2 c2 k2 a33 l33 c33 k33 z_isinstance z_int z_bool z_tuple z_zip z_len z_any z_sorted z_set z_range z_abs z_enumerate z_list z_all
end
end Mine
open PySem PySem.W PyProof.Rows
set_option maxRecDepth 100000 in
set_option maxHeartbeats 0 in
theorem PySem.Challenge.cw_watchyard_k56_whole_corners_around_a_cel_holds : PySem.Challenge.rw_watchyard_k56_whole_corners_around_a_cel.Holds := by
 w_on;refine holds_law Mine.said fun said=>?_
 refine holds_open (q:=Mine.VW) (loose:=Mine.LO) (Xt:=Mine.XT) (XP:=XL Mine.VW []) (Yf:=Hook.obs Mine.HK) (Ya:=Hook.val Mine.HK) (YP:=Hook.says Mine.HK) (N:=3594) Mine.left (Hook.of Mine.HK) (Hook.keeps Mine.HK) (fun s e=>xl_of s (Bool.and_eq_true_iff.mp e).1) XL.keeps (by rfl) (by rfl) (by rfl) (fun s e=>recFacts_of (Bool.and_eq_true_iff.mp e).2) (by rfl) (by first | assumption | decide +kernel) (by decide +kernel) ⟨rfl,rfl,rfl,rfl,rfl,by decide +kernel⟩ ?hw ?hc
 (case hw=>w_witness2)
 exact Hd.walkE (l:=PySem.Challenge.rw_watchyard_k56_whole_corners_around_a_cel) (n:=63) (k:=7) (x:="_law_script") (T:=fun K=>Mine.FF K=Mine.FE) (sp:=fun K=>Dl.spLaw K) rfl (by decide) rfl ⟨rfl,by decide,by decide⟩ (fun _ _ Y=>Y) (fun _ _ _ _ _ e X G h=>Mine.facts e X G h) fun _ _ a ns hl _ hS=>⟨a,ns,rfl,hS,hl,fun _=>rfl⟩
