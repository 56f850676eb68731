import PyProof.Rows.All
import Wide.All
import OpenK.AllK
import Wide.FinOn
import Lean
import PyProof.EqAt
import PyProof.EqKinds
import PyProof.TupleCall
import PyProof.NeKinds
import KE.IntBitsLaws
import KE.KUnpack
import KE.LcSums
import PyProof.ConsumeWalk
import PyProof.DictWalks
import PyProof.Rows.DictUnroll
import PyProof.Rows.SetFrom
import PyProof.Rows.SortShell
import PyProof.Rows.SortWalk
import PyProof.MeetsIn
import PyProof.CollectWalk
import KE.KDictSum
import PyProof.SetRoads
import PyProof.Rows.Range3
import PyProof.Draws
import PyProof.EnumStmt
import PyProof.EnumFor
import PyProof.Walk
import PyProof.WalkLemmas
import PyProof.AutoSeq1
import PyProof.RaisesAny
import PyProof.ZipIter
import KE.BitLaws
import PyProof.SumWalkG
import PyProof.ListRange
import PyProof.StrCalls2
import KE.KIntText
import PyProof.StrWalks
import PyProof.SliceStr2
import KE.KSortTup
import PyProof.Rows.SortRunsK
import KE.IntText
import KE.KDictOf
import PyProof.Rows.TupTab
import PyProof.DictFindH
import PyProof.AttrMissSeq
import PyProof.DictKinds
import PyProof.EnumMake
import PyProof.Rows.CallKwBuiltin
import PyProof.StrLawsTight
import PyProof.StrLawsChain
import PyProof.StrLawsIn
import PyProof.StrBlockL
import KE.IntTextLaws
import PySem.Challenge.RW_watchyard_k31_read_and_shown
set_option Elab.async false
set_option linter.all false
set_option maxRecDepth 100000
set_option maxHeartbeats 4000000
namespace Xx
variable{α β γ ε ζ:Sort _}{G:Prop}
theorem x03{P Q R:Prop}(h:P/\Q/\R)(k:P->Q->R->G):G:=by obtain⟨a,b,c⟩:=h;exact k a b c
theorem x04{P Q R S:Prop}(h:P/\Q/\R/\S)(k:P->Q->R->S->G):G:=by obtain⟨a,b,c,d⟩:=h;exact k a b c d
theorem x05{P Q R S T:Prop}(h:P/\Q/\R/\S/\T)(k:P->Q->R->S->T->G):G:=by obtain⟨a,b,c,d,e⟩:=h;exact k a b c d e
theorem x06{P Q R S T U:Prop}(h:P/\Q/\R/\S/\T/\U)(k:P->Q->R->S->T->U->G):G:=by obtain⟨a,b,c,d,e,f⟩:=h;exact k a b c d e f
theorem x12{P Q:α->Prop}(h:∃x,P x/\Q x)(k:∀x,P x->Q x->G):G:=by obtain⟨x,a,b⟩:=h;exact k x a b
theorem x13{P Q R:α->Prop}(h:∃x,P x/\Q x/\R x)(k:∀x,P x->Q x->R x->G):G:=by obtain⟨x,a,b,c⟩:=h;exact k x a b c
theorem x14{P Q R S:α->Prop}(h:∃x,P x/\Q x/\R x/\S x)(k:∀x,P x->Q x->R x->S x->G):G:=by obtain⟨x,a,b,c,d⟩:=h;exact k x a b c d
theorem x15{P Q R S T:α->Prop}(h:∃x,P x/\Q x/\R x/\S x/\T x)(k:∀x,P x->Q x->R x->S x->T x->G):G:=by obtain⟨x,a,b,c,d,e⟩:=h;exact k x a b c d e
theorem x21{P:α->β->Prop}(h:∃x y,P x y)(k:∀x y,P x y->G):G:=by obtain⟨x,y,a⟩:=h;exact k x y a
theorem x22{P Q:α->β->Prop}(h:∃x y,P x y/\Q x y)(k:∀x y,P x y->Q x y->G):G:=by obtain⟨x,y,a,b⟩:=h;exact k x y a b
theorem x23{P Q R:α->β->Prop}(h:∃x y,P x y/\Q x y/\R x y)(k:∀x y,P x y->Q x y->R x y->G):G:=by obtain⟨x,y,a,b,c⟩:=h;exact k x y a b c
theorem x24{P Q R S:α->β->Prop}(h:∃x y,P x y/\Q x y/\R x y/\S x y)(k:∀x y,P x y->Q x y->R x y->S x y->G):G:=by obtain⟨x,y,a,b,c,d⟩:=h;exact k x y a b c d
theorem x25{P Q R S T:α->β->Prop}(h:∃x y,P x y/\Q x y/\R x y/\S x y/\T x y)(k:∀x y,P x y->Q x y->R x y->S x y->T x y->G):G:=by obtain⟨x,y,a,b,c,d,e⟩:=h;exact k x y a b c d e
theorem x26{P Q R S T U:α->β->Prop}(h:∃x y,P x y/\Q x y/\R x y/\S x y/\T x y/\U x y)(k:∀x y,P x y->Q x y->R x y->S x y->T x y->U x y->G):G:=by obtain⟨x,y,a,b,c,d,e,f⟩:=h;exact k x y a b c d e f
theorem x31{P:α->β->γ->Prop}(h:∃x y z,P x y z)(k:∀x y z,P x y z->G):G:=by obtain⟨x,y,z,a⟩:=h;exact k x y z a
theorem x32{P Q:α->β->γ->Prop}(h:∃x y z,P x y z/\Q x y z)(k:∀x y z,P x y z->Q x y z->G):G:=by obtain⟨x,y,z,a,b⟩:=h;exact k x y z a b
theorem x33{P Q R:α->β->γ->Prop}(h:∃x y z,P x y z/\Q x y z/\R x y z)(k:∀x y z,P x y z->Q x y z->R x y z->G):G:=by obtain⟨x,y,z,a,b,c⟩:=h;exact k x y z a b c
theorem x34{P Q R S:α->β->γ->Prop}(h:∃x y z,P x y z/\Q x y z/\R x y z/\S x y z)(k:∀x y z,P x y z->Q x y z->R x y z->S x y z->G):G:=by obtain⟨x,y,z,a,b,c,d⟩:=h;exact k x y z a b c d
theorem x35{P Q R S T:α->β->γ->Prop}(h:∃x y z,P x y z/\Q x y z/\R x y z/\S x y z/\T x y z)(k:∀x y z,P x y z->Q x y z->R x y z->S x y z->T x y z->G):G:=by obtain⟨x,y,z,a,b,c,d,e⟩:=h;exact k x y z a b c d e
theorem x42{P Q:α->β->γ->ε->Prop}(h:∃x y z u,P x y z u/\Q x y z u)(k:∀x y z u,P x y z u->Q x y z u->G):G:=by obtain⟨x,y,z,u,a,b⟩:=h;exact k x y z u a b
theorem x43{P Q R:α->β->γ->ε->Prop}(h:∃x y z u,P x y z u/\Q x y z u/\R x y z u)(k:∀x y z u,P x y z u->Q x y z u->R x y z u->G):G:=by obtain⟨x,y,z,u,a,b,c⟩:=h;exact k x y z u a b c
theorem x44{P Q R S:α->β->γ->ε->Prop}(h:∃x y z u,P x y z u/\Q x y z u/\R x y z u/\S x y z u)(k:∀x y z u,P x y z u->Q x y z u->R x y z u->S x y z u->G):G:=by obtain⟨x,y,z,u,a,b,c,d⟩:=h;exact k x y z u a b c d
theorem x45{P Q R S T:α->β->γ->ε->Prop}(h:∃x y z u,P x y z u/\Q x y z u/\R x y z u/\S x y z u/\T x y z u)(k:∀x y z u,P x y z u->Q x y z u->R x y z u->S x y z u->T x y z u->G):G:=by obtain⟨x,y,z,u,a,b,c,d,e⟩:=h;exact k x y z u a b c d e
theorem x46{P Q R S T U:α->β->γ->ε->Prop}(h:∃x y z u,P x y z u/\Q x y z u/\R x y z u/\S x y z u/\T x y z u/\U x y z u)(k:∀x y z u,P x y z u->Q x y z u->R x y z u->S x y z u->T x y z u->U x y z u->G):G:=by obtain⟨x,y,z,u,a,b,c,d,e,f⟩:=h;exact k x y z u a b c d e f
theorem x53{P Q R:α->β->γ->ε->ζ->Prop}(h:∃x y z u v,P x y z u v/\Q x y z u v/\R x y z u v)(k:∀x y z u v,P x y z u v->Q x y z u v->R x y z u v->G):G:=by obtain⟨x,y,z,u,v,a,b,c⟩:=h;exact k x y z u v a b c
theorem x54{P Q R S:α->β->γ->ε->ζ->Prop}(h:∃x y z u v,P x y z u v/\Q x y z u v/\R x y z u v/\S x y z u v)(k:∀x y z u v,P x y z u v->Q x y z u v->R x y z u v->S x y z u v->G):G:=by obtain⟨x,y,z,u,v,a,b,c,d⟩:=h;exact k x y z u v a b c d
theorem x55{P Q R S T:α->β->γ->ε->ζ->Prop}(h:∃x y z u v,P x y z u v/\Q x y z u v/\R x y z u v/\S x y z u v/\T x y z u v)(k:∀x y z u v,P x y z u v->Q x y z u v->R x y z u v->S x y z u v->T x y z u v->G):G:=by obtain⟨x,y,z,u,v,a,b,c,d,e⟩:=h;exact k x y z u v a b c d e
theorem x56{P Q R S T U:α->β->γ->ε->ζ->Prop}(h:∃x y z u v,P x y z u v/\Q x y z u v/\R x y z u v/\S x y z u v/\T x y z u v/\U x y z u v)(k:∀x y z u v,P x y z u v->Q x y z u v->R x y z u v->S x y z u v->T x y z u v->U x y z u v->G):G:=by obtain⟨x,y,z,u,v,a,b,c,d,e,f⟩:=h;exact k x y z u v a b c d e f
end Xx
open Xx
local macro_rules | `(tactic| obtain ⟨$ps:rcasesPatLo,*⟩ := $e:term) => do
  let mut xs : Array (Lean.TSyntax `term) := #[]
  let mut post : Array (Lean.TSyntax `tactic) := #[]
  let mut i := 0
  for p in ps.getElems do
    i := i + 1
    let z := Lean.mkIdent (← Lean.Macro.addMacroScope (.mkSimple s!"z{i}"))
    let m := p.raw[0]
    let q := m[0][0]
    if m[0].getNumArgs == 1 && q.isOfKind `Lean.Parser.Tactic.rcasesPat.one then
      if q[0].getId == `rfl then
        xs := xs.push z
        post := post.push (← `(tactic| subst $z:ident))
      else xs := xs.push ⟨q[0]⟩
    else if m[0].getNumArgs == 1 && q.isOfKind `Lean.Parser.Tactic.rcasesPat.ignore then xs := xs.push (← `(_))
    else
      xs := xs.push z
      post := post.push (← `(tactic| obtain $(⟨m⟩):rcasesPatMed := $z:ident))
  let n := xs.size
  if n < 3 || n > 11 || (e.raw.isIdent && (!post.isEmpty || xs.any (·.raw.getId == e.raw.getId))) then Lean.Macro.throwUnsupported
  let tl ← if post.isEmpty then `(tactic| skip) else `(tactic| ($[$post];*))
  let mut r ← `(tactic| rcases $e:term with ⟨$ps,*⟩)
  for j in [0:n] do
    let d := n - j
    if j <= 5 && d <= 6 then
      let f := Lean.mkIdent (.mkSimple s!"x{j}{d}")
      r ← `(tactic| first | (refine $f:ident $e fun $xs* => ?_; $tl) | ($r:tactic))
  return r
theorem Xx.n1 {α : Type _} {x : α} {G : Prop} (h : none = some x) : G := nomatch h
theorem Xx.i1 {α : Type _} {x y : α} (h : some x = some y) : x = y := Option.some.inj h
local macro_rules | `(tactic| cases $h:ident) => `(tactic| first | exact n1 $h | (have z := i1 $h; subst z) | subst $h | cases ($h))
noncomputable section
section
open PySem PySem.Spec PyProof.Rows PySem.W
noncomputable abbrev Za:=@Option.bind_eq_some_iff
noncomputable abbrev Zb:=@Option.map_eq_some_iff
noncomputable abbrev Zc:=@Option.bind_some
noncomputable abbrev Zd:=@Option.map_some
noncomputable abbrev Ze:=@List.getElem?_cons_zero
noncomputable abbrev Zf:=@List.getElem?_cons_succ
noncomputable abbrev Zg:=@List.set_cons_zero
noncomputable abbrev Zh:=@List.set_cons_succ
noncomputable abbrev Zi:=@List.cons_append
noncomputable abbrev Zj:=@List.nil_append
noncomputable abbrev Zk:=@List.append_nil
noncomputable abbrev Zl:=@List.length_append
noncomputable abbrev Zm:=@List.length_map
noncomputable abbrev Zn:=@List.length_cons
noncomputable abbrev Zo:=@List.length_nil
noncomputable abbrev Zp:=@List.mem_cons_self
noncomputable abbrev Zq:=@List.mem_cons_of_mem
noncomputable abbrev Zr:=@List.mem_singleton
noncomputable abbrev Zs:=@List.mem_map
noncomputable abbrev Zt:=@List.mem_append
noncomputable abbrev Zu:=@List.mem_cons
noncomputable abbrev Zv:=@List.map_cons
noncomputable abbrev Zw:=@List.map_nil
noncomputable abbrev Zx:=@List.map_append
noncomputable abbrev Zy:=@List.getElem?_eq_getElem
noncomputable abbrev Zz:=@List.nodup_nil
noncomputable abbrev ZA:=@beq_self_eq_true
noncomputable abbrev ZB:=@W.Frag
noncomputable abbrev ZC:=@Bool.false_ne_true
noncomputable abbrev ZD:=@Nat.lt_of_lt_of_le
noncomputable abbrev ZE:=@List.mem_append_right
noncomputable abbrev ZF:=@List.mem_append_left
noncomputable abbrev ZG:=@List.size_toArray
noncomputable abbrev ZH:=@Option.some.inj
noncomputable abbrev ZI:=@List.not_mem_nil
noncomputable abbrev ZJ:=@Nat.ne_of_lt
noncomputable abbrev ZK:=@Nat.lt_irrefl
noncomputable abbrev ZL:=@List.getElem?_eq_some_iff
noncomputable abbrev ZM:=@Nat.le_refl
noncomputable abbrev ZN:=@Bool.and_eq_true
noncomputable abbrev ZP:=@List.take_succ_cons
noncomputable abbrev ZQ:=@List.replicate_zero
noncomputable abbrev ZR:=@Bool.false_eq_true
noncomputable abbrev ZS:=@List.take_zero
noncomputable abbrev ZT:=@Heap.get?_push_of_some
noncomputable abbrev ZU:=@Heap.lt_size
noncomputable abbrev ZV:=@List.replicate_succ
noncomputable abbrev ZW:=@List.append_assoc
noncomputable abbrev ZX:=@Heap.get?_push_size
noncomputable abbrev ZY:=@Prod.mk.inj
noncomputable abbrev ZZ:=@Nat.le_trans
noncomputable abbrev Z0:=@Int.eq_ofNat_of_zero_le
noncomputable abbrev Z1:=@Array.getElem?_eq_getElem
noncomputable abbrev Z2:=@List.nodup_append
noncomputable abbrev Z3:=@List.nodup_cons
noncomputable abbrev Z4:=@wpAny_bind
noncomputable abbrev Z5:=@wpAny_pure
noncomputable abbrev Z6:=@wpS_bind
noncomputable abbrev Z7:=@wpS_pure
noncomputable abbrev Z8:=@if_true
noncomputable abbrev Z9:=@if_false
noncomputable abbrev Zza:=@of_decide_eq_true
noncomputable abbrev Zzb:=@False.elim
noncomputable abbrev Yc:=@Value
noncomputable abbrev Yd:=@Shared
noncomputable abbrev Ye:=@Addr
noncomputable abbrev Yg:=@Option
noncomputable abbrev Yh:=@List
end
namespace L2
open PySem PySem.Spec PyProof.Rows
noncomputable def Ic(s:Stmt)(j:Nat):Stmt:=match s with
 |.ClassDef _ _ _ body _ _ _ _ _ _ _=>body.getD j (.Pass ⟨0,0,0,0⟩)
 |_=>.Pass ⟨0,0,0,0⟩
noncomputable def eU(s:Stmt):Arguments:=match s with
 |.FunctionDef _ a _ _ _ _ _ _ _ _=>a
 |_=>{ posonlyargs:=[],args:=[],vararg:=none,kwonlyargs:=[],kw_defaults:=[],kwarg:=none,defaults:=[] }
noncomputable def cE(s:Stmt):List Stmt:=match s with
 |.FunctionDef _ _ b _ _ _ _ _ _ _=>b
 |_=>[]
noncomputable def aR(s:Stmt):Scope:=match s with
 |.FunctionDef _ _ _ _ _ _ sc _ _ _=>sc
 |_=>{ kind:=.function,names:=[],isGenerator:=false,isCoroutine:=false }
end L2
namespace Hd
open PySem PySem.Spec PyProof.Rows L2 PySem.W
variable {l:W.OpenLaw} {q:Program} {loose:Yh Str} {Xt:Yd->Bool} {ann:Yg Yc}
def Kof(as:List Addr)(h:Heap):ZB:=as.filterMap fun a=>(h.get? a).map fun o=>(a,o)
theorem yk:∀as h,(Kof as h).In h
 |[],h,a,o,e=>by cases e
 | b :: r,h,a,o,e=>by
  unfold Kof at e;rw[List.filterMap_cons]at e;cases j:h.get? b with
  |none=>rw[j]at e;exact yk r h a o e
  |some o' =>
   rw[j]at e;change List.lookup a ((b,o')::Kof r h)=some o at e;rw[List.lookup_cons]at e;cases f:a==b with
   |true=>rw[f]at e;cases e;rw[beq_iff_eq.mp f];exact j
   |false=>rw[f]at e;exact yk r h a o e
def hk{α:Type}(as:List Addr)(F:ZB->α)(v:α):W.Hook where
 α:=α
 obs:=fun s=>F (Kof as s.heap)
 val:=fun _=>v
 says:=fun _ h=>∃K:ZB,K.In h/\F K=v
 of:=fun _ s e=>⟨_,yk as s.heap,e⟩
 keeps:=fun _ _ _ x k=>Exists.elim x fun K y=>⟨K,y.1.keeps k,y.2⟩
theorem left_one{p}{α:Type}{Yf}{Ya:World->α}{N}{g0}{m₀} 
 (e:opening p=plainProg p.main.scope.names) (B:Nat.ble 600 N=true) (f:∀s,fenceModules? p s=some s)
 (o:∀w:World,((boot_heap w.params).isNs mainGlobals,(boot_heap w.params).objs.size,(boot_heap w.params).nsMap mainGlobals "__annotations__")=(true,m₀,ann))
 (Ct:∀(w:World)(m:OsState),(topRun treeTable p w m₀ ann N ⟨boot_heap w.params,Array.mk [],boot_drawn,boot_toks,m⟩ (topStub p)).map (fun s=>((staticsOk (importedModules p.main.body) (boot_heap w.params) s.heap&&namesBound p s.heap&&gensDone s&&laidKept (boot_heap w.params) s.heap),Yf s))=some (true,Ya w))
 (u:∀(w:World)(m:OsState),(topRun treeTable p w m₀ ann N ⟨boot_heap w.params,Array.mk [],boot_drawn,boot_toks,m⟩ (topStub p)).map (fun s=>openSeen q loose (importedModules p.main.body) Xt g0 s)=some (openGood q loose)):LeftO p q loose Xt Yf Ya N g0:=fun w=>by
 obtain⟨⟨h,C,d,k,m⟩,e,v⟩:=Zb.mp (boot_open e B f w);obtain⟨rfl,v⟩:=ZY v;obtain⟨rfl,v⟩:=ZY v;obtain⟨rfl,rfl⟩:=ZY v;obtain⟨z1,z2⟩:=ZY (o w);obtain⟨z2,z3⟩:=ZY z2;obtain⟨j,r,l⟩:=Zb.mp (Ct w m);obtain⟨z,y⟩:=ZY l;have x:=u w m;rw[r]at x;have t:topFrom treeTable p w N ⟨boot_heap w.params,Array.mk [],boot_drawn,boot_toks,m⟩=some j:=by
  unfold topFrom;rw[z1,z2,z3];rw[r];show(match staticsOk (importedModules p.main.body) (boot_heap w.params) j.heap&&namesBound p j.heap&&gensDone j&&laidKept (boot_heap w.params) j.heap with|true=>_|false=>_)=_
  rw[z]
 unfold openEnds;rw[e];show((topFrom treeTable p w N _).map _)=_;rw[t];exact congrArg some (Prod.ext (ZH x) y)
end Hd
namespace Hq
open PySem PySem.Spec PyProof.Rows L2 PySem.W
variable {K:Frag} {x:Str} {f C:Ye}
abbrev FR:=Option (Str×Str×Arguments×FuncBody×Scope×Addr×List (Str×Addr)×Value×Addr×Bool)
noncomputable def fr(K:Frag)(q:Str)(f:Addr):FR:=match K.lookup f with
 |some ⟨_,_,.func d,_⟩=>some (d.name,d.qualname,d.params,d.body,d.scope,d.globals,d.closure,d.defaults,d.builtins,codeIn K d.code q)
 |_=>none
def fq(x q:Str)(st:Stmt):FR:=some (x,q,eU st,FuncBody.stmts (cE st),aR st,mainGlobals,[],.none,builtinsNs,true)
noncomputable def cv (K:Frag) (C:Addr):=(plainGet K C Str.empty,hasDictIn K C,plainOver K C,findIn K (.ref C) "__setattr__")
noncomputable def ce:Bool×Bool×Bool×Option (Option Value):=(true,true,true,some (some (.builtin "object.__setattr__")))
noncomputable def kv (K:Frag) (C:Addr) (x:Str) (f:Addr):=(makesIn K C,keepIn K (.ref C),nsIn K mainGlobals x,findIn K (.ref C) "__init__",isFn K (.ref f))
noncomputable def ke(C f:Addr):Bool×Bool×Option (Option Value)×Option (Option Value)×Bool:=(true,true,some (some (.ref C)),some (some (.ref f)),true)
noncomputable def iv (K:Frag) (C:Addr):=(findIn K (.ref C) "__class__",specialIn K (.builtin "object.__class__") "__get__",takesIn K (.builtin "object.__class__"),mroIn K C (.type "object"),findIn K (.ref C) "__eq__")
noncomputable def ie:Option (Option Value)×Option (Option Value)×Option Bool×Option Bool×Option (Option Value):=(some (some (.builtin "object.__class__")),some (some (.builtin "getset_descriptor.__get__")),some true,some true,some (some (.builtin "object.__eq__")))
noncomputable def LS(K:Frag)(x:Str):Option Int:=match nsIn K mainGlobals x with
 |some (some (.int i _))=>some i
 |_=>none
noncomputable def JV(K:Frag)(x:Str):Option Str:=match nsIn K mainGlobals x with
 |some (some (.str i _))=>some i
 |_=>none
noncomputable def Cc:List Value->Option (List Str)
 |[]=>some []
 |.str x _::r=>(Cc r).map (x::·)
 |_::_=>none
noncomputable def JR(K:Frag)(x:Str):Option (List Str):=match nsIn K mainGlobals x with
 |some (some (.ref c))=>match K.lookup c with
  |some ⟨.type "tuple",_,.seq Q1 _,_⟩=>if Q1.size<=sizeLine then Cc Q1.toList else none
  |_=>none
 |_=>none
noncomputable abbrev De:=Addr×Str×Str×Addr×Stmt
abbrev dd(C:Addr)(x q:Str)(f:Addr)(s:Stmt):De:=(C,x,q,f,s)
structure Tab where
 ds:List De
 cs:List Addr
 ks:List (Addr×Str×Addr)
 ies:List Addr
 is:List (Addr×Addr×Bool)
 ns:List (Str×Addr)
 ats0:List (Str×List Addr)
 vi:List (Str×Int)
 vs:List (Str×Str)
 vt:List (Str×List Str)
 bs:List Str
noncomputable def Tab.ats(T:Tab):List (Addr×Str):=T.ats0.flatMap fun r=>r.2.map fun C=>(C,r.1)
def mE{α β:Type}(g:α->β):List α->List β
 |[]=>[]
 |a::l=>g a::mE g l
def dv(K:Frag)(d:De):=(if d.1=0 then nsIn K mainGlobals d.2.1 else findIn K (.ref d.1) d.2.1,isFn K (.ref d.2.2.2.1),keepIn K (.ref d.2.2.2.1),fr K d.2.2.1 d.2.2.2.1)
def de(d:De):=(some (some (Value.ref d.2.2.2.1)),true,true,fq d.2.1 d.2.2.1 d.2.2.2.2)
def Tab.F(T:Tab)(K:Frag):=(T.ds.map (dv K),T.cs.map (cv K),T.ks.map (fun r=>kv K r.1 r.2.1 r.2.2),T.ies.map (iv K),T.is.map (fun r=>kitOne K (.ref r.1) (.ref r.2.1)),T.ns.map (fun r=>nsIn K mainGlobals r.1),T.ats.map (fun r=>findIn K (.ref r.1) r.2),T.vi.map (fun r=>LS K r.1),T.vs.map (fun r=>JV K r.1),T.vt.map (fun r=>JR K r.1),T.bs.map (nsIn K mainGlobals))
def Tab.E(T:Tab):=(mE de T.ds,mE (fun _=>ce) T.cs,mE (fun r=>ke r.1 r.2.2) T.ks,mE (fun _=>Hq.ie) T.ies,mE (fun r=>some r.2.2) T.is,mE (fun r=>some (some (Value.ref r.2))) T.ns,mE (fun _=>(some none:Option (Option Value))) T.ats,mE (fun r=>some r.2) T.vi,mE (fun r=>some r.2) T.vs,mE (fun r=>some r.2) T.vt,mE (fun _=>(some none:Option (Option Value))) T.bs)
end Hq
namespace Ht
open PySem PySem.W
variable {p:Program} {ann:Yg Yc} {Xt:Yd->Bool}
noncomputable def goT(stp:SharedT->Thread->Option (SharedT×Thread))(ok:Thread->Bool):Nat->SharedT->Thread->Option SharedT
 |0,_,_=>none
 | n+1,s,t=>match through t with
  |true=>some s
  | false=>match ok t with
   |false=>none
   |true=>match stp s t with
    |some x=>goT stp ok n x.1 x.2
    |none=>none
theorem zn{tb}{w}{n₀}:∀n s t s',goT (stepT (denote tb) p w) (stepOk n₀ ann) n s t=some s'->topRun tb p w n₀ ann n s.abs t=some s'.abs
 |0,_,_,_,h=>by cases h
 | n+1,s,t,s',h=>by
  unfold goT at h;unfold topRun;cases l:through t with
  |true=>rw[l]at h;cases h;rfl
  | false =>
   rw[l]at h;cases j:stepOk n₀ ann t with
   |false=>rw[j]at h;cases h
   |true =>
    rw[j]at h;cases f:stepT (denote tb) p w s t with
    |none=>rw[f]at h;cases h
    |some x =>rw[f]at h;obtain⟨o,m⟩:=x;rw[stepT_spec f];exact zn n o m s' h
noncomputable def tr(os:List Obj)(fuel a b:Nat):BT:=match fuel with
 |0=>.nil
 |f+1=>match os[b]? with
  |some o=>.node o (tr os f (2*a) (a+b)) (tr os f (2*a) (2*a+b))
  |none=>.nil
noncomputable def S0(w:World)(os:OsState):SharedT:=⟨tr (boot_heap w.params).objs.toList 10 1 0,11,(boot_heap w.params).life,Array.mk [],boot_drawn,boot_toks,os⟩
theorem MC(w) (os):(S0 w os).abs=⟨boot_heap w.params,Array.mk [],boot_drawn,boot_toks,os⟩:=by kernel_rfl
theorem Cr{N}{α:Type}{f:World->Yd->α}{v:World->α}(r:∀w j,(goT (stepT (denote treeTable) p w) (stepOk 11 ann) N (S0 w j) (topStub p)).map (fun s=>f w s.abs)=some (v w))(w) (j) :
 (topRun treeTable p w 11 ann N ⟨boot_heap w.params,Array.mk [],boot_drawn,boot_toks,j⟩ (topStub p)).map (f w)=some (v w):=by
 obtain⟨s,e,h⟩:=Zb.mp (r w j);have z:=zn N _ _ s e;rw[MC]at z;rw[z];exact congrArg some h
theorem left_of{q:Program}{loose:Yh Str}{α:Type}{Yf}{Ya:World->α}{N:Nat}{l:Bool} 
 (e:opening p=plainProg p.main.scope.names) (L:Nat.ble 600 N=true) (f:∀s,fenceModules? p s=some s)
 (m:∀w:World,((boot_heap w.params).isNs mainGlobals,(boot_heap w.params).objs.size,(boot_heap w.params).nsMap mainGlobals "__annotations__")=(true,11,ann))
 (Ct:∀(w:World)(j:OsState),(goT (stepT (denote treeTable) p w) (stepOk 11 ann) N (S0 w j) (topStub p)).map (fun s=>((staticsOk (importedModules p.main.body) (boot_heap w.params) s.abs.heap&&namesBound p s.abs.heap&&gensDone s.abs&&laidKept (boot_heap w.params) s.abs.heap),Yf s.abs))=some (true,Ya w))
 (z:∀(w:World)(j:OsState),(goT (stepT (denote treeTable) p w) (stepOk 11 ann) N (S0 w j) (topStub p)).map (fun s=>(openSeen q loose (importedModules p.main.body) Xt l s.abs).1)=some (openGood q loose).1)
 (y:∀(w:World)(j:OsState),(goT (stepT (denote treeTable) p w) (stepOk 11 ann) N (S0 w j) (topStub p)).map (fun s=>(openSeen q loose (importedModules p.main.body) Xt l s.abs).2.1)=some (openGood q loose).2.1)
 (x:∀(w:World)(j:OsState),(goT (stepT (denote treeTable) p w) (stepOk 11 ann) N (S0 w j) (topStub p)).map (fun s=>(openSeen q loose (importedModules p.main.body) Xt l s.abs).2.2.1)=some (openGood q loose).2.2.1)
 (v:∀(w:World)(j:OsState),(goT (stepT (denote treeTable) p w) (stepOk 11 ann) N (S0 w j) (topStub p)).map (fun s=>(openSeen q loose (importedModules p.main.body) Xt l s.abs).2.2.2.1)=some (openGood q loose).2.2.2.1)
 (u:∀(w:World)(j:OsState),(goT (stepT (denote treeTable) p w) (stepOk 11 ann) N (S0 w j) (topStub p)).map (fun s=>(openSeen q loose (importedModules p.main.body) Xt l s.abs).2.2.2.2.1)=some (openGood q loose).2.2.2.2.1)
 (t:∀(w:World)(j:OsState),(goT (stepT (denote treeTable) p w) (stepOk 11 ann) N (S0 w j) (topStub p)).map (fun s=>(openSeen q loose (importedModules p.main.body) Xt l s.abs).2.2.2.2.2.1)=some (openGood q loose).2.2.2.2.2.1)
 (o:∀(w:World)(j:OsState),(goT (stepT (denote treeTable) p w) (stepOk 11 ann) N (S0 w j) (topStub p)).map (fun s=>(openSeen q loose (importedModules p.main.body) Xt l s.abs).2.2.2.2.2.2)=some (openGood q loose).2.2.2.2.2.2):LeftO p q loose Xt Yf Ya N l:=by
 refine Hd.left_one e L f m (Cr Ct) (Cr fun w j=>?_)
 obtain⟨s,r,J⟩:=Zb.mp (z w j);have I:=y w j;have H:=x w j;have G:=v w j;have D:=u w j;have C:=t w j;have B:=o w j;rw[r]at I H G D C B ⊢;exact congrArg some (Prod.ext J (Prod.ext (ZH I) (Prod.ext (ZH H) (Prod.ext (ZH G) (Prod.ext (ZH D) (Prod.ext (ZH C) (ZH B)))))))
end Ht
namespace Mine
open PySem PySem.Spec PyProof.Rows L2
noncomputable def gB:Addr:=70
noncomputable def aC:Addr:=91
noncomputable def a5:Addr:=110
noncomputable def bO:Addr:=136
noncomputable def bb:Addr:=157
noncomputable def aG:Addr:=249
noncomputable def ah:Addr:=360
noncomputable def ak:Addr:=405
abbrev Is:List (Addr×Addr×Bool):=[(aC,aC,true),(a5,aC,false),(aG,aG,true)]
noncomputable def T(i:Nat):Stmt:=PySem.Challenge.pw_watchyard_k31_read_and_shown.main.body.getD i (.Pass ⟨0,0,0,0⟩)
abbrev d:=Hq.dd
def U(i j:Nat):Stmt:=Ic (T i) j
def TB:Hq.Tab:=⟨[d gB "__init__" "Cond.__init__" 67 (U 5 0),
 d bO "__init__" "Room.__init__" 133 (U 10 0),
 d bb "__init__" "Door.__init__" 154 (U 11 0),
 d aG "watches" "Net.watches" 180 (U 12 1),
 d aG "machines" "Net.machines" 187 (U 12 2),
 d aG "boxes" "Net.boxes" 194 (U 12 3),
 d 0 "hears" "hears" 275 (T 16),
 d 0 "is_name" "is_name" 282 (T 26),
 d 0 "number_of" "number_of" 287 (T 27),
 d ah "__init__" "Words.__init__" 308 (U 36 0),
 d ah "insist" "Words.insist" 315 (U 36 1),
 d ah "takes" "Words.takes" 350 (U 36 6),
 d ak "__init__" "Draft.__init__" 378 (U 37 0),
 d ak "box_names" "Draft.box_names" 383 (U 37 1),
 d ak "room_names" "Draft.room_names" 388 (U 37 2),
 d ak "has_room" "Draft.has_room" 395 (U 37 3),
 d ak "has_door" "Draft.has_door" 402 (U 37 4),
 d 0 "shown" "shown" 423 (T 39),
 d 0 "may_stay" "may_stay" 470 (T 46),
 d 0 "_law_at" "_law_at" 524 (T 55),
 d 0 "_law_purse" "_law_purse" 531 (T 56),
 d 0 "_law_take" "_law_take" 538 (T 57),
 d 0 "_law_listed" "_law_listed" 600 (T 67),
 d 0 "_law_size" "_law_size" 631 (T 72),
 d 0 "_law_kinds" "_law_kinds" 643 (T 74),
 d 0 "acts_of" "acts_of" 268 (T 15),
 d ah "take" "Words.take" 322 (U 36 2),
 d ah "finish" "Words.finish" 357 (U 36 7),
 d 0 "resets_of" "resets_of" 510 (T 52),
 d 0 "deeds_of" "deeds_of" 517 (T 53),
 d 0 "_law_name" "_law_name" 543 (T 58),
 d 0 "_law_cond" "_law_cond" 550 (T 59),
 d 0 "_law_stays" "_law_stays" 562 (T 61),
 d 0 "_law_deeds" "_law_deeds" 569 (T 62),
 d 0 "_law_price" "_law_price" 576 (T 63),
 d 0 "_law_room_row" "_law_room_row" 607 (T 68),
 d 0 "_law_door_row" "_law_door_row" 614 (T 69),
 d 0 "_law_right" "_law_right" 648 (T 75),
 d aG "__init__" "Net.__init__" 173 (U 12 0),
 d 0 "cond_of" "cond_of" 294 (T 28),
 d ah "take_name" "Words.take_name" 329 (U 36 3),
 d ah "take_number" "Words.take_number" 336 (U 36 4),
 d ah "take_threes" "Words.take_threes" 343 (U 36 5),
 d 0 "taken_room" "taken_room" 484 (T 48),
 d 0 "_law_conds" "_law_conds" 555 (T 60),
 d 0 "_law_room" "_law_room" 583 (T 64),
 d 0 "_law_rows" "_law_rows" 619 (T 70),
 d 0 "new_name" "new_name" 458 (T 44),
 d 0 "taken_word" "taken_word" 491 (T 49),
 d 0 "taken_price" "taken_price" 498 (T 50),
 d 0 "taken_conds" "taken_conds" 503 (T 51),
 d 0 "_law_door" "_law_door" 590 (T 65),
 d 0 "_law_text" "_law_text" 624 (T 71),
 d 0 "add_watch" "add_watch" 437 (T 41),
 d 0 "add_box" "add_box" 444 (T 42),
 d 0 "add_machine" "add_machine" 451 (T 43),
 d 0 "add_room" "add_room" 463 (T 45),
 d 0 "add_door" "add_door" 477 (T 47),
 d 0 "_law_net" "_law_net" 595 (T 66),
 d 0 "add_row" "add_row" 430 (T 40),
 d 0 "_law_drawn" "_law_drawn" 638 (T 73),
 d 0 "read_net" "read_net" 416 (T 38),
 d 0 "law" "law" 653 (T 76)],[gB,aC,a5,bO,bb,aG,ah,ak],[(aC,"WatchCond",67),(a5,"BoxCond",67),(bO,"Room",133),(bb,"Door",154),(aG,"Net",173),(ah,"Words",308),(ak,"Draft",378)],[aC,a5,aG],Is,[("WatchCond",aC),("Net",aG)],[("number",[gB,aC,a5]),("sign",[gB,aC,a5]),("against",[gB,aC,a5]),("name",[bO]),("price",[bO,bb]),("hurry",[bO]),("stays",[bO]),("machine",[bb]),("start",[bb]),("goal",[bb]),("weather",[bb]),("word",[bb]),("conds",[bb]),("resets",[bb]),("deeds",[bb]),("text",[aG]),("watch_names",[aG,ak]),("box_tuples",[aG,ak]),("machine_names",[aG,ak]),("own_rooms",[aG]),("own_doors",[aG]),("own_acts",[aG]),("row",[ah]),("words",[ah]),("place",[ah]),("room_lists",[ak]),("door_list",[ak])],[("MOST_LETTERS",8),("MOST_DIGITS",31),("MOST_TIME",60),("MOST_BOX",20),("MOST_WATCHES",4),("MOST_BOXES",3),("MOST_MACHINES",4),("MOST_ROOMS",6),("MOST_DOORS",24),("MOST_PRICE",1000000000000000000000000000000)],[("LETTERS","abcdefghijklmnopqrstuvwxyz"),("DIGITS","0123456789")],[("WATCH_SIGNS",["<","<=","==",">=",">"]),("BOX_SIGNS",["<","<=","==","!=",">=",">"])],["list","len","all","int","isinstance","max","abs","str","bool","tuple","range","enumerate","sorted","set","dict","min","zip"]⟩
end Mine
namespace Mine
open PySem PySem.Spec PyProof.Rows L2
noncomputable section
noncomputable abbrev PW:Program:=PySem.Challenge.pw_watchyard_k31_read_and_shown
abbrev VW:Program:=W.view PW [0,2,3,5,6,7,8,10,11,12,13,14,15,16,18,19,20,21,22,23,24,25,26,27,28,30,31,32,33,34,35,36,37,38,39,40,41,42,43,44,45,46,47,48,49,50,51,52,53,55,56,57,58,59,60,61,62,63,64,65,66,67,68,69,70,71,72,73,74,75,76]
noncomputable abbrev LO:List Str:=[]
def ads:List Addr:=mainGlobals::(TB.ds.map (fun r=>r.2.2.2.1)++TB.cs).flatMap (fun c=>[c,c-1])++[276,277]
abbrev HK:W.Hook:=Hd.hk ads TB.F TB.E
abbrev XT(s:Shared):Bool:=W.xlAt VW [] s&&W.recOk [] s
theorem Ct(w:World)(f:OsState):(Ht.goT (W.stepT (PySem.denote treeTable) PW w) (W.stepOk 11 (some (.ref 6))) 9842 (Ht.S0 w f) (W.topStub PW)).map (fun s=>((W.staticsOk (importedModules PW.main.body) (W.boot_heap w.params) s.abs.heap&&W.namesBound PW s.abs.heap&&W.gensDone s.abs&&W.laidKept (W.boot_heap w.params) s.abs.heap),W.Hook.obs HK s.abs))=some (true,W.Hook.val HK w):=by
 rw[W.Fast.te10156331382660048174,W.Fast.te6613529449190102663,W.Fast.te11892475500146522536]
 kernel_rfl
theorem M0(w:World)(f:OsState):(Ht.goT (W.stepT (PySem.denote treeTable) PW w) (W.stepOk 11 (some (.ref 6))) 9842 (Ht.S0 w f) (W.topStub PW)).map (fun s=>(W.openSeen VW LO (importedModules PW.main.body) XT true s.abs).1)=some (W.openGood VW LO).1:=by
 rw[W.Fast.te10156331382660048174,W.Fast.te6613529449190102663,W.Fast.te11892475500146522536,W.Fast.te4187177175401517315];unfold W.Fast.tw4187177175401517315 W.openGood;dsimp only
 kernel_rfl
theorem MZ(w:World)(f:OsState):(Ht.goT (W.stepT (PySem.denote treeTable) PW w) (W.stepOk 11 (some (.ref 6))) 9842 (Ht.S0 w f) (W.topStub PW)).map (fun s=>(W.openSeen VW LO (importedModules PW.main.body) XT true s.abs).2.1)=some (W.openGood VW LO).2.1:=by
 rw[W.Fast.te10156331382660048174,W.Fast.te6613529449190102663,W.Fast.te11892475500146522536,W.Fast.te4187177175401517315];unfold W.Fast.tw4187177175401517315 W.openGood;dsimp only
 kernel_rfl
theorem MY(w:World)(f:OsState):(Ht.goT (W.stepT (PySem.denote treeTable) PW w) (W.stepOk 11 (some (.ref 6))) 9842 (Ht.S0 w f) (W.topStub PW)).map (fun s=>(W.openSeen VW LO (importedModules PW.main.body) XT true s.abs).2.2.1)=some (W.openGood VW LO).2.2.1:=by
 rw[W.Fast.te10156331382660048174,W.Fast.te6613529449190102663,W.Fast.te11892475500146522536,W.Fast.te4187177175401517315];unfold W.Fast.tw4187177175401517315 W.openGood;dsimp only
 kernel_rfl
theorem MX(w:World)(f:OsState):(Ht.goT (W.stepT (PySem.denote treeTable) PW w) (W.stepOk 11 (some (.ref 6))) 9842 (Ht.S0 w f) (W.topStub PW)).map (fun s=>(W.openSeen VW LO (importedModules PW.main.body) XT true s.abs).2.2.2.1)=some (W.openGood VW LO).2.2.2.1:=by
 rw[W.Fast.te10156331382660048174,W.Fast.te6613529449190102663,W.Fast.te11892475500146522536,W.Fast.te4187177175401517315];unfold W.Fast.tw4187177175401517315 W.openGood;dsimp only
 kernel_rfl
theorem MW(w:World)(f:OsState):(Ht.goT (W.stepT (PySem.denote treeTable) PW w) (W.stepOk 11 (some (.ref 6))) 9842 (Ht.S0 w f) (W.topStub PW)).map (fun s=>(W.openSeen VW LO (importedModules PW.main.body) XT true s.abs).2.2.2.2.1)=some (W.openGood VW LO).2.2.2.2.1:=by
 rw[W.Fast.te10156331382660048174,W.Fast.te6613529449190102663,W.Fast.te11892475500146522536,W.Fast.te4187177175401517315];unfold W.Fast.tw4187177175401517315 W.openGood;dsimp only
 kernel_rfl
theorem MV(w:World)(f:OsState):(Ht.goT (W.stepT (PySem.denote treeTable) PW w) (W.stepOk 11 (some (.ref 6))) 9842 (Ht.S0 w f) (W.topStub PW)).map (fun s=>(W.openSeen VW LO (importedModules PW.main.body) XT true s.abs).2.2.2.2.2.1)=some (W.openGood VW LO).2.2.2.2.2.1:=by
 rw[W.Fast.te10156331382660048174,W.Fast.te6613529449190102663,W.Fast.te11892475500146522536,W.Fast.te4187177175401517315];unfold W.Fast.tw4187177175401517315 W.openGood;dsimp only
 kernel_rfl
theorem MU(w:World)(f:OsState):(Ht.goT (W.stepT (PySem.denote treeTable) PW w) (W.stepOk 11 (some (.ref 6))) 9842 (Ht.S0 w f) (W.topStub PW)).map (fun s=>(W.openSeen VW LO (importedModules PW.main.body) XT true s.abs).2.2.2.2.2.2)=some (W.openGood VW LO).2.2.2.2.2.2:=by
 rw[W.Fast.te10156331382660048174,W.Fast.te6613529449190102663,W.Fast.te11892475500146522536,W.Fast.te4187177175401517315];unfold W.Fast.tw4187177175401517315 W.openGood;dsimp only
 kernel_rfl
def left:W.LeftO PW VW LO XT (W.Hook.obs HK) (W.Hook.val HK) 9842 :=
 Ht.left_of (ann:=some (.ref 6)) (by kernel_rfl) (by kernel_rfl) (fun s=>by kernel_rfl) (fun w=>by kernel_rfl) Ct M0 MZ MY MX MW MV MU
theorem said:PySem.Challenge.rw_watchyard_k31_read_and_shown.wellSaid=true:=by
 rw[W.Fast.te9446332074065402090]
 kernel_rfl
end
end Mine
namespace L2
open PySem PySem.Spec PyProof.Rows
variable {us vs ds Q1 X7:Yh Yc} {x name m qual:Str} {u v X5 pm Q9 oc:Yc} {a b C dx:Ye} {o e c tg X1:Expr} {P prog:Program} {w:World} {h h' base:Heap} {ex ex' ch fp:Yh Ye} {Q0 pins':Yh (Ye×Obj)} {s s':Yd} {g':Array GenState} {t' i j k n:Nat} {d':Drawn} {N ps ks:Yh Str} {M:Model} {A:Around} {Q:Yc->Yd->Prop} {K:ZB} {f:Yc->Yc->Sem Yc} {st:Stmt} {es:Yh Expr} {X2 p tpos Q8:Pos} {body:Yh Stmt} {l:W.OpenLaw} {R:Result->Yd->Prop} {lo hi:Yg Expr} {pl:Sem Bool} {op op':CmpOp} {mA mg mb:Str->Yg Yc} {kw:Yh (Str×Yc)} {outer:Yh Env} {fd:FuncData} {kws:Yh Keyword} {nm:Yg Str} {kindOf:Str->Yg NameKind} {scope:Scope} {an od:Yg Ye} {osl:Array (Yg Yc)} {T:String} {XP:(Str->Yg Yc)->Heap->Prop} {YP:World->Heap->Prop}
abbrev Key:=Sum Int Str
noncomputable def Jt:Key->Value->Bool
 |.inl k,v=>Value.isInt k v
 |.inr x,v=>Value.isStrOf x v
noncomputable def OI(w:World):Key->Int
 |.inl k=>hashInt k
 |.inr x=>hashStr w x
theorem b7:∀{k}{v},Jt k v=true->(∃i t,k=Sum.inl i/\v=Value.int i t)\/(∃x t,k=Sum.inr x/\v=Value.str x t)
 |.inl i,v,h=>by obtain⟨t,e⟩:=Value.isInt_shape h;exact .inl ⟨i,t,rfl,e⟩
 |.inr x,v,h=>by obtain⟨t,e⟩:=Value.isStrOf_shape h;exact .inr ⟨x,t,rfl,e⟩
def LM(a b):decide ((Sum.inl a:Key)=Sum.inl b)=(a==b):=by
 by_cases e:a=b
 . subst e;simp
 . have h:¬ (Sum.inl a:Key)=Sum.inl b:=fun q=>e (Sum.inl.inj q)
   rw[decide_eq_false h];exact(beq_eq_false_iff_ne.mpr e).symm
def LJ(a b):decide ((Sum.inr a:Key)=Sum.inr b)=decide (a=b):=by
 by_cases e:a=b
 . subst e;simp
 . have h:¬ (Sum.inr a:Key)=Sum.inr b:=fun q=>e (Sum.inr.inj q)
   rw[decide_eq_false h,decide_eq_false e]
def LL(a) (b):decide ((Sum.inl a:Key)=Sum.inr b)=false:=decide_eq_false (fun q=>nomatch q)
def LK(a) (b):decide ((Sum.inr a:Key)=Sum.inl b)=false:=decide_eq_false (fun q=>nomatch q)
def zb (prog:Program) (w:World):PySem.KeyKind prog w Key where
 is:=Jt
 hash:=OI w
 inj:=fun v a b ha hb=>by
  rcases b7 ha with⟨i,t,rfl,rfl⟩|⟨x,t,rfl,rfl⟩
  . rcases b7 hb with ⟨j,u,rfl,e⟩ | ⟨y,u,rfl,e⟩
    . injection e with e1 _;rw[e1]
    . exact nomatch e
  . rcases b7 hb with ⟨j,u,rfl,e⟩ | ⟨y,u,rfl,e⟩
    . exact nomatch e
    . injection e with e1 _;rw[e1]
 byValue:=fun k v h=>by rcases b7 h with⟨i,t,rfl,rfl⟩|⟨x,t,rfl,rfl⟩<;>rfl
 pyHash:=fun hv h=>by
  rcases b7 hv with⟨i,t,rfl,rfl⟩|⟨x,t,rfl,rfl⟩
  . exact wpAny_pyHash_int h
  . exact wpAny_pyHash_str h
 eqBool:=fun hu hv h=>by
  rcases b7 hu with⟨i,t,rfl,rfl⟩|⟨x,t,rfl,rfl⟩
  . rcases b7 hv with ⟨j,u,rfl,rfl⟩ | ⟨y,u,rfl,rfl⟩
    . rw[LM]at h;exact wpAny_eqBool_int h
    . rw[LL]at h;exact SeqAt.EqAt.int_str i t y u _ _ _ _ h
  . rcases b7 hv with ⟨j,u,rfl,rfl⟩ | ⟨y,u,rfl,rfl⟩
    . rw[LK]at h;exact SeqAt.EqAt.str_int x t j u _ _ _ _ h
    . rw[LJ]at h;exact wpAny_eqBool_str h
 «strs»:=fun k x t v h=>by
  rcases b7 h with⟨i,u,rfl,e⟩|⟨y,u,rfl,e⟩
  . exact nomatch e
  . injection e with e1 _
    subst e1;cases v<;>rfl
inductive V where
 |non|bl (b:Bool)|int (i:Int)|str (x:Str)|byt (b:Array UInt8)|flt (b:UInt64)|ref (a:Addr)|ty (n:String)
 deriving DecidableEq
def RelV:V->Value->Prop
 |.non,u=>u=Value.none
 |.bl b,u=>u=Value.bool b
 |.int i,u=>∃t,u=Value.int i t
 |.str x,u=>∃t,u=Value.str x t
 |.byt b,u=>∃t,u=Value.bytes b t
 |.flt b,u=>∃t,u=Value.float b t
 |.ref a,u=>u=Value.ref a
 |.ty n,u=>u=Value.type n
abbrev Vals:List V->List Value->Prop:=Paired RelV
theorem Vals.length{xs:Yh V}(r:Vals xs us):xs.length=us.length:=Paired.length r
theorem Vals.get:∀{xs:Yh V}{us:Yh Yc}{i:Nat}{x:V},Vals xs us->xs[i]?=some x->∃u,us[i]?=some u/\RelV x u
 |_,_,_,_,.nil,e=>by simp at e
 |_,_,0,_,.cons r _,e=>by simp at e;subst e;exact⟨_,rfl,r⟩
 |_,_,i+1,x,.cons _ t,e=>by
  obtain⟨u,h1,h2⟩:=Vals.get t (by simpa using e)
  exact⟨u,by simpa using h1,h2⟩
theorem Vals.set{x:V}(r:RelV x u):∀{xs:Yh V}{us:Yh Yc}(i:Nat),Vals xs us->Vals (xs.set i x) (us.set i u)
 |_,_,_,.nil=>.nil
 |_,_,0,.cons _ t=>.cons r t
 |_,_,i+1,.cons q t=>.cons q (Vals.set r i t)
def Vals.append{xs ys:Yh V}{us ws:Yh Yc}(r:Vals xs us)(s:Vals ys ws):Vals (xs++ys) (us++ws):=by
 induction r with
 |nil=>exact s
 |cons r _ f=>exact .cons r f
theorem Vals.take:∀{xs:Yh V}{us:Yh Yc}(n:Nat),Vals xs us->Vals (xs.take n) (us.take n)
 |_,_,0,_=>.nil
 |_,_,_+1,.nil=>.nil
 |_,_,n+1,.cons r t=>.cons r (Vals.take n t)
theorem Vals.drop:∀{xs:Yh V}{us:Yh Yc}(n:Nat),Vals xs us->Vals (xs.drop n) (us.drop n)
 |_,_,0,r=>r
 |_,_,_+1,.nil=>.nil
 |_,_,n+1,.cons _ t=>Vals.drop n t
def RelO:Option V->Option Value->Prop
 |some v,some u=>RelV v u
 |none,none=>True
 |_,_=>False
def KV{κ:Type}:List (κ×V)->List (κ×Value)->Prop:=Paired fun(p:κ×V)(q:κ×Value)=>p.1=q.1/\RelV p.2 q.2
noncomputable def kV:Key->V
 |.inl i=>.int i
 |.inr x=>.str x
inductive HO where
 |lst (xs:List V)
 |tup (xs:List V)
 |dK (X3:List (Key×V))|dT (X3:List (List Key×V))
 |set (S:Int->Bool) (n:Nat)
 |ins (C dx:Addr) (fs:List (Str×V))
 |own (x:Addr)
 |xd (fs:List (Str×V))
 |met (f x:Addr)
 |rng (lo hi:Int)
 |frz (o:Obj) (u:HO)
 |tbl (ps:Array Value)
 |ext (φ:Heap->Prop)
noncomputable abbrev Hp:=Addr->Option HO
def upd(H:Hp)(a:Addr)(o:HO):Hp:=fun b=>if b=a then some o else H b
def aH{o:HO}:upd H a o a=some o:=by unfold upd;rw[if_pos rfl]
def aF{o:HO}(h:b≠a):upd H a o b=H b:=by unfold upd;rw[if_neg h]
def FX{o u}:upd (upd H a o) a u=upd H a u:=by funext b;unfold upd;split<;>rfl
def bh{H:Hp}{a b}{o}(h:H a=some o)(h':H b=none):a≠b:=by intro e;subst e;rw[h]at h';cases h'
section
variable (P:Program) (w:World)
def ObjOk(H:Hp)(h:Heap)(a:Addr):HO->Prop
 |.lst xs=>xs.length<=sizeLine/\∃(Q1:List Value) (n:Nat),Vals xs Q1/\h.get? a=some { cls:=.type "list",data:=.seq Q1.toArray n }
 |.tup xs=>xs.length<=sizeLine/\∃Q1:List Value,Vals xs Q1/\IsTup h a Q1.toArray
 |.dK X3=>X3.length<=sizeLine/\(a==sysModules)=false/\∃vs,KV X3 vs/\h.DictOf (zb P w) a vs
 |.dT X3=>X3.length<=sizeLine/\(a==sysModules)=false/\∃xs:List (List Key×Addr×Value),
  Paired (fun(p:List Key×V)(q:List Key×Addr×Value)=>p.1=q.1/\H q.2.1=some (.tup (p.1.map kV))/\RelV p.2 q.2.2) X3 xs /\
  ∃o es ep,h.get? a=some o/\o.ExactDict/\o.data=.dict es ep/\es.toList=xs.map (entryOfKey (tupleKind (zb P w)))/\(xs.map (·.1)).Nodup
 |.set S n=>h.SetOf (intKind P w) a S n
 |.ins C dx fs=>H dx=some (.own a)/\fs.length<=1000/\dx≠a/\h.get? a=some (W.instObj C dx) /\
  ∃mA,h.Ns1 dx mA/\(∀f,RelO (fs.lookup f) (mA f))/\PySem.Within mA (fs.map (·.1))
 |.own _=>∃o,h.get? a=some o
 |.xd fs=>∃mA,h.Ns1 a mA/\∀f,RelO (fs.lookup f) (mA f)
 |.rng lo hi=>∃t u v,h.get? a=some { cls:=.type "range",data:=.fields #[.int lo t,.int hi u,.int 1 v] }
 |.frz o u=>h.get? a=some o/\ObjOk H h a u
 |.tbl ps=>h.get? a=some { cls:=.none,data:=.fields ps }
 |.met f x=>h.get? a=some (W.methodObj (.ref f) (.ref x))
 |.ext φ=>φ h/\(∃o,h.get? a=some o)/\∀h1 h2:Heap,φ h1->(∀o,h1.get? a=some o->h2.get? a=some o)->φ h2
def HOk(H:Hp)(h:Heap):Prop:=∀a o,H a=some o->ObjOk P w H h a o
end
section
variable {o:HO}
theorem ObjOk.lt(x:ObjOk P w H h a o):a<h.objs.size:=by
 cases o with
 |lst xs=>obtain⟨_,_,_,_,e⟩:=x;exact ZU e
 |tup xs=>obtain⟨_,_,_,p⟩:=x;exact p.lt
 |dK X3=>obtain⟨_,_,_,_,o,_,_,e,_⟩:=x;exact ZU e
 |dT X3=>obtain⟨_,_,_,_,o,_,_,e,_⟩:=x;exact ZU e
 |set S n=>obtain⟨o,_,_,_,e,_⟩:=x;exact ZU e
 |ins C dx fs=>obtain⟨_,_,_,e,_⟩:=x;exact ZU e
 |own y=>obtain⟨_,e⟩:=x;exact ZU e
 |xd fs=>obtain⟨_,⟨_,_,_,e,_⟩,_⟩:=x;exact ZU e
 |rng lo hi=>obtain⟨_,_,_,e⟩:=x;exact ZU e
 |frz j u=>obtain⟨e,_⟩:=x;exact ZU e
 |tbl ps=>exact ZU (x)
 |met f y=>exact ZU (x)
 |ext φ=>obtain⟨_,⟨_,e⟩,_⟩:=x;exact ZU e
def Paired.mapP{α β:Type}{F G:α->β->Prop}{l₁:Yh α}{l₂:Yh β}(r:Paired F l₁ l₂)(f:∀a b,F a b->G a b):Paired G l₁ l₂:=by
 induction r with
 |nil=>exact .nil
 |cons r _ j=>exact .cons (f _ _ r) j
def ObjOk.stay(x:ObjOk P w H h a o)(k:∀b u,(b=a\/H b=some (.own a))->h.get? b=some u->h'.get? b=some u)
 (B:∀b,H b=some (.own a)->H' b=some (.own a)) (s:∀b xs,H b=some (.tup xs)->H' b=some (.tup xs)):ObjOk P w H' h' a o:=by
 induction o with
 |lst xs=>obtain⟨z,Q1,n,r,e⟩:=x;exact⟨z,Q1,n,r,k _ _ (.inl rfl) e⟩
 |tup xs=>obtain⟨z,Q1,r,j,e,c⟩:=x;exact⟨z,Q1,r,j,k _ _ (.inl rfl) e,c⟩
 |dK X3=>obtain⟨z,y,vs,r,j,es,ep,e,c⟩:=x;exact⟨z,y,vs,r,j,es,ep,k _ _ (.inl rfl) e,c⟩
 |dT X3 =>obtain⟨z,y,xs,r,j,es,ep,e,c⟩:=x;exact⟨z,y,xs,Paired.mapP r fun p q z=>⟨z.1,s _ _ z.2.1,z.2.2⟩,j,es,ep,k _ _ (.inl rfl) e,c⟩
 |set S n=>obtain⟨j,es,ep,t,e,c⟩:=x;exact⟨j,es,ep,t,k _ _ (.inl rfl) e,c⟩
 |ins C dx fs =>obtain⟨d,z,l,e,mA,⟨od,es,ep,D,c⟩,r⟩:=x;exact⟨B _ d,z,l,k _ _ (.inl rfl) e,mA,⟨od,es,ep,k _ _ (.inr d) D,c⟩,r⟩
 |own y=>obtain⟨j,e⟩:=x;exact⟨j,k _ _ (.inl rfl) e⟩
 |xd fs=>obtain⟨mA,⟨od,es,ep,e,c⟩,r⟩:=x;exact⟨mA,⟨od,es,ep,k _ _ (.inl rfl) e,c⟩,r⟩
 |rng lo hi=>obtain⟨t,u,v,e⟩:=x;exact⟨t,u,v,k _ _ (.inl rfl) e⟩
 |frz j u m=>obtain⟨e,q⟩:=x;exact⟨k _ _ (.inl rfl) e,m q⟩
 |tbl ps =>have e:=x;exact k a _ (.inl rfl) e
 |met f y =>have e:=x;exact k a _ (.inl rfl) e
 |ext φ=>obtain⟨p,⟨o,e⟩,st⟩:=x;exact⟨st _ _ p fun o q=>k _ _ (.inl rfl) q,⟨o,k _ _ (.inl rfl) e⟩,st⟩
theorem HOk.lt(x:HOk P w H h)(e:H a=some o):a<h.objs.size:=(x a o e).lt
def HOk.fresh(x:HOk P w H h)(e:h.objs.size<=a):H a=none:=by
 cases q:H a with
 |none=>rfl
 |some u=>exact absurd (ZD (x.lt q) e) (ZK _)
def HOk.kept(x:HOk P w H h)(k:∀b u,h.get? b=some u->h'.get? b=some u):HOk P w H h':=fun a o e =>(x a o e).stay (fun b u _ q=>k b u q) (fun _ q=>q) fun _ _ q=>q
def HOk.laid(x:HOk P w H h)(k:∀b u,h.get? b=some u->h'.get? b=some u)(m:h.objs.size<=a)(f:ObjOk P w (upd H a o) h' a o):HOk P w (upd H a o) h':=fun b u e=>by
 have j:=x.fresh m
 by_cases l:b=a
 . subst l;rw[aH]at e;cases e;exact f
 . rw[aF l]at e;exact(x b u e).stay (fun c v _ q=>k c v q) (fun c q=>by rw[aF (bh q j)];exact q) fun c xs q=>by rw[aF (bh q j)];exact q
end
def Rd(H:Hp)(a:Addr)(u:HO):Prop:=H a=some u\/∃o,H a=some (.frz o u)
def Rd.ok{u:HO}(r:Rd H a u)(x:HOk P w H h):ObjOk P w H h a u:=by
 rcases r with r|⟨o,r⟩
 . exact x a u r
 . obtain⟨_,q⟩:=x a _ r;exact q
def Mut:Option HO->Prop
 |some (.lst _)=>True
 |some (.dK _)=>True
 |some (.dT _)=>True
 |some (.set _ _)=>True
 |some (.ins _ _ _)=>True
 |some (.ext _)=>True
 |_=>False
section
variable {x e:Ye} {o':HO}
def HOk.write(ok:HOk P w H h)(m:Mut (H x))(C:e=x\/H e=some (.own x))(k:∀b u,b≠e->h.get? b=some u->h'.get? b=some u)(t:∃u,h'.get? e=some u)
 (s:ObjOk P w (upd H x o') h' x o'):HOk P w (upd H x o') h':=fun b u q=>by
 have j:∀c y,H c=some (.own y)->c≠x:=fun c y r z=>by subst z;rw[r]at m;exact m
 have l:∀c xs,H c=some (.tup xs)->c≠x:=fun c xs r z=>by subst z;rw[r]at m;exact m
 by_cases p:b=x
 . subst p;rw[aH]at q;cases q;exact s
 . rw [aF p] at q
   by_cases f:b=e
   . have B:H b=some (.own x):=by
      rcases C with z|z
      . exact absurd (f.trans z) p
      . rw[f];exact z
     rw[q]at B;cases B;obtain⟨v,D⟩:=t;exact⟨v,by rw[f];exact D⟩
   . refine (ok b u q).stay (fun c v o r=>k c v ?_ r) (fun c r=>by rw [aF (j c b r)];exact r) fun c xs r=>by rw [aF (l c xs r)];exact r
     rcases o with rfl|o
     . exact f
     . rintro rfl
       rcases C with z|z
       . exact j c b o z
       . rw[o]at z;cases z;exact p rfl
end
structure Un(fs ex:List Addr)(H H':Hp)(h h':Heap):Prop where
 keep:∀b o,h.get? b=some o->H b=none->b∉fs->b∉ex->h'.get? b=some o
 slot:∀b o,h.get? b=some o->H b=none->b∈fs->b∉ex->∃sl,h'.get? b=some { o with slots:=sl }
 free:∀b o,h.get? b=some o->H b=none->b∉ex->H' b=none
 there:∀b o,h.get? b=some o->b∉ex->∃o',h'.get? b=some o'
 tups:∀b xs,H b=some (.tup xs)->H' b=some (.tup xs)
 frzs:∀b o u,H b=some (.frz o u)->H' b=some (.frz o u)
 tbls:∀b ps,H b=some (.tbl ps)->∃more,H' b=some (.tbl (ps++more))
section
variable {fs fs':Yh Ye} {H1 H2:Hp} {h1 h2:Heap} {x e:Ye} {o:HO}
def Un.any(u:Un fs ex H H1 h h1){ob}(q:h.get? b=some ob)(n:H b=none)(f:b∉ex):∃l,h1.get? b=some { ob with slots:=l }:=by
 by_cases j:b∈fs
 . exact u.slot b ob q n j f
 . exact⟨ob.slots,u.keep b ob q n j f⟩
def Un.kept(k:∀b u,h.get? b=some u->h'.get? b=some u):Un fs ex H H h h' :=
 ⟨fun b f q _ _ _=>k b f q,fun b f q _ _ _=>⟨f.slots,k b f q⟩,fun _ _ _ n _=>n,fun b f q _=>⟨f,k b f q⟩,fun _ _ q=>q,fun _ _ _ q=>q,fun _ ps q=>⟨#[],by rw[q];simp⟩⟩
def Un.refl:Un fs ex H H h h:=Un.kept fun _ _ q=>q
def Un.laid(k:∀b u,h.get? b=some u->h'.get? b=some u)(j:h.objs.size<=a)(f:H a=none):Un fs ex H (upd H a o) h h' where
 keep:=fun b u q _ _ _=>k b u q
 slot:=fun b u q _ _ _=>⟨u.slots,k b u q⟩
 free:=fun b u q n _=>by rw[aF (ZJ (ZD (ZU q) j))];exact n
 there:=fun b u q _=>⟨u,k b u q⟩
 tups:=fun b xs q=>by rw[aF (bh q f)];exact q
 frzs:=fun b u xs q=>by rw[aF (bh q f)];exact q
 tbls:=fun b ps q=>⟨#[],by rw[aF (bh q f),q];simp⟩
def Un.write(j:Mut (H x))(t:e=x\/H e=some (.own x))(k:∀b u,b≠e->h.get? b=some u->h'.get? b=some u)(m:∃u,h'.get? e=some u):Un fs ex H (upd H x o) h h':=by
 have p:∀b,H b=none->b≠x:=fun b n z=>by subst z;rw[n]at j;exact j
 have s:∀b,H b=none->b≠e:=fun b n z=>by
  subst z;rcases t with r|r
  . exact p b n r
  . rw[n]at r;cases r
 have l:∀b u,H b=some u->¬Mut (some u)->b≠x:=fun b u q nm z=>by subst z;rw[q]at j;exact nm j
 refine⟨fun b u q n _ _=>k b u (s b n) q,fun b u q n _ _=>⟨u.slots,k b u (s b n) q⟩,fun b u q n _=>by rw[aF (p b n)];exact n,fun b u q _=>?_,
  fun b xs q=>by rw[aF (l b _ q fun z=>z)];exact q,fun b u xs q=>by rw[aF (l b _ q fun z=>z)];exact q,fun b ps q=>⟨#[],by rw[aF (l b _ q fun z=>z),q];simp⟩⟩
 by_cases f:b=e
 . subst f;exact m
 . exact⟨u,k b u f q⟩
end
def trk(h:Heap)(H:Hp):List Addr:=(List.range h.objs.size).filter fun a=>(H a).isSome
def uc(h:Heap)(H:Hp):Heap:=W.hideAll h (trk h H)
def Bc(h) (H):(uc h H).objs.size=h.objs.size:=W.hideAll_size _ _
def ED{o}(e:h.get? b=some o)(n:H b=none):(uc h H).get? b=some o :=
 W.hideAll_get _ e fun f=>by have q:=(List.mem_filter.mp f).2;rw[n]at q;simp at q
def HE{o}(e:(uc h H).get? b=some o):h.get? b=some o/\H b=none:=by
 have f:=W.of_hideAll (trk h H) e;refine⟨f,?_⟩;cases q:H b with
 |none=>rfl
 |some x =>
  have j:b∈trk h H:=List.mem_filter.mpr ⟨List.mem_range.mpr (ZU f),by simp[q]⟩
  have z:(uc h H).get? b=none:=W.hideAll_none (trk h H) j;rw[z]at e;cases e
variable {H H':Hp} {fs':Yh (Str×V)} {y:V} {ys X9:Yh V} {gV:Yh V->Yh V->Yh V} {X3:Yh (Key×V)}
structure Mod(K:ZB)(mg:Str->Option Value)(base:Heap):Prop where
 kin:K.In base
 glob:base.Ns mainGlobals mg
 blt:∃mb,base.Ns builtinsNs mb/\∀x:Str,x≠"__name__"->mb x=bootBuiltins x
 nolimit:base.NoLimit
structure Cx where
 prog:Program
 w:World
 K:ZB
 mg:Str->Option Value
 base:Heap
 A:Around
 N:List Str
 s₀:Shared
 H₀:Hp
 env:Env
 outer:List Env
 stack:List Env
 ex:List Addr
 fn:Str->Bool
 calm:Bool
 pn:List (Addr×Obj)
 xe:Value->Shared->Prop
noncomputable def frs(l:List Env):List Addr:=l.filterMap (·.frame)
abbrev Cx.fs(X:Cx):List Addr:=frs X.outer
def Vis(sc:Scope)(x:Str):Prop:=sc.names.lookup x=some .local\/sc.names.lookup x=some .cell\/sc.names.lookup x=some .free
def Loc(sc:Scope)(x:Str):Prop:=sc.names.lookup x=some .local\/sc.names.lookup x=some .cell
def O6(env:Env)(h:Heap)(m:Str->Option Value)(x:Str)(u:Value):Prop :=
 (env.kindOf x=some .local/\m x=some u)\/((env.kindOf x=some .cell\/env.kindOf x=some .free)/\∃c,env.cells.lookup x=some c/\h.IsCell c (some u))
structure Cx.Ok(X:Cx):Prop where
 mod:Mod X.K X.mg X.base
 kind:X.env.scope.kind=.function
 glob:X.env.globals=mainGlobals
 blt:X.env.builtins=builtinsNs
 above:X.s₀.heap.objs.size<=X.env.locals
 inj:∀x y c,X.env.cells.lookup x=some c->X.env.cells.lookup y=some c->x=y
 has:∀x,(X.env.kindOf x=some .cell\/X.env.kindOf x=some .free)->∃c,X.env.cells.lookup x=some c
 cab:∀x c,X.fn x=true->X.env.cells.lookup x=some c->X.s₀.heap.objs.size<=c
 hd:X.calm=true->X.A.handled=none
 frames:X.A.frames=some X.stack
 stk:X.stack=X.outer\/(X.stack=X.env::X.outer/\X.env.frame=some X.env.locals)
 exf:∀b∈X.ex,b≠X.env.locals/\∀x c,X.env.cells.lookup x=some c->c≠b
 bs:∀b o,X.base.get? b=some o->X.s₀.heap.get? b=some o/\X.H₀ b=none
 bsz:X.base.objs.size<=X.s₀.heap.objs.size
 noex:∀b o,X.base.get? b=some o->b∉X.ex
 exfs:∀b∈X.ex,b∉X.fs
 funs:X.s₀.heap.FunFrames X.base X.outer
 frf:∀b∈X.fs,X.H₀ b=none
structure Inv(X:Cx)(Q0:List (Addr×Obj))(σ:List (Option V))(H:Hp)(s:Shared):Prop where
 ok:X.Ok
 os:s.os=X.s₀.os
 bare:AllBare s.gens
 base:Un X.fs X.ex X.H₀ H X.s₀.heap s.heap
 loc:∃m,s.heap.Ns X.env.locals m/\∀(i:Nat)(x:Str)(v:V),X.N[i]?=some x->σ[i]?=some (some v)->Vis X.env.scope x->∃u,RelV v u/\O6 X.env s.heap m x u
 cell:∀x c,X.env.cells.lookup x=some c->∃v,s.heap.IsCell c v
 free:H X.env.locals=none
 freeC:∀x c,X.env.cells.lookup x=some c->H c=none
 pin:∀p∈X.pn++Q0,s.heap.get? p.1=some p.2/\H p.1=none/\p.1≠X.env.locals/\p.1∉X.fs/\∀v,p.2.data≠.cell v
 hok:HOk X.prog X.w H s.heap
 len:σ.length=X.N.length
section
variable {X:Cx} {Q0:Yh (Ye×Obj)} {σ:Yh (Yg V)} {H H':Hp} {s:Yd} {h':Heap}
def Cx.Ok.nofr(ok:X.Ok){b}{o}(e:X.base.get? b=some o):b∉X.fs:=fun f=>by have:=(ok.funs.mem f).1;rw[e]at this;cases this
theorem Inv.bs(I:Inv X Q0 σ H s):∀b o,X.base.get? b=some o->s.heap.get? b=some o/\H b=none:=fun b o e =>⟨I.base.keep b o (I.ok.bs b o e).1 (I.ok.bs b o e).2 (I.ok.nofr e) (I.ok.noex b o e),I.base.free b o (I.ok.bs b o e).1 (I.ok.bs b o e).2 (I.ok.noex b o e)⟩
def Inv.bk(I:Inv X Q0 σ H s):∀b o,X.base.get? b=some o->s.heap.get? b=some o:=fun b o e=>(I.bs b o e).1
theorem Inv.mod(I:Inv X Q0 σ H s):Mod X.K X.mg X.base:=I.ok.mod
def Inv.kIn(I:Inv X Q0 σ H s):X.K.In s.heap:=I.ok.mod.kin.keeps I.bk
theorem Inv.lt(I:Inv X Q0 σ H s):X.env.locals<s.heap.objs.size:=let ⟨_,hn,_⟩:=I.loc;hn.lt
def Inv.sz(I:Inv X Q0 σ H s):X.s₀.heap.objs.size<=s.heap.objs.size:=ZZ I.ok.above (Nat.le_of_lt I.lt)
def Inv.nofs(I:Inv X Q0 σ H s)(h:s.heap.objs.size<=a):a∉X.fs:=fun j=>by obtain⟨_,o,f,_⟩:=I.ok.funs.mem j;exact absurd (ZD (ZU f) (ZZ I.sz h)) (ZK _)
def Inv.cne(I:Inv X Q0 σ H s):∀x c,X.env.cells.lookup x=some c->c≠X.env.locals:=fun x c e z=>by obtain⟨v,o,l,p⟩:=I.cell x c e;obtain⟨m,⟨o',es,ep,f,j,_⟩,_⟩:=I.loc;rw[z,f]at l;cases l;rw[j]at p;cases p
theorem Inv.funs(I:Inv X Q0 σ H s):s.heap.FunFrames X.base X.outer:=by
 have all:∀l,(∀b∈frs l,b∈X.fs)->X.s₀.heap.FunFrames X.base l->s.heap.FunFrames X.base l:=by
  intro l
  induction l with
  |nil=>intro _ _;trivial
  |cons env r q =>
   intro p x;obtain⟨hk,⟨L,o,f,v,u,y⟩,t⟩:=x;have m:=p L (by unfold frs;rw[List.filterMap_cons,f];exact Zp)
   obtain⟨B,e⟩:=I.base.slot L o u (I.ok.frf L m) m fun z=>I.ok.exfs L z m
   exact⟨hk,⟨L,_,f,v,e,y⟩,q (fun b j=>p b (by unfold frs;rw[List.filterMap_cons,f];exact Zq _ j)) t⟩
 exact all X.outer (fun _ j=>j) I.ok.funs
def Inv.stack(I:Inv X Q0 σ H s):s.heap.FunFrames X.base X.stack:=by
 rcases I.ok.stk with e|⟨e,j⟩
 . rw[e];exact I.funs
 . rw [e];obtain ⟨m,f,_⟩:=I.loc;refine .cons (by rw [I.ok.kind];decide) j f ?_ I.funs
   exact Heap.get?_none_of_le (ZZ I.ok.bsz I.ok.above)
def Inv.stkSub(I:Inv X Q0 σ H s):∀b∈frs X.stack,b∈X.env.locals::X.fs:=fun b f=>by
 rcases I.ok.stk with e|⟨e,j⟩
 . rw[e]at f;exact Zq _ f
 . rw[e]at f;unfold frs at f;rw[List.filterMap_cons,j]at f;exact f
def Inv.stkFree(I:Inv X Q0 σ H s):∀b∈frs X.stack,H b=none:=fun b f=>by
 rcases Zu.mp (I.stkSub b f)with e|f
 . rw[e];exact I.free
 . obtain⟨_,o,j,_⟩:=I.ok.funs.mem f;exact I.base.free b o j (I.ok.frf b f) fun z=>I.ok.exfs b z f
def Inv.step(I:Inv X Q0 σ H s)
 (y:∀b∈ch,(b∈X.ex\/X.s₀.heap.objs.size<=b)/\b≠X.env.locals/\(∀x c,X.env.cells.lookup x=some c->c≠b)/\∀p∈X.pn++Q0,p.1≠b)
 (keep:∀b o,b≠X.env.locals->b∉X.fs->b∉ch->s.heap.get? b=some o->H b=none->h'.get? b=some o)
 (G:∀b o,b≠X.env.locals->b∈X.fs->b∉ch->s.heap.get? b=some o->H b=none->∃sl,h'.get? b=some { o with slots:=sl }) (j:∀b o,b∉ch->s.heap.get? b=some o->H b=none->H' b=none)
 (J:∀b o,b∉ch->s.heap.get? b=some o->∃o',h'.get? b=some o')
 (Q:∀b xs,H b=some (.tup xs)->H' b=some (.tup xs)) (Y:∀b o u,H b=some (.frz o u)->H' b=some (.frz o u)) (S:∀b ps,H b=some (.tbl ps)->∃V,H' b=some (.tbl (ps++V)))
 (ns:∀m,s.heap.Ns X.env.locals m->h'.Ns X.env.locals m) (hok:HOk X.prog X.w H' h') (hg:AllBare g') :
 Inv X Q0 σ H' { s with heap:=h',gens:=g',drawn:=d',toks:=t' }:=by
 have U:∀b o,X.s₀.heap.get? b=some o->b≠X.env.locals:=fun b o e=>ZJ (ZD (ZU e) I.ok.above)
 have C:∀b o,X.s₀.heap.get? b=some o->b∉X.ex->b∉ch:=fun b o e f L=>by
  rcases (y b L).1 with z|z
  . exact f z
  . exact absurd (ZD (ZU e) z) (ZK _)
 have B:∀x c,X.env.cells.lookup x=some c->∀v,s.heap.IsCell c v->h'.IsCell c v:=fun x c e v ⟨o,O,hd⟩=>by
  have t:c∉ch:=fun z=>(y c z).2.2.1 x c e rfl
  by_cases hc:c∈X.fs
  . obtain⟨sl,q⟩:=G c o (I.cne x c e) hc t O (I.freeC x c e);exact⟨_,q,hd⟩
  . exact⟨o,keep c o (I.cne x c e) hc t O (I.freeC x c e),hd⟩
 refine⟨I.ok,I.os,hg,⟨fun b o e n L f=>?_,fun b o e n L f=>?_,fun b o e n f=>?_,fun b o e f=>?_,fun b xs e=>Q b xs (I.base.tups b xs e),fun b o xs e=>Y b o xs (I.base.frzs b o xs e),fun b ps e=>?_⟩,?_,fun x c e=>?_,?_,fun x c e=>?_,fun p hp=>?_,hok,I.len⟩
 . exact keep b o (U b o e) L (C b o e f) (I.base.keep b o e n L f) (I.base.free b o e n f)
 . obtain⟨sl,D⟩:=I.base.slot b o e n L f;obtain⟨sl',Z⟩:=G b _ (U b o e) L (C b o e f) D (I.base.free b o e n f);exact⟨sl',Z⟩
 . obtain⟨o',D⟩:=I.base.there b o e f;exact j b o' (C b o e f) D (I.base.free b o e n f)
 . obtain⟨o',D⟩:=I.base.there b o e f;exact J b o' (C b o e f) D
 . obtain⟨m1,D⟩:=I.base.tbls b ps e;obtain⟨m2,Z⟩:=S b _ D;exact⟨m1++m2,by rw[Z,Array.append_assoc]⟩
 . obtain ⟨m,hn,hl⟩:=I.loc;refine ⟨m,ns m hn,fun i x v D Z e3=>?_⟩
   obtain⟨u,r,l⟩:=hl i x v D Z e3;refine⟨u,r,?_⟩;rcases l with l|⟨k,c,e,z⟩
   . exact .inl l
   . exact .inr ⟨k,c,e,B x c e _ z⟩
 . obtain⟨v,z⟩:=I.cell x c e;exact⟨v,B x c e v z⟩
 . obtain⟨m,⟨o,_,_,O,_⟩,_⟩:=I.loc;exact j _ o (fun z=>(y _ z).2.1 rfl) O I.free
 . obtain⟨v,o,O,hd⟩:=I.cell x c e;exact j c o (fun z=>(y c z).2.2.1 x c e rfl) O (I.freeC x c e)
 . obtain ⟨e,n,ne,nf,d⟩:=I.pin p hp;have t:p.1 ∉ ch:=fun z=>(y p.1 z).2.2.2 p hp rfl
   exact⟨keep p.1 p.2 ne nf t e n,j p.1 p.2 t e n,ne,nf,d⟩
def Inv.un(I:Inv X Q0 σ H s)(u:Un X.fs [] H H' s.heap h')(j:HOk X.prog X.w H' h'):Inv X Q0 σ H' { s with heap:=h',toks:=t' }:=by
 obtain⟨m,⟨o,es,ep,t,r⟩,_⟩:=id I.loc;obtain⟨y,x⟩:=u.any t I.free (by simp)
 exact I.step (ch:=[]) (fun _ z=>nomatch z) (fun b o _ l _ e n=>u.keep b o e n l (by simp)) (fun b o _ l _ e n=>u.slot b o e n l (by simp)) (fun b o _ e n=>u.free b o e n (by simp)) (fun b o _ e=>u.there b o e (by simp)) u.tups u.frzs u.tbls (fun B v=>by obtain⟨o',p,q,f,r'⟩:=v;rw[t]at f;cases f;exact⟨_,p,q,x,r'⟩) j I.bare
def Inv.call(I:Inv X Q0 σ H s)(u:Un (frs X.stack) ch H H' s.heap h')(q:HOk X.prog X.w H' h')(D:AllBare g')
 (l:∀b∈ch,(b∈X.ex\/X.s₀.heap.objs.size<=b)/\b≠X.env.locals/\(∀x c,X.env.cells.lookup x=some c->c≠b)/\∀p∈X.pn++Q0,p.1≠b) :
 Inv X Q0 σ H' { s with heap:=h',gens:=g',drawn:=d',toks:=t' }:=by
 obtain⟨m,⟨o,es,ep,B,r⟩,_⟩:=id I.loc;obtain⟨J,t⟩:=u.any B I.free fun z=>(l _ z).2.1 rfl
 exact I.step l (fun b o t G f e n=>u.keep b o e n (fun z=>(Zu.mp (I.stkSub b z)).elim t G) f) (fun b o _ _ f e n=>u.any e n f) (fun b o f e n=>u.free b o e n f) (fun b o f e=>u.there b o e f) u.tups u.frzs u.tbls (fun L C=>by obtain⟨o',v,y,j,r'⟩:=C;rw[B]at j;cases j;exact⟨_,v,y,t,r'⟩) q D
def Inv.turned{it}(I:Inv X Q0 σ H s)(k:∀b o,b≠it->s.heap.get? b=some o->h'.get? b=some o)(y:H it=none)(l:it≠X.env.locals)
 (h1:it∈X.ex\/X.s₀.heap.objs.size<=it) (h2:∀x c,X.env.cells.lookup x=some c->c≠it) (D:∀p∈X.pn++Q0,p.1≠it):Inv X Q0 σ H { s with heap:=h',toks:=t' }:=by
 have j:∀b u,H b=some u->b≠it:=fun b u e z=>by rw[z,y]at e;cases e
 refine I.step (ch:=[it]) (fun b C=>?_) (fun b o _ _ f e _=>k b o (fun z=>f (by simp[z])) e) (fun b o _ _ f e _=>⟨o.slots,k b o (fun z=>f (by simp[z])) e⟩) (fun _ _ _ _ n=>n)
  (fun b o f e=>⟨o,k b o (fun z=>f (by simp[z])) e⟩) (fun _ _ e=>e) (fun _ _ _ e=>e) (fun b ps e=>⟨#[],by rw[e];simp⟩) (fun m B=>?_) (fun b u e=>?_) I.bare
 . have e:b=it:=by simpa using C
   subst e;exact⟨h1,l,h2,D⟩
 . obtain⟨o,es,ep,t,r⟩:=B;exact⟨o,es,ep,k _ o (Ne.symm l) t,r⟩
 . refine (I.hok b u e).stay (fun c v f q=>k c v ?_ q) (fun _ q=>q) fun _ _ q=>q
   rcases f with z|z
   . rw[z];exact j b u e
   . exact j c _ z
def Inv.tok(I:Inv X Q0 σ H s)(t):Inv X Q0 σ H { s with toks:=t }:=I.un Un.refl I.hok
theorem Inv.kept(I:Inv X Q0 σ H s)(k:∀b u,s.heap.get? b=some u->h'.get? b=some u):Inv X Q0 σ H { s with heap:=h',toks:=t' }:=I.un (Un.kept k) (I.hok.kept k)
theorem Inv.laid{o:HO}(I:Inv X Q0 σ H s)(k:∀b u,s.heap.get? b=some u->h'.get? b=some u)(j:s.heap.objs.size<=a)(f:ObjOk X.prog X.w (upd H a o) h' a o) :
 Inv X Q0 σ (upd H a o) { s with heap:=h',toks:=t' }:=I.un (Un.laid k j (I.hok.fresh j)) (I.hok.laid k j f)
theorem Inv.write{x e}{o}(I:Inv X Q0 σ H s)(l:Mut (H x))(m:e=x\/H e=some (.own x))(k:∀b u,b≠e->s.heap.get? b=some u->h'.get? b=some u)(f:∃u,h'.get? e=some u)
 (j:ObjOk X.prog X.w (upd H x o) h' x o):Inv X Q0 σ (upd H x o) { s with heap:=h',toks:=t' }:=I.un (Un.write l m k f) (I.hok.write l m k f j)
def Inv.pins_of(I:Inv X Q0 σ H s)(h:∀p∈pins',s.heap.get? p.1=some p.2/\H p.1=none/\p.1≠X.env.locals/\p.1∉X.fs/\∀v,p.2.data≠.cell v):Inv X pins' σ H s :=
 ⟨I.ok,I.os,I.bare,I.base,I.loc,I.cell,I.free,I.freeC,fun p f=>(Zt.mp f).elim (fun z=>I.pin p (ZF _ z)) (h p),I.hok,I.len⟩
def vy(f:N.Nodup)(a:N[i]?=some x)(b:N[j]?=some x):i=j:=by obtain⟨h1,m⟩:=ZL.mp a;obtain⟨h2,l⟩:=ZL.mp b;exact(List.getElem_inj f).mp (m.trans l.symm)
def se {E:Yc->Yd->Prop} {v} {Q:Unit->Yd->Prop} (I:Inv X Q0 σ H s) (hN:X.N.Nodup) (hi:X.N[i]? = some x) (C:Loc X.env.scope x) (r:RelV v u)
 (h:∀s',Inv X Q0 (σ.set i (some v)) H s'->(∃a,Heap.SameBut a s.heap s'.heap/\(a=X.env.locals\/X.env.cells.lookup x=some a))->Q () s') (hf:X.fn x=true\/X.env.scope.names.lookup x=some .local:=by first|exact .inl rfl|exact .inr rfl|assumption):wpAny M A (storeName X.env x u) Q E s:=by
 obtain⟨m,hn,hl⟩:=id I.loc;have Y:(X.env.scope.kind==.class||(X.env.scope.kind==.module&&X.env.locals != X.env.globals))=false:=by rw[I.ok.kind];rfl
 have J:i<σ.length:=by rw[I.len];exact(ZL.mp hi).1
 have cne:=I.cne;have l:∀{a}{h'},(∃o,s.heap.get? a=some o/\H a=none)->Heap.SameBut a s.heap h'->HOk X.prog X.w H h':=fun{a h'} ha f b ob e=>by
  obtain⟨_,_,D⟩:=ha;refine(I.hok b ob e).stay (fun c w' B q=>(f.2 c ?_).trans q) (fun _ q=>q) fun _ _ q=>q
  rintro rfl
  rcases B with rfl|B
  . rw[D]at e;cases e
  . rw[D]at B;cases B
 rcases C with hk|hk
 . refine wpAny_storeName_local hk hn (fun h' hn' f=>?_) Y
   obtain⟨oL,_,_,hoL,_⟩:=id hn;refine h _ ⟨I.ok,I.os,I.bare,⟨fun b o e n S C=>?_,fun b o e n S C=>?_,I.base.free,fun b o e C=>?_,I.base.tups,I.base.frzs,I.base.tbls⟩,⟨_,hn',fun j y v' t G e3=>?_⟩,fun y c e=>?_,I.free,I.freeC,fun p hp=>?_,l ⟨oL,hoL,I.free⟩ f,by simpa using I.len⟩ ⟨_,f,.inl rfl⟩
   . exact(f.2 b (ZJ (ZD (ZU e) I.ok.above))).trans (I.base.keep b o e n S C)
   . obtain⟨sl,t⟩:=I.base.slot b o e n S C;exact⟨sl,(f.2 b (ZJ (ZD (ZU e) I.ok.above))).trans t⟩
   . obtain⟨o',t⟩:=I.base.there b o e C;exact⟨o',(f.2 b (ZJ (ZD (ZU e) I.ok.above))).trans t⟩
   . by_cases L:j=i
     . subst L;rw[hi]at t;cases t;rw[List.getElem?_set_self J]at G;cases G;exact⟨u,r,.inl ⟨hk,by simp⟩⟩
     . rw [List.getElem?_set_ne (Ne.symm L)] at G;obtain ⟨u',r',q⟩:=hl j y v' t G e3;refine ⟨u',r',?_⟩;rcases q with ⟨k,e⟩ | ⟨k,c,e,z⟩
       . refine .inl ⟨k,?_⟩;have:y ≠ x:=fun e=>L (vy hN t (e ▸ hi))
         simp[this,e]
       . exact .inr ⟨k,c,e,z.sameBut f (cne y c e)⟩
   . obtain⟨w',z⟩:=I.cell y c e;exact⟨w',z.sameBut f (cne y c e)⟩
   . obtain⟨e,n,ne,nf,d⟩:=I.pin p hp;exact⟨(f.2 p.1 ne).trans e,n,ne,nf,d⟩
 . have O:X.fn x=true:=by
    rcases hf with z|z
    . exact z
    . rw[z]at hk;cases hk
   obtain⟨c,B⟩:=I.ok.has x (.inl hk);obtain⟨w',z⟩:=I.cell x c B;refine wpAny_storeName_cell I.ok.kind hk B z (fun h' hc' f=>?_)
   obtain⟨oc,V,U⟩:=id z;refine h { s with heap:=h' } ⟨I.ok,I.os,I.bare,⟨fun b o e n S C=>?_,fun b o e n S C=>?_,I.base.free,fun b o e C=>?_,I.base.tups,I.base.frzs,I.base.tbls⟩,⟨m,hn.sameBut f (Ne.symm (cne x c B)),fun j y v' t G e3=>?_⟩,fun y c' e=>?_,I.free,I.freeC,fun p hp=>?_,l ⟨oc,V,I.freeC x c B⟩ f,by simpa using I.len⟩ ⟨c,f,.inr B⟩
   . exact(f.2 b (ZJ (ZD (ZU e) (I.ok.cab x c O B)))).trans (I.base.keep b o e n S C)
   . obtain⟨sl,t⟩:=I.base.slot b o e n S C;exact⟨sl,(f.2 b (ZJ (ZD (ZU e) (I.ok.cab x c O B)))).trans t⟩
   . obtain⟨o',t⟩:=I.base.there b o e C;exact⟨o',(f.2 b (ZJ (ZD (ZU e) (I.ok.cab x c O B)))).trans t⟩
   . by_cases L:j=i
     . subst L;rw[hi]at t;cases t;rw[List.getElem?_set_self J]at G;cases G;exact⟨u,r,.inr ⟨.inl hk,c,B,hc'⟩⟩
     . rw [List.getElem?_set_ne (Ne.symm L)] at G;obtain ⟨u',r',q⟩:=hl j y v' t G e3;refine ⟨u',r',?_⟩;rcases q with q | ⟨k,c',e,z'⟩
       . exact .inl q
       . refine .inr ⟨k,c',e,z'.sameBut f ?_⟩
         rintro rfl
         exact L (vy hN t (I.ok.inj _ _ _ e B▸hi))
   . by_cases Z:c'=c
     . subst Z;exact⟨_,hc'⟩
     . obtain⟨w2,z2⟩:=I.cell y c' e;exact⟨w2,z2.sameBut f Z⟩
   . obtain⟨e,n,ne,nf,d⟩:=I.pin p hp;refine⟨(f.2 p.1 ?_).trans e,n,ne,nf,d⟩;intro q;rw[q,V]at e;have q':=ZH e;exact d w' (by rw[<- q'];exact U)
def uX{E:Yc->Yd->Prop}{v}{Q:Unit->Yd->Prop}(I:Inv X Q0 σ H s)(l:X.N.Nodup)(hi:X.N[i]?=some x)(f:Loc X.env.scope x)(r:RelV v u)
 (h:∀s',Inv X Q0 (σ.set i (some v)) H s'->Q () s') (j:X.fn x=true\/X.env.scope.names.lookup x=some .local:=by first|exact .inl rfl|exact .inr rfl|assumption):wpAny M A (storeName X.env x u) Q E s :=
 se I l hi f r (fun s' m _=>h s' m) j
def Inv.call'(I:Inv X Q0 σ H s)(l:s'.os=s.os)(u:Un (frs X.stack) ch H H' s.heap s'.heap)(f:HOk X.prog X.w H' s'.heap)(m:AllBare s'.gens)
 (j:∀b∈ch,(b∈X.ex\/X.s₀.heap.objs.size<=b)/\b≠X.env.locals/\(∀x c,X.env.cells.lookup x=some c->c≠b)/\∀p∈X.pn++Q0,p.1≠b):Inv X Q0 σ H' s':=by
 obtain⟨h',g',d',t',o'⟩:=s';have e:=l;subst e;exact I.call u f m j
end
abbrev XK:=Value->Option Addr->Hp->Prop
abbrev St:=List (Option V)
abbrev VK:=V->Hp->Prop
abbrev TE:=St->Hp->VK->Prop
abbrev TT:=St->Hp->(Bool->Hp->Prop)->Prop
abbrev TA:=St->Hp->(List V->Hp->Prop)->Prop
structure FS where
 nx:St->Hp->Prop
 rt:VK
 bk:St->Hp->Prop:=fun _ _=>False
 ct:St->Hp->Prop:=fun _ _=>False
abbrev TS:=FS->St->Hp->Prop
def EP(X:Cx)(Q0:List (Addr×Obj))(σ:St)(Q:VK)(u:Value)(s':Shared):Prop:=∃v H',Inv X Q0 σ H' s'/\RelV v u/\Q v H'
def TP(X:Cx)(Q0:List (Addr×Obj))(σ:St)(Q:Bool->Hp->Prop)(b:Bool)(s':Shared):Prop:=∃H',Inv X Q0 σ H' s'/\Q b H'
def AP(X:Cx)(Q0:List (Addr×Obj))(σ:St)(Q:List V->Hp->Prop)(us:List Value)(s':Shared):Prop:=∃vs H',Inv X Q0 σ H' s'/\Vals vs us/\Q vs H'
def SP(X:Cx)(Q0:List (Addr×Obj))(D:FS)(f:Flow)(s':Shared):Prop :=
 match f with
 |.next=>∃σ' H',Inv X Q0 σ' H' s'/\D.nx σ' H'
 |.brk=>∃σ' H',Inv X Q0 σ' H' s'/\D.bk σ' H'
 |.cont=>∃σ' H',Inv X Q0 σ' H' s'/\D.ct σ' H'
 |.ret u=>∃v σ' H',Inv X Q0 σ' H' s'/\RelV v u/\D.rt v H'
def PE(X:Cx)(e:Expr)(t:TE):Prop :=
 ∀(Q0:List (Addr×Obj))(s:Shared)(σ:St)(H:Hp)(Q:VK),Inv X Q0 σ H s->t σ H Q->wpAny (model X.prog X.w) X.A (eval e X.env) (EP X Q0 σ Q) X.xe s
def PT(X:Cx)(e:Expr)(t:TT):Prop :=
 ∀(Q0:List (Addr×Obj))(s:Shared)(σ:St)(H:Hp)(Q:Bool->Hp->Prop),Inv X Q0 σ H s->t σ H Q->wpAny (model X.prog X.w) X.A (isTrue e X.env (eval e X.env)) (TP X Q0 σ Q) X.xe s
def PW(X:Cx)(e:Expr)(t:TT):Prop :=
 ∀(whole:Sem Value)(Q0:List (Addr×Obj))(s:Shared)(σ:St)(H:Hp)(Q:Bool->Hp->Prop),Inv X Q0 σ H s->t σ H Q->wpAny (model X.prog X.w) X.A (isTrue e X.env whole) (TP X Q0 σ Q) X.xe s
def PA(X:Cx)(es:List Expr)(t:TA):Prop :=
 ∀(pos:Pos)(Q0:List (Addr×Obj))(s:Shared)(σ:St)(H:Hp)(Q:List V->Hp->Prop),Inv X Q0 σ H s->t σ H Q->wpAny (model X.prog X.w) X.A (spliced (backTo pos (starEach es X.env))) (AP X Q0 σ Q) X.xe s
def PS(X:Cx)(st:Stmt)(t:TS):Prop :=
 ∀(Q0:List (Addr×Obj))(s:Shared)(σ:St)(H:Hp)(D:FS),Inv X Q0 σ H s->t D σ H->wpAny (model X.prog X.w) X.A (exec st X.env) (SP X Q0 D) X.xe s
def PSs(X:Cx)(st:List Stmt)(t:TS):Prop :=
 ∀(Q0:List (Addr×Obj))(s:Shared)(σ:St)(H:Hp)(D:FS),Inv X Q0 σ H s->t D σ H->wpAny (model X.prog X.w) X.A (execs st X.env) (SP X Q0 D) X.xe s
def thn{α:Type}{t}{Q f:α->Yd->Prop}{E:Yc->Yd->Prop}(h:wpAny M A t Q E s)(j:∀a s,Q a s->f a s):wpAny M A t f E s:=wpAny_mono h j fun _ _ x=>x
def dh{t}{f:Yc->Yd->Prop}{E:Yc->Yd->Prop}{Q}(h:wpAny M A t (EP X Q0 σ Q) E s)(k:∀{v s x H},Inv X Q0 σ H s->RelV x v->Q x H->f v s):wpAny M A t f E s:=thn h fun _ _ h=>h.elim fun _ h=>h.elim fun _ h=>k h.1 h.2.1 h.2.2
def pI{t}{f:Yh Yc->Yd->Prop}{E:Yc->Yd->Prop}{Q:Yh V->Hp->Prop}(h:wpAny M A t (AP X Q0 σ Q) E s)(k:∀{v s x H},Inv X Q0 σ H s->Vals x v->Q x H->f v s):wpAny M A t f E s:=thn h fun _ _ h=>h.elim fun _ h=>h.elim fun _ h=>k h.1 h.2.1 h.2.2
def F9{t}{f:Bool->Yd->Prop}{E:Yc->Yd->Prop}{Q:Bool->Hp->Prop}(h:wpAny M A t (TP X Q0 σ Q) E s)(k:∀{v s H},Inv X Q0 σ H s->Q v H->f v s):wpAny M A t f E s:=thn h fun _ _ h=>h.elim fun _ h=>k h.1 h.2
variable {X:Cx} {σ:St} {t:TA} {ta te tc:TE} {r r':Yh V->Hp->VK->Prop}
section
def Cb(i:Nat):TE:=fun σ H Q=>∃v,σ[i]?=some (some v)/\Q v H
def tC(v:V):TE:=fun _ H Q=>Q v H
def KU {pos} (B:X.N[i]?=some x) (q:Vis X.env.scope x) (j:(x==("__debug__":Str))=false:=by decide) (o:(x==("__classdict__":Str))=false:=by decide):PE X (.Name x pos) (Cb i):=by
 intro Q0 s σ H Q I h;obtain⟨v,e,h⟩:=h;obtain⟨m,t,z⟩:=I.loc;obtain⟨u,r,l⟩:=z i x v B e q;have Q4:EP X Q0 σ Q u s:=⟨v,H,I,r,h⟩;rcases l with⟨hk,y⟩|⟨hk,c,p,f⟩
 . exact wpAny_Name (wpAny_loadName_local I.ok.kind hk t y Q4) j
 . rcases hk with hk | hk
   . exact wpAny_Name (wpAny_loadName_cell I.ok.kind hk p f Q4) j
   . exact wpAny_Name (wpAny_loadName_free I.ok.kind hk p f Q4 o) j
def K2{i j pos}:PE X (.Constant (.int i) j pos) (tC (.int i)):=fun _ _ _ H _ I h=>wpAny_Constant_int ⟨.int i,H,I.tok _,⟨_,rfl⟩,h⟩
def Nq{b j pos}:PE X (.Constant (.bool b) j pos) (tC (.bl b)):=fun _ _ _ H _ I h=>Constant_bool ⟨.bl b,H,I,rfl,h⟩
def K1{j pos}:PE X (.Constant .none j pos) (tC .non):=fun _ _ _ H _ I h=>Constant_none ⟨.non,H,I,rfl,h⟩
def KY{x j pos}:PE X (.Constant (.str x) j pos) (tC (.str x)):=fun _ _ _ H _ I h=>Calls.Constant_str ⟨.str x,H,I.tok _,⟨_,rfl⟩,h⟩
def Gl(X:Cx)(x:Str):Prop:=X.env.kindOf x=some .globalImplicit
def ph{E:Yc->Yd->Prop}{pos}(I:Inv X Q0 σ H s)(j:Gl X x)(f:X.mg x=some u)(h:Q u s)
 (l:(x==("__debug__":Str))=false:=by decide):wpAny (model X.prog X.w) X.A (eval (.Name x pos) X.env) Q E s :=
 Calls.Name_function_global I.ok.kind j (Calls.loadGlobal_global (by rw[I.ok.glob];exact I.mod.glob.keeps I.bk) f h) l
def lU{E:Yc->Yd->Prop}{pos}(I:Inv X Q0 σ H s)(m:Gl X x)(l:X.mg x=none)(f:bootBuiltins x=some u)(h:Q u s)
 (j:x≠"__name__":=by decide) (o:(x==("__debug__":Str))=false:=by decide):wpAny (model X.prog X.w) X.A (eval (.Name x pos) X.env) Q E s:=by
 obtain⟨mb,h1,h2⟩:=I.mod.blt;exact Calls.Name_function_global I.ok.kind m (Calls.loadGlobal_builtin (by rw[I.ok.glob];exact I.mod.glob.keeps I.bk) l (by rw[I.ok.blt];exact h1.keeps I.bk) ((h2 x j).trans f) h) o
def pc {v} {pos} (j:Gl X x) (f:X.mg x=some u) (r:RelV v u) (l:(x==("__debug__":Str))=false:=by decide):PE X (.Name x pos) (tC v) :=
 fun _ _ _ H _ I h=>ph I j f ⟨v,H,I,r,h⟩ l
def Hn {v} {pos} (m:Gl X x) (l:X.mg x=none) (f:bootBuiltins x=some u) (r:RelV v u) (j:x≠"__name__":=by decide) (o:(x==("__debug__":Str))=false:=by decide):PE X (.Name x pos) (tC v) :=
 fun _ _ _ H _ I h=>lU I m l f ⟨v,H,I,r,h⟩ j o
variable {a b:Expr} {tb:TE} {pos:Pos}
def tB(t:TE):TT:=fun σ H Q=>t σ H fun x H1=>∃c,x=.bl c/\Q c H1
def w4{t}(h:PE X e t)(o:∀f,isTrue e X.env f=(do let v <- f;standAt e.pos;holding [v] (truthy v)):=by intro _;rfl):PT X e (tB t):=by
 intro Q0 s σ H Q I m;refine isTrue_plain (dh (h Q0 s σ H _ I m) fun{v r x H1} p j l=>?_) (o _)
 obtain⟨d,rfl,q⟩:=l;cases j;exact wpAny_truthy_bool ⟨H1,p,q⟩
variable {tA tB':TT} {Q7:Yh Expr}
def OC(t u:TT):TT:=fun σ H Q=>t σ H fun c H1=>if c=true then u σ H1 Q else Q false H1
def tOr(t u:TT):TT:=fun σ H Q=>t σ H fun c H1=>if c=true then Q true H1 else u σ H1 Q
def Ox(t:TT):TT:=fun σ H Q=>t σ H fun c H1=>Q (!c) H1
def pw_and1(f:PT X a tA):PW X (.BoolOp .And [a] pos) tA:=by
 intro j Q0 s σ H Q I h;refine isTrue_and (thn (f Q0 s σ H Q I h) fun c l e=>?_)
 cases c with
 |true=>exact isTrue_and_nil e
 |false=>exact e
def Kh(f:PT X a tA):PW X (.BoolOp .Or [a] pos) tA:=by
 intro j Q0 s σ H Q I h;refine isTrue_or (thn (f Q0 s σ H Q I h) fun c l e=>?_)
 cases c with
 |false=>exact isTrue_or_nil e
 |true=>exact e
def pw_and(p:PT X a tA)(o:PW X (.BoolOp .And (b::Q7) pos) tB'):PW X (.BoolOp .And (a::b::Q7) pos) (OC tA tB'):=by
 intro l Q0 s σ H Q I h;refine isTrue_and (F9 (p Q0 s σ H _ I h) fun{c m H1} j f=>?_)
 cases c with
 |true=>exact o l Q0 m σ H1 Q j f
 |false=>exact⟨H1,j,f⟩
def Ng(p:PT X a tA)(o:PW X (.BoolOp .Or (b::Q7) pos) tB'):PW X (.BoolOp .Or (a::b::Q7) pos) (tOr tA tB'):=by
 intro l Q0 s σ H Q I h;refine isTrue_or (F9 (p Q0 s σ H _ I h) fun{c m H1} j f=>?_)
 cases c with
 |true=>exact⟨H1,j,f⟩
 |false=>exact o l Q0 m σ H1 Q j f
def Kw(f:PT X a tA):PT X (.UnaryOp .Not a pos) (Ox tA):=by intro Q0 s σ H Q I h;exact isTrue_not (f Q0 s σ H (fun c H1=>Q (!c) H1) I h)
def MR(ta tb:TE):TE:=fun σ H Q=>ta σ H fun x H1=>∃c,x=.bl c/\if c=true then tb σ H1 Q else Q (.bl false) H1
def Ow(ta tb:TE):TE:=fun σ H Q=>ta σ H fun x H1=>∃c,x=.bl c/\if c=true then Q (.bl true) H1 else tb σ H1 Q
def MK(ta:TE):TE:=fun σ H Q=>ta σ H fun x H1=>∃c,x=.bl c/\Q (.bl (!c)) H1
def KZ{op}{t}(h:PE X a t):PE X (.BoolOp op [a] pos) t:=fun Q0 s σ H Q I f=>BoolOp_one (h Q0 s σ H Q I f)
def K4(p:PE X a ta)(o:PE X (.BoolOp .And (b::Q7) pos) tb):PE X (.BoolOp .And (a::b::Q7) pos) (MR ta tb):=by
 intro Q0 s σ H Q I h;refine BoolOp_and (dh (p Q0 s σ H _ I h) fun{v l x H1} j m f=>?_)
 obtain⟨c,rfl,f⟩:=f;cases m;refine wpAny_truthy_bool ?_;cases c with
 |true=>exact o Q0 l σ H1 Q j f
 |false=>exact⟨.bl false,H1,j,rfl,f⟩
def Np(p:PE X a ta)(o:PE X (.BoolOp .Or (b::Q7) pos) tb):PE X (.BoolOp .Or (a::b::Q7) pos) (Ow ta tb):=by
 intro Q0 s σ H Q I h;refine BoolOp_or (dh (p Q0 s σ H _ I h) fun{v l x H1} j m f=>?_)
 obtain⟨c,rfl,f⟩:=f;cases m;refine wpAny_truthy_bool ?_;cases c with
 |false=>exact o Q0 l σ H1 Q j f
 |true=>exact⟨.bl true,H1,j,rfl,f⟩
def K0(l:PE X a ta):PE X (.UnaryOp .Not a pos) (MK ta):=by
 intro Q0 s σ H Q I h;refine UnaryOp_ (dh (l Q0 s σ H _ I h) fun{v o x H1} m j f=>?_)
 obtain⟨c,rfl,f⟩:=f;cases j;exact not_of (wpAny_truthy_bool ⟨.bl (!c),H1,m,rfl,f⟩)
def tIf(t:TT)(ta tb:TE):TE:=fun σ H Q=>t σ H fun c H1=>if c=true then ta σ H1 Q else tb σ H1 Q
def qc(m:PT X c tA)(p:PE X a ta)(o:PE X b tb):PE X (.IfExp c a b pos) (tIf tA ta tb):=by
 intro Q0 s σ H Q I h;refine wpAny_IfExp (F9 (m Q0 s σ H _ I h) fun{d f H1} l j=>?_)
 cases d with
 |true=>exact p Q0 f σ H1 Q l j
 |false=>exact o Q0 f σ H1 Q l j
end
def SqL(K:ZB)(H:Hp)(a:Addr)(xs:List V):Prop :=
 Rd H a (.lst xs)\/
  ∃(o:Obj) (Q1:Array Value) (n:Nat),K.lookup a=some o/\o.cls=.type "list"/\o.dict=none/\o.data=.seq Q1 n/\Q1.size<=sizeLine/\Vals xs Q1.toList
def SqT(K:ZB)(H:Hp)(a:Addr)(xs:List V):Prop :=
 Rd H a (.tup xs)\/
  ∃(o:Obj) (Q1:Array Value) (n:Nat),K.lookup a=some o/\o.cls=.type "tuple"/\o.data=.seq Q1 n/\Q1.size<=sizeLine/\Vals xs Q1.toList
noncomputable def O0:Value->Option V
 |.none=>some .non
 |.bool b=>some (.bl b)
 |.int i _=>some (.int i)
 |.str x _=>some (.str x)
 |.bytes b _=>some (.byt b)
 |.float b _=>some (.flt b)
 |.ref a=>some (.ref a)
 |.type n=>some (.ty n)
 |_=>none
def RelV.abs{x}(r:RelV x u):O0 u=some x:=by
 cases x with
 |non=>cases r;rfl
 |bl _=>cases r;rfl
 |int _=>obtain⟨t,rfl⟩:=r;rfl
 |str _=>obtain⟨t,rfl⟩:=r;rfl
 |byt _=>obtain⟨t,rfl⟩:=r;rfl
 |flt _=>obtain⟨t,rfl⟩:=r;rfl
 |ref _=>cases r;rfl
 |ty _=>cases r;rfl
def RelV.inj{x:V}(r:RelV x u)(q:RelV y u):x=y:=ZH (r.abs.symm.trans q.abs)
theorem Vals.inj{xs ys:Yh V}{us:Yh Yc}(r:Vals xs us)(q:Vals ys us):xs=ys:=by
 induction r generalizing ys with
 |nil=>cases q;rfl
 |cons r _ f =>
  cases q with
  |cons r' t'=>rw[r.inj r',f t']
section
variable {xs:Yh V}
def SqL.of(h:H a=some (.lst xs)):SqL K H a xs:=.inl (.inl h)
def SqT.of(h:H a=some (.tup xs)):SqT K H a xs:=.inl (.inl h)
theorem Inv.list(I:Inv X Q0 σ H s)(h:SqL X.K H a xs):∃Q1:Yh Yc,Vals xs Q1/\PlainL s.heap a Q1.toArray/\xs.length<=sizeLine:=by
 rcases h with h|⟨o,Q1,n,hk,l,j,f,m,r⟩
 . obtain⟨z,Q1,n,r,e⟩:=h.ok I.hok;exact⟨Q1,r,⟨_,n,e,rfl,rfl,rfl⟩,z⟩
 . refine ⟨Q1.toList,r,⟨o,n,I.kIn a o hk,l,j,by simpa using f⟩,?_⟩
   have e:=r.length;simp only[Array.length_toList]at e
   lia
theorem Inv.tuple(I:Inv X Q0 σ H s)(h:SqT X.K H a xs):∃Q1,Vals xs Q1/\IsTup s.heap a Q1.toArray/\xs.length<=sizeLine:=by
 rcases h with h|⟨o,Q1,n,hk,j,f,l,r⟩
 . obtain⟨z,Q1,r,p⟩:=h.ok I.hok;exact⟨Q1,r,p,z⟩
 . refine ⟨Q1.toList,r,⟨o,I.kIn a o hk,j,n,by simpa using f⟩,?_⟩
   have e:=r.length;simp only[Array.length_toList]at e
   lia
def Inv.list_inj(I:Inv X Q0 σ H s)(h:SqL X.K H a xs)(h':SqL X.K H a ys):xs=ys:=by
 obtain⟨Q1,r,⟨o,n,e,_,_,d⟩,_⟩:=I.list h;obtain⟨X7,r',⟨o',j,f,_,_,d'⟩,_⟩:=I.list h';rw[e]at f;cases f;rw[d]at d';injection d' with d1 _
 have:Q1=X7:=by simpa using congrArg Array.toList d1
 subst this;exact r.inj r'
def Inv.tuple_inj(I:Inv X Q0 σ H s)(h:SqT X.K H a xs)(h':SqT X.K H a ys):xs=ys:=by
 obtain⟨Q1,r,⟨o,e,_,n,d⟩,_⟩:=I.tuple h;obtain⟨X7,r',⟨o',f,_,j,d'⟩,_⟩:=I.tuple h';rw[e]at f;cases f;rw[d]at d';injection d' with d1 _
 have:Q1=X7:=by simpa using congrArg Array.toList d1
 subst this;exact r.inj r'
end
noncomputable abbrev Cx.wish(X:Cx)(E:Value->Shared->Prop):Cx:={ X with xe:=E }
noncomputable abbrev Cx.nox(X:Cx):Cx:=X.wish fun _ _=>False
def Cx.Ok.wish(ok:X.Ok)(E:Yc->Yd->Prop):(X.wish E).Ok :=
 ⟨ok.mod,ok.kind,ok.glob,ok.blt,ok.above,ok.inj,ok.has,ok.cab,ok.hd,ok.frames,ok.stk,ok.exf,ok.bs,ok.bsz,ok.noex,ok.exfs,ok.funs,ok.frf⟩
def Cx.Ok.unwish{E:Yc->Yd->Prop}(ok:(X.wish E).Ok):X.Ok :=
 ⟨ok.mod,ok.kind,ok.glob,ok.blt,ok.above,ok.inj,ok.has,ok.cab,ok.hd,ok.frames,ok.stk,ok.exf,ok.bs,ok.bsz,ok.noex,ok.exfs,ok.funs,ok.frf⟩
section
variable {E:Yc->Yd->Prop}
theorem Inv.wish(I:Inv X Q0 σ H s)(E:Yc->Yd->Prop):Inv (X.wish E) Q0 σ H s:=⟨I.ok.wish E,I.os,I.bare,I.base,I.loc,I.cell,I.free,I.freeC,I.pin,I.hok,I.len⟩
theorem Inv.unwish(I:Inv (X.wish E) Q0 σ H s):Inv X Q0 σ H s:=⟨I.ok.unwish,I.os,I.bare,I.base,I.loc,I.cell,I.free,I.freeC,I.pin,I.hok,I.len⟩
theorem SP.unwish{D}{f}(h:SP (X.wish E) Q0 D f s'):SP X Q0 D f s':=by
 cases f with
 |next=>obtain⟨j,H',I,q⟩:=h;exact⟨j,H',I.unwish,q⟩
 |brk=>obtain⟨j,H',I,q⟩:=h;exact⟨j,H',I.unwish,q⟩
 |cont=>obtain⟨j,H',I,q⟩:=h;exact⟨j,H',I.unwish,q⟩
 |ret u=>obtain⟨v,j,H',I,r,q⟩:=h;exact⟨v,j,H',I.unwish,r,q⟩
def PSs.nox{st}{t}(h:PSs X.nox st t):PSs X st t:=fun Q0 s σ H D I f =>wpAny_mono (h Q0 s σ H D (I.wish _) f) (fun _ _ q=>q.unwish) fun _ _ z=>Zzb z
end
section
variable {Q7:Yh Stmt} {t u:TS} {pos:Pos}
def ML:TS:=fun D σ H=>D.nx σ H
def Ou(t u:TS):TS:=fun D σ H=>t { D with nx:=u D } σ H
def yN:PSs X [] ML:=fun _ _ σ H _ I h=>wpAny_execs_nil ⟨σ,H,I,h⟩
def ve(h1:PS X st t)(h2:PSs X Q7 u):PSs X (st::Q7) (Ou t u):=by
 intro Q0 s σ H D I h;refine wpAny_execs_cons (thn (h1 Q0 s σ H { D with nx:=u D } I h) fun f l q=>?_)
 cases f with
 |next =>obtain⟨j,H',m,q⟩:=q;exact h2 Q0 l j H' D m q
 |ret v=>exact q
 |brk=>exact q
 |cont=>exact q
def G1(h1:PS X st t):PSs X [st] t:=by
 intro Q0 s σ H D I h;refine wpAny_execs_cons (thn (h1 Q0 s σ H D I h) fun f j q=>?_)
 cases f with
 |next=>exact wpAny_execs_nil q
 |ret v=>exact q
 |brk=>exact q
 |cont=>exact q
def Inv.quiet(I:Inv X Q0 σ H s):interactive X.env=false:=by simp[interactive,I.ok.kind]
def MM(te:TE):TS:=fun D σ H=>te σ H fun _ H1=>D.nx σ H1
def mK(l:PE X e te)(j:swapsWith e none pos.line X.env=pure false:=by rfl):PS X (.Expr e pos) (MM te):=by intro Q0 s σ H D I h;exact wpAny_Expr_any (dh (l Q0 s σ H _ I h) fun{v o x H1} m p f=>⟨σ,H1,m,f⟩) I.quiet j
def Ov(te:TE):TS:=fun D σ H=>te σ H D.rt
def Kx(l:PE X e te):PS X (.Return (some e) pos) (Ov te):=by intro Q0 s σ H D I h;exact wpAny_Return_some (dh (l Q0 s σ H _ I h) fun{v o x H1} m f j=>⟨x,σ,H1,m,f,j⟩)
def Oz(c:TT)(t u:TS):TS:=fun D σ H=>c σ H fun b H1=>if b=true then t D σ H1 else u D σ H1
def Jq{a b}{tc}(m:PT X c tc)(p:PSs X a t)(o:PSs X b u):PS X (.If c a b pos) (Oz tc t u):=by
 intro Q0 s σ H D I h;refine wpAny_If (F9 (m Q0 s σ H _ I h) fun{d f H1} l j=>?_)
 cases d with
 |true=>exact p Q0 f σ H1 D l j
 |false=>exact o Q0 f σ H1 D l j
def JT:TS:=fun _ _ _=>False
def Dh:PS X st JT:=fun _ _ _ _ _ _ h=>h.elim
end
abbrev TG:=V->St->Hp->(St->Hp->Prop)->Prop
abbrev TGs:=List V->St->Hp->(St->Hp->Prop)->Prop
def PG(X:Cx)(target:Expr)(t:TG):Prop :=
 ∀(Q0:List (Addr×Obj))(s:Shared)(σ:St)(H:Hp)(v:V)(u:Value)(Q:St->Hp->Prop),Inv X Q0 σ H s->RelV v u->t v σ H Q ->
  wpAny (model X.prog X.w) X.A (assign target X.env u) (fun _ s'=>∃σ' H',Inv X Q0 σ' H' s'/\Q σ' H') X.xe s
def PGs(X:Cx)(ts:List Expr)(t:TGs):Prop :=
 ∀(Q0:List (Addr×Obj))(s:Shared)(σ:St)(H:Hp)(vs:List V)(us:List Value)(Q:St->Hp->Prop),Inv X Q0 σ H s->Vals vs us->t vs σ H Q ->
  wpAny (model X.prog X.w) X.A (assignInOrder ((assignEach ts X.env).map (·.2)) us) (fun _ s'=>∃σ' H',Inv X Q0 σ' H' s'/\Q σ' H') X.xe s
abbrev Oh:=V->V->V->Hp->(Hp->Prop)->Prop
def Oi(X:Cx)(t:Oh):Prop :=
 ∀(Q0:List (Addr×Obj))(s:Shared)(σ:St)(H:Hp)(o i v:V)(ov iv u:Value)(Q:Hp->Prop),Inv X Q0 σ H s->RelV o ov->RelV i iv->RelV v u->t o i v H Q ->
  wpAny (model X.prog X.w) X.A (setItem ov iv u) (fun _ s'=>∃H',Inv X Q0 σ H' s'/\Q H') X.xe s
section
variable {pos:Pos}
def sR(i:Nat):TG:=fun v σ H Q=>Q (σ.set i (some v)) H
def yQ(l:X.N.Nodup)(hi:X.N[i]?=some x)(f:Loc X.env.scope x)(j:X.fn x=true\/X.env.scope.names.lookup x=some .local:=by first|exact .inl rfl|exact .inr rfl|assumption):PG X (.Name x pos) (sR i):=by intro Q0 s σ H v u Q I r h;exact wpAny_assign_Name (uX I l hi f r (fun s' m=>⟨_,H,m,h⟩) j)
noncomputable def NS:TGs:=fun vs σ H Q=>vs=[]/\Q σ H
def JC(t:TG)(u:TGs):TGs:=fun vs σ H Q=>∃v r,vs=v::r/\t v σ H fun σ' H'=>u r σ' H' Q
def Hl:PGs X [] NS:=by intro Q0 s σ H vs us Q I r h;obtain⟨e,h⟩:=h;subst e;cases r;exact assignInOrder_nil ⟨σ,H,I,h⟩
def DJ{t}{u}(h1:PG X e t)(h2:PGs X es u)
 (o:(assignEach (e::es) X.env).map (·.2)=assign e X.env::(assignEach es X.env).map (·.2):=by rfl):PGs X (e::es) (JC t u):=by
 intro Q0 s σ H vs us Q I r h;obtain⟨v,x,p,h⟩:=h;subst p;cases r with
 |cons r l =>
  rw[o];refine assignInOrder_cons (thn (h1 Q0 s σ H _ _ _ I r h) fun _ j h0=>?_)
  obtain⟨f,H1,q,m⟩:=h0;exact h2 Q0 j f H1 _ _ Q q l m
def Ii(K:ZB)(n:Nat)(t:TGs):TG:=fun v σ H Q=>∃a xs,v=.ref a/\SqT K H a xs/\xs.length=n/\t xs σ H Q
def KR{t}(z:X.calm=true)(h:PGs X es t)
 (x:(assignEach es X.env).length=n:=by rfl) (j:(assignEach es X.env).findIdx? (·.1)=none:=by rfl):PG X (.Tuple es k pos) (Ii X.K n t):=by
 intro Q0 s σ H v u Q I r f;obtain⟨a,xs,B,q,y,f⟩:=f;subst B;cases r;obtain⟨Q1,l,p,D⟩:=I.tuple q;refine assign_Tuple_tuple (I.ok.hd z) p (by simp[x,<- y,l.length]) j fun h' m=>?_
 have C:=I.kept (t':=s.toks) fun b o e=>m b o (ZJ (ZU e)) e
 exact h Q0 _ σ H xs _ Q C (by simpa using l) f
def OS(to ti:TE)(t:Oh):TG:=fun v σ H Q=>to σ H fun o H1=>ti σ H1 fun i H2=>t o i v H2 fun H3=>Q σ H3
def KS{i}{to ti}{t}(D:PE X o to)(hi:PE X i ti)(C:Oi X t)
 (G:∀ v,assign (.Subscript o i pos) X.env v=(do
  let f <- holding [v] (eval o X.env)
  let iv <- holding [v,f] (eval i X.env)
  standAt pos
  holding [v,f,iv] (setItem f iv v)
  release [v,f,iv] []):=by intro _;rfl):PG X (.Subscript o i pos) (OS to ti t):=by
 intro Q0 s σ H v u Q I r h;rw[G];refine Z4 (wpAny_holding (dh (D Q0 s σ H _ I h) fun{f l x H1} O p B=>?_))
 refine Z4 (wpAny_holding (dh (hi Q0 l σ H1 _ O B) fun{iv j y H2} L m z=>?_))
 refine Z4 (wpAny_standAt (Z4 (wpAny_holding (thn (C Q0 j σ H2 x y v f iv u _ L p m r z) fun _ U h0=>?_))))
 obtain⟨S,J,q⟩:=h0;exact wpAny_release ⟨σ,S,J,q⟩
def MQ(te:TE)(g:TG):TS:=fun D σ H=>te σ H fun x H1=>g x σ H1 D.nx
def Dj{g}(r:PE X e te)(p:PG X tg g)(o:swapsWithSole [tg] e pos.line X.env=pure false:=by rfl)(m:swappedStores [tg] e X.env=pure none:=by rfl)
 (h1:(assignEach [tg] X.env).map (·.2)=[assign tg X.env]:=by rfl):PS X (.Assign [tg] e pos) (MQ te g):=by
 intro Q0 s σ H D I h;refine wpAny_Assign_stores (dh (r Q0 s σ H _ I h) fun{v f x H1} t j l=>?_) o m
 rw[h1];exact thn (p Q0 f σ H1 x v _ t j l) fun _ u q=>q
def Dg(q:X.N.Nodup)(hi:X.N[i]?=some x)(l:Loc X.env.scope x)(p:PE X e te)(m:swapsWith e (some (.Name x X2)) pos.line X.env=pure false:=by rfl)(o:X.fn x=true\/X.env.scope.names.lookup x=some .local:=by first|exact .inl rfl|exact .inr rfl|assumption) :
 PS X (.Assign [.Name x X2] e pos) (MQ te (sR i)):=by
 intro Q0 s σ H D I h;refine wpAny_Assign_Name (dh (p Q0 s σ H _ I h) fun{v z y H1} t f j=>?_) m
 exact uX t q hi l f (fun u r=>⟨_,H1,r,j⟩) o
end
section
variable {pos:Pos}
def JS(c:TT)(tb:TS):TS:=fun D σ H=>∃W:Nat->St->Hp->Prop,(∃m,W m σ H)/\∀m σ H,W m σ H ->
 c σ H fun b H1=>if b=true then ∃N:St->Hp->Prop,(∀σ' H',N σ' H'->∃m',m'<m/\W m' σ' H')/\tb { D with nx:=N,ct:=N,bk:=D.nx } σ H1 else D.nx σ H1
def Df{tc}{tb}(z:PassesOwn (model X.prog X.w) X.A X.env X.xe)(Q:PT X c tc)(S:PSs X body tb):PS X (.While c body [] pos) (JS tc tb):=by
 intro Q0 s σ H D I h;obtain⟨W,⟨O,G⟩,m⟩:=h;refine wpAny_While (codeAny_whileLoop (fun n s'=>∃l H',Inv X Q0 l H' s'/\W n l H') ?_ O ⟨σ,H,I,G⟩)
 rintro n L ⟨σ1,H1,I1,w1⟩
 refine wpAny_passesOwn z (thn (Q Q0 L σ1 H1 _ I1 (m n σ1 H1 w1)) fun b J h0=>?_)
 obtain⟨H2,C,q⟩:=h0;cases b with
 |true =>
  obtain⟨N,B,q⟩:=q;rw[if_pos rfl];refine wpAny_passesOwn z (thn (S Q0 J σ1 H2 _ C q) fun f U p=>?_)
  cases f with
  |next =>obtain⟨j,o,y,t⟩:=p;obtain⟨u,x,r⟩:=B j o t;exact⟨u,x,j,o,y,r⟩
  |cont =>obtain⟨j,o,y,t⟩:=p;obtain⟨u,x,r⟩:=B j o t;exact⟨u,x,j,o,y,r⟩
  |brk=>exact p
  |ret v=>exact p
 |false =>rw[if_neg ZC];exact wpAny_execs_nil ⟨σ1,H2,C,q⟩
end
structure It where
 go:Nat->Hp->Prop
 yld:Nat->Hp->V->Hp->Prop
 stop:Nat->Hp->Prop
def nr(X:Cx)(Q0:List (Addr×Obj))(H:Hp)(b:Addr):Prop :=
 H b=none/\b≠X.env.locals/\b∉X.fs/\(b∈X.ex\/X.s₀.heap.objs.size<=b)/\(∀x c,X.env.cells.lookup x=some c->c≠b)/\∀p∈X.pn++Q0,p.1≠b
def Inv.fpOk(I:Inv X Q0 σ H s)(f:s.heap.objs.size<=b)(l:H' b=none):nr X Q0 H' b:=by
 refine⟨l,Nat.ne_of_gt (ZD I.lt f),I.nofs f,.inr (ZZ I.sz f),fun x c e z=>?_,fun p j z=>?_⟩
 . obtain⟨v,q⟩:=I.cell x c e;exact absurd (ZD q.lt (by rw[z];exact f)) (ZK _)
 . exact absurd (ZD (ZU (I.pin p j).1) (by rw[z];exact f)) (ZK _)
structure uL(P:Program)(w:World)(K:ZB)(tg:Expr)(J:It)(fp:List Addr)(it:Addr)(tn:Nat->Heap->Prop):Prop where
 mem:it∈fp
 obj:∀i h,tn i h->∀b∈fp,∃o,h.get? b=some o/\∀v,o.data≠.cell v
 keep:∀i h h',tn i h->(∀b∈fp,∀o,h.get? b=some o->h'.get? b=some o)->tn i h'
 item:∀(X:Cx),X.prog=P->X.w=w->X.K=K->X.calm=true->∀(i:Nat)(Q0:List (Addr×Obj))(s:Shared)(σ:St)(H:Hp)(E:Value->Shared->Prop),Inv X Q0 σ H s->(∀b∈fp,nr X Q0 H b)->tn i s.heap->J.go i H ->
  wpAny (model P w) X.A (pyNext (.ref it)) (fun r s1=>∃u,r=some u /\
   wpAny (model P w) X.A (letOwnedTupleGo tg (.ref it) u) (fun _ s2=>∃x H',Inv X Q0 σ H' s2/\RelV x u/\J.yld i H x H'/\tn (i+1) s2.heap/\∀b∈fp,H' b=none) E s1) E s
 done:∀(X:Cx),X.prog=P->X.w=w->X.K=K->X.calm=true->∀(i:Nat)(Q0:List (Addr×Obj))(s:Shared)(σ:St)(H:Hp)(E:Value->Shared->Prop),Inv X Q0 σ H s->(∀b∈fp,nr X Q0 H b)->tn i s.heap->J.stop i H ->
  wpAny (model P w) X.A (pyNext (.ref it)) (fun r s1=>r=none/\Inv X Q0 σ H s1) E s
 self:∀(A:Around)(i:Nat)(s:Shared)(Q:Value->Shared->Prop)(E:Value->Shared->Prop),tn i s.heap->Q (.ref it) s->wpAny (model P w) A (pyIter (.ref it)) Q E s
abbrev TI:=St->Hp->(It->Hp->Prop)->Prop
def PIE(X:Cx)(Q0:List (Addr×Obj))(σ:St)(tg:Expr)(R:It->Hp->Prop)(itv:Value)(s2:Shared):Prop :=
 ∃(it:Addr)(fp:List Addr)(tn:Nat->Heap->Prop)(J:It)(H':Hp),itv=.ref it/\Inv X Q0 σ H' s2/\uL X.prog X.w X.K tg J fp it tn/\tn 0 s2.heap/\(∀b∈fp,nr X Q0 H' b)/\R J H'
def PI(X:Cx)(tg iter:Expr)(wi:TI):Prop :=
 ∀(Q0:List (Addr×Obj))(s:Shared)(σ:St)(H:Hp)(R:It->Hp->Prop),Inv X Q0 σ H s->wi σ H R ->
  wpAny (model X.prog X.w) X.A (eval iter X.env) (fun v s1=>wpAny (model X.prog X.w) X.A (pyIter v) (PIE X Q0 σ tg R) X.xe s1) X.xe s
def zm{E:Yc->Yd->Prop}{it}{o}{n}{vs}{Q:Unit->Yd->Prop}(j:s.heap.get? it=some o)(p:o.cls=.type n)(m:o.data=.fields vs)
 (l:["enumerate","zip","dict_itemiterator","dict_reverseitemiterator","odict_iterator","itertools.zip_longest","itertools.pairwise"].contains n=false) (f:Q () s):wpAny M A (letOwnedTupleGo tg (.ref it) u) Q E s:=by
 unfold letOwnedTupleGo;cases tg<;>first
  |exact Z5 f
  |(cases u<;>first
   |exact Z5 f
   | (refine Z4 (wpAny_load j ?_)
      rw[p,m];show wpAny M A (if(["enumerate","zip","dict_itemiterator","dict_reverseitemiterator","odict_iterator","itertools.zip_longest","itertools.pairwise"].contains n&&vs[0]?==some (rawInt _))=true then _ else _) Q E s
      rw[if_neg (by intro h;rw[l,Bool.false_and]at h;cases h)]
      exact Z5 f))
def Itl(K:ZB)(a:Addr):It :=
 ⟨fun i H=>∃xs x,SqL K H a xs/\xs[i]?=some x,fun i H x H'=>H'=H/\∀xs,SqL K H a xs->xs[i]?=some x,fun i H=>∃xs,SqL K H a xs/\xs.length<=i⟩
def Itt(K:ZB)(a:Addr):It :=
 ⟨fun i H=>∃xs x,SqT K H a xs/\xs[i]?=some x,fun i H x H'=>H'=H/\∀xs,SqT K H a xs->xs[i]?=some x,fun i H=>∃xs,SqT K H a xs/\xs.length<=i⟩
noncomputable def Itr(lo:Int)(n:Nat):It:=⟨fun i _=>i<n,fun i H x H'=>H'=H/\x=.int (lo+i),fun i _=>n<=i⟩
theorem zV(a it:Ye):uL P w K tg (Itl K a) [it] it (fun i h=>h.IsListIter it a i) where
 mem:=by simp
 obj:=fun i h st b f=>by
  have e:b=it:=by simpa using f
  subst e;obtain⟨o,e,c,d⟩:=st;exact⟨o,e,fun v z=>by rw[d]at z;cases z⟩
 keep:=fun i h h' st k=>st.at fun o e=>k it (by simp) o e
 item:=by
  intro X B t C O i Q0 s σ H E I m st y;subst B t C;obtain⟨xs,x,l,r⟩:=y;obtain⟨Q1,q,p,U⟩:=I.list l;obtain⟨u,Y,S⟩:=q.get r;obtain⟨L,f1,f2,J,G,D⟩:=m it (by simp)
  refine wpAny_pyNext_list_item st p.isList (by simpa using Y) fun h' j Q=>?_
  have I1:=I.turned (t':=s.toks) (fun b o f e=>(Q.2 b f).trans e) L f1 J G D
  obtain⟨o,e,c,d⟩:=id j;exact⟨u,rfl,zm e c d (by decide) ⟨x,H,I1,S,⟨rfl,fun ys V=>by rw[I.list_inj V l];exact r⟩,j,fun b f=>(m b f).1⟩⟩
 done:=by
  intro X B t C O i Q0 s σ H E I m st y;subst B t C;obtain⟨xs,l,r⟩:=y;obtain⟨Q1,q,p,U⟩:=I.list l;obtain⟨L,f1,f2,J,G,D⟩:=m it (by simp)
  have hl:=q.length;exact wpAny_pyNext_list_end (I.ok.hd O) st p.isList (by simp;lia) fun h' Z=>⟨rfl,I.turned (fun b o f e=>Z b o f e) L f1 J G D⟩
 self:=fun _ _ _ _ _ st h=>wpAny_pyIter_listiter st h
theorem wH(a it:Ye):uL P w K tg (Itt K a) [it] it (fun i h=>h.IsTupleIter it a i) where
 mem:=by simp
 obj:=fun i h st b f=>by
  have e:b=it:=by simpa using f
  subst e;obtain⟨o,e,c,d⟩:=st;exact⟨o,e,fun v z=>by rw[d]at z;cases z⟩
 keep:=fun i h h' st k=>st.at fun o e=>k it (by simp) o e
 item:=by
  intro X B t C O i Q0 s σ H E I m st y;subst B t C;obtain⟨xs,x,l,r⟩:=y;obtain⟨Q1,q,p,U⟩:=I.tuple l;obtain⟨u,Y,S⟩:=q.get r;obtain⟨L,f1,f2,J,G,D⟩:=m it (by simp)
  refine wpAny_pyNext_tuple_item st (p) (by simpa using Y) fun h' j Q=>?_
  have I1:=I.turned (t':=s.toks) (fun b o f e=>(Q.2 b f).trans e) L f1 J G D
  obtain⟨o,e,c,d⟩:=id j;exact⟨u,rfl,zm e c d (by decide) ⟨x,H,I1,S,⟨rfl,fun ys V=>by rw[I.tuple_inj V l];exact r⟩,j,fun b f=>(m b f).1⟩⟩
 done:=by
  intro X B t C O i Q0 s σ H E I m st y;subst B t C;obtain⟨xs,l,r⟩:=y;obtain⟨Q1,q,p,U⟩:=I.tuple l;obtain⟨L,f1,f2,J,G,D⟩:=m it (by simp)
  have hl:=q.length;exact wpAny_pyNext_tuple_end (I.ok.hd O) st (p) (by simp;lia) fun h' Z=>⟨rfl,I.turned (fun b o f e=>Z b o f e) L f1 J G D⟩
 self:=fun _ _ _ _ _ st h=>wpAny_pyIter_tupleiter st h
theorem wI(it) (lo) (n):uL P w K tg (Itr lo n) [it] it (fun i h=>IsRangeIter h it (lo+(i:Nat)*1) ((n:Int)-(i:Nat)) 1) where
 mem:=by simp
 obj:=fun i h st b f=>by
  have e:b=it:=by simpa using f
  subst e;exact⟨_,st,fun v z=>by have D:=z;cases D⟩
 keep:=fun i h h' st k=>k it (by simp) _ st
 item:=by
  intro X r m u q i Q0 s σ H E I l st p;subst r m u;obtain⟨C,f1,f2,B,y,x⟩:=l it (by simp)
  have W:=Walks.range (prog:=X.prog) (w:=X.w) (I.ok.hd q) it lo 1 n;refine W.item i s _ _ p st fun v h' tk J j G=>?_
  obtain⟨t,rfl⟩:=J;have O:Inv X Q0 σ H { s with heap:=h',toks:=tk }:=I.turned (fun b o f e=>G b o (by simpa using f) e) C f1 B y x
  refine⟨_,rfl,zm j rfl rfl (by decide) ⟨.int (lo+i),H,O,⟨t,?_⟩,⟨rfl,rfl⟩,j,fun b f=>(l b f).1⟩⟩
  rw[Int.mul_one]
 done:=by
  intro X r m u q i Q0 s σ H E I l st p;subst r m u;obtain⟨C,f1,f2,B,y,x⟩:=l it (by simp)
  exact wpAny_pyNext_range_end (I.ok.hd q) st (by have:n<=i:=p;lia) fun h' L=>⟨rfl,I.turned (fun b o f e=>L b o f e) C f1 B y x⟩
 self:=fun _ _ _ _ _ st h=>wpAny_pyIter_rangeiter st h
section
def NQ(K:ZB)(tl:TE):TI:=fun σ H R=>tl σ H fun x H1=>∃a,x=.ref a/\(∃xs,SqL K H1 a xs)/\R (Itl K a) H1
def OQ(K:ZB)(tl:TE):TI:=fun σ H R=>tl σ H fun x H1=>∃a,x=.ref a/\(∃xs,SqT K H1 a xs)/\R (Itt K a) H1
def yP{l}{tl}(u:PE X l tl):PI X tg l (NQ X.K tl):=by
 intro Q0 s σ H R I h;refine dh (u Q0 s σ H _ I h) fun{v j x H1} f m r=>?_
 obtain⟨a,e,⟨xs,t⟩,q⟩:=r;subst e;cases m;obtain⟨Q1,z,p,B⟩:=f.list t;refine wpAny_pyIter_list p.isList ?_;refine⟨j.heap.objs.size,[j.heap.objs.size],_,_,H1,rfl,f.kept fun b o e=>ZT _ e,zV a _,⟨_,ZX _ rfl,rfl,rfl⟩,fun b y=>?_,q⟩
 have e:b=j.heap.objs.size:=by simpa using y
 subst e;exact f.fpOk (ZM _) (f.hok.fresh (ZM _))
def KP{l}{tl}(u:PE X l tl):PI X tg l (OQ X.K tl):=by
 intro Q0 s σ H R I h;refine dh (u Q0 s σ H _ I h) fun{v j x H1} f m r=>?_
 obtain⟨a,e,⟨xs,t⟩,q⟩:=r;subst e;cases m;obtain⟨Q1,z,p,B⟩:=f.tuple t;refine wpAny_pyIter_tuple (p) ?_;refine⟨j.heap.objs.size,[j.heap.objs.size],_,_,H1,rfl,f.kept fun b o e=>ZT _ e,wH a _,⟨_,ZX _ rfl,rfl,rfl⟩,fun b y=>?_,q⟩
 have e:b=j.heap.objs.size:=by simpa using y
 subst e;exact f.fpOk (ZM _) (f.hok.fresh (ZM _))
theorem CB{R:It->Hp->Prop}{E:Yc->Yd->Prop}{lo hi}{t u v}{tk}(I:Inv X Q0 σ H s)(h1:-(2^62)<=lo)(h2:lo<2^62)(m:-(2^62)<=hi)(l:hi<2^62)
 (q:R (Itr lo (hi-lo).toNat) H):wpAny (model X.prog X.w) X.A (pyIter (.ref s.heap.objs.size)) (PIE X Q0 σ tg R) E { s with heap:=s.heap.push { cls:=.type "range",data:=.fields #[.int lo t,.int hi u,.int 1 v] },toks:=tk }:=by
 refine wpAny_pyIter_range (IsRange.new ..) (small_one h1 h2 m l) ?_;have f:Inv X Q0 σ H { s with heap:=s.heap.push { cls:=.type "range",data:=.fields #[.int lo t,.int hi u,.int 1 v] },toks:=tk }:=I.kept fun b o e=>ZT _ e
 refine⟨(s.heap.push { cls:=.type "range",data:=.fields #[.int lo t,.int hi u,.int 1 v] }).objs.size,[(s.heap.push { cls:=.type "range",data:=.fields #[.int lo t,.int hi u,.int 1 v] }).objs.size],_,_,H,rfl,
  f.kept fun b o e=>ZT _ e,wI _ lo (hi-lo).toNat,?_,fun b j=>?_,q⟩
 . have r:lo+((0:Nat):Int)*1=lo:=by simp
   have p:(((hi-lo).toNat:Nat):Int)-((0:Nat):Int)=Builtin.Range.rangeSize lo hi 1:=by rw[rangeSize_one];split<;>lia
   rw[r,p];exact ZX _ rfl
 . have e:b=(s.heap.push { cls:=.type "range",data:=.fields #[.int lo t,.int hi u,.int 1 v] }).objs.size:=by simpa using j
   subst e;exact f.fpOk (ZM _) (f.hok.fresh (ZM _))
def NP(ta:TA):TI:=fun σ H R=>ta σ H fun vs H1=>∃j:Int,vs=[.int j]/\-(2^62)<=j/\j<2^62/\R (Itr 0 j.toNat) H1
theorem Ay {a} {ta} {pos} (x:Gl X "range") (v:X.mg "range" = none) (y:PA X [a] ta) (u:starEach [a] X.env=[(false,eval a X.env)]:=by rfl):PI X tg (.Call (.Name "range" p) [a] [] pos) (NP ta):=by
 intro Q0 s σ H R I h;refine Call_ (lU I x v boot_range (PyProof.Rows.callWith_type1 (pI (y pos Q0 s σ H _ I h) fun{us B vs H1} z m f=>?_) u rfl))
 obtain⟨j,e,f,o,q⟩:=f;subst e;cases m with
 |cons r l =>cases l;obtain⟨t,rfl⟩:=r;exact call_range_1 (CB z (by lia) (by lia) f o (by simpa using q))
def OA(wi:TI)(g:TG)(tb:TS):TS:=fun D σ H=>wi σ H fun J H1=>∃W:Nat->Nat->St->Hp->Prop,(∃m,W 0 m σ H1)/\∀i m σ H,W i m σ H ->
 (J.stop i H/\D.nx σ H)\/(J.go i H/\∃N:St->Hp->Prop,(∀σ' H',N σ' H'->∃m',m'<m/\W (i+1) m' σ' H')/\∀x H',J.yld i H x H'->g x σ H' fun σ2 H2=>tb { D with nx:=N,ct:=N,bk:=D.nx } σ2 H2)
noncomputable def tX(fp:List Addr)(h:Heap):List (Addr×Obj):=fp.filterMap fun b=>(h.get? b).map fun o=>(b,o)
def jg{o}(f:b∈fp)(e:h.get? b=some o):(b,o)∈tX fp h:=List.mem_filterMap.mpr ⟨b,f,by rw[e];rfl⟩
def AN{p}(f:p∈tX fp h):p.1∈fp/\h.get? p.1=some p.2:=by
 obtain⟨b,j,e⟩:=List.mem_filterMap.mp f;cases q:h.get? b with
 |none=>rw[q]at e;cases e
 |some o =>rw[q]at e;have l:=ZH e;subst l;exact⟨j,q⟩
def Inv.pinned(I:Inv X Q0 σ H s)(q:∀b∈fp,nr X Q0 H b)(m:∀b∈fp,∃o,s.heap.get? b=some o/\∀v,o.data≠.cell v):Inv X (Q0++tX fp s.heap) σ H s :=
 I.pins_of fun p l=>(Zt.mp l).elim (fun z=>I.pin p (ZE _ z)) fun z=>by obtain⟨f,e⟩:=AN z;obtain⟨r,f1,f2,_⟩:=q p.1 f;obtain⟨o,j,d⟩:=m p.1 f;rw[e]at j;cases j;exact⟨e,r,f1,f2,d⟩
def Inv.unpinned{pl}(I:Inv X (Q0++pl) σ H s):Inv X Q0 σ H s:=I.pins_of fun p f=>I.pin p (ZE _ (ZF _ f))
def Di {iter} {wi} {g} {tb} {pos} (Q:PassesOwn (model X.prog X.w) X.A X.env X.xe) (hc:X.calm=true) (hi:PI X tg iter wi) (hg:PG X tg g) (q:PSs X body tb)
 (hs:∀x,foldedSetIterable iter X.env x=pure x:=by intro _;rfl):PS X (.For tg iter body [] pos) (OA wi g tb):=by
 intro Q0 s σ H D I h;refine wpAny_For (thn (hi Q0 s σ H _ I h) fun v s1 h1=>thn h1 fun itv s2 h2=>?_) hs
 obtain⟨it,fp,tn,J,H2,e,I2,T,U,f2,W,⟨m0,w0⟩,G⟩:=h2;subst e;have p:∀{H'},(∀b∈fp,H' b=none)->∀b∈fp,nr X Q0 H' b:=fun hn b q=>⟨hn b q,(f2 b q).2⟩
 refine codeAny_forLoop_any (fun n s'=>∃i l H',Inv X Q0 l H' s'/\tn i s'.heap/\(∀b∈fp,H' b=none)/\W i n l H') ?_ m0 ⟨0,σ,H2,I2,U,fun b q=>(f2 b q).1,w0⟩
 rintro n s3 ⟨i,σ3,H3,I3,st3,fr3,w3⟩
 rcases G i n σ3 H3 w3 with⟨L,qn⟩|⟨go,N,hN,step⟩
 . refine wpAny_passesOwn Q (thn (T.done X rfl rfl rfl hc i Q0 s3 σ3 H3 X.xe I3 (p fr3) st3 L) fun r s4 h0=>?_)
   obtain⟨Y,I4⟩:=h0;subst Y;exact wpAny_execs_nil ⟨σ3,H3,I4,qn⟩
 . refine wpAny_passesOwn Q (thn (T.item X rfl rfl rfl hc i Q0 s3 σ3 H3 X.xe I3 (p fr3) st3 go) fun r s4 h0=>?_)
   obtain⟨u,Y,h4⟩:=h0;subst Y;refine wpAny_passesOwn Q (thn h4 fun _ s5 h0=>?_)
   obtain⟨x,H5,I5,r5,y5,C,Z⟩:=h0;have I5':=I5.pinned (p Z) (T.obj _ _ C);refine wpAny_passesOwn Q (thn (hg _ s5 σ3 H5 x u _ I5' r5 (step x H5 y5)) fun _ s6 h0=>?_)
   obtain⟨S,H6,I6,q6⟩:=h0;refine wpAny_passesOwn Q (thn (q _ s6 S H6 _ I6 q6) fun f V B=>?_)
   have t:∀{j}{z},Inv X (Q0++tX fp s5.heap) j z V->N j z->∃m,m<n/\∃i l H',Inv X Q0 l H' V/\tn i V.heap/\(∀b∈fp,H' b=none)/\W i m l H':=fun{j z} y O=>by
    obtain⟨m',hm,w7⟩:=hN j z O;refine⟨m',hm,i+1,j,z,y.unpinned,T.keep _ _ _ C fun b q o e=>(y.pin (b,o) (ZE _ (ZE _ (jg q e)))).1,fun b q=>?_,w7⟩
    obtain⟨o,e,d⟩:=T.obj _ _ C b q;exact(y.pin (b,o) (ZE _ (ZE _ (jg q e)))).2.1
   cases f with
   |next=>obtain⟨j,z,y,O⟩:=B;exact t y O
   |cont=>obtain⟨j,z,y,O⟩:=B;exact t y O
   |brk=>obtain⟨j,z,y,B⟩:=B;exact⟨j,z,y.unpinned,B⟩
   |ret v=>obtain⟨x7,j,z,y,r7,B⟩:=B;exact⟨x7,j,z,y.unpinned,r7,B⟩
end
abbrev R2:=V->V->Hp->VK->Prop
def OpR(X:Cx)(f:Value->Value->Sem Value)(r:R2):Prop :=
 ∀(Q0:List (Addr×Obj))(s:Shared)(σ:St)(H:Hp)(x y:V)(v u:Value)(Q:VK),Inv X Q0 σ H s->RelV x v->RelV y u->r x y H Q ->
  wpAny (model X.prog X.w) X.A (f v u) (EP X Q0 σ Q) X.xe s
def UnR(X:Cx)(f:Value->Sem Value)(r:V->Hp->VK->Prop):Prop :=
 ∀(Q0:List (Addr×Obj))(s:Shared)(σ:St)(H:Hp)(x:V)(v:Value)(Q:VK),Inv X Q0 σ H s->RelV x v->r x H Q ->
  wpAny (model X.prog X.w) X.A (f v) (EP X Q0 σ Q) X.xe s
def CallR(X:Cx)(f:Value)(r:List V->Hp->VK->Prop):Prop :=
 ∀(Q0:List (Addr×Obj))(s:Shared)(σ:St)(H:Hp)(xs:List V)(us:List Value)(Q:VK),Inv X Q0 σ H s->Vals xs us->r xs H Q ->
  wpAny (model X.prog X.w) X.A (call f us) (EP X Q0 σ Q) X.xe s
def tOp(r:R2)(ta tb:TE):TE:=fun σ H Q=>ta σ H fun x H1=>tb σ H1 fun y H2=>r x y H2 Q
def tUn(r:V->Hp->VK->Prop)(ta:TE):TE:=fun σ H Q=>ta σ H fun x H1=>r x H1 Q
def rI(C:Int->Int->Prop)(g:Int->Int->V):R2:=fun x y H Q=>∃i j,x=.int i/\y=.int j/\C i j/\Q (g i j) H
def rI0(g:Int->Int->V):R2:=fun x y H Q=>∃i j,x=.int i/\y=.int j/\Q (g i j) H
def rU(g:Int->V):V->Hp->VK->Prop:=fun x H Q=>∃i,x=.int i/\Q (g i) H
section
variable {a b:Expr} {tb:TE} {pos:Pos}
def Mv(B:PE X a ta)(z:PE X b tb){R:V->V->Hp->Prop}(I:Inv X Q0 σ H s)
 (h:ta σ H fun x H1=>tb σ H1 fun y H2=>R x y H2) 
 (t:∀v u l x y H2,Inv X Q0 σ H2 l->RelV x v->RelV y u->R x y H2->wpAny (model X.prog X.w) X.A (f v u) Q X.xe l) :
 wpAny (model X.prog X.w) X.A (eval a X.env) (fun v j=>wpAny (model X.prog X.w) X.A (eval b X.env) (fun u s₂=>wpAny (model X.prog X.w) X.A (f v u) Q X.xe s₂) X.xe j) X.xe s:=by
 refine dh (B Q0 s σ H _ I h) fun{v m x H1} D p r=>?_
 refine dh (z Q0 m σ H1 _ D r) fun{u l y H2} C o q=>?_
 exact t v u l x y H2 C p o q
def yR{op}{r}(m:OpR X (binaryOp op) r)(p:PE X a ta)(o:PE X b tb):PE X (.BinOp a op b pos) (tOp r ta tb):=by intro Q0 s σ H Q I h;exact wpAny_BinOp (Mv p o I h fun v u f x y H2 t l j q=>m Q0 f σ H2 x y v u Q t l j q)
def No{op}{r:V->Hp->VK->Prop}(m:UnR X (unaryOp op) r)(o:PE X a ta):PE X (.UnaryOp op a pos) (tUn r ta):=by intro Q0 s σ H Q I h;exact UnaryOp_ (dh (o Q0 s σ H _ I h) fun{v f x H1} p j l=>m Q0 f σ H1 x v Q p j l)
def opI{C:Int->Int->Prop}{g:Int->Int->Int}
 (l:∀i j t u s Q E,C i j->Q (.int (g i j) s.toks) { s with toks:=s.toks+1 }->wpAny (model X.prog X.w) X.A (f (.int i t) (.int j u)) Q E s) :
 OpR X f (rI C fun i j=>.int (g i j)):=by
 intro Q0 s σ H x y v u Q I o m h;obtain⟨i,j,rfl,rfl,p,q⟩:=h;obtain⟨t,rfl⟩:=o;obtain⟨t',rfl⟩:=m;exact l i j t t' s _ _ p ⟨.int (g i j),H,I.tok _,⟨_,rfl⟩,q⟩
def NA{g:Int->Int->Int}
 (l:∀i j t u s Q E,Q (.int (g i j) s.toks) { s with toks:=s.toks+1 }->wpAny (model X.prog X.w) X.A (f (.int i t) (.int j u)) Q E s) :
 OpR X f (rI0 fun i j=>.int (g i j)):=by
 intro Q0 s σ H x y v u Q I o m h;obtain⟨i,j,rfl,rfl,q⟩:=h;obtain⟨t,rfl⟩:=o;obtain⟨t',rfl⟩:=m;exact l i j t t' s _ _ ⟨.int (g i j),H,I.tok _,⟨_,rfl⟩,q⟩
def Lw{g:Int->Int->Bool}
 (l:∀i j t u s Q E,Q (.bool (g i j)) s->wpAny (model X.prog X.w) X.A (f (.int i t) (.int j u)) Q E s) :
 OpR X f (rI0 fun i j=>.bl (g i j)):=by
 intro Q0 s σ H x y v u Q I o m h;obtain⟨i,j,rfl,rfl,q⟩:=h;obtain⟨t,rfl⟩:=o;obtain⟨t',rfl⟩:=m;exact l i j t t' s _ _ ⟨.bl (g i j),H,I,rfl,q⟩
def CPow(i j:Int):Prop:=0<=j/\j<=1000000/\i.natAbs<2^64
def CMul(i j:Int):Prop:=(-(2^64)<i/\i<2^64)\/(-(2^64)<j/\j<2^64)
def op_add:OpR X (binaryOp .Add) (rI0 fun i j=>.int (i+j)):=NA fun _ _ _ _ _ _ _ q=>add_int q
def DW:OpR X (binaryOp .Sub) (rI0 fun i j=>.int (i-j)):=NA fun _ _ _ _ _ _ _ q=>sub_int q
theorem Lu:OpR X (binaryOp .Mod) (rI (fun _ j=>0<j) fun i j=>.int (i%j)):=opI fun i j _ _ _ _ _ f q=>by have h1:=f;exact mod_int' (by lia) (by rw[Int.fmod_eq_emod_of_nonneg i (by lia)];exact q)
def Ls:OpR X (binaryOp .Pow) (rI CPow fun i j=>.int (i^j.toNat)):=opI fun _ _ _ _ _ _ _ f q=>pow_int_small f.1 f.2.1 f.2.2 q
def unI{f}{g:Int->Int}
 (j:∀i t s Q E,Q (.int (g i) s.toks) { s with toks:=s.toks+1 }->wpAny (model X.prog X.w) X.A (f (.int i t)) Q E s) :
 UnR X f (rU fun i=>.int (g i)):=by
 intro Q0 s σ H x v Q I l h;obtain⟨i,rfl,q⟩:=h;obtain⟨t,rfl⟩:=l;exact j i t s _ _ ⟨.int (g i),H,I.tok _,⟨_,rfl⟩,q⟩
def JQ:UnR X (unaryOp .USub) (rU fun i=>.int (-i)):=unI fun _ _ _ _ _ q=>neg_int q
end
section
variable {a b:Expr} {tb:TE} {pos:Pos}
def xD{Q}{k k'}(I:Inv X Q0 σ H s)(q:Q (.bl k) H)(e:k=k'):EP X Q0 σ Q (.bool k') s:=by subst e;exact⟨.bl k,H,I,rfl,q⟩
def Jr:OpR X (compareOp .Lt) (rI0 fun i j=>.bl (decide (i<j))):=Lw fun _ _ _ _ _ _ _ q=>lt_int q
def vq:OpR X (compareOp .LtE) (rI0 fun i j=>.bl (decide (i<=j))):=Lw fun _ _ _ _ _ _ _ q=>le_int q
def Js:OpR X (compareOp .Gt) (rI0 fun i j=>.bl (decide (j<i))):=Lw fun _ _ _ _ _ _ _ q=>gt_int q
def AG:OpR X (compareOp .In) (fun x y H Q=>∃i j,x=.str i/\y=.str j/\Q (.bl (!(Builtin.Str.occurrences j i 0 j.length 1).isEmpty)) H):=by intro Q0 s σ H x y v u Q I l f h;obtain⟨i,j,rfl,rfl,q⟩:=h;obtain⟨t,rfl⟩:=l;obtain⟨t',rfl⟩:=f;exact in_str (xD I q rfl)
def Lv:OpR X (compareOp .Is) (fun x y H Q=>y=.non/\Q (.bl (decide (x=.non))) H):=by
 intro Q0 s σ H x y v u Q I f j h;obtain⟨rfl,q⟩:=h;cases j;refine is_none_gen (xD I q ?_);cases x<;>first
  |(cases f;rfl)
  |(obtain⟨t,rfl⟩:=f;rfl)
def yX:OpR X (compareOp .IsNot) (fun x y H Q=>y=.non/\Q (.bl (!decide (x=.non))) H):=by
 intro Q0 s σ H x y v u Q I f j h;obtain⟨rfl,q⟩:=h;cases j;refine isnot_none_gen (xD I q ?_);cases x<;>first
  |(cases f;rfl)
  |(obtain⟨t,rfl⟩:=f;rfl)
def OpR.or{r r':R2}(h:OpR X f r)(h':OpR X f r'):OpR X f (fun x y H Q=>r x y H Q\/r' x y H Q):=by
 intro Q0 s σ H x y v u Q I l j q;rcases q with q|q
 . exact h Q0 s σ H x y v u Q I l j q
 . exact h' Q0 s σ H x y v u Q I l j q
def eP(b) (h:op≠.In:=by decide) (h2:op≠.NotIn:=by decide):behindInMarks op b=false:=by
 have j:(op==CmpOp.In)=false:=by cases op<;>first|rfl|exact absurd rfl h
 have f:(op==CmpOp.NotIn)=false:=by cases op<;>first|rfl|exact absurd rfl h2
 cases b<;>simp[behindInMarks,j,f]
def yT{r}(m:OpR X (compareOp op) r)(t:PE X a ta)(p:PE X b tb)(o:behindInMarks op b=false):PE X (.Compare a [op] [b] pos) (tOp r ta tb):=by intro Q0 s σ H Q I h;exact wpAny_Compare1 (Mv t p I h fun v u f x y H2 z l j q=>m Q0 f σ H2 x y v u Q z l j q) o
def Jc(t:TE):TT:=fun σ H Q=>t σ H fun x H'=>∃k,x=.bl k/\Q k H'
def yM{r}(C:OpR X (compareOp op) r)(J:PE X a ta)(G:PE X b tb)(D:behindInMarks op b=false):PT X (.Compare a [op] [b] pos) (Jc (tOp r ta tb)):=by
 intro Q0 s σ H Q I h;refine wpAny_isTrue_Compare1 (dh (J Q0 s σ H _ I h) fun{v l x H1} S p B=>dh (G Q0 l σ H1 _ S B) fun{u j y H2} O o t =>dh (C Q0 j σ H2 x y v u _ O p o t) fun{c V z U} L m f=>?_) D
 obtain⟨k,e,q⟩:=f;subst e;cases m;exact wpAny_truthy_bool ⟨U,L,q⟩
def wL(r r':R2)(ta tb tc:TE):TE:=fun σ H Q=>ta σ H fun x H1=>tb σ H1 fun y H2=>r x y H2 fun z H3=>∃k,z=.bl k /\
 (if k=true then tc σ H3 fun w' H4=>r' y w' H4 Q else Q (.bl false) H3)
def DO{r r'}(Y:OpR X (compareOp op) r)(j:OpR X (compareOp op') r')(ha:PE X a ta)(hb:PE X b tb)(hc:PE X c tc)
 (Z:lastMarks [op,op'] [b,c]=false:=by with_unfolding_all rfl):PE X (.Compare a [op,op'] [b,c] pos) (wL r r' ta tb tc):=by
 intro Q0 s σ H Q I h;refine Compare_chain (dh (ha Q0 s σ H _ I h) fun{v G x H1} I1 O V=>chain_link (dh (hb Q0 G σ H1 _ I1 V) fun{u D y H2} I2 l U =>dh (Y Q0 D σ H2 x y v u _ I2 O l U) fun{d C z p} o L f=>?_)) Z
 obtain⟨k,e,m⟩:=f;subst e;cases L;refine wpAny_truthy_bool ?_;cases k with
 |false=>exact ite_ff ⟨.bl false,p,o,rfl,m⟩
 |true=>exact ite_tt (chain_last (dh (hc Q0 C σ p _ o m) fun{t B q H4} I4 J S=>j Q0 B σ H4 y q u t Q I4 l J S))
def Dd{r r'}(ho:OpR X (compareOp op) r)(j:OpR X (compareOp op') r')(ha:PE X a ta)(hb:PE X b tb)(hc:PE X c tc)
 (hm:lastMarks [op,op'] [b,c]=false:=by with_unfolding_all rfl):PT X (.Compare a [op,op'] [b,c] pos) (Jc (wL r r' ta tb tc)):=by
 intro Q0 s σ H Q I h;refine isTrue_chain (dh (ha Q0 s σ H _ I h) fun{v G x H1} I1 S Z=>test_link (dh (hb Q0 G σ H1 _ I1 Z) fun{u D y H2} I2 l Y =>dh (ho Q0 D σ H2 x y v u _ I2 S l Y) fun{d C z p} o O f=>?_)) hm
 obtain⟨k,e,m⟩:=f;subst e;cases O;refine wpAny_truthy_bool ?_;cases k with
 |false =>obtain⟨k',e',q'⟩:=m;cases e';exact ite_ff ⟨p,o,q'⟩
 |true =>
  refine ite_tt (test_last (dh (hc Q0 C σ p _ o m) fun{t B q H4} I4 L V=>thn (j Q0 B σ H4 y q u t _ I4 l L V) fun d' s5 h0=>?_))
  obtain⟨z2,H5,I5,J,k2,e2,U⟩:=h0;subst e2;cases J;exact wpAny_truthy_bool ⟨H5,I5,U⟩
def nW:(sizeLine:Nat)<2^63:=by rw[sizeLine_eq];decide
def qj:OpR X (binaryOp .Add) (fun x y H Q=>∃i j,x=.str i/\y=.str j/\i.length+j.length<=sizeLine/\Q (.str (i++j)) H):=by intro Q0 s σ H x y v u Q I l f h;obtain⟨i,j,rfl,rfl,m,q⟩:=h;obtain⟨t,rfl⟩:=l;obtain⟨t',rfl⟩:=f;exact add_str (fun t' tk=>⟨.str (i++j),H,I.tok _,⟨_,rfl⟩,q⟩) m
def jK{x}(r:Vals [x] us):∃u,us=[u]/\RelV x u:=by
 cases r with
 |cons j f=>cases f;exact⟨_,rfl,j⟩
def uR{x}(r:Vals [x,y] us):∃u f,us=[u,f]/\RelV x u/\RelV y f:=by
 cases r with
 |cons o m =>
  cases m with
  |cons l j=>cases j;exact⟨_,_,rfl,o,l⟩
def Fs:CallR X (.builtin "abs") (fun xs H Q=>∃i,xs=[.int i]/\Q (.int (if i<0 then -i else i)) H):=by intro Q0 s σ H xs us Q I r h;obtain⟨i,rfl,q⟩:=h;obtain⟨u,rfl,t,rfl⟩:=jK r;exact call_abs_int fun u tk=>⟨.int (if i<0 then -i else i),H,I.tok _,⟨_,rfl⟩,q⟩
def Bt (l:X.calm=true):CallR X (.builtin "max") (fun xs H Q=>∃i j,xs=[.int i,.int j]/\Q (.int (if j>i then j else i)) H):=by
 intro Q0 s σ H xs us Q I r h;obtain⟨i,j,rfl,q⟩:=h;obtain⟨u,m,rfl,⟨t,rfl⟩,⟨t',rfl⟩⟩:=uR r;refine max_two_ints (I.ok.hd l) fun h' tk k=>⟨_,H,I.kept k,?_,q⟩
 by_cases f:j>i
 . rw[if_pos f,if_pos f];exact⟨_,rfl⟩
 . rw[if_neg f,if_neg f];exact⟨_,rfl⟩
def Bs (l:X.calm=true):CallR X (.builtin "min") (fun xs H Q=>∃i j,xs=[.int i,.int j]/\Q (.int (if j<i then j else i)) H):=by
 intro Q0 s σ H xs us Q I r h;obtain⟨i,j,rfl,q⟩:=h;obtain⟨u,m,rfl,⟨t,rfl⟩,⟨t',rfl⟩⟩:=uR r;refine min_two_ints (I.ok.hd l) fun h' tk k=>⟨_,H,I.kept k,?_,q⟩
 by_cases f:j<i
 . rw[if_pos f,if_pos f];exact⟨_,rfl⟩
 . rw[if_neg f,if_neg f];exact⟨_,rfl⟩
def call_int1:CallR X (.type "int") (fun xs H Q=>(∃i,xs=[.int i]/\Q (.int i) H)\/∃k,xs=[.bl k]/\Q (.int (if k then 1 else 0)) H):=by
 intro Q0 s σ H xs us Q I r h;rcases h with⟨i,rfl,q⟩|⟨k,rfl,q⟩
 . obtain⟨u,rfl,t,rfl⟩:=jK r;exact call_int_int ⟨.int i,H,I,⟨_,rfl⟩,q⟩
 . obtain⟨u,rfl,f⟩:=jK r;cases f;exact call_int_bool ⟨.int (if k then 1 else 0),H,I.tok _,⟨_,rfl⟩,q⟩
def uw:CallR X (.type "str") (fun xs H Q=>∃i,xs=[.int i]/\i.natAbs.log2<1920/\Q (.str (toString i)) H):=by intro Q0 s σ H xs us Q I r h;obtain⟨i,rfl,f,q⟩:=h;obtain⟨u,rfl,t,rfl⟩:=jK r;exact PySem.P.str_of_int f ⟨.str _,H,I.tok _,⟨_,rfl⟩,q⟩
end
structure ObjM(h:Heap)(x dx C:Addr)(mA:Str->Option Value):Prop where
 obj:h.get? x=some (W.instObj C dx)
 ns:h.Ns1 dx mA
 ne:dx≠x
def AY (n:h.Ns1 dx mA):∃ od,h.get? dx=some od/\∀ name,W.lookIn name od=some (mA name):=by
 obtain⟨o,es,ep,l,p,hk,_,m⟩:=n;refine⟨o,l,fun name=>?_⟩
 have e:=m name;unfold nsFind findBy at e;rw[<- Array.find?_toList]at e;unfold W.lookIn;rw[p];dsimp only;split
 . rename_i y q;rw[q]at e;exact congrArg some e
 . rename_i q;rw [q] at e;have a:es.toList.any (·.refKey)=false:=by
    rw[List.any_eq_false];intro y j;obtain⟨z,t,f⟩:=hk y (Array.mem_toList_iff.mp j);simp[DictEntry.refKey,f]
   have r:¬es.toList.any (·.refKey)=true:=by rw[a];exact ZC
   rw[if_neg r];exact congrArg some e
def ObjM.look{x}(I:ObjM h x dx C mA):∃od,W.InstAt h x (W.instObj C dx) C (some od)/\∀name,W.lookIn name od=some (mA name) :=
 let ⟨od,ho,hl⟩:=AY I.ns
 ⟨od,⟨I.obj,rfl,rfl,ho⟩,hl⟩
section
variable {E:Yc->Yd->Prop} {x f:Ye} 
def Ih{expr}(X:K.In s.heap)(I:ObjM s.heap x dx C mA)(o:W.plainGet K C name=true)(m:W.hasDictIn K C=true)
 (p:W.findIn K (.ref C) name=some none) (j:mA name=some v) (f:W.handedIn v=true) (h:Q v { s with toks:=s.toks+1 }) :
 wpAny (model prog w) A (getAttr (.ref x) name expr) Q E s:=by
 obtain⟨od,J,l⟩:=I.look;exact W.get_value X J (W.plainGet_of o).1 (W.findObj_own m p rfl (by rw[l,j])) f h
def EG{Q:Yc×Yh Yc->Yd->Prop}(X:K.In s.heap)(I:ObjM s.heap x dx C mA)(j:W.plainGet K C name=true)
 (p:W.findIn K (.ref C) name=some (some (.ref f))) (m:W.isFn K (.ref f)=true) (l:mA name=none) (h:Q (.ref f,[.ref x]) s) :
 wpAny (model prog w) A (getMethod (.ref x) name pl) Q E s:=by
 obtain⟨od,J,o⟩:=I.look;exact W.method_fn X J (W.plainGet_of j).1 (W.plainGet_of j).2 p (beq_iff_eq.mp m) (by show(W.lookIn name od).map (·.isSome)=some false;rw[o,l];rfl) h
theorem Gm{ns}{Q:Unit->Yd->Prop}(X:K.In s.heap)(I:ObjM s.heap x dx C mA)
 (z:W.findIn K (.ref C) "__setattr__" = some (some (.builtin "object.__setattr__"))) (B:W.plainOver K C=true) (t:W.takerIn K C name=some none) (D:W.hasDictIn K C=true)
 (r:PySem.Within mA ns) (u:ns.length<=sizeLine)
 (h:∀h',ObjM h' x dx C (fun y=>if y=name then some v else mA y)->Heap.SameBut dx s.heap h'->Q () { s with heap:=h',toks:=s.toks+2 }) :
 wpAny (model prog w) A (setAttr (.ref x) name v) Q E s:=by
 obtain⟨od,J,S⟩:=I.look;refine W.set_plain X J z (W.osa_open X J B t fun b=>?_)
 obtain⟨U,G,o⟩:=W.any_some D;have q:=I.obj;refine Z4 (Z5 (Z4 (Z4 (wpAny_loadPart q (Z4 (W.Looks.here (W.looks_clsIn X G) ?_))))));rw[o];refine Z5 (Z4 (Z5 (Z4 ?_)));refine wpAny_nsSet1 I.ns fun h' j f=>?_
 obtain⟨O,H,L,l,m,p⟩:=j.count (PySem.Within.cons name v r);refine Z4 (wpAny_lookBehind l (by rw[m];exact pastItsLine_dict (ZZ p (by rw[Zn];lia))) ?_)
 exact Z5 (h _ ⟨(f.2 _ (Ne.symm I.ne)).trans I.obj,j,I.ne⟩ f)
def Ee(X:K.In s.heap)(l:W.makesIn K C=true)
 (hi:W.findIn K (.ref C) "__init__" = some (some (.ref f))) (m:W.typeIn K (.ref f)=some (.type "function"))
 (h:codeAny (model prog w) (A.under (.builtin "type.__call__" ⟨.ref C :: vs,kw⟩)) (.call (.ref f) ⟨.ref (s.heap.objs.size+1) :: vs,kw⟩) (W.InitBack (s.heap.objs.size+1) R)
  { s with heap:=(s.heap.push W.emptyDict).push (W.instObj C s.heap.objs.size) }) :
 codeAny (model prog w) A (.call (.ref C) ⟨vs,kw⟩) R s:=by
 obtain⟨p,g,d,t,o⟩:=s;exact W.make_core (W.makes_of X l) (W.looks_findIn X hi) (fun j=>W.bind_fn X j m) (.inl rfl) h
end
noncomputable def jV(f:Str)(v:V):List (Str×V)->List (Str×V)
 |[]=>[(f,v)]
 |(g,x)::r=>if g=f then(g,v)::r else(g,x)::jV f v r
theorem oH(f g) (v):∀fs:Yh (Str×V),(jV f v fs).lookup g=if g=f then some v else fs.lookup g
 |[]=>by
  show List.lookup g [(f,v)]=_
  by_cases h:g=f
  . have j:=beq_iff_eq.mpr h;simp only[List.lookup,j,if_pos h]
  . have j:=beq_eq_false_iff_ne.mpr h;simp only[List.lookup,j,if_neg h]
 | (k,x) :: r=>by
  have l:=oH f g v r;rw[show jV f v ((k,x)::r)=(if k=f then(k,v)::r else(k,x)::jV f v r)from rfl]
  by_cases hk:k=f
  . rw [if_pos hk]
    by_cases h:g=k
    . have j:=beq_iff_eq.mpr h;simp only[List.lookup,j,if_pos (h.trans hk)]
    . have j:(g==k)=false:=beq_eq_false_iff_ne.mpr h;simp only[List.lookup,j,if_neg (fun e:g=f=>h (e.trans hk.symm))]
  . rw [if_neg hk]
    by_cases h:g=k
    . have j:(g==k)=true:=beq_iff_eq.mpr h;simp only[List.lookup,j,if_neg (fun e:g=f=>hk (h.symm.trans e))]
    . have j:(g==k)=false:=beq_eq_false_iff_ne.mpr h;simp only[List.lookup,j];exact l
theorem nX(f) (v):∀fs:Yh (Str×V),f∈(jV f v fs).map (·.1)/\∀g,g∈fs.map (·.1)->g∈(jV f v fs).map (·.1)
 |[]=>⟨by simp[jV],fun g h=>by simp at h⟩
 | (k,x) :: r=>by
  obtain⟨l,j⟩:=nX f v r;rw[show jV f v ((k,x)::r)=(if k=f then(k,v)::r else(k,x)::jV f v r)from rfl]
  by_cases hk:k=f
  . rw[if_pos hk];subst hk;exact⟨by simp,fun g h=>by simpa using h⟩
  . rw [if_neg hk];refine ⟨?_,fun g h=>?_⟩
    . rw[Zv];exact Zq _ l
    . rw [Zv] at h ⊢;rcases Zu.mp h with e | e
      . exact Zu.mpr (.inl e)
      . exact Zq _ (j g e)
theorem oJ(f) (v):∀fs:Yh (Str×V),(jV f v fs).length<=fs.length+1
 |[]=>by simp[jV]
 |(k,x)::r=>by
  have j:=oJ f v r;rw[show jV f v ((k,x)::r)=(if k=f then(k,v)::r else(k,x)::jV f v r)from rfl]
  by_cases hk:k=f
  . rw[if_pos hk,Zn,Zn];lia
  . rw[if_neg hk,Zn,Zn];lia
def RelO.some_of{v}{o}(r:RelO (some v) o):∃u,o=some u/\RelV v u:=by
 cases o with
 |none=>exact(r).elim
 |some u=>exact⟨u,rfl,r⟩
def RelO.none_of{o}(r:RelO none o):o=none:=by
 cases o with
 |none=>rfl
 |some u=>exact(r).elim
def Bg{v}(r:RelV v u):W.handedIn u=true:=by
 cases v with
 |non=>cases(r);rfl
 |bl b=>cases(r);rfl
 |int i=>obtain⟨t,e⟩:=(r);cases e;rfl
 |str x=>obtain⟨t,e⟩:=(r);cases e;rfl
 |byt b=>obtain⟨t,e⟩:=(r);cases e;rfl
 |flt b=>obtain⟨t,e⟩:=(r);cases e;rfl
 |ref a=>cases(r);rfl
 |ty n=>cases(r);rfl
section
variable {fs:Yh (Str×V)}
def pp(j:HOk P w H h)(e:H a=some (.ins C dx fs)):∃mA,ObjM h a dx C mA/\(∀f,RelO (fs.lookup f) (mA f))/\PySem.Within mA (fs.map (·.1))/\fs.length<=1000/\H dx=some (.own a):=by obtain⟨d,z,m,l,mA,n,r,q⟩:=(j a _ e);exact⟨mA,⟨l,n,m⟩,r,q,z,d⟩
end
structure Cls(K:ZB)(C:Addr):Prop where
 pg:W.plainGet K C Str.empty=true
 hd:W.hasDictIn K C=true
 po:W.plainOver K C=true
 sa:W.findIn K (.ref C) "__setattr__" = some (some (.builtin "object.__setattr__"))
def Cls.get(c:Cls K C)(f:Str):W.plainGet K C f=true:=c.pg
def NoAttr(K:ZB)(C:Addr)(f:Str):Prop:=W.findIn K (.ref C) f=some none
def NoAttr.taker{f}(n:NoAttr K C f):W.takerIn K C f=some none:=by
 unfold W.takerIn;rw[show W.findIn K (.ref C) f=some none from n]
 rfl
structure BM(K:ZB)(C:Addr)(m:Str)(f:Addr):Prop where
 at_:W.findIn K (.ref C) m=some (some (.ref f))
 fn:W.isFn K (.ref f)=true
 kp:W.keepIn K (.ref f)=true
section
variable {fs:Yh (Str×V)} {f:Str} {v:V} {E:Yc->Yd->Prop}
def xx{b}(I:Inv X Q0 σ H s)(e:H a=some (.ins C dx fs))(c:Cls X.K C)(n:NoAttr X.K C f)(l:fs.lookup f=some v)
 (h:∀u s',Inv X Q0 σ H s'->RelV v u->Q u s'):wpAny (model X.prog X.w) A (getAttr (.ref a) f b) Q E s:=by
 obtain⟨mA,O,r,_,_,_⟩:=pp I.hok e;obtain⟨u,m,j⟩:=RelO.some_of (by rw[<- l];exact r f)
 exact Ih I.kIn O (c.get f) c.hd n m (Bg j) (h u _ (I.tok _) j)
def qD{g}{Q:Yc×Yh Yc->Yd->Prop}(I:Inv X Q0 σ H s)(e:H a=some (.ins C dx fs))(c:Cls X.K C)(k:BM X.K C m g)(l:fs.lookup m=none)
 (h:Q (.ref g,[.ref a]) s):wpAny (model X.prog X.w) A (getMethod (.ref a) m pl) Q E s:=by
 obtain⟨mA,O,r,_,_,_⟩:=pp I.hok e;have f:=RelO.none_of (by rw[<- l];exact r m)
 exact EG I.kIn O (c.get m) k.at_ k.fn f h
theorem wR{Q:Unit->Yd->Prop}(I:Inv X Q0 σ H s)(e:H a=some (.ins C dx fs))(c:Cls X.K C)(n:NoAttr X.K C f)(G:fs.length<1000)(t:RelV y u)
 (h:∀s',Inv X Q0 σ (upd H a (.ins C dx (jV f y fs))) s'->Q () s'):wpAny (model X.prog X.w) A (setAttr (.ref a) f u) Q E s:=by
 obtain⟨mA,O,r,l,_,m⟩:=pp I.hok e;have v:(fs.map (·.1)).length<=sizeLine:=by rw[Zm,sizeLine_eq];lia
 refine Gm I.kIn O c.sa c.po n.taker c.hd l v fun h' j p=>h _ ?_
 have B:∃o,h'.get? dx=some o:=let ⟨o,_,_,e',_⟩:=j.ns;⟨o,e'⟩;refine I.write (by rw[e];exact True.intro) (.inr m) (fun b q D z=>(p.2 b D).trans z) B ?_
 refine⟨by rw[aF O.ne];exact m,?_,O.ne,j.obj,_,j.ns,fun g=>?_,fun g x=>?_⟩
 . have:=oJ f y fs;lia
 . rw [oH]
   by_cases q:g=f
   . rw[if_pos q,if_pos q];exact t
   . rw[if_neg q,if_neg q];exact r g
 . by_cases q:g=f
   . rw[q];exact(nX f y fs).1
   . refine (nX f y fs).2 g (l g fun z=>x ?_)
     show(if g=f then some u else mA g)=none
     rw[if_neg q];exact z
def Inv.made(I:Inv X Q0 σ H s):Inv X Q0 σ (upd (upd H s.heap.objs.size (.own (s.heap.objs.size+1))) (s.heap.objs.size+1) (.ins C s.heap.objs.size []))
 { s with heap:=(s.heap.push W.emptyDict).push (W.instObj C s.heap.objs.size) }:=by
 have j:(s.heap.push W.emptyDict).get? s.heap.objs.size=some W.emptyDict:=ZX s.heap rfl;have r:((s.heap.push W.emptyDict).push (W.instObj C s.heap.objs.size)).get? (s.heap.objs.size+1)=some (W.instObj C s.heap.objs.size):=by have:=ZX (s.heap.push W.emptyDict) (o:=W.instObj C s.heap.objs.size) rfl;rwa [Heap.size_push]at this
 have p:(s.heap.push W.emptyDict).Ns s.heap.objs.size (fun _=>none):=⟨W.emptyDict,#[],_,j,rfl,(fun e m=>absurd m (by simp)),fun _=>rfl⟩
 have t:=I.laid (o:=.own (s.heap.objs.size+1)) (t':=s.toks) (fun b u q=>ZT _ q) (ZM _) ⟨_,j⟩
 refine t.laid (fun b u q=>ZT _ q) (Nat.le_of_eq (Heap.size_push _ _)) ?_
 have f:s.heap.objs.size≠s.heap.objs.size+1:=ZJ (Nat.lt_succ_self _);refine⟨by rw[aF f,aH],Nat.zero_le _,f,r,fun _=>none,(Heap.Ns1.of_empty p).at fun o q=>ZT _ q,fun _=>True.intro,fun y l=>absurd rfl l⟩
def IV{env}{f}{pos}(l:attributeBase e f env (eval e env)=eval e env)
 (h:wpAny (model prog w) A (eval e env) (fun o j=>wpAny (model prog w) A (getAttr o f true) Q E j) E s):wpAny (model prog w) A (eval (.Attribute e f pos) env) Q E s :=
 Attribute_any_ h (by rw[arm_eval_Attribute,l])
end
def OB(K:ZB)(ta:TE)(f:Str):TE:=fun σ H Q=>ta σ H fun x H1=>∃a C dx fs v,x=.ref a/\H1 a=some (.ins C dx fs)/\Cls K C/\NoAttr K C f/\fs.lookup f=some v/\Q v H1
def OD(K:ZB)(ta tv:TE)(f:Str):TS:=fun D σ H=>tv σ H fun y H1=>ta σ H1 fun x H2=>∃a C dx fs,x=.ref a/\H2 a=some (.ins C dx fs)/\Cls K C/\NoAttr K C f/\fs.length<1000 /\
 D.nx σ (upd H2 a (.ins C dx (jV f y fs)))
section
variable {f:Str} {pos:Pos} {tv:TE}
def w8(p:PE X e ta)(r:attributeBase e f X.env (eval e X.env)=eval e X.env):PE X (.Attribute e f pos) (OB X.K ta f):=by
 intro Q0 s σ H Q I h;refine IV r (dh (p Q0 s σ H _ I h) fun{u G x H1} z j o=>?_)
 obtain⟨a,C,dx,fs,v,ex,t,c,n,l,q⟩:=o;subst ex;obtain rfl:u=Value.ref a:=j;exact xx z t c n l fun B D y m=>⟨v,H1,y,m,q⟩
def Ky(G:PE X o ta)(z:PE X X1 tv)(B:swapsWith X1 (some (.Attribute o f X2)) pos.line X.env=pure false):PS X (.Assign [.Attribute o f X2] X1 pos) (OD X.K ta tv f):=by
 intro Q0 s σ H D I h;refine plainObj_wpAny_Assign_Attribute (dh (z Q0 s σ H _ I h) fun{u m y H1} Q p q=>dh (G Q0 m σ H1 _ Q q) fun{v U x H2} O r j=>?_) B
 obtain⟨a,C,dx,fs,ex,J,c,n,l,t⟩:=j;subst ex;obtain rfl:v=Value.ref a:=r;exact wR O J c n l p fun S L=>⟨σ,_,L,t⟩
end
section
variable {E:Yc->Yd->Prop} {c:Yc} {b:Bool}
inductive o0(K:ZB)(H:Hp):V->Value->Prop where
 |non:o0 K H .non (.type "NoneType")
 |bl (x:Bool):o0 K H (.bl x) (.type "bool")
 |int (i:Int):o0 K H (.int i) (.type "int")
 |str (x:Str):o0 K H (.str x) (.type "str")
 |flt (x:UInt64):o0 K H (.flt x) (.type "float")
 |lst {a:Addr} {xs:List V} (e:H a=some (.lst xs)):o0 K H (.ref a) (.type "list")
 |frz {a:Addr} {o:Obj} {xs:List V} (e:H a=some (.frz o (.lst xs))):o0 K H (.ref a) (.type "list")
 |tup {a:Addr} {xs:List V} (e:H a=some (.tup xs)):o0 K H (.ref a) (.type "tuple")
 |dK {a:Addr} {X3:List (Key×V)} (e:H a=some (.dK X3)):o0 K H (.ref a) (.type "dict")
 |dT {a:Addr} {X3:List (List Key×V)} (e:H a=some (.dT X3)):o0 K H (.ref a) (.type "dict")
 |ins {a C dx:Addr} {fs:List (Str×V)} (e:H a=some (.ins C dx fs)) (cl:Cls K C) (ha:W.findIn K (.ref C) "__class__" = some (some (.builtin "object.__class__")))
  (hn:W.specialIn K (.builtin "object.__class__") "__get__" = some (some (.builtin "getset_descriptor.__get__"))) (htk:W.takesIn K (.builtin "object.__class__")=some true)
  (hm:W.mroIn K C (.type "object")=some true):o0 K H (.ref a) (.ref C)
def A8{x}{t}(I:Inv X Q0 σ H s)(f:RelV x u)(m:o0 X.K H x t)(e:W.kitOne X.K t c=some b)(h:∀tk,Q (.bool b) { s with toks:=tk }) :
 wpAny (model X.prog X.w) A (call (.builtin "isinstance") [u,c]) Q E s:=by
 cases m with
 |non=>cases(f);exact W.kia_one W.kitx_none I.kIn True.intro e (fun z=>nomatch z) h
 |bl y=>cases(f);exact W.kia_one W.kitx_bool I.kIn True.intro e (fun z=>nomatch z) h
 |int i=>obtain⟨t,q⟩:=(f);cases q;exact W.kia_one W.kitx_int I.kIn True.intro e (fun z=>nomatch z) h
 |str y=>obtain⟨t,q⟩:=(f);cases q;exact W.kia_one W.kitx_str I.kIn True.intro e (fun z=>nomatch z) h
 |flt y=>obtain⟨t,q⟩:=(f);cases q;exact W.kia_one W.kitx_float I.kIn True.intro e (fun z=>nomatch z) h
 |@lst a xs j =>cases(f);obtain⟨_,_,n,_,h1⟩:=(I.hok a _ j);exact W.kia_one W.kitx_list I.kIn ⟨_,h1,rfl⟩ e (fun z=>nomatch z) h
 |@frz a D xs j =>cases(f);obtain⟨_,_,_,n,_,h1⟩:=(I.hok a _ j);exact W.kia_one W.kitx_list I.kIn ⟨_,h1,rfl⟩ e (fun z=>nomatch z) h
 |@tup a xs j =>cases(f);obtain⟨_,_,_,p⟩:=(I.hok a _ j);obtain⟨o,h1,h2,_⟩:=p;exact W.kia_one W.kitx_tuple I.kIn ⟨o,h1,h2⟩ e (fun z=>nomatch z) h
 |@dK a X3 j =>cases(f);obtain⟨_,_,vs,_,p⟩:=(I.hok a _ j);obtain⟨o,es,ep,h1,h2,_⟩:=p;exact W.kia_one W.kitx_dict I.kIn ⟨o,h1,h2.1⟩ e (fun z=>nomatch z) h
 |@dT a X3 j =>cases(f);obtain⟨_,_,xs,_,o,es,ep,h1,h2,_⟩:=(I.hok a _ j);exact W.kia_one W.kitx_dict I.kIn ⟨o,h1,h2.1⟩ e (fun z=>nomatch z) h
 |@ins a C dx fs j cl B r l v =>cases(f);obtain⟨mA,O,_⟩:=pp I.hok j;obtain⟨od,J,_⟩:=O.look;exact W.kia_one (W.kitx_own (cl.get _) cl.hd B r l v) I.kIn J e (fun z=>nomatch z) h
end
structure Room(k:Nat)(A:Around):Prop where
 hd:A.handled=none
 dp:A.depth+3*k+5<recursionLimit
 un:A.units+16*k+200<cLine
theorem Room.mono(r:Room k A)(h:j<=k):Room j A:=⟨r.hd,by have:=r.dp;lia,by have:=r.un;lia⟩
theorem Room.deeper(r:Room (k+1) A)(env):Room k (A.deeper env) :=
 ⟨r.hd,by have:=r.dp;show A.depth+1+3*k+5<_;lia,by have:=r.un;show A.units+3+16*k+200<_;lia⟩
theorem xo:(A.under (.builtin "type.__call__" ⟨.ref C::us,kw⟩)).depth=A.depth+1:=by first|rfl|simp[Code.weight]
theorem xn:(A.under (.builtin "type.__call__" ⟨.ref C::us,kw⟩)).units=A.units+1:=by first|rfl|simp[Code.cUnits]
theorem Room.make (r:Room (k+1) A) (C) (us) (kw:Yh (Str×Yc)):Room k (A.under (.builtin "type.__call__" ⟨.ref C::us,kw⟩)) :=
 ⟨r.hd,by have:=r.dp;rw[xo];lia,by have:=r.un;rw[xn];lia⟩
theorem Room.depth(r:Room k A):A.depth<recursionLimit:=by have:=r.dp;lia
theorem Room.units(r:Room k A):A.units+64<cLine:=by have:=r.un;lia
def zZ:TA:=fun _ H Q=>Q [] H
def yr(ta:TE)(tr:TA):TA:=fun σ H Q=>ta σ H fun x H1=>tr σ H1 fun xs H2=>Q (x::xs) H2
section
variable {pos:Pos}
def gh:PA X [] zZ:=fun _ _ _ _ H Q I h=>Calls.spliced_nil ⟨[],H,I,.nil,h⟩
def cD(r:PE X e te)(q:PA X es t)(p:starEach (e::es) X.env=(false,eval e X.env)::starEach es X.env:=by rfl):PA X (e::es) (yr te t):=by
 intro pos Q0 s σ H Q I h;rw[p];refine Calls.spliced_cons (dh (r Q0 s σ H _ I h) fun{u f x H1} y l o=>?_)
 exact pI (q pos Q0 f σ H1 _ y o) fun{us z xs H2} v j m=>⟨x::xs,H2,v,.cons l j,m⟩
def Ot(t:TA):TE:=fun σ H Q=>t σ H fun xs H1=>xs.length<=sizeLine/\∀p,H1 p=none->Q (.ref p) (upd H1 p (.tup xs))
def Oy(t:TA):TE:=fun σ H Q=>t σ H fun xs H1=>xs.length<=sizeLine/\∀p,H1 p=none->Q (.ref p) (upd H1 p (.lst xs))
def DK{x1}(h:PA X es t):PE X (.Tuple es x1 pos) (Ot t):=by
 intro Q0 s σ H Q I l;refine wpAny_Tuple_spliced (pI (h pos Q0 s σ H _ I l) fun{us f xs H1} j r h=>h.elim fun z q=>⟨by rw[<- r.length];exact z,?_⟩)
 have m:=j.hok.fresh (ZM _);refine⟨.ref f.heap.objs.size,upd H1 f.heap.objs.size (.tup xs),j.laid (fun b u e=>ZT _ e) (ZM _) ?_,rfl,q _ m⟩
 exact⟨z,us,r,⟨_,ZX _ rfl,rfl,_,rfl⟩⟩
def DM(h:PA X es t):PE X (.List es pos) (Oy t):=by
 intro Q0 s σ H Q I l;refine wpAny_List_spliced (pI (h pos Q0 s σ H _ I l) fun{us f xs H1} j r h=>h.elim fun z q=>⟨by rw[<- r.length];exact z,?_⟩)
 have m:=j.hok.fresh (ZM _);refine⟨.ref f.heap.objs.size,upd H1 f.heap.objs.size (.lst xs),j.laid (fun b u e=>ZT _ e) (ZM _) ?_,rfl,q _ m⟩
 exact⟨z,us,0,r,ZX _ rfl⟩
end
abbrev Sp:=List V->Hp->VK->XK->Prop
abbrev CXT:=List Env->Hp->Shared->XK->Value->Shared->Prop
structure Env0(P:Program)(w:World)(K:ZB)(mg:Str->Option Value)(base:Heap)(A:Around)(outer:List Env)(s:Shared)(H:Hp):Prop where
 frames:A.frames=some outer
 mod:Mod K mg base
 bs:∀b o,base.get? b=some o->s.heap.get? b=some o/\H b=none
 bsz:base.objs.size<=s.heap.objs.size
 funs:s.heap.FunFrames base outer
 frf:∀b∈frs outer,H b=none
 hok:HOk P w H s.heap
 bare:AllBare s.gens
def CE(outer:List Env)(P:Program)(w:World)(H:Hp)(s:Shared)(Q:VK)(u:Value)(s':Shared):Prop :=
 ∃v H',s'.os=s.os/\AllBare s'.gens/\Un (frs outer) [] H H' s.heap s'.heap/\HOk P w H' s'.heap/\RelV v u/\Q v H'
def CR(CX:CXT)(outer:List Env)(P:Program)(w:World)(H:Hp)(s:Shared)(Q:VK)(E:XK)(r:Result)(s':Shared):Prop :=
 match r with
 |.ok (.ret u)=>CE outer P w H s Q u s'
 |.ok _=>False
 |.error e=>CX outer H s E e s'
structure i8(P:Program)(w:World)(K:ZB)(mg:Str->Option Value)(base:Heap)(CX:CXT)(k:Nat)(f:Addr)(fd:FuncData)(ps:List Str)(sp:Sp):Prop where
 len:∀vs H Q E,sp vs H Q E->vs.length=ps.length
 run:∀(A:Around)(outer:List Env)(s:Shared)(H:Hp)(args:Args)(us:List Value)(vs:List V)(Q:VK)(E:XK),Room k A->Env0 P w K mg base A outer s H->BindsTo s fd args (ps.zip us)->Vals vs us->sp vs H Q E ->
  codeAny (model P w) A (.call (.ref f) args) (CR CX outer P w H s Q E) s
def Env0.make(e:Env0 P w K mg base A outer s H)(C) (us) (kw:Yh (Str×Yc)) :
 Env0 P w K mg base (A.under (.builtin "type.__call__" ⟨.ref C::us,kw⟩)) outer s H:=⟨by first|exact e.frames|(simpa[Around.under,Code.envs,Code.isFrame,pushEnvs]using e.frames),e.mod,e.bs,e.bsz,e.funs,e.frf,e.hok,e.bare⟩
section
def Inv.env0(I:Inv X Q0 σ H s):Env0 X.prog X.w X.K X.mg X.base X.A X.stack s H :=
 ⟨I.ok.frames,I.ok.mod,I.bs,ZZ I.ok.bsz I.sz,I.stack,I.stkFree,I.hok,I.bare⟩
def Inv.after{Q}(I:Inv X Q0 σ H s)(h:CE X.stack X.prog X.w H s Q u s'):EP X Q0 σ Q u s':=by obtain⟨v,H',l,bare,un,j,r,q⟩:=h;obtain⟨m,g,d,t,f⟩:=s';obtain rfl:f=s.os:=l;exact⟨v,H',I.call un j bare (fun b z=>absurd z (by simp)),r,q⟩
end
def MN(sp:Sp)(X9:List V)(E:XK)(t:TA):TE:=fun σ H Q=>t σ H fun vs H1=>sp (vs++X9) H1 Q E
def Jd(C:Addr)(m:Str)(sp:Sp)(X9:List V)(E:XK)(ta:TE)(t:TA):TE:=fun σ H Q=>ta σ H fun x H1=>∃a dx fs,x=.ref a/\H1 a=some (.ins C dx fs)/\fs.lookup m=none /\
 t σ H1 fun vs H2=>sp (x::(vs++X9)) H2 Q E
def Je(C:Addr)(sp:Sp)(X9:List V)(E:XK)(t:TA):TE:=fun σ H Q=>t σ H fun vs H1=>∀x dx,H1 x=none->H1 dx=none->dx≠x ->
 sp (.ref x::(vs++X9)) (upd (upd H1 dx (.own x)) x (.ins C dx [])) (fun v H2=>v=.non/\Q (.ref x) H2) E
def Binds(K:ZB)(fd:FuncData)(ps:List Str)(ds:List Value):Prop :=
 ∀(s:Shared)(us:List Value),K.In s.heap->(us++ds).length=ps.length->BindsTo s fd ⟨us,[]⟩ (ps.zip (us++ds))
def Binds.all(h:∀us:Yh Yc,us.length=ps.length->bindArgs fd ⟨us,[]⟩=pure (ps.zip us)):Binds K fd ps []:=fun s us _ f=>by rw[Zk]at f ⊢;exact .of_eq (h us f)
def ky(CX:CXT)(X:Cx)(E:XK):Prop:=∀(Q0:List (Addr×Obj))(σ:St)(H:Hp)(s:Shared)(e:Value)(s':Shared),Inv X Q0 σ H s->CX X.stack H s E e s'->X.xe e s'
section
variable {f:Ye} {E:XK} {pos:Pos} 
def wS{Q}{vs}(F:i8 X.prog X.w X.K X.mg X.base CX k f fd ps sp)(o:Room k X.A)(t:Binds X.K fd ps ds)(q:Vals X9 ds)(m:ky CX X E)
 (I:Inv X Q0 σ H s) (r:Vals vs us) (h:sp (vs++X9) H Q E):wpAny (model X.prog X.w) X.A (call (.ref f) us) (EP X Q0 σ Q) X.xe s:=by
 have l:=r.append q;have p:(us++ds).length=ps.length:=by rw[<- l.length];exact F.len _ _ _ _ h
 refine wpAny_call (codeAny_mono (F.run X.A X.stack s H ⟨us,[]⟩ (us++ds) (vs++X9) Q E o I.env0 (t s us I.kIn p) l h) fun r s' j=>?_)
 cases r with
 |error e=>exact m Q0 σ H s e s' I j
 |ok fl =>
  cases fl with
  |ret u=>exact I.after j
  |next=>exact Zzb j
  |brk=>exact Zzb j
  |cont=>exact Zzb j
def mM(F:i8 X.prog X.w X.K X.mg X.base CX k f fd ps sp)(u:Room k X.A)(y:Gl X x)(v:X.mg x=some (.ref f))(hk:W.keepIn X.K (.ref f)=true)(C:Binds X.K fd ps ds)(B:Vals X9 ds)(o:ky CX X E)
 (D:PA X (e::es) t) (l:(x==("__debug__":Str))=false:=by decide) (z:starEach (e::es) X.env=(false,eval e X.env)::starEach es X.env:=by rfl) (j:(backTo pos (starEach es X.env)).any (·.1)=false:=by rfl) :
 PE X (.Call (.Name x p) (e::es) [] pos) (MN sp X9 E t):=by
 intro Q0 s σ H Q I h;refine wpAny_Call_Name_kw (ph I y v ?_ l);refine W.callWith_K I.ok.mod.kin hk (pI (D pos Q0 s σ H _ I h) fun{us G vs H1} m r q=>⟨m.kIn,?_⟩) z j
 exact wS F u C B o m r q
def yS(V:PE X o ta)(c:Cls X.K C)(y:BM X.K C m f)(F:i8 X.prog X.w X.K X.mg X.base CX k f fd ps sp)(U:Room k X.A)(Z:Binds X.K fd ps ds)(Y:Vals X9 ds)(O:ky CX X E)(ha:PA X (e::es) t)
 (j:starEach (e::es) X.env=(false,eval e X.env)::starEach es X.env:=by rfl) (p:(backTo pos (starEach es X.env)).any (·.1)=false:=by rfl)
 (S:eval (.Call (.Attribute o m Q8) (e :: es) [] pos) X.env=(do
  let v <- eval o X.env
  standAt Q8.atName
  let (f,first) <- holding [v] (getMethod v m pl)
  callWith pos f first (backTo pos (starEach (e::es) X.env)) (backToKw pos (keywordEach [] X.env))):=by rfl) :
 PE X (.Call (.Attribute o m Q8) (e::es) [] pos) (Jd C m sp X9 E ta t):=by
 intro Q0 s σ H Q I h;refine W.methodCall_KW (dh (V Q0 s σ H _ I h) fun{u D x H1} B G L=>?_) S
 obtain⟨a,dx,fs,ex,ea,l,q⟩:=L;subst ex;obtain rfl:u=Value.ref a:=G;refine qD B ea c y l ?_;refine W.callWith_K I.ok.mod.kin y.kp (pI (ha pos Q0 D σ H1 _ B q) fun{us s2 vs H2} z r J=>⟨z.kIn,?_⟩) j p
 exact wS (vs:=.ref a::vs) F U Z Y O z (.cons rfl r) J
def qb(D:PE X o ta)(c:Cls X.K C)(r:BM X.K C m f)(F:i8 X.prog X.w X.K X.mg X.base CX k f fd ps sp)(B:Room k X.A)(J:Binds X.K fd ps ds)(G:Vals X9 ds)(y:ky CX X E)
 (z:eval (.Call (.Attribute o m Q8) [] [] pos) X.env=(do
  let p <- eval o X.env
  standAt Q8.atName
  let (f,first) <- holding [p] (getMethod p m pl)
  callWith pos f first (backTo pos (starEach [] X.env)) (backToKw pos (keywordEach [] X.env))):=by rfl) :
 PE X (.Call (.Attribute o m Q8) [] [] pos) (Jd C m sp X9 E ta zZ):=by
 intro Q0 s σ H Q I h;refine W.methodCall_KW (dh (D Q0 s σ H _ I h) fun{u O x H1} j t v=>?_) z
 obtain⟨a,dx,fs,ex,L,l,q⟩:=v;subst ex;obtain rfl:u=Value.ref a:=t;refine qD j L c r l ?_;exact W.callWith_K0 j.kIn r.kp (wS (vs:=[.ref a]) F B J G y j (.cons rfl .nil) q)
structure Mk(K:ZB)(C f:Addr):Prop where
 makes:W.makesIn K C=true
 init:W.findIn K (.ref C) "__init__" = some (some (.ref f))
 fn:W.isFn K (.ref f)=true
 kp:W.keepIn K (.ref C)=true
def u3{Q}{vs}(M:Mk X.K C f)(F:i8 X.prog X.w X.K X.mg X.base CX k f fd ps sp)(y:Room (k+1) X.A)(D:Binds X.K fd ps ds)(B:Vals X9 ds)
 (t:ky CX X E) (I:Inv X Q0 σ H s) (r:Vals vs us)
 (h:∀x dx,H x=none->H dx=none->dx≠x->sp (.ref x::(vs++X9)) (upd (upd H dx (.own x)) x (.ins C dx [])) (fun v H2=>v=.non/\Q (.ref x) H2) E) :
 wpAny (model X.prog X.w) X.A (call (.ref C) us) (EP X Q0 σ Q) X.xe s:=by
 have o:=h (s.heap.objs.size+1) s.heap.objs.size (I.hok.fresh (Nat.le_succ _)) (I.hok.fresh (ZM _)) (ZJ (Nat.lt_succ_self _));have l:=Inv.made (C:=C) I;have m:Vals (V.ref (s.heap.objs.size+1)::(vs++X9)) (Value.ref (s.heap.objs.size+1)::(us++ds)):=.cons rfl (r.append B);have z:(Value.ref (s.heap.objs.size+1)::us++ds).length=ps.length:=by have e:=m.length;rw[F.len _ _ _ _ o]at e;exact e.symm
 refine wpAny_call (Ee I.kIn M.makes M.init (beq_iff_eq.mp M.fn) (codeAny_mono (F.run _ X.stack _ _ ⟨Value.ref (s.heap.objs.size+1)::us,[]⟩ (Value.ref (s.heap.objs.size+1)::(us++ds)) _ _ E (y.make C us [])
  (l.env0.make C us []) (D _ (Value.ref (s.heap.objs.size+1)::us) l.kIn z) m o) fun r s' j=>?_))
 cases r with
 |error e=>exact t Q0 σ _ _ e s' l j
 |ok fl =>
  cases fl with
  |ret u =>obtain⟨v,H',J,p,G,q⟩:=l.after j;subst G;exact⟨p,⟨V.ref (s.heap.objs.size+1),H',J,rfl,q⟩⟩
  |next=>exact Zzb j
  |brk=>exact Zzb j
  |cont=>exact Zzb j
def Hm(M:Mk X.K C f)(F:i8 X.prog X.w X.K X.mg X.base CX k f fd ps sp)(u:Room (k+1) X.A)(y:Gl X x)(v:X.mg x=some (.ref C))(D:Binds X.K fd ps ds)(B:Vals X9 ds)(o:ky CX X E)
 (G:PA X (e::es) t) (l:(x==("__debug__":Str))=false:=by decide) (z:starEach (e::es) X.env=(false,eval e X.env)::starEach es X.env:=by rfl) (j:(backTo pos (starEach es X.env)).any (·.1)=false:=by rfl) :
 PE X (.Call (.Name x p) (e::es) [] pos) (Je C sp X9 E t):=by
 intro Q0 s σ H Q I h;refine wpAny_Call_Name_kw (ph I y v ?_ l);refine W.callWith_K I.ok.mod.kin M.kp (pI (G pos Q0 s σ H _ I h) fun{us J vs H1} m r q=>⟨m.kIn,?_⟩) z j
 exact u3 M F u D B o m r q
def DL(M:Mk X.K C f)(F:i8 X.prog X.w X.K X.mg X.base CX k f fd ps sp)(m:Room (k+1) X.A)(q:Gl X x)(o:X.mg x=some (.ref C))(t:Binds X.K fd ps ds)(r:Vals X9 ds)(l:ky CX X E)
 (j:(x==("__debug__":Str))=false:=by decide):PE X (.Call (.Name x p) [] [] pos) (Je C sp X9 E zZ):=by
 intro Q0 s σ H Q I h;refine wpAny_Call_Name_kw (ph I q o ?_ j);exact W.callWith_K0 I.kIn M.kp (u3 M F m t r l I .nil h)
end
structure iN(N P:List Str)(sc:Scope):Prop where
 kind:sc.kind=.function
 co:sc.isCoroutine=false
 gen:sc.isGenerator=false
 nd:N.Nodup
 pre:N.take P.length=P
 par:∀x∈P,sc.names.lookup x=some .local\/sc.names.lookup x=some .cell
 nofree:∀y∈sc.names,y.2≠.free
theorem tz:∀{binds}{m},(∀v,(x,v)∉binds)->bindL kindOf binds m x=m x
 |[],_,_=>rfl
 | (n,v) :: r,m,h=>by
  unfold bindL;rw[tz fun w f=>h w (Zq _ f)]
  split
  . have:x ≠ n:=by rintro rfl;exact h v Zp
    simp[this]
  . rfl
theorem tE:∀{binds}{m},(∀v,(x,v)∉binds)->bindC kindOf binds m x=m x
 |[],_,_=>rfl
 | (n,v) :: r,m,h=>by
  unfold bindC;rw[tE fun w f=>h w (Zq _ f)]
  split
  . rfl
  . have:x ≠ n:=by rintro rfl;exact h v Zp
    simp[this]
theorem tD:∀{P:Yh Str}{vs}{i:Nat}{m},P.Nodup->P[i]?=some x->vs[i]?=some v->kindOf x=some .local ->
 bindL kindOf (P.zip vs) m x=some v
 |[],_,_,_,_,h,_,_=>by simp at h
 |_::_,[],_,_,_,_,h,_=>by simp at h
 |p::P,w::vs,0,m,nd,h1,h2,hk=>by
  simp at h1 h2;subst h1;subst h2;show bindL kindOf ((p,w)::P.zip vs) m p=_;unfold bindL;rw[tz fun v f=>(Z3.mp nd).1 (List.of_mem_zip f).1,if_pos hk]
  simp
 |p::P,w::vs,i+1,m,nd,h1,h2,hk=>by unfold bindL;exact tD (Z3.mp nd).2 (by simpa using h1) (by simpa using h2) hk
theorem tF:∀{P:Yh Str}{vs}{i:Nat}{m},P.Nodup->P[i]?=some x->vs[i]?=some v->kindOf x≠some .local ->
 bindC kindOf (P.zip vs) m x=some v
 |[],_,_,_,_,h,_,_=>by simp at h
 |_::_,[],_,_,_,_,h,_=>by simp at h
 |p::P,w::vs,0,m,nd,h1,h2,hk=>by
  simp at h1 h2;subst h1;subst h2;show bindC kindOf ((p,w)::P.zip vs) m p=_;unfold bindC;rw[tE fun v f=>(Z3.mp nd).1 (List.of_mem_zip f).1,if_neg hk]
  simp
 |p::P,w::vs,i+1,m,nd,h1,h2,hk=>by unfold bindC;exact tF (Z3.mp nd).2 (by simpa using h1) (by simpa using h2) hk
noncomputable def start(N:List Str)(vs:List V):St:=vs.map some++List.replicate (N.length-vs.length) none
noncomputable def qO(CX:CXT)(P:Program)(w:World)(K:ZB)(mg:Str->Option Value)(base:Heap)(N:List Str)(qual:Str)(scope:Scope)(f:Addr)(cd:Value)(A:Around)(outer:List Env)(s:Shared)(H:Hp)(E:XK):Cx where
 prog:=P
 w:=w
 K:=K
 mg:=mg
 base:=base
 A:=A.deeper (envOfC qual scope s.heap.objs.size f cd)
 N:=N
 s₀:=s
 H₀:=H
 env:=envOfC qual scope s.heap.objs.size f cd
 outer:=outer
 stack:=envOfC qual scope s.heap.objs.size f cd::outer
 ex:=[]
 calm:=true
 fn:=fun _=>true
 pn:=[]
 xe:=fun e s'=>wpAny (model P w) (A.deeper (envOfC qual scope s.heap.objs.size f cd)) (leaving (envOfC qual scope s.heap.objs.size f cd) e) (fun _ s''=>CX outer H s E e s'') (fun e' s''=>CX outer H s E e' s'') s'
def wl{f:Scope}(h:f.names.lookup x=some .cell):∃c,(cellsFrom n f.names []).lookup x=some c:=by have q:=W.cellsFrom_some f.names n [] (.inl h);exact Option.isSome_iff_exists.mp q
theorem A9{f:Ye}{cd}{s1}{E:XK}{vs}
 (S:iN N ps scope) (G:A.handled=none) (j:Env0 P w K mg base A outer s H) (J:vs.length=ps.length) (r:Vals vs us)
 (x:InCallC s s.heap.objs.size (bindL (envOfC qual scope s.heap.objs.size f cd).kindOf (ps.zip us) fun _=>none) (cellsFrom (s.heap.objs.size+1) scope.names []) (bindC (envOfC qual scope s.heap.objs.size f cd).kindOf (ps.zip us) fun _=>none) s1) :
 Inv (qO CX P w K mg base N qual scope f cd A outer s H E) [] (start N vs) H s1:=by
 have D:ps.length<=N.length:=by have:=congrArg List.length S.pre;rw[List.length_take]at this;lia
 obtain⟨h1,tk,rfl,hk⟩:=x.done;have l:∀b,b∉(qO CX P w K mg base N qual scope f cd A outer s H E).ex:=fun b z=>absurd (show b∈([]:Yh Ye)from z) (by simp)
 refine⟨⟨j.mod,S.kind,rfl,rfl,ZM _,fun y z c h1 h2=>?_,fun y m=>?_,fun y c _ h=>?_,fun _=>G,Around.frames_deeper j.frames,.inr ⟨rfl,rfl⟩,fun b z=>absurd z (l b),j.bs,j.bsz,fun b _ _=>l b,fun b z=>absurd z (l b),j.funs,j.frf⟩,
  rfl,j.bare,Un.kept hk,⟨_,x.toInCall.ns,fun i y v h1 h2 L=>?_⟩,fun y c h=>⟨_,x.cell y c h⟩,j.hok.fresh (ZM _),fun y c h=>?_,fun p t=>absurd (show p∈([]:Yh (Ye×Obj))from t) (by simp),j.hok.kept hk,?_⟩
 . exact name_of_addr x.apart (PySem.mem_of_lookup h1) (PySem.mem_of_lookup h2)
 . have m:=m;rcases m with m | m
   . exact wl m
   . exact absurd rfl (S.nofree _ (PySem.mem_of_lookup m))
 . exact Nat.le_of_lt (x.above y c (PySem.mem_of_lookup h))
 . have hi:i < vs.length:=by
    unfold start at h2
    by_cases hi:i<vs.length
    . exact hi
    . rw [List.getElem?_append_right (by simpa using hi)] at h2
      rw[List.getElem?_replicate]at h2;split at h2<;>cases h2
   have I:vs[i]?=some v:=by
    unfold start at h2;rw[List.getElem?_append_left (by simpa using hi),List.getElem?_map]at h2
    cases e:vs[i]? with
    |none=>rw[e]at h2;cases h2
    |some a=>rw[e]at h2;cases h2;rfl
   obtain⟨u,B,C⟩:=r.get I;have t:ps[i]?=some y:=by rw[<- S.pre,List.getElem?_take_of_lt (by lia)];exact h1
   have o:ps.Nodup:=by rw[<- S.pre];exact S.nd.sublist (List.take_sublist _ _)
   refine⟨u,C,?_⟩;rcases S.par y (List.mem_of_getElem? t)with k|k
   . exact .inl ⟨k,tD o t B k⟩
   . obtain ⟨c,e⟩:=wl k;refine .inr ⟨.inl k,c,e,?_⟩;have q:=x.cell y c e;rw [tF o t B (by show scope.names.lookup y ≠ _;rw [k];decide)] at q
     exact q
 . exact j.hok.fresh (Nat.le_of_lt (x.above y c (PySem.mem_of_lookup h)))
 . unfold start;show _=N.length;rw [Zl,Zm,List.length_replicate]
   lia
def NU{f}{params}{dV kV ct} 
 (lk:K.lookup f=some ⟨oc,od,.func (W.fnOf name qual params body scope dV kV X5 pm an Q9 ct),osl⟩) (L:W.codeIn K Q9 qual=true) (S:iN N ps scope)
 (len:∀vs H Q E,sp vs H Q E->vs.length=ps.length)
 (m:∀ A outer s H vs Q E,Room k (A.deeper (envOfC qual scope s.heap.objs.size f Q9))->sp vs H Q E ->
  ∃t,PSs (qO CX P w K mg base N qual scope f Q9 A outer s H E) body t/\t { nx:=fun _ H'=>Q .non H',rt:=Q } (start N vs) H) :
 i8 P w K mg base CX (k+1) f (W.fnOf name qual params body scope dV kV X5 pm an Q9 ct) ps sp:=by
 refine⟨len,fun A outer s H args us vs Q E G B hb r z=>?_⟩
 have hl:=len _ _ _ _ z;have U:=B.mod.kin.keeps fun b o e=>(B.bs b o e).1
 have D:=B.mod.nolimit.keeps fun b o e=>(B.bs b o e).1
 have l:∀y∈ps.zip us,scope.names.lookup y.1=some .local\/(scope.names.lookup y.1=some .cell/\((cellsFrom (s.heap.objs.size+1) scope.names []).lookup y.1).isSome=true):=fun ⟨n,v⟩ X=>by
  rcases S.par n (List.of_mem_zip X).1 with q|q
  . exact .inl q
  . exact .inr ⟨q,W.cellsFrom_some _ _ _ (.inl q)⟩
 refine codeAny_call_function G.depth (U _ _ lk) rfl S.co S.gen rfl (W.codeRec_of U L) (hb _ _ _ _ ?_);refine wpAny_newFunctionEnv_cells S.kind l fun env he O x=>?_
 subst he;refine⟨D.keeps x.toInCall.keep,codeAny_func ?_⟩;obtain⟨t,Y,Z⟩:=m A outer s H vs Q E (G.deeper _) z;have I:Inv (qO CX P w K mg base N qual scope f Q9 A outer s H E) [] (start N vs) H O:=A9 S G.hd B hl r x;refine wpAny_mono (Y [] O (start N vs) H _ I Z) (fun fl s' p=>?_) fun e s' p=>p
 have Q4:∀{j}{H'}{v}{u},Inv (qO CX P w K mg base N qual scope f Q9 A outer s H E) [] j H' s'->RelV v u->Q v H'->CE outer P w H s Q u s' :=
  fun{j H' v u} J C q=>⟨v,H',J.os,J.bare,J.base,J.hok,C,q⟩
 cases fl with
 |ret u =>obtain⟨v,j,H',J,C,q⟩:=p;exact Q4 J C q
 |next =>obtain⟨j,H',J,q⟩:=p;exact Q4 (v:=V.non) J rfl q
 |brk =>obtain⟨_,_,_,q⟩:=p;exact Zzb q
 |cont =>obtain⟨_,_,_,q⟩:=p;exact Zzb q
variable {CX:CXT} {sp:Sp}
section
variable {pos:Pos} {id:String} 
def tCB(r:List V->Hp->VK->Prop)(t:TA):TE:=fun σ H Q=>t σ H fun vs H1=>r vs H1 Q
def qd (B:CallR X (.builtin id) r) (y:Gl X x) (v:X.mg x=none) (q:bootBuiltins x=some (.builtin id)) (C:PA X (e::es) t) (u:x≠"__name__":=by decide) (j:(x==("__debug__":Str))=false:=by decide)
 (z:starEach (e::es) X.env=(false,eval e X.env)::starEach es X.env:=by rfl) (f:(backTo pos (starEach es X.env)).any (·.1)=false:=by rfl):PE X (.Call (.Name x p) (e::es) [] pos) (tCB r t):=by
 intro Q0 s σ H Q I h;refine wpAny_Call_Name_kw (lU I y v q ?_ u j);exact PyProof.Rows.callWith_builtin1 (pI (C pos Q0 s σ H _ I h) fun{us l vs H1} D m o=>B Q0 l σ H1 vs us Q D m o) z f
def nO (B:CallR X (.type T) r) (y:Gl X x) (v:X.mg x=none) (q:bootBuiltins x=some (.type T)) (C:PA X (e::es) t) (u:x≠"__name__":=by decide) (j:(x==("__debug__":Str))=false:=by decide)
 (z:starEach (e::es) X.env=(false,eval e X.env)::starEach es X.env:=by rfl) (f:(backTo pos (starEach es X.env)).any (·.1)=false:=by rfl):PE X (.Call (.Name x p) (e::es) [] pos) (tCB r t):=by
 intro Q0 s σ H Q I h;refine wpAny_Call_Name_kw (lU I y v q ?_ u j);exact PyProof.Rows.callWith_type1 (pI (C pos Q0 s σ H _ I h) fun{us l vs H1} D m o=>B Q0 l σ H1 vs us Q D m o) z f
end
end L2
namespace HT
open PySem PyProof.Rows
variable {Q:Yc->Yd->Prop} {vl vu:Yc} {lo hi:Yg Int} {Q2:Array Yc}
section
open PySem.SeqAt
open PySem.AutoSeq1 (wpAny_loadPart')
open PySem.MeetsSeq PySem.MeetsSeq2 PySem.MeetsSeq3
end
section
variable {prog:Program} {w:World} {A:Around} {E:Yc->Yd->Prop} {s:Yd}
def cat_tup {t b} {vs ws} (C:IsTup s.heap t vs.toArray) (D:IsTup s.heap b ws.toArray) (x:vs ≠ [])
 (h1:ws=[]->Q (.ref t) s) (h2:ws≠[]->Q (.ref s.heap.objs.size) { s with heap:=s.heap.push { cls:=.type "tuple",data:=.seq (vs++ws).toArray } })
 (r:vs.length+ws.length<=sizeLine):wpAny (model prog w) A (binaryOp .Add (.ref t) (.ref b)) Q E s:=by
 obtain⟨⟨cls,dd,data,v⟩,q,z,n,y⟩:=id C;obtain⟨⟨B,o,u,j⟩,f,m,n2,l⟩:=id D;simp only at z y m l;subst z y m l;have e:vs.toArray++ws.toArray=(vs++ws).toArray:=by simp
 by_cases p:ws=[]
 . exact concat_meets ⟨_,q,rfl⟩ ⟨_,f,rfl⟩ noFill_tuple_add seq_tuple_add PySem.F.slot_tuple_add PySem.F.entry_tuple_add (PySem.F.args_tuple_add_2 _ _)
    (tuple_addW1 t b vs.toArray ws.toArray n n2 dd o v j (by simpa using x) (by simp[p])) ⟨q,f,h1 p⟩
 . refine concat_meets ⟨_,q,rfl⟩ ⟨_,f,rfl⟩ noFill_tuple_add seq_tuple_add PySem.F.slot_tuple_add PySem.F.entry_tuple_add (PySem.F.args_tuple_add_2 _ _)
    (tuple_addW2 t b vs.toArray ws.toArray n n2 dd o v j (by simpa using x) (by simpa using p) (by rw[ZG,ZG];exact r)) ⟨q,f,?_⟩
   rw[e];exact h2 p
noncomputable def sIx(n d:Nat):Option Int->Nat
 |none=>d
 |some v=>if v<0 then(v+(n:Int)).toNat else min v.toNat n
theorem J3(n d) (j:d<=n) (o):sIx n d o<=n:=by
 cases o with
 |none=>exact j
 |some v =>
  show(if v<0 then(v+(n:Int)).toNat else min v.toNat n)<=n
  by_cases f:v<0
  . rw[if_pos f];lia
  . rw[if_neg f];exact Nat.min_le_right _ _
theorem zK(v) (n d:Nat):(if v<0 then max (v+(n:Int)) 0 else min v (n:Int))=((sIx n d (some v):Nat):Int):=by
 show(if v<0 then max (v+(n:Int)) 0 else min v (n:Int))=(((if v<0 then(v+(n:Int)).toNat else min v.toNat n):Nat):Int)
 by_cases f:v<0
 . simp only[if_pos f];lia
 . simp only[if_neg f];lia
theorem ye(lo hi) (n:Nat):Builtin.Slice.sliceAdjust lo hi 1 (n:Int)=(((sIx n 0 lo:Nat):Int),((sIx n n hi:Nat):Int)):=by
 have h1:¬((1:Int)<0):=by lia
 unfold Builtin.Slice.sliceAdjust;simp only[Z9];refine Prod.ext ?_ ?_
 . cases lo with
   |none=>rfl
   |some v=>exact zK v n 0
 . cases hi with
   |none=>rfl
   |some v=>exact zK v n n
theorem w6(i j:Nat):Builtin.Slice.slicePlaces (i:Int) (j:Int) 1=j-i:=by
 unfold Builtin.Slice.slicePlaces;have h1:(1:Int)>0:=by lia
 simp only[Z8,Int.ediv_one];split<;>lia
def pR{v}{o}{Q:Yg Int->Yd->Prop}(p:IsPart v o)(h:Q o s):wpAny (model prog w) A (Builtin.Slice.slicePartIndex v) Q E s:=by
 cases p with
 |none=>exact slicePart_none h
 |int i t=>exact slicePart_int h
def nH{sl}{n}{Q:Int×Int×Nat->Yd->Prop}(l:s.heap.IsSliceOf sl vl vu .none)(pl:IsPart vl lo)(pu:IsPart vu hi)
 (h:Q (((sIx n 0 lo:Nat):Int),1,sIx n n hi-sIx n 0 lo) s):wpAny (model prog w) A (Builtin.Slice.sliceApplied (.ref sl) (pure (n:Int))) Q E s:=by
 obtain⟨o,f,m,j⟩:=id l;unfold Builtin.Slice.sliceApplied Builtin.Slice.sliceFields;refine Z4 (Z4 (wpAny_field f j rfl (Z4 (wpAny_field f j rfl (Z4 (wpAny_field f j rfl (Z5 ?_)))))));refine Z4 (slicePart_none ?_);rw[if_neg (by decide)]
 refine Z4 (pR pl (Z4 (pR pu (Z4 (Z5 ?_)))));show wpAny _ _ (match Builtin.Slice.sliceAdjust lo hi 1 (n:Int)with|(lo,hi)=>pure (lo,(1:Int),Builtin.Slice.slicePlaces lo hi 1)) _ _ s
 rw[ye lo hi n];show wpAny _ _ (pure (((sIx n 0 lo:Nat):Int),(1:Int),Builtin.Slice.slicePlaces ((sIx n 0 lo:Nat):Int) ((sIx n n hi:Nat):Int) 1)) _ _ s;rw[w6];exact Z5 h
theorem DH(xs:Array Yc)(i k:Nat):((List.range k).filterMap fun(m:Nat)=>xs[((i:Int)+(m:Int)*1).toNat]?).toArray=((xs.toList.drop i).take k).toArray:=by
 have e:(fun(m:Nat)=>xs[((i:Int)+(m:Int)*1).toNat]?)=fun m=>xs[i+m]?:=by
  funext m
  have:((i:Int)+(m:Int)*1).toNat=i+m:=by lia
  rw[this]
 rw[e];have:=pick_run xs i k;rw[List.filterMap_map]at this;have f:((fun x=>xs[x]?)∘fun x=>i+x)=fun m=>xs[i+m]?:=rfl
 rw[f]at this;rw[this]
theorem getItem_tuple_cut{t sl}(j:IsTup s.heap t Q2)(r:s.heap.IsSliceOf sl vl vu .none)(pl:IsPart vl lo)(pu:IsPart vu hi)
 (v:¬(sIx Q2.size 0 lo=0/\sIx Q2.size Q2.size hi=Q2.size))
 (h:Q (.ref s.heap.objs.size) { s with heap:=s.heap.push { cls:=.type "tuple",data:=.seq ((Q2.toList.drop (sIx Q2.size 0 lo)).take (sIx Q2.size Q2.size hi-sIx Q2.size 0 lo)).toArray } })
 (x:Q2.size<=sizeLine):wpAny (model prog w) A (getItem (.ref t) (.ref sl)) Q E s:=by
 have f:sizeOk (.seq ((Q2.toList.drop (sIx Q2.size 0 lo)).take (sIx Q2.size Q2.size hi-sIx Q2.size 0 lo)).toArray):=by
  show((Q2.toList.drop (sIx Q2.size 0 lo)).take (sIx Q2.size Q2.size hi-sIx Q2.size 0 lo)).toArray.size<=sizeLine;rw[ZG,List.length_take,List.length_drop,Array.length_toList]
  lia
 have C:sIx Q2.size Q2.size hi<=Q2.size:=J3 _ _ (ZM _) hi;obtain⟨u,l,o,y⟩:=id r;have p:s.TypeIs (.ref sl) "slice":=⟨u,l,o⟩;unfold getItem
 try with_reducible refine wpAny_holding ?_
 first|refine Z4 (Z5 ?_)|skip
 refine Z4 (wpAny_sequenceKey j.typeIs (by decide) ?_)
 refine Z4 (wpAny_callSpecial?_slot j.typeIs PyProof.Rows.slot_tuple_getitem
  (wpAny_call_entry PyProof.Rows.slot_tuple_getitem j.typeIs entry_tuple_getitem ?_ (args_tuple_getitem _ _)))
 show wpAny _ _ (Builtin.Tuple.tupleItemsOf (.ref t) >>= _) _ _ s;refine Z4 (tupleItemsOf_ j ?_);refine Z4 (wpAny_typeOf p ?_);rw[if_pos (by decide)]
 refine Z4 (nH r pl pu ?_);have m:¬((((sIx Q2.size 0 lo:Nat):Int)==0&&(1:Int)==1&&(sIx Q2.size Q2.size hi-sIx Q2.size 0 lo)==Q2.size)=true):=by intro q;rw[ZN,ZN]at q;have B:=eq_of_beq q.1.1;have z:=eq_of_beq q.2;exact v ⟨by lia,by lia⟩
 show wpAny _ _ (if(((sIx Q2.size 0 lo:Nat):Int)==0&&(1:Int)==1&&(sIx Q2.size Q2.size hi-sIx Q2.size 0 lo)==Q2.size)=true then _ else _) _ _ s
 rw[if_neg m,DH]
 first
  |exact Z4 (wpAny_newObj_type (Z5 ⟨_,rfl,Z5 h⟩) f)
  |exact Z4 (wpAny_newObj_type (Z4 (Z5 (Z5 ⟨_,rfl,Z5 h⟩))) f)
  |exact Z4 (Z4 (wpAny_newObj_type (Z5 (Z5 ⟨_,rfl,Z5 h⟩)) f))
  |exact Z4 (Z4 (wpAny_newObj_type (Z5 ⟨_,rfl,Z5 h⟩) f))
end
end HT
namespace L2
open PySem PySem.Spec PyProof.Rows
variable {us vs ds Q1 X7:Yh Yc} {x name m qual:Str} {u v X5 pm Q9 oc:Yc} {H H':Hp} {a b C dx:Ye} {o e c tg X1:Expr} {P prog:Program} {w:World} {h h' base:Heap} {fs':Yh (Str×V)} {ex ex' ch fp:Yh Ye} {X:Cx} {Q0 pins':Yh (Ye×Obj)} {σ:St} {s s':Yd} {g':Array GenState} {t' i j k n:Nat} {d':Drawn} {N ps ks:Yh Str} {M:Model} {A:Around} {Q:Yc->Yd->Prop} {t:TA} {ta te tc:TE} {y:V} {ys X9:Yh V} {K:ZB} {f:Yc->Yc->Sem Yc} {st:Stmt} {es:Yh Expr} {X2 p tpos Q8:Pos} {body:Yh Stmt} {l:W.OpenLaw} {R:Result->Yd->Prop} {lo hi:Yg Expr} {pl:Sem Bool} {op op':CmpOp} {r r':Yh V->Hp->VK->Prop} {mA mg mb:Str->Yg Yc} {kw:Yh (Str×Yc)} {outer:Yh Env} {fd:FuncData} {CX:CXT} {sp:Sp} {kws:Yh Keyword} {nm:Yg Str} {gV:Yh V->Yh V->Yh V} {kindOf:Str->Yg NameKind} {scope:Scope} {an od:Yg Ye} {osl:Array (Yg Yc)} {T:String} {XP:(Str->Yg Yc)->Heap->Prop} {YP:World->Heap->Prop} {X3:Yh (Key×V)}
abbrev TO:=St->Hp->(Option Int->Hp->Prop)->Prop
def PO(X:Cx)(e:Option Expr)(t:TO):Prop :=
 ∀(Q0:List (Addr×Obj))(s:Shared)(σ:St)(H:Hp)(Q:Option Int->Hp->Prop),Inv X Q0 σ H s->t σ H Q ->
  wpAny (model X.prog X.w) X.A (evalPart e X.env) (fun u s'=>∃o H',Inv X Q0 σ H' s'/\IsPart u o/\Q o H') X.xe s
def Gd:TO:=fun _ H Q=>Q none H
def MJ(t:TE):TO:=fun σ H Q=>t σ H fun x H1=>∃i,x=.int i/\Q (some i) H1
section
variable {tl th:TO} {pos p2:Pos}
def G8:PO X none Gd:=by intro Q0 s σ H Q I h;rw[evalPart_none];exact Z5 ⟨none,H,I,.none,h⟩
def G7(h:PE X e te):PO X (some e) (MJ te):=by
 intro Q0 s σ H Q I l;rw[evalPart_some];refine dh (h Q0 s σ H _ I l) fun{u o x H1} m f j=>?_
 obtain⟨i,rfl,q⟩:=j;obtain⟨t,rfl⟩:=f;exact⟨some i,H1,m,.int i t,q⟩
def SlR(X:Cx)(r:V->Option Int->Option Int->Hp->VK->Prop):Prop :=
 ∀(Q0:List (Addr×Obj))(s:Shared)(σ:St)(H:Hp)(x:V)(v vl vu:Value)(lo hi:Option Int)(sl:Addr)(Q:VK),Inv X Q0 σ H s->RelV x v->s.heap.IsSliceOf sl vl vu .none->IsPart vl lo->IsPart vu hi->r x lo hi H Q ->
  ∃T id,typeLookup (.type T) "__getitem__" = pure (some (.builtin id))/\s.TypeIs v T/\wpAny (model X.prog X.w) X.A (getItem v (.ref sl)) (EP X Q0 σ Q) X.xe s
def tSl(r:V->Option Int->Option Int->Hp->VK->Prop)(te:TE)(tl th:TO):TE:=fun σ H Q=>te σ H fun x H1=>tl σ H1 fun l H2=>th σ H2 fun u H3=>r x l u H3 Q
def mL{r:V->Yg Int->Yg Int->Hp->VK->Prop}(D:SlR X r)(L:PE X e te)(G:PO X lo tl)(B:PO X hi th):PE X (.Subscript e (.Slice lo hi none p2) pos) (tSl r te tl th):=by
 intro Q0 s σ H Q I h;refine Subscript_ (dh (L Q0 s σ H _ I h) fun{v o x H1} Z p z=>?_)
 refine wpAny_Slice (thn (G Q0 o σ H1 _ Z z) fun vl m ⟨l,H2,Y,pl,y⟩=>thn (B Q0 m σ H2 _ Y y) fun vu f h0=>?_)
 obtain⟨u,j,U,pu,t⟩:=h0;rw[evalPart_none];refine Z5 ?_;have S:Inv X Q0 σ j { f with heap:=f.heap.push { cls:=.type "slice",data:=.fields #[vl,vu,.none] } }:=U.kept fun b ob q=>ZT _ q
 obtain⟨T,id,O,C,J⟩:=D Q0 { f with heap:=f.heap.push { cls:=.type "slice",data:=.fields #[vl,vu,.none] } } σ j x v vl vu l u f.heap.objs.size Q S p (Heap.IsSliceOf.new ..) pl pu t
 exact tail_any C O J (by with_unfolding_all rfl)
noncomputable def rM(xs:List V)(lo hi:Option Int):List V:=(xs.drop (HT.sIx xs.length 0 lo)).take (HT.sIx xs.length xs.length hi-HT.sIx xs.length 0 lo)
theorem oQ(xs:Yh V)(lo hi:Yg Int):(rM xs lo hi).length<=xs.length:=by
 unfold rM;rw[List.length_take,List.length_drop]
 lia
def OE(K:ZB):V->Option Int->Option Int->Hp->VK->Prop:=fun x lo hi H Q=>∃a xs,x=.ref a/\SqT K H a xs /\
 ¬(HT.sIx xs.length 0 lo=0/\HT.sIx xs.length xs.length hi=xs.length)/\∀p,H p=none->Q (.ref p) (upd H p (.tup (rM xs lo hi)))
def JW:SlR X (OE X.K):=by
 intro Q0 s σ H x v vl vu lo hi u Q I m t pl pu h;obtain⟨a,xs,rfl,o,p,q⟩:=h;cases m;obtain⟨Q1,r,l,j⟩:=I.tuple o;have f:Q1.toArray.size=xs.length:=by rw[ZG];exact r.length.symm
 refine⟨"tuple",_,PyProof.Rows.slot_tuple_getitem.lookup,l.typeIs,?_⟩;refine HT.getItem_tuple_cut l t pl pu (by rw[f];exact p) ?_ (by rw[f];exact j)
 rw[f];refine⟨.ref s.heap.objs.size,_,I.laid (fun b y q=>ZT _ q) (ZM _) ?_,rfl,q _ (I.hok.fresh (ZM _))⟩
 exact⟨ZZ (oQ xs lo hi) j,_,(r.drop (HT.sIx xs.length 0 lo)).take (HT.sIx xs.length xs.length hi-HT.sIx xs.length 0 lo),IsTup.new _ _⟩
def Nd(K:ZB):R2:=fun x y H Q=>∃a b xs ys,x=.ref a/\y=.ref b/\SqT K H a xs/\SqT K H b ys/\xs≠[]/\xs.length+ys.length<=sizeLine /\
 (ys=[]->Q (.ref a) H)/\(ys≠[]->∀p,H p=none->Q (.ref p) (upd H p (.tup (xs++ys))))
def Vals.nil_iff{xs}(r:Vals xs us):us=[]<->xs=[]:=by
 cases r with
 |nil=>simp
 |cons _ _=>simp
def HB:OpR X (binaryOp .Add) (Nd X.K):=by
 intro Q0 s σ H x y v u Q I p o h;obtain⟨a,b,xs,ys,rfl,rfl,D,C,B,m,t,r⟩:=h;cases p;cases o;obtain⟨Q1,j,p1,_⟩:=I.tuple D;obtain⟨l,f,p2,_⟩:=I.tuple C;refine HT.cat_tup p1 p2 (fun z=>B (j.nil_iff.mp z)) (fun z=>⟨.ref a,H,I,rfl,t (f.nil_iff.mp z)⟩) (fun z=>?_) (by rw[<- j.length,<- f.length];exact m)
 refine⟨.ref s.heap.objs.size,_,I.laid (fun b G q=>ZT _ q) (ZM _) ?_,rfl,r (fun w=>z (f.nil_iff.mpr w)) _ (I.hok.fresh (ZM _))⟩
 exact⟨by rw[Zl];exact m,_,j.append f,IsTup.new _ _⟩
end
noncomputable def ixN(n:Nat)(i:Int):Option Nat:=if 0<=i then(if i<n then some i.toNat else none)else if -(n:Int)<=i then some (i+n).toNat else none
def atI{α:Type}(xs:List α)(i:Int):Option α:=(ixN xs.length i).bind fun j=>xs[j]?
theorem t9{i:Int}(h:ixN n i=some j):seqIndex? i n=some j/\j<n/\-(n:Int)<=i/\i<n:=by
 unfold ixN at h
 by_cases h0:0<=i
 . rw [if_pos h0] at h
   by_cases h1:i<n
   . rw[if_pos h1]at h;have e:=ZH h;exact⟨by rw[seqIndex_of h0 h1,e],by lia,by lia,h1⟩
   . rw[if_neg h1]at h;cases h
 . rw [if_neg h0] at h
   by_cases h1:-(n:Int)<=i
   . rw[if_pos h1]at h;have e:=ZH h;exact⟨by rw[seqIndex_neg (by lia) h1,e],by lia,h1,by lia⟩
   . rw[if_neg h1]at h;cases h
def uG{α:Type}{xs}{i}{v:α}(h:atI xs i=some v):∃j,seqIndex? i xs.length=some j/\xs[j]?=some v/\j<xs.length/\-(xs.length:Int)<=i/\i<xs.length:=by
 unfold atI at h;cases e:ixN xs.length i with
 |none=>rw[e]at h;cases h
 |some j =>rw[e]at h;obtain⟨h1,h2,l,f⟩:=t9 e;exact⟨j,h1,h,h2,l,f⟩
theorem atI_nat{α:Type}{xs:Yh α}{v:α}(h:xs[j]?=some v):atI xs (j:Int)=some v:=by
 have f:=(ZL.mp h).1;have e:ixN xs.length (j:Int)=some j:=by unfold ixN;rw[if_pos (by lia),if_pos (by lia)];simp
 unfold atI;rw[e];exact h
theorem atI_last{α:Type}(xs:Yh α)(v:α):atI (xs++[v]) (-1)=some v:=by
 have f:(xs++[v]).length=xs.length+1:=by simp
 have e:ixN (xs++[v]).length (-1)=some xs.length:=by
  unfold ixN;rw[f,if_neg (by decide),if_pos (by lia)]
  congr 1
  lia
 unfold atI;rw[e];simp
def iG(b:Expr):Prop:=∀o i,subscripted b false o i=operate [o,i] (getItem o i)
def IxR(X:Cx)(r:R2):Prop :=
 ∀(X1 slice:Expr)(Q0:List (Addr×Obj))(s:Shared)(σ:St)(H:Hp)(x y:V)(v u:Value)(Q:VK),Inv X Q0 σ H s->RelV x v->RelV y u->r x y H Q ->
  subscripted slice false v u=operate [v,u] (getItem v u)->wpAny (model X.prog X.w) X.A (subscriptTail X1 slice v u) (EP X Q0 σ Q) X.xe s
def MtR(X:Cx)(id:String)(r:V->List V->Hp->VK->Prop):Prop :=
 ∀(Q0:List (Addr×Obj))(s:Shared)(σ:St)(H:Hp)(x:V)(xs:List V)(v:Value)(us:List Value)(Q:VK),Inv X Q0 σ H s->RelV x v->Vals xs us->r x xs H Q ->
  wpAny (model X.prog X.w) X.A (call (.builtin id) (v::us)) (EP X Q0 σ Q) X.xe s
section
variable {a b:Expr} {tb:TE} {pos:Pos}
def IxR.or{r r':R2}(h:IxR X r)(h':IxR X r'):IxR X (fun x y H Q=>r x y H Q\/r' x y H Q):=by
 intro X1 f Q0 s σ H x y v u Q I l j q m;rcases q with q|q
 . exact h X1 f Q0 s σ H x y v u Q I l j q m
 . exact h' X1 f Q0 s σ H x y v u Q I l j q m
def sA{r}(o:IxR X r)(t:PE X a ta)(p:PE X b tb)(m:iG b):PE X (.Subscript a b pos) (tOp r ta tb):=by intro Q0 s σ H Q I h;exact Subscript_ (Mv t p I h fun v u f x y H2 z l j q=>o a b Q0 f σ H2 x y v u Q z l j q (m _ _))
def Na(K:ZB):R2:=fun x y H Q=>∃p xs i v,x=.ref p/\y=.int i/\SqL K H p xs/\atI xs i=some v/\Q v H
def M8(K:ZB):R2:=fun x y H Q=>∃p xs i v,x=.ref p/\y=.int i/\SqT K H p xs/\atI xs i=some v/\Q v H
def M9:R2:=fun x y H Q=>∃z i c,x=.str z/\y=.int i/\z.length<=sizeLine/\atI z.cps.toList i=some c/\Q (.str ⟨#[c]⟩) H
theorem ix_list:IxR X (Na X.K):=by
 intro X1 f Q0 s σ H x y v u Q I D C h o;obtain⟨p,xs,i,z,rfl,rfl,G,L,q⟩:=h;cases D;obtain⟨t,rfl⟩:=C;obtain⟨Q1,r,pl,U⟩:=I.list G;obtain⟨j,h1,h2,Y,S,O⟩:=uG L;obtain⟨w,B,l⟩:=r.get h2;have J:=r.length;have V:=nW;have Q4:EP X Q0 σ Q w s:=⟨z,H,I,l,q⟩
 by_cases h0:0<=i
 . have m:i.toNat=j:=by
    rw[seqIndex_of h0 O]at h1;exact ZH h1
   exact item_listR pl.isList h0 (by lia) (by rw[m];simpa using B) Q4 o
 . have m:(i+(Q1.toArray.size:Int)).toNat=j:=by
    rw[seqIndex_neg (by lia) S]at h1
    rw[ZG,<- J];exact ZH h1
   exact subscriptTail_builtinR (x:=w) pl.isList.typeIs slot_list_getitem.lookup
    (wpAny_getItem_list_neg (Q:=fun r s'=>r=w/\EP X Q0 σ Q r s') pl.isList (by lia) (by rw[ZG]<;>lia) (by lia) (by rw[m];simpa using B) ⟨rfl,Q4⟩) o
theorem t8:IxR X (M8 X.K):=by
 intro X1 f Q0 s σ H x y v u Q I o m h B;obtain⟨p,xs,i,z,rfl,rfl,C,G,q⟩:=h;cases o;obtain⟨t,rfl⟩:=m;obtain⟨Q1,r,pl,L⟩:=I.tuple C;obtain⟨j,h1,h2,V,U,S⟩:=uG G;obtain⟨w,J,l⟩:=r.get h2;have D:=r.length;have O:=nW;have Q4:EP X Q0 σ Q w s:=⟨z,H,I,l,q⟩;exact subscriptTail_builtinR (x:=w) pl.typeIs slot_tuple_getitem.lookup
  (getItem_tuple (j:=j) (Q:=fun r s'=>r=w/\EP X Q0 σ Q r s') pl (by lia) (by lia) (by rw[ZG,<- D];exact h1) (by simpa using J) ⟨rfl,Q4⟩) B
theorem LP:IxR X M9:=by
 intro X1 f Q0 s σ H x y v u Q I m l h o;obtain⟨z,i,c,rfl,rfl,J,r,q⟩:=h;obtain⟨t,rfl⟩:=m;obtain⟨t',rfl⟩:=l;obtain⟨j,h1,h2,O,C,B⟩:=uG r;have p:z.cps.toList.length=z.length:=by simp[Str.length]
 rw[p]at h1 C B;have L:=nW;exact tail_any (typeIs_str s z t) slot_str_getitem.lookup (getItem_str (c:=c) (by
  have G:decide (i < -(2^63:Int))=false:=decide_eq_false (by lia)
  have D:decide (i>=2^63)=false:=decide_eq_false (by lia)
  rw[G,D,Bool.or_false]) (by rw[h1];simpa using h2) ⟨.str ⟨#[c]⟩,H,I.tok _,⟨_,rfl⟩,q⟩) o
def xl (Q1:Yh Yc) (n j:Nat) (u:Yc):Obj.mapSeq (·.setIfInBounds j u) { cls:=.type "list",data:=.seq Q1.toArray n }={ cls:=.type "list",data:=.seq (Q1.set j u).toArray n }:=by simp[Obj.mapSeq]
def Inv.lst{Q0:Yh (Ye×Obj)}{σ:St}{H:Hp}{s:Yd}{p:Ye}{xs:Yh V}(I:Inv X Q0 σ H s)(h:H p=some (.lst xs)) :
 ∃(Q1:Yh Yc) (n:Nat),Vals xs Q1/\s.heap.get? p=some { cls:=.type "list",data:=.seq Q1.toArray n }/\xs.length<=sizeLine:=by
 obtain⟨z,Q1,n,r,e⟩:=I.hok p _ h;exact⟨Q1,n,r,e,z⟩
def Inv.lstUpd{p:Ye}{xs:Yh V}{j:Nat}{f:Obj->Obj}(I:Inv X Q0 σ H s)(h:H p=some (.lst xs))
 (o:s.heap.get? p=some { cls:=.type "list",data:=.seq Q1.toArray n }) (l:f { cls:=.type "list",data:=.seq Q1.toArray n }={ cls:=.type "list",data:=.seq X7.toArray j }) (r:Vals ys X7) (m:ys.length<=sizeLine) (t:Nat) :
 Inv X Q0 σ (upd H p (.lst ys)) { s with heap:=s.heap.update p f,toks:=t }:=by
 have e:(s.heap.update p f).get? p=some { cls:=.type "list",data:=.seq X7.toArray j }:=by rw[Heap.get?_update_self f o (by rw[l]<;>rfl),l]
 refine I.write (by rw[h];trivial) (.inl rfl) (fun b u v q=>(Heap.get?_update_other _ _ (Ne.symm v)).trans q) ⟨_,e⟩ ?_
 exact⟨m,X7,j,r,e⟩
def M5:V->V->V->Hp->(Hp->Prop)->Prop:=fun o i v H Q=>∃p xs k j,o=.ref p/\i=.int k/\H p=some (.lst xs)/\ixN xs.length k=some j/\Q (upd H p (.lst (xs.set j v)))
theorem Cp:Oi X M5:=by
 intro Q0 s σ H o i v L iv u Q I C D B h;obtain⟨p,xs,k,j,rfl,rfl,m,J,q⟩:=h;cases C;obtain⟨t,rfl⟩:=D;obtain⟨Q1,n,r,f,G⟩:=I.lst m;obtain⟨h1,h2,y,x⟩:=t9 J;have l:=r.length;have O:=nW;have z :=
  I.lstUpd m f (xl Q1 n j u) (r.set B j) (by rw[List.length_set];exact G) s.toks
 by_cases h0:0<=k
 . have hk:k.toNat=j:=by
    rw[seqIndex_of h0 x]at h1;exact ZH h1
   exact W.ki_setAt f h0 (by lia) (by rw[ZG,<- l];exact x) (by rw[hk];exact⟨_,z,q⟩)
 . have hk:(k+(Q1.toArray.size:Int)).toNat=j:=by
    rw[seqIndex_neg (by lia) y]at h1
    rw[ZG,<- l];exact ZH h1
   exact W.ki_setBack f (by lia) (by rw[ZG,<- l];exact y) (by lia) (by rw[hk];exact⟨_,z,q⟩)
theorem tO(lo hi) (n):(sliceBounds lo hi none n).1=((HT.sIx n 0 lo:Nat):Int)/\(sliceBounds lo hi none n).2.1=((HT.sIx n n hi:Nat):Int)/\(sliceBounds lo hi none n).2.2=1:=by
 refine⟨?_,?_,rfl⟩
 . cases lo with
   |none=>simp[sliceBounds,HT.sIx]
   |some i =>
    simp only[sliceBounds,HT.sIx,Option.getD_none,show(1:Int)>0 by decide,Z8]
    by_cases h:i<0
    . simp only[h,Z8]<;>lia
    . simp only[h,Z9]<;>lia
 . cases hi with
   |none=>simp[sliceBounds,HT.sIx]
   |some i =>
    simp only[sliceBounds,HT.sIx,Option.getD_none,show(1:Int)>0 by decide,Z8]
    by_cases h:i<0
    . simp only[h,Z8]<;>lia
    . simp only[h,Z9]<;>lia
def rK(Q1:Yh Yc)(lo hi:Yg Int):slicePick Q1.toArray lo hi none=((Q1.drop (HT.sIx Q1.length 0 lo)).take (HT.sIx Q1.length Q1.length hi-HT.sIx Q1.length 0 lo)).toArray:=by obtain⟨h1,h2,f⟩:=tO lo hi Q1.toArray.size;unfold slicePick;rw[h1,h2,f];simp only[sliceRange_one,pick_run,ZG]<;>rfl
def J9(K:ZB):V->Option Int->Option Int->Hp->VK->Prop:=fun x lo hi H Q=>∃a xs,x=.ref a/\SqL K H a xs/\∀p,H p=none->Q (.ref p) (upd H p (.lst (rM xs lo hi)))
theorem yw:SlR X (J9 X.K):=by
 intro Q0 s σ H x v vl vu lo hi t Q I l p pl pu h;obtain⟨a,xs,rfl,o,q⟩:=h;cases l;obtain⟨Q1,r,j,m⟩:=I.list o;have f:=r.length;refine⟨"list",_,slot_list_getitem.lookup,j.isList.typeIs,?_⟩;refine wpAny_getItem_list_slice j.isList p pl pu .none (by simp) ?_ (by rw[ZG]<;>lia)
 rw[rK,<- f];refine⟨.ref s.heap.objs.size,_,I.laid (fun b u q=>ZT _ q) (ZM _) ?_,rfl,q _ (I.hok.fresh (ZM _))⟩
 exact⟨ZZ (oQ xs lo hi) m,_,0,(r.drop (HT.sIx xs.length 0 lo)).take (HT.sIx xs.length xs.length hi-HT.sIx xs.length 0 lo),ZX _ rfl⟩
noncomputable def lA:V->Bool
 |.non=>true
 |.bl _=>true
 |.int _=>true
 |.str _=>true
 |_=>false
noncomputable def eqV:V->V->Bool
 |.non,.non=>true
 |.bl a,.bl b=>a==b
 |.bl a,.int b=>(if a then 1 else 0)==b
 |.int a,.bl b=>a==(if b then 1 else 0)
 |.int a,.int b=>a==b
 |.str a,.str b=>a==b
 |_,_=>false
def ES{x}(j:RelV y u)(f:RelV x v)(m:lA y=true)(l:lA x=true):SeqAt.EqAt A s u v (eqV y x):=by
 cases y with
 |non =>
  cases j;cases x with
  |non=>cases f;exact SeqAt.EqAt.same _
  |bl b=>cases f;exact SeqAt.EqAt.none_bool b
  |int b=>obtain⟨t,rfl⟩:=f;exact SeqAt.EqAt.none_int b t
  |str b=>obtain⟨t,rfl⟩:=f;exact SeqAt.EqAt.none_str b t
  |_=>exact absurd (l) ZC
 |bl a =>
  cases j;cases x with
  |non=>cases f;exact SeqAt.EqAt.bool_none a
  |bl b=>cases f;exact SeqAt.EqAt.bool_bool a b
  |int b=>obtain⟨t,rfl⟩:=f;exact SeqAt.EqAt.bool_int a b t
  |str b=>obtain⟨t,rfl⟩:=f;exact SeqAt.EqAt.bool_str a b t
  |_=>exact absurd (l) ZC
 |int a =>
  obtain⟨t',rfl⟩:=j;cases x with
  |non=>cases f;exact SeqAt.EqAt.int_none a t'
  |bl b=>cases f;exact SeqAt.EqAt.int_bool a t' b
  |int b=>obtain⟨t,rfl⟩:=f;exact SeqAt.EqAt.int_int a t' b t
  |str b=>obtain⟨t,rfl⟩:=f;exact SeqAt.EqAt.int_str a t' b t
  |_=>exact absurd (l) ZC
 |str a =>
  obtain⟨t',rfl⟩:=j;cases x with
  |non=>cases f;exact SeqAt.EqAt.str_none a t'
  |bl b=>cases f;exact SeqAt.EqAt.str_bool a t' b
  |int b=>obtain⟨t,rfl⟩:=f;exact SeqAt.EqAt.str_int a t' b t
  |str b=>obtain⟨t,rfl⟩:=f;exact SeqAt.EqAt.str_str a t' b t
  |_=>exact absurd (l) ZC
 |_=>exact absurd (m) ZC
def eqU(x:V)(u:Value):Bool:=match u with
 |.none=>eqV .non x
 |.bool b=>eqV (.bl b) x
 |.int i _=>eqV (.int i) x
 |.str z _=>eqV (.str z) x
 |_=>false
def ER{x}(r:RelV y u)(f:lA y=true):eqU x u=eqV y x:=by
 cases y with
 |non=>cases r;rfl
 |bl b=>cases r;rfl
 |int i=>obtain⟨t,rfl⟩:=r;rfl
 |str z=>obtain⟨t,rfl⟩:=r;rfl
 |_=>exact absurd (f) ZC
theorem nq{x}:∀{xs}{us},Vals xs us->xs.all lA=true->us.any (eqU x)=xs.any fun y=>eqV y x
 |_,_,.nil,_=>rfl
 |y::xs,u::us,.cons r t,f=>by rw[List.all_cons,ZN]at f;rw[List.any_cons,List.any_cons,ER r f.1,nq t f.2]
theorem j0{x}(l:RelV x v)(m:lA x=true):∀{xs}{us},Vals xs us->xs.all lA=true->∀u∈us,SeqAt.EqAt A s u v (eqU x u)
 |_,_,.nil,_=>fun u j=>by cases j
 |y::xs,u::us,.cons r t,f=>fun o j=>by
  rw[List.all_cons,ZN]at f;rcases Zu.mp j with rfl|j
  . rw[ER r f.1];exact ES r l f.1 m
  . exact j0 l m t f.2 o j
def inV(x:V)(xs:List V):Bool:=xs.any fun y=>eqV y x
def rIn(K:ZB)(neg:Bool):R2:=fun x y H Q=>∃p xs,y=.ref p/\(SqL K H p xs\/SqT K H p xs)/\lA x=true/\xs.all lA=true/\Q (.bl (if neg then !inV x xs else inV x xs)) H
def sD:OpR X (compareOp .In) (rIn X.K false):=by
 intro Q0 s σ H x y v u Q I l o h;obtain⟨p,xs,rfl,f,m,fs,q⟩:=h;cases o;rcases f with f|f
 . obtain ⟨Q1,r,pl,t⟩:=I.list f;refine SeqAt.in_listAt (eqU x) pl.isList (fun w j=>j0 l m r fs w (by simpa using j)) ⟨.bl _,H,I,rfl,?_⟩
   rw[show Q1.toArray.any (eqU x)=Q1.any (eqU x) by simp,nq r fs]
   exact q
 . obtain ⟨Q1,r,pl,t⟩:=I.tuple f;refine SeqAt.in_tupleAt (eqU x) pl (fun w j=>j0 l m r fs w (by simpa using j)) ⟨.bl _,H,I,rfl,?_⟩
   rw[show Q1.toArray.any (eqU x)=Q1.any (eqU x) by simp,nq r fs]
   exact q
def mN:OpR X (compareOp .NotIn) (rIn X.K true):=by
 intro Q0 s σ H x y v u Q I l o h;obtain⟨p,xs,rfl,f,m,fs,q⟩:=h;cases o;rcases f with f|f
 . obtain ⟨Q1,r,pl,t⟩:=I.list f;refine SeqAt.notIn_listAt (eqU x) pl.isList (fun w j=>j0 l m r fs w (by simpa using j)) ⟨.bl _,H,I,rfl,?_⟩
   rw[show Q1.toArray.any (eqU x)=Q1.any (eqU x) by simp,nq r fs]
   exact q
 . obtain ⟨Q1,r,pl,t⟩:=I.tuple f;refine SeqAt.notIn_tupleAt (eqU x) pl (fun w j=>j0 l m r fs w (by simpa using j)) ⟨.bl _,H,I,rfl,?_⟩
   rw[show Q1.toArray.any (eqU x)=Q1.any (eqU x) by simp,nq r fs]
   exact q
theorem call_len_seq:CallR X (.builtin "len") (fun xs H Q=>∃p ys,xs=[.ref p]/\(SqL X.K H p ys\/SqT X.K H p ys)/\Q (.int ys.length) H):=by
 intro Q0 s σ H xs us Q I r h;obtain⟨p,ys,rfl,j,q⟩:=h;obtain⟨u,rfl,l⟩:=jK r;cases l;have o:=nW;rcases j with j|j
 . obtain⟨Q1,r',pl,m⟩:=I.list j;have f:=r'.length;exact Calls.call_len_list pl.isList (by simp only[ZG]<;>lia) ⟨.int ys.length,H,I.tok _,⟨s.toks+1,by rw[ZG,f]⟩,q⟩
 . obtain⟨Q1,r',pl,m⟩:=I.tuple j;have f:=r'.length;exact len_tuple pl (by simp only[ZG]<;>lia) ⟨.int ys.length,H,I.tok _,⟨s.toks+1,by rw[ZG,f]⟩,q⟩
theorem uy:CallR X (.builtin "len") (fun xs H Q=>∃z,xs=[.str z]/\z.length<=sizeLine/\Q (.int z.length) H):=by intro Q0 s σ H xs us Q I r h;obtain⟨z,rfl,f,q⟩:=h;obtain⟨u,rfl,t,rfl⟩:=jK r;have j:=nW;exact len_str (by lia) ⟨.int z.length,H,I.tok _,⟨_,rfl⟩,q⟩
def CallR.or{f:Yc}(h:CallR X f r)(h':CallR X f r'):CallR X f (fun xs H Q=>r xs H Q\/r' xs H Q):=by
 intro Q0 s σ H xs us Q I j q;rcases q with q|q
 . exact h Q0 s σ H xs us Q I j q
 . exact h' Q0 s σ H xs us Q I j q
theorem ux:CallR X (.type "list") (fun xs H Q=>∃p ys,xs=[.ref p]/\(SqL X.K H p ys\/SqT X.K H p ys)/\∀l,H l=none->Q (.ref l) (upd H l (.lst ys))):=by
 intro Q0 s σ H xs us Q I r h;obtain⟨p,ys,rfl,m,q⟩:=h;obtain⟨u,rfl,z⟩:=jK r;cases z;have Q4:∀Q1,Vals ys Q1->ys.length<=sizeLine->∀h' c',(∀b o',s.heap.get? b=some o'->h'.get? b=some o') ->
  h'.get? s.heap.objs.size=some { cls:=.type "list",dict:=none,data:=.seq Q1.toArray c',slots:=#[] }->EP X Q0 σ Q (.ref s.heap.objs.size) { s with heap:=h' }:=fun Q1 r' j h' c' f e =>
  ⟨.ref s.heap.objs.size,_,I.laid (t':=s.toks) f (ZM _) (show ObjOk X.prog X.w _ h' _ (.lst ys)from⟨j,Q1,c',r',e⟩),rfl,q _ (I.hok.fresh (ZM _))⟩
 rcases m with m|m
 . obtain⟨Q1,r',pl,j⟩:=I.list m;have t:=r'.length;obtain⟨o,v,y,n,x⟩:=pl.isList;exact call_list_seq p (.inl rfl) v y x (fun h' c' f e=>Q4 Q1 r' j h' c' f e) (by simp only[ZG]<;>lia)
 . obtain⟨Q1,r',pl,j⟩:=I.tuple m;have t:=r'.length;obtain⟨o,v,y,n,x⟩:=pl;exact call_list_seq p (.inr rfl) v y x (fun h' c' f e=>Q4 Q1 r' j h' c' f e) (by simp only[ZG]<;>lia)
def tyV(K:ZB)(T:String)(x:V)(H:Hp):Prop:=match x with
 |.str _=>T = "str"
 |.int _=>T = "int"
 |.ref p=>(T = "list"/\∃xs,SqL K H p xs)\/(T = "tuple"/\∃o,K.lookup p=some o/\o.cls=.type "tuple"/\o.dict=none)\/
  (T = "dict"/\((∃X3,H p=some (.dK X3))\/∃X3,H p=some (.dT X3)))\/(T = "set"/\∃S n,H p=some (.set S n))
 |_=>False
def BV {x} (I:Inv X Q0 σ H s) (r:RelV x v) (f:tyV X.K T x H) :
 s.TypeIs v T/\∀a,v=.ref a->∃m,s.heap.get? a=some m/\m.dict=none:=by
 cases x with
 |str z =>obtain⟨t,rfl⟩:=r;cases(f);exact⟨typeIs_str s z t,fun _ e=>nomatch e⟩
 |int i =>obtain⟨t,rfl⟩:=r;cases(f);exact⟨typeIs_int s i t,fun _ e=>nomatch e⟩
 |ref p =>
  cases r;rcases f with⟨rfl,xs,q⟩|⟨rfl,o,hk,u,j⟩|⟨rfl,hk⟩|⟨rfl,S,n,hk⟩
  . obtain ⟨Q1,_,pl,_⟩:=I.list q;refine ⟨pl.isList.typeIs,fun a e=>?_⟩
    cases e;obtain⟨o,n,e,c,j,_⟩:=pl;exact⟨o,e,j⟩
  . refine ⟨⟨o,I.kIn p o hk,u⟩,fun a e=>?_⟩
    cases e;exact⟨o,I.kIn _ o hk,j⟩
  . have z:∃ o,s.heap.get? p=some o/\o.ExactDict:=by
     rcases hk with⟨X3,hk⟩|⟨X3,hk⟩
     . obtain⟨_,_,_,_,o,_,_,e,ex,_⟩:=I.hok p _ hk;exact⟨o,e,ex⟩
     . obtain⟨_,_,_,_,o,_,_,e,ex,_⟩:=I.hok p _ hk;exact⟨o,e,ex⟩
    obtain⟨o,e,ex⟩:=z;refine⟨⟨o,e,ex.1⟩,fun a l=>?_⟩
    cases l;exact⟨o,e,ex.2.1⟩
  . obtain ⟨o,_,_,_,e,ex,_⟩:=I.hok p _ hk;refine ⟨⟨o,e,ex.1⟩,fun a l=>?_⟩
    cases l;exact⟨o,e,ex.2.1⟩
 |_=>exact Zzb f
def MP(K:ZB)(T:String)(r:V->List V->Hp->VK->Prop)(to:TE):TE:=fun σ H Q=>to σ H fun x H1=>tyV K T x H1/\r x [] H1 Q
def tBM(K:ZB)(T:String)(r:V->List V->Hp->VK->Prop)(to:TE)(t:TA):TE:=fun σ H Q=>to σ H fun x H1=>tyV K T x H1/\t σ H1 fun xs H2=>r x xs H2 Q
variable {to:TE} {X0:Pos} {id:String} {r:V->Yh V->Hp->VK->Prop}
def K3 (B:PlainAttrs T) (l:Slot T name id) (p:typeOf (.builtin id)=pure (.type "method_descriptor")) (D:MtR X id r) (C:PE X o to)
 (j:attributeBase o name X.env (eval o X.env)=eval o X.env:=by rfl) (f:(Q8.endLine==X0.line)=true:=by rfl):PE X (.Call (.Attribute o name Q8) [] [] X0) (MP X.K T r to):=by
 intro Q0 s σ H Q I h;refine wpAny_Call_method0_late j f (dh (C Q0 s σ H _ I h) fun{v y x H1} t q m=>?_)
 obtain⟨u,z⟩:=m;obtain⟨h1,h2⟩:=BV t q u;exact⟨T,id,B,l,p,h1,h2,Calls.callWith_builtin rfl (PySem.evalArgs_none (D Q0 y σ H1 x [] v [] Q t q .nil z))⟩
def vm (S:PlainAttrs T) (m:Slot T name id) (u:typeOf (.builtin id)=pure (.type "method_descriptor")) (Y:MtR X id r) (V:PE X o to) (Z:PA X (e::es) t)
 (l:attributeBase o name X.env (eval o X.env)=eval o X.env:=by rfl)
 (p:((backTo X0 (starEach (e :: es) X.env)).all (fun x=>!x.1) && (backToKw X0 (keywordEach [] X.env)).all (fun x=>x.1.isSome)
  && decide ((e::es).length+([]:Yh Keyword).length+(if([]:Yh Keyword).isEmpty then 0 else 1)<30))=true:=by rfl)
 (j:(Q8.endLine==X0.line)=true:=by rfl) (U:starEach (e::es) X.env=(false,eval e X.env)::starEach es X.env:=by rfl) (f:(backTo X0 (starEach es X.env)).any (·.1)=false:=by rfl) :
 PE X (.Call (.Attribute o name Q8) (e::es) [] X0) (tBM X.K T r to t):=by
 intro Q0 s σ H Q I h;refine wpAny_Call_method_late l p j rfl (dh (V Q0 s σ H _ I h) fun{v G x H1} B y q=>?_)
 obtain⟨C,O⟩:=q;obtain⟨h1,h2⟩:=BV B y C;refine⟨T,id,S,m,u,h1,h2,?_⟩;have z:=Z X0 Q0 G σ H1 _ B O;rw[U]at z ⊢;refine Calls.callWith_builtin (by show(false||(backTo X0 (starEach es X.env)).any (·.1))=false;rw[f]<;>rfl) (Calls.evalArgs_plain ?_)
 exact thn z fun us D ⟨vs,H2,I2,J,L⟩=>Y Q0 D σ H2 x vs v us Q I2 y J L
end
def MtM(X:Cx)(id:String)(r:V->List V->Hp->VK->Prop):Prop :=
 ∀(Q0:List (Addr×Obj))(s:Shared)(σ:St)(H:Hp)(x:V)(xs:List V)(v:Value)(us:List Value)(Q:VK),Inv X Q0 σ H s->RelV x v->Vals xs us->r x xs H Q ->
  wpAny (model X.prog X.w) X.A (call (.builtin id) (v::us)) (EP X Q0 σ Q) X.xe s
def Vals.one{x:V}{us:Yh Yc}(r:Vals [x] us):∃u,us=[u]/\RelV x u:=by
 cases r with
 |cons r t=>cases t;exact⟨_,rfl,r⟩
theorem Vals.zero:∀{us},Vals [] us->us=[]
 |_,.nil=>rfl
section
variable {l:Ye} {xs zs:Yh V}
def Inv.lset{f}(I:Inv X Q0 σ H s)(t:H l=some (.lst xs))
 (e:s.heap.get? l=some { cls:=.type "list",data:=.seq Q1.toArray n }) (p:f Q1.toArray=X7.toArray) (m:Vals ys X7) (j:ys.length<=sizeLine) :
 Inv X Q0 σ (upd H l (.lst ys)) { s with heap:=s.heap.update l (Obj.mapSeq f),toks:=t' }:=by
 have q:=PySem.IsL.update e f;rw[p]at q;refine I.write (by rw[t];exact trivial) (.inl rfl) (fun v u r o=>(Heap.get?_update_other s.heap (Obj.mapSeq f) (Ne.symm r)).trans o) ⟨_,q⟩ ?_
 exact⟨j,X7,_,m,q⟩
def Inv.lnew(I:Inv X Q0 σ H s)(j:Vals ys Q1)(f:ys.length<=sizeLine) :
 Inv X Q0 σ (upd H s.heap.objs.size (.lst ys)) { s with heap:=s.heap.push { cls:=.type "list",data:=.seq Q1.toArray },toks:=t' } :=
 I.laid (fun _ _ q=>ZT _ q) (ZM _) ⟨f,Q1,0,j,ZX _ rfl⟩
theorem Inv.fresh(I:Inv X Q0 σ H s):H s.heap.objs.size=none:=I.hok.fresh (ZM _)
def Inv.lstM (I:Inv X Q0 σ H s) (f:H l=some (.lst xs)):xs.length<=sizeLine/\∃Q1 n,Vals xs Q1/\xs.length=Q1.length/\s.heap.get? l=some { cls:=.type "list",data:=.seq Q1.toArray n }:=by obtain⟨z,Q1,n,r,e⟩:=I.hok l _ f;exact⟨z,Q1,n,r,r.length,e⟩
theorem D4(h:n<=sizeLine):Builtin.List.listTooLong n=false:=by unfold Builtin.List.listTooLong;exact decide_eq_false (by lia)
end
section
def tS:V->List V->Hp->VK->Prop:=fun x vs H Q=>∃l xs y,x=.ref l/\vs=[y]/\H l=some (.lst xs)/\xs.length<sizeLine/\Q .non (upd H l (.lst (xs++[y])))
theorem sJ:MtM X "list.append" tS:=by
 intro Q0 s σ H x vs v us Q I j m h;obtain⟨l,xs,y,rfl,rfl,f,p,q⟩:=h;cases j;obtain⟨u,rfl,o⟩:=m.one;obtain⟨z,Q1,n,r,t,e⟩:=I.lstM f;refine call_meets F.slot_list_append ⟨_,e,rfl⟩ F.entry_list_append (F.args_list_append_2 _ _) (PySem.list_append l Q1.toArray n u (by rw[ZG];lia)) ⟨e,?_⟩
 refine⟨.non,_,I.lset f e (by simp) (r.append (.cons o .nil)) ?_,rfl,q⟩
 rw[Zl,List.length_singleton]
 lia
def yI:V->List V->Hp->VK->Prop:=fun x vs H Q=>∃l b xs zs,x=.ref l/\vs=[.ref b]/\H l=some (.lst xs)/\H b=some (.lst zs)/\xs.length+zs.length<=sizeLine/\Q .non (upd H l (.lst (xs++zs)))
theorem AT:MtM X "list.extend" yI:=by
 intro Q0 s σ H x vs v us Q I p t h;obtain⟨l,b,xs,zs,rfl,rfl,o,D,J,q⟩:=h;cases p;obtain⟨u,rfl,y⟩:=t.one;cases y;obtain⟨z,Q1,n,r,L,e⟩:=I.lstM o;obtain⟨z2,f,n2,B,C,G⟩:=I.lstM D;have m:Q1.toArray.size+f.toArray.size<=sizeLine:=by rw[ZG,ZG];lia
 have j:¬(!Q1.toArray.isEmpty&&Builtin.List.listTooLong (Q1.toArray.size+f.toArray.size))=true:=by rw[D4 m,Bool.and_false];exact ZC
 refine call_meets F.slot_list_extend ⟨_,e,rfl⟩ F.entry_list_extend (F.args_list_extend_2 _ _)
  (AutoSeq1.list_extend_list_list_0 l Q1.toArray n b f.toArray n2 j (by rw[ZG];lia) (by lia)) ⟨e,G,?_⟩
 refine⟨.non,_,I.lset o e (by simp) (r.append B) ?_,rfl,q⟩
 rw[Zl]
 lia
def CF:V->List V->Hp->VK->Prop:=fun x vs H Q=>∃l xs,x=.ref l/\vs=[]/\H l=some (.lst xs)/\Q .non (upd H l (.lst []))
theorem Ec:MtM X "list.clear" CF:=by
 intro Q0 s σ H x vs v us Q I m o h;obtain⟨l,xs,rfl,rfl,j,q⟩:=h;cases m;have f:=o.zero;subst f;obtain⟨z,Q1,n,r,p,e⟩:=I.lstM j;refine call_meets F.slot_list_clear ⟨_,e,rfl⟩ F.entry_list_clear (F.args_list_clear_1 _) (AutoSeq1.list_clear_list_0 l Q1.toArray n (by rw[ZG];lia)) ⟨e,?_⟩
 exact⟨.non,_,I.lset j e rfl .nil (Nat.zero_le _),rfl,q⟩
def Nf:R2:=fun x y H Q=>∃l b xs zs,x=.ref l/\y=.ref b/\H l=some (.lst xs)/\H b=some (.lst zs)/\xs.length+zs.length<=sizeLine/\∀p,H p=none->Q (.ref p) (upd H p (.lst (xs++zs)))
theorem DZ:OpR X (binaryOp .Add) Nf:=by
 intro Q0 s σ H x y v u Q I m j h;obtain⟨l,b,xs,zs,rfl,rfl,t,B,G,q⟩:=h;cases m;cases j;obtain⟨z,Q1,n,r,J,e⟩:=I.lstM t;obtain⟨z2,f,n2,o,p,D⟩:=I.lstM B;refine PySem.P.add_list e D ?_ (by rw[ZG,ZG];lia)
 have C:Q1.toArray++f.toArray=(Q1++f).toArray:=by simp
 rw[C];exact⟨.ref _,_,I.lnew (r.append o) (by rw[Zl];lia),rfl,q _ I.fresh⟩
end
end L2
namespace Att
open PySem PySem.W PySem.Calls PyProof.Rows
variable {P:Params} {l:OpenLaw} {XP:(Str->Yg Yc)->Heap->Prop} {YP:World->Heap->Prop}
def oY{h}:∀f vs,WellAll P h vs (f.map WData.int)->IntsAre vs f:=by
 intro f
 induction f with
 |nil =>intro vs w;rw[Zw]at w;cases w;exact .nil
 |cons n f j =>
  intro vs w;rw[Zv]at w;cases w with
  |cons a b =>cases a;exact .cons _ _ (j _ b)
theorem Ac{n}(C:l.most=some n){h}{args}{vals}
 (j:l.row.toRowW.claim.pre args=true) (t:WellAll P h vals args) :
 ∃a vs f,vals=[Value.ref a]/\args=[WData.list (f.map WData.int)]/\h.get? a=some { cls:=.type "list",data:=.seq vs.toArray }/\IntsAre vs f/\f.length<=n:=by
 have u:WShape.hasAll [] args [.list .int]=true:=(pre_splitW j).1;have v:l.pre.holds [] { args:=args }=true:=(pre_splitW j).2;obtain⟨d,r,rfl,h1,h2⟩:=hasAllW_cons u;obtain rfl:=hasAllW_nil h2;obtain⟨xs,rfl,D⟩:=hasW_list h1;obtain⟨f,rfl⟩:=items_int D;have m:f.length<=n:=by
  unfold OpenLaw.pre at v;have s:(WTm.not (.lt (.lit (.int (n:Int))) (.len (.arg 0)))).holds [] { args:=[.list (f.map .int)] }=true:=by have s:=(holds_andW v).1;rw[C]at s;exact s
  have p:=condW_of s (w_not (w_lt w_lit (w_len_list (w_arg rfl))));rw[Zm]at p;refine Nat.le_of_not_lt fun q=>?_
  have z:(n:Int)<((f.length:Nat):Int):=by lia
  first
   |(rw[decide_eq_true z]at p;exact absurd p (by decide))
   |(simp at p;lia)
 cases t with
 |cons y x =>
  cases x;cases y with
  |list B o=>exact⟨_,_,f,rfl,rfl,B,oY f _ o,m⟩
def Av(l:OpenLaw)(args:Yh WData):l.row.toRowW.claim.post args (.bool true) args=true :=
 postW_of
  (show WShape.has [] (.bool true) .bool=true by first|rfl|decide|simp[WShape.arms])
  (w_eq_bool (w_res rfl) w_lit) rfl
def attach_call{n:Nat}{q:Program}{loose:Yh Str}{d:DefRec}
 (Q:l.most=some n) (B:d.params.defaults=[])
 (call:∀ (w:World) (m j:Yd) (mg mb:Str->Yg Yc) (fa:Ye) (o:Obj) (pm x X5:Yc) (a:Ye) (vs:Yh Yc) (v:Yh Int),
  Ground q loose [] XP w m mg mb j.heap->YP w j.heap ->
  j.heap.get? fa=some o->o.data=.func (docDef d.name d.params d.body d.scope pm x X5)->j.heap.CodeRec x d.name->mg d.name=some (.ref fa) ->
  j.heap.get? a=some { cls:=.type "list",data:=.seq vs.toArray }->IntsAre vs v->v.length<=n->j.gens = #[] ->
  codeAny (model l.prog w) callerA (.call (.ref fa) ⟨[.ref a],[]⟩) (fun r s'=>r=.ok (.ret (.bool true))/\OldK j.heap s'.heap/\s'.os=j.os/\AllBare s'.gens) j) :
 WalkO q loose XP YP l.row.toRowW d [] (fun f vs=>PySem.call f vs):=by
 intro w m j mg mb G Y fa o pm x X5 dV kV O X C I z V args D as s H J y U;obtain rfl:dV=.none:=Dflts.none I B;obtain rfl:kV=.none:=Dflts.noKw I;obtain⟨a,vs,v,rfl,rfl,t,p,u⟩:=Ac Q s y;refine enter_call (codeAny_mono (call w m j mg mb fa o pm x X5 a vs v G Y O (fd_plain X) C z t p u V) fun r s' L=>?_)
 obtain⟨rfl,h2,h3,Z⟩:=L;exact⟨.inl ⟨.bool true,.bool true,[],rfl,fun _=>rfl,.bool true,Av l _,fun _=>⟨List.Pairwise.nil,fun _ S=>(nomatch S)⟩⟩,h2,h3,Z⟩
end Att
namespace L2
open PySem PySem.Spec PyProof.Rows
variable {us vs ds Q1 X7:Yh Yc} {x name m qual:Str} {u v X5 pm Q9 oc:Yc} {H H':Hp} {a b C dx:Ye} {o e c tg X1:Expr} {P prog:Program} {w:World} {h h' base:Heap} {fs':Yh (Str×V)} {ex ex' ch fp:Yh Ye} {X:Cx} {Q0 pins':Yh (Ye×Obj)} {σ:St} {s s':Yd} {g':Array GenState} {t' i j k n:Nat} {d':Drawn} {N ps ks:Yh Str} {M:Model} {A:Around} {Q:Yc->Yd->Prop} {t:TA} {ta te tc:TE} {y:V} {ys X9:Yh V} {K:ZB} {f:Yc->Yc->Sem Yc} {st:Stmt} {es:Yh Expr} {X2 p tpos Q8:Pos} {body:Yh Stmt} {l:W.OpenLaw} {R:Result->Yd->Prop} {lo hi:Yg Expr} {pl:Sem Bool} {op op':CmpOp} {r r':Yh V->Hp->VK->Prop} {mA mg mb:Str->Yg Yc} {kw:Yh (Str×Yc)} {outer:Yh Env} {fd:FuncData} {CX:CXT} {sp:Sp} {kws:Yh Keyword} {nm:Yg Str} {gV:Yh V->Yh V->Yh V} {kindOf:Str->Yg NameKind} {scope:Scope} {an od:Yg Ye} {osl:Array (Yg Yc)} {T:String} {XP:(Str->Yg Yc)->Heap->Prop} {YP:World->Heap->Prop} {X3:Yh (Key×V)}
theorem rY:∀{vs}{ns},IntsAre vs ns->Vals (ns.map V.int) vs
 |_,_,.nil=>.nil
 |_,_,.cons n t h=>.cons ⟨t,rfl⟩ (rY h)
def MD(H:Hp):Prop:=∀b,H b=none\/∃o xs,H b=some (.frz o (.lst xs))
def Ek {fa:Ye} {f:Yd} {C:Yh Int}
 (KX:K.In f.heap) (J:f.heap.Ns mainGlobals mg) (l:f.heap.Ns builtinsNs mb) (X:∀x:Str,x≠"__name__"->mb x=bootBuiltins x) (L:f.heap.NoLimit) (hg:f.gens = #[])
 (Q:f.heap.get? a=some { cls:=.type "list",data:=.seq vs.toArray }) (hi:IntsAre vs C) (hl:C.length<=sizeLine) (hr:Room k callerA)
 (F:∀base:Heap,K.In base->base.Ns mainGlobals mg->i8 P w K mg base CX k fa fd [x] sp) (y:∀(s:Yd)(u:Yc),BindsTo s fd ⟨[u],[]⟩ [(x,u)])
 (U:∀H:Hp,MD H->SqL K H a (C.map V.int)->sp [.ref a] H (fun v _=>v=.bl true) fun _ _ _=>False)
 (Y:∀H e s',CX [] H f (fun _ _ _=>False) e s'->False) :
 codeAny (model P w) callerA (.call (.ref fa) ⟨[.ref a],[]⟩) (fun r s'=>r=.ok (.ret (.bool true))/\OldK f.heap s'.heap/\s'.os=f.os/\AllBare s'.gens) f:=by
 have rv:=rY hi;have D:=hi.length;have t:∀H:Hp,MD H->SqL K H a (C.map V.int)->HOk P w H f.heap->(∀b,H b≠none->b=a)->(H a≠none->K.lookup a=none) ->
  codeAny (model P w) callerA (.call (.ref fa) ⟨[.ref a],[]⟩) (fun r s'=>r=.ok (.ret (.bool true))/\OldK f.heap s'.heap/\s'.os=f.os/\AllBare s'.gens) f:=by
  intro H hO hS I hA hK;have j:∀{b:Ye}{o:Obj},f.heap.get? b=some o->H b=none->(uc f.heap H).get? b=some o:=fun e n=>ED e n
  have S:∀{b:Ye}{o:Obj}{es:Array DictEntry}{ep:Nat},f.heap.get? b=some o->o.data=.dict es ep->H b=none:=fun{b o es ep} e d=>by
   cases q:H b with
   |none=>rfl
   |some u =>
    have Z:b=a:=hA b (by rw[q];simp)
    subst Z;rw[Q]at e;cases e;have d':Data.seq vs.toArray _=Data.dict es ep:=d;cases d'
  have p:∀{b:Ye}{m:Str->Yg Yc},f.heap.Ns b m->(uc f.heap H).Ns b m:=fun{b m} ⟨o,es,ep,e,d,r⟩=>⟨o,es,ep,j e (S e d),d,r⟩
  have O:K.In (uc f.heap H):=fun b o e=>j (KX b o e) (by
   cases q:H b with
   |none=>rfl
   |some u =>
    have Z:b=a:=hA b (by rw[q];simp)
    subst Z;rw[hK (by rw[q];simp)]at e;cases e)
  have hM:Mod K mg (uc f.heap H):=⟨O,p J,⟨mb,p l,X⟩,let ⟨mc,h1,h2⟩:=L;⟨mc,p h1,h2⟩⟩;have e0:Env0 P w K mg (uc f.heap H) callerA [] f H:=⟨rfl,hM,fun b o e=>HE e,Nat.le_of_eq (Bc _ _),trivial,fun b l=>absurd (show b∈([]:Yh Ye)from l) (by simp),I,.of_eq hg⟩
  refine codeAny_mono ((F _ O (p J)).run callerA [] f H ⟨[.ref a],[]⟩ [.ref a] [.ref a] _ _ hr e0 (y f (.ref a)) (.cons rfl .nil) (U H hO hS)) fun r s' h=>?_
  cases r with
  |error e=>exact(Y H e s' h).elim
  | ok fl =>
   cases fl with
   |next=>exact Zzb h
   |brk=>exact Zzb h
   |cont=>exact Zzb h
   | ret u =>
    obtain⟨v,H',os,bare,un,G,r',q⟩:=h;have q':v=.bl true:=q;subst q';obtain rfl:u=Value.bool true:=r';refine⟨rfl,OldK.of_keep fun b o e=>?_,os,bare⟩
    cases q:H b with
    |none=>exact un.keep b o e q (by intro z;exact absurd (show b∈([]:Yh Ye)from z) (by simp)) (by simp)
    |some u =>
     rcases hO b with z|⟨ob,xs,z⟩
     . rw[q]at z;cases z
     . have z2:=un.frzs b ob _ z;obtain⟨e1,_⟩:=I b _ z;obtain⟨e2,_⟩:=G b _ z2;rw[e]at e1;cases e1;exact e2
 cases hk:K.lookup a with
 |some o =>have e:=KX a o hk;rw[Q]at e;cases e;refine t (fun _=>none) (fun _=>.inl rfl) (.inr ⟨_,vs.toArray,_,hk,rfl,rfl,rfl,by rw[ZG,D];exact hl,by simpa using rv⟩) (fun b u z=>by have B:(none:Yg HO)=some u:=z;cases B) (fun b z=>absurd rfl z) fun z=>absurd rfl z
 |none =>
  refine t (fun b=>if b=a then some (.frz { cls:=.type "list",data:=.seq vs.toArray } (.lst (C.map V.int)))else none) (fun b=>?_) (.inl (.inr ⟨{ cls:=.type "list",data:=.seq vs.toArray },if_pos rfl⟩)) (fun b u z=>?_) (fun b z=>?_) fun _=>hk
  . by_cases l:b=a
    . exact .inr ⟨_,_,if_pos l⟩
    . exact .inl (if_neg l)
  . by_cases l:b=a
    . have B:=(if_pos l).symm.trans z;cases B;subst l;exact⟨Q,by rw[Zm];exact hl,vs,_,rv,Q⟩
    . have B:=(if_neg l).symm.trans z;cases B
  . by_cases l:b=a
    . exact l
    . exact absurd (if_neg l) z
noncomputable abbrev CX0:CXT:=fun _ _ _ _ _ _=>False
abbrev E0:XK:=fun _ _ _=>False
def jL:ky CX0 X E0:=fun _ _ _ _ _ _ _ h=>h.elim
structure Fun(K:ZB)(x qual:Str)(st:Stmt)(f:Addr)(fd:FuncData):Prop where
 ex:∃(oc:Value)(od:Option Addr)(kV X5 pm:Value)(an:Option Addr)(Q9 ct:Value)(osl:Array (Option Value)),
  fd=W.fnOf x qual (eU st) (cE st) (aR st) .none kV X5 pm an Q9 ct/\K.lookup f=some ⟨oc,od,.func fd,osl⟩/\W.codeIn K Q9 qual=true
 kp:W.keepIn K (.ref f)=true
section
def Fun.ok{f:Ye}(F:Fun K x qual st f fd)(S:iN N ps (aR st))(len:∀vs H Q E,sp vs H Q E->vs.length=ps.length)
 (j:∀ (Q9:Yc) (A:Around) (outer:Yh Env) (s:Yd) (H:Hp) (vs:Yh V) (Q:VK) (E:XK),Room k (A.deeper (envOfC qual (aR st) s.heap.objs.size f Q9))->sp vs H Q E ->
  ∃t,PSs (qO CX0 P w K mg base N qual (aR st) f Q9 A outer s H E).nox (cE st) t/\t { nx:=fun _ H'=>Q .non H',rt:=Q } (start N vs) H):i8 P w K mg base CX0 (k+1) f fd ps sp:=by
 obtain⟨oc,od,kV,X5,pm,an,Q9,ct,osl,rfl,lk,m⟩:=F.ex;refine NU lk m S len fun A outer s H vs Q E o l=>?_
 obtain⟨t,h,q⟩:=j Q9 A outer s H vs Q E o l;exact⟨t,h.nox,q⟩
def Fun.binds{f}(F:Fun K x qual st f fd)
 (h:∀kV X5 pm an Q9 ct us,us.length=ps.length->bindArgs (W.fnOf x qual (eU st) (cE st) (aR st) .none kV X5 pm an Q9 ct) ⟨us,[]⟩=pure (ps.zip us)):Binds K fd ps []:=by
 obtain⟨oc,od,kV,X5,pm,an,Q9,ct,osl,rfl,lk,j⟩:=F.ex;exact .all (h kV X5 pm an Q9 ct)
def LX{f}{kV ct}(l:K.lookup f=some ⟨oc,od,.func (W.fnOf x qual (eU st) (cE st) (aR st) .none kV X5 pm an Q9 ct),osl⟩)
 (c:W.codeIn K Q9 qual=true) (k:W.keepIn K (.ref f)=true):Fun K x qual st f (W.fnOf x qual (eU st) (cE st) (aR st) .none kV X5 pm an Q9 ct):=⟨⟨oc,od,kV,X5,pm,an,Q9,ct,osl,rfl,l,c⟩,k⟩
end
def nG(h:n<=1000):n<sizeLine:=Nat.lt_of_le_of_lt h (by decide)
def Same(H H':Hp):Prop:=∀b o,H b=some o->H' b=some o
def Same.refl(H):Same H H:=fun _ _ h=>h
def Same.trans{H1 H2}(a:Same H H1)(b:Same H1 H2):Same H H2:=fun c o h=>b c o (a c o h)
def Same.seq{K}{H H'}{a}{xs}(e:Same H H')(h:SqL K H a xs):SqL K H' a xs:=by
 rcases h with(h|⟨o,h⟩)|h
 . exact .inl (.inl (e _ _ h))
 . exact .inl (.inr ⟨o,e _ _ h⟩)
 . exact .inr h
end L2
namespace Dl
open PySem PySem.Spec PyProof.Rows L2
variable {X:Cx} {i t' n j k:Nat} {x qual y m z:Str} {P prog:Program} {w:World} {H H' H₂ H1 H2:Hp} {s s' s₂:Yd} {l a e b c tg iter:Expr} {B A fp:Yh Ye} {h' base:Heap} {K:ZB} {mg:Str->Yg Yc} {N T:Yh Str} {scope:Scope} {vs ys:Yh V} {σ:L2.St} {t C it:Ye} {p p2:Pos} {r r':Yh V->Hp->VK->Prop} {Q:Yc->Yd->Prop} {op:CmpOp} {es:Yh Expr} {v:V} {st:Stmt} {lo hi:Yg Expr} {Q0:Yh (Ye×Obj)} {cl:Yh (Str×Ye)} {js:Yh Nat} {R:Result->Yd->Prop} {S:Nat->Heap->Prop}
noncomputable def nmB (X:Cx) (i:Nat) (x:Str):Bool:=decide (X.N[i]?=some x)&&(match X.env.scope.names.lookup x with|some .local=>true|some .cell=>true|some .free=>true|_=>false) && !(x==("__debug__":Str)) && !(x==("__classdict__":Str))
abbrev NmX(X:Cx)(i:Nat)(x:Str):Prop:=nmB X i x=true
def iV{pos}(h:NmX X i x):PE X (.Name x pos) (Cb i):=by simp only[NmX,nmB,ZN,Bool.not_eq_true',decide_eq_true_eq]at h;obtain⟨⟨⟨h1,h2⟩,j⟩,f⟩:=h;refine KU h1 ?_ j f;unfold Vis;split at h2<;>first|simp[*];done|cases h2
noncomputable def ND(sc:Scope)(x:Str):Bool:=match sc.names.lookup x with|some .local=>true|some .cell=>true|_=>false
def loX{sc}(h:ND sc x=true):Loc sc x:=by unfold ND at h;unfold L2.Loc;split at h<;>first|simp[*];done|cases h
abbrev FoX(X:Cx)(x:Str):Prop:=X.fn x=true\/X.env.scope.names.lookup x=some .local
def foX(h:(X.fn x||decide (X.env.scope.names.lookup x=some .local))=true):FoX X x:=by simpa using h
abbrev PlX(X:Cx)(e:Expr)(es:List Expr):Prop:=starEach (e::es) X.env=(false,eval e X.env)::starEach es X.env
abbrev BkX(X:Cx)(pos:Pos)(es:List Expr):Prop:=(backTo pos (starEach es X.env)).any (·.1)=false
abbrev NbX (x:Str):Prop:=(x==("__debug__":Str))=false
abbrev FsX(X:Cx)(it:Expr):Prop:=∀v,foldedSetIterable it X.env v=pure v
inductive D where
 |non
 |bl (b:Bool)
 |int (i:Int)
 |str (x:Str)
 |tup (ds:List D)
 |lst (ds:List D)
 |seq (ds:List D)
 |ty (n:String)
 |dct
 |cls (C:Addr)
 |ob (C:Addr) (xs:List Str) (ds:List D)
 |oo (C:Addr) (xs:List Str) (ds:List D)
 |any
 |tin
noncomputable def FU (a:Addr):HO:=.ext fun h=>∃o,h.get? a=some o/\o.cls=.type "dict"
mutual
inductive Rep(K:ZB)(H:Hp):V->D->Prop
 |non:Rep K H .non .non
 |bl (b:Bool):Rep K H (.bl b) (.bl b)
 |int (i:Int):Rep K H (.int i) (.int i)
 |str (x:Str):Rep K H (.str x) (.str x)
 |ty (n:String):Rep K H (.ty n) (.ty n)
 |tup {a:Addr} {vs:List V} {ds:List D} (h:SqT K H a vs) (r:Reps K H vs ds):Rep K H (.ref a) (.tup ds)
 |lst {a:Addr} {vs:List V} {ds:List D} (h:H a=some (.lst vs)) (r:Reps K H vs ds):Rep K H (.ref a) (.lst ds)
 |seq {a:Addr} {vs:List V} {ds:List D} (h:SqL K H a vs) (r:Reps K H vs ds):Rep K H (.ref a) (.seq ds)
 |dct {a:Addr} (h:H a=some (FU a)):Rep K H (.ref a) .dct
 |cls (C:Addr):Rep K H (.ref C) (.cls C)
 |ob {a C dx:Addr} {xs:List Str} {vs:List V} {ds:List D} (h:H a=some (.ins C dx (xs.zip vs))) (l:xs.length=ds.length) (r:Reps K H vs ds):Rep K H (.ref a) (.ob C xs ds)
 |oo {a C dx:Addr} {xs:List Str} {vs:List V} {ds:List D} (h:H a=some (.ins C dx (xs.zip vs))) (l:xs.length=ds.length) (r:Reps K H vs ds):Rep K H (.ref a) (.oo C xs ds)
 |any (a:Addr):Rep K H (.ref a) .any
 |tin {a:Addr} {ns:List Int} (h:SqT K H a (ns.map V.int)) (n:ns≠[]):Rep K H (.ref a) .tin
inductive Reps(K:ZB)(H:Hp):List V->List D->Prop
 |nil:Reps K H [] []
 |cons {v:V} {d:D} {vs:List V} {ds:List D} (r:Rep K H v d) (t:Reps K H vs ds):Reps K H (v::vs) (d::ds)
end
def fZ{a}{xs}(e:Same H H')(h:SqT K H a xs):SqT K H' a xs:=by
 rcases h with(h|⟨o,h⟩)|h
 . exact .inl (.inl (e _ _ h))
 . exact .inl (.inr ⟨o,e _ _ h⟩)
 . exact .inr h
def Rep.both{P:V->D->Prop}{Q:Yh V->Yh D->Prop}(I:P .non .non)(G:∀b,P (.bl b) (.bl b))(B:∀i,P (.int i) (.int i))(z:∀x,P (.str x) (.str x))(y:∀n,P (.ty n) (.ty n))(u:∀{a vs ds},SqT K H a vs->Reps K H vs ds->Q vs ds->P (.ref a) (.tup ds))(t:∀{a vs ds},H a=some (.lst vs)->Reps K H vs ds->Q vs ds->P (.ref a) (.lst ds))(s:∀{a vs ds},SqL K H a vs->Reps K H vs ds->Q vs ds->P (.ref a) (.seq ds))(q:∀{a},H a=some (FU a)->P (.ref a) .dct)(p:∀C,P (.ref C) (.cls C))(o:∀{a C dx xs vs ds},H a=some (.ins C dx (xs.zip vs))->xs.length=ds.length->Reps K H vs ds->Q vs ds->P (.ref a) (.ob C xs ds))(m:∀{a C dx xs vs ds},H a=some (.ins C dx (xs.zip vs))->xs.length=ds.length->Reps K H vs ds->Q vs ds->P (.ref a) (.oo C xs ds))(l:∀a,P (.ref a) .any)(j:∀{a ns},SqT K H a (ns.map V.int)->ns≠[]->P (.ref a) .tin)(ce:Q [] [])(f:∀{v d vs ds},Rep K H v d->Reps K H vs ds->P v d->Q vs ds->Q (v::vs) (d::ds)):(∀{v d},Rep K H v d->P v d)/\∀{vs ds},Reps K H vs ds->Q vs ds :=
 ⟨fun r=>r.rec (motive_1:=fun v d _=>P v d) (motive_2:=fun v d _=>Q v d) I G B z y u t s q p o m l j ce f,fun r=>r.rec (motive_1:=fun v d _=>P v d) (motive_2:=fun v d _=>Q v d) I G B z y u t s q p o m l j ce f⟩
def Reps.ind{Q:∀vs ds,Reps K H vs ds->Prop}(nil:Q [] [] .nil)(cons:∀{v d vs ds} r t,Q vs ds t->Q (v::vs) (d::ds) (.cons r t)){vs}{ds}(r:Reps K H vs ds):Q vs ds r:=by refine r.rec (motive_1:=fun _ _ _=>True) (motive_2:=Q) ?_ ?_ ?_ ?_ ?_ ?_ ?_ ?_ ?_ ?_ ?_ ?_ ?_ ?_ nil fun r t _=>cons r t<;>intros<;>trivial
def Rep.mono_(e:Same H H'):(∀{v}{d},Rep K H v d->Rep K H' v d)/\∀{vs}{ds},Reps K H vs ds->Reps K H' vs ds :=
 Rep.both .non .bl .int .str .ty (fun h _=>.tup (fZ e h)) (fun h _=>.lst (e _ _ h)) (fun h _=>.seq (e.seq h)) (fun h=>.dct (e _ _ h)) .cls (fun h l _=>.ob (e _ _ h) l) (fun h l _=>.oo (e _ _ h) l) .any (fun h n=>.tin (fZ e h) n) .nil fun _ _=>.cons
def Rep.mono(e:Same H H'):∀{v}{d},Rep K H v d->Rep K H' v d:=(Rep.mono_ e).1
def Reps.mono(e:Same H H'):∀{vs}{ds},Reps K H vs ds->Reps K H' vs ds:=(Rep.mono_ e).2
def Reps.length{vs}{ds}(r:Reps K H vs ds):vs.length=ds.length:=by
 induction r using Reps.ind with
 |nil=>rfl
 |cons _ _ f=>exact congrArg (· + 1) f
def Reps.get{vs}{ds}{i:Nat}{d}(r:Reps K H vs ds):ds[i]?=some d->∃v,vs[i]?=some v/\Rep K H v d:=by
 induction r using Reps.ind generalizing i with
 |nil=>exact fun e=>nomatch e
 |cons r _ f =>
  cases i with
  |zero=>intro e;cases e;exact⟨_,rfl,r⟩
  |succ i=>exact f
def Reps.getV{vs}{ds}{i:Nat}{v}(r:Reps K H vs ds):vs[i]?=some v->∃d,ds[i]?=some d/\Rep K H v d:=by
 induction r using Reps.ind generalizing i with
 |nil=>exact fun e=>nomatch e
 |cons r _ f =>
  cases i with
  |zero=>intro e;cases e;exact⟨_,rfl,r⟩
  |succ i=>exact f
def Reps.append{vs us}{ds es}(r:Reps K H vs ds)(s:Reps K H us es):Reps K H (vs++us) (ds++es):=by
 induction r using Reps.ind with
 |nil=>exact s
 |cons r _ f=>exact .cons r f
def Reps.take{vs}{ds}(n) (r:Reps K H vs ds):Reps K H (vs.take n) (ds.take n):=by
 induction r using Reps.ind generalizing n with
 |nil=>cases n<;>exact .nil
 |cons r t f =>
  cases n with
  |zero=>exact .nil
  |succ n=>exact .cons r (f n)
def Reps.drop{vs}{ds}(n) (r:Reps K H vs ds):Reps K H (vs.drop n) (ds.drop n):=by
 induction r using Reps.ind generalizing n with
 |nil=>cases n<;>exact .nil
 |cons r t f =>
  cases n with
  |zero=>exact .cons r t
  |succ n=>exact f n
theorem Reps.ints:∀(f:Yh Int),Reps K H (f.map V.int) (f.map D.int)
 |[]=>.nil
 |n::r=>.cons (.int n) (Reps.ints r)
@[simp] noncomputable def asB:D->Option Bool
  |.bl b=>some b
  |_=>none
@[simp] noncomputable def oI:D->Option Int
  |.int b=>some b
  |_=>none
@[simp] noncomputable def oS:D->Option Str
  |.str b=>some b
  |_=>none
@[simp] noncomputable def kd:D->Option (Bool×List D)
  |.tup ds=>some (true,ds)
  |.lst ds=>some (false,ds)
  |.seq ds=>some (false,ds)
  |_=>none
def Rep.asB{v}{d}{b}(r:Rep K H v d)(e:asB d=some b):v=.bl b/\d=.bl b:=by cases r<;>cases e;exact⟨rfl,rfl⟩
def Rep.oI{v}{d}{b}(r:Rep K H v d)(e:oI d=some b):v=.int b/\d=.int b:=by cases r<;>cases e;exact⟨rfl,rfl⟩
def Rep.oS{v}{d}{b}(r:Rep K H v d)(e:oS d=some b):v=.str b/\d=.str b:=by cases r<;>cases e;exact⟨rfl,rfl⟩
def Rep.kd{v}{d}{t}(r:Rep K H v d)(e:kd d=some (t,ds)):∃p vs,v=.ref p/\(bif t then SqT K H p vs else SqL K H p vs)/\Reps K H vs ds:=by
 cases r<;>cases e
 case tup h r=>exact⟨_,_,rfl,h,r⟩
 case lst h r=>exact⟨_,_,rfl,SqL.of h,r⟩
 case seq h r=>exact⟨_,_,rfl,h,r⟩
theorem Reps.atI{i}{d:D}(r:Reps K H vs ds)(e:L2.atI ds i=some d):∃v,L2.atI vs i=some v/\Rep K H v d:=by unfold L2.atI at e ⊢;rw[<- r.length]at e;obtain⟨j,h1,h2⟩:=Za.mp e;obtain⟨v,l,f⟩:=r.get h2;exact⟨v,by rw[h1];exact l,f⟩
abbrev DS:=List (Option D)
structure RepS(K:ZB)(H:Hp)(σ:L2.St)(δ:DS):Prop where
 len:σ.length=δ.length
 val:∀(i:Nat)(d:D),δ[i]?=some (some d)->∃v,σ[i]?=some (some v)/\Rep K H v d
theorem RepS.mono(e:Same H H')(h:RepS K H σ δ):RepS K H' σ δ :=
 ⟨h.len,fun i d q=>let ⟨v,a,b⟩:=h.val i d q;⟨v,a,b.mono e⟩⟩
abbrev FD:=DS->Option D
def up(K:ZB)(f:FD):TE:=fun σ H Q=>∃δ d,RepS K H σ δ/\f δ=some d/\∀v H',Same H H'->Rep K H' v d->Q v H'
def PD(X:Cx)(e:Expr)(f:FD):Prop:=PE X e (up X.K f)
def imp{t t':TE}(h:PE X e t)(w:∀σ H Q,t' σ H Q->t σ H Q):PE X e t':=fun Q0 s σ H Q I q=>h Q0 s σ H Q I (w σ H Q q)
def gj{t}{f}(h:PE X e t)(w:∀{σ H Q δ d},RepS X.K H σ δ->f δ=some d->(∀v H',Same H H'->Rep X.K H' v d->Q v H')->t σ H Q):PD X e f:=imp h fun _ _ _ h=>h.elim fun _ h=>h.elim fun _ h=>w h.1 h.2.1 h.2.2
def bv{p}(h:H p=none)(o):Same H (upd H p o):=fun b u q=>by rw[aF (bh q h)];exact q
noncomputable def ab(i:Nat):FD:=fun δ=>match δ[i]? with
 |some (some d)=>some d
 |_=>none
def fC(d:D):FD:=fun _=>some d
noncomputable def f2(g:D->D->Option D)(fa fb:FD):FD:=fun δ=>(fa δ).bind fun x=>(fb δ).bind fun y=>g x y
noncomputable def f1(g:D->Option D)(fa:FD):FD:=fun δ=>(fa δ).bind g
section
variable {pos:Pos}
def K5(i) (f:NmX X i x:=by kernel_rfl):PD X (.Name x pos) (ab i) :=
 gj (iV f) fun{σ H Q δ d} R e k=>by
  unfold ab at e;split at e
  . rename_i d' h;cases e;obtain⟨v,h1,h2⟩:=R.val i _ h;exact⟨v,h1,k v H (Same.refl H) h2⟩
  . cases e
def Lj{i j}:PD X (.Constant (.int i) j pos) (fC (.int i)):=gj K2 fun{σ H Q δ d} R e k=>by cases e;exact k _ H (Same.refl H) (.int i)
def Nz{b j}:PD X (.Constant (.bool b) j pos) (fC (.bl b)):=gj Nq fun{σ H Q δ d} R e k=>by cases e;exact k _ H (Same.refl H) (.bl b)
def Lb{j}:PD X (.Constant .none j pos) (fC .non):=gj K1 fun{σ H Q δ d} R e k=>by cases e;exact k _ H (Same.refl H) .non
def DP{x j}:PD X (.Constant (.str x) j pos) (fC (.str x)):=gj KY fun{σ H Q δ d} R e k=>by cases e;exact k _ H (Same.refl H) (.str x)
def vn {n} (m:Gl X x) (l:X.mg x=none) (f:bootBuiltins x=some (.type n)) (j:x≠"__name__":=by decide) (o:NbX x:=by kernel_rfl):PD X (.Name x pos) (fC (.ty n)) :=
 gj (Hn (v:=.ty n) m l f rfl j o) fun{σ H Q δ d} R e k=>by cases e;exact k _ H (Same.refl H) (.ty n)
def R2D(K:ZB)(r:R2)(g:D->D->Option D):Prop :=
 ∀(x y:V)(H:Hp)(Q:VK)(a b d:D),Rep K H x a->Rep K H y b->g a b=some d->(∀w H',Same H H'->Rep K H' w d->Q w H')->r x y H Q
def Ie{r}{g}(p:R2D X.K r g){Q}(h:up X.K (f2 g fa fb) σ H Q):tOp r (up X.K fa) (up X.K fb) σ H Q:=by obtain⟨δ,d,R,e,k⟩:=h;unfold f2 at e;obtain⟨x,ex,e⟩:=Za.mp e;obtain⟨y,q,e⟩:=Za.mp e;exact⟨δ,x,R,ex,fun v H1 j o=>⟨δ,y,R.mono j,q,fun w H2 f m=>p v w H2 Q x y d (o.mono f) m e fun z H' l=>k z H' ((j.trans f).trans l)⟩⟩
def qe{op}{r}{g}(f:OpR X (binaryOp op) r)(j:R2D X.K r g)(m:PD X a fa)(l:PD X b fb):PD X (.BinOp a op b pos) (f2 g fa fb) :=
 imp (yR f m l) fun _ _ _=>Ie j
def jf{r}{g}(f:OpR X (compareOp op) r)(l:R2D X.K r g)(o:PD X a fa)(m:PD X b fb)(j:behindInMarks op b=false):PD X (.Compare a [op] [b] pos) (f2 g fa fb) :=
 imp (yT f o m j) fun _ _ _=>Ie l
def Li{r}{g}(j:IxR X r)(l:R2D X.K r g)(o:PD X a fa)(m:PD X b fb)(f:iG b):PD X (.Subscript a b pos) (f2 g fa fb) :=
 imp (sA j o m f) fun _ _ _=>Ie l
theorem R2D.or{r r'}{g g'}(h:R2D K r g)(h':R2D K r' g'):R2D K (fun x y H Q=>r x y H Q\/r' x y H Q) (fun a b=>(g a b).or (g' a b)):=by
 intro x y H Q a b d l j e k;cases q:g a b with
 |some z =>have f:(g a b).or (g' a b)=some d:=e;rw[q]at f;cases f;exact .inl (h x y H Q a b _ l j q k)
 |none =>have f:(g a b).or (g' a b)=some d:=e;rw[q]at f;exact .inr (h' x y H Q a b d l j f k)
end
def Bd(x:Int):Prop:=x.natAbs<2^9000
instance(x:Int):Decidable (Bd x):=by unfold Bd;exact inferInstance
def Bd.bits{x}(h:Bd x):Builtin.Int.intBits x<=2^20:=by
 have h':x.natAbs<2^(2^20):=ZD h (Nat.pow_le_pow_right (by decide) (by decide))
 exact PySem.intBits_le_iff.mpr h'
theorem Bd.log{x}(h:Bd x)(h0:x≠0):x.natAbs.log2<9000:=(Nat.log2_lt (by lia)).mpr h
section
def kB(i j:Int):Prop:=Bd i/\Bd j
def yY:OpR X (binaryOp .Mult) (rI kB fun i j=>.int (i*j)):=opI fun _ _ _ _ _ _ _ f q=>mul_int q (.of_bits f.1.bits f.2.bits)
def oU(_ j:Int):Prop:=0<j/\Bd j
theorem DY:OpR X (binaryOp .FloorDiv) (rI oU fun i j=>.int (i/j)):=opI fun i j _ _ _ _ _ f q=>by have h1:=f.1;exact floordiv_int (by lia) (by rw[Int.fdiv_eq_ediv_of_nonneg i (by lia)];exact q) (.inl (PyProof.noPylong_of_log2 (f.2.log (by lia))))
def gI0(g:Int->Int->D)(a b:D):Option D:=(oI a).bind fun i=>(oI b).bind fun j=>some (g i j)
def gI(C:Int->Int->Prop)[∀i j,Decidable (C i j)](g:Int->Int->D)(a b:D):Option D:=(oI a).bind fun i=>(oI b).bind fun j=>if C i j then some (g i j)else none
instance(i j:Int):Decidable (kB i j):=by unfold kB;exact inferInstance
instance(i j:Int):Decidable (oU i j):=by unfold oU;exact inferInstance
instance(i j:Int):Decidable (CPow i j):=by unfold CPow;exact inferInstance
def mJ{g}(h:∀H i j,Rep K H (g i j) (g' i j)):R2D K (rI0 g) (gI0 g'):=by intro x y H Q a b d l f e k;obtain⟨i,ei,e⟩:=Za.mp e;obtain⟨j,m,e⟩:=Za.mp e;cases e;exact⟨i,j,(l.oI ei).1,(f.oI m).1,k _ H (Same.refl H) (h H i j)⟩
def CO{C:Int->Int->Prop}[∀i j,Decidable (C i j)]{g}(h:∀H i j,Rep K H (g i j) (g' i j)):R2D K (rI C g) (gI C g'):=by
 intro x y H Q a b d l f e k;obtain⟨i,ei,e⟩:=Za.mp e;obtain⟨j,m,e⟩:=Za.mp e;split at e
 . cases e;exact⟨i,j,(l.oI ei).1,(f.oI m).1,‹_›,k _ H (Same.refl H) (h H i j)⟩
 . cases e
end
noncomputable def NT:D->D->Option D
 |.lst xs,.lst ys=>if xs.length+ys.length<=1000 then some (.lst (xs++ys))else none
 |_,_=>none
def eQ(h:n<=1000):n<=sizeLine:=Nat.le_of_lt (nG h)
def CL:R2D K Nf NT:=by
 intro x y H Q a b d t r e k;cases t with
 | @lst p xs ds v o =>
  cases r with
  |@lst q ys es u m =>
   have f:(if ds.length+es.length<=1000 then some (D.lst (ds++es))else none)=some d:=e
   by_cases j:ds.length+es.length<=1000
   . rw [if_pos j] at f;cases f;refine ⟨p,q,xs,ys,rfl,rfl,v,u,eQ (by rw [o.length,m.length];exact j),fun l z=>?_⟩
     have s:=bv z (.lst (xs++ys));exact k _ _ s (.lst aH ((o.append m).mono s))
   . rw[if_neg j]at f;cases f
  |_=>cases e
 |_=>cases e
def OU:D->D->Option D:=fun a b=>(gI0 (fun i j=>.int (i+j)) a b).or (NT a b)
def gIx(a b:D):Option D:=(kd a).bind fun p=>(oI b).bind fun i=>L2.atI p.2 i
def Jo:R2D K (fun x y H Q=>Na K x y H Q\/M8 K x y H Q) gIx:=by
 intro x y H Q a b d l f e k;obtain⟨⟨t,ds⟩,m,e⟩:=Za.mp e;obtain⟨i,ei,e⟩:=Za.mp e;obtain⟨p,vs,rfl,h,j⟩:=l.kd m;obtain⟨v,h1,h2⟩:=j.atI e;have z:=k v H (Same.refl H) h2;cases t with
 |true=>exact .inr ⟨p,vs,i,v,rfl,(f.oI ei).1,h,h1,z⟩
 |false=>exact .inl ⟨p,vs,i,v,rfl,(f.oI ei).1,h,h1,z⟩
section
variable {pos:Pos}
def K7(l:PD X a fa)(f:PD X b fb):PD X (.BinOp a .Sub b pos) (f2 (gI0 fun i j=>.int (i-j)) fa fb):=qe DW (mJ fun _ _ _=>.int _) l f
def Le(l:PD X a fa)(f:PD X b fb):PD X (.BinOp a .Mult b pos) (f2 (gI kB fun i j=>.int (i*j)) fa fb):=qe yY (CO fun _ _ _=>.int _) l f
def Hx(l:PD X a fa)(f:PD X b fb):PD X (.BinOp a .FloorDiv b pos) (f2 (gI oU fun i j=>.int (i/j)) fa fb):=qe DY (CO fun _ _ _=>.int _) l f
def Lf(l:PD X a fa)(f:PD X b fb):PD X (.BinOp a .Mod b pos) (f2 (gI (fun _ j=>0<j) fun i j=>.int (i%j)) fa fb):=qe Lu (CO fun _ _ _=>.int _) l f
def K8(l:PD X a fa)(f:PD X b fb):PD X (.BinOp a .Pow b pos) (f2 (gI CPow fun i j=>.int (i^j.toNat)) fa fb):=qe Ls (CO fun _ _ _=>.int _) l f
def Nu(l:PD X a fa)(j:PD X b fb)(f:iG b:=by intro _ _;rfl):PD X (.Subscript a b pos) (f2 gIx fa fb):=Li (ix_list.or t8) Jo l j f
noncomputable def fF:D->Option D
 |.int i=>some (.int (-i))
 |_=>none
def Lc(l:PD X a fa):PD X (.UnaryOp .USub a pos) (f1 fF fa):=gj (No JQ l) fun{σ H Q δ d} R e k=>by
 unfold f1 at e;obtain⟨x,ex,e⟩:=Za.mp e;refine⟨δ,x,R,ex,fun v H1 f j=>?_⟩
 cases j with
 |int i=>cases e;exact⟨i,rfl,k _ H1 f (.int _)⟩
 |_=>cases e
end
abbrev FT:=DS->Option Bool
def upT(K:ZB)(f:FT):TT:=fun σ H Q=>∃δ b,RepS K H σ δ/\f δ=some b/\∀H',Same H H'->Q b H'
def PTD(X:Cx)(e:Expr)(f:FT):Prop:=PT X e (upT X.K f)
def PWD(X:Cx)(e:Expr)(f:FT):Prop:=PW X e (upT X.K f)
def Bb{t t':TT}(h:PT X e t)(w:∀σ H Q,t' σ H Q->t σ H Q):PT X e t':=fun Q0 s σ H Q I q=>h Q0 s σ H Q I (w σ H Q q)
def NO{t}{f}(h:PT X e t)(w:∀{σ H Q δ b},RepS X.K H σ δ->f δ=some b->(∀H',Same H H'->Q b H')->t σ H Q):PTD X e f:=Bb h fun _ _ _ h=>h.elim fun _ h=>h.elim fun _ h=>w h.1 h.2.1 h.2.2
def NM{t t'}(h:PW X e t)(w:∀σ H Q,t' σ H Q->t σ H Q):PW X e t':=fun f Q0 s σ H Q I q=>h f Q0 s σ H Q I (w σ H Q q)
def Jx{t}{f}(h:PW X e t)(w:∀{σ H Q δ b},RepS X.K H σ δ->f δ=some b->(∀H',Same H H'->Q b H')->t σ H Q):PWD X e f:=NM h fun _ _ _ h=>h.elim fun _ h=>h.elim fun _ h=>w h.1 h.2.1 h.2.2
def fT(f:FD):FT:=fun δ=>(f δ).bind asB
noncomputable def fG(f:FT):FT:=fun δ=>(f δ).map not
noncomputable def j6(f g:FT):FT:=fun δ=>(f δ).bind fun b=>match b with
 |true=>g δ
 |false=>some false
noncomputable def iX(f g:FT):FT:=fun δ=>(f δ).bind fun b=>match b with
 |true=>some true
 |false=>g δ
section
variable {ta tb:FT} {Q7:Yh Expr} {pos:Pos}
def yd{t:TE}(w:∀σ H Q,up K f σ H Q->t σ H Q){Q:Bool->Hp->Prop}(h:upT K (fT f) σ H Q):t σ H fun x H1=>∃c,x=.bl c/\Q c H1:=by obtain⟨δ,b,R,e,k⟩:=h;unfold fT at e;obtain⟨d,j,e⟩:=Za.mp e;exact w σ H _ ⟨δ,d,R,j,fun v H' s r=>⟨b,(r.asB e).1,k H' s⟩⟩
def GW(h:PD X e f)(l:∀j,isTrue e X.env j=(do let v <- j;standAt e.pos;holding [v] (truthy v)):=by intro _;rfl):PTD X e (fT f) :=
 Bb (w4 h l) fun _ _ _ q=>yd (fun _ _ _ z=>z) q
def gF{r}{g}(f:OpR X (compareOp op) r)(l:R2D X.K r g)(o:PD X a fa)(m:PD X b fb)(j:behindInMarks op b=false):PTD X (.Compare a [op] [b] pos) (fT (f2 g fa fb)) :=
 Bb (yM f o m j) fun _ _ _ q=>yd (fun _ _ _ z=>Ie l z) q
def GX(f:PTD X a ta):PTD X (.UnaryOp .Not a pos) (fG ta):=NO (Kw f) fun{σ H Q δ b} R e k=>by unfold fG at e;obtain⟨c,j,e⟩:=Zb.mp e;exact⟨δ,c,R,j,fun H' s=>by have:=k H' s;rw[<- e]at this;exact this⟩
def PWD.pt(h:PWD X e ta):PTD X e ta:=h _
def CQ(f:PTD X a ta):PWD X (.BoolOp .And [a] pos) ta:=pw_and1 f
def GF(f:PTD X a ta):PWD X (.BoolOp .Or [a] pos) ta:=Kh f
def GG(l:PTD X a ta)(j:PWD X (.BoolOp .And (b::Q7) pos) tb):PWD X (.BoolOp .And (a::b::Q7) pos) (j6 ta tb):=Jx (pw_and l j) fun{σ H Q δ c} R e k=>by
 unfold j6 at e;obtain⟨d,m,e⟩:=Za.mp e;refine⟨δ,d,R,m,fun H' s=>?_⟩
 cases d with
 |true=>exact⟨δ,c,R.mono s,e,fun H2 f=>k H2 (s.trans f)⟩
 |false=>cases e;exact k H' s
def Kc(l:PTD X a ta)(j:PWD X (.BoolOp .Or (b::Q7) pos) tb):PWD X (.BoolOp .Or (a::b::Q7) pos) (iX ta tb):=Jx (Ng l j) fun{σ H Q δ c} R e k=>by
 unfold iX at e;obtain⟨d,m,e⟩:=Za.mp e;refine⟨δ,d,R,m,fun H' s=>?_⟩
 cases d with
 |false=>exact⟨δ,c,R.mono s,e,fun H2 f=>k H2 (s.trans f)⟩
 |true=>cases e;exact k H' s
def g7(f g:FD):FD:=fun δ=>(f δ).bind fun x=>(asB x).bind fun b=>if b=true then g δ else some (.bl false)
def ui(f g:FD):FD:=fun δ=>(f δ).bind fun x=>(asB x).bind fun b=>if b=true then some (.bl true)else g δ
def Ij(d:D):Option D:=(asB d).bind fun b=>some (.bl (!b))
def K9{op}(h:PD X a f):PD X (.BoolOp op [a] pos) f:=KZ h
def Lr(o:PD X a fa)(m:PD X (.BoolOp .And (b::Q7) pos) fb):PD X (.BoolOp .And (a::b::Q7) pos) (g7 fa fb):=gj (K4 o m) fun{σ H Q δ d} R e k=>by
 unfold g7 at e;obtain⟨x,ex,e⟩:=Za.mp e;obtain⟨c,p,e⟩:=Za.mp e;refine⟨δ,x,R,ex,fun v H1 f l=>⟨c,(l.asB p).1,?_⟩⟩
 cases c with
 |true=>rw[if_pos rfl];exact⟨δ,d,R.mono f,e,fun w H2 j=>k w H2 (f.trans j)⟩
 |false=>rw[if_neg ZC];cases e;exact k _ H1 f (.bl false)
def Nr(o:PD X a fa)(m:PD X (.BoolOp .Or (b::Q7) pos) fb):PD X (.BoolOp .Or (a::b::Q7) pos) (ui fa fb):=gj (Np o m) fun{σ H Q δ d} R e k=>by
 unfold ui at e;obtain⟨x,ex,e⟩:=Za.mp e;obtain⟨c,p,e⟩:=Za.mp e;refine⟨δ,x,R,ex,fun v H1 f l=>⟨c,(l.asB p).1,?_⟩⟩
 cases c with
 |true=>rw[if_pos rfl];cases e;exact k _ H1 f (.bl true)
 |false=>rw[if_neg ZC];exact⟨δ,d,R.mono f,e,fun w H2 j=>k w H2 (f.trans j)⟩
def La(l:PD X a fa):PD X (.UnaryOp .Not a pos) (f1 Ij fa):=gj (K0 l) fun{σ H Q δ d} R e k=>by unfold f1 at e;obtain⟨x,ex,e⟩:=Za.mp e;obtain⟨c,m,e⟩:=Za.mp e;cases e;exact⟨δ,x,R,ex,fun v H1 f j=>⟨c,(j.asB m).1,k _ H1 f (.bl _)⟩⟩
end
abbrev FA:=DS->Option (List D)
def upA(K:ZB)(n:Nat)(f:FA):TA:=fun σ H Q=>∃δ ds,RepS K H σ δ/\f δ=some ds/\∀vs H',Same H H'->Reps K H' vs ds->vs.length=n->Q vs H'
def PAD(X:Cx)(es:List Expr)(f:FA):Prop:=PA X es (upA X.K es.length f)
def EC{t t'}(h:PA X es t)(w:∀σ H Q,t' σ H Q->t σ H Q):PA X es t':=fun pos Q0 s σ H Q I q=>h pos Q0 s σ H Q I (w σ H Q q)
def JB{t}{f}(h:PA X es t)(w:∀{σ H Q δ ds},RepS X.K H σ δ->f δ=some ds->(∀vs H',Same H H'->Reps X.K H' vs ds->vs.length=es.length->Q vs H')->t σ H Q):PAD X es f:=EC h fun _ _ _ h=>h.elim fun _ h=>h.elim fun _ h=>w h.1 h.2.1 h.2.2
noncomputable def ag:FA:=fun _=>some []
noncomputable def af(f:FD)(g:FA):FA:=fun δ=>(f δ).bind fun x=>(g δ).bind fun xs=>some (x::xs)
noncomputable def ug(g:FA):FD:=fun δ=>(g δ).bind fun ds=>some (.tup ds)
noncomputable def gl(g:FA):FD:=fun δ=>(g δ).bind fun ds=>some (.lst ds)
noncomputable def a9(G:List D->Option D)(g:FA):FD:=fun δ=>(g δ).bind G
section
variable {g:FA} {pos:Pos}
def yW:PAD X [] ag:=JB gh fun{σ H Q δ ds} R e k=>by cases e;exact k [] H (Same.refl H) .nil rfl
def vo(u:PD X e f)(t:PAD X es g)(s:PlX X e es:=by rfl):PAD X (e::es) (af f g):=JB (cD u t s) fun{σ H Q δ ds} R q k=>by unfold af at q;obtain⟨x,ex,q⟩:=Za.mp q;obtain⟨xs,j,q⟩:=Za.mp q;cases q;exact⟨δ,x,R,ex,fun v H1 o r=>⟨δ,xs,R.mono o,j,fun vs H2 m p l=>k (v::vs) H2 (o.trans m) (.cons (r.mono m) p) (congrArg (· + 1) l)⟩⟩
def K6{x1}(h:PAD X es g)(o:es.length<=1000:=by decide):PD X (.Tuple es x1 pos) (ug g):=gj (DK h) fun{σ H Q δ d} R q k=>by
 unfold ug at q;obtain⟨ds,f,q⟩:=Za.mp q;cases q;refine⟨δ,ds,R,f,fun vs H1 j m l=>⟨eQ (by rw[l];exact o),fun p r=>?_⟩⟩
 have s:=bv r (.tup vs);exact k _ _ (j.trans s) (.tup (SqT.of aH) (m.mono s))
def Lh(h:PAD X es g)(o:es.length<=1000:=by decide):PD X (.List es pos) (gl g):=gj (DM h) fun{σ H Q δ d} R q k=>by
 unfold gl at q;obtain⟨ds,f,q⟩:=Za.mp q;cases q;refine⟨δ,ds,R,f,fun vs H1 j m l=>⟨eQ (by rw[l];exact o),fun p r=>?_⟩⟩
 have s:=bv r (.lst vs);exact k _ _ (j.trans s) (.lst aH (m.mono s))
def CallD(K:ZB)(r:List V->Hp->VK->Prop)(G:List D->Option D):Prop :=
 ∀(xs:List V)(H:Hp)(Q:VK)(ds:List D)(d:D),Reps K H xs ds->G ds=some d->(∀w H',Same H H'->Rep K H' w d->Q w H')->r xs H Q
def Ex(m:CallD X.K r G){Q}(h:up X.K (a9 G g) σ H Q):tCB r (upA X.K n g) σ H Q:=by obtain⟨δ,d,R,q,k⟩:=h;unfold a9 at q;obtain⟨ds,f,q⟩:=Za.mp q;exact⟨δ,ds,R,f,fun vs H1 j l _=>m vs H1 Q ds d l q fun w H' s=>k w H' (j.trans s)⟩
def dk {id} (t:CallR X (.builtin id) r) (v:CallD X.K r G) (q:Gl X x) (o:X.mg x=none) (l:bootBuiltins x=some (.builtin id)) (u:PAD X (e::es) g) (m:x≠"__name__":=by decide) (j:NbX x:=by kernel_rfl)
 (s:PlX X e es:=by rfl) (f:BkX X pos es:=by rfl):PD X (.Call (.Name x p) (e::es) [] pos) (a9 G g) :=
 imp (qd t q o l u m j s f) fun _ _ _ h=>Ex v h
def kJ {T} (t:CallR X (.type T) r) (v:CallD X.K r G) (q:Gl X x) (o:X.mg x=none) (l:bootBuiltins x=some (.type T)) (u:PAD X (e::es) g) (m:x≠"__name__":=by decide) (j:NbX x:=by kernel_rfl)
 (s:PlX X e es:=by rfl) (f:BkX X pos es:=by rfl):PD X (.Call (.Name x p) (e::es) [] pos) (a9 G g) :=
 imp (nO t q o l u m j s f) fun _ _ _ h=>Ex v h
end
def dU{xs}{d}(r:Reps K H xs [d]):∃x,xs=[x]/\Rep K H x d:=by
 cases r with
 |cons a t=>cases t;exact⟨_,rfl,a⟩
def Jj{xs}{d e}(r:Reps K H xs [d,e]):∃x y,xs=[x,y]/\Rep K H x d/\Rep K H y e:=by
 cases r with
 |cons a t =>obtain⟨y,h1,h2⟩:=dU t;subst h1;exact⟨_,y,rfl,a,h2⟩
noncomputable def EL:List D->Option D
 |[.int i]=>some (.int (i.natAbs:Int))
 |_=>none
theorem Ml:CallD K (fun xs H Q=>∃i,xs=[.int i]/\Q (.int (if i<0 then -i else i)) H) EL:=by
 intro xs H Q ds d r e k;unfold EL at e;split at e
 . rename_i i;cases e;obtain ⟨x,rfl,f⟩:=dU r;cases f;refine ⟨i,rfl,?_⟩;have e:(if i < 0 then -i else i)=(i.natAbs:Int):=by split <;> lia
   rw[e];exact k _ H (Same.refl H) (.int _)
 . cases e
noncomputable def LW:List D->Option D
 |[.int i]=>some (.int i)
 |[.bl b]=>some (.int (if b then 1 else 0))
 |_=>none
def cd_int:CallD K (fun xs H Q=>(∃i,xs=[.int i]/\Q (.int i) H)\/∃k,xs=[.bl k]/\Q (.int (if k then 1 else 0)) H) LW:=by
 intro xs H Q ds d r e k;unfold LW at e;split at e
 . rename_i i;cases e;obtain⟨x,rfl,f⟩:=dU r;cases f;exact .inl ⟨i,rfl,k _ H (Same.refl H) (.int _)⟩
 . rename_i b;cases e;obtain⟨x,rfl,f⟩:=dU r;cases f;exact .inr ⟨b,rfl,k _ H (Same.refl H) (.int _)⟩
 . cases e
noncomputable def LV:List D->Option D
 |[.tup ds]=>some (.int ds.length)
 |[.lst ds]=>some (.int ds.length)
 |[.seq ds]=>some (.int ds.length)
 |_=>none
def cd_len:CallD K (fun xs H Q=>∃p ys,xs=[.ref p]/\(SqL K H p ys\/SqT K H p ys)/\Q (.int ys.length) H) LV:=by
 intro xs H Q ds d r e k;unfold LV at e;split at e
 . cases e;obtain ⟨x,rfl,f⟩:=dU r;cases f with
   |@tup p vs _ l j=>exact⟨p,vs,rfl,.inr l,by rw[j.length];exact k _ H (Same.refl H) (.int _)⟩
 . cases e;obtain ⟨x,rfl,f⟩:=dU r;cases f with
   |@lst p vs _ l j=>exact⟨p,vs,rfl,.inl (SqL.of l),by rw[j.length];exact k _ H (Same.refl H) (.int _)⟩
 . cases e;obtain ⟨x,rfl,f⟩:=dU r;cases f with
   |@seq p vs _ l j=>exact⟨p,vs,rfl,.inl l,by rw[j.length];exact k _ H (Same.refl H) (.int _)⟩
 . cases e
noncomputable def Os:D->Option String
 |.non=>some "NoneType"
 |.bl _=>some "bool"
 |.int _=>some "int"
 |.str _=>some "str"
 |.tup _=>some "tuple"
 |.lst _=>some "list"
 |.seq _=>some "list"
 |.dct=>some "dict"
 |.ty _=>none
 |.cls _=>none
 |.ob _ _ _=>none
 |.oo _ _ _=>none
 |.any=>none
 |.tin=>none
def rE(n:String)(d:D)(b:Bool):Prop:=∃t,Os d=some t/\∀K:ZB,W.kitOne K (.type t) (.type n)=some b
def Nb(K:ZB):List V->Hp->VK->Prop:=fun xs H Q=>∃x n d b,xs=[x,.ty n]/\Rep K H x d/\rE n d b/\Q (.bl b) H
def kb:CallR X (.builtin "isinstance") (Nb X.K):=by
 intro Q0 s σ H xs us Q I r h;obtain⟨x,n,d,b,rfl,v,⟨t,f,hk⟩,q⟩:=h;obtain⟨u,D,rfl,j,m⟩:=uR r;cases(m);have e:=hk X.K;have Q4:∀tk,EP X Q0 σ Q (.bool b) { s with toks:=tk }:=fun tk=>⟨.bl b,H,I.tok _,rfl,q⟩
 cases v with
 |non=>cases f;cases(j);exact W.kia_one W.kitx_none I.kIn True.intro e (fun z=>nomatch z) Q4
 |bl y=>cases f;cases(j);exact W.kia_one W.kitx_bool I.kIn True.intro e (fun z=>nomatch z) Q4
 |int i=>cases f;obtain⟨t,z⟩:=(j);cases z;exact W.kia_one W.kitx_int I.kIn True.intro e (fun z=>nomatch z) Q4
 |str y=>cases f;obtain⟨t,z⟩:=(j);cases z;exact W.kia_one W.kitx_str I.kIn True.intro e (fun z=>nomatch z) Q4
 |ty n=>cases f
 |cls C=>cases f
 |ob _ _ _=>cases f
 |oo _ _ _=>cases f
 |any _=>cases f
 |tin _ _=>cases f
 |@dct a h =>cases f;cases(j);exact W.kia_one W.kitx_dict I.kIn (I.hok a _ h).1 e (fun z=>nomatch z) Q4
 |@tup a vs ds l p =>cases f;cases(j);obtain⟨Q1,_,⟨o,h1,h2,_⟩,_⟩:=I.tuple l;exact W.kia_one W.kitx_tuple I.kIn ⟨o,h1,h2⟩ e (fun z=>nomatch z) Q4
 |@lst a vs ds l p =>cases f;cases(j);obtain⟨Q1,_,⟨o,B,h1,h2,_⟩,_⟩:=I.list (SqL.of l);exact W.kia_one W.kitx_list I.kIn ⟨o,h1,h2⟩ e (fun z=>nomatch z) Q4
 |@seq a vs ds l p =>cases f;cases(j);obtain⟨Q1,_,⟨o,B,h1,h2,_⟩,_⟩:=I.list l;exact W.kia_one W.kitx_list I.kIn ⟨o,h1,h2⟩ e (fun z=>nomatch z) Q4
noncomputable def isInt:D->Option Bool
 |.int _=>some true
 |.bl _=>some true
 |.ty _=>none
 |.cls _=>none
 |.ob _ _ _=>none
 |.oo _ _ _=>none
 |.any=>none
 |.tin=>none
 |_=>some false
noncomputable def Et:D->Option Bool
 |.bl _=>some true
 |.ty _=>none
 |.cls _=>none
 |.ob _ _ _=>none
 |.oo _ _ _=>none
 |.any=>none
 |.tin=>none
 |_=>some false
noncomputable def Jv:D->Option Bool
 |.tup _=>some true
 |.ty _=>none
 |.cls _=>none
 |.ob _ _ _=>none
 |.oo _ _ _=>none
 |.any=>none
 |.tin=>none
 |_=>some false
noncomputable def rL(n:String)(p:D->Option Bool):List D->Option D
 |[d,.ty m]=>if m=n then(p d).map D.bl else none
 |_=>none
def qT{n}{p}(o:∀d b,p d=some b->rE n d b):CallD K (Nb K) (rL n p):=by
 intro xs H Q ds d r e k;unfold rL at e;split at e
 . rename_i x m
   by_cases j:m=n
   . subst j;rw[if_pos rfl]at e;obtain⟨b,q,e⟩:=Zb.mp e;cases e;obtain⟨v,w,rfl,l,f⟩:=Jj r;cases f;exact⟨v,m,x,b,rfl,l,o x b q,k _ H (Same.refl H) (.bl b)⟩
   . rw[if_neg j]at e;cases e
 . cases e
def t6(n) (K:ZB):W.kitOne K (.type n) (.type n)=some true:=by unfold W.kitOne;rw[if_pos (ZA _)]
theorem D3 (d) (b) (h:isInt d=some b):rE "int" d b:=by
 cases d<;>(first|cases h)<;>first
  |exact⟨_,rfl,fun K=>t6 _ K⟩
  |exact⟨_,rfl,fun K=>by kernel_rfl⟩
theorem AH (d) (b) (h:Et d=some b):rE "bool" d b:=by
 cases d<;>(first|cases h)<;>first
  |exact⟨_,rfl,fun K=>t6 _ K⟩
  |exact⟨_,rfl,fun K=>by kernel_rfl⟩
theorem D0 (d) (b) (h:Jv d=some b):rE "tuple" d b:=by
 cases d<;>(first|cases h)<;>first
  |exact⟨_,rfl,fun K=>t6 _ K⟩
  |exact⟨_,rfl,fun K=>by kernel_rfl⟩
noncomputable def toV:D->Option V
 |.non=>some .non
 |.bl b=>some (.bl b)
 |.int i=>some (.int i)
 |.str x=>some (.str x)
 |_=>none
def eS(d:D):Bool:=(toV d).isSome
noncomputable def eqF:D->D->Bool
 |.non,.non=>true
 |.bl a,.bl b=>a==b
 |.bl a,.int b=>(if a then 1 else 0)==b
 |.int a,.bl b=>a==(if b then 1 else 0)
 |.int a,.int b=>a==b
 |.str a,.str b=>a==b
 |_,_=>false
def Rep.flat{d}(r:Rep K H v d)(f:eS d=true):lA v=true/\toV d=some v:=by cases r<;>first|exact⟨rfl,rfl⟩|(exact absurd f (by decide))|(exact absurd f ZC)
def uj{a b}{x y}(j:toV a=some x)(f:toV b=some y):eqV x y=eqF a b:=by cases a<;>(first|cases j)<;>cases b<;>(first|cases f)<;>rfl
section
def GC{A}{x y}{u v}{a b}(l:RelV x u)(f:RelV y v)(p:Rep K H x a)(m:Rep K H y b)(q:eS a=true)(o:eS b=true):SeqAt.RcAt A s u v (eqF a b)/\SeqAt.RcNeAt A s u v (!eqF a b):=by
 cases p with
 |non =>
  cases(l);cases m with
  |non=>cases(f);exact⟨SeqAt.RcAt.none_none,SeqAt.RcNeAt.none_none⟩
  |bl c=>cases(f);exact⟨SeqAt.RcAt.none_bool c,SeqAt.RcNeAt.none_bool c⟩
  |int j=>obtain⟨t,rfl⟩:=(f);exact⟨SeqAt.RcAt.none_int j t,SeqAt.RcNeAt.none_int j t⟩
  |str j=>obtain⟨t,rfl⟩:=(f);exact⟨SeqAt.RcAt.none_str j t,SeqAt.RcNeAt.none_str j t⟩
  |_=>exact absurd o ZC
 |bl i =>
  cases(l);cases m with
  |non=>cases(f);exact⟨SeqAt.RcAt.bool_none i,SeqAt.RcNeAt.bool_none i⟩
  |bl c=>cases(f);exact⟨SeqAt.RcAt.bool_bool i c,SeqAt.RcNeAt.bool_bool i c⟩
  |int j=>obtain⟨t,rfl⟩:=(f);exact⟨SeqAt.RcAt.bool_int i j t,SeqAt.RcNeAt.bool_int i j t⟩
  |str j=>obtain⟨t,rfl⟩:=(f);exact⟨SeqAt.RcAt.bool_str i j t,SeqAt.RcNeAt.bool_str i j t⟩
  |_=>exact absurd o ZC
 |int i =>
  obtain⟨t',rfl⟩:=(l);cases m with
  |non=>cases(f);exact⟨SeqAt.RcAt.int_none i t',SeqAt.RcNeAt.int_none i t'⟩
  |bl c=>cases(f);exact⟨SeqAt.RcAt.int_bool i t' c,SeqAt.RcNeAt.int_bool i t' c⟩
  |int j=>obtain⟨t,rfl⟩:=(f);exact⟨SeqAt.RcAt.int_int i t' j t,SeqAt.RcNeAt.int_int i t' j t⟩
  |str j=>obtain⟨t,rfl⟩:=(f);exact⟨SeqAt.RcAt.int_str i t' j t,SeqAt.RcNeAt.int_str i t' j t⟩
  |_=>exact absurd o ZC
 |str i =>
  obtain⟨t',rfl⟩:=(l);cases m with
  |non=>cases(f);exact⟨SeqAt.RcAt.str_none i t',SeqAt.RcNeAt.str_none i t'⟩
  |bl c=>cases(f);exact⟨SeqAt.RcAt.str_bool i t' c,SeqAt.RcNeAt.str_bool i t' c⟩
  |int j=>obtain⟨t,rfl⟩:=(f);exact⟨SeqAt.RcAt.str_int i t' j t,SeqAt.RcNeAt.str_int i t' j t⟩
  |str j=>obtain⟨t,rfl⟩:=(f);exact⟨SeqAt.RcAt.str_str i t' j t,SeqAt.RcNeAt.str_str i t' j t⟩
  |_=>exact absurd o ZC
 |_=>exact absurd q ZC
end
section
variable {pos:Pos}
abbrev gLt:D->D->Option D:=gI0 fun i j=>.bl (decide (i<j))
abbrev gLe:D->D->Option D:=gI0 fun i j=>.bl (decide (i<=j))
abbrev gGt:D->D->Option D:=gI0 fun i j=>.bl (decide (j<i))
def Nt(j:PD X a fa)(f:PD X b fb):PD X (.Compare a [.Lt] [b] pos) (f2 gLt fa fb):=jf Jr (mJ fun _ _ _=>.bl _) j f (eP _)
def Nw(j:PD X a fa)(f:PD X b fb):PD X (.Compare a [.Gt] [b] pos) (f2 gGt fa fb):=jf Js (mJ fun _ _ _=>.bl _) j f (eP _)
def Ks(j:PD X a fa)(f:PD X b fb):PTD X (.Compare a [.Lt] [b] pos) (fT (f2 gLt fa fb)):=gF Jr (mJ fun _ _ _=>.bl _) j f (eP _)
def Kt(j:PD X a fa)(f:PD X b fb):PTD X (.Compare a [.LtE] [b] pos) (fT (f2 gLe fa fb)):=gF vq (mJ fun _ _ _=>.bl _) j f (eP _)
def Kv(j:PD X a fa)(f:PD X b fb):PTD X (.Compare a [.Gt] [b] pos) (fT (f2 gGt fa fb)):=gF Js (mJ fun _ _ _=>.bl _) j f (eP _)
noncomputable def gC:D->Bool
 |.non=>true
 |_=>false
def xz(a b:D):Option D:=match b with
 |.non=>some (.bl (gC a))
 |_=>none
def lx(a b:D):Option D:=match b with
 |.non=>some (.bl (!gC a))
 |_=>none
def vO{x}{a}(r:Rep K H x a):decide (x=.non)=gC a:=by cases r<;>rfl
def Ka:R2D K (fun x y H Q=>y=.non/\Q (.bl (decide (x=.non))) H) xz:=by
 intro x y H Q a b d j f e k;cases f with
 |non=>cases e;exact⟨rfl,by rw[vO j];exact k _ H (Same.refl H) (.bl _)⟩
 |_=>cases e
def yJ:R2D K (fun x y H Q=>y=.non/\Q (.bl (!decide (x=.non))) H) lx:=by
 intro x y H Q a b d j f e k;cases f with
 |non=>cases e;exact⟨rfl,by rw[vO j];exact k _ H (Same.refl H) (.bl _)⟩
 |_=>cases e
def Ho(j:PD X a fa)(f:PD X b fb):PD X (.Compare a [.IsNot] [b] pos) (f2 lx fa fb):=jf yX yJ j f (eP _)
def GZ(j:PD X a fa)(f:PD X b fb):PTD X (.Compare a [.Is] [b] pos) (fT (f2 xz fa fb)):=gF Lv Ka j f (eP _)
def Dc(j:PD X a fa)(f:PD X b fb):PTD X (.Compare a [.IsNot] [b] pos) (fT (f2 lx fa fb)):=gF yX yJ j f (eP _)
end
inductive Res where
 |nx (δ:DS)
 |rt (d:D)
 |bk (δ:DS)
 |ct (δ:DS)
 |ex (C:Addr) (δ:DS)
 |mk (C:Addr) (δ:DS)
abbrev SD:=DS->Option Res
def OM{t t'}(h:PS X st t)(w:∀E σ H,t' E σ H->t E σ H):PS X st t':=fun Q0 s σ H E I q=>h Q0 s σ H E I (w E σ H q)
def Ey{st}{t t'}(h:PSs X st t)(w:∀E σ H,t' E σ H->t E σ H):PSs X st t':=fun Q0 s σ H E I q=>h Q0 s σ H E I (w E σ H q)
def OO{t t'}(h:PI X tg iter t)(w:∀σ H R,t' σ H R->t σ H R):PI X tg iter t':=fun Q0 s σ H R I q=>h Q0 s σ H R I (w σ H R q)
noncomputable def asL:D->Option (List D)
 |.lst ds=>some ds
 |.seq ds=>some ds
 |_=>none
noncomputable def start(n:Nat)(ds:List D):DS:=ds.map some++List.replicate (n-ds.length) none
variable {f fa fb:FD} {ds:Yh D} {δ Q4:DS} {g':Int->Int->D} {G:Yh D->Yg D} {u:SD} {o:Yg D}
def spLaw(K:ZB):Sp:=fun vs H Q _=>∃(a:Addr)(ns:List Int),vs=[.ref a]/\SqL K H a (ns.map V.int)/\ns.length<=63/\∀H',Q (.bl true) H'
abbrev FO:=DS->Option (Option Int)
noncomputable def faN:FO:=fun _=>some none
noncomputable def asI:D->Option (Option Int)
 |.int i=>some (some i)
 |_=>none
def faS(f:FD):FO:=fun δ=>(f δ).bind asI
noncomputable def Ae(n d:Nat):Option Int->Nat
 |none=>d
 |some v=>if v<0 then(v+(n:Int)).toNat else min v.toNat n
noncomputable def uv(ds:List D)(lo hi:Option Int):List D:=(ds.drop (Ae ds.length 0 lo)).take (Ae ds.length ds.length hi-Ae ds.length 0 lo)
def fSl(f:FD)(lo hi:FO):FD:=fun δ=>(f δ).bind fun d=>(asL d).bind fun ds=>(lo δ).bind fun l=>(hi δ).bind fun h=>some (.lst (uv ds l h))
noncomputable def Ed(g:D->Option D):List D->Option (List D)
 |[]=>some []
 |d::ds=>(g d).bind fun x=>(Ed g ds).bind fun xs=>some (x::xs)
variable {fl fh:FO}
def upO(K:ZB)(f:FO):TO:=fun σ H Q=>∃δ o,RepS K H σ δ/\f δ=some o/\∀H',Same H H'->Q o H'
def POD(X:Cx)(e:Option Expr)(f:FO):Prop:=PO X e (upO X.K f)
def kG(n d) (o):Ae n d o=HT.sIx n d o:=by cases o<;>rfl
def wj(r:Reps K H vs ds)(lo hi):Reps K H (rM vs lo hi) (uv ds lo hi):=by unfold rM uv;rw[r.length,kG,kG];exact(r.drop _).take _
section
variable {pos:Pos}
def Du:POD X none faN:=fun Q0 s σ H Q I ⟨δ,o,R,q,k⟩=>G8 Q0 s σ H Q I (by cases q;exact k H (Same.refl H))
def Dt(h:PD X e f):POD X (some e) (faS f):=fun Q0 s σ H Q I ⟨δ,o,R,q,k⟩=>G7 h Q0 s σ H Q I (by
 unfold faS at q;obtain⟨d,m,q⟩:=Za.mp q;refine⟨δ,d,R,m,fun v H1 j l=>?_⟩
 cases l with
 |int i=>cases q;exact⟨i,rfl,k H1 j⟩
 |_=>cases q)
def DQ(I:PD X e f)(G:POD X lo fl)(C:POD X hi fh):PD X (.Subscript e (.Slice lo hi none p2) pos) (fSl f fl fh):=gj (mL yw I G C) fun{σ H Q δ d} R q k=>by
 unfold fSl at q;obtain⟨x,ex,q⟩:=Za.mp q;obtain⟨ds,j,q⟩:=Za.mp q;obtain⟨l,J,q⟩:=Za.mp q;obtain⟨h,L,q⟩:=Za.mp q;cases q;refine⟨δ,x,R,ex,fun v H1 t B=>⟨δ,l,R.mono t,J,fun H2 r=>⟨δ,h,(R.mono t).mono r,L,fun u y=>?_⟩⟩⟩
 have z:=(B.mono r).mono y;have Q4:∀a vs,SqL X.K u a vs->Reps X.K u vs ds->J9 X.K (.ref a) l h u Q:=fun a vs D m=>by
  refine⟨a,vs,rfl,D,fun p o=>?_⟩
  have s:=bv o (.lst (rM vs l h));exact k _ _ (((t.trans r).trans y).trans s) (.lst aH ((wj m l h).mono s))
 cases z with
 |@lst p vs es o m=>cases j;exact Q4 p vs (SqL.of o) m
 |@seq p vs es o m=>cases j;exact Q4 p vs o m
 |_=>cases j
end
theorem vD{g}:∀{ds xs},Ed g ds=some xs->xs.length=ds.length/\∀(i:Nat) d,ds[i]?=some d->∃e,g d=some e/\xs[i]?=some e
 |[],xs,h=>by cases h;exact⟨rfl,fun i d e=>by simp at e⟩
 | d :: ds,xs,h=>by
  obtain⟨x,ex,h⟩:=Za.mp (h);obtain⟨ys,m,h⟩:=Za.mp h;cases h;obtain⟨h1,h2⟩:=vD m;refine⟨by simp[h1],fun i e l=>?_⟩
  cases i with
  |zero=>simp at l;subst l;exact⟨x,ex,rfl⟩
  |succ i =>
   obtain⟨z,j,f⟩:=h2 i e (by simpa using l)
   exact⟨z,j,by simpa using f⟩
noncomputable def fH(js:List Nat)(σ:L2.St):L2.St:=js.map fun j=>match σ[j]? with
 |some o=>o
 |none=>none
section
def vw(I:L2.Inv X Q0 σ H₂ s₂){a}(h:s₂.heap.objs.size<=a):a∉frs X.stack:=fun z=>by
 rcases Zu.mp (I.stkSub a z)with e|e
 . exact absurd (ZD I.lt (by rw[<- e];exact h)) (ZK _)
 . exact I.nofs h e
def Ba{Hend}(I:L2.Inv X Q0 σ Hend s')(j:L2.Inv X Q0 σ H₂ s₂)(f:s₂.heap.objs.size<=C)(fC:Hend C=none)(l:Heap.SameBut C s'.heap h'):L2.Inv X Q0 σ Hend { s' with heap:=h' } :=
 I.turned (fun b o q e=>(l.2 b q).trans e) fC (Nat.ne_of_gt (ZD j.lt f)) (.inr (ZZ j.sz f))
  (fun y c e z=>by obtain⟨v,o,h1,_⟩:=j.cell y c e;exact absurd (ZD (ZU h1) (by rw[z];exact f)) (ZK _))
  (fun p m z=>absurd (ZD (ZU (j.pin p m).1) (by rw[z];exact f)) (ZK _))
end
noncomputable def EI:List D->Option D
 |[.int i,.int j]=>some (.int (if j<i then j else i))
 |_=>none
def Mi:CallD K (fun xs H Q=>∃i j,xs=[.int i,.int j]/\Q (.int (if j<i then j else i)) H) EI:=by
 intro xs H Q ds d r e k;unfold EI at e;split at e
 . rename_i i j;cases e;obtain⟨x,y,rfl,l,f⟩:=Jj r;cases l;cases f;exact⟨i,j,rfl,k _ H (Same.refl H) (.int _)⟩
 . cases e
section
variable {pos:Pos}
def Lq(j:Gl X y)(f:X.mg y=some (.ref C))(l:NbX y:=by kernel_rfl):PD X (.Name y pos) (fC (.cls C)) :=
 gj (pc (v:=.ref C) j f rfl l) fun{σ H Q δ d} R e k=>by cases e;exact k _ H (Same.refl H) (.cls C)
end
variable {kt:Nat} {F':Hp} {ei X8:Expr} {ch:Yh Ye} {ws ps zs:Yh Str} {fk:FD} {p1:Pos} {X6:Yh Expr} {As Q3:Nat->Yh Ye} {ga:FA} {Z:L2.St->Prop} {Q2:Array Yc} {pl:Sem Bool}
mutual
noncomputable def imm:D->Bool
 |.tup ds=>cZ ds
 |.lst _=>false
 |.seq _=>false
 |.ob _ _ _=>false
 |.oo _ _ _=>false
 |_=>true
noncomputable def cZ:List D->Bool
 |[]=>true
 |d::ds=>imm d&&cZ ds
end
mutual
noncomputable def own:D->Bool
 |.tup ds=>gG ds
 |.lst ds=>gG ds
 |.seq _=>false
 |.ob _ _ _=>false
 |.oo _ _ ds=>gG ds
 |_=>true
noncomputable def gG:List D->Bool
 |[]=>true
 |d::ds=>own d&&gG ds
end
mutual
noncomputable def sh:D->D
 |.tup ds=>.tup (shs ds)
 |.lst ds=>.seq (shs ds)
 |.seq ds=>.seq (shs ds)
 |.ob C xs ds=>.ob C xs (shs ds)
 |.oo C xs ds=>.ob C xs (shs ds)
 |d=>d
noncomputable def shs:List D->List D
 |[]=>[]
 |d::ds=>sh d::shs ds
end
theorem o8:∀ds,shs ds=ds.map sh
 |[]=>rfl
 |d::ds=>by rw[shs,o8 ds];rfl
mutual
theorem yx:∀(d:D),sh (sh d)=sh d
 |.non=>rfl
 |.bl _=>rfl
 |.int _=>rfl
 |.str _=>rfl
 |.ty _=>rfl
 |.dct=>rfl
 |.cls _=>rfl
 |.ob C xs ds=>by rw[sh,sh,kF ds]
 |.oo C xs ds=>by rw[sh,sh,kF ds]
 |.any=>rfl
 |.tin=>rfl
 |.tup ds=>by rw[sh,sh,kF ds]
 |.lst ds=>by rw[sh,sh,kF ds]
 |.seq ds=>by rw[sh,sh,kF ds]
theorem kF:∀(ds:Yh D),shs (shs ds)=shs ds
 |[]=>rfl
 |d::ds=>by rw[shs,shs,yx d,kF ds]
end
noncomputable def mtb:HO->Bool
 |.lst _=>true
 |.dK _=>true
 |.frz _ (.dK _)=>true
 |.ins _ _ _=>true
 |_=>false
abbrev MO:={u:HO // mtb u=true}
def dQ(H H':Hp):Prop:=∀a u,H a=some u->mtb u=false->H' a=some u
def bI(s:Same H H'):dQ H H':=fun a u e _=>s a u e
def nY{a}{u}{o}(h:H a=some u)(m:mtb u=true):dQ H (upd H a o):=fun b w e n=>by
 by_cases f:b=a
 . subst f;rw[h]at e;cases e;rw[m]at n;cases n
 . rw[aF f];exact e
def iW{a}{o}(h:H a=some (.lst vs)):dQ H (upd H a o):=nY h rfl
def mF{a}{xs}(k:dQ H H')(h:SqT K H a xs):SqT K H' a xs:=by
 rcases h with(h|⟨o,h⟩)|h
 . exact .inl (.inl (k _ _ h rfl))
 . exact .inl (.inr ⟨o,k _ _ h rfl⟩)
 . exact .inr h
def Ju(k:dQ H H'):(∀{v}{d},Rep K H v d->imm d=true->Rep K H' v d)/\∀{vs}{ds},Reps K H vs ds->cZ ds=true->Reps K H' vs ds :=
 Rep.both (fun _=>.non) (fun _ _=>.bl _) (fun _ _=>.int _) (fun _ _=>.str _) (fun _ _=>.ty _) (fun h _ r i=>.tup (mF k h) (r (by rw[imm]at i;exact i))) (fun _ _ _ i=>by rw[imm]at i;cases i) (fun _ _ _ i=>by rw[imm]at i;cases i) (fun h _=>.dct (k _ _ h rfl)) (fun _ _=>.cls _) (fun _ _ _ _ i=>by rw[imm]at i;cases i) (fun _ _ _ _ i=>by rw[imm]at i;cases i) (fun _ _=>.any _) (fun h n _=>.tin (mF k h) n) (fun _=>.nil) fun _ _ p q i=>by rw[cZ,ZN]at i;exact .cons (p i.1) (q i.2)
def u6(k:dQ H H'):∀{v}{d},Rep K H v d->imm d=true->Rep K H' v d:=(Ju k).1
def nL(k:dQ H H'):∀{vs}{ds},Reps K H vs ds->cZ ds=true->Reps K H' vs ds:=(Ju k).2
def mG{xs:Yh Str}(l:xs.length=ds.length):xs.length=(shs ds).length:=by rw[o8,Zm];exact l
theorem sh_:(∀{v}{d},Rep K H v d->Rep K H v (sh d))/\∀{vs}{ds},Reps K H vs ds->Reps K H vs (shs ds) :=
 Rep.both .non .bl .int .str .ty (fun h _ r=>by rw[sh];exact .tup h r) (fun h _ r=>by rw[sh];exact .seq (SqL.of h) r) (fun h _ r=>by rw[sh];exact .seq h r) .dct .cls (fun h l _ r=>by rw[sh];exact .ob h (mG l) r) (fun h l _ r=>by rw[sh];exact .ob h (mG l) r) .any .tin .nil fun _ _ p q=>by rw[shs];exact .cons p q
def wY:∀{v}{d},Rep K H v d->Rep K H v (sh d):=sh_.1
def pb:∀{vs}{ds},Reps K H vs ds->Reps K H vs (shs ds):=sh_.2
mutual
inductive RepO(K:ZB)(F H:Hp):V->D->List Addr->Prop
 |imm {v:V} {d:D} (i:imm d=true) (h:Rep K H v d):RepO K F H v d []
 |shr {v:V} {ds:List D} (h:Rep K F v (.seq ds)):RepO K F H v (.seq ds) []
 |tup {a:Addr} {vs:List V} {ds:List D} {A:List Addr} (h:SqT K H a vs) (r:RepOs K F H vs ds A):RepO K F H (.ref a) (.tup ds) A
 |lst {a:Addr} {vs:List V} {ds:List D} {A:List Addr} (h:H a=some (.lst vs)) (n:F a=none) (r:RepOs K F H vs ds A):RepO K F H (.ref a) (.lst ds) (a::A)
 |sho {v:V} {C:Addr} {xs:List Str} {ds:List D} (h:Rep K F v (.ob C xs ds)):RepO K F H v (.ob C xs ds) []
 |oo {a C dx:Addr} {xs:List Str} {vs:List V} {ds:List D} {A:List Addr} (h:H a=some (.ins C dx (xs.zip vs))) (n:F a=none) (l:xs.length=ds.length) (r:RepOs K F H vs ds A):RepO K F H (.ref a) (.oo C xs ds) (a::A)
inductive RepOs(K:ZB)(F H:Hp):List V->List D->List Addr->Prop
 |nil:RepOs K F H [] [] []
 |cons {v:V} {d:D} {vs:List V} {ds:List D} {A B C:List Addr} (r:RepO K F H v d A) (t:RepOs K F H vs ds B) (e:C=A++B):RepOs K F H (v::vs) (d::ds) C
end
section
variable {F:Hp}
def RepO.both{P:V->D->Yh Ye->Prop}{Q:Yh V->Yh D->Yh Ye->Prop}(u:∀{v d},Dl.imm d=true->Rep K H v d->P v d [])(t:∀{v ds},Rep K F v (.seq ds)->P v (.seq ds) [])(s:∀{a vs ds A},SqT K H a vs->RepOs K F H vs ds A->Q vs ds A->P (.ref a) (.tup ds) A)(o:∀{a vs ds A},H a=some (.lst vs)->F a=none->RepOs K F H vs ds A->Q vs ds A->P (.ref a) (.lst ds) (a::A))(m:∀{v C xs ds},Rep K F v (.ob C xs ds)->P v (.ob C xs ds) [])(l:∀{a C dx xs vs ds A},H a=some (.ins C dx (xs.zip vs))->F a=none->xs.length=ds.length->RepOs K F H vs ds A->Q vs ds A->P (.ref a) (.oo C xs ds) (a::A))(j:Q [] [] [])(f:∀{v d vs ds A B},RepO K F H v d A->RepOs K F H vs ds B->P v d A->Q vs ds B->Q (v::vs) (d::ds) (A++B)):(∀{v d A},RepO K F H v d A->P v d A)/\∀{vs ds A},RepOs K F H vs ds A->Q vs ds A :=
 ⟨fun r=>r.rec (motive_1:=fun v d A _=>P v d A) (motive_2:=fun v d A _=>Q v d A) u t s o m l j fun a b e p q=>e▸f a b p q,fun r=>r.rec (motive_1:=fun v d A _=>P v d A) (motive_2:=fun v d A _=>Q v d A) u t s o m l j fun a b e p q=>e▸f a b p q⟩
def RepOs.ind{Q:∀vs ds A,RepOs K F H vs ds A->Prop}(nil:Q [] [] [] .nil)(cons:∀{v d vs ds A B} r t,Q vs ds B t->Q (v::vs) (d::ds) (A++B) (.cons r t rfl)){vs}{ds}{A}(r:RepOs K F H vs ds A):Q vs ds A r:=by
 refine r.rec (motive_1:=fun _ _ _ _=>True) (motive_2:=Q) ?_ ?_ ?_ ?_ ?_ ?_ nil fun r t e _ h=>by subst e;exact cons r t h
 all_goals intros;trivial
def RepO.rep_(s:Same F H):(∀{v}{d}{A},RepO K F H v d A->Rep K H v d)/\∀{vs}{ds}{A},RepOs K F H vs ds A->Reps K H vs ds :=
 RepO.both (fun _ h=>h) (·.mono s) (fun h _=>.tup h) (fun h _ _=>.lst h) (·.mono s) (fun h _ l _=>.oo h l) .nil fun _ _=>.cons
def RepO.rep(s:Same F H):∀{v}{d}{A:Yh Ye},RepO K F H v d A->Rep K H v d:=(RepO.rep_ s).1
def RepOs.reps(s:Same F H):∀{vs}{ds}{A},RepOs K F H vs ds A->Reps K H vs ds:=(RepO.rep_ s).2
theorem RepO.dom_:(∀{v}{d}{A},RepO K F H v d A->∀a∈A,(∃u:MO,H a=some u.1)/\F a=none)/\∀{vs}{ds}{A},RepOs K F H vs ds A->∀a∈A,(∃u:MO,H a=some u.1)/\F a=none :=
 RepO.both (fun _ _ _ m=>nomatch m) (fun _ _ m=>nomatch m) (fun _ _=>id) (fun h n _ q a m=>(Zu.mp m).elim (fun e=>e▸⟨⟨⟨_,rfl⟩,h⟩,n⟩) (q a)) (fun _ _ m=>nomatch m) (fun h n _ _ q a m=>(Zu.mp m).elim (fun e=>e▸⟨⟨⟨_,rfl⟩,h⟩,n⟩) (q a)) (fun _ m=>nomatch m) fun _ _ p q a m=>(Zt.mp m).elim (p a) (q a)
def RepO.dom:∀{v:V}{d:D}{A:Yh Ye},RepO K F H v d A->∀a∈A,(∃u:MO,H a=some u.1)/\F a=none:=RepO.dom_.1
def RepOs.dom:∀{vs:Yh V}{ds:Yh D}{A:Yh Ye},RepOs K F H vs ds A->∀a∈A,(∃u:MO,H a=some u.1)/\F a=none:=RepO.dom_.2
def RepO.frame_(k:dQ H H'):(∀{v}{d}{A},RepO K F H v d A->(∀a∈A,H' a=H a)->RepO K F H' v d A)/\∀{vs}{ds}{A},RepOs K F H vs ds A->(∀a∈A,H' a=H a)->RepOs K F H' vs ds A :=
 RepO.both (fun i h _=>.imm i (u6 k h i)) (fun h _=>.shr h) (fun h _ q e=>.tup (mF k h) (q e)) (fun h n _ q e=>.lst ((e _ Zp).trans h) n (q fun a m=>e a (Zq _ m))) (fun h _=>.sho h) (fun h n l _ q e=>.oo ((e _ Zp).trans h) n l (q fun a m=>e a (Zq _ m))) (fun _=>.nil) fun _ _ p q e=>.cons (p fun a m=>e a (ZF _ m)) (q fun a m=>e a (ZE _ m)) rfl
def RepO.frame(k:dQ H H'):∀{v}{d}{A},RepO K F H v d A->(∀a∈A,H' a=H a)->RepO K F H' v d A:=(RepO.frame_ k).1
def RepOs.frame(k:dQ H H'):∀{vs}{ds}{A},RepOs K F H vs ds A->(∀a∈A,H' a=H a)->RepOs K F H' vs ds A:=(RepO.frame_ k).2
def RepO.froz_(s:Same F F'):(∀{v}{d}{A},RepO K F H v d A->(∀a∈A,F' a=none)->RepO K F' H v d A)/\∀{vs}{ds}{A},RepOs K F H vs ds A->(∀a∈A,F' a=none)->RepOs K F' H vs ds A :=
 RepO.both (fun i h _=>.imm i h) (fun h _=>.shr (h.mono s)) (fun h _ q e=>.tup h (q e)) (fun h _ _ q e=>.lst h (e _ Zp) (q fun a m=>e a (Zq _ m))) (fun h _=>.sho (h.mono s)) (fun h _ l _ q e=>.oo h (e _ Zp) l (q fun a m=>e a (Zq _ m))) (fun _=>.nil) fun _ _ p q e=>.cons (p fun a m=>e a (ZF _ m)) (q fun a m=>e a (ZE _ m)) rfl
def RepO.froz(s:Same F F'):∀{v}{d}{A},RepO K F H v d A->(∀a∈A,F' a=none)->RepO K F' H v d A:=(RepO.froz_ s).1
def u0{a}(s:Same F' F)(n:F a=none):F' a=none:=by
 cases q:F' a with
 |none=>rfl
 |some u=>rw[s a u q]at n;cases n
def RepO.thaw_(s:Same F' F):(∀{v}{d}{A},RepO K F H v d A->own d=true->RepO K F' H v d A)/\∀{vs}{ds}{A},RepOs K F H vs ds A->gG ds=true->RepOs K F' H vs ds A :=
 RepO.both (fun i h _=>.imm i h) (fun _ o=>by rw[own]at o;cases o) (fun h _ q o=>.tup h (q (by rw[own]at o;exact o))) (fun h n _ q o=>.lst h (u0 s n) (q (by rw[own]at o;exact o))) (fun _ o=>by rw[own]at o;cases o) (fun h n l _ q o=>.oo h (u0 s n) l (q (by rw[own]at o;exact o))) (fun _=>.nil) fun _ _ p q o=>by rw[gG,ZN]at o;exact .cons (p o.1) (q o.2) rfl
def RepO.thaw(s:Same F' F):∀{v}{d}{A},RepO K F H v d A->own d=true->RepO K F' H v d A:=(RepO.thaw_ s).1
theorem RepO.none_:(∀{v}{d}{A},RepO K F H v d A->Dl.imm d=true->A=[])/\∀{vs}{ds}{A},RepOs K F H vs ds A->cZ ds=true->A=[] :=
 RepO.both (fun _ _ _=>rfl) (fun _ _=>rfl) (fun _ _ q i=>q (by rw[Dl.imm]at i;exact i)) (fun _ _ _ _ i=>by rw[Dl.imm]at i;cases i) (fun _ _=>rfl) (fun _ _ _ _ _ i=>by rw[Dl.imm]at i;cases i) (fun _=>rfl) fun _ _ p q i=>by rw[cZ,ZN]at i;rw[p i.1,q i.2];rfl
def RepO.none_of:∀{v}{d}{A},RepO K F H v d A->Dl.imm d=true->A=[]:=RepO.none_.1
def RepO.seq_nil{d}(r:RepO K F H v d A)(e:d=.seq ds):A=[]:=by cases r<;>first|rfl|cases e
noncomputable def frz(F H:Hp)(A:List Addr):Hp:=fun a=>match H a with
 |some u=>if mtb u=true then(if(F a).isSome=true\/a∈A then some u else none)else some u
 |none=>none
def pq{a}{u}(h:H a=some u)(m:a∈A):frz F H A a=some u:=by
 unfold frz;rw[h];show(if mtb u=true then(if(F a).isSome=true\/a∈A then some u else none)else some u)=some u
 rw[if_pos (show(F a).isSome=true\/a∈A from .inr m)]
 split<;>rfl
def mX:dQ H (frz F H A):=fun a u e n=>by unfold frz;rw[e];exact if_neg (by rw[n];exact fun z=>nomatch z)
def mW(s:Same F H):Same F (frz F H A):=fun a u e=>by
 have h:=s a u e;unfold frz;rw[h];show(if mtb u=true then(if(F a).isSome=true\/a∈A then some u else none)else some u)=some u
 rw[if_pos (show(F a).isSome=true\/a∈A from .inl (by rw[e];rfl))]
 split<;>rfl
def uf:Same (frz F H A) H:=fun a u e=>by
 unfold frz at e;split at e
 . rename_i w h;rw [h];split at e
   . split at e
     . exact e
     . cases e
   . exact e
 . cases e
def gH{a}{u:MO}(h:H a=some u.1)(n:F a=none)(m:a∉A):frz F H A a=none:=by
 unfold frz;rw[h];show(if mtb u.1=true then(if(F a).isSome=true\/a∈A then some u.1 else none)else some u.1)=none
 rw[if_pos u.2];refine if_neg fun z=>?_
 rcases z with z|z
 . rw[n]at z;cases z
 . exact m z
def RepO.freeze_(s:Same F F')(k:dQ H F'):(∀{v}{d}{A},RepO K F H v d A->(∀a u,a∈A->H a=some u->F' a=some u)->Rep K F' v (sh d))/\∀{vs}{ds}{A},RepOs K F H vs ds A->(∀a u,a∈A->H a=some u->F' a=some u)->Reps K F' vs (shs ds) :=
 RepO.both (fun i h _=>wY (u6 k h i)) (fun h _=>wY (h.mono s)) (fun h _ q e=>by rw[sh];exact .tup (mF k h) (q e)) (fun h _ _ q e=>by rw[sh];exact .seq (SqL.of (e _ _ Zp h)) (q fun a vs m=>e a vs (Zq _ m))) (fun h _=>wY (h.mono s)) (fun h _ l _ q e=>by rw[sh];exact .ob (e _ _ Zp h) (mG l) (q fun a vs m=>e a vs (Zq _ m))) (fun _=>.nil) fun _ _ p q e=>by rw[shs];exact .cons (p fun a vs m=>e a vs (ZF _ m)) (q fun a vs m=>e a vs (ZE _ m))
def RepO.freeze(s:Same F F')(k:dQ H F'):∀{v}{d}{A},RepO K F H v d A->(∀a u,a∈A->H a=some u->F' a=some u)->Rep K F' v (sh d):=(RepO.freeze_ s k).1
def RepOs.freeze(s:Same F F')(k:dQ H F'):∀{vs}{ds}{A},RepOs K F H vs ds A->(∀a u,a∈A->H a=some u->F' a=some u)->Reps K F' vs (shs ds):=(RepO.freeze_ s k).2
def RepO.of_sh_(s:Same F H):(∀{v}{d},Rep K F v d->RepO K F H v (sh d) [])/\∀{vs}{ds},Reps K F vs ds->RepOs K F H vs (shs ds) [] :=
 Rep.both (.imm rfl .non) (fun _=>.imm rfl (.bl _)) (fun _=>.imm rfl (.int _)) (fun _=>.imm rfl (.str _)) (fun _=>.imm rfl (.ty _)) (fun h _ q=>by rw[sh];exact .tup (fZ s h) q) (fun h r _=>by rw[sh];exact .shr (.seq (SqL.of h) (pb r))) (fun h r _=>by rw[sh];exact .shr (.seq h (pb r))) (fun h=>.imm rfl (.dct (s _ _ h))) (fun _=>.imm rfl (.cls _)) (fun h l r _=>by rw[sh];exact .sho (.ob h (mG l) (pb r))) (fun h l r _=>by rw[sh];exact .sho (.ob h (mG l) (pb r))) (fun _=>.imm rfl (.any _)) (fun h n=>.imm rfl (.tin (fZ s h) n)) .nil fun _ _ p q=>by rw[shs];exact .cons p q rfl
def RepO.of_sh(s:Same F H):∀{v}{d},Rep K F v d->RepO K F H v (sh d) []:=(RepO.of_sh_ s).1
def RepOs.of_sh(s:Same F H):∀{vs}{ds},Reps K F vs ds->RepOs K F H vs (shs ds) []:=(RepO.of_sh_ s).2
def RepOs.length{vs}{ds}(r:RepOs K F H vs ds A):vs.length=ds.length:=by
 induction r using RepOs.ind with
 |nil=>rfl
 |cons _ _ f=>exact congrArg (· + 1) f
def RepOs.snoc{vs}{ds}{A B}{v}{d}(q:RepOs K F H vs ds A)(r:RepO K F H v d B):RepOs K F H (vs++[v]) (ds++[d]) (A++B):=by
 induction q using RepOs.ind with
 |nil=>exact .cons r .nil (by simp)
 |cons q t f=>exact .cons q f (ZW ..)
theorem RepOs.pick:∀{vs}{ds}{A}{i}{d},RepOs K F H vs ds A->ds[i]?=some d->∃v j B f,vs[i]?=some v/\RepO K F H v d B/\A=j++(B++f) /\
 ∀{H'}{v'}{d'}{B'},dQ H H'->(∀a,a∈j\/a∈f->H' a=H a)->RepO K F H' v' d' B'->RepOs K F H' (vs.set i v') (ds.set i d') (j++(B'++f))
 |_,_,_,_,_,.nil,e=>by simp at e
 |_,_,_,0,_,.cons (A:=A) (B:=B) r t e,q=>by
  simp at q;subst q;refine⟨_,[],A,B,rfl,r,by simpa using e,fun k h r'=>?_⟩
  exact .cons r' (t.frame k fun a m=>h a (.inr m)) (by simp)
 |_,_,_,i+1,d,.cons (A:=A0) r t e,q=>by
  obtain⟨v,j,B,f,h1,h2,o,l⟩:=RepOs.pick t (by simpa using q)
  refine⟨v,A0++j,B,f,by simpa using h1,h2,by rw[e,o,ZW],fun k h r'=>?_⟩
  refine .cons (r.frame k fun a m=>h a (.inl (ZF _ m))) (l k (fun a m=>h a ?_) r') (by rw[ZW])
  rcases m with m|m
  . exact .inl (ZE _ m)
  . exact .inr m
end
structure RepA(K:ZB)(F H:Hp)(σ:L2.St)(δ:DS)(As:Nat->List Addr):Prop where
 fz:Same F H
 len:σ.length=δ.length
 val:∀(i:Nat)(d:D),δ[i]?=some (some d)->∃v,σ[i]?=some (some v)/\RepO K F H v d (As i)
 non:∀(i:Nat),(∀d,δ[i]?≠some (some d))->As i=[]
 nd:∀i,(As i).Nodup
 dj:∀i j a,i≠j->a∈As i->a∉As j
section
variable {F:Hp} 
def RepA.toS(R:RepA K F H σ δ As):RepS K H σ δ:=⟨R.len,fun i d q=>let ⟨v,h1,h2⟩:=R.val i d q;⟨v,h1,h2.rep R.fz⟩⟩
theorem RepA.dom(R:RepA K F H σ δ As){a}(m:a∈As i):(∃u:MO,H a=some u.1)/\F a=none:=by
 by_cases h:∃d,δ[i]?=some (some d)
 . obtain⟨d,h⟩:=h;obtain⟨v,_,h2⟩:=R.val i d h;exact h2.dom a m
 . rw[R.non i fun d z=>h ⟨d,z⟩]at m;cases m
def RepA.grow(R:RepA K F H σ δ As)(s:Same H H'):RepA K F H' σ δ As :=
 ⟨R.fz.trans s,R.len,fun i d q=>by
  obtain⟨v,h1,h2⟩:=R.val i d q;refine⟨v,h1,h2.frame (bI s) fun a m=>?_⟩
  obtain⟨⟨vs,e⟩,_⟩:=h2.dom a m;rw[e];exact s a _ e,R.non,R.nd,R.dj⟩
theorem RepA.froz(R:RepA K F H σ δ As)(s:Same F F')(s':Same F' H)(n:∀i a,a∈As i->F' a=none):RepA K F' H σ δ As :=
 ⟨s',R.len,fun i d q=>let ⟨v,h1,h2⟩:=R.val i d q;⟨v,h1,h2.froz s (n i)⟩,R.non,R.nd,R.dj⟩
noncomputable def iD(As:Nat->List Addr)(i:Nat)(A:List Addr):Nat->List Addr:=fun j=>if j=i then A else As j
def aA:iD As i A i=A:=if_pos rfl
def aB(h:j≠i):iD As i A j=As j:=if_neg h
theorem RepA.set{d}(R:RepA K F H σ δ As)(i) (hi:i<δ.length) (r:RepO K F H v d A) (p:A.Nodup) (o:∀j a,j≠i->a∈As j->a∉A):RepA K F H (σ.set i (some v)) (δ.set i (some d)) (iD As i A):=by
 have s:=R.len;refine⟨R.fz,by rw[List.length_set,List.length_set];exact s,fun j e q=>?_,fun j h=>?_,fun j=>?_,fun j k a l m=>?_⟩
 . rw [List.getElem?_set] at q ⊢
   by_cases f:i=j
   . subst f;rw [if_pos rfl,if_pos hi] at q;rw [if_pos rfl,if_pos (by lia),aA]
     have:d=e:=by simpa using q
     subst this;exact⟨v,rfl,r⟩
   . rw[if_neg f]at q ⊢;rw[aB (Ne.symm f)];exact R.val j e q
 . by_cases f:j=i
   . subst f;exact absurd (by rw[List.getElem?_set,if_pos rfl,if_pos hi]) (h d)
   . rw [aB f];refine R.non j fun e z=>h e ?_
     rw[List.getElem?_set_ne (Ne.symm f)];exact z
 . by_cases f:j=i
   . subst f;rw[aA];exact p
   . rw[aB f];exact R.nd j
 . by_cases f:j=i
   . subst f;rw[aA]at m;rw[aB (Ne.symm l)];exact fun z=>o k a (Ne.symm l) z m
   . rw [aB f] at m
     by_cases hk:k=i
     . subst hk;rw[aA];exact o j a f m
     . rw[aB hk];exact R.dj j k a l m
def RepA.drop(R:RepA K F H σ δ As)(i):RepA K F H σ (δ.set i none) (iD As i []):=by
 refine⟨R.fz,by rw[List.length_set];exact R.len,fun j e q=>?_,fun j h=>?_,fun j=>?_,fun j k a l m=>?_⟩
 . rw [List.getElem?_set] at q
   by_cases f:i=j
   . subst f;rw[if_pos rfl]at q;split at q<;>cases q
   . rw[if_neg f]at q;rw[aB (Ne.symm f)];exact R.val j e q
 . by_cases f:j=i
   . subst f;rw[aA]
   . rw [aB f];refine R.non j fun e z=>h e ?_
     rw[List.getElem?_set_ne (Ne.symm f)];exact z
 . by_cases f:j=i
   . subst f;rw[aA];exact Zz
   . rw[aB f];exact R.nd j
 . by_cases f:j=i
   . subst f;rw[aA]at m;cases m
   . rw [aB f] at m
     by_cases hk:k=i
     . subst hk;rw[aA];exact fun z=>nomatch z
     . rw[aB hk];exact R.dj j k a l m
def RepA.write{d}(R:RepA K F H σ δ As)(hi:i<δ.length)(o:σ[i]?=some (some v))(k:dQ H H')(u:Same F H')(e:∀j a,j≠i->a∈As j->H' a=H a)(r:RepO K F H' v d A)(t:A.Nodup)(s:∀j a,j≠i->a∈As j->a∉A) :
 RepA K F H' σ (δ.set i (some d)) (iD As i A):=by
 refine⟨u,by rw[List.length_set];exact R.len,fun j p q=>?_,fun j h=>?_,fun j=>?_,fun j k a l m=>?_⟩
 . rw [List.getElem?_set] at q
   by_cases f:i=j
   . subst f;rw [if_pos rfl,if_pos hi] at q;have:d=p:=by simpa using q
     subst this;rw[aA];exact⟨v,o,r⟩
   . rw[if_neg f]at q;rw[aB (Ne.symm f)];obtain⟨w,h1,h2⟩:=R.val j p q;exact⟨w,h1,h2.frame k (fun a m=>e j a (Ne.symm f) m)⟩
 . by_cases f:j=i
   . subst f;exact absurd (by rw[List.getElem?_set,if_pos rfl,if_pos hi]) (h d)
   . rw [aB f];refine R.non j fun e z=>h e ?_
     rw[List.getElem?_set_ne (Ne.symm f)];exact z
 . by_cases f:j=i
   . subst f;rw[aA];exact t
   . rw[aB f];exact R.nd j
 . by_cases f:j=i
   . subst f;rw[aA]at m;rw[aB (Ne.symm l)];exact fun z=>s k a (Ne.symm l) z m
   . rw [aB f] at m
     by_cases hk:k=i
     . subst hk;rw[aA];exact s j a f m
     . rw[aB hk];exact R.dj j k a l m
end
abbrev FM:=DS->Option (D×DS)
abbrev FMA:=DS->Option (List D×DS)
structure Ev(F H:Hp)(As:Nat->List Addr)(F' H':Hp)(Q3:Nat->List Addr)(A:List Addr):Prop where
 fs:Same F F'
 hs:Same H H'
 nf:∀a(u:MO),H a=some u.1->F a=none->(∀i,a∉As i)->F' a=none
 fa:∀i a,a∈Q3 i->(∃j,a∈As j)\/H a=none
 fA:∀a,a∈A->(∃j,a∈As j)\/H a=none
 nd:A.Nodup
 dj:∀i a,a∈Q3 i->a∉A
def Ev.pure{F}(s:Same H H'):Ev F H As F H' As [] :=
 ⟨Same.refl F,s,fun _ _ _ n _=>n,fun i _ m=>.inl ⟨i,m⟩,fun _ m=>(nomatch m),Zz,fun _ _ _ z=>(nomatch z)⟩
def Ev.fresh{F}(s:Same H H')(h:∀a∈A,H a=none)(f:A.Nodup)(dom:∀i a,a∈As i->∃u:MO,H a=some u.1):Ev F H As F H' As A :=
 ⟨Same.refl F,s,fun _ _ _ n _=>n,fun i _ m=>.inl ⟨i,m⟩,fun a m=>.inr (h a m),f,fun i a m z=>by obtain⟨vs,e⟩:=dom i a m;rw[h a z]at e;cases e⟩
def upV(K:ZB)(f:FM):TE:=fun σ H Q=>∃F δ As d δ',RepA K F H σ δ As/\f δ=some (d,δ')/\∀v F' H' A Q3,Ev F H As F' H' Q3 A->RepA K F' H' σ δ' Q3->RepO K F' H' v d A->Q v H'
def PV(X:Cx)(e:Expr)(f:FM):Prop:=PE X e (upV X.K f)
def vR{t}{f:FM}(h:PE X e t)(w:∀{σ H Q F δ As d δ'},RepA X.K F H σ δ As->f δ=some (d,δ')->(∀v F' H' A Q3,Ev F H As F' H' Q3 A->RepA X.K F' H' σ δ' Q3->RepO X.K F' H' v d A->Q v H')->t σ H Q):PV X e f:=imp h fun _ _ _ h=>h.elim fun _ h=>h.elim fun _ h=>h.elim fun _ h=>h.elim fun _ h=>h.elim fun _ h=>w h.1 h.2.1 h.2.2
def vI(f:FD):FM:=fun δ=>(f δ).bind fun d=>if imm d then some (d,δ)else none
noncomputable def uS(i:Nat):FM:=fun δ=>match δ[i]? with
 |some (some (.seq ds))=>some (.seq ds,δ)
 |some (some d)=>if imm d then some (d,δ)else some (d,δ.set i none)
 |_=>none
def jb(i:Nat):FM:=fun δ=>match δ[i]? with
 |some (some d)=>some (sh d,δ.set i (some (sh d)))
 |_=>none
noncomputable def am:FMA:=fun δ=>some ([],δ)
noncomputable def ae(f:FM)(g:FMA):FMA:=fun δ=>(f δ).bind fun p=>(g p.2).bind fun q=>some (p.1::q.1,q.2)
noncomputable def bR(g:FMA):FM:=fun δ=>(g δ).bind fun p=>some (.lst p.1,p.2)
noncomputable def cY(g:FMA):FM:=fun δ=>(g δ).bind fun p=>some (.tup p.1,p.2)
section
variable {g:FMA} {pos:Pos}
def Kr(h:PD X e f):PV X e (vI f):=vR h fun{σ H Q F δ As d δ'} R q k=>by
 unfold vI at q;obtain⟨l,j,q⟩:=Za.mp q;split at q
 . rename_i hi;cases q;exact⟨δ,d,R.toS,j,fun v H' s r=>k v F H' [] As (.pure s) (R.grow s) (.imm hi r)⟩
 . cases q
def GP (i) (l:NmX X i x:=by kernel_rfl):PV X (.Name x pos) (uS i) :=
 vR (iV l) fun {σ H Q F δ As d δ'} R q k=>by
  unfold uS at q;split at q
  . rename_i ds h;cases q;obtain⟨v,h1,h2⟩:=R.val i _ h;rw[h2.seq_nil rfl]at h2;exact⟨v,h1,k v F H [] As (.pure (Same.refl H)) R h2⟩
  . rename_i o _ h;obtain ⟨v,h1,h2⟩:=R.val i _ h;split at q
    . rename_i hi;cases q;have z:=h2.none_of hi;rw[z]at h2;exact⟨v,h1,k v F H [] As (.pure (Same.refl H)) R h2⟩
    . cases q;refine ⟨v,h1,k v F H (As i) (iD As i []) ⟨Same.refl F,Same.refl H,fun _ _ _ n _=>n,fun j a m=>?_,fun a m=>.inl ⟨i,m⟩,R.nd i,fun j a m=>?_⟩ (R.drop i) h2⟩
      . by_cases f:j=i
        . subst f;rw[aA]at m;cases m
        . rw[aB f]at m;exact .inl ⟨j,m⟩
      . by_cases f:j=i
        . subst f;rw[aA]at m;cases m
        . rw[aB f]at m;exact R.dj j i a f m
  . cases q
def C8 (i:Nat) (r:NmX X i x:=by kernel_rfl):PV X (.Name x pos) (jb i) :=
 vR (iV r) fun {σ H Q F δ As d δ'} R q k=>by
  unfold jb at q;split at q
  . rename_i s h;cases q;obtain ⟨v,h1,h2⟩:=R.val i _ h;have hi:=(ZL.mp h).1;have l:=mW (A:=As i) R.fz;have p:Same (frz F H (As i)) H:=uf;have z:=h2.freeze l mX fun a vs m e=>pq e m
    have z2:=RepO.of_sh p z;rw[yx s]at z2;have t:=(R.drop i).froz l p (fun j a m=>by
     by_cases f:j=i
     . subst f;rw[aA]at m;cases m
     . rw[aB f]at m;obtain⟨⟨vs,e⟩,n⟩:=R.dom m;exact gH e n (R.dj j i a f m))
    have R2:=t.set i (by rw[List.length_set];exact hi) z2 Zz fun _ _ _ _ z=>nomatch z
    have o:σ.set i (some v)=σ:=by
     refine List.ext_getElem? fun j=>?_
     rw[List.getElem?_set];split
     . rename_i f;subst f;rw[h1,if_pos (by rw[R.len];exact hi)]
     . rfl
    rw[o,List.set_set]at R2;refine⟨v,h1,k v _ H [] _ ⟨l,Same.refl H,fun a vs e n h=>gH e n (h i),fun j a m=>?_,fun _ m=>(nomatch m),Zz,fun _ _ _ z=>(nomatch z)⟩ R2 z2⟩
    by_cases f:j=i
    . subst f;rw[aA]at m;cases m
    . rw[aB f,aB f]at m;exact .inl ⟨j,m⟩
  . cases q
end
variable {fm:FM}
def ItF(K:ZB)(J:It)(F:Hp)(ds:List D):Prop:=∀i H2,Same F H2 ->
 (i<ds.length->J.go i H2/\∀x H',J.yld i H2 x H'->H'=H2/\∃d,ds[i]?=some d/\Rep K F x d)/\(ds.length<=i->J.stop i H2)
theorem Ep{F}{a}(j:SqL K F a vs)(r:Reps K F vs ds):ItF K (Itl K a) F ds:=by
 intro i H2 s;have f:=s.seq j;have l:=r.length;refine⟨fun hi=>⟨⟨vs,vs[i],f,by simp[show i<vs.length by lia]⟩,fun x H' y=>?_⟩,fun hi=>⟨vs,f,by lia⟩⟩
 obtain⟨e,y⟩:=y;subst e;obtain⟨d,h1,h2⟩:=r.getV (y vs f);exact⟨rfl,d,h1,h2⟩
def itf_range{F}{lo}:ItF K (Itr lo n) F ((List.range n).map fun(i:Nat)=>D.int (lo+(i:Int)*1)):=by
 intro i H2 s;refine⟨fun hi=>?_,fun hi=>(show n<=i by simpa using hi)⟩
 have f:i<n:=by simpa using hi
 refine⟨f,fun x H' y=>?_⟩
 obtain⟨e,y⟩:=y;subst e y;refine⟨rfl,.int (lo+(i:Int)*1),?_,by rw[Int.mul_one];exact .int _⟩
 rw[List.getElem?_map,List.getElem?_range f];rfl
section
variable {F:Hp} 
def RepO.lst_inv{v}{d}(r:RepO K F H v d A)(e:d=.lst ds):∃a vs f,v=.ref a/\A=a::f/\H a=some (.lst vs)/\F a=none/\RepOs K F H vs ds f:=by
 cases r with
 |imm i=>rw[e,Dl.imm]at i;cases i
 |lst h n r=>cases e;exact⟨_,_,_,rfl,rfl,h,n,r⟩
 |_=>cases e
def RepA.lst{i}{ds:Yh D}(R:RepA K F H σ δ As)(h:δ[i]?=some (some (.lst ds))):∃a vs f,σ[i]?=some (some (.ref a))/\As i=a::f/\H a=some (.lst vs)/\F a=none/\RepOs K F H vs ds f:=by obtain⟨v,h1,h2⟩:=R.val i _ h;obtain⟨a,vs,f,rfl,e,m,l,j⟩:=h2.lst_inv rfl;exact⟨a,vs,f,h1,e,m,l,j⟩
def Cq{a}{o}(s:Same F H)(n:F a=none):Same F (upd H a o):=fun b u e=>by
 have:b≠a:=fun z=>by rw[z,n]at e;cases e
 rw[aF this];exact s b u e
end
def shO(δ:DS):DS:=δ.map (Option.map sh)
def RepS.toA(R:RepS K H σ δ):RepA K H H σ (shO δ) (fun _=>[]):=by
 refine⟨Same.refl H,by unfold shO;rw[Zm];exact R.len,fun i d q=>?_,fun _ _=>rfl,fun _=>Zz,fun _ _ _ _ m=>nomatch m⟩
 unfold shO at q;rw[List.getElem?_map]at q;obtain⟨o,h1,h2⟩:=Zb.mp q;cases o with
 |none=>cases h2
 |some l =>cases h2;obtain⟨v,j,f⟩:=R.val i l h1;exact⟨v,j,RepO.of_sh (Same.refl H) f⟩
def oF{a}(s:Same H H')(h:H' a=none):H a=none:=by
 cases q:H a with
 |none=>rfl
 |some u=>rw[s a u q]at h;cases h
section
variable {F:Hp} 
def RepOs.of_imm{vs:Yh V}{ds:Yh D}(r:Reps K H vs ds):cZ ds=true->RepOs K F H vs ds []:=by
 induction r using Reps.ind with
 |nil=>exact fun _=>.nil
 |cons r _ f =>intro i;rw[cZ,ZN]at i;exact .cons (.imm i.1 r) (f i.2) rfl
def nS{p}{Q:VK}(R:RepA K F H σ δ As)(s:Same H H1)(r:Reps K H1 vs ds)(i:cZ ds=true)(l:H1 p=none)
 (k:∀v F' H' A Q3,Ev F H As F' H' Q3 A->RepA K F' H' σ δ Q3->RepO K F' H' v (.lst ds) A->Q v H'):Q (.ref p) (upd H1 p (.lst vs)):=by
 have f:=bv l (.lst vs);have j:=oF s l;refine k _ F _ [p] As (.fresh (s.trans f) (fun a m=>?_) (Z3.mpr ⟨fun z=>(nomatch z),Zz⟩) (fun i a m=>(R.dom m).1)) (R.grow (s.trans f)) (.lst aH (oF R.fz j) (RepOs.of_imm (r.mono f) i))
 rw[Zr.mp m];exact j
end
def gY(d:D)(δ:DS):Option (D×DS):=match d with
 |.lst ds=>if cZ ds then some (.lst ds,δ)else none
 |_=>none
def lR{d d'}{δ':DS}(h:gY d δ=some (d',δ')):∃ds,d=.lst ds/\d'=.lst ds/\δ'=δ/\cZ ds=true:=by
 unfold gY at h;split at h
 . rename_i ds;split at h
   . rename_i hi;cases h;exact⟨ds,rfl,rfl,rfl,hi⟩
   . cases h
 . cases h
def vSl(f:FD)(lo hi:FO):FM:=fun δ=>(fSl f lo hi δ).bind fun d=>gY d δ
noncomputable def mV:List D->Option D
 |[.lst ds]=>some (.lst ds)
 |[.seq ds]=>some (.lst ds)
 |[.tup ds]=>some (.lst ds)
 |_=>none
def gD(g:FA):FM:=fun δ=>(g δ).bind fun ds=>(mV ds).bind fun d=>gY d δ
section
variable {g:FA} {pos:Pos}
def C6(J:PD X e f)(I:POD X lo fl)(D:POD X hi fh):PV X (.Subscript e (.Slice lo hi none p2) pos) (vSl f fl fh):=vR (mL yw J I D) fun{σ H Q F δ As d δ'} z q k=>by
 unfold vSl at q;obtain⟨S,j,q⟩:=Za.mp q;obtain⟨ds,rfl,rfl,rfl,hi⟩:=lR q;unfold fSl at j;obtain⟨x,ex,j⟩:=Za.mp j;obtain⟨es,m,j⟩:=Za.mp j;obtain⟨l,L,j⟩:=Za.mp j;obtain⟨h,O,j⟩:=Za.mp j;cases j;have R:=z.toS;refine⟨_,x,R,ex,fun v H1 t C=>⟨_,l,R.mono t,L,fun H2 s=>⟨_,h,(R.mono t).mono s,O,fun u y=>?_⟩⟩⟩
 have B:=(C.mono s).mono y;have Q4:∀a(vs:Yh V),SqL X.K u a vs->Reps X.K u vs es->J9 X.K (.ref a) l h u Q:=fun a vs G o =>⟨a,vs,rfl,G,fun p r=>nS z ((t.trans s).trans y) (wj o l h) hi r k⟩
 cases B with
 |@lst p vs es r o=>cases m;exact Q4 p vs (SqL.of r) o
 |@seq p vs es r o=>cases m;exact Q4 p vs r o
 |_=>cases m
def Ar (C:Gl X "list") (B:X.mg "list" = none) (z:bootBuiltins "list" = some (.type "list")) (G:PAD X [e] g) (D:starEach [e] X.env=(false,eval e X.env)::starEach [] X.env:=by rfl) (x:(backTo pos (starEach [] X.env)).any (·.1)=false:=by rfl) :
 PV X (.Call (.Name "list" p) [e] [] pos) (gD g):=vR (nO ux C B z G (by decide) (by decide) D x) fun {σ H Q F δ As d δ'} s q k=>by
 unfold gD at q;obtain⟨xs,y,q⟩:=Za.mp q;obtain⟨I,f,q⟩:=Za.mp q;obtain⟨ds,rfl,rfl,rfl,hi⟩:=lR q;refine⟨_,xs,s.toS,y,fun vs H1 t u l=>?_⟩
 unfold mV at f;split at f
 . cases f;obtain ⟨v,rfl,j⟩:=dU u;cases j with
   |@lst p vs _ o m=>exact⟨p,vs,rfl,.inl (SqL.of o),fun l r=>nS s t m hi r k⟩
 . cases f;obtain ⟨v,rfl,j⟩:=dU u;cases j with
   |@seq p vs _ o m=>exact⟨p,vs,rfl,.inl o,fun l r=>nS s t m hi r k⟩
 . cases f;obtain ⟨v,rfl,j⟩:=dU u;cases j with
   |@tup p vs _ o m=>exact⟨p,vs,rfl,.inr o,fun l r=>nS s t m hi r k⟩
 . cases f
end
theorem imms_mem:∀{ds},cZ ds=true<->∀d∈ds,imm d=true
 |[]=>⟨fun _ _ m=>(nomatch m),fun _=>rfl⟩
 |d::ds=>by rw[cZ,ZN,imms_mem];exact⟨fun h e m=>(Zu.mp m).elim (fun z=>z▸h.1) (h.2 e),fun h=>⟨h d Zp,fun e m=>h e (Zq _ m)⟩⟩
noncomputable def eqL(f:D->D->Option Bool):List D->List D->Option Bool
 |[],[]=>some true
 |[],_::_=>some false
 |_::_,[]=>some false
 |a::as,b::bs=>(f a b).bind fun x=>(eqL f as bs).bind fun y=>some (x&&y)
def eq0(a b:D):Option Bool:=if eS a&&eS b then some (eqF a b)else none
noncomputable def nn:D->Option Bool
 |.non=>some false
 |_=>none
noncomputable def eqN:Nat->D->D->Option Bool
 |0,a,b=>eq0 a b
 |n+1,a,b=>match kd a,kd b with
  |none,none=>eq0 a b
  |some p,some q=>if p.1=q.1 then eqL (eqN n) p.2 q.2 else none
  |none,some _=>nn a
  |some _,none=>nn b
theorem zt{f}:∀{as bs}{c},eqL f as bs=some c->∀(j:Nat) a b,as[j]?=some a->bs[j]?=some b->∃x,f a b=some x
 |[],_,_,_,_,_,_,h,_=>by simp at h
 |_::_,[],_,_,_,_,_,_,h=>by simp at h
 |a::as,b::bs,c,h,j,x,y,h1,h2=>by
  obtain⟨u,m,h⟩:=Za.mp (h);obtain⟨v,l,h⟩:=Za.mp h;cases j with
  |zero=>simp at h1 h2;subst h1 h2;exact⟨u,m⟩
  |succ j=>exact zt l j x y (by simpa using h1) (by simpa using h2)
theorem zu{f}:∀{as bs}{c}{e},eqL f as bs=some c->(∀j a b x,as[j]?=some a->bs[j]?=some b->f a b=some x->e j=x)->((List.range (min as.length bs.length)).all e&&as.length==bs.length)=c
 |[],[],c,e,h,_=>by cases h;rfl
 |[],_::_,c,e,h,_=>by cases h;simp
 |_::_,[],c,e,h,_=>by cases h;simp
 |a::as,b::bs,c,e,h,he=>by
  obtain⟨u,r,h⟩:=Za.mp (h);obtain⟨v,q,h⟩:=Za.mp h;cases h;have l:=zu q fun j x y z h1 h2 p=>he (j+1) x y z (by simpa using h1) (by simpa using h2) p
  have h0:=he 0 a b u rfl rfl r;show((List.range (min (as.length+1) (bs.length+1))).all e&&(as.length+1)==(bs.length+1))=(u&&v);have o:min (as.length+1) (bs.length+1)=min as.length bs.length+1:=by lia
  have m:((as.length+1)==(bs.length+1))=(as.length==bs.length):=by rw[Bool.eq_iff_iff];simp
  rw[<- l,<- h0,o,List.range_succ_eq_map,List.all_cons,List.all_map,Bool.and_assoc,m];rfl
def zw{A}{b}{k}(h:SeqAt.RcAt A s .none (.ref b) k):SeqAt.EqAt A s .none (.ref b) k:=fun prog w E Q f=>by
 unfold eqBool;refine wpAny_holding (wpAny_ite_split (fun z=>nomatch (eq_of_beq z:Value.none=Value.ref b)) fun _=>?_)
 have z:=h prog w E (fun a s'=>wpAny (model prog w) A (truthOfDropped a) Q E s') (wpAny_truthy_bool f)
 exact Z4 z
def zv{A}{b}{k}(h:SeqAt.RcAt A s (.ref b) .none k):SeqAt.EqAt A s (.ref b) .none k:=fun prog w E Q f=>by
 unfold eqBool;refine wpAny_holding (wpAny_ite_split (fun z=>nomatch (eq_of_beq z:Value.ref b=Value.none)) fun _=>?_)
 have z:=h prog w E (fun a s'=>wpAny (model prog w) A (truthOfDropped a) Q E s') (wpAny_truthy_bool f)
 exact Z4 z
section
def Rep.nn{v}{d}{c}(r:Rep K H v d)(e:nn d=some c):v=.non/\d=.non/\c=false:=by cases r<;>cases e;exact⟨rfl,rfl,rfl⟩
def Jf{v}{a b}{c}(j:Rep K H v a)(l:Rep K H v b)(h:eq0 a b=some c):c=true:=by
 unfold eq0 at h;split at h
 . rename_i f;cases h;rw[ZN]at f;rw[<- uj (j.flat f.1).2 (l.flat f.2).2];cases j<;>first|rfl|(simp[eqV];done)|exact absurd f.1 ZC
 . cases h
def Ad (I:L2.Inv X Q0 σ H s) (n):∀ {v} {a b} {c},Rep X.K H v a->Rep X.K H v b->eqN n a b=some c->c=true:=by
 induction n with
 |zero=>exact Jf
 | succ n J =>
  intro v a b c m l h;unfold eqN at h;split at h
  . exact Jf m l h
  . rename_i p q j f;split at h
    . rename_i e;obtain ⟨t,as⟩:=p;obtain ⟨t',bs⟩:=q;cases (show t=t' from e)
      clear e;obtain⟨x,vs,rfl,r,B⟩:=m.kd j;obtain⟨y,ws,e,o,z⟩:=l.kd f;cases e;have e:vs=ws:=by cases t;exact I.list_inj r o;exact I.tuple_inj r o
      subst e;clear j f r o m l;change eqL (eqN n) as bs=some c at h
      induction vs generalizing as bs c with
      |nil=>cases B;cases z;cases h;rfl
      | cons v vs G =>
       cases B with
       |cons p1 D =>
        cases z with
        |cons p2 C =>obtain⟨u,j,h⟩:=Za.mp h;obtain⟨w,f,h⟩:=Za.mp h;cases h;rw[J p1 p2 j,G _ _ D C f];rfl
    . cases h
  . rename_i _ f;obtain⟨rfl,_⟩:=m.nn h;obtain⟨_,_,e,_⟩:=l.kd f;cases e
  . rename_i j _;obtain⟨rfl,_⟩:=l.nn h;obtain⟨_,_,e,_⟩:=m.kd j;cases e
def ET{A}{x y}{u v}{a b}{c}(o:RelV x u)(m:RelV y v)(l:Rep K H x a)(j:Rep K H y b)(h:eq0 a b=some c):SeqAt.RcAt A s u v c/\SeqAt.RcNeAt A s u v (!c)/\SeqAt.EqAt A s u v c:=by
 unfold eq0 at h;split at h
 . rename_i f;cases h;rw[ZN]at f;have z:=GC (A:=A) (s:=s) o m l j f.1 f.2;refine⟨z.1,z.2,?_⟩;rw[<- uj (l.flat f.1).2 (j.flat f.2).2];exact ES o m (l.flat f.1).1 (j.flat f.2).1
 . cases h
def EN{A}{vs ws}{us zs}{as bs}{c}(Q:∀{x y}{u v}{a b:D}{c},RelV x u->RelV y v->Rep K H x a->Rep K H y b->eqN n a b=some c->SeqAt.EqAt A s u v c)(r:Vals vs us)(q:Vals ws zs)(z:Reps K H vs as)(t:Reps K H ws bs)(h:eqL (eqN n) as bs=some c) :
 ∃e,(∀j(h1:j<us.toArray.size)(h2:j<zs.toArray.size),SeqAt.EqAt A s us.toArray[j] zs.toArray[j] (e j))/\((List.range (min us.toArray.size zs.toArray.size)).all e&&us.toArray.size==zs.toArray.size)=c:=by
 have m:=r.length;have l:=q.length;refine⟨fun j=>((as[j]?).bind fun a=>(bs[j]?).bind fun b=>eqN n a b).getD true,fun j h1 h2=>?_,?_⟩
 . rw [ZG] at h1 h2;obtain ⟨J,p,p1⟩:=r.get (i:=j) (x:=vs[j]) (by simp [m,h1])
   obtain⟨C,o,p2⟩:=q.get (i:=j) (x:=ws[j]) (by simp[l,h2])
   obtain⟨U,f,O⟩:=z.getV (i:=j) (v:=vs[j]) (by simp[m,h1])
   obtain⟨S,B,L⟩:=t.getV (i:=j) (v:=ws[j]) (by simp[l,h2])
   have I:us.toArray[j]=J:=by simpa[h1]using p
   have G:zs.toArray[j]=C:=by simpa[h2]using o
   obtain⟨V,ex⟩:=zt h j U S f B;dsimp only;rw[I,G,f,B,Zc,Zc,ex];exact Q p1 p2 O L ex
 . rw[ZG,ZG,<- m,<- l,z.length,t.length];exact zu h fun j a b x p o f=>by rw[p,o,Zc,Zc,f];rfl
theorem EQ (I:L2.Inv X Q0 σ H s) (n):∀ A,A.units+n < cLine->∀ {x y} {u v} {a b} {c},RelV x u->RelV y v->Rep X.K H x a->Rep X.K H y b->eqN n a b=some c->SeqAt.RcAt A s u v c/\SeqAt.RcNeAt A s u v (!c)/\SeqAt.EqAt A s u v c:=by
 induction n with
 |zero=>exact fun A _=>ET
 | succ n ih =>
  intro A hu x y u v a b c Q O C B h;have f:A.units<cLine:=by lia
  have h0:=h;unfold eqN at h;split at h
  . exact ET Q O C B h
  . rename_i p q U S;split at h
    . rename_i e;obtain ⟨t,as⟩:=p;obtain ⟨t',bs⟩:=q;cases (show t=t' from e)
      obtain⟨p,vs,rfl,V,Z⟩:=C.kd U;obtain⟨q,ws,rfl,m,Y⟩:=B.kd S;cases(show u=.ref p from Q)
      cases(show v=.ref q from O)
      have z:SeqAt.RcAt A s (.ref p) (.ref q) c/\SeqAt.RcNeAt A s (.ref p) (.ref q) (!c):=by
       have it {us zs:Yh Yc} (l:Vals vs us) (D:Vals ws zs):=EN (A:=A.in1) (fun a b c d e=>(ih A.in1 (by show A.units+1+n<cLine;lia) a b c d e).2.2) l D Z Y h
       cases t with
       |true =>obtain⟨Q1,l,j,_⟩:=I.tuple V;obtain⟨G,D,o,_⟩:=I.tuple m;obtain⟨e,L,rfl⟩:=it l D;exact⟨SeqAt.RcAt.tuples j o f L,SeqAt.RcNeAt.tuples j o f L⟩
       |false =>
        obtain⟨Q1,l,j,_⟩:=I.list V;obtain⟨G,D,o,_⟩:=I.list m;obtain⟨e,L,rfl⟩:=it l D
        by_cases r:Q1.toArray.size=G.toArray.size
        . have z1:=SeqAt.RcAt.lists j.isList o.isList r f L;have z2:=SeqAt.RcNeAt.lists j.isList o.isList r f L;rw[<- r,Nat.min_self,ZA,Bool.and_true];exact⟨z1,z2⟩
        . rw[beq_false_of_ne r,Bool.and_false];exact⟨SeqAt.RcAt.lists_lengths j.isList o.isList (bne_iff_ne.mpr r) f,SeqAt.RcNeAt.lists_lengths j.isList o.isList (bne_iff_ne.mpr r) f⟩
      refine⟨z.1,z.2,?_⟩
      by_cases J:p=q
      . subst J;rw[Ad I (n+1) C B h0];exact SeqAt.EqAt.same _
      . exact SeqAt.EqAt.of_refs J z.1
    . cases h
  . rename_i p _ S;obtain ⟨t,bs⟩:=p;obtain ⟨rfl,rfl,rfl⟩:=C.nn h;obtain ⟨q,ws,rfl,m,_⟩:=B.kd S;cases (show u=.none from Q)
    cases(show v=.ref q from O)
    cases t with
    |true =>obtain⟨Q1,l,j,_⟩:=I.tuple m;exact⟨SeqAt.RcAt.none_tuple j f,SeqAt.RcNeAt.none_tuple j f,zw (SeqAt.RcAt.none_tuple j f)⟩
    |false =>obtain⟨Q1,l,j,_⟩:=I.list m;exact⟨SeqAt.RcAt.none_list j.isList f,SeqAt.RcNeAt.none_list j.isList f,zw (SeqAt.RcAt.none_list j.isList f)⟩
  . rename_i p U _;obtain ⟨t,bs⟩:=p;obtain ⟨rfl,rfl,rfl⟩:=B.nn h;obtain ⟨q,ws,rfl,m,_⟩:=C.kd U;cases (show u=.ref q from Q)
    cases(show v=.none from O)
    cases t with
    |true =>obtain⟨Q1,l,j,_⟩:=I.tuple m;exact⟨SeqAt.RcAt.tuple_none j f,SeqAt.RcNeAt.tuple_none j f,zv (SeqAt.RcAt.tuple_none j f)⟩
    |false =>obtain⟨Q1,l,j,_⟩:=I.list m;exact⟨SeqAt.RcAt.list_none j.isList f,SeqAt.RcNeAt.list_none j.isList f,zv (SeqAt.RcAt.list_none j.isList f)⟩
end
def bQ(a b:D):Option D:=(eqN 6 a b).map D.bl
def d9(a b:D):Option D:=(eqN 6 a b).map fun c=>D.bl (!c)
def Nc(K:ZB):R2:=fun x y H Q=>∃a b c,Rep K H x a/\Rep K H y b/\eqN 6 a b=some c/\Q (.bl c) H
def M7(K:ZB):R2:=fun x y H Q=>∃a b c,Rep K H x a/\Rep K H y b/\eqN 6 a b=some c/\Q (.bl (!c)) H
section
variable {pos:Pos}
theorem t4(l:X.A.units+64<cLine):OpR X (compareOp .Eq) (Nc X.K):=by intro Q0 s σ H x y v u Q I j f ⟨a,b,c,ra,rb,e,q⟩;exact(EQ I 6 X.A (by lia) j f ra rb e).1 X.prog X.w _ _ ⟨.bl c,H,I,rfl,q⟩
theorem DX(l:X.A.units+64<cLine):OpR X (compareOp .NotEq) (M7 X.K):=by intro Q0 s σ H x y v u Q I j f ⟨a,b,c,ra,rb,e,q⟩;exact(EQ I 6 X.A (by lia) j f ra rb e).2.1 X.prog X.w _ _ ⟨.bl (!c),H,I,rfl,q⟩
def tT:R2D K (Nc K) bQ:=by intro x y H Q a b d j f e k;unfold bQ at e;obtain⟨c,l,e⟩:=Zb.mp e;cases e;exact⟨a,b,c,j,f,l,k _ H (Same.refl H) (.bl _)⟩
def CG:R2D K (M7 K) d9:=by intro x y H Q a b d j f e k;unfold d9 at e;obtain⟨c,l,e⟩:=Zb.mp e;cases e;exact⟨a,b,c,j,f,l,k _ H (Same.refl H) (.bl _)⟩
def Lp(f:X.A.units+64<cLine)(l:PD X a fa)(j:PD X b fb):PD X (.Compare a [.Eq] [b] pos) (f2 bQ fa fb):=jf (t4 f) tT l j (eP _)
def Ld(f:X.A.units+64<cLine)(l:PD X a fa)(j:PD X b fb):PD X (.Compare a [.NotEq] [b] pos) (f2 d9 fa fb):=jf (DX f) CG l j (eP _)
def G0(f:X.A.units+64<cLine)(l:PD X a fa)(j:PD X b fb):PTD X (.Compare a [.Eq] [b] pos) (fT (f2 bQ fa fb)):=gF (t4 f) tT l j (eP _)
def GY(f:X.A.units+64<cLine)(l:PD X a fa)(j:PD X b fb):PTD X (.Compare a [.NotEq] [b] pos) (fT (f2 d9 fa fb)):=gF (DX f) CG l j (eP _)
end
section
open PySem.SeqAt
open PySem.AutoSeq1 (wpAny_loadPart')
open PySem.MeetsSeq PySem.MeetsSeq2 PySem.MeetsSeq3
end
noncomputable def Jw:D->Option Bool
 |.lst _=>some true
 |.seq _=>some true
 |.ty _=>none
 |.cls _=>none
 |.ob _ _ _=>none
 |.oo _ _ _=>none
 |.any=>none
 |.tin=>none
 |_=>some false
theorem D2 (d) (b) (h:Jw d=some b):rE "list" d b:=by
 cases d<;>(first|cases h)<;>first
  |exact⟨_,rfl,fun K=>t6 _ K⟩
  |exact⟨_,rfl,fun K=>by kernel_rfl⟩
def pvi(i) {pos} (f:NmX X i x:=by kernel_rfl):PE X (.Name x pos) (Cb i):=iV f
def yC(X:Cx)(r:Nat)(g:List D->Option (List D)):TS:=fun E σ H=>∃b ws ds es,σ[r]?=some (some (.ref b))/\H b=some (.lst ws)/\Reps X.K H ws ds/\cZ ds=true/\g ds=some es/\cZ es=true /\
 ∀ws' H1,Same H H1->Reps X.K H1 ws' es->E.nx σ (upd H1 b (.lst ws'))
def BL(X:Cx)(r:Nat)(sts:List Stmt)(g:List D->Option (List D)):Prop:=PSs X sts (yC X r g)
def Ao(σ):RepS K H σ (List.replicate σ.length none):=⟨by simp,fun i d q=>by rw[List.getElem?_replicate]at q;split at q<;>cases q⟩
section
variable {pos:Pos} {r:Nat} {g:Yh D->Yg (Yh D)} {Q7:Yh Stmt}
def Gv:BL X r [] some:=Ey yN fun E σ H ⟨b,ws,ds,es,h1,h2,f,m,j,l,k⟩=>by
 cases j;have z:=k ws H (Same.refl H) f;have e:upd H b (.lst ws)=H:=by
  funext x;unfold upd;split
  . rename_i q;rw[q,h2]
  . rfl
 rw[e]at z;exact z
def Cv{E}{b}{ws ws1}{es fs}{r}{u:TS}(y:∀E σ H,yC X r g E σ H->u E σ H)(h1:σ[r]?=some (some (.ref b)))(h2:H b=some (.lst ws))(p:Same H H1)(v:Reps X.K H1 ws1 es)(t:cZ es=true)(B:g es=some fs)(s:cZ fs=true)
 (k:∀f H1,Same H H1->Reps X.K H1 f fs->E.nx σ (upd H1 b (.lst f))):u E σ (upd H1 b (.lst ws1)):=by
 have m:=p _ _ h2;refine y E σ _ ⟨b,ws1,es,fs,h1,aH,nL (iW m) v t,t,B,s,fun j H2 o x=>?_⟩
 have l:=o _ _ aH;have z:=k j (upd H2 b (.lst ws)) (fun a u e=>by
  by_cases q:a=b
  . subst q;rw[aH,<- h2];exact e
  . rw[aF q];refine o a u ?_;rw[aF q];exact p a u e) (nL (iW l) x s)
 rw[FX]at z;exact z
def Gw {d:D} (C:PD X e f) (G:∀n,f (List.replicate n none)=some d) (id:imm d=true) (I:PE X e (up X.K f)->PE X c (tBM X.K "list" tS (Cb r) (yr (up X.K f) zZ))) (B:BL X r Q7 g) (y:swapsWith c none pos.line X.env=pure false:=by rfl) :
 BL X r (.Expr c pos::Q7) (fun ds=>if ds.length<=999 then g (ds++[d])else none):=Ey (ve (mK (I C) y) B) fun E σ H ⟨b,ws,ds,es,h1,h2,o,s,j,q,k⟩=>by
 dsimp only at j;split at j
 . rename_i t;refine ⟨.ref b,h1,.inl ⟨rfl,_,SqL.of h2⟩,List.replicate σ.length none,d,Ao σ,G _,fun v H1 l p=>?_⟩
   refine⟨b,ws,v,rfl,rfl,l _ _ h2,Nat.lt_of_le_of_lt (by rw[o.length];exact t) (nG (show 999<=1000 by decide)),?_⟩
   refine Cv (u:=yC X r g) (fun _ _ _ z=>z) h1 h2 l ((o.mono l).append (.cons p .nil)) (imms_mem.mpr fun x m=>?_) j q k
   rcases Zt.mp m with z|z
   . exact imms_mem.mp s x z
   . rw[Zr.mp z];exact id
 . cases j
end
def Aj(g:List D->Option (List D)):D->Option D
 |.lst ds=>if cZ ds then(g ds).bind fun es=>if cZ es then some (.lst es)else none else none
 |_=>none
def Cw{g}{d e}(h:Aj g d=some e):∃ds es,d=.lst ds/\e=.lst es/\cZ ds=true/\g ds=some es/\cZ es=true:=by
 unfold Aj at h;split at h
 . rename_i ds;split at h
   . rename_i hi;obtain ⟨es,h1,h⟩:=Za.mp h;split at h
     . rename_i f;cases h;exact⟨ds,es,rfl,rfl,hi,h1,f⟩
     . cases h
   . cases h
 . cases h
def RepA.other{F}(R:RepA K F H σ δ As){r}(v) (f:∀d,δ[r]?≠some (some d)):RepA K F H (σ.set r v) δ As:=by
 refine⟨R.fz,by rw[List.length_set];exact R.len,fun i d q=>?_,R.non,R.nd,R.dj⟩
 obtain⟨w,h1,h2⟩:=R.val i d q;have:r≠i:=fun z=>f d (z▸q)
 exact⟨w,by rw[List.getElem?_set_ne this];exact h1,h2⟩
theorem HN{α:Type}{as bs:Yh α}(l:as.length=bs.length)(h:j<as.length):(as.take j++bs.drop j).set j as[j]=as.take (j+1)++bs.drop (j+1):=by
 have f:(as.take j).length=j:=by rw[List.length_take];lia
 rw[List.set_append_right _ _ (by lia),f,Nat.sub_self,List.drop_eq_getElem_cons (by lia),Zg]
 have e:as.take (j+1)=as.take j++[as[j]]:=by rw[List.take_add_one,Zy h];rfl
 rw[e,ZW];rfl
theorem HP{α:Type}{as bs:Yh α}(l:as.length=bs.length)(h:j<as.length):(as.take j++bs.drop j)[j]?=some (bs[j]'(by lia)):=by
 have f:(as.take j).length=j:=by rw[List.length_take];lia
 rw[List.getElem?_append_right (by lia),f,Nat.sub_self,List.getElem?_drop]
 simp[show j<bs.length by lia]
def nD:List Nat->TGs
 |[]=>NS
 |i::is=>JC (sR i) (nD is)
noncomputable def JY:List Nat->List D->DS->DS
 |i::is,d::ds,δ=>JY is ds (δ.set i (some d))
 |_,_,δ=>δ
noncomputable def Ew(is:List Nat)(n:Nat):Bool:=is.all fun i=>decide (i<n)
def u5{F:Hp}{vs:Yh V}(r:Reps K H vs ds)(i:cZ ds=true):RepOs K F H vs ds []:=RepOs.of_imm r i
def RepO.parts{F}(r:RepO K F H v (.tup ds) A):∃a vs,v=.ref a/\SqT K H a vs/\RepOs K F H vs ds A:=by
 cases r with
 |imm i h =>
  cases h with
  |tup h r=>exact⟨_,_,rfl,h,u5 r (by rw[Dl.imm]at i;exact i)⟩
 |tup h r=>exact⟨_,_,rfl,h,r⟩
def RepOs.len{F:Hp}{vs:Yh V}(r:RepOs K F H vs ds A):vs.length=ds.length:=r.length
def pgN(i) {pos} (l:X.N.Nodup) (hi:X.N[i]?=some x:=by kernel_rfl) (f:Loc X.env.scope x:=by exact loX (by kernel_rfl)) (j:FoX X x:=by exact foX (by kernel_rfl)):PG X (.Name x pos) (sR i):=yQ l hi f j
def Ik (f:∀ y∈scope.names,y.2 ≠ .cell) (h:(relabel scope X.env).names.lookup y=some .cell \/ (relabel scope X.env).names.lookup y=some .free):∃ p∈scope.names,p.2=.free/\p.1=y:=by
 have l:∀ k,(k=NameKind.cell \/ k=NameKind.free)->(relabel scope X.env).names.lookup y=some k->∃ p∈scope.names,p.2=.free/\p.1=y:=fun k hk h=>by
  have m:=PySem.mem_of_lookup h;unfold relabel at m;obtain⟨⟨n,k'⟩,o,j⟩:=Zs.mp m;dsimp only at j;refine⟨_,o,?_,?_⟩
  . split at j
    . rename_i q;rw[ZN,ZN]at q;exact beq_iff_eq.mp q.1.1
    . have e:=congrArg Prod.snd j;rcases hk with z1 | z1
      . exact absurd (e.trans z1) (f _ o)
      . exact e.trans z1
  . split at j<;>exact congrArg Prod.fst j
 rcases h with h|h
 . exact l _ (.inl rfl) h
 . exact l _ (.inr rfl) h
def JN(i j:Int):Prop:=(Bd i/\Bd j)\/L2.CMul i j
instance(i j:Int):Decidable (JN i j):=by unfold JN L2.CMul;exact inferInstance
noncomputable def zf:D->Option (List D)
 |.tup ds=>some ds
 |.lst ds=>some ds
 |.seq ds=>some ds
 |_=>none
def gIn(a b:D):Option D:=(zf b).bind fun ds=>if eS a&&ds.all eS then some (.bl (ds.any fun y=>eqF y a))else none
def nM{a}{x}(m:toV a=some x){vs:Yh V}{ds:Yh D}(r:Reps K H vs ds):ds.all eS=true->vs.all lA=true/\inV x vs=ds.any fun y=>eqF y a:=by
 induction r using Reps.ind with
 |nil=>exact fun _=>⟨rfl,rfl⟩
 |cons r _ l =>
  intro f;rw[List.all_cons,ZN]at f;obtain⟨h1,h2⟩:=r.flat f.1;obtain⟨o,j⟩:=l f.2;refine⟨by rw[List.all_cons,h1,o];rfl,?_⟩
  unfold inV at j ⊢;rw[List.any_cons,List.any_cons,j,uj h2 m]
def CJ:R2D K (rIn K false) gIn:=by
 intro x y H Q a b d r q e k;unfold gIn at e;obtain⟨ds,m,e⟩:=Za.mp e;split at e
 . rename_i l;rw [ZN] at l;cases e;obtain ⟨o,tx⟩:=r.flat l.1;cases q with
   |@tup p vs _ j f =>cases m;obtain⟨h1,h2⟩:=nM tx f l.2;refine⟨p,vs,rfl,.inr j,o,h1,?_⟩;rw[h2];exact k _ H (Same.refl H) (.bl _)
   |@lst p vs _ j f =>cases m;obtain⟨h1,h2⟩:=nM tx f l.2;refine⟨p,vs,rfl,.inl (SqL.of j),o,h1,?_⟩;rw[h2];exact k _ H (Same.refl H) (.bl _)
   |@seq p vs _ j f =>cases m;obtain⟨h1,h2⟩:=nM tx f l.2;refine⟨p,vs,rfl,.inl j,o,h1,?_⟩;rw[h2];exact k _ H (Same.refl H) (.bl _)
   |_=>cases m
 . cases e
def Nv{pos}(l:PD X a fa)(j:PD X b fb)(f:behindInMarks .In b=false:=by with_unfolding_all rfl):PD X (.Compare a [.In] [b] pos) (f2 gIn fa fb):=jf sD CJ l j f
def Ku{pos}(l:PD X a fa)(j:PD X b fb)(f:behindInMarks .In b=false:=by with_unfolding_all rfl):PTD X (.Compare a [.In] [b] pos) (fT (f2 gIn fa fb)):=gF sD CJ l j f
def kQ:List D->Option (List Bool)
 |[]=>some []
 |d::ds=>(asB d).bind fun b=>(kQ ds).bind fun bs=>some (b::bs)
noncomputable def oi:List D->Option (List D)
 |[.lst ds]=>some ds
 |[.seq ds]=>some ds
 |_=>none
def xC(as:List D):Option D:=(oi as).bind fun ds=>(kQ ds).bind fun bs=>some (.bl (bs.all id))
def OT(as:List D):Option D:=(oi as).bind fun ds=>(kQ ds).bind fun bs=>some (.bl (bs.any id))
def wX{vs}{ds}{bs}(r:Reps K H vs ds):kQ ds=some bs->vs=bs.map V.bl:=by
 induction r using Reps.ind generalizing bs with
 |nil=>intro h;cases h;rfl
 |cons r _ f =>intro h;obtain⟨b,j,h⟩:=Za.mp h;obtain⟨cs,h1,h⟩:=Za.mp h;cases h;rw[(r.asB j).1,f h1];rfl
theorem pE:∀{bs}{us},Vals (bs.map V.bl) us->LSm.BoolsAre us bs
 |[],_,.nil=>.nil
 |b::bs,u::us,.cons r t=>by have e:=r;subst e;exact .cons b (pE t)
def Fp (t:X.calm=true):CallR X (.builtin "all") (fun xs H Q=>∃ p ys,∃ bs:Yh Bool,xs=[.ref p]/\SqL X.K H p ys/\ys=bs.map V.bl/\Q (.bl (bs.all id)) H):=by
 intro Q0 s σ H xs us Q I r h;obtain⟨p,ys,bs,rfl,o,rfl,q⟩:=h;obtain⟨u,rfl,m⟩:=jK r;cases m;obtain⟨Q1,r',pl,y⟩:=I.list o;have j:=pE r';have f:p<s.heap.objs.size:=by obtain⟨_,e,_⟩:=pl.isList;exact ZU e
 refine call_all_walk (wpAny_pyIter_list pl.isList ?_);refine⟨s.heap.objs.size,[s.heap.objs.size,p],[s.heap.objs.size],Q1.toArray.size,_,_,fun i=>(bs[i]?).getD true,rfl,Walks.list (A:=X.A.in1) (I.ok.hd t) _ p (ZJ f) Q1.toArray,
  ⟨⟨_,ZX _ rfl,rfl,rfl⟩,pl.isList.push _⟩,fun i v s' z B x l=>?_,fun h' tk hk=>?_⟩
 . obtain ⟨b,e,rfl⟩:=j.get i v (by simpa using x)
   simp only[e,Option.getD_some]at l;exact wpAny_truthy_bool l
 . have e:((List.range Q1.toArray.size).all fun i=>(bs[i]?).getD true)=bs.all id:=by
    rw[ZG,j.length];exact LSm.range_all bs
   rw[e];exact⟨.bl _,H,I.kept (LSm.kept_iter hk),rfl,q⟩
def qZ{xs}{as}(r:Reps K H xs as)(e:oi as=some ds):∃p ys,xs=[.ref p]/\SqL K H p ys/\Reps K H ys ds:=by
 unfold oi at e;split at e
 . cases e;obtain ⟨x,rfl,f⟩:=dU r;cases f with
   |@lst p vs _ l j=>exact⟨p,vs,rfl,SqL.of l,j⟩
 . cases e;obtain ⟨x,rfl,f⟩:=dU r;cases f with
   |@seq p vs _ l j=>exact⟨p,vs,rfl,l,j⟩
 . cases e
def Mj:CallD K (fun xs H Q=>∃p ys,∃bs:Yh Bool,xs=[.ref p]/\SqL K H p ys/\ys=bs.map V.bl/\Q (.bl (bs.all id)) H) xC:=by intro xs H Q as d r e k;unfold xC at e;obtain⟨ds,l,e⟩:=Za.mp e;obtain⟨bs,j,e⟩:=Za.mp e;cases e;obtain⟨p,ys,h1,h2,f⟩:=qZ r l;exact⟨p,ys,bs,h1,h2,wX f j,k _ H (Same.refl H) (.bl _)⟩
def BH:bootBuiltins "all" = some (.builtin "all"):=by decide +kernel
def Jn(K:ZB):R2:=fun x y H Q=>∃l b xs zs,x=.ref l/\y=.ref b/\SqL K H l xs/\SqL K H b zs/\xs.length+zs.length<=sizeLine/\∀p,H p=none->Q (.ref p) (upd H p (.lst (xs++zs)))
theorem yZ:OpR X (binaryOp .Add) (Jn X.K):=by
 intro Q0 s σ H x y v u Q I G D h;obtain⟨l,b,xs,zs,rfl,rfl,h1,h2,Y,q⟩:=h;cases G;cases D;obtain⟨vs,j,p1,_⟩:=I.list h1;obtain⟨ws,f,p2,_⟩:=I.list h2;obtain⟨⟨V,O,a1,C⟩,n1,o,z,_,r⟩:=p1;obtain⟨⟨U,L,a2,B⟩,n2,m,t,_,p⟩:=p2;simp only at z r t p;subst z r t p;have Z:=j.length;have J:=f.length;have S:vs.toArray++ws.toArray=(vs++ws).toArray:=by simp
 refine concat_meets ⟨_,o,rfl⟩ ⟨_,m,rfl⟩ noFill_list_add seq_list_add PySem.F.slot_list_add
  PySem.F.entry_list_add (PySem.F.args_list_add_2 _ _)
  (list_addW l b vs.toArray ws.toArray n1 n2 O L C B (by rw[ZG,ZG];lia)) ⟨o,m,?_⟩
 rw[S];exact⟨.ref _,_,I.lnew (j.append f) (by rw[Zl];lia),rfl,q _ I.fresh⟩
def iu(a b:D):Option D:=(asL a).bind fun xs=>(asL b).bind fun ys=>if xs.length+ys.length<=1000 then some (.lst (xs++ys))else none
def ou(fa fb:FD):FM:=fun δ=>(f2 iu fa fb δ).bind fun d=>gY d δ
def pz{d}{xs}(r:Rep K H v d)(e:asL d=some xs):∃p vs,v=.ref p/\SqL K H p vs/\Reps K H vs xs:=by
 cases r with
 |@lst p vs es j f=>cases e;exact⟨p,vs,rfl,SqL.of j,f⟩
 |@seq p vs es j f=>cases e;exact⟨p,vs,rfl,j,f⟩
 |_=>cases e
def GD:R2D K (Jn K) iu:=by
 intro x y H Q a b d o m e k;unfold iu at e;obtain⟨xs,v,e⟩:=Za.mp e;obtain⟨ys,u,e⟩:=Za.mp e;split at e
 . rename_i r;cases e;obtain ⟨p,vs,rfl,h1,h2⟩:=pz o v;obtain ⟨q,ws,rfl,t,j⟩:=pz m u;refine ⟨p,q,vs,ws,rfl,rfl,h1,t,by rw [h2.length,j.length];exact eQ r,fun l s=>?_⟩
   have f:=bv s (.lst (vs++ws));exact k _ _ f (.lst aH ((h2.append j).mono f))
 . cases e
def Hy{pos}(j:PD X a fa)(f:PD X b fb):PD X (.BinOp a .Add b pos) (f2 iu fa fb):=qe yZ GD j f
def GR{pos:Pos}(C:PD X a fa)(B:PD X b fb):PV X (.BinOp a .Add b pos) (ou fa fb):=vR (yR yZ C B) fun{σ H Q F δ As d δ'} j q k=>by
 unfold ou at q;obtain⟨L,f,q⟩:=Za.mp q;obtain⟨ds,rfl,rfl,rfl,hi⟩:=lR q;unfold f2 at f;obtain⟨x,ex,f⟩:=Za.mp f;obtain⟨y,G,f⟩:=Za.mp f;refine⟨_,x,j.toS,ex,fun v H1 o t=>⟨_,y,j.toS.mono o,G,fun w H2 m s=>?_⟩⟩
 unfold iu at f;obtain⟨xs,J,f⟩:=Za.mp f;obtain⟨ys,I,f⟩:=Za.mp f;split at f
 . rename_i u;cases f;obtain⟨p,vs,rfl,h1,h2⟩:=pz (t.mono m) J;obtain⟨q,ws,rfl,D,r⟩:=pz s I;exact⟨p,q,vs,ws,rfl,rfl,h1,D,by rw[h2.length,r.length];exact eQ u,fun l z=>nS j (o.trans m) (h2.append r) hi z k⟩
 . cases f
structure CompG(X:Cx)(scope:Scope)(cl:List (Str×Addr))(T N:List Str)(js:List Nat):Prop where
 clos:closureFor scope X.env=pure cl
 nocell:∀y∈scope.names,y.2≠.cell
 kind:scope.kind=.function
 names:∀y∈scope.names,y.2=.local->scope.names.lookup y.1=some .local
 nd:N.Nodup
 len:N.length=T.length+js.length
 clx:∀y,T.contains y=true->cl.lookup y=none
 cls:∀y c,cl.lookup y=some c->X.env.cells.lookup y=some c
 has:∀y,((relabel scope X.env).names.lookup y=some .cell\/(relabel scope X.env).names.lookup y=some .free)->∃c,cl.lookup y=some c
 fr:∀i y j,N[T.length+i]?=some y->js[i]?=some j->X.N[j]?=some y/\X.env.scope.names.lookup y=some .cell/\(relabel scope X.env).names.lookup y=some .cell/\∀c,X.env.cells.lookup y=some c->cl.lookup y=some c
noncomputable abbrev a4(X:Cx)(scope:Scope)(cl:List (Str×Addr))(T N:List Str)(C:Addr)(s₂:Shared)(H₂:Hp)(fp:List Addr)(pn:List (Addr×Obj)):Cx :=
 { X with env:=compEnvC scope cl C X.env,N:=N,s₀:=s₂,H₀:=H₂,outer:=X.stack,stack:=X.stack,ex:=fp,fn:=fun y=>T.contains y,calm:=true,pn:=pn,xe:=fun _ _=>False }
theorem lT:∀{cl:Yh (Str×Ye)},y∈cl.map (·.1)->∃c,cl.lookup y=some c
 |[],h=>by cases h
 | (z,c) :: cl,h=>by
  by_cases f:y=z
  . subst f;exact⟨c,by simp⟩
  . have q:=beq_eq_false_iff_ne.mpr f;rw [List.lookup_cons,q];refine lT ?_;rcases Zu.mp h with e | e
    . exact absurd e f
    . exact e
def CompG.of{Z Y}(clos:closureFor scope X.env=pure cl:=by rfl)(s:cl.map (·.1)=Y:=by rfl)(nocell:∀y∈scope.names,y.2≠.cell:=by decide +kernel)(kind:scope.kind=.function:=by rfl)
 (names:∀y∈scope.names,y.2=.local->scope.names.lookup y.1=some .local:=by decide +kernel) (nd:(T++Z).Nodup:=by decide +kernel) (len:Z.length=js.length:=by rfl) (t:∀y∈T,y∉Y:=by decide +kernel)
 (o:∀p∈cl,X.env.cells.lookup p.1=some p.2) (r:∀p∈scope.names,p.2=.free->p.1∈Y:=by decide +kernel) (x:∀y∈Z,y∈Y:=by decide +kernel)
 (z:∀(i:Nat) y j,Z[i]?=some y->js[i]?=some j->X.N[j]?=some y/\X.env.scope.names.lookup y=some .cell/\(relabel scope X.env).names.lookup y=some .cell):CompG X scope cl T (T++Z) js where
 clos:=clos
 nocell:=nocell
 kind:=kind
 names:=names
 nd:=nd
 len:=by rw[Zl,len]
 clx:=fun y u=>by
  cases q:cl.lookup y with
  |none=>rfl
  |some c =>
   have m:y∈Y:=by rw[<- s];exact Zs.mpr ⟨_,PySem.mem_of_lookup q,rfl⟩
   exact absurd m (t y (List.contains_iff_mem.mp u))
 cls:=fun y c h=>o _ (PySem.mem_of_lookup h)
 has:=fun y h=>by obtain⟨p,m,f,rfl⟩:=Ik nocell h;exact lT (by rw[s];exact r p m f)
 fr:=fun i y j h1 h2=>by
  rw[List.getElem?_append_right (Nat.le_add_right _ _),Nat.add_sub_cancel_left]at h1;obtain⟨a,b,c⟩:=z i y j h1 h2;refine⟨a,b,c,fun e v=>?_⟩
  obtain⟨B,l⟩:=lT (by rw[s];exact x y (List.mem_of_getElem? h1))
  have:=o _ (PySem.mem_of_lookup l);rw[v]at this;cases this;exact l
def rD(X:Cx)(X6:List Expr)(f:FT):Prop:=∀(Q0:List (Addr×Obj))(s:Shared)(σ:L2.St)(H:Hp)(Q:Bool->Hp->Prop),L2.Inv X Q0 σ H s->upT X.K f σ H Q ->
 wpAny (model X.prog X.w) X.A (forIn X6 true fun c r=>if r=true then do let ok <- isTrue c X.env (eval c X.env);pure (ForInStep.yield ok)else pure (ForInStep.yield r)) (TP X Q0 σ Q) X.xe s
def Hj:rD X [] (fun _=>some true):=fun Q0 s σ H Q I ⟨δ,b,R,e,k⟩=>by cases e;exact wpAny_tests_nil ⟨H,I,k H (Same.refl H)⟩
def Hi{f}(h:PTD X c f):rD X [c] f:=fun Q0 s σ H Q I q=>wpAny_tests_one (h Q0 s σ H Q I q)
theorem bindF {α β:Type} {M:Model} {A:Around} {m:Sem α} {f:α->Sem β} {Q:α->Shared->Prop} {R:β->Shared->Prop} {E:Value->Shared->Prop} {s:Shared} (h:wpAny M A m Q (fun _ _=>False) s) (k:∀ a s',Q a s'->wpAny M A (f a) R E s'):wpAny M A (m>>=f) R E s:=wpAny_bind (wpAny_mono h k fun _ _=>False.elim)
def qS{A}{target}{pos}{it acc}{env}(J:Nat->Yd->Prop)
 (q:∀ n s,J n s->wpAny (model prog w) A (pyNext it) (fun r f=>match r with
  |none=>R (.ok .next) f
  |some v=>wpAny (model prog w) A (letOwnedTupleGo target it v) (fun _ s₂=>wpAny (model prog w) A (assign target env v) (fun _ o =>
   wpAny (model prog w) A (forIn X6 true fun c r=>if r=true then do let ok <- isTrue c env (eval c env);pure (ForInStep.yield ok)else pure (ForInStep.yield r)) (fun ok D =>
   if ok=true then wpAny (model prog w) A (eval X8 env) (fun y l =>
   wpAny (model prog w) A (call (.builtin "list.append") [acc,y]) (fun _ j=>∃m,m<n/\J m j) (fun _ _=>False) l) (fun _ _=>False) D else ∃m,m<n/\J m D) (fun _ _=>False) o) (fun _ _=>False) s₂) (fun _ _=>False) f) (fun _ _=>False) s)
 (n) (h:J n s):codeAny (model prog w) A (.compLoop (.ListComp X8 [⟨target,iter,X6,0⟩] scope pos) 0 it acc env) R s:=by
 refine codeAny_loop rfl J (fun n s j=>wpAny_noted (m:=compTurn (.ListComp X8 [⟨target,iter,X6,0⟩] scope pos) 0 it acc env) (compTurn_list X8 target iter X6 scope pos it acc env▸wpAny_bind (wpAny_standAt (bindF (q n s j) fun r _ q=>?_)))) n h
 cases r with
 | none=>exact wpAny_pure q
 | some v=>
  exact bindF q fun _ _ q=>bindF q fun _ _ q=>bindF q fun b _ q=>by
   cases b with
   | false=>exact wpAny_pure ⟨rfl,q⟩
   | true=>exact wpAny_bind (bindF q fun _ _ q=>bindF q fun _ _ q=>wpAny_pure (wpAny_pure ⟨rfl,q⟩))
section
def xX(I:L2.Inv X Q0 σ H₂ s₂)(l:X.calm=true)(O:CompG X scope cl T N js)(m:s₂.heap.objs.size<=C)(j:∀b∈fp,nr X Q0 H₂ b)(p:∀b∈fp,∃o,s₂.heap.get? b=some o):(a4 X scope cl T N C s₂ H₂ fp (X.pn++Q0)).Ok where
 mod:=I.ok.mod
 kind:=O.kind
 glob:=I.ok.glob
 blt:=I.ok.blt
 above:=m
 inj:=fun y z c h1 h2=>I.ok.inj y z c (O.cls y c h1) (O.cls z c h2)
 has:=fun y h=>O.has y h
 cab:=fun y c h1 h2=>by have:cl.lookup y=some c:=h2;rw[O.clx y h1]at this;cases this
 hd:=fun _=>I.ok.hd l
 frames:=I.ok.frames
 stk:=.inl rfl
 exf:=fun b f=>by
  obtain⟨o,e⟩:=p b f;refine⟨ZJ (ZD (ZU e) m),fun y c h z=>?_⟩
  exact(j b f).2.2.2.2.1 y c (O.cls y c h) z
 bs:=I.bs
 bsz:=ZZ I.ok.bsz I.sz
 noex:=fun b o e f=>by
  rcases (j b f).2.2.2.1 with z|z
  . exact I.ok.noex b o e z
  . exact absurd (ZD (ZU e) (ZZ I.ok.bsz z)) (ZK _)
 exfs:=fun b f z=>by
  rcases Zu.mp (I.stkSub b z)with e|e
  . exact(j b f).2.1 e
  . exact(j b f).2.2.1 e
 funs:=I.stack
 frf:=I.stkFree
theorem wk{h₁}{m}{tk}(I:L2.Inv X Q0 σ H₂ s₂)(B:X.calm=true)(O:CompG X scope cl T N js)(G:s₂.heap.objs.size<=C)(Z:∀b∈fp,nr X Q0 H₂ b)(U:∀b∈fp,∃o,s₂.heap.get? b=some o)
 (old:∀b o,s₂.heap.get? b=some o->h₁.get? b=some o) (s:h₁.Ns C m) (hl:σ.length=X.N.length):L2.Inv (a4 X scope cl T N C s₂ H₂ fp (X.pn++Q0)) [] (List.replicate T.length none++fH js σ) H₂ { s₂ with heap:=h₁,toks:=tk } where
 ok:=xX I B O G Z U
 os:=rfl
 bare:=I.bare
 base:=Un.kept old
 loc:=by
  refine⟨m,s,fun i y v h1 h2 J=>?_⟩
  by_cases hi:i<T.length
  . rw [List.getElem?_append_left (by simpa using hi),List.getElem?_replicate,if_pos hi] at h2
    cases h2
  . obtain ⟨i,rfl⟩:∃ k,i=T.length+k:=⟨i - T.length,by lia⟩
    have f:(fH js σ)[i]?=some (some v):=by
     rw[List.getElem?_append_right (by simp)]at h2
     simpa using h2
    unfold fH at f;rw[List.getElem?_map]at f;obtain⟨j,Y,l⟩:=Zb.mp f;have H:σ[j]?=some (some v):=by
     cases q:σ[j]? with
     |none=>rw[q]at l;cases l
     |some o=>rw[q]at l;exact congrArg some l
    obtain⟨f1,f2,f3,f4⟩:=O.fr i y j h1 Y;obtain⟨m',V,t⟩:=I.loc;obtain⟨u,L,lk⟩:=t j y v f1 H (.inr (.inl f2));refine⟨u,L,?_⟩;rcases lk with⟨Q,_⟩|⟨_,c,hc,o,x,D⟩
    . have:X.env.scope.names.lookup y=some .local:=Q;rw[f2]at this;cases this
    . exact .inr ⟨.inl f3,c,f4 c hc,o,old c o x,D⟩
 cell:=fun y c e=>by obtain⟨v,o,h1,h2⟩:=I.cell y c (O.cls y c e);exact⟨v,o,old c o h1,h2⟩
 free:=I.hok.fresh G
 freeC:=fun y c e=>I.freeC y c (O.cls y c e)
 pin:=fun p S=>by
  have r:p∈X.pn++Q0:=by simpa using S
  obtain⟨h1,h2,J,l,H⟩:=I.pin p r;refine⟨old _ _ h1,h2,ZJ (ZD (ZU h1) G),fun z=>?_,H⟩
  rcases Zu.mp (I.stkSub p.1 z)with e|e
  . exact J e
  . exact l e
 hok:=I.hok.kept old
 len:=by rw[O.len];simp[fH]
end
section
def B5(I:L2.Inv X Q0 σ H s)(k:∀b o,b∉ch->s.heap.get? b=some o->h'.get? b=some o)(j:∀b∈ch,nr X Q0 H b):L2.Inv X Q0 σ H { s with heap:=h',toks:=t' }:=by
 have l:∀b u,H b=some u->b∉ch:=fun b u e m=>by rw[(j b m).1]at e;cases e
 refine I.step (fun b p=>⟨(j b p).2.2.2.1,(j b p).2.1,(j b p).2.2.2.2.1,(j b p).2.2.2.2.2⟩) (fun b o _ _ f e _=>k b o f e) (fun b o _ _ f e _=>⟨o.slots,k b o f e⟩) (fun _ _ _ _ n=>n)
  (fun b o f e=>⟨o,k b o f e⟩) (fun _ _ e=>e) (fun _ _ _ e=>e) (fun b ps e=>⟨#[],by rw[e];simp⟩) (fun m x=>?_) (fun b u e=>?_) I.bare
 . obtain⟨o,es,ep,t,r⟩:=x;exact⟨o,es,ep,k _ o (fun m=>(j _ m).2.1 rfl) t,r⟩
 . refine (I.hok b u e).stay (fun c v f q=>k c v ?_ q) (fun _ q=>q) fun _ _ q=>q
   rcases f with z|z
   . rw[z];exact l b u e
   . exact l c _ z
def BZ{a}{xs}(I:L2.Inv X Q0 σ H s)(k:∀b o,b∉ch->s.heap.get? b=some o->h'.get? b=some o)(l:∀b∈ch,nr X Q0 H b)(y:s.heap.objs.size<=a)(x:ObjOk X.prog X.w (upd H a (.tup xs)) h' a (.tup xs)):L2.Inv X Q0 σ (upd H a (.tup xs)) { s with heap:=h',toks:=t' }:=by
 have fa:=I.hok.fresh y;have p:∀b u,H b=some u->b∉ch:=fun b u e m=>by rw[(l b m).1]at e;cases e
 have t:∀b u,H b=some u->b≠a:=fun b u e z=>by rw[z,fa]at e;cases e
 refine I.step (fun b j=>⟨(l b j).2.2.2.1,(l b j).2.1,(l b j).2.2.2.2.1,(l b j).2.2.2.2.2⟩) (fun b o _ _ f e _=>k b o f e) (fun b o _ _ f e _=>⟨o.slots,k b o f e⟩) (fun b o _ e n=>?_)
  (fun b o f e=>⟨o,k b o f e⟩) (fun b _ e=>by rw[aF (t b _ e)];exact e) (fun b _ _ e=>by rw[aF (t b _ e)];exact e) (fun b ps e=>⟨#[],by rw[aF (t b _ e),e];simp⟩) (fun m C=>?_) (fun b u e=>?_) I.bare
 . rw[aF (ZJ (ZD (ZU e) y))];exact n
 . obtain⟨o,es,ep,B,r⟩:=C;exact⟨o,es,ep,k _ o (fun m=>(l _ m).2.1 rfl) B,r⟩
 . by_cases j:b=a
   . subst j;rw[aH]at e;cases e;exact x
   . rw [aF j] at e;refine (I.hok b u e).stay (fun c v f q=>k c v ?_ q) (fun c q=>by rw [aF (t c _ q)];exact q) fun c ys q=>by rw [aF (t c _ q)];exact q
     rcases f with z|z
     . rw[z];exact p b u e
     . exact p c _ z
end
def Itz(K:ZB)(a b:Addr):It :=
 ⟨fun i H=>∃ xs ys x y,SqL K H a xs/\SqL K H b ys/\xs[i]? = some x/\ys[i]? = some y,fun i H v H'=>∃ p x y,v=.ref p/\H p=none/\H'=upd H p (.tup [x,y])/\(∀ xs,SqL K H a xs->xs[i]? = some x)/\∀ ys,SqL K H b ys->ys[i]? = some y,
  fun i H=>∃xs ys,SqL K H a xs/\SqL K H b ys/\(xs.length<=i\/ys.length<=i)⟩
def Og(z TI TO i1 i2 l1 l2:Addr)(i:Nat)(h:Heap):Prop:=IsZip h z TI TO .none/\IsPair h TI (.ref i1) (.ref i2)/\(∃a b,IsPair h TO a b)/\h.IsListIter i1 l1 i/\h.IsListIter i2 l2 i
theorem BX{pt}{z TI TO i1 i2 O L}(D:ZipApart z TI TO i1 i2 O L):uL P w K (.Tuple es kt pt) (Itz K O L) [z,TI,TO,i1,i2] z (Og z TI TO i1 i2 O L) where
 mem:=by simp
 obj:=fun i h st b f=>by
  obtain⟨B,j,⟨a,S,l⟩,⟨o1,e1,_,d1⟩,⟨o2,e2,_,d2⟩⟩:=st;simp only[Zu,ZI,or_false]at f;rcases f with rfl|rfl|rfl|rfl|rfl
  . exact⟨_,B,fun v q=>by cases q⟩
  . exact⟨_,j,fun v q=>by cases q⟩
  . exact⟨_,l,fun v q=>by cases q⟩
  . exact⟨_,e1,fun v q=>by rw[d1]at q;cases q⟩
  . exact⟨_,e2,fun v q=>by rw[d2]at q;cases q⟩
 keep:=fun i h h' st k=>by obtain⟨B,j,⟨a,S,l⟩,h1,h2⟩:=st;exact⟨k z (by simp) _ B,k TI (by simp) _ j,⟨a,S,k TO (by simp) _ l⟩,h1.at fun o e=>k i1 (by simp) o e,h2.at fun o e=>k i2 (by simp) o e⟩
 item:=by
  intro X hP hw hK hc i Q0 s σ H E I Q st hg;subst hP hw hK;obtain⟨xs,ys,x,y,r,m,hx,hy⟩:=hg;obtain⟨B,j,⟨a,S,l⟩,h1,h2⟩:=st;obtain⟨Q1,Y,p,_⟩:=I.list r;obtain⟨jts,C,Z,_⟩:=I.list m;obtain⟨u,hu,ru⟩:=Y.get hx;obtain⟨v,hv,V⟩:=C.get hy;refine wpAny_pyNext_zip_item D B j l h1 h2 p.isList Z.isList (by simpa using hu) (by simpa using hv) fun h' hz' J h1' h2' hT hsz hk=>?_
  have fT:=I.hok.fresh (ZM _);refine⟨_,rfl,wpAny_letOwnedTupleGo_zip hz' fun t G sb=>?_⟩
  have lt:∀b∈[z,TI,TO,i1,i2],b<s.heap.objs.size:=fun b f=>by
   obtain⟨o1,e1,_⟩:=h1;obtain⟨o2,e2,_⟩:=h2;simp only[Zu,ZI,or_false]at f;rcases f with rfl|rfl|rfl|rfl|rfl
   . exact ZU B
   . exact ZU j
   . exact ZU l
   . exact ZU e1
   . exact ZU e2
  have U:s.heap.objs.size≠z:=Nat.ne_of_gt (lt z (by simp))
  have up:∀b o,b≠z->h'.get? b=some o->t.get? b=some o:=fun b o f e=>(sb.2 b f).trans e
  have kk:∀b o,b∉[z,TI,TO,i1,i2]->s.heap.get? b=some o->t.get? b=some o:=fun b o f e=>by simp only[Zu,ZI,or_false,not_or]at f;exact up b o f.1 (hk b o f.1 f.2.2.1 f.2.2.2.1 f.2.2.2.2 e)
  have hT2:t.get? s.heap.objs.size=some { cls:=.type "tuple",data:=.seq #[u,v] }:=up _ _ U hT;refine⟨.ref s.heap.objs.size,upd H s.heap.objs.size (.tup [x,y]),BZ (s:=s) (h':=t) (t':=s.toks) I kk Q (ZM _) ⟨by show 2<=sizeLine;decide,[u,v],.cons ru (.cons V .nil),⟨_,hT2,rfl,_,rfl⟩⟩,rfl,⟨_,x,y,rfl,fT,rfl,fun zs q=>by rw[I.list_inj q r];exact hx,fun zs q=>by rw[I.list_inj q m];exact hy⟩,⟨G,?_,⟨u,v,up _ _ D.TOz J⟩,h1'.at fun o e=>up _ o D.i1z e,h2'.at fun o e=>up _ o D.i2z e⟩,fun b f=>?_⟩
  . exact up _ _ D.TIz (hk TI _ D.TIz D.TITO D.TIi1 D.TIi2 j)
  . rw[aF (ZJ (lt b f))];exact(Q b f).1
 done:=by
  intro X hP hw hK hc i Q0 s σ H E I Q st hg;subst hP hw hK;obtain⟨xs,ys,r,m,hl⟩:=hg;obtain⟨B,j,⟨a,S,l⟩,h1,h2⟩:=st;obtain⟨Q1,Y,p,_⟩:=I.list r;obtain⟨jts,C,Z,_⟩:=I.list m;have O:=Y.length;have L:=C.length;refine wpAny_pyNext_zip_end (I.ok.hd hc) D B j l h1 h2 p.isList Z.isList (by
   rcases hl with h|h
   . exact .inl (by simp;lia)
   . exact .inr (by simp;lia)) fun h' hk=>⟨rfl,B5 (t':=s.toks) I (fun b o f e=>?_) Q⟩
  simp only[Zu,ZI,or_false,not_or]at f;exact hk b o f.1 f.2.2.1 f.2.2.2.1 f.2.2.2.2 e
 self:=fun _ _ _ _ _ st h=>wpAny_pyIter_zip st.1 h
def OP(K:ZB)(ta:TA):TI:=fun σ H R=>ta σ H fun vs H1=>∃a b,vs=[.ref a,.ref b]/\(∃xs,SqL K H1 a xs)/\(∃ys,SqL K H1 b ys)/\R (Itz K a b) H1
theorem KO {pt} {ta} {pos} (V:Gl X "zip") (U:X.mg "zip" = none) (Y:PA X [a,b] ta) (S:starEach [a,b] X.env=[(false,eval a X.env),(false,eval b X.env)]:=by rfl) (f:starEach [b] X.env=[(false,eval b X.env)]:=by rfl) :
 PI X (.Tuple es kt pt) (.Call (.Name "zip" p) [a,b] [] pos) (OP X.K ta):=by
 intro Q0 s σ H R I h;refine Call_ (lU I V U PyProof.Rows.boot_zip (PyProof.Rows.callWith_type1 (pI (Y pos Q0 s σ H _ I h) fun{us m vs H1} l D G=>?_) (by rw[S,f]) (by rw[f];rfl)))
 obtain⟨L,J,e,⟨xs,u⟩,⟨ys,t⟩,q⟩:=G;subst e;cases D with
 | cons r o =>
  cases o with
  |cons r' o =>
   cases o;cases r;cases r';obtain⟨Q1,rv,p,_⟩:=l.list u;obtain⟨O,C,y,_⟩:=l.list t;have a1:L<m.heap.objs.size:=by obtain⟨_,e,_⟩:=p.isList;exact ZU e
   have Z:J<m.heap.objs.size:=by obtain⟨_,e,_⟩:=y.isList;exact ZU e
   refine call_zip_2 p.isList y.isList fun h' z x v h1 h2 Q hk=>?_
   refine wpAny_pyIter_zip z ?_;refine⟨_,_,_,_,H1,rfl,l.kept hk,BX (PyProof.Rows.zipApart_new a1 Z),⟨z,x,⟨_,_,v⟩,h1,h2⟩,fun b B=>?_,q⟩
   have j:m.heap.objs.size<=b:=by simp only[Zu,ZI,or_false]at B;rcases B with rfl|rfl|rfl|rfl|rfl<;>lia
   exact l.fpOk j (l.hok.fresh j)
def uI{d}(r:Rep K H v d)(e:asL d=some ds):∃a vs,v=.ref a/\SqL K H a vs/\Reps K H vs ds:=by
 cases r with
 |@lst p vs es j f=>cases e;exact⟨p,vs,rfl,SqL.of j,f⟩
 |@seq p vs es j f=>cases e;exact⟨p,vs,rfl,j,f⟩
 |_=>cases e
noncomputable def wp(H:Hp)(A:List Addr):Hp:=fun a=>if a∈A then none else H a
def II:Same (wp H A) H:=fun a u e=>by
 unfold wp at e;split at e
 . cases e
 . exact e
def wo{a}(m:a∈A):wp H A a=none:=if_pos m
def uA{a}(m:a∉A):wp H A a=H a:=if_neg m
noncomputable def asN:D->Option Int
 |.int i=>some i
 |_=>none
def uH{d}{i}(h:asN d=some i):d=.int i:=by cases d<;>first|(cases h;rfl)|cases h
def qz:List D->Option (List Int)
 |[]=>some []
 |d::ds=>(oI d).bind fun i=>(qz ds).map (i::·)
def vP{vs}{ds}{ns}(r:Reps K H vs ds):qz ds=some ns->vs=ns.map V.int:=by
 induction r using Reps.ind generalizing ns with
 |nil=>intro e;cases e;rfl
 |cons r _ f =>intro e;obtain⟨i,ei,e⟩:=Za.mp e;obtain⟨ms,j,rfl⟩:=Zb.mp e;rw[(r.oI ei).1,f j];rfl
variable {fd:FuncData}
noncomputable def lk(ks:List Int)(ds:List D)(k:Int):Option D:=((ks.zip ds).find? fun p=>decide (p.1=k)).map (·.2)
noncomputable def fIf(c:FT)(a b:FD):FD:=fun δ=>(c δ).bind fun t=>if t then a δ else b δ
def Lm{pos}(l:PTD X c fc)(o:PD X a fa)(m:PD X b fb):PD X (.IfExp c a b pos) (fIf fc fa fb):=gj (qc l o m) fun{σ H Q δ d} R q k=>by
 unfold fIf at q;obtain⟨t,p,q⟩:=Za.mp q;refine⟨δ,t,R,p,fun H' f=>?_⟩
 cases t with
 |true=>rw[if_pos rfl]at q ⊢;exact⟨δ,d,R.mono f,q,fun v H2 j r=>k v H2 (f.trans j) r⟩
 |false=>rw[if_neg ZC]at q ⊢;exact⟨δ,d,R.mono f,q,fun v H2 j r=>k v H2 (f.trans j) r⟩
def BG:bootBuiltins "max" = some (.builtin "max"):=by decide +kernel
end Dl
namespace Hd
open PySem PySem.Spec PyProof.Rows L2
variable {l:W.OpenLaw} {q:Program} {loose:Yh Str} {XP:(Str->Yg Yc)->Heap->Prop} {YP:World->Heap->Prop} {T:ZB->Prop} {sp:ZB->Sp} {Xt:Yd->Bool} {ann:Yg Yc}
theorem walkE{n k}{d}{x}
 (O:l.most=some n) (y:n<=sizeLine) (C:d.params.defaults=[]) (L:Room k callerA)
 (X:∀w h,YP w h->∃K,K.In h/\T K)
 (F:∀ w K mg fa h,T K->K.In h->h.Ns mainGlobals mg->mg d.name=some (.ref fa) ->
  ∃fd,(∀s u,BindsTo s fd ⟨[u],[]⟩ [(x,u)]) /\
   ∀base,K.In base->base.Ns mainGlobals mg->i8 l.prog w K mg base CX0 k fa fd [x] (sp K))
 (t:∀K H a(r:Yh Int),r.length<=n->MD H->SqL K H a (r.map V.int)->sp K [.ref a] H (fun v _=>v=.bl true) fun _ _ _=>False) :
 W.WalkO q loose XP YP l.row.toRowW d [] (fun f vs=>PySem.call f vs):=by
 refine Att.attach_call O C fun w I D mg mb fa o pm cd X5 a vs r G Y ho hd S B p m j Q=>?_
 obtain⟨K,J,Z⟩:=X w _ Y;obtain⟨fd,U,hF⟩:=F w K mg fa _ Z J G.T.g B;exact Ek J G.T.g G.T.b G.T.builtins G.T.nolimit Q p m (ZZ j y) L hF U (fun H hO hS=>t K H a r j hO hS) fun H e s' z=>z
end Hd
namespace Sw
open PySem PySem.Spec PyProof.Rows PySem.W
variable {i k j ep:Nat} {prog:Program} {w:World} {A:Around} {s:Yd} {es:Array (Int×Yc)} {ks ms:Yh Nat} {led:Bool} {a I l S:Ye} {t:SetTable} {Q:Yc->Yd->Prop} {o:Obj} {e:Int×Yc} {R:Result->Yd->Prop} {Q2 acc:Array Yc} {p:SetTable.Probe}
def Ri(xs:Array Nat):Prop:=xs.toList.Pairwise (· < ·)
theorem Ri.lt{xs}(h:Ri xs)(f:i<k)(hk:k<xs.size):xs[i]'(Nat.lt_trans f hk)<xs[k]:=by
 have:=List.pairwise_iff_getElem.mp h i k (by simp;lia) (by simpa using hk) f
 simpa using this
theorem Ri.down{xs}(h:Ri xs)(f:i<=k)(hk:xs.getD k j<j):xs.getD i j<j:=by
 by_cases l:k<xs.size
 . have m:=Nat.lt_of_le_of_lt f l;rw [Array.getD_eq_getD_getElem?,Z1 l] at hk;rw [Array.getD_eq_getD_getElem?,Z1 m]
   by_cases e:i=k
   . subst e;exact hk
   . exact Nat.lt_trans (h.lt (by lia) l) hk
 . rw [Array.getD_eq_getD_getElem?,Array.getElem?_eq_none (by lia)] at hk
   exact absurd hk (ZK _)
theorem xw{xs}(mono:∀i k,i<=k->xs.getD k j<j->xs.getD i j<j):∀f lo hi,lo<=hi->hi-lo<=f->(∀i,i<lo->xs.getD i j<j)->(∀i,hi<=i->¬xs.getD i j<j)->(∀i,i<SetTable.below.go xs j f lo hi->xs.getD i j<j)/\∀i,SetTable.below.go xs j f lo hi<=i->¬xs.getD i j<j
 |0,lo,hi,h,g,a,b=>by
  have:lo=hi:=by omega
  subst this;exact⟨a,b⟩
 |f+1,lo,hi,h,g,a,b=>by
  unfold SetTable.below.go;split
  . rename_i l;dsimp only;split
    . rename_i c;exact xw mono f _ _ (by omega) (by omega) (fun i m=>mono i _ (Nat.le_of_lt_succ m) c) b
    . rename_i c;exact xw mono f _ _ (by omega) (by omega) a (fun i m z=>c (mono _ i m z))
  . have:lo=hi:=by omega
    subst this;exact⟨a,b⟩
theorem tG{xs}(h:Ri xs)(j):(∀i,i<SetTable.below xs j->xs.getD i j<j)/\∀i,SetTable.below xs j<=i->¬xs.getD i j<j :=
 xw (fun _ _ a b=>h.down a b) xs.size 0 xs.size (Nat.zero_le _) (by lia) (fun _ z=>absurd z (Nat.not_lt_zero _)) (fun i hi z=>by rw[Array.getD_eq_getD_getElem?,Array.getElem?_eq_none hi]at z;exact absurd z (ZK _))
theorem yb{xs}(h:Ri xs)(hi:i<xs.size):SetTable.below xs (xs[i]+1)=i+1:=by
 obtain⟨a,b⟩:=tG h (xs[i]+1);rcases Nat.lt_trichotomy (SetTable.below xs (xs[i]+1)) (i+1)with c|c|c
 . have:=b i (by lia)
   rw[Array.getD_eq_getD_getElem?,Z1 hi]at this;exact absurd (Nat.lt_succ_self _) this
 . exact c
 . have:=a (i+1) c;have l:i+1 < xs.size:=by
    rcases Nat.lt_or_ge (i+1) xs.size with z|z
    . exact z
    . rw[Array.getD_eq_getD_getElem?,Array.getElem?_eq_none z]at this;exact absurd this (ZK _)
   rw[Array.getD_eq_getD_getElem?,Z1 l]at this;have q:xs[i]<xs[i+1]:=h.lt (by lia) l
   simp only[Option.getD_some]at this
   lia
def x9{xs}(h:Ri xs):SetTable.below xs 0=0:=by
 rcases Nat.eq_zero_or_pos (SetTable.below xs 0)with c|c
 . exact c
 . exact absurd ((tG h 0).1 0 c) (Nat.not_lt_zero _)
noncomputable def jc:List (List Nat):=[[],[0],[1],[0,1],[2],[0,2],[1,2],[0,1,2],[3],[0,3],[1,3],[0,1,3],[2,3],[0,2,3],[1,2,3],[0,1,2,3],[4],[0,4],[1,4],[0,1,4],[2,4],[0,2,4],[1,2,4],[0,1,2,4],[3,4],[0,3,4],[1,3,4],[0,1,3,4],[2,3,4],[0,2,3,4],[1,2,3,4],[0,1,2,3,4]]
noncomputable def t7(led:Bool)(ks:List Nat):SetTable:={ mask:=7,place:=ks.toArray,dummies:=#[],finger:=0,led:=led,moves:=0,plain:=true }
def tb(led:Bool)(ks:List Nat):SetTable:=if ks.length=5 then{ mask:=31,place:=ks.toArray,dummies:=#[],finger:=0,led:=led,moves:=1,plain:=true } else t7 led ks
noncomputable def pos(ks:List Nat)(k:Nat):Nat:=SetTable.below ks.toArray k
def ins(ks:List Nat)(k:Nat):List Nat:=ks.take (pos ks k)++k::ks.drop (pos ks k)
def nN(ks:List Nat)(k:Nat):List Nat:=if k∈ks then ks else ins ks k
def EH:∀led∈[true,false],∀ks∈jc,∀k∈[0,1,2,3,4],k∉ks->(tb led ks).freeSlot (k:Int)=some (k,false)/\(tb led ks).put k=(t7 led (ins ks k),pos ks k)/\ins ks k∈jc/\pos ks k<=ks.length:=by decide +kernel
def OR:∀ks∈jc,∀k∈[0,1,2,3,4],∀j∈[0,1,2,3,4],k∉ks->(j∈ins ks k<->j=k\/j∈ks):=by decide +kernel
def vV:∀led∈[true,false],∀ks∈jc,(tb led ks).fits ks.length=true/\(t7 led ks).fits ks.length=true/\(t7 led ks).tooFull=decide (ks.length=5)/\ks.length<=5/\ks=(List.range 5).filter (fun k=>decide (k∈ks))/\(∀k∈ks,k∈[0,1,2,3,4])/\(ks.length=5->ks=[0,1,2,3,4]):=by decide +kernel
def NR:∀led∈[true,false],(t7 led [0,1,2,3,4]).relaid #[0,1,2,3,4] (SetTable.grown 5)=some (tb led [0,1,2,3,4],#[0,1,2,3,4])/\coversAll #[0,1,2,3,4] 5=true/\(tb led [0,1,2,3,4]).fits 5=true:=by decide +kernel
def xy:∀k∈[0,1,2,3,4],hashInt ((k:Nat):Int)=((k:Nat):Int):=by decide +kernel
def ji(led):led∈[true,false]:=by cases led<;>simp
def EsIs:List (Int×Value)->List Nat->Prop
 |[],[]=>True
 |e::es,k::ks=>(∃t,e=((k:Int),.int (k:Int) t))/\EsIs es ks
 |_,_=>False
theorem EsIs.len:∀{es}{ks},EsIs es ks->es.length=ks.length
 |[],[],_=>rfl
 |e::es,k::ks,h=>by rw[Zn,Zn,h.2.len]
 |[],_::_,h=>h.elim
 |_::_,[],h=>h.elim
theorem EsIs.app:∀{es fs}{ks ls},EsIs es ks->EsIs fs ls->EsIs (es++fs) (ks++ls)
 |[],_,[],_,_,g=>g
 |e::es,_,k::ks,_,h,g=>⟨h.1,h.2.app g⟩
 |[],_,_::_,_,h,_=>h.elim
 |_::_,_,[],_,h,_=>h.elim
theorem EsIs.cut:∀p{es}{ks},EsIs es ks->EsIs (es.take p) (ks.take p)/\EsIs (es.drop p) (ks.drop p)
 |0,_,_,h=>⟨trivial,h⟩
 |p+1,[],[],_=>⟨trivial,trivial⟩
 |p+1,e::es,k::ks,h=>⟨⟨h.1,(EsIs.cut p h.2).1⟩,(EsIs.cut p h.2).2⟩
 |_+1,[],_::_,h=>h.elim
 |_+1,_::_,[],h=>h.elim
def EsIs.mem{es:Yh (Int×Yc)}:∀{ks:Yh Nat},EsIs es ks->∀e∈es,∃k∈ks,∃t,e=((k:Int),.int (k:Int) t):=by
 induction es with
 |nil=>exact fun _ _ m=>nomatch m
 | cons e es l =>
  intro ks h x m;cases ks with
  |nil=>exact h.elim
  |cons k ks =>
   rcases Zu.mp m with q|q
   . obtain⟨t,f⟩:=h.1;exact⟨k,Zp,t,q.trans f⟩
   . obtain⟨k',j,t,f⟩:=l h.2 x q;exact⟨k',Zq _ j,t,f⟩
theorem EsIs.has:∀{es}{ks},EsIs es ks->∀k∈ks,∃t,((k:Int),Value.int (k:Int) t)∈es
 |e::es,k::ks,h,x,m=>by
  rcases Zu.mp m with q|q
  . obtain⟨t,f⟩:=h.1;exact⟨t,by rw[q,<- f];exact Zp⟩
  . obtain⟨t,f⟩:=h.2.has x q;exact⟨t,Zq _ f⟩
 |[],_::_,h,_,_=>h.elim
 |_::_,[],h,_,_=>h.elim
theorem EsIs.fst:∀{es}{ks},EsIs es ks->es.map (·.1)=ks.map fun(k:Nat)=>(k:Int)
 |[],[],_=>rfl
 |e::es,k::ks,h=>by obtain⟨t,f⟩:=h.1;rw[Zv,Zv,h.2.fst,f]
 |[],_::_,h=>h.elim
 |_::_,[],h=>h.elim
section
variable {E:Yc->Yd->Prop} 
def EsIs.elems{es}(h:EsIs es ks)(g:∀k∈ks,k∈[0,1,2,3,4]):ElemsOf (intKind prog w) es:=fun e m=>by obtain⟨k,f,t,rfl⟩:=h.mem e m;exact⟨⟨(k:Int),intKind_is _ _ _ _,(xy k (g k f)).symm⟩,rfl⟩
def oK{α:Type}(xs:Array α)(p) (x):(SetTable.insertAt xs p x).toList=xs.toList.take p++x::xs.toList.drop p:=by unfold SetTable.insertAt;simp[List.extract_eq_drop_take,List.take_of_length_le]
def A7(x) (j:ks∈jc) (hk:k∈[0,1,2,3,4]) (n:k∉ks) (l:es.size=ks.length):layNew (tb led ks) es (k:Int) x=(SetTable.insertAt es (pos ks k) ((k:Int),x),t7 led (ins ks k),false,false):=by
 obtain⟨h1,h2,m,o⟩:=EH led (ji led) ks j k hk n;have sz:(SetTable.insertAt es (pos ks k) ((k:Int),x)).size=(ins ks k).length:=by rw[<- Array.length_toList,oK];unfold ins;rw[Zl,Zl,Zn,Zn,List.length_take,List.length_take,List.length_drop,List.length_drop,Array.length_toList,l]
 have f:=(vV led (ji led) (ins ks k) m).2.1;unfold layNew;rw[h1];dsimp only;rw[h2];rw[sz];unfold SetTable.orStandIn;rw[f];rfl
theorem zg(h:EsIs es.toList ks):(k∈ks->∃j,es.toList.findIdx? (fun e=>(intKind prog w).is (k:Int) e.2)=some j)/\(k∉ks->es.toList.findIdx? (fun e=>(intKind prog w).is (k:Int) e.2)=none):=by
 constructor
 . intro m;obtain ⟨t,l⟩:=h.has k m;cases q:es.toList.findIdx? (fun e=>(intKind prog w).is (k:Int) e.2) with
   |some j=>exact⟨j,rfl⟩
   |none =>have:=List.findIdx?_eq_none_iff.mp q _ l;rw[intKind_is]at this;cases this
 . intro n;refine List.findIdx?_eq_none_iff.mpr fun e m=>?_
   obtain⟨k',f,t,rfl⟩:=h.mem e m;cases q:(intKind prog w).is (k:Int) (Value.int (k':Int) t)with
   |false=>rfl
   |true =>
    have:=(intKind prog w).inj _ _ _ q (intKind_is _ _ _ _);have:k=k':=by lia
    exact absurd (this▸f) n
def u7(h:EsIs es.toList [0,1,2,3,4]):relayAll (t7 led [0,1,2,3,4]) es (SetTable.grown es.size)=(es,tb led [0,1,2,3,4],false):=by
 obtain⟨h1,h2,f⟩:=NR led (ji led);have sz:es.size=5:=by rw[<- Array.length_toList];exact h.len
 have j:es.map (·.1) = #[0,1,2,3,4]:=by
  apply Array.toList_inj.mp
  rw[Array.toList_map,h.fst];rfl
 have l:(#[0,1,2,3,4]:Array Nat).filterMap (es[·]?)=es:=by
  obtain⟨xs⟩:=es;have sz:xs.length=5:=sz;rcases xs with _|⟨_,_|⟨_,_|⟨_,_|⟨_,_|⟨_,_|⟨_,_⟩⟩⟩⟩⟩⟩
  all_goals first|rfl|simp at sz
 unfold relayAll;rw[j,sz,h1];dsimp only;rw[l,sz,h2,f];rfl
def SetS(h:Heap)(a:Addr)(led:Bool)(ks:List Nat):Prop:=∃o es ep,h.get? a=some o/\o.ExactSet/\o.data=.set es ep (tb led ks)/\EsIs es.toList ks/\ks∈jc
theorem BJ{t}{Q:Bool->Yd->Prop}(J:SetS s.heap a led ks)(hk:k∈[0,1,2,3,4])
 (q:∀b h',Heap.SameBut a s.heap h'->SetS h' a led (nN ks k)->Q b { s with heap:=h' }):wpAny (model prog w) A (setAddHashed a (.int (k:Int) t) (k:Int)) Q E s:=by
 obtain⟨o,es,ep,B,L,u,r,D⟩:=id J;obtain⟨f1,_,_,f4,f5,f6,_⟩:=vV led (ji led) ks D;have sz:es.size=ks.length:=by rw[<- Array.length_toList];exact r.len
 have O:(tb led ks).fits es.size=true:=by rw[sz];exact f1
 have S:=r.elems (prog:=prog) (w:=w) f6;have Z:(intKind prog w).hash (k:Int)=(k:Int):=xy k hk;unfold setAddHashed setAddHashedIn;refine wpAny_holding (Z4 (wpAny_setState_of B u O ?_));dsimp only;rw[byScan_of rfl (by rw[sz];show ks.length<4096;lia) S]
 simp only[Z8];unfold setAddByScan;refine Z4 (Z4 (wpAny_rule (Z4 ?_)));have X:∀H,H (match es.toList.findIdx? (fun e=>(intKind prog w).is (k:Int) e.2)with|some j=>.found (0+j)|none=>.absent) s->wpAny (model prog w) A (setScan a (.int (k:Int) t) (k:Int) true es) H E s:=fun H z=>by have y:=wpAny_setScan_of (prog:=prog) (w:=w) (A:=A) (E:=E) (adding:=true) (knd:=intKind prog w) (k:=(k:Int)) (x:=.int (k:Int) t) (intKind_is _ _ _ _) B u O S z;rw[Z]at y;exact y
 refine X _ ?_
 by_cases m:k∈ks
 . obtain ⟨j,Y⟩:=(zg (prog:=prog) (w:=w) (k:=k) r).1 m;rw [Y];dsimp only;refine Z5 (Z5 ?_);have e:s={ s with heap:=s.heap }:=by cases s;rfl
   rw[e];refine q false s.heap (Heap.SameBut.refl a s.heap) ?_;unfold nN;rw[if_pos m];exact J
 . rw [(zg (prog:=prog) (w:=w) (k:=k) r).2 m];dsimp only;rw [A7 (.int (k:Int) t) D hk m sz];dsimp only;obtain ⟨_,_,v,i4⟩:=EH led (ji led) ks D k hk m;have l:EsIs (SetTable.insertAt es (pos ks k) ((k:Int),Value.int (k:Int) t)).toList (ins ks k):=by
    rw[oK];exact(r.cut (pos ks k)).1.app ⟨⟨t,rfl⟩,(r.cut (pos ks k)).2⟩
   obtain⟨_,_,V,y4,_,y6,U⟩:=vV led (ji led) (ins ks k) v;have C:(SetTable.insertAt es (pos ks k) ((k:Int),Value.int (k:Int) t)).size=(ins ks k).length:=by rw[<- Array.length_toList];exact l.len
   have f:nN ks k=ins ks k:=by unfold nN;rw[if_neg m]
   generalize SetTable.insertAt es (pos ks k) ((k:Int),Value.int (k:Int) t)=es1 at *
   refine Z4 (Z5 ?_);rw[if_pos (show(t7 led (ins ks k)).plain=true from rfl)]
   refine Z4 (Z5 ?_);simp only[Z8];have I:es1.size<=sizeLine:=by rw[C,sizeLine_eq];lia
   refine Z4 (wpAny_storeSet_of B u ?_ I);have p:(s.heap.update a (Obj.putSet es1 (t7 led (ins ks k)))).get? a=some { o with data:=.set es1 (ep+1) (t7 led (ins ks k)) }:=by
    have z:=Heap.get?_update_self (Obj.putSet es1 (t7 led (ins ks k))) B (by rw[putSet_of es1 _ u];rfl)
    rw[putSet_of es1 _ u]at z;exact z
   rw[V]
   by_cases G:(ins ks k).length=5
   . have e5:=U G;rw [e5] at l f p v ⊢;rw [if_pos (by decide),u7 l]
     dsimp only;refine Z4 (Z5 ?_);refine Z4 (wpAny_storeSet_of p rfl ?_ I);have z:=Heap.get?_update_self (Obj.putSet es1 (tb led [0,1,2,3,4])) p (by rw[putSet_of es1 _ rfl];rfl)
     rw[putSet_of es1 _ rfl]at z;exact Z5 (Z5 (q true _ ((Heap.SameBut.update ..).trans (Heap.SameBut.update ..)) ⟨_,es1,ep+1+1,z,L,by rw[f],by rw[f];exact l,by rw[f];exact v⟩))
   . rw [if_neg (by simp [G])]
     refine Z5 (Z5 (q true _ (Heap.SameBut.update ..) ⟨_,es1,ep+1,p,L,?_,?_,?_⟩))
     . unfold tb;rw[f,if_neg G]
     . rw[f];exact l
     . rw[f];exact v
end
noncomputable def ledOf (w:World):Bool:=!(w.params.followText "set-order")
theorem slot_nx:Slot "set_iterator" "__next__" "set_iterator.__next__":=.of (owner:="set_iterator") (n:="__next__") (by rw[typeLookup_type,builtinLookup_eq_fast];kernel_rfl) (by decide +kernel) (by decide +kernel) (by decide +kernel) (by first|exact .inl (by decide +kernel)|exact .inr (by decide +kernel)) (by rw[isSubtype_type];kernel_rfl)
theorem EV:entryFor table "set_iterator.__next__" = some Builtin.«set_iterator.__next__»:=entryFor_of_fast (by kernel_rfl)
theorem L5:entryFor table "set.__iter__" = some Builtin.«frozenset.__iter__»:=entryFor_alias (id':="frozenset.__iter__") (by kernel_rfl) rfl (by decide +kernel) (by kernel_rfl)
theorem FF (a):argsOk "set_iterator.__next__" ⟨[a],[]⟩:=by unfold argsOk;kernel_rfl
theorem LG:typeLookup (.type "set") "__len__" = pure (some (.builtin "set.__len__")):=by rw[typeLookup_type,builtinLookup_eq_fast];kernel_rfl
noncomputable abbrev itO (first:Value) (i:Nat) (a:Addr) (n ep:Nat):Obj:={ cls:=.type "set_iterator",data:=.fields #[first,.int i 0,.ref a,.int n 0,.int ep 0] }
section
variable {E:Yc->Yd->Prop} 
def xv {r} {Q:Bool->Yd->Prop} (T:s.TypeIs (.ref r) "set") (q:Q false s):wpAny (model prog w) A (Builtin.List.listLengthHint (.ref r)) Q E s:=by
 unfold Builtin.List.listLengthHint;refine Z4 (wpAny_specialOf T LG ?_);generalize hid:("set.__len__":String)=id0
 wp_delta
 rw[show splitId id0=some ("set","__len__")from by subst hid;decide +kernel];subst hid
 refine Z4 (wpAny_isInstance (b:=true) T (by rw[isSubtype_type];kernel_rfl) ?_);refine wpAny_ite_split (fun z=>absurd z (by decide)) (fun _=>?_);refine wpAny_ite_split (fun _=>?_) (fun z=>absurd (by decide +kernel) z)
 exact Z4 (wpAny_typeOf T (Z5 q))
def vj(led) (ks):(tb led ks).plain=true:=by unfold tb;split<;>rfl
def LH(led) (ks):(tb led ks).led=led:=by unfold tb;split<;>rfl
def DC(led) (ks):(tb led ks).place=ks.toArray:=by unfold tb;split<;>rfl
def Er(f:s.heap.get? a=some o)(m:o.ExactSet)(j:o.data=.set es ep (tb (ledOf w) ks))(l:(tb (ledOf w) ks).fits es.size=true)(q:Q (.ref s.heap.objs.size) { s with heap:=s.heap.push (itO (.int 0 0) 0 a es.size ep) }):wpAny (model prog w) A (pyIter (.ref a)) Q E s:=by
 have T:s.TypeIs (.ref a) "set":=⟨o,f,m.1⟩;refine wpAny_pyIter_slot T PySem.F.slot_set_iter (wpAny_call_entry PySem.F.slot_set_iter T L5 ?_ (PySem.F.args_set_iter_1 _));unfold Builtin.«frozenset.__iter__»;refine Z4 (Z5 ?_);refine Z4 (Z4 (wpAny_setEntries_of f j l (Z5 ?_)));refine Z4 ?_;unfold setDrawn setsByText;refine Z4 (wpAny_setState_of f j l ?_);refine Z4 (Z4 (wpAny_askSetting (Z5 ?_)));refine Z5 ?_;have p:(!(model prog w).w.params.followText "set-order" && (!(tb (ledOf w) ks).plain&&decide (es.size>1)))=false:=by rw[vj];simp
 refine wpAny_ite_split (fun z=>?_) fun _=>?_
 . exact absurd (p.symm.trans z) (by decide)
 refine Z4 (Z5 ?_);refine Z4 (wpAny_setEpoch_of f j l ?_);refine Z4 (wpAny_newObj_type (Z5 ⟨_,rfl,"set_iterator",_,⟨_,ZX _ rfl,rfl⟩,slot_nx.lookup,?_⟩));exact q
def fI(w:World)(ks:List Nat):Nat->Nat
 |0=>0
 |i+1=>if ledOf w then ks.getD i 0+1 else 0
def kZ(w:World)(a:Addr)(ep:Nat)(es:Array (Int×Value)):Array (Int×Value):=if ledOf w then es else pickOrder (w.params.setOrder a ep) es
def Ji:∀ks∈jc,Ri ks.toArray:=fun ks m=>by
 have:∀ks∈jc,ks.Pairwise (· < ·):=by decide +kernel
 exact this ks m
def si(f:ledOf w=true)(i):fI w ks (i+1)=ks.getD i 0+1:=by
 show(if ledOf w=true then ks.getD i 0+1 else 0)=_
 rw[if_pos f]
theorem ya(j:ledOf w=true)(f:ks∈jc)(hi:i<=ks.length):SetTable.below ks.toArray (fI w ks i)=i:=by
 cases i with
 |zero=>exact x9 (Ji ks f)
 |succ i =>
  have l:i<ks.toArray.size:=by simp only[ZG];lia
  have:=yb (Ji ks f) l;rw[si j,List.getD_eq_getElem?_getD,Zy (by lia)]
  simpa using this
def zP {Q:Array (Int×Yc)->Yd->Prop} (f:w.params.followText "set-order" = true) (l:s.heap.get? a=some o) (j:o.data=.set es ep (tb (ledOf w) ks)) (m:(tb (ledOf w) ks).fits es.size=true) (q:Q (pickOrder (w.params.setOrder a ep) es) s):wpAny (model prog w) A (setWalk a) Q E s:=by
 unfold setWalk;refine Z4 (wpAny_setState_of l j m ?_);refine Z4 ?_;unfold setsByText;refine Z4 (wpAny_askSetting (Z5 ?_));refine wpAny_ite_split (fun _=>?_) (fun z=>absurd f z)
 exact Z4 (wpAny_askSetting (Z5 q))
def qp {Q:Yg (Yc×Nat)->Yd->Prop} (u:s.heap.get? a=some o) (t:o.data=.set es ep (tb (ledOf w) ks)) (v:(tb (ledOf w) ks).fits es.size=true) (x:ks∈jc) (sz:es.size=ks.length) (hi:i<=ks.length)
 (q:Q (((kZ w a ep es)[i]?).map fun e=>(e.2,fI w ks (i+1))) s):wpAny (model prog w) A (setNext a (fI w ks i) i ep) Q E s:=by
 unfold setNext;refine Z4 (wpAny_setState_of u t v ?_);refine Z4 ?_;unfold setsByText;refine Z4 (wpAny_askSetting (Z5 ?_));cases f:w.params.followText "set-order" with
 | true =>
  have r:ledOf w=false:=by unfold ledOf;rw[f];rfl
  have p:∀i,fI w ks i=0:=fun i=>by cases i with
   |zero=>rfl
   |succ i=>unfold fI;rw[r];rfl
  refine wpAny_ite_split (fun _=>?_) (fun z=>absurd f z)
  refine wpAny_ite_split (fun z=>absurd z (by simp)) (fun _=>?_)
  refine Z4 (zP f u t v (Z5 ?_));rw[p];unfold kZ at q;rw[p,r]at q;exact q
 |false =>
  have m:ledOf w=true:=by unfold ledOf;rw[f];rfl
  refine wpAny_ite_split (fun z=>absurd (f.symm.trans z) (by decide)) (fun _=>?_)
  refine wpAny_ite_split (fun z=>absurd z ?_) (fun _=>?_)
  . show ¬((!(tb (ledOf w) ks).plain&&decide (es.size>1))=true);rw[vj];simp
  refine Z4 (wpAny_ite_split (fun z=>absurd z ?_) (fun _=>Z5 ?_))
  . rw[LH,m];simp
  refine Z5 ?_;rw[DC,ya m x hi];unfold kZ at q;rw[m]at q;simp only[Z8]at q;rw[si m]at q
  by_cases l:i<ks.length
  . have j:es[i]? = some es[i]:=Z1 (by omega)
    have y:ks.toArray[i]?=some ks[i]:=by simp[l]
    rw[j,List.getD_eq_getElem?_getD,Zy l]at q;rw[j,y];exact q
  . have j:es[i]? = none:=Array.getElem?_eq_none (by omega)
    rw[j]at q;rw[j];exact q
def G9{Q:Yg Yc->Yd->Prop}(f:s.heap.get? I=some (itO (.int (fI w ks i) 0) i a es.size ep))(p:s.heap.get? a=some o)(m:o.data=.set es ep (tb (ledOf w) ks))(r:(tb (ledOf w) ks).fits es.size=true)(u:ks∈jc)(sz:es.size=ks.length)(hi:i<ks.length)(t:(kZ w a ep es)[i]?=some e)
 (q:∀h',h'.get? I=some (itO (.int (fI w ks (i+1)) 0) (i+1) a es.size ep)->(∀b o,b≠I->s.heap.get? b=some o->h'.get? b=some o)->Q (some e.2) { s with heap:=h' }):wpAny (model prog w) A (pyNext (.ref I)) Q E s:=by
 have T:s.TypeIs (.ref I) "set_iterator":=⟨_,f,rfl⟩;unfold pyNext;refine Z4 (wpAny_attempt (wpAny_callSpecial?_slot T slot_nx (wpAny_call_entry slot_nx T EV ?_ (FF _))));unfold Builtin.«set_iterator.__next__»;refine Z4 (Z5 ?_);refine Z4 (wpAny_fieldsOf f rfl ?_);refine Z4 (wpAny_setEntries_of p m r ?_);refine wpAny_ite_split (fun z=>absurd z (by simp)) (fun _=>?_)
 refine Z4 ?_;simp only[Int.toNat_natCast];refine qp p m r u sz (Nat.le_of_lt hi) ?_;rw[t];refine Z4 (wpAny_setField f rfl (by simp) ?_)
 have j:(s.heap.update I (Obj.mapFields (·.setIfInBounds 0 (rawInt ((fI w ks (i+1):Nat):Int))))).get? I=some (itO (.int (fI w ks (i+1)) 0) i a es.size ep):=Heap.get?_update_self _ f rfl;refine Z4 (wpAny_setField j rfl (by simp) ?_)
 refine Z5 ⟨_,rfl,Z5 (q _ (Heap.get?_update_self _ j rfl) fun b o l e=>?_)⟩
 exact(Heap.get?_update_other _ _ (Ne.symm l)).trans ((Heap.get?_update_other _ _ (Ne.symm l)).trans e)
theorem yt:Slot "set_iterator" "__iter__" "set_iterator.__iter__":=.of (owner:="set_iterator") (n:="__iter__") (by rw[typeLookup_type,builtinLookup_eq_fast];kernel_rfl) (by decide +kernel) (by decide +kernel) (by decide +kernel) (by first|exact .inl (by decide +kernel)|exact .inr (by decide +kernel)) (by rw[isSubtype_type];kernel_rfl)
theorem L4:entryFor table "set_iterator.__iter__" = some Builtin.«dict_keyiterator.__iter__»:=entryFor_alias (id':="dict_keyiterator.__iter__") (by kernel_rfl) rfl (by decide +kernel) (by kernel_rfl)
theorem My (a):argsOk "set_iterator.__iter__" ⟨[a],[]⟩:=by unfold argsOk;kernel_rfl
def xF{α:Type}{l:Yh α}(h:i<l.length):([l[i]]++l.eraseIdx i).Perm l:=by
 have e:l.take i++l[i]::l.drop (i+1)=l:=by rw[List.getElem_cons_drop,List.take_append_drop]
 rw[List.eraseIdx_eq_take_drop_succ];exact(List.perm_middle (l₂:=l.drop (i+1))).symm.trans (List.Perm.of_eq e)
theorem yO{α:Type}(next:Nat->Nat):∀f k l(out:Array α),l.length<=f->(pickOrder.go next f k l out).toList.Perm (out.toList++l)
 |0,k,l,out,h=>by
  have:l=[]:=List.eq_nil_of_length_eq_zero (by lia)
  subst this;rw[Zk];exact List.Perm.refl _
 |f+1,k,l,out,h=>by
  unfold pickOrder.go
  by_cases z:l=[]
  . subst z;simp
  . have j:=List.length_pos_iff.mpr z;have lt:next k % l.length < l.length:=Nat.mod_lt _ j;rw [Zy lt];refine (yO next f (k+1) _ _ (by rw [List.length_eraseIdx_of_lt lt];lia)).trans ?_
    rw[Array.toList_push,ZW];exact List.Perm.append_left _ (xF lt)
def Ax{α:Type}(next:Nat->Nat)(xs:Array α):(pickOrder next xs).toList.Perm xs.toList:=by
 have:=yO next xs.size 0 xs.toList #[] (by simp)
 simpa[pickOrder]using this
def qg(w) (a) (ep) (es:Array (Int×Yc)):(kZ w a ep es).toList.Perm es.toList:=by
 unfold kZ;split
 . exact List.Perm.refl _
 . exact Ax _ _
def qf(w) (a) (ep) (es:Array (Int×Yc)):(kZ w a ep es).size=es.size:=by rw[<- Array.length_toList,(qg w a ep es).length_eq,Array.length_toList]
end
section
variable {E:Yc->Yd->Prop} 
theorem zh:∀{es:Yh (Int×Yc)},(∀e∈es,∃t,e.2=.int e.1 t)->IntsAre (es.map (·.2)) (es.map (·.1))
 |[],_=>.nil
 |e::es,h=>by obtain⟨t,f⟩:=h e Zp;rw[Zv,Zv,f];exact .cons _ t (zh fun x m=>h x (Zq _ m))
def Am:∀ks∈jc,(ks.map fun(k:Nat)=>(k:Int)).Pairwise (· <= ·):=by decide +kernel
end
def putAll(ns:List Nat):List Nat:=ns.foldl nN []
noncomputable def srtN(ns:List Nat):List Nat:=(List.range 5).filter fun k=>decide (k∈ns)
def GS(f:ks∈jc)(hk:k∈[0,1,2,3,4]):nN ks k∈jc/\∀j∈[0,1,2,3,4],j∈nN ks k<->j=k\/j∈ks:=by
 unfold nN
 by_cases m:k∈ks
 . rw[if_pos m];exact⟨f,fun j _=>⟨.inr,fun h=>h.elim (fun e=>e▸m) id⟩⟩
 . rw[if_neg m];exact⟨(EH true (by simp) ks f k hk m).2.2.1,fun j l=>OR ks f k hk j l m⟩
theorem vZ:∀(f ks:Yh Nat),ks∈jc->(∀k∈f,k∈[0,1,2,3,4])->f.foldl nN ks∈jc/\∀j∈[0,1,2,3,4],j∈f.foldl nN ks<->j∈f\/j∈ks
 |[],ks,h,_=>⟨h,fun j _=>by simp⟩
 |k::f,ks,h,g=>by
  obtain⟨p1,p2⟩:=GS h (g k Zp);obtain⟨h1,h2⟩:=vZ f (nN ks k) p1 fun x m=>g x (Zq _ m)
  refine⟨h1,fun j l=>?_⟩
  rw[List.foldl_cons,h2 j l,p2 j l,Zu];constructor
  . rintro (a | a | a)
    . exact .inl (.inr a)
    . exact .inl (.inl a)
    . exact .inr a
  . rintro ((a | a) | a)
    . exact .inr (.inl a)
    . exact .inl a
    . exact .inr (.inr a)
theorem putAll_srt{f:Yh Nat}(h:∀k∈f,k∈[0,1,2,3,4]):putAll f=srtN f:=by
 obtain⟨h1,h2⟩:=vZ f [] (by decide) h
 have e:=(vV true (by simp) _ h1).2.2.2.2.1
 unfold putAll srtN;rw[e];refine List.filter_congr fun j m=>?_
 have l:j∈[0,1,2,3,4]:=by
  have:j<5:=List.mem_range.mp m;simp only[Zu,ZI]
  lia
 have:=h2 j l;simp only[ZI,or_false]at this;exact decide_eq_decide.mpr this
section
variable {E:Yc->Yd->Prop} 
def SetS.same{h h'}(k:∀o,h.get? a=some o->h'.get? a=some o)(x:SetS h a led ks):SetS h' a led ks:=by obtain⟨o,es,ep,g,r⟩:=x;exact⟨o,es,ep,k o g,r⟩
def Left(Q2:Array Value):Nat->List Nat->Prop
 |i,[]=>Q2[i]?=none
 |i,k::ms=>(∃t,Q2[i]?=some (.int (k:Int) t))/\k∈[0,1,2,3,4]/\Left Q2 (i+1) ms
def mQ (h:wpAny (model prog w) A.in1 (Builtin.«set.update.loop» ⟨[.ref S,.ref I],[]⟩) (fun Q4 s'=>match Q4 with|.done f=>R (.ok f) s' | .again c=>c.quiet=true/\codeAny (model prog w) A c R s') (fun e s'=>R (.error e) s') s):codeAny (model prog w) A (.builtin "set.update.loop" ⟨[.ref S,.ref I],[]⟩) R s :=
 codeAny_builtin PyProof.Rows.F.entry_set_update_loop (by rw[Around.under_plainId PyProof.Rows.F.plain_set_update_loop];exact h)
def n8(Q:A.handled=none)(G:S≠I)(V:l≠S)(U:l≠I):∀ms i ks s,Left Q2 i ms->s.heap.IsListIter I l i->s.heap.IsList l Q2->SetS s.heap S led ks ->
 (∀h' tk,(∀b o,b≠S->b≠I->s.heap.get? b=some o->h'.get? b=some o)->SetS h' S led (ms.foldl nN ks)->R (.ok (.ret .none)) { s with heap:=h',toks:=tk })->codeAny (model prog w) A (.builtin "set.update.loop" ⟨[.ref S,.ref I],[]⟩) R s:=by
 have u:=Q;intro ms
 induction ms with
 |nil =>intro i ks s f D j z B;refine mQ (Z4 (wpAny_pyNext_list_end u D j f fun h' x=>Z5 (B h' s.toks (fun b o _ m e=>x b o m e) (z.same fun o e=>x S o G e))))
 |cons k ms L =>
  intro i ks s f D j z B;obtain⟨⟨t,O⟩,hk,f⟩:=f;refine mQ (Z4 (wpAny_pyNext_list_item D j O fun h1 C r=>?_))
  have y:=z.same fun o e=>(r.2 S G).trans e
  refine Z4 (wpAny_holding (wpAny_holding (Z4 (wpAny_pyHash_int ?_))));rw[xy k hk];refine BJ y hk fun b h2 p v=>Z5 ⟨plainId_quiet PyProof.Rows.F.plain_set_update_loop _,?_⟩
  refine L (i+1) (nN ks k) _ f (C.at fun o e=>(p.2 I G.symm).trans e) (j.at fun o e=>(p.2 l V).trans ((r.2 l U).trans e)) v fun h' tk J q=>B h' tk (fun b o H m e=>J b o H m ((p.2 b H).trans ((r.2 b m).trans e))) q
def made{T newId initId}{args}(m:TypeCalled T newId initId)(ct:checkTypeCall T ⟨args,[]⟩=pure ())
 (h:wpAny (model prog w) A.in1 (call (.builtin newId) (.type T::args)) (fun f j=>j.TypeIs f T/\wpAny (model prog w) A.in1 (callSpecial? f "__init__" args) (fun r l=>r=some .none/\Q f l) E j) E s):wpAny (model prog w) A (call (.type T) args) Q E s:=by
 obtain⟨p,u,⟨c,tl,t⟩,mb,_,o,_⟩:=m;refine wpAny_call (codeAny_of_tree (Z5 ⟨Code.quiet_builtin _ (by decide +kernel),codeAny_builtin F.entry_type_call ?_⟩))
 rw[Around.under_plain (weight_type_call_type T args []) (units_type_call_type T args [])];unfold Builtin.«type.__call__»
 wp_walk using wpAny_mono h
 . rintro f j ⟨hT,hi⟩
   wp_walk using wpAny_mono hi
   . rintro r l ⟨rfl,q⟩
     wp_walk
     exact q
   . exact fun _ _ e=>e
 . exact fun _ _ e=>e
noncomputable abbrev HI (w:World):Obj:={ cls:=.type "set",dict:=none,data:=.set #[] 0 (t7 (ledOf w) []) }
def AQ {x} (q:Q (.ref s.heap.objs.size) { s with heap:=s.heap.push (HI w) }):wpAny (model prog w) A (call (.builtin "set.__new__") [.type "set",x]) Q E s:=by
 refine wpAny_call (codeAny_call_builtin PySem.F.plain_set_new PySem.F.entry_set_new (wpAny_of_eq (PySem.F.newCall_set_1 x) ?_));have f:=sub_set_self;obtain⟨l,g,d,tk,j⟩:=s;unfold Builtin.«set.__new__»
 wp_walk using wpAny_askSetting
 exact q
def xr {Q:Yg Yc->Yd->Prop} (v:A.handled=none) (y:l≠S) (j:s.heap.get? S=some { cls:=.type "set",dict:=none,data:=.set #[] 0 (t7 led []) }) (f:s.heap.IsList l Q2) (u:Left Q2 0 ms)
 (q:∀h' tk,(∀b o,b≠S->s.heap.get? b=some o->h'.get? b=some o)->SetS h' S led (putAll ms)->Q (some .none) { s with heap:=h',toks:=tk }):wpAny (model prog w) A (callSpecial? (.ref S) "__init__" [.ref l]) Q E s:=by
 have p:s.TypeIs (.ref S) "set":=⟨_,j,rfl⟩;have B:=f.typeIs;have n1:=PySem.F.sub_list_set;have n2:=PySem.F.sub_list_frozenset;have m:A.in1.handled=none:=v;have r:=ZU j;have t:l<s.heap.objs.size:=by obtain⟨o,e,_⟩:=f;exact ZU e
 have st:∀Q E,Q (#[],0,t7 led []) s->wpAny (model prog w) A.in1 (setState S) Q E s:=fun Q E h=>wpAny_setState_of j rfl (by cases led<;>decide +kernel) h
 refine wpAny_callSpecial?_slot p PySem.F.called_set.init (wpAny_call (codeAny_call_builtin PySem.F.called_set.init.plain PySem.F.entry_set_init (check_set_init_1 p ?_)));unfold Builtin.«set.__init__»
 wp_walk using st _ _,wpAny_pyIter_list f
 refine n8 m (ZJ r) y (ZJ t) ms 0 [] _ u ⟨_,ZX _ rfl,rfl,rfl⟩ (f.push _) ⟨_,#[],0,ZT _ j,⟨rfl,rfl,rfl⟩,rfl,trivial,by decide⟩ fun h' tk k x=>?_
 wp_walk
 exact q h' tk (fun b o z e=>k b o z (ZJ (ZU e)) (ZT _ e)) x
def set_small(p:A.handled=none)(f:s.heap.IsList l Q2)(m:Left Q2 0 ms)
 (q:∀h' tk,(∀b o,s.heap.get? b=some o->h'.get? b=some o)->SetS h' s.heap.objs.size (ledOf w) (putAll ms)->Q (.ref s.heap.objs.size) { s with heap:=h',toks:=tk }):wpAny (model prog w) A (call (.type "set") [.ref l]) Q E s:=by
 have j:l<s.heap.objs.size:=by obtain⟨o,e,_⟩:=f;exact ZU e
 refine made PySem.F.called_set (PySem.F.typeCall_set_1 _) (AQ ⟨⟨_,ZX _ rfl,rfl⟩,xr p (ZJ j) (ZX _ rfl) (f.push _) m fun h' tk k x=>⟨rfl,q h' tk (fun b o e=>k b o (ZJ (ZU e)) (ZT _ e)) x⟩⟩)
end
section
variable {E:Yc->Yd->Prop} 
def KL{Q:Yg Yc->Yd->Prop}(r:A.handled=none)(t:s.heap.get? I=some (itO (.int (fI w ks ks.length) 0) ks.length a es.size ep))(j:s.heap.get? a=some o)(f:o.data=.set es ep (tb (ledOf w) ks))(l:(tb (ledOf w) ks).fits es.size=true)(u:ks∈jc)(sz:es.size=ks.length)
 (q:∀h',(∀b o,b≠I->s.heap.get? b=some o->h'.get? b=some o)->Q none { s with heap:=h' }):wpAny (model prog w) A (pyNext (.ref I)) Q E s:=by
 have T:s.TypeIs (.ref I) "set_iterator":=⟨_,t,rfl⟩;have p:=r;have m:∀Q E,Q none s->wpAny (model prog w) A.in1 (setNext a (fI w ks ks.length:Int).toNat (ks.length:Int).toNat (ep:Int).toNat) Q E s:=fun Q E h=>by simp only[Int.toNat_natCast];exact qp j f l u sz (ZM _) (by rw[Array.getElem?_eq_none (by rw[qf,sz];exact ZM _)];exact h)
 have v:∀Q E,Q es s->wpAny (model prog w) A.in1 (setEntries a) Q E s:=fun Q E h=>wpAny_setEntries_of j f l h
 obtain⟨y,g,d,tk,x⟩:=s;unfold pyNext;refine Z4 (wpAny_attempt (wpAny_callSpecial?_slot T slot_nx (wpAny_call_entry slot_nx T EV ?_ (FF _))));unfold Builtin.«set_iterator.__next__»
 wp_walk using v _ _,m _ _
 unfold raiseNew
 wp_walk
 refine wpAny_of_eq (isSubtype_stop) ?_
 wp_walk
 exact q _ fun b o n e=>ZT _ (ZT _ ((Heap.SameBut.update ..).extBut b o n e))
def Mw(sz:es.size=ks.length)(hi:i<ks.length):∃e,(kZ w a ep es)[i]?=some e:=⟨_,Z1 (by rw[qf,sz];exact hi)⟩
def BQ(w:World)(I a:Addr)(o:Obj)(es:Array (Int×Value))(ep:Nat)(ks:List Nat)(i:Nat)(h:Heap):Prop:=h.get? I=some (itO (.int (fI w ks i) 0) i a es.size ep)/\h.get? a=some o
def uP(r:A.handled=none)(n:a≠I)(m:o.data=.set es ep (tb (ledOf w) ks))(p:(tb (ledOf w) ks).fits es.size=true)(l:ks∈jc)(sz:es.size=ks.length) :
 Walks prog w A I [I,a] [I] ks.length (fun i v=>∃e,(kZ w a ep es)[i]?=some e/\v=e.2) (BQ w I a o es ep ks) where
 sub:=fun b f=>by rw[Zr.mp f];exact Zp
 frame:=fun i h h' st k=>⟨k I (by simp) _ st.1,k a (by simp) _ st.2⟩
 item:=fun i s Q E hi st q=>by obtain⟨e,j⟩:=Mw sz hi;refine G9 st.1 st.2 m p l sz hi j fun h' x k=>q e.2 h' s.toks ⟨e,j,rfl⟩ ⟨x,k a o n st.2⟩ fun b o f e=>k b o (fun z=>f (by rw[z];exact List.mem_singleton_self _)) e
 done:=fun s Q E st q=>KL r st.1 st.2 m p l sz fun h' k=>q h' s.toks fun b o f e=>k b o (fun z=>f (by rw[z];exact List.mem_singleton_self _)) e
 self:=fun i s Q E st h=>by have T:s.TypeIs (.ref I) "set_iterator":=⟨_,st.1,rfl⟩;refine wpAny_pyIter_slot T yt (wpAny_call_entry yt T L4 (Z5 ⟨_,rfl,?_⟩) (My _));exact⟨"set_iterator",_,T,slot_nx.lookup,h⟩
end
section
variable {E:Yc->Yd->Prop} 
def Ab(f:o.ExactSet)(j:o.data=.set es ep (tb (ledOf w) ks))(l:(tb (ledOf w) ks).fits es.size=true)(p:ks∈jc)(sz:es.size=ks.length) :
 KdlSrc prog w "set" a a ks.length (fun i v=>∃e,(kZ w a ep es)[i]?=some e/\v=e.2) (fun h=>h.get? a=some o) where
 type:=fun s ok=>⟨o,ok,f.1⟩
 there:=fun h ok=>⟨ZU ok,ZU ok⟩
 keep:=fun h h' ok k=>k a (.inl rfl) _ ok
 notList:=by decide
 notTuple:=by decide
 hint:=fun A E s Q ok q=>xv ⟨o,ok,f.1⟩ q
 iter:=fun A s m ok=>⟨_,BQ w s.heap.objs.size a o es ep ks,fun E Q q=>Er ok f j l q,uP m (ZJ (ZU ok)) j l p sz,ZX _ rfl,ZT _ ok⟩
def DV(h:ItemsOf (fun i v=>∃e,(kZ w a ep es)[i]?=some e/\v=e.2) acc ks.length)(sz:es.size=ks.length):acc.toList=(kZ w a ep es).toList.map (·.2):=by
 apply List.ext_getElem?
 intro i;rw[List.getElem?_map,Array.getElem?_toList,Array.getElem?_toList];cases q:acc[i]? with
 |none =>
  have:acc.size<=i:=Array.getElem?_eq_none_iff.mp q;rw[Array.getElem?_eq_none (by rw[qf,sz,<- h.1];exact this)]
  rfl
 |some v =>obtain⟨e,f,rfl⟩:=h.2 i v q;rw[f];rfl
theorem Ci:∀{l m:Yh Int},l.Perm m->l.Pairwise (· <= ·)->m.Pairwise (· <= ·)->l=m
 |[],m,p,_,_=>(List.nil_perm.mp p).symm
 |x::l,[],p,_,_=>absurd p.length_eq (by simp)
 | x :: l,y :: m,p,hl,hm=>by
  have j:=List.pairwise_cons.mp hl;have f:=List.pairwise_cons.mp hm;have e:x=y:=by
   have q:x<=y:=by
    rcases Zu.mp (p.symm.subset Zp)with z|z
    . lia
    . exact j.1 y z
   have o:y<=x:=by
    rcases Zu.mp (p.subset Zp)with z|z
    . lia
    . exact f.1 x z
   lia
  subst e;rw[Ci ((List.perm_cons x).mp p) j.2 f.2]
theorem sorted_small(U:A.handled=none)(X:SetS s.heap a (ledOf w) ks)
 (q:∀(h1 h':Heap) tk f,(∀b o,s.heap.get? b=some o->h1.get? b=some o)->(∀b o,h1.get? b=some o->h'.get? b=some o)->(∃e,h'.get? h1.objs.size=some (seqObj "list" f e))->IntsAre f.toList (ks.map fun (k:Nat)=>(k:Int))->Q (.ref h1.objs.size) { s with heap:=h',toks:=tk }):wpAny (model prog w) A (call (.builtin "sorted") [.ref a]) Q E s:=by
 obtain⟨o,es,ep,g1,g2,Z,x,u⟩:=X;have sz:es.size=ks.length:=by rw[<- Array.length_toList];exact x.len
 obtain⟨f1,_,_,f4,_⟩:=vV (ledOf w) (ji _) ks u;have fz:(tb (ledOf w) ks).fits es.size=true:=by rw[sz];exact f1
 have K:=Ab (prog:=prog) (a:=a) g2 Z fz u sz;have p:=U;have z:ks.length<=sizeLine:=ZZ f4 (by decide)
 have pm:((kZ w a ep es).toList.map (·.1)).Perm (ks.map fun(k:Nat)=>(k:Int)):=by rw[<- x.fst];exact(qg w a ep es).map _
 have it:∀e∈(kZ w a ep es).toList,∃t,e.2=.int e.1 t:=fun e m=>by obtain⟨k,_,t,rfl⟩:=x.mem e ((qg w a ep es).subset m);exact⟨t,rfl⟩
 refine Calls.call_function_entry kind_sorted plain_sorted entry_sorted (args_sorted1 _) ?_;have co:∀(R:Yh Yc->Yd->Prop)(E:Yc->Yd->Prop),(∀(h':Heap)(tk:Nat)(acc:Array Yc),(∀b o,s.heap.get? b=some o->h'.get? b=some o)->ItemsOf (fun i v=>∃e,(kZ w a ep es)[i]?=some e/\v=e.2) acc ks.length->R acc.toList { s with heap:=h',toks:=tk })->wpAny (model prog w) A.in1 (collect (([.ref a]:Yh Yc).headD .none)) R E s:=fun R E h=>kdu_collect K p g1 z h
 unfold Builtin.«sorted»
 wp_walk using co _ _
 intro h1 tk acc L B;have C:=DV B sz;have O:IntsAre acc.toList ((kZ w a ep es).toList.map (·.1)):=by rw[C];exact zh it
 have I:acc.toList.length=ks.length:=by rw[Array.length_toList];exact B.1
 have j:¬acc.toList.toArray.size>sizeLine:=by rw[ZG,I];exact Nat.not_lt.mpr z
 wp_walk
 rw[if_neg j];have l:(h1.push (seqObj "list" acc.toList.toArray 0)).get? h1.objs.size=some (seqObj "list" acc.toList.toArray 0):=ZX _ rfl;have D:∀(Q:Yc->Yd->Prop) (E:Yc->Yd->Prop),(∀(h':Heap) (f:Array Yc),(∀b o,h1.get? b=some o->h'.get? b=some o)->(∃e,h'.get? h1.objs.size=some (seqObj "list" f e))->IntsAre f.toList (ks.map fun (k:Nat)=>(k:Int))->Q .none { s with heap:=h',toks:=tk }) ->
  wpAny (model prog w) A.in1 (call (.builtin "list.sort") [.ref h1.objs.size]) Q E { s with heap:=h1.push (seqObj "list" acc.toList.toArray 0),toks:=tk }:=fun Q E h=>by
  refine wpAny_call_entry slot_list_sort ⟨_,l,rfl⟩ entry_list_sort (list_sort_tree l O (by lia) fun f G r S Y=>⟨.none,rfl,?_⟩) (args_list_sort _)
  obtain⟨e,V⟩:=sortedHeap_at l;refine h _ f (fun b o q=>?_) ⟨e,V⟩ (Ci (S.trans pm) Y (Am ks u)▸r)
  have y:=ZU q;rw[sortedHeap_old (ZJ y) (by rw[size_push'];exact Nat.lt_succ_of_lt y)]
  exact ZT _ q
 wp_walk using D _ _
 intro h2 f J H r
 wp_walk
 exact⟨_,rfl,q h1 h2 tk f L J H r⟩
end
section
variable {E:Yc->Yd->Prop} 
def none_size{h:Heap}{n}(l:h.objs.size<=n):h.get? n=none:=by
 cases z:h.get? n with
 |none=>rfl
 |some o=>exact absurd (ZU z) (Nat.not_lt.mpr l)
end
end Sw
namespace Dl
open PySem PySem.Spec PyProof.Rows L2
variable {X:Cx} {i n j k:Nat} {x y m z:Str} {P prog:Program} {w:World} {H H' H₂ F' H1 F1 F2 H2:Hp} {s s' s₂:Yd} {l a e b c ei:Expr} {B A fp:Yh Ye} {h' base:Heap} {K:ZB} {mg:Str->Yg Yc} {N T ws:Yh Str} {scope:Scope} {f fa fb fk:FD} {vs ys:Yh V} {ds:Yh D} {σ:L2.St} {δ δ1:DS} {t C it:Ye} {p p2 p1:Pos} {r r':Yh V->Hp->VK->Prop} {Q:Yc->Yd->Prop} {op:CmpOp} {es:Yh Expr} {v:V} {u:SD} {st:Stmt} {hi:Yg Expr} {fl:FO} {Q0:Yh (Ye×Obj)} {cl:Yh (Str×Ye)} {o:Yg D} {As Q3 Q5 Q6:Nat->Yh Ye} {fm:FM} {ga:FA} {Z:L2.St->Prop} {R:Result->Yd->Prop} {S S':Nat->Heap->Prop} {Q2:Array Yc}
structure EvW(F H:Hp)(As:Nat->List Addr)(F' H':Hp)(Q3:Nat->List Addr)(A:List Addr):Prop where
 fs:Same F F'
 ks:∀a u,H a=some u->(∀i,a∉As i)->H' a=some u
 nf:∀a(u:MO),H a=some u.1->F a=none->(∀i,a∉As i)->F' a=none
 fa:∀i a,a∈Q3 i->(∃j,a∈As j)\/H a=none
 fA:∀a,a∈A->(∃j,a∈As j)\/H a=none
 nd:A.Nodup
 dj:∀i a,a∈Q3 i->a∉A
def Ev.toW{F}(e:Ev F H As F' H' Q3 A):EvW F H As F' H' Q3 A:=⟨e.fs,fun a u h _=>e.hs a u h,e.nf,e.fa,e.fA,e.nd,e.dj⟩
def BN(H:Hp)(As:Nat->List Addr):Prop:=∀i a,a∈As i->∃u:MO,H a=some u.1
def RepA.domA{F:Hp}(R:RepA K F H σ δ As):BN H As:=fun _ _ m=>(R.dom m).1
def EvW.ki{F}(e:EvW F H As F' H' Q3 A)(d:BN H As):dQ H H':=fun a u h n=>e.ks a u h fun i m=>by obtain⟨w,h2⟩:=d i a m;rw[h]at h2;cases h2;rw[w.2]at n;cases n
def EvW.old{F}(e:EvW F H As F' H' Q3 A){a:Ye}(n:H' a=none):(∃j,a∈As j)\/H a=none:=by
 by_cases h:∃j,a∈As j
 . exact .inl h
 . refine .inr ?_;cases q:H a with
   |none=>rfl
   |some u=>rw[e.ks a u q fun i m=>h ⟨i,m⟩]at n;cases n
def EvW.seq {F H F1 H1 F2 H2} {As Q5 Q6} {A B} (a:EvW F H As F1 H1 Q5 A) (b:EvW F1 H1 Q5 F2 H2 Q6 B) (l:∀ x∈A,∃ u:MO,H1 x=some u.1):EvW F H As F2 H2 Q6 (A++B) where
 fs:=a.fs.trans b.fs
 ks:=fun x u e h=>b.ks x u (a.ks x u e h) fun i m=>by
  rcases a.fa i x m with⟨j,z⟩|z
  . exact h j z
  . rw[e]at z;cases z
 nf:=fun x vs e n h=>b.nf x vs (a.ks x _ e h) (a.nf x vs e n h) fun i m=>by
  rcases a.fa i x m with⟨j,z⟩|z
  . exact h j z
  . rw[e]at z;cases z
 fa:=fun i x m=>by
  rcases b.fa i x m with⟨j,z⟩|z
  . exact a.fa j x z
  . exact a.old z
 fA:=fun x m=>by
  rcases Zt.mp m with z|z
  . exact a.fA x z
  . rcases b.fA x z with ⟨j,y⟩ | y
    . exact a.fa j x y
    . exact a.old y
 nd:=by
  refine Z2.mpr ⟨a.nd,b.nd,fun x f y o e=>?_⟩
  subst e;rcases b.fA x o with⟨j,z⟩|z
  . exact a.dj j x z f
  . obtain⟨vs,e⟩:=l x f;rw[z]at e;cases e
 dj:=fun i x m z=>by
  rcases Zt.mp z with z|z
  . rcases b.fa i x m with ⟨j,y⟩ | y
    . exact a.dj j x y z
    . obtain⟨vs,e⟩:=l x z;rw[y]at e;cases e
  . exact b.dj i x m z
def EvW.bare{F}(e:EvW F H As F' H' Q3 A):EvW F H As F' H' Q3 []:=⟨e.fs,e.ks,e.nf,e.fa,fun _ m=>(nomatch m),Zz,fun _ _ _ z=>(nomatch z)⟩
def EvW.grow{F}(e:EvW F H As F' H' Q3 A)(s:Same H' H2):EvW F H As F' H2 Q3 A:=⟨e.fs,fun a u h n=>s a u (e.ks a u h n),e.nf,e.fa,e.fA,e.nd,e.dj⟩
def EvW.stays{d:D}(b:EvW F1 H1 Q5 F2 H2 Q6 B)(j:BN H1 Q5)(r:RepO K F1 H1 v d A)(f:∀i a,a∈Q5 i->a∉A):RepO K F2 H2 v d A:=by
 have h1:=r.frame (b.ki j) fun a m=>by obtain⟨⟨vs,e⟩,_⟩:=r.dom a m;rw[e];exact b.ks a _ e fun i z=>f i a z m
 refine h1.froz b.fs fun a m=>?_
 obtain⟨⟨vs,e⟩,n⟩:=r.dom a m;exact b.nf a vs e n fun i z=>f i a z m
def upW(K:ZB)(f:FM):TE:=fun σ H Q=>∃F δ As d δ',RepA K F H σ δ As/\f δ=some (d,δ')/\∀v F' H' A Q3,EvW F H As F' H' Q3 A->RepA K F' H' σ δ' Q3->RepO K F' H' v d A->Q v H'
def On(K:ZB)(n:Nat)(f:FMA):TA:=fun σ H Q=>∃F δ As ds δ',RepA K F H σ δ As/\f δ=some (ds,δ')/\∀vs F' H' A Q3,EvW F H As F' H' Q3 A->RepA K F' H' σ δ' Q3->RepOs K F' H' vs ds A->vs.length=n->Q vs H'
def PW(X:Cx)(e:Expr)(f:FM):Prop:=PE X e (upW X.K f)
def dw{t}{f}(h:PE X e t)(w:∀{σ H Q F δ As d δ'},RepA X.K F H σ δ As->f δ=some (d,δ')->(∀v F' H' A Q3,EvW F H As F' H' Q3 A->RepA X.K F' H' σ δ' Q3->RepO X.K F' H' v d A->Q v H')->t σ H Q):PW X e f:=imp h fun _ _ _ h=>h.elim fun _ h=>h.elim fun _ h=>h.elim fun _ h=>h.elim fun _ h=>h.elim fun _ h=>w h.1 h.2.1 h.2.2
def PWA(X:Cx)(es:List Expr)(f:FMA):Prop:=PA X es (On X.K es.length f)
def Jy{t}{f:FMA}(h:PA X es t)(w:∀{σ H Q F δ As ds δ'},RepA X.K F H σ δ As->f δ=some (ds,δ')->(∀vs F' H' A Q3,EvW F H As F' H' Q3 A->RepA X.K F' H' σ δ' Q3->RepOs X.K F' H' vs ds A->vs.length=es.length->Q vs H')->t σ H Q):PWA X es f:=EC h fun _ _ _ h=>h.elim fun _ h=>h.elim fun _ h=>h.elim fun _ h=>h.elim fun _ h=>h.elim fun _ h=>w h.1 h.2.1 h.2.2
section
variable {fa fb:FM} {g:FMA} {pos:Pos}
def Jp(h:PV X e fm):PW X e fm:=dw h fun{σ H Q F δ As d δ'} R q k=>⟨F,δ,As,d,δ',R,q,fun v F' H' A Q3 f j r'=>k v F' H' A Q3 f.toW j r'⟩
def Km(h:PD X e f):PW X e (vI f):=Jp (Kr h)
def yL:PWA X [] am:=Jy gh fun{σ H Q F δ As ds δ'} R q k=>by cases q;exact k [] F H [] As (Ev.pure (Same.refl H)).toW R .nil rfl
def pY(z:PW X e fm)(y:PWA X es g)(u:PlX X e es:=by rfl):PWA X (e::es) (ae fm g):=Jy (cD z y u) fun{σ H Q F δ As ds δ'} R q k=>by
 unfold ae at q;obtain⟨⟨G,δ1⟩,D,q⟩:=Za.mp q;obtain⟨⟨p,o⟩,C,q⟩:=Za.mp q;cases q;refine⟨F,δ,As,G,δ1,R,D,fun v F1 H1 A Q5 j s r=>⟨F1,δ1,Q5,p,o,s,C,fun vs F2 H2 B Q6 f R2 t l=>?_⟩⟩
 exact k (v::vs) F2 H2 (A++B) Q6 (j.seq f fun x m=>(r.dom x m).1) R2 (.cons (f.stays s.domA r j.dj) t rfl) (congrArg (· + 1) l)
def Kd{x1}(h:PWA X es g)(j:es.length<=1000:=by decide):PW X (.Tuple es x1 pos) (cY g):=dw (DK h) fun{σ H Q F δ As d δ'} R q k=>by
 unfold cY at q;obtain⟨⟨ds,δ1⟩,t,q⟩:=Za.mp q;cases q;refine⟨F,δ,As,ds,_,R,t,fun vs F1 H1 A Q5 r u f l=>⟨eQ (by rw[l];exact j),fun p o=>?_⟩⟩
 have s:=bv o (.tup vs);refine k _ F1 _ A Q5 (r.grow s) (u.grow s) (.tup (SqT.of aH) (f.frame (bI s) fun a m=>?_))
 obtain⟨⟨ws,e⟩,_⟩:=f.dom a m;rw[e];exact s a _ e
def Kj (h:PWA X es g) (x:es.length<=1000:=by decide):PW X (.List es pos) (bR g):=dw (DM h) fun {σ H Q F δ As d δ'} R q k=>by
 unfold bR at q;obtain⟨⟨ds,δ1⟩,y,q⟩:=Za.mp q;cases q;refine⟨F,δ,As,ds,_,R,y,fun vs F1 H1 A Q5 f u r l=>⟨eQ (by rw[l];exact x),fun p j=>?_⟩⟩
 have s:=bv j (.lst vs);have v:F1 p=none:=by
  cases q:F1 p with
  |none=>rfl
  |some o=>rw[u.fz p o q]at j;cases j
 have t:EvW F H As F1 (upd H1 p (.lst vs)) Q5 (p::A):=⟨f.fs,(f.grow s).ks,f.nf,f.fa,fun a m=>by
  rcases Zu.mp m with z|z
  . subst z;exact f.old j
  . exact f.fA a z,Z3.mpr ⟨fun m=>(by
    obtain⟨⟨ws,e⟩,_⟩:=r.dom p m;rw[j]at e;cases e),f.nd⟩,fun i a m z=>by
  rcases Zu.mp z with z|z
  . subst z;obtain⟨⟨ws,e⟩,_⟩:=u.dom m;rw[j]at e;cases e
  . exact f.dj i a m z⟩
 refine k _ F1 _ (p::A) Q5 t (u.grow s) (.lst aH v (r.frame (bI s) fun a m=>?_))
 obtain⟨⟨ws,e⟩,_⟩:=r.dom a m;rw[e];exact s a _ e
def bY(g:D->D->Option D)(fa fb:FM):FM:=fun δ=>(fa δ).bind fun p=>(fb p.2).bind fun q=>(g p.1 q.1).bind fun d=>if imm d then some (d,q.2)else none
def vQ{r}{g}(G:R2D X.K r g){Q:VK}(h:upW X.K (bY g fa fb) σ H Q):tOp r (upW X.K fa) (upW X.K fb) σ H Q:=by
 obtain⟨F,δ,As,d,δ',R,q,k⟩:=h;unfold bY at q;obtain⟨⟨t,δ1⟩,L,q⟩:=Za.mp q;obtain⟨⟨s,y⟩,J,q⟩:=Za.mp q;obtain⟨O,I,q⟩:=Za.mp q;split at q
 . rename_i hi;cases q;refine ⟨F,δ,As,t,δ1,R,L,fun v F1 H1 A Q5 j u p=>⟨F1,δ1,Q5,s,_,u,J,fun w F2 H2 B Q6 f R2 D=>?_⟩⟩
   have l:=(f.stays u.domA p j.dj).rep R2.fz;refine G v w H2 Q t s d l (D.rep R2.fz) I fun z H' o C=>?_
   exact k z F2 H' [] Q6 ((j.seq f fun x m=>(p.dom x m).1).grow o).bare (R2.grow o) (.imm hi C)
 . cases q
def CT{op}{r}{g}(f:OpR X (binaryOp op) r)(j:R2D X.K r g)(m:PW X a fa)(l:PW X b fb):PW X (.BinOp a op b pos) (bY g fa fb):=imp (yR f m l) fun _ _ _=>vQ j
def Nh(l:PW X a fa)(j:PW X b fb)(f:iG b:=by intro _ _;rfl):PW X (.Subscript a b pos) (bY gIx fa fb):=imp (sA (ix_list.or t8) l j f) fun _ _ _=>vQ Jo
end
section
variable {A:Around} {E:Yc->Yd->Prop} {Q1:Yh Ye} {fp:Nat->Yh Ye} {P:Nat->Yc->Prop} {En:Prop} {z TI TO:Ye}
def tK(p:A.handled=none)(a:s.heap.IsTupleIter it t i)(b:s.heap.IsTuple t Q2)
 (v:∀x h',Q2[i]?=some x->h'.IsTupleIter it t (i+1)->Heap.SameBut it s.heap h'->Q x { s with heap:=h' })
 (y:Q2[i]?=none->∀h' e,Heap.ExtBut it s.heap h'->(∃o,h'.get? e=some o/\o.cls=.type "StopIteration")->E (.ref e) { s with heap:=h' }) :
 wpAny (model prog w) A (Builtin.SmallTypes.nextOf (.ref it)) Q E s:=by
 have T:=a.typeIs;obtain⟨⟨L,I,S,C⟩,m,u,r⟩:=id a;obtain⟨⟨J,H,O,B⟩,D,l,n,j⟩:=b;cases u;cases r;cases l;cases j;unfold Builtin.SmallTypes.nextOf;refine Z4 (wpAny_callSpecial?_slot T F.slot_tuple_iterator_next (wpAny_call_entry F.slot_tuple_iterator_next T F.entry_tuple_iterator_next ?_ (F.args_tuple_iterator_next_1 _)));unfold Builtin.«tuple_iterator.__next__»;obtain⟨G,g,d,tk,z⟩:=s;have q:=p;cases f:Q2[i]? with
 |some x =>
  wp_walk
  simp only[Int.toNat_natCast,f]
  wp_walk
  refine⟨x,rfl,Z5 (v x _ f ⟨_,Heap.get?_update_self _ m rfl,rfl,?_⟩ (Heap.SameBut.update ..))⟩;simp[Obj.mapFields,rawInt]
 |none =>
  wp_walk
  simp only[Int.toNat_natCast,f]
  wp_walk
  unfold raiseNew
  wp_walk
  exact y f _ _ (((Heap.SameBut.update ..).extBut.push _).push _) ⟨_,ZX _ rfl,rfl⟩
def pk{α:Type}(a b:α)(j:Nat):α:=if j=0 then a else b
noncomputable def tW(h:Heap):List Obj->Heap
 |[]=>h
 |o::os=>tW (h.push o) os
theorem lL{c}{o}:∀f h,h.get? c=some o->(tW h f).get? c=some o
 |[],_,e=>e
 |_::f,_,e=>lL f _ (ZT _ e)
def pZ{o}(f:o.isFreed=false):∀j i h,j[i]?=some o->(tW h j).get? (h.objs.size+i)=some o:=by
 intro j
 induction j with
 |nil=>intro i h e;simp at e
 |cons o' j l =>
  intro i h e;cases i with
  |zero=>cases e;exact lL j _ (ZX _ f)
  |succ i =>have:=l i (h.push o') e;rw[Heap.size_push,Nat.add_assoc,Nat.add_comm 1 i]at this;exact this
end
def Ge{a}{xs}(I:L2.Inv X Q0 σ H s)(h:SqT X.K H a xs)(h':SqT X.K H a ys):xs=ys:=I.tuple_inj h h'
section
variable {A:Around} {E:Yc->Yd->Prop} 
noncomputable def enO (n:Addr):Obj:={ cls:=.type "enumerate",data:=.fields #[.none,.bool false,.ref n,rawInt 0,.none,.none] }
def pure_bool{M}{A}{E:Yc->Yd->Prop}{b}{Q:Bool->Yd->Prop}(h:Q false s)(k:Q true s):wpAny M A (pure b) Q E s:=Z5 (by cases b;exact h;exact k)
def EU (v) (oI):MeetsIn prog w (Builtin.«enumerate.__new__» ⟨[.type "enumerate",v],[]⟩) fun _ R s=>(∀A E Q,Q (.ref s.heap.objs.size) { s with heap:=s.heap.push oI }->wpAny (model prog w) A (pyIter v) Q E s) /\
 R (.ok (.ret (.ref (s.heap.objs.size+1)))) { s with heap:=tW s.heap [oI,enO s.heap.objs.size] }:=MeetsIn.of_wp fun A R s ⟨j,h⟩=>by
 have sub:=sub_enumerate;obtain⟨f,g,d,tk,l⟩:=s
 wp_walk
 have it:∀Q,Q (.ref f.objs.size) ⟨f.push oI,g,d,tk,l⟩->wpAny (model prog w) A.in1 (pyIter v) Q (fun e s'=>R (Except.error e) s') ⟨f,g,d,tk,l⟩:=fun Q=>j A.in1 _ Q
 refine wpAny_stack_any fun st=>pure_bool ?_ ?_<;>wp_walk using it<;>rw[Heap.size_push]<;>exact⟨_,rfl,h⟩
def sV{v}{oI}(l:oI.isFreed=false)(f:∀A E Q,Q (.ref s.heap.objs.size) { s with heap:=s.heap.push oI }->wpAny (model prog w) A (pyIter v) Q E s)
 (h:∀n h',n=s.heap.objs.size->IsEnum h' (n+1) n 0 .none->h'.get? n=some oI->(∀c o,s.heap.get? c=some o->h'.get? c=some o)->Q (.ref (n+1)) { s with heap:=h' }):wpAny (model prog w) A (call (.type "enumerate") [v]) Q E s:=by
 have j:=pZ rfl [oI,enO s.heap.objs.size] 1 s.heap rfl;refine PySem.callType_newIn F.called_enumerate (by decide) (F.typeCall_enumerate_1 _) (F.newCall_enumerate_1 _) (fun o=>F.args_object_init_2 o _) F.entry_enumerate_new (EU v oI) ⟨f,⟨_,j,rfl⟩,?_⟩
 exact h _ _ rfl j (pZ l [oI,enO s.heap.objs.size] 0 s.heap rfl) fun c o e=>lL _ _ e
def wc(l:A.handled=none)(it t) (n:t≠it) (Q2:Array Yc):Draws prog w A it [it,t] Q2.size (fun i x=>Q2[i]?=some x) (fun i h=>h.IsTupleIter it t i/\h.IsTuple t Q2) where
 live:=fun i h st=>by obtain⟨⟨o,e,_⟩,_⟩:=st;exact⟨o,e⟩
 frame:=fun i h h' st k=>⟨st.1.at fun o e=>k _ (by simp) o e,st.2.at fun o e=>k _ (by simp) o e⟩
 item:=fun i s Q E hi st q=>tK l st.1 st.2 (fun x h' f b j=>q x h' s.toks f ⟨b,st.2.at fun o z=>(j.2 t n).trans z⟩ j) fun e=>by rw[Z1 hi]at e;cases e
 done:=fun s Q E st q=>tK l st.1 st.2 (fun x h' f=>by rw[Array.getElem?_eq_none (ZM _)]at f;cases f) fun _=>q
end
variable {t' kt:Nat} {X2 py:Pos} {ps zs:Yh Str} {itr:Nat->Heap->Prop} {sq:Hp->Yh V->Prop} {src:FMA} {pl:Sem Bool}
def jr(f:FM):FD:=fun δ=>(f (shO δ)).bind fun p=>some p.1
noncomputable def jd:List D->Option (List Nat)
 |[]=>some []
 |d::ds=>match d with
  |.int i=>if 0<=i/\i<=4 then(jd ds).bind fun ns=>some (i.toNat::ns)else none
  |_=>none
noncomputable def wO(ns:List Nat):List D:=((List.range 5).filter fun k=>decide (k∈ns)).map fun(k:Nat)=>D.int (k:Int)
def pG(f:FM):FM:=fun δ=>(f δ).bind fun p=>match p.1 with
 |.lst ds=>(jd ds).bind fun ns=>some (.lst (wO ns),p.2)
 |_=>none
noncomputable def enF:Nat->List D->List D
 |_,[]=>[]
 |i,d::ds=>.tup [.int (i:Int),d]::enF (i+1) ds
def IZ(sq:Hp->List V->Prop):It :=
 ⟨fun i H=>∃xs x,sq H xs/\xs[i]?=some x,fun i H v H'=>∃p x,v=.ref p/\H p=none/\H'=upd H p (.tup [.int (i:Int),x])/\∀xs,sq H xs->xs[i]?=some x,fun i H=>∃xs,sq H xs/\xs.length<=i⟩
structure EnS(P:Program)(w:World)(K:ZB)(sq:Hp->List V->Prop)(it t:Addr)(itr:Nat->Heap->Prop):Prop where
 inj:∀(X:Cx)(Q0:List (Addr×Obj))(σ:L2.St)(H:Hp)(s:Shared)(xs ys:List V),X.K=K->L2.Inv X Q0 σ H s->sq H xs->sq H ys->xs=ys
 obj:∀i h,itr i h->∃o,h.get? it=some o/\∀v,o.data≠.cell v
 keep:∀i h h',itr i h->(∀o,h.get? it=some o->h'.get? it=some o)->itr i h'
 src:∀(X:Cx) (Q0:List (Addr×Obj)) (σ:L2.St) (H:Hp) (s:Shared) (xs:List V),X.prog=P->X.w=w->X.K=K->L2.Inv X Q0 σ H s->sq H xs->∃(Q1:List Value) (St:Nat->Heap->Prop),Vals xs Q1/\(∀i,itr i s.heap->St i s.heap)/\(∀i h,St i h->itr i h)/\∀A:Around,A.handled=none->Draws P w A it [it,t] Q1.length (fun i x=>Q1[i]?=some x) St/\∀i,Q1.length<=i->∀(s:Shared) (Q:Value->Shared->Prop) (E:Value->Shared->Prop),St i s.heap->(∀h' e,Heap.ExtBut it s.heap h'->(∃o,h'.get? e=some o/\o.cls=.type "StopIteration")->E (.ref e) { s with heap:=h' })->wpAny (model P w) A (Builtin.SmallTypes.nextOf (.ref it)) Q E s
theorem yo{pt}{e}(S:EnS P w K sq it t itr)(n1:e≠it)(n2:e≠t) :
 uL P w K (.Tuple es kt pt) (IZ sq) [e,it] e (fun i h=>(∃old,IsEnum h e it (i:Int) old)/\itr i h) where
 mem:=by simp
 obj:=fun i h st b f=>by
  obtain⟨⟨old,m⟩,hi⟩:=st;simp only[Zu,ZI,or_false]at f;rcases f with rfl|rfl
  . exact⟨_,m,fun v q=>by cases q⟩
  . exact S.obj i h hi
 keep:=fun i h h' st k=>by obtain⟨⟨old,m⟩,hi⟩:=st;exact⟨⟨old,k e (by simp) _ m⟩,S.keep i h h' hi fun o q=>k it (by simp) o q⟩
 item:=by
  intro X G r U hc i Q0 s σ H E I O st hg;obtain⟨xs,x,L,hx⟩:=hg;obtain⟨⟨old,m⟩,hi⟩:=st;obtain⟨Q1,St,Z,up,dn,J⟩:=S.src X Q0 σ H s xs G r U I L;obtain⟨u,hu,ru⟩:=Z.get hx;have il:=(ZL.mp hu).1;have C:=I.ok.hd hc;subst G r;refine wpAny_pyNext_enum_itemD (J X.A.in1 C).1 m (up i hi) il n1 (by simp[n1,n2]) fun y h' tk py ho hs' hT hsz hk=>?_
  cases hu.symm.trans py;have lt:∀b∈[e,it],b<s.heap.objs.size:=fun b f=>by
   simp only[Zu,ZI,or_false]at f;rcases f with rfl|rfl
   . exact ZU m
   . obtain⟨o,q,_⟩:=S.obj i _ hi;exact ZU q
  have fT:H s.heap.objs.size=none:=I.hok.fresh (ZM _);refine⟨_,rfl,wpAny_letOwnedTupleGo_enum ho fun p B Y=>?_⟩
  have V:s.heap.objs.size≠e:=Nat.ne_of_gt (lt e (by simp))
  have kk:∀b o,b∉[e,it]->s.heap.get? b=some o->p.get? b=some o:=fun b o f q=>by simp only[Zu,ZI,or_false,not_or]at f;exact(Y.2 b f.1).trans (hk b o f.1 f.2 q)
  have hT2:p.get? s.heap.objs.size=some { cls:=.type "tuple",data:=.seq #[.int (i:Int) tk,u] }:=(Y.2 _ V).trans hT;refine⟨.ref s.heap.objs.size,upd H s.heap.objs.size (.tup [.int (i:Int),x]),BZ (s:=s) (h':=p) (t':=tk+1) I kk O (ZM _) ⟨by show 2<=sizeLine;decide,[.int (i:Int) tk,u],.cons ⟨tk,rfl⟩ (.cons ru .nil),⟨_,hT2,rfl,_,rfl⟩⟩,rfl,⟨_,x,rfl,fT,rfl,fun zs q=>by rw[S.inj X Q0 σ H s zs xs U I q L];exact hx⟩,⟨⟨u,B⟩,S.keep (i+1) h' p (dn _ _ hs') fun o q=>(Y.2 it (Ne.symm n1)).trans q⟩,fun b f=>?_⟩
  rw[aF (ZJ (lt b f))];exact(O b f).1
 done:=by
  intro X G r U hc i Q0 s σ H E I O st hg;obtain⟨xs,L,hl⟩:=hg;obtain⟨⟨old,m⟩,hi⟩:=st;obtain⟨Q1,St,Z,up,dn,J⟩:=S.src X Q0 σ H s xs G r U I L;have l1:=Z.length;have C:X.A.in1.handled=none:=I.ok.hd hc;subst G r;have D:Draws X.prog X.w X.A.in1 it [it,t] i (fun _ _=>False) (fun j h=>j=i/\St i h):=⟨fun j h q=>(J X.A.in1 C).1.live i h q.2,fun j h h' q k=>⟨q.1,(J X.A.in1 C).1.frame i h h' q.2 k⟩,fun j s Q E l q=>absurd q.1 (ZJ l),fun s Q E q k=>(J X.A.in1 C).2 i (by lia) s Q E q.2 k⟩
  refine wpAny_pyNext_enum_endD D m ⟨rfl,up i hi⟩ fun h' x=>⟨rfl,B5 (t':=s.toks) I (fun b o f q=>?_) O⟩
  exact x b o (fun z=>f (by rw[z];simp)) q
 self:=fun A i s Q E st h=>by obtain⟨⟨old,m⟩,_⟩:=st;exact wpAny_pyIter_enum m h
def EW (n:t ≠ it):EnS P w K (fun H xs=>SqT K H t xs) it t (fun i h=>h.IsTupleIter it t i) where
 inj:=fun X Q0 σ H s xs ys f I h h'=>by subst f;exact Ge I h h'
 obj:=fun i h q=>by obtain⟨o,e,_,d⟩:=q;exact⟨o,e,fun v z=>by rw[d]at z;cases z⟩
 keep:=fun i h h' q k=>q.at fun o e=>k o e
 src:=fun X Q0 σ H s xs B y f I h=>by
  subst f;obtain⟨Q1,r,p,_⟩:=I.tuple h;have u:=p;refine⟨Q1,fun i h=>h.IsTupleIter it t i/\h.IsTuple t Q1.toArray,r,fun i q=>⟨q,u⟩,fun i h q=>q.1,fun A m=>⟨?_,fun i l s Q E q k=>tK m q.1 q.2 (fun x h' j=>?_) fun _=>k⟩⟩
  . have:=wc (prog:=P) (w:=w) m it t n Q1.toArray;simpa using this
  . rw [Array.getElem?_eq_none (by simpa using l)] at j
    cases j
def zx(n:t≠it):EnS P w K (fun H xs=>SqL K H t xs) it t (fun i h=>h.IsListIter it t i) where
 inj:=fun X Q0 σ H s xs ys f I h h'=>by subst f;exact I.list_inj h h'
 obj:=fun i h q=>by obtain⟨o,e,_,d⟩:=q;exact⟨o,e,fun v z=>by rw[d]at z;cases z⟩
 keep:=fun i h h' q k=>q.at fun o e=>k o e
 src:=fun X Q0 σ H s xs u m f I h=>by
  subst f;obtain⟨Q1,r,p,_⟩:=I.list h;refine⟨Q1,fun i h=>h.IsListIter it t i/\h.IsList t Q1.toArray,r,fun i q=>⟨q,p.isList⟩,fun i h q=>q.1,fun A j=>⟨?_,fun i l s Q E q k=>wpAny_nextOf_list_end j q.1 q.2 (Array.getElem?_eq_none (by simpa using l)) k⟩⟩
  have:=Draws.list (prog:=P) (w:=w) j it t n Q1.toArray;simpa using this
def iEn(K:ZB)(ta:TA):TI:=fun σ H R=>ta σ H fun vs H1=>∃a,vs=[.ref a]/\(((∃ys,SqL K H1 a ys)/\R (IZ fun H xs=>SqL K H a xs) H1)\/((∃ys,SqT K H1 a ys)/\R (IZ fun H xs=>SqT K H a xs) H1))
def Nn {pt} {ta} {pos} (O:Gl X "enumerate") (L:X.mg "enumerate" = none) (S:PA X [a] ta) (J:starEach [a] X.env=(false,eval a X.env) :: starEach [] X.env:=by rfl) (x:(backTo pos (starEach [] X.env)).any (·.1)=false:=by rfl) :
 PI X (.Tuple es kt pt) (.Call (.Name "enumerate" p) [a] [] pos) (iEn X.K ta):=by
 intro Q0 s σ H R I h;refine Call_ (lU I O L PyProof.Rows.boot_enumerate (PyProof.Rows.callWith_type1 (pI (S pos Q0 s σ H _ I h) fun{us u vs H1} j D G=>?_) J x))
 obtain⟨l,e,q⟩:=G;subst e;cases D with
 | cons r C =>
  cases C;cases r;have fp:∀n(H':Hp),n=u.heap.objs.size->(∀b∈[n+1,n],nr X Q0 H1 b):=fun n H' f b z=>by
   have o:u.heap.objs.size<=b:=by
    subst f;simp only[Zu,ZI,or_false]at z;rcases z with rfl|rfl
    . exact Nat.le_succ _
    . exact ZM _
   exact j.fpOk o (j.hok.fresh o)
  rcases q with⟨⟨ys,v⟩,q⟩|⟨⟨ys,v⟩,q⟩
  . obtain ⟨Q1,B,p,_⟩:=j.list v;have t:l < u.heap.objs.size:=by obtain ⟨_,e,_⟩:=p.isList;exact ZU e
    refine sV rfl (fun A E Q k=>wpAny_pyIter_list p.isList k) fun n h' f m hi hk=>wpAny_pyIter_enum m ?_
    exact⟨_,_,_,_,H1,rfl,j.kept hk,yo (zx (by rw[f];exact ZJ t)) (Nat.succ_ne_self n) (by rw[f];exact Nat.ne_of_gt (Nat.lt_succ_of_lt t)),⟨⟨_,m⟩,⟨_,hi,rfl,rfl⟩⟩,fp n H1 f,q⟩
  . obtain ⟨Q1,B,p,_⟩:=j.tuple v;have y:=p;have t:l < u.heap.objs.size:=by obtain ⟨_,e,_⟩:=y;exact ZU e
    refine sV rfl (fun A E Q k=>wpAny_pyIter_tuple y k) fun n h' f m hi hk=>wpAny_pyIter_enum m ?_
    exact⟨_,_,_,_,H1,rfl,j.kept hk,yo (EW (by rw[f];exact ZJ t)) (Nat.succ_ne_self n) (by rw[f];exact Nat.ne_of_gt (Nat.lt_succ_of_lt t)),⟨⟨_,m⟩,⟨_,hi,rfl,rfl⟩⟩,fp n H1 f,q⟩
theorem um:∀ds k i,(enF k ds)[i]?=(ds[i]?).map fun d=>D.tup [.int ((k+i:Nat):Int),d]
 |[],_,_=>rfl
 |d::ds,k,0=>rfl
 |d::ds,k,i+1=>by show(enF (k+1) ds)[i]?=_;rw[um ds (k+1) i,Zf,show k+1+i=k+(i+1) by lia]
theorem ul:∀ds k,(enF k ds).length=ds.length
 |[],_=>rfl
 |d::ds,k=>by show(enF (k+1) ds).length+1=_;rw[ul ds (k+1)];rfl
def pj{a}{u:HO}(I:L2.Inv X Q0 σ H s)(k:∀b o,s.heap.get? b=some o->h'.get? b=some o)(m:s.heap.get? a=none)(f:H a=none)(j:ObjOk X.prog X.w (upd H a u) h' a u):L2.Inv X Q0 σ (upd H a u) { s with heap:=h',toks:=t' }:=by
 have un:Un X.fs [] H (upd H a u) s.heap h':=⟨fun b u e _ _ _=>k b u e,fun b u e _ _ _=>⟨u.slots,k b u e⟩,fun b u e n _=>by rw[aF (fun z=>by subst z;rw[m]at e;cases e)];exact n,fun b u e _=>⟨u,k b u e⟩,fun b xs e=>by rw[aF (bh e f)];exact e,fun b u xs e=>by rw[aF (bh e f)];exact e,fun b ps e=>⟨#[],by rw[aF (bh e f),e];simp⟩⟩
 refine I.un un fun b v e=>?_
 by_cases l:b=a
 . rw[l]at e ⊢;rw[aH]at e;cases e;exact j
 . rw[aF l]at e;exact(I.hok b v e).stay (fun c v _ q=>k c v q) (fun c q=>by rw[aF (bh q f)];exact q) fun c xs q=>by rw[aF (bh q f)];exact q
def Gn(w:World)(l:Addr)(ns:List Nat):HO:=.ext fun h=>Sw.SetS h l (Sw.ledOf w) (Sw.putAll ns)
noncomputable def vN(n:Nat):V:=.int (n:Int)
theorem left_of:∀j f Q1,Vals (j.map vN) Q1->(∀n∈j,n∈[0,1,2,3,4])->Sw.Left (f++Q1).toArray f.length j
 |[],f,Q1,r,_=>by cases r;show(f++[]).toArray[f.length]?=none;simp
 | n :: j,f,Q1,r,h=>by
  cases r with
  |cons a t =>
   obtain⟨k,rfl⟩:=a;refine⟨⟨k,by simp⟩,h n Zp,?_⟩
   rename_i us;have:=left_of j (f++[.int (n:Int) k]) us t fun x m=>h x (Zq _ m)
   rw[ZW,Zl]at this;exact this
def Br (C:X.calm=true):CallR X (.type "set") (fun xs H Q=>∃p f,xs=[.ref p]/\SqL X.K H p (f.map vN)/\(∀n∈f,n∈[0,1,2,3,4])/\∀l,H l=none->Q (.ref l) (upd H l (Gn X.w l f))):=by
 intro Q0 s σ H xs us Q I r h;obtain⟨p,f,rfl,B,D,q⟩:=h;obtain⟨u,rfl,t⟩:=jK r;cases t;obtain⟨Q1,r',pl,G⟩:=I.list B;refine Sw.set_small (I.ok.hd C) pl.isList (left_of f [] Q1 r' D) fun h' tk y m=>?_
 have j:=I.hok.fresh (ZM _);have v:s.heap.get? s.heap.objs.size=none:=by
  cases z:s.heap.get? s.heap.objs.size with
  |none=>rfl
  |some o=>exact absurd (ZU z) (ZK _)
 refine⟨.ref s.heap.objs.size,_,pj I y v j (u:=Gn X.w s.heap.objs.size f) ⟨m,?_,fun h1 h2 x k=>x.same k⟩,rfl,q _ j⟩
 obtain⟨o,_,_,g,_⟩:=m;exact⟨o,g⟩
theorem rZ:∀{us}{ks:Yh Nat},IntsAre us (ks.map fun(k:Nat)=>(k:Int))->Vals (ks.map vN) us
 |_,[],h=>by cases h;exact .nil
 |_,k::ks,h=>by
  cases h with
  |cons _ t h=>exact .cons ⟨t,rfl⟩ (rZ h)
def xZ (L:X.calm=true):CallR X (.builtin "sorted") (fun xs H Q=>∃p f,xs=[.ref p]/\H p=some (Gn X.w p f)/\(∀n∈f,n∈[0,1,2,3,4])/\∀l,H l=none->Q (.ref l) (upd H l (.lst ((Sw.srtN f).map vN)))):=by
 intro Q0 s σ H xs us Q I r h;obtain⟨p,f,rfl,G,S,q⟩:=h;obtain⟨u,rfl,x⟩:=jK r;cases x;obtain⟨v,_,_⟩:=I.hok p _ G;rw[Sw.putAll_srt S]at v;refine Sw.sorted_small (I.ok.hd L) v fun h1 h' tk j m D B O=>?_
 have y:s.heap.get? h1.objs.size=none:=by
  cases z:s.heap.get? h1.objs.size with
  |none=>rfl
  |some o=>exact absurd (ZU (m _ _ z)) (ZK _)
 have t:=(I.hok.kept m).fresh (ZM _);obtain⟨e,J⟩:=B;have C:(Sw.srtN f).length<=5:=List.length_filter_le _ _;exact⟨.ref h1.objs.size,_,pj I (fun b o z=>D b o (m b o z)) y t (u:=.lst ((Sw.srtN f).map vN)) ⟨by rw[Zm];exact ZZ C (by decide),j.toList,e,rZ O,by simpa using J⟩,rfl,q _ t⟩
theorem wQ {F} {vs} {ds} {A} {ns} (r:RepOs K F H vs ds A):jd ds=some ns->vs=ns.map vN/\∀ n∈ns,n∈[0,1,2,3,4]:=by
 induction r using RepOs.ind generalizing ns with
 |nil=>intro e;cases e;exact⟨rfl,fun _ m=>nomatch m⟩
 | cons a t f =>
  intro e;unfold jd at e;split at e
  . rename_i i;split at e
    . rename_i hi;obtain ⟨ms,l,e⟩:=Za.mp e;cases e;obtain ⟨h1,h2⟩:=f l;subst h1;have j:∀ {v} {B},RepO K F H v (.int i) B->v=.int i:=fun r=>by
       cases r with
       |imm _ r=>cases r;rfl
      rw[j a];have:((i.toNat:Nat):Int)=i:=by lia
      refine⟨by show _=vN i.toNat::ms.map vN;unfold vN;rw[this],fun n m=>?_⟩
      rcases Zu.mp m with z|z
      . have c:i=0 \/ i=1 \/ i=2 \/ i=3 \/ i=4:=by lia
        rw[z];rcases c with rfl|rfl|rfl|rfl|rfl<;>decide
      . exact h2 n z
    . cases e
  . cases e
theorem sf{F}:∀(ks:Yh Nat),RepOs K F H (ks.map vN) (ks.map fun(k:Nat)=>D.int (k:Int)) []
 |[]=>.nil
 |k::ks=>.cons (.imm rfl (.int _)) (sf ks) rfl
def ng:bootBuiltins "sorted" = some (.builtin "sorted"):=by decide +kernel
def BF:bootBuiltins "set" = some (.type "set"):=by decide +kernel
def C5 {f} {y pos:Pos} (hg:Gl X "sorted") (hm:X.mg "sorted" = none) (G:Gl X "set") (D:X.mg "set" = none) (h:PV X e f) (U:X.calm=true:=by rfl)
 (S:starEach [e] X.env=(false,eval e X.env)::starEach [] X.env:=by rfl) (C:(backTo X2 (starEach [] X.env)).any (·.1)=false:=by rfl)
 (t:starEach [.Call (.Name "set" y) [e] [] X2] X.env=(false,eval (.Call (.Name "set" y) [e] [] X2) X.env)::starEach [] X.env:=by rfl) (s:(backTo pos (starEach [] X.env)).any (·.1)=false:=by rfl) :
 PV X (.Call (.Name "sorted" p) [.Call (.Name "set" y) [e] [] X2] [] pos) (pG f) :=
 vR (qd (xZ U) hg hm ng (cD (nO (Br U) G D BF (cD h gh S) (by decide) (by decide) S C) gh t) (by decide) (by decide) t s) fun {σ H Q F δ As d δ'} R q k=>by
  unfold pG at q;obtain⟨⟨d1,δ1⟩,e1,q⟩:=Za.mp q;cases d1 with
  | lst ds =>
   obtain⟨r,e2,q⟩:=Za.mp (q);cases q;refine⟨F,δ,As,.lst ds,_,R,e1,fun v F1 H1 A Q5 x I r1=>?_⟩
   cases r1 with
   |imm i _=>cases i
   | @lst a vs _ B ha nf rs =>
    obtain⟨rfl,V⟩:=wQ rs e2;refine⟨a,r,rfl,SqL.of ha,V,fun l hl=>⟨l,r,rfl,aH,V,fun m j=>?_⟩⟩
    have L:=bv hl (Gn X.w l r);have Z:=bv j (.lst ((Sw.srtN r).map vN));have J:=L.trans Z;have nm:H1 m=none:=by
     cases z:H1 m with
     |none=>rfl
     |some o=>rw[L m o z]at j;cases j
    have O:∀{u},Same u H1->u m=none:=fun{u} Y=>by
     cases z:u m with
     |none=>rfl
     |some o=>rw[Y m o z]at nm;cases nm
    refine k (.ref m) F1 _ [m] Q5 ⟨x.fs,x.hs.trans J,x.nf,x.fa,fun b z=>?_,(by simp),fun i b mb z=>?_⟩ (I.grow J) (.lst aH (O I.fz) (sf (Sw.srtN r)))
    . rw[Zr.mp z];exact .inr (O x.hs)
    . rw[Zr.mp z]at mb;obtain⟨⟨u,e⟩,_⟩:=I.dom mb;rw[nm]at e;cases e
  |_=>cases q
variable {qual:Str} {tg iter cx:Expr} {Cs:Yh Ye} {Q4:DS} {G:Yh D->Yg D} {X4 AA AA2:Nat->Yh Ye} {fd:FuncData} {fc:FT} {body:Yh Stmt}
inductive RQ where
 |nx (δ:DS)
 |rt (d:D) (δ:DS)
 |bk (δ:DS)
 |ct (δ:DS)
abbrev SQ:=DS->Option RQ
theorem EvW.refl{F}:EvW F H As F H As []:=⟨Same.refl F,fun _ _ h _=>h,fun _ _ _ n _=>n,fun i _ m=>.inl ⟨i,m⟩,fun _ m=>(nomatch m),Zz,fun _ _ _ z=>(nomatch z)⟩
def EvW.grew{F}(s:Same H H'):EvW F H As F H' As []:=EvW.refl.grow s
def EvW.go{F}(a:EvW F H As F1 H1 Q5 [])(b:EvW F1 H1 Q5 F2 H2 Q6 B):EvW F H As F2 H2 Q6 B:=a.seq b fun _ m=>nomatch m
def EvW.keep{F}(e:EvW F H As F' H' Q3 A)(h:∀i a,a∈Q6 i->(∃j,a∈Q3 j)\/a∈A):EvW F H As F' H' Q6 [] :=
 ⟨e.fs,e.ks,e.nf,fun i a m=>by
  rcases h i a m with⟨j,z⟩|z
  . exact e.fa j a z
  . exact e.fA a z,fun _ m=>(nomatch m),Zz,fun _ _ _ z=>(nomatch z)⟩
def RPQ(X:Cx)(Z:L2.St->Prop)(E:FS)(F H:Hp)(As:Nat->List Addr):RQ->Prop
 |.nx δ=>∀σ' F' H' Q3,EvW F H As F' H' Q3 []->RepA X.K F' H' σ' δ Q3->Z σ'->E.nx σ' H'
 |.rt d δ=>∀v σ' F' H' Q3 A,EvW F H As F' H' Q3 A->RepA X.K F' H' σ' δ Q3->Z σ'->RepO X.K F' H' v d A->E.rt v H'
 |.bk δ=>∀σ' F' H' Q3,EvW F H As F' H' Q3 []->RepA X.K F' H' σ' δ Q3->Z σ'->E.bk σ' H'
 |.ct δ=>∀σ' F' H' Q3,EvW F H As F' H' Q3 []->RepA X.K F' H' σ' δ Q3->Z σ'->E.ct σ' H'
def RPQ.mono{E}{F}{r}(s:EvW F H As F1 H1 Q5 [])(h:RPQ X Z E F H As r):RPQ X Z E F1 H1 Q5 r:=by
 cases r with
 |nx δ=>exact fun f F' H' Q3 e=>h f F' H' Q3 (s.go e)
 |rt d δ=>exact fun v f F' H' Q3 A e=>h v f F' H' Q3 A (s.go e)
 |bk δ=>exact fun f F' H' Q3 e=>h f F' H' Q3 (s.go e)
 |ct δ=>exact fun f F' H' Q3 e=>h f F' H' Q3 (s.go e)
def upQ(X:Cx)(Z:L2.St->Prop)(s:SQ):TS:=fun E σ H=>∃F δ As r,RepA X.K F H σ δ As/\Z σ/\s δ=some r/\RPQ X Z E F H As r
def PQ(X:Cx)(Z:L2.St->Prop)(st:Stmt)(s:SQ):Prop:=PS X st (upQ X Z s)
def PQs(X:Cx)(Z:L2.St->Prop)(sts:List Stmt)(s:SQ):Prop:=PSs X sts (upQ X Z s)
def k9{t}{f}(h:PS X st t)(w:∀{E σ H F δ As r},RepA X.K F H σ δ As->Z σ->f δ=some r->RPQ X Z E F H As r->t E σ H):PQ X Z st f:=OM h fun _ _ _ h=>h.elim fun _ h=>h.elim fun _ h=>h.elim fun _ h=>h.elim fun _ h=>w h.1 h.2.1 h.2.2.1 h.2.2.2
def Jz{st}{t}{f}(h:PSs X st t)(w:∀{E σ H F δ As r},RepA X.K F H σ δ As->Z σ->f δ=some r->RPQ X Z E F H As r->t E σ H):PQs X Z st f:=Ey h fun _ _ _ h=>h.elim fun _ h=>h.elim fun _ h=>h.elim fun _ h=>h.elim fun _ h=>w h.1 h.2.1 h.2.2.1 h.2.2.2
def ZO(Z:L2.St->Prop)(i:Nat):Prop:=∀σ v,Z σ->Z (σ.set i (some v))
noncomputable def bw:SQ:=fun δ=>some (.nx δ)
noncomputable def pX:SQ:=fun _=>none
noncomputable def ai(s u:SQ):SQ:=fun δ=>(s δ).bind fun r=>match r with
 |.nx δ'=>u δ'
 |r=>some r
noncomputable def qIf(c:FT)(s u:SQ):SQ:=fun δ=>(c δ).bind fun b=>if b=true then s δ else u δ
noncomputable def lJ(c:FM)(s u:SQ):SQ:=fun δ=>(c δ).bind fun p=>match p.1 with
 |.bl b=>if b=true then s p.2 else u p.2
 |_=>none
noncomputable def eL(i:Nat)(f:FM):SQ:=fun δ=>(f δ).bind fun p=>some (.nx (p.2.set i (some p.1)))
def az(i:Nat)(f:FM):SQ:=fun δ=>(f δ).bind fun p=>some (.nx (p.2.set i (some (sh p.1))))
noncomputable def aW(f:FM):SQ:=fun δ=>(f δ).bind fun p=>some (.rt p.1 p.2)
noncomputable def bE(f:FM):SQ:=fun δ=>(f δ).bind fun p=>some (.nx p.2)
noncomputable def eO:Nat->FT->SQ->SQ
 |0,_,_=>fun _=>none
 |n+1,c,s=>fun δ=>(c δ).bind fun b=>if b=true then(s δ).bind fun r=>match r with
  |.nx δ'=>eO n c s δ'
  |.ct δ'=>eO n c s δ'
  |.bk δ'=>some (.nx δ')
  |.rt d δ'=>some (.rt d δ')
  else some (.nx δ)
theorem RepA.setQ{F}{d}(R:RepA K F' H' σ δ Q3)(e:EvW F H As F' H' Q3 A)(i) (r:RepO K F' H' v d A) :
 ∃Q6,EvW F H As F' H' Q6 []/\RepA K F' H' (σ.set i (some v)) (δ.set i (some d)) Q6:=by
 by_cases hi:i<δ.length
 . refine ⟨iD Q3 i A,e.keep fun j a m=>?_,R.set i hi r e.nd fun j a _ m=>e.dj j a m⟩
   by_cases f:j=i
   . subst f;rw[aA]at m;exact .inr m
   . rw[aB f]at m;exact .inl ⟨j,m⟩
 . have l:=R.len;rw [List.set_eq_of_length_le (by lia),List.set_eq_of_length_le (by lia)]
   exact⟨Q3,e.bare,R⟩
theorem EvW.freeze{F}{d}(e:EvW F H As F1 H1 Q5 A)(R:RepA K F1 H1 σ δ Q5)(r:RepO K F1 H1 v d A) :
 ∃F2,EvW F H As F2 H1 Q5 []/\RepA K F2 H1 σ δ Q5/\RepO K F2 H1 v (sh d) []/\Rep K F2 v (sh d):=by
 have f:=mW (A:=A) R.fz;have l:Same (frz F1 H1 A) H1:=uf;have z:=r.freeze f mX fun a vs m e=>pq e m
 have z2:=RepO.of_sh l z;rw[yx d]at z2;refine⟨frz F1 H1 A,⟨e.fs.trans f,e.ks,fun a u h n m=>?_,e.fa,fun _ m=>(nomatch m),Zz,fun _ _ _ z=>(nomatch z)⟩,R.froz f l fun j a m=>?_,z2,z⟩
 . refine gH (e.ks a _ h m) (e.nf a u h n m) fun z=>?_
   rcases e.fA a z with⟨j,y⟩|y
   . exact m j y
   . rw[h]at y;cases y
 . obtain⟨⟨vs,q⟩,n⟩:=R.dom m;exact gH q n (e.dj j a m)
section
variable {Q7:Yh Stmt} {s u:SQ} {c:FT} {pos:Pos}
def KF:PQs X Z [] bw:=Jz yN fun{E σ H F δ As r} R z e k=>by cases e;exact k σ F H As EvW.refl R z
def G5(h1:PQ X Z st s)(h2:PQs X Z Q7 u):PQs X Z (st::Q7) (ai s u):=Jz (ve h1 h2) fun{E σ H F δ As r} R z e k=>by
 unfold ai at e;obtain⟨f,m,e⟩:=Za.mp e;refine⟨F,δ,As,f,R,z,m,?_⟩;cases f with
 |nx δ'=>exact fun j F' H' Q3 l o z1=>⟨F',δ',Q3,r,o,z1,e,k.mono l⟩
 |rt d δ'=>cases e;exact k
 |bk δ'=>cases e;exact k
 |ct δ'=>cases e;exact k
def KD(h:PQ X Z st s):PQs X Z [st] s:=G1 h
def Dm:PQ X Z st pX:=k9 Dh fun{E σ H F δ As r} R z e k=>by cases e
def Nk{a b}(j:PTD X cx c)(m:PQs X Z a s)(l:PQs X Z b u):PQ X Z (.If cx a b pos) (qIf c s u):=k9 (Jq j m l) fun{E σ H F δ As r} R z q k=>by
 unfold qIf at q;obtain⟨d,o,q⟩:=Za.mp q;refine⟨δ,d,R.toS,o,fun H' f=>?_⟩
 cases d with
 |true=>rw[if_pos rfl]at q ⊢;exact⟨F,δ,As,r,R.grow f,z,q,k.mono (EvW.grew f)⟩
 |false=>rw[if_neg ZC]at q ⊢;exact⟨F,δ,As,r,R.grow f,z,q,k.mono (EvW.grew f)⟩
def Kz(i) (j:ZO Z i) (s:X.N.Nodup) (p:PW X e fm) (hi:X.N[i]?=some x:=by kernel_rfl) (l:Loc X.env.scope x:=by exact loX (by kernel_rfl)) (m:swapsWith e (some (.Name x X2)) pos.line X.env=pure false:=by rfl) (o:FoX X x:=by exact foX (by kernel_rfl)) :
 PQ X Z (.Assign [.Name x X2] e pos) (eL i fm):=k9 (Dg s hi l p m o) fun{E σ H F δ As r} R z q k=>by
 unfold eL at q;obtain⟨⟨d,δ'⟩,u,q⟩:=Za.mp q;cases q;refine⟨F,δ,As,d,δ',R,u,fun v F' H' A Q3 t y r'=>?_⟩
 obtain⟨Q6,f,R2⟩:=y.setQ t i r';exact k _ F' H' Q6 f R2 (j σ v z)
def G2(i) (l:ZO Z i) (u:X.N.Nodup) (t:PW X e fm) (hi:X.N[i]?=some x:=by kernel_rfl) (o:Loc X.env.scope x:=by exact loX (by kernel_rfl)) (p:swapsWith e (some (.Name x X2)) pos.line X.env=pure false:=by rfl) (s:FoX X x:=by exact foX (by kernel_rfl)) :
 PQ X Z (.Assign [.Name x X2] e pos) (az i fm):=k9 (Dg u hi o t p s) fun{E σ H F δ As r} R z q k=>by
 unfold az at q;obtain⟨⟨d,δ'⟩,B,q⟩:=Za.mp q;cases q;refine⟨F,δ,As,d,δ',R,B,fun v F' H' A Q3 y D r'=>?_⟩
 obtain⟨F2,j,R2,m,_⟩:=y.freeze D r';obtain⟨X4,f,C⟩:=R2.setQ j i m;exact k _ F2 H' X4 f C (l σ v z)
def KB(f:PW X e fm):PQ X Z (.Return (some e) pos) (aW fm):=k9 (Kx f) fun{E σ H F δ As r} R z q k=>by unfold aW at q;obtain⟨⟨d,δ'⟩,l,q⟩:=Za.mp q;cases q;exact⟨F,δ,As,d,δ',R,l,fun v F' H' A Q3 j m r'=>k v σ F' H' Q3 A j m z r'⟩
def G4(j:PW X e fm)(f:swapsWith e none pos.line X.env=pure false:=by rfl):PQ X Z (.Expr e pos) (bE fm):=k9 (mK j f) fun{E σ H F δ As r} R z q k=>by unfold bE at q;obtain⟨⟨d,δ'⟩,m,q⟩:=Za.mp q;cases q;exact⟨F,δ,As,d,δ',R,m,fun v F' H' A Q3 l o r'=>k σ F' H' Q3 l.bare o z⟩
def Dk(n) (t:PassesOwn (model X.prog X.w) X.A X.env X.xe) (u:PTD X cx c) (v:PQs X Z body s):PQ X Z (.While cx body [] pos) (eO n c s):=k9 (Df t u v) fun{E σ H F δ As r} R z e k=>by
 refine⟨fun m σ H=>∃F δ As r,RepA X.K F H σ δ As/\Z σ/\eO m c s δ=some r/\RPQ X Z E F H As r,⟨n,F,δ,As,r,R,z,e,k⟩,?_⟩
 rintro m σ H ⟨F,δ,As,r,R,z,e,k⟩
 cases m with
 |zero=>exact absurd e (by intro z;cases z)
 | succ m =>
  obtain⟨b,x,e⟩:=Za.mp (e);refine⟨δ,b,R.toS,x,fun H1 j=>?_⟩
  cases b with
  |true =>
   rw[if_pos rfl];obtain⟨p,y,e⟩:=Za.mp (e);refine⟨fun f H'=>∃q,q<m+1/\∃F δ As r,RepA X.K F H' f δ As/\Z f/\eO q c s δ=some r/\RPQ X Z E F H' As r,fun _ _ z=>z,⟨F,δ,As,p,R.grow j,z,y,?_⟩⟩
   have l:=k.mono (EvW.grew j);cases p with
   |nx δ'=>exact fun f F' H' Q3 o R2 z2=>⟨m,Nat.lt_succ_self m,F',δ',Q3,r,R2,z2,e,l.mono o⟩
   |ct δ'=>exact fun f F' H' Q3 o R2 z2=>⟨m,Nat.lt_succ_self m,F',δ',Q3,r,R2,z2,e,l.mono o⟩
   |bk δ'=>cases e;exact l
   |rt d δ'=>cases e;exact l
  |false =>rw[if_neg ZC];cases e;exact k σ F H1 As (EvW.grew j) (R.grow j) z
end
mutual
noncomputable def noo:D->Bool
 |.tup ds=>qo ds
 |.lst _=>false
 |.oo _ _ _=>false
 |_=>true
noncomputable def qo:List D->Bool
 |[]=>true
 |d::ds=>noo d&&qo ds
end
section
variable {F:Hp} 
theorem RepO.noo_:(∀{v}{d}{A},RepO K F H v d A->noo d=true->A=[])/\∀{vs}{ds}{A},RepOs K F H vs ds A->qo ds=true->A=[] :=
 RepO.both (fun _ _ _=>rfl) (fun _ _=>rfl) (fun _ _ q i=>q (by rw[noo]at i;exact i)) (fun _ _ _ _ i=>by rw[noo]at i;cases i) (fun _ _=>rfl) (fun _ _ _ _ _ i=>by rw[noo]at i;cases i) (fun _=>rfl) fun _ _ p q i=>by rw[qo,ZN]at i;rw[p i.1,q i.2];rfl
def RepO.noo_nil:∀{v}{d}{A},RepO K F H v d A->noo d=true->A=[]:=RepO.noo_.1
def RepOs.noo_nil:∀{vs}{ds}{A},RepOs K F H vs ds A->qo ds=true->A=[]:=RepO.noo_.2
noncomputable def Mx(A:List Addr)(As:Nat->List Addr):Nat->List Addr
 |0=>A
 |j+1=>As j
def RepA.cons {v} {d} {A:Yh Ye} (R:RepA K F H σ δ As) (r:RepO K F H v d A) (o:A.Nodup) (l:∀ j a,a∈As j->a ∉ A):RepA K F H (some v :: σ) (some d :: δ) (Mx A As):=by
 refine⟨R.fz,by simp[R.len],fun i e q=>?_,fun i h=>?_,fun i=>?_,fun i j a f m=>?_⟩
 . cases i with
   |zero=>cases q;exact⟨v,rfl,r⟩
   |succ i=>exact R.val i e q
 . cases i with
   |zero=>exact absurd rfl (h d)
   |succ i=>exact R.non i h
 . cases i with
   |zero=>exact o
   |succ i=>exact R.nd i
 . cases i with
   |zero =>
    cases j with
    |zero=>exact absurd rfl f
    |succ j=>exact fun z=>l j a z m
   |succ i =>
    cases j with
    |zero=>exact l i a m
    |succ j=>exact R.dj i j a (fun z=>f (congrArg (· + 1) z)) m
def RepOs.toA(s:Same F H){vs}{ds}{A}(r:RepOs K F H vs ds A):A.Nodup->∃AA,RepA K F H (vs.map some) (ds.map some) AA/\∀j a,a∈AA j->a∈A:=by
 induction r using RepOs.ind with
 |nil=>exact fun _=>⟨fun _=>[],⟨s,rfl,fun i d q=>(nomatch q),fun _ _=>rfl,fun _=>Zz,fun _ _ _ _ m=>nomatch m⟩,fun _ _ m=>nomatch m⟩
 |cons r t l =>
  intro f;have n2:=Z2.mp f;obtain⟨AA,R,h⟩:=l n2.2.1;refine⟨_,R.cons r n2.1 fun j a m z=>n2.2.2 a z a (h j a m) rfl,fun j a m=>?_⟩
  cases j with
  |zero=>exact ZF _ m
  |succ j=>exact ZE _ (h j a m)
theorem RepA.tail{o}{p}(R:RepA K F H (o::σ) (p::δ) As):RepA K F H σ δ fun j=>As (j+1) :=
 ⟨R.fz,by have:=R.len;simpa using this,fun i d q=>R.val (i+1) d q,fun i h=>R.non (i+1) h,fun i=>R.nd (i+1),fun i j a f m=>R.dj (i+1) (j+1) a (fun z=>f (by lia)) m⟩
theorem RepA.pad(R:RepA K F H σ δ As)(n):RepA K F H (σ++List.replicate n none) (δ++List.replicate n none) As:=by
 refine⟨R.fz,by simp[R.len],fun i d q=>?_,fun i h=>?_,R.nd,R.dj⟩
 . by_cases hi:i < δ.length
   . rw [List.getElem?_append_left hi] at q;rw [List.getElem?_append_left (by rw [R.len];exact hi)]
     exact R.val i d q
   . rw [List.getElem?_append_right (by lia),List.getElem?_replicate] at q
     split at q<;>cases q
 . refine R.non i fun d z=>h d ?_
   rw[List.getElem?_append_left (ZL.mp z).1];exact z
noncomputable def rf(n:Nat)(As:Nat->List Addr):Nat->List Addr:=fun j=>if j<n then As j else[]
theorem RepA.cut{ws}(R:RepA K F H σ δ As)(n) (l:ws.length=n) (h:∀j,j<n->σ[j]?=ws[j]?):RepA K F H ws (δ.take n) (rf n As):=by
 have o:n<=σ.length:=by
  by_cases z:n<=σ.length
  . exact z
  . have:=h σ.length (by lia)
    rw[List.getElem?_eq_none (ZM _),Zy (by lia)]at this
    cases this
 refine⟨R.fz,by rw[l,List.length_take,<- R.len];lia,fun i d q=>?_,fun i q=>?_,fun i=>?_,fun i j a f m=>?_⟩
 . rw [List.getElem?_take] at q;split at q
   . rename_i hi;obtain ⟨v,h1,h2⟩:=R.val i d q;refine ⟨v,by rw [<- h i hi];exact h1,?_⟩
     unfold rf;rw[if_pos hi];exact h2
   . cases q
 . unfold rf;split
   . rename_i hi;refine R.non i fun d z=>q d ?_
     rw[List.getElem?_take,if_pos hi];exact z
   . rfl
 . unfold rf;split
   . exact R.nd i
   . exact Zz
 . unfold rf at m ⊢;split at m
   . split
     . exact R.dj i j a f m
     . exact fun z=>nomatch z
   . cases m
def tI{a}(m:a∈rf n As j):a∈As j:=by
 unfold rf at m;split at m
 . exact m
 . cases m
def EvW.sub(e:EvW F H As F2 H2 Q6 A)(h:∀i a,a∈X4 i->a∈Q6 i):EvW F H As F2 H2 X4 A:=⟨e.fs,e.ks,e.nf,fun i a m=>e.fa i a (h i a m),e.fA,e.nd,fun i a m=>e.dj i a (h i a m)⟩
def RepA.beside(R:RepA K F H σ δ As)(l:EvW F H AA F2 H2 AA2 B)(o:BN H AA)(f:Same F2 H2)(p:∀i j a,a∈As i->a∉AA j):RepA K F2 H2 σ δ As :=
 ⟨f,R.len,fun i d q=>let ⟨v,h1,h2⟩:=R.val i d q;⟨v,h1,l.stays o h2 fun j a m z=>p i j a z m⟩,R.non,R.nd,R.dj⟩
def EvW.call(l:EvW F H As F1 H1 Q5 A)(f:EvW F1 H1 AA F2 H2 AA2 B)(sub:∀j a,a∈AA j->a∈A)(r:BN H1 Q5)(p:∀i a,a∈X4 i->(∃j,a∈Q5 j)\/∃j,a∈AA2 j):EvW F H As F2 H2 X4 B:=by
 have o:∀a u,H a=some u->(∀i,a∉As i)->∀j,a∉AA j:=fun a u h n j m=>by
  rcases l.fA a (sub j a m)with⟨i,z⟩|z
  . exact n i z
  . rw[h]at z;cases z
 have old:∀a,(∃j,a∈AA j)\/H1 a=none->(∃j,a∈As j)\/H a=none:=fun a h=>by
  rcases h with⟨j,z⟩|z
  . exact l.fA a (sub j a z)
  . exact l.old z
 refine⟨l.fs.trans f.fs,fun a u h n=>f.ks a u (l.ks a u h n) (o a u h n),fun a u h n m=>f.nf a u (l.ks a _ h m) (l.nf a u h n m) (o a _ h m),fun i a m=>?_,fun a m=>old a (f.fA a m),f.nd,fun i a m z=>?_⟩
 . rcases p i a m with ⟨j,y⟩ | ⟨j,y⟩
   . exact l.fa j a y
   . exact old a (f.fa j a y)
 . rcases p i a m with ⟨j,y⟩ | ⟨j,y⟩
   . rcases f.fA a z with ⟨q,w⟩ | w
     . exact l.dj j a y (sub q a w)
     . obtain⟨u,e⟩:=r j a y;rw[w]at e;cases e
   . exact f.dj j a y z
end
def aa(i:Nat):FM:=fun δ=>match δ[i]? with
 |some (some d)=>if noo d then some (d,δ)else some (d,δ.set i none)
 |_=>none
def Lk(σ:L2.St):List (Option Nat)->List V->Prop
 |[],[]=>True
 |none::bs,_::vs=>Lk σ bs vs
 |some i::bs,v::vs=>σ[i]?=some (some v)/\Lk σ bs vs
 |_,_=>False
def Op(K:ZB)(bs:List (Option Nat))(f:FMA):TA:=fun σ H Q=>∃F δ As ds δ',RepA K F H σ δ As/\f δ=some (ds,δ')/\∀vs F' H' A Q3,EvW F H As F' H' Q3 A->RepA K F' H' σ δ' Q3->RepOs K F' H' vs ds A->Lk σ bs vs->Q vs H'
def PLA(X:Cx)(es:List Expr)(bs:List (Option Nat))(f:FMA):Prop:=PA X es (Op X.K bs f)
def EB{t}{bs}{f}(h:PA X es t)(w:∀{σ H Q F δ As ds δ'},RepA X.K F H σ δ As->f δ=some (ds,δ')->(∀vs F' H' A Q3,EvW F H As F' H' Q3 A->RepA X.K F' H' σ δ' Q3->RepOs X.K F' H' vs ds A->Lk σ bs vs->Q vs H')->t σ H Q):PLA X es bs f:=EC h fun _ _ _ h=>h.elim fun _ h=>h.elim fun _ h=>h.elim fun _ h=>h.elim fun _ h=>h.elim fun _ h=>w h.1 h.2.1 h.2.2
theorem qt:∀{bs}{vs},Lk σ bs vs->vs.length=bs.length
 |[],[],_=>rfl
 |none::_,_::_,h=>congrArg (· + 1) (qt (h))
 |some _::_,_::_,h=>congrArg (· + 1) (qt h.2)
 |[],_::_,h=>Zzb h
 |none::_,[],h=>Zzb h
 |some _::_,[],h=>Zzb h
def RepA.take{F}{d}(R:RepA K F H σ δ As)(e:aa i δ=some (d,δ1)):∃v A Q5,σ[i]?=some (some v)/\EvW F H As F H Q5 A/\RepA K F H σ δ1 Q5/\RepO K F H v d A:=by
 unfold aa at e;split at e
 . rename_i o h;obtain ⟨v,h1,h2⟩:=R.val i _ h;split at e
   . rename_i l;cases e;rw[h2.noo_nil l]at h2;exact⟨v,[],As,h1,EvW.refl,R,h2⟩
   . cases e;refine ⟨v,As i,iD As i [],h1,⟨Same.refl F,fun _ _ h _=>h,fun _ _ _ n _=>n,fun j a m=>?_,fun a m=>.inl ⟨i,m⟩,R.nd i,fun j a m=>?_⟩,R.drop i,h2⟩
     . by_cases f:j=i
       . subst f;rw[aA]at m;cases m
       . rw[aB f]at m;exact .inl ⟨j,m⟩
     . by_cases f:j=i
       . subst f;rw[aA]at m;cases m
       . rw[aB f]at m;exact R.dj j i a f m
 . cases e
section
variable {g:FMA} {bs:Yh (Yg Nat)} {pos:Pos}
def Hc:PLA X [] [] am:=EB gh fun{σ H Q F δ As ds δ'} R q k=>by cases q;exact k [] F H [] As EvW.refl R .nil True.intro
def DE(z:PW X e fm)(y:PLA X es bs g)(u:PlX X e es:=by rfl):PLA X (e::es) (none::bs) (ae fm g):=EB (cD z y u) fun{σ H Q F δ As ds δ'} R q k=>by
 unfold ae at q;obtain⟨⟨G,δ1⟩,D,q⟩:=Za.mp q;obtain⟨⟨p,o⟩,C,q⟩:=Za.mp q;cases q;refine⟨F,δ,As,G,δ1,R,D,fun v F1 H1 A Q5 j s r=>⟨F1,δ1,Q5,p,o,s,C,fun vs F2 H2 B Q6 f R2 t l=>?_⟩⟩
 exact k (v::vs) F2 H2 (A++B) Q6 (j.seq f fun x m=>(r.dom x m).1) R2 (.cons (f.stays s.domA r j.dj) t rfl) l
def DD(i) (u:PLA X es bs g) (y:NmX X i x:=by kernel_rfl):PLA X (.Name x pos::es) (some i::bs) (ae (aa i) g):=EB (cD (iV y) u rfl) fun{σ H Q F δ As ds δ'} R q k=>by
 unfold ae at q;obtain⟨⟨D,δ1⟩,C,q⟩:=Za.mp q;obtain⟨⟨o,s⟩,z,q⟩:=Za.mp q;cases q;obtain⟨v,A,Q5,h1,j,r,p⟩:=R.take C;refine⟨v,h1,F,δ1,Q5,o,_,r,z,fun vs F2 H2 B Q6 f R2 t l=>?_⟩
 exact k (v::vs) F2 H2 (A++B) Q6 (j.seq f fun x m=>(p.dom x m).1) R2 (.cons (f.stays r.domA p j.dj) t rfl) ⟨h1,l⟩
def GH(i) (l:NmX X i x:=by kernel_rfl):PW X (.Name x pos) (aa i) :=
 dw (iV l) fun{σ H Q F δ As d δ'} R q k=>by obtain⟨v,A,Q5,h1,f,m,j⟩:=R.take q;exact⟨v,h1,k v F H A Q5 f m j⟩
end
abbrev GQ:=List D->Option (D×DS)
def iQ(K:ZB)(n:Nat)(G:GQ):Sp:=fun vs H Q _=>vs.length=n/\∃F ds AA r Q4,RepA K F H (vs.map some) (ds.map some) AA/\G ds=some (r,Q4) /\
 ∀v F' H' AA' A,EvW F H AA F' H' AA' A->RepA K F' H' (vs.map some) Q4 AA'->RepO K F' H' v r A->Q v H'
noncomputable def av(n:Nat):Option RQ->Option (D×DS)
 |some (.rt d δ)=>some (d,δ.take n)
 |some (.nx δ)=>some (.non,δ.take n)
 |_=>none
section
theorem NE{f}{G}(F:Fun K x qual st f fd)(S:iN N ps (aR st))
 (p:∀ Q9 A outer s H E ds r Q4,Room k (A.deeper (envOfC qual (aR st) s.heap.objs.size f Q9))->G ds=some (r,Q4)->ds.length=ps.length ->
  ∃t,(∀Z,(∀i,ps.length<=i->ZO Z i)->PQs (qO CX0 P w K mg base N qual (aR st) f Q9 A outer s H E).nox Z (cE st) t)/\av ps.length (t (Dl.start N.length ds))=some (r,Q4)):i8 P w K mg base CX0 (k+1) f fd ps (iQ K ps.length G):=by
 refine F.ok S (fun vs H Q E h=>h.1) (fun Q9 A outer s H vs Q E V h=>?_)
 obtain⟨y,O,ds,AA,r,Q4,R,e,q⟩:=h;have L:ds.length=vs.length:=by have:=R.len;simpa using this.symm
 obtain⟨t,U,o⟩:=p Q9 A outer s H E ds r Q4 V e (L.trans y);have X:RepA K O H (L2.start N vs) (Dl.start N.length ds) AA:=by unfold L2.start Dl.start;rw[L];exact R.pad _
 have J:∀j,j<ps.length->(L2.start N vs)[j]?=(vs.map some)[j]?:=fun j l=>by unfold L2.start;rw[List.getElem?_append_left (by simpa[y]using l)]
 refine⟨_,U (fun σ=>∀j,j<ps.length->σ[j]?=(L2.start N vs)[j]?) (fun i hi σ v z j l=>by rw[List.getElem?_set_ne (by lia)];exact z j l),O,Dl.start N.length ds,AA,?_⟩
 cases z:t (Dl.start N.length ds)with
 |none=>rw[z]at o;cases o
 |some u =>
  rw[z]at o;refine⟨u,X,fun _ _=>rfl,rfl,?_⟩
  cases u with
  |rt d δ=>cases o;exact fun v B F' H' Q3 A D I C r'=>q v F' H' _ A (D.sub fun i a m=>tI m) (I.cut ps.length (by simpa using y) fun j l=>(C j l).trans (J j l)) r'
  |nx δ=>cases o;exact fun B F' H' Q3 D I C=>q .non F' H' _ [] (D.sub fun i a m=>tI m) (I.cut ps.length (by simpa using y) fun j l=>(C j l).trans (J j l)) (.imm rfl .non)
  |bk δ=>cases o
  |ct δ=>cases o
def HU{q}{f}(F:Fun K x qual st f fd)(S:iN N [q] (aR st))
 (l:∀ Q9 A outer s H E (j:Yh Int),Room k (A.deeper (envOfC qual (aR st) s.heap.objs.size f Q9))->j.length<=63 ->
  ∃t δ,PQs (qO CX0 P w K mg base N qual (aR st) f Q9 A outer s H E).nox (fun _=>True) (cE st) t/\t (Dl.start N.length [.seq (j.map D.int)])=some (.rt (.bl true) δ)):i8 P w K mg base CX0 (k+1) f fd [q] (spLaw K):=by
 refine F.ok S (fun vs H Q E h=>?_) (fun Q9 A outer s H vs Q E r h=>?_)
 . obtain⟨a,j,rfl,_⟩:=h;rfl
 obtain⟨a,j,rfl,z,y,q⟩:=h;obtain⟨t,δ,p,u⟩:=l Q9 A outer s H E j r y;have o:RepO K H H (.ref a) (.seq (j.map D.int)) []:=.shr (.seq z (Reps.ints j));obtain⟨AA,R,_⟩:=(RepOs.cons o .nil rfl:RepOs K H H [.ref a] [.seq (j.map D.int)] []).toA (Same.refl H) Zz;refine⟨_,p,H,Dl.start N.length [.seq (j.map D.int)],AA,_,R.pad (N.length-1),True.intro,u,fun v m F' H' Q3 A C B _ r'=>?_⟩
 cases r'.rep B.fz;exact q H'
end
noncomputable def gu:List (Option Nat)->DS->DS->DS
 |some i::bs,o::Q4,δ=>gu bs Q4 (δ.set i o)
 |none::bs,_::Q4,δ=>gu bs Q4 δ
 |_,_,δ=>δ
theorem nh{F}:∀{bs}{vs}{Q4 δ}{As AA},RepA K F H σ δ As->RepA K F H (vs.map some) Q4 AA->Lk σ bs vs->(∀i j a,a∈As i->a∉AA j) ->
 ∃Q6,RepA K F H σ (gu bs Q4 δ) Q6/\∀i a,a∈Q6 i->(∃j,a∈As j)\/∃j,a∈AA j
 |[],vs,Q4,δ,As,AA,R,Rf,lk,dj=>by
  cases Q4 with
  |nil=>exact⟨As,R,fun i a m=>.inl ⟨i,m⟩⟩
  |cons o Q4=>exact⟨As,R,fun i a m=>.inl ⟨i,m⟩⟩
 | none :: bs,v :: vs,Q4,δ,As,AA,R,Rf,lk,dj=>by
  cases Q4 with
  |nil=>exact⟨As,R,fun i a m=>.inl ⟨i,m⟩⟩
  |cons o Q4 =>
   obtain⟨Q6,R2,h⟩:=nh R Rf.tail lk fun i j a m=>dj i (j+1) a m
   exact⟨Q6,R2,fun i a m=>(h i a m).imp id fun ⟨j,z⟩=>⟨j+1,z⟩⟩
 | some i :: bs,v :: vs,Q4,δ,As,AA,R,Rf,lk,dj=>by
  cases Q4 with
  |nil=>exact⟨As,R,fun i a m=>.inl ⟨i,m⟩⟩
  | cons o Q4 =>
   have hi:i<δ.length:=by rw[<- R.len];exact(ZL.mp lk.1).1
   have p:σ.set i (some v)=σ:=by
    refine List.ext_getElem? fun j=>?_
    rw[List.getElem?_set];split
    . rename_i f;subst f;rw[lk.1,if_pos (by rw[R.len];exact hi)]
    . rfl
   have step:∃Q5,RepA K F H σ (δ.set i o) Q5/\∀j a,a∈Q5 j->a∈As j\/a∈AA 0:=by
    cases o with
    |none =>
     refine⟨_,R.drop i,fun j a m=>?_⟩
     by_cases f:j=i
     . subst f;rw[aA]at m;cases m
     . rw[aB f]at m;exact .inl m
    |some d =>
     obtain⟨q,h1,h2⟩:=Rf.val 0 d rfl;cases h1;have l:=R.set i hi h2 (Rf.nd 0) fun j a _ m=>dj j 0 a m
     rw[p]at l;refine⟨_,l,fun j a m=>?_⟩
     by_cases f:j=i
     . subst f;rw[aA]at m;exact .inr m
     . rw[aB f]at m;exact .inl m
   obtain⟨Q5,l,h1⟩:=step;obtain⟨Q6,R2,h⟩:=nh l Rf.tail lk.2 fun k j a m=>by
    rcases h1 k a m with z|z
    . exact dj k (j+1) a z
    . exact Rf.dj 0 (j+1) a (by lia) z
   refine⟨Q6,R2,fun k a m=>?_⟩
   rcases h k a m with⟨j,z⟩|⟨j,z⟩
   . rcases h1 j a z with y | y
     . exact .inl ⟨j,y⟩
     . exact .inr ⟨0,y⟩
   . exact .inr ⟨j+1,z⟩
 |none::_,[],_,_,_,_,_,_,lk,_=>Zzb lk
 |some _::_,[],_,_,_,_,_,_,lk,_=>Zzb lk
def aj(bs:List (Option Nat))(G:GQ)(g:FMA):FM:=fun δ=>(g δ).bind fun p=>(G p.1).bind fun q=>some (q.1,gu bs q.2 p.2)
def oh{F}{bs}{G}{r}{Q}{E}(p:EvW F H As F1 H1 Q5 A)(o:RepA K F1 H1 σ δ1 Q5)(x:RepOs K F1 H1 vs ds A)(lk:Lk σ bs vs)(D:vs.length=n)(J:G ds=some (r,Q4))
 (k:∀v F' H' A Q3,EvW F H As F' H' Q3 A->RepA K F' H' σ (gu bs Q4 δ1) Q3->RepO K F' H' v r A->Q v H'):iQ K n G vs H1 Q E:=by
 obtain⟨AA,s,sub⟩:=x.toA o.fz p.nd;refine⟨D,F1,ds,AA,r,Q4,s,J,fun v F2 H2 AA2 B f l t=>?_⟩
 have q:∀i j a,a∈Q5 i->a∉AA j:=fun i j a m z=>p.dj i a m (sub j a z)
 have R2:=o.beside f s.domA l.fz q;obtain⟨X4,L,I⟩:=nh R2 l lk fun i j a m z=>by
  rcases f.fa j a z with⟨C,y⟩|y
  . exact q i C a m y
  . obtain⟨⟨u,e⟩,_⟩:=o.dom m;rw[y]at e;cases e
 exact k v F2 H2 B X4 (p.call f sub o.domA I) L t
class ym(P:Program)(w:World)(K:ZB)(mg:Str->Option Value)(base:Heap)(k:outParam Nat)(x:outParam Str)(ps:outParam (List Str))(G:GQ):Prop where
 ex:∃f fd,i8 P w K mg base CX0 k f fd ps (iQ K ps.length G)/\mg x=some (.ref f)/\W.keepIn K (.ref f)=true/\Binds K fd ps []
section
variable {g:FMA} {bs:Yh (Yg Nat)} {pos:Pos} {G:GQ}
def C0(F:ym X.prog X.w X.K X.mg X.base k x ps G)(u:Room j X.A)(D:PLA X (e::es) bs g)(hk:k<=j:=by decide)(z:Gl X x:=by rfl)(v:bs.length=ps.length:=by kernel_rfl)(m:NbX x:=by kernel_rfl)
 (B:PlX X e es:=by rfl) (l:BkX X pos es:=by rfl):PW X (.Call (.Name x p) (e::es) [] pos) (aj bs G g):=by
 obtain⟨f,fd,F,y,t,C⟩:=F.ex;refine dw (mM F (u.mono hk) z y t C .nil jL D m B l) fun{σ H Q O δ As d δ'} R q k=>?_
 unfold aj at q;obtain⟨⟨ds,δ1⟩,o,q⟩:=Za.mp q;obtain⟨⟨r,Q4⟩,J,q⟩:=Za.mp q;cases q;refine⟨O,δ,As,ds,δ1,R,o,fun vs F1 H1 A Q5 I L s lk=>?_⟩
 show iQ X.K ps.length G (vs++[]) H1 Q E0;rw[Zk];exact oh I L s lk ((qt lk).trans v) J k
def aU(G:GQ)(g:FA):FD:=fun δ=>(g δ).bind fun ds=>(G (shs ds)).bind fun q=>some q.1
def nV{r}{Q}{E}(j:Same H H1)(m:Reps K H1 vs ds)(o:vs.length=n)(q:G (shs ds)=some (r,Q4))(k:∀v H',Same H H'->Rep K H' v r->Q v H'):iQ K n G vs H1 Q E:=by obtain⟨AA,s,_⟩:=(RepOs.of_sh (Same.refl H1) m).toA (Same.refl H1) Zz;exact⟨o,H1,shs ds,AA,r,Q4,s,q,fun v F' H' t A p f l=>k v H' (j.trans (p.fs.trans f.fz)) (l.rep f.fz)⟩
def DT(F:ym X.prog X.w X.K X.mg X.base k x ps G)(y:Room j X.A)(J:PAD X (e::es) ga)(hk:k<=j:=by decide)(C:Gl X x:=by rfl)(z:(e::es).length=ps.length:=by kernel_rfl)(o:NbX x:=by kernel_rfl)
 (D:PlX X e es:=by rfl) (m:BkX X pos es:=by rfl):PD X (.Call (.Name x p) (e::es) [] pos) (aU G ga):=by
 obtain⟨f,fd,F,B,v,I⟩:=F.ex;refine gj (mM F (y.mono hk) C B v I .nil jL J o D m) fun{σ H Q δ d} R q k=>?_
 unfold aU at q;obtain⟨ds,s,q⟩:=Za.mp q;obtain⟨⟨r,Q4⟩,L,q⟩:=Za.mp q;cases q;refine⟨δ,ds,R,s,fun vs H1 t u l=>?_⟩
 show iQ X.K ps.length G (vs++[]) H1 Q E0;rw[Zk];exact nV t u (l.trans z) L k
end
inductive AK where
 |val
 |lent (i:Nat)
 |view (i:Nat)
def LkV(σ:L2.St):List AK->List V->Prop
 |[],[]=>True
 |.val::bs,_::vs=>LkV σ bs vs
 |.lent i::bs,v::vs=>σ[i]?=some (some v)/\LkV σ bs vs
 |.view i::bs,v::vs=>σ[i]?=some (some v)/\LkV σ bs vs
 |_,_=>False
noncomputable def uQ:List AK->List V->List V
 |.view _::bs,_::vs=>uQ bs vs
 |_::bs,v::vs=>v::uQ bs vs
 |_,_=>[]
noncomputable def im:List AK->DS->List D->Option (List D)
 |[],_,[]=>some []
 |.view i::bs,δ,ds=>match δ[i]? with
  |some (some d)=>(im bs δ ds).map (sh d::·)
  |_=>none
 |.val::bs,δ,d::ds=>(im bs δ ds).map (d::·)
 |.lent _::bs,δ,d::ds=>(im bs δ ds).map (d::·)
 |_,_,_=>none
def tZ:Option D->Bool
 |some d=>own d
 |none=>true
noncomputable def hX:List AK->DS->DS->Option DS
 |.lent i::bs,o::Q4,δ=>if tZ o then hX bs Q4 (δ.set i o)else none
 |.val::bs,_::Q4,δ=>hX bs Q4 δ
 |.view _::bs,_::Q4,δ=>hX bs Q4 δ
 |_,_,δ=>some δ
noncomputable def ip:List AK->List Nat
 |[]=>[]
 |.view i::bs=>i::ip bs
 |_::bs=>ip bs
noncomputable def jM:List AK->List Nat
 |[]=>[]
 |.lent i::bs=>i::jM bs
 |_::bs=>jM bs
noncomputable def jO(As:Nat->List Addr):List Nat->List Addr
 |[]=>[]
 |i::is=>As i++jO As is
theorem nU{a}:∀{is},a∈jO As is->∃i∈is,a∈As i
 |i::is,m=>by
  rcases Zt.mp (m)with z|z
  . exact⟨i,Zp,z⟩
  . obtain⟨j,h1,h2⟩:=nU z;exact⟨j,Zq _ h1,h2⟩
theorem tJ{a}:∀{is},i∈is->a∈As i->a∈jO As is
 |j::is,m,h=>by
  rcases Zu.mp m with z|z
  . subst z;exact ZF _ h
  . exact ZE _ (tJ z h)
theorem mR:∀{bs}{vs},LkV σ bs vs->vs.length=bs.length
 |[],[],_=>rfl
 |.val::_,_::_,h=>congrArg (· + 1) (mR (h))
 |.lent _::_,_::_,h=>congrArg (· + 1) (mR h.2)
 |.view _::_,_::_,h=>congrArg (· + 1) (mR h.2)
 |[],_::_,h=>Zzb h
 |.val::_,[],h=>Zzb h
 |.lent _::_,[],h=>Zzb h
 |.view _::_,[],h=>Zzb h
def Oo(K:ZB)(bs:List AK)(f:FMA):TA:=fun σ H Q=>∃F δ As ds δ',RepA K F H σ δ As/\f δ=some (ds,δ')/\∀vs F' H' A Q3,EvW F H As F' H' Q3 A->RepA K F' H' σ δ' Q3->RepOs K F' H' (uQ bs vs) ds A->LkV σ bs vs->Q vs H'
def PLV(X:Cx)(es:List Expr)(bs:List AK)(f:FMA):Prop:=PA X es (Oo X.K bs f)
def zj{t}{bs}{f}(h:PA X es t)(w:∀{σ H Q F δ As ds δ'},RepA X.K F H σ δ As->f δ=some (ds,δ')->(∀vs F' H' A Q3,EvW F H As F' H' Q3 A->RepA X.K F' H' σ δ' Q3->RepOs X.K F' H' (uQ bs vs) ds A->LkV σ bs vs->Q vs H')->t σ H Q):PLV X es bs f:=EC h fun _ _ _ h=>h.elim fun _ h=>h.elim fun _ h=>h.elim fun _ h=>h.elim fun _ h=>h.elim fun _ h=>w h.1 h.2.1 h.2.2
section
variable {g:FMA} {bs:Yh AK} {pos:Pos}
def Ha:PLV X [] [] am:=zj gh fun{σ H Q F δ As ds δ'} R q k=>by cases q;exact k [] F H [] As EvW.refl R .nil True.intro
def Dx(z:PW X e fm)(y:PLV X es bs g)(u:PlX X e es:=by rfl):PLV X (e::es) (.val::bs) (ae fm g):=zj (cD z y u) fun{σ H Q F δ As ds δ'} R q k=>by
 unfold ae at q;obtain⟨⟨G,δ1⟩,D,q⟩:=Za.mp q;obtain⟨⟨p,o⟩,C,q⟩:=Za.mp q;cases q;refine⟨F,δ,As,G,δ1,R,D,fun v F1 H1 A Q5 j s r=>⟨F1,δ1,Q5,p,o,s,C,fun vs F2 H2 B Q6 f R2 t l=>?_⟩⟩
 exact k (v::vs) F2 H2 (A++B) Q6 (j.seq f fun x m=>(r.dom x m).1) R2 (.cons (f.stays s.domA r j.dj) t rfl) l
def Dw(i) (u:PLV X es bs g) (y:NmX X i x:=by kernel_rfl):PLV X (.Name x pos::es) (.lent i::bs) (ae (aa i) g):=zj (cD (iV y) u rfl) fun{σ H Q F δ As ds δ'} R q k=>by
 unfold ae at q;obtain⟨⟨D,δ1⟩,C,q⟩:=Za.mp q;obtain⟨⟨o,s⟩,z,q⟩:=Za.mp q;cases q;obtain⟨v,A,Q5,h1,j,r,p⟩:=R.take C;refine⟨v,h1,F,δ1,Q5,o,_,r,z,fun vs F2 H2 B Q6 f R2 t l=>?_⟩
 exact k (v::vs) F2 H2 (A++B) Q6 (j.seq f fun x m=>(p.dom x m).1) R2 (.cons (f.stays r.domA p j.dj) t rfl) ⟨h1,l⟩
noncomputable def cR(i:Nat)(g:FMA):FMA:=fun δ=>match δ[i]? with
 |some (some _)=>g δ
 |_=>none
def Dv(i) (m:PLV X es bs g) (o:NmX X i x:=by kernel_rfl):PLV X (.Name x pos::es) (.view i::bs) (cR i g):=zj (cD (iV o) m rfl) fun{σ H Q F δ As ds δ'} R q k=>by
 unfold cR at q;split at q
 . rename_i p h;obtain⟨v,h1,h2⟩:=R.val i _ h;exact⟨v,h1,F,δ,As,ds,δ',R,q,fun vs F2 H2 B Q6 f R2 j l=>k (v::vs) F2 H2 B Q6 f R2 j ⟨h1,l⟩⟩
 . cases q
end
theorem mv{F FC}(R:RepA K F H σ δ As)(f:Same F FC)(p:Same FC H)(s:dQ H FC):∀{bs}{vs}{ds es}{A},(∀i∈ip bs,∀a u,a∈As i->H a=some u->FC a=some u)->RepOs K F H (uQ bs vs) ds A->(∀a∈A,FC a=none)->LkV σ bs vs->im bs δ ds=some es->RepOs K FC H vs es A
 |[],[],[],es,A,hv,r,n,lk,e=>by cases e;cases r;exact .nil
 |.view i::bs,v::vs,ds,es,A,hv,r,n,lk,e=>by
  unfold im at e;split at e
  . rename_i d y;obtain ⟨l,o,rfl⟩:=Zb.mp e;obtain ⟨B,h1,h2⟩:=R.val i _ y;rw [lk.1] at h1;cases h1;have z:=h2.freeze f s fun a u m q=>hv i (by rw [ip];exact Zp) a u m q
    have z2:=RepO.of_sh p z;rw[yx d]at z2;exact .cons z2 (mv R f p s (fun j m=>hv j (by rw[ip];exact Zq _ m)) r n lk.2 o) rfl
  . cases e
 |.val::bs,v::vs,d::ds,es,A,hv,r,n,lk,e=>by
  obtain⟨l,o,rfl⟩:=Zb.mp (e);cases r with
  |cons r t x =>subst x;exact .cons (r.froz f fun a m=>n a (ZF _ m)) (mv (bs:=bs) R f p s hv t (fun a m=>n a (ZE _ m)) lk o) rfl
 |.lent i::bs,v::vs,d::ds,es,A,hv,r,n,lk,e=>by
  obtain⟨l,o,rfl⟩:=Zb.mp (e);cases r with
  |cons r t x =>subst x;exact .cons (r.froz f fun a m=>n a (ZF _ m)) (mv (bs:=bs) R f p s hv t (fun a m=>n a (ZE _ m)) lk.2 o) rfl
 |[],_::_,_,_,_,_,_,_,lk,_=>Zzb lk
 |.val::_,[],_,_,_,_,_,_,lk,_=>Zzb lk
 |.lent _::_,[],_,_,_,_,_,_,lk,_=>Zzb lk
 |.view _::_,[],_,_,_,_,_,_,lk,_=>Zzb lk
 |[],[],_::_,_,_,_,_,_,_,e=>by cases e
 |.val::_,_::_,[],_,_,_,_,_,_,e=>by cases e
 |.lent _::_,_::_,[],_,_,_,_,_,_,e=>by cases e
theorem nj {F} (s:Same F F2):∀ {bs} {vs} {Q4 δ δ3} {As AA},RepA K F H σ δ As->RepA K F2 H (vs.map some) Q4 AA->LkV σ bs vs->(∀ i j a,a∈As i->a ∉ AA j)->hX bs Q4 δ=some δ3 ->
 ∃Q6,RepA K F H σ δ3 Q6/\(∀i a,a∈Q6 i->(∃j,a∈As j)\/∃j,a∈AA j)/\(∀i,i∉jM bs->Q6 i=As i)/\∀i,i∉jM bs->δ3[i]?=δ[i]?
 |[],vs,Q4,δ,δ3,As,AA,R,Rf,lk,dj,e=>by cases Q4<;>(cases e;exact⟨As,R,fun i a m=>.inl ⟨i,m⟩,fun _ _=>rfl,fun _ _=>rfl⟩)
 |.val::bs,v::vs,[],δ,δ3,As,AA,R,Rf,lk,dj,e=>by cases e;exact⟨As,R,fun i a m=>.inl ⟨i,m⟩,fun _ _=>rfl,fun _ _=>rfl⟩
 |.view _::bs,v::vs,[],δ,δ3,As,AA,R,Rf,lk,dj,e=>by cases e;exact⟨As,R,fun i a m=>.inl ⟨i,m⟩,fun _ _=>rfl,fun _ _=>rfl⟩
 |.lent _::bs,v::vs,[],δ,δ3,As,AA,R,Rf,lk,dj,e=>by cases e;exact⟨As,R,fun i a m=>.inl ⟨i,m⟩,fun _ _=>rfl,fun _ _=>rfl⟩
 |.val::bs,v::vs,o::Q4,δ,δ3,As,AA,R,Rf,lk,dj,e=>by
  obtain⟨Q6,R2,h,p,l⟩:=nj s R Rf.tail lk (fun i j a m=>dj i (j+1) a m) e
  exact⟨Q6,R2,fun i a m=>(h i a m).imp id fun ⟨j,z⟩=>⟨j+1,z⟩,p,l⟩
 |.view _::bs,v::vs,o::Q4,δ,δ3,As,AA,R,Rf,lk,dj,e=>by
  obtain⟨Q6,R2,h,p,l⟩:=nj s R Rf.tail lk.2 (fun i j a m=>dj i (j+1) a m) e
  exact⟨Q6,R2,fun i a m=>(h i a m).imp id fun ⟨j,z⟩=>⟨j+1,z⟩,p,l⟩
 |.lent i::bs,v::vs,o::Q4,δ,δ3,As,AA,R,Rf,lk,dj,e=>by
  by_cases t:tZ o=true
  . rw [hX,if_pos t] at e;have hi:i < δ.length:=by rw [<- R.len];exact (ZL.mp lk.1).1
    have r:σ.set i (some v)=σ:=by
     refine List.ext_getElem? fun j=>?_
     rw[List.getElem?_set];split
     . rename_i f;subst f;rw[lk.1,if_pos (by rw[R.len];exact hi)]
     . rfl
    have step:∃Q5,RepA K F H σ (δ.set i o) Q5/\(∀j a,a∈Q5 j->a∈As j\/a∈AA 0)/\∀j,j≠i->Q5 j=As j:=by
     cases o with
     |none =>
      refine⟨_,R.drop i,fun j a m=>?_,fun j f=>aB f⟩
      by_cases f:j=i
      . subst f;rw[aA]at m;cases m
      . rw[aB f]at m;exact .inl m
     |some d =>
      obtain⟨x,h1,h2⟩:=Rf.val 0 d rfl;cases h1;have q:=R.set i hi (h2.thaw s t) (Rf.nd 0) fun j a _ m=>dj j 0 a m
      rw[r]at q;refine⟨_,q,fun j a m=>?_,fun j f=>aB f⟩
      by_cases f:j=i
      . subst f;rw[aA]at m;exact .inr m
      . rw[aB f]at m;exact .inl m
    obtain⟨Q5,q,h1,u⟩:=step;obtain⟨Q6,R2,h,p,l⟩:=nj s q Rf.tail lk.2 (fun k j a m=>by
     rcases h1 k a m with z|z
     . exact dj k (j+1) a z
     . exact Rf.dj 0 (j+1) a (by lia) z) e
    refine⟨Q6,R2,fun k a m=>?_,fun j f=>?_,fun j f=>?_⟩
    . rcases h k a m with ⟨j,z⟩ | ⟨j,z⟩
      . rcases h1 j a z with y | y
        . exact .inl ⟨j,y⟩
        . exact .inr ⟨0,y⟩
      . exact .inr ⟨j+1,z⟩
    . rw [jM] at f;have:j ≠ i/\j ∉ jM bs:=⟨fun z=>f (z ▸ Zp),fun z=>f (Zq _ z)⟩
      rw[p j this.2,u j this.1]
    . rw [jM] at f;have:j ≠ i/\j ∉ jM bs:=⟨fun z=>f (z ▸ Zp),fun z=>f (Zq _ z)⟩
      rw[l j this.2,List.getElem?_set_ne (Ne.symm this.1)]
  . rw[hX,if_neg t]at e;cases e
 |.val::_,[],_,_,_,_,_,_,_,lk,_,_=>Zzb lk
 |.lent _::_,[],_,_,_,_,_,_,_,lk,_,_=>Zzb lk
 |.view _::_,[],_,_,_,_,_,_,_,lk,_,_=>Zzb lk
def b8(bs:List AK)(G:GQ)(g:FMA):FM:=fun δ=>(g δ).bind fun p=>(im bs p.2 p.1).bind fun ds=>(G ds).bind fun q=>if own q.1 then(hX bs q.2 p.2).bind fun δ2=>some (q.1,δ2)else none
def qW{F}{δ2}{bs}{es}{G}{r}{Q}{E}(l:EvW F H As F1 H1 Q5 A)(o:RepA K F1 H1 σ δ1 Q5)(S:RepOs K F1 H1 (uQ bs vs) ds A)(lk:LkV σ bs vs)(hn:vs.length=n)
 (ew:im bs δ1 ds=some es) (eG:G es=some (r,Q4)) (ho:own r=true) (eb:hX bs Q4 δ1=some δ2) (k:∀v F' H' A Q3,EvW F H As F' H' Q3 A->RepA K F' H' σ δ2 Q3->RepO K F' H' v r A->(∀i,i∉jM bs->Q3 i=Q5 i/\δ2[i]?=δ1[i]?/\∀a∈Q5 i,H' a=H1 a)->Q v H'):iQ K n G vs H1 Q E:=by
 have O:=mW (A:=jO Q5 (ip bs)) o.fz;have L:Same (frz F1 H1 (jO Q5 (ip bs))) H1:=uf;have dA:∀a∈A,frz F1 H1 (jO Q5 (ip bs)) a=none:=fun a m=>by
  obtain⟨⟨u,e⟩,n⟩:=S.dom a m;refine gH e n fun z=>?_
  obtain⟨i,_,y⟩:=nU z;exact l.dj i a y m
 have C:=mv o O L mX (fun i m a u ma e=>pq e (tJ m ma)) S dA lk ew
 obtain⟨AA,X,sub⟩:=C.toA L l.nd;refine⟨hn,_,es,AA,r,Q4,X,eG,fun v F2 H2 AA2 B f s Z=>?_⟩
 have t:∀i j a,a∈Q5 i->a∉AA j:=fun i j a m z=>l.dj i a m (sub j a z)
 have p:∀a,(∃j,a∈AA j)\/H1 a=none->∀i,a∉Q5 i:=fun a h i m=>by
  rcases h with⟨j,z⟩|z
  . exact t i j a m z
  . obtain⟨⟨u,e⟩,_⟩:=o.dom m;rw[z]at e;cases e
 have I:∀i j a,a∈Q5 i->a∉AA2 j:=fun i j a m z=>p a (f.fa j a z) i m
 have x:Same (wp F2 (jO Q5 (ip bs))) F2:=II;have J:Same F1 (wp F2 (jO Q5 (ip bs))):=fun a u e=>by
  rw[uA fun m=>?_]
  . exact f.fs a u (O a u e)
  . obtain⟨i,_,y⟩:=nU m;rw[(o.dom y).2]at e;cases e
 have nB:∀i a,a∈Q5 i->wp F2 (jO Q5 (ip bs)) a=none:=fun i a m=>by
  by_cases h:a∈jO Q5 (ip bs)
  . exact wo h
  . rw[uA h];obtain⟨⟨u,e⟩,n⟩:=o.dom m;exact f.nf a u e (gH e n h) fun j=>t i j a m
 have kI:=f.ki X.domA;have R2:RepA K (wp F2 (jO Q5 (ip bs))) H2 σ δ1 Q5:=⟨x.trans s.fz,o.len,fun i d q=>by
  obtain⟨Y,h1,h2⟩:=o.val i d q;refine⟨Y,h1,(h2.frame kI fun a m=>?_).froz J (nB i)⟩
  obtain⟨⟨u,e⟩,_⟩:=h2.dom a m;rw[e];exact f.ks a _ e fun j=>t i j a m,o.non,o.nd,o.dj⟩
 obtain⟨X4,R3,V,h4,h5⟩:=nj x R2 s lk I eb;refine k v _ H2 B X4 ?_ R3 (Z.thaw x ho) fun i hi=>⟨h4 i hi,h5 i hi,fun a m=>?_⟩
 rotate_left
 . obtain⟨⟨u,e⟩,_⟩:=o.dom m;rw[e];exact f.ks a _ e fun j=>t i j a m
 have U:∀a u,H a=some u->(∀i,a∉As i)->∀j,a∉AA j:=fun a u h n j m=>by
  rcases l.fA a (sub j a m)with⟨i,z⟩|z
  . exact n i z
  . rw[h]at z;cases z
 have old:∀a,(∃j,a∈AA j)\/H1 a=none->(∃j,a∈As j)\/H a=none:=fun a h=>by
  rcases h with⟨j,z⟩|z
  . exact l.fA a (sub j a z)
  . exact l.old z
 refine⟨l.fs.trans J,fun a u h n=>f.ks a u (l.ks a u h n) (U a u h n),fun a u h n m=>?_,fun i a m=>?_,fun a m=>old a (f.fA a m),f.nd,fun i a m z=>?_⟩
 . by_cases D:a∈jO Q5 (ip bs)
   . exact wo D
   . rw[uA D];exact f.nf a u (l.ks a _ h m) (gH (l.ks a _ h m) (l.nf a u h n m) D) (U a _ h m)
 . rcases V i a m with ⟨j,y⟩ | ⟨j,y⟩
   . exact l.fa j a y
   . exact old a (f.fa j a y)
 . rcases V i a m with ⟨j,y⟩ | ⟨j,y⟩
   . exact p a (f.fA a z) j y
   . exact f.dj j a y z
section
variable {g:FMA} {bs:Yh AK} {pos:Pos} {G:GQ}
def CZ(F:ym X.prog X.w X.K X.mg X.base k x ps G)(y:Room j X.A)(L:PLV X (e::es) bs g)(hk:k<=j:=by decide)(D:Gl X x:=by rfl)(B:bs.length=ps.length:=by kernel_rfl)(m:NbX x:=by kernel_rfl)
 (I:PlX X e es:=by rfl) (l:BkX X pos es:=by rfl):PW X (.Call (.Name x p) (e::es) [] pos) (b8 bs G g):=by
 obtain⟨f,fd,F,C,u,J⟩:=F.ex;refine dw (mM F (y.mono hk) D C u J .nil jL L m I l) fun{σ H Q F0 δ As d δ'} R q k=>?_
 unfold b8 at q;obtain⟨⟨ds,δ1⟩,o,q⟩:=Za.mp q;obtain⟨Y,O,q⟩:=Za.mp q;obtain⟨⟨r,Q4⟩,V,q⟩:=Za.mp q;split at q
 . rename_i z;obtain ⟨s,U,q⟩:=Za.mp q;cases q;refine ⟨F0,δ,As,ds,δ1,R,o,fun vs F1 H1 A Q5 S Z t lk=>?_⟩
   show iQ X.K ps.length G (vs++[]) H1 Q E0;rw[Zk];exact qW S Z t lk ((mR lk).trans B) O V z U fun v F' H' A Q3 e R r _=>k v F' H' A Q3 e R r
 . cases q
end
noncomputable def atP:D->List Nat->Option D
 |d,[]=>some d
 |.lst ds,k::p=>(ds[k]?).bind fun c=>atP c p
 |.oo _ _ ds,k::p=>(ds[k]?).bind fun c=>atP c p
 |_,_=>none
noncomputable def cL:D->List Nat->D->D
 |_,[],c=>c
 |.lst ds,k::p,c=>match ds[k]? with
  |some e=>.lst (ds.set k (cL e p c))
  |none=>.lst ds
 |.oo C xs ds,k::p,c=>match ds[k]? with
  |some e=>.oo C xs (ds.set k (cL e p c))
  |none=>.oo C xs ds
 |d,_,_=>d
inductive Pth(H:Hp):V->List Nat->V->Prop
 |nil (v:V):Pth H v [] v
 |lst {a:Addr} {vs:List V} {k:Nat} {u w:V} {p:List Nat} (h:H a=some (.lst vs)) (hk:vs[k]?=some u) (t:Pth H u p w):Pth H (.ref a) (k::p) w
 |oo {a C dx:Addr} {fs:List (Str×V)} {k:Nat} {f:Str} {u w:V} {p:List Nat} (h:H a=some (.ins C dx fs)) (hk:fs[k]?=some (f,u)) (t:Pth H u p w):Pth H (.ref a) (k::p) w
def Pth.det{v w w'}{p:Yh Nat}(r:Pth H v p w)(q:Pth H v p w'):w=w':=by
 induction r with
 |nil=>cases q;rfl
 |lst h hk _ j =>
  cases q with
  |lst g f t=>rw[h]at g;cases g;rw[hk]at f;cases f;exact j t
  |oo g=>rw[h]at g;cases g
 |oo h hk _ j =>
  cases q with
  |oo g f t=>rw[h]at g;cases g;rw[hk]at f;cases f;exact j t
  |lst g=>rw[h]at g;cases g
def Pth.mono(s:Same H H'){v w}{p}(r:Pth H v p w):Pth H' v p w:=by
 induction r with
 |nil v=>exact .nil v
 |lst h hk _ f=>exact .lst (s _ _ h) hk f
 |oo h hk _ f=>exact .oo (s _ _ h) hk f
theorem Pth.split:∀{p:Yh Nat}{v w:V},Pth H v (p++[k]) w->∃u,Pth H v p u/\Pth H u [k] w
 |[],v,w,h=>⟨v,.nil v,h⟩
 |_::p,_,w,h=>by
  cases h with
  |lst h hk t=>obtain⟨u,a,b⟩:=Pth.split t;exact⟨u,.lst h hk a,b⟩
  |oo h hk t=>obtain⟨u,a,b⟩:=Pth.split t;exact⟨u,.oo h hk a,b⟩
section
variable {F:Hp} 
def RepO.oo_inv{xs}{v:V}{d:D}(r:RepO K F H v d A)(e:d=.oo C xs ds):∃a dx vs f,v=.ref a/\A=a::f/\H a=some (.ins C dx (xs.zip vs))/\F a=none/\xs.length=ds.length/\RepOs K F H vs ds f:=by
 cases r with
 |imm i=>rw[e,Dl.imm]at i;cases i
 |oo h n l r=>cases e;exact⟨_,_,_,_,rfl,rfl,h,n,l,r⟩
 |_=>cases e
def mH{α:Type}{l:Yh α}{x}(h:l[i]?=some x):l.set i x=l:=by
 refine List.ext_getElem? fun j=>?_
 rw[List.getElem?_set];split
 . rename_i f;subst f;rw[h,if_pos (ZL.mp h).1]
 . rfl
def RepO.pickP{p:Yh Nat}{v:V}{d c:D}{A:Yh Ye}(r:RepO K F H v d A)(e:atP d p=some c):∃w j B o,Pth H v p w/\RepO K F H w c B/\A=j++(B++o)/\(∀H',(∀a∈j,H' a=H a)->Pth H' v p w) /\
 ∀{H'}{c'}{B'},dQ H H'->(∀a,a∈j\/a∈o->H' a=H a)->RepO K F H' w c' B'->RepO K F H' v (cL d p c') (j++(B'++o)):=by
 induction p generalizing v d c A with
 |nil =>
  have I:d=c:=by unfold atP at e;exact ZH e
  subst I;refine⟨v,[],A,[],.nil v,r,by simp,fun _ _=>.nil v,fun k h r'=>?_⟩
  unfold cL;simpa using r'
 | cons k p Z =>
  cases d with
  |lst ds =>
   obtain⟨c0,hk,I⟩:=Za.mp (e);obtain⟨a,vs,A0,rfl,rfl,h,n,L⟩:=r.lst_inv rfl;obtain⟨u,j,B0,o,z,S,rfl,O⟩:=L.pick hk;obtain⟨w,y,B,t,pt,q,rfl,st,s⟩:=Z S I;refine⟨w,a::(j++y),B,t++o,.lst h z pt,q,by simp,fun H' f=>?_,fun{H' c' B'} G f Q=>?_⟩
   . exact .lst ((f a Zp).trans h) z (st H' fun x m=>f x (Zq _ (ZE _ m)))
   . have Y:=s G (fun x m=>f x (m.imp (fun m=>Zq _ (ZE _ m)) fun m=>ZF _ m)) Q
     have J:=O G (fun x m=>f x (m.imp (fun m=>Zq _ (ZF _ m)) fun m=>ZE _ m)) Y
     rw[mH z]at J;have X:=RepO.lst ((f a (.inl Zp)).trans h) n J;rw[cL,hk];have U:a::(j++(y++(B'++t)++o))=a::(j++y)++(B'++(t++o)):=by simp
     rw[<- U];exact X
  |oo C xs ds =>
   obtain⟨c0,hk,I⟩:=Za.mp (e);obtain⟨a,dx,vs,A0,rfl,rfl,h,n,l,L⟩:=r.oo_inv rfl;obtain⟨u,j,B0,o,z,S,rfl,O⟩:=L.pick hk;obtain⟨w,y,B,t,pt,q,rfl,st,s⟩:=Z S I;have kl:k<xs.length:=by rw[l];exact(ZL.mp hk).1
   have hz:(xs.zip vs)[k]?=some (xs[k],u):=by rw[List.getElem?_zip_eq_some];exact⟨Zy kl,z⟩
   refine⟨w,a::(j++y),B,t++o,.oo h hz pt,q,by simp,fun H' f=>?_,fun{H' c' B'} G f Q=>?_⟩
   . exact .oo ((f a Zp).trans h) hz (st H' fun x m=>f x (Zq _ (ZE _ m)))
   . have Y:=s G (fun x m=>f x (m.imp (fun m=>Zq _ (ZE _ m)) fun m=>ZF _ m)) Q
     have J:=O G (fun x m=>f x (m.imp (fun m=>Zq _ (ZF _ m)) fun m=>ZE _ m)) Y
     rw[mH z]at J;have X:=RepO.oo ((f a (.inl Zp)).trans h) n (by rw[List.length_set];exact l) J
     rw[cL,hk];have U:a::(j++(y++(B'++t)++o))=a::(j++y)++(B'++(t++o)):=by simp
     rw[<- U];exact X
  |_=>cases e
def RepA.writeP{p}{d c c'}{l}{B' V':Yh Ye}{o}(R:RepA K F H σ δ As)(X:δ[i]?=some (some d))(C:σ[i]?=some (some v))(hp:Pth H v p (.ref l))(hc:atP d p=some c)(hn:noo c=false)(L:∀{B},l∉V'->(∀a∈V',a∉B)->RepO K F H (.ref l) c B->B.Nodup->∃B',RepO K F (upd H l o) (.ref l) c' B'/\B'.Nodup/\∀a∈B',a∈B\/a∈V')(s:∀j a,a∈As j->a∉V')
 (root:∀{B},RepO K F H (.ref l) c B->l∈B):∃Q6,RepA K F (upd H l o) σ (δ.set i (some (cL d p c'))) Q6/\l∈As i/\∀j a,a∈Q6 j->(∃k,a∈As k)\/a∈V':=by
 obtain⟨v',h1,r⟩:=R.val i d X;rw[C]at h1;cases h1;obtain⟨w,A1,B,A2,pt,S,J,_,Z⟩:=r.pickP hc;obtain rfl:=pt.det hp;have U:=R.nd i;rw[J]at U;have n1:=Z2.mp U;have n2:=Z2.mp n1.2.1;have Q:=root S;have G:l∈As i:=by rw[J];exact ZE _ (ZF _ Q)
 obtain⟨⟨u,hu⟩,nF⟩:=R.dom G;have V:dQ H (upd H l o):=nY hu u.2;obtain⟨B',rB,O,q⟩:=L (fun z=>s i l G z) (fun a m z=>s i a (by rw[J];exact ZE _ (ZF _ z)) m) S n2.1
 have Y:=Z V (fun a m=>aF fun z=>by
  subst z;rcases m with m|m
  . exact n1.2.2 a m a (ZF _ Q) rfl
  . exact n2.2.2 a Q a m rfl) rB
 have hi:=(ZL.mp X).1;have f:∀a,a∈A1\/a∈B\/a∈A2->a∈As i:=fun a m=>by
  rw[J];rcases m with m|m|m
  . exact ZF _ m
  . exact ZE _ (ZF _ m)
  . exact ZE _ (ZE _ m)
 refine⟨_,R.write hi C V (Cq R.fz nF) (fun j a t m=>aF fun z=>R.dj j i a t m (z▸G)) Y ?_ fun j a t m z=>?_,G,fun j a m=>?_⟩
 . refine Z2.mpr ⟨n1.1,Z2.mpr ⟨O,n2.2.1,fun x D y I e=>?_⟩,fun x D y I e=>?_⟩
   . subst e;rcases q x D with z | z
     . exact n2.2.2 x z x I rfl
     . exact s i x (f x (.inr (.inr I))) z
   . subst e;rcases Zt.mp I with z | z
     . rcases q x z with z | z
       . exact n1.2.2 x D x (ZF _ z) rfl
       . exact s i x (f x (.inl D)) z
     . exact n1.2.2 x D x (ZE _ z) rfl
 . rcases Zt.mp z with z | z
   . exact R.dj j i a t m (f a (.inl z))
   . rcases Zt.mp z with z | z
     . rcases q a z with z | z
       . exact R.dj j i a t m (f a (.inr (.inl z)))
       . exact s j a m z
     . exact R.dj j i a t m (f a (.inr (.inr z)))
 . by_cases t:j=i
   . subst t;rw [aA] at m;rcases Zt.mp m with z | z
     . exact .inl ⟨j,f a (.inl z)⟩
     . rcases Zt.mp z with z | z
       . rcases q a z with z | z
         . exact .inl ⟨j,f a (.inr (.inl z))⟩
         . exact .inr z
       . exact .inl ⟨j,f a (.inr (.inr z))⟩
   . rw[aB t]at m;exact .inl ⟨j,m⟩
def EvW.wrote{l}{o}(f:EvW F H As F1 H1 Q5 A)(m:l∈Q5 i)(h:∀j a,a∈Q6 j->(∃k,a∈Q5 k)\/a∈A):EvW F H As F1 (upd H1 l o) Q6 []:=by
 have e:=f.keep h;refine⟨e.fs,fun a u q n=>?_,e.nf,e.fa,e.fA,e.nd,e.dj⟩
 rw[aF fun z=>?_]
 . exact e.ks a u q n
 . subst z;rcases f.fa i a m with ⟨j,y⟩ | y
   . exact n j y
   . rw[q]at y;cases y
end
abbrev PF:=DS->Option (List Nat)
def tPl(K:ZB)(i:Nat)(s:PF):TE:=fun σ H Q=>∃F δ As p v w,RepA K F H σ δ As/\s δ=some p/\σ[i]?=some (some v)/\Pth H v p w/\∀H',Same H H'->Q w H'
def PPl(X:Cx)(e:Expr)(i:Nat)(s:PF):Prop:=PE X e (tPl X.K i s)
def Ez{t}{f:PF}(h:PE X e t)(w:∀{σ H Q F δ As p v w},RepA X.K F H σ δ As->f δ=some p->σ[i]?=some (some v)->Pth H v p w->(∀H',Same H H'->Q w H')->t σ H Q):PPl X e i f:=imp h fun _ _ _ h=>by obtain⟨F,δ,As,p,v,y,a,b,c,d,e⟩:=h;exact w a b c d e
noncomputable def aw:PF:=fun _=>some []
noncomputable def cB(f:Str):List Str->Option Nat
 |[]=>none
 |g::r=>if g=f then some 0 else(cB f r).map (· + 1)
theorem j1{f}:∀{xs}{vs}{k}{g}{w:V},cB f xs=some k->(xs.zip vs)[k]?=some (g,w)->(xs.zip vs).lookup f=some w
 |[],_,_,_,_,h,_=>by cases h
 |x::xs,[],k,_,_,_,e=>by simp at e
 | x :: xs,v :: vs,k,g,w,h,e=>by
  unfold cB at h;split at h
  . rename_i j;cases h;simp only[List.zip_cons_cons,Ze]at e;obtain⟨rfl,rfl⟩:=e;show List.lookup f ((x,v)::xs.zip vs)=some v;rw[List.lookup_cons,j];simp
  . rename_i j;obtain ⟨k',h',rfl⟩:=Zb.mp h;have:=j1 (w:=w) h' (by simpa using e)
    show List.lookup f ((x,v)::xs.zip vs)=some w;rw[List.lookup_cons];have:(f==x)=false:=by
     cases q:f==x with
     |false=>rfl
     |true=>exact absurd (beq_iff_eq.mp q).symm j
    rw[this]
    assumption
noncomputable def kY(i:Nat)(Cs:List Addr)(f:Str)(s:PF):PF:=fun δ=>(s δ).bind fun p=>match δ[i]? with
 |some (some d)=>match atP d p with
  |some (.oo C xs _)=>if C∈Cs then(cB f xs).bind fun k=>some (p++[k])else none
  |_=>none
 |_=>none
noncomputable def pIx(i:Nat)(fb:FD)(s:PF):PF:=fun δ=>(s δ).bind fun p=>match δ[i]? with
 | some (some d)=>match atP d p with
  |some (.lst ds)=>(fb δ).bind fun x=>match x with
   |.int j=>(ixN ds.length j).bind fun k=>some (p++[k])
   |_=>none
  |_=>none
 |_=>none
section
variable {o:Expr} {s:PF} {pos:Pos} {f:Str} 
def He(i) (f:NmX X i x:=by kernel_rfl):PPl X (.Name x pos) i aw :=
 Ez (iV f) fun{σ H Q F δ As p v w} R e h pt k=>by cases e;cases pt;exact⟨v,h,k H (Same.refl H)⟩
def KM (I:PPl X o i s) (z:∀ C∈Cs,Cls X.K C/\NoAttr X.K C f) (S:attributeBase o f X.env (eval o X.env)=eval o X.env:=by rfl):PPl X (.Attribute o f pos) i (kY i Cs f s) :=
 Ez (w8 I S) fun {σ H Q F δ As p v w} R e h pt k=>by
  unfold kY at e;obtain⟨G,U,e⟩:=Za.mp e;split at e
  . rename_i d L;split at e
    . rename_i C xs ds O;split at e
      . rename_i y;obtain ⟨j,J,e⟩:=Za.mp e;cases e;obtain ⟨u,p1,p2⟩:=pt.split;refine ⟨F,δ,As,G,v,u,R,U,h,p1,fun H1 x=>?_⟩
        obtain⟨V,h1,r⟩:=R.val i d L;rw[h]at h1;cases h1;obtain⟨Y,A1,B,A2,m,D,_,_,_⟩:=r.pickP O;obtain rfl:=m.det p1;obtain⟨a,dx,vs,A0,rfl,_,q,_,l,Z⟩:=D.oo_inv rfl;cases p2 with
        |lst h2=>rw[q]at h2;cases h2
        |oo h2 hk t =>rw[q]at h2;cases h2;cases t;exact⟨a,C,dx,_,w,rfl,x _ _ q,(z C y).1,(z C y).2,j1 J hk,k H1 x⟩
      . cases e
    . cases e
  . cases e
def Nm (J:PPl X o i s) (U:PD X b fb) (I:iG b:=by intro _ _;rfl):PPl X (.Subscript o b pos) i (pIx i fb s) :=
 Ez (sA ix_list J U I) fun {σ H Q F δ As p v w} R e h pt k=>by
  unfold pIx at e;obtain⟨G,V,e⟩:=Za.mp e;split at e
  . rename_i d O;split at e
    . rename_i ds S;obtain ⟨x,ex,e⟩:=Za.mp e;split at e
      . rename_i j;obtain ⟨n,L,e⟩:=Za.mp e;cases e;obtain ⟨u,p1,p2⟩:=pt.split;refine ⟨F,δ,As,G,v,u,R,V,h,p1,fun H1 f=>⟨δ,.int j,(R.grow f).toS,ex,fun y H2 q z=>?_⟩⟩
        cases z;obtain⟨Y,h1,r⟩:=R.val i d O;rw[h]at h1;cases h1;obtain⟨Z,A1,B,A2,l,D,_,_,_⟩:=r.pickP S;obtain rfl:=l.det p1;obtain⟨a,vs,A0,rfl,_,m,_,C⟩:=D.lst_inv rfl;cases p2 with
        |oo h2=>rw[m]at h2;cases h2
        |lst h2 hk t =>rw[m]at h2;cases h2;cases t;refine⟨a,vs,j,w,rfl,rfl,SqL.of (q _ _ (f _ _ m)),?_,k H2 (f.trans q)⟩;unfold atI;rw[C.length,L];exact hk
      . cases e
    . cases e
  . cases e
end
def JP(K:ZB)(i:Nat)(f:FM):TE:=fun σ H Q=>∃F δ As d δ',RepA K F H σ δ As/\f δ=some (d,δ')/\∀v F' H' A Q3,EvW F H As F' H' Q3 A->RepA K F' H' σ δ' Q3->RepO K F' H' v d A->Q3 i=As i->δ'[i]?=δ[i]?->(∀a∈As i,H' a=H a)->Q v H'
def PKp(X:Cx)(i:Nat)(e:Expr)(f:FM):Prop:=PE X e (JP X.K i f)
def JA{t}{f}(h:PE X e t)(w:∀{σ H Q F δ As d δ'},RepA X.K F H σ δ As->f δ=some (d,δ')->(∀v F' H' A Q3,EvW F H As F' H' Q3 A->RepA X.K F' H' σ δ' Q3->RepO X.K F' H' v d A->Q3 i=As i->δ'[i]?=δ[i]?->(∀a∈As i,H' a=H a)->Q v H')->t σ H Q):PKp X i e f:=imp h fun _ _ _ h=>h.elim fun _ h=>h.elim fun _ h=>h.elim fun _ h=>h.elim fun _ h=>h.elim fun _ h=>w h.1 h.2.1 h.2.2
noncomputable def br(i:Nat)(f:FM):FM:=fun δ=>match δ[i]? with
 |some (some d)=>(f (δ.set i none)).bind fun p=>some (p.1,p.2.set i (some d))
 |_=>none
section
variable {bs:Yh AK} {pos:Pos}
def Hk (i:Nat) (h:PW X e fm):PKp X i e (br i fm):=JA h fun {σ H Q F δ As d δ'} R q k=>by
 unfold br at q;split at q
 . rename_i S t;obtain ⟨⟨L,δ1⟩,J,q⟩:=Za.mp q;cases q;obtain ⟨O,s,G⟩:=R.val i _ t;have B:=R.drop i;have hi:=(ZL.mp t).1;refine ⟨F,δ.set i none,iD As i [],L,δ1,B,J,fun v F' H' A Q3 f C r'=>?_⟩
   have sub:∀j a,a∈iD As i [] j->a∈As j/\j≠i:=fun j a m=>by
    by_cases o:j=i
    . subst o;rw[aA]at m;cases m
    . rw[aB o]at m;exact⟨m,o⟩
   have r:∀a,a∈As i->∀j,a∉iD As i [] j:=fun a m j z=>R.dj j i a (sub j a z).2 (sub j a z).1 m
   have D:=f.stays B.domA G fun j a m z=>r a z j m
   have p:i<δ1.length:=by rw[<- C.len,R.len];exact hi
   have x:∀j a,a∈Q3 j->a∉As i:=fun j a m z=>by
    rcases f.fa j a m with⟨l,y⟩|y
    . exact r a z l y
    . obtain⟨⟨u,e⟩,_⟩:=R.dom z;rw[y]at e;cases e
   have R2:=C.set i p D (R.nd i) fun j a _ m=>x j a m
   rw[mH s]at R2;have I:∀a∈As i,H' a=H a:=fun a m=>by obtain⟨⟨u,e⟩,_⟩:=R.dom m;rw[e];exact f.ks a _ e (r a m)
   refine k v F' H' A _ ⟨f.fs,fun a u h n=>f.ks a u h fun j z=>n j (sub j a z).1,fun a u h n m=>f.nf a u h n fun j z=>m j (sub j a z).1,fun j a m=>?_,fun a m=>?_,f.nd,fun j a m z=>?_⟩ R2 r' aA (by rw[List.getElem?_set_self p,t]) I
   . by_cases o:j=i
     . subst o;rw[aA]at m;exact .inl ⟨j,m⟩
     . rw [aB o] at m;rcases f.fa j a m with ⟨l,y⟩ | y
       . exact .inl ⟨l,(sub l a y).1⟩
       . exact .inr y
   . rcases f.fA a m with ⟨l,y⟩ | y
     . exact .inl ⟨l,(sub l a y).1⟩
     . exact .inr y
   . by_cases o:j=i
     . subst o;rw [aA] at m;rcases f.fA a z with ⟨l,y⟩ | y
       . exact r a m l y
       . obtain⟨⟨u,e⟩,_⟩:=R.dom m;rw[y]at e;cases e
     . rw[aB o]at m;exact f.dj j a m z
 . cases q
def tNm(bs:List AK):TA:=fun σ H Q=>∃vs,LkV σ bs vs/\Q vs H
def PLN(X:Cx)(es:List Expr)(bs:List AK):Prop:=PA X es (tNm bs)
def EA{t}{bs}(h:PA X es t)(w:∀{σ H Q vs},LkV σ bs vs->Q vs H->t σ H Q):PLN X es bs:=EC h fun _ _ _ h=>h.elim fun _ h=>w h.1 h.2
noncomputable def takes:List AK->FMA
 |[]=>am
 |.lent i::bs=>ae (aa i) (takes bs)
 |.view i::bs=>cR i (takes bs)
 |.val::_=>fun _=>none
def Hb:PLN X [] []:=EA gh fun{σ H Q vs} lk q=>by
 cases vs with
 |nil=>exact q
 |cons v vs=>exact Zzb lk
def Dz(i) (f:PLN X es bs) (j:NmX X i x:=by kernel_rfl):PLN X (.Name x pos::es) (.lent i::bs):=EA (cD (iV j) f rfl) fun{σ H Q vs} lk q=>by
 cases vs with
 |nil=>exact Zzb lk
 |cons v vs=>exact⟨v,lk.1,vs,lk.2,q⟩
def Dy(i) (f:PLN X es bs) (j:NmX X i x:=by kernel_rfl):PLN X (.Name x pos::es) (.view i::bs):=EA (cD (iV j) f rfl) fun{σ H Q vs} lk q=>by
 cases vs with
 |nil=>exact Zzb lk
 |cons v vs=>exact⟨v,lk.1,vs,lk.2,q⟩
end
def zY{d}(e:aa i δ=some (d,δ1))(h:j≠i):δ1[j]?=δ[j]?:=by
 unfold aa at e;split at e
 . split at e
   . cases e;rfl
   . cases e;exact List.getElem?_set_ne (Ne.symm h)
 . cases e
def RepA.takeN{F}{d}(R:RepA K F H σ δ As)(e:aa i δ=some (d,δ1)):∃v A Q5,σ[i]?=some (some v)/\EvW F H As F H Q5 A/\RepA K F H σ δ1 Q5/\RepO K F H v d A/\∀j,j≠i->Q5 j=As j:=by
 unfold aa at e;split at e
 . rename_i o h;obtain ⟨v,h1,h2⟩:=R.val i _ h;split at e
   . rename_i l;cases e;rw[h2.noo_nil l]at h2;exact⟨v,[],As,h1,EvW.refl,R,h2,fun _ _=>rfl⟩
   . cases e;refine ⟨v,As i,iD As i [],h1,⟨Same.refl F,fun _ _ h _=>h,fun _ _ _ n _=>n,fun j a m=>?_,fun a m=>.inl ⟨i,m⟩,R.nd i,fun j a m=>?_⟩,R.drop i,h2,fun j f=>aB f⟩
     . by_cases f:j=i
       . subst f;rw[aA]at m;cases m
       . rw[aB f]at m;exact .inl ⟨j,m⟩
     . by_cases f:j=i
       . subst f;rw[aA]at m;cases m
       . rw[aB f]at m;exact R.dj j i a f m
 . cases e
theorem jS{F}:∀{bs}{vs}{δ δ1}{ds}{As},RepA K F H σ δ As->takes bs δ=some (ds,δ1)->LkV σ bs vs->∃A Q5,EvW F H As F H Q5 A/\RepA K F H σ δ1 Q5/\RepOs K F H (uQ bs vs) ds A/\∀j,j∉jM bs->Q5 j=As j/\δ1[j]?=δ[j]?
 |[],[],δ,δ1,ds,As,R,e,lk=>by cases e;exact⟨[],As,EvW.refl,R,.nil,fun _ _=>⟨rfl,rfl⟩⟩
 |.lent i::bs,v::vs,δ,δ1,ds,As,R,e,lk=>by
  obtain⟨⟨Q,u⟩,s,e⟩:=Za.mp (e);obtain⟨⟨G,t⟩,D,e⟩:=Za.mp e;cases e;obtain⟨O,A,L,h1,o,J,p,C⟩:=R.takeN s;rw[lk.1]at h1;cases h1;obtain⟨B,Q5,l,I,y,q⟩:=jS J D lk.2;refine⟨A++B,Q5,o.seq l fun x m=>(p.dom x m).1,I,.cons p y rfl,fun j r=>?_⟩
  have:j≠i/\j∉jM bs:=⟨fun z=>r (z▸Zp),fun z=>r (Zq _ z)⟩
  exact⟨(q j this.2).1.trans (C j this.1),(q j this.2).2.trans (zY s this.1)⟩
 |.view i::bs,v::vs,δ,δ1,ds,As,R,e,lk=>by
  have f:cR i (takes bs) δ=some (ds,δ1):=e;unfold cR at f;split at f
  . exact jS (bs:=bs) R f lk.2
  . cases f
 |.val::_,_::_,_,_,_,_,_,e,_=>by cases e
 |[],_::_,_,_,_,_,_,_,lk=>Zzb lk
 |.val::_,[],_,_,_,_,_,_,lk=>Zzb lk
 |.lent _::_,[],_,_,_,_,_,_,lk=>Zzb lk
 |.view _::_,[],_,_,_,_,_,_,lk=>Zzb lk
def DI {bs} {pos} {G} (i) (F:ym X.prog X.w X.K X.mg X.base k x ps G) (S:Room j X.A) (ha:PLN X (e :: es) bs) (hb:bs.length=ps.length:=by kernel_rfl) (hi:i ∉ jM bs:=by decide) (hk:k<=j:=by decide) (Y:Gl X x:=by rfl) (y:NbX x:=by kernel_rfl)
 (Z:PlX X e es:=by rfl) (u:BkX X pos es:=by rfl):PKp X i (.Call (.Name x p) (e::es) [] pos) (b8 bs G (takes bs)):=by
 obtain⟨f,fd,F,V,J,hB⟩:=F.ex;refine JA (mM F (S.mono hk) Y V J hB .nil jL ha y Z u) fun{σ H Q F0 δ As d δ'} R q k=>?_
 unfold b8 at q;obtain⟨⟨ds,δ1⟩,l,q⟩:=Za.mp q;obtain⟨z,ew,q⟩:=Za.mp q;obtain⟨⟨r,Q4⟩,eG,q⟩:=Za.mp q;split at q
 . rename_i U;obtain ⟨s,eb,q⟩:=Za.mp q;cases q;have t:∀ {bs} {δ δ1} {ds} {As},RepA X.K F0 H σ δ As->takes bs δ=some (ds,δ1)->∃ vs,LkV σ bs vs:=by
    intro bs
    induction bs with
    |nil=>exact fun _ _=>⟨[],True.intro⟩
    | cons b bs B =>
     intro δ δ1 ds As R e;cases b with
     |val=>cases e
     |lent i =>obtain⟨⟨d0,D⟩,e0,e⟩:=Za.mp (e);obtain⟨⟨z,s⟩,e2,_⟩:=Za.mp e;obtain⟨v,A,As0,h1,_,R0,_⟩:=R.takeN e0;obtain⟨vs,h⟩:=B R0 e2;exact⟨v::vs,h1,h⟩
     |view i =>
      have o:cR i (takes bs) δ=some (ds,δ1):=e;unfold cR at o;split at o
      . rename_i d0 h0;obtain⟨v,h1,_⟩:=R.val i _ h0;obtain⟨vs,h⟩:=B R o;exact⟨v::vs,h1,h⟩
      . cases o
   obtain⟨vs,lk⟩:=t R l;obtain⟨A,Q5,ev,R1,I,O⟩:=jS R l lk;refine⟨vs,lk,?_⟩;show iQ X.K ps.length G (vs++[]) H Q E0;rw[Zk];refine qW ev R1 I lk ((mR lk).trans hb) ew eG U eb fun v F' H' A Q3 e R r L=>?_
   obtain⟨h1,h2,h3⟩:=L i hi;obtain⟨C,h5⟩:=O i hi;exact k v F' H' A Q3 e R r (h1.trans C) (h2.trans h5) fun a m=>h3 a (by rw[C];exact m)
 . cases q
noncomputable def cG(i:Nat)(s:PF)(fm:FM):SQ:=fun δ=>match δ[i]? with
 |some (some d)=>(s δ).bind fun p=>match atP d p with
  |some (.lst ds)=>(fm δ).bind fun q=>if ds.length<=999 then some (.nx (q.2.set i (some (cL d p (.lst (ds++[q.1]))))))else none
  |_=>none
 |_=>none
noncomputable def tV(i:Nat)(s:PF):SQ:=fun δ=>match δ[i]? with
 |some (some d)=>(s δ).bind fun p=>match atP d p with
  |some (.lst _)=>some (.nx (δ.set i (some (cL d p (.lst [])))))
  |_=>none
 |_=>none
noncomputable def Aq(i:Nat)(s:PF)(fm:FM):SQ:=fun δ=>match δ[i]? with
 | some (some d)=>(s δ).bind fun p=>match atP d p with
  |some (.lst ds)=>(fm δ).bind fun q=>match q.1 with
   |.lst es=>if ds.length+es.length<=1000 then some (.nx (q.2.set i (some (cL d p (.lst (ds++es))))))else none
   |_=>none
  |_=>none
 |_=>none
section
variable {s:PF} {pos:Pos}
def KJ (i:Nat) (J:PE X c (tBM X.K "list" tS (tPl X.K i s) (yr (JP X.K i fm) zZ))) (hs:swapsWith c none pos.line X.env=pure false:=by rfl):PQ X Z (.Expr c pos) (cG i s fm):=k9 (mK J hs) fun {E σ H F δ As r} R z q k=>by
 unfold cG at q;split at q
 . rename_i d hd;obtain ⟨p,es,q⟩:=Za.mp q;split at q
   . rename_i ds J;obtain ⟨⟨dv,δ1⟩,efm,q⟩:=Za.mp q;split at q
     . rename_i hl;cases q;obtain ⟨v,t,r0⟩:=R.val i d hd;obtain ⟨w,A1,B,A2,pt,D,eA,_,_⟩:=r0.pickP J;obtain ⟨l,vs,B0,rfl,_,x,_,_⟩:=D.lst_inv rfl;refine ⟨F,δ,As,p,v,.ref l,R,es,t,pt,fun H0 j=>⟨.inl ⟨rfl,vs,SqL.of (j _ _ x)⟩,F,δ,As,dv,δ1,R.grow j,efm,fun y F1 H1 A Q5 ev R1 r1 kA kD kH=>?_⟩⟩
       obtain⟨v2,f,r2⟩:=(R.grow j).val i d hd;rw[t]at f;cases f;obtain⟨w2,C1,B2,C2,pt2,Y,L,S,_⟩:=r2.pickP J;obtain rfl:=pt2.det (pt.mono j);have pt1:=S H1 fun a m=>kH a (by rw[L];exact ZF _ m)
       obtain⟨l2,Q,B02,el,eB2,I,_,V⟩:=Y.lst_inv rfl;cases el;have u:H1 l=some (.lst vs):=by
        rw[kH l (by rw[L,eB2];exact ZE _ (ZF _ Zp))]
        exact j _ _ x
       have ev':=(EvW.grew j).go ev;refine⟨l,vs,y,rfl,rfl,u,?_,?_⟩
       . have:Q=vs:=by rw [j _ _ x] at I;cases I;rfl
         rw[<- this,V.length];exact Nat.lt_of_le_of_lt hl (nG (show 999<=1000 by decide))
       obtain⟨Q6,R2,li,h2⟩:=R1.writeP (B':=[]) (kD.trans hd) t pt1 J rfl (fun{B} nl dj D nB=>by
        obtain⟨l3,O,B3,C,rfl,G,n3,U⟩:=D.lst_inv rfl;cases C;rw[u]at G;cases G;have o:=Z3.mp nB;refine⟨l::(B3++A),.lst aH n3 ((U.snoc r1).frame (iW u) fun a m=>aF fun z=>?_),Z3.mpr ⟨fun m=>?_,Z2.mpr ⟨o.2,ev.nd,fun a ha b hb e=>?_⟩⟩,fun a m=>?_⟩
        . subst z;rcases Zt.mp m with m | m
          . exact o.1 m
          . exact nl m
        . rcases Zt.mp m with m | m
          . exact o.1 m
          . exact nl m
        . subst e;exact dj a hb (Zq _ ha)
        . rcases Zu.mp m with m | m
          . exact .inl (m▸Zp)
          . rcases Zt.mp m with m | m
            . exact .inl (Zq _ m)
            . exact .inr m) ev.dj (fun{B} D=>by
        obtain⟨l3,O,B3,C,rfl,_⟩:=D.lst_inv rfl;cases C;exact Zp)
       exact k σ F1 _ Q6 (ev'.wrote li h2) R2 z
     . cases q
   . cases q
 . cases q
def Ds (i:Nat) (x:PE X c (MP X.K "list" CF (tPl X.K i s))) (O:swapsWith c none pos.line X.env=pure false:=by rfl):PQ X Z (.Expr c pos) (tV i s):=k9 (mK x O) fun {E σ H F δ As r} R z q k=>by
 unfold tV at q;split at q
 . rename_i d C;obtain ⟨p,es,q⟩:=Za.mp q;split at q
   . rename_i ds x;cases q;obtain ⟨v,t,G⟩:=R.val i d C;obtain ⟨w,A1,B,A2,pt,o,Y,_,_⟩:=G.pickP x;obtain ⟨l,vs,B0,rfl,_,u,_,_⟩:=o.lst_inv rfl;refine ⟨F,δ,As,p,v,.ref l,R,es,t,pt,fun H0 j=>⟨.inl ⟨rfl,vs,SqL.of (j _ _ u)⟩,l,vs,rfl,rfl,j _ _ u,?_⟩⟩
     obtain⟨Q6,R2,J,h2⟩:=(R.grow j).writeP (V':=[]) (B':=[]) C t (pt.mono j) x rfl (fun{B} U dj o V=>by
      obtain⟨L,y,S,f,rfl,Q,I,D⟩:=o.lst_inv rfl;cases f;exact⟨[l],.lst aH I .nil,Z3.mpr ⟨fun z=>(nomatch z),Zz⟩,fun a m=>.inl (Zr.mp m▸Zp)⟩) (fun _ _ _ z=>nomatch z) (fun{B} o=>by
      obtain⟨L,y,S,f,rfl,_⟩:=o.lst_inv rfl;cases f;exact Zp)
     exact k σ F _ Q6 ((EvW.grew j).wrote J h2) R2 z
   . cases q
 . cases q
def KI (i) (S:PE X c (tBM X.K "list" yI (tPl X.K i s) (yr (JP X.K i fm) zZ))) (hs:swapsWith c none pos.line X.env=pure false:=by rfl):PQ X Z (.Expr c pos) (Aq i s fm):=k9 (mK S hs) fun {E σ H F δ As r} R z q k=>by
 unfold Aq at q;split at q
 . rename_i d hd;obtain ⟨p,es,q⟩:=Za.mp q;split at q
   . rename_i ds S;obtain ⟨⟨dv,δ1⟩,efm,q⟩:=Za.mp q;dsimp only at q;split at q
     . rename_i xs;split at q
       . rename_i hl;cases q;obtain ⟨v,x,r0⟩:=R.val i d hd;obtain ⟨w,A1,B,A2,pt,L,eA,_,_⟩:=r0.pickP S;obtain ⟨l,vs,B0,rfl,_,G,_,_⟩:=L.lst_inv rfl;refine ⟨F,δ,As,p,v,.ref l,R,es,x,pt,fun H0 o=>⟨.inl ⟨rfl,vs,SqL.of (o _ _ G)⟩,F,δ,As,_,δ1,R.grow o,efm,fun y F1 H1 A Q5 ev R1 r1 kA kD kH=>?_⟩⟩
         obtain⟨v2,f,r2⟩:=(R.grow o).val i d hd;rw[x]at f;cases f;obtain⟨w2,C1,B2,C2,pt2,rc2,U,st2,_⟩:=r2.pickP S;obtain rfl:=pt2.det (pt.mono o);have pt1:=st2 H1 fun a m=>kH a (by rw[U];exact ZF _ m)
         obtain⟨l2,Y,B02,el,eB2,Q,_,ro2⟩:=rc2.lst_inv rfl;cases el;have C:H1 l=some (.lst vs):=by
          rw[kH l (by rw[U,eB2];exact ZE _ (ZF _ Zp))]
          exact o _ _ G
         have ev':=(EvW.grew o).go ev;obtain⟨b,ws,W0,rfl,rfl,hb1,_,J⟩:=r1.lst_inv rfl;have nA:=Z3.mp ev.nd;refine⟨l,b,vs,ws,rfl,rfl,C,hb1,?_,?_⟩
         . have:Y=vs:=by rw [o _ _ G] at Q;cases Q;rfl
           rw[<- this,ro2.length,J.length];exact eQ hl
         have app:∀{vs us}{ds es:Yh D}{A B:Yh Ye},RepOs X.K F1 H1 vs ds A->RepOs X.K F1 H1 us es B->RepOs X.K F1 H1 (vs++us) (ds++es) (A++B):=by
          intro vs us ds es A B ra rb
          induction ra using RepOs.rec (motive_1:=fun _ _ _ _=>True)with
          |nil=>exact rb
          |cons r t e _ ih=>exact .cons r ih (by rw[e,ZW])
          |_=>trivial
         obtain⟨Q6,R2,li,h2⟩:=R1.writeP (V':=W0) (B':=[]) (kD.trans hd) x pt1 S rfl (fun{B} nl dj L nB=>by
          obtain⟨l3,V,B3,I,rfl,O,n3,ro3⟩:=L.lst_inv rfl;cases I;rw[C]at O;cases O;have u:=Z3.mp nB;refine⟨l::(B3++W0),.lst aH n3 ((app ro3 J).frame (iW C) fun a m=>aF fun z=>?_),Z3.mpr ⟨fun m=>?_,Z2.mpr ⟨u.2,nA.2,fun a ha b hb e=>?_⟩⟩,fun a m=>?_⟩
          . subst z;rcases Zt.mp m with m | m
            . exact u.1 m
            . exact nl m
          . rcases Zt.mp m with m | m
            . exact u.1 m
            . exact nl m
          . subst e;exact dj a hb (Zq _ ha)
          . rcases Zu.mp m with m | m
            . exact .inl (m▸Zp)
            . rcases Zt.mp m with m | m
              . exact .inl (Zq _ m)
              . exact .inr m) (fun j a m z=>ev.dj j a m (Zq _ z)) (fun{B} L=>by
          obtain⟨l3,V,B3,I,rfl,_⟩:=L.lst_inv rfl;cases I;exact Zp)
         exact k σ F1 _ Q6 (ev'.wrote li fun j a m=>(h2 j a m).imp id fun m=>Zq _ m) R2 z
       . cases q
     . cases q
   . cases q
 . cases q
end
noncomputable def fJ(f:Str):List Str->List Str
 |[]=>[f]
 |g::r=>if g=f then g::r else g::fJ f r
def putD{α:Type}(f:Str)(y:α):List Str->List α->List α
 |g::r,e::es=>if g=f then y::es else e::putD f y r es
 |_,_=>[y]
theorem vc{f}{y}:∀{xs}{vs},xs.length=vs.length->jV f y (xs.zip vs)=(fJ f xs).zip (putD f y xs vs)
 |[],[],_=>rfl
 |g::r,v::vs,h=>by
  show(if g=f then(g,y)::r.zip vs else(g,v)::jV f y (r.zip vs))=_
  rw[fJ,putD];split
  . rfl
  . rw[vc (by simpa using h)];rfl
theorem vd{α:Type}{f}{y}:∀{xs:Yh Str}{vs:Yh α},xs.length=vs.length->(fJ f xs).length=(putD f y xs vs).length
 |[],[],_=>rfl
 |g::r,v::vs,h=>by
  rw[fJ,putD];split
  . simpa using h
  . simpa using vd (by simpa using h)
section
variable {F:Hp}
theorem RepOs.putD{f}{y}{d}(r:RepO K F H y d A):∀{xs}{vs}{ds}{B},xs.length=ds.length->RepOs K F H vs ds B->(B++A).Nodup->∃B',RepOs K F H (Dl.putD f y xs vs) (Dl.putD f d xs ds) B'/\B'.Nodup/\∀a∈B',a∈B\/a∈A
 |[],_,_,_,_,.nil,nd=>⟨A,.cons r .nil (by simp),by simpa using nd,fun a m=>.inr m⟩
 |g::xs,_,_,_,l,.cons (A:=A0) (B:=B0) r0 t e,nd=>by
  subst e;rw[Dl.putD,Dl.putD];have n1:=Z2.mp nd;have n2:=Z2.mp n1.1;split
  . refine ⟨A++B0,.cons r t rfl,Z2.mpr ⟨n1.2.1,n2.2.1,fun a j b o e=>?_⟩,fun a m=>?_⟩
    . subst e;exact n1.2.2 a (ZE _ o) a j rfl
    . rcases Zt.mp m with m | m
      . exact .inr m
      . exact .inl (ZE _ m)
  . obtain ⟨B',q,p,h⟩:=RepOs.putD r (by simpa using l) t (Z2.mpr ⟨n2.2.1,n1.2.1,fun a j b o=>n1.2.2 a (ZE _ j) b o⟩)
    refine⟨A0++B',.cons r0 q rfl,Z2.mpr ⟨n2.1,p,fun a j b o e=>?_⟩,fun a m=>?_⟩
    . subst e;rcases h a o with z | z
      . exact n2.2.2 a j a z rfl
      . exact n1.2.2 a (ZF _ j) a z rfl
    . rcases Zt.mp m with m | m
      . exact .inl (ZF _ m)
      . exact(h a m).imp (ZE _) id
end
def tU(i:Nat)(s:PF)(fk:FD)(fm:FM):SQ:=fun δ=>(fm δ).bind fun q=>match q.2[i]? with
 | some (some d)=>(s q.2).bind fun p=>match atP d p with
  |some (.lst ds)=>(fk q.2).bind fun x=>match x with
   |.int j=>(ixN ds.length j).bind fun k=>some (.nx (q.2.set i (some (cL d p (.lst (ds.set k q.1))))))
   |_=>none
  |_=>none
 |_=>none
def bZ(i:Nat)(Cs:List Addr)(f:Str)(s:PF)(fm:FM):SQ:=fun δ=>(fm δ).bind fun q=>match q.2[i]? with
 |some (some d)=>(s q.2).bind fun p=>match atP d p with
  |some (.oo C xs ds)=>if C∈Cs/\ds.length<=99 then some (.nx (q.2.set i (some (cL d p (.oo C (fJ f xs) (putD f q.1 xs ds))))))else none
  |_=>none
 |_=>none
section
variable {o:Expr} {s:PF} {pos:Pos}
def KC (i:Nat) (ho:PPl X o i s) (he:PW X e fm) (hk:PD X ei fk) (hs:swapsWithSole [.Subscript o ei p2] e pos.line X.env=pure false:=by rfl) (hw:swappedStores [.Subscript o ei p2] e X.env=pure none:=by rfl)
 (h1:(assignEach [.Subscript o ei p2] X.env).map (·.2)=[assign (.Subscript o ei p2) X.env]:=by rfl)
 (hA:∀ v,assign (.Subscript o ei p2) X.env v=(do
  let O <- holding [v] (eval o X.env)
  let iv <- holding [v,O] (eval ei X.env)
  standAt p2
  holding [v,O,iv] (setItem O iv v)
  release [v,O,iv] []):=by intro _;rfl) :
 PQ X Z (.Assign [.Subscript o ei p2] e pos) (tU i s fk fm) :=
 k9 (Dj he (KS ho hk Cp hA) hs hw h1) fun{E σ H F δ As r} R z q k=>by
 unfold tU at q;obtain⟨⟨dv,δ'⟩,ed,q⟩:=Za.mp q;split at q
 . rename_i d hd;obtain ⟨p,es,q⟩:=Za.mp q;split at q
   . rename_i ds hc;obtain ⟨x,ek,q⟩:=Za.mp q;split at q
     . rename_i kk;obtain ⟨j,hj,q⟩:=Za.mp q;cases q;refine ⟨F,δ,As,dv,δ',R,ed,fun y F' H' A Q3 ev S r'=>?_⟩
       obtain⟨v,J,r0⟩:=S.val i d hd;obtain⟨w,A1,B,A2,pt,I,eA,_,_⟩:=r0.pickP hc;obtain⟨l,vs,B0,rfl,_,hl0,_,ro⟩:=I.lst_inv rfl;refine⟨F',δ',Q3,p,v,.ref l,S,es,J,pt,fun H1 s1=>⟨δ',.int kk,(S.grow s1).toS,ek,fun iv H2 s2 ri=>?_⟩⟩
       cases ri;have f:=s1.trans s2;have R2:=S.grow f;have r2:=r'.frame (bI f) fun a m=>by obtain⟨⟨ws,e⟩,_⟩:=r'.dom a m;rw[e];exact f a _ e
       have u:=f _ _ hl0;refine⟨l,vs,kk,j,rfl,rfl,u,by rw[ro.length];exact hj,?_⟩
       have jl:=(t9 hj).2.1;obtain ⟨Q6,R3,li,h2⟩:=R2.writeP (B':=[]) hd J (pt.mono f) hc rfl (fun {B} nl dj I nB=>by
        obtain⟨l3,U,B3,G,rfl,L,n3,V⟩:=I.lst_inv rfl;cases G;rw[u]at L;cases L;have t:=Z3.mp nB;obtain⟨v0,C1,C,C2,_,rC,rfl,pk⟩:=V.pick (Zy jl);have kI:dQ H2 (upd H2 l (.lst (vs.set j y))):=iW u;have Y:=Z2.mp t.2;have m2:=Z2.mp Y.2.1;have rn:=pk kI (fun a m=>aF fun z=>by
         subst z;refine t.1 ?_;rcases m with m|m
         . exact ZF _ m
         . exact ZE _ (ZE _ m)) (r2.frame kI fun a m=>aF fun z=>by subst z;exact nl m)
        refine⟨l::(C1++(A++C2)),.lst aH n3 rn,Z3.mpr ⟨fun m=>?_,Z2.mpr ⟨Y.1,Z2.mpr ⟨ev.nd,m2.2.1,fun a Q b D e=>?_⟩,fun a Q b D e=>?_⟩⟩,fun a m=>?_⟩
        . rcases Zt.mp m with m | m
          . exact t.1 (ZF _ m)
          . rcases Zt.mp m with m | m
            . exact nl m
            . exact t.1 (ZE _ (ZE _ m))
        . subst e;exact dj a Q (Zq _ (ZE _ (ZE _ D)))
        . subst e;rcases Zt.mp D with D | D
          . exact dj a D (Zq _ (ZF _ Q))
          . exact Y.2.2 a Q a (ZE _ D) rfl
        . rcases Zu.mp m with m | m
          . exact .inl (m▸Zp)
          . rcases Zt.mp m with m | m
            . exact .inl (Zq _ (ZF _ m))
            . rcases Zt.mp m with m | m
              . exact .inr m
              . exact .inl (Zq _ (ZE _ (ZE _ m)))) ev.dj (fun{B} I=>by
        obtain⟨l3,U,B3,G,rfl,_⟩:=I.lst_inv rfl;cases G;exact Zp)
       exact k σ F' _ Q6 ((ev.grow f).wrote li h2) R3 z
     . cases q
   . cases q
 . cases q
theorem KH (i) {f:Str} (ho:PPl X o i s) (he:PW X e fm) (hC:∀ C∈Cs,Cls X.K C/\NoAttr X.K C f) (hs:swapsWith e (some (.Attribute o f X2)) pos.line X.env=pure false:=by rfl):PQ X Z (.Assign [.Attribute o f X2] e pos) (bZ i Cs f s fm) :=
 k9 (Ky ho he hs) fun{E σ H F δ As r} R z q k=>by
 unfold bZ at q;obtain⟨⟨dv,δ'⟩,ed,q⟩:=Za.mp q;split at q
 . rename_i d hd;obtain ⟨p,es,q⟩:=Za.mp q;split at q
   . rename_i C xs ds hc;split at q
     . rename_i V;cases q;refine ⟨F,δ,As,dv,δ',R,ed,fun y F' H' A Q3 ev R' r'=>?_⟩
       obtain⟨v,J,r0⟩:=R'.val i d hd;obtain⟨w,A1,B,A2,pt,I,eA,_,_⟩:=r0.pickP hc;obtain⟨l,dx,vs,B0,rfl,_,S,_,L,ro⟩:=I.oo_inv rfl;refine⟨F',δ',Q3,p,v,.ref l,R',es,J,pt,fun H1 u=>⟨l,C,dx,xs.zip vs,rfl,u _ _ S,(hC C V.1).1,(hC C V.1).2,?_,?_⟩⟩
       . rw [List.length_zip];have:=V.2
         lia
       have R2:=R'.grow u;have Q:=u _ _ S;have r2:=r'.frame (bI u) fun a m=>by obtain⟨⟨ws,e⟩,_⟩:=r'.dom a m;rw[e];exact u a _ e
       have hv:xs.length=vs.length:=by rw[ro.length];exact L
       rw [vc hv];obtain ⟨Q6,R3,li,h2⟩:=R2.writeP (B':=[]) hd J (pt.mono u) hc rfl (fun {B} nl dj I nB=>by
        obtain⟨l3,dx3,t,B3,D,rfl,O,n3,j,G⟩:=I.oo_inv rfl;cases D;have x:=Z3.mp nB;have kI:dQ H1 (upd H1 l (.ins C dx ((fJ f xs).zip (putD f y xs vs)))):=nY Q rfl;have Y:t=vs:=by
         rw[Q]at O;have e1:xs.zip vs=xs.zip t:=by injection O with e;injection e
         have l3:xs.length=t.length:=by rw[G.length];exact j
         have e2:=congrArg (List.map Prod.snd) e1;rw[List.map_snd_zip (by lia),List.map_snd_zip (by lia)]at e2
         exact e2.symm
        subst Y;obtain⟨B',rB,U,sub⟩:=RepOs.putD (r2.frame kI fun a m=>aF fun z=>by subst z;exact nl m) j (G.frame kI fun a m=>aF fun z=>by subst z;exact x.1 m) (Z2.mpr ⟨x.2,ev.nd,fun a ha b hb e=>by subst e;exact dj a hb (Zq _ ha)⟩)
        refine⟨l::B',.oo aH n3 (vd j) rB,Z3.mpr ⟨fun m=>?_,U⟩,fun a m=>?_⟩
        . rcases sub l m with m | m
          . exact x.1 m
          . exact nl m
        . rcases Zu.mp m with m | m
          . exact .inl (m▸Zp)
          . exact(sub a m).imp (Zq _) id) ev.dj (fun{B} I=>by
        obtain⟨l3,_,t,B3,D,rfl,_⟩:=I.oo_inv rfl;cases D;exact Zp)
       exact k σ F' _ Q6 ((ev.grow u).wrote li h2) R3 z
     . cases q
   . cases q
 . cases q
end
def jP(K:ZB)(Z:L2.St->Prop)(t:TG)(g:D->DS->Option DS):Prop:=∀{F H:Hp}{σ:L2.St}{δ δ':DS}{As:Nat->List Addr}{v:V}{d:D}{A:List Addr}{Q:L2.St->Hp->Prop},RepA K F H σ δ As->RepO K F H v d A->A.Nodup->(∀j a,a∈As j->a∉A)->g d δ=some δ'->Z σ ->
 (∀σ' Q3,RepA K F H σ' δ' Q3->(∀j a,a∈Q3 j->(∃k,a∈As k)\/a∈A)->Z σ'->Q σ' H)->t v σ H Q
def gN(i:Nat):D->DS->Option DS:=fun d δ=>if i<δ.length then some (δ.set i (some d))else none
def jR(is:List Nat):D->DS->Option DS:=fun d δ=>match d with
 |.tup ds=>if ds.length=is.length/\Ew is δ.length=true then some (JY is ds δ)else none
 |_=>none
def EF(i) (l:ZO Z i):jP K Z (sR i) (gN i):=by
 intro F H σ δ δ' As v d A Q R r o p q z k;unfold gN at q;split at q
 . rename_i hi;cases q;refine k _ _ (R.set i hi r o fun j a _ m=>p j a m) (fun j a m=>?_) (l σ v z)
   by_cases f:j=i
   . subst f;rw[aA]at m;exact .inr m
   . rw[aB f]at m;exact .inl ⟨j,m⟩
 . cases q
theorem sI{F}:∀o,(∀i∈o,ZO Z i)->∀{vs}{ds}{A}{σ}{δ}{As}{Q},RepOs K F H vs ds A->A.Nodup->(∀j a,a∈As j->a∉A)->RepA K F H σ δ As->ds.length=o.length->Ew o δ.length=true->Z σ ->
 (∀f Q3,RepA K F H f (JY o ds δ) Q3->(∀j a,a∈Q3 j->(∃k,a∈As k)\/a∈A)->Z f->Q f H)->nD o vs σ H Q
 |[],_,_,_,_,σ,δ,As,Q,.nil,_,_,R,_,_,z,k=>⟨rfl,k σ As R (fun j a m=>.inl ⟨j,m⟩) z⟩
 |[],_,_,_,_,_,_,_,_,.cons _ _ _,_,_,_,l,_,_,_=>by cases l
 |_::_,_,_,_,_,_,_,_,_,.nil,_,_,_,l,_,_,_=>by cases l
 | i :: o,zk,_,_,_,σ,δ,As,Q,.cons (v:=v) (vs:=vs) (A:=A) (B:=B) r t e,nd,dj,R,l,hi,z,k=>by
  subst e;have p:(decide (i<δ.length)&&Ew o δ.length)=true:=hi;rw[ZN]at p;have h1:i<δ.length:=Zza p.1;rw[Z2]at nd;have x:=R.set i h1 r nd.1 fun j a _ m z=>dj j a m (ZF _ z)
  refine⟨v,vs,rfl,?_⟩;show nD o vs (σ.set i (some v)) H Q;have sub:∀j a,a∈iD As i A j->a∈A\/a∈As j:=fun j a m=>by
   by_cases s:j=i
   . subst s;rw[aA]at m;exact .inl m
   . rw[aB s]at m;exact .inr m
  refine sI o (fun j m=>zk j (Zq _ m)) t nd.2.1 (fun j a m w=>?_) x (by simpa using l) (by rw[List.length_set];exact p.2) (zk i Zp σ v z) fun f Q3 C h' u=>k f Q3 C (fun j a m=>?_) u
  . rcases sub j a m with y | y
    . exact nd.2.2 a y a w rfl
    . exact dj j a y (ZE _ w)
  . rcases h' j a m with ⟨q,y⟩ | y
    . rcases sub q a y with y | y
      . exact .inr (ZF _ y)
      . exact .inl ⟨q,y⟩
    . exact .inr (ZE _ y)
def qC(is) (l:∀i∈is,ZO Z i):jP K Z (Ii K is.length (nD is)) (jR is):=by
 intro F H σ δ δ' As v d A Q R r m o q z k;unfold jR at q;split at q
 . rename_i ds;split at q
   . rename_i f;cases q;obtain⟨a,vs,rfl,sq,j⟩:=r.parts;exact⟨a,vs,rfl,sq,j.len.trans f.1,sI is l j m o R f.1 f.2 z k⟩
   . cases q
 . cases q
def qUn(is:List Nat)(fm:FM):SQ:=fun δ=>(fm δ).bind fun p=>(jR is p.1 p.2).bind fun δ2=>some (.nx δ2)
def cn(g:D->DS->Option DS)(s:SQ):List D->SQ
 |[]=>fun δ=>some (.nx δ)
 |d::ds=>fun δ=>(g (sh d) δ).bind fun δ1=>(s δ1).bind fun r=>match r with
  |.nx δ'=>cn g s ds δ'
  |.ct δ'=>cn g s ds δ'
  |.bk δ'=>some (.nx δ')
  |.rt d δ'=>some (.rt d δ')
def f8(src:FMA)(g:D->DS->Option DS)(s:SQ):SQ:=fun δ=>(src δ).bind fun p=>cn g s p.1 p.2
def ItG(K:ZB)(J:It)(F:Hp)(ds:List D):Prop:=∀i H2,Same F H2 ->
 (i<ds.length->J.go i H2/\∀x H',J.yld i H2 x H'->Same H2 H'/\∃d,ds[i]?=some d/\∀F',Same F F'->Same F' H'->RepO K F' H' x (sh d) [])/\(ds.length<=i->J.stop i H2)
def ItF.g{J}{F}(h:ItF K J F ds):ItG K J F ds:=fun i H2 s=>⟨fun hi=>⟨((h i H2 s).1 hi).1,fun x H' y=>by obtain⟨e,d,l,r⟩:=((h i H2 s).1 hi).2 x H' y;subst e;exact⟨Same.refl _,d,l,fun F' j f=>RepO.of_sh f (r.mono j)⟩⟩,(h i H2 s).2⟩
def Oq(K:ZB)(src:FMA):TI:=fun σ H R=>∃F δ As ds δ',RepA K F H σ δ As/\src δ=some (ds,δ')/\∀J F' H1 Q3,EvW F H As F' H1 Q3 []->RepA K F' H1 σ δ' Q3->ItG K J F' ds->R J H1
def PIQ(X:Cx)(tg iter:Expr)(src:FMA):Prop:=PI X tg iter (Oq X.K src)
def sP{t}{f}(h:PI X tg iter t)(w:∀{σ H R F δ As ds δ'},RepA X.K F H σ δ As->f δ=some (ds,δ')->(∀J F' H1 Q3,EvW F H As F' H1 Q3 []->RepA X.K F' H1 σ δ' Q3->ItG X.K J F' ds->R J H1)->t σ H R):PIQ X tg iter f:=OO h fun _ _ _ h=>h.elim fun _ h=>h.elim fun _ h=>h.elim fun _ h=>h.elim fun _ h=>h.elim fun _ h=>w h.1 h.2.1 h.2.2
section
variable {fa fb:FM} {s u:SQ} {pos:Pos}
def Nj{pt}(is) (m:∀i∈is,ZO Z i) (t:PW X e fm) (s:PG X (.Tuple es kt pt) (Ii X.K is.length (nD is)))
 (p:swapsWithSole [.Tuple es kt pt] e pos.line X.env=pure false:=by rfl) (o:swappedStores [.Tuple es kt pt] e X.env=pure none:=by rfl)
 (h1:(assignEach [.Tuple es kt pt] X.env).map (·.2)=[assign (.Tuple es kt pt) X.env]:=by rfl):PQ X Z (.Assign [.Tuple es kt pt] e pos) (qUn is fm):=k9 (Dj t s p o h1) fun{E σ H F δ As r} R z q k=>by
 unfold qUn at q;obtain⟨⟨d,δ'⟩,x,q⟩:=Za.mp q;obtain⟨l,u,q⟩:=Za.mp q;cases q;exact⟨F,δ,As,d,δ',R,x,fun v F' H' A Q3 j y r'=>qC is m y r' j.nd j.dj u z fun f Q6 R2 h2 z2=>k f F' H' Q6 (j.keep h2) R2 z2⟩
theorem Dp{t}{g}(hp:PassesOwn (model X.prog X.w) X.A X.env X.xe)(hc:X.calm=true)(hg:PG X tg t)(good:jP X.K Z t g)(hi:PIQ X tg iter src)(hb:PQs X Z body s)
 (hs:FsX X iter:=by intro _;rfl):PQ X Z (.For tg iter body [] pos) (f8 src g s):=k9 (Di hp hc hi hg hb hs) fun{E σ H F δ As r} R z e k=>by
 unfold f8 at e;obtain⟨⟨ds,δ1⟩,C,e⟩:=Za.mp e;refine⟨F,δ,As,ds,δ1,R,C,fun J F1 H1 Q5 B R1 it=>?_⟩
 refine⟨fun j m σ H=>m=ds.length-j/\j<=ds.length/\∃F2 δ Q6,Same F1 F2/\RepA X.K F2 H σ δ Q6/\Z σ/\cn g s (ds.drop j) δ=some r/\RPQ X Z E F2 H Q6 r,⟨ds.length,rfl,Nat.zero_le _,F1,δ1,Q5,Same.refl _,R1,z,e,k.mono B⟩,?_⟩
 rintro j m σ H2 ⟨rfl,hjl,F2,δ2,Q6,s2,R2,z2,l,k2⟩
 by_cases o:j<ds.length
 . obtain ⟨go,V⟩:=(it j H2 (s2.trans R2.fz)).1 o;rw [List.drop_eq_getElem_cons o] at l;obtain ⟨v,e3,l⟩:=Za.mp (l);obtain ⟨O,e4,l⟩:=Za.mp l;refine .inr ⟨go,fun f H'=>∃ I δ X4,Same F1 I/\RepA X.K I H' f δ X4/\Z f/\cn g s (ds.drop (j+1)) δ=some r/\RPQ X Z E I H' X4 r,fun f H' z=>⟨ds.length - (j+1),by lia,rfl,o,z⟩,fun y H' U=>?_⟩
   obtain⟨L,d,Q,Y⟩:=V y H' U;have x:d=ds[j]:=by rw[Zy o]at Q;exact(ZH Q).symm
   subst x;have q:=R2.grow L;refine good q (Y F2 s2 q.fz) Zz (fun _ _ _ z=>nomatch z) e3 z2 fun S X4 R3 h3 z3=>?_
   have u:=k2.mono ((EvW.grew L).keep h3);refine⟨F2,v,X4,O,R3,z3,e4,?_⟩;cases O with
   |nx δ'=>exact fun f F' G Q3 p D z4=>⟨F',δ',Q3,s2.trans p.fs,D,z4,l,u.mono p⟩
   |ct δ'=>exact fun f F' G Q3 p D z4=>⟨F',δ',Q3,s2.trans p.fs,D,z4,l,u.mono p⟩
   |bk δ'=>cases l;exact u
   |rt d δ'=>cases l;exact u
 . have e:j=ds.length:=by lia
   subst e;rw[List.drop_length]at l;cases l;exact .inl ⟨(it _ H2 (s2.trans R2.fz)).2 (ZM _),k2 σ F2 H2 Q6 EvW.refl R2 z2⟩
noncomputable def pD(c:FT)(fa fb:FM):FM:=fun δ=>(c δ).bind fun b=>if b=true then fa δ else fb δ
noncomputable def pC(c fa fb:FM):FM:=fun δ=>(c δ).bind fun p=>match p.1 with
 |.bl b=>if b=true then fa p.2 else fb p.2
 |_=>none
def Ko(l:PTD X c fc)(o:PW X a fa)(m:PW X b fb):PW X (.IfExp c a b pos) (pD fc fa fb):=dw (qc l o m) fun{σ H Q F δ As d δ'} R q k=>by
 unfold pD at q;obtain⟨t,p,q⟩:=Za.mp q;refine⟨δ,t,R.toS,p,fun H' f=>?_⟩
 cases t with
 |true=>rw[if_pos rfl]at q ⊢;exact⟨F,δ,As,d,δ',R.grow f,q,fun v F' H' A Q3 j=>k v F' H' A Q3 ((EvW.grew f).go j)⟩
 |false=>rw[if_neg ZC]at q ⊢;exact⟨F,δ,As,d,δ',R.grow f,q,fun v F' H' A Q3 j=>k v F' H' A Q3 ((EvW.grew f).go j)⟩
def Kn(r:PW X c fm)(u:PW X a fa)(s:PW X b fb)(p:∀f,isTrue c X.env f=(do let v <- f;standAt c.pos;holding [v] (truthy v)):=by intro _;rfl):PW X (.IfExp c a b pos) (pC fm fa fb):=dw (qc (w4 r p) u s) fun{σ H Q F δ As d δ'} R q k=>by
 unfold pC at q;obtain⟨⟨t,δ1⟩,x,q⟩:=Za.mp q;dsimp only at q;split at q
 . rename_i b;refine ⟨F,δ,As,_,δ1,R,x,fun v F' H' A Q3 o l r'=>?_⟩
   cases r'.rep l.fz;refine⟨b,rfl,?_⟩;cases b with
   |true=>rw[if_pos rfl]at q ⊢;exact⟨F',δ1,Q3,d,δ',l,q,fun v F2 H2 m Q6 j=>k v F2 H2 m Q6 (o.bare.go j)⟩
   |false=>rw[if_neg ZC]at q ⊢;exact⟨F',δ1,Q3,d,δ',l,q,fun v F2 H2 m Q6 j=>k v F2 H2 m Q6 (o.bare.go j)⟩
 . cases q
def a6(f:FM):FMA:=fun δ=>(f δ).bind fun p=>match sh p.1 with
 |.seq ds=>some (ds,p.2)
 |_=>none
def DG(r:PW X l fm):PIQ X tg l (a6 fm):=sP (yP r) fun{σ H R F δ As ds δ'} x e k=>by
 unfold a6 at e;obtain⟨⟨d,δ1⟩,t,e⟩:=Za.mp e;split at e
 . rename_i es q;cases e;refine ⟨F,δ,As,d,_,x,t,fun v F1 H1 A Q5 s u o=>?_⟩
   obtain⟨F2,f,R2,_,z⟩:=s.freeze u o;rw[q]at z;cases z with
   |@seq p vs _ j m=>exact⟨p,rfl,⟨vs,R2.fz.seq j⟩,k _ _ H1 Q5 f R2 (Ep j m).g⟩
 . cases e
noncomputable def dG(f:FM):FMA:=fun δ=>(f δ).bind fun p=>match p.1 with
 |.int b=>if -(2^62)<=b/\b<2^62 then some ((List.range b.toNat).map fun(i:Nat)=>D.int (0+(i:Int)*1),p.2)else none
 |_=>none
def Aw (q:Gl X "range") (o:X.mg "range" = none) (r:PW X a fm) (f:starEach [a] X.env=[(false,eval a X.env)]:=by rfl):PIQ X tg (.Call (.Name "range" p) [a] [] pos) (dG fm) :=
 sP (Ay q o (cD r gh f) f) fun{σ H R F δ As ds δ'} u e k=>by
 unfold dG at e;obtain⟨⟨d,δ1⟩,t,e⟩:=Za.mp e;dsimp only at e;split at e
 . rename_i b;split at e
   . rename_i j;cases e;refine ⟨F,δ,As,_,_,u,t,fun v F1 H1 A Q5 s l m=>?_⟩
     cases m.rep l.fz;exact⟨b,rfl,j.1,j.2,k _ F1 H1 Q5 s.bare l itf_range.g⟩
   . cases e
 . cases e
end
variable {X8:Expr} {fo:FD} {Q8 px:Pos} {X6:Yh Expr} {lo:Yg Expr} {fh:FO} {js:Yh Nat} {AA0 Asc:Nat->Yh Ye} {felt wa wb:FM} {tn:Nat->Heap->Prop} {RR:Yc->Ye->Result->Yd->Prop}
noncomputable def jX:D->Option (Addr×List Str×List D)
 |.ob C xs ds=>some (C,xs,ds)
 |.oo C xs ds=>some (C,xs,ds)
 |_=>none
def Rep.objD{d}{xs}(r:Rep K H v d)(e:jX d=some (C,xs,ds)):∃a dx vs,v=.ref a/\H a=some (.ins C dx (xs.zip vs))/\xs.length=ds.length/\Reps K H vs ds:=by
 cases r with
 |ob h l r=>cases e;exact⟨_,_,_,rfl,h,l,r⟩
 |oo h l r=>cases e;exact⟨_,_,_,rfl,h,l,r⟩
 |_=>cases e
def lkF(f:Str)(xs:List Str)(ds:List D):Option D:=(cB f xs).bind fun k=>ds[k]?
def zc{f}{xs}{d}(r:Reps K H vs ds)(l:xs.length=ds.length)(e:lkF f xs ds=some d):∃v,(xs.zip vs).lookup f=some v/\Rep K H v d:=by
 obtain⟨k,hk,e⟩:=Za.mp e;obtain⟨v,h1,h2⟩:=r.get e;have j:k<xs.length:=by rw[l];exact(ZL.mp e).1
 exact⟨v,j1 hk (by rw[List.getElem?_zip_eq_some];exact⟨Zy j,h1⟩),h2⟩
theorem sQ{f}:∀{xs}{vs:Yh V},cB f xs=none->(xs.zip vs).lookup f=none
 |[],_,_=>rfl
 |x::xs,[],_=>rfl
 | x :: xs,v :: vs,h=>by
  unfold cB at h;split at h
  . cases h
  . rename_i j;have h':=Option.map_eq_none_iff.mp h;show List.lookup f ((x,v) :: xs.zip vs)=none;rw [List.lookup_cons];have:(f == x)=false:=by
     cases q:f==x with
     |false=>rfl
     |true=>exact absurd (beq_iff_eq.mp q).symm j
    rw[this];exact sQ h'
def gm(Cs:List Addr)(f:Str)(fe:FD):FD:=fun δ=>(fe δ).bind fun d=>(jX d).bind fun o=>if o.1∈Cs then lkF f o.2.1 o.2.2 else none
noncomputable def fY(Cs:List Addr)(f:Str)(fm:FM):FM:=fun δ=>(fm δ).bind fun p=>match p.1 with
 |.ob C xs ds=>if C∈Cs then(lkF f xs ds).bind fun d=>some (sh d,p.2)else none
 |_=>none
noncomputable def ja(fm:FM)(fk:FD):FM:=fun δ=>(fm δ).bind fun p=>(fk p.2).bind fun x=>match x with
 |.int j=>match p.1 with
  |.seq ds=>(L2.atI ds j).bind fun d=>some (sh d,p.2)
  |.tup ds=>(L2.atI ds j).bind fun d=>if noo d then some (d,p.2)else none
  |_=>none
 |_=>none
def RepO.ob_inv{F}{xs}(r:RepO K F H v (.ob C xs ds) A):A=[]/\Rep K F v (.ob C xs ds):=by
 cases r with
 |imm i _=>rw[Dl.imm]at i;cases i
 |sho h=>exact⟨rfl,h⟩
def RepO.seq_inv{F}(r:RepO K F H v (.seq ds) A):A=[]/\Rep K F v (.seq ds):=by
 cases r with
 |imm i _=>rw[Dl.imm]at i;cases i
 |shr h=>exact⟨rfl,h⟩
section
variable {o:Expr} {fe:FD} {f:Str} {pos:Pos}
def Lo(u:PD X e fe)(o:∀C∈Cs,Cls X.K C/\NoAttr X.K C f)(x:attributeBase e f X.env (eval e X.env)=eval e X.env:=by rfl):PD X (.Attribute e f pos) (gm Cs f fe):=gj (w8 u x) fun{σ H Q δ d} R q k=>by
 unfold gm at q;obtain⟨D,B,q⟩:=Za.mp q;obtain⟨⟨C,xs,ds⟩,z,q⟩:=Za.mp q;split at q
 . rename_i m;refine ⟨δ,D,R,B,fun v H1 p s=>?_⟩
   obtain⟨a,dx,vs,rfl,y,l,r⟩:=s.objD z;obtain⟨w,t,j⟩:=zc r l q;exact⟨a,C,dx,_,w,rfl,y,(o C m).1,(o C m).2,t,k w H1 p j⟩
 . cases q
def GM(x:PW X e fm)(p:∀C∈Cs,Cls X.K C/\NoAttr X.K C f)(y:attributeBase e f X.env (eval e X.env)=eval e X.env:=by rfl):PW X (.Attribute e f pos) (fY Cs f fm):=dw (w8 x y) fun{σ H Q F δ As d δ'} R q k=>by
 unfold fY at q;obtain⟨⟨I,δ1⟩,G,q⟩:=Za.mp q;dsimp only at q;split at q
 . rename_i C xs ds;split at q
   . rename_i o;obtain ⟨c,D,q⟩:=Za.mp q;cases q;refine ⟨F,δ,As,_,_,R,G,fun v F1 H1 A Q5 B m t=>?_⟩
     obtain⟨_,s⟩:=t.ob_inv;obtain⟨a,dx,vs,rfl,z,l,r⟩:=s.objD rfl;obtain⟨w,u,j⟩:=zc r l D;exact⟨a,C,dx,_,w,rfl,m.fz _ _ z,(p C o).1,(p C o).2,u,k w F1 H1 [] Q5 B.bare m (RepO.of_sh m.fz j)⟩
   . cases q
 . cases q
def Kl (V:PW X e fm) (hk:PD X b fk) (O:iG b:=by intro _ _;rfl):PW X (.Subscript e b pos) (ja fm fk):=dw (sA (ix_list.or t8) V hk O) fun {σ H Q F δ As d δ'} R q k=>by
 unfold ja at q;obtain⟨⟨d0,δ1⟩,Z,q⟩:=Za.mp q;obtain⟨x,G,q⟩:=Za.mp q;dsimp only at G q;split at q
 . rename_i j;refine ⟨F,δ,As,d0,δ1,R,Z,fun v F1 H1 A Q5 D o C=>⟨δ1,.int j,o.toS,G,fun y H2 f I=>?_⟩⟩
   cases I;split at q
   . rename_i ds;obtain ⟨c,u,q⟩:=Za.mp q;cases q;obtain ⟨_,L⟩:=C.seq_inv;cases L with
     |@seq a vs _ S J =>obtain⟨w,r,p⟩:=J.atI u;exact .inl ⟨a,vs,j,w,rfl,rfl,(o.fz.trans f).seq S,r,k w F1 H2 [] Q5 (D.bare.grow f) (o.grow f) (RepO.of_sh (o.fz.trans f) p)⟩
   . rename_i ds;obtain ⟨c,u,q⟩:=Za.mp q;split at q
     . rename_i U;cases q;obtain ⟨a,vs,rfl,sq,z⟩:=C.parts;have l:=u;unfold L2.atI at l;obtain ⟨n,t,s⟩:=Za.mp l;obtain ⟨w,A1,B,A2,r,p,_,_⟩:=z.pick s;have Y:=p.noo_nil U;subst Y;refine .inr ⟨a,vs,j,w,rfl,rfl,fZ f sq,?_,k w F1 H2 [] Q5 (D.bare.grow f) (o.grow f) (p.frame (bI f) fun _ m=>nomatch m)⟩
       unfold L2.atI;rw[z.len,t];exact r
     . cases q
   . cases q
 . cases q
end
class yj(P:Program)(w:World)(K:ZB)(mg:Str->Option Value)(base:Heap)(k:outParam Nat)(C:outParam Addr)(m:outParam Str)(ps:outParam (List Str))(G:GQ):Prop where
 ex:∃f fd,i8 P w K mg base CX0 k f fd ps (iQ K ps.length G)/\BM K C m f/\Binds K fd ps []/\Cls K C
noncomputable def isC(C:Addr)(m:Str)(d:D):Bool:=match jX d with
 |some (C',xs,_)=>decide (C'=C)&&(cB m xs).isNone
 |none=>false
def mU{d:D}(h:isC C m d=true)(r:Rep K H v d):∃a dx fs,v=.ref a/\H a=some (.ins C dx fs)/\fs.lookup m=none:=by
 unfold isC at h;split at h
 . rename_i l xs ds e;rw[ZN]at h;obtain⟨a,dx,vs,rfl,f,_,_⟩:=r.objD e;have j:=Zza h.1;subst j;exact⟨a,dx,_,rfl,f,sQ (Option.isNone_iff_eq_none.mp h.2)⟩
 . cases h
def di(C:Addr)(m:Str)(G:GQ)(fo:FD)(ga:FA):FD:=fun δ=>(fo δ).bind fun d=>if isC C m d then(ga δ).bind fun ds=>(G (shs (d::ds))).bind fun q=>some q.1 else none
def bL(i:Nat)(C:Addr)(m:Str)(f:FM):FM:=fun δ=>match δ[i]? with
 |some (some d)=>if isC C m d then f δ else none
 |_=>none
section
variable {o:Expr} {g:FMA} {bs:Yh (Yg Nat)} {cs:Yh AK} {G:GQ} {pos:Pos} 
def Lg(J:PD X o fo)(F:yj X.prog X.w X.K X.mg X.base k C m ps G)(I:Room j X.A)(V:PAD X (e::es) ga)(hk:k<=j:=by decide)(L:(e::es).length+1=ps.length:=by kernel_rfl)
 (p:PlX X e es:=by rfl) (s:BkX X pos es:=by rfl)
 (D:eval (.Call (.Attribute o m Q8) (e :: es) [] pos) X.env=(do
  let z <- eval o X.env
  standAt Q8.atName
  let (f,first) <- holding [z] (getMethod z m pl)
  callWith pos f first (backTo pos (starEach (e::es) X.env)) (backToKw pos (keywordEach [] X.env))):=by rfl):PD X (.Call (.Attribute o m Q8) (e::es) [] pos) (di C m G fo ga):=by
 obtain⟨f,fd,F,O,U,S⟩:=F.ex;refine gj (yS J S O F (I.mono hk) U .nil jL V p s D) fun{σ H Q δ d} R q k=>?_
 unfold di at q;obtain⟨d0,Z,q⟩:=Za.mp q;split at q
 . rename_i hi;obtain ⟨ds,t,q⟩:=Za.mp q;obtain ⟨⟨r,Q4⟩,Y,q⟩:=Za.mp q;cases q;refine ⟨δ,d0,R,Z,fun v H1 x y=>?_⟩
   obtain⟨a,dx,fs,rfl,h1,h2⟩:=mU hi y;refine⟨a,dx,fs,rfl,h1,h2,δ,ds,R.mono x,t,fun vs H2 u B l=>?_⟩
   show iQ X.K ps.length G (.ref a::(vs++[])) H2 Q E0;rw[Zk];exact nV (x.trans u) (.cons (y.mono u) B) (by rw[Zn,l];exact L) Y k
 . cases q
def Hr(y:PD X o fo)(F:yj X.prog X.w X.K X.mg X.base k C m ps G)(x:Room j X.A)(hk:k<=j:=by decide)(z:1=ps.length:=by kernel_rfl)
 (u:eval (.Call (.Attribute o m Q8) [] [] pos) X.env=(do
  let s <- eval o X.env
  standAt Q8.atName
  let (f,first) <- holding [s] (getMethod s m pl)
  callWith pos f first (backTo pos (starEach [] X.env)) (backToKw pos (keywordEach [] X.env))):=by rfl):PD X (.Call (.Attribute o m Q8) [] [] pos) (di C m G fo ag):=by
 obtain⟨f,fd,F,B,I,D⟩:=F.ex;refine gj (qb y D B F (x.mono hk) I .nil jL u) fun{σ H Q δ d} R q k=>?_
 unfold di at q;obtain⟨O,L,q⟩:=Za.mp q;split at q
 . rename_i hi;obtain ⟨ds,l,q⟩:=Za.mp q;obtain ⟨⟨r,Q4⟩,J,q⟩:=Za.mp q;cases q;cases l;refine ⟨δ,O,R,L,fun v H1 t p=>?_⟩
   obtain⟨a,dx,fs,rfl,h1,h2⟩:=mU hi p;refine⟨a,dx,fs,rfl,h1,h2,?_⟩;exact(nV t (.cons p .nil) z J k:iQ X.K ps.length G [.ref a] H1 Q E0)
 . cases q
def Ki(i) (F:yj X.prog X.w X.K X.mg X.base k C m ps G) (Y:Room j X.A) (ha:PLA X (e::es) bs g) (hk:k<=j:=by decide) (Z:bs.length+1=ps.length:=by kernel_rfl)
 (hN:NmX X i x:=by kernel_rfl)
 (y:PlX X e es:=by rfl) (z:BkX X pos es:=by rfl)
 (V:eval (.Call (.Attribute (.Name x px) m Q8) (e :: es) [] pos) X.env=(do
  let L <- eval (.Name x px) X.env
  standAt Q8.atName
  let (f,first) <- holding [L] (getMethod L m pl)
  callWith pos f first (backTo pos (starEach (e::es) X.env)) (backToKw pos (keywordEach [] X.env))):=by rfl):PW X (.Call (.Attribute (.Name x px) m Q8) (e::es) [] pos) (bL i C m (aj (some i::bs) G (ae (aa i) g))):=by
 obtain⟨f,fd,F,hm,hb,hc⟩:=F.ex;refine dw (yS (iV hN) hc hm F (Y.mono hk) hb .nil jL ha y z V) fun{σ H Q F0 δ As d δ'} R q k=>?_
 unfold bL at q;split at q
 . rename_i d0 D;split at q
   . rename_i hi;unfold aj ae at q;obtain ⟨⟨ds,δ1⟩,l,q⟩:=Za.mp q;obtain ⟨⟨r,Q4⟩,eG,q⟩:=Za.mp q;cases q;obtain ⟨⟨d1,u⟩,e1,l⟩:=Za.mp l;obtain ⟨⟨I,t⟩,e3,l⟩:=Za.mp l;cases l;obtain ⟨v,A,Q5,h1,s,O,J⟩:=R.take e1;obtain ⟨v',o,U⟩:=R.val i _ D;rw [h1] at o;cases o;obtain ⟨a,dx,fs,rfl,h2,h3⟩:=mU hi (U.rep R.fz);refine ⟨.ref a,h1,a,dx,fs,rfl,h2,h3,F0,u,Q5,I,t,O,e3,fun vs F2 H2 B Q6 p R2 S lk=>?_⟩
     show iQ X.K ps.length G (.ref a::(vs++[])) H2 Q E0;rw[Zk];exact oh (bs:=some i::bs) (s.seq p fun x m=>(J.dom x m).1) R2 (.cons (p.stays O.domA J s.dj) S rfl) ⟨h1,lk⟩ (by rw[Zn,qt lk];exact Z) eG k
   . cases q
 . cases q
def GK(i) (F:yj X.prog X.w X.K X.mg X.base k C m ps G) (I:Room j X.A) (hk:k<=j:=by decide) (J:1=ps.length:=by kernel_rfl)
 (U:NmX X i x:=by kernel_rfl)
 (D:eval (.Call (.Attribute (.Name x px) m Q8) [] [] pos) X.env=(do
  let t <- eval (.Name x px) X.env
  standAt Q8.atName
  let (f,first) <- holding [t] (getMethod t m pl)
  callWith pos f first (backTo pos (starEach [] X.env)) (backToKw pos (keywordEach [] X.env))):=by rfl):PW X (.Call (.Attribute (.Name x px) m Q8) [] [] pos) (bL i C m (aj [some i] G (ae (aa i) am))):=by
 obtain⟨f,fd,F,L,S,O⟩:=F.ex;refine dw (qb (iV U) O L F (I.mono hk) S .nil jL D) fun{σ H Q F0 δ As d δ'} R q k=>?_
 unfold bL at q;split at q
 . rename_i d0 p;split at q
   . rename_i hi;unfold aj ae at q;obtain⟨⟨ds,δ1⟩,l,q⟩:=Za.mp q;obtain⟨⟨r,Q4⟩,Y,q⟩:=Za.mp q;cases q;obtain⟨⟨d1,y⟩,e1,l⟩:=Za.mp l;obtain⟨⟨ds3,u⟩,Z,l⟩:=Za.mp l;cases l;cases Z;obtain⟨v,A,Q5,h1,s,R1,z⟩:=R.take e1;obtain⟨v',o,B⟩:=R.val i _ p;rw[h1]at o;cases o;obtain⟨a,dx,fs,rfl,h2,V⟩:=mU hi (B.rep R.fz);refine⟨.ref a,h1,a,dx,fs,rfl,h2,V,?_⟩;exact(oh (bs:=[some i]) s R1 (.cons z .nil (by simp)) ⟨h1,True.intro⟩ J Y k:iQ X.K ps.length G [.ref a] H Q E0)
   . cases q
 . cases q
end
class MkQ(P:Program)(w:World)(K:ZB)(mg:Str->Option Value)(base:Heap)(k:outParam Nat)(x:outParam Str)(C:Addr)(ps:outParam (List Str))(G:GQ):Prop where
 ex:∃f fd,i8 P w K mg base CX0 k f fd ps (iQ K ps.length G)/\Mk K C f/\mg x=some (.ref C)/\Binds K fd ps []
noncomputable def gS(C:Addr)(bs:List (Option Nat))(G:GQ)(g:FMA):FM:=fun δ=>(g δ).bind fun p=>(G (.oo C [] []::p.1)).bind fun q=>match q with
 |(.non,some o::Q4)=>some (o,gu bs Q4 p.2)
 |_=>none
theorem sK{F}{bs}{G}{o}{Q:VK}{E}{x dx}(t:EvW F H As F1 H1 Q5 A)(U:RepA K F1 H1 σ δ1 Q5)(O:RepOs K F1 H1 vs ds A)(lk:Lk σ bs vs)(hn:vs.length+1=n)(D:H1 x=none)(S:H1 dx=none)(ne:dx≠x)
 (eG:G (.oo C [] []::ds)=some (.non,some o::Q4)) (k:∀v F' H' A Q3,EvW F H As F' H' Q3 A->RepA K F' H' σ (gu bs Q4 δ1) Q3->RepO K F' H' v o A->Q v H'):iQ K n G (.ref x::vs) (upd (upd H1 dx (.own x)) x (.ins C dx [])) (fun v H2=>v=.non/\Q (.ref x) H2) E:=by
 have J:Same H1 (upd (upd H1 dx (.own x)) x (.ins C dx [])):=fun a u e=>by rw[aF (bh e D),aF (bh e S)];exact e
 have Fx:F1 x=none:=by
  cases q:F1 x with
  |none=>rfl
  |some u=>rw[U.fz x u q]at D;cases D
 have rx:RepO K F1 (upd (upd H1 dx (.own x)) x (.ins C dx [])) (.ref x) (.oo C [] []) [x]:=.oo aH Fx rfl .nil;have L:=O.frame (bI J) fun a m=>by obtain⟨⟨u,e⟩,_⟩:=O.dom a m;rw[e];exact J a _ e
 have s:=U.grow J;have Z:x∉A:=fun m=>by obtain⟨⟨u,e⟩,_⟩:=O.dom x m;rw[D]at e;cases e
 have l:EvW F H As F1 (upd (upd H1 dx (.own x)) x (.ins C dx [])) Q5 (x::A):=⟨t.fs,(t.grow J).ks,t.nf,t.fa,fun a m=>by
  rcases Zu.mp m with z|z
  . subst z;exact t.old D
  . exact t.fA a z,Z3.mpr ⟨Z,t.nd⟩,fun i a m z=>by
  rcases Zu.mp z with z|z
  . subst z;obtain⟨⟨u,e⟩,_⟩:=U.dom m;rw[D]at e;cases e
  . exact t.dj i a m z⟩
 obtain⟨AA,Y,sub⟩:=(RepOs.cons rx L rfl:RepOs K F1 _ (.ref x::vs) (.oo C [] []::ds) (x::A)).toA s.fz l.nd;refine⟨by rw[Zn];exact hn,F1,_,AA,_,_,Y,eG,fun v F2 H2 AA2 B r f rv=>?_⟩
 have hv:v=.non:=by cases rv.rep f.fz;rfl
 refine⟨hv,?_⟩;have X:∀i j a,a∈Q5 i->a∉AA j:=fun i j a m z=>l.dj i a m (sub j a z)
 have R2:=s.beside r Y.domA f.fz X;have I:∀i j a,a∈Q5 i->a∉AA2 j:=fun i j a m z=>by
  rcases r.fa j a z with⟨j2,y⟩|y
  . exact X i j2 a m y
  . obtain⟨⟨u,e⟩,_⟩:=s.dom m;rw[y]at e;cases e
 obtain⟨X4,R3,V⟩:=nh R2 f.tail lk fun i j a m=>I i (j+1) a m
 obtain⟨w,hw,ro⟩:=f.val 0 o rfl;cases hw;have p:=l.call r sub s.domA fun i a m=>(V i a m).imp id fun ⟨j,z⟩=>⟨j+1,z⟩
 refine k _ F2 H2 (AA2 0) X4 ⟨p.fs,p.ks,p.nf,p.fa,fun a m=>?_,f.nd 0,fun i a m z=>?_⟩ R3 ro
 . rcases r.fa 0 a m with ⟨j,y⟩ | y
   . exact l.fA a (sub j a y)
   . exact l.old y
 . rcases V i a m with ⟨j,y⟩ | ⟨j,y⟩
   . exact I j 0 a y z
   . exact f.dj (j+1) 0 a (by lia) y z
section
variable {g:FMA} {bs:Yh (Yg Nat)} {G:GQ} {pos:Pos}
def GL(F:MkQ X.prog X.w X.K X.mg X.base k x C ps G)(B:Room j X.A)(U:PLA X (e::es) bs g)(hk:k+1<=j:=by decide)(L:Gl X x:=by rfl)(I:bs.length+1=ps.length:=by kernel_rfl)(s:NbX x:=by kernel_rfl)
 (O:PlX X e es:=by rfl) (l:BkX X pos es:=by rfl):PW X (.Call (.Name x p) (e::es) [] pos) (gS C bs G g):=by
 obtain⟨f,fd,F,M,J,S⟩:=F.ex;refine dw (Hm M F (B.mono hk) L J S .nil jL U s O l) fun{σ H Q F0 δ As d δ'} R q k=>?_
 unfold gS at q;obtain⟨⟨ds,δ1⟩,t,q⟩:=Za.mp q;obtain⟨⟨r,Q4⟩,Y,q⟩:=Za.mp q;split at q
 . rename_i o u D;cases q;cases D;refine ⟨F0,δ,As,ds,δ1,R,t,fun vs F1 H1 A Q5 V Z v lk x dx z m y=>?_⟩
   rw[Zk];exact sK V Z v lk (by rw[qt lk];exact I) z m y Y k
 . cases q
def CV(F:MkQ X.prog X.w X.K X.mg X.base k x C ps G)(y:Room j X.A)(hk:k+1<=j:=by decide)(I:Gl X x:=by rfl)(B:1=ps.length:=by kernel_rfl)(m:NbX x:=by kernel_rfl):PW X (.Call (.Name x p) [] [] pos) (gS C [] G am):=by
 obtain⟨f,fd,F,M,D,J⟩:=F.ex;refine dw (DL M F (y.mono hk) I D J .nil jL m) fun{σ H Q O δ As d δ'} R q k=>?_
 unfold gS at q;obtain⟨⟨ds,δ1⟩,s,q⟩:=Za.mp q;obtain⟨⟨r,Q4⟩,L,q⟩:=Za.mp q;split at q
 . rename_i o t z;cases q;cases z;cases s;exact fun x dx v l u=>sK (bs:=[]) EvW.refl R .nil True.intro B v l u L k
 . cases q
end
noncomputable def clr(n:Nat)(ι:DS):DS:=List.replicate n none++ι.drop n
def bi(n:Nat)(g:D->DS->Option DS)(fc:FT)(felt:FM):List D->DS->Option (List D×DS)
 |[],ι=>some ([],ι)
 |d::ds,ι=>(g (sh d) ι).bind fun ι1=>(fc ι1).bind fun b=>if b=true then(felt ι1).bind fun q=>(bi n g fc felt ds (clr n q.2)).bind fun t=>some (q.1::t.1,t.2)else bi n g fc felt ds (clr n ι1)
section
variable {F:Hp} {ι:DS} 
def EvW.re(e:EvW F H As F' H' Q5 A)(h:∀j a,a∈Q6 j->∃k,a∈Q5 k):EvW F H As F' H' Q6 A:=⟨e.fs,e.ks,e.nf,fun j a m=>let ⟨k,z⟩:=h j a m;e.fa k a z,e.fA,e.nd,fun j a m=>let ⟨k,z⟩:=h j a m;e.dj k a z⟩
theorem RepOs.stays(l:EvW F H As F' H' Q5 B)(o:BN H As){vs:Yh V}{ds:Yh D}{A:Yh Ye}(r:RepOs K F H vs ds A):(∀i a,a∈As i->a∉A)->RepOs K F' H' vs ds A:=by
 induction r using RepOs.ind with
 |nil=>exact fun _=>.nil
 |cons r _ j=>exact fun f=>.cons (l.stays o r fun i a m z=>f i a m (ZF _ z)) (j fun i a m z=>f i a m (ZE _ z)) rfl
theorem RepA.clr(R:RepA K F H σ ι As)(n) (r:n<=ι.length):RepA K F H σ (Dl.clr n ι) (fun j=>if j<n then[]else As j):=by
 have p:∀j,j<n->(Dl.clr n ι)[j]?=some none:=fun j f=>by unfold Dl.clr;rw[List.getElem?_append_left (by simpa using f),List.getElem?_replicate,if_pos f]
 have l:∀j,¬j<n->(Dl.clr n ι)[j]?=ι[j]?:=fun j f=>by
  unfold Dl.clr;rw[List.getElem?_append_right (by simpa using f),List.getElem?_drop]
  congr 1
  simp
  lia
 refine⟨R.fz,by rw[R.len];unfold Dl.clr;simp;lia,fun j d q=>?_,fun j h=>?_,fun j=>?_,fun j k a o m=>?_⟩
 . by_cases f:j < n
   . rw[p j f]at q;cases q
   . rw[l j f]at q;obtain⟨v,h1,h2⟩:=R.val j d q;exact⟨v,h1,by rw[if_neg f];exact h2⟩
 . skip
   split
   . rfl
   . rename_i f;refine R.non j fun d z=>h d ?_
     rw[l j f];exact z
 . skip
   split
   . exact Zz
   . exact R.nd j
 . skip
   split at m
   . cases m
   . split
     . exact fun z=>nomatch z
     . exact R.dj j k a o m
theorem RepA.padL(R:RepA K F H σ ι As)(n):RepA K F H (List.replicate n none++σ) (List.replicate n none++ι) (fun j=>if j<n then[]else As (j-n)):=by
 refine⟨R.fz,by simp[R.len],fun j d q=>?_,fun j h=>?_,fun j=>?_,fun j k a l m=>?_⟩
 . by_cases f:j < n
   . rw[List.getElem?_append_left (by simpa using f),List.getElem?_replicate,if_pos f]at q;cases q
   . rw [List.getElem?_append_right (by simpa using f)] at q ⊢
     simp only[List.length_replicate]at q ⊢;obtain⟨v,h1,h2⟩:=R.val _ d q;exact⟨v,h1,by rw[if_neg f];exact h2⟩
 . skip
   split
   . rfl
   . rename_i f;refine R.non _ fun d z=>h d ?_
     rw[List.getElem?_append_right (by simpa using f)]
     simpa using z
 . skip
   split
   . exact Zz
   . exact R.nd _
 . skip
   split at m
   . cases m
   . split
     . exact fun z=>nomatch z
     . exact R.dj _ _ a (by lia) m
theorem RepA.dropN(R:RepA K F H σ ι As)(n):RepA K F H (σ.drop n) (ι.drop n) (fun j=>As (n+j)) :=
 ⟨R.fz,by simp[R.len],fun j d q=>by rw[List.getElem?_drop]at q ⊢;exact R.val _ d q,fun j h=>R.non _ fun d z=>h d (by rw[List.getElem?_drop];exact z),fun j=>R.nd _,fun j k a f m=>R.dj _ _ a (by lia) m⟩
end
section
theorem oR{pos}{J}{xs}{ι0 ιe}{F0}{t}{g}{E:Yc->Yd->Prop}(I:L2.Inv X Q0 σ H₂ s₂)(hcm:X.calm=true)(O:CompG X scope cl T N js)
 (TT:uL X.prog X.w X.K tg J fp it tn) (st:tn 0 s₂.heap) (hf:∀b∈fp,nr X Q0 H₂ b) (itd:ItG X.K J F0 ds) (R0:RepA X.K F0 H₂ (List.replicate T.length none++fH js σ) ι0 AA0) (hg:∀C s₂ H₂ fp pn,PG (a4 X scope cl T N C s₂ H₂ fp pn) tg t) (good:jP X.K (fun l=>l.drop T.length=fH js σ) t g) (hc:∀C s₂ H₂ fp pn,rD (a4 X scope cl T N C s₂ H₂ fp pn) X6 fc) (he:∀C s₂ H₂ fp pn,PW (a4 X scope cl T N C s₂ H₂ fp pn) X8 felt)
 (hm:bi T.length g fc felt ds ι0=some (xs,ιe)) (hz:xs.length<=1000)
 (hRR:∀D C s' H' vs l F' Q3 G,s₂.heap.objs.size<=C->L2.Inv X Q0 σ (upd H' D (.lst vs)) s'->H' D=none->H₂ D=none->l.drop T.length=fH js σ->RepA X.K F' H' l ιe Q3->RepOs X.K F' H' vs xs G->EvW F0 H₂ AA0 F' H' Q3 G->(∃m,s'.heap.Ns C m)->upd H' D (.lst vs) C=none->RR (.ref D) C (.ok .next) s') :
 wpAny (model X.prog X.w) X.A (newList []) (fun acc U=>wpAny (model X.prog X.w) X.A (newFunctionEnv scope X.env.globals cl [] X.env.qual none .none (some X.env)) (fun cenv s₄ =>codeAny (model X.prog X.w) X.A (.compStart (.ListComp X8 [⟨tg,iter,X6,0⟩] scope pos) 0 (.ref it) acc { cenv with scope:=relabel scope X.env }) (RR acc cenv.locals) s₄) E U) E s₂:=by
 have objs:=TT.obj 0 s₂.heap st;have V:∀b∈fp,∃o,s₂.heap.get? b=some o:=fun b f=>let ⟨o,h,_⟩:=objs b f;⟨o,h⟩
 refine wpAny_newObj_type (wpAny_newFunctionEnv O.nocell (by intro y hy;simp at hy) (fun h₁ hns₁ Q=>?_) O.kind)
 generalize hP:s₂.heap.push { cls:=.type "list",dict:=none,data:=.seq ([]:Yh Yc).toArray }=P2 at hns₁ Q ⊢;have hC:P2.objs.size=s₂.heap.objs.size+1:=by rw[<- hP,Heap.size_push]
 generalize hCC:P2.objs.size=C at *
 have hCle:s₂.heap.objs.size<=C:=by lia
 have hDle:s₂.heap.objs.size<=s₂.heap.objs.size:=by lia
 have hDC:s₂.heap.objs.size≠C:=by lia
 have old:∀b o,s₂.heap.get? b=some o->h₁.get? b=some o:=fun b o e=>by refine Q.extBut b o (ZJ (ZD (ZU e) hCle)) (ZT _ ?_);rw[<- hP];exact ZT _ e
 have hacc:h₁.get? s₂.heap.objs.size=some { cls:=.type "list",data:=.seq ([]:Yh Yc).toArray }:=by refine Q.extBut s₂.heap.objs.size _ hDC (ZT _ ?_);rw[<- hP];exact ZX _ rfl
 have I0:=fun tk=>wk (tk:=tk) I hcm O hCle hf V old hns₁ I.len
 have dstk:=vw I hDle;have fne:∀b∈fp,b≠s₂.heap.objs.size:=fun b f e=>by obtain⟨o,h⟩:=V b f;exact absurd (ZU h) (by rw[e];exact ZK _)
 have cne:∀y c,cl.lookup y=some c->c≠s₂.heap.objs.size:=fun y c e z=>by obtain⟨v,o,h1,_⟩:=I.cell y c (O.cls y c e);exact absurd (ZU h1) (by rw[z];exact ZK _)
 have pne:∀p∈X.pn++Q0,p.1≠s₂.heap.objs.size:=fun p S e=>by exact absurd (ZU (I.pin p S).1) (by rw[e];exact ZK _)
 have stat:∀{H'}{pl},(∀b∈fp,H' b=none)->(∀p∈pl,∀b∈fp,p.1≠b)->∀b∈fp,nr (a4 X scope cl T N C s₂ H₂ fp (X.pn++Q0)) pl H' b:=fun{H' pl} hn hpl b f=>by
  obtain⟨o,h⟩:=V b f;refine⟨hn b f,ZJ (ZD (ZU h) hCle),fun z=>?_,.inl f,fun y c e=>(hf b f).2.2.2.2.1 y c (O.cls y c e),fun p S=>?_⟩
  . rcases Zu.mp (I.stkSub b z) with e | e
    . exact(hf b f).2.1 e
    . exact(hf b f).2.2.1 e
  . rcases Zt.mp S with q | q
    . exact(hf b f).2.2.2.2.2 p q
    . exact hpl p q b f
 have loop:∀ U,U={ s₂ with heap:=h₁,toks:=s₂.toks+([]:Yh (Str×Yc)).length } ->
  codeAny (model X.prog X.w) X.A (.compLoop (.ListComp X8 [⟨tg,iter,X6,0⟩] scope pos) 0 (.ref it) (.ref s₂.heap.objs.size) (compEnvC scope cl C X.env)) (RR (.ref s₂.heap.objs.size) C) U:=by
  rintro U rfl
  refine qS (fun n s=>∃i l H' vs F' Q3 G ι ys Q7,n=ds.length-i/\i<=ds.length/\L2.Inv (a4 X scope cl T N C s₂ H₂ fp (X.pn++Q0)) [] l H' s/\tn i s.heap/\(∀b∈fp,H' b=none) /\
   (∃Q1 k,Vals vs Q1/\s.heap.get? s₂.heap.objs.size=some { cls:=.type "list",data:=.seq Q1.toArray k })/\H' s₂.heap.objs.size=none/\l.drop T.length=fH js σ/\RepA X.K F' H' l ι Q3/\RepOs X.K F' H' vs ys G/\EvW F0 H₂ AA0 F' H' Q3 G/\bi T.length g fc felt (ds.drop i) ι=some (Q7,ιe)/\ys++Q7=xs) ?_ ds.length
   ⟨0,_,H₂,[],F0,AA0,[],ι0,[],xs,rfl,Nat.zero_le _,I0 _,TT.keep 0 _ _ st (fun b f o e=>old b o e),fun b f=>(hf b f).1,⟨[],0,.nil,hacc⟩,I.hok.fresh hDle,by simp,R0,.nil,EvW.refl,hm,rfl⟩
  rintro n s ⟨i,l,H',vs,F',Q3,G,ι,ys,Q7,rfl,hi,I',st',fr',⟨Q1,k,rv,hD⟩,fD,zσ,R',rr,ev,Y,hx⟩
  have lz:Q1.length<=1000:=by
   have h1:=rv.length;have h2:=rr.len;have h3:=congrArg List.length hx;rw[Zl]at h3
   lia
  have sF:=ev.fs.trans R'.fz
  by_cases hlt:i<ds.length
  . obtain ⟨go,yl⟩:=(itd i H' sF).1 hlt;have hd0:ds[i]? = some ds[i]:=by simp [hlt]
    rw[List.drop_eq_getElem_cons hlt]at Y;obtain⟨ι1,e1,Y⟩:=Za.mp (Y);obtain⟨ok,eok,Y⟩:=Za.mp Y;have I1:L2.Inv (a4 X scope cl T N C s₂ H₂ fp (X.pn++Q0)) [(s₂.heap.objs.size,{ cls:=.type "list",data:=.seq Q1.toArray k })] l H' s:=I'.pins_of fun p S=>by
     have:p=(s₂.heap.objs.size,{ cls:=.type "list",data:=.seq Q1.toArray k }):=by simpa using S
     subst this;exact⟨hD,fD,hDC,dstk,fun v z=>by cases z⟩
    refine thn (TT.item (a4 X scope cl T N C s₂ H₂ fp (X.pn++Q0)) rfl rfl rfl rfl i _ s l H' (fun _ _=>False) I1 (stat fr' fun p S b f=>by
     have:p=(s₂.heap.objs.size,{ cls:=.type "list",data:=.seq Q1.toArray k }):=by simpa using S
     subst this;exact(fne b f).symm) st' go) fun r s1 h0=>?_
    obtain⟨u,hr,h4⟩:=h0;subst hr;refine thn h4 fun _ s2 h0=>?_
    obtain⟨y,H'',I2,ru,yy,st2,fr2⟩:=h0;obtain⟨sH,d,hd,rd⟩:=yl y H'' yy;have hd':d=ds[i]:=by rw[hd0]at hd;exact(ZH hd).symm
    subst hd';have I3:=I2.pinned (stat fr2 fun p S b f=>by
     have:p=(s₂.heap.objs.size,{ cls:=.type "list",data:=.seq Q1.toArray k }):=by simpa using S
     subst this;exact(fne b f).symm) (TT.obj _ _ st2)
    refine thn (hg C s₂ H₂ fp (X.pn++Q0) _ s2 l H'' y u (fun H H4=>H4=H''/\∃Z,RepA X.K F' H'' H ι1 Z/\EvW F0 H₂ AA0 F' H'' Z G/\H.drop T.length=fH js σ) I3 ru (good (R'.grow sH) (rd F' ev.fs (R'.grow sH).fz) Zz (fun _ _ _ z=>nomatch z) e1 zσ fun H Z R4 h4 z4=>⟨rfl,Z,R4,(ev.grow sH).re fun j a m=>(h4 j a m).elim id fun z=>(nomatch z),z4⟩)) fun _ s4 h0=>?_
    obtain⟨H,H4,I4,e2,Z,R4,ev4,z4⟩:=h0;subst e2;refine thn (hc C s₂ H₂ fp (X.pn++Q0) _ s4 H H4 (fun b H5=>b=ok/\Same H4 H5) I4 ⟨ι1,ok,R4.toS,eok,fun H5 s5=>⟨rfl,s5⟩⟩) fun okv sT h0=>?_
    obtain⟨HT,IT,hok',sT4⟩:=h0;have hDT:sT.heap.get? s₂.heap.objs.size=some { cls:=.type "list",data:=.seq Q1.toArray k }:=(IT.pin (s₂.heap.objs.size,{ cls:=.type "list",data:=.seq Q1.toArray k }) (by simp)).1
    have fDT:HT s₂.heap.objs.size=none:=(IT.pin (s₂.heap.objs.size,{ cls:=.type "list",data:=.seq Q1.toArray k }) (by simp)).2.1
    have RT:=R4.grow sT4;have evT:=ev4.grow sT4;have rrT:RepOs X.K F' HT vs ys G:=rr.frame (bI (sH.trans sT4)) fun a m=>by obtain⟨⟨ws,e⟩,_⟩:=rr.dom a m;rw[e];exact(sH.trans sT4) a _ e
    have hnT:T.length<=H.length:=by have h1:=IT.len;have h2:H.length=N.length:=h1;rw[h2,O.len];exact Nat.le_add_right _ _
    cases ok with
    |false =>
     rw[hok',if_neg (by decide)]
     rw[if_neg ZC]at Y;have pf:∀b∈fp,∀B,s2.heap.get? b=some B->sT.heap.get? b=some B/\HT b=none:=fun b f B L=>by have:=IT.pin (b,B) (ZE _ (ZE _ (jg f L)));exact⟨this.1,this.2.1⟩
     refine⟨ds.length-(i+1),by lia,i+1,H,HT,vs,F',_,G,_,ys,Q7,rfl,hlt,IT.pins_of (pins':=[]) (fun p S=>by simp at S),?_,?_,⟨Q1,k,rv,hDT⟩,fDT,z4,RT.clr T.length (by rw[<- RT.len];exact hnT),rrT,evT.re (fun j a m=>?_),Y,hx⟩
     . refine TT.keep _ _ _ st2 fun b f B L=>(pf b f B L).1
     . intro b f;obtain⟨B,L,_⟩:=TT.obj _ _ st2 b f;exact(pf b f B L).2
     . skip
       split at m
       . cases m
       . exact⟨j,m⟩
    | true =>
     rw[hok',if_pos rfl];rw[if_pos rfl]at Y;obtain⟨⟨e,ι2⟩,e2,Y⟩:=Za.mp Y;obtain⟨⟨rest2,ιe2⟩,e3,Y⟩:=Za.mp Y;cases Y;refine thn (he C s₂ H₂ fp (X.pn++Q0) _ sT H HT (fun v H5=>∃F5 As5 A5,EvW F' HT Z F5 H5 As5 A5/\RepA X.K F5 H5 H ι2 As5/\RepO X.K F5 H5 v e A5) IT ⟨F',ι1,Z,e,ι2,RT,e2,fun v F5 H5 A5 As5 ev5 R5 r5=>⟨F5,As5,A5,ev5,R5,r5⟩⟩) fun wv s5 h0=>?_
     obtain⟨v,H5,I5,rw5,F5,As5,A5,ev5,R5,r5⟩:=h0;have hD5:s5.heap.get? s₂.heap.objs.size=some { cls:=.type "list",data:=.seq Q1.toArray k }:=(I5.pin (s₂.heap.objs.size,{ cls:=.type "list",data:=.seq Q1.toArray k }) (by simp)).1
     have fD5:H5 s₂.heap.objs.size=none:=(I5.pin (s₂.heap.objs.size,{ cls:=.type "list",data:=.seq Q1.toArray k }) (by simp)).2.1
     have pf:∀b∈fp,∀B,s2.heap.get? b=some B->s5.heap.get? b=some B/\H5 b=none:=fun b f B L=>by have:=I5.pin (b,B) (ZE _ (ZE _ (jg f L)));exact⟨this.1,this.2.1⟩
     refine call_meets F.slot_list_append ⟨_,hD5,rfl⟩ F.entry_list_append (F.args_list_append_2 _ _) (PySem.list_append s₂.heap.objs.size Q1.toArray k wv (by rw[ZG];exact eQ lz)) ⟨hD5,?_⟩
     have q:=PySem.IsL.update hD5 (fun a=>a.push wv)
     have I6:L2.Inv (a4 X scope cl T N C s₂ H₂ fp (X.pn++Q0)) [] H H5 { s5 with heap:=s5.heap.update s₂.heap.objs.size (Obj.mapSeq fun a=>a.push wv),toks:=s5.toks } :=
      (I5.pins_of (pins':=[]) fun p S=>by simp at S).turned (it:=s₂.heap.objs.size) (t':=s5.toks) (fun b B f hu=>(Heap.get?_update_other s5.heap _ (Ne.symm f)).trans hu) fD5 hDC (.inr hDle) cne (fun p S=>by
       rcases Zt.mp S with z|z
       . exact pne p z
       . simp at z)
     have rr5:RepOs X.K F5 H5 (vs++[v]) (ys++[e]) (G++A5):=(RepOs.stays ev5 RT.domA rrT evT.dj).snoc r5;have ev6:EvW F0 H₂ AA0 F5 H5 As5 (G++A5):=evT.seq ev5 fun x m=>(rrT.dom x m).1
     refine⟨ds.length-(i+1),by lia,i+1,H,H5,vs++[v],F5,_,G++A5,_,ys++[e],rest2,rfl,hlt,I6,?_,?_,?_,fD5,z4,R5.clr T.length (by rw[<- R5.len];exact hnT),rr5,ev6.re (fun j a m=>?_),e3,?_⟩
     . refine TT.keep _ _ _ st2 fun b f B L=>?_
       exact(Heap.get?_update_other s5.heap _ (Ne.symm (fne b f))).trans (pf b f B L).1
     . intro b f;obtain⟨B,L,_⟩:=TT.obj _ _ st2 b f;exact(pf b f B L).2
     . have hf7:Q1.toArray.push wv=(Q1++[wv]).toArray:=by simp
       rw[hf7]at q;exact⟨Q1++[wv],_,rv.append (.cons rw5 .nil),q⟩
     . skip
       split at m
       . cases m
       . exact⟨j,m⟩
     . rw[<- hx];simp
  . have hie:i=ds.length:=by lia
    subst hie;rw[List.drop_length]at Y;have hl0:([],ι)=(Q7,ιe):=ZH Y;obtain⟨l1,l2⟩:=ZY hl0;subst l1 l2;rw[Zk]at hx;subst hx;refine thn (TT.done (a4 X scope cl T N C s₂ H₂ fp (X.pn++Q0)) rfl rfl rfl rfl ds.length [(s₂.heap.objs.size,{ cls:=.type "list",data:=.seq Q1.toArray k })] s l H' (fun _ _=>False) (I'.pins_of fun p S=>by
     have:p=(s₂.heap.objs.size,{ cls:=.type "list",data:=.seq Q1.toArray k }):=by simpa using S
     subst this;exact⟨hD,fD,hDC,dstk,fun v z=>by cases z⟩) (stat fr' fun p S b f=>by
     have:p=(s₂.heap.objs.size,{ cls:=.type "list",data:=.seq Q1.toArray k }):=by simpa using S
     subst this;exact(fne b f).symm) st' ((itd _ H' sF).2 (ZM _))) fun r s1 h0=>?_
    obtain⟨hr,I8⟩:=h0;subst hr;have hD8:s1.heap.get? s₂.heap.objs.size=some { cls:=.type "list",data:=.seq Q1.toArray k }:=(I8.pin (s₂.heap.objs.size,{ cls:=.type "list",data:=.seq Q1.toArray k }) (by simp)).1
    have dn:∀b,∀u,H' b=some u->b≠s₂.heap.objs.size:=fun b u z=>bh z fD
    have un:Un (frs X.stack) fp H₂ (upd H' s₂.heap.objs.size (.lst vs)) s₂.heap s1.heap:=by
     have b0:=I8.base;refine⟨fun b B e n1 n2 n3=>b0.keep b B e n1 n2 n3,fun b B e n1 n2 n3=>b0.slot b B e n1 n2 n3,fun b B e n1 n3=>?_,fun b B e n3=>b0.there b B e n3,fun b zs e=>?_,fun b B u e=>?_,fun b ps e=>?_⟩
     . rw[aF (ZJ (ZU e))];exact b0.free b B e n1 n3
     . have z:=b0.tups b zs e;rw[aF (dn _ _ z)];exact z
     . have z:=b0.frzs b B u e;rw[aF (dn _ _ z)];exact z
     . obtain⟨more,z⟩:=b0.tbls b ps e;exact⟨more,by rw[aF (dn _ _ z)];exact z⟩
    have hok:HOk X.prog X.w (upd H' s₂.heap.objs.size (.lst vs)) s1.heap:=fun b u z=>by
     by_cases f:b=s₂.heap.objs.size
     . rw[f]at z ⊢;rw[aH]at z;cases z;exact⟨eQ (by have:=rr.len;lia),Q1,k,rv,hD8⟩
     . rw[aF f]at z;exact(I8.hok b u z).stay (fun _ _ _ q=>q) (fun c q=>by rw[aF (dn _ _ q)];exact q) fun c ys q=>by rw[aF (dn _ _ q)];exact q
    have IX:L2.Inv X Q0 σ (upd H' s₂.heap.objs.size (.lst vs)) s1:=I.call' I8.os un hok I8.bare fun b f=>⟨(hf b f).2.2.2.1,(hf b f).2.1,(hf b f).2.2.2.2.1,(hf b f).2.2.2.2.2⟩
    obtain⟨m8,hn8,_⟩:=I8.loc;refine hRR s₂.heap.objs.size C s1 H' vs l F' Q3 G hCle IX fD (I.hok.fresh hDle) zσ R' rr ev ⟨m8,hn8⟩ ?_;rw[aF (Ne.symm hDC)];exact I8.free
 exact codeAny_compStart_list (loop _ rfl) (TT.self X.A 0 _ _ _ (TT.keep 0 _ _ st (fun b f o e=>old b o e)) (loop _ rfl))
end
theorem mC{F}:∀{bs}{δ δ1}{ds}{As},RepA K F H σ δ As->takes bs δ=some (ds,δ1)->∃vs,LkV σ bs vs
 |[],_,_,_,_,_,_=>⟨[],True.intro⟩
 |.val::_,_,_,_,_,_,e=>by cases e
 |.lent i::bs,δ,δ1,ds,As,R,e=>by obtain⟨⟨q,l⟩,o,e⟩:=Za.mp (e);obtain⟨⟨p,j⟩,m,_⟩:=Za.mp e;obtain⟨v,A,s,h1,_,r,_⟩:=R.takeN o;obtain⟨vs,h⟩:=mC r m;exact⟨v::vs,h1,h⟩
 |.view i::bs,δ,δ1,ds,As,R,e=>by
  have f:cR i (takes bs) δ=some (ds,δ1):=e;unfold cR at f;split at f
  . rename_i q h0;obtain⟨v,h1,_⟩:=R.val i _ h0;obtain⟨vs,h⟩:=mC R f;exact⟨v::vs,h1,h⟩
  . cases f
theorem qs:∀{js}{vs},LkV σ (js.map AK.lent) vs->fH js σ=vs.map some/\Lk σ (js.map some) vs/\uQ (js.map AK.lent) vs=vs
 |[],[],_=>⟨rfl,True.intro,rfl⟩
 |j::js,v::vs,h=>by
  obtain⟨h1,h2,f⟩:=qs h.2;refine⟨?_,⟨h.1,h2⟩,congrArg (v::·) f⟩;show(match σ[j]? with|some o=>o|none=>none)::fH js σ=_
  rw[h.1,h1];rfl
 |[],_::_,h=>Zzb h
 |_::_,[],h=>Zzb h
def aD(src:FMA)(n:Nat)(js:List Nat)(g:D->DS->Option DS)(fc:FT)(felt:FM):FM:=fun δ=>(src δ).bind fun q=>(takes (js.map AK.lent) q.2).bind fun c=>(bi n g fc felt q.1 (List.replicate n none++c.1.map some)).bind fun t =>if t.1.length<=1000 then some (.lst t.1,gu (js.map some) (t.2.drop n) c.2)else none
section
def tm {F} {σ'} {δc ιe} {Acc} {ws} {xs} {ι0} {σ0} {D} (Y:EvW F H As F1 H1 Q5 []) (r:EvW F1 H1 Q5 F1 H1 Asc A) (C:RepA X.K F1 H1 σ δc Asc) (Z:RepA X.K F1 H1 σ0 ι0 (fun j=>if j < T.length then [] else AA (j - T.length))) (sub:∀ j a,a∈AA j->a∈A) (G:RepA X.K F' H' σ' ιe Q3) (v:RepOs X.K F' H' ws xs Acc) (o:EvW F1 H1 (fun j=>if j < T.length then [] else AA (j - T.length)) F' H' Q3 Acc) (t:σ'.drop T.length=fH js σ) (S:fH js σ=vs.map some) (Q:Lk σ (js.map some) vs) (p:H' D=none) :
 ∃X4,EvW F H As F' (upd H' D (.lst ws)) X4 (D::Acc)/\RepA X.K F' (upd H' D (.lst ws)) σ (gu (js.map some) (ιe.drop T.length) δc) X4/\RepO X.K F' (upd H' D (.lst ws)) (.ref D) (.lst xs) (D::Acc):=by
 have Rd:=G.dropN T.length;rw[t,S]at Rd;have l:∀j a,a∈(fun j=>if j<T.length then[]else AA (j-T.length)) j->a∈A:=fun j a m=>by
  by_cases I:j<T.length
  . have q:a∈(if j < T.length then [] else AA (j - T.length)):=m
    rw[if_pos I]at q;cases q
  . have q:a∈(if j < T.length then [] else AA (j - T.length)):=m
    rw[if_neg I]at q;exact sub _ a q
 have J:∀i j a,a∈Asc i->a∉(fun j=>if j<T.length then[]else AA (j-T.length)) j:=fun i j a m z=>r.dj i a m (l j a z)
 have R2:=C.beside o Z.domA G.fz J;have B:∀i j a,a∈Asc i->a∉Q3 j:=fun i j a m z=>by
  rcases o.fa j a z with⟨U,y⟩|y
  . exact J i U a m y
  . obtain⟨⟨u,e⟩,_⟩:=C.dom m;rw[y]at e;cases e
 obtain⟨X4,L,V⟩:=nh R2 Rd Q fun i j a m=>B i (T.length+j) a m
 have f:=(Y.go r).call o l C.domA fun i a m=>(V i a m).imp id fun ⟨j,z⟩=>⟨T.length+j,z⟩
 have s:=bv p (.lst ws);have O:F' D=none:=by
  cases z:F' D with
  |none=>rfl
  |some u=>rw[G.fz D u z]at p;cases p
 have x:EvW F H As F' (upd H' D (.lst ws)) X4 (D::Acc):=⟨f.fs,(f.grow s).ks,f.nf,f.fa,fun a m=>by
  rcases Zu.mp m with z|z
  . subst z;exact f.old p
  . exact f.fA a z,Z3.mpr ⟨fun m=>(by
    obtain⟨⟨us,e⟩,_⟩:=v.dom D m;rw[p]at e;cases e),f.nd⟩,fun i a m z=>by
  rcases Zu.mp z with z|z
  . subst z;obtain⟨⟨us,e⟩,_⟩:=L.dom m;rw[p]at e;cases e
  . exact f.dj i a m z⟩
 exact⟨X4,x,L.grow s,.lst aH O (v.frame (bI s) fun a m=>by obtain⟨⟨us,e⟩,_⟩:=v.dom a m;rw[e];exact s a _ e)⟩
def CY{pos}{t}{g}(hi:PIQ X tg iter src)(hg:∀C s₂ H₂ fp l,PG (a4 X scope cl T N C s₂ H₂ fp l) tg t)(good:∀u,jP X.K (fun j=>j.drop T.length=u) t g)(hc:∀C s₂ H₂ fp l,rD (a4 X scope cl T N C s₂ H₂ fp l) X6 fc)(he:∀C s₂ H₂ fp l,PW (a4 X scope cl T N C s₂ H₂ fp l) X8 felt)(O:CompG X scope cl T N js)(B:X.calm=true:=by rfl)
 (hs:FsX X iter:=by intro _;rfl):PW X (.ListComp X8 [⟨tg,iter,X6,0⟩] scope pos) (aD src T.length js g fc felt):=by
 intro Q0 s σ H Q I ⟨F,δ,As,d,δ',RA,q,k⟩;unfold aD at q;obtain⟨⟨ds,δ1⟩,U,q⟩:=Za.mp q;obtain⟨⟨cs,δc⟩,p,q⟩:=Za.mp q;obtain⟨⟨xs,ιe⟩,hm,q⟩:=Za.mp q;split at q
 . rename_i hz;cases q;rw [eval_ListComp];refine wpAny_comprehension_free rfl hs O.clos O.kind O.names ?_;refine wpAny_mono (hi Q0 s σ H (fun J H1=>∃ F1 Q5,EvW F H As F1 H1 Q5 []/\RepA X.K F1 H1 σ δ1 Q5/\ItG X.K J F1 ds) I ⟨F,δ,As,ds,δ1,RA,U,fun J F1 H1 Q5 S r f=>⟨F1,Q5,S,r,f⟩⟩) (fun v s1 h1=>wpAny_mono h1 (fun itv s2 h2=>?_) fun _ _ z=>z) fun _ _ z=>z
   obtain⟨it,fp,tn,J,H2,rfl,I2,TT,st,hf,F1,Q5,S,r,f⟩:=h2;obtain⟨vs,lk⟩:=mC r p;obtain⟨A,Asc,o,Rc,rs,_⟩:=jS r p lk;obtain⟨l1,l2,l3⟩:=qs lk;rw[l3]at rs;obtain⟨AA,V,sub⟩:=rs.toA r.fz o.nd;have Y:=V.padL T.length;rw[<- l1]at Y;refine oR I2 B O TT st hf f Y hg (good _) hc he hm hz ?_;intro D C s' H' ws j F' Q3 Z hC IX fD fD2 x R' rr L ⟨m,hn⟩ fC;refine⟨m,hn,fun h' y=>⟨.ref D,_,Ba IX I2 hC fC y,rfl,?_⟩⟩
   obtain⟨X4,G,R4,r4⟩:=tm S o Rc Y sub R' rr L x l1 l2 fD;exact k (.ref D) F' _ (D::Z) X4 G R4 r4
 . cases q
def zoC{σs}(h:i<n):ZO (fun f=>f.drop n=σs) i:=fun σ v z=>by show(List.set σ i (some v)).drop n=σs;rw[List.drop_set_of_lt h];exact z
def ud(i) (h:i<n) (σs):jP K (fun f=>f.drop n=σs) (sR i) (gN i):=EF i (zoC h)
def Ig(is) (h:∀i∈is,i<n) (σs):jP K (fun f=>f.drop n=σs) (Ii K is.length (nD is)) (jR is):=qC is fun i m=>zoC (h i m)
end
def nz(G:GQ)(g:FA):FM:=fun δ=>(g δ).bind fun ds=>(G (shs ds)).bind fun q=>if own q.1 then some (q.1,δ)else none
def qF{F}{G}{r}{Q}{E}(R:RepA K F H σ δ As)(q:Same H H1)(s:Reps K H1 vs ds)(y:vs.length=n)(B:G (shs ds)=some (r,Q4))(x:own r=true)
 (k:∀v F' H' A Q3,EvW F H As F' H' Q3 A->RepA K F' H' σ δ Q3->RepO K F' H' v r A->Q v H'):iQ K n G vs H1 Q E:=by
 obtain⟨AA,C,_⟩:=(RepOs.of_sh (Same.refl H1) s).toA (Same.refl H1) Zz;refine⟨y,H1,shs ds,AA,r,Q4,C,B,fun v F' H' D A p j o=>?_⟩
 have f:=q.trans p.fs;have l:=f.trans j.fz;have t:∀a∈A,H a=none:=fun a m=>by
  cases z:H a with
  |none=>rfl
  |some u=>have:=(o.dom a m).2;rw[f a u z]at this;cases this
 exact k v F H' A As (Ev.fresh l t p.nd fun i a m=>(R.dom m).1).toW (R.grow l) (o.thaw (R.fz.trans f) x)
section
variable {o:Expr} {pos:Pos} {G:GQ} 
def C3(F:ym X.prog X.w X.K X.mg X.base k x ps G)(y:Room j X.A)(L:PAD X (e::es) ga)(hk:k<=j:=by decide)(D:Gl X x:=by rfl)(B:(e::es).length=ps.length:=by kernel_rfl)(o:NbX x:=by kernel_rfl)
 (I:PlX X e es:=by rfl) (m:BkX X pos es:=by rfl):PW X (.Call (.Name x p) (e::es) [] pos) (nz G ga):=by
 obtain⟨f,fd,F,C,v,J⟩:=F.ex;refine dw (mM F (y.mono hk) D C v J .nil jL L o I m) fun{σ H Q S δ As d δ'} R q k=>?_
 unfold nz at q;obtain⟨ds,s,q⟩:=Za.mp q;obtain⟨⟨r,Q4⟩,O,q⟩:=Za.mp q;split at q
 . rename_i z;cases q;refine ⟨δ,ds,R.toS,s,fun vs H1 t u l=>?_⟩
   show iQ X.K ps.length G (vs++[]) H1 Q E0;rw[Zk];exact qF R t u (l.trans B) O z k
 . cases q
def jJ(C:Addr)(m:Str)(G:GQ)(fo:FD)(ga:FA):FM:=fun δ=>(fo δ).bind fun d=>if isC C m d then(ga δ).bind fun ds=>(G (shs (d::ds))).bind fun q=>if own q.1 then some (q.1,δ)else none else none
def CU(z:PD X o fo)(F:yj X.prog X.w X.K X.mg X.base k C m ps G)(y:Room j X.A)(hk:k<=j:=by decide)(B:1=ps.length:=by kernel_rfl)
 (x:eval (.Call (.Attribute o m Q8) [] [] pos) X.env=(do
  let t <- eval o X.env
  standAt Q8.atName
  let (f,first) <- holding [t] (getMethod t m pl)
  callWith pos f first (backTo pos (starEach [] X.env)) (backToKw pos (keywordEach [] X.env))):=by rfl):PW X (.Call (.Attribute o m Q8) [] [] pos) (jJ C m G fo ag):=by
 obtain⟨f,fd,F,D,J,I⟩:=F.ex;refine dw (qb z I D F (y.mono hk) J .nil jL x) fun{σ H Q U δ As d δ'} R q k=>?_
 unfold jJ at q;obtain⟨S,O,q⟩:=Za.mp q;split at q
 . rename_i hi;obtain ⟨ds,p,q⟩:=Za.mp q;obtain ⟨⟨r,Q4⟩,L,q⟩:=Za.mp q;split at q
   . rename_i l;cases q;cases p;refine ⟨δ,S,R.toS,O,fun v H1 u s=>?_⟩
     obtain⟨a,dx,fs,rfl,h1,h2⟩:=mU hi s;refine⟨a,dx,fs,rfl,h1,h2,?_⟩;exact(qF R u (.cons s .nil) B L l k:iQ X.K ps.length G [.ref a] H1 Q E0)
   . cases q
 . cases q
end
noncomputable def EK(a b:D):Option D:=match a,b with
 |.str i,.str j=>if i.length+j.length<=sizeLine then some (.str (i++j))else none
 |_,_=>none
noncomputable def xB(a b:D):Option D:=match a,b with
 |.str i,.str j=>some (.bl (!(Builtin.Str.occurrences j i 0 j.length 1).isEmpty))
 |_,_=>none
noncomputable def j4(a b:D):Option D:=match a,b with
 |.str z,.int i=>if z.length<=sizeLine then(L2.atI z.cps.toList i).map fun c=>D.str ⟨#[c]⟩else none
 |_,_=>none
noncomputable def EJ:List D->Option D
 |[.str z]=>if z.length<=sizeLine then some (.int z.length)else none
 |_=>none
noncomputable def lv:List D->Option D
 |[.int i]=>if i.natAbs.log2<1920 then some (.str (toString i))else none
 |_=>none
noncomputable def vW:List D->Option D
 |[.str x]=>if x.length<=640 then(PySem.intText? x).map D.int else none
 |_=>none
section
def yK:R2D K (fun x y H Q=>∃i j,x=.str i/\y=.str j/\i.length+j.length<=sizeLine/\Q (.str (i++j)) H) EK:=by
 intro x y H Q a b d l f e k;unfold EK at e;split at e
 . rename_i i j;split at e
   . rename_i m;cases e;cases l;cases f;exact⟨i,j,rfl,rfl,m,k _ H (Same.refl H) (.str _)⟩
   . cases e
 . cases e
def Kb:R2D K (fun x y H Q=>∃i j,x=.str i/\y=.str j/\Q (.bl (!(Builtin.Str.occurrences j i 0 j.length 1).isEmpty)) H) xB:=by
 intro x y H Q a b d l f e k;unfold xB at e;split at e
 . rename_i i j;cases e;cases l;cases f;exact⟨i,j,rfl,rfl,k _ H (Same.refl H) (.bl _)⟩
 . cases e
def CI:R2D K M9 j4:=by
 intro x y H Q a b d j f e k;unfold j4 at e;split at e
 . rename_i z i;split at e
   . rename_i l;obtain⟨c,m,rfl⟩:=Zb.mp e;cases j;cases f;exact⟨z,i,c,rfl,rfl,l,m,k _ H (Same.refl H) (.str _)⟩
   . cases e
 . cases e
def ID:CallD K (fun xs H Q=>∃z,xs=[.str z]/\z.length<=sizeLine/\Q (.int z.length) H) EJ:=by
 intro xs H Q ds d r e k;unfold EJ at e;split at e
 . rename_i z;split at e
   . rename_i j;cases e;obtain⟨v,rfl,f⟩:=dU r;cases f;exact⟨z,rfl,j,k _ H (Same.refl H) (.int _)⟩
   . cases e
 . cases e
def IB:CallD K (fun xs H Q=>∃i,xs=[.int i]/\i.natAbs.log2<1920/\Q (.str (toString i)) H) lv:=by
 intro xs H Q ds d r e k;unfold lv at e;split at e
 . rename_i i;split at e
   . rename_i j;cases e;obtain⟨v,rfl,f⟩:=dU r;cases f;exact⟨i,rfl,j,k _ H (Same.refl H) (.str _)⟩
   . cases e
 . cases e
def uz:CallR X (.type "int") (fun xs H Q=>∃x n,xs=[.str x]/\x.length<=640/\PySem.intText? x=some n/\Q (.int n) H):=by intro Q0 s σ H xs us Q I r h;obtain⟨x,n,rfl,l,j,q⟩:=h;obtain⟨u,rfl,f⟩:=r.one;obtain⟨t,rfl⟩:=f;exact W.KIN.call_text j l ⟨.int n,H,I.tok _,⟨_,rfl⟩,q⟩
def IF:CallD K (fun xs H Q=>∃x n,xs=[.str x]/\x.length<=640/\PySem.intText? x=some n/\Q (.int n) H) vW:=by
 intro xs H Q ds d r e k;unfold vW at e;split at e
 . rename_i x;split at e
   . rename_i l;obtain⟨n,j,rfl⟩:=Zb.mp e;obtain⟨v,rfl,f⟩:=dU r;cases f;exact⟨x,n,rfl,l,j,k _ H (Same.refl H) (.int _)⟩
   . cases e
 . cases e
end
def yF:V->List V->Hp->VK->Prop:=fun x xs H Q=>∃i j,x=.str i/\xs=[.str j]/\Q (.bl (Txt.startswith i j)) H
def Jm:V->List V->Hp->VK->Prop:=fun x xs H Q=>∃i j,x=.str i/\xs=[.str j]/\Q (.bl (Txt.endswith i j)) H
def J8:V->List V->Hp->VK->Prop:=fun x xs H Q=>∃i j,x=.str i/\xs=[.str j]/\(j.length==0)=false/\i.length<=sizeLine/\(Txt.split i j).length<=sizeLine/\∀p,H p=none->Q (.ref p) (upd H p (.lst ((Txt.split i j).map V.str)))
def Jk(K:ZB):V->List V->Hp->VK->Prop:=fun x xs H Q=>∃i p ys,x=.str i/\xs=[.ref p]/\SqL K H p (ys.map V.str)/\JoinOk i ys=true/\Q (.str (Txt.join i ys)) H
theorem uW:∀ys n,Vals (ys.map V.str) (PySem.strsFrom n ys)
 |[],_=>.nil
 |y::ys,n=>.cons ⟨_,rfl⟩ (uW ys (n+1))
theorem r8:∀{ys}{Q1},Vals (ys.map V.str) Q1->∃l:Yh (Str×Tok),Q1=PySem.strValues l/\l.map (fun x=>x.1)=ys
 |[],_,.nil=>⟨[],rfl,rfl⟩
 |y::ys,_,.cons r t=>by obtain⟨l,rfl,h⟩:=r8 t;obtain⟨tk,rfl⟩:=r;exact⟨(y,tk)::l,rfl,by simp[h]⟩
section
def AR:MtR X "str.startswith" yF:=by intro Q0 s σ H x xs v us Q I f l h;obtain⟨i,j,rfl,rfl,q⟩:=h;obtain⟨t,rfl⟩:=f;obtain⟨u,rfl,m⟩:=l.one;obtain⟨t',rfl⟩:=m;exact SC.startswith ⟨.bl _,H,I,rfl,q⟩
def HM:MtR X "str.endswith" Jm:=by intro Q0 s σ H x xs v us Q I f l h;obtain⟨i,j,rfl,rfl,q⟩:=h;obtain⟨t,rfl⟩:=f;obtain⟨u,rfl,m⟩:=l.one;obtain⟨t',rfl⟩:=m;exact SC.endswith ⟨.bl _,H,I,rfl,q⟩
def Eb:MtR X "str.split" J8:=by
 intro Q0 s σ H x xs v us Q I o p h;obtain⟨i,j,rfl,rfl,m,y,f,q⟩:=h;obtain⟨t,rfl⟩:=o;obtain⟨u,rfl,r⟩:=p.one;obtain⟨t',rfl⟩:=r;have l:=q s.heap.objs.size I.fresh;unfold Txt.split at f l
 by_cases h1:(decide (i.length<j.length)||decide (Builtin.Str.strKind i<Builtin.Str.strKind j))=true
 . rw[if_pos h1]at f l;exact call_meets F.slot_str_split rfl F.entry_str_split (F.args_str_split_2 _ _) (meets_str_split_cannot_occur i j t t' h1) ⟨.ref s.heap.objs.size,_,I.lnew (ys:=[.str i]) (.cons ⟨t,rfl⟩ .nil) f,rfl,l⟩
 . rw [if_neg h1] at f l
   by_cases h2:(Builtin.Str.occurrences i j 0 i.length (i.length+1)).isEmpty=true
   . rw[if_pos h2]at f l;exact call_meets F.slot_str_split rfl F.entry_str_split (F.args_str_split_2 _ _) (meets_str_split_not_found i j t t' (Bool.eq_false_iff.mpr h1) m h2) ⟨.ref s.heap.objs.size,_,I.lnew (ys:=[.str i]) (.cons ⟨t,rfl⟩ .nil) f,rfl,l⟩
   . rw[if_neg h2]at f l;exact call_meets F.slot_str_split rfl F.entry_str_split (F.args_str_split_2 _ _) (meets_str_split_sep i j t t' (Bool.eq_false_iff.mpr h1) m (Bool.eq_false_iff.mpr h2) y f) ⟨.ref s.heap.objs.size,_,I.lnew (uW _ _) (by rw[Zm];exact f),rfl,l⟩
def HL:MtR X "str.join" (Jk X.K):=by intro Q0 s σ H x xs v us Q I f j h;obtain⟨i,p,ys,rfl,rfl,y,B,q⟩:=h;obtain⟨t,rfl⟩:=f;obtain⟨u,rfl,m⟩:=j.one;cases m;obtain⟨Q1,r,⟨o,n,h1,h2,_,C⟩,_⟩:=I.list y;obtain⟨l,rfl,z⟩:=r8 r;exact SC.join ⟨o,h1,h2,n,C⟩ z B fun t' k=>⟨.str _,H,I.tok _,⟨_,rfl⟩,q⟩
end
noncomputable def dZ(x:Str):List D:=x.cps.toList.map fun c=>D.str ⟨#[c]⟩
noncomputable def Its(x:Str):It where
 go:=fun i _=>i<x.cps.size
 stop:=fun i _=>x.cps.size<=i
 yld:=fun i H v H'=>H'=H/\∃c,x.cps[i]?=some c/\v=.str ⟨#[c]⟩
def zU {ty} (f:ty = "str_ascii_iterator" \/ ty = "str_iterator") (it) (x) (t):uL P w K tg (Its x) [it] it (fun i h=>i<=x.cps.size/\h.IsStrIter it ty x t i):=by
 have W:∀A,A.handled=none->Walks P w A it [it] [it] x.cps.size (SignAt x) fun i h=>h.IsStrIter it ty x t i:=fun A V=>by
  rcases f with rfl|rfl
  . exact Walks.strAscii V it x t
  . exact Walks.strWide V it x t
 refine⟨Zr.mpr rfl,fun i h st b j=>?_,fun i h h' st k=>⟨st.1,?_⟩,?_,?_,fun A i s Q E st q=>?_⟩
 . obtain⟨o,e,_,d⟩:=st.2;rw[Zr.mp j];exact⟨o,e,fun v z=>by rw[d]at z;cases z⟩
 . obtain⟨o,e,c,d⟩:=st.2;exact⟨o,k it (Zr.mpr rfl) o e,c,d⟩
 . intro X G B J D i Q0 s σ H E I m st l;subst G B J;obtain ⟨U,f1,f2,S,O,L⟩:=m it (Zr.mpr rfl);refine (W X.A (I.ok.hd D)).item i s _ _ l st.2 fun v h' tk Y r y=>?_
   obtain⟨c,u,C,rfl⟩:=Y;have Z:L2.Inv X Q0 σ H { s with heap:=h',toks:=tk }:=I.turned (fun b o j e=>y b o (fun z=>j (Zr.mp z)) e) U f1 S O L
   obtain⟨o,e,oc,od⟩:=r;have p:h'.IsStrIter it ty x t (i+1):=⟨o,e,oc,od⟩;refine⟨_,rfl,zm e oc od (by rcases f with rfl|rfl<;>decide) ⟨.str ⟨#[c]⟩,H,Z,⟨u,rfl⟩,⟨rfl,c,C,rfl⟩,⟨l,p⟩,fun b j=>(m b j).1⟩⟩
 . intro X G B J D i Q0 s σ H E I m st l;subst G B J;obtain⟨U,f1,f2,S,O,L⟩:=m it (Zr.mpr rfl);have hi:=Nat.le_antisymm st.1 l;subst hi;exact(W X.A (I.ok.hd D)).done s _ _ st.2 fun h' tk y=>⟨rfl,I.turned (fun b o j e=>y b o (fun z=>j (Zr.mp z)) e) U f1 S O L⟩
 . rcases f with rfl | rfl
   . exact wpAny_pyIter_striter_ascii st.2 q
   . exact wpAny_pyIter_striter_wide st.2 q
def Eo{F}(x):ItF K (Its x) F (dZ x):=by
 intro i H2 s;unfold dZ;refine⟨fun hi=>?_,fun hi=>(show x.cps.size<=i by simpa using hi)⟩
 have f:i<x.cps.size:=by simpa using hi
 refine⟨f,fun v H' y=>?_⟩
 obtain⟨e,c,j,rfl⟩:=y;refine⟨e,.str ⟨#[c]⟩,?_,.str _⟩;rw[List.getElem?_map];have:x.cps.toList[i]?=some c:=by simpa using j
 rw[this];rfl
def i9(f:FD):FMA:=fun δ=>(f δ).bind fun d=>match d with
 |.str x=>some (dZ x,δ)
 |_=>none
section
def DF (z:PD X l f):PIQ X tg l (i9 f):=by
 intro Q0 s σ H R I ⟨F,δ,As,ds,δ',RA,e,k⟩;unfold i9 at e;obtain⟨d,D,e⟩:=Za.mp e;split at e
 . rename_i x;cases e;refine thn (z Q0 s σ H (fun v H1=>v=.str x/\Same H H1) I ⟨δ,.str x,RA.toS,D,fun v H1 j y=>by cases y;exact ⟨rfl,j⟩⟩) fun u j h0=>?_
   obtain⟨v,H1,m,r,C,p⟩:=h0;subst C;obtain⟨t,rfl⟩:=r;refine wpAny_pyIter_strU ?_;have q:PySem.strIterType x = "str_ascii_iterator" \/ PySem.strIterType x = "str_iterator":=by
    unfold PySem.strIterType;split
    . exact .inl rfl
    . exact .inr rfl
   refine⟨j.heap.objs.size,[j.heap.objs.size],_,_,H1,rfl,m.kept fun b o e=>ZT _ e,zU q _ x t,⟨Nat.zero_le _,_,ZX _ rfl,rfl,rfl⟩,fun b B=>?_,k _ F H1 As (EvW.grew p) (RA.grow p) (Eo x).g⟩
   rw[Zr.mp B];exact m.fpOk (ZM _) m.fresh
 . cases e
end
def aN:D->D->Option D:=fun a b=>(OU a b).or (EK a b)
section
variable {o:Expr} {pos X0:Pos}
def Hz(j:PD X a fa)(f:PD X b fb):PD X (.BinOp a .Add b pos) (f2 aN fa fb):=qe ((op_add.or DZ).or qj) (((mJ fun _ _ _=>.int _).or CL).or yK) j f
def GO(j:PW X a wa)(f:PW X b wb):PW X (.BinOp a .Add b pos) (bY aN wa wb):=CT ((op_add.or DZ).or qj) (((mJ fun _ _ _=>.int _).or CL).or yK) j f
def Ll(l:PD X a fa)(j:PD X b fb)(f:behindInMarks .In b=false:=by with_unfolding_all rfl):PD X (.Compare a [.In] [b] pos) (f2 xB fa fb):=jf AG Kb l j f
def CW(l:PW X a wa)(j:PW X b wb)(f:iG b:=by intro _ _;rfl):PW X (.Subscript a b pos) (bY j4 wa wb):=imp (sA LP l j f) fun _ _ _=>vQ CI
structure MtD(K:ZB)(T:String)(r:V->List V->Hp->VK->Prop)(G:D->List D->Option D):Prop where
 ty:∀(x:V)(H:Hp)(d:D)(ds:List D)(z:D),Rep K H x d->G d ds=some z->tyV K T x H
 go:∀(x:V)(xs:List V)(H1 H2:Hp)(Q:VK)(d:D)(ds:List D)(z:D),Rep K H1 x d->Same H1 H2->Reps K H2 xs ds->G d ds=some z->(∀w H',Same H2 H'->Rep K H' w z->Q w H')->r x xs H2 Q
def fMt(G:D->List D->Option D)(fo:FD)(ga:FA):FD:=fun δ=>(fo δ).bind fun d=>(ga δ).bind fun ds=>G d ds
noncomputable def ir(d:D)(ds:List D):Option D:=match d,ds with
 |.str i,[.str j]=>some (.bl (Txt.startswith i j))
 |_,_=>none
noncomputable def vX(d:D)(ds:List D):Option D:=match d,ds with
 |.str i,[.str j]=>some (.bl (Txt.endswith i j))
 |_,_=>none
def nE:List D->Option (List Str)
 |[]=>some []
 |d::ds=>(oS d).bind fun x=>(nE ds).map (x::·)
def ly(d:D)(ds:List D):Option D:=match d with
 |.str i=>(oi ds).bind fun xs=>(nE xs).bind fun ys=>if JoinOk i ys=true then some (.str (Txt.join i ys))else none
 |_=>none
def nK{vs}{ds}{ys}(r:Reps K H vs ds):nE ds=some ys->vs=ys.map V.str:=by
 induction r using Reps.ind generalizing ys with
 |nil=>intro e;cases e;rfl
 |cons r _ f =>intro e;obtain⟨x,ex,e⟩:=Za.mp e;obtain⟨zs,j,rfl⟩:=Zb.mp e;rw[(r.oS ex).1,f j];rfl
def AU:MtD K "str" yF ir:=by
 refine⟨fun x H d ds z f e=>?_,fun x xs H1 H2 Q d ds z f s m e k=>?_⟩
 . unfold ir at e;split at e
   . cases f;rfl
   . cases e
 unfold ir at e;split at e
 . rename_i i j;cases e;cases f;obtain⟨v,rfl,l⟩:=dU m;cases l;exact⟨i,j,rfl,rfl,k _ H2 (Same.refl _) (.bl _)⟩
 . cases e
def HR:MtD K "str" Jm vX:=by
 refine⟨fun x H d ds z f e=>?_,fun x xs H1 H2 Q d ds z f s m e k=>?_⟩
 . unfold vX at e;split at e
   . cases f;rfl
   . cases e
 unfold vX at e;split at e
 . rename_i i j;cases e;cases f;obtain⟨v,rfl,l⟩:=dU m;cases l;exact⟨i,j,rfl,rfl,k _ H2 (Same.refl _) (.bl _)⟩
 . cases e
def HQ:MtD K "str" (Jk K) ly:=by
 refine⟨fun x H d ds z j e=>?_,fun x xs H1 H2 Q d ds z j s q e k=>?_⟩
 . unfold ly at e;split at e
   . cases j;rfl
   . cases e
 unfold ly at e;split at e
 . rename_i i;obtain ⟨ws,f,e⟩:=Za.mp e;obtain ⟨ys,t,e⟩:=Za.mp e;split at e
   . rename_i r;cases e;cases j;unfold oi at f;split at f
     . cases f;obtain ⟨v,rfl,l⟩:=dU q;cases l with
       |@lst p vs _ o m=>exact⟨i,p,ys,rfl,rfl,by rw[<- nK m t];exact SqL.of o,r,k _ H2 (Same.refl _) (.str _)⟩
     . cases f;obtain ⟨v,rfl,l⟩:=dU q;cases l with
       |@seq p vs _ o m=>exact⟨i,p,ys,rfl,rfl,by rw[<- nK m t];exact o,r,k _ H2 (Same.refl _) (.str _)⟩
     . cases f
   . cases e
 . cases e
def yU {T id} {name} {r:V->Yh V->Hp->VK->Prop} {G} (O:PlainAttrs T) (p:Slot T name id) (u:typeOf (.builtin id)=pure (.type "method_descriptor")) (Y:MtR X id r) (I:MtD X.K T r G) (U:PD X o fo) (Z:PAD X (e::es) ga)
 (m:attributeBase o name X.env (eval o X.env)=eval o X.env:=by rfl)
 (s:((backTo X0 (starEach (e :: es) X.env)).all (fun x=>!x.1) && (backToKw X0 (keywordEach [] X.env)).all (fun x=>x.1.isSome)
  && decide ((e::es).length+([]:Yh Keyword).length+(if([]:Yh Keyword).isEmpty then 0 else 1)<30))=true:=by rfl)
 (j:(Q8.endLine==X0.line)=true:=by rfl) (S:PlX X e es:=by rfl) (f:(backTo X0 (starEach es X.env)).any (·.1)=false:=by rfl):PD X (.Call (.Attribute o name Q8) (e::es) [] X0) (fMt G fo ga) :=
 gj (vm O p u Y U Z m s j S f) fun{σ H Q δ d} R q k=>by unfold fMt at q;obtain⟨z,e0,q⟩:=Za.mp q;obtain⟨ds,y,q⟩:=Za.mp q;exact⟨δ,z,R,e0,fun v H1 C D=>⟨I.ty v H1 z ds d D q,δ,ds,R.mono C,y,fun vs H2 B L l=>I.go v vs H1 H2 Q z ds d D B L q fun w H' J t=>k w H' ((C.trans B).trans J) t⟩⟩
noncomputable def lG(fo:FD)(ga:FA):FM:=fun δ=>(fo δ).bind fun d=>(ga δ).bind fun ds=>match d,ds with
 |.str i,[.str j]=>if(j.length==0)=false/\i.length<=sizeLine/\(Txt.split i j).length<=sizeLine then some (.lst ((Txt.split i j).map D.str),δ)else none
 |_,_=>none
theorem pV:∀(ys:Yh Str),Reps K H (ys.map V.str) (ys.map D.str)
 |[]=>.nil
 |y::ys=>.cons (.str y) (pV ys)
theorem qB:∀(ys:Yh Str),cZ (ys.map D.str)=true
 |[]=>rfl
 |y::ys=>by show(imm (.str y)&&cZ (ys.map D.str))=true;rw[qB ys];rfl
def CS (ho:PD X o fo) (ha:PAD X (e :: es) ga)
 (s:attributeBase o "split" X.env (eval o X.env)=eval o X.env:=by rfl)
 (y:((backTo X0 (starEach (e :: es) X.env)).all (fun x=>!x.1) && (backToKw X0 (keywordEach [] X.env)).all (fun x=>x.1.isSome)
  && decide ((e::es).length+([]:Yh Keyword).length+(if([]:Yh Keyword).isEmpty then 0 else 1)<30))=true:=by rfl)
 (r:(Q8.endLine==X0.line)=true:=by rfl) (hs:PlX X e es:=by rfl) (f:(backTo X0 (starEach es X.env)).any (·.1)=false:=by rfl):PW X (.Call (.Attribute o "split" Q8) (e::es) [] X0) (lG fo ga) :=
 dw (vm F.plainAttrs_str F.slot_str_split F.type_str_split Eb ho ha s y r hs f) fun {σ H Q L δ As d δ'} R q k=>by
  unfold lG at q;obtain⟨d0,e0,q⟩:=Za.mp q;obtain⟨ds,G,q⟩:=Za.mp q;split at q
  . rename_i i j _;split at q
    . rename_i D;cases q;refine ⟨δ,.str i,R.toS,e0,fun v H1 J Z=>?_⟩
      cases Z;refine⟨rfl,δ,[.str j],R.toS.mono J,G,fun vs H2 S Y l=>?_⟩
      obtain⟨u,rfl,U⟩:=dU Y;cases U;refine⟨i,j,rfl,rfl,D.1,D.2.1,D.2.2,fun p B=>?_⟩
      have t:=J.trans S;have O:=bv B (.lst ((Txt.split i j).map V.str));have C:H p=none:=by
       cases z:H p with
       |none=>rfl
       |some u=>rw[t p u z]at B;cases B
      have I:=t.trans O;refine k _ L _ [p] As (Ev.fresh I (fun a m=>by rw[Zr.mp m];exact C) (by simp) fun i a m=>(R.dom m).1).toW (R.grow I) (.lst aH ?_ (u5 (pV _) (qB _)))
      cases z:L p with
      |none=>rfl
      |some u=>rw[R.fz p u z]at C;cases C
    . cases q
  . cases q
end
def EvW.freezes{F}(e:EvW F H As F1 H1 Q5 A)(R:RepA K F1 H1 σ δ Q5)(r:RepOs K F1 H1 vs ds A) :
 ∃F2,EvW F H As F2 H1 Q5 []/\RepA K F2 H1 σ δ Q5/\Reps K F2 vs (shs ds):=by
 have f:=mW (A:=A) R.fz;have l:Same (frz F1 H1 A) H1:=uf;have z:=r.freeze f mX fun a vs m e=>pq e m
 refine⟨frz F1 H1 A,⟨e.fs.trans f,e.ks,fun a u h n m=>?_,e.fa,fun _ m=>(nomatch m),Zz,fun _ _ _ z=>(nomatch z)⟩,R.froz f l fun j a m=>?_,z⟩
 . refine gH (e.ks a _ h m) (e.nf a u h n m) fun z=>?_
   rcases e.fA a z with⟨j,y⟩|y
   . exact m j y
   . rw[h]at y;cases y
 . obtain⟨⟨vs,q⟩,n⟩:=R.dom m;exact gH q n (e.dj j a m)
theorem LR{F}{a}(o:SqL K F a vs)(r:Reps K F vs ds):ItG K (IZ fun H xs=>SqL K H a xs) F (enF 0 ds):=by
 intro i H2 s;have h1:=s.seq o;have v:=r.length;rw[ul];refine⟨fun hi=>⟨⟨vs,vs[i]'(by lia),h1,by simp[show i<vs.length by lia]⟩,fun x H' y=>?_⟩,fun hi=>⟨vs,h1,by lia⟩⟩
 obtain⟨p,u,rfl,q,rfl,f⟩:=y;obtain⟨d,t,m⟩:=r.getV (f vs h1);refine⟨bv q _,.tup [.int (i:Int),d],?_,fun F' l j=>?_⟩
 . rw[um,t,Nat.zero_add];rfl
 . rw[sh,shs,shs,shs];exact .tup (SqT.of aH) (.cons (.imm rfl (.int _)) (.cons (RepO.of_sh j (m.mono l)) .nil rfl) rfl)
theorem HZ{F}{a b}{ws}{es}(t:SqL K F a vs)(r:Reps K F vs ds)(f:SqL K F b ws)(r':Reps K F ws es):ItG K (Itz K a b) F (List.zipWith (fun d e=>D.tup [d,e]) ds es):=by
 intro i H2 s;have h1:=s.seq t;have h2:=s.seq f;have H:=r.length;have G:=r'.length;rw[List.length_zipWith];refine⟨fun hi=>⟨⟨vs,ws,vs[i]'(by lia),ws[i]'(by lia),h1,h2,by simp[show i<vs.length by lia],by simp[show i<ws.length by lia]⟩,fun x H' y=>?_⟩,fun hi=>⟨vs,ws,h1,h2,by lia⟩⟩
 obtain⟨p,u,v,rfl,z,rfl,o,m⟩:=y;obtain⟨d,C,q⟩:=r.getV (o vs h1);obtain⟨e,B,re⟩:=r'.getV (m ws h2);refine⟨bv z _,.tup [d,e],by rw[List.getElem?_zipWith,C,B],fun F' l j=>?_⟩
 rw[sh,shs,shs,shs];exact .tup (SqT.of aH) (.cons (RepO.of_sh j (q.mono l)) (.cons (RepO.of_sh j (re.mono l)) .nil rfl) rfl)
def rV(f:FM):FMA:=fun δ=>(f δ).bind fun p=>match sh p.1 with
 |.seq ds=>some (enF 0 ds,p.2)
 |_=>none
noncomputable def zR(fa fb:FM):FMA:=fun δ=>(fa δ).bind fun p=>(fb p.2).bind fun q=>match sh p.1,sh q.1 with
 |.seq ds,.seq es=>some (List.zipWith (fun d e=>D.tup [d,e]) ds es,q.2)
 |_,_=>none
section
variable {fa fb:FM} {pt pos:Pos}
def KN (s:Gl X "enumerate") (r:X.mg "enumerate" = none) (t:PW X a fa) (f:starEach [a] X.env=(false,eval a X.env)::starEach [] X.env:=by rfl) (j:(backTo pos (starEach [] X.env)).any (·.1)=false:=by rfl) :
 PIQ X (.Tuple es kt pt) (.Call (.Name "enumerate" p) [a] [] pos) (rV fa):=sP (Nn s r (cD t gh f) f j) fun {σ H R F δ As ds δ'} B e k=>by
 unfold rV at e;obtain⟨⟨d,δ1⟩,x,e⟩:=Za.mp e;split at e
 . rename_i es f;cases e;refine ⟨F,δ,As,d,_,B,x,fun v F1 H1 A Q5 u y q=>?_⟩
   obtain⟨F2,l,R2,_,z⟩:=u.freeze y q;rw[f]at z;cases z with
   |@seq p vs _ m o=>exact⟨p,rfl,.inl ⟨⟨vs,R2.fz.seq m⟩,k _ F2 H1 Q5 l R2 (LR m o)⟩⟩
 . cases e
def Hf (I:Gl X "zip") (G:X.mg "zip" = none) (L:PW X a fa) (J:PW X b fb) (r:starEach [a,b] X.env=[(false,eval a X.env),(false,eval b X.env)]:=by rfl) (f:starEach [b] X.env=[(false,eval b X.env)]:=by rfl) :
 PIQ X (.Tuple es kt pt) (.Call (.Name "zip" p) [a,b] [] pos) (zR fa fb):=sP (KO I G (pY L (pY J yL (by unfold PlX;rw[f];rfl)) (by unfold PlX;rw[r,f])) r f) fun {σ H R F δ As ds δ'} U e k=>by
 unfold zR at e;obtain⟨⟨d,δ1⟩,Q,e⟩:=Za.mp e;obtain⟨⟨d',u⟩,m,e⟩:=Za.mp e;dsimp only at m e;split at e
 . rename_i us ws h1 h2;cases e;refine ⟨F,δ,As,[d,d'],δ',U,?_,fun vs F1 H1 A Q5 O S x l=>?_⟩
   . unfold ae am;rw[Q];show((Option.bind _ _).bind _)=_;rw[m];rfl
   obtain⟨F2,q,R2,z⟩:=O.freezes S x;rw[shs,shs,shs,h1,h2]at z;cases z with
   | cons C t =>
    cases t with
    | cons B t =>
     cases t;cases C with
     |@seq p vs _ s y =>
      cases B with
      |@seq D v _ j o=>exact⟨p,D,rfl,⟨_,R2.fz.seq s⟩,⟨_,R2.fz.seq j⟩,k _ F2 H1 Q5 q R2 (HZ s y j o)⟩
 . cases e
end
noncomputable def gq(z:Str)(lo hi:Option Int):Str:=if((Builtin.Str.strSliceIndices lo hi 1 z.length).length==z.length)=true then z else⟨((Builtin.Str.strSliceIndices lo hi 1 z.length).filterMap fun i=>z.cps[i]?).toArray⟩
def OF:V->Option Int->Option Int->Hp->VK->Prop:=fun x lo hi H Q=>∃z,x=.str z/\(gq z lo hi).length<=sizeLine/\Q (.str (gq z lo hi)) H
section
variable {o:Expr} {fe:FD} {pos X0:Pos}
def JX:SlR X OF:=by
 intro Q0 s σ H x v vl vu lo hi y Q I m o pl pu h;obtain⟨z,rfl,f,q⟩:=h;obtain⟨t,rfl⟩:=m;refine⟨"str",_,PyProof.Rows.slot_str_getitem.lookup,rfl,?_⟩;obtain⟨l,r,rfl⟩:∃l:Yg (Int×Tok),vl=PySem.partValue l/\lo=l.map (fun x=>x.1):=by
  cases pl with
  |int i t=>exact⟨some (i,t),rfl,rfl⟩
  |none=>exact⟨none,rfl,rfl⟩
 obtain⟨u,p,rfl⟩:∃l:Yg (Int×Tok),vu=PySem.partValue l/\hi=l.map (fun x=>x.1):=by
  cases pu with
  |int i t=>exact⟨some (i,t),rfl,rfl⟩
  |none=>exact⟨none,rfl,rfl⟩
 subst r p;refine wpAny_getItem_str_slice (st:=none) o rfl ?_;unfold PySem.sliceMade;unfold gq at q f;show(if(true&&(Builtin.Str.strSliceIndices (l.map (fun x=>x.1)) (u.map (fun x=>x.1)) 1 z.length).length==z.length)=true then Made.val (Value.str z t)else Made.str ⟨_⟩).post _ s
 rw[Bool.true_and];split
 . rename_i j;rw[if_pos j]at q;exact⟨.str z,H,I,⟨t,rfl⟩,q⟩
 . rename_i j;rw[if_neg j]at q f;exact⟨f,.str _,H,I.tok _,⟨_,rfl⟩,q⟩
def uh(f:FD)(fl fh:FO):FD:=fun δ=>(f δ).bind fun d=>(fl δ).bind fun l=>(fh δ).bind fun h=>match d with
 |.str z=>if(gq z l h).length<=sizeLine then some (.str (gq z l h))else none
 |_=>none
def Az(u:PD X e f)(t:POD X lo fl)(s:POD X hi fh):PD X (.Subscript e (.Slice lo hi none p2) pos) (uh f fl fh):=gj (mL JX u t s) fun{σ H Q δ d} R q k=>by
 unfold uh at q;obtain⟨D,B,q⟩:=Za.mp q;obtain⟨l,x,q⟩:=Za.mp q;obtain⟨h,y,q⟩:=Za.mp q;split at q
 . rename_i z _ _;split at q
   rotate_left
   . cases q
   rename_i r;cases q;refine⟨δ,.str z,R,B,fun v H1 j p=>⟨δ,l,R.mono j,x,fun H2 m=>⟨δ,h,R.mono (j.trans m),y,fun C o=>?_⟩⟩⟩
   cases p;exact⟨z,rfl,r,k _ C ((j.trans m).trans o) (.str _)⟩
 . cases q
end
noncomputable def isS(k:Str):Value->Bool
 |.str a _=>a==k
 |_=>false
def yH(K:ZB):V->List V->Hp->VK->Prop:=fun x xs H Q=>∃(l:Addr)(ns:List Str)(k:Str)(j:Nat),x=.ref l/\xs=[.str k]/\SqL K H l (ns.map V.str)/\(ns.findIdx? fun i=>i==k)=some j/\Q (.int (j:Int)) H
theorem AS:MtR X "list.index" (yH X.K):=by
 intro Q0 s σ H x vs v us Q I S U h;obtain⟨l,z,k,j,rfl,rfl,hq,hj,q⟩:=h;cases S;obtain⟨u,rfl,Y⟩:=U.one;obtain⟨t,rfl⟩:=Y;obtain⟨Q1,r,p,hz⟩:=I.list hq;obtain⟨⟨c,dd,dt,O⟩,L,hc,n,hd⟩:=p.isList;cases hc;cases hd;have len:Q1.length=z.length:=by rw[<- r.length,Zm]
 obtain⟨jl,jk,Z⟩:=List.findIdx?_eq_some_iff_getElem.mp hj;have f:∀m(B:m<Q1.toArray.size),∃t,Q1.toArray[m]=.str (z[m]'(by rw[ZG]at B;lia)) t:=fun m B=>by
  have G:m<Q1.length:=by simpa using B
  obtain⟨u,J,t,rfl⟩:=r.get (show(z.map V.str)[m]?=some (V.str (z[m]'(by lia))) by rw[List.getElem?_map,Zy (by lia)];rfl)
  rw[Zy G]at J;exact⟨t,by simpa using J⟩
 have C:j<Q1.toArray.size:=by rw[ZG];lia
 refine call_meets F.slot_list_index ⟨_,L,rfl⟩ F.entry_list_index (F.args_list_index_2 _ _) (PySem.SeqAt.list_indexAt l Q1.toArray n dd O (.str k t) (isS k) j C ?_ ?_ ?_) ⟨L,fun y m=>?_,?_⟩
 . have:Q1.length<=2 ^ 24:=by have:(z.map V.str).length<=2 ^ 24:=hz;rw [Zm] at this;lia
   lia
 . obtain⟨t',e⟩:=f j C;rw[e];exact jk
 . intro m B D;obtain⟨t',e⟩:=f m B;rw[e];have:=Z m D;simpa[isS]using this
 . obtain⟨i,hi,e⟩:=Array.getElem_of_mem m;obtain⟨t',e'⟩:=f i hi;rw[<- e,e'];exact PySem.SeqAt.EqAt.str_str _ _ _ _
 . exact⟨.int (j:Int),H,I.kept fun b o e=>e,⟨_,rfl⟩,q⟩
def eR(d:D)(ds:List D):Option D:=match ds with
 |[.str k]=>(asL d).bind fun xs=>(nE xs).bind fun ys=>(ys.findIdx? fun i=>i==k).map fun(j:Nat)=>D.int (j:Int)
 |_=>none
def AV:MtD K "list" (yH K) eR:=by
 refine⟨fun x H d ds z f e=>?_,fun x xs H1 H2 Q d ds z f s q e k=>?_⟩
 . unfold eR at e;split at e
   . obtain⟨ws,m,e⟩:=Za.mp e;obtain⟨p,vs,rfl,l,_⟩:=uI f m;exact .inl ⟨rfl,vs,l⟩
   . cases e
 . unfold eR at e;split at e
   . rename_i t;obtain⟨ws,m,e⟩:=Za.mp e;obtain⟨ys,y,e⟩:=Za.mp e;obtain⟨j,u,rfl⟩:=Zb.mp e;obtain⟨p,vs,rfl,l,r⟩:=uI f m;obtain⟨v,rfl,o⟩:=dU q;cases o;exact⟨p,ys,t,j,rfl,rfl,by rw[<- nK r y];exact s.seq l,u,k _ H2 (Same.refl _) (.int _)⟩
   . cases e
structure ClsI(K:ZB)(C:Addr):Prop where
 cl:Cls K C
 ha:W.findIn K (.ref C) "__class__" = some (some (.builtin "object.__class__"))
 hn:W.specialIn K (.builtin "object.__class__") "__get__" = some (some (.builtin "getset_descriptor.__get__"))
 ht:W.takesIn K (.builtin "object.__class__")=some true
 hm:W.mroIn K C (.type "object")=some true
noncomputable def qE(tb:List (Addr×Addr×Bool)):List D->Option D
 |[d,.cls C']=>(jX d).bind fun o=>((tb.find? fun r=>decide (r.1=o.1)&&decide (r.2.1=C')).map fun r=>D.bl r.2.2)
 |_=>none
def Jl(K:ZB):List V->Hp->VK->Prop:=fun xs H Q=>∃a C dx fs C' b,xs=[.ref a,.ref C']/\H a=some (.ins C dx fs)/\ClsI K C/\W.kitOne K (.ref C) (.ref C')=some b/\Q (.bl b) H
def Bu:CallR X (.builtin "isinstance") (Jl X.K):=by intro Q0 s σ H xs us Q I r h;obtain⟨a,C,dx,fs,p,b,rfl,m,f,e,q⟩:=h;obtain⟨u,o,rfl,l,j⟩:=uR r;cases(j);exact A8 I l (.ins m f.cl f.ha f.hn f.ht f.hm) e fun tk=>⟨.bl b,H,I.tok _,rfl,q⟩
def IE {tb} (s:∀ r∈tb,ClsI K r.1/\W.kitOne K (.ref r.1) (.ref r.2.1)=some r.2.2):CallD K (Jl K) (qE tb):=by
 intro xs H Q ds d r e k;unfold qE at e;split at e
 . rename_i B y;obtain ⟨⟨C,z,fd⟩,x,e⟩:=Za.mp e;obtain ⟨j,f,rfl⟩:=Zb.mp e;have m:=List.find?_some f;have u:=List.mem_of_find?_eq_some f;rw [ZN] at m;have h1:=Zza m.1;have h2:=Zza m.2;obtain ⟨o,l⟩:=s j u;rw [h1] at o l;rw [h2] at l;cases r with
   |cons q t =>
    cases t with
    |cons p t =>cases t;cases p;obtain⟨a,dx,vs,rfl,v,_,_⟩:=q.objD x;exact⟨a,C,dx,_,y,j.2.2,rfl,v,o,l,k _ H (Same.refl H) (.bl _)⟩
 . cases e
end Dl
namespace So
open PySem PyProof.Rows
variable {M:Model} {A:Around} {s:Yd} {S:Keyed->Prop} {arr a b:Array Keyed} {i n lo j:Nat} {x:Keyed} {pe:Array (Nat×Nat×Nat)} {f:Nat×Nat×Nat->Nat×Nat×Nat}
local macro_rules | `(int_private% "gallop")=>pure (Lean.mkCIdent (Lean.mkPrivateNameCore `PySem.Builtin.List.W1All `PySem.Builtin.gallop))
local macro_rules | `(int_private% "mergeLo")=>pure (Lean.mkCIdent (Lean.mkPrivateNameCore `PySem.Builtin.List.W1All `PySem.Builtin.mergeLo))
local macro_rules | `(int_private% "mergeHi")=>pure (Lean.mkCIdent (Lean.mkPrivateNameCore `PySem.Builtin.List.W1All `PySem.Builtin.mergeHi))
local macro_rules | `(int_private% "setMinGallop")=>pure (Lean.mkCIdent (Lean.mkPrivateNameCore `PySem.Builtin.List.W1All `PySem.Builtin.setMinGallop))
local macro_rules | `(tactic| walk_at "gallop")=>do
 let x:=Lean.mkCIdent (Lean.mkPrivateNameCore `PySem.Builtin.List.W1All `PySem.Builtin.gallop)
 `(tactic| delta $x:ident)
local macro_rules | `(tactic| walk_at "mergeLo")=>do
 let x:=Lean.mkCIdent (Lean.mkPrivateNameCore `PySem.Builtin.List.W1All `PySem.Builtin.mergeLo)
 `(tactic| delta $x:ident)
local macro_rules | `(tactic| walk_at "mergeHi")=>do
 let x:=Lean.mkCIdent (Lean.mkPrivateNameCore `PySem.Builtin.List.W1All `PySem.Builtin.mergeHi)
 `(tactic| delta $x:ident)
noncomputable abbrev gal:Bool->Keyed->Array Keyed->Nat->Nat->Nat->StateT SortSt Sem (Option Nat):=int_private% "gallop"
noncomputable abbrev mLo:Array Keyed->Array Keyed->StateT SortSt Sem (Array Keyed):=int_private% "mergeLo"
noncomputable abbrev mHi:Array Keyed->Array Keyed->StateT SortSt Sem (Array Keyed):=int_private% "mergeHi"
noncomputable abbrev sMG:Nat->StateT SortSt Sem PUnit:=int_private% "setMinGallop"
section
variable {E:Yc->Yd->Prop} {κ:SortKind}
def uO(M:Model)(A:Around)(E:Value->Shared->Prop)(s:Shared)(S:Keyed->Prop)(κ:SortKind):Prop:=∀(x y:Keyed)(st:SortSt)(Q:Option Bool->SortSt->Prop),S x->S y->kindOf st=κ->(∀b,Q (some b) st)->wpS M A E s (lt' x y) Q st
def All(S:Keyed->Prop)(a:Array Keyed):Prop:=∀(i:Nat)(p:Keyed),a[i]?=some p->S p
def BO{p}{st:SortSt}{Q:Keyed->SortSt->Prop}(h:arr[i]?=some p)(q:Q p st):wpS M A E s (elem' arr i) Q st:=by
 unfold elem';show wpS M A E s (match arr[i]? with|some p=>pure p|none=>_) Q st
 rw[h];exact Z7 q
def bj{st:SortSt}{Q:Keyed->SortSt->Prop}(f:All S arr)(h:i<arr.size)(q:∀p,S p->Q p st):wpS M A E s (elem' arr i) Q st:=by have e:=Z1 h;exact BO e (q _ (f i _ e))
def n5 (L:uO M A E s S κ) {left} {key} {base hint} {st:SortSt} {Q:Yg Nat->SortSt->Prop} (hk:S key) (D:All S arr) (G:base+n<=arr.size) (C:hint < n) (kd:kindOf st=κ) (q:∀ k,k<=n->Q (some k) st):wpS M A E s (gal left key arr base n hint) Q st:=by
 delta gal
 walk_at "gallop"
 extract_lets j m B u x y
 have l:∀i,i<n->∀R,(∀b,R (some b) st)->wpS M A E s (j i) R st:=fun i hi R r=>by
  refine Z6 (bj D (by omega) fun p z=>?_)
  cases left with
  |true=>exact L p key st R z hk kd r
  |false=>exact Z6 (L key p st _ hk z kd fun b=>Z7 (r (!b)))
 have tail:∀ a b lo hi,hi<=n->wpS M A E s (u () a b lo hi) Q st:=fun a b lo hi v=>by
  dsimp only[u];refine Z6 (wpS_forRange (I:=fun _ c f=>f=st/\c.1=none/\c.2.2<=n) (fun i c f _ _ h=>?_) (fun c f h=>?_) ⟨rfl,rfl,v⟩)
  . obtain ⟨h1,h2,t⟩:=h;subst h1;split
    . exact Z7 (Z7 (q _ t))
    . rename_i o;refine Z6 (l _ (by omega) _ fun b=>?_)
      cases b with
      |true=>exact Z7 ⟨rfl,rfl,t⟩
      |false=>exact Z7 ⟨rfl,rfl,by dsimp only;omega⟩
  . obtain⟨h1,h2,t⟩:=h;subst h1;rw[h2];exact Z7 (q _ t)
 clear_value j u
 refine Z6 (l hint C _ fun right=>?_)
 cases right with
 |true =>
  refine Z6 (wpS_forRange (I:=fun _ c f=>f=st/\c.1=none) (fun i c f _ _ h=>?_) (fun c f h=>?_) ⟨rfl,rfl⟩)
  . obtain ⟨h1,h2⟩:=h;subst h1;dsimp only;split
    . exact Z7 (tail _ _ _ _ (by omega))
    . rename_i o;refine Z6 (l _ (by omega) _ fun b=>?_)
      cases b with
      |true=>exact Z7 ⟨rfl,rfl⟩
      |false=>exact Z7 (tail _ _ _ _ (by omega))
  . obtain⟨h1,h2⟩:=h;subst h1;rw[h2];exact tail _ _ _ _ (by omega)
 |false =>
  refine Z6 (wpS_forRange (I:=fun _ c f=>f=st/\c.1=none) (fun i c f _ _ h=>?_) (fun c f h=>?_) ⟨rfl,rfl⟩)
  . obtain ⟨h1,h2⟩:=h;subst h1;dsimp only;split
    . exact Z7 (tail _ _ _ _ (by omega))
    . rename_i o;refine Z6 (l _ (by omega) _ fun b=>?_)
      cases b with
      |true=>exact Z7 (tail _ _ _ _ (by omega))
      |false=>exact Z7 ⟨rfl,rfl⟩
  . obtain⟨h1,h2⟩:=h;subst h1;rw[h2];exact tail _ _ _ _ (by omega)
end
end So
namespace So
open PySem PyProof.Rows
variable {M:Model} {A:Around} {s:Yd} {S:Keyed->Prop} {arr a b:Array Keyed} {i n lo j:Nat} {x:Keyed} {pe:Array (Nat×Nat×Nat)} {f:Nat×Nat×Nat->Nat×Nat×Nat}
local macro_rules | `(tactic| walk_at "mergeLo")=>do
 let x:=Lean.mkCIdent (Lean.mkPrivateNameCore `PySem.Builtin.List.W1All `PySem.Builtin.mergeLo)
 `(tactic| delta $x:ident)
local macro_rules | `(tactic| walk_at "setMinGallop")=>do
 let x:=Lean.mkCIdent (Lean.mkPrivateNameCore `PySem.Builtin.List.W1All `PySem.Builtin.setMinGallop)
 `(tactic| delta $x:ident)
section
variable {E:Yc->Yd->Prop} {κ:SortKind}
structure Alike(st st':SortSt):Prop where
 kd:kindOf st'=kindOf st
 ar:arrOf st'=arrOf st
 pe:pendingOf st'=pendingOf st
 fa:failedOf st'=failedOf st
def Alike.refl{st:SortSt}:Alike st st:=⟨rfl,rfl,rfl,rfl⟩
theorem Alike.trans{a b c:SortSt}(h:Alike a b)(k:Alike b c):Alike a c:=⟨k.kd.trans h.kd,k.ar.trans h.ar,k.pe.trans h.pe,k.fa.trans h.fa⟩
def tP{g}{st:SortSt}{Q:PUnit->SortSt->Prop}(q:∀f,Alike st f->Q PUnit.unit f):wpS M A E s (sMG g) Q st:=by
 delta sMG
 walk_at "setMinGallop"
 exact wpS_modify (q _ ⟨rfl,rfl,rfl,rfl⟩)
def All.app(j:All S a)(f:All S b):All S (a++b):=fun i p e=>by
 rw[Array.getElem?_append]at e;split at e
 . exact j _ p e
 . exact f _ p e
def All.ext(f:All S a)(i j):All S (a.extract i j):=fun k p e=>by
 rw[Array.getElem?_extract]at e;split at e
 . exact f _ p e
 . cases e
def All.put(j:All S a)(f:S x):All S (a.push x):=fun k p e=>by
 rw[Array.getElem?_push]at e;split at e
 . cases e;exact f
 . exact j k p e
def All.one(f:S x):All S #[x]:=fun k p e=>by
 cases k with
 |zero=>cases e;exact f
 |succ k=>cases e
abbrev C7:=Option (Array Keyed)×Array Keyed×Nat×Nat×Nat×Nat×Nat
def LoI(S:Keyed->Prop)(a b:Array Keyed)(st:SortSt)(i:Nat)(c:C7)(st':SortSt):Prop:=c.1=none/\All S c.2.1/\c.2.2.1+1<a.size/\c.2.2.2.1<b.size/\i+2<=c.2.2.1+c.2.2.2.1/\Alike st st'
def LoD(S:Keyed->Prop)(a b:Array Keyed)(st:SortSt)(i:Nat)(c:C7)(st':SortSt):Prop:=(∃r,c.1=some r/\All S r/\Alike st st')\/LoI S a b st i c st'
def LoP(S:Keyed->Prop)(a b:Array Keyed)(st:SortSt)(i:Nat)(r:ForInStep C7)(st':SortSt):Prop:=match r with
 |.done c=>LoD S a b st i c st'
 |.yield c=>LoI S a b st i c st'
theorem LD (L:uO M A E s S κ) {st:SortSt} {Q:Array Keyed->SortSt->Prop} (X:All S a) (V:All S b) (na:1<=a.size) (nb:1<=b.size) (kd:kindOf st=κ) (q:∀ l f,All S l->Alike st f->Q l f):wpS M A E s (mLo a b) Q st:=by
 delta mLo
 walk_at "mergeLo"
 refine Z6 (wpS_lift (wpAny_rule ⟨rfl,?_⟩))
 extract_lets B done v ia0 ib0
 have dn:∀l ia ib,All S l->All S (done l ia ib):=fun l ia ib h=>(h.app (X.ext _ _)).app (V.ext _ _)
 have ln:∀l ia ib,All S l->All S (v l ia ib):=fun l ia ib h=>(h.app (V.ext _ _)).app (X.ext _ _)
 have ht:B=a.size+b.size:=rfl;have hi0:ia0=0:=rfl;have hb0:ib0=1:=rfl
 clear_value done v B ia0 ib0
 refine Z6 (bj V (by lia) fun p0 hp0=>?_)
 extract_lets out0
 have ho0:All S out0:=.one hp0
 clear_value out0
 split
 . exact Z7 (q _ _ (dn _ _ _ ho0) .refl)
 rename_i hx1;split
 . exact Z7 (q _ _ (ln _ _ _ ho0) .refl)
 rename_i hx2;have hx1':ib0≠b.size:=fun z=>hx1 (by rw[z];exact ZA _)
 have hx2':ia0+1≠a.size:=fun z=>hx2 (by rw[z];exact ZA _)
 refine Z6 (wpS_get ?_);refine Z6 (wpS_mono (wpS_forRange (I:=fun i c f=>c.1=none/\All S c.2.1/\c.2.2.1+1<a.size/\c.2.2.2.1<b.size/\i+1<=c.2.2.1+c.2.2.2.1/\Alike st f) (Q:=fun c f=>∃r,c.1=some r/\All S r/\Alike st f) (fun i c f _ hil h=>?_) (fun c f h=>?_) ⟨rfl,ho0,by dsimp only;lia,by dsimp only;lia,by dsimp only;lia,.refl⟩) fun c f h=>?_)
 . obtain ⟨res,l,ia,ib,mg⟩:=c;obtain ⟨h1,h2,h3,h4,h5,h6⟩:=h;dsimp only at h1 h2 h3 h4 h5 h6
   extract_lets
   refine Z6 (wpS_mono (wpS_forRange (I:=fun j c f=>c.1=none/\All S c.2.1/\c.2.2.1+1<a.size/\c.2.2.2.1<b.size/\i+1+min j 1<=c.2.2.1+c.2.2.2.1/\Alike st f)
    (Q:=fun c f=>(∃r,c.1=some r/\All S r/\Alike st f)\/(c.1=none/\All S c.2.1/\c.2.2.1+1<a.size/\c.2.2.2.1<b.size/\i+2<=c.2.2.1+c.2.2.2.1/\Alike st f)) (fun j c st1 _ _ h=>?_) (fun c st1 h=>?_) ⟨rfl,h2,h3,h4,by show i+1+min 0 1<=ia+ib;lia,h6⟩) fun c st1 h=>?_)
   . obtain ⟨res1,out1,t,u,ac1,bc1⟩:=c;obtain ⟨g1,G,g3,Y,g5,D⟩:=h;dsimp only at g1 G g3 Y g5 D
     extract_lets
     refine Z6 (bj V Y fun p hp=>Z6 (bj X (show t<a.size by lia) fun p' hp'=>Z6 (L p p' st1 _ hp hp' (D.kd.trans kd) fun w=>?_)))
     cases w with
     |true =>
      refine Z6 (bj V Y fun x hx=>?_)
      extract_lets
      split
      . exact Z7 (.inl ⟨_,rfl,dn _ _ _ (G.put hx),D⟩)
      . rename_i U;have hne':u+1 ≠ b.size:=fun z=>U (by show (u+1 == b.size)=true;rw [z];exact ZA _)
        split
        . exact Z7 (.inr ⟨rfl,G.put hx,g3,(by show u+1<b.size;lia),(by show i+2<=t+(u+1);lia),D⟩)
        . exact Z7 ⟨rfl,G.put hx,g3,(by show u+1<b.size;lia),(by show i+1+min (j+1) 1<=t+(u+1);lia),D⟩
     |false =>
      refine Z6 (bj X (show t<a.size by lia) fun x hx=>?_)
      extract_lets
      split
      . exact Z7 (.inl ⟨_,rfl,ln _ _ _ (G.put hx),D⟩)
      . rename_i U;have hne':t+1+1 ≠ a.size:=fun z=>U (by show (t+1+1 == a.size)=true;rw [z];exact ZA _)
        split
        . exact Z7 (.inr ⟨rfl,G.put hx,(by show t+1+1<a.size;lia),Y,(by show i+2<=(t+1)+u;lia),D⟩)
        . exact Z7 ⟨rfl,G.put hx,(by show t+1+1<a.size;lia),Y,(by show i+1+min (j+1) 1<=(t+1)+u;lia),D⟩
   . obtain ⟨g1,G,g3,Y,g5,D⟩:=h;refine .inr ⟨g1,G,g3,Y,?_,D⟩;have:1<=max 0 B:=by lia
     lia
   . obtain ⟨res1,out1,t,u,ac1,bc1⟩:=c;rcases h with ⟨r,e,hr,al⟩ | ⟨g1,G,g3,Y,g5,D⟩
     . cases e;exact Z7 ⟨r,rfl,hr,al⟩
     dsimp only at g1 G g3 Y g5 D;cases g1
     extract_lets
     refine Z6 (wpS_lift (wpAny_rule ⟨rfl,?_⟩));refine Z6 (wpS_mono (wpS_forRange (I:=fun _ c f=>LoI S a b st i c f) (Q:=fun c f=>LoD S a b st i c f) (fun j c st2 _ _ h=>?_) (fun c st2 h=>.inr h) ⟨rfl,G,g3,Y,g5,D⟩) fun c st2 h=>?_)
     . obtain ⟨res2,out2,ia2,ib2,mg2,ac2,bc2⟩:=c;obtain ⟨k1,k2,k3,k4,k5,k6⟩:=h;dsimp only at k1 k2 k3 k4 k5 k6
       extract_lets z1 z2 z3 z4 z5 z6 z7 z8 z9 z10 z11 C jp mgm
       have e2:All S z2:=k2;have e4:z4+1 < a.size:=k3;have e6:z6 < b.size:=k4;have e5:i+2<=z4+z6:=k5;have en:C=z6+1:=rfl;have jpok:∀ m,wpS M A E s (jp () m) (LoP S a b st i) st2:=fun m=>by
        unfold jp
        clear_value z1 z2 z3 z4 z5 z6 z7 z8 z9 z10 z11 C
        refine Z6 (tP fun Z al=>?_)
        have k7:=k6.trans al;refine Z6 (bj V e6 fun p hp=>Z6 (n5 L hp X (by lia) (by lia) (k7.kd.trans kd) fun k hk=>?_))
        dsimp -zeta only
        extract_lets ac jp2 out3 ia3
        have J:∀ o x,All S o->x+1 < a.size->i+2<=x+z6->wpS M A E s (jp2 () o x) (LoP S a b st i) Z:=fun o x ho hx hs=>by
         unfold jp2;refine Z6 (bj V e6 fun p2 hp2=>?_)
         extract_lets out4
         split
         . exact Z7 (.inl ⟨_,rfl,dn _ _ _ (ho.put hp2),k7⟩)
         rename_i U;have hne':C≠b.size:=fun z=>U (by rw[z];exact ZA _)
         refine Z6 (bj X (by lia) fun p3 hp3=>Z6 (n5 L hp3 V (by lia) (by lia) (k7.kd.trans kd) fun k' hk'=>?_))
         dsimp -zeta only
         extract_lets bc jp3 out5 ib5
         have H:∀o y,All S o->y<b.size->z6<y->wpS M A E s (jp3 () o y) (LoP S a b st i) Z:=fun o y ho hy hzy=>by
          unfold jp3;refine Z6 (bj X (by lia) fun p4 hp4=>?_)
          extract_lets out6
          split
          . exact Z7 (.inl ⟨_,rfl,ln _ _ _ (ho.put hp4),k7⟩)
          rename_i O;have hne2':x+1+1≠a.size:=fun z=>O (by show(x+1+1==a.size)=true;rw[z];exact ZA _)
          have Q4:LoI S a b st i (none,out6,x+1,y,m,ac,bc) Z:=⟨rfl,ho.put hp4,(by show x+1+1<a.size;lia),hy,(by show i+2<=x+1+y;lia),k7⟩
          split
          . exact Z7 (.inr Q4)
          . exact Z7 Q4
         split
         . split
           . exact Z7 (.inl ⟨_,rfl,dn _ _ _ ((ho.put hp2).app (V.ext _ _)),k7⟩)
           . rename_i hk0 hne3;have hne3':C+k' ≠ b.size:=fun z=>hne3 (by show (C+k' == b.size)=true;rw [z];exact ZA _)
             exact H _ _ ((ho.put hp2).app (V.ext _ _)) (by show C+k'<b.size;lia) (by show z6<C+k';lia)
         . exact H _ _ (ho.put hp2) (by lia) (by lia)
        split
        . split
          . exact Z7 (.inl ⟨_,rfl,ln _ _ _ (e2.app (X.ext _ _)),k7⟩)
          . rename_i hk0 hne1;have hne1':z4+k+1 ≠ a.size:=fun z=>hne1 (by show (z4+k+1 == a.size)=true;rw [z];exact ZA _)
            split
            . exact Z7 (.inl ⟨_,rfl,dn _ _ _ (e2.app (X.ext _ _)),k7⟩)
            . rename_i O;have hne2':z4+k ≠ a.size:=fun z=>O (by show (z4+k == a.size)=true;rw [z];exact ZA _)
              exact J _ _ (e2.app (X.ext _ _)) (by show z4+k+1<a.size;lia) (by show i+2<=z4+k+z6;lia)
        . exact J _ _ e2 e4 e5
       split
       . exact wpS_mono (jpok _) fun r f h=>by cases r<;>exact h
       . exact wpS_mono (jpok _) fun r f h=>by cases r<;>exact h
     . obtain ⟨res2,out2,ia2,ib2,mg2,ac2,bc2⟩:=c;rcases h with ⟨r,e,hr,al⟩ | ⟨k1,k2,k3,k4,k5,k6⟩
       . cases e;exact Z7 ⟨r,rfl,hr,al⟩
       dsimp only at k1 k2 k3 k4 k5 k6;cases k1;exact Z6 (tP fun Z al=>Z7 ⟨rfl,k2,k3,k4,k5,k6.trans al⟩)
 . obtain ⟨res,l,ia,ib,mg⟩:=c;obtain ⟨h1,h2,h3,h4,h5,h6⟩:=h;dsimp only at h1 h2 h3 h4 h5 h6;rw [Nat.max_eq_right (Nat.zero_le _)] at h5
   lia
 . obtain⟨r,e,hr,al⟩:=h;obtain⟨res,c⟩:=c;cases e;exact Z7 (q r f hr al)
end
end So
namespace So
open PySem PyProof.Rows
variable {M:Model} {A:Around} {s:Yd} {S:Keyed->Prop} {arr a b:Array Keyed} {i n lo j:Nat} {x:Keyed} {pe:Array (Nat×Nat×Nat)} {f:Nat×Nat×Nat->Nat×Nat×Nat}
local macro_rules | `(tactic| walk_at "mergeHi")=>do
 let x:=Lean.mkCIdent (Lean.mkPrivateNameCore `PySem.Builtin.List.W1All `PySem.Builtin.mergeHi)
 `(tactic| delta $x:ident)
section
variable {E:Yc->Yd->Prop} {κ:SortKind}
theorem All.rev(f:All S a):All S a.reverse:=fun i p e=>by
 by_cases hi:i<a.size
 . rw[Array.getElem?_reverse hi]at e;exact f _ p e
 . rw [Array.getElem?_eq_none (by rw [Array.size_reverse];lia)] at e
   cases e
abbrev C7':=Option (Array Keyed)×Nat×Nat×Array Keyed×Nat×Nat×Nat
def HiI(S:Keyed->Prop)(a b:Array Keyed)(st:SortSt)(i:Nat)(c:C7')(st':SortSt):Prop:=c.1=none/\All S c.2.2.2.1/\(1<=c.2.1/\c.2.1<=a.size)/\(2<=c.2.2.1/\c.2.2.1<=b.size)/\c.2.1+c.2.2.1+i+2<=a.size+b.size/\Alike st st'
def HiD(S:Keyed->Prop)(a b:Array Keyed)(st:SortSt)(i:Nat)(c:C7')(st':SortSt):Prop:=(∃r,c.1=some r/\All S r/\Alike st st')\/HiI S a b st i c st'
def HiP(S:Keyed->Prop)(a b:Array Keyed)(st:SortSt)(i:Nat)(r:ForInStep C7')(st':SortSt):Prop:=match r with
 |.done c=>HiD S a b st i c st'
 |.yield c=>HiI S a b st i c st'
def LF (L:uO M A E s S κ) {st:SortSt} {Q:Array Keyed->SortSt->Prop} (X:All S a) (V:All S b) (na:1<=a.size) (nb:1<=b.size) (kd:kindOf st=κ) (q:∀ l f,All S l->Alike st f->Q l f):wpS M A E s (mHi a b) Q st:=by
 delta mHi
 walk_at "mergeHi"
 refine Z6 (wpS_lift (wpAny_rule ⟨rfl,?_⟩))
 extract_lets v done t na0 nb0
 have dn:∀l x y,All S l->All S (done l x y):=fun l x y h=>((X.ext _ _).app (V.ext _ _)).app h.rev
 have fn:∀l x y,All S l->All S (t l x y):=fun l x y h=>((V.ext _ _).app (X.ext _ _)).app h.rev
 have ht:v=a.size+b.size:=rfl;have hi0:na0=a.size-1:=rfl;have hb0:nb0=b.size:=rfl
 clear_value done t v na0 nb0
 refine Z6 (bj X (by omega) fun p0 hp0=>?_)
 extract_lets out0
 have ho0:All S out0:=.one hp0
 clear_value out0
 split
 . exact Z7 (q _ _ (dn _ _ _ ho0) .refl)
 rename_i hx1;split
 . exact Z7 (q _ _ (fn _ _ _ ho0) .refl)
 rename_i hx2;have hx1':na0≠0:=fun z=>hx1 (by rw[z];rfl)
 have hx2':nb0≠1:=fun z=>hx2 (by rw[z];rfl)
 refine Z6 (wpS_get ?_);refine Z6 (wpS_mono (wpS_forRange (I:=fun i c f=>c.1=none/\All S c.2.2.2.1/\(1<=c.2.1/\c.2.1<=a.size)/\(2<=c.2.2.1/\c.2.2.1<=b.size)/\c.2.1+c.2.2.1+i+1<=a.size+b.size/\Alike st f) (Q:=fun c f=>∃r,c.1=some r/\All S r/\Alike st f) (fun i c f _ hil h=>?_) (fun c f h=>?_) ⟨rfl,ho0,by dsimp only;omega,by dsimp only;omega,by dsimp only;omega,.refl⟩) fun c f h=>?_)
 . obtain ⟨res,x,y,l,mg⟩:=c;obtain ⟨h1,h2,h3,h4,h5,h6⟩:=h;dsimp only at h1 h2 h3 h4 h5 h6
   extract_lets
   refine Z6 (wpS_mono (wpS_forRange (I:=fun j c f=>c.1=none/\All S c.2.2.2.1/\(1<=c.2.1/\c.2.1<=a.size)/\(2<=c.2.2.1/\c.2.2.1<=b.size)/\c.2.1+c.2.2.1+i+1+min j 1<=a.size+b.size/\Alike st f)
    (Q:=fun c f=>(∃r,c.1=some r/\All S r/\Alike st f)\/(c.1=none/\All S c.2.2.2.1/\(1<=c.2.1/\c.2.1<=a.size)/\(2<=c.2.2.1/\c.2.2.1<=b.size)/\c.2.1+c.2.2.1+i+2<=a.size+b.size/\Alike st f)) (fun j c st1 _ _ h=>?_) (fun c st1 h=>?_) ⟨rfl,h2,h3,h4,by show x+y+i+1+min 0 1<=a.size+b.size;omega,h6⟩) fun c st1 h=>?_)
   . obtain ⟨res1,C,B,out1,ac1,bc1⟩:=c;obtain ⟨g1,G,g3,g4,g5,D⟩:=h;dsimp only at g1 G g3 g4 g5 D
     extract_lets
     refine Z6 (bj V (show B-1<b.size by omega) fun p hp=>Z6 (bj X (show C-1<a.size by omega) fun p' hp'=>Z6 (L p p' st1 _ hp hp' (D.kd.trans kd) fun w=>?_)))
     cases w with
     |true =>
      refine Z6 (bj X (show C-1<a.size by omega) fun u hu=>?_)
      extract_lets
      split
      . exact Z7 (.inl ⟨_,rfl,dn _ _ _ (G.put hu),D⟩)
      . rename_i U;have hne':C - 1 ≠ 0:=fun z=>U (by show (C - 1 == 0)=true;rw [z];rfl)
        split
        . exact Z7 (.inr ⟨rfl,G.put hu,(by show 1<=C-1/\C-1<=a.size;omega),g4,(by show C-1+B+i+2<=a.size+b.size;omega),D⟩)
        . exact Z7 ⟨rfl,G.put hu,(by show 1<=C-1/\C-1<=a.size;omega),g4,(by show C-1+B+i+1+min (j+1) 1<=a.size+b.size;omega),D⟩
     |false =>
      refine Z6 (bj V (show B-1<b.size by omega) fun u hu=>?_)
      extract_lets
      split
      . exact Z7 (.inl ⟨_,rfl,fn _ _ _ (G.put hu),D⟩)
      . rename_i U;have hne':B - 1 ≠ 1:=fun z=>U (by show (B - 1 == 1)=true;rw [z];rfl)
        split
        . exact Z7 (.inr ⟨rfl,G.put hu,g3,(by show 2<=B-1/\B-1<=b.size;omega),(by show C+(B-1)+i+2<=a.size+b.size;omega),D⟩)
        . exact Z7 ⟨rfl,G.put hu,g3,(by show 2<=B-1/\B-1<=b.size;omega),(by show C+(B-1)+i+1+min (j+1) 1<=a.size+b.size;omega),D⟩
   . obtain ⟨g1,G,g3,g4,g5,D⟩:=h;refine .inr ⟨g1,G,g3,g4,?_,D⟩;have:1<=max 0 v:=by omega
     omega
   . obtain ⟨res1,C,B,out1,ac1,bc1⟩:=c;rcases h with ⟨r,e,hr,al⟩ | ⟨g1,G,g3,g4,g5,D⟩
     . cases e;exact Z7 ⟨r,rfl,hr,al⟩
     dsimp only at g1 G g3 g4 g5 D;cases g1
     extract_lets
     refine Z6 (wpS_lift (wpAny_rule ⟨rfl,?_⟩));refine Z6 (wpS_mono (wpS_forRange (I:=fun _ c f=>HiI S a b st i c f) (Q:=fun c f=>HiD S a b st i c f) (fun j c st2 _ _ h=>?_) (fun c st2 h=>.inr h) ⟨rfl,G,g3,g4,g5,D⟩) fun c st2 h=>?_)
     . obtain ⟨res2,x2,y2,out2,mg2,ac2,bc2⟩:=c;obtain ⟨k1,k2,k3,k4,k5,k6⟩:=h;dsimp only at k1 k2 k3 k4 k5 k6
       extract_lets z1 z2 z3 z4 z5 z6 z7 z8 z9 z10 z11 Z jp mgm
       have e6:All S z6:=k2;have e2:1<=z2/\z2<=a.size:=k3;have e4:2<=z4/\z4<=b.size:=k4;have e5:z2+z4+i+2<=a.size+b.size:=k5;have en:Z=z4 - 1:=rfl;have jpok:∀ m,wpS M A E s (jp () m) (HiP S a b st i) st2:=fun m=>by
        unfold jp
        clear_value z1 z2 z3 z4 z5 z6 z7 z8 z9 z10 z11 Z
        refine Z6 (tP fun Y al=>?_)
        have k7:=k6.trans al;refine Z6 (bj V (by omega) fun p hp=>Z6 (n5 L hp X (by omega) (by omega) (k7.kd.trans kd) fun k hk=>?_))
        dsimp -zeta only
        extract_lets kk ac jp2 out3 na3
        have J:∀ o x,All S o->1<=x->x<=z2->wpS M A E s (jp2 () x o) (HiP S a b st i) Y:=fun o x ho hx hs=>by
         unfold jp2;refine Z6 (bj V (by omega) fun p2 O=>?_)
         extract_lets out4
         split
         . exact Z7 (.inl ⟨_,rfl,fn _ _ _ (ho.put O),k7⟩)
         rename_i U;have hne':Z≠1:=fun z=>U (by rw[z];rfl)
         refine Z6 (bj X (by omega) fun p3 hp3=>Z6 (n5 L hp3 V (by omega) (by omega) (k7.kd.trans kd) fun k' hk'=>?_))
         dsimp -zeta only
         extract_lets kk2 bc jp3 out5 nb5
         have H:∀o y,All S o->2<=y->y<=Z->wpS M A E s (jp3 () y o) (HiP S a b st i) Y:=fun o y ho hy hzy=>by
          unfold jp3;refine Z6 (bj X (show x-1<a.size by omega) fun p4 hp4=>?_)
          extract_lets out6
          split
          . exact Z7 (.inl ⟨_,rfl,dn _ _ _ (ho.put hp4),k7⟩)
          rename_i hne2;have hne2':x-1≠0:=fun z=>hne2 (by show(x-1==0)=true;rw[z];rfl)
          have Q4:HiI S a b st i (none,x-1,y,out6,m,ac,bc) Y:=⟨rfl,ho.put hp4,(by show 1<=x-1/\x-1<=a.size;omega),(by show 2<=y/\y<=b.size;omega),(by show x-1+y+i+2<=a.size+b.size;omega),k7⟩
          split
          . exact Z7 (.inr Q4)
          . exact Z7 Q4
         split
         . split
           . exact Z7 (.inl ⟨_,rfl,fn _ _ _ ((ho.put O).app (V.ext _ _).rev),k7⟩)
           . rename_i hk0 hne3;have hne3':k' ≠ 1:=fun z=>hne3 (by show (k' == 1)=true;rw [z];rfl)
             split
             . exact Z7 (.inl ⟨_,rfl,dn _ _ _ ((ho.put O).app (V.ext _ _).rev),k7⟩)
             . rename_i hne4;have hne4':k' ≠ 0:=fun z=>hne4 (by show (k' == 0)=true;rw [z];rfl)
               exact H _ _ ((ho.put O).app (V.ext _ _).rev) (by omega) (by omega)
         . exact H _ _ (ho.put O) (by omega) (by omega)
        split
        . split
          . exact Z7 (.inl ⟨_,rfl,dn _ _ _ (e6.app (X.ext _ _).rev),k7⟩)
          . rename_i hk0 hne1;have hne1':k ≠ 0:=fun z=>hne1 (by show (k == 0)=true;rw [z];rfl)
            exact J _ _ (e6.app (X.ext _ _).rev) (by omega) (by omega)
        . exact J _ _ e6 e2.1 (ZM _)
       split
       . exact wpS_mono (jpok _) fun r f h=>by cases r<;>exact h
       . exact wpS_mono (jpok _) fun r f h=>by cases r<;>exact h
     . obtain ⟨res2,x2,y2,out2,mg2,ac2,bc2⟩:=c;rcases h with ⟨r,e,hr,al⟩ | ⟨k1,k2,k3,k4,k5,k6⟩
       . cases e;exact Z7 ⟨r,rfl,hr,al⟩
       dsimp only at k1 k2 k3 k4 k5 k6;cases k1;exact Z6 (tP fun Y al=>Z7 ⟨rfl,k2,k3,k4,(by show x2+y2+(i+1)+1<=a.size+b.size;omega),k6.trans al⟩)
 . obtain⟨res,x,y,l,mg⟩:=c;obtain⟨h1,h2,h3,h4,h5,h6⟩:=h;dsimp only at h1 h2 h3 h4 h5 h6;rw[Nat.max_eq_right (Nat.zero_le _)]at h5;omega
 . obtain⟨r,e,hr,al⟩:=h;obtain⟨res,c⟩:=c;cases e;exact Z7 (q r f hr al)
end
end So
namespace So
open PySem PyProof.Rows
variable {M:Model} {A:Around} {s:Yd} {S:Keyed->Prop} {arr a b:Array Keyed} {i n lo j:Nat} {x:Keyed} {pe:Array (Nat×Nat×Nat)} {f:Nat×Nat×Nat->Nat×Nat×Nat}
local macro_rules | `(tactic| walk_at "mergeAt")=>do
 let x:=Lean.mkCIdent (Lean.mkPrivateNameCore `PySem.Builtin.List.W1All `PySem.Builtin.mergeAt)
 `(tactic| delta $x:ident)
section
variable {E:Yc->Yd->Prop} {κ:SortKind}
def Ch:Nat->List (Nat×Nat×Nat)->Nat->Prop
 |x,[],e=>x=e
 |x,p::r,e=>p.1=x/\1<=p.2.1/\Ch (x+p.2.1) r e
theorem Ch.le:∀{ps}{x e},Ch x ps e->x<=e
 |[],_,_,h=>Nat.le_of_eq h
 |_::_,_,_,h=>ZZ (Nat.le_add_right _ _) (Ch.le h.2.2)
theorem Ch.at:∀{ps}{x e i}{p q},Ch x ps e->ps[i]?=some p->ps[i+1]?=some q->1<=p.2.1/\p.1+p.2.1=q.1/\1<=q.2.1/\q.1+q.2.1<=e
 |[],_,_,_,_,_,_,h,_=>by cases h
 |[_],_,_,0,_,_,_,_,h=>by cases h
 |a::b::r,x,e,0,p,q,h,h1,h2=>by cases h1;cases h2;obtain⟨o,l,m,j,f⟩:=h;have:=f.le;exact⟨l,by lia,j,by lia⟩
 |a::r,x,e,i+1,p,q,h,h1,h2=>Ch.at h.2.2 (by simpa using h1) (by simpa using h2)
theorem Ch.merge:∀{ps}{x e i}{p q},Ch x ps e->ps[i]?=some p->ps[i+1]?=some q->Ch x ((ps.set i (p.1,p.2.1+q.2.1,p.2.2)).eraseIdx (i+1)) e
 |[],_,_,_,_,_,_,h,_=>by cases h
 |[_],_,_,0,_,_,_,_,h=>by cases h
 |a::b::r,x,e,0,p,q,h,h1,h2=>by cases h1;cases h2;obtain⟨j,o,m,l,f⟩:=h;exact⟨j,(by show 1<=a.2.1+b.2.1;lia),(by rw[<- Nat.add_assoc];exact f)⟩
 |a::r,x,e,i+1,p,q,h,h1,h2=>⟨h.1,h.2.1,Ch.merge h.2.2 (by simpa using h1) (by simpa using h2)⟩
theorem Ch.snoc:∀{ps}{x e l k},Ch x ps e->1<=l->Ch x (ps++[(e,l,k)]) (e+l)
 |[],x,e,l,k,h,h1=>by cases h;exact⟨rfl,h1,rfl⟩
 |_::r,x,e,l,k,h,h1=>⟨h.1,h.2.1,Ch.snoc h.2.2 h1⟩
def FW{σ:Type}{st st'}{Q:PUnit->σ->Prop}(q:Q PUnit.unit st'):wpS M A E s (set st') Q st:=wpS_modify q
structure Good(S:Keyed->Prop)(κ:SortKind)(n lo:Nat)(st:SortSt):Prop where
 kd:kindOf st=κ
 fa:failedOf st=none
 sz:(arrOf st).size=n
 al:All S (arrOf st)
 ch:Ch 0 (pendingOf st).toList lo
 le:lo<=n
theorem vY:∀(ps:Yh (Keyed×Nat)) x o,All S x->x.size=n->(∀p∈ps,S p.1)->All S (ps.foldl (fun a q=>match q with|(p,j)=>a.setIfInBounds (o+j) p) x)/\(ps.foldl (fun a q=>match q with|(p,j)=>a.setIfInBounds (o+j) p) x).size=n
 |[],x,_,h,hn,_=>⟨h,hn⟩
 | (p,j) :: ps,x,o,h,hn,hp=>vY ps (x.setIfInBounds (o+j) p) o (fun i z e=>by
  rw[Array.getElem?_setIfInBounds]at e;split at e
  . split at e
    . cases e;exact hp _ Zp
    . cases e
  . exact h i z e) (by rw[Array.size_setIfInBounds];exact hn) fun q m=>hp q (Zq _ m)
theorem Eg(L:uO M A E s S κ){st:SortSt}{Q:Bool->SortSt->Prop}(g:Good S κ n lo st)(hi:i+1<(pendingOf st).size)(q:∀v,Good S κ n lo v->(pendingOf v).size+1=(pendingOf st).size->Q true v):wpS M A E s (mergeAt' i) Q st:=by
 delta mergeAt'
 walk_at "mergeAt"
 refine Z6 (wpS_get ?_);obtain⟨⟨I,Y,pw⟩,ep⟩:∃p,(pendingOf st)[i]?=some p:=⟨_,Z1 (by lia)⟩
 obtain⟨⟨X,nb,Z⟩,eq⟩:∃p,(pendingOf st)[i+1]?=some p:=⟨_,Z1 hi⟩;have V:(pendingOf st).toList[i]?=some (I,Y,pw):=by simpa using ep
 have U:(pendingOf st).toList[i+1]?=some (X,nb,Z):=by simpa using eq
 obtain⟨c1,c2,c3,c4⟩:=g.ch.at V U;have c5:=g.ch.merge V U;dsimp only at c1 c2 c3 c4 c5;have hsz:=g.sz;have hle:=g.le;rw[ep,eq];dsimp -zeta only;have G:∀j f,kindOf j=kindOf st->arrOf j=arrOf st->pendingOf j=((pendingOf st).setIfInBounds i (I,Y+nb,pw)).eraseIdxIfInBounds (i+1)->failedOf j=failedOf st->Alike j f->Good S κ n lo f/\(pendingOf f).size+1=(pendingOf st).size:=fun j f H D C B t=>⟨⟨(t.kd.trans H).trans g.kd,(t.fa.trans B).trans g.fa,(by rw[t.ar,D];exact g.sz),(by rw[t.ar,D];exact g.al),(by
  rw[t.pe,C,Array.eraseIdxIfInBounds];split
  . simpa[Array.toList_setIfInBounds]using c5
  . rename_i h;exact absurd (by simpa using hi) h),g.le⟩,(by
  rw[t.pe,C,Array.eraseIdxIfInBounds];split
  . simp
    lia
  . rename_i h;exact absurd (by simpa using hi) h)⟩
 have Gq:∀j,kindOf j=kindOf st->arrOf j=arrOf st->pendingOf j=((pendingOf st).setIfInBounds i (I,Y+nb,pw)).eraseIdxIfInBounds (i+1)->failedOf j=failedOf st->Q true j:=fun j H D C B=>q _ (G j j H D C B .refl).1 (G j j H D C B .refl).2
 refine Z6 (FW ?_);have r:=g.al;refine Z6 (bj (arr:=arrOf st) r (by lia) fun p hp=>Z6 (n5 L (arr:=arrOf st) hp r (by lia) (by lia) g.kd fun k hk=>?_))
 dsimp -zeta only;split
 . exact Z7 (Gq _ rfl rfl rfl rfl)
 rename_i hne;have hne':Y-k≠0:=fun z=>hne (by rw[z];rfl)
 refine Z6 (bj (arr:=arrOf st) r (by lia) fun p2 hp2=>Z6 (n5 L (arr:=arrOf st) hp2 r (by lia) (by lia) g.kd fun m hm=>?_))
 dsimp -zeta only;split
 . exact Z7 (Gq _ rfl rfl rfl rfl)
 rename_i O;have hne2':m≠0:=fun z=>O (by rw[z];rfl)
 extract_lets x y jp
 have hx:All S x:=r.ext _ _;have hy:All S y:=r.ext _ _;have sx:1<=x.size:=by
  show 1<=((arrOf st).extract (I+k) X).size;rw[Array.size_extract]
  lia
 have sy:1<=y.size:=by
  show 1<=((arrOf st).extract X (X+m)).size;rw[Array.size_extract]
  lia
 have u:∀(o:Array Keyed) f,All S o->(Good S κ n lo f/\(pendingOf f).size+1=(pendingOf st).size)->wpS M A E s (jp o) Q f:=fun o f J h=>by
  unfold jp;have hm:∀z∈o.toList.zipIdx,S z.1:=fun z mz=>by obtain⟨z1,z2⟩:=z;have:=List.mem_zipIdx' mz;refine J z2 z1 ?_;rw[<- Array.getElem?_toList,Zy this.1];exact congrArg some this.2.symm
  have fp:=vY (n:=n) o.toList.zipIdx (arrOf f) (I+k) h.1.al h.1.sz hm;refine Z6 (wpS_modify ?_);refine Z6 (wpS_get ?_);refine Z7 ?_;have Fq:∀l b,kindOf l=kindOf f->All S (arrOf l)->(arrOf l).size=n->pendingOf l=pendingOf f->failedOf l=failedOf f->b=(failedOf l).isNone->Q b l:=fun l b H D C B e5 e6=>by rw[e6,e5,h.1.fa];exact q l ⟨H.trans h.1.kd,e5.trans h.1.fa,C,D,(by rw[B];exact h.1.ch),h.1.le⟩ (by rw[B];exact h.2)
  exact Fq _ _ rfl fp.1 fp.2 rfl rfl rfl
 clear_value jp x y
 split
 . exact Z6 (LD L hx hy sx sy g.kd fun o f J t=>u o f J (by refine G _ _ ?_ ?_ ?_ ?_ t<;>rfl))
 . exact Z6 (LF L hx hy sx sy g.kd fun o f J t=>u o f J (by refine G _ _ ?_ ?_ ?_ ?_ t<;>rfl))
end
end So
namespace So
open PySem PyProof.Rows
variable {M:Model} {A:Around} {s:Yd} {S:Keyed->Prop} {i n lo j:Nat} {a b:Array Keyed} {x:Keyed} {pe:Array (Nat×Nat×Nat)} {f:Nat×Nat×Nat->Nat×Nat×Nat}
local macro_rules | `(tactic| walk_at "countRun")=>do
 let x:=Lean.mkCIdent (Lean.mkPrivateNameCore `PySem.Builtin.List.W1All `PySem.Builtin.countRun)
 `(tactic| delta $x:ident)
local macro_rules | `(tactic| walk_at "binarySort")=>do
 let x:=Lean.mkCIdent (Lean.mkPrivateNameCore `PySem.Builtin.List.W1All `PySem.Builtin.binarySort)
 `(tactic| delta $x:ident)
local macro_rules | `(tactic| walk_at "sortRuns")=>do
 let x:=Lean.mkCIdent (Lean.mkPrivateNameCore `PySem.Builtin.List.W1All `PySem.Builtin.sortRuns)
 `(tactic| delta $x:ident)
section
variable {E:Yc->Yd->Prop} {κ:SortKind}
def All.perm(h:All S b)(p:a.Perm b):All S a:=fun i x e=>by obtain⟨j,f,l⟩:=Array.mem_iff_getElem.mp (p.mem_iff.mp (Array.mem_of_getElem? e));exact h j x (by rw[Z1 f,l])
structure Like(S:Keyed->Prop)(κ:SortKind)(n:Nat)(pe:Array (Nat×Nat×Nat))(st:SortSt):Prop where
 kd:kindOf st=κ
 fa:failedOf st=none
 sz:(arrOf st).size=n
 al:All S (arrOf st)
 pe:pendingOf st=pe
theorem tH(L:uO M A E s S κ){st:SortSt}(g:Like S κ n pe st)(hi:i<n)(m:j<n){Q:Yg Bool->SortSt->Prop}(q:∀b,Q (some b) st):wpS M A E s (ltAt' i j) Q st:=by rw[ltAt'_eq];have:=g.sz;exact Z6 (wpS_get (Z6 (bj g.al (by lia) fun p l=>Z6 (bj g.al (by lia) fun p2 f=>L p p2 st Q l f g.kd q))))
def tR{st:SortSt}(g:Like S κ n pe st){Q:Unit->SortSt->Prop}(q:∀f,Like S κ n pe f->Q () f):wpS M A E s (reverseSlice' i j) Q st:=by rw[reverseSlice'_eq];exact wpS_modify (q _ ⟨g.kd,g.fa,(mirror_size _ _ _ _).trans g.sz,g.al.perm (mirror_perm _ _ _ _),g.pe⟩)
def Iu{st:SortSt}(g:Like S κ n pe st){Q:Unit->SortSt->Prop}(q:∀f,Like S κ n pe f->Q () f):wpS M A E s (moveDown' i j) Q st:=by rw[moveDown'_eq];exact wpS_modify (q _ ⟨g.kd,g.fa,(bubble_size _ _ _).trans g.sz,g.al.perm (bubble_perm _ _ _),g.pe⟩)
theorem Fl(L:uO M A E s S κ){st:SortSt}(g:Like S κ n pe st){r}(h1:1<=r)(hr:lo+r<=n){Q:Yg Nat->SortSt->Prop}(q:∀k f,1<=k->k<=r->Like S κ n pe f->Q (some k) f):wpS M A E s (countRun' lo r) Q st:=by
 delta countRun'
 walk_at "countRun"
 extract_lets n0
 have e0:n0=1:=rfl;refine Z6 (wpS_mono (wpS_forRange (I:=fun i c f=>c.1=none/\c.2=i/\Like S κ n pe f) (Q:=fun c f=>c.1=none/\1<=c.2/\c.2<=r/\Like S κ n pe f) (fun i c f hi H h=>?_) (fun c f h=>?_) ⟨rfl,rfl,g⟩) fun c st1 h=>?_)
 . obtain ⟨t,m⟩:=c;obtain ⟨h2,l,j⟩:=h
   extract_lets
   refine Z6 (tH L j (show lo+m<n by lia) (by lia) fun b=>?_)
   cases b with
   |true=>exact Z7 ⟨rfl,(by lia),(by lia),j⟩
   |false=>exact Z7 ⟨rfl,(by show m+1=i+1;lia),j⟩
 . obtain⟨h2,l,j⟩:=h;exact⟨h2,by lia,by lia,j⟩
 . obtain ⟨t,m⟩:=c;obtain ⟨h2,l,j,x⟩:=h;dsimp only at h2 l j;cases h2
   extract_lets O J m1 U
   dsimp -zeta only[O,J];split
   . exact Z7 (q _ _ l j x)
   rename_i V;have Y:m≠r:=fun z=>V (by rw[z];exact ZA _)
   have y:∀u B,Like S κ n pe B->wpS M A E s (U u) Q B:=fun u B g2=>by
    unfold U;refine Z6 (wpS_lift (wpAny_rule ⟨rfl,?_⟩));refine Z6 (wpS_mono (wpS_forRange (I:=fun i c f=>c.1=none/\c.2.1=i/\Like S κ n pe f) (Q:=fun c f=>c.1=none/\1<=c.2.1/\c.2.1<=r/\Like S κ n pe f) (fun i c f hi H h=>?_) (fun c f h=>?_) ⟨rfl,rfl,g2⟩) fun c st3 h=>?_)
    . obtain ⟨t,p,ne⟩:=c;obtain ⟨h2,l,j⟩:=h;dsimp only at h2 l
      extract_lets
      refine Z6 (tH L j (show lo+p<n by lia) (show lo+p-1<n by lia) fun b=>?_)
      cases b with
      |true =>
       dsimp -zeta only;rw[if_pos rfl];split
       . refine Z6 (tR j fun o C=>?_)
         exact Z7 ⟨rfl,(by show p+1=i+1;lia),C⟩
       . exact Z7 ⟨rfl,(by show p+1=i+1;lia),j⟩
      |false =>
       refine Z6 (tH L j (show lo+p-1<n by lia) (show lo+p<n by lia) fun b2=>?_)
       cases b2 with
       |true=>exact Z7 ⟨rfl,(by show 1<=p;lia),(by show p<=r;lia),j⟩
       |false=>exact Z7 ⟨rfl,(by show p+1=i+1;lia),j⟩
    . obtain⟨h2,l,j⟩:=h;exact⟨h2,by lia,by lia,j⟩
    . obtain ⟨t,p,ne⟩:=c;obtain ⟨h2,l,j,x⟩:=h;dsimp only at h2 l j;cases h2
      extract_lets O X J nn G
      have hss:X.1=p:=rfl;have hmm:J=p:=rfl;dsimp -zeta only[O,X,J,nn];have v:∀u o,Like S κ n pe o->wpS M A E s (G u) Q o:=fun u o g4=>by
       unfold G;refine Z6 (tR g4 fun st5 C=>?_)
       refine Z6 (wpS_mono (wpS_forRange (I:=fun i c f=>c.1=none/\c.2=i/\Like S κ n pe f) (Q:=fun c f=>c.1=none/\1<=c.2/\c.2<=r/\Like S κ n pe f) (fun i c f hi H h=>?_) (fun c f h=>?_) ⟨rfl,rfl,C⟩) fun c Z h=>?_)
       . obtain ⟨t,D⟩:=c;obtain ⟨h2,l,j⟩:=h;dsimp only at h2 l
         extract_lets
         refine Z6 (tH L j (show lo+D<n by lia) (by lia) fun b=>?_)
         cases b with
         |true=>exact Z7 ⟨rfl,(by show 1<=D;lia),(by show D<=r;lia),j⟩
         |false=>exact Z7 ⟨rfl,(by show D+1=i+1;lia),j⟩
       . obtain⟨h2,l,j⟩:=h;exact⟨h2,by lia,by lia,j⟩
       . obtain⟨t,D⟩:=c;obtain⟨h2,l,j,x⟩:=h;dsimp only at h2 l j;cases h2;exact Z7 (q _ _ l j x)
      split
      . exact Z6 (tR x fun o C=>v () _ C)
      . exact v () _ x
   clear_value U
   split
   . refine Z6 (tH L x (show lo < n by lia) (by lia) fun b=>?_)
     cases b with
     |true=>exact Z7 (q _ _ l j x)
     |false=>exact Z6 (tR x fun o C=>y () _ C)
   . exact y () _ x
theorem Mu(L:uO M A E s S κ){st:SortSt}(g:Like S κ n pe st){r k}(H:lo+r<=n){Q:Bool->SortSt->Prop}(q:∀f,Like S κ n pe f->Q true f):wpS M A E s (binarySort' lo r k) Q st:=by
 delta binarySort'
 walk_at "binarySort"
 refine Z6 (wpS_mono (wpS_forRange (I:=fun _ c f=>c.1=none/\Like S κ n pe f) (fun k c f hk B h=>?_) (fun c f h=>h) ⟨rfl,g⟩) fun c t h=>?_)
 . obtain ⟨h1,h2⟩:=h
   extract_lets G D
   refine Z6 (wpS_mono (wpS_forRange (I:=fun _ c f=>c.1=none/\c.2.2<=k/\Like S κ n pe f) (Q:=fun c f=>c.1=none/\Like S κ n pe f) (fun i c f _ _ h=>?_) (fun c f h=>⟨h.1,h.2.2⟩) ⟨rfl,ZM _,h2⟩) fun c t h=>?_)
   . obtain ⟨o,l,p⟩:=c;obtain ⟨m,y,j⟩:=h;dsimp only at m y
     extract_lets
     split
     . exact Z7 ⟨rfl,j⟩
     rename_i v;have x:¬l>=p:=v;refine Z6 (tH L j (show lo+k<n by lia) (show lo+(l+p)/2<n by lia) fun b=>?_)
     cases b with
     |true=>exact Z7 ⟨rfl,(by show(l+p)/2<=k;lia),j⟩
     |false=>exact Z7 ⟨rfl,y,j⟩
   . obtain⟨o,l,p⟩:=c;obtain⟨m,j⟩:=h;dsimp only at m;cases m;exact Z6 (Iu j fun z C=>Z7 ⟨rfl,C⟩)
 . obtain⟨o,u⟩:=c;obtain⟨m,j⟩:=h;dsimp only at m;cases m;exact Z7 (q _ j)
theorem Ch.mod(j:∀p,(f p).1=p.1/\(f p).2.1=p.2.1):∀{ps}{x e i},Ch x ps e->Ch x (ps.modify i f) e
 |[],_,_,i,h=>by cases i<;>exact h
 |p::r,x,e,0,h=>by rw[List.modify_zero_cons];exact⟨(j p).1.trans h.1,(j p).2▸h.2.1,(j p).2▸h.2.2⟩
 |p::r,x,e,i+1,h=>by rw[List.modify_succ_cons];exact⟨h.1,h.2.1,Ch.mod j h.2.2⟩
def Good.like{st:SortSt}(g:Good S κ n lo st):Like S κ n (pendingOf st) st:=⟨g.kd,g.fa,g.sz,g.al,rfl⟩
def Like.good{st f:SortSt}(g:Good S κ n lo st)(h:Like S κ n (pendingOf st) f):Good S κ n lo f:=⟨h.kd,h.fa,h.sz,h.al,(by rw[h.pe];exact g.ch),g.le⟩
def Gp (L:uO M A E s S κ) {st:SortSt} (g:Good S κ n 0 st) {Q:Unit->SortSt->Prop} (q:∀ j,kindOf j=κ->failedOf j=none->(arrOf j).size=n->All S (arrOf j)->Q () j):wpS M A E s sortRuns' Q st:=by
 delta sortRuns'
 walk_at "sortRuns"
 refine Z6 (wpS_get ?_)
 extract_lets f o lo0
 have hs:f=n:=g.sz
 clear_value o f
 subst hs;refine Z6 (wpS_mono (wpS_forRange (I:=fun _ c j=>c.1=none/\Good S κ f c.2 j) (Q:=fun c j=>c.1=none/\∃e,Good S κ f e j) (fun i c j _ _ h=>?_) (fun c j h=>⟨h.1,_,h.2⟩) ⟨rfl,g⟩) fun c st1 h=>?_)
 . obtain ⟨D,lo⟩:=c;obtain ⟨h1,h2⟩:=h
   extract_lets l O frc nf
   have e0:l=lo:=rfl
   clear_value l
   subst e0;split
   . exact Z7 ⟨rfl,_,h2⟩
   rename_i hlt;refine Z6 (Fl L h2.like (by omega) (by omega) fun k st2 h3 h4 h5=>?_)
   have g2:=h5.good h2;dsimp -zeta only
   extract_lets fnd
   have C:∀ u m z,1<=m->l+m<=f->Good S κ f l z->wpS M A E s (O u m) (fun r j=>match r with | .done c=>c.1=none/\∃ e,Good S κ f e j | .yield c=>c.1=none/\Good S κ f c.2 j) z:=fun u m z hm Y g3=>by
    unfold O;refine Z6 (wpS_get ?_)
    extract_lets nlo G
    have x:∀u v,Good S κ f l v->wpS M A E s (G u) (fun r j=>match r with|.done c=>c.1=none/\∃e,Good S κ f e j|.yield c=>c.1=none/\Good S κ f c.2 j) v:=fun u v H=>by unfold G;exact Z6 (wpS_modify (Z7 ⟨rfl,H.kd,H.fa,H.sz,H.al,(by show Ch 0 ((pendingOf v).push (l,m,0)).toList (l+m);simpa using H.ch.snoc (k:=0) hm),Y⟩))
    clear_value G
    split
    . extract_lets pw
      clear_value pw
      refine Z6 (wpS_mono (wpS_forRange (I:=fun _ c j=>c.1=none/\Good S κ f l j) (Q:=fun c j=>c.1=none/\Good S κ f l j) (fun i c j _ _ h=>?_) (fun c j h=>h) ⟨rfl,g3⟩) fun c v h=>?_)
      . obtain ⟨B,t⟩:=h;refine Z6 (wpS_get ?_)
        extract_lets p
        split
        . rename_i y;split
          . exact Z7 ⟨rfl,t⟩
          have hp1:p.size>1:=by
           by_cases V:p.size>1
           . exact V
           . rw[if_neg V]at y;cases y
          refine Z6 (Eg L t (by show p.size-2+1<p.size;omega) fun J Z _=>?_)
          exact Z7 ⟨rfl,Z⟩
        . exact Z7 ⟨rfl,t⟩
      . obtain ⟨D,u2⟩:=c;obtain ⟨B,t⟩:=h;dsimp only at B;cases B;refine Z6 (wpS_modify (x () _ ⟨t.kd,t.fa,t.sz,t.al,?_,t.le⟩));show Ch 0 ((pendingOf v).modify _ _).toList l;rw [Array.toList_modify];refine t.ch.mod ?_
        rintro⟨p1,p2,p3⟩
        exact⟨rfl,rfl⟩
    . exact x () _ g3
   clear_value O
   split
   . refine Z6 (wpS_lift (wpAny_rule ⟨rfl,?_⟩));refine Z6 (Mu L g2.like (by show l+min (f - l) o<=f;omega) fun z B=>?_)
     rename_i X;have hmr':k<o:=X;rw[if_neg (by decide)]
     exact wpS_mono (C () _ _ (by show 1<=min (f-l) o;omega) (by show l+min (f-l) o<=f;omega) (B.good g2)) fun r j h=>by cases r<;>exact h
   . exact wpS_mono (C () _ _ (by show 1<=k;omega) (by show l+k<=f;omega) g2) fun r j h=>by cases r<;>exact h
 . obtain ⟨D,lo⟩:=c;obtain ⟨h1,e,h2⟩:=h;dsimp only at h1;cases h1;refine Z6 (wpS_mono (wpS_forRange (I:=fun _ c j=>c.1=none/\Good S κ f e j) (Q:=fun c j=>c.1=none/\Good S κ f e j) (fun i c j _ _ h=>?_) (fun c j h=>h) ⟨rfl,h2⟩) fun c v h=>?_)
   . obtain ⟨B,t⟩:=h
     extract_lets cc
     refine Z6 (wpS_get ?_)
     extract_lets p i0 bf U
     have hi1:U<=i0:=by dsimp only[U];split<;>omega
     split
     . exact Z7 ⟨rfl,t⟩
     rename_i V;have hi0:i0=p.size-2:=rfl;refine Z6 (Eg L t (by show U+1<p.size;omega) fun J Z _=>?_)
     exact Z7 ⟨rfl,Z⟩
   . obtain⟨D,u2⟩:=c;obtain⟨B,t⟩:=h;dsimp only at B;cases B;exact Z7 (q _ t.kd t.fa t.sz t.al)
end
end So
namespace So
open PySem PyProof.Rows PySem.W
variable {A:Around} {s:Yd} {S:Keyed->Prop} {i n j:Nat} {a b:Array Keyed} {x:Keyed} {f:Nat×Nat×Nat->Nat×Nat×Nat} {vs:Yh Yc} {P:PySem.Fin->Yd->Prop}
def TupI (h:Heap) (v:Value):Prop:=∃a o xs n i t,v=.ref a/\h.get? a=some o/\o.cls=.type "tuple"/\o.data=.seq xs n/\xs[0]?=some (.int i t)/\∀x∈xs.toList,∃i t,x=Value.int i t
def TupI.keep {h h'} {v} (k:∀b o,h.get? b=some o->o.cls=.type "tuple"->h'.get? b=some o) (t:TupI h v):TupI h' v:=by obtain⟨a,o,xs,n,i,t,l,j,f,r⟩:=t;exact⟨a,o,xs,n,i,t,l,k a o j f,f,r⟩
section
variable {prog:Program} {w:World} {E:Yc->Yd->Prop} {b Q4:Bool}
def HC(c) {p q} {Q:Bool->Yd->Prop} (l:∃i t,p=Value.int i t) (f:∃i t,q=Value.int i t) (h:∀b,Q b s):wpAny (model prog w) A (oneLt' c p q) Q E s:=by
 obtain⟨i,t,rfl⟩:=l;obtain⟨j,u,rfl⟩:=f;cases c with
 |true=>exact oneLt_int (h _)
 |false=>exact kat_one _ _ (PyProof.Rows.lt_int (h _))
theorem Eh{Q:Bool->Yd->Prop}(h:∀b,Q b s):∀l i,(∀p∈l,(∃i t,p.1=Value.int i t)/\∃i t,p.2=Value.int i t)->KatLex prog w A b Q4 Q l i s
 |[],_,_=>kat_nil (h _)
 |(p,q)::r,i,m=>by have f:=m _ Zp;obtain⟨x,t,v⟩:=f.1;obtain⟨y,u,o⟩:=f.2;subst v;subst o;refine kat_cons (wpAny_eqBool_int ?_);exact kat_go (fun _=>kat_yes (Eh h r (i+1) fun z j=>m z (Zq _ j))) fun _=>kat_no (HC _ ⟨x,t,rfl⟩ ⟨y,u,rfl⟩ h)
def FE(f:∀p,S p->TupI s.heap p.1):uO (model prog w) A E s S (tuples' b):=fun x y st Q r o kd q=>by
 obtain⟨I,C,xs,G,_,_,ex,u,_,dx,_,l⟩:=f x r;obtain⟨H,B,ys,D,_,_,v,t,_,z,_,j⟩:=f y o;rw[lt'_eq];refine Z6 (wpS_get ?_);rw[kd,ex,v];refine Z6 (wpS_lift (wpAny_attempt (kat_lt u dx t z (Eh (fun c=>⟨rfl,Z7 (q c)⟩) _ _ fun p m=>?_))))
 obtain⟨p1,p2⟩:=p;exact⟨l _ (List.of_mem_zip m).1,j _ (List.of_mem_zip m).2⟩
theorem yp{h}:∀{vs},(∀v∈vs,TupI h v)->∃fs,KatTups h vs fs/\fs.length=vs.length/\∀f∈fs,∃i t,f=Value.int i t
 |[],_=>⟨[],.nil,rfl,fun _ m=>nomatch m⟩
 | v :: vs,m=>by
  obtain⟨fs,h1,h2,j⟩:=yp fun u z=>m u (Zq _ z)
  obtain⟨a,o,xs,n,i,t,rfl,r,q,p,l,s⟩:=m _ Zp;exact⟨.int i t::fs,.cons r q p l h1,congrArg (· + 1) h2,fun f z=>by
   rcases Zu.mp z with rfl|z
   . exact⟨i,t,rfl⟩
   . exact j f z⟩
theorem HS {a} (y:s.heap.get? a=some (seqObj "list" vs.toArray n)) (Z:∀v∈vs,TupI s.heap v) (Y:vs.length<=sizeLine)
 (h:∀q,q.size=vs.length->(∀v∈q.toList,v∈vs)->P (.done (.ret .none)) { s with heap:=sortedHeap s.heap a vs q }):wpAny (model prog w) A (Builtin.«list.sort» ⟨[.ref a],[]⟩) P E s:=by
 rw[list_sort_plain];have la:=ZU y;obtain⟨C,D⟩:∃C,(s.heap.update a (Obj.mapSeq fun _=>#[])).get? a=some (seqObj "list" #[] C):=⟨_,get?_update_seq y fun _=>#[]⟩
 have z0:vs.toArray.size<=sizeLine:=by simpa using Y
 refine Z4 (listItems_at y rfl (Z4 (listUpdate_at y rfl (Z4 (seqEpoch_at D rfl (Z4 (wpAny_newTuple (Z4 (wpAny_newList (wpAny_holding ?_)))))))
  z0 (Nat.zero_le _))))
 let u:Heap:=((s.heap.update a (Obj.mapSeq fun _=>#[])).push (seqObj "tuple" vs.toArray 0)).push (seqObj "list" #[] 0)
 change wpAny _ _ _ P E { s with heap:=u }
 have o6:u.get? a=some (seqObj "list" #[] C):=by exact ZT _ (ZT _ D)
 have H:∀v∈vs,TupI u v:=fun v m=>(Z v m).keep fun b o g c=>by
  refine ZT _ (ZT _ ?_);rw[Heap.get?_update_ne _ _ _ _ fun z=>?_]
  . exact g
  . subst z;rw[y]at g;cases g;exact absurd (Value.type.inj c) (by decide)
 extract_lets X B
 have j:∀f,wpAny (model prog w) A ((if vs.toArray.size<2 then pure ()else sortRuns').run (SortSt.mk' f (vs.toArray.zip vs.toArray) #[] 7 none)) (fun r s'=>s'={ s with heap:=u }/\failedOf r.2=none/\(arrOf r.2).size=vs.length/\∀p∈(arrOf r.2).toList,p.2∈vs) E { s with heap:=u }->wpAny (model prog w) A (B f) P E { s with heap:=u }:=fun f hr=>by
  unfold B;refine Z4 (wpAny_mono hr ?_ fun _ _ e=>e)
  rintro⟨⟨⟩,st⟩ s' ⟨rfl,hf,hn,hm⟩
  dsimp -zeta only
  extract_lets x
  have I:x.size=vs.length:=by rw[Array.size_map];exact hn
  refine Z4 (seqEpoch_at o6 rfl (Z4 (listUpdate_at o6 rfl ?_ (Nat.zero_le _) (by rw[I];lia))))
  rw[hf];rw[if_neg (by simp)]
  refine Z5 (h x I fun v m=>?_)
  have G:=m;rw[Array.toList_map]at G;obtain⟨p,V,rfl⟩:=Zs.mp G;exact hm p V
 clear_value B
 have l:∀p∈(vs.toArray.zip vs.toArray).toList,p.1∈vs/\p.2∈vs:=fun p m=>by rw[Array.toList_zip]at m;exact List.of_mem_zip m
 split
 . rename_i h2;refine Z4 (Z5 (j _ ?_));rw[if_pos h2,StateT.run_pure];exact Z5 ⟨rfl,rfl,(by show(vs.toArray.zip vs.toArray).size=_;simp),fun p m=>(l p m).2⟩
 . rename_i h2;obtain ⟨fs,O,L,J⟩:=yp H;refine Z4 (kat_kind (T:=Value.type "int") O (by rw [L];simp at h2;lia) (fun v m=>?_) (by rfl) (j _ ?_))
   . obtain⟨i,t,rfl⟩:=J v m;exact Looks.of_pure rfl
   . rw [if_neg h2];refine wpAny_mono (Gp (S:=fun p=>TupI u p.1/\p.2∈vs) (n:=vs.length) (st:=SortSt.mk' _ (vs.toArray.zip vs.toArray) #[] 7 none) (Q:=fun _ st=>failedOf st=none/\(arrOf st).size=vs.length/\∀ p∈(arrOf st).toList,p.2∈vs) (FE fun p hp=>hp.1) ⟨rfl,rfl,(by show (vs.toArray.zip vs.toArray).size=_;simp),fun i p e=>?_,rfl,Nat.zero_le _⟩ fun U _ h3 h4 h5=>⟨h3,h4,fun p m=>?_⟩) (fun r s' z=>⟨z.1,z.2⟩) fun _ _ e=>e
     . have:=l p (by rw [Array.mem_toList_iff];exact Array.mem_of_getElem? e)
       exact⟨H _ this.1,this.2⟩
     . obtain⟨i,hi,e⟩:=List.mem_iff_getElem.mp m;exact(h5 i p (by rw[<- Array.getElem?_toList,Zy hi,e])).2
def sorted_t{l}{Q:Yc->Yd->Prop}(H:s.heap.IsList l vs.toArray)(G:∀v∈vs,TupI s.heap v)(x:vs.length<=sizeLine)
 (h:∀h' a f e,(∀b o,s.heap.get? b=some o->h'.get? b=some o)->s.heap.get? a=none->s.heap.objs.size<=a->h'.get? a=some (seqObj "list" f e)->f.size=vs.length->(∀v∈f.toList,v∈vs)->Q (.ref a) { s with heap:=h' }):wpAny (model prog w) A (call (.builtin "sorted") [.ref l]) Q E s:=by
 refine Calls.call_function_entry kind_sorted plain_sorted entry_sorted (args_sorted1 _) ?_
 let h1:Heap:=(s.heap.push (seqObj "list" #[] 0)).update s.heap.objs.size (Obj.mapSeq (· ++ vs.toArray))
 have u:∀b o,s.heap.get? b=some o->h1.get? b=some o:=fun b o g=>by rw[Heap.get?_update_ne _ _ _ _ (ZJ (ZU g))];exact ZT _ g
 have r:h1.objs.size=s.heap.objs.size+1:=by dsimp only[h1];rw[Heap.size_update,size_push']
 have I:∀R E,R vs { s with heap:=h1 }->wpAny (model prog w) A.in1 (collect (([.ref l]:Yh Yc).headD .none)) R E s:=fun R E q=>collect_list H q x
 clear_value h1
 have j:(h1.push (seqObj "list" vs.toArray 0)).get? h1.objs.size=some (seqObj "list" vs.toArray 0):=ZX _ rfl;have y:∀v∈vs,TupI (h1.push (seqObj "list" vs.toArray 0)) v:=fun v m=>(G v m).keep fun b o g _=>ZT _ (u b o g)
 have B:∀R E,(∀h' f e,(∀b o,h1.get? b=some o->h'.get? b=some o)->h'.get? h1.objs.size=some (seqObj "list" f e)->f.size=vs.length->(∀v∈f.toList,v∈vs)->R .none { s with heap:=h' }) ->
  wpAny (model prog w) A.in1 (call (.builtin "list.sort") [.ref h1.objs.size]) R E { s with heap:=h1.push (seqObj "list" vs.toArray 0) }:=fun R E q=>by
  refine wpAny_call_entry slot_list_sort ⟨_,j,rfl⟩ entry_list_sort (HS j y x fun f z1 z2=>⟨.none,rfl,?_⟩) (args_list_sort _)
  obtain⟨e,p⟩:=sortedHeap_at j;refine q _ f e (fun b o g=>?_) p z1 z2
  have t:=ZU g;rw[sortedHeap_old (ZJ t) (by rw[size_push'];exact Nat.lt_succ_of_lt t)]
  exact ZT _ g
 unfold Builtin.«sorted»
 wp_walk using I _ _,B _ _
 intro h2 f e D p z1 z2;have C:s.heap.get? h1.objs.size=none:=by
  cases z:s.heap.get? h1.objs.size with
  |none=>rfl
  |some o=>exact absurd (ZU z) (by rw[r];exact Nat.not_lt.mpr (Nat.le_succ _))
 exact Z5 ⟨_,rfl,h h2 _ f e (fun b o g=>D b o (u b o g)) C (by rw[r];exact Nat.le_succ _) p z1 z2⟩
end
end So
namespace Sd
open PySem PySem.Spec PyProof.Rows
variable {prog:Program} {w:World} {A:Around} {s:Yd} {R:Result->Yd->Prop} {k N:Nat} {Q:Yg Yc->Yd->Prop} {l:Ye} {o:Obj} {Q2:Array Yc} {ps:Yh (Yc×Yc)}
theorem xG:entryFor table "dict.update.loop" = some Builtin.«dict.update.loop»:=entryFor_of_tree (by kernel_rfl)
def lN:plainId "dict.update.loop" = true:=by decide +kernel
section
variable {E:Yc->Yd->Prop} 
def mQ {d I} {i} (h:wpAny (model prog w) A.in1 (Builtin.«dict.update.loop» ⟨[.ref d,.ref I,rawInt i,.none],[]⟩) (fun Q4 s'=>match Q4 with|.done f=>R (.ok f) s' | .again c=>c.quiet=true/\codeAny (model prog w) A c R s') (fun e s'=>R (.error e) s') s):codeAny (model prog w) A (.builtin "dict.update.loop" ⟨[.ref d,.ref I,rawInt i,.none],[]⟩) R s :=
 codeAny_builtin xG (by rw[Around.under_plainId lN];exact h)
def yi (h:Heap) (v k u:Value):Prop:=∃a o n,v=.ref a/\h.get? a=some o/\o.cls=.type "tuple"/\o.data=.seq #[k,u] n
def tY{v k u}{Q:Yh Yc->Yd->Prop}(p:yi s.heap v k u)(q:Q [k,u] s):wpAny (model prog w) A (Builtin.Dict.pairItems v) Q E s:=by
 obtain⟨a,o,n,rfl,g,c,e⟩:=p;have T:s.TypeIs (.ref a) "tuple":=⟨o,g,c⟩;unfold Builtin.Dict.pairItems
 wp_walk
 rw[e];exact Z5 (Z5 q)
def HG {xs} (z:A.handled=none) (r:s.heap.get? l=some o) (v:o.cls=.type "list") (f:o.data=.seq xs k) (t:o.dict=none)
 (q:∀h' tk,(∀b o,s.heap.get? b=some o->h'.get? b=some o)->Q none { s with heap:=h',toks:=tk }):wpAny (model prog w) A (getAttr? (.ref l) "keys") Q E s:=by
 obtain⟨c,B,C,x⟩:=o;simp only at v f t;subst v f t;obtain⟨p,g,d,tk,m⟩:=s;have T:∀j,(⟨p,g,d,j,m⟩:Yd).TypeIs (.ref l) "list":=fun _=>⟨_,r,rfl⟩
 have f1:=sub_AttributeError;have L:=F.slot_list_getattribute.lookup;have J:=F.slot_list_getattribute.bind (.ref l);have I:=am_list_getattr_none;have S:=T (tk+1);have D:∀Q E u,(∀h' tk e,Heap.NewAttrErr p h' e (.ref l) "keys"->E (.ref e) ⟨h',g,d,tk,m⟩)->wpAny (model prog w) A (call (.builtin "list.__getattribute__") ([.ref l]++[.str "keys" u])) Q E ⟨p,g,d,tk+1,m⟩:=fun Q E u h =>call_meets F.slot_list_getattribute (T _) am_entry_list_getattribute (F.args_list_getattribute_2 _ _) (meets_getattribute_miss_list l xs k x "keys" u (am_miss_of_fast (by decide +kernel)) (by decide) (by decide)) ⟨r,z,h⟩
 unfold getAttr? getAttrBy? getAttrBy
 wp_walk using D _ _ _
 intro h' j e n;obtain⟨H,G,y⟩:=n.there;have O:(⟨h',g,d,j,m⟩:Yd).TypeIs (.ref e) "AttributeError":=⟨_,y,rfl⟩;unfold getattributeRaised
 wp_walk
 exact q h' _ n.keeps
def Left(h0:Heap)(Q2:Array Value):Nat->List (Value×Value)->Prop
 |i,[]=>Q2[i]?=none
 |i,p::r=>(∃v,Q2[i]?=some v/\yi h0 v p.1 p.2)/\Left h0 Q2 (i+1) r
theorem n8{d I}{h0}{J:Nat->Heap->Prop}{ok:Yc->Prop}(hh:A.handled=none)(S:d≠I)(d2:l≠d)(d3:l≠I)(Z:h0.get? d=none)(U:h0.get? I=none)
 (X:∀n h,J n h->∃o es ep,h.get? d=some o/\o.data=.dict es ep) (same:∀n h h',J n h->(∀o,h.get? d=some o->h'.get? d=some o)->(∀b o,h0.get? b=some o->h'.get? b=some o)->J n h')
 (step:∀n k v(s:Yd)(Q:Unit->Yd->Prop),n<N->ok k->J n s.heap->(∀b o,h0.get? b=some o->s.heap.get? b=some o)->(∀h' tk,J (n+1) h'->Heap.SameBut d s.heap h'->Q () { s with heap:=h',toks:=tk })->wpAny (model prog w) A.in1 (dictSet d k v) Q (fun e s'=>R (.error e) s') s) :
 ∀ps i j n s,n+ps.length<=N->Left h0 Q2 i ps->(∀p∈ps,ok p.1)->s.heap.IsListIter I l i->s.heap.IsList l Q2->J n s.heap->(∀b o,h0.get? b=some o->s.heap.get? b=some o) ->
 (∀h' tk,(∀b o,b≠d->b≠I->s.heap.get? b=some o->h'.get? b=some o)->J (n+ps.length) h'->R (.ok (.ret .none)) { s with heap:=h',toks:=tk })->codeAny (model prog w) A (.builtin "dict.update.loop" ⟨[.ref d,.ref I,rawInt j,.none],[]⟩) R s:=by
 have D:=hh;intro ps
 induction ps with
 |nil =>intro i j n s _ f _ O y H hk G;refine mQ (Z4 (wpAny_pyNext_list_end D O y f fun h' x=>Z4 (Z5 (Z5 (G h' s.toks (fun b o _ B e=>x b o B e) (same n _ _ H (fun o e=>x d o S e) fun b o e=>x b o (fun z=>by subst z;rw[U]at e;cases e) (hk b o e)))))))
 |cons p ps ih =>
  intro i j n s hN f V O y H hk G;rw[Zn]at hN;obtain⟨⟨v,hv,hp⟩,f⟩:=f;refine mQ (Z4 (wpAny_pyNext_list_item O y hv fun h1 L t=>?_))
  have u:∀b o,h0.get? b=some o->h1.get? b=some o:=fun b o e=>(t.2 b fun z=>by subst z;rw[U]at e;cases e).trans (hk b o e)
  have J1:=same n _ _ H (fun o e=>(t.2 d S).trans e) u
  have P1:yi h1 v p.1 p.2:=by obtain⟨a,o,m,e1,e2,e3⟩:=hp;exact⟨a,o,m,e1,u a o e2,e3⟩
  refine Z4 (wpAny_holding (Z4 (wpAny_tryCatch (tY P1 ?_))));refine wpAny_holding (step n _ _ { s with heap:=h1 } _ (by lia) (V p Zp) J1 u fun h2 tk J2 r=>?_)
  have k2:∀b o,h0.get? b=some o->h2.get? b=some o:=fun b o e=>(r.2 b fun z=>by subst z;rw[Z]at e;cases e).trans (u b o e)
  refine Z5 ⟨plainId_quiet lN _,?_⟩;refine ih (i+1) (j+1) (n+1) { s with heap:=h2,toks:=tk } (by lia) f (fun q m=>V q (Zq _ m)) (L.at fun o e=>(r.2 I S.symm).trans e) (y.at fun o e=>(r.2 l d2).trans ((t.2 l d3).trans e)) J2 k2 fun h' C kk q=>G h' C (fun b o Y B e=>kk b o Y B ((r.2 b Y).trans ((t.2 b B).trans e))) ?_
  rw[Zn,Nat.add_comm ps.length 1,<- Nat.add_assoc];exact q
end
section
variable {E:Yc->Yd->Prop} 
abbrev HI:Obj:={ cls:=.type "dict",data:=.dict #[] }
def xu {d} {h0} {J:Nat->Heap->Prop} {ok:Yc->Prop} {B} (O:A.handled=none) (d2:l≠d) (S:s.heap.get? d=some HI) (u:s.heap.get? l=some o) (G:o.cls=.type "list") (j:o.data=.seq Q2 k) (C:o.dict=none)
 (Y:h0.get? d=none) (r:∀b o,h0.get? b=some o->s.heap.get? b=some o)
 (t:∀n h,J n h->∃o es ep,h.get? d=some o/\o.data=.dict es ep) (same:∀n h h',J n h->(∀o,h.get? d=some o->h'.get? d=some o)->(∀b o,h0.get? b=some o->h'.get? b=some o)->J n h')
 (step:∀n k v(A:Around)(s:Yd)(Q:Unit->Yd->Prop)(E:Yc->Yd->Prop),n<N->A.units<=B->ok k->J n s.heap->(∀b o,h0.get? b=some o->s.heap.get? b=some o)->(∀h' tk,J (n+1) h'->Heap.SameBut d s.heap h'->Q () { s with heap:=h',toks:=tk })->wpAny (model prog w) A (dictSet d k v) Q E s)
 (hN:ps.length<=N) (hB:A.in1.units<=B) (hm:Left h0 Q2 0 ps) (ho:∀p∈ps,ok p.1) (hJ:J 0 s.heap)
 (q:∀h' tk,(∀b o,b≠d->s.heap.get? b=some o->h'.get? b=some o)->J ps.length h'->Q (some .none) { s with heap:=h',toks:=tk }):wpAny (model prog w) A (callSpecial? (.ref d) "__init__" [.ref l]) Q E s:=by
 have H:s.TypeIs (.ref d) "dict":=⟨_,S,rfl⟩;have TL:s.TypeIs (.ref l) "list":=⟨_,u,G⟩;have D:=O;have X:∀(Q:Yg Yc->Yd->Prop) E,(∀h' tk,(∀b o,s.heap.get? b=some o->h'.get? b=some o)->Q none { s with heap:=h',toks:=tk })->wpAny (model prog w) A.in1 (getAttr? (.ref l) "keys") Q E s:=fun Q E q=>HG D u G j C q
 have V:∀Q E,Q (d,[.ref l]) s->wpAny (model prog w) A.in1 (Builtin.Dict.selfAndRest "__init__" ⟨[.ref d,.ref l],[]⟩) Q E s:=fun Q E q=>by unfold Builtin.Dict.selfAndRest;exact Z4 (wpAny_notOrdered_dict H (Z5 q))
 refine wpAny_callSpecial?_slot H PySem.F.kt_called_dict.init (wpAny_call (codeAny_call_builtin PySem.F.kt_called_dict.init.plain F.entry_dict_init (PySem.F.kt_called_dict.init.check _ _ _ _ _ _ _ _ H (F.args_dict_init_2 _ _) ?_)));unfold Builtin.«dict.__init__»;refine Z4 (V _ _ ?_);unfold Builtin.Dict.updateCommon;unfold Builtin.Dict.updateFrom
 wp_walk using X _ _
 intro h1 U f;rw[if_pos (show(none:Yg Yc).isNone=true from rfl)]
 have m:h1.IsList l Q2:=⟨o,f _ _ u,G,k,j⟩
 wp_walk using wpAny_pyIter_list m
 refine⟨plainId_quiet lN _,?_⟩;have y:d≠h1.objs.size:=ZJ (ZU (f _ _ S));have x:l≠h1.objs.size:=ZJ (ZU (f _ _ u));have Z:h0.get? h1.objs.size=none:=by
  cases z:h0.get? h1.objs.size with
  |none=>rfl
  |some o=>exact absurd (ZU (f _ _ (r _ _ z))) (ZK _)
 have I:∀b o,h0.get? b=some o->(h1.push { cls:=.type "list_iterator",data:=.fields #[.ref l,rawInt 0] }).get? b=some o:=fun b o e=>ZT _ (f _ _ (r b o e))
 refine n8 (ok:=ok) (J:=J) (h0:=h0) O y d2 x Y Z t same (fun n k v s Q z=>step n k v _ s Q _ z hB) ps 0 0 0 _ (by rw[Nat.zero_add];exact hN) hm ho ⟨_,ZX _ rfl,rfl,rfl⟩ (m.push _) (same 0 _ _ hJ (fun o e=>ZT _ (f _ _ e)) I) I fun h' tk kk L=>?_
 refine q h' tk (fun b o b1 e=>kk b o b1 (ZJ (ZU (f _ _ e))) (ZT _ (f _ _ e))) ?_
 rw[Nat.zero_add]at L;exact L
def dict_pairs {J:Nat->Heap->Prop} {ok:Yc->Prop} {B} {Q:Yc->Yd->Prop} (G:A.handled=none) (r:s.heap.get? l=some o) (H:o.cls=.type "list") (f:o.data=.seq Q2 k) (m:o.dict=none)
 (j:∀n h,J n h->∃o es ep,h.get? s.heap.objs.size=some o/\o.data=.dict es ep) (same:∀n h h',J n h->(∀o,h.get? s.heap.objs.size=some o->h'.get? s.heap.objs.size=some o)->(∀b o,s.heap.get? b=some o->h'.get? b=some o)->J n h')
 (step:∀n k v(A:Around)(s1:Yd)(Q:Unit->Yd->Prop)(E:Yc->Yd->Prop),n<N->A.units<=B->ok k->J n s1.heap->(∀b o,s.heap.get? b=some o->s1.heap.get? b=some o)->(∀h' tk,J (n+1) h'->Heap.SameBut s.heap.objs.size s1.heap h'->Q () { s1 with heap:=h',toks:=tk })->wpAny (model prog w) A (dictSet s.heap.objs.size k v) Q E s1)
 (I:ps.length<=N) (O:A.in1.in1.units<=B) (D:Left s.heap Q2 0 ps) (C:∀p∈ps,ok p.1) (L:J 0 (s.heap.push HI))
 (q:∀h' tk,(∀b o,s.heap.get? b=some o->h'.get? b=some o)->J ps.length h'->Q (.ref s.heap.objs.size) { s with heap:=h',toks:=tk }):wpAny (model prog w) A (call (.type "dict") [.ref l]) Q E s:=by
 have u:=ZU r;have t:s.heap.get? s.heap.objs.size=none:=by
  cases z:s.heap.get? s.heap.objs.size with
  |none=>rfl
  |some o=>exact absurd (ZU z) (ZK _)
 refine Sw.made PySem.F.kt_called_dict (PySem.F.kt_typeCall_dict_1 _) (wpAny_call (PySem.kt_code_dict_new _ ⟨⟨_,ZX _ rfl,rfl⟩,?_⟩));exact xu G (ZJ u) (ZX _ rfl) (ZT _ r) H f m t (fun b o e=>ZT _ e) j same step I O D C L fun h' tk x y=>⟨rfl,q h' tk (fun b o e=>x b o (ZJ (ZU e)) (ZT _ e)) y⟩
end
end Sd
namespace Sn
open PySem PySem.Spec PyProof.Rows
variable {prog:Program} {w:World} {A:Around} {s:Yd} {T:String} {args:Yh (Bool×Sem Yc)} {kw:Yh (Str×Yc)} {Q:Yc->Yd->Prop} {v:Yc} {t:Tok}
section
variable {E:Yc->Yd->Prop} 
def NC{newId initId}{args}(m:TypeCalled T newId initId)(ct:checkTypeCall T ⟨args,kw⟩=pure ())
 (h:wpAny (model prog w) A.in1 (call (.builtin newId) (.type T::args) kw) (fun f j=>j.TypeIs f T/\wpAny (model prog w) A.in1 (callSpecial? f "__init__" args kw) (fun r l=>r=some .none/\Q f l) E j) E s):wpAny (model prog w) A (call (.type T) args kw) Q E s:=by
 obtain⟨p,u,⟨c,tl,t⟩,mb,_,o,_⟩:=m;refine wpAny_call (codeAny_of_tree (Z5 ⟨Code.quiet_builtin _ (by decide +kernel),codeAny_builtin F.entry_type_call ?_⟩))
 rw[Around.under_plain (weight_type_call_type T args kw) (units_type_call_type T args kw)];unfold Builtin.«type.__call__»
 wp_walk using wpAny_mono h
 . rintro f j ⟨hT,hi⟩
   wp_walk using wpAny_mono hi
   . rintro r l ⟨rfl,q⟩
     wp_walk
     exact q
   . exact fun _ _ e=>e
 . exact fun _ _ e=>e
noncomputable abbrev en1 (it:Addr):Obj:={ cls:=.type "enumerate",data:=.fields #[.none,.bool false,.ref it,rawInt 1,.none,.none] }
theorem FY (a) (t):checkTypeCall "enumerate" ⟨[a],[("start",.int 1 t)]⟩=pure ():=by kernel_rfl
theorem HH (a) (t):checkBuiltinCall "enumerate.__new__" ⟨[.type "enumerate",a],[("start",.int 1 t)]⟩=pure ():=by kernel_rfl
def DB:plainId "enumerate.__new__" = true:=by decide +kernel
def Lx{oI}(j:∀A E Q,Q (.ref s.heap.objs.size) { s with heap:=s.heap.push oI }->wpAny (model prog w) A (pyIter v) Q E s)
 (q:Q (.ref (s.heap.objs.size+1)) { s with heap:=(s.heap.push oI).push (en1 s.heap.objs.size) }):wpAny (model prog w) A (call (.builtin "enumerate.__new__") [.type "enumerate",v] [("start",.int 1 t)]) Q E s:=by
 refine wpAny_call (codeAny_call_builtin DB F.entry_enumerate_new (wpAny_of_eq (HH v t) ?_));have sub:=sub_enumerate;obtain⟨f,g,d,tk,l⟩:=s;unfold Builtin.«enumerate.__new__»;have it:∀Q E,Q (.ref f.objs.size) ⟨f.push oI,g,d,tk,l⟩->wpAny (model prog w) A.in1 (pyIter v) Q E ⟨f,g,d,tk,l⟩:=fun Q E=>j A.in1 _ Q
 wp_walk
 refine wpAny_stack_any fun st=>Dl.pure_bool ?_ ?_<;>wp_walk using it _ _<;>rw[Heap.size_push]<;>exact q
end
variable {V0:Yh (Yg Str×Sem Yc)}
section
variable {E:Yc->Yd->Prop} 
theorem HD (a v) (t):argsOk "object.__init__" ⟨[a,v],[("start",.int 1 t)]⟩:=by unfold argsOk;kernel_rfl
def Ia {e} {Q:Yg Yc->Yd->Prop} (j:s.TypeIs (.ref e) "enumerate") (q:Q (some .none) s):wpAny (model prog w) A (callSpecial? (.ref e) "__init__" [v] [("start",.int 1 t)]) Q E s:=by
 have f:=PySem.F.called_enumerate;have p:=f.init.lookup;have r:=f.init.bind (.ref e);have o:=f.made;obtain⟨m,g,d,tk,l⟩:=s;unfold callSpecial?
 wp_walk
 refine codeAny_call_builtin f.init.plain F.entry_object_init (f.init.check _ _ _ _ _ _ _ _ j (HD _ v t) ?_);unfold Builtin.«object.__init__»
 wp_walk
 exact q
def enum1_call{oI}(l:oI.isFreed=false)(f:∀A E Q,Q (.ref s.heap.objs.size) { s with heap:=s.heap.push oI }->wpAny (model prog w) A (pyIter v) Q E s)
 (h:∀n h',n=s.heap.objs.size->IsEnum h' (n+1) n 1 .none->h'.get? n=some oI->(∀c o,s.heap.get? c=some o->h'.get? c=some o)->Q (.ref (n+1)) { s with heap:=h' }):wpAny (model prog w) A (call (.type "enumerate") [v] [("start",.int 1 t)]) Q E s:=by
 have sz:(s.heap.push oI).objs.size=s.heap.objs.size+1:=Heap.size_push _ _;have j:((s.heap.push oI).push (en1 s.heap.objs.size)).get? (s.heap.objs.size+1)=some (en1 s.heap.objs.size):=by rw[<- sz];exact ZX _ rfl
 refine NC PySem.F.called_enumerate (FY v t) (Lx f ⟨⟨_,j,rfl⟩,Ia ⟨_,j,rfl⟩ ⟨rfl,h _ _ rfl j (ZT _ (ZX _ l)) fun c o e=>ZT _ (ZT _ e)⟩⟩)
variable {M:Model} {env:Env}
def qV{pos}(f:args.any (·.1)=false)(m:V0.any (·.1.isNone)=false)
 (h:wpAny M A (evalArgs (.type T) true args V0) (fun a j=>wpAny M A (call (.type T) a.pos a.kw) Q E j) E s):wpAny M A (callWith pos (.type T) [] args V0) Q E s:=by
 unfold callWith;refine Z4 (wpAny_holding (wpAny_mono h (fun a j l=>Z4 (wpAny_standAt ?_)) fun _ _ x=>x))
 simp only[f,m];exact Z4 (Z5 (Z4 (wpAny_mono l (fun r s₂ o=>Z4 (wpAny_holding (wpAny_point (Z5 o)))) fun _ _ x=>x)))
def call1K {func a} {j} {pos p1 p2} (p:eval (.Call func [a] [⟨some "start",.Constant (.int 1) j p1,p2⟩] pos) env=(do callWith pos (<- eval func env) [] (backTo pos (starEach [a] env)) (backToKw pos (keywordEach [⟨some "start",.Constant (.int 1) j p1,p2⟩] env))):=by rfl)
 (o:starEach [a] env=(false,eval a env)::starEach [] env:=by rfl)
 (h:wpAny M A (eval func env) (fun f m=>f=.type T/\wpAny M A (spliced (backTo pos (starEach [a] env))) (fun vs l=>∀t tk,wpAny M A (call (.type T) vs [("start",.int 1 t)]) Q E { l with toks:=tk }) E m) E s):wpAny M A (eval (.Call func [a] [⟨some "start",.Constant (.int 1) j p1,p2⟩] pos) env) Q E s:=by
 rw[p];refine Z4 (wpAny_mono h (fun f m z=>?_) fun _ _ x=>x)
 obtain⟨rfl,z⟩:=z;rw[o]at z ⊢;refine qV rfl rfl (evalArgs_kwB rfl (wpAny_mono z (fun vs l y=>?_) fun _ _ x=>x))
 show wpAny M A (do let v <- (do let v <- eval (.Constant (.int 1) j p1) env;standAt pos;pure v);return v::(<- holding [v] (pure []))) _ _ l
 refine Z4 (Z4 (wpAny_Constant_int ?_));exact Z4 (wpAny_standAt (Z5 (Z4 (wpAny_holding (Z5 (Z5 (y _ _)))))))
end
end Sn
namespace Sx
open PySem PySem.Spec PyProof.Rows
open PySem.W (Looks)
variable {K:ZB} {a:Ye} {Q:Yc->Yd->Prop}
section
variable {prog:Program} {w:World} {A:Around} {E:Yc->Yd->Prop} {s:Yd}
def Il {C} {ox} (X:K.In s.heap) (g:s.heap.get? a=some ox) (m:ox.cls=.ref C) (l:W.mroIn K C (.type "object")=some true) (q:Q .notImplemented s):wpAny (model prog w) A (call (.builtin "object.__eq__") [.ref a,.none]) Q E s:=by
 have p:Looks (model prog w) s.heap (typeOf (.ref a)) (.ref C):=by rw[<- m];exact(Looks.ld g).andThen .now
 have o:Looks (model prog w) s.heap (isSubtype (.ref C) (.type "object")) true:=W.looks_mroIn X l;refine wpAny_call (codeAny_call_builtin F.slot_object_eq.plain F.cmpEntry_eq ?_);obtain⟨j,gg,d,tk,f⟩:=s;have ck:∀Q E,Q () ⟨j,gg,d,tk,f⟩->wpAny (model prog w) A.in1 (checkBuiltinCall "object.__eq__" ⟨[.ref a,.none],[]⟩) Q E ⟨j,gg,d,tk,f⟩:=fun Q E q=>by
  simp only[checkBuiltinCall,F.cmpKind_eq,F.cmpSplit_eq];unfold isInstance
  wp_walk using p.here,o.here
  exact q
 refine ck _ _ ?_;unfold Builtin.«object.__eq__»
 wp_walk
 exact q
def EO (q:Q .notImplemented s):wpAny (model prog w) A (call (.builtin "NoneType.__eq__") [.none,.ref a]) Q E s:=by
 refine wpAny_call (codeAny_call_builtin F.slot_NoneType_eq.plain F.entry_NoneType_eq (F.slot_NoneType_eq.check _ _ _ _ _ _ _ _ rfl (F.args_NoneType_eq_2 _ _) ?_));obtain⟨j,gg,d,tk,f⟩:=s;unfold Builtin.«NoneType.__eq__»
 wp_walk
 exact q
def eq_none {C} {ox} {Q:Bool->Yd->Prop} (r:A.units<cLine) (X:K.In s.heap) (g:s.heap.get? a=some ox) (f:ox.cls=.ref C) (t:W.findIn K (.ref C) "__eq__" = some (some (.builtin "object.__eq__"))) (v:W.mroIn K C (.type "object")=some true) (q:Q false s):wpAny (model prog w) A (eqBool (.ref a) .none) Q E s:=by
 have y:Looks (model prog w) s.heap (typeLookup (.ref C) "__eq__") (some (.builtin "object.__eq__")):=W.looks_findIn X t;have l:Looks (model prog w) s.heap (typeOf (.ref a)) (.ref C):=by rw[<- f];exact(Looks.ld g).andThen .now
 have j:∀Q E,Q .notImplemented s->wpAny (model prog w) A (call (.builtin "object.__eq__") ([.ref a]++[.none])) Q E s:=fun Q E q=>Il X g f v q
 have z:=F.slot_object_eq.bind (.ref a);have o:∀Q E,Q none s->wpAny (model prog w) A (tryCompare (.ref a) "__eq__" .none) Q E s:=fun Q E q=>by
  obtain⟨u,gg,d,tk,p⟩:=s;unfold tryCompare callSpecialIfBound? bindSpecialIfBound? specialOf
  wp_walk using l.here,y.here,wpAny_askSetting,j _ _
  split<;>wp_walk using j _ _<;>exact q
 have m:∀Q E,Q none s->wpAny (model prog w) A (tryCompare .none "__eq__" (.ref a)) Q E s:=fun Q E q=>by unfold tryCompare;exact Z4 (wpAny_callSpecialIfBound?_slot rfl F.slot_NoneType_eq (EO (Z5 q)))
 have x:Looks (model prog w) s.heap (isSubtype (.type "NoneType") (.ref C)) false:=W.looks_subIn X rfl;obtain⟨u,gg,d,tk,p⟩:=s;unfold eqBool richCompare
 wp_walk using wpAny_cRoomFor r,l.here,x.here,o _ _,m _ _
 exact q
end
end Sx
namespace Dl
open PySem PySem.Spec PyProof.Rows L2
variable {X:Cx} {i t' n j k kt:Nat} {x y m z:Str} {P prog:Program} {w:World} {H H' H₂ F' H1 F1 F2 H2:Hp} {s s' s₂:Yd} {l a e b c tg iter ei X8 cx:Expr} {B A fp Cs:Yh Ye} {h':Heap} {K:ZB} {N T ws ps zs:Yh Str} {scope:Scope} {f fa fb fk:FD} {vs ys:Yh V} {ds:Yh D} {σ:L2.St} {δ δ1 Q4:DS} {t C it:Ye} {p p2 p1 px py spos:Pos} {r r':Yh V->Hp->VK->Prop} {Q:Yc->Yd->Prop} {op:CmpOp} {es X6:Yh Expr} {G G':Yh D->Yg D} {v:V} {u:SD} {st:Stmt} {lo hi:Yg Expr} {fl fh:FO} {Q0:Yh (Ye×Obj)} {cl:Yh (Str×Ye)} {js:Yh Nat} {o:Yg D} {As Q3 Q5 Q6 X4 AA Asc:Nat->Yh Ye} {fm felt wa wb:FM} {ga:FA} {Z:L2.St->Prop} {R:Result->Yd->Prop} {fd:FuncData} {fc:FT} {S itr tn:Nat->Heap->Prop} {sq:Hp->Yh V->Prop} {body:Yh Stmt} {src:FMA} {pl:Sem Bool} {RR:Yc->Ye->Result->Yd->Prop} {V1:Bool}
theorem rX{us}(r:Vals ys us):∀ws,(∀w∈ws,w∈us)->∃zs,Vals zs ws/\zs.length=ws.length/\∀z∈zs,z∈ys
 |[],_=>⟨[],.nil,rfl,fun _ m=>nomatch m⟩
 | w :: ws,h=>by
  obtain⟨zs,h1,h2,q⟩:=rX r ws fun v m=>h v (Zq _ m)
  have pick:∀{ys}{us},Vals ys us->w∈us->∃z,z∈ys/\RelV z w:=fun{ys us} r=>by
   induction r with
   |nil=>exact fun m=>nomatch m
   |cons a t p =>
    intro m;rcases Zu.mp m with z|z
    . subst z;exact⟨_,Zp,a⟩
    . obtain⟨y,o,j⟩:=p z;exact⟨y,Zq _ o,j⟩
  obtain⟨z,m,f⟩:=pick r (h w Zp);exact⟨z::zs,.cons f h1,congrArg (· + 1) h2,fun y l=>by
   rcases Zu.mp l with e|e
   . subst e;exact m
   . exact q y e⟩
theorem sO:∀{f:Yh Int}{us},Vals (f.map V.int) us->∀u∈us,∃i t,u=Value.int i t
 |[],_,.nil,_,m=>nomatch m
 |n::f,_,.cons a t,u,m=>by
  rcases Zu.mp m with z|z
  . subst z;obtain⟨t,e⟩:=a;exact⟨n,t,e⟩
  . exact sO t u z
def xY:CallR X (.builtin "sorted") (fun xs H Q=>∃ p ys,xs=[.ref p]/\SqL X.K H p ys/\(∀ y∈ys,∃ a,∃ j:Yh Int,y=.ref a/\SqT X.K H a (j.map V.int)/\j ≠ [])/\∀ l zs,H l=none->zs.length=ys.length->(∀ z∈zs,z∈ys)->Q (.ref l) (upd H l (.lst zs))):=by
 intro Q0 s σ H xs us Q I r h;obtain⟨p,ys,rfl,hq,ht,q⟩:=h;obtain⟨u,rfl,S⟩:=jK r;cases S;obtain⟨Q1,r',pl,G⟩:=I.list hq;have hT:∀v∈Q1,So.TupI s.heap v:=fun v m=>by
  have pick:∀{ys}{us},Vals ys us->v∈us->∃z,z∈ys/\RelV z v:=fun{ys us} r=>by
   induction r with
   |nil=>exact fun m=>nomatch m
   |cons a t ih =>
    intro m;rcases Zu.mp m with z|z
    . subst z;exact⟨_,Zp,a⟩
    . obtain⟨y,m2,U⟩:=ih z;exact⟨y,Zq _ m2,U⟩
  obtain⟨y,Z,O⟩:=pick r' m;obtain⟨a,j,rfl,hs,C⟩:=ht y Z;cases O;obtain⟨jts,D,pt,_⟩:=I.tuple hs;have B:=sO D;cases j with
  |nil=>exact absurd rfl C
  |cons i j =>
   cases D with
   |cons a0 t0 =>obtain⟨t,rfl⟩:=a0;obtain⟨o,g,c,n,d⟩:=pt;exact⟨a,o,_,n,i,t,rfl,g,c,d,rfl,fun x mx=>B x (by simpa using mx)⟩
 refine So.sorted_t pl.isList hT (by rw[<- r'.length];exact G) fun h' a f e k Y la he z1 z2=>?_
 obtain⟨zs,h1,h2,h3⟩:=rX r' f.toList z2;have J:=I.hok.fresh la;have L:zs.length=ys.length:=by rw[h2,Array.length_toList,z1,r'.length]
 exact⟨.ref a,_,pj I k Y J (u:=.lst zs) ⟨by rw[L];exact G,f.toList,e,h1,by simpa using he⟩,rfl,q a zs J L h3⟩
noncomputable def vM:D->Bool
 |.tin=>true
 |_=>false
def ue(as:List D):Option D:=(oi as).bind fun ds=>if ds.all vM=true then some (.lst ds)else none
theorem u4:∀{vs}{ds},Reps K H vs ds->ds.all vM=true->∀v∈vs,∃a,∃f,v=.ref a/\SqT K H a (f.map V.int)/\f≠[]
 |_,_,.nil,_,_,m=>nomatch m
 |_,d::_,.cons r t,e,v,m=>by
  rw[List.all_cons,ZN]at e;rcases Zu.mp m with z|z
  . subst z;cases d <;> first | cases e.1 | skip
    cases r with
    |tin h n=>exact⟨_,_,rfl,h,n⟩
  . exact u4 t e.2 v z
theorem uU:∀{zs}{ds},zs.length=ds.length->ds.all vM=true->(∀v∈zs,∃a,∃f,v=.ref a/\SqT K H a (f.map V.int)/\f≠[])->Reps K H zs ds
 |[],[],_,_,_=>.nil
 |z::zs,d::ds,hl,e,h=>by
  rw[List.all_cons,ZN]at e;obtain⟨a,f,rfl,j,l⟩:=h z Zp;cases d<;>first|cases e.1|skip
  exact .cons (.tin j l) (uU (by simpa using hl) e.2 fun v m=>h v (Zq _ m))
def uT:D->Option D
 |.tup ds=>(qz ds).bind fun ns=>if ns=[]then none else some .tin
 |_=>none
def wD(K:ZB)(H:Hp)(V1:Bool)(y:V):Prop:=∃a k v,y=.ref a/\SqT K H a [k,v]/\if V1=true then(∃x,k=.str x)else ∃b,∃ns:List Int,k=.ref b/\SqT K H b (ns.map V.int)
theorem sN:∀{ns}{us},Vals (ns.map V.int) us->ItemsAre (intKind P w) ns us
 |[],_,.nil=>.nil
 |n::ns,_,.cons a t=>by obtain⟨tk,rfl⟩:=a;exact .cons (by show Value.isInt n (.int n tk)=true;simp[Value.isInt]) (sN t)
theorem vH(I:L2.Inv X Q0 σ H s):∀{ys}{us} pre,Vals ys us->(∀y∈ys,wD X.K H V1 y) ->
 ∃ps,Sd.Left s.heap (pre++us).toArray pre.length ps/\ps.length=us.length/\∀p∈ps,if V1=true then(∃x t,p.1=Value.str x t)else ∃b,∃f,p.1=.ref b/\IsTupleKey (intKind X.prog X.w) s.heap f b
 |_,_,pre,.nil,_=>⟨[],by show(pre++[]).toArray[pre.length]?=none;simp,rfl,fun _ m=>nomatch m⟩
 |y::ys,u::us,pre,.cons a t,h=>by
  obtain⟨ps,h1,h2,L⟩:=vH I (pre++[u]) t fun y m=>h y (Zq _ m)
  obtain⟨b,k,v,rfl,J,hk⟩:=h _ Zp;cases a;obtain⟨G,q,pt,_⟩:=I.tuple J;obtain⟨D,vu,rfl,l,V⟩:=uR q;obtain⟨o,g,c,n,d⟩:=pt;refine⟨(D,vu)::ps,⟨⟨.ref b,by simp,b,o,n,rfl,g,c,d⟩,?_⟩,congrArg (· + 1) h2,fun p m=>?_⟩
  . simpa using h1
  . rcases Zu.mp m with z | z
    . subst z;cases V1 with
      |true =>rw[if_pos rfl]at hk ⊢;obtain⟨x,rfl⟩:=hk;obtain⟨t,e⟩:=(l);exact⟨x,t,e⟩
      |false =>rw[if_neg ZC]at hk ⊢;obtain⟨U,f,rfl,j⟩:=hk;cases l;obtain⟨Q1,r,B,_⟩:=I.tuple j;obtain⟨C,O,S,n2,Q⟩:=B;exact⟨U,f,rfl,C,_,n2,O,S,Q,sN r⟩
    . exact L p z
def vJ{h}{ns}{a}(k:∀b o,h.get? b=some o->h'.get? b=some o)(x:IsTupleKey (intKind P w) h ns a):IsTupleKey (intKind P w) h' ns a:=by obtain⟨o,Q1,n,g,r⟩:=x;exact⟨o,Q1,n,k _ _ g,r⟩
theorem wm (V1) (hc:X.calm=true) (hu:X.A.units+2<cLine):CallR X (.type "dict") (fun xs H Q=>∃p ys,xs=[.ref p]/\SqL X.K H p ys/\(∀y∈ys,wD X.K H V1 y)/\∀l,H l=none->Q (.ref l) (upd H l (FU l))):=by
 intro Q0 s σ H xs us Q I r h;obtain⟨p,ys,rfl,hq,hy,q⟩:=h;obtain⟨u,rfl,rx⟩:=jK r;cases rx;obtain⟨Q1,r',⟨o,n,g,c,od,Z⟩,hz⟩:=I.list hq;obtain⟨ps,h1,h2,V⟩:=vH I [] r' hy;have U:=I.ok.hd hc;have L:=I.hok.fresh (ZM _);have na:s.heap.get? s.heap.objs.size=none:=Sw.none_size (ZM _);have G:ps.length<=sizeLine:=by rw[h2,<- r'.length];exact hz
 have Q4:∀h' tk,(∀b o,s.heap.get? b=some o->h'.get? b=some o)->(∃o,h'.get? s.heap.objs.size=some o/\o.cls=.type "dict")->EP X Q0 σ Q (.ref s.heap.objs.size) { s with heap:=h',toks:=tk }:=fun h' tk k x=>by
  refine⟨.ref s.heap.objs.size,_,pj I k na L (u:=FU s.heap.objs.size) ⟨x,?_,fun h1 h2 y z=>?_⟩,rfl,q _ L⟩
  . obtain⟨o,e,_⟩:=x;exact⟨o,e⟩
  . obtain⟨o,e,C⟩:=y;exact⟨o,z _ e,C⟩
 cases V1 with
 |true =>
  refine Sd.dict_pairs (ok:=fun k=>∃x t,k=Value.str x t) (J:=fun n h=>∃X3,h.DictOf (PySem.strKind X.prog X.w) s.heap.objs.size X3/\X3.length<=n) U g c Z od (fun n h x=>?_) (fun n h h' x k _=>?_) (fun n k v A s1 Q E L _ ok x _ f=>?_) G (ZM _) h1 (fun p m=>by have:=V p m;rw[if_pos rfl]at this;exact this) ⟨[],Heap.DictOf.new _,ZM _⟩ fun h' tk k x=>Q4 h' tk k ?_
  . obtain⟨X3,⟨o,es,ep,j,C,D,_⟩,_⟩:=x;exact⟨o,es,ep,j,D⟩
  . obtain⟨X3,⟨o,es,ep,j,C⟩,D⟩:=x;exact⟨X3,⟨o,es,ep,k _ j,C⟩,D⟩
  . obtain⟨y,t,rfl⟩:=ok;obtain⟨X3,j,C⟩:=x;exact wpAny_dictSet_pairs (k:=y) (by show(PySem.strKind X.prog X.w).is y (.str y t)=true;simp[PySem.strKind,Value.isStrOf]) j (fun h' z1 z2=>f h' _ ⟨_,z1,ZZ (stored_length_le _ _ _) (Nat.succ_le_succ C)⟩ z2) (by lia)
  . obtain⟨X3,⟨o,es,ep,j,C,_⟩,_⟩:=x;exact⟨o,j,C.1⟩
 |false =>
  refine Sd.dict_pairs (N:=sizeLine) (B:=X.A.units+2) (ok:=fun k=>∃b,∃O,k=.ref b/\IsTupleKey (intKind X.prog X.w) s.heap O b) (J:=fun n h=>∃xs,h.DictOfH (tupleKind (intKind X.prog X.w)) s.heap.objs.size xs/\xs.length<=n/\∀x∈xs,IsTupleKey (intKind X.prog X.w) s.heap x.1 x.2.1) U g c Z od (fun n h x=>?_) (fun n h h' x k S=>?_) (fun n k v A s1 Q E L hB ok x S f=>?_) G (ZM _) h1 (fun p m=>by have:=V p m;rw[if_neg ZC]at this;exact this) ⟨[],Heap.DictOfH.new _,ZM _,fun _ m=>nomatch m⟩ fun h' tk k x=>Q4 h' tk k ?_
  . obtain⟨xs,⟨o,es,ep,j,C,D,_⟩,_⟩:=x;exact⟨o,es,ep,j,D⟩
  . obtain⟨xs,⟨o,es,ep,j,C,D,e4,e5,e6⟩,e7,Y⟩:=x;exact⟨xs,⟨o,es,ep,k _ j,C,D,e4,fun x m=>vJ S (Y x m),e6⟩,e7,Y⟩
  . obtain ⟨b,O,rfl,hk⟩:=ok;obtain ⟨xs,j,C,D⟩:=x;refine wpAny_dictSet_heap (knd:=tupleKind (intKind X.prog X.w)) (k:=O) (by show A.units < cLine;lia) (vJ S hk) j (fun h' z1 z2=>f h' _ ⟨_,z1,?_,fun x m=>?_⟩ z2) (by lia)
    . unfold storedH;split
      . rw[Zm];lia
      . rw[Zl,List.length_singleton];lia
    . rcases mem_storedH m with ⟨y,my,z1,z2⟩ | ⟨z1,z2⟩
      . rw[z1,z2];exact D y my
      . rw[z1,z2];exact hk
  . obtain⟨xs,⟨o,es,ep,j,C,_⟩,_⟩:=x;exact⟨o,j,C.1⟩
noncomputable def yV(V1:Bool):D->Bool
 |.tup [.str _,_]=>V1
 |.tup [.tin,_]=>!V1
 |_=>false
def oZ(V1:Bool)(as:List D):Option D:=(oi as).bind fun ds=>if ds.all (yV V1)=true then some .dct else none
def AE {d} (r:Rep K H v d) (e:yV V1 d=true):wD K H V1 v:=by
 unfold yV at e;split at e
 . subst e;cases r with
   | tup h f =>
    cases f with
    |cons j t =>
     cases t with
     |cons l t =>cases t;cases j;exact⟨_,_,_,rfl,h,by rw[if_pos rfl];exact⟨_,rfl⟩⟩
 . have:V1=false:=by cases V1 <;> first | rfl | cases e
   subst this;cases r with
   | tup h f =>
    cases f with
    | cons j t =>
     cases t with
     |cons l t =>
      cases t;cases j with
      |tin h1 n1=>exact⟨_,_,_,rfl,h,by rw[if_neg ZC];exact⟨_,_,rfl,h1⟩⟩
 . cases e
def AD{vs:Yh V}{ds:Yh D}(r:Reps K H vs ds):ds.all (yV V1)=true->∀v∈vs,wD K H V1 v:=by
 induction r using Reps.ind with
 |nil=>exact fun _ _ m=>nomatch m
 |cons r _ f =>
  intro e v m;rw[List.all_cons,ZN]at e;rcases Zu.mp m with z|z
  . subst z;exact AE r e.1
  . exact f e.2 v z
def Fn(V1):CallD K (fun xs H Q=>∃p ys,xs=[.ref p]/\SqL K H p ys/\(∀y∈ys,wD K H V1 y)/\∀l,H l=none->Q (.ref l) (upd H l (FU l))) (oZ V1):=by
 intro xs H Q as d r e k;unfold oZ at e;obtain⟨ds,o,e⟩:=Za.mp e;split at e
 . rename_i j;cases e;obtain⟨p,ys,h1,h2,m⟩:=qZ r o;exact⟨p,ys,h1,h2,AD m j,fun l f=>k _ _ (bv f _) (.dct aH)⟩
 . cases e
def rG(f:FM):FM:=fun δ=>(f δ).bind fun p=>(uT p.1).bind fun d=>some (d,p.2)
def zW{d e}(r:Rep K H v d)(h:uT d=some e):e=.tin/\Rep K H v .tin:=by
 unfold uT at h;split at h
 . obtain ⟨o,m,h⟩:=Za.mp h;split at h
   . cases h
   . rename_i l;cases h;cases r with
     |tup j f =>have:=vP f m;subst this;exact⟨rfl,.tin j l⟩
 . cases h
def Ke{f}(h:PW X e f):PW X e (rG f):=dw h fun{σ H Q F δ As d δ'} R q k=>by
 unfold rG at q;obtain⟨⟨s,δ1⟩,p,q⟩:=Za.mp q;obtain⟨t,o,q⟩:=Za.mp q;cases q;refine⟨F,δ,As,s,δ1,R,p,fun v F' H' A Q3 m j r=>?_⟩
 obtain⟨rfl,l⟩:=zW (r.rep j.fz) o;exact k v F' H' [] Q3 m.bare j (.imm rfl l)
section
variable {o:Expr} {Q7:Yh Expr} {g:FMA} {pos:Pos}
def Hs(h:PW X e fm):PD X e (jr fm):=gj h fun{σ H Q δ d} R q k=>by unfold jr at q;obtain⟨⟨d',δ'⟩,j,q⟩:=Za.mp q;cases q;exact⟨H,shO δ,fun _=>[],d',δ',R.toA,j,fun v F' H' A Q3 f l r=>k v H' (fun x u z=>f.ks x u z fun _ m=>nomatch m) (r.rep l.fz)⟩
def Kq{r}{G}(f:OpR X (compareOp op) r)(l:R2D X.K r G)(o:PW X a wa)(m:PW X b wb)(j:behindInMarks op b=false):PW X (.Compare a [op] [b] pos) (bY G wa wb):=imp (yT f o m j) fun _ _ _=>vQ l
def Kp(f:X.A.units+64<cLine)(l:PW X a wa)(j:PW X b wb):PW X (.Compare a [.Eq] [b] pos) (bY bQ wa wb):=Kq (t4 f) tT l j (eP _)
def GJ(l:PW X a wa)(f:PW X b wb):PW X (.BinOp a .Mult b pos) (bY (gI kB fun i j=>.int (i*j)) wa wb):=CT yY (CO fun _ _ _=>.int _) l f
def GI(l:PW X a wa)(f:PW X b wb):PW X (.BinOp a .Sub b pos) (bY (gI0 fun i j=>.int (i-j)) wa wb):=CT DW (mJ fun _ _ _=>.int _) l f
def gZ(a b:D):Option D:=(zf b).bind fun ds=>if eS a&&ds.all eS then some (.bl (!ds.any fun y=>eqF y a))else none
def u8:R2D K (rIn K true) gZ:=by
 intro x y H Q a b d j f e k;unfold gZ at e;obtain⟨ds,u,e⟩:=Za.mp e;split at e
 . rename_i l;have:=CJ x y H (fun w H'=>∃ c,w=.bl c/\Q (.bl (!c)) H') a b (.bl (ds.any fun y=>eqF y a)) j f (by unfold gIn;rw [u];show (if _ then _ else _)=_;rw [if_pos l]) fun w H' s r=>by
    cases r;cases e;exact⟨_,rfl,k _ H' s (.bl _)⟩
   obtain⟨p,xs,h1,h2,t,q,c,o,m⟩:=this;refine⟨p,xs,h1,h2,t,q,?_⟩;cases o;exact m
 . cases e
def DR(l:PD X a fa)(j:PD X b fb)(f:behindInMarks .NotIn b=false:=by with_unfolding_all rfl):PD X (.Compare a [.NotIn] [b] pos) (f2 gZ fa fb):=jf mN u8 l j f
def Au(l:PD X a fa)(j:PD X b fb)(f:behindInMarks .NotIn b=false:=by with_unfolding_all rfl):PTD X (.Compare a [.NotIn] [b] pos) (fT (f2 gZ fa fb)):=gF mN u8 l j f
def Hw{i}{t}(j:Gl X x)(f:X.mg x=some (.int i t))(l:NbX x:=by kernel_rfl):PD X (.Name x pos) (fC (.int i)):=gj (pc (v:=.int i) j f ⟨t,rfl⟩ l) fun{σ H Q δ d} R e k=>by cases e;exact k _ H (Same.refl H) (.int i)
def Hv{t}(j:Gl X x)(f:X.mg x=some (.str z t))(l:NbX x:=by kernel_rfl):PD X (.Name x pos) (fC (.str z)):=gj (pc (v:=.str z) j f ⟨t,rfl⟩ l) fun{σ H Q δ d} R e k=>by cases e;exact k _ H (Same.refl H) (.str z)
def GTup (K:ZB) (a:Addr) (zs:List Str):Prop:=∃(o:Obj) (Q1:Array Value) (n:Nat),K.lookup a=some o/\o.cls=.type "tuple"/\o.data=.seq Q1 n/\Q1.size<=sizeLine/\Vals (zs.map V.str) Q1.toList
def Hu{c}(f:GTup X.K c zs)(l:Gl X x)(j:X.mg x=some (.ref c))(m:NbX x:=by kernel_rfl):PD X (.Name x pos) (fC (.tup (zs.map D.str))):=gj (pc (v:=.ref c) l j rfl m) fun{σ H Q δ d} R e k=>by cases e;obtain⟨o,Q1,n,h1,h2,r,q,p⟩:=f;exact k _ H (Same.refl H) (.tup (.inr ⟨o,Q1,n,h1,h2,r,q,p⟩) (pV zs))
noncomputable def zo:List D->Option D
 |[.int i,.int j]=>some (.int (if j>i then j else i))
 |_=>none
def IC:CallD K (fun xs H Q=>∃ i j,xs=[.int i,.int j]/\Q (.int (if j > i then j else i)) H) zo:=by
 intro xs H Q as d r e k;unfold zo at e;split at e
 . cases e;cases r with
   |cons l t =>
    cases t with
    |cons f t =>cases t;cases l;cases f;exact⟨_,_,rfl,k _ H (Same.refl H) (.int _)⟩
 . cases e
def pF(f:FD):FM:=fun δ=>(f δ).bind fun d=>(ue [d]).bind fun d'=>some (d',δ)
theorem vS:∀{ds},ds.all vM=true->cZ ds=true
 |[],_=>rfl
 |d::ds,h=>by
  rw[List.all_cons,ZN]at h;cases d<;>first|cases h.1|skip
  rw[cZ,vS h.2];rfl
def C4 (G:Gl X "sorted") (r:X.mg "sorted" = none) (I:PD X e f) (u:starEach [e] X.env=(false,eval e X.env)::starEach [] X.env:=by rfl) (o:(backTo pos (starEach [] X.env)).any (·.1)=false:=by rfl) :
 PV X (.Call (.Name "sorted" p) [e] [] pos) (pF f):=vR (qd xY G r ng (vo I yW u) (by decide) (by decide) u o) fun {σ H Q F δ As d δ'} y q k=>by
 unfold pF at q;obtain⟨O,L,q⟩:=Za.mp q;obtain⟨S,j,q⟩:=Za.mp q;cases q;refine⟨δ,[O],y.toS,by show((f δ).bind _)=_;rw[L];rfl,fun vs H1 z B l=>?_⟩
 unfold ue at j;obtain⟨ds,J,j⟩:=Za.mp j;split at j
 . rename_i s;cases j;obtain⟨q,ys,h1,h2,x⟩:=qZ B J;have t:=u4 x s;exact⟨q,ys,h1,h2,t,fun l zs D C r=>nS y z (uU (C.trans x.length) s fun v m=>t v (r v m)) (vS s) D k⟩
 . cases j
end
def FQ(sq:Hp->List V->Prop):It :=
 ⟨fun i H=>∃xs x,sq H xs/\xs[i]?=some x,fun i H v H'=>∃p x,v=.ref p/\H p=none/\H'=upd H p (.tup [.int ((i+1:Nat):Int),x])/\∀xs,sq H xs->xs[i]?=some x,fun i H=>∃xs,sq H xs/\xs.length<=i⟩
theorem MT{A}{P:Nat->Yc->Prop}{St:Nat->Heap->Prop}(D:Draws prog w A it fp n P St):Draws prog w A it fp (n+1) (fun i x=>P (i-1) x) (fun i h=>1<=i/\St (i-1) h) where
 live:=fun i h q=>D.live _ h q.2
 frame:=fun i h h' q k=>⟨q.1,D.frame _ h h' q.2 k⟩
 item:=fun i s Q E hi st j=>D.item (i-1) s Q E (by have:=st.1;lia) st.2 fun x h' tk p q f=>j x h' tk p ⟨Nat.le_add_left 1 i,by rw[show i+1-1=i-1+1 by have:=st.1;lia];exact q⟩ f
 done:=fun s Q E st k=>D.done s Q E st.2 k
theorem BY{pt}{e}(S:EnS P w K sq it t itr)(n1:e≠it)(n2:e≠t) :
 uL P w K (.Tuple es kt pt) (FQ sq) [e,it] e (fun i h=>(∃old,IsEnum h e it ((i+1:Nat):Int) old)/\itr i h) where
 mem:=by simp
 obj:=fun i h st b f=>by
  obtain⟨⟨old,m⟩,hi⟩:=st;simp only[Zu,ZI,or_false]at f;rcases f with rfl|rfl
  . exact⟨_,m,fun v q=>by cases q⟩
  . exact S.obj i h hi
 keep:=fun i h h' st k=>by obtain⟨⟨old,m⟩,hi⟩:=st;exact⟨⟨old,k e (by simp) _ m⟩,S.keep i h h' hi fun o q=>k it (by simp) o q⟩
 item:=by
  intro X G r U hc i Q0 s σ H E I O st hg;obtain⟨xs,x,L,hx⟩:=hg;obtain⟨⟨old,m⟩,hi⟩:=st;obtain⟨Q1,St,Z,up,dn,J⟩:=S.src X Q0 σ H s xs G r U I L;obtain⟨u,hu,ru⟩:=Z.get hx;have il:=(ZL.mp hu).1;have C:=I.ok.hd hc;subst G r;refine wpAny_pyNext_enum_itemD (MT (J X.A.in1 C).1) m ⟨Nat.le_add_left 1 i,up i hi⟩ (Nat.succ_lt_succ il) n1 (by simp[n1,n2]) fun y h' tk py ho hs' hT hsz hk=>?_
  cases hu.symm.trans py;have lt:∀b∈[e,it],b<s.heap.objs.size:=fun b f=>by
   simp only[Zu,ZI,or_false]at f;rcases f with rfl|rfl
   . exact ZU m
   . obtain⟨o,q,_⟩:=S.obj i _ hi;exact ZU q
  have fT:H s.heap.objs.size=none:=I.hok.fresh (ZM _);refine⟨_,rfl,wpAny_letOwnedTupleGo_enum ho fun p B Y=>?_⟩
  have V:s.heap.objs.size≠e:=Nat.ne_of_gt (lt e (by simp))
  have kk:∀b o,b∉[e,it]->s.heap.get? b=some o->p.get? b=some o:=fun b o f q=>by simp only[Zu,ZI,or_false,not_or]at f;exact(Y.2 b f.1).trans (hk b o f.1 f.2 q)
  have hT2:p.get? s.heap.objs.size=some { cls:=.type "tuple",data:=.seq #[.int ((i+1:Nat):Int) tk,u] }:=(Y.2 _ V).trans hT;refine⟨.ref s.heap.objs.size,upd H s.heap.objs.size (.tup [.int ((i+1:Nat):Int),x]),BZ (s:=s) (h':=p) (t':=tk+1) I kk O (ZM _) ⟨by show 2<=sizeLine;decide,[.int ((i+1:Nat):Int) tk,u],.cons ⟨tk,rfl⟩ (.cons ru .nil),⟨_,hT2,rfl,_,rfl⟩⟩,rfl,⟨_,x,rfl,fT,rfl,fun zs q=>by rw[S.inj X Q0 σ H s zs xs U I q L];exact hx⟩,⟨⟨u,B⟩,S.keep (i+1) h' p (dn _ _ hs'.2) fun o q=>(Y.2 it (Ne.symm n1)).trans q⟩,fun b f=>?_⟩
  rw[aF (ZJ (lt b f))];exact(O b f).1
 done:=by
  intro X G r U hc i Q0 s σ H E I O st hg;obtain⟨xs,L,hl⟩:=hg;obtain⟨⟨old,m⟩,hi⟩:=st;obtain⟨Q1,St,Z,up,dn,J⟩:=S.src X Q0 σ H s xs G r U I L;have l1:=Z.length;have C:X.A.in1.handled=none:=I.ok.hd hc;subst G r;have D:Draws X.prog X.w X.A.in1 it [it,t] i (fun _ _=>False) (fun j h=>j=i/\St i h):=⟨fun j h q=>(J X.A.in1 C).1.live i h q.2,fun j h h' q k=>⟨q.1,(J X.A.in1 C).1.frame i h h' q.2 k⟩,fun j s Q E l q=>absurd q.1 (ZJ l),fun s Q E q k=>(J X.A.in1 C).2 i (by lia) s Q E q.2 k⟩
  refine wpAny_pyNext_enum_endD D m ⟨rfl,up i hi⟩ fun h' x=>⟨rfl,B5 (t':=s.toks) I (fun b o f q=>?_) O⟩
  exact x b o (fun z=>f (by rw[z];simp)) q
 self:=fun A i s Q E st h=>by obtain⟨⟨old,m⟩,_⟩:=st;exact wpAny_pyIter_enum m h
def KQ {pt} {ta} {pos} (L:Gl X "enumerate") (J:X.mg "enumerate" = none) (O:PA X [a] ta) (D:starEach [a] X.env=(false,eval a X.env) :: starEach [] X.env:=by rfl) :
 PI X (.Tuple es kt pt) (.Call (.Name "enumerate" p) [a] [⟨some "start",.Constant (.int 1) j p1,p2⟩] pos) (fun σ H R=>ta σ H fun vs H1=>∃a,vs=[.ref a]/\(∃ys,SqL X.K H1 a ys)/\R (FQ fun H xs=>SqL X.K H a xs) H1):=by
 intro Q0 s σ H R I h;refine Sn.call1K rfl D (lU I L J PyProof.Rows.boot_enumerate ⟨rfl,thn (O pos Q0 s σ H _ I h) fun us u h0 t tk=>?_⟩)
 obtain⟨vs,H1,o,B,C⟩:=h0;obtain⟨l,e,⟨ys,G⟩,q⟩:=C;subst e;cases B with
 | cons r z =>
  cases z;cases r;have S:=o.tok tk;obtain⟨Q1,U,p,_⟩:=o.list G;have y:l<u.heap.objs.size:=by obtain⟨_,e,_⟩:=p.isList;exact ZU e
  have fp:∀n,n=u.heap.objs.size->(∀b∈[n+1,n],nr X Q0 H1 b):=fun n m b v=>by
   have f:u.heap.objs.size<=b:=by
    rw[m]at v;simp only[Zu,ZI,or_false]at v;rcases v with rfl|rfl
    . exact Nat.le_succ _
    . exact ZM _
   exact o.fpOk f (o.hok.fresh f)
  refine Sn.enum1_call rfl (fun A E Q k=>wpAny_pyIter_list p.isList k) fun n h' m x hi hk=>wpAny_pyIter_enum x ?_
  exact⟨_,_,_,_,H1,rfl,S.kept hk,BY (zx (by rw[m];exact ZJ y)) (Nat.succ_ne_self n) (by rw[m];exact Nat.ne_of_gt (Nat.lt_succ_of_lt y)),⟨⟨_,x⟩,⟨_,hi,rfl,rfl⟩⟩,fp n m,q⟩
theorem H8{F}{a}(o:SqL K F a vs)(r:Reps K F vs ds):ItG K (FQ fun H xs=>SqL K H a xs) F (enF 1 ds):=by
 intro i H2 s;have h1:=s.seq o;have v:=r.length;rw[ul];refine⟨fun hi=>⟨⟨vs,vs[i]'(by lia),h1,by simp[show i<vs.length by lia]⟩,fun x H' y=>?_⟩,fun hi=>⟨vs,h1,by lia⟩⟩
 obtain⟨p,u,rfl,q,rfl,f⟩:=y;obtain⟨d,t,m⟩:=r.getV (f vs h1);refine⟨bv q _,.tup [.int ((i+1:Nat):Int),d],?_,fun F' l j=>?_⟩
 . rw[um,t,Nat.add_comm 1 i];rfl
 . rw[sh,shs,shs,shs];exact .tup (SqT.of aH) (.cons (.imm rfl (.int _)) (.cons (RepO.of_sh j (m.mono l)) .nil rfl) rfl)
def nv(f:FM):FMA:=fun δ=>(f δ).bind fun p=>match sh p.1 with
 |.seq ds=>some (enF 1 ds,p.2)
 |_=>none
def Hh {pt} {fa} {pos} (s:Gl X "enumerate") (r:X.mg "enumerate" = none) (t:PW X a fa) (f:starEach [a] X.env=(false,eval a X.env)::starEach [] X.env:=by rfl) :
 PIQ X (.Tuple es kt pt) (.Call (.Name "enumerate" p) [a] [⟨some "start",.Constant (.int 1) j p1,p2⟩] pos) (nv fa):=sP (KQ s r (cD t gh f) f) fun {σ H R F δ As ds δ'} B e k=>by
 unfold nv at e;obtain⟨⟨d,δ1⟩,x,e⟩:=Za.mp e;split at e
 . rename_i es f;cases e;refine ⟨F,δ,As,d,_,B,x,fun v F1 H1 A Q5 u y q=>?_⟩
   obtain⟨F2,l,R2,_,z⟩:=u.freeze y q;rw[f]at z;cases z with
   |@seq p vs _ m o=>exact⟨p,rfl,⟨vs,R2.fz.seq m⟩,k _ F2 H1 Q5 l R2 (H8 m o)⟩
 . cases e
structure ClsE(K:ZB)(C:Addr):Prop where
 eq:W.findIn K (.ref C) "__eq__" = some (some (.builtin "object.__eq__"))
 mr:W.mroIn K C (.type "object")=some true
noncomputable def lu(Cs:List Addr):List D->Option (List Bool)
 |[]=>some []
 |.non::ds=>(lu Cs ds).bind fun bs=>some (true::bs)
 |d::ds=>(jX d).bind fun o=>if o.1∈Cs then(lu Cs ds).bind fun bs=>some (false::bs)else none
def kO(Cs:List Addr)(a b:D):Option D:=match a with
 |.non=>(asL b).bind fun ds=>(lu Cs ds).bind fun bs=>some (.bl (!bs.any id))
 |_=>none
def yG(K:ZB)(Cs:List Addr):R2:=fun x y H Q=>∃q ds bs ys,x=.non/\y=.ref q/\SqL K H q ys/\Reps K H ys ds/\lu Cs ds=some bs/\Q (.bl (!bs.any id)) H
section
variable {pos:Pos} 
open Classical in
theorem FI(I:L2.Inv X Q0 σ H s)(J:∀C∈Cs,ClsE X.K C)(A) (S:A.units<cLine) {ys us} {ds:Yh D} {bs} (v:Vals ys us) (r:Reps X.K H ys ds):lu Cs ds=some bs ->
 (∀u∈us,SeqAt.EqAt A s u .none (decide (u=Value.none)))/\(us.any fun u=>decide (u=Value.none))=bs.any id:=by
 induction r using Reps.ind generalizing us bs with
 |nil=>cases v;intro e;cases e;exact⟨fun u m=>(nomatch m),rfl⟩
 | @cons y d ys ds r rr O =>
  cases v with
  | @cons _ u _ us B t =>
   intro e;have go:∀c cs,lu Cs ds=some cs->bs=c::cs->decide (u=Value.none)=c->SeqAt.EqAt A s u .none c->(∀f∈u::us,SeqAt.EqAt A s f .none (decide (f=Value.none)))/\((u::us).any fun u=>decide (u=Value.none))=bs.any id:=fun c cs l Z L x=>by
    obtain⟨h1,h2⟩:=O t l;refine⟨fun w m=>?_,?_⟩
    . rcases Zu.mp m with z | z
      . rw[z,L];exact x
      . exact h1 w z
    . rw[List.any_cons,h2,L,Z];rfl
   have j:∀{o},jX d=some o->(if o.1∈Cs then(lu Cs ds).bind fun bs=>some (false::bs)else none)=some bs->(∀f∈u::us,SeqAt.EqAt A s f .none (decide (f=Value.none)))/\((u::us).any fun u=>decide (u=Value.none))=bs.any id:=fun{o} Y e=>by
    split at e
    . rename_i G;obtain⟨cs,l,e⟩:=Za.mp e;cases e;obtain⟨C,fx,fd⟩:=o;obtain⟨p,dx,vs,rfl,U,_,_⟩:=r.objD Y;cases B;have ok:=I.hok p _ U;have g:=ok.2.2.2.1;exact go false cs l rfl (decide_eq_false fun z=>by cases z) fun prog w E Q q=>Sx.eq_none S I.kIn g rfl (J C G).eq (J C G).mr q
    . cases e
   cases d with
   |non =>
    obtain⟨cs,l,e⟩:=Za.mp (e);cases e;have:u=Value.none:=by cases r;exact B
    exact go true cs l rfl (decide_eq_true this) (by rw[this];exact(EQ I 0 A (by lia) (show RelV V.non Value.none from rfl) (show RelV V.non Value.none from rfl) .non .non rfl).2.2)
   |ob C xs vs=>exact j rfl e
   |oo C xs vs=>exact j rfl e
   |_=>cases e
open Classical in
theorem AF(p:∀C∈Cs,ClsE X.K C)(B:X.A.units+64<cLine):OpR X (compareOp .NotIn) (yG X.K Cs):=by
 intro Q0 s σ H x y v u Q I j f h;obtain⟨q,ds,bs,ys,rfl,rfl,o,l,e,k⟩:=h;cases f;have t:=j;subst t;obtain⟨Q1,r,pl,z⟩:=I.list o;obtain⟨h1,h2⟩:=FI I p X.A.in1 (by show X.A.units+1<cLine;lia) r l e
 refine SeqAt.notIn_listAt _ pl.isList (fun w m=>h1 w (by simpa using m)) ⟨.bl _,H,I,rfl,?_⟩
 rw[show Q1.toArray.any (fun u=>decide (u=Value.none))=Q1.any (fun u=>decide (u=Value.none)) by simp,h2]
 exact k
def Ap:R2D K (yG K Cs) (kO Cs):=by
 intro x y H Q a b d o m e k;unfold kO at e;split at e
 . obtain ⟨ds,f,e⟩:=Za.mp e;obtain ⟨bs,j,e⟩:=Za.mp e;cases e;obtain ⟨q,vs,rfl,p,l⟩:=uI m f;have:x=.non:=by cases o;rfl
   exact⟨q,ds,bs,vs,this,rfl,p,l,j,k _ H (Same.refl H) (.bl _)⟩
 . cases e
def AB(o:∀C∈Cs,ClsE X.K C)(f:X.A.units+64<cLine)(m:PD X a fa)(l:PD X b fb)(j:behindInMarks .NotIn b=false:=by with_unfolding_all rfl):PD X (.Compare a [.NotIn] [b] pos) (f2 (kO Cs) fa fb):=jf (AF o f) Ap m l j
noncomputable def zT(wa wb:FM):FM:=fun δ=>(wa δ).bind fun p=>(wb p.2).bind fun q=>match p.1,q.1 with
 |.seq ds,.int j=>(L2.atI ds j).bind fun c=>some (sh c,q.2)
 |_,_=>none
def Kk(L:PW X a wa)(J:PW X b wb)(G:iG b:=by intro _ _;rfl):PW X (.Subscript a b pos) (zT wa wb):=dw (sA (ix_list.or t8) L J G) fun{σ H Q F δ As d δ'} R q k=>by
 unfold zT at q;obtain⟨⟨V,δ1⟩,S,q⟩:=Za.mp q;obtain⟨⟨U,s⟩,p,q⟩:=Za.mp q;dsimp only at p q;split at q
 . rename_i ds j _;obtain ⟨c,O,q⟩:=Za.mp q;cases q;refine ⟨F,δ,As,.seq ds,δ1,R,S,fun v F1 H1 A Q5 l r o=>⟨F1,δ1,Q5,.int j,_,r,p,fun w F2 H2 B Q6 f R2 C=>?_⟩⟩
   obtain⟨_,y⟩:=(f.stays r.domA o l.dj).seq_inv;cases C.rep R2.fz;cases y with
   |@seq x vs _ I t =>obtain⟨z,D,u⟩:=t.atI O;exact .inl ⟨x,vs,j,z,rfl,rfl,R2.fz.seq I,D,k z F2 H2 [] Q6 (l.seq f fun x m=>(o.dom x m).1).bare R2 (RepO.of_sh R2.fz u)⟩
 . cases q
def wAt(i:Nat)(s:PF):FM:=fun δ=>(s δ).bind fun p=>match δ[i]? with
 |some (some d)=>(atP d p).bind fun c=>if noo c then some (c,δ)else none
 |_=>none
def Ni{s}(l:PPl X e i s):PW X e (wAt i s):=dw l fun{σ H Q F δ As d δ'} R q k=>by
 unfold wAt at q;obtain⟨p,ep,q⟩:=Za.mp q;split at q
 . rename_i x h0;obtain ⟨c,t,q⟩:=Za.mp q;split at q
   . rename_i o;cases q;obtain⟨v,h1,r⟩:=R.val i _ h0;obtain⟨w,z,B,y,j,f,_,_⟩:=r.pickP t;have u:=f.noo_nil o;subst u;exact⟨F,δ,As,p,v,w,R,ep,h1,j,fun H' s'=>k w F H' [] As (EvW.grew s') (R.grow s') (f.frame (bI s') fun _ m=>nomatch m)⟩
   . cases q
 . cases q
end
noncomputable def sv(i r:Nat)(g:List D->Option (List D)):SQ:=fun δ=>match δ[i]? with
 |some (some (.lst ds))=>if r<δ.length then(Ed (Aj g) ds).bind fun es=>some (.nx ((δ.set r none).set i (some (.lst es))))else none
 |_=>none
theorem G3{pos}{g}(i r) (zk:ZO Z r) (hN:X.N.Nodup) (hp:PassesOwn (model X.prog X.w) X.A X.env X.xe) (hc:X.calm=true) (hv:PE X (.Name y py) (Cb i)) (hb:BL X r body g) (I:i≠r:=by decide)
 (hx:X.N[r]?=some x:=by kernel_rfl) (hl:Loc X.env.scope x:=by exact loX (by kernel_rfl)) (hf:FoX X x:=by exact foX (by kernel_rfl))
 (hs:∀x,foldedSetIterable (.Name y py) X.env x=pure x:=by intro _;rfl):PQ X Z (.For (.Name x px) (.Name y py) body [] pos) (sv i r g):=k9 (Di hp hc (yP hv) (yQ hN hx hl hf) hb hs) fun{E σ H F δ As res} R z0 q k=>by
 unfold sv at q;split at q
 . rename_i ds h
   by_cases G:r<δ.length
   case neg=>rw[if_neg G]at q;cases q
   rw[if_pos G]at q;obtain⟨es,em,q⟩:=Za.mp q;cases q;obtain⟨Y,hget⟩:=vD em;obtain⟨a,vs,A0,s0,eA,g0,n0,ro⟩:=R.lst h;have hiδ:=(ZL.mp h).1;have vl:=ro.length;refine⟨.ref a,s0,a,rfl,⟨vs,SqL.of g0⟩,?_⟩;have s:∀z,((δ.set r none).set i (some (.lst z)))[i]?=some (some (.lst z)):=fun z=>by rw[List.getElem?_set,if_pos rfl,if_pos (by rw[List.length_set];exact hiδ)]
   have dr:∀z d,((δ.set r none).set i (some (.lst z)))[r]?≠some (some d):=fun z d e=>by rw[List.getElem?_set_ne I,List.getElem?_set,if_pos rfl]at e;split at e<;>cases e
   have v:(δ.set r none).set i (some (.lst ds))=δ.set r none:=mH (by rw[List.getElem?_set_ne (Ne.symm I)];exact h)
   refine⟨fun j m l H'=>m=ds.length-j/\j<=ds.length/\Z l/\l[i]?=some (some (.ref a))/\H' a=some (.lst vs)/\∃Q3,EvW F H As F H' Q3 []/\RepA X.K F H' l ((δ.set r none).set i (some (.lst (es.take j++ds.drop j)))) Q3,⟨ds.length,rfl,Nat.zero_le _,z0,s0,g0,iD As r [],EvW.refl.keep fun j b m=>?_,by
    rw[ZS,List.drop_zero,Zj,v];exact R.drop r⟩,?_⟩
   . by_cases hj:j=r
     . subst hj;rw[aA]at m;cases m
     . rw[aB hj]at m;exact .inl ⟨j,m⟩
   rintro j m l H' ⟨rfl,hjl,z1,s1,g1,Q3,ev,R'⟩
   by_cases V:j<ds.length
   . have hle:=Y;obtain ⟨e1,ge,xe⟩:=hget j ds[j] (Zy V);obtain ⟨u,f,ed,rfl,i1,gr,i2⟩:=Cw ge;have p:(es.take j++ds.drop j)[j]? = some (.lst u):=by
      rw[HP hle (by lia)];rw[ed]
     have hat:atP (.lst (es.take j++ds.drop j)) [j]=some (.lst u):=by show((es.take j++ds.drop j)[j]?).bind _=_;rw[p];rfl
     refine .inr ⟨⟨vs,vs[j],SqL.of g1,Zy (by lia)⟩,fun t H2=>Z t/\t[i]?=some (some (.ref a))/\H2 a=some (.lst vs)/\∃Q3,EvW F H As F H2 Q3 []/\RepA X.K F H2 t ((δ.set r none).set i (some (.lst (es.take (j+1)++ds.drop (j+1))))) Q3,fun t H2 z=>⟨ds.length-(j+1),by lia,rfl,V,z⟩,fun y H2 yy=>?_⟩
     obtain⟨eH,hy⟩:=yy;subst eH;have O:=hy vs (SqL.of g1);obtain⟨v0,S,r0⟩:=R'.val i _ (s _);rw[s1]at S;cases S;obtain⟨w,A1,B,A2,pt,L,eA',_,_⟩:=r0.pickP hat;obtain⟨b,ws,B0,rfl,eB,ub,nb,rr⟩:=L.lst_inv rfl;obtain rfl:y=.ref b:=(Pth.lst g1 O (.nil y)).det pt;show yC X r g _ (l.set r (some (.ref b))) H2;have U:r<l.length:=by rw[R'.len];simpa using G
     refine⟨b,ws,u,f,by rw[List.getElem?_set,if_pos rfl,if_pos U],ub,rr.reps R'.fz,i1,gr,i2,fun ws' H3 s3 r3=>?_⟩
     have R3:=R'.grow s3;have ev3:=ev.grow s3;obtain⟨Q6,R2,li,h2⟩:=R3.writeP (o:=.lst ws') (c':=.lst f) (V':=[]) (B':=[]) (s _) s1 (pt.mono s3) hat rfl (fun{B} nl dj L nB=>by
      obtain⟨l3,vs3,B3,J,rfl,hl3,n3,ro3⟩:=L.lst_inv rfl;cases J;exact⟨[b],.lst aH n3 (RepOs.of_imm (nL (iW hl3) r3 i2) i2),Z3.mpr ⟨fun z=>(nomatch z),Zz⟩,fun a m=>by rw[Zr.mp m];exact .inl Zp⟩) (fun _ _ _ z=>nomatch z) (fun{B} L=>by
      obtain⟨l3,vs3,B3,J,rfl,_⟩:=L.lst_inv rfl;cases J;exact Zp)
     have hab:a≠b:=fun z=>by subst z;rw[g1]at ub;cases ub;obtain⟨b2,vs2,A3,s2,eA2,g2,n2,ro2⟩:=R'.lst (s _);rw[s1]at s2;cases s2;obtain⟨w2,C1,C,C2,Q,rc2,eC,_⟩:=ro2.pick p;rw[g1]at g2;cases g2;rw[O]at Q;cases Q;obtain⟨l4,vs4,B4,el4,eB4,_⟩:=rc2.lst_inv rfl;cases el4;have nd:=R'.nd i;rw[eA2,eC,eB4]at nd;exact(Z3.mp nd).1 (ZE _ (ZF _ Zp))
     have hes:es[j]'(by lia)=.lst f:=by
      rw[Zy (by lia)]at xe
      exact ZH xe
     have hsp:cL (.lst (es.take j++ds.drop j)) [j] (.lst f)=.lst (es.take (j+1)++ds.drop (j+1)):=by
      show(match(es.take j++ds.drop j)[j]? with|some e=>D.lst ((es.take j++ds.drop j).set j (cL e [] (.lst f)))|none=>_)=_
      rw[p];show D.lst ((es.take j++ds.drop j).set j (.lst f))=_;rw[<- hes,HN hle (by lia)]
     rw[List.set_set,hsp]at R2;refine⟨zk l _ z1,by rw[List.getElem?_set_ne (Ne.symm I)];exact s1,by rw[aF hab];exact s3 _ _ g1,Q6,ev3.wrote li h2,R2.other _ (dr _)⟩
   . have e:j=ds.length:=by lia
     subst e;have z:es.take ds.length++ds.drop ds.length=es:=by rw[List.take_of_length_le (by lia),List.drop_length,Zk]
     rw[z]at R';exact .inl ⟨⟨vs,SqL.of g1,by lia⟩,k l F H' Q3 ev R' z1⟩
 . cases q
section
variable {F:Hp}
theorem RepOs.drop0:∀{vs}{ds} n,RepOs K F H vs ds []->RepOs K F H (vs.drop n) (ds.drop n) []
 |_,_,0,r=>r
 |_,_,_+1,.nil=>.nil
 |_,_,n+1,.cons r t e=>by obtain⟨j,f⟩:=List.append_eq_nil_iff.mp e.symm;subst j;subst f;exact RepOs.drop0 n t
theorem RepOs.take0:∀{vs}{ds} n,RepOs K F H vs ds []->RepOs K F H (vs.take n) (ds.take n) []
 |_,_,0,_=>.nil
 |_,_,_+1,.nil=>.nil
 |_,_,n+1,.cons r t e=>by obtain⟨j,f⟩:=List.append_eq_nil_iff.mp e.symm;subst j;subst f;exact .cons r (RepOs.take0 n t) rfl
theorem RepOs.app0:∀{vs us}{ds es},RepOs K F H vs ds []->RepOs K F H us es []->RepOs K F H (vs++us) (ds++es) []
 |_,_,_,_,.nil,s=>s
 |_,_,_,_,.cons r t e,s=>by obtain⟨j,f⟩:=List.append_eq_nil_iff.mp e.symm;subst j;subst f;exact .cons r (RepOs.app0 t s) rfl
def RepOs.cut0(r:RepOs K F H vs ds [])(lo hi):RepOs K F H (rM vs lo hi) (uv ds lo hi) []:=by unfold rM uv;rw[r.length,kG,kG];exact(r.drop0 _).take0 _
end
def rH(wa:FM)(fl fh:FO):FM:=fun δ=>(wa δ).bind fun p=>(fl p.2).bind fun l=>(fh p.2).bind fun h=>match p.1 with
 |.tup ds=>if qo ds=true/\¬(Ae ds.length 0 l=0/\Ae ds.length ds.length h=ds.length)then some (.tup (uv ds l h),p.2)else none
 |_=>none
noncomputable def rW(wa wb:FM):FM:=fun δ=>(wa δ).bind fun p=>(wb p.2).bind fun q=>match p.1,q.1 with
 |.tup xs,.tup ys=>if qo xs=true/\qo ys=true/\xs≠[]/\ys≠[]/\xs.length+ys.length<=1000 then some (.tup (xs++ys),q.2)else none
 |_,_=>none
def rS(f:FM):FMA:=fun δ=>(f δ).bind fun p=>match sh p.1 with
 |.tup ds=>some (ds,p.2)
 |_=>none
theorem H9{F}{a}(j:SqT K F a vs)(r:Reps K F vs ds):ItF K (Itt K a) F ds:=by
 intro i H2 s;have f:=fZ s j;have l:=r.length;refine⟨fun hi=>⟨⟨vs,vs[i],f,by simp[show i<vs.length by lia]⟩,fun x H' y=>?_⟩,fun hi=>⟨vs,f,by lia⟩⟩
 obtain⟨e,y⟩:=y;subst e;obtain⟨d,h1,h2⟩:=r.getV (y vs f);exact⟨rfl,d,h1,h2⟩
section
variable {pos:Pos}
def Kf(G:PW X a wa)(D:POD X lo fl)(C:POD X hi fh):PW X (.Subscript a (.Slice lo hi none p2) pos) (rH wa fl fh):=dw (mL JW G D C) fun{σ H Q F δ As d δ'} R q k=>by
 unfold rH at q;obtain⟨⟨S,δ1⟩,L,q⟩:=Za.mp q;obtain⟨l,x,q⟩:=Za.mp q;obtain⟨h,y,q⟩:=Za.mp q;dsimp only at x y q;split at q
 . rename_i ds;split at q
   . rename_i u;cases q;refine ⟨F,δ,As,_,_,R,L,fun v F1 H1 A Q5 I r B=>⟨_,l,r.toS,x,fun H2 t=>⟨_,h,r.toS.mono t,y,fun U z=>?_⟩⟩⟩
     obtain⟨p,vs,rfl,sq,j⟩:=B.parts;have J:=j.noo_nil u.1;subst J;have f:=t.trans z;refine⟨p,vs,rfl,fZ f sq,by rw[j.length,<- kG,<- kG];exact u.2,fun O o=>?_⟩
     have s:=f.trans (bv o (.tup (rM vs l h)));exact k _ F1 _ [] Q5 (I.grow s) (r.grow s) (.tup (SqT.of aH) ((j.frame (bI s) fun _ m=>nomatch m).cut0 l h))
   . cases q
 . cases q
theorem GN(U:PW X a wa)(S:PW X b wb):PW X (.BinOp a .Add b pos) (rW wa wb):=dw (yR HB U S) fun{σ H Q F δ As d δ'} R q k=>by
 unfold rW at q;obtain⟨⟨d1,δ1⟩,e1,q⟩:=Za.mp q;obtain⟨⟨d2,G⟩,C,q⟩:=Za.mp q;dsimp only at C q;split at q
 . rename_i xs ys _;split at q
   . rename_i o;cases q;refine ⟨F,δ,As,_,δ1,R,e1,fun v F1 H1 A Q5 l D y=>⟨F1,δ1,Q5,_,_,D,C,fun w F2 H2 B Q6 j R2 I=>?_⟩⟩
     obtain⟨p,vs,rfl,sq,t⟩:=(j.stays D.domA y l.dj).parts;obtain⟨J,ws,rfl,r,f⟩:=I.parts;have Z:=t.noo_nil o.1;have Y:=f.noo_nil o.2.1;subst Z;subst Y;have O:=t.length;have L:=f.length;refine⟨p,J,vs,ws,rfl,rfl,sq,r,fun z=>?_,eQ (by lia),fun z=>?_,fun _ p3 u=>?_⟩
     . subst z;exact o.2.2.1 (List.eq_nil_of_length_eq_zero O.symm)
     . subst z;exact absurd (List.eq_nil_of_length_eq_zero L.symm) o.2.2.2.1
     . have s:=bv u (.tup (vs++ws));have V:=(l.seq j fun x m=>(y.dom x m).1).grow s
       exact k _ F2 _ [] Q6 V (R2.grow s) (.tup (SqT.of aH) ((t.app0 f).frame (bI s) fun _ m=>nomatch m))
   . cases q
 . cases q
def Hg(r:PW X l fm):PIQ X tg l (rS fm):=sP (KP r) fun{σ H R F δ As ds δ'} x e k=>by
 unfold rS at e;obtain⟨⟨d,δ1⟩,t,e⟩:=Za.mp e;split at e
 . rename_i es q;cases e;refine ⟨F,δ,As,d,_,x,t,fun v F1 H1 A Q5 s u o=>?_⟩
   obtain⟨F2,f,R2,_,z⟩:=s.freeze u o;rw[q]at z;cases z with
   |@tup p vs _ j m=>exact⟨p,rfl,⟨vs,fZ R2.fz j⟩,k _ _ H1 Q5 f R2 (H9 j m).g⟩
 . cases e
end
noncomputable def qx:D->Option Bool
 |.str _=>some true
 |.int _=>some false
 |.bl _=>some false
 |.non=>some false
 |_=>none
def D1 (d) (b) (h:qx d=some b):rE "str" d b:=by cases d<;>(first|cases h)<;>exact⟨_,rfl,fun K=>rfl⟩
theorem CallD.or(h:CallD K r G)(h':CallD K r' G'):CallD K (fun xs H Q=>r xs H Q\/r' xs H Q) (fun ds=>(G ds).or (G' ds)):=fun xs H Q ds d j e k=>by
 cases z:G ds with
 |some d' =>have f:(G ds).or (G' ds)=some d:=e;rw[z]at f;cases f;exact .inl (h xs H Q ds _ j z k)
 |none =>have f:(G ds).or (G' ds)=some d:=e;rw[z]at f;exact .inr (h' xs H Q ds d j f k)
def sS(as:List D):Option D:=(LV as).or (EJ as)
def sU(as:List D):Option D:=(LW as).or (vW as)
section
def tt:bootBuiltins "str" = some (.type "str"):=by decide +kernel
theorem hu2{A}(f:Room k A):A.units+2<cLine:=by have:=f.units;lia
end
section
def vg {pos} {t} {g} {sq} (zk:ZO Z i) (hN:X.N.Nodup) (hi:PIQ X tg iter src) (hg:∀ C s₂ H₂ fp x,PG (a4 X scope cl T N C s₂ H₂ fp x) tg t) (good:∀ L,jP X.K (fun u=>u.drop T.length=L) t g) (hc:∀ C s₂ H₂ fp x,rD (a4 X scope cl T N C s₂ H₂ fp x) X6 fc) (he:∀ C s₂ H₂ fp x,PW (a4 X scope cl T N C s₂ H₂ fp x) X8 felt) (O:CompG X scope cl T N js)
 (U:∀{δ}{r},sq δ=some r->∃d δ',aD src T.length js g fc felt δ=some (d,δ')/\∀{E}{F H F' H'}{σ}{As Q3}{v}{A},RPQ X Z E F H As r->EvW F H As F' H' Q3 A->RepA X.K F' H' σ δ' Q3->RepO X.K F' H' v d A->Z (σ.set i (some v))->E.nx (σ.set i (some v)) H')
 (S:swapsWith (.ListComp X8 [⟨tg,iter,X6,0⟩] scope pos) (some (.Name y py)) spos.line X.env=pure true) (hy:X.N[i]?=some y) (hl:Loc X.env.scope y) (hcm:X.calm=true)
 (hs:∀v,foldedSetIterable iter X.env v=pure v) (hfn:X.fn y=true\/X.env.scope.names.lookup y=some .local) :
 PQ X Z (.Assign [.Name y py] (.ListComp X8 [⟨tg,iter,X6,0⟩] scope pos) spos) sq:=by
 intro Q0 s σ H E I ⟨F,δ,As,r,RA,z,q0,k⟩;obtain⟨d,δ',q,k2⟩:=U q0;unfold aD at q;obtain⟨⟨ds,δ1⟩,eds,q⟩:=Za.mp q;obtain⟨⟨cs,δc⟩,D,q⟩:=Za.mp q;obtain⟨⟨xs,ιe⟩,hm,q⟩:=Za.mp q;split at q
 . rename_i hz;cases q;rw [exec_Assign_Name_used _ _ _ _ S];refine Z4 (wpAny_standAt (Z4 ?_));refine Z4 (wpAny_mono (wpAny_comprehension_free rfl hs O.clos O.kind O.names ?_) (fun _ s' hq=>Z5 (Z5 hq)) fun _ _ z=>z)
   refine wpAny_mono (hi Q0 s σ H (fun J H1=>∃F1 Q5,EvW F H As F1 H1 Q5 []/\RepA X.K F1 H1 σ δ1 Q5/\ItG X.K J F1 ds) I ⟨F,δ,As,ds,δ1,RA,eds,fun J F1 H1 Q5 ev G f=>⟨F1,Q5,ev,G,f⟩⟩) (fun v s1 h1=>wpAny_mono h1 (fun itv s2 h2=>?_) fun _ _ z=>z) fun _ _ z=>z
   obtain⟨it,fp,tn,J,H2,rfl,j,TT,st,hf,F1,Q5,ev,G,f⟩:=h2;obtain⟨vs,lk⟩:=mC G D;obtain⟨A,Asc,B,Rc,rs,_⟩:=jS G D lk;obtain⟨l1,l2,l3⟩:=qs lk;rw[l3]at rs;obtain⟨AA,RAi,sub⟩:=rs.toA G.fz B.nd;have R0:=RAi.padL T.length;rw[<- l1]at R0;refine oR j hcm O TT st hf f R0 hg (good _) hc he hm hz ?_;intro DA C s' H' ws u F' Q3 Acc l IX fD fD2 Q R' rr ev' ⟨m,hn⟩ fC;obtain⟨X4,ev4,R4,r4⟩:=tm ev B Rc R0 sub R' rr ev' Q l1 l2 fD;refine wpAny_assign_Name (se (v:=.ref DA) IX hN hy hl rfl (fun s9 I9 h0=>?_) hfn)
   obtain⟨a,V,ha⟩:=h0;have hCa:C≠a:=by
    rintro rfl
    rcases ha with z|z
    . exact absurd (ZD j.lt (by rw[<- z];exact l)) (ZK _)
    . obtain⟨v,o,h1,_⟩:=j.cell y _ z;exact absurd (ZD (ZU h1) l) (ZK _)
   refine⟨m,hn.at' fun o e=>(V.2 C hCa).trans e,fun h' Y=>⟨_,_,?_,k2 k ev4 R4 r4 (zk _ _ z)⟩⟩
   exact I9.turned (fun b o hb e=>(Y.2 b hb).trans e) fC (Nat.ne_of_gt (ZD j.lt l)) (.inr (ZZ j.sz l))
    (fun y c e z=>by obtain⟨v,o,h1,_⟩:=j.cell y c e;exact absurd (ZD (ZU h1) (by rw[z];exact l)) (ZK _))
    (fun p hp z=>absurd (ZD (ZU (j.pin p hp).1) (by rw[z];exact l)) (ZK _))
 . cases q
def G6(i) {pos} {t} {g} (u:ZO Z i) (L:X.N.Nodup) (hi:PIQ X tg iter src) (G:∀C s₂ H₂ fp f,PG (a4 X scope cl T N C s₂ H₂ fp f) tg t) (good:∀j,jP X.K (fun l=>l.drop T.length=j) t g) (J:∀C s₂ H₂ fp f,rD (a4 X scope cl T N C s₂ H₂ fp f) X6 fc) (I:∀C s₂ H₂ fp f,PW (a4 X scope cl T N C s₂ H₂ fp f) X8 felt) (O:CompG X scope cl T N js)
 (m:swapsWith (.ListComp X8 [⟨tg,iter,X6,0⟩] scope pos) (some (.Name y py)) spos.line X.env=pure true:=by rfl) (x:X.N[i]?=some y:=by kernel_rfl) (D:Loc X.env.scope y:=by exact loX (by kernel_rfl)) (p:X.calm=true:=by rfl)
 (B:FsX X iter:=by intro _;rfl) (o:FoX X y:=by exact foX (by kernel_rfl)) :
 PQ X Z (.Assign [.Name y py] (.ListComp X8 [⟨tg,iter,X6,0⟩] scope pos) spos) (eL i (aD src T.length js g fc felt)) :=
 vg u L hi G good J I O (fun{δ r} q=>by
  unfold eL at q;obtain⟨⟨d,δ'⟩,S,q⟩:=Za.mp q;cases q;exact⟨d,δ',S,fun{E F H F' H' σ As Q3 v A} k Q U r' z=>by obtain⟨Q6,s,R2⟩:=U.setQ Q i r';exact k _ F' H' Q6 s R2 z⟩) m x D p B o
def Dq(i) {pos} {t} {g} (x:ZO Z i) (S:X.N.Nodup) (hi:PIQ X tg iter src) (J:∀C s₂ H₂ fp f,PG (a4 X scope cl T N C s₂ H₂ fp f) tg t) (good:∀j,jP X.K (fun l=>l.drop T.length=j) t g) (Q:∀C s₂ H₂ fp f,rD (a4 X scope cl T N C s₂ H₂ fp f) X6 fc) (L:∀C s₂ H₂ fp f,PW (a4 X scope cl T N C s₂ H₂ fp f) X8 felt) (O:CompG X scope cl T N js)
 (m:swapsWith (.ListComp X8 [⟨tg,iter,X6,0⟩] scope pos) (some (.Name y py)) spos.line X.env=pure true:=by rfl) (D:X.N[i]?=some y:=by kernel_rfl) (I:Loc X.env.scope y:=by exact loX (by kernel_rfl)) (p:X.calm=true:=by rfl)
 (G:FsX X iter:=by intro _;rfl) (o:FoX X y:=by exact foX (by kernel_rfl)) :
 PQ X Z (.Assign [.Name y py] (.ListComp X8 [⟨tg,iter,X6,0⟩] scope pos) spos) (az i (aD src T.length js g fc felt)) :=
 vg x S hi J good Q L O (fun{δ r} q=>by
  unfold az at q;obtain⟨⟨d,δ'⟩,V,q⟩:=Za.mp q;cases q;exact⟨d,δ',V,fun{E F H F' H' σ As Q3 v A} k U R' r' z=>by obtain⟨F2,u,R2,B,_⟩:=U.freeze R' r';obtain⟨X4,s,Y⟩:=R2.setQ u i B;exact k _ F2 H' X4 s Y z⟩) m D I p G o
end
def JO(K:ZB)(f:FM):TT:=fun σ H Q=>∃F δ As b δ',RepA K F H σ δ As/\f δ=some (.bl b,δ')/\∀F' H' Q3,EvW F H As F' H' Q3 []->RepA K F' H' σ δ' Q3->Q b H'
def PTW(X:Cx)(e:Expr)(f:FM):Prop:=PT X e (JO X.K f)
def PWW(X:Cx)(e:Expr)(f:FM):Prop:=L2.PW X e (JO X.K f)
def NL{t}{f}(h:L2.PW X e t)(w:∀{σ H Q F δ As b δ'},RepA X.K F H σ δ As->f δ=some (.bl b,δ')->(∀F' H' Q3,EvW F H As F' H' Q3 []->RepA X.K F' H' σ δ' Q3->Q b H')->t σ H Q):PWW X e f:=NM h fun _ _ _ h=>h.elim fun _ h=>h.elim fun _ h=>h.elim fun _ h=>h.elim fun _ h=>h.elim fun _ h=>w h.1 h.2.1 h.2.2
noncomputable def ot(fa:FT)(wb:FM):FM:=fun δ=>(fa δ).bind fun b=>if b=true then wb δ else some (.bl false,δ)
section
variable {Q7:Yh Expr} {fa:FT} {s u:SQ} {pos:Pos}
def yn{Q:Bool->Hp->Prop}(h:JO K fm σ H Q):upW K fm σ H fun x H'=>∃c,x=.bl c/\Q c H':=by
 obtain⟨F,δ,As,c,δ',R,q,k⟩:=h;refine⟨F,δ,As,_,δ',R,q,fun v F' H' A Q3 j f r'=>?_⟩
 cases r'.rep f.fz;exact⟨c,rfl,k F' H' Q3 j.bare f⟩
def GT(h:PW X e fm)(j:∀f,isTrue e X.env f=(do let v <- f;standAt e.pos;holding [v] (truthy v)):=by intro _;rfl):PTW X e fm:=Bb (w4 h j) fun _ _ _ q=>yn q
def GV{r}{g}(f:OpR X (compareOp op) r)(l:R2D X.K r g)(o:PW X a wa)(m:PW X b wb)(j:behindInMarks op b=false):PTW X (.Compare a [op] [b] pos) (bY g wa wb):=Bb (yM f o m j) fun _ _ _ q=>vQ l (yn q)
def GU(f:X.A.units+64<cLine)(l:PW X a wa)(j:PW X b wb):PTW X (.Compare a [.Eq] [b] pos) (bY bQ wa wb):=GV (t4 f) tT l j (eP _)
def PWW.pt(h:PWW X e fm):PTW X e fm:=h _
def CP(f:PTW X a wa):PWW X (.BoolOp .And [a] pos) wa:=L2.pw_and1 f
def GE(l:PTD X a fa)(j:PWW X (.BoolOp .And (b::Q7) pos) wb):PWW X (.BoolOp .And (a::b::Q7) pos) (ot fa wb):=NL (L2.pw_and l j) fun{σ H Q F δ As c δ'} R q k=>by
 unfold ot at q;obtain⟨d,o,q⟩:=Za.mp q;refine⟨δ,d,R.toS,o,fun H' f=>?_⟩
 cases d with
 |true=>rw[if_pos rfl]at q ⊢;exact⟨F,δ,As,c,δ',R.grow f,q,fun F' H2 Q3 m=>k F' H2 Q3 ((EvW.grew f).go m)⟩
 |false=>rw[if_neg ZC]at q ⊢;cases q;exact k F H' As (EvW.grew f) (R.grow f)
def KG{sa sb}(l:PTW X cx fm)(o:PQs X Z sa s)(m:PQs X Z sb u):PQ X Z (.If cx sa sb pos) (lJ fm s u):=k9 (Jq l o m) fun{E σ H F δ As r} R z q k=>by
 unfold lJ at q;obtain⟨⟨d,δ'⟩,p,q⟩:=Za.mp q;dsimp only at q;split at q
 . rename_i b;refine ⟨F,δ,As,b,δ',R,p,fun F' H' Q3 f j=>?_⟩
   cases b with
   |true=>rw[if_pos rfl]at q ⊢;exact⟨F',δ',Q3,r,j,z,q,k.mono f⟩
   |false=>rw[if_neg ZC]at q ⊢;exact⟨F',δ',Q3,r,j,z,q,k.mono f⟩
 . cases q
end
def fU(fa fb fc:FD):FD:=fun δ=>((fa δ).bind asN).bind fun i=>((fb δ).bind asN).bind fun j=>((fc δ).bind asN).bind fun k=>some (.bl (decide (i<=j)&&decide (j<=k)))
section
variable {fc:FD} {pos:Pos}
def tp{Q}(h:up X.K (fU fa fb fc) σ H Q):wL (rI0 fun i j=>.bl (decide (i<=j))) (rI0 fun i j=>.bl (decide (i<=j))) (up X.K fa) (up X.K fb) (up X.K fc) σ H Q:=by
 obtain⟨δ,d,R,q,k⟩:=h;unfold fU at q;obtain⟨i,ei,q⟩:=Za.mp q;obtain⟨j,J,q⟩:=Za.mp q;obtain⟨l,I,q⟩:=Za.mp q;obtain⟨x,ex,G⟩:=Za.mp ei;obtain⟨y,p,D⟩:=Za.mp J;obtain⟨z,o,C⟩:=Za.mp I;rw[uH G]at ex;rw[uH D]at p;rw[uH C]at o;cases q;refine⟨δ,.int i,R,ex,fun v H1 f B=>?_⟩
 cases B;refine⟨δ,.int j,R.mono f,p,fun u H2 m t=>?_⟩
 cases t;refine⟨i,j,rfl,rfl,decide (i<=j),rfl,?_⟩
 by_cases h:i<=j
 . rw [decide_eq_true h] at k ⊢;rw [if_pos rfl];refine ⟨δ,.int l,(R.mono f).mono m,o,fun w L r s=>?_⟩
   cases s;exact⟨j,l,rfl,rfl,k _ L ((f.trans m).trans r) (.bl _)⟩
 . rw[decide_eq_false h]at k ⊢;rw[if_neg ZC];exact k _ H2 (f.trans m) (.bl _)
def AC(m:PD X a fa)(l:PD X b fb)(j:PD X c fc)(f:lastMarks [.LtE,.LtE] [b,c]=false:=by with_unfolding_all rfl):PD X (.Compare a [.LtE,.LtE] [b,c] pos) (fU fa fb fc):=imp (DO vq vq m l j f) fun _ _ _ h=>tp h
def wZ(m:PD X a fa)(l:PD X b fb)(j:PD X c fc)(f:lastMarks [.LtE,.LtE] [b,c]=false:=by with_unfolding_all rfl):PTD X (.Compare a [.LtE,.LtE] [b,c] pos) (fT (fU fa fb fc)):=Bb (Dd vq vq m l j f) fun _ _ _ q=>yd (fun _ _ _ z=>tp z) q
end
def zS(f:FM):FM:=fun δ=>(f δ).bind fun p=>some (sh p.1,p.2)
def Kg{f}(h:PW X e f):PW X e (zS f):=dw h fun{σ H Q F δ As d δ'} R q k=>by
 unfold zS at q;obtain⟨⟨r,j⟩,p,q⟩:=Za.mp q;cases q;refine⟨F,δ,As,r,j,R,p,fun v F' H' A Q3 o s r'=>?_⟩
 obtain⟨F2,l,R2,m,_⟩:=o.freeze s r';exact k v F2 H' [] Q3 l R2 m
noncomputable def Om(es:List Expr):List Str:=es.filterMap fun|.Name x _=>some x|_=>none
def tgN:Expr->List Str
 |.Name x _=>[x]
 |.Tuple es _ _=>Om es
 |_=>[]
noncomputable abbrev cnm(X:Cx)(js:List Nat):List Str:=js.map fun j=>X.N.getD j Str.empty
abbrev FV(X:Cx)(scope:Scope)(cl:List (Str×Addr))(T:List Str)(js:List Nat):Prop:=(∀y∈scope.names,y.2≠.cell)/\(∀y∈scope.names,y.2=.local->scope.names.lookup y.1=some .local)/\(T++cnm X js).Nodup/\(∀y∈T,y∉cl.map (·.1))/\(∀p∈scope.names,p.2=.free->p.1∈cl.map (·.1)) /\
 ∀j∈js,j<X.N.length/\X.N.getD j Str.empty∈cl.map (·.1)/\X.env.scope.names.lookup (X.N.getD j Str.empty)=some .cell/\(relabel scope X.env).names.lookup (X.N.getD j Str.empty)=some .cell
def CompG.au(l:closureFor scope X.env=pure cl)(f:scope.kind=.function)(m:cl.map (fun p=>X.env.cells.lookup p.1)=cl.map fun p=>some p.2)(b:decide (FV X scope cl T js)=true):CompG X scope cl T (T++cnm X js) js:=by
 obtain⟨z,x,v,u,t,o⟩:=Zza b;refine .of l rfl z f x v (by simp) u (fun p r=>List.map_inj_left.mp m p r) t (fun y q=>?_) fun i y j h1 h2=>?_
 . obtain⟨j,s,rfl⟩:=Zs.mp q;exact(o j s).2.1
 . obtain⟨z1,-,z3,z4⟩:=o j (List.mem_of_getElem? h2);rw[List.getElem?_map,h2]at h1;cases h1;exact⟨by show _=some (X.N.getD j Str.empty);rw[List.getD_eq_getElem?_getD,Zy z1];rfl,z3,z4⟩
section
variable {pos:Pos} {t:TG} {g:D->DS->Yg DS} 
def u9(good:∀m,jP X.K (fun o=>o.drop (tgN tg).length=m) t g)(l:closureFor scope X.env=pure cl)(hi:PIQ X tg iter src)(u:(tgN tg++cnm X js).Nodup->∀C s₂ H₂ fp f,PG (a4 X scope cl (tgN tg) (tgN tg++cnm X js) C s₂ H₂ fp f) tg t)(x:∀C s₂ H₂ fp f,rD (a4 X scope cl (tgN tg) (tgN tg++cnm X js) C s₂ H₂ fp f) X6 fc)(v:∀C s₂ H₂ fp f,PW (a4 X scope cl (tgN tg) (tgN tg++cnm X js) C s₂ H₂ fp f) X8 felt)
 (j:scope.kind=.function:=by rfl) (r:cl.map (fun p=>X.env.cells.lookup p.1)=cl.map (fun p=>some p.2):=by kernel_rfl) (b:decide (FV X scope cl (tgN tg) js)=true:=by kernel_rfl) (q:X.calm=true:=by rfl)
 (s:FsX X iter:=by intro _;rfl):PW X (.ListComp X8 [⟨tg,iter,X6,0⟩] scope pos) (aD src (tgN tg).length js g fc felt) :=
 have O:=CompG.au l j r b
 CY hi (u O.nd) good x v O q s
def vh(i) (v:ZO Z i) (I:X.N.Nodup) (good:∀r,jP X.K (fun s=>s.drop (tgN tg).length=r) t g) (q:closureFor scope X.env=pure cl) (hi:PIQ X tg iter src) (D:(tgN tg++cnm X js).Nodup->∀C s₂ H₂ fp f,PG (a4 X scope cl (tgN tg) (tgN tg++cnm X js) C s₂ H₂ fp f) tg t) (H:∀C s₂ H₂ fp f,rD (a4 X scope cl (tgN tg) (tgN tg++cnm X js) C s₂ H₂ fp f) X6 fc) (G:∀C s₂ H₂ fp f,PW (a4 X scope cl (tgN tg) (tgN tg++cnm X js) C s₂ H₂ fp f) X8 felt)
 (l:swapsWith (.ListComp X8 [⟨tg,iter,X6,0⟩] scope pos) (some (.Name y py)) spos.line X.env=pure true:=by rfl) (x:X.N[i]?=some y:=by kernel_rfl) (B:Loc X.env.scope y:=by exact loX (by kernel_rfl))
 (j:scope.kind=.function:=by rfl) (u:cl.map (fun p=>X.env.cells.lookup p.1)=cl.map (fun p=>some p.2):=by kernel_rfl) (b:decide (FV X scope cl (tgN tg) js)=true:=by kernel_rfl) (o:X.calm=true:=by rfl)
 (z:FsX X iter:=by intro _;rfl) (m:FoX X y:=by exact foX (by kernel_rfl)):PQ X Z (.Assign [.Name y py] (.ListComp X8 [⟨tg,iter,X6,0⟩] scope pos) spos) (eL i (aD src (tgN tg).length js g fc felt))/\PQ X Z (.Assign [.Name y py] (.ListComp X8 [⟨tg,iter,X6,0⟩] scope pos) spos) (az i (aD src (tgN tg).length js g fc felt)) :=
 have O:=CompG.au q j u b
 ⟨G6 i v I hi (D O.nd) good H G O l x B o z m,Dq i v I hi (D O.nd) good H G O l x B o z m⟩
def zkI(f:∀i,n<=i->ZO Z i)(i) (h:n<=i):ZO Z i:=f i h
def zkA{f:Yh Nat}(j:∀i,n<=i->ZO Z i)(h:∀i∈f,n<=i):∀i∈f,ZO Z i:=fun i m=>j i (h i m)
def Ny{i}(h:∃t,X.mg x=some (.int i t))(f:Gl X x:=by rfl)(j:NbX x:=by kernel_rfl):PD X (.Name x pos) (fC (.int i)):=Exists.elim h fun _ h=>Hw f h j
def Nx(h:∃t,X.mg x=some (.str z t))(f:Gl X x:=by rfl)(j:NbX x:=by kernel_rfl):PD X (.Name x pos) (fC (.str z)):=Exists.elim h fun _ h=>Hv f h j
def Ln(h:∃c,X.mg x=some (.ref c)/\GTup X.K c zs)(e:zs.map D.str=ds)(f:Gl X x:=by rfl)(j:NbX x:=by kernel_rfl):PD X (.Name x pos) (fC (.tup ds)):=e▸Exists.elim h fun _ h=>Hu h.2 f h.1 j
end
end Dl
namespace Hq
open PySem PySem.Spec PyProof.Rows L2 PySem.W
variable {K:Frag} {x:Str} {f C:Ye} {zs:Yh Str}
theorem LZ{q:Str}{st:Stmt}{d:FuncData}{b:Bool}(e:(d.name,d.qualname,d.params,d.body,d.scope,d.globals,d.closure,d.defaults,d.builtins,b)=(x,q,eU st,FuncBody.stmts (cE st),aR st,mainGlobals,[],.none,builtinsNs,true)):b=true/\∃kV X5 pm an Q9 ct,d=fnOf x q (eU st) (cE st) (aR st) .none kV X5 pm an Q9 ct:=by cases d;cases e;exact⟨rfl,_,_,_,_,_,_,rfl⟩
theorem LY{q:Str}{st:Stmt}(j:fr K q f=fq x q st)(m:keepIn K (.ref f)=true) :
 ∃fd,Fun K x q st f fd/\∃(kV X5 pm:Yc)(an:Yg Ye)(Q9 ct:Yc),fd=fnOf x q (eU st) (cE st) (aR st) .none kV X5 pm an Q9 ct:=by
 unfold fr fq at j;cases l:K.lookup f with
 |none=>rw[l]at j;cases j
 |some o =>
  rw[l]at j;obtain⟨oc,od,p,osl⟩:=o;cases p with
  |func d =>obtain⟨h,kV,X5,pm,an,Q9,ct,rfl⟩:=LZ (ZH j);exact⟨_,LX l h m,kV,X5,pm,an,Q9,ct,rfl⟩
  |_=>cases j
def fv(K:Frag)(x q:Str)(f:Addr):=(nsIn K mainGlobals x,keepIn K (.ref f),fr K q f)
def fe(x q:Str)(st:Stmt)(f:Addr):=(some (some (Value.ref f)),true,fq x q st)
theorem Mh(e:cv K C=ce):Cls K C:=by obtain⟨m,e⟩:=ZY e;obtain⟨l,e⟩:=ZY e;obtain⟨j,f⟩:=ZY e;exact⟨m,l,j,f⟩
theorem LI(e:kv K C x f=ke C f):Mk K C f/\nsIn K mainGlobals x=some (some (.ref C)):=by obtain⟨p,e⟩:=ZY e;obtain⟨o,e⟩:=ZY e;obtain⟨m,e⟩:=ZY e;obtain⟨l,j⟩:=ZY e;exact⟨⟨p,l,j,o⟩,m⟩
theorem LQ(c:Cls K C)(e:iv K C=ie):Dl.ClsI K C/\Dl.ClsE K C:=by obtain⟨o,e⟩:=ZY e;obtain⟨m,e⟩:=ZY e;obtain⟨l,e⟩:=ZY e;obtain⟨f,j⟩:=ZY e;exact⟨⟨c,o,m,l,f⟩,⟨j,f⟩⟩
theorem Eu{i}(e:LS K x=some i):∃t,nsIn K mainGlobals x=some (some (.int i t)):=by
 unfold LS at e;split at e
 . rename_i j t h;cases e;exact⟨t,h⟩
 . cases e
theorem Cd{i}(e:JV K x=some i):∃t,nsIn K mainGlobals x=some (some (.str i t)):=by
 unfold JV at e;split at e
 . rename_i j t h;cases e;exact⟨t,h⟩
 . cases e
theorem r9:∀{l}{zs},Cc l=some zs->Vals (zs.map V.str) l
 |[],zs,e=>by cases e;exact .nil
 |v::r,zs,e=>by
  cases v with
  |str x t =>obtain⟨ys,h1,h2⟩:=Zb.mp (e);subst h2;exact .cons ⟨t,rfl⟩ (r9 h1)
  |_=>cases e
theorem B6(e:JR K x=some zs):∃c,nsIn K mainGlobals x=some (some (.ref c))/\Dl.GTup K c zs:=by
 unfold JR at e;split at e
 . rename_i c h;refine ⟨c,h,?_⟩;split at e
   . rename_i d Q1 n j hk;split at e
     . rename_i f;exact⟨_,Q1,n,hk,rfl,rfl,f,r9 e⟩
     . cases e
   . cases e
 . cases e
end Hq
namespace Hq
open PySem PySem.Spec PyProof.Rows L2 PySem.W Dl
variable {K:Frag} {x:Str} {f C:Ye} {zs ps:Yh Str} {mg:Str->Yg Yc} {Cs:Yh Ye} {k:Nat}
noncomputable def Tab.at(T:Tab)(i:Nat):De:=T.ds.getD i (0,Str.empty,Str.empty,0,.Pass ⟨0,0,0,0⟩)
theorem gi{α β:Type}{f g:α->β}:∀{l},l.map f=mE g l->∀a∈l,f a=g a
 |_::_,e,a,m=>by
  obtain⟨o,j⟩:=List.cons.inj e;cases m with
  |head=>exact o
  |tail _ m=>exact gi j a m
class Cxt(T:outParam Tab)(K:Frag)(mg:Str->Option Value):Prop where
 d:∀r∈T.ds,∃fd,Fun K r.2.1 r.2.2.1 r.2.2.2.2 r.2.2.2.1 fd/\(if r.1=0 then mg r.2.1=some (.ref r.2.2.2.1)else BM K r.1 r.2.1 r.2.2.2.1)
 c:∀C∈T.cs,Cls K C
 k:∀r∈T.ks,Mk K r.1 r.2.2/\mg r.2.1=some (.ref r.1)
 e:∀C∈T.ies,C∈T.cs->ClsI K C/\ClsE K C
 i:∀r∈T.is,kitOne K (.ref r.1) (.ref r.2.1)=some r.2.2
 n:∀r∈T.ns,mg r.1=some (.ref r.2)
 a:∀r∈T.ats,NoAttr K r.1 r.2
 vi:∀r∈T.vi,∃t,mg r.1=some (.int r.2 t)
 vs:∀r∈T.vs,∃t,mg r.1=some (.str r.2 t)
 vt:∀r∈T.vt,∃c,mg r.1=some (.ref c)/\GTup K c r.2
 b:∀x∈T.bs,mg x=none
theorem Tab.ctx{T:Tab}{h}(e:T.F K=T.E)(X:K.In h)(G:h.Ns mainGlobals mg):Cxt T K mg:=by
 obtain⟨B,e⟩:=ZY e;obtain⟨y,e⟩:=ZY e;obtain⟨x,e⟩:=ZY e;obtain⟨v,e⟩:=ZY e;obtain⟨u,e⟩:=ZY e;obtain⟨t,e⟩:=ZY e;obtain⟨s,e⟩:=ZY e;obtain⟨q,e⟩:=ZY e;obtain⟨p,e⟩:=ZY e;obtain⟨o,l⟩:=ZY e;have c:=fun C m=>Mh (gi y C m)
 refine⟨fun r m=>?_,c,fun r m=>(LI (gi x r m)).imp_right (mg_of X G),fun C m z=>LQ (c C z) (gi v C m),gi u,fun r m=>mg_of X G (gi t r m),gi s,fun r m=>(Eu (gi q r m)).imp fun _=>mg_of X G,fun r m=>(Cd (gi p r m)).imp fun _=>mg_of X G,fun r m=>(B6 (gi o r m)).imp fun _=>And.imp_left (mg_of X G),fun r m=>mg_none_of X G (gi l r m)⟩
 obtain⟨f,d⟩:=ZY (gi B r m);obtain⟨H,d⟩:=ZY d;obtain⟨j,D⟩:=ZY d;obtain⟨fd,F,_⟩:=LY D j;refine⟨fd,F,?_⟩;split<;>rename_i h0
 . rw[if_pos h0]at f;exact mg_of X G f
 . rw[if_neg h0]at f;exact⟨f,H,j⟩
section
variable {P:Program} {w:World} {base:Heap} {T:Tab} {q:Str} {st:Stmt} {R:SQ} {G:GQ}
theorem vB{α:Type}:∀{l:Yh (Str×α)}{a},l.lookup x=some a->(x,a)∈l
 |(y,b)::l,a,e=>by
  rw[List.lookup_cons]at e;cases h:x==y with
  |true=>rw[h]at e;cases e;rw[beq_iff_eq.mp h];exact Zp
  |false=>rw[h]at e;exact Zq _ (vB e)
theorem xm(c:Cxt T K mg:=by assumption)(m:decide (x∈T.bs)=true:=by kernel_rfl):mg x=none:=c.b x (Zza m)
theorem xa(c:Cxt T K mg:=by assumption)(m:decide (∀C∈Cs,C∈T.cs/\(C,x)∈T.ats)=true:=by kernel_rfl):∀C∈Cs,Cls K C/\NoAttr K C x:=fun C z=>have m:=Zza m C z;⟨c.c C m.1,c.a (C,x) m.2⟩
theorem xi(c:Cxt T K mg:=by assumption){i}(m:decide ((x,i)∈T.vi)=true:=by kernel_rfl):∃t,mg x=some (.int i t):=c.vi (x,i) (Zza m)
theorem xs(c:Cxt T K mg:=by assumption){i}(m:decide ((x,i)∈T.vs)=true:=by kernel_rfl):∃t,mg x=some (.str i t):=c.vs (x,i) (Zza m)
theorem xt(c:Cxt T K mg)(e:T.vt.lookup x=some zs):∃c,mg x=some (.ref c)/\GTup K c zs:=c.vt (x,zs) (vB e)
theorem xc(c:Cxt T K mg:=by assumption)(m:decide ((x,C)∈T.ns)=true:=by kernel_rfl):mg x=some (.ref C):=c.n (x,C) (Zza m)
theorem xI(c:Cxt T K mg:=by assumption)(m:decide (∀r∈T.is,r.1∈T.ies/\r.1∈T.cs)=true:=by kernel_rfl):∀r∈T.is,ClsI K r.1/\kitOne K (.ref r.1) (.ref r.2.1)=some r.2.2:=fun r z=>have m:=Zza m r z;⟨(c.e _ m.1 m.2).1,c.i r z⟩
theorem xE(c:Cxt T K mg)(m:decide (∀C∈Cs,C∈T.ies/\C∈T.cs)=true:=by kernel_rfl):∀C∈Cs,ClsE K C:=fun C z=>have m:=Zza m C z;(c.e C m.1 m.2).2
def pas(st:Stmt):List Str:=(eU st).args.map (·.arg)
def MF:Nat->(List Value->Prop)->Prop
 |0,P=>P []
 |n+1,P=>∀a,MF n fun l=>P (a::l)
theorem N6:∀{n}{P},MF n P->∀us,us.length=n->P us
 |0,_,h,[],_=>h
 |_+1,_,h,a::us,e=>N6 (h a) us (Nat.succ.inj e)
abbrev Bnd(x q:Str)(st:Stmt):Prop:=MF (pas st).length fun us=>∀(kV X5 pm:Value)(an:Option Addr)(Q9 ct:Value),bindArgs (fnOf x q (eU st) (cE st) (aR st) .none kV X5 pm an Q9 ct) ⟨us,[]⟩=pure ((pas st).zip us)
theorem OW{Y}{fd}(F:Fun K x q st f fd)(S:iN (pas st++Y) (pas st) (aR st))(o:∀ds,G ds=av (pas st).length (R (Dl.start (pas st++Y).length ds)))(h:∀f Q9 A outer s H E Z,Room k (A.deeper (envOfC q (aR st) s.heap.objs.size f Q9))->(pas st++Y).Nodup->(∀j,(pas st).length<=j->ZO Z j)->PQs (qO CX0 P w K mg base (pas st++Y) q (aR st) f Q9 A outer s H E).nox Z (cE st) R):i8 P w K mg base CX0 (k+1) f fd (pas st) (iQ K (pas st).length G) :=
 NE F S fun Q9 A outer s H E ds r Q4 m e p=>⟨R,fun Z l=>h f Q9 A outer s H E Z m S.nd l,(o ds).symm.trans e⟩
structure Dn(P:Program)(w:World)(K:Frag)(mg:Str->Option Value)(base:Heap)(k:Nat)(C:Addr)(x:Str)(f:Addr)(ps:List Str)(G:GQ):Prop where
 ex:∃fd,i8 P w K mg base CX0 k f fd ps (iQ K ps.length G)/\W.keepIn K (.ref f)=true/\Binds K fd ps []
 at_:if C=0 then mg x=some (.ref f)else BM K C x f
abbrev At(P:Program)(w:World)(K:Frag)(mg:Str->Option Value)(base:Heap)(k:Nat)(r:De)(G:GQ):Prop:=Dn P w K mg base k r.1 r.2.1 r.2.2.2.1 (pas r.2.2.2.2) G
theorem dq(c:Cxt T K mg)(i k) (Y) (R) (h:∀f Q9 A outer s H E Z,Room k (A.deeper (envOfC (T.at i).2.2.1 (aR (T.at i).2.2.2.2) s.heap.objs.size f Q9))->(pas (T.at i).2.2.2.2++Y).Nodup->(∀j,(pas (T.at i).2.2.2.2).length<=j->ZO Z j)->PQs (qO CX0 P w K mg base (pas (T.at i).2.2.2.2++Y) (T.at i).2.2.1 (aR (T.at i).2.2.2.2) f Q9 A outer s H E).nox Z (cE (T.at i).2.2.2.2) R:=by intros;repeat' trivial) (l:decide (i<T.ds.length)=true:=by kernel_rfl) (S:iN (pas (T.at i).2.2.2.2++Y) (pas (T.at i).2.2.2.2) (aR (T.at i).2.2.2.2):=by exact⟨by kernel_rfl,by kernel_rfl,by kernel_rfl,by decide +kernel,by kernel_rfl,by decide +kernel,by decide +kernel⟩) (q:∀ds,G ds=av (pas (T.at i).2.2.2.2).length (R (Dl.start (pas (T.at i).2.2.2.2++Y).length ds)):=by intro _;kernel_rfl)
 (p:Bnd (T.at i).2.1 (T.at i).2.2.1 (T.at i).2.2.2.2:=by(repeat intro _);kernel_rfl):At P w K mg base (k+1) (T.at i) G:=by
 have m:T.at i∈T.ds:=by
  have:=Zza l;unfold Tab.at
  rw[List.getD_eq_getElem?_getD,Zy this];exact List.getElem_mem this
 obtain⟨fd,F,z⟩:=c.d _ m;exact⟨⟨fd,OW F S q h,F.kp,F.binds fun a b d e g h us o=>N6 p us o a b d e g h⟩,z⟩
class CH(T:outParam Tab)(G:GQ)(k:outParam Nat)(x:outParam Str)(ps:outParam (List Str)):Prop where
 h:∀{P w K mg base},Cxt T K mg->ym P w K mg base k x ps G
class CM(T:outParam Tab)(G:GQ)(k:outParam Nat)(C:outParam Addr)(x:outParam Str)(ps:outParam (List Str)):Prop where
 h:∀{P w K mg base},Cxt T K mg->yj P w K mg base k C x ps G
class CK(T:outParam Tab)(C:Addr)(G:GQ)(k:outParam Nat)(x:outParam Str)(ps:outParam (List Str)):Prop where
 h:∀{P w K mg base},Cxt T K mg->MkQ P w K mg base k x C ps G
abbrev HA(T:Tab)(i k:Nat)(G:GQ):Prop:=CH T G k (T.at i).2.1 (pas (T.at i).2.2.2.2)
abbrev MA(T:Tab)(i k:Nat)(G:GQ):Prop:=CM T G k (T.at i).1 (T.at i).2.1 (pas (T.at i).2.2.2.2)
abbrev KA(T:Tab)(i k:Nat)(C:Addr)(x:Str)(G:GQ):Prop:=CK T C G k x (pas (T.at i).2.2.2.2)
theorem Dn.has(d:Dn P w K mg base k C x f ps G)(h:decide (C=0)=true:=by kernel_rfl):ym P w K mg base k x ps G:=by obtain⟨⟨fd,a,b,e⟩,z⟩:=d;rw[if_pos (Zza h)]at z;exact⟨f,fd,a,z,b,e⟩
theorem Dn.met(d:Dn P w K mg base k C x f ps G)(c:Cxt T K mg)(h:decide (C∈T.cs/\C≠0)=true:=by kernel_rfl):yj P w K mg base k C x ps G:=by obtain⟨⟨fd,a,b,e⟩,z⟩:=d;have h:=Zza h;rw[if_neg h.2]at z;exact⟨f,fd,a,z,e,c.c C h.1⟩
theorem Dn.mak{x'}{C'}(d:Dn P w K mg base k C x f ps G)(c:Cxt T K mg)(h:decide ((C',x',f)∈T.ks)=true:=by kernel_rfl):MkQ P w K mg base k x' C' ps G:=by obtain⟨⟨fd,a,b,e⟩,z⟩:=d;have:=c.k _ (Zza h);exact⟨f,fd,a,this.1,this.2,e⟩
theorem root {fa} (c:Cxt T K mg) (i k:Nat) (Y) (R) (m:T.ds[i]?=some ((0,"law",q,f,st):De)) (o:mg "law" = some (.ref fa)) (p:pas st=[x]) (S:iN ([x]++Y) [x] (aR st)) (t:∀kV dc pm an cd ct s (v:Yc),BindsTo s (fnOf "law" q (eU st) (cE st) (aR st) .none kV dc pm an cd ct) ⟨[v],[]⟩ [(x,v)])
 (lt:∀l:Yh Int,l.length<=63->∃δ,R (Dl.start ([x]++Y).length [.seq (l.map D.int)])=some (.rt (.bl true) δ)) (h:∀base:Heap,∀(f:Ye)(Q9:Yc)(A:Around)(outer:Yh Env)(s:Yd)(H:Hp)(E:XK)(Z:L2.St->Prop),Room k (A.deeper (envOfC q (aR st) s.heap.objs.size f Q9))->(pas st++Y).Nodup->(∀j,(pas st).length<=j->ZO Z j)->PQs (qO CX0 P w K mg base (pas st++Y) q (aR st) f Q9 A outer s H E).nox Z (cE st) R) :
 ∃fd:FuncData,(∀(s:Yd)(v:Yc),BindsTo s fd ⟨[v],[]⟩ [(x,v)])/\∀base:Heap,K.In base->base.Ns mainGlobals mg->i8 P w K mg base CX0 (k+1) fa fd [x] (spLaw K):=by
 obtain⟨fd,F,z⟩:=c.d _ (List.mem_of_getElem? m);obtain⟨oc,od,kV,X5,pm,an,Q9,ct,osl,rfl,-⟩:=F.ex;have z:mg "law" = some (.ref f):=z;rw[o]at z;cases z;refine⟨_,t _ _ _ _ _ _,fun base _ _=>HU F S fun Q9 A outer s H E l m r=>?_⟩
 obtain⟨δ,e⟩:=lt l r;refine⟨R,δ,?_,e⟩;have:=h base _ Q9 A outer s H E (fun _=>True) m
 rw[p]at this;exact this S.nd fun _ _ _ _ _=>trivial
end
end Hq
namespace Tx
open PySem PySem.Str
variable {c:Nat}
def cJ(a b c:Str):a++b++c=a++(b++c):=PySem.Str.append_assoc a b c
def Fr(c:Nat)(x:Str):Prop:=c∉x.cps.toList
def b9(a b:Str):(a++b).cps.toList=a.cps.toList++b.cps.toList:=by exact Array.toList_append
def Fr.app{a b:Str}(h:Fr c a)(g:Fr c b):Fr c (a++b):=by unfold Fr;rw[b9,Zt];exact fun z=>z.elim h g
def tM{a b:Str}(h:a.cps.toList=b.cps.toList):a=b:=PySem.Str.ext' (Array.toList_inj.mp h)
def aK(s x y) (r):Str.join s (x::y::r)=x++(s++Str.join s (y::r)):=cJ _ _ _
theorem zJ:∀{a a' b b'},c∉a->c∉a'->a++c::b=a'++c::b'->a=a'/\b=b'
 |[],[],_,_,_,_,e=>⟨rfl,(List.cons.inj e).2⟩
 |[],x::a',_,_,_,h,e=>absurd (Zu.mpr (.inl (List.cons.inj e).1)) h
 |x::a,[],_,_,h,_,e=>absurd (Zu.mpr (.inl (List.cons.inj e).1.symm)) h
 |x::a,y::a',b,b',h,h',e=>by
  obtain⟨j,f⟩:=List.cons.inj e;obtain⟨z1,z2⟩:=zJ (fun m=>h (Zq _ m)) (fun m=>h' (Zq _ m)) f
  exact⟨by rw[j,z1],z2⟩
theorem vK{s}(j:s.cps.toList=[c]):∀{p q},p≠[]->q≠[]->(∀x∈p,Fr c x)->(∀x∈q,Fr c x)->Str.join s p=Str.join s q->p=q
 |[],_,h,_,_,_,_=>absurd rfl h
 |_,[],_,h,_,_,_=>absurd rfl h
 |[x],[y],_,_,_,_,e=>by rw[show x=y from e]
 |[x],y::z::r,_,_,hp,_,e=>by
  have f:=congrArg (fun t=>t.cps.toList) ((show x=_ from e).trans (aK s y z r))
  exact absurd (by rw[f,b9,b9,j];simp:c∈x.cps.toList) (hp x (by simp))
 |x::w::t,[y],_,_,_,hq,e=>by
  have f:=congrArg (fun t=>t.cps.toList) ((show y=_ from e.symm).trans (aK s x w t))
  exact absurd (by rw[f,b9,b9,j];simp:c∈y.cps.toList) (hq y (by simp))
 |x::w::t,y::z::r,_,_,hp,hq,e=>by
  rw[aK,aK]at e;have f:=congrArg (fun t=>t.cps.toList) e
  simp only[b9,j]at f;obtain⟨h1,h2⟩:=zJ (hp x (by simp)) (hq y (by simp)) f
  rw[tM h1,vK j (by simp) (by simp) (fun u m=>hp u (Zq _ m)) (fun u m=>hq u (Zq _ m)) (tM h2)]
def Cj(x y):Txt.split x y≠[]\/x=Str.empty:=by
 by_cases h:Txt.split x y=[]
 . right;have:=StrLaws.join_split x y;rw[h]at this;exact this.symm
 . exact .inl h
def pP(x) (c):Txt.split x ⟨#[c]⟩≠[]:=by
 rcases Cj x ⟨#[c]⟩with h|h
 . exact h
 . subst h;unfold Txt.split;rw [if_pos]
   . exact List.cons_ne_nil _ _
   . rw[Bool.or_eq_true];left;exact decide_eq_true (by show 0<1;decide)
def pQ{p}(f:p≠[])(h:∀x∈p,Fr c x):Txt.split (Str.join ⟨#[c]⟩ p) ⟨#[c]⟩=p :=
 vK rfl (pP _ c) f (StrLaws.split_free _ c) h (StrLaws.join_split _ _)
theorem qw(s):∀{p q},p≠[]->q≠[]->Str.join s (p++q)=Str.join s p++(s++Str.join s q)
 |[],_,h,_=>absurd rfl h
 |[x],y::q,_,_=>aK s x y q
 |[x],[],_,h=>absurd rfl h
 |x::y::p,q,_,hq=>by
  rw[show x::y::p++q=x::y::(p++q)from rfl,aK,aK,show y::(p++q)=(y::p)++q from rfl,qw s (by simp) hq]
  simp only[cJ]
def HV(s) (l):Txt.join s l=Str.join s l:=StrLaws.glued_eq_join s l
def aY(a b:Str):(a++b).length=a.length+b.length:=PySem.Str.length_append a b
def fK(a:Str):a.length=a.cps.toList.length:=by show a.cps.size=_;simp
def lH(x) (c):Txt.startswith x ⟨#[c]⟩=(x.cps.toList.head?==some c):=by
 unfold Txt.startswith;rw[StrLaws.subAt_eq];obtain⟨⟨l⟩⟩:=x;cases l with
 |nil=>rfl
 |cons a l=>show(decide (0+1<=(a::l).length)&&(([a]:Yh Nat)==[c]))=(some a==some c);simp
def v5(x) (c):Txt.endswith x ⟨#[c]⟩=(x.cps.toList.getLast?==some c):=by
 unfold Txt.endswith;rw[StrLaws.subAt_eq,fK x,show(⟨#[c]⟩:Str).length=1 from rfl,show(⟨#[c]⟩:Str).cps.toList=[c]from rfl]
 generalize x.cps.toList=l;rcases List.eq_nil_or_concat l with h|⟨m,a,h⟩
 . subst h;rfl
 . subst h;simp
def LU(x) (c):(!(Builtin.Str.occurrences x ⟨#[c]⟩ 0 x.length 1).isEmpty)=decide (c∈x.cps.toList):=StrLaws.found_one x c
end Tx
namespace Tx
open PySem
variable {c:Nat}
noncomputable def num(i:Int):Str:=Str.ofString (toString i)
noncomputable def dg(m:Nat):List Nat:=(Nat.toDigits 10 m).map Char.toNat
def pd(m:Nat):(num (m:Int)).cps.toList=dg m:=W.KIN.signs_num m
def ofS(s):(Str.ofString s).cps.toList=s.toList.map Char.toNat:=by rw[Str.ofString_eq_toList]
def y8(n):(num (Int.negSucc n)).cps.toList=45::dg (n+1):=by
 unfold num;rw[ofS,show toString (Int.negSucc n) = "-" ++ Nat.repr (n+1)from rfl,String.toList_append,Zx,Nat.toList_repr]
 rfl
def kP(m):PySem.NumText.AllDigits (dg m):=by
 intro c j;obtain⟨ch,f,e⟩:=Zs.mp j;have r:=PyProof.Rows.digit_range (Nat.isDigit_of_mem_toDigits (by decide) (by decide) f)
 rw[<- e];exact r
def m7{m}(h:m<10):dg m=[48+m]:=by
 unfold dg;rw[Nat.toDigits_of_lt_base h];have:∀d,d<10->[(Nat.digitChar d)].map Char.toNat=[48+d]:=by decide
 exact this m h
theorem zH{m}(h:¬m<10):dg m=dg (m/10)++[48+m%10]:=by
 have f:m%10<10:=Nat.mod_lt m (by decide)
 have t:Nat.toDigits 10 (m/10)++Nat.toDigits 10 (m%10)=Nat.toDigits 10 (10*(m/10)+m%10):=Nat.toDigits_append_toDigits (by decide) (by lia) f
 rw[Nat.div_add_mod]at t;have e:dg m=dg (m/10)++dg (m%10):=by unfold dg;rw[<- t,Zx]
 rw[e,m7 f]
theorem uu(m):(m=0/\dg m=[48])\/∃c r,dg m=c::r/\49<=c/\c<=57:=by
 induction m using Nat.strongRecOn with
 |_ m f =>
  by_cases h:m<10
  . rw [m7 h]
    by_cases h0:m=0
    . subst h0;exact .inl ⟨rfl,rfl⟩
    . exact .inr ⟨48+m,[],rfl,by lia,by lia⟩
  . right;rw [zH h];rcases f (m / 10) (by lia) with ⟨z,_⟩ | ⟨c,r,e,h1,h2⟩
    . lia
    . exact⟨c,r++[48+m%10],by rw[e];rfl,h1,h2⟩
theorem xT:∀k m,m<10^(k+1)->(dg m).length<=k+1
 |0,m,h=>by rw[m7 (by simpa using h)];exact ZM 1
 |k+1,m,h=>by
  by_cases h0:m<10
  . rw[m7 h0];show 1<=_;lia
  . rw [zH h0,Zl];have h2:m / 10 < 10 ^ (k+1):=by
     rw[Nat.pow_succ]at h;exact Nat.div_lt_of_lt_mul (by rw[Nat.mul_comm];exact h)
    have:=xT k (m/10) h2;show _+1<=_
    lia
theorem Fc(m):1<=(dg m).length:=by
 rcases uu m with⟨_,e⟩|⟨c,r,e,_⟩
 . rw[e];exact ZM 1
 . rw[e];show 1<=r.length+1;lia
def JG(m):dg m≠[]:=fun z=>by have:=Fc m;rw[z]at this;exact absurd this (by decide)
def nR(i):(num i).cps.toList=(if i<0 then[45]else[])++dg i.natAbs:=by
 cases i with
 |ofNat m=>rw[if_neg (by exact Int.not_lt.mpr (Int.natCast_nonneg m))];exact pd m
 |negSucc n=>rw[if_pos (Int.negSucc_lt_zero n)];exact y8 n
theorem xf(i) (h:c≠45) (h2:c<48\/57<c):Fr c (num i):=by
 unfold Fr;rw[nR,Zt]
 rintro(m|m)
 . split at m
   . exact h (Zr.mp m)
   . cases m
 . have:=kP _ c m;lia
theorem kL{i}{k}(h:i.natAbs<10^(k+1)):(num i).length<=k+2:=by
 rw[fK,nR,Zl];have:=xT k _ h;split
 . show 1+_<=_;lia
 . show 0+_<=_;lia
theorem AO{i}{k}(h:i.natAbs<10^(k+1))(hk:k<=4000):intText? (num i)=some i:=by
 have f:=kL h;cases i with
 |ofNat m =>
  have e:=PySem.intText_digits (by rw[show(num (Int.ofNat m)).cps.toList=dg m from pd m];exact kP m) (by rw[show(num (Int.ofNat m)).cps.toList=dg m from pd m];exact JG m) (by lia)
  rw[e,show(num (Int.ofNat m)).cps.toList=dg m from pd m]
  unfold dg;rw[W.KIN.val_back];rfl
 |negSucc n =>
  have e:=PySem.intText_neg (y8 n) (kP _) (JG _) (by lia)
  rw[e];unfold dg;rw[W.KIN.val_back];rfl
end Tx
namespace Dl
open PySem PySem.Spec PyProof.Rows L2
variable {i n j k:Nat} {x y m z:Str} {w:World} {s:Yd} {l a e b c:Expr} {h':Heap} {f fa fb:FD} {ds:Yh D} {δ δ1 Q4:DS} {p:Pos} {r:Yh V->Hp->VK->Prop} {C:Ye} {G:Yh D->Yg D} {u:SD} {lo hi:Yg Expr} {fl fh:FO} {js:Yh Nat} {o:Yg D} {ga:FA} {ws:Yh Str} {fc:FT} {Cs:Yh Ye} {src:FMA} {felt:FM} {gg:D->D->Yg D}
noncomputable def uV(u:SQ):Option RQ->Option RQ
 |some (.nx δ)=>u δ
 |o=>o
noncomputable def brQ(s u:SQ)(δ:DS):Option Bool->Option RQ
 |some true=>s δ
 |some false=>u δ
 |none=>none
noncomputable def brW(s u:SQ):Option (D×DS)->Option RQ
 |some (.bl true,δ)=>s δ
 |some (.bl false,δ)=>u δ
 |_=>none
noncomputable def brM(s u:FM)(δ:DS):Option Bool->Option (D×DS)
 |some true=>s δ
 |some false=>u δ
 |none=>none
noncomputable def IJ(s u:FM):Option (D×DS)->Option (D×DS)
 |some (.bl true,δ)=>s δ
 |some (.bl false,δ)=>u δ
 |_=>none
noncomputable def brD(s u:FD)(δ:DS):Option Bool->Option D
 |some true=>s δ
 |some false=>u δ
 |none=>none
noncomputable def anT(g:FT)(δ:DS):Option Bool->Option Bool
 |some true=>g δ
 |some false=>some false
 |none=>none
noncomputable def orT(g:FT)(δ:DS):Option Bool->Option Bool
 |some true=>some true
 |some false=>g δ
 |none=>none
noncomputable def anV(g:FD)(δ:DS):Option D->Option D
 |some (.bl true)=>g δ
 |some (.bl false)=>some (.bl false)
 |_=>none
noncomputable def orV(g:FD)(δ:DS):Option D->Option D
 |some (.bl true)=>some (.bl true)
 |some (.bl false)=>g δ
 |_=>none
noncomputable def anM(g:FM)(δ:DS):Option Bool->Option (D×DS)
 |some true=>g δ
 |some false=>some (.bl false,δ)
 |none=>none
section
variable {s u:SQ} {δ':DS} {d:D} {b:Bool} {f g:FM} {ta tb:FT} 
@[simp] theorem aE:ai s u δ=uV u (s δ):=by unfold ai uV;cases h:s δ with
  |none=>rfl
  |some r=>cases r<;>rfl
@[simp] theorem aX:uV u (some (.nx δ))=u δ:=by rfl
@[simp] theorem NV:uV u (some (.rt d δ))=some (.rt d δ):=by rfl
@[simp] theorem iw:bw δ=some (.nx δ):=by rfl
@[simp] theorem gn:qIf ta s u δ=brQ s u δ (ta δ):=by unfold qIf brQ;cases h:ta δ with
  |none=>rfl
  |some r=>cases r<;>rfl
@[simp] theorem sZ:brQ s u δ (some true)=s δ:=by rfl
@[simp] theorem iZ:brQ s u δ (some false)=u δ:=by rfl
@[simp] theorem zC:lJ f s u δ=brW s u (f δ):=by
  unfold lJ brW;cases h:f δ with
  |none=>rfl
  |some r =>
   obtain⟨d,δ'⟩:=r;cases d with
   |bl b=>cases b<;>rfl
   |_=>rfl
@[simp] theorem E4:brW s u (some (.bl true,δ))=s δ:=by rfl
@[simp] theorem E5:brW s u (some (.bl false,δ))=u δ:=by rfl
@[simp] theorem j8:eL i f δ=(f δ).bind fun p=>some (.nx (p.2.set i (some p.1))):=by rfl
@[simp] theorem bg:az i f δ=(f δ).bind fun p=>some (.nx (p.2.set i (some (sh p.1)))):=by rfl
@[simp] theorem cA:aW f δ=(f δ).bind fun p=>some (.rt p.1 p.2):=by rfl
@[simp] theorem fN:bE f δ=(f δ).bind fun p=>some (.nx p.2):=by rfl
@[simp] theorem NX:pD ta f g δ=brM f g δ (ta δ):=by unfold pD brM;cases h:ta δ with
  |none=>rfl
  |some r=>cases r<;>rfl
@[simp] theorem L8:brM f g δ (some true)=f δ:=by rfl
@[simp] theorem OZ:brM f g δ (some false)=g δ:=by rfl
@[simp] theorem NW {c}:pC c f g δ=IJ f g (c δ):=by
  unfold pC IJ;cases h:c δ with
  |none=>rfl
  |some r =>
   obtain⟨d,δ'⟩:=r;cases d with
   |bl b=>cases b<;>rfl
   |_=>rfl
@[simp] theorem L7:IJ f g (some (.bl true,δ))=f δ:=by rfl
@[simp] theorem OY:IJ f g (some (.bl false,δ))=g δ:=by rfl
@[simp] theorem Md:j6 ta tb δ=anT tb δ (ta δ):=by unfold j6 anT;cases h:ta δ with
  |none=>rfl
  |some r=>cases r<;>rfl
@[simp] theorem Iq:anT tb δ (some true)=tb δ:=by rfl
@[simp] theorem Ol:anT tb δ (some false)=some false:=by rfl
@[simp] theorem sX:iX ta tb δ=orT tb δ (ta δ):=by unfold iX orT;cases h:ta δ with
  |none=>rfl
  |some r=>cases r<;>rfl
@[simp] theorem OX:orT tb δ (some true)=some true:=by rfl
@[simp] theorem qI:orT tb δ (some false)=tb δ:=by rfl
@[simp] theorem ka:g7 fa fb δ=anV fb δ (fa δ):=by
  unfold g7 anV;cases h:fa δ with
  |none=>rfl
  |some r =>
   cases r with
   |bl b=>cases b<;>rfl
   |_=>rfl
@[simp] theorem iB:anV fb δ (some (.bl true))=fb δ:=by rfl
@[simp] theorem v8:ui fa fb δ=orV fb δ (fa δ):=by
  unfold ui orV;cases h:fa δ with
  |none=>rfl
  |some r =>
   cases r with
   |bl b=>cases b<;>rfl
   |_=>rfl
@[simp] theorem EZ:orV fb δ (some (.bl true))=some (.bl true):=by rfl
@[simp] theorem xL:orV fb δ (some (.bl false))=fb δ:=by rfl
@[simp] theorem xO:ot ta f δ=anM f δ (ta δ):=by unfold ot anM;cases h:ta δ with
  |none=>rfl
  |some r=>cases r<;>rfl
@[simp] theorem ur:anM f δ (some true)=f δ:=by rfl
@[simp] theorem Ir:anM f δ (some false)=some (.bl false,δ):=by rfl
@[simp] theorem f9:fT fa δ=(fa δ).bind asB:=by rfl
@[simp] theorem dB:asB (.bl b)=some b:=by rfl
@[simp] theorem lX:fG ta δ=(ta δ).map not:=by rfl
@[simp] theorem e_C:fC d δ=some d:=by rfl
@[simp] theorem uq{gg}:f1 gg fa δ=(fa δ).bind gg:=by rfl
@[simp] theorem bT:f2 gg fa fb δ=(fa δ).bind fun x=>(fb δ).bind fun y=>gg x y:=by rfl
@[simp] theorem i5:bY gg f g δ=(f δ).bind fun p=>(g p.2).bind fun q=>(gg p.1 q.1).bind fun d=>if imm d then some (d,q.2)else none:=by rfl
@[simp] theorem bS:vI fa δ=(fa δ).bind fun d=>if imm d then some (d,δ)else none:=by rfl
@[simp] theorem bu{gg}:a9 gg ga δ=(ga δ).bind gg:=by rfl
@[simp] theorem E1{gg}:fMt gg fa ga δ=(fa δ).bind fun d=>(ga δ).bind fun ds=>gg d ds:=by rfl
@[simp] theorem bM:ag δ=some []:=by rfl
@[simp] theorem bU:af fa ga δ=(fa δ).bind fun x=>(ga δ).bind fun xs=>some (x::xs):=by rfl
@[simp] theorem cS:am δ=some ([],δ):=by rfl
@[simp] theorem cC{ga}:ae f ga δ=(f δ).bind fun p=>(ga p.2).bind fun q=>some (p.1::q.1,q.2):=by rfl
@[simp] theorem L9:ug ga δ=(ga δ).bind fun ds=>some (.tup ds):=by rfl
@[simp] theorem qJ{ga}:bR ga δ=(ga δ).bind fun p=>some (.lst p.1,p.2):=by rfl
@[simp] theorem oM{ga}:cY ga δ=(ga δ).bind fun p=>some (.tup p.1,p.2):=by rfl
@[simp] theorem aZ{bs}{G}{ga}:aj bs G ga δ=(ga δ).bind fun p=>(G p.1).bind fun q=>some (q.1,gu bs q.2 p.2):=by rfl
@[simp] theorem dz{G}:aU G ga δ=(ga δ).bind fun ds=>(G (shs ds)).bind fun q=>some q.1:=by rfl
@[simp] theorem xM {bs} {G} {ga}:gS C bs G ga δ=(ga δ).bind fun p=>(G (.oo C [] [] :: p.1)).bind fun q=>match q with
  |(.non,some o::Q4)=>some (o,gu bs Q4 p.2)
  |_=>none:=by rfl
@[simp] theorem aP:gu [] Q4 δ=δ:=by cases Q4<;>rfl
@[simp] theorem a8{bs}:gu (some i::bs) (o::Q4) δ=gu bs Q4 (δ.set i o):=by rfl
@[simp] theorem bC{bs}:gu (none::bs) (o::Q4) δ=gu bs Q4 δ:=by rfl
def xK{r}:ab 0 (some d::r)=some d:=by rfl
@[simp] theorem gp{G}:di C m G fa ga δ=(fa δ).bind fun d=>if isC C m d then(ga δ).bind fun ds=>(G (sh d::shs ds)).bind fun q=>some q.1 else none:=by rfl
@[simp] theorem iY{xs}(h:cB m xs=none):isC C m (.oo C xs ds)=true:=by show(decide (C=C)&&(cB m xs).isNone)=true;rw[h,decide_eq_true rfl];rfl
@[simp] theorem lY{xs}(h:cB m xs=none):isC C m (.ob C xs ds)=true:=by show(decide (C=C)&&(cB m xs).isNone)=true;rw[h,decide_eq_true rfl];rfl
@[simp] theorem g9:gm Cs x fa δ=(fa δ).bind fun d=>(jX d).bind fun o=>if o.1∈Cs then lkF x o.2.1 o.2.2 else none:=by rfl
@[simp] theorem oN{xs}:jX (.oo C xs ds)=some (C,xs,ds):=by rfl
@[simp] theorem lW{xs}:jX (.ob C xs ds)=some (C,xs,ds):=by rfl
def L6{p:PF}{xs}(l:f δ=some (d,δ1))(h:δ1[i]?=some (some (.oo C xs ds)))(m:C∈Cs)(j:ds.length<=99):bZ i Cs x aw f δ=some (.nx (δ1.set i (some (.oo C (fJ x xs) (putD x d xs ds))))):=by unfold bZ;rw[l];dsimp only[Option.bind];rw[h];exact if_pos ⟨m,j⟩
@[simp] theorem j9:sS [.lst ds]=some (.int ds.length):=by rfl
@[simp] theorem g8:sS [.seq ds]=some (.int ds.length):=by rfl
def uo(h:z.length<=sizeLine):sS [.str z]=some (.int z.length):=by exact if_pos h
@[simp] theorem lE{a c}:bQ (.int a) (.int c)=some (.bl (a==c)):=by rfl
@[simp] theorem NY{a c}:bQ (.str a) (.str c)=some (.bl (a==c)):=by rfl
@[simp] theorem v9{a c}:d9 (.str a) (.str c)=some (.bl (!(a==c))):=by rfl
@[simp] theorem hU{a c}:aN (.int a) (.int c)=some (.int (a+c)):=by rfl
def bW{a c}(h:a.length+c.length<=sizeLine):aN (.str a) (.str c)=some (.str (a++c)):=by exact if_pos h
@[simp] theorem da{a c}{gg}:gI0 gg (.int a) (.int c)=some (gg a c):=by rfl
def lZ{C:Int->Int->Prop}[∀i j,Decidable (C i j)]{a c}{gg}(h:C a c):gI C gg (.int a) (.int c)=some (gg a c):=if_pos h
@[simp] theorem O7{d}:xz d .non=some (.bl (gC d)):=by rfl
@[simp] theorem JD{d}:lx d .non=some (.bl (!gC d)):=by rfl
@[simp] theorem oO{a}:gIx (.lst ds) (.int a)=L2.atI ds a:=by rfl
@[simp] theorem iz{a}:gIx (.seq ds) (.int a)=L2.atI ds a:=by rfl
@[simp] theorem jN{a}:gIx (.tup ds) (.int a)=L2.atI ds a:=by rfl
@[simp] theorem aV:∀ (ws:Yh Str),shs (ws.map D.str)=ws.map D.str
  |[]=>rfl
  |w::ws=>by rw[Zv,shs,aV ws];rfl
@[simp] theorem cW:∀ (ws:Yh Str),gG (ws.map D.str)=true
  |[]=>rfl
  |w::ws=>by rw[Zv,gG,cW ws];rfl
theorem n6:∀(ws:Yh Str),(ws.map D.str).all eS=true
 |[]=>rfl
 |w::ws=>by rw[Zv,List.all_cons,n6 ws];rfl
theorem rg(x):∀(ws:Yh Str),((ws.map D.str).any fun y=>eqF y (.str x))=decide (x∈ws)
 |[]=>rfl
 |w::ws=>by
  rw[Zv,List.any_cons,rg x ws];show((w==x)||decide (x∈ws))=decide (x∈w::ws)
  by_cases h:w=x
  . subst h;simp
  . have h':¬ x=w:=fun e=>h e.symm
    simp[h,h']
@[simp] theorem sY:gIn (.str x) (.lst (ws.map D.str))=some (.bl (decide (x∈ws))):=by
  show(if eS (.str x)&&(ws.map D.str).all eS then some (D.bl ((ws.map D.str).any fun y=>eqF y (.str x)))else none)=_
  rw[n6,rg];rfl
@[simp] theorem zB:gIn (.str x) (.seq (ws.map D.str))=some (.bl (decide (x∈ws))):=sY
@[simp] theorem E3:gIn (.str x) (.tup (ws.map D.str))=some (.bl (decide (x∈ws))):=sY
@[simp] theorem zA:gZ (.str x) (.lst (ws.map D.str))=some (.bl (!decide (x∈ws))):=by
  show(if eS (.str x)&&(ws.map D.str).all eS then some (D.bl (!(ws.map D.str).any fun y=>eqF y (.str x)))else none)=_
  rw[n6,rg];rfl
@[simp] theorem JE:gZ (.str x) (.seq (ws.map D.str))=some (.bl (!decide (x∈ws))):=zA
def E7{p:Nat}{w}(h:ws[p]?=some w):L2.atI (ws.map D.str) (p:Int)=some (.str w):=L2.atI_nat (by rw[List.getElem?_map,h];rfl)
end
end Dl
namespace Dl
open PySem L2 Tx
variable {i n j k:Nat} {x y m z:Str} {w:World} {s:Yd} {l a e b c:Expr} {h':Heap} {f fa fb:FD} {ds:Yh D} {δ δ1 Q4:DS} {p:Pos} {r:Yh V->Hp->VK->Prop} {C:Ye} {G:Yh D->Yg D} {u:SD} {lo hi:Yg Expr} {fl fh:FO} {js:Yh Nat} {o:Yg D} {ga:FA} {ws:Yh Str} {fc:FT} {Cs:Yh Ye} {src:FMA} {felt:FM} {gg:D->D->Yg D}
theorem dW{g}{ι}{f}:∀{ds},(∀d∈ds,∃j,g (sh d) ι=some j/\fc j=some true/\∃l,felt j=some (f d,l)/\clr n l=ι)->bi n g fc felt ds ι=some (ds.map f,ι)
 |[],_=>rfl
 |d::ds,h=>by
  obtain⟨j,h1,h2,l,q,p⟩:=h d (Zp ..);have o:=dW fun x m=>h x (Zq _ m)
  simp only[bi,h1,h2,q,p,o,Zc,Z8,Zv]
theorem oG{g}{ι}{f}{p}:∀{ds},(∀d∈ds,∃j,g (sh d) ι=some j/\fc j=some (p d)/\clr n j=ι/\(p d=true->∃l,felt j=some (f d,l)/\clr n l=ι))->bi n g fc felt ds ι=some ((ds.filter p).map f,ι)
 |[],_=>rfl
 |d::ds,h=>by
  obtain⟨j,h1,h2,s,q⟩:=h d (Zp ..);have r:=oG fun x m=>h x (Zq _ m)
  cases o:p d with
  |false=>simp only[bi,h1,h2,o,s,r,Zc,ZR,Z9,List.filter_cons]
  |true =>obtain⟨l,q,t⟩:=q o;simp only[bi,h1,h2,o,q,t,r,Zc,Z8,List.filter_cons,Zv]
def cq{g}{δc ιe}{cs xs}(h1:src δ=some (ds,δ1))(h2:takes (js.map AK.lent) δ1=some (cs,δc))(j:bi n g fc felt ds (List.replicate n none++cs.map some)=some (xs,ιe))(f:xs.length<=1000):aD src n js g fc felt δ=some (.lst xs,gu (js.map some) (ιe.drop n) δc):=by simp only[aD,h1,h2,j,f,Zc,Z8]
theorem tu:∀bs,kQ (bs.map D.bl)=some bs
 |[]=>rfl
 |b::bs=>by rw[Zv,kQ,tu bs];rfl
def E8(bs:Yh Bool):xC [.lst (bs.map D.bl)]=some (.bl (bs.all id)):=by simp only[xC,OT,oi,tu,Zc]
def lD{f}:jr f δ=(f (shO δ)).bind fun p=>some p.1:=by rfl
@[simp] theorem iA{d}{r}:gN 0 d (o::r)=some (some d::r):=by rfl
@[simp] theorem m5 {d} {r}:gN (i+1) d (o :: r)=(gN i d r).map (o :: ·):=by
  unfold gN
  by_cases h:i<r.length
  . rw[if_pos h,if_pos (by rw[Zn];lia)];rfl
  . rw[if_neg h,if_neg (by rw[Zn];lia)];rfl
@[simp] theorem qL{r}:clr 1 (o::r)=none::r:=by rfl
@[simp] theorem Mc{p}{r}:clr 2 (o::p::r)=none::none::r:=by rfl
def uZ(j:x.length<=1000)(δ) (l:src δ=some (dZ x,δ)):aD src 1 [] (gN 0) (fun _=>some true) (vI (f2 xB (ab 0) (fC (.str y)))) δ=some (.lst ((x.cps.toList.map fun c=>decide (c∈y.cps.toList)).map D.bl),δ):=by
 have f:bi 1 (gN 0) (fun _=>some true) (vI (f2 xB (ab 0) (fC (.str y)))) (dZ x) [none]=some ((dZ x).map (fun d=>match d with|.str z=>D.bl (!(Builtin.Str.occurrences y z 0 y.length 1).isEmpty)|_=>.non),[none]):=by
  refine dW fun d m=>?_
  obtain⟨c,p,rfl⟩:=Zs.mp m;exact⟨[some (.str ⟨#[c]⟩)],rfl,rfl,[some (.str ⟨#[c]⟩)],rfl,rfl⟩
 have e:=cq (js:=[]) l rfl f (by
  rw[Zm];show(x.cps.toList.map _).length<=1000;rw[Zm];rw[<- fK];exact j)
 rw[e];have o:((dZ x).map (fun d=>match d with|.str z=>D.bl (!(Builtin.Str.occurrences y z 0 y.length 1).isEmpty)|_=>.non))=(x.cps.toList.map fun c=>decide (c∈y.cps.toList)).map D.bl:=by
  unfold dZ;rw[List.map_map,List.map_map];refine List.map_congr_left fun c _=>?_
  show D.bl (!(Builtin.Str.occurrences y ⟨#[c]⟩ 0 y.length 1).isEmpty)=D.bl (decide (c∈y.cps.toList));rw[LU]
 rw[o];rfl
end Dl
namespace Dl
open PySem L2 Tx Builtin.Str
variable {i n j k:Nat} {x y m z:Str} {w:World} {s:Yd} {l a e b c:Expr} {h':Heap} {f fa fb:FD} {ds:Yh D} {δ δ1 Q4:DS} {p:Pos} {r:Yh V->Hp->VK->Prop} {C:Ye} {G:Yh D->Yg D} {u:SD} {lo hi:Yg Expr} {fl fh:FO} {js:Yh Nat} {o:Yg D} {ga:FA} {ws:Yh Str} {fc:FT} {Cs:Yh Ye} {src:FMA} {felt:FM} {gg:D->D->Yg D}
def qP{lo hi}{a b}(f:a<=b)(l:b<=z.length)(h:strSliceIndices lo hi 1 z.length=strSliceIndices (some (a:Int)) (some (b:Int)) 1 z.length):(gq z lo hi).cps.toList=(z.cps.toList.drop a).take (b-a):=by
 unfold gq;rw[h];have e:=StrLaws.sliced_plain z f l;split
 . rename_i m;rw [StrLaws.strSliceIndices_plain f l,Zm,List.length_range,beq_iff_eq] at m;have o:a=0:=by omega
   have j:b=z.length:=by omega
   rw[o,j,List.drop_zero,Nat.sub_zero,List.take_of_length_le (by rw[<- fK];exact ZM _)]
 . rw[List.toList_toArray];exact e
theorem wg(h:1<=z.length):(gq z (some 1) none).cps.toList=z.cps.toList.drop 1:=by
 rw[qP h (ZM _) (by
  simp only[strSliceIndices,show((1:Int)>0)=True from by simp,show ¬((z.length:Int)<0) by lia,Z9,show max (0:Int) (min (z.length:Int) (z.length:Int))=z.length by lia]
  rfl)]
 rw[List.take_of_length_le (by rw[List.length_drop,<- fK];exact ZM _)]
theorem Fj(h:1<=z.length):(gq z none (some (-1))).cps.toList=z.cps.toList.take (z.length-1):=by
 rw[qP (b:=z.length-1) (Nat.zero_le _) (by lia) (by
  simp only[strSliceIndices,show((1:Int)>0)=True from by simp,Z8,show((-1:Int)<0)from by decide,show ¬(((z.length-1:Nat):Int)<0) by lia,Z9,show max (0:Int) (min (-1+(z.length:Int)) (z.length:Int))=((z.length-1:Nat):Int) by lia,show max (0:Int) (min ((z.length-1:Nat):Int) (z.length:Int))=((z.length-1:Nat):Int) by lia]
  simp only[show ¬(((0:Nat):Int)<0) by lia,Z9]
  rw[show max (0:Int) (min ((0:Nat):Int) (z.length:Int))=0 by lia])]
 rw[List.drop_zero,Nat.sub_zero]
theorem Fh:(gq z none (some (k:Int))).cps.toList=z.cps.toList.take k:=by
 rw[qP (b:=min k z.length) (Nat.zero_le _) (Nat.min_le_right _ _) (by
  simp only[strSliceIndices,show((1:Int)>0)=True from by simp,Z8,show ¬((k:Int)<0) by lia,show ¬(((min k z.length:Nat):Int)<0) by lia,Z9,show max (0:Int) (min (k:Int) (z.length:Int))=((min k z.length:Nat):Int) by lia,show max (0:Int) (min ((min k z.length:Nat):Int) (z.length:Int))=((min k z.length:Nat):Int) by lia]
  simp only[show ¬(((0:Nat):Int)<0) by lia,Z9]
  rw[show max (0:Int) (min ((0:Nat):Int) (z.length:Int))=0 by lia])]
 rw[List.drop_zero,Nat.sub_zero];rcases Nat.le_total k z.length with h|h
 . rw[Nat.min_eq_left h]
 . rw[Nat.min_eq_right h,List.take_of_length_le (by rw[<- fK];exact ZM _),List.take_of_length_le (by rw[<- fK];exact h)]
theorem Bp:gq (z++(⟨#[44]⟩:Str)) none (some (-1))=z:=by
 refine tM ?_;rw[Fj (by rw[aY];show 1<=z.length+1;lia),aY,b9,fK]
 show(z.cps.toList++[44]).take (z.cps.toList.length+1-1)=_;rw[Nat.add_sub_cancel,List.take_append_of_le_length (ZM _),List.take_length]
theorem EY:uh f fl fh δ=(f δ).bind fun d=>(fl δ).bind fun l=>(fh δ).bind fun h=>match d with
 |.str z=>if(gq z l h).length<=sizeLine then some (.str (gq z l h))else none
 |_=>none:=by rfl
def qH:ir (.str x) [.str y]=some (.bl (Txt.startswith x y)):=by rfl
def E6:vX (.str x) [.str y]=some (.bl (Txt.endswith x y)):=by rfl
end Dl
namespace Mine
open PySem PySem.Spec PyProof.Rows L2 Dl
noncomputable section
abbrev Es:List Addr:=[aC,a5]
abbrev vk(n:Int):FM:=vI (fC (.int n))
abbrev ck(n:Int):FD:=fC (.int n)
abbrev cs(s:Str):FD:=fC (.str s)
abbrev ln(f:FD):FD:=a9 sS (af f ag)
abbrev cX:FD->FD:=gm [aG,ak] "watch_names"
abbrev bd:FD->FD:=gm [aG,ak] "machine_names"
abbrev jq:FD->FD:=gm [aG,ak] "box_tuples"
abbrev qG:FD->FD:=gm [bb] "word"
abbrev n9:FD->FD:=gm [bb] "machine"
abbrev jm:FD->FD:=gm [ah] "place"
abbrev mY:FD->FD:=gm [ah] "words"
abbrev jj:FD->FD:=gm [ak] "room_lists"
abbrev j5:FD->FD:=gm [ak] "door_list"
def d5:SQ:=(ai (bZ 0 [gB,aC,a5] "number" aw (aa 1))
 (ai (bZ 0 [gB,aC,a5] "sign" aw (aa 2))
 (bZ 0 [gB,aC,a5] "against" aw (aa 3))))
def bX:GQ:=fun ds=>av 4 (d5 (start 4 ds))
def gz:SQ:=(ai (bZ 0 [bO] "name" aw (aa 1))
 (ai (bZ 0 [bO,bb] "price" aw (aa 2))
 (ai (bZ 0 [bO] "hurry" aw (aa 3))
 (bZ 0 [bO] "stays" aw (aa 4)))))
def d6:GQ:=fun ds=>av 5 (gz (start 5 ds))
def gA:SQ:=(ai (bZ 0 [bb] "machine" aw (aa 1))
 (ai (bZ 0 [bb] "start" aw (aa 2))
 (ai (bZ 0 [bb] "goal" aw (aa 3))
 (ai (bZ 0 [bb] "weather" aw (aa 4))
 (ai (bZ 0 [bb] "word" aw (aa 5))
 (ai (bZ 0 [bO,bb] "price" aw (aa 6))
 (ai (bZ 0 [bb] "conds" aw (aa 7))
 (ai (bZ 0 [bb] "resets" aw (aa 8))
 (bZ 0 [bb] "deeds" aw (aa 9))))))))))
def d8:GQ:=fun ds=>av 10 (gA (start 10 ds))
def iT:SQ:=(aW (gD (af (cX (ab 0)) ag)))
def fX:GQ:=fun ds=>av 1 (iT (start 1 ds))
def ij:SQ:=(aW (gD (af (bd (ab 0)) ag)))
def fB:GQ:=fun ds=>av 1 (ij (start 1 ds))
def kx:SQ:=(aW (gD (af (jq (ab 0)) ag)))
def iM:GQ:=fun ds=>av 1 (kx (start 1 ds))
def kR:SQ:=(ai (qIf (iX (fT (f2 xz (qG (ab 1)) (fC .non))) (iX (fT (f2 d9 (f2 gIx (qG (ab 1)) (ck 0)) (cs "say"))) (fT (f2 bQ (n9 (ab 1)) (n9 (ab 0)))))) (aW (vI (fC (.bl false)))) bw)
 (aW (vI (f2 bQ (qG (ab 0)) (ug (af (cs "hear") (af (f2 gIx (qG (ab 1)) (ck 1)) ag)))))))
def iI:GQ:=fun ds=>av 2 (kR (start 2 ds))
def oj:SQ:=(aW (vI (g7 (fU (ck 1) (ln (ab 0)) (ck 8)) (a9 xC (af (jr (aD (i9 (ab 0)) 1 [] (gN 0) (fun _=>some true) (vI (f2 xB (ab 0) (cs "abcdefghijklmnopqrstuvwxyz"))))) ag)))))
def kW:GQ:=fun ds=>av 1 (oj (start 1 ds))
def kh:SQ:=(ai (az 3 (pD (fT (fMt ir (ab 0) (af (cs "-") ag))) (vI (uh (ab 0) (faS (ck 1)) faN)) (aa 0)))
 (ai (qIf (iX (fG (fT (fU (ck 1) (ln (ab 3)) (ck 31)))) (fG (fT (a9 xC (af (jr (aD (i9 (ab 3)) 1 [] (gN 0) (fun _=>some true) (vI (f2 xB (ab 0) (cs "0123456789"))))) ag))))) (aW (vI (fC .non))) bw)
 (ai (qIf (j6 (fT (fMt ir (ab 3) (af (cs "0") ag))) (fT (f2 d9 (ab 0) (cs "0")))) (aW (vI (fC .non))) bw)
 (ai (az 4 (vI (a9 sU (af (ab 0) ag))))
 (aW (pD (fT (fU (ab 1) (ab 4) (ab 2))) (aa 4) (vI (fC .non))))))))
def dC:GQ:=fun ds=>av 3 (kh (start 5 ds))
def fP:SQ:=(ai (bZ 0 [ah] "row" aw (aa 1))
 (ai (bZ 0 [ah] "words" aw (aa 2))
 (bZ 0 [ah] "place" aw (vk 0))))
def dN:GQ:=fun ds=>av 3 (fP (start 3 ds))
def ig:SQ:=(qIf (fG (fT (ab 1))) pX bw)
def ao:GQ:=fun ds=>av 2 (ig (start 2 ds))
def dX:SQ:=(ai (qIf (iX (fT (f2 bQ (jm (ab 0)) (ln (mY (ab 0))))) (fT (f2 d9 (f2 gIx (mY (ab 0)) (jm (ab 0))) (ab 1)))) (aW (vI (fC (.bl false)))) bw)
 (ai (bZ 0 [ah] "place" aw (vI (f2 aN (jm (ab 0)) (ck 1))))
 (aW (vI (fC (.bl true))))))
def aL:GQ:=fun ds=>av 2 (dX (start 2 ds))
def fR:SQ:=(ai (bZ 0 [aG,ak] "watch_names" aw (bR am))
 (ai (bZ 0 [aG,ak] "box_tuples" aw (bR am))
 (ai (bZ 0 [aG,ak] "machine_names" aw (bR am))
 (ai (bZ 0 [ak] "room_lists" aw (bR am))
 (bZ 0 [ak] "door_list" aw (bR am))))))
def cK:GQ:=fun ds=>av 1 (fR (start 1 ds))
def eY:SQ:=(aW (aD (a6 (fY [aG,ak] "box_tuples" (aa 0))) 1 [] (gN 0) (fun _=>some true) (vI (f2 gIx (ab 0) (ck 0)))))
def bH:GQ:=fun ds=>av 1 (eY (start 1 ds))
def eD:SQ:=(aW (aD (a6 (ja (fY [ak] "room_lists" (aa 0)) (f1 fF (ck 1)))) 1 [] (gN 0) (fun _=>some true) (vI (gm [bO] "name" (ab 0)))))
def bV:GQ:=fun ds=>av 1 (eD (start 1 ds))
def fQ:SQ:=(aW (vI (g7 (f2 gGt (ln (jj (ab 0))) (ck 0)) (f2 gGt (ln (f2 gIx (jj (ab 0)) (f1 fF (ck 1)))) (ck 0)))))
def bz:GQ:=fun ds=>av 1 (fQ (start 1 ds))
def dI:SQ:=(aW (vI (g7 (f2 gGt (ln (j5 (ab 0))) (ck 0)) (f2 bQ (n9 (f2 gIx (j5 (ab 0)) (f1 fF (ck 1)))) (f2 (gI0 fun i j=>.int (i-j)) (ln (bd (ab 0))) (ck 1))))))
def bA:GQ:=fun ds=>av 1 (dI (start 1 ds))
def uM:SQ:=(aW (vI (gm [aG] "text" (ab 0))))
def ff:GQ:=fun ds=>av 1 (uM (start 1 ds))
def jy:SQ:=(ai (qIf (fG (fT (a9 (qE Is) (af (ab 0) (af (fC (.cls aC)) ag))))) (aW (vI (fC (.bl false)))) bw)
 (aW (vI (ui (f2 bQ (gm [gB,aC,a5] "sign" (ab 0)) (cs "<=")) (g7 (f2 bQ (gm [gB,aC,a5] "sign" (ab 0)) (cs "<")) (f2 gGt (gm [gB,aC,a5] "against" (ab 0)) (ck 0)))))))
def eE:GQ:=fun ds=>av 1 (jy (start 1 ds))
def kU:SQ:=(aW (pD (fT (f2 gLt (ab 1) (ln (ab 0)))) (vI (f2 gIx (ab 0) (ab 1))) (vk 0)))
def eK:GQ:=fun ds=>av 2 (kU (start 2 ds))
def jA:SQ:=(aW (bR (ae (vI (a9 zo (af (ck 0) (af (f2 (gI0 fun i j=>.int (i-j)) (a9 EL (af (ab 0) ag)) (f2 (gI CPow fun i j=>.int (i^j.toNat)) (ck 10) (ck 18))) ag)))) (ae (vI (f2 aN (f2 (gI (fun _ j=>0<j) fun i j=>.int (i%j)) (a9 EL (af (ab 0) ag)) (ck 2147483563)) (ck 1))) am))))
def fg:GQ:=fun ds=>av 1 (jA (start 1 ds))
def iE:SQ:=(ai (qIf (fT (f2 gGt (f2 gIx (ab 0) (ck 0)) (ck 0))) (ai (az 2 (vI (f2 gIx (ab 0) (ck 0))))
 (ai (tU 0 aw (ck 0) (vI (f2 (gI oU fun i j=>.int (i/j)) (ab 2) (ab 1))))
 (aW (vI (f2 (gI (fun _ j=>0<j) fun i j=>.int (i%j)) (ab 2) (ab 1)))))) bw)
 (ai (tU 0 aw (ck 1) (vI (f2 (gI (fun _ j=>0<j) fun i j=>.int (i%j)) (f2 aN (f2 (gI kB fun i j=>.int (i*j)) (f2 gIx (ab 0) (ck 1)) (ck 48271)) (ck 9973)) (ck 2147483629))))
 (ai (az 2 (vI (f2 (gI (fun _ j=>0<j) fun i j=>.int (i%j)) (f2 (gI kB fun i j=>.int (i*j)) (f2 gIx (ab 0) (ck 1)) (f2 gIx (ab 0) (ck 1))) (ck 2147483587))))
 (aW (vI (f2 (gI (fun _ j=>0<j) fun i j=>.int (i%j)) (f2 (gI oU fun i j=>.int (i/j)) (ab 2) (ck 7)) (ab 1)))))))
def aI:GQ:=fun ds=>av 2 (iE (start 3 ds))
abbrev tk(n:Int):FM:=aj [some 0,none] aI (ae (aa 0) (ae (vI (fC (.int n))) am))
@[simp] def IR (δ:DS):=(vI (f2 aN (f2 aN (f2 aN (f2 aN (ab 0) (cs " ")) (ab 1)) (cs " ")) (a9 lv (af (ab 2) ag)))) δ
def iS:SQ:=(aW (vI (fMt ly (cs ", ") (af (jr (aD (a6 (aa 0)) 3 [] (jR [0,1,2]) (fun _=>some true) IR)) ag))))
def cz:GQ:=fun ds=>av 1 (iS (start 1 ds))
def gd:SQ:=(aW (vI (f2 gIx (gl (af (ug (af (ck 4) (af (ck 3) (af (ck 4) (af (ck 6) (af (ck 6) (af (ck 60) ag))))))) (af (ug (af (ck 2) (af (ck 1) (af (ck 2) (af (ck 3) (af (ck 4) (af (ck 4) ag))))))) (af (ug (af (ck 1) (af (ck 2) (af (ck 3) (af (ck 2) (af (ck 3) (af (ck 9) ag))))))) ag)))) (f2 (gI (fun _ j=>0<j) fun i j=>.int (i%j)) (ab 0) (ck 3)))))
def dE:GQ:=fun ds=>av 1 (gd (start 1 ds))
@[simp] def bq1 (δ:DS):=(fG (fT (a9 (rL "list" Jw) (af (ab 1) (af (fC (.ty "list")) ag))))) δ
@[simp] def Mt (δ:DS):=(qIf bq1 (aW (vI (fC (.bl false)))) bw) δ
@[simp] def Fw (δ:DS):=(vI (g7 (a9 (rL "int" isInt) (af (ab 0) (af (fC (.ty "int")) ag))) (f1 Ij (a9 (rL "bool" Et) (af (ab 0) (af (fC (.ty "bool")) ag)))))) δ
@[simp] def IL (δ:DS):=(ai (az 3 (aD (rS (rH (aa 2) (faS (ck 1)) faN)) 1 [] (gN 0) (fun _=>some true) Fw))
 (qIf (iX (fG (fT (a9 (rL "tuple" Jv) (af (ab 2) (af (fC (.ty "tuple")) ag))))) (fT (f2 d9 (ab 3) (gl (af (fC (.bl true)) (af (fC (.bl true)) (af (fC (.bl true)) ag))))))) (aW (vI (fC (.bl false)))) bw)) δ
def jB:SQ:=(ai (f8 (a6 (aa 0)) (gN 1) Mt)
 (ai (f8 (a6 (ja (aa 0) (ck 1))) (gN 2) IL)
 (aW (vI (fC (.bl true))))))
def dM:GQ:=fun ds=>av 1 (jB (start 4 ds))
@[simp] def N3 (δ:DS):=(br 1 (aD (dG (vI (ln (ab 0)))) 1 [3,0,2] (gN 0) (fT (aU iI (af (f2 gIx (ab 2) (ab 0)) (af (ab 1) ag)))) (rG (cY (ae (aa 3) (ae (aa 0) am)))))) δ
def kT:SQ:=(ai (eL 1 (aD (dG (vI (ln (ab 0)))) 1 [0] (gN 0) (fT (f2 xz (qG (f2 gIx (ab 1) (ab 0))) (fC .non))) (rG (cY (ae (aa 0) am)))))
 (ai (f8 (rV (aa 0)) (jR [2,3]) (Aq 1 aw N3))
 (aW (pF (ab 1)))))
def gR:GQ:=fun ds=>av 1 (kT (start 4 ds))
def jE:SQ:=(ai (bE (vI (di ah "insist" ao (ab 0) (af (f2 gLt (jm (ab 0)) (ln (mY (ab 0)))) ag))))
 (ai (bZ 0 [ah] "place" aw (vI (f2 aN (jm (ab 0)) (ck 1))))
 (aW (vI (f2 gIx (mY (ab 0)) (f2 (gI0 fun i j=>.int (i-j)) (jm (ab 0)) (ck 1)))))))
def bp:GQ:=fun ds=>av 1 (jE (start 1 ds))
def ii:SQ:=(bE (vI (di ah "insist" ao (ab 0) (af (f2 bQ (jm (ab 0)) (ln (mY (ab 0)))) ag))))
def fu:GQ:=fun ds=>av 1 (ii (start 1 ds))
@[simp] def x0 (δ:DS):=(qIf (fT (f2 gIn (f2 gIx (ab 4) (ck 0)) (cX (ab 0)))) (ai (bE (vI (di ah "insist" ao (ab 1) (af (f2 bQ (fSl (ab 4) (faS (ck 1)) faN) (gl (af (cs "=") (af (cs "0") ag)))) ag))))
 (cG 3 aw (br 3 (vI (fMt eR (cX (ab 0)) (af (f2 gIx (ab 4) (ck 0)) ag)))))) bw) δ
def kg:SQ:=(ai (eL 3 (bR am))
 (ai (f8 (a6 (aa 2)) (gN 4) x0)
 (aW (pG (uS 3)))))
def iH:GQ:=fun ds=>av 3 (kg (start 5 ds))
@[simp] def wr (δ:DS):=(qIf (fT (f2 gZ (f2 gIx (ab 5) (ck 0)) (cX (ab 0)))) (ai (bE (vI (di ah "insist" ao (ab 1) (af (g7 (f2 gIn (f2 gIx (ab 5) (ck 0)) (ab 3)) (f2 gIn (f2 gIx (ab 5) (ck 1)) (ug (af (cs "=") (af (cs "+") (af (cs "-") ag)))))) ag))))
 (ai (az 6 (vI (aU dC (af (f2 gIx (ab 5) (ck 2)) (af (fIf (fT (f2 bQ (f2 gIx (ab 5) (ck 1)) (cs "="))) (f1 fF (ck 20)) (ck 1)) (af (ck 20) ag))))))
 (ai (bE (vI (di ah "insist" ao (ab 1) (af (f2 lx (ab 6) (fC .non)) ag))))
 (cG 4 aw (br 4 (cY (ae (vI (fMt eR (ab 3) (af (f2 gIx (ab 5) (ck 0)) ag))) (ae (vI (f2 gIx (ab 5) (ck 1))) (ae (aa 6) am))))))))) bw) δ
def mf:SQ:=(ai (az 3 (jJ ak "box_names" bH (ab 0) ag))
 (ai (eL 4 (bR am))
 (ai (f8 (a6 (aa 2)) (gN 5) wr)
 (aW (aa 4)))))
def jF:GQ:=fun ds=>av 3 (mf (start 7 ds))
@[simp] def bq7 (δ:DS):=(bY bQ (tk 9) (vk 4)) δ
@[simp] def bq9 (δ:DS):=(bY aN (vk 1) (tk 8)) δ
@[simp] def N4 (δ:DS):=(bY aN (aa 2) (bY j4 (vI (cs "abcdefghijklmnopqrstuvwxyz")) (tk 26))) δ
@[simp] def uD (δ:DS):=(ai (az 4 (aD (i9 (cs "abcdefghijklmnopqrstuvwxyz")) 1 [2] (gN 0) (fun _=>some true) (vI (f2 aN (uh (ab 1) faN (faS (ck 7))) (ab 0)))))
 (az 2 (bY gIx (aD (a6 (aa 4)) 1 [1] (gN 0) (fT (f2 gZ (ab 0) (ab 1))) (aa 0)) (vk 0)))) δ
@[simp] def uB (δ:DS):=(az 2 (bY gIx (bR (ae (vI (cs "do")) (ae (vI (cs "when")) (ae (vI (cs "say")) (ae (vI (cs "price")) (ae (vI (cs "stay")) (ae (vI (cs "hurry")) (ae (vI (cs "weather")) (ae (vI (cs "watch")) (ae (vI (cs "room")) (ae (vI (cs "at")) am))))))))))) (tk 10))) δ
def kq:SQ:=(ai (az 2 (vI (cs "")))
 (ai (f8 (dG bq9) (gN 3) (az 2 N4))
 (ai (lJ bq7 uB bw)
 (ai (qIf (fT (f2 gIn (ab 2) (ab 1))) uD bw)
 (ai (cG 1 aw (br 1 (aa 2)))
 (aW (aa 2)))))))
def bF:GQ:=fun ds=>av 2 (kq (start 5 ds))
def iF:SQ:=(ai (az 4 (aj [some 0,none] aI (ae (aa 0) (ae (vI (f2 aN (ln (ab 1)) (ln (ab 2)))) am))))
 (ai (qIf (fT (f2 gLt (ab 4) (ln (ab 1)))) (ai (az 5 (bY gIx (bR (ae (vI (cs "<")) (ae (vI (cs "<=")) (ae (vI (cs "==")) (ae (vI (cs ">=")) (ae (vI (cs ">")) am)))))) (tk 5)))
 (aW (cY (ae (vI (f2 gIx (ab 1) (ab 4))) (ae (aa 5) (ae (aj [some 0,none] aI (ae (aa 0) (ae (vI (f2 aN (ab 3) (ck 1))) am))) am)))))) bw)
 (ai (az 5 (bY gIx (bR (ae (vI (cs "<")) (ae (vI (cs "<=")) (ae (vI (cs "==")) (ae (vI (cs ">=")) (ae (vI (cs ">")) (ae (vI (cs "!=")) am))))))) (tk 6)))
 (aW (cY (ae (vI (f2 gIx (f2 gIx (ab 2) (f2 (gI0 fun i j=>.int (i-j)) (ab 4) (ln (ab 1)))) (ck 0))) (ae (aa 5) (ae (bY (gI0 fun i j=>.int (i-j)) (tk 41) (vk 20)) am))))))))
def gf:GQ:=fun ds=>av 4 (iF (start 6 ds))
@[simp] def IU (δ:DS):=(bY aN (vk 1) (tk 2)) δ
@[simp] def IK (δ:DS):=(ai (az 5 (bY gIx (aa 1) (aj [some 0,none] aI (ae (aa 0) (ae (vI (ln (ab 1))) am)))))
 (ai (az 6 (tk 2))
 (cG 3 aw (br 3 (cY (ae (aa 5) (ae (vI (f2 gIx (gl (af (cs "<=") (af (cs "<") ag))) (ab 6))) (ae (bY aN (aa 6) (aj [some 0,none] aI (ae (aa 0) (ae (vI (f2 (gI0 fun i j=>.int (i-j)) (f2 aN (ab 2) (ck 1)) (ab 6))) am)))) am)))))))) δ
def eW:SQ:=(ai (eL 3 (bR am))
 (ai (lJ (ot (fT (f2 d9 (ab 1) (gl ag))) (bY bQ (tk 2) (vk 1))) (f8 (dG IU) (gN 4) IK) bw)
 (aW (aa 3))))
def dJ:GQ:=fun ds=>av 3 (eW (start 7 ds))
@[simp] def rP (δ:DS):=(bY (gI kB fun i j=>.int (i*j)) (tk 4) (vI (a9 sU (af (ui (f2 d9 (ab 1) (gl ag)) (f2 d9 (ab 2) (gl ag))) ag)))) δ
@[simp] def rN (δ:DS):=(ai (az 5 (aj [some 0,none] aI (ae (aa 0) (ae (vI (f2 aN (ln (ab 1)) (ln (ab 2)))) am))))
 (qIf (fT (f2 gLt (ab 5) (ln (ab 1)))) (cG 3 aw (br 3 (cY (ae (vI (f2 gIx (ab 1) (ab 5))) (ae (vI (cs "=")) (ae (vk 0) am)))))) (ai (az 6 (bY j4 (vI (cs "=+-")) (tk 3)))
 (ai (az 7 (bY (gI0 fun i j=>.int (i-j)) (tk 41) (vk 20)))
 (ai (qIf (fT (f2 d9 (ab 6) (cs "="))) (az 7 (vI (f2 aN (ck 1) (f2 (gI (fun _ j=>0<j) fun i j=>.int (i%j)) (ab 7) (ck 3))))) bw)
 (cG 3 aw (br 3 (cY (ae (vI (f2 gIx (f2 gIx (ab 2) (f2 (gI0 fun i j=>.int (i-j)) (ab 5) (ln (ab 1)))) (ck 0))) (ae (aa 6) (ae (aa 7) am))))))))))) δ
def jD:SQ:=(ai (eL 3 (bR am))
 (ai (f8 (dG rP) (gN 4) rN)
 (aW (aa 3))))
def gO:GQ:=fun ds=>av 3 (jD (start 8 ds))
def gK:SQ:=(ai (lJ (bY bQ (tk 8) (vk 5)) (aW (aj [some 0,none] aI (ae (aa 0) (ae (vI (f2 aN (f2 (gI CPow fun i j=>.int (i^j.toNat)) (ck 10) (ck 30)) (ck 1))) am)))) bw)
 (aW (tk 4)))
def dL:GQ:=fun ds=>av 1 (gK (start 1 ds))
@[simp] def Fy (δ:DS):=(fT (f2 bQ (f2 (gI (fun _ j=>0<j) fun i j=>.int (i%j)) (ln (f2 gIx (ab 0) (ck 0))) (ck 2)) (ck 1))) δ
def gv:SQ:=(ai (az 1 (vI (f2 aN (cs "room ") (f2 gIx (ab 0) (ck 0)))))
 (ai (qIf (iX (fT (f2 gGt (f2 gIx (ab 0) (ck 1)) (ck 0))) Fy) (az 1 (vI (f2 aN (f2 aN (ab 1) (cs " price ")) (a9 lv (af (f2 gIx (ab 0) (ck 1)) ag))))) bw)
 (ai (qIf (fT (f2 gIx (ab 0) (ck 2))) (az 1 (vI (f2 aN (ab 1) (cs " hurry")))) bw)
 (ai (qIf (fT (f2 d9 (f2 gIx (ab 0) (ck 3)) (gl ag))) (az 1 (vI (f2 aN (f2 aN (ab 1) (cs " stay ")) (aU cz (af (f2 gIx (ab 0) (ck 3)) ag))))) bw)
 (aW (aa 1))))))
def cU:GQ:=fun ds=>av 1 (gv (start 2 ds))
@[simp] def BA (δ:DS):=(fT (f2 bQ (f2 (gI (fun _ j=>0<j) fun i j=>.int (i%j)) (ln (f2 gIx (ab 0) (ck 1))) (ck 2)) (ck 1))) δ
@[simp] def Mr (δ:DS):=(az 1 (vI (f2 aN (f2 aN (f2 aN (f2 aN (ab 1) (cs " ")) (f2 gIx (f2 gIx (ab 0) (ck 3)) (ck 0))) (cs " ")) (f2 gIx (f2 gIx (ab 0) (ck 3)) (ck 1))))) δ
def gw:SQ:=(ai (az 1 (vI (f2 aN (f2 aN (f2 aN (cs "door ") (f2 gIx (ab 0) (ck 0))) (cs " ")) (f2 gIx (ab 0) (ck 1)))))
 (ai (qIf (fT (f2 gIx (ab 0) (ck 2))) (az 1 (vI (f2 aN (ab 1) (cs " weather")))) bw)
 (ai (qIf (fT (f2 lx (f2 gIx (ab 0) (ck 3)) (fC .non))) Mr bw)
 (ai (qIf (iX (fT (f2 gGt (f2 gIx (ab 0) (ck 4)) (ck 0))) BA) (az 1 (vI (f2 aN (f2 aN (ab 1) (cs " price ")) (a9 lv (af (f2 gIx (ab 0) (ck 4)) ag))))) bw)
 (ai (qIf (fT (f2 d9 (f2 gIx (ab 0) (ck 5)) (gl ag))) (az 1 (vI (f2 aN (f2 aN (ab 1) (cs " when ")) (aU cz (af (f2 gIx (ab 0) (ck 5)) ag))))) bw)
 (ai (qIf (fT (f2 d9 (f2 gIx (ab 0) (ck 6)) (gl ag))) (az 1 (vI (f2 aN (f2 aN (ab 1) (cs " do ")) (aU cz (af (f2 gIx (ab 0) (ck 6)) ag))))) bw)
 (aW (aa 1))))))))
def cV:GQ:=fun ds=>av 1 (gw (start 2 ds))
@[simp] def Fv (δ:DS):=(ae (jJ aG "watches" fX (ab 0) ag) (ae (jJ aG "boxes" iM (ab 0) ag) (ae (jJ aG "machines" fB (ab 0) ag) am))) δ
@[simp] def IN (δ:DS):=(iX (fG (fT (a9 (rL "str" qx) (af (aU ff (af (ab 0) ag)) (af (fC (.ty "str")) ag))))) (fT (f2 d9 (aU ff (af (ab 0) ag)) (ab 2)))) δ
@[simp] def Fu (δ:DS):=(ae (ja (aa 1) (ck 0)) (ae (ja (aa 1) (ck 1)) (ae (aD (a6 (ja (aa 1) (ck 2))) 1 [] (gN 0) (fun _=>some true) (vI (f2 gIx (ab 0) (ck 0)))) am))) δ
def jz:SQ:=(ai (qIf (iX (fG (fT (a9 (qE Is) (af (ab 0) (af (fC (.cls aG)) ag))))) IN) (aW (vI (fC (.bl false)))) bw)
 (ai (eL 3 (bR Fv))
 (ai (az 4 (bR Fu))
 (ai (qIf (iX (fG (fT (aU dM (af (ab 3) ag)))) (fT (f2 d9 (ab 3) (ab 4)))) (aW (vI (fC (.bl false)))) bw)
 (ai (sv 3 5 (fun ds=>if ds.length<=999 then some (ds++[D.str "x"])else none))
 (ai (tV 3 (pIx 3 (ck 0) aw))
 (aW (vI (fC (.bl true))))))))))
def gM:GQ:=fun ds=>av 3 (jz (start 6 ds))
def ik:SQ:=(ai (bZ 0 [aG] "text" aw (aa 1))
 (ai (bZ 0 [aG,ak] "watch_names" aw (aa 2))
 (ai (bZ 0 [aG,ak] "box_tuples" aw (aa 3))
 (ai (bZ 0 [aG,ak] "machine_names" aw (aa 4))
 (ai (bZ 0 [aG] "own_rooms" aw (aD (a6 (aa 5)) 1 [] (gN 0) (fun _=>some true) (vI (a9 (oZ true) (af (jr (aD (a6 (aa 0)) 1 [] (gN 0) (fun _=>some true) (cY (ae (vI (gm [bO] "name" (ab 0))) (ae (aa 0) am))))) ag)))))
 (ai (bZ 0 [aG] "own_doors" aw (aa 6))
 (bZ 0 [aG] "own_acts" aw (vI (a9 (oZ false) (af (jr (aD (a6 (aj [none] gR (ae (aa 6) am))) 1 [] (gN 0) (fun _=>some true) (cY (ae (aa 0) (ae (vI (fC (.bl true))) am))))) ag))))))))))
def dF:GQ:=fun ds=>av 7 (ik (start 7 ds))
def kS:SQ:=(ai (qIf (fT (f2 gIn (f2 gIx (ab 2) (ck 0)) (ab 0))) (ai (az 3 (vI (aU dC (af (f2 gIx (ab 2) (ck 2)) (af (ck 0) (af (ck 60) ag))))))
 (qIf (j6 (fT (f2 gIn (f2 gIx (ab 2) (ck 1)) (fC (.tup ((["<","<=","==",">=",">"]:List Str).map D.str))))) (fT (f2 lx (ab 3) (fC .non)))) (aW (gS aC [none,none,none] bX (ae (vI (fMt eR (ab 0) (af (f2 gIx (ab 2) (ck 0)) ag))) (ae (vI (f2 gIx (ab 2) (ck 1))) (ae (aa 3) am))))) bw)) bw)
 (ai (qIf (fT (f2 gIn (f2 gIx (ab 2) (ck 0)) (ab 1))) (ai (az 3 (vI (aU dC (af (f2 gIx (ab 2) (ck 2)) (af (f1 fF (ck 20)) (af (ck 20) ag))))))
 (qIf (j6 (fT (f2 gIn (f2 gIx (ab 2) (ck 1)) (fC (.tup ((["<","<=","==","!=",">=",">"]:List Str).map D.str))))) (fT (f2 lx (ab 3) (fC .non)))) (aW (gS a5 [none,none,none] bX (ae (vI (fMt eR (ab 1) (af (f2 gIx (ab 2) (ck 0)) ag))) (ae (vI (f2 gIx (ab 2) (ck 1))) (ae (aa 3) am))))) bw)) bw)
 (aW (vI (fC .non)))))
def i6:GQ:=fun ds=>av 3 (kS (start 4 ds))
def eX:SQ:=(ai (az 1 (bL 0 ah "take" (aj [some 0] bp (ae (aa 0) am))))
 (ai (bE (vI (di ah "insist" ao (ab 0) (af (aU kW (af (ab 1) ag)) ag))))
 (aW (aa 1))))
def bo:GQ:=fun ds=>av 1 (eX (start 2 ds))
def dS:SQ:=(ai (az 3 (aj [none,none,none] dC (ae (bL 0 ah "take" (aj [some 0] bp (ae (aa 0) am))) (ae (aa 1) (ae (aa 2) am)))))
 (ai (bE (vI (di ah "insist" ao (ab 0) (af (f2 lx (ab 3) (fC .non)) ag))))
 (aW (aa 3))))
def ba:GQ:=fun ds=>av 3 (dS (start 4 ds))
@[simp] def Mp (δ:DS):=(ai (eL 3 (bR (ae (bL 0 ah "take" (aj [some 0] bp (ae (aa 0) am))) (ae (bL 0 ah "take" (aj [some 0] bp (ae (aa 0) am))) (ae (bL 0 ah "take" (aj [some 0] bp (ae (aa 0) am))) am)))))
 (ai (az 2 (vI (fMt vX (f2 gIx (ab 3) (ck 2)) (af (cs ",") ag))))
 (ai (qIf (fT (ab 2)) (tU 3 aw (ck 2) (vI (uh (f2 gIx (ab 3) (ck 2)) faN (faS (f1 fF (ck 1)))))) bw)
 (cG 1 aw (br 1 (aa 3)))))) δ
def dR:SQ:=(ai (eL 1 (bR am))
 (ai (az 2 (vI (fC (.bl true))))
 (ai (eO 1000 (fT (ab 2)) Mp)
 (aW (aa 1)))))
def cF:GQ:=fun ds=>av 1 (dR (start 4 ds))
def jx:SQ:=(ai (az 2 (bL 1 ah "take" (aj [some 1] bp (ae (aa 1) am))))
 (ai (bE (vI (di ah "insist" ao (ab 1) (af (f2 gIn (ab 2) (di ak "room_names" bV (ab 0) ag)) ag))))
 (aW (aa 2))))
def eZ:GQ:=fun ds=>av 2 (jx (start 3 ds))
@[simp] def IS (δ:DS):=(aj [some 3,none,none,none] gf (ae (aa 3) (ae (aa 4) (ae (aa 1) (ae (aa 2) am))))) δ
def gL:SQ:=(ai (qIf (j6 (fT (f2 bQ (ab 1) (gl ag))) (fT (f2 bQ (ab 2) (gl ag)))) (aW (bR am)) bw)
 (aW (aD (dG (tk 3)) 1 [2,3,0,1] (gN 0) (fun _=>some true) IS)))
def fj:GQ:=fun ds=>av 4 (gL (start 4 ds))
def ko:SQ:=(ai (az 4 (aj [some 0,some 1] bF (ae (aa 0) (ae (aa 1) am))))
 (aW (cY (ae (aa 4) (ae (aj [some 0] dL (ae (aa 0) am)) (ae (bY bQ (tk 6) (vk 5)) (ae (aj [some 0,none,none] dJ (ae (aa 0) (ae (aa 2) (ae (aa 3) am)))) am)))))))
def iK:GQ:=fun ds=>av 4 (ko (start 5 ds))
@[simp] def wu (δ:DS):=(vI (fMt ly (cs " ") (af (gl (af (cs "box") (af (f2 gIx (ab 0) (ck 0)) (af (a9 lv (af (f2 gIx (ab 0) (ck 1)) ag)) (af (a9 lv (af (f2 gIx (ab 0) (ck 2)) ag)) (af (a9 lv (af (f2 gIx (ab 0) (ck 3)) ag)) ag)))))) ag))) δ
@[simp] def qX (δ:DS):=(ai (cG 1 aw (br 1 (vI (f2 aN (cs "machine ") (ab 5)))))
 (eL 1 (ou (f2 iu (ab 1) (jr (aD (a6 (aa 6)) 1 [] (gN 0) (fun _=>some true) (vI (aU cU (af (ab 0) ag)))))) (jr (aD (a6 (aa 7)) 1 [] (gN 0) (fun _=>some true) (vI (aU cV (af (ab 0) ag)))))))) δ
@[simp] def uC (δ:DS):=(jr (aD (a6 (aa 3)) 1 [] (gN 0) (fun _=>some true) wu)) δ
def kn:SQ:=(ai (qUn [2,3,4] (aa 0))
 (ai (eL 1 (aD (a6 (aa 2)) 1 [] (gN 0) (fun _=>some true) (vI (f2 aN (cs "watch ") (ab 0)))))
 (ai (eL 1 (ou (ab 1) uC))
 (ai (f8 (a6 (aa 4)) (jR [5,6,7]) qX)
 (aW (aa 1))))))
def eJ:GQ:=fun ds=>av 1 (kn (start 8 ds))
def me:SQ:=(ai (az 2 (bL 1 ah "take_name" (aj [some 1] bo (ae (aa 1) am))))
 (ai (bE (vI (di ah "insist" ao (ab 1) (af (f2 gZ (ab 2) (f2 iu (f2 iu (cX (ab 0)) (di ak "box_names" bH (ab 0) ag)) (bd (ab 0)))) ag))))
 (aW (aa 2))))
def dD:GQ:=fun ds=>av 2 (me (start 3 ds))
def eV:SQ:=(ai (lJ (bL 0 ah "takes" (aj (some 0::[none]) aL (ae (aa 0) (ae (vI (cs "say")) am)))) (aW (cY (ae (vI (cs "say")) (ae (bL 0 ah "take_name" (aj [some 0] bo (ae (aa 0) am))) am)))) bw)
 (ai (lJ (bL 0 ah "takes" (aj (some 0::[none]) aL (ae (aa 0) (ae (vI (cs "hear")) am)))) (aW (cY (ae (vI (cs "hear")) (ae (bL 0 ah "take_name" (aj [some 0] bo (ae (aa 0) am))) am)))) bw)
 (aW (vI (fC .non)))))
def bN:GQ:=fun ds=>av 1 (eV (start 1 ds))
def fV:SQ:=(aW (pC (bL 0 ah "takes" (aj (some 0::[none]) aL (ae (aa 0) (ae (vI (cs "price")) am)))) (bL 0 ah "take_number" (aj (some 0::[none,none]) ba (ae (aa 0) (ae (vk 0) (ae (vk 1000000000000000000000000000000) am))))) (vk 0)))
def bP:GQ:=fun ds=>av 1 (fV (start 1 ds))
@[simp] def bq0 (δ:DS):=(bL 1 ah "take_threes" (aj [some 1] cF (ae (aa 1) am))) δ
@[simp] def bq3 (δ:DS):=(a6 bq0) δ
@[simp] def By (δ:DS):=(aj [none,none,none] i6 (ae (fY [aG,ak] "watch_names" (aa 1)) (ae (jJ ak "box_names" bH (ab 1) ag) (ae (aa 0) am)))) δ
def iR:SQ:=(ai (eL 2 (aD bq3 1 [0] (gN 0) (fun _=>some true) By))
 (ai (bE (vI (di ah "insist" ao (ab 1) (af (f2 (kO Es) (fC .non) (ab 2)) ag))))
 (aW (aa 2))))
def cr:GQ:=fun ds=>av 2 (iR (start 3 ds))
@[simp] def bq8 (δ:DS):=(bY bQ (tk 4) (vk 3)) δ
@[simp] def Mq (δ:DS):=(az 9 (cY (ae (bY gIx (bR (ae (vI (cs "say")) (ae (vI (cs "hear")) am))) (tk 2)) (ae (bY gIx (aa 5) (tk 3)) am)))) δ
def kr:SQ:=(ai (az 6 (bY gIx (zT (aa 1) (aj [some 0,none] aI (ae (aa 0) (ae (vI (ln (ab 1))) am)))) (vk 0)))
 (ai (az 7 (bY gIx (zT (aa 1) (aj [some 0,none] aI (ae (aa 0) (ae (vI (ln (ab 1))) am)))) (vk 0)))
 (ai (az 8 (bY bQ (tk 3) (vk 1)))
 (ai (az 9 (vI (fC .non)))
 (ai (lJ bq8 Mq bw)
 (ai (eL 10 (aj [some 0,none,none,none] fj (ae (aa 0) (ae (aa 2) (ae (aa 3) (ae (aa 4) am))))))
 (aW (cY (ae (aa 6) (ae (aa 7) (ae (aa 8) (ae (aa 9) (ae (aj [some 0] dL (ae (aa 0) am)) (ae (aa 10) (ae (aj [some 0,none,none] gO (ae (aa 0) (ae (aa 2) (ae (aa 3) am)))) am)))))))))))))))
def iL:GQ:=fun ds=>av 6 (kr (start 11 ds))
def km:SQ:=(aW (vI (fMt ly (cs "") (af (jr (aD (a6 (aj [none] eJ (ae (aa 0) am))) 1 [] (gN 0) (fun _=>some true) (vI (f2 aN (ab 0) (cs "\n"))))) ag))))
def eI:GQ:=fun ds=>av 1 (km (start 1 ds))
def kj:SQ:=(ai (bE (vI (di ah "insist" ao (ab 1) (af (g7 (f2 bQ (ln (jq (ab 0))) (ck 0)) (f2 bQ (ln (bd (ab 0))) (ck 0))) ag))))
 (ai (bE (vI (di ah "insist" ao (ab 1) (af (f2 gLt (ln (cX (ab 0))) (ck 4)) ag))))
 (cG 0 (kY 0 [aG,ak] "watch_names" aw) (b8 [.view 0,.lent 1] dD (takes [.view 0,.lent 1])))))
def iJ:GQ:=fun ds=>av 2 (kj (start 2 ds))
def oq:SQ:=(ai (bE (vI (di ah "insist" ao (ab 1) (af (g7 (f2 bQ (ln (bd (ab 0))) (ck 0)) (f2 gLt (ln (jq (ab 0))) (ck 3))) ag))))
 (ai (az 2 (b8 [.view 0,.lent 1] dD (cR 0 (ae (aa 1) am))))
 (ai (az 3 (bL 1 ah "take_number" (aj (some 1::[none,none]) ba (ae (aa 1) (ae (vI (f1 fF (ck 20))) (ae (vk 20) am))))))
 (ai (az 4 (bL 1 ah "take_number" (aj (some 1::[none,none]) ba (ae (aa 1) (ae (aa 3) (ae (vk 20) am))))))
 (cG 0 (kY 0 [aG,ak] "box_tuples" aw) (br 0 (cY (ae (aa 2) (ae (aa 3) (ae (aa 4) (ae (bL 1 ah "take_number" (aj (some 1::[none,none]) ba (ae (aa 1) (ae (aa 3) (ae (aa 4) am))))) am)))))))))))
def kX:GQ:=fun ds=>av 2 (oq (start 5 ds))
def fW:SQ:=(ai (bE (vI (di ah "insist" ao (ab 1) (af (ui (f2 bQ (ln (bd (ab 0))) (ck 0)) (di ak "has_room" bz (ab 0) ag)) ag))))
 (ai (bE (vI (di ah "insist" ao (ab 1) (af (f2 gLt (ln (bd (ab 0))) (ck 4)) ag))))
 (ai (cG 0 (kY 0 [aG,ak] "machine_names" aw) (b8 [.view 0,.lent 1] dD (takes [.view 0,.lent 1])))
 (cG 0 (kY 0 [ak] "room_lists" aw) (br 0 (bR am))))))
def dY:GQ:=fun ds=>av 2 (fW (start 2 ds))
@[simp] def IQ (δ:DS):=(br 0 (gS bO [none,none,none,none] d6 (ae (aa 2) (ae (aa 3) (ae (aa 4) (ae (aa 5) am)))))) δ
def mh:SQ:=(ai (bE (vI (di ah "insist" ao (ab 1) (af (g7 (f2 gGt (ln (bd (ab 0))) (ck 0)) (f1 Ij (di ak "has_door" bA (ab 0) ag))) ag))))
 (ai (bE (vI (di ah "insist" ao (ab 1) (af (f2 gLt (ln (f2 gIx (jj (ab 0)) (f1 fF (ck 1)))) (ck 6)) ag))))
 (ai (az 2 (bL 1 ah "take_name" (aj [some 1] bo (ae (aa 1) am))))
 (ai (bE (vI (di ah "insist" ao (ab 1) (af (f2 gZ (ab 2) (di ak "room_names" bV (ab 0) ag)) ag))))
 (ai (az 3 (aj [some 1] bP (ae (aa 1) am)))
 (ai (az 4 (bL 1 ah "takes" (aj (some 1::[none]) aL (ae (aa 1) (ae (vI (cs "hurry")) am)))))
 (ai (az 5 (pC (bL 1 ah "takes" (aj (some 1::[none]) aL (ae (aa 1) (ae (vI (cs "stay")) am)))) (b8 [.view 0,.lent 1] cr (cR 0 (ae (aa 1) am))) (bR am)))
 (ai (bE (vI (di ah "insist" ao (ab 1) (af (a9 xC (af (jr (aD (a6 (aa 5)) 1 [] (gN 0) (fun _=>some true) (vI (aU eE (af (ab 0) ag))))) ag)) ag))))
 (cG 0 (pIx 0 (f1 fF (ck 1)) (kY 0 [ak] "room_lists" aw)) IQ)))))))))
def jG:GQ:=fun ds=>av 2 (mh (start 6 ds))
@[simp] def N5 (δ:DS):=(bL 1 ah "takes" (aj (some 1::[none]) aL (ae (aa 1) (ae (vI (cs "do")) am)))) δ
def ml:SQ:=(ai (bE (vI (di ah "insist" ao (ab 1) (af (g7 (di ak "has_room" bz (ab 0) ag) (f2 gLt (ln (j5 (ab 0))) (ck 24))) ag))))
 (ai (az 2 (b8 [.view 0,.lent 1] eZ (cR 0 (ae (aa 1) am))))
 (ai (az 3 (b8 [.view 0,.lent 1] eZ (cR 0 (ae (aa 1) am))))
 (ai (az 4 (bL 1 ah "takes" (aj (some 1::[none]) aL (ae (aa 1) (ae (vI (cs "weather")) am)))))
 (ai (az 5 (aj [some 1] bN (ae (aa 1) am)))
 (ai (az 6 (aj [some 1] bP (ae (aa 1) am)))
 (ai (az 7 (pC (bL 1 ah "takes" (aj (some 1::[none]) aL (ae (aa 1) (ae (vI (cs "when")) am)))) (b8 [.view 0,.lent 1] cr (cR 0 (ae (aa 1) am))) (bR am)))
 (ai (az 8 (pC N5 bq0 (bR am)))
 (ai (az 9 (nz iH (af (ab 0) (af (ab 1) (af (ab 8) ag)))))
 (ai (az 10 (nz jF (af (ab 0) (af (ab 1) (af (ab 8) ag)))))
 (ai (az 11 (vI (f2 (gI0 fun i j=>.int (i-j)) (ln (bd (ab 0))) (ck 1))))
 (cG 0 (kY 0 [ak] "door_list" aw) (br 0 (gS bb [none,none,none,none,none,none,none,none,none] d8 (ae (aa 11) (ae (aa 2) (ae (aa 3) (ae (aa 4) (ae (aa 5) (ae (aa 6) (ae (aa 7) (ae (aa 9) (ae (aa 10) am)))))))))))))))))))))))
def jH:GQ:=fun ds=>av 2 (ml (start 12 ds))
@[simp] def bq2 (δ:DS):=(ae (aa 0) (ae (vI (f2 aN (f2 gIx (ab 1) (ck 4)) (ck 1))) am)) δ
@[simp] def bq5 (δ:DS):=(rW (cY (ae (vI (f2 gIx (ab 0) (ck 0))) am)) (rH (aa 1) (faS (ck 1)) faN)) δ
@[simp] def BD (δ:DS):=(aj [some 0,none] aI (ae (aa 0) (ae (vI (f2 aN (f2 gIx (ab 1) (ck 0)) (ck 1))) am))) δ
@[simp] def BC (δ:DS):=(aj [some 0,none] aI (ae (aa 0) (ae (vI (f2 aN (f2 gIx (ab 1) (ck 1)) (ck 1))) am))) δ
@[simp] def wx (δ:DS):=(bY aN (vk 1) (aj [some 0,none] aI (ae (aa 0) (ae (vI (f2 gIx (ab 1) (ck 3))) am)))) δ
@[simp] def BB (δ:DS):=(bY aN (vk 1) (aj [some 0,none] aI (ae (aa 0) (ae (vI (f2 gIx (ab 1) (ck 2))) am)))) δ
@[simp] def uE (δ:DS):=(dG wx) δ
@[simp] def Ms (δ:DS):=(az 8 (bY (gI0 fun i j=>.int (i-j)) (tk 41) (vk 20))) δ
@[simp] def qY (δ:DS):=(aj [some 2,some 1,none,none] iK (ae (aa 2) (ae (aa 1) (ae (aa 4) (ae (vI (f2 gIx (ab 3) (ck 5))) am))))) δ
@[simp] def ww (δ:DS):=(b8 [.lent 2,.val,.val,.view 1,.val,.view 6] iL (ae (aa 2) (ae (aa 3) (ae (aa 5) (cR 1 (ae (vI (f2 gIx (ab 4) (ck 5))) (cR 6 am))))))) δ
@[simp] def nc (δ:DS):=(az 12 (aD (zR (ja (wAt 6 (pIx 6 (ck 0) aw)) (ck 1)) (aa 12)) 2 [] (jR [0,1]) (fun _=>some true) bq5)) δ
@[simp] def m9 (δ:DS):=(ot (fT (f2 gGt (ab 5) (ck 0))) (ot (fT (f2 gLe (ln (ab 12)) (ln (f2 gIx (f2 gIx (ab 6) (ck 0)) (ck 1))))) (bY bQ (tk 3) (vk 1)))) δ
@[simp] def x6 (δ:DS):=(br 6 (cY (ae (aa 10) (ae (aa 12) (ae (zS (aD (dG (aa 13)) 1 [4,0,12,1,3,7] (gN 0) (fun _=>some true) ww)) am))))) δ
@[simp] def wt (δ:DS):=(aD uE 1 [11,0,1,3] (gN 0) (fun _=>some true) qY) δ
@[simp] def Bw (δ:DS):=(cG 6 aw x6) δ
@[simp] def Mo (δ:DS):=(ai (az 9 (bY aN (aa 8) (aj [some 0,none] aI (ae (aa 0) (ae (vI (a9 EI (af (f2 (gI0 fun i j=>.int (i-j)) (ck 21) (ab 8)) (af (f2 gIx (gl (af (ck 3) (af (ck 41) ag))) (a9 sU (af (f2 gGt (f2 gIx (ab 1) (ck 5)) (ck 9)) ag))) ag)))) am)))))
 (cG 4 aw (br 4 (cY (ae (aj [some 0,some 2] bF (ae (aa 0) (ae (aa 2) am))) (ae (aa 8) (ae (aa 9) (ae (bY aN (aa 8) (aj [some 0,none] aI (ae (aa 0) (ae (vI (f2 aN (f2 (gI0 fun i j=>.int (i-j)) (ab 9) (ab 8)) (ck 1))) am)))) am)))))))) δ
@[simp] def wq (δ:DS):=(ai (az 10 (aj [some 0,some 2] bF (ae (aa 0) (ae (aa 2) am))))
 (ai (eL 11 (bR am))
 (ai (az 12 wt)
 (ai (lJ m9 nc bw)
 (ai (az 13 (aj [some 0,none] aI bq2))
 Bw))))) δ
def mq:SQ:=(ai (eL 2 (bR am))
 (ai (az 3 (aD (dG BD) 1 [0,2] (gN 0) (fun _=>some true) (aj [some 1,some 2] bF (ae (aa 1) (ae (aa 2) am)))))
 (ai (eL 4 (bR am))
 (ai (f8 (dG BC) (gN 5) (ai Ms
 Mo))
 (ai (eL 6 (bR am))
 (ai (eL 7 (bR am))
 (ai (f8 (dG (vk 3)) (gN 5) (bE (aj [some 0,some 7] bF (ae (aa 0) (ae (aa 7) am)))))
 (ai (f8 (dG BB) (gN 5) wq)
 (aW (cY (ae (aa 3) (ae (aa 4) (ae (aa 6) am)))))))))))))
def jI:GQ:=fun ds=>av 2 (mq (start 14 ds))
@[simp] def Mn (δ:DS):=(qIf (fT (f2 bQ (ab 2) (cs "watch"))) (bE (aj [some 0,some 1] iJ (ae (aa 0) (ae (aa 1) am)))) (qIf (fT (f2 bQ (ab 2) (cs "box"))) (bE (aj [some 0,some 1] kX (ae (aa 0) (ae (aa 1) am)))) (qIf (fT (f2 bQ (ab 2) (cs "machine"))) (bE (aj [some 0,some 1] dY (ae (aa 0) (ae (aa 1) am)))) (qIf (fT (f2 bQ (ab 2) (cs "room"))) (bE (aj [some 0,some 1] jG (ae (aa 0) (ae (aa 1) am)))) (ai (bE (vI (di ah "insist" ao (ab 1) (af (f2 bQ (ab 2) (cs "door")) ag))))
 (bE (aj [some 0,some 1] jH (ae (aa 0) (ae (aa 1) am))))))))) δ
def ol:SQ:=(ai (az 2 (bL 1 ah "take" (aj [some 1] bp (ae (aa 1) am))))
 (ai Mn
 (bE (vI (di ah "finish" fu (ab 1) ag)))))
def i7:GQ:=fun ds=>av 2 (ol (start 3 ds))
@[simp] def bq4 (δ:DS):=(ae (vI (f2 aN (aU eK (af (ab 0) (af (ck 0) ag))) (ab 1))) am) δ
def jC:SQ:=(aW (aj [none,none] jI (ae (aj [none] fg (ae (vI (aU eK (af (ab 0) (af (ab 1) ag)))) am)) (ae (aj [none] dE bq4) am))))
def cQ:GQ:=fun ds=>av 2 (jC (start 2 ds))
@[simp] def IM (δ:DS):=(bE (aj [some 2,none] i7 (ae (aa 2) (ae (gS ah [none,none] dN (ae (aa 3) (ae (lG (ab 4) (af (cs " ") ag)) am))) am)))) δ
@[simp] def Bx (δ:DS):=(ae (aa 0) (ae (fY [aG,ak] "watch_names" (jb 2)) (ae (fY [aG,ak] "box_tuples" (jb 2)) (ae (fY [aG,ak] "machine_names" (jb 2)) (ae (fY [ak] "room_lists" (jb 2)) (ae (fY [ak] "door_list" (jb 2)) am)))))) δ
def md:SQ:=(ai (qIf (fG (fT (a9 (rL "str" qx) (af (ab 0) (af (fC (.ty "str")) ag))))) pX bw)
 (ai (az 1 (lG (ab 0) (af (cs "\n") ag)))
 (ai (eL 2 (gS ak [] cK am))
 (ai (f8 (nv (vSl (ab 1) faN (faS (f1 fF (ck 1))))) (jR [3,4]) IM)
 (ai (qIf (iX (fT (f2 d9 (f2 gIx (ab 1) (f1 fF (ck 1))) (cs ""))) (fG (fT (di ak "has_room" bz (ab 2) ag)))) pX bw)
 (aW (gS aG [none,none,none,none,none,none] dF Bx)))))))
def cy:GQ:=fun ds=>av 1 (md (start 5 ds))
@[simp] def bq6 (δ:DS):=(af (aU cy (af (aU ff (af (f2 gIx (ab 3) (ab 5)) ag)) ag)) ag) δ
@[simp] def IP (δ:DS):=(fG (fT (aU gM (af (f2 gIx (ab 3) (ab 5)) (af (f2 gIx (ab 1) (ab 5)) (af (f2 gIx (ab 2) (ab 5)) ag)))))) δ
@[simp] def Bz (δ:DS):=(fT (f2 d9 (aU ff bq6) (f2 gIx (ab 2) (ab 5)))) δ
def JM:SQ:=(ai (az 1 (bR (ae (aj [none,none] cQ (ae (aa 0) (ae (vk 1) am))) (ae (aj [none,none] cQ (ae (aa 0) (ae (vk 2) am))) am))))
 (ai (az 2 (aD (a6 (aa 1)) 1 [] (gN 0) (fun _=>some true) (vI (aU eI (af (ab 0) ag)))))
 (ai (az 3 (aD (a6 (aa 2)) 1 [] (gN 0) (fun _=>some true) (aj [none] cy (ae (aa 0) am))))
 (ai (f8 (dG (vk 2)) (gN 4) (f8 (dG (vk 2)) (gN 5) (qIf IP (aW (vI (fC (.bl false)))) bw)))
 (ai (f8 (dG (vk 2)) (gN 5) (qIf Bz (aW (vI (fC (.bl false)))) bw))
 (aW (vI (fC (.bl true)))))))))
end
end Mine
namespace Mine
open PySem Dl Tx
variable {a b e:D} {c:Str×Str×Int} {f:Yg D} {l ws W M B:Yh Str} {k:String} {r i lo hi z0 z1:Int} {p:Nat} {w:Yg (Str×Str)} {x s:Str} {acc:Yh D} {cs ds:Yh (Str×Str×Int)} {δ:DS} {src:FMA}
noncomputable abbrev WN:List Str:=["row","words","place"]
abbrev Wo(r:Int)(ws:List Str)(p:Nat):D:=.oo ah WN [.int r,.lst (ws.map D.str),.int p]
def mw {c}:lkF "words" WN [a,b,c]=some b:=by unfold lkF;rw[show cB "words" WN=some 1 by decide +kernel];rfl
def mB {c}:lkF "place" WN [a,b,c]=some c:=by unfold lkF;rw[show cB "place" WN=some 2 by decide +kernel];rfl
def Ja:fJ "place" WN=WN:=by decide +kernel
def C9{α:Type}{f}{d}{xs}{l:Yh α}{k}(h:cB f xs=some k)(m:xs.length=l.length):putD f d xs l=l.set k d:=by
 induction xs generalizing l k with
 |nil=>cases h
 | cons g r p =>
  cases l with
  |nil=>cases m
  |cons e es =>
   unfold cB at h;unfold putD
   by_cases o:g=f
   . rw[if_pos o]at h ⊢;cases h;rfl
   . rw[if_neg o]at h ⊢;obtain⟨j,q,rfl⟩:=Zb.mp h;rw[p q (Nat.succ.inj m)];rfl
def BR {c d:D}:putD "place" d WN [a,b,c]=[a,b,d]:=C9 (k:=2) (by decide +kernel) rfl
def bK:cB "insist" WN=none:=by decide +kernel
def bq(d):ao [d,.bl true]=some (.non,[some d,some (.bl true)]):=by simp[ao,ig,Dl.start,av,ab]
theorem mD{w}(h:ws[p]?=some w):bp [Wo r ws p]=some (.str w,[some (Wo r ws (p+1))]):=by
 have f:((p:Int)<(ws.length:Int))=True:=eq_true (by have:=(ZL.mp h).1;lia)
 simp only[bp,jE,Dl.start,av,aE,aX,cA,fN,e_C,bT,bS,bu,bM,bU,ab,gp,iY,g9,oN,bZ,aw,atP,cL,j9,hU,da,oO,sh,shs,imm,Zc,Zv,Zw,Zk,Zn,Zo,Zm,Ze,Zg,ZP,ZS,ZQ,Nat.sub_self,Nat.reduceAdd,Nat.reduceLeDiff,Z8,Bool.and_self,Zu,ZI,or_false,and_self,decide_true,mB,mw,bK,bq,f,Ja,BR,Int.add_sub_cancel,E7 h];rfl
theorem gT{w}(h:ws[p]?≠some w)(m:p<=ws.length):aL [Wo r ws p,.str w]=some (.bl false,[some (Wo r ws p),some (.str w)]):=by
 by_cases e:p=ws.length
 . subst e;simp[aL,dX,Dl.start,av,ab,imm,mB,mw,ZA]
 . have f:p < ws.length:=by lia
   have h2:=Zy f;have l:((p:Int)==(ws.length:Int))=false:=by simp;lia
   have j:(ws[p]==w)=false:=by rw[h2]at h;simpa using h
   simp[aL,dX,Dl.start,av,ab,imm,mB,mw,l,E7 h2,j]
def gP{w:Str}(h:ws[p]?=some w):aL [Wo r ws p,.str w]=some (.bl true,[some (Wo r ws (p+1)),some (.str w)]):=by
 have j:=(ZL.mp h).1;have f:((p:Int)==(ws.length:Int))=false:=by simp;omega
 simp only[aL,dX,Dl.start,av,aE,aX,iw,gn,iZ,cA,sX,qI,f9,dB,e_C,bT,bS,bu,bM,bU,ab,g9,oN,bZ,aw,atP,cL,j9,lE,v9,hU,oO,imm,Zc,Zv,Zw,Zk,Zn,Zo,Zm,Ze,Zf,Zg,ZP,ZS,ZQ,Nat.sub_self,Nat.reduceAdd,Nat.reduceLeDiff,Z8,Bool.not_true,Bool.and_self,Zu,ZI,or_false,and_self,mB,mw,f,E7 h,ZA,Ja,BR];rfl
def Bj:fu [.ob ah WN [.int r,.seq (ws.map D.str),.int (ws.length:Nat)]]=some (.non,[some (.ob ah WN [.int r,.seq (ws.map D.str),.int (ws.length:Nat)])]):=by simp[fu,ii,Dl.start,av,ab,sh,shs,imm,mB,mw,bK,bq,ZA]
def aJ(w:Str):Prop:=1<=w.length/\w.length<=8/\∀c∈w.cps.toList,97<=c/\c<=122
def sz{n}(h:n<=100000):n<=sizeLine:=ZZ h (by decide)
def xp {c} (h:97<=c/\c<=122):c∈(Str.ofString "abcdefghijklmnopqrstuvwxyz").cps.toList:=by
 have:∀k:Fin 26,(97+k.val)∈(Str.ofString "abcdefghijklmnopqrstuvwxyz").cps.toList:=by decide +kernel
 have e:=this ⟨c-97,by omega⟩
 have f:97+(c-97)=c:=by omega
 rw[<- f];exact e
def Bn {c} (h:48<=c/\c<=57):c∈(Str.ofString "0123456789").cps.toList:=by
 have:∀k:Fin 10,(48+k.val)∈(Str.ofString "0123456789").cps.toList:=by decide +kernel
 have e:=this ⟨c-48,by omega⟩
 have f:48+(c-48)=c:=by omega
 rw[<- f];exact e
def jw{α:Type}{p}{l:Yh α}(h:∀x∈l,p x=true):(l.map p).all id=true:=by rw[List.all_eq_true];intro b j;obtain⟨x,f,rfl⟩:=Zs.mp j;exact h x f
theorem xq{w:Str}(h:aJ w):kW [.str w]=some (.bl true,[some (.str w)]):=by
 obtain⟨h1,h2,m⟩:=h;have c:=uZ (y:="abcdefghijklmnopqrstuvwxyz") (by lia) [some (.str w)] (src:=i9 (ab 0)) rfl
 have a:=jw fun c l=>decide_eq_true (xp (m c l))
 have j:(1<=(w.length:Int))=True:=eq_true (by lia)
 have f:((w.length:Int)<=8)=True:=eq_true (by lia)
 simp only[kW,oj,Dl.start,av,cA,ka,iB,e_C,bS,bu,bM,bU,ab,sh,imm,Zc,Zd,Zv,Zw,Zk,Zn,Zo,Ze,ZP,ZS,ZQ,Nat.sub_self,Nat.reduceAdd,Z8,Bool.and_true,and_true,decide_true,fU,asN,uo (sz (by lia:w.length<=100000)),lD,shO,c,E8,a,j,f]
def yz:Str.ofString "-" = ⟨#[45]⟩:=by decide +kernel
def JZ:Str.ofString "0" = ⟨#[48]⟩:=by decide +kernel
def yA:Str.ofString "," = ⟨#[44]⟩:=by decide +kernel
def fS:Str.ofString " " = ⟨#[32]⟩:=by decide +kernel
def J0:Str.ofString "\n" = ⟨#[10]⟩:=by decide +kernel
theorem kK(f:i.natAbs<10^31)(h1:lo<=i)(h2:i<=hi):dC [.str (num i),.int lo,.int hi]=some (.int i,[some (.str (num i)),some (.int lo),some (.int hi)]):=by
 have U:=kL f;have J:=xT 30 _ f;have I:=Fc i.natAbs;have H:sU [.str (num i)]=some (.int i):=by
  show(vW [.str (num i)])=_;unfold vW;simp only;rw[if_pos (by lia),AO f (by decide)]
  rfl
 have j:=nR i;have s:∃z:Str,z.cps.toList=dg i.natAbs/\pD (fT (fMt ir (ab 0) (af (fC (.str "-")) ag))) (vI (uh (ab 0) (faS (fC (.int 1))) faN)) (aa 0) [some (.str (num i)),some (.int lo),some (.int hi),none,none]=some (.str z,[some (.str (num i)),some (.int lo),some (.int hi),none,none]):=by
  by_cases u:i<0
  . rw [if_pos u] at j;have q:Txt.startswith (num i) (Str.ofString "-")=true:=by rw [yz,lH,j];rfl
    have t:1<=(num i).length:=by rw[fK,j];simp
    refine⟨gq (num i) (some 1) none,by rw[wg t,j];rfl,?_⟩
    have cl:(gq (num i) (some 1) none).length<=sizeLine:=sz (by rw[fK,wg t,List.length_drop,<- fK];lia)
    simp[ab,imm,qH,q,EY,faS,faN,asI,cl]
  . rw [if_neg u,Zj] at j;have q:Txt.startswith (num i) (Str.ofString "-")=false:=by
     rw[yz,lH,j];rcases uu i.natAbs with⟨_,e⟩|⟨c,r,e,o,_⟩
     . rw[e];rfl
     . rw[e];show(some c==some 45)=false;simp;lia
    exact⟨num i,j,by simp[ab,aa,noo,qH,q]⟩
 obtain⟨z,m,e⟩:=s;have S:z.length=(dg i.natAbs).length:=by rw[fK,m]
 have L:=uZ (x:=z) (y:="0123456789") (by lia) [some (.str (num i)),some (.int lo),some (.int hi),some (.str z),none] (src:=i9 (ab 3)) rfl
 have a:=jw (p:=fun c=>decide (c∈(Str.ofString "0123456789").cps.toList)) (l:=z.cps.toList) fun c v=>decide_eq_true (Bn (by rw[m]at v;exact kP _ c v))
 have C:(1<=(z.length:Int))=True:=eq_true (by lia)
 have B:((z.length:Int)<=31)=True:=eq_true (by lia)
 have Q:(lo<=i)=True:=eq_true h1;have O:(i<=hi)=True:=eq_true h2;have z0:(Txt.startswith z (Str.ofString "0") && !(num i==Str.ofString "0"))=false:=by
  rw[JZ,lH,m];rcases uu i.natAbs with⟨h0,e⟩|⟨c,r,e,o,_⟩
  . have D:i=0:=by lia
    subst D;rw[show(num 0==(⟨#[48]⟩:Str))=true by decide +kernel];simp
  . rw [e];have:(some c == some 48)=false:=by simp;lia
    show((some c==some 48)&&_)=false;rw[this];rfl
 have z1:j6 (fT (fMt ir (ab 3) (af (fC (.str "0")) ag))) (fT (f2 d9 (ab 0) (fC (.str "0")))) [some (.str (num i)),some (.int lo),some (.int hi),some (.str z),none]=some false:=by
  simp[ab,qH];cases G:Txt.startswith z (Str.ofString "0")with
  |false=>rfl
  |true =>rw[G,Bool.true_and]at z0;simp[ab,z0]
 simp only[dC,kh,Dl.start,av,Zv,Zw,Zi,Zj,Zn,Zo,ZV,ZQ,Nat.reduceSub,Nat.reduceAdd,aE,bg,e,Zc,aX,gn,z1,Dl.start,av,aE,aX,iw,gn,iZ,bg,cA,NX,L8,sX,qI,f9,dB,lX,e_C,bS,bu,bM,bU,ab,aa,sh,noo,imm,Zc,Zd,Option.map_none,Zv,Zw,Zi,Zj,Zn,Zo,Ze,Zf,Zg,Zh,ZP,ZS,ZV,ZQ,Nat.reduceSub,Nat.reduceAdd,Z8,Bool.not_true,Bool.and_true,and_true,decide_true,fU,asN,uo (sz (by lia:z.length<=100000)),lD,shO,L,E8,a,C,B,H,Q,O]
end Mine
namespace Dl
open PySem PySem.Spec PyProof.Rows L2
variable {i n j k:Nat} {x y m z:Str} {P:Program} {w:World} {s:Yd} {l a e b c:Expr} {B:Yh Ye} {h':Heap} {f:FD} {ds:Yh D} {δ δ1:DS} {p:Pos} {r:Yh V->Hp->VK->Prop} {C:Ye} {es:Yh Expr} {lo hi:Yg Expr} {cl:Yh (Str×Ye)} {js:Yh Nat} {ws:Yh Str} {R:Result->Yd->Prop} {fc:FT} {src:FMA} {felt:FM}
def zy{c}{s}{δ'}(h1:c δ=some true)(h2:s δ=some (.nx δ')):eO (n+1) c s δ=eO n c s δ':=by simp only[eO,h1,h2,Zc,Z8]
def Ip{c}{s}(h1:c δ=some false):eO (n+1) c s δ=some (.nx δ):=by simp[eO,h1]
end Dl
namespace Mine
open PySem Dl Tx
variable {a b e:D} {c:Str×Str×Int} {f:Yg D} {l ws W M B:Yh Str} {k:String} {r i lo hi z0 z1:Int} {p:Nat} {w:Yg (Str×Str)} {x s:Str} {acc:Yh D} {cs ds:Yh (Str×Str×Int)} {δ:DS} {src:FMA}
def nu:cB "take" WN=none:=by decide +kernel
def io:cB "take_name" WN=none:=by decide +kernel
def lg:cB "take_number" WN=none:=by decide +kernel
def lf:cB "take_threes" WN=none:=by decide +kernel
def eM:cB "takes" WN=none:=by decide +kernel
def BU:cB "finish" WN=none:=by decide +kernel
def df{α:Type}{ws l:Yh α}{w}(h:ws.drop p=w::l):ws[p]?=some w:=by have:=congrArg List.head? h;rw[List.head?_drop]at this;exact this
def db{α:Type}{ws l:Yh α}{w}(h:ws.drop p=w::l):ws.drop (p+1)=l:=by rw[<- List.drop_drop,h];rfl
def kE{w:Str}(h:ws.drop p=w::l):bp [Wo r ws p]=some (.str w,[some (Wo r ws (p+1))]):=mD (df h)
def gE{w}(h:ws[p]?=some w)(n:aJ w):bo [Wo r ws p]=some (.str w,[some (Wo r ws (p+1))]):=by simp[bo,eX,Dl.start,av,ab,aa,bL,sh,shs,noo,imm,ZV,nu,bK,mD h,xq n,bq]
def eN(h:ws[p]?=some (num i))(f:i.natAbs<10^31)(h1:lo<=i)(h2:i<=hi):ba [Wo r ws p,.int lo,.int hi]=some (.int i,[some (Wo r ws (p+1)),some (.int lo),some (.int hi)]):=by simp[ba,dS,Dl.start,av,ab,aa,bL,gC,sh,shs,noo,imm,ZV,nu,bK,mD h,kK f h1 h2,bq]
noncomputable def tw:List (Str×Str×Str)->List Str
 |[]=>[]
 |[c]=>[c.1,c.2.1,c.2.2]
 |c::d::r=>c.1::c.2.1::(c.2.2++(⟨#[44]⟩:Str))::tw (d::r)
noncomputable abbrev thD(c:Str×Str×Str):D:=.lst [.str c.1,.str c.2.1,.str c.2.2]
def xH:Txt.endswith (x++(⟨#[44]⟩:Str)) (Str.ofString ",")=true:=by rw[yA,v5,b9];simp
def Bl (h:Fr 44 x):Txt.endswith x (Str.ofString ",")=false:=by
 rw[yA,v5];cases q:x.cps.toList.getLast? with
 |none=>rfl
 |some c =>
  have f:=List.mem_of_getLast? q;have:c≠44:=fun e=>h (e▸f)
  simp[this]
abbrev thB:SQ:=Mp
def at3{c}:L2.atI [a,b,c] 2=some c:=rfl
def OJ:L2.ixN 3 2=some 2:=rfl
theorem Ga{a b c:Str}(h:ws.drop p=a::b::(c++(⟨#[44]⟩:Str))::l)(j:c.length<=1000)(f:acc.length<=999) :
 thB [some (Wo r ws p),some (.lst acc),some (.bl true),none]=some (.nx [some (Wo r ws (p+3)),some (.lst (acc++[thD (a,b,c)])),some (.bl true),none]):=by
 have h1:=db h;have h2:=db h1;have cl:(c.length<=sizeLine)=True:=eq_true (sz (by lia))
 simp[ab,aa,bL,tU,cG,aw,atP,cL,sh,noo,imm,nu,kE h,kE h1,kE h2,at3,E6,xH,EY,faS,faN,asI,fF,Bp,cl,br,f,OJ]
def Gb{a b c:Str}(h:ws.drop p=a::b::c::l)(j:Fr 44 c)(f:acc.length<=999) :
 thB [some (Wo r ws p),some (.lst acc),some (.bl true),none]=some (.nx [some (Wo r ws (p+3)),some (.lst (acc++[thD (a,b,c)])),some (.bl false),none]):=by
 have h1:=db h;have h2:=db h1;simp[ab,aa,bL,cG,aw,atP,cL,sh,noo,imm,nu,kE h,kE h1,kE h2,at3,E6,Bl j,br,f]
theorem yq:∀{cs:Yh (Str×Str×Str)}{p n}{acc},cs≠[]->ws.drop p=tw cs++l->(∀c∈cs,Fr 44 c.2.2/\c.2.2.length<=1000)->acc.length+cs.length<=1000->cs.length<n->eO n (fT (ab 2)) thB [some (Wo r ws p),some (.lst acc),some (.bl true),none]=some (.nx [some (Wo r ws (p+3*cs.length)),some (.lst (acc++cs.map thD)),some (.bl false),none])
 |[],_,_,_,h,_,_,_,_=>absurd rfl h
 |[c],p,n,acc,_,h,hc,hl,hn=>by
  obtain⟨m,rfl⟩:∃m,n=m+2:=⟨n-2,by simp at hn;lia⟩
  rw[zy rfl (Gb (by simpa[tw]using h) (hc c (by simp)).1 (by simp at hl;lia)),Ip rfl]
  rfl
 |c::d::cs,p,n,acc,_,h,hc,hl,hn=>by
  obtain⟨m,rfl⟩:∃m,n=m+1:=⟨n-1,by simp at hn;lia⟩
  have h':=h;rw[zy rfl (Ga h' (hc c (by simp)).2 (by simp at hl;lia)),yq (by simp) (by rw[show p+3=p+1+1+1 from rfl];exact db (db (db h'))) (fun x m=>hc x (Zq _ m)) (by simp at hl ⊢;lia) (by simp at hn ⊢;lia)]
  simp only[Mp,Zn,Zv,ZW,List.singleton_append,Zi,Zj];rw[show p+3+3*(cs.length+1)=p+3*(cs.length+1+1) by lia]
theorem jT{cs}(h0:cs≠[])(h:ws.drop p=tw cs++l)(f:∀c∈cs,Fr 44 c.2.2/\c.2.2.length<=1000)(j:cs.length<=900):cF [Wo r ws p]=some (.lst (cs.map thD),[some (Wo r ws (p+3*cs.length))]):=by
 have e:=yq (r:=r) (n:=1000) (acc:=[]) h0 h f (by simp;lia) (by lia)
 simp[cF,dR,Dl.start,av,sh,imm,ZV];rw[show eO 1000 (fT (ab 2)) _ _=_ from e]
 simp[aa,noo]
structure be where
 name:Str
 price:Int
 hurry:Bool
 stays:List (Str×Str×Int)
structure bt where
 start:Str
 goal:Str
 weather:Bool
 word:Option (Str×Str)
 price:Int
 conds:List (Str×Str×Int)
 deeds:List (Str×Str×Int)
structure ic where
 name:Str
 rooms:List be
 doors:List bt
noncomputable abbrev bD:=Str×Int×Int×Int
structure kf where
 watches:List Str
 boxes:List bD
 machines:List ic
noncomputable abbrev CN:List Str:=["number","sign","against"]
noncomputable abbrev RN:List Str:=["name","price","hurry","stays"]
noncomputable abbrev ON:List Str:=["machine","start","goal","weather","word","price","conds","resets","deeds"]
noncomputable abbrev DN:List Str:=["watch_names","box_tuples","machine_names","room_lists","door_list"]
noncomputable abbrev aq(b:bD):D:=.tup [.str b.1,.int b.2.1,.int b.2.2.1,.int b.2.2.2]
noncomputable abbrev bnm(bs:List bD):List Str:=bs.map (·.1)
noncomputable def jQ(l:List Str)(x:Str):Nat:=(l.findIdx? fun i=>i==x).getD 0
def cM(W:List Str)(bs:List bD)(c:Str×Str×Int):D:=if c.1∈W then .ob aC CN [.int (jQ W c.1),.str c.2.1,.int c.2.2]else .ob a5 CN [.int (jQ (bnm bs) c.1),.str c.2.1,.int c.2.2]
def gb(W:List Str)(bs:List bD)(c:Str×Str×Int):D:=if c.1∈W then .oo aC CN [.int (jQ W c.1),.str c.2.1,.int c.2.2]else .oo a5 CN [.int (jQ (bnm bs) c.1),.str c.2.1,.int c.2.2]
noncomputable def bJ:Option (Str×Str)->D
 |none=>.non
 |some w=>.tup [.str w.1,.str w.2]
def rsN(W:List Str)(ds:List (Str×Str×Int)):List Nat:=(ds.filter fun c=>decide (c.1∈W)).map fun c=>jQ W c.1
def iC(W:List Str)(bs:List bD)(ds:List (Str×Str×Int)):List D:=(ds.filter fun c=>decide (c.1∉W)).map fun c=>.tup [.int (jQ (bnm bs) c.1),.str c.2.1,.int c.2.2]
def bG(W:List Str)(bs:List bD)(r:be):D:=.ob bO RN [.str r.name,.int r.price,.bl r.hurry,.seq (r.stays.map (cM W bs))]
def gU(W:List Str)(bs:List bD)(r:be):D:=.oo bO RN [.str r.name,.int r.price,.bl r.hurry,.seq (r.stays.map (cM W bs))]
abbrev dfs(W:List Str)(bs:List bD)(x:Nat×bt):List D:=[.int x.1,.str x.2.start,.str x.2.goal,.bl x.2.weather,bJ x.2.word,.int x.2.price,.seq (x.2.conds.map (cM W bs)),.seq (wO (rsN W x.2.deeds)),.seq (iC W bs x.2.deeds)]
def bB(W:List Str)(bs:List bD)(x:Nat×bt):D:=.ob bb ON (dfs W bs x)
def tf(W:List Str)(bs:List bD)(x:Nat×bt):D:=.oo bb ON (dfs W bs x)
abbrev Do(W:List Str)(bs:List bD)(M:List Str)(R:List (List be))(P:List (Nat×bt)):D:=.oo ak DN [.lst (W.map D.str),.lst (bs.map aq),.lst (M.map D.str),.lst (R.map fun l=>.lst (l.map (gU W bs))),.lst (P.map (tf W bs))]
abbrev Db(W:List Str)(bs:List bD)(M:List Str)(R:List (List be))(P:List (Nat×bt)):D:=.ob ak DN [.seq (W.map D.str),.seq (bs.map aq),.seq (M.map D.str),.seq (R.map fun l=>.seq (l.map (bG W bs))),.seq (P.map (bB W bs))]
section
variable {W M:Yh Str} {bs:Yh bD} {R:Yh (Yh be)} {P:Yh (Nat×bt)}
def cj{α:Type}{f g}(h:∀x,sh (f x)=g x)(l:Yh α):shs (l.map f)=l.map g:=by rw[o8,List.map_map];exact List.map_congr_left fun x _=>h x
def uF(b:bD):sh (aq b)=aq b:=by simp only[sh,shs]
def aO:shs (bs.map aq)=bs.map aq:=cj uF bs
def Iz(c:Str×Str×Int):sh (gb W bs c)=cM W bs c:=by unfold gb cM;split<;>simp only[sh,shs]
def qR(c:Str×Str×Int):sh (cM W bs c)=cM W bs c:=by unfold cM;split<;>simp only[sh,shs]
def gQ(l:Yh (Str×Str×Int)):shs (l.map (cM W bs))=l.map (cM W bs):=cj qR l
def qQ(l:Yh (Str×Str×Int)):shs (l.map (gb W bs))=l.map (cM W bs):=cj Iz l
def Gz(r):sh (gU W bs r)=bG W bs r:=by simp only[gU,bG,sh,shs,gQ]
def mI(r):sh (bG W bs r)=bG W bs r:=by simp only[bG,sh,shs,gQ]
def kC(w:Yg (Str×Str)):sh (bJ w)=bJ w:=by cases w<;>simp only[bJ,sh,shs]
theorem qy:∀(l:Yh Int),shs (l.map D.int)=l.map D.int
 |[]=>rfl
 |i::l=>by rw[Zv,shs,qy l];rfl
def tN(l:Yh Nat):shs (wO l)=wO l:=cj (fun _=>rfl) _
def oe(l:Yh (Str×Str×Int)):shs (iC W bs l)=iC W bs l:=cj (fun x=>by simp only[sh,shs]) _
def Iw(x:Nat×bt):sh (tf W bs x)=bB W bs x:=by simp only[tf,bB,sh,shs,gQ,kC,tN,oe]
def qM(x:Nat×bt):sh (bB W bs x)=bB W bs x:=by simp only[bB,sh,shs,gQ,kC,tN,oe]
def M4(l:Yh be):sh (.lst (l.map (gU W bs)))=.seq (l.map (bG W bs)):=by rw[sh,cj Gz]
def Cz(l:Yh be):sh (.seq (l.map (bG W bs)))=.seq (l.map (bG W bs)):=by rw[sh,cj mI]
def lI(l:Yh be):shs (l.map (bG W bs))=l.map (bG W bs):=cj mI l
def je:shs (R.map fun l=>.lst (l.map (gU W bs)))=R.map fun l=>.seq (l.map (bG W bs)):=cj M4 R
def gW:shs (R.map fun l=>.seq (l.map (bG W bs)))=R.map fun l=>.seq (l.map (bG W bs)):=cj Cz R
def fO:shs (P.map (tf W bs))=P.map (bB W bs):=cj Iw P
def cP:shs (P.map (bB W bs))=P.map (bB W bs):=cj qM P
def iq{f}{xs}{ds}{k}(h:cB f xs=some k):lkF f xs ds=ds[k]?:=by unfold lkF;rw[h];rfl
def gJ {c d}:lkF "watch_names" DN [a,b,c,d,e]=some a:=iq (k:=0) (by decide +kernel)
def zI {c d}:lkF "box_tuples" DN [a,b,c,d,e]=some b:=iq (k:=1) (by decide +kernel)
def jt {c d}:lkF "machine_names" DN [a,b,c,d,e]=some c:=iq (k:=2) (by decide +kernel)
def pr {c d:D}:lkF "room_lists" DN [a,b,c,d,e]=some d:=iq (k:=3) (by decide +kernel)
def pv {c d}:lkF "door_list" DN [a,b,c,d,e]=some e:=iq (k:=4) (by decide +kernel)
def Fa:cB "watch_names" DN=some 0:=by decide +kernel
def Me:cB "box_tuples" DN=some 1:=by decide +kernel
def zG:cB "machine_names" DN=some 2:=by decide +kernel
def qN:cB "room_lists" DN=some 3:=by decide +kernel
def Fb:cB "door_list" DN=some 4:=by decide +kernel
def xS:cB "box_names" DN=none:=by decide +kernel
def zF:cB "room_names" DN=none:=by decide +kernel
def ut:cB "has_room" DN=none:=by decide +kernel
def Iy:cB "has_door" DN=none:=by decide +kernel
def nQ {c d f g h i}:lkF "machine" ON [a,b,c,d,e,f,g,h,i]=some a:=iq (k:=0) (by decide +kernel)
def qm {c d f g h i}:lkF "word" ON [a,b,c,d,e,f,g,h,i]=some e:=iq (k:=4) (by decide +kernel)
def CC {c d}:lkF "name" RN [a,b,c,d]=some a:=iq (k:=0) (by decide +kernel)
def Ft {c}:lkF "sign" CN [a,b,c]=some b:=iq (k:=1) (by decide +kernel)
def Bv {c}:lkF "against" CN [a,b,c]=some c:=iq (k:=2) (by decide +kernel)
theorem jv(h:bs.length<=900):bH [Db W bs M R P]=some (.lst ((bnm bs).map D.str),[some (Db W bs M R P)]):=by
 have e:=cq (js:=[]) (δ:=[some (Db W bs M R P)]) (δc:=[some (Db W bs M R P)]) (src:=a6 (fY [aG,ak] "box_tuples" (aa 0))) (n:=1) (g:=gN 0) (fc:=fun _=>some true) (felt:=vI (f2 gIx (ab 0) (fC (.int 0)))) (ds:=bs.map aq) (xs:=(bs.map aq).map fun d=>match d with|.tup (x::_)=>x|_=>.non) (ιe:=[none]) (by
  simp[a6,fY,aa,sh,noo,zI,aO]) rfl (dW fun d f=>by
  obtain⟨b,_,rfl⟩:=Zs.mp f;refine⟨[some (aq b)],by rw[uF];rfl,rfl,[some (aq b)],?_,rfl⟩
  simp[ab];rfl) (by rw[Zm,Zm];lia)
 simp only[bH,eY,Dl.start,av,cA,aP,Zc,Zv,Zw,Zk,Zn,Zo,ZP,ZS,ZQ,Nat.sub_self,Nat.reduceAdd,e,List.map_map];rfl
def kc{α:Type}{f:α->D}{l}{x}:L2.atI ((l++[x]).map f) (-1)=some (f x):=by rw[Zx];exact L2.atI_last _ _
end
variable {n:kf} {R:Yh (Yh be)} {P:Yh (Nat×bt)} {rl:Yh be} {m:ic}
section
variable {W M:Yh Str} {bs:Yh bD} {R:Yh (Yh be)} {P:Yh (Nat×bt)}
theorem lj{rl:Yh be}(h:rl.length<=900):bV [Db W bs M (R++[rl]) P]=some (.lst ((rl.map (·.name)).map D.str),[some (Db W bs M (R++[rl]) P)]):=by
 have e:=cq (js:=[]) (δ:=[some (Db W bs M (R++[rl]) P)]) (δc:=[some (Db W bs M (R++[rl]) P)]) (src:=a6 (ja (fY [ak] "room_lists" (aa 0)) (f1 fF (fC (.int 1))))) (n:=1) (g:=gN 0) (fc:=fun _=>some true) (felt:=vI (gm [bO] "name" (ab 0))) (ds:=rl.map (bG W bs)) (xs:=(rl.map (bG W bs)).map fun d=>match d with|.ob _ _ (x::_)=>x|_=>.non) (ιe:=[none]) (by
  simp only[a6,fY,ja,e_C,uq,aa,sh,noo,Zc,Ze,Zg,Z8,Zu,ZI,or_false,pr,gW,fF,kc,lI,Int.reduceNeg]) rfl (dW fun d f=>by
  obtain⟨b,_,rfl⟩:=Zs.mp f;refine⟨[some (bG W bs b)],by rw[mI];rfl,rfl,[some (bG W bs b)],?_,rfl⟩
  simp[bG,ab,imm,CC]) (by rw[Zm,Zm];lia)
 simp only[bV,eD,Dl.start,av,cA,aP,Zc,Zv,Zw,Zk,Zn,Zo,ZP,ZS,ZQ,Nat.sub_self,Nat.reduceAdd,e,List.map_map];rfl
def j3:bz [Db W bs M (R++[rl]) P]=some (.bl (decide (0<rl.length)),[some (Db W bs M (R++[rl]) P)]):=by
 have h1:(((R++[rl]).length:Int)>0)=True:=eq_true (by simp)
 have h2:((rl.length:Int)>0)=(0<rl.length):=by simp
 simp only[bz,fQ,Dl.start,av,cA,ka,iB,e_C,uq,bT,bS,bu,bM,bU,ab,g9,lW,g8,da,iz,imm,Zc,Zv,Zw,Zk,Zn,Zo,Zm,Ze,ZP,ZS,ZQ,Nat.sub_self,Nat.reduceAdd,Z8,Zu,ZI,or_false,decide_true,pr,h1,fF,kc,Int.reduceNeg,h2]
def vU:bA [Db W bs M R []]=some (.bl false,[some (Db W bs M R [])]):=by simp[bA,dI,Dl.start,av,ab,pv];rfl
def vT{x:Nat×bt}:bA [Db W bs M R (P++[x])]=some (.bl ((x.1:Int)==(M.length:Int)-1),[some (Db W bs M R (P++[x]))]):=by
 have h1:(((P++[x]).length:Int)>0)=True:=eq_true (by simp)
 simp only[bA,dI,Dl.start,av,cA,ka,iB,e_C,uq,bT,bS,bu,bM,bU,ab,g9,lW,g8,lE,da,iz,imm,Zc,Zv,Zw,Zk,Zn,Zo,Zm,Ze,ZP,ZS,ZQ,Nat.sub_self,Nat.reduceAdd,Z8,Zu,ZI,or_false,or_true,decide_true,pv,h1,fF,kc,Int.reduceNeg,bB,nQ,jt]
def Mm{a b:Yh Str}(h:a.length+b.length<=1000):iu (.seq (a.map D.str)) (.lst (b.map D.str))=some (.lst ((a++b).map D.str)):=by simp only[iu,asL,Zc,Zm,Zx];rw[if_pos h]
def IG{a b:Yh Str}(h:a.length+b.length<=1000):iu (.lst (a.map D.str)) (.seq (b.map D.str))=some (.lst ((a++b).map D.str)):=by simp only[iu,asL,Zc,Zm,Zx];rw[if_pos h]
theorem jZ{r}{ws}{p}{w}(h:ws[p]?=some w)(n:aJ w)(f:w∉W++bnm bs++M)(o:W.length+bs.length+M.length<=900):dD [Db W bs M R P,Wo r ws p]=some (.str w,[some (Db W bs M R P),some (Wo r ws (p+1))]):=by
 have m:bs.length<=900:=by lia
 have l:W.length+(bnm bs).length<=1000:=by simp;lia
 have j:(W++bnm bs).length+M.length<=1000:=by simp;lia
 have e:=decide_eq_false f;simp only[dD,me,Dl.start,av,aE,aX,bg,cA,fN,bT,bS,bM,bU,cS,cC,aZ,aP,a8,ab,aa,bL,gp,iY,lY,g9,lW,zA,aV,sh,shs,noo,imm,Zc,Zv,Zw,Zi,Zj,Zn,Zo,Ze,Zf,Zg,Zh,ZP,ZS,ZV,ZQ,Nat.reduceSub,Nat.reduceAdd,ZR,Z8,Z9,Bool.not_false,Zu,ZI,or_false,or_true,io,gE h n,bK,gJ,jt,xS,aO,gW,cP,jv m,Mm l,IG j,e,bq]
def lh{r}{ws}{p}{w}{rl}(h:ws[p]?=some w)(f:w∈rl.map (·.name))(j:rl.length<=900):eZ [Db W bs M (R++[rl]) P,Wo r ws p]=some (.str w,[some (Db W bs M (R++[rl]) P),some (Wo r ws (p+1))]):=by have e:=decide_eq_true f;simp only[eZ,jx,Dl.start,av,aE,aX,bg,cA,fN,bT,bS,bM,bU,cS,cC,aZ,aP,a8,ab,aa,bL,gp,iY,lY,sY,aV,sh,shs,noo,imm,Zc,Zv,Zw,Zi,Zj,Zn,Zo,Ze,Zf,Zg,Zh,ZP,ZS,ZV,ZQ,Nat.reduceSub,Nat.reduceAdd,ZR,Z8,Z9,nu,mD h,bK,zF,aO,gW,cP,lj j,e,bq]
end
theorem oW (h:ws.drop p=("price":Str)::num i::l) (h1:0<=i) (h2:i<=10^30):bP [Wo r ws p]=some (.int i,[some (Wo r ws (p+2))]):=by
 have e:=eN (r:=r) (hi:=1000000000000000000000000000000) (df (db h)) (by lia) h1 (by lia)
 simp[bP,fV,Dl.start,av,aa,bL,noo,imm,eM,gP (df h),lg,e]
def pM (h:ws[p]?≠some "price") (f:p<=ws.length):bP [Wo r ws p]=some (.int 0,[some (Wo r ws p)]):=by simp[bP,fV,Dl.start,av,aa,bL,noo,imm,eM,gT h f]
def pL {w:Str} (h:ws.drop p=("say":Str)::w::l) (n:aJ w):bN [Wo r ws p]=some (bJ (some ("say",w)),[some (Wo r ws (p+2))]):=by simp[bN,eV,Dl.start,av,aa,bL,noo,imm,eM,gP (df h),io,gE (df (db h)) n,bJ]
def oV {w:Str} (h:ws.drop p=("hear":Str)::w::l) (n:aJ w):bN [Wo r ws p]=some (bJ (some ("hear",w)),[some (Wo r ws (p+2))]):=by
 have h0:ws[p]?≠some (Str.ofString "say"):=by rw[df h];exact fun z=>absurd (ZH z) (by decide +kernel)
 have f:=Nat.le_of_lt (ZL.mp (df h)).1;simp[bN,eV,Dl.start,av,aa,bL,noo,imm,eM,gT h0 f,gP (df h),io,gE (df (db h)) n,bJ]
def rJ (h1:ws[p]?≠some "say") (h2:ws[p]?≠some "hear") (f:p<=ws.length):bN [Wo r ws p]=some (bJ none,[some (Wo r ws p)]):=by simp[bN,eV,Dl.start,av,aa,bL,noo,imm,eM,gT h1 f,gT h2 f,bJ]
abbrev tri(c:Str×Str×Int):Str×Str×Str:=(c.1,c.2.1,num c.2.2)
noncomputable abbrev WS:List Str:=["<","<=","==",">=",">"]
noncomputable abbrev BS:List Str:=["<","<=","==","!=",">=",">"]
def gX(W B:List Str)(c:Str×Str×Int):Prop:=(c.1∈W/\c.2.1∈WS/\0<=c.2.2/\c.2.2<=60)\/(c.1∉W/\c.1∈B/\c.2.1∈BS/\-20<=c.2.2/\c.2.2<=20)
def NJ (h:x∈WS):gIn (.str x) (.tup [D.str "<",D.str "<=",D.str "==",D.str ">=",D.str ">"])=some (.bl true):=(E3).trans (by rw[decide_eq_true h])
def NK (h:x∈BS):gIn (.str x) (.tup [D.str "<",D.str "<=",D.str "==",D.str "!=",D.str ">=",D.str ">"])=some (.bl true):=(E3).trans (by rw[decide_eq_true h])
def za{C}(j:C=aC\/C=a5){n a}:bX [.oo C [] [],.int n,.str s,.int a]=some (.non,[some (.oo C CN [.int n,.str s,.int a]),some (.int n),some (.str s),some (.int a)]):=by
 have f:(C=gB\/C=aC\/C=a5)=True:=eq_true (.inr j);have p:fJ "number" []=(["number"]:Yh Str):=rfl;have o:fJ "sign" (["number"]:Yh Str)=(["number","sign"]:Yh Str):=by decide +kernel
 have m:fJ "against" (["number","sign"]:Yh Str)=CN:=by decide +kernel
 have f1:putD "number" (D.int n) [] []=[.int n]:=rfl;have f2:putD "sign" (D.str s) ["number"] [.int n]=[.int n,.str s]:=by unfold putD;rw[if_neg (by decide +kernel)];rfl
 have l:putD "against" (D.int a) ["number","sign"] [.int n,.str s]=[.int n,.str s,.int a]:=by unfold putD;rw[if_neg (by decide +kernel)];unfold putD;rw[if_neg (by decide +kernel)];rfl
 simp[bX,d5,Dl.start,av,aa,bZ,aw,atP,cL,noo,f,p,o,m,f1,f2,l,Nat.zero_le]
theorem o3:∀l,nE (l.map D.str)=some l
 |[]=>rfl
 |x::l=>by rw[Zv,nE,o3 l];rfl
def qA(h:x∈l):(l.findIdx? fun i=>i==x)=some (jQ l x):=by
 unfold jQ;cases q:l.findIdx? fun i=>i==x with
 |some j=>rfl
 |none =>rw[List.findIdx?_eq_none_iff]at q;have:=q x h;simp at this
def qK(h:x∈l):eR (.seq (l.map D.str)) [.str x]=some (.int (jQ l x)):=by simp only[eR,asL,Zc,o3,qA h,Zd]
def E2(h:x∈l):eR (.lst (l.map D.str)) [.str x]=some (.int (jQ l x)):=by simp only[eR,asL,Zc,o3,qA h,Zd]
noncomputable abbrev thS(c:Str×Str×Str):D:=.seq [.str c.1,.str c.2.1,.str c.2.2]
def yh{c}:L2.atI [a,b,c] 0=some a:=rfl
def rA{c}:L2.atI [a,b,c] 1=some b:=rfl
theorem xW{bs}(h:gX W (bnm bs) c):i6 [.seq (W.map D.str),.lst ((bnm bs).map D.str),thS (tri c)]=some (gb W bs c,[some (.seq (W.map D.str)),some (.lst ((bnm bs).map D.str)),some (thS (tri c))]):=by
 rcases h with⟨h1,h2,j,f⟩|⟨h1,h2,j,f,q⟩
 . have p:=eq_true h1;have o:=NJ h2;have l:=kK (by lia) j f
   have m:=za (.inl rfl) (n:=jQ W c.1) (s:=c.2.1) (a:=c.2.2);simp[i6,kS,Dl.start,av,ab,aa,gC,sh,shs,noo,imm,ZV,yh,rA,at3,p,o,l,qK h1,m,gb]
 . have p:(c.1∈W)=False:=eq_false h1;have r:(c.1∈bnm bs)=True:=eq_true h2;have o:=NK j;have l:=kK (i:=c.2.2) (lo:=-20) (hi:=20) (by lia) f q
   have m:=za (.inr rfl) (n:=jQ (bnm bs) c.1) (s:=c.2.1) (a:=c.2.2);simp only[i6,kS,Dl.start,av,aE,aX,NV,iw,gn,sZ,iZ,bg,cA,Md,Iq,f9,dB,e_C,uq,bT,bS,E1,bM,bU,cS,cC,dz,xM,aP,bC,ab,aa,JD,gC,iz,sY,zB,sh,shs,noo,imm,Zc,Zv,Zw,Zi,Zj,Zn,Zo,Ze,Zf,Zg,Zh,ZP,ZS,ZV,ZQ,Nat.reduceSub,Nat.reduceAdd,Z8,Z9,Bool.not_false,decide_true,decide_false,yh,rA,at3,p,r,o,fF,Int.reduceNeg,l,E2 h2,m,gb]
def NI{bs}(h:c.1∈W):qE Is [cM W bs c,.cls aC]=some (.bl true):=by unfold cM;rw[if_pos h];rfl
def vC {bs} (h:c.1∈W) (f:c.2.1=Str.ofString "<=" \/ (c.2.1=Str.ofString "<"/\0<c.2.2)):eE [cM W bs c]=some (.bl true,[some (cM W bs c)]):=by
 have j:=NI (bs:=bs) h;have o:cM W bs c=.ob aC CN [.int (jQ W c.1),.str c.2.1,.int c.2.2]:=by unfold cM;rw[if_pos h]
 rw[o]at j ⊢;rcases f with f|⟨f,m⟩
 . rw[f]at j ⊢;simp[eE,jy,Dl.start,av,ab,imm,j,Ft,ZA]
 . rw [f] at j ⊢;have l:(Str.ofString "<" == Str.ofString "<=")=false:=by decide +kernel
   have p:=eq_true m;simp[eE,jy,Dl.start,av,ab,imm,j,Ft,ZA,l,Bv,p]
variable {T:Yh Str}
section
variable {bs:Yh bD} 
def B8(cs:Yh (Str×Str×Str)):shs (cs.map thD)=cs.map thS:=cj (fun c=>by simp only[sh,shs]) cs
def tL(cs:Yh (Str×Str×Str)):shs (cs.map thS)=cs.map thS:=cj (fun c=>by simp only[sh,shs]) cs
def pJ(c:Str×Str×Str):sh (thS c)=thS c:=by simp only[sh,shs]
theorem B7(c:Str×Str×Int)(h:c.2.2.natAbs<10^31):Fr 44 (tri c).2.2/\(tri c).2.2.length<=1000:=⟨xf _ (by decide) (by decide),by have:(num c.2.2).length<=32:=kL h;show(num c.2.2).length<=1000;lia⟩
def xb(h:gX W B c):c.2.2.natAbs<10^31:=by rcases h with⟨_,_,h1,h2⟩|⟨_,_,_,h1,h2⟩<;>omega
def Bq(c:Str×Str×Int):own (gb W bs c)=true/\noo (gb W bs c)=false:=by unfold gb;split<;>exact⟨rfl,rfl⟩
def xg(l:Yh (Str×Str×Int)):lu Es (l.map (gb W bs))=some (l.map fun _=>false):=by
 induction l with
 |nil=>rfl
 |cons c l f =>
  rw[Zv,Zv];unfold gb at f ⊢;split
  . simp only[lu,jX,Zc,f];rw[if_pos (by simp)]
  . simp only[lu,jX,Zc,f];rw[if_pos (by simp)]
def vv(l:Yh (Str×Str×Int)):kO Es .non (.lst (l.map (gb W bs)))=some (.bl true):=by
 simp only[kO,asL,Zc,xg];have:(l.map fun _=>false).any id=false:=by rw[List.any_eq_false];intro x f;obtain⟨_,_,rfl⟩:=Zs.mp f;decide
 rw[this];rfl
theorem pN(h0:cs≠[])(h:ws.drop p=tw (cs.map tri)++l)(o:∀c∈cs,gX W (bnm bs) c)(s:cs.length<=900)(v:bs.length<=900) :
 cr [Db W bs M R P,Wo r ws p]=some (.lst (cs.map (gb W bs)),[some (Db W bs M R P),some (Wo r ws (p+3*cs.length))]):=by
 have q:=jT (r:=r) (by simpa using h0) h (fun c t=>by obtain⟨d,u,rfl⟩:=Zs.mp t;exact B7 d (xb (o d u))) (by simpa using s)
 rw[Zm]at q;have f:bi 1 (gN 0) (fun _=>some true) By ((cs.map tri).map thS) [none,some (Db W bs M R P)]=some (cs.map (gb W bs),[none,some (Db W bs M R P)]):=by
  clear q h h0 s
  induction cs with
  |nil=>rfl
  |cons c cs j =>
   have j:=j fun x m=>o x (Zq _ m)
   have y:=xW (o c (Zp ..));simp only[bq0,bq3,By,Zv,bi,pJ,bM,cS,cC,aZ,aP,bC,ab,aa,lY,aV,cW,sh,shs,noo,own,iA,qL,Zc,Zv,Ze,Zf,Zg,Zh,Z8,Zu,ZI,or_false,or_true,fY,gJ,jJ,xS,aO,gW,cP,jv v,y];simp only[bq0,bq3,By,Zc,j]
 have e:=cq (js:=[0]) (δ:=[some (Db W bs M R P),some (Wo r ws p),none]) (δ1:=[some (Db W bs M R P),some (Wo r ws (p+3*cs.length)),none]) (δc:=[some (Db W bs M R P),some (Wo r ws (p+3*cs.length)),none]) (cs:=[Db W bs M R P]) (src:=bq3) (n:=1) (g:=gN 0) (fc:=fun _=>some true) (felt:=By) (by
  simp only[bq0,bq3,By,a6,cS,cC,aZ,aP,a8,aa,bL,iY,sh,noo,Zc,Ze,Zf,Zg,Zh,ZR,Z8,Z9,lf,q,B8]) (by simp[takes,aa,noo]) f (by rw[Zm];lia)
 simp[cr,iR,Dl.start,av,ab,aa,sh,shs,noo,imm,ZV,e,bK,vv,bq]
end
section
variable {bs:Yh bD} 
abbrev Wb(r:Int)(ws:List Str)(p:Nat):D:=.ob ah WN [.int r,.seq (ws.map D.str),.int p]
def iP (W B:List Str) (c:Str×Str×Int):Prop:=(c.1∈W/\c.2.1=Str.ofString "="/\c.2.2=0)\/(c.1∉W/\c.1∈B/\((c.2.1=Str.ofString "="/\-20<=c.2.2/\c.2.2<=20)\/((c.2.1=Str.ofString "+" \/ c.2.1=Str.ofString "-")/\1<=c.2.2/\c.2.2<=20)))
def ql(h:iP W B c):c.2.2.natAbs<10^31:=by rcases h with⟨_,_,h1⟩|⟨_,_,⟨_,h1,h2⟩|⟨_,h1,h2⟩⟩<;>omega
def OG:num 0=Str.ofString "0":=by decide +kernel
def HY(h:x∈l):jQ l x<l.length:=by have:=qA h;exact(List.findIdx?_eq_some_iff_findIdx_eq.mp this).1
theorem Co{l}(h:∀k∈l,k<=4):jd (l.map fun(k:Nat)=>D.int (k:Int))=some l:=by
 induction l with
 |nil=>rfl
 |cons a l f =>
  have:=h a (Zp ..);rw[Zv];simp only[jd];rw[if_pos ⟨by lia,by lia⟩,f fun k m=>h k (Zq _ m)]
  simp
def N0{c}:uv [a,b,c] (some 1) none=[b,c]:=rfl
def eq2{a b c d}(h1:a=c)(h2:b=d):bQ (.lst [.str a,.str b]) (.lst [.str c,.str d])=some (.bl true):=by subst h1;subst h2;simp[bQ,eqN,kd,eq0,eqL,eS,toV,eqF]
theorem An(B:∀c∈ds,iP W (bnm bs) c)(q:ds.length<=900)(I:W.length<=4):iH [Db W bs M R P,Wb r ws p,.seq ((ds.map tri).map thS)]=some (.lst (wO (rsN W ds)),[some (Db W bs M R P),some (Wb r ws p),some (.seq ((ds.map tri).map thS))]):=by
 let T:D:=.seq ((ds.map tri).map thS)
 have f:∀l acc o,(∀c∈l,iP W (bnm bs) c)->acc.length+l.length<=900->∃o',cn (gN 4) x0 ((l.map tri).map thS) [some (Db W bs M R P),some (Wb r ws p),some T,some (.lst (acc.map fun(k:Nat)=>D.int (k:Int))),o]=some (.nx [some (Db W bs M R P),some (Wb r ws p),some T,some (.lst ((acc++rsN W l).map fun(k:Nat)=>D.int (k:Int))),o']):=by
  intro l
  induction l with
  |nil=>intro acc o _ _;exact⟨o,by simp[cn,rsN]⟩
  |cons c l u =>
   intro acc o j q;rw[Zn]at q;rcases j c (Zp ..)with⟨h1,h2,v⟩|⟨h1,h2,v⟩
   . obtain ⟨o',e⟩:=u (acc++[jQ W c.1]) (some (thS (tri c))) (fun x m=>j x (Zq _ m)) (by simp;lia)
     refine⟨o',?_⟩;have t:=eq_true h1;have C:bQ (.lst [.str c.2.1,.str (num c.2.2)]) (.lst [.str "=",.str "0"])=some (.bl true):=eq2 h2 (by rw[v];exact OG)
     have G:(acc.length<=999)=True:=eq_true (by lia)
     have s:rsN W (c::l)=jQ W c.1::rsN W l:=by unfold rsN;rw[List.filter_cons_of_pos (by simpa using h1),Zv]
     rw[s];simp only[x0,Zv,cn,pJ,aE,aX,gn,sZ,fN,f9,dB,e_C,bT,bS,E1,bM,bU,ab,gp,lY,g9,lW,cG,aw,atP,cL,iz,zB,sh,shs,imm,asL,iA,m5,Zc,Zd,Zv,Zm,Ze,Zf,Zg,Zh,Z8,Zu,ZI,or_false,or_true,decide_true,yh,gJ,t,fSl,faS,faN,asI,N0,gl,C,bK,bq,br,qK h1,G];rw[Zx,ZW]at e;simpa only[Zv,Zw,Zx,Zi,Zj]using e
   . obtain ⟨o',e⟩:=u acc (some (thS (tri c))) (fun x m=>j x (Zq _ m)) (by lia)
     refine⟨o',?_⟩;have t:=eq_false h1;have s:rsN W (c::l)=rsN W l:=by unfold rsN;rw[List.filter_cons_of_neg (by simpa using h1)]
     rw[s];simp only[x0,Zv,cn,pJ,iw,gn,iZ,f9,dB,e_C,bT,ab,g9,lW,iz,zB,sh,shs,iA,m5,Zc,Zd,Zv,Ze,Zf,Z8,Zu,ZI,or_false,or_true,decide_false,yh,gJ,t];exact e
 obtain⟨o',e⟩:=f ds [] none B (by simpa using q)
 have y:jd ((rsN W ds).map fun(k:Nat)=>D.int (k:Int))=some (rsN W ds):=Co fun k hk=>by
  unfold rsN at hk;obtain⟨c,j,rfl⟩:=Zs.mp hk;have:=HY (Zza (List.mem_filter.mp j).2)
  lia
 simp only[x0,Zw,Zj]at e;have H:noo T=true:=rfl;have z:shs ((ds.map tri).map thS)=(ds.map tri).map thS:=tL _;simp only[x0,iH,kg,Dl.start,av,aE,aX,j8,cS,qJ,aa,sh,noo,Zc,Zv,Zw,Zi,Zj,Zn,Zo,Ze,Zf,Zg,Zh,ZV,ZQ,Nat.reduceSub,Nat.reduceAdd,Z8,f8,a6,z];rw[e];simp only[x0,aX,cA,imm,Zc,Ze,Zf,Zg,Zh,ZP,ZS,ZR,Z9,pG,uS,y];rfl
end
section
variable {bs:Yh bD} 
def Ib (h:x=Str.ofString "=" \/ x=Str.ofString "+" \/ x=Str.ofString "-"):gIn (.str x) (.tup [D.str "=",D.str "+",D.str "-"])=some (.bl true):=(E3 (ws:=["=","+","-"])).trans (by rw[decide_eq_true];simpa using h)
def JF{c}{fa fb}:fIf c fa fb δ=brD fa fb δ (c δ):=by unfold fIf brD;cases h:c δ with
 |none=>rfl
 |some r=>cases r<;>rfl
def Ma{fa fb}:brD fa fb δ (some true)=fa δ:=rfl
def Mb{fa fb}:brD fa fb δ (some false)=fb δ:=rfl
theorem Fd (z:∀ c∈ds,iP W (bnm bs) c) (y:ds.length<=900) (S:bs.length<=900):jF [Db W bs M R P,Wb r ws p,.seq ((ds.map tri).map thS)]=some (.lst (iC W bs ds),[some (Db W bs M R P),some (Wb r ws p),some (.seq ((ds.map tri).map thS))]):=by
 let T:D:=.seq ((ds.map tri).map thS)
 have s:∀ l acc o q,(∀ c∈l,iP W (bnm bs) c)->acc.length+l.length<=900->∃ o' j,cn (gN 5) wr ((l.map tri).map thS) [some (Db W bs M R P),some (Wb r ws p),some T,some (.seq ((bnm bs).map D.str)),some (.lst acc),o,q]=some (.nx [some (Db W bs M R P),some (Wb r ws p),some T,some (.seq ((bnm bs).map D.str)),some (.lst (acc++iC W bs l)),o',j]):=by
  intro l
  induction l with
  |nil=>intro acc o q _ _;exact⟨o,q,by simp[cn,iC]⟩
  | cons c l J =>
   intro acc o q B y;rw[Zn]at y;rcases B c (Zp ..)with⟨h1,h2,f⟩|⟨h1,h2,f⟩
   . obtain ⟨o',j,e⟩:=J acc (some (thS (tri c))) q (fun x m=>B x (Zq _ m)) (by lia)
     refine⟨o',j,?_⟩;have I:=eq_true h1;have H:iC W bs (c::l)=iC W bs l:=by unfold iC;rw[List.filter_cons_of_neg (by simpa using h1)]
     rw[H];simp only[wr,Zv,cn,pJ,iw,gn,iZ,f9,dB,e_C,bT,ab,g9,lW,iz,JE,sh,shs,iA,m5,Zc,Zd,Zv,Ze,Zf,Z8,Bool.not_true,Zu,ZI,or_false,or_true,decide_true,yh,gJ,I];exact e
   . have z:∃ lo,(fIf (fT (f2 bQ (f2 gIx (ab 5) (fC (.int 1))) (fC (.str "=")))) (f1 fF (fC (.int 20))) (fC (.int 1))) [some (Db W bs M R P),some (Wb r ws p),some T,some (.seq ((bnm bs).map D.str)),some (.lst acc),some (thS (tri c)),q]=some (.int lo)/\lo<=c.2.2/\c.2.2<=20:=by
      rcases f with⟨f,G,C⟩|⟨f,G,C⟩
      . exact⟨-20,by simp[JF,ab,rA,f,ZA,Ma,fF,Int.reduceNeg],G,C⟩
      . have O:(c.2.1 == Str.ofString "=")=false:=by
         rcases f with f|f<;>rw[f]<;>decide +kernel
        exact⟨1,by simp only[wr,JF,f9,dB,e_C,bT,ab,NY,iz,Zc,Ze,Zf,rA,O,Mb],G,C⟩
     obtain⟨lo,t,v,u⟩:=z;have Q:c.2.1=Str.ofString "=" \/ c.2.1=Str.ofString "+" \/ c.2.1=Str.ofString "-":=by
      rcases f with⟨f,_⟩|⟨f,_⟩
      . exact .inl f
      . exact .inr f
     obtain⟨o',j,e⟩:=J (acc++[.tup [.int (jQ (bnm bs) c.1),.str c.2.1,.int c.2.2]]) (some (thS (tri c))) (some (.int c.2.2)) (fun x m=>B x (Zq _ m)) (by simp;lia)
     refine⟨o',j,?_⟩;have I:=eq_false h1;have V:=eq_true h2;have X:(acc.length<=999)=True:=eq_true (by lia)
     have U:=kK (ql (.inr ⟨h1,h2,f⟩)) v u;have H:iC W bs (c::l)=.tup [.int (jQ (bnm bs) c.1),.str c.2.1,.int c.2.2]::iC W bs l:=by unfold iC;rw[List.filter_cons_of_pos (by simpa using h1),Zv]
     rw[H];simp only[wr,Zv,cn,pJ,aE,aX,gn,sZ,bg,fN,ka,iB,f9,dB,e_C,bT,bS,E1,bM,bU,cS,cC,L9,oM,dz,ab,aa,gp,lY,g9,lW,cG,aw,atP,cL,JD,gC,iz,zB,JE,sh,shs,noo,imm,iA,m5,Zc,Zd,Zv,Ze,Zf,Zg,Zh,Z8,Bool.not_false,Zu,ZI,or_false,or_true,decide_true,decide_false,yh,rA,at3,gJ,I,V,Ib Q,bK,bq,t,U,br,qK h2,X];rw[ZW]at e;exact e
 obtain⟨o',j,e⟩:=s ds [] none none z (by simpa using y)
 simp only[wr,Zj]at e;have L:shs ((ds.map tri).map thS)=(ds.map tri).map thS:=tL _;simp only[wr,jF,mf,Dl.start,av,aE,aX,j8,bg,bM,cS,qJ,ab,aa,lY,aV,cW,sh,shs,noo,own,Zc,Zv,Zw,Zi,Zj,Zn,Zo,Ze,Zf,Zg,Zh,ZV,ZQ,Nat.reduceSub,Nat.reduceAdd,Z8,jJ,xS,aO,gW,cP,jv S,f8,a6,L];rw[e];simp only[wr,aX,cA,aa,noo,Zc,Ze,Zf,Zg,Zh,ZP,ZS,ZR,Z9];rfl
end
variable {n1 n2:kf} {p5:Int×Int}
section
variable {bs:Yh bD} 
theorem cH{α:Type}{f}{d}:∀{xs}{l:Yh α},cB f xs=none->xs.length=l.length->putD f d xs l=l++[d]
 |[],[],_,_=>rfl
 |g::r,e::es,h,hl=>by
  unfold cB at h;unfold putD
  by_cases j:g=f
  . rw[if_pos j]at h;cases h
  . rw[if_neg j]at h ⊢;rw[cH (Option.map_eq_none_iff.mp h) (Nat.succ.inj hl)];rfl
 |[],_::_,_,hl=>by cases hl
 |_::_,[],_,hl=>by cases hl
theorem vb{f}:∀{xs},cB f xs=none->fJ f xs=xs++[f]
 |[],_=>rfl
 |g::r,h=>by
  unfold cB at h;unfold fJ
  by_cases j:g=f
  . rw[if_pos j]at h;cases h
  . rw[if_neg j]at h ⊢;rw[vb (Option.map_eq_none_iff.mp h)];rfl
def cO{i}{Cs}{f}{δ1}{d}{C}{xs}{ds}(m:f δ=some (d,δ1))(h:δ1[i]?=some (some (.oo C xs ds)))(q:C∈Cs)(l:ds.length<=99)(j:cB x xs=none)(o:xs.length=ds.length):bZ i Cs x aw f δ=some (.nx (δ1.set i (some (.oo C (xs++[x]) (ds++[d]))))):=by rw[L6 (p:=aw) m h q l,vb j,cH j o]
def Al{n}{p}{h}{l}:d6 [.oo bO [] [],.str n,.int p,.bl h,.seq l]=some (.non,[some (.oo bO RN [.str n,.int p,.bl h,.seq l]),some (.str n),some (.int p),some (.bl h),some (.seq l)]):=by
 have p1:fJ "name" []=(["name"]:Yh Str):=rfl;have p2:fJ "price" (["name"]:Yh Str)=(["name","price"]:Yh Str):=by decide +kernel
 have r:fJ "hurry" (["name","price"]:Yh Str)=(["name","price","hurry"]:Yh Str):=by decide +kernel
 have q:fJ "stays" (["name","price","hurry"]:Yh Str)=RN:=by decide +kernel
 have o:∀d:D,putD "name" d [] []=[d]:=fun _=>rfl
 have m:∀a d:D,putD "price" d (["name"]:Yh Str) [a]=[a,d]:=fun a d=>cH (by decide +kernel) rfl
 have j:∀a b d:D,putD "hurry" d (["name","price"]:Yh Str) [a,b]=[a,b,d]:=fun a b d=>cH (by decide +kernel) rfl
 have f:∀a b c d:D,putD "stays" d (["name","price","hurry"]:Yh Str) [a,b,c]=[a,b,c,d]:=fun a b c d=>cH (by decide +kernel) rfl
 simp[d6,gz,Dl.start,av,aa,bZ,aw,atP,cL,noo,p1,p2,r,q,o,m,j,f,Nat.zero_le]
def Bm{m p}{g}{we}{c rs ds}:d8 [.oo bb [] [],.int m,.str s,.str g,.bl we,bJ w,.int p,.seq c,.seq rs,.seq ds]=some (.non,[some (.oo bb ON [.int m,.str s,.str g,.bl we,bJ w,.int p,.seq c,.seq rs,.seq ds]),some (.int m),some (.str s),some (.str g),some (.bl we),some (bJ w),some (.int p),some (.seq c),some (.seq rs),some (.seq ds)]):=by
 have p1:fJ "machine" []=(["machine"]:Yh Str):=rfl;have p2:fJ "start" (["machine"]:Yh Str)=(["machine","start"]:Yh Str):=by decide +kernel
 have H:fJ "goal" (["machine","start"]:Yh Str)=(["machine","start","goal"]:Yh Str):=by decide +kernel
 have G:fJ "weather" (["machine","start","goal"]:Yh Str)=(["machine","start","goal","weather"]:Yh Str):=by decide +kernel
 have p5:fJ "word" (["machine","start","goal","weather"]:Yh Str)=(["machine","start","goal","weather","word"]:Yh Str):=by decide +kernel
 have C:fJ "price" (["machine","start","goal","weather","word"]:Yh Str)=(["machine","start","goal","weather","word","price"]:Yh Str):=by decide +kernel
 have B:fJ "conds" (["machine","start","goal","weather","word","price"]:Yh Str)=(["machine","start","goal","weather","word","price","conds"]:Yh Str):=by decide +kernel
 have z:fJ "resets" (["machine","start","goal","weather","word","price","conds"]:Yh Str)=(["machine","start","goal","weather","word","price","conds","resets"]:Yh Str):=by decide +kernel
 have y:fJ "deeds" (["machine","start","goal","weather","word","price","conds","resets"]:Yh Str)=ON:=by decide +kernel
 have x:∀d:D,putD "machine" d [] []=[d]:=fun _=>rfl
 have v:∀a d:D,putD "start" d (["machine"]:Yh Str) [a]=[a,d]:=fun a d=>cH (by decide +kernel) rfl
 have u:∀a b d:D,putD "goal" d (["machine","start"]:Yh Str) [a,b]=[a,b,d]:=fun _ _ _=>cH (by decide +kernel) rfl
 have t:∀a b c d:D,putD "weather" d (["machine","start","goal"]:Yh Str) [a,b,c]=[a,b,c,d]:=fun _ _ _ _=>cH (by decide +kernel) rfl
 have r:∀a b c e d:D,putD "word" d (["machine","start","goal","weather"]:Yh Str) [a,b,c,e]=[a,b,c,e,d]:=fun _ _ _ _ _=>cH (by decide +kernel) rfl
 have q:∀a b c e f d:D,putD "price" d (["machine","start","goal","weather","word"]:Yh Str) [a,b,c,e,f]=[a,b,c,e,f,d]:=fun _ _ _ _ _ _=>cH (by decide +kernel) rfl
 have o:∀a b c e f g d:D,putD "conds" d (["machine","start","goal","weather","word","price"]:Yh Str) [a,b,c,e,f,g]=[a,b,c,e,f,g,d]:=fun _ _ _ _ _ _ _=>cH (by decide +kernel) rfl
 have l:∀a b c e f g h d:D,putD "resets" d (["machine","start","goal","weather","word","price","conds"]:Yh Str) [a,b,c,e,f,g,h]=[a,b,c,e,f,g,h,d]:=fun _ _ _ _ _ _ _ _=>cH (by decide +kernel) rfl
 have j:∀a b c e f g h i d:D,putD "deeds" d (["machine","start","goal","weather","word","price","conds","resets"]:Yh Str) [a,b,c,e,f,g,h,i]=[a,b,c,e,f,g,h,i,d]:=fun _ _ _ _ _ _ _ _ _=>cH (by decide +kernel) rfl
 have I:noo (bJ w)=true:=by cases w<;>rfl
 simp[d8,gA,Dl.start,av,aa,bZ,aw,atP,cL,noo,p1,p2,H,G,p5,C,B,z,y,x,v,u,t,r,q,o,l,j,Nat.zero_le,I]
theorem uJ{w}(h:ws[p]?=some w)(n:aJ w)(f:w∉W)(m:W.length<4):iJ [Do W [] [] [] [],Wo r ws p]=some (.non,[some (Do (W++[w]) [] [] [] []),some (Wo r ws (p+1))]):=by
 have e:dD [.ob ak DN [.seq (W.map D.str),.seq [],.seq [],.seq [],.seq []],Wo r ws p]=some (.str w,[some (Db W [] [] [] []),some (Wo r ws (p+1))]):=jZ (bs:=[]) (M:=[]) (R:=[]) (P:=[]) (r:=r) h n (by simpa using f) (by simp;lia)
 have l:((W.length:Int)<4)=True:=eq_true (by lia)
 have j:(W.length<=999)=True:=eq_true (by lia)
 have z:((0:Nat):Int)=0:=rfl;simp only[iJ,kj,Dl.start,av,aE,aX,fN,ka,iB,e_C,bT,bS,bu,bM,bU,cS,cC,ab,aa,gp,iY,g9,oN,cG,aw,kY,atP,cL,j9,lE,da,aV,cW,sh,shs,noo,imm,own,gG,Zc,Zd,Zv,Zw,Zj,Zk,Zn,Zo,Zm,Ze,Zf,Zg,Zh,ZP,ZS,ZQ,Nat.sub_self,Nat.reduceAdd,ZR,Z8,Z9,Bool.and_self,Zu,ZI,or_false,or_true,and_self,decide_true,zI,jt,gJ,bK,bq,l,Fa,b8,takes,cR,im,e,hX,tZ,j,z,ZA];simp only[Do,aq,Zx,Zv,Zw]
theorem yg{b}(h:ws.drop p=b.1::num b.2.1::num b.2.2.1::num b.2.2.2::l)(n:aJ b.1)(s:b.1∉W++bnm bs)(y:bs.length<3)(x:W.length<=4)(h1:-20<=b.2.1)(h2:b.2.1<=b.2.2.2)(u:b.2.2.2<=b.2.2.1)(t:b.2.2.1<=20):kX [Do W bs [] [] [],Wo r ws p]=some (.non,[some (Do W (bs++[b]) [] [] []),some (Wo r ws (p+4))]):=by
 have e:dD [.ob ak DN [.seq (W.map D.str),.seq (bs.map aq),.seq [],.seq [],.seq []],Wo r ws p]=some (.str b.1,[some (Db W bs [] [] []),some (Wo r ws (p+1))]):=jZ (W:=W) (bs:=bs) (M:=[]) (R:=[]) (P:=[]) (r:=r) (df h) n (by simpa using s) (by simp;lia)
 have j:=db h;have f:=db j;have v:=db f;have n1:=eN (r:=r) (lo:=-20) (hi:=20) (df j) (by lia) h1 (by lia)
 have n2:=eN (r:=r) (lo:=b.2.1) (hi:=20) (df f) (by lia) (by lia) t
 have m:=eN (r:=r) (lo:=b.2.1) (hi:=b.2.2.1) (df v) (by lia) h2 u
 have q:((bs.length:Int)<3)=True:=eq_true (by lia)
 have o:(bs.length<=999)=True:=eq_true (by lia)
 have z:((0:Nat):Int)=0:=rfl;simp only[kX,oq,Dl.start,av,aE,aX,bg,fN,ka,iB,e_C,uq,bT,bS,bu,bM,bU,cS,cC,oM,aZ,aP,a8,bC,ab,aa,bL,gp,iY,g9,oN,cG,aw,kY,atP,cL,j9,lE,da,aV,cW,sh,shs,noo,imm,own,gG,Zc,Zd,Zv,Zw,Zi,Zj,Zn,Zo,Zm,Ze,Zf,Zg,Zh,ZP,ZS,ZV,ZQ,Nat.reduceSub,Nat.reduceAdd,ZR,Z8,Z9,Bool.and_self,Zu,ZI,or_false,or_true,and_self,decide_true,zI,jt,gJ,aO,bK,bq,q,Me,b8,takes,cR,im,e,hX,tZ,z,ZA,lg,fF,Int.reduceNeg,n1,n2,m,br,o];simp only[Do,aq,Zx,Zv,Zw]
theorem rh{w}(h:ws[p]?=some w)(n:aJ w)(x:w∉W++bnm bs++M)(y:W.length<=4)(C:bs.length<=3)(v:M.length<4)(z:R.length=M.length)(s:M=[]\/∃l rl,R=l++[rl]/\rl≠[])(B:P.length<=100):dY [Do W bs M R P,Wo r ws p]=some (.non,[some (Do W bs (M++[w]) (R++[[]]) P),some (Wo r ws (p+1))]):=by
 have e:=jZ (R:=R) (P:=P) (r:=r) h n x (by lia)
 have u:((M.length:Int)<4)=True:=eq_true (by lia)
 have t:(M.length<=999)=True:=eq_true (by lia)
 have f:(R.length<=999)=True:=eq_true (by lia)
 have j:((M.length:Int)==0)=true\/(((M.length:Int)==0)=false/\∃l rl,R=l++[rl]/\rl≠[]):=by
  rcases s with v|s
  . left;subst v;rfl
  . cases q:((M.length:Int) == 0) with
    |true=>exact .inl rfl
    |false=>exact .inr ⟨rfl,s⟩
 rcases j with j|⟨j,l,rl,rfl,m⟩
 . simp only[dY,fW,Dl.start,av,aE,aX,fN,v8,EZ,e_C,bT,bS,bu,bM,bU,cS,cC,qJ,ab,aa,gp,iY,g9,oN,cG,aw,kY,atP,cL,j9,lE,da,aV,cW,sh,shs,noo,imm,own,gG,Zc,Zd,Zv,Zw,Zj,Zk,Zn,Zo,Zm,Ze,Zf,Zg,Zh,ZP,ZS,ZQ,Nat.sub_self,Nat.reduceAdd,ZR,Z8,Z9,Bool.and_self,Zu,ZI,or_false,or_true,and_self,decide_true,j,bK,bq,jt,u,zG,qN,aO,je,fO,b8,takes,cR,im,e,hX,tZ,t,f,br];simp only[Do,aq,Zx,Zv,Zw]
 . have o:(0<rl.length)=True:=eq_true (List.length_pos_iff.mpr m);simp only[dY,fW,Dl.start,av,aE,aX,fN,v8,xL,e_C,bT,bS,bu,bM,bU,cS,cC,qJ,ab,aa,gp,iY,g9,oN,cG,aw,kY,atP,cL,j9,lE,da,aV,cW,sh,shs,noo,imm,own,gG,Zc,Zd,Zv,Zw,Zj,Zk,Zn,Zo,Zm,Ze,Zf,Zg,Zh,ZP,ZS,ZQ,Nat.sub_self,Nat.reduceAdd,ZR,Z8,Z9,Bool.and_self,Zu,ZI,or_false,or_true,and_self,decide_true,j,ut,j3,o,bK,bq,jt,u,zG,qN,aO,je,fO,b8,takes,cR,im,e,hX,tZ,t,f,br];simp only[Do,aq,Zx,Zv,Zw]
end
variable {kw:Str}
def At(ws:List Str)(p:Nat)(l:List Str):Prop:=ws.drop p=l/\p<=ws.length
def At.head{w}(h:At ws p (w::l)):ws[p]?=some w:=df h.1
def At.next{w}(h:At ws p (w::l)):At ws (p+1) l:=⟨db h.1,(ZL.mp h.head).1⟩
theorem At.skip:∀{k}{p},At ws p (k++l)->At ws (p+k.length) l
 |[],_,h=>h
 |x::k,p,h=>by
  have:=At.skip (At.next h);rw[Zn,show p+(k.length+1)=p+1+k.length by lia]
  exact this
theorem At.end_(h:At ws p []):p=ws.length:=by
 have:=List.drop_eq_nil_iff.mp h.1;have:=h.2
 lia
def At.not{w}(h:At ws p l)(n:l.head?≠some w):ws[p]?≠some w:=by rw[<- List.head?_drop,h.1];exact n
def pK{b}(h:At ws p ((if b then[kw]else[])++l))(j:l.head?≠some kw):∃f,aL [Wo r ws p,.str kw]=some (.bl b,[some (Wo r ws f),some (.str kw)])/\At ws f l:=by
 cases b with
 |true=>exact⟨p+1,gP (At.head h),At.next h⟩
 |false=>exact⟨p,gT (At.not h j) h.2,h⟩
def qa {b} (h:At ws p ((if b then[("price":Str),num i]else[])++l)) (j:l.head?≠some ("price":Str)) (h1:0<=i) (h2:i<=10^30) (h0:b=false->i=0):∃f,bP [Wo r ws p]=some (.int i,[some (Wo r ws f)])/\At ws f l:=by
 cases b with
 |true=>exact⟨p+2,oW h.1 h1 h2,At.skip h⟩
 |false=>rw[h0 rfl];exact⟨p,pM (At.not h j) h.2,h⟩
section
variable {bs:Yh bD} 
theorem nC:∀cs,(tw cs).length=3*cs.length
 |[]=>rfl
 |[c]=>rfl
 |c::d::r=>by show(tw (d::r)).length+3=_;rw[nC (d::r)];simp only[Zn];lia
def xV(h:At ws p ((if cs=[]then[]else kw::tw (cs.map tri))++l))(hk:l.head?≠some kw)(j:∀c∈cs,gX W (bnm bs) c)(f:cs.length<=900)(m:bs.length<=900) :
 ∃p1,aL [Wo r ws p,.str kw]=some (.bl (decide (cs≠[])),[some (Wo r ws p1),some (.str kw)])/\(cs=[]->At ws p1 l)/\(cs≠[]->∃p2,(∀M R P,cr [Db W bs M R P,Wo r ws p1]=some (.lst (cs.map (gb W bs)),[some (Db W bs M R P),some (Wo r ws p2)]))/\At ws p2 l):=by
 by_cases h0:cs=[]
 . subst h0;rw[if_pos rfl]at h;exact⟨p,gT (At.not h hk) h.2,fun _=>h,fun z=>absurd rfl z⟩
 . rw [if_neg h0] at h;refine ⟨p+1,?_,fun z=>absurd z h0,fun _=>?_⟩
   . rw[decide_eq_true h0];exact gP (At.head h)
   . have h1:=At.next h;refine ⟨p+1+3*cs.length,fun M R P=>pN h0 h1.1 j f m,?_⟩
     have:=At.skip h1;rw[nC,Zm]at this;exact this
def tj (h:At ws p ((if cs=[] then [] else kw :: tw (cs.map tri))++l)) (hk:l.head? ≠ some kw) (o:∀ c∈cs,gX W (bnm bs) c) (m:cs.length<=900) (t:bs.length<=900) (δ) :
 ∃p2,pC (bL 1 ah "takes" (aj (some 1::[none]) aL (ae (aa 1) (ae (vI (fC (.str kw))) am)))) (b8 [.view 0,.lent 1] cr (cR 0 (ae (aa 1) am))) (bR am) (some (Do W bs M R P)::some (Wo r ws p)::δ)=some (.lst (cs.map (gb W bs)),some (Do W bs M R P)::some (Wo r ws p2)::δ)/\At ws p2 l:=by
 obtain⟨p1,f,h1,h2⟩:=xV (r:=r) h hk o m t
 by_cases h0:cs=[]
 . subst h0;refine⟨p1,?_,h1 rfl⟩;have d:decide (([]:Yh (Str×Str×Int))≠[])=false:=rfl;rw[d]at f;simp[aa,bL,noo,imm,eM,f]
 . obtain ⟨p2,q,u⟩:=h2 h0;refine ⟨p2,?_,u⟩;rw [decide_eq_true h0] at f;have j:own (.lst (cs.map (gb W bs)))=true:=by
    rw[own];clear h f q h0 h1 h2 m o
    induction cs with
    |nil=>rfl
    |cons c cs s=>rw[Zv,gG,s,(Bq c).1];rfl
   simp only[NW,L7,e_C,bS,cS,cC,aZ,aP,a8,bC,aa,bL,iY,aV,cW,sh,shs,noo,imm,own,gG,Zc,Zd,Ze,Zf,Zg,Zh,ZR,Z8,Z9,Bool.and_self,and_self,eM,f,b8,cR,im,hX,tZ,aO,je,fO,q];rw[own]at j;rw[if_pos j]
theorem FG{f}{d}{δ'}(o:f (some (Do W bs M (R++[rl]) P)::δ)=some (d,some (Do W bs M (R++[rl]) P)::δ'))(m:rl.length<=999) :
 cG 0 (pIx 0 (f1 fF (fC (.int 1))) (kY 0 [ak] "room_lists" aw)) f (some (Do W bs M (R++[rl]) P)::δ)=some (.nx (some (.oo ak DN [.lst (W.map D.str),.lst (bs.map aq),.lst (M.map D.str),.lst ((R.map fun l=>.lst (l.map (gU W bs)))++[.lst (rl.map (gU W bs)++[d])]),.lst (P.map (tf W bs))])::δ')):=by
 have r:L2.ixN (R++[rl]).length (-1)=some R.length:=by
  unfold L2.ixN;simp
  lia
 have q:((R++[rl]).map fun l=>D.lst (l.map (gU W bs)))[R.length]?=some (.lst (rl.map (gU W bs))):=by
  rw[Zx,List.getElem?_append_right (by simp)]
  simp
 have p:((R++[rl]).map fun l=>D.lst (l.map (gU W bs))).set R.length (.lst (rl.map (gU W bs)++[d]))=(R.map fun l=>D.lst (l.map (gU W bs)))++[.lst (rl.map (gU W bs)++[d])]:=by
  rw[Zx,List.set_append_right _ _ (by simp)]
  simp
 have j:=eq_true m;simp only[e_C,uq,cG,aw,kY,pIx,atP,cL,Zc,Zi,Zj,Zm,Ze,Zf,Zg,Zh,Z8,Zu,ZI,or_false,qN,fF,Int.reduceNeg,r,q,o,j,p]
end
section
variable {bs:Yh bD} 
def okStay (W:List Str) (c:Str×Str×Int):Prop:=c.1∈W/\((c.2.1=Str.ofString "<="/\0<=c.2.2)\/(c.2.1=Str.ofString "<"/\0<c.2.2))/\c.2.2<=60
theorem okStay.cond(h:okStay W c):gX W B c:=by
 obtain⟨h1,h2,f⟩:=h;refine .inl ⟨h1,?_,?_,f⟩
 . rcases h2 with⟨h2,_⟩|⟨h2,_⟩<;>rw[h2]<;>simp
 . rcases h2 with⟨_,h2⟩|⟨_,h2⟩<;>lia
structure okRoom(W:List Str)(r:be):Prop where
 name:aJ r.name
 p0:0<=r.price
 p1:r.price<=10^30
 stays:∀c∈r.stays,okStay W c
 len:r.stays.length<=900
noncomputable def sj(r:be):Bool:=decide (r.price>0)||decide (r.name.length%2=1)
def k8 (b:Bool) (i:Int):List Str:=if b then[("price":Str),num i]else[]
noncomputable def lO(b:Bool)(k:Str):List Str:=if b then[k]else[]
def jW(k:Str)(cs:List (Str×Str×Int)):List Str:=if cs=[]then[]else k::tw (cs.map tri)
def yD (r:be):List Str:=r.name::(k8 (sj r) r.price++(lO r.hurry "hurry" ++ (jW "stay" r.stays++[])))
def cI{k}(h:k≠x)(f:l.head?≠some x):(jW k cs++l).head?≠some x:=by
 unfold jW;split
 . exact f
 . exact fun z=>h (ZH z)
def Bf{k}{b}(h:k≠x)(f:l.head?≠some x):(lO b k++l).head?≠some x:=by
 unfold lO;split
 . exact fun z=>h (ZH z)
 . exact f
def nZ {b} (h:(Str.ofString "price")≠x) (f:l.head?≠some x):(k8 b i++l).head?≠some x:=by
 unfold k8;split
 . exact fun z=>h (ZH z)
 . exact f
theorem Aa{l:Yh (Str×Str×Int)}(h:∀c∈l,okStay W c)(p:l.length<=900)(δ) (f:aa 5 δ=some (.seq (l.map (cM W bs)),δ)):aD (a6 (aa 5)) 1 [] (gN 0) (fun _=>some true) (vI (aU eE (af (ab 0) ag))) δ=some (.lst ((l.map fun _=>true).map D.bl),δ):=by
 have e:=cq (js:=[]) (δc:=δ) (src:=a6 (aa 5)) (n:=1) (g:=gN 0) (fc:=fun _=>some true) (felt:=vI (aU eE (af (ab 0) ag))) (ds:=l.map (cM W bs)) (xs:=(l.map (cM W bs)).map fun _=>D.bl true) (ιe:=[none]) (by
  unfold a6;rw[f];simp only[sh,Zc,gQ]) rfl (dW fun d j=>by
  obtain⟨c,o,rfl⟩:=Zs.mp j;obtain⟨h1,h2,q⟩:=h c o;refine⟨[some (cM W bs c)],by rw[qR];rfl,rfl,[some (cM W bs c)],?_,rfl⟩
  have m:=vC (bs:=bs) h1 (by
   rcases h2 with⟨z,_⟩|⟨z,y⟩
   . exact .inl z
   . exact .inr ⟨z,y⟩)
  simp[ab,shs,imm,qR,m]) (by rw[Zm,Zm];lia)
 rw[e];simp only[List.map_map,aP,Zw];rfl
theorem wA{j:be}(h:At ws p (yD j))(ok:okRoom W j)(s:j.name∉rl.map (·.name))(U:rl.length<6)(V:0<M.length)(v:bs.length<=900)(y:P=[]\/∃l x,P=l++[x]/\x.1+1<M.length) :
 jG [Do W bs M (R++[rl]) P,Wo r ws p]=some (.non,[some (Do W bs M (R++[rl++[j]]) P),some (Wo r ws ws.length)]):=by
 have h1:=h.next;obtain⟨p2,J,h2⟩:=qa (r:=r) h1 (Bf (by decide +kernel) (cI (by decide +kernel) (by decide))) ok.p0 ok.p1 (fun z=>by
  have:=ok.p0;unfold sj at z;rw[Bool.or_eq_false_iff]at z;have:=of_decide_eq_false z.1
  lia)
 obtain⟨Q,I,C⟩:=pK (r:=r) h2 (cI (by decide +kernel) (by decide))
 obtain⟨m,H,B⟩:=tj (M:=M) (R:=R++[rl]) (P:=P) (r:=r) (bs:=bs) C (by decide) (fun c u=>(ok.stays c u).cond) ok.len v [some (.str j.name),some (.int j.price),some (.bl j.hurry),none]
 have pe:m=ws.length:=B.end_;subst pe;have L:=gE (r:=r) h.head ok.name;have D:(decide (j.name∈rl.map (·.name)))=false:=decide_eq_false s;have q:((rl.length:Int)<6)=True:=eq_true (by lia)
 have o:((M.length:Int)>0)=True:=eq_true (by lia)
 have t:bA [Db W bs M (R++[rl]) P]=some (.bl false,[some (Db W bs M (R++[rl]) P)]):=by
  rcases y with rfl|⟨l,x,rfl,S⟩
  . exact vU
  . rw [vT];have:((x.1:Int) == (M.length:Int) - 1)=false:=by simp;lia
    rw[this]
 have es:=Aa (bs:=bs) ok.stays ok.len [some (Db W bs M (R++[rl]) P),some (Wb r ws ws.length),some (.str j.name),some (.int j.price),some (.bl j.hurry),some (.seq (j.stays.map (cM W bs)))] rfl;have G:((j.stays.map fun _=>true).all id)=true:=jw fun _ _=>rfl
 have O:=FG (W:=W) (bs:=bs) (M:=M) (R:=R) (P:=P) (rl:=rl) (f:=IQ) (d:=gU W bs j) (δ:=[some (Wo r ws ws.length),some (.str j.name),some (.int j.price),some (.bl j.hurry),some (.seq (j.stays.map (cM W bs)))]) (δ':=[some (Wo r ws ws.length),some (.str j.name),some (.int j.price),some (.bl j.hurry),some (.seq (j.stays.map (cM W bs)))]) (by
  simp[br,aa,noo,Al,gU]) (by lia)
 have rn:=lj (W:=W) (bs:=bs) (M:=M) (R:=R) (P:=P) (rl:=rl) (by lia)
 simp only[IQ,jG,mh,Dl.start,av,aE,aX,bg,fN,ka,iB,e_C,uq,bT,bS,bu,bM,bU,cS,cC,aZ,aP,a8,bC,ab,aa,bL,gp,iY,g9,oN,j9,da,oO,zA,aV,sh,shs,noo,imm,Zc,Zd,Zv,Zw,Zi,Zj,Zn,Zo,Zm,Ze,Zf,Zg,Zh,ZP,ZS,ZV,ZQ,Nat.reduceSub,Nat.reduceAdd,ZR,Z8,Z9,Bool.not_false,Zu,ZI,or_false,or_true,decide_true,jt,o,Iy,aO,je,fO,t,Ij,asB,bK,bq,pr,fF,Int.reduceNeg,kc,q,io,L,zF,rn,D,J,eM,I,H,qQ,gQ,lD,shO,es,E8,G,O];simp only[IQ,Do,Zx,Zv,Zw]
end
section
variable {bs:Yh bD} 
noncomputable def qh:Option (Str×Str)->List Str
 |none=>[]
 |some w=>[w.1,w.2]
def nP:Option (Str×Str)->Prop
 |none=>True
 |some w=>(w.1=Str.ofString "say" \/ w.1=Str.ofString "hear")/\aJ w.2
structure okDoor(W B rn:List Str)(d:bt):Prop where
 start:d.start∈rn
 goal:d.goal∈rn
 word:nP d.word
 p0:0<=d.price
 p1:d.price<=10^30
 conds:∀c∈d.conds,gX W B c
 deeds:∀c∈d.deeds,iP W B c
 lc:d.conds.length<=900
 ld:d.deeds.length<=900
def oA(d:bt):Bool:=decide (d.price>0)||decide (d.goal.length%2=1)
def zE (d:bt):List Str:=d.start::d.goal::(lO d.weather "weather" ++ (qh d.word++(k8 (oA d) d.price++(jW "when" d.conds++(jW "do" d.deeds++[])))))
def Be (f:nP w) (h1:Str.ofString "say" ≠ x) (h2:Str.ofString "hear" ≠ x) (j:l.head?≠some x):(qh w++l).head?≠some x:=by
 cases w with
 |none=>exact j
 |some w =>
  show some w.1≠some x;rcases f.1 with h|h<;>rw[h]
  . exact fun z=>h1 (ZH z)
  . exact fun z=>h2 (ZH z)
def zO (h:At ws p (qh w++l)) (m:nP w) (h1:l.head?≠some ("say":Str)) (h2:l.head?≠some ("hear":Str)):∃f,bN [Wo r ws p]=some (bJ w,[some (Wo r ws f)])/\At ws f l:=by
 cases w with
 |none=>exact⟨p,rJ (At.not h h1) (At.not h h2) h.2,h⟩
 |some w =>
  obtain⟨k,w⟩:=w;refine⟨p+2,?_,At.skip h⟩;obtain⟨hk,j⟩:=m;rcases hk with rfl|rfl
  . exact pL h.1 j
  . exact oV h.1 j
def Bo (h:At ws p (jW "do" ds++l)) (hk:l.head? ≠ some ("do":Str)) (q:∀ c∈ds,c.2.2.natAbs < 10 ^ 31) (m:ds.length<=900) (o) (δ) :
 ∃p2,pC N5 bq0 (bR am) (o::some (Wo r ws p)::δ)=some (.lst ((ds.map tri).map thD),o::some (Wo r ws p2)::δ)/\At ws p2 l:=by
 unfold jW at h
 by_cases h0:ds=[]
 . subst h0;rw[if_pos rfl]at h;have e:=gT (r:=r) (At.not h hk) h.2;exact⟨p,by simp[aa,bL,noo,imm,eM,e],h⟩
 . rw [if_neg h0] at h;have e:=gP (r:=r) (At.head h);have h1:=At.next h;have s:=jT (r:=r) (cs:=ds.map tri) (p:=p+1) (by simpa using h0) h1.1 (fun c j=>by
    obtain⟨d,f,rfl⟩:=Zs.mp j;exact B7 d (q d f)) (by simpa using m)
   refine⟨p+1+3*(ds.map tri).length,by simp[aa,bL,noo,imm,eM,e,lf,s],?_⟩
   have:=At.skip h1;rw[nC]at this;exact this
def Cg(l):gG (wO l)=true:=by
 unfold wO;generalize (List.range 5).filter _=m
 induction m with
 |nil=>rfl
 |cons a m f=>rw[Zv,gG,f];rfl
def xU(l:Yh (Str×Str×Int)):gG (iC W bs l)=true:=by
 unfold iC;generalize l.filter _=m
 induction m with
 |nil=>rfl
 |cons a m f=>rw[Zv,gG,f];rfl
theorem wB{d}(h:At ws p (zE d))(ok:okDoor W (bnm bs) (rl.map (·.name)) d)(l:rl.length<=900)(f:rl≠[])(m:bs.length<=900)(y:W.length<=4)(hP:P.length<24)(hM:0<M.length) :
 jH [Do W bs M (R++[rl]) P,Wo r ws p]=some (.non,[some (Do W bs M (R++[rl]) (P++[(M.length-1,d)])),some (Wo r ws ws.length)]):=by
 have Z:([]:Yh Str).head?≠some ("do":Str):=by decide
 obtain⟨Y,Q,H⟩:=pK (r:=r) h.next.next (Be ok.word (by decide +kernel) (by decide +kernel) (nZ (by decide +kernel) (cI (by decide +kernel) (cI (by decide +kernel) (by decide)))))
 obtain⟨X,O,G⟩:=zO (r:=r) H ok.word (nZ (by decide +kernel) (cI (by decide +kernel) (cI (by decide +kernel) (by decide)))) (nZ (by decide +kernel) (cI (by decide +kernel) (cI (by decide +kernel) (by decide))))
 obtain⟨p5,L,D⟩:=qa (r:=r) G (cI (by decide +kernel) (cI (by decide +kernel) (by decide))) ok.p0 ok.p1 (fun z=>by
  have:=ok.p0;unfold oA at z;rw[Bool.or_eq_false_iff]at z;have:=of_decide_eq_false z.1
  lia)
 obtain⟨V,J,C⟩:=tj (M:=M) (R:=R++[rl]) (P:=P) (r:=r) (bs:=bs) D (cI (by decide +kernel) (by decide)) ok.conds ok.lc m [some (.str d.start),some (.str d.goal),some (.bl d.weather),some (bJ d.word),some (.int d.price),none,none,none,none,none]
 obtain⟨q,I,B⟩:=Bo (r:=r) C (by decide) (fun c x=>ql (ok.deeds c x)) ok.ld (some (Do W bs M (R++[rl]) P)) [some (.str d.start),some (.str d.goal),some (.bl d.weather),some (bJ d.word),some (.int d.price),some (.seq (d.conds.map (cM W bs))),none,none,none,none]
 have pe:q=ws.length:=B.end_;subst pe;have U:=lh (W:=W) (M:=M) (bs:=bs) (R:=R) (P:=P) (r:=r) h.head ok.start l;have S:=lh (W:=W) (M:=M) (bs:=bs) (R:=R) (P:=P) (r:=r) h.next.head ok.goal l;have j:(0<rl.length)=True:=eq_true (List.length_pos_iff.mpr f);have u:((P.length:Int)<24)=True:=eq_true (by lia)
 have v:(P.length<=999)=True:=eq_true (by lia)
 have o:=An (W:=W) (M:=M) (bs:=bs) (R:=R++[rl]) (P:=P) (r:=r) (ws:=ws) (p:=ws.length) ok.deeds ok.ld y;have dd:=Fd (W:=W) (M:=M) (bs:=bs) (R:=R++[rl]) (P:=P) (r:=r) (ws:=ws) (p:=ws.length) ok.deeds ok.ld m;have s:noo (bJ d.word)=true:=by cases d.word<;>rfl
 have t:((M.length:Int)-1)=((M.length-1:Nat):Int):=by lia
 simp only[jH,ml,Dl.start,av,aE,aX,bg,fN,ka,iB,e_C,bT,bS,bu,bM,bU,cS,cC,aZ,xM,aP,a8,bC,ab,aa,bL,gp,iY,g9,oN,cG,aw,kY,atP,cL,j9,da,aV,cW,sh,shs,noo,imm,own,gG,Zc,Zd,Zv,Zw,Zi,Zj,Zn,Zo,Zm,Ze,Zf,Zg,Zh,ZP,ZS,ZV,ZQ,Nat.reduceSub,Nat.reduceAdd,ZR,Z8,Z9,Bool.and_self,Zu,ZI,or_false,or_true,and_self,decide_true,ut,aO,je,fO,j3,j,pv,u,bK,bq,b8,cR,im,U,S,hX,tZ,eM,Q,O,kC,L,J,qQ,I,B8,nz,tL,o,dd,Cg,xU,tN,oe,jt,t,Fb,br,s,Bm,v];simp only[Do,tf,Zx,Zv,Zw]
end
section
variable {bs:Yh bD} 
def MB:L2.atI [a,b] 0=some a:=rfl
def O5:L2.atI [a,b] 1=some b:=rfl
def EM{a b}:∃c,bQ (bJ w) (.tup [.str a,.str b])=some (.bl c):=by
 cases w with
 |none=>exact⟨false,rfl⟩
 |some w=>exact⟨_,by simp[bQ,bJ,eqN,kd,nn,eq0,eqL,eS,toV];rfl⟩
def EE (x y:Nat×bt):∃ b,iI [bB W bs x,bB W bs y]=some (.bl b,[some (bB W bs x),some (bB W bs y)]):=by
 cases f:y.2.word with
 |none=>exact⟨false,by simp[iI,kR,Dl.start,av,ab,gC,imm,bB,qm,f,bJ]⟩
 | some w =>
  cases l:(w.1==Str.ofString "say")with
  |false=>exact⟨false,by simp[iI,kR,Dl.start,av,ab,gC,imm,bB,qm,f,bJ,MB,l]⟩
  | true =>
   cases m:((y.1:Int)==(x.1:Int))with
   |true=>exact⟨false,by simp[iI,kR,Dl.start,av,ab,gC,imm,bB,qm,f,bJ,MB,l,nQ,m]⟩
   |false =>
    obtain⟨c,e⟩:=EM (w:=x.2.word) (a:="hear") (b:=w.2);have j:bJ y.2.word=.tup [.str w.1,.str w.2]:=by rw[f];rfl
    exact⟨c,by simp[iI,kR,Dl.start,av,ab,gC,imm,bB,qm,j,MB,O5,l,nQ,m,e]⟩
theorem pH{n}{g}{fc}{felt}{ι}:∀{ds},(∀d∈ds,∃f b,g (sh d) ι=some f/\fc f=some b/\clr n f=ι/\∃j,felt f=some (.tin,j)/\clr n j=ι)->∃m,m<=ds.length/\bi n g fc felt ds ι=some (List.replicate m .tin,ι)
 |[],_=>⟨0,ZM 0,rfl⟩
 |d::ds,h=>by
  obtain⟨f,b,h1,h2,r,j,q,p⟩:=h d (Zp ..);obtain⟨m,l,e⟩:=pH fun x o=>h x (Zq _ o)
  cases b with
  |false=>exact⟨m,Nat.le_succ_of_le l,by simp[bi,h1,h2,r,e]⟩
  |true=>exact⟨m+1,Nat.succ_le_succ l,by simp only[bi,h1,h2,q,p,e,Zc,Z8,ZV]⟩
def F8(n:Nat):(List.replicate n D.tin).all vM=true:=by rw[List.all_replicate];cases n<;>rfl
theorem J5:-(2^62:Int)<=0:=by decide
def J6:((1000:Nat):Int)<2^62:=by decide
noncomputable def J7(lo hi:Int)(p:D×DS):Option (List D×DS):=match p.1 with
 |.int b=>if lo<=b/\b<hi then some ((List.range b.toNat).map fun(i:Nat)=>D.int (0+(i:Int)*1),p.2)else none
 |_=>none
def Cy(f) (δ):dG f δ=(f δ).bind (J7 (-(2^62)) (2^62)):=rfl
def yE{n:Nat}(h1:lo<=n)(h2:(n:Int)<hi):J7 lo hi (.int n,δ)=some ((List.range n).map fun(i:Nat)=>D.int (i:Int),δ):=by unfold J7;simp only;rw[if_pos ⟨h1,h2⟩];simp
def Jg{n:Nat}:-(2^62)<=(n:Int):=Int.le_trans J5 (Int.natCast_nonneg n)
def Jh{n:Nat}(h:n<=1000):(n:Int)<2^62:=Int.lt_of_le_of_lt (Int.ofNat_le.mpr h) J6
def wW{n}(h:n<=1000)(f) (δ:DS) (j:f δ=some (.int n,δ)):dG f δ=some ((List.range n).map fun(i:Nat)=>D.int (i:Int),δ):=by rw[Cy,j,Zc];exact yE Jg (Jh h)
def yc{ds}{k:Nat}{d:D}(h:ds[k]?=some d):L2.atI ds (k:Int)=some d:=L2.atI_nat h
theorem EX:∀{l}{i:Nat}{d:D},d∈enF i l->∃(k:Nat)(e:D),d=.tup [.int (k:Int),e]/\e∈l
 |[],_,_,h=>by cases h
 |x::l,i,d,h=>by
  rcases Zu.mp (h)with rfl|h
  . exact⟨i,x,rfl,Zp ..⟩
  . obtain⟨k,e,h1,h2⟩:=EX h;exact⟨k,e,h1,Zq _ h2⟩
theorem xJ:∀(l:Yh D) i,(enF i l).length=l.length
 |[],_=>rfl
 |x::l,i=>by show(enF (i+1) l).length+1=_;rw[xJ l (i+1)];rfl
abbrev dsQ(W:List Str)(bs:List bD)(P:List (Nat×bt)):D:=.seq (P.map (bB W bs))
def zD{i}(hi:i<P.length):(P.map (bB W bs))[i]?=some (bB W bs P[i]):=by rw[List.getElem?_map,Zy hi];rfl
def s8(h:δ[0]?=some (some (dsQ W bs P))):(vI (a9 sS (af (ab 0) ag))) δ=some (.int P.length,δ):=by simp[ab,imm,h]
theorem FK (p:P.length<=24):∃m,m<=P.length/\aD (dG (vI (a9 sS (af (ab 0) ag)))) 1 [0] (gN 0) (fT (f2 xz (gm [bb] "word" (f2 gIx (ab 1) (ab 0))) (fC .non))) (rG (cY (ae (aa 0) am))) [some (dsQ W bs P),none,none,none]=some (.lst (List.replicate m .tin),[some (dsQ W bs P),none,none,none]):=by
 obtain⟨j,f,l⟩:=pH (n:=1) (g:=gN 0) (fc:=fT (f2 xz (gm [bb] "word" (f2 gIx (ab 1) (ab 0))) (fC .non))) (felt:=rG (cY (ae (aa 0) am))) (ι:=[none,some (dsQ W bs P)]) (ds:=(List.range P.length).map fun (i:Nat)=>D.int (i:Int)) (fun d o=>by
  obtain⟨i,hi,rfl⟩:=Zs.mp o;have hi:=List.mem_range.mp hi;refine⟨[some (.int i),some (dsQ W bs P)],gC (bJ P[i].2.word),rfl,?_,rfl,[some (.int i),some (dsQ W bs P)],?_,rfl⟩
  . simp[ab,yc (zD hi),bB,qm]
  . simp[rG,uT,aa,noo,qz,List.cons_ne_nil])
 rw[Zm,List.length_range]at f;refine⟨j,f,?_⟩;rw[cq (js:=[0]) (δ1:=[some (dsQ W bs P),none,none,none]) (δc:=[some (dsQ W bs P),none,none,none]) (cs:=[dsQ W bs P]) (wW (n:=P.length) (by lia) _ _ (s8 rfl)) rfl l (by rw[List.length_replicate];lia)]
 rfl
theorem FJ(t:P.length<=24)(n k:Nat)(x:Nat×bt)(s:n<=600):∃m,m<=24/\Aq 1 aw N3 [some (dsQ W bs P),some (.lst (List.replicate n .tin)),some (.int k),some (bB W bs x)]=some (.nx [some (dsQ W bs P),some (.lst (List.replicate (n+m) .tin)),some (.int k),some (bB W bs x)]):=by
 obtain⟨m,o,l⟩:=pH (n:=1) (g:=gN 0) (fc:=fT (aU iI (af (f2 gIx (ab 2) (ab 0)) (af (ab 1) ag)))) (felt:=rG (cY (ae (aa 3) (ae (aa 0) am)))) (ι:=[none,some (bB W bs x),some (dsQ W bs P),some (.int k)]) (ds:=(List.range P.length).map fun(i:Nat)=>D.int (i:Int)) (fun d p=>by
  obtain⟨i,hi,rfl⟩:=Zs.mp p;have hi:=List.mem_range.mp hi;obtain⟨b,q⟩:=EE (W:=W) (bs:=bs) P[i] x;refine⟨[some (.int i),some (bB W bs x),some (dsQ W bs P),some (.int k)],b,rfl,?_,rfl,[some (.int i),some (bB W bs x),some (dsQ W bs P),some (.int k)],?_,rfl⟩
  . simp[ab,shs,yc (zD hi),qM,q]
  . simp[rG,uT,aa,noo,qz,List.cons_ne_nil])
 rw[Zm,List.length_range]at o;refine⟨m,by lia,?_⟩
 have j:noo (bB W bs x)=true:=rfl;have r:=cq (js:=[3,0,2]) (δ:=[some (dsQ W bs P),none,some (.int k),some (bB W bs x)]) (δ1:=[some (dsQ W bs P),none,some (.int k),some (bB W bs x)]) (δc:=[some (dsQ W bs P),none,some (.int k),some (bB W bs x)]) (cs:=[bB W bs x,dsQ W bs P,.int k]) (wW (n:=P.length) (by lia) _ _ (s8 rfl)) (by simp[takes,aa,noo,j]) l (by rw[List.length_replicate];lia)
 have f:(n+m<=1000)=True:=eq_true (by lia)
 simp[Aq,aw,atP,cL,br,r,List.length_replicate,List.replicate_append_replicate,f]
theorem F6{s}{Q}{f:Nat×bt->D}(v:∀x,sh (f x)=f x)(u:∀(n k:Nat)(x:Nat×bt),n<=600->∃m,m<=24/\s [some Q,some (.lst (List.replicate n .tin)),some (.int k),some (f x)]=some (.nx [some Q,some (.lst (List.replicate (n+m) .tin)),some (.int k),some (f x)])):∀L n(o q:Yg D),(∀d∈L,∃(k:Nat)(x:Nat×bt),d=.tup [.int k,f x])->n+24*L.length<=600->∃m o' j,m<=n+24*L.length/\cn (jR [2,3]) s L [some Q,some (.lst (List.replicate n .tin)),o,q]=some (.nx [some Q,some (.lst (List.replicate m .tin)),o',j]):=by
 intro L
 induction L with
 |nil=>intro n o q _ h;exact⟨n,o,q,Nat.le_add_right _ _,rfl⟩
 |cons d L t =>
  intro n o q l h;rw[Zn]at h;obtain⟨k,x,rfl⟩:=l d (Zp ..);obtain⟨r,h1,h2⟩:=u n k x (by lia)
  obtain⟨m,o',j,C,z⟩:=t (n+r) (some (.int k)) (some (f x)) (fun e y=>l e (Zq _ y)) (by lia)
  refine⟨m,o',j,by rw[Zn];lia,?_⟩
  have p:sh (.tup [.int k,f x])=.tup [.int k,f x]:=by simp only[sh,shs,v]
  have B:jR [2,3] (.tup [.int k,f x]) [some Q,some (.lst (List.replicate n .tin)),o,q]=some [some Q,some (.lst (List.replicate n .tin)),some (.int k),some (f x)]:=rfl;simp only[cn,p,B,Zc,h2,z]
def fM{g}{s:SQ}{δ1:DS}{ds:Yh D}{r}(h1:src δ=some (ds,δ1))(h2:cn g s ds δ1=some r):f8 src g s δ=some r:=by simp only[f8,h1,Zc,h2]
theorem IY(j:P.length<=24):∃n,n<=600/\gR [dsQ W bs P]=some (.lst (List.replicate n .tin),[some (dsQ W bs P)]):=by
 obtain⟨f,q,u⟩:=FK j;obtain⟨m,o',o,h1,h2⟩:=F6 qM (fun n k x p=>FJ j n k x p) (enF 0 (P.map (bB W bs))) f none none (fun d s=>by obtain⟨k,e,rfl,r⟩:=EX s;obtain⟨x,_,rfl⟩:=Zs.mp r;exact⟨k,x,rfl⟩) (by rw[xJ,Zm];lia)
 rw[xJ,Zm]at h1;refine⟨m,by lia,?_⟩
 have st:ue [.lst (List.replicate m .tin)]=some (.lst (List.replicate m .tin)):=by simp only[ue,oi,Zc,F8,Z8]
 have t:rV (aa 0) [some (dsQ W bs P),some (.lst (List.replicate f .tin)),none,none]=some (enF 0 (P.map (bB W bs)),[some (dsQ W bs P),some (.lst (List.replicate f .tin)),none,none]):=by simp[rV,aa,sh,noo,cP]
 have fo:=fM t h2;have l:kT [some (dsQ W bs P),none,none,none]=some (.rt (.lst (List.replicate m .tin)) [some (dsQ W bs P),some (.lst (List.replicate m .tin)),o',o]):=by unfold kT;rw[aE,j8,u,Zc,aX,aE];show uV _ (f8 _ _ _ [some (dsQ W bs P),some (.lst (List.replicate f .tin)),none,none])=_;rw[fo,aX,cA];simp[pF,ab,st]
 unfold gR;rw[show Dl.start 4 [dsQ W bs P]=[some (dsQ W bs P),none,none,none]from rfl,l]
 rfl
end
variable {t:Yg D} {gg:Yh D->Yg D}
section
variable {bs:Yh bD} 
noncomputable abbrev NN:List Str:=["text","watch_names","box_tuples","machine_names","own_rooms","own_doors","own_acts"]
abbrev FN(t:Str)(W:List Str)(bs:List bD)(M:List Str)(R:List (List be))(P:List (Nat×bt)):D:=.oo aG NN [.str t,.seq (W.map D.str),.seq (bs.map aq),.seq (M.map D.str),.lst (R.map fun _=>.dct),.seq (P.map (bB W bs)),.dct]
theorem Mf (h:rl.length<=900) (δ) (j:aa 0 (shO δ)=some (.seq (rl.map (bG W bs)),shO δ)):a9 (oZ true) (af (jr (aD (a6 (aa 0)) 1 [] (gN 0) (fun _=>some true) (cY (ae (vI (gm [bO] "name" (ab 0))) (ae (aa 0) am))))) ag) δ=some .dct:=by
 have e:=cq (js:=[]) (δc:=shO δ) (src:=a6 (aa 0)) (n:=1) (g:=gN 0) (fc:=fun _=>some true) (felt:=cY (ae (vI (gm [bO] "name" (ab 0))) (ae (aa 0) am))) (ds:=rl.map (bG W bs)) (xs:=(rl.map (bG W bs)).map fun d=>match d with|.ob C n (x::l)=>.tup [x,.ob C n (x::l)]|_=>.non) (ιe:=[none]) (by
  unfold a6;rw[j];simp only[sh,Zc,lI]) rfl (dW fun d f=>by
  obtain⟨c,o,rfl⟩:=Zs.mp f;refine⟨[some (bG W bs c)],by rw[mI];rfl,rfl,[some (bG W bs c)],?_,rfl⟩
  simp[ab,aa,noo,imm,bG,CC]) (by rw[Zm,Zm];lia)
 have ga:oZ true [.lst ((rl.map (bG W bs)).map fun d=>match d with|.ob C n (x::l)=>.tup [x,.ob C n (x::l)]|_=>.non)]=some .dct:=by unfold oZ;simp only[oi,Zc];rw[if_pos];rw[List.all_eq_true];intro d f;obtain⟨e,m,rfl⟩:=Zs.mp f;obtain⟨c,o,rfl⟩:=Zs.mp m;rfl
 rw[bu,bU,lD,e,Zc,Zc,bM,Zc,Zc];exact ga
theorem Ak (h:∀rl∈R,rl.length<=900) (o:R.length<=900) (δ) (f:aa 5 δ=some (.seq (R.map fun l=>.seq (l.map (bG W bs))),δ)):aD (a6 (aa 5)) 1 [] (gN 0) (fun _=>some true) (vI (a9 (oZ true) (af (jr (aD (a6 (aa 0)) 1 [] (gN 0) (fun _=>some true) (cY (ae (vI (gm [bO] "name" (ab 0))) (ae (aa 0) am))))) ag))) δ=some (.lst (R.map fun _=>.dct),δ):=by
 rw [cq (δc:=δ) (xs:=(R.map fun l=>D.seq (l.map (bG W bs))).map fun _=>.dct) (ιe:=[none]) (by
     unfold a6;rw[f];simp only[sh,Zc,gW]) rfl (dW fun d m=>by
     obtain⟨l,j,rfl⟩:=Zs.mp m;refine⟨[some (.seq (l.map (bG W bs)))],by rw[Cz];rfl,rfl,[some (.seq (l.map (bG W bs)))],?_,rfl⟩
     rw[bS,Mf (W:=W) (bs:=bs) (h l j) _ (by simp[shO,aa,sh,noo,lI])]
     rfl) (by rw[Zm,Zm];lia)]
 rw[List.map_map];rfl
def F4(n):shs (List.replicate n .tin)=List.replicate n .tin:=by rw[o8,List.map_replicate];rfl
def zQ{G}{l}{Q4}{i}(f:aa i δ=some (a,δ))(j:G [a]=some (.lst l,Q4))(st:shs l=l):a6 (aj [none] G (ae (aa i) am)) δ=some (l,gu [none] Q4 δ):=by unfold a6;rw[aZ,cC,f];simp only[cS,Zc,j,sh,st]
theorem zX{n}(l:n<=600)(f:src δ=some (List.replicate n .tin,δ)):aD src 1 [] (gN 0) (fun _=>some true) (cY (ae (aa 0) (ae (vI (fC (.bl true))) am))) δ=some (.lst ((List.replicate n D.tin).map fun d=>.tup [d,.bl true]),δ):=by
 rw[cq (xs:=(List.replicate n D.tin).map fun d=>.tup [d,.bl true]) f rfl (dW fun d j=>by rw[List.eq_of_mem_replicate j];exact⟨[some .tin],rfl,rfl,[some .tin],rfl,rfl⟩) (by rw[Zm,List.length_replicate];lia)]
 rfl
def F7(n):oZ false [.lst ((List.replicate n D.tin).map fun d=>.tup [d,.bl true])]=some .dct:=by unfold oZ;simp only[oi,Zc];rw[if_pos];rw[List.all_eq_true];intro d j;obtain⟨e,f,rfl⟩:=Zs.mp j;rw[List.eq_of_mem_replicate f];rfl
def Fo{w}{δ'}{d r}(h:w (shO δ)=some (d,δ'))(g:gg [d]=some r):a9 gg (af (jr w) ag) δ=some r:=by rw[bu,bU,lD,h,Zc,Zc,bM,Zc,Zc];exact g
def FL(l:P.length<=24)(δ) (f:aa 6 (shO δ)=some (dsQ W bs P,shO δ)):a9 (oZ false) (af (jr (aD (a6 (aj [none] gR (ae (aa 6) am))) 1 [] (gN 0) (fun _=>some true) (cY (ae (aa 0) (ae (vI (fC (.bl true))) am))))) ag) δ=some .dct:=by obtain⟨n,j,m⟩:=IY l;have src:=zQ f m (F4 n);have e:=zX j src;exact Fo e (F7 n)
def D8{t}(h:∀rl∈R,rl.length<=900)(u:R.length<=900)(v:P.length<=24):∃Q4,dF [.oo aG [] [],.str t,.seq (W.map D.str),.seq (bs.map aq),.seq (M.map D.str),.seq (R.map fun l=>.seq (l.map (bG W bs))),dsQ W bs P]=some (.non,some (FN t W bs M R P)::Q4):=by
 refine⟨[some (.str t),some (.seq (W.map D.str)),some (.seq (bs.map aq)),some (.seq (M.map D.str)),some (.seq (R.map fun l=>.seq (l.map (bG W bs)))),some (dsQ W bs P)],?_⟩
 let r:DS:=[some (.str t),some (.seq (W.map D.str)),some (.seq (bs.map aq)),some (.seq (M.map D.str)),some (.seq (R.map fun l=>.seq (l.map (bG W bs)))),some (dsQ W bs P)]
 have f1:=cO (i:=0) (Cs:=[aG]) (x:="text") (f:=aa 1) (δ:=some (.oo aG [] [])::r) (d:=.str t) rfl rfl (by simp) (by decide) rfl rfl
 have f2:=cO (i:=0) (Cs:=[aG,ak]) (x:="watch_names") (f:=aa 2) (δ:=some (.oo aG ["text"] [.str t])::r) (d:=.seq (W.map D.str)) rfl rfl (by simp) (by simp) (by decide +kernel) rfl
 have q:=cO (i:=0) (Cs:=[aG,ak]) (x:="box_tuples") (f:=aa 3) (δ:=some (.oo aG ["text","watch_names"] [.str t,.seq (W.map D.str)])::r) (d:=.seq (bs.map aq)) rfl rfl (by simp) (by simp) (by decide +kernel) rfl
 have p:=cO (i:=0) (Cs:=[aG,ak]) (x:="machine_names") (f:=aa 4) (δ:=some (.oo aG ["text","watch_names","box_tuples"] [.str t,.seq (W.map D.str),.seq (bs.map aq)])::r) (d:=.seq (M.map D.str)) rfl rfl (by simp) (by simp) (by decide +kernel) rfl
 have o:=cO (i:=0) (Cs:=[aG]) (x:="own_rooms") (δ:=some (.oo aG ["text","watch_names","box_tuples","machine_names"] [.str t,.seq (W.map D.str),.seq (bs.map aq),.seq (M.map D.str)])::r) (Ak (W:=W) (bs:=bs) h u _ rfl) rfl (by simp) (by simp) (by decide +kernel) rfl
 have m:=cO (i:=0) (Cs:=[aG]) (x:="own_doors") (f:=aa 6) (δ:=some (.oo aG ["text","watch_names","box_tuples","machine_names","own_rooms"] [.str t,.seq (W.map D.str),.seq (bs.map aq),.seq (M.map D.str),.lst (R.map fun _=>.dct)])::r) (d:=dsQ W bs P) rfl rfl (by simp) (by simp) (by decide +kernel) rfl
 have s:aa 6 (shO (some (.oo aG ["text","watch_names","box_tuples","machine_names","own_rooms","own_doors"] [.str t,.seq (W.map D.str),.seq (bs.map aq),.seq (M.map D.str),.lst (R.map fun _=>.dct),dsQ W bs P])::r))=some (dsQ W bs P,shO (some (.oo aG ["text","watch_names","box_tuples","machine_names","own_rooms","own_doors"] [.str t,.seq (W.map D.str),.seq (bs.map aq),.seq (M.map D.str),.lst (R.map fun _=>.dct),dsQ W bs P])::r)):=by
  unfold aa;rw[show(shO (some (D.oo aG ["text","watch_names","box_tuples","machine_names","own_rooms","own_doors"] [.str t,.seq (W.map D.str),.seq (bs.map aq),.seq (M.map D.str),.lst (R.map fun _=>.dct),dsQ W bs P])::r))[6]?=some (some (sh (dsQ W bs P)))from rfl]
  rw[show sh (dsQ W bs P)=dsQ W bs P by simp only[sh,cP]]
  rfl
 have j:=cO (i:=0) (Cs:=[aG]) (x:="own_acts") (f:=vI (a9 (oZ false) (af (jr (aD (a6 (aj [none] gR (ae (aa 6) am))) 1 [] (gN 0) (fun _=>some true) (cY (ae (aa 0) (ae (vI (fC (.bl true))) am))))) ag))) (δ:=some (.oo aG ["text","watch_names","box_tuples","machine_names","own_rooms","own_doors"] [.str t,.seq (W.map D.str),.seq (bs.map aq),.seq (M.map D.str),.lst (R.map fun _=>.dct),dsQ W bs P])::r) (d:=.dct) (by rw[bS,FL (W:=W) (bs:=bs) v _ s];rfl) rfl (by simp) (by simp) (by decide +kernel) rfl
 unfold dF ik;rw[show Dl.start 7 [.oo aG [] [],.str t,.seq (W.map D.str),.seq (bs.map aq),.seq (M.map D.str),.seq (R.map fun l=>.seq (l.map (bG W bs))),dsQ W bs P]=some (.oo aG [] [])::r from rfl]
 simp at f1 f2 q p o m j;rw[aE,f1,aX,aE,f2,aX,aE,q,aX,aE,p,aX,aE,o,aX,aE,m,aX,j];rfl
end
inductive rQ where
 |watch (n:Str)
 |box (b:bD)
 |mach (n:Str)
 |room (r:be)
 |door (d:bt)
noncomputable def rowW:rQ->List Str
 |.watch n=>["watch",n]
 |.box b=>["box",b.1,num b.2.1,num b.2.2.1,num b.2.2.2]
 |.mach n=>["machine",n]
 |.room r=>"room" :: yD r
 |.door d=>"door" :: zE d
structure Dr where
 W:List Str
 bs:List bD
 M:List Str
 R:List (List be)
 P:List (Nat×bt)
abbrev Dr.d(s:Dr):D:=Do s.W s.bs s.M s.R s.P
inductive Row:Dr->rQ->Dr->Prop
 |watch {W:List Str} {n:Str} (h1:aJ n) (h2:n∉W) (h3:W.length<4):Row ⟨W,[],[],[],[]⟩ (.watch n) ⟨W++[n],[],[],[],[]⟩
 |box {W:List Str} {bs:List bD} {b:bD} (h1:aJ b.1) (h2:b.1∉W++bnm bs) (h3:bs.length<3) (h4:W.length<=4) (h5:-20<=b.2.1) (h6:b.2.1<=b.2.2.2) (h7:b.2.2.2<=b.2.2.1) (h8:b.2.2.1<=20):Row ⟨W,bs,[],[],[]⟩ (.box b) ⟨W,bs++[b],[],[],[]⟩
 |mach {W M:List Str} {bs:List bD} {R:List (List be)} {P:List (Nat×bt)} {n:Str} (h1:aJ n) (h2:n∉W++bnm bs++M) (h3:W.length<=4) (h4:bs.length<=3) (h5:M.length<4) (h6:R.length=M.length) (h7:M=[]\/∃R0 rl,R=R0++[rl]/\rl≠[]) (h8:P.length<=100):Row ⟨W,bs,M,R,P⟩ (.mach n) ⟨W,bs,M++[n],R++[[]],P⟩
 |room {W M:List Str} {bs:List bD} {R:List (List be)} {P:List (Nat×bt)} {rl:List be} {r:be} (h1:okRoom W r) (h2:r.name∉rl.map (·.name)) (h3:rl.length<6) (h4:0<M.length) (h5:bs.length<=3) (h6:P=[]\/∃P0 x,P=P0++[x]/\x.1+1<M.length):Row ⟨W,bs,M,R++[rl],P⟩ (.room r) ⟨W,bs,M,R++[rl++[r]],P⟩
 |door {W M:List Str} {bs:List bD} {R:List (List be)} {P:List (Nat×bt)} {rl:List be} {d:bt} (h1:okDoor W (bnm bs) (rl.map (·.name)) d) (h2:rl.length<=6) (h3:rl≠[]) (h4:bs.length<=3) (h5:W.length<=4) (h6:P.length<24) (h7:0<M.length):Row ⟨W,bs,M,R++[rl],P⟩ (.door d) ⟨W,bs,M,R++[rl],P++[(M.length-1,d)]⟩
inductive Rows:Dr->List rQ->Dr->Prop
 |nil (s:Dr):Rows s [] s
 |cons {s s1 s2:Dr} {x:rQ} {l:List rQ} (h:Row s x s1) (t:Rows s1 l s2):Rows s (x::l) s2
def Rows.append{s s1 s2}{l m}(a:Rows s l s1)(b:Rows s1 m s2):Rows s (l++m) s2:=by
 induction a with
 |nil s=>exact b
 |cons h t f=>exact .cons h (f b)
def at0(h:ws=l):At ws 0 l:=by subst h;exact⟨rfl,Nat.zero_le _⟩
def gc{s s':Dr}{k}{G}(h0:ws[0]?=some k)(e:G [s.d,Wo r ws 1]=some (.non,[some s'.d,some (Wo r ws ws.length)]))(f:∀δ,δ=[some s.d,some (Wo r ws 1),some (.str k)]->Mn δ=bE (aj [some 0,some 1] G (ae (aa 0) (ae (aa 1) am))) δ):i7 [s.d,Wo r ws 0]=some (.non,[some s'.d,some (Wo r ws ws.length)]):=by have l:=mD (r:=r) h0;have j:=Bj (r:=r) (ws:=ws);have f:=f _ rfl;simp only[i7,ol,Dl.start,av,aE,aX,bg,cS,cC,aZ,aP,a8,aa,bL,iY,sh,noo,Zc,Zv,Zw,Zi,Zj,Zn,Zo,Ze,Zf,Zg,Zh,ZV,ZQ,Nat.reduceSub,Nat.reduceAdd,ZR,Z8,Z9,nu,l,Nat.zero_add,f];simp[ab,aa,sh,shs,noo,imm,e,BU,j]
theorem yf{s s':Dr}{x}(h:Row s x s')(r):i7 [s.d,Wo r (rowW x) 0]=some (.non,[some s'.d,some (Wo r (rowW x) (rowW x).length)]):=by
 cases h with
 |watch h1 h2 j =>
  refine gc rfl (uJ rfl h1 h2 j) fun δ f=>?_
  subst f;rw[Mn,gn,show fT (f2 bQ (ab 2) (fC (.str "watch"))) _=some true from by simp[ab,ZA]]
  rfl
 |box h1 h2 j o m l p t =>
  refine gc rfl (yg rfl h1 h2 j o m l p t) fun δ f=>?_
  subst f;have n1:(Str.ofString "box" == Str.ofString "watch")=false:=by decide +kernel
  simp[ab,n1,ZA]
 |mach h1 h2 j o m l p t =>
  refine gc rfl (rh rfl h1 h2 j o m l p t) fun δ f=>?_
  subst f;have n1:(Str.ofString "machine" == Str.ofString "watch")=false:=by decide +kernel
  have n2:(Str.ofString "machine" == Str.ofString "box")=false:=by decide +kernel
  simp[ab,n1,n2,ZA]
 |room h1 h2 j o m l =>
  refine gc rfl (wA (At.next (at0 rfl)) h1 h2 j o (ZZ m (by decide)) l) fun δ f=>?_
  subst f;have n1:(Str.ofString "room" == Str.ofString "watch")=false:=by decide +kernel
  have n2:(Str.ofString "room" == Str.ofString "box")=false:=by decide +kernel
  have q:(Str.ofString "room" == Str.ofString "machine")=false:=by decide +kernel
  simp[ab,n1,n2,q,ZA]
 |door h1 h2 j o m l p =>
  refine gc rfl (wB (At.next (at0 rfl)) h1 (by lia) j (ZZ o (by decide)) m l p) fun δ f=>?_
  subst f;have n1:(Str.ofString "door" == Str.ofString "watch")=false:=by decide +kernel
  have n2:(Str.ofString "door" == Str.ofString "box")=false:=by decide +kernel
  have q:(Str.ofString "door" == Str.ofString "machine")=false:=by decide +kernel
  have u:(Str.ofString "door" == Str.ofString "room")=false:=by decide +kernel
  simp[ab,aa,sh,shs,noo,imm,n1,n2,q,u,ZA,bK,bq]
def aT(x:rQ):Str:=Str.join ⟨#[32]⟩ (rowW x)
def aQ(l:List rQ):Str:=Str.join ⟨#[10]⟩ (l.map aT++[Str.empty])
def Gx(x):rowW x≠[]:=by cases x<;>exact List.cons_ne_nil _ _
def wF:dN [.oo ah [] [],.int r,.lst (ws.map D.str)]=some (.non,[some (Wo r ws 0),some (.int r),none]):=by
 have f1:=cO (i:=0) (Cs:=[ah]) (x:="row") (f:=aa 1) (δ:=[some (.oo ah [] []),some (.int r),some (.lst (ws.map D.str))]) (d:=.int r) rfl rfl (by simp) (by decide) rfl rfl
 have f2:=cO (i:=0) (Cs:=[ah]) (x:="words") (f:=aa 2) (δ:=[some (.oo ah ["row"] [.int r]),some (.int r),some (.lst (ws.map D.str))]) (d:=.lst (ws.map D.str)) rfl rfl (by simp) (by simp) (by decide +kernel) rfl
 have j:=cO (i:=0) (Cs:=[ah]) (x:="place") (f:=vI (fC (.int 0))) (δ:=[some (.oo ah ["row","words"] [.int r,.lst (ws.map D.str)]),some (.int r),none]) (d:=.int 0) rfl rfl (by simp) (by simp) (by decide +kernel) rfl
 simp at f1 f2 j;unfold dN fP;rw[show Dl.start 3 [.oo ah [] [],.int r,.lst (ws.map D.str)]=[some (.oo ah [] []),some (.int r),some (.lst (ws.map D.str))]from rfl,aE,f1,aX,aE,f2,aX,j]
 rfl
def xP:cK [.oo ak [] []]=some (.non,[some (Do [] [] [] [] [])]):=by
 have f1:=cO (i:=0) (Cs:=[aG,ak]) (x:="watch_names") (f:=bR am) (δ:=[some (.oo ak [] [])]) (d:=.lst []) rfl rfl (by simp) (by decide) rfl rfl
 have f2:=cO (i:=0) (Cs:=[aG,ak]) (x:="box_tuples") (f:=bR am) (δ:=[some (.oo ak ["watch_names"] [.lst []])]) (d:=.lst []) rfl rfl (by simp) (by simp) (by decide +kernel) rfl
 have m:=cO (i:=0) (Cs:=[aG,ak]) (x:="machine_names") (f:=bR am) (δ:=[some (.oo ak ["watch_names","box_tuples"] [.lst [],.lst []])]) (d:=.lst []) rfl rfl (by simp) (by simp) (by decide +kernel) rfl
 have l:=cO (i:=0) (Cs:=[ak]) (x:="room_lists") (f:=bR am) (δ:=[some (.oo ak ["watch_names","box_tuples","machine_names"] [.lst [],.lst [],.lst []])]) (d:=.lst []) rfl rfl (by simp) (by simp) (by decide +kernel) rfl
 have j:=cO (i:=0) (Cs:=[ak]) (x:="door_list") (f:=bR am) (δ:=[some (.oo ak ["watch_names","box_tuples","machine_names","room_lists"] [.lst [],.lst [],.lst [],.lst []])]) (d:=.lst []) rfl rfl (by simp) (by simp) (by decide +kernel) rfl
 simp at f1 f2 m l j;unfold cK fR;rw[show Dl.start 1 [.oo ak [] []]=[some (.oo ak [] [])]from rfl,aE,f1,aX,aE,f2,aX,aE,m,aX,aE,l,aX,j]
 rfl
structure qk(l:List rQ):Prop where
 free:∀x∈l,∀w∈rowW x,Fr 32 w/\Fr 10 w
 len:∀x∈l,(aT x).length<=100000/\(rowW x).length<=100000
 many:l.length<=900
 whole:(aQ l).length<=1000000
def Ai{l}(ok:qk l){x}(h:x∈l):Txt.split (aT x) ⟨#[32]⟩=rowW x:=pQ (Gx x) fun w m=>(ok.free x h w m).1
theorem ze{c}(f:Fr c s):∀{l},(∀w∈l,Fr c w)->Fr c (Str.join s l)
 |[],_=>fun z=>by cases z
 |[x],h=>h x (Zp ..)
 |x::y::r,h=>by rw[aK];exact(h x (Zp ..)).app (f.app (ze f fun w m=>h w (Zq _ m)))
def wK{l}(ok:qk l):Txt.split (aQ l) ⟨#[10]⟩=l.map aT++[Str.empty]:=pQ (by simp) fun w m=>by
 rcases Zt.mp m with m|m
 . obtain⟨x,f,rfl⟩:=Zs.mp m;exact ze (by unfold Fr;decide) fun w m=>(ok.free x f w m).2
 . rw[Zr.mp m];exact fun z=>by cases z
def sg{i}{c}(f:Txt.split i ⟨#[c]⟩=ws)(h1:i.length<=1000000)(h2:ws.length<=100000){fo}(j:fo δ=some (.str i)){s}(l:Str.ofString s=⟨#[c]⟩):lG fo (af (fC (.str s)) ag) δ=some (.lst (ws.map D.str),δ):=by unfold lG;rw[j,bU,e_C,bM];simp only[Zc];rw[l,f,if_pos ⟨rfl,ZZ h1 (by decide),sz h2⟩]
def Ah{l}(ok:qk l)(t) (rs):∀{m}{s s'}{k}{o q},(∀x∈m,x∈l)->Rows s m s'->∃o' j,cn (jR [3,4]) IM (enF k ((m.map aT).map D.str)) [some t,some rs,some s.d,o,q]=some (.nx [some t,some rs,some s'.d,o',j]):=by
 intro m
 induction m with
 |nil=>intro s s' k o q _ h;cases h;exact⟨o,q,rfl⟩
 | cons x m u =>
  intro s s' k o q p h;cases h with
  |@cons _ G _ _ _ z t' =>
   obtain⟨o',j,e⟩:=u (fun y v=>p y (Zq _ v)) t'
   refine⟨o',j,?_⟩;have f:=p x (Zp ..);have sp:=sg (Ai ok f) (ZZ (ok.len x f).1 (by decide)) (ok.len x f).2 (fo:=ab 4) (δ:=[some t,some rs,none,some (.int k),some (.str (aT x))]) rfl fS
   have C:=yf z (k:Int);have r:sh (.tup [.int (k:Int),.str (aT x)])=.tup [.int (k:Int),.str (aT x)]:=by simp only[IM,sh,shs]
   have B:jR [3,4] (.tup [.int (k:Int),.str (aT x)]) [some t,some rs,some s.d,o,q]=some [some t,some rs,some s.d,some (.int k),some (.str (aT x))]:=rfl;show cn _ _ (.tup [.int (k:Int),.str (aT x)]::enF (k+1) ((m.map aT).map D.str)) _=_;simp only[IM,cn,r,B,fN,cS,cC,aZ,xM,aP,a8,bC,aa,sh,shs,noo,Zc,Ze,Zf,Zg,Zh,ZR,Z8,Z9,sp,wF,C];exact e
def fL(l:Yh Str):cZ (l.map D.str)=true:=qB l
theorem Fi:uv ((l++[x]).map D.str) none (some (-1))=l.map D.str:=by
 show(((l++[x]).map D.str).drop 0).take ((if(-1:Int)<0 then((-1:Int)+(((l++[x]).map D.str).length:Int)).toNat else min ((-1:Int).toNat) ((l++[x]).map D.str).length)-0)=_
 rw[if_pos (by decide)]
 simp only[Zm,Zl,Zn,Zo,List.drop_zero,Nat.sub_zero];rw[show((-1:Int)+((l.length+(0+1):Nat):Int)).toNat=l.length by lia,Zx,List.take_append_of_le_length (by simp),<- Zm,List.take_length]
def sW:Str.ofString "" = Str.empty:=by decide +kernel
theorem GB{l}{s}(ok:qk l)(h:Rows ⟨[],[],[],[],[]⟩ l s)(J:∃C rl,s.R=C++[rl]/\rl≠[])(O:∀rl∈s.R,rl.length<=900)(u:s.R.length<=900)(Q:s.P.length<=24):cy [.str (aQ l)]=some (FN (aQ l) s.W s.bs s.M s.R s.P,[some (.str (aQ l))]):=by
 obtain⟨C,rl,v,q⟩:=J;have sp:=sg (wK ok) ok.whole (by have:=ok.many;simp;lia) (fo:=ab 0) (δ:=[some (.str (aQ l)),none,none,none,none]) rfl J0
 have L:=l.map aT++[Str.empty];obtain⟨o',j,H⟩:=Ah ok (.str (aQ l)) (.seq ((l.map aT++[Str.empty]).map D.str)) (fun x m=>m) h
 have src:nv (vSl (ab 1) faN (faS (f1 fF (fC (.int 1))))) [some (.str (aQ l)),some (.seq ((l.map aT++[Str.empty]).map D.str)),some (Do [] [] [] [] []),none,none]=some (enF 1 ((l.map aT).map D.str),[some (.str (aQ l)),some (.seq ((l.map aT++[Str.empty]).map D.str)),some (Do [] [] [] [] []),none,none]):=by simp only[Bx,nv,vSl,fSl,e_C,uq,ab,aV,sh,asL,Zc,Ze,Zf,Z8,faN,faS,fF,asI,Int.reduceNeg,Fi,gY,fL]
 have fo:=fM src H;have o:=D8 (t:=aQ l) (W:=s.W) (bs:=s.bs) (M:=s.M) O u Q;obtain⟨Q4,o⟩:=o;have st:fT (di ak "has_room" bz (ab 2) ag) [some (.str (aQ l)),some (.seq ((l.map aT++[Str.empty]).map D.str)),some s.d,o',j]=some true:=by have r:(0<rl.length)=True:=eq_true (List.length_pos_iff.mpr q);unfold Dr.d;rw[v];simp only[Bx,f9,dB,bM,ab,gp,iY,aV,sh,shs,Zc,Ze,Zf,Z8,decide_true,ut,aO,je,fO,j3,r]
 have G:fT (f2 d9 (f2 gIx (ab 1) (f1 fF (fC (.int 1)))) (fC (.str ""))) [some (.str (aQ l)),some (.seq ((l.map aT++[Str.empty]).map D.str)),some s.d,o',j]=some false:=by simp only[Bx,f9,dB,e_C,uq,bT,ab,v9,iz,Zc,Ze,Zf,Bool.not_true,fF,Int.reduceNeg,kc,sW,ZA]
 have z:gS aG [none,none,none,none,none,none] dF Bx [some (.str (aQ l)),some (.seq ((l.map aT++[Str.empty]).map D.str)),some s.d,o',j]=some (FN (aQ l) s.W s.bs s.M s.R s.P,gu [none,none,none,none,none,none] Q4 [some (.str (aQ l)),some (.seq ((l.map aT++[Str.empty]).map D.str)),some (Db s.W s.bs s.M s.R s.P),o',j]):=by simp[aa,sh,shs,noo,jb,fY,aO,je,fO,gW,cP,gJ,zI,jt,pr,pv,o]
 have p:fT (a9 (rL "str" qx) (af (ab 0) (af (fC (.ty "str")) ag))) [some (.str (aQ l)),none,none,none,none]=some true:=rfl;have S:gS ak [] cK am [some (.str (aQ l)),some (.seq ((l.map aT++[Str.empty]).map D.str)),none,none,none]=some (Do [] [] [] [] [],[some (.str (aQ l)),some (.seq ((l.map aT++[Str.empty]).map D.str)),none,none,none]):=by simp[xP]
 have bk:∃y,(gu [none,none,none,none,none,none] Q4 [some (.str (aQ l)),some (.seq ((l.map aT++[Str.empty]).map D.str)),some (Db s.W s.bs s.M s.R s.P),o',j])=some (.str (aQ l))::y:=by
  have:∀bs,(∀b∈bs,b=none)->∀Q4 δ,gu bs Q4 δ=δ:=by
   intro bs
   induction bs with
   |nil=>intro _ Q4 δ;exact aP
   |cons b bs I =>
    intro B Q4 δ;rw[B b (Zp ..)];cases Q4 with
    |nil=>rfl
    |cons f Q4=>exact I (fun x m=>B x (Zq _ m)) Q4 δ
  rw[this _ (by simp)]
  exact⟨_,rfl⟩
 obtain⟨y,bk⟩:=bk;rw[bk]at z;unfold cy md;rw[show Dl.start 5 [.str (aQ l)]=[some (.str (aQ l)),none,none,none,none]from rfl]
 rw[aE,gn,lX,p,Zd,Bool.not_true,iZ,iw,aX,aE,bg,sp,Zc];rw[show sh (D.lst ((l.map aT++[Str.empty]).map D.str))=.seq ((l.map aT++[Str.empty]).map D.str) by rw[sh,aV]]
 rw[aX,aE,j8];rw[show List.set [some (D.str (aQ l)),none,none,none,none] 1 (some (D.seq ((l.map aT++[Str.empty]).map D.str)))=[some (.str (aQ l)),some (.seq ((l.map aT++[Str.empty]).map D.str)),none,none,none]from rfl,S,Zc,aX,aE]
 simp only[Bx,Zg,Zh];rw[fo,aX,aE,gn,sX,G,qI,lX,st,Zd,Bool.not_true,iZ,iw,aX,cA,z];rfl
noncomputable abbrev pu(p:Int×Int):D:=.lst [.int p.1,.int p.2]
def OkP(p:Int×Int):Prop:=0<=p.1/\0<=p.2/\p.2<2147483629
def oT{x}(h:x.natAbs<2^200):Bd x:=ZD h (Nat.pow_le_pow_right (by decide) (by decide))
def JL:L2.atI [a,b] 0=some a:=rfl
def Oc:L2.atI [a,b] 1=some b:=rfl
def OL:L2.ixN 2 0=some 0:=rfl
def OK:L2.ixN 2 1=some 1:=rfl
theorem aM{p}{m}(x:OkP p)(h1:1<=m)(h2:m<=10^30+1):∃r s,aI [pu p,.int m]=some (.int r,[some (pu s),some (.int m)])/\OkP s/\0<=r/\r<m:=by
 obtain⟨a,b⟩:=p;obtain⟨t,y,q⟩:=x;have G:Bd m:=oT (by lia)
 have D:oU a m:=⟨by lia,G⟩
 have f:(0:Int)<m:=by lia
 by_cases h:a>0
 . refine ⟨a % m,(a / m,b),?_,⟨Int.ediv_nonneg t (by lia),y,q⟩,Int.emod_nonneg _ (by lia),Int.emod_lt_of_pos _ f⟩
   have h':=eq_true h;simp[aI,iE,Dl.start,av,ab,tU,aw,atP,cL,sh,imm,ZV,JL,h',OL,lZ D,lZ (C:=fun _ j=>0<j) (a:=a) f]
 . have h':(a > 0)=False:=eq_false h;have o:kB b 48271:=⟨oT (by lia),oT (by decide)⟩
   have v:0<=(b*48271+9973)%2147483629:=Int.emod_nonneg _ (by decide)
   have u:(b*48271+9973)%2147483629<2147483629:=Int.emod_lt_of_pos _ (by decide)
   generalize hB:(b*48271+9973)%2147483629=B at v u;have l:kB B B:=⟨oT (by lia),oT (by lia)⟩
   have z:oU (B*B%2147483587) 7:=⟨by decide,oT (by decide)⟩
   refine⟨B*B%2147483587/7%m,(a,B),?_,⟨t,v,u⟩,Int.emod_nonneg _ (by lia),Int.emod_lt_of_pos _ f⟩
   simp[aI,iE,Dl.start,av,ab,tU,aw,atP,cL,sh,imm,ZV,JL,Oc,h',OK,lZ o,lZ (C:=fun _ j=>0<j) (a:=b*48271+9973) (c:=2147483629) (by decide),hB,lZ l,lZ (C:=fun _ j=>0<j) (a:=B*B) (c:=2147483587) (by decide),lZ z,lZ (C:=fun _ j=>0<j) (a:=B*B%2147483587/7) f]
instance(w:Str):Decidable (aJ w):=by unfold aJ;exact inferInstance
def A6(w:Str):Prop:=∀c∈w.cps.toList,97<=c/\c<=122
noncomputable abbrev ABC:Str:="abcdefghijklmnopqrstuvwxyz"
theorem A4(h0:0<=i)(h1:i<26):∃c,j4 (.str ABC) (.int i)=some (.str ⟨#[c]⟩)/\97<=c/\c<=122:=by
 have f:∀k:Fin 26,ABC.cps.toList[k.val]?=some (97+k.val):=by decide +kernel
 obtain⟨k,rfl⟩:=Z0 h0;have hk:k<26:=by lia
 refine⟨97+k,?_,by lia,by lia⟩
 show(if ABC.length<=sizeLine then(L2.atI ABC.cps.toList (k:Int)).map (fun c=>D.str ⟨#[c]⟩)else none)=_
 rw[if_pos (by decide +kernel),L2.atI_nat (f ⟨k,hk⟩)]
 rfl
def vG{w}{c}(h:A6 w)(j:97<=c/\c<=122):A6 (w++(⟨#[c]⟩:Str)):=by
 intro x f;rw[b9]at f;rcases Zt.mp f with h1|h1
 . exact h x h1
 . rw[Zr.mp h1];exact j
def iO{n}(h:n<=1000){f}{δ'}(j:f δ=some (.int n,δ')):dG f δ=some ((List.range n).map fun(i:Nat)=>D.int (i:Int),δ'):=by rw[Cy,j,Zc];exact yE Jg (Jh h)
abbrev lnB:SQ:=az 2 N4
theorem t5(t):∀L w p o,A6 w->OkP p->w.length+L.length<=8->∃f l o',cn (gN 3) lnB L [some (pu p),some t,some (.str w),o,none]=some (.nx [some (pu l),some t,some (.str f),o',none])/\f.length=w.length+L.length/\A6 f/\OkP l:=by
 intro L
 induction L with
 |nil=>intro w p o q u _;exact⟨w,p,o,rfl,rfl,q,u⟩
 |cons d L y =>
  intro w p o q u B;rw[Zn]at B;obtain⟨r,p1,H,s,x,v⟩:=aM u (m:=26) (by decide) (by decide)
  obtain⟨c,G,C⟩:=A4 x v;have z:w.length+(⟨#[c]⟩:Str).length<=sizeLine:=sz (by show w.length+1<=_;lia)
  have j:(w++(⟨#[c]⟩:Str)).length=w.length+1:=aY _ _;obtain⟨f,l,o',e,h1,h2,D⟩:=y (w++(⟨#[c]⟩:Str)) p1 (some (sh d)) (vG q C) s (by rw[j];lia)
  refine⟨f,l,o',?_,by rw[h1,j,Zn];lia,h2,D⟩
  simp[cn,aa,sh,noo,imm,H,G,bW z];exact e
theorem vx{α:Type}[DecidableEq α]:∀{l T:Yh α},l.Nodup->(∀x∈l,x∈T)->l.length<=T.length
 |[],_,_,_=>Nat.zero_le _
 |x::l,T,nd,h=>by
  have f:=Z3.mp nd;have:=vx f.2 fun y j=>(List.mem_erase_of_ne (show y≠x from fun e=>f.1 (by rw[<- e];exact j))).mpr (h y (Zq _ j))
  rw[List.length_erase_of_mem (h x (Zp ..))]at this;have:=List.length_pos_of_mem (h x (Zp ..));simp only[Zn]
  lia
noncomputable abbrev KW:List Str:=["do","when","say","price","stay","hurry","weather","watch","room","at"]
theorem NG (h0:0<=i) (h1:i<10):∃k,gIx (.lst [.str "do",.str "when",.str "say",.str "price",.str "stay",.str "hurry",.str "weather",.str "watch",.str "room",.str "at"]) (.int i)=some (.str k)/\aJ k:=by
 obtain⟨k,rfl⟩:=Z0 h0;have hk:k<10:=by lia
 have f:∀j:Fin 10,aJ (KW.getD j.val Str.empty):=by decide +kernel
 refine⟨KW.getD k Str.empty,?_,f ⟨k,hk⟩⟩;show L2.atI (KW.map D.str) (k:Int)=_;refine L2.atI_nat ?_;rw[List.getElem?_map,List.getD_eq_getElem?_getD,Zy (hk)];rfl
def zM{d}{l:Yh D}:L2.atI (d::l) 0=some d:=by exact L2.atI_nat rfl
theorem BK:ABC.cps.toList.Nodup:=by decide +kernel
theorem uK:ABC.cps.toList.length=26:=by decide +kernel
theorem Ea{w}(h:aJ w):A6 (gq w none (some 7))/\(gq w none (some 7)).length<=7:=by
 have e:(gq w none (some ((7:Nat):Int))).cps.toList=w.cps.toList.take 7:=Fh;constructor
 . intro c f;rw [show (some (7:Int))=some ((7:Nat):Int) from rfl,e] at f
   exact h.2.2 c (List.mem_of_mem_take f)
 . rw [fK,show (some (7:Int))=some ((7:Nat):Int) from rfl,e,List.length_take]
   lia
def wz{w}{a b}(h:w++(⟨#[a]⟩:Str)=w++(⟨#[b]⟩:Str)):a=b:=by
 have:=congrArg (fun x=>x.cps.toList) h
 simp only[b9]at this;have:=List.append_cancel_left this;exact(List.cons.inj this).1
theorem Bh{w:Str}(o:A6 w)(t:w.length<=7)(u:T.length<26):∃n r,((ABC.cps.toList.map fun c=>w++(⟨#[c]⟩:Str)).filter fun x=>!decide (x∈T))=n::r/\aJ n/\n∉T:=by
 cases q:(ABC.cps.toList.map fun c=>w++(⟨#[c]⟩:Str)).filter fun x=>!decide (x∈T)with
 |nil =>
  exfalso;have h1:∀x∈ABC.cps.toList.map fun c=>w++(⟨#[c]⟩:Str),x∈T:=fun x m=>by have:=List.filter_eq_nil_iff.mp q x m;simpa using this
  have l:(ABC.cps.toList.map fun c=>w++(⟨#[c]⟩:Str)).Nodup:=by rw[List.nodup_iff_pairwise_ne,List.pairwise_map];exact List.Pairwise.imp (fun h e=>h (wz e)) (List.nodup_iff_pairwise_ne.mp BK)
  have:=vx l h1;rw[Zm,uK]at this
  lia
 | cons n r =>
  refine⟨n,r,rfl,?_⟩;have p:n∈(ABC.cps.toList.map fun c=>w++(⟨#[c]⟩:Str)).filter fun x=>!decide (x∈T):=by rw[q];exact Zp ..
  obtain⟨h1,h2⟩:=List.mem_filter.mp p;obtain⟨c,s,rfl⟩:=Zs.mp h1;have j:97<=c/\c<=122:=by
   have f:∀x∈ABC.cps.toList,97<=x/\x<=122:=by decide +kernel
   exact f c s
  refine⟨⟨?_,?_,vG o j⟩,by simpa using h2⟩
  . rw[aY];show 1<=w.length+1;lia
  . rw[aY];show w.length+1<=8;lia
theorem mP{p}(hp:OkP p)(hT:T.length<=20):∃n Y,bF [pu p,.lst (T.map D.str)]=some (.str n,[some (pu Y),some (.lst ((T++[n]).map D.str))])/\OkP Y/\aJ n/\n∉T:=by
 obtain⟨r,p1,e1,L,r0,r1⟩:=aM hp (m:=8) (by decide) (by decide)
 obtain⟨k,rfl⟩:=Z0 r0;have src:dG bq9 [some (pu p),some (.lst (T.map D.str)),some (.str ""),none,none]=some ((List.range (1+k)).map fun (i:Nat)=>D.int (i:Int),[some (pu p1),some (.lst (T.map D.str)),some (.str ""),none,none]):=iO (by lia) (by
  simp only[uD,uB,bq7,bq9,e_C,i5,bS,cS,cC,aZ,aP,a8,bC,aa,hU,noo,imm,Zc,Ze,Zg,ZR,Z8,Z9,e1];rw[show(1:Int)+(k:Int)=((1+k:Nat):Int) by lia])
 obtain⟨v,p2,l,lp,lw,I,J⟩:=t5 (.lst (T.map D.str)) ((List.range (1+k)).map fun (i:Nat)=>D.int (i:Int)) "" p1 none (fun c U=>by rw[show("":Str).cps.toList=[]from by decide +kernel]at U;cases U) L (by rw[Zm,List.length_range,show("":Str).length=0 from by decide +kernel];lia)
 rw[Zm,List.length_range,show("":Str).length=0 from by decide +kernel]at lw
 have n1:aJ v:=⟨by lia,by lia,I⟩
 have fo:=fM src lp;obtain⟨r2,p3,e3,t,r20,r21⟩:=aM J (m:=9) (by decide) (by decide)
 have B:∃f j,lJ bq7 uB bw [some (pu p2),some (.lst (T.map D.str)),some (.str v),l,none]=some (.nx [some (pu j),some (.lst (T.map D.str)),some (.str f),l,none])/\aJ f/\OkP j:=by
  cases h4:(r2==4)with
  |false=>exact⟨v,p3,by simp[aa,noo,imm,e3,h4],n1,t⟩
  |true =>
   obtain⟨r4,j,X,o,H,G⟩:=aM t (m:=10) (by decide) (by decide)
   obtain⟨kw,ek,hk⟩:=NG H G;exact⟨kw,j,by simp[aa,sh,noo,imm,e3,h4,X,ek],hk,o⟩
 obtain⟨f,j,X,n2,o⟩:=B;have y:∃n o4,qIf (fT (f2 gIn (ab 2) (ab 1))) uD bw [some (pu j),some (.lst (T.map D.str)),some (.str f),l,none]=some (.nx [some (pu j),some (.lst (T.map D.str)),some (.str n),l,o4])/\aJ n/\n∉T:=by
  by_cases Q:f∈T
  . have s:(f∈T)=True:=eq_true Q;obtain ⟨c1,c2⟩:=Ea n2;obtain ⟨n,C,V,O,q⟩:=Bh c1 c2 (T:=T) (by lia)
    refine⟨n,some (.seq ((ABC.cps.toList.map fun c=>gq f none (some 7)++(⟨#[c]⟩:Str)).map D.str)),?_,O,q⟩
    have k1:bi 1 (gN 0) (fun _=>some true) (vI (f2 aN (uh (ab 1) faN (faS (fC (.int 7)))) (ab 0))) (dZ ABC) [none,some (.str f)]=some ((dZ ABC).map (fun d=>match d with|.str z=>.str (gq f none (some 7)++z)|_=>.non),[none,some (.str f)]):=dW fun d S=>by
     obtain⟨c,U,rfl⟩:=Zs.mp S;refine⟨[some (.str ⟨#[c]⟩),some (.str f)],rfl,rfl,[some (.str ⟨#[c]⟩),some (.str f)],?_,rfl⟩;have l7:((gq f none (some 7)).length<=sizeLine)=True:=eq_true (sz (by lia))
     have ls:(gq f none (some 7)).length+(⟨#[c]⟩:Str).length<=sizeLine:=sz (by show _+1<=_;lia)
     simp[ab,imm,EY,faN,faS,asI,l7,bW ls]
    have u:=cq (js:=[2]) (δ:=[some (pu j),some (.lst (T.map D.str)),some (.str f),l,none]) (δ1:=[some (pu j),some (.lst (T.map D.str)),some (.str f),l,none]) (δc:=[some (pu j),some (.lst (T.map D.str)),some (.str f),l,none]) (cs:=[.str f]) (src:=i9 (fC (.str ABC))) rfl rfl k1 (by
     rw[Zm];show(ABC.cps.toList.map _).length<=1000;rw[Zm,uK];decide)
    have e6:((dZ ABC).map (fun d=>match d with|.str z=>D.str (gq f none (some 7)++z)|_=>.non))=(ABC.cps.toList.map fun c=>gq f none (some 7)++(⟨#[c]⟩:Str)).map D.str:=by unfold dZ;rw[List.map_map,List.map_map];rfl
    rw[e6]at u;generalize hF:(ABC.cps.toList.map fun c=>gq f none (some 7)++(⟨#[c]⟩:Str))=F at u V ⊢
    have lF:F.length=26:=by rw[<- hF,Zm,uK]
    have Z:bi 1 (gN 0) (fT (f2 gZ (ab 0) (ab 1))) (aa 0) (F.map D.str) [none,some (.lst (T.map D.str))]=some (((F.map D.str).filter fun d=>match d with|.str x=>!decide (x∈T)|_=>false).map id,[none,some (.lst (T.map D.str))]):=oG fun d S=>by obtain⟨x,hx,rfl⟩:=Zs.mp S;exact⟨[some (.str x),some (.lst (T.map D.str))],rfl,by simp only[uD,uB,bq7,bq9,f9,dB,bT,ab,zA,Zc,Ze,Zf],rfl,fun _=>⟨[some (.str x),some (.lst (T.map D.str))],rfl,rfl⟩⟩
    have e7:(((F.map D.str).filter fun d=>match d with|.str x=>!decide (x∈T)|_=>false).map id)=.str n::C.map D.str:=by
     rw[List.map_id,List.filter_map];show(F.filter fun x=>!decide (x∈T)).map D.str=_
     rw[V];rfl
    rw[e7]at Z;have e8:=cq (js:=[1]) (δ:=[some (pu j),some (.lst (T.map D.str)),some (.str f),l,some (.seq (F.map D.str))]) (δ1:=[some (pu j),some (.lst (T.map D.str)),some (.str f),l,some (.seq (F.map D.str))]) (δc:=[some (pu j),none,some (.str f),l,some (.seq (F.map D.str))]) (cs:=[.lst (T.map D.str)]) (src:=a6 (aa 4)) (by simp only[uD,uB,bq7,bq9,a6,aa,aV,sh,noo,Zc,Ze,Zf,Zg,Zh,Z8]) rfl Z (by
     have:(D.str n::C.map D.str).length<=F.length:=by have:=congrArg List.length V;rw[Zn,Zm,<- Zn (a:=n) (as:=C),<- this];exact List.length_filter_le _ _
     lia)
    simp only[uD,uB,bq7,bq9,aE,aX,gn,sZ,bg,f9,dB,e_C,bT,i5,bS,aP,a8,ab,oO,sY,aV,sh,imm,Zc,Zv,Zw,Ze,Zf,Zg,Zh,Z8,decide_true,s,u,e8,List.drop_succ_cons,List.drop_zero,zM]
  . have s:(f∈T)=False:=eq_false Q;exact⟨f,none,by simp only[uD,uB,bq7,bq9,iw,gn,iZ,f9,dB,bT,ab,sY,Zc,Ze,Zf,decide_false,s],n2,Q⟩
 obtain⟨n,o4,u,O,q⟩:=y;refine⟨n,j,?_,o,O,q⟩;have l9:(T.length<=999)=True:=eq_true (by lia)
 simp only[uD,uB,bq7,bq9,bF,kq,Dl.start,av,aE,aX,bg,cA,e_C,bS,aa,cG,aw,atP,cL,sh,noo,imm,Zc,Zv,Zw,Zi,Zj,Zn,Zo,Zm,Ze,Zf,Zg,Zh,ZP,ZS,ZV,ZQ,Nat.reduceSub,Nat.reduceAdd,Z8,fo,X,u,br,l9];simp only[uD,uB,bq7,bq9,Zx,Zv,Zw]
variable {most:Int}
noncomputable abbrev cT(c:Str×Str×Int):D:=.tup [.str c.1,.str c.2.1,.int c.2.2]
def MH (h0:0<=i) (h1:i<5):∃k,gIx (.lst [.str "<",.str "<=",.str "==",.str ">=",.str ">"]) (.int i)=some (.str k)/\k∈WS:=by
 obtain⟨k,rfl⟩:=Z0 h0;have hk:k<5:=by omega
 have f:∀j:Fin 5,WS.getD j.val Str.empty∈WS:=by decide +kernel
 refine⟨WS.getD k Str.empty,?_,f ⟨k,hk⟩⟩;show L2.atI (WS.map D.str) (k:Int)=_;refine L2.atI_nat ?_;rw[List.getElem?_map,List.getD_eq_getElem?_getD,Zy (hk)];rfl
noncomputable abbrev BS2:List Str:=["<","<=","==",">=",">","!="]
theorem N2 (h0:0<=i) (h1:i<6):∃k,gIx (.lst [.str "<",.str "<=",.str "==",.str ">=",.str ">",.str "!="]) (.int i)=some (.str k)/\k∈BS:=by
 obtain⟨k,rfl⟩:=Z0 h0;have hk:k<6:=by lia
 have f:∀j:Fin 6,BS2.getD j.val Str.empty∈BS:=by decide +kernel
 refine⟨BS2.getD k Str.empty,?_,f ⟨k,hk⟩⟩;show L2.atI (BS2.map D.str) (k:Int)=_;refine L2.atI_nat ?_;rw[List.getElem?_map,List.getD_eq_getElem?_getD,Zy (hk)];rfl
theorem jU{α:Type}{f:α->D}{l:Yh α}(h0:0<=i)(h1:i<l.length):∃x∈l,L2.atI (l.map f) i=some (f x):=by
 obtain⟨k,rfl⟩:=Z0 h0;have hk:k<l.length:=by lia
 exact⟨l[k],List.getElem_mem hk,L2.atI_nat (by rw[List.getElem?_map,Zy hk];rfl)⟩
def wC{c d}:L2.atI [a,b,c,d] 0=some a:=rfl
section
variable {bs:Yh bD}
theorem IA{p}(X:OkP p)(hW:W.length<=4)(Q:bs.length<=3)(h0:0<W.length+bs.length)(Z:∀b∈bnm bs,b∉W)(m0:0<=most)(m1:most<=60):∃c L,gf [pu p,.seq (W.map D.str),.seq (bs.map aq),.int most]=some (cT c,[some (pu L),some (.seq (W.map D.str)),some (.seq (bs.map aq)),some (.int most)])/\OkP L/\gX W (bnm bs) c:=by
 obtain⟨r,p1,S,y,V,r1⟩:=aM X (m:=(W.length:Int)+(bs.length:Int)) (by lia) (by lia)
 by_cases C:r<(W.length:Int)
 . obtain ⟨U,p2,J,u,o,j⟩:=aM y (m:=5) (by decide) (by decide)
   obtain⟨s,es,G⟩:=MH o j;obtain⟨v,B,I,t,x,z⟩:=aM u (m:=most+1) (by lia) (by lia)
   obtain⟨n,Y,H⟩:=jU (f:=D.str) V C;have q:=eq_true C;refine⟨(n,s,v),B,?_,t,.inl ⟨Y,G,x,by show v<=60;lia⟩⟩
   simp[gf,iF,Dl.start,av,ab,aa,sh,noo,imm,ZV,S,q,J,es,H,I]
 . obtain ⟨U,p2,J,u,o,j⟩:=aM y (m:=6) (by decide) (by decide)
   obtain⟨s,es,G⟩:=N2 o j;obtain⟨v,B,I,t,x,z⟩:=aM u (m:=41) (by decide) (by decide)
   obtain⟨b,Q,H⟩:=jU (f:=aq) (l:=bs) (i:=r-(W.length:Int)) (by lia) (by lia)
   have q:(r<(W.length:Int))=False:=eq_false C;have O:b.1∈bnm bs:=Zs.mpr ⟨b,Q,rfl⟩;refine⟨(b.1,s,v-20),B,?_,t,.inr ⟨Z _ O,O,G,by show -20<=v-20;lia,by show v-20<=20;lia⟩⟩
   simp[gf,iF,Dl.start,av,ab,aa,sh,noo,imm,ZV,S,q,J,es,H,wC,I]
def j7(l):bQ (.seq (l.map D.str)) (.lst [])=some (.bl (decide (l=[]))):=by
 cases l with
 |nil=>rfl
 |cons a l=>rfl
def mZ(l):bQ (.seq (l.map aq)) (.lst [])=some (.bl (decide (l=[]))):=by
 cases l with
 |nil=>rfl
 |cons a l=>rfl
def eF(l):d9 (.seq (l.map D.str)) (.lst [])=some (.bl (!decide (l=[]))):=by
 cases l with
 |nil=>rfl
 |cons a l=>rfl
def mO(l):d9 (.seq (l.map aq)) (.lst [])=some (.bl (!decide (l=[]))):=by
 cases l with
 |nil=>rfl
 |cons a l=>rfl
def eT:gl ag δ=some (.lst []):=rfl
def oa{ga}:gl ga δ=(ga δ).bind fun ds=>some (.lst ds):=rfl
theorem Fm{p}(o:OkP p)(V:W.length<=4)(G:bs.length<=3)(Z:∀b∈bnm bs,b∉W)(Q:0<=most)(O:most<=60):∃(cs:Yh (Str×Str×Int))(p':Int×Int),fj [pu p,.seq (W.map D.str),.seq (bs.map aq),.int most]=some (.lst (cs.map cT),[some (pu p'),some (.seq (W.map D.str)),some (.seq (bs.map aq)),some (.int most)])/\OkP p'/\(∀c∈cs,gX W (bnm bs) c)/\cs.length<=2:=by
 by_cases h0:W=[]/\bs=[]
 . obtain ⟨rfl,rfl⟩:=h0;refine ⟨[],p,?_,o,fun c s=>(by cases s),by decide⟩
   have u:=j7 [];have t:=mZ [];simp only[IS,Zw]at u t;simp[fj,gL,Dl.start,av,ab,eT,u,t]
 . have U:0 < W.length+bs.length:=by
    cases W with
    |nil =>
     cases bs with
     |nil=>exact absurd ⟨rfl,rfl⟩ h0
     |cons b bs=>simp
    |cons w W=>simp;lia
   obtain⟨r,p1,u,C,I,r1⟩:=aM o (m:=3) (by decide) (by decide)
   obtain⟨k,rfl⟩:=Z0 I;have H:j6 (fT (f2 bQ (ab 1) (gl ag))) (fT (f2 bQ (ab 2) (gl ag))) [some (pu p),some (.seq (W.map D.str)),some (.seq (bs.map aq)),some (.int most)]=some false:=by
    cases y:decide (W=[])with
    |false=>simp[ab,eT,j7,y]
    |true =>
     have G:=decide_eq_false fun z=>h0 ⟨Zza y,z⟩
     simp[ab,eT,j7,mZ,y,G]
   have q:∀L(p:Int×Int),OkP p->∃(cs:Yh (Str×Str×Int))(p':Int×Int),bi 1 (gN 0) (fun _=>some true) IS L [none,some (.seq (bs.map aq)),some (.int most),some (pu p),some (.seq (W.map D.str))]=some (cs.map cT,[none,some (.seq (bs.map aq)),some (.int most),some (pu p'),some (.seq (W.map D.str))])/\OkP p'/\(∀c∈cs,gX W (bnm bs) c)/\cs.length=L.length:=by
    intro L
    induction L with
    |nil=>intro p o;exact⟨[],p,rfl,o,fun c s=>(by cases s),rfl⟩
    |cons d L S =>
     intro p o;obtain⟨c,p2,X,j,s⟩:=IA o V G U Z Q O;obtain⟨cs,J,e,B,l,f⟩:=S p2 j;refine⟨c::cs,J,?_,B,fun x v=>?_,by rw[Zn,Zn,f]⟩
     . simp[bi,aa,noo,X,e]
     . rcases Zu.mp v with rfl | v
       . exact s
       . exact l x v
   obtain⟨cs,p2,t,j,l,f⟩:=q ((List.range k).map fun(i:Nat)=>D.int (i:Int)) p1 C
   rw[Zm,List.length_range]at f;have Y:=cq (js:=[2,3,0,1]) (δ:=[some (pu p),some (.seq (W.map D.str)),some (.seq (bs.map aq)),some (.int most)]) (δ1:=[some (pu p1),some (.seq (W.map D.str)),some (.seq (bs.map aq)),some (.int most)]) (δc:=[none,some (.seq (W.map D.str)),some (.seq (bs.map aq)),some (.int most)]) (cs:=[.seq (bs.map aq),.int most,pu p1,.seq (W.map D.str)]) (src:=dG (aj [some 0,none] aI (ae (aa 0) (ae (vI (fC (.int 3))) am)))) (iO (n:=k) (by lia) (by simp[aa,noo,imm,u])) rfl t (by rw[Zm];lia)
   refine⟨cs,p2,?_,j,l,by lia⟩
   simp only[IS,fj,gL,Dl.start,av,aE,aX,iw,gn,iZ,cA,aP,a8,Zc,Zv,Zw,Zk,Zn,Zo,Zg,Zh,ZP,ZS,ZQ,Nat.sub_self,Nat.reduceAdd,H,Y,List.drop_succ_cons,List.drop_zero]
end
section
variable {bs:Yh bD}
theorem NF (h0:0<=i) (h1:i<2):∃k,gIx (.lst [.str "<=",.str "<"]) (.int i)=some (.str k)/\((k=Str.ofString "<="/\i=0)\/(k=Str.ofString "<"/\i=1)):=by
 have:i=0\/i=1:=by lia
 rcases this with rfl|rfl
 . exact⟨_,rfl,.inl ⟨rfl,rfl⟩⟩
 . exact⟨_,rfl,.inr ⟨rfl,rfl⟩⟩
theorem Cf{p}(B:OkP p)(hW:W.length<=4)(m0:0<most)(m1:most<=60):∃(cs:Yh (Str×Str×Int))(t:Int×Int),dJ [pu p,.seq (W.map D.str),.int most]=some (.lst (cs.map cT),[some (pu t),some (.seq (W.map D.str)),some (.int most)])/\OkP t/\(∀c∈cs,okStay W c)/\cs.length<=2:=by
 by_cases h0:W=[]
 . subst h0;refine ⟨[],p,?_,B,fun c G=>(by cases G),by decide⟩
   have z:=eF [];simp only[IU,IK,Zw]at z;simp[dJ,eW,Dl.start,av,ab,aa,noo,ZV,eT,z]
 . have X:=List.length_pos_iff.mpr h0;have Y:=decide_eq_false h0;obtain ⟨r,p1,z,l,r0,r1⟩:=aM B (m:=2) (by decide) (by decide)
   cases h1:(r==1)with
   |false =>
    refine⟨[],p1,?_,l,fun c G=>(by cases G),by decide⟩
    simp[dJ,eW,Dl.start,av,ab,aa,noo,imm,ZV,eT,eF,Y,z,h1]
   | true =>
    obtain⟨r2,p2,V,v,I,Z⟩:=aM l (m:=2) (by decide) (by decide)
    obtain⟨k,rfl⟩:=Z0 I;have C:∀L(p:Int×Int)(acc:Yh (Str×Str×Int))(o q s:Yg D),OkP p->(∀c∈acc,okStay W c)->acc.length+L.length<=2->∃(cs:Yh (Str×Str×Int))(t:Int×Int)(o' H s':Yg D),cn (gN 4) IK L [some (pu p),some (.seq (W.map D.str)),some (.int most),some (.lst (acc.map cT)),o,q,s]=some (.nx [some (pu t),some (.seq (W.map D.str)),some (.int most),some (.lst (cs.map cT)),o',H,s'])/\OkP t/\(∀c∈cs,okStay W c)/\cs.length<=2:=by
     intro L
     induction L with
     |nil=>intro p acc o q s B S X;exact⟨acc,p,o,q,s,rfl,B,S,by simpa using X⟩
     | cons d L ih =>
      intro p acc o q s B S Q;rw[Zn]at Q;obtain⟨a,p1,z,l,a0,a1⟩:=aM B (m:=(W.length:Int)) (by lia) (by lia)
      obtain⟨w,hw,ew⟩:=jU (f:=D.str) a0 a1;obtain⟨b,p2,V,v,b0,b1⟩:=aM l (m:=2) (by decide) (by decide)
      obtain⟨k,ek,hk⟩:=NF b0 b1;obtain⟨c,J,U,u,c0,c1⟩:=aM v (m:=most+1-b) (by lia) (by lia)
      have ok:okStay W (w,k,b+c):=by
       refine⟨hw,?_,by show b+c<=60;lia⟩
       rcases hk with⟨rfl,hb⟩|⟨rfl,hb⟩
       . exact .inl ⟨rfl,by show 0<=b+c;lia⟩
       . exact .inr ⟨rfl,by show 0<b+c;lia⟩
      obtain⟨cs,t,o',H,s',e,O,y,j⟩:=ih J (acc++[(w,k,b+c)]) (some (sh d)) (some (.str w)) (some (.int b)) u (fun x hx=>by
       rcases Zt.mp hx with h|h
       . exact S x h
       . rw[Zr.mp h];exact ok) (by simp;lia)
      refine⟨cs,t,o',H,s',?_,O,y,j⟩;have al:(acc.length<=999)=True:=eq_true (by lia)
      rw[Zx]at e;simp[cn,ab,aa,cG,aw,atP,cL,sh,noo,imm,z,ew,V,br,oa,ek,U,al];exact e
    obtain⟨cs,J,o',H,s',U,u,y,j⟩:=C ((List.range (1+k)).map fun(i:Nat)=>D.int (i:Int)) p2 [] none none none v (fun c G=>(by cases G)) (by simp;lia)
    have src:dG IU [some (pu p1),some (.seq (W.map D.str)),some (.int most),some (.lst []),none,none,none]=some ((List.range (1+k)).map fun(i:Nat)=>D.int (i:Int),[some (pu p2),some (.seq (W.map D.str)),some (.int most),some (.lst []),none,none,none]):=iO (n:=1+k) (by lia) (by
     simp only[IU,IK,e_C,i5,bS,cS,cC,aZ,aP,a8,bC,aa,hU,noo,imm,Zc,Ze,Zg,ZR,Z8,Z9,V];rw[show(1:Int)+(k:Int)=((1+k:Nat):Int) by lia])
    have fo:=fM src U;refine⟨cs,J,?_,u,y,j⟩;simp[dJ,eW,Dl.start,av,ab,aa,noo,imm,ZV,eT,eF,Y,z,h1,fo]
def Em{z}{k c:Nat}(h:z.cps.toList[k]?=some c)(f:z.length<=sizeLine):j4 (.str z) (.int (k:Int))=some (.str ⟨#[c]⟩):=by
 show(if z.length<=sizeLine then(L2.atI z.cps.toList (k:Int)).map (fun c=>D.str ⟨#[c]⟩)else none)=_
 rw[if_pos f,L2.atI_nat h];rfl
theorem Nl (h0:0<=i) (h1:i<3):∃k,j4 (.str "=+-") (.int i)=some (.str k)/\(k=Str.ofString "=" \/ k=Str.ofString "+" \/ k=Str.ofString "-"):=by
 have:i=0\/i=1\/i=2:=by lia
 rcases this with rfl|rfl|rfl
 . exact⟨⟨#[61]⟩,Em (by decide +kernel) (by decide +kernel),.inl (by decide +kernel)⟩
 . exact⟨⟨#[43]⟩,Em (by decide +kernel) (by decide +kernel),.inr (.inl (by decide +kernel))⟩
 . exact⟨⟨#[45]⟩,Em (by decide +kernel) (by decide +kernel),.inr (.inr (by decide +kernel))⟩
def ua{b}:sU [.bl b]=some (.int (if b then 1 else 0)):=by cases b<;>rfl
theorem Fe{p}(X:OkP p)(hW:W.length<=4)(hb:bs.length<=3)(dj:∀b∈bnm bs,b∉W):∃(cs:Yh (Str×Str×Int))(y:Int×Int),gO [pu p,.seq (W.map D.str),.seq (bs.map aq)]=some (.lst (cs.map cT),[some (pu y),some (.seq (W.map D.str)),some (.seq (bs.map aq))])/\OkP y/\(∀c∈cs,iP W (bnm bs) c)/\cs.length<=3:=by
 obtain⟨r,p1,e1,I,r0,r1⟩:=aM X (m:=4) (by decide) (by decide)
 obtain⟨k,rfl⟩:=Z0 r0;have bit:∃j:Nat,a9 sU (af (ui (f2 d9 (ab 1) (gl ag)) (f2 d9 (ab 2) (gl ag))) ag) [some (pu p1),some (.seq (W.map D.str)),some (.seq (bs.map aq)),some (.lst []),none,none,none,none]=some (.int (j:Int))/\j<=1/\(j=1->0<W.length+bs.length):=by
  cases O:decide (W=[])with
  |false =>
   refine⟨1,by simp only[rP,rN,v8,EZ,bT,bu,bM,bU,ab,Zc,Ze,Zf,Z8,Bool.not_false,eT,eF,O,ua];rfl,by decide,fun _=>?_⟩
   have:=List.length_pos_iff.mpr (of_decide_eq_false O)
   lia
  | true =>
   cases hb:decide (bs=[])with
   |false =>
    refine⟨1,by simp only[rP,rN,v8,xL,bT,bu,bM,bU,ab,Zc,Ze,Zf,Z8,Bool.not_true,Bool.not_false,eT,eF,mO,O,hb,ua];rfl,by decide,fun _=>?_⟩
    have:=List.length_pos_iff.mpr (of_decide_eq_false hb)
    lia
   |true=>exact⟨0,by simp only[rP,rN,v8,xL,bT,bu,bM,bU,ab,Zc,Ze,Zf,ZR,Z9,Bool.not_true,eT,eF,mO,O,hb,ua];rfl,by decide,fun z=>by cases z⟩
 obtain⟨j,ej,Z,hj⟩:=bit;have src:dG rP [some (pu p),some (.seq (W.map D.str)),some (.seq (bs.map aq)),some (.lst []),none,none,none,none]=some ((List.range (k*j)).map fun(i:Nat)=>D.int (i:Int),[some (pu p1),some (.seq (W.map D.str)),some (.seq (bs.map aq)),some (.lst []),none,none,none,none]):=iO (by
  have:k*j<=k*1:=Nat.mul_le_mul_left k Z
  lia) (by
  have cm:kB (k:Int) (j:Int):=⟨oT (by lia),oT (by lia)⟩
  simp only[rP,rN,e_C,i5,bS,cS,cC,aZ,aP,a8,bC,aa,noo,imm,Zc,Ze,Zg,ZR,Z8,Z9,e1,ej,lZ cm];rw[show(k:Int)*(j:Int)=((k*j:Nat):Int) by simp])
 have S:∀ (L:Yh D) (p:Int×Int) (acc:Yh (Str×Str×Int)) (o q s t:Yg D),(L ≠ []->0 < W.length+bs.length)->OkP p->(∀ c∈acc,iP W (bnm bs) c)->acc.length+L.length<=3->∃ (cs:Yh (Str×Str×Int)) (y:Int×Int) (o' J s' t':Yg D),cn (gN 4) rN L [some (pu p),some (.seq (W.map D.str)),some (.seq (bs.map aq)),some (.lst (acc.map cT)),o,q,s,t]=some (.nx [some (pu y),some (.seq (W.map D.str)),some (.seq (bs.map aq)),some (.lst (cs.map cT)),o',J,s',t'])/\OkP y/\(∀ c∈cs,iP W (bnm bs) c)/\cs.length<=3:=by
  intro L
  induction L with
  |nil=>intro p acc o q s t _ X ha Y;exact⟨acc,p,o,q,s,t,rfl,X,ha,by simpa using Y⟩
  |cons d L ih =>
   intro p acc o q s t h0 X ha hl2;rw[Zn]at hl2;have Y:=h0 (List.cons_ne_nil _ _);have al:(acc.length<=999)=True:=eq_true (by lia)
   obtain⟨a,p1,e1,I,a0,a1⟩:=aM X (m:=(W.length:Int)+(bs.length:Int)) (by lia) (by lia)
   by_cases O:a<(W.length:Int)
   . obtain ⟨w,hwm,ew⟩:=jU (f:=D.str) a0 O;have G:(a < (W.length:Int))=True:=eq_true O;obtain ⟨cs,y,o',J,s',t',e,B,v,u⟩:=ih p1 (acc++[(w,Str.ofString "=",0)]) (some (sh d)) (some (.int a)) s t (fun _=>Y) I (fun x U=>by
      rcases Zt.mp U with h|h
      . exact ha x h
      . rw[Zr.mp h];exact .inl ⟨hwm,rfl,rfl⟩) (by simp;lia)
     refine⟨cs,y,o',J,s',t',?_,B,v,u⟩;rw[Zx]at e;simp only[rP,rN,cn,aE,aX,gn,sZ,bg,f9,dB,e_C,bT,bS,bu,bM,bU,cS,cC,oM,aZ,aP,a8,bC,ab,aa,cG,aw,atP,cL,g8,hU,da,iz,sh,noo,imm,iA,m5,Zc,Zd,Zm,Ze,Zf,Zg,Zh,ZR,Z8,Z9,decide_true,e1,G,ew,br,al];exact e
   . have G:(a < (W.length:Int))=False:=eq_false O;obtain ⟨b,p2,e2,hp2,b0,b1⟩:=aM I (m:=3) (by decide) (by decide)
     obtain⟨g,eg,hg⟩:=Nl b0 b1;obtain⟨c,p3,e3,H,c0,c1⟩:=aM hp2 (m:=41) (by decide) (by decide)
     obtain⟨bx,hbx,ebx⟩:=jU (f:=aq) (l:=bs) (i:=a-(W.length:Int)) (by lia) (by lia)
     have hm:bx.1∈bnm bs:=Zs.mpr ⟨bx,hbx,rfl⟩;have m3:(0:Int)<3:=by decide
     have n0:0<=(c-20)%3:=Int.emod_nonneg _ (by decide)
     have n1:(c-20)%3<3:=Int.emod_lt_of_pos _ (by decide)
     cases V:(g==Str.ofString "=")with
     | true =>
      have Q:g=Str.ofString "=":=beq_iff_eq.mp V;obtain⟨cs,y,o',J,s',t',e,B,v,u⟩:=ih p3 (acc++[(bx.1,g,c-20)]) (some (sh d)) (some (.int a)) (some (.str g)) (some (.int (c-20))) (fun _=>Y) H (fun x U=>by
       rcases Zt.mp U with h|h
       . exact ha x h
       . rw[Zr.mp h];exact .inr ⟨dj _ hm,hm,.inl ⟨Q,by show -20<=c-20;lia,by show c-20<=20;lia⟩⟩) (by simp;lia)
      refine⟨cs,y,o',J,s',t',?_,B,v,u⟩;rw[Zx]at e;simp only[rP,rN,cn,aE,aX,iw,gn,iZ,bg,f9,dB,e_C,bT,i5,bS,bu,bM,bU,cS,cC,oM,aZ,aP,a8,bC,ab,aa,cG,aw,atP,cL,g8,v9,hU,da,iz,jN,sh,noo,imm,iA,m5,Zc,Zd,Zm,Ze,Zf,Zg,Zh,ZR,Z8,Z9,Bool.not_true,decide_false,e1,G,e2,eg,e3,V,ebx,wC,br,al];exact e
     | false =>
      have Q:g=Str.ofString "+" \/ g=Str.ofString "-":=by
       rcases hg with h|h|h
       . rw[h,ZA]at V;cases V
       . exact .inl h
       . exact .inr h
      obtain⟨cs,y,o',J,s',t',e,B,v,u⟩:=ih p3 (acc++[(bx.1,g,1+(c-20)%3)]) (some (sh d)) (some (.int a)) (some (.str g)) (some (.int (1+(c-20)%3))) (fun _=>Y) H (fun x U=>by
       rcases Zt.mp U with h|h
       . exact ha x h
       . rw[Zr.mp h];exact .inr ⟨dj _ hm,hm,.inr ⟨Q,by show 1<=1+(c-20)%3;lia,by show 1+(c-20)%3<=20;lia⟩⟩) (by simp;lia)
      refine⟨cs,y,o',J,s',t',?_,B,v,u⟩;rw[Zx]at e;simp only[rP,rN,cn,aE,aX,gn,sZ,iZ,bg,f9,dB,e_C,bT,i5,bS,bu,bM,bU,cS,cC,oM,aZ,aP,a8,bC,ab,aa,cG,aw,atP,cL,g8,v9,hU,da,iz,jN,sh,noo,imm,iA,m5,Zc,Zd,Zm,Ze,Zf,Zg,Zh,ZR,Z8,Z9,Bool.not_false,decide_false,e1,G,e2,eg,e3,V,lZ (C:=fun _ j=>0<j) (a:=c-20) m3,ebx,wC,br,al]
      exact e
 obtain⟨cs,p3,o',J,s',t',e3,H,v,u⟩:=S ((List.range (k*j)).map fun(i:Nat)=>D.int (i:Int)) p1 [] none none none none (fun h=>by
  refine hj ?_;have:j≠0:=fun z=>h (by rw[z,Nat.mul_zero];rfl)
  lia) I (fun c hc=>(by cases hc)) (by
  have:k*j<=k*1:=Nat.mul_le_mul_left k Z;simp;lia)
 have fo:=fM src e3;refine⟨cs,p3,?_,H,v,u⟩;simp only[rP,rN,gO,jD,Dl.start,av,aE,aX,j8,cA,cS,qJ,aa,noo,Zc,Zv,Zw,Zi,Zj,Zn,Zo,Ze,Zf,Zg,Zh,ZP,ZS,ZV,ZQ,Nat.reduceSub,Nat.reduceAdd,ZR,Z9,fo]
theorem vf{p}(y:OkP p):∃i t,dL [pu p]=some (.int i,[some (pu t)])/\OkP t/\0<=i/\i<=10^30:=by
 obtain⟨r,p1,v,j,C,B⟩:=aM y (m:=8) (by decide) (by decide)
 cases u:(r==5)with
 |true =>
  obtain⟨s,p2,q,f,l,x⟩:=aM j (m:=10^30+1) (by decide) (by decide)
  have z:L2.CPow 10 30:=⟨by decide,by decide,by decide⟩
  have o:(10:Int)^((30:Int).toNat)+1=10^30+1:=rfl;exact⟨s,p2,by simp only[dL,gK,Dl.start,av,aE,NV,zC,E4,cA,e_C,bT,i5,bS,cS,cC,aZ,aP,a8,bC,aa,lE,hU,noo,imm,Zc,Zv,Zw,Zk,Zn,Zo,Ze,Zg,ZP,ZS,ZQ,Nat.sub_self,Nat.reduceAdd,ZR,Z8,Z9,v,u,lZ z,o,q],f,l,by lia⟩
 |false =>
  obtain⟨s,p2,q,f,l,x⟩:=aM j (m:=4) (by decide) (by decide)
  exact⟨s,p2,by simp[dL,gK,Dl.start,av,aa,noo,imm,v,u,q],f,l,by lia⟩
end
section
variable {bs:Yh bD}
abbrev rT(r:be):D:=.tup [.str r.name,.int r.price,.bl r.hurry,.seq (r.stays.map cT)]
abbrev rO(r:be):D:=.tup [.str r.name,.int r.price,.bl r.hurry,.lst (r.stays.map cT)]
abbrev dT(d:bt):D:=.tup [.str d.start,.str d.goal,.bl d.weather,bJ d.word,.int d.price,.seq (d.conds.map cT),.seq (d.deeds.map cT)]
abbrev dO(d:bt):D:=.tup [.str d.start,.str d.goal,.bl d.weather,bJ d.word,.int d.price,.lst (d.conds.map cT),.lst (d.deeds.map cT)]
def ju(l:Yh (Str×Str×Int)):shs (l.map cT)=l.map cT:=cj (fun c=>by simp only[sh,shs]) l
def M6(r):sh (rO r)=rT r:=by simp only[sh,shs,ju]
def CD(r):sh (rT r)=rT r:=by simp only[sh,shs,ju]
def NZ(d):sh (dO d)=dT d:=by simp only[sh,shs,ju,kC]
def Ff(d):sh (dT d)=dT d:=by simp only[sh,shs,ju,kC]
def IH(l:Yh (Str×Str×Int)):gG (l.map cT)=true:=by
 induction l with
 |nil=>rfl
 |cons c l f=>rw[Zv,gG,f];rfl
theorem GA{p}(B:OkP p)(I:T.length<=20)(H:W.length<=4)(x:0<most)(v:most<=60):∃r t,iK [pu p,.lst (T.map D.str),.seq (W.map D.str),.int most]=some (rO r,[some (pu t),some (.lst ((T++[r.name]).map D.str)),some (.seq (W.map D.str)),some (.int most)])/\OkP t/\okRoom W r/\r.name∉T/\r.stays.length<=2:=by
 obtain⟨n,p1,Q,o,C,q⟩:=mP B I;obtain⟨i,p2,O,l,z,y⟩:=vf o;obtain⟨h,S,L,j,h0,h1⟩:=aM l (m:=6) (by decide) (by decide)
 obtain⟨cs,u,J,f,s,G⟩:=Cf j H x v;refine⟨⟨n,i,h==5,cs⟩,u,?_,f,⟨C,z,y,s,by show cs.length<=900;lia⟩,q,G⟩
 simp[iK,ko,Dl.start,av,aa,sh,noo,imm,ZV,Q,O,L,J]
theorem Go (h0:0<=i) (h1:i<2):∃k,gIx (.lst [.str "say",.str "hear"]) (.int i)=some (.str k)/\(k=Str.ofString "say" \/ k=Str.ofString "hear"):=by
 have:i=0\/i=1:=by lia
 rcases this with rfl|rfl
 . exact⟨_,rfl,.inl rfl⟩
 . exact⟨_,rfl,.inr rfl⟩
theorem Ix{p}(hp:OkP p)(hr:rl≠[])(hrl:rl.length<=6)(hW:W.length<=4)(hb:bs.length<=3)(dj:∀b∈bnm bs,b∉W)(m0:0<=most)(m1:most<=60)(hw:ws.length=3)(v:∀w∈ws,aJ w):∃d p',iL [pu p,.seq (rl.map rT),.seq (W.map D.str),.seq (bs.map aq),.int most,.seq (ws.map D.str)]=some (dO d,[some (pu p'),some (.seq (rl.map rT)),some (.seq (W.map D.str)),some (.seq (bs.map aq)),some (.int most),some (.seq (ws.map D.str))])/\OkP p'/\okDoor W (bnm bs) (rl.map (·.name)) d/\d.conds.length<=2/\d.deeds.length<=3:=by
 have hl:=List.length_pos_iff.mpr hr;obtain⟨a,p1,e1,Q,a0,a1⟩:=aM hp (m:=(rl.length:Int)) (by lia) (by lia)
 obtain⟨r1,H,er1⟩:=jU (f:=rT) a0 a1;obtain⟨b,p2,e2,O,b0,b1⟩:=aM Q (m:=(rl.length:Int)) (by lia) (by lia)
 obtain⟨r2,G,Z⟩:=jU (f:=rT) b0 b1;obtain⟨c,p3,e3,L,c0,c1⟩:=aM O (m:=3) (by decide) (by decide)
 obtain⟨d,p4,e4,r,d0,d1⟩:=aM L (m:=4) (by decide) (by decide)
 have q:∃w p5,nP w/\OkP p5/\∀x y z u,lJ bq8 Mq bw [some (pu p3),x,some (.seq (W.map D.str)),some (.seq (bs.map aq)),some (.int most),some (.seq (ws.map D.str)),y,z,u,some .non,none]=some (.nx [some (pu p5),x,some (.seq (W.map D.str)),some (.seq (bs.map aq)),some (.int most),some (.seq (ws.map D.str)),y,z,u,some (bJ w),none]):=by
  cases h3:(d==3)with
  |false=>exact⟨none,p4,trivial,r,fun x y z u=>by simp[aa,noo,imm,e4,h3,bJ]⟩
  |true =>
   obtain⟨s,p5,e5,o,s0,s1⟩:=aM r (m:=2) (by decide) (by decide)
   obtain⟨k,ek,hk⟩:=Go s0 s1;obtain⟨t,p6,e6,j,t0,t1⟩:=aM o (m:=3) (by decide) (by decide)
   obtain⟨w,B,Y⟩:=jU (f:=D.str) (l:=ws) t0 (by lia)
   exact⟨some (k,w),p6,⟨hk,v w B⟩,j,fun x y z u=>by simp[aa,sh,shs,noo,imm,e4,h3,e5,ek,e6,Y,bJ]⟩
 obtain⟨w,p5,C,o,Y⟩:=q;obtain⟨cs,p6,e6,j,V,X⟩:=Fm (W:=W) (bs:=bs) o hW hb dj m0 m1;obtain⟨i,p7,e7,J,i0,i1⟩:=vf j;obtain⟨ds,p8,e8,I,S,U⟩:=Fe (W:=W) (bs:=bs) J hW hb dj;refine⟨⟨r1.name,r2.name,c==1,w,i,cs,ds⟩,p8,?_,I,⟨Zs.mpr ⟨r1,H,rfl⟩,Zs.mpr ⟨r2,G,rfl⟩,C,i0,i1,V,S,by show cs.length<=900;lia,by show ds.length<=900;lia⟩,X,U⟩
 have nw:noo (bJ w)=true:=by cases w<;>rfl
 simp only[Mq,bq8,iL,kr,Dl.start,av,aE,aX,j8,bg,cA,e_C,i5,bS,bu,bM,bU,cS,cC,oM,aZ,aP,a8,bC,ab,aa,g8,lE,jN,sh,shs,noo,imm,Zc,Zv,Zw,Zi,Zj,Zn,Zo,Zm,Ze,Zf,Zg,Zh,ZP,ZS,ZV,ZQ,Nat.reduceSub,Nat.reduceAdd,ZR,Z8,Z9,zT,e1,er1,ju,wC,e2,Z,e3,Y,e6,kC,nw,e7,e8]
end
variable {z5 z2 z3 z4:Int}
structure OkS(z0 z1 z2 z3 z4 z5:Int):Prop where
 a0:0<=z0
 a1:z0<=4
 b0:0<=z1
 b1:z1<=3
 c0:1<=z2
 c1:z2<=4
 d0:1<=z3
 d1:z3<=6
 e0:0<=z4
 e1:z2*z4<=24
 f0:1<=z5
 f1:z5<=60
def xj:∀ L p T,OkP p->T.Nodup->T.length+L.length<=20->∃ (f:Yh Str) (v:Int×Int),bi 1 (gN 0) (fun _=>some true) (aj [some 1,some 2] bF (ae (aa 1) (ae (aa 2) am))) L [none,some (pu p),some (.lst (T.map D.str))]=some (f.map D.str,[none,some (pu v),some (.lst ((T++f).map D.str))])/\OkP v/\f.length=L.length/\(∀ n∈f,aJ n)/\(T++f).Nodup:=by
 intro L
 induction L with
 |nil=>intro p T q u _;exact⟨[],p,by simp only[bi,Zw,Zk],q,rfl,fun n h=>(by cases h),by rw[Zk];exact u⟩
 |cons d L B =>
  intro p T q u G;rw[Zn]at G;obtain⟨n,p1,J,o,C,s⟩:=mP q (T:=T) (by omega)
  obtain⟨f,p2,y,m,t,r,j⟩:=B p1 (T++[n]) o (Z2.mpr ⟨u,Z3.mpr ⟨ZI,Zz⟩,fun a I b H=>by rw[Zr.mp H];exact fun z=>s (z▸I)⟩) (by simp;omega)
  refine⟨n::f,p2,?_,m,by rw[Zn,Zn,t],fun x l=>?_,by rw[ZW]at j;exact j⟩
  . rw[ZW]at y;simp only[bi,cS,cC,aZ,aP,a8,aa,noo,iA,qL,Zc,Zv,Zi,Zj,Ze,Zf,Zg,Zh,ZR,Z8,Z9,J,y,List.singleton_append]
  . rcases Zu.mp l with rfl | l
    . exact C
    . exact r x l
def sE(b:bD):Prop:=aJ b.1/\-20<=b.2.1/\b.2.1<=b.2.2.2/\b.2.2.2<=b.2.2.1/\b.2.2.1<=20
def lQ{α:Type}{T}{n:α}(h:T.Nodup)(f:n∉T):(T++[n]).Nodup:=Z2.mpr ⟨h,Z3.mpr ⟨ZI,Zz⟩,fun a l b j=>by rw[Zr.mp j];exact fun z=>f (z▸l)⟩
def FB{c d f}:L2.atI [a,b,c,d,e,f] 5=some f:=rfl
def Ob{c d f}:L2.atI [a,b,c,d,e,f] 0=some a:=rfl
def Oa{c d f}:L2.atI [a,b,c,d,e,f] 1=some b:=rfl
def N9{c d f}:L2.atI [a,b,c,d,e,f] 2=some c:=rfl
def N8{c d f}:L2.atI [a,b,c,d,e,f] 3=some d:=rfl
def N7{c d f}:L2.atI [a,b,c,d,e,f] 4=some e:=rfl
def MI(h1:-20<=lo)(h2:lo<=20):∃w,min (21-lo) (if z5>9 then 41 else 3)=w/\1<=w/\w<=21-lo/\w<=41:=by
 refine⟨_,rfl,?_,?_,?_⟩
 . split<;>omega
 . omega
 . omega
theorem LB{a b}:EI [.int a,.int b]=some (.int (min a b)):=by
 show some (D.int (if b<a then b else a))=_
 congr 2
 by_cases h:b<a
 . rw[if_pos h];lia
 . rw[if_neg h];lia
abbrev bxB:SQ:=ai Ms
 Mo
section
noncomputable abbrev szD(z0 z1 z2 z3 z4 z5:Int):D:=.tup [.int z0,.int z1,.int z2,.int z3,.int z4,.int z5]
theorem x8:∀L p T bs o q s,OkP p->T.Nodup->T.length+L.length<=20->T=W++bnm bs->(∀b∈bs,sE b)->∃(f:Yh bD)(r:Int×Int)(o' u s':Yg D),cn (gN 5) bxB L [some (pu p),some (szD z0 z1 z2 z3 z4 z5),some (.lst (T.map D.str)),some (.seq (W.map D.str)),some (.lst (bs.map aq)),o,none,none,q,s,none,none,none,none]=some (.nx [some (pu r),some (szD z0 z1 z2 z3 z4 z5),some (.lst ((W++bnm f).map D.str)),some (.seq (W.map D.str)),some (.lst (f.map aq)),o',none,none,u,s',none,none,none,none])/\OkP r/\(W++bnm f).Nodup/\(∀b∈f,sE b)/\f.length=bs.length+L.length:=by
 intro L
 induction L with
 |nil=>intro p T bs o q s I U V e S;subst e;exact⟨bs,p,o,q,s,rfl,I,U,S,rfl⟩
 | cons d L ih =>
  intro p T bs o q s I U V l S;rw[Zn]at V;have hbl:T.length=W.length+bs.length:=by rw[l];simp
  obtain⟨a,p1,e1,G,a0,a1⟩:=aM I (m:=41) (by decide) (by decide)
  obtain⟨w,t,Y,w1,X⟩:=MI (lo:=a-20) (by lia) (by lia)
  obtain⟨b,p2,e2,C,b0,b1⟩:=aM G Y (Int.le_trans X (by decide))
  obtain⟨n,p3,e3,B,hn,O⟩:=mP C (T:=T) (by lia)
  obtain⟨c,Z,e4,z,c0,c1⟩:=aM B (m:=a-20+b-(a-20)+1) (by clear t;lia) (by clear t;lia)
  have v:sE (n,a-20,a-20+b,a-20+c):=⟨hn,by show -20<=a-20;lia,by show a-20<=a-20+c;lia,by show a-20+c<=a-20+b;lia,by clear t;show a-20+b<=20;lia⟩
  obtain⟨f,r,o',u,s',e,H,J,Q,j⟩:=ih Z (T++[n]) (bs++[(n,a-20,a-20+b,a-20+c)]) (some (sh d)) (some (.int (a-20))) (some (.int (a-20+b))) z (lQ U O) (by simp;lia) (by rw[l];simp) (fun x hx=>by
   rcases Zt.mp hx with h|h
   . exact S x h
   . rw[Zr.mp h];exact v)
  refine⟨f,r,o',u,s',?_,H,J,Q,by rw[j,Zl,Zn,Zn,Zo];lia⟩
  have al:(bs.length<=999)=True:=eq_true (by lia)
  have mn:EI [.int (21-(a-20)),.int (if z5>9 then 41 else 3)]=some (.int w):=by rw[LB,t]
  have y:L2.atI [D.int 3,.int 41] (if decide (z5>9)=true then 1 else 0)=some (.int (if z5>9 then 41 else 3)):=by
   by_cases h:z5>9
   . rw[if_pos (decide_eq_true h),if_pos h];rfl
   . rw[if_neg (by rw[decide_eq_false h];decide),if_neg h];rfl
  rw[Zx (l₁:=bs)]at e;simp only[Ms,Mo,cn,aE,aX,bg,e_C,bT,i5,bS,bu,bM,bU,cS,cC,oM,aZ,aP,a8,bC,ab,aa,cG,aw,atP,cL,hU,da,jN,sh,noo,imm,iA,m5,Zc,Zd,Zm,Ze,Zf,Zg,Zh,ZR,Z8,Z9,e1,oa,FB,ua,oO,y,mn,e2,br,e3,e4,al];exact e
end
section
variable {bs:Yh bD} 
structure okR(W:List Str)(r:be):Prop extends okRoom W r where
 ls:r.stays.length<=2
theorem wU(O:W.length<=4)(z:0<z5)(y:z5<=60):∀L p I,OkP p->I.Nodup->I.length+L.length<=20->∃(rl:Yh be)(u:Int×Int),bi 1 (gN 0) (fun _=>some true) qY L [none,some (.lst (I.map D.str)),some (pu p),some (szD z0 z1 z2 z3 z4 z5),some (.seq (W.map D.str))]=some (rl.map rO,[none,some (.lst ((I++rl.map (·.name)).map D.str)),some (pu u),some (szD z0 z1 z2 z3 z4 z5),some (.seq (W.map D.str))])/\OkP u/\rl.length=L.length/\(∀r∈rl,okR W r)/\(I++rl.map (·.name)).Nodup:=by
 intro L
 induction L with
 |nil=>intro p I q t _;exact⟨[],p,by simp only[qY,bi,Zw,Zk],q,rfl,fun r h=>(by cases h),by rw[Zw,Zk];exact t⟩
 |cons d L B =>
  intro p I q t J;rw[Zn]at J;obtain⟨r,p1,Q,o,G,H,C⟩:=GA q (T:=I) (by lia) O z y
  obtain⟨rl,p2,v,m,s,l,f⟩:=B p1 (I++[r.name]) o (lQ t H) (by simp;lia)
  refine⟨r::rl,p2,?_,m,by rw[Zn,Zn,s],fun x j=>?_,by rw[ZW]at f;exact f⟩
  . rw[ZW]at v;simp only[qY,bi,e_C,bT,bS,cS,cC,aZ,aP,a8,bC,ab,aa,jN,noo,imm,iA,qL,Zc,Zv,Zi,Zj,Ze,Zf,Zg,Zh,ZR,Z8,Z9,FB,Q,v,List.singleton_append]
  . rcases Zu.mp j with rfl | j
    . exact⟨G,C⟩
    . exact l x j
noncomputable def dH(f:List be)(rl:List be):List be:=List.zipWith (fun a (r:be)=>{ r with name:=a.name }) f rl
theorem lq:∀f rl,rl.length<=f.length->(dH f rl).map (·.name)=(f.take rl.length).map (·.name)
 |_,[],_=>by simp[dH]
 |[],_::_,h=>by cases h
 |a::f,r::rl,h=>by have:=lq f rl (Nat.le_of_succ_le_succ h);simp only[dH]at this ⊢;simp[this]
theorem pW:∀f rl,(∀r∈f,okR W r)->(∀r∈rl,okR W r)->∀r∈dH f rl,okR W r
 |[],_,_,_,r,h=>by simp[dH]at h
 |_::_,[],_,_,r,h=>by simp[dH]at h
 |a::f,b::rl,hf,hr,r,h=>by
  rcases Zu.mp (h)with rfl|h
  . have h1:=hf a (Zp ..);have h2:=hr b (Zp ..);exact⟨⟨h1.name,h2.p0,h2.p1,h2.stays,h2.len⟩,h2.ls⟩
  . exact pW f rl (fun x m=>hf x (Zq _ m)) (fun x m=>hr x (Zq _ m)) r h
def iU(rl:Yh be):shs (rl.map rT)=rl.map rT:=cj CD rl
def wV(rl:Yh be):shs (rl.map rO)=rl.map rT:=cj M6 rl
def xR(l:Yh bt):shs (l.map dO)=l.map dT:=cj NZ l
def l8(l:Yh bt):shs (l.map dT)=l.map dT:=cj Ff l
theorem oC:∀f rl,bi 2 (jR [0,1]) (fun _=>some true) bq5 (List.zipWith (fun d e=>D.tup [d,e]) (f.map rT) (rl.map rT)) [none,none]=some ((dH f rl).map rT,[none,none])
 |[],rl=>by simp only[bq5,Zw,List.zipWith_nil_left,bi,dH]
 |a::f,[]=>by simp only[bq5,Zw,List.zipWith_nil_right,bi,dH]
 | a :: f,r :: rl=>by
  have l:=oC f rl;have j:sh (.tup [rT a,rT r])=.tup [rT a,rT r]:=by simp only[bq5,sh,shs,ju]
  have m:jR [0,1] (.tup [rT a,rT r]) [none,none]=some [some (rT a),some (rT r)]:=rfl;have o:uv [D.str r.name,.int r.price,.bl r.hurry,.seq (r.stays.map cT)] (some 1) none=[.int r.price,.bl r.hurry,.seq (r.stays.map cT)]:=rfl;have fe:rW (cY (ae (vI (f2 gIx (ab 0) (fC (.int 0)))) am)) (rH (aa 1) (faS (fC (.int 1))) faN) [some (rT a),some (rT r)]=some (rT { r with name:=a.name },[some (rT a),some (rT r)]):=by
   unfold rW;rw[show cY (ae (vI (f2 gIx (ab 0) (fC (.int 0)))) am) [some (rT a),some (rT r)]=some (.tup [.str a.name],[some (rT a),some (rT r)]) by simp[ab,imm,wC]]
   rw[Zc];rw[show rH (aa 1) (faS (fC (.int 1))) faN [some (rT a),some (rT r)]=some (.tup [.int r.price,.bl r.hurry,.seq (r.stays.map cT)],[some (rT a),some (rT r)]) by
    unfold rH;simp only[bq5,e_C,aa,noo,qo,Zc,Zn,Zo,Ze,Zf,Zg,Zh,Nat.reduceAdd,Z8,Bool.true_and,Bool.and_self,true_and,and_self,faS,faN,asI,o];rfl]
   rfl
  simp only[bq5,Zv,List.zipWith_cons_cons,bi,j,m,Zc,Z8,fe,Mc,l,dH]
structure okD(W B rn:List Str)(d:bt):Prop extends okDoor W B rn d where
 l2:d.conds.length<=2
 l3:d.deeds.length<=3
def Mg(d):own (dO d)=true:=by
 have:own (bJ d.word)=true:=by cases d.word<;>rfl
 simp only[own,gG,IH,this,Bool.and_true]
def xQ (G:rl ≠ []) (l:rl.length<=6) (J:W.length<=4) (I:bs.length<=3) (U:∀ b∈bnm bs,b ∉ W) (z:0<=z5) (v:z5<=60) (C:ws.length=3) (j:∀ w∈ws,aJ w):∀ L p,OkP p->∃ (ds:Yh bt) (t:Int×Int),bi 1 (gN 0) (fun _=>some true) ww L [none,some (.lst (bs.map aq)),some (pu p),some (.seq (rl.map rT)),some (szD z0 z1 z2 z3 z4 z5),some (.seq (W.map D.str)),some (.lst (ws.map D.str))]=some (ds.map dO,[none,some (.lst (bs.map aq)),some (pu t),some (.seq (rl.map rT)),some (szD z0 z1 z2 z3 z4 z5),some (.seq (W.map D.str)),some (.lst (ws.map D.str))])/\OkP t/\ds.length=L.length/\(∀ d∈ds,okD W (bnm bs) (rl.map (·.name)) d):=by
 intro L
 induction L with
 |nil=>intro p q;exact⟨[],p,rfl,q,rfl,fun d h=>(by cases h)⟩
 |cons x L B =>
  intro p q;obtain⟨d,p1,S,o,H,h2,O⟩:=Ix q G l J I U z v C j;obtain⟨ds,p2,Q,m,r,s⟩:=B p1 o;refine⟨d::ds,p2,?_,m,by rw[Zn,Zn,r],fun y f=>?_⟩
  . have u:=Mg d;simp[bi,ab,aa,sh,noo,imm,b8,cR,FB,im,aO,S,u,hX,tZ,show own (pu p1)=true from rfl,Q]
  . rcases Zu.mp f with rfl | f
    . exact⟨H,h2,O⟩
    . exact s y f
end
variable {rl2:Yh be} {ms:Yh ic}
abbrev mT(m:ic):D:=.tup [.str m.name,.seq (m.rooms.map rT),.seq (m.doors.map dT)]
structure okM(W B:List Str)(m:ic):Prop where
 name:aJ m.name
 rne:m.rooms≠[]
 rl:m.rooms.length<=6
 rooms:∀r∈m.rooms,okR W r
 nd:(m.rooms.map (·.name)).Nodup
 doors:∀d∈m.doors,okD W B (m.rooms.map (·.name)) d
def Ef(m):sh (mT m)=mT m:=by simp only[sh,shs,iU,l8]
section
variable {bs:Yh bD} 
abbrev mcB:SQ:=wq
abbrev mS(p:Int×Int)(sz:D)(T W:List Str)(bs:List bD)(k:Option D)(ms:List ic)(ws:List Str)(a b c d e f:Option D):DS:=[some (pu p),some sz,some (.lst (T.map D.str)),some (.seq (W.map D.str)),some (.lst (bs.map aq)),k,some (.lst (ms.map mT)),some (.lst (ws.map D.str)),a,b,c,d,e,f]
theorem ix0{n}(h:0<n):L2.ixN n 0=some 0:=by
 unfold L2.ixN;simp
 lia
theorem wM(m:OkS z0 z1 z2 z3 z4 z5){p1}{k a b c e}(u:OkP p1)(y:W.length<=4) :
 ∃(rl:Yh be)(p:Int×Int),OkP p/\rl≠[]/\rl.length<=6/\(∀r∈rl,okR W r)/\(rl.map (·.name)).Nodup/\wt (mS p1 (szD z0 z1 z2 z3 z4 z5) T W bs k ms ws a b c (some (.lst [])) e f)=some (.lst (rl.map rO),mS p (szD z0 z1 z2 z3 z4 z5) T W bs k ms ws a b c (some (.lst ((rl.map (·.name)).map D.str))) e f):=by
 obtain⟨r,p2,B,t,x,C⟩:=aM u m.d0 (by have:=m.d1;lia)
 obtain⟨j,rfl⟩:=Z0 x;have hk:j<6:=by have:=m.d1;lia
 obtain⟨rl,p,v,s,l,q,o⟩:=wU y (by have:=m.f0;lia) m.f1 ((List.range (1+j)).map fun(i:Nat)=>D.int (i:Int)) p2 [] t Zz (by simp;lia)
 rw[Zm,List.length_range]at l;rw[Zj]at o;simp only[wx,uE,qY,Zw,Zj]at v;have src:uE (mS p1 (szD z0 z1 z2 z3 z4 z5) T W bs k ms ws a b c (some (.lst [])) e f)=some ((List.range (1+j)).map fun(i:Nat)=>D.int (i:Int),mS p2 (szD z0 z1 z2 z3 z4 z5) T W bs k ms ws a b c (some (.lst [])) e f):=iO (by lia) (by
  simp only[wx,uE,qY,e_C,bT,i5,bS,cS,cC,aZ,aP,a8,bC,ab,aa,hU,jN,noo,imm,Zc,Ze,Zf,Zg,ZR,Z8,Z9,N8,B];rw[show(1:Int)+(j:Int)=((1+j:Nat):Int) by lia])
 have tk:takes ([11,0,1,3].map AK.lent) (mS p2 (szD z0 z1 z2 z3 z4 z5) T W bs k ms ws a b c (some (.lst [])) e f)=some ([.lst [],pu p2,szD z0 z1 z2 z3 z4 z5,.seq (W.map D.str)],[none,some (szD z0 z1 z2 z3 z4 z5),some (.lst (T.map D.str)),some (.seq (W.map D.str)),some (.lst (bs.map aq)),k,some (.lst (ms.map mT)),some (.lst (ws.map D.str)),a,b,c,none,e,f]):=rfl;refine⟨rl,p,s,fun z=>by rw[z]at l;simp at l;lia,by lia,q,o,?_⟩
 rw[wt,cq src tk v (by rw[Zm];lia)]
 rfl
theorem Ce {p3} {a b c d} (v:OkP p3) (p:rl ≠ []) (H:rl.length<=6) (o:∀ r∈rl,okR W r) (u:(rl.map (·.name)).Nodup) (G:∀ m∈ms,okM W (bnm bs) m) :
 ∃rl2 s,OkP s/\rl2≠[]/\rl2.length<=6/\(∀r∈rl2,okR W r)/\(rl2.map (·.name)).Nodup/\lJ m9 nc bw (mS p3 (szD z0 z1 z2 z3 z4 z5) T W bs (some (.int (ms.length:Nat))) ms ws a b c d (some (.seq (rl.map rT))) f)=some (.nx (mS s (szD z0 z1 z2 z3 z4 z5) T W bs (some (.int (ms.length:Nat))) ms ws a b c d (some (.seq (rl2.map rT))) f)):=by
 cases ms with
 |nil =>
  refine⟨rl,p3,v,p,H,o,u,?_⟩;have z:((((0:Nat):Int)>0))=False:=eq_false (by lia)
  simp[ab,z]
 | cons l ms =>
  have y:=G l (Zp ..);have z:((((l::ms).length:Nat):Int)>0)=True:=eq_true (by simp)
  by_cases B:(rl.length:Int)<=(l.rooms.length:Int)
  . have j:=eq_true B;obtain ⟨t,s,I,x,S,Q⟩:=aM v (m:=3) (by decide) (by decide)
    cases h1:(t==1)with
    |false =>refine⟨rl,s,x,p,H,o,u,?_⟩;simp only[nc,m9,bq5,iw,zC,E5,xO,ur,f9,dB,e_C,bT,i5,bS,bu,bM,bU,cS,cC,aZ,aP,a8,bC,ab,aa,g8,lE,da,oO,jN,noo,imm,Zc,Zv,Zm,Ze,Zf,Zg,ZR,Z8,Z9,decide_true,z,Zv,zM,rA,j,I,h1];simp only[nc,m9,bq5,mS,Zv]
    |true =>
     have C:(dH l.rooms rl).length=rl.length:=by simp[dH];lia
     refine⟨dH l.rooms rl,s,x,fun q=>?_,by lia,pW _ _ y.rooms o,?_,?_⟩
     . rw[q]at C;exact p (List.length_eq_zero_iff.mp C.symm)
     . rw [lq _ _ (by lia)]
       exact List.Nodup.sublist (List.Sublist.map _ (List.take_sublist _ _)) y.nd
     . have L:zR (ja (wAt 6 (pIx 6 (fC (.int 0)) aw)) (fC (.int 1))) (aa 12) (mS s (szD z0 z1 z2 z3 z4 z5) T W bs (some (.int ((l :: ms).length:Nat))) (l :: ms) ws a b c d (some (.seq (rl.map rT))) f)=some (List.zipWith (fun d e=>D.tup [d,e]) (l.rooms.map rT) (rl.map rT),mS s (szD z0 z1 z2 z3 z4 z5) T W bs (some (.int ((l :: ms).length:Nat))) (l :: ms) ws a b c d (some (.seq (rl.map rT))) f):=by
        have O:L2.ixN ((ms.map mT).length+1) 0=some 0:=ix0 (by lia)
        simp only[nc,m9,bq5,zR,ja,wAt,e_C,aa,aw,pIx,atP,sh,noo,qo,Zc,Zv,Zj,Zn,Ze,Zf,Zg,Zh,Z8,Bool.and_self,and_self,O,rA,iU]
       have J:=cq (js:=[]) (cs:=[]) L rfl (oC l.rooms rl) (by rw[Zm];lia)
       simp only[nc,m9,bq5,zC,E4,bg,xO,ur,f9,dB,e_C,bT,i5,bS,bu,bM,bU,cS,cC,aZ,aP,a8,bC,ab,aa,g8,lE,da,oO,jN,noo,imm,Zc,Zv,Zm,Ze,Zf,Zg,ZR,Z8,Z9,decide_true,z,Zv,zM,rA,j,I,h1];simp only[nc,m9,bq5,mS,Zv]at J;rw[J];simp only[nc,m9,bq5,aP,sh,Zc,Zv,Zw,Zn,Zg,Zh,mS,iU]
  . have j:((rl.length:Int)<=(l.rooms.length:Int))=False:=eq_false B;refine⟨rl,p3,v,p,H,o,u,?_⟩;simp only[nc,m9,bq5,iw,zC,E5,xO,ur,Ir,f9,dB,e_C,bT,bu,bM,bU,ab,g8,da,oO,jN,Zc,Zv,Zm,Ze,Zf,decide_true,decide_false,z,Zv,zM,rA,j]
theorem wN(s:OkS z0 z1 z2 z3 z4 z5){q}(G:q<=24){k g a b c d:Yg D}(o:OkP p5)(z:W.length<=4)(y:bs.length<=3)(C:∀b∈bnm bs,b∉W)(u:ws.length=3)(l:∀w∈ws,aJ w)(p:rl2≠[])(v:rl2.length<=6) :
 ∃(ds:Yh bt)(j:Int×Int),OkP j/\ds.length=q/\(∀x∈ds,okD W (bnm bs) (rl2.map (·.name)) x)/\aD (dG (aa 13)) 1 [4,0,12,1,3,7] (gN 0) (fun _=>some true) ww [some (pu p5),some (szD z0 z1 z2 z3 z4 z5),some (.lst (T.map D.str)),some (.seq (W.map D.str)),some (.lst (bs.map aq)),k,g,some (.lst (ws.map D.str)),a,b,c,d,some (.seq (rl2.map rT)),some (.int q)]=some (.lst (ds.map dO),[some (pu j),some (szD z0 z1 z2 z3 z4 z5),some (.lst (T.map D.str)),some (.seq (W.map D.str)),some (.lst (bs.map aq)),k,g,some (.lst (ws.map D.str)),a,b,c,d,some (.seq (rl2.map rT)),some (.int q)]):=by
 obtain⟨ds,j,B,m,f,r⟩:=xQ p v z y C (by have:=s.f0;lia) s.f1 u l ((List.range q).map fun(i:Nat)=>D.int (i:Int)) p5 o
 rw[Zm,List.length_range]at f;refine⟨ds,j,m,f,r,?_⟩;have t:aa 13 [some (pu p5),some (szD z0 z1 z2 z3 z4 z5),some (.lst (T.map D.str)),some (.seq (W.map D.str)),some (.lst (bs.map aq)),k,g,some (.lst (ws.map D.str)),a,b,c,d,some (.seq (rl2.map rT)),some (.int q)]=some (.int q,[some (pu p5),some (szD z0 z1 z2 z3 z4 z5),some (.lst (T.map D.str)),some (.seq (W.map D.str)),some (.lst (bs.map aq)),k,g,some (.lst (ws.map D.str)),a,b,c,d,some (.seq (rl2.map rT)),some (.int q)]):=rfl;have tk:takes ([4,0,12,1,3,7].map AK.lent) [some (pu p5),some (szD z0 z1 z2 z3 z4 z5),some (.lst (T.map D.str)),some (.seq (W.map D.str)),some (.lst (bs.map aq)),k,g,some (.lst (ws.map D.str)),a,b,c,d,some (.seq (rl2.map rT)),some (.int q)]=some ([.lst (bs.map aq),pu p5,.seq (rl2.map rT),szD z0 z1 z2 z3 z4 z5,.seq (W.map D.str),.lst (ws.map D.str)],[none,some (szD z0 z1 z2 z3 z4 z5),some (.lst (T.map D.str)),some (.seq (W.map D.str)),none,k,g,none,a,b,c,d,some (.seq (rl2.map rT)),some (.int q)]):=rfl;rw[cq (iO (by lia) t) tk B (by rw[Zm];lia)]
 rfl
theorem FH{cmp}{p6}{sz}{ds}{n}{k a b d}(j:ms.length<=100)(h:cmp [some (pu p5),some sz,some (.lst (T.map D.str)),some (.seq (W.map D.str)),some (.lst (bs.map aq)),k,none,some (.lst (ws.map D.str)),a,b,some (.str n),d,some (.seq (rl2.map rT)),f]=some (.lst (ds.map dO),[some (pu p6),some sz,some (.lst (T.map D.str)),some (.seq (W.map D.str)),some (.lst (bs.map aq)),k,none,some (.lst (ws.map D.str)),a,b,some (.str n),d,some (.seq (rl2.map rT)),f])) :
 cG 6 aw (br 6 (cY (ae (aa 10) (ae (aa 12) (ae (zS cmp) am))))) (mS p5 sz T W bs k ms ws a b (some (.str n)) d (some (.seq (rl2.map rT))) f)=some (.nx (mS p6 sz T W bs k (ms++[⟨n,rl2,ds⟩]) ws a b (some (.str n)) d (some (.seq (rl2.map rT))) f)):=by
 have l:((ms.map mT).length<=999)=True:=eq_true (by rw[Zm];lia)
 simp only[cS,cC,oM,aa,cG,aw,atP,cL,sh,noo,Zc,Ze,Zf,Zg,Zh,Z8,br,zS,h,xR,l];simp only[mS,Zx,Zv,Zw]
theorem AW(l:OkS z0 z1 z2 z3 z4 z5){p}{a b c d e}(hp:OkP p)(hT:T.length<=19)(V:W.length<=4)(hb:bs.length<=3)(dj:∀b∈bnm bs,b∉W)(hw:ws.length=3)(v:∀w∈ws,aJ w)(L:∀m∈ms,okM W (bnm bs) m)(O:ms.length<=100) :
 ∃m U c' d' e' f',mcB (mS p (szD z0 z1 z2 z3 z4 z5) T W bs (some (.int (ms.length:Nat))) ms ws a b c d e f)=some (.nx (mS U (szD z0 z1 z2 z3 z4 z5) (T++[m.name]) W bs (some (.int (ms.length:Nat))) (ms++[m]) ws a b c' d' e' f'))/\OkP U/\okM W (bnm bs) m/\m.name∉T/\(m.doors.length:Int)<=z4:=by
 obtain⟨n,p1,e1,H,hn,J⟩:=mP hp (T:=T) (by lia)
 obtain⟨rl,u,G,I,hl,y,x,e3⟩:=wM (e:=e) (f:=f) l H V;obtain⟨rl2,p4,C,j,s,r,o,e4⟩:=Ce (W:=W) (bs:=bs) (z0:=z0) (z1:=z1) (z2:=z2) (z3:=z3) (z4:=z4) (z5:=z5) (ws:=ws) (T:=T++[n]) (ms:=ms) (a:=a) (b:=b) (c:=some (.str n)) (d:=some (.lst ((rl.map (·.name)).map D.str))) (f:=f) G I hl y x L;have hz4:z4<=24:=by
  have h1:=l.e0;have h2:=l.e1;have h3:=l.c0;have:z4*1<=z4*z2:=Int.mul_le_mul_of_nonneg_left h3 h1;rw[Int.mul_comm z4 z2]at this
  lia
 obtain⟨t,p5,e5,B,X,t1⟩:=aM C (m:=z4+1) (by have:=l.e0;lia) (by lia)
 obtain⟨q,rfl⟩:=Z0 X;obtain⟨ds,S,z,hl6,Q,e6⟩:=wN (W:=W) (bs:=bs) (ws:=ws) (T:=T++[n]) (rl2:=rl2) (q:=q) (k:=some (.int (ms.length:Nat))) (g:=none) (a:=a) (b:=b) (c:=some (.str n)) (d:=some (.lst ((rl.map (·.name)).map D.str))) l (by lia) B V hb dj hw v j s
 refine⟨⟨n,rl2,ds⟩,S,some (.str n),some (.lst ((rl.map (·.name)).map D.str)),some (.seq (rl2.map rT)),some (.int q),?_,z,⟨hn,j,s,r,o,Q⟩,J,by show(ds.length:Int)<=z4;lia⟩
 have s1:aj [some 0,some 2] bF (ae (aa 0) (ae (aa 2) am)) (mS p (szD z0 z1 z2 z3 z4 z5) T W bs (some (.int (ms.length:Nat))) ms ws a b c d e f)=some (.str n,mS p1 (szD z0 z1 z2 z3 z4 z5) (T++[n]) W bs (some (.int (ms.length:Nat))) ms ws a b c d e f):=by simp[aa,noo,e1]
 have Z:aj [some 0,none] aI bq2 (mS p4 (szD z0 z1 z2 z3 z4 z5) (T++[n]) W bs (some (.int (ms.length:Nat))) ms ws a b (some (.str n)) (some (.lst ((rl.map (·.name)).map D.str))) (some (.seq (rl2.map rT))) f)=some (.int q,mS p5 (szD z0 z1 z2 z3 z4 z5) (T++[n]) W bs (some (.int (ms.length:Nat))) ms ws a b (some (.str n)) (some (.lst ((rl.map (·.name)).map D.str))) (some (.seq (rl2.map rT))) f):=by simp[ab,aa,noo,imm,N7,e5]
 have Y:cG 6 aw x6 (mS p5 (szD z0 z1 z2 z3 z4 z5) (T++[n]) W bs (some (.int (ms.length:Nat))) ms ws a b (some (.str n)) (some (.lst ((rl.map (·.name)).map D.str))) (some (.seq (rl2.map rT))) (some (.int q)))=some (.nx (mS S (szD z0 z1 z2 z3 z4 z5) (T++[n]) W bs (some (.int (ms.length:Nat))) (ms++[⟨n,rl2,ds⟩]) ws a b (some (.str n)) (some (.lst ((rl.map (·.name)).map D.str))) (some (.seq (rl2.map rT))) (some (.int q)))):=by exact FH O e6
 unfold mcB wq;rw[aE,bg,s1,Zc,aX,aE,j8];rw[show bR am (List.set (D.str n,mS p1 (szD z0 z1 z2 z3 z4 z5) (T++[n]) W bs (some (.int (ms.length:Nat))) ms ws a b c d e f).2 10 (some (sh (D.str n,mS p1 (szD z0 z1 z2 z3 z4 z5) (T++[n]) W bs (some (.int (ms.length:Nat))) ms ws a b c d e f).1)))=some (.lst [],mS p1 (szD z0 z1 z2 z3 z4 z5) (T++[n]) W bs (some (.int (ms.length:Nat))) ms ws a b (some (.str n)) d e f)from rfl,Zc,aX,aE,bg]
 rw[show(List.set (D.lst [],mS p1 (szD z0 z1 z2 z3 z4 z5) (T++[n]) W bs (some (.int (ms.length:Nat))) ms ws a b (some (.str n)) d e f).2 11 (some (D.lst [],mS p1 (szD z0 z1 z2 z3 z4 z5) (T++[n]) W bs (some (.int (ms.length:Nat))) ms ws a b (some (.str n)) d e f).1))=mS p1 (szD z0 z1 z2 z3 z4 z5) (T++[n]) W bs (some (.int (ms.length:Nat))) ms ws a b (some (.str n)) (some (.lst [])) e f from rfl,e3,Zc,aX,aE]
 rw[show(List.set (D.lst (rl.map rO),mS u (szD z0 z1 z2 z3 z4 z5) (T++[n]) W bs (some (.int (ms.length:Nat))) ms ws a b (some (.str n)) (some (.lst ((rl.map (·.name)).map D.str))) e f).2 12 (some (sh (D.lst (rl.map rO),mS u (szD z0 z1 z2 z3 z4 z5) (T++[n]) W bs (some (.int (ms.length:Nat))) ms ws a b (some (.str n)) (some (.lst ((rl.map (·.name)).map D.str))) e f).1)))=mS u (szD z0 z1 z2 z3 z4 z5) (T++[n]) W bs (some (.int (ms.length:Nat))) ms ws a b (some (.str n)) (some (.lst ((rl.map (·.name)).map D.str))) (some (.seq (rl.map rT))) f from by
  simp only[wx,uE,bq2,qY,ww,nc,m9,x6,wt,Bw,bq5,wq,sh,wV,mS,Zg,Zh],e4,aX,aE,bg,Z,Zc,aX]
 exact Y
end
variable {o5:Yg D} {k':Str}
structure okNet(n:kf):Prop where
 lw:n.watches.length<=4
 lb:n.boxes.length<=3
 m1:1<=n.machines.length
 m2:n.machines.length<=4
 nd:(n.watches++bnm n.boxes++n.machines.map (·.name)).Nodup
 wn:∀w∈n.watches,aJ w
 bx:∀b∈n.boxes,sE b
 mc:∀m∈n.machines,okM n.watches (bnm n.boxes) m
 dl:(n.machines.map fun m=>m.doors.length).sum<=24
section
variable {bs:Yh bD} 
theorem AX{s}(h:∀p T ms a b c d e f,OkP p->T.length<=19->(∀m∈ms,okM W (bnm bs) m)->ms.length<=100->∃m r c' d' L J,s (mS p (szD z0 z1 z2 z3 z4 z5) T W bs (some (.int (ms.length:Nat))) ms ws a b c d e f)=some (.nx (mS r (szD z0 z1 z2 z3 z4 z5) (T++[m.name]) W bs (some (.int (ms.length:Nat))) (ms++[m]) ws a b c' d' L J))/\OkP r/\okM W (bnm bs) m/\m.name∉T/\(m.doors.length:Int)<=z4) :
 ∀j p T ms k a b c d e f,OkP p->T.Nodup->T.length+j<=19->(∀m∈ms,okM W (bnm bs) m)->ms.length+j<=100->(∀m∈ms,(m.doors.length:Int)<=z4)->∃(o:Yh ic)(r:Int×Int)(k' c' d' L J:Yg D),cn (gN 5) s ((List.range' ms.length j).map fun(i:Nat)=>D.int (i:Int)) (mS p (szD z0 z1 z2 z3 z4 z5) T W bs k ms ws a b c d e f)=some (.nx (mS r (szD z0 z1 z2 z3 z4 z5) (T++o.map (·.name)) W bs k' (ms++o) ws a b c' d' L J))/\OkP r/\(T++o.map (·.name)).Nodup/\(∀m∈o,okM W (bnm bs) m)/\(∀m∈o,(m.doors.length:Int)<=z4)/\o.length=j:=by
 intro j
 induction j with
 |zero =>intro p T ms k a b c d e f C I _ q _ _;exact⟨[],p,k,c,d,e,f,by simp only[List.range'_zero,Zw,cn,Zk],C,by rw[Zw,Zk];exact I,fun m h=>(by cases h),fun m h=>(by cases h),rfl⟩
 | succ j V =>
  intro p T ms k a b c d e f C I hl q Y Z;obtain⟨m,p1,c1,d1,e1,f1,Q,B,O,X,u⟩:=h p T ms a b c d e f C (by lia) q (by lia)
  obtain⟨o,p2,U,c2,d2,e2,f2,y,z,t,H,G,v⟩:=V p1 (T++[m.name]) (ms++[m]) (some (.int (ms.length:Nat))) a b c1 d1 e1 f1 B (lQ I X) (by simp;lia) (fun x l=>by
   rcases Zt.mp l with h|h
   . exact q x h
   . rw[Zr.mp h];exact O) (by simp;lia) (fun x l=>by
   rcases Zt.mp l with h|h
   . exact Z x h
   . rw[Zr.mp h];exact u)
  refine⟨m::o,p2,U,c2,d2,e2,f2,?_,z,by rw[ZW]at t;exact t,fun x l=>?_,fun x l=>?_,by rw[Zn,v]⟩
  . rw [ZW,ZW] at y;rw [List.range'_succ,Zv];have S:(ms++[m]).length=ms.length+1:=by simp
    rw[S]at y;have g5:gN 5 (sh (.int (ms.length:Nat))) (mS p (szD z0 z1 z2 z3 z4 z5) T W bs k ms ws a b c d e f)=some (mS p (szD z0 z1 z2 z3 z4 z5) T W bs (some (.int (ms.length:Nat))) ms ws a b c d e f):=rfl;simp only[cn,g5,Zc,Q];exact y
  . rcases Zu.mp l with rfl | l
    . exact O
    . exact H x l
  . rcases Zu.mp l with rfl | l
    . exact u
    . exact G x l
theorem wE{sz t w bx m}:∀L p(ws:Yh Str) o q s,OkP p->(∀x∈ws,aJ x)->ws.length+L.length<=20->∃(f:Yh Str)(z:Int×Int)(o':Yg D),cn (gN 5) (bE (aj [some 0,some 7] bF (ae (aa 0) (ae (aa 7) am)))) L [some (pu p),some sz,some t,some w,some bx,o,some m,some (.lst (ws.map D.str)),q,s,none,none,none,none]=some (.nx [some (pu z),some sz,some t,some w,some bx,o',some m,some (.lst (f.map D.str)),q,s,none,none,none,none])/\OkP z/\(∀x∈f,aJ x)/\f.length=ws.length+L.length:=by
 intro L
 induction L with
 |nil=>intro p ws o q s v l _;exact⟨ws,p,o,rfl,v,l,rfl⟩
 | cons d L B =>
  intro p ws o q s v l I;rw[Zn]at I;obtain⟨n,p1,O,u,H,G⟩:=mP v (T:=ws) (by lia)
  obtain⟨f,p2,o',J,r,j,y⟩:=B p1 (ws++[n]) (some (sh d)) q s u (fun x C=>by
   rcases Zt.mp C with h|h
   . exact l x h
   . rw[Zr.mp h];exact H) (by simp;lia)
  refine⟨f,p2,o',?_,r,j,by rw[y,Zl,Zn,Zn,Zo];lia⟩
  simp only[cn,fN,cS,cC,aZ,aP,a8,aa,noo,iA,m5,Zc,Zd,Ze,Zf,Zg,Zh,ZR,Z9,O];exact J
end
abbrev qq(n:kf):D:=.tup [.seq (n.watches.map D.str),.lst (n.boxes.map aq),.lst (n.machines.map mT)]
theorem JU{l:Yh ic}{z}(h:∀m∈l,m.doors.length<=z):(l.map fun m=>m.doors.length).sum<=l.length*z:=by
 induction l with
 |nil=>simp
 |cons m l f =>
  have:=f fun x j=>h x (Zq _ j)
  have:=h m (Zp ..);rw[Zv,List.sum_cons,Zn,Nat.succ_mul]
  lia
def D9{cw}{fb fw fm}{p p2 p4 p7}{sz}{m:Yh Str}{bs:Yh bD}{o4 q4 s4 k7 c7 d7 e7 f7}
 (h2:cw [some (pu p),some sz,some (.lst []),none,none,none,none,none,none,none,none,none,none,none]=some (.lst (W.map D.str),[some (pu p2),some sz,some (.lst (W.map D.str)),none,none,none,none,none,none,none,none,none,none,none]))
 (l:fb [some (pu p2),some sz,some (.lst (W.map D.str)),some (.seq (W.map D.str)),some (.lst []),none,none,none,none,none,none,none,none,none]=some (.nx [some (pu p4),some sz,some (.lst (T.map D.str)),some (.seq (W.map D.str)),some (.lst (bs.map aq)),o4,none,none,q4,s4,none,none,none,none]))
 (j:fw [some (pu p4),some sz,some (.lst (T.map D.str)),some (.seq (W.map D.str)),some (.lst (bs.map aq)),o4,some (.lst []),some (.lst []),q4,s4,none,none,none,none]=some (.nx [some (pu p5),some sz,some (.lst (T.map D.str)),some (.seq (W.map D.str)),some (.lst (bs.map aq)),o5,some (.lst []),some (.lst (ws.map D.str)),q4,s4,none,none,none,none]))
 (f:fm [some (pu p5),some sz,some (.lst (T.map D.str)),some (.seq (W.map D.str)),some (.lst (bs.map aq)),o5,some (.lst []),some (.lst (ws.map D.str)),q4,s4,none,none,none,none]=some (.nx [some (pu p7),some sz,some (.lst (m.map D.str)),some (.seq (W.map D.str)),some (.lst (bs.map aq)),k7,some (.lst (ms.map mT)),some (.lst (ws.map D.str)),q4,s4,c7,d7,e7,f7])) :
 av 2 ((ai (eL 2 (bR am)) (ai (az 3 cw) (ai (eL 4 (bR am)) (ai fb (ai (eL 6 (bR am)) (ai (eL 7 (bR am)) (ai fw (ai fm (aW (cY (ae (aa 3) (ae (aa 4) (ae (aa 6) am))))))))))))) (Dl.start 14 [pu p,sz]))=some (.tup [.seq (W.map D.str),.lst (bs.map aq),.lst (ms.map mT)],[some (pu p7),some sz]):=by
 simp[Dl.start,av,aa,sh,noo,ZV,h2,l,j,f]
theorem Ly(j:OkS z0 z1 z2 z3 z4 z5){p:Int×Int}(hp:OkP p):∃(n:kf)(Q4:DS),jI [pu p,szD z0 z1 z2 z3 z4 z5]=some (qq n,Q4)/\okNet n:=by
 obtain⟨r1,p1,e1,hp1,a0,a1⟩:=aM hp (m:=z0+1) (by have:=j.a0;lia) (by have:=j.a1;lia)
 obtain⟨Q,rfl⟩:=Z0 a0;have hk1:Q<=4:=by have:=j.a1;lia
 obtain⟨W,p2,e2,Z,hl2,hW,I⟩:=xj ((List.range Q).map fun(i:Nat)=>D.int (i:Int)) p1 [] hp1 Zz (by simp;lia)
 rw[Zm,List.length_range]at hl2;simp only[BD,BC,wx,BB,uE,bq2,qY,ww,nc,m9,x6,wt,Bw,bq5,wq,Zw,Zj]at e2 I;have C:dG BD [some (pu p),some (szD z0 z1 z2 z3 z4 z5),some (.lst []),none,none,none,none,none,none,none,none,none,none,none]=some ((List.range Q).map fun(i:Nat)=>D.int (i:Int),[some (pu p1),some (szD z0 z1 z2 z3 z4 z5),some (.lst []),none,none,none,none,none,none,none,none,none,none,none]):=iO (by lia) (by simp[ab,aa,noo,imm,Ob,e1])
 have L:takes ([0,2].map AK.lent) [some (pu p1),some (szD z0 z1 z2 z3 z4 z5),some (.lst []),none,none,none,none,none,none,none,none,none,none,none]=some ([pu p1,.lst []],[none,some (szD z0 z1 z2 z3 z4 z5),none,none,none,none,none,none,none,none,none,none,none,none]):=rfl;have c2:=cq C L e2 (by rw[Zm];lia)
 obtain⟨r3,p3,e3,Y,b0,b1⟩:=aM Z (m:=z1+1) (by have:=j.b0;lia) (by have:=j.b1;lia)
 obtain⟨J,rfl⟩:=Z0 b0;have hk3:J<=3:=by have:=j.b1;lia
 obtain⟨bs,O,o4,v,u,e4,X,H,hbo,hbl⟩:=x8 (W:=W) (z0:=z0) (z1:=z1) (z2:=z2) (z3:=z3) (z4:=z4) (z5:=z5) ((List.range J).map fun(i:Nat)=>D.int (i:Int)) p3 W [] none none none Y I (by simp;lia) (by simp) (fun b h=>(by cases h))
 rw[Zm,List.length_range,Zo,Nat.zero_add]at hbl;have B:dG BC [some (pu p2),some (szD z0 z1 z2 z3 z4 z5),some (.lst (W.map D.str)),some (.seq (W.map D.str)),some (.lst []),none,none,none,none,none,none,none,none,none]=some ((List.range J).map fun(i:Nat)=>D.int (i:Int),[some (pu p3),some (szD z0 z1 z2 z3 z4 z5),some (.lst (W.map D.str)),some (.seq (W.map D.str)),some (.lst []),none,none,none,none,none,none,none,none,none]):=iO (n:=J) (by lia) (by simp[ab,aa,noo,imm,Oa,e3])
 have f4:=fM B e4;obtain⟨ws,p5,o5,e5,V,S,o⟩:=wE (sz:=szD z0 z1 z2 z3 z4 z5) (t:=.lst ((W++bnm bs).map D.str)) (w:=.seq (W.map D.str)) (bx:=.lst (bs.map aq)) (m:=.lst []) ((List.range 3).map fun(i:Nat)=>D.int (i:Int)) O [] o4 v u X (fun x h=>(by cases h)) (by simp)
 have o:ws.length=3:=by simpa using o
 have z:dG (vI (fC (.int 3))) [some (pu O),some (szD z0 z1 z2 z3 z4 z5),some (.lst ((W++bnm bs).map D.str)),some (.seq (W.map D.str)),some (.lst (bs.map aq)),o4,some (.lst []),some (.lst []),v,u,none,none,none,none]=some ((List.range 3).map fun(i:Nat)=>D.int (i:Int),[some (pu O),some (szD z0 z1 z2 z3 z4 z5),some (.lst ((W++bnm bs).map D.str)),some (.seq (W.map D.str)),some (.lst (bs.map aq)),o4,some (.lst []),some (.lst []),v,u,none,none,none,none]):=iO (n:=3) (by decide) (by simp only[BD,BC,wx,BB,uE,bq2,qY,ww,nc,m9,x6,wt,Bw,bq5,wq,e_C,bS,imm,Zc,Z8];rfl)
 have f5:=fM z e5;obtain⟨r6,p6,e6,U,c0,c1⟩:=aM V (m:=z2) j.c0 (by have:=j.c1;lia)
 obtain⟨l,rfl⟩:=Z0 c0;have hk6:l<=3:=by have:=j.c1;lia
 have dj:∀b∈bnm bs,b∉W:=fun b hb hw=>(Z2.mp H).2.2 b hw b hb rfl
 obtain⟨ms,p7,k7,c7,d7,e7',f7',e7,hp7,hnd,q,hmz,r⟩:=AX (W:=W) (bs:=bs) (ws:=ws) (z0:=z0) (z1:=z1) (z2:=z2) (z3:=z3) (z4:=z4) (z5:=z5) (s:=mcB) (fun p T ms a b c d e f hp hT q r=>AW j hp hT (by lia) (by lia) dj o S q r) (1+l) p6 (W++bnm bs) [] o5 v u none none none none U H (by simp;lia) (fun m h=>(by cases h)) (by simp;lia) (fun m h=>(by cases h))
 have y:dG BB [some (pu p5),some (szD z0 z1 z2 z3 z4 z5),some (.lst ((W++bnm bs).map D.str)),some (.seq (W.map D.str)),some (.lst (bs.map aq)),o5,some (.lst []),some (.lst (ws.map D.str)),v,u,none,none,none,none]=some ((List.range (1+l)).map fun(i:Nat)=>D.int (i:Int),[some (pu p6),some (szD z0 z1 z2 z3 z4 z5),some (.lst ((W++bnm bs).map D.str)),some (.seq (W.map D.str)),some (.lst (bs.map aq)),o5,some (.lst []),some (.lst (ws.map D.str)),v,u,none,none,none,none]):=iO (n:=1+l) (by lia) (by
  simp only[BD,BC,wx,BB,uE,bq2,qY,ww,nc,m9,x6,wt,Bw,bq5,wq,e_C,bT,i5,bS,cS,cC,aZ,aP,a8,bC,ab,aa,hU,jN,noo,imm,Zc,Ze,Zf,Zg,ZR,Z8,Z9,N9,e6];rw[show(1:Int)+(l:Int)=((1+l:Nat):Int) by lia])
 rw[show([]:Yh ic).length=0 from rfl,<- List.range_eq_range']at e7
 simp only[BD,BC,wx,BB,uE,bq2,qY,ww,nc,m9,x6,wt,Bw,bq5,wq,mS,Zw,Zj]at e7;have f7:=fM y e7;have G:∀m∈ms,m.doors.length<=z4.toNat:=fun m hm=>by have:=hmz m hm;have:=j.e0;lia
 refine⟨⟨W,bs,ms⟩,[some (pu p7),some (szD z0 z1 z2 z3 z4 z5)],?_,⟨by show W.length<=4;lia,by show bs.length<=3;lia,by show 1<=ms.length;lia,by show ms.length<=4;lia,hnd,hW,hbo,q,?_⟩⟩
 rotate_left
 . refine ZZ (JU G) ?_;rw [r];have h1:=j.e0;have h2:=j.e1;have h3:(((1+l:Nat):Int))<=z2:=by lia
   have h4:((1+l:Nat):Int)*z4<=z2*z4:=Int.mul_le_mul_of_nonneg_right h3 h1;have h5:(((1+l)*z4.toNat:Nat):Int)=((1+l:Nat):Int)*z4:=by rw[Int.natCast_mul,Int.toNat_of_nonneg h1]
   lia
 . unfold jI mq;exact D9 c2 f4 f5 f7
variable {vs ys:Yh Str}
noncomputable abbrev J(ws:List Str):Str:=Str.join ⟨#[32]⟩ ws
def Wd(w:Str):Prop:=Fr 32 w/\Fr 10 w/\w.length<=40
instance(w:Str):Decidable (Wd w):=by unfold Wd Fr;exact inferInstance
theorem cN{w}(h:aJ w):Wd w:=⟨fun m=>by have:=h.2.2 _ m;lia,fun m=>by have:=h.2.2 _ m;lia,by have:=h.2.1;lia⟩
theorem jY(h:i.natAbs<10^31):Wd (num i):=⟨xf _ (by decide) (by decide),xf _ (by decide) (by decide),by have:=kL h;lia⟩
theorem HF(h:i.natAbs<10^31):Wd (num i++(⟨#[44]⟩:Str)):=⟨(jY h).1.app (by unfold Fr;decide),(jY h).2.1.app (by unfold Fr;decide),by
 have:=kL h;rw[aY];show _+1<=40;lia⟩
theorem zN:∀{ws},(∀w∈ws,Wd w)->(J ws).length<=41*ws.length
 |[],_=>by simp[J,Str.join,Str.empty,Str.length]
 |[x],h=>by
  have:=(h x (by simp)).2.2
  show x.length<=41*1
  lia
 |x::y::r,h=>by
  have:=(h x (by simp)).2.2
  have h2:=zN fun w m=>h w (Zq _ m)
  unfold J at h2 ⊢;rw[aK,aY,aY];show x.length+(1+_)<=_;simp only[Zn]at h2 ⊢
  lia
def FP(h:ws≠[])(g:vs≠[]):J (ws++vs)=J ws++((⟨#[32]⟩:Str)++J vs):=qw _ h g
def Cm:Str.ofString " price " = (⟨#[32]⟩:Str)++(Str.ofString "price" ++ (⟨#[32]⟩:Str)):=by decide +kernel
def Cn:Str.ofString " hurry" = (⟨#[32]⟩:Str)++Str.ofString "hurry":=by decide +kernel
def wP:Str.ofString " weather" = (⟨#[32]⟩:Str)++Str.ofString "weather":=by decide +kernel
def Gg:Str.ofString " stay " = (⟨#[32]⟩:Str)++(Str.ofString "stay" ++ (⟨#[32]⟩:Str)):=by decide +kernel
def Gf:Str.ofString " when " = (⟨#[32]⟩:Str)++(Str.ofString "when" ++ (⟨#[32]⟩:Str)):=by decide +kernel
def MS:Str.ofString " do " = (⟨#[32]⟩:Str)++(Str.ofString "do" ++ (⟨#[32]⟩:Str)):=by decide +kernel
def Gh:Str.ofString "room " = Str.ofString "room" ++ (⟨#[32]⟩:Str):=by decide +kernel
def Gj:Str.ofString "door " = Str.ofString "door" ++ (⟨#[32]⟩:Str):=by decide +kernel
def Ck:Str.ofString "watch " = Str.ofString "watch" ++ (⟨#[32]⟩:Str):=by decide +kernel
def Gi:Str.ofString "machine " = Str.ofString "machine" ++ (⟨#[32]⟩:Str):=by decide +kernel
def uY:Str.ofString ", " = (⟨#[44]⟩:Str)++(⟨#[32]⟩:Str):=by decide +kernel
def ME{k}(h:ws≠[])(g:vs≠[]):J ws++((⟨#[32]⟩:Str)++(k++(⟨#[32]⟩:Str)))++J vs=J (ws++k::vs):=by
 rw[FP h (List.cons_ne_nil _ _)];cases vs with
 |nil=>exact absurd rfl g
 |cons v vs =>unfold J;rw[aK];simp only[cJ]
def Oj{k}(h:ws≠[]):J ws++((⟨#[32]⟩:Str)++k)=J (ws++[k]):=by rw[FP h (List.cons_ne_nil _ _)];rfl
def ct (c:Str×Str×Int):Str:=c.1++Str.ofString " " ++ c.2.1++Str.ofString " " ++ num c.2.2
def JH(c:Str×Str×Int):ct c=J [c.1,c.2.1,num c.2.2]:=by unfold ct J;rw[aK,aK,fS];simp only[cJ];rfl
def Jb{cs}(h:cs≠[]):tw cs≠[]:=by
 cases cs with
 |nil=>exact absurd rfl h
 |cons c r=>cases r<;>exact List.cons_ne_nil _ _
theorem sM:∀{cs},cs≠[]->Str.join (Str.ofString ", ") (cs.map ct)=J (tw (cs.map tri))
 |[],h=>absurd rfl h
 |[c],_=>JH c
 | c :: d :: r,_=>by
  have f:=sM (cs:=d::r) (by simp)
  show Str.join _ (ct c::ct d::r.map ct)=J (c.1::c.2.1::(num c.2.2++(⟨#[44]⟩:Str))::tw ((d::r).map tri));rw[aK,show ct d::r.map ct=(d::r).map ct from rfl,f]
  have tn:tw ((d::r).map tri)≠[]:=Jb (by simp)
  unfold J;rw[aK,aK];have e:Str.join ⟨#[32]⟩ ((num c.2.2++(⟨#[44]⟩:Str))::tw ((d::r).map tri))=(num c.2.2++(⟨#[44]⟩:Str))++((⟨#[32]⟩:Str)++Str.join ⟨#[32]⟩ (tw ((d::r).map tri))):=by
   have:=qw (⟨#[32]⟩:Str) (p:=[num c.2.2++(⟨#[44]⟩:Str)]) (by simp) tn
   exact this
  rw[e,uY];unfold ct;rw[fS];simp only[cJ]
structure wdC(c:Str×Str×Int):Prop where
 a:Wd c.1
 b:Wd c.2.1
 n:c.2.2.natAbs<10^31
theorem BW:∀{cs:Yh (Str×Str×Int)},(∀c∈cs,wdC c)->∀w∈tw (cs.map tri),Wd w
 |[],_,w,h=>by cases h
 |[c],f,w,h=>by
  have f:=f c (by simp)
  have h':w∈[c.1,c.2.1,num c.2.2]:=h;simp at h';rcases h' with rfl|rfl|rfl
  . exact f.a
  . exact f.b
  . exact jY f.n
 |c::d::r,f,w,h=>by
  have h0:=f c (by simp)
  have h':w∈c.1::c.2.1::(num c.2.2++(⟨#[44]⟩:Str))::tw ((d::r).map tri):=h;simp only[Zu]at h';rcases h' with rfl|rfl|rfl|h'
  . exact h0.a
  . exact h0.b
  . exact HF h0.n
  . exact BW (fun x m=>f x (Zq _ m)) w h'
def pO(h:i.natAbs<10^31):lv [.int i]=some (.str (num i)):=by
 show(if i.natAbs.log2<1920 then some (D.str (num i))else none)=_
 rw[if_pos]
 by_cases h0:i.natAbs=0
 . rw[h0];decide
 . exact(Nat.log2_lt h0).mpr (ZD h (ZZ (by decide:10^31<=2^200) (Nat.pow_le_pow_right (by decide) (by decide))))
def LN{B}(h:∀y∈ys,y.length<=B)(f:ys.length*B+ys.length*s.length<=16777216):JoinOk s ys=true:=by unfold JoinOk;rw[StrLaws.joinFits h f];rfl
def xN{B}(h:∀y∈ys,y.length<=B)(f:ys.length*B+ys.length*s.length<=16777216):ly (.str s) [.lst (ys.map D.str)]=some (.str (Str.join s ys)):=by unfold ly;simp only[oi,Zc,o3,LN h f,Z8,HV]
theorem Fk(h:wdC c):(ct c).length<=130:=by
 rw[JH];have:=zN (ws:=[c.1,c.2.1,num c.2.2]) (fun w m=>by
  simp at m;rcases m with rfl|rfl|rfl
  . exact h.a
  . exact h.b
  . exact jY h.n)
 simp only[Zn,Zo]at this
 lia
def AZ(h0:cs≠[])(l:∀c∈cs,wdC c)(v:cs.length<=100):cz [.seq (cs.map cT)]=some (.str (J (tw (cs.map tri))),[some (.seq (cs.map cT))]):=by
 have e:=cq (js:=[]) (δ:=[some (.seq (cs.map cT))]) (δc:=[some (.seq (cs.map cT))]) (src:=a6 (aa 0)) (n:=3) (g:=jR [0,1,2]) (fc:=fun _=>some true) (felt:=IR) (ds:=cs.map cT) (xs:=(cs.map cT).map fun d=>match d with|.tup [.str a,.str b,.int i]=>.str (ct (a,b,i))|_=>.non) (ιe:=[none,none,none]) (by simp[a6,aa,sh,noo,ju]) rfl (dW fun d t=>by
  obtain⟨c,f,rfl⟩:=Zs.mp t;have h:=l c f;have q:c.1.length+(Str.ofString " ").length<=sizeLine:=sz (by have:=h.a.2.2;rw[fS];show c.1.length+1<=_;omega)
  have p:(c.1++Str.ofString " ").length+c.2.1.length<=sizeLine:=sz (by have:=h.a.2.2;have:=h.b.2.2;rw[aY,fS];show c.1.length+1+_<=_;omega)
  have o:(c.1++Str.ofString " " ++ c.2.1).length+(Str.ofString " ").length<=sizeLine:=sz (by have:=h.a.2.2;have:=h.b.2.2;rw[aY,aY,fS];show c.1.length+1+_+1<=_;omega)
  have m:(c.1++Str.ofString " " ++ c.2.1++Str.ofString " ").length+(num c.2.2).length<=sizeLine:=sz (by have:=Fk h;unfold ct at this;rw[aY]at this;omega)
  refine⟨[some (.str c.1),some (.str c.2.1),some (.int c.2.2)],by simp only[IR,sh,shs];rfl,rfl,[some (.str c.1),some (.str c.2.1),some (.int c.2.2)],?_,rfl⟩
  simp[ab,imm,bW q,bW p,bW o,bW m,pO h.n,ct]) (by rw[Zm,Zm];omega)
 have u:((cs.map cT).map fun d=>match d with|.tup [.str a,.str b,.int i]=>D.str (ct (a,b,i))|_=>.non)=(cs.map ct).map D.str:=by rw[List.map_map,List.map_map];rfl
 rw[u]at e;have j:=xN (s:=Str.ofString ", ") (ys:=cs.map ct) (B:=130) (fun y r=>by obtain⟨c,f,rfl⟩:=Zs.mp r;exact Fk (l c f)) (by rw[Zm,uY];show cs.length*130+cs.length*2<=_;omega)
 rw[sM h0]at j;simp only[IR,cz,iS,Dl.start,av,cA,e_C,bS,E1,bM,bU,aP,sh,imm,Zc,Zd,Zv,Zw,Zk,Zn,Zo,ZP,ZS,ZQ,Nat.sub_self,Nat.reduceAdd,Z8,lD,shO,ju,e,j]
def Mz{c d:D}:L2.atI [a,b,c,d] 1=some b:=rfl
def Of{c d:D}:L2.atI [a,b,c,d] 2=some c:=rfl
def O3{c d}:L2.atI [a,b,c,d] 3=some d:=rfl
def sG(l:Yh (Str×Str×Int)):d9 (.seq (l.map cT)) (.lst [])=some (.bl (!decide (l=[]))):=by
 cases l with
 |nil=>rfl
 |cons a l=>rfl
def So(x:Str)(ws:List Str):Prop:=x=J ws/\ws≠[]/\∀w∈ws,Wd w
theorem So.len(h:So x ws)(f:ws.length<=100):x.length<=4100:=by rw[h.1];have:=zN h.2.2;lia
def So.price (h:So x ws) (hi:i.natAbs<10^31):So (x++Str.ofString " price " ++ num i) (ws++[Str.ofString "price",num i]):=by
 refine⟨?_,by simp,fun w m=>?_⟩
 . rw [h.1,Cm,show num i=J [num i] from rfl,ME h.2.1 (List.cons_ne_nil _ _)]
   rfl
 . rcases Zt.mp m with m | m
   . exact h.2.2 w m
   . simp at m;rcases m with rfl | rfl
     . decide +kernel
     . exact jY hi
def So.one(h:So x ws)(e:Str.ofString k=(⟨#[32]⟩:Str)++k')(hk:Wd k'):So (x++Str.ofString k) (ws++[k']):=by
 refine⟨by rw[h.1,e,Oj h.2.1],by simp,fun w m=>?_⟩
 rcases Zt.mp m with m|m
 . exact h.2.2 w m
 . rw[Zr.mp m];exact hk
def So.conds(h:So x ws)(h0:cs≠[])(f:∀c∈cs,wdC c)(e:Str.ofString k=(⟨#[32]⟩:Str)++(k'++(⟨#[32]⟩:Str)))(hk:Wd k'):So (x++Str.ofString k++J (tw (cs.map tri))) (ws++k'::tw (cs.map tri)):=by
 refine⟨by rw[h.1,e,ME h.2.1 (Jb (by simpa using h0))],by simp,fun w m=>?_⟩
 rcases Zt.mp m with m|m
 . exact h.2.2 w m
 . rcases Zu.mp m with rfl | m
   . exact hk
   . exact BW f w m
theorem sw{j:Int}{b:Bool}(h:So x ws)(q:ws.length<=60)(hi:i.natAbs<10^31)(t:D)(m:gIx t (.int j)=some (.int i)) :
 ∃y,brQ (az 1 (vI (f2 aN (f2 aN (ab 1) (fC (.str " price "))) (a9 lv (af (f2 gIx (ab 0) (fC (.int j))) ag))))) bw [some t,some (.str x)] (some b)=some (.nx [some t,some (.str y)])/\So y (ws++k8 b i):=by
 cases b with
 |false=>exact⟨x,rfl,by unfold k8;simp;exact h⟩
 |true =>
  refine⟨x++Str.ofString " price " ++ num i,?_,h.price hi⟩;have p:=h.len (by lia)
  have o:(Str.ofString " price ").length=7:=by decide +kernel
  have ln:=kL hi;have l:x.length+(Str.ofString " price ").length<=sizeLine:=sz (by lia)
  have f:(x++Str.ofString " price ").length+(num i).length<=sizeLine:=sz (by rw[aY];lia)
  simp[ab,sh,imm,bW l,m,pO hi,bW f]
theorem y0{b:Bool}(h:So x ws)(l:ws.length<=60)(e:Str.ofString k=(⟨#[32]⟩:Str)++k')(hk:Wd k')(t:D):∃y,brQ (az 1 (vI (f2 aN (ab 1) (fC (.str k))))) bw [some t,some (.str x)] (some b)=some (.nx [some t,some (.str y)])/\So y (ws++lO b k'):=by
 cases b with
 |false=>exact⟨x,rfl,by unfold lO;simp;exact h⟩
 |true =>
  refine⟨x++Str.ofString k,?_,h.one e hk⟩;have j:=h.len (by lia)
  have f:x.length+(Str.ofString k).length<=sizeLine:=sz (by rw[e,aY];have:=hk.2.2;show x.length+(1+_)<=_;lia)
  simp[ab,sh,imm,bW f]
theorem og{j:Int}(h:So x ws)(u:ws.length<=60)(l:∀c∈cs,wdC c)(r:cs.length<=3)(e:Str.ofString k=(⟨#[32]⟩:Str)++(k'++(⟨#[32]⟩:Str)))(hk:Wd k')(t:D)(f:gIx t (.int j)=some (.seq (cs.map cT))) :
 ∃y,qIf (fT (f2 d9 (f2 gIx (ab 0) (fC (.int j))) (gl ag))) (az 1 (vI (f2 aN (f2 aN (ab 1) (fC (.str k))) (aU cz (af (f2 gIx (ab 0) (fC (.int j))) ag))))) bw [some t,some (.str x)]=some (.nx [some t,some (.str y)])/\So y (ws++jW k' cs):=by
 by_cases h0:cs=[]
 . subst h0;refine ⟨x,?_,by unfold jW;rw [if_pos rfl,Zk];exact h⟩
   have m:=sG [];simp only[Zw]at m f;simp[ab,f,eT,m]
 . refine ⟨x++Str.ofString k++J (tw (cs.map tri)),?_,by unfold jW;rw [if_neg h0];exact h.conds h0 l e hk⟩
   have q:=decide_eq_false h0;have s:=h.len (by lia)
   have lk:(Str.ofString k).length<=42:=by rw[e,aY,aY];have:=hk.2.2;show 1+(_+1)<=_;lia
   have lt:=zN (BW l);rw[nC,Zm]at lt;have p:x.length+(Str.ofString k).length<=sizeLine:=sz (by lia)
   have o:(x++Str.ofString k).length+(J (tw (cs.map tri))).length<=sizeLine:=sz (by rw[aY];lia)
   simp[ab,sh,shs,imm,f,eT,sG,q,bW p,ju,AZ h0 l (by lia),bW o]
def zq(n:Nat):gI (fun _ j=>0<j) (fun i j=>D.int (i%j)) (.int (n:Int)) (.int 2)=some (.int ((n:Int)%2)):=lZ (by decide)
def AJ(f:∀w∈W,aJ w)(h:okStay W c):wdC c:=by
 obtain⟨h1,h2,j⟩:=h;refine⟨cN (f _ h1),?_,?_⟩
 . rcases h2 with⟨h2,_⟩|⟨h2,_⟩<;>rw[h2]<;>decide +kernel
 . rcases h2 with⟨_,h2⟩|⟨_,h2⟩<;>omega
def MG(h:s∈WS):Wd s:=by
 have:∀x∈WS,Wd x:=by decide +kernel
 exact this s h
def N1(h:s∈BS):Wd s:=by
 have:∀x∈BS,Wd x:=by decide +kernel
 exact this s h
theorem AM(j:∀w∈W,aJ w)(l:∀w∈B,aJ w)(h:gX W B c):wdC c:=by
 rcases h with⟨h1,h2,f,m⟩|⟨h1,h2,f,m,o⟩
 . exact⟨cN (j _ h1),MG h2,by lia⟩
 . exact⟨cN (l _ h2),N1 f,by lia⟩
theorem AL(l:∀w∈W,aJ w)(j:∀w∈B,aJ w)(h:iP W B c):wdC c:=by
 rcases h with⟨h1,h2,f⟩|⟨h1,h2,⟨f,o,m⟩|⟨f,o,m⟩⟩
 . exact⟨cN (l _ h1),by rw[h2];decide +kernel,by lia⟩
 . exact⟨cN (j _ h2),by rw[f];decide +kernel,by lia⟩
 . exact⟨cN (j _ h2),by rcases f with f|f<;>rw[f]<;>decide +kernel,by lia⟩
theorem DU(n:Nat):(((n:Int)%2)==1)=decide (n%2=1):=by
 by_cases h:n%2=1
 . rw[decide_eq_true h];simp;lia
 . rw[decide_eq_false h];simp;lia
theorem oB{r:be}(G:∀w∈W,aJ w)(ok:okR W r):cU [rT r]=some (.str (aT (.room r)),[some (rT r)])/\So (aT (.room r)) (rowW (.room r)):=by
 have o:=cN ok.name;have B:So (Str.ofString "room " ++ r.name) [Str.ofString "room",r.name]:=⟨by
  rw[Gh];unfold J;rw[aK,cJ];rfl,by simp,fun w m=>by
  simp at m;rcases m with rfl|rfl
  . decide +kernel
  . exact o⟩
 have C:(Str.ofString "room ").length+r.name.length<=sizeLine:=sz (by have:=o.2.2;rw[show(Str.ofString "room ").length=5 by decide +kernel];lia)
 have l:r.price.natAbs<10^31:=by have:=ok.p0;have:=ok.p1;lia
 obtain⟨t,I,z⟩:=sw (j:=1) B (by simp) l (rT r) rfl
 obtain⟨L,H,y⟩:=y0 z (by unfold k8;split<;>simp) Cn (by decide +kernel) (rT r)
 obtain⟨s,q,f⟩:=og (j:=3) (cs:=r.stays) y (by unfold k8 lO;split<;>split<;>simp) (fun c D=>AJ G (ok.stays c D)) (by have:=ok.ls;lia) Gg (by decide +kernel) (rT r) rfl
 have u:[Str.ofString "room",r.name]++k8 (sj r) r.price++lO r.hurry "hurry" ++ jW "stay" r.stays=rowW (.room r):=by unfold rowW yD;simp
 rw[u]at f;have ex:s=aT (.room r):=f.1;rw[ex]at q f;refine⟨?_,f⟩;have x:iX (fT (f2 gGt (f2 gIx (ab 0) (fC (.int 1))) (fC (.int 0)))) Fy [some (rT r),some (.str (Str.ofString "room " ++ r.name))]=some (sj r):=by
  have ln:r.name.length<=sizeLine:=sz (by have:=o.2.2;lia)
  unfold sj;cases p:decide (r.price>0)with
  |true=>simp[ab,Mz,p,Bool.true_or]
  |false=>simp[ab,Mz,wC,p,uo ln,zq,DU,Bool.false_or]
 have v:fT (f2 gIx (ab 0) (fC (.int 2))) [some (rT r),some (.str t)]=some r.hurry:=by simp[ab,Of]
 simp only[Fy,cU,gv,Dl.start,av,aE,aX,bg,e_C,bT,bS,ab,jN,sh,imm,Zc,Zv,Zw,Zi,Zj,Zn,Zo,Ze,Zg,Zh,ZV,ZQ,Nat.reduceSub,Nat.reduceAdd,Z8,wC,bW C];rw[gn,x,I];simp only[Fy,aX,aE];rw[gn,v,H];simp only[Fy,aX,aE,q,aE,aX,cA,aa,noo,Zc,Ze,Zf,Zg,Zh,ZP,ZS,Z8]
def O2{c d f g}:L2.atI [a,b,c,d,e,f,g] 0=some a:=rfl
def Oe{c d f g}:L2.atI [a,b,c,d,e,f,g] 1=some b:=rfl
def O1{c d f g}:L2.atI [a,b,c,d,e,f,g] 2=some c:=rfl
def Od{c d f g}:L2.atI [a,b,c,d,e,f,g] 4=some e:=rfl
def AI{w}(h:nP (some w)):Wd w.1/\Wd w.2:=⟨by rcases h.1 with h|h<;>rw[h]<;>decide +kernel,cN h.2⟩
theorem BP (h:So x ws) (C:ws.length<=60) (s:nP w) (t) (l:gIx t (.int 3)=some (bJ w)):∃ y,qIf (fT (f2 lx (f2 gIx (ab 0) (fC (.int 3))) (fC .non))) Mr bw [some t,some (.str x)]=some (.nx [some t,some (.str y)])/\So y (ws++qh w):=by
 cases w with
 |none =>
  refine⟨x,?_,by unfold qh;rw[Zk];exact h⟩
  have f:gIx t (.int 3)=some .non:=l;simp[ab,gC,f]
 | some w =>
  obtain⟨h1,h2⟩:=AI s;refine⟨x++Str.ofString " " ++ w.1++Str.ofString " " ++ w.2,?_,?_⟩
  . have f:gIx t (.int 3)=some (.tup [.str w.1,.str w.2]):=l;have B:=h.len (by lia)
    have z:(Str.ofString " ").length=1:=by decide +kernel
    have v:gIx (.tup [.str w.1,.str w.2]) (.int 0)=some (.str w.1):=rfl;have u:gIx (.tup [.str w.1,.str w.2]) (.int 1)=some (.str w.2):=rfl;have r:x.length+(Str.ofString " ").length<=sizeLine:=sz (by lia)
    have q:(x++Str.ofString " ").length+w.1.length<=sizeLine:=sz (by have:=h1.2.2;rw[aY];lia)
    have p:(x++Str.ofString " " ++ w.1).length+(Str.ofString " ").length<=sizeLine:=sz (by have:=h1.2.2;rw[aY,aY];lia)
    have o:(x++Str.ofString " " ++ w.1++Str.ofString " ").length+w.2.length<=sizeLine:=sz (by have:=h1.2.2;have:=h2.2.2;rw[aY,aY,aY];lia)
    simp[ab,gC,sh,imm,f,v,u,bW r,bW q,bW p,bW o]
  . refine ⟨?_,by simp [qh],fun y m=>?_⟩
    . show _=J (ws++w.1::[w.2]);rw[<- ME h.2.1 (List.cons_ne_nil _ _),h.1,fS];simp only[Mr,cJ];rfl
    . rcases Zt.mp m with m | m
      . exact h.2.2 y m
      . have j:y∈[w.1,w.2]:=m;simp at j;rcases j with rfl | rfl
        . exact h1
        . exact h2
theorem oP{rn}{d}(s:∀w∈W,aJ w)(u:∀w∈B,aJ w)(t:∀w∈rn,aJ w)(ok:okD W B rn d):cV [dT d]=some (.str (aT (.door d)),[some (dT d)])/\So (aT (.door d)) (rowW (.door d)):=by
 have l:=cN (t _ ok.start);have p:=cN (t _ ok.goal);have lb:(Str.ofString " ").length=1:=by decide +kernel
 have ld:(Str.ofString "door ").length=5:=by decide +kernel
 have O:So (Str.ofString "door " ++ d.start++Str.ofString " " ++ d.goal) [Str.ofString "door",d.start,d.goal]:=⟨by
  rw[Gj,fS];unfold J;rw[aK,aK];simp only[BA,cJ];rfl,by simp,fun w m=>by
  simp at m;rcases m with rfl|rfl|rfl
  . decide +kernel
  . exact l
  . exact p⟩
 have U:(Str.ofString "door ").length+d.start.length<=sizeLine:=sz (by have:=l.2.2;lia)
 have S:(Str.ofString "door " ++ d.start).length+(Str.ofString " ").length<=sizeLine:=sz (by have:=l.2.2;rw[aY];lia)
 have Q:(Str.ofString "door " ++ d.start++Str.ofString " ").length+d.goal.length<=sizeLine:=sz (by have:=l.2.2;have:=p.2.2;rw[aY,aY];lia)
 have o:d.price.natAbs<10^31:=by have:=ok.p0;have:=ok.p1;lia
 have lw:(qh d.word).length<=2:=by cases d.word<;>simp[qh]
 have lK:(lO d.weather "weather").length<=1:=by unfold lO;split<;>simp
 have lP:(k8 (oA d) d.price).length<=2:=by unfold k8;split<;>simp
 have lC:(jW "when" d.conds).length<=7:=by unfold jW;split;· simp
                                           . rw[Zn,nC,Zm];have:=ok.l2;lia
 obtain⟨x1,Z,L⟩:=y0 (b:=d.weather) O (by simp) wP (by decide +kernel) (dT d)
 obtain⟨y,Y,I⟩:=BP L (by simp;lia) ok.word (dT d) rfl
 obtain⟨x3,X,H⟩:=sw (j:=4) (b:=oA d) I (by simp;lia) o (dT d) rfl
 obtain⟨x4,V,G⟩:=og (j:=5) (cs:=d.conds) H (by simp;lia) (fun c q=>AM s u (ok.conds c q)) (by have:=ok.l2;lia) Gf (by decide +kernel) (dT d) rfl
 obtain⟨x,v,f⟩:=og (j:=6) (cs:=d.deeds) G (by simp;lia) (fun c q=>AL s u (ok.deeds c q)) ok.l3 MS (by decide +kernel) (dT d) rfl
 have z:[Str.ofString "door",d.start,d.goal]++lO d.weather "weather" ++ qh d.word++k8 (oA d) d.price++jW "when" d.conds++jW "do" d.deeds=rowW (.door d):=by unfold rowW zE;simp
 rw[z]at f;have ex:x=aT (.door d):=f.1;rw[ex]at v f;refine⟨?_,f⟩;have D:fT (f2 gIx (ab 0) (fC (.int 2))) [some (dT d),some (.str (Str.ofString "door " ++ d.start++Str.ofString " " ++ d.goal))]=some d.weather:=by simp[ab,O1]
 have C:iX (fT (f2 gGt (f2 gIx (ab 0) (fC (.int 4))) (fC (.int 0)))) BA [some (dT d),some (.str y)]=some (oA d):=by
  have ln:d.goal.length<=sizeLine:=sz (by have:=p.2.2;lia)
  unfold oA;cases r:decide (d.price>0)with
  |true=>simp[ab,Od,r,Bool.true_or]
  |false=>simp[ab,Od,Oe,r,uo ln,zq,DU,Bool.false_or]
 simp only[BA,cV,gw,Dl.start,av,aE,aX,bg,e_C,bT,bS,ab,jN,sh,imm,Zc,Zv,Zw,Zi,Zj,Zn,Zo,Ze,Zg,Zh,ZV,ZQ,Nat.reduceSub,Nat.reduceAdd,Z8,O2,Oe,bW U,bW S,bW Q];rw[gn,D,Z];simp only[BA,aX,aE,Y];rw[gn,C,X];simp only[BA,aX,aE,V,v,aE,aX,cA,aa,noo,Zc,Ze,Zf,Zg,Zh,ZP,ZS,Z8]
noncomputable def a7(n:kf):List rQ:=n.watches.map .watch++n.boxes.map .box++(n.machines.map fun m=>.mach m.name::(m.rooms.map .room++m.doors.map .door)).flatten
def rR {w} (h:aJ w):Str.ofString "watch " ++ w=aT (.watch w)/\So (aT (.watch w)) (rowW (.watch w)):=by
 refine⟨?_,rfl,List.cons_ne_nil _ _,fun x m=>?_⟩
 . rw[Ck];unfold aT rowW;rw[aK,cJ];rfl
 . simp [rowW] at m;rcases m with rfl | rfl
   . decide +kernel
   . exact cN h
def vF {w} (h:aJ w):Str.ofString "machine " ++ w=aT (.mach w)/\So (aT (.mach w)) (rowW (.mach w)):=by
 refine⟨?_,rfl,List.cons_ne_nil _ _,fun x m=>?_⟩
 . rw[Gi];unfold aT rowW;rw[aK,cJ];rfl
 . simp [rowW] at m;rcases m with rfl | rfl
   . decide +kernel
   . exact cN h
def zL{b}(h:sE b):So (aT (.box b)) (rowW (.box b)):=by
 obtain⟨h1,h2,l,j,f⟩:=h;refine⟨rfl,List.cons_ne_nil _ _,fun x m=>?_⟩
 simp[rowW]at m;rcases m with rfl|rfl|rfl|rfl|rfl
 . decide +kernel
 . exact cN h1
 . exact jY (by omega)
 . exact jY (by omega)
 . exact jY (by omega)
def okNet.bn(h:okNet n):∀w∈bnm n.boxes,aJ w:=fun w f=>by obtain⟨b,j,rfl⟩:=Zs.mp f;exact(h.bx b j).1
def okM.rn(h:okM W B m):∀w∈m.rooms.map (·.name),aJ w:=fun w f=>by obtain⟨r,j,rfl⟩:=Zs.mp f;exact(h.rooms r j).name
def tQ(h:okNet n):∀x∈a7 n,So (aT x) (rowW x):=fun x f=>by
 unfold a7 at f;rcases Zt.mp f with f|f
 . rcases Zt.mp f with f | f
   . obtain⟨w,o,rfl⟩:=Zs.mp f;exact(rR (h.wn w o)).2
   . obtain⟨b,u,rfl⟩:=Zs.mp f;exact zL (h.bx b u)
 . obtain ⟨l,s,f⟩:=List.mem_flatten.mp f;obtain ⟨m,q,rfl⟩:=Zs.mp s;have j:=h.mc m q;rcases Zu.mp f with rfl | f
   . exact(vF j.name).2
   . rcases Zt.mp f with f | f
     . obtain⟨r,p,rfl⟩:=Zs.mp f;exact(oB h.wn (j.rooms r p)).2
     . obtain⟨d,t,rfl⟩:=Zs.mp f;exact(oP h.wn h.bn j.rn (j.doors d t)).2
abbrev aS(n:kf):D:=.tup [.seq (n.watches.map D.str),.seq (n.boxes.map aq),.seq (n.machines.map mT)]
def kN(l:Yh ic):shs (l.map mT)=l.map mT:=cj Ef l
def y9(n:kf):sh (qq n)=aS n:=by simp only[sh,shs,aV,aO,kN]
def kM(n:kf):sh (aS n)=aS n:=by simp only[sh,shs,aV,aO,kN]
def hV{α:Type}{src}{felt}{δ}{f:α->D}{g:α->Str}{l:Yh α}(m:src δ=some (l.map f,δ))(r:∀x,sh (f x)=f x)(p:∀x∈l,felt [some (f x)]=some (.str (g x),[some (f x)]))(o:l.length<=1000):aD src 1 [] (gN 0) (fun _=>some true) felt δ=some (.lst ((l.map g).map D.str),δ):=by
 have k:bi 1 (gN 0) (fun _=>some true) felt (l.map f) [none]=some ((l.map g).map D.str,[none]):=by
  clear m o
  induction l with
  |nil=>rfl
  |cons x l j =>
   have j:=j fun y q=>p y (Zq _ q)
   simp[bi,r,p x (Zp ..),j]
 have tk:takes (([]:Yh Nat).map AK.lent) δ=some ([],δ):=rfl;rw[cq m tk k (by rw[Zm,Zm];exact o)]
 rfl
def qU{a b:Yh Str}(h:a.length+b.length<=1000):iu (.lst (a.map D.str)) (.lst (b.map D.str))=some (.lst ((a++b).map D.str)):=by simp only[iu,asL,Zc,Zm,Zx];rw[if_pos h]
noncomputable def du(m:ic):List rQ:=.mach m.name::(m.rooms.map .room++m.doors.map .door)
theorem Ag{W B}{m}{acc}{t w b ms:D}{o5 o6 o7:Yg D}(p:∀w∈W,aJ w)(x:∀w∈B,aJ w)(f:okM W B m)(o:m.doors.length<=24)(G:acc.length<=500) :
 qX [some t,some (.lst (acc.map D.str)),some w,some b,some ms,some (.str m.name),some (.seq (m.rooms.map rT)),some (.seq (m.doors.map dT))]=some (.nx [some t,some (.lst ((acc++(du m).map aT).map D.str)),some w,some b,some ms,some (.str m.name),some (.seq (m.rooms.map rT)),some (.seq (m.doors.map dT))]):=by
 have v:(Str.ofString "machine ").length+m.name.length<=sizeLine:=sz (by have:=(cN f.name).2.2;rw[show(Str.ofString "machine ").length=8 by decide +kernel];lia)
 have l:=f.rl;have C:(acc.length<=999)=True:=eq_true (by lia)
 have u:cG 1 aw (br 1 (vI (f2 aN (fC (.str "machine ")) (ab 5)))) [some t,some (.lst (acc.map D.str)),some w,some b,some ms,some (.str m.name),some (.seq (m.rooms.map rT)),some (.seq (m.doors.map dT))]=some (.nx [some t,some (.lst ((acc++[aT (.mach m.name)]).map D.str)),some w,some b,some ms,some (.str m.name),some (.seq (m.rooms.map rT)),some (.seq (m.doors.map dT))]):=by simp only[qX,e_C,bT,bS,ab,cG,aw,atP,cL,imm,Zc,Zm,Ze,Zf,Zg,Zh,Z8,br,bW v,(vF f.name).1,C];simp only[qX,Zx,Zv,Zw]
 have z:∀δ,aa 6 δ=some (.seq (m.rooms.map rT),δ)->aD (a6 (aa 6)) 1 [] (gN 0) (fun _=>some true) (vI (aU cU (af (ab 0) ag))) δ=some (.lst ((m.rooms.map fun r=>aT (.room r)).map D.str),δ):=fun δ j=>hV (by unfold a6;rw[j];simp only[qX,sh,Zc,iU]) CD (fun r l=>by
  have e:=(oB p (f.rooms r l)).1;rw[bS,dz,bU,xK,bM];simp only[qX,Zc];rw[show shs [rT r]=[rT r] by rw[shs,shs,CD],e]
  rfl) (by lia)
 have y:∀δ,aa 7 δ=some (.seq (m.doors.map dT),δ)->aD (a6 (aa 7)) 1 [] (gN 0) (fun _=>some true) (vI (aU cV (af (ab 0) ag))) δ=some (.lst ((m.doors.map fun d=>aT (.door d)).map D.str),δ):=fun δ j=>hV (by unfold a6;rw[j];simp only[qX,sh,Zc,l8]) Ff (fun d o=>by
  have e:=(oP p x f.rn (f.doors d o)).1;rw[bS,dz,bU,xK,bM];simp only[qX,Zc];rw[show shs [dT d]=[dT d] by rw[shs,shs,Ff],e]
  rfl) (by lia)
 have s:aa 6 (shO [some t,some (.lst ((acc++[aT (.mach m.name)]).map D.str)),some w,some b,some ms,some (.str m.name),some (.seq (m.rooms.map rT)),some (.seq (m.doors.map dT))])=some (.seq (m.rooms.map rT),shO [some t,some (.lst ((acc++[aT (.mach m.name)]).map D.str)),some w,some b,some ms,some (.str m.name),some (.seq (m.rooms.map rT)),some (.seq (m.doors.map dT))]):=by simp[shO,aa,sh,noo,iU]
 have q:aa 7 (shO [some t,some (.lst ((acc++[aT (.mach m.name)]).map D.str)),some w,some b,some ms,some (.str m.name),some (.seq (m.rooms.map rT)),some (.seq (m.doors.map dT))])=some (.seq (m.doors.map dT),shO [some t,some (.lst ((acc++[aT (.mach m.name)]).map D.str)),some w,some b,some ms,some (.str m.name),some (.seq (m.rooms.map rT)),some (.seq (m.doors.map dT))]):=by simp[shO,aa,sh,noo,l8]
 rw[qX,aE,u,aX,j8];unfold ou;rw[bT,bT,lD,z _ s,lD,y _ q];simp only[qX,ab,Zc,Ze,Zf,Zg,Zh,Z8,qU (a:=acc++[aT (.mach m.name)]) (b:=m.rooms.map fun r=>aT (.room r)) (by simp;lia),qU (a:=acc++[aT (.mach m.name)]++m.rooms.map fun r=>aT (.room r)) (b:=m.doors.map fun d=>aT (.door d)) (by simp;lia),gY,fL]
 congr 6
 unfold du;simp only[qX,Zv,Zx,List.map_map,ZW,List.singleton_append,Zi,Zj];rfl
theorem Af{W B}{t w b ms}{s}(y:∀m(acc:Yh Str),okM W B m->m.doors.length<=24->acc.length<=500->s [some t,some (.lst (acc.map D.str)),some w,some b,some ms,some (.str m.name),some (.seq (m.rooms.map rT)),some (.seq (m.doors.map dT))]=some (.nx [some t,some (.lst ((acc++(du m).map aT).map D.str)),some w,some b,some ms,some (.str m.name),some (.seq (m.rooms.map rT)),some (.seq (m.doors.map dT))])):∀(l:Yh ic) acc o5 o6 o7,(∀m∈l,okM W B m)->(∀m∈l,m.doors.length<=24)->acc.length+31*l.length<=500->∃o j f,cn (jR [5,6,7]) s (l.map mT) [some t,some (.lst (acc.map D.str)),some w,some b,some ms,o5,o6,o7]=some (.nx [some t,some (.lst ((acc++((l.map du).flatten).map aT).map D.str)),some w,some b,some ms,o,j,f]):=by
 intro l
 induction l with
 |nil=>intro acc o5 o6 o7 _ _ _;exact⟨o5,o6,o7,by simp only[Zw,cn,List.flatten_nil,Zk]⟩
 | cons m l v =>
  intro acc o5 o6 o7 r u z;rw[Zn]at z;have q:=r m (Zp ..);have G:=u m (Zp ..);have H:((du m).map aT).length<=31:=by
   unfold du;have:=q.rl;simp[Zx]
   lia
  obtain⟨o,j,f,e⟩:=v (acc++(du m).map aT) (some (.str m.name)) (some (.seq (m.rooms.map rT))) (some (.seq (m.doors.map dT))) (fun x p=>r x (Zq _ p)) (fun x p=>u x (Zq _ p)) (by rw[Zl];lia)
  refine⟨o,j,f,?_⟩;have C:jR [5,6,7] (mT m) [some t,some (.lst (acc.map D.str)),some w,some b,some ms,o5,o6,o7]=some [some t,some (.lst (acc.map D.str)),some w,some b,some ms,some (.str m.name),some (.seq (m.rooms.map rT)),some (.seq (m.doors.map dT))]:=rfl;simp only[Zv,cn,Ef,C,Zc,y m acc q G (by lia)]
  rw[e];simp only[List.flatten_cons,Zx,ZW]
theorem E9{n}(h:okNet n):∀m∈n.machines,m.doors.length<=24:=fun m o=>by
 have:∀(l:Yh ic),m∈l->m.doors.length<=(l.map fun m=>m.doors.length).sum:=by
  intro l
  induction l with
  |nil=>intro h;cases h
  |cons x l j =>
   intro f;rw[Zv,List.sum_cons];rcases Zu.mp f with rfl|f
   . lia
   . have:=j f;lia
 exact ZZ (this _ o) h.dl
theorem Gu{n}(h:okNet n):∃Q4,eJ [aS n]=some (.lst (((a7 n).map aT).map D.str),Q4):=by
 have C:=h.lw;have H:=h.lb;have G:=h.m2;have S:aD (a6 (aa 2)) 1 [] (gN 0) (fun _=>some true) (vI (f2 aN (fC (.str "watch ")) (ab 0))) [some (aS n),none,some (.seq (n.watches.map D.str)),some (.seq (n.boxes.map aq)),some (.seq (n.machines.map mT)),none,none,none]=some (.lst ((n.watches.map fun w=>aT (.watch w)).map D.str),[some (aS n),none,some (.seq (n.watches.map D.str)),some (.seq (n.boxes.map aq)),some (.seq (n.machines.map mT)),none,none,none]):=hV (f:=D.str) (by simp[a6,aa,sh,noo]) (fun _=>rfl) (fun w x=>by
  have l:=h.wn w x;have r:(Str.ofString "watch ").length+w.length<=sizeLine:=sz (by have:=(cN l).2.2;rw[show(Str.ofString "watch ").length=6 by decide +kernel];lia)
  simp[ab,imm,bW r,(rR l).1]) (by lia)
 have Q:∀δ:DS,aa 3 δ=some (.seq (n.boxes.map aq),δ)->aD (a6 (aa 3)) 1 [] (gN 0) (fun _=>some true) wu δ=some (.lst ((n.boxes.map fun b=>aT (.box b)).map D.str),δ):=fun δ z=>hV (by unfold a6;rw[z];simp only[wu,uC,sh,Zc,aO]) uF (fun b L=>by
  have j:=h.bx b L;have p:=zL j;obtain⟨h1,h2,X,V,U⟩:=j;have u:ly (.str (Str.ofString " ")) [.lst [.str "box",.str b.1,.str (num b.2.1),.str (num b.2.2.1),.str (num b.2.2.2)]]=some (.str (aT (.box b))):=by
   have:=xN (s:=Str.ofString " ") (ys:=rowW (.box b)) (B:=40) (fun y v=>(p.2.2 y v).2.2) (by rw[fS];show 5*40+5*1<=_;decide)
   rw[fS]at this ⊢;exact this
  simp[ab,imm,wC,Mz,Of,O3,pO (i:=b.2.1) (by lia),pO (i:=b.2.2.1) (by lia),pO (i:=b.2.2.2) (by lia),oa,u]) (by lia)
 obtain⟨o5,o6,o7,O⟩:=Af (W:=n.watches) (B:=bnm n.boxes) (t:=aS n) (w:=.seq (n.watches.map D.str)) (b:=.seq (n.boxes.map aq)) (ms:=.seq (n.machines.map mT)) (fun m acc q J I=>Ag (o5:=none) (o6:=none) (o7:=none) h.wn h.bn q J I) n.machines (n.watches.map (fun w=>aT (.watch w))++n.boxes.map fun b=>aT (.box b)) none none none h.mc (E9 h) (by simp;lia)
 have src:a6 (aa 4) [some (aS n),some (.lst ((n.watches.map (fun w=>aT (.watch w))++n.boxes.map fun b=>aT (.box b)).map D.str)),some (.seq (n.watches.map D.str)),some (.seq (n.boxes.map aq)),some (.seq (n.machines.map mT)),none,none,none]=some (n.machines.map mT,[some (aS n),some (.lst ((n.watches.map (fun w=>aT (.watch w))++n.boxes.map fun b=>aT (.box b)).map D.str)),some (.seq (n.watches.map D.str)),some (.seq (n.boxes.map aq)),some (.seq (n.machines.map mT)),none,none,none]):=by simp[a6,aa,sh,noo,kN]
 have fo:=fM src O;have un:qUn [2,3,4] (aa 0) [some (aS n),none,none,none,none,none,none,none]=some (.nx [some (aS n),none,some (.seq (n.watches.map D.str)),some (.seq (n.boxes.map aq)),some (.seq (n.machines.map mT)),none,none,none]):=rfl;have o:aa 3 (shO [some (aS n),some (.lst ((n.watches.map fun w=>aT (.watch w)).map D.str)),some (.seq (n.watches.map D.str)),some (.seq (n.boxes.map aq)),some (.seq (n.machines.map mT)),none,none,none])=some (.seq (n.boxes.map aq),shO [some (aS n),some (.lst ((n.watches.map fun w=>aT (.watch w)).map D.str)),some (.seq (n.watches.map D.str)),some (.seq (n.boxes.map aq)),some (.seq (n.machines.map mT)),none,none,none]):=by simp[shO,aa,sh,shs,noo,aO]
 have ct:ou (ab 1) uC [some (aS n),some (.lst ((n.watches.map fun w=>aT (.watch w)).map D.str)),some (.seq (n.watches.map D.str)),some (.seq (n.boxes.map aq)),some (.seq (n.machines.map mT)),none,none,none]=some (.lst ((n.watches.map (fun w=>aT (.watch w))++n.boxes.map fun b=>aT (.box b)).map D.str),[some (aS n),some (.lst ((n.watches.map fun w=>aT (.watch w)).map D.str)),some (.seq (n.watches.map D.str)),some (.seq (n.boxes.map aq)),some (.seq (n.machines.map mT)),none,none,none]):=by unfold ou;rw[bT,uC,lD,Q _ o];simp only[wu,uC,ab,Zc,Ze,Zf,Z8,qU (a:=n.watches.map fun w=>aT (.watch w)) (b:=n.boxes.map fun b=>aT (.box b)) (by simp;lia),gY,fL]
 refine⟨[some (aS n)],?_⟩;unfold eJ kn;rw[show Dl.start 8 [aS n]=[some (aS n),none,none,none,none,none,none,none]from rfl,aE,un,aX,aE,j8,S,Zc,aX,aE,j8]
 simp only[wu,uC,Zg,Zh];rw[ct,Zc,aX,aE];simp only[wu,uC,Zg,Zh];rw[fo];simp only[wu,uC,av,aX,cA,aa,noo,Zc,Ze,Zf,Zg,Zh,ZP,ZS,ZR,Z9]
 congr 4
 unfold a7;simp only[wu,uC,Zx,List.map_map];rfl
theorem qi(k) (cs:Yh (Str×Str×Int)):(jW k cs).length<=1+3*cs.length:=by
 unfold jW;split
 . simp
 . rw[Zn,nC,Zm];lia
theorem Gy{r}(h:okR W r):(rowW (.room r)).length<=60:=by
 have h1:=qi "stay" r.stays;have h2:(k8 (sj r) r.price).length<=2:=by unfold k8;split<;>simp
 have j:(lO r.hurry "hurry").length<=1:=by unfold lO;split<;>simp
 have f:=h.ls;unfold rowW yD;simp
 lia
theorem Iv{rn}{d}(h:okD W B rn d):(rowW (.door d)).length<=60:=by
 have h1:=qi "when" d.conds;have h2:=qi "do" d.deeds;have o:(k8 (oA d) d.price).length<=2:=by unfold k8;split<;>simp
 have m:(lO d.weather "weather").length<=1:=by unfold lO;split<;>simp
 have l:(qh d.word).length<=2:=by cases d.word<;>simp[qh]
 have j:=h.l2;have f:=h.l3;unfold rowW zE;simp
 lia
def yB(h:okNet n):∀x∈a7 n,(rowW x).length<=60:=fun x f=>by
 unfold a7 at f;rcases Zt.mp f with f|f
 . rcases Zt.mp f with f | f
   . obtain⟨w,t,rfl⟩:=Zs.mp f;exact(by decide:2<=60)
   . obtain⟨b,u,rfl⟩:=Zs.mp f;exact(by decide:5<=60)
 . obtain ⟨l,q,f⟩:=List.mem_flatten.mp f;obtain ⟨m,p,rfl⟩:=Zs.mp q;have j:=h.mc m p;rcases Zu.mp f with rfl | f
   . exact(by decide:2<=60)
   . rcases Zt.mp f with f | f
     . obtain⟨r,o,rfl⟩:=Zs.mp f;exact Gy (j.rooms r o)
     . obtain⟨d,s,rfl⟩:=Zs.mp f;exact Iv (j.doors d s)
def o9(h:okNet n):∀x∈a7 n,(aT x).length<=4100:=fun x f=>(tQ h x f).len (ZZ (yB h x f) (by decide))
theorem zp:∀(l:Yh ic),(∀m∈l,m.rooms.length<=6)->(l.map du).flatten.length<=7*l.length+(l.map fun m=>m.doors.length).sum
 |[],_=>by simp
 |m::l,h=>by
  have:=zp l fun x f=>h x (Zq _ f)
  have j:=h m (Zp ..);rw[Zv,List.flatten_cons,Zl,Zv,List.sum_cons,Zn];unfold du at this ⊢;simp at this ⊢
  lia
theorem nJ(h:okNet n):(a7 n).length<=59:=by
 have:=zp n.machines fun m f=>(h.mc m f).rl
 have h1:=h.lw;have h2:=h.lb;have l:=h.m2;have j:=h.dl;unfold a7;unfold du at this;rw[Zl,Zl,Zm,Zm]
 lia
def BI(x):x++Str.empty=x:=by cases x;exact congrArg Str.mk (Array.append_empty ..)
def Io(x):Str.empty++x=x:=by cases x;exact congrArg Str.mk (Array.empty_append ..)
theorem qv:∀l,Str.join Str.empty (l.map fun x=>x++(⟨#[10]⟩:Str))=Str.join ⟨#[10]⟩ (l++[Str.empty])
 |[]=>rfl
 |[x]=>by show x++(⟨#[10]⟩:Str)=Str.join ⟨#[10]⟩ (x::Str.empty::[]);rw[aK];show _=x++((⟨#[10]⟩:Str)++Str.empty);rw[BI]
 |x::y::r=>by have f:=qv (y::r);rw[Zi,Zi,aK,<- Zi,<- f,Zv,Zv,aK,cJ,show ∀z,Str.empty++z=z from fun z=>Io z]
theorem vL{s}{B}:∀{l},(∀w∈l,w.length<=B)->(Str.join s l).length<=l.length*(B+s.length)
 |[],_=>by simp[Str.join];rfl
 |[x],h=>by have:=h x (Zp ..);show x.length<=_;simp only[Zn,Zo];lia
 |x::y::r,h=>by
  have f:=vL (s:=s) fun w m=>h w (Zq _ m)
  have:=h x (Zp ..);rw[aK,aY,aY,Zn,Nat.succ_mul]
  lia
def D6:Str.ofString "\n" = (⟨#[10]⟩:Str):=by decide +kernel
theorem wJ(h:okNet n):(aQ (a7 n)).length<=1000000:=by
 unfold aQ;have l:=nJ h;refine ZZ (vL (B:=4100) fun w f=>?_) ?_
 . rcases Zt.mp f with f | f
   . obtain⟨x,j,rfl⟩:=Zs.mp f;exact o9 h x j
   . rw[Zr.mp f];exact Nat.zero_le _
 . rw [Zl,Zm];show ((a7 n).length+1)*(4100+1)<=_
   lia
def Ca(h:okNet n):qk (a7 n):=⟨fun x f w j=>⟨((tQ h x f).2.2 w j).1,((tQ h x f).2.2 w j).2.1⟩,fun x f=>⟨ZZ (o9 h x f) (by decide),ZZ (yB h x f) (by decide)⟩,ZZ (nJ h) (by decide),wJ h⟩
theorem Gc(h:okNet n):eI [aS n]=some (.str (aQ (a7 n)),[some (aS n)]):=by
 obtain⟨Q4,e⟩:=Gu h;have t:=nJ h;have bk:gu [none] Q4 [some (aS n)]=[some (aS n)]:=by cases Q4<;>rfl
 have cl:aj [none] eJ (ae (aa 0) am) [some (aS n)]=some (.lst (((a7 n).map aT).map D.str),[some (aS n)]):=by have l:aa 0 [some (aS n)]=some (aS n,[some (aS n)]):=rfl;simp[aa,noo,qo,l,e,bk]
 have src:a6 (aj [none] eJ (ae (aa 0) am)) [some (aS n)]=some (((a7 n).map aT).map D.str,[some (aS n)]):=by unfold a6;rw[cl,Zc,sh,aV]
 have m:shO [some (aS n)]=[some (aS n)]:=by unfold shO;rw[Zv,Zw,Zd,kM]
 have r:=hV (felt:=vI (f2 aN (ab 0) (fC (.str "\n")))) (g:=fun x=>x++(⟨#[10]⟩:Str)) src (fun _=>rfl) (fun x j=>by
  obtain⟨y,f,rfl⟩:=Zs.mp j;have o:(aT y).length+(Str.ofString "\n").length<=sizeLine:=sz (by have:=o9 h y f;rw[D6];show _+1<=_;lia)
  rw[<- D6];simp[ab,imm,bW o]) (by rw[Zm];lia)
 have p:ly (.str (Str.ofString "")) [.lst ((((a7 n).map aT).map fun x=>x++(⟨#[10]⟩:Str)).map D.str)]=some (.str (aQ (a7 n))):=by
  have:=xN (s:=Str.empty) (ys:=((a7 n).map aT).map fun x=>x++(⟨#[10]⟩:Str)) (B:=4200) (fun y f=>by
   obtain⟨z,q,rfl⟩:=Zs.mp f;obtain⟨x,j,rfl⟩:=Zs.mp q;have:=o9 h x j;rw[aY];show _+1<=_
   lia) (by
   rw[Zm,Zm];show _+_*0<=_
   lia)
  rw[qv]at this;rw[sW];exact this
 unfold eI km;rw[show Dl.start 1 [aS n]=[some (aS n)]from rfl,cA]
 simp only[av,e_C,bS,E1,bM,bU,imm,Zc,ZP,ZS,Z8,lD,m,r,p]
noncomputable def dP:Nat->List ic->List (Nat×bt)
 |_,[]=>[]
 |k,m::l=>m.doors.map (fun d=>(k,d))++dP (k+1) l
theorem pB:∀l W,(W++l).Nodup->(∀w∈l,aJ w)->W.length+l.length<=4->Rows ⟨W,[],[],[],[]⟩ (l.map .watch) ⟨W++l,[],[],[],[]⟩
 |[],W,_,_,_=>by rw[Zk];exact .nil _
 |w::l,W,hn,hi,hl=>by
  rw[Zn]at hl;have f:w∉W:=fun m=>(Z2.mp hn).2.2 w m w (Zp ..) rfl
  have e:W++w::l=W++[w]++l:=by rw[ZW];rfl
  rw[e]at hn ⊢;exact .cons (.watch (hi w (Zp ..)) f (by lia)) (pB l (W++[w]) hn (fun x m=>hi x (Zq _ m)) (by rw[Zl];simp only[Zn,Zo];lia))
theorem wy(j:W.length<=4):∀l bs,(W++bnm (bs++l)).Nodup->(∀b∈l,sE b)->bs.length+l.length<=3->Rows ⟨W,bs,[],[],[]⟩ (l.map .box) ⟨W,bs++l,[],[],[]⟩
 |[],bs,_,_,_=>by rw[Zk];exact .nil _
 |b::l,bs,hn,hi,hl=>by
  rw[Zn]at hl;have f:b.1∉W++bnm bs:=fun m=>by unfold bnm at hn m;rw[Zx,<- ZW]at hn;exact(Z2.mp hn).2.2 _ m b.1 (Zp ..) rfl
  have e:bs++b::l=bs++[b]++l:=by rw[ZW];rfl
  rw[e]at hn ⊢;obtain⟨s,r,q,p,o⟩:=hi b (Zp ..);exact .cons (.box s f (by lia) j r q p o) (wy j l (bs++[b]) hn (fun x m=>hi x (Zq _ m)) (by rw[Zl];simp only[Zn,Zo];lia))
section
variable {bs:Yh bD}
theorem sk(j:bs.length<=3)(p:0<M.length)(o:P=[]\/∃q x,P=q++[x]/\x.1+1<M.length):∀l rl,((rl++l).map (·.name)).Nodup->(∀r∈l,okR W r)->rl.length+l.length<=6->Rows ⟨W,bs,M,R++[rl],P⟩ (l.map .room) ⟨W,bs,M,R++[rl++l],P⟩
 |[],rl,_,_,_=>by rw[Zk];exact .nil _
 |r::l,rl,hn,hi,hl=>by
  rw[Zn]at hl;have f:r.name∉rl.map (·.name):=fun m=>by rw[Zx]at hn;exact(Z2.mp hn).2.2 _ m r.name (Zp ..) rfl
  have e:rl++r::l=rl++[r]++l:=by rw[ZW];rfl
  rw[e]at hn ⊢;exact .cons (.room (hi r (Zp ..)).tookRoom f (by lia) p j o) (sk j p o l (rl++[r]) hn (fun x m=>hi x (Zq _ m)) (by rw[Zl];simp only[Zn,Zo];lia))
theorem td(p:W.length<=4)(o:bs.length<=3)(j:rl≠[])(f:rl.length<=6){k}(q:M.length=k+1):∀(l:Yh bt) P,(∀d∈l,okD W (bnm bs) (rl.map (·.name)) d)->P.length+l.length<=24->Rows ⟨W,bs,M,R++[rl],P⟩ (l.map .door) ⟨W,bs,M,R++[rl],P++l.map fun d=>(k,d)⟩
 |[],P,_,_=>by rw[Zw,Zw,Zk];exact .nil _
 |d::l,P,hi,hl=>by
  rw[Zn]at hl;have e:P++(d::l).map (fun d=>(k,d))=P++[(k,d)]++l.map fun d=>(k,d):=by rw[ZW];rfl
  rw[e];have r:=Row.door (R:=R) (P:=P) (M:=M) (hi d (Zp ..)).tookDoor f j o p (by lia) (by lia)
  rw[q,Nat.add_sub_cancel]at r;exact .cons r (td p o j f q l (P++[(k,d)]) (fun x m=>hi x (Zq _ m)) (by rw[Zl];simp only[Zn,Zo];lia))
def zd{α:Type}(l:Yh α):l=[]\/∃f x,l=f++[x]/\x∈l:=by
 rcases List.eq_nil_or_concat l with h|⟨f,x,h⟩
 . exact .inl h
 . rw[List.concat_eq_append]at h;exact .inr ⟨f,x,h,by rw[h];simp⟩
theorem sL(s:W.length<=4)(o:bs.length<=3):∀l M(R:Yh (Yh be)) P,R.length=M.length->(∀rl∈R,rl≠[])->(∀x∈P,x.1<M.length)->(W++bnm bs++(M++l.map (·.name))).Nodup->M.length+l.length<=4->(∀m∈l,okM W (bnm bs) m)->P.length+(l.map fun m=>m.doors.length).sum<=24->Rows ⟨W,bs,M,R,P⟩ (l.map du).flatten ⟨W,bs,M++l.map (·.name),R++l.map (·.rooms),P++dP M.length l⟩
 |[],M,R,P,_,_,_,_,_,_,_=>by show Rows _ [] ⟨W,bs,M++[],R++[],P++[]⟩;rw[Zk,Zk,Zk];exact .nil _
 | m :: l,M,R,P,hRM,hR,hP,hn,hl,j,hd=>by
  rw[Zn]at hl;rw[Zv,List.sum_cons]at hd;have f:=j m (Zp ..);have t:(M++[m.name]).length=M.length+1:=by simp
  have r:m.name∉W++bnm bs++M:=fun z=>by rw[Zv,<- ZW]at hn;exact(Z2.mp hn).2.2 _ z m.name (Zp ..) rfl
  have u:M++(m::l).map (·.name)=M++[m.name]++l.map (·.name):=by rw[ZW];rfl
  have G:R++(m::l).map (·.rooms)=R++[m.rooms]++l.map (·.rooms):=by rw[ZW];rfl
  have D:P++dP M.length (m::l)=P++m.doors.map (fun d=>(M.length,d))++dP (M++[m.name]).length l:=by rw[t,dP,ZW]
  have C:Row ⟨W,bs,M,R,P⟩ (.mach m.name) ⟨W,bs,M++[m.name],R++[[]],P⟩:=.mach f.name r s o (by lia) hRM (by
   rcases zd R with h|⟨H,rl,h,j⟩
   . left;rw[h]at hRM;exact List.length_eq_zero_iff.mp hRM.symm
   . exact .inr ⟨H,rl,h,hR rl j⟩) (by lia)
  have B:=sk (M:=M++[m.name]) (R:=R) o (by lia) (by
   rcases zd P with h|⟨I,x,h,j⟩
   . exact .inl h
   . exact .inr ⟨I,x,h,by have:=hP x j;lia⟩) m.rooms [] (by rw[Zj];exact f.nd) f.rooms (by have:=f.rl;simp only[Zo];lia)
  have y:=td (M:=M++[m.name]) (R:=R) s o f.rne f.rl t m.doors P f.doors (by lia)
  have v:=sL s o l (M++[m.name]) (R++[m.rooms]) (P++m.doors.map fun d=>(M.length,d)) (by simp[hRM]) (fun rl q=>by
   rcases Zt.mp q with h|h
   . exact hR rl h
   . rw[Zr.mp h];exact f.rne) (fun x p=>by
   rcases Zt.mp p with h|h
   . have:=hP x h;lia
   . obtain⟨d,_,rfl⟩:=Zs.mp h;lia) (by rw[<- u];exact hn) (by lia) (fun x p=>j x (Zq _ p)) (by rw[Zl,Zm];lia)
  rw[u,G,D,Zv,List.flatten_cons];exact(Rows.cons C (B.append y)).append v
end
noncomputable abbrev OH(n:kf):Dr:=⟨n.watches,n.boxes,n.machines.map (·.name),n.machines.map (·.rooms),dP 0 n.machines⟩
theorem D7(h:okNet n):Rows ⟨[],[],[],[],[]⟩ (a7 n) (OH n):=by
 have n1:=h.nd;have n2:=(Z2.mp n1).1;have f:=(Z2.mp n2).1;have a:=pB n.watches [] (by rw[Zj];exact f) h.wn (by have:=h.lw;simp only[Zo];lia)
 have b:=wy h.lw n.boxes [] (by rw[Zj];exact n2) h.bx (by have:=h.lb;simp only[Zo];lia)
 have c:=sL h.lw h.lb n.machines [] [] [] rfl (fun _ m=>by cases m) (fun _ m=>by cases m) (by rw[Zj];exact n1) (by have:=h.m2;simp only[Zo];lia) h.mc (by have:=h.dl;simp only[Zo];lia)
 unfold a7;rw[Zj]at a b c;rw[Zj,Zj]at c;exact(a.append b).append c
theorem Fg:∀k l,(dP k l).length=(l.map fun m=>m.doors.length).sum
 |_,[]=>rfl
 |k,m::l=>by rw[dP,Zl,Fg (k+1) l,Zm,Zv,List.sum_cons]
abbrev oX(n:kf):D:=FN (aQ (a7 n)) n.watches n.boxes (n.machines.map (·.name)) (n.machines.map (·.rooms)) (dP 0 n.machines)
theorem oE(h:okNet n):cy [.str (aQ (a7 n))]=some (oX n,[some (.str (aQ (a7 n)))]):=by
 have j:=h.m1;have p:=h.m2;refine GB (Ca h) (D7 h) ?_ ?_ ?_ ?_
 . rcases List.eq_nil_or_concat n.machines with e | ⟨l,m,e⟩
   . rw[e]at j;exact absurd j (by decide)
   . refine ⟨l.map (·.rooms),m.rooms,?_,(h.mc m (by rw [e];simp)).rne⟩
     show n.machines.map (·.rooms)=_;rw[e];simp only[List.concat_eq_append,Zx,Zv,Zw]
 . intro rl f;obtain⟨m,o,rfl⟩:=Zs.mp f;exact ZZ (h.mc m o).rl (by decide)
 . rw[Zm];lia
 . rw[Fg];exact h.dl
def LC{f:Yh Int}{k}(h:k<f.length):L2.atI (f.map D.int) (k:Int)=some (.int f[k]):=yc (by rw[List.getElem?_map,Zy h];rfl)
theorem JK(f:Yh Int)(k:Nat):∃c,eK [.seq (f.map D.int),.int k]=some (.int c,[some (.seq (f.map D.int)),some (.int k)]):=by
 by_cases h:k<f.length
 . have d:decide ((k:Int) < (f.length:Int))=true:=decide_eq_true (by lia)
   exact⟨f[k],by simp only[eK,kU,Dl.start,av,cA,f9,dB,e_C,bT,bS,bu,bM,bU,ab,g8,da,iz,imm,Zc,Zv,Zw,Zk,Zn,Zo,Zm,Ze,Zf,ZP,ZS,ZQ,Nat.sub_self,Nat.reduceAdd,Z8,pD,d,LC h]⟩
 . have d:decide ((k:Int) < (f.length:Int))=false:=decide_eq_false (by lia)
   exact⟨0,by simp only[eK,kU,Dl.start,av,cA,f9,dB,e_C,bT,bS,bu,bM,bU,ab,g8,da,iz,imm,Zc,Zv,Zw,Zk,Zn,Zo,Zm,Ze,Zf,ZP,ZS,ZQ,Nat.sub_self,Nat.reduceAdd,ZR,Z8,Z9,pD,d]⟩
theorem Da(c):∃p,fg [.int c]=some (pu p,[some (.int c)])/\OkP p:=by
 refine⟨((if(c.natAbs:Int)-10^18>0 then(c.natAbs:Int)-10^18 else 0),(c.natAbs:Int)%2147483563+1),?_,?_⟩
 . have h1:gI L2.CPow (fun i j=>D.int (i ^ j.toNat)) (.int 10) (.int 18)=some (.int (10 ^ (18:Int).toNat)):=lZ ⟨by decide,by decide,by decide⟩
   have h0:(10:Int)^(18:Int).toNat=10^18:=rfl;have h2:gI (fun _ j=>0<j) (fun i j=>D.int (i%j)) (.int (c.natAbs:Int)) (.int 2147483563)=some (.int ((c.natAbs:Int)%2147483563)):=lZ (by decide)
   simp[fg,jA,Dl.start,av,ab,imm,EL,zo,h1,h0,h2]
 . refine ⟨?_,?_,?_⟩
   . split<;>lia
   . show 0<=(c.natAbs:Int)%2147483563+1;lia
   . show(c.natAbs:Int)%2147483563+1<2147483629;lia
def O4{c}:L2.atI [a,b,c] 2=some c:=rfl
theorem Gk(i):∃z0 z1 z2 z3 z4 z5,dE [.int i]=some (szD z0 z1 z2 z3 z4 z5,[some (.int i)])/\OkS z0 z1 z2 z3 z4 z5:=by
 have h2:gI (fun _ j=>0<j) (fun i j=>D.int (i%j)) (.int i) (.int 3)=some (.int (i%3)):=lZ (by decide)
 have f:i%3=0\/i%3=1\/i%3=2:=by lia
 rcases f with e|e|e
 . exact⟨4,3,4,6,6,60,by simp[dE,gd,Dl.start,av,ab,imm,cZ,oa,h2,e,yh],by constructor<;>decide⟩
 . exact⟨2,1,2,3,4,4,by simp[dE,gd,Dl.start,av,ab,imm,cZ,oa,h2,e,rA],by constructor<;>decide⟩
 . exact⟨1,2,3,2,3,9,by simp[dE,gd,Dl.start,av,ab,imm,cZ,oa,h2,e,O4],by constructor<;>decide⟩
def wd(f:Yh Int)(k:Nat):∃(n:kf)(Q4:DS),cQ [.seq (f.map D.int),.int k]=some (qq n,Q4)/\okNet n:=by
 obtain⟨c,v⟩:=JK f k;obtain⟨o,m⟩:=JK f 0;obtain⟨p,t,op⟩:=Da c;obtain⟨z0,z1,z2,z3,z4,z5,s,q⟩:=Gk (o+k);obtain⟨n,Q4,u,r⟩:=Ly q op;have j:eK [.seq (f.map D.int),.int 0]=some (.int o,[some (.seq (f.map D.int)),some (.int 0)]):=m;have bk:gu [none,none] Q4 [some (.seq (f.map D.int)),some (.int k)]=[some (.seq (f.map D.int)),some (.int k)]:=by
  cases Q4 with
  |nil=>rfl
  |cons a l=>cases l<;>rfl
 have B:∀x:Yg D,gu [none] [x] [some (D.seq (f.map D.int)),some (.int k)]=[some (.seq (f.map D.int)),some (.int k)]:=fun _=>rfl
 refine⟨n,[some (.seq (f.map D.int)),some (.int k)],?_,r⟩;have z:aj [none] fg (ae (vI (aU eK (af (ab 0) (af (ab 1) ag)))) am) [some (.seq (f.map D.int)),some (.int k)]=some (pu p,[some (.seq (f.map D.int)),some (.int k)]):=by simp[ab,sh,shs,imm,qy,v,t]
 have y:aj [none] dE bq4 [some (.seq (f.map D.int)),some (.int k)]=some (szD z0 z1 z2 z3 z4 z5,[some (.seq (f.map D.int)),some (.int k)]):=by simp[ab,sh,shs,imm,qy,j,s]
 unfold cQ jC;rw[show Dl.start 2 [.seq (f.map D.int),.int k]=[some (.seq (f.map D.int)),some (.int k)]from rfl,cA,aZ,cC,z]
 simp only[bq4,Zc];rw[cC,y];simp only[bq4,Zc,cS,u,bk];rfl
theorem m4{f}:∀{l},(∀x∈l,f x x=some true)->eqL f l l=some true
 |[],_=>rfl
 |a::l,h=>by rw[eqL,h a (Zp ..),m4 fun x m=>h x (Zq _ m)];rfl
def zr(k) (s):eqN k (.str s) (.str s)=some true:=by cases k<;>simp[eqN,kd,eq0,eS,toV,eqF]
def uk(k) (s):eqN k (.int s) (.int s)=some true:=by cases k<;>simp[eqN,kd,eq0,eS,toV,eqF]
def Im(k) (b):eqN (k+1) (aq b) (aq b)=some true:=m4 fun x m=>by
 simp at m;rcases m with rfl|rfl|rfl|rfl
 . exact zr ..
 . exact uk ..
 . exact uk ..
 . exact uk ..
def v1(k) (l:Yh Str):eqL (eqN k) (l.map D.str) (l.map D.str)=some true:=m4 fun x m=>by obtain⟨s,_,rfl⟩:=Zs.mp m;exact zr ..
def Bk(k) (l:Yh bD):eqL (eqN (k+1)) (l.map aq) (l.map aq)=some true:=m4 fun x m=>by obtain⟨s,_,rfl⟩:=Zs.mp m;exact Im ..
def Bi(W M:Yh Str)(bs:Yh bD):d9 (.lst [.lst (W.map D.str),.lst (bs.map aq),.lst (M.map D.str)]) (.seq [.seq (W.map D.str),.seq (bs.map aq),.seq (M.map D.str)])=some (.bl false):=by
 have:eqN 6 (.lst [.lst (W.map D.str),.lst (bs.map aq),.lst (M.map D.str)]) (.seq [.seq (W.map D.str),.seq (bs.map aq),.seq (M.map D.str)])=some true:=by
  show(eqL (eqN 4) (W.map D.str) (W.map D.str)).bind (fun x=>((eqL (eqN 4) (bs.map aq) (bs.map aq)).bind fun x=>((eqL (eqN 4) (M.map D.str) (M.map D.str)).bind fun x=>(some true).bind fun y=>some (x&&y)).bind fun y=>some (x&&y)).bind fun y=>some (x&&y))=some true
  rw[v1,v1,Bk];rfl
 unfold d9;rw[this];rfl
def BE(b) {u}:aD (rS (rH (aa 2) (faS (fC (.int 1))) faN)) 1 [] (gN 0) (fun _=>some true) Fw [f,t,some (aq b),u]=some (.lst [.bl true,.bl true,.bl true],[f,t,some (aq b),u]):=by
 have j:rS (rH (aa 2) (faS (fC (.int 1))) faN) [f,t,some (aq b),u]=some ([.int b.2.1,.int b.2.2.1,.int b.2.2.2],[f,t,some (aq b),u]):=rfl;have tk:takes (([]:Yh Nat).map AK.lent) [f,t,some (aq b),u]=some ([],[f,t,some (aq b),u]):=rfl;have fe:∀i,Fw [some (.int i)]=some (.bl true,[some (.int i)]):=fun i=>rfl
 have k:bi 1 (gN 0) (fun _=>some true) Fw [.int b.2.1,.int b.2.2.1,.int b.2.2.2] [none]=some ([.bl true,.bl true,.bl true],[none]):=by simp only[bi,sh,iA,Zc,Z8,fe,qL]
 rw[cq j tk k (by decide)]
 rfl
theorem qu{s}(m:∀b u,s [f,t,some (aq b),u]=some (.nx [f,t,some (aq b),some (.seq [.bl true,.bl true,.bl true])])):∀(l:Yh bD) o u,∃o' j,cn (gN 2) s (l.map aq) [f,t,o,u]=some (.nx [f,t,o',j])
 |[],o,u=>⟨o,u,rfl⟩
 |b::l,o,u=>by obtain⟨o',j,e⟩:=qu m l (some (aq b)) (some (.seq [.bl true,.bl true,.bl true]));have g:gN 2 (aq b) [f,t,o,u]=some [f,t,some (aq b),u]:=rfl;exact⟨o',j,by simp only[Zv,cn,uF,g,Zc,m,e]⟩
def El(W M:Yh Str)(bs:Yh bD):dM [.seq [.seq (W.map D.str),.seq (bs.map aq),.seq (M.map D.str)]]=some (.bl true,[some (.seq [.seq (W.map D.str),.seq (bs.map aq),.seq (M.map D.str)])]):=by
 have m:a6 (aa 0) [some (.seq [.seq (W.map D.str),.seq (bs.map aq),.seq (M.map D.str)]),none,none,none]=some ([.seq (W.map D.str),.seq (bs.map aq),.seq (M.map D.str)],[some (.seq [.seq (W.map D.str),.seq (bs.map aq),.seq (M.map D.str)]),none,none,none]):=by simp[a6,aa,sh,shs,noo,aO]
 have v:∀(t:Yg D) l,qIf bq1 (aW (vI (fC (.bl false)))) bw [t,some (.seq l),none,none]=some (.nx [t,some (.seq l),none,none]):=fun t l=>rfl
 have r:∀t o d,gN 1 d [t,o,none,none]=some [t,some d,none,none]:=fun _ _ _=>rfl
 have q:cn (gN 1) Mt [.seq (W.map D.str),.seq (bs.map aq),.seq (M.map D.str)] [some (.seq [.seq (W.map D.str),.seq (bs.map aq),.seq (M.map D.str)]),none,none,none]=some (.nx [some (.seq [.seq (W.map D.str),.seq (bs.map aq),.seq (M.map D.str)]),some (.seq (M.map D.str)),none,none]):=by simp only[bq1,Mt,Fw,IL,cn,sh,aV,aO,r,Zc,v]
 have j:a6 (ja (aa 0) (fC (.int 1))) [some (.seq [.seq (W.map D.str),.seq (bs.map aq),.seq (M.map D.str)]),some (.seq (M.map D.str)),none,none]=some (bs.map aq,[some (.seq [.seq (W.map D.str),.seq (bs.map aq),.seq (M.map D.str)]),some (.seq (M.map D.str)),none,none]):=by simp[a6,ja,aa,sh,noo,rA,aO]
 obtain⟨o,u,p⟩:=qu (f:=some (.seq [.seq (W.map D.str),.seq (bs.map aq),.seq (M.map D.str)])) (t:=some (.seq (M.map D.str))) (s:=IL) (fun b u=>by rw[IL,aE,bg,BE b,Zc];rfl) bs none none
 unfold dM jB;rw[show Dl.start 4 [.seq [.seq (W.map D.str),.seq (bs.map aq),.seq (M.map D.str)]]=[some (.seq [.seq (W.map D.str),.seq (bs.map aq),.seq (M.map D.str)]),none,none,none]from rfl,aE,fM m q,aX,aE,fM j p]
 rfl
def wf{α:Type}(l:Yh α):shs (l.map fun _=>D.dct)=l.map fun _=>D.dct:=cj (fun _=>rfl) l
abbrev kz(t:Str)(W:List Str)(bs:List bD)(M:List Str)(R:List (List be))(P:List (Nat×bt)):D:=.ob aG NN [.str t,.seq (W.map D.str),.seq (bs.map aq),.seq (M.map D.str),.seq (R.map fun _=>.dct),.seq (P.map (bB W bs)),.dct]
section
variable {t:Str} {bs:Yh bD} 
def uN:sh (FN t W bs M R P)=kz t W bs M R P:=by simp only[sh,shs,aV,aO,cP,wf]
def pA:sh (kz t W bs M R P)=kz t W bs M R P:=by simp only[sh,shs,aV,aO,cP,wf]
def Lz {c d f g}:lkF "text" NN [a,b,c,d,e,f,g]=some a:=iq (k:=0) (by decide +kernel)
def HJ {c d f g}:lkF "watch_names" NN [a,b,c,d,e,f,g]=some b:=iq (k:=1) (by decide +kernel)
def NB {c d f g:D}:lkF "box_tuples" NN [a,b,c,d,e,f,g]=some c:=iq (k:=2) (by decide +kernel)
def LA {c d f g}:lkF "machine_names" NN [a,b,c,d,e,f,g]=some d:=iq (k:=3) (by decide +kernel)
def xh:cB "watches" NN=none:=by decide +kernel
def D5:cB "boxes" NN=none:=by decide +kernel
def vz:cB "machines" NN=none:=by decide +kernel
def pS:ff [kz t W bs M R P]=some (.str t,[some (kz t W bs M R P)]):=by simp[ff,uM,Dl.start,av,ab,imm,Lz]
theorem lV:∀(l:Yh bD),cZ (l.map aq)=true
 |[]=>rfl
 |b::l=>by rw[Zv,cZ,lV l];rfl
def wG:fX [kz t W bs M R P]=some (.lst (W.map D.str),[some (kz t W bs M R P)]):=by simp[fX,iT,Dl.start,av,ab,gD,HJ,mV,gY,fL]
def Fz:iM [kz t W bs M R P]=some (.lst (bs.map aq),[some (kz t W bs M R P)]):=by simp[iM,kx,Dl.start,av,ab,gD,NB,mV,gY,lV]
def vE:fB [kz t W bs M R P]=some (.lst (M.map D.str),[some (kz t W bs M R P)]):=by simp[fB,ij,Dl.start,av,ab,gD,LA,mV,gY,fL]
def xk{m}{G}{l}{o:D}{Q4}(j:cB m NN=none)(h:G [kz t W bs M R P]=some (.lst l,Q4))(f:own (.lst l)=true):jJ aG m G (ab 0) ag (some (kz t W bs M R P)::δ)=some (.lst l,some (kz t W bs M R P)::δ):=by unfold jJ;rw[show ab 0 (some (kz t W bs M R P)::δ)=some (kz t W bs M R P)from rfl,Zc,if_pos (lY j),bM,Zc,shs,shs,pA,h,Zc,if_pos f]
def sC(l:Yh Str):own (.lst (l.map D.str))=true:=by rw[own,cW]
theorem vp:∀(l:Yh bD),gG (l.map aq)=true
 |[]=>rfl
 |b::l=>by rw[Zv,gG,vp l];rfl
def w9(l:Yh bD):own (.lst (l.map aq))=true:=by rw[own,vp]
end
abbrev fE(n:kf):D:=kz (aQ (a7 n)) n.watches n.boxes (n.machines.map (·.name)) (n.machines.map (·.rooms)) (dP 0 n.machines)
noncomputable abbrev fnd(n:kf):D:=.lst [.lst (n.watches.map D.str),.lst (n.boxes.map aq),.lst ((n.machines.map (·.name)).map D.str)]
abbrev due(n:kf):D:=.seq [.seq (n.watches.map D.str),.seq (n.boxes.map aq),.seq ((n.machines.map (·.name)).map D.str)]
def L0(n):sh (fnd n)=due n:=by simp only[sh,shs,aV,aO]
def J4(d e f g h) (n):fT (a9 (qE Is) (af (ab 0) (af (fC (.cls aG)) ag))) [some (fE n),d,e,f,g,h]=some true:=rfl
def M2(n) (d f g h):iX (fG (fT (a9 (qE Is) (af (ab 0) (af (fC (.cls aG)) ag))))) IN [some (fE n),d,some (.str (aQ (a7 n))),f,g,h]=some false:=by
 have cs:aU ff (af (ab 0) ag) [some (fE n),d,some (.str (aQ (a7 n))),f,g,h]=some (.str (aQ (a7 n))):=by
  rw[dz,bU,show ab 0 [some (fE n),d,some (.str (aQ (a7 n))),f,g,h]=some (fE n)from rfl,bM]
  simp only[IN,Zc];rw[show shs [fE n]=[fE n] by rw[shs,shs,pA],pS]
  rfl
 have j:∀s,rL "str" qx [.str s,.ty "str"]=some (.bl true):=fun _=>rfl
 rw[sX,lX,J4];simp only[IN,sX,qI,f9,dB,lX,e_C,bT,bu,bM,bU,ab,v9,Zc,Zd,Ze,Zf,Bool.not_true,cs,j,ZA]
def Gs(n) (d e f g h):bR Fv [some (fE n),d,e,f,g,h]=some (fnd n,[some (fE n),d,e,f,g,h]):=by rw[qJ,Fv,cC,xk (o:=.non) xh wG (sC _)];simp only[Fv,Zc];rw[cC,xk (o:=.non) D5 Fz (w9 _)];simp only[Fv,Zc];rw[cC,xk (o:=.non) vz vE (sC _)];rfl
theorem Cu(j:okNet n)(b c d e f):aD (a6 (ja (aa 1) (fC (.int 2)))) 1 [] (gN 0) (fun _=>some true) (vI (f2 gIx (ab 0) (fC (.int 0)))) [b,some (aS n),c,d,e,f]=some (.lst ((n.machines.map (·.name)).map D.str),[b,some (aS n),c,d,e,f]):=hV (by
 have h1:ja (aa 1) (fC (.int 2)) [b,some (aS n),c,d,e,f]=some (.seq (n.machines.map mT),[b,some (aS n),c,d,e,f]):=rfl;unfold a6;rw[h1,Zc,sh,kN]) Ef (fun m _=>rfl) (by have:=j.m2;lia)
def Gr(j:okNet n)(b c d e f):bR Fu [b,some (aS n),c,d,e,f]=some (.lst [.seq (n.watches.map D.str),.seq (n.boxes.map aq),.lst ((n.machines.map (·.name)).map D.str)],[b,some (aS n),c,d,e,f]):=by have h1:ja (aa 1) (fC (.int 0)) [b,some (aS n),c,d,e,f]=some (.seq (n.watches.map D.str),[b,some (aS n),c,d,e,f]):=rfl;have h2:ja (aa 1) (fC (.int 1)) [b,some (aS n),c,d,e,f]=some (.seq (n.boxes.map aq),[b,some (aS n),c,d,e,f]):=rfl;rw[qJ,Fu,cC,h1];simp only[Fu,Zc];rw[cC,h2];simp only[Fu,Zc];rw[cC,Cu j];rfl
def M1(n) (a b c f):iX (fG (fT (aU dM (af (ab 3) ag)))) (fT (f2 d9 (ab 3) (ab 4))) [a,b,c,some (fnd n),some (due n),f]=some false:=by
 have cs:aU dM (af (ab 3) ag) [a,b,c,some (fnd n),some (due n),f]=some (.bl true):=by
  rw[dz,bU,show ab 3 [a,b,c,some (fnd n),some (due n),f]=some (fnd n)from rfl,bM]
  simp only[Zc];rw[show shs [fnd n]=[due n] by rw[shs,shs,L0],El]
  rfl
 have l:ab 3 [a,b,c,some (fnd n),some (due n),f]=some (fnd n):=rfl;have j:ab 4 [a,b,c,some (fnd n),some (due n),f]=some (due n):=rfl;rw[sX,lX,f9,cs];simp only[Zc,dB,Zd,Bool.not_true,qI];rw[f9,bT,l,j];simp only[Zc];rw[Bi];rfl
def wT {l} (h1:cZ l=true) (h2:l.length<=999):Aj (fun ds=>if ds.length<=999 then some (ds++[D.str "x"])else none) (.lst l)=some (.lst (l++[D.str "x"])):=by
 have:cZ (l++[D.str "x"])=true:=by
  clear h2
  induction l with
  |nil=>rfl
  |cons a l f =>rw[cZ,ZN]at h1;rw[Zi,cZ,h1.1,f h1.2];rfl
 unfold Aj;simp only[h1,Z8,if_pos h2,Zc,this]
theorem CA(f:okNet n):∃Q4,gM [fE n,aS n,.str (aQ (a7 n))]=some (.bl true,Q4):=by
 have o:=wT (fL n.watches) (by have:=f.lw;rw[Zm];lia)
 have m:=wT (lV n.boxes) (by have:=f.lb;rw[Zm];lia)
 have l:=wT (fL (n.machines.map (·.name))) (by have:=f.m2;rw[Zm,Zm];lia)
 have q:Ed (Aj (fun ds=>if ds.length<=999 then some (ds++[D.str "x"])else none)) [.lst (n.watches.map D.str),.lst (n.boxes.map aq),.lst ((n.machines.map (·.name)).map D.str)]=some [.lst (n.watches.map D.str++[D.str "x"]),.lst (n.boxes.map aq++[D.str "x"]),.lst ((n.machines.map (·.name)).map D.str++[D.str "x"])]:=by simp only[Ed,o,m,l,Zc]
 have p:sv 3 5 (fun ds=>if ds.length<=999 then some (ds++[D.str "x"])else none) [some (fE n),some (aS n),some (.str (aQ (a7 n))),some (fnd n),some (due n),none]=some (.nx [some (fE n),some (aS n),some (.str (aQ (a7 n))),some (.lst [.lst (n.watches.map D.str++[D.str "x"]),.lst (n.boxes.map aq++[D.str "x"]),.lst ((n.machines.map (·.name)).map D.str++[D.str "x"])]),some (due n),none]):=by
  unfold sv;simp only[Ze,Zf];rw[q,if_pos (by simp only[Zn,Zo];lia)]
  rfl
 have j:sh (.lst [.seq (n.watches.map D.str),.seq (n.boxes.map aq),.lst ((n.machines.map (·.name)).map D.str)])=due n:=by simp only[sh,shs,aV,aO]
 refine⟨[some (fE n),some (aS n),some (.str (aQ (a7 n)))],?_⟩;unfold gM jz;rw[show Dl.start 6 [fE n,aS n,.str (aQ (a7 n))]=[some (fE n),some (aS n),some (.str (aQ (a7 n))),none,none,none]from rfl,aE,gn,M2,iZ,iw,aX,aE,j8,Gs,Zc,aX,aE,bg]
 simp only[Zg,Zh];rw[Gr f,Zc,aX];simp only[j,Zg,Zh];rw[aE,gn,M1,iZ,iw,aX,aE,p,aX];rfl
abbrev tx(n:kf):Str:=aQ (a7 n)
abbrev lS(s:D)(n1 n2:kf)(o4 o5:Option D):DS:=[some s,some (.seq [aS n1,aS n2]),some (.seq [.str (tx n1),.str (tx n2)]),some (.seq [fE n1,fE n2]),o4,o5]
def vA(n1 n2):shs [aS n1,aS n2]=[aS n1,aS n2]:=by rw[shs,shs,shs,kM,kM]
def M3(δ):dG (vI (fC (.int 2))) δ=some ([.int 0,.int 1],δ):=wW (n:=2) (by decide) _ _ rfl
def call_text(h:okNet n):vI (aU eI (af (ab 0) ag)) [some (aS n)]=some (.str (tx n),[some (aS n)]):=by
 rw[bS,dz,bU,xK,bM];simp only[Zc];rw[show shs [aS n]=[aS n] by rw[shs,shs,kM],Gc h]
 rfl
def tq(h:okNet n):aj [none] cy (ae (aa 0) am) [some (.str (tx n))]=some (oX n,[some (.str (tx n))]):=by
 rw[aZ,cC,show aa 0 [some (D.str (tx n))]=some (.str (tx n),[some (.str (tx n))])from rfl]
 simp only[Zc];rw[cS];simp only[Zc];rw[oE h];rfl
def B9(h1:okNet n1)(h2:okNet n2)(s) (a b c d):aD (a6 (aa 1)) 1 [] (gN 0) (fun _=>some true) (vI (aU eI (af (ab 0) ag))) [some s,some (.seq [aS n1,aS n2]),a,b,c,d]=some (.lst [.str (tx n1),.str (tx n2)],[some s,some (.seq [aS n1,aS n2]),a,b,c,d]):=hV (l:=[n1,n2]) (by
 rw[a6,show aa 1 [some s,some (.seq [aS n1,aS n2]),a,b,c,d]=some (.seq [aS n1,aS n2],[some s,some (.seq [aS n1,aS n2]),a,b,c,d]) by simp[aa,noo,vA,noo]]
 simp only[Zc,sh,vA];rfl) kM (fun x f=>by
 simp at f;rcases f with rfl|rfl
 . exact call_text h1
 . exact call_text h2) (show 2<=1000 by decide)
def FZ(h1:okNet n1)(h2:okNet n2)(s r) (b c d):aD (a6 (aa 2)) 1 [] (gN 0) (fun _=>some true) (aj [none] cy (ae (aa 0) am)) [some s,some r,some (.seq [.str (tx n1),.str (tx n2)]),b,c,d]=some (.lst [oX n1,oX n2],[some s,some r,some (.seq [.str (tx n1),.str (tx n2)]),b,c,d]):=by
 have f:a6 (aa 2) [some s,some r,some (.seq [.str (tx n1),.str (tx n2)]),b,c,d]=some ([.str (tx n1),.str (tx n2)],[some s,some r,some (.seq [.str (tx n1),.str (tx n2)]),b,c,d]):=rfl;have tk:takes (([]:Yh Nat).map AK.lent) [some s,some r,some (.seq [.str (tx n1),.str (tx n2)]),b,c,d]=some ([],[some s,some r,some (.seq [.str (tx n1),.str (tx n2)]),b,c,d]):=rfl;have k:bi 1 (gN 0) (fun _=>some true) (aj [none] cy (ae (aa 0) am)) [.str (tx n1),.str (tx n2)] [none]=some ([oX n1,oX n2],[none]):=by simp only[bi,sh,iA,Zc,Z8,tq h1,tq h2,qL]
 rw[cq f tk k (show 2<=1000 by decide)]
 rfl
section
variable (s:D) (o4:Yg D)
abbrev JJ:SQ:=qIf IP (aW (vI (fC (.bl false)))) bw
abbrev JI:SQ:=qIf Bz (aW (vI (fC (.bl false)))) bw
def IW:shs [fE n,aS n,.str (tx n)]=[fE n,aS n,.str (tx n)]:=by have e:sh (.str (tx n))=.str (tx n):=rfl;rw[shs,shs,shs,shs,pA,kM,e]
def pU(h:okNet n)(l:f2 gIx (ab 3) (ab 5) δ=some (fE n))(j:f2 gIx (ab 1) (ab 5) δ=some (aS n))(f:f2 gIx (ab 2) (ab 5) δ=some (.str (tx n))):JJ δ=some (.nx δ):=by obtain⟨Q4,e⟩:=CA h;unfold JJ;rw[gn,IP,lX,f9,dz,bU,l,bU,j,bU,f,bM];simp only[IP,Zc];rw[IW,e];rfl
def pT(h:okNet n)(j:f2 gIx (ab 3) (ab 5) δ=some (fE n))(f:f2 gIx (ab 2) (ab 5) δ=some (.str (tx n))):JI δ=some (.nx δ):=by
 have o:aU ff (af (f2 gIx (ab 3) (ab 5)) ag) δ=some (.str (tx n)):=by
  rw[dz,bU,j,bM];simp only[Bz,bq6,Zc];rw[show shs [fE n]=[fE n] by rw[shs,shs,pA],pS]
  rfl
 have m:aU cy (af (aU ff (af (f2 gIx (ab 3) (ab 5)) ag)) ag) δ=some (oX n):=by
  rw[dz,bU,o,bM];simp only[Bz,bq6,Zc];rw[show shs [D.str (tx n)]=[.str (tx n)]from rfl,oE h]
  rfl
 have l:aU ff bq6 δ=some (.str (tx n)):=by
  rw[dz,bq6,bU,m,bM];simp only[Bz,bq6,Zc];rw[show shs [oX n]=[fE n] by rw[shs,shs,uN],pS]
  rfl
 unfold JI;rw[gn,Bz,f9,bT,l,f];simp[ZA]
def HW(n1 n2):(f2 gIx (ab 3) (ab 5) (lS s n1 n2 o4 (some (.int 0)))=some (fE n1))/\f2 gIx (ab 3) (ab 5) (lS s n1 n2 o4 (some (.int 1)))=some (fE n2):=⟨rfl,rfl⟩
def NH(n1 n2):(f2 gIx (ab 1) (ab 5) (lS s n1 n2 o4 (some (.int 0)))=some (aS n1))/\f2 gIx (ab 1) (ab 5) (lS s n1 n2 o4 (some (.int 1)))=some (aS n2):=⟨rfl,rfl⟩
def HX(n1 n2):(f2 gIx (ab 2) (ab 5) (lS s n1 n2 o4 (some (.int 0)))=some (.str (tx n1)))/\f2 gIx (ab 2) (ab 5) (lS s n1 n2 o4 (some (.int 1)))=some (.str (tx n2)):=⟨rfl,rfl⟩
def two{b}(h1:b (lS s n1 n2 o4 (some (.int 0)))=some (.nx (lS s n1 n2 o4 (some (.int 0)))))(h2:b (lS s n1 n2 o4 (some (.int 1)))=some (.nx (lS s n1 n2 o4 (some (.int 1))))):f8 (dG (vI (fC (.int 2)))) (gN 5) b (lS s n1 n2 o4 o5)=some (.nx (lS s n1 n2 o4 (some (.int 1)))):=by refine fM (M3 _) ?_;have j:gN 5 (.int 0) (lS s n1 n2 o4 o5)=some (lS s n1 n2 o4 (some (.int 0))):=rfl;have f:gN 5 (.int 1) (lS s n1 n2 o4 (some (.int 0)))=some (lS s n1 n2 o4 (some (.int 1))):=rfl;simp only[cn,sh,j,f,Zc,h1,h2]
def OV{b}(h:∀o4,∀o5,b (lS s n1 n2 o4 o5)=some (.nx (lS s n1 n2 o4 (some (.int 1))))):f8 (dG (vI (fC (.int 2)))) (gN 4) b (lS s n1 n2 o4 o5)=some (.nx (lS s n1 n2 (some (.int 1)) (some (.int 1)))):=by
 refine fM (M3 _) ?_;have j:gN 4 (.int 0) (lS s n1 n2 o4 o5)=some (lS s n1 n2 (some (.int 0)) o5):=rfl;have f:∀o5,gN 4 (.int 1) (lS s n1 n2 (some (.int 0)) o5)=some (lS s n1 n2 (some (.int 1)) o5):=fun _=>rfl
 simp only[cn,sh,j,f,Zc,h]
end
def Ej{c1 c2 c3}{l1 l2}{s}(h1:c1 [some s,none,none,none,none,none]=some (.lst [qq n1,qq n2],[some s,none,none,none,none,none]))(h2:c2 [some s,some (.seq [aS n1,aS n2]),none,none,none,none]=some (.lst [.str (tx n1),.str (tx n2)],[some s,some (.seq [aS n1,aS n2]),none,none,none,none]))(p:c3 [some s,some (.seq [aS n1,aS n2]),some (.seq [.str (tx n1),.str (tx n2)]),none,none,none]=some (.lst [oX n1,oX n2],[some s,some (.seq [aS n1,aS n2]),some (.seq [.str (tx n1),.str (tx n2)]),none,none,none]))
 (o:l1 (lS s n1 n2 none none)=some (.nx (lS s n1 n2 (some (.int 1)) (some (.int 1))))) (m:l2 (lS s n1 n2 (some (.int 1)) (some (.int 1)))=some (.nx (lS s n1 n2 (some (.int 1)) (some (.int 1))))):ai (az 1 c1) (ai (az 2 c2) (ai (az 3 c3) (ai l1 (ai l2 (aW (vI (fC (.bl true)))))))) [some s,none,none,none,none,none]=some (.rt (.bl true) (lS s n1 n2 (some (.int 1)) (some (.int 1)))):=by
 have l:sh (.lst [qq n1,qq n2])=.seq [aS n1,aS n2]:=by rw[sh,shs,shs,shs,y9,y9]
 have f:sh (.lst [oX n1,oX n2])=.seq [fE n1,fE n2]:=by rw[sh,shs,shs,shs,uN,uN]
 have j:sh (.lst [.str (tx n1),.str (tx n2)])=.seq [.str (tx n1),.str (tx n2)]:=rfl;rw[aE,bg,h1,Zc,aX,aE,bg];simp only[l,Zg,Zh];rw[h2,Zc,aX,aE,bg];simp only[j,Zg,Zh];rw[p,Zc,aX,aE];simp only[f,Zg,Zh];rw[o,aX,aE,m,aX];rfl
def Ei(f:Yh Int)(u:f.length<=63):∃δ,JM (Dl.start 6 [.seq (f.map D.int)])=some (.rt (.bl true) δ):=by
 obtain⟨n1,f1,s,m⟩:=wd f 1;obtain⟨n2,f2,r,j⟩:=wd f 2;have q:cQ [.seq (f.map D.int),.int 1]=some (qq n1,f1):=s;have p:cQ [.seq (f.map D.int),.int 2]=some (qq n2,f2):=r;have bk:∀Q4,gu [none,none] Q4 [some (D.seq (f.map D.int)),none,none,none,none,none]=[some (.seq (f.map D.int)),none,none,none,none,none]:=fun Q4=>by
  cases Q4 with
  |nil=>rfl
  |cons a l=>cases l<;>rfl
 refine⟨lS (.seq (f.map D.int)) n1 n2 (some (.int 1)) (some (.int 1)),Ej ?_ (B9 m j _ _ _ _ _) (FZ m j _ _ _ _ _) (OV _ _ fun o4 o5=>two _ o4 (pU m (HW _ _ n1 n2).1 (NH _ _ n1 n2).1 (HX _ _ n1 n2).1) (pU j (HW _ _ n1 n2).2 (NH _ _ n1 n2).2 (HX _ _ n1 n2).2)) (two _ _ (pT m (HW _ _ n1 n2).1 (HX _ _ n1 n2).1) (pT j (HW _ _ n1 n2).2 (HX _ _ n1 n2).2))⟩
 have o:aa 0 [some (D.seq (f.map D.int)),none,none,none,none,none]=some (.seq (f.map D.int),[some (.seq (f.map D.int)),none,none,none,none,none]):=rfl;have t:∀n,own (qq n)=own (qq n):=fun _=>rfl
 simp[aa,noo,imm,o,q,p,bk]
end Mine
namespace Mine
open PySem PySem.Spec PyProof.Rows L2 Dl Hq
noncomputable section
section
seal f2 j6 g7 fC a9 aU fU gm fIf gl di fMt fG iX ui jr fSl uh fT ug ab af faN ag faS kY pIx aw cG tV bE Aq bZ f8 qIf lJ pX bw tU aW sv ai eL az qUn eO ou ae vI gD cR bR uS am jb vSl pG pF aa cY ot wAt bY nz aj b8 rW aD rV nv fY br pD pC ja zT gS bL jJ dG zS i9 rH lG rG a6 rS zR PQ PQs PWD PTD PD PAD PIQ PLA Dl.PW PWA rD PLV PV POD PTW PWW BL L2.PE L2.PA L2.PS L2.PSs L2.PT L2.PW L2.PG L2.PGs L2.PI
set_option hygiene false in
local macro_rules | `(tactic| trivial)=>`(tactic| first
 | (show PD _ _ _;first
  |(show PD _ (.Name _ _) _;first
   |exact K5 _
   |exact Ny xi
   |exact Nx xs
   |exact vn rfl xm tt
   |exact Lq rfl xc
   |exact vn rfl xm boot_list
   |exact vn rfl xm boot_int
   |exact vn rfl xm boot_bool
   |exact vn rfl xm boot_tuple
   |exact Ln (xt (by assumption) rfl) rfl)
  |(show PD _ (.Constant _ _ _) _;first
   |exact Lj
   |exact DP
   |exact Nz
   |exact Lb)
  |(show PD _ (.Call _ _ _ _) _;first
   |refine dk (x:="len") (call_len_seq.or uy) (cd_len.or ID) rfl xm PySem.boot_len ?_
   |refine DT (CH.h (by assumption)) (by assumption) ?_
   |refine Lg ?_ (CM.h (by assumption)) (by assumption) ?_
   |refine Hr ?_ (CM.h (by assumption)) (by assumption)
   |refine kJ (x:="str") uw IB rfl xm tt ?_
   |refine yU PySem.F.plainAttrs_list PySem.F.slot_list_index PySem.F.type_list_index AS AV ?_ ?_
   |refine dk (x:="all") (Fp rfl) Mj rfl xm BH ?_
   |refine kJ (x:="int") (call_int1.or uz) (cd_int.or IF) rfl xm boot_int ?_
   |refine yU PySem.F.plainAttrs_str PySem.F.slot_str_join PySem.F.type_str_join HL HQ ?_ ?_
   |refine yU PySem.F.plainAttrs_str PySem.F.slot_str_startswith PySem.F.type_str_startswith AR AU ?_ ?_
   |refine dk (x:="isinstance") Bu (IE xI) rfl xm boot_isinstance ?_
   |refine dk (x:="abs") Fs Ml rfl xm PyProof.Rows.boot_abs ?_
   |refine dk (x:="isinstance") kb (qT D1) rfl xm boot_isinstance ?_
   |refine dk (x:="max") (Bt rfl) IC rfl xm BG ?_
   |refine dk (x:="isinstance") kb (qT D2) rfl xm boot_isinstance ?_
   |refine dk (x:="isinstance") kb (qT D3) rfl xm boot_isinstance ?_
   |refine dk (x:="isinstance") kb (qT AH) rfl xm boot_isinstance ?_
   |refine dk (x:="isinstance") kb (qT D0) rfl xm boot_isinstance ?_
   |refine kJ (x:="dict") (wm true rfl (hu2 (by assumption))) (Fn true) rfl xm boot_dict ?_
   |refine kJ (x:="dict") (wm false rfl (hu2 (by assumption))) (Fn false) rfl xm boot_dict ?_
   |refine yU PySem.F.plainAttrs_str PySem.F.slot_str_endswith PySem.F.type_str_endswith HM HR ?_ ?_
   |refine dk (x:="min") (Bs rfl) Mi rfl xm boot_min ?_)
  |(show PD _ (.Subscript _ _ _) _;first
   |refine Nu ?_ ?_
   |refine Az ?_ ?_ ?_
   |refine DQ ?_ ?_ ?_)
  |(show PD _ (.BinOp _ _ _ _) _;first
   |refine Hz ?_ ?_
   |refine K7 ?_ ?_
   |refine Lf ?_ ?_
   |refine Hy ?_ ?_
   |refine K8 ?_ ?_
   |refine Hx ?_ ?_
   |refine Le ?_ ?_)
  |(show PD _ (.Compare _ _ _ _) _;first
   |refine Lp (Room.units (by assumption)) ?_ ?_
   |refine Nw ?_ ?_
   |refine Nt ?_ ?_
   |refine Nv ?_ ?_
   |refine Ll ?_ ?_
   |refine Ho ?_ ?_
   |refine Ld (Room.units (by assumption)) ?_ ?_
   |refine DR ?_ ?_
   |refine AC ?_ ?_ ?_
   |refine AB (xE (by assumption)) (Room.units (by assumption)) ?_ ?_)
  |refine Lo ?_ xa
  |refine Lh ?_
  |refine K9 ?_
  |refine Lc ?_
  |refine Hs ?_
  |refine Lr ?_ ?_
  |refine K6 ?_
  |refine Nr ?_ ?_
  |refine La ?_
  |refine Lm ?_ ?_ ?_)
 |(show Dl.PW _ _ _;first
  |refine Km ?_
  |exact GH _
  |refine C0 (CH.h (by assumption)) (by assumption) ?_
  |refine Kj ?_
  |refine Kd ?_
  |exact GK _ (CM.h (by assumption)) (by assumption)
  |refine Ki _ (CM.h (by assumption)) (by assumption) ?_
  |refine Nh ?_ ?_
  |refine GM ?_ xa
  |refine GO ?_ ?_
  |refine Kl ?_ ?_
  |refine GL (CK.h (by assumption)) (by assumption) ?_
  |refine CZ (CH.h (by assumption)) (by assumption) ?_
  |refine CU ?_ (CM.h (by assumption)) (by assumption)
  |refine Kn ?_ ?_ ?_
  |refine Ko ?_ ?_ ?_
  |refine GI ?_ ?_
  |refine u9 (ud _ (by decide +kernel)) rfl ?_ (fun _ _ _ _ _ _=>?_) (fun _ _ _ _ _=>?_) (fun _ _ _ _ _=>?_)
  |refine u9 (Ig _ (by decide +kernel)) rfl ?_ (fun _ _ _ _ _ _=>?_) (fun _ _ _ _ _=>?_) (fun _ _ _ _ _=>?_)
  |refine Kf ?_ ?_ ?_
  |refine Ke ?_
  |refine CW ?_ ?_
  |refine Kp (Room.units (by assumption)) ?_ ?_
  |refine Kk ?_ ?_
  |refine C3 (CH.h (by assumption)) (by assumption) ?_
  |refine CS ?_ ?_
  |refine GJ ?_ ?_
  |refine Ni ?_
  |refine GN ?_ ?_
  |refine Kg ?_
  |exact CV (CK.h (by assumption)) (by assumption)
  |refine Jp ?_)
 |(show PQs _ _ _ _;first
  |refine G5 ?_ ?_
  |refine KD ?_
  |exact KF)
 |(show PAD _ _ _;first
  |refine vo ?_ ?_
  |exact yW)
 |(show PQ _ _ _ _;first
  |refine G2 _ (zkI (by assumption) _ (by decide +kernel)) (by assumption) ?_
  |refine KB ?_
  |refine Nk ?_ ?_ ?_
  |refine KH _ ?_ ?_ xa
  |refine G4 ?_
  |refine Dp PassesOwn.never rfl ?_ (EF _ (zkI (by assumption) _ (by decide +kernel))) ?_ ?_
  |refine Dp PassesOwn.never rfl ?_ (qC _ (zkA (by assumption) (by decide +kernel))) ?_ ?_
  |refine Kz _ (zkI (by assumption) _ (by decide +kernel)) (by assumption) ?_
  |refine KJ _ ?_
  |refine KG ?_ ?_ ?_
  |exact Dm
  |refine KC _ ?_ ?_ ?_
  |refine(vh _ (zkI (by assumption) _ (by decide +kernel)) (by assumption) (ud _ (by decide +kernel)) rfl ?_ (fun _ _ _ _ _ _=>?_) (fun _ _ _ _ _=>?_) (fun _ _ _ _ _=>?_)).2
  |refine(vh _ (zkI (by assumption) _ (by decide +kernel)) (by assumption) (ud _ (by decide +kernel)) rfl ?_ (fun _ _ _ _ _ _=>?_) (fun _ _ _ _ _=>?_) (fun _ _ _ _ _=>?_)).1
  |refine KI _ ?_
  |refine G3 _ _ (zkI (by assumption) _ (by decide +kernel)) (by assumption) PassesOwn.never rfl ?_ ?_
  |refine Ds _ ?_
  |refine Dk _ PassesOwn.never ?_ ?_
  |refine Nj _ (zkA (by assumption) (by decide +kernel)) ?_ ?_)
 |(show PLA _ _ _ _;first
  |refine DE ?_ ?_
  |exact Hc
  |refine DD _ ?_)
 |(show PWA _ _ _;first
  |refine pY ?_ ?_
  |exact yL)
 |(show PTD _ _ _;first
  |refine GY (Room.units (by assumption)) ?_ ?_
  |refine GX ?_
  |refine G0 (Room.units (by assumption)) ?_ ?_
  |refine Ku ?_ ?_
  |refine Kv ?_ ?_
  |refine Ks ?_ ?_
  |refine Dc ?_ ?_
  |refine GZ ?_ ?_
  |refine wZ ?_ ?_ ?_
  |refine Au ?_ ?_
  |refine Kt ?_ ?_
  |refine GW ?_
  |refine PWD.pt ?_)
 |(show PG _ _ _;first
  |exact pgN _ (by assumption)
  |refine KR rfl ?_)
 |(show PIQ _ _ _ _;first
  |refine DG ?_
  |refine Aw rfl xm ?_
  |refine DF ?_
  |refine Hg ?_
  |refine KN rfl xm ?_
  |refine Hf rfl xm ?_ ?_
  |refine Hh rfl xm ?_)
 |(show PWD _ _ _;first
  |refine Kc ?_ ?_
  |refine GF ?_
  |refine CQ ?_
  |refine GG ?_ ?_)
 |(show rD _ _ _;first
  |exact Hj
  |refine Hi ?_)
 |(show PLV _ _ _ _;first
  |refine Dv _ ?_
  |exact Ha
  |refine Dw _ ?_
  |refine Dx ?_ ?_)
 |(show PGs _ _ _;first
  |refine DJ ?_ ?_
  |exact Hl)
 |(show PV _ _ _;first
  |exact C8 _
  |refine Ar rfl xm boot_list ?_
  |refine GR ?_ ?_
  |refine C4 rfl xm ?_
  |exact GP _
  |refine C5 rfl xm rfl xm ?_
  |refine C6 ?_ ?_ ?_)
 |(show POD _ _ _;first
  |refine Dt ?_
  |exact Du)
 |(show PTW _ _ _;first
  |refine GU (Room.units (by assumption)) ?_ ?_
  |refine GT ?_
  |refine PWW.pt ?_)
 |(show PWW _ _ _;first
  |refine GE ?_ ?_
  |refine CP ?_)
 |(show BL _ _ _ _;first
  |exact Gv
  |refine Gw DP (fun _=>by kernel_rfl) (by kernel_rfl) (fun h=>vm PySem.F.plainAttrs_list PySem.F.slot_list_append PySem.F.type_list_append sJ (pvi _) (cD h gh)) ?_)
 |exact He _
 |exact gh
 |refine cD ?_ ?_
 |refine vm PySem.F.plainAttrs_list PySem.F.slot_list_append PySem.F.type_list_append sJ ?_ ?_
 |refine Hk _ ?_
 |refine KM ?_ xa
 |refine Nm ?_ ?_
 |exact pvi _
 |refine DI _ (CH.h (by assumption)) (by assumption) ?_
 |exact Hb
 |refine Dz _ ?_
 |refine Dy _ ?_
 |refine vm PySem.F.plainAttrs_list PySem.F.slot_list_extend PySem.F.type_list_extend AT ?_ ?_
 |refine K3 PySem.F.plainAttrs_list PySem.F.slot_list_clear PySem.F.type_list_clear Ec ?_)
instance:KA TB 0 1 aC "WatchCond" bX:=⟨fun c=>(dq c 0 0 [] d5).mak c⟩
instance:KA TB 0 1 a5 "BoxCond" bX:=⟨fun c=>(dq c 0 0 [] d5).mak c⟩
instance:KA TB 1 1 bO "Room" d6:=⟨fun c=>(dq c 1 0 [] gz).mak c⟩
instance:KA TB 2 1 bb "Door" d8:=⟨fun c=>(dq c 2 0 [] gA).mak c⟩
instance:MA TB 3 1 fX:=⟨fun c=>(dq c 3 0 [] iT).met c⟩
instance:MA TB 4 1 fB:=⟨fun c=>(dq c 4 0 [] ij).met c⟩
instance:MA TB 5 1 iM:=⟨fun c=>(dq c 5 0 [] kx).met c⟩
instance:HA TB 6 1 iI:=⟨fun c=>(dq c 6 0 [] kR).has⟩
instance:HA TB 7 1 kW:=⟨fun c=>(dq c 7 0 [] oj).has⟩
instance:HA TB 8 1 dC:=⟨fun c=>(dq c 8 0 ["digits","number"] kh).has⟩
instance:KA TB 9 1 ah "Words" dN:=⟨fun c=>(dq c 9 0 [] fP).mak c⟩
instance:MA TB 10 1 ao:=⟨fun c=>(dq c 10 0 [] ig).met c⟩
instance:MA TB 11 1 aL:=⟨fun c=>(dq c 11 0 [] dX).met c⟩
instance:KA TB 12 1 ak "Draft" cK:=⟨fun c=>(dq c 12 0 [] fR).mak c⟩
instance:MA TB 13 1 bH:=⟨fun c=>(dq c 13 0 [] eY).met c⟩
instance:MA TB 14 1 bV:=⟨fun c=>(dq c 14 0 [] eD).met c⟩
instance:MA TB 15 1 bz:=⟨fun c=>(dq c 15 0 [] fQ).met c⟩
instance:MA TB 16 1 bA:=⟨fun c=>(dq c 16 0 [] dI).met c⟩
instance:HA TB 17 1 ff:=⟨fun c=>(dq c 17 0 [] uM).has⟩
instance:HA TB 18 1 eE:=⟨fun c=>(dq c 18 0 [] jy).has⟩
instance:HA TB 19 1 eK:=⟨fun c=>(dq c 19 0 [] kU).has⟩
instance:HA TB 20 1 fg:=⟨fun c=>(dq c 20 0 [] jA).has⟩
instance:HA TB 21 1 aI:=⟨fun c=>(dq c 21 0 ["_law_number"] iE).has⟩
instance:HA TB 22 1 cz:=⟨fun c=>(dq c 22 0 [] iS).has⟩
instance:HA TB 23 1 dE:=⟨fun c=>(dq c 23 0 [] gd).has⟩
instance:HA TB 24 1 dM:=⟨fun c=>(dq c 24 0 ["_law_part","_law_box","_law_whole"] jB).has⟩
instance:HA TB 25 2 gR:=⟨fun c=>(dq c 25 1 ["told","number","door"] kT).has⟩
instance:MA TB 26 2 bp:=⟨fun c=>(dq c 26 1 [] jE).met c⟩
instance:MA TB 27 2 fu:=⟨fun c=>(dq c 27 1 [] ii).met c⟩
instance:HA TB 28 2 iH:=⟨fun c=>(dq c 28 1 ["told","three"] kg).has⟩
instance:HA TB 29 2 jF:=⟨fun c=>(dq c 29 1 ["boxes","told","three","number"] mf).has⟩
instance:HA TB 30 2 bF:=⟨fun c=>(dq c 30 1 ["_law_name_here","_law_k","_law_some"] kq).has⟩
instance:HA TB 31 2 gf:=⟨fun c=>(dq c 31 1 ["_law_which","_law_sign"] iF).has⟩
instance:HA TB 32 2 dJ:=⟨fun c=>(dq c 32 1 ["_law_stays_here","_law_k","_law_watch","_law_strict"] eW).has⟩
instance:HA TB 33 2 gO:=⟨fun c=>(dq c 33 1 ["_law_deeds_here","_law_k","_law_which","_law_sign","_law_number"] jD).has⟩
instance:HA TB 34 2 dL:=⟨fun c=>(dq c 34 1 [] gK).has⟩
instance:HA TB 35 2 cU:=⟨fun c=>(dq c 35 1 ["_law_row"] gv).has⟩
instance:HA TB 36 2 cV:=⟨fun c=>(dq c 36 1 ["_law_row"] gw).has⟩
instance:HA TB 37 2 gM:=⟨fun c=>(dq c 37 1 ["_law_found","_law_due","_law_part"] jz).has⟩
instance:KA TB 38 3 aG "Net" dF:=⟨fun c=>(dq c 38 2 [] ik).mak c⟩
instance:HA TB 39 3 i6:=⟨fun c=>(dq c 39 2 ["against"] kS).has⟩
instance:MA TB 40 3 bo:=⟨fun c=>(dq c 40 2 ["word"] eX).met c⟩
instance:MA TB 41 3 ba:=⟨fun c=>(dq c 41 2 ["number"] dS).met c⟩
instance:MA TB 42 3 cF:=⟨fun c=>(dq c 42 2 ["told","more","three"] dR).met c⟩
instance:HA TB 43 3 eZ:=⟨fun c=>(dq c 43 2 ["name"] jx).has⟩
instance:HA TB 44 3 fj:=⟨fun c=>(dq c 44 2 [] gL).has⟩
instance:HA TB 45 3 iK:=⟨fun c=>(dq c 45 2 ["_law_name_here"] ko).has⟩
instance:HA TB 46 3 eJ:=⟨fun c=>(dq c 46 2 ["_law_rows_here","_law_watches","_law_boxes","_law_machines","_law_name_here","_law_rooms","_law_doors"] kn).has⟩
instance:HA TB 47 4 dD:=⟨fun c=>(dq c 47 3 ["name"] me).has⟩
instance:HA TB 48 4 bN:=⟨fun c=>(dq c 48 3 [] eV).has⟩
instance:HA TB 49 4 bP:=⟨fun c=>(dq c 49 3 [] fV).has⟩
instance:HA TB 50 4 cr:=⟨fun c=>(dq c 50 3 ["told"] iR).has⟩
instance:HA TB 51 4 iL:=⟨fun c=>(dq c 51 3 ["_law_start","_law_goal","_law_weather","_law_word","_law_conds_here"] kr).has⟩
instance:HA TB 52 4 eI:=⟨fun c=>(dq c 52 3 [] km).has⟩
instance:HA TB 53 5 iJ:=⟨fun c=>(dq c 53 4 [] kj).has⟩
instance:HA TB 54 5 kX:=⟨fun c=>(dq c 54 4 ["name","low","high"] oq).has⟩
instance:HA TB 55 5 dY:=⟨fun c=>(dq c 55 4 [] fW).has⟩
instance:HA TB 56 5 jG:=⟨fun c=>(dq c 56 4 ["name","price","hurry","stays"] mh).has⟩
instance:HA TB 57 5 jH:=⟨fun c=>(dq c 57 4 ["start","goal","weather","word","price","conds","threes","resets","deeds","machine"] ml).has⟩
instance:HA TB 58 5 jI:=⟨fun c=>(dq c 58 4 ["_law_taken","_law_watches","_law_boxes","_law_k","_law_machines","_law_words","_law_low","_law_high","_law_name_here","_law_inside","_law_rooms","_law_many"] mq).has⟩
instance:HA TB 59 6 i7:=⟨fun c=>(dq c 59 5 ["kind"] ol).has⟩
instance:HA TB 60 6 cQ:=⟨fun c=>(dq c 60 5 [] jC).has⟩
instance:HA TB 61 7 cy:=⟨fun c=>(dq c 61 6 ["rows","draft","number","row"] md).has⟩
def facts {l:W.OpenLaw} {w:World} {K:ZB} {h:Heap} {mg:Str->Yg Yc} {fa:Ye} (e:TB.F K=TB.E) (X:K.In h) (G:h.Ns mainGlobals mg) (f:mg "law" = some (.ref fa)) :
 ∃fd:FuncData,(∀(s:Yd) (v:Yc),BindsTo s fd ⟨[v],[]⟩ [("_law_script",v)])/\∀base:Heap,K.In base->base.Ns mainGlobals mg->i8 l.prog w K mg base CX0 8 fa fd ["_law_script"] (spLaw K):=by
 have:=Hq.Tab.ctx e X G;exact Hq.root this 62 7 ["_law_nets","_law_texts","_law_told","_law_turn","_law_k"] JM rfl f rfl ⟨rfl,rfl,rfl,by decide +kernel,rfl,by decide +kernel,by decide +kernel⟩ (fun _ _ _ _ _ _ s v=>.of_eq rfl) Ei fun base=>by intros;repeat' trivial
end
end
end Mine
open PySem PySem.W PyProof.Rows
set_option maxRecDepth 100000 in
set_option maxHeartbeats 0 in
theorem PySem.Challenge.cw_watchyard_k31_read_and_shown_holds : PySem.Challenge.rw_watchyard_k31_read_and_shown.Holds := by
 w_on;refine holds_law Mine.said fun said=>?_
 refine holds_open (q:=Mine.VW) (loose:=Mine.LO) (Xt:=Mine.XT) (XP:=XL Mine.VW []) (Yf:=Hook.obs Mine.HK) (Ya:=Hook.val Mine.HK) (YP:=Hook.says Mine.HK) (N:=9842) Mine.left (Hook.of Mine.HK) (Hook.keeps Mine.HK) (fun s e=>xl_of s (Bool.and_eq_true_iff.mp e).1) XL.keeps (by rfl) (by rfl) (by rfl) (fun s e=>recFacts_of (Bool.and_eq_true_iff.mp e).2) (by rfl) (by first|assumption|decide +kernel) (by decide +kernel) ⟨rfl,rfl,rfl,rfl,rfl,by decide +kernel⟩ ?hw ?hc
 (case hw=>w_witness2)
 exact Hd.walkE (l:=PySem.Challenge.rw_watchyard_k31_read_and_shown) (n:=63) (k:=8) (x:="_law_script") (T:=fun K=>Mine.TB.F K=Mine.TB.E) (sp:=fun K=>Dl.spLaw K) rfl (by decide) rfl ⟨rfl,by decide,by decide⟩ (fun _ _ Y=>Y) (fun _ _ _ _ _ e X G h=>Mine.facts e X G h) fun _ _ a ns hl _ hS=>⟨a,ns,rfl,hS,hl,fun _=>rfl⟩
