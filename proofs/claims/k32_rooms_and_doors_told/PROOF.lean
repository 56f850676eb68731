import PyProof.Rows.All
import Wide.All
import OpenK.AllK
import Wide.FinOn
import Lean
import PyProof.EqAt
import PyProof.EqKinds
import PyProof.TupleCall
import PyProof.NeKinds
import KE.IntBitsLaws
import KE.KUnpack
import KE.LcSums
import PyProof.ConsumeWalk
import PyProof.DictWalks
import PyProof.Rows.DictUnroll
import PyProof.Rows.SetFrom
import PyProof.Rows.SortShell
import PyProof.Rows.SortWalk
import PyProof.MeetsIn
import PyProof.CollectWalk
import KE.KDictSum
import PyProof.SetRoads
import PyProof.Rows.Range3
import PyProof.Draws
import PyProof.EnumStmt
import PyProof.EnumFor
import PyProof.Walk
import PyProof.WalkLemmas
import PyProof.AutoSeq1
import PyProof.RaisesAny
import PyProof.ZipIter
import KE.BitLaws
import PyProof.SumWalkG
import PyProof.ListRange
import PyProof.StrCalls2
import KE.KIntText
import PyProof.StrWalks
import PyProof.SliceStr2
import KE.KSortTup
import PyProof.Rows.SortRunsK
import KE.IntText
import KE.KDictOf
import PyProof.Rows.TupTab
import PyProof.DictFindH
import PyProof.AttrMissSeq
import PyProof.DictKinds
import PyProof.EnumMake
import PyProof.Rows.CallKwBuiltin
import PyProof.StrLawsTight
import PyProof.StrLawsChain
import PyProof.StrLawsIn
import PyProof.StrBlockL
import KE.IntTextLaws
import PySem.Challenge.RW_watchyard_k32_rooms_and_doors_told
set_option Elab.async false
set_option linter.all false
set_option maxRecDepth 100000
set_option maxHeartbeats 4000000
namespace Xx
variable{α β γ ε ζ:Sort _}{G:Prop}
theorem x03{P Q R:Prop}(h:P/\Q/\R)(k:P->Q->R->G):G:=by obtain⟨a,b,c⟩:=h;exact k a b c
theorem x04{P Q R S:Prop}(h:P/\Q/\R/\S)(k:P->Q->R->S->G):G:=by obtain⟨a,b,c,d⟩:=h;exact k a b c d
theorem x05{P Q R S T:Prop}(h:P/\Q/\R/\S/\T)(k:P->Q->R->S->T->G):G:=by obtain⟨a,b,c,d,e⟩:=h;exact k a b c d e
theorem x06{P Q R S T U:Prop}(h:P/\Q/\R/\S/\T/\U)(k:P->Q->R->S->T->U->G):G:=by obtain⟨a,b,c,d,e,f⟩:=h;exact k a b c d e f
theorem x12{P Q:α->Prop}(h:∃x,P x/\Q x)(k:∀x,P x->Q x->G):G:=by obtain⟨x,a,b⟩:=h;exact k x a b
theorem x13{P Q R:α->Prop}(h:∃x,P x/\Q x/\R x)(k:∀x,P x->Q x->R x->G):G:=by obtain⟨x,a,b,c⟩:=h;exact k x a b c
theorem x14{P Q R S:α->Prop}(h:∃x,P x/\Q x/\R x/\S x)(k:∀x,P x->Q x->R x->S x->G):G:=by obtain⟨x,a,b,c,d⟩:=h;exact k x a b c d
theorem x15{P Q R S T:α->Prop}(h:∃x,P x/\Q x/\R x/\S x/\T x)(k:∀x,P x->Q x->R x->S x->T x->G):G:=by obtain⟨x,a,b,c,d,e⟩:=h;exact k x a b c d e
theorem x21{P:α->β->Prop}(h:∃x y,P x y)(k:∀x y,P x y->G):G:=by obtain⟨x,y,a⟩:=h;exact k x y a
theorem x22{P Q:α->β->Prop}(h:∃x y,P x y/\Q x y)(k:∀x y,P x y->Q x y->G):G:=by obtain⟨x,y,a,b⟩:=h;exact k x y a b
theorem x23{P Q R:α->β->Prop}(h:∃x y,P x y/\Q x y/\R x y)(k:∀x y,P x y->Q x y->R x y->G):G:=by obtain⟨x,y,a,b,c⟩:=h;exact k x y a b c
theorem x24{P Q R S:α->β->Prop}(h:∃x y,P x y/\Q x y/\R x y/\S x y)(k:∀x y,P x y->Q x y->R x y->S x y->G):G:=by obtain⟨x,y,a,b,c,d⟩:=h;exact k x y a b c d
theorem x25{P Q R S T:α->β->Prop}(h:∃x y,P x y/\Q x y/\R x y/\S x y/\T x y)(k:∀x y,P x y->Q x y->R x y->S x y->T x y->G):G:=by obtain⟨x,y,a,b,c,d,e⟩:=h;exact k x y a b c d e
theorem x26{P Q R S T U:α->β->Prop}(h:∃x y,P x y/\Q x y/\R x y/\S x y/\T x y/\U x y)(k:∀x y,P x y->Q x y->R x y->S x y->T x y->U x y->G):G:=by obtain⟨x,y,a,b,c,d,e,f⟩:=h;exact k x y a b c d e f
theorem x31{P:α->β->γ->Prop}(h:∃x y z,P x y z)(k:∀x y z,P x y z->G):G:=by obtain⟨x,y,z,a⟩:=h;exact k x y z a
theorem x32{P Q:α->β->γ->Prop}(h:∃x y z,P x y z/\Q x y z)(k:∀x y z,P x y z->Q x y z->G):G:=by obtain⟨x,y,z,a,b⟩:=h;exact k x y z a b
theorem x33{P Q R:α->β->γ->Prop}(h:∃x y z,P x y z/\Q x y z/\R x y z)(k:∀x y z,P x y z->Q x y z->R x y z->G):G:=by obtain⟨x,y,z,a,b,c⟩:=h;exact k x y z a b c
theorem x34{P Q R S:α->β->γ->Prop}(h:∃x y z,P x y z/\Q x y z/\R x y z/\S x y z)(k:∀x y z,P x y z->Q x y z->R x y z->S x y z->G):G:=by obtain⟨x,y,z,a,b,c,d⟩:=h;exact k x y z a b c d
theorem x35{P Q R S T:α->β->γ->Prop}(h:∃x y z,P x y z/\Q x y z/\R x y z/\S x y z/\T x y z)(k:∀x y z,P x y z->Q x y z->R x y z->S x y z->T x y z->G):G:=by obtain⟨x,y,z,a,b,c,d,e⟩:=h;exact k x y z a b c d e
theorem x42{P Q:α->β->γ->ε->Prop}(h:∃x y z u,P x y z u/\Q x y z u)(k:∀x y z u,P x y z u->Q x y z u->G):G:=by obtain⟨x,y,z,u,a,b⟩:=h;exact k x y z u a b
theorem x43{P Q R:α->β->γ->ε->Prop}(h:∃x y z u,P x y z u/\Q x y z u/\R x y z u)(k:∀x y z u,P x y z u->Q x y z u->R x y z u->G):G:=by obtain⟨x,y,z,u,a,b,c⟩:=h;exact k x y z u a b c
theorem x44{P Q R S:α->β->γ->ε->Prop}(h:∃x y z u,P x y z u/\Q x y z u/\R x y z u/\S x y z u)(k:∀x y z u,P x y z u->Q x y z u->R x y z u->S x y z u->G):G:=by obtain⟨x,y,z,u,a,b,c,d⟩:=h;exact k x y z u a b c d
theorem x45{P Q R S T:α->β->γ->ε->Prop}(h:∃x y z u,P x y z u/\Q x y z u/\R x y z u/\S x y z u/\T x y z u)(k:∀x y z u,P x y z u->Q x y z u->R x y z u->S x y z u->T x y z u->G):G:=by obtain⟨x,y,z,u,a,b,c,d,e⟩:=h;exact k x y z u a b c d e
theorem x46{P Q R S T U:α->β->γ->ε->Prop}(h:∃x y z u,P x y z u/\Q x y z u/\R x y z u/\S x y z u/\T x y z u/\U x y z u)(k:∀x y z u,P x y z u->Q x y z u->R x y z u->S x y z u->T x y z u->U x y z u->G):G:=by obtain⟨x,y,z,u,a,b,c,d,e,f⟩:=h;exact k x y z u a b c d e f
theorem x53{P Q R:α->β->γ->ε->ζ->Prop}(h:∃x y z u v,P x y z u v/\Q x y z u v/\R x y z u v)(k:∀x y z u v,P x y z u v->Q x y z u v->R x y z u v->G):G:=by obtain⟨x,y,z,u,v,a,b,c⟩:=h;exact k x y z u v a b c
theorem x54{P Q R S:α->β->γ->ε->ζ->Prop}(h:∃x y z u v,P x y z u v/\Q x y z u v/\R x y z u v/\S x y z u v)(k:∀x y z u v,P x y z u v->Q x y z u v->R x y z u v->S x y z u v->G):G:=by obtain⟨x,y,z,u,v,a,b,c,d⟩:=h;exact k x y z u v a b c d
theorem x55{P Q R S T:α->β->γ->ε->ζ->Prop}(h:∃x y z u v,P x y z u v/\Q x y z u v/\R x y z u v/\S x y z u v/\T x y z u v)(k:∀x y z u v,P x y z u v->Q x y z u v->R x y z u v->S x y z u v->T x y z u v->G):G:=by obtain⟨x,y,z,u,v,a,b,c,d,e⟩:=h;exact k x y z u v a b c d e
theorem x56{P Q R S T U:α->β->γ->ε->ζ->Prop}(h:∃x y z u v,P x y z u v/\Q x y z u v/\R x y z u v/\S x y z u v/\T x y z u v/\U x y z u v)(k:∀x y z u v,P x y z u v->Q x y z u v->R x y z u v->S x y z u v->T x y z u v->U x y z u v->G):G:=by obtain⟨x,y,z,u,v,a,b,c,d,e,f⟩:=h;exact k x y z u v a b c d e f
end Xx
open Xx
local macro_rules | `(tactic| obtain ⟨$ps:rcasesPatLo,*⟩ := $e:term) => do
  let mut xs : Array (Lean.TSyntax `term) := #[]
  let mut post : Array (Lean.TSyntax `tactic) := #[]
  let mut i := 0
  for p in ps.getElems do
    i := i + 1
    let z := Lean.mkIdent (← Lean.Macro.addMacroScope (.mkSimple s!"z{i}"))
    let m := p.raw[0]
    let q := m[0][0]
    if m[0].getNumArgs == 1 && q.isOfKind `Lean.Parser.Tactic.rcasesPat.one then
      if q[0].getId == `rfl then
        xs := xs.push z
        post := post.push (← `(tactic| subst $z:ident))
      else xs := xs.push ⟨q[0]⟩
    else if m[0].getNumArgs == 1 && q.isOfKind `Lean.Parser.Tactic.rcasesPat.ignore then xs := xs.push (← `(_))
    else
      xs := xs.push z
      post := post.push (← `(tactic| obtain $(⟨m⟩):rcasesPatMed := $z:ident))
  let n := xs.size
  if n < 3 || n > 11 || (e.raw.isIdent && (!post.isEmpty || xs.any (·.raw.getId == e.raw.getId))) then Lean.Macro.throwUnsupported
  let tl ← if post.isEmpty then `(tactic| skip) else `(tactic| ($[$post];*))
  let mut r ← `(tactic| rcases $e:term with ⟨$ps,*⟩)
  for j in [0:n] do
    let d := n - j
    if j <= 5 && d <= 6 then
      let f := Lean.mkIdent (.mkSimple s!"x{j}{d}")
      r ← `(tactic| first | (refine $f:ident $e fun $xs* => ?_; $tl) | ($r:tactic))
  return r
theorem Xx.n1 {α : Type _} {x : α} {G : Prop} (h : none = some x) : G := nomatch h
theorem Xx.i1 {α : Type _} {x y : α} (h : some x = some y) : x = y := Option.some.inj h
local macro_rules | `(tactic| cases $h:ident) => `(tactic| first | exact n1 $h | (have z := i1 $h; subst z) | subst $h | cases ($h))
noncomputable section
section
open PySem PySem.Spec PyProof.Rows PySem.W
noncomputable abbrev Za:=@Option.bind_eq_some_iff
noncomputable abbrev Zb:=@Option.map_eq_some_iff
noncomputable abbrev Zc:=@Option.bind_some
noncomputable abbrev Zd:=@List.getElem?_cons_zero
noncomputable abbrev Ze:=@List.getElem?_cons_succ
noncomputable abbrev Zf:=@List.set_cons_zero
noncomputable abbrev Zg:=@List.set_cons_succ
noncomputable abbrev Zh:=@List.cons_append
noncomputable abbrev Zi:=@List.nil_append
noncomputable abbrev Zj:=@List.append_nil
noncomputable abbrev Zk:=@List.length_append
noncomputable abbrev Zl:=@List.length_map
noncomputable abbrev Zm:=@List.length_cons
noncomputable abbrev Zn:=@List.length_nil
noncomputable abbrev Zo:=@List.mem_cons_self
noncomputable abbrev Zp:=@List.mem_cons_of_mem
noncomputable abbrev Zq:=@List.mem_singleton
noncomputable abbrev Zr:=@List.mem_map
noncomputable abbrev Zs:=@List.mem_append
noncomputable abbrev Zt:=@List.mem_cons
noncomputable abbrev Zu:=@List.map_cons
noncomputable abbrev Zv:=@List.map_nil
noncomputable abbrev Zw:=@List.map_append
noncomputable abbrev Zx:=@List.getElem?_eq_getElem
noncomputable abbrev Zy:=@List.nodup_nil
noncomputable abbrev Zz:=@beq_self_eq_true
noncomputable abbrev ZA:=@W.Frag
noncomputable abbrev ZB:=@Bool.false_ne_true
noncomputable abbrev ZC:=@Nat.lt_of_lt_of_le
noncomputable abbrev ZD:=@List.mem_append_right
noncomputable abbrev ZE:=@List.mem_append_left
noncomputable abbrev ZF:=@List.size_toArray
noncomputable abbrev ZG:=@Option.some.inj
noncomputable abbrev ZH:=@List.not_mem_nil
noncomputable abbrev ZI:=@Nat.ne_of_lt
noncomputable abbrev ZJ:=@Nat.lt_irrefl
noncomputable abbrev ZK:=@List.getElem?_map
noncomputable abbrev ZL:=@List.getElem?_eq_some_iff
noncomputable abbrev ZM:=@Nat.le_refl
noncomputable abbrev ZN:=@Bool.and_eq_true
noncomputable abbrev ZP:=@List.take_succ_cons
noncomputable abbrev ZQ:=@List.replicate_zero
noncomputable abbrev ZR:=@Bool.false_eq_true
noncomputable abbrev ZS:=@Heap.get?_push_of_some
noncomputable abbrev ZT:=@Heap.lt_size
noncomputable abbrev ZU:=@List.replicate_succ
noncomputable abbrev ZV:=@List.append_assoc
noncomputable abbrev ZW:=@Heap.get?_push_size
noncomputable abbrev ZX:=@Prod.mk.inj
noncomputable abbrev ZY:=@Nat.le_trans
noncomputable abbrev ZZ:=@Int.eq_ofNat_of_zero_le
noncomputable abbrev Z0:=@List.nodup_append
noncomputable abbrev Z1:=@List.nodup_cons
noncomputable abbrev Z2:=@wpAny_bind
noncomputable abbrev Z3:=@wpAny_pure
noncomputable abbrev Z4:=@wpS_bind
noncomputable abbrev Z5:=@wpS_pure
noncomputable abbrev Z6:=@if_true
noncomputable abbrev Z7:=@of_decide_eq_true
noncomputable abbrev Z8:=@congrArg
noncomputable abbrev Z9:=@False.elim
noncomputable abbrev Yb:=@Value
noncomputable abbrev Yc:=@Shared
noncomputable abbrev Yd:=@Addr
noncomputable abbrev Ye:=@Option
noncomputable abbrev Yg:=@List
end
namespace L2
open PySem PySem.Spec PyProof.Rows
noncomputable def IR(s:Stmt)(j:Nat):Stmt:=match s with
 |.ClassDef _ _ _ body _ _ _ _ _ _ _=>body.getD j (.Pass ⟨0,0,0,0⟩)
 |_=>.Pass ⟨0,0,0,0⟩
noncomputable def eV(s:Stmt):Arguments:=match s with
 |.FunctionDef _ a _ _ _ _ _ _ _ _=>a
 |_=>{ posonlyargs:=[],args:=[],vararg:=none,kwonlyargs:=[],kw_defaults:=[],kwarg:=none,defaults:=[] }
noncomputable def cB(s:Stmt):List Stmt:=match s with
 |.FunctionDef _ _ b _ _ _ _ _ _ _=>b
 |_=>[]
noncomputable def aU(s:Stmt):Scope:=match s with
 |.FunctionDef _ _ _ _ _ _ sc _ _ _=>sc
 |_=>{ kind:=.function,names:=[],isGenerator:=false,isCoroutine:=false }
end L2
namespace Hd
open PySem PySem.Spec PyProof.Rows L2 PySem.W
variable {l:W.OpenLaw} {q:Program} {loose:Yg Str} {Xt:Yc->Bool} {ann:Ye Yb}
def Kof(as:List Addr)(h:Heap):ZA:=as.filterMap fun a=>(h.get? a).map fun o=>(a,o)
theorem yN:∀as h,(Kof as h).In h
 |[],h,a,o,e=>by cases e
 | b :: r,h,a,o,e=>by
  unfold Kof at e;rw[List.filterMap_cons]at e;cases j:h.get? b with
  |none=>rw[j]at e;exact yN r h a o e
  |some o' =>
   rw[j]at e;change List.lookup a ((b,o')::Kof r h)=some o at e;rw[List.lookup_cons]at e;cases f:a==b with
   |true=>rw[f]at e;cases e;rw[beq_iff_eq.mp f];exact j
   |false=>rw[f]at e;exact yN r h a o e
def hk{α:Type}(as:List Addr)(F:ZA->α)(v:α):W.Hook where
 α:=α
 obs:=fun s=>F (Kof as s.heap)
 val:=fun _=>v
 says:=fun _ h=>∃K:ZA,K.In h/\F K=v
 of:=fun _ s e=>⟨_,yN as s.heap,e⟩
 keeps:=fun _ _ _ x k=>Exists.elim x fun K y=>⟨K,y.1.keeps k,y.2⟩
theorem left_one{p}{α:Type}{Yf}{Ya:World->α}{N}{g0}{m₀} 
 (e:opening p=plainProg p.main.scope.names) (B:Nat.ble 600 N=true) (f:∀s,fenceModules? p s=some s)
 (o:∀w:World,((boot_heap w.params).isNs mainGlobals,(boot_heap w.params).objs.size,(boot_heap w.params).nsMap mainGlobals "__annotations__")=(true,m₀,ann))
 (AT:∀(w:World)(m:OsState),(topRun treeTable p w m₀ ann N ⟨boot_heap w.params,Array.mk [],boot_drawn,boot_toks,m⟩ (topStub p)).map (fun s=>((staticsOk (importedModules p.main.body) (boot_heap w.params) s.heap&&namesBound p s.heap&&gensDone s&&laidKept (boot_heap w.params) s.heap),Yf s))=some (true,Ya w))
 (u:∀(w:World)(m:OsState),(topRun treeTable p w m₀ ann N ⟨boot_heap w.params,Array.mk [],boot_drawn,boot_toks,m⟩ (topStub p)).map (fun s=>openSeen q loose (importedModules p.main.body) Xt g0 s)=some (openGood q loose)):LeftO p q loose Xt Yf Ya N g0:=fun w=>by
 obtain⟨⟨h,C,d,k,m⟩,e,v⟩:=Zb.mp (boot_open e B f w);obtain⟨rfl,v⟩:=ZX v;obtain⟨rfl,v⟩:=ZX v;obtain⟨rfl,rfl⟩:=ZX v;obtain⟨z1,z2⟩:=ZX (o w);obtain⟨z2,z3⟩:=ZX z2;obtain⟨j,r,l⟩:=Zb.mp (AT w m);obtain⟨z,y⟩:=ZX l;have x:=u w m;rw[r]at x;have t:topFrom treeTable p w N ⟨boot_heap w.params,Array.mk [],boot_drawn,boot_toks,m⟩=some j:=by
  unfold topFrom;rw[z1,z2,z3];rw[r];show(match staticsOk (importedModules p.main.body) (boot_heap w.params) j.heap&&namesBound p j.heap&&gensDone j&&laidKept (boot_heap w.params) j.heap with|true=>_|false=>_)=_
  rw[z]
 unfold openEnds;rw[e];show((topFrom treeTable p w N _).map _)=_;rw[t];exact Z8 some (Prod.ext (ZG x) y)
end Hd
namespace Hq
open PySem PySem.Spec PyProof.Rows L2 PySem.W
variable {K:Frag} {x:Str} {f C:Yd}
abbrev FR:=Option (Str×Str×Arguments×FuncBody×Scope×Addr×List (Str×Addr)×Value×Addr×Bool)
noncomputable def fr(K:Frag)(q:Str)(f:Addr):FR:=match K.lookup f with
 |some ⟨_,_,.func d,_⟩=>some (d.name,d.qualname,d.params,d.body,d.scope,d.globals,d.closure,d.defaults,d.builtins,codeIn K d.code q)
 |_=>none
def fq(x q:Str)(st:Stmt):FR:=some (x,q,eV st,FuncBody.stmts (cB st),aU st,mainGlobals,[],.none,builtinsNs,true)
noncomputable def cv (K:Frag) (C:Addr):=(plainGet K C Str.empty,hasDictIn K C,plainOver K C,findIn K (.ref C) "__setattr__")
noncomputable def ce:Bool×Bool×Bool×Option (Option Value):=(true,true,true,some (some (.builtin "object.__setattr__")))
noncomputable def kv (K:Frag) (C:Addr) (x:Str) (f:Addr):=(makesIn K C,keepIn K (.ref C),nsIn K mainGlobals x,findIn K (.ref C) "__init__",isFn K (.ref f))
noncomputable def ke(C f:Addr):Bool×Bool×Option (Option Value)×Option (Option Value)×Bool:=(true,true,some (some (.ref C)),some (some (.ref f)),true)
noncomputable def iv (K:Frag) (C:Addr):=(findIn K (.ref C) "__class__",specialIn K (.builtin "object.__class__") "__get__",takesIn K (.builtin "object.__class__"),mroIn K C (.type "object"),findIn K (.ref C) "__eq__")
noncomputable def ie:Option (Option Value)×Option (Option Value)×Option Bool×Option Bool×Option (Option Value):=(some (some (.builtin "object.__class__")),some (some (.builtin "getset_descriptor.__get__")),some true,some true,some (some (.builtin "object.__eq__")))
noncomputable def Mn(K:Frag)(x:Str):Option Int:=match nsIn K mainGlobals x with
 |some (some (.int i _))=>some i
 |_=>none
noncomputable def Kt(K:Frag)(x:Str):Option Str:=match nsIn K mainGlobals x with
 |some (some (.str i _))=>some i
 |_=>none
noncomputable def CV:List Value->Option (List Str)
 |[]=>some []
 |.str x _::r=>(CV r).map (x::·)
 |_::_=>none
noncomputable def Kp(K:Frag)(x:Str):Option (List Str):=match nsIn K mainGlobals x with
 |some (some (.ref c))=>match K.lookup c with
  |some ⟨.type "tuple",_,.seq Q1 _,_⟩=>if Q1.size<=sizeLine then CV Q1.toList else none
  |_=>none
 |_=>none
noncomputable abbrev De:=Addr×Str×Str×Addr×Stmt
abbrev dd(C:Addr)(x q:Str)(f:Addr)(s:Stmt):De:=(C,x,q,f,s)
structure Tab where
 ds:List De
 cs:List Addr
 ks:List (Addr×Str×Addr)
 ies:List Addr
 is:List (Addr×Addr×Bool)
 ns:List (Str×Addr)
 ats0:List (Str×List Addr)
 vi:List (Str×Int)
 vs:List (Str×Str)
 vt:List (Str×List Str)
 bs:List Str
noncomputable def Tab.ats(T:Tab):List (Addr×Str):=T.ats0.flatMap fun r=>r.2.map fun C=>(C,r.1)
def mE{α β:Type}(g:α->β):List α->List β
 |[]=>[]
 |a::l=>g a::mE g l
def dv(K:Frag)(d:De):=(if d.1=0 then nsIn K mainGlobals d.2.1 else findIn K (.ref d.1) d.2.1,isFn K (.ref d.2.2.2.1),keepIn K (.ref d.2.2.2.1),fr K d.2.2.1 d.2.2.2.1)
def de(d:De):=(some (some (Value.ref d.2.2.2.1)),true,true,fq d.2.1 d.2.2.1 d.2.2.2.2)
def Tab.F(T:Tab)(K:Frag):=(T.ds.map (dv K),T.cs.map (cv K),T.ks.map (fun r=>kv K r.1 r.2.1 r.2.2),T.ies.map (iv K),T.is.map (fun r=>kitOne K (.ref r.1) (.ref r.2.1)),T.ns.map (fun r=>nsIn K mainGlobals r.1),T.ats.map (fun r=>findIn K (.ref r.1) r.2),T.vi.map (fun r=>Mn K r.1),T.vs.map (fun r=>Kt K r.1),T.vt.map (fun r=>Kp K r.1),T.bs.map (nsIn K mainGlobals))
def Tab.E(T:Tab):=(mE de T.ds,mE (fun _=>ce) T.cs,mE (fun r=>ke r.1 r.2.2) T.ks,mE (fun _=>Hq.ie) T.ies,mE (fun r=>some r.2.2) T.is,mE (fun r=>some (some (Value.ref r.2))) T.ns,mE (fun _=>(some none:Option (Option Value))) T.ats,mE (fun r=>some r.2) T.vi,mE (fun r=>some r.2) T.vs,mE (fun r=>some r.2) T.vt,mE (fun _=>(some none:Option (Option Value))) T.bs)
end Hq
namespace Ht
open PySem PySem.W
variable {p:Program} {ann:Ye Yb} {Xt:Yc->Bool}
noncomputable def goT(stp:SharedT->Thread->Option (SharedT×Thread))(ok:Thread->Bool):Nat->SharedT->Thread->Option SharedT
 |0,_,_=>none
 | n+1,s,t=>match through t with
  |true=>some s
  | false=>match ok t with
   |false=>none
   |true=>match stp s t with
    |some x=>goT stp ok n x.1 x.2
    |none=>none
theorem zQ{tb}{w}{n₀}:∀n s t s',goT (stepT (denote tb) p w) (stepOk n₀ ann) n s t=some s'->topRun tb p w n₀ ann n s.abs t=some s'.abs
 |0,_,_,_,h=>by cases h
 | n+1,s,t,s',h=>by
  unfold goT at h;unfold topRun;cases l:through t with
  |true=>rw[l]at h;cases h;rfl
  | false =>
   rw[l]at h;cases j:stepOk n₀ ann t with
   |false=>rw[j]at h;cases h
   |true =>
    rw[j]at h;cases f:stepT (denote tb) p w s t with
    |none=>rw[f]at h;cases h
    |some x =>rw[f]at h;obtain⟨o,m⟩:=x;rw[stepT_spec f];exact zQ n o m s' h
noncomputable def tr(os:List Obj)(fuel a b:Nat):BT:=match fuel with
 |0=>.nil
 |f+1=>match os[b]? with
  |some o=>.node o (tr os f (2*a) (a+b)) (tr os f (2*a) (2*a+b))
  |none=>.nil
noncomputable def S0(w:World)(os:OsState):SharedT:=⟨tr (boot_heap w.params).objs.toList 10 1 0,11,(boot_heap w.params).life,Array.mk [],boot_drawn,boot_toks,os⟩
theorem M5(w) (os):(S0 w os).abs=⟨boot_heap w.params,Array.mk [],boot_drawn,boot_toks,os⟩:=by kernel_rfl
theorem Dc{N}{α:Type}{f:World->Yc->α}{v:World->α}(r:∀w j,(goT (stepT (denote treeTable) p w) (stepOk 11 ann) N (S0 w j) (topStub p)).map (fun s=>f w s.abs)=some (v w))(w) (j) :
 (topRun treeTable p w 11 ann N ⟨boot_heap w.params,Array.mk [],boot_drawn,boot_toks,j⟩ (topStub p)).map (f w)=some (v w):=by
 obtain⟨s,e,h⟩:=Zb.mp (r w j);have z:=zQ N _ _ s e;rw[M5]at z;rw[z];exact Z8 some h
noncomputable def goU(stp:SharedT->Thread->Option (SharedT×Thread)):Nat->SharedT->Thread->Option SharedT
 |0,_,_=>none
 | n+1,s,t=>match through t with
  |true=>some s
  |false=>match stp s t with
   |some x=>goU stp n x.1 x.2
   |none=>none
theorem Fg{stp ok}:∀n s t s',goT stp ok n s t=some s'->goU stp n s t=some s'
 |0,_,_,_,h=>by cases h
 | n+1,s,t,s',h=>by
  unfold goT at h;unfold goU;cases l:through t with
  |true=>rw[l]at h;exact h
  | false =>
   rw[l]at h;cases j:ok t with
   |false=>rw[j]at h;cases h
   |true =>
    rw[j]at h;cases f:stp s t with
    |none=>rw[f]at h;cases h
    |some x=>rw[f]at h;exact Fg n _ _ s' h
noncomputable def gu(p:Program)(N:Nat)(w:World)(os:OsState):=goU (stepT (denote treeTable) p w) N (S0 w os) (topStub p)
noncomputable def sn(p q:Program)(loose:List Str)(Xt:Shared->Bool)(g0:Bool)(s:SharedT):=openSeen q loose (importedModules p.main.body) Xt g0 s.abs
theorem left_of{q:Program}{loose:Yg Str}{α:Type}{Yf}{Ya:World->α}{N:Nat}{x:Bool} 
 (e:opening p=plainProg p.main.scope.names) (B:Nat.ble 600 N=true) (f:∀s,fenceModules? p s=some s)
 (l:∀w:World,((boot_heap w.params).isNs mainGlobals,(boot_heap w.params).objs.size,(boot_heap w.params).nsMap mainGlobals "__annotations__")=(true,11,ann))
 (AT:∀(w:World)(j:OsState),(goT (stepT (denote treeTable) p w) (stepOk 11 ann) N (S0 w j) (topStub p)).map (fun s=>((staticsOk (importedModules p.main.body) (boot_heap w.params) s.abs.heap&&namesBound p s.abs.heap&&gensDone s.abs&&laidKept (boot_heap w.params) s.abs.heap),Yf s.abs))=some (true,Ya w))
 (t:∀w j,(gu p N w j).map (fun s=>(sn p q loose Xt x s).1)=some (openGood q loose).1)
 (o:∀w j,(gu p N w j).map (fun s=>((sn p q loose Xt x s).2.1,(sn p q loose Xt x s).2.2.1))=some ((openGood q loose).2.1,(openGood q loose).2.2.1))
 (m:∀w j,(gu p N w j).map (fun s=>(sn p q loose Xt x s).2.2.2)=some (openGood q loose).2.2.2):LeftO p q loose Xt Yf Ya N x:=by
 refine Hd.left_one e B f l (Dc AT) (Dc fun w j=>?_)
 obtain⟨s,r,-⟩:=Zb.mp (AT w j);have u:gu p N w j=some s:=Fg _ _ _ _ r;have z:=t w j;have v:=o w j;have y:=m w j;rw[u]at z v y;rw[r];have v:=Prod.ext_iff.mp (ZG v);exact Z8 some (Prod.ext (ZG z) (Prod.ext v.1 (Prod.ext v.2 (ZG y))))
end Ht
namespace Mine
open PySem PySem.Spec PyProof.Rows L2
noncomputable def bB:Addr:=70
noncomputable def ai:Addr:=91
noncomputable def aw:Addr:=110
noncomputable def aO:Addr:=136
noncomputable def az:Addr:=157
noncomputable def a5:Addr:=249
noncomputable def ao:Addr:=360
noncomputable def aq:Addr:=405
abbrev Is:List (Addr×Addr×Bool):=[(ai,ai,true),(aw,ai,false),(ai,aw,false),(aw,aw,true),(ai,bB,true),(aw,bB,true),(aO,aO,true),(az,az,true)]
noncomputable def T(i:Nat):Stmt:=PySem.Challenge.pw_watchyard_k32_rooms_and_doors_told.main.body.getD i (.Pass ⟨0,0,0,0⟩)
abbrev d:=Hq.dd
def U(i j:Nat):Stmt:=IR (T i) j
def TB:Hq.Tab:=⟨[d bB "__init__" "Cond.__init__" 67 (U 5 0),
 d aO "__init__" "Room.__init__" 133 (U 10 0),
 d az "__init__" "Door.__init__" 154 (U 11 0),
 d 0 "hears" "hears" 275 (T 16),
 d 0 "is_name" "is_name" 282 (T 26),
 d 0 "number_of" "number_of" 287 (T 27),
 d ao "__init__" "Words.__init__" 308 (U 36 0),
 d ao "insist" "Words.insist" 315 (U 36 1),
 d ao "takes" "Words.takes" 350 (U 36 6),
 d aq "__init__" "Draft.__init__" 378 (U 37 0),
 d aq "box_names" "Draft.box_names" 383 (U 37 1),
 d aq "room_names" "Draft.room_names" 388 (U 37 2),
 d aq "has_room" "Draft.has_room" 395 (U 37 3),
 d aq "has_door" "Draft.has_door" 402 (U 37 4),
 d 0 "may_stay" "may_stay" 463 (T 45),
 d 0 "_law_at" "_law_at" 517 (T 54),
 d 0 "_law_purse" "_law_purse" 524 (T 55),
 d 0 "_law_take" "_law_take" 531 (T 56),
 d 0 "_law_listed" "_law_listed" 593 (T 66),
 d 0 "_law_size" "_law_size" 624 (T 71),
 d 0 "_law_whole" "_law_whole" 638 (T 73),
 d 0 "_law_dues" "_law_dues" 672 (T 79),
 d 0 "acts_of" "acts_of" 268 (T 15),
 d ao "take" "Words.take" 322 (U 36 2),
 d ao "finish" "Words.finish" 357 (U 36 7),
 d 0 "resets_of" "resets_of" 503 (T 51),
 d 0 "deeds_of" "deeds_of" 510 (T 52),
 d 0 "_law_name" "_law_name" 536 (T 57),
 d 0 "_law_cond" "_law_cond" 543 (T 58),
 d 0 "_law_stays" "_law_stays" 555 (T 60),
 d 0 "_law_deeds" "_law_deeds" 562 (T 61),
 d 0 "_law_price" "_law_price" 569 (T 62),
 d 0 "_law_room_row" "_law_room_row" 600 (T 67),
 d 0 "_law_door_row" "_law_door_row" 607 (T 68),
 d 0 "_law_is_cond" "_law_is_cond" 643 (T 74),
 d 0 "_law_are_deeds" "_law_are_deeds" 660 (T 77),
 d 0 "cond_again" "cond_again" 119 (T 8),
 d a5 "__init__" "Net.__init__" 173 (U 12 0),
 d 0 "cond_of" "cond_of" 294 (T 28),
 d ao "take_name" "Words.take_name" 329 (U 36 3),
 d ao "take_number" "Words.take_number" 336 (U 36 4),
 d ao "take_threes" "Words.take_threes" 343 (U 36 5),
 d 0 "taken_room" "taken_room" 477 (T 47),
 d 0 "_law_conds" "_law_conds" 548 (T 59),
 d 0 "_law_room" "_law_room" 576 (T 63),
 d 0 "_law_rows" "_law_rows" 612 (T 69),
 d 0 "_law_are_conds" "_law_are_conds" 648 (T 75),
 d 0 "room_again" "room_again" 258 (T 13),
 d 0 "door_again" "door_again" 263 (T 14),
 d 0 "new_name" "new_name" 451 (T 43),
 d 0 "taken_word" "taken_word" 484 (T 48),
 d 0 "taken_price" "taken_price" 491 (T 49),
 d 0 "taken_conds" "taken_conds" 496 (T 50),
 d 0 "_law_door" "_law_door" 583 (T 64),
 d 0 "_law_text" "_law_text" 617 (T 70),
 d 0 "_law_is_room" "_law_is_room" 655 (T 76),
 d 0 "_law_is_door" "_law_is_door" 667 (T 78),
 d a5 "rooms" "Net.rooms" 199 (U 12 4),
 d a5 "doors" "Net.doors" 204 (U 12 5),
 d 0 "add_watch" "add_watch" 430 (T 40),
 d 0 "add_box" "add_box" 437 (T 41),
 d 0 "add_machine" "add_machine" 444 (T 42),
 d 0 "add_room" "add_room" 456 (T 44),
 d 0 "add_door" "add_door" 470 (T 46),
 d 0 "_law_net" "_law_net" 588 (T 65),
 d 0 "add_row" "add_row" 423 (T 39),
 d 0 "_law_drawn" "_law_drawn" 631 (T 72),
 d 0 "_law_rooms_right" "_law_rooms_right" 679 (T 80),
 d 0 "_law_doors_right" "_law_doors_right" 686 (T 81),
 d 0 "read_net" "read_net" 416 (T 38),
 d 0 "law" "law" 691 (T 82)],[bB,ai,aw,aO,az,a5,ao,aq],[(ai,"WatchCond",67),(aw,"BoxCond",67),(aO,"Room",133),(az,"Door",154),(a5,"Net",173),(ao,"Words",308),(aq,"Draft",378)],[ai,aw,aO,az],Is,[("Cond",bB),("WatchCond",ai),("BoxCond",aw),("Room",aO),("Door",az)],[("number",[bB,ai,aw]),("sign",[bB,ai,aw]),("against",[bB,ai,aw]),("name",[aO]),("price",[aO,az]),("hurry",[aO]),("stays",[aO]),("machine",[az]),("start",[az]),("goal",[az]),("weather",[az]),("word",[az]),("conds",[az]),("resets",[az]),("deeds",[az]),("text",[a5]),("watch_names",[a5,aq]),("box_tuples",[a5,aq]),("machine_names",[a5,aq]),("own_rooms",[a5]),("own_doors",[a5]),("own_acts",[a5]),("row",[ao]),("words",[ao]),("place",[ao]),("room_lists",[aq]),("door_list",[aq])],[("MOST_LETTERS",8),("MOST_DIGITS",31),("MOST_TIME",60),("MOST_BOX",20),("MOST_WATCHES",4),("MOST_BOXES",3),("MOST_MACHINES",4),("MOST_ROOMS",6),("MOST_DOORS",24),("MOST_PRICE",1000000000000000000000000000000)],[("LETTERS","abcdefghijklmnopqrstuvwxyz"),("DIGITS","0123456789")],[("WATCH_SIGNS",["<","<=","==",">=",">"]),("BOX_SIGNS",["<","<=","==","!=",">=",">"])],["len","all","int","isinstance","max","abs","str","bool","range","enumerate","sorted","set","list","tuple","dict","zip","min"]⟩
end Mine
namespace Mine
open PySem PySem.Spec PyProof.Rows L2
noncomputable section
noncomputable abbrev PW:Program:=PySem.Challenge.pw_watchyard_k32_rooms_and_doors_told
abbrev VW:Program:=W.view PW [0,2,3,5,6,7,8,10,11,12,13,14,15,16,18,19,20,21,22,23,24,25,26,27,28,30,31,32,33,34,35,36,37,38,39,40,41,42,43,44,45,46,47,48,49,50,51,52,54,55,56,57,58,59,60,61,62,63,64,65,66,67,68,69,70,71,72,73,74,75,76,77,78,79,80,81,82]
noncomputable abbrev LO:List Str:=[]
def ads:List Addr:=mainGlobals::(TB.ds.map (fun r=>r.2.2.2.1)++TB.cs).flatMap (fun c=>[c,c-1])++[276,277]
abbrev HK:W.Hook:=Hd.hk ads TB.F TB.E
abbrev XT(s:Shared):Bool:=W.xlAt VW [] s&&W.recOk [] s
theorem AT(w:World)(f:OsState):(Ht.goT (W.stepT (PySem.denote treeTable) PW w) (W.stepOk 11 (some (.ref 6))) 10208 (Ht.S0 w f) (W.topStub PW)).map (fun s=>((W.staticsOk (importedModules PW.main.body) (W.boot_heap w.params) s.abs.heap&&W.namesBound PW s.abs.heap&&W.gensDone s.abs&&W.laidKept (W.boot_heap w.params) s.abs.heap),W.Hook.obs HK s.abs))=some (true,W.Hook.val HK w):=by
 rw[W.Fast.te10156331382660048174,W.Fast.te6613529449190102663,W.Fast.te11892475500146522536]
 kernel_rfl
theorem Nr(w:World)(f:OsState):(Ht.gu PW 10208 w f).map (fun s=>(Ht.sn PW VW LO XT true s).1)=some (W.openGood VW LO).1:=by
 unfold Ht.gu Ht.sn;rw[W.Fast.te10156331382660048174,W.Fast.te11892475500146522536,W.Fast.te4187177175401517315];unfold W.Fast.tw4187177175401517315 W.openGood;dsimp only
 kernel_rfl
theorem Nq(w:World)(f:OsState):(Ht.gu PW 10208 w f).map (fun s=>((Ht.sn PW VW LO XT true s).2.1,(Ht.sn PW VW LO XT true s).2.2.1))=some ((W.openGood VW LO).2.1,(W.openGood VW LO).2.2.1):=by
 unfold Ht.gu Ht.sn;rw[W.Fast.te10156331382660048174,W.Fast.te11892475500146522536,W.Fast.te4187177175401517315];unfold W.Fast.tw4187177175401517315 W.openGood;dsimp only
 kernel_rfl
theorem Np(w:World)(f:OsState):(Ht.gu PW 10208 w f).map (fun s=>(Ht.sn PW VW LO XT true s).2.2.2)=some (W.openGood VW LO).2.2.2:=by
 unfold Ht.gu Ht.sn;rw[W.Fast.te10156331382660048174,W.Fast.te11892475500146522536,W.Fast.te4187177175401517315];unfold W.Fast.tw4187177175401517315 W.openGood;dsimp only
 kernel_rfl
def left:W.LeftO PW VW LO XT (W.Hook.obs HK) (W.Hook.val HK) 10208 :=
 Ht.left_of (ann:=some (.ref 6)) (by kernel_rfl) (by kernel_rfl) (fun s=>by kernel_rfl) (fun w=>by kernel_rfl) AT Nr Nq Np
theorem said:PySem.Challenge.rw_watchyard_k32_rooms_and_doors_told.wellSaid=true:=by
 rw[W.Fast.te9446332074065402090]
 kernel_rfl
end
end Mine
namespace L2
open PySem PySem.Spec PyProof.Rows
variable {us vs ds Q1 X6:Yg Yb} {x name m qual:Str} {u v X4 pm Q9 oc:Yb} {a b C dx:Yd} {o e c tg X1:Expr} {P prog:Program} {w:World} {h h' base:Heap} {ex ex' ch fp:Yg Yd} {Q0 pins':Yg (Yd×Obj)} {s s':Yc} {g':Array GenState} {t' i j k n:Nat} {d':Drawn} {N ps ks:Yg Str} {M:Model} {A:Around} {Q:Yb->Yc->Prop} {K:ZA} {f:Yb->Yb->Sem Yb} {st:Stmt} {es:Yg Expr} {X2 p tpos Q7:Pos} {body:Yg Stmt} {l:W.OpenLaw} {R:Result->Yc->Prop} {lo hi:Ye Expr} {pl:Sem Bool} {op op':CmpOp} {mA mg mb:Str->Ye Yb} {kw:Yg (Str×Yb)} {outer:Yg Env} {fd:FuncData} {kws:Yg Keyword} {nm:Ye Str} {kindOf:Str->Ye NameKind} {scope:Scope} {an od:Ye Yd} {osl:Array (Ye Yb)} {T:String} {XP:(Str->Ye Yb)->Heap->Prop} {YP:World->Heap->Prop}
inductive V where
 |non|bl (b:Bool)|int (i:Int)|str (x:Str)|ref (a:Addr)|ty (n:String)
 deriving DecidableEq
def RelV:V->Value->Prop
 |.non,u=>u=Value.none
 |.bl b,u=>u=Value.bool b
 |.int i,u=>∃t,u=Value.int i t
 |.str x,u=>∃t,u=Value.str x t
 |.ref a,u=>u=Value.ref a
 |.ty n,u=>u=Value.type n
abbrev Vals:List V->List Value->Prop:=Paired RelV
theorem Vals.length{xs:Yg V}(r:Vals xs us):xs.length=us.length:=Paired.length r
theorem Vals.get:∀{xs:Yg V}{us:Yg Yb}{i:Nat}{x:V},Vals xs us->xs[i]?=some x->∃u,us[i]?=some u/\RelV x u
 |_,_,_,_,.nil,e=>by simp at e
 |_,_,0,_,.cons r _,e=>by simp at e;subst e;exact⟨_,rfl,r⟩
 |_,_,i+1,x,.cons _ t,e=>by
  obtain⟨u,h1,h2⟩:=Vals.get t (by simpa using e)
  exact⟨u,by simpa using h1,h2⟩
theorem Vals.set{x:V}(r:RelV x u):∀{xs:Yg V}{us:Yg Yb}(i:Nat),Vals xs us->Vals (xs.set i x) (us.set i u)
 |_,_,_,.nil=>.nil
 |_,_,0,.cons _ t=>.cons r t
 |_,_,i+1,.cons q t=>.cons q (Vals.set r i t)
theorem Vals.append:∀{xs ys}{us ws},Vals xs us->Vals ys ws->Vals (xs++ys) (us++ws)
 |_,_,_,_,.nil,s=>s
 |_,_,_,_,.cons r t,s=>.cons r (Vals.append t s)
theorem Vals.take:∀{xs:Yg V}{us:Yg Yb}(n:Nat),Vals xs us->Vals (xs.take n) (us.take n)
 |_,_,0,_=>.nil
 |_,_,_+1,.nil=>.nil
 |_,_,n+1,.cons r t=>.cons r (Vals.take n t)
theorem Vals.drop:∀{xs:Yg V}{us:Yg Yb}(n:Nat),Vals xs us->Vals (xs.drop n) (us.drop n)
 |_,_,0,r=>r
 |_,_,_+1,.nil=>.nil
 |_,_,n+1,.cons _ t=>Vals.drop n t
def RelO:Option V->Option Value->Prop
 |some v,some u=>RelV v u
 |none,none=>True
 |_,_=>False
def KV{κ:Type}:List (κ×V)->List (κ×Value)->Prop:=Paired fun(p:κ×V)(q:κ×Value)=>p.1=q.1/\RelV p.2 q.2
inductive HO where
 |lst (xs:List V)
 |tup (xs:List V)
 |dK (Q6:List (Str×V))
 |ins (C dx:Addr) (fs:List (Str×V))
 |own (x:Addr)
 |frz (o:Obj) (u:HO)
 |tbl (ps:Array Value)
 |ext (φ:Heap->Prop)
noncomputable abbrev Hp:=Addr->Option HO
def upd(H:Hp)(a:Addr)(o:HO):Hp:=fun b=>if b=a then some o else H b
def aL{o:HO}:upd H a o a=some o:=by unfold upd;rw[if_pos rfl]
def aI{o:HO}(h:b≠a):upd H a o b=H b:=by unfold upd;rw[if_neg h]
def bp{H:Hp}{a b}{o}(h:H a=some o)(h':H b=none):a≠b:=by intro e;subst e;rw[h]at h';cases h'
section
variable (P:Program) (w:World)
def ObjOk(H:Hp)(h:Heap)(a:Addr):HO->Prop
 |.lst xs=>xs.length<=sizeLine/\∃(Q1:List Value) (n:Nat),Vals xs Q1/\h.get? a=some { cls:=.type "list",data:=.seq Q1.toArray n }
 |.tup xs=>xs.length<=sizeLine/\∃Q1:List Value,Vals xs Q1/\IsTup h a Q1.toArray
 |.dK Q6=>(a==sysModules)=false/\∃vs,KV Q6 vs/\h.DictOf (PySem.strKind P w) a vs
 |.ins C dx fs=>H dx=some (.own a)/\fs.length<=1000/\dx≠a/\h.get? a=some (W.instObj C dx) /\
  ∃mA,h.Ns1 dx mA/\(∀f,RelO (fs.lookup f) (mA f))/\PySem.Within mA (fs.map (·.1))
 |.own _=>∃o,h.get? a=some o
 |.frz o u=>h.get? a=some o/\ObjOk H h a u
 |.tbl ps=>h.get? a=some { cls:=.none,data:=.fields ps }
 |.ext φ=>φ h/\(∃o,h.get? a=some o)/\∀h1 h2:Heap,φ h1->(∀o,h1.get? a=some o->h2.get? a=some o)->φ h2
def HOk(H:Hp)(h:Heap):Prop:=∀a o,H a=some o->ObjOk P w H h a o
end
section
variable {o:HO}
theorem ObjOk.lt(x:ObjOk P w H h a o):a<h.objs.size:=by
 cases o with
 |lst xs=>obtain⟨_,_,_,_,e⟩:=x;exact ZT e
 |tup xs=>obtain⟨_,_,_,p⟩:=x;exact p.lt
 |dK Q6=>obtain⟨_,_,_,o,_,_,e,_⟩:=x;exact ZT e
 |ins C dx fs=>obtain⟨_,_,_,e,_⟩:=x;exact ZT e
 |own y=>obtain⟨_,e⟩:=x;exact ZT e
 |frz f u=>obtain⟨e,_⟩:=x;exact ZT e
 |tbl ps=>exact ZT (x)
 |ext φ=>obtain⟨_,⟨_,e⟩,_⟩:=x;exact ZT e
theorem Paired.mapP{α β:Type}{F G:α->β->Prop}:∀{l₁}{l₂},Paired F l₁ l₂->(∀a b,F a b->G a b)->Paired G l₁ l₂
 |_,_,.nil,_=>.nil
 |_,_,.cons r t,f=>.cons (f _ _ r) (Paired.mapP t f)
def ObjOk.stay(x:ObjOk P w H h a o)(k:∀b u,(b=a\/H b=some (.own a))->h.get? b=some u->h'.get? b=some u)
 (m:∀b,H b=some (.own a)->H' b=some (.own a)) (t:∀b xs,H b=some (.tup xs)->H' b=some (.tup xs)):ObjOk P w H' h' a o:=by
 induction o with
 |lst xs=>obtain⟨z,Q1,n,r,e⟩:=x;exact⟨z,Q1,n,r,k _ _ (.inl rfl) e⟩
 |tup xs=>obtain⟨z,Q1,r,f,e,c⟩:=x;exact⟨z,Q1,r,f,k _ _ (.inl rfl) e,c⟩
 |dK Q6=>obtain⟨y,vs,r,f,es,ep,e,c⟩:=x;exact⟨y,vs,r,f,es,ep,k _ _ (.inl rfl) e,c⟩
 |ins C dx fs =>obtain⟨d,z,j,e,mA,⟨od,es,ep,s,c⟩,r⟩:=x;exact⟨m _ d,z,j,k _ _ (.inl rfl) e,mA,⟨od,es,ep,k _ _ (.inr d) s,c⟩,r⟩
 |own y=>obtain⟨f,e⟩:=x;exact⟨f,k _ _ (.inl rfl) e⟩
 |frz f u l=>obtain⟨e,q⟩:=x;exact⟨k _ _ (.inl rfl) e,l q⟩
 |tbl ps =>have e:=x;exact k a _ (.inl rfl) e
 |ext φ=>obtain⟨p,⟨o,e⟩,st⟩:=x;exact⟨st _ _ p fun o q=>k _ _ (.inl rfl) q,⟨o,k _ _ (.inl rfl) e⟩,st⟩
theorem HOk.lt(x:HOk P w H h)(e:H a=some o):a<h.objs.size:=(x a o e).lt
def HOk.fresh(x:HOk P w H h)(e:h.objs.size<=a):H a=none:=by
 cases q:H a with
 |none=>rfl
 |some u=>exact absurd (ZC (x.lt q) e) (ZJ _)
def HOk.kept(x:HOk P w H h)(k:∀b u,h.get? b=some u->h'.get? b=some u):HOk P w H h':=fun a o e =>(x a o e).stay (fun b u _ q=>k b u q) (fun _ q=>q) fun _ _ q=>q
def HOk.laid(x:HOk P w H h)(k:∀b u,h.get? b=some u->h'.get? b=some u)(m:h.objs.size<=a)(f:ObjOk P w (upd H a o) h' a o):HOk P w (upd H a o) h':=fun b u e=>by
 have j:=x.fresh m
 by_cases l:b=a
 . subst l;rw[aL]at e;cases e;exact f
 . rw[aI l]at e;exact(x b u e).stay (fun c v _ q=>k c v q) (fun c q=>by rw[aI (bp q j)];exact q) fun c xs q=>by rw[aI (bp q j)];exact q
end
def Rd(H:Hp)(a:Addr)(u:HO):Prop:=H a=some u\/∃o,H a=some (.frz o u)
def Rd.ok{u:HO}(r:Rd H a u)(x:HOk P w H h):ObjOk P w H h a u:=by
 rcases r with r|⟨o,r⟩
 . exact x a u r
 . obtain⟨_,q⟩:=x a _ r;exact q
def Mut:Option HO->Prop
 |some (.lst _)=>True
 |some (.dK _)=>True
 |some (.ins _ _ _)=>True
 |some (.ext _)=>True
 |_=>False
section
variable {x e:Yd} {o':HO}
def HOk.write(ok:HOk P w H h)(m:Mut (H x))(he:e=x\/H e=some (.own x))(k:∀b u,b≠e->h.get? b=some u->h'.get? b=some u)(t:∃u,h'.get? e=some u)
 (s:ObjOk P w (upd H x o') h' x o'):HOk P w (upd H x o') h':=fun b u q=>by
 have j:∀c y,H c=some (.own y)->c≠x:=fun c y r z=>by subst z;rw[r]at m;exact m
 have l:∀c xs,H c=some (.tup xs)->c≠x:=fun c xs r z=>by subst z;rw[r]at m;exact m
 by_cases p:b=x
 . subst p;rw[aL]at q;cases q;exact s
 . rw [aI p] at q
   by_cases f:b=e
   . have B:H b=some (.own x):=by
      rcases he with z|z
      . exact absurd (f.trans z) p
      . rw[f];exact z
     rw[q]at B;cases B;obtain⟨v,C⟩:=t;exact⟨v,by rw[f];exact C⟩
   . refine (ok b u q).stay (fun c v o r=>k c v ?_ r) (fun c r=>by rw [aI (j c b r)];exact r) fun c xs r=>by rw [aI (l c xs r)];exact r
     rcases o with rfl|o
     . exact f
     . rintro rfl
       rcases he with z|z
       . exact j c b o z
       . rw[o]at z;cases z;exact p rfl
end
structure Un(fs ex:List Addr)(H H':Hp)(h h':Heap):Prop where
 keep:∀b o,h.get? b=some o->H b=none->b∉fs->b∉ex->h'.get? b=some o
 slot:∀b o,h.get? b=some o->H b=none->b∈fs->b∉ex->∃sl,h'.get? b=some { o with slots:=sl }
 free:∀b o,h.get? b=some o->H b=none->b∉ex->H' b=none
 there:∀b o,h.get? b=some o->b∉ex->∃o',h'.get? b=some o'
 tups:∀b xs,H b=some (.tup xs)->H' b=some (.tup xs)
 frzs:∀b o u,H b=some (.frz o u)->H' b=some (.frz o u)
 tbls:∀b ps,H b=some (.tbl ps)->∃more,H' b=some (.tbl (ps++more))
section
variable {fs fs':Yg Yd} {H1 H2:Hp} {h1 h2:Heap} {x e:Yd} {o:HO}
def Un.any(u:Un fs ex H H1 h h1){ob}(q:h.get? b=some ob)(n:H b=none)(f:b∉ex):∃l,h1.get? b=some { ob with slots:=l }:=by
 by_cases j:b∈fs
 . exact u.slot b ob q n j f
 . exact⟨ob.slots,u.keep b ob q n j f⟩
def Un.kept(k:∀b u,h.get? b=some u->h'.get? b=some u):Un fs ex H H h h' :=
 ⟨fun b f q _ _ _=>k b f q,fun b f q _ _ _=>⟨f.slots,k b f q⟩,fun _ _ _ n _=>n,fun b f q _=>⟨f,k b f q⟩,fun _ _ q=>q,fun _ _ _ q=>q,fun _ ps q=>⟨#[],by rw[q];simp⟩⟩
def Un.refl:Un fs ex H H h h:=Un.kept fun _ _ q=>q
def Un.laid(k:∀b u,h.get? b=some u->h'.get? b=some u)(j:h.objs.size<=a)(f:H a=none):Un fs ex H (upd H a o) h h' where
 keep:=fun b u q _ _ _=>k b u q
 slot:=fun b u q _ _ _=>⟨u.slots,k b u q⟩
 free:=fun b u q n _=>by rw[aI (ZI (ZC (ZT q) j))];exact n
 there:=fun b u q _=>⟨u,k b u q⟩
 tups:=fun b xs q=>by rw[aI (bp q f)];exact q
 frzs:=fun b u xs q=>by rw[aI (bp q f)];exact q
 tbls:=fun b ps q=>⟨#[],by rw[aI (bp q f),q];simp⟩
def Un.write(j:Mut (H x))(he:e=x\/H e=some (.own x))(k:∀b u,b≠e->h.get? b=some u->h'.get? b=some u)(m:∃u,h'.get? e=some u):Un fs ex H (upd H x o) h h':=by
 have p:∀b,H b=none->b≠x:=fun b n z=>by subst z;rw[n]at j;exact j
 have s:∀b,H b=none->b≠e:=fun b n z=>by
  subst z;rcases he with r|r
  . exact p b n r
  . rw[n]at r;cases r
 have l:∀b u,H b=some u->¬Mut (some u)->b≠x:=fun b u q nm z=>by subst z;rw[q]at j;exact nm j
 refine⟨fun b u q n _ _=>k b u (s b n) q,fun b u q n _ _=>⟨u.slots,k b u (s b n) q⟩,fun b u q n _=>by rw[aI (p b n)];exact n,fun b u q _=>?_,
  fun b xs q=>by rw[aI (l b _ q fun z=>z)];exact q,fun b u xs q=>by rw[aI (l b _ q fun z=>z)];exact q,fun b ps q=>⟨#[],by rw[aI (l b _ q fun z=>z),q];simp⟩⟩
 by_cases f:b=e
 . subst f;exact m
 . exact⟨u,k b u f q⟩
end
def trk(h:Heap)(H:Hp):List Addr:=(List.range h.objs.size).filter fun a=>(H a).isSome
def uQ(h:Heap)(H:Hp):Heap:=W.hideAll h (trk h H)
def BN(h) (H):(uQ h H).objs.size=h.objs.size:=W.hideAll_size _ _
def Fd{o}(e:h.get? b=some o)(n:H b=none):(uQ h H).get? b=some o :=
 W.hideAll_get _ e fun f=>by have q:=(List.mem_filter.mp f).2;rw[n]at q;simp at q
def Iy{o}(e:(uQ h H).get? b=some o):h.get? b=some o/\H b=none:=by
 have f:=W.of_hideAll (trk h H) e;refine⟨f,?_⟩;cases q:H b with
 |none=>rfl
 |some x =>
  have j:b∈trk h H:=List.mem_filter.mpr ⟨List.mem_range.mpr (ZT f),by simp[q]⟩
  have z:(uQ h H).get? b=none:=W.hideAll_none (trk h H) j;rw[z]at e;cases e
variable {H H':Hp} {fs':Yg (Str×V)} {y:V} {ys X8:Yg V} {gV:Yg V->Yg V->Yg V} {Q6:Yg (Key×V)}
structure Mod(K:ZA)(mg:Str->Option Value)(base:Heap):Prop where
 kin:K.In base
 glob:base.Ns mainGlobals mg
 blt:∃mb,base.Ns builtinsNs mb/\∀x:Str,x≠"__name__"->mb x=bootBuiltins x
 nolimit:base.NoLimit
structure Cx where
 prog:Program
 w:World
 K:ZA
 mg:Str->Option Value
 base:Heap
 A:Around
 N:List Str
 s₀:Shared
 H₀:Hp
 env:Env
 outer:List Env
 stack:List Env
 ex:List Addr
 fn:Str->Bool
 calm:Bool
 pn:List (Addr×Obj)
 xe:Value->Shared->Prop
noncomputable def frs(l:List Env):List Addr:=l.filterMap (·.frame)
abbrev Cx.fs(X:Cx):List Addr:=frs X.outer
def Vis(sc:Scope)(x:Str):Prop:=sc.names.lookup x=some .local\/sc.names.lookup x=some .cell\/sc.names.lookup x=some .free
def Loc(sc:Scope)(x:Str):Prop:=sc.names.lookup x=some .local\/sc.names.lookup x=some .cell
def PN(env:Env)(h:Heap)(m:Str->Option Value)(x:Str)(u:Value):Prop :=
 (env.kindOf x=some .local/\m x=some u)\/((env.kindOf x=some .cell\/env.kindOf x=some .free)/\∃c,env.cells.lookup x=some c/\h.IsCell c (some u))
structure Cx.Ok(X:Cx):Prop where
 mod:Mod X.K X.mg X.base
 kind:X.env.scope.kind=.function
 glob:X.env.globals=mainGlobals
 blt:X.env.builtins=builtinsNs
 above:X.s₀.heap.objs.size<=X.env.locals
 inj:∀x y c,X.env.cells.lookup x=some c->X.env.cells.lookup y=some c->x=y
 has:∀x,(X.env.kindOf x=some .cell\/X.env.kindOf x=some .free)->∃c,X.env.cells.lookup x=some c
 cab:∀x c,X.fn x=true->X.env.cells.lookup x=some c->X.s₀.heap.objs.size<=c
 hd:X.calm=true->X.A.handled=none
 frames:X.A.frames=some X.stack
 stk:X.stack=X.outer\/(X.stack=X.env::X.outer/\X.env.frame=some X.env.locals)
 exf:∀b∈X.ex,b≠X.env.locals/\∀x c,X.env.cells.lookup x=some c->c≠b
 bs:∀b o,X.base.get? b=some o->X.s₀.heap.get? b=some o/\X.H₀ b=none
 bsz:X.base.objs.size<=X.s₀.heap.objs.size
 noex:∀b o,X.base.get? b=some o->b∉X.ex
 exfs:∀b∈X.ex,b∉X.fs
 funs:X.s₀.heap.FunFrames X.base X.outer
 frf:∀b∈X.fs,X.H₀ b=none
structure Inv(X:Cx)(Q0:List (Addr×Obj))(σ:List (Option V))(H:Hp)(s:Shared):Prop where
 ok:X.Ok
 os:s.os=X.s₀.os
 bare:AllBare s.gens
 base:Un X.fs X.ex X.H₀ H X.s₀.heap s.heap
 loc:∃m,s.heap.Ns X.env.locals m/\∀(i:Nat)(x:Str)(v:V),X.N[i]?=some x->σ[i]?=some (some v)->Vis X.env.scope x->∃u,RelV v u/\PN X.env s.heap m x u
 cell:∀x c,X.env.cells.lookup x=some c->∃v,s.heap.IsCell c v
 free:H X.env.locals=none
 freeC:∀x c,X.env.cells.lookup x=some c->H c=none
 pin:∀p∈X.pn++Q0,s.heap.get? p.1=some p.2/\H p.1=none/\p.1≠X.env.locals/\p.1∉X.fs/\∀v,p.2.data≠.cell v
 hok:HOk X.prog X.w H s.heap
 len:σ.length=X.N.length
section
variable {X:Cx} {Q0:Yg (Yd×Obj)} {σ:Yg (Ye V)} {H H':Hp} {s:Yc} {h':Heap}
def Cx.Ok.nofr(ok:X.Ok){b}{o}(e:X.base.get? b=some o):b∉X.fs:=fun f=>by have:=(ok.funs.mem f).1;rw[e]at this;cases this
theorem Inv.bs(I:Inv X Q0 σ H s):∀b o,X.base.get? b=some o->s.heap.get? b=some o/\H b=none:=fun b o e =>⟨I.base.keep b o (I.ok.bs b o e).1 (I.ok.bs b o e).2 (I.ok.nofr e) (I.ok.noex b o e),I.base.free b o (I.ok.bs b o e).1 (I.ok.bs b o e).2 (I.ok.noex b o e)⟩
def Inv.bk(I:Inv X Q0 σ H s):∀b o,X.base.get? b=some o->s.heap.get? b=some o:=fun b o e=>(I.bs b o e).1
theorem Inv.mod(I:Inv X Q0 σ H s):Mod X.K X.mg X.base:=I.ok.mod
def Inv.kIn(I:Inv X Q0 σ H s):X.K.In s.heap:=I.ok.mod.kin.keeps I.bk
theorem Inv.lt(I:Inv X Q0 σ H s):X.env.locals<s.heap.objs.size:=let ⟨_,hn,_⟩:=I.loc;hn.lt
def Inv.sz(I:Inv X Q0 σ H s):X.s₀.heap.objs.size<=s.heap.objs.size:=ZY I.ok.above (Nat.le_of_lt I.lt)
def Inv.nofs(I:Inv X Q0 σ H s)(h:s.heap.objs.size<=a):a∉X.fs:=fun j=>by obtain⟨_,o,f,_⟩:=I.ok.funs.mem j;exact absurd (ZC (ZT f) (ZY I.sz h)) (ZJ _)
def Inv.cne(I:Inv X Q0 σ H s):∀x c,X.env.cells.lookup x=some c->c≠X.env.locals:=fun x c e z=>by obtain⟨v,o,l,p⟩:=I.cell x c e;obtain⟨m,⟨o',es,ep,f,j,_⟩,_⟩:=I.loc;rw[z,f]at l;cases l;rw[j]at p;cases p
theorem Inv.funs(I:Inv X Q0 σ H s):s.heap.FunFrames X.base X.outer:=by
 have all:∀l,(∀b∈frs l,b∈X.fs)->X.s₀.heap.FunFrames X.base l->s.heap.FunFrames X.base l:=by
  intro l
  induction l with
  |nil=>intro _ _;trivial
  |cons env r q =>
   intro p x;obtain⟨hk,⟨L,o,f,v,u,y⟩,t⟩:=x;have m:=p L (by unfold frs;rw[List.filterMap_cons,f];exact Zo)
   obtain⟨B,e⟩:=I.base.slot L o u (I.ok.frf L m) m fun z=>I.ok.exfs L z m
   exact⟨hk,⟨L,_,f,v,e,y⟩,q (fun b j=>p b (by unfold frs;rw[List.filterMap_cons,f];exact Zp _ j)) t⟩
 exact all X.outer (fun _ j=>j) I.ok.funs
def Inv.stack(I:Inv X Q0 σ H s):s.heap.FunFrames X.base X.stack:=by
 rcases I.ok.stk with e|⟨e,j⟩
 . rw[e];exact I.funs
 . rw [e];obtain ⟨m,f,_⟩:=I.loc;refine .cons (by rw [I.ok.kind];decide) j f ?_ I.funs
   exact Heap.get?_none_of_le (ZY I.ok.bsz I.ok.above)
def Inv.stkSub(I:Inv X Q0 σ H s):∀b∈frs X.stack,b∈X.env.locals::X.fs:=fun b f=>by
 rcases I.ok.stk with e|⟨e,j⟩
 . rw[e]at f;exact Zp _ f
 . rw[e]at f;unfold frs at f;rw[List.filterMap_cons,j]at f;exact f
def Inv.stkFree(I:Inv X Q0 σ H s):∀b∈frs X.stack,H b=none:=fun b f=>by
 rcases Zt.mp (I.stkSub b f)with e|f
 . rw[e];exact I.free
 . obtain⟨_,o,j,_⟩:=I.ok.funs.mem f;exact I.base.free b o j (I.ok.frf b f) fun z=>I.ok.exfs b z f
def Inv.step(I:Inv X Q0 σ H s)
 (y:∀b∈ch,(b∈X.ex\/X.s₀.heap.objs.size<=b)/\b≠X.env.locals/\(∀x c,X.env.cells.lookup x=some c->c≠b)/\∀p∈X.pn++Q0,p.1≠b)
 (keep:∀b o,b≠X.env.locals->b∉X.fs->b∉ch->s.heap.get? b=some o->H b=none->h'.get? b=some o)
 (G:∀b o,b≠X.env.locals->b∈X.fs->b∉ch->s.heap.get? b=some o->H b=none->∃sl,h'.get? b=some { o with slots:=sl }) (j:∀b o,b∉ch->s.heap.get? b=some o->H b=none->H' b=none)
 (J:∀b o,b∉ch->s.heap.get? b=some o->∃o',h'.get? b=some o')
 (Q:∀b xs,H b=some (.tup xs)->H' b=some (.tup xs)) (Y:∀b o u,H b=some (.frz o u)->H' b=some (.frz o u)) (S:∀b ps,H b=some (.tbl ps)->∃V,H' b=some (.tbl (ps++V)))
 (ns:∀m,s.heap.Ns X.env.locals m->h'.Ns X.env.locals m) (hok:HOk X.prog X.w H' h') (hg:AllBare g') :
 Inv X Q0 σ H' { s with heap:=h',gens:=g',drawn:=d',toks:=t' }:=by
 have U:∀b o,X.s₀.heap.get? b=some o->b≠X.env.locals:=fun b o e=>ZI (ZC (ZT e) I.ok.above)
 have C:∀b o,X.s₀.heap.get? b=some o->b∉X.ex->b∉ch:=fun b o e f L=>by
  rcases (y b L).1 with z|z
  . exact f z
  . exact absurd (ZC (ZT e) z) (ZJ _)
 have B:∀x c,X.env.cells.lookup x=some c->∀v,s.heap.IsCell c v->h'.IsCell c v:=fun x c e v ⟨o,O,hd⟩=>by
  have t:c∉ch:=fun z=>(y c z).2.2.1 x c e rfl
  by_cases hc:c∈X.fs
  . obtain⟨sl,q⟩:=G c o (I.cne x c e) hc t O (I.freeC x c e);exact⟨_,q,hd⟩
  . exact⟨o,keep c o (I.cne x c e) hc t O (I.freeC x c e),hd⟩
 refine⟨I.ok,I.os,hg,⟨fun b o e n L f=>?_,fun b o e n L f=>?_,fun b o e n f=>?_,fun b o e f=>?_,fun b xs e=>Q b xs (I.base.tups b xs e),fun b o xs e=>Y b o xs (I.base.frzs b o xs e),fun b ps e=>?_⟩,?_,fun x c e=>?_,?_,fun x c e=>?_,fun p hp=>?_,hok,I.len⟩
 . exact keep b o (U b o e) L (C b o e f) (I.base.keep b o e n L f) (I.base.free b o e n f)
 . obtain⟨sl,D⟩:=I.base.slot b o e n L f;obtain⟨sl',Z⟩:=G b _ (U b o e) L (C b o e f) D (I.base.free b o e n f);exact⟨sl',Z⟩
 . obtain⟨o',D⟩:=I.base.there b o e f;exact j b o' (C b o e f) D (I.base.free b o e n f)
 . obtain⟨o',D⟩:=I.base.there b o e f;exact J b o' (C b o e f) D
 . obtain⟨m1,D⟩:=I.base.tbls b ps e;obtain⟨m2,Z⟩:=S b _ D;exact⟨m1++m2,by rw[Z,Array.append_assoc]⟩
 . obtain ⟨m,hn,hl⟩:=I.loc;refine ⟨m,ns m hn,fun i x v D Z e3=>?_⟩
   obtain⟨u,r,l⟩:=hl i x v D Z e3;refine⟨u,r,?_⟩;rcases l with l|⟨k,c,e,z⟩
   . exact .inl l
   . exact .inr ⟨k,c,e,B x c e _ z⟩
 . obtain⟨v,z⟩:=I.cell x c e;exact⟨v,B x c e v z⟩
 . obtain⟨m,⟨o,_,_,O,_⟩,_⟩:=I.loc;exact j _ o (fun z=>(y _ z).2.1 rfl) O I.free
 . obtain⟨v,o,O,hd⟩:=I.cell x c e;exact j c o (fun z=>(y c z).2.2.1 x c e rfl) O (I.freeC x c e)
 . obtain ⟨e,n,ne,nf,d⟩:=I.pin p hp;have t:p.1 ∉ ch:=fun z=>(y p.1 z).2.2.2 p hp rfl
   exact⟨keep p.1 p.2 ne nf t e n,j p.1 p.2 t e n,ne,nf,d⟩
def Inv.un(I:Inv X Q0 σ H s)(u:Un X.fs [] H H' s.heap h')(j:HOk X.prog X.w H' h'):Inv X Q0 σ H' { s with heap:=h',toks:=t' }:=by
 obtain⟨m,⟨o,es,ep,t,r⟩,_⟩:=id I.loc;obtain⟨y,x⟩:=u.any t I.free (by simp)
 exact I.step (ch:=[]) (fun _ z=>nomatch z) (fun b o _ l _ e n=>u.keep b o e n l (by simp)) (fun b o _ l _ e n=>u.slot b o e n l (by simp)) (fun b o _ e n=>u.free b o e n (by simp)) (fun b o _ e=>u.there b o e (by simp)) u.tups u.frzs u.tbls (fun B v=>by obtain⟨o',p,q,f,r'⟩:=v;rw[t]at f;cases f;exact⟨_,p,q,x,r'⟩) j I.bare
def Inv.call(I:Inv X Q0 σ H s)(u:Un (frs X.stack) ch H H' s.heap h')(q:HOk X.prog X.w H' h')(D:AllBare g')
 (l:∀b∈ch,(b∈X.ex\/X.s₀.heap.objs.size<=b)/\b≠X.env.locals/\(∀x c,X.env.cells.lookup x=some c->c≠b)/\∀p∈X.pn++Q0,p.1≠b) :
 Inv X Q0 σ H' { s with heap:=h',gens:=g',drawn:=d',toks:=t' }:=by
 obtain⟨m,⟨o,es,ep,B,r⟩,_⟩:=id I.loc;obtain⟨J,t⟩:=u.any B I.free fun z=>(l _ z).2.1 rfl
 exact I.step l (fun b o t G f e n=>u.keep b o e n (fun z=>(Zt.mp (I.stkSub b z)).elim t G) f) (fun b o _ _ f e n=>u.any e n f) (fun b o f e n=>u.free b o e n f) (fun b o f e=>u.there b o e f) u.tups u.frzs u.tbls (fun L C=>by obtain⟨o',v,y,j,r'⟩:=C;rw[B]at j;cases j;exact⟨_,v,y,t,r'⟩) q D
def Inv.turned{it}(I:Inv X Q0 σ H s)(k:∀b o,b≠it->s.heap.get? b=some o->h'.get? b=some o)(y:H it=none)(l:it≠X.env.locals)
 (h1:it∈X.ex\/X.s₀.heap.objs.size<=it) (h2:∀x c,X.env.cells.lookup x=some c->c≠it) (D:∀p∈X.pn++Q0,p.1≠it):Inv X Q0 σ H { s with heap:=h',toks:=t' }:=by
 have j:∀b u,H b=some u->b≠it:=fun b u e z=>by rw[z,y]at e;cases e
 refine I.step (ch:=[it]) (fun b C=>?_) (fun b o _ _ f e _=>k b o (fun z=>f (by simp[z])) e) (fun b o _ _ f e _=>⟨o.slots,k b o (fun z=>f (by simp[z])) e⟩) (fun _ _ _ _ n=>n)
  (fun b o f e=>⟨o,k b o (fun z=>f (by simp[z])) e⟩) (fun _ _ e=>e) (fun _ _ _ e=>e) (fun b ps e=>⟨#[],by rw[e];simp⟩) (fun m B=>?_) (fun b u e=>?_) I.bare
 . have e:b=it:=by simpa using C
   subst e;exact⟨h1,l,h2,D⟩
 . obtain⟨o,es,ep,t,r⟩:=B;exact⟨o,es,ep,k _ o (Ne.symm l) t,r⟩
 . refine (I.hok b u e).stay (fun c v f q=>k c v ?_ q) (fun _ q=>q) fun _ _ q=>q
   rcases f with z|z
   . rw[z];exact j b u e
   . exact j c _ z
def Inv.tok(I:Inv X Q0 σ H s)(t):Inv X Q0 σ H { s with toks:=t }:=I.un Un.refl I.hok
theorem Inv.kept(I:Inv X Q0 σ H s)(k:∀b u,s.heap.get? b=some u->h'.get? b=some u):Inv X Q0 σ H { s with heap:=h',toks:=t' }:=I.un (Un.kept k) (I.hok.kept k)
theorem Inv.laid{o:HO}(I:Inv X Q0 σ H s)(k:∀b u,s.heap.get? b=some u->h'.get? b=some u)(j:s.heap.objs.size<=a)(f:ObjOk X.prog X.w (upd H a o) h' a o) :
 Inv X Q0 σ (upd H a o) { s with heap:=h',toks:=t' }:=I.un (Un.laid k j (I.hok.fresh j)) (I.hok.laid k j f)
theorem Inv.write{x e}{o}(I:Inv X Q0 σ H s)(l:Mut (H x))(he:e=x\/H e=some (.own x))(k:∀b u,b≠e->s.heap.get? b=some u->h'.get? b=some u)(f:∃u,h'.get? e=some u)
 (j:ObjOk X.prog X.w (upd H x o) h' x o):Inv X Q0 σ (upd H x o) { s with heap:=h',toks:=t' }:=I.un (Un.write l he k f) (I.hok.write l he k f j)
def Inv.pins_of(I:Inv X Q0 σ H s)(h:∀p∈pins',s.heap.get? p.1=some p.2/\H p.1=none/\p.1≠X.env.locals/\p.1∉X.fs/\∀v,p.2.data≠.cell v):Inv X pins' σ H s :=
 ⟨I.ok,I.os,I.bare,I.base,I.loc,I.cell,I.free,I.freeC,fun p f=>(Zs.mp f).elim (fun z=>I.pin p (ZE _ z)) (h p),I.hok,I.len⟩
def wg(f:N.Nodup)(a:N[i]?=some x)(b:N[j]?=some x):i=j:=by obtain⟨h1,m⟩:=ZL.mp a;obtain⟨h2,l⟩:=ZL.mp b;exact(List.getElem_inj f).mp (m.trans l.symm)
def sU {E:Yb->Yc->Prop} {v} {Q:Unit->Yc->Prop} (I:Inv X Q0 σ H s) (hN:X.N.Nodup) (hi:X.N[i]? = some x) (C:Loc X.env.scope x) (r:RelV v u)
 (h:∀s',Inv X Q0 (σ.set i (some v)) H s'->(∃a,Heap.SameBut a s.heap s'.heap/\(a=X.env.locals\/X.env.cells.lookup x=some a))->Q () s') (hf:X.fn x=true\/X.env.scope.names.lookup x=some .local:=by first|exact .inl rfl|exact .inr rfl|assumption):wpAny M A (storeName X.env x u) Q E s:=by
 obtain⟨m,hn,hl⟩:=id I.loc;have Y:(X.env.scope.kind==.class||(X.env.scope.kind==.module&&X.env.locals != X.env.globals))=false:=by rw[I.ok.kind];rfl
 have J:i<σ.length:=by rw[I.len];exact(ZL.mp hi).1
 have cne:=I.cne;have l:∀{a}{h'},(∃o,s.heap.get? a=some o/\H a=none)->Heap.SameBut a s.heap h'->HOk X.prog X.w H h':=fun{a h'} ha f b ob e=>by
  obtain⟨_,_,D⟩:=ha;refine(I.hok b ob e).stay (fun c w' B q=>(f.2 c ?_).trans q) (fun _ q=>q) fun _ _ q=>q
  rintro rfl
  rcases B with rfl|B
  . rw[D]at e;cases e
  . rw[D]at B;cases B
 rcases C with hk|hk
 . refine wpAny_storeName_local hk hn (fun h' hn' f=>?_) Y
   obtain⟨oL,_,_,hoL,_⟩:=id hn;refine h _ ⟨I.ok,I.os,I.bare,⟨fun b o e n S C=>?_,fun b o e n S C=>?_,I.base.free,fun b o e C=>?_,I.base.tups,I.base.frzs,I.base.tbls⟩,⟨_,hn',fun j y v' t G e3=>?_⟩,fun y c e=>?_,I.free,I.freeC,fun p hp=>?_,l ⟨oL,hoL,I.free⟩ f,by simpa using I.len⟩ ⟨_,f,.inl rfl⟩
   . exact(f.2 b (ZI (ZC (ZT e) I.ok.above))).trans (I.base.keep b o e n S C)
   . obtain⟨sl,t⟩:=I.base.slot b o e n S C;exact⟨sl,(f.2 b (ZI (ZC (ZT e) I.ok.above))).trans t⟩
   . obtain⟨o',t⟩:=I.base.there b o e C;exact⟨o',(f.2 b (ZI (ZC (ZT e) I.ok.above))).trans t⟩
   . by_cases L:j=i
     . subst L;rw[hi]at t;cases t;rw[List.getElem?_set_self J]at G;cases G;exact⟨u,r,.inl ⟨hk,by simp⟩⟩
     . rw [List.getElem?_set_ne (Ne.symm L)] at G;obtain ⟨u',r',q⟩:=hl j y v' t G e3;refine ⟨u',r',?_⟩;rcases q with ⟨k,e⟩ | ⟨k,c,e,z⟩
       . refine .inl ⟨k,?_⟩;have:y ≠ x:=fun e=>L (wg hN t (e ▸ hi))
         simp[this,e]
       . exact .inr ⟨k,c,e,z.sameBut f (cne y c e)⟩
   . obtain⟨w',z⟩:=I.cell y c e;exact⟨w',z.sameBut f (cne y c e)⟩
   . obtain⟨e,n,ne,nf,d⟩:=I.pin p hp;exact⟨(f.2 p.1 ne).trans e,n,ne,nf,d⟩
 . have O:X.fn x=true:=by
    rcases hf with z|z
    . exact z
    . rw[z]at hk;cases hk
   obtain⟨c,B⟩:=I.ok.has x (.inl hk);obtain⟨w',z⟩:=I.cell x c B;refine wpAny_storeName_cell I.ok.kind hk B z (fun h' hc' f=>?_)
   obtain⟨oc,V,U⟩:=id z;refine h { s with heap:=h' } ⟨I.ok,I.os,I.bare,⟨fun b o e n S C=>?_,fun b o e n S C=>?_,I.base.free,fun b o e C=>?_,I.base.tups,I.base.frzs,I.base.tbls⟩,⟨m,hn.sameBut f (Ne.symm (cne x c B)),fun j y v' t G e3=>?_⟩,fun y c' e=>?_,I.free,I.freeC,fun p hp=>?_,l ⟨oc,V,I.freeC x c B⟩ f,by simpa using I.len⟩ ⟨c,f,.inr B⟩
   . exact(f.2 b (ZI (ZC (ZT e) (I.ok.cab x c O B)))).trans (I.base.keep b o e n S C)
   . obtain⟨sl,t⟩:=I.base.slot b o e n S C;exact⟨sl,(f.2 b (ZI (ZC (ZT e) (I.ok.cab x c O B)))).trans t⟩
   . obtain⟨o',t⟩:=I.base.there b o e C;exact⟨o',(f.2 b (ZI (ZC (ZT e) (I.ok.cab x c O B)))).trans t⟩
   . by_cases L:j=i
     . subst L;rw[hi]at t;cases t;rw[List.getElem?_set_self J]at G;cases G;exact⟨u,r,.inr ⟨.inl hk,c,B,hc'⟩⟩
     . rw [List.getElem?_set_ne (Ne.symm L)] at G;obtain ⟨u',r',q⟩:=hl j y v' t G e3;refine ⟨u',r',?_⟩;rcases q with q | ⟨k,c',e,z'⟩
       . exact .inl q
       . refine .inr ⟨k,c',e,z'.sameBut f ?_⟩
         rintro rfl
         exact L (wg hN t (I.ok.inj _ _ _ e B▸hi))
   . by_cases Z:c'=c
     . subst Z;exact⟨_,hc'⟩
     . obtain⟨w2,z2⟩:=I.cell y c' e;exact⟨w2,z2.sameBut f Z⟩
   . obtain⟨e,n,ne,nf,d⟩:=I.pin p hp;refine⟨(f.2 p.1 ?_).trans e,n,ne,nf,d⟩;intro q;rw[q,V]at e;have q':=ZG e;exact d w' (by rw[<- q'];exact U)
def vK{E:Yb->Yc->Prop}{v}{Q:Unit->Yc->Prop}(I:Inv X Q0 σ H s)(l:X.N.Nodup)(hi:X.N[i]?=some x)(f:Loc X.env.scope x)(r:RelV v u)
 (h:∀s',Inv X Q0 (σ.set i (some v)) H s'->Q () s') (j:X.fn x=true\/X.env.scope.names.lookup x=some .local:=by first|exact .inl rfl|exact .inr rfl|assumption):wpAny M A (storeName X.env x u) Q E s :=
 sU I l hi f r (fun s' m _=>h s' m) j
def Inv.call'(I:Inv X Q0 σ H s)(l:s'.os=s.os)(u:Un (frs X.stack) ch H H' s.heap s'.heap)(f:HOk X.prog X.w H' s'.heap)(m:AllBare s'.gens)
 (j:∀b∈ch,(b∈X.ex\/X.s₀.heap.objs.size<=b)/\b≠X.env.locals/\(∀x c,X.env.cells.lookup x=some c->c≠b)/\∀p∈X.pn++Q0,p.1≠b):Inv X Q0 σ H' s':=by
 obtain⟨h',g',d',t',o'⟩:=s';have e:=l;subst e;exact I.call u f m j
end
abbrev XK:=Value->Option Addr->Hp->Prop
abbrev St:=List (Option V)
abbrev VK:=V->Hp->Prop
abbrev TE:=St->Hp->VK->Prop
abbrev TT:=St->Hp->(Bool->Hp->Prop)->Prop
abbrev TA:=St->Hp->(List V->Hp->Prop)->Prop
structure GE where
 nx:St->Hp->Prop
 rt:VK
 bk:St->Hp->Prop:=fun _ _=>False
 ct:St->Hp->Prop:=fun _ _=>False
abbrev TS:=GE->St->Hp->Prop
def EP(X:Cx)(Q0:List (Addr×Obj))(σ:St)(Q:VK)(u:Value)(s':Shared):Prop:=∃v H',Inv X Q0 σ H' s'/\RelV v u/\Q v H'
def TP(X:Cx)(Q0:List (Addr×Obj))(σ:St)(Q:Bool->Hp->Prop)(b:Bool)(s':Shared):Prop:=∃H',Inv X Q0 σ H' s'/\Q b H'
def AP(X:Cx)(Q0:List (Addr×Obj))(σ:St)(Q:List V->Hp->Prop)(us:List Value)(s':Shared):Prop:=∃vs H',Inv X Q0 σ H' s'/\Vals vs us/\Q vs H'
def SP(X:Cx)(Q0:List (Addr×Obj))(D:GE)(f:Flow)(s':Shared):Prop :=
 match f with
 |.next=>∃σ' H',Inv X Q0 σ' H' s'/\D.nx σ' H'
 |.brk=>∃σ' H',Inv X Q0 σ' H' s'/\D.bk σ' H'
 |.cont=>∃σ' H',Inv X Q0 σ' H' s'/\D.ct σ' H'
 |.ret u=>∃v σ' H',Inv X Q0 σ' H' s'/\RelV v u/\D.rt v H'
def PE(X:Cx)(e:Expr)(t:TE):Prop :=
 ∀(Q0:List (Addr×Obj))(s:Shared)(σ:St)(H:Hp)(Q:VK),Inv X Q0 σ H s->t σ H Q->wpAny (model X.prog X.w) X.A (eval e X.env) (EP X Q0 σ Q) X.xe s
def PT(X:Cx)(e:Expr)(t:TT):Prop :=
 ∀(Q0:List (Addr×Obj))(s:Shared)(σ:St)(H:Hp)(Q:Bool->Hp->Prop),Inv X Q0 σ H s->t σ H Q->wpAny (model X.prog X.w) X.A (isTrue e X.env (eval e X.env)) (TP X Q0 σ Q) X.xe s
def PW(X:Cx)(e:Expr)(t:TT):Prop :=
 ∀(whole:Sem Value)(Q0:List (Addr×Obj))(s:Shared)(σ:St)(H:Hp)(Q:Bool->Hp->Prop),Inv X Q0 σ H s->t σ H Q->wpAny (model X.prog X.w) X.A (isTrue e X.env whole) (TP X Q0 σ Q) X.xe s
def PA(X:Cx)(es:List Expr)(t:TA):Prop :=
 ∀(pos:Pos)(Q0:List (Addr×Obj))(s:Shared)(σ:St)(H:Hp)(Q:List V->Hp->Prop),Inv X Q0 σ H s->t σ H Q->wpAny (model X.prog X.w) X.A (spliced (backTo pos (starEach es X.env))) (AP X Q0 σ Q) X.xe s
def PS(X:Cx)(st:Stmt)(t:TS):Prop :=
 ∀(Q0:List (Addr×Obj))(s:Shared)(σ:St)(H:Hp)(D:GE),Inv X Q0 σ H s->t D σ H->wpAny (model X.prog X.w) X.A (exec st X.env) (SP X Q0 D) X.xe s
def PSs(X:Cx)(st:List Stmt)(t:TS):Prop :=
 ∀(Q0:List (Addr×Obj))(s:Shared)(σ:St)(H:Hp)(D:GE),Inv X Q0 σ H s->t D σ H->wpAny (model X.prog X.w) X.A (execs st X.env) (SP X Q0 D) X.xe s
def thn{α:Type}{t}{Q Q':α->Yc->Prop}{E:Yb->Yc->Prop}(h:wpAny M A t Q E s)(f:∀a s,Q a s->Q' a s):wpAny M A t Q' E s:=wpAny_mono h f fun _ _ x=>x
def cW{t}{Q':Yb->Yc->Prop}{E:Yb->Yc->Prop}{Q}(h:wpAny M A t (EP X Q0 σ Q) E s)(k:∀{v s x H},Inv X Q0 σ H s->RelV x v->Q x H->Q' v s):wpAny M A t Q' E s:=thn h fun _ _ h=>h.elim fun _ h=>h.elim fun _ h=>k h.1 h.2.1 h.2.2
def qq{t}{Q':Yg Yb->Yc->Prop}{E:Yb->Yc->Prop}{Q:Yg V->Hp->Prop}(h:wpAny M A t (AP X Q0 σ Q) E s)(k:∀{v s x H},Inv X Q0 σ H s->Vals x v->Q x H->Q' v s):wpAny M A t Q' E s:=thn h fun _ _ h=>h.elim fun _ h=>h.elim fun _ h=>k h.1 h.2.1 h.2.2
def GM{t}{Q':Bool->Yc->Prop}{E:Yb->Yc->Prop}{Q:Bool->Hp->Prop}(h:wpAny M A t (TP X Q0 σ Q) E s)(k:∀{v s H},Inv X Q0 σ H s->Q v H->Q' v s):wpAny M A t Q' E s:=thn h fun _ _ h=>h.elim fun _ h=>k h.1 h.2
variable {X:Cx} {σ:St} {t:TA} {ta te tc:TE} {r r':Yg V->Hp->VK->Prop}
section
def GT(i:Nat):TE:=fun σ H Q=>∃v,σ[i]?=some (some v)/\Q v H
def tC(v:V):TE:=fun _ H Q=>Q v H
def Lr {pos} (B:X.N[i]?=some x) (q:Vis X.env.scope x) (j:(x==("__debug__":Str))=false:=by decide) (o:(x==("__classdict__":Str))=false:=by decide):PE X (.Name x pos) (GT i):=by
 intro Q0 s σ H Q I h;obtain⟨v,e,h⟩:=h;obtain⟨m,t,z⟩:=I.loc;obtain⟨u,r,l⟩:=z i x v B e q;have fin:EP X Q0 σ Q u s:=⟨v,H,I,r,h⟩;rcases l with⟨hk,y⟩|⟨hk,c,p,f⟩
 . exact wpAny_Name (wpAny_loadName_local I.ok.kind hk t y fin) j
 . rcases hk with hk | hk
   . exact wpAny_Name (wpAny_loadName_cell I.ok.kind hk p f fin) j
   . exact wpAny_Name (wpAny_loadName_free I.ok.kind hk p f fin o) j
def Lx{i j pos}:PE X (.Constant (.int i) j pos) (tC (.int i)):=fun _ _ _ H _ I h=>wpAny_Constant_int ⟨.int i,H,I.tok _,⟨_,rfl⟩,h⟩
def NU{b j pos}:PE X (.Constant (.bool b) j pos) (tC (.bl b)):=fun _ _ _ H _ I h=>Constant_bool ⟨.bl b,H,I,rfl,h⟩
def Lw{j pos}:PE X (.Constant .none j pos) (tC .non):=fun _ _ _ H _ I h=>Constant_none ⟨.non,H,I,rfl,h⟩
def Ls{x j pos}:PE X (.Constant (.str x) j pos) (tC (.str x)):=fun _ _ _ H _ I h=>Calls.Constant_str ⟨.str x,H,I.tok _,⟨_,rfl⟩,h⟩
def Gl(X:Cx)(x:Str):Prop:=X.env.kindOf x=some .globalImplicit
def p9{E:Yb->Yc->Prop}{pos}(I:Inv X Q0 σ H s)(j:Gl X x)(f:X.mg x=some u)(h:Q u s)
 (l:(x==("__debug__":Str))=false:=by decide):wpAny (model X.prog X.w) X.A (eval (.Name x pos) X.env) Q E s :=
 Calls.Name_function_global I.ok.kind j (Calls.loadGlobal_global (by rw[I.ok.glob];exact I.mod.glob.keeps I.bk) f h) l
def mh{E:Yb->Yc->Prop}{pos}(I:Inv X Q0 σ H s)(m:Gl X x)(l:X.mg x=none)(f:bootBuiltins x=some u)(h:Q u s)
 (j:x≠"__name__":=by decide) (o:(x==("__debug__":Str))=false:=by decide):wpAny (model X.prog X.w) X.A (eval (.Name x pos) X.env) Q E s:=by
 obtain⟨mb,h1,h2⟩:=I.mod.blt;exact Calls.Name_function_global I.ok.kind m (Calls.loadGlobal_builtin (by rw[I.ok.glob];exact I.mod.glob.keeps I.bk) l (by rw[I.ok.blt];exact h1.keeps I.bk) ((h2 x j).trans f) h) o
def pX {v} {pos} (j:Gl X x) (f:X.mg x=some u) (r:RelV v u) (l:(x==("__debug__":Str))=false:=by decide):PE X (.Name x pos) (tC v) :=
 fun _ _ _ H _ I h=>p9 I j f ⟨v,H,I,r,h⟩ l
def Ig {v} {pos} (m:Gl X x) (l:X.mg x=none) (f:bootBuiltins x=some u) (r:RelV v u) (j:x≠"__name__":=by decide) (o:(x==("__debug__":Str))=false:=by decide):PE X (.Name x pos) (tC v) :=
 fun _ _ _ H _ I h=>mh I m l f ⟨v,H,I,r,h⟩ j o
variable {a b:Expr} {tb:TE} {pos:Pos}
def tB(t:TE):TT:=fun σ H Q=>t σ H fun x H1=>∃c,x=.bl c/\Q c H1
def xC{t}(h:PE X e t)(he:∀f,isTrue e X.env f=(do let v <- f;standAt e.pos;holding [v] (truthy v)):=by intro _;rfl):PT X e (tB t):=by
 intro Q0 s σ H Q I m;refine isTrue_plain (cW (h Q0 s σ H _ I m) fun{v p x H1} o j l=>?_) (he _)
 obtain⟨d,rfl,q⟩:=l;cases j;exact wpAny_truthy_bool ⟨H1,o,q⟩
variable {tA tB':TT} {Q8:Yg Expr}
def Pc(t u:TT):TT:=fun σ H Q=>t σ H fun c H1=>if c=true then u σ H1 Q else Q false H1
def tOr(t u:TT):TT:=fun σ H Q=>t σ H fun c H1=>if c=true then Q true H1 else u σ H1 Q
def O7(t:TT):TT:=fun σ H Q=>t σ H fun c H1=>Q (!c) H1
def pw_and1(f:PT X a tA):PW X (.BoolOp .And [a] pos) tA:=by
 intro j Q0 s σ H Q I h;refine isTrue_and (thn (f Q0 s σ H Q I h) fun c l e=>?_)
 cases c with
 |true=>exact isTrue_and_nil e
 |false=>exact e
def KP(f:PT X a tA):PW X (.BoolOp .Or [a] pos) tA:=by
 intro j Q0 s σ H Q I h;refine isTrue_or (thn (f Q0 s σ H Q I h) fun c l e=>?_)
 cases c with
 |false=>exact isTrue_or_nil e
 |true=>exact e
def pw_and(p:PT X a tA)(o:PW X (.BoolOp .And (b::Q8) pos) tB'):PW X (.BoolOp .And (a::b::Q8) pos) (Pc tA tB'):=by
 intro l Q0 s σ H Q I h;refine isTrue_and (GM (p Q0 s σ H _ I h) fun{c m H1} j f=>?_)
 cases c with
 |true=>exact o l Q0 m σ H1 Q j f
 |false=>exact⟨H1,j,f⟩
def NJ(p:PT X a tA)(o:PW X (.BoolOp .Or (b::Q8) pos) tB'):PW X (.BoolOp .Or (a::b::Q8) pos) (tOr tA tB'):=by
 intro l Q0 s σ H Q I h;refine isTrue_or (GM (p Q0 s σ H _ I h) fun{c m H1} j f=>?_)
 cases c with
 |true=>exact⟨H1,j,f⟩
 |false=>exact o l Q0 m σ H1 Q j f
def K8(f:PT X a tA):PT X (.UnaryOp .Not a pos) (O7 tA):=by intro Q0 s σ H Q I h;exact isTrue_not (f Q0 s σ H (fun c H1=>Q (!c) H1) I h)
def Nm(ta tb:TE):TE:=fun σ H Q=>ta σ H fun x H1=>∃c,x=.bl c/\if c=true then tb σ H1 Q else Q (.bl false) H1
def O6(ta tb:TE):TE:=fun σ H Q=>ta σ H fun x H1=>∃c,x=.bl c/\if c=true then Q (.bl true) H1 else tb σ H1 Q
def Ng(ta:TE):TE:=fun σ H Q=>ta σ H fun x H1=>∃c,x=.bl c/\Q (.bl (!c)) H1
def Lu{op}{t}(h:PE X a t):PE X (.BoolOp op [a] pos) t:=fun Q0 s σ H Q I f=>BoolOp_one (h Q0 s σ H Q I f)
def Ly(p:PE X a ta)(o:PE X (.BoolOp .And (b::Q8) pos) tb):PE X (.BoolOp .And (a::b::Q8) pos) (Nm ta tb):=by
 intro Q0 s σ H Q I h;refine BoolOp_and (cW (p Q0 s σ H _ I h) fun{v l x H1} j m f=>?_)
 obtain⟨c,rfl,f⟩:=f;cases m;refine wpAny_truthy_bool ?_;cases c with
 |true=>exact o Q0 l σ H1 Q j f
 |false=>exact⟨.bl false,H1,j,rfl,f⟩
def NT(p:PE X a ta)(o:PE X (.BoolOp .Or (b::Q8) pos) tb):PE X (.BoolOp .Or (a::b::Q8) pos) (O6 ta tb):=by
 intro Q0 s σ H Q I h;refine BoolOp_or (cW (p Q0 s σ H _ I h) fun{v l x H1} j m f=>?_)
 obtain⟨c,rfl,f⟩:=f;cases m;refine wpAny_truthy_bool ?_;cases c with
 |false=>exact o Q0 l σ H1 Q j f
 |true=>exact⟨.bl true,H1,j,rfl,f⟩
def Lv(l:PE X a ta):PE X (.UnaryOp .Not a pos) (Ng ta):=by
 intro Q0 s σ H Q I h;refine UnaryOp_ (cW (l Q0 s σ H _ I h) fun{v o x H1} m j f=>?_)
 obtain⟨c,rfl,f⟩:=f;cases j;exact not_of (wpAny_truthy_bool ⟨.bl (!c),H1,m,rfl,f⟩)
def tIf(t:TT)(ta tb:TE):TE:=fun σ H Q=>t σ H fun c H1=>if c=true then ta σ H1 Q else tb σ H1 Q
def qI(m:PT X c tA)(p:PE X a ta)(o:PE X b tb):PE X (.IfExp c a b pos) (tIf tA ta tb):=by
 intro Q0 s σ H Q I h;refine wpAny_IfExp (GM (m Q0 s σ H _ I h) fun{d f H1} l j=>?_)
 cases d with
 |true=>exact p Q0 f σ H1 Q l j
 |false=>exact o Q0 f σ H1 Q l j
end
def SqL(K:ZA)(H:Hp)(a:Addr)(xs:List V):Prop :=
 Rd H a (.lst xs)\/
  ∃(o:Obj) (Q1:Array Value) (n:Nat),K.lookup a=some o/\o.cls=.type "list"/\o.dict=none/\o.data=.seq Q1 n/\Q1.size<=sizeLine/\Vals xs Q1.toList
def SqT(K:ZA)(H:Hp)(a:Addr)(xs:List V):Prop :=
 Rd H a (.tup xs)\/
  ∃(o:Obj) (Q1:Array Value) (n:Nat),K.lookup a=some o/\o.cls=.type "tuple"/\o.data=.seq Q1 n/\Q1.size<=sizeLine/\Vals xs Q1.toList
noncomputable def PC:Value->Option V
 |.none=>some .non
 |.bool b=>some (.bl b)
 |.int i _=>some (.int i)
 |.str x _=>some (.str x)
 |.ref a=>some (.ref a)
 |.type n=>some (.ty n)
 |_=>none
def RelV.abs{x}(r:RelV x u):PC u=some x:=by
 cases x with
 |non=>cases r;rfl
 |bl _=>cases r;rfl
 |int _=>obtain⟨t,rfl⟩:=r;rfl
 |str _=>obtain⟨t,rfl⟩:=r;rfl
 |ref _=>cases r;rfl
 |ty _=>cases r;rfl
def RelV.inj{x:V}(r:RelV x u)(q:RelV y u):x=y:=ZG (r.abs.symm.trans q.abs)
theorem Vals.inj:∀{xs ys:Yg V}{us:Yg Yb},Vals xs us->Vals ys us->xs=ys
 |_,_,_,.nil,.nil=>rfl
 |_,_,_,.cons r t,.cons r' t'=>by rw[r.inj r',Vals.inj t t']
section
variable {xs:Yg V}
def SqL.of(h:H a=some (.lst xs)):SqL K H a xs:=.inl (.inl h)
def SqT.of(h:H a=some (.tup xs)):SqT K H a xs:=.inl (.inl h)
def Inv.list(I:Inv X Q0 σ H s)(h:SqL X.K H a xs):∃Q1:Yg Yb,Vals xs Q1/\PlainL s.heap a Q1.toArray/\xs.length<=sizeLine:=by
 rcases h with h|⟨o,Q1,n,hk,l,j,f,m,r⟩
 . obtain⟨z,Q1,n,r,e⟩:=h.ok I.hok;exact⟨Q1,r,⟨_,n,e,rfl,rfl,rfl⟩,z⟩
 . refine ⟨Q1.toList,r,⟨o,n,I.kIn a o hk,l,j,by simpa using f⟩,?_⟩
   have e:=r.length;simp only[Array.length_toList]at e;omega
def Inv.tuple(I:Inv X Q0 σ H s)(h:SqT X.K H a xs):∃Q1,Vals xs Q1/\IsTup s.heap a Q1.toArray/\xs.length<=sizeLine:=by
 rcases h with h|⟨o,Q1,n,hk,j,f,l,r⟩
 . obtain⟨z,Q1,r,p⟩:=h.ok I.hok;exact⟨Q1,r,p,z⟩
 . refine ⟨Q1.toList,r,⟨o,I.kIn a o hk,j,n,by simpa using f⟩,?_⟩
   have e:=r.length;simp only[Array.length_toList]at e;omega
def Inv.list_inj(I:Inv X Q0 σ H s)(h:SqL X.K H a xs)(h':SqL X.K H a ys):xs=ys:=by
 obtain⟨Q1,r,⟨o,n,e,_,_,d⟩,_⟩:=I.list h;obtain⟨X6,r',⟨o',j,f,_,_,d'⟩,_⟩:=I.list h';rw[e]at f;cases f;rw[d]at d';injection d' with d1 _
 have:Q1=X6:=by simpa using Z8 Array.toList d1
 subst this;exact r.inj r'
def Inv.tuple_inj(I:Inv X Q0 σ H s)(h:SqT X.K H a xs)(h':SqT X.K H a ys):xs=ys:=by
 obtain⟨Q1,r,⟨o,e,_,n,d⟩,_⟩:=I.tuple h;obtain⟨X6,r',⟨o',f,_,j,d'⟩,_⟩:=I.tuple h';rw[e]at f;cases f;rw[d]at d';injection d' with d1 _
 have:Q1=X6:=by simpa using Z8 Array.toList d1
 subst this;exact r.inj r'
end
noncomputable abbrev Cx.wish(X:Cx)(E:Value->Shared->Prop):Cx:={ X with xe:=E }
noncomputable abbrev Cx.nox(X:Cx):Cx:=X.wish fun _ _=>False
def Cx.Ok.wish(ok:X.Ok)(E:Yb->Yc->Prop):(X.wish E).Ok :=
 ⟨ok.mod,ok.kind,ok.glob,ok.blt,ok.above,ok.inj,ok.has,ok.cab,ok.hd,ok.frames,ok.stk,ok.exf,ok.bs,ok.bsz,ok.noex,ok.exfs,ok.funs,ok.frf⟩
def Cx.Ok.unwish{E:Yb->Yc->Prop}(ok:(X.wish E).Ok):X.Ok :=
 ⟨ok.mod,ok.kind,ok.glob,ok.blt,ok.above,ok.inj,ok.has,ok.cab,ok.hd,ok.frames,ok.stk,ok.exf,ok.bs,ok.bsz,ok.noex,ok.exfs,ok.funs,ok.frf⟩
section
variable {E:Yb->Yc->Prop}
theorem Inv.wish(I:Inv X Q0 σ H s)(E:Yb->Yc->Prop):Inv (X.wish E) Q0 σ H s:=⟨I.ok.wish E,I.os,I.bare,I.base,I.loc,I.cell,I.free,I.freeC,I.pin,I.hok,I.len⟩
theorem Inv.unwish(I:Inv (X.wish E) Q0 σ H s):Inv X Q0 σ H s:=⟨I.ok.unwish,I.os,I.bare,I.base,I.loc,I.cell,I.free,I.freeC,I.pin,I.hok,I.len⟩
theorem SP.unwish{D}{f}(h:SP (X.wish E) Q0 D f s'):SP X Q0 D f s':=by
 cases f with
 |next=>obtain⟨j,H',I,q⟩:=h;exact⟨j,H',I.unwish,q⟩
 |brk=>obtain⟨j,H',I,q⟩:=h;exact⟨j,H',I.unwish,q⟩
 |cont=>obtain⟨j,H',I,q⟩:=h;exact⟨j,H',I.unwish,q⟩
 |ret u=>obtain⟨v,j,H',I,r,q⟩:=h;exact⟨v,j,H',I.unwish,r,q⟩
def PSs.nox{st}{t}(h:PSs X.nox st t):PSs X st t:=fun Q0 s σ H D I f =>wpAny_mono (h Q0 s σ H D (I.wish _) f) (fun _ _ q=>q.unwish) fun _ _ z=>Z9 z
end
section
variable {Q8:Yg Stmt} {t u:TS} {pos:Pos}
def Nh:TS:=fun D σ H=>D.nx σ H
def O4(t u:TS):TS:=fun D σ H=>t { D with nx:=u D } σ H
def HG:PSs X [] Nh:=fun _ _ σ H _ I h=>wpAny_execs_nil ⟨σ,H,I,h⟩
def DP(h1:PS X st t)(h2:PSs X Q8 u):PSs X (st::Q8) (O4 t u):=by
 intro Q0 s σ H D I h;refine wpAny_execs_cons (thn (h1 Q0 s σ H { D with nx:=u D } I h) fun f l q=>?_)
 cases f with
 |next =>obtain⟨j,H',m,q⟩:=q;exact h2 Q0 l j H' D m q
 |ret v=>exact q
 |brk=>exact q
 |cont=>exact q
def HF(h1:PS X st t):PSs X [st] t:=by
 intro Q0 s σ H D I h;refine wpAny_execs_cons (thn (h1 Q0 s σ H D I h) fun f j q=>?_)
 cases f with
 |next=>exact wpAny_execs_nil q
 |ret v=>exact q
 |brk=>exact q
 |cont=>exact q
def Inv.quiet(I:Inv X Q0 σ H s):interactive X.env=false:=by simp[interactive,I.ok.kind]
def Ni(te:TE):TS:=fun D σ H=>te σ H fun _ H1=>D.nx σ H1
def pW(he:PE X e te)(j:swapsWith e none pos.line X.env=pure false:=by rfl):PS X (.Expr e pos) (Ni te):=by intro Q0 s σ H D I h;exact wpAny_Expr_any (cW (he Q0 s σ H _ I h) fun{v m x H1} l o f=>⟨σ,H1,l,f⟩) I.quiet j
def O5(te:TE):TS:=fun D σ H=>te σ H D.rt
def K9(he:PE X e te):PS X (.Return (some e) pos) (O5 te):=by intro Q0 s σ H D I h;exact wpAny_Return_some (cW (he Q0 s σ H _ I h) fun{v m x H1} l f j=>⟨x,σ,H1,l,f,j⟩)
def O9(c:TT)(t u:TS):TS:=fun D σ H=>c σ H fun b H1=>if b=true then t D σ H1 else u D σ H1
def JZ{a b}{tc}(m:PT X c tc)(p:PSs X a t)(o:PSs X b u):PS X (.If c a b pos) (O9 tc t u):=by
 intro Q0 s σ H D I h;refine wpAny_If (GM (m Q0 s σ H _ I h) fun{d f H1} l j=>?_)
 cases d with
 |true=>exact p Q0 f σ H1 D l j
 |false=>exact o Q0 f σ H1 D l j
def Kr:TS:=fun _ _ _=>False
def DT:PS X st Kr:=fun _ _ _ _ _ _ h=>h.elim
end
abbrev TG:=V->St->Hp->(St->Hp->Prop)->Prop
abbrev TGs:=List V->St->Hp->(St->Hp->Prop)->Prop
def PG(X:Cx)(target:Expr)(t:TG):Prop :=
 ∀(Q0:List (Addr×Obj))(s:Shared)(σ:St)(H:Hp)(v:V)(u:Value)(Q:St->Hp->Prop),Inv X Q0 σ H s->RelV v u->t v σ H Q ->
  wpAny (model X.prog X.w) X.A (assign target X.env u) (fun _ s'=>∃σ' H',Inv X Q0 σ' H' s'/\Q σ' H') X.xe s
def PGs(X:Cx)(ts:List Expr)(t:TGs):Prop :=
 ∀(Q0:List (Addr×Obj))(s:Shared)(σ:St)(H:Hp)(vs:List V)(us:List Value)(Q:St->Hp->Prop),Inv X Q0 σ H s->Vals vs us->t vs σ H Q ->
  wpAny (model X.prog X.w) X.A (assignInOrder ((assignEach ts X.env).map (·.2)) us) (fun _ s'=>∃σ' H',Inv X Q0 σ' H' s'/\Q σ' H') X.xe s
abbrev OT:=V->V->V->Hp->(Hp->Prop)->Prop
def OU(X:Cx)(t:OT):Prop :=
 ∀(Q0:List (Addr×Obj))(s:Shared)(σ:St)(H:Hp)(o i v:V)(ov iv u:Value)(Q:Hp->Prop),Inv X Q0 σ H s->RelV o ov->RelV i iv->RelV v u->t o i v H Q ->
  wpAny (model X.prog X.w) X.A (setItem ov iv u) (fun _ s'=>∃H',Inv X Q0 σ H' s'/\Q H') X.xe s
section
variable {pos:Pos}
def tQ(i:Nat):TG:=fun v σ H Q=>Q (σ.set i (some v)) H
def Ic(l:X.N.Nodup)(hi:X.N[i]?=some x)(f:Loc X.env.scope x)(j:X.fn x=true\/X.env.scope.names.lookup x=some .local:=by first|exact .inl rfl|exact .inr rfl|assumption):PG X (.Name x pos) (tQ i):=by intro Q0 s σ H v u Q I r h;exact wpAny_assign_Name (vK I l hi f r (fun s' m=>⟨_,H,m,h⟩) j)
noncomputable def Oo:TGs:=fun vs σ H Q=>vs=[]/\Q σ H
def J9(t:TG)(u:TGs):TGs:=fun vs σ H Q=>∃v r,vs=v::r/\t v σ H fun σ' H'=>u r σ' H' Q
def Ib:PGs X [] Oo:=by intro Q0 s σ H vs us Q I r h;obtain⟨e,h⟩:=h;subst e;cases r;exact assignInOrder_nil ⟨σ,H,I,h⟩
def Ei{t}{u}(h1:PG X e t)(h2:PGs X es u)
 (o:(assignEach (e::es) X.env).map (·.2)=assign e X.env::(assignEach es X.env).map (·.2):=by rfl):PGs X (e::es) (J9 t u):=by
 intro Q0 s σ H vs us Q I r h;obtain⟨v,x,p,h⟩:=h;subst p;cases r with
 |cons r l =>
  rw[o];refine assignInOrder_cons (thn (h1 Q0 s σ H _ _ _ I r h) fun _ j ⟨f,H1,q,m⟩=>?_)
  exact h2 Q0 j f H1 _ _ Q q l m
def IV(K:ZA)(n:Nat)(t:TGs):TG:=fun v σ H Q=>∃a xs,v=.ref a/\SqT K H a xs/\xs.length=n/\t xs σ H Q
def Lp{t}(z:X.calm=true)(h:PGs X es t)
 (x:(assignEach es X.env).length=n:=by rfl) (j:(assignEach es X.env).findIdx? (·.1)=none:=by rfl):PG X (.Tuple es k pos) (IV X.K n t):=by
 intro Q0 s σ H v u Q I r f;obtain⟨a,xs,B,q,y,f⟩:=f;subst B;cases r;obtain⟨Q1,l,p,D⟩:=I.tuple q;refine assign_Tuple_tuple (I.ok.hd z) p (by simp[x,<- y,l.length]) j fun h' m=>?_
 have C:=I.kept (t':=s.toks) fun b o e=>m b o (ZI (ZT e)) e
 exact h Q0 _ σ H xs _ Q C (by simpa using l) f
def Pr(to ti:TE)(t:OT):TG:=fun v σ H Q=>to σ H fun o H1=>ti σ H1 fun i H2=>t o i v H2 fun H3=>Q σ H3
def Lq{i}{to ti}{t}(D:PE X o to)(hi:PE X i ti)(C:OU X t)
 (G:∀ v,assign (.Subscript o i pos) X.env v=(do
  let f <- holding [v] (eval o X.env)
  let iv <- holding [v,f] (eval i X.env)
  standAt pos
  holding [v,f,iv] (setItem f iv v)
  release [v,f,iv] []):=by intro _;rfl):PG X (.Subscript o i pos) (Pr to ti t):=by
 intro Q0 s σ H v u Q I r h;rw[G];refine Z2 (wpAny_holding (cW (D Q0 s σ H _ I h) fun{f l x H1} O p B=>?_))
 refine Z2 (wpAny_holding (cW (hi Q0 l σ H1 _ O B) fun{iv j y H2} L m z=>?_))
 refine Z2 (wpAny_standAt (Z2 (wpAny_holding (thn (C Q0 j σ H2 x y v f iv u _ L p m r z) fun _ U ⟨S,J,q⟩=>?_))))
 exact wpAny_release ⟨σ,S,J,q⟩
def Nl(te:TE)(g:TG):TS:=fun D σ H=>te σ H fun x H1=>g x σ H1 D.nx
def DV{g}(he:PE X e te)(p:PG X tg g)(o:swapsWithSole [tg] e pos.line X.env=pure false:=by rfl)(m:swappedStores [tg] e X.env=pure none:=by rfl)
 (h1:(assignEach [tg] X.env).map (·.2)=[assign tg X.env]:=by rfl):PS X (.Assign [tg] e pos) (Nl te g):=by
 intro Q0 s σ H D I h;refine wpAny_Assign_stores (cW (he Q0 s σ H _ I h) fun{v f x H1} r j l=>?_) o m
 rw[h1];exact thn (p Q0 f σ H1 x v _ r j l) fun _ t q=>q
def DR(p:X.N.Nodup)(hi:X.N[i]?=some x)(l:Loc X.env.scope x)(he:PE X e te)(m:swapsWith e (some (.Name x X2)) pos.line X.env=pure false:=by rfl)(o:X.fn x=true\/X.env.scope.names.lookup x=some .local:=by first|exact .inl rfl|exact .inr rfl|assumption) :
 PS X (.Assign [.Name x X2] e pos) (Nl te (tQ i)):=by
 intro Q0 s σ H D I h;refine wpAny_Assign_Name (cW (he Q0 s σ H _ I h) fun{v u y H1} r f j=>?_) m
 exact vK r p hi l f (fun t q=>⟨_,H1,q,j⟩) o
def Kq(c:TT)(tb:TS):TS:=fun D σ H=>∃W:Nat->St->Hp->Prop,(∃m,W m σ H)/\∀m σ H,W m σ H ->
 c σ H fun b H1=>if b=true then ∃N:St->Hp->Prop,(∀σ' H',N σ' H'->∃m',m'<m/\W m' σ' H')/\tb { D with nx:=N,ct:=N,bk:=D.nx } σ H1 else D.nx σ H1
def DQ{tc}{tb}(z:PassesOwn (model X.prog X.w) X.A X.env X.xe)(Q:PT X c tc)(S:PSs X body tb):PS X (.While c body [] pos) (Kq tc tb):=by
 intro Q0 s σ H D I h;obtain⟨W,⟨O,G⟩,m⟩:=h;refine wpAny_While (codeAny_whileLoop (fun n s'=>∃l H',Inv X Q0 l H' s'/\W n l H') ?_ O ⟨σ,H,I,G⟩)
 rintro n L ⟨σ1,H1,I1,w1⟩
 refine wpAny_passesOwn z (thn (Q Q0 L σ1 H1 _ I1 (m n σ1 H1 w1)) fun b J ⟨H2,C,q⟩=>?_)
 cases b with
 |true =>
  obtain⟨N,B,q⟩:=q;rw[if_pos rfl];refine wpAny_passesOwn z (thn (S Q0 J σ1 H2 _ C q) fun f U p=>?_)
  cases f with
  |next =>obtain⟨j,o,y,t⟩:=p;obtain⟨u,x,r⟩:=B j o t;exact⟨u,x,j,o,y,r⟩
  |cont =>obtain⟨j,o,y,t⟩:=p;obtain⟨u,x,r⟩:=B j o t;exact⟨u,x,j,o,y,r⟩
  |brk=>exact p
  |ret v=>exact p
 |false =>rw[if_neg ZB];exact wpAny_execs_nil ⟨σ1,H2,C,q⟩
end
structure It where
 go:Nat->Hp->Prop
 yld:Nat->Hp->V->Hp->Prop
 stop:Nat->Hp->Prop
def nZ(X:Cx)(Q0:List (Addr×Obj))(H:Hp)(b:Addr):Prop :=
 H b=none/\b≠X.env.locals/\b∉X.fs/\(b∈X.ex\/X.s₀.heap.objs.size<=b)/\(∀x c,X.env.cells.lookup x=some c->c≠b)/\∀p∈X.pn++Q0,p.1≠b
def Inv.fpOk(I:Inv X Q0 σ H s)(f:s.heap.objs.size<=b)(l:H' b=none):nZ X Q0 H' b:=by
 refine⟨l,Nat.ne_of_gt (ZC I.lt f),I.nofs f,.inr (ZY I.sz f),fun x c e z=>?_,fun p j z=>?_⟩
 . obtain⟨v,q⟩:=I.cell x c e;exact absurd (ZC q.lt (by rw[z];exact f)) (ZJ _)
 . exact absurd (ZC (ZT (I.pin p j).1) (by rw[z];exact f)) (ZJ _)
structure w9(P:Program)(w:World)(K:ZA)(tg:Expr)(J:It)(fp:List Addr)(it:Addr)(tn:Nat->Heap->Prop):Prop where
 mem:it∈fp
 obj:∀i h,tn i h->∀b∈fp,∃o,h.get? b=some o/\∀v,o.data≠.cell v
 keep:∀i h h',tn i h->(∀b∈fp,∀o,h.get? b=some o->h'.get? b=some o)->tn i h'
 item:∀(X:Cx),X.prog=P->X.w=w->X.K=K->X.calm=true->∀(i:Nat)(Q0:List (Addr×Obj))(s:Shared)(σ:St)(H:Hp)(E:Value->Shared->Prop),Inv X Q0 σ H s->(∀b∈fp,nZ X Q0 H b)->tn i s.heap->J.go i H ->
  wpAny (model P w) X.A (pyNext (.ref it)) (fun r s1=>∃u,r=some u /\
   wpAny (model P w) X.A (letOwnedTupleGo tg (.ref it) u) (fun _ s2=>∃x H',Inv X Q0 σ H' s2/\RelV x u/\J.yld i H x H'/\tn (i+1) s2.heap/\∀b∈fp,H' b=none) E s1) E s
 done:∀(X:Cx),X.prog=P->X.w=w->X.K=K->X.calm=true->∀(i:Nat)(Q0:List (Addr×Obj))(s:Shared)(σ:St)(H:Hp)(E:Value->Shared->Prop),Inv X Q0 σ H s->(∀b∈fp,nZ X Q0 H b)->tn i s.heap->J.stop i H ->
  wpAny (model P w) X.A (pyNext (.ref it)) (fun r s1=>r=none/\Inv X Q0 σ H s1) E s
 self:∀(A:Around)(i:Nat)(s:Shared)(Q:Value->Shared->Prop)(E:Value->Shared->Prop),tn i s.heap->Q (.ref it) s->wpAny (model P w) A (pyIter (.ref it)) Q E s
abbrev TI:=St->Hp->(It->Hp->Prop)->Prop
def PIE(X:Cx)(Q0:List (Addr×Obj))(σ:St)(tg:Expr)(R:It->Hp->Prop)(itv:Value)(s2:Shared):Prop :=
 ∃(it:Addr)(fp:List Addr)(tn:Nat->Heap->Prop)(J:It)(H':Hp),itv=.ref it/\Inv X Q0 σ H' s2/\w9 X.prog X.w X.K tg J fp it tn/\tn 0 s2.heap/\(∀b∈fp,nZ X Q0 H' b)/\R J H'
def PI(X:Cx)(tg iter:Expr)(wi:TI):Prop :=
 ∀(Q0:List (Addr×Obj))(s:Shared)(σ:St)(H:Hp)(R:It->Hp->Prop),Inv X Q0 σ H s->wi σ H R ->
  wpAny (model X.prog X.w) X.A (eval iter X.env) (fun v s1=>wpAny (model X.prog X.w) X.A (pyIter v) (PIE X Q0 σ tg R) X.xe s1) X.xe s
def zP{E:Yb->Yc->Prop}{it}{o}{n}{vs}{Q:Unit->Yc->Prop}(j:s.heap.get? it=some o)(p:o.cls=.type n)(m:o.data=.fields vs)
 (l:["enumerate","zip","dict_itemiterator","dict_reverseitemiterator","odict_iterator","itertools.zip_longest","itertools.pairwise"].contains n=false) (f:Q () s):wpAny M A (letOwnedTupleGo tg (.ref it) u) Q E s:=by
 unfold letOwnedTupleGo;cases tg<;>first
  |exact Z3 f
  |(cases u<;>first
   |exact Z3 f
   | (refine Z2 (wpAny_load j ?_)
      rw[p,m];show wpAny M A (if(["enumerate","zip","dict_itemiterator","dict_reverseitemiterator","odict_iterator","itertools.zip_longest","itertools.pairwise"].contains n&&vs[0]?==some (rawInt _))=true then _ else _) Q E s
      rw[if_neg (by intro h;rw[l,Bool.false_and]at h;cases h)]
      exact Z3 f))
def Itl(K:ZA)(a:Addr):It :=
 ⟨fun i H=>∃xs x,SqL K H a xs/\xs[i]?=some x,fun i H x H'=>H'=H/\∀xs,SqL K H a xs->xs[i]?=some x,fun i H=>∃xs,SqL K H a xs/\xs.length<=i⟩
noncomputable def Itr(lo:Int)(n:Nat):It:=⟨fun i _=>i<n,fun i H x H'=>H'=H/\x=.int (lo+i),fun i _=>n<=i⟩
def AI(a it:Yd):w9 P w K tg (Itl K a) [it] it (fun i h=>h.IsListIter it a i) where
 mem:=by simp
 obj:=fun i h st b f=>by
  have e:b=it:=by simpa using f
  subst e;obtain⟨o,e,c,d⟩:=st;exact⟨o,e,fun v z=>by rw[d]at z;cases z⟩
 keep:=fun i h h' st k=>st.at fun o e=>k it (by simp) o e
 item:=by
  intro X B t C O i Q0 s σ H E I m st y;subst B t C;obtain⟨xs,x,l,r⟩:=y;obtain⟨Q1,q,p,U⟩:=I.list l;obtain⟨u,Y,S⟩:=q.get r;obtain⟨L,f1,f2,J,G,D⟩:=m it (by simp)
  refine wpAny_pyNext_list_item st p.isList (by simpa using Y) fun h' j Q=>?_
  have I1:=I.turned (t':=s.toks) (fun b o f e=>(Q.2 b f).trans e) L f1 J G D
  obtain⟨o,e,c,d⟩:=id j;exact⟨u,rfl,zP e c d (by decide) ⟨x,H,I1,S,⟨rfl,fun ys V=>by rw[I.list_inj V l];exact r⟩,j,fun b f=>(m b f).1⟩⟩
 done:=by
  intro X B t C O i Q0 s σ H E I m st y;subst B t C;obtain⟨xs,l,r⟩:=y;obtain⟨Q1,q,p,U⟩:=I.list l;obtain⟨L,f1,f2,J,G,D⟩:=m it (by simp)
  have hl:=q.length;exact wpAny_pyNext_list_end (I.ok.hd O) st p.isList (by simp;omega) fun h' Z=>⟨rfl,I.turned (fun b o f e=>Z b o f e) L f1 J G D⟩
 self:=fun _ _ _ _ _ st h=>wpAny_pyIter_listiter st h
def xg(it) (lo) (n):w9 P w K tg (Itr lo n) [it] it (fun i h=>IsRangeIter h it (lo+(i:Nat)*1) ((n:Int)-(i:Nat)) 1) where
 mem:=by simp
 obj:=fun i h st b f=>by
  have e:b=it:=by simpa using f
  subst e;exact⟨_,st,fun v z=>by have D:=z;cases D⟩
 keep:=fun i h h' st k=>k it (by simp) _ st
 item:=by
  intro X r m u q i Q0 s σ H E I l st p;subst r m u;obtain⟨C,f1,f2,B,y,x⟩:=l it (by simp)
  have W:=Walks.range (prog:=X.prog) (w:=X.w) (I.ok.hd q) it lo 1 n;refine W.item i s _ _ p st fun v h' tk J j G=>?_
  obtain⟨t,rfl⟩:=J;have O:Inv X Q0 σ H { s with heap:=h',toks:=tk }:=I.turned (fun b o f e=>G b o (by simpa using f) e) C f1 B y x
  refine⟨_,rfl,zP j rfl rfl (by decide) ⟨.int (lo+i),H,O,⟨t,?_⟩,⟨rfl,rfl⟩,j,fun b f=>(l b f).1⟩⟩
  rw[Int.mul_one]
 done:=by
  intro X r m u q i Q0 s σ H E I l st p;subst r m u;obtain⟨C,f1,f2,B,y,x⟩:=l it (by simp)
  exact wpAny_pyNext_range_end (I.ok.hd q) st (by have:n<=i:=p;omega) fun h' L=>⟨rfl,I.turned (fun b o f e=>L b o f e) C f1 B y x⟩
 self:=fun _ _ _ _ _ st h=>wpAny_pyIter_rangeiter st h
section
def Om(K:ZA)(tl:TE):TI:=fun σ H R=>tl σ H fun x H1=>∃a,x=.ref a/\(∃xs,SqL K H1 a xs)/\R (Itl K a) H1
def H9{l}{tl}(u:PE X l tl):PI X tg l (Om X.K tl):=by
 intro Q0 s σ H R I h;refine cW (u Q0 s σ H _ I h) fun{v j x H1} f m r=>?_
 obtain⟨a,e,⟨xs,t⟩,q⟩:=r;subst e;cases m;obtain⟨Q1,z,p,B⟩:=f.list t;refine wpAny_pyIter_list p.isList ?_;refine⟨j.heap.objs.size,[j.heap.objs.size],_,_,H1,rfl,f.kept fun b o e=>ZS _ e,AI a _,⟨_,ZW _ rfl,rfl,rfl⟩,fun b y=>?_,q⟩
 have e:b=j.heap.objs.size:=by simpa using y
 subst e;exact f.fpOk (ZM _) (f.hok.fresh (ZM _))
def Dj{R:It->Hp->Prop}{E:Yb->Yc->Prop}{lo hi}{t u v}{tk}(I:Inv X Q0 σ H s)(h1:-(2^62)<=lo)(h2:lo<2^62)(m:-(2^62)<=hi)(l:hi<2^62)
 (q:R (Itr lo (hi-lo).toNat) H):wpAny (model X.prog X.w) X.A (pyIter (.ref s.heap.objs.size)) (PIE X Q0 σ tg R) E { s with heap:=s.heap.push { cls:=.type "range",data:=.fields #[.int lo t,.int hi u,.int 1 v] },toks:=tk }:=by
 refine wpAny_pyIter_range (IsRange.new ..) (small_one h1 h2 m l) ?_;have f:Inv X Q0 σ H { s with heap:=s.heap.push { cls:=.type "range",data:=.fields #[.int lo t,.int hi u,.int 1 v] },toks:=tk }:=I.kept fun b o e=>ZS _ e
 refine⟨(s.heap.push { cls:=.type "range",data:=.fields #[.int lo t,.int hi u,.int 1 v] }).objs.size,[(s.heap.push { cls:=.type "range",data:=.fields #[.int lo t,.int hi u,.int 1 v] }).objs.size],_,_,H,rfl,
  f.kept fun b o e=>ZS _ e,xg _ lo (hi-lo).toNat,?_,fun b j=>?_,q⟩
 . have r:lo+((0:Nat):Int)*1=lo:=by simp
   have p:(((hi-lo).toNat:Nat):Int)-((0:Nat):Int)=Builtin.Range.rangeSize lo hi 1:=by rw[rangeSize_one];split<;>omega
   rw[r,p];exact ZW _ rfl
 . have e:b=(s.heap.push { cls:=.type "range",data:=.fields #[.int lo t,.int hi u,.int 1 v] }).objs.size:=by simpa using j
   subst e;exact f.fpOk (ZM _) (f.hok.fresh (ZM _))
def Ol(ta:TA):TI:=fun σ H R=>ta σ H fun vs H1=>∃j:Int,vs=[.int j]/\-(2^62)<=j/\j<2^62/\R (Itr 0 j.toNat) H1
def Be {a} {ta} {pos} (x:Gl X "range") (v:X.mg "range" = none) (y:PA X [a] ta) (u:starEach [a] X.env=[(false,eval a X.env)]:=by rfl):PI X tg (.Call (.Name "range" p) [a] [] pos) (Ol ta):=by
 intro Q0 s σ H R I h;refine Call_ (mh I x v boot_range (PyProof.Rows.callWith_type1 (qq (y pos Q0 s σ H _ I h) fun{us B vs H1} z m f=>?_) u rfl))
 obtain⟨j,e,f,o,q⟩:=f;subst e;cases m with
 |cons r l =>cases l;obtain⟨t,rfl⟩:=r;exact call_range_1 (Dj z (by omega) (by omega) f o (by simpa using q))
def Pa(wi:TI)(g:TG)(tb:TS):TS:=fun D σ H=>wi σ H fun J H1=>∃W:Nat->Nat->St->Hp->Prop,(∃m,W 0 m σ H1)/\∀i m σ H,W i m σ H ->
 (J.stop i H/\D.nx σ H)\/(J.go i H/\∃N:St->Hp->Prop,(∀σ' H',N σ' H'->∃m',m'<m/\W (i+1) m' σ' H')/\∀x H',J.yld i H x H'->g x σ H' fun σ2 H2=>tb { D with nx:=N,ct:=N,bk:=D.nx } σ2 H2)
noncomputable def uE(fp:List Addr)(h:Heap):List (Addr×Obj):=fp.filterMap fun b=>(h.get? b).map fun o=>(b,o)
def jr{o}(f:b∈fp)(e:h.get? b=some o):(b,o)∈uE fp h:=List.mem_filterMap.mpr ⟨b,f,by rw[e];rfl⟩
def Bs{p}(f:p∈uE fp h):p.1∈fp/\h.get? p.1=some p.2:=by
 obtain⟨b,j,e⟩:=List.mem_filterMap.mp f;cases q:h.get? b with
 |none=>rw[q]at e;cases e
 |some o =>rw[q]at e;have l:=ZG e;subst l;exact⟨j,q⟩
def Inv.pinned(I:Inv X Q0 σ H s)(q:∀b∈fp,nZ X Q0 H b)(m:∀b∈fp,∃o,s.heap.get? b=some o/\∀v,o.data≠.cell v):Inv X (Q0++uE fp s.heap) σ H s :=
 I.pins_of fun p l=>(Zs.mp l).elim (fun z=>I.pin p (ZD _ z)) fun z=>by obtain⟨f,e⟩:=Bs z;obtain⟨r,f1,f2,_⟩:=q p.1 f;obtain⟨o,j,d⟩:=m p.1 f;rw[e]at j;cases j;exact⟨e,r,f1,f2,d⟩
def Inv.unpinned{pl}(I:Inv X (Q0++pl) σ H s):Inv X Q0 σ H s:=I.pins_of fun p f=>I.pin p (ZD _ (ZE _ f))
def DU {iter} {wi} {g} {tb} {pos} (Q:PassesOwn (model X.prog X.w) X.A X.env X.xe) (hc:X.calm=true) (hi:PI X tg iter wi) (hg:PG X tg g) (q:PSs X body tb)
 (hs:∀x,foldedSetIterable iter X.env x=pure x:=by intro _;rfl):PS X (.For tg iter body [] pos) (Pa wi g tb):=by
 intro Q0 s σ H D I h;refine wpAny_For (thn (hi Q0 s σ H _ I h) fun v s1 h1=>thn h1 fun itv s2 h2=>?_) hs
 obtain⟨it,fp,tn,J,H2,e,I2,T,U,f2,W,⟨m0,w0⟩,G⟩:=h2;subst e;have p:∀{H'},(∀b∈fp,H' b=none)->∀b∈fp,nZ X Q0 H' b:=fun hn b q=>⟨hn b q,(f2 b q).2⟩
 refine codeAny_forLoop_any (fun n s'=>∃i l H',Inv X Q0 l H' s'/\tn i s'.heap/\(∀b∈fp,H' b=none)/\W i n l H') ?_ m0 ⟨0,σ,H2,I2,U,fun b q=>(f2 b q).1,w0⟩
 rintro n s3 ⟨i,σ3,H3,I3,st3,fr3,w3⟩
 rcases G i n σ3 H3 w3 with⟨L,qn⟩|⟨go,N,hN,step⟩
 . refine wpAny_passesOwn Q (thn (T.done X rfl rfl rfl hc i Q0 s3 σ3 H3 X.xe I3 (p fr3) st3 L) fun r s4 ⟨Y,I4⟩=>?_)
   subst Y;exact wpAny_execs_nil ⟨σ3,H3,I4,qn⟩
 . refine wpAny_passesOwn Q (thn (T.item X rfl rfl rfl hc i Q0 s3 σ3 H3 X.xe I3 (p fr3) st3 go) fun r s4 ⟨u,Y,h4⟩=>?_)
   subst Y;refine wpAny_passesOwn Q (thn h4 fun _ s5 ⟨x,H5,I5,r5,y5,C,Z⟩=>?_)
   have I5':=I5.pinned (p Z) (T.obj _ _ C);refine wpAny_passesOwn Q (thn (hg _ s5 σ3 H5 x u _ I5' r5 (step x H5 y5)) fun _ s6 ⟨S,H6,I6,q6⟩=>?_)
   refine wpAny_passesOwn Q (thn (q _ s6 S H6 _ I6 q6) fun f V B=>?_)
   have t:∀{j}{z},Inv X (Q0++uE fp s5.heap) j z V->N j z->∃m,m<n/\∃i l H',Inv X Q0 l H' V/\tn i V.heap/\(∀b∈fp,H' b=none)/\W i m l H':=fun{j z} y O=>by
    obtain⟨m',hm,w7⟩:=hN j z O;refine⟨m',hm,i+1,j,z,y.unpinned,T.keep _ _ _ C fun b q o e=>(y.pin (b,o) (ZD _ (ZD _ (jr q e)))).1,fun b q=>?_,w7⟩
    obtain⟨o,e,d⟩:=T.obj _ _ C b q;exact(y.pin (b,o) (ZD _ (ZD _ (jr q e)))).2.1
   cases f with
   |next=>obtain⟨j,z,y,O⟩:=B;exact t y O
   |cont=>obtain⟨j,z,y,O⟩:=B;exact t y O
   |brk=>obtain⟨j,z,y,B⟩:=B;exact⟨j,z,y.unpinned,B⟩
   |ret v=>obtain⟨x7,j,z,y,r7,B⟩:=B;exact⟨x7,j,z,y.unpinned,r7,B⟩
end
abbrev R2:=V->V->Hp->VK->Prop
def OpR(X:Cx)(f:Value->Value->Sem Value)(r:R2):Prop :=
 ∀(Q0:List (Addr×Obj))(s:Shared)(σ:St)(H:Hp)(x y:V)(v u:Value)(Q:VK),Inv X Q0 σ H s->RelV x v->RelV y u->r x y H Q ->
  wpAny (model X.prog X.w) X.A (f v u) (EP X Q0 σ Q) X.xe s
def UnR(X:Cx)(f:Value->Sem Value)(r:V->Hp->VK->Prop):Prop :=
 ∀(Q0:List (Addr×Obj))(s:Shared)(σ:St)(H:Hp)(x:V)(v:Value)(Q:VK),Inv X Q0 σ H s->RelV x v->r x H Q ->
  wpAny (model X.prog X.w) X.A (f v) (EP X Q0 σ Q) X.xe s
def CallR(X:Cx)(f:Value)(r:List V->Hp->VK->Prop):Prop :=
 ∀(Q0:List (Addr×Obj))(s:Shared)(σ:St)(H:Hp)(xs:List V)(us:List Value)(Q:VK),Inv X Q0 σ H s->Vals xs us->r xs H Q ->
  wpAny (model X.prog X.w) X.A (call f us) (EP X Q0 σ Q) X.xe s
def tOp(r:R2)(ta tb:TE):TE:=fun σ H Q=>ta σ H fun x H1=>tb σ H1 fun y H2=>r x y H2 Q
def tUn(r:V->Hp->VK->Prop)(ta:TE):TE:=fun σ H Q=>ta σ H fun x H1=>r x H1 Q
def rI(C:Int->Int->Prop)(g:Int->Int->V):R2:=fun x y H Q=>∃i j,x=.int i/\y=.int j/\C i j/\Q (g i j) H
def rI0(g:Int->Int->V):R2:=fun x y H Q=>∃i j,x=.int i/\y=.int j/\Q (g i j) H
def rU(g:Int->V):V->Hp->VK->Prop:=fun x H Q=>∃i,x=.int i/\Q (g i) H
section
variable {a b:Expr} {tb:TE} {pos:Pos}
def MZ(B:PE X a ta)(z:PE X b tb){R:V->V->Hp->Prop}(I:Inv X Q0 σ H s)
 (h:ta σ H fun x H1=>tb σ H1 fun y H2=>R x y H2) 
 (t:∀v u l x y H2,Inv X Q0 σ H2 l->RelV x v->RelV y u->R x y H2->wpAny (model X.prog X.w) X.A (f v u) Q X.xe l) :
 wpAny (model X.prog X.w) X.A (eval a X.env) (fun v j=>wpAny (model X.prog X.w) X.A (eval b X.env) (fun u s₂=>wpAny (model X.prog X.w) X.A (f v u) Q X.xe s₂) X.xe j) X.xe s:=by
 refine cW (B Q0 s σ H _ I h) fun{v m x H1} D p r=>?_
 refine cW (z Q0 m σ H1 _ D r) fun{u l y H2} C o q=>?_
 exact t v u l x y H2 C p o q
def zm{op}{r}(m:OpR X (binaryOp op) r)(p:PE X a ta)(o:PE X b tb):PE X (.BinOp a op b pos) (tOp r ta tb):=by intro Q0 s σ H Q I h;exact wpAny_BinOp (MZ p o I h fun v u f x y H2 t l j q=>m Q0 f σ H2 x y v u Q t l j q)
def NS{op}{r:V->Hp->VK->Prop}(m:UnR X (unaryOp op) r)(o:PE X a ta):PE X (.UnaryOp op a pos) (tUn r ta):=by intro Q0 s σ H Q I h;exact UnaryOp_ (cW (o Q0 s σ H _ I h) fun{v f x H1} p j l=>m Q0 f σ H1 x v Q p j l)
def opI{C:Int->Int->Prop}{g:Int->Int->Int}
 (l:∀i j t u s Q E,C i j->Q (.int (g i j) s.toks) { s with toks:=s.toks+1 }->wpAny (model X.prog X.w) X.A (f (.int i t) (.int j u)) Q E s) :
 OpR X f (rI C fun i j=>.int (g i j)):=by
 intro Q0 s σ H x y v u Q I o m h;obtain⟨i,j,rfl,rfl,p,q⟩:=h;obtain⟨t,rfl⟩:=o;obtain⟨t',rfl⟩:=m;exact l i j t t' s _ _ p ⟨.int (g i j),H,I.tok _,⟨_,rfl⟩,q⟩
def N3{g:Int->Int->Int}
 (l:∀i j t u s Q E,Q (.int (g i j) s.toks) { s with toks:=s.toks+1 }->wpAny (model X.prog X.w) X.A (f (.int i t) (.int j u)) Q E s) :
 OpR X f (rI0 fun i j=>.int (g i j)):=by
 intro Q0 s σ H x y v u Q I o m h;obtain⟨i,j,rfl,rfl,q⟩:=h;obtain⟨t,rfl⟩:=o;obtain⟨t',rfl⟩:=m;exact l i j t t' s _ _ ⟨.int (g i j),H,I.tok _,⟨_,rfl⟩,q⟩
def L5{g:Int->Int->Bool}
 (l:∀i j t u s Q E,Q (.bool (g i j)) s->wpAny (model X.prog X.w) X.A (f (.int i t) (.int j u)) Q E s) :
 OpR X f (rI0 fun i j=>.bl (g i j)):=by
 intro Q0 s σ H x y v u Q I o m h;obtain⟨i,j,rfl,rfl,q⟩:=h;obtain⟨t,rfl⟩:=o;obtain⟨t',rfl⟩:=m;exact l i j t t' s _ _ ⟨.bl (g i j),H,I,rfl,q⟩
def CPow(i j:Int):Prop:=0<=j/\j<=1000000/\i.natAbs<2^64
def CMul(i j:Int):Prop:=(-(2^64)<i/\i<2^64)\/(-(2^64)<j/\j<2^64)
def op_add:OpR X (binaryOp .Add) (rI0 fun i j=>.int (i+j)):=N3 fun _ _ _ _ _ _ _ q=>add_int q
def Ey:OpR X (binaryOp .Sub) (rI0 fun i j=>.int (i-j)):=N3 fun _ _ _ _ _ _ _ q=>sub_int q
def L0:OpR X (binaryOp .Mod) (rI (fun _ j=>0<j) fun i j=>.int (i%j)):=opI fun i j _ _ _ _ _ f q=>by have h1:=f;exact mod_int' (by omega) (by rw[Int.fmod_eq_emod_of_nonneg i (by omega)];exact q)
def LZ:OpR X (binaryOp .Pow) (rI CPow fun i j=>.int (i^j.toNat)):=opI fun _ _ _ _ _ _ _ f q=>pow_int_small f.1 f.2.1 f.2.2 q
def unI{f}{g:Int->Int}
 (j:∀i t s Q E,Q (.int (g i) s.toks) { s with toks:=s.toks+1 }->wpAny (model X.prog X.w) X.A (f (.int i t)) Q E s) :
 UnR X f (rU fun i=>.int (g i)):=by
 intro Q0 s σ H x v Q I l h;obtain⟨i,rfl,q⟩:=h;obtain⟨t,rfl⟩:=l;exact j i t s _ _ ⟨.int (g i),H,I.tok _,⟨_,rfl⟩,q⟩
def Ko:UnR X (unaryOp .USub) (rU fun i=>.int (-i)):=unI fun _ _ _ _ _ q=>neg_int q
def yb{Q}{k k'}(I:Inv X Q0 σ H s)(q:Q (.bl k) H)(e:k=k'):EP X Q0 σ Q (.bool k') s:=by subst e;exact⟨.bl k,H,I,rfl,q⟩
def J0:OpR X (compareOp .Lt) (rI0 fun i j=>.bl (decide (i<j))):=L5 fun _ _ _ _ _ _ _ q=>lt_int q
def v9:OpR X (compareOp .LtE) (rI0 fun i j=>.bl (decide (i<=j))):=L5 fun _ _ _ _ _ _ _ q=>le_int q
def J3:OpR X (compareOp .Gt) (rI0 fun i j=>.bl (decide (j<i))):=L5 fun _ _ _ _ _ _ _ q=>gt_int q
def Bk:OpR X (compareOp .In) (fun x y H Q=>∃i j,x=.str i/\y=.str j/\Q (.bl (!(Builtin.Str.occurrences j i 0 j.length 1).isEmpty)) H):=by intro Q0 s σ H x y v u Q I l f h;obtain⟨i,j,rfl,rfl,q⟩:=h;obtain⟨t,rfl⟩:=l;obtain⟨t',rfl⟩:=f;exact in_str (yb I q rfl)
def L4:OpR X (compareOp .Is) (fun x y H Q=>y=.non/\Q (.bl (decide (x=.non))) H):=by
 intro Q0 s σ H x y v u Q I f j h;obtain⟨rfl,q⟩:=h;cases j;refine is_none_gen (yb I q ?_);cases x<;>first
  |(cases f;rfl)
  |(obtain⟨t,rfl⟩:=f;rfl)
def zu:OpR X (compareOp .IsNot) (fun x y H Q=>y=.non/\Q (.bl (!decide (x=.non))) H):=by
 intro Q0 s σ H x y v u Q I f j h;obtain⟨rfl,q⟩:=h;cases j;refine isnot_none_gen (yb I q ?_);cases x<;>first
  |(cases f;rfl)
  |(obtain⟨t,rfl⟩:=f;rfl)
def OpR.or{r r':R2}(h:OpR X f r)(h':OpR X f r'):OpR X f (fun x y H Q=>r x y H Q\/r' x y H Q):=by
 intro Q0 s σ H x y v u Q I l j q;rcases q with q|q
 . exact h Q0 s σ H x y v u Q I l j q
 . exact h' Q0 s σ H x y v u Q I l j q
def eS(b) (h:op≠.In:=by decide) (h2:op≠.NotIn:=by decide):behindInMarks op b=false:=by
 have j:(op==CmpOp.In)=false:=by cases op<;>first|rfl|exact absurd rfl h
 have f:(op==CmpOp.NotIn)=false:=by cases op<;>first|rfl|exact absurd rfl h2
 cases b<;>simp[behindInMarks,j,f]
def zn{r}(m:OpR X (compareOp op) r)(t:PE X a ta)(p:PE X b tb)(o:behindInMarks op b=false):PE X (.Compare a [op] [b] pos) (tOp r ta tb):=by intro Q0 s σ H Q I h;exact wpAny_Compare1 (MZ t p I h fun v u f x y H2 z l j q=>m Q0 f σ H2 x y v u Q z l j q) o
def JL(t:TE):TT:=fun σ H Q=>t σ H fun x H'=>∃k,x=.bl k/\Q k H'
def zh{r}(C:OpR X (compareOp op) r)(J:PE X a ta)(G:PE X b tb)(D:behindInMarks op b=false):PT X (.Compare a [op] [b] pos) (JL (tOp r ta tb)):=by
 intro Q0 s σ H Q I h;refine wpAny_isTrue_Compare1 (cW (J Q0 s σ H _ I h) fun{v l x H1} S p B=>cW (G Q0 l σ H1 _ S B) fun{u j y H2} O o t =>cW (C Q0 j σ H2 x y v u _ O p o t) fun{c V z U} L m f=>?_) D
 obtain⟨k,e,q⟩:=f;subst e;cases m;exact wpAny_truthy_bool ⟨U,L,q⟩
def xk(r r':R2)(ta tb tc:TE):TE:=fun σ H Q=>ta σ H fun x H1=>tb σ H1 fun y H2=>r x y H2 fun z H3=>∃k,z=.bl k /\
 (if k=true then tc σ H3 fun w' H4=>r' y w' H4 Q else Q (.bl false) H3)
def Em{r r'}(Y:OpR X (compareOp op) r)(j:OpR X (compareOp op') r')(ha:PE X a ta)(hb:PE X b tb)(hc:PE X c tc)
 (Z:lastMarks [op,op'] [b,c]=false:=by with_unfolding_all rfl):PE X (.Compare a [op,op'] [b,c] pos) (xk r r' ta tb tc):=by
 intro Q0 s σ H Q I h;refine Compare_chain (cW (ha Q0 s σ H _ I h) fun{v G x H1} I1 O V=>chain_link (cW (hb Q0 G σ H1 _ I1 V) fun{u D y H2} I2 l U =>cW (Y Q0 D σ H2 x y v u _ I2 O l U) fun{d C z p} o L f=>?_)) Z
 obtain⟨k,e,m⟩:=f;subst e;cases L;refine wpAny_truthy_bool ?_;cases k with
 |false=>exact ite_ff ⟨.bl false,p,o,rfl,m⟩
 |true=>exact ite_tt (chain_last (cW (hc Q0 C σ p _ o m) fun{t B q H4} I4 J S=>j Q0 B σ H4 y q u t Q I4 l J S))
def DO{r r'}(ho:OpR X (compareOp op) r)(j:OpR X (compareOp op') r')(ha:PE X a ta)(hb:PE X b tb)(hc:PE X c tc)
 (hm:lastMarks [op,op'] [b,c]=false:=by with_unfolding_all rfl):PT X (.Compare a [op,op'] [b,c] pos) (JL (xk r r' ta tb tc)):=by
 intro Q0 s σ H Q I h;refine isTrue_chain (cW (ha Q0 s σ H _ I h) fun{v G x H1} I1 S Z=>test_link (cW (hb Q0 G σ H1 _ I1 Z) fun{u D y H2} I2 l Y =>cW (ho Q0 D σ H2 x y v u _ I2 S l Y) fun{d C z p} o O f=>?_)) hm
 obtain⟨k,e,m⟩:=f;subst e;cases O;refine wpAny_truthy_bool ?_;cases k with
 |false =>obtain⟨k',e',q'⟩:=m;cases e';exact ite_ff ⟨p,o,q'⟩
 |true =>
  refine ite_tt (test_last (cW (hc Q0 C σ p _ o m) fun{t B q H4} I4 L V=>thn (j Q0 B σ H4 y q u t _ I4 l L V) fun d' s5 ⟨z2,H5,I5,J,k2,e2,U⟩=>?_))
  subst e2;cases J;exact wpAny_truthy_bool ⟨H5,I5,U⟩
def oJ:(sizeLine:Nat)<2^63:=by rw[sizeLine_eq];decide
def qP:OpR X (binaryOp .Add) (fun x y H Q=>∃i j,x=.str i/\y=.str j/\i.length+j.length<=sizeLine/\Q (.str (i++j)) H):=by intro Q0 s σ H x y v u Q I l f h;obtain⟨i,j,rfl,rfl,m,q⟩:=h;obtain⟨t,rfl⟩:=l;obtain⟨t',rfl⟩:=f;exact add_str (fun t' tk=>⟨.str (i++j),H,I.tok _,⟨_,rfl⟩,q⟩) m
def iR{x}(r:Vals [x] us):∃u,us=[u]/\RelV x u:=by
 cases r with
 |cons j f=>cases f;exact⟨_,rfl,j⟩
def vE{x}(r:Vals [x,y] us):∃u f,us=[u,f]/\RelV x u/\RelV y f:=by
 cases r with
 |cons o m =>
  cases m with
  |cons l j=>cases j;exact⟨_,_,rfl,o,l⟩
def Gm:CallR X (.builtin "abs") (fun xs H Q=>∃i,xs=[.int i]/\Q (.int (if i<0 then -i else i)) H):=by intro Q0 s σ H xs us Q I r h;obtain⟨i,rfl,q⟩:=h;obtain⟨u,rfl,t,rfl⟩:=iR r;exact call_abs_int fun u tk=>⟨.int (if i<0 then -i else i),H,I.tok _,⟨_,rfl⟩,q⟩
def Cc (l:X.calm=true):CallR X (.builtin "max") (fun xs H Q=>∃i j,xs=[.int i,.int j]/\Q (.int (if j>i then j else i)) H):=by
 intro Q0 s σ H xs us Q I r h;obtain⟨i,j,rfl,q⟩:=h;obtain⟨u,m,rfl,⟨t,rfl⟩,⟨t',rfl⟩⟩:=vE r;refine max_two_ints (I.ok.hd l) fun h' tk k=>⟨_,H,I.kept k,?_,q⟩
 by_cases f:j>i
 . rw[if_pos f,if_pos f];exact⟨_,rfl⟩
 . rw[if_neg f,if_neg f];exact⟨_,rfl⟩
def Cb (l:X.calm=true):CallR X (.builtin "min") (fun xs H Q=>∃i j,xs=[.int i,.int j]/\Q (.int (if j<i then j else i)) H):=by
 intro Q0 s σ H xs us Q I r h;obtain⟨i,j,rfl,q⟩:=h;obtain⟨u,m,rfl,⟨t,rfl⟩,⟨t',rfl⟩⟩:=vE r;refine min_two_ints (I.ok.hd l) fun h' tk k=>⟨_,H,I.kept k,?_,q⟩
 by_cases f:j<i
 . rw[if_pos f,if_pos f];exact⟨_,rfl⟩
 . rw[if_neg f,if_neg f];exact⟨_,rfl⟩
def call_int1:CallR X (.type "int") (fun xs H Q=>(∃i,xs=[.int i]/\Q (.int i) H)\/∃k,xs=[.bl k]/\Q (.int (if k then 1 else 0)) H):=by
 intro Q0 s σ H xs us Q I r h;rcases h with⟨i,rfl,q⟩|⟨k,rfl,q⟩
 . obtain⟨u,rfl,t,rfl⟩:=iR r;exact call_int_int ⟨.int i,H,I,⟨_,rfl⟩,q⟩
 . obtain⟨u,rfl,f⟩:=iR r;cases f;exact call_int_bool ⟨.int (if k then 1 else 0),H,I.tok _,⟨_,rfl⟩,q⟩
def u9:CallR X (.type "str") (fun xs H Q=>∃i,xs=[.int i]/\i.natAbs.log2<1920/\Q (.str (toString i)) H):=by intro Q0 s σ H xs us Q I r h;obtain⟨i,rfl,f,q⟩:=h;obtain⟨u,rfl,t,rfl⟩:=iR r;exact PySem.P.str_of_int f ⟨.str _,H,I.tok _,⟨_,rfl⟩,q⟩
end
structure ObjM(h:Heap)(x dx C:Addr)(mA:Str->Option Value):Prop where
 obj:h.get? x=some (W.instObj C dx)
 ns:h.Ns1 dx mA
 ne:dx≠x
def BD (n:h.Ns1 dx mA):∃ od,h.get? dx=some od/\∀ name,W.lookIn name od=some (mA name):=by
 obtain⟨o,es,ep,l,p,hk,_,m⟩:=n;refine⟨o,l,fun name=>?_⟩
 have e:=m name;unfold nsFind findBy at e;rw[<- Array.find?_toList]at e;unfold W.lookIn;rw[p];dsimp only;split
 . rename_i y q;rw[q]at e;exact Z8 some e
 . rename_i q;rw [q] at e;have a:es.toList.any (·.refKey)=false:=by
    rw[List.any_eq_false];intro y j;obtain⟨z,t,f⟩:=hk y (Array.mem_toList_iff.mp j);simp[DictEntry.refKey,f]
   have r:¬es.toList.any (·.refKey)=true:=by rw[a];exact ZB
   rw[if_neg r];exact Z8 some e
def ObjM.look{x}(I:ObjM h x dx C mA):∃od,W.InstAt h x (W.instObj C dx) C (some od)/\∀name,W.lookIn name od=some (mA name) :=
 let ⟨od,ho,hl⟩:=BD I.ns
 ⟨od,⟨I.obj,rfl,rfl,ho⟩,hl⟩
section
variable {E:Yb->Yc->Prop} {x f:Yd}
def IU{expr}(X:K.In s.heap)(I:ObjM s.heap x dx C mA)(o:W.plainGet K C name=true)(m:W.hasDictIn K C=true)
 (p:W.findIn K (.ref C) name=some none) (j:mA name=some v) (f:W.handedIn v=true) (h:Q v { s with toks:=s.toks+1 }) :
 wpAny (model prog w) A (getAttr (.ref x) name expr) Q E s:=by
 obtain⟨od,J,l⟩:=I.look;exact W.get_value X J (W.plainGet_of o).1 (W.findObj_own m p rfl (by rw[l,j])) f h
def Fh{Q:Yb×Yg Yb->Yc->Prop}(X:K.In s.heap)(I:ObjM s.heap x dx C mA)(j:W.plainGet K C name=true)
 (p:W.findIn K (.ref C) name=some (some (.ref f))) (m:W.isFn K (.ref f)=true) (l:mA name=none) (h:Q (.ref f,[.ref x]) s) :
 wpAny (model prog w) A (getMethod (.ref x) name pl) Q E s:=by
 obtain⟨od,J,o⟩:=I.look;exact W.method_fn X J (W.plainGet_of j).1 (W.plainGet_of j).2 p (beq_iff_eq.mp m) (by show(W.lookIn name od).map (·.isSome)=some false;rw[o,l];rfl) h
def G1{ns}{Q:Unit->Yc->Prop}(X:K.In s.heap)(I:ObjM s.heap x dx C mA)
 (z:W.findIn K (.ref C) "__setattr__" = some (some (.builtin "object.__setattr__"))) (B:W.plainOver K C=true) (t:W.takerIn K C name=some none) (D:W.hasDictIn K C=true)
 (r:PySem.Within mA ns) (u:ns.length<=sizeLine)
 (h:∀h',ObjM h' x dx C (fun y=>if y=name then some v else mA y)->Heap.SameBut dx s.heap h'->Q () { s with heap:=h',toks:=s.toks+2 }) :
 wpAny (model prog w) A (setAttr (.ref x) name v) Q E s:=by
 obtain⟨od,J,S⟩:=I.look;refine W.set_plain X J z (W.osa_open X J B t fun b=>?_)
 obtain⟨U,G,o⟩:=W.any_some D;have q:=I.obj;refine Z2 (Z3 (Z2 (Z2 (wpAny_loadPart q (Z2 (W.Looks.here (W.looks_clsIn X G) ?_))))));rw[o];refine Z3 (Z2 (Z3 (Z2 ?_)));refine wpAny_nsSet1 I.ns fun h' j f=>?_
 obtain⟨O,H,L,l,m,p⟩:=j.count (PySem.Within.cons name v r);refine Z2 (wpAny_lookBehind l (by rw[m];exact pastItsLine_dict (ZY p (by rw[Zm];omega))) ?_)
 exact Z3 (h _ ⟨(f.2 _ (Ne.symm I.ne)).trans I.obj,j,I.ne⟩ f)
def ER(X:K.In s.heap)(l:W.makesIn K C=true)
 (hi:W.findIn K (.ref C) "__init__" = some (some (.ref f))) (m:W.typeIn K (.ref f)=some (.type "function"))
 (h:codeAny (model prog w) (A.under (.builtin "type.__call__" ⟨.ref C :: vs,kw⟩)) (.call (.ref f) ⟨.ref (s.heap.objs.size+1) :: vs,kw⟩) (W.InitBack (s.heap.objs.size+1) R)
  { s with heap:=(s.heap.push W.emptyDict).push (W.instObj C s.heap.objs.size) }) :
 codeAny (model prog w) A (.call (.ref C) ⟨vs,kw⟩) R s:=by
 obtain⟨p,g,d,t,o⟩:=s;exact W.make_core (W.makes_of X l) (W.looks_findIn X hi) (fun j=>W.bind_fn X j m) (.inl rfl) h
end
noncomputable def j3(f:Str)(v:V):List (Str×V)->List (Str×V)
 |[]=>[(f,v)]
 |(g,x)::r=>if g=f then(g,v)::r else(g,x)::j3 f v r
theorem pj(f g) (v):∀fs:Yg (Str×V),(j3 f v fs).lookup g=if g=f then some v else fs.lookup g
 |[]=>by
  show List.lookup g [(f,v)]=_
  by_cases h:g=f
  . have j:=beq_iff_eq.mpr h;simp only[List.lookup,j,if_pos h]
  . have j:=beq_eq_false_iff_ne.mpr h;simp only[List.lookup,j,if_neg h]
 | (k,x) :: r=>by
  have l:=pj f g v r;rw[show j3 f v ((k,x)::r)=(if k=f then(k,v)::r else(k,x)::j3 f v r)from rfl]
  by_cases hk:k=f
  . rw [if_pos hk]
    by_cases h:g=k
    . have j:(g==k)=true:=beq_iff_eq.mpr h;simp only[List.lookup,j,if_pos (h.trans hk)]
    . have j:(g==k)=false:=beq_eq_false_iff_ne.mpr h;simp only[List.lookup,j,if_neg (fun e:g=f=>h (e.trans hk.symm))]
  . rw [if_neg hk]
    by_cases h:g=k
    . have j:(g==k)=true:=beq_iff_eq.mpr h;simp only[List.lookup,j,if_neg (fun e:g=f=>hk (h.symm.trans e))]
    . have j:(g==k)=false:=beq_eq_false_iff_ne.mpr h;simp only[List.lookup,j];exact l
theorem oK(f) (v):∀fs:Yg (Str×V),f∈(j3 f v fs).map (·.1)/\∀g,g∈fs.map (·.1)->g∈(j3 f v fs).map (·.1)
 |[]=>⟨by simp[j3],fun g h=>by simp at h⟩
 | (k,x) :: r=>by
  obtain⟨l,j⟩:=oK f v r;rw[show j3 f v ((k,x)::r)=(if k=f then(k,v)::r else(k,x)::j3 f v r)from rfl]
  by_cases hk:k=f
  . rw[if_pos hk];subst hk;exact⟨by simp,fun g h=>by simpa using h⟩
  . rw [if_neg hk];refine ⟨?_,fun g h=>?_⟩
    . rw[Zu];exact Zp _ l
    . rw [Zu] at h ⊢;rcases Zt.mp h with e | e
      . exact Zt.mpr (.inl e)
      . exact Zp _ (j g e)
theorem pp(f) (v):∀fs:Yg (Str×V),(j3 f v fs).length<=fs.length+1
 |[]=>by simp[j3]
 |(k,x)::r=>by
  have j:=pp f v r;rw[show j3 f v ((k,x)::r)=(if k=f then(k,v)::r else(k,x)::j3 f v r)from rfl]
  by_cases hk:k=f
  . rw[if_pos hk,Zm,Zm];omega
  . rw[if_neg hk,Zm,Zm];omega
def RelO.some_of{v}{o}(r:RelO (some v) o):∃u,o=some u/\RelV v u:=by
 cases o with
 |none=>exact(r).elim
 |some u=>exact⟨u,rfl,r⟩
def RelO.none_of{o}(r:RelO none o):o=none:=by
 cases o with
 |none=>rfl
 |some u=>exact(r).elim
def BQ{v}(r:RelV v u):W.handedIn u=true:=by
 cases v with
 |non=>cases(r);rfl
 |bl b=>cases(r);rfl
 |int i=>obtain⟨t,e⟩:=(r);cases e;rfl
 |str x=>obtain⟨t,e⟩:=(r);cases e;rfl
 |ref a=>cases(r);rfl
 |ty n=>cases(r);rfl
section
variable {fs:Yg (Str×V)}
def qa(j:HOk P w H h)(e:H a=some (.ins C dx fs)):∃mA,ObjM h a dx C mA/\(∀f,RelO (fs.lookup f) (mA f))/\PySem.Within mA (fs.map (·.1))/\fs.length<=1000/\H dx=some (.own a):=by obtain⟨d,z,m,l,mA,n,r,q⟩:=(j a _ e);exact⟨mA,⟨l,n,m⟩,r,q,z,d⟩
end
structure Cls(K:ZA)(C:Addr):Prop where
 pg:W.plainGet K C Str.empty=true
 hd:W.hasDictIn K C=true
 po:W.plainOver K C=true
 sa:W.findIn K (.ref C) "__setattr__" = some (some (.builtin "object.__setattr__"))
def Cls.get(c:Cls K C)(f:Str):W.plainGet K C f=true:=c.pg
def NoAttr(K:ZA)(C:Addr)(f:Str):Prop:=W.findIn K (.ref C) f=some none
def NoAttr.taker{f}(n:NoAttr K C f):W.takerIn K C f=some none:=by
 unfold W.takerIn;rw[show W.findIn K (.ref C) f=some none from n]
 rfl
structure Cv(K:ZA)(C:Addr)(m:Str)(f:Addr):Prop where
 at_:W.findIn K (.ref C) m=some (some (.ref f))
 fn:W.isFn K (.ref f)=true
 kp:W.keepIn K (.ref f)=true
section
variable {fs:Yg (Str×V)} {f:Str} {v:V} {E:Yb->Yc->Prop}
def xZ{b}(I:Inv X Q0 σ H s)(e:H a=some (.ins C dx fs))(c:Cls X.K C)(n:NoAttr X.K C f)(l:fs.lookup f=some v)
 (h:∀u s',Inv X Q0 σ H s'->RelV v u->Q u s'):wpAny (model X.prog X.w) A (getAttr (.ref a) f b) Q E s:=by
 obtain⟨mA,O,r,_,_,_⟩:=qa I.hok e;obtain⟨u,m,j⟩:=RelO.some_of (by rw[<- l];exact r f)
 exact IU I.kIn O (c.get f) c.hd n m (BQ j) (h u _ (I.tok _) j)
def rA{g}{Q:Yb×Yg Yb->Yc->Prop}(I:Inv X Q0 σ H s)(e:H a=some (.ins C dx fs))(c:Cls X.K C)(k:Cv X.K C m g)(l:fs.lookup m=none)
 (h:Q (.ref g,[.ref a]) s):wpAny (model X.prog X.w) A (getMethod (.ref a) m pl) Q E s:=by
 obtain⟨mA,O,r,_,_,_⟩:=qa I.hok e;have f:=RelO.none_of (by rw[<- l];exact r m)
 exact Fh I.kIn O (c.get m) k.at_ k.fn f h
def xq{Q:Unit->Yc->Prop}(I:Inv X Q0 σ H s)(e:H a=some (.ins C dx fs))(c:Cls X.K C)(n:NoAttr X.K C f)(G:fs.length<1000)(t:RelV y u)
 (h:∀s',Inv X Q0 σ (upd H a (.ins C dx (j3 f y fs))) s'->Q () s'):wpAny (model X.prog X.w) A (setAttr (.ref a) f u) Q E s:=by
 obtain⟨mA,O,r,l,_,m⟩:=qa I.hok e;have v:(fs.map (·.1)).length<=sizeLine:=by rw[Zl,sizeLine_eq];omega
 refine G1 I.kIn O c.sa c.po n.taker c.hd l v fun h' j p=>h _ ?_
 have B:∃o,h'.get? dx=some o:=let ⟨o,_,_,e',_⟩:=j.ns;⟨o,e'⟩;refine I.write (by rw[e];exact True.intro) (.inr m) (fun b q D z=>(p.2 b D).trans z) B ?_
 refine⟨by rw[aI O.ne];exact m,?_,O.ne,j.obj,_,j.ns,fun g=>?_,fun g x=>?_⟩
 . have:=pp f y fs;omega
 . rw [pj]
   by_cases q:g=f
   . rw[if_pos q,if_pos q];exact t
   . rw[if_neg q,if_neg q];exact r g
 . by_cases q:g=f
   . rw[q];exact(oK f y fs).1
   . refine (oK f y fs).2 g (l g fun z=>x ?_)
     show(if g=f then some u else mA g)=none
     rw[if_neg q];exact z
def Inv.made(I:Inv X Q0 σ H s):Inv X Q0 σ (upd (upd H s.heap.objs.size (.own (s.heap.objs.size+1))) (s.heap.objs.size+1) (.ins C s.heap.objs.size []))
 { s with heap:=(s.heap.push W.emptyDict).push (W.instObj C s.heap.objs.size) }:=by
 have j:(s.heap.push W.emptyDict).get? s.heap.objs.size=some W.emptyDict:=ZW s.heap rfl;have p:((s.heap.push W.emptyDict).push (W.instObj C s.heap.objs.size)).get? (s.heap.objs.size+1)=some (W.instObj C s.heap.objs.size):=by have:=ZW (s.heap.push W.emptyDict) (o:=W.instObj C s.heap.objs.size) rfl;rwa [Heap.size_push]at this
 have m:(s.heap.push W.emptyDict).Ns s.heap.objs.size (fun _=>none):=⟨W.emptyDict,#[],_,j,rfl,(fun e he=>absurd he (by simp)),fun _=>rfl⟩
 have r:=I.laid (o:=.own (s.heap.objs.size+1)) (h':=s.heap.push W.emptyDict) (t':=s.toks) (fun b u q=>ZS _ q) (ZM _) ⟨_,j⟩
 refine r.laid (a:=s.heap.objs.size+1) (o:=.ins C s.heap.objs.size []) (t':=s.toks) (fun b u q=>ZS _ q) (Nat.le_of_eq (Heap.size_push _ _)) ?_
 have f:s.heap.objs.size≠s.heap.objs.size+1:=ZI (Nat.lt_succ_self _);refine⟨by rw[aI f,aL],Nat.zero_le _,f,p,fun _=>none,(Heap.Ns1.of_empty m).at fun o q=>ZS _ q,fun _=>True.intro,fun y l=>absurd rfl l⟩
def JB{env}{f}{pos}(l:attributeBase e f env (eval e env)=eval e env)
 (h:wpAny (model prog w) A (eval e env) (fun o j=>wpAny (model prog w) A (getAttr o f true) Q E j) E s):wpAny (model prog w) A (eval (.Attribute e f pos) env) Q E s :=
 Attribute_any_ h (by rw[arm_eval_Attribute,l])
end
def Pb(K:ZA)(ta:TE)(f:Str):TE:=fun σ H Q=>ta σ H fun x H1=>∃a C dx fs v,x=.ref a/\H1 a=some (.ins C dx fs)/\Cls K C/\NoAttr K C f/\fs.lookup f=some v/\Q v H1
def Pd(K:ZA)(ta tv:TE)(f:Str):TS:=fun D σ H=>tv σ H fun y H1=>ta σ H1 fun x H2=>∃a C dx fs,x=.ref a/\H2 a=some (.ins C dx fs)/\Cls K C/\NoAttr K C f/\fs.length<1000 /\
 D.nx σ (upd H2 a (.ins C dx (j3 f y fs)))
section
variable {f:Str} {pos:Pos} {tv:TE}
def xF(he:PE X e ta)(p:attributeBase e f X.env (eval e X.env)=eval e X.env):PE X (.Attribute e f pos) (Pb X.K ta f):=by
 intro Q0 s σ H Q I h;refine JB p (cW (he Q0 s σ H _ I h) fun{u D x H1} y j o=>?_)
 obtain⟨a,C,dx,fs,v,ex,r,c,n,l,q⟩:=o;subst ex;obtain rfl:u=Value.ref a:=j;exact xZ y r c n l fun z B t m=>⟨v,H1,t,m,q⟩
def La(G:PE X o ta)(z:PE X X1 tv)(B:swapsWith X1 (some (.Attribute o f X2)) pos.line X.env=pure false):PS X (.Assign [.Attribute o f X2] X1 pos) (Pd X.K ta tv f):=by
 intro Q0 s σ H D I h;refine plainObj_wpAny_Assign_Attribute (cW (z Q0 s σ H _ I h) fun{u m y H1} Q p q=>cW (G Q0 m σ H1 _ Q q) fun{v U x H2} O r j=>?_) B
 obtain⟨a,C,dx,fs,ex,J,c,n,l,t⟩:=j;subst ex;obtain rfl:v=Value.ref a:=r;exact xq O J c n l p fun S L=>⟨σ,_,L,t⟩
end
section
variable {E:Yb->Yc->Prop} {c:Yb} {b:Bool}
inductive sK(K:ZA)(H:Hp):V->Value->Prop where
 |non:sK K H .non (.type "NoneType")
 |bl (x:Bool):sK K H (.bl x) (.type "bool")
 |int (i:Int):sK K H (.int i) (.type "int")
 |str (x:Str):sK K H (.str x) (.type "str")
 |lst {a:Addr} {xs:List V} (e:H a=some (.lst xs)):sK K H (.ref a) (.type "list")
 |frz {a:Addr} {o:Obj} {xs:List V} (e:H a=some (.frz o (.lst xs))):sK K H (.ref a) (.type "list")
 |tup {a:Addr} {xs:List V} (e:H a=some (.tup xs)):sK K H (.ref a) (.type "tuple")
 |dK {a:Addr} {Q6:List (Str×V)} (e:H a=some (.dK Q6)):sK K H (.ref a) (.type "dict")
 |ins {a C dx:Addr} {fs:List (Str×V)} (e:H a=some (.ins C dx fs)) (cl:Cls K C) (ha:W.findIn K (.ref C) "__class__" = some (some (.builtin "object.__class__")))
  (hn:W.specialIn K (.builtin "object.__class__") "__get__" = some (some (.builtin "getset_descriptor.__get__"))) (htk:W.takesIn K (.builtin "object.__class__")=some true)
  (hm:W.mroIn K C (.type "object")=some true):sK K H (.ref a) (.ref C)
def BI{x}{t}(I:Inv X Q0 σ H s)(f:RelV x u)(m:sK X.K H x t)(e:W.kitOne X.K t c=some b)(h:∀tk,Q (.bool b) { s with toks:=tk }) :
 wpAny (model X.prog X.w) A (call (.builtin "isinstance") [u,c]) Q E s:=by
 cases m with
 |non=>cases(f);exact W.kia_one W.kitx_none I.kIn True.intro e (fun z=>nomatch z) h
 |bl y=>cases(f);exact W.kia_one W.kitx_bool I.kIn True.intro e (fun z=>nomatch z) h
 |int i=>obtain⟨t,q⟩:=(f);cases q;exact W.kia_one W.kitx_int I.kIn True.intro e (fun z=>nomatch z) h
 |str y=>obtain⟨t,q⟩:=(f);cases q;exact W.kia_one W.kitx_str I.kIn True.intro e (fun z=>nomatch z) h
 |@lst a xs j =>cases(f);obtain⟨_,_,n,_,h1⟩:=(I.hok a _ j);exact W.kia_one W.kitx_list I.kIn ⟨_,h1,rfl⟩ e (fun z=>nomatch z) h
 |@frz a D xs j =>cases(f);obtain⟨_,_,_,n,_,h1⟩:=(I.hok a _ j);exact W.kia_one W.kitx_list I.kIn ⟨_,h1,rfl⟩ e (fun z=>nomatch z) h
 |@tup a xs j =>cases(f);obtain⟨_,_,_,p⟩:=(I.hok a _ j);obtain⟨o,h1,h2,_⟩:=p;exact W.kia_one W.kitx_tuple I.kIn ⟨o,h1,h2⟩ e (fun z=>nomatch z) h
 |@dK a Q6 j =>cases(f);obtain⟨_,vs,_,p⟩:=(I.hok a _ j);obtain⟨o,es,ep,h1,h2,_⟩:=p;exact W.kia_one W.kitx_dict I.kIn ⟨o,h1,h2.1⟩ e (fun z=>nomatch z) h
 |@ins a C dx fs j cl B r l v =>cases(f);obtain⟨mA,O,_⟩:=qa I.hok j;obtain⟨od,J,_⟩:=O.look;exact W.kia_one (W.kitx_own (cl.get _) cl.hd B r l v) I.kIn J e (fun z=>nomatch z) h
end
structure Room(k:Nat)(A:Around):Prop where
 hd:A.handled=none
 dp:A.depth+3*k+5<recursionLimit
 un:A.units+16*k+200<cLine
def Room.mono(r:Room k A)(h:j<=k):Room j A:=⟨r.hd,by have:=r.dp;omega,by have:=r.un;omega⟩
def Room.deeper(r:Room (k+1) A)(env):Room k (A.deeper env) :=
 ⟨r.hd,by have:=r.dp;show A.depth+1+3*k+5<_;omega,by have:=r.un;show A.units+3+16*k+200<_;omega⟩
theorem xP:(A.under (.builtin "type.__call__" ⟨.ref C::us,kw⟩)).depth=A.depth+1:=by first|rfl|simp[Code.weight]
theorem xO:(A.under (.builtin "type.__call__" ⟨.ref C::us,kw⟩)).units=A.units+1:=by first|rfl|simp[Code.cUnits]
def Room.make (r:Room (k+1) A) (C) (us) (kw:Yg (Str×Yb)):Room k (A.under (.builtin "type.__call__" ⟨.ref C::us,kw⟩)) :=
 ⟨r.hd,by have:=r.dp;rw[xP];omega,by have:=r.un;rw[xO];omega⟩
def Room.depth(r:Room k A):A.depth<recursionLimit:=by have:=r.dp;omega
def Room.units(r:Room k A):A.units+64<cLine:=by have:=r.un;omega
def CT:TA:=fun _ H Q=>Q [] H
def CU(ta:TE)(tr:TA):TA:=fun σ H Q=>ta σ H fun x H1=>tr σ H1 fun xs H2=>Q (x::xs) H2
section
variable {pos:Pos}
def gl:PA X [] CT:=fun _ _ _ _ H Q I h=>Calls.spliced_nil ⟨[],H,I,.nil,h⟩
def bZ(r:PE X e te)(q:PA X es t)(p:starEach (e::es) X.env=(false,eval e X.env)::starEach es X.env:=by rfl):PA X (e::es) (CU te t):=by
 intro pos Q0 s σ H Q I h;rw[p];refine Calls.spliced_cons (cW (r Q0 s σ H _ I h) fun{u f x H1} y l o=>?_)
 exact qq (q pos Q0 f σ H1 _ y o) fun{us z xs H2} v j m=>⟨x::xs,H2,v,.cons l j,m⟩
def O3(t:TA):TE:=fun σ H Q=>t σ H fun xs H1=>xs.length<=sizeLine/\∀p,H1 p=none->Q (.ref p) (upd H1 p (.tup xs))
def O8(t:TA):TE:=fun σ H Q=>t σ H fun xs H1=>xs.length<=sizeLine/\∀p,H1 p=none->Q (.ref p) (upd H1 p (.lst xs))
def Ej{x1}(h:PA X es t):PE X (.Tuple es x1 pos) (O3 t):=by
 intro Q0 s σ H Q I l;refine wpAny_Tuple_spliced (qq (h pos Q0 s σ H _ I l) fun{us f xs H1} j r h=>h.elim fun z q=>⟨by rw[<- r.length];exact z,?_⟩)
 have m:=j.hok.fresh (ZM _);refine⟨.ref f.heap.objs.size,upd H1 f.heap.objs.size (.tup xs),j.laid (fun b u e=>ZS _ e) (ZM _) ?_,rfl,q _ m⟩
 exact⟨z,us,r,⟨_,ZW _ rfl,rfl,_,rfl⟩⟩
def El(h:PA X es t):PE X (.List es pos) (O8 t):=by
 intro Q0 s σ H Q I l;refine wpAny_List_spliced (qq (h pos Q0 s σ H _ I l) fun{us f xs H1} j r h=>h.elim fun z q=>⟨by rw[<- r.length];exact z,?_⟩)
 have m:=j.hok.fresh (ZM _);refine⟨.ref f.heap.objs.size,upd H1 f.heap.objs.size (.lst xs),j.laid (fun b u e=>ZS _ e) (ZM _) ?_,rfl,q _ m⟩
 exact⟨z,us,0,r,ZW _ rfl⟩
end
abbrev Sp:=List V->Hp->VK->XK->Prop
abbrev CXT:=List Env->Hp->Shared->XK->Value->Shared->Prop
structure Env0(P:Program)(w:World)(K:ZA)(mg:Str->Option Value)(base:Heap)(A:Around)(outer:List Env)(s:Shared)(H:Hp):Prop where
 frames:A.frames=some outer
 mod:Mod K mg base
 bs:∀b o,base.get? b=some o->s.heap.get? b=some o/\H b=none
 bsz:base.objs.size<=s.heap.objs.size
 funs:s.heap.FunFrames base outer
 frf:∀b∈frs outer,H b=none
 hok:HOk P w H s.heap
 bare:AllBare s.gens
def CE(outer:List Env)(P:Program)(w:World)(H:Hp)(s:Shared)(Q:VK)(u:Value)(s':Shared):Prop :=
 ∃v H',s'.os=s.os/\AllBare s'.gens/\Un (frs outer) [] H H' s.heap s'.heap/\HOk P w H' s'.heap/\RelV v u/\Q v H'
def CR(CX:CXT)(outer:List Env)(P:Program)(w:World)(H:Hp)(s:Shared)(Q:VK)(E:XK)(r:Result)(s':Shared):Prop :=
 match r with
 |.ok (.ret u)=>CE outer P w H s Q u s'
 |.ok _=>False
 |.error e=>CX outer H s E e s'
structure jc(P:Program)(w:World)(K:ZA)(mg:Str->Option Value)(base:Heap)(CX:CXT)(k:Nat)(f:Addr)(fd:FuncData)(ps:List Str)(sp:Sp):Prop where
 len:∀vs H Q E,sp vs H Q E->vs.length=ps.length
 run:∀(A:Around)(outer:List Env)(s:Shared)(H:Hp)(args:Args)(us:List Value)(vs:List V)(Q:VK)(E:XK),Room k A->Env0 P w K mg base A outer s H->BindsTo s fd args (ps.zip us)->Vals vs us->sp vs H Q E ->
  codeAny (model P w) A (.call (.ref f) args) (CR CX outer P w H s Q E) s
def Env0.make(e:Env0 P w K mg base A outer s H)(C) (us) (kw:Yg (Str×Yb)) :
 Env0 P w K mg base (A.under (.builtin "type.__call__" ⟨.ref C::us,kw⟩)) outer s H:=⟨by first|exact e.frames|(simpa[Around.under,Code.envs,Code.isFrame,pushEnvs]using e.frames),e.mod,e.bs,e.bsz,e.funs,e.frf,e.hok,e.bare⟩
section
def Inv.env0(I:Inv X Q0 σ H s):Env0 X.prog X.w X.K X.mg X.base X.A X.stack s H :=
 ⟨I.ok.frames,I.ok.mod,I.bs,ZY I.ok.bsz I.sz,I.stack,I.stkFree,I.hok,I.bare⟩
def Inv.after{Q}(I:Inv X Q0 σ H s)(h:CE X.stack X.prog X.w H s Q u s'):EP X Q0 σ Q u s':=by obtain⟨v,H',l,bare,un,j,r,q⟩:=h;obtain⟨m,g,d,t,f⟩:=s';obtain rfl:f=s.os:=l;exact⟨v,H',I.call un j bare (fun b z=>absurd z (by simp)),r,q⟩
end
def Nj(sp:Sp)(X8:List V)(E:XK)(t:TA):TE:=fun σ H Q=>t σ H fun vs H1=>sp (vs++X8) H1 Q E
def JM(C:Addr)(m:Str)(sp:Sp)(X8:List V)(E:XK)(ta:TE)(t:TA):TE:=fun σ H Q=>ta σ H fun x H1=>∃a dx fs,x=.ref a/\H1 a=some (.ins C dx fs)/\fs.lookup m=none /\
 t σ H1 fun vs H2=>sp (x::(vs++X8)) H2 Q E
def JN(C:Addr)(sp:Sp)(X8:List V)(E:XK)(t:TA):TE:=fun σ H Q=>t σ H fun vs H1=>∀x dx,H1 x=none->H1 dx=none->dx≠x ->
 sp (.ref x::(vs++X8)) (upd (upd H1 dx (.own x)) x (.ins C dx [])) (fun v H2=>v=.non/\Q (.ref x) H2) E
def Binds(K:ZA)(fd:FuncData)(ps:List Str)(ds:List Value):Prop :=
 ∀(s:Shared)(us:List Value),K.In s.heap->(us++ds).length=ps.length->BindsTo s fd ⟨us,[]⟩ (ps.zip (us++ds))
def Binds.all(h:∀us:Yg Yb,us.length=ps.length->bindArgs fd ⟨us,[]⟩=pure (ps.zip us)):Binds K fd ps []:=fun s us _ f=>by rw[Zj]at f ⊢;exact .of_eq (h us f)
def kG(CX:CXT)(X:Cx)(E:XK):Prop:=∀(Q0:List (Addr×Obj))(σ:St)(H:Hp)(s:Shared)(e:Value)(s':Shared),Inv X Q0 σ H s->CX X.stack H s E e s'->X.xe e s'
section
variable {f:Yd} {E:XK} {pos:Pos}
def xu{Q}{vs}(F:jc X.prog X.w X.K X.mg X.base CX k f fd ps sp)(o:Room k X.A)(t:Binds X.K fd ps ds)(q:Vals X8 ds)(m:kG CX X E)
 (I:Inv X Q0 σ H s) (r:Vals vs us) (h:sp (vs++X8) H Q E):wpAny (model X.prog X.w) X.A (call (.ref f) us) (EP X Q0 σ Q) X.xe s:=by
 have l:=r.append q;have p:(us++ds).length=ps.length:=by rw[<- l.length];exact F.len _ _ _ _ h
 refine wpAny_call (codeAny_mono (F.run X.A X.stack s H ⟨us,[]⟩ (us++ds) (vs++X8) Q E o I.env0 (t s us I.kIn p) l h) fun r s' j=>?_)
 cases r with
 |error e=>exact m Q0 σ H s e s' I j
 |ok fl =>
  cases fl with
  |ret u=>exact I.after j
  |next=>exact Z9 j
  |brk=>exact Z9 j
  |cont=>exact Z9 j
def mZ(F:jc X.prog X.w X.K X.mg X.base CX k f fd ps sp)(o:Room k X.A)(v:Gl X x)(u:X.mg x=some (.ref f))(hk:W.keepIn X.K (.ref f)=true)(z:Binds X.K fd ps ds)(y:Vals X8 ds)(m:kG CX X E)
 (B:PA X (e::es) t) (j:(x==("__debug__":Str))=false:=by decide) (he:starEach (e::es) X.env=(false,eval e X.env)::starEach es X.env:=by rfl) (hpl:(backTo pos (starEach es X.env)).any (·.1)=false:=by rfl) :
 PE X (.Call (.Name x p) (e::es) [] pos) (Nj sp X8 E t):=by
 intro Q0 s σ H Q I h;refine wpAny_Call_Name_kw (p9 I v u ?_ j);refine W.callWith_K I.ok.mod.kin hk (qq (B pos Q0 s σ H _ I h) fun{us C vs H1} l r q=>⟨l.kIn,?_⟩) he hpl
 exact xu F o z y m l r q
def uF(he:PE X o ta)(c:Cls X.K C)(v:Cv X.K C m f)(F:jc X.prog X.w X.K X.mg X.base CX k f fd ps sp)(S:Room k X.A)(V:Binds X.K fd ps ds)(U:Vals X8 ds)(L:kG CX X E)(Y:PA X (e::es) t)
 (j:starEach (e::es) X.env=(false,eval e X.env)::starEach es X.env:=by rfl) (hpl:(backTo pos (starEach es X.env)).any (·.1)=false:=by rfl)
 (O:eval (.Call (.Attribute o m Q7) (e :: es) [] pos) X.env=(do
  let p <- eval o X.env
  standAt Q7.atName
  let (f,first) <- holding [p] (getMethod p m pl)
  callWith pos f first (backTo pos (starEach (e::es) X.env)) (backToKw pos (keywordEach [] X.env))):=by rfl) :
 PE X (.Call (.Attribute o m Q7) (e::es) [] pos) (JM C m sp X8 E ta t):=by
 intro Q0 s σ H Q I h;refine W.methodCall_KW (cW (he Q0 s σ H _ I h) fun{u B x H1} z D J=>?_) O
 obtain⟨a,dx,fs,ex,Z,l,q⟩:=J;subst ex;obtain rfl:u=Value.ref a:=D;refine rA z Z c v l ?_;refine W.callWith_K I.ok.mod.kin v.kp (qq (Y pos Q0 B σ H1 _ z q) fun{us s2 vs H2} y r G=>⟨y.kIn,?_⟩) j hpl
 exact xu (vs:=.ref a::vs) F S V U L y (.cons rfl r) G
def qH(he:PE X o ta)(c:Cls X.K C)(r:Cv X.K C m f)(F:jc X.prog X.w X.K X.mg X.base CX k f fd ps sp)(B:Room k X.A)(G:Binds X.K fd ps ds)(D:Vals X8 ds)(y:kG CX X E)
 (z:eval (.Call (.Attribute o m Q7) [] [] pos) X.env=(do
  let p <- eval o X.env
  standAt Q7.atName
  let (f,first) <- holding [p] (getMethod p m pl)
  callWith pos f first (backTo pos (starEach [] X.env)) (backToKw pos (keywordEach [] X.env))):=by rfl) :
 PE X (.Call (.Attribute o m Q7) [] [] pos) (JM C m sp X8 E ta CT):=by
 intro Q0 s σ H Q I h;refine W.methodCall_KW (cW (he Q0 s σ H _ I h) fun{u L x H1} j t v=>?_) z
 obtain⟨a,dx,fs,ex,J,l,q⟩:=v;subst ex;obtain rfl:u=Value.ref a:=t;refine rA j J c r l ?_;exact W.callWith_K0 j.kIn r.kp (xu (vs:=[.ref a]) F B G D y j (.cons rfl .nil) q)
structure Mk(K:ZA)(C f:Addr):Prop where
 makes:W.makesIn K C=true
 init:W.findIn K (.ref C) "__init__" = some (some (.ref f))
 fn:W.isFn K (.ref f)=true
 kp:W.keepIn K (.ref C)=true
def vP{Q}{vs}(M:Mk X.K C f)(F:jc X.prog X.w X.K X.mg X.base CX k f fd ps sp)(y:Room (k+1) X.A)(D:Binds X.K fd ps ds)(B:Vals X8 ds)
 (t:kG CX X E) (I:Inv X Q0 σ H s) (r:Vals vs us)
 (h:∀x dx,H x=none->H dx=none->dx≠x->sp (.ref x::(vs++X8)) (upd (upd H dx (.own x)) x (.ins C dx [])) (fun v H2=>v=.non/\Q (.ref x) H2) E) :
 wpAny (model X.prog X.w) X.A (call (.ref C) us) (EP X Q0 σ Q) X.xe s:=by
 have o:=h (s.heap.objs.size+1) s.heap.objs.size (I.hok.fresh (Nat.le_succ _)) (I.hok.fresh (ZM _)) (ZI (Nat.lt_succ_self _));have l:=Inv.made (C:=C) I;have m:Vals (V.ref (s.heap.objs.size+1)::(vs++X8)) (Value.ref (s.heap.objs.size+1)::(us++ds)):=.cons rfl (r.append B);have z:(Value.ref (s.heap.objs.size+1)::us++ds).length=ps.length:=by have e:=m.length;rw[F.len _ _ _ _ o]at e;exact e.symm
 refine wpAny_call (ER I.kIn M.makes M.init (beq_iff_eq.mp M.fn) (codeAny_mono (F.run _ X.stack _ _ ⟨Value.ref (s.heap.objs.size+1)::us,[]⟩ (Value.ref (s.heap.objs.size+1)::(us++ds)) _ _ E (y.make C us [])
  (l.env0.make C us []) (D _ (Value.ref (s.heap.objs.size+1)::us) l.kIn z) m o) fun r s' j=>?_))
 cases r with
 |error e=>exact t Q0 σ _ _ e s' l j
 |ok fl =>
  cases fl with
  |ret u =>obtain⟨v,H',J,p,G,q⟩:=l.after j;subst G;exact⟨p,⟨V.ref (s.heap.objs.size+1),H',J,rfl,q⟩⟩
  |next=>exact Z9 j
  |brk=>exact Z9 j
  |cont=>exact Z9 j
def Ie(M:Mk X.K C f)(F:jc X.prog X.w X.K X.mg X.base CX k f fd ps sp)(o:Room (k+1) X.A)(v:Gl X x)(u:X.mg x=some (.ref C))(z:Binds X.K fd ps ds)(y:Vals X8 ds)(m:kG CX X E)
 (B:PA X (e::es) t) (j:(x==("__debug__":Str))=false:=by decide) (he:starEach (e::es) X.env=(false,eval e X.env)::starEach es X.env:=by rfl) (hpl:(backTo pos (starEach es X.env)).any (·.1)=false:=by rfl) :
 PE X (.Call (.Name x p) (e::es) [] pos) (JN C sp X8 E t):=by
 intro Q0 s σ H Q I h;refine wpAny_Call_Name_kw (p9 I v u ?_ j);refine W.callWith_K I.ok.mod.kin M.kp (qq (B pos Q0 s σ H _ I h) fun{us D vs H1} l r q=>⟨l.kIn,?_⟩) he hpl
 exact vP M F o z y m l r q
def Ek(M:Mk X.K C f)(F:jc X.prog X.w X.K X.mg X.base CX k f fd ps sp)(m:Room (k+1) X.A)(q:Gl X x)(o:X.mg x=some (.ref C))(t:Binds X.K fd ps ds)(r:Vals X8 ds)(l:kG CX X E)
 (j:(x==("__debug__":Str))=false:=by decide):PE X (.Call (.Name x p) [] [] pos) (JN C sp X8 E CT):=by
 intro Q0 s σ H Q I h;refine wpAny_Call_Name_kw (p9 I q o ?_ j);exact W.callWith_K0 I.kIn M.kp (vP M F m t r l I .nil h)
end
structure iH(N P:List Str)(sc:Scope):Prop where
 kind:sc.kind=.function
 co:sc.isCoroutine=false
 gen:sc.isGenerator=false
 nd:N.Nodup
 pre:N.take P.length=P
 par:∀x∈P,sc.names.lookup x=some .local\/sc.names.lookup x=some .cell
 nofree:∀y∈sc.names,y.2≠.free
theorem ub:∀{binds}{m},(∀v,(x,v)∉binds)->bindL kindOf binds m x=m x
 |[],_,_=>rfl
 | (n,v) :: r,m,h=>by
  unfold bindL;rw[ub fun w f=>h w (Zp _ f)]
  split
  . have:x ≠ n:=by rintro rfl;exact h v Zo
    simp[this]
  . rfl
theorem ud:∀{binds}{m},(∀v,(x,v)∉binds)->bindC kindOf binds m x=m x
 |[],_,_=>rfl
 | (n,v) :: r,m,h=>by
  unfold bindC;rw[ud fun w f=>h w (Zp _ f)]
  split
  . rfl
  . have:x ≠ n:=by rintro rfl;exact h v Zo
    simp[this]
theorem uc:∀{P:Yg Str}{vs}{i:Nat}{m},P.Nodup->P[i]?=some x->vs[i]?=some v->kindOf x=some .local ->
 bindL kindOf (P.zip vs) m x=some v
 |[],_,_,_,_,h,_,_=>by simp at h
 |_::_,[],_,_,_,_,h,_=>by simp at h
 |p::P,w::vs,0,m,nd,h1,h2,hk=>by
  simp at h1 h2;subst h1;subst h2;show bindL kindOf ((p,w)::P.zip vs) m p=_;unfold bindL;rw[ub fun v f=>(Z1.mp nd).1 (List.of_mem_zip f).1,if_pos hk]
  simp
 |p::P,w::vs,i+1,m,nd,h1,h2,hk=>by unfold bindL;exact uc (Z1.mp nd).2 (by simpa using h1) (by simpa using h2) hk
theorem ue:∀{P:Yg Str}{vs}{i:Nat}{m},P.Nodup->P[i]?=some x->vs[i]?=some v->kindOf x≠some .local ->
 bindC kindOf (P.zip vs) m x=some v
 |[],_,_,_,_,h,_,_=>by simp at h
 |_::_,[],_,_,_,_,h,_=>by simp at h
 |p::P,w::vs,0,m,nd,h1,h2,hk=>by
  simp at h1 h2;subst h1;subst h2;show bindC kindOf ((p,w)::P.zip vs) m p=_;unfold bindC;rw[ud fun v f=>(Z1.mp nd).1 (List.of_mem_zip f).1,if_neg hk]
  simp
 |p::P,w::vs,i+1,m,nd,h1,h2,hk=>by unfold bindC;exact ue (Z1.mp nd).2 (by simpa using h1) (by simpa using h2) hk
noncomputable def start(N:List Str)(vs:List V):St:=vs.map some++List.replicate (N.length-vs.length) none
noncomputable def rQ(CX:CXT)(P:Program)(w:World)(K:ZA)(mg:Str->Option Value)(base:Heap)(N:List Str)(qual:Str)(scope:Scope)(f:Addr)(cd:Value)(A:Around)(outer:List Env)(s:Shared)(H:Hp)(E:XK):Cx where
 prog:=P
 w:=w
 K:=K
 mg:=mg
 base:=base
 A:=A.deeper (envOfC qual scope s.heap.objs.size f cd)
 N:=N
 s₀:=s
 H₀:=H
 env:=envOfC qual scope s.heap.objs.size f cd
 outer:=outer
 stack:=envOfC qual scope s.heap.objs.size f cd::outer
 ex:=[]
 calm:=true
 fn:=fun _=>true
 pn:=[]
 xe:=fun e s'=>wpAny (model P w) (A.deeper (envOfC qual scope s.heap.objs.size f cd)) (leaving (envOfC qual scope s.heap.objs.size f cd) e) (fun _ s''=>CX outer H s E e s'') (fun e' s''=>CX outer H s E e' s'') s'
def wQ{f:Scope}(h:f.names.lookup x=some .cell):∃c,(cellsFrom n f.names []).lookup x=some c:=by have q:=W.cellsFrom_some f.names n [] (.inl h);exact Option.isSome_iff_exists.mp q
def BJ {f:Yd} {cd} {s1} {E:XK} {vs}
 (S:iH N ps scope) (D:A.handled=none) (j:Env0 P w K mg base A outer s H) (I:vs.length=ps.length) (r:Vals vs us)
 (x:InCallC s s.heap.objs.size (bindL (envOfC qual scope s.heap.objs.size f cd).kindOf (ps.zip us) fun _=>none) (cellsFrom (s.heap.objs.size+1) scope.names []) (bindC (envOfC qual scope s.heap.objs.size f cd).kindOf (ps.zip us) fun _=>none) s1) :
 Inv (rQ CX P w K mg base N qual scope f cd A outer s H E) [] (start N vs) H s1:=by
 have hpl:ps.length<=N.length:=by have:=Z8 List.length S.pre;rw[List.length_take]at this;omega
 obtain⟨h1,tk,rfl,hk⟩:=x.done;have l:∀b,b∉(rQ CX P w K mg base N qual scope f cd A outer s H E).ex:=fun b z=>absurd (show b∈([]:Yg Yd)from z) (by simp)
 refine⟨⟨j.mod,S.kind,rfl,rfl,ZM _,fun y z c h1 h2=>?_,fun y m=>?_,fun y c _ h=>?_,fun _=>D,Around.frames_deeper j.frames,.inr ⟨rfl,rfl⟩,fun b z=>absurd z (l b),j.bs,j.bsz,fun b _ _=>l b,fun b z=>absurd z (l b),j.funs,j.frf⟩,
  rfl,j.bare,Un.kept hk,⟨_,x.toInCall.ns,fun i y v h1 h2 J=>?_⟩,fun y c h=>⟨_,x.cell y c h⟩,j.hok.fresh (ZM _),fun y c h=>?_,fun p t=>absurd (show p∈([]:Yg (Yd×Obj))from t) (by simp),j.hok.kept hk,?_⟩
 . exact name_of_addr x.apart (PySem.mem_of_lookup h1) (PySem.mem_of_lookup h2)
 . have m:=m;rcases m with m | m
   . exact wQ m
   . exact absurd rfl (S.nofree _ (PySem.mem_of_lookup m))
 . exact Nat.le_of_lt (x.above y c (PySem.mem_of_lookup h))
 . have hi:i < vs.length:=by
    unfold start at h2
    by_cases hi:i<vs.length
    . exact hi
    . rw [List.getElem?_append_right (by simpa using hi)] at h2
      rw[List.getElem?_replicate]at h2;split at h2<;>cases h2
   have G:vs[i]?=some v:=by
    unfold start at h2;rw[List.getElem?_append_left (by simpa using hi),ZK]at h2
    cases e:vs[i]? with
    |none=>rw[e]at h2;cases h2
    |some a=>rw[e]at h2;cases h2;rfl
   obtain⟨u,B,C⟩:=r.get G;have t:ps[i]?=some y:=by rw[<- S.pre,List.getElem?_take_of_lt (by omega)];exact h1
   have o:ps.Nodup:=by rw[<- S.pre];exact S.nd.sublist (List.take_sublist _ _)
   refine⟨u,C,?_⟩;rcases S.par y (List.mem_of_getElem? t)with k|k
   . exact .inl ⟨k,uc o t B k⟩
   . obtain ⟨c,e⟩:=wQ k;refine .inr ⟨.inl k,c,e,?_⟩;have q:=x.cell y c e;rw [ue o t B (by show scope.names.lookup y ≠ _;rw [k];decide)] at q
     exact q
 . exact j.hok.fresh (Nat.le_of_lt (x.above y c (PySem.mem_of_lookup h)))
 . unfold start;show _=N.length;rw[Zk,Zl,List.length_replicate];omega
def Oq{f}{params}{dV kV ct} 
 (lk:K.lookup f=some ⟨oc,od,.func (W.fnOf name qual params body scope dV kV X4 pm an Q9 ct),osl⟩) (L:W.codeIn K Q9 qual=true) (S:iH N ps scope)
 (len:∀vs H Q E,sp vs H Q E->vs.length=ps.length)
 (m:∀ A outer s H vs Q E,Room k (A.deeper (envOfC qual scope s.heap.objs.size f Q9))->sp vs H Q E ->
  ∃t,PSs (rQ CX P w K mg base N qual scope f Q9 A outer s H E) body t/\t { nx:=fun _ H'=>Q .non H',rt:=Q } (start N vs) H) :
 jc P w K mg base CX (k+1) f (W.fnOf name qual params body scope dV kV X4 pm an Q9 ct) ps sp:=by
 refine⟨len,fun A outer s H args us vs Q E G B hb r z=>?_⟩
 have hl:=len _ _ _ _ z;have U:=B.mod.kin.keeps fun b o e=>(B.bs b o e).1
 have D:=B.mod.nolimit.keeps fun b o e=>(B.bs b o e).1
 have l:∀y∈ps.zip us,scope.names.lookup y.1=some .local\/(scope.names.lookup y.1=some .cell/\((cellsFrom (s.heap.objs.size+1) scope.names []).lookup y.1).isSome=true):=fun ⟨n,v⟩ X=>by
  rcases S.par n (List.of_mem_zip X).1 with q|q
  . exact .inl q
  . exact .inr ⟨q,W.cellsFrom_some _ _ _ (.inl q)⟩
 refine codeAny_call_function G.depth (U _ _ lk) rfl S.co S.gen rfl (W.codeRec_of U L) (hb _ _ _ _ ?_);refine wpAny_newFunctionEnv_cells S.kind l fun env he O x=>?_
 subst he;refine⟨D.keeps x.toInCall.keep,codeAny_func ?_⟩;obtain⟨t,Y,Z⟩:=m A outer s H vs Q E (G.deeper _) z;have I:Inv (rQ CX P w K mg base N qual scope f Q9 A outer s H E) [] (start N vs) H O:=BJ S G.hd B hl r x;refine wpAny_mono (Y [] O (start N vs) H _ I Z) (fun fl s' p=>?_) fun e s' p=>p
 have fin:∀{j}{H'}{v}{u},Inv (rQ CX P w K mg base N qual scope f Q9 A outer s H E) [] j H' s'->RelV v u->Q v H'->CE outer P w H s Q u s' :=
  fun{j H' v u} J C q=>⟨v,H',J.os,J.bare,J.base,J.hok,C,q⟩
 cases fl with
 |ret u =>obtain⟨v,j,H',J,C,q⟩:=p;exact fin J C q
 |next =>obtain⟨j,H',J,q⟩:=p;exact fin (v:=V.non) J rfl q
 |brk =>obtain⟨_,_,_,q⟩:=p;exact Z9 q
 |cont =>obtain⟨_,_,_,q⟩:=p;exact Z9 q
variable {CX:CXT} {sp:Sp}
section
variable {pos:Pos} {id:String}
def tCB(r:List V->Hp->VK->Prop)(t:TA):TE:=fun σ H Q=>t σ H fun vs H1=>r vs H1 Q
def qJ (y:CallR X (.builtin id) r) (v:Gl X x) (u:X.mg x=none) (o:bootBuiltins x=some (.builtin id)) (z:PA X (e::es) t) (q:x≠"__name__":=by decide) (f:(x==("__debug__":Str))=false:=by decide)
 (he:starEach (e::es) X.env=(false,eval e X.env)::starEach es X.env:=by rfl) (hpl:(backTo pos (starEach es X.env)).any (·.1)=false:=by rfl):PE X (.Call (.Name x p) (e::es) [] pos) (tCB r t):=by
 intro Q0 s σ H Q I h;refine wpAny_Call_Name_kw (mh I v u o ?_ q f);exact PyProof.Rows.callWith_builtin1 (qq (z pos Q0 s σ H _ I h) fun{us j vs H1} B l m=>y Q0 j σ H1 vs us Q B l m) he hpl
def kR (y:CallR X (.type T) r) (v:Gl X x) (u:X.mg x=none) (o:bootBuiltins x=some (.type T)) (z:PA X (e::es) t) (q:x≠"__name__":=by decide) (f:(x==("__debug__":Str))=false:=by decide)
 (he:starEach (e::es) X.env=(false,eval e X.env)::starEach es X.env:=by rfl) (hpl:(backTo pos (starEach es X.env)).any (·.1)=false:=by rfl):PE X (.Call (.Name x p) (e::es) [] pos) (tCB r t):=by
 intro Q0 s σ H Q I h;refine wpAny_Call_Name_kw (mh I v u o ?_ q f);exact PyProof.Rows.callWith_type1 (qq (z pos Q0 s σ H _ I h) fun{us j vs H1} B l m=>y Q0 j σ H1 vs us Q B l m) he hpl
end
end L2
namespace HT
open PySem PyProof.Rows
variable {Q:Yb->Yc->Prop} {vl vu:Yb} {lo hi:Ye Int} {Q3:Array Yb}
section
open PySem.SeqAt
open PySem.AutoSeq1 (wpAny_loadPart')
open PySem.MeetsSeq PySem.MeetsSeq2 PySem.MeetsSeq3
end
section
variable {prog:Program} {w:World} {A:Around} {E:Yb->Yc->Prop} {s:Yc}
def cat_tup {t b} {vs ws} (C:IsTup s.heap t vs.toArray) (D:IsTup s.heap b ws.toArray) (x:vs ≠ [])
 (h1:ws=[]->Q (.ref t) s) (h2:ws≠[]->Q (.ref s.heap.objs.size) { s with heap:=s.heap.push { cls:=.type "tuple",data:=.seq (vs++ws).toArray } })
 (r:vs.length+ws.length<=sizeLine):wpAny (model prog w) A (binaryOp .Add (.ref t) (.ref b)) Q E s:=by
 obtain⟨⟨cls,dd,data,v⟩,q,z,n,y⟩:=id C;obtain⟨⟨B,o,u,j⟩,f,m,n2,l⟩:=id D;simp only at z y m l;subst z y m l;have e:vs.toArray++ws.toArray=(vs++ws).toArray:=by simp
 by_cases p:ws=[]
 . exact concat_meets ⟨_,q,rfl⟩ ⟨_,f,rfl⟩ noFill_tuple_add seq_tuple_add PySem.F.slot_tuple_add PySem.F.entry_tuple_add (PySem.F.args_tuple_add_2 _ _)
    (tuple_addW1 t b vs.toArray ws.toArray n n2 dd o v j (by simpa using x) (by simp[p])) ⟨q,f,h1 p⟩
 . refine concat_meets ⟨_,q,rfl⟩ ⟨_,f,rfl⟩ noFill_tuple_add seq_tuple_add PySem.F.slot_tuple_add PySem.F.entry_tuple_add (PySem.F.args_tuple_add_2 _ _)
    (tuple_addW2 t b vs.toArray ws.toArray n n2 dd o v j (by simpa using x) (by simpa using p) (by rw[ZF,ZF];exact r)) ⟨q,f,?_⟩
   rw[e];exact h2 p
noncomputable def sIx(n d:Nat):Option Int->Nat
 |none=>d
 |some v=>if v<0 then(v+(n:Int)).toNat else min v.toNat n
def Kz(n d) (j:d<=n) (o):sIx n d o<=n:=by
 cases o with
 |none=>exact j
 |some v =>
  show(if v<0 then(v+(n:Int)).toNat else min v.toNat n)<=n
  by_cases f:v<0
  . rw[if_pos f];omega
  . rw[if_neg f];exact Nat.min_le_right _ _
def Ar(v) (n d:Nat):(if v<0 then max (v+(n:Int)) 0 else min v (n:Int))=((sIx n d (some v):Nat):Int):=by
 show(if v<0 then max (v+(n:Int)) 0 else min v (n:Int))=(((if v<0 then(v+(n:Int)).toNat else min v.toNat n):Nat):Int)
 by_cases f:v<0
 . simp only[if_pos f];omega
 . simp only[if_neg f];omega
def yI(lo hi) (n:Nat):Builtin.Slice.sliceAdjust lo hi 1 (n:Int)=(((sIx n 0 lo:Nat):Int),((sIx n n hi:Nat):Int)):=by
 have h1:¬((1:Int)<0):=by omega
 unfold Builtin.Slice.sliceAdjust;simp only[if_false];refine Prod.ext ?_ ?_
 . cases lo with
   |none=>rfl
   |some v=>exact Ar v n 0
 . cases hi with
   |none=>rfl
   |some v=>exact Ar v n n
def xD(i j:Nat):Builtin.Slice.slicePlaces (i:Int) (j:Int) 1=j-i:=by
 unfold Builtin.Slice.slicePlaces;have h1:(1:Int)>0:=by omega
 simp only[Z6,Int.ediv_one];split<;>omega
def qz{v}{o}{Q:Ye Int->Yc->Prop}(p:IsPart v o)(h:Q o s):wpAny (model prog w) A (Builtin.Slice.slicePartIndex v) Q E s:=by
 cases p with
 |none=>exact slicePart_none h
 |int i t=>exact slicePart_int h
def og{sl}{n}{Q:Int×Int×Nat->Yc->Prop}(l:s.heap.IsSliceOf sl vl vu .none)(pl:IsPart vl lo)(pu:IsPart vu hi)
 (h:Q (((sIx n 0 lo:Nat):Int),1,sIx n n hi-sIx n 0 lo) s):wpAny (model prog w) A (Builtin.Slice.sliceApplied (.ref sl) (pure (n:Int))) Q E s:=by
 obtain⟨o,f,m,j⟩:=id l;unfold Builtin.Slice.sliceApplied Builtin.Slice.sliceFields;refine Z2 (Z2 (wpAny_field f j rfl (Z2 (wpAny_field f j rfl (Z2 (wpAny_field f j rfl (Z3 ?_)))))));refine Z2 (slicePart_none ?_);rw[if_neg (by decide)]
 refine Z2 (qz pl (Z2 (qz pu (Z2 (Z3 ?_)))));show wpAny _ _ (match Builtin.Slice.sliceAdjust lo hi 1 (n:Int)with|(lo,hi)=>pure (lo,(1:Int),Builtin.Slice.slicePlaces lo hi 1)) _ _ s
 rw[yI lo hi n];show wpAny _ _ (pure (((sIx n 0 lo:Nat):Int),(1:Int),Builtin.Slice.slicePlaces ((sIx n 0 lo:Nat):Int) ((sIx n n hi:Nat):Int) 1)) _ _ s;rw[xD];exact Z3 h
def Ef(xs:Array Yb)(i k:Nat):((List.range k).filterMap fun(m:Nat)=>xs[((i:Int)+(m:Int)*1).toNat]?).toArray=((xs.toList.drop i).take k).toArray:=by
 have e:(fun(m:Nat)=>xs[((i:Int)+(m:Int)*1).toNat]?)=fun m=>xs[i+m]?:=by
  funext m
  have:((i:Int)+(m:Int)*1).toNat=i+m:=by omega
  rw[this]
 rw[e];have:=pick_run xs i k;rw[List.filterMap_map]at this;have f:((fun x=>xs[x]?)∘fun x=>i+x)=fun m=>xs[i+m]?:=rfl
 rw[f]at this;rw[this]
def getItem_tuple_cut{t sl}(j:IsTup s.heap t Q3)(u:s.heap.IsSliceOf sl vl vu .none)(pl:IsPart vl lo)(pu:IsPart vu hi)
 (x:¬(sIx Q3.size 0 lo=0/\sIx Q3.size Q3.size hi=Q3.size))
 (h:Q (.ref s.heap.objs.size) { s with heap:=s.heap.push { cls:=.type "tuple",data:=.seq ((Q3.toList.drop (sIx Q3.size 0 lo)).take (sIx Q3.size Q3.size hi-sIx Q3.size 0 lo)).toArray } })
 (y:Q3.size<=sizeLine):wpAny (model prog w) A (getItem (.ref t) (.ref sl)) Q E s:=by
 have f:sizeOk (.seq ((Q3.toList.drop (sIx Q3.size 0 lo)).take (sIx Q3.size Q3.size hi-sIx Q3.size 0 lo)).toArray):=by show((Q3.toList.drop (sIx Q3.size 0 lo)).take (sIx Q3.size Q3.size hi-sIx Q3.size 0 lo)).toArray.size<=sizeLine;rw[ZF,List.length_take,List.length_drop,Array.length_toList];omega
 have D:sIx Q3.size Q3.size hi<=Q3.size:=Kz _ _ (ZM _) hi;obtain⟨v,l,p,z⟩:=id u;have r:s.TypeIs (.ref sl) "slice":=⟨v,l,p⟩;unfold getItem
 try with_reducible refine wpAny_holding ?_
 first|refine Z2 (Z3 ?_)|skip
 refine Z2 (wpAny_sequenceKey j.typeIs (by decide) ?_)
 refine Z2 (wpAny_callSpecial?_slot j.typeIs PyProof.Rows.slot_tuple_getitem
  (wpAny_call_entry PyProof.Rows.slot_tuple_getitem j.typeIs entry_tuple_getitem ?_ (args_tuple_getitem _ _)))
 show wpAny _ _ (Builtin.Tuple.tupleItemsOf (.ref t) >>= _) _ _ s;refine Z2 (tupleItemsOf_ j ?_);refine Z2 (wpAny_typeOf r ?_);rw[if_pos (by decide)]
 refine Z2 (og u pl pu ?_);have o:¬((((sIx Q3.size 0 lo:Nat):Int)==0&&(1:Int)==1&&(sIx Q3.size Q3.size hi-sIx Q3.size 0 lo)==Q3.size)=true):=by intro q;rw[ZN,ZN]at q;have C:=eq_of_beq q.1.1;have B:sIx Q3.size Q3.size hi-sIx Q3.size 0 lo=Q3.size:=eq_of_beq q.2;exact x ⟨by omega,by omega⟩
 show wpAny _ _ (if(((sIx Q3.size 0 lo:Nat):Int)==0&&(1:Int)==1&&(sIx Q3.size Q3.size hi-sIx Q3.size 0 lo)==Q3.size)=true then _ else _) _ _ s
 rw[if_neg o,Ef]
 first
  |exact Z2 (m:=Builtin.Tuple.tupleExact _) (wpAny_newObj_type (Z3 ⟨_,rfl,Z3 h⟩) f)
  |exact Z2 (m:=Builtin.Tuple.tupleExact _) (wpAny_newObj_type (Z2 (Z3 (Z3 ⟨_,rfl,Z3 h⟩))) f)
  |exact Z2 (Z2 (m:=Builtin.Tuple.tupleExact _) (wpAny_newObj_type (Z3 (Z3 ⟨_,rfl,Z3 h⟩)) f))
  |exact Z2 (Z2 (m:=Builtin.Tuple.tupleExact _) (wpAny_newObj_type (Z3 ⟨_,rfl,Z3 h⟩) f))
end
end HT
namespace L2
open PySem PySem.Spec PyProof.Rows
variable {us vs ds Q1 X6:Yg Yb} {x name m qual:Str} {u v X4 pm Q9 oc:Yb} {H H':Hp} {a b C dx:Yd} {o e c tg X1:Expr} {P prog:Program} {w:World} {h h' base:Heap} {fs':Yg (Str×V)} {ex ex' ch fp:Yg Yd} {X:Cx} {Q0 pins':Yg (Yd×Obj)} {σ:St} {s s':Yc} {g':Array GenState} {t' i j k n:Nat} {d':Drawn} {N ps ks:Yg Str} {M:Model} {A:Around} {Q:Yb->Yc->Prop} {t:TA} {ta te tc:TE} {y:V} {ys X8:Yg V} {K:ZA} {f:Yb->Yb->Sem Yb} {st:Stmt} {es:Yg Expr} {X2 p tpos Q7:Pos} {body:Yg Stmt} {l:W.OpenLaw} {R:Result->Yc->Prop} {lo hi:Ye Expr} {pl:Sem Bool} {op op':CmpOp} {r r':Yg V->Hp->VK->Prop} {mA mg mb:Str->Ye Yb} {kw:Yg (Str×Yb)} {outer:Yg Env} {fd:FuncData} {CX:CXT} {sp:Sp} {kws:Yg Keyword} {nm:Ye Str} {gV:Yg V->Yg V->Yg V} {kindOf:Str->Ye NameKind} {scope:Scope} {an od:Ye Yd} {osl:Array (Ye Yb)} {T:String} {XP:(Str->Ye Yb)->Heap->Prop} {YP:World->Heap->Prop} {Q6:Yg (Key×V)}
abbrev TO:=St->Hp->(Option Int->Hp->Prop)->Prop
def PO(X:Cx)(e:Option Expr)(t:TO):Prop :=
 ∀(Q0:List (Addr×Obj))(s:Shared)(σ:St)(H:Hp)(Q:Option Int->Hp->Prop),Inv X Q0 σ H s->t σ H Q ->
  wpAny (model X.prog X.w) X.A (evalPart e X.env) (fun u s'=>∃o H',Inv X Q0 σ H' s'/\IsPart u o/\Q o H') X.xe s
def GU:TO:=fun _ H Q=>Q none H
def Nf(t:TE):TO:=fun σ H Q=>t σ H fun x H1=>∃i,x=.int i/\Q (some i) H1
section
variable {tl th:TO} {pos p2:Pos}
def HP:PO X none GU:=by intro Q0 s σ H Q I h;rw[evalPart_none];exact Z3 ⟨none,H,I,.none,h⟩
def HN(h:PE X e te):PO X (some e) (Nf te):=by
 intro Q0 s σ H Q I l;rw[evalPart_some];refine cW (h Q0 s σ H _ I l) fun{u o x H1} m f j=>?_
 obtain⟨i,rfl,q⟩:=j;obtain⟨t,rfl⟩:=f;exact⟨some i,H1,m,.int i t,q⟩
def SlR(X:Cx)(r:V->Option Int->Option Int->Hp->VK->Prop):Prop :=
 ∀(Q0:List (Addr×Obj))(s:Shared)(σ:St)(H:Hp)(x:V)(v vl vu:Value)(lo hi:Option Int)(sl:Addr)(Q:VK),Inv X Q0 σ H s->RelV x v->s.heap.IsSliceOf sl vl vu .none->IsPart vl lo->IsPart vu hi->r x lo hi H Q ->
  ∃T id,typeLookup (.type T) "__getitem__" = pure (some (.builtin id))/\s.TypeIs v T/\wpAny (model X.prog X.w) X.A (getItem v (.ref sl)) (EP X Q0 σ Q) X.xe s
def tSl(r:V->Option Int->Option Int->Hp->VK->Prop)(te:TE)(tl th:TO):TE:=fun σ H Q=>te σ H fun x H1=>tl σ H1 fun l H2=>th σ H2 fun u H3=>r x l u H3 Q
def mY{r:V->Ye Int->Ye Int->Hp->VK->Prop}(D:SlR X r)(he:PE X e te)(G:PO X lo tl)(B:PO X hi th):PE X (.Subscript e (.Slice lo hi none p2) pos) (tSl r te tl th):=by
 intro Q0 s σ H Q I h;refine Subscript_ (cW (he Q0 s σ H _ I h) fun{v o x H1} Y p z=>?_)
 refine wpAny_Slice (thn (G Q0 o σ H1 _ Y z) fun vl m ⟨l,H2,U,pl,y⟩=>thn (B Q0 m σ H2 _ U y) fun vu f ⟨u,j,S,pu,t⟩=>?_)
 rw[evalPart_none];refine Z3 ?_;have O:Inv X Q0 σ j { f with heap:=f.heap.push { cls:=.type "slice",data:=.fields #[vl,vu,.none] } }:=S.kept fun b Z q=>ZS _ q
 obtain⟨T,id,L,C,J⟩:=D Q0 { f with heap:=f.heap.push { cls:=.type "slice",data:=.fields #[vl,vu,.none] } } σ j x v vl vu l u f.heap.objs.size Q O p (Heap.IsSliceOf.new ..) pl pu t
 exact tail_any C L J (by with_unfolding_all rfl)
noncomputable def sE(xs:List V)(lo hi:Option Int):List V:=(xs.drop (HT.sIx xs.length 0 lo)).take (HT.sIx xs.length xs.length hi-HT.sIx xs.length 0 lo)
def pF(xs:Yg V)(lo hi:Ye Int):(sE xs lo hi).length<=xs.length:=by unfold sE;rw[List.length_take,List.length_drop];omega
def Pe(K:ZA):V->Option Int->Option Int->Hp->VK->Prop:=fun x lo hi H Q=>∃a xs,x=.ref a/\SqT K H a xs /\
 ¬(HT.sIx xs.length 0 lo=0/\HT.sIx xs.length xs.length hi=xs.length)/\∀p,H p=none->Q (.ref p) (upd H p (.tup (sE xs lo hi)))
def Ku:SlR X (Pe X.K):=by
 intro Q0 s σ H x v vl vu lo hi u Q I m t pl pu h;obtain⟨a,xs,rfl,o,p,q⟩:=h;cases m;obtain⟨Q1,r,l,j⟩:=I.tuple o;have f:Q1.toArray.size=xs.length:=by rw[ZF];exact r.length.symm
 refine⟨"tuple",_,PyProof.Rows.slot_tuple_getitem.lookup,l.typeIs,?_⟩;refine HT.getItem_tuple_cut l t pl pu (by rw[f];exact p) ?_ (by rw[f];exact j)
 rw[f];refine⟨.ref s.heap.objs.size,_,I.laid (fun b y q=>ZS _ q) (ZM _) ?_,rfl,q _ (I.hok.fresh (ZM _))⟩
 exact⟨ZY (pF xs lo hi) j,_,(r.drop (HT.sIx xs.length 0 lo)).take (HT.sIx xs.length xs.length hi-HT.sIx xs.length 0 lo),IsTup.new _ _⟩
def NG(K:ZA):R2:=fun x y H Q=>∃a b xs ys,x=.ref a/\y=.ref b/\SqT K H a xs/\SqT K H b ys/\xs≠[]/\xs.length+ys.length<=sizeLine /\
 (ys=[]->Q (.ref a) H)/\(ys≠[]->∀p,H p=none->Q (.ref p) (upd H p (.tup (xs++ys))))
def Vals.nil_iff{xs}(r:Vals xs us):us=[]<->xs=[]:=by
 cases r with
 |nil=>simp
 |cons _ _=>simp
def Ir:OpR X (binaryOp .Add) (NG X.K):=by
 intro Q0 s σ H x y v u Q I p o h;obtain⟨a,b,xs,ys,rfl,rfl,D,C,B,m,t,r⟩:=h;cases p;cases o;obtain⟨Q1,j,p1,_⟩:=I.tuple D;obtain⟨l,f,p2,_⟩:=I.tuple C;refine HT.cat_tup p1 p2 (fun z=>B (j.nil_iff.mp z)) (fun z=>⟨.ref a,H,I,rfl,t (f.nil_iff.mp z)⟩) (fun z=>?_) (by rw[<- j.length,<- f.length];exact m)
 refine⟨.ref s.heap.objs.size,_,I.laid (fun b G q=>ZS _ q) (ZM _) ?_,rfl,r (fun w=>z (f.nil_iff.mpr w)) _ (I.hok.fresh (ZM _))⟩
 exact⟨by rw[Zk];exact m,_,j.append f,IsTup.new _ _⟩
end
noncomputable def ixN(n:Nat)(i:Int):Option Nat:=if 0<=i then(if i<n then some i.toNat else none)else if -(n:Int)<=i then some (i+n).toNat else none
def atI{α:Type}(xs:List α)(i:Int):Option α:=(ixN xs.length i).bind fun j=>xs[j]?
def uN{i:Int}(h:ixN n i=some j):seqIndex? i n=some j/\j<n/\-(n:Int)<=i/\i<n:=by
 unfold ixN at h
 by_cases f:0<=i
 . rw [if_pos f] at h
   by_cases h1:i<n
   . rw[if_pos h1]at h;have e:=ZG h;exact⟨by rw[seqIndex_of f h1,e],by omega,by omega,h1⟩
   . rw[if_neg h1]at h;cases h
 . rw [if_neg f] at h
   by_cases h1:-(n:Int)<=i
   . rw[if_pos h1]at h;have e:=ZG h;exact⟨by rw[seqIndex_neg (by omega) h1,e],by omega,h1,by omega⟩
   . rw[if_neg h1]at h;cases h
def vq{α:Type}{xs}{i}{v:α}(h:atI xs i=some v):∃j,seqIndex? i xs.length=some j/\xs[j]?=some v/\j<xs.length/\-(xs.length:Int)<=i/\i<xs.length:=by
 unfold atI at h;cases e:ixN xs.length i with
 |none=>rw[e]at h;cases h
 |some j =>rw[e]at h;obtain⟨h1,h2,l,f⟩:=uN e;exact⟨j,h1,h,h2,l,f⟩
def atI_nat{α:Type}{xs:Yg α}{v:α}(h:xs[j]?=some v):atI xs (j:Int)=some v:=by
 have f:=(ZL.mp h).1;have e:ixN xs.length (j:Int)=some j:=by unfold ixN;rw[if_pos (by omega),if_pos (by omega)];simp
 unfold atI;rw[e];exact h
def atI_last{α:Type}(xs:Yg α)(v:α):atI (xs++[v]) (-1)=some v:=by
 have f:(xs++[v]).length=xs.length+1:=by simp
 have e:ixN (xs++[v]).length (-1)=some xs.length:=by
  unfold ixN;rw[f,if_neg (by decide),if_pos (by omega)]
  congr 1
  omega
 unfold atI;rw[e];simp
def iA(b:Expr):Prop:=∀o i,subscripted b false o i=operate [o,i] (getItem o i)
def IxR(X:Cx)(r:R2):Prop :=
 ∀(X1 slice:Expr)(Q0:List (Addr×Obj))(s:Shared)(σ:St)(H:Hp)(x y:V)(v u:Value)(Q:VK),Inv X Q0 σ H s->RelV x v->RelV y u->r x y H Q ->
  subscripted slice false v u=operate [v,u] (getItem v u)->wpAny (model X.prog X.w) X.A (subscriptTail X1 slice v u) (EP X Q0 σ Q) X.xe s
def MtR(X:Cx)(id:String)(r:V->List V->Hp->VK->Prop):Prop :=
 ∀(Q0:List (Addr×Obj))(s:Shared)(σ:St)(H:Hp)(x:V)(xs:List V)(v:Value)(us:List Value)(Q:VK),Inv X Q0 σ H s->RelV x v->Vals xs us->r x xs H Q ->
  wpAny (model X.prog X.w) X.A (call (.builtin id) (v::us)) (EP X Q0 σ Q) X.xe s
section
variable {a b:Expr} {tb:TE} {pos:Pos}
def IxR.or{r r':R2}(h:IxR X r)(h':IxR X r'):IxR X (fun x y H Q=>r x y H Q\/r' x y H Q):=by
 intro X1 f Q0 s σ H x y v u Q I l j q m;rcases q with q|q
 . exact h X1 f Q0 s σ H x y v u Q I l j q m
 . exact h' X1 f Q0 s σ H x y v u Q I l j q m
def tt{r}(o:IxR X r)(t:PE X a ta)(p:PE X b tb)(m:iA b):PE X (.Subscript a b pos) (tOp r ta tb):=by intro Q0 s σ H Q I h;exact Subscript_ (MZ t p I h fun v u f x y H2 z l j q=>o a b Q0 f σ H2 x y v u Q z l j q (m _ _))
def NB(K:ZA):R2:=fun x y H Q=>∃p xs i v,x=.ref p/\y=.int i/\SqL K H p xs/\atI xs i=some v/\Q v H
def Nz(K:ZA):R2:=fun x y H Q=>∃p xs i v,x=.ref p/\y=.int i/\SqT K H p xs/\atI xs i=some v/\Q v H
def NA:R2:=fun x y H Q=>∃z i c,x=.str z/\y=.int i/\z.length<=sizeLine/\atI z.cps.toList i=some c/\Q (.str ⟨#[c]⟩) H
def ix_list:IxR X (NB X.K):=by
 intro X1 f Q0 s σ H x y v u Q I G D h o;obtain⟨p,xs,i,z,rfl,rfl,J,he,q⟩:=h;cases G;obtain⟨t,rfl⟩:=D;obtain⟨Q1,r,pl,U⟩:=I.list J;obtain⟨j,h1,h2,Y,S,O⟩:=vq he;obtain⟨w,C,l⟩:=r.get h2;have L:=r.length;have V:=oJ;have fin:EP X Q0 σ Q w s:=⟨z,H,I,l,q⟩
 by_cases B:0<=i
 . have m:i.toNat=j:=by
    rw[seqIndex_of B O]at h1;exact ZG h1
   exact item_listR pl.isList B (by omega) (by rw[m];simpa using C) fin o
 . have m:(i+(Q1.toArray.size:Int)).toNat=j:=by
    rw[seqIndex_neg (by omega) S]at h1
    rw[ZF,<- L];exact ZG h1
   exact subscriptTail_builtinR pl.isList.typeIs slot_list_getitem.lookup
    (wpAny_getItem_list_neg pl.isList (by omega) (by rw[ZF]<;>omega) (by omega) (by rw[m];simpa using C) ⟨rfl,fin⟩) o
def uM:IxR X (Nz X.K):=by
 intro X1 f Q0 s σ H x y v u Q I o m h B;obtain⟨p,xs,i,z,rfl,rfl,C,he,q⟩:=h;cases o;obtain⟨t,rfl⟩:=m;obtain⟨Q1,r,pl,J⟩:=I.tuple C;obtain⟨j,h1,h2,U,S,O⟩:=vq he;obtain⟨w,G,l⟩:=r.get h2;have D:=r.length;have L:=oJ;have fin:EP X Q0 σ Q w s:=⟨z,H,I,l,q⟩;exact subscriptTail_builtinR (x:=w) pl.typeIs slot_tuple_getitem.lookup
  (getItem_tuple (j:=j) (Q:=fun r s'=>r=w/\EP X Q0 σ Q r s') pl (by omega) (by omega) (by rw[ZF,<- D];exact h1) (by simpa using G) ⟨rfl,fin⟩) B
def Ml:IxR X NA:=by
 intro X1 f Q0 s σ H x y v u Q I m l h o;obtain⟨z,i,c,rfl,rfl,G,he,q⟩:=h;obtain⟨t,rfl⟩:=m;obtain⟨t',rfl⟩:=l;obtain⟨j,h1,h2,L,B,r⟩:=vq he;have p:z.cps.toList.length=z.length:=by simp[Str.length]
 rw[p]at h1 B r;have J:=oJ;exact tail_any (typeIs_str s z t) slot_str_getitem.lookup (getItem_str (c:=c) (by
  have D:decide (i < -(2^63:Int))=false:=decide_eq_false (by omega)
  have C:decide (i>=2^63)=false:=decide_eq_false (by omega)
  rw[D,C,Bool.or_false]) (by rw[h1];simpa using h2) ⟨.str ⟨#[c]⟩,H,I.tok _,⟨_,rfl⟩,q⟩) o
def xN (Q1:Yg Yb) (n j:Nat) (u:Yb):Obj.mapSeq (·.setIfInBounds j u) { cls:=.type "list",data:=.seq Q1.toArray n }={ cls:=.type "list",data:=.seq (Q1.set j u).toArray n }:=by simp[Obj.mapSeq]
def Inv.lst{Q0:Yg (Yd×Obj)}{σ:St}{H:Hp}{s:Yc}{p:Yd}{xs:Yg V}(I:Inv X Q0 σ H s)(h:H p=some (.lst xs)) :
 ∃(Q1:Yg Yb) (n:Nat),Vals xs Q1/\s.heap.get? p=some { cls:=.type "list",data:=.seq Q1.toArray n }/\xs.length<=sizeLine:=by
 obtain⟨z,Q1,n,r,e⟩:=I.hok p _ h;exact⟨Q1,n,r,e,z⟩
def Inv.lstUpd{p:Yd}{xs:Yg V}{j:Nat}{f:Obj->Obj}(I:Inv X Q0 σ H s)(h:H p=some (.lst xs))
 (o:s.heap.get? p=some { cls:=.type "list",data:=.seq Q1.toArray n }) (l:f { cls:=.type "list",data:=.seq Q1.toArray n }={ cls:=.type "list",data:=.seq X6.toArray j }) (r:Vals ys X6) (m:ys.length<=sizeLine) (t:Nat) :
 Inv X Q0 σ (upd H p (.lst ys)) { s with heap:=s.heap.update p f,toks:=t }:=by
 have e:(s.heap.update p f).get? p=some { cls:=.type "list",data:=.seq X6.toArray j }:=by rw[Heap.get?_update_self f o (by rw[l]<;>rfl),l]
 refine I.write (by rw[h];trivial) (.inl rfl) (fun b u v q=>(Heap.get?_update_other _ _ (Ne.symm v)).trans q) ⟨_,e⟩ ?_
 exact⟨m,X6,j,r,e⟩
def Nv:V->V->V->Hp->(Hp->Prop)->Prop:=fun o i v H Q=>∃p xs k j,o=.ref p/\i=.int k/\H p=some (.lst xs)/\ixN xs.length k=some j/\Q (upd H p (.lst (xs.set j v)))
def C9:OU X Nv:=by
 intro Q0 s σ H o i v O iv u Q I D G C h;obtain⟨p,xs,k,j,rfl,rfl,m,L,q⟩:=h;cases D;obtain⟨t,rfl⟩:=G;obtain⟨Q1,n,r,f,J⟩:=I.lst m;obtain⟨h1,h2,y,x⟩:=uN L;have l:=r.length;have S:=oJ;have B :=
  I.lstUpd m f (xN Q1 n j u) (r.set C j) (by rw[List.length_set];exact J) s.toks
 by_cases z:0<=k
 . have hk:k.toNat=j:=by
    rw[seqIndex_of z x]at h1;exact ZG h1
   exact W.ki_setAt f z (by omega) (by rw[ZF,<- l];exact x) (by rw[hk];exact⟨_,B,q⟩)
 . have hk:(k+(Q1.toArray.size:Int)).toNat=j:=by
    rw[seqIndex_neg (by omega) y]at h1
    rw[ZF,<- l];exact ZG h1
   exact W.ki_setBack f (by omega) (by rw[ZF,<- l];exact y) (by omega) (by rw[hk];exact⟨_,B,q⟩)
def ur (lo hi) (n):(sliceBounds lo hi none n).1=((HT.sIx n 0 lo:Nat):Int)/\(sliceBounds lo hi none n).2.1=((HT.sIx n n hi:Nat):Int)/\(sliceBounds lo hi none n).2.2=1:=by
 refine⟨?_,?_,rfl⟩
 . cases lo with
   |none=>simp[sliceBounds,HT.sIx]
   |some i =>
    simp only[sliceBounds,HT.sIx,Option.getD_none,show(1:Int)>0 by decide,Z6]
    by_cases h:i<0
    . simp only[h,Z6]<;>omega
    . simp only[h,if_false]<;>omega
 . cases hi with
   |none=>simp[sliceBounds,HT.sIx]
   |some i =>
    simp only[sliceBounds,HT.sIx,Option.getD_none,show(1:Int)>0 by decide,Z6]
    by_cases h:i<0
    . simp only[h,Z6]<;>omega
    . simp only[h,if_false]<;>omega
def sA(Q1:Yg Yb)(lo hi:Ye Int):slicePick Q1.toArray lo hi none=((Q1.drop (HT.sIx Q1.length 0 lo)).take (HT.sIx Q1.length Q1.length hi-HT.sIx Q1.length 0 lo)).toArray:=by obtain⟨h1,h2,f⟩:=ur lo hi Q1.toArray.size;unfold slicePick;rw[h1,h2,f];simp only[sliceRange_one,pick_run,ZF]<;>rfl
def KG(K:ZA):V->Option Int->Option Int->Hp->VK->Prop:=fun x lo hi H Q=>∃a xs,x=.ref a/\SqL K H a xs/\∀p,H p=none->Q (.ref p) (upd H p (.lst (sE xs lo hi)))
def yV:SlR X (KG X.K):=by
 intro Q0 s σ H x v vl vu lo hi t Q I l p pl pu h;obtain⟨a,xs,rfl,o,q⟩:=h;cases l;obtain⟨Q1,r,j,m⟩:=I.list o;have f:=r.length;refine⟨"list",_,slot_list_getitem.lookup,j.isList.typeIs,?_⟩;refine wpAny_getItem_list_slice j.isList p pl pu .none (by simp) ?_ (by rw[ZF]<;>omega)
 rw[sA,<- f];refine⟨.ref s.heap.objs.size,_,I.laid (fun b u q=>ZS _ q) (ZM _) ?_,rfl,q _ (I.hok.fresh (ZM _))⟩
 exact⟨ZY (pF xs lo hi) m,_,0,(r.drop (HT.sIx xs.length 0 lo)).take (HT.sIx xs.length xs.length hi-HT.sIx xs.length 0 lo),ZW _ rfl⟩
noncomputable def lQ:V->Bool
 |.non=>true
 |.bl _=>true
 |.int _=>true
 |.str _=>true
 |_=>false
noncomputable def eqV:V->V->Bool
 |.non,.non=>true
 |.bl a,.bl b=>a==b
 |.bl a,.int b=>(if a then 1 else 0)==b
 |.int a,.bl b=>a==(if b then 1 else 0)
 |.int a,.int b=>a==b
 |.str a,.str b=>a==b
 |_,_=>false
def Fu{x}(j:RelV y u)(f:RelV x v)(m:lQ y=true)(l:lQ x=true):SeqAt.EqAt A s u v (eqV y x):=by
 cases y with
 |non =>
  cases j;cases x with
  |non=>cases f;exact SeqAt.EqAt.same _
  |bl b=>cases f;exact SeqAt.EqAt.none_bool b
  |int b=>obtain⟨t,rfl⟩:=f;exact SeqAt.EqAt.none_int b t
  |str b=>obtain⟨t,rfl⟩:=f;exact SeqAt.EqAt.none_str b t
  |_=>exact absurd (l) ZB
 |bl a =>
  cases j;cases x with
  |non=>cases f;exact SeqAt.EqAt.bool_none a
  |bl b=>cases f;exact SeqAt.EqAt.bool_bool a b
  |int b=>obtain⟨t,rfl⟩:=f;exact SeqAt.EqAt.bool_int a b t
  |str b=>obtain⟨t,rfl⟩:=f;exact SeqAt.EqAt.bool_str a b t
  |_=>exact absurd (l) ZB
 |int a =>
  obtain⟨t',rfl⟩:=j;cases x with
  |non=>cases f;exact SeqAt.EqAt.int_none a t'
  |bl b=>cases f;exact SeqAt.EqAt.int_bool a t' b
  |int b=>obtain⟨t,rfl⟩:=f;exact SeqAt.EqAt.int_int a t' b t
  |str b=>obtain⟨t,rfl⟩:=f;exact SeqAt.EqAt.int_str a t' b t
  |_=>exact absurd (l) ZB
 |str a =>
  obtain⟨t',rfl⟩:=j;cases x with
  |non=>cases f;exact SeqAt.EqAt.str_none a t'
  |bl b=>cases f;exact SeqAt.EqAt.str_bool a t' b
  |int b=>obtain⟨t,rfl⟩:=f;exact SeqAt.EqAt.str_int a t' b t
  |str b=>obtain⟨t,rfl⟩:=f;exact SeqAt.EqAt.str_str a t' b t
  |_=>exact absurd (l) ZB
 |_=>exact absurd (m) ZB
def eqU(x:V)(u:Value):Bool:=match u with
 |.none=>eqV .non x
 |.bool b=>eqV (.bl b) x
 |.int i _=>eqV (.int i) x
 |.str z _=>eqV (.str z) x
 |_=>false
def Ft{x}(r:RelV y u)(f:lQ y=true):eqU x u=eqV y x:=by
 cases y with
 |non=>cases r;rfl
 |bl b=>cases r;rfl
 |int i=>obtain⟨t,rfl⟩:=r;rfl
 |str z=>obtain⟨t,rfl⟩:=r;rfl
 |_=>exact absurd (f) ZB
theorem nS{x}:∀{xs}{us},Vals xs us->xs.all lQ=true->us.any (eqU x)=xs.any fun y=>eqV y x
 |_,_,.nil,_=>rfl
 |y::xs,u::us,.cons r t,f=>by rw[List.all_cons,ZN]at f;rw[List.any_cons,List.any_cons,Ft r f.1,nS t f.2]
theorem j8{x}(l:RelV x v)(m:lQ x=true):∀{xs}{us},Vals xs us->xs.all lQ=true->∀u∈us,SeqAt.EqAt A s u v (eqU x u)
 |_,_,.nil,_=>fun u j=>by cases j
 |y::xs,u::us,.cons r t,f=>fun o j=>by
  rw[List.all_cons,ZN]at f;rcases Zt.mp j with rfl|j
  . rw[Ft r f.1];exact Fu r l f.1 m
  . exact j8 l m t f.2 o j
def inV(x:V)(xs:List V):Bool:=xs.any fun y=>eqV y x
def rIn(K:ZA)(neg:Bool):R2:=fun x y H Q=>∃p xs,y=.ref p/\(SqL K H p xs\/SqT K H p xs)/\lQ x=true/\xs.all lQ=true/\Q (.bl (if neg then !inV x xs else inV x xs)) H
def tu:OpR X (compareOp .In) (rIn X.K false):=by
 intro Q0 s σ H x y v u Q I l o h;obtain⟨p,xs,rfl,f,m,fs,q⟩:=h;cases o;rcases f with f|f
 . obtain ⟨Q1,r,pl,t⟩:=I.list f;refine SeqAt.in_listAt (eqU x) pl.isList (fun w j=>j8 l m r fs w (by simpa using j)) ⟨.bl _,H,I,rfl,?_⟩
   rw[show Q1.toArray.any (eqU x)=Q1.any (eqU x) by simp,nS r fs]
   exact q
 . obtain ⟨Q1,r,pl,t⟩:=I.tuple f;refine SeqAt.in_tupleAt (eqU x) pl (fun w j=>j8 l m r fs w (by simpa using j)) ⟨.bl _,H,I,rfl,?_⟩
   rw[show Q1.toArray.any (eqU x)=Q1.any (eqU x) by simp,nS r fs]
   exact q
def m4:OpR X (compareOp .NotIn) (rIn X.K true):=by
 intro Q0 s σ H x y v u Q I l o h;obtain⟨p,xs,rfl,f,m,fs,q⟩:=h;cases o;rcases f with f|f
 . obtain ⟨Q1,r,pl,t⟩:=I.list f;refine SeqAt.notIn_listAt (eqU x) pl.isList (fun w j=>j8 l m r fs w (by simpa using j)) ⟨.bl _,H,I,rfl,?_⟩
   rw[show Q1.toArray.any (eqU x)=Q1.any (eqU x) by simp,nS r fs]
   exact q
 . obtain ⟨Q1,r,pl,t⟩:=I.tuple f;refine SeqAt.notIn_tupleAt (eqU x) pl (fun w j=>j8 l m r fs w (by simpa using j)) ⟨.bl _,H,I,rfl,?_⟩
   rw[show Q1.toArray.any (eqU x)=Q1.any (eqU x) by simp,nS r fs]
   exact q
def call_len_seq:CallR X (.builtin "len") (fun xs H Q=>∃p ys,xs=[.ref p]/\(SqL X.K H p ys\/SqT X.K H p ys)/\Q (.int ys.length) H):=by
 intro Q0 s σ H xs us Q I r h;obtain⟨p,ys,rfl,j,q⟩:=h;obtain⟨u,rfl,l⟩:=iR r;cases l;have o:=oJ;rcases j with j|j
 . obtain⟨Q1,r',pl,m⟩:=I.list j;have f:=r'.length;exact Calls.call_len_list pl.isList (by simp only[ZF]<;>omega) ⟨.int ys.length,H,I.tok _,⟨s.toks+1,by rw[ZF,f]⟩,q⟩
 . obtain⟨Q1,r',pl,m⟩:=I.tuple j;have f:=r'.length;exact len_tuple pl (by simp only[ZF]<;>omega) ⟨.int ys.length,H,I.tok _,⟨s.toks+1,by rw[ZF,f]⟩,q⟩
def vd:CallR X (.builtin "len") (fun xs H Q=>∃z,xs=[.str z]/\z.length<=sizeLine/\Q (.int z.length) H):=by intro Q0 s σ H xs us Q I r h;obtain⟨z,rfl,f,q⟩:=h;obtain⟨u,rfl,t,rfl⟩:=iR r;have j:=oJ;exact len_str (by omega) ⟨.int z.length,H,I.tok _,⟨_,rfl⟩,q⟩
def CallR.or{f:Yb}(h:CallR X f r)(h':CallR X f r'):CallR X f (fun xs H Q=>r xs H Q\/r' xs H Q):=by
 intro Q0 s σ H xs us Q I j q;rcases q with q|q
 . exact h Q0 s σ H xs us Q I j q
 . exact h' Q0 s σ H xs us Q I j q
def vb:CallR X (.type "list") (fun xs H Q=>∃p ys,xs=[.ref p]/\(SqL X.K H p ys\/SqT X.K H p ys)/\∀l,H l=none->Q (.ref l) (upd H l (.lst ys))):=by
 intro Q0 s σ H xs us Q I r h;obtain⟨p,ys,rfl,t,q⟩:=h;obtain⟨u,rfl,B⟩:=iR r;cases B;have fin:∀Q1,Vals ys Q1->ys.length<=sizeLine->∀h' f,(∀b o',s.heap.get? b=some o'->h'.get? b=some o') ->
  h'.get? s.heap.objs.size=some { cls:=.type "list",dict:=none,data:=.seq Q1.toArray f,slots:=#[] }->EP X Q0 σ Q (.ref s.heap.objs.size) { s with heap:=h' }:=fun Q1 r' m h' f j e =>
  ⟨.ref s.heap.objs.size,_,I.laid (t':=s.toks) j (ZM _) (show ObjOk X.prog X.w _ h' _ (.lst ys)from⟨m,Q1,f,r',e⟩),rfl,q _ (I.hok.fresh (ZM _))⟩
 rcases t with t|t
 . obtain⟨Q1,r',pl,m⟩:=I.list t;have v:=r'.length;obtain⟨o,x,z,n,y⟩:=pl.isList;exact call_list_seq p (.inl rfl) x z y (fun h' f j e=>fin Q1 r' m h' f j e) (by simp only[ZF]<;>omega)
 . obtain⟨Q1,r',pl,m⟩:=I.tuple t;have v:=r'.length;obtain⟨o,x,z,n,y⟩:=pl;exact call_list_seq p (.inr rfl) x z y (fun h' f j e=>fin Q1 r' m h' f j e) (by simp only[ZF]<;>omega)
def tyV(K:ZA)(T:String)(x:V)(H:Hp):Prop:=match x with
 |.str _=>T = "str"
 |.int _=>T = "int"
 |.ref p=>(T = "list"/\∃xs,SqL K H p xs)\/(T = "tuple"/\∃o,K.lookup p=some o/\o.cls=.type "tuple"/\o.dict=none)\/
  (T = "dict"/\∃Q6 o,H p=some (.frz o (.dK Q6)))
 |_=>False
def CI {x} (I:Inv X Q0 σ H s) (r:RelV x v) (f:tyV X.K T x H) :
 s.TypeIs v T/\∀a,v=.ref a->∃j,s.heap.get? a=some j/\j.dict=none:=by
 cases x with
 |str z =>obtain⟨t,rfl⟩:=r;cases(f);exact⟨typeIs_str s z t,fun _ e=>nomatch e⟩
 |int i =>obtain⟨t,rfl⟩:=r;cases(f);exact⟨typeIs_int s i t,fun _ e=>nomatch e⟩
 |ref p =>
  cases r;rcases f with⟨rfl,xs,m⟩|⟨rfl,o,hk,q,l⟩|⟨rfl,Q6,j,hk⟩
  . obtain ⟨Q1,_,pl,_⟩:=I.list m;refine ⟨pl.isList.typeIs,fun a e=>?_⟩
    cases e;obtain⟨o,n,e,c,l,_⟩:=pl;exact⟨o,e,l⟩
  . refine ⟨⟨o,I.kIn p o hk,q⟩,fun a e=>?_⟩
    cases e;exact⟨o,I.kIn _ o hk,l⟩
  . obtain ⟨_,_,_,_,o,_,_,e,ex,_⟩:=I.hok p _ hk;refine ⟨⟨o,e,ex.1⟩,fun a u=>?_⟩
    cases u;exact⟨o,e,ex.2.1⟩
 |_=>exact Z9 f
def Nk(K:ZA)(T:String)(r:V->List V->Hp->VK->Prop)(to:TE):TE:=fun σ H Q=>to σ H fun x H1=>tyV K T x H1/\r x [] H1 Q
def tBM(K:ZA)(T:String)(r:V->List V->Hp->VK->Prop)(to:TE)(t:TA):TE:=fun σ H Q=>to σ H fun x H1=>tyV K T x H1/\t σ H1 fun xs H2=>r x xs H2 Q
variable {to:TE} {X0:Pos} {id:String} {r:V->Yg V->Hp->VK->Prop}
def Eo (B:PlainAttrs T) (l:Slot T name id) (p:typeOf (.builtin id)=pure (.type "method_descriptor")) (D:MtR X id r) (C:PE X o to)
 (j:attributeBase o name X.env (eval o X.env)=eval o X.env:=by rfl) (f:(Q7.endLine==X0.line)=true:=by rfl):PE X (.Call (.Attribute o name Q7) [] [] X0) (Nk X.K T r to):=by
 intro Q0 s σ H Q I h;refine wpAny_Call_method0_late j f (cW (C Q0 s σ H _ I h) fun{v y x H1} t q m=>?_)
 obtain⟨u,z⟩:=m;obtain⟨h1,h2⟩:=CI t q u;exact⟨T,id,B,l,p,h1,h2,Calls.callWith_builtin rfl (PySem.evalArgs_none (D Q0 y σ H1 x [] v [] Q t q .nil z))⟩
def zo (S:PlainAttrs T) (m:Slot T name id) (u:typeOf (.builtin id)=pure (.type "method_descriptor")) (Y:MtR X id r) (V:PE X o to) (Z:PA X (e::es) t)
 (l:attributeBase o name X.env (eval o X.env)=eval o X.env:=by rfl)
 (p:((backTo X0 (starEach (e :: es) X.env)).all (fun x=>!x.1) && (backToKw X0 (keywordEach [] X.env)).all (fun x=>x.1.isSome)
  && decide ((e::es).length+([]:Yg Keyword).length+(if([]:Yg Keyword).isEmpty then 0 else 1)<30))=true:=by rfl)
 (j:(Q7.endLine==X0.line)=true:=by rfl) (U:starEach (e::es) X.env=(false,eval e X.env)::starEach es X.env:=by rfl) (f:(backTo X0 (starEach es X.env)).any (·.1)=false:=by rfl) :
 PE X (.Call (.Attribute o name Q7) (e::es) [] X0) (tBM X.K T r to t):=by
 intro Q0 s σ H Q I h;refine wpAny_Call_method_late l p j rfl (cW (V Q0 s σ H _ I h) fun{v G x H1} B y q=>?_)
 obtain⟨C,O⟩:=q;obtain⟨h1,h2⟩:=CI B y C;refine⟨T,id,S,m,u,h1,h2,?_⟩;have z:=Z X0 Q0 G σ H1 _ B O;rw[U]at z ⊢;refine Calls.callWith_builtin (by show(false||(backTo X0 (starEach es X.env)).any (·.1))=false;rw[f]<;>rfl) (Calls.evalArgs_plain ?_)
 exact thn z fun us D ⟨vs,H2,I2,J,L⟩=>Y Q0 D σ H2 x vs v us Q I2 y J L
end
def MtM(X:Cx)(id:String)(r:V->List V->Hp->VK->Prop):Prop :=
 ∀(Q0:List (Addr×Obj))(s:Shared)(σ:St)(H:Hp)(x:V)(xs:List V)(v:Value)(us:List Value)(Q:VK),Inv X Q0 σ H s->RelV x v->Vals xs us->r x xs H Q ->
  wpAny (model X.prog X.w) X.A (call (.builtin id) (v::us)) (EP X Q0 σ Q) X.xe s
theorem Vals.one:∀{x:V}{us:Yg Yb},Vals [x] us->∃u,us=[u]/\RelV x u
 |_,_,.cons r .nil=>⟨_,rfl,r⟩
theorem Vals.zero:∀{us},Vals [] us->us=[]
 |_,.nil=>rfl
section
variable {l:Yd} {xs zs:Yg V}
def Inv.lset{f}(I:Inv X Q0 σ H s)(t:H l=some (.lst xs))
 (e:s.heap.get? l=some { cls:=.type "list",data:=.seq Q1.toArray n }) (p:f Q1.toArray=X6.toArray) (m:Vals ys X6) (j:ys.length<=sizeLine) :
 Inv X Q0 σ (upd H l (.lst ys)) { s with heap:=s.heap.update l (Obj.mapSeq f),toks:=t' }:=by
 have q:=PySem.IsL.update e f;rw[p]at q;refine I.write (by rw[t];exact trivial) (.inl rfl) (fun v u r o=>(Heap.get?_update_other s.heap (Obj.mapSeq f) (Ne.symm r)).trans o) ⟨_,q⟩ ?_
 exact⟨j,X6,_,m,q⟩
def Inv.lnew(I:Inv X Q0 σ H s)(j:Vals ys Q1)(f:ys.length<=sizeLine) :
 Inv X Q0 σ (upd H s.heap.objs.size (.lst ys)) { s with heap:=s.heap.push { cls:=.type "list",data:=.seq Q1.toArray },toks:=t' } :=
 I.laid (fun _ _ q=>ZS _ q) (ZM _) ⟨f,Q1,0,j,ZW _ rfl⟩
theorem Inv.fresh(I:Inv X Q0 σ H s):H s.heap.objs.size=none:=I.hok.fresh (ZM _)
def Inv.lstM (I:Inv X Q0 σ H s) (f:H l=some (.lst xs)):xs.length<=sizeLine/\∃Q1 n,Vals xs Q1/\xs.length=Q1.length/\s.heap.get? l=some { cls:=.type "list",data:=.seq Q1.toArray n }:=by obtain⟨z,Q1,n,r,e⟩:=I.hok l _ f;exact⟨z,Q1,n,r,r.length,e⟩
def EH(h:n<=sizeLine):Builtin.List.listTooLong n=false:=by unfold Builtin.List.listTooLong;exact decide_eq_false (by omega)
end
section
def ze:V->List V->Hp->VK->Prop:=fun x vs H Q=>∃l xs y,x=.ref l/\vs=[y]/\H l=some (.lst xs)/\xs.length<sizeLine/\Q .non (upd H l (.lst (xs++[y])))
def By:MtM X "list.append" ze:=by
 intro Q0 s σ H x vs v us Q I j m h;obtain⟨l,xs,y,rfl,rfl,f,p,q⟩:=h;cases j;obtain⟨u,rfl,o⟩:=m.one;obtain⟨z,Q1,n,r,t,e⟩:=I.lstM f;refine call_meets F.slot_list_append ⟨_,e,rfl⟩ F.entry_list_append (F.args_list_append_2 _ _) (PySem.list_append l Q1.toArray n u (by rw[ZF];omega)) ⟨e,?_⟩
 refine⟨.non,_,I.lset f e (by simp) (r.append (.cons o .nil)) ?_,rfl,q⟩
 rw[Zk,List.length_singleton];omega
def zd:V->List V->Hp->VK->Prop:=fun x vs H Q=>∃l b xs zs,x=.ref l/\vs=[.ref b]/\H l=some (.lst xs)/\H b=some (.lst zs)/\xs.length+zs.length<=sizeLine/\Q .non (upd H l (.lst (xs++zs)))
def Bx:MtM X "list.extend" zd:=by
 intro Q0 s σ H x vs v us Q I p t h;obtain⟨l,b,xs,zs,rfl,rfl,o,D,J,q⟩:=h;cases p;obtain⟨u,rfl,y⟩:=t.one;cases y;obtain⟨z,Q1,n,r,L,e⟩:=I.lstM o;obtain⟨z2,f,n2,B,C,G⟩:=I.lstM D;have m:Q1.toArray.size+f.toArray.size<=sizeLine:=by rw[ZF,ZF];omega
 have j:¬(!Q1.toArray.isEmpty&&Builtin.List.listTooLong (Q1.toArray.size+f.toArray.size))=true:=by rw[EH m,Bool.and_false];exact ZB
 refine call_meets F.slot_list_extend ⟨_,e,rfl⟩ F.entry_list_extend (F.args_list_extend_2 _ _)
  (AutoSeq1.list_extend_list_list_0 l Q1.toArray n b f.toArray n2 j (by rw[ZF];omega) (by omega)) ⟨e,G,?_⟩
 refine⟨.non,_,I.lset o e (by simp) (r.append B) ?_,rfl,q⟩
 rw[Zk];omega
def Dm:V->List V->Hp->VK->Prop:=fun x vs H Q=>∃l xs,x=.ref l/\vs=[]/\H l=some (.lst xs)/\Q .non (upd H l (.lst []))
def EO:MtM X "list.clear" Dm:=by
 intro Q0 s σ H x vs v us Q I m o h;obtain⟨l,xs,rfl,rfl,j,q⟩:=h;cases m;have f:=o.zero;subst f;obtain⟨z,Q1,n,r,p,e⟩:=I.lstM j;refine call_meets F.slot_list_clear ⟨_,e,rfl⟩ F.entry_list_clear (F.args_list_clear_1 _) (AutoSeq1.list_clear_list_0 l Q1.toArray n (by rw[ZF];omega)) ⟨e,?_⟩
 exact⟨.non,_,I.lset j e rfl .nil (Nat.zero_le _),rfl,q⟩
def NH:R2:=fun x y H Q=>∃l b xs zs,x=.ref l/\y=.ref b/\H l=some (.lst xs)/\H b=some (.lst zs)/\xs.length+zs.length<=sizeLine/\∀p,H p=none->Q (.ref p) (upd H p (.lst (xs++zs)))
def EB:OpR X (binaryOp .Add) NH:=by
 intro Q0 s σ H x y v u Q I m j h;obtain⟨l,b,xs,zs,rfl,rfl,t,B,G,q⟩:=h;cases m;cases j;obtain⟨z,Q1,n,r,J,e⟩:=I.lstM t;obtain⟨z2,f,n2,o,p,D⟩:=I.lstM B;refine PySem.P.add_list e D ?_ (by rw[ZF,ZF];omega)
 have C:Q1.toArray++f.toArray=(Q1++f).toArray:=by simp
 rw[C];exact⟨.ref _,_,I.lnew (r.append o) (by rw[Zk];omega),rfl,q _ I.fresh⟩
end
end L2
namespace Att
open PySem PySem.W PySem.Calls PyProof.Rows
variable {P:Params} {l:OpenLaw} {XP:(Str->Ye Yb)->Heap->Prop} {YP:World->Heap->Prop}
def pQ{h}:∀f vs,WellAll P h vs (f.map WData.int)->IntsAre vs f:=by
 intro f
 induction f with
 |nil =>intro vs w;rw[Zv]at w;cases w;exact .nil
 |cons n f j =>
  intro vs w;rw[Zu]at w;cases w with
  |cons a b =>cases a;exact .cons _ _ (j _ b)
def AQ{n}(C:l.most=some n){h}{args}{vals}
 (j:l.row.toRowW.claim.pre args=true) (t:WellAll P h vals args) :
 ∃a vs f,vals=[Value.ref a]/\args=[WData.list (f.map WData.int)]/\h.get? a=some { cls:=.type "list",data:=.seq vs.toArray }/\IntsAre vs f/\f.length<=n:=by
 have u:WShape.hasAll [] args [.list .int]=true:=(pre_splitW j).1;have v:l.pre.holds [] { args:=args }=true:=(pre_splitW j).2;obtain⟨d,r,rfl,h1,h2⟩:=hasAllW_cons u;obtain rfl:=hasAllW_nil h2;obtain⟨xs,rfl,D⟩:=hasW_list h1;obtain⟨f,rfl⟩:=items_int D;have m:f.length<=n:=by
  unfold OpenLaw.pre at v;have s:(WTm.not (.lt (.lit (.int (n:Int))) (.len (.arg 0)))).holds [] { args:=[.list (f.map .int)] }=true:=by have s:=(holds_andW v).1;rw[C]at s;exact s
  have p:=condW_of s (w_not (w_lt w_lit (w_len_list (w_arg rfl))));rw[Zl]at p;refine Nat.le_of_not_lt fun q=>?_
  have z:(n:Int)<((f.length:Nat):Int):=by omega
  first
   |(rw[decide_eq_true z]at p;exact absurd p (by decide))
   |(simp at p;omega)
 cases t with
 |cons y x =>
  cases x;cases y with
  |list B o=>exact⟨_,_,f,rfl,rfl,B,pQ f _ o,m⟩
def Ba(l:OpenLaw)(args:Yg WData):l.row.toRowW.claim.post args (.bool true) args=true :=
 postW_of
  (show WShape.has [] (.bool true) .bool=true by first|rfl|decide|simp[WShape.arms])
  (w_eq_bool (w_res rfl) w_lit) rfl
def attach_call{n:Nat}{q:Program}{loose:Yg Str}{d:DefRec}
 (S:l.most=some n) (B:d.params.defaults=[])
 (call:∀ (w:World) (m j:Yc) (mg mb:Str->Ye Yb) (fa:Yd) (o:Obj) (pm x X4:Yb) (a:Yd) (vs:Yg Yb) (v:Yg Int),
  Ground q loose [] XP w m mg mb j.heap->YP w j.heap ->
  j.heap.get? fa=some o->o.data=.func (docDef d.name d.params d.body d.scope pm x X4)->j.heap.CodeRec x d.name->mg d.name=some (.ref fa) ->
  j.heap.get? a=some { cls:=.type "list",data:=.seq vs.toArray }->IntsAre vs v->v.length<=n->j.gens = #[] ->
  codeAny (model l.prog w) callerA (.call (.ref fa) ⟨[.ref a],[]⟩) (fun r s'=>r=.ok (.ret (.bool true))/\OldK j.heap s'.heap/\s'.os=j.os/\AllBare s'.gens) j) :
 WalkO q loose XP YP l.row.toRowW d [] (fun f vs=>PySem.call f vs):=by
 intro w m j mg mb G Y fa o pm x X4 dV J Q Z C I z X args D as s H L y V;obtain rfl:dV=.none:=Dflts.none I B;obtain rfl:J=.none:=Dflts.noKw I;obtain⟨a,vs,v,rfl,rfl,t,p,u⟩:=AQ S s y;refine enter_call (codeAny_mono (call w m j mg mb fa o pm x X4 a vs v G Y Q (fd_plain Z) C z t p u X) fun r s' O=>?_)
 obtain⟨rfl,h2,h3,h4⟩:=O;exact⟨.inl ⟨.bool true,.bool true,[],rfl,fun _=>rfl,.bool true,Ba l _,fun _=>⟨List.Pairwise.nil,fun _ U=>(nomatch U)⟩⟩,h2,h3,h4⟩
end Att
namespace L2
open PySem PySem.Spec PyProof.Rows
variable {us vs ds Q1 X6:Yg Yb} {x name m qual:Str} {u v X4 pm Q9 oc:Yb} {H H':Hp} {a b C dx:Yd} {o e c tg X1:Expr} {P prog:Program} {w:World} {h h' base:Heap} {fs':Yg (Str×V)} {ex ex' ch fp:Yg Yd} {X:Cx} {Q0 pins':Yg (Yd×Obj)} {σ:St} {s s':Yc} {g':Array GenState} {t' i j k n:Nat} {d':Drawn} {N ps ks:Yg Str} {M:Model} {A:Around} {Q:Yb->Yc->Prop} {t:TA} {ta te tc:TE} {y:V} {ys X8:Yg V} {K:ZA} {f:Yb->Yb->Sem Yb} {st:Stmt} {es:Yg Expr} {X2 p tpos Q7:Pos} {body:Yg Stmt} {l:W.OpenLaw} {R:Result->Yc->Prop} {lo hi:Ye Expr} {pl:Sem Bool} {op op':CmpOp} {r r':Yg V->Hp->VK->Prop} {mA mg mb:Str->Ye Yb} {kw:Yg (Str×Yb)} {outer:Yg Env} {fd:FuncData} {CX:CXT} {sp:Sp} {kws:Yg Keyword} {nm:Ye Str} {gV:Yg V->Yg V->Yg V} {kindOf:Str->Ye NameKind} {scope:Scope} {an od:Ye Yd} {osl:Array (Ye Yb)} {T:String} {XP:(Str->Ye Yb)->Heap->Prop} {YP:World->Heap->Prop} {Q6:Yg (Key×V)}
theorem sP:∀{vs}{ns},IntsAre vs ns->Vals (ns.map V.int) vs
 |_,_,.nil=>.nil
 |_,_,.cons n t h=>.cons ⟨t,rfl⟩ (sP h)
def M6(H:Hp):Prop:=∀b,H b=none\/∃o xs,H b=some (.frz o (.lst xs))
def EW {fa:Yd} {f:Yc} {C:Yg Int}
 (KX:K.In f.heap) (J:f.heap.Ns mainGlobals mg) (l:f.heap.Ns builtinsNs mb) (X:∀x:Str,x≠"__name__"->mb x=bootBuiltins x) (L:f.heap.NoLimit) (hg:f.gens = #[])
 (Q:f.heap.get? a=some { cls:=.type "list",data:=.seq vs.toArray }) (hi:IntsAre vs C) (hl:C.length<=sizeLine) (hr:Room k callerA)
 (F:∀base:Heap,K.In base->base.Ns mainGlobals mg->jc P w K mg base CX k fa fd [x] sp) (y:∀(s:Yc)(u:Yb),BindsTo s fd ⟨[u],[]⟩ [(x,u)])
 (U:∀H:Hp,M6 H->SqL K H a (C.map V.int)->sp [.ref a] H (fun v _=>v=.bl true) fun _ _ _=>False)
 (Y:∀H e s',CX [] H f (fun _ _ _=>False) e s'->False) :
 codeAny (model P w) callerA (.call (.ref fa) ⟨[.ref a],[]⟩) (fun r s'=>r=.ok (.ret (.bool true))/\OldK f.heap s'.heap/\s'.os=f.os/\AllBare s'.gens) f:=by
 have rv:=sP hi;have D:=hi.length;have t:∀H:Hp,M6 H->SqL K H a (C.map V.int)->HOk P w H f.heap->(∀b,H b≠none->b=a)->(H a≠none->K.lookup a=none) ->
  codeAny (model P w) callerA (.call (.ref fa) ⟨[.ref a],[]⟩) (fun r s'=>r=.ok (.ret (.bool true))/\OldK f.heap s'.heap/\s'.os=f.os/\AllBare s'.gens) f:=by
  intro H hO hS I hA hK;have j:∀{b:Yd}{o:Obj},f.heap.get? b=some o->H b=none->(uQ f.heap H).get? b=some o:=fun e n=>Fd e n
  have S:∀{b:Yd}{o:Obj}{es:Array DictEntry}{ep:Nat},f.heap.get? b=some o->o.data=.dict es ep->H b=none:=fun{b o es ep} e d=>by
   cases q:H b with
   |none=>rfl
   |some u =>
    have Z:b=a:=hA b (by rw[q];simp)
    subst Z;rw[Q]at e;cases e;have d':Data.seq vs.toArray _=Data.dict es ep:=d;cases d'
  have p:∀{b:Yd}{m:Str->Ye Yb},f.heap.Ns b m->(uQ f.heap H).Ns b m:=fun{b m} ⟨o,es,ep,e,d,r⟩=>⟨o,es,ep,j e (S e d),d,r⟩
  have O:K.In (uQ f.heap H):=fun b o e=>j (KX b o e) (by
   cases q:H b with
   |none=>rfl
   |some u =>
    have Z:b=a:=hA b (by rw[q];simp)
    subst Z;rw[hK (by rw[q];simp)]at e;cases e)
  have hM:Mod K mg (uQ f.heap H):=⟨O,p J,⟨mb,p l,X⟩,let ⟨mc,h1,h2⟩:=L;⟨mc,p h1,h2⟩⟩;have e0:Env0 P w K mg (uQ f.heap H) callerA [] f H:=⟨rfl,hM,fun b o e=>Iy e,Nat.le_of_eq (BN _ _),trivial,fun b l=>absurd (show b∈([]:Yg Yd)from l) (by simp),I,.of_eq hg⟩
  refine codeAny_mono ((F _ O (p J)).run callerA [] f H ⟨[.ref a],[]⟩ [.ref a] [.ref a] _ _ hr e0 (y f (.ref a)) (.cons rfl .nil) (U H hO hS)) fun r s' h=>?_
  cases r with
  |error e=>exact(Y H e s' h).elim
  | ok fl =>
   cases fl with
   |next=>exact Z9 h
   |brk=>exact Z9 h
   |cont=>exact Z9 h
   | ret u =>
    obtain⟨v,H',os,bare,un,G,r',q⟩:=h;have q':v=.bl true:=q;subst q';obtain rfl:u=Value.bool true:=r';refine⟨rfl,OldK.of_keep fun b o e=>?_,os,bare⟩
    cases q:H b with
    |none=>exact un.keep b o e q (by intro z;exact absurd (show b∈([]:Yg Yd)from z) (by simp)) (by simp)
    |some u =>
     rcases hO b with z|⟨ob,xs,z⟩
     . rw[q]at z;cases z
     . have z2:=un.frzs b ob _ z;obtain⟨e1,_⟩:=I b _ z;obtain⟨e2,_⟩:=G b _ z2;rw[e]at e1;cases e1;exact e2
 cases hk:K.lookup a with
 |some o =>have e:=KX a o hk;rw[Q]at e;cases e;refine t (fun _=>none) (fun _=>.inl rfl) (.inr ⟨_,vs.toArray,_,hk,rfl,rfl,rfl,by rw[ZF,D];exact hl,by simpa using rv⟩) (fun b u z=>by have B:(none:Ye HO)=some u:=z;cases B) (fun b z=>absurd rfl z) fun z=>absurd rfl z
 |none =>
  refine t (fun b=>if b=a then some (.frz { cls:=.type "list",data:=.seq vs.toArray } (.lst (C.map V.int)))else none) (fun b=>?_) (.inl (.inr ⟨{ cls:=.type "list",data:=.seq vs.toArray },if_pos rfl⟩)) (fun b u z=>?_) (fun b z=>?_) fun _=>hk
  . by_cases l:b=a
    . exact .inr ⟨_,_,if_pos l⟩
    . exact .inl (if_neg l)
  . by_cases l:b=a
    . have B:=(if_pos l).symm.trans z;cases B;subst l;exact⟨Q,by rw[Zl];exact hl,vs,_,rv,Q⟩
    . have B:=(if_neg l).symm.trans z;cases B
  . by_cases l:b=a
    . exact l
    . exact absurd (if_neg l) z
noncomputable abbrev CX0:CXT:=fun _ _ _ _ _ _=>False
abbrev E0:XK:=fun _ _ _=>False
def iU:kG CX0 X E0:=fun _ _ _ _ _ _ _ h=>h.elim
structure Fun(K:ZA)(x qual:Str)(st:Stmt)(f:Addr)(fd:FuncData):Prop where
 ex:∃(oc:Value)(od:Option Addr)(kV X4 pm:Value)(an:Option Addr)(Q9 ct:Value)(osl:Array (Option Value)),
  fd=W.fnOf x qual (eV st) (cB st) (aU st) .none kV X4 pm an Q9 ct/\K.lookup f=some ⟨oc,od,.func fd,osl⟩/\W.codeIn K Q9 qual=true
 kp:W.keepIn K (.ref f)=true
section
def Fun.ok{f:Yd}(F:Fun K x qual st f fd)(S:iH N ps (aU st))(len:∀vs H Q E,sp vs H Q E->vs.length=ps.length)
 (j:∀ (Q9:Yb) (A:Around) (outer:Yg Env) (s:Yc) (H:Hp) (vs:Yg V) (Q:VK) (E:XK),Room k (A.deeper (envOfC qual (aU st) s.heap.objs.size f Q9))->sp vs H Q E ->
  ∃t,PSs (rQ CX0 P w K mg base N qual (aU st) f Q9 A outer s H E).nox (cB st) t/\t { nx:=fun _ H'=>Q .non H',rt:=Q } (start N vs) H):jc P w K mg base CX0 (k+1) f fd ps sp:=by
 obtain⟨oc,od,p,X4,pm,an,Q9,ct,osl,rfl,lk,m⟩:=F.ex;refine Oq lk m S len fun A outer s H vs Q E o l=>?_
 obtain⟨t,h,q⟩:=j Q9 A outer s H vs Q E o l;exact⟨t,h.nox,q⟩
def Fun.binds{f}(F:Fun K x qual st f fd)
 (h:∀j X4 pm an Q9 ct us,us.length=ps.length->bindArgs (W.fnOf x qual (eV st) (cB st) (aU st) .none j X4 pm an Q9 ct) ⟨us,[]⟩=pure (ps.zip us)):Binds K fd ps []:=by
 obtain⟨oc,od,j,X4,pm,an,Q9,ct,osl,rfl,lk,l⟩:=F.ex;exact .all (h j X4 pm an Q9 ct)
def Mr{f}{kV ct}(l:K.lookup f=some ⟨oc,od,.func (W.fnOf x qual (eV st) (cB st) (aU st) .none kV X4 pm an Q9 ct),osl⟩)
 (c:W.codeIn K Q9 qual=true) (k:W.keepIn K (.ref f)=true):Fun K x qual st f (W.fnOf x qual (eV st) (cB st) (aU st) .none kV X4 pm an Q9 ct):=⟨⟨oc,od,kV,X4,pm,an,Q9,ct,osl,rfl,l,c⟩,k⟩
end
def sX(h:n<=1000):n<sizeLine:=Nat.lt_of_le_of_lt h (by decide)
def Same(H H':Hp):Prop:=∀b o,H b=some o->H' b=some o
def Same.refl(H):Same H H:=fun _ _ h=>h
def Same.trans{H1 H2}(a:Same H H1)(b:Same H1 H2):Same H H2:=fun c o h=>b c o (a c o h)
def Same.seq{K}{H H'}{a}{xs}(e:Same H H')(h:SqL K H a xs):SqL K H' a xs:=by
 rcases h with(h|⟨o,h⟩)|h
 . exact .inl (.inl (e _ _ h))
 . exact .inl (.inr ⟨o,e _ _ h⟩)
 . exact .inr h
end L2
namespace Dl
open PySem PySem.Spec PyProof.Rows L2
variable {X:Cx} {i t' n j k:Nat} {x qual y m z:Str} {P prog:Program} {w:World} {H H' H₂ H1 H2:Hp} {s s' s₂:Yc} {l a e b c tg iter:Expr} {B A fp:Yg Yd} {h' base:Heap} {K:ZA} {mg:Str->Ye Yb} {N T:Yg Str} {scope:Scope} {vs ys:Yg V} {σ:L2.St} {t C it:Yd} {p p2:Pos} {r r':Yg V->Hp->VK->Prop} {Q:Yb->Yc->Prop} {op:CmpOp} {es:Yg Expr} {v:V} {st:Stmt} {lo hi:Ye Expr} {Q0:Yg (Yd×Obj)} {cl:Yg (Str×Yd)} {js:Yg Nat} {R:Result->Yc->Prop} {S:Nat->Heap->Prop}
noncomputable def nmB (X:Cx) (i:Nat) (x:Str):Bool:=decide (X.N[i]?=some x)&&(match X.env.scope.names.lookup x with|some .local=>true|some .cell=>true|some .free=>true|_=>false) && !(x==("__debug__":Str)) && !(x==("__classdict__":Str))
abbrev NmX(X:Cx)(i:Nat)(x:Str):Prop:=nmB X i x=true
def jP{pos}(h:NmX X i x):PE X (.Name x pos) (GT i):=by simp only[NmX,nmB,ZN,Bool.not_eq_true',decide_eq_true_eq]at h;obtain⟨⟨⟨h1,h2⟩,j⟩,f⟩:=h;refine Lr h1 ?_ j f;unfold Vis;split at h2<;>first|simp[*];done|cases h2
noncomputable def N5(sc:Scope)(x:Str):Bool:=match sc.names.lookup x with|some .local=>true|some .cell=>true|_=>false
def loX{sc}(h:N5 sc x=true):Loc sc x:=by unfold N5 at h;unfold L2.Loc;split at h<;>first|simp[*];done|cases h
abbrev FoX(X:Cx)(x:Str):Prop:=X.fn x=true\/X.env.scope.names.lookup x=some .local
def foX(h:(X.fn x||decide (X.env.scope.names.lookup x=some .local))=true):FoX X x:=by simpa using h
abbrev PlX(X:Cx)(e:Expr)(es:List Expr):Prop:=starEach (e::es) X.env=(false,eval e X.env)::starEach es X.env
abbrev BkX(X:Cx)(pos:Pos)(es:List Expr):Prop:=(backTo pos (starEach es X.env)).any (·.1)=false
abbrev NbX (x:Str):Prop:=(x==("__debug__":Str))=false
abbrev FsX(X:Cx)(it:Expr):Prop:=∀v,foldedSetIterable it X.env v=pure v
inductive D where
 |non
 |bl (b:Bool)
 |int (i:Int)
 |str (x:Str)
 |tup (ds:List D)
 |lst (ds:List D)
 |seq (ds:List D)
 |ty (n:String)
 |dct
 |cls (C:Addr)
 |ob (C:Addr) (xs:List Str) (ds:List D)
 |oo (C:Addr) (xs:List Str) (ds:List D)
 |any
 |tin
 |dv (ds:List D)
noncomputable def JG (a:Addr):HO:=.ext fun h=>∃o,h.get? a=some o/\o.cls=.type "dict"
mutual
inductive Rep(K:ZA)(H:Hp):V->D->Prop
 |non:Rep K H .non .non
 |bl (b:Bool):Rep K H (.bl b) (.bl b)
 |int (i:Int):Rep K H (.int i) (.int i)
 |str (x:Str):Rep K H (.str x) (.str x)
 |ty (n:String):Rep K H (.ty n) (.ty n)
 |tup {a:Addr} {vs:List V} {ds:List D} (h:SqT K H a vs) (r:Reps K H vs ds):Rep K H (.ref a) (.tup ds)
 |lst {a:Addr} {vs:List V} {ds:List D} (h:H a=some (.lst vs)) (r:Reps K H vs ds):Rep K H (.ref a) (.lst ds)
 |seq {a:Addr} {vs:List V} {ds:List D} (h:SqL K H a vs) (r:Reps K H vs ds):Rep K H (.ref a) (.seq ds)
 |dct {a:Addr} (h:H a=some (JG a)):Rep K H (.ref a) .dct
 |cls (C:Addr):Rep K H (.ref C) (.cls C)
 |ob {a C dx:Addr} {xs:List Str} {vs:List V} {ds:List D} (h:H a=some (.ins C dx (xs.zip vs))) (l:xs.length=ds.length) (r:Reps K H vs ds):Rep K H (.ref a) (.ob C xs ds)
 |oo {a C dx:Addr} {xs:List Str} {vs:List V} {ds:List D} (h:H a=some (.ins C dx (xs.zip vs))) (l:xs.length=ds.length) (r:Reps K H vs ds):Rep K H (.ref a) (.oo C xs ds)
 |any (a:Addr):Rep K H (.ref a) .any
 |tin {a:Addr} {ns:List Int} (h:SqT K H a (ns.map V.int)) (n:ns≠[]):Rep K H (.ref a) .tin
 |dv {a:Addr} {o:Obj} {Q6:List (Str×V)} {ds:List D} (h:H a=some (.frz o (.dK Q6))) (r:Reps K H (Q6.map (·.2)) ds):Rep K H (.ref a) (.dv ds)
inductive Reps(K:ZA)(H:Hp):List V->List D->Prop
 |nil:Reps K H [] []
 |cons {v:V} {d:D} {vs:List V} {ds:List D} (r:Rep K H v d) (t:Reps K H vs ds):Reps K H (v::vs) (d::ds)
end
def gR{a}{xs}(e:Same H H')(h:SqT K H a xs):SqT K H' a xs:=by
 rcases h with(h|⟨o,h⟩)|h
 . exact .inl (.inl (e _ _ h))
 . exact .inl (.inr ⟨o,e _ _ h⟩)
 . exact .inr h
def Rep.both{P:V->D->Prop}{Q:Yg V->Yg D->Prop}(L:P .non .non)(J:∀b,P (.bl b) (.bl b))(I:∀i,P (.int i) (.int i))(G:∀x,P (.str x) (.str x))(B:∀n,P (.ty n) (.ty n))(z:∀{a vs ds},SqT K H a vs->Reps K H vs ds->Q vs ds->P (.ref a) (.tup ds))(y:∀{a vs ds},H a=some (.lst vs)->Reps K H vs ds->Q vs ds->P (.ref a) (.lst ds))(u:∀{a vs ds},SqL K H a vs->Reps K H vs ds->Q vs ds->P (.ref a) (.seq ds))(t:∀{a},H a=some (JG a)->P (.ref a) .dct)(s:∀C,P (.ref C) (.cls C))(q:∀{a C dx xs vs ds},H a=some (.ins C dx (xs.zip vs))->xs.length=ds.length->Reps K H vs ds->Q vs ds->P (.ref a) (.ob C xs ds))(p:∀{a C dx xs vs ds},H a=some (.ins C dx (xs.zip vs))->xs.length=ds.length->Reps K H vs ds->Q vs ds->P (.ref a) (.oo C xs ds))(m:∀a,P (.ref a) .any)(l:∀{a ns},SqT K H a (ns.map V.int)->ns≠[]->P (.ref a) .tin)(f:∀{a o ds}{Q6:Yg (Str×V)},H a=some (.frz o (.dK Q6))->Reps K H (Q6.map (·.2)) ds->Q (Q6.map (·.2)) ds->P (.ref a) (.dv ds))(ce:Q [] [])(j:∀{v d vs ds},Rep K H v d->Reps K H vs ds->P v d->Q vs ds->Q (v::vs) (d::ds)):(∀{v d},Rep K H v d->P v d)/\∀{vs ds},Reps K H vs ds->Q vs ds :=
 ⟨fun r=>r.rec (motive_1:=fun v d _=>P v d) (motive_2:=fun v d _=>Q v d) L J I G B z y u t s q p m l f ce j,fun r=>r.rec (motive_1:=fun v d _=>P v d) (motive_2:=fun v d _=>Q v d) L J I G B z y u t s q p m l f ce j⟩
def Reps.ind{Q:∀vs ds,Reps K H vs ds->Prop}(nil:Q [] [] .nil)(cons:∀{v d vs ds} r t,Q vs ds t->Q (v::vs) (d::ds) (.cons r t)){vs}{ds}(r:Reps K H vs ds):Q vs ds r:=by refine r.rec (motive_1:=fun _ _ _=>True) (motive_2:=Q) ?_ ?_ ?_ ?_ ?_ ?_ ?_ ?_ ?_ ?_ ?_ ?_ ?_ ?_ ?_ nil fun r t _=>cons r t<;>intros<;>trivial
def Rep.mono_(e:Same H H'):(∀{v}{d},Rep K H v d->Rep K H' v d)/\∀{vs}{ds},Reps K H vs ds->Reps K H' vs ds :=
 Rep.both .non .bl .int .str .ty (fun h _=>.tup (gR e h)) (fun h _=>.lst (e _ _ h)) (fun h _=>.seq (e.seq h)) (fun h=>.dct (e _ _ h)) .cls (fun h l _=>.ob (e _ _ h) l) (fun h l _=>.oo (e _ _ h) l) .any (fun h n=>.tin (gR e h) n) (fun h _=>.dv (e _ _ h)) .nil fun _ _=>.cons
def Rep.mono(e:Same H H'):∀{v}{d},Rep K H v d->Rep K H' v d:=(Rep.mono_ e).1
def Reps.mono(e:Same H H'):∀{vs}{ds},Reps K H vs ds->Reps K H' vs ds:=(Rep.mono_ e).2
def Reps.length{vs}{ds}(r:Reps K H vs ds):vs.length=ds.length:=by
 induction r using Reps.ind with
 |nil=>rfl
 |cons _ _ f=>exact Z8 (· + 1) f
def Reps.get{vs}{ds}{i:Nat}{d}(r:Reps K H vs ds):ds[i]?=some d->∃v,vs[i]?=some v/\Rep K H v d:=by
 induction r using Reps.ind generalizing i with
 |nil=>exact fun e=>nomatch e
 |cons r _ f =>
  cases i with
  |zero=>intro e;cases e;exact⟨_,rfl,r⟩
  |succ i=>exact f
def Reps.getV{vs}{ds}{i:Nat}{v}(r:Reps K H vs ds):vs[i]?=some v->∃d,ds[i]?=some d/\Rep K H v d:=by
 induction r using Reps.ind generalizing i with
 |nil=>exact fun e=>nomatch e
 |cons r _ f =>
  cases i with
  |zero=>intro e;cases e;exact⟨_,rfl,r⟩
  |succ i=>exact f
def Reps.append{vs us}{ds es}(r:Reps K H vs ds)(s:Reps K H us es):Reps K H (vs++us) (ds++es):=by
 induction r using Reps.ind with
 |nil=>exact s
 |cons r _ f=>exact .cons r f
def Reps.take{vs}{ds}(n) (r:Reps K H vs ds):Reps K H (vs.take n) (ds.take n):=by
 induction r using Reps.ind generalizing n with
 |nil=>cases n<;>exact .nil
 |cons r t f =>
  cases n with
  |zero=>exact .nil
  |succ n=>exact .cons r (f n)
def Reps.drop{vs}{ds}(n) (r:Reps K H vs ds):Reps K H (vs.drop n) (ds.drop n):=by
 induction r using Reps.ind generalizing n with
 |nil=>cases n<;>exact .nil
 |cons r t f =>
  cases n with
  |zero=>exact .cons r t
  |succ n=>exact f n
theorem Reps.ints:∀(f:Yg Int),Reps K H (f.map V.int) (f.map D.int)
 |[]=>.nil
 |n::r=>.cons (.int n) (Reps.ints r)
@[simp] noncomputable def asB:D->Option Bool
  |.bl b=>some b
  |_=>none
@[simp] noncomputable def oI:D->Option Int
  |.int b=>some b
  |_=>none
@[simp] noncomputable def oS:D->Option Str
  |.str b=>some b
  |_=>none
@[simp] noncomputable def kd:D->Option (Bool×List D)
  |.tup ds=>some (true,ds)
  |.lst ds=>some (false,ds)
  |.seq ds=>some (false,ds)
  |_=>none
def Rep.asB{v}{d}{b}(r:Rep K H v d)(e:asB d=some b):v=.bl b/\d=.bl b:=by cases r<;>cases e;exact⟨rfl,rfl⟩
def Rep.oI{v}{d}{b}(r:Rep K H v d)(e:oI d=some b):v=.int b/\d=.int b:=by cases r<;>cases e;exact⟨rfl,rfl⟩
def Rep.oS{v}{d}{b}(r:Rep K H v d)(e:oS d=some b):v=.str b/\d=.str b:=by cases r<;>cases e;exact⟨rfl,rfl⟩
def Rep.kd{v}{d}{t}(r:Rep K H v d)(e:kd d=some (t,ds)):∃p vs,v=.ref p/\(bif t then SqT K H p vs else SqL K H p vs)/\Reps K H vs ds:=by
 cases r<;>cases e
 case tup h r=>exact⟨_,_,rfl,h,r⟩
 case lst h r=>exact⟨_,_,rfl,SqL.of h,r⟩
 case seq h r=>exact⟨_,_,rfl,h,r⟩
theorem Reps.atI{i}{d:D}(r:Reps K H vs ds)(e:L2.atI ds i=some d):∃v,L2.atI vs i=some v/\Rep K H v d:=by unfold L2.atI at e ⊢;rw[<- r.length]at e;obtain⟨j,h1,h2⟩:=Za.mp e;obtain⟨v,l,f⟩:=r.get h2;exact⟨v,by rw[h1];exact l,f⟩
abbrev DS:=List (Option D)
structure RepS(K:ZA)(H:Hp)(σ:L2.St)(δ:DS):Prop where
 len:σ.length=δ.length
 val:∀(i:Nat)(d:D),δ[i]?=some (some d)->∃v,σ[i]?=some (some v)/\Rep K H v d
theorem RepS.mono(e:Same H H')(h:RepS K H σ δ):RepS K H' σ δ :=
 ⟨h.len,fun i d q=>let ⟨v,a,b⟩:=h.val i d q;⟨v,a,b.mono e⟩⟩
abbrev FD:=DS->Option D
def up(K:ZA)(f:FD):TE:=fun σ H Q=>∃δ d,RepS K H σ δ/\f δ=some d/\∀v H',Same H H'->Rep K H' v d->Q v H'
def PD(X:Cx)(e:Expr)(f:FD):Prop:=PE X e (up X.K f)
def imp{t t':TE}(h:PE X e t)(w:∀σ H Q,t' σ H Q->t σ H Q):PE X e t':=fun Q0 s σ H Q I q=>h Q0 s σ H Q I (w σ H Q q)
def gp{t}{f}(h:PE X e t)(w:∀{σ H Q δ d},RepS X.K H σ δ->f δ=some d->(∀v H',Same H H'->Rep X.K H' v d->Q v H')->t σ H Q):PD X e f:=imp h fun _ _ _ h=>h.elim fun _ h=>h.elim fun _ h=>w h.1 h.2.1 h.2.2
def a8{p}(h:H p=none)(o):Same H (upd H p o):=fun b u q=>by rw[aI (bp q h)];exact q
noncomputable def ab(i:Nat):FD:=fun δ=>match δ[i]? with
 |some (some d)=>some d
 |_=>none
def fC(d:D):FD:=fun _=>some d
noncomputable def f2(g:D->D->Option D)(fa fb:FD):FD:=fun δ=>(fa δ).bind fun x=>(fb δ).bind fun y=>g x y
noncomputable def f1(g:D->Option D)(fa:FD):FD:=fun δ=>(fa δ).bind g
section
variable {pos:Pos}
def Lz(i) (f:NmX X i x:=by kernel_rfl):PD X (.Name x pos) (ab i) :=
 gp (jP f) fun{σ H Q δ d} R e k=>by
  unfold ab at e;split at e
  . rename_i d' h;cases e;obtain⟨v,h1,h2⟩:=R.val i _ h;exact⟨v,h1,k v H (Same.refl H) h2⟩
  . cases e
def LQ{i j}:PD X (.Constant (.int i) j pos) (fC (.int i)):=gp Lx fun{σ H Q δ d} R e k=>by cases e;exact k _ H (Same.refl H) (.int i)
def N2{b j}:PD X (.Constant (.bool b) j pos) (fC (.bl b)):=gp NU fun{σ H Q δ d} R e k=>by cases e;exact k _ H (Same.refl H) (.bl b)
def LH{j}:PD X (.Constant .none j pos) (fC .non):=gp Lw fun{σ H Q δ d} R e k=>by cases e;exact k _ H (Same.refl H) .non
def LC{x j}:PD X (.Constant (.str x) j pos) (fC (.str x)):=gp Ls fun{σ H Q δ d} R e k=>by cases e;exact k _ H (Same.refl H) (.str x)
def v6 {n} (m:Gl X x) (l:X.mg x=none) (f:bootBuiltins x=some (.type n)) (j:x≠"__name__":=by decide) (o:NbX x:=by kernel_rfl):PD X (.Name x pos) (fC (.ty n)) :=
 gp (Ig (v:=.ty n) m l f rfl j o) fun{σ H Q δ d} R e k=>by cases e;exact k _ H (Same.refl H) (.ty n)
def R2D(K:ZA)(r:R2)(g:D->D->Option D):Prop :=
 ∀(x y:V)(H:Hp)(Q:VK)(a b d:D),Rep K H x a->Rep K H y b->g a b=some d->(∀w H',Same H H'->Rep K H' w d->Q w H')->r x y H Q
def IS{r}{g}(p:R2D X.K r g){Q}(h:up X.K (f2 g fa fb) σ H Q):tOp r (up X.K fa) (up X.K fb) σ H Q:=by obtain⟨δ,d,R,e,k⟩:=h;unfold f2 at e;obtain⟨x,ex,e⟩:=Za.mp e;obtain⟨y,q,e⟩:=Za.mp e;exact⟨δ,x,R,ex,fun v H1 j o=>⟨δ,y,R.mono j,q,fun w H2 f m=>p v w H2 Q x y d (o.mono f) m e fun z H' l=>k z H' ((j.trans f).trans l)⟩⟩
def qK{op}{r}{g}(f:OpR X (binaryOp op) r)(j:R2D X.K r g)(m:PD X a fa)(l:PD X b fb):PD X (.BinOp a op b pos) (f2 g fa fb) :=
 imp (zm f m l) fun _ _ _=>IS j
def jq{r}{g}(f:OpR X (compareOp op) r)(l:R2D X.K r g)(o:PD X a fa)(m:PD X b fb)(j:behindInMarks op b=false):PD X (.Compare a [op] [b] pos) (f2 g fa fb) :=
 imp (zn f o m j) fun _ _ _=>IS l
def LP{r}{g}(j:IxR X r)(l:R2D X.K r g)(o:PD X a fa)(m:PD X b fb)(f:iA b):PD X (.Subscript a b pos) (f2 g fa fb) :=
 imp (tt j o m f) fun _ _ _=>IS l
theorem R2D.or{r r'}{g g'}(h:R2D K r g)(h':R2D K r' g'):R2D K (fun x y H Q=>r x y H Q\/r' x y H Q) (fun a b=>(g a b).or (g' a b)):=by
 intro x y H Q a b d l j e k;cases q:g a b with
 |some z =>have f:(g a b).or (g' a b)=some d:=e;rw[q]at f;cases f;exact .inl (h x y H Q a b _ l j q k)
 |none =>have f:(g a b).or (g' a b)=some d:=e;rw[q]at f;exact .inr (h' x y H Q a b d l j f k)
end
def Bd(x:Int):Prop:=x.natAbs<2^9000
instance(x:Int):Decidable (Bd x):=by unfold Bd;exact inferInstance
def Bd.bits{x}(h:Bd x):Builtin.Int.intBits x<=2^20:=by
 have h':x.natAbs<2^(2^20):=ZC h (Nat.pow_le_pow_right (by decide) (by decide))
 exact PySem.intBits_le_iff.mpr h'
theorem Bd.log{x}(h:Bd x)(f:x≠0):x.natAbs.log2<9000:=(Nat.log2_lt (by lia)).mpr h
section
def kM(i j:Int):Prop:=Bd i/\Bd j
def zv:OpR X (binaryOp .Mult) (rI kM fun i j=>.int (i*j)):=opI fun _ _ _ _ _ _ _ f q=>mul_int q (.of_bits f.1.bits f.2.bits)
def pM(_ j:Int):Prop:=0<j/\Bd j
theorem EA:OpR X (binaryOp .FloorDiv) (rI pM fun i j=>.int (i/j)):=opI fun i j _ _ _ _ _ f q=>by have h1:=f.1;exact floordiv_int (by lia) (by rw[Int.fdiv_eq_ediv_of_nonneg i (by lia)];exact q) (.inl (PyProof.noPylong_of_log2 (f.2.log (by lia))))
def gI0(g:Int->Int->D)(a b:D):Option D:=(oI a).bind fun i=>(oI b).bind fun j=>some (g i j)
def gI(C:Int->Int->Prop)[∀i j,Decidable (C i j)](g:Int->Int->D)(a b:D):Option D:=(oI a).bind fun i=>(oI b).bind fun j=>if C i j then some (g i j)else none
instance(i j:Int):Decidable (kM i j):=by unfold kM;exact inferInstance
instance(i j:Int):Decidable (pM i j):=by unfold pM;exact inferInstance
instance(i j:Int):Decidable (CPow i j):=by unfold CPow;exact inferInstance
def mW{g}(h:∀H i j,Rep K H (g i j) (g' i j)):R2D K (rI0 g) (gI0 g'):=by intro x y H Q a b d l f e k;obtain⟨i,ei,e⟩:=Za.mp e;obtain⟨j,m,e⟩:=Za.mp e;cases e;exact⟨i,j,(l.oI ei).1,(f.oI m).1,k _ H (Same.refl H) (h H i j)⟩
def Du{C:Int->Int->Prop}[∀i j,Decidable (C i j)]{g}(h:∀H i j,Rep K H (g i j) (g' i j)):R2D K (rI C g) (gI C g'):=by
 intro x y H Q a b d l f e k;obtain⟨i,ei,e⟩:=Za.mp e;obtain⟨j,m,e⟩:=Za.mp e;split at e
 . cases e;exact⟨i,j,(l.oI ei).1,(f.oI m).1,‹_›,k _ H (Same.refl H) (h H i j)⟩
 . cases e
end
noncomputable def Op:D->D->Option D
 |.lst xs,.lst ys=>if xs.length+ys.length<=1000 then some (.lst (xs++ys))else none
 |_,_=>none
def eT(h:n<=1000):n<=sizeLine:=Nat.le_of_lt (sX h)
def Dt:R2D K NH Op:=by
 intro x y H Q a b d t r e k;cases t with
 | @lst p xs ds v o =>
  cases r with
  |@lst q ys es u m =>
   have f:(if ds.length+es.length<=1000 then some (D.lst (ds++es))else none)=some d:=e
   by_cases j:ds.length+es.length<=1000
   . rw [if_pos j] at f;cases f;refine ⟨p,q,xs,ys,rfl,rfl,v,u,eT (by rw [o.length,m.length];exact j),fun l z=>?_⟩
     have s:=a8 z (.lst (xs++ys));exact k _ _ s (.lst aL ((o.append m).mono s))
   . rw[if_neg j]at f;cases f
  |_=>cases e
 |_=>cases e
def Pt:D->D->Option D:=fun a b=>(gI0 (fun i j=>.int (i+j)) a b).or (Op a b)
def gIx(a b:D):Option D:=(kd a).bind fun p=>(oI b).bind fun i=>L2.atI p.2 i
def JX:R2D K (fun x y H Q=>NB K x y H Q\/Nz K x y H Q) gIx:=by
 intro x y H Q a b d l f e k;obtain⟨⟨t,ds⟩,m,e⟩:=Za.mp e;obtain⟨i,ei,e⟩:=Za.mp e;obtain⟨p,vs,rfl,h,j⟩:=l.kd m;obtain⟨v,h1,h2⟩:=j.atI e;have z:=k v H (Same.refl H) h2;cases t with
 |true=>exact .inr ⟨p,vs,i,v,rfl,(f.oI ei).1,h,h1,z⟩
 |false=>exact .inl ⟨p,vs,i,v,rfl,(f.oI ei).1,h,h1,z⟩
section
variable {pos:Pos}
def LB(l:PD X a fa)(f:PD X b fb):PD X (.BinOp a .Sub b pos) (f2 (gI0 fun i j=>.int (i-j)) fa fb):=qK Ey (mW fun _ _ _=>.int _) l f
def LK(l:PD X a fa)(f:PD X b fb):PD X (.BinOp a .Mult b pos) (f2 (gI kM fun i j=>.int (i*j)) fa fb):=qK zv (Du fun _ _ _=>.int _) l f
def Io(l:PD X a fa)(f:PD X b fb):PD X (.BinOp a .FloorDiv b pos) (f2 (gI pM fun i j=>.int (i/j)) fa fb):=qK EA (Du fun _ _ _=>.int _) l f
def LL(l:PD X a fa)(f:PD X b fb):PD X (.BinOp a .Mod b pos) (f2 (gI (fun _ j=>0<j) fun i j=>.int (i%j)) fa fb):=qK L0 (Du fun _ _ _=>.int _) l f
def LD(l:PD X a fa)(f:PD X b fb):PD X (.BinOp a .Pow b pos) (f2 (gI CPow fun i j=>.int (i^j.toNat)) fa fb):=qK LZ (Du fun _ _ _=>.int _) l f
def NX(l:PD X a fa)(j:PD X b fb)(f:iA b:=by intro _ _;rfl):PD X (.Subscript a b pos) (f2 gIx fa fb):=LP (ix_list.or uM) JX l j f
noncomputable def fP:D->Option D
 |.int i=>some (.int (-i))
 |_=>none
def LI(l:PD X a fa):PD X (.UnaryOp .USub a pos) (f1 fP fa):=gp (NS Ko l) fun{σ H Q δ d} R e k=>by
 unfold f1 at e;obtain⟨x,ex,e⟩:=Za.mp e;refine⟨δ,x,R,ex,fun v H1 f j=>?_⟩
 cases j with
 |int i=>cases e;exact⟨i,rfl,k _ H1 f (.int _)⟩
 |_=>cases e
end
abbrev FT:=DS->Option Bool
def upT(K:ZA)(f:FT):TT:=fun σ H Q=>∃δ b,RepS K H σ δ/\f δ=some b/\∀H',Same H H'->Q b H'
def PTD(X:Cx)(e:Expr)(f:FT):Prop:=PT X e (upT X.K f)
def PWD(X:Cx)(e:Expr)(f:FT):Prop:=PW X e (upT X.K f)
def BM{t t':TT}(h:PT X e t)(w:∀σ H Q,t' σ H Q->t σ H Q):PT X e t':=fun Q0 s σ H Q I q=>h Q0 s σ H Q I (w σ H Q q)
def Oi{t}{f}(h:PT X e t)(w:∀{σ H Q δ b},RepS X.K H σ δ->f δ=some b->(∀H',Same H H'->Q b H')->t σ H Q):PTD X e f:=BM h fun _ _ _ h=>h.elim fun _ h=>h.elim fun _ h=>w h.1 h.2.1 h.2.2
def Oh{t t'}(h:PW X e t)(w:∀σ H Q,t' σ H Q->t σ H Q):PW X e t':=fun f Q0 s σ H Q I q=>h f Q0 s σ H Q I (w σ H Q q)
def J4{t}{f}(h:PW X e t)(w:∀{σ H Q δ b},RepS X.K H σ δ->f δ=some b->(∀H',Same H H'->Q b H')->t σ H Q):PWD X e f:=Oh h fun _ _ _ h=>h.elim fun _ h=>h.elim fun _ h=>w h.1 h.2.1 h.2.2
def fT(f:FD):FT:=fun δ=>(f δ).bind asB
noncomputable def bF(f:FT):FT:=fun δ=>(f δ).map not
noncomputable def jS(f g:FT):FT:=fun δ=>(f δ).bind fun b=>match b with
 |true=>g δ
 |false=>some false
noncomputable def eL(f g:FT):FT:=fun δ=>(f δ).bind fun b=>match b with
 |true=>some true
 |false=>g δ
section
variable {ta tb:FT} {Q8:Yg Expr} {pos:Pos}
def yH{t:TE}(w:∀σ H Q,up K f σ H Q->t σ H Q){Q:Bool->Hp->Prop}(h:upT K (fT f) σ H Q):t σ H fun x H1=>∃c,x=.bl c/\Q c H1:=by obtain⟨δ,b,R,e,k⟩:=h;unfold fT at e;obtain⟨d,j,e⟩:=Za.mp e;exact w σ H _ ⟨δ,d,R,j,fun v H' s r=>⟨b,(r.asB e).1,k H' s⟩⟩
def Hz(h:PD X e f)(he:∀j,isTrue e X.env j=(do let v <- j;standAt e.pos;holding [v] (truthy v)):=by intro _;rfl):PTD X e (fT f) :=
 BM (xC h he) fun _ _ _ q=>yH (fun _ _ _ z=>z) q
def gD{r}{g}(f:OpR X (compareOp op) r)(l:R2D X.K r g)(o:PD X a fa)(m:PD X b fb)(j:behindInMarks op b=false):PTD X (.Compare a [op] [b] pos) (fT (f2 g fa fb)) :=
 BM (zh f o m j) fun _ _ _ q=>yH (fun _ _ _ z=>IS l z) q
def HB(f:PTD X a ta):PTD X (.UnaryOp .Not a pos) (bF ta):=Oi (K8 f) fun{σ H Q δ b} R e k=>by unfold bF at e;obtain⟨c,j,e⟩:=Zb.mp e;exact⟨δ,c,R,j,fun H' s=>by have:=k H' s;rw[<- e]at this;exact this⟩
def PWD.pt(h:PWD X e ta):PTD X e ta:=h _
def Dw(f:PTD X a ta):PWD X (.BoolOp .And [a] pos) ta:=pw_and1 f
def Hf(f:PTD X a ta):PWD X (.BoolOp .Or [a] pos) ta:=KP f
def Hg(l:PTD X a ta)(j:PWD X (.BoolOp .And (b::Q8) pos) tb):PWD X (.BoolOp .And (a::b::Q8) pos) (jS ta tb):=J4 (pw_and l j) fun{σ H Q δ c} R e k=>by
 unfold jS at e;obtain⟨d,m,e⟩:=Za.mp e;refine⟨δ,d,R,m,fun H' s=>?_⟩
 cases d with
 |true=>exact⟨δ,c,R.mono s,e,fun H2 f=>k H2 (s.trans f)⟩
 |false=>cases e;exact k H' s
def KJ(l:PTD X a ta)(j:PWD X (.BoolOp .Or (b::Q8) pos) tb):PWD X (.BoolOp .Or (a::b::Q8) pos) (eL ta tb):=J4 (NJ l j) fun{σ H Q δ c} R e k=>by
 unfold eL at e;obtain⟨d,m,e⟩:=Za.mp e;refine⟨δ,d,R,m,fun H' s=>?_⟩
 cases d with
 |false=>exact⟨δ,c,R.mono s,e,fun H2 f=>k H2 (s.trans f)⟩
 |true=>cases e;exact k H' s
def cS(f g:FD):FD:=fun δ=>(f δ).bind fun x=>(asB x).bind fun b=>if b=true then g δ else some (.bl false)
def uW(f g:FD):FD:=fun δ=>(f δ).bind fun x=>(asB x).bind fun b=>if b=true then some (.bl true)else g δ
def BR(d:D):Option D:=(asB d).bind fun b=>some (.bl (!b))
def LF{op}(h:PD X a f):PD X (.BoolOp op [a] pos) f:=Lu h
def LY(o:PD X a fa)(m:PD X (.BoolOp .And (b::Q8) pos) fb):PD X (.BoolOp .And (a::b::Q8) pos) (cS fa fb):=gp (Ly o m) fun{σ H Q δ d} R e k=>by
 unfold cS at e;obtain⟨x,ex,e⟩:=Za.mp e;obtain⟨c,p,e⟩:=Za.mp e;refine⟨δ,x,R,ex,fun v H1 f l=>⟨c,(l.asB p).1,?_⟩⟩
 cases c with
 |true=>rw[if_pos rfl];exact⟨δ,d,R.mono f,e,fun w H2 j=>k w H2 (f.trans j)⟩
 |false=>rw[if_neg ZB];cases e;exact k _ H1 f (.bl false)
def NV(o:PD X a fa)(m:PD X (.BoolOp .Or (b::Q8) pos) fb):PD X (.BoolOp .Or (a::b::Q8) pos) (uW fa fb):=gp (NT o m) fun{σ H Q δ d} R e k=>by
 unfold uW at e;obtain⟨x,ex,e⟩:=Za.mp e;obtain⟨c,p,e⟩:=Za.mp e;refine⟨δ,x,R,ex,fun v H1 f l=>⟨c,(l.asB p).1,?_⟩⟩
 cases c with
 |true=>rw[if_pos rfl];cases e;exact k _ H1 f (.bl true)
 |false=>rw[if_neg ZB];exact⟨δ,d,R.mono f,e,fun w H2 j=>k w H2 (f.trans j)⟩
def LG(l:PD X a fa):PD X (.UnaryOp .Not a pos) (f1 BR fa):=gp (Lv l) fun{σ H Q δ d} R e k=>by unfold f1 at e;obtain⟨x,ex,e⟩:=Za.mp e;obtain⟨c,m,e⟩:=Za.mp e;cases e;exact⟨δ,x,R,ex,fun v H1 f j=>⟨c,(j.asB m).1,k _ H1 f (.bl _)⟩⟩
end
abbrev FA:=DS->Option (List D)
def upA(K:ZA)(n:Nat)(f:FA):TA:=fun σ H Q=>∃δ ds,RepS K H σ δ/\f δ=some ds/\∀vs H',Same H H'->Reps K H' vs ds->vs.length=n->Q vs H'
def PAD(X:Cx)(es:List Expr)(f:FA):Prop:=PA X es (upA X.K es.length f)
def Fc{t t'}(h:PA X es t)(w:∀σ H Q,t' σ H Q->t σ H Q):PA X es t':=fun pos Q0 s σ H Q I q=>h pos Q0 s σ H Q I (w σ H Q q)
def J8{t}{f}(h:PA X es t)(w:∀{σ H Q δ ds},RepS X.K H σ δ->f δ=some ds->(∀vs H',Same H H'->Reps X.K H' vs ds->vs.length=es.length->Q vs H')->t σ H Q):PAD X es f:=Fc h fun _ _ _ h=>h.elim fun _ h=>h.elim fun _ h=>w h.1 h.2.1 h.2.2
noncomputable def ag:FA:=fun _=>some []
noncomputable def af(f:FD)(g:FA):FA:=fun δ=>(f δ).bind fun x=>(g δ).bind fun xs=>some (x::xs)
noncomputable def rE(g:FA):FD:=fun δ=>(g δ).bind fun ds=>some (.tup ds)
noncomputable def gF(g:FA):FD:=fun δ=>(g δ).bind fun ds=>some (.lst ds)
noncomputable def aT(G:List D->Option D)(g:FA):FD:=fun δ=>(g δ).bind G
section
variable {g:FA} {pos:Pos}
def zq:PAD X [] ag:=J8 gl fun{σ H Q δ ds} R e k=>by cases e;exact k [] H (Same.refl H) .nil rfl
def v8(u:PD X e f)(t:PAD X es g)(s:PlX X e es:=by rfl):PAD X (e::es) (af f g):=J8 (bZ u t s) fun{σ H Q δ ds} R q k=>by unfold af at q;obtain⟨x,ex,q⟩:=Za.mp q;obtain⟨xs,j,q⟩:=Za.mp q;cases q;exact⟨δ,x,R,ex,fun v H1 o r=>⟨δ,xs,R.mono o,j,fun vs H2 m p l=>k (v::vs) H2 (o.trans m) (.cons (r.mono m) p) (Z8 (· + 1) l)⟩⟩
def LA{x1}(h:PAD X es g)(o:es.length<=1000:=by decide):PD X (.Tuple es x1 pos) (rE g):=gp (Ej h) fun{σ H Q δ d} R q k=>by
 unfold rE at q;obtain⟨ds,f,q⟩:=Za.mp q;cases q;refine⟨δ,ds,R,f,fun vs H1 j m l=>⟨eT (by rw[l];exact o),fun p r=>?_⟩⟩
 have s:=a8 r (.tup vs);exact k _ _ (j.trans s) (.tup (SqT.of aL) (m.mono s))
def LN(h:PAD X es g)(o:es.length<=1000:=by decide):PD X (.List es pos) (gF g):=gp (El h) fun{σ H Q δ d} R q k=>by
 unfold gF at q;obtain⟨ds,f,q⟩:=Za.mp q;cases q;refine⟨δ,ds,R,f,fun vs H1 j m l=>⟨eT (by rw[l];exact o),fun p r=>?_⟩⟩
 have s:=a8 r (.lst vs);exact k _ _ (j.trans s) (.lst aL (m.mono s))
def CallD(K:ZA)(r:List V->Hp->VK->Prop)(G:List D->Option D):Prop :=
 ∀(xs:List V)(H:Hp)(Q:VK)(ds:List D)(d:D),Reps K H xs ds->G ds=some d->(∀w H',Same H H'->Rep K H' w d->Q w H')->r xs H Q
def E8(m:CallD X.K r G){Q}(h:up X.K (aT G g) σ H Q):tCB r (upA X.K n g) σ H Q:=by obtain⟨δ,d,R,q,k⟩:=h;unfold aT at q;obtain⟨ds,f,q⟩:=Za.mp q;exact⟨δ,ds,R,f,fun vs H1 j l _=>m vs H1 Q ds d l q fun w H' s=>k w H' (j.trans s)⟩
def cY {id} (q:CallR X (.builtin id) r) (t:CallD X.K r G) (o:Gl X x) (m:X.mg x=none) (j:bootBuiltins x=some (.builtin id)) (s:PAD X (e::es) g) (l:x≠"__name__":=by decide) (f:NbX x:=by kernel_rfl)
 (he:PlX X e es:=by rfl) (hpl:BkX X pos es:=by rfl):PD X (.Call (.Name x p) (e::es) [] pos) (aT G g) :=
 imp (qJ q o m j s l f he hpl) fun _ _ _ h=>E8 t h
def ou {T} (q:CallR X (.type T) r) (t:CallD X.K r G) (o:Gl X x) (m:X.mg x=none) (j:bootBuiltins x=some (.type T)) (s:PAD X (e::es) g) (l:x≠"__name__":=by decide) (f:NbX x:=by kernel_rfl)
 (he:PlX X e es:=by rfl) (hpl:BkX X pos es:=by rfl):PD X (.Call (.Name x p) (e::es) [] pos) (aT G g) :=
 imp (kR q o m j s l f he hpl) fun _ _ _ h=>E8 t h
end
def dL{xs}{d}(r:Reps K H xs [d]):∃x,xs=[x]/\Rep K H x d:=by
 cases r with
 |cons a t=>cases t;exact⟨_,rfl,a⟩
def JS{xs}{d e}(r:Reps K H xs [d,e]):∃x y,xs=[x,y]/\Rep K H x d/\Rep K H y e:=by
 cases r with
 |cons a t =>obtain⟨y,h1,h2⟩:=dL t;subst h1;exact⟨_,y,rfl,a,h2⟩
noncomputable def Fm:List D->Option D
 |[.int i]=>some (.int (i.natAbs:Int))
 |_=>none
theorem MP:CallD K (fun xs H Q=>∃i,xs=[.int i]/\Q (.int (if i<0 then -i else i)) H) Fm:=by
 intro xs H Q ds d r e k;unfold Fm at e;split at e
 . rename_i i;cases e;obtain ⟨x,rfl,f⟩:=dL r;cases f;refine ⟨i,rfl,?_⟩;have e:(if i < 0 then -i else i)=(i.natAbs:Int):=by split <;> lia
   rw[e];exact k _ H (Same.refl H) (.int _)
 . cases e
noncomputable def Mq:List D->Option D
 |[.int i]=>some (.int i)
 |[.bl b]=>some (.int (if b then 1 else 0))
 |_=>none
def cd_int:CallD K (fun xs H Q=>(∃i,xs=[.int i]/\Q (.int i) H)\/∃k,xs=[.bl k]/\Q (.int (if k then 1 else 0)) H) Mq:=by
 intro xs H Q ds d r e k;unfold Mq at e;split at e
 . rename_i i;cases e;obtain⟨x,rfl,f⟩:=dL r;cases f;exact .inl ⟨i,rfl,k _ H (Same.refl H) (.int _)⟩
 . rename_i b;cases e;obtain⟨x,rfl,f⟩:=dL r;cases f;exact .inr ⟨b,rfl,k _ H (Same.refl H) (.int _)⟩
 . cases e
noncomputable def Mp:List D->Option D
 |[.tup ds]=>some (.int ds.length)
 |[.lst ds]=>some (.int ds.length)
 |[.seq ds]=>some (.int ds.length)
 |_=>none
def cd_len:CallD K (fun xs H Q=>∃p ys,xs=[.ref p]/\(SqL K H p ys\/SqT K H p ys)/\Q (.int ys.length) H) Mp:=by
 intro xs H Q ds d r e k;unfold Mp at e;split at e
 . cases e;obtain ⟨x,rfl,f⟩:=dL r;cases f with
   |@tup p vs _ l j=>exact⟨p,vs,rfl,.inr l,by rw[j.length];exact k _ H (Same.refl H) (.int _)⟩
 . cases e;obtain ⟨x,rfl,f⟩:=dL r;cases f with
   |@lst p vs _ l j=>exact⟨p,vs,rfl,.inl (SqL.of l),by rw[j.length];exact k _ H (Same.refl H) (.int _)⟩
 . cases e;obtain ⟨x,rfl,f⟩:=dL r;cases f with
   |@seq p vs _ l j=>exact⟨p,vs,rfl,.inl l,by rw[j.length];exact k _ H (Same.refl H) (.int _)⟩
 . cases e
def O2:D->Option String
 |.non=>some "NoneType"
 |.bl _=>some "bool"
 |.int _=>some "int"
 |.str _=>some "str"
 |.tup _=>some "tuple"
 |.lst _=>some "list"
 |.seq _=>some "list"
 |.dct=>some "dict"
 |.ty _=>none
 |.cls _=>none
 |.ob _ _ _=>none
 |.oo _ _ _=>none
 |.any=>none
 |.tin=>none
 |.dv _=>none
def sj(n:String)(d:D)(b:Bool):Prop:=∃t,O2 d=some t/\∀K:ZA,W.kitOne K (.type t) (.type n)=some b
def NC(K:ZA):List V->Hp->VK->Prop:=fun xs H Q=>∃x n d b,xs=[x,.ty n]/\Rep K H x d/\sj n d b/\Q (.bl b) H
def kh:CallR X (.builtin "isinstance") (NC X.K):=by
 intro Q0 s σ H xs us Q I r h;obtain⟨x,n,d,b,rfl,v,⟨t,f,hk⟩,q⟩:=h;obtain⟨u,D,rfl,j,m⟩:=vE r;cases(m);have e:=hk X.K;have fin:∀tk,EP X Q0 σ Q (.bool b) { s with toks:=tk }:=fun tk=>⟨.bl b,H,I.tok _,rfl,q⟩
 cases v with
 |non=>cases f;cases(j);exact W.kia_one W.kitx_none I.kIn True.intro e (fun z=>nomatch z) fin
 |bl y=>cases f;cases(j);exact W.kia_one W.kitx_bool I.kIn True.intro e (fun z=>nomatch z) fin
 |int i=>cases f;obtain⟨t,z⟩:=(j);cases z;exact W.kia_one W.kitx_int I.kIn True.intro e (fun z=>nomatch z) fin
 |str y=>cases f;obtain⟨t,z⟩:=(j);cases z;exact W.kia_one W.kitx_str I.kIn True.intro e (fun z=>nomatch z) fin
 |ty n=>cases f
 |cls C=>cases f
 |ob _ _ _=>cases f
 |oo _ _ _=>cases f
 |any _=>cases f
 |tin _ _=>cases f
 |dv _ _=>cases f
 |@dct a h =>cases f;cases(j);exact W.kia_one W.kitx_dict I.kIn (I.hok a _ h).1 e (fun z=>nomatch z) fin
 |@tup a vs ds l p =>cases f;cases(j);obtain⟨Q1,_,⟨o,h1,h2,_⟩,_⟩:=I.tuple l;exact W.kia_one W.kitx_tuple I.kIn ⟨o,h1,h2⟩ e (fun z=>nomatch z) fin
 |@lst a vs ds l p =>cases f;cases(j);obtain⟨Q1,_,⟨o,B,h1,h2,_⟩,_⟩:=I.list (SqL.of l);exact W.kia_one W.kitx_list I.kIn ⟨o,h1,h2⟩ e (fun z=>nomatch z) fin
 |@seq a vs ds l p =>cases f;cases(j);obtain⟨Q1,_,⟨o,B,h1,h2,_⟩,_⟩:=I.list l;exact W.kia_one W.kitx_list I.kIn ⟨o,h1,h2⟩ e (fun z=>nomatch z) fin
def isInt:D->Option Bool
 |.int _=>some true
 |.bl _=>some true
 |.ty _=>none
 |.cls _=>none
 |.ob _ _ _=>none
 |.oo _ _ _=>none
 |.any=>none
 |.tin=>none
 |.dv _=>none
 |_=>some false
def uO:D->Option Bool
 |.bl _=>some true
 |.ty _=>none
 |.cls _=>none
 |.ob _ _ _=>none
 |.oo _ _ _=>none
 |.any=>none
 |.tin=>none
 |.dv _=>none
 |_=>some false
def E3:D->Option Bool
 |.tup _=>some true
 |.ty _=>none
 |.cls _=>none
 |.ob _ _ _=>none
 |.oo _ _ _=>none
 |.any=>none
 |.tin=>none
 |.dv _=>none
 |_=>some false
noncomputable def nh(n:String)(p:D->Option Bool):List D->Option D
 |[d,.ty m]=>if m=n then(p d).map D.bl else none
 |_=>none
def rV{n}{p}(o:∀d b,p d=some b->sj n d b):CallD K (NC K) (nh n p):=by
 intro xs H Q ds d r e k;unfold nh at e;split at e
 . rename_i x m
   by_cases j:m=n
   . subst j;rw[if_pos rfl]at e;obtain⟨b,q,e⟩:=Zb.mp e;cases e;obtain⟨v,w,rfl,l,f⟩:=JS r;cases f;exact⟨v,m,x,b,rfl,l,o x b q,k _ H (Same.refl H) (.bl b)⟩
   . rw[if_neg j]at e;cases e
 . cases e
def uL(n) (K:ZA):W.kitOne K (.type n) (.type n)=some true:=by unfold W.kitOne;rw[if_pos (Zz _)]
theorem EG (d) (b) (h:isInt d=some b):sj "int" d b:=by
 cases d<;>(first|cases h)<;>first
  |exact⟨_,rfl,fun K=>uL _ K⟩
  |exact⟨_,rfl,fun K=>by kernel_rfl⟩
theorem Bl (d) (b) (h:uO d=some b):sj "bool" d b:=by
 cases d<;>(first|cases h)<;>first
  |exact⟨_,rfl,fun K=>uL _ K⟩
  |exact⟨_,rfl,fun K=>by kernel_rfl⟩
theorem ED (d) (b) (h:E3 d=some b):sj "tuple" d b:=by
 cases d<;>(first|cases h)<;>first
  |exact⟨_,rfl,fun K=>uL _ K⟩
  |exact⟨_,rfl,fun K=>by kernel_rfl⟩
noncomputable def toV:D->Option V
 |.non=>some .non
 |.bl b=>some (.bl b)
 |.int i=>some (.int i)
 |.str x=>some (.str x)
 |_=>none
def dM(d:D):Bool:=(toV d).isSome
noncomputable def eqF:D->D->Bool
 |.non,.non=>true
 |.bl a,.bl b=>a==b
 |.bl a,.int b=>(if a then 1 else 0)==b
 |.int a,.bl b=>a==(if b then 1 else 0)
 |.int a,.int b=>a==b
 |.str a,.str b=>a==b
 |_,_=>false
def Rep.flat{d}(r:Rep K H v d)(f:dM d=true):lQ v=true/\toV d=some v:=by cases r<;>first|exact⟨rfl,rfl⟩|(exact absurd f (by decide))|(exact absurd f ZB)
def uX{a b}{x y}(j:toV a=some x)(f:toV b=some y):eqV x y=eqF a b:=by cases a<;>(first|cases j)<;>cases b<;>(first|cases f)<;>rfl
section
def Hb{A}{x y}{u v}{a b}(l:RelV x u)(f:RelV y v)(p:Rep K H x a)(m:Rep K H y b)(q:dM a=true)(o:dM b=true):SeqAt.RcAt A s u v (eqF a b)/\SeqAt.RcNeAt A s u v (!eqF a b):=by
 cases p with
 |non =>
  cases(l);cases m with
  |non=>cases(f);exact⟨SeqAt.RcAt.none_none,SeqAt.RcNeAt.none_none⟩
  |bl c=>cases(f);exact⟨SeqAt.RcAt.none_bool c,SeqAt.RcNeAt.none_bool c⟩
  |int j=>obtain⟨t,rfl⟩:=(f);exact⟨SeqAt.RcAt.none_int j t,SeqAt.RcNeAt.none_int j t⟩
  |str j=>obtain⟨t,rfl⟩:=(f);exact⟨SeqAt.RcAt.none_str j t,SeqAt.RcNeAt.none_str j t⟩
  |_=>exact absurd o ZB
 |bl i =>
  cases(l);cases m with
  |non=>cases(f);exact⟨SeqAt.RcAt.bool_none i,SeqAt.RcNeAt.bool_none i⟩
  |bl c=>cases(f);exact⟨SeqAt.RcAt.bool_bool i c,SeqAt.RcNeAt.bool_bool i c⟩
  |int j=>obtain⟨t,rfl⟩:=(f);exact⟨SeqAt.RcAt.bool_int i j t,SeqAt.RcNeAt.bool_int i j t⟩
  |str j=>obtain⟨t,rfl⟩:=(f);exact⟨SeqAt.RcAt.bool_str i j t,SeqAt.RcNeAt.bool_str i j t⟩
  |_=>exact absurd o ZB
 |int i =>
  obtain⟨t',rfl⟩:=(l);cases m with
  |non=>cases(f);exact⟨SeqAt.RcAt.int_none i t',SeqAt.RcNeAt.int_none i t'⟩
  |bl c=>cases(f);exact⟨SeqAt.RcAt.int_bool i t' c,SeqAt.RcNeAt.int_bool i t' c⟩
  |int j=>obtain⟨t,rfl⟩:=(f);exact⟨SeqAt.RcAt.int_int i t' j t,SeqAt.RcNeAt.int_int i t' j t⟩
  |str j=>obtain⟨t,rfl⟩:=(f);exact⟨SeqAt.RcAt.int_str i t' j t,SeqAt.RcNeAt.int_str i t' j t⟩
  |_=>exact absurd o ZB
 |str i =>
  obtain⟨t',rfl⟩:=(l);cases m with
  |non=>cases(f);exact⟨SeqAt.RcAt.str_none i t',SeqAt.RcNeAt.str_none i t'⟩
  |bl c=>cases(f);exact⟨SeqAt.RcAt.str_bool i t' c,SeqAt.RcNeAt.str_bool i t' c⟩
  |int j=>obtain⟨t,rfl⟩:=(f);exact⟨SeqAt.RcAt.str_int i t' j t,SeqAt.RcNeAt.str_int i t' j t⟩
  |str j=>obtain⟨t,rfl⟩:=(f);exact⟨SeqAt.RcAt.str_str i t' j t,SeqAt.RcNeAt.str_str i t' j t⟩
  |_=>exact absurd o ZB
 |_=>exact absurd q ZB
end
section
variable {pos:Pos}
abbrev gLt:D->D->Option D:=gI0 fun i j=>.bl (decide (i<j))
abbrev gLe:D->D->Option D:=gI0 fun i j=>.bl (decide (i<=j))
abbrev gGt:D->D->Option D:=gI0 fun i j=>.bl (decide (j<i))
def NW(j:PD X a fa)(f:PD X b fb):PD X (.Compare a [.Lt] [b] pos) (f2 gLt fa fb):=jq J0 (mW fun _ _ _=>.bl _) j f (eS _)
def NZ(j:PD X a fa)(f:PD X b fb):PD X (.Compare a [.Gt] [b] pos) (f2 gGt fa fb):=jq J3 (mW fun _ _ _=>.bl _) j f (eS _)
def K4(j:PD X a fa)(f:PD X b fb):PTD X (.Compare a [.Lt] [b] pos) (fT (f2 gLt fa fb)):=gD J0 (mW fun _ _ _=>.bl _) j f (eS _)
def K5(j:PD X a fa)(f:PD X b fb):PTD X (.Compare a [.LtE] [b] pos) (fT (f2 gLe fa fb)):=gD v9 (mW fun _ _ _=>.bl _) j f (eS _)
def K7(j:PD X a fa)(f:PD X b fb):PTD X (.Compare a [.Gt] [b] pos) (fT (f2 gGt fa fb)):=gD J3 (mW fun _ _ _=>.bl _) j f (eS _)
noncomputable def gz:D->Bool
 |.non=>true
 |_=>false
def x8(a b:D):Option D:=match b with
 |.non=>some (.bl (gz a))
 |_=>none
def kb(a b:D):Option D:=match b with
 |.non=>some (.bl (!gz a))
 |_=>none
def wu{x}{a}(r:Rep K H x a):decide (x=.non)=gz a:=by cases r<;>rfl
def KH:R2D K (fun x y H Q=>y=.non/\Q (.bl (decide (x=.non))) H) x8:=by
 intro x y H Q a b d j f e k;cases f with
 |non=>cases e;exact⟨rfl,by rw[wu j];exact k _ H (Same.refl H) (.bl _)⟩
 |_=>cases e
def zf:R2D K (fun x y H Q=>y=.non/\Q (.bl (!decide (x=.non))) H) kb:=by
 intro x y H Q a b d j f e k;cases f with
 |non=>cases e;exact⟨rfl,by rw[wu j];exact k _ H (Same.refl H) (.bl _)⟩
 |_=>cases e
def Ih(j:PD X a fa)(f:PD X b fb):PD X (.Compare a [.IsNot] [b] pos) (f2 kb fa fb):=jq zu zf j f (eS _)
def HD(j:PD X a fa)(f:PD X b fb):PTD X (.Compare a [.Is] [b] pos) (fT (f2 x8 fa fb)):=gD L4 KH j f (eS _)
def DM(j:PD X a fa)(f:PD X b fb):PTD X (.Compare a [.IsNot] [b] pos) (fT (f2 kb fa fb)):=gD zu zf j f (eS _)
end
inductive Res where
 |nx (δ:DS)
 |rt (d:D)
 |bk (δ:DS)
 |ct (δ:DS)
 |ex (C:Addr) (δ:DS)
 |mk (C:Addr) (δ:DS)
abbrev SD:=DS->Option Res
def Pn{t t'}(h:PS X st t)(w:∀E σ H,t' E σ H->t E σ H):PS X st t':=fun Q0 s σ H E I q=>h Q0 s σ H E I (w E σ H q)
def Oj{st}{t t'}(h:PSs X st t)(w:∀E σ H,t' E σ H->t E σ H):PSs X st t':=fun Q0 s σ H E I q=>h Q0 s σ H E I (w E σ H q)
def Po{t t'}(h:PI X tg iter t)(w:∀σ H R,t' σ H R->t σ H R):PI X tg iter t':=fun Q0 s σ H R I q=>h Q0 s σ H R I (w σ H R q)
noncomputable def asL:D->Option (List D)
 |.lst ds=>some ds
 |.seq ds=>some ds
 |_=>none
noncomputable def start(n:Nat)(ds:List D):DS:=ds.map some++List.replicate (n-ds.length) none
variable {f fa fb:FD} {ds:Yg D} {δ fin:DS} {g':Int->Int->D} {G:Yg D->Ye D} {u:SD} {o:Ye D}
def spLaw(K:ZA):Sp:=fun vs H Q _=>∃(a:Addr)(ns:List Int),vs=[.ref a]/\SqL K H a (ns.map V.int)/\ns.length<=63/\∀H',Q (.bl true) H'
abbrev FO:=DS->Option (Option Int)
noncomputable def faN:FO:=fun _=>some none
noncomputable def asI:D->Option (Option Int)
 |.int i=>some (some i)
 |_=>none
def faS(f:FD):FO:=fun δ=>(f δ).bind asI
noncomputable def AS(n d:Nat):Option Int->Nat
 |none=>d
 |some v=>if v<0 then(v+(n:Int)).toNat else min v.toNat n
noncomputable def u8(ds:List D)(lo hi:Option Int):List D:=(ds.drop (AS ds.length 0 lo)).take (AS ds.length ds.length hi-AS ds.length 0 lo)
def fSl(f:FD)(lo hi:FO):FD:=fun δ=>(f δ).bind fun d=>(asL d).bind fun ds=>(lo δ).bind fun l=>(hi δ).bind fun h=>some (.lst (u8 ds l h))
variable {fl fh:FO}
def upO(K:ZA)(f:FO):TO:=fun σ H Q=>∃δ o,RepS K H σ δ/\f δ=some o/\∀H',Same H H'->Q o H'
def POD(X:Cx)(e:Option Expr)(f:FO):Prop:=PO X e (upO X.K f)
def kP(n d) (o):AS n d o=HT.sIx n d o:=by cases o<;>rfl
def wN(r:Reps K H vs ds)(lo hi):Reps K H (sE vs lo hi) (u8 ds lo hi):=by unfold sE u8;rw[r.length,kP,kP];exact(r.drop _).take _
section
variable {pos:Pos}
def D2:POD X none faN:=fun Q0 s σ H Q I ⟨δ,o,R,q,k⟩=>HP Q0 s σ H Q I (by cases q;exact k H (Same.refl H))
def D1(h:PD X e f):POD X (some e) (faS f):=fun Q0 s σ H Q I ⟨δ,o,R,q,k⟩=>HN h Q0 s σ H Q I (by
 unfold faS at q;obtain⟨d,m,q⟩:=Za.mp q;refine⟨δ,d,R,m,fun v H1 j l=>?_⟩
 cases l with
 |int i=>cases q;exact⟨i,rfl,k H1 j⟩
 |_=>cases q)
def Ep(he:PD X e f)(G:POD X lo fl)(C:POD X hi fh):PD X (.Subscript e (.Slice lo hi none p2) pos) (fSl f fl fh):=gp (mY yV he G C) fun{σ H Q δ d} R q k=>by
 unfold fSl at q;obtain⟨x,ex,q⟩:=Za.mp q;obtain⟨ds,j,q⟩:=Za.mp q;obtain⟨l,I,q⟩:=Za.mp q;obtain⟨h,J,q⟩:=Za.mp q;cases q;refine⟨δ,x,R,ex,fun v H1 t B=>⟨δ,l,R.mono t,I,fun H2 r=>⟨δ,h,(R.mono t).mono r,J,fun u y=>?_⟩⟩⟩
 have z:=(B.mono r).mono y;have fin:∀a vs,SqL X.K u a vs->Reps X.K u vs ds->KG X.K (.ref a) l h u Q:=fun a vs D m=>by
  refine⟨a,vs,rfl,D,fun p o=>?_⟩
  have s:=a8 o (.lst (sE vs l h));exact k _ _ (((t.trans r).trans y).trans s) (.lst aL ((wN m l h).mono s))
 cases z with
 |@lst p vs es o m=>cases j;exact fin p vs (SqL.of o) m
 |@seq p vs es o m=>cases j;exact fin p vs o m
 |_=>cases j
end
noncomputable def fK(js:List Nat)(σ:L2.St):L2.St:=js.map fun j=>match σ[j]? with
 |some o=>o
 |none=>none
section
def wd(I:L2.Inv X Q0 σ H₂ s₂){a}(h:s₂.heap.objs.size<=a):a∉frs X.stack:=fun z=>by
 rcases Zt.mp (I.stkSub a z)with e|e
 . exact absurd (ZC I.lt (by rw[<- e];exact h)) (ZJ _)
 . exact I.nofs h e
def BK{Hend}(I:L2.Inv X Q0 σ Hend s')(j:L2.Inv X Q0 σ H₂ s₂)(f:s₂.heap.objs.size<=C)(fC:Hend C=none)(l:Heap.SameBut C s'.heap h'):L2.Inv X Q0 σ Hend { s' with heap:=h' } :=
 I.turned (fun b o q e=>(l.2 b q).trans e) fC (Nat.ne_of_gt (ZC j.lt f)) (.inr (ZY j.sz f))
  (fun y c e z=>by obtain⟨v,o,h1,_⟩:=j.cell y c e;exact absurd (ZC (ZT h1) (by rw[z];exact f)) (ZJ _))
  (fun p m z=>absurd (ZC (ZT (j.pin p m).1) (by rw[z];exact f)) (ZJ _))
end
noncomputable def Fj:List D->Option D
 |[.int i,.int j]=>some (.int (if j<i then j else i))
 |_=>none
def ML:CallD K (fun xs H Q=>∃i j,xs=[.int i,.int j]/\Q (.int (if j<i then j else i)) H) Fj:=by
 intro xs H Q ds d r e k;unfold Fj at e;split at e
 . rename_i i j;cases e;obtain⟨x,y,rfl,l,f⟩:=JS r;cases l;cases f;exact⟨i,j,rfl,k _ H (Same.refl H) (.int _)⟩
 . cases e
section
variable {pos:Pos}
def LX(j:Gl X y)(f:X.mg y=some (.ref C))(l:NbX y:=by kernel_rfl):PD X (.Name y pos) (fC (.cls C)) :=
 gp (pX (v:=.ref C) j f rfl l) fun{σ H Q δ d} R e k=>by cases e;exact k _ H (Same.refl H) (.cls C)
end
variable {kt:Nat} {F':Hp} {ei X7:Expr} {ch:Yg Yd} {ws ps zs:Yg Str} {fk:FD} {p1:Pos} {X5:Yg Expr} {As Q2:Nat->Yg Yd} {ga:FA} {Z:L2.St->Prop} {Q3:Array Yb} {pl:Sem Bool}
mutual
noncomputable def imm:D->Bool
 |.tup ds=>iK ds
 |.lst _=>false
 |.seq _=>false
 |.ob _ _ _=>false
 |.oo _ _ _=>false
 |.dv _=>false
 |_=>true
noncomputable def iK:List D->Bool
 |[]=>true
 |d::ds=>imm d&&iK ds
end
mutual
noncomputable def own:D->Bool
 |.tup ds=>gb ds
 |.lst ds=>gb ds
 |.seq _=>false
 |.ob _ _ _=>false
 |.oo _ _ ds=>gb ds
 |.dv _=>false
 |_=>true
noncomputable def gb:List D->Bool
 |[]=>true
 |d::ds=>own d&&gb ds
end
mutual
noncomputable def sh:D->D
 |.tup ds=>.tup (shs ds)
 |.lst ds=>.seq (shs ds)
 |.seq ds=>.seq (shs ds)
 |.ob C xs ds=>.ob C xs (shs ds)
 |.oo C xs ds=>.ob C xs (shs ds)
 |.dv ds=>.dv (shs ds)
 |d=>d
noncomputable def shs:List D->List D
 |[]=>[]
 |d::ds=>sh d::shs ds
end
theorem pU:∀ds,shs ds=ds.map sh
 |[]=>rfl
 |d::ds=>by rw[shs,pU ds];rfl
mutual
theorem mR:∀(d:D),sh (sh d)=sh d
 |.non=>rfl
 |.bl _=>rfl
 |.int _=>rfl
 |.str _=>rfl
 |.ty _=>rfl
 |.dct=>rfl
 |.cls _=>rfl
 |.ob C xs ds=>by rw[sh,sh,jj ds]
 |.oo C xs ds=>by rw[sh,sh,jj ds]
 |.any=>rfl
 |.tin=>rfl
 |.dv ds=>by rw[sh,sh,jj ds]
 |.tup ds=>by rw[sh,sh,jj ds]
 |.lst ds=>by rw[sh,sh,jj ds]
 |.seq ds=>by rw[sh,sh,jj ds]
theorem jj:∀(ds:Yg D),shs (shs ds)=shs ds
 |[]=>rfl
 |d::ds=>by rw[shs,shs,mR d,jj ds]
end
noncomputable def mtb:HO->Bool
 |.lst _=>true
 |.dK _=>true
 |.frz _ (.dK _)=>true
 |.ins _ _ _=>true
 |_=>false
abbrev MO:={u:HO // mtb u=true}
def dU(H H':Hp):Prop:=∀a u,H a=some u->mtb u=false->H' a=some u
def bi(s:Same H H'):dU H H':=fun a u e _=>s a u e
def oM{a}{u}{o}(h:H a=some u)(m:mtb u=true):dU H (upd H a o):=fun b w e n=>by
 by_cases f:b=a
 . subst f;rw[h]at e;cases e;rw[m]at n;cases n
 . rw[aI f];exact e
def qX{a}{o}(h:H a=some (.lst vs)):dU H (upd H a o):=oM h rfl
def mP{a}{xs}(k:dU H H')(h:SqT K H a xs):SqT K H' a xs:=by
 rcases h with(h|⟨o,h⟩)|h
 . exact .inl (.inl (k _ _ h rfl))
 . exact .inl (.inr ⟨o,k _ _ h rfl⟩)
 . exact .inr h
def Oa(k:dU H H'):(∀{v}{d},Rep K H v d->imm d=true->Rep K H' v d)/\∀{vs}{ds},Reps K H vs ds->iK ds=true->Reps K H' vs ds :=
 Rep.both (fun _=>.non) (fun _ _=>.bl _) (fun _ _=>.int _) (fun _ _=>.str _) (fun _ _=>.ty _) (fun h _ r i=>.tup (mP k h) (r (by rw[imm]at i;exact i))) (fun _ _ _ i=>by rw[imm]at i;cases i) (fun _ _ _ i=>by rw[imm]at i;cases i) (fun h _=>.dct (k _ _ h rfl)) (fun _ _=>.cls _) (fun _ _ _ _ i=>by rw[imm]at i;cases i) (fun _ _ _ _ i=>by rw[imm]at i;cases i) (fun _ _=>.any _) (fun h n _=>.tin (mP k h) n) (fun _ _ _ i=>by rw[imm]at i;cases i) (fun _=>.nil) fun _ _ p q i=>by rw[iK,ZN]at i;exact .cons (p i.1) (q i.2)
def vS(k:dU H H'):∀{v}{d},Rep K H v d->imm d=true->Rep K H' v d:=(Oa k).1
def mQ{xs:Yg Str}(l:xs.length=ds.length):xs.length=(shs ds).length:=by rw[pU,Zl];exact l
theorem sh_:(∀{v}{d},Rep K H v d->Rep K H v (sh d))/\∀{vs}{ds},Reps K H vs ds->Reps K H vs (shs ds) :=
 Rep.both .non .bl .int .str .ty (fun h _ r=>by rw[sh];exact .tup h r) (fun h _ r=>by rw[sh];exact .seq (SqL.of h) r) (fun h _ r=>by rw[sh];exact .seq h r) .dct .cls (fun h l _ r=>by rw[sh];exact .ob h (mQ l) r) (fun h l _ r=>by rw[sh];exact .ob h (mQ l) r) .any .tin (fun h _ r=>by rw[sh];exact .dv h r) .nil fun _ _ p q=>by rw[shs];exact .cons p q
def uy:∀{v}{d},Rep K H v d->Rep K H v (sh d):=sh_.1
def mV:∀{vs}{ds},Reps K H vs ds->Reps K H vs (shs ds):=sh_.2
mutual
inductive RepO(K:ZA)(F H:Hp):V->D->List Addr->Prop
 |imm {v:V} {d:D} (i:imm d=true) (h:Rep K H v d):RepO K F H v d []
 |shr {v:V} {ds:List D} (h:Rep K F v (.seq ds)):RepO K F H v (.seq ds) []
 |tup {a:Addr} {vs:List V} {ds:List D} {A:List Addr} (h:SqT K H a vs) (r:RepOs K F H vs ds A):RepO K F H (.ref a) (.tup ds) A
 |lst {a:Addr} {vs:List V} {ds:List D} {A:List Addr} (h:H a=some (.lst vs)) (n:F a=none) (r:RepOs K F H vs ds A):RepO K F H (.ref a) (.lst ds) (a::A)
 |sho {v:V} {C:Addr} {xs:List Str} {ds:List D} (h:Rep K F v (.ob C xs ds)):RepO K F H v (.ob C xs ds) []
 |shd {v:V} {ds:List D} (h:Rep K F v (.dv ds)):RepO K F H v (.dv ds) []
 |oo {a C dx:Addr} {xs:List Str} {vs:List V} {ds:List D} {A:List Addr} (h:H a=some (.ins C dx (xs.zip vs))) (n:F a=none) (l:xs.length=ds.length) (r:RepOs K F H vs ds A):RepO K F H (.ref a) (.oo C xs ds) (a::A)
inductive RepOs(K:ZA)(F H:Hp):List V->List D->List Addr->Prop
 |nil:RepOs K F H [] [] []
 |cons {v:V} {d:D} {vs:List V} {ds:List D} {A B C:List Addr} (r:RepO K F H v d A) (t:RepOs K F H vs ds B) (e:C=A++B):RepOs K F H (v::vs) (d::ds) C
end
section
variable {F:Hp}
def RepO.both{P:V->D->Yg Yd->Prop}{Q:Yg V->Yg D->Yg Yd->Prop}(x:∀{v d},Dl.imm d=true->Rep K H v d->P v d [])(u:∀{v ds},Rep K F v (.seq ds)->P v (.seq ds) [])(t:∀{a vs ds A},SqT K H a vs->RepOs K F H vs ds A->Q vs ds A->P (.ref a) (.tup ds) A)(s:∀{a vs ds A},H a=some (.lst vs)->F a=none->RepOs K F H vs ds A->Q vs ds A->P (.ref a) (.lst ds) (a::A))(o:∀{v C xs ds},Rep K F v (.ob C xs ds)->P v (.ob C xs ds) [])(f:∀{v ds},Rep K F v (.dv ds)->P v (.dv ds) [])(m:∀{a C dx xs vs ds A},H a=some (.ins C dx (xs.zip vs))->F a=none->xs.length=ds.length->RepOs K F H vs ds A->Q vs ds A->P (.ref a) (.oo C xs ds) (a::A))(l:Q [] [] [])(j:∀{v d vs ds A B},RepO K F H v d A->RepOs K F H vs ds B->P v d A->Q vs ds B->Q (v::vs) (d::ds) (A++B)):(∀{v d A},RepO K F H v d A->P v d A)/\∀{vs ds A},RepOs K F H vs ds A->Q vs ds A :=
 ⟨fun r=>r.rec (motive_1:=fun v d A _=>P v d A) (motive_2:=fun v d A _=>Q v d A) x u t s o f m l fun a b e p q=>e▸j a b p q,fun r=>r.rec (motive_1:=fun v d A _=>P v d A) (motive_2:=fun v d A _=>Q v d A) x u t s o f m l fun a b e p q=>e▸j a b p q⟩
def RepOs.ind{Q:∀vs ds A,RepOs K F H vs ds A->Prop}(nil:Q [] [] [] .nil)(cons:∀{v d vs ds A B} r t,Q vs ds B t->Q (v::vs) (d::ds) (A++B) (.cons r t rfl)){vs}{ds}{A}(r:RepOs K F H vs ds A):Q vs ds A r:=by
 refine r.rec (motive_1:=fun _ _ _ _=>True) (motive_2:=Q) ?_ ?_ ?_ ?_ ?_ ?_ ?_ nil fun r t e _ h=>by subst e;exact cons r t h
 all_goals intros;trivial
def RepO.rep_(s:Same F H):(∀{v}{d}{A},RepO K F H v d A->Rep K H v d)/\∀{vs}{ds}{A},RepOs K F H vs ds A->Reps K H vs ds :=
 RepO.both (fun _ h=>h) (·.mono s) (fun h _=>.tup h) (fun h _ _=>.lst h) (·.mono s) (·.mono s) (fun h _ l _=>.oo h l) .nil fun _ _=>.cons
def RepO.rep(s:Same F H):∀{v}{d}{A:Yg Yd},RepO K F H v d A->Rep K H v d:=(RepO.rep_ s).1
theorem RepO.dom_:(∀{v}{d}{A},RepO K F H v d A->∀a∈A,(∃u:MO,H a=some u.1)/\F a=none)/\∀{vs}{ds}{A},RepOs K F H vs ds A->∀a∈A,(∃u:MO,H a=some u.1)/\F a=none :=
 RepO.both (fun _ _ _ m=>nomatch m) (fun _ _ m=>nomatch m) (fun _ _=>id) (fun h n _ q a m=>(Zt.mp m).elim (fun e=>e▸⟨⟨⟨_,rfl⟩,h⟩,n⟩) (q a)) (fun _ _ m=>nomatch m) (fun _ _ m=>nomatch m) (fun h n _ _ q a m=>(Zt.mp m).elim (fun e=>e▸⟨⟨⟨_,rfl⟩,h⟩,n⟩) (q a)) (fun _ m=>nomatch m) fun _ _ p q a m=>(Zs.mp m).elim (p a) (q a)
def RepO.dom:∀{v:V}{d:D}{A:Yg Yd},RepO K F H v d A->∀a∈A,(∃u:MO,H a=some u.1)/\F a=none:=RepO.dom_.1
def RepOs.dom:∀{vs:Yg V}{ds:Yg D}{A:Yg Yd},RepOs K F H vs ds A->∀a∈A,(∃u:MO,H a=some u.1)/\F a=none:=RepO.dom_.2
def RepO.frame_(k:dU H H'):(∀{v}{d}{A},RepO K F H v d A->(∀a∈A,H' a=H a)->RepO K F H' v d A)/\∀{vs}{ds}{A},RepOs K F H vs ds A->(∀a∈A,H' a=H a)->RepOs K F H' vs ds A :=
 RepO.both (fun i h _=>.imm i (vS k h i)) (fun h _=>.shr h) (fun h _ q e=>.tup (mP k h) (q e)) (fun h n _ q e=>.lst ((e _ Zo).trans h) n (q fun a m=>e a (Zp _ m))) (fun h _=>.sho h) (fun h _=>.shd h) (fun h n l _ q e=>.oo ((e _ Zo).trans h) n l (q fun a m=>e a (Zp _ m))) (fun _=>.nil) fun _ _ p q e=>.cons (p fun a m=>e a (ZE _ m)) (q fun a m=>e a (ZD _ m)) rfl
def RepO.frame(k:dU H H'):∀{v}{d}{A},RepO K F H v d A->(∀a∈A,H' a=H a)->RepO K F H' v d A:=(RepO.frame_ k).1
def RepOs.frame(k:dU H H'):∀{vs}{ds}{A},RepOs K F H vs ds A->(∀a∈A,H' a=H a)->RepOs K F H' vs ds A:=(RepO.frame_ k).2
def RepO.froz_(s:Same F F'):(∀{v}{d}{A},RepO K F H v d A->(∀a∈A,F' a=none)->RepO K F' H v d A)/\∀{vs}{ds}{A},RepOs K F H vs ds A->(∀a∈A,F' a=none)->RepOs K F' H vs ds A :=
 RepO.both (fun i h _=>.imm i h) (fun h _=>.shr (h.mono s)) (fun h _ q e=>.tup h (q e)) (fun h _ _ q e=>.lst h (e _ Zo) (q fun a m=>e a (Zp _ m))) (fun h _=>.sho (h.mono s)) (fun h _=>.shd (h.mono s)) (fun h _ l _ q e=>.oo h (e _ Zo) l (q fun a m=>e a (Zp _ m))) (fun _=>.nil) fun _ _ p q e=>.cons (p fun a m=>e a (ZE _ m)) (q fun a m=>e a (ZD _ m)) rfl
def RepO.froz(s:Same F F'):∀{v}{d}{A},RepO K F H v d A->(∀a∈A,F' a=none)->RepO K F' H v d A:=(RepO.froz_ s).1
def j1{a}(s:Same F' F)(n:F a=none):F' a=none:=by
 cases q:F' a with
 |none=>rfl
 |some u=>rw[s a u q]at n;cases n
def RepO.thaw_(s:Same F' F):(∀{v}{d}{A},RepO K F H v d A->own d=true->RepO K F' H v d A)/\∀{vs}{ds}{A},RepOs K F H vs ds A->gb ds=true->RepOs K F' H vs ds A :=
 RepO.both (fun i h _=>.imm i h) (fun _ o=>by rw[own]at o;cases o) (fun h _ q o=>.tup h (q (by rw[own]at o;exact o))) (fun h n _ q o=>.lst h (j1 s n) (q (by rw[own]at o;exact o))) (fun _ o=>by rw[own]at o;cases o) (fun _ o=>by rw[own]at o;cases o) (fun h n l _ q o=>.oo h (j1 s n) l (q (by rw[own]at o;exact o))) (fun _=>.nil) fun _ _ p q o=>by rw[gb,ZN]at o;exact .cons (p o.1) (q o.2) rfl
def RepO.thaw(s:Same F' F):∀{v}{d}{A},RepO K F H v d A->own d=true->RepO K F' H v d A:=(RepO.thaw_ s).1
noncomputable def frz(F H:Hp)(A:List Addr):Hp:=fun a=>match H a with
 |some u=>if mtb u=true then(if(F a).isSome=true\/a∈A then some u else none)else some u
 |none=>none
def qb{a}{u}(h:H a=some u)(m:a∈A):frz F H A a=some u:=by
 unfold frz;rw[h];show(if mtb u=true then(if(F a).isSome=true\/a∈A then some u else none)else some u)=some u
 rw[if_pos (show(F a).isSome=true\/a∈A from .inr m)]
 split<;>rfl
def nu:dU H (frz F H A):=fun a u e n=>by unfold frz;rw[e];exact if_neg (by rw[n];exact fun z=>nomatch z)
def nr(s:Same F H):Same F (frz F H A):=fun a u e=>by
 have h:=s a u e;unfold frz;rw[h];show(if mtb u=true then(if(F a).isSome=true\/a∈A then some u else none)else some u)=some u
 rw[if_pos (show(F a).isSome=true\/a∈A from .inl (by rw[e];rfl))]
 split<;>rfl
def uU:Same (frz F H A) H:=fun a u e=>by
 unfold frz at e;split at e
 . rename_i w h;rw [h];split at e
   . split at e
     . exact e
     . cases e
   . exact e
 . cases e
def gE{a}{u:MO}(h:H a=some u.1)(n:F a=none)(m:a∉A):frz F H A a=none:=by
 unfold frz;rw[h];show(if mtb u.1=true then(if(F a).isSome=true\/a∈A then some u.1 else none)else some u.1)=none
 rw[if_pos u.2];refine if_neg fun z=>?_
 rcases z with z|z
 . rw[n]at z;cases z
 . exact m z
def RepO.freeze_(s:Same F F')(k:dU H F'):(∀{v}{d}{A},RepO K F H v d A->(∀a u,a∈A->H a=some u->F' a=some u)->Rep K F' v (sh d))/\∀{vs}{ds}{A},RepOs K F H vs ds A->(∀a u,a∈A->H a=some u->F' a=some u)->Reps K F' vs (shs ds) :=
 RepO.both (fun i h _=>uy (vS k h i)) (fun h _=>uy (h.mono s)) (fun h _ q e=>by rw[sh];exact .tup (mP k h) (q e)) (fun h _ _ q e=>by rw[sh];exact .seq (SqL.of (e _ _ Zo h)) (q fun a vs m=>e a vs (Zp _ m))) (fun h _=>uy (h.mono s)) (fun h _=>uy (h.mono s)) (fun h _ l _ q e=>by rw[sh];exact .ob (e _ _ Zo h) (mQ l) (q fun a vs m=>e a vs (Zp _ m))) (fun _=>.nil) fun _ _ p q e=>by rw[shs];exact .cons (p fun a vs m=>e a vs (ZE _ m)) (q fun a vs m=>e a vs (ZD _ m))
def RepO.freeze(s:Same F F')(k:dU H F'):∀{v}{d}{A},RepO K F H v d A->(∀a u,a∈A->H a=some u->F' a=some u)->Rep K F' v (sh d):=(RepO.freeze_ s k).1
def RepOs.freeze(s:Same F F')(k:dU H F'):∀{vs}{ds}{A},RepOs K F H vs ds A->(∀a u,a∈A->H a=some u->F' a=some u)->Reps K F' vs (shs ds):=(RepO.freeze_ s k).2
def RepO.of_sh_(s:Same F H):(∀{v}{d},Rep K F v d->RepO K F H v (sh d) [])/\∀{vs}{ds},Reps K F vs ds->RepOs K F H vs (shs ds) [] :=
 Rep.both (.imm rfl .non) (fun _=>.imm rfl (.bl _)) (fun _=>.imm rfl (.int _)) (fun _=>.imm rfl (.str _)) (fun _=>.imm rfl (.ty _)) (fun h _ q=>by rw[sh];exact .tup (gR s h) q) (fun h r _=>by rw[sh];exact .shr (.seq (SqL.of h) (mV r))) (fun h r _=>by rw[sh];exact .shr (.seq h (mV r))) (fun h=>.imm rfl (.dct (s _ _ h))) (fun _=>.imm rfl (.cls _)) (fun h l r _=>by rw[sh];exact .sho (.ob h (mQ l) (mV r))) (fun h l r _=>by rw[sh];exact .sho (.ob h (mQ l) (mV r))) (fun _=>.imm rfl (.any _)) (fun h n=>.imm rfl (.tin (gR s h) n)) (fun h r _=>by rw[sh];exact .shd (.dv h (mV r))) .nil fun _ _ p q=>by rw[shs];exact .cons p q rfl
def RepO.of_sh(s:Same F H):∀{v}{d},Rep K F v d->RepO K F H v (sh d) []:=(RepO.of_sh_ s).1
def RepOs.of_sh(s:Same F H):∀{vs}{ds},Reps K F vs ds->RepOs K F H vs (shs ds) []:=(RepO.of_sh_ s).2
def RepOs.length{vs}{ds}(r:RepOs K F H vs ds A):vs.length=ds.length:=by
 induction r using RepOs.ind with
 |nil=>rfl
 |cons _ _ f=>exact Z8 (· + 1) f
def RepOs.snoc{vs}{ds}{A B}{v}{d}(q:RepOs K F H vs ds A)(r:RepO K F H v d B):RepOs K F H (vs++[v]) (ds++[d]) (A++B):=by
 induction q using RepOs.ind with
 |nil=>exact .cons r .nil (by simp)
 |cons q t f=>exact .cons q f (ZV ..)
theorem RepOs.pick:∀{vs}{ds}{A}{i}{d},RepOs K F H vs ds A->ds[i]?=some d->∃v j B f,vs[i]?=some v/\RepO K F H v d B/\A=j++(B++f) /\
 ∀{H'}{v'}{d'}{B'},dU H H'->(∀a,a∈j\/a∈f->H' a=H a)->RepO K F H' v' d' B'->RepOs K F H' (vs.set i v') (ds.set i d') (j++(B'++f))
 |_,_,_,_,_,.nil,e=>by simp at e
 |_,_,_,0,_,.cons (A:=A) (B:=B) r t e,q=>by
  simp at q;subst q;refine⟨_,[],A,B,rfl,r,by simpa using e,fun k h r'=>?_⟩
  exact .cons r' (t.frame k fun a m=>h a (.inr m)) (by simp)
 |_,_,_,i+1,d,.cons (A:=A0) r t e,q=>by
  obtain⟨v,j,B,f,h1,h2,o,l⟩:=RepOs.pick t (by simpa using q)
  refine⟨v,A0++j,B,f,by simpa using h1,h2,by rw[e,o,ZV],fun k h r'=>?_⟩
  refine .cons (r.frame k fun a m=>h a (.inl (ZE _ m))) (l k (fun a m=>h a ?_) r') (by rw[ZV])
  rcases m with m|m
  . exact .inl (ZD _ m)
  . exact .inr m
end
structure RepA(K:ZA)(F H:Hp)(σ:L2.St)(δ:DS)(As:Nat->List Addr):Prop where
 fz:Same F H
 len:σ.length=δ.length
 val:∀(i:Nat)(d:D),δ[i]?=some (some d)->∃v,σ[i]?=some (some v)/\RepO K F H v d (As i)
 non:∀(i:Nat),(∀d,δ[i]?≠some (some d))->As i=[]
 nd:∀i,(As i).Nodup
 dj:∀i j a,i≠j->a∈As i->a∉As j
section
variable {F:Hp}
def RepA.toS(R:RepA K F H σ δ As):RepS K H σ δ:=⟨R.len,fun i d q=>let ⟨v,h1,h2⟩:=R.val i d q;⟨v,h1,h2.rep R.fz⟩⟩
theorem RepA.dom(R:RepA K F H σ δ As){a}(m:a∈As i):(∃u:MO,H a=some u.1)/\F a=none:=by
 by_cases h:∃d,δ[i]?=some (some d)
 . obtain⟨d,h⟩:=h;obtain⟨v,_,h2⟩:=R.val i d h;exact h2.dom a m
 . rw[R.non i fun d z=>h ⟨d,z⟩]at m;cases m
def RepA.grow(R:RepA K F H σ δ As)(s:Same H H'):RepA K F H' σ δ As :=
 ⟨R.fz.trans s,R.len,fun i d q=>by
  obtain⟨v,h1,h2⟩:=R.val i d q;refine⟨v,h1,h2.frame (bi s) fun a m=>?_⟩
  obtain⟨⟨vs,e⟩,_⟩:=h2.dom a m;rw[e];exact s a _ e,R.non,R.nd,R.dj⟩
theorem RepA.froz(R:RepA K F H σ δ As)(s:Same F F')(s':Same F' H)(n:∀i a,a∈As i->F' a=none):RepA K F' H σ δ As :=
 ⟨s',R.len,fun i d q=>let ⟨v,h1,h2⟩:=R.val i d q;⟨v,h1,h2.froz s (n i)⟩,R.non,R.nd,R.dj⟩
noncomputable def g8(As:Nat->List Addr)(i:Nat)(A:List Addr):Nat->List Addr:=fun j=>if j=i then A else As j
def aD:g8 As i A i=A:=if_pos rfl
def aG(h:j≠i):g8 As i A j=As j:=if_neg h
theorem RepA.set{d}(R:RepA K F H σ δ As)(i) (hi:i<δ.length) (r:RepO K F H v d A) (p:A.Nodup) (o:∀j a,j≠i->a∈As j->a∉A):RepA K F H (σ.set i (some v)) (δ.set i (some d)) (g8 As i A):=by
 have s:=R.len;refine⟨R.fz,by rw[List.length_set,List.length_set];exact s,fun j e q=>?_,fun j h=>?_,fun j=>?_,fun j k a l m=>?_⟩
 . rw [List.getElem?_set] at q ⊢
   by_cases f:i=j
   . subst f;rw [if_pos rfl,if_pos hi] at q;rw [if_pos rfl,if_pos (by lia),aD]
     have:d=e:=by simpa using q
     subst this;exact⟨v,rfl,r⟩
   . rw[if_neg f]at q ⊢;rw[aG (Ne.symm f)];exact R.val j e q
 . by_cases f:j=i
   . subst f;exact absurd (by rw[List.getElem?_set,if_pos rfl,if_pos hi]) (h d)
   . rw [aG f];refine R.non j fun e z=>h e ?_
     rw[List.getElem?_set_ne (Ne.symm f)];exact z
 . by_cases f:j=i
   . subst f;rw[aD];exact p
   . rw[aG f];exact R.nd j
 . by_cases f:j=i
   . subst f;rw[aD]at m;rw[aG (Ne.symm l)];exact fun z=>o k a (Ne.symm l) z m
   . rw [aG f] at m
     by_cases hk:k=i
     . subst hk;rw[aD];exact o j a f m
     . rw[aG hk];exact R.dj j k a l m
def RepA.drop(R:RepA K F H σ δ As)(i):RepA K F H σ (δ.set i none) (g8 As i []):=by
 refine⟨R.fz,by rw[List.length_set];exact R.len,fun j e q=>?_,fun j h=>?_,fun j=>?_,fun j k a l m=>?_⟩
 . rw [List.getElem?_set] at q
   by_cases f:i=j
   . subst f;rw[if_pos rfl]at q;split at q<;>cases q
   . rw[if_neg f]at q;rw[aG (Ne.symm f)];exact R.val j e q
 . by_cases f:j=i
   . subst f;rw[aD]
   . rw [aG f];refine R.non j fun e z=>h e ?_
     rw[List.getElem?_set_ne (Ne.symm f)];exact z
 . by_cases f:j=i
   . subst f;rw[aD];exact Zy
   . rw[aG f];exact R.nd j
 . by_cases f:j=i
   . subst f;rw[aD]at m;cases m
   . rw [aG f] at m
     by_cases hk:k=i
     . subst hk;rw[aD];exact fun z=>nomatch z
     . rw[aG hk];exact R.dj j k a l m
def RepA.write{d}(R:RepA K F H σ δ As)(hi:i<δ.length)(o:σ[i]?=some (some v))(k:dU H H')(u:Same F H')(e:∀j a,j≠i->a∈As j->H' a=H a)(r:RepO K F H' v d A)(t:A.Nodup)(s:∀j a,j≠i->a∈As j->a∉A) :
 RepA K F H' σ (δ.set i (some d)) (g8 As i A):=by
 refine⟨u,by rw[List.length_set];exact R.len,fun j p q=>?_,fun j h=>?_,fun j=>?_,fun j k a l m=>?_⟩
 . rw [List.getElem?_set] at q
   by_cases f:i=j
   . subst f;rw [if_pos rfl,if_pos hi] at q;have:d=p:=by simpa using q
     subst this;rw[aD];exact⟨v,o,r⟩
   . rw[if_neg f]at q;rw[aG (Ne.symm f)];obtain⟨w,h1,h2⟩:=R.val j p q;exact⟨w,h1,h2.frame k (fun a m=>e j a (Ne.symm f) m)⟩
 . by_cases f:j=i
   . subst f;exact absurd (by rw[List.getElem?_set,if_pos rfl,if_pos hi]) (h d)
   . rw [aG f];refine R.non j fun e z=>h e ?_
     rw[List.getElem?_set_ne (Ne.symm f)];exact z
 . by_cases f:j=i
   . subst f;rw[aD];exact t
   . rw[aG f];exact R.nd j
 . by_cases f:j=i
   . subst f;rw[aD]at m;rw[aG (Ne.symm l)];exact fun z=>s k a (Ne.symm l) z m
   . rw [aG f] at m
     by_cases hk:k=i
     . subst hk;rw[aD];exact s j a f m
     . rw[aG hk];exact R.dj j k a l m
end
abbrev FM:=DS->Option (D×DS)
abbrev FMA:=DS->Option (List D×DS)
structure Ev(F H:Hp)(As:Nat->List Addr)(F' H':Hp)(Q2:Nat->List Addr)(A:List Addr):Prop where
 fs:Same F F'
 hs:Same H H'
 nf:∀a(u:MO),H a=some u.1->F a=none->(∀i,a∉As i)->F' a=none
 fa:∀i a,a∈Q2 i->(∃j,a∈As j)\/H a=none
 fA:∀a,a∈A->(∃j,a∈As j)\/H a=none
 nd:A.Nodup
 dj:∀i a,a∈Q2 i->a∉A
def Ev.pure{F}(s:Same H H'):Ev F H As F H' As [] :=
 ⟨Same.refl F,s,fun _ _ _ n _=>n,fun i _ m=>.inl ⟨i,m⟩,fun _ m=>(nomatch m),Zy,fun _ _ _ z=>(nomatch z)⟩
def Ev.fresh{F}(s:Same H H')(h:∀a∈A,H a=none)(f:A.Nodup)(dom:∀i a,a∈As i->∃u:MO,H a=some u.1):Ev F H As F H' As A :=
 ⟨Same.refl F,s,fun _ _ _ n _=>n,fun i _ m=>.inl ⟨i,m⟩,fun a m=>.inr (h a m),f,fun i a m z=>by obtain⟨vs,e⟩:=dom i a m;rw[h a z]at e;cases e⟩
def upV(K:ZA)(f:FM):TE:=fun σ H Q=>∃F δ As d δ',RepA K F H σ δ As/\f δ=some (d,δ')/\∀v F' H' A Q2,Ev F H As F' H' Q2 A->RepA K F' H' σ δ' Q2->RepO K F' H' v d A->Q v H'
def PV(X:Cx)(e:Expr)(f:FM):Prop:=PE X e (upV X.K f)
def BL{t}{f:FM}(h:PE X e t)(w:∀{σ H Q F δ As d δ'},RepA X.K F H σ δ As->f δ=some (d,δ')->(∀v F' H' A Q2,Ev F H As F' H' Q2 A->RepA X.K F' H' σ δ' Q2->RepO X.K F' H' v d A->Q v H')->t σ H Q):PV X e f:=imp h fun _ _ _ h=>h.elim fun _ h=>h.elim fun _ h=>h.elim fun _ h=>h.elim fun _ h=>h.elim fun _ h=>w h.1 h.2.1 h.2.2
def vI(f:FD):FM:=fun δ=>(f δ).bind fun d=>if imm d then some (d,δ)else none
noncomputable def Nd(i:Nat):FM:=fun δ=>match δ[i]? with
 |some (some (.seq ds))=>some (.seq ds,δ)
 |some (some d)=>if imm d then some (d,δ)else some (d,δ.set i none)
 |_=>none
def jf(i:Nat):FM:=fun δ=>match δ[i]? with
 |some (some d)=>some (sh d,δ.set i (some (sh d)))
 |_=>none
noncomputable def ak:FMA:=fun δ=>some ([],δ)
noncomputable def ae(f:FM)(g:FMA):FMA:=fun δ=>(f δ).bind fun p=>(g p.2).bind fun q=>some (p.1::q.1,q.2)
noncomputable def cI(g:FMA):FM:=fun δ=>(g δ).bind fun p=>some (.lst p.1,p.2)
noncomputable def bY(g:FMA):FM:=fun δ=>(g δ).bind fun p=>some (.tup p.1,p.2)
section
variable {g:FMA} {pos:Pos}
def K3(h:PD X e f):PV X e (vI f):=BL h fun{σ H Q F δ As d δ'} R q k=>by
 unfold vI at q;obtain⟨l,j,q⟩:=Za.mp q;split at q
 . rename_i hi;cases q;exact⟨δ,d,R.toS,j,fun v H' s r=>k v F H' [] As (.pure s) (R.grow s) (.imm hi r)⟩
 . cases q
def DK (i:Nat) (r:NmX X i x:=by kernel_rfl):PV X (.Name x pos) (jf i) :=
 BL (jP r) fun {σ H Q F δ As d δ'} R q k=>by
  unfold jf at q;split at q
  . rename_i s h;cases q;obtain ⟨v,h1,h2⟩:=R.val i _ h;have hi:=(ZL.mp h).1;have l:=nr (A:=As i) R.fz;have p:Same (frz F H (As i)) H:=uU;have z:=h2.freeze l nu fun a vs m e=>qb e m
    have z2:=RepO.of_sh p z;rw[mR s]at z2;have t:=(R.drop i).froz l p (fun j a m=>by
     by_cases f:j=i
     . subst f;rw[aD]at m;cases m
     . rw[aG f]at m;obtain⟨⟨vs,e⟩,n⟩:=R.dom m;exact gE e n (R.dj j i a f m))
    have R2:=t.set i (by rw[List.length_set];exact hi) z2 Zy fun _ _ _ _ z=>nomatch z
    have o:σ.set i (some v)=σ:=by
     refine List.ext_getElem? fun j=>?_
     rw[List.getElem?_set];split
     . rename_i f;subst f;rw[h1,if_pos (by rw[R.len];exact hi)]
     . rfl
    rw[o,List.set_set]at R2;refine⟨v,h1,k v _ H [] _ ⟨l,Same.refl H,fun a vs e n h=>gE e n (h i),fun j a m=>?_,fun _ m=>(nomatch m),Zy,fun _ _ _ z=>(nomatch z)⟩ R2 z2⟩
    by_cases f:j=i
    . subst f;rw[aD]at m;cases m
    . rw[aG f,aG f]at m;exact .inl ⟨j,m⟩
  . cases q
end
variable {fm:FM}
def ItF(K:ZA)(J:It)(F:Hp)(ds:List D):Prop:=∀i H2,Same F H2 ->
 (i<ds.length->J.go i H2/\∀x H',J.yld i H2 x H'->H'=H2/\∃d,ds[i]?=some d/\Rep K F x d)/\(ds.length<=i->J.stop i H2)
theorem E1{F}{a}(j:SqL K F a vs)(r:Reps K F vs ds):ItF K (Itl K a) F ds:=by
 intro i H2 s;have f:=s.seq j;have l:=r.length;refine⟨fun hi=>⟨⟨vs,vs[i],f,by simp[show i<vs.length by lia]⟩,fun x H' y=>?_⟩,fun hi=>⟨vs,f,by lia⟩⟩
 obtain⟨e,y⟩:=y;subst e;obtain⟨d,h1,h2⟩:=r.getV (y vs f);exact⟨rfl,d,h1,h2⟩
def itf_range{F}{lo}:ItF K (Itr lo n) F ((List.range n).map fun(i:Nat)=>D.int (lo+(i:Int)*1)):=by
 intro i H2 s;refine⟨fun hi=>?_,fun hi=>(show n<=i by simpa using hi)⟩
 have f:i<n:=by simpa using hi
 refine⟨f,fun x H' y=>?_⟩
 obtain⟨e,y⟩:=y;subst e y;refine⟨rfl,.int (lo+(i:Int)*1),?_,by rw[Int.mul_one];exact .int _⟩
 rw[ZK,List.getElem?_range f];rfl
section
variable {F:Hp}
def RepO.lst_inv{v}{d}(r:RepO K F H v d A)(e:d=.lst ds):∃a vs f,v=.ref a/\A=a::f/\H a=some (.lst vs)/\F a=none/\RepOs K F H vs ds f:=by
 cases r with
 |imm i=>rw[e,Dl.imm]at i;cases i
 |lst h n r=>cases e;exact⟨_,_,_,rfl,rfl,h,n,r⟩
 |_=>cases e
def RepA.lst{i}{ds:Yg D}(R:RepA K F H σ δ As)(h:δ[i]?=some (some (.lst ds))):∃a vs f,σ[i]?=some (some (.ref a))/\As i=a::f/\H a=some (.lst vs)/\F a=none/\RepOs K F H vs ds f:=by obtain⟨v,h1,h2⟩:=R.val i _ h;obtain⟨a,vs,f,rfl,e,m,l,j⟩:=h2.lst_inv rfl;exact⟨a,vs,f,h1,e,m,l,j⟩
def Da{a}{o}(s:Same F H)(n:F a=none):Same F (upd H a o):=fun b u e=>by
 have:b≠a:=fun z=>by rw[z,n]at e;cases e
 rw[aI this];exact s b u e
end
def shO(δ:DS):DS:=δ.map (Option.map sh)
def RepS.toA(R:RepS K H σ δ):RepA K H H σ (shO δ) (fun _=>[]):=by
 refine⟨Same.refl H,by unfold shO;rw[Zl];exact R.len,fun i d q=>?_,fun _ _=>rfl,fun _=>Zy,fun _ _ _ _ m=>nomatch m⟩
 unfold shO at q;rw[ZK]at q;obtain⟨o,h1,h2⟩:=Zb.mp q;cases o with
 |none=>cases h2
 |some l =>cases h2;obtain⟨v,j,f⟩:=R.val i l h1;exact⟨v,j,RepO.of_sh (Same.refl H) f⟩
def pd{a}(s:Same H H')(h:H' a=none):H a=none:=by
 cases q:H a with
 |none=>rfl
 |some u=>rw[s a u q]at h;cases h
section
variable {F:Hp}
def RepOs.of_imm{vs:Yg V}{ds:Yg D}(r:Reps K H vs ds):iK ds=true->RepOs K F H vs ds []:=by
 induction r using Reps.ind with
 |nil=>exact fun _=>.nil
 |cons r _ f =>intro i;rw[iK,ZN]at i;exact .cons (.imm i.1 r) (f i.2) rfl
def oF{p}{Q:VK}(R:RepA K F H σ δ As)(s:Same H H1)(r:Reps K H1 vs ds)(i:iK ds=true)(j:H1 p=none)
 (k:∀v F' H' A Q2,Ev F H As F' H' Q2 A->RepA K F' H' σ δ Q2->RepO K F' H' v (.lst ds) A->Q v H'):Q (.ref p) (upd H1 p (.lst vs)):=by
 have sn:=a8 j (.lst vs);have f:=pd s j;refine k _ F _ [p] As (.fresh (s.trans sn) (fun a m=>?_) (Z1.mpr ⟨fun z=>(nomatch z),Zy⟩) (fun i a m=>(R.dom m).1)) (R.grow (s.trans sn)) (.lst aL (pd R.fz f) (RepOs.of_imm (r.mono sn) i))
 rw[Zq.mp m];exact f
end
def me(d:D)(δ:DS):Option (D×DS):=match d with
 |.lst ds=>if iK ds then some (.lst ds,δ)else none
 |_=>none
def md{d d'}{δ':DS}(h:me d δ=some (d',δ')):∃ds,d=.lst ds/\d'=.lst ds/\δ'=δ/\iK ds=true:=by
 unfold me at h;split at h
 . rename_i ds;split at h
   . rename_i hi;cases h;exact⟨ds,rfl,rfl,rfl,hi⟩
   . cases h
 . cases h
def vSl(f:FD)(lo hi:FO):FM:=fun δ=>(fSl f lo hi δ).bind fun d=>me d δ
noncomputable def uT:List D->Option D
 |[.lst ds]=>some (.lst ds)
 |[.seq ds]=>some (.lst ds)
 |[.tup ds]=>some (.lst ds)
 |_=>none
def jg(g:FA):FM:=fun δ=>(g δ).bind fun ds=>(uT ds).bind fun d=>me d δ
section
variable {g:FA} {pos:Pos}
def DJ(he:PD X e f)(I:POD X lo fl)(D:POD X hi fh):PV X (.Subscript e (.Slice lo hi none p2) pos) (vSl f fl fh):=BL (mY yV he I D) fun{σ H Q F δ As d δ'} z q k=>by
 unfold vSl at q;obtain⟨O,j,q⟩:=Za.mp q;obtain⟨ds,rfl,rfl,rfl,hi⟩:=md q;unfold fSl at j;obtain⟨x,ex,j⟩:=Za.mp j;obtain⟨es,m,j⟩:=Za.mp j;obtain⟨l,J,j⟩:=Za.mp j;obtain⟨h,L,j⟩:=Za.mp j;cases j;have R:=z.toS;refine⟨_,x,R,ex,fun v H1 t C=>⟨_,l,R.mono t,J,fun H2 s=>⟨_,h,(R.mono t).mono s,L,fun u y=>?_⟩⟩⟩
 have B:=(C.mono s).mono y;have fin:∀a(vs:Yg V),SqL X.K u a vs->Reps X.K u vs es->KG X.K (.ref a) l h u Q:=fun a vs G o =>⟨a,vs,rfl,G,fun p r=>oF z ((t.trans s).trans y) (wN o l h) hi r k⟩
 cases B with
 |@lst p vs es r o=>cases m;exact fin p vs (SqL.of r) o
 |@seq p vs es r o=>cases m;exact fin p vs r o
 |_=>cases m
def A8 (B:Gl X "list") (z:X.mg "list" = none) (y:bootBuiltins "list" = some (.type "list")) (C:PAD X [e] g) (he:starEach [e] X.env=(false,eval e X.env)::starEach [] X.env:=by rfl) (hpl:(backTo pos (starEach [] X.env)).any (·.1)=false:=by rfl) :
 PV X (.Call (.Name "list" p) [e] [] pos) (jg g):=BL (kR vb B z y C (by decide) (by decide) he hpl) fun {σ H Q F δ As d δ'} s q k=>by
 unfold jg at q;obtain⟨xs,x,q⟩:=Za.mp q;obtain⟨D,f,q⟩:=Za.mp q;obtain⟨ds,rfl,rfl,rfl,hi⟩:=md q;refine⟨_,xs,s.toS,x,fun vs H1 t u l=>?_⟩
 unfold uT at f;split at f
 . cases f;obtain ⟨v,rfl,j⟩:=dL u;cases j with
   |@lst p vs _ o m=>exact⟨p,vs,rfl,.inl (SqL.of o),fun l r=>oF s t m hi r k⟩
 . cases f;obtain ⟨v,rfl,j⟩:=dL u;cases j with
   |@seq p vs _ o m=>exact⟨p,vs,rfl,.inl o,fun l r=>oF s t m hi r k⟩
 . cases f;obtain ⟨v,rfl,j⟩:=dL u;cases j with
   |@tup p vs _ o m=>exact⟨p,vs,rfl,.inr o,fun l r=>oF s t m hi r k⟩
 . cases f
end
noncomputable def eqL(f:D->D->Option Bool):List D->List D->Option Bool
 |[],[]=>some true
 |[],_::_=>some false
 |_::_,[]=>some false
 |a::as,b::bs=>(f a b).bind fun x=>(eqL f as bs).bind fun y=>some (x&&y)
def eq0(a b:D):Option Bool:=if dM a&&dM b then some (eqF a b)else none
noncomputable def nn:D->Option Bool
 |.non=>some false
 |_=>none
noncomputable def eqN:Nat->D->D->Option Bool
 |0,a,b=>eq0 a b
 |n+1,a,b=>match kd a,kd b with
  |none,none=>eq0 a b
  |some p,some q=>if p.1=q.1 then eqL (eqN n) p.2 q.2 else none
  |none,some _=>nn a
  |some _,none=>nn b
theorem zX{f}:∀{as bs}{c},eqL f as bs=some c->∀(j:Nat) a b,as[j]?=some a->bs[j]?=some b->∃x,f a b=some x
 |[],_,_,_,_,_,_,h,_=>by simp at h
 |_::_,[],_,_,_,_,_,_,h=>by simp at h
 |a::as,b::bs,c,h,j,x,y,h1,h2=>by
  obtain⟨u,m,h⟩:=Za.mp (h);obtain⟨v,l,h⟩:=Za.mp h;cases j with
  |zero=>simp at h1 h2;subst h1 h2;exact⟨u,m⟩
  |succ j=>exact zX l j x y (by simpa using h1) (by simpa using h2)
theorem zY{f}:∀{as bs}{c}{e},eqL f as bs=some c->(∀j a b x,as[j]?=some a->bs[j]?=some b->f a b=some x->e j=x)->((List.range (min as.length bs.length)).all e&&as.length==bs.length)=c
 |[],[],c,e,h,_=>by cases h;rfl
 |[],_::_,c,e,h,_=>by cases h;simp
 |_::_,[],c,e,h,_=>by cases h;simp
 |a::as,b::bs,c,e,h,he=>by
  obtain⟨u,s,h⟩:=Za.mp (h);obtain⟨v,r,h⟩:=Za.mp h;cases h;have l:=zY r fun j x y z h1 h2 p=>he (j+1) x y z (by simpa using h1) (by simpa using h2) p
  have q:=he 0 a b u rfl rfl s;show((List.range (min (as.length+1) (bs.length+1))).all e&&(as.length+1)==(bs.length+1))=(u&&v);have o:min (as.length+1) (bs.length+1)=min as.length bs.length+1:=by lia
  have m:((as.length+1)==(bs.length+1))=(as.length==bs.length):=by rw[Bool.eq_iff_iff];simp
  rw[<- l,<- q,o,List.range_succ_eq_map,List.all_cons,List.all_map,Bool.and_assoc,m];rfl
def Aa{A}{b}{k}(h:SeqAt.RcAt A s .none (.ref b) k):SeqAt.EqAt A s .none (.ref b) k:=fun prog w E Q f=>by
 unfold eqBool;refine wpAny_holding (wpAny_ite_split (fun z=>nomatch (eq_of_beq z:Value.none=Value.ref b)) fun _=>?_)
 have z:=h prog w E (fun a s'=>wpAny (model prog w) A (truthOfDropped a) Q E s') (wpAny_truthy_bool f)
 exact Z2 z
def zZ{A}{b}{k}(h:SeqAt.RcAt A s (.ref b) .none k):SeqAt.EqAt A s (.ref b) .none k:=fun prog w E Q f=>by
 unfold eqBool;refine wpAny_holding (wpAny_ite_split (fun z=>nomatch (eq_of_beq z:Value.ref b=Value.none)) fun _=>?_)
 have z:=h prog w E (fun a s'=>wpAny (model prog w) A (truthOfDropped a) Q E s') (wpAny_truthy_bool f)
 exact Z2 z
section
def Rep.nn{v}{d}{c}(r:Rep K H v d)(e:nn d=some c):v=.non/\d=.non/\c=false:=by cases r<;>cases e;exact⟨rfl,rfl,rfl⟩
def JO{v}{a b}{c}(j:Rep K H v a)(l:Rep K H v b)(h:eq0 a b=some c):c=true:=by
 unfold eq0 at h;split at h
 . rename_i f;cases h;rw[ZN]at f;rw[<- uX (j.flat f.1).2 (l.flat f.2).2];cases j<;>first|rfl|(simp[eqV];done)|exact absurd f.1 ZB
 . cases h
def AR (I:L2.Inv X Q0 σ H s) (n):∀ {v} {a b} {c},Rep X.K H v a->Rep X.K H v b->eqN n a b=some c->c=true:=by
 induction n with
 |zero=>exact JO
 | succ n J =>
  intro v a b c m l h;unfold eqN at h;split at h
  . exact JO m l h
  . rename_i p q j f;split at h
    . rename_i e;obtain ⟨t,as⟩:=p;obtain ⟨t',bs⟩:=q;cases (show t=t' from e)
      clear e;obtain⟨x,vs,rfl,r,B⟩:=m.kd j;obtain⟨y,ws,e,o,z⟩:=l.kd f;cases e;have e:vs=ws:=by cases t;exact I.list_inj r o;exact I.tuple_inj r o
      subst e;clear j f r o m l;change eqL (eqN n) as bs=some c at h
      induction vs generalizing as bs c with
      |nil=>cases B;cases z;cases h;rfl
      | cons v vs G =>
       cases B with
       |cons p1 D =>
        cases z with
        |cons p2 C =>obtain⟨u,j,h⟩:=Za.mp h;obtain⟨w,f,h⟩:=Za.mp h;cases h;rw[J p1 p2 j,G _ _ D C f];rfl
    . cases h
  . rename_i _ f;obtain⟨rfl,_⟩:=m.nn h;obtain⟨_,_,e,_⟩:=l.kd f;cases e
  . rename_i j _;obtain⟨rfl,_⟩:=l.nn h;obtain⟨_,_,e,_⟩:=m.kd j;cases e
def Fv{A}{x y}{u v}{a b}{c}(o:RelV x u)(m:RelV y v)(l:Rep K H x a)(j:Rep K H y b)(h:eq0 a b=some c):SeqAt.RcAt A s u v c/\SeqAt.RcNeAt A s u v (!c)/\SeqAt.EqAt A s u v c:=by
 unfold eq0 at h;split at h
 . rename_i f;cases h;rw[ZN]at f;have z:=Hb (A:=A) (s:=s) o m l j f.1 f.2;refine⟨z.1,z.2,?_⟩;rw[<- uX (l.flat f.1).2 (j.flat f.2).2];exact Fu o m (l.flat f.1).1 (j.flat f.2).1
 . cases h
def Fo{A}{vs ws}{us zs}{as bs}{c}(Q:∀{x y}{u v}{a b:D}{c},RelV x u->RelV y v->Rep K H x a->Rep K H y b->eqN n a b=some c->SeqAt.EqAt A s u v c)(r:Vals vs us)(q:Vals ws zs)(z:Reps K H vs as)(t:Reps K H ws bs)(h:eqL (eqN n) as bs=some c) :
 ∃e,(∀j(h1:j<us.toArray.size)(h2:j<zs.toArray.size),SeqAt.EqAt A s us.toArray[j] zs.toArray[j] (e j))/\((List.range (min us.toArray.size zs.toArray.size)).all e&&us.toArray.size==zs.toArray.size)=c:=by
 have m:=r.length;have l:=q.length;refine⟨fun j=>((as[j]?).bind fun a=>(bs[j]?).bind fun b=>eqN n a b).getD true,fun j h1 h2=>?_,?_⟩
 . rw [ZF] at h1 h2;obtain ⟨J,p,p1⟩:=r.get (i:=j) (x:=vs[j]) (by simp [m,h1])
   obtain⟨C,o,p2⟩:=q.get (i:=j) (x:=ws[j]) (by simp[l,h2])
   obtain⟨U,f,O⟩:=z.getV (i:=j) (v:=vs[j]) (by simp[m,h1])
   obtain⟨S,B,L⟩:=t.getV (i:=j) (v:=ws[j]) (by simp[l,h2])
   have I:us.toArray[j]=J:=by simpa[h1]using p
   have G:zs.toArray[j]=C:=by simpa[h2]using o
   obtain⟨V,ex⟩:=zX h j U S f B;dsimp only;rw[I,G,f,B,Zc,Zc,ex];exact Q p1 p2 O L ex
 . rw[ZF,ZF,<- m,<- l,z.length,t.length];exact zY h fun j a b x p o f=>by rw[p,o,Zc,Zc,f];rfl
theorem Fs (I:L2.Inv X Q0 σ H s) (n):∀ A,A.units+n < cLine->∀ {x y} {u v} {a b} {c},RelV x u->RelV y v->Rep X.K H x a->Rep X.K H y b->eqN n a b=some c->SeqAt.RcAt A s u v c/\SeqAt.RcNeAt A s u v (!c)/\SeqAt.EqAt A s u v c:=by
 induction n with
 |zero=>exact fun A _=>Fv
 | succ n Z =>
  intro A hu x y u v a b c O L C B h;have f:A.units<cLine:=by lia
  have h0:=h;unfold eqN at h;split at h
  . exact Fv O L C B h
  . rename_i p q S Q;split at h
    . rename_i e;obtain ⟨t,as⟩:=p;obtain ⟨t',bs⟩:=q;cases (show t=t' from e)
      obtain⟨p,vs,rfl,U,Y⟩:=C.kd S;obtain⟨q,ws,rfl,m,V⟩:=B.kd Q;cases(show u=.ref p from O)
      cases(show v=.ref q from L)
      have z:SeqAt.RcAt A s (.ref p) (.ref q) c/\SeqAt.RcNeAt A s (.ref p) (.ref q) (!c):=by
       have it {us zs:Yg Yb} (l:Vals vs us) (D:Vals ws zs):=Fo (A:=A.in1) (fun a b c d e=>(Z A.in1 (by show A.units+1+n<cLine;lia) a b c d e).2.2) l D Y V h
       cases t with
       |true =>obtain⟨Q1,l,j,_⟩:=I.tuple U;obtain⟨G,D,o,_⟩:=I.tuple m;obtain⟨e,he,rfl⟩:=it l D;exact⟨SeqAt.RcAt.tuples j o f he,SeqAt.RcNeAt.tuples j o f he⟩
       |false =>
        obtain⟨Q1,l,j,_⟩:=I.list U;obtain⟨G,D,o,_⟩:=I.list m;obtain⟨e,he,rfl⟩:=it l D
        by_cases r:Q1.toArray.size=G.toArray.size
        . have z1:=SeqAt.RcAt.lists j.isList o.isList r f he;have z2:=SeqAt.RcNeAt.lists j.isList o.isList r f he;rw[<- r,Nat.min_self,Zz,Bool.and_true];exact⟨z1,z2⟩
        . rw[beq_false_of_ne r,Bool.and_false];exact⟨SeqAt.RcAt.lists_lengths j.isList o.isList (bne_iff_ne.mpr r) f,SeqAt.RcNeAt.lists_lengths j.isList o.isList (bne_iff_ne.mpr r) f⟩
      refine⟨z.1,z.2,?_⟩
      by_cases J:p=q
      . subst J;rw[AR I (n+1) C B h0];exact SeqAt.EqAt.same _
      . exact SeqAt.EqAt.of_refs J z.1
    . cases h
  . rename_i p _ Q;obtain ⟨t,bs⟩:=p;obtain ⟨rfl,rfl,rfl⟩:=C.nn h;obtain ⟨q,ws,rfl,m,_⟩:=B.kd Q;cases (show u=.none from O)
    cases(show v=.ref q from L)
    cases t with
    |true =>obtain⟨Q1,l,j,_⟩:=I.tuple m;exact⟨SeqAt.RcAt.none_tuple j f,SeqAt.RcNeAt.none_tuple j f,Aa (SeqAt.RcAt.none_tuple j f)⟩
    |false =>obtain⟨Q1,l,j,_⟩:=I.list m;exact⟨SeqAt.RcAt.none_list j.isList f,SeqAt.RcNeAt.none_list j.isList f,Aa (SeqAt.RcAt.none_list j.isList f)⟩
  . rename_i p S _;obtain ⟨t,bs⟩:=p;obtain ⟨rfl,rfl,rfl⟩:=B.nn h;obtain ⟨q,ws,rfl,m,_⟩:=C.kd S;cases (show u=.ref q from O)
    cases(show v=.none from L)
    cases t with
    |true =>obtain⟨Q1,l,j,_⟩:=I.tuple m;exact⟨SeqAt.RcAt.tuple_none j f,SeqAt.RcNeAt.tuple_none j f,zZ (SeqAt.RcAt.tuple_none j f)⟩
    |false =>obtain⟨Q1,l,j,_⟩:=I.list m;exact⟨SeqAt.RcAt.list_none j.isList f,SeqAt.RcNeAt.list_none j.isList f,zZ (SeqAt.RcAt.list_none j.isList f)⟩
end
def bC(a b:D):Option D:=(eqN 6 a b).map D.bl
def eE(a b:D):Option D:=(eqN 6 a b).map fun c=>D.bl (!c)
def ND(K:ZA):R2:=fun x y H Q=>∃a b c,Rep K H x a/\Rep K H y b/\eqN 6 a b=some c/\Q (.bl c) H
def Ny(K:ZA):R2:=fun x y H Q=>∃a b c,Rep K H x a/\Rep K H y b/\eqN 6 a b=some c/\Q (.bl (!c)) H
section
variable {pos:Pos}
theorem uI(l:X.A.units+64<cLine):OpR X (compareOp .Eq) (ND X.K):=by intro Q0 s σ H x y v u Q I j f ⟨a,b,c,ra,rb,e,q⟩;exact(Fs I 6 X.A (by lia) j f ra rb e).1 X.prog X.w _ _ ⟨.bl c,H,I,rfl,q⟩
theorem Ez(l:X.A.units+64<cLine):OpR X (compareOp .NotEq) (Ny X.K):=by intro Q0 s σ H x y v u Q I j f ⟨a,b,c,ra,rb,e,q⟩;exact(Fs I 6 X.A (by lia) j f ra rb e).2.1 X.prog X.w _ _ ⟨.bl (!c),H,I,rfl,q⟩
def uz:R2D K (ND K) bC:=by intro x y H Q a b d j f e k;unfold bC at e;obtain⟨c,l,e⟩:=Zb.mp e;cases e;exact⟨a,b,c,j,f,l,k _ H (Same.refl H) (.bl _)⟩
def Dp:R2D K (Ny K) eE:=by intro x y H Q a b d j f e k;unfold eE at e;obtain⟨c,l,e⟩:=Zb.mp e;cases e;exact⟨a,b,c,j,f,l,k _ H (Same.refl H) (.bl _)⟩
def LW(f:X.A.units+64<cLine)(l:PD X a fa)(j:PD X b fb):PD X (.Compare a [.Eq] [b] pos) (f2 bC fa fb):=jq (uI f) uz l j (eS _)
def LJ(f:X.A.units+64<cLine)(l:PD X a fa)(j:PD X b fb):PD X (.Compare a [.NotEq] [b] pos) (f2 eE fa fb):=jq (Ez f) Dp l j (eS _)
def HE(f:X.A.units+64<cLine)(l:PD X a fa)(j:PD X b fb):PTD X (.Compare a [.Eq] [b] pos) (fT (f2 bC fa fb)):=gD (uI f) uz l j (eS _)
def HC(f:X.A.units+64<cLine)(l:PD X a fa)(j:PD X b fb):PTD X (.Compare a [.NotEq] [b] pos) (fT (f2 eE fa fb)):=gD (Ez f) Dp l j (eS _)
end
section
open PySem.SeqAt
open PySem.AutoSeq1 (wpAny_loadPart')
open PySem.MeetsSeq PySem.MeetsSeq2 PySem.MeetsSeq3
end
def tL:D->Option Bool
 |.lst _=>some true
 |.seq _=>some true
 |.ty _=>none
 |.cls _=>none
 |.ob _ _ _=>none
 |.oo _ _ _=>none
 |.any=>none
 |.tin=>none
 |.dv _=>none
 |_=>some false
theorem EF (d) (b) (h:tL d=some b):sj "list" d b:=by
 cases d<;>(first|cases h)<;>first
  |exact⟨_,rfl,fun K=>uL _ K⟩
  |exact⟨_,rfl,fun K=>by kernel_rfl⟩
def pvi(i) {pos} (f:NmX X i x:=by kernel_rfl):PE X (.Name x pos) (GT i):=jP f
def oa:List Nat->TGs
 |[]=>Oo
 |i::is=>J9 (tQ i) (oa is)
noncomputable def Kw:List Nat->List D->DS->DS
 |i::is,d::ds,δ=>Kw is ds (δ.set i (some d))
 |_,_,δ=>δ
noncomputable def E7(is:List Nat)(n:Nat):Bool:=is.all fun i=>decide (i<n)
def vR{F:Hp}{vs:Yg V}(r:Reps K H vs ds)(i:iK ds=true):RepOs K F H vs ds []:=RepOs.of_imm r i
def RepO.parts{F}(r:RepO K F H v (.tup ds) A):∃a vs,v=.ref a/\SqT K H a vs/\RepOs K F H vs ds A:=by
 cases r with
 |imm i h =>
  cases h with
  |tup h r=>exact⟨_,_,rfl,h,vR r (by rw[Dl.imm]at i;exact i)⟩
 |tup h r=>exact⟨_,_,rfl,h,r⟩
def RepOs.len{F:Hp}{vs:Yg V}(r:RepOs K F H vs ds A):vs.length=ds.length:=r.length
def pgN(i) {pos} (l:X.N.Nodup) (hi:X.N[i]?=some x:=by kernel_rfl) (f:Loc X.env.scope x:=by exact loX (by kernel_rfl)) (j:FoX X x:=by exact foX (by kernel_rfl)):PG X (.Name x pos) (tQ i):=Ic l hi f j
def IW (f:∀ y∈scope.names,y.2 ≠ .cell) (h:(relabel scope X.env).names.lookup y=some .cell \/ (relabel scope X.env).names.lookup y=some .free):∃ p∈scope.names,p.2=.free/\p.1=y:=by
 have l:∀ k,(k=NameKind.cell \/ k=NameKind.free)->(relabel scope X.env).names.lookup y=some k->∃ p∈scope.names,p.2=.free/\p.1=y:=fun k hk h=>by
  have m:=PySem.mem_of_lookup h;unfold relabel at m;obtain⟨⟨n,k'⟩,o,j⟩:=Zr.mp m;dsimp only at j;refine⟨_,o,?_,?_⟩
  . split at j
    . rename_i q;rw[ZN,ZN]at q;exact beq_iff_eq.mp q.1.1
    . have e:=Z8 Prod.snd j;rcases hk with z1 | z1
      . exact absurd (e.trans z1) (f _ o)
      . exact e.trans z1
  . split at j<;>exact Z8 Prod.fst j
 rcases h with h|h
 . exact l _ (.inl rfl) h
 . exact l _ (.inr rfl) h
def Kk(i j:Int):Prop:=(Bd i/\Bd j)\/L2.CMul i j
instance(i j:Int):Decidable (Kk i j):=by unfold Kk L2.CMul;exact inferInstance
noncomputable def zK:D->Option (List D)
 |.tup ds=>some ds
 |.lst ds=>some ds
 |.seq ds=>some ds
 |_=>none
def gIn(a b:D):Option D:=(zK b).bind fun ds=>if dM a&&ds.all dM then some (.bl (ds.any fun y=>eqF y a))else none
def oj{a}{x}(m:toV a=some x){vs:Yg V}{ds:Yg D}(r:Reps K H vs ds):ds.all dM=true->vs.all lQ=true/\inV x vs=ds.any fun y=>eqF y a:=by
 induction r using Reps.ind with
 |nil=>exact fun _=>⟨rfl,rfl⟩
 |cons r _ l =>
  intro f;rw[List.all_cons,ZN]at f;obtain⟨h1,h2⟩:=r.flat f.1;obtain⟨o,j⟩:=l f.2;refine⟨by rw[List.all_cons,h1,o];rfl,?_⟩
  unfold inV at j ⊢;rw[List.any_cons,List.any_cons,j,uX h2 m]
def Ds:R2D K (rIn K false) gIn:=by
 intro x y H Q a b d s r e k;unfold gIn at e;obtain⟨ds,m,e⟩:=Za.mp e;split at e
 . rename_i l;rw [ZN] at l;cases e;obtain ⟨q,o⟩:=s.flat l.1;cases r with
   |@tup p vs _ j f =>cases m;obtain⟨h1,h2⟩:=oj o f l.2;refine⟨p,vs,rfl,.inr j,q,h1,?_⟩;rw[h2];exact k _ H (Same.refl H) (.bl _)
   |@lst p vs _ j f =>cases m;obtain⟨h1,h2⟩:=oj o f l.2;refine⟨p,vs,rfl,.inl (SqL.of j),q,h1,?_⟩;rw[h2];exact k _ H (Same.refl H) (.bl _)
   |@seq p vs _ j f =>cases m;obtain⟨h1,h2⟩:=oj o f l.2;refine⟨p,vs,rfl,.inl j,q,h1,?_⟩;rw[h2];exact k _ H (Same.refl H) (.bl _)
   |_=>cases m
 . cases e
def NY{pos}(l:PD X a fa)(j:PD X b fb)(f:behindInMarks .In b=false:=by with_unfolding_all rfl):PD X (.Compare a [.In] [b] pos) (f2 gIn fa fb):=jq tu Ds l j f
def K6{pos}(l:PD X a fa)(j:PD X b fb)(f:behindInMarks .In b=false:=by with_unfolding_all rfl):PTD X (.Compare a [.In] [b] pos) (fT (f2 gIn fa fb)):=gD tu Ds l j f
def lf:List D->Option (List Bool)
 |[]=>some []
 |d::ds=>(asB d).bind fun b=>(lf ds).bind fun bs=>some (b::bs)
noncomputable def pR:List D->Option (List D)
 |[.lst ds]=>some ds
 |[.seq ds]=>some ds
 |_=>none
def nq(as:List D):Option D:=(pR as).bind fun ds=>(lf ds).bind fun bs=>some (.bl (bs.all id))
def Ps(as:List D):Option D:=(pR as).bind fun ds=>(lf ds).bind fun bs=>some (.bl (bs.any id))
def xy{vs}{ds}{bs}(r:Reps K H vs ds):lf ds=some bs->vs=bs.map V.bl:=by
 induction r using Reps.ind generalizing bs with
 |nil=>intro h;cases h;rfl
 |cons r _ f =>intro h;obtain⟨b,j,h⟩:=Za.mp h;obtain⟨cs,h1,h⟩:=Za.mp h;cases h;rw[(r.asB j).1,f h1];rfl
theorem ql:∀{bs}{us},Vals (bs.map V.bl) us->LSm.BoolsAre us bs
 |[],_,.nil=>.nil
 |b::bs,u::us,.cons r t=>by have e:=r;subst e;exact .cons b (ql t)
def Gk (t:X.calm=true):CallR X (.builtin "all") (fun xs H Q=>∃ p ys,∃ bs:Yg Bool,xs=[.ref p]/\SqL X.K H p ys/\ys=bs.map V.bl/\Q (.bl (bs.all id)) H):=by
 intro Q0 s σ H xs us Q I r h;obtain⟨p,ys,bs,rfl,o,rfl,q⟩:=h;obtain⟨u,rfl,m⟩:=iR r;cases m;obtain⟨Q1,r',pl,y⟩:=I.list o;have j:=ql r';have f:p<s.heap.objs.size:=by obtain⟨_,e,_⟩:=pl.isList;exact ZT e
 refine call_all_walk (wpAny_pyIter_list pl.isList ?_);refine⟨s.heap.objs.size,[s.heap.objs.size,p],[s.heap.objs.size],Q1.toArray.size,_,_,fun i=>(bs[i]?).getD true,rfl,Walks.list (A:=X.A.in1) (I.ok.hd t) _ p (ZI f) Q1.toArray,
  ⟨⟨_,ZW _ rfl,rfl,rfl⟩,pl.isList.push _⟩,fun i v s' Q' z x l=>?_,fun h' tk hk=>?_⟩
 . obtain ⟨b,e,rfl⟩:=j.get i v (by simpa using x)
   simp only[e,Option.getD_some]at l;exact wpAny_truthy_bool l
 . have e:((List.range Q1.toArray.size).all fun i=>(bs[i]?).getD true)=bs.all id:=by
    rw[ZF,j.length];exact LSm.range_all bs
   rw[e];exact⟨.bl _,H,I.kept (LSm.kept_iter hk),rfl,q⟩
def r8{xs}{as}(r:Reps K H xs as)(e:pR as=some ds):∃p ys,xs=[.ref p]/\SqL K H p ys/\Reps K H ys ds:=by
 unfold pR at e;split at e
 . cases e;obtain ⟨x,rfl,f⟩:=dL r;cases f with
   |@lst p vs _ l j=>exact⟨p,vs,rfl,SqL.of l,j⟩
 . cases e;obtain ⟨x,rfl,f⟩:=dL r;cases f with
   |@seq p vs _ l j=>exact⟨p,vs,rfl,l,j⟩
 . cases e
def MN:CallD K (fun xs H Q=>∃p ys,∃bs:Yg Bool,xs=[.ref p]/\SqL K H p ys/\ys=bs.map V.bl/\Q (.bl (bs.all id)) H) nq:=by intro xs H Q as d r e k;unfold nq at e;obtain⟨ds,l,e⟩:=Za.mp e;obtain⟨bs,j,e⟩:=Za.mp e;cases e;obtain⟨p,ys,h1,h2,f⟩:=r8 r l;exact⟨p,ys,bs,h1,h2,xy f j,k _ H (Same.refl H) (.bl _)⟩
def Cq:bootBuiltins "all" = some (.builtin "all"):=by decide +kernel
def JW(K:ZA):R2:=fun x y H Q=>∃l b xs zs,x=.ref l/\y=.ref b/\SqL K H l xs/\SqL K H b zs/\xs.length+zs.length<=sizeLine/\∀p,H p=none->Q (.ref p) (upd H p (.lst (xs++zs)))
theorem zw:OpR X (binaryOp .Add) (JW X.K):=by
 intro Q0 s σ H x y v u Q I G D h;obtain⟨l,b,xs,zs,rfl,rfl,h1,h2,Y,q⟩:=h;cases G;cases D;obtain⟨vs,j,p1,_⟩:=I.list h1;obtain⟨ws,f,p2,_⟩:=I.list h2;obtain⟨⟨V,O,a1,C⟩,n1,o,z,_,r⟩:=p1;obtain⟨⟨U,L,a2,B⟩,n2,m,t,_,p⟩:=p2;simp only at z r t p;subst z r t p;have Z:=j.length;have J:=f.length;have S:vs.toArray++ws.toArray=(vs++ws).toArray:=by simp
 refine concat_meets ⟨_,o,rfl⟩ ⟨_,m,rfl⟩ noFill_list_add seq_list_add PySem.F.slot_list_add
  PySem.F.entry_list_add (PySem.F.args_list_add_2 _ _)
  (list_addW l b vs.toArray ws.toArray n1 n2 O L C B (by rw[ZF,ZF];lia)) ⟨o,m,?_⟩
 rw[S];exact⟨.ref _,_,I.lnew (j.append f) (by rw[Zk];lia),rfl,q _ I.fresh⟩
def gA(a b:D):Option D:=(asL a).bind fun xs=>(asL b).bind fun ys=>if xs.length+ys.length<=1000 then some (.lst (xs++ys))else none
def qo(fa fb:FD):FM:=fun δ=>(f2 gA fa fb δ).bind fun d=>me d δ
def qf{d}{xs}(r:Rep K H v d)(e:asL d=some xs):∃p vs,v=.ref p/\SqL K H p vs/\Reps K H vs xs:=by
 cases r with
 |@lst p vs es j f=>cases e;exact⟨p,vs,rfl,SqL.of j,f⟩
 |@seq p vs es j f=>cases e;exact⟨p,vs,rfl,j,f⟩
 |_=>cases e
def Hc:R2D K (JW K) gA:=by
 intro x y H Q a b d m j e k;unfold gA at e;obtain⟨xs,u,e⟩:=Za.mp e;obtain⟨ys,t,e⟩:=Za.mp e;split at e
 . rename_i o;cases e;obtain ⟨p,vs,rfl,h1,h2⟩:=qf m u;obtain ⟨q,ws,rfl,s,f⟩:=qf j t;refine ⟨p,q,vs,ws,rfl,rfl,h1,s,by rw [h2.length,f.length];exact eT o,fun l r=>?_⟩
   have sn:=a8 r (.lst (vs++ws));exact k _ _ sn (.lst aL ((h2.append f).mono sn))
 . cases e
def Ip{pos}(j:PD X a fa)(f:PD X b fb):PD X (.BinOp a .Add b pos) (f2 gA fa fb):=qK zw Hc j f
def Hu{pos:Pos}(C:PD X a fa)(B:PD X b fb):PV X (.BinOp a .Add b pos) (qo fa fb):=BL (zm zw C B) fun{σ H Q F δ As d δ'} j q k=>by
 unfold qo at q;obtain⟨L,f,q⟩:=Za.mp q;obtain⟨ds,rfl,rfl,rfl,hi⟩:=md q;unfold f2 at f;obtain⟨x,ex,f⟩:=Za.mp f;obtain⟨y,G,f⟩:=Za.mp f;refine⟨_,x,j.toS,ex,fun v H1 o t=>⟨_,y,j.toS.mono o,G,fun w H2 m s=>?_⟩⟩
 unfold gA at f;obtain⟨xs,J,f⟩:=Za.mp f;obtain⟨ys,I,f⟩:=Za.mp f;split at f
 . rename_i u;cases f;obtain⟨p,vs,rfl,h1,h2⟩:=qf (t.mono m) J;obtain⟨q,ws,rfl,D,r⟩:=qf s I;exact⟨p,q,vs,ws,rfl,rfl,h1,D,by rw[h2.length,r.length];exact eT u,fun l z=>oF j (o.trans m) (h2.append r) hi z k⟩
 . cases f
structure CompG(X:Cx)(scope:Scope)(cl:List (Str×Addr))(T N:List Str)(js:List Nat):Prop where
 clos:closureFor scope X.env=pure cl
 nocell:∀y∈scope.names,y.2≠.cell
 kind:scope.kind=.function
 names:∀y∈scope.names,y.2=.local->scope.names.lookup y.1=some .local
 nd:N.Nodup
 len:N.length=T.length+js.length
 clx:∀y,T.contains y=true->cl.lookup y=none
 cls:∀y c,cl.lookup y=some c->X.env.cells.lookup y=some c
 has:∀y,((relabel scope X.env).names.lookup y=some .cell\/(relabel scope X.env).names.lookup y=some .free)->∃c,cl.lookup y=some c
 fr:∀i y j,N[T.length+i]?=some y->js[i]?=some j->X.N[j]?=some y/\X.env.scope.names.lookup y=some .cell/\(relabel scope X.env).names.lookup y=some .cell/\∀c,X.env.cells.lookup y=some c->cl.lookup y=some c
noncomputable abbrev aY(X:Cx)(scope:Scope)(cl:List (Str×Addr))(T N:List Str)(C:Addr)(s₂:Shared)(H₂:Hp)(fp:List Addr)(pn:List (Addr×Obj)):Cx :=
 { X with env:=compEnvC scope cl C X.env,N:=N,s₀:=s₂,H₀:=H₂,outer:=X.stack,stack:=X.stack,ex:=fp,fn:=fun y=>T.contains y,calm:=true,pn:=pn,xe:=fun _ _=>False }
theorem mf:∀{cl:Yg (Str×Yd)},y∈cl.map (·.1)->∃c,cl.lookup y=some c
 |[],h=>by cases h
 | (z,c) :: cl,h=>by
  by_cases f:y=z
  . subst f;exact⟨c,by simp⟩
  . have q:=beq_eq_false_iff_ne.mpr f;rw [List.lookup_cons,q];refine mf ?_;rcases Zt.mp h with e | e
    . exact absurd e f
    . exact e
def CompG.of{Z Y}(clos:closureFor scope X.env=pure cl:=by rfl)(s:cl.map (·.1)=Y:=by rfl)(nocell:∀y∈scope.names,y.2≠.cell:=by decide +kernel)(kind:scope.kind=.function:=by rfl)
 (names:∀y∈scope.names,y.2=.local->scope.names.lookup y.1=some .local:=by decide +kernel) (nd:(T++Z).Nodup:=by decide +kernel) (len:Z.length=js.length:=by rfl) (t:∀y∈T,y∉Y:=by decide +kernel)
 (o:∀p∈cl,X.env.cells.lookup p.1=some p.2) (r:∀p∈scope.names,p.2=.free->p.1∈Y:=by decide +kernel) (v:∀y∈Z,y∈Y:=by decide +kernel)
 (x:∀(i:Nat) y j,Z[i]?=some y->js[i]?=some j->X.N[j]?=some y/\X.env.scope.names.lookup y=some .cell/\(relabel scope X.env).names.lookup y=some .cell):CompG X scope cl T (T++Z) js where
 clos:=clos
 nocell:=nocell
 kind:=kind
 names:=names
 nd:=nd
 len:=by rw[Zk,len]
 clx:=fun y u=>by
  cases q:cl.lookup y with
  |none=>rfl
  |some c =>
   have m:y∈Y:=by rw[<- s];exact Zr.mpr ⟨_,PySem.mem_of_lookup q,rfl⟩
   exact absurd m (t y (List.contains_iff_mem.mp u))
 cls:=fun y c h=>o _ (PySem.mem_of_lookup h)
 has:=fun y h=>by obtain⟨p,m,f,rfl⟩:=IW nocell h;exact mf (by rw[s];exact r p m f)
 fr:=fun i y j h1 h2=>by
  rw[List.getElem?_append_right (Nat.le_add_right _ _),Nat.add_sub_cancel_left]at h1;obtain⟨a,b,c⟩:=x i y j h1 h2;refine⟨a,b,c,fun e he=>?_⟩
  obtain⟨z,l⟩:=mf (by rw[s];exact v y (List.mem_of_getElem? h1))
  have:=o _ (PySem.mem_of_lookup l);rw[he]at this;cases this;exact l
def si(X:Cx)(X5:List Expr)(f:FT):Prop:=∀(Q0:List (Addr×Obj))(s:Shared)(σ:L2.St)(H:Hp)(Q:Bool->Hp->Prop),L2.Inv X Q0 σ H s->upT X.K f σ H Q ->
 wpAny (model X.prog X.w) X.A (forIn X5 true fun c r=>if r=true then do let ok <- isTrue c X.env (eval c X.env);pure (ForInStep.yield ok)else pure (ForInStep.yield r)) (TP X Q0 σ Q) X.xe s
def HZ:si X [] (fun _=>some true):=fun Q0 s σ H Q I ⟨δ,b,R,e,k⟩=>by cases e;exact wpAny_tests_nil ⟨H,I,k H (Same.refl H)⟩
def HY{f}(h:PTD X c f):si X [c] f:=fun Q0 s σ H Q I q=>wpAny_tests_one (h Q0 s σ H Q I q)
theorem bindF {α β:Type} {M:Model} {A:Around} {m:Sem α} {f:α->Sem β} {Q:α->Shared->Prop} {R:β->Shared->Prop} {E:Value->Shared->Prop} {s:Shared} (h:wpAny M A m Q (fun _ _=>False) s) (k:∀ a s',Q a s'->wpAny M A (f a) R E s'):wpAny M A (m>>=f) R E s:=wpAny_bind (wpAny_mono h k fun _ _=>False.elim)
def rS{A}{target}{pos}{it acc}{env}(J:Nat->Yc->Prop)
 (q:∀ n s,J n s->wpAny (model prog w) A (pyNext it) (fun r f=>match r with
  |none=>R (.ok .next) f
  |some v=>wpAny (model prog w) A (letOwnedTupleGo target it v) (fun _ s₂=>wpAny (model prog w) A (assign target env v) (fun _ o =>
   wpAny (model prog w) A (forIn X5 true fun c r=>if r=true then do let ok <- isTrue c env (eval c env);pure (ForInStep.yield ok)else pure (ForInStep.yield r)) (fun ok D =>
   if ok=true then wpAny (model prog w) A (eval X7 env) (fun y l =>
   wpAny (model prog w) A (call (.builtin "list.append") [acc,y]) (fun _ j=>∃m,m<n/\J m j) (fun _ _=>False) l) (fun _ _=>False) D else ∃m,m<n/\J m D) (fun _ _=>False) o) (fun _ _=>False) s₂) (fun _ _=>False) f) (fun _ _=>False) s)
 (n) (h:J n s):codeAny (model prog w) A (.compLoop (.ListComp X7 [⟨target,iter,X5,0⟩] scope pos) 0 it acc env) R s:=by
 refine codeAny_loop rfl J (fun n s j=>wpAny_noted (m:=compTurn (.ListComp X7 [⟨target,iter,X5,0⟩] scope pos) 0 it acc env) (compTurn_list X7 target iter X5 scope pos it acc env▸wpAny_bind (wpAny_standAt (bindF (q n s j) fun r _ q=>?_)))) n h
 cases r with
 | none=>exact wpAny_pure q
 | some v=>
  exact bindF q fun _ _ q=>bindF q fun _ _ q=>bindF q fun b _ q=>by
   cases b with
   | false=>exact wpAny_pure ⟨rfl,q⟩
   | true=>exact wpAny_bind (bindF q fun _ _ q=>bindF q fun _ _ q=>wpAny_pure (wpAny_pure ⟨rfl,q⟩))
section
def yw(I:L2.Inv X Q0 σ H₂ s₂)(l:X.calm=true)(O:CompG X scope cl T N js)(m:s₂.heap.objs.size<=C)(j:∀b∈fp,nZ X Q0 H₂ b)(p:∀b∈fp,∃o,s₂.heap.get? b=some o):(aY X scope cl T N C s₂ H₂ fp (X.pn++Q0)).Ok where
 mod:=I.ok.mod
 kind:=O.kind
 glob:=I.ok.glob
 blt:=I.ok.blt
 above:=m
 inj:=fun y z c h1 h2=>I.ok.inj y z c (O.cls y c h1) (O.cls z c h2)
 has:=fun y h=>O.has y h
 cab:=fun y c h1 h2=>by have:cl.lookup y=some c:=h2;rw[O.clx y h1]at this;cases this
 hd:=fun _=>I.ok.hd l
 frames:=I.ok.frames
 stk:=.inl rfl
 exf:=fun b f=>by
  obtain⟨o,e⟩:=p b f;refine⟨ZI (ZC (ZT e) m),fun y c h z=>?_⟩
  exact(j b f).2.2.2.2.1 y c (O.cls y c h) z
 bs:=I.bs
 bsz:=ZY I.ok.bsz I.sz
 noex:=fun b o e f=>by
  rcases (j b f).2.2.2.1 with z|z
  . exact I.ok.noex b o e z
  . exact absurd (ZC (ZT e) (ZY I.ok.bsz z)) (ZJ _)
 exfs:=fun b f z=>by
  rcases Zt.mp (I.stkSub b z)with e|e
  . exact(j b f).2.1 e
  . exact(j b f).2.2.1 e
 funs:=I.stack
 frf:=I.stkFree
theorem wP{h₁}{m}{tk}(I:L2.Inv X Q0 σ H₂ s₂)(B:X.calm=true)(O:CompG X scope cl T N js)(G:s₂.heap.objs.size<=C)(Z:∀b∈fp,nZ X Q0 H₂ b)(U:∀b∈fp,∃o,s₂.heap.get? b=some o)
 (old:∀b o,s₂.heap.get? b=some o->h₁.get? b=some o) (s:h₁.Ns C m) (hl:σ.length=X.N.length):L2.Inv (aY X scope cl T N C s₂ H₂ fp (X.pn++Q0)) [] (List.replicate T.length none++fK js σ) H₂ { s₂ with heap:=h₁,toks:=tk } where
 ok:=yw I B O G Z U
 os:=rfl
 bare:=I.bare
 base:=Un.kept old
 loc:=by
  refine⟨m,s,fun i y v h1 h2 J=>?_⟩
  by_cases hi:i<T.length
  . rw [List.getElem?_append_left (by simpa using hi),List.getElem?_replicate,if_pos hi] at h2
    cases h2
  . obtain ⟨i,rfl⟩:∃ k,i=T.length+k:=⟨i - T.length,by lia⟩
    have f:(fK js σ)[i]?=some (some v):=by
     rw[List.getElem?_append_right (by simp)]at h2
     simpa using h2
    unfold fK at f;rw[ZK]at f;obtain⟨j,Y,l⟩:=Zb.mp f;have H:σ[j]?=some (some v):=by
     cases q:σ[j]? with
     |none=>rw[q]at l;cases l
     |some o=>rw[q]at l;exact Z8 some l
    obtain⟨f1,f2,f3,f4⟩:=O.fr i y j h1 Y;obtain⟨m',V,t⟩:=I.loc;obtain⟨u,L,lk⟩:=t j y v f1 H (.inr (.inl f2));refine⟨u,L,?_⟩;rcases lk with⟨Q,_⟩|⟨_,c,hc,o,x,D⟩
    . have:X.env.scope.names.lookup y=some .local:=Q;rw[f2]at this;cases this
    . exact .inr ⟨.inl f3,c,f4 c hc,o,old c o x,D⟩
 cell:=fun y c e=>by obtain⟨v,o,h1,h2⟩:=I.cell y c (O.cls y c e);exact⟨v,o,old c o h1,h2⟩
 free:=I.hok.fresh G
 freeC:=fun y c e=>I.freeC y c (O.cls y c e)
 pin:=fun p S=>by
  have r:p∈X.pn++Q0:=by simpa using S
  obtain⟨h1,h2,J,l,H⟩:=I.pin p r;refine⟨old _ _ h1,h2,ZI (ZC (ZT h1) G),fun z=>?_,H⟩
  rcases Zt.mp (I.stkSub p.1 z)with e|e
  . exact J e
  . exact l e
 hok:=I.hok.kept old
 len:=by rw[O.len];simp[fK]
end
section
def JK(I:L2.Inv X Q0 σ H s)(k:∀b o,b∉ch->s.heap.get? b=some o->h'.get? b=some o)(j:∀b∈ch,nZ X Q0 H b):L2.Inv X Q0 σ H { s with heap:=h',toks:=t' }:=by
 have l:∀b u,H b=some u->b∉ch:=fun b u e m=>by rw[(j b m).1]at e;cases e
 refine I.step (fun b p=>⟨(j b p).2.2.2.1,(j b p).2.1,(j b p).2.2.2.2.1,(j b p).2.2.2.2.2⟩) (fun b o _ _ f e _=>k b o f e) (fun b o _ _ f e _=>⟨o.slots,k b o f e⟩) (fun _ _ _ _ n=>n)
  (fun b o f e=>⟨o,k b o f e⟩) (fun _ _ e=>e) (fun _ _ _ e=>e) (fun b ps e=>⟨#[],by rw[e];simp⟩) (fun m x=>?_) (fun b u e=>?_) I.bare
 . obtain⟨o,es,ep,t,r⟩:=x;exact⟨o,es,ep,k _ o (fun m=>(j _ m).2.1 rfl) t,r⟩
 . refine (I.hok b u e).stay (fun c v f q=>k c v ?_ q) (fun _ q=>q) fun _ _ q=>q
   rcases f with z|z
   . rw[z];exact l b u e
   . exact l c _ z
def JJ{a}{xs}(I:L2.Inv X Q0 σ H s)(k:∀b o,b∉ch->s.heap.get? b=some o->h'.get? b=some o)(l:∀b∈ch,nZ X Q0 H b)(y:s.heap.objs.size<=a)(x:ObjOk X.prog X.w (upd H a (.tup xs)) h' a (.tup xs)):L2.Inv X Q0 σ (upd H a (.tup xs)) { s with heap:=h',toks:=t' }:=by
 have fa:=I.hok.fresh y;have p:∀b u,H b=some u->b∉ch:=fun b u e m=>by rw[(l b m).1]at e;cases e
 have t:∀b u,H b=some u->b≠a:=fun b u e z=>by rw[z,fa]at e;cases e
 refine I.step (fun b j=>⟨(l b j).2.2.2.1,(l b j).2.1,(l b j).2.2.2.2.1,(l b j).2.2.2.2.2⟩) (fun b o _ _ f e _=>k b o f e) (fun b o _ _ f e _=>⟨o.slots,k b o f e⟩) (fun b o _ e n=>?_)
  (fun b o f e=>⟨o,k b o f e⟩) (fun b _ e=>by rw[aI (t b _ e)];exact e) (fun b _ _ e=>by rw[aI (t b _ e)];exact e) (fun b ps e=>⟨#[],by rw[aI (t b _ e),e];simp⟩) (fun m C=>?_) (fun b u e=>?_) I.bare
 . rw[aI (ZI (ZC (ZT e) y))];exact n
 . obtain⟨o,es,ep,B,r⟩:=C;exact⟨o,es,ep,k _ o (fun m=>(l _ m).2.1 rfl) B,r⟩
 . by_cases j:b=a
   . subst j;rw[aL]at e;cases e;exact x
   . rw [aI j] at e;refine (I.hok b u e).stay (fun c v f q=>k c v ?_ q) (fun c q=>by rw [aI (t c _ q)];exact q) fun c ys q=>by rw [aI (t c _ q)];exact q
     rcases f with z|z
     . rw[z];exact p b u e
     . exact p c _ z
end
def Itz(K:ZA)(a b:Addr):It :=
 ⟨fun i H=>∃ xs ys x y,SqL K H a xs/\SqL K H b ys/\xs[i]? = some x/\ys[i]? = some y,fun i H v H'=>∃ p x y,v=.ref p/\H p=none/\H'=upd H p (.tup [x,y])/\(∀ xs,SqL K H a xs->xs[i]? = some x)/\∀ ys,SqL K H b ys->ys[i]? = some y,
  fun i H=>∃xs ys,SqL K H a xs/\SqL K H b ys/\(xs.length<=i\/ys.length<=i)⟩
def OS(z TI TO i1 i2 l1 l2:Addr)(i:Nat)(h:Heap):Prop:=IsZip h z TI TO .none/\IsPair h TI (.ref i1) (.ref i2)/\(∃a b,IsPair h TO a b)/\h.IsListIter i1 l1 i/\h.IsListIter i2 l2 i
theorem CL{pt}{z TI TO i1 i2 O L}(D:ZipApart z TI TO i1 i2 O L):w9 P w K (.Tuple es kt pt) (Itz K O L) [z,TI,TO,i1,i2] z (OS z TI TO i1 i2 O L) where
 mem:=by simp
 obj:=fun i h st b f=>by
  obtain⟨B,j,⟨a,S,l⟩,⟨o1,e1,_,d1⟩,⟨o2,e2,_,d2⟩⟩:=st;simp only[Zt,ZH,or_false]at f;rcases f with rfl|rfl|rfl|rfl|rfl
  . exact⟨_,B,fun v q=>by cases q⟩
  . exact⟨_,j,fun v q=>by cases q⟩
  . exact⟨_,l,fun v q=>by cases q⟩
  . exact⟨_,e1,fun v q=>by rw[d1]at q;cases q⟩
  . exact⟨_,e2,fun v q=>by rw[d2]at q;cases q⟩
 keep:=fun i h h' st k=>by obtain⟨B,j,⟨a,S,l⟩,h1,h2⟩:=st;exact⟨k z (by simp) _ B,k TI (by simp) _ j,⟨a,S,k TO (by simp) _ l⟩,h1.at fun o e=>k i1 (by simp) o e,h2.at fun o e=>k i2 (by simp) o e⟩
 item:=by
  intro X hP hw hK hc i Q0 s σ H E I Q st hg;subst hP hw hK;obtain⟨xs,ys,x,y,r,m,hx,hy⟩:=hg;obtain⟨B,j,⟨a,S,l⟩,h1,h2⟩:=st;obtain⟨Q1,Y,p,_⟩:=I.list r;obtain⟨jts,C,Z,_⟩:=I.list m;obtain⟨u,hu,ru⟩:=Y.get hx;obtain⟨v,hv,V⟩:=C.get hy;refine wpAny_pyNext_zip_item D B j l h1 h2 p.isList Z.isList (by simpa using hu) (by simpa using hv) fun h' hz' J h1' h2' hT hsz hk=>?_
  have fT:=I.hok.fresh (ZM _);refine⟨_,rfl,wpAny_letOwnedTupleGo_zip hz' fun t G sb=>?_⟩
  have lt:∀b∈[z,TI,TO,i1,i2],b<s.heap.objs.size:=fun b f=>by
   obtain⟨o1,e1,_⟩:=h1;obtain⟨o2,e2,_⟩:=h2;simp only[Zt,ZH,or_false]at f;rcases f with rfl|rfl|rfl|rfl|rfl
   . exact ZT B
   . exact ZT j
   . exact ZT l
   . exact ZT e1
   . exact ZT e2
  have U:s.heap.objs.size≠z:=Nat.ne_of_gt (lt z (by simp))
  have up:∀b o,b≠z->h'.get? b=some o->t.get? b=some o:=fun b o f e=>(sb.2 b f).trans e
  have kk:∀b o,b∉[z,TI,TO,i1,i2]->s.heap.get? b=some o->t.get? b=some o:=fun b o f e=>by simp only[Zt,ZH,or_false,not_or]at f;exact up b o f.1 (hk b o f.1 f.2.2.1 f.2.2.2.1 f.2.2.2.2 e)
  have hT2:t.get? s.heap.objs.size=some { cls:=.type "tuple",data:=.seq #[u,v] }:=up _ _ U hT;refine⟨.ref s.heap.objs.size,upd H s.heap.objs.size (.tup [x,y]),JJ (s:=s) (h':=t) (t':=s.toks) I kk Q (ZM _) ⟨by show 2<=sizeLine;decide,[u,v],.cons ru (.cons V .nil),⟨_,hT2,rfl,_,rfl⟩⟩,rfl,⟨_,x,y,rfl,fT,rfl,fun zs q=>by rw[I.list_inj q r];exact hx,fun zs q=>by rw[I.list_inj q m];exact hy⟩,⟨G,?_,⟨u,v,up _ _ D.TOz J⟩,h1'.at fun o e=>up _ o D.i1z e,h2'.at fun o e=>up _ o D.i2z e⟩,fun b f=>?_⟩
  . exact up _ _ D.TIz (hk TI _ D.TIz D.TITO D.TIi1 D.TIi2 j)
  . rw[aI (ZI (lt b f))];exact(Q b f).1
 done:=by
  intro X hP hw hK hc i Q0 s σ H E I Q st hg;subst hP hw hK;obtain⟨xs,ys,r,m,hl⟩:=hg;obtain⟨B,j,⟨a,S,l⟩,h1,h2⟩:=st;obtain⟨Q1,Y,p,_⟩:=I.list r;obtain⟨jts,C,Z,_⟩:=I.list m;have O:=Y.length;have L:=C.length;refine wpAny_pyNext_zip_end (I.ok.hd hc) D B j l h1 h2 p.isList Z.isList (by
   rcases hl with h|h
   . exact .inl (by simp;lia)
   . exact .inr (by simp;lia)) fun h' hk=>⟨rfl,JK (t':=s.toks) I (fun b o f e=>?_) Q⟩
  simp only[Zt,ZH,or_false,not_or]at f;exact hk b o f.1 f.2.2.1 f.2.2.2.1 f.2.2.2.2 e
 self:=fun _ _ _ _ _ st h=>wpAny_pyIter_zip st.1 h
def Pp(K:ZA)(ta:TA):TI:=fun σ H R=>ta σ H fun vs H1=>∃a b,vs=[.ref a,.ref b]/\(∃xs,SqL K H1 a xs)/\(∃ys,SqL K H1 b ys)/\R (Itz K a b) H1
theorem Eg {pt} {ta} {pos} (V:Gl X "zip") (U:X.mg "zip" = none) (Y:PA X [a,b] ta) (S:starEach [a,b] X.env=[(false,eval a X.env),(false,eval b X.env)]:=by rfl) (f:starEach [b] X.env=[(false,eval b X.env)]:=by rfl) :
 PI X (.Tuple es kt pt) (.Call (.Name "zip" p) [a,b] [] pos) (Pp X.K ta):=by
 intro Q0 s σ H R I h;refine Call_ (mh I V U PyProof.Rows.boot_zip (PyProof.Rows.callWith_type1 (qq (Y pos Q0 s σ H _ I h) fun{us m vs H1} l D G=>?_) (by rw[S,f]) (by rw[f];rfl)))
 obtain⟨L,J,e,⟨xs,u⟩,⟨ys,t⟩,q⟩:=G;subst e;cases D with
 | cons r o =>
  cases o with
  |cons r' o =>
   cases o;cases r;cases r';obtain⟨Q1,rv,p,_⟩:=l.list u;obtain⟨O,C,y,_⟩:=l.list t;have a1:L<m.heap.objs.size:=by obtain⟨_,e,_⟩:=p.isList;exact ZT e
   have Z:J<m.heap.objs.size:=by obtain⟨_,e,_⟩:=y.isList;exact ZT e
   refine call_zip_2 p.isList y.isList fun h' z x v h1 h2 Q hk=>?_
   refine wpAny_pyIter_zip z ?_;refine⟨_,_,_,_,H1,rfl,l.kept hk,CL (PyProof.Rows.zipApart_new a1 Z),⟨z,x,⟨_,_,v⟩,h1,h2⟩,fun b B=>?_,q⟩
   have j:m.heap.objs.size<=b:=by simp only[Zt,ZH,or_false]at B;rcases B with rfl|rfl|rfl|rfl|rfl<;>lia
   exact l.fpOk j (l.hok.fresh j)
def vw{d}(r:Rep K H v d)(e:asL d=some ds):∃a vs,v=.ref a/\SqL K H a vs/\Reps K H vs ds:=by
 cases r with
 |@lst p vs es j f=>cases e;exact⟨p,vs,rfl,SqL.of j,f⟩
 |@seq p vs es j f=>cases e;exact⟨p,vs,rfl,j,f⟩
 |_=>cases e
noncomputable def wS(H:Hp)(A:List Addr):Hp:=fun a=>if a∈A then none else H a
def Jt:Same (wS H A) H:=fun a u e=>by
 unfold wS at e;split at e
 . cases e
 . exact e
def wR{a}(m:a∈A):wS H A a=none:=if_pos m
def vj{a}(m:a∉A):wS H A a=H a:=if_neg m
noncomputable def asN:D->Option Int
 |.int i=>some i
 |_=>none
def vv{d}{i}(h:asN d=some i):d=.int i:=by cases d<;>first|(cases h;rfl)|cases h
def q9:List D->Option (List Int)
 |[]=>some []
 |d::ds=>(oI d).bind fun i=>(q9 ds).map (i::·)
def ww{vs}{ds}{ns}(r:Reps K H vs ds):q9 ds=some ns->vs=ns.map V.int:=by
 induction r using Reps.ind generalizing ns with
 |nil=>intro e;cases e;rfl
 |cons r _ f =>intro e;obtain⟨i,ei,e⟩:=Za.mp e;obtain⟨ms,j,rfl⟩:=Zb.mp e;rw[(r.oI ei).1,f j];rfl
variable {fd:FuncData}
noncomputable def lk(ks:List Int)(ds:List D)(k:Int):Option D:=((ks.zip ds).find? fun p=>decide (p.1=k)).map (·.2)
noncomputable def fIf(c:FT)(a b:FD):FD:=fun δ=>(c δ).bind fun t=>if t then a δ else b δ
def LS{pos}(l:PTD X c fc)(o:PD X a fa)(m:PD X b fb):PD X (.IfExp c a b pos) (fIf fc fa fb):=gp (qI l o m) fun{σ H Q δ d} R q k=>by
 unfold fIf at q;obtain⟨t,p,q⟩:=Za.mp q;refine⟨δ,t,R,p,fun H' f=>?_⟩
 cases t with
 |true=>rw[if_pos rfl]at q ⊢;exact⟨δ,d,R.mono f,q,fun v H2 j r=>k v H2 (f.trans j) r⟩
 |false=>rw[if_neg ZB]at q ⊢;exact⟨δ,d,R.mono f,q,fun v H2 j r=>k v H2 (f.trans j) r⟩
def Cp:bootBuiltins "max" = some (.builtin "max"):=by decide +kernel
end Dl
namespace Hd
open PySem PySem.Spec PyProof.Rows L2
variable {l:W.OpenLaw} {q:Program} {loose:Yg Str} {XP:(Str->Ye Yb)->Heap->Prop} {YP:World->Heap->Prop} {T:ZA->Prop} {sp:ZA->Sp} {Xt:Yc->Bool} {ann:Ye Yb}
theorem walkE{n k}{d}{x}
 (O:l.most=some n) (y:n<=sizeLine) (C:d.params.defaults=[]) (L:Room k callerA)
 (X:∀w h,YP w h->∃K,K.In h/\T K)
 (F:∀ w K mg fa h,T K->K.In h->h.Ns mainGlobals mg->mg d.name=some (.ref fa) ->
  ∃fd,(∀s u,BindsTo s fd ⟨[u],[]⟩ [(x,u)]) /\
   ∀base,K.In base->base.Ns mainGlobals mg->jc l.prog w K mg base CX0 k fa fd [x] (sp K))
 (t:∀K H a(r:Yg Int),r.length<=n->M6 H->SqL K H a (r.map V.int)->sp K [.ref a] H (fun v _=>v=.bl true) fun _ _ _=>False) :
 W.WalkO q loose XP YP l.row.toRowW d [] (fun f vs=>PySem.call f vs):=by
 refine Att.attach_call O C fun w I D mg mb fa o pm cd X4 a vs r G Y ho hd S B p m j Q=>?_
 obtain⟨K,J,Z⟩:=X w _ Y;obtain⟨fd,U,hF⟩:=F w K mg fa _ Z J G.T.g B;exact EW J G.T.g G.T.b G.T.builtins G.T.nolimit Q p m (ZY j y) L hF U (fun H hO hS=>t K H a r j hO hS) fun H e s' z=>z
end Hd
namespace Sw
open PySem PySem.Spec PyProof.Rows PySem.W
variable {i k j ep:Nat} {prog:Program} {w:World} {A:Around} {s:Yc} {es:Array (Int×Yb)} {ks ms:Yg Nat} {led:Bool} {a I l S:Yd} {t:SetTable} {Q:Yb->Yc->Prop} {o:Obj} {e:Int×Yb} {R:Result->Yc->Prop} {Q3 acc:Array Yb} {p:SetTable.Probe}
def Ri(xs:Array Nat):Prop:=xs.toList.Pairwise (· < ·)
theorem Ri.lt{xs}(h:Ri xs)(f:i<k)(hk:k<xs.size):xs[i]'(Nat.lt_trans f hk)<xs[k]:=by
 have:=List.pairwise_iff_getElem.mp h i k (by simp;lia) (by simpa using hk) f
 simpa using this
theorem Ri.down{xs}(h:Ri xs)(f:i<=k)(hk:xs.getD k j<j):xs.getD i j<j:=by
 by_cases l:k<xs.size
 . have m:=Nat.lt_of_le_of_lt f l;rw [Array.getD_eq_getD_getElem?,Array.getElem?_eq_getElem l] at hk;rw [Array.getD_eq_getD_getElem?,Array.getElem?_eq_getElem m]
   by_cases e:i=k
   . subst e;exact hk
   . exact Nat.lt_trans (h.lt (by lia) l) hk
 . rw [Array.getD_eq_getD_getElem?,Array.getElem?_eq_none (by lia)] at hk
   exact absurd hk (ZJ _)
theorem xY{xs}(mono:∀i k,i<=k->xs.getD k j<j->xs.getD i j<j):∀f lo hi,lo<=hi->hi-lo<=f->(∀i,i<lo->xs.getD i j<j)->(∀i,hi<=i->¬xs.getD i j<j)->(∀i,i<SetTable.below.go xs j f lo hi->xs.getD i j<j)/\∀i,SetTable.below.go xs j f lo hi<=i->¬xs.getD i j<j
 |0,lo,hi,h,g,a,b=>by
  have:lo=hi:=by omega
  subst this;exact⟨a,b⟩
 |f+1,lo,hi,h,g,a,b=>by
  unfold SetTable.below.go;split
  . rename_i l;dsimp only;split
    . rename_i c;exact xY mono f _ _ (by omega) (by omega) (fun i m=>mono i _ (Nat.le_of_lt_succ m) c) b
    . rename_i c;exact xY mono f _ _ (by omega) (by omega) a (fun i m z=>c (mono _ i m z))
  . have:lo=hi:=by omega
    subst this;exact⟨a,b⟩
theorem uf{xs}(h:Ri xs)(j):(∀i,i<SetTable.below xs j->xs.getD i j<j)/\∀i,SetTable.below xs j<=i->¬xs.getD i j<j :=
 xY (fun _ _ a b=>h.down a b) xs.size 0 xs.size (Nat.zero_le _) (by lia) (fun _ z=>absurd z (Nat.not_lt_zero _)) (fun i hi z=>by rw[Array.getD_eq_getD_getElem?,Array.getElem?_eq_none hi]at z;exact absurd z (ZJ _))
theorem yG{xs}(h:Ri xs)(hi:i<xs.size):SetTable.below xs (xs[i]+1)=i+1:=by
 obtain⟨a,b⟩:=uf h (xs[i]+1);rcases Nat.lt_trichotomy (SetTable.below xs (xs[i]+1)) (i+1)with c|c|c
 . have:=b i (by lia)
   rw[Array.getD_eq_getD_getElem?,Array.getElem?_eq_getElem hi]at this;exact absurd (Nat.lt_succ_self _) this
 . exact c
 . have:=a (i+1) c;have l:i+1 < xs.size:=by
    rcases Nat.lt_or_ge (i+1) xs.size with z|z
    . exact z
    . rw[Array.getD_eq_getD_getElem?,Array.getElem?_eq_none z]at this;exact absurd this (ZJ _)
   rw[Array.getD_eq_getD_getElem?,Array.getElem?_eq_getElem l]at this;have q:xs[i]<xs[i+1]:=h.lt (by lia) l
   simp only[Option.getD_some]at this
   lia
def yE{xs}(h:Ri xs):SetTable.below xs 0=0:=by
 rcases Nat.eq_zero_or_pos (SetTable.below xs 0)with c|c
 . exact c
 . exact absurd ((uf h 0).1 0 c) (Nat.not_lt_zero _)
noncomputable def ji:List (List Nat):=[[],[0],[1],[0,1],[2],[0,2],[1,2],[0,1,2],[3],[0,3],[1,3],[0,1,3],[2,3],[0,2,3],[1,2,3],[0,1,2,3],[4],[0,4],[1,4],[0,1,4],[2,4],[0,2,4],[1,2,4],[0,1,2,4],[3,4],[0,3,4],[1,3,4],[0,1,3,4],[2,3,4],[0,2,3,4],[1,2,3,4],[0,1,2,3,4]]
noncomputable def t7(led:Bool)(ks:List Nat):SetTable:={ mask:=7,place:=ks.toArray,dummies:=#[],finger:=0,led:=led,moves:=0,plain:=true }
def tb(led:Bool)(ks:List Nat):SetTable:=if ks.length=5 then{ mask:=31,place:=ks.toArray,dummies:=#[],finger:=0,led:=led,moves:=1,plain:=true } else t7 led ks
noncomputable def pos(ks:List Nat)(k:Nat):Nat:=SetTable.below ks.toArray k
def ins(ks:List Nat)(k:Nat):List Nat:=ks.take (pos ks k)++k::ks.drop (pos ks k)
def ot(ks:List Nat)(k:Nat):List Nat:=if k∈ks then ks else ins ks k
def Fi:∀led∈[true,false],∀ks∈ji,∀k∈[0,1,2,3,4],k∉ks->(tb led ks).freeSlot (k:Int)=some (k,false)/\(tb led ks).put k=(t7 led (ins ks k),pos ks k)/\ins ks k∈ji/\pos ks k<=ks.length:=by decide +kernel
def Pq:∀ks∈ji,∀k∈[0,1,2,3,4],∀j∈[0,1,2,3,4],k∉ks->(j∈ins ks k<->j=k\/j∈ks):=by decide +kernel
def wB:∀led∈[true,false],∀ks∈ji,(tb led ks).fits ks.length=true/\(t7 led ks).fits ks.length=true/\(t7 led ks).tooFull=decide (ks.length=5)/\ks.length<=5/\ks=(List.range 5).filter (fun k=>decide (k∈ks))/\(∀k∈ks,k∈[0,1,2,3,4])/\(ks.length=5->ks=[0,1,2,3,4]):=by decide +kernel
def On:∀led∈[true,false],(t7 led [0,1,2,3,4]).relaid #[0,1,2,3,4] (SetTable.grown 5)=some (tb led [0,1,2,3,4],#[0,1,2,3,4])/\coversAll #[0,1,2,3,4] 5=true/\(tb led [0,1,2,3,4]).fits 5=true:=by decide +kernel
def x6:∀k∈[0,1,2,3,4],hashInt ((k:Nat):Int)=((k:Nat):Int):=by decide +kernel
def jt(led):led∈[true,false]:=by cases led<;>simp
def EsIs:List (Int×Value)->List Nat->Prop
 |[],[]=>True
 |e::es,k::ks=>(∃t,e=((k:Int),.int (k:Int) t))/\EsIs es ks
 |_,_=>False
theorem EsIs.len:∀{es}{ks},EsIs es ks->es.length=ks.length
 |[],[],_=>rfl
 |e::es,k::ks,h=>by rw[Zm,Zm,h.2.len]
 |[],_::_,h=>h.elim
 |_::_,[],h=>h.elim
theorem EsIs.app:∀{es fs}{ks ls},EsIs es ks->EsIs fs ls->EsIs (es++fs) (ks++ls)
 |[],_,[],_,_,g=>g
 |e::es,_,k::ks,_,h,g=>⟨h.1,h.2.app g⟩
 |[],_,_::_,_,h,_=>h.elim
 |_::_,_,[],_,h,_=>h.elim
theorem EsIs.cut:∀p{es}{ks},EsIs es ks->EsIs (es.take p) (ks.take p)/\EsIs (es.drop p) (ks.drop p)
 |0,_,_,h=>⟨trivial,h⟩
 |p+1,[],[],_=>⟨trivial,trivial⟩
 |p+1,e::es,k::ks,h=>⟨⟨h.1,(EsIs.cut p h.2).1⟩,(EsIs.cut p h.2).2⟩
 |_+1,[],_::_,h=>h.elim
 |_+1,_::_,[],h=>h.elim
def EsIs.mem{es:Yg (Int×Yb)}:∀{ks:Yg Nat},EsIs es ks->∀e∈es,∃k∈ks,∃t,e=((k:Int),.int (k:Int) t):=by
 induction es with
 |nil=>exact fun _ _ m=>nomatch m
 | cons e es l =>
  intro ks h x m;cases ks with
  |nil=>exact h.elim
  |cons k ks =>
   rcases Zt.mp m with q|q
   . obtain⟨t,f⟩:=h.1;exact⟨k,Zo,t,q.trans f⟩
   . obtain⟨k',j,t,f⟩:=l h.2 x q;exact⟨k',Zp _ j,t,f⟩
theorem EsIs.has:∀{es}{ks},EsIs es ks->∀k∈ks,∃t,((k:Int),Value.int (k:Int) t)∈es
 |e::es,k::ks,h,x,m=>by
  rcases Zt.mp m with q|q
  . obtain⟨t,f⟩:=h.1;exact⟨t,by rw[q,<- f];exact Zo⟩
  . obtain⟨t,f⟩:=h.2.has x q;exact⟨t,Zp _ f⟩
 |[],_::_,h,_,_=>h.elim
 |_::_,[],h,_,_=>h.elim
theorem EsIs.fst:∀{es}{ks},EsIs es ks->es.map (·.1)=ks.map fun(k:Nat)=>(k:Int)
 |[],[],_=>rfl
 |e::es,k::ks,h=>by obtain⟨t,f⟩:=h.1;rw[Zu,Zu,h.2.fst,f]
 |[],_::_,h=>h.elim
 |_::_,[],h=>h.elim
section
variable {E:Yb->Yc->Prop}
def EsIs.elems{es}(h:EsIs es ks)(g:∀k∈ks,k∈[0,1,2,3,4]):ElemsOf (intKind prog w) es:=fun e m=>by obtain⟨k,f,t,rfl⟩:=h.mem e m;exact⟨⟨(k:Int),intKind_is _ _ _ _,(x6 k (g k f)).symm⟩,rfl⟩
def pq{α:Type}(xs:Array α)(p) (x):(SetTable.insertAt xs p x).toList=xs.toList.take p++x::xs.toList.drop p:=by unfold SetTable.insertAt;simp[List.extract_eq_drop_take,List.take_of_length_le]
def BH(x) (j:ks∈ji) (hk:k∈[0,1,2,3,4]) (n:k∉ks) (l:es.size=ks.length):layNew (tb led ks) es (k:Int) x=(SetTable.insertAt es (pos ks k) ((k:Int),x),t7 led (ins ks k),false,false):=by
 obtain⟨h1,h2,m,o⟩:=Fi led (jt led) ks j k hk n;have sz:(SetTable.insertAt es (pos ks k) ((k:Int),x)).size=(ins ks k).length:=by rw[<- Array.length_toList,pq];unfold ins;rw[Zk,Zk,Zm,Zm,List.length_take,List.length_take,List.length_drop,List.length_drop,Array.length_toList,l]
 have f:=(wB led (jt led) (ins ks k) m).2.1;unfold layNew;rw[h1];dsimp only;rw[h2];rw[sz];unfold SetTable.orStandIn;rw[f];rfl
theorem zL(h:EsIs es.toList ks):(k∈ks->∃j,es.toList.findIdx? (fun e=>(intKind prog w).is (k:Int) e.2)=some j)/\(k∉ks->es.toList.findIdx? (fun e=>(intKind prog w).is (k:Int) e.2)=none):=by
 constructor
 . intro m;obtain ⟨t,l⟩:=h.has k m;cases q:es.toList.findIdx? (fun e=>(intKind prog w).is (k:Int) e.2) with
   |some j=>exact⟨j,rfl⟩
   |none =>have:=List.findIdx?_eq_none_iff.mp q _ l;rw[intKind_is]at this;cases this
 . intro n;refine List.findIdx?_eq_none_iff.mpr fun e m=>?_
   obtain⟨k',f,t,rfl⟩:=h.mem e m;cases q:(intKind prog w).is (k:Int) (Value.int (k':Int) t)with
   |false=>rfl
   |true =>
    have:=(intKind prog w).inj _ _ _ q (intKind_is _ _ _ _);have:k=k':=by lia
    exact absurd (this▸f) n
def vT(h:EsIs es.toList [0,1,2,3,4]):relayAll (t7 led [0,1,2,3,4]) es (SetTable.grown es.size)=(es,tb led [0,1,2,3,4],false):=by
 obtain⟨h1,h2,f⟩:=On led (jt led);have sz:es.size=5:=by rw[<- Array.length_toList];exact h.len
 have j:es.map (·.1) = #[0,1,2,3,4]:=by
  apply Array.toList_inj.mp
  rw[Array.toList_map,h.fst];rfl
 have l:(#[0,1,2,3,4]:Array Nat).filterMap (es[·]?)=es:=by
  obtain⟨xs⟩:=es;have sz:xs.length=5:=sz;rcases xs with _|⟨_,_|⟨_,_|⟨_,_|⟨_,_|⟨_,_|⟨_,_⟩⟩⟩⟩⟩⟩
  all_goals first|rfl|simp at sz
 unfold relayAll;rw[j,sz,h1];dsimp only;rw[l,sz,h2,f];rfl
def SetS(h:Heap)(a:Addr)(led:Bool)(ks:List Nat):Prop:=∃o es ep,h.get? a=some o/\o.ExactSet/\o.data=.set es ep (tb led ks)/\EsIs es.toList ks/\ks∈ji
theorem Ct{t}{Q:Bool->Yc->Prop}(I:SetS s.heap a led ks)(hk:k∈[0,1,2,3,4])
 (q:∀b h',Heap.SameBut a s.heap h'->SetS h' a led (ot ks k)->Q b { s with heap:=h' }):wpAny (model prog w) A (setAddHashed a (.int (k:Int) t) (k:Int)) Q E s:=by
 obtain⟨o,es,ep,B,J,u,r,D⟩:=id I;obtain⟨f1,_,_,f4,f5,Z,_⟩:=wB led (jt led) ks D;have sz:es.size=ks.length:=by rw[<- Array.length_toList];exact r.len
 have L:(tb led ks).fits es.size=true:=by rw[sz];exact f1
 have O:=r.elems (prog:=prog) (w:=w) Z;have Y:(intKind prog w).hash (k:Int)=(k:Int):=x6 k hk;unfold setAddHashed setAddHashedIn;refine wpAny_holding (Z2 (wpAny_setState_of B u L ?_));dsimp only;rw[byScan_of rfl (by rw[sz];show ks.length<4096;lia) O]
 simp only[Z6];unfold setAddByScan;refine Z2 (Z2 (wpAny_rule (Z2 ?_)));have V:∀Q',Q' (match es.toList.findIdx? (fun e=>(intKind prog w).is (k:Int) e.2)with|some j=>.found (0+j)|none=>.absent) s->wpAny (model prog w) A (setScan a (.int (k:Int) t) (k:Int) true es) Q' E s:=fun Q' z=>by have y:=wpAny_setScan_of (prog:=prog) (w:=w) (A:=A) (E:=E) (adding:=true) (knd:=intKind prog w) (k:=(k:Int)) (x:=.int (k:Int) t) (intKind_is _ _ _ _) B u L O z;rw[Y]at y;exact y
 refine V _ ?_
 by_cases m:k∈ks
 . obtain ⟨j,X⟩:=(zL (prog:=prog) (w:=w) (k:=k) r).1 m;rw [X];dsimp only;refine Z3 (Z3 ?_);have e:s={ s with heap:=s.heap }:=by cases s;rfl
   rw[e];refine q false s.heap (Heap.SameBut.refl a s.heap) ?_;unfold ot;rw[if_pos m];exact I
 . rw [(zL (prog:=prog) (w:=w) (k:=k) r).2 m];dsimp only;rw [BH (.int (k:Int) t) D hk m sz];dsimp only;obtain ⟨_,_,v,i4⟩:=Fi led (jt led) ks D k hk m;have l:EsIs (SetTable.insertAt es (pos ks k) ((k:Int),Value.int (k:Int) t)).toList (ins ks k):=by
    rw[pq];exact(r.cut (pos ks k)).1.app ⟨⟨t,rfl⟩,(r.cut (pos ks k)).2⟩
   obtain⟨_,_,U,y4,_,y6,S⟩:=wB led (jt led) (ins ks k) v;have C:(SetTable.insertAt es (pos ks k) ((k:Int),Value.int (k:Int) t)).size=(ins ks k).length:=by rw[<- Array.length_toList];exact l.len
   have f:ot ks k=ins ks k:=by unfold ot;rw[if_neg m]
   generalize SetTable.insertAt es (pos ks k) ((k:Int),Value.int (k:Int) t)=es1 at *
   refine Z2 (Z3 ?_);rw[if_pos (show(t7 led (ins ks k)).plain=true from rfl)]
   refine Z2 (Z3 ?_);simp only[Z6];have H:es1.size<=sizeLine:=by rw[C,sizeLine_eq];lia
   refine Z2 (wpAny_storeSet_of B u ?_ H);have p:(s.heap.update a (Obj.putSet es1 (t7 led (ins ks k)))).get? a=some { o with data:=.set es1 (ep+1) (t7 led (ins ks k)) }:=by
    have z:=Heap.get?_update_self (Obj.putSet es1 (t7 led (ins ks k))) B (by rw[putSet_of es1 _ u];rfl)
    rw[putSet_of es1 _ u]at z;exact z
   rw[U]
   by_cases G:(ins ks k).length=5
   . have e5:=S G;rw [e5] at l f p v ⊢;rw [if_pos (by decide),vT l]
     dsimp only;refine Z2 (Z3 ?_);refine Z2 (wpAny_storeSet_of p rfl ?_ H);have z:=Heap.get?_update_self (Obj.putSet es1 (tb led [0,1,2,3,4])) p (by rw[putSet_of es1 _ rfl];rfl)
     rw[putSet_of es1 _ rfl]at z;exact Z3 (Z3 (q true _ ((Heap.SameBut.update ..).trans (Heap.SameBut.update ..)) ⟨_,es1,ep+1+1,z,J,by rw[f],by rw[f];exact l,by rw[f];exact v⟩))
   . rw [if_neg (by simp [G])]
     refine Z3 (Z3 (q true _ (Heap.SameBut.update ..) ⟨_,es1,ep+1,p,J,?_,?_,?_⟩))
     . unfold tb;rw[f,if_neg G]
     . rw[f];exact l
     . rw[f];exact v
end
noncomputable def ledOf (w:World):Bool:=!(w.params.followText "set-order")
theorem slot_nx:Slot "set_iterator" "__next__" "set_iterator.__next__":=.of (owner:="set_iterator") (n:="__next__") (by rw[typeLookup_type,builtinLookup_eq_fast];kernel_rfl) (by decide +kernel) (by decide +kernel) (by decide +kernel) (by first|exact .inl (by decide +kernel)|exact .inr (by decide +kernel)) (by rw[isSubtype_type];kernel_rfl)
theorem Fy:entryFor table "set_iterator.__next__" = some Builtin.«set_iterator.__next__»:=entryFor_of_fast (by kernel_rfl)
theorem Mw:entryFor table "set.__iter__" = some Builtin.«frozenset.__iter__»:=entryFor_alias (id':="frozenset.__iter__") (by kernel_rfl) rfl (by decide +kernel) (by kernel_rfl)
theorem Gs (a):argsOk "set_iterator.__next__" ⟨[a],[]⟩:=by unfold argsOk;kernel_rfl
theorem Me:typeLookup (.type "set") "__len__" = pure (some (.builtin "set.__len__")):=by rw[typeLookup_type,builtinLookup_eq_fast];kernel_rfl
noncomputable abbrev itO (first:Value) (i:Nat) (a:Addr) (n ep:Nat):Obj:={ cls:=.type "set_iterator",data:=.fields #[first,.int i 0,.ref a,.int n 0,.int ep 0] }
section
variable {E:Yb->Yc->Prop}
def xX {r} {Q:Bool->Yc->Prop} (T:s.TypeIs (.ref r) "set") (q:Q false s):wpAny (model prog w) A (Builtin.List.listLengthHint (.ref r)) Q E s:=by
 unfold Builtin.List.listLengthHint;refine Z2 (wpAny_specialOf T Me ?_);generalize hid:("set.__len__":String)=id0
 wp_delta
 rw[show splitId id0=some ("set","__len__")from by subst hid;decide +kernel];subst hid
 refine Z2 (wpAny_isInstance (b:=true) T (by rw[isSubtype_type];kernel_rfl) ?_);refine wpAny_ite_split (fun z=>absurd z (by decide)) (fun _=>?_);refine wpAny_ite_split (fun _=>?_) (fun z=>absurd (by decide +kernel) z)
 exact Z2 (wpAny_typeOf T (Z3 q))
def v5(led) (ks):(tb led ks).plain=true:=by unfold tb;split<;>rfl
def Mf(led) (ks):(tb led ks).led=led:=by unfold tb;split<;>rfl
def D9(led) (ks):(tb led ks).place=ks.toArray:=by unfold tb;split<;>rfl
def E2(f:s.heap.get? a=some o)(m:o.ExactSet)(j:o.data=.set es ep (tb (ledOf w) ks))(l:(tb (ledOf w) ks).fits es.size=true)(q:Q (.ref s.heap.objs.size) { s with heap:=s.heap.push (itO (.int 0 0) 0 a es.size ep) }):wpAny (model prog w) A (pyIter (.ref a)) Q E s:=by
 have T:s.TypeIs (.ref a) "set":=⟨o,f,m.1⟩;refine wpAny_pyIter_slot T PySem.F.slot_set_iter (wpAny_call_entry PySem.F.slot_set_iter T Mw ?_ (PySem.F.args_set_iter_1 _));unfold Builtin.«frozenset.__iter__»;refine Z2 (Z3 ?_);refine Z2 (Z2 (wpAny_setEntries_of f j l (Z3 ?_)));refine Z2 ?_;unfold setDrawn setsByText;refine Z2 (wpAny_setState_of f j l ?_);refine Z2 (Z2 (wpAny_askSetting (Z3 ?_)));refine Z3 ?_;have p:(!(model prog w).w.params.followText "set-order" && (!(tb (ledOf w) ks).plain&&decide (es.size>1)))=false:=by rw[v5];simp
 refine wpAny_ite_split (fun z=>?_) fun _=>?_
 . exact absurd (p.symm.trans z) (by decide)
 refine Z2 (Z3 ?_);refine Z2 (wpAny_setEpoch_of f j l ?_);refine Z2 (wpAny_newObj_type (Z3 ⟨_,rfl,"set_iterator",_,⟨_,ZW _ rfl,rfl⟩,slot_nx.lookup,?_⟩));exact q
def fL(w:World)(ks:List Nat):Nat->Nat
 |0=>0
 |i+1=>if ledOf w then ks.getD i 0+1 else 0
def ly(w:World)(a:Addr)(ep:Nat)(es:Array (Int×Value)):Array (Int×Value):=if ledOf w then es else pickOrder (w.params.setOrder a ep) es
def JR:∀ks∈ji,Ri ks.toArray:=fun ks m=>by
 have:∀ks∈ji,ks.Pairwise (· < ·):=by decide +kernel
 exact this ks m
def sY(f:ledOf w=true)(i):fL w ks (i+1)=ks.getD i 0+1:=by
 show(if ledOf w=true then ks.getD i 0+1 else 0)=_
 rw[if_pos f]
theorem yF(j:ledOf w=true)(f:ks∈ji)(hi:i<=ks.length):SetTable.below ks.toArray (fL w ks i)=i:=by
 cases i with
 |zero=>exact yE (JR ks f)
 |succ i =>
  have l:i<ks.toArray.size:=by simp only[ZF];lia
  have:=yG (JR ks f) l;rw[sY j,List.getD_eq_getElem?_getD,Zx (by lia)]
  simpa using this
def AC {Q:Array (Int×Yb)->Yc->Prop} (f:w.params.followText "set-order" = true) (l:s.heap.get? a=some o) (j:o.data=.set es ep (tb (ledOf w) ks)) (m:(tb (ledOf w) ks).fits es.size=true) (q:Q (pickOrder (w.params.setOrder a ep) es) s):wpAny (model prog w) A (setWalk a) Q E s:=by
 unfold setWalk;refine Z2 (wpAny_setState_of l j m ?_);refine Z2 ?_;unfold setsByText;refine Z2 (wpAny_askSetting (Z3 ?_));refine wpAny_ite_split (fun _=>?_) (fun z=>absurd f z)
 exact Z2 (wpAny_askSetting (Z3 q))
def qT {Q:Ye (Yb×Nat)->Yc->Prop} (u:s.heap.get? a=some o) (t:o.data=.set es ep (tb (ledOf w) ks)) (v:(tb (ledOf w) ks).fits es.size=true) (x:ks∈ji) (sz:es.size=ks.length) (hi:i<=ks.length)
 (q:Q (((ly w a ep es)[i]?).map fun e=>(e.2,fL w ks (i+1))) s):wpAny (model prog w) A (setNext a (fL w ks i) i ep) Q E s:=by
 unfold setNext;refine Z2 (wpAny_setState_of u t v ?_);refine Z2 ?_;unfold setsByText;refine Z2 (wpAny_askSetting (Z3 ?_));cases f:w.params.followText "set-order" with
 | true =>
  have r:ledOf w=false:=by unfold ledOf;rw[f];rfl
  have p:∀i,fL w ks i=0:=fun i=>by cases i with
   |zero=>rfl
   |succ i=>unfold fL;rw[r];rfl
  refine wpAny_ite_split (fun _=>?_) (fun z=>absurd f z)
  refine wpAny_ite_split (fun z=>absurd z (by simp)) (fun _=>?_)
  refine Z2 (AC f u t v (Z3 ?_));rw[p];unfold ly at q;rw[p,r]at q;exact q
 |false =>
  have m:ledOf w=true:=by unfold ledOf;rw[f];rfl
  refine wpAny_ite_split (fun z=>absurd (f.symm.trans z) (by decide)) (fun _=>?_)
  refine wpAny_ite_split (fun z=>absurd z ?_) (fun _=>?_)
  . show ¬((!(tb (ledOf w) ks).plain&&decide (es.size>1))=true);rw[v5];simp
  refine Z2 (wpAny_ite_split (fun z=>absurd z ?_) (fun _=>Z3 ?_))
  . rw[Mf,m];simp
  refine Z3 ?_;rw[D9,yF m x hi];unfold ly at q;rw[m]at q;simp only[Z6]at q;rw[sY m]at q
  by_cases l:i<ks.length
  . have j:es[i]? = some es[i]:=Array.getElem?_eq_getElem (by omega)
    have y:ks.toArray[i]?=some ks[i]:=by simp[l]
    rw[j,List.getD_eq_getElem?_getD,Zx l]at q;rw[j,y];exact q
  . have j:es[i]? = none:=Array.getElem?_eq_none (by omega)
    rw[j]at q;rw[j];exact q
def HQ{Q:Ye Yb->Yc->Prop}(f:s.heap.get? I=some (itO (.int (fL w ks i) 0) i a es.size ep))(p:s.heap.get? a=some o)(m:o.data=.set es ep (tb (ledOf w) ks))(r:(tb (ledOf w) ks).fits es.size=true)(u:ks∈ji)(sz:es.size=ks.length)(hi:i<ks.length)(t:(ly w a ep es)[i]?=some e)
 (q:∀h',h'.get? I=some (itO (.int (fL w ks (i+1)) 0) (i+1) a es.size ep)->(∀b o,b≠I->s.heap.get? b=some o->h'.get? b=some o)->Q (some e.2) { s with heap:=h' }):wpAny (model prog w) A (pyNext (.ref I)) Q E s:=by
 have T:s.TypeIs (.ref I) "set_iterator":=⟨_,f,rfl⟩;unfold pyNext;refine Z2 (wpAny_attempt (wpAny_callSpecial?_slot T slot_nx (wpAny_call_entry slot_nx T Fy ?_ (Gs _))));unfold Builtin.«set_iterator.__next__»;refine Z2 (Z3 ?_);refine Z2 (wpAny_fieldsOf f rfl ?_);refine Z2 (wpAny_setEntries_of p m r ?_);refine wpAny_ite_split (fun z=>absurd z (by simp)) (fun _=>?_)
 refine Z2 ?_;simp only[Int.toNat_natCast];refine qT p m r u sz (Nat.le_of_lt hi) ?_;rw[t];refine Z2 (wpAny_setField f rfl (by simp) ?_)
 have j:(s.heap.update I (Obj.mapFields (·.setIfInBounds 0 (rawInt ((fL w ks (i+1):Nat):Int))))).get? I=some (itO (.int (fL w ks (i+1)) 0) i a es.size ep):=Heap.get?_update_self _ f rfl;refine Z2 (wpAny_setField j rfl (by simp) ?_)
 refine Z3 ⟨_,rfl,Z3 (q _ (Heap.get?_update_self _ j rfl) fun b o l e=>?_)⟩
 exact(Heap.get?_update_other _ _ (Ne.symm l)).trans ((Heap.get?_update_other _ _ (Ne.symm l)).trans e)
theorem yU:Slot "set_iterator" "__iter__" "set_iterator.__iter__":=.of (owner:="set_iterator") (n:="__iter__") (by rw[typeLookup_type,builtinLookup_eq_fast];kernel_rfl) (by decide +kernel) (by decide +kernel) (by decide +kernel) (by first|exact .inl (by decide +kernel)|exact .inr (by decide +kernel)) (by rw[isSubtype_type];kernel_rfl)
theorem Mv:entryFor table "set_iterator.__iter__" = some Builtin.«dict_keyiterator.__iter__»:=entryFor_alias (id':="dict_keyiterator.__iter__") (by kernel_rfl) rfl (by decide +kernel) (by kernel_rfl)
theorem M2 (a):argsOk "set_iterator.__iter__" ⟨[a],[]⟩:=by unfold argsOk;kernel_rfl
def yc{α:Type}{l:Yg α}(h:i<l.length):([l[i]]++l.eraseIdx i).Perm l:=by
 have e:l.take i++l[i]::l.drop (i+1)=l:=by rw[List.getElem_cons_drop,List.take_append_drop]
 rw[List.eraseIdx_eq_take_drop_succ];exact(List.perm_middle (l₂:=l.drop (i+1))).symm.trans (List.Perm.of_eq e)
theorem zj{α:Type}(next:Nat->Nat):∀f k l(out:Array α),l.length<=f->(pickOrder.go next f k l out).toList.Perm (out.toList++l)
 |0,k,l,out,h=>by
  have:l=[]:=List.eq_nil_of_length_eq_zero (by lia)
  subst this;rw[Zj];exact List.Perm.refl _
 |f+1,k,l,out,h=>by
  unfold pickOrder.go
  by_cases z:l=[]
  . subst z;simp
  . have j:=List.length_pos_iff.mpr z;have lt:next k % l.length < l.length:=Nat.mod_lt _ j;rw [Zx lt];refine (zj next f (k+1) _ _ (by rw [List.length_eraseIdx_of_lt lt];lia)).trans ?_
    rw[Array.toList_push,ZV];exact List.Perm.append_left _ (yc lt)
def Bc{α:Type}(next:Nat->Nat)(xs:Array α):(pickOrder next xs).toList.Perm xs.toList:=by
 have:=zj next xs.size 0 xs.toList #[] (by simp)
 simpa[pickOrder]using this
def qM(w) (a) (ep) (es:Array (Int×Yb)):(ly w a ep es).toList.Perm es.toList:=by
 unfold ly;split
 . exact List.Perm.refl _
 . exact Bc _ _
def qL(w) (a) (ep) (es:Array (Int×Yb)):(ly w a ep es).size=es.size:=by rw[<- Array.length_toList,(qM w a ep es).length_eq,Array.length_toList]
theorem zM:∀{es:Yg (Int×Yb)},(∀e∈es,∃t,e.2=.int e.1 t)->IntsAre (es.map (·.2)) (es.map (·.1))
 |[],_=>.nil
 |e::es,h=>by obtain⟨t,f⟩:=h e Zo;rw[Zu,Zu,f];exact .cons _ t (zM fun x m=>h x (Zp _ m))
def A3:∀ks∈ji,(ks.map fun(k:Nat)=>(k:Int)).Pairwise (· <= ·):=by decide +kernel
end
def putAll(ns:List Nat):List Nat:=ns.foldl ot []
noncomputable def srtN(ns:List Nat):List Nat:=(List.range 5).filter fun k=>decide (k∈ns)
def Hv(f:ks∈ji)(hk:k∈[0,1,2,3,4]):ot ks k∈ji/\∀j∈[0,1,2,3,4],j∈ot ks k<->j=k\/j∈ks:=by
 unfold ot
 by_cases m:k∈ks
 . rw[if_pos m];exact⟨f,fun j _=>⟨.inr,fun h=>h.elim (fun e=>e▸m) id⟩⟩
 . rw[if_neg m];exact⟨(Fi true (by simp) ks f k hk m).2.2.1,fun j l=>Pq ks f k hk j l m⟩
theorem wF:∀(f ks:Yg Nat),ks∈ji->(∀k∈f,k∈[0,1,2,3,4])->f.foldl ot ks∈ji/\∀j∈[0,1,2,3,4],j∈f.foldl ot ks<->j∈f\/j∈ks
 |[],ks,h,_=>⟨h,fun j _=>by simp⟩
 |k::f,ks,h,g=>by
  obtain⟨p1,p2⟩:=Hv h (g k Zo);obtain⟨h1,h2⟩:=wF f (ot ks k) p1 fun x m=>g x (Zp _ m)
  refine⟨h1,fun j l=>?_⟩
  rw[List.foldl_cons,h2 j l,p2 j l,Zt];constructor
  . rintro (a | a | a)
    . exact .inl (.inr a)
    . exact .inl (.inl a)
    . exact .inr a
  . rintro ((a | a) | a)
    . exact .inr (.inl a)
    . exact .inl a
    . exact .inr (.inr a)
theorem putAll_srt{f:Yg Nat}(h:∀k∈f,k∈[0,1,2,3,4]):putAll f=srtN f:=by
 obtain⟨h1,h2⟩:=wF f [] (by decide) h
 have e:=(wB true (by simp) _ h1).2.2.2.2.1
 unfold putAll srtN;rw[e];refine List.filter_congr fun j m=>?_
 have l:j∈[0,1,2,3,4]:=by
  have:j<5:=List.mem_range.mp m;simp only[Zt,ZH]
  lia
 have:=h2 j l;simp only[ZH,or_false]at this;exact decide_eq_decide.mpr this
section
variable {E:Yb->Yc->Prop}
def SetS.same{h h'}(k:∀o,h.get? a=some o->h'.get? a=some o)(x:SetS h a led ks):SetS h' a led ks:=by obtain⟨o,es,ep,g,r⟩:=x;exact⟨o,es,ep,k o g,r⟩
def Left(Q3:Array Value):Nat->List Nat->Prop
 |i,[]=>Q3[i]?=none
 |i,k::ms=>(∃t,Q3[i]?=some (.int (k:Int) t))/\k∈[0,1,2,3,4]/\Left Q3 (i+1) ms
def m9 (h:wpAny (model prog w) A.in1 (Builtin.«set.update.loop» ⟨[.ref S,.ref I],[]⟩) (fun fin s'=>match fin with|.done f=>R (.ok f) s' | .again c=>c.quiet=true/\codeAny (model prog w) A c R s') (fun e s'=>R (.error e) s') s):codeAny (model prog w) A (.builtin "set.update.loop" ⟨[.ref S,.ref I],[]⟩) R s :=
 codeAny_builtin PyProof.Rows.F.entry_set_update_loop (by rw[Around.under_plainId PyProof.Rows.F.plain_set_update_loop];exact h)
def oQ(Q:A.handled=none)(G:S≠I)(V:l≠S)(U:l≠I):∀ms i ks s,Left Q3 i ms->s.heap.IsListIter I l i->s.heap.IsList l Q3->SetS s.heap S led ks ->
 (∀h' tk,(∀b o,b≠S->b≠I->s.heap.get? b=some o->h'.get? b=some o)->SetS h' S led (ms.foldl ot ks)->R (.ok (.ret .none)) { s with heap:=h',toks:=tk })->codeAny (model prog w) A (.builtin "set.update.loop" ⟨[.ref S,.ref I],[]⟩) R s:=by
 have u:=Q;intro ms
 induction ms with
 |nil =>intro i ks s f D j z B;refine m9 (Z2 (wpAny_pyNext_list_end u D j f fun h' x=>Z3 (B h' s.toks (fun b o _ m e=>x b o m e) (z.same fun o e=>x S o G e))))
 |cons k ms L =>
  intro i ks s f D j z B;obtain⟨⟨t,O⟩,hk,f⟩:=f;refine m9 (Z2 (wpAny_pyNext_list_item D j O fun h1 C r=>?_))
  have y:=z.same fun o e=>(r.2 S G).trans e
  refine Z2 (wpAny_holding (wpAny_holding (Z2 (wpAny_pyHash_int ?_))));rw[x6 k hk];refine Ct y hk fun b h2 p v=>Z3 ⟨plainId_quiet PyProof.Rows.F.plain_set_update_loop _,?_⟩
  refine L (i+1) (ot ks k) _ f (C.at fun o e=>(p.2 I G.symm).trans e) (j.at fun o e=>(p.2 l V).trans ((r.2 l U).trans e)) v fun h' tk J q=>B h' tk (fun b o H m e=>J b o H m ((p.2 b H).trans ((r.2 b m).trans e))) q
def made{T newId initId}{args}(m:TypeCalled T newId initId)(ct:checkTypeCall T ⟨args,[]⟩=pure ())
 (h:wpAny (model prog w) A.in1 (call (.builtin newId) (.type T::args)) (fun f j=>j.TypeIs f T/\wpAny (model prog w) A.in1 (callSpecial? f "__init__" args) (fun r l=>r=some .none/\Q f l) E j) E s):wpAny (model prog w) A (call (.type T) args) Q E s:=by
 obtain⟨p,u,⟨c,tl,t⟩,mb,_,o,_⟩:=m;refine wpAny_call (codeAny_of_tree (Z3 ⟨Code.quiet_builtin _ (by decide +kernel),codeAny_builtin F.entry_type_call ?_⟩))
 rw[Around.under_plain (weight_type_call_type T args []) (units_type_call_type T args [])];unfold Builtin.«type.__call__»
 wp_walk using wpAny_mono h
 . rintro f j ⟨hT,hi⟩
   wp_walk using wpAny_mono hi
   . rintro r l ⟨rfl,q⟩
     wp_walk
     exact q
   . exact fun _ _ e=>e
 . exact fun _ _ e=>e
noncomputable abbrev IC (w:World):Obj:={ cls:=.type "set",dict:=none,data:=.set #[] 0 (t7 (ledOf w) []) }
def Bu {x} (q:Q (.ref s.heap.objs.size) { s with heap:=s.heap.push (IC w) }):wpAny (model prog w) A (call (.builtin "set.__new__") [.type "set",x]) Q E s:=by
 refine wpAny_call (codeAny_call_builtin PySem.F.plain_set_new PySem.F.entry_set_new (wpAny_of_eq (PySem.F.newCall_set_1 x) ?_));have f:=sub_set_self;obtain⟨l,g,d,tk,j⟩:=s;unfold Builtin.«set.__new__»
 wp_walk using wpAny_askSetting
 exact q
def xV {Q:Ye Yb->Yc->Prop} (v:A.handled=none) (y:l≠S) (j:s.heap.get? S=some { cls:=.type "set",dict:=none,data:=.set #[] 0 (t7 led []) }) (f:s.heap.IsList l Q3) (u:Left Q3 0 ms)
 (q:∀h' tk,(∀b o,b≠S->s.heap.get? b=some o->h'.get? b=some o)->SetS h' S led (putAll ms)->Q (some .none) { s with heap:=h',toks:=tk }):wpAny (model prog w) A (callSpecial? (.ref S) "__init__" [.ref l]) Q E s:=by
 have p:s.TypeIs (.ref S) "set":=⟨_,j,rfl⟩;have B:=f.typeIs;have n1:=PySem.F.sub_list_set;have n2:=PySem.F.sub_list_frozenset;have m:A.in1.handled=none:=v;have r:=ZT j;have t:l<s.heap.objs.size:=by obtain⟨o,e,_⟩:=f;exact ZT e
 have st:∀Q E,Q (#[],0,t7 led []) s->wpAny (model prog w) A.in1 (setState S) Q E s:=fun Q E h=>wpAny_setState_of j rfl (by cases led<;>decide +kernel) h
 refine wpAny_callSpecial?_slot p PySem.F.called_set.init (wpAny_call (codeAny_call_builtin PySem.F.called_set.init.plain PySem.F.entry_set_init (check_set_init_1 p ?_)));unfold Builtin.«set.__init__»
 wp_walk using st _ _,wpAny_pyIter_list f
 refine oQ m (ZI r) y (ZI t) ms 0 [] _ u ⟨_,ZW _ rfl,rfl,rfl⟩ (f.push _) ⟨_,#[],0,ZS _ j,⟨rfl,rfl,rfl⟩,rfl,trivial,by decide⟩ fun h' tk k x=>?_
 wp_walk
 exact q h' tk (fun b o z e=>k b o z (ZI (ZT e)) (ZS _ e)) x
def set_small(p:A.handled=none)(f:s.heap.IsList l Q3)(m:Left Q3 0 ms)
 (q:∀h' tk,(∀b o,s.heap.get? b=some o->h'.get? b=some o)->SetS h' s.heap.objs.size (ledOf w) (putAll ms)->Q (.ref s.heap.objs.size) { s with heap:=h',toks:=tk }):wpAny (model prog w) A (call (.type "set") [.ref l]) Q E s:=by
 have j:l<s.heap.objs.size:=by obtain⟨o,e,_⟩:=f;exact ZT e
 refine made PySem.F.called_set (PySem.F.typeCall_set_1 _) (Bu ⟨⟨_,ZW _ rfl,rfl⟩,xV p (ZI j) (ZW _ rfl) (f.push _) m fun h' tk k x=>⟨rfl,q h' tk (fun b o e=>k b o (ZI (ZT e)) (ZS _ e)) x⟩⟩)
def Ll{Q:Ye Yb->Yc->Prop}(r:A.handled=none)(t:s.heap.get? I=some (itO (.int (fL w ks ks.length) 0) ks.length a es.size ep))(j:s.heap.get? a=some o)(f:o.data=.set es ep (tb (ledOf w) ks))(l:(tb (ledOf w) ks).fits es.size=true)(u:ks∈ji)(sz:es.size=ks.length)
 (q:∀h',(∀b o,b≠I->s.heap.get? b=some o->h'.get? b=some o)->Q none { s with heap:=h' }):wpAny (model prog w) A (pyNext (.ref I)) Q E s:=by
 have T:s.TypeIs (.ref I) "set_iterator":=⟨_,t,rfl⟩;have p:=r;have m:∀Q E,Q none s->wpAny (model prog w) A.in1 (setNext a (fL w ks ks.length:Int).toNat (ks.length:Int).toNat (ep:Int).toNat) Q E s:=fun Q E h=>by simp only[Int.toNat_natCast];exact qT j f l u sz (ZM _) (by rw[Array.getElem?_eq_none (by rw[qL,sz];exact ZM _)];exact h)
 have v:∀Q E,Q es s->wpAny (model prog w) A.in1 (setEntries a) Q E s:=fun Q E h=>wpAny_setEntries_of j f l h
 obtain⟨y,g,d,tk,x⟩:=s;unfold pyNext;refine Z2 (wpAny_attempt (wpAny_callSpecial?_slot T slot_nx (wpAny_call_entry slot_nx T Fy ?_ (Gs _))));unfold Builtin.«set_iterator.__next__»
 wp_walk using v _ _,m _ _
 unfold raiseNew
 wp_walk
 refine wpAny_of_eq (isSubtype_stop) ?_
 wp_walk
 exact q _ fun b o n e=>ZS _ (ZS _ ((Heap.SameBut.update ..).extBut b o n e))
def M0(sz:es.size=ks.length)(hi:i<ks.length):∃e,(ly w a ep es)[i]?=some e:=⟨_,Array.getElem?_eq_getElem (by rw[qL,sz];exact hi)⟩
def CC(w:World)(I a:Addr)(o:Obj)(es:Array (Int×Value))(ep:Nat)(ks:List Nat)(i:Nat)(h:Heap):Prop:=h.get? I=some (itO (.int (fL w ks i) 0) i a es.size ep)/\h.get? a=some o
def vC(p:A.handled=none)(n:a≠I)(l:o.data=.set es ep (tb (ledOf w) ks))(m:(tb (ledOf w) ks).fits es.size=true)(j:ks∈ji)(sz:es.size=ks.length) :
 Walks prog w A I [I,a] [I] ks.length (fun i v=>∃e,(ly w a ep es)[i]?=some e/\v=e.2) (CC w I a o es ep ks) where
 sub:=fun b f=>by rw[Zq.mp f];exact Zo
 frame:=fun i h h' st k=>⟨k I (by simp) _ st.1,k a (by simp) _ st.2⟩
 item:=fun i s Q E hi st q=>by obtain⟨e,he⟩:=M0 sz hi;refine HQ st.1 st.2 l m j sz hi he fun h' x k=>q e.2 h' s.toks ⟨e,he,rfl⟩ ⟨x,k a o n st.2⟩ fun b o f e=>k b o (fun z=>f (by rw[z];exact List.mem_singleton_self _)) e
 done:=fun s Q E st q=>Ll p st.1 st.2 l m j sz fun h' k=>q h' s.toks fun b o f e=>k b o (fun z=>f (by rw[z];exact List.mem_singleton_self _)) e
 self:=fun i s Q E st h=>by have T:s.TypeIs (.ref I) "set_iterator":=⟨_,st.1,rfl⟩;refine wpAny_pyIter_slot T yU (wpAny_call_entry yU T Mv (Z3 ⟨_,rfl,?_⟩) (M2 _));exact⟨"set_iterator",_,T,slot_nx.lookup,h⟩
def AO(f:o.ExactSet)(j:o.data=.set es ep (tb (ledOf w) ks))(l:(tb (ledOf w) ks).fits es.size=true)(p:ks∈ji)(sz:es.size=ks.length) :
 KdlSrc prog w "set" a a ks.length (fun i v=>∃e,(ly w a ep es)[i]?=some e/\v=e.2) (fun h=>h.get? a=some o) where
 type:=fun s ok=>⟨o,ok,f.1⟩
 there:=fun h ok=>⟨ZT ok,ZT ok⟩
 keep:=fun h h' ok k=>k a (.inl rfl) _ ok
 notList:=by decide
 notTuple:=by decide
 hint:=fun A E s Q ok q=>xX ⟨o,ok,f.1⟩ q
 iter:=fun A s m ok=>⟨_,CC w s.heap.objs.size a o es ep ks,fun E Q q=>E2 ok f j l q,vC m (ZI (ZT ok)) j l p sz,ZW _ rfl,ZS _ ok⟩
def Ex(h:ItemsOf (fun i v=>∃e,(ly w a ep es)[i]?=some e/\v=e.2) acc ks.length)(sz:es.size=ks.length):acc.toList=(ly w a ep es).toList.map (·.2):=by
 apply List.ext_getElem?
 intro i;rw[ZK,Array.getElem?_toList,Array.getElem?_toList];cases q:acc[i]? with
 |none =>
  have:acc.size<=i:=Array.getElem?_eq_none_iff.mp q;rw[Array.getElem?_eq_none (by rw[qL,sz,<- h.1];exact this)]
  rfl
 |some v =>obtain⟨e,he,rfl⟩:=h.2 i v q;rw[he];rfl
theorem C3:∀{l m:Yg Int},l.Perm m->l.Pairwise (· <= ·)->m.Pairwise (· <= ·)->l=m
 |[],m,p,_,_=>(List.nil_perm.mp p).symm
 |x::l,[],p,_,_=>absurd p.length_eq (by simp)
 | x :: l,y :: m,p,hl,hm=>by
  have j:=List.pairwise_cons.mp hl;have f:=List.pairwise_cons.mp hm;have e:x=y:=by
   have q:x<=y:=by
    rcases Zt.mp (p.symm.subset Zo)with z|z
    . lia
    . exact j.1 y z
   have o:y<=x:=by
    rcases Zt.mp (p.subset Zo)with z|z
    . lia
    . exact f.1 x z
   lia
  subst e;rw[C3 ((List.perm_cons x).mp p) j.2 f.2]
theorem sorted_small(U:A.handled=none)(V:SetS s.heap a (ledOf w) ks)
 (q:∀(h1 h':Heap) tk f,(∀b o,s.heap.get? b=some o->h1.get? b=some o)->(∀b o,h1.get? b=some o->h'.get? b=some o)->(∃e,h'.get? h1.objs.size=some (seqObj "list" f e))->IntsAre f.toList (ks.map fun (k:Nat)=>(k:Int))->Q (.ref h1.objs.size) { s with heap:=h',toks:=tk }):wpAny (model prog w) A (call (.builtin "sorted") [.ref a]) Q E s:=by
 obtain⟨o,es,ep,g1,Z,Y,x,u⟩:=V;have sz:es.size=ks.length:=by rw[<- Array.length_toList];exact x.len
 obtain⟨f1,_,_,f4,_⟩:=wB (ledOf w) (jt _) ks u;have fz:(tb (ledOf w) ks).fits es.size=true:=by rw[sz];exact f1
 have K:=AO (prog:=prog) (a:=a) Z Y fz u sz;have p:=U;have z:ks.length<=sizeLine:=ZY f4 (by decide)
 have pm:((ly w a ep es).toList.map (·.1)).Perm (ks.map fun(k:Nat)=>(k:Int)):=by rw[<- x.fst];exact(qM w a ep es).map _
 have it:∀e∈(ly w a ep es).toList,∃t,e.2=.int e.1 t:=fun e m=>by obtain⟨k,_,t,rfl⟩:=x.mem e ((qM w a ep es).subset m);exact⟨t,rfl⟩
 refine Calls.call_function_entry kind_sorted plain_sorted entry_sorted (args_sorted1 _) ?_;have co:∀(R:Yg Yb->Yc->Prop)(E:Yb->Yc->Prop),(∀(h':Heap)(tk:Nat)(acc:Array Yb),(∀b o,s.heap.get? b=some o->h'.get? b=some o)->ItemsOf (fun i v=>∃e,(ly w a ep es)[i]?=some e/\v=e.2) acc ks.length->R acc.toList { s with heap:=h',toks:=tk })->wpAny (model prog w) A.in1 (collect (([.ref a]:Yg Yb).headD .none)) R E s:=fun R E h=>kdu_collect K p g1 z h
 unfold Builtin.«sorted»
 wp_walk using co _ _
 intro h1 tk acc L B;have C:=Ex B sz;have O:IntsAre acc.toList ((ly w a ep es).toList.map (·.1)):=by rw[C];exact zM it
 have I:acc.toList.length=ks.length:=by rw[Array.length_toList];exact B.1
 have j:¬acc.toList.toArray.size>sizeLine:=by rw[ZF,I];exact Nat.not_lt.mpr z
 wp_walk
 rw[if_neg j];have l:(h1.push (seqObj "list" acc.toList.toArray 0)).get? h1.objs.size=some (seqObj "list" acc.toList.toArray 0):=ZW _ rfl;have D:∀(Q:Yb->Yc->Prop) (E:Yb->Yc->Prop),(∀(h':Heap) (f:Array Yb),(∀b o,h1.get? b=some o->h'.get? b=some o)->(∃e,h'.get? h1.objs.size=some (seqObj "list" f e))->IntsAre f.toList (ks.map fun (k:Nat)=>(k:Int))->Q .none { s with heap:=h',toks:=tk }) ->
  wpAny (model prog w) A.in1 (call (.builtin "list.sort") [.ref h1.objs.size]) Q E { s with heap:=h1.push (seqObj "list" acc.toList.toArray 0),toks:=tk }:=fun Q E h=>by
  refine wpAny_call_entry slot_list_sort ⟨_,l,rfl⟩ entry_list_sort (list_sort_tree l O (by lia) fun f G r S X=>⟨.none,rfl,?_⟩) (args_list_sort _)
  obtain⟨e,he⟩:=sortedHeap_at l;refine h _ f (fun b o q=>?_) ⟨e,he⟩ (C3 (S.trans pm) X (A3 ks u)▸r)
  have y:=ZT q;rw[sortedHeap_old (ZI y) (by rw[size_push'];exact Nat.lt_succ_of_lt y)]
  exact ZS _ q
 wp_walk using D _ _
 intro h2 f J H r
 wp_walk
 exact⟨_,rfl,q h1 h2 tk f L J H r⟩
def none_size{h:Heap}{n}(l:h.objs.size<=n):h.get? n=none:=by
 cases z:h.get? n with
 |none=>rfl
 |some o=>exact absurd (ZT z) (Nat.not_lt.mpr l)
end
end Sw
namespace Dl
open PySem PySem.Spec PyProof.Rows L2
variable {X:Cx} {i n j k:Nat} {x y m z:Str} {P prog:Program} {w:World} {H H' H₂ F' H1 F1 F2 H2:Hp} {s s' s₂:Yc} {l a e b c ei:Expr} {B A fp:Yg Yd} {h' base:Heap} {K:ZA} {mg:Str->Ye Yb} {N T ws:Yg Str} {scope:Scope} {f fa fb fk:FD} {vs ys:Yg V} {ds:Yg D} {σ:L2.St} {δ δ1:DS} {t C it:Yd} {p p2 p1:Pos} {r r':Yg V->Hp->VK->Prop} {Q:Yb->Yc->Prop} {op:CmpOp} {es:Yg Expr} {v:V} {u:SD} {st:Stmt} {hi:Ye Expr} {fl:FO} {Q0:Yg (Yd×Obj)} {cl:Yg (Str×Yd)} {o:Ye D} {As Q2 Q4 Q5:Nat->Yg Yd} {fm:FM} {ga:FA} {Z:L2.St->Prop} {R:Result->Yc->Prop} {S S':Nat->Heap->Prop} {Q3:Array Yb}
structure EvW(F H:Hp)(As:Nat->List Addr)(F' H':Hp)(Q2:Nat->List Addr)(A:List Addr):Prop where
 fs:Same F F'
 ks:∀a u,H a=some u->(∀i,a∉As i)->H' a=some u
 nf:∀a(u:MO),H a=some u.1->F a=none->(∀i,a∉As i)->F' a=none
 fa:∀i a,a∈Q2 i->(∃j,a∈As j)\/H a=none
 fA:∀a,a∈A->(∃j,a∈As j)\/H a=none
 nd:A.Nodup
 dj:∀i a,a∈Q2 i->a∉A
def Ev.toW{F}(e:Ev F H As F' H' Q2 A):EvW F H As F' H' Q2 A:=⟨e.fs,fun a u h _=>e.hs a u h,e.nf,e.fa,e.fA,e.nd,e.dj⟩
def Cw(H:Hp)(As:Nat->List Addr):Prop:=∀i a,a∈As i->∃u:MO,H a=some u.1
def RepA.domA{F:Hp}(R:RepA K F H σ δ As):Cw H As:=fun _ _ m=>(R.dom m).1
def EvW.ki{F}(e:EvW F H As F' H' Q2 A)(d:Cw H As):dU H H':=fun a u h n=>e.ks a u h fun i m=>by obtain⟨w,h2⟩:=d i a m;rw[h]at h2;cases h2;rw[w.2]at n;cases n
def EvW.old{F}(e:EvW F H As F' H' Q2 A){a:Yd}(n:H' a=none):(∃j,a∈As j)\/H a=none:=by
 by_cases h:∃j,a∈As j
 . exact .inl h
 . refine .inr ?_;cases q:H a with
   |none=>rfl
   |some u=>rw[e.ks a u q fun i m=>h ⟨i,m⟩]at n;cases n
def EvW.seq {F H F1 H1 F2 H2} {As Q4 Q5} {A B} (a:EvW F H As F1 H1 Q4 A) (b:EvW F1 H1 Q4 F2 H2 Q5 B) (l:∀ x∈A,∃ u:MO,H1 x=some u.1):EvW F H As F2 H2 Q5 (A++B) where
 fs:=a.fs.trans b.fs
 ks:=fun x u e h=>b.ks x u (a.ks x u e h) fun i m=>by
  rcases a.fa i x m with⟨j,z⟩|z
  . exact h j z
  . rw[e]at z;cases z
 nf:=fun x vs e n h=>b.nf x vs (a.ks x _ e h) (a.nf x vs e n h) fun i m=>by
  rcases a.fa i x m with⟨j,z⟩|z
  . exact h j z
  . rw[e]at z;cases z
 fa:=fun i x m=>by
  rcases b.fa i x m with⟨j,z⟩|z
  . exact a.fa j x z
  . exact a.old z
 fA:=fun x m=>by
  rcases Zs.mp m with z|z
  . exact a.fA x z
  . rcases b.fA x z with ⟨j,y⟩ | y
    . exact a.fa j x y
    . exact a.old y
 nd:=by
  refine Z0.mpr ⟨a.nd,b.nd,fun x f y o e=>?_⟩
  subst e;rcases b.fA x o with⟨j,z⟩|z
  . exact a.dj j x z f
  . obtain⟨vs,e⟩:=l x f;rw[z]at e;cases e
 dj:=fun i x m z=>by
  rcases Zs.mp z with z|z
  . rcases b.fa i x m with ⟨j,y⟩ | y
    . exact a.dj j x y z
    . obtain⟨vs,e⟩:=l x z;rw[y]at e;cases e
  . exact b.dj i x m z
def EvW.bare{F}(e:EvW F H As F' H' Q2 A):EvW F H As F' H' Q2 []:=⟨e.fs,e.ks,e.nf,e.fa,fun _ m=>(nomatch m),Zy,fun _ _ _ z=>(nomatch z)⟩
def EvW.grow{F}(e:EvW F H As F' H' Q2 A)(s:Same H' H2):EvW F H As F' H2 Q2 A:=⟨e.fs,fun a u h n=>s a u (e.ks a u h n),e.nf,e.fa,e.fA,e.nd,e.dj⟩
def EvW.stays{d:D}(b:EvW F1 H1 Q4 F2 H2 Q5 B)(j:Cw H1 Q4)(r:RepO K F1 H1 v d A)(f:∀i a,a∈Q4 i->a∉A):RepO K F2 H2 v d A:=by
 have h1:=r.frame (b.ki j) fun a m=>by obtain⟨⟨vs,e⟩,_⟩:=r.dom a m;rw[e];exact b.ks a _ e fun i z=>f i a z m
 refine h1.froz b.fs fun a m=>?_
 obtain⟨⟨vs,e⟩,n⟩:=r.dom a m;exact b.nf a vs e n fun i z=>f i a z m
def upW(K:ZA)(f:FM):TE:=fun σ H Q=>∃F δ As d δ',RepA K F H σ δ As/\f δ=some (d,δ')/\∀v F' H' A Q2,EvW F H As F' H' Q2 A->RepA K F' H' σ δ' Q2->RepO K F' H' v d A->Q v H'
def OY(K:ZA)(n:Nat)(f:FMA):TA:=fun σ H Q=>∃F δ As ds δ',RepA K F H σ δ As/\f δ=some (ds,δ')/\∀vs F' H' A Q2,EvW F H As F' H' Q2 A->RepA K F' H' σ δ' Q2->RepOs K F' H' vs ds A->vs.length=n->Q vs H'
def PW(X:Cx)(e:Expr)(f:FM):Prop:=PE X e (upW X.K f)
def cH{t}{f}(h:PE X e t)(w:∀{σ H Q F δ As d δ'},RepA X.K F H σ δ As->f δ=some (d,δ')->(∀v F' H' A Q2,EvW F H As F' H' Q2 A->RepA X.K F' H' σ δ' Q2->RepO X.K F' H' v d A->Q v H')->t σ H Q):PW X e f:=imp h fun _ _ _ h=>h.elim fun _ h=>h.elim fun _ h=>h.elim fun _ h=>h.elim fun _ h=>h.elim fun _ h=>w h.1 h.2.1 h.2.2
def PWA(X:Cx)(es:List Expr)(f:FMA):Prop:=PA X es (OY X.K es.length f)
def J5{t}{f:FMA}(h:PA X es t)(w:∀{σ H Q F δ As ds δ'},RepA X.K F H σ δ As->f δ=some (ds,δ')->(∀vs F' H' A Q2,EvW F H As F' H' Q2 A->RepA X.K F' H' σ δ' Q2->RepOs X.K F' H' vs ds A->vs.length=es.length->Q vs H')->t σ H Q):PWA X es f:=Fc h fun _ _ _ h=>h.elim fun _ h=>h.elim fun _ h=>h.elim fun _ h=>h.elim fun _ h=>h.elim fun _ h=>w h.1 h.2.1 h.2.2
section
variable {fa fb:FM} {g:FMA} {pos:Pos}
def JY(h:PV X e fm):PW X e fm:=cH h fun{σ H Q F δ As d δ'} R q k=>⟨F,δ,As,d,δ',R,q,fun v F' H' A Q2 f j r'=>k v F' H' A Q2 f.toW j r'⟩
def KY(h:PD X e f):PW X e (vI f):=JY (K3 h)
def uC:PWA X [] ak:=J5 gl fun{σ H Q F δ As ds δ'} R q k=>by cases q;exact k [] F H [] As (Ev.pure (Same.refl H)).toW R .nil rfl
def mX(z:PW X e fm)(y:PWA X es g)(u:PlX X e es:=by rfl):PWA X (e::es) (ae fm g):=J5 (bZ z y u) fun{σ H Q F δ As ds δ'} R q k=>by
 unfold ae at q;obtain⟨⟨G,δ1⟩,D,q⟩:=Za.mp q;obtain⟨⟨p,o⟩,C,q⟩:=Za.mp q;cases q;refine⟨F,δ,As,G,δ1,R,D,fun v F1 H1 A Q4 j s r=>⟨F1,δ1,Q4,p,o,s,C,fun vs F2 H2 B Q5 f R2 t l=>?_⟩⟩
 exact k (v::vs) F2 H2 (A++B) Q5 (j.seq f fun x m=>(r.dom x m).1) R2 (.cons (f.stays s.domA r j.dj) t rfl) (Z8 (· + 1) l)
def KL{x1}(h:PWA X es g)(j:es.length<=1000:=by decide):PW X (.Tuple es x1 pos) (bY g):=cH (Ej h) fun{σ H Q F δ As d δ'} R q k=>by
 unfold bY at q;obtain⟨⟨ds,δ1⟩,t,q⟩:=Za.mp q;cases q;refine⟨F,δ,As,ds,_,R,t,fun vs F1 H1 A Q4 r u f l=>⟨eT (by rw[l];exact j),fun p o=>?_⟩⟩
 have s:=a8 o (.tup vs);refine k _ F1 _ A Q4 (r.grow s) (u.grow s) (.tup (SqT.of aL) (f.frame (bi s) fun a m=>?_))
 obtain⟨⟨ws,e⟩,_⟩:=f.dom a m;rw[e];exact s a _ e
def KR (h:PWA X es g) (x:es.length<=1000:=by decide):PW X (.List es pos) (cI g):=cH (El h) fun {σ H Q F δ As d δ'} R q k=>by
 unfold cI at q;obtain⟨⟨ds,δ1⟩,y,q⟩:=Za.mp q;cases q;refine⟨F,δ,As,ds,_,R,y,fun vs F1 H1 A Q4 f u r l=>⟨eT (by rw[l];exact x),fun p j=>?_⟩⟩
 have s:=a8 j (.lst vs);have v:F1 p=none:=by
  cases q:F1 p with
  |none=>rfl
  |some o=>rw[u.fz p o q]at j;cases j
 have t:EvW F H As F1 (upd H1 p (.lst vs)) Q4 (p::A):=⟨f.fs,(f.grow s).ks,f.nf,f.fa,fun a m=>by
  rcases Zt.mp m with z|z
  . subst z;exact f.old j
  . exact f.fA a z,Z1.mpr ⟨fun m=>(by
    obtain⟨⟨ws,e⟩,_⟩:=r.dom p m;rw[j]at e;cases e),f.nd⟩,fun i a m z=>by
  rcases Zt.mp z with z|z
  . subst z;obtain⟨⟨ws,e⟩,_⟩:=u.dom m;rw[j]at e;cases e
  . exact f.dj i a m z⟩
 refine k _ F1 _ (p::A) Q4 t (u.grow s) (.lst aL v (r.frame (bi s) fun a m=>?_))
 obtain⟨⟨ws,e⟩,_⟩:=r.dom a m;rw[e];exact s a _ e
def bX(g:D->D->Option D)(fa fb:FM):FM:=fun δ=>(fa δ).bind fun p=>(fb p.2).bind fun q=>(g p.1 q.1).bind fun d=>if imm d then some (d,q.2)else none
def wx{r}{g}(G:R2D X.K r g){Q:VK}(h:upW X.K (bX g fa fb) σ H Q):tOp r (upW X.K fa) (upW X.K fb) σ H Q:=by
 obtain⟨F,δ,As,d,δ',R,q,k⟩:=h;unfold bX at q;obtain⟨⟨t,δ1⟩,L,q⟩:=Za.mp q;obtain⟨⟨s,y⟩,J,q⟩:=Za.mp q;obtain⟨O,I,q⟩:=Za.mp q;split at q
 . rename_i hi;cases q;refine ⟨F,δ,As,t,δ1,R,L,fun v F1 H1 A Q4 j u p=>⟨F1,δ1,Q4,s,_,u,J,fun w F2 H2 B Q5 f R2 D=>?_⟩⟩
   have l:=(f.stays u.domA p j.dj).rep R2.fz;refine G v w H2 Q t s d l (D.rep R2.fz) I fun z H' o C=>?_
   exact k z F2 H' [] Q5 ((j.seq f fun x m=>(p.dom x m).1).grow o).bare (R2.grow o) (.imm hi C)
 . cases q
def Dz{op}{r}{g}(f:OpR X (binaryOp op) r)(j:R2D X.K r g)(m:PW X a fa)(l:PW X b fb):PW X (.BinOp a op b pos) (bX g fa fb):=imp (zm f m l) fun _ _ _=>wx j
def NK(l:PW X a fa)(j:PW X b fb)(f:iA b:=by intro _ _;rfl):PW X (.Subscript a b pos) (bX gIx fa fb):=imp (tt (ix_list.or uM) l j f) fun _ _ _=>wx JX
end
section
variable {A:Around} {E:Yb->Yc->Prop} {Q1:Yg Yd} {fp:Nat->Yg Yd} {P:Nat->Yb->Prop} {En:Prop} {z TI TO:Yd}
def pk{α:Type}(a b:α)(j:Nat):α:=if j=0 then a else b
noncomputable def uD(h:Heap):List Obj->Heap
 |[]=>h
 |o::os=>uD (h.push o) os
theorem lX{c}{o}:∀f h,h.get? c=some o->(uD h f).get? c=some o
 |[],_,e=>e
 |_::f,_,e=>lX f _ (ZS _ e)
def qE{o}(f:o.isFreed=false):∀j i h,j[i]?=some o->(uD h j).get? (h.objs.size+i)=some o:=by
 intro j
 induction j with
 |nil=>intro i h e;simp at e
 |cons o' j l =>
  intro i h e;cases i with
  |zero=>cases e;exact lX j _ (ZW _ f)
  |succ i =>have:=l i (h.push o') e;rw[Heap.size_push,Nat.add_assoc,Nat.add_comm 1 i]at this;exact this
noncomputable def enO (n:Addr):Obj:={ cls:=.type "enumerate",data:=.fields #[.none,.bool false,.ref n,rawInt 0,.none,.none] }
def pure_bool{M}{A}{E:Yb->Yc->Prop}{b}{Q:Bool->Yc->Prop}(h:Q false s)(k:Q true s):wpAny M A (pure b) Q E s:=Z3 (by cases b;exact h;exact k)
def Fw (v) (oI):MeetsIn prog w (Builtin.«enumerate.__new__» ⟨[.type "enumerate",v],[]⟩) fun _ R s=>(∀A E Q,Q (.ref s.heap.objs.size) { s with heap:=s.heap.push oI }->wpAny (model prog w) A (pyIter v) Q E s) /\
 R (.ok (.ret (.ref (s.heap.objs.size+1)))) { s with heap:=uD s.heap [oI,enO s.heap.objs.size] }:=MeetsIn.of_wp fun A R s ⟨j,h⟩=>by
 have sub:=sub_enumerate;obtain⟨f,g,d,tk,l⟩:=s
 wp_walk
 have it:∀Q,Q (.ref f.objs.size) ⟨f.push oI,g,d,tk,l⟩->wpAny (model prog w) A.in1 (pyIter v) Q (fun e s'=>R (Except.error e) s') ⟨f,g,d,tk,l⟩:=fun Q=>j A.in1 _ Q
 refine wpAny_stack_any fun st=>pure_bool ?_ ?_<;>wp_walk using it<;>rw[Heap.size_push]<;>exact⟨_,rfl,h⟩
def BX{v}{oI}(l:oI.isFreed=false)(f:∀A E Q,Q (.ref s.heap.objs.size) { s with heap:=s.heap.push oI }->wpAny (model prog w) A (pyIter v) Q E s)
 (h:∀n h',n=s.heap.objs.size->IsEnum h' (n+1) n 0 .none->h'.get? n=some oI->(∀c o,s.heap.get? c=some o->h'.get? c=some o)->Q (.ref (n+1)) { s with heap:=h' }):wpAny (model prog w) A (call (.type "enumerate") [v]) Q E s:=by
 have j:=qE rfl [oI,enO s.heap.objs.size] 1 s.heap rfl;refine PySem.callType_newIn F.called_enumerate (by decide) (F.typeCall_enumerate_1 _) (F.newCall_enumerate_1 _) (fun o=>F.args_object_init_2 o _) F.entry_enumerate_new (Fw v oI) ⟨f,⟨_,j,rfl⟩,?_⟩
 exact h _ _ rfl j (qE l [oI,enO s.heap.objs.size] 0 s.heap rfl) fun c o e=>lX _ _ e
end
variable {t' kt:Nat} {X2 py:Pos} {ps zs:Yg Str} {itr:Nat->Heap->Prop} {sq:Hp->Yg V->Prop} {src:FMA} {pl:Sem Bool}
def gq(f:FM):FD:=fun δ=>(f (shO δ)).bind fun p=>some p.1
noncomputable def ip:List D->Option (List Nat)
 |[]=>some []
 |d::ds=>match d with
  |.int i=>if 0<=i/\i<=4 then(ip ds).bind fun ns=>some (i.toNat::ns)else none
  |_=>none
noncomputable def jW(ns:List Nat):List D:=((List.range 5).filter fun k=>decide (k∈ns)).map fun(k:Nat)=>D.int (k:Int)
def jX(f:FM):FM:=fun δ=>(f δ).bind fun p=>match p.1 with
 |.lst ds=>(ip ds).bind fun ns=>some (.lst (jW ns),p.2)
 |_=>none
noncomputable def enF:Nat->List D->List D
 |_,[]=>[]
 |i,d::ds=>.tup [.int (i:Int),d]::enF (i+1) ds
def JF(c:Nat)(sq:Hp->List V->Prop):It :=
 ⟨fun i H=>∃xs x,sq H xs/\xs[i]?=some x,fun i H v H'=>∃p x,v=.ref p/\H p=none/\H'=upd H p (.tup [.int ((i+c:Nat):Int),x])/\∀xs,sq H xs->xs[i]?=some x,fun i H=>∃xs,sq H xs/\xs.length<=i⟩
theorem No(c:Nat){A}{P:Nat->Yb->Prop}{St:Nat->Heap->Prop}(D:Draws prog w A it fp n P St):Draws prog w A it fp (n+c) (fun i x=>P (i-c) x) (fun i h=>c<=i/\St (i-c) h) where
 live:=fun i h q=>D.live _ h q.2
 frame:=fun i h h' q k=>⟨q.1,D.frame _ h h' q.2 k⟩
 item:=fun i s Q E hi st j=>D.item (i-c) s Q E (by have:=st.1;lia) st.2 fun x h' tk p q f=>j x h' tk p ⟨by have:=st.1;lia,by rw[show i+1-c=i-c+1 by have:=st.1;lia];exact q⟩ f
 done:=fun s Q E st k=>D.done s Q E (by rw[Nat.add_sub_cancel]at st;exact st.2) k
structure EnS(P:Program)(w:World)(K:ZA)(sq:Hp->List V->Prop)(it t:Addr)(itr:Nat->Heap->Prop):Prop where
 inj:∀(X:Cx)(Q0:List (Addr×Obj))(σ:L2.St)(H:Hp)(s:Shared)(xs ys:List V),X.K=K->L2.Inv X Q0 σ H s->sq H xs->sq H ys->xs=ys
 obj:∀i h,itr i h->∃o,h.get? it=some o/\∀v,o.data≠.cell v
 keep:∀i h h',itr i h->(∀o,h.get? it=some o->h'.get? it=some o)->itr i h'
 src:∀(X:Cx) (Q0:List (Addr×Obj)) (σ:L2.St) (H:Hp) (s:Shared) (xs:List V),X.prog=P->X.w=w->X.K=K->L2.Inv X Q0 σ H s->sq H xs->∃(Q1:List Value) (St:Nat->Heap->Prop),Vals xs Q1/\(∀i,itr i s.heap->St i s.heap)/\(∀i h,St i h->itr i h)/\∀A:Around,A.handled=none->Draws P w A it [it,t] Q1.length (fun i x=>Q1[i]?=some x) St/\∀i,Q1.length<=i->∀(s:Shared) (Q:Value->Shared->Prop) (E:Value->Shared->Prop),St i s.heap->(∀h' e,Heap.ExtBut it s.heap h'->(∃o,h'.get? e=some o/\o.cls=.type "StopIteration")->E (.ref e) { s with heap:=h' })->wpAny (model P w) A (Builtin.SmallTypes.nextOf (.ref it)) Q E s
theorem yR{c:Nat}{pt}{e}(S:EnS P w K sq it t itr)(n1:e≠it)(n2:e≠t) :
 w9 P w K (.Tuple es kt pt) (JF c sq) [e,it] e (fun i h=>(∃old,IsEnum h e it ((i+c:Nat):Int) old)/\itr i h) where
 mem:=by simp
 obj:=fun i h st b f=>by
  obtain⟨⟨old,he⟩,hi⟩:=st;simp only[Zt,ZH,or_false]at f;rcases f with rfl|rfl
  . exact⟨_,he,fun v q=>by cases q⟩
  . exact S.obj i h hi
 keep:=fun i h h' st k=>by obtain⟨⟨old,he⟩,hi⟩:=st;exact⟨⟨old,k e (by simp) _ he⟩,S.keep i h h' hi fun o q=>k it (by simp) o q⟩
 item:=by
  intro X C p O hc i Q0 s σ H E I L st hg;obtain⟨xs,x,J,hx⟩:=hg;obtain⟨⟨old,he⟩,hi⟩:=st;obtain⟨Q1,St,Y,up,dn,G⟩:=S.src X Q0 σ H s xs C p O I J;obtain⟨u,hu,ru⟩:=Y.get hx;have il:=(ZL.mp hu).1;have B:=I.ok.hd hc;subst C p;refine wpAny_pyNext_enum_itemD (No c (G X.A.in1 B).1) he ⟨Nat.le_add_left c i,by rw[Nat.add_sub_cancel];exact up i hi⟩ (Nat.add_lt_add_right il c) n1 (by simp[n1,n2]) fun y h' tk py ho Z hT hsz hk=>?_
  rw[Nat.add_sub_cancel]at py;cases hu.symm.trans py;have lt:∀b∈[e,it],b<s.heap.objs.size:=fun b f=>by
   simp only[Zt,ZH,or_false]at f;rcases f with rfl|rfl
   . exact ZT he
   . obtain⟨o,q,_⟩:=S.obj i _ hi;exact ZT q
  have fT:H s.heap.objs.size=none:=I.hok.fresh (ZM _);refine⟨_,rfl,wpAny_letOwnedTupleGo_enum ho fun m r V=>?_⟩
  have U:s.heap.objs.size≠e:=Nat.ne_of_gt (lt e (by simp))
  have kk:∀b o,b∉[e,it]->s.heap.get? b=some o->m.get? b=some o:=fun b o f q=>by simp only[Zt,ZH,or_false,not_or]at f;exact(V.2 b f.1).trans (hk b o f.1 f.2 q)
  have hT2:m.get? s.heap.objs.size=some { cls:=.type "tuple",data:=.seq #[.int ((i+c:Nat):Int) tk,u] }:=(V.2 _ U).trans hT;refine⟨.ref s.heap.objs.size,upd H s.heap.objs.size (.tup [.int ((i+c:Nat):Int),x]),JJ (s:=s) (h':=m) (t':=tk+1) I kk L (ZM _) ⟨by show 2<=sizeLine;decide,[.int ((i+c:Nat):Int) tk,u],.cons ⟨tk,rfl⟩ (.cons ru .nil),⟨_,hT2,rfl,_,rfl⟩⟩,rfl,⟨_,x,rfl,fT,rfl,fun zs q=>by rw[S.inj X Q0 σ H s zs xs O I q J];exact hx⟩,⟨⟨u,by rw[Nat.add_right_comm];exact r⟩,S.keep (i+1) h' m (dn _ _ (by have:=Z.2;rwa [show i+c+1-c=i+1 by lia]at this)) fun o q=>(V.2 it (Ne.symm n1)).trans q⟩,fun b f=>?_⟩
  rw[aI (ZI (lt b f))];exact(L b f).1
 done:=by
  intro X C p O hc i Q0 s σ H E I L st hg;obtain⟨xs,J,hl⟩:=hg;obtain⟨⟨old,he⟩,hi⟩:=st;obtain⟨Q1,St,Y,up,dn,G⟩:=S.src X Q0 σ H s xs C p O I J;have l1:=Y.length;have B:X.A.in1.handled=none:=I.ok.hd hc;subst C p;have D:Draws X.prog X.w X.A.in1 it [it,t] i (fun _ _=>False) (fun j h=>j=i/\St i h):=⟨fun j h q=>(G X.A.in1 B).1.live i h q.2,fun j h h' q k=>⟨q.1,(G X.A.in1 B).1.frame i h h' q.2 k⟩,fun j s Q E l q=>absurd q.1 (ZI l),fun s Q E q k=>(G X.A.in1 B).2 i (by lia) s Q E q.2 k⟩
  refine wpAny_pyNext_enum_endD D he ⟨rfl,up i hi⟩ fun h' x=>⟨rfl,JK (t':=s.toks) I (fun b o f q=>?_) L⟩
  exact x b o (fun z=>f (by rw[z];simp)) q
 self:=fun A i s Q E st h=>by obtain⟨⟨old,he⟩,_⟩:=st;exact wpAny_pyIter_enum he h
def Ab(n:t≠it):EnS P w K (fun H xs=>SqL K H t xs) it t (fun i h=>h.IsListIter it t i) where
 inj:=fun X Q0 σ H s xs ys f I h h'=>by subst f;exact I.list_inj h h'
 obj:=fun i h q=>by obtain⟨o,e,_,d⟩:=q;exact⟨o,e,fun v z=>by rw[d]at z;cases z⟩
 keep:=fun i h h' q k=>q.at fun o e=>k o e
 src:=fun X Q0 σ H s xs u m f I h=>by
  subst f;obtain⟨Q1,r,p,_⟩:=I.list h;refine⟨Q1,fun i h=>h.IsListIter it t i/\h.IsList t Q1.toArray,r,fun i q=>⟨q,p.isList⟩,fun i h q=>q.1,fun A j=>⟨?_,fun i l s Q E q k=>wpAny_nextOf_list_end j q.1 q.2 (Array.getElem?_eq_none (by simpa using l)) k⟩⟩
  have:=Draws.list (prog:=P) (w:=w) j it t n Q1.toArray;simpa using this
def iEn(K:ZA)(ta:TA):TI:=fun σ H R=>ta σ H fun vs H1=>∃a,vs=[.ref a]/\(∃ys,SqL K H1 a ys)/\R (JF 0 fun H xs=>SqL K H a xs) H1
def NR {pt} {ta} {pos} (D:Gl X "enumerate") (C:X.mg "enumerate" = none) (G:PA X [a] ta) (z:starEach [a] X.env=(false,eval a X.env) :: starEach [] X.env:=by rfl) (hpl:(backTo pos (starEach [] X.env)).any (·.1)=false:=by rfl) :
 PI X (.Tuple es kt pt) (.Call (.Name "enumerate" p) [a] [] pos) (iEn X.K ta):=by
 intro Q0 s σ H R I h;refine Call_ (mh I D C PyProof.Rows.boot_enumerate (PyProof.Rows.callWith_type1 (qq (G pos Q0 s σ H _ I h) fun{us o vs H1} m x y=>?_) z hpl))
 obtain⟨l,e,q⟩:=y;subst e;cases x with
 | cons r v =>
  cases v;cases r;have fp:∀n(H':Hp),n=o.heap.objs.size->(∀b∈[n+1,n],nZ X Q0 H1 b):=fun n H' j b t=>by
   have f:o.heap.objs.size<=b:=by
    subst j;simp only[Zt,ZH,or_false]at t;rcases t with rfl|rfl
    . exact Nat.le_succ _
    . exact ZM _
   exact m.fpOk f (m.hok.fresh f)
  obtain⟨⟨ys,B⟩,q⟩:=q;obtain⟨Q1,J,p,_⟩:=m.list B;have u:l<o.heap.objs.size:=by obtain⟨_,e,_⟩:=p.isList;exact ZT e
  refine BX rfl (fun A E Q k=>wpAny_pyIter_list p.isList k) fun n h' j he hi hk=>wpAny_pyIter_enum he ?_
  exact⟨_,_,_,_,H1,rfl,m.kept hk,yR (Ab (by rw[j];exact ZI u)) (Nat.succ_ne_self n) (by rw[j];exact Nat.ne_of_gt (Nat.lt_succ_of_lt u)),⟨⟨_,he⟩,⟨_,hi,rfl,rfl⟩⟩,fp n H1 j,q⟩
theorem Ad:∀ds k i,(enF k ds)[i]?=(ds[i]?).map fun d=>D.tup [.int ((k+i:Nat):Int),d]
 |[],_,_=>rfl
 |d::ds,k,0=>rfl
 |d::ds,k,i+1=>by show(enF (k+1) ds)[i]?=_;rw[Ad ds (k+1) i,Ze,show k+1+i=k+(i+1) by lia]
theorem Ac:∀ds k,(enF k ds).length=ds.length
 |[],_=>rfl
 |d::ds,k=>by show(enF (k+1) ds).length+1=_;rw[Ac ds (k+1)];rfl
def kY{a}{u:HO}(I:L2.Inv X Q0 σ H s)(k:∀b o,s.heap.get? b=some o->h'.get? b=some o)(m:s.heap.get? a=none)(f:H a=none)(j:ObjOk X.prog X.w (upd H a u) h' a u):L2.Inv X Q0 σ (upd H a u) { s with heap:=h',toks:=t' }:=by
 have un:Un X.fs [] H (upd H a u) s.heap h':=⟨fun b u e _ _ _=>k b u e,fun b u e _ _ _=>⟨u.slots,k b u e⟩,fun b u e n _=>by rw[aI (fun z=>by subst z;rw[m]at e;cases e)];exact n,fun b u e _=>⟨u,k b u e⟩,fun b xs e=>by rw[aI (bp e f)];exact e,fun b u xs e=>by rw[aI (bp e f)];exact e,fun b ps e=>⟨#[],by rw[aI (bp e f),e];simp⟩⟩
 refine I.un un fun b v e=>?_
 by_cases l:b=a
 . rw[l]at e ⊢;rw[aL]at e;cases e;exact j
 . rw[aI l]at e;exact(I.hok b v e).stay (fun c v _ q=>k c v q) (fun c q=>by rw[aI (bp q f)];exact q) fun c xs q=>by rw[aI (bp q f)];exact q
def G2(w:World)(l:Addr)(ns:List Nat):HO:=.ext fun h=>Sw.SetS h l (Sw.ledOf w) (Sw.putAll ns)
noncomputable def vN(n:Nat):V:=.int (n:Int)
theorem left_of:∀j f Q1,Vals (j.map vN) Q1->(∀n∈j,n∈[0,1,2,3,4])->Sw.Left (f++Q1).toArray f.length j
 |[],f,Q1,r,_=>by cases r;show(f++[]).toArray[f.length]?=none;simp
 | n :: j,f,Q1,r,h=>by
  cases r with
  |cons a t =>
   obtain⟨k,rfl⟩:=a;refine⟨⟨k,by simp⟩,h n Zo,?_⟩
   rename_i us;have:=left_of j (f++[.int (n:Int) k]) us t fun x m=>h x (Zp _ m)
   rw[ZV,Zk]at this;exact this
def Ca (C:X.calm=true):CallR X (.type "set") (fun xs H Q=>∃p f,xs=[.ref p]/\SqL X.K H p (f.map vN)/\(∀n∈f,n∈[0,1,2,3,4])/\∀l,H l=none->Q (.ref l) (upd H l (G2 X.w l f))):=by
 intro Q0 s σ H xs us Q I r h;obtain⟨p,f,rfl,B,D,q⟩:=h;obtain⟨u,rfl,t⟩:=iR r;cases t;obtain⟨Q1,r',pl,G⟩:=I.list B;refine Sw.set_small (I.ok.hd C) pl.isList (left_of f [] Q1 r' D) fun h' tk y m=>?_
 have j:=I.hok.fresh (ZM _);have v:s.heap.get? s.heap.objs.size=none:=by
  cases z:s.heap.get? s.heap.objs.size with
  |none=>rfl
  |some o=>exact absurd (ZT z) (ZJ _)
 refine⟨.ref s.heap.objs.size,_,kY I y v j (u:=G2 X.w s.heap.objs.size f) ⟨m,?_,fun h1 h2 x k=>x.same k⟩,rfl,q _ j⟩
 obtain⟨o,_,_,g,_⟩:=m;exact⟨o,g⟩
theorem sQ:∀{us}{ks:Yg Nat},IntsAre us (ks.map fun(k:Nat)=>(k:Int))->Vals (ks.map vN) us
 |_,[],h=>by cases h;exact .nil
 |_,k::ks,h=>by
  cases h with
  |cons _ t h=>exact .cons ⟨t,rfl⟩ (sQ h)
def yA (J:X.calm=true):CallR X (.builtin "sorted") (fun xs H Q=>∃p f,xs=[.ref p]/\H p=some (G2 X.w p f)/\(∀n∈f,n∈[0,1,2,3,4])/\∀l,H l=none->Q (.ref l) (upd H l (.lst ((Sw.srtN f).map vN)))):=by
 intro Q0 s σ H xs us Q I r h;obtain⟨p,f,rfl,G,O,q⟩:=h;obtain⟨u,rfl,x⟩:=iR r;cases x;obtain⟨v,_,_⟩:=I.hok p _ G;rw[Sw.putAll_srt O]at v;refine Sw.sorted_small (I.ok.hd J) v fun h1 h' tk j m D B L=>?_
 have y:s.heap.get? h1.objs.size=none:=by
  cases z:s.heap.get? h1.objs.size with
  |none=>rfl
  |some o=>exact absurd (ZT (m _ _ z)) (ZJ _)
 have t:=(I.hok.kept m).fresh (ZM _);obtain⟨e,he⟩:=B;have C:(Sw.srtN f).length<=5:=List.length_filter_le _ _;exact⟨.ref h1.objs.size,_,kY I (fun b o z=>D b o (m b o z)) y t (u:=.lst ((Sw.srtN f).map vN)) ⟨by rw[Zl];exact ZY C (by decide),j.toList,e,sQ L,by simpa using he⟩,rfl,q _ t⟩
theorem xp {F} {vs} {ds} {A} {ns} (r:RepOs K F H vs ds A):ip ds=some ns->vs=ns.map vN/\∀ n∈ns,n∈[0,1,2,3,4]:=by
 induction r using RepOs.ind generalizing ns with
 |nil=>intro e;cases e;exact⟨rfl,fun _ m=>nomatch m⟩
 | cons a t f =>
  intro e;unfold ip at e;split at e
  . rename_i i;split at e
    . rename_i hi;obtain ⟨ms,l,e⟩:=Za.mp e;cases e;obtain ⟨h1,h2⟩:=f l;subst h1;have j:∀ {v} {B},RepO K F H v (.int i) B->v=.int i:=fun r=>by
       cases r with
       |imm _ r=>cases r;rfl
      rw[j a];have:((i.toNat:Nat):Int)=i:=by lia
      refine⟨by show _=vN i.toNat::ms.map vN;unfold vN;rw[this],fun n m=>?_⟩
      rcases Zt.mp m with z|z
      . have c:i=0 \/ i=1 \/ i=2 \/ i=3 \/ i=4:=by lia
        rw[z];rcases c with rfl|rfl|rfl|rfl|rfl<;>decide
      . exact h2 n z
    . cases e
  . cases e
theorem sV{F}:∀(ks:Yg Nat),RepOs K F H (ks.map vN) (ks.map fun(k:Nat)=>D.int (k:Int)) []
 |[]=>.nil
 |k::ks=>.cons (.imm rfl (.int _)) (sV ks) rfl
def nN:bootBuiltins "sorted" = some (.builtin "sorted"):=by decide +kernel
def Co:bootBuiltins "set" = some (.type "set"):=by decide +kernel
variable {qual:Str} {tg iter cx:Expr} {Cs:Yg Yd} {fin:DS} {G:Yg D->Ye D} {X3 AA AA2:Nat->Yg Yd} {fd:FuncData} {fc:FT} {body:Yg Stmt}
inductive RQ where
 |nx (δ:DS)
 |rt (d:D) (δ:DS)
 |bk (δ:DS)
 |ct (δ:DS)
abbrev SQ:=DS->Option RQ
theorem EvW.refl{F}:EvW F H As F H As []:=⟨Same.refl F,fun _ _ h _=>h,fun _ _ _ n _=>n,fun i _ m=>.inl ⟨i,m⟩,fun _ m=>(nomatch m),Zy,fun _ _ _ z=>(nomatch z)⟩
def EvW.grew{F}(s:Same H H'):EvW F H As F H' As []:=EvW.refl.grow s
def EvW.go{F}(a:EvW F H As F1 H1 Q4 [])(b:EvW F1 H1 Q4 F2 H2 Q5 B):EvW F H As F2 H2 Q5 B:=a.seq b fun _ m=>nomatch m
def EvW.keep{F}(e:EvW F H As F' H' Q2 A)(h:∀i a,a∈Q5 i->(∃j,a∈Q2 j)\/a∈A):EvW F H As F' H' Q5 [] :=
 ⟨e.fs,e.ks,e.nf,fun i a m=>by
  rcases h i a m with⟨j,z⟩|z
  . exact e.fa j a z
  . exact e.fA a z,fun _ m=>(nomatch m),Zy,fun _ _ _ z=>(nomatch z)⟩
def RPQ(X:Cx)(Z:L2.St->Prop)(E:GE)(F H:Hp)(As:Nat->List Addr):RQ->Prop
 |.nx δ=>∀σ' F' H' Q2,EvW F H As F' H' Q2 []->RepA X.K F' H' σ' δ Q2->Z σ'->E.nx σ' H'
 |.rt d δ=>∀v σ' F' H' Q2 A,EvW F H As F' H' Q2 A->RepA X.K F' H' σ' δ Q2->Z σ'->RepO X.K F' H' v d A->E.rt v H'
 |.bk δ=>∀σ' F' H' Q2,EvW F H As F' H' Q2 []->RepA X.K F' H' σ' δ Q2->Z σ'->E.bk σ' H'
 |.ct δ=>∀σ' F' H' Q2,EvW F H As F' H' Q2 []->RepA X.K F' H' σ' δ Q2->Z σ'->E.ct σ' H'
def RPQ.mono{E}{F}{r}(s:EvW F H As F1 H1 Q4 [])(h:RPQ X Z E F H As r):RPQ X Z E F1 H1 Q4 r:=by
 cases r with
 |nx δ=>exact fun f F' H' Q2 e=>h f F' H' Q2 (s.go e)
 |rt d δ=>exact fun v f F' H' Q2 A e=>h v f F' H' Q2 A (s.go e)
 |bk δ=>exact fun f F' H' Q2 e=>h f F' H' Q2 (s.go e)
 |ct δ=>exact fun f F' H' Q2 e=>h f F' H' Q2 (s.go e)
def upQ(X:Cx)(Z:L2.St->Prop)(s:SQ):TS:=fun E σ H=>∃F δ As r,RepA X.K F H σ δ As/\Z σ/\s δ=some r/\RPQ X Z E F H As r
def PQ(X:Cx)(Z:L2.St->Prop)(st:Stmt)(s:SQ):Prop:=PS X st (upQ X Z s)
def PQs(X:Cx)(Z:L2.St->Prop)(sts:List Stmt)(s:SQ):Prop:=PSs X sts (upQ X Z s)
def ml{t}{f}(h:PS X st t)(w:∀{E σ H F δ As r},RepA X.K F H σ δ As->Z σ->f δ=some r->RPQ X Z E F H As r->t E σ H):PQ X Z st f:=Pn h fun _ _ _ h=>h.elim fun _ h=>h.elim fun _ h=>h.elim fun _ h=>h.elim fun _ h=>w h.1 h.2.1 h.2.2.1 h.2.2.2
def J6{st}{t}{f}(h:PSs X st t)(w:∀{E σ H F δ As r},RepA X.K F H σ δ As->Z σ->f δ=some r->RPQ X Z E F H As r->t E σ H):PQs X Z st f:=Oj h fun _ _ _ h=>h.elim fun _ h=>h.elim fun _ h=>h.elim fun _ h=>h.elim fun _ h=>w h.1 h.2.1 h.2.2.1 h.2.2.2
def ZO(Z:L2.St->Prop)(i:Nat):Prop:=∀σ v,Z σ->Z (σ.set i (some v))
noncomputable def bd:SQ:=fun δ=>some (.nx δ)
noncomputable def qD:SQ:=fun _=>none
noncomputable def ah(s u:SQ):SQ:=fun δ=>(s δ).bind fun r=>match r with
 |.nx δ'=>u δ'
 |r=>some r
noncomputable def qIf(c:FT)(s u:SQ):SQ:=fun δ=>(c δ).bind fun b=>if b=true then s δ else u δ
noncomputable def lW(c:FM)(s u:SQ):SQ:=fun δ=>(c δ).bind fun p=>match p.1 with
 |.bl b=>if b=true then s p.2 else u p.2
 |_=>none
noncomputable def dB(i:Nat)(f:FM):SQ:=fun δ=>(f δ).bind fun p=>some (.nx (p.2.set i (some p.1)))
def aB(i:Nat)(f:FM):SQ:=fun δ=>(f δ).bind fun p=>some (.nx (p.2.set i (some (sh p.1))))
noncomputable def aR(f:FM):SQ:=fun δ=>(f δ).bind fun p=>some (.rt p.1 p.2)
noncomputable def bI(f:FM):SQ:=fun δ=>(f δ).bind fun p=>some (.nx p.2)
noncomputable def eR:Nat->FT->SQ->SQ
 |0,_,_=>fun _=>none
 |n+1,c,s=>fun δ=>(c δ).bind fun b=>if b=true then(s δ).bind fun r=>match r with
  |.nx δ'=>eR n c s δ'
  |.ct δ'=>eR n c s δ'
  |.bk δ'=>some (.nx δ')
  |.rt d δ'=>some (.rt d δ')
  else some (.nx δ)
theorem RepA.setQ{F}{d}(R:RepA K F' H' σ δ Q2)(e:EvW F H As F' H' Q2 A)(i) (r:RepO K F' H' v d A) :
 ∃Q5,EvW F H As F' H' Q5 []/\RepA K F' H' (σ.set i (some v)) (δ.set i (some d)) Q5:=by
 by_cases hi:i<δ.length
 . refine ⟨g8 Q2 i A,e.keep fun j a m=>?_,R.set i hi r e.nd fun j a _ m=>e.dj j a m⟩
   by_cases f:j=i
   . subst f;rw[aD]at m;exact .inr m
   . rw[aG f]at m;exact .inl ⟨j,m⟩
 . have l:=R.len;rw [List.set_eq_of_length_le (by lia),List.set_eq_of_length_le (by lia)]
   exact⟨Q2,e.bare,R⟩
theorem EvW.freeze{F}{d}(e:EvW F H As F1 H1 Q4 A)(R:RepA K F1 H1 σ δ Q4)(r:RepO K F1 H1 v d A) :
 ∃F2,EvW F H As F2 H1 Q4 []/\RepA K F2 H1 σ δ Q4/\RepO K F2 H1 v (sh d) []/\Rep K F2 v (sh d):=by
 have f:=nr (A:=A) R.fz;have l:Same (frz F1 H1 A) H1:=uU;have z:=r.freeze f nu fun a vs m e=>qb e m
 have z2:=RepO.of_sh l z;rw[mR d]at z2;refine⟨frz F1 H1 A,⟨e.fs.trans f,e.ks,fun a u h n m=>?_,e.fa,fun _ m=>(nomatch m),Zy,fun _ _ _ z=>(nomatch z)⟩,R.froz f l fun j a m=>?_,z2,z⟩
 . refine gE (e.ks a _ h m) (e.nf a u h n m) fun z=>?_
   rcases e.fA a z with⟨j,y⟩|y
   . exact m j y
   . rw[h]at y;cases y
 . obtain⟨⟨vs,q⟩,n⟩:=R.dom m;exact gE q n (e.dj j a m)
section
variable {Q8:Yg Stmt} {s u:SQ} {c:FT} {pos:Pos}
def Lf:PQs X Z [] bd:=J6 HG fun{E σ H F δ As r} R z e k=>by cases e;exact k σ F H As EvW.refl R z
def HL(h1:PQ X Z st s)(h2:PQs X Z Q8 u):PQs X Z (st::Q8) (ah s u):=J6 (DP h1 h2) fun{E σ H F δ As r} R z e k=>by
 unfold ah at e;obtain⟨f,m,e⟩:=Za.mp e;refine⟨F,δ,As,f,R,z,m,?_⟩;cases f with
 |nx δ'=>exact fun j F' H' Q2 l o z1=>⟨F',δ',Q2,r,o,z1,e,k.mono l⟩
 |rt d δ'=>cases e;exact k
 |bk δ'=>cases e;exact k
 |ct δ'=>cases e;exact k
def Le(h:PQ X Z st s):PQs X Z [st] s:=HF h
def DX:PQ X Z st qD:=ml DT fun{E σ H F δ As r} R z e k=>by cases e
def NO{a b}(j:PTD X cx c)(m:PQs X Z a s)(l:PQs X Z b u):PQ X Z (.If cx a b pos) (qIf c s u):=ml (JZ j m l) fun{E σ H F δ As r} R z q k=>by
 unfold qIf at q;obtain⟨d,o,q⟩:=Za.mp q;refine⟨δ,d,R.toS,o,fun H' f=>?_⟩
 cases d with
 |true=>rw[if_pos rfl]at q ⊢;exact⟨F,δ,As,r,R.grow f,z,q,k.mono (EvW.grew f)⟩
 |false=>rw[if_neg ZB]at q ⊢;exact⟨F,δ,As,r,R.grow f,z,q,k.mono (EvW.grew f)⟩
def Lb(i) (j:ZO Z i) (p:X.N.Nodup) (he:PW X e fm) (hi:X.N[i]?=some x:=by kernel_rfl) (l:Loc X.env.scope x:=by exact loX (by kernel_rfl)) (m:swapsWith e (some (.Name x X2)) pos.line X.env=pure false:=by rfl) (o:FoX X x:=by exact foX (by kernel_rfl)) :
 PQ X Z (.Assign [.Name x X2] e pos) (dB i fm):=ml (DR p hi l he m o) fun{E σ H F δ As r} R z q k=>by
 unfold dB at q;obtain⟨⟨d,δ'⟩,t,q⟩:=Za.mp q;cases q;refine⟨F,δ,As,d,δ',R,t,fun v F' H' A Q2 s u r'=>?_⟩
 obtain⟨Q5,f,R2⟩:=u.setQ s i r';exact k _ F' H' Q5 f R2 (j σ v z)
def HH(i) (l:ZO Z i) (t:X.N.Nodup) (he:PW X e fm) (hi:X.N[i]?=some x:=by kernel_rfl) (o:Loc X.env.scope x:=by exact loX (by kernel_rfl)) (p:swapsWith e (some (.Name x X2)) pos.line X.env=pure false:=by rfl) (s:FoX X x:=by exact foX (by kernel_rfl)) :
 PQ X Z (.Assign [.Name x X2] e pos) (aB i fm):=ml (DR t hi o he p s) fun{E σ H F δ As r} R z q k=>by
 unfold aB at q;obtain⟨⟨d,δ'⟩,y,q⟩:=Za.mp q;cases q;refine⟨F,δ,As,d,δ',R,y,fun v F' H' A Q2 u C r'=>?_⟩
 obtain⟨F2,j,R2,m,_⟩:=u.freeze C r';obtain⟨X3,f,B⟩:=R2.setQ j i m;exact k _ F2 H' X3 f B (l σ v z)
def Lc(he:PW X e fm):PQ X Z (.Return (some e) pos) (aR fm):=ml (K9 he) fun{E σ H F δ As r} R z q k=>by unfold aR at q;obtain⟨⟨d,δ'⟩,j,q⟩:=Za.mp q;cases q;exact⟨F,δ,As,d,δ',R,j,fun v F' H' A Q2 f l r'=>k v σ F' H' Q2 A f l z r'⟩
def HJ(he:PW X e fm)(f:swapsWith e none pos.line X.env=pure false:=by rfl):PQ X Z (.Expr e pos) (bI fm):=ml (pW he f) fun{E σ H F δ As r} R z q k=>by unfold bI at q;obtain⟨⟨d,δ'⟩,l,q⟩:=Za.mp q;cases q;exact⟨F,δ,As,d,δ',R,l,fun v F' H' A Q2 j m r'=>k σ F' H' Q2 j.bare m z⟩
def DW(n) (t:PassesOwn (model X.prog X.w) X.A X.env X.xe) (u:PTD X cx c) (v:PQs X Z body s):PQ X Z (.While cx body [] pos) (eR n c s):=ml (DQ t u v) fun{E σ H F δ As r} R z e k=>by
 refine⟨fun m σ H=>∃F δ As r,RepA X.K F H σ δ As/\Z σ/\eR m c s δ=some r/\RPQ X Z E F H As r,⟨n,F,δ,As,r,R,z,e,k⟩,?_⟩
 rintro m σ H ⟨F,δ,As,r,R,z,e,k⟩
 cases m with
 |zero=>exact absurd e (by intro z;cases z)
 | succ m =>
  obtain⟨b,x,e⟩:=Za.mp (e);refine⟨δ,b,R.toS,x,fun H1 j=>?_⟩
  cases b with
  |true =>
   rw[if_pos rfl];obtain⟨p,y,e⟩:=Za.mp (e);refine⟨fun f H'=>∃q,q<m+1/\∃F δ As r,RepA X.K F H' f δ As/\Z f/\eR q c s δ=some r/\RPQ X Z E F H' As r,fun _ _ z=>z,⟨F,δ,As,p,R.grow j,z,y,?_⟩⟩
   have l:=k.mono (EvW.grew j);cases p with
   |nx δ'=>exact fun f F' H' Q2 o R2 z2=>⟨m,Nat.lt_succ_self m,F',δ',Q2,r,R2,z2,e,l.mono o⟩
   |ct δ'=>exact fun f F' H' Q2 o R2 z2=>⟨m,Nat.lt_succ_self m,F',δ',Q2,r,R2,z2,e,l.mono o⟩
   |bk δ'=>cases e;exact l
   |rt d δ'=>cases e;exact l
  |false =>rw[if_neg ZB];cases e;exact k σ F H1 As (EvW.grew j) (R.grow j) z
end
mutual
noncomputable def noo:D->Bool
 |.tup ds=>pP ds
 |.lst _=>false
 |.oo _ _ _=>false
 |_=>true
noncomputable def pP:List D->Bool
 |[]=>true
 |d::ds=>noo d&&pP ds
end
section
variable {F:Hp}
theorem RepO.noo_:(∀{v}{d}{A},RepO K F H v d A->noo d=true->A=[])/\∀{vs}{ds}{A},RepOs K F H vs ds A->pP ds=true->A=[] :=
 RepO.both (fun _ _ _=>rfl) (fun _ _=>rfl) (fun _ _ q i=>q (by rw[noo]at i;exact i)) (fun _ _ _ _ i=>by rw[noo]at i;cases i) (fun _ _=>rfl) (fun _ _=>rfl) (fun _ _ _ _ _ i=>by rw[noo]at i;cases i) (fun _=>rfl) fun _ _ p q i=>by rw[pP,ZN]at i;rw[p i.1,q i.2];rfl
def RepO.noo_nil:∀{v}{d}{A},RepO K F H v d A->noo d=true->A=[]:=RepO.noo_.1
def RepOs.noo_nil:∀{vs}{ds}{A},RepOs K F H vs ds A->pP ds=true->A=[]:=RepO.noo_.2
noncomputable def M1(A:List Addr)(As:Nat->List Addr):Nat->List Addr
 |0=>A
 |j+1=>As j
def RepA.cons {v} {d} {A:Yg Yd} (R:RepA K F H σ δ As) (r:RepO K F H v d A) (o:A.Nodup) (l:∀ j a,a∈As j->a ∉ A):RepA K F H (some v :: σ) (some d :: δ) (M1 A As):=by
 refine⟨R.fz,by simp[R.len],fun i e q=>?_,fun i h=>?_,fun i=>?_,fun i j a f m=>?_⟩
 . cases i with
   |zero=>cases q;exact⟨v,rfl,r⟩
   |succ i=>exact R.val i e q
 . cases i with
   |zero=>exact absurd rfl (h d)
   |succ i=>exact R.non i h
 . cases i with
   |zero=>exact o
   |succ i=>exact R.nd i
 . cases i with
   |zero =>
    cases j with
    |zero=>exact absurd rfl f
    |succ j=>exact fun z=>l j a z m
   |succ i =>
    cases j with
    |zero=>exact l i a m
    |succ j=>exact R.dj i j a (fun z=>f (Z8 (· + 1) z)) m
def RepOs.toA(s:Same F H){vs}{ds}{A}(r:RepOs K F H vs ds A):A.Nodup->∃AA,RepA K F H (vs.map some) (ds.map some) AA/\∀j a,a∈AA j->a∈A:=by
 induction r using RepOs.ind with
 |nil=>exact fun _=>⟨fun _=>[],⟨s,rfl,fun i d q=>(nomatch q),fun _ _=>rfl,fun _=>Zy,fun _ _ _ _ m=>nomatch m⟩,fun _ _ m=>nomatch m⟩
 |cons r t l =>
  intro f;have n2:=Z0.mp f;obtain⟨AA,R,h⟩:=l n2.2.1;refine⟨_,R.cons r n2.1 fun j a m z=>n2.2.2 a z a (h j a m) rfl,fun j a m=>?_⟩
  cases j with
  |zero=>exact ZE _ m
  |succ j=>exact ZD _ (h j a m)
theorem RepA.tail{o}{p}(R:RepA K F H (o::σ) (p::δ) As):RepA K F H σ δ fun j=>As (j+1) :=
 ⟨R.fz,by have:=R.len;simpa using this,fun i d q=>R.val (i+1) d q,fun i h=>R.non (i+1) h,fun i=>R.nd (i+1),fun i j a f m=>R.dj (i+1) (j+1) a (fun z=>f (by lia)) m⟩
theorem RepA.pad(R:RepA K F H σ δ As)(n):RepA K F H (σ++List.replicate n none) (δ++List.replicate n none) As:=by
 refine⟨R.fz,by simp[R.len],fun i d q=>?_,fun i h=>?_,R.nd,R.dj⟩
 . by_cases hi:i < δ.length
   . rw [List.getElem?_append_left hi] at q;rw [List.getElem?_append_left (by rw [R.len];exact hi)]
     exact R.val i d q
   . rw [List.getElem?_append_right (by lia),List.getElem?_replicate] at q
     split at q<;>cases q
 . refine R.non i fun d z=>h d ?_
   rw[List.getElem?_append_left (ZL.mp z).1];exact z
noncomputable def r9(n:Nat)(As:Nat->List Addr):Nat->List Addr:=fun j=>if j<n then As j else[]
theorem RepA.cut{ws}(R:RepA K F H σ δ As)(n) (l:ws.length=n) (h:∀j,j<n->σ[j]?=ws[j]?):RepA K F H ws (δ.take n) (r9 n As):=by
 have o:n<=σ.length:=by
  by_cases z:n<=σ.length
  . exact z
  . have:=h σ.length (by lia)
    rw[List.getElem?_eq_none (ZM _),Zx (by lia)]at this
    cases this
 refine⟨R.fz,by rw[l,List.length_take,<- R.len];lia,fun i d q=>?_,fun i q=>?_,fun i=>?_,fun i j a f m=>?_⟩
 . rw [List.getElem?_take] at q;split at q
   . rename_i hi;obtain ⟨v,h1,h2⟩:=R.val i d q;refine ⟨v,by rw [<- h i hi];exact h1,?_⟩
     unfold r9;rw[if_pos hi];exact h2
   . cases q
 . unfold r9;split
   . rename_i hi;refine R.non i fun d z=>q d ?_
     rw[List.getElem?_take,if_pos hi];exact z
   . rfl
 . unfold r9;split
   . exact R.nd i
   . exact Zy
 . unfold r9 at m ⊢;split at m
   . split
     . exact R.dj i j a f m
     . exact fun z=>nomatch z
   . cases m
def uh{a}(m:a∈r9 n As j):a∈As j:=by
 unfold r9 at m;split at m
 . exact m
 . cases m
def EvW.sub(e:EvW F H As F2 H2 Q5 A)(h:∀i a,a∈X3 i->a∈Q5 i):EvW F H As F2 H2 X3 A:=⟨e.fs,e.ks,e.nf,fun i a m=>e.fa i a (h i a m),e.fA,e.nd,fun i a m=>e.dj i a (h i a m)⟩
def RepA.beside(R:RepA K F H σ δ As)(l:EvW F H AA F2 H2 AA2 B)(o:Cw H AA)(f:Same F2 H2)(p:∀i j a,a∈As i->a∉AA j):RepA K F2 H2 σ δ As :=
 ⟨f,R.len,fun i d q=>let ⟨v,h1,h2⟩:=R.val i d q;⟨v,h1,l.stays o h2 fun j a m z=>p i j a z m⟩,R.non,R.nd,R.dj⟩
def EvW.call(l:EvW F H As F1 H1 Q4 A)(f:EvW F1 H1 AA F2 H2 AA2 B)(sub:∀j a,a∈AA j->a∈A)(r:Cw H1 Q4)(p:∀i a,a∈X3 i->(∃j,a∈Q4 j)\/∃j,a∈AA2 j):EvW F H As F2 H2 X3 B:=by
 have o:∀a u,H a=some u->(∀i,a∉As i)->∀j,a∉AA j:=fun a u h n j m=>by
  rcases l.fA a (sub j a m)with⟨i,z⟩|z
  . exact n i z
  . rw[h]at z;cases z
 have old:∀a,(∃j,a∈AA j)\/H1 a=none->(∃j,a∈As j)\/H a=none:=fun a h=>by
  rcases h with⟨j,z⟩|z
  . exact l.fA a (sub j a z)
  . exact l.old z
 refine⟨l.fs.trans f.fs,fun a u h n=>f.ks a u (l.ks a u h n) (o a u h n),fun a u h n m=>f.nf a u (l.ks a _ h m) (l.nf a u h n m) (o a _ h m),fun i a m=>?_,fun a m=>old a (f.fA a m),f.nd,fun i a m z=>?_⟩
 . rcases p i a m with ⟨j,y⟩ | ⟨j,y⟩
   . exact l.fa j a y
   . exact old a (f.fa j a y)
 . rcases p i a m with ⟨j,y⟩ | ⟨j,y⟩
   . rcases f.fA a z with ⟨q,w⟩ | w
     . exact l.dj j a y (sub q a w)
     . obtain⟨u,e⟩:=r j a y;rw[w]at e;cases e
   . exact f.dj j a y z
end
def aa(i:Nat):FM:=fun δ=>match δ[i]? with
 |some (some d)=>if noo d then some (d,δ)else some (d,δ.set i none)
 |_=>none
def Lk(σ:L2.St):List (Option Nat)->List V->Prop
 |[],[]=>True
 |none::bs,_::vs=>Lk σ bs vs
 |some i::bs,v::vs=>σ[i]?=some (some v)/\Lk σ bs vs
 |_,_=>False
def O0(K:ZA)(bs:List (Option Nat))(f:FMA):TA:=fun σ H Q=>∃F δ As ds δ',RepA K F H σ δ As/\f δ=some (ds,δ')/\∀vs F' H' A Q2,EvW F H As F' H' Q2 A->RepA K F' H' σ δ' Q2->RepOs K F' H' vs ds A->Lk σ bs vs->Q vs H'
def PLA(X:Cx)(es:List Expr)(bs:List (Option Nat))(f:FMA):Prop:=PA X es (O0 X.K bs f)
def Fb{t}{bs}{f}(h:PA X es t)(w:∀{σ H Q F δ As ds δ'},RepA X.K F H σ δ As->f δ=some (ds,δ')->(∀vs F' H' A Q2,EvW F H As F' H' Q2 A->RepA X.K F' H' σ δ' Q2->RepOs X.K F' H' vs ds A->Lk σ bs vs->Q vs H')->t σ H Q):PLA X es bs f:=Fc h fun _ _ _ h=>h.elim fun _ h=>h.elim fun _ h=>h.elim fun _ h=>h.elim fun _ h=>h.elim fun _ h=>w h.1 h.2.1 h.2.2
theorem qW:∀{bs}{vs},Lk σ bs vs->vs.length=bs.length
 |[],[],_=>rfl
 |none::_,_::_,h=>Z8 (· + 1) (qW (h))
 |some _::_,_::_,h=>Z8 (· + 1) (qW h.2)
 |[],_::_,h=>Z9 h
 |none::_,[],h=>Z9 h
 |some _::_,[],h=>Z9 h
def RepA.take{F}{d}(R:RepA K F H σ δ As)(e:aa i δ=some (d,δ1)):∃v A Q4,σ[i]?=some (some v)/\EvW F H As F H Q4 A/\RepA K F H σ δ1 Q4/\RepO K F H v d A:=by
 unfold aa at e;split at e
 . rename_i o h;obtain ⟨v,h1,h2⟩:=R.val i _ h;split at e
   . rename_i l;cases e;rw[h2.noo_nil l]at h2;exact⟨v,[],As,h1,EvW.refl,R,h2⟩
   . cases e;refine ⟨v,As i,g8 As i [],h1,⟨Same.refl F,fun _ _ h _=>h,fun _ _ _ n _=>n,fun j a m=>?_,fun a m=>.inl ⟨i,m⟩,R.nd i,fun j a m=>?_⟩,R.drop i,h2⟩
     . by_cases f:j=i
       . subst f;rw[aD]at m;cases m
       . rw[aG f]at m;exact .inl ⟨j,m⟩
     . by_cases f:j=i
       . subst f;rw[aD]at m;cases m
       . rw[aG f]at m;exact R.dj j i a f m
 . cases e
section
variable {g:FMA} {bs:Yg (Ye Nat)} {pos:Pos}
def HU:PLA X [] [] ak:=Fb gl fun{σ H Q F δ As ds δ'} R q k=>by cases q;exact k [] F H [] As EvW.refl R .nil True.intro
def Eb(z:PW X e fm)(y:PLA X es bs g)(u:PlX X e es:=by rfl):PLA X (e::es) (none::bs) (ae fm g):=Fb (bZ z y u) fun{σ H Q F δ As ds δ'} R q k=>by
 unfold ae at q;obtain⟨⟨G,δ1⟩,D,q⟩:=Za.mp q;obtain⟨⟨p,o⟩,C,q⟩:=Za.mp q;cases q;refine⟨F,δ,As,G,δ1,R,D,fun v F1 H1 A Q4 j s r=>⟨F1,δ1,Q4,p,o,s,C,fun vs F2 H2 B Q5 f R2 t l=>?_⟩⟩
 exact k (v::vs) F2 H2 (A++B) Q5 (j.seq f fun x m=>(r.dom x m).1) R2 (.cons (f.stays s.domA r j.dj) t rfl) l
def Ea(i) (u:PLA X es bs g) (y:NmX X i x:=by kernel_rfl):PLA X (.Name x pos::es) (some i::bs) (ae (aa i) g):=Fb (bZ (jP y) u rfl) fun{σ H Q F δ As ds δ'} R q k=>by
 unfold ae at q;obtain⟨⟨D,δ1⟩,C,q⟩:=Za.mp q;obtain⟨⟨o,s⟩,z,q⟩:=Za.mp q;cases q;obtain⟨v,A,Q4,h1,j,r,p⟩:=R.take C;refine⟨v,h1,F,δ1,Q4,o,_,r,z,fun vs F2 H2 B Q5 f R2 t l=>?_⟩
 exact k (v::vs) F2 H2 (A++B) Q5 (j.seq f fun x m=>(p.dom x m).1) R2 (.cons (f.stays r.domA p j.dj) t rfl) ⟨h1,l⟩
def Hh(i) (l:NmX X i x:=by kernel_rfl):PW X (.Name x pos) (aa i) :=
 cH (jP l) fun{σ H Q F δ As d δ'} R q k=>by obtain⟨v,A,Q4,h1,f,m,j⟩:=R.take q;exact⟨v,h1,k v F H A Q4 f m j⟩
end
abbrev GQ:=List D->Option (D×DS)
def ii(K:ZA)(n:Nat)(G:GQ):Sp:=fun vs H Q _=>vs.length=n/\∃F ds AA r fin,RepA K F H (vs.map some) (ds.map some) AA/\G ds=some (r,fin) /\
 ∀v F' H' AA' A,EvW F H AA F' H' AA' A->RepA K F' H' (vs.map some) fin AA'->RepO K F' H' v r A->Q v H'
noncomputable def aE(n:Nat):Option RQ->Option (D×DS)
 |some (.rt d δ)=>some (d,δ.take n)
 |some (.nx δ)=>some (.non,δ.take n)
 |_=>none
section
theorem N6{f}{G}(F:Fun K x qual st f fd)(S:iH N ps (aU st))
 (p:∀ Q9 A outer s H E ds r fin,Room k (A.deeper (envOfC qual (aU st) s.heap.objs.size f Q9))->G ds=some (r,fin)->ds.length=ps.length ->
  ∃t,(∀Z,(∀i,ps.length<=i->ZO Z i)->PQs (rQ CX0 P w K mg base N qual (aU st) f Q9 A outer s H E).nox Z (cB st) t)/\aE ps.length (t (Dl.start N.length ds))=some (r,fin)):jc P w K mg base CX0 (k+1) f fd ps (ii K ps.length G):=by
 refine F.ok S (fun vs H Q E h=>h.1) (fun Q9 A outer s H vs Q E V h=>?_)
 obtain⟨y,O,ds,AA,r,fin,R,e,q⟩:=h;have L:ds.length=vs.length:=by have:=R.len;simpa using this.symm
 obtain⟨t,U,o⟩:=p Q9 A outer s H E ds r fin V e (L.trans y);have X:RepA K O H (L2.start N vs) (Dl.start N.length ds) AA:=by unfold L2.start Dl.start;rw[L];exact R.pad _
 have J:∀j,j<ps.length->(L2.start N vs)[j]?=(vs.map some)[j]?:=fun j l=>by unfold L2.start;rw[List.getElem?_append_left (by simpa[y]using l)]
 refine⟨_,U (fun σ=>∀j,j<ps.length->σ[j]?=(L2.start N vs)[j]?) (fun i hi σ v z j l=>by rw[List.getElem?_set_ne (by lia)];exact z j l),O,Dl.start N.length ds,AA,?_⟩
 cases z:t (Dl.start N.length ds)with
 |none=>rw[z]at o;cases o
 |some u =>
  rw[z]at o;refine⟨u,X,fun _ _=>rfl,rfl,?_⟩
  cases u with
  |rt d δ=>cases o;exact fun v B F' H' Q2 A D I C r'=>q v F' H' _ A (D.sub fun i a m=>uh m) (I.cut ps.length (by simpa using y) fun j l=>(C j l).trans (J j l)) r'
  |nx δ=>cases o;exact fun B F' H' Q2 D I C=>q .non F' H' _ [] (D.sub fun i a m=>uh m) (I.cut ps.length (by simpa using y) fun j l=>(C j l).trans (J j l)) (.imm rfl .non)
  |bk δ=>cases o
  |ct δ=>cases o
def IK{q}{f}(F:Fun K x qual st f fd)(S:iH N [q] (aU st))
 (l:∀ Q9 A outer s H E (j:Yg Int),Room k (A.deeper (envOfC qual (aU st) s.heap.objs.size f Q9))->j.length<=63 ->
  ∃t δ,PQs (rQ CX0 P w K mg base N qual (aU st) f Q9 A outer s H E).nox (fun _=>True) (cB st) t/\t (Dl.start N.length [.seq (j.map D.int)])=some (.rt (.bl true) δ)):jc P w K mg base CX0 (k+1) f fd [q] (spLaw K):=by
 refine F.ok S (fun vs H Q E h=>?_) (fun Q9 A outer s H vs Q E r h=>?_)
 . obtain⟨a,j,rfl,_⟩:=h;rfl
 obtain⟨a,j,rfl,z,y,q⟩:=h;obtain⟨t,δ,p,u⟩:=l Q9 A outer s H E j r y;have o:RepO K H H (.ref a) (.seq (j.map D.int)) []:=.shr (.seq z (Reps.ints j));obtain⟨AA,R,_⟩:=(RepOs.cons o .nil rfl:RepOs K H H [.ref a] [.seq (j.map D.int)] []).toA (Same.refl H) Zy;refine⟨_,p,H,Dl.start N.length [.seq (j.map D.int)],AA,_,R.pad (N.length-1),True.intro,u,fun v m F' H' Q2 A C B _ r'=>?_⟩
 cases r'.rep B.fz;exact q H'
end
noncomputable def ij:List (Option Nat)->DS->DS->DS
 |some i::bs,o::fin,δ=>ij bs fin (δ.set i o)
 |none::bs,_::fin,δ=>ij bs fin δ
 |_,_,δ=>δ
theorem nO{F}:∀{bs}{vs}{fin δ}{As AA},RepA K F H σ δ As->RepA K F H (vs.map some) fin AA->Lk σ bs vs->(∀i j a,a∈As i->a∉AA j) ->
 ∃Q5,RepA K F H σ (ij bs fin δ) Q5/\∀i a,a∈Q5 i->(∃j,a∈As j)\/∃j,a∈AA j
 |[],vs,fin,δ,As,AA,R,Rf,lk,dj=>by
  cases fin with
  |nil=>exact⟨As,R,fun i a m=>.inl ⟨i,m⟩⟩
  |cons o fin=>exact⟨As,R,fun i a m=>.inl ⟨i,m⟩⟩
 | none :: bs,v :: vs,fin,δ,As,AA,R,Rf,lk,dj=>by
  cases fin with
  |nil=>exact⟨As,R,fun i a m=>.inl ⟨i,m⟩⟩
  |cons o fin =>
   obtain⟨Q5,R2,h⟩:=nO R Rf.tail lk fun i j a m=>dj i (j+1) a m
   exact⟨Q5,R2,fun i a m=>(h i a m).imp id fun ⟨j,z⟩=>⟨j+1,z⟩⟩
 | some i :: bs,v :: vs,fin,δ,As,AA,R,Rf,lk,dj=>by
  cases fin with
  |nil=>exact⟨As,R,fun i a m=>.inl ⟨i,m⟩⟩
  | cons o fin =>
   have hi:i<δ.length:=by rw[<- R.len];exact(ZL.mp lk.1).1
   have p:σ.set i (some v)=σ:=by
    refine List.ext_getElem? fun j=>?_
    rw[List.getElem?_set];split
    . rename_i f;subst f;rw[lk.1,if_pos (by rw[R.len];exact hi)]
    . rfl
   have step:∃Q4,RepA K F H σ (δ.set i o) Q4/\∀j a,a∈Q4 j->a∈As j\/a∈AA 0:=by
    cases o with
    |none =>
     refine⟨_,R.drop i,fun j a m=>?_⟩
     by_cases f:j=i
     . subst f;rw[aD]at m;cases m
     . rw[aG f]at m;exact .inl m
    |some d =>
     obtain⟨q,h1,h2⟩:=Rf.val 0 d rfl;cases h1;have l:=R.set i hi h2 (Rf.nd 0) fun j a _ m=>dj j 0 a m
     rw[p]at l;refine⟨_,l,fun j a m=>?_⟩
     by_cases f:j=i
     . subst f;rw[aD]at m;exact .inr m
     . rw[aG f]at m;exact .inl m
   obtain⟨Q4,l,h1⟩:=step;obtain⟨Q5,R2,h⟩:=nO l Rf.tail lk.2 fun k j a m=>by
    rcases h1 k a m with z|z
    . exact dj k (j+1) a z
    . exact Rf.dj 0 (j+1) a (by lia) z
   refine⟨Q5,R2,fun k a m=>?_⟩
   rcases h k a m with⟨j,z⟩|⟨j,z⟩
   . rcases h1 j a z with y | y
     . exact .inl ⟨j,y⟩
     . exact .inr ⟨0,y⟩
   . exact .inr ⟨j+1,z⟩
 |none::_,[],_,_,_,_,_,_,lk,_=>Z9 lk
 |some _::_,[],_,_,_,_,_,_,lk,_=>Z9 lk
def aj(bs:List (Option Nat))(G:GQ)(g:FMA):FM:=fun δ=>(g δ).bind fun p=>(G p.1).bind fun q=>some (q.1,ij bs q.2 p.2)
def oW{F}{bs}{G}{r}{Q}{E}(p:EvW F H As F1 H1 Q4 A)(o:RepA K F1 H1 σ δ1 Q4)(x:RepOs K F1 H1 vs ds A)(lk:Lk σ bs vs)(D:vs.length=n)(J:G ds=some (r,fin))
 (k:∀v F' H' A Q2,EvW F H As F' H' Q2 A->RepA K F' H' σ (ij bs fin δ1) Q2->RepO K F' H' v r A->Q v H'):ii K n G vs H1 Q E:=by
 obtain⟨AA,s,sub⟩:=x.toA o.fz p.nd;refine⟨D,F1,ds,AA,r,fin,s,J,fun v F2 H2 AA2 B f l t=>?_⟩
 have q:∀i j a,a∈Q4 i->a∉AA j:=fun i j a m z=>p.dj i a m (sub j a z)
 have R2:=o.beside f s.domA l.fz q;obtain⟨X3,L,I⟩:=nO R2 l lk fun i j a m z=>by
  rcases f.fa j a z with⟨C,y⟩|y
  . exact q i C a m y
  . obtain⟨⟨u,e⟩,_⟩:=o.dom m;rw[y]at e;cases e
 exact k v F2 H2 B X3 (p.call f sub o.domA I) L t
class yO(P:Program)(w:World)(K:ZA)(mg:Str->Option Value)(base:Heap)(k:outParam Nat)(x:outParam Str)(ps:outParam (List Str))(G:GQ):Prop where
 ex:∃f fd,jc P w K mg base CX0 k f fd ps (ii K ps.length G)/\mg x=some (.ref f)/\W.keepIn K (.ref f)=true/\Binds K fd ps []
section
variable {g:FMA} {bs:Yg (Ye Nat)} {pos:Pos} {G:GQ}
def DG(F:yO X.prog X.w X.K X.mg X.base k x ps G)(t:Room j X.A)(B:PLA X (e::es) bs g)(hk:k<=j:=by decide)(y:Gl X x:=by rfl)(u:bs.length=ps.length:=by kernel_rfl)(l:NbX x:=by kernel_rfl)
 (he:PlX X e es:=by rfl) (hpl:BkX X pos es:=by rfl):PW X (.Call (.Name x p) (e::es) [] pos) (aj bs G g):=by
 obtain⟨f,fd,F,v,s,z⟩:=F.ex;refine cH (mZ F (t.mono hk) y v s z .nil iU B l he hpl) fun{σ H Q J δ As d δ'} R q k=>?_
 unfold aj at q;obtain⟨⟨ds,δ1⟩,m,q⟩:=Za.mp q;obtain⟨⟨r,fin⟩,D,q⟩:=Za.mp q;cases q;refine⟨J,δ,As,ds,δ1,R,m,fun vs F1 H1 A Q4 C I o lk=>?_⟩
 show ii X.K ps.length G (vs++[]) H1 Q E0;rw[Zj];exact oW C I o lk ((qW lk).trans u) D k
def aS(G:GQ)(g:FA):FD:=fun δ=>(g δ).bind fun ds=>(G (shs ds)).bind fun q=>some q.1
def oH{r}{Q}{E}(j:Same H H1)(m:Reps K H1 vs ds)(o:vs.length=n)(q:G (shs ds)=some (r,fin))(k:∀v H',Same H H'->Rep K H' v r->Q v H'):ii K n G vs H1 Q E:=by obtain⟨AA,s,_⟩:=(RepOs.of_sh (Same.refl H1) m).toA (Same.refl H1) Zy;exact⟨o,H1,shs ds,AA,r,fin,s,q,fun v F' H' t A p f l=>k v H' (j.trans (p.fs.trans f.fz)) (l.rep f.fz)⟩
def Et(F:yO X.prog X.w X.K X.mg X.base k x ps G)(v:Room j X.A)(D:PAD X (e::es) ga)(hk:k<=j:=by decide)(B:Gl X x:=by rfl)(y:(e::es).length=ps.length:=by kernel_rfl)(m:NbX x:=by kernel_rfl)
 (he:PlX X e es:=by rfl) (hpl:BkX X pos es:=by rfl):PD X (.Call (.Name x p) (e::es) [] pos) (aS G ga):=by
 obtain⟨f,fd,F,z,u,C⟩:=F.ex;refine gp (mZ F (v.mono hk) B z u C .nil iU D m he hpl) fun{σ H Q δ d} R q k=>?_
 unfold aS at q;obtain⟨ds,o,q⟩:=Za.mp q;obtain⟨⟨r,fin⟩,I,q⟩:=Za.mp q;cases q;refine⟨δ,ds,R,o,fun vs H1 s t l=>?_⟩
 show ii X.K ps.length G (vs++[]) H1 Q E0;rw[Zj];exact oH s t (l.trans y) I k
end
inductive AK where
 |val
 |lent (i:Nat)
 |view (i:Nat)
def LkV(σ:L2.St):List AK->List V->Prop
 |[],[]=>True
 |.val::bs,_::vs=>LkV σ bs vs
 |.lent i::bs,v::vs=>σ[i]?=some (some v)/\LkV σ bs vs
 |.view i::bs,v::vs=>σ[i]?=some (some v)/\LkV σ bs vs
 |_,_=>False
noncomputable def vD:List AK->List V->List V
 |.view _::bs,_::vs=>vD bs vs
 |_::bs,v::vs=>v::vD bs vs
 |_,_=>[]
noncomputable def ik:List AK->DS->List D->Option (List D)
 |[],_,[]=>some []
 |.view i::bs,δ,ds=>match δ[i]? with
  |some (some d)=>(ik bs δ ds).map (sh d::·)
  |_=>none
 |.val::bs,δ,d::ds=>(ik bs δ ds).map (d::·)
 |.lent _::bs,δ,d::ds=>(ik bs δ ds).map (d::·)
 |_,_,_=>none
def uH:Option D->Bool
 |some d=>own d
 |none=>true
noncomputable def g7:List AK->DS->DS->Option DS
 |.lent i::bs,o::fin,δ=>if uH o then g7 bs fin (δ.set i o)else none
 |.val::bs,_::fin,δ=>g7 bs fin δ
 |.view _::bs,_::fin,δ=>g7 bs fin δ
 |_,_,δ=>some δ
noncomputable def io:List AK->List Nat
 |[]=>[]
 |.view i::bs=>i::io bs
 |_::bs=>io bs
noncomputable def jQ:List AK->List Nat
 |[]=>[]
 |.lent i::bs=>i::jQ bs
 |_::bs=>jQ bs
noncomputable def jT(As:Nat->List Addr):List Nat->List Addr
 |[]=>[]
 |i::is=>As i++jT As is
theorem oG{a}:∀{is},a∈jT As is->∃i∈is,a∈As i
 |i::is,m=>by
  rcases Zs.mp (m)with z|z
  . exact⟨i,Zo,z⟩
  . obtain⟨j,h1,h2⟩:=oG z;exact⟨j,Zp _ h1,h2⟩
theorem ui{a}:∀{is},i∈is->a∈As i->a∈jT As is
 |j::is,m,h=>by
  rcases Zt.mp m with z|z
  . subst z;exact ZE _ h
  . exact ZD _ (ui z h)
theorem nc:∀{bs}{vs},LkV σ bs vs->vs.length=bs.length
 |[],[],_=>rfl
 |.val::_,_::_,h=>Z8 (· + 1) (nc (h))
 |.lent _::_,_::_,h=>Z8 (· + 1) (nc h.2)
 |.view _::_,_::_,h=>Z8 (· + 1) (nc h.2)
 |[],_::_,h=>Z9 h
 |.val::_,[],h=>Z9 h
 |.lent _::_,[],h=>Z9 h
 |.view _::_,[],h=>Z9 h
def OZ(K:ZA)(bs:List AK)(f:FMA):TA:=fun σ H Q=>∃F δ As ds δ',RepA K F H σ δ As/\f δ=some (ds,δ')/\∀vs F' H' A Q2,EvW F H As F' H' Q2 A->RepA K F' H' σ δ' Q2->RepOs K F' H' (vD bs vs) ds A->LkV σ bs vs->Q vs H'
def PLV(X:Cx)(es:List Expr)(bs:List AK)(f:FMA):Prop:=PA X es (OZ X.K bs f)
def zN{t}{bs}{f}(h:PA X es t)(w:∀{σ H Q F δ As ds δ'},RepA X.K F H σ δ As->f δ=some (ds,δ')->(∀vs F' H' A Q2,EvW F H As F' H' Q2 A->RepA X.K F' H' σ δ' Q2->RepOs X.K F' H' (vD bs vs) ds A->LkV σ bs vs->Q vs H')->t σ H Q):PLV X es bs f:=Fc h fun _ _ _ h=>h.elim fun _ h=>h.elim fun _ h=>h.elim fun _ h=>h.elim fun _ h=>h.elim fun _ h=>w h.1 h.2.1 h.2.2
section
variable {g:FMA} {bs:Yg AK} {pos:Pos}
def HR:PLV X [] [] ak:=zN gl fun{σ H Q F δ As ds δ'} R q k=>by cases q;exact k [] F H [] As EvW.refl R .nil True.intro
def D5(z:PW X e fm)(y:PLV X es bs g)(u:PlX X e es:=by rfl):PLV X (e::es) (.val::bs) (ae fm g):=zN (bZ z y u) fun{σ H Q F δ As ds δ'} R q k=>by
 unfold ae at q;obtain⟨⟨G,δ1⟩,D,q⟩:=Za.mp q;obtain⟨⟨p,o⟩,C,q⟩:=Za.mp q;cases q;refine⟨F,δ,As,G,δ1,R,D,fun v F1 H1 A Q4 j s r=>⟨F1,δ1,Q4,p,o,s,C,fun vs F2 H2 B Q5 f R2 t l=>?_⟩⟩
 exact k (v::vs) F2 H2 (A++B) Q5 (j.seq f fun x m=>(r.dom x m).1) R2 (.cons (f.stays s.domA r j.dj) t rfl) l
def D4(i) (u:PLV X es bs g) (y:NmX X i x:=by kernel_rfl):PLV X (.Name x pos::es) (.lent i::bs) (ae (aa i) g):=zN (bZ (jP y) u rfl) fun{σ H Q F δ As ds δ'} R q k=>by
 unfold ae at q;obtain⟨⟨D,δ1⟩,C,q⟩:=Za.mp q;obtain⟨⟨o,s⟩,z,q⟩:=Za.mp q;cases q;obtain⟨v,A,Q4,h1,j,r,p⟩:=R.take C;refine⟨v,h1,F,δ1,Q4,o,_,r,z,fun vs F2 H2 B Q5 f R2 t l=>?_⟩
 exact k (v::vs) F2 H2 (A++B) Q5 (j.seq f fun x m=>(p.dom x m).1) R2 (.cons (f.stays r.domA p j.dj) t rfl) ⟨h1,l⟩
noncomputable def cO(i:Nat)(g:FMA):FMA:=fun δ=>match δ[i]? with
 |some (some _)=>g δ
 |_=>none
def D3(i) (m:PLV X es bs g) (o:NmX X i x:=by kernel_rfl):PLV X (.Name x pos::es) (.view i::bs) (cO i g):=zN (bZ (jP o) m rfl) fun{σ H Q F δ As ds δ'} R q k=>by
 unfold cO at q;split at q
 . rename_i p h;obtain⟨v,h1,h2⟩:=R.val i _ h;exact⟨v,h1,F,δ,As,ds,δ',R,q,fun vs F2 H2 B Q5 f R2 j l=>k (v::vs) F2 H2 B Q5 f R2 j ⟨h1,l⟩⟩
 . cases q
end
theorem mJ{F FC}(R:RepA K F H σ δ As)(f:Same F FC)(p:Same FC H)(s:dU H FC):∀{bs}{vs}{ds es}{A},(∀i∈io bs,∀a u,a∈As i->H a=some u->FC a=some u)->RepOs K F H (vD bs vs) ds A->(∀a∈A,FC a=none)->LkV σ bs vs->ik bs δ ds=some es->RepOs K FC H vs es A
 |[],[],[],es,A,hv,r,n,lk,e=>by cases e;cases r;exact .nil
 |.view i::bs,v::vs,ds,es,A,hv,r,n,lk,e=>by
  unfold ik at e;split at e
  . rename_i d y;obtain ⟨l,o,rfl⟩:=Zb.mp e;obtain ⟨B,h1,h2⟩:=R.val i _ y;rw [lk.1] at h1;cases h1;have z:=h2.freeze f s fun a u m q=>hv i (by rw [io];exact Zo) a u m q
    have z2:=RepO.of_sh p z;rw[mR d]at z2;exact .cons z2 (mJ R f p s (fun j m=>hv j (by rw[io];exact Zp _ m)) r n lk.2 o) rfl
  . cases e
 |.val::bs,v::vs,d::ds,es,A,hv,r,n,lk,e=>by
  obtain⟨l,o,rfl⟩:=Zb.mp (e);cases r with
  |cons r t x =>subst x;exact .cons (r.froz f fun a m=>n a (ZE _ m)) (mJ (bs:=bs) R f p s hv t (fun a m=>n a (ZD _ m)) lk o) rfl
 |.lent i::bs,v::vs,d::ds,es,A,hv,r,n,lk,e=>by
  obtain⟨l,o,rfl⟩:=Zb.mp (e);cases r with
  |cons r t x =>subst x;exact .cons (r.froz f fun a m=>n a (ZE _ m)) (mJ (bs:=bs) R f p s hv t (fun a m=>n a (ZD _ m)) lk.2 o) rfl
 |[],_::_,_,_,_,_,_,_,lk,_=>Z9 lk
 |.val::_,[],_,_,_,_,_,_,lk,_=>Z9 lk
 |.lent _::_,[],_,_,_,_,_,_,lk,_=>Z9 lk
 |.view _::_,[],_,_,_,_,_,_,lk,_=>Z9 lk
 |[],[],_::_,_,_,_,_,_,_,e=>by cases e
 |.val::_,_::_,[],_,_,_,_,_,_,e=>by cases e
 |.lent _::_,_::_,[],_,_,_,_,_,_,e=>by cases e
theorem nQ {F} (s:Same F F2):∀ {bs} {vs} {fin δ δ3} {As AA},RepA K F H σ δ As->RepA K F2 H (vs.map some) fin AA->LkV σ bs vs->(∀ i j a,a∈As i->a ∉ AA j)->g7 bs fin δ=some δ3 ->
 ∃Q5,RepA K F H σ δ3 Q5/\(∀i a,a∈Q5 i->(∃j,a∈As j)\/∃j,a∈AA j)/\(∀i,i∉jQ bs->Q5 i=As i)/\∀i,i∉jQ bs->δ3[i]?=δ[i]?
 |[],vs,fin,δ,δ3,As,AA,R,Rf,lk,dj,e=>by cases fin<;>(cases e;exact⟨As,R,fun i a m=>.inl ⟨i,m⟩,fun _ _=>rfl,fun _ _=>rfl⟩)
 |.val::bs,v::vs,[],δ,δ3,As,AA,R,Rf,lk,dj,e=>by cases e;exact⟨As,R,fun i a m=>.inl ⟨i,m⟩,fun _ _=>rfl,fun _ _=>rfl⟩
 |.view _::bs,v::vs,[],δ,δ3,As,AA,R,Rf,lk,dj,e=>by cases e;exact⟨As,R,fun i a m=>.inl ⟨i,m⟩,fun _ _=>rfl,fun _ _=>rfl⟩
 |.lent _::bs,v::vs,[],δ,δ3,As,AA,R,Rf,lk,dj,e=>by cases e;exact⟨As,R,fun i a m=>.inl ⟨i,m⟩,fun _ _=>rfl,fun _ _=>rfl⟩
 |.val::bs,v::vs,o::fin,δ,δ3,As,AA,R,Rf,lk,dj,e=>by
  obtain⟨Q5,R2,h,p,l⟩:=nQ s R Rf.tail lk (fun i j a m=>dj i (j+1) a m) e
  exact⟨Q5,R2,fun i a m=>(h i a m).imp id fun ⟨j,z⟩=>⟨j+1,z⟩,p,l⟩
 |.view _::bs,v::vs,o::fin,δ,δ3,As,AA,R,Rf,lk,dj,e=>by
  obtain⟨Q5,R2,h,p,l⟩:=nQ s R Rf.tail lk.2 (fun i j a m=>dj i (j+1) a m) e
  exact⟨Q5,R2,fun i a m=>(h i a m).imp id fun ⟨j,z⟩=>⟨j+1,z⟩,p,l⟩
 |.lent i::bs,v::vs,o::fin,δ,δ3,As,AA,R,Rf,lk,dj,e=>by
  by_cases t:uH o=true
  . rw [g7,if_pos t] at e;have hi:i < δ.length:=by rw [<- R.len];exact (ZL.mp lk.1).1
    have r:σ.set i (some v)=σ:=by
     refine List.ext_getElem? fun j=>?_
     rw[List.getElem?_set];split
     . rename_i f;subst f;rw[lk.1,if_pos (by rw[R.len];exact hi)]
     . rfl
    have step:∃Q4,RepA K F H σ (δ.set i o) Q4/\(∀j a,a∈Q4 j->a∈As j\/a∈AA 0)/\∀j,j≠i->Q4 j=As j:=by
     cases o with
     |none =>
      refine⟨_,R.drop i,fun j a m=>?_,fun j f=>aG f⟩
      by_cases f:j=i
      . subst f;rw[aD]at m;cases m
      . rw[aG f]at m;exact .inl m
     |some d =>
      obtain⟨x,h1,h2⟩:=Rf.val 0 d rfl;cases h1;have q:=R.set i hi (h2.thaw s t) (Rf.nd 0) fun j a _ m=>dj j 0 a m
      rw[r]at q;refine⟨_,q,fun j a m=>?_,fun j f=>aG f⟩
      by_cases f:j=i
      . subst f;rw[aD]at m;exact .inr m
      . rw[aG f]at m;exact .inl m
    obtain⟨Q4,q,h1,u⟩:=step;obtain⟨Q5,R2,h,p,l⟩:=nQ s q Rf.tail lk.2 (fun k j a m=>by
     rcases h1 k a m with z|z
     . exact dj k (j+1) a z
     . exact Rf.dj 0 (j+1) a (by lia) z) e
    refine⟨Q5,R2,fun k a m=>?_,fun j f=>?_,fun j f=>?_⟩
    . rcases h k a m with ⟨j,z⟩ | ⟨j,z⟩
      . rcases h1 j a z with y | y
        . exact .inl ⟨j,y⟩
        . exact .inr ⟨0,y⟩
      . exact .inr ⟨j+1,z⟩
    . rw [jQ] at f;have:j ≠ i/\j ∉ jQ bs:=⟨fun z=>f (z ▸ Zo),fun z=>f (Zp _ z)⟩
      rw[p j this.2,u j this.1]
    . rw [jQ] at f;have:j ≠ i/\j ∉ jQ bs:=⟨fun z=>f (z ▸ Zo),fun z=>f (Zp _ z)⟩
      rw[l j this.2,List.getElem?_set_ne (Ne.symm this.1)]
  . rw[g7,if_neg t]at e;cases e
 |.val::_,[],_,_,_,_,_,_,_,lk,_,_=>Z9 lk
 |.lent _::_,[],_,_,_,_,_,_,_,lk,_,_=>Z9 lk
 |.view _::_,[],_,_,_,_,_,_,_,lk,_,_=>Z9 lk
def b7(bs:List AK)(G:GQ)(g:FMA):FM:=fun δ=>(g δ).bind fun p=>(ik bs p.2 p.1).bind fun ds=>(G ds).bind fun q=>if own q.1 then(g7 bs q.2 p.2).bind fun δ2=>some (q.1,δ2)else none
def rX{F}{δ2}{bs}{es}{G}{r}{Q}{E}(l:EvW F H As F1 H1 Q4 A)(o:RepA K F1 H1 σ δ1 Q4)(S:RepOs K F1 H1 (vD bs vs) ds A)(lk:LkV σ bs vs)(hn:vs.length=n)
 (ew:ik bs δ1 ds=some es) (eG:G es=some (r,fin)) (ho:own r=true) (eb:g7 bs fin δ1=some δ2) (k:∀v F' H' A Q2,EvW F H As F' H' Q2 A->RepA K F' H' σ δ2 Q2->RepO K F' H' v r A->(∀i,i∉jQ bs->Q2 i=Q4 i/\δ2[i]?=δ1[i]?/\∀a∈Q4 i,H' a=H1 a)->Q v H'):ii K n G vs H1 Q E:=by
 have O:=nr (A:=jT Q4 (io bs)) o.fz;have L:Same (frz F1 H1 (jT Q4 (io bs))) H1:=uU;have dA:∀a∈A,frz F1 H1 (jT Q4 (io bs)) a=none:=fun a m=>by
  obtain⟨⟨u,e⟩,n⟩:=S.dom a m;refine gE e n fun z=>?_
  obtain⟨i,_,y⟩:=oG z;exact l.dj i a y m
 have C:=mJ o O L nu (fun i m a u ma e=>qb e (ui m ma)) S dA lk ew
 obtain⟨AA,X,sub⟩:=C.toA L l.nd;refine⟨hn,_,es,AA,r,fin,X,eG,fun v F2 H2 AA2 B f s Z=>?_⟩
 have t:∀i j a,a∈Q4 i->a∉AA j:=fun i j a m z=>l.dj i a m (sub j a z)
 have p:∀a,(∃j,a∈AA j)\/H1 a=none->∀i,a∉Q4 i:=fun a h i m=>by
  rcases h with⟨j,z⟩|z
  . exact t i j a m z
  . obtain⟨⟨u,e⟩,_⟩:=o.dom m;rw[z]at e;cases e
 have I:∀i j a,a∈Q4 i->a∉AA2 j:=fun i j a m z=>p a (f.fa j a z) i m
 have x:Same (wS F2 (jT Q4 (io bs))) F2:=Jt;have J:Same F1 (wS F2 (jT Q4 (io bs))):=fun a u e=>by
  rw[vj fun m=>?_]
  . exact f.fs a u (O a u e)
  . obtain⟨i,_,y⟩:=oG m;rw[(o.dom y).2]at e;cases e
 have nB:∀i a,a∈Q4 i->wS F2 (jT Q4 (io bs)) a=none:=fun i a m=>by
  by_cases h:a∈jT Q4 (io bs)
  . exact wR h
  . rw[vj h];obtain⟨⟨u,e⟩,n⟩:=o.dom m;exact f.nf a u e (gE e n h) fun j=>t i j a m
 have kI:=f.ki X.domA;have R2:RepA K (wS F2 (jT Q4 (io bs))) H2 σ δ1 Q4:=⟨x.trans s.fz,o.len,fun i d q=>by
  obtain⟨Y,h1,h2⟩:=o.val i d q;refine⟨Y,h1,(h2.frame kI fun a m=>?_).froz J (nB i)⟩
  obtain⟨⟨u,e⟩,_⟩:=h2.dom a m;rw[e];exact f.ks a _ e fun j=>t i j a m,o.non,o.nd,o.dj⟩
 obtain⟨X3,R3,V,h4,h5⟩:=nQ x R2 s lk I eb;refine k v _ H2 B X3 ?_ R3 (Z.thaw x ho) fun i hi=>⟨h4 i hi,h5 i hi,fun a m=>?_⟩
 rotate_left
 . obtain⟨⟨u,e⟩,_⟩:=o.dom m;rw[e];exact f.ks a _ e fun j=>t i j a m
 have U:∀a u,H a=some u->(∀i,a∉As i)->∀j,a∉AA j:=fun a u h n j m=>by
  rcases l.fA a (sub j a m)with⟨i,z⟩|z
  . exact n i z
  . rw[h]at z;cases z
 have old:∀a,(∃j,a∈AA j)\/H1 a=none->(∃j,a∈As j)\/H a=none:=fun a h=>by
  rcases h with⟨j,z⟩|z
  . exact l.fA a (sub j a z)
  . exact l.old z
 refine⟨l.fs.trans J,fun a u h n=>f.ks a u (l.ks a u h n) (U a u h n),fun a u h n m=>?_,fun i a m=>?_,fun a m=>old a (f.fA a m),f.nd,fun i a m z=>?_⟩
 . by_cases D:a∈jT Q4 (io bs)
   . exact wR D
   . rw[vj D];exact f.nf a u (l.ks a _ h m) (gE (l.ks a _ h m) (l.nf a u h n m) D) (U a _ h m)
 . rcases V i a m with ⟨j,y⟩ | ⟨j,y⟩
   . exact l.fa j a y
   . exact old a (f.fa j a y)
 . rcases V i a m with ⟨j,y⟩ | ⟨j,y⟩
   . exact p a (f.fA a z) j y
   . exact f.dj j a y z
section
variable {g:FMA} {bs:Yg AK} {pos:Pos} {G:GQ}
def DF(F:yO X.prog X.w X.K X.mg X.base k x ps G)(u:Room j X.A)(I:PLV X (e::es) bs g)(hk:k<=j:=by decide)(C:Gl X x:=by rfl)(z:bs.length=ps.length:=by kernel_rfl)(l:NbX x:=by kernel_rfl)
 (he:PlX X e es:=by rfl) (hpl:BkX X pos es:=by rfl):PW X (.Call (.Name x p) (e::es) [] pos) (b7 bs G g):=by
 obtain⟨f,fd,F,B,t,D⟩:=F.ex;refine cH (mZ F (u.mono hk) C B t D .nil iU I l he hpl) fun{σ H Q Y δ As d δ'} R q k=>?_
 unfold b7 at q;obtain⟨⟨ds,δ1⟩,m,q⟩:=Za.mp q;obtain⟨U,J,q⟩:=Za.mp q;obtain⟨⟨r,fin⟩,S,q⟩:=Za.mp q;split at q
 . rename_i y;obtain ⟨o,O,q⟩:=Za.mp q;cases q;refine ⟨Y,δ,As,ds,δ1,R,m,fun vs F1 H1 A Q4 L V s lk=>?_⟩
   show ii X.K ps.length G (vs++[]) H1 Q E0;rw[Zj];exact rX L V s lk ((nc lk).trans z) J S y O fun v F' H' A Q2 e R r _=>k v F' H' A Q2 e R r
 . cases q
end
noncomputable def atP:D->List Nat->Option D
 |d,[]=>some d
 |.lst ds,k::p=>(ds[k]?).bind fun c=>atP c p
 |.oo _ _ ds,k::p=>(ds[k]?).bind fun c=>atP c p
 |_,_=>none
noncomputable def fF:D->List Nat->D->D
 |_,[],c=>c
 |.lst ds,k::p,c=>match ds[k]? with
  |some e=>.lst (ds.set k (fF e p c))
  |none=>.lst ds
 |.oo C xs ds,k::p,c=>match ds[k]? with
  |some e=>.oo C xs (ds.set k (fF e p c))
  |none=>.oo C xs ds
 |d,_,_=>d
inductive Pth(H:Hp):V->List Nat->V->Prop
 |nil (v:V):Pth H v [] v
 |lst {a:Addr} {vs:List V} {k:Nat} {u w:V} {p:List Nat} (h:H a=some (.lst vs)) (hk:vs[k]?=some u) (t:Pth H u p w):Pth H (.ref a) (k::p) w
 |oo {a C dx:Addr} {fs:List (Str×V)} {k:Nat} {f:Str} {u w:V} {p:List Nat} (h:H a=some (.ins C dx fs)) (hk:fs[k]?=some (f,u)) (t:Pth H u p w):Pth H (.ref a) (k::p) w
def Pth.det{v w w'}{p:Yg Nat}(r:Pth H v p w)(q:Pth H v p w'):w=w':=by
 induction r with
 |nil=>cases q;rfl
 |lst h hk _ j =>
  cases q with
  |lst g f t=>rw[h]at g;cases g;rw[hk]at f;cases f;exact j t
  |oo g=>rw[h]at g;cases g
 |oo h hk _ j =>
  cases q with
  |oo g f t=>rw[h]at g;cases g;rw[hk]at f;cases f;exact j t
  |lst g=>rw[h]at g;cases g
def Pth.mono(s:Same H H'){v w}{p}(r:Pth H v p w):Pth H' v p w:=by
 induction r with
 |nil v=>exact .nil v
 |lst h hk _ f=>exact .lst (s _ _ h) hk f
 |oo h hk _ f=>exact .oo (s _ _ h) hk f
theorem Pth.split:∀{p:Yg Nat}{v w:V},Pth H v (p++[k]) w->∃u,Pth H v p u/\Pth H u [k] w
 |[],v,w,h=>⟨v,.nil v,h⟩
 |_::p,_,w,h=>by
  cases h with
  |lst h hk t=>obtain⟨u,a,b⟩:=Pth.split t;exact⟨u,.lst h hk a,b⟩
  |oo h hk t=>obtain⟨u,a,b⟩:=Pth.split t;exact⟨u,.oo h hk a,b⟩
section
variable {F:Hp}
def RepO.oo_inv{xs}{v:V}{d:D}(r:RepO K F H v d A)(e:d=.oo C xs ds):∃a dx vs f,v=.ref a/\A=a::f/\H a=some (.ins C dx (xs.zip vs))/\F a=none/\xs.length=ds.length/\RepOs K F H vs ds f:=by
 cases r with
 |imm i=>rw[e,Dl.imm]at i;cases i
 |oo h n l r=>cases e;exact⟨_,_,_,_,rfl,rfl,h,n,l,r⟩
 |_=>cases e
def mU{α:Type}{l:Yg α}{x}(h:l[i]?=some x):l.set i x=l:=by
 refine List.ext_getElem? fun j=>?_
 rw[List.getElem?_set];split
 . rename_i f;subst f;rw[h,if_pos (ZL.mp h).1]
 . rfl
def RepO.pickP{p:Yg Nat}{v:V}{d c:D}{A:Yg Yd}(r:RepO K F H v d A)(e:atP d p=some c):∃w j B o,Pth H v p w/\RepO K F H w c B/\A=j++(B++o)/\(∀H',(∀a∈j,H' a=H a)->Pth H' v p w) /\
 ∀{H'}{L}{B'},dU H H'->(∀a,a∈j\/a∈o->H' a=H a)->RepO K F H' w L B'->RepO K F H' v (fF d p L) (j++(B'++o)):=by
 induction p generalizing v d c A with
 |nil =>
  have I:d=c:=by unfold atP at e;exact ZG e
  subst I;refine⟨v,[],A,[],.nil v,r,by simp,fun _ _=>.nil v,fun k h r'=>?_⟩
  unfold fF;simpa using r'
 | cons k p ih =>
  cases d with
  |lst ds =>
   obtain⟨c0,hk,I⟩:=Za.mp (e);obtain⟨a,vs,A0,rfl,rfl,h,n,O⟩:=r.lst_inv rfl;obtain⟨u,j,B0,o,z,U,rfl,Q⟩:=O.pick hk;obtain⟨w,y,B,t,pt,q,rfl,st,s⟩:=ih U I;refine⟨w,a::(j++y),B,t++o,.lst h z pt,q,by simp,fun H' f=>?_,fun{H' L B'} G f S=>?_⟩
   . exact .lst ((f a Zo).trans h) z (st H' fun x m=>f x (Zp _ (ZD _ m)))
   . have Z:=s G (fun x m=>f x (m.imp (fun m=>Zp _ (ZD _ m)) fun m=>ZE _ m)) S
     have J:=Q G (fun x m=>f x (m.imp (fun m=>Zp _ (ZE _ m)) fun m=>ZD _ m)) Z
     rw[mU z]at J;have Y:=RepO.lst ((f a (.inl Zo)).trans h) n J;rw[fF,hk];have X:a::(j++(y++(B'++t)++o))=a::(j++y)++(B'++(t++o)):=by simp
     rw[<- X];exact Y
  |oo C xs ds =>
   obtain⟨c0,hk,I⟩:=Za.mp (e);obtain⟨a,dx,vs,A0,rfl,rfl,h,n,l,O⟩:=r.oo_inv rfl;obtain⟨u,j,B0,o,z,U,rfl,Q⟩:=O.pick hk;obtain⟨w,y,B,t,pt,q,rfl,st,s⟩:=ih U I;have kl:k<xs.length:=by rw[l];exact(ZL.mp hk).1
   have hz:(xs.zip vs)[k]?=some (xs[k],u):=by rw[List.getElem?_zip_eq_some];exact⟨Zx kl,z⟩
   refine⟨w,a::(j++y),B,t++o,.oo h hz pt,q,by simp,fun H' f=>?_,fun{H' L B'} G f S=>?_⟩
   . exact .oo ((f a Zo).trans h) hz (st H' fun x m=>f x (Zp _ (ZD _ m)))
   . have Z:=s G (fun x m=>f x (m.imp (fun m=>Zp _ (ZD _ m)) fun m=>ZE _ m)) S
     have J:=Q G (fun x m=>f x (m.imp (fun m=>Zp _ (ZE _ m)) fun m=>ZD _ m)) Z
     rw[mU z]at J;have Y:=RepO.oo ((f a (.inl Zo)).trans h) n (by rw[List.length_set];exact l) J
     rw[fF,hk];have X:a::(j++(y++(B'++t)++o))=a::(j++y)++(B'++(t++o)):=by simp
     rw[<- X];exact Y
  |_=>cases e
def RepA.writeP{p}{d c c'}{l}{B' V':Yg Yd}{o}(R:RepA K F H σ δ As)(X:δ[i]?=some (some d))(C:σ[i]?=some (some v))(hp:Pth H v p (.ref l))(hc:atP d p=some c)(hn:noo c=false)(L:∀{B},l∉V'->(∀a∈V',a∉B)->RepO K F H (.ref l) c B->B.Nodup->∃B',RepO K F (upd H l o) (.ref l) c' B'/\B'.Nodup/\∀a∈B',a∈B\/a∈V')(s:∀j a,a∈As j->a∉V')
 (root:∀{B},RepO K F H (.ref l) c B->l∈B):∃Q5,RepA K F (upd H l o) σ (δ.set i (some (fF d p c'))) Q5/\l∈As i/\∀j a,a∈Q5 j->(∃k,a∈As k)\/a∈V':=by
 obtain⟨v',h1,r⟩:=R.val i d X;rw[C]at h1;cases h1;obtain⟨w,A1,B,A2,pt,S,J,_,Z⟩:=r.pickP hc;obtain rfl:=pt.det hp;have U:=R.nd i;rw[J]at U;have n1:=Z0.mp U;have n2:=Z0.mp n1.2.1;have Q:=root S;have G:l∈As i:=by rw[J];exact ZD _ (ZE _ Q)
 obtain⟨⟨u,hu⟩,nF⟩:=R.dom G;have V:dU H (upd H l o):=oM hu u.2;obtain⟨B',rB,O,q⟩:=L (fun z=>s i l G z) (fun a m z=>s i a (by rw[J];exact ZD _ (ZE _ z)) m) S n2.1
 have Y:=Z V (fun a m=>aI fun z=>by
  subst z;rcases m with m|m
  . exact n1.2.2 a m a (ZE _ Q) rfl
  . exact n2.2.2 a Q a m rfl) rB
 have hi:=(ZL.mp X).1;have f:∀a,a∈A1\/a∈B\/a∈A2->a∈As i:=fun a m=>by
  rw[J];rcases m with m|m|m
  . exact ZE _ m
  . exact ZD _ (ZE _ m)
  . exact ZD _ (ZD _ m)
 refine⟨_,R.write hi C V (Da R.fz nF) (fun j a t m=>aI fun z=>R.dj j i a t m (z▸G)) Y ?_ fun j a t m z=>?_,G,fun j a m=>?_⟩
 . refine Z0.mpr ⟨n1.1,Z0.mpr ⟨O,n2.2.1,fun x D y I e=>?_⟩,fun x D y I e=>?_⟩
   . subst e;rcases q x D with z | z
     . exact n2.2.2 x z x I rfl
     . exact s i x (f x (.inr (.inr I))) z
   . subst e;rcases Zs.mp I with z | z
     . rcases q x z with z | z
       . exact n1.2.2 x D x (ZE _ z) rfl
       . exact s i x (f x (.inl D)) z
     . exact n1.2.2 x D x (ZD _ z) rfl
 . rcases Zs.mp z with z | z
   . exact R.dj j i a t m (f a (.inl z))
   . rcases Zs.mp z with z | z
     . rcases q a z with z | z
       . exact R.dj j i a t m (f a (.inr (.inl z)))
       . exact s j a m z
     . exact R.dj j i a t m (f a (.inr (.inr z)))
 . by_cases t:j=i
   . subst t;rw [aD] at m;rcases Zs.mp m with z | z
     . exact .inl ⟨j,f a (.inl z)⟩
     . rcases Zs.mp z with z | z
       . rcases q a z with z | z
         . exact .inl ⟨j,f a (.inr (.inl z))⟩
         . exact .inr z
       . exact .inl ⟨j,f a (.inr (.inr z))⟩
   . rw[aG t]at m;exact .inl ⟨j,m⟩
def EvW.wrote{l}{o}(f:EvW F H As F1 H1 Q4 A)(m:l∈Q4 i)(h:∀j a,a∈Q5 j->(∃k,a∈Q4 k)\/a∈A):EvW F H As F1 (upd H1 l o) Q5 []:=by
 have e:=f.keep h;refine⟨e.fs,fun a u q n=>?_,e.nf,e.fa,e.fA,e.nd,e.dj⟩
 rw[aI fun z=>?_]
 . exact e.ks a u q n
 . subst z;rcases f.fa i a m with ⟨j,y⟩ | y
   . exact n j y
   . rw[q]at y;cases y
end
abbrev PF:=DS->Option (List Nat)
def tPl(K:ZA)(i:Nat)(s:PF):TE:=fun σ H Q=>∃F δ As p v w,RepA K F H σ δ As/\s δ=some p/\σ[i]?=some (some v)/\Pth H v p w/\∀H',Same H H'->Q w H'
def PPl(X:Cx)(e:Expr)(i:Nat)(s:PF):Prop:=PE X e (tPl X.K i s)
def E9{t}{f:PF}(h:PE X e t)(w:∀{σ H Q F δ As p v w},RepA X.K F H σ δ As->f δ=some p->σ[i]?=some (some v)->Pth H v p w->(∀H',Same H H'->Q w H')->t σ H Q):PPl X e i f:=imp h fun _ _ _ h=>by obtain⟨F,δ,As,p,v,y,a,b,c,d,e⟩:=h;exact w a b c d e
noncomputable def aC:PF:=fun _=>some []
noncomputable def eK(f:Str):List Str->Option Nat
 |[]=>none
 |g::r=>if g=f then some 0 else(eK f r).map (· + 1)
theorem j9{f}:∀{xs}{vs}{k}{g}{w:V},eK f xs=some k->(xs.zip vs)[k]?=some (g,w)->(xs.zip vs).lookup f=some w
 |[],_,_,_,_,h,_=>by cases h
 |x::xs,[],k,_,_,_,e=>by simp at e
 | x :: xs,v :: vs,k,g,w,h,e=>by
  unfold eK at h;split at h
  . rename_i j;cases h;simp only[List.zip_cons_cons,Zd]at e;obtain⟨rfl,rfl⟩:=e;show List.lookup f ((x,v)::xs.zip vs)=some v;rw[List.lookup_cons,j];simp
  . rename_i j;obtain ⟨k',h',rfl⟩:=Zb.mp h;have:=j9 (w:=w) h' (by simpa using e)
    show List.lookup f ((x,v)::xs.zip vs)=some w;rw[List.lookup_cons];have:(f==x)=false:=by
     cases q:f==x with
     |false=>rfl
     |true=>exact absurd (beq_iff_eq.mp q).symm j
    rw[this]
    assumption
noncomputable def iV(i:Nat)(Cs:List Addr)(f:Str)(s:PF):PF:=fun δ=>(s δ).bind fun p=>match δ[i]? with
 |some (some d)=>match atP d p with
  |some (.oo C xs _)=>if C∈Cs then(eK f xs).bind fun k=>some (p++[k])else none
  |_=>none
 |_=>none
noncomputable def pIx(i:Nat)(fb:FD)(s:PF):PF:=fun δ=>(s δ).bind fun p=>match δ[i]? with
 | some (some d)=>match atP d p with
  |some (.lst ds)=>(fb δ).bind fun x=>match x with
   |.int j=>(ixN ds.length j).bind fun k=>some (p++[k])
   |_=>none
  |_=>none
 |_=>none
section
variable {o:Expr} {s:PF} {pos:Pos} {f:Str}
def HV(i) (f:NmX X i x:=by kernel_rfl):PPl X (.Name x pos) i aC :=
 E9 (jP f) fun{σ H Q F δ As p v w} R e h pt k=>by cases e;cases pt;exact⟨v,h,k H (Same.refl H)⟩
def Lm (I:PPl X o i s) (z:∀ C∈Cs,Cls X.K C/\NoAttr X.K C f) (S:attributeBase o f X.env (eval o X.env)=eval o X.env:=by rfl):PPl X (.Attribute o f pos) i (iV i Cs f s) :=
 E9 (xF I S) fun {σ H Q F δ As p v w} R e h pt k=>by
  unfold iV at e;obtain⟨G,U,e⟩:=Za.mp e;split at e
  . rename_i d L;split at e
    . rename_i C xs ds O;split at e
      . rename_i y;obtain ⟨j,J,e⟩:=Za.mp e;cases e;obtain ⟨u,p1,p2⟩:=pt.split;refine ⟨F,δ,As,G,v,u,R,U,h,p1,fun H1 x=>?_⟩
        obtain⟨V,h1,r⟩:=R.val i d L;rw[h]at h1;cases h1;obtain⟨Y,A1,B,A2,m,D,_,_,_⟩:=r.pickP O;obtain rfl:=m.det p1;obtain⟨a,dx,vs,A0,rfl,_,q,_,l,Z⟩:=D.oo_inv rfl;cases p2 with
        |lst h2=>rw[q]at h2;cases h2
        |oo h2 hk t =>rw[q]at h2;cases h2;cases t;exact⟨a,C,dx,_,w,rfl,x _ _ q,(z C y).1,(z C y).2,j9 J hk,k H1 x⟩
      . cases e
    . cases e
  . cases e
def NQ (J:PPl X o i s) (U:PD X b fb) (I:iA b:=by intro _ _;rfl):PPl X (.Subscript o b pos) i (pIx i fb s) :=
 E9 (tt ix_list J U I) fun {σ H Q F δ As p v w} R e h pt k=>by
  unfold pIx at e;obtain⟨G,V,e⟩:=Za.mp e;split at e
  . rename_i d O;split at e
    . rename_i ds S;obtain ⟨x,ex,e⟩:=Za.mp e;split at e
      . rename_i j;obtain ⟨n,L,e⟩:=Za.mp e;cases e;obtain ⟨u,p1,p2⟩:=pt.split;refine ⟨F,δ,As,G,v,u,R,V,h,p1,fun H1 f=>⟨δ,.int j,(R.grow f).toS,ex,fun y H2 q z=>?_⟩⟩
        cases z;obtain⟨Y,h1,r⟩:=R.val i d O;rw[h]at h1;cases h1;obtain⟨Z,A1,B,A2,l,D,_,_,_⟩:=r.pickP S;obtain rfl:=l.det p1;obtain⟨a,vs,A0,rfl,_,m,_,C⟩:=D.lst_inv rfl;cases p2 with
        |oo h2=>rw[m]at h2;cases h2
        |lst h2 hk t =>rw[m]at h2;cases h2;cases t;refine⟨a,vs,j,w,rfl,rfl,SqL.of (q _ _ (f _ _ m)),?_,k H2 (f.trans q)⟩;unfold atI;rw[C.length,L];exact hk
      . cases e
    . cases e
  . cases e
end
def Kn(K:ZA)(i:Nat)(f:FM):TE:=fun σ H Q=>∃F δ As d δ',RepA K F H σ δ As/\f δ=some (d,δ')/\∀v F' H' A Q2,EvW F H As F' H' Q2 A->RepA K F' H' σ δ' Q2->RepO K F' H' v d A->Q2 i=As i->δ'[i]?=δ[i]?->(∀a∈As i,H' a=H a)->Q v H'
def PKp(X:Cx)(i:Nat)(e:Expr)(f:FM):Prop:=PE X e (Kn X.K i f)
def J7{t}{f}(h:PE X e t)(w:∀{σ H Q F δ As d δ'},RepA X.K F H σ δ As->f δ=some (d,δ')->(∀v F' H' A Q2,EvW F H As F' H' Q2 A->RepA X.K F' H' σ δ' Q2->RepO X.K F' H' v d A->Q2 i=As i->δ'[i]?=δ[i]?->(∀a∈As i,H' a=H a)->Q v H')->t σ H Q):PKp X i e f:=imp h fun _ _ _ h=>h.elim fun _ h=>h.elim fun _ h=>h.elim fun _ h=>h.elim fun _ h=>h.elim fun _ h=>w h.1 h.2.1 h.2.2
noncomputable def bE(i:Nat)(f:FM):FM:=fun δ=>match δ[i]? with
 |some (some d)=>(f (δ.set i none)).bind fun p=>some (p.1,p.2.set i (some d))
 |_=>none
section
variable {bs:Yg AK} {pos:Pos}
def Ia (i:Nat) (h:PW X e fm):PKp X i e (bE i fm):=J7 h fun {σ H Q F δ As d δ'} R q k=>by
 unfold bE at q;split at q
 . rename_i S t;obtain ⟨⟨L,δ1⟩,J,q⟩:=Za.mp q;cases q;obtain ⟨O,s,G⟩:=R.val i _ t;have B:=R.drop i;have hi:=(ZL.mp t).1;refine ⟨F,δ.set i none,g8 As i [],L,δ1,B,J,fun v F' H' A Q2 f C r'=>?_⟩
   have sub:∀j a,a∈g8 As i [] j->a∈As j/\j≠i:=fun j a m=>by
    by_cases o:j=i
    . subst o;rw[aD]at m;cases m
    . rw[aG o]at m;exact⟨m,o⟩
   have r:∀a,a∈As i->∀j,a∉g8 As i [] j:=fun a m j z=>R.dj j i a (sub j a z).2 (sub j a z).1 m
   have D:=f.stays B.domA G fun j a m z=>r a z j m
   have p:i<δ1.length:=by rw[<- C.len,R.len];exact hi
   have x:∀j a,a∈Q2 j->a∉As i:=fun j a m z=>by
    rcases f.fa j a m with⟨l,y⟩|y
    . exact r a z l y
    . obtain⟨⟨u,e⟩,_⟩:=R.dom z;rw[y]at e;cases e
   have R2:=C.set i p D (R.nd i) fun j a _ m=>x j a m
   rw[mU s]at R2;have I:∀a∈As i,H' a=H a:=fun a m=>by obtain⟨⟨u,e⟩,_⟩:=R.dom m;rw[e];exact f.ks a _ e (r a m)
   refine k v F' H' A _ ⟨f.fs,fun a u h n=>f.ks a u h fun j z=>n j (sub j a z).1,fun a u h n m=>f.nf a u h n fun j z=>m j (sub j a z).1,fun j a m=>?_,fun a m=>?_,f.nd,fun j a m z=>?_⟩ R2 r' aD (by rw[List.getElem?_set_self p,t]) I
   . by_cases o:j=i
     . subst o;rw[aD]at m;exact .inl ⟨j,m⟩
     . rw [aG o] at m;rcases f.fa j a m with ⟨l,y⟩ | y
       . exact .inl ⟨l,(sub l a y).1⟩
       . exact .inr y
   . rcases f.fA a m with ⟨l,y⟩ | y
     . exact .inl ⟨l,(sub l a y).1⟩
     . exact .inr y
   . by_cases o:j=i
     . subst o;rw [aD] at m;rcases f.fA a z with ⟨l,y⟩ | y
       . exact r a m l y
       . obtain⟨⟨u,e⟩,_⟩:=R.dom m;rw[y]at e;cases e
     . rw[aG o]at m;exact f.dj j a m z
 . cases q
def tNm(bs:List AK):TA:=fun σ H Q=>∃vs,LkV σ bs vs/\Q vs H
def PLN(X:Cx)(es:List Expr)(bs:List AK):Prop:=PA X es (tNm bs)
def Fa{t}{bs}(h:PA X es t)(w:∀{σ H Q vs},LkV σ bs vs->Q vs H->t σ H Q):PLN X es bs:=Fc h fun _ _ _ h=>h.elim fun _ h=>w h.1 h.2
noncomputable def takes:List AK->FMA
 |[]=>ak
 |.lent i::bs=>ae (aa i) (takes bs)
 |.view i::bs=>cO i (takes bs)
 |.val::_=>fun _=>none
def HS:PLN X [] []:=Fa gl fun{σ H Q vs} lk q=>by
 cases vs with
 |nil=>exact q
 |cons v vs=>exact Z9 lk
def D7(i) (f:PLN X es bs) (j:NmX X i x:=by kernel_rfl):PLN X (.Name x pos::es) (.lent i::bs):=Fa (bZ (jP j) f rfl) fun{σ H Q vs} lk q=>by
 cases vs with
 |nil=>exact Z9 lk
 |cons v vs=>exact⟨v,lk.1,vs,lk.2,q⟩
def D6(i) (f:PLN X es bs) (j:NmX X i x:=by kernel_rfl):PLN X (.Name x pos::es) (.view i::bs):=Fa (bZ (jP j) f rfl) fun{σ H Q vs} lk q=>by
 cases vs with
 |nil=>exact Z9 lk
 |cons v vs=>exact⟨v,lk.1,vs,lk.2,q⟩
end
def AM{d}(e:aa i δ=some (d,δ1))(h:j≠i):δ1[j]?=δ[j]?:=by
 unfold aa at e;split at e
 . split at e
   . cases e;rfl
   . cases e;exact List.getElem?_set_ne (Ne.symm h)
 . cases e
def RepA.takeN{F}{d}(R:RepA K F H σ δ As)(e:aa i δ=some (d,δ1)):∃v A Q4,σ[i]?=some (some v)/\EvW F H As F H Q4 A/\RepA K F H σ δ1 Q4/\RepO K F H v d A/\∀j,j≠i->Q4 j=As j:=by
 unfold aa at e;split at e
 . rename_i o h;obtain ⟨v,h1,h2⟩:=R.val i _ h;split at e
   . rename_i l;cases e;rw[h2.noo_nil l]at h2;exact⟨v,[],As,h1,EvW.refl,R,h2,fun _ _=>rfl⟩
   . cases e;refine ⟨v,As i,g8 As i [],h1,⟨Same.refl F,fun _ _ h _=>h,fun _ _ _ n _=>n,fun j a m=>?_,fun a m=>.inl ⟨i,m⟩,R.nd i,fun j a m=>?_⟩,R.drop i,h2,fun j f=>aG f⟩
     . by_cases f:j=i
       . subst f;rw[aD]at m;cases m
       . rw[aG f]at m;exact .inl ⟨j,m⟩
     . by_cases f:j=i
       . subst f;rw[aD]at m;cases m
       . rw[aG f]at m;exact R.dj j i a f m
 . cases e
theorem jY{F}:∀{bs}{vs}{δ δ1}{ds}{As},RepA K F H σ δ As->takes bs δ=some (ds,δ1)->LkV σ bs vs->∃A Q4,EvW F H As F H Q4 A/\RepA K F H σ δ1 Q4/\RepOs K F H (vD bs vs) ds A/\∀j,j∉jQ bs->Q4 j=As j/\δ1[j]?=δ[j]?
 |[],[],δ,δ1,ds,As,R,e,lk=>by cases e;exact⟨[],As,EvW.refl,R,.nil,fun _ _=>⟨rfl,rfl⟩⟩
 |.lent i::bs,v::vs,δ,δ1,ds,As,R,e,lk=>by
  obtain⟨⟨Q,u⟩,s,e⟩:=Za.mp (e);obtain⟨⟨G,t⟩,D,e⟩:=Za.mp e;cases e;obtain⟨O,A,L,h1,o,J,p,C⟩:=R.takeN s;rw[lk.1]at h1;cases h1;obtain⟨B,Q4,l,I,y,q⟩:=jY J D lk.2;refine⟨A++B,Q4,o.seq l fun x m=>(p.dom x m).1,I,.cons p y rfl,fun j r=>?_⟩
  have:j≠i/\j∉jQ bs:=⟨fun z=>r (z▸Zo),fun z=>r (Zp _ z)⟩
  exact⟨(q j this.2).1.trans (C j this.1),(q j this.2).2.trans (AM s this.1)⟩
 |.view i::bs,v::vs,δ,δ1,ds,As,R,e,lk=>by
  have f:cO i (takes bs) δ=some (ds,δ1):=e;unfold cO at f;split at f
  . exact jY (bs:=bs) R f lk.2
  . cases f
 |.val::_,_::_,_,_,_,_,_,e,_=>by cases e
 |[],_::_,_,_,_,_,_,_,lk=>Z9 lk
 |.val::_,[],_,_,_,_,_,_,lk=>Z9 lk
 |.lent _::_,[],_,_,_,_,_,_,lk=>Z9 lk
 |.view _::_,[],_,_,_,_,_,_,lk=>Z9 lk
def Eh {bs} {pos} {G} (i) (F:yO X.prog X.w X.K X.mg X.base k x ps G) (O:Room j X.A) (Z:PLN X (e :: es) bs) (Y:bs.length=ps.length:=by kernel_rfl) (hi:i ∉ jQ bs:=by decide) (hk:k<=j:=by decide) (V:Gl X x:=by rfl) (u:NbX x:=by kernel_rfl)
 (he:PlX X e es:=by rfl) (hpl:BkX X pos es:=by rfl):PKp X i (.Call (.Name x p) (e::es) [] pos) (b7 bs G (takes bs)):=by
 obtain⟨f,fd,F,U,I,hB⟩:=F.ex;refine J7 (mZ F (O.mono hk) V U I hB .nil iU Z u he hpl) fun{σ H Q F0 δ As d δ'} R q k=>?_
 unfold b7 at q;obtain⟨⟨ds,δ1⟩,l,q⟩:=Za.mp q;obtain⟨y,ew,q⟩:=Za.mp q;obtain⟨⟨r,fin⟩,eG,q⟩:=Za.mp q;split at q
 . rename_i S;obtain ⟨s,eb,q⟩:=Za.mp q;cases q;have t:∀ {bs} {δ δ1} {ds} {As},RepA X.K F0 H σ δ As->takes bs δ=some (ds,δ1)->∃ vs,LkV σ bs vs:=by
    intro bs
    induction bs with
    |nil=>exact fun _ _=>⟨[],True.intro⟩
    | cons b bs z =>
     intro δ δ1 ds As R e;cases b with
     |val=>cases e
     |lent i =>obtain⟨⟨d0,C⟩,e0,e⟩:=Za.mp (e);obtain⟨⟨y,s⟩,e2,_⟩:=Za.mp e;obtain⟨v,A,As0,h1,_,R0,_⟩:=R.takeN e0;obtain⟨vs,h⟩:=z R0 e2;exact⟨v::vs,h1,h⟩
     |view i =>
      have o:cO i (takes bs) δ=some (ds,δ1):=e;unfold cO at o;split at o
      . rename_i d0 h0;obtain⟨v,h1,_⟩:=R.val i _ h0;obtain⟨vs,h⟩:=z R o;exact⟨v::vs,h1,h⟩
      . cases o
   obtain⟨vs,lk⟩:=t R l;obtain⟨A,Q4,ev,R1,D,L⟩:=jY R l lk;refine⟨vs,lk,?_⟩;show ii X.K ps.length G (vs++[]) H Q E0;rw[Zj];refine rX ev R1 D lk ((nc lk).trans Y) ew eG S eb fun v F' H' A Q2 e R r J=>?_
   obtain⟨h1,h2,h3⟩:=J i hi;obtain⟨B,h5⟩:=L i hi;exact k v F' H' A Q2 e R r (h1.trans B) (h2.trans h5) fun a m=>h3 a (by rw[B];exact m)
 . cases q
noncomputable def cP(i:Nat)(s:PF)(fm:FM):SQ:=fun δ=>match δ[i]? with
 |some (some d)=>(s δ).bind fun p=>match atP d p with
  |some (.lst ds)=>(fm δ).bind fun q=>if ds.length<=999 then some (.nx (q.2.set i (some (fF d p (.lst (ds++[q.1]))))))else none
  |_=>none
 |_=>none
noncomputable def ol(i:Nat)(s:PF):SQ:=fun δ=>match δ[i]? with
 |some (some d)=>(s δ).bind fun p=>match atP d p with
  |some (.lst _)=>some (.nx (δ.set i (some (fF d p (.lst [])))))
  |_=>none
 |_=>none
noncomputable def uB(i:Nat)(s:PF)(fm:FM):SQ:=fun δ=>match δ[i]? with
 | some (some d)=>(s δ).bind fun p=>match atP d p with
  |some (.lst ds)=>(fm δ).bind fun q=>match q.1 with
   |.lst es=>if ds.length+es.length<=1000 then some (.nx (q.2.set i (some (fF d p (.lst (ds++es))))))else none
   |_=>none
  |_=>none
 |_=>none
section
variable {s:PF} {pos:Pos}
def Lj (i:Nat) (J:PE X c (tBM X.K "list" ze (tPl X.K i s) (CU (Kn X.K i fm) CT))) (hs:swapsWith c none pos.line X.env=pure false:=by rfl):PQ X Z (.Expr c pos) (cP i s fm):=ml (pW J hs) fun {E σ H F δ As r} R z q k=>by
 unfold cP at q;split at q
 . rename_i d hd;obtain ⟨p,es,q⟩:=Za.mp q;split at q
   . rename_i ds J;obtain ⟨⟨dv,δ1⟩,efm,q⟩:=Za.mp q;split at q
     . rename_i hl;cases q;obtain ⟨v,t,r0⟩:=R.val i d hd;obtain ⟨w,A1,B,A2,pt,D,eA,_,_⟩:=r0.pickP J;obtain ⟨l,vs,B0,rfl,_,x,_,_⟩:=D.lst_inv rfl;refine ⟨F,δ,As,p,v,.ref l,R,es,t,pt,fun H0 j=>⟨.inl ⟨rfl,vs,SqL.of (j _ _ x)⟩,F,δ,As,dv,δ1,R.grow j,efm,fun y F1 H1 A Q4 ev R1 r1 kA kD kH=>?_⟩⟩
       obtain⟨v2,f,r2⟩:=(R.grow j).val i d hd;rw[t]at f;cases f;obtain⟨w2,C1,B2,C2,pt2,Y,L,S,_⟩:=r2.pickP J;obtain rfl:=pt2.det (pt.mono j);have pt1:=S H1 fun a m=>kH a (by rw[L];exact ZE _ m)
       obtain⟨l2,Q,B02,el,eB2,I,_,V⟩:=Y.lst_inv rfl;cases el;have u:H1 l=some (.lst vs):=by
        rw[kH l (by rw[L,eB2];exact ZD _ (ZE _ Zo))]
        exact j _ _ x
       have ev':=(EvW.grew j).go ev;refine⟨l,vs,y,rfl,rfl,u,?_,?_⟩
       . have:Q=vs:=by rw [j _ _ x] at I;cases I;rfl
         rw[<- this,V.length];exact Nat.lt_of_le_of_lt hl (sX (show 999<=1000 by decide))
       obtain⟨Q5,R2,li,h2⟩:=R1.writeP (B':=[]) (kD.trans hd) t pt1 J rfl (fun{B} nl dj D nB=>by
        obtain⟨l3,O,B3,C,rfl,G,n3,U⟩:=D.lst_inv rfl;cases C;rw[u]at G;cases G;have o:=Z1.mp nB;refine⟨l::(B3++A),.lst aL n3 ((U.snoc r1).frame (qX u) fun a m=>aI fun z=>?_),Z1.mpr ⟨fun m=>?_,Z0.mpr ⟨o.2,ev.nd,fun a ha b hb e=>?_⟩⟩,fun a m=>?_⟩
        . subst z;rcases Zs.mp m with m | m
          . exact o.1 m
          . exact nl m
        . rcases Zs.mp m with m | m
          . exact o.1 m
          . exact nl m
        . subst e;exact dj a hb (Zp _ ha)
        . rcases Zt.mp m with m | m
          . exact .inl (m▸Zo)
          . rcases Zs.mp m with m | m
            . exact .inl (Zp _ m)
            . exact .inr m) ev.dj (fun{B} D=>by
        obtain⟨l3,O,B3,C,rfl,_⟩:=D.lst_inv rfl;cases C;exact Zo)
       exact k σ F1 _ Q5 (ev'.wrote li h2) R2 z
     . cases q
   . cases q
 . cases q
def D0 (i:Nat) (x:PE X c (Nk X.K "list" Dm (tPl X.K i s))) (O:swapsWith c none pos.line X.env=pure false:=by rfl):PQ X Z (.Expr c pos) (ol i s):=ml (pW x O) fun {E σ H F δ As r} R z q k=>by
 unfold ol at q;split at q
 . rename_i d C;obtain ⟨p,es,q⟩:=Za.mp q;split at q
   . rename_i ds x;cases q;obtain ⟨v,t,G⟩:=R.val i d C;obtain ⟨w,A1,B,A2,pt,o,Y,_,_⟩:=G.pickP x;obtain ⟨l,vs,B0,rfl,_,u,_,_⟩:=o.lst_inv rfl;refine ⟨F,δ,As,p,v,.ref l,R,es,t,pt,fun H0 j=>⟨.inl ⟨rfl,vs,SqL.of (j _ _ u)⟩,l,vs,rfl,rfl,j _ _ u,?_⟩⟩
     obtain⟨Q5,R2,J,h2⟩:=(R.grow j).writeP (V':=[]) (B':=[]) C t (pt.mono j) x rfl (fun{B} U dj o V=>by
      obtain⟨L,y,S,f,rfl,Q,I,D⟩:=o.lst_inv rfl;cases f;exact⟨[l],.lst aL I .nil,Z1.mpr ⟨fun z=>(nomatch z),Zy⟩,fun a m=>.inl (Zq.mp m▸Zo)⟩) (fun _ _ _ z=>nomatch z) (fun{B} o=>by
      obtain⟨L,y,S,f,rfl,_⟩:=o.lst_inv rfl;cases f;exact Zo)
     exact k σ F _ Q5 ((EvW.grew j).wrote J h2) R2 z
   . cases q
 . cases q
def Li (i) (S:PE X c (tBM X.K "list" zd (tPl X.K i s) (CU (Kn X.K i fm) CT))) (hs:swapsWith c none pos.line X.env=pure false:=by rfl):PQ X Z (.Expr c pos) (uB i s fm):=ml (pW S hs) fun {E σ H F δ As r} R z q k=>by
 unfold uB at q;split at q
 . rename_i d hd;obtain ⟨p,es,q⟩:=Za.mp q;split at q
   . rename_i ds S;obtain ⟨⟨dv,δ1⟩,efm,q⟩:=Za.mp q;dsimp only at q;split at q
     . rename_i xs;split at q
       . rename_i hl;cases q;obtain ⟨v,x,r0⟩:=R.val i d hd;obtain ⟨w,A1,B,A2,pt,L,eA,_,_⟩:=r0.pickP S;obtain ⟨l,vs,B0,rfl,_,G,_,_⟩:=L.lst_inv rfl;refine ⟨F,δ,As,p,v,.ref l,R,es,x,pt,fun H0 o=>⟨.inl ⟨rfl,vs,SqL.of (o _ _ G)⟩,F,δ,As,_,δ1,R.grow o,efm,fun y F1 H1 A Q4 ev R1 r1 kA kD kH=>?_⟩⟩
         obtain⟨v2,f,r2⟩:=(R.grow o).val i d hd;rw[x]at f;cases f;obtain⟨w2,C1,B2,C2,pt2,rc2,U,st2,_⟩:=r2.pickP S;obtain rfl:=pt2.det (pt.mono o);have pt1:=st2 H1 fun a m=>kH a (by rw[U];exact ZE _ m)
         obtain⟨l2,Y,B02,el,eB2,Q,_,ro2⟩:=rc2.lst_inv rfl;cases el;have C:H1 l=some (.lst vs):=by
          rw[kH l (by rw[U,eB2];exact ZD _ (ZE _ Zo))]
          exact o _ _ G
         have ev':=(EvW.grew o).go ev;obtain⟨b,ws,W0,rfl,rfl,hb1,_,J⟩:=r1.lst_inv rfl;have nA:=Z1.mp ev.nd;refine⟨l,b,vs,ws,rfl,rfl,C,hb1,?_,?_⟩
         . have:Y=vs:=by rw [o _ _ G] at Q;cases Q;rfl
           rw[<- this,ro2.length,J.length];exact eT hl
         have app:∀{vs us}{ds es:Yg D}{A B:Yg Yd},RepOs X.K F1 H1 vs ds A->RepOs X.K F1 H1 us es B->RepOs X.K F1 H1 (vs++us) (ds++es) (A++B):=by
          intro vs us ds es A B ra rb
          induction ra using RepOs.rec (motive_1:=fun _ _ _ _=>True)with
          |nil=>exact rb
          |cons r t e _ ih=>exact .cons r ih (by rw[e,ZV])
          |_=>trivial
         obtain⟨Q5,R2,li,h2⟩:=R1.writeP (V':=W0) (B':=[]) (kD.trans hd) x pt1 S rfl (fun{B} nl dj L nB=>by
          obtain⟨l3,V,B3,I,rfl,O,n3,ro3⟩:=L.lst_inv rfl;cases I;rw[C]at O;cases O;have u:=Z1.mp nB;refine⟨l::(B3++W0),.lst aL n3 ((app ro3 J).frame (qX C) fun a m=>aI fun z=>?_),Z1.mpr ⟨fun m=>?_,Z0.mpr ⟨u.2,nA.2,fun a ha b hb e=>?_⟩⟩,fun a m=>?_⟩
          . subst z;rcases Zs.mp m with m | m
            . exact u.1 m
            . exact nl m
          . rcases Zs.mp m with m | m
            . exact u.1 m
            . exact nl m
          . subst e;exact dj a hb (Zp _ ha)
          . rcases Zt.mp m with m | m
            . exact .inl (m▸Zo)
            . rcases Zs.mp m with m | m
              . exact .inl (Zp _ m)
              . exact .inr m) (fun j a m z=>ev.dj j a m (Zp _ z)) (fun{B} L=>by
          obtain⟨l3,V,B3,I,rfl,_⟩:=L.lst_inv rfl;cases I;exact Zo)
         exact k σ F1 _ Q5 (ev'.wrote li fun j a m=>(h2 j a m).imp id fun m=>Zp _ m) R2 z
       . cases q
     . cases q
   . cases q
 . cases q
end
noncomputable def oq(f:Str):List Str->List Str
 |[]=>[f]
 |g::r=>if g=f then g::r else g::oq f r
def putD{α:Type}(f:Str)(y:α):List Str->List α->List α
 |g::r,e::es=>if g=f then y::es else e::putD f y r es
 |_,_=>[y]
theorem vY{f}{y}:∀{xs}{vs},xs.length=vs.length->j3 f y (xs.zip vs)=(oq f xs).zip (putD f y xs vs)
 |[],[],_=>rfl
 |g::r,v::vs,h=>by
  show(if g=f then(g,y)::r.zip vs else(g,v)::j3 f y (r.zip vs))=_
  rw[oq,putD];split
  . rfl
  . rw[vY (by simpa using h)];rfl
theorem vZ{α:Type}{f}{y}:∀{xs:Yg Str}{vs:Yg α},xs.length=vs.length->(oq f xs).length=(putD f y xs vs).length
 |[],[],_=>rfl
 |g::r,v::vs,h=>by
  rw[oq,putD];split
  . simpa using h
  . simpa using vZ (by simpa using h)
section
variable {F:Hp}
theorem RepOs.putD{f}{y}{d}(r:RepO K F H y d A):∀{xs}{vs}{ds}{B},xs.length=ds.length->RepOs K F H vs ds B->(B++A).Nodup->∃B',RepOs K F H (Dl.putD f y xs vs) (Dl.putD f d xs ds) B'/\B'.Nodup/\∀a∈B',a∈B\/a∈A
 |[],_,_,_,_,.nil,nd=>⟨A,.cons r .nil (by simp),by simpa using nd,fun a m=>.inr m⟩
 |g::xs,_,_,_,l,.cons (A:=A0) (B:=B0) r0 t e,nd=>by
  subst e;rw[Dl.putD,Dl.putD];have n1:=Z0.mp nd;have n2:=Z0.mp n1.1;split
  . refine ⟨A++B0,.cons r t rfl,Z0.mpr ⟨n1.2.1,n2.2.1,fun a j b o e=>?_⟩,fun a m=>?_⟩
    . subst e;exact n1.2.2 a (ZD _ o) a j rfl
    . rcases Zs.mp m with m | m
      . exact .inr m
      . exact .inl (ZD _ m)
  . obtain ⟨B',q,p,h⟩:=RepOs.putD r (by simpa using l) t (Z0.mpr ⟨n2.2.1,n1.2.1,fun a j b o=>n1.2.2 a (ZD _ j) b o⟩)
    refine⟨A0++B',.cons r0 q rfl,Z0.mpr ⟨n2.1,p,fun a j b o e=>?_⟩,fun a m=>?_⟩
    . subst e;rcases h a o with z | z
      . exact n2.2.2 a j a z rfl
      . exact n1.2.2 a (ZE _ j) a z rfl
    . rcases Zs.mp m with m | m
      . exact .inl (ZE _ m)
      . exact(h a m).imp (ZD _) id
end
def uA(i:Nat)(s:PF)(fk:FD)(fm:FM):SQ:=fun δ=>(fm δ).bind fun q=>match q.2[i]? with
 | some (some d)=>(s q.2).bind fun p=>match atP d p with
  |some (.lst ds)=>(fk q.2).bind fun x=>match x with
   |.int j=>(ixN ds.length j).bind fun k=>some (.nx (q.2.set i (some (fF d p (.lst (ds.set k q.1))))))
   |_=>none
  |_=>none
 |_=>none
def cz(i:Nat)(Cs:List Addr)(f:Str)(s:PF)(fm:FM):SQ:=fun δ=>(fm δ).bind fun q=>match q.2[i]? with
 |some (some d)=>(s q.2).bind fun p=>match atP d p with
  |some (.oo C xs ds)=>if C∈Cs/\ds.length<=99 then some (.nx (q.2.set i (some (fF d p (.oo C (oq f xs) (putD f q.1 xs ds))))))else none
  |_=>none
 |_=>none
section
variable {o:Expr} {s:PF} {pos:Pos}
def Ld (i:Nat) (ho:PPl X o i s) (he:PW X e fm) (hk:PD X ei fk) (hs:swapsWithSole [.Subscript o ei p2] e pos.line X.env=pure false:=by rfl) (hw:swappedStores [.Subscript o ei p2] e X.env=pure none:=by rfl)
 (h1:(assignEach [.Subscript o ei p2] X.env).map (·.2)=[assign (.Subscript o ei p2) X.env]:=by rfl)
 (hA:∀ v,assign (.Subscript o ei p2) X.env v=(do
  let O <- holding [v] (eval o X.env)
  let iv <- holding [v,O] (eval ei X.env)
  standAt p2
  holding [v,O,iv] (setItem O iv v)
  release [v,O,iv] []):=by intro _;rfl) :
 PQ X Z (.Assign [.Subscript o ei p2] e pos) (uA i s fk fm) :=
 ml (DV he (Lq ho hk C9 hA) hs hw h1) fun{E σ H F δ As r} R z q k=>by
 unfold uA at q;obtain⟨⟨dv,δ'⟩,ed,q⟩:=Za.mp q;split at q
 . rename_i d hd;obtain ⟨p,es,q⟩:=Za.mp q;split at q
   . rename_i ds hc;obtain ⟨x,ek,q⟩:=Za.mp q;split at q
     . rename_i kk;obtain ⟨j,hj,q⟩:=Za.mp q;cases q;refine ⟨F,δ,As,dv,δ',R,ed,fun y F' H' A Q2 ev S r'=>?_⟩
       obtain⟨v,J,r0⟩:=S.val i d hd;obtain⟨w,A1,B,A2,pt,I,eA,_,_⟩:=r0.pickP hc;obtain⟨l,vs,B0,rfl,_,hl0,_,ro⟩:=I.lst_inv rfl;refine⟨F',δ',Q2,p,v,.ref l,S,es,J,pt,fun H1 s1=>⟨δ',.int kk,(S.grow s1).toS,ek,fun iv H2 s2 ri=>?_⟩⟩
       cases ri;have f:=s1.trans s2;have R2:=S.grow f;have r2:=r'.frame (bi f) fun a m=>by obtain⟨⟨ws,e⟩,_⟩:=r'.dom a m;rw[e];exact f a _ e
       have u:=f _ _ hl0;refine⟨l,vs,kk,j,rfl,rfl,u,by rw[ro.length];exact hj,?_⟩
       have jl:=(uN hj).2.1;obtain ⟨Q5,R3,li,h2⟩:=R2.writeP (B':=[]) hd J (pt.mono f) hc rfl (fun {B} nl dj I nB=>by
        obtain⟨l3,U,B3,G,rfl,L,n3,V⟩:=I.lst_inv rfl;cases G;rw[u]at L;cases L;have t:=Z1.mp nB;obtain⟨v0,C1,C,C2,_,rC,rfl,pk⟩:=V.pick (Zx jl);have kI:dU H2 (upd H2 l (.lst (vs.set j y))):=qX u;have Y:=Z0.mp t.2;have m2:=Z0.mp Y.2.1;have rn:=pk kI (fun a m=>aI fun z=>by
         subst z;refine t.1 ?_;rcases m with m|m
         . exact ZE _ m
         . exact ZD _ (ZD _ m)) (r2.frame kI fun a m=>aI fun z=>by subst z;exact nl m)
        refine⟨l::(C1++(A++C2)),.lst aL n3 rn,Z1.mpr ⟨fun m=>?_,Z0.mpr ⟨Y.1,Z0.mpr ⟨ev.nd,m2.2.1,fun a Q b D e=>?_⟩,fun a Q b D e=>?_⟩⟩,fun a m=>?_⟩
        . rcases Zs.mp m with m | m
          . exact t.1 (ZE _ m)
          . rcases Zs.mp m with m | m
            . exact nl m
            . exact t.1 (ZD _ (ZD _ m))
        . subst e;exact dj a Q (Zp _ (ZD _ (ZD _ D)))
        . subst e;rcases Zs.mp D with D | D
          . exact dj a D (Zp _ (ZE _ Q))
          . exact Y.2.2 a Q a (ZD _ D) rfl
        . rcases Zt.mp m with m | m
          . exact .inl (m▸Zo)
          . rcases Zs.mp m with m | m
            . exact .inl (Zp _ (ZE _ m))
            . rcases Zs.mp m with m | m
              . exact .inr m
              . exact .inl (Zp _ (ZD _ (ZD _ m)))) ev.dj (fun{B} I=>by
        obtain⟨l3,U,B3,G,rfl,_⟩:=I.lst_inv rfl;cases G;exact Zo)
       exact k σ F' _ Q5 ((ev.grow f).wrote li h2) R3 z
     . cases q
   . cases q
 . cases q
theorem Lh (i) {f:Str} (ho:PPl X o i s) (he:PW X e fm) (hC:∀ C∈Cs,Cls X.K C/\NoAttr X.K C f) (hs:swapsWith e (some (.Attribute o f X2)) pos.line X.env=pure false:=by rfl):PQ X Z (.Assign [.Attribute o f X2] e pos) (cz i Cs f s fm) :=
 ml (La ho he hs) fun{E σ H F δ As r} R z q k=>by
 unfold cz at q;obtain⟨⟨dv,δ'⟩,ed,q⟩:=Za.mp q;split at q
 . rename_i d hd;obtain ⟨p,es,q⟩:=Za.mp q;split at q
   . rename_i C xs ds hc;split at q
     . rename_i V;cases q;refine ⟨F,δ,As,dv,δ',R,ed,fun y F' H' A Q2 ev R' r'=>?_⟩
       obtain⟨v,J,r0⟩:=R'.val i d hd;obtain⟨w,A1,B,A2,pt,I,eA,_,_⟩:=r0.pickP hc;obtain⟨l,dx,vs,B0,rfl,_,S,_,L,ro⟩:=I.oo_inv rfl;refine⟨F',δ',Q2,p,v,.ref l,R',es,J,pt,fun H1 u=>⟨l,C,dx,xs.zip vs,rfl,u _ _ S,(hC C V.1).1,(hC C V.1).2,?_,?_⟩⟩
       . rw [List.length_zip];have:=V.2
         lia
       have R2:=R'.grow u;have Q:=u _ _ S;have r2:=r'.frame (bi u) fun a m=>by obtain⟨⟨ws,e⟩,_⟩:=r'.dom a m;rw[e];exact u a _ e
       have hv:xs.length=vs.length:=by rw[ro.length];exact L
       rw [vY hv];obtain ⟨Q5,R3,li,h2⟩:=R2.writeP (B':=[]) hd J (pt.mono u) hc rfl (fun {B} nl dj I nB=>by
        obtain⟨l3,dx3,t,B3,D,rfl,O,n3,j,G⟩:=I.oo_inv rfl;cases D;have x:=Z1.mp nB;have kI:dU H1 (upd H1 l (.ins C dx ((oq f xs).zip (putD f y xs vs)))):=oM Q rfl;have Y:t=vs:=by
         rw[Q]at O;have e1:xs.zip vs=xs.zip t:=by injection O with e;injection e
         have l3:xs.length=t.length:=by rw[G.length];exact j
         have e2:=Z8 (List.map Prod.snd) e1;rw[List.map_snd_zip (by lia),List.map_snd_zip (by lia)]at e2
         exact e2.symm
        subst Y;obtain⟨B',rB,U,sub⟩:=RepOs.putD (r2.frame kI fun a m=>aI fun z=>by subst z;exact nl m) j (G.frame kI fun a m=>aI fun z=>by subst z;exact x.1 m) (Z0.mpr ⟨x.2,ev.nd,fun a ha b hb e=>by subst e;exact dj a hb (Zp _ ha)⟩)
        refine⟨l::B',.oo aL n3 (vZ j) rB,Z1.mpr ⟨fun m=>?_,U⟩,fun a m=>?_⟩
        . rcases sub l m with m | m
          . exact x.1 m
          . exact nl m
        . rcases Zt.mp m with m | m
          . exact .inl (m▸Zo)
          . exact(sub a m).imp (Zp _) id) ev.dj (fun{B} I=>by
        obtain⟨l3,_,t,B3,D,rfl,_⟩:=I.oo_inv rfl;cases D;exact Zo)
       exact k σ F' _ Q5 ((ev.grow u).wrote li h2) R3 z
     . cases q
   . cases q
 . cases q
end
def iB(K:ZA)(Z:L2.St->Prop)(t:TG)(g:D->DS->Option DS):Prop:=∀{F H:Hp}{σ:L2.St}{δ δ':DS}{As:Nat->List Addr}{v:V}{d:D}{A:List Addr}{Q:L2.St->Hp->Prop},RepA K F H σ δ As->RepO K F H v d A->A.Nodup->(∀j a,a∈As j->a∉A)->g d δ=some δ'->Z σ ->
 (∀σ' Q2,RepA K F H σ' δ' Q2->(∀j a,a∈Q2 j->(∃k,a∈As k)\/a∈A)->Z σ'->Q σ' H)->t v σ H Q
def gN(i:Nat):D->DS->Option DS:=fun d δ=>if i<δ.length then some (δ.set i (some d))else none
def fO(is:List Nat):D->DS->Option DS:=fun d δ=>match d with
 |.tup ds=>if ds.length=is.length/\E7 is δ.length=true then some (Kw is ds δ)else none
 |_=>none
def Ff(i) (l:ZO Z i):iB K Z (tQ i) (gN i):=by
 intro F H σ δ δ' As v d A Q R r o p q z k;unfold gN at q;split at q
 . rename_i hi;cases q;refine k _ _ (R.set i hi r o fun j a _ m=>p j a m) (fun j a m=>?_) (l σ v z)
   by_cases f:j=i
   . subst f;rw[aD]at m;exact .inr m
   . rw[aG f]at m;exact .inl ⟨j,m⟩
 . cases q
theorem tF{F}:∀o,(∀i∈o,ZO Z i)->∀{vs}{ds}{A}{σ}{δ}{As}{Q},RepOs K F H vs ds A->A.Nodup->(∀j a,a∈As j->a∉A)->RepA K F H σ δ As->ds.length=o.length->E7 o δ.length=true->Z σ ->
 (∀f Q2,RepA K F H f (Kw o ds δ) Q2->(∀j a,a∈Q2 j->(∃k,a∈As k)\/a∈A)->Z f->Q f H)->oa o vs σ H Q
 |[],_,_,_,_,σ,δ,As,Q,.nil,_,_,R,_,_,z,k=>⟨rfl,k σ As R (fun j a m=>.inl ⟨j,m⟩) z⟩
 |[],_,_,_,_,_,_,_,_,.cons _ _ _,_,_,_,l,_,_,_=>by cases l
 |_::_,_,_,_,_,_,_,_,_,.nil,_,_,_,l,_,_,_=>by cases l
 | i :: o,zk,_,_,_,σ,δ,As,Q,.cons (v:=v) (vs:=vs) (A:=A) (B:=B) r t e,nd,dj,R,l,hi,z,k=>by
  subst e;have p:(decide (i<δ.length)&&E7 o δ.length)=true:=hi;rw[ZN]at p;have h1:i<δ.length:=Z7 p.1;rw[Z0]at nd;have x:=R.set i h1 r nd.1 fun j a _ m z=>dj j a m (ZE _ z)
  refine⟨v,vs,rfl,?_⟩;show oa o vs (σ.set i (some v)) H Q;have sub:∀j a,a∈g8 As i A j->a∈A\/a∈As j:=fun j a m=>by
   by_cases s:j=i
   . subst s;rw[aD]at m;exact .inl m
   . rw[aG s]at m;exact .inr m
  refine tF o (fun j m=>zk j (Zp _ m)) t nd.2.1 (fun j a m w=>?_) x (by simpa using l) (by rw[List.length_set];exact p.2) (zk i Zo σ v z) fun f Q2 C h' u=>k f Q2 C (fun j a m=>?_) u
  . rcases sub j a m with y | y
    . exact nd.2.2 a y a w rfl
    . exact dj j a y (ZD _ w)
  . rcases h' j a m with ⟨q,y⟩ | y
    . rcases sub q a y with y | y
      . exact .inr (ZE _ y)
      . exact .inl ⟨q,y⟩
    . exact .inr (ZD _ y)
def ng(is) (l:∀i∈is,ZO Z i):iB K Z (IV K is.length (oa is)) (fO is):=by
 intro F H σ δ δ' As v d A Q R r m o q z k;unfold fO at q;split at q
 . rename_i ds;split at q
   . rename_i f;cases q;obtain⟨a,vs,rfl,sq,j⟩:=r.parts;exact⟨a,vs,rfl,sq,j.len.trans f.1,tF is l j m o R f.1 f.2 z k⟩
   . cases q
 . cases q
def qUn(is:List Nat)(fm:FM):SQ:=fun δ=>(fm δ).bind fun p=>(fO is p.1 p.2).bind fun δ2=>some (.nx δ2)
def cL(g:D->DS->Option DS)(s:SQ):List D->SQ
 |[]=>fun δ=>some (.nx δ)
 |d::ds=>fun δ=>(g (sh d) δ).bind fun δ1=>(s δ1).bind fun r=>match r with
  |.nx δ'=>cL g s ds δ'
  |.ct δ'=>cL g s ds δ'
  |.bk δ'=>some (.nx δ')
  |.rt d δ'=>some (.rt d δ')
def gC(src:FMA)(g:D->DS->Option DS)(s:SQ):SQ:=fun δ=>(src δ).bind fun p=>cL g s p.1 p.2
def ItG(K:ZA)(J:It)(F:Hp)(ds:List D):Prop:=∀i H2,Same F H2 ->
 (i<ds.length->J.go i H2/\∀x H',J.yld i H2 x H'->Same H2 H'/\∃d,ds[i]?=some d/\∀F',Same F F'->Same F' H'->RepO K F' H' x (sh d) [])/\(ds.length<=i->J.stop i H2)
def ItF.g{J}{F}(h:ItF K J F ds):ItG K J F ds:=fun i H2 s=>⟨fun hi=>⟨((h i H2 s).1 hi).1,fun x H' y=>by obtain⟨e,d,l,r⟩:=((h i H2 s).1 hi).2 x H' y;subst e;exact⟨Same.refl _,d,l,fun F' j f=>RepO.of_sh f (r.mono j)⟩⟩,(h i H2 s).2⟩
def O1(K:ZA)(src:FMA):TI:=fun σ H R=>∃F δ As ds δ',RepA K F H σ δ As/\src δ=some (ds,δ')/\∀J F' H1 Q2,EvW F H As F' H1 Q2 []->RepA K F' H1 σ δ' Q2->ItG K J F' ds->R J H1
def PIQ(X:Cx)(tg iter:Expr)(src:FMA):Prop:=PI X tg iter (O1 X.K src)
def tN{t}{f}(h:PI X tg iter t)(w:∀{σ H R F δ As ds δ'},RepA X.K F H σ δ As->f δ=some (ds,δ')->(∀J F' H1 Q2,EvW F H As F' H1 Q2 []->RepA X.K F' H1 σ δ' Q2->ItG X.K J F' ds->R J H1)->t σ H R):PIQ X tg iter f:=Po h fun _ _ _ h=>h.elim fun _ h=>h.elim fun _ h=>h.elim fun _ h=>h.elim fun _ h=>h.elim fun _ h=>w h.1 h.2.1 h.2.2
section
variable {fa fb:FM} {s u:SQ} {pos:Pos}
def NM{pt}(is) (m:∀i∈is,ZO Z i) (he:PW X e fm) (s:PG X (.Tuple es kt pt) (IV X.K is.length (oa is)))
 (p:swapsWithSole [.Tuple es kt pt] e pos.line X.env=pure false:=by rfl) (o:swappedStores [.Tuple es kt pt] e X.env=pure none:=by rfl)
 (h1:(assignEach [.Tuple es kt pt] X.env).map (·.2)=[assign (.Tuple es kt pt) X.env]:=by rfl):PQ X Z (.Assign [.Tuple es kt pt] e pos) (qUn is fm):=ml (DV he s p o h1) fun{E σ H F δ As r} R z q k=>by
 unfold qUn at q;obtain⟨⟨d,δ'⟩,u,q⟩:=Za.mp q;obtain⟨l,t,q⟩:=Za.mp q;cases q;exact⟨F,δ,As,d,δ',R,u,fun v F' H' A Q2 j x r'=>ng is m x r' j.nd j.dj t z fun f Q5 R2 h2 z2=>k f F' H' Q5 (j.keep h2) R2 z2⟩
theorem DY{t}{g}(hp:PassesOwn (model X.prog X.w) X.A X.env X.xe)(hc:X.calm=true)(hg:PG X tg t)(good:iB X.K Z t g)(hi:PIQ X tg iter src)(hb:PQs X Z body s)
 (hs:FsX X iter:=by intro _;rfl):PQ X Z (.For tg iter body [] pos) (gC src g s):=ml (DU hp hc hi hg hb hs) fun{E σ H F δ As r} R z e k=>by
 unfold gC at e;obtain⟨⟨ds,δ1⟩,C,e⟩:=Za.mp e;refine⟨F,δ,As,ds,δ1,R,C,fun J F1 H1 Q4 B R1 it=>?_⟩
 refine⟨fun j m σ H=>m=ds.length-j/\j<=ds.length/\∃F2 δ Q5,Same F1 F2/\RepA X.K F2 H σ δ Q5/\Z σ/\cL g s (ds.drop j) δ=some r/\RPQ X Z E F2 H Q5 r,⟨ds.length,rfl,Nat.zero_le _,F1,δ1,Q4,Same.refl _,R1,z,e,k.mono B⟩,?_⟩
 rintro j m σ H2 ⟨rfl,hjl,F2,δ2,Q5,s2,R2,z2,l,k2⟩
 by_cases o:j<ds.length
 . obtain ⟨go,V⟩:=(it j H2 (s2.trans R2.fz)).1 o;rw [List.drop_eq_getElem_cons o] at l;obtain ⟨v,e3,l⟩:=Za.mp (l);obtain ⟨O,e4,l⟩:=Za.mp l;refine .inr ⟨go,fun f H'=>∃ I δ X3,Same F1 I/\RepA X.K I H' f δ X3/\Z f/\cL g s (ds.drop (j+1)) δ=some r/\RPQ X Z E I H' X3 r,fun f H' z=>⟨ds.length - (j+1),by lia,rfl,o,z⟩,fun y H' U=>?_⟩
   obtain⟨L,d,Q,Y⟩:=V y H' U;have x:d=ds[j]:=by rw[Zx o]at Q;exact(ZG Q).symm
   subst x;have q:=R2.grow L;refine good q (Y F2 s2 q.fz) Zy (fun _ _ _ z=>nomatch z) e3 z2 fun S X3 R3 h3 z3=>?_
   have u:=k2.mono ((EvW.grew L).keep h3);refine⟨F2,v,X3,O,R3,z3,e4,?_⟩;cases O with
   |nx δ'=>exact fun f F' G Q2 p D z4=>⟨F',δ',Q2,s2.trans p.fs,D,z4,l,u.mono p⟩
   |ct δ'=>exact fun f F' G Q2 p D z4=>⟨F',δ',Q2,s2.trans p.fs,D,z4,l,u.mono p⟩
   |bk δ'=>cases l;exact u
   |rt d δ'=>cases l;exact u
 . have e:j=ds.length:=by lia
   subst e;rw[List.drop_length]at l;cases l;exact .inl ⟨(it _ H2 (s2.trans R2.fz)).2 (ZM _),k2 σ F2 H2 Q5 EvW.refl R2 z2⟩
noncomputable def qi(c:FT)(fa fb:FM):FM:=fun δ=>(c δ).bind fun b=>if b=true then fa δ else fb δ
noncomputable def qh(c fa fb:FM):FM:=fun δ=>(c δ).bind fun p=>match p.1 with
 |.bl b=>if b=true then fa p.2 else fb p.2
 |_=>none
def K0(l:PTD X c fc)(o:PW X a fa)(m:PW X b fb):PW X (.IfExp c a b pos) (qi fc fa fb):=cH (qI l o m) fun{σ H Q F δ As d δ'} R q k=>by
 unfold qi at q;obtain⟨t,p,q⟩:=Za.mp q;refine⟨δ,t,R.toS,p,fun H' f=>?_⟩
 cases t with
 |true=>rw[if_pos rfl]at q ⊢;exact⟨F,δ,As,d,δ',R.grow f,q,fun v F' H' A Q2 j=>k v F' H' A Q2 ((EvW.grew f).go j)⟩
 |false=>rw[if_neg ZB]at q ⊢;exact⟨F,δ,As,d,δ',R.grow f,q,fun v F' H' A Q2 j=>k v F' H' A Q2 ((EvW.grew f).go j)⟩
def KZ(p:PW X c fm)(s:PW X a fa)(r:PW X b fb)(he:∀f,isTrue c X.env f=(do let v <- f;standAt c.pos;holding [v] (truthy v)):=by intro _;rfl):PW X (.IfExp c a b pos) (qh fm fa fb):=cH (qI (xC p he) s r) fun{σ H Q F δ As d δ'} R q k=>by
 unfold qh at q;obtain⟨⟨t,δ1⟩,u,q⟩:=Za.mp q;dsimp only at q;split at q
 . rename_i b;refine ⟨F,δ,As,_,δ1,R,u,fun v F' H' A Q2 o l r'=>?_⟩
   cases r'.rep l.fz;refine⟨b,rfl,?_⟩;cases b with
   |true=>rw[if_pos rfl]at q ⊢;exact⟨F',δ1,Q2,d,δ',l,q,fun v F2 H2 m Q5 j=>k v F2 H2 m Q5 (o.bare.go j)⟩
   |false=>rw[if_neg ZB]at q ⊢;exact⟨F',δ1,Q2,d,δ',l,q,fun v F2 H2 m Q5 j=>k v F2 H2 m Q5 (o.bare.go j)⟩
 . cases q
def a6(f:FM):FMA:=fun δ=>(f δ).bind fun p=>match sh p.1 with
 |.seq ds=>some (ds,p.2)
 |_=>none
def Ee(r:PW X l fm):PIQ X tg l (a6 fm):=tN (H9 r) fun{σ H R F δ As ds δ'} x e k=>by
 unfold a6 at e;obtain⟨⟨d,δ1⟩,t,e⟩:=Za.mp e;split at e
 . rename_i es q;cases e;refine ⟨F,δ,As,d,_,x,t,fun v F1 H1 A Q4 s u o=>?_⟩
   obtain⟨F2,f,R2,_,z⟩:=s.freeze u o;rw[q]at z;cases z with
   |@seq p vs _ j m=>exact⟨p,rfl,⟨vs,R2.fz.seq j⟩,k _ _ H1 Q4 f R2 (E1 j m).g⟩
 . cases e
noncomputable def dH(f:FM):FMA:=fun δ=>(f δ).bind fun p=>match p.1 with
 |.int b=>if -(2^62)<=b/\b<2^62 then some ((List.range b.toNat).map fun(i:Nat)=>D.int (0+(i:Int)*1),p.2)else none
 |_=>none
def Bb (q:Gl X "range") (o:X.mg "range" = none) (r:PW X a fm) (f:starEach [a] X.env=[(false,eval a X.env)]:=by rfl):PIQ X tg (.Call (.Name "range" p) [a] [] pos) (dH fm) :=
 tN (Be q o (bZ r gl f) f) fun{σ H R F δ As ds δ'} u e k=>by
 unfold dH at e;obtain⟨⟨d,δ1⟩,t,e⟩:=Za.mp e;dsimp only at e;split at e
 . rename_i b;split at e
   . rename_i j;cases e;refine ⟨F,δ,As,_,_,u,t,fun v F1 H1 A Q4 s l m=>?_⟩
     cases m.rep l.fz;exact⟨b,rfl,j.1,j.2,k _ F1 H1 Q4 s.bare l itf_range.g⟩
   . cases e
 . cases e
end
variable {X7:Expr} {fo:FD} {Q7 px:Pos} {X5:Yg Expr} {lo:Ye Expr} {fh:FO} {js:Yg Nat} {AA0 Asc:Nat->Yg Yd} {felt wa wb:FM} {tn:Nat->Heap->Prop} {RR:Yb->Yd->Result->Yc->Prop}
noncomputable def j5:D->Option (Addr×List Str×List D)
 |.ob C xs ds=>some (C,xs,ds)
 |.oo C xs ds=>some (C,xs,ds)
 |_=>none
def Rep.objD{d}{xs}(r:Rep K H v d)(e:j5 d=some (C,xs,ds)):∃a dx vs,v=.ref a/\H a=some (.ins C dx (xs.zip vs))/\xs.length=ds.length/\Reps K H vs ds:=by
 cases r with
 |ob h l r=>cases e;exact⟨_,_,_,rfl,h,l,r⟩
 |oo h l r=>cases e;exact⟨_,_,_,rfl,h,l,r⟩
 |_=>cases e
def lkF(f:Str)(xs:List Str)(ds:List D):Option D:=(eK f xs).bind fun k=>ds[k]?
def zF{f}{xs}{d}(r:Reps K H vs ds)(l:xs.length=ds.length)(e:lkF f xs ds=some d):∃v,(xs.zip vs).lookup f=some v/\Rep K H v d:=by
 obtain⟨k,hk,e⟩:=Za.mp e;obtain⟨v,h1,h2⟩:=r.get e;have j:k<xs.length:=by rw[l];exact(ZL.mp e).1
 exact⟨v,j9 hk (by rw[List.getElem?_zip_eq_some];exact⟨Zx j,h1⟩),h2⟩
theorem tP{f}:∀{xs}{vs:Yg V},eK f xs=none->(xs.zip vs).lookup f=none
 |[],_,_=>rfl
 |x::xs,[],_=>rfl
 | x :: xs,v :: vs,h=>by
  unfold eK at h;split at h
  . cases h
  . rename_i j;have h':=Option.map_eq_none_iff.mp h;show List.lookup f ((x,v) :: xs.zip vs)=none;rw [List.lookup_cons];have:(f == x)=false:=by
     cases q:f==x with
     |false=>rfl
     |true=>exact absurd (beq_iff_eq.mp q).symm j
    rw[this];exact tP h'
def a9(Cs:List Addr)(f:Str)(fe:FD):FD:=fun δ=>(fe δ).bind fun d=>(j5 d).bind fun o=>if o.1∈Cs then lkF f o.2.1 o.2.2 else none
noncomputable def cD(Cs:List Addr)(f:Str)(fm:FM):FM:=fun δ=>(fm δ).bind fun p=>match p.1 with
 |.ob C xs ds=>if C∈Cs then(lkF f xs ds).bind fun d=>some (sh d,p.2)else none
 |_=>none
noncomputable def eO(fm:FM)(fk:FD):FM:=fun δ=>(fm δ).bind fun p=>(fk p.2).bind fun x=>match x with
 |.int j=>match p.1 with
  |.seq ds=>(L2.atI ds j).bind fun d=>some (sh d,p.2)
  |.tup ds=>(L2.atI ds j).bind fun d=>if noo d then some (d,p.2)else none
  |_=>none
 |_=>none
def RepO.ob_inv{F}{xs}(r:RepO K F H v (.ob C xs ds) A):A=[]/\Rep K F v (.ob C xs ds):=by
 cases r with
 |imm i _=>rw[Dl.imm]at i;cases i
 |sho h=>exact⟨rfl,h⟩
def RepO.seq_inv{F}(r:RepO K F H v (.seq ds) A):A=[]/\Rep K F v (.seq ds):=by
 cases r with
 |imm i _=>rw[Dl.imm]at i;cases i
 |shr h=>exact⟨rfl,h⟩
section
variable {o:Expr} {fe:FD} {f:Str} {pos:Pos}
def LV(he:PD X e fe)(o:∀C∈Cs,Cls X.K C/\NoAttr X.K C f)(u:attributeBase e f X.env (eval e X.env)=eval e X.env:=by rfl):PD X (.Attribute e f pos) (a9 Cs f fe):=gp (xF he u) fun{σ H Q δ d} R q k=>by
 unfold a9 at q;obtain⟨B,z,q⟩:=Za.mp q;obtain⟨⟨C,xs,ds⟩,y,q⟩:=Za.mp q;split at q
 . rename_i m;refine ⟨δ,B,R,z,fun v H1 p s=>?_⟩
   obtain⟨a,dx,vs,rfl,x,l,r⟩:=s.objD y;obtain⟨w,t,j⟩:=zF r l q;exact⟨a,C,dx,_,w,rfl,x,(o C m).1,(o C m).2,t,k w H1 p j⟩
 . cases q
def Hn(he:PW X e fm)(p:∀C∈Cs,Cls X.K C/\NoAttr X.K C f)(x:attributeBase e f X.env (eval e X.env)=eval e X.env:=by rfl):PW X (.Attribute e f pos) (cD Cs f fm):=cH (xF he x) fun{σ H Q F δ As d δ'} R q k=>by
 unfold cD at q;obtain⟨⟨G,δ1⟩,D,q⟩:=Za.mp q;dsimp only at q;split at q
 . rename_i C xs ds;split at q
   . rename_i o;obtain ⟨c,B,q⟩:=Za.mp q;cases q;refine ⟨F,δ,As,_,_,R,D,fun v F1 H1 A Q4 z m t=>?_⟩
     obtain⟨_,s⟩:=t.ob_inv;obtain⟨a,dx,vs,rfl,y,l,r⟩:=s.objD rfl;obtain⟨w,u,j⟩:=zF r l B;exact⟨a,C,dx,_,w,rfl,m.fz _ _ y,(p C o).1,(p C o).2,u,k w F1 H1 [] Q4 z.bare m (RepO.of_sh m.fz j)⟩
   . cases q
 . cases q
def KU (he:PW X e fm) (hk:PD X b fk) (O:iA b:=by intro _ _;rfl):PW X (.Subscript e b pos) (eO fm fk):=cH (tt (ix_list.or uM) he hk O) fun {σ H Q F δ As d δ'} R q k=>by
 unfold eO at q;obtain⟨⟨Z,δ1⟩,Y,q⟩:=Za.mp q;obtain⟨x,G,q⟩:=Za.mp q;dsimp only at G q;split at q
 . rename_i j;refine ⟨F,δ,As,Z,δ1,R,Y,fun v F1 H1 A Q4 D o C=>⟨δ1,.int j,o.toS,G,fun y H2 f I=>?_⟩⟩
   cases I;split at q
   . rename_i ds;obtain ⟨c,u,q⟩:=Za.mp q;cases q;obtain ⟨_,L⟩:=C.seq_inv;cases L with
     |@seq a vs _ S J =>obtain⟨w,r,p⟩:=J.atI u;exact .inl ⟨a,vs,j,w,rfl,rfl,(o.fz.trans f).seq S,r,k w F1 H2 [] Q4 (D.bare.grow f) (o.grow f) (RepO.of_sh (o.fz.trans f) p)⟩
   . rename_i ds;obtain ⟨c,u,q⟩:=Za.mp q;split at q
     . rename_i U;cases q;obtain ⟨a,vs,rfl,sq,z⟩:=C.parts;have l:=u;unfold L2.atI at l;obtain ⟨n,t,s⟩:=Za.mp l;obtain ⟨w,A1,B,A2,r,p,_,_⟩:=z.pick s;have V:=p.noo_nil U;subst V;refine .inr ⟨a,vs,j,w,rfl,rfl,gR f sq,?_,k w F1 H2 [] Q4 (D.bare.grow f) (o.grow f) (p.frame (bi f) fun _ m=>nomatch m)⟩
       unfold L2.atI;rw[z.len,t];exact r
     . cases q
   . cases q
 . cases q
end
class xb(P:Program)(w:World)(K:ZA)(mg:Str->Option Value)(base:Heap)(k:outParam Nat)(C:outParam Addr)(m:outParam Str)(ps:outParam (List Str))(G:GQ):Prop where
 ex:∃f fd,jc P w K mg base CX0 k f fd ps (ii K ps.length G)/\Cv K C m f/\Binds K fd ps []/\Cls K C
noncomputable def isC(C:Addr)(m:Str)(d:D):Bool:=match j5 d with
 |some (C',xs,_)=>decide (C'=C)&&(eK m xs).isNone
 |none=>false
def kX{d:D}(h:isC C m d=true)(r:Rep K H v d):∃a dx fs,v=.ref a/\H a=some (.ins C dx fs)/\fs.lookup m=none:=by
 unfold isC at h;split at h
 . rename_i l xs ds e;rw[ZN]at h;obtain⟨a,dx,vs,rfl,f,_,_⟩:=r.objD e;have j:=Z7 h.1;subst j;exact⟨a,dx,_,rfl,f,tP (Option.isNone_iff_eq_none.mp h.2)⟩
 . cases h
def cX(C:Addr)(m:Str)(G:GQ)(fo:FD)(ga:FA):FD:=fun δ=>(fo δ).bind fun d=>if isC C m d then(ga δ).bind fun ds=>(G (shs (d::ds))).bind fun q=>some q.1 else none
def bR(i:Nat)(C:Addr)(m:Str)(f:FM):FM:=fun δ=>match δ[i]? with
 |some (some d)=>if isC C m d then f δ else none
 |_=>none
section
variable {o:Expr} {g:FMA} {bs:Yg (Ye Nat)} {cs:Yg AK} {G:GQ} {pos:Pos}
def LM(I:PD X o fo)(F:xb X.prog X.w X.K X.mg X.base k C m ps G)(D:Room j X.A)(U:PAD X (e::es) ga)(hk:k<=j:=by decide)(J:(e::es).length+1=ps.length:=by kernel_rfl)
 (p:PlX X e es:=by rfl) (hpl:BkX X pos es:=by rfl)
 (B:eval (.Call (.Attribute o m Q7) (e :: es) [] pos) X.env=(do
  let y <- eval o X.env
  standAt Q7.atName
  let (f,first) <- holding [y] (getMethod y m pl)
  callWith pos f first (backTo pos (starEach (e::es) X.env)) (backToKw pos (keywordEach [] X.env))):=by rfl):PD X (.Call (.Attribute o m Q7) (e::es) [] pos) (cX C m G fo ga):=by
 obtain⟨f,fd,F,L,S,O⟩:=F.ex;refine gp (uF I O L F (D.mono hk) S .nil iU U p hpl B) fun{σ H Q δ d} R q k=>?_
 unfold cX at q;obtain⟨Z,Y,q⟩:=Za.mp q;split at q
 . rename_i hi;obtain ⟨ds,s,q⟩:=Za.mp q;obtain ⟨⟨r,fin⟩,V,q⟩:=Za.mp q;cases q;refine ⟨δ,Z,R,Y,fun v H1 u x=>?_⟩
   obtain⟨a,dx,fs,rfl,h1,h2⟩:=kX hi x;refine⟨a,dx,fs,rfl,h1,h2,δ,ds,R.mono u,s,fun vs H2 t z l=>?_⟩
   show ii X.K ps.length G (.ref a::(vs++[])) H2 Q E0;rw[Zj];exact oH (u.trans t) (.cons (x.mono t) z) (by rw[Zm,l];exact J) V k
 . cases q
def Ii(y:PD X o fo)(F:xb X.prog X.w X.K X.mg X.base k C m ps G)(x:Room j X.A)(hk:k<=j:=by decide)(z:1=ps.length:=by kernel_rfl)
 (u:eval (.Call (.Attribute o m Q7) [] [] pos) X.env=(do
  let s <- eval o X.env
  standAt Q7.atName
  let (f,first) <- holding [s] (getMethod s m pl)
  callWith pos f first (backTo pos (starEach [] X.env)) (backToKw pos (keywordEach [] X.env))):=by rfl):PD X (.Call (.Attribute o m Q7) [] [] pos) (cX C m G fo ag):=by
 obtain⟨f,fd,F,B,I,D⟩:=F.ex;refine gp (qH y D B F (x.mono hk) I .nil iU u) fun{σ H Q δ d} R q k=>?_
 unfold cX at q;obtain⟨O,L,q⟩:=Za.mp q;split at q
 . rename_i hi;obtain ⟨ds,l,q⟩:=Za.mp q;obtain ⟨⟨r,fin⟩,J,q⟩:=Za.mp q;cases q;cases l;refine ⟨δ,O,R,L,fun v H1 t p=>?_⟩
   obtain⟨a,dx,fs,rfl,h1,h2⟩:=kX hi p;refine⟨a,dx,fs,rfl,h1,h2,?_⟩;exact(oH t (.cons p .nil) z J k:ii X.K ps.length G [.ref a] H1 Q E0)
 . cases q
def KQ(i) (F:xb X.prog X.w X.K X.mg X.base k C m ps G) (V:Room j X.A) (ha:PLA X (e::es) bs g) (hk:k<=j:=by decide) (Y:bs.length+1=ps.length:=by kernel_rfl)
 (hN:NmX X i x:=by kernel_rfl)
 (y:PlX X e es:=by rfl) (hpl:BkX X pos es:=by rfl)
 (U:eval (.Call (.Attribute (.Name x px) m Q7) (e :: es) [] pos) X.env=(do
  let J <- eval (.Name x px) X.env
  standAt Q7.atName
  let (f,first) <- holding [J] (getMethod J m pl)
  callWith pos f first (backTo pos (starEach (e::es) X.env)) (backToKw pos (keywordEach [] X.env))):=by rfl):PW X (.Call (.Attribute (.Name x px) m Q7) (e::es) [] pos) (bR i C m (aj (some i::bs) G (ae (aa i) g))):=by
 obtain⟨f,fd,F,Z,hb,hc⟩:=F.ex;refine cH (uF (jP hN) hc Z F (V.mono hk) hb .nil iU ha y hpl U) fun{σ H Q F0 δ As d δ'} R q k=>?_
 unfold bR at q;split at q
 . rename_i d0 z;split at q
   . rename_i hi;unfold aj ae at q;obtain ⟨⟨ds,δ1⟩,l,q⟩:=Za.mp q;obtain ⟨⟨r,fin⟩,eG,q⟩:=Za.mp q;cases q;obtain ⟨⟨d1,u⟩,e1,l⟩:=Za.mp l;obtain ⟨⟨D,t⟩,e3,l⟩:=Za.mp l;cases l;obtain ⟨v,A,Q4,h1,s,L,I⟩:=R.take e1;obtain ⟨v',o,S⟩:=R.val i _ z;rw [h1] at o;cases o;obtain ⟨a,dx,fs,rfl,h2,h3⟩:=kX hi (S.rep R.fz);refine ⟨.ref a,h1,a,dx,fs,rfl,h2,h3,F0,u,Q4,D,t,L,e3,fun vs F2 H2 B Q5 p R2 O lk=>?_⟩
     show ii X.K ps.length G (.ref a::(vs++[])) H2 Q E0;rw[Zj];exact oW (bs:=some i::bs) (s.seq p fun x m=>(I.dom x m).1) R2 (.cons (p.stays L.domA I s.dj) O rfl) ⟨h1,lk⟩ (by rw[Zm,qW lk];exact Y) eG k
   . cases q
 . cases q
def Hl(i) (F:xb X.prog X.w X.K X.mg X.base k C m ps G) (I:Room j X.A) (hk:k<=j:=by decide) (J:1=ps.length:=by kernel_rfl)
 (U:NmX X i x:=by kernel_rfl)
 (D:eval (.Call (.Attribute (.Name x px) m Q7) [] [] pos) X.env=(do
  let t <- eval (.Name x px) X.env
  standAt Q7.atName
  let (f,first) <- holding [t] (getMethod t m pl)
  callWith pos f first (backTo pos (starEach [] X.env)) (backToKw pos (keywordEach [] X.env))):=by rfl):PW X (.Call (.Attribute (.Name x px) m Q7) [] [] pos) (bR i C m (aj [some i] G (ae (aa i) ak))):=by
 obtain⟨f,fd,F,L,S,O⟩:=F.ex;refine cH (qH (jP U) O L F (I.mono hk) S .nil iU D) fun{σ H Q F0 δ As d δ'} R q k=>?_
 unfold bR at q;split at q
 . rename_i d0 p;split at q
   . rename_i hi;unfold aj ae at q;obtain⟨⟨ds,δ1⟩,l,q⟩:=Za.mp q;obtain⟨⟨r,fin⟩,Y,q⟩:=Za.mp q;cases q;obtain⟨⟨d1,y⟩,e1,l⟩:=Za.mp l;obtain⟨⟨ds3,u⟩,Z,l⟩:=Za.mp l;cases l;cases Z;obtain⟨v,A,Q4,h1,s,R1,z⟩:=R.take e1;obtain⟨v',o,B⟩:=R.val i _ p;rw[h1]at o;cases o;obtain⟨a,dx,fs,rfl,h2,V⟩:=kX hi (B.rep R.fz);refine⟨.ref a,h1,a,dx,fs,rfl,h2,V,?_⟩;exact(oW (bs:=[some i]) s R1 (.cons z .nil (by simp)) ⟨h1,True.intro⟩ J Y k:ii X.K ps.length G [.ref a] H Q E0)
   . cases q
 . cases q
end
class MkQ(P:Program)(w:World)(K:ZA)(mg:Str->Option Value)(base:Heap)(k:outParam Nat)(x:outParam Str)(C:Addr)(ps:outParam (List Str))(G:GQ):Prop where
 ex:∃f fd,jc P w K mg base CX0 k f fd ps (ii K ps.length G)/\Mk K C f/\mg x=some (.ref C)/\Binds K fd ps []
noncomputable def fI(C:Addr)(bs:List (Option Nat))(G:GQ)(g:FMA):FM:=fun δ=>(g δ).bind fun p=>(G (.oo C [] []::p.1)).bind fun q=>match q with
 |(.non,some o::fin)=>some (o,ij bs fin p.2)
 |_=>none
theorem tH{F}{bs}{G}{o}{Q:VK}{E}{x dx}(t:EvW F H As F1 H1 Q4 A)(U:RepA K F1 H1 σ δ1 Q4)(O:RepOs K F1 H1 vs ds A)(lk:Lk σ bs vs)(hn:vs.length+1=n)(D:H1 x=none)(S:H1 dx=none)(ne:dx≠x)
 (eG:G (.oo C [] []::ds)=some (.non,some o::fin)) (k:∀v F' H' A Q2,EvW F H As F' H' Q2 A->RepA K F' H' σ (ij bs fin δ1) Q2->RepO K F' H' v o A->Q v H'):ii K n G (.ref x::vs) (upd (upd H1 dx (.own x)) x (.ins C dx [])) (fun v H2=>v=.non/\Q (.ref x) H2) E:=by
 have J:Same H1 (upd (upd H1 dx (.own x)) x (.ins C dx [])):=fun a u e=>by rw[aI (bp e D),aI (bp e S)];exact e
 have Fx:F1 x=none:=by
  cases q:F1 x with
  |none=>rfl
  |some u=>rw[U.fz x u q]at D;cases D
 have rx:RepO K F1 (upd (upd H1 dx (.own x)) x (.ins C dx [])) (.ref x) (.oo C [] []) [x]:=.oo aL Fx rfl .nil;have L:=O.frame (bi J) fun a m=>by obtain⟨⟨u,e⟩,_⟩:=O.dom a m;rw[e];exact J a _ e
 have s:=U.grow J;have Z:x∉A:=fun m=>by obtain⟨⟨u,e⟩,_⟩:=O.dom x m;rw[D]at e;cases e
 have l:EvW F H As F1 (upd (upd H1 dx (.own x)) x (.ins C dx [])) Q4 (x::A):=⟨t.fs,(t.grow J).ks,t.nf,t.fa,fun a m=>by
  rcases Zt.mp m with z|z
  . subst z;exact t.old D
  . exact t.fA a z,Z1.mpr ⟨Z,t.nd⟩,fun i a m z=>by
  rcases Zt.mp z with z|z
  . subst z;obtain⟨⟨u,e⟩,_⟩:=U.dom m;rw[D]at e;cases e
  . exact t.dj i a m z⟩
 obtain⟨AA,Y,sub⟩:=(RepOs.cons rx L rfl:RepOs K F1 _ (.ref x::vs) (.oo C [] []::ds) (x::A)).toA s.fz l.nd;refine⟨by rw[Zm];exact hn,F1,_,AA,_,_,Y,eG,fun v F2 H2 AA2 B r f rv=>?_⟩
 have hv:v=.non:=by cases rv.rep f.fz;rfl
 refine⟨hv,?_⟩;have X:∀i j a,a∈Q4 i->a∉AA j:=fun i j a m z=>l.dj i a m (sub j a z)
 have R2:=s.beside r Y.domA f.fz X;have I:∀i j a,a∈Q4 i->a∉AA2 j:=fun i j a m z=>by
  rcases r.fa j a z with⟨j2,y⟩|y
  . exact X i j2 a m y
  . obtain⟨⟨u,e⟩,_⟩:=s.dom m;rw[y]at e;cases e
 obtain⟨X3,R3,V⟩:=nO R2 f.tail lk fun i j a m=>I i (j+1) a m
 obtain⟨w,hw,ro⟩:=f.val 0 o rfl;cases hw;have p:=l.call r sub s.domA fun i a m=>(V i a m).imp id fun ⟨j,z⟩=>⟨j+1,z⟩
 refine k _ F2 H2 (AA2 0) X3 ⟨p.fs,p.ks,p.nf,p.fa,fun a m=>?_,f.nd 0,fun i a m z=>?_⟩ R3 ro
 . rcases r.fa 0 a m with ⟨j,y⟩ | y
   . exact l.fA a (sub j a y)
   . exact l.old y
 . rcases V i a m with ⟨j,y⟩ | ⟨j,y⟩
   . exact I j 0 a y z
   . exact f.dj (j+1) 0 a (by lia) y z
section
variable {g:FMA} {bs:Yg (Ye Nat)} {G:GQ} {pos:Pos}
def Hm(F:MkQ X.prog X.w X.K X.mg X.base k x C ps G)(z:Room j X.A)(O:PLA X (e::es) bs g)(hk:k+1<=j:=by decide)(J:Gl X x:=by rfl)(D:bs.length+1=ps.length:=by kernel_rfl)(m:NbX x:=by kernel_rfl)
 (he:PlX X e es:=by rfl) (hpl:BkX X pos es:=by rfl):PW X (.Call (.Name x p) (e::es) [] pos) (fI C bs G g):=by
 obtain⟨f,fd,F,M,I,L⟩:=F.ex;refine cH (Ie M F (z.mono hk) J I L .nil iU O m he hpl) fun{σ H Q Y δ As d δ'} R q k=>?_
 unfold fI at q;obtain⟨⟨ds,δ1⟩,s,q⟩:=Za.mp q;obtain⟨⟨r,fin⟩,U,q⟩:=Za.mp q;split at q
 . rename_i o t B;cases q;cases B;refine ⟨Y,δ,As,ds,δ1,R,s,fun vs F1 H1 A Q4 S V u lk x dx y l v=>?_⟩
   rw[Zj];exact tH S V u lk (by rw[qW lk];exact D) y l v U k
 . cases q
def DC(F:MkQ X.prog X.w X.K X.mg X.base k x C ps G)(y:Room j X.A)(hk:k+1<=j:=by decide)(I:Gl X x:=by rfl)(B:1=ps.length:=by kernel_rfl)(m:NbX x:=by kernel_rfl):PW X (.Call (.Name x p) [] [] pos) (fI C [] G ak):=by
 obtain⟨f,fd,F,M,D,J⟩:=F.ex;refine cH (Ek M F (y.mono hk) I D J .nil iU m) fun{σ H Q O δ As d δ'} R q k=>?_
 unfold fI at q;obtain⟨⟨ds,δ1⟩,s,q⟩:=Za.mp q;obtain⟨⟨r,fin⟩,L,q⟩:=Za.mp q;split at q
 . rename_i o t z;cases q;cases z;cases s;exact fun x dx v l u=>tH (bs:=[]) EvW.refl R .nil True.intro B v l u L k
 . cases q
end
noncomputable def clr(n:Nat)(ι:DS):DS:=List.replicate n none++ι.drop n
def bh(n:Nat)(g:D->DS->Option DS)(fc:FT)(felt:FM):List D->DS->Option (List D×DS)
 |[],ι=>some ([],ι)
 |d::ds,ι=>(g (sh d) ι).bind fun ι1=>(fc ι1).bind fun b=>if b=true then(felt ι1).bind fun q=>(bh n g fc felt ds (clr n q.2)).bind fun t=>some (q.1::t.1,t.2)else bh n g fc felt ds (clr n ι1)
section
variable {F:Hp} {ι:DS}
def EvW.re(e:EvW F H As F' H' Q4 A)(h:∀j a,a∈Q5 j->∃k,a∈Q4 k):EvW F H As F' H' Q5 A:=⟨e.fs,e.ks,e.nf,fun j a m=>let ⟨k,z⟩:=h j a m;e.fa k a z,e.fA,e.nd,fun j a m=>let ⟨k,z⟩:=h j a m;e.dj k a z⟩
theorem RepOs.stays(l:EvW F H As F' H' Q4 B)(o:Cw H As){vs:Yg V}{ds:Yg D}{A:Yg Yd}(r:RepOs K F H vs ds A):(∀i a,a∈As i->a∉A)->RepOs K F' H' vs ds A:=by
 induction r using RepOs.ind with
 |nil=>exact fun _=>.nil
 |cons r _ j=>exact fun f=>.cons (l.stays o r fun i a m z=>f i a m (ZE _ z)) (j fun i a m z=>f i a m (ZD _ z)) rfl
theorem RepA.clr(R:RepA K F H σ ι As)(n) (r:n<=ι.length):RepA K F H σ (Dl.clr n ι) (fun j=>if j<n then[]else As j):=by
 have p:∀j,j<n->(Dl.clr n ι)[j]?=some none:=fun j f=>by unfold Dl.clr;rw[List.getElem?_append_left (by simpa using f),List.getElem?_replicate,if_pos f]
 have l:∀j,¬j<n->(Dl.clr n ι)[j]?=ι[j]?:=fun j f=>by
  unfold Dl.clr;rw[List.getElem?_append_right (by simpa using f),List.getElem?_drop]
  congr 1
  simp
  lia
 refine⟨R.fz,by rw[R.len];unfold Dl.clr;simp;lia,fun j d q=>?_,fun j h=>?_,fun j=>?_,fun j k a o m=>?_⟩
 . by_cases f:j < n
   . rw[p j f]at q;cases q
   . rw[l j f]at q;obtain⟨v,h1,h2⟩:=R.val j d q;exact⟨v,h1,by rw[if_neg f];exact h2⟩
 . skip
   split
   . rfl
   . rename_i f;refine R.non j fun d z=>h d ?_
     rw[l j f];exact z
 . skip
   split
   . exact Zy
   . exact R.nd j
 . skip
   split at m
   . cases m
   . split
     . exact fun z=>nomatch z
     . exact R.dj j k a o m
theorem RepA.padL(R:RepA K F H σ ι As)(n):RepA K F H (List.replicate n none++σ) (List.replicate n none++ι) (fun j=>if j<n then[]else As (j-n)):=by
 refine⟨R.fz,by simp[R.len],fun j d q=>?_,fun j h=>?_,fun j=>?_,fun j k a l m=>?_⟩
 . by_cases f:j < n
   . rw[List.getElem?_append_left (by simpa using f),List.getElem?_replicate,if_pos f]at q;cases q
   . rw [List.getElem?_append_right (by simpa using f)] at q ⊢
     simp only[List.length_replicate]at q ⊢;obtain⟨v,h1,h2⟩:=R.val _ d q;exact⟨v,h1,by rw[if_neg f];exact h2⟩
 . skip
   split
   . rfl
   . rename_i f;refine R.non _ fun d z=>h d ?_
     rw[List.getElem?_append_right (by simpa using f)]
     simpa using z
 . skip
   split
   . exact Zy
   . exact R.nd _
 . skip
   split at m
   . cases m
   . split
     . exact fun z=>nomatch z
     . exact R.dj _ _ a (by lia) m
theorem RepA.dropN(R:RepA K F H σ ι As)(n):RepA K F H (σ.drop n) (ι.drop n) (fun j=>As (n+j)) :=
 ⟨R.fz,by simp[R.len],fun j d q=>by rw[List.getElem?_drop]at q ⊢;exact R.val _ d q,fun j h=>R.non _ fun d z=>h d (by rw[List.getElem?_drop];exact z),fun j=>R.nd _,fun j k a f m=>R.dj _ _ a (by lia) m⟩
end
section
theorem pG{pos}{J}{xs}{ι0 ιe}{F0}{t}{g}{E:Yb->Yc->Prop}(I:L2.Inv X Q0 σ H₂ s₂)(hcm:X.calm=true)(O:CompG X scope cl T N js)
 (TT:w9 X.prog X.w X.K tg J fp it tn) (st:tn 0 s₂.heap) (hf:∀b∈fp,nZ X Q0 H₂ b) (itd:ItG X.K J F0 ds) (R0:RepA X.K F0 H₂ (List.replicate T.length none++fK js σ) ι0 AA0) (hg:∀C s₂ H₂ fp pn,PG (aY X scope cl T N C s₂ H₂ fp pn) tg t) (good:iB X.K (fun l=>l.drop T.length=fK js σ) t g) (hc:∀C s₂ H₂ fp pn,si (aY X scope cl T N C s₂ H₂ fp pn) X5 fc) (he:∀C s₂ H₂ fp pn,PW (aY X scope cl T N C s₂ H₂ fp pn) X7 felt)
 (hm:bh T.length g fc felt ds ι0=some (xs,ιe)) (hz:xs.length<=1000)
 (hRR:∀D C s' H' vs l F' Q2 G,s₂.heap.objs.size<=C->L2.Inv X Q0 σ (upd H' D (.lst vs)) s'->H' D=none->H₂ D=none->l.drop T.length=fK js σ->RepA X.K F' H' l ιe Q2->RepOs X.K F' H' vs xs G->EvW F0 H₂ AA0 F' H' Q2 G->(∃m,s'.heap.Ns C m)->upd H' D (.lst vs) C=none->RR (.ref D) C (.ok .next) s') :
 wpAny (model X.prog X.w) X.A (newList []) (fun acc U=>wpAny (model X.prog X.w) X.A (newFunctionEnv scope X.env.globals cl [] X.env.qual none .none (some X.env)) (fun cenv s₄ =>codeAny (model X.prog X.w) X.A (.compStart (.ListComp X7 [⟨tg,iter,X5,0⟩] scope pos) 0 (.ref it) acc { cenv with scope:=relabel scope X.env }) (RR acc cenv.locals) s₄) E U) E s₂:=by
 have objs:=TT.obj 0 s₂.heap st;have V:∀b∈fp,∃o,s₂.heap.get? b=some o:=fun b f=>let ⟨o,h,_⟩:=objs b f;⟨o,h⟩
 refine wpAny_newObj_type (wpAny_newFunctionEnv O.nocell (by intro y hy;simp at hy) (fun h₁ hns₁ Q=>?_) O.kind)
 generalize hP:s₂.heap.push { cls:=.type "list",dict:=none,data:=.seq ([]:Yg Yb).toArray }=P2 at hns₁ Q ⊢;have hC:P2.objs.size=s₂.heap.objs.size+1:=by rw[<- hP,Heap.size_push]
 generalize hCC:P2.objs.size=C at *
 have hCle:s₂.heap.objs.size<=C:=by lia
 have hDle:s₂.heap.objs.size<=s₂.heap.objs.size:=by lia
 have hDC:s₂.heap.objs.size≠C:=by lia
 have old:∀b o,s₂.heap.get? b=some o->h₁.get? b=some o:=fun b o e=>by refine Q.extBut b o (ZI (ZC (ZT e) hCle)) (ZS _ ?_);rw[<- hP];exact ZS _ e
 have hacc:h₁.get? s₂.heap.objs.size=some { cls:=.type "list",data:=.seq ([]:Yg Yb).toArray }:=by refine Q.extBut s₂.heap.objs.size _ hDC (ZS _ ?_);rw[<- hP];exact ZW _ rfl
 have I0:=fun tk=>wP (tk:=tk) I hcm O hCle hf V old hns₁ I.len
 have dstk:=wd I hDle;have fne:∀b∈fp,b≠s₂.heap.objs.size:=fun b f e=>by obtain⟨o,h⟩:=V b f;exact absurd (ZT h) (by rw[e];exact ZJ _)
 have cne:∀y c,cl.lookup y=some c->c≠s₂.heap.objs.size:=fun y c e z=>by obtain⟨v,o,h1,_⟩:=I.cell y c (O.cls y c e);exact absurd (ZT h1) (by rw[z];exact ZJ _)
 have pne:∀p∈X.pn++Q0,p.1≠s₂.heap.objs.size:=fun p S e=>by exact absurd (ZT (I.pin p S).1) (by rw[e];exact ZJ _)
 have stat:∀{H'}{pl},(∀b∈fp,H' b=none)->(∀p∈pl,∀b∈fp,p.1≠b)->∀b∈fp,nZ (aY X scope cl T N C s₂ H₂ fp (X.pn++Q0)) pl H' b:=fun{H' pl} hn hpl b f=>by
  obtain⟨o,h⟩:=V b f;refine⟨hn b f,ZI (ZC (ZT h) hCle),fun z=>?_,.inl f,fun y c e=>(hf b f).2.2.2.2.1 y c (O.cls y c e),fun p S=>?_⟩
  . rcases Zt.mp (I.stkSub b z) with e | e
    . exact(hf b f).2.1 e
    . exact(hf b f).2.2.1 e
  . rcases Zs.mp S with q | q
    . exact(hf b f).2.2.2.2.2 p q
    . exact hpl p q b f
 have loop:∀ U,U={ s₂ with heap:=h₁,toks:=s₂.toks+([]:Yg (Str×Yb)).length } ->
  codeAny (model X.prog X.w) X.A (.compLoop (.ListComp X7 [⟨tg,iter,X5,0⟩] scope pos) 0 (.ref it) (.ref s₂.heap.objs.size) (compEnvC scope cl C X.env)) (RR (.ref s₂.heap.objs.size) C) U:=by
  rintro U rfl
  refine rS (fun n s=>∃i l H' vs F' Q2 G ι ys Q8,n=ds.length-i/\i<=ds.length/\L2.Inv (aY X scope cl T N C s₂ H₂ fp (X.pn++Q0)) [] l H' s/\tn i s.heap/\(∀b∈fp,H' b=none) /\
   (∃Q1 k,Vals vs Q1/\s.heap.get? s₂.heap.objs.size=some { cls:=.type "list",data:=.seq Q1.toArray k })/\H' s₂.heap.objs.size=none/\l.drop T.length=fK js σ/\RepA X.K F' H' l ι Q2/\RepOs X.K F' H' vs ys G/\EvW F0 H₂ AA0 F' H' Q2 G/\bh T.length g fc felt (ds.drop i) ι=some (Q8,ιe)/\ys++Q8=xs) ?_ ds.length
   ⟨0,_,H₂,[],F0,AA0,[],ι0,[],xs,rfl,Nat.zero_le _,I0 _,TT.keep 0 _ _ st (fun b f o e=>old b o e),fun b f=>(hf b f).1,⟨[],0,.nil,hacc⟩,I.hok.fresh hDle,by simp,R0,.nil,EvW.refl,hm,rfl⟩
  rintro n s ⟨i,l,H',vs,F',Q2,G,ι,ys,Q8,rfl,hi,I',st',fr',⟨Q1,k,rv,hD⟩,fD,zσ,R',rr,ev,Y,hx⟩
  have lz:Q1.length<=1000:=by
   have h1:=rv.length;have h2:=rr.len;have h3:=Z8 List.length hx;rw[Zk]at h3
   lia
  have sF:=ev.fs.trans R'.fz
  by_cases hlt:i<ds.length
  . obtain ⟨go,yl⟩:=(itd i H' sF).1 hlt;have hd0:ds[i]? = some ds[i]:=by simp [hlt]
    rw[List.drop_eq_getElem_cons hlt]at Y;obtain⟨ι1,e1,Y⟩:=Za.mp (Y);obtain⟨ok,eok,Y⟩:=Za.mp Y;have I1:L2.Inv (aY X scope cl T N C s₂ H₂ fp (X.pn++Q0)) [(s₂.heap.objs.size,{ cls:=.type "list",data:=.seq Q1.toArray k })] l H' s:=I'.pins_of fun p S=>by
     have:p=(s₂.heap.objs.size,{ cls:=.type "list",data:=.seq Q1.toArray k }):=by simpa using S
     subst this;exact⟨hD,fD,hDC,dstk,fun v z=>by cases z⟩
    refine thn (TT.item (aY X scope cl T N C s₂ H₂ fp (X.pn++Q0)) rfl rfl rfl rfl i _ s l H' (fun _ _=>False) I1 (stat fr' fun p S b f=>by
     have:p=(s₂.heap.objs.size,{ cls:=.type "list",data:=.seq Q1.toArray k }):=by simpa using S
     subst this;exact(fne b f).symm) st' go) fun r s1 h0=>?_
    obtain⟨u,hr,h4⟩:=h0;subst hr;refine thn h4 fun _ s2 h0=>?_
    obtain⟨y,H'',I2,ru,yy,st2,fr2⟩:=h0;obtain⟨sH,d,hd,rd⟩:=yl y H'' yy;have hd':d=ds[i]:=by rw[hd0]at hd;exact(ZG hd).symm
    subst hd';have I3:=I2.pinned (stat fr2 fun p S b f=>by
     have:p=(s₂.heap.objs.size,{ cls:=.type "list",data:=.seq Q1.toArray k }):=by simpa using S
     subst this;exact(fne b f).symm) (TT.obj _ _ st2)
    refine thn (hg C s₂ H₂ fp (X.pn++Q0) _ s2 l H'' y u (fun H H4=>H4=H''/\∃Z,RepA X.K F' H'' H ι1 Z/\EvW F0 H₂ AA0 F' H'' Z G/\H.drop T.length=fK js σ) I3 ru (good (R'.grow sH) (rd F' ev.fs (R'.grow sH).fz) Zy (fun _ _ _ z=>nomatch z) e1 zσ fun H Z R4 h4 z4=>⟨rfl,Z,R4,(ev.grow sH).re fun j a m=>(h4 j a m).elim id fun z=>(nomatch z),z4⟩)) fun _ s4 h0=>?_
    obtain⟨H,H4,I4,e2,Z,R4,ev4,z4⟩:=h0;subst e2;refine thn (hc C s₂ H₂ fp (X.pn++Q0) _ s4 H H4 (fun b H5=>b=ok/\Same H4 H5) I4 ⟨ι1,ok,R4.toS,eok,fun H5 s5=>⟨rfl,s5⟩⟩) fun okv sT h0=>?_
    obtain⟨HT,IT,hok',sT4⟩:=h0;have hDT:sT.heap.get? s₂.heap.objs.size=some { cls:=.type "list",data:=.seq Q1.toArray k }:=(IT.pin (s₂.heap.objs.size,{ cls:=.type "list",data:=.seq Q1.toArray k }) (by simp)).1
    have fDT:HT s₂.heap.objs.size=none:=(IT.pin (s₂.heap.objs.size,{ cls:=.type "list",data:=.seq Q1.toArray k }) (by simp)).2.1
    have RT:=R4.grow sT4;have evT:=ev4.grow sT4;have rrT:RepOs X.K F' HT vs ys G:=rr.frame (bi (sH.trans sT4)) fun a m=>by obtain⟨⟨ws,e⟩,_⟩:=rr.dom a m;rw[e];exact(sH.trans sT4) a _ e
    have hnT:T.length<=H.length:=by have h1:=IT.len;have h2:H.length=N.length:=h1;rw[h2,O.len];exact Nat.le_add_right _ _
    cases ok with
    |false =>
     rw[hok',if_neg (by decide)]
     rw[if_neg ZB]at Y;have pf:∀b∈fp,∀B,s2.heap.get? b=some B->sT.heap.get? b=some B/\HT b=none:=fun b f B L=>by have:=IT.pin (b,B) (ZD _ (ZD _ (jr f L)));exact⟨this.1,this.2.1⟩
     refine⟨ds.length-(i+1),by lia,i+1,H,HT,vs,F',_,G,_,ys,Q8,rfl,hlt,IT.pins_of (pins':=[]) (fun p S=>by simp at S),?_,?_,⟨Q1,k,rv,hDT⟩,fDT,z4,RT.clr T.length (by rw[<- RT.len];exact hnT),rrT,evT.re (fun j a m=>?_),Y,hx⟩
     . refine TT.keep _ _ _ st2 fun b f B L=>(pf b f B L).1
     . intro b f;obtain⟨B,L,_⟩:=TT.obj _ _ st2 b f;exact(pf b f B L).2
     . skip
       split at m
       . cases m
       . exact⟨j,m⟩
    | true =>
     rw[hok',if_pos rfl];rw[if_pos rfl]at Y;obtain⟨⟨e,ι2⟩,e2,Y⟩:=Za.mp Y;obtain⟨⟨rest2,ιe2⟩,e3,Y⟩:=Za.mp Y;cases Y;refine thn (he C s₂ H₂ fp (X.pn++Q0) _ sT H HT (fun v H5=>∃F5 As5 A5,EvW F' HT Z F5 H5 As5 A5/\RepA X.K F5 H5 H ι2 As5/\RepO X.K F5 H5 v e A5) IT ⟨F',ι1,Z,e,ι2,RT,e2,fun v F5 H5 A5 As5 ev5 R5 r5=>⟨F5,As5,A5,ev5,R5,r5⟩⟩) fun wv s5 h0=>?_
     obtain⟨v,H5,I5,rw5,F5,As5,A5,ev5,R5,r5⟩:=h0;have hD5:s5.heap.get? s₂.heap.objs.size=some { cls:=.type "list",data:=.seq Q1.toArray k }:=(I5.pin (s₂.heap.objs.size,{ cls:=.type "list",data:=.seq Q1.toArray k }) (by simp)).1
     have fD5:H5 s₂.heap.objs.size=none:=(I5.pin (s₂.heap.objs.size,{ cls:=.type "list",data:=.seq Q1.toArray k }) (by simp)).2.1
     have pf:∀b∈fp,∀B,s2.heap.get? b=some B->s5.heap.get? b=some B/\H5 b=none:=fun b f B L=>by have:=I5.pin (b,B) (ZD _ (ZD _ (jr f L)));exact⟨this.1,this.2.1⟩
     refine call_meets F.slot_list_append ⟨_,hD5,rfl⟩ F.entry_list_append (F.args_list_append_2 _ _) (PySem.list_append s₂.heap.objs.size Q1.toArray k wv (by rw[ZF];exact eT lz)) ⟨hD5,?_⟩
     have q:=PySem.IsL.update hD5 (fun a=>a.push wv)
     have I6:L2.Inv (aY X scope cl T N C s₂ H₂ fp (X.pn++Q0)) [] H H5 { s5 with heap:=s5.heap.update s₂.heap.objs.size (Obj.mapSeq fun a=>a.push wv),toks:=s5.toks } :=
      (I5.pins_of (pins':=[]) fun p S=>by simp at S).turned (it:=s₂.heap.objs.size) (t':=s5.toks) (fun b B f hu=>(Heap.get?_update_other s5.heap _ (Ne.symm f)).trans hu) fD5 hDC (.inr hDle) cne (fun p S=>by
       rcases Zs.mp S with z|z
       . exact pne p z
       . simp at z)
     have rr5:RepOs X.K F5 H5 (vs++[v]) (ys++[e]) (G++A5):=(RepOs.stays ev5 RT.domA rrT evT.dj).snoc r5;have ev6:EvW F0 H₂ AA0 F5 H5 As5 (G++A5):=evT.seq ev5 fun x m=>(rrT.dom x m).1
     refine⟨ds.length-(i+1),by lia,i+1,H,H5,vs++[v],F5,_,G++A5,_,ys++[e],rest2,rfl,hlt,I6,?_,?_,?_,fD5,z4,R5.clr T.length (by rw[<- R5.len];exact hnT),rr5,ev6.re (fun j a m=>?_),e3,?_⟩
     . refine TT.keep _ _ _ st2 fun b f B L=>?_
       exact(Heap.get?_update_other s5.heap _ (Ne.symm (fne b f))).trans (pf b f B L).1
     . intro b f;obtain⟨B,L,_⟩:=TT.obj _ _ st2 b f;exact(pf b f B L).2
     . have hf7:Q1.toArray.push wv=(Q1++[wv]).toArray:=by simp
       rw[hf7]at q;exact⟨Q1++[wv],_,rv.append (.cons rw5 .nil),q⟩
     . skip
       split at m
       . cases m
       . exact⟨j,m⟩
     . rw[<- hx];simp
  . have hie:i=ds.length:=by lia
    subst hie;rw[List.drop_length]at Y;have hl0:([],ι)=(Q8,ιe):=ZG Y;obtain⟨l1,l2⟩:=ZX hl0;subst l1 l2;rw[Zj]at hx;subst hx;refine thn (TT.done (aY X scope cl T N C s₂ H₂ fp (X.pn++Q0)) rfl rfl rfl rfl ds.length [(s₂.heap.objs.size,{ cls:=.type "list",data:=.seq Q1.toArray k })] s l H' (fun _ _=>False) (I'.pins_of fun p S=>by
     have:p=(s₂.heap.objs.size,{ cls:=.type "list",data:=.seq Q1.toArray k }):=by simpa using S
     subst this;exact⟨hD,fD,hDC,dstk,fun v z=>by cases z⟩) (stat fr' fun p S b f=>by
     have:p=(s₂.heap.objs.size,{ cls:=.type "list",data:=.seq Q1.toArray k }):=by simpa using S
     subst this;exact(fne b f).symm) st' ((itd _ H' sF).2 (ZM _))) fun r s1 h0=>?_
    obtain⟨hr,I8⟩:=h0;subst hr;have hD8:s1.heap.get? s₂.heap.objs.size=some { cls:=.type "list",data:=.seq Q1.toArray k }:=(I8.pin (s₂.heap.objs.size,{ cls:=.type "list",data:=.seq Q1.toArray k }) (by simp)).1
    have dn:∀b,∀u,H' b=some u->b≠s₂.heap.objs.size:=fun b u z=>bp z fD
    have un:Un (frs X.stack) fp H₂ (upd H' s₂.heap.objs.size (.lst vs)) s₂.heap s1.heap:=by
     have b0:=I8.base;refine⟨fun b B e n1 n2 n3=>b0.keep b B e n1 n2 n3,fun b B e n1 n2 n3=>b0.slot b B e n1 n2 n3,fun b B e n1 n3=>?_,fun b B e n3=>b0.there b B e n3,fun b zs e=>?_,fun b B u e=>?_,fun b ps e=>?_⟩
     . rw[aI (ZI (ZT e))];exact b0.free b B e n1 n3
     . have z:=b0.tups b zs e;rw[aI (dn _ _ z)];exact z
     . have z:=b0.frzs b B u e;rw[aI (dn _ _ z)];exact z
     . obtain⟨more,z⟩:=b0.tbls b ps e;exact⟨more,by rw[aI (dn _ _ z)];exact z⟩
    have hok:HOk X.prog X.w (upd H' s₂.heap.objs.size (.lst vs)) s1.heap:=fun b u z=>by
     by_cases f:b=s₂.heap.objs.size
     . rw[f]at z ⊢;rw[aL]at z;cases z;exact⟨eT (by have:=rr.len;lia),Q1,k,rv,hD8⟩
     . rw[aI f]at z;exact(I8.hok b u z).stay (fun _ _ _ q=>q) (fun c q=>by rw[aI (dn _ _ q)];exact q) fun c ys q=>by rw[aI (dn _ _ q)];exact q
    have IX:L2.Inv X Q0 σ (upd H' s₂.heap.objs.size (.lst vs)) s1:=I.call' I8.os un hok I8.bare fun b f=>⟨(hf b f).2.2.2.1,(hf b f).2.1,(hf b f).2.2.2.2.1,(hf b f).2.2.2.2.2⟩
    obtain⟨m8,hn8,_⟩:=I8.loc;refine hRR s₂.heap.objs.size C s1 H' vs l F' Q2 G hCle IX fD (I.hok.fresh hDle) zσ R' rr ev ⟨m8,hn8⟩ ?_;rw[aI (Ne.symm hDC)];exact I8.free
 exact codeAny_compStart_list (loop _ rfl) (TT.self X.A 0 _ _ _ (TT.keep 0 _ _ st (fun b f o e=>old b o e)) (loop _ rfl))
end
theorem mN{F}:∀{bs}{δ δ1}{ds}{As},RepA K F H σ δ As->takes bs δ=some (ds,δ1)->∃vs,LkV σ bs vs
 |[],_,_,_,_,_,_=>⟨[],True.intro⟩
 |.val::_,_,_,_,_,_,e=>by cases e
 |.lent i::bs,δ,δ1,ds,As,R,e=>by obtain⟨⟨r,l⟩,p,e⟩:=Za.mp (e);obtain⟨⟨q,j⟩,o,_⟩:=Za.mp e;obtain⟨v,A,t,h1,_,s,_⟩:=R.takeN p;obtain⟨vs,h⟩:=mN s o;exact⟨v::vs,h1,h⟩
 |.view i::bs,δ,δ1,ds,As,R,e=>by
  have f:cO i (takes bs) δ=some (ds,δ1):=e;unfold cO at f;split at f
  . rename_i r m;obtain⟨v,h1,_⟩:=R.val i _ m;obtain⟨vs,h⟩:=mN R f;exact⟨v::vs,h1,h⟩
  . cases f
theorem qV:∀{js}{vs},LkV σ (js.map AK.lent) vs->fK js σ=vs.map some/\Lk σ (js.map some) vs/\vD (js.map AK.lent) vs=vs
 |[],[],_=>⟨rfl,True.intro,rfl⟩
 |j::js,v::vs,h=>by
  obtain⟨h1,h2,f⟩:=qV h.2;refine⟨?_,⟨h.1,h2⟩,Z8 (v::·) f⟩;show(match σ[j]? with|some o=>o|none=>none)::fK js σ=_
  rw[h.1,h1];rfl
 |[],_::_,h=>Z9 h
 |_::_,[],h=>Z9 h
def aA(src:FMA)(n:Nat)(js:List Nat)(g:D->DS->Option DS)(fc:FT)(felt:FM):FM:=fun δ=>(src δ).bind fun q=>(takes (js.map AK.lent) q.2).bind fun c=>(bh n g fc felt q.1 (List.replicate n none++c.1.map some)).bind fun t =>if t.1.length<=1000 then some (.lst t.1,ij (js.map some) (t.2.drop n) c.2)else none
section
def t6 {F} {σ'} {δc ιe} {Acc} {ws} {xs} {ι0} {σ0} {D} (V:EvW F H As F1 H1 Q4 []) (r:EvW F1 H1 Q4 F1 H1 Asc A) (B:RepA X.K F1 H1 σ δc Asc) (Y:RepA X.K F1 H1 σ0 ι0 (fun j=>if j < T.length then [] else AA (j - T.length))) (sub:∀ j a,a∈AA j->a∈A) (C:RepA X.K F' H' σ' ιe Q2) (t:RepOs X.K F' H' ws xs Acc) (o:EvW F1 H1 (fun j=>if j < T.length then [] else AA (j - T.length)) F' H' Q2 Acc) (s:σ'.drop T.length=fK js σ) (Q:fK js σ=vs.map some) (O:Lk σ (js.map some) vs) (p:H' D=none) :
 ∃X3,EvW F H As F' (upd H' D (.lst ws)) X3 (D::Acc)/\RepA X.K F' (upd H' D (.lst ws)) σ (ij (js.map some) (ιe.drop T.length) δc) X3/\RepO X.K F' (upd H' D (.lst ws)) (.ref D) (.lst xs) (D::Acc):=by
 have Rd:=C.dropN T.length;rw[s,Q]at Rd;have l:∀j a,a∈(fun j=>if j<T.length then[]else AA (j-T.length)) j->a∈A:=fun j a m=>by
  by_cases G:j<T.length
  . have q:a∈(if j < T.length then [] else AA (j - T.length)):=m
    rw[if_pos G]at q;cases q
  . have q:a∈(if j < T.length then [] else AA (j - T.length)):=m
    rw[if_neg G]at q;exact sub _ a q
 have I:∀i j a,a∈Asc i->a∉(fun j=>if j<T.length then[]else AA (j-T.length)) j:=fun i j a m z=>r.dj i a m (l j a z)
 have R2:=B.beside o Y.domA C.fz I;have x:∀i j a,a∈Asc i->a∉Q2 j:=fun i j a m z=>by
  rcases o.fa j a z with⟨S,y⟩|y
  . exact I i S a m y
  . obtain⟨⟨u,e⟩,_⟩:=B.dom m;rw[y]at e;cases e
 obtain⟨X3,J,U⟩:=nO R2 Rd O fun i j a m=>x i (T.length+j) a m
 have f:=(V.go r).call o l B.domA fun i a m=>(U i a m).imp id fun ⟨j,z⟩=>⟨T.length+j,z⟩
 have sn:=a8 p (.lst ws);have L:F' D=none:=by
  cases z:F' D with
  |none=>rfl
  |some u=>rw[C.fz D u z]at p;cases p
 have v:EvW F H As F' (upd H' D (.lst ws)) X3 (D::Acc):=⟨f.fs,(f.grow sn).ks,f.nf,f.fa,fun a m=>by
  rcases Zt.mp m with z|z
  . subst z;exact f.old p
  . exact f.fA a z,Z1.mpr ⟨fun m=>(by
    obtain⟨⟨us,e⟩,_⟩:=t.dom D m;rw[p]at e;cases e),f.nd⟩,fun i a m z=>by
  rcases Zt.mp z with z|z
  . subst z;obtain⟨⟨us,e⟩,_⟩:=J.dom m;rw[p]at e;cases e
  . exact f.dj i a m z⟩
 exact⟨X3,v,J.grow sn,.lst aL L (t.frame (bi sn) fun a m=>by obtain⟨⟨us,e⟩,_⟩:=t.dom a m;rw[e];exact sn a _ e)⟩
def DE{pos}{t}{g}(hi:PIQ X tg iter src)(hg:∀C s₂ H₂ fp l,PG (aY X scope cl T N C s₂ H₂ fp l) tg t)(good:∀u,iB X.K (fun j=>j.drop T.length=u) t g)(hc:∀C s₂ H₂ fp l,si (aY X scope cl T N C s₂ H₂ fp l) X5 fc)(he:∀C s₂ H₂ fp l,PW (aY X scope cl T N C s₂ H₂ fp l) X7 felt)(O:CompG X scope cl T N js)(B:X.calm=true:=by rfl)
 (hs:FsX X iter:=by intro _;rfl):PW X (.ListComp X7 [⟨tg,iter,X5,0⟩] scope pos) (aA src T.length js g fc felt):=by
 intro Q0 s σ H Q I ⟨F,δ,As,d,δ',RA,q,k⟩;unfold aA at q;obtain⟨⟨ds,δ1⟩,U,q⟩:=Za.mp q;obtain⟨⟨cs,δc⟩,p,q⟩:=Za.mp q;obtain⟨⟨xs,ιe⟩,hm,q⟩:=Za.mp q;split at q
 . rename_i hz;cases q;rw [eval_ListComp];refine wpAny_comprehension_free rfl hs O.clos O.kind O.names ?_;refine wpAny_mono (hi Q0 s σ H (fun J H1=>∃ F1 Q4,EvW F H As F1 H1 Q4 []/\RepA X.K F1 H1 σ δ1 Q4/\ItG X.K J F1 ds) I ⟨F,δ,As,ds,δ1,RA,U,fun J F1 H1 Q4 S r f=>⟨F1,Q4,S,r,f⟩⟩) (fun v s1 h1=>wpAny_mono h1 (fun itv s2 h2=>?_) fun _ _ z=>z) fun _ _ z=>z
   obtain⟨it,fp,tn,J,H2,rfl,I2,TT,st,hf,F1,Q4,S,r,f⟩:=h2;obtain⟨vs,lk⟩:=mN r p;obtain⟨A,Asc,o,Rc,rs,_⟩:=jY r p lk;obtain⟨l1,l2,l3⟩:=qV lk;rw[l3]at rs;obtain⟨AA,V,sub⟩:=rs.toA r.fz o.nd;have Y:=V.padL T.length;rw[<- l1]at Y;refine pG I2 B O TT st hf f Y hg (good _) hc he hm hz ?_;intro D C s' H' ws j F' Q2 Z hC IX fD fD2 x R' rr L ⟨m,hn⟩ fC;refine⟨m,hn,fun h' y=>⟨.ref D,_,BK IX I2 hC fC y,rfl,?_⟩⟩
   obtain⟨X3,G,R4,r4⟩:=t6 S o Rc Y sub R' rr L x l1 l2 fD;exact k (.ref D) F' _ (D::Z) X3 G R4 r4
 . cases q
def zoC{σs}(h:i<n):ZO (fun f=>f.drop n=σs) i:=fun σ v z=>by show(List.set σ i (some v)).drop n=σs;rw[List.drop_set_of_lt h];exact z
def uR(i) (h:i<n) (σs):iB K (fun f=>f.drop n=σs) (tQ i) (gN i):=Ff i (zoC h)
def zO(is) (h:∀i∈is,i<n) (σs):iB K (fun f=>f.drop n=σs) (IV K is.length (oa is)) (fO is):=ng is fun i m=>zoC (h i m)
end
def n8(G:GQ)(g:FA):FM:=fun δ=>(g δ).bind fun ds=>(G (shs ds)).bind fun q=>if own q.1 then some (q.1,δ)else none
def mo{F}{G}{r}{Q}{E}(R:RepA K F H σ δ As)(q:Same H H1)(s:Reps K H1 vs ds)(y:vs.length=n)(B:G (shs ds)=some (r,fin))(x:own r=true)
 (k:∀v F' H' A Q2,EvW F H As F' H' Q2 A->RepA K F' H' σ δ Q2->RepO K F' H' v r A->Q v H'):ii K n G vs H1 Q E:=by
 obtain⟨AA,C,_⟩:=(RepOs.of_sh (Same.refl H1) s).toA (Same.refl H1) Zy;refine⟨y,H1,shs ds,AA,r,fin,C,B,fun v F' H' D A p j o=>?_⟩
 have f:=q.trans p.fs;have l:=f.trans j.fz;have t:∀a∈A,H a=none:=fun a m=>by
  cases z:H a with
  |none=>rfl
  |some u=>have:=(o.dom a m).2;rw[f a u z]at this;cases this
 exact k v F H' A As (Ev.fresh l t p.nd fun i a m=>(R.dom m).1).toW (R.grow l) (o.thaw (R.fz.trans f) x)
section
variable {o:Expr} {pos:Pos} {G:GQ}
def DH(F:yO X.prog X.w X.K X.mg X.base k x ps G)(v:Room j X.A)(I:PAD X (e::es) ga)(hk:k<=j:=by decide)(C:Gl X x:=by rfl)(z:(e::es).length=ps.length:=by kernel_rfl)(m:NbX x:=by kernel_rfl)
 (he:PlX X e es:=by rfl) (hpl:BkX X pos es:=by rfl):PW X (.Call (.Name x p) (e::es) [] pos) (n8 G ga):=by
 obtain⟨f,fd,F,B,u,D⟩:=F.ex;refine cH (mZ F (v.mono hk) C B u D .nil iU I m he hpl) fun{σ H Q L δ As d δ'} R q k=>?_
 unfold n8 at q;obtain⟨ds,o,q⟩:=Za.mp q;obtain⟨⟨r,fin⟩,J,q⟩:=Za.mp q;split at q
 . rename_i y;cases q;refine ⟨δ,ds,R.toS,o,fun vs H1 s t l=>?_⟩
   show ii X.K ps.length G (vs++[]) H1 Q E0;rw[Zj];exact mo R s t (l.trans z) J y k
 . cases q
def iQ(C:Addr)(m:Str)(G:GQ)(fo:FD)(ga:FA):FM:=fun δ=>(fo δ).bind fun d=>if isC C m d then(ga δ).bind fun ds=>(G (shs (d::ds))).bind fun q=>if own q.1 then some (q.1,δ)else none else none
def DB(z:PD X o fo)(F:xb X.prog X.w X.K X.mg X.base k C m ps G)(y:Room j X.A)(hk:k<=j:=by decide)(B:1=ps.length:=by kernel_rfl)
 (x:eval (.Call (.Attribute o m Q7) [] [] pos) X.env=(do
  let t <- eval o X.env
  standAt Q7.atName
  let (f,first) <- holding [t] (getMethod t m pl)
  callWith pos f first (backTo pos (starEach [] X.env)) (backToKw pos (keywordEach [] X.env))):=by rfl):PW X (.Call (.Attribute o m Q7) [] [] pos) (iQ C m G fo ag):=by
 obtain⟨f,fd,F,D,J,I⟩:=F.ex;refine cH (qH z I D F (y.mono hk) J .nil iU x) fun{σ H Q U δ As d δ'} R q k=>?_
 unfold iQ at q;obtain⟨S,O,q⟩:=Za.mp q;split at q
 . rename_i hi;obtain ⟨ds,p,q⟩:=Za.mp q;obtain ⟨⟨r,fin⟩,L,q⟩:=Za.mp q;split at q
   . rename_i l;cases q;cases p;refine ⟨δ,S,R.toS,O,fun v H1 u s=>?_⟩
     obtain⟨a,dx,fs,rfl,h1,h2⟩:=kX hi s;refine⟨a,dx,fs,rfl,h1,h2,?_⟩;exact(mo R u (.cons s .nil) B L l k:ii X.K ps.length G [.ref a] H1 Q E0)
   . cases q
 . cases q
end
noncomputable def Fl(a b:D):Option D:=match a,b with
 |.str i,.str j=>if i.length+j.length<=sizeLine then some (.str (i++j))else none
 |_,_=>none
noncomputable def x9(a b:D):Option D:=match a,b with
 |.str i,.str j=>some (.bl (!(Builtin.Str.occurrences j i 0 j.length 1).isEmpty))
 |_,_=>none
noncomputable def kc(a b:D):Option D:=match a,b with
 |.str z,.int i=>if z.length<=sizeLine then(L2.atI z.cps.toList i).map fun c=>D.str ⟨#[c]⟩else none
 |_,_=>none
noncomputable def Fk:List D->Option D
 |[.str z]=>if z.length<=sizeLine then some (.int z.length)else none
 |_=>none
noncomputable def lN:List D->Option D
 |[.int i]=>if i.natAbs.log2<1920 then some (.str (toString i))else none
 |_=>none
noncomputable def wC:List D->Option D
 |[.str x]=>if x.length<=640 then(PySem.intText? x).map D.int else none
 |_=>none
section
def zg:R2D K (fun x y H Q=>∃i j,x=.str i/\y=.str j/\i.length+j.length<=sizeLine/\Q (.str (i++j)) H) Fl:=by
 intro x y H Q a b d l f e k;unfold Fl at e;split at e
 . rename_i i j;split at e
   . rename_i m;cases e;cases l;cases f;exact⟨i,j,rfl,rfl,m,k _ H (Same.refl H) (.str _)⟩
   . cases e
 . cases e
def KI:R2D K (fun x y H Q=>∃i j,x=.str i/\y=.str j/\Q (.bl (!(Builtin.Str.occurrences j i 0 j.length 1).isEmpty)) H) x9:=by
 intro x y H Q a b d l f e k;unfold x9 at e;split at e
 . rename_i i j;cases e;cases l;cases f;exact⟨i,j,rfl,rfl,k _ H (Same.refl H) (.bl _)⟩
 . cases e
def Dq:R2D K NA kc:=by
 intro x y H Q a b d j f e k;unfold kc at e;split at e
 . rename_i z i;split at e
   . rename_i l;obtain⟨c,m,rfl⟩:=Zb.mp e;cases j;cases f;exact⟨z,i,c,rfl,rfl,l,m,k _ H (Same.refl H) (.str _)⟩
   . cases e
 . cases e
def Jo:CallD K (fun xs H Q=>∃z,xs=[.str z]/\z.length<=sizeLine/\Q (.int z.length) H) Fk:=by
 intro xs H Q ds d r e k;unfold Fk at e;split at e
 . rename_i z;split at e
   . rename_i j;cases e;obtain⟨v,rfl,f⟩:=dL r;cases f;exact⟨z,rfl,j,k _ H (Same.refl H) (.int _)⟩
   . cases e
 . cases e
def Jm:CallD K (fun xs H Q=>∃i,xs=[.int i]/\i.natAbs.log2<1920/\Q (.str (toString i)) H) lN:=by
 intro xs H Q ds d r e k;unfold lN at e;split at e
 . rename_i i;split at e
   . rename_i j;cases e;obtain⟨v,rfl,f⟩:=dL r;cases f;exact⟨i,rfl,j,k _ H (Same.refl H) (.str _)⟩
   . cases e
 . cases e
def ve:CallR X (.type "int") (fun xs H Q=>∃x n,xs=[.str x]/\x.length<=640/\PySem.intText? x=some n/\Q (.int n) H):=by intro Q0 s σ H xs us Q I r h;obtain⟨x,n,rfl,l,j,q⟩:=h;obtain⟨u,rfl,f⟩:=r.one;obtain⟨t,rfl⟩:=f;exact W.KIN.call_text j l ⟨.int n,H,I.tok _,⟨_,rfl⟩,q⟩
def Jq:CallD K (fun xs H Q=>∃x n,xs=[.str x]/\x.length<=640/\PySem.intText? x=some n/\Q (.int n) H) wC:=by
 intro xs H Q ds d r e k;unfold wC at e;split at e
 . rename_i x;split at e
   . rename_i l;obtain⟨n,j,rfl⟩:=Zb.mp e;obtain⟨v,rfl,f⟩:=dL r;cases f;exact⟨x,n,rfl,l,j,k _ H (Same.refl H) (.int _)⟩
   . cases e
 . cases e
end
def za:V->List V->Hp->VK->Prop:=fun x xs H Q=>∃i j,x=.str i/\xs=[.str j]/\Q (.bl (Txt.startswith i j)) H
def JV:V->List V->Hp->VK->Prop:=fun x xs H Q=>∃i j,x=.str i/\xs=[.str j]/\Q (.bl (Txt.endswith i j)) H
def KF:V->List V->Hp->VK->Prop:=fun x xs H Q=>∃i j,x=.str i/\xs=[.str j]/\(j.length==0)=false/\i.length<=sizeLine/\(Txt.split i j).length<=sizeLine/\∀p,H p=none->Q (.ref p) (upd H p (.lst ((Txt.split i j).map V.str)))
def JT(K:ZA):V->List V->Hp->VK->Prop:=fun x xs H Q=>∃i p ys,x=.str i/\xs=[.ref p]/\SqL K H p (ys.map V.str)/\JoinOk i ys=true/\Q (.str (Txt.join i ys)) H
theorem vJ:∀ys n,Vals (ys.map V.str) (PySem.strsFrom n ys)
 |[],_=>.nil
 |y::ys,n=>.cons ⟨_,rfl⟩ (vJ ys (n+1))
theorem sR:∀{ys}{Q1},Vals (ys.map V.str) Q1->∃l:Yg (Str×Tok),Q1=PySem.strValues l/\l.map (fun x=>x.1)=ys
 |[],_,.nil=>⟨[],rfl,rfl⟩
 |y::ys,_,.cons r t=>by obtain⟨l,rfl,h⟩:=sR t;obtain⟨tk,rfl⟩:=r;exact⟨(y,tk)::l,rfl,by simp[h]⟩
section
def Bv:MtR X "str.startswith" za:=by intro Q0 s σ H x xs v us Q I f l h;obtain⟨i,j,rfl,rfl,q⟩:=h;obtain⟨t,rfl⟩:=f;obtain⟨u,rfl,m⟩:=l.one;obtain⟨t',rfl⟩:=m;exact SC.startswith ⟨.bl _,H,I,rfl,q⟩
def IF:MtR X "str.endswith" JV:=by intro Q0 s σ H x xs v us Q I f l h;obtain⟨i,j,rfl,rfl,q⟩:=h;obtain⟨t,rfl⟩:=f;obtain⟨u,rfl,m⟩:=l.one;obtain⟨t',rfl⟩:=m;exact SC.endswith ⟨.bl _,H,I,rfl,q⟩
def EN:MtR X "str.split" KF:=by
 intro Q0 s σ H x xs v us Q I o p h;obtain⟨i,j,rfl,rfl,m,y,f,q⟩:=h;obtain⟨t,rfl⟩:=o;obtain⟨u,rfl,r⟩:=p.one;obtain⟨t',rfl⟩:=r;have l:=q s.heap.objs.size I.fresh;unfold Txt.split at f l
 by_cases h1:(decide (i.length<j.length)||decide (Builtin.Str.strKind i<Builtin.Str.strKind j))=true
 . rw[if_pos h1]at f l;exact call_meets F.slot_str_split rfl F.entry_str_split (F.args_str_split_2 _ _) (meets_str_split_cannot_occur i j t t' h1) ⟨.ref s.heap.objs.size,_,I.lnew (ys:=[.str i]) (.cons ⟨t,rfl⟩ .nil) f,rfl,l⟩
 . rw [if_neg h1] at f l
   by_cases h2:(Builtin.Str.occurrences i j 0 i.length (i.length+1)).isEmpty=true
   . rw[if_pos h2]at f l;exact call_meets F.slot_str_split rfl F.entry_str_split (F.args_str_split_2 _ _) (meets_str_split_not_found i j t t' (Bool.eq_false_iff.mpr h1) m h2) ⟨.ref s.heap.objs.size,_,I.lnew (ys:=[.str i]) (.cons ⟨t,rfl⟩ .nil) f,rfl,l⟩
   . rw[if_neg h2]at f l;exact call_meets F.slot_str_split rfl F.entry_str_split (F.args_str_split_2 _ _) (meets_str_split_sep i j t t' (Bool.eq_false_iff.mpr h1) m (Bool.eq_false_iff.mpr h2) y f) ⟨.ref s.heap.objs.size,_,I.lnew (vJ _ _) (by rw[Zl];exact f),rfl,l⟩
def IE:MtR X "str.join" (JT X.K):=by intro Q0 s σ H x xs v us Q I f j h;obtain⟨i,p,ys,rfl,rfl,y,B,q⟩:=h;obtain⟨t,rfl⟩:=f;obtain⟨u,rfl,m⟩:=j.one;cases m;obtain⟨Q1,r,⟨o,n,h1,h2,_,C⟩,_⟩:=I.list y;obtain⟨l,rfl,z⟩:=sR r;exact SC.join ⟨o,h1,h2,n,C⟩ z B fun t' k=>⟨.str _,H,I.tok _,⟨_,rfl⟩,q⟩
end
noncomputable def dX(x:Str):List D:=x.cps.toList.map fun c=>D.str ⟨#[c]⟩
noncomputable def Its(x:Str):It where
 go:=fun i _=>i<x.cps.size
 stop:=fun i _=>x.cps.size<=i
 yld:=fun i H v H'=>H'=H/\∃c,x.cps[i]?=some c/\v=.str ⟨#[c]⟩
def AH {ty} (f:ty = "str_ascii_iterator" \/ ty = "str_iterator") (it) (x) (t):w9 P w K tg (Its x) [it] it (fun i h=>i<=x.cps.size/\h.IsStrIter it ty x t i):=by
 have W:∀A,A.handled=none->Walks P w A it [it] [it] x.cps.size (SignAt x) fun i h=>h.IsStrIter it ty x t i:=fun A V=>by
  rcases f with rfl|rfl
  . exact Walks.strAscii V it x t
  . exact Walks.strWide V it x t
 refine⟨Zq.mpr rfl,fun i h st b j=>?_,fun i h h' st k=>⟨st.1,?_⟩,?_,?_,fun A i s Q E st q=>?_⟩
 . obtain⟨o,e,_,d⟩:=st.2;rw[Zq.mp j];exact⟨o,e,fun v z=>by rw[d]at z;cases z⟩
 . obtain⟨o,e,c,d⟩:=st.2;exact⟨o,k it (Zq.mpr rfl) o e,c,d⟩
 . intro X G B J D i Q0 s σ H E I m st l;subst G B J;obtain ⟨U,f1,f2,S,O,L⟩:=m it (Zq.mpr rfl);refine (W X.A (I.ok.hd D)).item i s _ _ l st.2 fun v h' tk Y r y=>?_
   obtain⟨c,u,C,rfl⟩:=Y;have Z:L2.Inv X Q0 σ H { s with heap:=h',toks:=tk }:=I.turned (fun b o j e=>y b o (fun z=>j (Zq.mp z)) e) U f1 S O L
   obtain⟨o,e,oc,od⟩:=r;have p:h'.IsStrIter it ty x t (i+1):=⟨o,e,oc,od⟩;refine⟨_,rfl,zP e oc od (by rcases f with rfl|rfl<;>decide) ⟨.str ⟨#[c]⟩,H,Z,⟨u,rfl⟩,⟨rfl,c,C,rfl⟩,⟨l,p⟩,fun b j=>(m b j).1⟩⟩
 . intro X G B J D i Q0 s σ H E I m st l;subst G B J;obtain⟨U,f1,f2,S,O,L⟩:=m it (Zq.mpr rfl);have hi:=Nat.le_antisymm st.1 l;subst hi;exact(W X.A (I.ok.hd D)).done s _ _ st.2 fun h' tk y=>⟨rfl,I.turned (fun b o j e=>y b o (fun z=>j (Zq.mp z)) e) U f1 S O L⟩
 . rcases f with rfl | rfl
   . exact wpAny_pyIter_striter_ascii st.2 q
   . exact wpAny_pyIter_striter_wide st.2 q
def EZ{F}(x):ItF K (Its x) F (dX x):=by
 intro i H2 s;unfold dX;refine⟨fun hi=>?_,fun hi=>(show x.cps.size<=i by simpa using hi)⟩
 have f:i<x.cps.size:=by simpa using hi
 refine⟨f,fun v H' y=>?_⟩
 obtain⟨e,c,j,rfl⟩:=y;refine⟨e,.str ⟨#[c]⟩,?_,.str _⟩;rw[ZK];have:x.cps.toList[i]?=some c:=by simpa using j
 rw[this];rfl
def je(f:FD):FMA:=fun δ=>(f δ).bind fun d=>match d with
 |.str x=>some (dX x,δ)
 |_=>none
section
def Ed (z:PD X l f):PIQ X tg l (je f):=by
 intro Q0 s σ H R I ⟨F,δ,As,ds,δ',RA,e,k⟩;unfold je at e;obtain⟨d,G,e⟩:=Za.mp e;split at e
 . rename_i x;cases e;refine thn (z Q0 s σ H (fun v H1=>v=.str x/\Same H H1) I ⟨δ,.str x,RA.toS,G,fun v H1 j y=>by cases y;exact ⟨rfl,j⟩⟩) fun u j C=>?_
   obtain⟨v,H1,m,r,D,p⟩:=C;subst D;obtain⟨t,rfl⟩:=r;refine wpAny_pyIter_strU ?_;have q:PySem.strIterType x = "str_ascii_iterator" \/ PySem.strIterType x = "str_iterator":=by
    unfold PySem.strIterType;split
    . exact .inl rfl
    . exact .inr rfl
   refine⟨j.heap.objs.size,[j.heap.objs.size],_,_,H1,rfl,m.kept fun b o e=>ZS _ e,AH q _ x t,⟨Nat.zero_le _,_,ZW _ rfl,rfl,rfl⟩,fun b B=>?_,k _ F H1 As (EvW.grew p) (RA.grow p) (EZ x).g⟩
   rw[Zq.mp B];exact m.fpOk (ZM _) m.fresh
 . cases e
end
def aQ:D->D->Option D:=fun a b=>(Pt a b).or (Fl a b)
section
variable {o:Expr} {pos X0:Pos}
def Iq(j:PD X a fa)(f:PD X b fb):PD X (.BinOp a .Add b pos) (f2 aQ fa fb):=qK ((op_add.or EB).or qP) (((mW fun _ _ _=>.int _).or Dt).or zg) j f
def Hs(j:PW X a wa)(f:PW X b wb):PW X (.BinOp a .Add b pos) (bX aQ wa wb):=Dz ((op_add.or EB).or qP) (((mW fun _ _ _=>.int _).or Dt).or zg) j f
def LR(l:PD X a fa)(j:PD X b fb)(f:behindInMarks .In b=false:=by with_unfolding_all rfl):PD X (.Compare a [.In] [b] pos) (f2 x9 fa fb):=jq Bk KI l j f
def DD(l:PW X a wa)(j:PW X b wb)(f:iA b:=by intro _ _;rfl):PW X (.Subscript a b pos) (bX kc wa wb):=imp (tt Ml l j f) fun _ _ _=>wx Dq
structure MtD(K:ZA)(T:String)(r:V->List V->Hp->VK->Prop)(G:D->List D->Option D):Prop where
 ty:∀(x:V)(H:Hp)(d:D)(ds:List D)(z:D),Rep K H x d->G d ds=some z->tyV K T x H
 go:∀(x:V)(xs:List V)(H1 H2:Hp)(Q:VK)(d:D)(ds:List D)(z:D),Rep K H1 x d->Same H1 H2->Reps K H2 xs ds->G d ds=some z->(∀w H',Same H2 H'->Rep K H' w z->Q w H')->r x xs H2 Q
def fMt(G:D->List D->Option D)(fo:FD)(ga:FA):FD:=fun δ=>(fo δ).bind fun d=>(ga δ).bind fun ds=>G d ds
noncomputable def ir(d:D)(ds:List D):Option D:=match d,ds with
 |.str i,[.str j]=>some (.bl (Txt.startswith i j))
 |_,_=>none
noncomputable def wD(d:D)(ds:List D):Option D:=match d,ds with
 |.str i,[.str j]=>some (.bl (Txt.endswith i j))
 |_,_=>none
def oe:List D->Option (List Str)
 |[]=>some []
 |d::ds=>(oS d).bind fun x=>(oe ds).map (x::·)
def lO(d:D)(ds:List D):Option D:=match d with
 |.str i=>(pR ds).bind fun xs=>(oe xs).bind fun ys=>if JoinOk i ys=true then some (.str (Txt.join i ys))else none
 |_=>none
def oi{vs}{ds}{ys}(r:Reps K H vs ds):oe ds=some ys->vs=ys.map V.str:=by
 induction r using Reps.ind generalizing ys with
 |nil=>intro e;cases e;rfl
 |cons r _ f =>intro e;obtain⟨x,ex,e⟩:=Za.mp e;obtain⟨zs,j,rfl⟩:=Zb.mp e;rw[(r.oS ex).1,f j];rfl
def Bz:MtD K "str" za ir:=by
 refine⟨fun x H d ds z f e=>?_,fun x xs H1 H2 Q d ds z f s m e k=>?_⟩
 . unfold ir at e;split at e
   . cases f;rfl
   . cases e
 unfold ir at e;split at e
 . rename_i i j;cases e;cases f;obtain⟨v,rfl,l⟩:=dL m;cases l;exact⟨i,j,rfl,rfl,k _ H2 (Same.refl _) (.bl _)⟩
 . cases e
def IH:MtD K "str" JV wD:=by
 refine⟨fun x H d ds z f e=>?_,fun x xs H1 H2 Q d ds z f s m e k=>?_⟩
 . unfold wD at e;split at e
   . cases f;rfl
   . cases e
 unfold wD at e;split at e
 . rename_i i j;cases e;cases f;obtain⟨v,rfl,l⟩:=dL m;cases l;exact⟨i,j,rfl,rfl,k _ H2 (Same.refl _) (.bl _)⟩
 . cases e
def IG:MtD K "str" (JT K) lO:=by
 refine⟨fun x H d ds z j e=>?_,fun x xs H1 H2 Q d ds z j s q e k=>?_⟩
 . unfold lO at e;split at e
   . cases j;rfl
   . cases e
 unfold lO at e;split at e
 . rename_i i;obtain ⟨ws,f,e⟩:=Za.mp e;obtain ⟨ys,t,e⟩:=Za.mp e;split at e
   . rename_i r;cases e;cases j;unfold pR at f;split at f
     . cases f;obtain ⟨v,rfl,l⟩:=dL q;cases l with
       |@lst p vs _ o m=>exact⟨i,p,ys,rfl,rfl,by rw[<- oi m t];exact SqL.of o,r,k _ H2 (Same.refl _) (.str _)⟩
     . cases f;obtain ⟨v,rfl,l⟩:=dL q;cases l with
       |@seq p vs _ o m=>exact⟨i,p,ys,rfl,rfl,by rw[<- oi m t];exact o,r,k _ H2 (Same.refl _) (.str _)⟩
     . cases f
   . cases e
 . cases e
def zp {T id} {name} {r:V->Yg V->Hp->VK->Prop} {G} (O:PlainAttrs T) (p:Slot T name id) (u:typeOf (.builtin id)=pure (.type "method_descriptor")) (Y:MtR X id r) (I:MtD X.K T r G) (U:PD X o fo) (Z:PAD X (e::es) ga)
 (m:attributeBase o name X.env (eval o X.env)=eval o X.env:=by rfl)
 (s:((backTo X0 (starEach (e :: es) X.env)).all (fun x=>!x.1) && (backToKw X0 (keywordEach [] X.env)).all (fun x=>x.1.isSome)
  && decide ((e::es).length+([]:Yg Keyword).length+(if([]:Yg Keyword).isEmpty then 0 else 1)<30))=true:=by rfl)
 (j:(Q7.endLine==X0.line)=true:=by rfl) (S:PlX X e es:=by rfl) (f:(backTo X0 (starEach es X.env)).any (·.1)=false:=by rfl):PD X (.Call (.Attribute o name Q7) (e::es) [] X0) (fMt G fo ga) :=
 gp (zo O p u Y U Z m s j S f) fun{σ H Q δ d} R q k=>by unfold fMt at q;obtain⟨z,e0,q⟩:=Za.mp q;obtain⟨ds,y,q⟩:=Za.mp q;exact⟨δ,z,R,e0,fun v H1 C D=>⟨I.ty v H1 z ds d D q,δ,ds,R.mono C,y,fun vs H2 B L l=>I.go v vs H1 H2 Q z ds d D B L q fun w H' J t=>k w H' ((C.trans B).trans J) t⟩⟩
noncomputable def lT(fo:FD)(ga:FA):FM:=fun δ=>(fo δ).bind fun d=>(ga δ).bind fun ds=>match d,ds with
 |.str i,[.str j]=>if(j.length==0)=false/\i.length<=sizeLine/\(Txt.split i j).length<=sizeLine then some (.lst ((Txt.split i j).map D.str),δ)else none
 |_,_=>none
theorem qB:∀(ys:Yg Str),Reps K H (ys.map V.str) (ys.map D.str)
 |[]=>.nil
 |y::ys=>.cons (.str y) (qB ys)
theorem rg:∀(ys:Yg Str),iK (ys.map D.str)=true
 |[]=>rfl
 |y::ys=>by show(imm (.str y)&&iK (ys.map D.str))=true;rw[rg ys];rfl
def Dx (ho:PD X o fo) (ha:PAD X (e :: es) ga)
 (s:attributeBase o "split" X.env (eval o X.env)=eval o X.env:=by rfl)
 (y:((backTo X0 (starEach (e :: es) X.env)).all (fun x=>!x.1) && (backToKw X0 (keywordEach [] X.env)).all (fun x=>x.1.isSome)
  && decide ((e::es).length+([]:Yg Keyword).length+(if([]:Yg Keyword).isEmpty then 0 else 1)<30))=true:=by rfl)
 (r:(Q7.endLine==X0.line)=true:=by rfl) (Z:PlX X e es:=by rfl) (f:(backTo X0 (starEach es X.env)).any (·.1)=false:=by rfl):PW X (.Call (.Attribute o "split" Q7) (e::es) [] X0) (lT fo ga) :=
 cH (zo F.plainAttrs_str F.slot_str_split F.type_str_split EN ho ha s y r Z f) fun {σ H Q L δ As d δ'} R q k=>by
  unfold lT at q;obtain⟨d0,e0,q⟩:=Za.mp q;obtain⟨ds,G,q⟩:=Za.mp q;split at q
  . rename_i i j _;split at q
    . rename_i D;cases q;refine ⟨δ,.str i,R.toS,e0,fun v H1 J Y=>?_⟩
      cases Y;refine⟨rfl,δ,[.str j],R.toS.mono J,G,fun vs H2 O U l=>?_⟩
      obtain⟨u,rfl,S⟩:=dL U;cases S;refine⟨i,j,rfl,rfl,D.1,D.2.1,D.2.2,fun p B=>?_⟩
      have t:=J.trans O;have sn:=a8 B (.lst ((Txt.split i j).map V.str));have C:H p=none:=by
       cases z:H p with
       |none=>rfl
       |some u=>rw[t p u z]at B;cases B
      have I:=t.trans sn;refine k _ L _ [p] As (Ev.fresh I (fun a m=>by rw[Zq.mp m];exact C) (by simp) fun i a m=>(R.dom m).1).toW (R.grow I) (.lst aL ?_ (vR (qB _) (rg _)))
      cases z:L p with
      |none=>rfl
      |some u=>rw[R.fz p u z]at C;cases C
    . cases q
  . cases q
end
def EvW.freezes{F}(e:EvW F H As F1 H1 Q4 A)(R:RepA K F1 H1 σ δ Q4)(r:RepOs K F1 H1 vs ds A) :
 ∃F2,EvW F H As F2 H1 Q4 []/\RepA K F2 H1 σ δ Q4/\Reps K F2 vs (shs ds):=by
 have f:=nr (A:=A) R.fz;have l:Same (frz F1 H1 A) H1:=uU;have z:=r.freeze f nu fun a vs m e=>qb e m
 refine⟨frz F1 H1 A,⟨e.fs.trans f,e.ks,fun a u h n m=>?_,e.fa,fun _ m=>(nomatch m),Zy,fun _ _ _ z=>(nomatch z)⟩,R.froz f l fun j a m=>?_,z⟩
 . refine gE (e.ks a _ h m) (e.nf a u h n m) fun z=>?_
   rcases e.fA a z with⟨j,y⟩|y
   . exact m j y
   . rw[h]at y;cases y
 . obtain⟨⟨vs,q⟩,n⟩:=R.dom m;exact gE q n (e.dj j a m)
theorem EY(c:Nat){F}{a}(o:SqL K F a vs)(r:Reps K F vs ds):ItG K (JF c fun H xs=>SqL K H a xs) F (enF c ds):=by
 intro i H2 s;have h1:=s.seq o;have v:=r.length;rw[Ac];refine⟨fun hi=>⟨⟨vs,vs[i]'(by lia),h1,by simp[show i<vs.length by lia]⟩,fun x H' y=>?_⟩,fun hi=>⟨vs,h1,by lia⟩⟩
 obtain⟨p,u,rfl,q,rfl,f⟩:=y;obtain⟨d,t,m⟩:=r.getV (f vs h1);refine⟨a8 q _,.tup [.int ((i+c:Nat):Int),d],?_,fun F' l j=>?_⟩
 . rw[Ad,t,Nat.add_comm c i];rfl
 . rw[sh,shs,shs,shs];exact .tup (SqT.of aL) (.cons (.imm rfl (.int _)) (.cons (RepO.of_sh j (m.mono l)) .nil rfl) rfl)
theorem IN{F}{a b}{ws}{es}(t:SqL K F a vs)(r:Reps K F vs ds)(f:SqL K F b ws)(r':Reps K F ws es):ItG K (Itz K a b) F (List.zipWith (fun d e=>D.tup [d,e]) ds es):=by
 intro i H2 s;have h1:=s.seq t;have h2:=s.seq f;have G:=r.length;have C:=r'.length;rw[List.length_zipWith];refine⟨fun hi=>⟨⟨vs,ws,vs[i]'(by lia),ws[i]'(by lia),h1,h2,by simp[show i<vs.length by lia],by simp[show i<ws.length by lia]⟩,fun x H' y=>?_⟩,fun hi=>⟨vs,ws,h1,h2,by lia⟩⟩
 obtain⟨p,u,v,rfl,z,rfl,o,m⟩:=y;obtain⟨d,B,q⟩:=r.getV (o vs h1);obtain⟨e,he,re⟩:=r'.getV (m ws h2);refine⟨a8 z _,.tup [d,e],by rw[List.getElem?_zipWith,B,he],fun F' l j=>?_⟩
 rw[sh,shs,shs,shs];exact .tup (SqT.of aL) (.cons (RepO.of_sh j (q.mono l)) (.cons (RepO.of_sh j (re.mono l)) .nil rfl) rfl)
def sN(f:FM):FMA:=fun δ=>(f δ).bind fun p=>match sh p.1 with
 |.seq ds=>some (enF 0 ds,p.2)
 |_=>none
noncomputable def uk(fa fb:FM):FMA:=fun δ=>(fa δ).bind fun p=>(fb p.2).bind fun q=>match sh p.1,sh q.1 with
 |.seq ds,.seq es=>some (List.zipWith (fun d e=>D.tup [d,e]) ds es,q.2)
 |_,_=>none
section
variable {fa fb:FM} {pt pos:Pos}
def Ln (r:Gl X "enumerate") (q:X.mg "enumerate" = none) (s:PW X a fa) (f:starEach [a] X.env=(false,eval a X.env)::starEach [] X.env:=by rfl) (hpl:(backTo pos (starEach [] X.env)).any (·.1)=false:=by rfl) :
 PIQ X (.Tuple es kt pt) (.Call (.Name "enumerate" p) [a] [] pos) (sN fa):=tN (NR r q (bZ s gl f) f hpl) fun {σ H R F δ As ds δ'} y e k=>by
 unfold sN at e;obtain⟨⟨d,δ1⟩,u,e⟩:=Za.mp e;split at e
 . rename_i es f;cases e;refine ⟨F,δ,As,d,_,y,u,fun v F1 H1 A Q4 t x o=>?_⟩
   obtain⟨F2,j,R2,_,z⟩:=t.freeze x o;rw[f]at z;cases z with
   |@seq p vs _ l m=>exact⟨p,rfl,⟨vs,R2.fz.seq l⟩,k _ F2 H1 Q4 j R2 (EY 0 l m)⟩
 . cases e
def HW (I:Gl X "zip") (G:X.mg "zip" = none) (L:PW X a fa) (J:PW X b fb) (r:starEach [a,b] X.env=[(false,eval a X.env),(false,eval b X.env)]:=by rfl) (f:starEach [b] X.env=[(false,eval b X.env)]:=by rfl) :
 PIQ X (.Tuple es kt pt) (.Call (.Name "zip" p) [a,b] [] pos) (uk fa fb):=tN (Eg I G (mX L (mX J uC (by unfold PlX;rw[f];rfl)) (by unfold PlX;rw[r,f])) r f) fun {σ H R F δ As ds δ'} U e k=>by
 unfold uk at e;obtain⟨⟨d,δ1⟩,Q,e⟩:=Za.mp e;obtain⟨⟨d',u⟩,m,e⟩:=Za.mp e;dsimp only at m e;split at e
 . rename_i us ws h1 h2;cases e;refine ⟨F,δ,As,[d,d'],δ',U,?_,fun vs F1 H1 A Q4 O S x l=>?_⟩
   . unfold ae ak;rw[Q];show((Option.bind _ _).bind _)=_;rw[m];rfl
   obtain⟨F2,q,R2,z⟩:=O.freezes S x;rw[shs,shs,shs,h1,h2]at z;cases z with
   | cons C t =>
    cases t with
    | cons B t =>
     cases t;cases C with
     |@seq p vs _ s y =>
      cases B with
      |@seq D v _ j o=>exact⟨p,D,rfl,⟨_,R2.fz.seq s⟩,⟨_,R2.fz.seq j⟩,k _ F2 H1 Q4 q R2 (IN s y j o)⟩
 . cases e
end
noncomputable def gr(z:Str)(lo hi:Option Int):Str:=if((Builtin.Str.strSliceIndices lo hi 1 z.length).length==z.length)=true then z else⟨((Builtin.Str.strSliceIndices lo hi 1 z.length).filterMap fun i=>z.cps[i]?).toArray⟩
def Pf:V->Option Int->Option Int->Hp->VK->Prop:=fun x lo hi H Q=>∃z,x=.str z/\(gr z lo hi).length<=sizeLine/\Q (.str (gr z lo hi)) H
section
variable {o:Expr} {fe:FD} {pos X0:Pos}
def Kv:SlR X Pf:=by
 intro Q0 s σ H x v vl vu lo hi y Q I m o pl pu h;obtain⟨z,rfl,f,q⟩:=h;obtain⟨t,rfl⟩:=m;refine⟨"str",_,PyProof.Rows.slot_str_getitem.lookup,rfl,?_⟩;obtain⟨l,r,rfl⟩:∃l:Ye (Int×Tok),vl=PySem.partValue l/\lo=l.map (fun x=>x.1):=by
  cases pl with
  |int i t=>exact⟨some (i,t),rfl,rfl⟩
  |none=>exact⟨none,rfl,rfl⟩
 obtain⟨u,p,rfl⟩:∃l:Ye (Int×Tok),vu=PySem.partValue l/\hi=l.map (fun x=>x.1):=by
  cases pu with
  |int i t=>exact⟨some (i,t),rfl,rfl⟩
  |none=>exact⟨none,rfl,rfl⟩
 subst r p;refine wpAny_getItem_str_slice (st:=none) o rfl ?_;unfold PySem.sliceMade;unfold gr at q f;show(if(true&&(Builtin.Str.strSliceIndices (l.map (fun x=>x.1)) (u.map (fun x=>x.1)) 1 z.length).length==z.length)=true then Made.val (Value.str z t)else Made.str ⟨_⟩).post _ s
 rw[Bool.true_and];split
 . rename_i j;rw[if_pos j]at q;exact⟨.str z,H,I,⟨t,rfl⟩,q⟩
 . rename_i j;rw[if_neg j]at q f;exact⟨f,.str _,H,I.tok _,⟨_,rfl⟩,q⟩
def uV(f:FD)(fl fh:FO):FD:=fun δ=>(f δ).bind fun d=>(fl δ).bind fun l=>(fh δ).bind fun h=>match d with
 |.str z=>if(gr z l h).length<=sizeLine then some (.str (gr z l h))else none
 |_=>none
def Bf(he:PD X e f)(t:POD X lo fl)(s:POD X hi fh):PD X (.Subscript e (.Slice lo hi none p2) pos) (uV f fl fh):=gp (mY Kv he t s) fun{σ H Q δ d} R q k=>by
 unfold uV at q;obtain⟨C,y,q⟩:=Za.mp q;obtain⟨l,u,q⟩:=Za.mp q;obtain⟨h,x,q⟩:=Za.mp q;split at q
 . rename_i z _ _;split at q
   rotate_left
   . cases q
   rename_i r;cases q;refine⟨δ,.str z,R,y,fun v H1 j p=>⟨δ,l,R.mono j,u,fun H2 m=>⟨δ,h,R.mono (j.trans m),x,fun B o=>?_⟩⟩⟩
   cases p;exact⟨z,rfl,r,k _ B ((j.trans m).trans o) (.str _)⟩
 . cases q
end
noncomputable def isS(k:Str):Value->Bool
 |.str a _=>a==k
 |_=>false
def zc(K:ZA):V->List V->Hp->VK->Prop:=fun x xs H Q=>∃(l:Addr)(ns:List Str)(k:Str)(j:Nat),x=.ref l/\xs=[.str k]/\SqL K H l (ns.map V.str)/\(ns.findIdx? fun i=>i==k)=some j/\Q (.int (j:Int)) H
theorem Bw:MtR X "list.index" (zc X.K):=by
 intro Q0 s σ H x vs v us Q I S U h;obtain⟨l,z,k,j,rfl,rfl,hq,hj,q⟩:=h;cases S;obtain⟨u,rfl,Y⟩:=U.one;obtain⟨t,rfl⟩:=Y;obtain⟨Q1,r,p,hz⟩:=I.list hq;obtain⟨⟨c,dd,dt,O⟩,L,hc,n,hd⟩:=p.isList;cases hc;cases hd;have len:Q1.length=z.length:=by rw[<- r.length,Zl]
 obtain⟨jl,jk,Z⟩:=List.findIdx?_eq_some_iff_getElem.mp hj;have f:∀m(B:m<Q1.toArray.size),∃t,Q1.toArray[m]=.str (z[m]'(by rw[ZF]at B;lia)) t:=fun m B=>by
  have G:m<Q1.length:=by simpa using B
  obtain⟨u,J,t,rfl⟩:=r.get (show(z.map V.str)[m]?=some (V.str (z[m]'(by lia))) by rw[ZK,Zx (by lia)];rfl)
  rw[Zx G]at J;exact⟨t,by simpa using J⟩
 have C:j<Q1.toArray.size:=by rw[ZF];lia
 refine call_meets F.slot_list_index ⟨_,L,rfl⟩ F.entry_list_index (F.args_list_index_2 _ _) (PySem.SeqAt.list_indexAt l Q1.toArray n dd O (.str k t) (isS k) j C ?_ ?_ ?_) ⟨L,fun y m=>?_,?_⟩
 . have:Q1.length<=2 ^ 24:=by have:(z.map V.str).length<=2 ^ 24:=hz;rw [Zl] at this;lia
   lia
 . obtain⟨t',e⟩:=f j C;rw[e];exact jk
 . intro m B D;obtain⟨t',e⟩:=f m B;rw[e];have:=Z m D;simpa[isS]using this
 . obtain⟨i,hi,e⟩:=Array.getElem_of_mem m;obtain⟨t',e'⟩:=f i hi;rw[<- e,e'];exact PySem.SeqAt.EqAt.str_str _ _ _ _
 . exact⟨.int (j:Int),H,I.kept fun b o e=>e,⟨_,rfl⟩,q⟩
def bL(d:D)(ds:List D):Option D:=match ds with
 |[.str k]=>(asL d).bind fun xs=>(oe xs).bind fun ys=>(ys.findIdx? fun i=>i==k).map fun(j:Nat)=>D.int (j:Int)
 |_=>none
def BA:MtD K "list" (zc K) bL:=by
 refine⟨fun x H d ds z f e=>?_,fun x xs H1 H2 Q d ds z f s q e k=>?_⟩
 . unfold bL at e;split at e
   . obtain⟨ws,m,e⟩:=Za.mp e;obtain⟨p,vs,rfl,l,_⟩:=vw f m;exact .inl ⟨rfl,vs,l⟩
   . cases e
 . unfold bL at e;split at e
   . rename_i t;obtain⟨ws,m,e⟩:=Za.mp e;obtain⟨ys,y,e⟩:=Za.mp e;obtain⟨j,u,rfl⟩:=Zb.mp e;obtain⟨p,vs,rfl,l,r⟩:=vw f m;obtain⟨v,rfl,o⟩:=dL q;cases o;exact⟨p,ys,t,j,rfl,rfl,by rw[<- oi r y];exact s.seq l,u,k _ H2 (Same.refl _) (.int _)⟩
   . cases e
structure ClsI(K:ZA)(C:Addr):Prop where
 cl:Cls K C
 ha:W.findIn K (.ref C) "__class__" = some (some (.builtin "object.__class__"))
 hn:W.specialIn K (.builtin "object.__class__") "__get__" = some (some (.builtin "getset_descriptor.__get__"))
 ht:W.takesIn K (.builtin "object.__class__")=some true
 hm:W.mroIn K C (.type "object")=some true
noncomputable def jR(tb:List (Addr×Addr×Bool)):List D->Option D
 |[d,.cls C']=>(j5 d).bind fun o=>((tb.find? fun r=>decide (r.1=o.1)&&decide (r.2.1=C')).map fun r=>D.bl r.2.2)
 |_=>none
def JU(K:ZA):List V->Hp->VK->Prop:=fun xs H Q=>∃a C dx fs C' b,xs=[.ref a,.ref C']/\H a=some (.ins C dx fs)/\ClsI K C/\W.kitOne K (.ref C) (.ref C')=some b/\Q (.bl b) H
def Cd:CallR X (.builtin "isinstance") (JU X.K):=by intro Q0 s σ H xs us Q I r h;obtain⟨a,C,dx,fs,p,b,rfl,m,f,e,q⟩:=h;obtain⟨u,o,rfl,l,j⟩:=vE r;cases(j);exact BI I l (.ins m f.cl f.ha f.hn f.ht f.hm) e fun tk=>⟨.bl b,H,I.tok _,rfl,q⟩
def Jp {tb} (s:∀ r∈tb,ClsI K r.1/\W.kitOne K (.ref r.1) (.ref r.2.1)=some r.2.2):CallD K (JU K) (jR tb):=by
 intro xs H Q ds d r e k;unfold jR at e;split at e
 . rename_i B y;obtain ⟨⟨C,z,fd⟩,x,e⟩:=Za.mp e;obtain ⟨j,f,rfl⟩:=Zb.mp e;have m:=List.find?_some f;have u:=List.mem_of_find?_eq_some f;rw [ZN] at m;have h1:=Z7 m.1;have h2:=Z7 m.2;obtain ⟨o,l⟩:=s j u;rw [h1] at o l;rw [h2] at l;cases r with
   |cons q t =>
    cases t with
    |cons p t =>cases t;cases p;obtain⟨a,dx,vs,rfl,v,_,_⟩:=q.objD x;exact⟨a,C,dx,_,y,j.2.2,rfl,v,o,l,k _ H (Same.refl H) (.bl _)⟩
 . cases e
end Dl
namespace So
open PySem PyProof.Rows
variable {M:Model} {A:Around} {s:Yc} {S:Keyed->Prop} {arr a b:Array Keyed} {i n lo j:Nat} {x:Keyed} {pe:Array (Nat×Nat×Nat)} {f:Nat×Nat×Nat->Nat×Nat×Nat}
local macro_rules | `(int_private% "gallop")=>pure (Lean.mkCIdent (Lean.mkPrivateNameCore `PySem.Builtin.List.W1All `PySem.Builtin.gallop))
local macro_rules | `(int_private% "mergeLo")=>pure (Lean.mkCIdent (Lean.mkPrivateNameCore `PySem.Builtin.List.W1All `PySem.Builtin.mergeLo))
local macro_rules | `(int_private% "mergeHi")=>pure (Lean.mkCIdent (Lean.mkPrivateNameCore `PySem.Builtin.List.W1All `PySem.Builtin.mergeHi))
local macro_rules | `(int_private% "setMinGallop")=>pure (Lean.mkCIdent (Lean.mkPrivateNameCore `PySem.Builtin.List.W1All `PySem.Builtin.setMinGallop))
local macro_rules | `(tactic| walk_at "gallop")=>do
 let x:=Lean.mkCIdent (Lean.mkPrivateNameCore `PySem.Builtin.List.W1All `PySem.Builtin.gallop)
 `(tactic| delta $x:ident)
local macro_rules | `(tactic| walk_at "mergeLo")=>do
 let x:=Lean.mkCIdent (Lean.mkPrivateNameCore `PySem.Builtin.List.W1All `PySem.Builtin.mergeLo)
 `(tactic| delta $x:ident)
local macro_rules | `(tactic| walk_at "mergeHi")=>do
 let x:=Lean.mkCIdent (Lean.mkPrivateNameCore `PySem.Builtin.List.W1All `PySem.Builtin.mergeHi)
 `(tactic| delta $x:ident)
noncomputable abbrev gal:Bool->Keyed->Array Keyed->Nat->Nat->Nat->StateT SortSt Sem (Option Nat):=int_private% "gallop"
noncomputable abbrev mLo:Array Keyed->Array Keyed->StateT SortSt Sem (Array Keyed):=int_private% "mergeLo"
noncomputable abbrev mHi:Array Keyed->Array Keyed->StateT SortSt Sem (Array Keyed):=int_private% "mergeHi"
noncomputable abbrev sMG:Nat->StateT SortSt Sem PUnit:=int_private% "setMinGallop"
section
variable {E:Yb->Yc->Prop} {κ:SortKind}
def vB(M:Model)(A:Around)(E:Value->Shared->Prop)(s:Shared)(S:Keyed->Prop)(κ:SortKind):Prop:=∀(x y:Keyed)(st:SortSt)(Q:Option Bool->SortSt->Prop),S x->S y->kindOf st=κ->(∀b,Q (some b) st)->wpS M A E s (lt' x y) Q st
def All(S:Keyed->Prop)(a:Array Keyed):Prop:=∀(i:Nat)(p:Keyed),a[i]?=some p->S p
def Cy{p}{st:SortSt}{Q:Keyed->SortSt->Prop}(h:arr[i]?=some p)(q:Q p st):wpS M A E s (elem' arr i) Q st:=by
 unfold elem';show wpS M A E s (match arr[i]? with|some p=>pure p|none=>_) Q st
 rw[h];exact Z5 q
def bq{st:SortSt}{Q:Keyed->SortSt->Prop}(f:All S arr)(h:i<arr.size)(q:∀p,S p->Q p st):wpS M A E s (elem' arr i) Q st:=by have e:=Array.getElem?_eq_getElem h;exact Cy e (q _ (f i _ e))
def oO (L:vB M A E s S κ) {left} {key} {base hint} {st:SortSt} {Q:Ye Nat->SortSt->Prop} (hk:S key) (D:All S arr) (G:base+n<=arr.size) (C:hint < n) (kd:kindOf st=κ) (q:∀ k,k<=n->Q (some k) st):wpS M A E s (gal left key arr base n hint) Q st:=by
 delta gal
 walk_at "gallop"
 extract_lets j m B u x y
 have l:∀i,i<n->∀R,(∀b,R (some b) st)->wpS M A E s (j i) R st:=fun i hi R r=>by
  refine Z4 (bq D (by omega) fun p z=>?_)
  cases left with
  |true=>exact L p key st R z hk kd r
  |false=>exact Z4 (L key p st _ hk z kd fun b=>Z5 (r (!b)))
 have tail:∀ a b lo hi,hi<=n->wpS M A E s (u () a b lo hi) Q st:=fun a b lo hi v=>by
  dsimp only[u];refine Z4 (wpS_forRange (I:=fun _ c f=>f=st/\c.1=none/\c.2.2<=n) (fun i c f _ _ h=>?_) (fun c f h=>?_) ⟨rfl,rfl,v⟩)
  . obtain ⟨h1,h2,t⟩:=h;subst h1;split
    . exact Z5 (Z5 (q _ t))
    . rename_i o;refine Z4 (l _ (by omega) _ fun b=>?_)
      cases b with
      |true=>exact Z5 ⟨rfl,rfl,t⟩
      |false=>exact Z5 ⟨rfl,rfl,by dsimp only;omega⟩
  . obtain⟨h1,h2,t⟩:=h;subst h1;rw[h2];exact Z5 (q _ t)
 clear_value j u
 refine Z4 (l hint C _ fun right=>?_)
 cases right with
 |true =>
  refine Z4 (wpS_forRange (I:=fun _ c f=>f=st/\c.1=none) (fun i c f _ _ h=>?_) (fun c f h=>?_) ⟨rfl,rfl⟩)
  . obtain ⟨h1,h2⟩:=h;subst h1;dsimp only;split
    . exact Z5 (tail _ _ _ _ (by omega))
    . rename_i o;refine Z4 (l _ (by omega) _ fun b=>?_)
      cases b with
      |true=>exact Z5 ⟨rfl,rfl⟩
      |false=>exact Z5 (tail _ _ _ _ (by omega))
  . obtain⟨h1,h2⟩:=h;subst h1;rw[h2];exact tail _ _ _ _ (by omega)
 |false =>
  refine Z4 (wpS_forRange (I:=fun _ c f=>f=st/\c.1=none) (fun i c f _ _ h=>?_) (fun c f h=>?_) ⟨rfl,rfl⟩)
  . obtain ⟨h1,h2⟩:=h;subst h1;dsimp only;split
    . exact Z5 (tail _ _ _ _ (by omega))
    . rename_i o;refine Z4 (l _ (by omega) _ fun b=>?_)
      cases b with
      |true=>exact Z5 (tail _ _ _ _ (by omega))
      |false=>exact Z5 ⟨rfl,rfl⟩
  . obtain⟨h1,h2⟩:=h;subst h1;rw[h2];exact tail _ _ _ _ (by omega)
end
local macro_rules | `(tactic| walk_at "mergeLo")=>do
 let x:=Lean.mkCIdent (Lean.mkPrivateNameCore `PySem.Builtin.List.W1All `PySem.Builtin.mergeLo)
 `(tactic| delta $x:ident)
local macro_rules | `(tactic| walk_at "setMinGallop")=>do
 let x:=Lean.mkCIdent (Lean.mkPrivateNameCore `PySem.Builtin.List.W1All `PySem.Builtin.setMinGallop)
 `(tactic| delta $x:ident)
section
variable {E:Yb->Yc->Prop} {κ:SortKind}
structure Alike(st st':SortSt):Prop where
 kd:kindOf st'=kindOf st
 ar:arrOf st'=arrOf st
 pe:pendingOf st'=pendingOf st
 fa:failedOf st'=failedOf st
def Alike.refl{st:SortSt}:Alike st st:=⟨rfl,rfl,rfl,rfl⟩
theorem Alike.trans{a b c:SortSt}(h:Alike a b)(k:Alike b c):Alike a c:=⟨k.kd.trans h.kd,k.ar.trans h.ar,k.pe.trans h.pe,k.fa.trans h.fa⟩
def ut{g}{st:SortSt}{Q:PUnit->SortSt->Prop}(q:∀f,Alike st f->Q PUnit.unit f):wpS M A E s (sMG g) Q st:=by
 delta sMG
 walk_at "setMinGallop"
 exact wpS_modify (q _ ⟨rfl,rfl,rfl,rfl⟩)
def All.app(j:All S a)(f:All S b):All S (a++b):=fun i p e=>by
 rw[Array.getElem?_append]at e;split at e
 . exact j _ p e
 . exact f _ p e
def All.ext(f:All S a)(i j):All S (a.extract i j):=fun k p e=>by
 rw[Array.getElem?_extract]at e;split at e
 . exact f _ p e
 . cases e
def All.put(j:All S a)(f:S x):All S (a.push x):=fun k p e=>by
 rw[Array.getElem?_push]at e;split at e
 . cases e;exact f
 . exact j k p e
def All.one(f:S x):All S #[x]:=fun k p e=>by
 cases k with
 |zero=>cases e;exact f
 |succ k=>cases e
abbrev C7:=Option (Array Keyed)×Array Keyed×Nat×Nat×Nat×Nat×Nat
def LoI(S:Keyed->Prop)(a b:Array Keyed)(st:SortSt)(i:Nat)(c:C7)(st':SortSt):Prop:=c.1=none/\All S c.2.1/\c.2.2.1+1<a.size/\c.2.2.2.1<b.size/\i+2<=c.2.2.1+c.2.2.2.1/\Alike st st'
def LoD(S:Keyed->Prop)(a b:Array Keyed)(st:SortSt)(i:Nat)(c:C7)(st':SortSt):Prop:=(∃r,c.1=some r/\All S r/\Alike st st')\/LoI S a b st i c st'
def LoP(S:Keyed->Prop)(a b:Array Keyed)(st:SortSt)(i:Nat)(r:ForInStep C7)(st':SortSt):Prop:=match r with
 |.done c=>LoD S a b st i c st'
 |.yield c=>LoI S a b st i c st'
theorem Mc (L:vB M A E s S κ) {st:SortSt} {Q:Array Keyed->SortSt->Prop} (X:All S a) (V:All S b) (na:1<=a.size) (nb:1<=b.size) (kd:kindOf st=κ) (q:∀ l f,All S l->Alike st f->Q l f):wpS M A E s (mLo a b) Q st:=by
 delta mLo
 walk_at "mergeLo"
 refine Z4 (wpS_lift (wpAny_rule ⟨rfl,?_⟩))
 extract_lets B done v ia0 ib0
 have dn:∀l ia ib,All S l->All S (done l ia ib):=fun l ia ib h=>(h.app (X.ext _ _)).app (V.ext _ _)
 have ln:∀l ia ib,All S l->All S (v l ia ib):=fun l ia ib h=>(h.app (V.ext _ _)).app (X.ext _ _)
 have ht:B=a.size+b.size:=rfl;have hi0:ia0=0:=rfl;have hb0:ib0=1:=rfl
 clear_value done v B ia0 ib0
 refine Z4 (bq V (by lia) fun p0 hp0=>?_)
 extract_lets out0
 have ho0:All S out0:=.one hp0
 clear_value out0
 split
 . exact Z5 (q _ _ (dn _ _ _ ho0) .refl)
 rename_i hx1;split
 . exact Z5 (q _ _ (ln _ _ _ ho0) .refl)
 rename_i hx2;have hx1':ib0≠b.size:=fun z=>hx1 (by rw[z];exact Zz _)
 have hx2':ia0+1≠a.size:=fun z=>hx2 (by rw[z];exact Zz _)
 refine Z4 (wpS_get ?_);refine Z4 (wpS_mono (wpS_forRange (I:=fun i c f=>c.1=none/\All S c.2.1/\c.2.2.1+1<a.size/\c.2.2.2.1<b.size/\i+1<=c.2.2.1+c.2.2.2.1/\Alike st f) (Q:=fun c f=>∃r,c.1=some r/\All S r/\Alike st f) (fun i c f _ hil h=>?_) (fun c f h=>?_) ⟨rfl,ho0,by dsimp only;lia,by dsimp only;lia,by dsimp only;lia,.refl⟩) fun c f h=>?_)
 . obtain ⟨res,l,ia,ib,mg⟩:=c;obtain ⟨h1,h2,h3,h4,h5,h6⟩:=h;dsimp only at h1 h2 h3 h4 h5 h6
   extract_lets
   refine Z4 (wpS_mono (wpS_forRange (I:=fun j c f=>c.1=none/\All S c.2.1/\c.2.2.1+1<a.size/\c.2.2.2.1<b.size/\i+1+min j 1<=c.2.2.1+c.2.2.2.1/\Alike st f)
    (Q:=fun c f=>(∃r,c.1=some r/\All S r/\Alike st f)\/(c.1=none/\All S c.2.1/\c.2.2.1+1<a.size/\c.2.2.2.1<b.size/\i+2<=c.2.2.1+c.2.2.2.1/\Alike st f)) (fun j c st1 _ _ h=>?_) (fun c st1 h=>?_) ⟨rfl,h2,h3,h4,by show i+1+min 0 1<=ia+ib;lia,h6⟩) fun c st1 h=>?_)
   . obtain ⟨res1,out1,t,u,ac1,bc1⟩:=c;obtain ⟨g1,G,g3,Y,g5,D⟩:=h;dsimp only at g1 G g3 Y g5 D
     extract_lets
     refine Z4 (bq V Y fun p hp=>Z4 (bq X (show t<a.size by lia) fun p' hp'=>Z4 (L p p' st1 _ hp hp' (D.kd.trans kd) fun w=>?_)))
     cases w with
     |true =>
      refine Z4 (bq V Y fun x hx=>?_)
      extract_lets
      split
      . exact Z5 (.inl ⟨_,rfl,dn _ _ _ (G.put hx),D⟩)
      . rename_i U;have hne':u+1 ≠ b.size:=fun z=>U (by show (u+1 == b.size)=true;rw [z];exact Zz _)
        split
        . exact Z5 (.inr ⟨rfl,G.put hx,g3,(by show u+1<b.size;lia),(by show i+2<=t+(u+1);lia),D⟩)
        . exact Z5 ⟨rfl,G.put hx,g3,(by show u+1<b.size;lia),(by show i+1+min (j+1) 1<=t+(u+1);lia),D⟩
     |false =>
      refine Z4 (bq X (show t<a.size by lia) fun x hx=>?_)
      extract_lets
      split
      . exact Z5 (.inl ⟨_,rfl,ln _ _ _ (G.put hx),D⟩)
      . rename_i U;have hne':t+1+1 ≠ a.size:=fun z=>U (by show (t+1+1 == a.size)=true;rw [z];exact Zz _)
        split
        . exact Z5 (.inr ⟨rfl,G.put hx,(by show t+1+1<a.size;lia),Y,(by show i+2<=(t+1)+u;lia),D⟩)
        . exact Z5 ⟨rfl,G.put hx,(by show t+1+1<a.size;lia),Y,(by show i+1+min (j+1) 1<=(t+1)+u;lia),D⟩
   . obtain ⟨g1,G,g3,Y,g5,D⟩:=h;refine .inr ⟨g1,G,g3,Y,?_,D⟩;have:1<=max 0 B:=by lia
     lia
   . obtain ⟨res1,out1,t,u,ac1,bc1⟩:=c;rcases h with ⟨r,e,hr,al⟩ | ⟨g1,G,g3,Y,g5,D⟩
     . cases e;exact Z5 ⟨r,rfl,hr,al⟩
     dsimp only at g1 G g3 Y g5 D;cases g1
     extract_lets
     refine Z4 (wpS_lift (wpAny_rule ⟨rfl,?_⟩));refine Z4 (wpS_mono (wpS_forRange (I:=fun _ c f=>LoI S a b st i c f) (Q:=fun c f=>LoD S a b st i c f) (fun j c st2 _ _ h=>?_) (fun c st2 h=>.inr h) ⟨rfl,G,g3,Y,g5,D⟩) fun c st2 h=>?_)
     . obtain ⟨res2,out2,ia2,ib2,mg2,ac2,bc2⟩:=c;obtain ⟨k1,k2,k3,k4,k5,k6⟩:=h;dsimp only at k1 k2 k3 k4 k5 k6
       extract_lets z1 z2 z3 z4 z5 z6 z7 z8 z9 z10 z11 C jp mgm
       have e2:All S z2:=k2;have e4:z4+1 < a.size:=k3;have e6:z6 < b.size:=k4;have e5:i+2<=z4+z6:=k5;have en:C=z6+1:=rfl;have jpok:∀ m,wpS M A E s (jp () m) (LoP S a b st i) st2:=fun m=>by
        unfold jp
        clear_value z1 z2 z3 z4 z5 z6 z7 z8 z9 z10 z11 C
        refine Z4 (ut fun Z al=>?_)
        have k7:=k6.trans al;refine Z4 (bq V e6 fun p hp=>Z4 (oO L hp X (by lia) (by lia) (k7.kd.trans kd) fun k hk=>?_))
        dsimp -zeta only
        extract_lets ac jp2 out3 ia3
        have J:∀ o x,All S o->x+1 < a.size->i+2<=x+z6->wpS M A E s (jp2 () o x) (LoP S a b st i) Z:=fun o x ho hx hs=>by
         unfold jp2;refine Z4 (bq V e6 fun p2 hp2=>?_)
         extract_lets out4
         split
         . exact Z5 (.inl ⟨_,rfl,dn _ _ _ (ho.put hp2),k7⟩)
         rename_i U;have hne':C≠b.size:=fun z=>U (by rw[z];exact Zz _)
         refine Z4 (bq X (by lia) fun p3 hp3=>Z4 (oO L hp3 V (by lia) (by lia) (k7.kd.trans kd) fun k' hk'=>?_))
         dsimp -zeta only
         extract_lets bc jp3 out5 ib5
         have H:∀o y,All S o->y<b.size->z6<y->wpS M A E s (jp3 () o y) (LoP S a b st i) Z:=fun o y ho hy hzy=>by
          unfold jp3;refine Z4 (bq X (by lia) fun p4 hp4=>?_)
          extract_lets out6
          split
          . exact Z5 (.inl ⟨_,rfl,ln _ _ _ (ho.put hp4),k7⟩)
          rename_i O;have hne2':x+1+1≠a.size:=fun z=>O (by show(x+1+1==a.size)=true;rw[z];exact Zz _)
          have fin:LoI S a b st i (none,out6,x+1,y,m,ac,bc) Z:=⟨rfl,ho.put hp4,(by show x+1+1<a.size;lia),hy,(by show i+2<=x+1+y;lia),k7⟩
          split
          . exact Z5 (.inr fin)
          . exact Z5 fin
         split
         . split
           . exact Z5 (.inl ⟨_,rfl,dn _ _ _ ((ho.put hp2).app (V.ext _ _)),k7⟩)
           . rename_i hk0 hne3;have hne3':C+k' ≠ b.size:=fun z=>hne3 (by show (C+k' == b.size)=true;rw [z];exact Zz _)
             exact H _ _ ((ho.put hp2).app (V.ext _ _)) (by show C+k'<b.size;lia) (by show z6<C+k';lia)
         . exact H _ _ (ho.put hp2) (by lia) (by lia)
        split
        . split
          . exact Z5 (.inl ⟨_,rfl,ln _ _ _ (e2.app (X.ext _ _)),k7⟩)
          . rename_i hk0 hne1;have hne1':z4+k+1 ≠ a.size:=fun z=>hne1 (by show (z4+k+1 == a.size)=true;rw [z];exact Zz _)
            split
            . exact Z5 (.inl ⟨_,rfl,dn _ _ _ (e2.app (X.ext _ _)),k7⟩)
            . rename_i O;have hne2':z4+k ≠ a.size:=fun z=>O (by show (z4+k == a.size)=true;rw [z];exact Zz _)
              exact J _ _ (e2.app (X.ext _ _)) (by show z4+k+1<a.size;lia) (by show i+2<=z4+k+z6;lia)
        . exact J _ _ e2 e4 e5
       split
       . exact wpS_mono (jpok _) fun r f h=>by cases r<;>exact h
       . exact wpS_mono (jpok _) fun r f h=>by cases r<;>exact h
     . obtain ⟨res2,out2,ia2,ib2,mg2,ac2,bc2⟩:=c;rcases h with ⟨r,e,hr,al⟩ | ⟨k1,k2,k3,k4,k5,k6⟩
       . cases e;exact Z5 ⟨r,rfl,hr,al⟩
       dsimp only at k1 k2 k3 k4 k5 k6;cases k1;exact Z4 (ut fun Z al=>Z5 ⟨rfl,k2,k3,k4,k5,k6.trans al⟩)
 . obtain ⟨res,l,ia,ib,mg⟩:=c;obtain ⟨h1,h2,h3,h4,h5,h6⟩:=h;dsimp only at h1 h2 h3 h4 h5 h6;rw [Nat.max_eq_right (Nat.zero_le _)] at h5
   lia
 . obtain⟨r,e,hr,al⟩:=h;obtain⟨res,c⟩:=c;cases e;exact Z5 (q r f hr al)
end
local macro_rules | `(tactic| walk_at "mergeHi")=>do
 let x:=Lean.mkCIdent (Lean.mkPrivateNameCore `PySem.Builtin.List.W1All `PySem.Builtin.mergeHi)
 `(tactic| delta $x:ident)
section
variable {E:Yb->Yc->Prop} {κ:SortKind}
theorem All.rev(f:All S a):All S a.reverse:=fun i p e=>by
 by_cases hi:i<a.size
 . rw[Array.getElem?_reverse hi]at e;exact f _ p e
 . rw [Array.getElem?_eq_none (by rw [Array.size_reverse];lia)] at e
   cases e
abbrev C7':=Option (Array Keyed)×Nat×Nat×Array Keyed×Nat×Nat×Nat
def HiI(S:Keyed->Prop)(a b:Array Keyed)(st:SortSt)(i:Nat)(c:C7')(st':SortSt):Prop:=c.1=none/\All S c.2.2.2.1/\(1<=c.2.1/\c.2.1<=a.size)/\(2<=c.2.2.1/\c.2.2.1<=b.size)/\c.2.1+c.2.2.1+i+2<=a.size+b.size/\Alike st st'
def HiD(S:Keyed->Prop)(a b:Array Keyed)(st:SortSt)(i:Nat)(c:C7')(st':SortSt):Prop:=(∃r,c.1=some r/\All S r/\Alike st st')\/HiI S a b st i c st'
def HiP(S:Keyed->Prop)(a b:Array Keyed)(st:SortSt)(i:Nat)(r:ForInStep C7')(st':SortSt):Prop:=match r with
 |.done c=>HiD S a b st i c st'
 |.yield c=>HiI S a b st i c st'
def Md (L:vB M A E s S κ) {st:SortSt} {Q:Array Keyed->SortSt->Prop} (X:All S a) (V:All S b) (na:1<=a.size) (nb:1<=b.size) (kd:kindOf st=κ) (q:∀ l f,All S l->Alike st f->Q l f):wpS M A E s (mHi a b) Q st:=by
 delta mHi
 walk_at "mergeHi"
 refine Z4 (wpS_lift (wpAny_rule ⟨rfl,?_⟩))
 extract_lets v done t na0 nb0
 have dn:∀l x y,All S l->All S (done l x y):=fun l x y h=>((X.ext _ _).app (V.ext _ _)).app h.rev
 have fn:∀l x y,All S l->All S (t l x y):=fun l x y h=>((V.ext _ _).app (X.ext _ _)).app h.rev
 have ht:v=a.size+b.size:=rfl;have hi0:na0=a.size-1:=rfl;have hb0:nb0=b.size:=rfl
 clear_value done t v na0 nb0
 refine Z4 (bq X (by omega) fun p0 hp0=>?_)
 extract_lets out0
 have ho0:All S out0:=.one hp0
 clear_value out0
 split
 . exact Z5 (q _ _ (dn _ _ _ ho0) .refl)
 rename_i hx1;split
 . exact Z5 (q _ _ (fn _ _ _ ho0) .refl)
 rename_i hx2;have hx1':na0≠0:=fun z=>hx1 (by rw[z];rfl)
 have hx2':nb0≠1:=fun z=>hx2 (by rw[z];rfl)
 refine Z4 (wpS_get ?_);refine Z4 (wpS_mono (wpS_forRange (I:=fun i c f=>c.1=none/\All S c.2.2.2.1/\(1<=c.2.1/\c.2.1<=a.size)/\(2<=c.2.2.1/\c.2.2.1<=b.size)/\c.2.1+c.2.2.1+i+1<=a.size+b.size/\Alike st f) (Q:=fun c f=>∃r,c.1=some r/\All S r/\Alike st f) (fun i c f _ hil h=>?_) (fun c f h=>?_) ⟨rfl,ho0,by dsimp only;omega,by dsimp only;omega,by dsimp only;omega,.refl⟩) fun c f h=>?_)
 . obtain ⟨res,x,y,l,mg⟩:=c;obtain ⟨h1,h2,h3,h4,h5,h6⟩:=h;dsimp only at h1 h2 h3 h4 h5 h6
   extract_lets
   refine Z4 (wpS_mono (wpS_forRange (I:=fun j c f=>c.1=none/\All S c.2.2.2.1/\(1<=c.2.1/\c.2.1<=a.size)/\(2<=c.2.2.1/\c.2.2.1<=b.size)/\c.2.1+c.2.2.1+i+1+min j 1<=a.size+b.size/\Alike st f)
    (Q:=fun c f=>(∃r,c.1=some r/\All S r/\Alike st f)\/(c.1=none/\All S c.2.2.2.1/\(1<=c.2.1/\c.2.1<=a.size)/\(2<=c.2.2.1/\c.2.2.1<=b.size)/\c.2.1+c.2.2.1+i+2<=a.size+b.size/\Alike st f)) (fun j c st1 _ _ h=>?_) (fun c st1 h=>?_) ⟨rfl,h2,h3,h4,by show x+y+i+1+min 0 1<=a.size+b.size;omega,h6⟩) fun c st1 h=>?_)
   . obtain ⟨res1,C,B,out1,ac1,bc1⟩:=c;obtain ⟨g1,G,g3,g4,g5,D⟩:=h;dsimp only at g1 G g3 g4 g5 D
     extract_lets
     refine Z4 (bq V (show B-1<b.size by omega) fun p hp=>Z4 (bq X (show C-1<a.size by omega) fun p' hp'=>Z4 (L p p' st1 _ hp hp' (D.kd.trans kd) fun w=>?_)))
     cases w with
     |true =>
      refine Z4 (bq X (show C-1<a.size by omega) fun u hu=>?_)
      extract_lets
      split
      . exact Z5 (.inl ⟨_,rfl,dn _ _ _ (G.put hu),D⟩)
      . rename_i U;have hne':C - 1 ≠ 0:=fun z=>U (by show (C - 1 == 0)=true;rw [z];rfl)
        split
        . exact Z5 (.inr ⟨rfl,G.put hu,(by show 1<=C-1/\C-1<=a.size;omega),g4,(by show C-1+B+i+2<=a.size+b.size;omega),D⟩)
        . exact Z5 ⟨rfl,G.put hu,(by show 1<=C-1/\C-1<=a.size;omega),g4,(by show C-1+B+i+1+min (j+1) 1<=a.size+b.size;omega),D⟩
     |false =>
      refine Z4 (bq V (show B-1<b.size by omega) fun u hu=>?_)
      extract_lets
      split
      . exact Z5 (.inl ⟨_,rfl,fn _ _ _ (G.put hu),D⟩)
      . rename_i U;have hne':B - 1 ≠ 1:=fun z=>U (by show (B - 1 == 1)=true;rw [z];rfl)
        split
        . exact Z5 (.inr ⟨rfl,G.put hu,g3,(by show 2<=B-1/\B-1<=b.size;omega),(by show C+(B-1)+i+2<=a.size+b.size;omega),D⟩)
        . exact Z5 ⟨rfl,G.put hu,g3,(by show 2<=B-1/\B-1<=b.size;omega),(by show C+(B-1)+i+1+min (j+1) 1<=a.size+b.size;omega),D⟩
   . obtain ⟨g1,G,g3,g4,g5,D⟩:=h;refine .inr ⟨g1,G,g3,g4,?_,D⟩;have:1<=max 0 v:=by omega
     omega
   . obtain ⟨res1,C,B,out1,ac1,bc1⟩:=c;rcases h with ⟨r,e,hr,al⟩ | ⟨g1,G,g3,g4,g5,D⟩
     . cases e;exact Z5 ⟨r,rfl,hr,al⟩
     dsimp only at g1 G g3 g4 g5 D;cases g1
     extract_lets
     refine Z4 (wpS_lift (wpAny_rule ⟨rfl,?_⟩));refine Z4 (wpS_mono (wpS_forRange (I:=fun _ c f=>HiI S a b st i c f) (Q:=fun c f=>HiD S a b st i c f) (fun j c st2 _ _ h=>?_) (fun c st2 h=>.inr h) ⟨rfl,G,g3,g4,g5,D⟩) fun c st2 h=>?_)
     . obtain ⟨res2,x2,y2,out2,mg2,ac2,bc2⟩:=c;obtain ⟨k1,k2,k3,k4,k5,k6⟩:=h;dsimp only at k1 k2 k3 k4 k5 k6
       extract_lets z1 z2 z3 z4 z5 z6 z7 z8 z9 z10 z11 Z jp mgm
       have e6:All S z6:=k2;have e2:1<=z2/\z2<=a.size:=k3;have e4:2<=z4/\z4<=b.size:=k4;have e5:z2+z4+i+2<=a.size+b.size:=k5;have en:Z=z4 - 1:=rfl;have jpok:∀ m,wpS M A E s (jp () m) (HiP S a b st i) st2:=fun m=>by
        unfold jp
        clear_value z1 z2 z3 z4 z5 z6 z7 z8 z9 z10 z11 Z
        refine Z4 (ut fun Y al=>?_)
        have k7:=k6.trans al;refine Z4 (bq V (by omega) fun p hp=>Z4 (oO L hp X (by omega) (by omega) (k7.kd.trans kd) fun k hk=>?_))
        dsimp -zeta only
        extract_lets kk ac jp2 out3 na3
        have J:∀ o x,All S o->1<=x->x<=z2->wpS M A E s (jp2 () x o) (HiP S a b st i) Y:=fun o x ho hx hs=>by
         unfold jp2;refine Z4 (bq V (by omega) fun p2 O=>?_)
         extract_lets out4
         split
         . exact Z5 (.inl ⟨_,rfl,fn _ _ _ (ho.put O),k7⟩)
         rename_i U;have hne':Z≠1:=fun z=>U (by rw[z];rfl)
         refine Z4 (bq X (by omega) fun p3 hp3=>Z4 (oO L hp3 V (by omega) (by omega) (k7.kd.trans kd) fun k' hk'=>?_))
         dsimp -zeta only
         extract_lets kk2 bc jp3 out5 nb5
         have H:∀o y,All S o->2<=y->y<=Z->wpS M A E s (jp3 () y o) (HiP S a b st i) Y:=fun o y ho hy hzy=>by
          unfold jp3;refine Z4 (bq X (show x-1<a.size by omega) fun p4 hp4=>?_)
          extract_lets out6
          split
          . exact Z5 (.inl ⟨_,rfl,dn _ _ _ (ho.put hp4),k7⟩)
          rename_i hne2;have hne2':x-1≠0:=fun z=>hne2 (by show(x-1==0)=true;rw[z];rfl)
          have fin:HiI S a b st i (none,x-1,y,out6,m,ac,bc) Y:=⟨rfl,ho.put hp4,(by show 1<=x-1/\x-1<=a.size;omega),(by show 2<=y/\y<=b.size;omega),(by show x-1+y+i+2<=a.size+b.size;omega),k7⟩
          split
          . exact Z5 (.inr fin)
          . exact Z5 fin
         split
         . split
           . exact Z5 (.inl ⟨_,rfl,fn _ _ _ ((ho.put O).app (V.ext _ _).rev),k7⟩)
           . rename_i hk0 hne3;have hne3':k' ≠ 1:=fun z=>hne3 (by show (k' == 1)=true;rw [z];rfl)
             split
             . exact Z5 (.inl ⟨_,rfl,dn _ _ _ ((ho.put O).app (V.ext _ _).rev),k7⟩)
             . rename_i hne4;have hne4':k' ≠ 0:=fun z=>hne4 (by show (k' == 0)=true;rw [z];rfl)
               exact H _ _ ((ho.put O).app (V.ext _ _).rev) (by omega) (by omega)
         . exact H _ _ (ho.put O) (by omega) (by omega)
        split
        . split
          . exact Z5 (.inl ⟨_,rfl,dn _ _ _ (e6.app (X.ext _ _).rev),k7⟩)
          . rename_i hk0 hne1;have hne1':k ≠ 0:=fun z=>hne1 (by show (k == 0)=true;rw [z];rfl)
            exact J _ _ (e6.app (X.ext _ _).rev) (by omega) (by omega)
        . exact J _ _ e6 e2.1 (ZM _)
       split
       . exact wpS_mono (jpok _) fun r f h=>by cases r<;>exact h
       . exact wpS_mono (jpok _) fun r f h=>by cases r<;>exact h
     . obtain ⟨res2,x2,y2,out2,mg2,ac2,bc2⟩:=c;rcases h with ⟨r,e,hr,al⟩ | ⟨k1,k2,k3,k4,k5,k6⟩
       . cases e;exact Z5 ⟨r,rfl,hr,al⟩
       dsimp only at k1 k2 k3 k4 k5 k6;cases k1;exact Z4 (ut fun Y al=>Z5 ⟨rfl,k2,k3,k4,(by show x2+y2+(i+1)+1<=a.size+b.size;omega),k6.trans al⟩)
 . obtain⟨res,x,y,l,mg⟩:=c;obtain⟨h1,h2,h3,h4,h5,h6⟩:=h;dsimp only at h1 h2 h3 h4 h5 h6;rw[Nat.max_eq_right (Nat.zero_le _)]at h5;omega
 . obtain⟨r,e,hr,al⟩:=h;obtain⟨res,c⟩:=c;cases e;exact Z5 (q r f hr al)
end
local macro_rules | `(tactic| walk_at "mergeAt")=>do
 let x:=Lean.mkCIdent (Lean.mkPrivateNameCore `PySem.Builtin.List.W1All `PySem.Builtin.mergeAt)
 `(tactic| delta $x:ident)
section
variable {E:Yb->Yc->Prop} {κ:SortKind}
def Ch:Nat->List (Nat×Nat×Nat)->Nat->Prop
 |x,[],e=>x=e
 |x,p::r,e=>p.1=x/\1<=p.2.1/\Ch (x+p.2.1) r e
theorem Ch.le:∀{ps}{x e},Ch x ps e->x<=e
 |[],_,_,h=>Nat.le_of_eq h
 |_::_,_,_,h=>ZY (Nat.le_add_right _ _) (Ch.le h.2.2)
theorem Ch.at:∀{ps}{x e i}{p q},Ch x ps e->ps[i]?=some p->ps[i+1]?=some q->1<=p.2.1/\p.1+p.2.1=q.1/\1<=q.2.1/\q.1+q.2.1<=e
 |[],_,_,_,_,_,_,h,_=>by cases h
 |[_],_,_,0,_,_,_,_,h=>by cases h
 |a::b::r,x,e,0,p,q,h,h1,h2=>by cases h1;cases h2;obtain⟨o,l,m,j,f⟩:=h;have:=f.le;exact⟨l,by lia,j,by lia⟩
 |a::r,x,e,i+1,p,q,h,h1,h2=>Ch.at h.2.2 (by simpa using h1) (by simpa using h2)
theorem Ch.merge:∀{ps}{x e i}{p q},Ch x ps e->ps[i]?=some p->ps[i+1]?=some q->Ch x ((ps.set i (p.1,p.2.1+q.2.1,p.2.2)).eraseIdx (i+1)) e
 |[],_,_,_,_,_,_,h,_=>by cases h
 |[_],_,_,0,_,_,_,_,h=>by cases h
 |a::b::r,x,e,0,p,q,h,h1,h2=>by cases h1;cases h2;obtain⟨j,o,m,l,f⟩:=h;exact⟨j,(by show 1<=a.2.1+b.2.1;lia),(by rw[<- Nat.add_assoc];exact f)⟩
 |a::r,x,e,i+1,p,q,h,h1,h2=>⟨h.1,h.2.1,Ch.merge h.2.2 (by simpa using h1) (by simpa using h2)⟩
theorem Ch.snoc:∀{ps}{x e l k},Ch x ps e->1<=l->Ch x (ps++[(e,l,k)]) (e+l)
 |[],x,e,l,k,h,h1=>by cases h;exact⟨rfl,h1,rfl⟩
 |_::r,x,e,l,k,h,h1=>⟨h.1,h.2.1,Ch.snoc h.2.2 h1⟩
def GG{σ:Type}{st st'}{Q:PUnit->σ->Prop}(q:Q PUnit.unit st'):wpS M A E s (set st') Q st:=wpS_modify q
structure Good(S:Keyed->Prop)(κ:SortKind)(n lo:Nat)(st:SortSt):Prop where
 kd:kindOf st=κ
 fa:failedOf st=none
 sz:(arrOf st).size=n
 al:All S (arrOf st)
 ch:Ch 0 (pendingOf st).toList lo
 le:lo<=n
theorem wE:∀(ps:Yg (Keyed×Nat)) x o,All S x->x.size=n->(∀p∈ps,S p.1)->All S (ps.foldl (fun a q=>match q with|(p,j)=>a.setIfInBounds (o+j) p) x)/\(ps.foldl (fun a q=>match q with|(p,j)=>a.setIfInBounds (o+j) p) x).size=n
 |[],x,_,h,hn,_=>⟨h,hn⟩
 | (p,j) :: ps,x,o,h,hn,hp=>wE ps (x.setIfInBounds (o+j) p) o (fun i z e=>by
  rw[Array.getElem?_setIfInBounds]at e;split at e
  . split at e
    . cases e;exact hp _ Zo
    . cases e
  . exact h i z e) (by rw[Array.size_setIfInBounds];exact hn) fun q m=>hp q (Zp _ m)
theorem ET(L:vB M A E s S κ){st:SortSt}{Q:Bool->SortSt->Prop}(g:Good S κ n lo st)(hi:i+1<(pendingOf st).size)(q:∀v,Good S κ n lo v->(pendingOf v).size+1=(pendingOf st).size->Q true v):wpS M A E s (mergeAt' i) Q st:=by
 delta mergeAt'
 walk_at "mergeAt"
 refine Z4 (wpS_get ?_);obtain⟨⟨I,Y,pw⟩,ep⟩:∃p,(pendingOf st)[i]?=some p:=⟨_,Array.getElem?_eq_getElem (by lia)⟩
 obtain⟨⟨X,nb,Z⟩,eq⟩:∃p,(pendingOf st)[i+1]?=some p:=⟨_,Array.getElem?_eq_getElem hi⟩;have V:(pendingOf st).toList[i]?=some (I,Y,pw):=by simpa using ep
 have U:(pendingOf st).toList[i+1]?=some (X,nb,Z):=by simpa using eq
 obtain⟨c1,c2,c3,c4⟩:=g.ch.at V U;have c5:=g.ch.merge V U;dsimp only at c1 c2 c3 c4 c5;have hsz:=g.sz;have hle:=g.le;rw[ep,eq];dsimp -zeta only;have G:∀j f,kindOf j=kindOf st->arrOf j=arrOf st->pendingOf j=((pendingOf st).setIfInBounds i (I,Y+nb,pw)).eraseIdxIfInBounds (i+1)->failedOf j=failedOf st->Alike j f->Good S κ n lo f/\(pendingOf f).size+1=(pendingOf st).size:=fun j f H D C B t=>⟨⟨(t.kd.trans H).trans g.kd,(t.fa.trans B).trans g.fa,(by rw[t.ar,D];exact g.sz),(by rw[t.ar,D];exact g.al),(by
  rw[t.pe,C,Array.eraseIdxIfInBounds];split
  . simpa[Array.toList_setIfInBounds]using c5
  . rename_i h;exact absurd (by simpa using hi) h),g.le⟩,(by
  rw[t.pe,C,Array.eraseIdxIfInBounds];split
  . simp
    lia
  . rename_i h;exact absurd (by simpa using hi) h)⟩
 have Gq:∀j,kindOf j=kindOf st->arrOf j=arrOf st->pendingOf j=((pendingOf st).setIfInBounds i (I,Y+nb,pw)).eraseIdxIfInBounds (i+1)->failedOf j=failedOf st->Q true j:=fun j H D C B=>q _ (G j j H D C B .refl).1 (G j j H D C B .refl).2
 refine Z4 (GG ?_);have r:=g.al;refine Z4 (bq (arr:=arrOf st) r (by lia) fun p hp=>Z4 (oO L (arr:=arrOf st) hp r (by lia) (by lia) g.kd fun k hk=>?_))
 dsimp -zeta only;split
 . exact Z5 (Gq _ rfl rfl rfl rfl)
 rename_i hne;have hne':Y-k≠0:=fun z=>hne (by rw[z];rfl)
 refine Z4 (bq (arr:=arrOf st) r (by lia) fun p2 hp2=>Z4 (oO L (arr:=arrOf st) hp2 r (by lia) (by lia) g.kd fun m hm=>?_))
 dsimp -zeta only;split
 . exact Z5 (Gq _ rfl rfl rfl rfl)
 rename_i O;have hne2':m≠0:=fun z=>O (by rw[z];rfl)
 extract_lets x y jp
 have hx:All S x:=r.ext _ _;have hy:All S y:=r.ext _ _;have sx:1<=x.size:=by
  show 1<=((arrOf st).extract (I+k) X).size;rw[Array.size_extract]
  lia
 have sy:1<=y.size:=by
  show 1<=((arrOf st).extract X (X+m)).size;rw[Array.size_extract]
  lia
 have u:∀(o:Array Keyed) f,All S o->(Good S κ n lo f/\(pendingOf f).size+1=(pendingOf st).size)->wpS M A E s (jp o) Q f:=fun o f J h=>by
  unfold jp;have hm:∀z∈o.toList.zipIdx,S z.1:=fun z mz=>by obtain⟨z1,z2⟩:=z;have:=List.mem_zipIdx' mz;refine J z2 z1 ?_;rw[<- Array.getElem?_toList,Zx this.1];exact Z8 some this.2.symm
  have fp:=wE (n:=n) o.toList.zipIdx (arrOf f) (I+k) h.1.al h.1.sz hm;refine Z4 (wpS_modify ?_);refine Z4 (wpS_get ?_);refine Z5 ?_;have Fq:∀l b,kindOf l=kindOf f->All S (arrOf l)->(arrOf l).size=n->pendingOf l=pendingOf f->failedOf l=failedOf f->b=(failedOf l).isNone->Q b l:=fun l b H D C B e5 e6=>by rw[e6,e5,h.1.fa];exact q l ⟨H.trans h.1.kd,e5.trans h.1.fa,C,D,(by rw[B];exact h.1.ch),h.1.le⟩ (by rw[B];exact h.2)
  exact Fq _ _ rfl fp.1 fp.2 rfl rfl rfl
 clear_value jp x y
 split
 . exact Z4 (Mc L hx hy sx sy g.kd fun o f J t=>u o f J (by refine G _ _ ?_ ?_ ?_ ?_ t<;>rfl))
 . exact Z4 (Md L hx hy sx sy g.kd fun o f J t=>u o f J (by refine G _ _ ?_ ?_ ?_ ?_ t<;>rfl))
end
local macro_rules | `(tactic| walk_at "countRun")=>do
 let x:=Lean.mkCIdent (Lean.mkPrivateNameCore `PySem.Builtin.List.W1All `PySem.Builtin.countRun)
 `(tactic| delta $x:ident)
local macro_rules | `(tactic| walk_at "binarySort")=>do
 let x:=Lean.mkCIdent (Lean.mkPrivateNameCore `PySem.Builtin.List.W1All `PySem.Builtin.binarySort)
 `(tactic| delta $x:ident)
local macro_rules | `(tactic| walk_at "sortRuns")=>do
 let x:=Lean.mkCIdent (Lean.mkPrivateNameCore `PySem.Builtin.List.W1All `PySem.Builtin.sortRuns)
 `(tactic| delta $x:ident)
section
variable {E:Yb->Yc->Prop} {κ:SortKind}
def All.perm(h:All S b)(p:a.Perm b):All S a:=fun i x e=>by obtain⟨j,f,l⟩:=Array.mem_iff_getElem.mp (p.mem_iff.mp (Array.mem_of_getElem? e));exact h j x (by rw[Array.getElem?_eq_getElem f,l])
structure Like(S:Keyed->Prop)(κ:SortKind)(n:Nat)(pe:Array (Nat×Nat×Nat))(st:SortSt):Prop where
 kd:kindOf st=κ
 fa:failedOf st=none
 sz:(arrOf st).size=n
 al:All S (arrOf st)
 pe:pendingOf st=pe
theorem ug(L:vB M A E s S κ){st:SortSt}(g:Like S κ n pe st)(hi:i<n)(m:j<n){Q:Ye Bool->SortSt->Prop}(q:∀b,Q (some b) st):wpS M A E s (ltAt' i j) Q st:=by rw[ltAt'_eq];have:=g.sz;exact Z4 (wpS_get (Z4 (bq g.al (by lia) fun p l=>Z4 (bq g.al (by lia) fun p2 f=>L p p2 st Q l f g.kd q))))
def ux{st:SortSt}(g:Like S κ n pe st){Q:Unit->SortSt->Prop}(q:∀f,Like S κ n pe f->Q () f):wpS M A E s (reverseSlice' i j) Q st:=by rw[reverseSlice'_eq];exact wpS_modify (q _ ⟨g.kd,g.fa,(mirror_size _ _ _ _).trans g.sz,g.al.perm (mirror_perm _ _ _ _),g.pe⟩)
def Je{st:SortSt}(g:Like S κ n pe st){Q:Unit->SortSt->Prop}(q:∀f,Like S κ n pe f->Q () f):wpS M A E s (moveDown' i j) Q st:=by rw[moveDown'_eq];exact wpS_modify (q _ ⟨g.kd,g.fa,(bubble_size _ _ _).trans g.sz,g.al.perm (bubble_perm _ _ _),g.pe⟩)
theorem Gf(L:vB M A E s S κ){st:SortSt}(g:Like S κ n pe st){r}(h1:1<=r)(hr:lo+r<=n){Q:Ye Nat->SortSt->Prop}(q:∀k f,1<=k->k<=r->Like S κ n pe f->Q (some k) f):wpS M A E s (countRun' lo r) Q st:=by
 delta countRun'
 walk_at "countRun"
 extract_lets n0
 have e0:n0=1:=rfl;refine Z4 (wpS_mono (wpS_forRange (I:=fun i c f=>c.1=none/\c.2=i/\Like S κ n pe f) (Q:=fun c f=>c.1=none/\1<=c.2/\c.2<=r/\Like S κ n pe f) (fun i c f hi H h=>?_) (fun c f h=>?_) ⟨rfl,rfl,g⟩) fun c st1 h=>?_)
 . obtain ⟨t,m⟩:=c;obtain ⟨h2,l,j⟩:=h
   extract_lets
   refine Z4 (ug L j (show lo+m<n by lia) (by lia) fun b=>?_)
   cases b with
   |true=>exact Z5 ⟨rfl,(by lia),(by lia),j⟩
   |false=>exact Z5 ⟨rfl,(by show m+1=i+1;lia),j⟩
 . obtain⟨h2,l,j⟩:=h;exact⟨h2,by lia,by lia,j⟩
 . obtain ⟨t,m⟩:=c;obtain ⟨h2,l,j,x⟩:=h;dsimp only at h2 l j;cases h2
   extract_lets O J m1 U
   dsimp -zeta only[O,J];split
   . exact Z5 (q _ _ l j x)
   rename_i V;have Y:m≠r:=fun z=>V (by rw[z];exact Zz _)
   have y:∀u B,Like S κ n pe B->wpS M A E s (U u) Q B:=fun u B g2=>by
    unfold U;refine Z4 (wpS_lift (wpAny_rule ⟨rfl,?_⟩));refine Z4 (wpS_mono (wpS_forRange (I:=fun i c f=>c.1=none/\c.2.1=i/\Like S κ n pe f) (Q:=fun c f=>c.1=none/\1<=c.2.1/\c.2.1<=r/\Like S κ n pe f) (fun i c f hi H h=>?_) (fun c f h=>?_) ⟨rfl,rfl,g2⟩) fun c st3 h=>?_)
    . obtain ⟨t,p,ne⟩:=c;obtain ⟨h2,l,j⟩:=h;dsimp only at h2 l
      extract_lets
      refine Z4 (ug L j (show lo+p<n by lia) (show lo+p-1<n by lia) fun b=>?_)
      cases b with
      |true =>
       dsimp -zeta only;rw[if_pos rfl];split
       . refine Z4 (ux j fun o C=>?_)
         exact Z5 ⟨rfl,(by show p+1=i+1;lia),C⟩
       . exact Z5 ⟨rfl,(by show p+1=i+1;lia),j⟩
      |false =>
       refine Z4 (ug L j (show lo+p-1<n by lia) (show lo+p<n by lia) fun b2=>?_)
       cases b2 with
       |true=>exact Z5 ⟨rfl,(by show 1<=p;lia),(by show p<=r;lia),j⟩
       |false=>exact Z5 ⟨rfl,(by show p+1=i+1;lia),j⟩
    . obtain⟨h2,l,j⟩:=h;exact⟨h2,by lia,by lia,j⟩
    . obtain ⟨t,p,ne⟩:=c;obtain ⟨h2,l,j,x⟩:=h;dsimp only at h2 l j;cases h2
      extract_lets O X J nn G
      have hss:X.1=p:=rfl;have hmm:J=p:=rfl;dsimp -zeta only[O,X,J,nn];have v:∀u o,Like S κ n pe o->wpS M A E s (G u) Q o:=fun u o g4=>by
       unfold G;refine Z4 (ux g4 fun st5 C=>?_)
       refine Z4 (wpS_mono (wpS_forRange (I:=fun i c f=>c.1=none/\c.2=i/\Like S κ n pe f) (Q:=fun c f=>c.1=none/\1<=c.2/\c.2<=r/\Like S κ n pe f) (fun i c f hi H h=>?_) (fun c f h=>?_) ⟨rfl,rfl,C⟩) fun c Z h=>?_)
       . obtain ⟨t,D⟩:=c;obtain ⟨h2,l,j⟩:=h;dsimp only at h2 l
         extract_lets
         refine Z4 (ug L j (show lo+D<n by lia) (by lia) fun b=>?_)
         cases b with
         |true=>exact Z5 ⟨rfl,(by show 1<=D;lia),(by show D<=r;lia),j⟩
         |false=>exact Z5 ⟨rfl,(by show D+1=i+1;lia),j⟩
       . obtain⟨h2,l,j⟩:=h;exact⟨h2,by lia,by lia,j⟩
       . obtain⟨t,D⟩:=c;obtain⟨h2,l,j,x⟩:=h;dsimp only at h2 l j;cases h2;exact Z5 (q _ _ l j x)
      split
      . exact Z4 (ux x fun o C=>v () _ C)
      . exact v () _ x
   clear_value U
   split
   . refine Z4 (ug L x (show lo < n by lia) (by lia) fun b=>?_)
     cases b with
     |true=>exact Z5 (q _ _ l j x)
     |false=>exact Z4 (ux x fun o C=>y () _ C)
   . exact y () _ x
theorem MY(L:vB M A E s S κ){st:SortSt}(g:Like S κ n pe st){r k}(H:lo+r<=n){Q:Bool->SortSt->Prop}(q:∀f,Like S κ n pe f->Q true f):wpS M A E s (binarySort' lo r k) Q st:=by
 delta binarySort'
 walk_at "binarySort"
 refine Z4 (wpS_mono (wpS_forRange (I:=fun _ c f=>c.1=none/\Like S κ n pe f) (fun k c f hk B h=>?_) (fun c f h=>h) ⟨rfl,g⟩) fun c t h=>?_)
 . obtain ⟨h1,h2⟩:=h
   extract_lets G D
   refine Z4 (wpS_mono (wpS_forRange (I:=fun _ c f=>c.1=none/\c.2.2<=k/\Like S κ n pe f) (Q:=fun c f=>c.1=none/\Like S κ n pe f) (fun i c f _ _ h=>?_) (fun c f h=>⟨h.1,h.2.2⟩) ⟨rfl,ZM _,h2⟩) fun c t h=>?_)
   . obtain ⟨o,l,p⟩:=c;obtain ⟨m,y,j⟩:=h;dsimp only at m y
     extract_lets
     split
     . exact Z5 ⟨rfl,j⟩
     rename_i v;have x:¬l>=p:=v;refine Z4 (ug L j (show lo+k<n by lia) (show lo+(l+p)/2<n by lia) fun b=>?_)
     cases b with
     |true=>exact Z5 ⟨rfl,(by show(l+p)/2<=k;lia),j⟩
     |false=>exact Z5 ⟨rfl,y,j⟩
   . obtain⟨o,l,p⟩:=c;obtain⟨m,j⟩:=h;dsimp only at m;cases m;exact Z4 (Je j fun z C=>Z5 ⟨rfl,C⟩)
 . obtain⟨o,u⟩:=c;obtain⟨m,j⟩:=h;dsimp only at m;cases m;exact Z5 (q _ j)
theorem Ch.mod(j:∀p,(f p).1=p.1/\(f p).2.1=p.2.1):∀{ps}{x e i},Ch x ps e->Ch x (ps.modify i f) e
 |[],_,_,i,h=>by cases i<;>exact h
 |p::r,x,e,0,h=>by rw[List.modify_zero_cons];exact⟨(j p).1.trans h.1,(j p).2▸h.2.1,(j p).2▸h.2.2⟩
 |p::r,x,e,i+1,h=>by rw[List.modify_succ_cons];exact⟨h.1,h.2.1,Ch.mod j h.2.2⟩
def Good.like{st:SortSt}(g:Good S κ n lo st):Like S κ n (pendingOf st) st:=⟨g.kd,g.fa,g.sz,g.al,rfl⟩
def Like.good{st f:SortSt}(g:Good S κ n lo st)(h:Like S κ n (pendingOf st) f):Good S κ n lo f:=⟨h.kd,h.fa,h.sz,h.al,(by rw[h.pe];exact g.ch),g.le⟩
def G4 (L:vB M A E s S κ) {st:SortSt} (g:Good S κ n 0 st) {Q:Unit->SortSt->Prop} (q:∀ j,kindOf j=κ->failedOf j=none->(arrOf j).size=n->All S (arrOf j)->Q () j):wpS M A E s sortRuns' Q st:=by
 delta sortRuns'
 walk_at "sortRuns"
 refine Z4 (wpS_get ?_)
 extract_lets f o lo0
 have hs:f=n:=g.sz
 clear_value o f
 subst hs;refine Z4 (wpS_mono (wpS_forRange (I:=fun _ c j=>c.1=none/\Good S κ f c.2 j) (Q:=fun c j=>c.1=none/\∃e,Good S κ f e j) (fun i c j _ _ h=>?_) (fun c j h=>⟨h.1,_,h.2⟩) ⟨rfl,g⟩) fun c st1 h=>?_)
 . obtain ⟨D,lo⟩:=c;obtain ⟨h1,h2⟩:=h
   extract_lets l O frc nf
   have e0:l=lo:=rfl
   clear_value l
   subst e0;split
   . exact Z5 ⟨rfl,_,h2⟩
   rename_i hlt;refine Z4 (Gf L h2.like (by omega) (by omega) fun k st2 h3 h4 h5=>?_)
   have g2:=h5.good h2;dsimp -zeta only
   extract_lets fnd
   have C:∀ u m z,1<=m->l+m<=f->Good S κ f l z->wpS M A E s (O u m) (fun r j=>match r with | .done c=>c.1=none/\∃ e,Good S κ f e j | .yield c=>c.1=none/\Good S κ f c.2 j) z:=fun u m z hm Y g3=>by
    unfold O;refine Z4 (wpS_get ?_)
    extract_lets nlo G
    have x:∀u v,Good S κ f l v->wpS M A E s (G u) (fun r j=>match r with|.done c=>c.1=none/\∃e,Good S κ f e j|.yield c=>c.1=none/\Good S κ f c.2 j) v:=fun u v H=>by unfold G;exact Z4 (wpS_modify (Z5 ⟨rfl,H.kd,H.fa,H.sz,H.al,(by show Ch 0 ((pendingOf v).push (l,m,0)).toList (l+m);simpa using H.ch.snoc (k:=0) hm),Y⟩))
    clear_value G
    split
    . extract_lets pw
      clear_value pw
      refine Z4 (wpS_mono (wpS_forRange (I:=fun _ c j=>c.1=none/\Good S κ f l j) (Q:=fun c j=>c.1=none/\Good S κ f l j) (fun i c j _ _ h=>?_) (fun c j h=>h) ⟨rfl,g3⟩) fun c v h=>?_)
      . obtain ⟨B,t⟩:=h;refine Z4 (wpS_get ?_)
        extract_lets p
        split
        . rename_i y;split
          . exact Z5 ⟨rfl,t⟩
          have hp1:p.size>1:=by
           by_cases V:p.size>1
           . exact V
           . rw[if_neg V]at y;cases y
          refine Z4 (ET L t (by show p.size-2+1<p.size;omega) fun J Z _=>?_)
          exact Z5 ⟨rfl,Z⟩
        . exact Z5 ⟨rfl,t⟩
      . obtain ⟨D,u2⟩:=c;obtain ⟨B,t⟩:=h;dsimp only at B;cases B;refine Z4 (wpS_modify (x () _ ⟨t.kd,t.fa,t.sz,t.al,?_,t.le⟩));show Ch 0 ((pendingOf v).modify _ _).toList l;rw [Array.toList_modify];refine t.ch.mod ?_
        rintro⟨p1,p2,p3⟩
        exact⟨rfl,rfl⟩
    . exact x () _ g3
   clear_value O
   split
   . refine Z4 (wpS_lift (wpAny_rule ⟨rfl,?_⟩));refine Z4 (MY L g2.like (by show l+min (f - l) o<=f;omega) fun z B=>?_)
     rename_i X;have hmr':k<o:=X;rw[if_neg (by decide)]
     exact wpS_mono (C () _ _ (by show 1<=min (f-l) o;omega) (by show l+min (f-l) o<=f;omega) (B.good g2)) fun r j h=>by cases r<;>exact h
   . exact wpS_mono (C () _ _ (by show 1<=k;omega) (by show l+k<=f;omega) g2) fun r j h=>by cases r<;>exact h
 . obtain ⟨D,lo⟩:=c;obtain ⟨h1,e,h2⟩:=h;dsimp only at h1;cases h1;refine Z4 (wpS_mono (wpS_forRange (I:=fun _ c j=>c.1=none/\Good S κ f e j) (Q:=fun c j=>c.1=none/\Good S κ f e j) (fun i c j _ _ h=>?_) (fun c j h=>h) ⟨rfl,h2⟩) fun c v h=>?_)
   . obtain ⟨B,t⟩:=h
     extract_lets cc
     refine Z4 (wpS_get ?_)
     extract_lets p i0 bf U
     have hi1:U<=i0:=by dsimp only[U];split<;>omega
     split
     . exact Z5 ⟨rfl,t⟩
     rename_i V;have hi0:i0=p.size-2:=rfl;refine Z4 (ET L t (by show U+1<p.size;omega) fun J Z _=>?_)
     exact Z5 ⟨rfl,Z⟩
   . obtain⟨D,u2⟩:=c;obtain⟨B,t⟩:=h;dsimp only at B;cases B;exact Z5 (q _ t.kd t.fa t.sz t.al)
end
end So
namespace So
open PySem PyProof.Rows PySem.W
variable {A:Around} {s:Yc} {S:Keyed->Prop} {i n j:Nat} {a b:Array Keyed} {x:Keyed} {f:Nat×Nat×Nat->Nat×Nat×Nat} {vs:Yg Yb} {P:PySem.Fin->Yc->Prop}
def TupI (h:Heap) (v:Value):Prop:=∃a o xs n i t,v=.ref a/\h.get? a=some o/\o.cls=.type "tuple"/\o.data=.seq xs n/\xs[0]?=some (.int i t)/\∀x∈xs.toList,∃i t,x=Value.int i t
def TupI.keep {h h'} {v} (k:∀b o,h.get? b=some o->o.cls=.type "tuple"->h'.get? b=some o) (t:TupI h v):TupI h' v:=by obtain⟨a,o,xs,n,i,t,l,j,f,r⟩:=t;exact⟨a,o,xs,n,i,t,l,k a o j f,f,r⟩
section
variable {prog:Program} {w:World} {E:Yb->Yc->Prop} {b fin:Bool}
def Iu(c) {p q} {Q:Bool->Yc->Prop} (l:∃i t,p=Value.int i t) (f:∃i t,q=Value.int i t) (h:∀b,Q b s):wpAny (model prog w) A (oneLt' c p q) Q E s:=by
 obtain⟨i,t,rfl⟩:=l;obtain⟨j,u,rfl⟩:=f;cases c with
 |true=>exact oneLt_int (h _)
 |false=>exact kat_one _ _ (PyProof.Rows.lt_int (h _))
theorem EU{Q:Bool->Yc->Prop}(h:∀b,Q b s):∀l i,(∀p∈l,(∃i t,p.1=Value.int i t)/\∃i t,p.2=Value.int i t)->KatLex prog w A b fin Q l i s
 |[],_,_=>kat_nil (h _)
 |(p,q)::r,i,m=>by have f:=m _ Zo;obtain⟨x,t,v⟩:=f.1;obtain⟨y,u,o⟩:=f.2;subst v;subst o;refine kat_cons (wpAny_eqBool_int ?_);exact kat_go (fun _=>kat_yes (EU h r (i+1) fun z j=>m z (Zp _ j))) fun _=>kat_no (Iu _ ⟨x,t,rfl⟩ ⟨y,u,rfl⟩ h)
def Gr(f:∀p,S p->TupI s.heap p.1):vB (model prog w) A E s S (tuples' b):=fun x y st Q r o kd q=>by
 obtain⟨I,C,xs,G,_,_,ex,u,_,dx,_,l⟩:=f x r;obtain⟨H,B,ys,D,_,_,v,t,_,z,_,j⟩:=f y o;rw[lt'_eq];refine Z4 (wpS_get ?_);rw[kd,ex,v];refine Z4 (wpS_lift (wpAny_attempt (kat_lt u dx t z (EU (fun c=>⟨rfl,Z5 (q c)⟩) _ _ fun p m=>?_))))
 obtain⟨p1,p2⟩:=p;exact⟨l _ (List.of_mem_zip m).1,j _ (List.of_mem_zip m).2⟩
theorem yS{h}:∀{vs},(∀v∈vs,TupI h v)->∃fs,KatTups h vs fs/\fs.length=vs.length/\∀f∈fs,∃i t,f=Value.int i t
 |[],_=>⟨[],.nil,rfl,fun _ m=>nomatch m⟩
 | v :: vs,m=>by
  obtain⟨fs,h1,h2,j⟩:=yS fun u z=>m u (Zp _ z)
  obtain⟨a,o,xs,n,i,t,rfl,r,q,p,l,s⟩:=m _ Zo;exact⟨.int i t::fs,.cons r q p l h1,Z8 (· + 1) h2,fun f z=>by
   rcases Zt.mp z with rfl|z
   . exact⟨i,t,rfl⟩
   . exact j f z⟩
theorem IJ {a} (y:s.heap.get? a=some (seqObj "list" vs.toArray n)) (ht:∀v∈vs,TupI s.heap v) (Z:vs.length<=sizeLine)
 (h:∀q,q.size=vs.length->(∀v∈q.toList,v∈vs)->P (.done (.ret .none)) { s with heap:=sortedHeap s.heap a vs q }):wpAny (model prog w) A (Builtin.«list.sort» ⟨[.ref a],[]⟩) P E s:=by
 rw[list_sort_plain];have la:=ZT y;obtain⟨C,G⟩:∃C,(s.heap.update a (Obj.mapSeq fun _=>#[])).get? a=some (seqObj "list" #[] C):=⟨_,get?_update_seq y fun _=>#[]⟩
 have z0:vs.toArray.size<=sizeLine:=by simpa using Z
 refine Z2 (listItems_at y rfl (Z2 (listUpdate_at y rfl (Z2 (seqEpoch_at G rfl (Z2 (wpAny_newTuple (Z2 (wpAny_newList (wpAny_holding ?_)))))))
  z0 (Nat.zero_le _))))
 let u:Heap:=((s.heap.update a (Obj.mapSeq fun _=>#[])).push (seqObj "tuple" vs.toArray 0)).push (seqObj "list" #[] 0)
 change wpAny _ _ _ P E { s with heap:=u }
 have D:u.get? a=some (seqObj "list" #[] C):=by exact ZS _ (ZS _ G)
 have I:∀v∈vs,TupI u v:=fun v m=>(ht v m).keep fun b o g c=>by
  refine ZS _ (ZS _ ?_);rw[Heap.get?_update_ne _ _ _ _ fun z=>?_]
  . exact g
  . subst z;rw[y]at g;cases g;exact absurd (Value.type.inj c) (by decide)
 extract_lets Y B
 have j:∀f,wpAny (model prog w) A ((if vs.toArray.size<2 then pure ()else sortRuns').run (SortSt.mk' f (vs.toArray.zip vs.toArray) #[] 7 none)) (fun r s'=>s'={ s with heap:=u }/\failedOf r.2=none/\(arrOf r.2).size=vs.length/\∀p∈(arrOf r.2).toList,p.2∈vs) E { s with heap:=u }->wpAny (model prog w) A (B f) P E { s with heap:=u }:=fun f hr=>by
  unfold B;refine Z2 (wpAny_mono hr ?_ fun _ _ e=>e)
  rintro⟨⟨⟩,st⟩ s' ⟨rfl,hf,hn,hm⟩
  dsimp -zeta only
  extract_lets x
  have J:x.size=vs.length:=by rw[Array.size_map];exact hn
  refine Z2 (seqEpoch_at D rfl (Z2 (listUpdate_at D rfl ?_ (Nat.zero_le _) (by rw[J];lia))))
  rw[hf];rw[if_neg (by simp)]
  refine Z3 (h x J fun v m=>?_)
  have H:=m;rw[Array.toList_map]at H;obtain⟨p,X,rfl⟩:=Zr.mp H;exact hm p X
 clear_value B
 have l:∀p∈(vs.toArray.zip vs.toArray).toList,p.1∈vs/\p.2∈vs:=fun p m=>by rw[Array.toList_zip]at m;exact List.of_mem_zip m
 split
 . rename_i h2;refine Z2 (Z3 (j _ ?_));rw[if_pos h2,StateT.run_pure];exact Z3 ⟨rfl,rfl,(by show(vs.toArray.zip vs.toArray).size=_;simp),fun p m=>(l p m).2⟩
 . rename_i h2;obtain ⟨fs,U,O,L⟩:=yS I;refine Z2 (kat_kind (T:=Value.type "int") U (by rw [O];simp at h2;lia) (fun v m=>?_) (by rfl) (j _ ?_))
   . obtain⟨i,t,rfl⟩:=L v m;exact Looks.of_pure rfl
   . rw [if_neg h2];refine wpAny_mono (G4 (S:=fun p=>TupI u p.1/\p.2∈vs) (n:=vs.length) (st:=SortSt.mk' _ (vs.toArray.zip vs.toArray) #[] 7 none) (Q:=fun _ st=>failedOf st=none/\(arrOf st).size=vs.length/\∀ p∈(arrOf st).toList,p.2∈vs) (Gr fun p hp=>hp.1) ⟨rfl,rfl,(by show (vs.toArray.zip vs.toArray).size=_;simp),fun i p e=>?_,rfl,Nat.zero_le _⟩ fun V _ h3 h4 h5=>⟨h3,h4,fun p m=>?_⟩) (fun r s' z=>⟨z.1,z.2⟩) fun _ _ e=>e
     . have:=l p (by rw [Array.mem_toList_iff];exact Array.mem_of_getElem? e)
       exact⟨I _ this.1,this.2⟩
     . obtain⟨i,hi,e⟩:=List.mem_iff_getElem.mp m;exact(h5 i p (by rw[<- Array.getElem?_toList,Zx hi,e])).2
def sorted_t{l}{Q:Yb->Yc->Prop}(G:s.heap.IsList l vs.toArray)(D:∀v∈vs,TupI s.heap v)(u:vs.length<=sizeLine)
 (h:∀h' a f e,(∀b o,s.heap.get? b=some o->h'.get? b=some o)->s.heap.get? a=none->s.heap.objs.size<=a->h'.get? a=some (seqObj "list" f e)->f.size=vs.length->(∀v∈f.toList,v∈vs)->Q (.ref a) { s with heap:=h' }):wpAny (model prog w) A (call (.builtin "sorted") [.ref l]) Q E s:=by
 refine Calls.call_function_entry kind_sorted plain_sorted entry_sorted (args_sorted1 _) ?_
 let h1:Heap:=(s.heap.push (seqObj "list" #[] 0)).update s.heap.objs.size (Obj.mapSeq (· ++ vs.toArray))
 have t:∀b o,s.heap.get? b=some o->h1.get? b=some o:=fun b o g=>by rw[Heap.get?_update_ne _ _ _ _ (ZI (ZT g))];exact ZS _ g
 have p:h1.objs.size=s.heap.objs.size+1:=by dsimp only[h1];rw[Heap.size_update,size_push']
 have H:∀R E,R vs { s with heap:=h1 }->wpAny (model prog w) A.in1 (collect (([.ref l]:Yg Yb).headD .none)) R E s:=fun R E q=>collect_list G q u
 clear_value h1
 have j:(h1.push (seqObj "list" vs.toArray 0)).get? h1.objs.size=some (seqObj "list" vs.toArray 0):=ZW _ rfl;have x:∀v∈vs,TupI (h1.push (seqObj "list" vs.toArray 0)) v:=fun v m=>(D v m).keep fun b o g _=>ZS _ (t b o g)
 have y:∀R E,(∀h' f e,(∀b o,h1.get? b=some o->h'.get? b=some o)->h'.get? h1.objs.size=some (seqObj "list" f e)->f.size=vs.length->(∀v∈f.toList,v∈vs)->R .none { s with heap:=h' }) ->
  wpAny (model prog w) A.in1 (call (.builtin "list.sort") [.ref h1.objs.size]) R E { s with heap:=h1.push (seqObj "list" vs.toArray 0) }:=fun R E q=>by
  refine wpAny_call_entry slot_list_sort ⟨_,j,rfl⟩ entry_list_sort (IJ j x u fun f z1 z2=>⟨.none,rfl,?_⟩) (args_list_sort _)
  obtain⟨e,he⟩:=sortedHeap_at j;refine q _ f e (fun b o g=>?_) he z1 z2
  have r:=ZT g;rw[sortedHeap_old (ZI r) (by rw[size_push'];exact Nat.lt_succ_of_lt r)]
  exact ZS _ g
 unfold Builtin.«sorted»
 wp_walk using H _ _,y _ _
 intro h2 f e C he z1 z2;have B:s.heap.get? h1.objs.size=none:=by
  cases z:s.heap.get? h1.objs.size with
  |none=>rfl
  |some o=>exact absurd (ZT z) (by rw[p];exact Nat.not_lt.mpr (Nat.le_succ _))
 exact Z3 ⟨_,rfl,h h2 _ f e (fun b o g=>C b o (t b o g)) B (by rw[p];exact Nat.le_succ _) he z1 z2⟩
end
end So
namespace Sd
open PySem PySem.Spec PyProof.Rows
variable {prog:Program} {w:World} {A:Around} {s:Yc} {R:Result->Yc->Prop} {k N:Nat} {Q:Ye Yb->Yc->Prop} {l:Yd} {o:Obj} {Q3:Array Yb} {ps:Yg (Yb×Yb)}
theorem yd:entryFor table "dict.update.loop" = some Builtin.«dict.update.loop»:=entryFor_of_tree (by kernel_rfl)
def lY:plainId "dict.update.loop" = true:=by decide +kernel
section
variable {E:Yb->Yc->Prop}
def m9 {d I} {i} (h:wpAny (model prog w) A.in1 (Builtin.«dict.update.loop» ⟨[.ref d,.ref I,rawInt i,.none],[]⟩) (fun fin s'=>match fin with|.done f=>R (.ok f) s' | .again c=>c.quiet=true/\codeAny (model prog w) A c R s') (fun e s'=>R (.error e) s') s):codeAny (model prog w) A (.builtin "dict.update.loop" ⟨[.ref d,.ref I,rawInt i,.none],[]⟩) R s :=
 codeAny_builtin yd (by rw[Around.under_plainId lY];exact h)
def yM (h:Heap) (v k u:Value):Prop:=∃a o n,v=.ref a/\h.get? a=some o/\o.cls=.type "tuple"/\o.data=.seq #[k,u] n
def uG{v k u}{Q:Yg Yb->Yc->Prop}(p:yM s.heap v k u)(q:Q [k,u] s):wpAny (model prog w) A (Builtin.Dict.pairItems v) Q E s:=by
 obtain⟨a,o,n,rfl,g,c,e⟩:=p;have T:s.TypeIs (.ref a) "tuple":=⟨o,g,c⟩;unfold Builtin.Dict.pairItems
 wp_walk
 rw[e];exact Z3 (Z3 q)
def IA {xs} (y:A.handled=none) (r:s.heap.get? l=some o) (v:o.cls=.type "list") (f:o.data=.seq xs k) (t:o.dict=none)
 (q:∀h' tk,(∀b o,s.heap.get? b=some o->h'.get? b=some o)->Q none { s with heap:=h',toks:=tk }):wpAny (model prog w) A (getAttr? (.ref l) "keys") Q E s:=by
 obtain⟨c,z,B,x⟩:=o;simp only at v f t;subst v f t;obtain⟨p,g,d,tk,m⟩:=s;have T:∀j,(⟨p,g,d,j,m⟩:Yc).TypeIs (.ref l) "list":=fun _=>⟨_,r,rfl⟩
 have f1:=sub_AttributeError;have J:=F.slot_list_getattribute.lookup;have I:=F.slot_list_getattribute.bind (.ref l);have H:=am_list_getattr_none;have O:=T (tk+1);have C:∀Q E u,(∀h' tk e,Heap.NewAttrErr p h' e (.ref l) "keys"->E (.ref e) ⟨h',g,d,tk,m⟩)->wpAny (model prog w) A (call (.builtin "list.__getattribute__") ([.ref l]++[.str "keys" u])) Q E ⟨p,g,d,tk+1,m⟩:=fun Q E u h =>call_meets F.slot_list_getattribute (T _) am_entry_list_getattribute (F.args_list_getattribute_2 _ _) (meets_getattribute_miss_list l xs k x "keys" u (am_miss_of_fast (by decide +kernel)) (by decide) (by decide)) ⟨r,y,h⟩
 unfold getAttr? getAttrBy? getAttrBy
 wp_walk using C _ _ _
 intro h' j e n;obtain⟨G,D,he⟩:=n.there;have L:(⟨h',g,d,j,m⟩:Yc).TypeIs (.ref e) "AttributeError":=⟨_,he,rfl⟩;unfold getattributeRaised
 wp_walk
 exact q h' _ n.keeps
def Left(h0:Heap)(Q3:Array Value):Nat->List (Value×Value)->Prop
 |i,[]=>Q3[i]?=none
 |i,p::r=>(∃v,Q3[i]?=some v/\yM h0 v p.1 p.2)/\Left h0 Q3 (i+1) r
def oQ{d I}{h0}{J:Yg (Yb×Yb)->Heap->Prop}(hh:A.handled=none)(U:d≠I)(d2:l≠d)(d3:l≠I)(Y:h0.get? d=none)(V:h0.get? I=none)
 (same:∀r h h',J r h->(∀o,h.get? d=some o->h'.get? d=some o)->(∀b o,h0.get? b=some o->h'.get? b=some o)->J r h')
 (step:∀k v r(s:Yc)(Q:Unit->Yc->Prop),J ((k,v)::r) s.heap->(∀b o,h0.get? b=some o->s.heap.get? b=some o)->(∀h' tk,J r h'->Heap.SameBut d s.heap h'->Q () { s with heap:=h',toks:=tk })->wpAny (model prog w) A.in1 (dictSet d k v) Q (fun e s'=>R (.error e) s') s) :
 ∀ps i j s,Left h0 Q3 i ps->s.heap.IsListIter I l i->s.heap.IsList l Q3->J ps s.heap->(∀b o,h0.get? b=some o->s.heap.get? b=some o) ->
 (∀h' tk,(∀b o,b≠d->b≠I->s.heap.get? b=some o->h'.get? b=some o)->J [] h'->R (.ok (.ret .none)) { s with heap:=h',toks:=tk })->codeAny (model prog w) A (.builtin "dict.update.loop" ⟨[.ref d,.ref I,rawInt j,.none],[]⟩) R s:=by
 have G:=hh;intro ps
 induction ps with
 |nil =>intro i j s f S B L hk H;refine m9 (Z2 (wpAny_pyNext_list_end G S B f fun h' x=>Z2 (Z3 (Z3 (H h' s.toks (fun b o _ C e=>x b o C e) (same _ _ _ L (fun o e=>x d o U e) fun b o e=>x b o (fun z=>by subst z;rw[V]at e;cases e) (hk b o e)))))))
 |cons p ps ih =>
  intro i j s f S B L hk H;obtain⟨⟨v,hv,hp⟩,f⟩:=f;refine m9 (Z2 (wpAny_pyNext_list_item S B hv fun h1 O u=>?_))
  have y:∀b o,h0.get? b=some o->h1.get? b=some o:=fun b o e=>(u.2 b fun z=>by subst z;rw[V]at e;cases e).trans (hk b o e)
  have J1:=same _ _ _ L (fun o e=>(u.2 d U).trans e) y
  have P1:yM h1 v p.1 p.2:=by obtain⟨a,o,m,e1,e2,e3⟩:=hp;exact⟨a,o,m,e1,y a o e2,e3⟩
  refine Z2 (wpAny_holding (Z2 (wpAny_tryCatch (uG P1 ?_))));refine wpAny_holding (step _ _ _ { s with heap:=h1 } _ J1 y fun h2 tk J2 t=>?_)
  have k2:∀b o,h0.get? b=some o->h2.get? b=some o:=fun b o e=>(t.2 b fun z=>by subst z;rw[Y]at e;cases e).trans (y b o e)
  refine Z3 ⟨plainId_quiet lY _,?_⟩;exact ih (i+1) (j+1) { s with heap:=h2,toks:=tk } f (O.at fun o e=>(t.2 I U.symm).trans e) (B.at fun o e=>(t.2 l d2).trans ((u.2 l d3).trans e)) J2 k2 fun h' D Z q=>H h' D (fun b o X C e=>Z b o X C ((t.2 b X).trans ((u.2 b C).trans e))) q
abbrev IC:Obj:={ cls:=.type "dict",data:=.dict #[] }
def xW {d} {h0} {J:Yg (Yb×Yb)->Heap->Prop} {B} (I:A.handled=none) (d2:l≠d) (L:s.heap.get? d=some IC) (t:s.heap.get? l=some o) (D:o.cls=.type "list") (j:o.data=.seq Q3 k) (y:o.dict=none)
 (V:h0.get? d=none) (p:∀b o,h0.get? b=some o->s.heap.get? b=some o)
 (same:∀r h h',J r h->(∀o,h.get? d=some o->h'.get? d=some o)->(∀b o,h0.get? b=some o->h'.get? b=some o)->J r h')
 (step:∀k v r(A:Around)(s:Yc)(Q:Unit->Yc->Prop)(E:Yb->Yc->Prop),A.units<=B->J ((k,v)::r) s.heap->(∀b o,h0.get? b=some o->s.heap.get? b=some o)->(∀h' tk,J r h'->Heap.SameBut d s.heap h'->Q () { s with heap:=h',toks:=tk })->wpAny (model prog w) A (dictSet d k v) Q E s)
 (hB:A.in1.units<=B) (Z:Left h0 Q3 0 ps) (hJ:J ps s.heap)
 (q:∀h' tk,(∀b o,b≠d->s.heap.get? b=some o->h'.get? b=some o)->J [] h'->Q (some .none) { s with heap:=h',toks:=tk }):wpAny (model prog w) A (callSpecial? (.ref d) "__init__" [.ref l]) Q E s:=by
 have G:s.TypeIs (.ref d) "dict":=⟨_,L,rfl⟩;have TL:s.TypeIs (.ref l) "list":=⟨_,t,D⟩;have C:=I;have U:∀(Q:Ye Yb->Yc->Prop) E,(∀h' tk,(∀b o,s.heap.get? b=some o->h'.get? b=some o)->Q none { s with heap:=h',toks:=tk })->wpAny (model prog w) A.in1 (getAttr? (.ref l) "keys") Q E s:=fun Q E q=>IA C t D j y q
 have S:∀Q E,Q (d,[.ref l]) s->wpAny (model prog w) A.in1 (Builtin.Dict.selfAndRest "__init__" ⟨[.ref d,.ref l],[]⟩) Q E s:=fun Q E q=>by unfold Builtin.Dict.selfAndRest;exact Z2 (wpAny_notOrdered_dict G (Z3 q))
 refine wpAny_callSpecial?_slot G PySem.F.kt_called_dict.init (wpAny_call (codeAny_call_builtin PySem.F.kt_called_dict.init.plain F.entry_dict_init (PySem.F.kt_called_dict.init.check _ _ _ _ _ _ _ _ G (F.args_dict_init_2 _ _) ?_)));unfold Builtin.«dict.__init__»;refine Z2 (S _ _ ?_);unfold Builtin.Dict.updateCommon;unfold Builtin.Dict.updateFrom
 wp_walk using U _ _
 intro h1 O f;rw[if_pos (show(none:Ye Yb).isNone=true from rfl)]
 have m:h1.IsList l Q3:=⟨o,f _ _ t,D,k,j⟩
 wp_walk using wpAny_pyIter_list m
 refine⟨plainId_quiet lY _,?_⟩;have x:=ZI (ZT (f _ _ L));have u:=ZI (ZT (f _ _ t));have X:h0.get? h1.objs.size=none:=by
  cases z:h0.get? h1.objs.size with
  |none=>rfl
  |some o=>exact absurd (ZT (f _ _ (p _ _ z))) (ZJ _)
 have H:∀b o,h0.get? b=some o->(h1.push { cls:=.type "list_iterator",data:=.fields #[.ref l,rawInt 0] }).get? b=some o:=fun b o e=>ZS _ (f _ _ (p b o e))
 exact oQ I x d2 u V X same (fun k v r s Q=>step k v r _ s Q _ hB) ps 0 0 _ Z ⟨_,ZW _ rfl,rfl,rfl⟩ (m.push _) (same _ _ _ hJ (fun o e=>ZS _ (f _ _ e)) H) H fun h' tk Y=>q h' tk fun b o b1 e=>Y b o b1 (ZI (ZT (f _ _ e))) (ZS _ (f _ _ e))
def dict_pairs {J:Yg (Yb×Yb)->Heap->Prop} {B} {Q:Yb->Yc->Prop} (C:A.handled=none) (m:s.heap.get? l=some o) (D:o.cls=.type "list") (f:o.data=.seq Q3 k) (j:o.dict=none)
 (same:∀r h h',J r h->(∀o,h.get? s.heap.objs.size=some o->h'.get? s.heap.objs.size=some o)->(∀b o,s.heap.get? b=some o->h'.get? b=some o)->J r h')
 (step:∀k v r(A:Around)(s1:Yc)(Q:Unit->Yc->Prop)(E:Yb->Yc->Prop),A.units<=B->J ((k,v)::r) s1.heap->(∀b o,s.heap.get? b=some o->s1.heap.get? b=some o)->(∀h' tk,J r h'->Heap.SameBut s.heap.objs.size s1.heap h'->Q () { s1 with heap:=h',toks:=tk })->wpAny (model prog w) A (dictSet s.heap.objs.size k v) Q E s1)
 (H:A.in1.in1.units<=B) (y:Left s.heap Q3 0 ps) (G:J ps (s.heap.push IC))
 (q:∀h' tk,(∀b o,s.heap.get? b=some o->h'.get? b=some o)->J [] h'->Q (.ref s.heap.objs.size) { s with heap:=h',toks:=tk }):wpAny (model prog w) A (call (.type "dict") [.ref l]) Q E s:=by
 have t:=ZT m;have p:s.heap.get? s.heap.objs.size=none:=by
  cases z:s.heap.get? s.heap.objs.size with
  |none=>rfl
  |some o=>exact absurd (ZT z) (ZJ _)
 refine Sw.made PySem.F.kt_called_dict (PySem.F.kt_typeCall_dict_1 _) (wpAny_call (PySem.kt_code_dict_new _ ⟨⟨_,ZW _ rfl,rfl⟩,?_⟩));exact xW C (ZI t) (ZW _ rfl) (ZS _ m) D f j p (fun b o e=>ZS _ e) same step H y G fun h' tk u x=>⟨rfl,q h' tk (fun b o e=>u b o (ZI (ZT e)) (ZS _ e)) x⟩
end
end Sd
namespace Sn
open PySem PySem.Spec PyProof.Rows
variable {prog:Program} {w:World} {A:Around} {s:Yc} {T:String} {args:Yg (Bool×Sem Yb)} {kw:Yg (Str×Yb)} {Q:Yb->Yc->Prop} {v:Yb} {t:Tok}
section
variable {E:Yb->Yc->Prop}
def N4{newId initId}{args}(m:TypeCalled T newId initId)(ct:checkTypeCall T ⟨args,kw⟩=pure ())
 (h:wpAny (model prog w) A.in1 (call (.builtin newId) (.type T::args) kw) (fun f j=>j.TypeIs f T/\wpAny (model prog w) A.in1 (callSpecial? f "__init__" args kw) (fun r l=>r=some .none/\Q f l) E j) E s):wpAny (model prog w) A (call (.type T) args kw) Q E s:=by
 obtain⟨p,u,⟨c,tl,t⟩,mb,_,o,_⟩:=m;refine wpAny_call (codeAny_of_tree (Z3 ⟨Code.quiet_builtin _ (by decide +kernel),codeAny_builtin F.entry_type_call ?_⟩))
 rw[Around.under_plain (weight_type_call_type T args kw) (units_type_call_type T args kw)];unfold Builtin.«type.__call__»
 wp_walk using wpAny_mono h
 . rintro f j ⟨hT,hi⟩
   wp_walk using wpAny_mono hi
   . rintro r l ⟨rfl,q⟩
     wp_walk
     exact q
   . exact fun _ _ e=>e
 . exact fun _ _ e=>e
noncomputable abbrev en1 (it:Addr):Obj:={ cls:=.type "enumerate",data:=.fields #[.none,.bool false,.ref it,rawInt 1,.none,.none] }
theorem GH (a) (t):checkTypeCall "enumerate" ⟨[a],[("start",.int 1 t)]⟩=pure ():=by kernel_rfl
theorem IB (a) (t):checkBuiltinCall "enumerate.__new__" ⟨[.type "enumerate",a],[("start",.int 1 t)]⟩=pure ():=by kernel_rfl
def D8:plainId "enumerate.__new__" = true:=by decide +kernel
def L7{oI}(j:∀A E Q,Q (.ref s.heap.objs.size) { s with heap:=s.heap.push oI }->wpAny (model prog w) A (pyIter v) Q E s)
 (q:Q (.ref (s.heap.objs.size+1)) { s with heap:=(s.heap.push oI).push (en1 s.heap.objs.size) }):wpAny (model prog w) A (call (.builtin "enumerate.__new__") [.type "enumerate",v] [("start",.int 1 t)]) Q E s:=by
 refine wpAny_call (codeAny_call_builtin D8 F.entry_enumerate_new (wpAny_of_eq (IB v t) ?_));have sub:=sub_enumerate;obtain⟨f,g,d,tk,l⟩:=s;unfold Builtin.«enumerate.__new__»;have it:∀Q E,Q (.ref f.objs.size) ⟨f.push oI,g,d,tk,l⟩->wpAny (model prog w) A.in1 (pyIter v) Q E ⟨f,g,d,tk,l⟩:=fun Q E=>j A.in1 _ Q
 wp_walk
 refine wpAny_stack_any fun st=>Dl.pure_bool ?_ ?_<;>wp_walk using it _ _<;>rw[Heap.size_push]<;>exact q
end
variable {X9:Yg (Ye Str×Sem Yb)}
section
variable {E:Yb->Yc->Prop}
theorem Iv (a v) (t):argsOk "object.__init__" ⟨[a,v],[("start",.int 1 t)]⟩:=by unfold argsOk;kernel_rfl
def IP {e} {Q:Ye Yb->Yc->Prop} (j:s.TypeIs (.ref e) "enumerate") (q:Q (some .none) s):wpAny (model prog w) A (callSpecial? (.ref e) "__init__" [v] [("start",.int 1 t)]) Q E s:=by
 have f:=PySem.F.called_enumerate;have p:=f.init.lookup;have r:=f.init.bind (.ref e);have o:=f.made;obtain⟨m,g,d,tk,l⟩:=s;unfold callSpecial?
 wp_walk
 refine codeAny_call_builtin f.init.plain F.entry_object_init (f.init.check _ _ _ _ _ _ _ _ j (Iv _ v t) ?_);unfold Builtin.«object.__init__»
 wp_walk
 exact q
def enum1_call{oI}(l:oI.isFreed=false)(f:∀A E Q,Q (.ref s.heap.objs.size) { s with heap:=s.heap.push oI }->wpAny (model prog w) A (pyIter v) Q E s)
 (h:∀n h',n=s.heap.objs.size->IsEnum h' (n+1) n 1 .none->h'.get? n=some oI->(∀c o,s.heap.get? c=some o->h'.get? c=some o)->Q (.ref (n+1)) { s with heap:=h' }):wpAny (model prog w) A (call (.type "enumerate") [v] [("start",.int 1 t)]) Q E s:=by
 have sz:(s.heap.push oI).objs.size=s.heap.objs.size+1:=Heap.size_push _ _;have j:((s.heap.push oI).push (en1 s.heap.objs.size)).get? (s.heap.objs.size+1)=some (en1 s.heap.objs.size):=by rw[<- sz];exact ZW _ rfl
 refine N4 PySem.F.called_enumerate (GH v t) (L7 f ⟨⟨_,j,rfl⟩,IP ⟨_,j,rfl⟩ ⟨rfl,h _ _ rfl j (ZS _ (ZW _ l)) fun c o e=>ZS _ (ZS _ e)⟩⟩)
variable {M:Model} {env:Env}
def rW{pos}(f:args.any (·.1)=false)(m:X9.any (·.1.isNone)=false)
 (h:wpAny M A (evalArgs (.type T) true args X9) (fun a j=>wpAny M A (call (.type T) a.pos a.kw) Q E j) E s):wpAny M A (callWith pos (.type T) [] args X9) Q E s:=by
 unfold callWith;refine Z2 (wpAny_holding (wpAny_mono h (fun a j l=>Z2 (wpAny_standAt ?_)) fun _ _ x=>x))
 simp only[f,m];exact Z2 (Z3 (Z2 (wpAny_mono l (fun r s₂ o=>Z2 (wpAny_holding (wpAny_point (Z3 o)))) fun _ _ x=>x)))
def call1K {func a} {j} {pos p1 p2} (he:eval (.Call func [a] [⟨some "start",.Constant (.int 1) j p1,p2⟩] pos) env=(do callWith pos (<- eval func env) [] (backTo pos (starEach [a] env)) (backToKw pos (keywordEach [⟨some "start",.Constant (.int 1) j p1,p2⟩] env))):=by rfl)
 (o:starEach [a] env=(false,eval a env)::starEach [] env:=by rfl)
 (h:wpAny M A (eval func env) (fun f m=>f=.type T/\wpAny M A (spliced (backTo pos (starEach [a] env))) (fun vs l=>∀t tk,wpAny M A (call (.type T) vs [("start",.int 1 t)]) Q E { l with toks:=tk }) E m) E s):wpAny M A (eval (.Call func [a] [⟨some "start",.Constant (.int 1) j p1,p2⟩] pos) env) Q E s:=by
 rw[he];refine Z2 (wpAny_mono h (fun f m z=>?_) fun _ _ x=>x)
 obtain⟨rfl,z⟩:=z;rw[o]at z ⊢;refine rW rfl rfl (evalArgs_kwB rfl (wpAny_mono z (fun vs l y=>?_) fun _ _ x=>x))
 show wpAny M A (do let v <- (do let v <- eval (.Constant (.int 1) j p1) env;standAt pos;pure v);return v::(<- holding [v] (pure []))) _ _ l
 refine Z2 (Z2 (wpAny_Constant_int ?_));exact Z2 (wpAny_standAt (Z3 (Z2 (wpAny_holding (Z3 (Z3 (y _ _)))))))
end
end Sn
namespace Sx
open PySem PySem.Spec PyProof.Rows
open PySem.W (Looks)
variable {K:ZA} {a:Yd} {Q:Yb->Yc->Prop}
section
variable {prog:Program} {w:World} {A:Around} {E:Yb->Yc->Prop} {s:Yc}
def IY {C} {ox} (X:K.In s.heap) (g:s.heap.get? a=some ox) (m:ox.cls=.ref C) (l:W.mroIn K C (.type "object")=some true) (q:Q .notImplemented s):wpAny (model prog w) A (call (.builtin "object.__eq__") [.ref a,.none]) Q E s:=by
 have p:Looks (model prog w) s.heap (typeOf (.ref a)) (.ref C):=by rw[<- m];exact(Looks.ld g).andThen .now
 have o:Looks (model prog w) s.heap (isSubtype (.ref C) (.type "object")) true:=W.looks_mroIn X l;refine wpAny_call (codeAny_call_builtin F.slot_object_eq.plain F.cmpEntry_eq ?_);obtain⟨j,gg,d,tk,f⟩:=s;have ck:∀Q E,Q () ⟨j,gg,d,tk,f⟩->wpAny (model prog w) A.in1 (checkBuiltinCall "object.__eq__" ⟨[.ref a,.none],[]⟩) Q E ⟨j,gg,d,tk,f⟩:=fun Q E q=>by
  simp only[checkBuiltinCall,F.cmpKind_eq,F.cmpSplit_eq];unfold isInstance
  wp_walk using p.here,o.here
  exact q
 refine ck _ _ ?_;unfold Builtin.«object.__eq__»
 wp_walk
 exact q
def Fp (q:Q .notImplemented s):wpAny (model prog w) A (call (.builtin "NoneType.__eq__") [.none,.ref a]) Q E s:=by
 refine wpAny_call (codeAny_call_builtin F.slot_NoneType_eq.plain F.entry_NoneType_eq (F.slot_NoneType_eq.check _ _ _ _ _ _ _ _ rfl (F.args_NoneType_eq_2 _ _) ?_));obtain⟨j,gg,d,tk,f⟩:=s;unfold Builtin.«NoneType.__eq__»
 wp_walk
 exact q
def eq_none {C} {ox} {Q:Bool->Yc->Prop} (r:A.units<cLine) (X:K.In s.heap) (g:s.heap.get? a=some ox) (f:ox.cls=.ref C) (t:W.findIn K (.ref C) "__eq__" = some (some (.builtin "object.__eq__"))) (v:W.mroIn K C (.type "object")=some true) (q:Q false s):wpAny (model prog w) A (eqBool (.ref a) .none) Q E s:=by
 have y:Looks (model prog w) s.heap (typeLookup (.ref C) "__eq__") (some (.builtin "object.__eq__")):=W.looks_findIn X t;have l:Looks (model prog w) s.heap (typeOf (.ref a)) (.ref C):=by rw[<- f];exact(Looks.ld g).andThen .now
 have j:∀Q E,Q .notImplemented s->wpAny (model prog w) A (call (.builtin "object.__eq__") ([.ref a]++[.none])) Q E s:=fun Q E q=>IY X g f v q
 have z:=F.slot_object_eq.bind (.ref a);have o:∀Q E,Q none s->wpAny (model prog w) A (tryCompare (.ref a) "__eq__" .none) Q E s:=fun Q E q=>by
  obtain⟨u,gg,d,tk,p⟩:=s;unfold tryCompare callSpecialIfBound? bindSpecialIfBound? specialOf
  wp_walk using l.here,y.here,wpAny_askSetting,j _ _
  split<;>wp_walk using j _ _<;>exact q
 have m:∀Q E,Q none s->wpAny (model prog w) A (tryCompare .none "__eq__" (.ref a)) Q E s:=fun Q E q=>by unfold tryCompare;exact Z2 (wpAny_callSpecialIfBound?_slot rfl F.slot_NoneType_eq (Fp (Z3 q)))
 have x:Looks (model prog w) s.heap (isSubtype (.type "NoneType") (.ref C)) false:=W.looks_subIn X rfl;obtain⟨u,gg,d,tk,p⟩:=s;unfold eqBool richCompare
 wp_walk using wpAny_cRoomFor r,l.here,x.here,o _ _,m _ _
 exact q
end
end Sx
namespace Dl
open PySem PySem.Spec PyProof.Rows L2
variable {X:Cx} {i t' n j k kt:Nat} {x y m z:Str} {P prog:Program} {w:World} {H H' H₂ F' H1 F1 F2 H2:Hp} {s s' s₂:Yc} {l a e b c tg iter ei X7 cx:Expr} {B A fp Cs:Yg Yd} {h':Heap} {K:ZA} {N T ws ps zs:Yg Str} {scope:Scope} {f fa fb fk:FD} {vs ys:Yg V} {ds:Yg D} {σ:L2.St} {δ δ1 fin:DS} {t C it:Yd} {p p2 p1 px py spos:Pos} {r r':Yg V->Hp->VK->Prop} {Q:Yb->Yc->Prop} {op:CmpOp} {es X5:Yg Expr} {G G':Yg D->Ye D} {v:V} {u:SD} {st:Stmt} {lo hi:Ye Expr} {fl fh:FO} {Q0:Yg (Yd×Obj)} {cl:Yg (Str×Yd)} {js:Yg Nat} {o:Ye D} {As Q2 Q4 Q5 X3 AA Asc:Nat->Yg Yd} {fm felt wa wb:FM} {ga:FA} {Z:L2.St->Prop} {R:Result->Yc->Prop} {fd:FuncData} {fc:FT} {S itr tn:Nat->Heap->Prop} {sq:Hp->Yg V->Prop} {body:Yg Stmt} {src:FMA} {pl:Sem Bool} {RR:Yb->Yd->Result->Yc->Prop} {txt:Bool}
theorem sO{us}(r:Vals ys us):∀ws,(∀w∈ws,w∈us)->∃zs,Vals zs ws/\zs.length=ws.length/\∀z∈zs,z∈ys
 |[],_=>⟨[],.nil,rfl,fun _ m=>nomatch m⟩
 | w :: ws,h=>by
  obtain⟨zs,h1,h2,q⟩:=sO r ws fun v m=>h v (Zp _ m)
  have pick:∀{ys}{us},Vals ys us->w∈us->∃z,z∈ys/\RelV z w:=fun{ys us} r=>by
   induction r with
   |nil=>exact fun m=>nomatch m
   |cons a t p =>
    intro m;rcases Zt.mp m with z|z
    . subst z;exact⟨_,Zo,a⟩
    . obtain⟨y,o,j⟩:=p z;exact⟨y,Zp _ o,j⟩
  obtain⟨z,m,f⟩:=pick r (h w Zo);exact⟨z::zs,.cons f h1,Z8 (· + 1) h2,fun y l=>by
   rcases Zt.mp l with e|e
   . subst e;exact m
   . exact q y e⟩
theorem tM:∀{f:Yg Int}{us},Vals (f.map V.int) us->∀u∈us,∃i t,u=Value.int i t
 |[],_,.nil,_,m=>nomatch m
 |n::f,_,.cons a t,u,m=>by
  rcases Zt.mp m with z|z
  . subst z;obtain⟨t,e⟩:=a;exact⟨n,t,e⟩
  . exact tM t u z
def yz:CallR X (.builtin "sorted") (fun xs H Q=>∃ p ys,xs=[.ref p]/\SqL X.K H p ys/\(∀ y∈ys,∃ a,∃ j:Yg Int,y=.ref a/\SqT X.K H a (j.map V.int)/\j ≠ [])/\∀ l zs,H l=none->zs.length=ys.length->(∀ z∈zs,z∈ys)->Q (.ref l) (upd H l (.lst zs))):=by
 intro Q0 s σ H xs us Q I r h;obtain⟨p,ys,rfl,hq,ht,q⟩:=h;obtain⟨u,rfl,S⟩:=iR r;cases S;obtain⟨Q1,r',pl,G⟩:=I.list hq;have hT:∀v∈Q1,So.TupI s.heap v:=fun v m=>by
  have pick:∀{ys}{us},Vals ys us->v∈us->∃z,z∈ys/\RelV z v:=fun{ys us} r=>by
   induction r with
   |nil=>exact fun m=>nomatch m
   |cons a t ih =>
    intro m;rcases Zt.mp m with z|z
    . subst z;exact⟨_,Zo,a⟩
    . obtain⟨y,m2,U⟩:=ih z;exact⟨y,Zp _ m2,U⟩
  obtain⟨y,Z,O⟩:=pick r' m;obtain⟨a,j,rfl,hs,C⟩:=ht y Z;cases O;obtain⟨jts,D,pt,_⟩:=I.tuple hs;have B:=tM D;cases j with
  |nil=>exact absurd rfl C
  |cons i j =>
   cases D with
   |cons a0 t0 =>obtain⟨t,rfl⟩:=a0;obtain⟨o,g,c,n,d⟩:=pt;exact⟨a,o,_,n,i,t,rfl,g,c,d,rfl,fun x mx=>B x (by simpa using mx)⟩
 refine So.sorted_t pl.isList hT (by rw[<- r'.length];exact G) fun h' a f e k Y la he z1 z2=>?_
 obtain⟨zs,h1,h2,h3⟩:=sO r' f.toList z2;have J:=I.hok.fresh la;have L:zs.length=ys.length:=by rw[h2,Array.length_toList,z1,r'.length]
 exact⟨.ref a,_,kY I k Y J (u:=.lst zs) ⟨by rw[L];exact G,f.toList,e,h1,by simpa using he⟩,rfl,q a zs J L h3⟩
noncomputable def wt:D->Bool
 |.tin=>true
 |_=>false
def uS(as:List D):Option D:=(pR as).bind fun ds=>if ds.all wt=true then some (.lst ds)else none
theorem vQ:∀{vs}{ds},Reps K H vs ds->ds.all wt=true->∀v∈vs,∃a,∃f,v=.ref a/\SqT K H a (f.map V.int)/\f≠[]
 |_,_,.nil,_,_,m=>nomatch m
 |_,d::_,.cons r t,e,v,m=>by
  rw[List.all_cons,ZN]at e;rcases Zt.mp m with z|z
  . subst z;cases d <;> first | cases e.1 | skip
    cases r with
    |tin h n=>exact⟨_,_,rfl,h,n⟩
  . exact vQ t e.2 v z
theorem vG:∀{zs}{ds},zs.length=ds.length->ds.all wt=true->(∀v∈zs,∃a,∃f,v=.ref a/\SqT K H a (f.map V.int)/\f≠[])->Reps K H zs ds
 |[],[],_,_,_=>.nil
 |z::zs,d::ds,hl,e,h=>by
  rw[List.all_cons,ZN]at e;obtain⟨a,f,rfl,j,l⟩:=h z Zo;cases d<;>first|cases e.1|skip
  exact .cons (.tin j l) (vG (by simpa using hl) e.2 fun v m=>h v (Zp _ m))
def vF:D->Option D
 |.tup ds=>(q9 ds).bind fun ns=>if ns=[]then none else some .tin
 |_=>none
abbrev uj(K:ZA)(H:Hp)(y:V)(p:V×V):Prop:=∃a,y=.ref a/\SqT K H a [p.1,p.2]
theorem tK:∀{ns}{us},Vals (ns.map V.int) us->ItemsAre (intKind P w) ns us
 |[],_,.nil=>.nil
 |n::ns,_,.cons a t=>by obtain⟨tk,rfl⟩:=a;exact .cons (by show Value.isInt n (.int n tk)=true;simp[Value.isInt]) (tK t)
def wo(I:L2.Inv X Q0 σ H s){ys us}{kv:Yg (V×V)}(r:Paired (uj X.K H) ys kv):∀f,Vals ys us ->
 ∃ps,Sd.Left s.heap (f++us).toArray f.length ps/\Paired (fun(p:V×V)(q:Yb×Yb)=>RelV p.1 q.1/\RelV p.2 q.2) kv ps:=by
 induction r generalizing us with
 |nil=>intro f h;cases h;exact⟨[],by show(f++[]).toArray[f.length]?=none;simp,.nil⟩
 |cons r _ y =>
  intro f h;cases h with
  |@cons _ u _ us a t =>obtain⟨ps,h1,h2⟩:=y (f++[u]) t;obtain⟨b,rfl,z⟩:=r;cases a;obtain⟨x,m,pt,_⟩:=I.tuple z;obtain⟨v,vu,rfl,l,j⟩:=vE m;obtain⟨o,g,c,n,d⟩:=pt;exact⟨(v,vu)::ps,⟨⟨.ref b,by simp,b,o,n,rfl,g,c,d⟩,by simpa using h1⟩,.cons ⟨l,j⟩ h2⟩
def wp{h}{ns}{a}(k:∀b o,h.get? b=some o->h'.get? b=some o)(x:IsTupleKey (intKind P w) h ns a):IsTupleKey (intKind P w) h' ns a:=by obtain⟨o,Q1,n,g,r⟩:=x;exact⟨o,Q1,n,k _ _ g,r⟩
abbrev NF(K:ZA):List V->Hp->VK->Prop:=fun xs H Q=>∃p ys kv,xs=[.ref p]/\SqL K H p ys/\Paired (uj K H) ys kv/\(∀q∈kv,∃b,∃ns:List Int,q.1=.ref b/\SqT K H b (ns.map V.int))/\∀l,H l=none->Q (.ref l) (upd H l (JG l))
theorem Gj (hc:X.calm=true) (hu:X.A.units+2<cLine):CallR X (.type "dict") (NF X.K):=by
 intro Q0 s σ H xs us Q I r h;obtain⟨p,ys,kv,rfl,hq,G,hk,q⟩:=h;obtain⟨u,rfl,V⟩:=iR r;cases V;obtain⟨Q1,r',⟨o,n,g,c,od,dt⟩,hz⟩:=I.list hq;obtain⟨ps,h1,h2⟩:=wo I G [] r';have S:=I.hok.fresh (ZM _);refine Sd.dict_pairs (B:=X.A.units+2) (J:=fun r h=>(∀p∈r,∃b t,p.1=.ref b/\IsTupleKey (intKind X.prog X.w) s.heap t b)/\∃xs,h.DictOfH (tupleKind (intKind X.prog X.w)) s.heap.objs.size xs/\xs.length+r.length<=sizeLine/\∀x∈xs,IsTupleKey (intKind X.prog X.w) s.heap x.1 x.2.1) (I.ok.hd hc) g c dt od (fun r h h' x k D=>?_) (fun k v r A s1 Q E hB x D f=>?_) (ZM _) h1 ⟨fun p m=>?_,[],Heap.DictOfH.new _,by have:=h2.length;have:=G.length;simp;lia,fun _ m=>nomatch m⟩ fun h' tk k x=>?_
 . obtain⟨C,xs,⟨o,es,ep,l,j,L,e4,e5,e6⟩,e7,U⟩:=x;exact⟨C,xs,⟨o,es,ep,k _ l,j,L,e4,fun x m=>wp D (U x m),e6⟩,e7,U⟩
 . obtain ⟨C,xs,l,j,L⟩:=x;obtain ⟨b,t,rfl,hk⟩:=C _ Zo;rw [Zm] at j;refine wpAny_dictSet_heap (knd:=tupleKind (intKind X.prog X.w)) (k:=t) (by show A.units < cLine;lia) (wp D hk) l (fun h' z1 z2=>f h' _ ⟨fun p m=>C p (Zp _ m),_,z1,?_,fun x m=>?_⟩ z2) (by lia)
   . unfold storedH;split
     . rw[Zl];lia
     . rw[Zk,List.length_singleton];lia
   . rcases mem_storedH m with ⟨y,my,z1,z2⟩ | ⟨z1,z2⟩
     . rw[z1,z2];exact L y my
     . rw[z1,z2];exact hk
 . clear G h1
   induction h2 with
   |nil=>cases m
   |@cons a _ _ _ r _ ih =>
    rcases Zt.mp m with z|z
    . subst z;obtain⟨b,t,e,hs⟩:=hk a Zo;have O:=r.1;rw[e]at O;obtain⟨Q1,Y,Z,_⟩:=I.tuple hs;obtain⟨o2,g2,c2,n2,d2⟩:=Z;exact⟨b,t,O,o2,_,n2,g2,c2,d2,tK Y⟩
    . exact ih (fun q m=>hk q (Zp _ m)) z
 . obtain ⟨_,xs,⟨o,es,ep,l,j,_⟩,_⟩:=x;refine ⟨.ref s.heap.objs.size,_,kY I k (Sw.none_size (ZM _)) S (u:=JG s.heap.objs.size) ⟨⟨o,l,j.1⟩,⟨o,l⟩,fun h1 h2 y z=>?_⟩,rfl,q _ S⟩
   obtain⟨o,e,j⟩:=y;exact⟨o,z _ e,j⟩
noncomputable abbrev kvS(q:Str×V):V×V:=(.str q.1,q.2)
def Mi{Q6:Yg (Str×V)}{kv}{ps:Yg (Yb×Yb)}(r:Paired (fun(p:V×V)(q:Yb×Yb)=>RelV p.1 q.1/\RelV p.2 q.2) kv ps):kv=Q6.map kvS->∃all,KV Q6 all/\Paired (fun(a:Str×Yb)(p:Yb×Yb)=>(∃t,p.1=.str a.1 t)/\a.2=p.2) all ps:=by
 induction r generalizing Q6 with
 |nil=>intro e;cases Q6 with
  |nil=>exact⟨[],.nil,.nil⟩
  |cons _ _=>cases e
 |@cons _ p _ _ r _ f =>
  intro e;cases Q6 with
  |nil=>cases e
  |cons q Q6 =>cases e;obtain⟨all,h1,h2⟩:=f rfl;exact⟨(q.1,p.2)::all,.cons ⟨rfl,r.2⟩ h1,.cons ⟨r.1,rfl⟩ h2⟩
def IL{Q6:Yg (Str×V)}{all:Yg (Str×Yb)}(r:KV Q6 all):all.map (·.1)=Q6.map (·.1):=by
 induction r with
 |nil=>rfl
 |cons r _ f=>rw[Zu,Zu,f,r.1]
abbrev NE(K:ZA):List V->Hp->VK->Prop:=fun xs H Q=>∃p ys Q6,xs=[.ref p]/\SqL K H p ys/\Paired (uj K H) ys (Q6.map kvS)/\(Q6.map (·.1)).Nodup/\∀l o,H l=none->Q (.ref l) (upd H l (.frz o (.dK Q6)))
theorem Ce (V:X.calm=true):CallR X (.type "dict") (NE X.K):=by
 intro Q0 s σ H xs us Q I r h;obtain⟨p,ys,Q6,rfl,U,G,hk,q⟩:=h;obtain⟨u,rfl,S⟩:=iR r;cases S;obtain⟨Q1,r',⟨o,n,g,c,od,dt⟩,hz⟩:=I.list U;obtain⟨ps,h1,h2⟩:=wo I G [] r';obtain⟨all,C,Y⟩:=Mi h2 rfl;have L:=I.hok.fresh (ZM _);have hl:all.length<=sizeLine:=by have:=C.length;have:=G.length;rw[Zl]at this;lia
 rw[<- IL C]at hk;refine Sd.dict_pairs (J:=fun r h=>∃m l,all=m++l/\Paired (fun(a:Str×Yb)(p:Yb×Yb)=>(∃t,p.1=.str a.1 t)/\a.2=p.2) l r/\h.DictOf (PySem.strKind X.prog X.w) s.heap.objs.size m) (I.ok.hd V) g c dt od (fun r h h' x k _=>?_) (fun k v r A s1 Q E _ x _ f=>?_) (ZM _) h1 ⟨[],all,rfl,Y,Heap.DictOf.new _⟩ fun h' tk k x=>?_
 . obtain⟨m,l,j,y,⟨o,es,ep,D,O⟩⟩:=x;exact⟨m,l,j,y,⟨o,es,ep,k _ D,O⟩⟩
 . obtain ⟨m,l,j,y,B⟩:=x;cases y with
   |@cons a _ l _ r t =>
    obtain⟨⟨tk,rfl⟩,rfl⟩:=r;refine wpAny_dictSet_pairs (k:=a.1) (by show(PySem.strKind X.prog X.w).is a.1 (.str a.1 tk)=true;simp[PySem.strKind,Value.isStrOf]) B (fun h' z1 z2=>f h' _ ⟨m++[a],l,by rw[j];simp,t,?_⟩ z2) (by have:=Z8 List.length j;simp at this;lia)
    rw[stored,if_neg]at z1
    . exact z1
    . intro z;obtain⟨b,mb,Z⟩:=List.any_eq_true.mp z;rw[j,Zw,Zu,Z0]at hk;exact hk.2.2 b.1 (List.mem_map_of_mem mb) a.1 Zo (Z7 Z)
 . obtain⟨m,l,j,y,B⟩:=x;cases y;rw[Zj]at j;subst j;obtain⟨o,es,ep,D,O⟩:=id B;exact⟨.ref s.heap.objs.size,_,kY I k (Sw.none_size (ZM _)) L (u:=.frz o (.dK Q6)) ⟨D,beq_eq_false_iff_ne.mpr (Nat.ne_of_gt (Nat.lt_trans (by decide) (I.mod.glob.keeps I.bk).lt)),all,C,B⟩,rfl,q _ o L⟩
noncomputable def Ew:D->Bool
 |.tup [.tin,_]=>true
 |_=>false
def BU(as:List D):Option D:=(pR as).bind fun ds=>if ds.all Ew=true then some .dct else none
def Bi {vs:Yg V} {ds:Yg D} (r:Reps K H vs ds):ds.all Ew=true->∃ kv,Paired (uj K H) vs kv/\∀ q∈kv,∃ b,∃ f:Yg Int,q.1=.ref b/\SqT K H b (f.map V.int):=by
 induction r using Reps.ind with
 |nil=>exact fun _=>⟨[],.nil,fun _ m=>nomatch m⟩
 |cons r _ s =>
  intro e;rw[List.all_cons,ZN]at e;obtain⟨kv,h1,h2⟩:=s e.2;have e:=e.1;unfold Ew at e;split at e
  . cases r with
    | tup h o =>
     cases o with
     | cons p t =>
      cases t with
      |@cons l _ _ _ u t =>
       cases t;cases p with
       |@tin b f j n1=>exact⟨(.ref b,l)::kv,.cons ⟨_,rfl,h⟩ h1,fun q m=>(Zt.mp m).elim (fun z=>z▸⟨b,f,rfl,j⟩) (h2 q)⟩
  . cases e
def MM:CallD K (NF K) BU:=by
 intro xs H Q as d r e k;unfold BU at e;obtain⟨ds,s,e⟩:=Za.mp e;split at e
 . rename_i j;cases e;obtain⟨p,ys,h1,h2,q⟩:=r8 r s;obtain⟨kv,o,m⟩:=Bi q j;exact⟨p,ys,kv,h1,h2,o,m,fun l f=>k _ _ (a8 f _) (.dct aL)⟩
 . cases e
def oA:List D->Option (List (Str×D))
 |[]=>some []
 |.tup [.str x,d]::ds=>(oA ds).map ((x,d)::·)
 |_=>none
def qj(f:FM):FM:=fun δ=>(f δ).bind fun p=>match sh p.1 with
 |.seq ds=>(oA ds).bind fun es=>if(es.map (·.1)).Nodup then some (.dv (es.map (·.2)),p.2)else none
 |_=>none
def xG {vs:Yg V} {ds:Yg D} (r:Reps K H vs ds):∀ {es},oA ds=some es->∃ Q6:Yg (Str×V),Paired (uj K H) vs (Q6.map kvS)/\Q6.map (·.1)=es.map (·.1)/\Reps K H (Q6.map (·.2)) (es.map (·.2)):=by
 induction r using Reps.ind with
 |nil=>intro es e;cases e;exact⟨[],.nil,rfl,.nil⟩
 |cons r _ p =>
  intro es e;unfold oA at e;split at e
  . rename_i f;cases f
  . rename_i f;cases f;obtain ⟨es,s,rfl⟩:=Zb.mp e;obtain ⟨Q6,h1,h2,q⟩:=p s;cases r with
    | tup h l =>
     cases l with
     |cons o t =>
      cases t with
      |@cons j _ _ _ m t =>cases t;cases o;exact⟨(_,j)::Q6,.cons ⟨_,rfl,h⟩ h1,Z8 (_::·) h2,.cons m q⟩
  . cases e
def Ho (hg:Gl X "dict") (hm:X.mg "dict" = none) (hl:PW X e fm) (s:X.calm=true:=by rfl) (he:PlX X e []:=by rfl):PW X (.Call (.Name "dict" p) [e] [] pos) (qj fm):=cH (kR (Ce s) hg hm boot_dict (mX hl uC he) (he:=he) (hpl:=rfl)) fun {σ H Q F δ As d δ'} R q k=>by
 unfold qj at q;obtain⟨⟨d0,x⟩,e0,q⟩:=Za.mp q;split at q
 . rename_i ds Y;obtain ⟨es,e1,q⟩:=Za.mp q;split at q
   . rename_i O;cases q;refine ⟨F,δ,As,[d0],x,R,by unfold ae ak;rw [e0];rfl,fun vs F1 H1 A Q4 ev R1 I l=>?_⟩
     obtain⟨F2,r,R2,z⟩:=ev.freezes R1 I;rw[shs,shs,Y]at z;cases z with
     | cons L t =>
      cases t;cases L with
      | @seq a vs _ Z J =>
       obtain⟨Q6,V,U,S⟩:=xG J e1;have C:Paired (uj X.K H1) vs (Q6.map kvS):=Paired.mapP V fun y p h=>h.elim fun a h=>⟨a,h.1,gR R2.fz h.2⟩
       refine⟨a,vs,Q6,rfl,R2.fz.seq Z,C,by rw[U];exact O,fun b o v=>?_⟩
       have hF:F2 b=none:=j1 R2.fz v;have B:=a8 hF (.frz o (.dK Q6));have G:Same (upd F2 b (.frz o (.dK Q6))) (upd H1 b (.frz o (.dK Q6))):=fun c u e=>by
        by_cases s:c=b
        . subst s;rw[aL]at e ⊢;exact e
        . rw[aI s]at e ⊢;exact R2.fz c u e
       have D:=a8 v (.frz o (.dK Q6));have hA:∀j c,c∈Q4 j->c≠b:=fun j c m z=>by obtain⟨⟨u,e⟩,_⟩:=R2.dom m;rw[z,v]at e;cases e
       have f:=r.grow D;refine k (.ref b) (upd F2 b (.frz o (.dK Q6))) _ [] Q4 ⟨f.fs.trans B,f.ks,fun c u h n m=>?_,f.fa,fun _ m=>(nomatch m),Zy,fun _ _ _ z=>nomatch z⟩ ((R2.grow D).froz B G fun j c m=>?_) (.shd (.dv aL (S.mono B)))
       . have:=r.ks c _ h m;rw [aI fun z=>by rw [z,v] at this;cases this]
         exact r.nf c u h n m
       . rw[aI (hA j c m)];exact(R2.dom m).2
   . cases q
 . cases q
def sk(f:FM):FM:=fun δ=>(f δ).bind fun p=>(vF p.1).bind fun d=>some (d,p.2)
def AJ{d e}(r:Rep K H v d)(h:vF d=some e):e=.tin/\Rep K H v .tin:=by
 unfold vF at h;split at h
 . obtain ⟨o,m,h⟩:=Za.mp h;split at h
   . cases h
   . rename_i l;cases h;cases r with
     |tup j f =>have:=ww f m;subst this;exact⟨rfl,.tin j l⟩
 . cases h
def KM{f}(h:PW X e f):PW X e (sk f):=cH h fun{σ H Q F δ As d δ'} R q k=>by
 unfold sk at q;obtain⟨⟨s,δ1⟩,p,q⟩:=Za.mp q;obtain⟨t,o,q⟩:=Za.mp q;cases q;refine⟨F,δ,As,s,δ1,R,p,fun v F' H' A Q2 m j r=>?_⟩
 obtain⟨rfl,l⟩:=AJ (r.rep j.fz) o;exact k v F' H' [] Q2 m.bare j (.imm rfl l)
section
variable {o:Expr} {Q8:Yg Expr} {g:FMA} {pos:Pos}
def Ij(h:PW X e fm):PD X e (gq fm):=gp h fun{σ H Q δ d} R q k=>by unfold gq at q;obtain⟨⟨d',δ'⟩,j,q⟩:=Za.mp q;cases q;exact⟨H,shO δ,fun _=>[],d',δ',R.toA,j,fun v F' H' A Q2 f l r=>k v H' (fun x u z=>f.ks x u z fun _ m=>nomatch m) (r.rep l.fz)⟩
def K2{r}{G}(f:OpR X (compareOp op) r)(l:R2D X.K r G)(o:PW X a wa)(m:PW X b wb)(j:behindInMarks op b=false):PW X (.Compare a [op] [b] pos) (bX G wa wb):=imp (zn f o m j) fun _ _ _=>wx l
def K1(f:X.A.units+64<cLine)(l:PW X a wa)(j:PW X b wb):PW X (.Compare a [.Eq] [b] pos) (bX bC wa wb):=K2 (uI f) uz l j (eS _)
def Hj(l:PW X a wa)(f:PW X b wb):PW X (.BinOp a .Mult b pos) (bX (gI kM fun i j=>.int (i*j)) wa wb):=Dz zv (Du fun _ _ _=>.int _) l f
def Hi(l:PW X a wa)(f:PW X b wb):PW X (.BinOp a .Sub b pos) (bX (gI0 fun i j=>.int (i-j)) wa wb):=Dz Ey (mW fun _ _ _=>.int _) l f
def gY(a b:D):Option D:=(zK b).bind fun ds=>if dM a&&ds.all dM then some (.bl (!ds.any fun y=>eqF y a))else none
def vV:R2D K (rIn K true) gY:=by
 intro x y H Q a b d j f e k;unfold gY at e;obtain⟨ds,u,e⟩:=Za.mp e;split at e
 . rename_i l;have:=Ds x y H (fun w H'=>∃ c,w=.bl c/\Q (.bl (!c)) H') a b (.bl (ds.any fun y=>eqF y a)) j f (by unfold gIn;rw [u];show (if _ then _ else _)=_;rw [if_pos l]) fun w H' s r=>by
    cases r;cases e;exact⟨_,rfl,k _ H' s (.bl _)⟩
   obtain⟨p,xs,h1,h2,t,q,c,o,m⟩:=this;refine⟨p,xs,h1,h2,t,q,?_⟩;cases o;exact m
 . cases e
def Er(l:PD X a fa)(j:PD X b fb)(f:behindInMarks .NotIn b=false:=by with_unfolding_all rfl):PD X (.Compare a [.NotIn] [b] pos) (f2 gY fa fb):=jq m4 vV l j f
def A9(l:PD X a fa)(j:PD X b fb)(f:behindInMarks .NotIn b=false:=by with_unfolding_all rfl):PTD X (.Compare a [.NotIn] [b] pos) (fT (f2 gY fa fb)):=gD m4 vV l j f
def Im{i}{t}(j:Gl X x)(f:X.mg x=some (.int i t))(l:NbX x:=by kernel_rfl):PD X (.Name x pos) (fC (.int i)):=gp (pX (v:=.int i) j f ⟨t,rfl⟩ l) fun{σ H Q δ d} R e k=>by cases e;exact k _ H (Same.refl H) (.int i)
def Il{t}(j:Gl X x)(f:X.mg x=some (.str z t))(l:NbX x:=by kernel_rfl):PD X (.Name x pos) (fC (.str z)):=gp (pX (v:=.str z) j f ⟨t,rfl⟩ l) fun{σ H Q δ d} R e k=>by cases e;exact k _ H (Same.refl H) (.str z)
def GTup (K:ZA) (a:Addr) (zs:List Str):Prop:=∃(o:Obj) (Q1:Array Value) (n:Nat),K.lookup a=some o/\o.cls=.type "tuple"/\o.data=.seq Q1 n/\Q1.size<=sizeLine/\Vals (zs.map V.str) Q1.toList
def Ik{c}(f:GTup X.K c zs)(l:Gl X x)(j:X.mg x=some (.ref c))(m:NbX x:=by kernel_rfl):PD X (.Name x pos) (fC (.tup (zs.map D.str))):=gp (pX (v:=.ref c) l j rfl m) fun{σ H Q δ d} R e k=>by cases e;obtain⟨o,Q1,n,h1,h2,r,q,p⟩:=f;exact k _ H (Same.refl H) (.tup (.inr ⟨o,Q1,n,h1,h2,r,q,p⟩) (qB zs))
noncomputable def zR:List D->Option D
 |[.int i,.int j]=>some (.int (if j>i then j else i))
 |_=>none
def Jn:CallD K (fun xs H Q=>∃ i j,xs=[.int i,.int j]/\Q (.int (if j > i then j else i)) H) zR:=by
 intro xs H Q as d r e k;unfold zR at e;split at e
 . cases e;cases r with
   |cons l t =>
    cases t with
    |cons f t =>cases t;cases l;cases f;exact⟨_,_,rfl,k _ H (Same.refl H) (.int _)⟩
 . cases e
def qm(f:FD):FM:=fun δ=>(f δ).bind fun d=>(uS [d]).bind fun d'=>some (d',δ)
theorem wy:∀{ds},ds.all wt=true->iK ds=true
 |[],_=>rfl
 |d::ds,h=>by
  rw[List.all_cons,ZN]at h;cases d<;>first|cases h.1|skip
  rw[iK,wy h.2];rfl
def DI (C:Gl X "sorted") (o:X.mg "sorted" = none) (D:PD X e f) (he:starEach [e] X.env=(false,eval e X.env)::starEach [] X.env:=by rfl) (hpl:(backTo pos (starEach [] X.env)).any (·.1)=false:=by rfl) :
 PV X (.Call (.Name "sorted" p) [e] [] pos) (qm f):=BL (qJ yz C o nN (v8 D zq he) (by decide) (by decide) he hpl) fun {σ H Q F δ As d δ'} u q k=>by
 unfold qm at q;obtain⟨J,I,q⟩:=Za.mp q;obtain⟨L,j,q⟩:=Za.mp q;cases q;refine⟨δ,[J],u.toS,by show((f δ).bind _)=_;rw[I];rfl,fun vs H1 x y l=>?_⟩
 unfold uS at j;obtain⟨ds,G,j⟩:=Za.mp j;split at j
 . rename_i r;cases j;obtain⟨q,ys,h1,h2,t⟩:=r8 y G;have s:=vQ t r;exact⟨q,ys,h1,h2,s,fun l zs B z o=>oF u x (vG (z.trans t.length) r fun v m=>s v (o v m)) (wy r) B k⟩
 . cases j
end
def Lo {pt} {ta} {pos} (J:Gl X "enumerate") (G:X.mg "enumerate" = none) (L:PA X [a] ta) (C:starEach [a] X.env=(false,eval a X.env) :: starEach [] X.env:=by rfl) :
 PI X (.Tuple es kt pt) (.Call (.Name "enumerate" p) [a] [⟨some "start",.Constant (.int 1) j p1,p2⟩] pos) (fun σ H R=>ta σ H fun vs H1=>∃a,vs=[.ref a]/\(∃ys,SqL X.K H1 a ys)/\R (JF 1 fun H xs=>SqL X.K H a xs) H1):=by
 intro Q0 s σ H R I h;refine Sn.call1K rfl C (mh I J G PyProof.Rows.boot_enumerate ⟨rfl,thn (L pos Q0 s σ H _ I h) fun us u O t tk=>?_⟩)
 obtain⟨vs,H1,o,z,B⟩:=O;obtain⟨l,e,⟨ys,D⟩,q⟩:=B;subst e;cases z with
 | cons r y =>
  cases y;cases r;have S:=o.tok tk;obtain⟨Q1,U,p,_⟩:=o.list D;have x:l<u.heap.objs.size:=by obtain⟨_,e,_⟩:=p.isList;exact ZT e
  have fp:∀n,n=u.heap.objs.size->(∀b∈[n+1,n],nZ X Q0 H1 b):=fun n m b v=>by
   have f:u.heap.objs.size<=b:=by
    rw[m]at v;simp only[Zt,ZH,or_false]at v;rcases v with rfl|rfl
    . exact Nat.le_succ _
    . exact ZM _
   exact o.fpOk f (o.hok.fresh f)
  refine Sn.enum1_call rfl (fun A E Q k=>wpAny_pyIter_list p.isList k) fun n h' m he hi hk=>wpAny_pyIter_enum he ?_
  exact⟨_,_,_,_,H1,rfl,S.kept hk,yR (c:=1) (Ab (by rw[m];exact ZI x)) (Nat.succ_ne_self n) (by rw[m];exact Nat.ne_of_gt (Nat.lt_succ_of_lt x)),⟨⟨_,he⟩,⟨_,hi,rfl,rfl⟩⟩,fp n m,q⟩
def n6(f:FM):FMA:=fun δ=>(f δ).bind fun p=>match sh p.1 with
 |.seq ds=>some (enF 1 ds,p.2)
 |_=>none
def HX {pt} {fa} {pos} (s:Gl X "enumerate") (r:X.mg "enumerate" = none) (t:PW X a fa) (f:starEach [a] X.env=(false,eval a X.env)::starEach [] X.env:=by rfl) :
 PIQ X (.Tuple es kt pt) (.Call (.Name "enumerate" p) [a] [⟨some "start",.Constant (.int 1) j p1,p2⟩] pos) (n6 fa):=tN (Lo s r (bZ t gl f) f) fun {σ H R F δ As ds δ'} B e k=>by
 unfold n6 at e;obtain⟨⟨d,δ1⟩,x,e⟩:=Za.mp e;split at e
 . rename_i es f;cases e;refine ⟨F,δ,As,d,_,B,x,fun v F1 H1 A Q4 u y q=>?_⟩
   obtain⟨F2,l,R2,_,z⟩:=u.freeze y q;rw[f]at z;cases z with
   |@seq p vs _ m o=>exact⟨p,rfl,⟨vs,R2.fz.seq m⟩,k _ F2 H1 Q4 l R2 (EY 1 m o)⟩
 . cases e
structure ClsE(K:ZA)(C:Addr):Prop where
 eq:W.findIn K (.ref C) "__eq__" = some (some (.builtin "object.__eq__"))
 mr:W.mroIn K C (.type "object")=some true
noncomputable def lJ(Cs:List Addr):List D->Option (List Bool)
 |[]=>some []
 |.non::ds=>(lJ Cs ds).bind fun bs=>some (true::bs)
 |d::ds=>(j5 d).bind fun o=>if o.1∈Cs then(lJ Cs ds).bind fun bs=>some (false::bs)else none
def kZ(Cs:List Addr)(a b:D):Option D:=match a with
 |.non=>(asL b).bind fun ds=>(lJ Cs ds).bind fun bs=>some (.bl (!bs.any id))
 |_=>none
def zb(K:ZA)(Cs:List Addr):R2:=fun x y H Q=>∃q ds bs ys,x=.non/\y=.ref q/\SqL K H q ys/\Reps K H ys ds/\lJ Cs ds=some bs/\Q (.bl (!bs.any id)) H
section
variable {pos:Pos}
open Classical in
theorem Gw(I:L2.Inv X Q0 σ H s)(J:∀C∈Cs,ClsE X.K C)(A) (S:A.units<cLine) {ys us} {ds:Yg D} {bs} (v:Vals ys us) (r:Reps X.K H ys ds):lJ Cs ds=some bs ->
 (∀u∈us,SeqAt.EqAt A s u .none (decide (u=Value.none)))/\(us.any fun u=>decide (u=Value.none))=bs.any id:=by
 induction r using Reps.ind generalizing us bs with
 |nil=>cases v;intro e;cases e;exact⟨fun u m=>(nomatch m),rfl⟩
 | @cons y d ys ds r rr O =>
  cases v with
  | @cons _ u _ us B t =>
   intro e;have go:∀c cs,lJ Cs ds=some cs->bs=c::cs->decide (u=Value.none)=c->SeqAt.EqAt A s u .none c->(∀f∈u::us,SeqAt.EqAt A s f .none (decide (f=Value.none)))/\((u::us).any fun u=>decide (u=Value.none))=bs.any id:=fun c cs l Z L x=>by
    obtain⟨h1,h2⟩:=O t l;refine⟨fun w m=>?_,?_⟩
    . rcases Zt.mp m with z | z
      . rw[z,L];exact x
      . exact h1 w z
    . rw[List.any_cons,h2,L,Z];rfl
   have j:∀{o},j5 d=some o->(if o.1∈Cs then(lJ Cs ds).bind fun bs=>some (false::bs)else none)=some bs->(∀f∈u::us,SeqAt.EqAt A s f .none (decide (f=Value.none)))/\((u::us).any fun u=>decide (u=Value.none))=bs.any id:=fun{o} Y e=>by
    split at e
    . rename_i G;obtain⟨cs,l,e⟩:=Za.mp e;cases e;obtain⟨C,fx,fd⟩:=o;obtain⟨p,dx,vs,rfl,U,_,_⟩:=r.objD Y;cases B;have ok:=I.hok p _ U;have g:=ok.2.2.2.1;exact go false cs l rfl (decide_eq_false fun z=>by cases z) fun prog w E Q q=>Sx.eq_none S I.kIn g rfl (J C G).eq (J C G).mr q
    . cases e
   cases d with
   |non =>
    obtain⟨cs,l,e⟩:=Za.mp (e);cases e;have:u=Value.none:=by cases r;exact B
    exact go true cs l rfl (decide_eq_true this) (by rw[this];exact(Fs I 0 A (by lia) (show RelV V.non Value.none from rfl) (show RelV V.non Value.none from rfl) .non .non rfl).2.2)
   |ob C xs vs=>exact j rfl e
   |oo C xs vs=>exact j rfl e
   |_=>cases e
open Classical in
theorem Bj(p:∀C∈Cs,ClsE X.K C)(B:X.A.units+64<cLine):OpR X (compareOp .NotIn) (zb X.K Cs):=by
 intro Q0 s σ H x y v u Q I j f h;obtain⟨q,ds,bs,ys,rfl,rfl,o,l,e,k⟩:=h;cases f;have t:=j;subst t;obtain⟨Q1,r,pl,z⟩:=I.list o;obtain⟨h1,h2⟩:=Gw I p X.A.in1 (by show X.A.units+1<cLine;lia) r l e
 refine SeqAt.notIn_listAt _ pl.isList (fun w m=>h1 w (by simpa using m)) ⟨.bl _,H,I,rfl,?_⟩
 rw[show Q1.toArray.any (fun u=>decide (u=Value.none))=Q1.any (fun u=>decide (u=Value.none)) by simp,h2]
 exact k
def A7:R2D K (zb K Cs) (kZ Cs):=by
 intro x y H Q a b d o m e k;unfold kZ at e;split at e
 . obtain ⟨ds,f,e⟩:=Za.mp e;obtain ⟨bs,j,e⟩:=Za.mp e;cases e;obtain ⟨q,vs,rfl,p,l⟩:=vw m f;have:x=.non:=by cases o;rfl
   exact⟨q,ds,bs,vs,this,rfl,p,l,j,k _ H (Same.refl H) (.bl _)⟩
 . cases e
def Bg(o:∀C∈Cs,ClsE X.K C)(f:X.A.units+64<cLine)(m:PD X a fa)(l:PD X b fb)(j:behindInMarks .NotIn b=false:=by with_unfolding_all rfl):PD X (.Compare a [.NotIn] [b] pos) (f2 (kZ Cs) fa fb):=jq (Bj o f) A7 m l j
noncomputable def AF(wa wb:FM):FM:=fun δ=>(wa δ).bind fun p=>(wb p.2).bind fun q=>match p.1,q.1 with
 |.seq ds,.int j=>(L2.atI ds j).bind fun c=>some (sh c,q.2)
 |_,_=>none
def KS(L:PW X a wa)(J:PW X b wb)(G:iA b:=by intro _ _;rfl):PW X (.Subscript a b pos) (AF wa wb):=cH (tt (ix_list.or uM) L J G) fun{σ H Q F δ As d δ'} R q k=>by
 unfold AF at q;obtain⟨⟨V,δ1⟩,S,q⟩:=Za.mp q;obtain⟨⟨U,s⟩,p,q⟩:=Za.mp q;dsimp only at p q;split at q
 . rename_i ds j _;obtain ⟨c,O,q⟩:=Za.mp q;cases q;refine ⟨F,δ,As,.seq ds,δ1,R,S,fun v F1 H1 A Q4 l r o=>⟨F1,δ1,Q4,.int j,_,r,p,fun w F2 H2 B Q5 f R2 C=>?_⟩⟩
   obtain⟨_,y⟩:=(f.stays r.domA o l.dj).seq_inv;cases C.rep R2.fz;cases y with
   |@seq x vs _ I t =>obtain⟨z,D,u⟩:=t.atI O;exact .inl ⟨x,vs,j,z,rfl,rfl,R2.fz.seq I,D,k z F2 H2 [] Q5 (l.seq f fun x m=>(o.dom x m).1).bare R2 (RepO.of_sh R2.fz u)⟩
 . cases q
def wAt(i:Nat)(s:PF):FM:=fun δ=>(s δ).bind fun p=>match δ[i]? with
 |some (some d)=>(atP d p).bind fun c=>if noo c then some (c,δ)else none
 |_=>none
def NL{s}(l:PPl X e i s):PW X e (wAt i s):=cH l fun{σ H Q F δ As d δ'} R q k=>by
 unfold wAt at q;obtain⟨p,ep,q⟩:=Za.mp q;split at q
 . rename_i y t;obtain ⟨c,u,q⟩:=Za.mp q;split at q
   . rename_i o;cases q;obtain⟨v,h1,r⟩:=R.val i _ t;obtain⟨w,C,B,z,j,f,_,_⟩:=r.pickP u;have x:=f.noo_nil o;subst x;exact⟨F,δ,As,p,v,w,R,ep,h1,j,fun H' s'=>k w F H' [] As (EvW.grew s') (R.grow s') (f.frame (bi s') fun _ m=>nomatch m)⟩
   . cases q
 . cases q
end
section
variable {F:Hp}
theorem RepOs.drop0:∀{vs}{ds} n,RepOs K F H vs ds []->RepOs K F H (vs.drop n) (ds.drop n) []
 |_,_,0,r=>r
 |_,_,_+1,.nil=>.nil
 |_,_,n+1,.cons r t e=>by obtain⟨j,f⟩:=List.append_eq_nil_iff.mp e.symm;subst j;subst f;exact RepOs.drop0 n t
theorem RepOs.take0:∀{vs}{ds} n,RepOs K F H vs ds []->RepOs K F H (vs.take n) (ds.take n) []
 |_,_,0,_=>.nil
 |_,_,_+1,.nil=>.nil
 |_,_,n+1,.cons r t e=>by obtain⟨j,f⟩:=List.append_eq_nil_iff.mp e.symm;subst j;subst f;exact .cons r (RepOs.take0 n t) rfl
theorem RepOs.app0:∀{vs us}{ds es},RepOs K F H vs ds []->RepOs K F H us es []->RepOs K F H (vs++us) (ds++es) []
 |_,_,_,_,.nil,s=>s
 |_,_,_,_,.cons r t e,s=>by obtain⟨j,f⟩:=List.append_eq_nil_iff.mp e.symm;subst j;subst f;exact .cons r (RepOs.app0 t s) rfl
def RepOs.cut0(r:RepOs K F H vs ds [])(lo hi):RepOs K F H (sE vs lo hi) (u8 ds lo hi) []:=by unfold sE u8;rw[r.length,kP,kP];exact(r.drop0 _).take0 _
end
def ul(wa:FM)(fl fh:FO):FM:=fun δ=>(wa δ).bind fun p=>(fl p.2).bind fun l=>(fh p.2).bind fun h=>match p.1 with
 |.tup ds=>if pP ds=true/\¬(AS ds.length 0 l=0/\AS ds.length ds.length h=ds.length)then some (.tup (u8 ds l h),p.2)else none
 |_=>none
noncomputable def qk(wa wb:FM):FM:=fun δ=>(wa δ).bind fun p=>(wb p.2).bind fun q=>match p.1,q.1 with
 |.tup xs,.tup ys=>if pP xs=true/\pP ys=true/\xs≠[]/\ys≠[]/\xs.length+ys.length<=1000 then some (.tup (xs++ys),q.2)else none
 |_,_=>none
def Nc(f:FM):FMA:=fun δ=>(f δ).bind fun p=>match sh p.1 with
 |.tup ds=>some (ds,p.2)
 |_=>none
section
variable {pos:Pos}
def KN(G:PW X a wa)(D:POD X lo fl)(C:POD X hi fh):PW X (.Subscript a (.Slice lo hi none p2) pos) (ul wa fl fh):=cH (mY Ku G D C) fun{σ H Q F δ As d δ'} R q k=>by
 unfold ul at q;obtain⟨⟨S,δ1⟩,L,q⟩:=Za.mp q;obtain⟨l,x,q⟩:=Za.mp q;obtain⟨h,y,q⟩:=Za.mp q;dsimp only at x y q;split at q
 . rename_i ds;split at q
   . rename_i u;cases q;refine ⟨F,δ,As,_,_,R,L,fun v F1 H1 A Q4 I r B=>⟨_,l,r.toS,x,fun H2 t=>⟨_,h,r.toS.mono t,y,fun U z=>?_⟩⟩⟩
     obtain⟨p,vs,rfl,sq,j⟩:=B.parts;have J:=j.noo_nil u.1;subst J;have f:=t.trans z;refine⟨p,vs,rfl,gR f sq,by rw[j.length,<- kP,<- kP];exact u.2,fun O o=>?_⟩
     have s:=f.trans (a8 o (.tup (sE vs l h)));exact k _ F1 _ [] Q4 (I.grow s) (r.grow s) (.tup (SqT.of aL) ((j.frame (bi s) fun _ m=>nomatch m).cut0 l h))
   . cases q
 . cases q
theorem Hr(U:PW X a wa)(S:PW X b wb):PW X (.BinOp a .Add b pos) (qk wa wb):=cH (zm Ir U S) fun{σ H Q F δ As d δ'} R q k=>by
 unfold qk at q;obtain⟨⟨d1,δ1⟩,e1,q⟩:=Za.mp q;obtain⟨⟨d2,G⟩,C,q⟩:=Za.mp q;dsimp only at C q;split at q
 . rename_i xs ys _;split at q
   . rename_i o;cases q;refine ⟨F,δ,As,_,δ1,R,e1,fun v F1 H1 A Q4 l D y=>⟨F1,δ1,Q4,_,_,D,C,fun w F2 H2 B Q5 j R2 I=>?_⟩⟩
     obtain⟨p,vs,rfl,sq,t⟩:=(j.stays D.domA y l.dj).parts;obtain⟨J,ws,rfl,r,f⟩:=I.parts;have Z:=t.noo_nil o.1;have Y:=f.noo_nil o.2.1;subst Z;subst Y;have O:=t.length;have L:=f.length;refine⟨p,J,vs,ws,rfl,rfl,sq,r,fun z=>?_,eT (by lia),fun z=>?_,fun _ p3 u=>?_⟩
     . subst z;exact o.2.2.1 (List.eq_nil_of_length_eq_zero O.symm)
     . subst z;exact absurd (List.eq_nil_of_length_eq_zero L.symm) o.2.2.2.1
     . have s:=a8 u (.tup (vs++ws));have V:=(l.seq j fun x m=>(y.dom x m).1).grow s
       exact k _ F2 _ [] Q5 V (R2.grow s) (.tup (SqT.of aL) ((t.app0 f).frame (bi s) fun _ m=>nomatch m))
   . cases q
 . cases q
end
noncomputable def E4:D->Option Bool
 |.str _=>some true
 |.int _=>some false
 |.bl _=>some false
 |.non=>some false
 |_=>none
def EE (d) (b) (h:E4 d=some b):sj "str" d b:=by cases d<;>(first|cases h)<;>exact⟨_,rfl,fun K=>rfl⟩
theorem CallD.or(h:CallD K r G)(h':CallD K r' G'):CallD K (fun xs H Q=>r xs H Q\/r' xs H Q) (fun ds=>(G ds).or (G' ds)):=fun xs H Q ds d j e k=>by
 cases z:G ds with
 |some d' =>have f:(G ds).or (G' ds)=some d:=e;rw[z]at f;cases f;exact .inl (h xs H Q ds _ j z k)
 |none =>have f:(G ds).or (G' ds)=some d:=e;rw[z]at f;exact .inr (h' xs H Q ds d j f k)
def rD(as:List D):Option D:=(Mp as).or (Fk as)
def tR(as:List D):Option D:=(Mq as).or (wC as)
section
def t9:bootBuiltins "str" = some (.type "str"):=by decide +kernel
theorem hu2{A}(f:Room k A):A.units+2<cLine:=by have:=f.units;lia
end
section
def v3 {pos} {t} {g} {sq} (zk:ZO Z i) (hN:X.N.Nodup) (hi:PIQ X tg iter src) (hg:∀ C s₂ H₂ fp x,PG (aY X scope cl T N C s₂ H₂ fp x) tg t) (good:∀ L,iB X.K (fun u=>u.drop T.length=L) t g) (hc:∀ C s₂ H₂ fp x,si (aY X scope cl T N C s₂ H₂ fp x) X5 fc) (he:∀ C s₂ H₂ fp x,PW (aY X scope cl T N C s₂ H₂ fp x) X7 felt) (O:CompG X scope cl T N js)
 (U:∀{δ}{r},sq δ=some r->∃d δ',aA src T.length js g fc felt δ=some (d,δ')/\∀{E}{F H F' H'}{σ}{As Q2}{v}{A},RPQ X Z E F H As r->EvW F H As F' H' Q2 A->RepA X.K F' H' σ δ' Q2->RepO X.K F' H' v d A->Z (σ.set i (some v))->E.nx (σ.set i (some v)) H')
 (S:swapsWith (.ListComp X7 [⟨tg,iter,X5,0⟩] scope pos) (some (.Name y py)) spos.line X.env=pure true) (hy:X.N[i]?=some y) (hl:Loc X.env.scope y) (hcm:X.calm=true)
 (hs:∀v,foldedSetIterable iter X.env v=pure v) (hfn:X.fn y=true\/X.env.scope.names.lookup y=some .local) :
 PQ X Z (.Assign [.Name y py] (.ListComp X7 [⟨tg,iter,X5,0⟩] scope pos) spos) sq:=by
 intro Q0 s σ H E I ⟨F,δ,As,r,RA,z,q0,k⟩;obtain⟨d,δ',q,k2⟩:=U q0;unfold aA at q;obtain⟨⟨ds,δ1⟩,eds,q⟩:=Za.mp q;obtain⟨⟨cs,δc⟩,D,q⟩:=Za.mp q;obtain⟨⟨xs,ιe⟩,hm,q⟩:=Za.mp q;split at q
 . rename_i hz;cases q;rw [exec_Assign_Name_used _ _ _ _ S];refine Z2 (wpAny_standAt (Z2 ?_));refine Z2 (wpAny_mono (wpAny_comprehension_free rfl hs O.clos O.kind O.names ?_) (fun _ s' hq=>Z3 (Z3 hq)) fun _ _ z=>z)
   refine wpAny_mono (hi Q0 s σ H (fun J H1=>∃F1 Q4,EvW F H As F1 H1 Q4 []/\RepA X.K F1 H1 σ δ1 Q4/\ItG X.K J F1 ds) I ⟨F,δ,As,ds,δ1,RA,eds,fun J F1 H1 Q4 ev G f=>⟨F1,Q4,ev,G,f⟩⟩) (fun v s1 h1=>wpAny_mono h1 (fun itv s2 h2=>?_) fun _ _ z=>z) fun _ _ z=>z
   obtain⟨it,fp,tn,J,H2,rfl,j,TT,st,hf,F1,Q4,ev,G,f⟩:=h2;obtain⟨vs,lk⟩:=mN G D;obtain⟨A,Asc,B,Rc,rs,_⟩:=jY G D lk;obtain⟨l1,l2,l3⟩:=qV lk;rw[l3]at rs;obtain⟨AA,RAi,sub⟩:=rs.toA G.fz B.nd;have R0:=RAi.padL T.length;rw[<- l1]at R0;refine pG j hcm O TT st hf f R0 hg (good _) hc he hm hz ?_;intro DA C s' H' ws u F' Q2 Acc l IX fD fD2 Q R' rr ev' ⟨m,hn⟩ fC;obtain⟨X3,ev4,R4,r4⟩:=t6 ev B Rc R0 sub R' rr ev' Q l1 l2 fD;refine wpAny_assign_Name (sU (v:=.ref DA) IX hN hy hl rfl (fun s9 I9 h0=>?_) hfn)
   obtain⟨a,V,ha⟩:=h0;have hCa:C≠a:=by
    rintro rfl
    rcases ha with z|z
    . exact absurd (ZC j.lt (by rw[<- z];exact l)) (ZJ _)
    . obtain⟨v,o,h1,_⟩:=j.cell y _ z;exact absurd (ZC (ZT h1) l) (ZJ _)
   refine⟨m,hn.at' fun o e=>(V.2 C hCa).trans e,fun h' Y=>⟨_,_,?_,k2 k ev4 R4 r4 (zk _ _ z)⟩⟩
   exact I9.turned (fun b o hb e=>(Y.2 b hb).trans e) fC (Nat.ne_of_gt (ZC j.lt l)) (.inr (ZY j.sz l))
    (fun y c e z=>by obtain⟨v,o,h1,_⟩:=j.cell y c e;exact absurd (ZC (ZT h1) (by rw[z];exact l)) (ZJ _))
    (fun p hp z=>absurd (ZC (ZT (j.pin p hp).1) (by rw[z];exact l)) (ZJ _))
 . cases q
def HM(i) {pos} {t} {g} (u:ZO Z i) (J:X.N.Nodup) (hi:PIQ X tg iter src) (G:∀C s₂ H₂ fp f,PG (aY X scope cl T N C s₂ H₂ fp f) tg t) (good:∀j,iB X.K (fun l=>l.drop T.length=j) t g) (I:∀C s₂ H₂ fp f,si (aY X scope cl T N C s₂ H₂ fp f) X5 fc) (he:∀C s₂ H₂ fp f,PW (aY X scope cl T N C s₂ H₂ fp f) X7 felt) (O:CompG X scope cl T N js)
 (m:swapsWith (.ListComp X7 [⟨tg,iter,X5,0⟩] scope pos) (some (.Name y py)) spos.line X.env=pure true:=by rfl) (x:X.N[i]?=some y:=by kernel_rfl) (D:Loc X.env.scope y:=by exact loX (by kernel_rfl)) (p:X.calm=true:=by rfl)
 (B:FsX X iter:=by intro _;rfl) (o:FoX X y:=by exact foX (by kernel_rfl)) :
 PQ X Z (.Assign [.Name y py] (.ListComp X7 [⟨tg,iter,X5,0⟩] scope pos) spos) (dB i (aA src T.length js g fc felt)) :=
 v3 u J hi G good I he O (fun{δ r} q=>by
  unfold dB at q;obtain⟨⟨d,δ'⟩,Q,q⟩:=Za.mp q;cases q;exact⟨d,δ',Q,fun{E F H F' H' σ As Q2 v A} k L S r' z=>by obtain⟨Q5,s,R2⟩:=S.setQ L i r';exact k _ F' H' Q5 s R2 z⟩) m x D p B o
def DZ(i) {pos} {t} {g} (x:ZO Z i) (Q:X.N.Nodup) (hi:PIQ X tg iter src) (J:∀C s₂ H₂ fp f,PG (aY X scope cl T N C s₂ H₂ fp f) tg t) (good:∀j,iB X.K (fun l=>l.drop T.length=j) t g) (L:∀C s₂ H₂ fp f,si (aY X scope cl T N C s₂ H₂ fp f) X5 fc) (he:∀C s₂ H₂ fp f,PW (aY X scope cl T N C s₂ H₂ fp f) X7 felt) (O:CompG X scope cl T N js)
 (m:swapsWith (.ListComp X7 [⟨tg,iter,X5,0⟩] scope pos) (some (.Name y py)) spos.line X.env=pure true:=by rfl) (D:X.N[i]?=some y:=by kernel_rfl) (I:Loc X.env.scope y:=by exact loX (by kernel_rfl)) (p:X.calm=true:=by rfl)
 (G:FsX X iter:=by intro _;rfl) (o:FoX X y:=by exact foX (by kernel_rfl)) :
 PQ X Z (.Assign [.Name y py] (.ListComp X7 [⟨tg,iter,X5,0⟩] scope pos) spos) (aB i (aA src T.length js g fc felt)) :=
 v3 x Q hi J good L he O (fun{δ r} q=>by
  unfold aB at q;obtain⟨⟨d,δ'⟩,U,q⟩:=Za.mp q;cases q;exact⟨d,δ',U,fun{E F H F' H' σ As Q2 v A} k S Y r' z=>by obtain⟨F2,u,R2,B,_⟩:=S.freeze Y r';obtain⟨X3,s,V⟩:=R2.setQ u i B;exact k _ F2 H' X3 s V z⟩) m D I p G o
end
def Km(K:ZA)(f:FM):TT:=fun σ H Q=>∃F δ As b δ',RepA K F H σ δ As/\f δ=some (.bl b,δ')/\∀F' H' Q2,EvW F H As F' H' Q2 []->RepA K F' H' σ δ' Q2->Q b H'
def PTW(X:Cx)(e:Expr)(f:FM):Prop:=PT X e (Km X.K f)
def PWW(X:Cx)(e:Expr)(f:FM):Prop:=L2.PW X e (Km X.K f)
def Og{t}{f}(h:L2.PW X e t)(w:∀{σ H Q F δ As b δ'},RepA X.K F H σ δ As->f δ=some (.bl b,δ')->(∀F' H' Q2,EvW F H As F' H' Q2 []->RepA X.K F' H' σ δ' Q2->Q b H')->t σ H Q):PWW X e f:=Oh h fun _ _ _ h=>h.elim fun _ h=>h.elim fun _ h=>h.elim fun _ h=>h.elim fun _ h=>h.elim fun _ h=>w h.1 h.2.1 h.2.2
noncomputable def o0(fa:FT)(wb:FM):FM:=fun δ=>(fa δ).bind fun b=>if b=true then wb δ else some (.bl false,δ)
section
variable {Q8:Yg Expr} {fa:FT} {s u:SQ} {pos:Pos}
def yQ{Q:Bool->Hp->Prop}(h:Km K fm σ H Q):upW K fm σ H fun x H'=>∃c,x=.bl c/\Q c H':=by
 obtain⟨F,δ,As,c,δ',R,q,k⟩:=h;refine⟨F,δ,As,_,δ',R,q,fun v F' H' A Q2 j f r'=>?_⟩
 cases r'.rep f.fz;exact⟨c,rfl,k F' H' Q2 j.bare f⟩
def Hw(h:PW X e fm)(he:∀f,isTrue e X.env f=(do let v <- f;standAt e.pos;holding [v] (truthy v)):=by intro _;rfl):PTW X e fm:=BM (xC h he) fun _ _ _ q=>yQ q
def Hy{r}{g}(f:OpR X (compareOp op) r)(l:R2D X.K r g)(o:PW X a wa)(m:PW X b wb)(j:behindInMarks op b=false):PTW X (.Compare a [op] [b] pos) (bX g wa wb):=BM (zh f o m j) fun _ _ _ q=>wx l (yQ q)
def Hx(f:X.A.units+64<cLine)(l:PW X a wa)(j:PW X b wb):PTW X (.Compare a [.Eq] [b] pos) (bX bC wa wb):=Hy (uI f) uz l j (eS _)
def PWW.pt(h:PWW X e fm):PTW X e fm:=h _
def Dv(f:PTW X a wa):PWW X (.BoolOp .And [a] pos) wa:=L2.pw_and1 f
def He(l:PTD X a fa)(j:PWW X (.BoolOp .And (b::Q8) pos) wb):PWW X (.BoolOp .And (a::b::Q8) pos) (o0 fa wb):=Og (L2.pw_and l j) fun{σ H Q F δ As c δ'} R q k=>by
 unfold o0 at q;obtain⟨d,o,q⟩:=Za.mp q;refine⟨δ,d,R.toS,o,fun H' f=>?_⟩
 cases d with
 |true=>rw[if_pos rfl]at q ⊢;exact⟨F,δ,As,c,δ',R.grow f,q,fun F' H2 Q2 m=>k F' H2 Q2 ((EvW.grew f).go m)⟩
 |false=>rw[if_neg ZB]at q ⊢;cases q;exact k F H' As (EvW.grew f) (R.grow f)
def Lg{sa sb}(l:PTW X cx fm)(o:PQs X Z sa s)(m:PQs X Z sb u):PQ X Z (.If cx sa sb pos) (lW fm s u):=ml (JZ l o m) fun{E σ H F δ As r} R z q k=>by
 unfold lW at q;obtain⟨⟨d,δ'⟩,p,q⟩:=Za.mp q;dsimp only at q;split at q
 . rename_i b;refine ⟨F,δ,As,b,δ',R,p,fun F' H' Q2 f j=>?_⟩
   cases b with
   |true=>rw[if_pos rfl]at q ⊢;exact⟨F',δ',Q2,r,j,z,q,k.mono f⟩
   |false=>rw[if_neg ZB]at q ⊢;exact⟨F',δ',Q2,r,j,z,q,k.mono f⟩
 . cases q
end
def fY(fa fb fc:FD):FD:=fun δ=>((fa δ).bind asN).bind fun i=>((fb δ).bind asN).bind fun j=>((fc δ).bind asN).bind fun k=>some (.bl (decide (i<=j)&&decide (j<=k)))
section
variable {fc:FD} {pos:Pos}
def t8{Q}(h:up X.K (fY fa fb fc) σ H Q):xk (rI0 fun i j=>.bl (decide (i<=j))) (rI0 fun i j=>.bl (decide (i<=j))) (up X.K fa) (up X.K fb) (up X.K fc) σ H Q:=by
 obtain⟨δ,d,R,q,k⟩:=h;unfold fY at q;obtain⟨i,ei,q⟩:=Za.mp q;obtain⟨j,J,q⟩:=Za.mp q;obtain⟨l,I,q⟩:=Za.mp q;obtain⟨x,ex,G⟩:=Za.mp ei;obtain⟨y,p,D⟩:=Za.mp J;obtain⟨z,o,C⟩:=Za.mp I;rw[vv G]at ex;rw[vv D]at p;rw[vv C]at o;cases q;refine⟨δ,.int i,R,ex,fun v H1 f B=>?_⟩
 cases B;refine⟨δ,.int j,R.mono f,p,fun u H2 m t=>?_⟩
 cases t;refine⟨i,j,rfl,rfl,decide (i<=j),rfl,?_⟩
 by_cases h:i<=j
 . rw [decide_eq_true h] at k ⊢;rw [if_pos rfl];refine ⟨δ,.int l,(R.mono f).mono m,o,fun w L r s=>?_⟩
   cases s;exact⟨j,l,rfl,rfl,k _ L ((f.trans m).trans r) (.bl _)⟩
 . rw[decide_eq_false h]at k ⊢;rw[if_neg ZB];exact k _ H2 (f.trans m) (.bl _)
def Bh(m:PD X a fa)(l:PD X b fb)(j:PD X c fc)(f:lastMarks [.LtE,.LtE] [b,c]=false:=by with_unfolding_all rfl):PD X (.Compare a [.LtE,.LtE] [b,c] pos) (fY fa fb fc):=imp (Em v9 v9 m l j f) fun _ _ _ h=>t8 h
def xB(m:PD X a fa)(l:PD X b fb)(j:PD X c fc)(f:lastMarks [.LtE,.LtE] [b,c]=false:=by with_unfolding_all rfl):PTD X (.Compare a [.LtE,.LtE] [b,c] pos) (fT (fY fa fb fc)):=BM (DO v9 v9 m l j f) fun _ _ _ q=>yH (fun _ _ _ z=>t8 z) q
end
def AE(f:FM):FM:=fun δ=>(f δ).bind fun p=>some (sh p.1,p.2)
def KO{f}(h:PW X e f):PW X e (AE f):=cH h fun{σ H Q F δ As d δ'} R q k=>by
 unfold AE at q;obtain⟨⟨r,j⟩,p,q⟩:=Za.mp q;cases q;refine⟨F,δ,As,r,j,R,p,fun v F' H' A Q2 o s r'=>?_⟩
 obtain⟨F2,l,R2,m,_⟩:=o.freeze s r';exact k v F2 H' [] Q2 l R2 m
noncomputable def OX(es:List Expr):List Str:=es.filterMap fun|.Name x _=>some x|_=>none
def tgN:Expr->List Str
 |.Name x _=>[x]
 |.Tuple es _ _=>OX es
 |_=>[]
noncomputable abbrev cnm(X:Cx)(js:List Nat):List Str:=js.map fun j=>X.N.getD j Str.empty
abbrev GF(X:Cx)(scope:Scope)(cl:List (Str×Addr))(T:List Str)(js:List Nat):Prop:=(∀y∈scope.names,y.2≠.cell)/\(∀y∈scope.names,y.2=.local->scope.names.lookup y.1=some .local)/\(T++cnm X js).Nodup/\(∀y∈T,y∉cl.map (·.1))/\(∀p∈scope.names,p.2=.free->p.1∈cl.map (·.1)) /\
 ∀j∈js,j<X.N.length/\X.N.getD j Str.empty∈cl.map (·.1)/\X.env.scope.names.lookup (X.N.getD j Str.empty)=some .cell/\(relabel scope X.env).names.lookup (X.N.getD j Str.empty)=some .cell
def CompG.au(l:closureFor scope X.env=pure cl)(f:scope.kind=.function)(m:cl.map (fun p=>X.env.cells.lookup p.1)=cl.map fun p=>some p.2)(b:decide (GF X scope cl T js)=true):CompG X scope cl T (T++cnm X js) js:=by
 obtain⟨z,x,v,u,t,o⟩:=Z7 b;refine .of l rfl z f x v (by simp) u (fun p r=>List.map_inj_left.mp m p r) t (fun y q=>?_) fun i y j h1 h2=>?_
 . obtain⟨j,s,rfl⟩:=Zr.mp q;exact(o j s).2.1
 . obtain⟨z1,-,z3,z4⟩:=o j (List.mem_of_getElem? h2);rw[ZK,h2]at h1;cases h1;exact⟨by show _=some (X.N.getD j Str.empty);rw[List.getD_eq_getElem?_getD,Zx z1];rfl,z3,z4⟩
section
variable {pos:Pos} {t:TG} {g:D->DS->Ye DS}
def vX(good:∀m,iB X.K (fun o=>o.drop (tgN tg).length=m) t g)(l:closureFor scope X.env=pure cl)(hi:PIQ X tg iter src)(u:(tgN tg++cnm X js).Nodup->∀C s₂ H₂ fp f,PG (aY X scope cl (tgN tg) (tgN tg++cnm X js) C s₂ H₂ fp f) tg t)(v:∀C s₂ H₂ fp f,si (aY X scope cl (tgN tg) (tgN tg++cnm X js) C s₂ H₂ fp f) X5 fc)(he:∀C s₂ H₂ fp f,PW (aY X scope cl (tgN tg) (tgN tg++cnm X js) C s₂ H₂ fp f) X7 felt)
 (j:scope.kind=.function:=by rfl) (r:cl.map (fun p=>X.env.cells.lookup p.1)=cl.map (fun p=>some p.2):=by kernel_rfl) (b:decide (GF X scope cl (tgN tg) js)=true:=by kernel_rfl) (q:X.calm=true:=by rfl)
 (s:FsX X iter:=by intro _;rfl):PW X (.ListComp X7 [⟨tg,iter,X5,0⟩] scope pos) (aA src (tgN tg).length js g fc felt) :=
 have O:=CompG.au l j r b
 DE hi (u O.nd) good v he O q s
def qG(i) (v:ZO Z i) (H:X.N.Nodup) (good:∀r,iB X.K (fun s=>s.drop (tgN tg).length=r) t g) (q:closureFor scope X.env=pure cl) (hi:PIQ X tg iter src) (D:(tgN tg++cnm X js).Nodup->∀C s₂ H₂ fp f,PG (aY X scope cl (tgN tg) (tgN tg++cnm X js) C s₂ H₂ fp f) tg t) (G:∀C s₂ H₂ fp f,si (aY X scope cl (tgN tg) (tgN tg++cnm X js) C s₂ H₂ fp f) X5 fc) (he:∀C s₂ H₂ fp f,PW (aY X scope cl (tgN tg) (tgN tg++cnm X js) C s₂ H₂ fp f) X7 felt)
 (l:swapsWith (.ListComp X7 [⟨tg,iter,X5,0⟩] scope pos) (some (.Name y py)) spos.line X.env=pure true:=by rfl) (x:X.N[i]?=some y:=by kernel_rfl) (B:Loc X.env.scope y:=by exact loX (by kernel_rfl))
 (j:scope.kind=.function:=by rfl) (u:cl.map (fun p=>X.env.cells.lookup p.1)=cl.map (fun p=>some p.2):=by kernel_rfl) (b:decide (GF X scope cl (tgN tg) js)=true:=by kernel_rfl) (o:X.calm=true:=by rfl)
 (z:FsX X iter:=by intro _;rfl) (m:FoX X y:=by exact foX (by kernel_rfl)):PQ X Z (.Assign [.Name y py] (.ListComp X7 [⟨tg,iter,X5,0⟩] scope pos) spos) (dB i (aA src (tgN tg).length js g fc felt))/\PQ X Z (.Assign [.Name y py] (.ListComp X7 [⟨tg,iter,X5,0⟩] scope pos) spos) (aB i (aA src (tgN tg).length js g fc felt)) :=
 have O:=CompG.au q j u b
 ⟨HM i v H hi (D O.nd) good G he O l x B o z m,DZ i v H hi (D O.nd) good G he O l x B o z m⟩
def zkI(f:∀i,n<=i->ZO Z i)(i) (h:n<=i):ZO Z i:=f i h
def zkA{f:Yg Nat}(j:∀i,n<=i->ZO Z i)(h:∀i∈f,n<=i):∀i∈f,ZO Z i:=fun i m=>j i (h i m)
def N1{i}(h:∃t,X.mg x=some (.int i t))(f:Gl X x:=by rfl)(j:NbX x:=by kernel_rfl):PD X (.Name x pos) (fC (.int i)):=Exists.elim h fun _ h=>Im f h j
def N0(h:∃t,X.mg x=some (.str z t))(f:Gl X x:=by rfl)(j:NbX x:=by kernel_rfl):PD X (.Name x pos) (fC (.str z)):=Exists.elim h fun _ h=>Il f h j
def LU(h:∃c,X.mg x=some (.ref c)/\GTup X.K c zs)(e:zs.map D.str=ds)(f:Gl X x:=by rfl)(j:NbX x:=by kernel_rfl):PD X (.Name x pos) (fC (.tup ds)):=e▸Exists.elim h fun _ h=>Ik h.2 f h.1 j
end
variable {o:Expr} {Q7 pos X0:Pos} {f:FM} {fo:FD} {G:GQ} {s:SQ}
def Itv(o:Obj)(d:Addr):It:=⟨fun i H=>∃Q6:List (Str×V),H d=some (.frz o (.dK Q6))/\i<Q6.length,fun i H v H'=>H'=H/\∀Q6,H d=some (.frz o (.dK Q6))->(Q6.map (·.2))[i]?=some v,fun i H=>∃Q6,H d=some (.frz o (.dK Q6))/\Q6.length<=i⟩
def FU{Q0}{σ}{H:Hp}{s:Yc}{o:Obj}{es ep}{d:Yd}{Q6}(I:L2.Inv X Q0 σ H s)(j:o.data=.dict es ep)(h:H d=some (.frz o (.dK Q6))):∃vs,s.heap.DictAt (PySem.strKind X.prog X.w) d vs ep/\es.size=vs.length/\KV Q6 vs/\(d==sysModules)=false:=by obtain⟨g,p,vs,r,o',q,t,g',ex,l,ke,f,m⟩:=I.hok d _ h;rw[g]at g';cases g';rw[j]at l;cases l;exact⟨vs,⟨o,es,g,ex,j,ke,f,m⟩,by rw[<- Array.length_toList];exact f.length,r,p⟩
def Mh{Q6:Yg (Str×V)}{vs:Yg (Str×Yb)}(r:KV Q6 vs):∀{i},i<Q6.length->∃k u v,vs[i]?=some (k,u)/\(Q6.map (·.2))[i]?=some v/\RelV v u:=by
 induction r with
 |nil=>intro i h;cases h
 |@cons p q _ _ r _ f =>
  intro i h;cases i with
  |zero=>exact⟨q.1,q.2,p.2,rfl,rfl,r.2⟩
  |succ i=>exact f (Nat.lt_of_succ_lt_succ h)
theorem AG{P w tg}{o:Obj}{es ep}(L:o.data=.dict es ep)(d it:Yd):w9 P w K tg (Itv o d) [it] it (fun i h=>h.IsValIter it d i es.size ep) where
 mem:=by simp
 obj:=fun i h st b f=>by
  obtain rfl:b=it:=by simpa using f
  obtain⟨o,e,c,d⟩:=st;exact⟨o,e,fun v z=>by rw[d]at z;cases z⟩
 keep:=fun i h h' st k=>st.at fun o e=>k it (by simp) o e
 item:=by
  intro X t p x O i Q0 s σ H E I m st q;subst t p x;obtain⟨Q6,l,hi⟩:=q;obtain⟨vs,G,sz,r,_⟩:=FU I L l;obtain⟨k,u,v,Y,V,S⟩:=Mh r hi;obtain⟨D,f1,f2,C,B,y⟩:=m it (by simp)
  rw[sz]at st ⊢;refine wpAny_pyNext_values_item st G Y fun h' j Q=>?_
  have Z:=I.turned (t':=s.toks) (fun b o f e=>(Q.2 b f).trans e) D f1 C B y
  obtain⟨o,e,c,d⟩:=id j;exact⟨u,rfl,zP e c d (by decide) ⟨v,H,Z,S,⟨rfl,fun J h'=>by rw[l]at h';cases h';exact V⟩,j,fun b f=>(m b f).1⟩⟩
 done:=by
  intro X t p x O i Q0 s σ H E I m st q;subst t p x;obtain⟨Q6,l,hi⟩:=q;obtain⟨vs,G,sz,r,_⟩:=FU I L l;obtain⟨D,f1,f2,C,B,y⟩:=m it (by simp)
  have hl:=r.length;rw[sz]at st;exact wpAny_pyNext_values_end (I.ok.hd O) st G (by simp;lia) fun h' U=>⟨rfl,I.turned (fun b o f e=>U b o f e) D f1 C B y⟩
 self:=fun _ _ _ _ _ st h=>wpAny_pyIter_valiter st h
def Nu:V->List V->Hp->VK->Prop:=fun x xs H Q=>∃d o Q6,x=.ref d/\H d=some (.frz o (.dK Q6))/\xs=[]/\∀p,H p=none->Q (.ref p) (upd H p (.ext fun h=>h.IsValuesView p d))
def ID:MtR X "dict.values" Nu:=by
 intro Q0 s σ H x xs v us Q I j l h;obtain⟨d,o,Q6,rfl,h1,rfl,q⟩:=h;cases j;cases l;obtain⟨g,m,vs,r,dd⟩:=I.hok d _ h1;have f:=I.hok.fresh (ZM _);refine call_meetsIn F.slot_dict_values dd.typeIs F.entry_dict_values (F.args_dict_values_1 _) (meets_dict_values (PySem.strKind X.prog X.w) d m) ⟨⟨vs,dd⟩,.ref s.heap.objs.size,_,kY I (fun b o e=>ZS _ e) (Sw.none_size (ZM _)) f (u:=.ext fun h=>h.IsValuesView s.heap.objs.size d) ⟨⟨_,ZW _ rfl,rfl,rfl⟩,⟨_,ZW _ rfl⟩,fun h1 h2 y z=>?_⟩,rfl,q _ f⟩
 obtain⟨o,e,p⟩:=y;exact⟨o,z _ e,p⟩
def H8{l:Expr}{tl:TE}(y:PE X l tl):PI X tg l (fun σ H R=>tl σ H fun x H1=>∃p d o Q6,x=.ref p/\H1 p=some (.ext fun h=>h.IsValuesView p d)/\H1 d=some (.frz o (.dK Q6))/\R (Itv o d) H1):=by
 intro Q0 s σ H R I h;refine cW (y Q0 s σ H _ I h) fun{v j x H1} f r t=>?_
 obtain⟨p,d,o,Q6,rfl,h1,h2,q⟩:=t;cases r;obtain⟨u,_,_⟩:=f.hok p _ h1;obtain⟨_,_,vs,_,o',es,ep,g',ex,m,_⟩:=id (f.hok d _ h2);obtain⟨g,_⟩:=f.hok d _ h2;rw[g]at g';cases g';obtain⟨vs,B,sz,_⟩:=FU f m h2;refine wpAny_pyIter_values u B ?_;refine⟨j.heap.objs.size,[j.heap.objs.size],_,_,H1,rfl,f.kept fun b o e=>ZS _ e,AG m d _,⟨_,ZW _ rfl,rfl,by rw[sz];rfl⟩,fun b z=>?_,q⟩
 obtain rfl:b=j.heap.objs.size:=by simpa using z
 exact f.fpOk (ZM _) (f.hok.fresh (ZM _))
def yP(f:FM):FMA:=fun δ=>(f δ).bind fun p=>match sh p.1 with
 |.dv ds=>some (ds,p.2)
 |_=>none
theorem Ec (q:PW X o fm) (j:attributeBase o "values" X.env (eval o X.env)=eval o X.env:=by rfl) (f:(Q7.endLine==X0.line)=true:=by rfl):PIQ X tg (.Call (.Attribute o "values" Q7) [] [] X0) (yP fm):=tN (H8 (Eo F.plainAttrs_dict F.slot_dict_values F.type_dict_values ID q j f)) fun {σ H R F δ As ds δ'} V e k=>by
 unfold yP at e;obtain⟨⟨d,δ1⟩,S,e⟩:=Za.mp e;split at e
 . rename_i es J;cases e;refine ⟨F,δ,As,d,_,V,S,fun v F1 H1 A Q4 Q U I=>?_⟩
   obtain⟨F2,t,R2,_,z⟩:=Q.freeze U I;rw[J]at z;cases z with
   |@dv a o Q6 _ B u =>
    have r:=R2.fz _ _ B;refine⟨.inr (.inr ⟨rfl,Q6,o,r⟩),a,o,Q6,rfl,r,rfl,fun p L=>?_⟩
    have l:=a8 L (.ext fun h=>h.IsValuesView p a)
    refine⟨p,a,o,Q6,rfl,aL,l _ _ r,k _ F2 _ Q4 (t.grow l) (R2.grow l) fun i H2 s=>?_⟩
    have m:=s _ _ B;have q:=u.length;rw[Zl]at q;refine⟨fun hi=>⟨⟨Q6,m,by lia⟩,fun x H' y=>?_⟩,fun hi=>⟨Q6,m,by lia⟩⟩
    obtain⟨rfl,y⟩:=y;obtain⟨d,O,G⟩:=u.getV (y _ m);exact⟨Same.refl _,d,O,fun F' D C=>RepO.of_sh C (G.mono D)⟩
 . cases e
def Hk(J:PD X o fo)(F:xb X.prog X.w X.K X.mg X.base k C m ps G)(I:Room j X.A)(V:PAD X (e::es) ga)(hk:k<=j:=by decide)(L:(e::es).length+1=ps.length:=by kernel_rfl)
 (p:PlX X e es:=by rfl) (hpl:BkX X pos es:=by rfl)
 (D:eval (.Call (.Attribute o m Q7) (e :: es) [] pos) X.env=(do
  let z <- eval o X.env
  standAt Q7.atName
  let (f,first) <- holding [z] (getMethod z m pl)
  callWith pos f first (backTo pos (starEach (e::es) X.env)) (backToKw pos (keywordEach [] X.env))):=by rfl):PW X (.Call (.Attribute o m Q7) (e::es) [] pos) (iQ C m G fo ga):=by
 obtain⟨f,fd,F,O,U,S⟩:=F.ex;refine cH (uF J S O F (I.mono hk) U .nil iU V p hpl D) fun{σ H Q F0 δ As d δ'} R q k=>?_
 unfold iQ at q;obtain⟨d0,Z,q⟩:=Za.mp q;split at q
 . rename_i hi;obtain ⟨ds,t,q⟩:=Za.mp q;obtain ⟨⟨r,fin⟩,Y,q⟩:=Za.mp q;split at q
   . rename_i s;cases q;refine ⟨δ,d0,R.toS,Z,fun v H1 x y=>?_⟩
     obtain⟨a,dx,fs,rfl,h1,h2⟩:=kX hi y;refine⟨a,dx,fs,rfl,h1,h2,δ,ds,R.toS.mono x,t,fun vs H2 u B l=>?_⟩
     show ii X.K ps.length G (.ref a::(vs++[])) H2 Q E0;rw[Zj];exact mo R (x.trans u) (.cons (y.mono u) B) (by rw[Zm,l];exact L) Y s k
   . cases q
 . cases q
def Dy {t X2:Pos} (Y:Gl X "sorted") (U:X.mg "sorted" = none) (y:Gl X "set") (x:X.mg "set" = none) (h:PW X e f) (I:X.calm=true:=by rfl)
 (he:starEach [e] X.env=(false,eval e X.env)::starEach [] X.env:=by rfl) (hpl:(backTo X2 (starEach [] X.env)).any (·.1)=false:=by rfl)
 (s:starEach [.Call (.Name "set" t) [e] [] X2] X.env=(false,eval (.Call (.Name "set" t) [e] [] X2) X.env)::starEach [] X.env:=by rfl) (o:(backTo pos (starEach [] X.env)).any (·.1)=false:=by rfl) :
 PW X (.Call (.Name "sorted" p) [.Call (.Name "set" t) [e] [] X2] [] pos) (jX f) :=
 cH (qJ (yA I) Y U nN (bZ (kR (Ca I) y x Co (bZ h gl he) (by decide) (by decide) he hpl) gl s) (by decide) (by decide) s o) fun{σ H Q F δ As d δ'} R q k=>by
  unfold jX at q;obtain⟨⟨d1,δ1⟩,e1,q⟩:=Za.mp q;cases d1 with
  |lst ds =>
   obtain⟨j,e2,q⟩:=Za.mp (q);cases q;refine⟨F,δ,As,.lst ds,_,R,e1,fun v F1 H1 A Q4 L C S=>?_⟩
   obtain⟨a,vs,B,rfl,_,Z,nf,O⟩:=S.lst_inv rfl;obtain⟨rfl,J⟩:=xp O e2;refine⟨a,j,rfl,SqL.of Z,J,fun l V=>⟨l,j,rfl,aL,J,fun m r=>?_⟩⟩
   have G:=a8 V (G2 X.w l j);have D:=G.trans (a8 r (.lst ((Sw.srtN j).map vN)));have nm:=j1 G r;have g:=L.grow D;refine k (.ref m) F1 _ [m] Q4 ⟨g.fs,g.ks,g.nf,g.fa,fun b z=>?_,(by simp),fun i b mb z=>?_⟩ (C.grow D) (.lst aL (j1 C.fz nm) (sV (Sw.srtN j)))
   . rw[Zq.mp z];exact L.old nm
   . rw[Zq.mp z]at mb;obtain⟨⟨u,e⟩,_⟩:=C.dom mb;rw[nm]at e;cases e
  |_=>cases q
noncomputable def E5:D->Bool
 |.oo _ _ _=>true
 |_=>false
def ya(g:D->DS->Option DS)(s:SQ):List D->SQ
 |[]=>fun δ=>some (.nx δ)
 |d::ds=>fun δ=>(g d δ).bind fun δ1=>(s δ1).bind fun r=>match r with
  |.nx δ'=>ya g s ds δ'
  |.ct δ'=>ya g s ds δ'
  |.bk δ'=>some (.nx δ')
  |.rt d δ'=>some (.rt d δ')
def Ph(i:Nat)(d:D):RQ->RQ
 |.nx δ=>.nx (δ.set i (some d))
 |r=>r
def tp(i:Nat)(fm:FM)(g:D->DS->Option DS)(s:SQ):SQ:=fun δ=>match δ[i]? with
 |some (some (.lst ds))=>(fm (δ.set i none)).bind fun p=>match sh p.1 with
  |.seq es=>if ds.all E5=true then(ya g s (List.zipWith (fun d e=>.tup [d,sh e]) ds es) p.2).bind fun r=>some (Ph i (.lst (ds.map fun _=>.any)) r)else none
  |_=>none
 |_=>none
def RepOs.anys{F H:Hp}{vs:Yg V}{ds:Yg D}{A}(r:RepOs K F H vs ds A):ds.all E5=true->∀{F' H'},RepOs K F' H' vs (ds.map fun _=>.any) []:=by
 induction r using RepOs.ind with
 |nil=>exact fun _ {_ _}=>.nil
 | @cons v d _ _ _ _ r _ f =>
  intro h F' H';rw[List.all_cons,ZN]at h;have e:∃a,v=.ref a:=by
   have h:=h.1;unfold E5 at h;split at h
   . cases r with
     |imm i _=>cases i
     |oo=>exact⟨_,rfl⟩
   . cases h
  obtain⟨a,rfl⟩:=e;exact .cons (.imm rfl (.any a)) (f h.2) rfl
theorem HI (i) {t:TG} {g} {kt} {pt p':Pos} (zk:∀ j,n<=j->ZO Z j) (hp:PassesOwn (model X.prog X.w) X.A X.env X.xe) (hc:X.calm=true) (hg:PG X (.Tuple es kt pt) t) (good:∀ Z,(∀ j,i+1<=j->ZO Z j)->iB X.K Z t g) (hz:Gl X "zip") (hm:X.mg "zip" = none) (hv:PE X (.Name y py) (GT i)) (hb:PW X b fm) (hbd:∀ Z,(∀ j,i+1<=j->ZO Z j)->PQs X Z body s) (hn:n<=i+1:=by decide +kernel)
 (h1:starEach [.Name y py,b] X.env=[(false,eval (.Name y py) X.env),(false,eval b X.env)]:=by rfl) (h2:starEach [b] X.env=[(false,eval b X.env)]:=by rfl) (hs:FsX X (.Call (.Name "zip" p) [.Name y py,b] [] pos):=by intro _;rfl) :
 PQ X Z (.For (.Tuple es kt pt) (.Call (.Name "zip" p) [.Name y py,b] [] pos) body [] p') (tp i fm g s):=fun Q0 st σ H E I hq=>by
 obtain⟨F,δ,As,r,R,z,q,k⟩:=hq;unfold tp at q;split at q
 . rename_i ds hd;obtain ⟨⟨d0,δ1⟩,e0,q⟩:=Za.mp q;split at q
   . rename_i us hu;split at q
     . rename_i hoo;obtain ⟨r0,e1,q⟩:=Za.mp q;cases q;obtain ⟨a,vs,A0,s0,eA,ga,na,ro⟩:=R.lst hd;have hid:=(ZL.mp hd).1;have zk':∀ j,i+1<=j->ZO (fun f=>Z f/\f[i]? = some (some (.ref a))) j:=fun j hj f v z=>⟨zk j (by lia) f v z.1,by rw [List.getElem?_set_ne (by lia)];exact z.2⟩
       refine DU hp hc (Eg hz hm (bZ hv (bZ hb gl (by rw[h2];rfl)) (by rw[h1,h2])) h1 h2) hg (hbd _ zk') hs Q0 st σ H E I ?_
       have good:iB X.K (fun f=>Z f/\f[i]?=some (some (.ref a))) t g:=good _ zk'
       have sub:∀j x,x∈g8 As i [] j->x∈As j/\j≠i:=fun j x m=>by
        by_cases hj:j=i
        . subst hj;rw[aD]at m;cases m
        . rw[aG hj]at m;exact⟨m,hj⟩
       have ni:∀x,x∈As i->∀j,x∉g8 As i [] j:=fun x m j z=>R.dj j i x (sub j x z).2 (sub j x z).1 m
       have hai:a∈As i:=by rw[eA];exact Zo
       refine⟨.ref a,s0,F,δ.set i none,g8 As i [],d0,δ1,R.drop i,e0,fun v F1 H1 A Q4 l R1 r1=>?_⟩
       obtain⟨F2,G,R2,_,zz⟩:=l.freeze R1 r1;rw[hu]at zz;have dr:=(R.drop i).domA;have aH:=G.ks a _ ga (ni a hai);have aF:=G.nf a ⟨_,rfl⟩ ga na (ni a hai);have rp:=RepOs.stays G dr ro fun j x m z=>ni x (by rw[eA];exact Zp _ z) j m
       have dj0:∀j x,x∈Q4 j->x∉As i:=fun j x m z=>by
        rcases G.fa j x m with⟨j2,y⟩|y
        . exact ni x z j2 y
        . obtain⟨⟨u,e⟩,_⟩:=R.dom z;rw[y]at e;cases e
       have evA:EvW F H As F2 H1 Q4 []:=⟨G.fs,fun x u h m=>G.ks x u h fun j z=>m j (sub j x z).1,fun x u h n m=>G.nf x u h n fun j z=>m j (sub j x z).1,fun j x m=>by
        rcases G.fa j x m with⟨j2,y⟩|y
        . exact .inl ⟨j2,(sub j2 x y).1⟩
        . exact .inr y,fun _ m=>(nomatch m),Zy,fun _ _ _ z=>nomatch z⟩
       cases zz with
       | @seq b' ws _ hp' rp' =>
        have hvl:=ro.length;have hwl:=rp'.length;refine⟨a,b',rfl,⟨vs,SqL.of aH⟩,⟨ws,R2.fz.seq hp'⟩,?_⟩;have fin:∀{f H' F' δ' Q2},EvW F H As F' H' Q2 []->RepA X.K F' H' f δ' Q2->Z f->f[i]?=some (some (.ref a))->H' a=some (.lst vs)->F' a=none->(∀j,a∉Q2 j)->r0=.nx δ'->E.nx f H':=fun{f H' F' δ' Q2} l R' z1 s1 h1 n1 nj er=>by
         subst er;have hi:i<δ'.length:=by rw[<- R'.len];exact(ZL.mp s1).1
         have R3:=R'.set i hi (.lst h1 n1 (RepOs.anys ro hoo)) (by simp) fun j x _ m y=>nj j (Zq.mp y▸m)
         rw[mU s1]at R3;refine k f F' H' _ ⟨l.fs,l.ks,l.nf,fun j x m=>?_,fun _ m=>(nomatch m),Zy,fun _ _ _ z=>nomatch z⟩ R3 z1
         by_cases hj:j=i
         . subst hj;rw[aD]at m;exact .inl ⟨j,Zq.mp m▸hai⟩
         . rw[aG hj]at m;exact l.fa j x m
        refine⟨fun j m f H'=>m=ds.length-j/\∃F' δ' Q2 P,Same F2 F'/\EvW F H As F' H' Q2 []/\RepA X.K F' H' f δ' Q2/\Z f/\f[i]?=some (some (.ref a))/\H' a=some (.lst vs)/\F' a=none/\RepOs X.K F' H' (vs.drop j) (ds.drop j) P/\(a::P).Nodup/\(∀k x,x∈Q2 k->x∉a::P)/\(∀x∈P,x∈As i)/\ya g s ((List.zipWith (fun d e=>D.tup [d,sh e]) ds us).drop j) δ'=some r0,⟨ds.length,rfl,F2,δ1,Q4,A0,Same.refl _,evA,R2,z,s0,aH,aF,rp,by rw[<- eA];exact R.nd i,fun j x m=>by rw[<- eA];exact dj0 j x m,fun x m=>by rw[eA];exact Zp _ m,e1⟩,?_⟩
        rintro j m f H' ⟨rfl,F',δ',Q2,P,sF,evj,R',z1,s1,h1,n1,rj,nd,dj,sb,Q⟩
        have hq':=R'.fz.seq (sF.seq hp')
        by_cases hlt:j<ds.length/\j<us.length
        . obtain ⟨hld,hlu⟩:=hlt;rw [List.drop_eq_getElem_cons (by rw [List.length_zipWith];lia),List.getElem_zipWith] at Q
          obtain⟨δ3,e3,Q⟩:=Za.mp Q;obtain⟨r4,e4,Q⟩:=Za.mp Q;refine .inr ⟨⟨vs,ws,vs[j]'(by lia),ws[j]'(by lia),SqL.of h1,hq',by simp[show j<vs.length by lia],by simp[show j<ws.length by lia]⟩,fun Y H2=>∃F' δ' Q2 P,Same F2 F'/\EvW F H As F' H2 Q2 []/\RepA X.K F' H2 Y δ' Q2/\Z Y/\Y[i]?=some (some (.ref a))/\H2 a=some (.lst vs)/\F' a=none/\RepOs X.K F' H2 (vs.drop (j+1)) (ds.drop (j+1)) P/\(a::P).Nodup/\(∀k x,x∈Q2 k->x∉a::P)/\(∀x∈P,x∈As i)/\ya g s ((List.zipWith (fun d e=>D.tup [d,sh e]) ds us).drop (j+1)) δ'=some r0,fun Y H2 y=>⟨ds.length-(j+1),by lia,rfl,y⟩,fun y H2 yy=>?_⟩
          obtain⟨c,u,v,rfl,hc,rfl,yu,yv⟩:=yy;have sn:=a8 hc (.tup [u,v]);obtain⟨du,hdu,rdu⟩:=rp'.getV (yv ws hq');have hdu':us[j]=du:=by rw[Zx hlu]at hdu;exact ZG hdu
          have hu':vs[j]'(by lia)=u:=by have:=yu vs (SqL.of h1);rw[Zx (by lia)]at this;exact ZG this
          rw[List.drop_eq_getElem_cons (by lia),List.drop_eq_getElem_cons hld,hu']at rj
          cases rj with
          | @cons _ _ _ _ B P' _ rx rt eP =>
           subst eP;have R2':=R'.grow sn;have rx':=rx.frame (bi sn) fun x m=>by obtain⟨⟨w,e⟩,_⟩:=rx.dom x m;rw[e];exact sn _ _ e
           have rt':=rt.frame (bi sn) fun x m=>by obtain⟨⟨w,e⟩,_⟩:=rt.dom x m;rw[e];exact sn _ _ e
           have nd':=Z1.mp nd;have nd2:=Z0.mp nd'.2;refine good R2' (.tup (SqT.of aL) (.cons rx' (.cons (show RepO X.K F' _ v (sh us[j]) []from ?_) .nil rfl) (by simp))) nd2.1 (fun k x m z=>dj k x m (Zp _ (ZE _ z))) e3 ⟨z1,s1⟩ fun σ3 X3 R3 h3 z3=>?_
           . rw[hdu'];exact RepO.of_sh R2'.fz (rdu.mono sF)
           have nP:∀k x,x∈X3 k->x∉a::P':=fun k x m z=>by
            rcases h3 k x m with⟨k2,y⟩|y
            . exact dj k2 x y (by rcases Zt.mp z with z | z
                                  . exact z▸Zo
                                  . exact Zp _ (ZD _ z))
            . rcases Zt.mp z with z | z
              . exact nd'.1 (z▸ZE _ y)
              . exact nd2.2.2 x y x z rfl
           have ev3:EvW F H As F' (upd H' c (.tup [u,v])) X3 []:=⟨evj.fs,fun x w h m=>sn _ _ (evj.ks x w h m),evj.nf,fun k x m=>by
            rcases h3 k x m with⟨k2,y⟩|y
            . exact evj.fa k2 x y
            . exact .inl ⟨i,sb x (ZE _ y)⟩,fun _ m=>(nomatch m),Zy,fun _ _ _ z=>nomatch z⟩
           have h1':=sn _ _ h1;refine⟨F',δ3,X3,r4,R3,z3,e4,?_⟩;have O:∀{J L V o C},EvW F' (upd H' c (.tup [u,v])) X3 L V o []->RepA X.K L V J C o->V a=some (.lst vs)/\L a=none/\RepOs X.K L V (vs.drop (j+1)) (ds.drop (j+1)) P'/\∀k x,x∈o k->x∉a::P':=fun{J L V o C} l S=>⟨l.ks a _ h1' fun k m=>nP k a m Zo,l.nf a ⟨_,rfl⟩ h1' n1 fun k m=>nP k a m Zo,RepOs.stays l R3.domA rt' fun k x m z=>nP k x m (Zp _ z),fun k x m z=>by
            rcases l.fa k x m with⟨k2,y⟩|y
            . exact nP k2 x y z
            . rcases Zt.mp z with z | z
              . rw[z,h1']at y;cases y
              . obtain⟨⟨w,e⟩,_⟩:=rt'.dom x z;rw[y]at e;cases e⟩
           have ndP:(a::P').Nodup:=Z1.mpr ⟨fun z=>nd'.1 (ZD _ z),nd2.2.1⟩
           cases r4 with
           |nx C=>exact fun J L V o l S z4=>(O l S).elim fun m1 U=>⟨L,C,o,P',sF.trans l.fs,ev3.go l,S,z4.1,z4.2,m1,U.1,U.2.1,ndP,U.2.2,fun x m=>sb x (ZD _ m),Q⟩
           |ct C=>exact fun J L V o l S z4=>(O l S).elim fun m1 U=>⟨L,C,o,P',sF.trans l.fs,ev3.go l,S,z4.1,z4.2,m1,U.1,U.2.1,ndP,U.2.2,fun x m=>sb x (ZD _ m),Q⟩
           |bk C=>exact fun J L V o l S z4=>(O l S).elim fun m1 U=>fin (ev3.go l) S z4.1 z4.2 m1 U.1 (fun k m=>U.2.2 k a m Zo) (ZG Q).symm
           |rt d4 C =>cases Q;exact fun v4 J L V o A4 l S z4 r4=>k v4 J L V o A4 (ev3.go l) S z4.1 r4
        . have e:(List.zipWith (fun d e=>D.tup [d,sh e]) ds us).drop j=[]:=List.drop_eq_nil_iff.mpr (by rw [List.length_zipWith];lia)
          rw[e]at Q;cases Q;exact .inl ⟨⟨vs,ws,SqL.of h1,hq',by lia⟩,fin evj R' z1 s1 h1 n1 (fun k m=>dj k a m Zo) rfl⟩
     . cases q
   . cases q
 . cases q
end Dl
namespace Hq
open PySem PySem.Spec PyProof.Rows L2 PySem.W
variable {K:Frag} {x:Str} {f C:Yd} {zs:Yg Str}
theorem Mt{q:Str}{st:Stmt}{d:FuncData}{b:Bool}(e:(d.name,d.qualname,d.params,d.body,d.scope,d.globals,d.closure,d.defaults,d.builtins,b)=(x,q,eV st,FuncBody.stmts (cB st),aU st,mainGlobals,[],.none,builtinsNs,true)):b=true/\∃f X4 pm an Q9 ct,d=fnOf x q (eV st) (cB st) (aU st) .none f X4 pm an Q9 ct:=by cases d;cases e;exact⟨rfl,_,_,_,_,_,_,rfl⟩
theorem Ms{q:Str}{st:Stmt}(j:fr K q f=fq x q st)(p:keepIn K (.ref f)=true) :
 ∃fd,Fun K x q st f fd/\∃(l X4 pm:Yb)(an:Ye Yd)(Q9 ct:Yb),fd=fnOf x q (eV st) (cB st) (aU st) .none l X4 pm an Q9 ct:=by
 unfold fr fq at j;cases m:K.lookup f with
 |none=>rw[m]at j;cases j
 |some o =>
  rw[m]at j;obtain⟨oc,od,r,osl⟩:=o;cases r with
  |func d =>obtain⟨h,l,X4,pm,an,Q9,ct,rfl⟩:=Mt (ZG j);exact⟨_,Mr m h p,l,X4,pm,an,Q9,ct,rfl⟩
  |_=>cases j
def fv(K:Frag)(x q:Str)(f:Addr):=(nsIn K mainGlobals x,keepIn K (.ref f),fr K q f)
def fe(x q:Str)(st:Stmt)(f:Addr):=(some (some (Value.ref f)),true,fq x q st)
theorem MK(e:cv K C=ce):Cls K C:=by obtain⟨m,e⟩:=ZX e;obtain⟨l,e⟩:=ZX e;obtain⟨j,f⟩:=ZX e;exact⟨m,l,j,f⟩
theorem Mg(e:kv K C x f=ke C f):Mk K C f/\nsIn K mainGlobals x=some (some (.ref C)):=by obtain⟨p,e⟩:=ZX e;obtain⟨o,e⟩:=ZX e;obtain⟨m,e⟩:=ZX e;obtain⟨l,j⟩:=ZX e;exact⟨⟨p,l,j,o⟩,m⟩
theorem Mm(c:Cls K C)(e:iv K C=ie):Dl.ClsI K C/\Dl.ClsE K C:=by obtain⟨o,e⟩:=ZX e;obtain⟨m,e⟩:=ZX e;obtain⟨l,e⟩:=ZX e;obtain⟨f,j⟩:=ZX e;exact⟨⟨c,o,m,l,f⟩,⟨j,f⟩⟩
theorem E6{i}(e:Mn K x=some i):∃t,nsIn K mainGlobals x=some (some (.int i t)):=by
 unfold Mn at e;split at e
 . rename_i j t h;cases e;exact⟨t,h⟩
 . cases e
theorem CW{i}(e:Kt K x=some i):∃t,nsIn K mainGlobals x=some (some (.str i t)):=by
 unfold Kt at e;split at e
 . rename_i j t h;cases e;exact⟨t,h⟩
 . cases e
theorem sS:∀{l}{zs},CV l=some zs->Vals (zs.map V.str) l
 |[],zs,e=>by cases e;exact .nil
 |v::r,zs,e=>by
  cases v with
  |str x t =>obtain⟨ys,h1,h2⟩:=Zb.mp (e);subst h2;exact .cons ⟨t,rfl⟩ (sS h1)
  |_=>cases e
theorem CO(e:Kp K x=some zs):∃c,nsIn K mainGlobals x=some (some (.ref c))/\Dl.GTup K c zs:=by
 unfold Kp at e;split at e
 . rename_i c h;refine ⟨c,h,?_⟩;split at e
   . rename_i d Q1 n j hk;split at e
     . rename_i f;exact⟨_,Q1,n,hk,rfl,rfl,f,sS e⟩
     . cases e
   . cases e
 . cases e
end Hq
namespace Hq
open PySem PySem.Spec PyProof.Rows L2 PySem.W Dl
variable {K:Frag} {x:Str} {f C:Yd} {zs ps:Yg Str} {mg:Str->Ye Yb} {Cs:Yg Yd} {k:Nat}
noncomputable def Tab.at(T:Tab)(i:Nat):De:=T.ds.getD i (0,Str.empty,Str.empty,0,.Pass ⟨0,0,0,0⟩)
theorem gm{α β:Type}{f g:α->β}:∀{l},l.map f=mE g l->∀a∈l,f a=g a
 |_::_,e,a,m=>by
  obtain⟨o,j⟩:=List.cons.inj e;cases m with
  |head=>exact o
  |tail _ m=>exact gm j a m
class Cxt(T:outParam Tab)(K:Frag)(mg:Str->Option Value):Prop where
 d:∀r∈T.ds,∃fd,Fun K r.2.1 r.2.2.1 r.2.2.2.2 r.2.2.2.1 fd/\(if r.1=0 then mg r.2.1=some (.ref r.2.2.2.1)else Cv K r.1 r.2.1 r.2.2.2.1)
 c:∀C∈T.cs,Cls K C
 k:∀r∈T.ks,Mk K r.1 r.2.2/\mg r.2.1=some (.ref r.1)
 e:∀C∈T.ies,C∈T.cs->ClsI K C/\ClsE K C
 i:∀r∈T.is,kitOne K (.ref r.1) (.ref r.2.1)=some r.2.2
 n:∀r∈T.ns,mg r.1=some (.ref r.2)
 a:∀r∈T.ats,NoAttr K r.1 r.2
 vi:∀r∈T.vi,∃t,mg r.1=some (.int r.2 t)
 vs:∀r∈T.vs,∃t,mg r.1=some (.str r.2 t)
 vt:∀r∈T.vt,∃c,mg r.1=some (.ref c)/\GTup K c r.2
 b:∀x∈T.bs,mg x=none
theorem Tab.ctx{T:Tab}{h}(e:T.F K=T.E)(X:K.In h)(G:h.Ns mainGlobals mg):Cxt T K mg:=by
 obtain⟨D,e⟩:=ZX e;obtain⟨B,e⟩:=ZX e;obtain⟨y,e⟩:=ZX e;obtain⟨x,e⟩:=ZX e;obtain⟨v,e⟩:=ZX e;obtain⟨u,e⟩:=ZX e;obtain⟨t,e⟩:=ZX e;obtain⟨s,e⟩:=ZX e;obtain⟨q,e⟩:=ZX e;obtain⟨p,o⟩:=ZX e;have c:=fun C m=>MK (gm B C m)
 refine⟨fun r m=>?_,c,fun r m=>(Mg (gm y r m)).imp_right (mg_of X G),fun C m z=>Mm (c C z) (gm x C m),gm v,fun r m=>mg_of X G (gm u r m),gm t,fun r m=>(E6 (gm s r m)).imp fun _=>mg_of X G,fun r m=>(CW (gm q r m)).imp fun _=>mg_of X G,fun r m=>(CO (gm p r m)).imp fun _=>And.imp_left (mg_of X G),fun r m=>mg_none_of X G (gm o r m)⟩
 obtain⟨f,d⟩:=ZX (gm D r m);obtain⟨I,d⟩:=ZX d;obtain⟨l,H⟩:=ZX d;obtain⟨fd,F,_⟩:=Ms H l;refine⟨fd,F,?_⟩;split<;>rename_i j
 . rw[if_pos j]at f;exact mg_of X G f
 . rw[if_neg j]at f;exact⟨f,I,l⟩
section
variable {P:Program} {w:World} {base:Heap} {T:Tab} {q:Str} {st:Stmt} {R:SQ} {G:GQ}
theorem wj{α:Type}:∀{l:Yg (Str×α)}{a},l.lookup x=some a->(x,a)∈l
 |(y,b)::l,a,e=>by
  rw[List.lookup_cons]at e;cases h:x==y with
  |true=>rw[h]at e;cases e;rw[beq_iff_eq.mp h];exact Zo
  |false=>rw[h]at e;exact Zp _ (wj e)
theorem xm(c:Cxt T K mg:=by assumption)(m:decide (x∈T.bs)=true:=by kernel_rfl):mg x=none:=c.b x (Z7 m)
theorem xa(c:Cxt T K mg:=by assumption)(m:decide (∀C∈Cs,C∈T.cs/\(C,x)∈T.ats)=true:=by kernel_rfl):∀C∈Cs,Cls K C/\NoAttr K C x:=fun C z=>have m:=Z7 m C z;⟨c.c C m.1,c.a (C,x) m.2⟩
theorem xi(c:Cxt T K mg:=by assumption){i}(m:decide ((x,i)∈T.vi)=true:=by kernel_rfl):∃t,mg x=some (.int i t):=c.vi (x,i) (Z7 m)
theorem xs(c:Cxt T K mg:=by assumption){i}(m:decide ((x,i)∈T.vs)=true:=by kernel_rfl):∃t,mg x=some (.str i t):=c.vs (x,i) (Z7 m)
theorem xt(c:Cxt T K mg)(e:T.vt.lookup x=some zs):∃c,mg x=some (.ref c)/\GTup K c zs:=c.vt (x,zs) (wj e)
theorem xc(c:Cxt T K mg:=by assumption)(m:decide ((x,C)∈T.ns)=true:=by kernel_rfl):mg x=some (.ref C):=c.n (x,C) (Z7 m)
theorem xI(c:Cxt T K mg:=by assumption)(m:decide (∀r∈T.is,r.1∈T.ies/\r.1∈T.cs)=true:=by kernel_rfl):∀r∈T.is,ClsI K r.1/\kitOne K (.ref r.1) (.ref r.2.1)=some r.2.2:=fun r z=>have m:=Z7 m r z;⟨(c.e _ m.1 m.2).1,c.i r z⟩
theorem xE(c:Cxt T K mg)(m:decide (∀C∈Cs,C∈T.ies/\C∈T.cs)=true:=by kernel_rfl):∀C∈Cs,ClsE K C:=fun C z=>have m:=Z7 m C z;(c.e C m.1 m.2).2
def pas(st:Stmt):List Str:=(eV st).args.map (·.arg)
def M8:Nat->(List Value->Prop)->Prop
 |0,P=>P []
 |n+1,P=>∀a,M8 n fun l=>P (a::l)
theorem OG:∀{n}{P},M8 n P->∀us,us.length=n->P us
 |0,_,h,[],_=>h
 |_+1,_,h,a::us,e=>OG (h a) us (Nat.succ.inj e)
abbrev Bnd(x q:Str)(st:Stmt):Prop:=M8 (pas st).length fun us=>∀(kV X4 pm:Value)(an:Option Addr)(Q9 ct:Value),bindArgs (fnOf x q (eV st) (cB st) (aU st) .none kV X4 pm an Q9 ct) ⟨us,[]⟩=pure ((pas st).zip us)
theorem Pu{Y}{fd}(F:Fun K x q st f fd)(S:iH (pas st++Y) (pas st) (aU st))(o:∀ds,G ds=aE (pas st).length (R (Dl.start (pas st++Y).length ds)))(h:∀f Q9 A outer s H E Z,Room k (A.deeper (envOfC q (aU st) s.heap.objs.size f Q9))->(pas st++Y).Nodup->(∀j,(pas st).length<=j->ZO Z j)->PQs (rQ CX0 P w K mg base (pas st++Y) q (aU st) f Q9 A outer s H E).nox Z (cB st) R):jc P w K mg base CX0 (k+1) f fd (pas st) (ii K (pas st).length G) :=
 N6 F S fun Q9 A outer s H E ds r fin m e p=>⟨R,fun Z l=>h f Q9 A outer s H E Z m S.nd l,(o ds).symm.trans e⟩
structure Dn(P:Program)(w:World)(K:Frag)(mg:Str->Option Value)(base:Heap)(k:Nat)(C:Addr)(x:Str)(f:Addr)(ps:List Str)(G:GQ):Prop where
 ex:∃fd,jc P w K mg base CX0 k f fd ps (ii K ps.length G)/\W.keepIn K (.ref f)=true/\Binds K fd ps []
 at_:if C=0 then mg x=some (.ref f)else Cv K C x f
abbrev At(P:Program)(w:World)(K:Frag)(mg:Str->Option Value)(base:Heap)(k:Nat)(r:De)(G:GQ):Prop:=Dn P w K mg base k r.1 r.2.1 r.2.2.2.1 (pas r.2.2.2.2) G
theorem dq(c:Cxt T K mg)(i k) (Y) (R) (h:∀f Q9 A outer s H E Z,Room k (A.deeper (envOfC (T.at i).2.2.1 (aU (T.at i).2.2.2.2) s.heap.objs.size f Q9))->(pas (T.at i).2.2.2.2++Y).Nodup->(∀j,(pas (T.at i).2.2.2.2).length<=j->ZO Z j)->PQs (rQ CX0 P w K mg base (pas (T.at i).2.2.2.2++Y) (T.at i).2.2.1 (aU (T.at i).2.2.2.2) f Q9 A outer s H E).nox Z (cB (T.at i).2.2.2.2) R:=by intros;repeat' trivial) (l:decide (i<T.ds.length)=true:=by kernel_rfl) (S:iH (pas (T.at i).2.2.2.2++Y) (pas (T.at i).2.2.2.2) (aU (T.at i).2.2.2.2):=by exact⟨by kernel_rfl,by kernel_rfl,by kernel_rfl,by decide +kernel,by kernel_rfl,by decide +kernel,by decide +kernel⟩) (q:∀ds,G ds=aE (pas (T.at i).2.2.2.2).length (R (Dl.start (pas (T.at i).2.2.2.2++Y).length ds)):=by intro _;kernel_rfl)
 (p:Bnd (T.at i).2.1 (T.at i).2.2.1 (T.at i).2.2.2.2:=by(repeat intro _);kernel_rfl):At P w K mg base (k+1) (T.at i) G:=by
 have m:T.at i∈T.ds:=by
  have:=Z7 l;unfold Tab.at
  rw[List.getD_eq_getElem?_getD,Zx this];exact List.getElem_mem this
 obtain⟨fd,F,z⟩:=c.d _ m;exact⟨⟨fd,Pu F S q h,F.kp,F.binds fun a b d e g h us o=>OG p us o a b d e g h⟩,z⟩
class CH(T:outParam Tab)(G:GQ)(k:outParam Nat)(x:outParam Str)(ps:outParam (List Str)):Prop where
 h:∀{P w K mg base},Cxt T K mg->yO P w K mg base k x ps G
class CM(T:outParam Tab)(G:GQ)(k:outParam Nat)(C:outParam Addr)(x:outParam Str)(ps:outParam (List Str)):Prop where
 h:∀{P w K mg base},Cxt T K mg->xb P w K mg base k C x ps G
class CK(T:outParam Tab)(C:Addr)(G:GQ)(k:outParam Nat)(x:outParam Str)(ps:outParam (List Str)):Prop where
 h:∀{P w K mg base},Cxt T K mg->MkQ P w K mg base k x C ps G
abbrev HA(T:Tab)(i k:Nat)(G:GQ):Prop:=CH T G k (T.at i).2.1 (pas (T.at i).2.2.2.2)
abbrev MA(T:Tab)(i k:Nat)(G:GQ):Prop:=CM T G k (T.at i).1 (T.at i).2.1 (pas (T.at i).2.2.2.2)
abbrev KA(T:Tab)(i k:Nat)(C:Addr)(x:Str)(G:GQ):Prop:=CK T C G k x (pas (T.at i).2.2.2.2)
theorem Dn.has(d:Dn P w K mg base k C x f ps G)(h:decide (C=0)=true:=by kernel_rfl):yO P w K mg base k x ps G:=by obtain⟨⟨fd,a,b,e⟩,z⟩:=d;rw[if_pos (Z7 h)]at z;exact⟨f,fd,a,z,b,e⟩
theorem Dn.met(d:Dn P w K mg base k C x f ps G)(c:Cxt T K mg)(h:decide (C∈T.cs/\C≠0)=true:=by kernel_rfl):xb P w K mg base k C x ps G:=by obtain⟨⟨fd,a,b,e⟩,z⟩:=d;have h:=Z7 h;rw[if_neg h.2]at z;exact⟨f,fd,a,z,e,c.c C h.1⟩
theorem Dn.mak{x'}{C'}(d:Dn P w K mg base k C x f ps G)(c:Cxt T K mg)(h:decide ((C',x',f)∈T.ks)=true:=by kernel_rfl):MkQ P w K mg base k x' C' ps G:=by obtain⟨⟨fd,a,b,e⟩,z⟩:=d;have:=c.k _ (Z7 h);exact⟨f,fd,a,this.1,this.2,e⟩
theorem root {fa} (c:Cxt T K mg) (i k:Nat) (Y) (R) (m:T.ds[i]?=some ((0,"law",q,f,st):De)) (o:mg "law" = some (.ref fa)) (r:pas st=[x]) (S:iH ([x]++Y) [x] (aU st)) (u:∀p dc pm an cd ct s (v:Yb),BindsTo s (fnOf "law" q (eV st) (cB st) (aU st) .none p dc pm an cd ct) ⟨[v],[]⟩ [(x,v)])
 (lt:∀l:Yg Int,l.length<=63->∃δ,R (Dl.start ([x]++Y).length [.seq (l.map D.int)])=some (.rt (.bl true) δ)) (h:∀base:Heap,∀(f:Yd)(Q9:Yb)(A:Around)(outer:Yg Env)(s:Yc)(H:Hp)(E:XK)(Z:L2.St->Prop),Room k (A.deeper (envOfC q (aU st) s.heap.objs.size f Q9))->(pas st++Y).Nodup->(∀j,(pas st).length<=j->ZO Z j)->PQs (rQ CX0 P w K mg base (pas st++Y) q (aU st) f Q9 A outer s H E).nox Z (cB st) R) :
 ∃fd:FuncData,(∀(s:Yc)(v:Yb),BindsTo s fd ⟨[v],[]⟩ [(x,v)])/\∀base:Heap,K.In base->base.Ns mainGlobals mg->jc P w K mg base CX0 (k+1) fa fd [x] (spLaw K):=by
 obtain⟨fd,F,z⟩:=c.d _ (List.mem_of_getElem? m);obtain⟨oc,od,p,X4,pm,an,Q9,ct,osl,rfl,-⟩:=F.ex;have z:mg "law" = some (.ref f):=z;rw[o]at z;cases z;refine⟨_,u _ _ _ _ _ _,fun base _ _=>IK F S fun Q9 A outer s H E l m t=>?_⟩
 obtain⟨δ,e⟩:=lt l t;refine⟨R,δ,?_,e⟩;have:=h base _ Q9 A outer s H E (fun _=>True) m
 rw[r]at this;exact this S.nd fun _ _ _ _ _=>trivial
end
end Hq
namespace Tx
open PySem PySem.Str
variable {c:Nat}
def cG(a b c:Str):a++b++c=a++(b++c):=PySem.Str.append_assoc a b c
def Fr(c:Nat)(x:Str):Prop:=c∉x.cps.toList
def b8(a b:Str):(a++b).cps.toList=a.cps.toList++b.cps.toList:=by exact Array.toList_append
def Fr.app{a b:Str}(h:Fr c a)(g:Fr c b):Fr c (a++b):=by unfold Fr;rw[b8,Zs];exact fun z=>z.elim h g
def uq{a b:Str}(h:a.cps.toList=b.cps.toList):a=b:=PySem.Str.ext' (Array.toList_inj.mp h)
def aM(s x y) (r):Str.join s (x::y::r)=x++(s++Str.join s (y::r)):=cG _ _ _
theorem Aq:∀{a a' b b'},c∉a->c∉a'->a++c::b=a'++c::b'->a=a'/\b=b'
 |[],[],_,_,_,_,e=>⟨rfl,(List.cons.inj e).2⟩
 |[],x::a',_,_,_,h,e=>absurd (Zt.mpr (.inl (List.cons.inj e).1)) h
 |x::a,[],_,_,h,_,e=>absurd (Zt.mpr (.inl (List.cons.inj e).1.symm)) h
 |x::a,y::a',b,b',h,h',e=>by
  obtain⟨j,f⟩:=List.cons.inj e;obtain⟨z1,z2⟩:=Aq (fun m=>h (Zp _ m)) (fun m=>h' (Zp _ m)) f
  exact⟨by rw[j,z1],z2⟩
theorem wq{s}(j:s.cps.toList=[c]):∀{p q},p≠[]->q≠[]->(∀x∈p,Fr c x)->(∀x∈q,Fr c x)->Str.join s p=Str.join s q->p=q
 |[],_,h,_,_,_,_=>absurd rfl h
 |_,[],_,h,_,_,_=>absurd rfl h
 |[x],[y],_,_,_,_,e=>by rw[show x=y from e]
 |[x],y::z::r,_,_,hp,_,e=>by
  have f:=Z8 (fun t=>t.cps.toList) ((show x=_ from e).trans (aM s y z r))
  exact absurd (by rw[f,b8,b8,j];simp:c∈x.cps.toList) (hp x (by simp))
 |x::w::t,[y],_,_,_,hq,e=>by
  have f:=Z8 (fun t=>t.cps.toList) ((show y=_ from e.symm).trans (aM s x w t))
  exact absurd (by rw[f,b8,b8,j];simp:c∈y.cps.toList) (hq y (by simp))
 |x::w::t,y::z::r,_,_,hp,hq,e=>by
  rw[aM,aM]at e;have f:=Z8 (fun t=>t.cps.toList) e
  simp only[b8,j]at f;obtain⟨h1,h2⟩:=Aq (hp x (by simp)) (hq y (by simp)) f
  rw[uq h1,wq j (by simp) (by simp) (fun u m=>hp u (Zp _ m)) (fun u m=>hq u (Zp _ m)) (uq h2)]
def C4(x y):Txt.split x y≠[]\/x=Str.empty:=by
 by_cases h:Txt.split x y=[]
 . right;have:=StrLaws.join_split x y;rw[h]at this;exact this.symm
 . exact .inl h
def qx(x) (c):Txt.split x ⟨#[c]⟩≠[]:=by
 rcases C4 x ⟨#[c]⟩with h|h
 . exact h
 . subst h;unfold Txt.split;rw [if_pos]
   . exact List.cons_ne_nil _ _
   . rw[Bool.or_eq_true];left;exact decide_eq_true (by show 0<1;decide)
def qy{p}(f:p≠[])(h:∀x∈p,Fr c x):Txt.split (Str.join ⟨#[c]⟩ p) ⟨#[c]⟩=p :=
 wq rfl (qx _ c) f (StrLaws.split_free _ c) h (StrLaws.join_split _ _)
theorem qZ(s):∀{p q},p≠[]->q≠[]->Str.join s (p++q)=Str.join s p++(s++Str.join s q)
 |[],_,h,_=>absurd rfl h
 |[x],y::q,_,_=>aM s x y q
 |[x],[],_,h=>absurd rfl h
 |x::y::p,q,_,hq=>by
  rw[show x::y::p++q=x::y::(p++q)from rfl,aM,aM,show y::(p++q)=(y::p)++q from rfl,qZ s (by simp) hq]
  simp only[cG]
def IM(s) (l):Txt.join s l=Str.join s l:=StrLaws.glued_eq_join s l
def aX(a b:Str):(a++b).length=a.length+b.length:=PySem.Str.length_append a b
def fN(a:Str):a.length=a.cps.toList.length:=by show a.cps.size=_;simp
def lU(x) (c):Txt.startswith x ⟨#[c]⟩=(x.cps.toList.head?==some c):=by
 unfold Txt.startswith;rw[StrLaws.subAt_eq];obtain⟨⟨l⟩⟩:=x;cases l with
 |nil=>rfl
 |cons a l=>show(decide (0+1<=(a::l).length)&&(([a]:Yg Nat)==[c]))=(some a==some c);simp
def wH(x) (c):Txt.endswith x ⟨#[c]⟩=(x.cps.toList.getLast?==some c):=by
 unfold Txt.endswith;rw[StrLaws.subAt_eq,fN x,show(⟨#[c]⟩:Str).length=1 from rfl,show(⟨#[c]⟩:Str).cps.toList=[c]from rfl]
 generalize x.cps.toList=l;rcases List.eq_nil_or_concat l with h|⟨m,a,h⟩
 . subst h;rfl
 . subst h;simp
def Mo(x) (c):(!(Builtin.Str.occurrences x ⟨#[c]⟩ 0 x.length 1).isEmpty)=decide (c∈x.cps.toList):=StrLaws.found_one x c
end Tx
namespace Tx
open PySem
variable {c:Nat}
noncomputable def num(i:Int):Str:=Str.ofString (toString i)
noncomputable def dg(m:Nat):List Nat:=(Nat.toDigits 10 m).map Char.toNat
def pY(m:Nat):(num (m:Int)).cps.toList=dg m:=W.KIN.signs_num m
def ofS(s):(Str.ofString s).cps.toList=s.toList.map Char.toNat:=by rw[Str.ofString_eq_toList]
def zA(n):(num (Int.negSucc n)).cps.toList=45::dg (n+1):=by
 unfold num;rw[ofS,show toString (Int.negSucc n) = "-" ++ Nat.repr (n+1)from rfl,String.toList_append,Zw,Nat.toList_repr]
 rfl
def k9(m):PySem.NumText.AllDigits (dg m):=by
 intro c j;obtain⟨ch,f,e⟩:=Zr.mp j;have r:=PyProof.Rows.digit_range (Nat.isDigit_of_mem_toDigits (by decide) (by decide) f)
 rw[<- e];exact r
def nJ{m}(h:m<10):dg m=[48+m]:=by
 unfold dg;rw[Nat.toDigits_of_lt_base h];have:∀d,d<10->[(Nat.digitChar d)].map Char.toNat=[48+d]:=by decide
 exact this m h
theorem Ao{m}(h:¬m<10):dg m=dg (m/10)++[48+m%10]:=by
 have f:m%10<10:=Nat.mod_lt m (by decide)
 have t:Nat.toDigits 10 (m/10)++Nat.toDigits 10 (m%10)=Nat.toDigits 10 (10*(m/10)+m%10):=Nat.toDigits_append_toDigits (by decide) (by lia) f
 rw[Nat.div_add_mod]at t;have e:dg m=dg (m/10)++dg (m%10):=by unfold dg;rw[<- t,Zw]
 rw[e,nJ f]
theorem u5(m):(m=0/\dg m=[48])\/∃c r,dg m=c::r/\49<=c/\c<=57:=by
 induction m using Nat.strongRecOn with
 |_ m f =>
  by_cases h:m<10
  . rw [nJ h]
    by_cases j:m=0
    . subst j;exact .inl ⟨rfl,rfl⟩
    . exact .inr ⟨48+m,[],rfl,by lia,by lia⟩
  . right;rw [Ao h];rcases f (m / 10) (by lia) with ⟨z,_⟩ | ⟨c,r,e,h1,h2⟩
    . lia
    . exact⟨c,r++[48+m%10],by rw[e];rfl,h1,h2⟩
theorem yp:∀k m,m<10^(k+1)->(dg m).length<=k+1
 |0,m,h=>by rw[nJ (by simpa using h)];exact ZM 1
 |k+1,m,h=>by
  by_cases f:m<10
  . rw[nJ f];show 1<=_;lia
  . rw [Ao f,Zk];have h2:m / 10 < 10 ^ (k+1):=by
     rw[Nat.pow_succ]at h;exact Nat.div_lt_of_lt_mul (by rw[Nat.mul_comm];exact h)
    have:=yp k (m/10) h2;show _+1<=_
    lia
theorem F7(m):1<=(dg m).length:=by
 rcases u5 m with⟨_,e⟩|⟨c,r,e,_⟩
 . rw[e];exact ZM 1
 . rw[e];show 1<=r.length+1;lia
def Ke(m):dg m≠[]:=fun z=>by have:=F7 m;rw[z]at this;exact absurd this (by decide)
def oE(i):(num i).cps.toList=(if i<0 then[45]else[])++dg i.natAbs:=by
 cases i with
 |ofNat m=>rw[if_neg (by exact Int.not_lt.mpr (Int.natCast_nonneg m))];exact pY m
 |negSucc n=>rw[if_pos (Int.negSucc_lt_zero n)];exact zA n
theorem xJ(i) (h:c≠45) (h2:c<48\/57<c):Fr c (num i):=by
 unfold Fr;rw[oE,Zs]
 rintro(m|m)
 . split at m
   . exact h (Zq.mp m)
   . cases m
 . have:=k9 _ c m;lia
theorem kT{i}{k}(h:i.natAbs<10^(k+1)):(num i).length<=k+2:=by
 rw[fN,oE,Zk];have:=yp k _ h;split
 . show 1+_<=_;lia
 . show 0+_<=_;lia
theorem Bt{i}{k}(h:i.natAbs<10^(k+1))(hk:k<=4000):intText? (num i)=some i:=by
 have f:=kT h;cases i with
 |ofNat m =>
  have e:=PySem.intText_digits (by rw[show(num (Int.ofNat m)).cps.toList=dg m from pY m];exact k9 m) (by rw[show(num (Int.ofNat m)).cps.toList=dg m from pY m];exact Ke m) (by lia)
  rw[e,show(num (Int.ofNat m)).cps.toList=dg m from pY m]
  unfold dg;rw[W.KIN.val_back];rfl
 |negSucc n =>
  have e:=PySem.intText_neg (zA n) (k9 _) (Ke _) (by lia)
  rw[e];unfold dg;rw[W.KIN.val_back];rfl
end Tx
namespace Dl
open PySem PySem.Spec PyProof.Rows L2
variable {i n j k:Nat} {x y m z:Str} {w:World} {s:Yc} {l a e b c:Expr} {h':Heap} {f fa fb:FD} {ds:Yg D} {δ δ1 fin:DS} {p:Pos} {r:Yg V->Hp->VK->Prop} {C:Yd} {G:Yg D->Ye D} {u:SD} {lo hi:Ye Expr} {fl fh:FO} {js:Yg Nat} {o:Ye D} {ga:FA} {ws:Yg Str} {fc:FT} {Cs:Yg Yd} {src:FMA} {felt:FM} {gg:D->D->Ye D}
noncomputable def vH(u:SQ):Option RQ->Option RQ
 |some (.nx δ)=>u δ
 |o=>o
noncomputable def brQ(s u:SQ)(δ:DS):Option Bool->Option RQ
 |some true=>s δ
 |some false=>u δ
 |none=>none
noncomputable def brW(s u:SQ):Option (D×DS)->Option RQ
 |some (.bl true,δ)=>s δ
 |some (.bl false,δ)=>u δ
 |_=>none
noncomputable def brM(s u:FM)(δ:DS):Option Bool->Option (D×DS)
 |some true=>s δ
 |some false=>u δ
 |none=>none
noncomputable def Ju(s u:FM):Option (D×DS)->Option (D×DS)
 |some (.bl true,δ)=>s δ
 |some (.bl false,δ)=>u δ
 |_=>none
noncomputable def brD(s u:FD)(δ:DS):Option Bool->Option D
 |some true=>s δ
 |some false=>u δ
 |none=>none
noncomputable def anT(g:FT)(δ:DS):Option Bool->Option Bool
 |some true=>g δ
 |some false=>some false
 |none=>none
noncomputable def orT(g:FT)(δ:DS):Option Bool->Option Bool
 |some true=>some true
 |some false=>g δ
 |none=>none
noncomputable def anV(g:FD)(δ:DS):Option D->Option D
 |some (.bl true)=>g δ
 |some (.bl false)=>some (.bl false)
 |_=>none
noncomputable def orV(g:FD)(δ:DS):Option D->Option D
 |some (.bl true)=>some (.bl true)
 |some (.bl false)=>g δ
 |_=>none
noncomputable def anM(g:FM)(δ:DS):Option Bool->Option (D×DS)
 |some true=>g δ
 |some false=>some (.bl false,δ)
 |none=>none
section
variable {s u:SQ} {δ':DS} {d:D} {b:Bool} {f g:FM} {ta tb:FT}
@[simp] theorem bM:ah s u δ=vH u (s δ):=by unfold ah vH;cases h:s δ with
  |none=>rfl
  |some r=>cases r<;>rfl
@[simp] theorem dC:vH u (some (.nx δ))=u δ:=by rfl
@[simp] theorem Ot:vH u (some (.rt d δ))=some (.rt d δ):=by rfl
@[simp] theorem nD:bd δ=some (.nx δ):=by rfl
@[simp] theorem iX:qIf ta s u δ=brQ s u δ (ta δ):=by unfold qIf brQ;cases h:ta δ with
  |none=>rfl
  |some r=>cases r<;>rfl
@[simp] theorem tW:brQ s u δ (some true)=s δ:=by rfl
@[simp] theorem pA:brQ s u δ (some false)=u δ:=by rfl
@[simp] theorem Ah:lW f s u δ=brW s u (f δ):=by
  unfold lW brW;cases h:f δ with
  |none=>rfl
  |some r =>
   obtain⟨d,δ'⟩:=r;cases d with
   |bl b=>cases b<;>rfl
   |_=>rfl
@[simp] theorem FN:brW s u (some (.bl true,δ))=s δ:=by rfl
@[simp] theorem FP:brW s u (some (.bl false,δ))=u δ:=by rfl
@[simp] theorem pv:dB i f δ=(f δ).bind fun p=>some (.nx (p.2.set i (some p.1))):=by rfl
@[simp] theorem bP:aB i f δ=(f δ).bind fun p=>some (.nx (p.2.set i (some (sh p.1)))):=by rfl
@[simp] theorem dQ:aR f δ=(f δ).bind fun p=>some (.rt p.1 p.2):=by rfl
@[simp] theorem oU:bI f δ=(f δ).bind fun p=>some (.nx p.2):=by rfl
@[simp] theorem Ov:qi ta f g δ=brM f g δ (ta δ):=by unfold qi brM;cases h:ta δ with
  |none=>rfl
  |some r=>cases r<;>rfl
@[simp] theorem Mz:brM f g δ (some true)=f δ:=by rfl
@[simp] theorem Py:brM f g δ (some false)=g δ:=by rfl
@[simp] theorem Ou {c}:qh c f g δ=Ju f g (c δ):=by
  unfold qh Ju;cases h:c δ with
  |none=>rfl
  |some r =>
   obtain⟨d,δ'⟩:=r;cases d with
   |bl b=>cases b<;>rfl
   |_=>rfl
@[simp] theorem My:Ju f g (some (.bl true,δ))=f δ:=by rfl
@[simp] theorem Px:Ju f g (some (.bl false,δ))=g δ:=by rfl
@[simp] theorem MF:jS ta tb δ=anT tb δ (ta δ):=by unfold jS anT;cases h:ta δ with
  |none=>rfl
  |some r=>cases r<;>rfl
@[simp] theorem Jb:anT tb δ (some true)=tb δ:=by rfl
@[simp] theorem OW:anT tb δ (some false)=some false:=by rfl
@[simp] theorem FG:eL ta tb δ=orT tb δ (ta δ):=by unfold eL orT;cases h:ta δ with
  |none=>rfl
  |some r=>cases r<;>rfl
@[simp] theorem Pw:orT tb δ (some true)=some true:=by rfl
@[simp] theorem FF:orT tb δ (some false)=tb δ:=by rfl
@[simp] theorem mC:cS fa fb δ=anV fb δ (fa δ):=by
  unfold cS anV;cases h:fa δ with
  |none=>rfl
  |some r =>
   cases r with
   |bl b=>cases b<;>rfl
   |_=>rfl
@[simp] theorem k8:anV fb δ (some (.bl true))=fb δ:=by rfl
@[simp] theorem wI:uW fa fb δ=orV fb δ (fa δ):=by
  unfold uW orV;cases h:fa δ with
  |none=>rfl
  |some r =>
   cases r with
   |bl b=>cases b<;>rfl
   |_=>rfl
@[simp] theorem FE:orV fb δ (some (.bl true))=some (.bl true):=by rfl
@[simp] theorem yg:orV fb δ (some (.bl false))=fb δ:=by rfl
@[simp] theorem yj:o0 ta f δ=anM f δ (ta δ):=by unfold o0 anM;cases h:ta δ with
  |none=>rfl
  |some r=>cases r<;>rfl
@[simp] theorem u3:anM f δ (some true)=f δ:=by rfl
@[simp] theorem Jc:anM f δ (some false)=some (.bl false,δ):=by rfl
@[simp] theorem iY:fT fa δ=(fa δ).bind asB:=by rfl
@[simp] theorem gc:asB (.bl b)=some b:=by rfl
@[simp] theorem FH:bF ta δ=(ta δ).map not:=by rfl
@[simp] theorem e_C:fC d δ=some d:=by rfl
@[simp] theorem u0{gg}:f1 gg fa δ=(fa δ).bind gg:=by rfl
@[simp] theorem dD:f2 gg fa fb δ=(fa δ).bind fun x=>(fb δ).bind fun y=>gg x y:=by rfl
@[simp] theorem pD:bX gg f g δ=(f δ).bind fun p=>(g p.2).bind fun q=>(gg p.1 q.1).bind fun d=>if imm d then some (d,q.2)else none:=by rfl
@[simp] theorem db:vI fa δ=(fa δ).bind fun d=>if imm d then some (d,δ)else none:=by rfl
@[simp] theorem cR{gg}:aT gg ga δ=(ga δ).bind gg:=by rfl
@[simp] theorem BZ{gg}:fMt gg fa ga δ=(fa δ).bind fun d=>(ga δ).bind fun ds=>gg d ds:=by rfl
@[simp] theorem gZ:ag δ=some []:=by rfl
@[simp] theorem fH:af fa ga δ=(fa δ).bind fun x=>(ga δ).bind fun xs=>some (x::xs):=by rfl
@[simp] theorem fG:ak δ=some ([],δ):=by rfl
@[simp] theorem iW{ga}:ae f ga δ=(f δ).bind fun p=>(ga p.2).bind fun q=>some (p.1::q.1,q.2):=by rfl
@[simp] theorem MB:rE ga δ=(ga δ).bind fun ds=>some (.tup ds):=by rfl
@[simp] theorem tT{ga}:cI ga δ=(ga δ).bind fun p=>some (.lst p.1,p.2):=by rfl
@[simp] theorem lR{ga}:bY ga δ=(ga δ).bind fun p=>some (.tup p.1,p.2):=by rfl
@[simp] theorem cA{bs}{G}{ga}:aj bs G ga δ=(ga δ).bind fun p=>(G p.1).bind fun q=>some (q.1,ij bs q.2 p.2):=by rfl
@[simp] theorem rJ{G}:aS G ga δ=(ga δ).bind fun ds=>(G (shs ds)).bind fun q=>some q.1:=by rfl
@[simp] theorem uY {bs} {G} {ga}:fI C bs G ga δ=(ga δ).bind fun p=>(G (.oo C [] [] :: p.1)).bind fun q=>match q with
  |(.non,some o::fin)=>some (o,ij bs fin p.2)
  |_=>none:=by rfl
@[simp] theorem bS:ij [] fin δ=δ:=by cases fin<;>rfl
@[simp] theorem dY{bs}:ij (some i::bs) (o::fin) δ=ij bs fin (δ.set i o):=by rfl
@[simp] theorem fZ{bs}:ij (none::bs) (o::fin) δ=ij bs fin δ:=by rfl
def Pv{r}:ab 0 (some d::r)=some d:=by rfl
@[simp] theorem oR{G}:cX C m G fa ga δ=(fa δ).bind fun d=>if isC C m d then(ga δ).bind fun ds=>(G (sh d::shs ds)).bind fun q=>some q.1 else none:=by rfl
@[simp] theorem Ag{xs}(h:eK m xs=none):isC C m (.oo C xs ds)=true:=by show(decide (C=C)&&(eK m xs).isNone)=true;rw[h,decide_eq_true rfl];rfl
@[simp] theorem mw{xs}(h:eK m xs=none):isC C m (.ob C xs ds)=true:=by show(decide (C=C)&&(eK m xs).isNone)=true;rw[h,decide_eq_true rfl];rfl
@[simp] theorem nH:a9 Cs x fa δ=(fa δ).bind fun d=>(j5 d).bind fun o=>if o.1∈Cs then lkF x o.2.1 o.2.2 else none:=by rfl
@[simp] theorem Ka{xs}:j5 (.oo C xs ds)=some (C,xs,ds):=by rfl
@[simp] theorem mv{xs}:j5 (.ob C xs ds)=some (C,xs,ds):=by rfl
def Mx{p:PF}{xs}(l:f δ=some (d,δ1))(h:δ1[i]?=some (some (.oo C xs ds)))(m:C∈Cs)(j:ds.length<=99):cz i Cs x aC f δ=some (.nx (δ1.set i (some (.oo C (oq x xs) (putD x d xs ds))))):=by unfold cz;rw[l];dsimp only[Option.bind];rw[h];exact if_pos ⟨m,j⟩
@[simp] theorem FJ:rD [.lst ds]=some (.int ds.length):=by rfl
@[simp] theorem jw:rD [.seq ds]=some (.int ds.length):=by rfl
def uZ(h:z.length<=sizeLine):rD [.str z]=some (.int z.length):=by exact if_pos h
@[simp] theorem Ai{a c}:bC (.int a) (.int c)=some (.bl (a==c)):=by rfl
@[simp] theorem Ow{a c}:bC (.str a) (.str c)=some (.bl (a==c)):=by rfl
@[simp] theorem FI{a c}:eE (.str a) (.str c)=some (.bl (!(a==c))):=by rfl
@[simp] theorem rK{a c}:aQ (.int a) (.int c)=some (.int (a+c)):=by rfl
def cj{a c}(h:a.length+c.length<=sizeLine):aQ (.str a) (.str c)=some (.str (a++c)):=by exact if_pos h
@[simp] theorem iN{a c}{gg}:gI0 gg (.int a) (.int c)=some (gg a c):=by rfl
def mB{C:Int->Int->Prop}[∀i j,Decidable (C i j)]{a c}{gg}(h:C a c):gI C gg (.int a) (.int c)=some (gg a c):=if_pos h
@[simp] theorem PP{d}:x8 d .non=some (.bl (gz d)):=by rfl
@[simp] theorem Kb{d}:kb d .non=some (.bl (!gz d)):=by rfl
@[simp] theorem tU{a}:gIx (.lst ds) (.int a)=L2.atI ds a:=by rfl
@[simp] theorem iu{a}:gIx (.seq ds) (.int a)=L2.atI ds a:=by rfl
@[simp] theorem nE{a}:gIx (.tup ds) (.int a)=L2.atI ds a:=by rfl
@[simp] theorem bH:∀ (ws:Yg Str),shs (ws.map D.str)=ws.map D.str
  |[]=>rfl
  |w::ws=>by rw[Zu,shs,bH ws];rfl
@[simp] theorem dw:∀ (ws:Yg Str),gb (ws.map D.str)=true
  |[]=>rfl
  |w::ws=>by rw[Zu,gb,dw ws];rfl
theorem oP:∀(ws:Yg Str),(ws.map D.str).all dM=true
 |[]=>rfl
 |w::ws=>by rw[Zu,List.all_cons,oP ws];rfl
theorem se(x):∀(ws:Yg Str),((ws.map D.str).any fun y=>eqF y (.str x))=decide (x∈ws)
 |[]=>rfl
 |w::ws=>by
  rw[Zu,List.any_cons,se x ws];show((w==x)||decide (x∈ws))=decide (x∈w::ws)
  by_cases h:w=x
  . subst h;simp
  . have h':¬ x=w:=fun e=>h e.symm
    simp[h,h']
@[simp] theorem tV:gIn (.str x) (.lst (ws.map D.str))=some (.bl (decide (x∈ws))):=by
  show(if dM (.str x)&&(ws.map D.str).all dM then some (D.bl ((ws.map D.str).any fun y=>eqF y (.str x)))else none)=_
  rw[oP,se];rfl
@[simp] theorem wJ:gIn (.str x) (.seq (ws.map D.str))=some (.bl (decide (x∈ws))):=tV
@[simp] theorem FL:gIn (.str x) (.tup (ws.map D.str))=some (.bl (decide (x∈ws))):=tV
@[simp] theorem Af:gY (.str x) (.lst (ws.map D.str))=some (.bl (!decide (x∈ws))):=by
  show(if dM (.str x)&&(ws.map D.str).all dM then some (D.bl (!(ws.map D.str).any fun y=>eqF y (.str x)))else none)=_
  rw[oP,se];rfl
@[simp] theorem Kc:gY (.str x) (.seq (ws.map D.str))=some (.bl (!decide (x∈ws))):=Af
def FS{p:Nat}{w}(h:ws[p]?=some w):L2.atI (ws.map D.str) (p:Int)=some (.str w):=L2.atI_nat (by rw[ZK,h];rfl)
end
end Dl
namespace Dl
open PySem L2 Tx
variable {i n j k:Nat} {x y m z:Str} {w:World} {s:Yc} {l a e b c:Expr} {h':Heap} {f fa fb:FD} {ds:Yg D} {δ δ1 fin:DS} {p:Pos} {r:Yg V->Hp->VK->Prop} {C:Yd} {G:Yg D->Ye D} {u:SD} {lo hi:Ye Expr} {fl fh:FO} {js:Yg Nat} {o:Ye D} {ga:FA} {ws:Yg Str} {fc:FT} {Cs:Yg Yd} {src:FMA} {felt:FM} {gg:D->D->Ye D}
theorem cZ{g}{ι}{f}:∀{ds},(∀d∈ds,∃j,g (sh d) ι=some j/\fc j=some true/\∃l,felt j=some (f d,l)/\clr n l=ι)->bh n g fc felt ds ι=some (ds.map f,ι)
 |[],_=>rfl
 |d::ds,h=>by
  obtain⟨j,h1,h2,l,q,p⟩:=h d (Zo ..);have o:=cZ fun x m=>h x (Zp _ m)
  simp only[bh,h1,h2,q,p,o,Zc,Z6,Zu]
theorem ph{g}{ι}{f}{p}:∀{ds},(∀d∈ds,∃j,g (sh d) ι=some j/\fc j=some (p d)/\clr n j=ι/\(p d=true->∃l,felt j=some (f d,l)/\clr n l=ι))->bh n g fc felt ds ι=some ((ds.filter p).map f,ι)
 |[],_=>rfl
 |d::ds,h=>by
  obtain⟨j,h1,h2,s,q⟩:=h d (Zo ..);have r:=ph fun x m=>h x (Zp _ m)
  cases o:p d with
  |false=>simp only[bh,h1,h2,o,s,r,Zc,ZR,if_false,List.filter_cons]
  |true =>obtain⟨l,q,t⟩:=q o;simp only[bh,h1,h2,o,q,t,r,Zc,Z6,List.filter_cons,Zu]
def bJ{g}{δc ιe}{cs xs}(h1:src δ=some (ds,δ1))(h2:takes (js.map AK.lent) δ1=some (cs,δc))(j:bh n g fc felt ds (List.replicate n none++cs.map some)=some (xs,ιe))(f:xs.length<=1000):aA src n js g fc felt δ=some (.lst xs,ij (js.map some) (ιe.drop n) δc):=by simp only[aA,h1,h2,j,f,Zc,Z6]
theorem ua:∀bs,lf (bs.map D.bl)=some bs
 |[]=>rfl
 |b::bs=>by rw[Zu,lf,ua bs];rfl
def Aj(bs:Yg Bool):nq [.lst (bs.map D.bl)]=some (.bl (bs.all id)):=by simp only[nq,Ps,pR,ua,Zc]
def pz{f}:gq f δ=(f (shO δ)).bind fun p=>some p.1:=by rfl
@[simp] theorem pC{d}{r}:gN 0 d (o::r)=some (some d::r):=by rfl
@[simp] theorem pB {d} {r}:gN (i+1) d (o :: r)=(gN i d r).map (o :: ·):=by
  unfold gN
  by_cases h:i<r.length
  . rw[if_pos h,if_pos (by rw[Zm];lia)];rfl
  . rw[if_neg h,if_neg (by rw[Zm];lia)];rfl
@[simp] theorem yi{r}:clr 1 (o::r)=none::r:=by rfl
@[simp] theorem ME{p}{r}:clr 2 (o::p::r)=none::none::r:=by rfl
def vO(j:x.length<=1000)(δ) (l:src δ=some (dX x,δ)):aA src 1 [] (gN 0) (fun _=>some true) (vI (f2 x9 (ab 0) (fC (.str y)))) δ=some (.lst ((x.cps.toList.map fun c=>decide (c∈y.cps.toList)).map D.bl),δ):=by
 have f:bh 1 (gN 0) (fun _=>some true) (vI (f2 x9 (ab 0) (fC (.str y)))) (dX x) [none]=some ((dX x).map (fun d=>match d with|.str z=>D.bl (!(Builtin.Str.occurrences y z 0 y.length 1).isEmpty)|_=>.non),[none]):=by
  refine cZ fun d m=>?_
  obtain⟨c,p,rfl⟩:=Zr.mp m;exact⟨[some (.str ⟨#[c]⟩)],rfl,rfl,[some (.str ⟨#[c]⟩)],rfl,rfl⟩
 have e:=bJ (js:=[]) l rfl f (by
  rw[Zl];show(x.cps.toList.map _).length<=1000;rw[Zl];rw[<- fN];exact j)
 rw[e];have o:((dX x).map (fun d=>match d with|.str z=>D.bl (!(Builtin.Str.occurrences y z 0 y.length 1).isEmpty)|_=>.non))=(x.cps.toList.map fun c=>decide (c∈y.cps.toList)).map D.bl:=by
  unfold dX;rw[List.map_map,List.map_map];refine List.map_congr_left fun c _=>?_
  show D.bl (!(Builtin.Str.occurrences y ⟨#[c]⟩ 0 y.length 1).isEmpty)=D.bl (decide (c∈y.cps.toList));rw[Mo]
 rw[o];rfl
end Dl
namespace Dl
open PySem L2 Tx Builtin.Str
variable {i n j k:Nat} {x y m z:Str} {w:World} {s:Yc} {l a e b c:Expr} {h':Heap} {f fa fb:FD} {ds:Yg D} {δ δ1 fin:DS} {p:Pos} {r:Yg V->Hp->VK->Prop} {C:Yd} {G:Yg D->Ye D} {u:SD} {lo hi:Ye Expr} {fl fh:FO} {js:Yg Nat} {o:Ye D} {ga:FA} {ws:Yg Str} {fc:FT} {Cs:Yg Yd} {src:FMA} {felt:FM} {gg:D->D->Ye D}
def rR{lo hi}{a b}(f:a<=b)(l:b<=z.length)(h:strSliceIndices lo hi 1 z.length=strSliceIndices (some (a:Int)) (some (b:Int)) 1 z.length):(gr z lo hi).cps.toList=(z.cps.toList.drop a).take (b-a):=by
 unfold gr;rw[h];have e:=StrLaws.sliced_plain z f l;split
 . rename_i m;rw [StrLaws.strSliceIndices_plain f l,Zl,List.length_range,beq_iff_eq] at m;have o:a=0:=by omega
   have j:b=z.length:=by omega
   rw[o,j,List.drop_zero,Nat.sub_zero,List.take_of_length_le (by rw[<- fN];exact ZM _)]
 . rw[List.toList_toArray];exact e
theorem wM(h:1<=z.length):(gr z (some 1) none).cps.toList=z.cps.toList.drop 1:=by
 rw[rR h (ZM _) (by
  simp only[strSliceIndices,show((1:Int)>0)=True from by simp,show ¬((z.length:Int)<0) by lia,if_false,show max (0:Int) (min (z.length:Int) (z.length:Int))=z.length by lia]
  rfl)]
 rw[List.take_of_length_le (by rw[List.length_drop,<- fN];exact ZM _)]
theorem Gd(h:1<=z.length):(gr z none (some (-1))).cps.toList=z.cps.toList.take (z.length-1):=by
 rw[rR (b:=z.length-1) (Nat.zero_le _) (by lia) (by
  simp only[strSliceIndices,show((1:Int)>0)=True from by simp,Z6,show((-1:Int)<0)from by decide,show ¬(((z.length-1:Nat):Int)<0) by lia,if_false,show max (0:Int) (min (-1+(z.length:Int)) (z.length:Int))=((z.length-1:Nat):Int) by lia,show max (0:Int) (min ((z.length-1:Nat):Int) (z.length:Int))=((z.length-1:Nat):Int) by lia]
  simp only[show ¬(((0:Nat):Int)<0) by lia,if_false]
  rw[show max (0:Int) (min ((0:Nat):Int) (z.length:Int))=0 by lia])]
 rw[List.drop_zero,Nat.sub_zero]
theorem Gb:(gr z none (some (k:Int))).cps.toList=z.cps.toList.take k:=by
 rw[rR (b:=min k z.length) (Nat.zero_le _) (Nat.min_le_right _ _) (by
  simp only[strSliceIndices,show((1:Int)>0)=True from by simp,Z6,show ¬((k:Int)<0) by lia,show ¬(((min k z.length:Nat):Int)<0) by lia,if_false,show max (0:Int) (min (k:Int) (z.length:Int))=((min k z.length:Nat):Int) by lia,show max (0:Int) (min ((min k z.length:Nat):Int) (z.length:Int))=((min k z.length:Nat):Int) by lia]
  simp only[show ¬(((0:Nat):Int)<0) by lia,if_false]
  rw[show max (0:Int) (min ((0:Nat):Int) (z.length:Int))=0 by lia])]
 rw[List.drop_zero,Nat.sub_zero];rcases Nat.le_total k z.length with h|h
 . rw[Nat.min_eq_left h]
 . rw[Nat.min_eq_right h,List.take_of_length_le (by rw[<- fN];exact ZM _),List.take_of_length_le (by rw[<- fN];exact h)]
theorem B8:gr (z++(⟨#[44]⟩:Str)) none (some (-1))=z:=by
 refine uq ?_;rw[Gd (by rw[aX];show 1<=z.length+1;lia),aX,b8,fN]
 show(z.cps.toList++[44]).take (z.cps.toList.length+1-1)=_;rw[Nat.add_sub_cancel,List.take_append_of_le_length (ZM _),List.take_length]
theorem FB:uV f fl fh δ=(f δ).bind fun d=>(fl δ).bind fun l=>(fh δ).bind fun h=>match d with
 |.str z=>if(gr z l h).length<=sizeLine then some (.str (gr z l h))else none
 |_=>none:=by rfl
def rH:ir (.str x) [.str y]=some (.bl (Txt.startswith x y)):=by rfl
def FQ:wD (.str x) [.str y]=some (.bl (Txt.endswith x y)):=by rfl
end Dl
namespace Mine
open PySem PySem.Spec PyProof.Rows L2 Dl
noncomputable section
abbrev Es:List Addr:=[ai,aw]
abbrev vk(n:Int):FM:=vI (fC (.int n))
abbrev ck(n:Int):FD:=fC (.int n)
abbrev cs(s:Str):FD:=fC (.str s)
abbrev ln(f:FD):FD:=aT rD (af f ag)
abbrev dN:FD->FD:=a9 [a5,aq] "watch_names"
abbrev bz:FD->FD:=a9 [a5,aq] "machine_names"
abbrev nz:FD->FD:=a9 [a5,aq] "box_tuples"
abbrev iM:FD->FD:=a9 [az] "word"
abbrev gO:FD->FD:=a9 [az] "machine"
abbrev jv:FD->FD:=a9 [ao] "place"
abbrev nv:FD->FD:=a9 [ao] "words"
abbrev ju:FD->FD:=a9 [aq] "room_lists"
abbrev kf:FD->FD:=a9 [aq] "door_list"
def dZ:SQ:=(ah (cz 0 [bB,ai,aw] "number" aC (aa 1))
 (ah (cz 0 [bB,ai,aw] "sign" aC (aa 2))
 (cz 0 [bB,ai,aw] "against" aC (aa 3))))
def bA:GQ:=fun ds=>aE 4 (dZ (start 4 ds))
def jU:SQ:=(ah (cz 0 [aO] "name" aC (aa 1))
 (ah (cz 0 [aO,az] "price" aC (aa 2))
 (ah (cz 0 [aO] "hurry" aC (aa 3))
 (cz 0 [aO] "stays" aC (aa 4)))))
def eC:GQ:=fun ds=>aE 5 (jU (start 5 ds))
def jV:SQ:=(ah (cz 0 [az] "machine" aC (aa 1))
 (ah (cz 0 [az] "start" aC (aa 2))
 (ah (cz 0 [az] "goal" aC (aa 3))
 (ah (cz 0 [az] "weather" aC (aa 4))
 (ah (cz 0 [az] "word" aC (aa 5))
 (ah (cz 0 [aO,az] "price" aC (aa 6))
 (ah (cz 0 [az] "conds" aC (aa 7))
 (ah (cz 0 [az] "resets" aC (aa 8))
 (cz 0 [az] "deeds" aC (aa 9))))))))))
def eD:GQ:=fun ds=>aE 10 (jV (start 10 ds))
def lh:SQ:=(ah (qIf (eL (fT (f2 x8 (iM (ab 1)) (fC .non))) (eL (fT (f2 eE (f2 gIx (iM (ab 1)) (ck 0)) (cs "say"))) (fT (f2 bC (gO (ab 1)) (gO (ab 0)))))) (aR (vI (fC (.bl false)))) bd)
 (aR (vI (f2 bC (iM (ab 0)) (rE (af (cs "hear") (af (f2 gIx (iM (ab 1)) (ck 1)) ag)))))))
def iD:GQ:=fun ds=>aE 2 (lh (start 2 ds))
def oX:SQ:=(aR (vI (cS (fY (ck 1) (ln (ab 0)) (ck 8)) (aT nq (af (gq (aA (je (ab 0)) 1 [] (gN 0) (fun _=>some true) (vI (f2 x9 (ab 0) (cs "abcdefghijklmnopqrstuvwxyz"))))) ag)))))
def lv:GQ:=fun ds=>aE 1 (oX (start 1 ds))
def kn:SQ:=(ah (aB 3 (qi (fT (fMt ir (ab 0) (af (cs "-") ag))) (vI (uV (ab 0) (faS (ck 1)) faN)) (aa 0)))
 (ah (qIf (eL (bF (fT (fY (ck 1) (ln (ab 3)) (ck 31)))) (bF (fT (aT nq (af (gq (aA (je (ab 3)) 1 [] (gN 0) (fun _=>some true) (vI (f2 x9 (ab 0) (cs "0123456789"))))) ag))))) (aR (vI (fC .non))) bd)
 (ah (qIf (jS (fT (fMt ir (ab 3) (af (cs "0") ag))) (fT (f2 eE (ab 0) (cs "0")))) (aR (vI (fC .non))) bd)
 (ah (aB 4 (vI (aT tR (af (ab 0) ag))))
 (aR (qi (fT (fY (ab 1) (ab 4) (ab 2))) (aa 4) (vI (fC .non))))))))
def df:GQ:=fun ds=>aE 3 (kn (start 5 ds))
def i7:SQ:=(ah (cz 0 [ao] "row" aC (aa 1))
 (ah (cz 0 [ao] "words" aC (aa 2))
 (cz 0 [ao] "place" aC (vk 0))))
def fV:GQ:=fun ds=>aE 3 (i7 (start 3 ds))
def kE:SQ:=(qIf (bF (fT (ab 1))) qD bd)
def av:GQ:=fun ds=>aE 2 (kE (start 2 ds))
def dS:SQ:=(ah (qIf (eL (fT (f2 bC (jv (ab 0)) (ln (nv (ab 0))))) (fT (f2 eE (f2 gIx (nv (ab 0)) (jv (ab 0))) (ab 1)))) (aR (vI (fC (.bl false)))) bd)
 (ah (cz 0 [ao] "place" aC (vI (f2 aQ (jv (ab 0)) (ck 1))))
 (aR (vI (fC (.bl true))))))
def aN:GQ:=fun ds=>aE 2 (dS (start 2 ds))
def i8:SQ:=(ah (cz 0 [a5,aq] "watch_names" aC (cI ak))
 (ah (cz 0 [a5,aq] "box_tuples" aC (cI ak))
 (ah (cz 0 [a5,aq] "machine_names" aC (cI ak))
 (ah (cz 0 [aq] "room_lists" aC (cI ak))
 (cz 0 [aq] "door_list" aC (cI ak))))))
def fW:GQ:=fun ds=>aE 1 (i8 (start 1 ds))
def eZ:SQ:=(aR (aA (a6 (cD [a5,aq] "box_tuples" (aa 0))) 1 [] (gN 0) (fun _=>some true) (vI (f2 gIx (ab 0) (ck 0)))))
def bN:GQ:=fun ds=>aE 1 (eZ (start 1 ds))
def eF:SQ:=(aR (aA (a6 (eO (cD [aq] "room_lists" (aa 0)) (f1 fP (ck 1)))) 1 [] (gN 0) (fun _=>some true) (vI (a9 [aO] "name" (ab 0)))))
def bW:GQ:=fun ds=>aE 1 (eF (start 1 ds))
def fR:SQ:=(aR (vI (cS (f2 gGt (ln (ju (ab 0))) (ck 0)) (f2 gGt (ln (f2 gIx (ju (ab 0)) (f1 fP (ck 1)))) (ck 0)))))
def bD:GQ:=fun ds=>aE 1 (fR (start 1 ds))
def fS:SQ:=(aR (vI (cS (f2 gGt (ln (kf (ab 0))) (ck 0)) (f2 bC (gO (f2 gIx (kf (ab 0)) (f1 fP (ck 1)))) (f2 (gI0 fun i j=>.int (i-j)) (ln (bz (ab 0))) (ck 1))))))
def bV:GQ:=fun ds=>aE 1 (fS (start 1 ds))
def jD:SQ:=(ah (qIf (bF (fT (aT (jR Is) (af (ab 0) (af (fC (.cls ai)) ag))))) (aR (vI (fC (.bl false)))) bd)
 (aR (vI (uW (f2 bC (a9 [bB,ai,aw] "sign" (ab 0)) (cs "<=")) (cS (f2 bC (a9 [bB,ai,aw] "sign" (ab 0)) (cs "<")) (f2 gGt (a9 [bB,ai,aw] "against" (ab 0)) (ck 0)))))))
def eH:GQ:=fun ds=>aE 1 (jD (start 1 ds))
def lu:SQ:=(aR (qi (fT (f2 gLt (ab 1) (ln (ab 0)))) (vI (f2 gIx (ab 0) (ab 1))) (vk 0)))
def eJ:GQ:=fun ds=>aE 2 (lu (start 2 ds))
def jE:SQ:=(aR (cI (ae (vI (aT zR (af (ck 0) (af (f2 (gI0 fun i j=>.int (i-j)) (aT Fm (af (ab 0) ag)) (f2 (gI CPow fun i j=>.int (i^j.toNat)) (ck 10) (ck 18))) ag)))) (ae (vI (f2 aQ (f2 (gI (fun _ j=>0<j) fun i j=>.int (i%j)) (aT Fm (af (ab 0) ag)) (ck 2147483563)) (ck 1))) ak))))
def fg:GQ:=fun ds=>aE 1 (jE (start 1 ds))
def iw:SQ:=(ah (qIf (fT (f2 gGt (f2 gIx (ab 0) (ck 0)) (ck 0))) (ah (aB 2 (vI (f2 gIx (ab 0) (ck 0))))
 (ah (uA 0 aC (ck 0) (vI (f2 (gI pM fun i j=>.int (i/j)) (ab 2) (ab 1))))
 (aR (vI (f2 (gI (fun _ j=>0<j) fun i j=>.int (i%j)) (ab 2) (ab 1)))))) bd)
 (ah (uA 0 aC (ck 1) (vI (f2 (gI (fun _ j=>0<j) fun i j=>.int (i%j)) (f2 aQ (f2 (gI kM fun i j=>.int (i*j)) (f2 gIx (ab 0) (ck 1)) (ck 48271)) (ck 9973)) (ck 2147483629))))
 (ah (aB 2 (vI (f2 (gI (fun _ j=>0<j) fun i j=>.int (i%j)) (f2 (gI kM fun i j=>.int (i*j)) (f2 gIx (ab 0) (ck 1)) (f2 gIx (ab 0) (ck 1))) (ck 2147483587))))
 (aR (vI (f2 (gI (fun _ j=>0<j) fun i j=>.int (i%j)) (f2 (gI pM fun i j=>.int (i/j)) (ab 2) (ck 7)) (ab 1)))))))
def aK:GQ:=fun ds=>aE 2 (iw (start 3 ds))
abbrev tk(n:Int):FM:=aj [some 0,none] aK (ae (aa 0) (ae (vI (fC (.int n))) ak))
@[simp] def Jy (δ:DS):=(vI (f2 aQ (f2 aQ (f2 aQ (f2 aQ (ab 0) (cs " ")) (ab 1)) (cs " ")) (aT lN (af (ab 2) ag)))) δ
def iP:SQ:=(aR (vI (fMt lO (cs ", ") (af (gq (aA (a6 (aa 0)) 3 [] (fO [0,1,2]) (fun _=>some true) Jy)) ag))))
def cr:GQ:=fun ds=>aE 1 (iP (start 1 ds))
def gf:SQ:=(aR (vI (f2 gIx (gF (af (rE (af (ck 4) (af (ck 3) (af (ck 4) (af (ck 6) (af (ck 6) (af (ck 60) ag))))))) (af (rE (af (ck 2) (af (ck 1) (af (ck 2) (af (ck 3) (af (ck 4) (af (ck 4) ag))))))) (af (rE (af (ck 1) (af (ck 2) (af (ck 3) (af (ck 2) (af (ck 3) (af (ck 9) ag))))))) ag)))) (f2 (gI (fun _ j=>0<j) fun i j=>.int (i%j)) (ab 0) (ck 3)))))
def di:GQ:=fun ds=>aE 1 (gf (start 1 ds))
@[simp] def OD (δ:DS):=(bE 1 (aA (dH (vI (ln (ab 0)))) 1 [3,0,2] (gN 0) (fT (aS iD (af (f2 gIx (ab 2) (ab 0)) (af (ab 1) ag)))) (sk (bY (ae (aa 3) (ae (aa 0) ak)))))) δ
def lq:SQ:=(ah (dB 1 (aA (dH (vI (ln (ab 0)))) 1 [0] (gN 0) (fT (f2 x8 (iM (f2 gIx (ab 1) (ab 0))) (fC .non))) (sk (bY (ae (aa 0) ak)))))
 (ah (gC (sN (aa 0)) (fO [2,3]) (uB 1 aC OD))
 (aR (qm (ab 1)))))
def jb:GQ:=fun ds=>aE 1 (lq (start 4 ds))
def jH:SQ:=(ah (bI (vI (cX ao "insist" av (ab 0) (af (f2 gLt (jv (ab 0)) (ln (nv (ab 0)))) ag))))
 (ah (cz 0 [ao] "place" aC (vI (f2 aQ (jv (ab 0)) (ck 1))))
 (aR (vI (f2 gIx (nv (ab 0)) (f2 (gI0 fun i j=>.int (i-j)) (jv (ab 0)) (ck 1)))))))
def bu:GQ:=fun ds=>aE 1 (jH (start 1 ds))
def hU:SQ:=(bI (vI (cX ao "insist" av (ab 0) (af (f2 bC (jv (ab 0)) (ln (nv (ab 0)))) ag))))
def fE:GQ:=fun ds=>aE 1 (hU (start 1 ds))
@[simp] def yB (δ:DS):=(qIf (fT (f2 gIn (f2 gIx (ab 4) (ck 0)) (dN (ab 0)))) (ah (bI (vI (cX ao "insist" av (ab 1) (af (f2 bC (fSl (ab 4) (faS (ck 1)) faN) (gF (af (cs "=") (af (cs "0") ag)))) ag))))
 (cP 3 aC (bE 3 (vI (fMt bL (dN (ab 0)) (af (f2 gIx (ab 4) (ck 0)) ag)))))) bd) δ
def km:SQ:=(ah (dB 3 (cI ak))
 (ah (gC (a6 (aa 2)) (gN 4) yB)
 (aR (jX (aa 3)))))
def iC:GQ:=fun ds=>aE 3 (km (start 5 ds))
@[simp] def wU (δ:DS):=(qIf (fT (f2 gY (f2 gIx (ab 5) (ck 0)) (dN (ab 0)))) (ah (bI (vI (cX ao "insist" av (ab 1) (af (cS (f2 gIn (f2 gIx (ab 5) (ck 0)) (ab 3)) (f2 gIn (f2 gIx (ab 5) (ck 1)) (rE (af (cs "=") (af (cs "+") (af (cs "-") ag)))))) ag))))
 (ah (aB 6 (vI (aS df (af (f2 gIx (ab 5) (ck 2)) (af (fIf (fT (f2 bC (f2 gIx (ab 5) (ck 1)) (cs "="))) (f1 fP (ck 20)) (ck 1)) (af (ck 20) ag))))))
 (ah (bI (vI (cX ao "insist" av (ab 1) (af (f2 kb (ab 6) (fC .non)) ag))))
 (cP 4 aC (bE 4 (bY (ae (vI (fMt bL (ab 3) (af (f2 gIx (ab 5) (ck 0)) ag))) (ae (vI (f2 gIx (ab 5) (ck 1))) (ae (aa 6) ak))))))))) bd) δ
def mF:SQ:=(ah (aB 3 (iQ aq "box_names" bN (ab 0) ag))
 (ah (dB 4 (cI ak))
 (ah (gC (a6 (aa 2)) (gN 5) wU)
 (aR (aa 4)))))
def jK:GQ:=fun ds=>aE 3 (mF (start 7 ds))
@[simp] def bq7 (δ:DS):=(bX bC (tk 9) (vk 4)) δ
@[simp] def bq9 (δ:DS):=(bX aQ (vk 1) (tk 8)) δ
@[simp] def OE (δ:DS):=(bX aQ (aa 2) (bX kc (vI (cs "abcdefghijklmnopqrstuvwxyz")) (tk 26))) δ
@[simp] def vn (δ:DS):=(ah (aB 4 (aA (je (cs "abcdefghijklmnopqrstuvwxyz")) 1 [2] (gN 0) (fun _=>some true) (vI (f2 aQ (uV (ab 1) faN (faS (ck 7))) (ab 0)))))
 (aB 2 (bX gIx (aA (a6 (aa 4)) 1 [1] (gN 0) (fT (f2 gY (ab 0) (ab 1))) (aa 0)) (vk 0)))) δ
@[simp] def vm (δ:DS):=(aB 2 (bX gIx (cI (ae (vI (cs "do")) (ae (vI (cs "when")) (ae (vI (cs "say")) (ae (vI (cs "price")) (ae (vI (cs "stay")) (ae (vI (cs "hurry")) (ae (vI (cs "weather")) (ae (vI (cs "watch")) (ae (vI (cs "room")) (ae (vI (cs "at")) ak))))))))))) (tk 10))) δ
def kx:SQ:=(ah (aB 2 (vI (cs "")))
 (ah (gC (dH bq9) (gN 3) (aB 2 OE))
 (ah (lW bq7 vm bd)
 (ah (qIf (fT (f2 gIn (ab 2) (ab 1))) vn bd)
 (ah (cP 1 aC (bE 1 (aa 2)))
 (aR (aa 2)))))))
def bK:GQ:=fun ds=>aE 2 (kx (start 5 ds))
def iz:SQ:=(ah (aB 4 (aj [some 0,none] aK (ae (aa 0) (ae (vI (f2 aQ (ln (ab 1)) (ln (ab 2)))) ak))))
 (ah (qIf (fT (f2 gLt (ab 4) (ln (ab 1)))) (ah (aB 5 (bX gIx (cI (ae (vI (cs "<")) (ae (vI (cs "<=")) (ae (vI (cs "==")) (ae (vI (cs ">=")) (ae (vI (cs ">")) ak)))))) (tk 5)))
 (aR (bY (ae (vI (f2 gIx (ab 1) (ab 4))) (ae (aa 5) (ae (aj [some 0,none] aK (ae (aa 0) (ae (vI (f2 aQ (ab 3) (ck 1))) ak))) ak)))))) bd)
 (ah (aB 5 (bX gIx (cI (ae (vI (cs "<")) (ae (vI (cs "<=")) (ae (vI (cs "==")) (ae (vI (cs ">=")) (ae (vI (cs ">")) (ae (vI (cs "!=")) ak))))))) (tk 6)))
 (aR (bY (ae (vI (f2 gIx (f2 gIx (ab 2) (f2 (gI0 fun i j=>.int (i-j)) (ab 4) (ln (ab 1)))) (ck 0))) (ae (aa 5) (ae (bX (gI0 fun i j=>.int (i-j)) (tk 41) (vk 20)) ak))))))))
def gj:GQ:=fun ds=>aE 4 (iz (start 6 ds))
@[simp] def JA (δ:DS):=(bX aQ (vk 1) (tk 2)) δ
@[simp] def Jv (δ:DS):=(ah (aB 5 (bX gIx (aa 1) (aj [some 0,none] aK (ae (aa 0) (ae (vI (ln (ab 1))) ak)))))
 (ah (aB 6 (tk 2))
 (cP 3 aC (bE 3 (bY (ae (aa 5) (ae (vI (f2 gIx (gF (af (cs "<=") (af (cs "<") ag))) (ab 6))) (ae (bX aQ (aa 6) (aj [some 0,none] aK (ae (aa 0) (ae (vI (f2 (gI0 fun i j=>.int (i-j)) (f2 aQ (ab 2) (ck 1)) (ab 6))) ak)))) ak)))))))) δ
def eX:SQ:=(ah (dB 3 (cI ak))
 (ah (lW (o0 (fT (f2 eE (ab 1) (gF ag))) (bX bC (tk 2) (vk 1))) (gC (dH JA) (gN 4) Jv) bd)
 (aR (aa 3))))
def dE:GQ:=fun ds=>aE 3 (eX (start 7 ds))
@[simp] def sI (δ:DS):=(bX (gI kM fun i j=>.int (i*j)) (tk 4) (vI (aT tR (af (uW (f2 eE (ab 1) (gF ag)) (f2 eE (ab 2) (gF ag))) ag)))) δ
@[simp] def sG (δ:DS):=(ah (aB 5 (aj [some 0,none] aK (ae (aa 0) (ae (vI (f2 aQ (ln (ab 1)) (ln (ab 2)))) ak))))
 (qIf (fT (f2 gLt (ab 5) (ln (ab 1)))) (cP 3 aC (bE 3 (bY (ae (vI (f2 gIx (ab 1) (ab 5))) (ae (vI (cs "=")) (ae (vk 0) ak)))))) (ah (aB 6 (bX kc (vI (cs "=+-")) (tk 3)))
 (ah (aB 7 (bX (gI0 fun i j=>.int (i-j)) (tk 41) (vk 20)))
 (ah (qIf (fT (f2 eE (ab 6) (cs "="))) (aB 7 (vI (f2 aQ (ck 1) (f2 (gI (fun _ j=>0<j) fun i j=>.int (i%j)) (ab 7) (ck 3))))) bd)
 (cP 3 aC (bE 3 (bY (ae (vI (f2 gIx (f2 gIx (ab 2) (f2 (gI0 fun i j=>.int (i-j)) (ab 5) (ln (ab 1)))) (ck 0))) (ae (aa 6) (ae (aa 7) ak))))))))))) δ
def jG:SQ:=(ah (dB 3 (cI ak))
 (ah (gC (dH sI) (gN 4) sG)
 (aR (aa 3))))
def gL:GQ:=fun ds=>aE 3 (jG (start 8 ds))
def gH:SQ:=(ah (lW (bX bC (tk 8) (vk 5)) (aR (aj [some 0,none] aK (ae (aa 0) (ae (vI (f2 aQ (f2 (gI CPow fun i j=>.int (i^j.toNat)) (ck 10) (ck 30)) (ck 1))) ak)))) bd)
 (aR (tk 4)))
def dF:GQ:=fun ds=>aE 1 (gH (start 1 ds))
@[simp] def Go (δ:DS):=(fT (f2 bC (f2 (gI (fun _ j=>0<j) fun i j=>.int (i%j)) (ln (f2 gIx (ab 0) (ck 0))) (ck 2)) (ck 1))) δ
def gv:SQ:=(ah (aB 1 (vI (f2 aQ (cs "room ") (f2 gIx (ab 0) (ck 0)))))
 (ah (qIf (eL (fT (f2 gGt (f2 gIx (ab 0) (ck 1)) (ck 0))) Go) (aB 1 (vI (f2 aQ (f2 aQ (ab 1) (cs " price ")) (aT lN (af (f2 gIx (ab 0) (ck 1)) ag))))) bd)
 (ah (qIf (fT (f2 gIx (ab 0) (ck 2))) (aB 1 (vI (f2 aQ (ab 1) (cs " hurry")))) bd)
 (ah (qIf (fT (f2 eE (f2 gIx (ab 0) (ck 3)) (gF ag))) (aB 1 (vI (f2 aQ (f2 aQ (ab 1) (cs " stay ")) (aS cr (af (f2 gIx (ab 0) (ck 3)) ag))))) bd)
 (aR (aa 1))))))
def d8:GQ:=fun ds=>aE 1 (gv (start 2 ds))
@[simp] def Cj (δ:DS):=(fT (f2 bC (f2 (gI (fun _ j=>0<j) fun i j=>.int (i%j)) (ln (f2 gIx (ab 0) (ck 1))) (ck 2)) (ck 1))) δ
@[simp] def MW (δ:DS):=(aB 1 (vI (f2 aQ (f2 aQ (f2 aQ (f2 aQ (ab 1) (cs " ")) (f2 gIx (f2 gIx (ab 0) (ck 3)) (ck 0))) (cs " ")) (f2 gIx (f2 gIx (ab 0) (ck 3)) (ck 1))))) δ
def gw:SQ:=(ah (aB 1 (vI (f2 aQ (f2 aQ (f2 aQ (cs "door ") (f2 gIx (ab 0) (ck 0))) (cs " ")) (f2 gIx (ab 0) (ck 1)))))
 (ah (qIf (fT (f2 gIx (ab 0) (ck 2))) (aB 1 (vI (f2 aQ (ab 1) (cs " weather")))) bd)
 (ah (qIf (fT (f2 kb (f2 gIx (ab 0) (ck 3)) (fC .non))) MW bd)
 (ah (qIf (eL (fT (f2 gGt (f2 gIx (ab 0) (ck 4)) (ck 0))) Cj) (aB 1 (vI (f2 aQ (f2 aQ (ab 1) (cs " price ")) (aT lN (af (f2 gIx (ab 0) (ck 4)) ag))))) bd)
 (ah (qIf (fT (f2 eE (f2 gIx (ab 0) (ck 5)) (gF ag))) (aB 1 (vI (f2 aQ (f2 aQ (ab 1) (cs " when ")) (aS cr (af (f2 gIx (ab 0) (ck 5)) ag))))) bd)
 (ah (qIf (fT (f2 eE (f2 gIx (ab 0) (ck 6)) (gF ag))) (aB 1 (vI (f2 aQ (f2 aQ (ab 1) (cs " do ")) (aS cr (af (f2 gIx (ab 0) (ck 6)) ag))))) bd)
 (aR (aa 1))))))))
def d9:GQ:=fun ds=>aE 1 (gw (start 2 ds))
def kF:SQ:=(ah (cz 0 [a5] "text" aC (aa 1))
 (ah (cz 0 [a5,aq] "watch_names" aC (aa 2))
 (ah (cz 0 [a5,aq] "box_tuples" aC (aa 3))
 (ah (cz 0 [a5,aq] "machine_names" aC (aa 4))
 (ah (cz 0 [a5] "own_rooms" aC (aA (a6 (aa 5)) 1 [] (gN 0) (fun _=>some true) (qj (aA (a6 (aa 0)) 1 [] (gN 0) (fun _=>some true) (bY (ae (vI (a9 [aO] "name" (ab 0))) (ae (aa 0) ak)))))))
 (ah (cz 0 [a5] "own_doors" aC (aa 6))
 (cz 0 [a5] "own_acts" aC (vI (aT BU (af (gq (aA (a6 (aj [none] jb (ae (aa 6) ak))) 1 [] (gN 0) (fun _=>some true) (bY (ae (aa 0) (ae (vI (fC (.bl true))) ak))))) ag))))))))))
def ig:GQ:=fun ds=>aE 7 (kF (start 7 ds))
def lj:SQ:=(ah (qIf (fT (f2 gIn (f2 gIx (ab 2) (ck 0)) (ab 0))) (ah (aB 3 (vI (aS df (af (f2 gIx (ab 2) (ck 2)) (af (ck 0) (af (ck 60) ag))))))
 (qIf (jS (fT (f2 gIn (f2 gIx (ab 2) (ck 1)) (fC (.tup ((["<","<=","==",">=",">"]:List Str).map D.str))))) (fT (f2 kb (ab 3) (fC .non)))) (aR (fI ai [none,none,none] bA (ae (vI (fMt bL (ab 0) (af (f2 gIx (ab 2) (ck 0)) ag))) (ae (vI (f2 gIx (ab 2) (ck 1))) (ae (aa 3) ak))))) bd)) bd)
 (ah (qIf (fT (f2 gIn (f2 gIx (ab 2) (ck 0)) (ab 1))) (ah (aB 3 (vI (aS df (af (f2 gIx (ab 2) (ck 2)) (af (f1 fP (ck 20)) (af (ck 20) ag))))))
 (qIf (jS (fT (f2 gIn (f2 gIx (ab 2) (ck 1)) (fC (.tup ((["<","<=","==","!=",">=",">"]:List Str).map D.str))))) (fT (f2 kb (ab 3) (fC .non)))) (aR (fI aw [none,none,none] bA (ae (vI (fMt bL (ab 1) (af (f2 gIx (ab 2) (ck 0)) ag))) (ae (vI (f2 gIx (ab 2) (ck 1))) (ae (aa 3) ak))))) bd)) bd)
 (aR (vI (fC .non)))))
def i9:GQ:=fun ds=>aE 3 (lj (start 4 ds))
def eY:SQ:=(ah (aB 1 (bR 0 ao "take" (aj [some 0] bu (ae (aa 0) ak))))
 (ah (bI (vI (cX ao "insist" av (ab 0) (af (aS lv (af (ab 1) ag)) ag))))
 (aR (aa 1))))
def bt:GQ:=fun ds=>aE 1 (eY (start 2 ds))
def dJ:SQ:=(ah (aB 3 (aj [none,none,none] df (ae (bR 0 ao "take" (aj [some 0] bu (ae (aa 0) ak))) (ae (aa 1) (ae (aa 2) ak)))))
 (ah (bI (vI (cX ao "insist" av (ab 0) (af (f2 kb (ab 3) (fC .non)) ag))))
 (aR (aa 3))))
def a7:GQ:=fun ds=>aE 3 (dJ (start 4 ds))
@[simp] def MT (δ:DS):=(ah (dB 3 (cI (ae (bR 0 ao "take" (aj [some 0] bu (ae (aa 0) ak))) (ae (bR 0 ao "take" (aj [some 0] bu (ae (aa 0) ak))) (ae (bR 0 ao "take" (aj [some 0] bu (ae (aa 0) ak))) ak)))))
 (ah (aB 2 (vI (fMt wD (f2 gIx (ab 3) (ck 2)) (af (cs ",") ag))))
 (ah (qIf (fT (ab 2)) (uA 3 aC (ck 2) (vI (uV (f2 gIx (ab 3) (ck 2)) faN (faS (f1 fP (ck 1)))))) bd)
 (cP 1 aC (bE 1 (aa 3)))))) δ
def dI:SQ:=(ah (dB 1 (cI ak))
 (ah (aB 2 (vI (fC (.bl true))))
 (ah (eR 1000 (fT (ab 2)) MT)
 (aR (aa 1)))))
def cC:GQ:=fun ds=>aE 1 (dI (start 4 ds))
def jC:SQ:=(ah (aB 2 (bR 1 ao "take" (aj [some 1] bu (ae (aa 1) ak))))
 (ah (bI (vI (cX ao "insist" av (ab 1) (af (f2 gIn (ab 2) (cX aq "room_names" bW (ab 0) ag)) ag))))
 (aR (aa 2))))
def ff:GQ:=fun ds=>aE 2 (jC (start 3 ds))
@[simp] def Jz (δ:DS):=(aj [some 3,none,none,none] gj (ae (aa 3) (ae (aa 4) (ae (aa 1) (ae (aa 2) ak))))) δ
def gJ:SQ:=(ah (qIf (jS (fT (f2 bC (ab 1) (gF ag))) (fT (f2 bC (ab 2) (gF ag)))) (aR (cI ak)) bd)
 (aR (aA (dH (tk 3)) 1 [2,3,0,1] (gN 0) (fun _=>some true) Jz)))
def fB:GQ:=fun ds=>aE 4 (gJ (start 4 ds))
def kr:SQ:=(ah (aB 4 (aj [some 0,some 1] bK (ae (aa 0) (ae (aa 1) ak))))
 (aR (bY (ae (aa 4) (ae (aj [some 0] dF (ae (aa 0) ak)) (ae (bX bC (tk 6) (vk 5)) (ae (aj [some 0,none,none] dE (ae (aa 0) (ae (aa 2) (ae (aa 3) ak)))) ak)))))))
def iF:GQ:=fun ds=>aE 4 (kr (start 5 ds))
@[simp] def PB (δ:DS):=(vI (fMt lO (cs " ") (af (gF (af (cs "box") (af (f2 gIx (ab 0) (ck 0)) (af (aT lN (af (f2 gIx (ab 0) (ck 1)) ag)) (af (aT lN (af (f2 gIx (ab 0) (ck 2)) ag)) (af (aT lN (af (f2 gIx (ab 0) (ck 3)) ag)) ag)))))) ag))) δ
@[simp] def MU (δ:DS):=(ah (cP 1 aC (bE 1 (vI (f2 aQ (cs "machine ") (ab 5)))))
 (dB 1 (qo (f2 gA (ab 1) (gq (aA (a6 (aa 6)) 1 [] (gN 0) (fun _=>some true) (vI (aS d8 (af (ab 0) ag)))))) (gq (aA (a6 (aa 7)) 1 [] (gN 0) (fun _=>some true) (vI (aS d9 (af (ab 0) ag)))))))) δ
@[simp] def Pz (δ:DS):=(gq (aA (a6 (aa 3)) 1 [] (gN 0) (fun _=>some true) PB)) δ
def pI:SQ:=(ah (qUn [2,3,4] (aa 0))
 (ah (dB 1 (aA (a6 (aa 2)) 1 [] (gN 0) (fun _=>some true) (vI (f2 aQ (cs "watch ") (ab 0)))))
 (ah (dB 1 (qo (ab 1) Pz))
 (ah (gC (a6 (aa 4)) (fO [5,6,7]) MU)
 (aR (aa 1))))))
def gi:GQ:=fun ds=>aE 1 (pI (start 8 ds))
def mD:SQ:=(ah (aB 2 (bR 1 ao "take_name" (aj [some 1] bt (ae (aa 1) ak))))
 (ah (bI (vI (cX ao "insist" av (ab 1) (af (f2 gY (ab 2) (f2 gA (f2 gA (dN (ab 0)) (cX aq "box_names" bN (ab 0) ag)) (bz (ab 0)))) ag))))
 (aR (aa 2))))
def dh:GQ:=fun ds=>aE 2 (mD (start 3 ds))
def eW:SQ:=(ah (lW (bR 0 ao "takes" (aj (some 0::[none]) aN (ae (aa 0) (ae (vI (cs "say")) ak)))) (aR (bY (ae (vI (cs "say")) (ae (bR 0 ao "take_name" (aj [some 0] bt (ae (aa 0) ak))) ak)))) bd)
 (ah (lW (bR 0 ao "takes" (aj (some 0::[none]) aN (ae (aa 0) (ae (vI (cs "hear")) ak)))) (aR (bY (ae (vI (cs "hear")) (ae (bR 0 ao "take_name" (aj [some 0] bt (ae (aa 0) ak))) ak)))) bd)
 (aR (vI (fC .non)))))
def bT:GQ:=fun ds=>aE 1 (eW (start 1 ds))
def f8:SQ:=(aR (qh (bR 0 ao "takes" (aj (some 0::[none]) aN (ae (aa 0) (ae (vI (cs "price")) ak)))) (bR 0 ao "take_number" (aj (some 0::[none,none]) a7 (ae (aa 0) (ae (vk 0) (ae (vk 1000000000000000000000000000000) ak))))) (vk 0)))
def bU:GQ:=fun ds=>aE 1 (f8 (start 1 ds))
@[simp] def bq0 (δ:DS):=(bR 1 ao "take_threes" (aj [some 1] cC (ae (aa 1) ak))) δ
@[simp] def bq3 (δ:DS):=(a6 bq0) δ
@[simp] def Ci (δ:DS):=(aj [none,none,none] i9 (ae (cD [a5,aq] "watch_names" (aa 1)) (ae (iQ aq "box_names" bN (ab 1) ag) (ae (aa 0) ak)))) δ
def iO:SQ:=(ah (dB 2 (aA bq3 1 [0] (gN 0) (fun _=>some true) Ci))
 (ah (bI (vI (cX ao "insist" av (ab 1) (af (f2 (kZ Es) (fC .non) (ab 2)) ag))))
 (aR (aa 2))))
def cq:GQ:=fun ds=>aE 2 (iO (start 3 ds))
@[simp] def bq8 (δ:DS):=(bX bC (tk 4) (vk 3)) δ
@[simp] def MV (δ:DS):=(aB 9 (bY (ae (bX gIx (cI (ae (vI (cs "say")) (ae (vI (cs "hear")) ak))) (tk 2)) (ae (bX gIx (aa 5) (tk 3)) ak)))) δ
def kC:SQ:=(ah (aB 6 (bX gIx (AF (aa 1) (aj [some 0,none] aK (ae (aa 0) (ae (vI (ln (ab 1))) ak)))) (vk 0)))
 (ah (aB 7 (bX gIx (AF (aa 1) (aj [some 0,none] aK (ae (aa 0) (ae (vI (ln (ab 1))) ak)))) (vk 0)))
 (ah (aB 8 (bX bC (tk 3) (vk 1)))
 (ah (aB 9 (vI (fC .non)))
 (ah (lW bq8 MV bd)
 (ah (dB 10 (aj [some 0,none,none,none] fB (ae (aa 0) (ae (aa 2) (ae (aa 3) (ae (aa 4) ak))))))
 (aR (bY (ae (aa 6) (ae (aa 7) (ae (aa 8) (ae (aa 9) (ae (aj [some 0] dF (ae (aa 0) ak)) (ae (aa 10) (ae (aj [some 0,none,none] gL (ae (aa 0) (ae (aa 2) (ae (aa 3) ak)))) ak)))))))))))))))
def iG:GQ:=fun ds=>aE 6 (kC (start 11 ds))
def kq:SQ:=(aR (vI (fMt lO (cs "") (af (gq (aA (a6 (aj [none] gi (ae (aa 0) ak))) 1 [] (gN 0) (fun _=>some true) (vI (f2 aQ (ab 0) (cs "\n"))))) ag))))
def gh:GQ:=fun ds=>aE 1 (kq (start 1 ds))
def ko:SQ:=(ah (bI (vI (cX ao "insist" av (ab 1) (af (cS (f2 bC (ln (nz (ab 0))) (ck 0)) (f2 bC (ln (bz (ab 0))) (ck 0))) ag))))
 (ah (bI (vI (cX ao "insist" av (ab 1) (af (f2 gLt (ln (dN (ab 0))) (ck 4)) ag))))
 (cP 0 (iV 0 [a5,aq] "watch_names" aC) (b7 [.view 0,.lent 1] dh (takes [.view 0,.lent 1])))))
def iE:GQ:=fun ds=>aE 2 (ko (start 2 ds))
def oZ:SQ:=(ah (bI (vI (cX ao "insist" av (ab 1) (af (cS (f2 bC (ln (bz (ab 0))) (ck 0)) (f2 gLt (ln (nz (ab 0))) (ck 3))) ag))))
 (ah (aB 2 (b7 [.view 0,.lent 1] dh (cO 0 (ae (aa 1) ak))))
 (ah (aB 3 (bR 1 ao "take_number" (aj (some 1::[none,none]) a7 (ae (aa 1) (ae (vI (f1 fP (ck 20))) (ae (vk 20) ak))))))
 (ah (aB 4 (bR 1 ao "take_number" (aj (some 1::[none,none]) a7 (ae (aa 1) (ae (aa 3) (ae (vk 20) ak))))))
 (cP 0 (iV 0 [a5,aq] "box_tuples" aC) (bE 0 (bY (ae (aa 2) (ae (aa 3) (ae (aa 4) (ae (bR 1 ao "take_number" (aj (some 1::[none,none]) a7 (ae (aa 1) (ae (aa 3) (ae (aa 4) ak))))) ak)))))))))))
def lx:GQ:=fun ds=>aE 2 (oZ (start 5 ds))
def f9:SQ:=(ah (bI (vI (cX ao "insist" av (ab 1) (af (uW (f2 bC (ln (bz (ab 0))) (ck 0)) (cX aq "has_room" bD (ab 0) ag)) ag))))
 (ah (bI (vI (cX ao "insist" av (ab 1) (af (f2 gLt (ln (bz (ab 0))) (ck 4)) ag))))
 (ah (cP 0 (iV 0 [a5,aq] "machine_names" aC) (b7 [.view 0,.lent 1] dh (takes [.view 0,.lent 1])))
 (cP 0 (iV 0 [aq] "room_lists" aC) (bE 0 (cI ak))))))
def dW:GQ:=fun ds=>aE 2 (f9 (start 2 ds))
@[simp] def Jx (δ:DS):=(bE 0 (fI aO [none,none,none,none] eC (ae (aa 2) (ae (aa 3) (ae (aa 4) (ae (aa 5) ak)))))) δ
def mG:SQ:=(ah (bI (vI (cX ao "insist" av (ab 1) (af (cS (f2 gGt (ln (bz (ab 0))) (ck 0)) (f1 BR (cX aq "has_door" bV (ab 0) ag))) ag))))
 (ah (bI (vI (cX ao "insist" av (ab 1) (af (f2 gLt (ln (f2 gIx (ju (ab 0)) (f1 fP (ck 1)))) (ck 6)) ag))))
 (ah (aB 2 (bR 1 ao "take_name" (aj [some 1] bt (ae (aa 1) ak))))
 (ah (bI (vI (cX ao "insist" av (ab 1) (af (f2 gY (ab 2) (cX aq "room_names" bW (ab 0) ag)) ag))))
 (ah (aB 3 (aj [some 1] bU (ae (aa 1) ak)))
 (ah (aB 4 (bR 1 ao "takes" (aj (some 1::[none]) aN (ae (aa 1) (ae (vI (cs "hurry")) ak)))))
 (ah (aB 5 (qh (bR 1 ao "takes" (aj (some 1::[none]) aN (ae (aa 1) (ae (vI (cs "stay")) ak)))) (b7 [.view 0,.lent 1] cq (cO 0 (ae (aa 1) ak))) (cI ak)))
 (ah (bI (vI (cX ao "insist" av (ab 1) (af (aT nq (af (gq (aA (a6 (aa 5)) 1 [] (gN 0) (fun _=>some true) (vI (aS eH (af (ab 0) ag))))) ag)) ag))))
 (cP 0 (pIx 0 (f1 fP (ck 1)) (iV 0 [aq] "room_lists" aC)) Jx)))))))))
def jL:GQ:=fun ds=>aE 2 (mG (start 6 ds))
@[simp] def OF (δ:DS):=(bR 1 ao "takes" (aj (some 1::[none]) aN (ae (aa 1) (ae (vI (cs "do")) ak)))) δ
def mH:SQ:=(ah (bI (vI (cX ao "insist" av (ab 1) (af (cS (cX aq "has_room" bD (ab 0) ag) (f2 gLt (ln (kf (ab 0))) (ck 24))) ag))))
 (ah (aB 2 (b7 [.view 0,.lent 1] ff (cO 0 (ae (aa 1) ak))))
 (ah (aB 3 (b7 [.view 0,.lent 1] ff (cO 0 (ae (aa 1) ak))))
 (ah (aB 4 (bR 1 ao "takes" (aj (some 1::[none]) aN (ae (aa 1) (ae (vI (cs "weather")) ak)))))
 (ah (aB 5 (aj [some 1] bT (ae (aa 1) ak)))
 (ah (aB 6 (aj [some 1] bU (ae (aa 1) ak)))
 (ah (aB 7 (qh (bR 1 ao "takes" (aj (some 1::[none]) aN (ae (aa 1) (ae (vI (cs "when")) ak)))) (b7 [.view 0,.lent 1] cq (cO 0 (ae (aa 1) ak))) (cI ak)))
 (ah (aB 8 (qh OF bq0 (cI ak)))
 (ah (aB 9 (n8 iC (af (ab 0) (af (ab 1) (af (ab 8) ag)))))
 (ah (aB 10 (n8 jK (af (ab 0) (af (ab 1) (af (ab 8) ag)))))
 (ah (aB 11 (vI (f2 (gI0 fun i j=>.int (i-j)) (ln (bz (ab 0))) (ck 1))))
 (cP 0 (iV 0 [aq] "door_list" aC) (bE 0 (fI az [none,none,none,none,none,none,none,none,none] eD (ae (aa 11) (ae (aa 2) (ae (aa 3) (ae (aa 4) (ae (aa 5) (ae (aa 6) (ae (aa 7) (ae (aa 9) (ae (aa 10) ak)))))))))))))))))))))))
def jM:GQ:=fun ds=>aE 2 (mH (start 12 ds))
@[simp] def bq2 (δ:DS):=(ae (aa 0) (ae (vI (f2 aQ (f2 gIx (ab 1) (ck 4)) (ck 1))) ak)) δ
@[simp] def bq5 (δ:DS):=(qk (bY (ae (vI (f2 gIx (ab 0) (ck 0))) ak)) (ul (aa 1) (faS (ck 1)) faN)) δ
@[simp] def Cn (δ:DS):=(aj [some 0,none] aK (ae (aa 0) (ae (vI (f2 aQ (f2 gIx (ab 1) (ck 0)) (ck 1))) ak))) δ
@[simp] def Cm (δ:DS):=(aj [some 0,none] aK (ae (aa 0) (ae (vI (f2 aQ (f2 gIx (ab 1) (ck 1)) (ck 1))) ak))) δ
@[simp] def wX (δ:DS):=(bX aQ (vk 1) (aj [some 0,none] aK (ae (aa 0) (ae (vI (f2 gIx (ab 1) (ck 3))) ak)))) δ
@[simp] def Ck (δ:DS):=(bX aQ (vk 1) (aj [some 0,none] aK (ae (aa 0) (ae (vI (f2 gIx (ab 1) (ck 2))) ak)))) δ
@[simp] def vo (δ:DS):=(dH wX) δ
@[simp] def MX (δ:DS):=(aB 8 (bX (gI0 fun i j=>.int (i-j)) (tk 41) (vk 20))) δ
@[simp] def rY (δ:DS):=(aj [some 2,some 1,none,none] iF (ae (aa 2) (ae (aa 1) (ae (aa 4) (ae (vI (f2 gIx (ab 3) (ck 5))) ak))))) δ
@[simp] def wW (δ:DS):=(b7 [.lent 2,.val,.val,.view 1,.val,.view 6] iG (ae (aa 2) (ae (aa 3) (ae (aa 5) (cO 1 (ae (vI (f2 gIx (ab 4) (ck 5))) (cO 6 ak))))))) δ
@[simp] def nM (δ:DS):=(aB 12 (aA (uk (eO (wAt 6 (pIx 6 (ck 0) aC)) (ck 1)) (aa 12)) 2 [] (fO [0,1]) (fun _=>some true) bq5)) δ
@[simp] def nL (δ:DS):=(o0 (fT (f2 gGt (ab 5) (ck 0))) (o0 (fT (f2 gLe (ln (ab 12)) (ln (f2 gIx (f2 gIx (ab 6) (ck 0)) (ck 1))))) (bX bC (tk 3) (vk 1)))) δ
@[simp] def yC (δ:DS):=(bE 6 (bY (ae (aa 10) (ae (aa 12) (ae (AE (aA (dH (aa 13)) 1 [4,0,12,1,3,7] (gN 0) (fun _=>some true) wW)) ak))))) δ
@[simp] def wV (δ:DS):=(aA vo 1 [11,0,1,3] (gN 0) (fun _=>some true) rY) δ
@[simp] def Cg (δ:DS):=(cP 6 aC yC) δ
@[simp] def MS (δ:DS):=(ah (aB 9 (bX aQ (aa 8) (aj [some 0,none] aK (ae (aa 0) (ae (vI (aT Fj (af (f2 (gI0 fun i j=>.int (i-j)) (ck 21) (ab 8)) (af (f2 gIx (gF (af (ck 3) (af (ck 41) ag))) (aT tR (af (f2 gGt (f2 gIx (ab 1) (ck 5)) (ck 9)) ag))) ag)))) ak)))))
 (cP 4 aC (bE 4 (bY (ae (aj [some 0,some 2] bK (ae (aa 0) (ae (aa 2) ak))) (ae (aa 8) (ae (aa 9) (ae (bX aQ (aa 8) (aj [some 0,none] aK (ae (aa 0) (ae (vI (f2 aQ (f2 (gI0 fun i j=>.int (i-j)) (ab 9) (ab 8)) (ck 1))) ak)))) ak)))))))) δ
@[simp] def wT (δ:DS):=(ah (aB 10 (aj [some 0,some 2] bK (ae (aa 0) (ae (aa 2) ak))))
 (ah (dB 11 (cI ak))
 (ah (aB 12 wV)
 (ah (lW nL nM bd)
 (ah (aB 13 (aj [some 0,none] aK bq2))
 Cg))))) δ
def mI:SQ:=(ah (dB 2 (cI ak))
 (ah (aB 3 (aA (dH Cn) 1 [0,2] (gN 0) (fun _=>some true) (aj [some 1,some 2] bK (ae (aa 1) (ae (aa 2) ak)))))
 (ah (dB 4 (cI ak))
 (ah (gC (dH Cm) (gN 5) (ah MX
 MS))
 (ah (dB 6 (cI ak))
 (ah (dB 7 (cI ak))
 (ah (gC (dH (vk 3)) (gN 5) (bI (aj [some 0,some 7] bK (ae (aa 0) (ae (aa 7) ak)))))
 (ah (gC (dH Ck) (gN 5) wT)
 (aR (bY (ae (aa 3) (ae (aa 4) (ae (aa 6) ak)))))))))))))
def jN:GQ:=fun ds=>aE 2 (mI (start 14 ds))
@[simp] def MR (δ:DS):=(qIf (fT (f2 bC (ab 2) (cs "watch"))) (bI (aj [some 0,some 1] iE (ae (aa 0) (ae (aa 1) ak)))) (qIf (fT (f2 bC (ab 2) (cs "box"))) (bI (aj [some 0,some 1] lx (ae (aa 0) (ae (aa 1) ak)))) (qIf (fT (f2 bC (ab 2) (cs "machine"))) (bI (aj [some 0,some 1] dW (ae (aa 0) (ae (aa 1) ak)))) (qIf (fT (f2 bC (ab 2) (cs "room"))) (bI (aj [some 0,some 1] jL (ae (aa 0) (ae (aa 1) ak)))) (ah (bI (vI (cX ao "insist" av (ab 1) (af (f2 bC (ab 2) (cs "door")) ag))))
 (bI (aj [some 0,some 1] jM (ae (aa 0) (ae (aa 1) ak))))))))) δ
def oY:SQ:=(ah (aB 2 (bR 1 ao "take" (aj [some 1] bu (ae (aa 1) ak))))
 (ah MR
 (bI (vI (cX ao "finish" fE (ab 1) ag)))))
def ja:GQ:=fun ds=>aE 2 (oY (start 3 ds))
@[simp] def bq4 (δ:DS):=(ae (vI (f2 aQ (aS eJ (af (ab 0) (af (ck 0) ag))) (ab 1))) ak) δ
def jF:SQ:=(aR (aj [none,none] jN (ae (aj [none] fg (ae (vI (aS eJ (af (ab 0) (af (ab 1) ag)))) ak)) (ae (aj [none] di bq4) ak))))
def fu:GQ:=fun ds=>aE 2 (jF (start 2 ds))
@[simp] def Jw (δ:DS):=(bI (aj [some 2,none] ja (ae (aa 2) (ae (fI ao [none,none] fV (ae (aa 3) (ae (lT (ab 4) (af (cs " ") ag)) ak))) ak)))) δ
@[simp] def OC (δ:DS):=(ae (aa 0) (ae (cD [a5,aq] "watch_names" (jf 2)) (ae (cD [a5,aq] "box_tuples" (jf 2)) (ae (cD [a5,aq] "machine_names" (jf 2)) (ae (cD [aq] "room_lists" (jf 2)) (ae (cD [aq] "door_list" (jf 2)) ak)))))) δ
def sg:SQ:=(ah (qIf (bF (fT (aT (nh "str" E4) (af (ab 0) (af (fC (.ty "str")) ag))))) qD bd)
 (ah (aB 1 (lT (ab 0) (af (cs "\n") ag)))
 (ah (dB 2 (fI aq [] fW ak))
 (ah (gC (n6 (vSl (ab 1) faN (faS (f1 fP (ck 1))))) (fO [3,4]) Jw)
 (ah (qIf (eL (fT (f2 eE (f2 gIx (ab 1) (f1 fP (ck 1))) (cs ""))) (bF (fT (cX aq "has_room" bD (ab 2) ag)))) qD bd)
 (aR (fI a5 [none,none,none,none,none,none] ig OC)))))))
def hV:GQ:=fun ds=>aE 1 (sg (start 5 ds))
def nY:SQ:=(aR (vI (cS (aT (nh "int" isInt) (af (ab 0) (af (fC (.ty "int")) ag))) (f1 BR (aT (nh "bool" uO) (af (ab 0) (af (fC (.ty "bool")) ag)))))))
def br:GQ:=fun ds=>aE 1 (nY (start 1 ds))
def pJ:SQ:=(ah (dB 1 (cI ak))
 (ah (gC (dH (vI (ln (f2 gIx (ab 0) (ck 2))))) (gN 2) (uB 1 aC (bE 1 (aA (a6 (eO (eO (eO (aa 0) (ck 2)) (ab 2)) (ck 2))) 1 [2] (gN 0) (fun _=>some true) (bY (ae (aa 1) (ae (aa 0) ak)))))))
 (aR (aa 1))))
def kJ:GQ:=fun ds=>aE 1 (pJ (start 3 ds))
def kB:SQ:=(ah (qUn [4,5,6] (aa 1))
 (ah (aB 3 (aA (a6 (eO (aa 2) (ck 1))) 1 [] (gN 0) (fun _=>some true) (vI (f2 gIx (ab 0) (ck 0)))))
 (ah (qIf (eL (bF (fT (aT (jR Is) (af (ab 0) (af (fC (.cls bB)) ag))))) (eL (bF (fT (aS br (af (a9 [bB,ai,aw] "number" (ab 0)) ag)))) (bF (fT (aS br (af (a9 [bB,ai,aw] "against" (ab 0)) ag)))))) (aR (vI (fC (.bl false)))) bd)
 (ah (qIf (eL (fT (f2 eE (a9 [bB,ai,aw] "sign" (ab 0)) (ab 5))) (fT (f2 eE (a9 [bB,ai,aw] "against" (ab 0)) (ab 6)))) (aR (vI (fC (.bl false)))) bd)
 (ah (qIf (fT (f2 gIn (ab 4) (f2 gIx (ab 2) (ck 0)))) (aR (vI (cS (aT (jR Is) (af (ab 0) (af (fC (.cls ai)) ag))) (cS (f1 BR (aT (jR Is) (af (ab 0) (af (fC (.cls aw)) ag)))) (f2 bC (a9 [bB,ai,aw] "number" (ab 0)) (fMt bL (f2 gIx (ab 2) (ck 0)) (af (ab 4) ag))))))) bd)
 (aR (vI (cS (aT (jR Is) (af (ab 0) (af (fC (.cls aw)) ag))) (cS (f1 BR (aT (jR Is) (af (ab 0) (af (fC (.cls ai)) ag)))) (f2 bC (a9 [bB,ai,aw] "number" (ab 0)) (fMt bL (ab 3) (af (ab 4) ag))))))))))))
def fj:GQ:=fun ds=>aE 3 (kB (start 7 ds))
def i5:SQ:=(ah (aB 3 (aA (a6 (eO (aa 2) (ck 1))) 1 [] (gN 0) (fun _=>some true) (vI (f2 gIx (ab 0) (ck 0)))))
 (ah (aB 4 (jX (aA (a6 (aa 1)) 3 [2] (fO [0,1,2]) (fT (f2 gIn (ab 0) (f2 gIx (ab 3) (ck 0)))) (vI (fMt bL (f2 gIx (ab 3) (ck 0)) (af (ab 0) ag))))))
 (ah (aB 5 (aA (a6 (aa 1)) 3 [3] (fO [0,1,2]) (fT (f2 gIn (ab 0) (ab 3))) (bY (ae (vI (fMt bL (ab 3) (af (ab 0) ag))) (ae (aa 1) (ae (aa 2) ak))))))
 (ah (qIf (eL (bF (fT (aT (nh "list" tL) (af (a9 [az] "resets" (ab 0)) (af (fC (.ty "list")) ag))))) (bF (fT (aT nq (af (gq (aA (a6 (cD [az] "resets" (aa 0))) 1 [] (gN 0) (fun _=>some true) (vI (aS br (af (ab 0) ag))))) ag))))) (aR (vI (fC (.bl false)))) bd)
 (ah (qIf (eL (bF (fT (aT (nh "list" tL) (af (a9 [az] "deeds" (ab 0)) (af (fC (.ty "list")) ag))))) (bF (fT (aT nq (af (gq (aA (a6 (cD [az] "deeds" (aa 0))) 1 [] (gN 0) (fun _=>some true) (vI (aT (nh "tuple" E3) (af (ab 0) (af (fC (.ty "tuple")) ag)))))) ag))))) (aR (vI (fC (.bl false)))) bd)
 (ah (qIf (bF (fT (aT nq (af (gq (aA (a6 (cD [az] "deeds" (aa 0))) 1 [] (gN 0) (fun _=>some true) (vI (cS (aS br (af (f2 gIx (ab 0) (ck 0)) ag)) (aS br (af (f2 gIx (ab 0) (ck 2)) ag)))))) ag)))) (aR (vI (fC (.bl false)))) bd)
 (aR (vI (cS (f2 bC (a9 [az] "resets" (ab 0)) (ab 4)) (f2 bC (a9 [az] "deeds" (ab 0)) (ab 5)))))))))))
def fU:GQ:=fun ds=>aE 3 (i5 (start 6 ds))
def nX:SQ:=(ah (qIf (fT (aT (jR Is) (af (ab 0) (af (fC (.cls ai)) ag)))) (aR (fI ai [none,none,none] bA (ae (vI (a9 [bB,ai,aw] "number" (ab 0))) (ae (vI (a9 [bB,ai,aw] "sign" (ab 0))) (ae (vI (a9 [bB,ai,aw] "against" (ab 0))) ak))))) bd)
 (aR (fI aw [none,none,none] bA (ae (vI (a9 [bB,ai,aw] "number" (ab 0))) (ae (vI (a9 [bB,ai,aw] "sign" (ab 0))) (ae (vI (a9 [bB,ai,aw] "against" (ab 0))) ak))))))
def gK:GQ:=fun ds=>aE 1 (nX (start 1 ds))
def i6:SQ:=(ah (qIf (eL (bF (fT (aT (nh "list" tL) (af (ab 0) (af (fC (.ty "list")) ag))))) (fT (f2 eE (ln (ab 0)) (ln (ab 1))))) (aR (vI (fC (.bl false)))) bd)
 (aR (vI (aT nq (af (gq (aA (uk (aa 0) (aa 1)) 2 [2] (fO [0,1]) (fun _=>some true) (vI (aS fj (af (ab 0) (af (ab 1) (af (ab 2) ag))))))) ag)))))
def dG:GQ:=fun ds=>aE 3 (i6 (start 3 ds))
def nV:SQ:=(aR (fI aO [none,none,none,none] eC (ae (vI (a9 [aO] "name" (ab 0))) (ae (vI (a9 [aO,az] "price" (ab 0))) (ae (vI (a9 [aO] "hurry" (ab 0))) (ae (aA (a6 (cD [aO] "stays" (aa 0))) 1 [] (gN 0) (fun _=>some true) (aj [none] gK (ae (aa 0) ak))) ak))))))
def jI:GQ:=fun ds=>aE 1 (nV (start 1 ds))
def nW:SQ:=(ah (dB 1 (aA (a6 (cD [az] "conds" (aa 0))) 1 [] (gN 0) (fun _=>some true) (aj [none] gK (ae (aa 0) ak))))
 (aR (fI az [none,none,none,none,none,none,none,none,none] eD (ae (vI (gO (ab 0))) (ae (vI (a9 [az] "start" (ab 0))) (ae (vI (a9 [az] "goal" (ab 0))) (ae (vI (a9 [az] "weather" (ab 0))) (ae (vI (iM (ab 0))) (ae (vI (a9 [aO,az] "price" (ab 0))) (ae (aa 1) (ae (jg (af (a9 [az] "resets" (ab 0)) ag)) (ae (jg (af (a9 [az] "deeds" (ab 0)) ag)) ak))))))))))))
def jJ:GQ:=fun ds=>aE 1 (nW (start 2 ds))
def ky:SQ:=(ah (qIf (eL (bF (fT (aT (jR Is) (af (ab 0) (af (fC (.cls aO)) ag))))) (eL (bF (fT (aS br (af (a9 [aO,az] "price" (ab 0)) ag)))) (bF (fT (aT (nh "bool" uO) (af (a9 [aO] "hurry" (ab 0)) (af (fC (.ty "bool")) ag))))))) (aR (vI (fC (.bl false)))) bd)
 (aR (vI (cS (f2 bC (rE (af (a9 [aO] "name" (ab 0)) (af (a9 [aO,az] "price" (ab 0)) (af (a9 [aO] "hurry" (ab 0)) ag)))) (gq (ul (aa 1) faN (faS (ck 3))))) (aS dG (af (a9 [aO] "stays" (ab 0)) (af (f2 gIx (ab 1) (ck 3)) (af (ab 2) ag))))))))
def hX:GQ:=fun ds=>aE 3 (ky (start 3 ds))
def kz:SQ:=(ah (qIf (eL (bF (fT (aT (jR Is) (af (ab 0) (af (fC (.cls az)) ag))))) (eL (bF (fT (aS br (af (gO (ab 0)) ag)))) (bF (fT (aS br (af (a9 [aO,az] "price" (ab 0)) ag)))))) (aR (vI (fC (.bl false)))) bd)
 (ah (qIf (eL (bF (fT (aT (nh "bool" uO) (af (a9 [az] "weather" (ab 0)) (af (fC (.ty "bool")) ag))))) (jS (fT (f2 kb (iM (ab 0)) (fC .non))) (bF (fT (aT (nh "tuple" E3) (af (iM (ab 0)) (af (fC (.ty "tuple")) ag))))))) (aR (vI (fC (.bl false)))) bd)
 (ah (qIf (fT (f2 eE (rE (af (gO (ab 0)) (af (a9 [az] "start" (ab 0)) (af (a9 [az] "goal" (ab 0)) (af (a9 [az] "weather" (ab 0)) (af (iM (ab 0)) (af (a9 [aO,az] "price" (ab 0)) ag))))))) (gq (qk (bY (ae (aa 1) ak)) (ul (aa 2) faN (faS (ck 5))))))) (aR (vI (fC (.bl false)))) bd)
 (aR (vI (cS (aS dG (af (a9 [az] "conds" (ab 0)) (af (f2 gIx (ab 2) (ck 5)) (af (ab 3) ag)))) (aS fU (af (ab 0) (af (f2 gIx (ab 2) (ck 6)) (af (ab 3) ag))))))))))
def ic:GQ:=fun ds=>aE 4 (kz (start 4 ds))
def pK:SQ:=(aR (aA (yP (eO (cD [a5] "own_rooms" (aa 0)) (ab 1))) 1 [] (gN 0) (fun _=>some true) (aj [none] jI (ae (aa 0) ak))))
def kK:GQ:=fun ds=>aE 2 (pK (start 2 ds))
def pL:SQ:=(aR (aA (a6 (cD [a5] "own_doors" (aa 0))) 1 [] (gN 0) (fun _=>some true) (aj [none] jJ (ae (aa 0) ak))))
def kL:GQ:=fun ds=>aE 1 (pL (start 1 ds))
def g9:SQ:=(ah (gC (dH (vI (ln (f2 gIx (ab 1) (ck 2))))) (gN 2) (ah (dB 3 (iQ a5 "rooms" kK (ab 0) (af (ab 2) ag)))
 (ah (qIf (eL (bF (fT (aT (nh "list" tL) (af (ab 3) (af (fC (.ty "list")) ag))))) (fT (f2 eE (ln (ab 3)) (ln (f2 gIx (f2 gIx (f2 gIx (ab 1) (ck 2)) (ab 2)) (ck 1)))))) (aR (vI (fC (.bl false)))) bd)
 (ah (tp 3 (eO (eO (eO (aa 1) (ck 2)) (ab 2)) (ck 1)) (fO [4,5]) (ah (qIf (bF (fT (aS hX (af (ab 4) (af (ab 5) (af (ab 1) ag)))))) (aR (vI (fC (.bl false)))) bd)
 (cP 4 (iV 4 [aO] "stays" aC) (bE 4 (vI (fC .non))))))
 (ol 3 aC)))))
 (aR (vI (fC (.bl true)))))
def cM:GQ:=fun ds=>aE 2 (g9 (start 6 ds))
def hE:SQ:=(ah (dB 2 (iQ a5 "doors" kL (ab 0) ag))
 (ah (aB 3 (aj [none] kJ (ae (aa 1) ak)))
 (ah (qIf (eL (bF (fT (aT (nh "list" tL) (af (ab 2) (af (fC (.ty "list")) ag))))) (fT (f2 eE (ln (ab 2)) (ln (ab 3))))) (aR (vI (fC (.bl false)))) bd)
 (ah (tp 2 (aa 3) (fO [4,5]) (ah (qIf (bF (fT (aS ic (af (ab 4) (af (f2 gIx (ab 5) (ck 0)) (af (f2 gIx (ab 5) (ck 1)) (af (ab 1) ag))))))) (aR (vI (fC (.bl false)))) bd)
 (ah (ol 4 (iV 4 [az] "conds" aC))
 (ah (cP 4 (iV 4 [az] "resets" aC) (bE 4 (vk 9)))
 (ol 4 (iV 4 [az] "deeds" aC))))))
 (ah (cP 2 aC (bE 2 (vI (fC .non))))
 (aR (vI (fC (.bl true)))))))))
def cN:GQ:=fun ds=>aE 2 (hE (start 6 ds))
def Kj:SQ:=(ah (aB 1 (cI (ae (aj [none,none] fu (ae (aa 0) (ae (vk 1) ak))) (ae (aj [none,none] fu (ae (aa 0) (ae (vk 2) ak))) ak))))
 (ah (aB 2 (aA (a6 (aa 1)) 1 [] (gN 0) (fun _=>some true) (aj [none] hV (ae (vI (aS gh (af (ab 0) ag))) ak))))
 (ah (gC (dH (vk 2)) (gN 3) (gC (dH (vk 2)) (gN 4) (qIf (eL (bF (fT (aS cM (af (f2 gIx (ab 2) (ab 4)) (af (f2 gIx (ab 1) (ab 4)) ag))))) (bF (fT (aS cN (af (f2 gIx (ab 2) (ab 4)) (af (f2 gIx (ab 1) (ab 4)) ag)))))) (aR (vI (fC (.bl false)))) bd)))
 (aR (vI (fC (.bl true)))))))
end
end Mine
namespace Mine
open PySem Dl Tx
section
variable {d e:D} {δ δ1:DS} {a b s:SQ} {f g:FD} {t u:FT} {fm:FM} {ds es:Yg D} {x:Str} {i:Int} {ga:FA} {G:GQ} {l:Yg Str} {lo hi:Int} {src:FMA}
def be{α:Type}{f g}(h:∀x,sh (f x)=g x)(l:Yg α):shs (l.map f)=l.map g:=by rw[pU,List.map_map];exact List.map_congr_left fun x _=>h x
theorem KB:-(2^62:Int)<=0:=by decide
def KC:((1000:Nat):Int)<2^62:=by decide
noncomputable def KD(lo hi:Int)(p:D×DS):Option (List D×DS):=match p.1 with
 |.int b=>if lo<=b/\b<hi then some ((List.range b.toNat).map fun(i:Nat)=>D.int (0+(i:Int)*1),p.2)else none
 |_=>none
def Dh(f) (δ):dH f δ=(f δ).bind (KD (-(2^62)) (2^62)):=rfl
def y8{n:Nat}(h1:lo<=n)(h2:(n:Int)<hi):KD lo hi (.int n,δ)=some ((List.range n).map fun(i:Nat)=>D.int (i:Int),δ):=by unfold KD;simp only;rw[if_pos ⟨h1,h2⟩];simp
def JP{n:Nat}:-(2^62)<=(n:Int):=Int.le_trans KB (Int.natCast_nonneg n)
def JQ{n:Nat}(h:n<=1000):(n:Int)<2^62:=Int.lt_of_le_of_lt (Int.ofNat_le.mpr h) KC
def xx{n}(h:n<=1000)(f) (δ:DS) (j:f δ=some (.int n,δ)):dH f δ=some ((List.range n).map fun(i:Nat)=>D.int (i:Int),δ):=by rw[Dh,j,Zc];exact y8 JP (JQ h)
def iL{g}{s:SQ}{δ1:DS}{ds:Yg D}{r}(h1:src δ=some (ds,δ1))(h2:cL g s ds δ1=some r):gC src g s δ=some r:=by simp only[gC,h1,Zc,h2]
def cJ(h:a δ=some (.nx δ1)):ah a b δ=b δ1:=by rw[bM,h];rfl
def Pg(h:a δ=some (.rt d δ1)):ah a b δ=some (.rt d δ1):=by rw[bM,h];rfl
def gU(h:t δ=some false):qIf t s a δ=a δ:=by rw[iX,h];rfl
def NI(h:t δ=some true):qIf t s a δ=s δ:=by rw[iX,h];rfl
def uo(h:t δ=some false)(h':u δ=some false):eL t u δ=some false:=by rw[FG,h];exact h'
def o8(h:f δ=some (.bl true)):bF (fT f) δ=some false:=by rw[FH,iY,h];rfl
def mM(h:f δ=some (.bl true))(h':g δ=some (.bl true)):cS f g δ=some (.bl true):=by rw[mC,h];exact h'
theorem wG{f}:∀{l},(∀x∈l,f x x=some true)->eqL f l l=some true
 |[],_=>rfl
 |x::l,h=>by rw[eqL,h x Zo,wG fun y m=>h y (Zp _ m)];rfl
def pln:Nat->D->Bool
 |0,d=>dM d
 |k+1,d=>match kd d with
  |some p=>p.2.all (pln k)
  |none=>dM d
def zV(h:dM d=true):eq0 d d=some true:=by cases d<;>first|simp[eq0,dM,eqF,toV];done|cases h
theorem rG:∀k d,pln k d=true->eqN k d d=some true
 |0,d,h=>zV h
 |k+1,d,h=>by
  unfold pln at h;unfold eqN;split at h
  . rename_i p e;rw[e];exact(if_pos rfl).trans (wG fun x m=>rG k x (List.all_eq_true.mp h x m))
  . rename_i e;rw[e];exact zV h
def CG(h:f δ=some d)(h':g δ=some d)(e:pln 6 d=true):f2 bC f g δ=some (.bl true):=by rw[dD,h,h',Zc,Zc,bC,rG 6 d e];rfl
def sw(h:f δ=some d)(h':g δ=some d)(e:pln 6 d=true):fT (f2 eE f g) δ=some false:=by rw[iY,dD,h,h',Zc,Zc,eE,rG 6 d e];rfl
def xz(h:f δ=some (.bl true)):aR (vI f) δ=some (.rt (.bl true) δ):=by rw[dQ,db,h];rfl
def GS(h:f δ=some (.str x))(h':g δ=some (.seq (l.map D.str))):fT (f2 gIn f g) δ=some (decide (x∈l)):=by rw[iY,dD,h,h',Zc,Zc,wJ];rfl
def c_q(j:ga δ=some ds)(f:shs ds=es)(l:∃fin,G es=some (d,fin)):aS G ga δ=some d:=by obtain⟨fin,h⟩:=l;rw[rJ,j,Zc,f,h];rfl
def Gy{α:Type}(l:Yg α):nq [.lst (l.map fun _=>.bl true)]=some (.bl true):=by
 have:=Aj (l.map fun _=>true)
 rw[List.map_map]at this;rw[show(l.map fun _=>D.bl true)=l.map (D.bl∘fun _=>true)from rfl,this]
 simp
def Ki{w:FM}{δ' δ2}{α:Type}{l:Yg α}(f:shO δ=δ2)(h:w δ2=some (.lst (l.map fun _=>.bl true),δ')):aT nq (af (gq w) ag) δ=some (.bl true):=by rw[cR,fH,pz,f,h];exact Gy l
def sh1(h:sh d=d)(h':shs ds=ds):shs (d::ds)=d::ds:=by rw[shs,h,h']
def so1(h:sh d=d)(h':shO δ=δ1):shO (some d::δ)=some d::δ1:=by show some (sh d)::shO δ=_;rw[h,h']
def Kl{α:Type}{fa fb:FM}{f g:α->D}{l:Yg α}(h1:fa δ=some (.seq (l.map f),δ))(h2:fb δ=some (.seq (l.map g),δ))(m:∀x,sh (f x)=f x)(j:∀x,sh (g x)=g x):uk fa fb δ=some (l.map fun c=>.tup [f c,g c],δ):=by simp only[uk,h1,h2,Zc,sh,be m,be j,List.zipWith_map,List.zipWith_self]
def iS{R:SQ}{m:Nat}{f:DS}(h:R f=some (.rt d δ1)):∃fin,aE m (R f)=some (d,fin):=⟨_,by rw[h];rfl⟩
def zE{α:Type}{nn:Nat}{gg:D->DS->Ye DS}{fc:FT}{felt:FM}{ι:DS}{f h:α->D}{p:α->Bool}{l:Yg α}(H:∀x∈l,∃j,gg (sh (f x)) ι=some j/\fc j=some (p x)/\clr nn j=ι/\(p x=true->∃o,felt j=some (h x,o)/\clr nn o=ι)):bh nn gg fc felt (l.map f) ι=some ((l.filter p).map h,ι):=by
 induction l with
 |nil=>rfl
 |cons x l q =>
  have q:=q fun y m=>H y (Zp _ m)
  obtain⟨j,h1,h2,t,s⟩:=H x Zo;cases r:p x with
  |false=>simp only[bh,Zu,h1,h2,r,t,q,Zc,ZR,if_false,List.filter_cons]
  |true =>obtain⟨o,s,u⟩:=s r;simp only[bh,Zu,h1,h2,r,s,u,q,Zc,Z6,List.filter_cons]
def pZ{α:Type}{nn:Nat}{gg:D->DS->Ye DS}{felt:FM}{ι:DS}{f h:α->D}{l:Yg α}(H:∀x∈l,∃o,gg (sh (f x)) ι=some o/\∃j,felt o=some (h x,j)/\clr nn j=ι):bh nn gg (fun _=>some true) felt (l.map f) ι=some (l.map h,ι):=by
 induction l with
 |nil=>rfl
 |cons x l p =>obtain⟨o,h1,j,r,q⟩:=H x Zo;simp only[bh,Zu,h1,r,q,p fun y m=>H y (Zp _ m),Zc,Z6]
def eM{α:Type}{f:α->D}{l:Yg α}(h:fm δ=some (d,δ))(j:sh d=.seq (l.map f)):a6 fm δ=some (l.map f,δ):=by simp only[a6,h,Zc,j]
def Gx{α:Type}{f:α->D}{l:Yg α}{felt:FM}{δ2}(q:shO δ=δ2)(h:fm δ2=some (d,δ2))(j:sh d=.seq (l.map f))(m:l.length<=1000)(p:∀x,∃o,felt [some (sh (f x))]=some (.bl true,[o])):aT nq (af (gq (aA (a6 fm) 1 [] (gN 0) (fun _=>some true) felt)) ag) δ=some (.bl true) :=
 Ki q (bJ (eM h j) rfl (pZ fun x _=>⟨[some (sh (f x))],rfl,(p x).elim fun o e=>⟨_,e,rfl⟩⟩) (by rw[Zl];exact m))
def Os{o:Ye (D×DS)}(h:o.map (·.1)=some d):∃fin,o=some (d,fin):=by obtain⟨⟨_,fin⟩,e,rfl⟩:=Zb.mp h;exact⟨fin,e⟩
def qd{α:Type}{src:FMA}{G:GQ}{f h:α->D}{l:Yg α}(j:src δ=some (l.map f,δ))(q:∀x,sh (f x)=f x)(o:∀x,noo (f x)=true)(r:∀x∈l,∃fin,G [f x]=some (h x,fin))(p:l.length<=1000):aA src 1 [] (gN 0) (fun _=>some true) (aj [none] G (ae (aa 0) ak)) δ=some (.lst (l.map h),δ) :=
 bJ j rfl (pZ fun x m=>⟨[some (f x)],by rw[q];rfl,by
  obtain⟨fin,e⟩:=r x m;refine⟨[some (f x)],?_,rfl⟩;have v:aa 0 [some (f x)]=some (f x,[some (f x)]):=if_pos (o x);rw[cA,iW,v,Zc,fG,Zc,Zc,e];cases fin with
  |nil=>rfl
  |cons _ l=>exact Z8 (fun z=>some (h x,z)) (bS (fin:=l))⟩) (by rw[Zl];exact p)
def vW(h:fm δ=some (d,δ1)):aR fm δ=some (.rt d δ1):=by rw[dQ,h];rfl
def vc{ga:FMA}{δ2}(h:fm δ=some (d,δ1))(h':ga δ1=some (ds,δ2)):ae fm ga δ=some (d::ds,δ2):=by rw[iW,h,Zc,h'];rfl
def vf{ga:FMA}(h:f δ=some d)(hi:imm d=true)(h':ga δ=some (ds,δ1)):ae (vI f) ga δ=some (d::ds,δ1):=vc (by rw[db,h,Zc,if_pos hi]) h'
theorem lg:∀{bs:Yg (Ye Nat)},(∀b∈bs,b=none)->∀fin δ,ij bs fin δ=δ
 |[],_,fin,δ=>bS
 |b::bs,h,[],δ=>by rw[h b Zo];rfl
 |b::bs,h,o::fin,δ=>by rw[h b Zo];exact lg (fun x m=>h x (Zp _ m)) fin δ
def zC{C}{bs:Yg (Ye Nat)}{ga:FMA}{o:D}(h:ga δ=some (ds,δ1))(j:(G (.oo C [] []::ds)).map (fun q=>(q.1,q.2.head?))=some (.non,some (some o)))(f:∀b∈bs,b=none):fI C bs G ga δ=some (o,δ1):=by
 obtain⟨⟨r,fin⟩,e,z⟩:=Zb.mp j;cases fin with
 |nil=>cases z
 |cons a fin=>cases z;rw[uY,h,Zc,e];exact Z8 (fun z=>some (o,z)) (lg f fin δ1)
theorem rh{α:Type}{f:α->D}(h:∀x,imm (f x)=true):∀{l:Yg α},iK (l.map f)=true
 |[]=>rfl
 |x::l=>by rw[Zu,iK,h x,rh h];rfl
def zG(h:f δ=some (.seq ds))(hi:iK ds=true):jg (af f ag) δ=some (.lst ds,δ):=by simp[jg,uT,h,hi,me]
variable {g:D->DS->Ye DS}
abbrev Nx(a:SQ)(δ:DS)(Q:DS->Prop):Prop:=∃δ',a δ=some (.nx δ')/\Q δ'
def L6{a b:SQ}{Q Q':DS->Prop}(h:Nx a δ Q)(k:∀δ,Q δ->Nx b δ Q'):Nx (ah a b) δ Q':=by obtain⟨δ',e,q⟩:=h;obtain⟨f,l,j⟩:=k δ' q;exact⟨f,(cJ e).trans l,j⟩
def tD{a b:SQ}{Q:DS->Prop}(h:a δ=some (.nx δ1))(k:Nx b δ1 Q):Nx (ah a b) δ Q:=k.elim fun δ' q=>⟨δ',(cJ h).trans q.1,q.2⟩
abbrev Rt(a:SQ)(δ:DS)(d:D):Prop:=∃δ2,a δ=some (.rt d δ2)
def jO{a b:SQ}(h:a δ=some (.nx δ1))(k:Rt b δ1 d):Rt (ah a b) δ d:=k.elim fun f e=>⟨f,(cJ h).trans e⟩
def yY{a b:SQ}{Q:DS->Prop}(h:Nx a δ Q)(k:∀δ,Q δ->Rt b δ d):Rt (ah a b) δ d:=h.elim fun _ e=>jO e.1 (k _ e.2)
def uu{a:SQ}{m:Nat}(h:Rt a δ d):∃fin,aE m (a δ)=some (d,fin):=h.elim fun _ e=>iS e
theorem zT{α:Type}{f:α->D}{Q:DS->Prop}:∀{l:Yg α},(∀x∈l,∀δ,Q δ->∃δ1,g (f x) δ=some δ1/\Nx s δ1 Q)->∀δ,Q δ->Nx (ya g s (l.map f)) δ Q
 |[],_,δ,q=>⟨δ,rfl,q⟩
 |x::l,h,δ,q=>by
  obtain⟨δ1,t,j,r,o⟩:=h x Zo δ q;obtain⟨δ',e,p⟩:=zT (fun y m=>h y (Zp _ m)) j o
  exact⟨δ',by simp only[Zu,ya,t,r,Zc,e],p⟩
def zy{α:Type}{f e:α->D}{l:Yg α}{Q Q':DS->Prop}{i}(r:δ[i]?=some (some (.lst (l.map f))))(o:∀x,E5 (f x)=true)(p:fm (δ.set i none)=some (d,δ1))(m:sh d=.seq (l.map e))(he:∀x,sh (e x)=e x)(q:Q δ1)(H:∀x∈l,∀δ,Q δ->∃δ1,g (.tup [f x,e x]) δ=some δ1/\Nx s δ1 Q)(k:∀δ,Q δ->Q' (δ.set i (some (.lst ((l.map f).map fun _=>.any))))):Nx (tp i fm g s) δ Q':=by
 obtain⟨δ',e,j⟩:=zT H δ1 q;refine⟨_,?_,k δ' j⟩;simp only[tp,r,p,Zc,m,List.all_map,List.zipWith_map,List.zipWith_self,he];rw[if_pos (show l.all (E5∘f)=true from List.all_eq_true.mpr fun x _=>o x),e]
 rfl
theorem zS{Q:Nat->DS->Prop}:∀j k,(∀i,i<k+j->∀δ,Q i δ->∃δ1,g (.int i) δ=some δ1/\Nx s δ1 (Q (i+1)))->∀δ,Q k δ->Nx (cL g s ((List.range' k j).map fun(i:Nat)=>D.int (i:Int))) δ (Q (k+j))
 |0,k,_,δ,q=>⟨δ,rfl,q⟩
 |j+1,k,h,δ,q=>by
  obtain⟨δ1,p,f,o,l⟩:=h k (by lia) δ q
  obtain⟨δ',e,m⟩:=zS j (k+1) (fun i b=>h i (by lia)) f l
  exact⟨δ',by simp only[List.range'_succ,Zu,cL,sh,p,o,Zc,e],by rw[<- Nat.add_assoc,Nat.add_right_comm];exact m⟩
theorem uJ{Q:Nat->DS->Prop}{m:Nat}(j:m<=1000)(l:fm δ=some (.int m,δ))(q:Q 0 δ)(H:∀i,i<m->∀δ,Q i δ->∃δ1,g (.int i) δ=some δ1/\Nx s δ1 (Q (i+1))):Nx (gC (dH fm) g s) δ (Q m):=by
 obtain⟨δ',e,f⟩:=zS m 0 (fun i hi=>H i (by lia)) δ q
 rw[Nat.zero_add]at f;exact⟨δ',iL (by rw[xx j fm δ l,List.range_eq_range']) e,f⟩
def vy{i}{p:PF}{l}{fm:FM}(h:δ[i]?=some (some d))(f:p δ=some l)(o:atP d l=some (.lst ds))(j:fm δ=some (e,δ1))(m:ds.length<=999):cP i p fm δ=some (.nx (δ1.set i (some (fF d l (.lst (ds++[e])))))):=by simp only[cP,h,f,o,j,Zc,m,Z6]
def s8{i}(h:fm δ=some (d,δ1)):dB i fm δ=some (.nx (δ1.set i (some d))):=by rw[pv,h];rfl
theorem gW{α:Type}{f:α->D}(h:∀x,own (f x)=true):∀{l:Yg α},gb (l.map f)=true
 |[]=>rfl
 |x::l=>by rw[Zu,gb,h x,gW h];rfl
def kW{α:Type}(f:α->D)(l:Yg α):some (D.int (l.map f).length)=some (.int l.length):=by rw[Zl]
def N7(h:f δ=some (.seq ds)):aT rD (af f ag) δ=some (.int ds.length):=by rw[cR,fH,h];rfl
def Oc{k}(h:f δ=some (.tup ds)):f2 gIx f (fC (.int k)) δ=L2.atI ds k:=by rw[dD,h];rfl
def CA{k}(h:fm δ=some (.tup ds,δ))(j:L2.atI ds k=some d)(f:noo d=true):eO fm (fC (.int k)) δ=some (d,δ):=by simp only[eO,h,Zc,e_C,j,f,Z6]
def Mu{i}{p:PF}{l}{fm:FM}(h:δ[i]?=some (some d))(f:p δ=some l)(o:atP d l=some (.lst ds))(j:fm δ=some (.lst es,δ1))(m:ds.length+es.length<=1000):uB i p fm δ=some (.nx (δ1.set i (some (fF d l (.lst (ds++es)))))):=by simp only[uB,h,f,o,j,Zc,m,Z6]
def vg{G:GQ}{bs:Yg (Ye Nat)}{ga:FMA}(h:ga δ=some (ds,δ1))(j:∃fin,G ds=some (d,fin))(f:∀b∈bs,b=none):aj bs G ga δ=some (d,δ1):=by obtain⟨fin,e⟩:=j;rw[cA,h,Zc,e,Zc,lg f]
def xr{fm:FM}{i}(h:fm δ=some (d,δ1)):aB i fm δ=some (.nx (δ1.set i (some (sh d)))):=by rw[bP,h];rfl
end
local macro_rules | `(tactic| simp! only[$xs,*])=>do
 let ns:Array (Lean.TSyntax `Lean.Parser.Tactic.simpLemma)<-("Zc Zd Z6 Ze Zf e_C aa noo ab Zg imm Zu db sh dD gZ if_false fG ZR Zv dC aE Zm fH bS iW Nat.reduceAdd bM List.take_zero Zn ZP Dl.start ZQ dY cA cR dQ Zi decide_true fZ shs bP Option.map_some Zt ZH iN atP aC or_false gc iY Zh fF Nat.sub_self Zj nH ZU Nat.reduceSub bH cP Ag oU iX iu or_true bE pD oR pC nE Bool.and_self rK jw and_self nD Ai pA pB tU FJ Ka k8 mC".splitOn " ").toArray.mapM fun s=>`(Lean.Parser.Tactic.simpLemma| $(Lean.mkIdent s.toName):ident)
 `(tactic| simp only[$ns,*,$xs,*])
variable {a b e:D} {c:Str×Str×Int} {f:Ye D} {l ws W M B:Yg Str} {k:String} {r i lo hi z0 z1:Int} {p:Nat} {w:Ye (Str×Str)} {x s:Str} {acc:Yg D} {cs ds:Yg (Str×Str×Int)} {δ:DS} {src:FMA}
noncomputable abbrev WN:List Str:=["row","words","place"]
abbrev Wo(r:Int)(ws:List Str)(p:Nat):D:=.oo ao WN [.int r,.lst (ws.map D.str),.int p]
theorem mK {c}:lkF "words" WN [a,b,c]=some b:=by kernel_rfl
theorem mL {c}:lkF "place" WN [a,b,c]=some c:=by kernel_rfl
def JH:oq "place" WN=WN:=by decide +kernel
theorem CD {c d:D}:putD "place" d WN [a,b,c]=[a,b,d]:=by kernel_rfl
def bQ:eK "insist" WN=none:=by decide +kernel
theorem bv(d):av [d,.bl true]=some (.non,[some d,some (.bl true)]):=by kernel_rfl
theorem mO{w}(h:ws[p]?=some w):bu [Wo r ws p]=some (.str w,[some (Wo r ws (p+1))]):=by
 have f:((p:Int)<(ws.length:Int))=True:=eq_true (by have:=(ZL.mp h).1;lia)
 simp! only[bu,jH,cz,Zl,Nat.reduceLeDiff,mL,mK,bQ,bv,f,JH,CD,Int.add_sub_cancel,FS h];rfl
theorem gQ{w}(h:ws[p]?≠some w)(m:p<=ws.length):aN [Wo r ws p,.str w]=some (.bl false,[some (Wo r ws p),some (.str w)]):=by
 by_cases e:p=ws.length
 . subst e;simp[aN,dS,Dl.start,aE,ab,imm,mL,mK,Zz]
 . have f:p < ws.length:=by lia
   have h2:=Zx f;have l:((p:Int)==(ws.length:Int))=false:=by simp;lia
   have j:(ws[p]==w)=false:=by rw[h2]at h;simpa using h
   simp[aN,dS,Dl.start,aE,ab,imm,mL,mK,l,FS h2,j]
def gM{w:Str}(h:ws[p]?=some w):aN [Wo r ws p,.str w]=some (.bl true,[some (Wo r ws (p+1)),some (.str w)]):=by
 have j:=(ZL.mp h).1;have f:((p:Int)==(ws.length:Int))=false:=by simp;omega
 simp! only[aN,dS,FG,FF,cz,FI,Zl,Nat.reduceLeDiff,Bool.not_true,mL,mK,f,FS h,Zz,JH,CD];rfl
def BW:fE [.ob ao WN [.int r,.seq (ws.map D.str),.int (ws.length:Nat)]]=some (.non,[some (.ob ao WN [.int r,.seq (ws.map D.str),.int (ws.length:Nat)])]):=by simp[fE,hU,Dl.start,aE,ab,sh,shs,imm,mL,mK,bQ,bv,Zz]
def aJ(w:Str):Prop:=1<=w.length/\w.length<=8/\∀c∈w.cps.toList,97<=c/\c<=122
def sz{n}(h:n<=100000):n<=sizeLine:=ZY h (by decide)
def xQ {c} (h:97<=c/\c<=122):c∈(Str.ofString "abcdefghijklmnopqrstuvwxyz").cps.toList:=by
 have:∀k:Fin 26,(97+k.val)∈(Str.ofString "abcdefghijklmnopqrstuvwxyz").cps.toList:=by decide +kernel
 have e:=this ⟨c-97,by omega⟩
 have f:97+(c-97)=c:=by omega
 rw[<- f];exact e
def B6 {c} (h:48<=c/\c<=57):c∈(Str.ofString "0123456789").cps.toList:=by
 have:∀k:Fin 10,(48+k.val)∈(Str.ofString "0123456789").cps.toList:=by decide +kernel
 have e:=this ⟨c-48,by omega⟩
 have f:48+(c-48)=c:=by omega
 rw[<- f];exact e
def jB{α:Type}{p}{l:Yg α}(h:∀x∈l,p x=true):(l.map p).all id=true:=by rw[List.all_eq_true];intro b j;obtain⟨x,f,rfl⟩:=Zr.mp j;exact h x f
theorem xS{w:Str}(h:aJ w):lv [.str w]=some (.bl true,[some (.str w)]):=by
 obtain⟨h1,h2,m⟩:=h;have c:=vO (y:="abcdefghijklmnopqrstuvwxyz") (by lia) [some (.str w)] (src:=je (ab 0)) rfl
 have a:=jB fun c l=>decide_eq_true (xQ (m c l))
 have j:(1<=(w.length:Int))=True:=eq_true (by lia)
 have f:((w.length:Int)<=8)=True:=eq_true (by lia)
 simp only[lv,oX,Dl.start,aE,dQ,mC,k8,e_C,db,cR,gZ,fH,ab,sh,imm,Zc,Option.map_some,Zu,Zv,Zj,Zm,Zn,Zd,ZP,List.take_zero,ZQ,Nat.sub_self,Nat.reduceAdd,Z6,Bool.and_true,and_true,decide_true,fY,asN,uZ (sz (by lia:w.length<=100000)),pz,shO,c,Aj,a,j,f]
def yW:Str.ofString "-" = ⟨#[45]⟩:=by decide +kernel
def Kx:Str.ofString "0" = ⟨#[48]⟩:=by decide +kernel
def yX:Str.ofString "," = ⟨#[44]⟩:=by decide +kernel
def fX:Str.ofString " " = ⟨#[32]⟩:=by decide +kernel
def Ky:Str.ofString "\n" = ⟨#[10]⟩:=by decide +kernel
theorem kS(f:i.natAbs<10^31)(h1:lo<=i)(h2:i<=hi):df [.str (num i),.int lo,.int hi]=some (.int i,[some (.str (num i)),some (.int lo),some (.int hi)]):=by
 have U:=kT f;have J:=yp 30 _ f;have I:=F7 i.natAbs;have H:tR [.str (num i)]=some (.int i):=by
  show(wC [.str (num i)])=_;unfold wC;simp only;rw[if_pos (by lia),Bt f (by decide)]
  rfl
 have j:=oE i;have s:∃z:Str,z.cps.toList=dg i.natAbs/\qi (fT (fMt ir (ab 0) (af (fC (.str "-")) ag))) (vI (uV (ab 0) (faS (fC (.int 1))) faN)) (aa 0) [some (.str (num i)),some (.int lo),some (.int hi),none,none]=some (.str z,[some (.str (num i)),some (.int lo),some (.int hi),none,none]):=by
  by_cases u:i<0
  . rw [if_pos u] at j;have q:Txt.startswith (num i) (Str.ofString "-")=true:=by rw [yW,lU,j];rfl
    have t:1<=(num i).length:=by rw[fN,j];simp
    refine⟨gr (num i) (some 1) none,by rw[wM t,j];rfl,?_⟩
    have cl:(gr (num i) (some 1) none).length<=sizeLine:=sz (by rw[fN,wM t,List.length_drop,<- fN];lia)
    simp[ab,imm,rH,q,FB,faS,faN,asI,cl]
  . rw [if_neg u,Zi] at j;have q:Txt.startswith (num i) (Str.ofString "-")=false:=by
     rw[yW,lU,j];rcases u5 i.natAbs with⟨_,e⟩|⟨c,r,e,o,_⟩
     . rw[e];rfl
     . rw[e];show(some c==some 45)=false;simp;lia
    exact⟨num i,j,by simp[ab,aa,noo,rH,q]⟩
 obtain⟨z,m,e⟩:=s;have S:z.length=(dg i.natAbs).length:=by rw[fN,m]
 have L:=vO (x:=z) (y:="0123456789") (by lia) [some (.str (num i)),some (.int lo),some (.int hi),some (.str z),none] (src:=je (ab 3)) rfl
 have a:=jB (p:=fun c=>decide (c∈(Str.ofString "0123456789").cps.toList)) (l:=z.cps.toList) fun c v=>decide_eq_true (B6 (by rw[m]at v;exact k9 _ c v))
 have C:(1<=(z.length:Int))=True:=eq_true (by lia)
 have B:((z.length:Int)<=31)=True:=eq_true (by lia)
 have Q:(lo<=i)=True:=eq_true h1;have O:(i<=hi)=True:=eq_true h2;have z0:(Txt.startswith z (Str.ofString "0") && !(num i==Str.ofString "0"))=false:=by
  rw[Kx,lU,m];rcases u5 i.natAbs with⟨V,e⟩|⟨c,r,e,o,_⟩
  . have D:i=0:=by lia
    subst D;rw[show(num 0==(⟨#[48]⟩:Str))=true by decide +kernel];simp
  . rw [e];have:(some c == some 48)=false:=by simp;lia
    show((some c==some 48)&&_)=false;rw[this];rfl
 have z1:jS (fT (fMt ir (ab 3) (af (fC (.str "0")) ag))) (fT (f2 eE (ab 0) (fC (.str "0")))) [some (.str (num i)),some (.int lo),some (.int hi),some (.str z),none]=some false:=by
  simp[ab,rH];cases G:Txt.startswith z (Str.ofString "0")with
  |false=>rfl
  |true =>rw[G,Bool.true_and]at z0;simp[ab,z0]
 simp only[df,kn,Dl.start,aE,Zu,Zv,Zh,Zi,Zm,Zn,ZU,ZQ,Nat.reduceSub,Nat.reduceAdd,bM,bP,e,Zc,dC,iX,z1,Dl.start,aE,bM,dC,nD,iX,pA,bP,dQ,Ov,Mz,FG,FF,iY,gc,FH,e_C,db,cR,gZ,fH,ab,aa,sh,noo,imm,Zc,Option.map_some,Option.map_none,Zu,Zv,Zh,Zi,Zm,Zn,Zd,Ze,Zf,Zg,ZP,List.take_zero,ZU,ZQ,Nat.reduceSub,Nat.reduceAdd,Z6,Bool.not_true,Bool.and_true,and_true,decide_true,fY,asN,uZ (sz (by lia:z.length<=100000)),pz,shO,L,Aj,a,C,B,H,Q,O]
def Ae{n}{c:FT}{s:SQ}{δ'}(h1:c δ=some true)(h2:s δ=some (.nx δ')):eR (n+1) c s δ=eR n c s δ':=by simp only[eR,h1,h2,Zc,Z6]
def Ja{n}{c:FT}{s:SQ}(h1:c δ=some false):eR (n+1) c s δ=some (.nx δ):=by simp[eR,h1]
def n5:eK "take" WN=none:=by decide +kernel
def im:eK "take_name" WN=none:=by decide +kernel
def lE:eK "take_number" WN=none:=by decide +kernel
def lD:eK "take_threes" WN=none:=by decide +kernel
def eN:eK "takes" WN=none:=by decide +kernel
def CF:eK "finish" WN=none:=by decide +kernel
def cV{α:Type}{ws l:Yg α}{w}(h:ws.drop p=w::l):ws[p]?=some w:=by have:=Z8 List.head? h;rw[List.head?_drop]at this;exact this
def cU{α:Type}{ws l:Yg α}{w}(h:ws.drop p=w::l):ws.drop (p+1)=l:=by rw[<- List.drop_drop,h];rfl
def kN{w:Str}(h:ws.drop p=w::l):bu [Wo r ws p]=some (.str w,[some (Wo r ws (p+1))]):=mO (cV h)
def gB{w}(h:ws[p]?=some w)(n:aJ w):bt [Wo r ws p]=some (.str w,[some (Wo r ws (p+1))]):=by simp[bt,eY,Dl.start,aE,ab,aa,bR,sh,shs,noo,imm,ZU,n5,bQ,mO h,xS n,bv]
def eQ(h:ws[p]?=some (num i))(f:i.natAbs<10^31)(h1:lo<=i)(h2:i<=hi):a7 [Wo r ws p,.int lo,.int hi]=some (.int i,[some (Wo r ws (p+1)),some (.int lo),some (.int hi)]):=by simp[a7,dJ,Dl.start,aE,ab,aa,bR,gz,sh,shs,noo,imm,ZU,n5,bQ,mO h,kS f h1 h2,bv]
noncomputable def tw:List (Str×Str×Str)->List Str
 |[]=>[]
 |[c]=>[c.1,c.2.1,c.2.2]
 |c::d::r=>c.1::c.2.1::(c.2.2++(⟨#[44]⟩:Str))::tw (d::r)
noncomputable abbrev thD(c:Str×Str×Str):D:=.lst [.str c.1,.str c.2.1,.str c.2.2]
def ye:Txt.endswith (x++(⟨#[44]⟩:Str)) (Str.ofString ",")=true:=by rw[yX,wH,b8];simp
def BY (h:Fr 44 x):Txt.endswith x (Str.ofString ",")=false:=by
 rw[yX,wH];cases q:x.cps.toList.getLast? with
 |none=>rfl
 |some c =>
  have f:=List.mem_of_getLast? q;have:c≠44:=fun e=>h (e▸f)
  simp[this]
abbrev thB:SQ:=MT
def at3{c}:L2.atI [a,b,c] 2=some c:=rfl
def Pk:L2.ixN 3 2=some 2:=rfl
theorem GN{a b c:Str}(h:ws.drop p=a::b::(c++(⟨#[44]⟩:Str))::l)(j:c.length<=1000)(f:acc.length<=999) :
 thB [some (Wo r ws p),some (.lst acc),some (.bl true),none]=some (.nx [some (Wo r ws (p+3)),some (.lst (acc++[thD (a,b,c)])),some (.bl true),none]):=by
 have h1:=cU h;have h2:=cU h1;have cl:(c.length<=sizeLine)=True:=eq_true (sz (by lia))
 simp[ab,aa,bR,uA,cP,aC,atP,fF,sh,noo,imm,n5,kN h,kN h1,kN h2,at3,FQ,ye,FB,faS,faN,asI,fP,B8,cl,bE,f,Pk]
def GO{a b c:Str}(h:ws.drop p=a::b::c::l)(j:Fr 44 c)(f:acc.length<=999) :
 thB [some (Wo r ws p),some (.lst acc),some (.bl true),none]=some (.nx [some (Wo r ws (p+3)),some (.lst (acc++[thD (a,b,c)])),some (.bl false),none]):=by
 have h1:=cU h;have h2:=cU h1;simp[ab,aa,bR,cP,aC,atP,fF,sh,noo,imm,n5,kN h,kN h1,kN h2,at3,FQ,BY j,bE,f]
theorem yT:∀{cs:Yg (Str×Str×Str)}{p n}{acc},cs≠[]->ws.drop p=tw cs++l->(∀c∈cs,Fr 44 c.2.2/\c.2.2.length<=1000)->acc.length+cs.length<=1000->cs.length<n->eR n (fT (ab 2)) thB [some (Wo r ws p),some (.lst acc),some (.bl true),none]=some (.nx [some (Wo r ws (p+3*cs.length)),some (.lst (acc++cs.map thD)),some (.bl false),none])
 |[],_,_,_,h,_,_,_,_=>absurd rfl h
 |[c],p,n,acc,_,h,hc,hl,hn=>by
  obtain⟨m,rfl⟩:∃m,n=m+2:=⟨n-2,by simp at hn;lia⟩
  rw[Ae rfl (GO (by simpa[tw]using h) (hc c (by simp)).1 (by simp at hl;lia)),Ja rfl]
  rfl
 |c::d::cs,p,n,acc,_,h,hc,hl,hn=>by
  obtain⟨m,rfl⟩:∃m,n=m+1:=⟨n-1,by simp at hn;lia⟩
  have h':=h;rw[Ae rfl (GN h' (hc c (by simp)).2 (by simp at hl;lia)),yT (by simp) (by rw[show p+3=p+1+1+1 from rfl];exact cU (cU (cU h'))) (fun x m=>hc x (Zp _ m)) (by simp at hl ⊢;lia) (by simp at hn ⊢;lia)]
  simp only[MT,Zm,Zu,ZV,List.singleton_append,Zh,Zi];rw[show p+3+3*(cs.length+1)=p+3*(cs.length+1+1) by lia]
theorem jZ{cs}(j:cs≠[])(h:ws.drop p=tw cs++l)(f:∀c∈cs,Fr 44 c.2.2/\c.2.2.length<=1000)(m:cs.length<=900):cC [Wo r ws p]=some (.lst (cs.map thD),[some (Wo r ws (p+3*cs.length))]):=by
 have e:=yT (r:=r) (n:=1000) (acc:=[]) j h f (by simp;lia) (by lia)
 simp[cC,dI,Dl.start,aE,sh,imm,ZU];rw[show eR 1000 (fT (ab 2)) _ _=_ from e]
 simp[aa,noo]
structure a4 where
 name:Str
 price:Int
 hurry:Bool
 stays:List (Str×Str×Int)
structure ba where
 start:Str
 goal:Str
 weather:Bool
 word:Option (Str×Str)
 price:Int
 conds:List (Str×Str×Int)
 deeds:List (Str×Str×Int)
structure fJ where
 name:Str
 rooms:List a4
 doors:List ba
noncomputable abbrev bG:=Str×Int×Int×Int
structure nU where
 watches:List Str
 boxes:List bG
 machines:List fJ
noncomputable abbrev CN:List Str:=["number","sign","against"]
noncomputable abbrev RN:List Str:=["name","price","hurry","stays"]
noncomputable abbrev ON:List Str:=["machine","start","goal","weather","word","price","conds","resets","deeds"]
noncomputable abbrev DN:List Str:=["watch_names","box_tuples","machine_names","room_lists","door_list"]
noncomputable abbrev aW(b:bG):D:=.tup [.str b.1,.int b.2.1,.int b.2.2.1,.int b.2.2.2]
noncomputable abbrev bnm(bs:List bG):List Str:=bs.map (·.1)
noncomputable def gn(l:List Str)(x:Str):Nat:=(l.findIdx? fun i=>i==x).getD 0
def bb(W:List Str)(bs:List bG)(c:Str×Str×Int):D:=if c.1∈W then .ob ai CN [.int (gn W c.1),.str c.2.1,.int c.2.2]else .ob aw CN [.int (gn (bnm bs) c.1),.str c.2.1,.int c.2.2]
def cy(W:List Str)(bs:List bG)(c:Str×Str×Int):D:=if c.1∈W then .oo ai CN [.int (gn W c.1),.str c.2.1,.int c.2.2]else .oo aw CN [.int (gn (bnm bs) c.1),.str c.2.1,.int c.2.2]
noncomputable def bw:Option (Str×Str)->D
 |none=>.non
 |some w=>.tup [.str w.1,.str w.2]
def rsN(W:List Str)(ds:List (Str×Str×Int)):List Nat:=(ds.filter fun c=>decide (c.1∈W)).map fun c=>gn W c.1
def dR(W:List Str)(bs:List bG)(ds:List (Str×Str×Int)):List D:=(ds.filter fun c=>decide (c.1∉W)).map fun c=>.tup [.int (gn (bnm bs) c.1),.str c.2.1,.int c.2.2]
def bg(W:List Str)(bs:List bG)(r:a4):D:=.ob aO RN [.str r.name,.int r.price,.bl r.hurry,.seq (r.stays.map (bb W bs))]
def gS(W:List Str)(bs:List bG)(r:a4):D:=.oo aO RN [.str r.name,.int r.price,.bl r.hurry,.seq (r.stays.map (bb W bs))]
abbrev dfs(W:List Str)(bs:List bG)(x:Nat×ba):List D:=[.int x.1,.str x.2.start,.str x.2.goal,.bl x.2.weather,bw x.2.word,.int x.2.price,.seq (x.2.conds.map (bb W bs)),.seq (jW (rsN W x.2.deeds)),.seq (dR W bs x.2.deeds)]
def aV(W:List Str)(bs:List bG)(x:Nat×ba):D:=.ob az ON (dfs W bs x)
def tZ(W:List Str)(bs:List bG)(x:Nat×ba):D:=.oo az ON (dfs W bs x)
abbrev Do(W:List Str)(bs:List bG)(M:List Str)(R:List (List a4))(P:List (Nat×ba)):D:=.oo aq DN [.lst (W.map D.str),.lst (bs.map aW),.lst (M.map D.str),.lst (R.map fun l=>.lst (l.map (gS W bs))),.lst (P.map (tZ W bs))]
abbrev Db(W:List Str)(bs:List bG)(M:List Str)(R:List (List a4))(P:List (Nat×ba)):D:=.ob aq DN [.seq (W.map D.str),.seq (bs.map aW),.seq (M.map D.str),.seq (R.map fun l=>.seq (l.map (bg W bs))),.seq (P.map (aV W bs))]
section
variable {W M:Yg Str} {bs:Yg bG} {R:Yg (Yg a4)} {P:Yg (Nat×ba)}
def vp(b:bG):sh (aW b)=aW b:=by simp only[sh,shs]
def aZ:shs (bs.map aW)=bs.map aW:=be vp bs
def Jk(c:Str×Str×Int):sh (cy W bs c)=bb W bs c:=by unfold cy bb;split<;>simp only[sh,shs]
def gd(c:Str×Str×Int):sh (bb W bs c)=bb W bs c:=by unfold bb;split<;>simp only[sh,shs]
def cF(l:Yg (Str×Str×Int)):shs (l.map (bb W bs))=l.map (bb W bs):=be gd l
def jy(l:Yg (Str×Str×Int)):shs (l.map (cy W bs))=l.map (bb W bs):=be Jk l
def G8(r):sh (gS W bs r)=bg W bs r:=by simp only[gS,bg,sh,shs,cF]
def iT(r):sh (bg W bs r)=bg W bs r:=by simp only[bg,sh,shs,cF]
def jd(w:Ye (Str×Str)):sh (bw w)=bw w:=by cases w<;>simp only[bw,sh,shs]
theorem q8:∀(l:Yg Int),shs (l.map D.int)=l.map D.int
 |[]=>rfl
 |i::l=>by rw[Zu,shs,q8 l];rfl
def kO(l:Yg Nat):shs (jW l)=jW l:=be (fun _=>rfl) _
def gP(l:Yg (Str×Str×Int)):shs (dR W bs l)=dR W bs l:=be (fun x=>by simp only[sh,shs]) _
def Jg(x:Nat×ba):sh (tZ W bs x)=aV W bs x:=by simp only[tZ,aV,sh,shs,cF,jd,kO,gP]
def iZ(x:Nat×ba):sh (aV W bs x)=aV W bs x:=by simp only[aV,sh,shs,cF,jd,kO,gP]
def Nt(l:Yg a4):sh (.lst (l.map (gS W bs)))=.seq (l.map (bg W bs)):=by rw[sh,be G8]
def Di(l:Yg a4):sh (.seq (l.map (bg W bs)))=.seq (l.map (bg W bs)):=by rw[sh,be iT]
def lV(l:Yg a4):shs (l.map (bg W bs))=l.map (bg W bs):=be iT l
def jm:shs (R.map fun l=>.lst (l.map (gS W bs)))=R.map fun l=>.seq (l.map (bg W bs)):=be Nt R
def gT:shs (R.map fun l=>.seq (l.map (bg W bs)))=R.map fun l=>.seq (l.map (bg W bs)):=be Di R
def fQ:shs (P.map (tZ W bs))=P.map (aV W bs):=be Jg P
def cn:shs (P.map (aV W bs))=P.map (aV W bs):=be iZ P
def lL{f}{xs}{ds}{k}(h:eK f xs=some k):lkF f xs ds=ds[k]?:=by unfold lkF;rw[h];rfl
def gG {c d}:lkF "watch_names" DN [a,b,c,d,e]=some a:=lL (k:=0) (by decide +kernel)
def Ap {c d}:lkF "box_tuples" DN [a,b,c,d,e]=some b:=lL (k:=1) (by decide +kernel)
def jx {c d}:lkF "machine_names" DN [a,b,c,d,e]=some c:=lL (k:=2) (by decide +kernel)
def qc {c d:D}:lkF "room_lists" DN [a,b,c,d,e]=some d:=lL (k:=3) (by decide +kernel)
def u6 {c d}:lkF "door_list" DN [a,b,c,d,e]=some e:=lL (k:=4) (by decide +kernel)
def FZ:eK "watch_names" DN=some 0:=by decide +kernel
def MG:eK "box_tuples" DN=some 1:=by decide +kernel
def An:eK "machine_names" DN=some 2:=by decide +kernel
def rP:eK "room_lists" DN=some 3:=by decide +kernel
def F6:eK "door_list" DN=some 4:=by decide +kernel
def yo:eK "box_names" DN=none:=by decide +kernel
def Am:eK "room_names" DN=none:=by decide +kernel
def u4:eK "has_room" DN=none:=by decide +kernel
def Ji:eK "has_door" DN=none:=by decide +kernel
def oC {c d f g h i}:lkF "machine" ON [a,b,c,d,e,f,g,h,i]=some a:=lL (k:=0) (by decide +kernel)
def qS {c d f g h i}:lkF "word" ON [a,b,c,d,e,f,g,h,i]=some e:=lL (k:=4) (by decide +kernel)
def Dk {c d}:lkF "name" RN [a,b,c,d]=some a:=lL (k:=0) (by decide +kernel)
def Gn {c}:lkF "sign" CN [a,b,c]=some b:=lL (k:=1) (by decide +kernel)
def Cf {c}:lkF "against" CN [a,b,c]=some c:=lL (k:=2) (by decide +kernel)
theorem jA(h:bs.length<=900):bN [Db W bs M R P]=some (.lst ((bnm bs).map D.str),[some (Db W bs M R P)]):=by
 have e:=bJ (js:=[]) (δ:=[some (Db W bs M R P)]) (δc:=[some (Db W bs M R P)]) (src:=a6 (cD [a5,aq] "box_tuples" (aa 0))) (n:=1) (g:=gN 0) (fc:=fun _=>some true) (felt:=vI (f2 gIx (ab 0) (fC (.int 0)))) (ds:=bs.map aW) (xs:=(bs.map aW).map fun d=>match d with|.tup (x::_)=>x|_=>.non) (ιe:=[none]) (by
  simp[a6,cD,aa,sh,noo,Ap,aZ]) rfl (cZ fun d f=>by
  obtain⟨b,_,rfl⟩:=Zr.mp f;refine⟨[some (aW b)],by rw[vp];rfl,rfl,[some (aW b)],?_,rfl⟩
  simp[ab];rfl) (by rw[Zl,Zl];lia)
 simp only[bN,eZ,Dl.start,aE,dQ,bS,Zc,Zu,Zv,Zj,Zm,Zn,ZP,List.take_zero,ZQ,Nat.sub_self,Nat.reduceAdd,e,List.map_map];rfl
def kj{α:Type}{f:α->D}{l}{x}:L2.atI ((l++[x]).map f) (-1)=some (f x):=by rw[Zw];exact L2.atI_last _ _
end
variable {n:nU} {R:Yg (Yg a4)} {P:Yg (Nat×ba)} {rl:Yg a4} {m:fJ}
section
variable {W M:Yg Str} {bs:Yg bG} {R:Yg (Yg a4)} {P:Yg (Nat×ba)}
theorem lH{rl:Yg a4}(h:rl.length<=900):bW [Db W bs M (R++[rl]) P]=some (.lst ((rl.map (·.name)).map D.str),[some (Db W bs M (R++[rl]) P)]):=by
 have e:=bJ (js:=[]) (δ:=[some (Db W bs M (R++[rl]) P)]) (δc:=[some (Db W bs M (R++[rl]) P)]) (src:=a6 (eO (cD [aq] "room_lists" (aa 0)) (f1 fP (fC (.int 1))))) (n:=1) (g:=gN 0) (fc:=fun _=>some true) (felt:=vI (a9 [aO] "name" (ab 0))) (ds:=rl.map (bg W bs)) (xs:=(rl.map (bg W bs)).map fun d=>match d with|.ob _ _ (x::_)=>x|_=>.non) (ιe:=[none]) (by
  simp only[a6,cD,eO,e_C,u0,aa,sh,noo,Zc,Zd,Zf,Z6,Zt,ZH,or_false,qc,gT,fP,kj,lV,Int.reduceNeg]) rfl (cZ fun d f=>by
  obtain⟨b,_,rfl⟩:=Zr.mp f;refine⟨[some (bg W bs b)],by rw[iT];rfl,rfl,[some (bg W bs b)],?_,rfl⟩
  simp[bg,ab,imm,Dk]) (by rw[Zl,Zl];lia)
 simp only[bW,eF,Dl.start,aE,dQ,bS,Zc,Zu,Zv,Zj,Zm,Zn,ZP,List.take_zero,ZQ,Nat.sub_self,Nat.reduceAdd,e,List.map_map];rfl
def ka:bD [Db W bs M (R++[rl]) P]=some (.bl (decide (0<rl.length)),[some (Db W bs M (R++[rl]) P)]):=by
 have h1:(((R++[rl]).length:Int)>0)=True:=eq_true (by simp)
 have h2:((rl.length:Int)>0)=(0<rl.length):=by simp
 simp only[bD,fR,Dl.start,aE,dQ,mC,k8,e_C,u0,dD,db,cR,gZ,fH,ab,nH,mv,jw,iN,iu,imm,Zc,Zu,Zv,Zj,Zm,Zn,Zl,Zd,ZP,List.take_zero,ZQ,Nat.sub_self,Nat.reduceAdd,Z6,Zt,ZH,or_false,decide_true,qc,h1,fP,kj,Int.reduceNeg,h2]
theorem wA:bV [Db W bs M R []]=some (.bl false,[some (Db W bs M R [])]):=by kernel_rfl
def wz{x:Nat×ba}:bV [Db W bs M R (P++[x])]=some (.bl ((x.1:Int)==(M.length:Int)-1),[some (Db W bs M R (P++[x]))]):=by
 have h1:(((P++[x]).length:Int)>0)=True:=eq_true (by simp)
 simp only[bV,fS,Dl.start,aE,dQ,mC,k8,e_C,u0,dD,db,cR,gZ,fH,ab,nH,mv,jw,Ai,iN,iu,imm,Zc,Zu,Zv,Zj,Zm,Zn,Zl,Zd,ZP,List.take_zero,ZQ,Nat.sub_self,Nat.reduceAdd,Z6,Zt,ZH,or_false,or_true,decide_true,u6,h1,fP,kj,Int.reduceNeg,aV,oC,jx]
def MQ{a b:Yg Str}(h:a.length+b.length<=1000):gA (.seq (a.map D.str)) (.lst (b.map D.str))=some (.lst ((a++b).map D.str)):=by simp only[gA,asL,Zc,Zl,Zw];rw[if_pos h]
def Jr{a b:Yg Str}(h:a.length+b.length<=1000):gA (.lst (a.map D.str)) (.seq (b.map D.str))=some (.lst ((a++b).map D.str)):=by simp only[gA,asL,Zc,Zl,Zw];rw[if_pos h]
theorem j7{r}{ws}{p}{w}(h:ws[p]?=some w)(n:aJ w)(f:w∉W++bnm bs++M)(o:W.length+bs.length+M.length<=900):dh [Db W bs M R P,Wo r ws p]=some (.str w,[some (Db W bs M R P),some (Wo r ws (p+1))]):=by
 have m:bs.length<=900:=by lia
 have l:W.length+(bnm bs).length<=1000:=by simp;lia
 have j:(W++bnm bs).length+M.length<=1000:=by simp;lia
 have e:=decide_eq_false f;simp only[dh,mD,Dl.start,aE,bM,dC,bP,dQ,oU,dD,db,gZ,fH,fG,iW,cA,bS,dY,ab,aa,bR,oR,Ag,mw,nH,mv,Af,bH,sh,shs,noo,imm,Zc,Zu,Zv,Zh,Zi,Zm,Zn,Zd,Ze,Zf,Zg,ZP,List.take_zero,ZU,ZQ,Nat.reduceSub,Nat.reduceAdd,ZR,Z6,if_false,Bool.not_false,Zt,ZH,or_false,or_true,im,gB h n,bQ,gG,jx,yo,aZ,gT,cn,jA m,MQ l,Jr j,e,bv]
def lG{r}{ws}{p}{w}{rl}(h:ws[p]?=some w)(f:w∈rl.map (·.name))(j:rl.length<=900):ff [Db W bs M (R++[rl]) P,Wo r ws p]=some (.str w,[some (Db W bs M (R++[rl]) P),some (Wo r ws (p+1))]):=by have e:=decide_eq_true f;simp only[ff,jC,Dl.start,aE,bM,dC,bP,dQ,oU,dD,db,gZ,fH,fG,iW,cA,bS,dY,ab,aa,bR,oR,Ag,mw,tV,bH,sh,shs,noo,imm,Zc,Zu,Zv,Zh,Zi,Zm,Zn,Zd,Ze,Zf,Zg,ZP,List.take_zero,ZU,ZQ,Nat.reduceSub,Nat.reduceAdd,ZR,Z6,if_false,n5,mO h,bQ,Am,aZ,gT,cn,lH j,e,bv]
end
theorem pO (h:ws.drop p=("price":Str)::num i::l) (h1:0<=i) (h2:i<=10^30):bU [Wo r ws p]=some (.int i,[some (Wo r ws (p+2))]):=by
 have e:=eQ (r:=r) (hi:=1000000000000000000000000000000) (cV (cU h)) (by lia) h1 (by lia)
 simp[bU,f8,Dl.start,aE,aa,bR,noo,imm,eN,gM (cV h),lE,e]
def qu (h:ws[p]?≠some "price") (f:p<=ws.length):bU [Wo r ws p]=some (.int 0,[some (Wo r ws p)]):=by simp[bU,f8,Dl.start,aE,aa,bR,noo,imm,eN,gQ h f]
def qt {w:Str} (h:ws.drop p=("say":Str)::w::l) (n:aJ w):bT [Wo r ws p]=some (bw (some ("say",w)),[some (Wo r ws (p+2))]):=by simp[bT,eW,Dl.start,aE,aa,bR,noo,imm,eN,gM (cV h),im,gB (cV (cU h)) n,bw]
def pN {w:Str} (h:ws.drop p=("hear":Str)::w::l) (n:aJ w):bT [Wo r ws p]=some (bw (some ("hear",w)),[some (Wo r ws (p+2))]):=by
 have j:ws[p]?≠some (Str.ofString "say"):=by rw[cV h];exact fun z=>absurd (ZG z) (by decide +kernel)
 have f:=Nat.le_of_lt (ZL.mp (cV h)).1;simp[bT,eW,Dl.start,aE,aa,bR,noo,imm,eN,gQ j f,gM (cV h),im,gB (cV (cU h)) n,bw]
def sv (h1:ws[p]?≠some "say") (h2:ws[p]?≠some "hear") (f:p<=ws.length):bT [Wo r ws p]=some (bw none,[some (Wo r ws p)]):=by simp[bT,eW,Dl.start,aE,aa,bR,noo,imm,eN,gQ h1 f,gQ h2 f,bw]
abbrev tri(c:Str×Str×Int):Str×Str×Str:=(c.1,c.2.1,num c.2.2)
noncomputable abbrev WS:List Str:=["<","<=","==",">=",">"]
noncomputable abbrev BS:List Str:=["<","<=","==","!=",">=",">"]
def gX(W B:List Str)(c:Str×Str×Int):Prop:=(c.1∈W/\c.2.1∈WS/\0<=c.2.2/\c.2.2<=60)\/(c.1∉W/\c.1∈B/\c.2.1∈BS/\-20<=c.2.2/\c.2.2<=20)
def Oe (h:x∈WS):gIn (.str x) (.tup [D.str "<",D.str "<=",D.str "==",D.str ">=",D.str ">"])=some (.bl true):=(FL).trans (by rw[decide_eq_true h])
def Of (h:x∈BS):gIn (.str x) (.tup [D.str "<",D.str "<=",D.str "==",D.str "!=",D.str ">=",D.str ">"])=some (.bl true):=(FL).trans (by rw[decide_eq_true h])
def zD{C}(j:C=ai\/C=aw){n a}:bA [.oo C [] [],.int n,.str s,.int a]=some (.non,[some (.oo C CN [.int n,.str s,.int a]),some (.int n),some (.str s),some (.int a)]):=by
 have f:(C=bB\/C=ai\/C=aw)=True:=eq_true (.inr j);have p:oq "number" []=(["number"]:Yg Str):=rfl;have o:oq "sign" (["number"]:Yg Str)=(["number","sign"]:Yg Str):=by decide +kernel
 have m:oq "against" (["number","sign"]:Yg Str)=CN:=by decide +kernel
 have f1:putD "number" (D.int n) [] []=[.int n]:=rfl;have f2:putD "sign" (D.str s) ["number"] [.int n]=[.int n,.str s]:=by unfold putD;rw[if_neg (by decide +kernel)];rfl
 have l:putD "against" (D.int a) ["number","sign"] [.int n,.str s]=[.int n,.str s,.int a]:=by unfold putD;rw[if_neg (by decide +kernel)];unfold putD;rw[if_neg (by decide +kernel)];rfl
 simp[bA,dZ,Dl.start,aE,aa,cz,aC,atP,fF,noo,f,p,o,m,f1,f2,l,Nat.zero_le]
theorem pT:∀l,oe (l.map D.str)=some l
 |[]=>rfl
 |x::l=>by rw[Zu,oe,pT l];rfl
def rf(h:x∈l):(l.findIdx? fun i=>i==x)=some (gn l x):=by
 unfold gn;cases q:l.findIdx? fun i=>i==x with
 |some j=>rfl
 |none =>rw[List.findIdx?_eq_none_iff]at q;have:=q x h;simp at this
def nG(h:x∈l):bL (.seq (l.map D.str)) [.str x]=some (.int (gn l x)):=by simp only[bL,asL,Zc,pT,rf h,Option.map_some]
def FK(h:x∈l):bL (.lst (l.map D.str)) [.str x]=some (.int (gn l x)):=by simp only[bL,asL,Zc,pT,rf h,Option.map_some]
noncomputable abbrev thS(c:Str×Str×Str):D:=.seq [.str c.1,.str c.2.1,.str c.2.2]
def yL{c}:L2.atI [a,b,c] 0=some a:=rfl
def sJ{c}:L2.atI [a,b,c] 1=some b:=rfl
theorem yt{bs}(h:gX W (bnm bs) c):i9 [.seq (W.map D.str),.lst ((bnm bs).map D.str),thS (tri c)]=some (cy W bs c,[some (.seq (W.map D.str)),some (.lst ((bnm bs).map D.str)),some (thS (tri c))]):=by
 rcases h with⟨h1,h2,j,f⟩|⟨h1,h2,j,f,q⟩
 . have p:=eq_true h1;have o:=Oe h2;have l:=kS (by lia) j f
   have m:=zD (.inl rfl) (n:=gn W c.1) (s:=c.2.1) (a:=c.2.2);simp[i9,lj,Dl.start,aE,ab,aa,gz,sh,shs,noo,imm,ZU,yL,sJ,at3,p,o,l,nG h1,m,cy]
 . have p:(c.1∈W)=False:=eq_false h1;have r:(c.1∈bnm bs)=True:=eq_true h2;have o:=Of j;have l:=kS (i:=c.2.2) (lo:=-20) (hi:=20) (by lia) f q
   have m:=zD (.inr rfl) (n:=gn (bnm bs) c.1) (s:=c.2.1) (a:=c.2.2);simp only[i9,lj,Dl.start,aE,bM,dC,Ot,nD,iX,tW,pA,bP,dQ,MF,Jb,iY,gc,e_C,u0,dD,db,BZ,gZ,fH,fG,iW,rJ,uY,bS,fZ,ab,aa,Kb,gz,iu,tV,wJ,sh,shs,noo,imm,Zc,Zu,Zv,Zh,Zi,Zm,Zn,Zd,Ze,Zf,Zg,ZP,List.take_zero,ZU,ZQ,Nat.reduceSub,Nat.reduceAdd,Z6,if_false,Bool.not_false,decide_true,decide_false,yL,sJ,at3,p,r,o,fP,Int.reduceNeg,l,FK h2,m,cy]
def Od{bs}(h:c.1∈W):jR Is [bb W bs c,.cls ai]=some (.bl true):=by unfold bb;rw[if_pos h];rfl
def wk {bs} (h:c.1∈W) (f:c.2.1=Str.ofString "<=" \/ (c.2.1=Str.ofString "<"/\0<c.2.2)):eH [bb W bs c]=some (.bl true,[some (bb W bs c)]):=by
 have j:=Od (bs:=bs) h;have o:bb W bs c=.ob ai CN [.int (gn W c.1),.str c.2.1,.int c.2.2]:=by unfold bb;rw[if_pos h]
 rw[o]at j ⊢;rcases f with f|⟨f,m⟩
 . rw[f]at j ⊢;simp[eH,jD,Dl.start,aE,ab,imm,j,Gn,Zz]
 . rw [f] at j ⊢;have l:(Str.ofString "<" == Str.ofString "<=")=false:=by decide +kernel
   have p:=eq_true m;simp[eH,jD,Dl.start,aE,ab,imm,j,Gn,Zz,l,Cf,p]
variable {T:Yg Str}
section
variable {bs:Yg bG}
def CQ(cs:Yg (Str×Str×Str)):shs (cs.map thD)=cs.map thS:=be (fun c=>by simp only[sh,shs]) cs
def um(cs:Yg (Str×Str×Str)):shs (cs.map thS)=cs.map thS:=be (fun c=>by simp only[sh,shs]) cs
def qr(c:Str×Str×Str):sh (thS c)=thS c:=by simp only[sh,shs]
theorem CP(c:Str×Str×Int)(h:c.2.2.natAbs<10^31):Fr 44 (tri c).2.2/\(tri c).2.2.length<=1000:=⟨xJ _ (by decide) (by decide),by have:(num c.2.2).length<=32:=kT h;show(num c.2.2).length<=1000;lia⟩
def xH(h:gX W B c):c.2.2.natAbs<10^31:=by rcases h with⟨_,_,h1,h2⟩|⟨_,_,_,h1,h2⟩<;>omega
def B9(c:Str×Str×Int):own (cy W bs c)=true/\noo (cy W bs c)=false:=by unfold cy;split<;>exact⟨rfl,rfl⟩
def xK(l:Yg (Str×Str×Int)):lJ Es (l.map (cy W bs))=some (l.map fun _=>false):=by
 induction l with
 |nil=>rfl
 |cons c l f =>
  rw[Zu,Zu];unfold cy at f ⊢;split
  . simp only[lJ,j5,Zc,f];rw[if_pos (by simp)]
  . simp only[lJ,j5,Zc,f];rw[if_pos (by simp)]
def wc(l:Yg (Str×Str×Int)):kZ Es .non (.lst (l.map (cy W bs)))=some (.bl true):=by
 simp only[kZ,asL,Zc,xK];have:(l.map fun _=>false).any id=false:=by rw[List.any_eq_false];intro x f;obtain⟨_,_,rfl⟩:=Zr.mp f;decide
 rw[this];rfl
theorem qv(t:cs≠[])(h:ws.drop p=tw (cs.map tri)++l)(o:∀c∈cs,gX W (bnm bs) c)(s:cs.length<=900)(y:bs.length<=900) :
 cq [Db W bs M R P,Wo r ws p]=some (.lst (cs.map (cy W bs)),[some (Db W bs M R P),some (Wo r ws (p+3*cs.length))]):=by
 have q:=jZ (r:=r) (by simpa using t) h (fun c u=>by obtain⟨d,v,rfl⟩:=Zr.mp u;exact CP d (xH (o d v))) (by simpa using s)
 rw[Zl]at q;have f:bh 1 (gN 0) (fun _=>some true) Ci ((cs.map tri).map thS) [none,some (Db W bs M R P)]=some (cs.map (cy W bs),[none,some (Db W bs M R P)]):=by
  clear q h t s
  induction cs with
  |nil=>rfl
  |cons c cs j =>
   have j:=j fun x m=>o x (Zp _ m)
   have z:=yt (o c (Zo ..));simp! only[bq0,bq3,Ci,bh,qr,mw,dw,own,yi,cD,gG,iQ,yo,aZ,gT,cn,jA y,z];simp only[bq0,bq3,Ci,Zc,j]
 have e:=bJ (js:=[0]) (δ:=[some (Db W bs M R P),some (Wo r ws p),none]) (δ1:=[some (Db W bs M R P),some (Wo r ws (p+3*cs.length)),none]) (δc:=[some (Db W bs M R P),some (Wo r ws (p+3*cs.length)),none]) (cs:=[Db W bs M R P]) (src:=bq3) (n:=1) (g:=gN 0) (fc:=fun _=>some true) (felt:=Ci) (by
  simp! only[bq0,bq3,Ci,a6,bR,lD,q,CQ]) (by simp[takes,aa,noo]) f (by rw[Zl];lia)
 simp[cq,iO,Dl.start,aE,ab,aa,sh,shs,noo,imm,ZU,e,bQ,wc,bv]
abbrev Wb(r:Int)(ws:List Str)(p:Nat):D:=.ob ao WN [.int r,.seq (ws.map D.str),.int p]
def iJ (W B:List Str) (c:Str×Str×Int):Prop:=(c.1∈W/\c.2.1=Str.ofString "="/\c.2.2=0)\/(c.1∉W/\c.1∈B/\((c.2.1=Str.ofString "="/\-20<=c.2.2/\c.2.2<=20)\/((c.2.1=Str.ofString "+" \/ c.2.1=Str.ofString "-")/\1<=c.2.2/\c.2.2<=20)))
def qR(h:iJ W B c):c.2.2.natAbs<10^31:=by rcases h with⟨_,_,h1⟩|⟨_,_,⟨_,h1,h2⟩|⟨_,h1,h2⟩⟩<;>omega
def Pi:num 0=Str.ofString "0":=by decide +kernel
def zJ(h:x∈l):gn l x<l.length:=by have:=rf h;exact(List.findIdx?_eq_some_iff_findIdx_eq.mp this).1
theorem vM{l}(h:∀k∈l,k<=4):ip (l.map fun(k:Nat)=>D.int (k:Int))=some l:=by
 induction l with
 |nil=>rfl
 |cons a l f =>
  have:=h a (Zo ..);rw[Zu];simp only[ip];rw[if_pos ⟨by lia,by lia⟩,f fun k m=>h k (Zp _ m)]
  simp
def Oy{c}:u8 [a,b,c] (some 1) none=[b,c]:=rfl
def eq2{a b c d}(h1:a=c)(h2:b=d):bC (.lst [.str a,.str b]) (.lst [.str c,.str d])=some (.bl true):=by subst h1;subst h2;simp[bC,eqN,kd,eq0,eqL,dM,toV,eqF]
theorem A6(B:∀c∈ds,iJ W (bnm bs) c)(q:ds.length<=900)(H:W.length<=4):iC [Db W bs M R P,Wb r ws p,.seq ((ds.map tri).map thS)]=some (.lst (jW (rsN W ds)),[some (Db W bs M R P),some (Wb r ws p),some (.seq ((ds.map tri).map thS))]):=by
 let T:D:=.seq ((ds.map tri).map thS)
 have f:∀l acc o,(∀c∈l,iJ W (bnm bs) c)->acc.length+l.length<=900->∃o',cL (gN 4) yB ((l.map tri).map thS) [some (Db W bs M R P),some (Wb r ws p),some T,some (.lst (acc.map fun(k:Nat)=>D.int (k:Int))),o]=some (.nx [some (Db W bs M R P),some (Wb r ws p),some T,some (.lst ((acc++rsN W l).map fun(k:Nat)=>D.int (k:Int))),o']):=by
  intro l
  induction l with
  |nil=>intro acc o _ _;exact⟨o,by simp[cL,rsN]⟩
  |cons c l u =>
   intro acc o j q;rw[Zm]at q;rcases j c (Zo ..)with⟨h1,h2,v⟩|⟨h1,h2,v⟩
   . obtain ⟨o',e⟩:=u (acc++[gn W c.1]) (some (thS (tri c))) (fun x m=>j x (Zp _ m)) (by simp;lia)
     refine⟨o',?_⟩;have t:=eq_true h1;have C:bC (.lst [.str c.2.1,.str (num c.2.2)]) (.lst [.str "=",.str "0"])=some (.bl true):=eq2 h2 (by rw[v];exact Pi)
     have G:(acc.length<=999)=True:=eq_true (by lia)
     have s:rsN W (c::l)=gn W c.1::rsN W l:=by unfold rsN;rw[List.filter_cons_of_pos (by simpa using h1),Zu]
     rw[s];simp only[yB,Zu,cL,qr,bM,dC,iX,tW,oU,iY,gc,e_C,dD,db,BZ,gZ,fH,ab,oR,mw,nH,mv,cP,aC,atP,fF,iu,wJ,sh,shs,imm,asL,pC,pB,Zc,Option.map_some,Zu,Zl,Zd,Ze,Zf,Zg,Z6,Zt,ZH,or_false,or_true,decide_true,yL,gG,t,fSl,faS,faN,asI,Oy,gF,C,bQ,bv,bE,nG h1,G];rw[Zw,ZV]at e;simpa only[Zu,Zv,Zw,Zh,Zi]using e
   . obtain ⟨o',e⟩:=u acc (some (thS (tri c))) (fun x m=>j x (Zp _ m)) (by lia)
     refine⟨o',?_⟩;have t:=eq_false h1;have s:rsN W (c::l)=rsN W l:=by unfold rsN;rw[List.filter_cons_of_neg (by simpa using h1)]
     rw[s];simp only[yB,Zu,cL,qr,nD,iX,pA,iY,gc,e_C,dD,ab,nH,mv,iu,wJ,sh,shs,pC,pB,Zc,Option.map_some,Zu,Zd,Ze,Z6,Zt,ZH,or_false,or_true,decide_false,yL,gG,t];exact e
 obtain⟨o',e⟩:=f ds [] none B (by simpa using q)
 have y:ip ((rsN W ds).map fun(k:Nat)=>D.int (k:Int))=some (rsN W ds):=vM fun k hk=>by
  unfold rsN at hk;obtain⟨c,j,rfl⟩:=Zr.mp hk;have:=zJ (Z7 (List.mem_filter.mp j).2)
  lia
 simp only[yB,Zv,Zi]at e;have nT:noo T=true:=rfl;have z:shs ((ds.map tri).map thS)=(ds.map tri).map thS:=um _;simp only[yB,iC,km,Dl.start,aE,bM,dC,pv,fG,tT,aa,sh,noo,Zc,Zu,Zv,Zh,Zi,Zm,Zn,Zd,Ze,Zf,Zg,ZU,ZQ,Nat.reduceSub,Nat.reduceAdd,Z6,gC,a6,z];rw[e];simp only[yB,dC,dQ,imm,Zc,Zd,Ze,Zf,Zg,ZP,List.take_zero,ZR,if_false,jX,aa,noo,y];rfl
def IQ (h:x=Str.ofString "=" \/ x=Str.ofString "+" \/ x=Str.ofString "-"):gIn (.str x) (.tup [D.str "=",D.str "+",D.str "-"])=some (.bl true):=(FL (ws:=["=","+","-"])).trans (by rw[decide_eq_true];simpa using h)
def Kd{c}{fa fb}:fIf c fa fb δ=brD fa fb δ (c δ):=by unfold fIf brD;cases h:c δ with
 |none=>rfl
 |some r=>cases r<;>rfl
def MC{fa fb}:brD fa fb δ (some true)=fa δ:=rfl
def MD{fa fb}:brD fa fb δ (some false)=fb δ:=rfl
theorem F8 (z:∀ c∈ds,iJ W (bnm bs) c) (y:ds.length<=900) (S:bs.length<=900):jK [Db W bs M R P,Wb r ws p,.seq ((ds.map tri).map thS)]=some (.lst (dR W bs ds),[some (Db W bs M R P),some (Wb r ws p),some (.seq ((ds.map tri).map thS))]):=by
 let T:D:=.seq ((ds.map tri).map thS)
 have s:∀ l acc o q,(∀ c∈l,iJ W (bnm bs) c)->acc.length+l.length<=900->∃ o' j,cL (gN 5) wU ((l.map tri).map thS) [some (Db W bs M R P),some (Wb r ws p),some T,some (.seq ((bnm bs).map D.str)),some (.lst acc),o,q]=some (.nx [some (Db W bs M R P),some (Wb r ws p),some T,some (.seq ((bnm bs).map D.str)),some (.lst (acc++dR W bs l)),o',j]):=by
  intro l
  induction l with
  |nil=>intro acc o q _ _;exact⟨o,q,by simp[cL,dR]⟩
  | cons c l J =>
   intro acc o q B y;rw[Zm]at y;rcases B c (Zo ..)with⟨h1,h2,f⟩|⟨h1,h2,f⟩
   . obtain ⟨o',j,e⟩:=J acc (some (thS (tri c))) q (fun x m=>B x (Zp _ m)) (by lia)
     refine⟨o',j,?_⟩;have I:=eq_true h1;have H:dR W bs (c::l)=dR W bs l:=by unfold dR;rw[List.filter_cons_of_neg (by simpa using h1)]
     rw[H];simp only[wU,Zu,cL,qr,nD,iX,pA,iY,gc,e_C,dD,ab,nH,mv,iu,Kc,sh,shs,pC,pB,Zc,Option.map_some,Zu,Zd,Ze,Z6,Bool.not_true,Zt,ZH,or_false,or_true,decide_true,yL,gG,I];exact e
   . have z:∃ lo,(fIf (fT (f2 bC (f2 gIx (ab 5) (fC (.int 1))) (fC (.str "=")))) (f1 fP (fC (.int 20))) (fC (.int 1))) [some (Db W bs M R P),some (Wb r ws p),some T,some (.seq ((bnm bs).map D.str)),some (.lst acc),some (thS (tri c)),q]=some (.int lo)/\lo<=c.2.2/\c.2.2<=20:=by
      rcases f with⟨f,G,C⟩|⟨f,G,C⟩
      . exact⟨-20,by simp[Kd,ab,sJ,f,Zz,MC,fP,Int.reduceNeg],G,C⟩
      . have O:(c.2.1 == Str.ofString "=")=false:=by
         rcases f with f|f<;>rw[f]<;>decide +kernel
        exact⟨1,by simp only[wU,Kd,iY,gc,e_C,dD,ab,Ow,iu,Zc,Zd,Ze,sJ,O,MD],G,C⟩
     obtain⟨lo,t,v,u⟩:=z;have Q:c.2.1=Str.ofString "=" \/ c.2.1=Str.ofString "+" \/ c.2.1=Str.ofString "-":=by
      rcases f with⟨f,_⟩|⟨f,_⟩
      . exact .inl f
      . exact .inr f
     obtain⟨o',j,e⟩:=J (acc++[.tup [.int (gn (bnm bs) c.1),.str c.2.1,.int c.2.2]]) (some (thS (tri c))) (some (.int c.2.2)) (fun x m=>B x (Zp _ m)) (by simp;lia)
     refine⟨o',j,?_⟩;have I:=eq_false h1;have V:=eq_true h2;have X:(acc.length<=999)=True:=eq_true (by lia)
     have U:=kS (qR (.inr ⟨h1,h2,f⟩)) v u;have H:dR W bs (c::l)=.tup [.int (gn (bnm bs) c.1),.str c.2.1,.int c.2.2]::dR W bs l:=by unfold dR;rw[List.filter_cons_of_pos (by simpa using h1),Zu]
     rw[H];simp only[wU,Zu,cL,qr,bM,dC,iX,tW,bP,oU,mC,k8,iY,gc,e_C,dD,db,BZ,gZ,fH,fG,iW,MB,lR,rJ,ab,aa,oR,mw,nH,mv,cP,aC,atP,fF,Kb,gz,iu,wJ,Kc,sh,shs,noo,imm,pC,pB,Zc,Option.map_some,Zu,Zd,Ze,Zf,Zg,Z6,Bool.not_false,Zt,ZH,or_false,or_true,decide_true,decide_false,yL,sJ,at3,gG,I,V,IQ Q,bQ,bv,t,U,bE,nG h2,X];rw[ZV]at e;exact e
 obtain⟨o',j,e⟩:=s ds [] none none z (by simpa using y)
 simp only[wU,Zi]at e;have L:shs ((ds.map tri).map thS)=(ds.map tri).map thS:=um _;simp only[wU,jK,mF,Dl.start,aE,bM,dC,pv,bP,gZ,fG,tT,ab,aa,mw,bH,dw,sh,shs,noo,own,Zc,Zu,Zv,Zh,Zi,Zm,Zn,Zd,Ze,Zf,Zg,ZU,ZQ,Nat.reduceSub,Nat.reduceAdd,Z6,iQ,yo,aZ,gT,cn,jA S,gC,a6,L];rw[e];simp only[wU,dC,dQ,aa,noo,Zc,Zd,Ze,Zf,Zg,ZP,List.take_zero,ZR,if_false];rfl
end
variable {n1 n2:nU} {p5:Int×Int}
section
variable {bs:Yg bG}
theorem AY{n}{p}{h}{l}:eC [.oo aO [] [],.str n,.int p,.bl h,.seq l]=some (.non,[some (.oo aO RN [.str n,.int p,.bl h,.seq l]),some (.str n),some (.int p),some (.bl h),some (.seq l)]):=by kernel_rfl
theorem B4{m p}{g}{we}{c rs ds}:eD [.oo az [] [],.int m,.str s,.str g,.bl we,bw w,.int p,.seq c,.seq rs,.seq ds]=some (.non,[some (.oo az ON [.int m,.str s,.str g,.bl we,bw w,.int p,.seq c,.seq rs,.seq ds]),some (.int m),some (.str s),some (.str g),some (.bl we),some (bw w),some (.int p),some (.seq c),some (.seq rs),some (.seq ds)]):=by cases w<;>kernel_rfl
theorem vz{w}(h:ws[p]?=some w)(n:aJ w)(f:w∉W)(m:W.length<4):iE [Do W [] [] [] [],Wo r ws p]=some (.non,[some (Do (W++[w]) [] [] [] []),some (Wo r ws (p+1))]):=by
 have e:dh [.ob aq DN [.seq (W.map D.str),.seq [],.seq [],.seq [],.seq []],Wo r ws p]=some (.str w,[some (Db W [] [] [] []),some (Wo r ws (p+1))]):=j7 (bs:=[]) (M:=[]) (R:=[]) (P:=[]) (r:=r) h n (by simpa using f) (by simp;lia)
 have l:((W.length:Int)<4)=True:=eq_true (by lia)
 have j:(W.length<=999)=True:=eq_true (by lia)
 have z:((0:Nat):Int)=0:=rfl;simp! only[iE,ko,iV,dw,own,gb,Zl,Ap,jx,gG,bQ,bv,l,FZ,b7,takes,cO,ik,e,g7,uH,j,z,Zz];simp only[Do,aW,Zw,Zu,Zv]
theorem yK{b}(h:ws.drop p=b.1::num b.2.1::num b.2.2.1::num b.2.2.2::l)(n:aJ b.1)(s:b.1∉W++bnm bs)(y:bs.length<3)(x:W.length<=4)(h1:-20<=b.2.1)(h2:b.2.1<=b.2.2.2)(u:b.2.2.2<=b.2.2.1)(t:b.2.2.1<=20):lx [Do W bs [] [] [],Wo r ws p]=some (.non,[some (Do W (bs++[b]) [] [] []),some (Wo r ws (p+4))]):=by
 have e:dh [.ob aq DN [.seq (W.map D.str),.seq (bs.map aW),.seq [],.seq [],.seq []],Wo r ws p]=some (.str b.1,[some (Db W bs [] [] []),some (Wo r ws (p+1))]):=j7 (W:=W) (bs:=bs) (M:=[]) (R:=[]) (P:=[]) (r:=r) (cV h) n (by simpa using s) (by simp;lia)
 have j:=cU h;have f:=cU j;have v:=cU f;have n1:=eQ (r:=r) (lo:=-20) (hi:=20) (cV j) (by lia) h1 (by lia)
 have n2:=eQ (r:=r) (lo:=b.2.1) (hi:=20) (cV f) (by lia) (by lia) t
 have m:=eQ (r:=r) (lo:=b.2.1) (hi:=b.2.2.1) (cV v) (by lia) h2 u
 have q:((bs.length:Int)<3)=True:=eq_true (by lia)
 have o:(bs.length<=999)=True:=eq_true (by lia)
 have z:((0:Nat):Int)=0:=rfl;simp! only[lx,oZ,u0,lR,bR,iV,dw,own,gb,Zl,Ap,jx,gG,aZ,bQ,bv,q,MG,b7,takes,cO,ik,e,g7,uH,z,Zz,lE,fP,Int.reduceNeg,n1,n2,m,o];simp only[Do,aW,Zw,Zu,Zv]
theorem sf{w}(h:ws[p]?=some w)(n:aJ w)(x:w∉W++bnm bs++M)(y:W.length<=4)(C:bs.length<=3)(v:M.length<4)(z:R.length=M.length)(s:M=[]\/∃l rl,R=l++[rl]/\rl≠[])(B:P.length<=100):dW [Do W bs M R P,Wo r ws p]=some (.non,[some (Do W bs (M++[w]) (R++[[]]) P),some (Wo r ws (p+1))]):=by
 have e:=j7 (R:=R) (P:=P) (r:=r) h n x (by lia)
 have u:((M.length:Int)<4)=True:=eq_true (by lia)
 have t:(M.length<=999)=True:=eq_true (by lia)
 have f:(R.length<=999)=True:=eq_true (by lia)
 have j:((M.length:Int)==0)=true\/(((M.length:Int)==0)=false/\∃l rl,R=l++[rl]/\rl≠[]):=by
  rcases s with v|s
  . left;subst v;rfl
  . cases q:((M.length:Int) == 0) with
    |true=>exact .inl rfl
    |false=>exact .inr ⟨rfl,s⟩
 rcases j with j|⟨j,l,rl,rfl,m⟩
 . simp! only[dW,f9,wI,FE,tT,iV,dw,own,gb,Zl,j,bQ,bv,jx,u,An,rP,aZ,jm,fQ,b7,takes,cO,ik,e,g7,uH,t,f];simp only[Do,aW,Zw,Zu,Zv]
 . have o:(0<rl.length)=True:=eq_true (List.length_pos_iff.mpr m);simp! only[dW,f9,wI,yg,tT,iV,dw,own,gb,Zl,j,u4,ka,o,bQ,bv,jx,u,An,rP,aZ,jm,fQ,b7,takes,cO,ik,e,g7,uH,t,f];simp only[Do,aW,Zw,Zu,Zv]
end
variable {kw:Str}
def At(ws:List Str)(p:Nat)(l:List Str):Prop:=ws.drop p=l/\p<=ws.length
def At.head{w}(h:At ws p (w::l)):ws[p]?=some w:=cV h.1
def At.next{w}(h:At ws p (w::l)):At ws (p+1) l:=⟨cU h.1,(ZL.mp h.head).1⟩
theorem At.skip:∀{k}{p},At ws p (k++l)->At ws (p+k.length) l
 |[],_,h=>h
 |x::k,p,h=>by
  have:=At.skip (At.next h);rw[Zm,show p+(k.length+1)=p+1+k.length by lia]
  exact this
theorem At.end_(h:At ws p []):p=ws.length:=by
 have:=List.drop_eq_nil_iff.mp h.1;have:=h.2
 lia
def At.not{w}(h:At ws p l)(n:l.head?≠some w):ws[p]?≠some w:=by rw[<- List.head?_drop,h.1];exact n
def qs{b}(h:At ws p ((if b then[kw]else[])++l))(j:l.head?≠some kw):∃f,aN [Wo r ws p,.str kw]=some (.bl b,[some (Wo r ws f),some (.str kw)])/\At ws f l:=by
 cases b with
 |true=>exact⟨p+1,gM (At.head h),At.next h⟩
 |false=>exact⟨p,gQ (At.not h j) h.2,h⟩
def qF {b} (h:At ws p ((if b then[("price":Str),num i]else[])++l)) (j:l.head?≠some ("price":Str)) (h1:0<=i) (h2:i<=10^30) (m:b=false->i=0):∃f,bU [Wo r ws p]=some (.int i,[some (Wo r ws f)])/\At ws f l:=by
 cases b with
 |true=>exact⟨p+2,pO h.1 h1 h2,At.skip h⟩
 |false=>rw[m rfl];exact⟨p,qu (At.not h j) h.2,h⟩
section
variable {bs:Yg bG}
theorem n9:∀cs,(tw cs).length=3*cs.length
 |[]=>rfl
 |[c]=>rfl
 |c::d::r=>by show(tw (d::r)).length+3=_;rw[n9 (d::r)];simp only[Zm];lia
def yr(h:At ws p ((if cs=[]then[]else kw::tw (cs.map tri))++l))(hk:l.head?≠some kw)(m:∀c∈cs,gX W (bnm bs) c)(j:cs.length<=900)(o:bs.length<=900) :
 ∃p1,aN [Wo r ws p,.str kw]=some (.bl (decide (cs≠[])),[some (Wo r ws p1),some (.str kw)])/\(cs=[]->At ws p1 l)/\(cs≠[]->∃p2,(∀M R P,cq [Db W bs M R P,Wo r ws p1]=some (.lst (cs.map (cy W bs)),[some (Db W bs M R P),some (Wo r ws p2)]))/\At ws p2 l):=by
 by_cases f:cs=[]
 . subst f;rw[if_pos rfl]at h;exact⟨p,gQ (At.not h hk) h.2,fun _=>h,fun z=>absurd rfl z⟩
 . rw [if_neg f] at h;refine ⟨p+1,?_,fun z=>absurd z f,fun _=>?_⟩
   . rw[decide_eq_true f];exact gM (At.head h)
   . have h1:=At.next h;refine ⟨p+1+3*cs.length,fun M R P=>qv f h1.1 m j o,?_⟩
     have:=At.skip h1;rw[n9,Zl]at this;exact this
def t4 (h:At ws p ((if cs=[] then [] else kw :: tw (cs.map tri))++l)) (hk:l.head? ≠ some kw) (q:∀ c∈cs,gX W (bnm bs) c) (o:cs.length<=900) (u:bs.length<=900) (δ) :
 ∃p2,qh (bR 1 ao "takes" (aj (some 1::[none]) aN (ae (aa 1) (ae (vI (fC (.str kw))) ak)))) (b7 [.view 0,.lent 1] cq (cO 0 (ae (aa 1) ak))) (cI ak) (some (Do W bs M R P)::some (Wo r ws p)::δ)=some (.lst (cs.map (cy W bs)),some (Do W bs M R P)::some (Wo r ws p2)::δ)/\At ws p2 l:=by
 obtain⟨p1,f,h1,h2⟩:=yr (r:=r) h hk q o u
 by_cases j:cs=[]
 . subst j;refine⟨p1,?_,h1 rfl⟩;have d:decide (([]:Yg (Str×Str×Int))≠[])=false:=rfl;rw[d]at f;simp[aa,bR,noo,imm,eN,f]
 . obtain ⟨p2,s,v⟩:=h2 j;refine ⟨p2,?_,v⟩;rw [decide_eq_true j] at f;have m:own (.lst (cs.map (cy W bs)))=true:=by
    rw[own];clear h f s j h1 h2 o q
    induction cs with
    |nil=>rfl
    |cons c cs t=>rw[Zu,gb,t,(B9 c).1];rfl
   simp! only[Ou,My,bR,dw,own,gb,eN,f,b7,cO,ik,g7,uH,aZ,jm,fQ,s];rw[own]at m;rw[if_pos m]
theorem Gu{f}{d}{δ'}(o:f (some (Do W bs M (R++[rl]) P)::δ)=some (d,some (Do W bs M (R++[rl]) P)::δ'))(m:rl.length<=999) :
 cP 0 (pIx 0 (f1 fP (fC (.int 1))) (iV 0 [aq] "room_lists" aC)) f (some (Do W bs M (R++[rl]) P)::δ)=some (.nx (some (.oo aq DN [.lst (W.map D.str),.lst (bs.map aW),.lst (M.map D.str),.lst ((R.map fun l=>.lst (l.map (gS W bs)))++[.lst (rl.map (gS W bs)++[d])]),.lst (P.map (tZ W bs))])::δ')):=by
 have r:L2.ixN (R++[rl]).length (-1)=some R.length:=by
  unfold L2.ixN;simp
  lia
 have q:((R++[rl]).map fun l=>D.lst (l.map (gS W bs)))[R.length]?=some (.lst (rl.map (gS W bs))):=by
  rw[Zw,List.getElem?_append_right (by simp)]
  simp
 have p:((R++[rl]).map fun l=>D.lst (l.map (gS W bs))).set R.length (.lst (rl.map (gS W bs)++[d]))=(R.map fun l=>D.lst (l.map (gS W bs)))++[.lst (rl.map (gS W bs)++[d])]:=by
  rw[Zw,List.set_append_right _ _ (by simp)]
  simp
 have j:=eq_true m;simp! only[u0,iV,pIx,Zl,rP,fP,Int.reduceNeg,r,q,o,j,p]
def okStay (W:List Str) (c:Str×Str×Int):Prop:=c.1∈W/\((c.2.1=Str.ofString "<="/\0<=c.2.2)\/(c.2.1=Str.ofString "<"/\0<c.2.2))/\c.2.2<=60
theorem okStay.cond(h:okStay W c):gX W B c:=by
 obtain⟨h1,h2,f⟩:=h;refine .inl ⟨h1,?_,?_,f⟩
 . rcases h2 with⟨h2,_⟩|⟨h2,_⟩<;>rw[h2]<;>simp
 . rcases h2 with⟨_,h2⟩|⟨_,h2⟩<;>lia
structure okRoom(W:List Str)(r:a4):Prop where
 name:aJ r.name
 p0:0<=r.price
 p1:r.price<=10^30
 stays:∀c∈r.stays,okStay W c
 len:r.stays.length<=900
noncomputable def sZ(r:a4):Bool:=decide (r.price>0)||decide (r.name.length%2=1)
def lA (b:Bool) (i:Int):List Str:=if b then[("price":Str),num i]else[]
noncomputable def lZ(b:Bool)(k:Str):List Str:=if b then[k]else[]
def j4(k:Str)(cs:List (Str×Str×Int)):List Str:=if cs=[]then[]else k::tw (cs.map tri)
def y0 (r:a4):List Str:=r.name::(lA (sZ r) r.price++(lZ r.hurry "hurry" ++ (j4 "stay" r.stays++[])))
def cE{k}(h:k≠x)(f:l.head?≠some x):(j4 k cs++l).head?≠some x:=by
 unfold j4;split
 . exact f
 . exact fun z=>h (ZG z)
def BP{k}{b}(h:k≠x)(f:l.head?≠some x):(lZ b k++l).head?≠some x:=by
 unfold lZ;split
 . exact fun z=>h (ZG z)
 . exact f
def oN {b} (h:(Str.ofString "price")≠x) (f:l.head?≠some x):(lA b i++l).head?≠some x:=by
 unfold lA;split
 . exact fun z=>h (ZG z)
 . exact f
theorem AN{l:Yg (Str×Str×Int)}(h:∀c∈l,okStay W c)(p:l.length<=900)(δ) (f:aa 5 δ=some (.seq (l.map (bb W bs)),δ)):aA (a6 (aa 5)) 1 [] (gN 0) (fun _=>some true) (vI (aS eH (af (ab 0) ag))) δ=some (.lst ((l.map fun _=>true).map D.bl),δ):=by
 have e:=bJ (js:=[]) (δc:=δ) (src:=a6 (aa 5)) (n:=1) (g:=gN 0) (fc:=fun _=>some true) (felt:=vI (aS eH (af (ab 0) ag))) (ds:=l.map (bb W bs)) (xs:=(l.map (bb W bs)).map fun _=>D.bl true) (ιe:=[none]) (by
  unfold a6;rw[f];simp only[sh,Zc,cF]) rfl (cZ fun d j=>by
  obtain⟨c,o,rfl⟩:=Zr.mp j;obtain⟨h1,h2,q⟩:=h c o;refine⟨[some (bb W bs c)],by rw[gd];rfl,rfl,[some (bb W bs c)],?_,rfl⟩
  have m:=wk (bs:=bs) h1 (by
   rcases h2 with⟨z,_⟩|⟨z,y⟩
   . exact .inl z
   . exact .inr ⟨z,y⟩)
  simp[ab,shs,imm,gd,m]) (by rw[Zl,Zl];lia)
 rw[e];simp only[List.map_map,bS,Zv];rfl
theorem w4{j:a4}(h:At ws p (y0 j))(ok:okRoom W j)(s:j.name∉rl.map (·.name))(U:rl.length<6)(V:0<M.length)(v:bs.length<=900)(y:P=[]\/∃l x,P=l++[x]/\x.1+1<M.length) :
 jL [Do W bs M (R++[rl]) P,Wo r ws p]=some (.non,[some (Do W bs M (R++[rl++[j]]) P),some (Wo r ws ws.length)]):=by
 have h1:=h.next;obtain⟨p2,J,h2⟩:=qF (r:=r) h1 (BP (by decide +kernel) (cE (by decide +kernel) (by decide))) ok.p0 ok.p1 (fun z=>by
  have:=ok.p0;unfold sZ at z;rw[Bool.or_eq_false_iff]at z;have:=of_decide_eq_false z.1
  lia)
 obtain⟨Q,I,C⟩:=qs (r:=r) h2 (cE (by decide +kernel) (by decide))
 obtain⟨m,H,B⟩:=t4 (M:=M) (R:=R++[rl]) (P:=P) (r:=r) (bs:=bs) C (by decide) (fun c u=>(ok.stays c u).cond) ok.len v [some (.str j.name),some (.int j.price),some (.bl j.hurry),none]
 have pe:m=ws.length:=B.end_;subst pe;have L:=gB (r:=r) h.head ok.name;have D:(decide (j.name∈rl.map (·.name)))=false:=decide_eq_false s;have q:((rl.length:Int)<6)=True:=eq_true (by lia)
 have o:((M.length:Int)>0)=True:=eq_true (by lia)
 have t:bV [Db W bs M (R++[rl]) P]=some (.bl false,[some (Db W bs M (R++[rl]) P)]):=by
  rcases y with rfl|⟨l,x,rfl,S⟩
  . exact wA
  . rw [wz];have:((x.1:Int) == (M.length:Int) - 1)=false:=by simp;lia
    rw[this]
 have es:=AN (bs:=bs) ok.stays ok.len [some (Db W bs M (R++[rl]) P),some (Wb r ws ws.length),some (.str j.name),some (.int j.price),some (.bl j.hurry),some (.seq (j.stays.map (bb W bs)))] rfl;have G:((j.stays.map fun _=>true).all id)=true:=jB fun _ _=>rfl
 have O:=Gu (W:=W) (bs:=bs) (M:=M) (R:=R) (P:=P) (rl:=rl) (f:=Jx) (d:=gS W bs j) (δ:=[some (Wo r ws ws.length),some (.str j.name),some (.int j.price),some (.bl j.hurry),some (.seq (j.stays.map (bb W bs)))]) (δ':=[some (Wo r ws ws.length),some (.str j.name),some (.int j.price),some (.bl j.hurry),some (.seq (j.stays.map (bb W bs)))]) (by
  simp[bE,aa,noo,AY,gS]) (by lia)
 have rn:=lH (W:=W) (bs:=bs) (M:=M) (R:=R) (P:=P) (rl:=rl) (by lia)
 simp only[Jx,jL,mG,Dl.start,aE,bM,dC,bP,oU,mC,k8,e_C,u0,dD,db,cR,gZ,fH,fG,iW,cA,bS,dY,fZ,ab,aa,bR,oR,Ag,nH,Ka,FJ,iN,tU,Af,bH,sh,shs,noo,imm,Zc,Option.map_some,Zu,Zv,Zh,Zi,Zm,Zn,Zl,Zd,Ze,Zf,Zg,ZP,List.take_zero,ZU,ZQ,Nat.reduceSub,Nat.reduceAdd,ZR,Z6,if_false,Bool.not_false,Zt,ZH,or_false,or_true,decide_true,jx,o,Ji,aZ,jm,fQ,t,BR,asB,bQ,bv,qc,fP,Int.reduceNeg,kj,q,im,L,Am,rn,D,J,eN,I,H,jy,cF,pz,shO,es,Aj,G,O];simp only[Jx,Do,Zw,Zu,Zv]
noncomputable def qN:Option (Str×Str)->List Str
 |none=>[]
 |some w=>[w.1,w.2]
def oB:Option (Str×Str)->Prop
 |none=>True
 |some w=>(w.1=Str.ofString "say" \/ w.1=Str.ofString "hear")/\aJ w.2
structure okDoor(W B rn:List Str)(d:ba):Prop where
 start:d.start∈rn
 goal:d.goal∈rn
 word:oB d.word
 p0:0<=d.price
 p1:d.price<=10^30
 conds:∀c∈d.conds,gX W B c
 deeds:∀c∈d.deeds,iJ W B c
 lc:d.conds.length<=900
 ld:d.deeds.length<=900
def o9(d:ba):Bool:=decide (d.price>0)||decide (d.goal.length%2=1)
def Al (d:ba):List Str:=d.start::d.goal::(lZ d.weather "weather" ++ (qN d.word++(lA (o9 d) d.price++(j4 "when" d.conds++(j4 "do" d.deeds++[])))))
def BO (f:oB w) (h1:Str.ofString "say" ≠ x) (h2:Str.ofString "hear" ≠ x) (j:l.head?≠some x):(qN w++l).head?≠some x:=by
 cases w with
 |none=>exact j
 |some w =>
  show some w.1≠some x;rcases f.1 with h|h<;>rw[h]
  . exact fun z=>h1 (ZG z)
  . exact fun z=>h2 (ZG z)
def Az (h:At ws p (qN w++l)) (m:oB w) (h1:l.head?≠some ("say":Str)) (h2:l.head?≠some ("hear":Str)):∃f,bT [Wo r ws p]=some (bw w,[some (Wo r ws f)])/\At ws f l:=by
 cases w with
 |none=>exact⟨p,sv (At.not h h1) (At.not h h2) h.2,h⟩
 |some w =>
  obtain⟨k,w⟩:=w;refine⟨p+2,?_,At.skip h⟩;obtain⟨hk,j⟩:=m;rcases hk with rfl|rfl
  . exact qt h.1 j
  . exact pN h.1 j
def B7 (h:At ws p (j4 "do" ds++l)) (hk:l.head? ≠ some ("do":Str)) (s:∀ c∈ds,c.2.2.natAbs < 10 ^ 31) (q:ds.length<=900) (o) (δ) :
 ∃p2,qh OF bq0 (cI ak) (o::some (Wo r ws p)::δ)=some (.lst ((ds.map tri).map thD),o::some (Wo r ws p2)::δ)/\At ws p2 l:=by
 unfold j4 at h
 by_cases j:ds=[]
 . subst j;rw[if_pos rfl]at h;have e:=gQ (r:=r) (At.not h hk) h.2;exact⟨p,by simp[aa,bR,noo,imm,eN,e],h⟩
 . rw [if_neg j] at h;have e:=gM (r:=r) (At.head h);have h1:=At.next h;have t:=jZ (r:=r) (cs:=ds.map tri) (p:=p+1) (by simpa using j) h1.1 (fun c m=>by
    obtain⟨d,f,rfl⟩:=Zr.mp m;exact CP d (s d f)) (by simpa using q)
   refine⟨p+1+3*(ds.map tri).length,by simp[aa,bR,noo,imm,eN,e,lD,t],?_⟩
   have:=At.skip h1;rw[n9]at this;exact this
def C0(l):gb (jW l)=true:=by
 unfold jW;generalize (List.range 5).filter _=m
 induction m with
 |nil=>rfl
 |cons a m f=>rw[Zu,gb,f];rfl
def yq(l:Yg (Str×Str×Int)):gb (dR W bs l)=true:=by
 unfold dR;generalize l.filter _=m
 induction m with
 |nil=>rfl
 |cons a m f=>rw[Zu,gb,f];rfl
theorem w6{d}(h:At ws p (Al d))(ok:okDoor W (bnm bs) (rl.map (·.name)) d)(l:rl.length<=900)(f:rl≠[])(m:bs.length<=900)(y:W.length<=4)(hP:P.length<24)(hM:0<M.length) :
 jM [Do W bs M (R++[rl]) P,Wo r ws p]=some (.non,[some (Do W bs M (R++[rl]) (P++[(M.length-1,d)])),some (Wo r ws ws.length)]):=by
 have Z:([]:Yg Str).head?≠some ("do":Str):=by decide
 obtain⟨Y,Q,H⟩:=qs (r:=r) h.next.next (BO ok.word (by decide +kernel) (by decide +kernel) (oN (by decide +kernel) (cE (by decide +kernel) (cE (by decide +kernel) (by decide)))))
 obtain⟨X,O,G⟩:=Az (r:=r) H ok.word (oN (by decide +kernel) (cE (by decide +kernel) (cE (by decide +kernel) (by decide)))) (oN (by decide +kernel) (cE (by decide +kernel) (cE (by decide +kernel) (by decide))))
 obtain⟨p5,L,D⟩:=qF (r:=r) G (cE (by decide +kernel) (cE (by decide +kernel) (by decide))) ok.p0 ok.p1 (fun z=>by
  have:=ok.p0;unfold o9 at z;rw[Bool.or_eq_false_iff]at z;have:=of_decide_eq_false z.1
  lia)
 obtain⟨V,J,C⟩:=t4 (M:=M) (R:=R++[rl]) (P:=P) (r:=r) (bs:=bs) D (cE (by decide +kernel) (by decide)) ok.conds ok.lc m [some (.str d.start),some (.str d.goal),some (.bl d.weather),some (bw d.word),some (.int d.price),none,none,none,none,none]
 obtain⟨q,I,B⟩:=B7 (r:=r) C (by decide) (fun c x=>qR (ok.deeds c x)) ok.ld (some (Do W bs M (R++[rl]) P)) [some (.str d.start),some (.str d.goal),some (.bl d.weather),some (bw d.word),some (.int d.price),some (.seq (d.conds.map (bb W bs))),none,none,none,none]
 have pe:q=ws.length:=B.end_;subst pe;have U:=lG (W:=W) (M:=M) (bs:=bs) (R:=R) (P:=P) (r:=r) h.head ok.start l;have S:=lG (W:=W) (M:=M) (bs:=bs) (R:=R) (P:=P) (r:=r) h.next.head ok.goal l;have j:(0<rl.length)=True:=eq_true (List.length_pos_iff.mpr f);have u:((P.length:Int)<24)=True:=eq_true (by lia)
 have v:(P.length<=999)=True:=eq_true (by lia)
 have o:=A6 (W:=W) (M:=M) (bs:=bs) (R:=R++[rl]) (P:=P) (r:=r) (ws:=ws) (p:=ws.length) ok.deeds ok.ld y;have dd:=F8 (W:=W) (M:=M) (bs:=bs) (R:=R++[rl]) (P:=P) (r:=r) (ws:=ws) (p:=ws.length) ok.deeds ok.ld m;have s:noo (bw d.word)=true:=by cases d.word<;>rfl
 have t:((M.length:Int)-1)=((M.length-1:Nat):Int):=by lia
 simp! only[jM,mH,uY,bR,iV,dw,own,gb,Zl,u4,aZ,jm,fQ,ka,j,u6,u,bQ,bv,b7,cO,ik,U,S,g7,uH,eN,Q,O,jd,L,J,jy,I,CQ,n8,um,o,dd,C0,yq,kO,gP,jx,t,F6,s,B4,v];simp only[Do,tZ,Zw,Zu,Zv]
def M4:L2.atI [a,b] 0=some a:=rfl
def PM:L2.atI [a,b] 1=some b:=rfl
def Fn{a b}:∃c,bC (bw w) (.tup [.str a,.str b])=some (.bl c):=by
 cases w with
 |none=>exact⟨false,rfl⟩
 |some w=>exact⟨_,by simp[bC,bw,eqN,kd,nn,eq0,eqL,dM,toV];rfl⟩
def Fe (x y:Nat×ba):∃ b,iD [aV W bs x,aV W bs y]=some (.bl b,[some (aV W bs x),some (aV W bs y)]):=by
 cases f:y.2.word with
 |none=>exact⟨false,by simp[iD,lh,Dl.start,aE,ab,gz,imm,aV,qS,f,bw]⟩
 | some w =>
  cases l:(w.1==Str.ofString "say")with
  |false=>exact⟨false,by simp[iD,lh,Dl.start,aE,ab,gz,imm,aV,qS,f,bw,M4,l]⟩
  | true =>
   cases m:((y.1:Int)==(x.1:Int))with
   |true=>exact⟨false,by simp[iD,lh,Dl.start,aE,ab,gz,imm,aV,qS,f,bw,M4,l,oC,m]⟩
   |false =>
    obtain⟨c,e⟩:=Fn (w:=x.2.word) (a:="hear") (b:=w.2);have j:bw y.2.word=.tup [.str w.1,.str w.2]:=by rw[f];rfl
    exact⟨c,by simp[iD,lh,Dl.start,aE,ab,gz,imm,aV,qS,j,M4,PM,l,oC,m,e]⟩
theorem qp{n}{g}{fc}{felt}{ι}:∀{ds},(∀d∈ds,∃f b,g (sh d) ι=some f/\fc f=some b/\clr n f=ι/\∃j,felt f=some (.tin,j)/\clr n j=ι)->∃m,m<=ds.length/\bh n g fc felt ds ι=some (List.replicate m .tin,ι)
 |[],_=>⟨0,ZM 0,rfl⟩
 |d::ds,h=>by
  obtain⟨f,b,h1,h2,r,j,q,p⟩:=h d (Zo ..);obtain⟨m,l,e⟩:=qp fun x o=>h x (Zp _ o)
  cases b with
  |false=>exact⟨m,Nat.le_succ_of_le l,by simp[bh,h1,h2,r,e]⟩
  |true=>exact⟨m+1,Nat.succ_le_succ l,by simp only[bh,h1,h2,q,p,e,Zc,Z6,ZU]⟩
def GL(n:Nat):(List.replicate n D.tin).all wt=true:=by rw[List.all_replicate];cases n<;>rfl
def rZ{ds}{k:Nat}{d:D}(h:ds[k]?=some d):L2.atI ds (k:Int)=some d:=L2.atI_nat h
theorem Fz:∀{l}{i:Nat}{d:D},d∈enF i l->∃(k:Nat)(e:D),d=.tup [.int (k:Int),e]/\e∈l
 |[],_,_,h=>by cases h
 |x::l,i,d,h=>by
  rcases Zt.mp (h)with rfl|h
  . exact⟨i,x,rfl,Zo ..⟩
  . obtain⟨k,e,h1,h2⟩:=Fz h;exact⟨k,e,h1,Zp _ h2⟩
theorem yf:∀(l:Yg D) i,(enF i l).length=l.length
 |[],_=>rfl
 |x::l,i=>by show(enF (i+1) l).length+1=_;rw[yf l (i+1)];rfl
abbrev dsQ(W:List Str)(bs:List bG)(P:List (Nat×ba)):D:=.seq (P.map (aV W bs))
def Ak{i}(hi:i<P.length):(P.map (aV W bs))[i]?=some (aV W bs P[i]):=by rw[ZK,Zx hi];rfl
def tX(h:δ[0]?=some (some (dsQ W bs P))):(vI (aT rD (af (ab 0) ag))) δ=some (.int P.length,δ):=by simp[ab,imm,h]
theorem GB (p:P.length<=24):∃m,m<=P.length/\aA (dH (vI (aT rD (af (ab 0) ag)))) 1 [0] (gN 0) (fT (f2 x8 (a9 [az] "word" (f2 gIx (ab 1) (ab 0))) (fC .non))) (sk (bY (ae (aa 0) ak))) [some (dsQ W bs P),none,none,none]=some (.lst (List.replicate m .tin),[some (dsQ W bs P),none,none,none]):=by
 obtain⟨j,f,l⟩:=qp (n:=1) (g:=gN 0) (fc:=fT (f2 x8 (a9 [az] "word" (f2 gIx (ab 1) (ab 0))) (fC .non))) (felt:=sk (bY (ae (aa 0) ak))) (ι:=[none,some (dsQ W bs P)]) (ds:=(List.range P.length).map fun (i:Nat)=>D.int (i:Int)) (fun d o=>by
  obtain⟨i,hi,rfl⟩:=Zr.mp o;have hi:=List.mem_range.mp hi;refine⟨[some (.int i),some (dsQ W bs P)],gz (bw P[i].2.word),rfl,?_,rfl,[some (.int i),some (dsQ W bs P)],?_,rfl⟩
  . simp[ab,rZ (Ak hi),aV,qS]
  . simp[sk,vF,aa,noo,q9,List.cons_ne_nil])
 rw[Zl,List.length_range]at f;refine⟨j,f,?_⟩;rw[bJ (js:=[0]) (δ1:=[some (dsQ W bs P),none,none,none]) (δc:=[some (dsQ W bs P),none,none,none]) (cs:=[dsQ W bs P]) (xx (n:=P.length) (by lia) _ _ (tX rfl)) rfl l (by rw[List.length_replicate];lia)]
 rfl
theorem GA(t:P.length<=24)(n k:Nat)(x:Nat×ba)(s:n<=600):∃m,m<=24/\uB 1 aC OD [some (dsQ W bs P),some (.lst (List.replicate n .tin)),some (.int k),some (aV W bs x)]=some (.nx [some (dsQ W bs P),some (.lst (List.replicate (n+m) .tin)),some (.int k),some (aV W bs x)]):=by
 obtain⟨m,o,l⟩:=qp (n:=1) (g:=gN 0) (fc:=fT (aS iD (af (f2 gIx (ab 2) (ab 0)) (af (ab 1) ag)))) (felt:=sk (bY (ae (aa 3) (ae (aa 0) ak)))) (ι:=[none,some (aV W bs x),some (dsQ W bs P),some (.int k)]) (ds:=(List.range P.length).map fun(i:Nat)=>D.int (i:Int)) (fun d p=>by
  obtain⟨i,hi,rfl⟩:=Zr.mp p;have hi:=List.mem_range.mp hi;obtain⟨b,q⟩:=Fe (W:=W) (bs:=bs) P[i] x;refine⟨[some (.int i),some (aV W bs x),some (dsQ W bs P),some (.int k)],b,rfl,?_,rfl,[some (.int i),some (aV W bs x),some (dsQ W bs P),some (.int k)],?_,rfl⟩
  . simp[ab,shs,rZ (Ak hi),iZ,q]
  . simp[sk,vF,aa,noo,q9,List.cons_ne_nil])
 rw[Zl,List.length_range]at o;refine⟨m,by lia,?_⟩
 have j:noo (aV W bs x)=true:=rfl;have r:=bJ (js:=[3,0,2]) (δ:=[some (dsQ W bs P),none,some (.int k),some (aV W bs x)]) (δ1:=[some (dsQ W bs P),none,some (.int k),some (aV W bs x)]) (δc:=[some (dsQ W bs P),none,some (.int k),some (aV W bs x)]) (cs:=[aV W bs x,dsQ W bs P,.int k]) (xx (n:=P.length) (by lia) _ _ (tX rfl)) (by simp[takes,aa,noo,j]) l (by rw[List.length_replicate];lia)
 have f:(n+m<=1000)=True:=eq_true (by lia)
 simp[uB,aC,atP,fF,bE,r,List.length_replicate,List.replicate_append_replicate,f]
theorem GJ{s}{Q}{f:Nat×ba->D}(v:∀x,sh (f x)=f x)(u:∀(n k:Nat)(x:Nat×ba),n<=600->∃m,m<=24/\s [some Q,some (.lst (List.replicate n .tin)),some (.int k),some (f x)]=some (.nx [some Q,some (.lst (List.replicate (n+m) .tin)),some (.int k),some (f x)])):∀L n(o q:Ye D),(∀d∈L,∃(k:Nat)(x:Nat×ba),d=.tup [.int k,f x])->n+24*L.length<=600->∃m o' j,m<=n+24*L.length/\cL (fO [2,3]) s L [some Q,some (.lst (List.replicate n .tin)),o,q]=some (.nx [some Q,some (.lst (List.replicate m .tin)),o',j]):=by
 intro L
 induction L with
 |nil=>intro n o q _ h;exact⟨n,o,q,Nat.le_add_right _ _,rfl⟩
 |cons d L t =>
  intro n o q l h;rw[Zm]at h;obtain⟨k,x,rfl⟩:=l d (Zo ..);obtain⟨r,h1,h2⟩:=u n k x (by lia)
  obtain⟨m,o',j,B,y⟩:=t (n+r) (some (.int k)) (some (f x)) (fun e he=>l e (Zp _ he)) (by lia)
  refine⟨m,o',j,by rw[Zm];lia,?_⟩
  have p:sh (.tup [.int k,f x])=.tup [.int k,f x]:=by simp only[sh,shs,v]
  have z:fO [2,3] (.tup [.int k,f x]) [some Q,some (.lst (List.replicate n .tin)),o,q]=some [some Q,some (.lst (List.replicate n .tin)),some (.int k),some (f x)]:=rfl;simp only[cL,p,z,Zc,h2,y]
theorem JD(j:P.length<=24):∃n,n<=600/\jb [dsQ W bs P]=some (.lst (List.replicate n .tin),[some (dsQ W bs P)]):=by
 obtain⟨f,q,t⟩:=GB j;obtain⟨m,o',o,h1,h2⟩:=GJ iZ (fun n k x p=>GA j n k x p) (enF 0 (P.map (aV W bs))) f none none (fun d r=>by obtain⟨k,e,rfl,he⟩:=Fz r;obtain⟨x,_,rfl⟩:=Zr.mp he;exact⟨k,x,rfl⟩) (by rw[yf,Zl];lia)
 rw[yf,Zl]at h1;refine⟨m,by lia,?_⟩
 have st:uS [.lst (List.replicate m .tin)]=some (.lst (List.replicate m .tin)):=by simp only[uS,pR,Zc,GL,Z6]
 have s:sN (aa 0) [some (dsQ W bs P),some (.lst (List.replicate f .tin)),none,none]=some (enF 0 (P.map (aV W bs)),[some (dsQ W bs P),some (.lst (List.replicate f .tin)),none,none]):=by simp[sN,aa,sh,noo,cn]
 have fo:=iL s h2;have l:lq [some (dsQ W bs P),none,none,none]=some (.rt (.lst (List.replicate m .tin)) [some (dsQ W bs P),some (.lst (List.replicate m .tin)),o',o]):=by unfold lq;rw[bM,pv,t,Zc,dC,bM];show vH _ (gC _ _ _ [some (dsQ W bs P),some (.lst (List.replicate f .tin)),none,none])=_;rw[fo,dC,dQ];simp[qm,ab,st]
 unfold jb;rw[show Dl.start 4 [dsQ W bs P]=[some (dsQ W bs P),none,none,none]from rfl,l]
 rfl
end
variable {t:Ye D} {gg:Yg D->Ye D}
section
variable {bs:Yg bG}
noncomputable abbrev NN:List Str:=["text","watch_names","box_tuples","machine_names","own_rooms","own_doors","own_acts"]
abbrev rmp(W:List Str)(bs:List bG)(c:a4):D:=.tup [.str c.name,bg W bs c]
theorem v7:∀(rl:Yg a4),oA (rl.map (rmp W bs))=some (rl.map fun c=>(c.name,bg W bs c))
 |[]=>rfl
 |c::rl=>by rw[Zu,oA,v7 rl];rfl
theorem MH (h:rl.length<=900) (j:(rl.map (·.name)).Nodup) (δ) (m:aa 0 δ=some (.seq (rl.map (bg W bs)),δ)):qj (aA (a6 (aa 0)) 1 [] (gN 0) (fun _=>some true) (bY (ae (vI (a9 [aO] "name" (ab 0))) (ae (aa 0) ak)))) δ=some (.dv (rl.map (bg W bs)),δ):=by
 have e:=bJ (js:=[]) (δc:=δ) (src:=a6 (aa 0)) (n:=1) (g:=gN 0) (fc:=fun _=>some true) (felt:=bY (ae (vI (a9 [aO] "name" (ab 0))) (ae (aa 0) ak))) (ds:=rl.map (bg W bs)) (xs:=rl.map (rmp W bs)) (ιe:=[none]) (by
  unfold a6;rw[m];simp only[sh,Zc,lV]) rfl (by
  have:=cZ (n:=1) (g:=gN 0) (fc:=fun _=>some true) (felt:=bY (ae (vI (a9 [aO] "name" (ab 0))) (ae (aa 0) ak))) (ι:=[none]) (f:=fun d=>match d with|.ob C n (x::l)=>.tup [x,.ob C n (x::l)]|_=>.non) (ds:=rl.map (bg W bs)) fun d o=>by
   obtain⟨c,p,rfl⟩:=Zr.mp o;refine⟨[some (bg W bs c)],by rw[iT];rfl,rfl,[some (bg W bs c)],?_,rfl⟩
   simp[ab,aa,noo,imm,bg,Dk]
  rw[List.map_map]at this;exact this) (by rw[Zl];lia)
 unfold qj;rw[e];simp only[Zc,sh,show shs (rl.map (rmp W bs))=rl.map (rmp W bs)from be (fun c=>by rw[sh,shs,shs,shs,iT];rfl) rl,v7,List.map_map]
 rw[if_pos (by exact j)]
 rfl
abbrev rmD(W:List Str)(bs:List bG)(l:List a4):D:=.dv (l.map (bg W bs))
abbrev JE(t:Str)(W:List Str)(bs:List bG)(M:List Str)(R:List (List a4))(P:List (Nat×ba)):D:=.oo a5 NN [.str t,.seq (W.map D.str),.seq (bs.map aW),.seq (M.map D.str),.lst (R.map (rmD W bs)),.seq (P.map (aV W bs)),.dct]
theorem AX (h:∀rl∈R,rl.length<=900/\(rl.map (·.name)).Nodup) (p:R.length<=900) (δ) (m:aa 5 δ=some (.seq (R.map fun l=>.seq (l.map (bg W bs))),δ)):aA (a6 (aa 5)) 1 [] (gN 0) (fun _=>some true) (qj (aA (a6 (aa 0)) 1 [] (gN 0) (fun _=>some true) (bY (ae (vI (a9 [aO] "name" (ab 0))) (ae (aa 0) ak))))) δ=some (.lst (R.map (rmD W bs)),δ):=by
 have:=cZ (n:=1) (g:=gN 0) (fc:=fun _=>some true) (felt:=qj (aA (a6 (aa 0)) 1 [] (gN 0) (fun _=>some true) (bY (ae (vI (a9 [aO] "name" (ab 0))) (ae (aa 0) ak))))) (ι:=[none]) (f:=fun d=>match d with|.seq l=>.dv l|_=>.non) (ds:=R.map fun l=>.seq (l.map (bg W bs))) fun d o=>by
  obtain⟨l,j,rfl⟩:=Zr.mp o;refine⟨[some (.seq (l.map (bg W bs)))],by rw[Di];rfl,rfl,[some (.seq (l.map (bg W bs)))],?_,rfl⟩
  exact MH (h l j).1 (h l j).2 _ (by simp[aa,noo])
 rw [List.map_map] at this;rw [bJ (δc:=δ) (by
     unfold a6;rw[m];simp only[sh,Zc,gT]) rfl this (by rw[Zl];lia)]
 rfl
def GI(n):shs (List.replicate n .tin)=List.replicate n .tin:=by rw[pU,List.map_replicate];rfl
def AD{G}{l}{fin}{i}(f:aa i δ=some (a,δ))(j:G [a]=some (.lst l,fin))(st:shs l=l):a6 (aj [none] G (ae (aa i) ak)) δ=some (l,ij [none] fin δ):=by unfold a6;rw[cA,iW,f];simp only[fG,Zc,j,sh,st]
theorem AL{n}(l:n<=600)(f:src δ=some (List.replicate n .tin,δ)):aA src 1 [] (gN 0) (fun _=>some true) (bY (ae (aa 0) (ae (vI (fC (.bl true))) ak))) δ=some (.lst ((List.replicate n D.tin).map fun d=>.tup [d,.bl true]),δ):=by
 rw[bJ (xs:=(List.replicate n D.tin).map fun d=>.tup [d,.bl true]) f rfl (cZ fun d j=>by rw[List.eq_of_mem_replicate j];exact⟨[some .tin],rfl,rfl,[some .tin],rfl,rfl⟩) (by rw[Zl,List.length_replicate];lia)]
 rfl
def GK(n):BU [.lst ((List.replicate n D.tin).map fun d=>.tup [d,.bl true])]=some .dct:=by unfold BU;simp only[pR,Zc];rw[if_pos];rw[List.all_eq_true];intro d f;obtain⟨e,he,rfl⟩:=Zr.mp f;rw[List.eq_of_mem_replicate he];rfl
def Gi{w}{δ'}{d r}(h:w (shO δ)=some (d,δ'))(g:gg [d]=some r):aT gg (af (gq w) ag) δ=some r:=by rw[cR,fH,pz,h,Zc,Zc,gZ,Zc,Zc];exact g
def GC(l:P.length<=24)(δ) (f:aa 6 (shO δ)=some (dsQ W bs P,shO δ)):aT BU (af (gq (aA (a6 (aj [none] jb (ae (aa 6) ak))) 1 [] (gN 0) (fun _=>some true) (bY (ae (aa 0) (ae (vI (fC (.bl true))) ak))))) ag) δ=some .dct:=by obtain⟨n,j,m⟩:=JD l;have src:=AD f m (GI n);have e:=AL j src;exact Gi e (GK n)
def mq{C Cs}{x:Str}{f:FM}{d}{δ1:DS}{xs ds}(l:f δ=some (d,δ1))(h:δ1[0]?=some (some (.oo C xs ds)))(m:C∈Cs)(j:Nat.ble ds.length 99=true):cz 0 Cs x aC f δ=some (.nx (δ1.set 0 (some (.oo C (oq x xs) (putD x d xs ds))))):=Mx (p:=aC) l h m (Nat.le_of_ble_eq_true j)
theorem EK{t}(h:∀rl∈R,rl.length<=900/\(rl.map (·.name)).Nodup)(f:R.length<=900)(j:P.length<=24):(ig [.oo a5 [] [],.str t,.seq (W.map D.str),.seq (bs.map aW),.seq (M.map D.str),.seq (R.map fun l=>.seq (l.map (bg W bs))),dsQ W bs P]).map (fun q=>(q.1,q.2.head?))=some (.non,some (some (JE t W bs M R P))) :=
 (Z8 (fun o=>(aE 7 o).map fun q=>(q.1,q.2.head?)) ((cJ (mq rfl rfl (by simp) rfl)).trans ((cJ (mq rfl rfl (by simp) (by kernel_rfl))).trans ((cJ (mq rfl rfl (by simp) (by kernel_rfl))).trans ((cJ (mq rfl rfl (by simp) (by kernel_rfl))).trans ((cJ (mq (AX h f _ rfl) rfl (by simp) (by kernel_rfl))).trans ((cJ (mq rfl rfl (by simp) (by kernel_rfl))).trans (mq (by rw[db,GC j _ ((show aa 6 (shO _)=some (sh (dsQ W bs P),shO _)from rfl).trans (by rw[sh,cn]))];rfl) rfl (by simp) (by kernel_rfl))))))))).trans (by kernel_rfl)
end
inductive sL where
 |watch (n:Str)
 |box (b:bG)
 |mach (n:Str)
 |room (r:a4)
 |door (d:ba)
noncomputable def rowW:sL->List Str
 |.watch n=>["watch",n]
 |.box b=>["box",b.1,num b.2.1,num b.2.2.1,num b.2.2.2]
 |.mach n=>["machine",n]
 |.room r=>"room" :: y0 r
 |.door d=>"door" :: Al d
structure Dr where
 W:List Str
 bs:List bG
 M:List Str
 R:List (List a4)
 P:List (Nat×ba)
abbrev Dr.d(s:Dr):D:=Do s.W s.bs s.M s.R s.P
inductive Row:Dr->sL->Dr->Prop
 |watch {W:List Str} {n:Str} (h1:aJ n) (h2:n∉W) (h3:W.length<4):Row ⟨W,[],[],[],[]⟩ (.watch n) ⟨W++[n],[],[],[],[]⟩
 |box {W:List Str} {bs:List bG} {b:bG} (h1:aJ b.1) (h2:b.1∉W++bnm bs) (h3:bs.length<3) (h4:W.length<=4) (h5:-20<=b.2.1) (h6:b.2.1<=b.2.2.2) (h7:b.2.2.2<=b.2.2.1) (h8:b.2.2.1<=20):Row ⟨W,bs,[],[],[]⟩ (.box b) ⟨W,bs++[b],[],[],[]⟩
 |mach {W M:List Str} {bs:List bG} {R:List (List a4)} {P:List (Nat×ba)} {n:Str} (h1:aJ n) (h2:n∉W++bnm bs++M) (h3:W.length<=4) (h4:bs.length<=3) (h5:M.length<4) (h6:R.length=M.length) (h7:M=[]\/∃R0 rl,R=R0++[rl]/\rl≠[]) (h8:P.length<=100):Row ⟨W,bs,M,R,P⟩ (.mach n) ⟨W,bs,M++[n],R++[[]],P⟩
 |room {W M:List Str} {bs:List bG} {R:List (List a4)} {P:List (Nat×ba)} {rl:List a4} {r:a4} (h1:okRoom W r) (h2:r.name∉rl.map (·.name)) (h3:rl.length<6) (h4:0<M.length) (h5:bs.length<=3) (h6:P=[]\/∃P0 x,P=P0++[x]/\x.1+1<M.length):Row ⟨W,bs,M,R++[rl],P⟩ (.room r) ⟨W,bs,M,R++[rl++[r]],P⟩
 |door {W M:List Str} {bs:List bG} {R:List (List a4)} {P:List (Nat×ba)} {rl:List a4} {d:ba} (h1:okDoor W (bnm bs) (rl.map (·.name)) d) (h2:rl.length<=6) (h3:rl≠[]) (h4:bs.length<=3) (h5:W.length<=4) (h6:P.length<24) (h7:0<M.length):Row ⟨W,bs,M,R++[rl],P⟩ (.door d) ⟨W,bs,M,R++[rl],P++[(M.length-1,d)]⟩
inductive Rows:Dr->List sL->Dr->Prop
 |nil (s:Dr):Rows s [] s
 |cons {s s1 s2:Dr} {x:sL} {l:List sL} (h:Row s x s1) (t:Rows s1 l s2):Rows s (x::l) s2
def Rows.append{s s1 s2}{l m}(a:Rows s l s1)(b:Rows s1 m s2):Rows s (l++m) s2:=by
 induction a with
 |nil s=>exact b
 |cons h t f=>exact .cons h (f b)
def at0(h:ws=l):At ws 0 l:=by subst h;exact⟨rfl,Nat.zero_le _⟩
def ge{s s':Dr}{k}{G}(j:ws[0]?=some k)(e:G [s.d,Wo r ws 1]=some (.non,[some s'.d,some (Wo r ws ws.length)]))(f:∀δ,δ=[some s.d,some (Wo r ws 1),some (.str k)]->MR δ=bI (aj [some 0,some 1] G (ae (aa 0) (ae (aa 1) ak))) δ):ja [s.d,Wo r ws 0]=some (.non,[some s'.d,some (Wo r ws ws.length)]):=by have m:=mO (r:=r) j;have l:=BW (r:=r) (ws:=ws);have f:=f _ rfl;simp! only[ja,oY,bR,n5,m,Nat.zero_add,f];simp[ab,aa,sh,shs,noo,imm,e,CF,l]
theorem yJ{s s':Dr}{x}(h:Row s x s')(r):ja [s.d,Wo r (rowW x) 0]=some (.non,[some s'.d,some (Wo r (rowW x) (rowW x).length)]):=by
 cases h with
 |watch h1 h2 j =>
  refine ge rfl (vz rfl h1 h2 j) fun δ f=>?_
  subst f;rw[MR,iX,show fT (f2 bC (ab 2) (fC (.str "watch"))) _=some true from by simp[ab,Zz]]
  rfl
 |box h1 h2 j o m l p t =>
  refine ge rfl (yK rfl h1 h2 j o m l p t) fun δ f=>?_
  subst f;have n1:(Str.ofString "box" == Str.ofString "watch")=false:=by decide +kernel
  simp[ab,n1,Zz]
 |mach h1 h2 j o m l p t =>
  refine ge rfl (sf rfl h1 h2 j o m l p t) fun δ f=>?_
  subst f;have n1:(Str.ofString "machine" == Str.ofString "watch")=false:=by decide +kernel
  have n2:(Str.ofString "machine" == Str.ofString "box")=false:=by decide +kernel
  simp[ab,n1,n2,Zz]
 |room h1 h2 j o m l =>
  refine ge rfl (w4 (At.next (at0 rfl)) h1 h2 j o (ZY m (by decide)) l) fun δ f=>?_
  subst f;have n1:(Str.ofString "room" == Str.ofString "watch")=false:=by decide +kernel
  have n2:(Str.ofString "room" == Str.ofString "box")=false:=by decide +kernel
  have q:(Str.ofString "room" == Str.ofString "machine")=false:=by decide +kernel
  simp[ab,n1,n2,q,Zz]
 |door h1 h2 j o m l p =>
  refine ge rfl (w6 (At.next (at0 rfl)) h1 (by lia) j (ZY o (by decide)) m l p) fun δ f=>?_
  subst f;have n1:(Str.ofString "door" == Str.ofString "watch")=false:=by decide +kernel
  have n2:(Str.ofString "door" == Str.ofString "box")=false:=by decide +kernel
  have q:(Str.ofString "door" == Str.ofString "machine")=false:=by decide +kernel
  have u:(Str.ofString "door" == Str.ofString "room")=false:=by decide +kernel
  simp[ab,aa,sh,shs,noo,imm,n1,n2,q,u,Zz,bQ,bv]
def bj(x:sL):Str:=Str.join ⟨#[32]⟩ (rowW x)
def b9(l:List sL):Str:=Str.join ⟨#[10]⟩ (l.map bj++[Str.empty])
def G6(x):rowW x≠[]:=by cases x<;>exact List.cons_ne_nil _ _
theorem xf:fV [.oo ao [] [],.int r,.lst (ws.map D.str)]=some (.non,[some (Wo r ws 0),some (.int r),none]):=by kernel_rfl
theorem yk:fW [.oo aq [] []]=some (.non,[some (Do [] [] [] [] [])]):=by kernel_rfl
structure qQ(l:List sL):Prop where
 free:∀x∈l,∀w∈rowW x,Fr 32 w/\Fr 10 w
 len:∀x∈l,(bj x).length<=100000/\(rowW x).length<=100000
 many:l.length<=900
 whole:(b9 l).length<=1000000
def AW{l}(ok:qQ l){x}(h:x∈l):Txt.split (bj x) ⟨#[32]⟩=rowW x:=qy (G6 x) fun w m=>(ok.free x h w m).1
theorem zI{c}(f:Fr c s):∀{l},(∀w∈l,Fr c w)->Fr c (Str.join s l)
 |[],_=>fun z=>by cases z
 |[x],h=>h x (Zo ..)
 |x::y::r,h=>by rw[aM];exact(h x (Zo ..)).app (f.app (zI f fun w m=>h w (Zp _ m)))
def xj{l}(ok:qQ l):Txt.split (b9 l) ⟨#[10]⟩=l.map bj++[Str.empty]:=qy (by simp) fun w m=>by
 rcases Zs.mp m with m|m
 . obtain⟨x,f,rfl⟩:=Zr.mp m;exact zI (by unfold Fr;decide) fun w m=>(ok.free x f w m).2
 . rw[Zq.mp m];exact fun z=>by cases z
def sW{i}{c}(f:Txt.split i ⟨#[c]⟩=ws)(h1:i.length<=1000000)(h2:ws.length<=100000){fo}(j:fo δ=some (.str i)){s}(l:Str.ofString s=⟨#[c]⟩):lT fo (af (fC (.str s)) ag) δ=some (.lst (ws.map D.str),δ):=by unfold lT;rw[j,fH,e_C,gZ];simp only[Zc];rw[l,f,if_pos ⟨rfl,ZY h1 (by decide),sz h2⟩]
def AV{l}(ok:qQ l)(t) (rs):∀{m}{s s'}{k}{o q},(∀x∈m,x∈l)->Rows s m s'->∃o' j,cL (fO [3,4]) Jw (enF k ((m.map bj).map D.str)) [some t,some rs,some s.d,o,q]=some (.nx [some t,some rs,some s'.d,o',j]):=by
 intro m
 induction m with
 |nil=>intro s s' k o q _ h;cases h;exact⟨o,q,rfl⟩
 | cons x m u =>
  intro s s' k o q p h;cases h with
  |@cons _ G _ _ _ z t' =>
   obtain⟨o',j,e⟩:=u (fun y v=>p y (Zp _ v)) t'
   refine⟨o',j,?_⟩;have f:=p x (Zo ..);have sp:=sW (AW ok f) (ZY (ok.len x f).1 (by decide)) (ok.len x f).2 (fo:=ab 4) (δ:=[some t,some rs,none,some (.int k),some (.str (bj x))]) rfl fX
   have C:=yJ z (k:Int);have r:sh (.tup [.int (k:Int),.str (bj x)])=.tup [.int (k:Int),.str (bj x)]:=by simp only[Jw,sh,shs]
   have B:fO [3,4] (.tup [.int (k:Int),.str (bj x)]) [some t,some rs,some s.d,o,q]=some [some t,some rs,some s.d,some (.int k),some (.str (bj x))]:=rfl;show cL _ _ (.tup [.int (k:Int),.str (bj x)]::enF (k+1) ((m.map bj).map D.str)) _=_;simp! only[Jw,cL,r,B,uY,sp,xf,C];exact e
def tO(l:Yg Str):iK (l.map D.str)=true:=rg l
theorem Gc:u8 ((l++[x]).map D.str) none (some (-1))=l.map D.str:=by
 show(((l++[x]).map D.str).drop 0).take ((if(-1:Int)<0 then((-1:Int)+(((l++[x]).map D.str).length:Int)).toNat else min ((-1:Int).toNat) ((l++[x]).map D.str).length)-0)=_
 rw[if_pos (by decide)]
 simp only[Zl,Zk,Zm,Zn,List.drop_zero,Nat.sub_zero];rw[show((-1:Int)+((l.length+(0+1):Nat):Int)).toNat=l.length by lia,Zw,List.take_append_of_le_length (by simp),<- Zl,List.take_length]
def tS:Str.ofString "" = Str.empty:=by decide +kernel
theorem Ha{l}{s}(ok:qQ l)(h:Rows ⟨[],[],[],[],[]⟩ l s)(v:∃t rl,s.R=t++[rl]/\rl≠[])(y:∀rl∈s.R,rl.length<=900/\(rl.map (·.name)).Nodup)(q:s.R.length<=900)(z:s.P.length<=24):∃fin,hV [.str (b9 l)]=some (JE (b9 l) s.W s.bs s.M s.R s.P,fin):=by
 obtain⟨t,rl,r,j⟩:=v;have sp:=sW (xj ok) ok.whole (by have:=ok.many;simp;lia) (fo:=ab 0) (δ:=[some (.str (b9 l)),none,none,none,none]) rfl Ky
 obtain⟨o',f,u⟩:=AV ok (.str (b9 l)) (.seq ((l.map bj++[Str.empty]).map D.str)) (fun x m=>m) h
 have src:n6 (vSl (ab 1) faN (faS (f1 fP (fC (.int 1))))) [some (.str (b9 l)),some (.seq ((l.map bj++[Str.empty]).map D.str)),some (Do [] [] [] [] []),none,none]=some (enF 1 ((l.map bj).map D.str),[some (.str (b9 l)),some (.seq ((l.map bj++[Str.empty]).map D.str)),some (Do [] [] [] [] []),none,none]):=by simp! only[n6,vSl,fSl,u0,asL,faN,faS,fP,asI,Int.reduceNeg,Gc,me,tO]
 have st:cX aq "has_room" bD (ab 2) ag [some (.str (b9 l)),some (.seq ((l.map bj++[Str.empty]).map D.str)),some s.d,o',f]=some (.bl true):=by have p:(0<rl.length)=True:=eq_true (List.length_pos_iff.mpr j);unfold Dr.d;rw[r];simp! only[u4,aZ,jm,fQ,ka,p]
 have B:OC [some (.str (b9 l)),some (.seq ((l.map bj++[Str.empty]).map D.str)),some s.d,o',f]=some ([.str (b9 l),.seq (s.W.map D.str),.seq (s.bs.map aW),.seq (s.M.map D.str),.seq (s.R.map fun l=>.seq (l.map (bg s.W s.bs))),dsQ s.W s.bs s.P],[some (.str (b9 l)),some (.seq ((l.map bj++[Str.empty]).map D.str)),some (Db s.W s.bs s.M s.R s.P),o',f]):=by simp[aa,sh,shs,noo,jf,cD,aZ,jm,fQ,gT,cn,gG,Ap,jx,qc,u6]
 exact iS ((cJ (gU rfl)).trans ((cJ (δ1:=[some (.str (b9 l)),some (.seq ((l.map bj++[Str.empty]).map D.str)),none,none,none]) ((xr sp).trans (by rw[sh,bH];rfl))).trans ((cJ (s8 (zC (o:=Do [] [] [] [] []) (fG ..) (by rw[yk];rfl) (by simp)))).trans ((cJ (iL src u)).trans ((cJ (gU (uo (sw (d:=.str "") (by simp only[dD,u0,e_C,ab,iu,Zc,Zd,Ze,fP,Int.reduceNeg,kj,tS]) rfl rfl) (o8 st)))).trans (vW (zC B (EK y q z) (by simp))))))))
noncomputable abbrev pu(p:Int×Int):D:=.lst [.int p.1,.int p.2]
def OkP(p:Int×Int):Prop:=0<=p.1/\0<=p.2/\p.2<2147483629
def pH{x}(h:x.natAbs<2^200):Bd x:=ZC h (Nat.pow_le_pow_right (by decide) (by decide))
def Kh:L2.atI [a,b] 0=some a:=rfl
def OO:L2.atI [a,b] 1=some b:=rfl
def Pm:L2.ixN 2 0=some 0:=rfl
def Pl:L2.ixN 2 1=some 1:=rfl
theorem aP{p}{m}(x:OkP p)(h1:1<=m)(h2:m<=10^30+1):∃r s,aK [pu p,.int m]=some (.int r,[some (pu s),some (.int m)])/\OkP s/\0<=r/\r<m:=by
 obtain⟨a,b⟩:=p;obtain⟨t,y,q⟩:=x;have G:Bd m:=pH (by lia)
 have D:pM a m:=⟨by lia,G⟩
 have f:(0:Int)<m:=by lia
 by_cases h:a>0
 . refine ⟨a % m,(a / m,b),?_,⟨Int.ediv_nonneg t (by lia),y,q⟩,Int.emod_nonneg _ (by lia),Int.emod_lt_of_pos _ f⟩
   have h':=eq_true h;simp[aK,iw,Dl.start,aE,ab,uA,aC,atP,fF,sh,imm,ZU,Kh,h',Pm,mB D,mB (C:=fun _ j=>0<j) (a:=a) f]
 . have h':(a > 0)=False:=eq_false h;have o:kM b 48271:=⟨pH (by lia),pH (by decide)⟩
   have v:0<=(b*48271+9973)%2147483629:=Int.emod_nonneg _ (by decide)
   have u:(b*48271+9973)%2147483629<2147483629:=Int.emod_lt_of_pos _ (by decide)
   generalize hB:(b*48271+9973)%2147483629=B at v u;have l:kM B B:=⟨pH (by lia),pH (by lia)⟩
   have z:pM (B*B%2147483587) 7:=⟨by decide,pH (by decide)⟩
   refine⟨B*B%2147483587/7%m,(a,B),?_,⟨t,v,u⟩,Int.emod_nonneg _ (by lia),Int.emod_lt_of_pos _ f⟩
   simp[aK,iw,Dl.start,aE,ab,uA,aC,atP,fF,sh,imm,ZU,Kh,OO,h',Pl,mB o,mB (C:=fun _ j=>0<j) (a:=b*48271+9973) (c:=2147483629) (by decide),hB,mB l,mB (C:=fun _ j=>0<j) (a:=B*B) (c:=2147483587) (by decide),mB z,mB (C:=fun _ j=>0<j) (a:=B*B%2147483587/7) f]
instance(w:Str):Decidable (aJ w):=by unfold aJ;exact inferInstance
def BG(w:Str):Prop:=∀c∈w.cps.toList,97<=c/\c<=122
noncomputable abbrev ABC:Str:="abcdefghijklmnopqrstuvwxyz"
theorem BF(j:0<=i)(h1:i<26):∃c,kc (.str ABC) (.int i)=some (.str ⟨#[c]⟩)/\97<=c/\c<=122:=by
 have f:∀k:Fin 26,ABC.cps.toList[k.val]?=some (97+k.val):=by decide +kernel
 obtain⟨k,rfl⟩:=ZZ j;have hk:k<26:=by lia
 refine⟨97+k,?_,by lia,by lia⟩
 show(if ABC.length<=sizeLine then(L2.atI ABC.cps.toList (k:Int)).map (fun c=>D.str ⟨#[c]⟩)else none)=_
 rw[if_pos (by decide +kernel),L2.atI_nat (f ⟨k,hk⟩)]
 rfl
def wm{w}{c}(h:BG w)(j:97<=c/\c<=122):BG (w++(⟨#[c]⟩:Str)):=by
 intro x f;rw[b8]at f;rcases Zs.mp f with h1|h1
 . exact h x h1
 . rw[Zq.mp h1];exact j
def iI{n}(h:n<=1000){f}{δ'}(j:f δ=some (.int n,δ')):dH f δ=some ((List.range n).map fun(i:Nat)=>D.int (i:Int),δ'):=by rw[Dh,j,Zc];exact y8 JP (JQ h)
abbrev lnB:SQ:=aB 2 OE
theorem uK(t):∀L w p o,BG w->OkP p->w.length+L.length<=8->∃f l o',cL (gN 3) lnB L [some (pu p),some t,some (.str w),o,none]=some (.nx [some (pu l),some t,some (.str f),o',none])/\f.length=w.length+L.length/\BG f/\OkP l:=by
 intro L
 induction L with
 |nil=>intro w p o q u _;exact⟨w,p,o,rfl,rfl,q,u⟩
 |cons d L y =>
  intro w p o q u B;rw[Zm]at B;obtain⟨r,p1,H,s,x,v⟩:=aP u (m:=26) (by decide) (by decide)
  obtain⟨c,G,C⟩:=BF x v;have z:w.length+(⟨#[c]⟩:Str).length<=sizeLine:=sz (by show w.length+1<=_;lia)
  have j:(w++(⟨#[c]⟩:Str)).length=w.length+1:=aX _ _;obtain⟨f,l,o',e,h1,h2,D⟩:=y (w++(⟨#[c]⟩:Str)) p1 (some (sh d)) (wm q C) s (by rw[j];lia)
  refine⟨f,l,o',?_,by rw[h1,j,Zm];lia,h2,D⟩
  simp[cL,aa,sh,noo,imm,H,G,cj z];exact e
theorem wf{α:Type}[DecidableEq α]:∀{l T:Yg α},l.Nodup->(∀x∈l,x∈T)->l.length<=T.length
 |[],_,_,_=>Nat.zero_le _
 |x::l,T,nd,h=>by
  have f:=Z1.mp nd;have:=wf f.2 fun y j=>(List.mem_erase_of_ne (show y≠x from fun e=>f.1 (by rw[<- e];exact j))).mpr (h y (Zp _ j))
  rw[List.length_erase_of_mem (h x (Zo ..))]at this;have:=List.length_pos_of_mem (h x (Zo ..));simp only[Zm]
  lia
noncomputable abbrev KW:List Str:=["do","when","say","price","stay","hurry","weather","watch","room","at"]
theorem N9 (l:0<=i) (h1:i<10):∃k,gIx (.lst [.str "do",.str "when",.str "say",.str "price",.str "stay",.str "hurry",.str "weather",.str "watch",.str "room",.str "at"]) (.int i)=some (.str k)/\aJ k:=by
 obtain⟨k,rfl⟩:=ZZ l;have hk:k<10:=by lia
 have f:∀j:Fin 10,aJ (KW.getD j.val Str.empty):=by decide +kernel
 refine⟨KW.getD k Str.empty,?_,f ⟨k,hk⟩⟩;show L2.atI (KW.map D.str) (k:Int)=_;refine L2.atI_nat ?_;rw[ZK,List.getD_eq_getElem?_getD,Zx (hk)];rfl
def Av{d}{l:Yg D}:L2.atI (d::l) 0=some d:=by exact L2.atI_nat rfl
theorem Cu:ABC.cps.toList.Nodup:=by decide +kernel
theorem vA:ABC.cps.toList.length=26:=by decide +kernel
theorem EM{w}(h:aJ w):BG (gr w none (some 7))/\(gr w none (some 7)).length<=7:=by
 have e:(gr w none (some ((7:Nat):Int))).cps.toList=w.cps.toList.take 7:=Gb;constructor
 . intro c f;rw [show (some (7:Int))=some ((7:Nat):Int) from rfl,e] at f
   exact h.2.2 c (List.mem_of_mem_take f)
 . rw [fN,show (some (7:Int))=some ((7:Nat):Int) from rfl,e,List.length_take]
   lia
def wZ{w}{a b}(h:w++(⟨#[a]⟩:Str)=w++(⟨#[b]⟩:Str)):a=b:=by
 have:=Z8 (fun x=>x.cps.toList) h
 simp only[b8]at this;have:=List.append_cancel_left this;exact(List.cons.inj this).1
theorem BV{w:Str}(o:BG w)(t:w.length<=7)(u:T.length<26):∃n r,((ABC.cps.toList.map fun c=>w++(⟨#[c]⟩:Str)).filter fun x=>!decide (x∈T))=n::r/\aJ n/\n∉T:=by
 cases q:(ABC.cps.toList.map fun c=>w++(⟨#[c]⟩:Str)).filter fun x=>!decide (x∈T)with
 |nil =>
  exfalso;have h1:∀x∈ABC.cps.toList.map fun c=>w++(⟨#[c]⟩:Str),x∈T:=fun x m=>by have:=List.filter_eq_nil_iff.mp q x m;simpa using this
  have l:(ABC.cps.toList.map fun c=>w++(⟨#[c]⟩:Str)).Nodup:=by rw[List.nodup_iff_pairwise_ne,List.pairwise_map];exact List.Pairwise.imp (fun h e=>h (wZ e)) (List.nodup_iff_pairwise_ne.mp Cu)
  have:=wf l h1;rw[Zl,vA]at this
  lia
 | cons n r =>
  refine⟨n,r,rfl,?_⟩;have p:n∈(ABC.cps.toList.map fun c=>w++(⟨#[c]⟩:Str)).filter fun x=>!decide (x∈T):=by rw[q];exact Zo ..
  obtain⟨h1,h2⟩:=List.mem_filter.mp p;obtain⟨c,s,rfl⟩:=Zr.mp h1;have j:97<=c/\c<=122:=by
   have f:∀x∈ABC.cps.toList,97<=x/\x<=122:=by decide +kernel
   exact f c s
  refine⟨⟨?_,?_,wm o j⟩,by simpa using h2⟩
  . rw[aX];show 1<=w.length+1;lia
  . rw[aX];show w.length+1<=8;lia
theorem m7{p}(hp:OkP p)(hT:T.length<=20):∃n Y,bK [pu p,.lst (T.map D.str)]=some (.str n,[some (pu Y),some (.lst ((T++[n]).map D.str))])/\OkP Y/\aJ n/\n∉T:=by
 obtain⟨r,p1,e1,L,r0,r1⟩:=aP hp (m:=8) (by decide) (by decide)
 obtain⟨k,rfl⟩:=ZZ r0;have src:dH bq9 [some (pu p),some (.lst (T.map D.str)),some (.str ""),none,none]=some ((List.range (1+k)).map fun (i:Nat)=>D.int (i:Int),[some (pu p1),some (.lst (T.map D.str)),some (.str ""),none,none]):=iI (by lia) (by
  simp only[vn,vm,bq7,bq9,e_C,pD,db,fG,iW,cA,bS,dY,fZ,aa,rK,noo,imm,Zc,Zd,Zf,ZR,Z6,if_false,e1];rw[show(1:Int)+(k:Int)=((1+k:Nat):Int) by lia])
 obtain⟨v,p2,l,lp,lw,I,J⟩:=uK (.lst (T.map D.str)) ((List.range (1+k)).map fun (i:Nat)=>D.int (i:Int)) "" p1 none (fun c U=>by rw[show("":Str).cps.toList=[]from by decide +kernel]at U;cases U) L (by rw[Zl,List.length_range,show("":Str).length=0 from by decide +kernel];lia)
 rw[Zl,List.length_range,show("":Str).length=0 from by decide +kernel]at lw
 have n1:aJ v:=⟨by lia,by lia,I⟩
 have fo:=iL src lp;obtain⟨r2,p3,e3,t,r20,r21⟩:=aP J (m:=9) (by decide) (by decide)
 have B:∃f j,lW bq7 vm bd [some (pu p2),some (.lst (T.map D.str)),some (.str v),l,none]=some (.nx [some (pu j),some (.lst (T.map D.str)),some (.str f),l,none])/\aJ f/\OkP j:=by
  cases h4:(r2==4)with
  |false=>exact⟨v,p3,by simp[aa,noo,imm,e3,h4],n1,t⟩
  |true =>
   obtain⟨r4,j,X,o,H,G⟩:=aP t (m:=10) (by decide) (by decide)
   obtain⟨kw,ek,hk⟩:=N9 H G;exact⟨kw,j,by simp[aa,sh,noo,imm,e3,h4,X,ek],hk,o⟩
 obtain⟨f,j,X,n2,o⟩:=B;have y:∃n Z,qIf (fT (f2 gIn (ab 2) (ab 1))) vn bd [some (pu j),some (.lst (T.map D.str)),some (.str f),l,none]=some (.nx [some (pu j),some (.lst (T.map D.str)),some (.str n),l,Z])/\aJ n/\n∉T:=by
  by_cases Q:f∈T
  . have s:(f∈T)=True:=eq_true Q;obtain ⟨c1,c2⟩:=EM n2;obtain ⟨n,C,V,O,q⟩:=BV c1 c2 (T:=T) (by lia)
    refine⟨n,some (.seq ((ABC.cps.toList.map fun c=>gr f none (some 7)++(⟨#[c]⟩:Str)).map D.str)),?_,O,q⟩
    have k1:bh 1 (gN 0) (fun _=>some true) (vI (f2 aQ (uV (ab 1) faN (faS (fC (.int 7)))) (ab 0))) (dX ABC) [none,some (.str f)]=some ((dX ABC).map (fun d=>match d with|.str z=>.str (gr f none (some 7)++z)|_=>.non),[none,some (.str f)]):=cZ fun d S=>by
     obtain⟨c,U,rfl⟩:=Zr.mp S;refine⟨[some (.str ⟨#[c]⟩),some (.str f)],rfl,rfl,[some (.str ⟨#[c]⟩),some (.str f)],?_,rfl⟩;have l7:((gr f none (some 7)).length<=sizeLine)=True:=eq_true (sz (by lia))
     have ls:(gr f none (some 7)).length+(⟨#[c]⟩:Str).length<=sizeLine:=sz (by show _+1<=_;lia)
     simp[ab,imm,FB,faN,faS,asI,l7,cj ls]
    have u:=bJ (js:=[2]) (δ:=[some (pu j),some (.lst (T.map D.str)),some (.str f),l,none]) (δ1:=[some (pu j),some (.lst (T.map D.str)),some (.str f),l,none]) (δc:=[some (pu j),some (.lst (T.map D.str)),some (.str f),l,none]) (cs:=[.str f]) (src:=je (fC (.str ABC))) rfl rfl k1 (by
     rw[Zl];show(ABC.cps.toList.map _).length<=1000;rw[Zl,vA];decide)
    have e6:((dX ABC).map (fun d=>match d with|.str z=>D.str (gr f none (some 7)++z)|_=>.non))=(ABC.cps.toList.map fun c=>gr f none (some 7)++(⟨#[c]⟩:Str)).map D.str:=by unfold dX;rw[List.map_map,List.map_map];rfl
    rw[e6]at u;generalize hF:(ABC.cps.toList.map fun c=>gr f none (some 7)++(⟨#[c]⟩:Str))=F at u V ⊢
    have lF:F.length=26:=by rw[<- hF,Zl,vA]
    have k2:bh 1 (gN 0) (fT (f2 gY (ab 0) (ab 1))) (aa 0) (F.map D.str) [none,some (.lst (T.map D.str))]=some (((F.map D.str).filter fun d=>match d with|.str x=>!decide (x∈T)|_=>false).map id,[none,some (.lst (T.map D.str))]):=ph fun d S=>by obtain⟨x,hx,rfl⟩:=Zr.mp S;exact⟨[some (.str x),some (.lst (T.map D.str))],rfl,by simp only[vn,vm,bq7,bq9,iY,gc,dD,ab,Af,Zc,Zd,Ze],rfl,fun _=>⟨[some (.str x),some (.lst (T.map D.str))],rfl,rfl⟩⟩
    have e7:(((F.map D.str).filter fun d=>match d with|.str x=>!decide (x∈T)|_=>false).map id)=.str n::C.map D.str:=by
     rw[List.map_id,List.filter_map];show(F.filter fun x=>!decide (x∈T)).map D.str=_
     rw[V];rfl
    rw[e7]at k2;have e8:=bJ (js:=[1]) (δ:=[some (pu j),some (.lst (T.map D.str)),some (.str f),l,some (.seq (F.map D.str))]) (δ1:=[some (pu j),some (.lst (T.map D.str)),some (.str f),l,some (.seq (F.map D.str))]) (δc:=[some (pu j),none,some (.str f),l,some (.seq (F.map D.str))]) (cs:=[.lst (T.map D.str)]) (src:=a6 (aa 4)) (by simp only[vn,vm,bq7,bq9,a6,aa,bH,sh,noo,Zc,Zd,Ze,Zf,Zg,Z6]) rfl k2 (by
     have:(D.str n::C.map D.str).length<=F.length:=by have:=Z8 List.length V;rw[Zm,Zl,<- Zm (a:=n) (as:=C),<- this];exact List.length_filter_le _ _
     lia)
    simp only[vn,vm,bq7,bq9,bM,dC,iX,tW,bP,iY,gc,e_C,dD,pD,db,bS,dY,ab,tU,tV,bH,sh,imm,Zc,Zu,Zv,Zd,Ze,Zf,Zg,Z6,decide_true,s,u,e8,List.drop_succ_cons,List.drop_zero,Av]
  . have s:(f∈T)=False:=eq_false Q;exact⟨f,none,by simp only[vn,vm,bq7,bq9,nD,iX,pA,iY,gc,dD,ab,tV,Zc,Zd,Ze,decide_false,s],n2,Q⟩
 obtain⟨n,Z,u,O,q⟩:=y;refine⟨n,j,?_,o,O,q⟩;have l9:(T.length<=999)=True:=eq_true (by lia)
 simp only[vn,vm,bq7,bq9,bK,kx,Dl.start,aE,bM,dC,bP,dQ,e_C,db,aa,cP,aC,atP,fF,sh,noo,imm,Zc,Zu,Zv,Zh,Zi,Zm,Zn,Zl,Zd,Ze,Zf,Zg,ZP,List.take_zero,ZU,ZQ,Nat.reduceSub,Nat.reduceAdd,Z6,fo,X,u,bE,l9];simp only[vn,vm,bq7,bq9,Zw,Zu,Zv]
variable {most:Int}
noncomputable abbrev cT(c:Str×Str×Int):D:=.tup [.str c.1,.str c.2.1,.int c.2.2]
def Na (l:0<=i) (h1:i<5):∃k,gIx (.lst [.str "<",.str "<=",.str "==",.str ">=",.str ">"]) (.int i)=some (.str k)/\k∈WS:=by
 obtain⟨k,rfl⟩:=ZZ l;have hk:k<5:=by omega
 have f:∀j:Fin 5,WS.getD j.val Str.empty∈WS:=by decide +kernel
 refine⟨WS.getD k Str.empty,?_,f ⟨k,hk⟩⟩;show L2.atI (WS.map D.str) (k:Int)=_;refine L2.atI_nat ?_;rw[ZK,List.getD_eq_getElem?_getD,Zx (hk)];rfl
noncomputable abbrev BS2:List Str:=["<","<=","==",">=",">","!="]
theorem OB (l:0<=i) (h1:i<6):∃k,gIx (.lst [.str "<",.str "<=",.str "==",.str ">=",.str ">",.str "!="]) (.int i)=some (.str k)/\k∈BS:=by
 obtain⟨k,rfl⟩:=ZZ l;have hk:k<6:=by lia
 have f:∀j:Fin 6,BS2.getD j.val Str.empty∈BS:=by decide +kernel
 refine⟨BS2.getD k Str.empty,?_,f ⟨k,hk⟩⟩;show L2.atI (BS2.map D.str) (k:Int)=_;refine L2.atI_nat ?_;rw[ZK,List.getD_eq_getElem?_getD,Zx (hk)];rfl
theorem j0{α:Type}{f:α->D}{l:Yg α}(j:0<=i)(h1:i<l.length):∃x∈l,L2.atI (l.map f) i=some (f x):=by
 obtain⟨k,rfl⟩:=ZZ j;have hk:k<l.length:=by lia
 exact⟨l[k],List.getElem_mem hk,L2.atI_nat (by rw[ZK,Zx hk];rfl)⟩
def w8{c d}:L2.atI [a,b,c,d] 0=some a:=rfl
section
variable {bs:Yg bG}
theorem Jl{p}(X:OkP p)(hW:W.length<=4)(Q:bs.length<=3)(h0:0<W.length+bs.length)(Z:∀b∈bnm bs,b∉W)(m0:0<=most)(m1:most<=60):∃c L,gj [pu p,.seq (W.map D.str),.seq (bs.map aW),.int most]=some (cT c,[some (pu L),some (.seq (W.map D.str)),some (.seq (bs.map aW)),some (.int most)])/\OkP L/\gX W (bnm bs) c:=by
 obtain⟨r,p1,S,y,V,r1⟩:=aP X (m:=(W.length:Int)+(bs.length:Int)) (by lia) (by lia)
 by_cases C:r<(W.length:Int)
 . obtain ⟨U,p2,J,u,o,j⟩:=aP y (m:=5) (by decide) (by decide)
   obtain⟨s,es,G⟩:=Na o j;obtain⟨v,B,I,t,x,z⟩:=aP u (m:=most+1) (by lia) (by lia)
   obtain⟨n,Y,H⟩:=j0 (f:=D.str) V C;have q:=eq_true C;refine⟨(n,s,v),B,?_,t,.inl ⟨Y,G,x,by show v<=60;lia⟩⟩
   simp[gj,iz,Dl.start,aE,ab,aa,sh,noo,imm,ZU,S,q,J,es,H,I]
 . obtain ⟨U,p2,J,u,o,j⟩:=aP y (m:=6) (by decide) (by decide)
   obtain⟨s,es,G⟩:=OB o j;obtain⟨v,B,I,t,x,z⟩:=aP u (m:=41) (by decide) (by decide)
   obtain⟨b,Q,H⟩:=j0 (f:=aW) (l:=bs) (i:=r-(W.length:Int)) (by lia) (by lia)
   have q:(r<(W.length:Int))=False:=eq_false C;have O:b.1∈bnm bs:=Zr.mpr ⟨b,Q,rfl⟩;refine⟨(b.1,s,v-20),B,?_,t,.inr ⟨Z _ O,O,G,by show -20<=v-20;lia,by show v-20<=20;lia⟩⟩
   simp[gj,iz,Dl.start,aE,ab,aa,sh,noo,imm,ZU,S,q,J,es,H,w8,I]
def kg(l):bC (.seq (l.map D.str)) (.lst [])=some (.bl (decide (l=[]))):=by
 cases l with
 |nil=>rfl
 |cons a l=>rfl
def nC(l):bC (.seq (l.map aW)) (.lst [])=some (.bl (decide (l=[]))):=by
 cases l with
 |nil=>rfl
 |cons a l=>rfl
def eI(l):eE (.seq (l.map D.str)) (.lst [])=some (.bl (!decide (l=[]))):=by
 cases l with
 |nil=>rfl
 |cons a l=>rfl
def m5(l):eE (.seq (l.map aW)) (.lst [])=some (.bl (!decide (l=[]))):=by
 cases l with
 |nil=>rfl
 |cons a l=>rfl
def eU:gF ag δ=some (.lst []):=rfl
def oT{ga}:gF ga δ=(ga δ).bind fun ds=>some (.lst ds):=rfl
theorem Gg{p}(o:OkP p)(X:W.length<=4)(G:bs.length<=3)(dj:∀b∈bnm bs,b∉W)(S:0<=most)(Q:most<=60):∃(cs:Yg (Str×Str×Int))(p':Int×Int),fB [pu p,.seq (W.map D.str),.seq (bs.map aW),.int most]=some (.lst (cs.map cT),[some (pu p'),some (.seq (W.map D.str)),some (.seq (bs.map aW)),some (.int most)])/\OkP p'/\(∀c∈cs,gX W (bnm bs) c)/\cs.length<=2:=by
 by_cases H:W=[]/\bs=[]
 . obtain ⟨rfl,rfl⟩:=H;refine ⟨[],p,?_,o,fun c s=>(by cases s),by decide⟩
   have u:=kg [];have t:=nC [];simp only[Jz,Zv]at u t;simp[fB,gJ,Dl.start,aE,ab,eU,u,t]
 . have V:0 < W.length+bs.length:=by
    cases W with
    |nil =>
     cases bs with
     |nil=>exact absurd ⟨rfl,rfl⟩ H
     |cons b bs=>simp
    |cons w W=>simp;lia
   obtain⟨r,p1,u,C,J,r1⟩:=aP o (m:=3) (by decide) (by decide)
   obtain⟨k,rfl⟩:=ZZ J;have I:jS (fT (f2 bC (ab 1) (gF ag))) (fT (f2 bC (ab 2) (gF ag))) [some (pu p),some (.seq (W.map D.str)),some (.seq (bs.map aW)),some (.int most)]=some false:=by
    cases y:decide (W=[])with
    |false=>simp[ab,eU,kg,y]
    |true =>
     have G:=decide_eq_false fun z=>H ⟨Z7 y,z⟩
     simp[ab,eU,kg,nC,y,G]
   have q:∀L(p:Int×Int),OkP p->∃(cs:Yg (Str×Str×Int))(p':Int×Int),bh 1 (gN 0) (fun _=>some true) Jz L [none,some (.seq (bs.map aW)),some (.int most),some (pu p),some (.seq (W.map D.str))]=some (cs.map cT,[none,some (.seq (bs.map aW)),some (.int most),some (pu p'),some (.seq (W.map D.str))])/\OkP p'/\(∀c∈cs,gX W (bnm bs) c)/\cs.length=L.length:=by
    intro L
    induction L with
    |nil=>intro p o;exact⟨[],p,rfl,o,fun c s=>(by cases s),rfl⟩
    |cons d L U =>
     intro p o;obtain⟨c,p2,Y,j,s⟩:=Jl o X G V dj S Q;obtain⟨cs,O,e,B,l,f⟩:=U p2 j;refine⟨c::cs,O,?_,B,fun x v=>?_,by rw[Zm,Zm,f]⟩
     . simp[bh,aa,noo,Y,e]
     . rcases Zt.mp v with rfl | v
       . exact s
       . exact l x v
   obtain⟨cs,p2,t,j,l,f⟩:=q ((List.range k).map fun(i:Nat)=>D.int (i:Int)) p1 C
   rw[Zl,List.length_range]at f;have Z:=bJ (js:=[2,3,0,1]) (δ:=[some (pu p),some (.seq (W.map D.str)),some (.seq (bs.map aW)),some (.int most)]) (δ1:=[some (pu p1),some (.seq (W.map D.str)),some (.seq (bs.map aW)),some (.int most)]) (δc:=[none,some (.seq (W.map D.str)),some (.seq (bs.map aW)),some (.int most)]) (cs:=[.seq (bs.map aW),.int most,pu p1,.seq (W.map D.str)]) (src:=dH (aj [some 0,none] aK (ae (aa 0) (ae (vI (fC (.int 3))) ak)))) (iI (n:=k) (by lia) (by simp[aa,noo,imm,u])) rfl t (by rw[Zl];lia)
   refine⟨cs,p2,?_,j,l,by lia⟩
   simp! only[Jz,fB,gJ,I,Z,List.drop_succ_cons,List.drop_zero]
theorem N8 (f:0<=i) (h1:i<2):∃k,gIx (.lst [.str "<=",.str "<"]) (.int i)=some (.str k)/\((k=Str.ofString "<="/\i=0)\/(k=Str.ofString "<"/\i=1)):=by
 have:i=0\/i=1:=by lia
 rcases this with rfl|rfl
 . exact⟨_,rfl,.inl ⟨rfl,rfl⟩⟩
 . exact⟨_,rfl,.inr ⟨rfl,rfl⟩⟩
theorem CZ{p}(B:OkP p)(hW:W.length<=4)(m0:0<most)(m1:most<=60):∃(cs:Yg (Str×Str×Int))(t:Int×Int),dE [pu p,.seq (W.map D.str),.int most]=some (.lst (cs.map cT),[some (pu t),some (.seq (W.map D.str)),some (.int most)])/\OkP t/\(∀c∈cs,okStay W c)/\cs.length<=2:=by
 by_cases U:W=[]
 . subst U;refine ⟨[],p,?_,B,fun c G=>(by cases G),by decide⟩
   have z:=eI [];simp only[JA,Jv,Zv]at z;simp[dE,eX,Dl.start,aE,ab,aa,noo,ZU,eU,z]
 . have Y:=List.length_pos_iff.mpr U;have Z:=decide_eq_false U;obtain ⟨r,p1,z,l,r0,r1⟩:=aP B (m:=2) (by decide) (by decide)
   cases h1:(r==1)with
   |false =>
    refine⟨[],p1,?_,l,fun c G=>(by cases G),by decide⟩
    simp[dE,eX,Dl.start,aE,ab,aa,noo,imm,ZU,eU,eI,Z,z,h1]
   | true =>
    obtain⟨r2,p2,X,v,I,r21⟩:=aP l (m:=2) (by decide) (by decide)
    obtain⟨k,rfl⟩:=ZZ I;have C:∀L(p:Int×Int)(acc:Yg (Str×Str×Int))(o q s:Ye D),OkP p->(∀c∈acc,okStay W c)->acc.length+L.length<=2->∃(cs:Yg (Str×Str×Int))(t:Int×Int)(o' H s':Ye D),cL (gN 4) Jv L [some (pu p),some (.seq (W.map D.str)),some (.int most),some (.lst (acc.map cT)),o,q,s]=some (.nx [some (pu t),some (.seq (W.map D.str)),some (.int most),some (.lst (cs.map cT)),o',H,s'])/\OkP t/\(∀c∈cs,okStay W c)/\cs.length<=2:=by
     intro L
     induction L with
     |nil=>intro p acc o q s B S Y;exact⟨acc,p,o,q,s,rfl,B,S,by simpa using Y⟩
     | cons d L ih =>
      intro p acc o q s B S Q;rw[Zm]at Q;obtain⟨a,p1,z,l,a0,a1⟩:=aP B (m:=(W.length:Int)) (by lia) (by lia)
      obtain⟨w,hw,ew⟩:=j0 (f:=D.str) a0 a1;obtain⟨b,p2,X,v,b0,b1⟩:=aP l (m:=2) (by decide) (by decide)
      obtain⟨k,ek,hk⟩:=N8 b0 b1;obtain⟨c,J,V,u,c0,c1⟩:=aP v (m:=most+1-b) (by lia) (by lia)
      have ok:okStay W (w,k,b+c):=by
       refine⟨hw,?_,by show b+c<=60;lia⟩
       rcases hk with⟨rfl,hb⟩|⟨rfl,hb⟩
       . exact .inl ⟨rfl,by show 0<=b+c;lia⟩
       . exact .inr ⟨rfl,by show 0<b+c;lia⟩
      obtain⟨cs,t,o',H,s',e,O,y,j⟩:=ih J (acc++[(w,k,b+c)]) (some (sh d)) (some (.str w)) (some (.int b)) u (fun x hx=>by
       rcases Zs.mp hx with h|h
       . exact S x h
       . rw[Zq.mp h];exact ok) (by simp;lia)
      refine⟨cs,t,o',H,s',?_,O,y,j⟩;have al:(acc.length<=999)=True:=eq_true (by lia)
      rw[Zw]at e;simp[cL,ab,aa,cP,aC,atP,fF,sh,noo,imm,z,ew,X,bE,oT,ek,V,al];exact e
    obtain⟨cs,J,o',H,s',V,u,y,j⟩:=C ((List.range (1+k)).map fun(i:Nat)=>D.int (i:Int)) p2 [] none none none v (fun c G=>(by cases G)) (by simp;lia)
    have src:dH JA [some (pu p1),some (.seq (W.map D.str)),some (.int most),some (.lst []),none,none,none]=some ((List.range (1+k)).map fun(i:Nat)=>D.int (i:Int),[some (pu p2),some (.seq (W.map D.str)),some (.int most),some (.lst []),none,none,none]):=iI (n:=1+k) (by lia) (by
     simp! only[JA,Jv,X];rw[show(1:Int)+(k:Int)=((1+k:Nat):Int) by lia])
    have fo:=iL src V;refine⟨cs,J,?_,u,y,j⟩;simp[dE,eX,Dl.start,aE,ab,aa,noo,imm,ZU,eU,eI,Z,z,h1,fo]
def EX{z}{k c:Nat}(h:z.cps.toList[k]?=some c)(f:z.length<=sizeLine):kc (.str z) (.int (k:Int))=some (.str ⟨#[c]⟩):=by
 show(if z.length<=sizeLine then(L2.atI z.cps.toList (k:Int)).map (fun c=>D.str ⟨#[c]⟩)else none)=_
 rw[if_pos f,L2.atI_nat h];rfl
theorem NP (f:0<=i) (h1:i<3):∃k,kc (.str "=+-") (.int i)=some (.str k)/\(k=Str.ofString "=" \/ k=Str.ofString "+" \/ k=Str.ofString "-"):=by
 have:i=0\/i=1\/i=2:=by lia
 rcases this with rfl|rfl|rfl
 . exact⟨⟨#[61]⟩,EX (by decide +kernel) (by decide +kernel),.inl (by decide +kernel)⟩
 . exact⟨⟨#[43]⟩,EX (by decide +kernel) (by decide +kernel),.inr (.inl (by decide +kernel))⟩
 . exact⟨⟨#[45]⟩,EX (by decide +kernel) (by decide +kernel),.inr (.inr (by decide +kernel))⟩
def uP{b}:tR [.bl b]=some (.int (if b then 1 else 0)):=by cases b<;>rfl
theorem F9{p}(X:OkP p)(hW:W.length<=4)(hb:bs.length<=3)(dj:∀b∈bnm bs,b∉W):∃(cs:Yg (Str×Str×Int))(y:Int×Int),gL [pu p,.seq (W.map D.str),.seq (bs.map aW)]=some (.lst (cs.map cT),[some (pu y),some (.seq (W.map D.str)),some (.seq (bs.map aW))])/\OkP y/\(∀c∈cs,iJ W (bnm bs) c)/\cs.length<=3:=by
 obtain⟨r,p1,e1,I,r0,r1⟩:=aP X (m:=4) (by decide) (by decide)
 obtain⟨k,rfl⟩:=ZZ r0;have bit:∃j:Nat,aT tR (af (uW (f2 eE (ab 1) (gF ag)) (f2 eE (ab 2) (gF ag))) ag) [some (pu p1),some (.seq (W.map D.str)),some (.seq (bs.map aW)),some (.lst []),none,none,none,none]=some (.int (j:Int))/\j<=1/\(j=1->0<W.length+bs.length):=by
  cases O:decide (W=[])with
  |false =>
   refine⟨1,by simp only[sI,sG,wI,FE,dD,cR,gZ,fH,ab,Zc,Zd,Ze,Z6,Bool.not_false,eU,eI,O,uP];rfl,by decide,fun _=>?_⟩
   have:=List.length_pos_iff.mpr (of_decide_eq_false O)
   lia
  | true =>
   cases hb:decide (bs=[])with
   |false =>
    refine⟨1,by simp only[sI,sG,wI,yg,dD,cR,gZ,fH,ab,Zc,Zd,Ze,Z6,Bool.not_true,Bool.not_false,eU,eI,m5,O,hb,uP];rfl,by decide,fun _=>?_⟩
    have:=List.length_pos_iff.mpr (of_decide_eq_false hb)
    lia
   |true=>exact⟨0,by simp only[sI,sG,wI,yg,dD,cR,gZ,fH,ab,Zc,Zd,Ze,ZR,if_false,Bool.not_true,eU,eI,m5,O,hb,uP];rfl,by decide,fun z=>by cases z⟩
 obtain⟨j,ej,Z,hj⟩:=bit;have src:dH sI [some (pu p),some (.seq (W.map D.str)),some (.seq (bs.map aW)),some (.lst []),none,none,none,none]=some ((List.range (k*j)).map fun(i:Nat)=>D.int (i:Int),[some (pu p1),some (.seq (W.map D.str)),some (.seq (bs.map aW)),some (.lst []),none,none,none,none]):=iI (by
  have:k*j<=k*1:=Nat.mul_le_mul_left k Z
  lia) (by
  have cm:kM (k:Int) (j:Int):=⟨pH (by lia),pH (by lia)⟩
  simp only[sI,sG,e_C,pD,db,fG,iW,cA,bS,dY,fZ,aa,noo,imm,Zc,Zd,Zf,ZR,Z6,if_false,e1,ej,mB cm];rw[show(k:Int)*(j:Int)=((k*j:Nat):Int) by simp])
 have S:∀ (L:Yg D) (p:Int×Int) (acc:Yg (Str×Str×Int)) (o q s t:Ye D),(L ≠ []->0 < W.length+bs.length)->OkP p->(∀ c∈acc,iJ W (bnm bs) c)->acc.length+L.length<=3->∃ (cs:Yg (Str×Str×Int)) (y:Int×Int) (o' J s' t':Ye D),cL (gN 4) sG L [some (pu p),some (.seq (W.map D.str)),some (.seq (bs.map aW)),some (.lst (acc.map cT)),o,q,s,t]=some (.nx [some (pu y),some (.seq (W.map D.str)),some (.seq (bs.map aW)),some (.lst (cs.map cT)),o',J,s',t'])/\OkP y/\(∀ c∈cs,iJ W (bnm bs) c)/\cs.length<=3:=by
  intro L
  induction L with
  |nil=>intro p acc o q s t _ X ha Y;exact⟨acc,p,o,q,s,t,rfl,X,ha,by simpa using Y⟩
  |cons d L ih =>
   intro p acc o q s t h0 X ha hl2;rw[Zm]at hl2;have Y:=h0 (List.cons_ne_nil _ _);have al:(acc.length<=999)=True:=eq_true (by lia)
   obtain⟨a,p1,e1,I,a0,a1⟩:=aP X (m:=(W.length:Int)+(bs.length:Int)) (by lia) (by lia)
   by_cases O:a<(W.length:Int)
   . obtain ⟨w,hwm,ew⟩:=j0 (f:=D.str) a0 O;have G:(a < (W.length:Int))=True:=eq_true O;obtain ⟨cs,y,o',J,s',t',e,B,v,u⟩:=ih p1 (acc++[(w,Str.ofString "=",0)]) (some (sh d)) (some (.int a)) s t (fun _=>Y) I (fun x U=>by
      rcases Zs.mp U with h|h
      . exact ha x h
      . rw[Zq.mp h];exact .inl ⟨hwm,rfl,rfl⟩) (by simp;lia)
     refine⟨cs,y,o',J,s',t',?_,B,v,u⟩;rw[Zw]at e;simp only[sI,sG,cL,bM,dC,iX,tW,bP,iY,gc,e_C,dD,db,cR,gZ,fH,fG,iW,lR,cA,bS,dY,fZ,ab,aa,cP,aC,atP,fF,jw,rK,iN,iu,sh,noo,imm,pC,pB,Zc,Option.map_some,Zl,Zd,Ze,Zf,Zg,ZR,Z6,if_false,decide_true,e1,G,ew,bE,al];exact e
   . have G:(a < (W.length:Int))=False:=eq_false O;obtain ⟨b,p2,e2,hp2,b0,b1⟩:=aP I (m:=3) (by decide) (by decide)
     obtain⟨g,eg,hg⟩:=NP b0 b1;obtain⟨c,p3,e3,H,c0,c1⟩:=aP hp2 (m:=41) (by decide) (by decide)
     obtain⟨bx,hbx,ebx⟩:=j0 (f:=aW) (l:=bs) (i:=a-(W.length:Int)) (by lia) (by lia)
     have hm:bx.1∈bnm bs:=Zr.mpr ⟨bx,hbx,rfl⟩;have m3:(0:Int)<3:=by decide
     have n0:0<=(c-20)%3:=Int.emod_nonneg _ (by decide)
     have n1:(c-20)%3<3:=Int.emod_lt_of_pos _ (by decide)
     cases V:(g==Str.ofString "=")with
     | true =>
      have Q:g=Str.ofString "=":=beq_iff_eq.mp V;obtain⟨cs,y,o',J,s',t',e,B,v,u⟩:=ih p3 (acc++[(bx.1,g,c-20)]) (some (sh d)) (some (.int a)) (some (.str g)) (some (.int (c-20))) (fun _=>Y) H (fun x U=>by
       rcases Zs.mp U with h|h
       . exact ha x h
       . rw[Zq.mp h];exact .inr ⟨dj _ hm,hm,.inl ⟨Q,by show -20<=c-20;lia,by show c-20<=20;lia⟩⟩) (by simp;lia)
      refine⟨cs,y,o',J,s',t',?_,B,v,u⟩;rw[Zw]at e;simp only[sI,sG,cL,bM,dC,nD,iX,pA,bP,iY,gc,e_C,dD,pD,db,cR,gZ,fH,fG,iW,lR,cA,bS,dY,fZ,ab,aa,cP,aC,atP,fF,jw,FI,rK,iN,iu,nE,sh,noo,imm,pC,pB,Zc,Option.map_some,Zl,Zd,Ze,Zf,Zg,ZR,Z6,if_false,Bool.not_true,decide_false,e1,G,e2,eg,e3,V,ebx,w8,bE,al];exact e
     | false =>
      have Q:g=Str.ofString "+" \/ g=Str.ofString "-":=by
       rcases hg with h|h|h
       . rw[h,Zz]at V;cases V
       . exact .inl h
       . exact .inr h
      obtain⟨cs,y,o',J,s',t',e,B,v,u⟩:=ih p3 (acc++[(bx.1,g,1+(c-20)%3)]) (some (sh d)) (some (.int a)) (some (.str g)) (some (.int (1+(c-20)%3))) (fun _=>Y) H (fun x U=>by
       rcases Zs.mp U with h|h
       . exact ha x h
       . rw[Zq.mp h];exact .inr ⟨dj _ hm,hm,.inr ⟨Q,by show 1<=1+(c-20)%3;lia,by show 1+(c-20)%3<=20;lia⟩⟩) (by simp;lia)
      refine⟨cs,y,o',J,s',t',?_,B,v,u⟩;rw[Zw]at e;simp only[sI,sG,cL,bM,dC,iX,tW,pA,bP,iY,gc,e_C,dD,pD,db,cR,gZ,fH,fG,iW,lR,cA,bS,dY,fZ,ab,aa,cP,aC,atP,fF,jw,FI,rK,iN,iu,nE,sh,noo,imm,pC,pB,Zc,Option.map_some,Zl,Zd,Ze,Zf,Zg,ZR,Z6,if_false,Bool.not_false,decide_false,e1,G,e2,eg,e3,V,mB (C:=fun _ j=>0<j) (a:=c-20) m3,ebx,w8,bE,al]
      exact e
 obtain⟨cs,p3,o',J,s',t',e3,H,v,u⟩:=S ((List.range (k*j)).map fun(i:Nat)=>D.int (i:Int)) p1 [] none none none none (fun h=>by
  refine hj ?_;have:j≠0:=fun z=>h (by rw[z,Nat.mul_zero];rfl)
  lia) I (fun c hc=>(by cases hc)) (by
  have:k*j<=k*1:=Nat.mul_le_mul_left k Z;simp;lia)
 have fo:=iL src e3;refine⟨cs,p3,?_,H,v,u⟩;simp only[sI,sG,gL,jG,Dl.start,aE,bM,dC,pv,dQ,fG,tT,aa,noo,Zc,Zu,Zv,Zh,Zi,Zm,Zn,Zd,Ze,Zf,Zg,ZP,List.take_zero,ZU,ZQ,Nat.reduceSub,Nat.reduceAdd,ZR,if_false,fo]
theorem v1{p}(y:OkP p):∃i t,dF [pu p]=some (.int i,[some (pu t)])/\OkP t/\0<=i/\i<=10^30:=by
 obtain⟨r,p1,v,j,C,B⟩:=aP y (m:=8) (by decide) (by decide)
 cases u:(r==5)with
 |true =>
  obtain⟨s,p2,q,f,l,x⟩:=aP j (m:=10^30+1) (by decide) (by decide)
  have z:L2.CPow 10 30:=⟨by decide,by decide,by decide⟩
  have o:(10:Int)^((30:Int).toNat)+1=10^30+1:=rfl;exact⟨s,p2,by simp! only[dF,gH,Ot,Ah,FN,v,u,mB z,o,q],f,l,by lia⟩
 |false =>
  obtain⟨s,p2,q,f,l,x⟩:=aP j (m:=4) (by decide) (by decide)
  exact⟨s,p2,by simp[dF,gH,Dl.start,aE,aa,noo,imm,v,u,q],f,l,by lia⟩
abbrev rT(r:a4):D:=.tup [.str r.name,.int r.price,.bl r.hurry,.seq (r.stays.map cT)]
abbrev rO(r:a4):D:=.tup [.str r.name,.int r.price,.bl r.hurry,.lst (r.stays.map cT)]
abbrev dT(d:ba):D:=.tup [.str d.start,.str d.goal,.bl d.weather,bw d.word,.int d.price,.seq (d.conds.map cT),.seq (d.deeds.map cT)]
abbrev dO(d:ba):D:=.tup [.str d.start,.str d.goal,.bl d.weather,bw d.word,.int d.price,.lst (d.conds.map cT),.lst (d.deeds.map cT)]
def jz(l:Yg (Str×Str×Int)):shs (l.map cT)=l.map cT:=be (fun c=>by simp only[sh,shs]) l
def Nw(r):sh (rO r)=rT r:=by simp only[sh,shs,jz]
def y9(r):sh (rT r)=rT r:=by simp only[sh,shs,jz]
def Ox(d):sh (dO d)=dT d:=by simp only[sh,shs,jz,jd]
def wL(d):sh (dT d)=dT d:=by simp only[sh,shs,jz,jd]
def Js(l:Yg (Str×Str×Int)):gb (l.map cT)=true:=by
 induction l with
 |nil=>rfl
 |cons c l f=>rw[Zu,gb,f];rfl
theorem G9{p}(B:OkP p)(I:T.length<=20)(H:W.length<=4)(x:0<most)(v:most<=60):∃r t,iF [pu p,.lst (T.map D.str),.seq (W.map D.str),.int most]=some (rO r,[some (pu t),some (.lst ((T++[r.name]).map D.str)),some (.seq (W.map D.str)),some (.int most)])/\OkP t/\okRoom W r/\r.name∉T/\r.stays.length<=2:=by
 obtain⟨n,p1,Q,o,C,q⟩:=m7 B I;obtain⟨i,p2,O,l,z,y⟩:=v1 o;obtain⟨h,S,L,j,U,h1⟩:=aP l (m:=6) (by decide) (by decide)
 obtain⟨cs,u,J,f,s,G⟩:=CZ j H x v;refine⟨⟨n,i,h==5,cs⟩,u,?_,f,⟨C,z,y,s,by show cs.length<=900;lia⟩,q,G⟩
 simp[iF,kr,Dl.start,aE,aa,sh,noo,imm,ZU,Q,O,L,J]
theorem G3 (f:0<=i) (h1:i<2):∃k,gIx (.lst [.str "say",.str "hear"]) (.int i)=some (.str k)/\(k=Str.ofString "say" \/ k=Str.ofString "hear"):=by
 have:i=0\/i=1:=by lia
 rcases this with rfl|rfl
 . exact⟨_,rfl,.inl rfl⟩
 . exact⟨_,rfl,.inr rfl⟩
theorem Jh{p}(hp:OkP p)(hr:rl≠[])(hrl:rl.length<=6)(hW:W.length<=4)(hb:bs.length<=3)(dj:∀b∈bnm bs,b∉W)(m0:0<=most)(m1:most<=60)(hw:ws.length=3)(v:∀w∈ws,aJ w):∃d p',iG [pu p,.seq (rl.map rT),.seq (W.map D.str),.seq (bs.map aW),.int most,.seq (ws.map D.str)]=some (dO d,[some (pu p'),some (.seq (rl.map rT)),some (.seq (W.map D.str)),some (.seq (bs.map aW)),some (.int most),some (.seq (ws.map D.str))])/\OkP p'/\okDoor W (bnm bs) (rl.map (·.name)) d/\d.conds.length<=2/\d.deeds.length<=3:=by
 have hl:=List.length_pos_iff.mpr hr;obtain⟨a,p1,e1,Q,a0,a1⟩:=aP hp (m:=(rl.length:Int)) (by lia) (by lia)
 obtain⟨r1,H,er1⟩:=j0 (f:=rT) a0 a1;obtain⟨b,p2,e2,O,b0,b1⟩:=aP Q (m:=(rl.length:Int)) (by lia) (by lia)
 obtain⟨r2,G,Z⟩:=j0 (f:=rT) b0 b1;obtain⟨c,p3,e3,L,c0,c1⟩:=aP O (m:=3) (by decide) (by decide)
 obtain⟨d,p4,e4,r,d0,d1⟩:=aP L (m:=4) (by decide) (by decide)
 have q:∃w p5,oB w/\OkP p5/\∀x y z u,lW bq8 MV bd [some (pu p3),x,some (.seq (W.map D.str)),some (.seq (bs.map aW)),some (.int most),some (.seq (ws.map D.str)),y,z,u,some .non,none]=some (.nx [some (pu p5),x,some (.seq (W.map D.str)),some (.seq (bs.map aW)),some (.int most),some (.seq (ws.map D.str)),y,z,u,some (bw w),none]):=by
  cases h3:(d==3)with
  |false=>exact⟨none,p4,trivial,r,fun x y z u=>by simp[aa,noo,imm,e4,h3,bw]⟩
  |true =>
   obtain⟨s,p5,e5,o,s0,s1⟩:=aP r (m:=2) (by decide) (by decide)
   obtain⟨k,ek,hk⟩:=G3 s0 s1;obtain⟨t,p6,e6,j,t0,t1⟩:=aP o (m:=3) (by decide) (by decide)
   obtain⟨w,B,Y⟩:=j0 (f:=D.str) (l:=ws) t0 (by lia)
   exact⟨some (k,w),p6,⟨hk,v w B⟩,j,fun x y z u=>by simp[aa,sh,shs,noo,imm,e4,h3,e5,ek,e6,Y,bw]⟩
 obtain⟨w,p5,C,o,Y⟩:=q;obtain⟨cs,p6,e6,j,V,X⟩:=Gg (W:=W) (bs:=bs) o hW hb dj m0 m1;obtain⟨i,p7,e7,J,i0,i1⟩:=v1 j;obtain⟨ds,p8,e8,I,S,U⟩:=F9 (W:=W) (bs:=bs) J hW hb dj;refine⟨⟨r1.name,r2.name,c==1,w,i,cs,ds⟩,p8,?_,I,⟨Zr.mpr ⟨r1,H,rfl⟩,Zr.mpr ⟨r2,G,rfl⟩,C,i0,i1,V,S,by show cs.length<=900;lia,by show ds.length<=900;lia⟩,X,U⟩
 have nw:noo (bw w)=true:=by cases w<;>rfl
 simp! only[MV,bq8,iG,kC,pv,lR,Zl,AF,e1,er1,jz,w8,e2,Z,e3,Y,e6,jd,nw,e7,e8]
end
variable {z5 z2 z3 z4:Int}
structure OkS(z0 z1 z2 z3 z4 z5:Int):Prop where
 a0:0<=z0
 a1:z0<=4
 b0:0<=z1
 b1:z1<=3
 c0:1<=z2
 c1:z2<=4
 d0:1<=z3
 d1:z3<=6
 e0:0<=z4
 e1:z2*z4<=24
 f0:1<=z5
 f1:z5<=60
def xM:∀ L p T,OkP p->T.Nodup->T.length+L.length<=20->∃ (f:Yg Str) (v:Int×Int),bh 1 (gN 0) (fun _=>some true) (aj [some 1,some 2] bK (ae (aa 1) (ae (aa 2) ak))) L [none,some (pu p),some (.lst (T.map D.str))]=some (f.map D.str,[none,some (pu v),some (.lst ((T++f).map D.str))])/\OkP v/\f.length=L.length/\(∀ n∈f,aJ n)/\(T++f).Nodup:=by
 intro L
 induction L with
 |nil=>intro p T q u _;exact⟨[],p,by simp only[bh,Zv,Zj],q,rfl,fun n h=>(by cases h),by rw[Zj];exact u⟩
 |cons d L B =>
  intro p T q u G;rw[Zm]at G;obtain⟨n,p1,J,o,C,s⟩:=m7 q (T:=T) (by omega)
  obtain⟨f,p2,y,m,t,r,j⟩:=B p1 (T++[n]) o (Z0.mpr ⟨u,Z1.mpr ⟨ZH,Zy⟩,fun a I b H=>by rw[Zq.mp H];exact fun z=>s (z▸I)⟩) (by simp;omega)
  refine⟨n::f,p2,?_,m,by rw[Zm,Zm,t],fun x l=>?_,by rw[ZV]at j;exact j⟩
  . rw[ZV]at y;simp! only[bh,yi,J,y,List.singleton_append]
  . rcases Zt.mp l with rfl | l
    . exact C
    . exact r x l
def tz(b:bG):Prop:=aJ b.1/\-20<=b.2.1/\b.2.1<=b.2.2.2/\b.2.2.2<=b.2.2.1/\b.2.2.1<=20
def l8{α:Type}{T}{n:α}(h:T.Nodup)(f:n∉T):(T++[n]).Nodup:=Z0.mpr ⟨h,Z1.mpr ⟨ZH,Zy⟩,fun a l b j=>by rw[Zq.mp j];exact fun z=>f (z▸l)⟩
def Gp{c d f}:L2.atI [a,b,c,d,e,f] 5=some f:=rfl
def OM{c d f}:L2.atI [a,b,c,d,e,f] 0=some a:=rfl
def OL{c d f}:L2.atI [a,b,c,d,e,f] 1=some b:=rfl
def OK{c d f}:L2.atI [a,b,c,d,e,f] 2=some c:=rfl
def OJ{c d f}:L2.atI [a,b,c,d,e,f] 3=some d:=rfl
def OI{c d f}:L2.atI [a,b,c,d,e,f] 4=some e:=rfl
def Nb(h1:-20<=lo)(h2:lo<=20):∃w,min (21-lo) (if z5>9 then 41 else 3)=w/\1<=w/\w<=21-lo/\w<=41:=by
 refine⟨_,rfl,?_,?_,?_⟩
 . split<;>omega
 . omega
 . omega
theorem Ma{a b}:Fj [.int a,.int b]=some (.int (min a b)):=by
 show some (D.int (if b<a then b else a))=_
 congr 2
 by_cases h:b<a
 . rw[if_pos h];lia
 . rw[if_neg h];lia
abbrev bxB:SQ:=ah MX
 MS
section
noncomputable abbrev szD(z0 z1 z2 z3 z4 z5:Int):D:=.tup [.int z0,.int z1,.int z2,.int z3,.int z4,.int z5]
theorem yD:∀L p T bs o q s,OkP p->T.Nodup->T.length+L.length<=20->T=W++bnm bs->(∀b∈bs,tz b)->∃(f:Yg bG)(r:Int×Int)(o' u s':Ye D),cL (gN 5) bxB L [some (pu p),some (szD z0 z1 z2 z3 z4 z5),some (.lst (T.map D.str)),some (.seq (W.map D.str)),some (.lst (bs.map aW)),o,none,none,q,s,none,none,none,none]=some (.nx [some (pu r),some (szD z0 z1 z2 z3 z4 z5),some (.lst ((W++bnm f).map D.str)),some (.seq (W.map D.str)),some (.lst (f.map aW)),o',none,none,u,s',none,none,none,none])/\OkP r/\(W++bnm f).Nodup/\(∀b∈f,tz b)/\f.length=bs.length+L.length:=by
 intro L
 induction L with
 |nil=>intro p T bs o q s I U V e S;subst e;exact⟨bs,p,o,q,s,rfl,I,U,S,rfl⟩
 | cons d L ih =>
  intro p T bs o q s I U V l S;rw[Zm]at V;have hbl:T.length=W.length+bs.length:=by rw[l];simp
  obtain⟨a,p1,e1,G,a0,a1⟩:=aP I (m:=41) (by decide) (by decide)
  obtain⟨w,t,Y,w1,X⟩:=Nb (lo:=a-20) (by lia) (by lia)
  obtain⟨b,p2,e2,C,b0,b1⟩:=aP G Y (Int.le_trans X (by decide))
  obtain⟨n,p3,e3,B,hn,O⟩:=m7 C (T:=T) (by lia)
  obtain⟨c,Z,e4,z,c0,c1⟩:=aP B (m:=a-20+b-(a-20)+1) (by clear t;lia) (by clear t;lia)
  have v:tz (n,a-20,a-20+b,a-20+c):=⟨hn,by show -20<=a-20;lia,by show a-20<=a-20+c;lia,by show a-20+c<=a-20+b;lia,by clear t;show a-20+b<=20;lia⟩
  obtain⟨f,r,o',u,s',e,H,J,Q,j⟩:=ih Z (T++[n]) (bs++[(n,a-20,a-20+b,a-20+c)]) (some (sh d)) (some (.int (a-20))) (some (.int (a-20+b))) z (l8 U O) (by simp;lia) (by rw[l];simp) (fun x hx=>by
   rcases Zs.mp hx with h|h
   . exact S x h
   . rw[Zq.mp h];exact v)
  refine⟨f,r,o',u,s',?_,H,J,Q,by rw[j,Zk,Zm,Zm,Zn];lia⟩
  have al:(bs.length<=999)=True:=eq_true (by lia)
  have mn:Fj [.int (21-(a-20)),.int (if z5>9 then 41 else 3)]=some (.int w):=by rw[Ma,t]
  have y:L2.atI [D.int 3,.int 41] (if decide (z5>9)=true then 1 else 0)=some (.int (if z5>9 then 41 else 3)):=by
   by_cases h:z5>9
   . rw[if_pos (decide_eq_true h),if_pos h];rfl
   . rw[if_neg (by rw[decide_eq_false h];decide),if_neg h];rfl
  rw[Zw (l₁:=bs)]at e;simp! only[MX,MS,cL,lR,Zl,e1,oT,Gp,uP,y,mn,e2,e3,e4,al];exact e
end
section
variable {bs:Yg bG}
structure okR(W:List Str)(r:a4):Prop extends okRoom W r where
 ls:r.stays.length<=2
theorem xv(O:W.length<=4)(z:0<z5)(y:z5<=60):∀L p I,OkP p->I.Nodup->I.length+L.length<=20->∃(rl:Yg a4)(u:Int×Int),bh 1 (gN 0) (fun _=>some true) rY L [none,some (.lst (I.map D.str)),some (pu p),some (szD z0 z1 z2 z3 z4 z5),some (.seq (W.map D.str))]=some (rl.map rO,[none,some (.lst ((I++rl.map (·.name)).map D.str)),some (pu u),some (szD z0 z1 z2 z3 z4 z5),some (.seq (W.map D.str))])/\OkP u/\rl.length=L.length/\(∀r∈rl,okR W r)/\(I++rl.map (·.name)).Nodup:=by
 intro L
 induction L with
 |nil=>intro p I q t _;exact⟨[],p,by simp only[rY,bh,Zv,Zj],q,rfl,fun r h=>(by cases h),by rw[Zv,Zj];exact t⟩
 |cons d L B =>
  intro p I q t J;rw[Zm]at J;obtain⟨r,p1,Q,o,G,H,C⟩:=G9 q (T:=I) (by lia) O z y
  obtain⟨rl,p2,v,m,s,l,f⟩:=B p1 (I++[r.name]) o (l8 t H) (by simp;lia)
  refine⟨r::rl,p2,?_,m,by rw[Zm,Zm,s],fun x j=>?_,by rw[ZV]at f;exact f⟩
  . rw[ZV]at v;simp! only[rY,bh,yi,Gp,Q,v,List.singleton_append]
  . rcases Zt.mp j with rfl | j
    . exact⟨G,C⟩
    . exact l x j
noncomputable def dz(f:List a4)(rl:List a4):List a4:=List.zipWith (fun a (r:a4)=>{ r with name:=a.name }) f rl
theorem lI:∀f rl,rl.length<=f.length->(dz f rl).map (·.name)=(f.take rl.length).map (·.name)
 |_,[],_=>by simp[dz]
 |[],_::_,h=>by cases h
 |a::f,r::rl,h=>by have:=lI f rl (Nat.le_of_succ_le_succ h);simp only[dz]at this ⊢;simp[this]
theorem qC:∀f rl,(∀r∈f,okR W r)->(∀r∈rl,okR W r)->∀r∈dz f rl,okR W r
 |[],_,_,_,r,h=>by simp[dz]at h
 |_::_,[],_,_,r,h=>by simp[dz]at h
 |a::f,b::rl,hf,hr,r,h=>by
  rcases Zt.mp (h)with rfl|h
  . have h1:=hf a (Zo ..);have h2:=hr b (Zo ..);exact⟨⟨h1.name,h2.p0,h2.p1,h2.stays,h2.len⟩,h2.ls⟩
  . exact qC f rl (fun x m=>hf x (Zp _ m)) (fun x m=>hr x (Zp _ m)) r h
def kQ(rl:Yg a4):shs (rl.map rT)=rl.map rT:=be y9 rl
def xw(rl:Yg a4):shs (rl.map rO)=rl.map rT:=be Nw rl
def yn(l:Yg ba):shs (l.map dO)=l.map dT:=be Ox l
def rM(l:Yg ba):shs (l.map dT)=l.map dT:=be wL l
theorem pc:∀f rl,bh 2 (fO [0,1]) (fun _=>some true) bq5 (List.zipWith (fun d e=>D.tup [d,e]) (f.map rT) (rl.map rT)) [none,none]=some ((dz f rl).map rT,[none,none])
 |[],rl=>by simp only[bq5,Zv,List.zipWith_nil_left,bh,dz]
 |a::f,[]=>by simp only[bq5,Zv,List.zipWith_nil_right,bh,dz]
 | a :: f,r :: rl=>by
  have l:=pc f rl;have j:sh (.tup [rT a,rT r])=.tup [rT a,rT r]:=by simp only[bq5,sh,shs,jz]
  have m:fO [0,1] (.tup [rT a,rT r]) [none,none]=some [some (rT a),some (rT r)]:=rfl;have o:u8 [D.str r.name,.int r.price,.bl r.hurry,.seq (r.stays.map cT)] (some 1) none=[.int r.price,.bl r.hurry,.seq (r.stays.map cT)]:=rfl;have fe:qk (bY (ae (vI (f2 gIx (ab 0) (fC (.int 0)))) ak)) (ul (aa 1) (faS (fC (.int 1))) faN) [some (rT a),some (rT r)]=some (rT { r with name:=a.name },[some (rT a),some (rT r)]):=by
   unfold qk;rw[show bY (ae (vI (f2 gIx (ab 0) (fC (.int 0)))) ak) [some (rT a),some (rT r)]=some (.tup [.str a.name],[some (rT a),some (rT r)]) by simp[ab,imm,w8]]
   rw[Zc];rw[show ul (aa 1) (faS (fC (.int 1))) faN [some (rT a),some (rT r)]=some (.tup [.int r.price,.bl r.hurry,.seq (r.stays.map cT)],[some (rT a),some (rT r)]) by
    unfold ul;simp! only[bq5,pP,Bool.true_and,true_and,faS,faN,asI,o];rfl]
   rfl
  simp only[bq5,Zu,List.zipWith_cons_cons,bh,j,m,Zc,Z6,fe,ME,l,dz]
structure okD(W B rn:List Str)(d:ba):Prop extends okDoor W B rn d where
 l2:d.conds.length<=2
 l3:d.deeds.length<=3
def MJ(d):own (dO d)=true:=by
 have:own (bw d.word)=true:=by cases d.word<;>rfl
 simp only[own,gb,Js,this,Bool.and_true]
def ym (G:rl ≠ []) (l:rl.length<=6) (J:W.length<=4) (I:bs.length<=3) (U:∀ b∈bnm bs,b ∉ W) (z:0<=z5) (v:z5<=60) (C:ws.length=3) (j:∀ w∈ws,aJ w):∀ L p,OkP p->∃ (ds:Yg ba) (t:Int×Int),bh 1 (gN 0) (fun _=>some true) wW L [none,some (.lst (bs.map aW)),some (pu p),some (.seq (rl.map rT)),some (szD z0 z1 z2 z3 z4 z5),some (.seq (W.map D.str)),some (.lst (ws.map D.str))]=some (ds.map dO,[none,some (.lst (bs.map aW)),some (pu t),some (.seq (rl.map rT)),some (szD z0 z1 z2 z3 z4 z5),some (.seq (W.map D.str)),some (.lst (ws.map D.str))])/\OkP t/\ds.length=L.length/\(∀ d∈ds,okD W (bnm bs) (rl.map (·.name)) d):=by
 intro L
 induction L with
 |nil=>intro p q;exact⟨[],p,rfl,q,rfl,fun d h=>(by cases h)⟩
 |cons x L B =>
  intro p q;obtain⟨d,p1,S,o,H,h2,O⟩:=Jh q G l J I U z v C j;obtain⟨ds,p2,Q,m,r,s⟩:=B p1 o;refine⟨d::ds,p2,?_,m,by rw[Zm,Zm,r],fun y f=>?_⟩
  . have u:=MJ d;simp[bh,ab,aa,sh,noo,imm,b7,cO,Gp,ik,aZ,S,u,g7,uH,show own (pu p1)=true from rfl,Q]
  . rcases Zt.mp f with rfl | f
    . exact⟨H,h2,O⟩
    . exact s y f
end
variable {rl2:Yg a4} {ms:Yg fJ}
abbrev mT(m:fJ):D:=.tup [.str m.name,.seq (m.rooms.map rT),.seq (m.doors.map dT)]
structure okM(W B:List Str)(m:fJ):Prop where
 name:aJ m.name
 rne:m.rooms≠[]
 rl:m.rooms.length<=6
 rooms:∀r∈m.rooms,okR W r
 nd:(m.rooms.map (·.name)).Nodup
 doors:∀d∈m.doors,okD W B (m.rooms.map (·.name)) d
def ES(m):sh (mT m)=mT m:=by simp only[sh,shs,kQ,rM]
section
variable {bs:Yg bG}
abbrev mcB:SQ:=wT
abbrev mS(p:Int×Int)(sz:D)(T W:List Str)(bs:List bG)(k:Option D)(ms:List fJ)(ws:List Str)(a b c d e f:Option D):DS:=[some (pu p),some sz,some (.lst (T.map D.str)),some (.seq (W.map D.str)),some (.lst (bs.map aW)),k,some (.lst (ms.map mT)),some (.lst (ws.map D.str)),a,b,c,d,e,f]
theorem ix0{n}(h:0<n):L2.ixN n 0=some 0:=by
 unfold L2.ixN;simp
 lia
theorem xl(m:OkS z0 z1 z2 z3 z4 z5){p1}{k a b c e}(u:OkP p1)(y:W.length<=4) :
 ∃(rl:Yg a4)(p:Int×Int),OkP p/\rl≠[]/\rl.length<=6/\(∀r∈rl,okR W r)/\(rl.map (·.name)).Nodup/\wV (mS p1 (szD z0 z1 z2 z3 z4 z5) T W bs k ms ws a b c (some (.lst [])) e f)=some (.lst (rl.map rO),mS p (szD z0 z1 z2 z3 z4 z5) T W bs k ms ws a b c (some (.lst ((rl.map (·.name)).map D.str))) e f):=by
 obtain⟨r,p2,B,t,x,C⟩:=aP u m.d0 (by have:=m.d1;lia)
 obtain⟨j,rfl⟩:=ZZ x;have hk:j<6:=by have:=m.d1;lia
 obtain⟨rl,p,v,s,l,q,o⟩:=xv y (by have:=m.f0;lia) m.f1 ((List.range (1+j)).map fun(i:Nat)=>D.int (i:Int)) p2 [] t Zy (by simp;lia)
 rw[Zl,List.length_range]at l;rw[Zi]at o;simp only[wX,vo,rY,Zv,Zi]at v;have src:vo (mS p1 (szD z0 z1 z2 z3 z4 z5) T W bs k ms ws a b c (some (.lst [])) e f)=some ((List.range (1+j)).map fun(i:Nat)=>D.int (i:Int),mS p2 (szD z0 z1 z2 z3 z4 z5) T W bs k ms ws a b c (some (.lst [])) e f):=iI (by lia) (by
  simp! only[wX,vo,rY,OJ,B];rw[show(1:Int)+(j:Int)=((1+j:Nat):Int) by lia])
 have tk:takes ([11,0,1,3].map AK.lent) (mS p2 (szD z0 z1 z2 z3 z4 z5) T W bs k ms ws a b c (some (.lst [])) e f)=some ([.lst [],pu p2,szD z0 z1 z2 z3 z4 z5,.seq (W.map D.str)],[none,some (szD z0 z1 z2 z3 z4 z5),some (.lst (T.map D.str)),some (.seq (W.map D.str)),some (.lst (bs.map aW)),k,some (.lst (ms.map mT)),some (.lst (ws.map D.str)),a,b,c,none,e,f]):=rfl;refine⟨rl,p,s,fun z=>by rw[z]at l;simp at l;lia,by lia,q,o,?_⟩
 rw[wV,bJ src tk v (by rw[Zl];lia)]
 rfl
theorem CY {p3} {a b c d} (v:OkP p3) (p:rl ≠ []) (H:rl.length<=6) (o:∀ r∈rl,okR W r) (u:(rl.map (·.name)).Nodup) (G:∀ m∈ms,okM W (bnm bs) m) :
 ∃rl2 s,OkP s/\rl2≠[]/\rl2.length<=6/\(∀r∈rl2,okR W r)/\(rl2.map (·.name)).Nodup/\lW nL nM bd (mS p3 (szD z0 z1 z2 z3 z4 z5) T W bs (some (.int (ms.length:Nat))) ms ws a b c d (some (.seq (rl.map rT))) f)=some (.nx (mS s (szD z0 z1 z2 z3 z4 z5) T W bs (some (.int (ms.length:Nat))) ms ws a b c d (some (.seq (rl2.map rT))) f)):=by
 cases ms with
 |nil =>
  refine⟨rl,p3,v,p,H,o,u,?_⟩;have z:((((0:Nat):Int)>0))=False:=eq_false (by lia)
  simp[ab,z]
 | cons l ms =>
  have y:=G l (Zo ..);have z:((((l::ms).length:Nat):Int)>0)=True:=eq_true (by simp)
  by_cases B:(rl.length:Int)<=(l.rooms.length:Int)
  . have j:=eq_true B;obtain ⟨t,s,I,x,S,Q⟩:=aP v (m:=3) (by decide) (by decide)
    cases h1:(t==1)with
    |false =>refine⟨rl,s,x,p,H,o,u,?_⟩;simp only[nM,nL,bq5,nD,Ah,FP,yj,u3,iY,gc,e_C,dD,pD,db,cR,gZ,fH,fG,iW,cA,bS,dY,fZ,ab,aa,jw,Ai,iN,tU,nE,noo,imm,Zc,Zu,Zl,Zd,Ze,Zf,ZR,Z6,if_false,decide_true,z,Zu,Av,sJ,j,I,h1];simp only[nM,nL,bq5,mS,Zu]
    |true =>
     have C:(dz l.rooms rl).length=rl.length:=by simp[dz];lia
     refine⟨dz l.rooms rl,s,x,fun q=>?_,by lia,qC _ _ y.rooms o,?_,?_⟩
     . rw[q]at C;exact p (List.length_eq_zero_iff.mp C.symm)
     . rw [lI _ _ (by lia)]
       exact List.Nodup.sublist (List.Sublist.map _ (List.take_sublist _ _)) y.nd
     . have L:uk (eO (wAt 6 (pIx 6 (fC (.int 0)) aC)) (fC (.int 1))) (aa 12) (mS s (szD z0 z1 z2 z3 z4 z5) T W bs (some (.int ((l :: ms).length:Nat))) (l :: ms) ws a b c d (some (.seq (rl.map rT))) f)=some (List.zipWith (fun d e=>D.tup [d,e]) (l.rooms.map rT) (rl.map rT),mS s (szD z0 z1 z2 z3 z4 z5) T W bs (some (.int ((l :: ms).length:Nat))) (l :: ms) ws a b c d (some (.seq (rl.map rT))) f):=by
        have O:L2.ixN ((ms.map mT).length+1) 0=some 0:=ix0 (by lia)
        simp only[nM,nL,bq5,uk,eO,wAt,e_C,aa,aC,pIx,atP,sh,noo,pP,Zc,Zu,Zi,Zm,Zd,Ze,Zf,Zg,Z6,Bool.and_self,and_self,O,sJ,kQ]
       have J:=bJ (js:=[]) (cs:=[]) L rfl (pc l.rooms rl) (by rw[Zl];lia)
       simp only[nM,nL,bq5,Ah,FN,bP,yj,u3,iY,gc,e_C,dD,pD,db,cR,gZ,fH,fG,iW,cA,bS,dY,fZ,ab,aa,jw,Ai,iN,tU,nE,noo,imm,Zc,Zu,Zl,Zd,Ze,Zf,ZR,Z6,if_false,decide_true,z,Zu,Av,sJ,j,I,h1];simp only[nM,nL,bq5,mS,Zu]at J;rw[J];simp only[nM,nL,bq5,bS,sh,Zc,Zu,Zv,Zm,Zf,Zg,mS,kQ]
  . have j:((rl.length:Int)<=(l.rooms.length:Int))=False:=eq_false B;refine⟨rl,p3,v,p,H,o,u,?_⟩;simp only[nM,nL,bq5,nD,Ah,FP,yj,u3,Jc,iY,gc,e_C,dD,cR,gZ,fH,ab,jw,iN,tU,nE,Zc,Zu,Zl,Zd,Ze,decide_true,decide_false,z,Zu,Av,sJ,j]
theorem xn(s:OkS z0 z1 z2 z3 z4 z5){q}(G:q<=24){k g a b c d:Ye D}(o:OkP p5)(z:W.length<=4)(y:bs.length<=3)(C:∀b∈bnm bs,b∉W)(u:ws.length=3)(l:∀w∈ws,aJ w)(p:rl2≠[])(v:rl2.length<=6) :
 ∃(ds:Yg ba)(j:Int×Int),OkP j/\ds.length=q/\(∀x∈ds,okD W (bnm bs) (rl2.map (·.name)) x)/\aA (dH (aa 13)) 1 [4,0,12,1,3,7] (gN 0) (fun _=>some true) wW [some (pu p5),some (szD z0 z1 z2 z3 z4 z5),some (.lst (T.map D.str)),some (.seq (W.map D.str)),some (.lst (bs.map aW)),k,g,some (.lst (ws.map D.str)),a,b,c,d,some (.seq (rl2.map rT)),some (.int q)]=some (.lst (ds.map dO),[some (pu j),some (szD z0 z1 z2 z3 z4 z5),some (.lst (T.map D.str)),some (.seq (W.map D.str)),some (.lst (bs.map aW)),k,g,some (.lst (ws.map D.str)),a,b,c,d,some (.seq (rl2.map rT)),some (.int q)]):=by
 obtain⟨ds,j,B,m,f,r⟩:=ym p v z y C (by have:=s.f0;lia) s.f1 u l ((List.range q).map fun(i:Nat)=>D.int (i:Int)) p5 o
 rw[Zl,List.length_range]at f;refine⟨ds,j,m,f,r,?_⟩;have t:aa 13 [some (pu p5),some (szD z0 z1 z2 z3 z4 z5),some (.lst (T.map D.str)),some (.seq (W.map D.str)),some (.lst (bs.map aW)),k,g,some (.lst (ws.map D.str)),a,b,c,d,some (.seq (rl2.map rT)),some (.int q)]=some (.int q,[some (pu p5),some (szD z0 z1 z2 z3 z4 z5),some (.lst (T.map D.str)),some (.seq (W.map D.str)),some (.lst (bs.map aW)),k,g,some (.lst (ws.map D.str)),a,b,c,d,some (.seq (rl2.map rT)),some (.int q)]):=rfl;have tk:takes ([4,0,12,1,3,7].map AK.lent) [some (pu p5),some (szD z0 z1 z2 z3 z4 z5),some (.lst (T.map D.str)),some (.seq (W.map D.str)),some (.lst (bs.map aW)),k,g,some (.lst (ws.map D.str)),a,b,c,d,some (.seq (rl2.map rT)),some (.int q)]=some ([.lst (bs.map aW),pu p5,.seq (rl2.map rT),szD z0 z1 z2 z3 z4 z5,.seq (W.map D.str),.lst (ws.map D.str)],[none,some (szD z0 z1 z2 z3 z4 z5),some (.lst (T.map D.str)),some (.seq (W.map D.str)),none,k,g,none,a,b,c,d,some (.seq (rl2.map rT)),some (.int q)]):=rfl;rw[bJ (iI (by lia) t) tk B (by rw[Zl];lia)]
 rfl
theorem Gv{cmp}{p6}{sz}{ds}{n}{k a b d}(j:ms.length<=100)(h:cmp [some (pu p5),some sz,some (.lst (T.map D.str)),some (.seq (W.map D.str)),some (.lst (bs.map aW)),k,none,some (.lst (ws.map D.str)),a,b,some (.str n),d,some (.seq (rl2.map rT)),f]=some (.lst (ds.map dO),[some (pu p6),some sz,some (.lst (T.map D.str)),some (.seq (W.map D.str)),some (.lst (bs.map aW)),k,none,some (.lst (ws.map D.str)),a,b,some (.str n),d,some (.seq (rl2.map rT)),f])) :
 cP 6 aC (bE 6 (bY (ae (aa 10) (ae (aa 12) (ae (AE cmp) ak))))) (mS p5 sz T W bs k ms ws a b (some (.str n)) d (some (.seq (rl2.map rT))) f)=some (.nx (mS p6 sz T W bs k (ms++[⟨n,rl2,ds⟩]) ws a b (some (.str n)) d (some (.seq (rl2.map rT))) f)):=by
 have l:((ms.map mT).length<=999)=True:=eq_true (by rw[Zl];lia)
 simp! only[lR,AE,h,yn,l];simp only[mS,Zw,Zu,Zv]
theorem BB(l:OkS z0 z1 z2 z3 z4 z5){p}{a b c d e}(hp:OkP p)(hT:T.length<=19)(V:W.length<=4)(hb:bs.length<=3)(dj:∀b∈bnm bs,b∉W)(hw:ws.length=3)(v:∀w∈ws,aJ w)(L:∀m∈ms,okM W (bnm bs) m)(O:ms.length<=100) :
 ∃m U c' d' e' f',mcB (mS p (szD z0 z1 z2 z3 z4 z5) T W bs (some (.int (ms.length:Nat))) ms ws a b c d e f)=some (.nx (mS U (szD z0 z1 z2 z3 z4 z5) (T++[m.name]) W bs (some (.int (ms.length:Nat))) (ms++[m]) ws a b c' d' e' f'))/\OkP U/\okM W (bnm bs) m/\m.name∉T/\(m.doors.length:Int)<=z4:=by
 obtain⟨n,p1,e1,H,hn,J⟩:=m7 hp (T:=T) (by lia)
 obtain⟨rl,u,G,I,hl,y,x,e3⟩:=xl (e:=e) (f:=f) l H V;obtain⟨rl2,p4,C,j,s,r,o,e4⟩:=CY (W:=W) (bs:=bs) (z0:=z0) (z1:=z1) (z2:=z2) (z3:=z3) (z4:=z4) (z5:=z5) (ws:=ws) (T:=T++[n]) (ms:=ms) (a:=a) (b:=b) (c:=some (.str n)) (d:=some (.lst ((rl.map (·.name)).map D.str))) (f:=f) G I hl y x L;have hz4:z4<=24:=by
  have h1:=l.e0;have h2:=l.e1;have h3:=l.c0;have:z4*1<=z4*z2:=Int.mul_le_mul_of_nonneg_left h3 h1;rw[Int.mul_comm z4 z2]at this
  lia
 obtain⟨t,p5,e5,B,X,t1⟩:=aP C (m:=z4+1) (by have:=l.e0;lia) (by lia)
 obtain⟨q,rfl⟩:=ZZ X;obtain⟨ds,S,z,hl6,Q,e6⟩:=xn (W:=W) (bs:=bs) (ws:=ws) (T:=T++[n]) (rl2:=rl2) (q:=q) (k:=some (.int (ms.length:Nat))) (g:=none) (a:=a) (b:=b) (c:=some (.str n)) (d:=some (.lst ((rl.map (·.name)).map D.str))) l (by lia) B V hb dj hw v j s
 refine⟨⟨n,rl2,ds⟩,S,some (.str n),some (.lst ((rl.map (·.name)).map D.str)),some (.seq (rl2.map rT)),some (.int q),?_,z,⟨hn,j,s,r,o,Q⟩,J,by show(ds.length:Int)<=z4;lia⟩
 have s1:aj [some 0,some 2] bK (ae (aa 0) (ae (aa 2) ak)) (mS p (szD z0 z1 z2 z3 z4 z5) T W bs (some (.int (ms.length:Nat))) ms ws a b c d e f)=some (.str n,mS p1 (szD z0 z1 z2 z3 z4 z5) (T++[n]) W bs (some (.int (ms.length:Nat))) ms ws a b c d e f):=by simp[aa,noo,e1]
 have Z:aj [some 0,none] aK bq2 (mS p4 (szD z0 z1 z2 z3 z4 z5) (T++[n]) W bs (some (.int (ms.length:Nat))) ms ws a b (some (.str n)) (some (.lst ((rl.map (·.name)).map D.str))) (some (.seq (rl2.map rT))) f)=some (.int q,mS p5 (szD z0 z1 z2 z3 z4 z5) (T++[n]) W bs (some (.int (ms.length:Nat))) ms ws a b (some (.str n)) (some (.lst ((rl.map (·.name)).map D.str))) (some (.seq (rl2.map rT))) f):=by simp[ab,aa,noo,imm,OI,e5]
 have Y:cP 6 aC yC (mS p5 (szD z0 z1 z2 z3 z4 z5) (T++[n]) W bs (some (.int (ms.length:Nat))) ms ws a b (some (.str n)) (some (.lst ((rl.map (·.name)).map D.str))) (some (.seq (rl2.map rT))) (some (.int q)))=some (.nx (mS S (szD z0 z1 z2 z3 z4 z5) (T++[n]) W bs (some (.int (ms.length:Nat))) (ms++[⟨n,rl2,ds⟩]) ws a b (some (.str n)) (some (.lst ((rl.map (·.name)).map D.str))) (some (.seq (rl2.map rT))) (some (.int q)))):=by exact Gv O e6
 unfold mcB wT;rw[bM,bP,s1,Zc,dC,bM,pv];rw[show cI ak (List.set (D.str n,mS p1 (szD z0 z1 z2 z3 z4 z5) (T++[n]) W bs (some (.int (ms.length:Nat))) ms ws a b c d e f).2 10 (some (sh (D.str n,mS p1 (szD z0 z1 z2 z3 z4 z5) (T++[n]) W bs (some (.int (ms.length:Nat))) ms ws a b c d e f).1)))=some (.lst [],mS p1 (szD z0 z1 z2 z3 z4 z5) (T++[n]) W bs (some (.int (ms.length:Nat))) ms ws a b (some (.str n)) d e f)from rfl,Zc,dC,bM,bP]
 rw[show(List.set (D.lst [],mS p1 (szD z0 z1 z2 z3 z4 z5) (T++[n]) W bs (some (.int (ms.length:Nat))) ms ws a b (some (.str n)) d e f).2 11 (some (D.lst [],mS p1 (szD z0 z1 z2 z3 z4 z5) (T++[n]) W bs (some (.int (ms.length:Nat))) ms ws a b (some (.str n)) d e f).1))=mS p1 (szD z0 z1 z2 z3 z4 z5) (T++[n]) W bs (some (.int (ms.length:Nat))) ms ws a b (some (.str n)) (some (.lst [])) e f from rfl,e3,Zc,dC,bM]
 rw[show(List.set (D.lst (rl.map rO),mS u (szD z0 z1 z2 z3 z4 z5) (T++[n]) W bs (some (.int (ms.length:Nat))) ms ws a b (some (.str n)) (some (.lst ((rl.map (·.name)).map D.str))) e f).2 12 (some (sh (D.lst (rl.map rO),mS u (szD z0 z1 z2 z3 z4 z5) (T++[n]) W bs (some (.int (ms.length:Nat))) ms ws a b (some (.str n)) (some (.lst ((rl.map (·.name)).map D.str))) e f).1)))=mS u (szD z0 z1 z2 z3 z4 z5) (T++[n]) W bs (some (.int (ms.length:Nat))) ms ws a b (some (.str n)) (some (.lst ((rl.map (·.name)).map D.str))) (some (.seq (rl.map rT))) f from by
  simp only[wX,vo,bq2,rY,wW,nM,nL,yC,wV,Cg,bq5,wT,sh,xw,mS,Zf,Zg],e4,dC,bM,bP,Z,Zc,dC]
 exact Y
end
variable {o5:Ye D} {k':Str}
structure okNet(n:nU):Prop where
 lw:n.watches.length<=4
 lb:n.boxes.length<=3
 m1:1<=n.machines.length
 m2:n.machines.length<=4
 nd:(n.watches++bnm n.boxes++n.machines.map (·.name)).Nodup
 wn:∀w∈n.watches,aJ w
 bx:∀b∈n.boxes,tz b
 mc:∀m∈n.machines,okM n.watches (bnm n.boxes) m
 dl:(n.machines.map fun m=>m.doors.length).sum<=24
section
variable {bs:Yg bG}
theorem BC{s}(h:∀p T ms a b c d e f,OkP p->T.length<=19->(∀m∈ms,okM W (bnm bs) m)->ms.length<=100->∃m r O d' L J,s (mS p (szD z0 z1 z2 z3 z4 z5) T W bs (some (.int (ms.length:Nat))) ms ws a b c d e f)=some (.nx (mS r (szD z0 z1 z2 z3 z4 z5) (T++[m.name]) W bs (some (.int (ms.length:Nat))) (ms++[m]) ws a b O d' L J))/\OkP r/\okM W (bnm bs) m/\m.name∉T/\(m.doors.length:Int)<=z4) :
 ∀j p T ms k a b c d e f,OkP p->T.Nodup->T.length+j<=19->(∀m∈ms,okM W (bnm bs) m)->ms.length+j<=100->(∀m∈ms,(m.doors.length:Int)<=z4)->∃(o:Yg fJ)(r:Int×Int)(k' O d' L J:Ye D),cL (gN 5) s ((List.range' ms.length j).map fun(i:Nat)=>D.int (i:Int)) (mS p (szD z0 z1 z2 z3 z4 z5) T W bs k ms ws a b c d e f)=some (.nx (mS r (szD z0 z1 z2 z3 z4 z5) (T++o.map (·.name)) W bs k' (ms++o) ws a b O d' L J))/\OkP r/\(T++o.map (·.name)).Nodup/\(∀m∈o,okM W (bnm bs) m)/\(∀m∈o,(m.doors.length:Int)<=z4)/\o.length=j:=by
 intro j
 induction j with
 |zero =>intro p T ms k a b c d e f C I _ q _ _;exact⟨[],p,k,c,d,e,f,by simp only[List.range'_zero,Zv,cL,Zj],C,by rw[Zv,Zj];exact I,fun m h=>(by cases h),fun m h=>(by cases h),rfl⟩
 | succ j X =>
  intro p T ms k a b c d e f C I hl q Z hd;obtain⟨m,p1,c1,d1,e1,f1,S,B,Q,Y,u⟩:=h p T ms a b c d e f C (by lia) q (by lia)
  obtain⟨o,p2,V,c2,d2,e2,f2,y,z,t,H,G,v⟩:=X p1 (T++[m.name]) (ms++[m]) (some (.int (ms.length:Nat))) a b c1 d1 e1 f1 B (l8 I Y) (by simp;lia) (fun x l=>by
   rcases Zs.mp l with h|h
   . exact q x h
   . rw[Zq.mp h];exact Q) (by simp;lia) (fun x l=>by
   rcases Zs.mp l with h|h
   . exact hd x h
   . rw[Zq.mp h];exact u)
  refine⟨m::o,p2,V,c2,d2,e2,f2,?_,z,by rw[ZV]at t;exact t,fun x l=>?_,fun x l=>?_,by rw[Zm,v]⟩
  . rw [ZV,ZV] at y;rw [List.range'_succ,Zu];have U:(ms++[m]).length=ms.length+1:=by simp
    rw[U]at y;have g5:gN 5 (sh (.int (ms.length:Nat))) (mS p (szD z0 z1 z2 z3 z4 z5) T W bs k ms ws a b c d e f)=some (mS p (szD z0 z1 z2 z3 z4 z5) T W bs (some (.int (ms.length:Nat))) ms ws a b c d e f):=rfl;simp only[cL,g5,Zc,S];exact y
  . rcases Zt.mp l with rfl | l
    . exact Q
    . exact H x l
  . rcases Zt.mp l with rfl | l
    . exact u
    . exact G x l
theorem xd{sz t w bx m}:∀L p(ws:Yg Str) o q s,OkP p->(∀x∈ws,aJ x)->ws.length+L.length<=20->∃(f:Yg Str)(z:Int×Int)(o':Ye D),cL (gN 5) (bI (aj [some 0,some 7] bK (ae (aa 0) (ae (aa 7) ak)))) L [some (pu p),some sz,some t,some w,some bx,o,some m,some (.lst (ws.map D.str)),q,s,none,none,none,none]=some (.nx [some (pu z),some sz,some t,some w,some bx,o',some m,some (.lst (f.map D.str)),q,s,none,none,none,none])/\OkP z/\(∀x∈f,aJ x)/\f.length=ws.length+L.length:=by
 intro L
 induction L with
 |nil=>intro p ws o q s v l _;exact⟨ws,p,o,rfl,v,l,rfl⟩
 | cons d L B =>
  intro p ws o q s v l I;rw[Zm]at I;obtain⟨n,p1,O,u,H,G⟩:=m7 v (T:=ws) (by lia)
  obtain⟨f,p2,o',J,r,j,y⟩:=B p1 (ws++[n]) (some (sh d)) q s u (fun x C=>by
   rcases Zs.mp C with h|h
   . exact l x h
   . rw[Zq.mp h];exact H) (by simp;lia)
  refine⟨f,p2,o',?_,r,j,by rw[y,Zk,Zm,Zm,Zn];lia⟩
  simp! only[cL,O];exact J
end
abbrev xL(n:nU):D:=.tup [.seq (n.watches.map D.str),.lst (n.boxes.map aW),.lst (n.machines.map mT)]
theorem Ks{l:Yg fJ}{z}(h:∀m∈l,m.doors.length<=z):(l.map fun m=>m.doors.length).sum<=l.length*z:=by
 induction l with
 |nil=>simp
 |cons m l f =>
  have:=f fun x j=>h x (Zp _ j)
  have:=h m (Zo ..);rw[Zu,List.sum_cons,Zm,Nat.succ_mul]
  lia
def EL{cw}{fb fw fm}{p p2 p4 p7}{sz}{m:Yg Str}{bs:Yg bG}{o4 q4 s4 k7 c7 d7 e7 f7}
 (h2:cw [some (pu p),some sz,some (.lst []),none,none,none,none,none,none,none,none,none,none,none]=some (.lst (W.map D.str),[some (pu p2),some sz,some (.lst (W.map D.str)),none,none,none,none,none,none,none,none,none,none,none]))
 (l:fb [some (pu p2),some sz,some (.lst (W.map D.str)),some (.seq (W.map D.str)),some (.lst []),none,none,none,none,none,none,none,none,none]=some (.nx [some (pu p4),some sz,some (.lst (T.map D.str)),some (.seq (W.map D.str)),some (.lst (bs.map aW)),o4,none,none,q4,s4,none,none,none,none]))
 (j:fw [some (pu p4),some sz,some (.lst (T.map D.str)),some (.seq (W.map D.str)),some (.lst (bs.map aW)),o4,some (.lst []),some (.lst []),q4,s4,none,none,none,none]=some (.nx [some (pu p5),some sz,some (.lst (T.map D.str)),some (.seq (W.map D.str)),some (.lst (bs.map aW)),o5,some (.lst []),some (.lst (ws.map D.str)),q4,s4,none,none,none,none]))
 (f:fm [some (pu p5),some sz,some (.lst (T.map D.str)),some (.seq (W.map D.str)),some (.lst (bs.map aW)),o5,some (.lst []),some (.lst (ws.map D.str)),q4,s4,none,none,none,none]=some (.nx [some (pu p7),some sz,some (.lst (m.map D.str)),some (.seq (W.map D.str)),some (.lst (bs.map aW)),k7,some (.lst (ms.map mT)),some (.lst (ws.map D.str)),q4,s4,c7,d7,e7,f7])) :
 aE 2 ((ah (dB 2 (cI ak)) (ah (aB 3 cw) (ah (dB 4 (cI ak)) (ah fb (ah (dB 6 (cI ak)) (ah (dB 7 (cI ak)) (ah fw (ah fm (aR (bY (ae (aa 3) (ae (aa 4) (ae (aa 6) ak))))))))))))) (Dl.start 14 [pu p,sz]))=some (.tup [.seq (W.map D.str),.lst (bs.map aW),.lst (ms.map mT)],[some (pu p7),some sz]):=by
 simp[Dl.start,aE,aa,sh,noo,ZU,h2,l,j,f]
theorem L8(j:OkS z0 z1 z2 z3 z4 z5){p:Int×Int}(hp:OkP p):∃(n:nU)(fin:DS),jN [pu p,szD z0 z1 z2 z3 z4 z5]=some (xL n,fin)/\okNet n:=by
 obtain⟨r1,p1,e1,hp1,a0,a1⟩:=aP hp (m:=z0+1) (by have:=j.a0;lia) (by have:=j.a1;lia)
 obtain⟨S,rfl⟩:=ZZ a0;have hk1:S<=4:=by have:=j.a1;lia
 obtain⟨W,p2,e2,hp2,hl2,hW,I⟩:=xM ((List.range S).map fun(i:Nat)=>D.int (i:Int)) p1 [] hp1 Zy (by simp;lia)
 rw[Zl,List.length_range]at hl2;simp only[Cn,Cm,wX,Ck,vo,bq2,rY,wW,nM,nL,yC,wV,Cg,bq5,wT,Zv,Zi]at e2 I;have C:dH Cn [some (pu p),some (szD z0 z1 z2 z3 z4 z5),some (.lst []),none,none,none,none,none,none,none,none,none,none,none]=some ((List.range S).map fun(i:Nat)=>D.int (i:Int),[some (pu p1),some (szD z0 z1 z2 z3 z4 z5),some (.lst []),none,none,none,none,none,none,none,none,none,none,none]):=iI (by lia) (by simp[ab,aa,noo,imm,OM,e1])
 have L:takes ([0,2].map AK.lent) [some (pu p1),some (szD z0 z1 z2 z3 z4 z5),some (.lst []),none,none,none,none,none,none,none,none,none,none,none]=some ([pu p1,.lst []],[none,some (szD z0 z1 z2 z3 z4 z5),none,none,none,none,none,none,none,none,none,none,none,none]):=rfl;have c2:=bJ C L e2 (by rw[Zl];lia)
 obtain⟨r3,p3,e3,Z,b0,b1⟩:=aP hp2 (m:=z1+1) (by have:=j.b0;lia) (by have:=j.b1;lia)
 obtain⟨J,rfl⟩:=ZZ b0;have hk3:J<=3:=by have:=j.b1;lia
 obtain⟨bs,O,Q,v,u,e4,Y,H,hbo,hbl⟩:=yD (W:=W) (z0:=z0) (z1:=z1) (z2:=z2) (z3:=z3) (z4:=z4) (z5:=z5) ((List.range J).map fun(i:Nat)=>D.int (i:Int)) p3 W [] none none none Z I (by simp;lia) (by simp) (fun b h=>(by cases h))
 rw[Zl,List.length_range,Zn,Nat.zero_add]at hbl;have B:dH Cm [some (pu p2),some (szD z0 z1 z2 z3 z4 z5),some (.lst (W.map D.str)),some (.seq (W.map D.str)),some (.lst []),none,none,none,none,none,none,none,none,none]=some ((List.range J).map fun(i:Nat)=>D.int (i:Int),[some (pu p3),some (szD z0 z1 z2 z3 z4 z5),some (.lst (W.map D.str)),some (.seq (W.map D.str)),some (.lst []),none,none,none,none,none,none,none,none,none]):=iI (n:=J) (by lia) (by simp[ab,aa,noo,imm,OL,e3])
 have f4:=iL B e4;obtain⟨ws,p5,o5,e5,X,U,o⟩:=xd (sz:=szD z0 z1 z2 z3 z4 z5) (t:=.lst ((W++bnm bs).map D.str)) (w:=.seq (W.map D.str)) (bx:=.lst (bs.map aW)) (m:=.lst []) ((List.range 3).map fun(i:Nat)=>D.int (i:Int)) O [] Q v u Y (fun x h=>(by cases h)) (by simp)
 have o:ws.length=3:=by simpa using o
 have z:dH (vI (fC (.int 3))) [some (pu O),some (szD z0 z1 z2 z3 z4 z5),some (.lst ((W++bnm bs).map D.str)),some (.seq (W.map D.str)),some (.lst (bs.map aW)),Q,some (.lst []),some (.lst []),v,u,none,none,none,none]=some ((List.range 3).map fun(i:Nat)=>D.int (i:Int),[some (pu O),some (szD z0 z1 z2 z3 z4 z5),some (.lst ((W++bnm bs).map D.str)),some (.seq (W.map D.str)),some (.lst (bs.map aW)),Q,some (.lst []),some (.lst []),v,u,none,none,none,none]):=iI (n:=3) (by decide) (by simp only[Cn,Cm,wX,Ck,vo,bq2,rY,wW,nM,nL,yC,wV,Cg,bq5,wT,e_C,db,imm,Zc,Z6];rfl)
 have f5:=iL z e5;obtain⟨r6,p6,e6,V,c0,c1⟩:=aP X (m:=z2) j.c0 (by have:=j.c1;lia)
 obtain⟨l,rfl⟩:=ZZ c0;have hk6:l<=3:=by have:=j.c1;lia
 have dj:∀b∈bnm bs,b∉W:=fun b hb hw=>(Z0.mp H).2.2 b hw b hb rfl
 obtain⟨ms,p7,k7,c7,d7,e7',f7',e7,hp7,hnd,q,hmz,r⟩:=BC (W:=W) (bs:=bs) (ws:=ws) (z0:=z0) (z1:=z1) (z2:=z2) (z3:=z3) (z4:=z4) (z5:=z5) (s:=mcB) (fun p T ms a b c d e f hp hT q r=>BB j hp hT (by lia) (by lia) dj o U q r) (1+l) p6 (W++bnm bs) [] o5 v u none none none none V H (by simp;lia) (fun m h=>(by cases h)) (by simp;lia) (fun m h=>(by cases h))
 have y:dH Ck [some (pu p5),some (szD z0 z1 z2 z3 z4 z5),some (.lst ((W++bnm bs).map D.str)),some (.seq (W.map D.str)),some (.lst (bs.map aW)),o5,some (.lst []),some (.lst (ws.map D.str)),v,u,none,none,none,none]=some ((List.range (1+l)).map fun(i:Nat)=>D.int (i:Int),[some (pu p6),some (szD z0 z1 z2 z3 z4 z5),some (.lst ((W++bnm bs).map D.str)),some (.seq (W.map D.str)),some (.lst (bs.map aW)),o5,some (.lst []),some (.lst (ws.map D.str)),v,u,none,none,none,none]):=iI (n:=1+l) (by lia) (by
  simp! only[Cn,Cm,wX,Ck,vo,bq2,rY,wW,nM,nL,yC,wV,Cg,bq5,wT,OK,e6];rw[show(1:Int)+(l:Int)=((1+l:Nat):Int) by lia])
 rw[show([]:Yg fJ).length=0 from rfl,<- List.range_eq_range']at e7
 simp only[Cn,Cm,wX,Ck,vo,bq2,rY,wW,nM,nL,yC,wV,Cg,bq5,wT,mS,Zv,Zi]at e7;have f7:=iL y e7;have G:∀m∈ms,m.doors.length<=z4.toNat:=fun m hm=>by have:=hmz m hm;have:=j.e0;lia
 refine⟨⟨W,bs,ms⟩,[some (pu p7),some (szD z0 z1 z2 z3 z4 z5)],?_,⟨by show W.length<=4;lia,by show bs.length<=3;lia,by show 1<=ms.length;lia,by show ms.length<=4;lia,hnd,hW,hbo,q,?_⟩⟩
 rotate_left
 . refine ZY (Ks G) ?_;rw [r];have h1:=j.e0;have h2:=j.e1;have h3:(((1+l:Nat):Int))<=z2:=by lia
   have h4:((1+l:Nat):Int)*z4<=z2*z4:=Int.mul_le_mul_of_nonneg_right h3 h1;have h5:(((1+l)*z4.toNat:Nat):Int)=((1+l:Nat):Int)*z4:=by rw[Int.natCast_mul,Int.toNat_of_nonneg h1]
   lia
 . unfold jN mI;exact EL c2 f4 f5 f7
variable {vs ys:Yg Str}
noncomputable abbrev J(ws:List Str):Str:=Str.join ⟨#[32]⟩ ws
def Wd(w:Str):Prop:=Fr 32 w/\Fr 10 w/\w.length<=40
instance(w:Str):Decidable (Wd w):=by unfold Wd Fr;exact inferInstance
theorem cK{w}(h:aJ w):Wd w:=⟨fun m=>by have:=h.2.2 _ m;lia,fun m=>by have:=h.2.2 _ m;lia,by have:=h.2.1;lia⟩
theorem j6(h:i.natAbs<10^31):Wd (num i):=⟨xJ _ (by decide) (by decide),xJ _ (by decide) (by decide),by have:=kT h;lia⟩
theorem Iz(h:i.natAbs<10^31):Wd (num i++(⟨#[44]⟩:Str)):=⟨(j6 h).1.app (by unfold Fr;decide),(j6 h).2.1.app (by unfold Fr;decide),by
 have:=kT h;rw[aX];show _+1<=40;lia⟩
theorem Ay:∀{ws},(∀w∈ws,Wd w)->(J ws).length<=41*ws.length
 |[],_=>by simp[J,Str.join,Str.empty,Str.length]
 |[x],h=>by
  have:=(h x (by simp)).2.2
  show x.length<=41*1
  lia
 |x::y::r,h=>by
  have:=(h x (by simp)).2.2
  have h2:=Ay fun w m=>h w (Zp _ m)
  unfold J at h2 ⊢;rw[aM,aX,aX];show x.length+(1+_)<=_;simp only[Zm]at h2 ⊢
  lia
def GD(h:ws≠[])(g:vs≠[]):J (ws++vs)=J ws++((⟨#[32]⟩:Str)++J vs):=qZ _ h g
def C6:Str.ofString " price " = (⟨#[32]⟩:Str)++(Str.ofString "price" ++ (⟨#[32]⟩:Str)):=by decide +kernel
def C8:Str.ofString " hurry" = (⟨#[32]⟩:Str)++Str.ofString "hurry":=by decide +kernel
def xo:Str.ofString " weather" = (⟨#[32]⟩:Str)++Str.ofString "weather":=by decide +kernel
def GW:Str.ofString " stay " = (⟨#[32]⟩:Str)++(Str.ofString "stay" ++ (⟨#[32]⟩:Str)):=by decide +kernel
def GV:Str.ofString " when " = (⟨#[32]⟩:Str)++(Str.ofString "when" ++ (⟨#[32]⟩:Str)):=by decide +kernel
def Nn:Str.ofString " do " = (⟨#[32]⟩:Str)++(Str.ofString "do" ++ (⟨#[32]⟩:Str)):=by decide +kernel
def GX:Str.ofString "room " = Str.ofString "room" ++ (⟨#[32]⟩:Str):=by decide +kernel
def GZ:Str.ofString "door " = Str.ofString "door" ++ (⟨#[32]⟩:Str):=by decide +kernel
def C5:Str.ofString "watch " = Str.ofString "watch" ++ (⟨#[32]⟩:Str):=by decide +kernel
def GY:Str.ofString "machine " = Str.ofString "machine" ++ (⟨#[32]⟩:Str):=by decide +kernel
def vL:Str.ofString ", " = (⟨#[44]⟩:Str)++(⟨#[32]⟩:Str):=by decide +kernel
def M7{k}(h:ws≠[])(g:vs≠[]):J ws++((⟨#[32]⟩:Str)++(k++(⟨#[32]⟩:Str)))++J vs=J (ws++k::vs):=by
 rw[GD h (List.cons_ne_nil _ _)];cases vs with
 |nil=>exact absurd rfl g
 |cons v vs =>unfold J;rw[aM];simp only[cG]
def OV{k}(h:ws≠[]):J ws++((⟨#[32]⟩:Str)++k)=J (ws++[k]):=by rw[GD h (List.cons_ne_nil _ _)];rfl
def ct (c:Str×Str×Int):Str:=c.1++Str.ofString " " ++ c.2.1++Str.ofString " " ++ num c.2.2
def Kf(c:Str×Str×Int):ct c=J [c.1,c.2.1,num c.2.2]:=by unfold ct J;rw[aM,aM,fX];simp only[cG];rfl
def JI{cs}(h:cs≠[]):tw cs≠[]:=by
 cases cs with
 |nil=>exact absurd rfl h
 |cons c r=>cases r<;>exact List.cons_ne_nil _ _
theorem tJ:∀{cs},cs≠[]->Str.join (Str.ofString ", ") (cs.map ct)=J (tw (cs.map tri))
 |[],h=>absurd rfl h
 |[c],_=>Kf c
 | c :: d :: r,_=>by
  have f:=tJ (cs:=d::r) (by simp)
  show Str.join _ (ct c::ct d::r.map ct)=J (c.1::c.2.1::(num c.2.2++(⟨#[44]⟩:Str))::tw ((d::r).map tri));rw[aM,show ct d::r.map ct=(d::r).map ct from rfl,f]
  have tn:tw ((d::r).map tri)≠[]:=JI (by simp)
  unfold J;rw[aM,aM];have e:Str.join ⟨#[32]⟩ ((num c.2.2++(⟨#[44]⟩:Str))::tw ((d::r).map tri))=(num c.2.2++(⟨#[44]⟩:Str))++((⟨#[32]⟩:Str)++Str.join ⟨#[32]⟩ (tw ((d::r).map tri))):=by
   have:=qZ (⟨#[32]⟩:Str) (p:=[num c.2.2++(⟨#[44]⟩:Str)]) (by simp) tn
   exact this
  rw[e,vL];unfold ct;rw[fX];simp only[cG]
structure wdC(c:Str×Str×Int):Prop where
 a:Wd c.1
 b:Wd c.2.1
 n:c.2.2.natAbs<10^31
theorem CJ:∀{cs:Yg (Str×Str×Int)},(∀c∈cs,wdC c)->∀w∈tw (cs.map tri),Wd w
 |[],_,w,h=>by cases h
 |[c],f,w,h=>by
  have f:=f c (by simp)
  have h':w∈[c.1,c.2.1,num c.2.2]:=h;simp at h';rcases h' with rfl|rfl|rfl
  . exact f.a
  . exact f.b
  . exact j6 f.n
 |c::d::r,f,w,h=>by
  have j:=f c (by simp)
  have h':w∈c.1::c.2.1::(num c.2.2++(⟨#[44]⟩:Str))::tw ((d::r).map tri):=h;simp only[Zt]at h';rcases h' with rfl|rfl|rfl|h'
  . exact j.a
  . exact j.b
  . exact Iz j.n
  . exact CJ (fun x m=>f x (Zp _ m)) w h'
def qw(h:i.natAbs<10^31):lN [.int i]=some (.str (num i)):=by
 show(if i.natAbs.log2<1920 then some (D.str (num i))else none)=_
 rw[if_pos]
 by_cases f:i.natAbs=0
 . rw[f];decide
 . exact(Nat.log2_lt f).mpr (ZC h (ZY (by decide:10^31<=2^200) (Nat.pow_le_pow_right (by decide) (by decide))))
def Mj{B}(h:∀y∈ys,y.length<=B)(f:ys.length*B+ys.length*s.length<=16777216):JoinOk s ys=true:=by unfold JoinOk;rw[StrLaws.joinFits h f];rfl
def yh{B}(h:∀y∈ys,y.length<=B)(f:ys.length*B+ys.length*s.length<=16777216):lO (.str s) [.lst (ys.map D.str)]=some (.str (Str.join s ys)):=by unfold lO;simp only[pR,Zc,pT,Mj h f,Z6,IM]
theorem Ge(h:wdC c):(ct c).length<=130:=by
 rw[Kf];have:=Ay (ws:=[c.1,c.2.1,num c.2.2]) (fun w m=>by
  simp at m;rcases m with rfl|rfl|rfl
  . exact h.a
  . exact h.b
  . exact j6 h.n)
 simp only[Zm,Zn]at this
 lia
def BE(u:cs≠[])(l:∀c∈cs,wdC c)(x:cs.length<=100):cr [.seq (cs.map cT)]=some (.str (J (tw (cs.map tri))),[some (.seq (cs.map cT))]):=by
 have e:=bJ (js:=[]) (δ:=[some (.seq (cs.map cT))]) (δc:=[some (.seq (cs.map cT))]) (src:=a6 (aa 0)) (n:=3) (g:=fO [0,1,2]) (fc:=fun _=>some true) (felt:=Jy) (ds:=cs.map cT) (xs:=(cs.map cT).map fun d=>match d with|.tup [.str a,.str b,.int i]=>.str (ct (a,b,i))|_=>.non) (ιe:=[none,none,none]) (by simp[a6,aa,sh,noo,jz]) rfl (cZ fun d t=>by
  obtain⟨c,f,rfl⟩:=Zr.mp t;have h:=l c f;have q:c.1.length+(Str.ofString " ").length<=sizeLine:=sz (by have:=h.a.2.2;rw[fX];show c.1.length+1<=_;omega)
  have p:(c.1++Str.ofString " ").length+c.2.1.length<=sizeLine:=sz (by have:=h.a.2.2;have:=h.b.2.2;rw[aX,fX];show c.1.length+1+_<=_;omega)
  have o:(c.1++Str.ofString " " ++ c.2.1).length+(Str.ofString " ").length<=sizeLine:=sz (by have:=h.a.2.2;have:=h.b.2.2;rw[aX,aX,fX];show c.1.length+1+_+1<=_;omega)
  have m:(c.1++Str.ofString " " ++ c.2.1++Str.ofString " ").length+(num c.2.2).length<=sizeLine:=sz (by have:=Ge h;unfold ct at this;rw[aX]at this;omega)
  refine⟨[some (.str c.1),some (.str c.2.1),some (.int c.2.2)],by simp only[Jy,sh,shs];rfl,rfl,[some (.str c.1),some (.str c.2.1),some (.int c.2.2)],?_,rfl⟩
  simp[ab,imm,cj q,cj p,cj o,cj m,qw h.n,ct]) (by rw[Zl,Zl];omega)
 have v:((cs.map cT).map fun d=>match d with|.tup [.str a,.str b,.int i]=>D.str (ct (a,b,i))|_=>.non)=(cs.map ct).map D.str:=by rw[List.map_map,List.map_map];rfl
 rw[v]at e;have j:=yh (s:=Str.ofString ", ") (ys:=cs.map ct) (B:=130) (fun y r=>by obtain⟨c,f,rfl⟩:=Zr.mp r;exact Ge (l c f)) (by rw[Zl,vL];show cs.length*130+cs.length*2<=_;omega)
 rw[tJ u]at j;simp! only[Jy,cr,iP,BZ,pz,shO,jz,e,j]
def M3{c d:D}:L2.atI [a,b,c,d] 1=some b:=rfl
def OR{c d:D}:L2.atI [a,b,c,d] 2=some c:=rfl
def PK{c d}:L2.atI [a,b,c,d] 3=some d:=rfl
def tE(l:Yg (Str×Str×Int)):eE (.seq (l.map cT)) (.lst [])=some (.bl (!decide (l=[]))):=by
 cases l with
 |nil=>rfl
 |cons a l=>rfl
def So(x:Str)(ws:List Str):Prop:=x=J ws/\ws≠[]/\∀w∈ws,Wd w
theorem So.len(h:So x ws)(f:ws.length<=100):x.length<=4100:=by rw[h.1];have:=Ay h.2.2;lia
def So.price (h:So x ws) (hi:i.natAbs<10^31):So (x++Str.ofString " price " ++ num i) (ws++[Str.ofString "price",num i]):=by
 refine⟨?_,by simp,fun w m=>?_⟩
 . rw [h.1,C6,show num i=J [num i] from rfl,M7 h.2.1 (List.cons_ne_nil _ _)]
   rfl
 . rcases Zs.mp m with m | m
   . exact h.2.2 w m
   . simp at m;rcases m with rfl | rfl
     . decide +kernel
     . exact j6 hi
def So.one(h:So x ws)(e:Str.ofString k=(⟨#[32]⟩:Str)++k')(hk:Wd k'):So (x++Str.ofString k) (ws++[k']):=by
 refine⟨by rw[h.1,e,OV h.2.1],by simp,fun w m=>?_⟩
 rcases Zs.mp m with m|m
 . exact h.2.2 w m
 . rw[Zq.mp m];exact hk
def So.conds(h:So x ws)(j:cs≠[])(f:∀c∈cs,wdC c)(e:Str.ofString k=(⟨#[32]⟩:Str)++(k'++(⟨#[32]⟩:Str)))(hk:Wd k'):So (x++Str.ofString k++J (tw (cs.map tri))) (ws++k'::tw (cs.map tri)):=by
 refine⟨by rw[h.1,e,M7 h.2.1 (JI (by simpa using j))],by simp,fun w m=>?_⟩
 rcases Zs.mp m with m|m
 . exact h.2.2 w m
 . rcases Zt.mp m with rfl | m
   . exact hk
   . exact CJ f w m
theorem tq{j:Int}{b:Bool}(h:So x ws)(q:ws.length<=60)(hi:i.natAbs<10^31)(t:D)(m:gIx t (.int j)=some (.int i)) :
 ∃y,brQ (aB 1 (vI (f2 aQ (f2 aQ (ab 1) (fC (.str " price "))) (aT lN (af (f2 gIx (ab 0) (fC (.int j))) ag))))) bd [some t,some (.str x)] (some b)=some (.nx [some t,some (.str y)])/\So y (ws++lA b i):=by
 cases b with
 |false=>exact⟨x,rfl,by unfold lA;simp;exact h⟩
 |true =>
  refine⟨x++Str.ofString " price " ++ num i,?_,h.price hi⟩;have p:=h.len (by lia)
  have o:(Str.ofString " price ").length=7:=by decide +kernel
  have ln:=kT hi;have l:x.length+(Str.ofString " price ").length<=sizeLine:=sz (by lia)
  have f:(x++Str.ofString " price ").length+(num i).length<=sizeLine:=sz (by rw[aX];lia)
  simp[ab,sh,imm,cj l,m,qw hi,cj f]
theorem zx{b:Bool}(h:So x ws)(l:ws.length<=60)(e:Str.ofString k=(⟨#[32]⟩:Str)++k')(hk:Wd k')(t:D):∃y,brQ (aB 1 (vI (f2 aQ (ab 1) (fC (.str k))))) bd [some t,some (.str x)] (some b)=some (.nx [some t,some (.str y)])/\So y (ws++lZ b k'):=by
 cases b with
 |false=>exact⟨x,rfl,by unfold lZ;simp;exact h⟩
 |true =>
  refine⟨x++Str.ofString k,?_,h.one e hk⟩;have j:=h.len (by lia)
  have f:x.length+(Str.ofString k).length<=sizeLine:=sz (by rw[e,aX];have:=hk.2.2;show x.length+(1+_)<=_;lia)
  simp[ab,sh,imm,cj f]
theorem oV{j:Int}(h:So x ws)(v:ws.length<=60)(m:∀c∈cs,wdC c)(s:cs.length<=3)(e:Str.ofString k=(⟨#[32]⟩:Str)++(k'++(⟨#[32]⟩:Str)))(hk:Wd k')(t:D)(l:gIx t (.int j)=some (.seq (cs.map cT))) :
 ∃y,qIf (fT (f2 eE (f2 gIx (ab 0) (fC (.int j))) (gF ag))) (aB 1 (vI (f2 aQ (f2 aQ (ab 1) (fC (.str k))) (aS cr (af (f2 gIx (ab 0) (fC (.int j))) ag))))) bd [some t,some (.str x)]=some (.nx [some t,some (.str y)])/\So y (ws++j4 k' cs):=by
 by_cases f:cs=[]
 . subst f;refine ⟨x,?_,by unfold j4;rw [if_pos rfl,Zj];exact h⟩
   have o:=tE [];simp only[Zv]at o l;simp[ab,l,eU,o]
 . refine ⟨x++Str.ofString k++J (tw (cs.map tri)),?_,by unfold j4;rw [if_neg f];exact h.conds f m e hk⟩
   have r:=decide_eq_false f;have u:=h.len (by lia)
   have lk:(Str.ofString k).length<=42:=by rw[e,aX,aX];have:=hk.2.2;show 1+(_+1)<=_;lia
   have lt:=Ay (CJ m);rw[n9,Zl]at lt;have q:x.length+(Str.ofString k).length<=sizeLine:=sz (by lia)
   have p:(x++Str.ofString k).length+(J (tw (cs.map tri))).length<=sizeLine:=sz (by rw[aX];lia)
   simp[ab,sh,shs,imm,l,eU,tE,r,cj q,jz,BE f m (by lia),cj p]
def zW(n:Nat):gI (fun _ j=>0<j) (fun i j=>D.int (i%j)) (.int (n:Int)) (.int 2)=some (.int ((n:Int)%2)):=mB (by decide)
def Bn(f:∀w∈W,aJ w)(h:okStay W c):wdC c:=by
 obtain⟨h1,h2,j⟩:=h;refine⟨cK (f _ h1),?_,?_⟩
 . rcases h2 with⟨h2,_⟩|⟨h2,_⟩<;>rw[h2]<;>decide +kernel
 . rcases h2 with⟨_,h2⟩|⟨_,h2⟩<;>omega
def M9(h:s∈WS):Wd s:=by
 have:∀x∈WS,Wd x:=by decide +kernel
 exact this s h
def OA(h:s∈BS):Wd s:=by
 have:∀x∈BS,Wd x:=by decide +kernel
 exact this s h
theorem Bp(j:∀w∈W,aJ w)(l:∀w∈B,aJ w)(h:gX W B c):wdC c:=by
 rcases h with⟨h1,h2,f,m⟩|⟨h1,h2,f,m,o⟩
 . exact⟨cK (j _ h1),M9 h2,by lia⟩
 . exact⟨cK (l _ h2),OA f,by lia⟩
theorem Bo(l:∀w∈W,aJ w)(j:∀w∈B,aJ w)(h:iJ W B c):wdC c:=by
 rcases h with⟨h1,h2,f⟩|⟨h1,h2,⟨f,o,m⟩|⟨f,o,m⟩⟩
 . exact⟨cK (l _ h1),by rw[h2];decide +kernel,by lia⟩
 . exact⟨cK (j _ h2),by rw[f];decide +kernel,by lia⟩
 . exact⟨cK (j _ h2),by rcases f with f|f<;>rw[f]<;>decide +kernel,by lia⟩
theorem Eu(n:Nat):(((n:Int)%2)==1)=decide (n%2=1):=by
 by_cases h:n%2=1
 . rw[decide_eq_true h];simp;lia
 . rw[decide_eq_false h];simp;lia
theorem pb{r:a4}(G:∀w∈W,aJ w)(ok:okR W r):d8 [rT r]=some (.str (bj (.room r)),[some (rT r)])/\So (bj (.room r)) (rowW (.room r)):=by
 have o:=cK ok.name;have B:So (Str.ofString "room " ++ r.name) [Str.ofString "room",r.name]:=⟨by
  rw[GX];unfold J;rw[aM,cG];rfl,by simp,fun w m=>by
  simp at m;rcases m with rfl|rfl
  . decide +kernel
  . exact o⟩
 have C:(Str.ofString "room ").length+r.name.length<=sizeLine:=sz (by have:=o.2.2;rw[show(Str.ofString "room ").length=5 by decide +kernel];lia)
 have l:r.price.natAbs<10^31:=by have:=ok.p0;have:=ok.p1;lia
 obtain⟨t,I,z⟩:=tq (j:=1) B (by simp) l (rT r) rfl
 obtain⟨L,H,y⟩:=zx z (by unfold lA;split<;>simp) C8 (by decide +kernel) (rT r)
 obtain⟨s,q,f⟩:=oV (j:=3) (cs:=r.stays) y (by unfold lA lZ;split<;>split<;>simp) (fun c D=>Bn G (ok.stays c D)) (by have:=ok.ls;lia) GW (by decide +kernel) (rT r) rfl
 have u:[Str.ofString "room",r.name]++lA (sZ r) r.price++lZ r.hurry "hurry" ++ j4 "stay" r.stays=rowW (.room r):=by unfold rowW y0;simp
 rw[u]at f;have ex:s=bj (.room r):=f.1;rw[ex]at q f;refine⟨?_,f⟩;have x:eL (fT (f2 gGt (f2 gIx (ab 0) (fC (.int 1))) (fC (.int 0)))) Go [some (rT r),some (.str (Str.ofString "room " ++ r.name))]=some (sZ r):=by
  have ln:r.name.length<=sizeLine:=sz (by have:=o.2.2;lia)
  unfold sZ;cases p:decide (r.price>0)with
  |true=>simp[ab,M3,p,Bool.true_or]
  |false=>simp[ab,M3,w8,p,uZ ln,zW,Eu,Bool.false_or]
 have v:fT (f2 gIx (ab 0) (fC (.int 2))) [some (rT r),some (.str t)]=some r.hurry:=by simp[ab,OR]
 simp only[Go,d8,gv,Dl.start,aE,bM,dC,bP,e_C,dD,db,ab,nE,sh,imm,Zc,Zu,Zv,Zh,Zi,Zm,Zn,Zd,Zf,Zg,ZU,ZQ,Nat.reduceSub,Nat.reduceAdd,Z6,w8,cj C];rw[iX,x,I];simp only[Go,dC,bM];rw[iX,v,H];simp only[Go,dC,bM,q,bM,dC,dQ,aa,noo,Zc,Zd,Ze,Zf,Zg,ZP,List.take_zero,Z6]
def PJ{c d f g}:L2.atI [a,b,c,d,e,f,g] 0=some a:=rfl
def OQ{c d f g}:L2.atI [a,b,c,d,e,f,g] 1=some b:=rfl
def PH{c d f g}:L2.atI [a,b,c,d,e,f,g] 2=some c:=rfl
def OP{c d f g}:L2.atI [a,b,c,d,e,f,g] 4=some e:=rfl
def Bm{w}(h:oB (some w)):Wd w.1/\Wd w.2:=⟨by rcases h.1 with h|h<;>rw[h]<;>decide +kernel,cK h.2⟩
theorem Cz (h:So x ws) (C:ws.length<=60) (s:oB w) (t) (l:gIx t (.int 3)=some (bw w)):∃ y,qIf (fT (f2 kb (f2 gIx (ab 0) (fC (.int 3))) (fC .non))) MW bd [some t,some (.str x)]=some (.nx [some t,some (.str y)])/\So y (ws++qN w):=by
 cases w with
 |none =>
  refine⟨x,?_,by unfold qN;rw[Zj];exact h⟩
  have f:gIx t (.int 3)=some .non:=l;simp[ab,gz,f]
 | some w =>
  obtain⟨h1,h2⟩:=Bm s;refine⟨x++Str.ofString " " ++ w.1++Str.ofString " " ++ w.2,?_,?_⟩
  . have f:gIx t (.int 3)=some (.tup [.str w.1,.str w.2]):=l;have B:=h.len (by lia)
    have z:(Str.ofString " ").length=1:=by decide +kernel
    have v:gIx (.tup [.str w.1,.str w.2]) (.int 0)=some (.str w.1):=rfl;have u:gIx (.tup [.str w.1,.str w.2]) (.int 1)=some (.str w.2):=rfl;have r:x.length+(Str.ofString " ").length<=sizeLine:=sz (by lia)
    have q:(x++Str.ofString " ").length+w.1.length<=sizeLine:=sz (by have:=h1.2.2;rw[aX];lia)
    have p:(x++Str.ofString " " ++ w.1).length+(Str.ofString " ").length<=sizeLine:=sz (by have:=h1.2.2;rw[aX,aX];lia)
    have o:(x++Str.ofString " " ++ w.1++Str.ofString " ").length+w.2.length<=sizeLine:=sz (by have:=h1.2.2;have:=h2.2.2;rw[aX,aX,aX];lia)
    simp[ab,gz,sh,imm,f,v,u,cj r,cj q,cj p,cj o]
  . refine ⟨?_,by simp [qN],fun y m=>?_⟩
    . show _=J (ws++w.1::[w.2]);rw[<- M7 h.2.1 (List.cons_ne_nil _ _),h.1,fX];simp only[MW,cG];rfl
    . rcases Zs.mp m with m | m
      . exact h.2.2 y m
      . have j:y∈[w.1,w.2]:=m;simp at j;rcases j with rfl | rfl
        . exact h1
        . exact h2
theorem pE{rn}{d}(s:∀w∈W,aJ w)(u:∀w∈B,aJ w)(t:∀w∈rn,aJ w)(ok:okD W B rn d):d9 [dT d]=some (.str (bj (.door d)),[some (dT d)])/\So (bj (.door d)) (rowW (.door d)):=by
 have l:=cK (t _ ok.start);have p:=cK (t _ ok.goal);have lb:(Str.ofString " ").length=1:=by decide +kernel
 have ld:(Str.ofString "door ").length=5:=by decide +kernel
 have O:So (Str.ofString "door " ++ d.start++Str.ofString " " ++ d.goal) [Str.ofString "door",d.start,d.goal]:=⟨by
  rw[GZ,fX];unfold J;rw[aM,aM];simp only[Cj,cG];rfl,by simp,fun w m=>by
  simp at m;rcases m with rfl|rfl|rfl
  . decide +kernel
  . exact l
  . exact p⟩
 have U:(Str.ofString "door ").length+d.start.length<=sizeLine:=sz (by have:=l.2.2;lia)
 have S:(Str.ofString "door " ++ d.start).length+(Str.ofString " ").length<=sizeLine:=sz (by have:=l.2.2;rw[aX];lia)
 have Q:(Str.ofString "door " ++ d.start++Str.ofString " ").length+d.goal.length<=sizeLine:=sz (by have:=l.2.2;have:=p.2.2;rw[aX,aX];lia)
 have o:d.price.natAbs<10^31:=by have:=ok.p0;have:=ok.p1;lia
 have lw:(qN d.word).length<=2:=by cases d.word<;>simp[qN]
 have lK:(lZ d.weather "weather").length<=1:=by unfold lZ;split<;>simp
 have lP:(lA (o9 d) d.price).length<=2:=by unfold lA;split<;>simp
 have lC:(j4 "when" d.conds).length<=7:=by unfold j4;split;· simp
                                           . rw[Zm,n9,Zl];have:=ok.l2;lia
 obtain⟨x1,Z,L⟩:=zx (b:=d.weather) O (by simp) xo (by decide +kernel) (dT d)
 obtain⟨y,Y,I⟩:=Cz L (by simp;lia) ok.word (dT d) rfl
 obtain⟨x3,X,H⟩:=tq (j:=4) (b:=o9 d) I (by simp;lia) o (dT d) rfl
 obtain⟨x4,V,G⟩:=oV (j:=5) (cs:=d.conds) H (by simp;lia) (fun c q=>Bp s u (ok.conds c q)) (by have:=ok.l2;lia) GV (by decide +kernel) (dT d) rfl
 obtain⟨x,v,f⟩:=oV (j:=6) (cs:=d.deeds) G (by simp;lia) (fun c q=>Bo s u (ok.deeds c q)) ok.l3 Nn (by decide +kernel) (dT d) rfl
 have z:[Str.ofString "door",d.start,d.goal]++lZ d.weather "weather" ++ qN d.word++lA (o9 d) d.price++j4 "when" d.conds++j4 "do" d.deeds=rowW (.door d):=by unfold rowW Al;simp
 rw[z]at f;have ex:x=bj (.door d):=f.1;rw[ex]at v f;refine⟨?_,f⟩;have D:fT (f2 gIx (ab 0) (fC (.int 2))) [some (dT d),some (.str (Str.ofString "door " ++ d.start++Str.ofString " " ++ d.goal))]=some d.weather:=by simp[ab,PH]
 have C:eL (fT (f2 gGt (f2 gIx (ab 0) (fC (.int 4))) (fC (.int 0)))) Cj [some (dT d),some (.str y)]=some (o9 d):=by
  have ln:d.goal.length<=sizeLine:=sz (by have:=p.2.2;lia)
  unfold o9;cases r:decide (d.price>0)with
  |true=>simp[ab,OP,r,Bool.true_or]
  |false=>simp[ab,OP,OQ,r,uZ ln,zW,Eu,Bool.false_or]
 simp only[Cj,d9,gw,Dl.start,aE,bM,dC,bP,e_C,dD,db,ab,nE,sh,imm,Zc,Zu,Zv,Zh,Zi,Zm,Zn,Zd,Zf,Zg,ZU,ZQ,Nat.reduceSub,Nat.reduceAdd,Z6,PJ,OQ,cj U,cj S,cj Q];rw[iX,D,Z];simp only[Cj,dC,bM,Y];rw[iX,C,X];simp only[Cj,dC,bM,V,v,bM,dC,dQ,aa,noo,Zc,Zd,Ze,Zf,Zg,ZP,List.take_zero,Z6]
noncomputable def bO(n:nU):List sL:=n.watches.map .watch++n.boxes.map .box++(n.machines.map fun m=>.mach m.name::(m.rooms.map .room++m.doors.map .door)).flatten
def sM {w} (h:aJ w):Str.ofString "watch " ++ w=bj (.watch w)/\So (bj (.watch w)) (rowW (.watch w)):=by
 refine⟨?_,rfl,List.cons_ne_nil _ _,fun x m=>?_⟩
 . rw[C5];unfold bj rowW;rw[aM,cG];rfl
 . simp [rowW] at m;rcases m with rfl | rfl
   . decide +kernel
   . exact cK h
def wl {w} (h:aJ w):Str.ofString "machine " ++ w=bj (.mach w)/\So (bj (.mach w)) (rowW (.mach w)):=by
 refine⟨?_,rfl,List.cons_ne_nil _ _,fun x m=>?_⟩
 . rw[GY];unfold bj rowW;rw[aM,cG];rfl
 . simp [rowW] at m;rcases m with rfl | rfl
   . decide +kernel
   . exact cK h
def Au{b}(h:tz b):So (bj (.box b)) (rowW (.box b)):=by
 obtain⟨h1,h2,l,j,f⟩:=h;refine⟨rfl,List.cons_ne_nil _ _,fun x m=>?_⟩
 simp[rowW]at m;rcases m with rfl|rfl|rfl|rfl|rfl
 . decide +kernel
 . exact cK h1
 . exact j6 (by omega)
 . exact j6 (by omega)
 . exact j6 (by omega)
def okNet.bn(h:okNet n):∀w∈bnm n.boxes,aJ w:=fun w f=>by obtain⟨b,j,rfl⟩:=Zr.mp f;exact(h.bx b j).1
def okM.rn(h:okM W B m):∀w∈m.rooms.map (·.name),aJ w:=fun w f=>by obtain⟨r,j,rfl⟩:=Zr.mp f;exact(h.rooms r j).name
def uv(h:okNet n):∀x∈bO n,So (bj x) (rowW x):=fun x f=>by
 unfold bO at f;rcases Zs.mp f with f|f
 . rcases Zs.mp f with f | f
   . obtain⟨w,o,rfl⟩:=Zr.mp f;exact(sM (h.wn w o)).2
   . obtain⟨b,u,rfl⟩:=Zr.mp f;exact Au (h.bx b u)
 . obtain ⟨l,s,f⟩:=List.mem_flatten.mp f;obtain ⟨m,q,rfl⟩:=Zr.mp s;have j:=h.mc m q;rcases Zt.mp f with rfl | f
   . exact(wl j.name).2
   . rcases Zs.mp f with f | f
     . obtain⟨r,p,rfl⟩:=Zr.mp f;exact(pb h.wn (j.rooms r p)).2
     . obtain⟨d,t,rfl⟩:=Zr.mp f;exact(pE h.wn h.bn j.rn (j.doors d t)).2
abbrev bo(n:nU):D:=.tup [.seq (n.watches.map D.str),.seq (n.boxes.map aW),.seq (n.machines.map mT)]
def kU(l:Yg fJ):shs (l.map mT)=l.map mT:=be ES l
def zB(n:nU):sh (xL n)=bo n:=by simp only[sh,shs,bH,aZ,kU]
def iq(n:nU):sh (bo n)=bo n:=by simp only[sh,shs,bH,aZ,kU]
def nK{α:Type}{src}{felt}{δ}{f:α->D}{g:α->Str}{l:Yg α}(m:src δ=some (l.map f,δ))(q:∀x,sh (f x)=f x)(he:∀x∈l,felt [some (f x)]=some (.str (g x),[some (f x)]))(o:l.length<=1000):aA src 1 [] (gN 0) (fun _=>some true) felt δ=some (.lst ((l.map g).map D.str),δ):=by
 have k:bh 1 (gN 0) (fun _=>some true) felt (l.map f) [none]=some ((l.map g).map D.str,[none]):=by
  clear m o
  induction l with
  |nil=>rfl
  |cons x l j =>
   have j:=j fun y p=>he y (Zp _ p)
   simp[bh,q,he x (Zo ..),j]
 have tk:takes (([]:Yg Nat).map AK.lent) δ=some ([],δ):=rfl;rw[bJ m tk k (by rw[Zl,Zl];exact o)]
 rfl
def Gh{a b:Yg Str}(h:a.length+b.length<=1000):gA (.lst (a.map D.str)) (.lst (b.map D.str))=some (.lst ((a++b).map D.str)):=by simp only[gA,asL,Zc,Zl,Zw];rw[if_pos h]
noncomputable def cQ(m:fJ):List sL:=.mach m.name::(m.rooms.map .room++m.doors.map .door)
noncomputable abbrev rwS(t:D)(acc:List Str)(w b ms:D)(o5 o6 o7:Option D):DS:=[some t,some (.lst (acc.map D.str)),some w,some b,some ms,o5,o6,o7]
def zr{α:Type}{felt}{δ}{f:α->D}{g:α->Str}{l:Yg α}{i}(o:δ[i]?=some (some (.seq (l.map f))))(j:∀x,sh (f x)=f x)(he:∀x∈l,felt [some (f x)]=some (.str (g x),[some (f x)]))(m:l.length<=1000):gq (aA (a6 (aa i)) 1 [] (gN 0) (fun _=>some true) felt) δ=some (.lst ((l.map g).map D.str)):=by
 have e:(shO δ)[i]?=some (some (.seq (l.map f))):=by rw[shO,ZK,o];show some (some (sh _))=_;rw[sh,be j]
 rw[pz,nK (eM (by rw[aa,e];rfl) (by rw[sh,be j])) j he m];rfl
def zt{α:Type}{G:GQ}{δ}{f:α->D}{g:α->Str}{l:Yg α}{i}(p:δ[i]?=some (some (.seq (l.map f))))(j:∀x,sh (f x)=f x)(he:∀x∈l,G [f x]=some (.str (g x),[some (f x)]))(o:l.length<=1000):gq (aA (a6 (aa i)) 1 [] (gN 0) (fun _=>some true) (vI (aS G (af (ab 0) ag)))) δ=some (.lst ((l.map g).map D.str)) :=
 zr p j (fun x m=>by rw[db,c_q rfl (sh1 (j x) rfl) ⟨_,he x m⟩];rfl) o
def yx{δ}{f g:FD}{a b:Yg Str}(h:f δ=some (.lst (a.map D.str)))(h':g δ=some (.lst (b.map D.str)))(j:a.length+b.length<=1000):f2 gA f g δ=some (.lst ((a++b).map D.str)):=by rw[dD,h,h'];exact Gh j
def Oz{δ}{f g:FD}{a:Yg Str}(h:f2 gA f g δ=some (.lst (a.map D.str))):qo f g δ=some (.lst (a.map D.str),δ):=by rw[qo,h];exact if_pos (tO a)
theorem Gz{δ}{f g:FD}{x y z:Str}(h:f δ=some (.str x))(h':g δ=some (.str y))(j:x.length+y.length<=1000)(e:x++y=z):vI (f2 aQ f g) δ=some (.str z,δ):=by rw[db,dD,h,h',Zc,Zc,cj (sz (by lia)),e];rfl
def JC{i}{fm:FM}{δ:DS}(h:δ[i]?=some (some (.lst (l.map D.str))))(f:fm δ=some (.str x,δ))(j:l.length<=999):cP i aC fm δ=some (.nx (δ.set i (some (.lst ((l++[x]).map D.str))))):=by rw[vy (l:=[]) h rfl rfl f (by rw[Zl];exact j),Zw];rfl
theorem AU{W B}{m}{acc}{t w b ms:D}(j:∀w∈W,aJ w)(l:∀w∈B,aJ w)(f:okM W B m)(s:m.doors.length<=24)(q:acc.length<=500) :
 MU (rwS t acc w b ms (some (.str m.name)) (some (.seq (m.rooms.map rT))) (some (.seq (m.doors.map dT))))=some (.nx (rwS t (acc++(cQ m).map bj) w b ms (some (.str m.name)) (some (.seq (m.rooms.map rT))) (some (.seq (m.doors.map dT))))):=by
 have o:=f.rl;have p:=(cK f.name).2.2;have e:acc++(cQ m).map bj=acc++[bj (.mach m.name)]++m.rooms.map (fun r=>bj (.room r))++m.doors.map fun d=>bj (.door d):=by simp[cQ,Function.comp_def]
 rw[e];refine(cJ (δ1:=rwS t (acc++[bj (.mach m.name)]) w b ms (some (.str m.name)) (some (.seq (m.rooms.map rT))) (some (.seq (m.doors.map dT)))) ?_).trans (s8 (Oz (yx (yx rfl (zt rfl y9 (fun r h=>(pb j (f.rooms r h)).1) (by lia)) (by simp;lia)) (zt rfl wL (fun d h=>(pE j l f.rn (f.doors d h)).1) (by lia)) (by simp;lia))))
 exact JC rfl (by rw[bE];show Option.bind (vI _ _) _=_;rw[Gz rfl rfl (by rw[show(Str.ofString "machine ").length=8 by decide +kernel];lia) (wl f.name).1];rfl) (by lia)
theorem tf{W B}{t w b ms}(r:∀w∈W,aJ w)(s:∀w∈B,aJ w):∀(l:Yg fJ) acc o5 o6 o7,(∀m∈l,okM W B m)->(∀m∈l,m.doors.length<=24)->acc.length+31*l.length<=500->∃o j f,cL (fO [5,6,7]) MU (l.map mT) (rwS t acc w b ms o5 o6 o7)=some (.nx (rwS t (acc++((l.map cQ).flatten).map bj) w b ms o j f))
 |[],acc,o5,o6,o7,_,_,_=>⟨o5,o6,o7,by simp only[Zv,cL,List.flatten_nil,Zj]⟩
 | m :: l,acc,o5,o6,o7,hm,hd,hl=>by
  rw[Zm]at hl;have q:=hm m (Zo ..);have u:=hd m (Zo ..);have v:((cQ m).map bj).length<=31:=by
   have:=q.rl;simp[cQ]
   lia
  obtain⟨o,j,f,e⟩:=tf r s l (acc++(cQ m).map bj) (some (.str m.name)) (some (.seq (m.rooms.map rT))) (some (.seq (m.doors.map dT))) (fun x p=>hm x (Zp _ p)) (fun x p=>hd x (Zp _ p)) (by rw[Zk];lia)
  refine⟨o,j,f,?_⟩;rw[Zu,cL,ES];refine(Z8 (Option.bind · _) (AU r s q u (by lia))).trans (e.trans ?_)
  rw[Zu,List.flatten_cons,Zw,<- ZV]
theorem FX{n}(h:okNet n):∀m∈n.machines,m.doors.length<=24:=fun m o=>by
 have:∀(l:Yg fJ),m∈l->m.doors.length<=(l.map fun m=>m.doors.length).sum:=by
  intro l
  induction l with
  |nil=>intro h;cases h
  |cons x l j =>
   intro f;rw[Zu,List.sum_cons];rcases Zt.mp f with rfl|f
   . lia
   . have:=j f;lia
 exact ZY (this _ o) h.dl
theorem G5{n}(h:okNet n):∃fin,gi [bo n]=some (.lst (((bO n).map bj).map D.str),fin):=by
 have r:=h.lw;have v:=h.lb;have u:=h.m2;obtain⟨o5,C,z,x⟩:=tf (t:=bo n) (w:=.seq (n.watches.map D.str)) (b:=.seq (n.boxes.map aW)) (ms:=.seq (n.machines.map mT)) h.wn h.bn n.machines (n.watches.map (fun w=>bj (.watch w))++n.boxes.map fun b=>bj (.box b)) none none none h.mc (FX h) (by simp;lia)
 rw[show(bO n).map bj=n.watches.map (fun w=>bj (.watch w))++n.boxes.map (fun b=>bj (.box b))++(n.machines.map cQ).flatten.map bj by unfold bO;simp only[Zw,List.map_map];rfl]
 refine uu (jO (δ1:=[some (bo n),none,some (.seq (n.watches.map D.str)),some (.seq (n.boxes.map aW)),some (.seq (n.machines.map mT)),none,none,none]) rfl (jO (s8 (nK (g:=fun w=>bj (.watch w)) (eM rfl (by rw[sh,bH])) (fun _=>rfl) (fun w q=>?_) (by lia))) (jO (s8 (Oz (yx (b:=n.boxes.map fun b=>bj (.box b)) rfl (zr (f:=aW) (i:=3) rfl vp (fun b l=>?_) (by lia)) (by simp;lia)))) (jO (iL (eM rfl (by rw[sh,kU])) x) ⟨_,rfl⟩))))
 . have j:=h.wn w q;exact Gz rfl rfl (by have:=(cK j).2.2;rw[show(Str.ofString "watch ").length=6 by decide +kernel];lia) (sM j).1
 . have m:=Au (h.bx b l);obtain ⟨h1,h2,I,H,G⟩:=h.bx b l;have o:lO (.str (Str.ofString " ")) [.lst [.str "box",.str b.1,.str (num b.2.1),.str (num b.2.2.1),.str (num b.2.2.2)]]=some (.str (bj (.box b))):=by
    have:=yh (s:=Str.ofString " ") (ys:=rowW (.box b)) (B:=40) (fun y p=>(m.2.2 y p).2.2) (by rw[fX];show 5*40+5*1<=_;decide)
    rw[fX]at this ⊢;exact this
   simp[ab,imm,w8,M3,OR,PK,qw (i:=b.2.1) (by lia),qw (i:=b.2.2.1) (by lia),qw (i:=b.2.2.2) (by lia),oT,o]
theorem qO(k) (cs:Yg (Str×Str×Int)):(j4 k cs).length<=1+3*cs.length:=by
 unfold j4;split
 . simp
 . rw[Zm,n9,Zl];lia
theorem G7{r}(h:okR W r):(rowW (.room r)).length<=60:=by
 have h1:=qO "stay" r.stays;have h2:(lA (sZ r) r.price).length<=2:=by unfold lA;split<;>simp
 have j:(lZ r.hurry "hurry").length<=1:=by unfold lZ;split<;>simp
 have f:=h.ls;unfold rowW y0;simp
 lia
theorem Jf{rn}{d}(h:okD W B rn d):(rowW (.door d)).length<=60:=by
 have h1:=qO "when" d.conds;have h2:=qO "do" d.deeds;have o:(lA (o9 d) d.price).length<=2:=by unfold lA;split<;>simp
 have m:(lZ d.weather "weather").length<=1:=by unfold lZ;split<;>simp
 have l:(qN d.word).length<=2:=by cases d.word<;>simp[qN]
 have j:=h.l2;have f:=h.l3;unfold rowW Al;simp
 lia
def yZ(h:okNet n):∀x∈bO n,(rowW x).length<=60:=fun x f=>by
 unfold bO at f;rcases Zs.mp f with f|f
 . rcases Zs.mp f with f | f
   . obtain⟨w,t,rfl⟩:=Zr.mp f;exact(by decide:2<=60)
   . obtain⟨b,u,rfl⟩:=Zr.mp f;exact(by decide:5<=60)
 . obtain ⟨l,q,f⟩:=List.mem_flatten.mp f;obtain ⟨m,p,rfl⟩:=Zr.mp q;have j:=h.mc m p;rcases Zt.mp f with rfl | f
   . exact(by decide:2<=60)
   . rcases Zs.mp f with f | f
     . obtain⟨r,o,rfl⟩:=Zr.mp f;exact G7 (j.rooms r o)
     . obtain⟨d,s,rfl⟩:=Zr.mp f;exact Jf (j.doors d s)
def pV(h:okNet n):∀x∈bO n,(bj x).length<=4100:=fun x f=>(uv h x f).len (ZY (yZ h x f) (by decide))
theorem zU:∀(l:Yg fJ),(∀m∈l,m.rooms.length<=6)->(l.map cQ).flatten.length<=7*l.length+(l.map fun m=>m.doors.length).sum
 |[],_=>by simp
 |m::l,h=>by
  have:=zU l fun x f=>h x (Zp _ f)
  have j:=h m (Zo ..);rw[Zu,List.flatten_cons,Zk,Zu,List.sum_cons,Zm];unfold cQ at this ⊢;simp at this ⊢
  lia
theorem oh(h:okNet n):(bO n).length<=59:=by
 have:=zU n.machines fun m f=>(h.mc m f).rl
 have h1:=h.lw;have h2:=h.lb;have l:=h.m2;have j:=h.dl;unfold bO;unfold cQ at this;rw[Zk,Zk,Zl,Zl]
 lia
theorem Cr(x):x++Str.empty=x:=by kernel_rfl
def IZ(x):Str.empty++x=x:=by cases x;exact Z8 Str.mk (Array.empty_append ..)
theorem qY:∀l,Str.join Str.empty (l.map fun x=>x++(⟨#[10]⟩:Str))=Str.join ⟨#[10]⟩ (l++[Str.empty])
 |[]=>rfl
 |[x]=>by show x++(⟨#[10]⟩:Str)=Str.join ⟨#[10]⟩ (x::Str.empty::[]);rw[aM];show _=x++((⟨#[10]⟩:Str)++Str.empty);rw[Cr]
 |x::y::r=>by have f:=qY (y::r);rw[Zh,Zh,aM,<- Zh,<- f,Zu,Zu,aM,cG,show ∀z,Str.empty++z=z from fun z=>IZ z]
theorem wr{s}{B}:∀{l},(∀w∈l,w.length<=B)->(Str.join s l).length<=l.length*(B+s.length)
 |[],_=>by simp[Str.join];rfl
 |[x],h=>by have:=h x (Zo ..);show x.length<=_;simp only[Zm,Zn];lia
 |x::y::r,h=>by
  have f:=wr (s:=s) fun w m=>h w (Zp _ m)
  have:=h x (Zo ..);rw[aM,aX,aX,Zm,Nat.succ_mul]
  lia
def EI:Str.ofString "\n" = (⟨#[10]⟩:Str):=by decide +kernel
theorem xh(h:okNet n):(b9 (bO n)).length<=1000000:=by
 unfold b9;have l:=oh h;refine ZY (wr (B:=4100) fun w f=>?_) ?_
 . rcases Zs.mp f with f | f
   . obtain⟨x,j,rfl⟩:=Zr.mp f;exact pV h x j
   . rw[Zq.mp f];exact Nat.zero_le _
 . rw [Zk,Zl];show ((bO n).length+1)*(4100+1)<=_
   lia
def CS(h:okNet n):qQ (bO n):=⟨fun x f w j=>⟨((uv h x f).2.2 w j).1,((uv h x f).2.2 w j).2.1⟩,fun x f=>⟨ZY (pV h x f) (by decide),ZY (yZ h x f) (by decide)⟩,ZY (oh h) (by decide),xh h⟩
theorem GP(h:okNet n):gh [bo n]=some (.str (b9 (bO n)),[some (bo n)]):=by
 obtain⟨fin,e⟩:=G5 h;have r:=oh h;have bk:ij [none] fin [some (bo n)]=[some (bo n)]:=by cases fin<;>rfl
 have cl:aj [none] gi (ae (aa 0) ak) [some (bo n)]=some (.lst (((bO n).map bj).map D.str),[some (bo n)]):=by have l:aa 0 [some (bo n)]=some (bo n,[some (bo n)]):=rfl;simp[aa,noo,pP,l,e,bk]
 have src:a6 (aj [none] gi (ae (aa 0) ak)) [some (bo n)]=some (((bO n).map bj).map D.str,[some (bo n)]):=by unfold a6;rw[cl,Zc,sh,bH]
 have sn:shO [some (bo n)]=[some (bo n)]:=by unfold shO;rw[Zu,Zv,Option.map_some,iq]
 have q:=nK (felt:=vI (f2 aQ (ab 0) (fC (.str "\n")))) (g:=fun x=>x++(⟨#[10]⟩:Str)) src (fun _=>rfl) (fun x j=>by
  obtain⟨y,f,rfl⟩:=Zr.mp j;have m:(bj y).length+(Str.ofString "\n").length<=sizeLine:=sz (by have:=pV h y f;rw[EI];show _+1<=_;lia)
  rw[<- EI];simp[ab,imm,cj m]) (by rw[Zl];lia)
 have o:lO (.str (Str.ofString "")) [.lst ((((bO n).map bj).map fun x=>x++(⟨#[10]⟩:Str)).map D.str)]=some (.str (b9 (bO n))):=by
  have:=yh (s:=Str.empty) (ys:=((bO n).map bj).map fun x=>x++(⟨#[10]⟩:Str)) (B:=4200) (fun y f=>by
   obtain⟨z,p,rfl⟩:=Zr.mp f;obtain⟨x,j,rfl⟩:=Zr.mp p;have:=pV h x j;rw[aX];show _+1<=_
   lia) (by
   rw[Zl,Zl];show _+_*0<=_
   lia)
  rw[qY]at this;rw[tS];exact this
 unfold gh kq;rw[show Dl.start 1 [bo n]=[some (bo n)]from rfl,dQ]
 simp! only[BZ,pz,sn,q,o]
noncomputable def dP:Nat->List fJ->List (Nat×ba)
 |_,[]=>[]
 |k,m::l=>m.doors.map (fun d=>(k,d))++dP (k+1) l
theorem qg:∀l W,(W++l).Nodup->(∀w∈l,aJ w)->W.length+l.length<=4->Rows ⟨W,[],[],[],[]⟩ (l.map .watch) ⟨W++l,[],[],[],[]⟩
 |[],W,_,_,_=>by rw[Zj];exact .nil _
 |w::l,W,hn,hi,hl=>by
  rw[Zm]at hl;have f:w∉W:=fun m=>(Z0.mp hn).2.2 w m w (Zo ..) rfl
  have e:W++w::l=W++[w]++l:=by rw[ZV];rfl
  rw[e]at hn ⊢;exact .cons (.watch (hi w (Zo ..)) f (by lia)) (qg l (W++[w]) hn (fun x m=>hi x (Zp _ m)) (by rw[Zk];simp only[Zm,Zn];lia))
theorem wY(j:W.length<=4):∀l bs,(W++bnm (bs++l)).Nodup->(∀b∈l,tz b)->bs.length+l.length<=3->Rows ⟨W,bs,[],[],[]⟩ (l.map .box) ⟨W,bs++l,[],[],[]⟩
 |[],bs,_,_,_=>by rw[Zj];exact .nil _
 |b::l,bs,hn,hi,hl=>by
  rw[Zm]at hl;have f:b.1∉W++bnm bs:=fun m=>by unfold bnm at hn m;rw[Zw,<- ZV]at hn;exact(Z0.mp hn).2.2 _ m b.1 (Zo ..) rfl
  have e:bs++b::l=bs++[b]++l:=by rw[ZV];rfl
  rw[e]at hn ⊢;obtain⟨s,r,q,p,o⟩:=hi b (Zo ..);exact .cons (.box s f (by lia) j r q p o) (wY j l (bs++[b]) hn (fun x m=>hi x (Zp _ m)) (by rw[Zk];simp only[Zm,Zn];lia))
section
variable {bs:Yg bG}
theorem tj(j:bs.length<=3)(p:0<M.length)(o:P=[]\/∃q x,P=q++[x]/\x.1+1<M.length):∀l rl,((rl++l).map (·.name)).Nodup->(∀r∈l,okR W r)->rl.length+l.length<=6->Rows ⟨W,bs,M,R++[rl],P⟩ (l.map .room) ⟨W,bs,M,R++[rl++l],P⟩
 |[],rl,_,_,_=>by rw[Zj];exact .nil _
 |r::l,rl,hn,hi,hl=>by
  rw[Zm]at hl;have f:r.name∉rl.map (·.name):=fun m=>by rw[Zw]at hn;exact(Z0.mp hn).2.2 _ m r.name (Zo ..) rfl
  have e:rl++r::l=rl++[r]++l:=by rw[ZV];rfl
  rw[e]at hn ⊢;exact .cons (.room (hi r (Zo ..)).tookRoom f (by lia) p j o) (tj j p o l (rl++[r]) hn (fun x m=>hi x (Zp _ m)) (by rw[Zk];simp only[Zm,Zn];lia))
theorem tY(p:W.length<=4)(o:bs.length<=3)(j:rl≠[])(f:rl.length<=6){k}(q:M.length=k+1):∀(l:Yg ba) P,(∀d∈l,okD W (bnm bs) (rl.map (·.name)) d)->P.length+l.length<=24->Rows ⟨W,bs,M,R++[rl],P⟩ (l.map .door) ⟨W,bs,M,R++[rl],P++l.map fun d=>(k,d)⟩
 |[],P,_,_=>by rw[Zv,Zv,Zj];exact .nil _
 |d::l,P,hi,hl=>by
  rw[Zm]at hl;have e:P++(d::l).map (fun d=>(k,d))=P++[(k,d)]++l.map fun d=>(k,d):=by rw[ZV];rfl
  rw[e];have r:=Row.door (R:=R) (P:=P) (M:=M) (hi d (Zo ..)).tookDoor f j o p (by lia) (by lia)
  rw[q,Nat.add_sub_cancel]at r;exact .cons r (tY p o j f q l (P++[(k,d)]) (fun x m=>hi x (Zp _ m)) (by rw[Zk];simp only[Zm,Zn];lia))
def zH{α:Type}(l:Yg α):l=[]\/∃f x,l=f++[x]/\x∈l:=by
 rcases List.eq_nil_or_concat l with h|⟨f,x,h⟩
 . exact .inl h
 . rw[List.concat_eq_append]at h;exact .inr ⟨f,x,h,by rw[h];simp⟩
theorem tI(s:W.length<=4)(o:bs.length<=3):∀l M(R:Yg (Yg a4)) P,R.length=M.length->(∀rl∈R,rl≠[])->(∀x∈P,x.1<M.length)->(W++bnm bs++(M++l.map (·.name))).Nodup->M.length+l.length<=4->(∀m∈l,okM W (bnm bs) m)->P.length+(l.map fun m=>m.doors.length).sum<=24->Rows ⟨W,bs,M,R,P⟩ (l.map cQ).flatten ⟨W,bs,M++l.map (·.name),R++l.map (·.rooms),P++dP M.length l⟩
 |[],M,R,P,_,_,_,_,_,_,_=>by show Rows _ [] ⟨W,bs,M++[],R++[],P++[]⟩;rw[Zj,Zj,Zj];exact .nil _
 | m :: l,M,R,P,hRM,hR,hP,hn,hl,j,hd=>by
  rw[Zm]at hl;rw[Zu,List.sum_cons]at hd;have f:=j m (Zo ..);have t:(M++[m.name]).length=M.length+1:=by simp
  have r:m.name∉W++bnm bs++M:=fun z=>by rw[Zu,<- ZV]at hn;exact(Z0.mp hn).2.2 _ z m.name (Zo ..) rfl
  have u:M++(m::l).map (·.name)=M++[m.name]++l.map (·.name):=by rw[ZV];rfl
  have G:R++(m::l).map (·.rooms)=R++[m.rooms]++l.map (·.rooms):=by rw[ZV];rfl
  have D:P++dP M.length (m::l)=P++m.doors.map (fun d=>(M.length,d))++dP (M++[m.name]).length l:=by rw[t,dP,ZV]
  have C:Row ⟨W,bs,M,R,P⟩ (.mach m.name) ⟨W,bs,M++[m.name],R++[[]],P⟩:=.mach f.name r s o (by lia) hRM (by
   rcases zH R with h|⟨H,rl,h,j⟩
   . left;rw[h]at hRM;exact List.length_eq_zero_iff.mp hRM.symm
   . exact .inr ⟨H,rl,h,hR rl j⟩) (by lia)
  have B:=tj (M:=M++[m.name]) (R:=R) o (by lia) (by
   rcases zH P with h|⟨I,x,h,j⟩
   . exact .inl h
   . exact .inr ⟨I,x,h,by have:=hP x j;lia⟩) m.rooms [] (by rw[Zi];exact f.nd) f.rooms (by have:=f.rl;simp only[Zn];lia)
  have y:=tY (M:=M++[m.name]) (R:=R) s o f.rne f.rl t m.doors P f.doors (by lia)
  have v:=tI s o l (M++[m.name]) (R++[m.rooms]) (P++m.doors.map fun d=>(M.length,d)) (by simp[hRM]) (fun rl q=>by
   rcases Zs.mp q with h|h
   . exact hR rl h
   . rw[Zq.mp h];exact f.rne) (fun x p=>by
   rcases Zs.mp p with h|h
   . have:=hP x h;lia
   . obtain⟨d,_,rfl⟩:=Zr.mp h;lia) (by rw[<- u];exact hn) (by lia) (fun x p=>j x (Zp _ p)) (by rw[Zk,Zl];lia)
  rw[u,G,D,Zu,List.flatten_cons];exact(Rows.cons C (B.append y)).append v
end
noncomputable abbrev Pj(n:nU):Dr:=⟨n.watches,n.boxes,n.machines.map (·.name),n.machines.map (·.rooms),dP 0 n.machines⟩
theorem EJ(h:okNet n):Rows ⟨[],[],[],[],[]⟩ (bO n) (Pj n):=by
 have n1:=h.nd;have n2:=(Z0.mp n1).1;have f:=(Z0.mp n2).1;have a:=qg n.watches [] (by rw[Zi];exact f) h.wn (by have:=h.lw;simp only[Zn];lia)
 have b:=wY h.lw n.boxes [] (by rw[Zi];exact n2) h.bx (by have:=h.lb;simp only[Zn];lia)
 have c:=tI h.lw h.lb n.machines [] [] [] rfl (fun _ m=>by cases m) (fun _ m=>by cases m) (by rw[Zi];exact n1) (by have:=h.m2;simp only[Zn];lia) h.mc (by have:=h.dl;simp only[Zn];lia)
 unfold bO;rw[Zi]at a b c;rw[Zi,Zi]at c;exact(a.append b).append c
theorem u7:∀k l,(dP k l).length=(l.map fun m=>m.doors.length).sum
 |_,[]=>rfl
 |k,m::l=>by rw[dP,Zk,u7 (k+1) l,Zl,Zu,List.sum_cons]
abbrev L9(n:nU):D:=JE (b9 (bO n)) n.watches n.boxes (n.machines.map (·.name)) (n.machines.map (·.rooms)) (dP 0 n.machines)
theorem vU(h:okNet n):∃fin,hV [.str (b9 (bO n))]=some (L9 n,fin):=by
 have j:=h.m1;have p:=h.m2;refine Ha (CS h) (EJ h) ?_ ?_ ?_ ?_
 . rcases List.eq_nil_or_concat n.machines with e | ⟨o,m,e⟩
   . rw[e]at j;exact absurd j (by decide)
   . refine ⟨o.map (·.rooms),m.rooms,?_,(h.mc m (by rw [e];simp)).rne⟩
     show n.machines.map (·.rooms)=_;rw[e];simp only[List.concat_eq_append,Zw,Zu,Zv]
 . intro rl f;obtain⟨m,l,rfl⟩:=Zr.mp f;exact⟨ZY (h.mc m l).rl (by decide),(h.mc m l).nd⟩
 . rw[Zl];lia
 . rw[u7];exact h.dl
def Mb{f:Yg Int}{k}(h:k<f.length):L2.atI (f.map D.int) (k:Int)=some (.int f[k]):=rZ (by rw[ZK,Zx h];rfl)
theorem Kg(f:Yg Int)(k:Nat):∃c,eJ [.seq (f.map D.int),.int k]=some (.int c,[some (.seq (f.map D.int)),some (.int k)]):=by
 by_cases h:k<f.length
 . have d:decide ((k:Int) < (f.length:Int))=true:=decide_eq_true (by lia)
   exact⟨f[k],by simp! only[eJ,lu,Zl,qi,d,Mb h]⟩
 . have d:decide ((k:Int) < (f.length:Int))=false:=decide_eq_false (by lia)
   exact⟨0,by simp! only[eJ,lu,Zl,qi,d]⟩
theorem DL(c):∃p,fg [.int c]=some (pu p,[some (.int c)])/\OkP p:=by
 refine⟨((if(c.natAbs:Int)-10^18>0 then(c.natAbs:Int)-10^18 else 0),(c.natAbs:Int)%2147483563+1),?_,?_⟩
 . have h1:gI L2.CPow (fun i j=>D.int (i ^ j.toNat)) (.int 10) (.int 18)=some (.int (10 ^ (18:Int).toNat)):=mB ⟨by decide,by decide,by decide⟩
   have f:(10:Int)^(18:Int).toNat=10^18:=rfl;have h2:gI (fun _ j=>0<j) (fun i j=>D.int (i%j)) (.int (c.natAbs:Int)) (.int 2147483563)=some (.int ((c.natAbs:Int)%2147483563)):=mB (by decide)
   simp[fg,jE,Dl.start,aE,ab,imm,Fm,zR,h1,f,h2]
 . refine ⟨?_,?_,?_⟩
   . split<;>lia
   . show 0<=(c.natAbs:Int)%2147483563+1;lia
   . show(c.natAbs:Int)%2147483563+1<2147483629;lia
def PL{c}:L2.atI [a,b,c] 2=some c:=rfl
theorem G0(i):∃z0 z1 z2 z3 z4 z5,di [.int i]=some (szD z0 z1 z2 z3 z4 z5,[some (.int i)])/\OkS z0 z1 z2 z3 z4 z5:=by
 have h2:gI (fun _ j=>0<j) (fun i j=>D.int (i%j)) (.int i) (.int 3)=some (.int (i%3)):=mB (by decide)
 have f:i%3=0\/i%3=1\/i%3=2:=by lia
 rcases f with e|e|e
 . exact⟨4,3,4,6,6,60,by simp[di,gf,Dl.start,aE,ab,imm,iK,oT,h2,e,yL],by constructor<;>decide⟩
 . exact⟨2,1,2,3,4,4,by simp[di,gf,Dl.start,aE,ab,imm,iK,oT,h2,e,sJ],by constructor<;>decide⟩
 . exact⟨1,2,3,2,3,9,by simp[di,gf,Dl.start,aE,ab,imm,iK,oT,h2,e,PL],by constructor<;>decide⟩
def wK(f:Yg Int)(k:Nat):∃(n:nU)(fin:DS),fu [.seq (f.map D.int),.int k]=some (xL n,fin)/\okNet n:=by
 obtain⟨c,v⟩:=Kg f k;obtain⟨o,m⟩:=Kg f 0;obtain⟨p,t,op⟩:=DL c;obtain⟨z0,z1,z2,z3,z4,z5,s,q⟩:=G0 (o+k);obtain⟨n,fin,u,r⟩:=L8 q op;have j:eJ [.seq (f.map D.int),.int 0]=some (.int o,[some (.seq (f.map D.int)),some (.int 0)]):=m;have bk:ij [none,none] fin [some (.seq (f.map D.int)),some (.int k)]=[some (.seq (f.map D.int)),some (.int k)]:=by
  cases fin with
  |nil=>rfl
  |cons a l=>cases l<;>rfl
 have B:∀x:Ye D,ij [none] [x] [some (D.seq (f.map D.int)),some (.int k)]=[some (.seq (f.map D.int)),some (.int k)]:=fun _=>rfl
 refine⟨n,[some (.seq (f.map D.int)),some (.int k)],?_,r⟩;have z:aj [none] fg (ae (vI (aS eJ (af (ab 0) (af (ab 1) ag)))) ak) [some (.seq (f.map D.int)),some (.int k)]=some (pu p,[some (.seq (f.map D.int)),some (.int k)]):=by simp[ab,sh,shs,imm,q8,v,t]
 have y:aj [none] di bq4 [some (.seq (f.map D.int)),some (.int k)]=some (szD z0 z1 z2 z3 z4 z5,[some (.seq (f.map D.int)),some (.int k)]):=by simp[ab,sh,shs,imm,q8,j,s]
 unfold fu jF;rw[show Dl.start 2 [.seq (f.map D.int),.int k]=[some (.seq (f.map D.int)),some (.int k)]from rfl,dQ,cA,iW,z]
 simp only[bq4,Zc];rw[iW,y];simp only[bq4,Zc,fG,u,bk];rfl
variable {bs:Yg bG} {d:D} {δ1:DS} {a b s:SQ} {f g:FD} {t u:FT} {fm:FM} {ms ds es:Yg D} {y:Str} {k:Int} {r:a4} {ga:FA} {G:GQ}
def II{f g}(h:f δ=some (.seq (l.map D.str)))(h':g δ=some (.str x))(m:x∈l):fMt bL f (af g ag) δ=some (.int (gn l x)):=by rw[BZ,h,fH,h'];exact nG m
def CB(i:Int):∃fin,br [.int i]=some (.bl true,fin):=⟨_,rfl⟩
abbrev nT(W:List Str)(bs:List bG)(ms:List D):D:=.tup [.seq (W.map D.str),.seq (bs.map aW),.seq ms]
theorem qU{i}(f:bs.length<=3)(h:eO (aa i) (fC (.int 1)) δ=some (.seq (bs.map aW),δ)):aB 3 (aA (a6 (eO (aa i) (fC (.int 1)))) 1 [] (gN 0) (fun _=>some true) (vI (f2 gIx (ab 0) (fC (.int 0))))) δ=some (.nx (δ.set 3 (some (.seq ((bnm bs).map D.str))))):=by rw[bP,nK (by unfold a6;rw[h,Zc,sh,aZ]) vp (fun m _=>rfl) (by lia),Zc,sh,bH]
def xU(f:bs.length<=3)(h:c.1∈W\/c.1∉W/\c.1∈bnm bs):∃fin,fj [bb W bs c,cT c,nT W bs ms]=some (.bl true,fin):=by
 unfold bb;rcases h with h|⟨h,h'⟩
 . rw[if_pos h];refine iS ((cJ rfl).trans ((cJ (qU f rfl)).trans ((cJ (gU (by kernel_rfl))).trans ((cJ (gU (uo (sw (by kernel_rfl) rfl rfl) (sw (by kernel_rfl) rfl rfl)))).trans (Pg ((NI ((GS rfl rfl).trans (Z8 some (decide_eq_true h)))).trans (xz (mM (by kernel_rfl) (mM (by kernel_rfl) (CG (by kernel_rfl) (II rfl rfl h) rfl))))))))))
 . rw[if_neg h];refine iS ((cJ rfl).trans ((cJ (qU f rfl)).trans ((cJ (gU (by kernel_rfl))).trans ((cJ (gU (uo (sw (by kernel_rfl) rfl rfl) (sw (by kernel_rfl) rfl rfl)))).trans ((cJ (gU ((GS rfl rfl).trans (Z8 some (decide_eq_false h))))).trans (xz (mM (by kernel_rfl) (mM (by kernel_rfl) (CG (by kernel_rfl) (II rfl rfl h') rfl)))))))))
abbrev okC(W:List Str)(bs:List bG)(cs:List (Str×Str×Int)):Prop:=∀c∈cs,c.1∈W\/c.1∉W/\c.1∈bnm bs
def qe(l:Yg (Str×Str×Int)):shs (l.map cT)=l.map cT:=be (fun c=>rfl) l
def tG(h:shs ms=ms):sh (nT W bs ms)=nT W bs ms:=by simp only[sh,shs,bH,aZ,h]
theorem nR(p:bs.length<=3)(h:okC W bs cs)(q:cs.length<=900)(j:shs ms=ms):∃fin,dG [.seq (cs.map (bb W bs)),.seq (cs.map cT),nT W bs ms]=some (.bl true,fin):=by
 refine iS ((cJ (gU (uo (by kernel_rfl) (sw (d:=.int cs.length) ?_ ?_ rfl)))).trans (xz (Ki (l:=cs) (δ':=[some (.seq (cs.map (bb W bs))),some (.seq (cs.map cT)),some (nT W bs ms)]) (so1 (by rw[sh,cF]) (so1 (by rw[sh,qe]) (so1 (tG j) rfl))) ?_)))
 . exact Z8 (fun k:Nat=>some (D.int k)) (Zl ..)
 . exact Z8 (fun k:Nat=>some (D.int k)) (Zl ..)
 . refine bJ (δc:=[some (.seq (cs.map (bb W bs))),some (.seq (cs.map cT)),some (nT W bs ms)]) (xs:=cs.map fun _=>.bl true) (ds:=cs.map fun c=>.tup [bb W bs c,cT c]) (δ1:=[some (.seq (cs.map (bb W bs))),some (.seq (cs.map cT)),some (nT W bs ms)]) (ιe:=[none,none,some (nT W bs ms)]) ?_ rfl ?_ (by rw [Zl];lia)
   . exact Kl rfl rfl gd fun _=>rfl
   . have:=cZ (n:=2) (g:=fO [0,1]) (fc:=fun _=>some true) (felt:=vI (aS fj (af (ab 0) (af (ab 1) (af (ab 2) ag))))) (ι:=[none,none,some (nT W bs ms)]) (f:=fun _=>.bl true) (ds:=cs.map fun c=>.tup [bb W bs c,cT c]) fun d m=>by
      obtain⟨c,o,rfl⟩:=Zr.mp m;refine⟨[some (bb W bs c),some (cT c),some (nT W bs ms)],by rw[sh,shs,shs,gd];rfl,rfl,[some (bb W bs c),some (cT c),some (nT W bs ms)],?_,rfl⟩
      rw[db,c_q rfl (sh1 (gd c) (sh1 rfl (sh1 (tG j) rfl))) (xU p (h c o))];rfl
     rw[List.map_map]at this;exact this
def xR(l:bs.length<=3)(h:okC W bs r.stays)(j:r.stays.length<=900)(f:shs ms=ms):∃fin,hX [bg W bs r,rT r,nT W bs ms]=some (.bl true,fin) :=
 iS ((cJ (gU (by kernel_rfl))).trans (xz (mM (CG (d:=.tup [.str r.name,.int r.price,.bl r.hurry]) (by kernel_rfl) (by kernel_rfl) rfl) (c_q (by kernel_rfl) (sh1 (by rw[sh,cF]) (sh1 (by rw[sh,qe]) (sh1 (tG f) rfl))) (nR l h j f)))))
def vh(l:Yg (Str×Str×Int)):sh (.seq (l.map cT))=.seq (l.map cT):=by rw[sh,qe]
def c_w{f:FD}{δ}(h:f δ=some (.int i)):aS br (af f ag) δ=some (.bl true):=c_q (ds:=[.int i]) (by rw[fH,h];rfl) rfl (CB i)
theorem Dd(j:W.length<=4)(cs):ip ((rsN W cs).map fun(k:Nat)=>D.int (k:Int))=some (rsN W cs):=vM fun k hk=>by
 obtain⟨c,f,rfl⟩:=Zr.mp hk;have:=zJ (Z7 (List.mem_filter.mp f).2)
 lia
abbrev Ix(W:List Str)(bs:List bG)(cs:List (Str×Str×Int)):Prop:=∀c∈cs,c.1∈bnm bs<->c.1∉W
theorem vx{k:Nat}{d:ba}(C:W.length<=4)(B:bs.length<=3)(h:Ix W bs d.deeds)(J:d.deeds.length<=900)(v:shs ms=ms):∃fin,fU [aV W bs (k,d),.seq (d.deeds.map cT),nT W bs ms]=some (.bl true,fin):=by
 have H:∀(a b c:Ye D),jX (aA (a6 (aa 1)) 3 [2] (fO [0,1,2]) (fT (f2 gIn (ab 0) (f2 gIx (ab 3) (fC (.int 0))))) (vI (fMt bL (f2 gIx (ab 3) (fC (.int 0))) (af (ab 0) ag)))) [some (aV W bs (k,d)),some (.seq (d.deeds.map cT)),some (nT W bs ms),a,b,c]=some (.lst (jW (rsN W d.deeds)),[some (aV W bs (k,d)),some (.seq (d.deeds.map cT)),some (nT W bs ms),a,b,c]):=fun a b c=>by
  have e:=bJ (js:=[2]) (n:=3) (g:=fO [0,1,2]) (fc:=fT (f2 gIn (ab 0) (f2 gIx (ab 3) (fC (.int 0))))) (felt:=vI (fMt bL (f2 gIx (ab 3) (fC (.int 0))) (af (ab 0) ag))) (eM (fm:=aa 1) (δ:=[some (aV W bs (k,d)),some (.seq (d.deeds.map cT)),some (nT W bs ms),a,b,c]) rfl (vh _)) rfl (zE (p:=fun c=>decide (c.1∈W)) (h:=fun c=>.int (gn W c.1)) fun c _=>⟨[some (.str c.1),some (.str c.2.1),some (.int c.2.2),some (nT W bs ms)],rfl,GS rfl rfl,rfl,fun f=>⟨_,by rw[db,II (l:=W) rfl rfl (Z7 f)];rfl,rfl⟩⟩) (by rw[Zl];exact ZY (List.length_filter_le ..) (by lia))
  rw[show(d.deeds.filter fun c=>decide (c.1∈W)).map (fun c=>D.int (gn W c.1))=(rsN W d.deeds).map fun(k:Nat)=>D.int (k:Int) by unfold rsN;rw[List.map_map];rfl]at e
  unfold jX;rw[e,Zc];exact Z8 (fun(o:Ye (Yg Nat))=>o.bind fun u=>some (D.lst (jW u),_)) (Dd C d.deeds)
 have G:∀(b c:Ye D),aA (a6 (aa 1)) 3 [3] (fO [0,1,2]) (fT (f2 gIn (ab 0) (ab 3))) (bY (ae (vI (fMt bL (ab 3) (af (ab 0) ag))) (ae (aa 1) (ae (aa 2) ak)))) [some (aV W bs (k,d)),some (.seq (d.deeds.map cT)),some (nT W bs ms),some (.seq ((bnm bs).map D.str)),b,c]=some (.lst (dR W bs d.deeds),[some (aV W bs (k,d)),some (.seq (d.deeds.map cT)),some (nT W bs ms),some (.seq ((bnm bs).map D.str)),b,c]):=fun b c=>by
  have e:=bJ (js:=[3]) (n:=3) (g:=fO [0,1,2]) (fc:=fT (f2 gIn (ab 0) (ab 3))) (felt:=bY (ae (vI (fMt bL (ab 3) (af (ab 0) ag))) (ae (aa 1) (ae (aa 2) ak)))) (cs:=[.seq ((bnm bs).map D.str)]) (eM (fm:=aa 1) (δ:=[some (aV W bs (k,d)),some (.seq (d.deeds.map cT)),some (nT W bs ms),some (.seq ((bnm bs).map D.str)),b,c]) rfl (vh _)) rfl (zE (p:=fun c=>decide (c.1∈bnm bs)) (h:=fun c=>.tup [.int (gn (bnm bs) c.1),.str c.2.1,.int c.2.2]) fun c _=>⟨[some (.str c.1),some (.str c.2.1),some (.int c.2.2),some (.seq ((bnm bs).map D.str))],rfl,GS rfl rfl,rfl,fun f=>⟨_,by rw[lR,iW,db,II (l:=bnm bs) rfl rfl (Z7 f)];rfl,rfl⟩⟩) (by rw[Zl];exact ZY (List.length_filter_le ..) (by lia))
  rw[List.filter_congr (q:=fun c=>decide (c.1∉W)) fun c f=>decide_eq_decide.mpr (h c f)]at e
  exact e
 have j:∀x y z,shO [some (aV W bs (k,d)),some (.seq (d.deeds.map cT)),some (nT W bs ms),some (.seq x),some (.seq y),some (.seq z)]=[some (aV W bs (k,d)),some (.seq (d.deeds.map cT)),some (nT W bs ms),some (.seq (shs x)),some (.seq (shs y)),some (.seq (shs z))]:=fun x y z=>so1 (iZ _) (so1 (by rw[sh,qe]) (so1 (tG v) (by simp only[shO,Zu,Zv,Option.map_some,sh])))
 have I:((List.range 5).filter fun k=>decide (k∈rsN W d.deeds)).length<=1000:=ZY (List.length_filter_le ..) (by decide)
 have s:(d.deeds.filter fun c=>decide (c.1∉W)).length<=1000:=ZY (List.length_filter_le ..) (by lia)
 have t:sh (sh (.seq (jW (rsN W d.deeds))))=.seq (((List.range 5).filter fun k=>decide (k∈rsN W d.deeds)).map fun(k:Nat)=>D.int (k:Int)):=by rw[mR,sh,kO];rfl
 have r:sh (sh (.seq (dR W bs d.deeds)))=.seq ((d.deeds.filter fun c=>decide (c.1∉W)).map fun c=>.tup [.int (gn (bnm bs) c.1),.str c.2.1,.int c.2.2]):=by rw[mR,sh,gP];rfl
 refine iS ((cJ (qU (i:=2) B rfl)).trans ((cJ (by rw[bP];exact Z8 (fun o:Ye (D×DS)=>o.bind _) (H _ _ _))).trans ((cJ (by rw[bP];exact Z8 (fun o:Ye (D×DS)=>o.bind _) (G _ _))).trans ((cJ (gU (uo (by kernel_rfl) (o8 (Gx (j _ _ _) (by kernel_rfl) t I fun k=>⟨_,by rw[db,c_w rfl];rfl⟩))))).trans ((cJ (gU (uo (by kernel_rfl) (o8 (Gx (j _ _ _) (by kernel_rfl) r s fun c=>⟨_,rfl⟩))))).trans ((cJ (gU (o8 (Gx (j _ _ _) (by kernel_rfl) r s fun c=>⟨_,by rw[db,mM (c_w (i:=gn (bnm bs) c.1) rfl) (c_w (i:=c.2.2) rfl)];rfl⟩)))).trans (xz (mM (CG (d:=.seq (jW (rsN W d.deeds))) (by kernel_rfl) (by show some (D.seq (shs _))=_;rw[kO]) ?_) (CG (d:=.seq (dR W bs d.deeds)) (by kernel_rfl) (by show some (D.seq (shs _))=_;rw[gP]) ?_)))))))))
 . exact List.all_eq_true.mpr fun x m=>by obtain⟨c,_,rfl⟩:=Zr.mp m;rfl
 . exact List.all_eq_true.mpr fun x m=>by obtain⟨c,_,rfl⟩:=Zr.mp m;rfl
def xT{k:Nat}{d:ba}(t:W.length<=4)(l:bs.length<=3)(h:okC W bs d.conds)(s:d.conds.length<=900)(h2:Ix W bs d.deeds)(j:d.deeds.length<=900)(f:shs ms=ms):∃fin,ic [aV W bs (k,d),.int k,dT d,nT W bs ms]=some (.bl true,fin):=by
 have r:shs [aV W bs (k,d),.seq (d.deeds.map cT),nT W bs ms]=_:=sh1 (iZ _) (sh1 (vh _) (sh1 (tG f) rfl));have a:=c_q (δ:=[some (aV W bs (k,d)),some (.int k),some (dT d),some (nT W bs ms)]) (ga:=af (ab 0) (af (f2 gIx (ab 2) (fC (.int 6))) (af (ab 3) ag))) (by rfl) r (vx t l h2 j f)
 have b:=c_q (δ:=[some (aV W bs (k,d)),some (.int k),some (dT d),some (nT W bs ms)]) (ga:=af (a9 [az] "conds" (ab 0)) (af (f2 gIx (ab 2) (fC (.int 5))) (af (ab 3) ag))) (by kernel_rfl) (sh1 (by rw[sh,cF]) (sh1 (vh _) (sh1 (tG f) rfl))) (nR l h s f)
 obtain⟨q,p,o,u,m,x,v⟩:=d;cases u with
 |none=>exact iS ((cJ (gU (by kernel_rfl))).trans ((cJ (gU (by kernel_rfl))).trans ((cJ (gU (sw (d:=.tup [.int k,.str q,.str p,.bl o,.non,.int m]) (by kernel_rfl) (by kernel_rfl) rfl))).trans (xz (mM b a)))))
 |some w=>exact iS ((cJ (gU (by kernel_rfl))).trans ((cJ (gU (by kernel_rfl))).trans ((cJ (gU (sw (d:=.tup [.int k,.str q,.str p,.bl o,.tup [.str w.1,.str w.2],.int m]) (by kernel_rfl) (by kernel_rfl) rfl))).trans (xz (mM b a)))))
theorem lS(c):∃fin,gK [bb W bs c]=some (cy W bs c,fin):=by unfold bb cy;split<;>exact Os (by kernel_rfl)
def t5(c):noo (bb W bs c)=true:=by unfold bb;split<;>rfl
abbrev tm(W:List Str)(bs:List bG)(r:a4):D:=.oo aO RN [.str r.name,.int r.price,.bl r.hurry,.lst (r.stays.map (cy W bs))]
def Dg(r):sh (tm W bs r)=bg W bs r:=by unfold bg;simp only[sh,shs,jy]
abbrev rN(W:List Str)(bs:List bG)(x:Nat×ba):D:=.oo az ON [.int x.1,.str x.2.start,.str x.2.goal,.bl x.2.weather,bw x.2.word,.int x.2.price,.lst (x.2.conds.map (cy W bs)),.lst (jW (rsN W x.2.deeds)),.lst (dR W bs x.2.deeds)]
def FY(x):sh (rN W bs x)=aV W bs x:=by unfold aV;simp only[sh,shs,jy,jd,kO,gP]
theorem sC(f:r.stays.length<=900):∃fin,jI [bg W bs r]=some (tm W bs r,fin):=by
 have e:=qd (δ:=[some (bg W bs r)]) (eM (fm:=cD [aO] "stays" (aa 0)) (d:=sh (.seq (r.stays.map (bb W bs)))) (by kernel_rfl) (by rw[mR,sh,cF])) gd t5 (fun c _=>lS c) (by lia)
 exact iS ((vW (zC (ds:=[.str r.name,.int r.price,.bl r.hurry,.lst (r.stays.map (cy W bs))]) (vf (by kernel_rfl) rfl (vf (by kernel_rfl) rfl (vf (by kernel_rfl) rfl (vc e (fG ..))))) (by kernel_rfl) (by simp))))
theorem sD{x:Nat×ba}(s:x.2.conds.length<=900):∃fin,jJ [aV W bs x]=some (rN W bs x,fin):=by
 have e:=qd (δ:=[some (aV W bs x),none]) (eM (fm:=cD [az] "conds" (aa 0)) (d:=sh (.seq (x.2.conds.map (bb W bs)))) (by kernel_rfl) (by rw[mR,sh,cF])) gd t5 (fun c _=>lS c) (by lia)
 have w:vI (iM (ab 0)) [some (aV W bs x),some (.lst (x.2.conds.map (cy W bs)))]=some (bw x.2.word,[some (aV W bs x),some (.lst (x.2.conds.map (cy W bs)))]):=by obtain⟨k,r,q,p,f,m,l,j⟩:=x;cases f<;>kernel_rfl
 exact iS ((cJ (by rw[pv];exact Z8 (fun o:Ye (D×DS)=>o.bind _) e)).trans (vW (zC (ds:=[.int x.1,.str x.2.start,.str x.2.goal,.bl x.2.weather,bw x.2.word,.int x.2.price,.lst (x.2.conds.map (cy W bs)),.lst (jW (rsN W x.2.deeds)),.lst (dR W bs x.2.deeds)]) (vf (by kernel_rfl) rfl (vf (by kernel_rfl) rfl (vf (by kernel_rfl) rfl (vf (by kernel_rfl) rfl (vc w (vf (by kernel_rfl) rfl (vc rfl (vc (zG (by kernel_rfl) (rh fun _=>rfl)) (vc (zG (by kernel_rfl) (rh fun _=>rfl)) (fG ..)))))))))) (by obtain⟨k,r,q,p,f,m,l,j⟩:=x;cases f<;>kernel_rfl) (by simp))))
variable {t:Str} {g:D->DS->Ye DS}
def uw(l):sh (rmD W bs l)=rmD W bs l:=by rw[sh,lV]
abbrev pS(t:Str)(W:List Str)(bs:List bG)(M:List Str)(R:List (List a4))(P:List (Nat×ba)):D:=.ob a5 NN [.str t,.seq (W.map D.str),.seq (bs.map aW),.seq (M.map D.str),.seq (R.map (rmD W bs)),.seq (P.map (aV W bs)),.dct]
def Aw:sh (JE t W bs M R P)=pS t W bs M R P:=by simp only[sh,shs,bH,aZ,cn,be uw]
def Ax:sh (pS t W bs M R P)=pS t W bs M R P:=by simp only[sh,shs,bH,aZ,cn,be uw]
theorem Df{k:Nat}{rl}(hk:R[k]?=some rl)(j:rl.length<=900)(f:∀r∈rl,r.stays.length<=900):∃fin,kK [pS t W bs M R P,.int k]=some (.lst (rl.map (tm W bs)),fin):=by
 have h1:cD [a5] "own_rooms" (aa 0) [some (pS t W bs M R P),some (.int k)]=some (.seq (R.map (rmD W bs)),[some (pS t W bs M R P),some (.int k)]):=(show _=some (sh (.seq (R.map (rmD W bs))),[some (pS t W bs M R P),some (.int k)]) by kernel_rfl).trans (by rw[sh,be uw])
 refine iS (vW (qd (δ:=[some (pS t W bs M R P),some (.int k)]) ?_ iT (fun _=>rfl) (fun r m=>sC (f r m)) (by lia)))
 unfold yP eO;rw[h1];simp only[Zc,ab,Ze,Zd,rZ (show(R.map (rmD W bs))[k]?=some (rmD W bs rl) by rw[ZK,hk];rfl),uw]
theorem FW(j:P.length<=900)(f:∀x∈P,x.2.conds.length<=900):∃fin,kL [pS t W bs M R P]=some (.lst (P.map (rN W bs)),fin) :=
 iS (vW (qd (eM (d:=sh (.seq (P.map (aV W bs)))) (by kernel_rfl) (by rw[mR,sh,cn])) iZ (fun _=>rfl) (fun x m=>sD (f x m)) (by lia)))
abbrev oks(n:nU):List D:=n.machines.map mT
def EC(n):shs (oks n)=oks n:=kU _
def Bq(h:okNet n)(j:m∈n.machines){r}(f:r∈m.rooms):okC n.watches n.boxes r.stays:=fun c l=>.inl (((h.mc m j).rooms r f).stays c l).1
def Br(h:okNet n)(f:m∈n.machines){d}(j:d∈m.doors):okC n.watches n.boxes d.conds:=fun c l=>by
 rcases ((h.mc m f).doors d j).conds c l with z|z
 . exact .inl z.1
 . exact .inr ⟨z.1,z.2.1⟩
def Iw(h:okNet n)(f:m∈n.machines){d}(j:d∈m.doors):Ix n.watches n.boxes d.deeds:=fun c l=>by
 rcases ((h.mc m f).doors d j).deeds c l with z|z
 . exact⟨fun y w=>(Z0.mp (Z0.mp h.nd).1).2.2 _ z.1 _ y rfl,fun y=>absurd z.1 y⟩
 . exact⟨fun _=>z.1,fun _=>z.2.1⟩
def EQ{m:Str}{fo:FD}{ga:FA}(h:fo δ=some (pS t W bs M R P))(l:eK m NN=none)(o:ga δ=some ds)(f:shs ds=ds)(p:∃fin,G (pS t W bs M R P::ds)=some (d,fin))(j:own d=true):iQ a5 m G fo ga δ=some (d,δ):=by obtain⟨fin,e⟩:=p;simp only[iQ,h,Zc,mw l,Z6,o,shs,Ax,f,e,j]
def wO(c):own (cy W bs c)=true:=by unfold cy;split<;>rfl
def AZ(r):own (tm W bs r)=true:=by simp only[own,gb,gW wO,Bool.and_self]
def AB(w):own (bw w)=true:=by cases w<;>rfl
def B5(x):own (rN W bs x)=true:=by simp only[own,gb,gW wO,AB,jW,dR,gW (f:=fun(k:Nat)=>D.int (k:Int)) fun _=>rfl,gW (f:=fun c:Str×Str×Int=>D.tup [.int (gn (bnm bs) c.1),.str c.2.1,.int c.2.2]) fun _=>rfl,Bool.and_self]
abbrev fM(n:nU):D:=pS (b9 (bO n)) n.watches n.boxes (n.machines.map (·.name)) (n.machines.map (·.rooms)) (dP 0 n.machines)
def OH{k:Nat}{m:fJ}(h:n.machines[k]?=some m):L2.atI (n.machines.map mT) (k:Int)=some (mT m):=rZ (by rw[ZK,h];rfl)
def Ob{i j:Nat}{k:Nat}{m:fJ}(h:n.machines[k]?=some m)(hi:δ[i]?=some (some (bo n)))(f:δ[j]?=some (some (.int k))):f2 gIx (f2 gIx (ab i) (fC (.int 2))) (ab j) δ=some (mT m)/\eO (eO (aa i) (fC (.int 2))) (ab j) δ=some (mT m,δ):=by
 have l:L2.atI [D.seq (n.watches.map D.str),.seq (n.boxes.map aW),.seq (n.machines.map mT)] 2=some (.seq (n.machines.map mT)):=rfl;constructor
 . simp only[dD,ab,hi,f,e_C,Zc,nE,l,iu,OH h]
 . simp only[eO,aa,ab,hi,f,e_C,Zc,l,OH h,ES,noo,pP,Bool.and_self,Z6]
theorem qA(h:okNet n):∃fin,cM [fM n,bo n]=some (.bl true,fin):=by
 have v:=h.m2;refine uu (yY (uJ (m:=n.machines.length) (by lia) (by rw[db];exact Z8 (fun o:Ye D=>o.bind _) (kW mT n.machines)) (Q:=fun _ δ=>∃a b c d,δ=[some (fM n),some (bo n),a,b,c,d]) ⟨_,_,_,_,rfl⟩ ?_) ?_)
 . rintro k hk _ ⟨a,b,c,d,rfl⟩
   have s:=Zx hk;generalize n.machines[k]=m at s;have t:=List.mem_of_getElem? s;have q:=h.mc m t;have rl:=q.rl;have u:=fun(b c d:Ye D)=>Ob (δ:=[some (fM n),some (bo n),some (.int k),b,c,d]) (i:=1) (j:=2) s rfl rfl
   refine⟨_,rfl,tD (s8 (EQ rfl (by decide +kernel) rfl rfl (Df (by rw[ZK,s];rfl) (by lia) fun r p=>(q.rooms r p).len) (gW AZ))) (tD (gU (uo (by kernel_rfl) (sw (d:=.int m.rooms.length) (kW ..) ((N7 ((Oc (u _ _ _).1).trans rfl)).trans (kW ..)) rfl))) (L6 (zy (f:=tm n.watches n.boxes) (e:=rT) (l:=m.rooms) (δ1:=[some (fM n),some (bo n),some (.int k),none,c,d]) (Q:=fun δ=>∃c d,δ=[some (fM n),some (bo n),some (.int k),none,c,d]) (Q':=fun δ=>∃c d,δ=[some (fM n),some (bo n),some (.int k),some (.lst ((m.rooms.map (tm n.watches n.boxes)).map fun _=>.any)),c,d]) rfl (fun _=>rfl) (CA (u none c d).2 rfl rfl) (by rw[sh,kQ]) y9 ⟨_,_,rfl⟩ ?_ ?_) ?_))⟩
   . rintro r p _ ⟨c,d,rfl⟩
     have ok:=xR h.lb (Bq h t p) (q.rooms r p).len (EC n);exact⟨_,rfl,tD (gU (o8 (c_q rfl (by rw[shs,Dg];exact Z8 _ (sh1 (y9 r) (sh1 (iq n) rfl))) ok))) ⟨_,vy (l:=[3]) (ds:=r.stays.map (cy n.watches n.boxes)) rfl (by kernel_rfl) rfl rfl (by have:=(q.rooms r p).ls;rw[Zl];lia),_,_,rfl⟩⟩
   . rintro _ ⟨c,d,rfl⟩;exact⟨c,d,rfl⟩
   . rintro _ ⟨c,d,rfl⟩;exact⟨_,rfl,_,_,_,_,rfl⟩
 . rintro _ ⟨a,b,c,d,rfl⟩;exact⟨_,rfl⟩
abbrev due(x:Nat×ba):D:=.tup [.int x.1,dT x.2]
def FV(x):sh (due x)=due x:=by rw[sh,shs,shs,shs,wL];rfl
def MI(d):noo (dT d)=true:=by obtain⟨_,_,_,w,_,_,_⟩:=d;cases w<;>rfl
def Jj{k}{m}(h:n.machines[k]?=some m):dP k (n.machines.drop k)=m.doors.map (fun d=>(k,d))++dP (k+1) (n.machines.drop (k+1)):=by obtain⟨hk,rfl⟩:=ZL.mp h;rw[List.drop_eq_getElem_cons hk,dP]
theorem Jd(h:okNet n):∃fin,kJ [bo n]=some (.lst ((dP 0 n.machines).map due),fin):=by
 have t:=h.m2;have s:=h.dl;rw[<- u7 0]at s;refine uu (jO rfl (yY (uJ (m:=n.machines.length) (by lia) (by rw[db];exact Z8 (fun o:Ye D=>o.bind _) (kW mT n.machines)) (Q:=fun k δ=>∃o acc,δ=[some (bo n),some (.lst (acc.map due)),o]/\acc++dP k (n.machines.drop k)=dP 0 n.machines) ⟨_,[],rfl,rfl⟩ ?_) ?_))
 . rintro k hk _ ⟨o,acc,rfl,hacc⟩
   have q:=Zx hk;generalize n.machines[k]=m at q;rw[Jj q,<- ZV]at hacc;have r:=Z8 List.length hacc;rw[Zk,Zk,Zl]at r;have e:=bJ (js:=[2]) (n:=1) (g:=gN 0) (fc:=fun _=>some true) (felt:=bY (ae (aa 1) (ae (aa 0) ak))) (cs:=[.int k]) (eM (fm:=eO (eO (eO (aa 0) (fC (.int 2))) (ab 2)) (fC (.int 2))) (d:=.seq (m.doors.map dT)) (l:=m.doors) (f:=dT) (δ:=[some (bo n),none,some (.int k)]) (CA (Ob (i:=0) (j:=2) q rfl rfl).2 rfl rfl) (by rw[sh,rM])) rfl (pZ (h:=fun d=>due (k,d)) (f:=dT) fun d _=>⟨[some (dT d),some (.int k)],by rw[wL];rfl,_,by rw[lR];exact Z8 (fun o:Ye (Yg D×DS)=>o.bind _) (vc rfl (vc (if_pos (MI d)) (fG ..))),rfl⟩) (by rw[Zl];lia)
   refine⟨_,rfl,_,Mu (ds:=acc.map due) (es:=m.doors.map fun d=>due (k,d)) rfl rfl rfl (Z8 (fun o:Ye (D×DS)=>o.bind fun p=>some (p.1,p.2.set 1 (some (.lst (acc.map due))))) e) (by rw[Zl,Zl];lia),some (.int k),acc++m.doors.map (fun d=>(k,d)),?_,hacc⟩
   rw[Zw,List.map_map];rfl
 . rintro _ ⟨o,acc,rfl,hacc⟩
   rw[List.drop_length,dP,Zj]at hacc;rw[<- hacc];exact⟨_,rfl⟩
theorem Ga:∀{l:Yg fJ}{k}{x},x∈dP k l->∃m∈l,x.2∈m.doors
 |m::l,k,x,h=>by
  rw[dP]at h;rcases Zs.mp h with z|z
  . obtain⟨d,j,rfl⟩:=Zr.mp z;exact⟨m,Zo,j⟩
  . obtain⟨f,h1,h2⟩:=Ga z;exact⟨f,Zp _ h1,h2⟩
theorem rL(h:okNet n):∃fin,cN [fM n,bo n]=some (.bl true,fin):=by
 have s:=h.dl;rw[<- u7 0]at s;have ok:∀x∈dP 0 n.machines,okC n.watches n.boxes x.2.conds/\Ix n.watches n.boxes x.2.deeds/\x.2.conds.length<=2/\x.2.deeds.length<=3:=fun x f=>by obtain⟨m,j,o⟩:=Ga f;exact⟨Br h j o,Iw h j o,((h.mc m j).doors _ o).l2,((h.mc m j).doors _ o).l3⟩
 obtain⟨fin,r⟩:=Jd h;have ds:shs ((dP 0 n.machines).map due)=(dP 0 n.machines).map due:=be FV _;refine uu (jO (s8 (EQ rfl (by decide +kernel) rfl rfl (FW (by lia) fun x f=>by have:=(ok x f).2.2.1;lia) (gW B5))) (jO (δ1:=[some (fM n),some (bo n),some (.lst ((dP 0 n.machines).map (rN n.watches n.boxes))),some (.seq ((dP 0 n.machines).map due)),none,none]) ?_ (jO (gU (uo (by kernel_rfl) (sw (kW ..) (kW ..) rfl))) (yY (zy (Q:=fun δ=>∃c d,δ=[some (fM n),some (bo n),none,some (.seq ((dP 0 n.machines).map due)),c,d]) (Q':=fun δ=>∃c d,δ=[some (fM n),some (bo n),some (.lst (((dP 0 n.machines).map (rN n.watches n.boxes)).map fun _=>.any)),some (.seq ((dP 0 n.machines).map due)),c,d]) rfl (fun _=>rfl) rfl (by rw[sh,ds]) FV ⟨_,_,rfl⟩ ?_ ?_) ?_))))
 . rw [bP,cA,iW,show aa 1 _=some (bo n,_) from rfl,Zc,fG,Zc,Zc,r,Zc,Zc,lg (by simp),sh,ds]
   rfl
 . rintro x f _ ⟨c,d,rfl⟩
   obtain⟨q,p,v,u⟩:=ok x f;have t:=xT (k:=x.1) (W:=n.watches) h.lw h.lb q (by lia) p (by lia) (EC n)
   exact⟨_,rfl,tD (gU (o8 (c_q rfl (by rw[shs,FY];exact Z8 _ (sh1 rfl (sh1 (wL x.2) (sh1 (iq n) rfl)))) t))) (tD (δ1:=[some (fM n),some (bo n),none,some (.seq ((dP 0 n.machines).map due)),some (.oo az ON [.int x.1,.str x.2.start,.str x.2.goal,.bl x.2.weather,bw x.2.word,.int x.2.price,.lst [],.lst (jW (rsN n.watches x.2.deeds)),.lst (dR n.watches n.boxes x.2.deeds)]),some (due x)]) (by kernel_rfl) (tD (vy (l:=[7]) (ds:=jW (rsN n.watches x.2.deeds)) rfl (by kernel_rfl) rfl rfl (by unfold jW;rw[Zl];exact ZY (List.length_filter_le ..) (by decide))) ⟨[some (fM n),some (bo n),none,some (.seq ((dP 0 n.machines).map due)),some (.oo az ON [.int x.1,.str x.2.start,.str x.2.goal,.bl x.2.weather,bw x.2.word,.int x.2.price,.lst [],.lst (jW (rsN n.watches x.2.deeds)++[.int 9]),.lst []]),some (due x)],by kernel_rfl,_,_,rfl⟩))⟩
 . rintro _ ⟨c,d,rfl⟩;exact⟨c,d,rfl⟩
 . rintro _ ⟨c,d,rfl⟩;exact jO (vy (l:=[]) (ds:=((dP 0 n.machines).map (rN n.watches n.boxes)).map fun _=>.any) rfl rfl rfl rfl (by rw[Zl,Zl];lia)) ⟨_,rfl⟩
def GR(h:okNet n)(j:f2 gIx (ab 2) (ab 4) δ=some (fM n))(f:f2 gIx (ab 1) (ab 4) δ=some (bo n)):eL (bF (fT (aS cM (af (f2 gIx (ab 2) (ab 4)) (af (f2 gIx (ab 1) (ab 4)) ag))))) (bF (fT (aS cN (af (f2 gIx (ab 2) (ab 4)) (af (f2 gIx (ab 1) (ab 4)) ag))))) δ=some false:=by
 have a:af (f2 gIx (ab 2) (ab 4)) (af (f2 gIx (ab 1) (ab 4)) ag) δ=some [fM n,bo n]:=by rw[fH,j,fH,f];rfl
 have s:=sh1 (Ax (t:=b9 (bO n)) (W:=n.watches) (bs:=n.boxes) (M:=n.machines.map (·.name)) (R:=n.machines.map (·.rooms)) (P:=dP 0 n.machines)) (sh1 (ds:=[]) (iq n) rfl);exact uo (o8 (c_q a s (qA h))) (o8 (c_q a s (rL h)))
theorem EV(j:Yg Int)(x:j.length<=63):∃δ,Kj (Dl.start 5 [.seq (j.map D.int)])=some (.rt (.bl true) δ):=by
 obtain⟨n1,f1,v,t⟩:=wK j 1;obtain⟨n2,f2,u,s⟩:=wK j 2;have ok:∀n∈[n1,n2],okNet n:=fun n m=>by
  rcases Zt.mp m with z|z
  . exact z▸t
  . exact Zq.mp z▸s
 have r:∀n∈[n1,n2],∃q,gN 0 (sh (bo n)) [none]=some q/\∃p,aj [none] hV (ae (vI (aS gh (af (ab 0) ag))) ak) q=some (L9 n,p)/\clr 1 p=[none]:=fun n m=>⟨[some (bo n)],by rw[iq];rfl,[some (bo n)],vg (vf (c_q rfl (sh1 (iq n) rfl) ⟨_,GP (ok n m)⟩) rfl (fG ..)) (vU (ok n m)) (by simp),rfl⟩
 have st:∀k:Nat,k<2->∃n∈[n1,n2],∀(a b:Ye D),Dl.f2 gIx (ab 2) (ab 4) [some (.seq (j.map D.int)),some (.seq [bo n1,bo n2]),some (.seq [fM n1,fM n2]),a,some (.int k)]=some (fM n)/\Dl.f2 gIx (ab 1) (ab 4) [some (.seq (j.map D.int)),some (.seq [bo n1,bo n2]),some (.seq [fM n1,fM n2]),a,some (.int k)]=some (bo n):=fun k hk=>by
  rcases (by lia:k=0\/k=1)with rfl|rfl
  . exact⟨n1,Zo,fun _ _=>⟨rfl,rfl⟩⟩
  . exact⟨n2,Zp _ Zo,fun _ _=>⟨rfl,rfl⟩⟩
 refine jO (xr (d:=.lst [xL n1,xL n2]) (δ1:=[some (.seq (j.map D.int)),none,none,none,none]) ?_) (jO (δ1:=[some (.seq (j.map D.int)),some (.seq [bo n1,bo n2]),some (.seq [fM n1,fM n2]),none,none]) ?_ (yY (uJ (by decide) rfl (Q:=fun _ δ=>∃a b,δ=[some (.seq (j.map D.int)),some (.seq [bo n1,bo n2]),some (.seq [fM n1,fM n2]),a,b]) ⟨_,_,rfl⟩ ?_) ?_))
 . rw[tT];exact Z8 (fun o:Ye (Yg D×DS)=>o.bind _) (vc (vg (vc rfl (vf rfl rfl (fG ..))) ⟨_,v⟩ (by simp)) (vc (vg (vc rfl (vf rfl rfl (fG ..))) ⟨_,u⟩ (by simp)) (fG ..)))
 . rw [show sh (.lst [xL n1,xL n2])=.seq [bo n1,bo n2] by rw [sh,shs,shs,shs,zB,zB]]
   refine(xr (bJ (cs:=[]) (eM (l:=[n1,n2]) (f:=bo) (d:=.seq [bo n1,bo n2]) rfl (by rw[sh,shs,shs,shs,iq,iq];rfl)) rfl (pZ r) (show 2<=1000 by decide))).trans ?_
   rw[show sh (.lst ([n1,n2].map L9))=.seq [fM n1,fM n2] by rw[Zu,Zu,Zv,sh,shs,shs,shs,Aw,Aw]]
   rfl
 . rintro i hi _ ⟨a,b,rfl⟩
   refine⟨_,rfl,uJ (m:=2) (by decide) rfl (Q:=fun _ δ=>∃a b,δ=[some (.seq (j.map D.int)),some (.seq [bo n1,bo n2]),some (.seq [fM n1,fM n2]),a,b]) ⟨_,_,rfl⟩ ?_⟩
   rintro k hk _ ⟨a,b,rfl⟩
   obtain⟨n,m,e⟩:=st k hk;exact⟨_,rfl,_,gU (GR (ok n m) (e _ b).1 (e _ b).2),_,_,rfl⟩
 . rintro _ ⟨a,b,rfl⟩;exact⟨_,rfl⟩
end Mine
namespace Mine
open PySem PySem.Spec PyProof.Rows L2 Dl Hq
noncomputable section
section
seal f2 jS cS fC aT aS fY a9 fIf gF cX fMt bF eL uW gq fSl uV fT rE ab af faN ag faS iV pIx aC cP ol bI uB cz gC qIf lW qD bd uA aR ah dB aB qUn eR qo ae vI jg cO cI Nd ak jf vSl jX qm aa bY o0 wAt bX n8 aj b7 qk aA sN n6 cD bE qi qh eO AF fI bR iQ dH AE je ul lT sk a6 Nc uk PQ PQs PWD PTD PD PAD PIQ PLA Dl.PW PWA si PLV PV POD PTW PWW L2.PE L2.PA L2.PS L2.PSs L2.PT L2.PW L2.PG L2.PGs L2.PI
set_option hygiene false in
local macro_rules | `(tactic| trivial)=>do
 let mut gs:=#[]
 for g in "PD _ ( .Name _ _ ) _;Lz _|N1 xi|N0 xs|v6 rfl xm t9|LX rfl xc|v6 rfl xm boot_list|v6 rfl xm boot_int|v6 rfl xm boot_bool|v6 rfl xm boot_tuple|LU ( xt A rfl ) rfl#PD _ ( .Constant _ _ _ ) _;LQ|LC|N2|LH#PD _ ( .Call _ _ _ _ ) _;cY x:len ( call_len_seq.or vd ) ( cd_len.or Jo ) rfl xm PySem.boot_len ?|Et ( CH.h A ) A ?|LM ? ( CM.h A ) A ?|Ii ? ( CM.h A ) A|ou x:str u9 Jm rfl xm t9 ?|zp PySem.F.plainAttrs_list PySem.F.slot_list_index PySem.F.type_list_index Bw BA ? ?|cY x:all ( Gk rfl ) MN rfl xm Cq ?|ou x:int ( call_int1.or ve ) ( cd_int.or Jq ) rfl xm boot_int ?|zp PySem.F.plainAttrs_str PySem.F.slot_str_join PySem.F.type_str_join IE IG ? ?|zp PySem.F.plainAttrs_str PySem.F.slot_str_startswith PySem.F.type_str_startswith Bv Bz ? ?|cY x:isinstance Cd ( Jp xI ) rfl xm boot_isinstance ?|cY x:abs Gm MP rfl xm PyProof.Rows.boot_abs ?|cY x:isinstance kh ( rV EE ) rfl xm boot_isinstance ?|cY x:max ( Cc rfl ) Jn rfl xm Cp ?|cY x:isinstance kh ( rV EF ) rfl xm boot_isinstance ?|cY x:isinstance kh ( rV EG ) rfl xm boot_isinstance ?|cY x:isinstance kh ( rV Bl ) rfl xm boot_isinstance ?|cY x:isinstance kh ( rV ED ) rfl xm boot_isinstance ?|ou x:dict ( Gj rfl ( hu2 A ) ) MM rfl xm boot_dict ?|zp PySem.F.plainAttrs_str PySem.F.slot_str_endswith PySem.F.type_str_endswith IF IH ? ?|cY x:min ( Cb rfl ) ML rfl xm boot_min ?#PD _ ( .Subscript _ _ _ ) _;NX ? ?|Bf ? ? ?|Ep ? ? ?#PD _ ( .BinOp _ _ _ _ ) _;Iq ? ?|LB ? ?|LL ? ?|Ip ? ?|LD ? ?|Io ? ?|LK ? ?#PD _ ( .Compare _ _ _ _ ) _;LW ( Room.units A ) ? ?|NZ ? ?|NW ? ?|NY ? ?|LR ? ?|Ih ? ?|LJ ( Room.units A ) ? ?|Er ? ?|Bh ? ? ?|Bg ( xE A ) ( Room.units A ) ? ?#PD _ _ _;LV ? xa|LN ?|LF ?|LI ?|Ij ?|LY ? ?|LA ?|NV ? ?|LG ?|LS ? ? ?#Dl.PW _ _ _;KY ?|Hh _|DG ( CH.h A ) A ?|KR ?|KL ?|Hl _ ( CM.h A ) A|KQ _ ( CM.h A ) A ?|NK ? ?|Hn ? xa|Hs ? ?|KU ? ?|Hm ( CK.h A ) A ?|DF ( CH.h A ) A ?|DB ? ( CM.h A ) A|KZ ? ? ?|K0 ? ? ?|Hi ? ?|vX ( uR _ K ) rfl ? F6 F5 F5|vX ( zO _ K ) rfl ? F6 F5 F5|KN ? ? ?|KM ?|DD ? ?|K1 ( Room.units A ) ? ?|KS ? ?|DH ( CH.h A ) A ?|Dx ? ?|Ho rfl xm ?|Dy rfl xm rfl xm ?|Hk ? ( CM.h A ) A ?|Hj ? ?|NL ?|Hr ? ?|KO ?|DC ( CK.h A ) A|JY ?#PQs _ _ _ _;HL ? ?|Le ?|Lf#PAD _ _ _;v8 ? ?|zq#PQ _ _ _ _;HH _ ( zkI A _ K ) A ?|Lc ?|NO ? ? ?|Lh _ ? ? xa|HJ ?|DY PassesOwn.never rfl ? ( Ff _ ( zkI A _ K ) ) ? ?|DY PassesOwn.never rfl ? ( ng _ ( zkA A K ) ) ? ?|Lb _ ( zkI A _ K ) A ?|Lj _ ?|Lg ? ? ?|DX|Ld _ ? ? ?|And.right ( qG _ ( zkI A _ K ) A ( uR _ K ) rfl ? F6 F5 F5 )|And.left ( qG _ ( zkI A _ K ) A ( uR _ K ) rfl ? F6 F5 F5 )|And.right ( qG _ ( zkI A _ K ) A ( zO _ K ) rfl ? F6 F5 F5 )|Li _ ?|HI _ A PassesOwn.never rfl ? G:ng:zkA rfl xm ? ? F2|D0 _ ?|DW _ PassesOwn.never ? ?|NM _ ( zkA A K ) ? ?#PLA _ _ _ _;Eb ? ?|HU|Ea _ ?#PWA _ _ _;mX ? ?|uC#PTD _ _ _;HC ( Room.units A ) ? ?|HB ?|HE ( Room.units A ) ? ?|K6 ? ?|K7 ? ?|K4 ? ?|DM ? ?|HD ? ?|xB ? ? ?|A9 ? ?|K5 ? ?|Hz ?|PWD.pt ?#PG _ _ _;pgN _ A|Lp rfl ?#PIQ _ _ _ _;Ee ?|Bb rfl xm ?|Ed ?|Ec ?|Ln rfl xm ?|HW rfl xm ? ?|HX rfl xm ?#PWD _ _ _;KJ ? ?|Hf ?|Dw ?|Hg ? ?#si _ _ _;HZ|HY ?#PLV _ _ _ _;D3 _ ?|HR|D4 _ ?|D5 ? ?#PGs _ _ _;Ei ? ?|Ib#PV _ _ _;DK _|A8 rfl xm boot_list ?|Hu ? ?|DI rfl xm ?|DJ ? ? ?#POD _ _ _;D1 ?|D2#PTW _ _ _;Hx ( Room.units A ) ? ?|Hw ?|PWW.pt ?#PWW _ _ _;He ? ?|Dv ?#;HV _|gl|bZ ? ?|zo PySem.F.plainAttrs_list PySem.F.slot_list_append PySem.F.type_list_append By ? ?|Ia _ ?|Lm ? xa|NQ ? ?|pvi _|Eh _ ( CH.h A ) A ?|HS|D7 _ ?|D6 _ ?|zo PySem.F.plainAttrs_list PySem.F.slot_list_extend PySem.F.type_list_extend Bx ? ?|Eo PySem.F.plainAttrs_list PySem.F.slot_list_clear PySem.F.type_list_clear EO ?".splitOn "#" do
  let mut hs:=#[]
  for p in g.splitOn ";" do
   let mut al:=#[]
   for a in p.splitOn "|" do
    let mut st:Array (Array Lean.Term):=#[#[]]
    let mut nm:Option String:=none
    for w in a.splitOn " " do
     if w=="(" then st:=st.push #[]
     else if w.startsWith "x:" then nm:=some (w.drop 2).toString
     else
      let mut t:Lean.Term:=default
      if w==")" then
       let b:=st.back!
       st:=st.pop
       t:=Lean.Syntax.mkApp b[0]! (b.extract 1 b.size)
      else if w=="?" then t<-`(?_)
      else if w=="_" then t<-`(_)
      else if w=="A" then t<-`(by assumption)
      else if w=="K" then t<-`(by decide +kernel)
      else if w=="F2" then t<-`(fun _ _=>?_)
      else if w=="F5" then t<-`(fun _ _ _ _ _=>?_)
      else if w=="F6" then t<-`(fun _ _ _ _ _ _=>?_)
      else if w.startsWith "G:" then
       let q:=w.splitOn ":"
       t<-`(fun _ h=>$(Lean.mkIdent q[1]!.toName) _ ($(Lean.mkIdent q[2]!.toName) h (by decide +kernel)))
      else if w.startsWith "." then t<-`(.$(Lean.mkIdent (w.drop 1).toString.toName):ident)
      else t:=Lean.mkIdent w.toName
      st:=st.modify (st.size-1) (·.push t)
    let b:=st.back!
    let f:=b[0]!
    let r:=b.extract 1 b.size
    al:=al.push (<-match nm with
     |some s=>`($f (x:=$(Lean.quote s)) $r*)
     |none=>pure (if r.isEmpty then f else Lean.Syntax.mkApp f r))
   hs:=hs.push al
  let al<-hs[1]!.mapM fun t=>`(tacticSeq| refine $t)
  if g.startsWith ";" then gs:=gs++al
  else gs:=gs.push (<-`(tacticSeq| show $(hs[0]![0]!);first $[|$al]*))
 `(tactic| first $[|$gs]*)
instance:KA TB 0 1 ai "WatchCond" bA:=⟨fun c=>(dq c 0 0 [] dZ).mak c⟩
instance:KA TB 0 1 aw "BoxCond" bA:=⟨fun c=>(dq c 0 0 [] dZ).mak c⟩
instance:KA TB 1 1 aO "Room" eC:=⟨fun c=>(dq c 1 0 [] jU).mak c⟩
instance:KA TB 2 1 az "Door" eD:=⟨fun c=>(dq c 2 0 [] jV).mak c⟩
instance:HA TB 3 1 iD:=⟨fun c=>(dq c 3 0 [] lh).has⟩
instance:HA TB 4 1 lv:=⟨fun c=>(dq c 4 0 [] oX).has⟩
instance:HA TB 5 1 df:=⟨fun c=>(dq c 5 0 ["digits","number"] kn).has⟩
instance:KA TB 6 1 ao "Words" fV:=⟨fun c=>(dq c 6 0 [] i7).mak c⟩
instance:MA TB 7 1 av:=⟨fun c=>(dq c 7 0 [] kE).met c⟩
instance:MA TB 8 1 aN:=⟨fun c=>(dq c 8 0 [] dS).met c⟩
instance:KA TB 9 1 aq "Draft" fW:=⟨fun c=>(dq c 9 0 [] i8).mak c⟩
instance:MA TB 10 1 bN:=⟨fun c=>(dq c 10 0 [] eZ).met c⟩
instance:MA TB 11 1 bW:=⟨fun c=>(dq c 11 0 [] eF).met c⟩
instance:MA TB 12 1 bD:=⟨fun c=>(dq c 12 0 [] fR).met c⟩
instance:MA TB 13 1 bV:=⟨fun c=>(dq c 13 0 [] fS).met c⟩
instance:HA TB 14 1 eH:=⟨fun c=>(dq c 14 0 [] jD).has⟩
instance:HA TB 15 1 eJ:=⟨fun c=>(dq c 15 0 [] lu).has⟩
instance:HA TB 16 1 fg:=⟨fun c=>(dq c 16 0 [] jE).has⟩
instance:HA TB 17 1 aK:=⟨fun c=>(dq c 17 0 ["_law_number"] iw).has⟩
instance:HA TB 18 1 cr:=⟨fun c=>(dq c 18 0 [] iP).has⟩
instance:HA TB 19 1 di:=⟨fun c=>(dq c 19 0 [] gf).has⟩
instance:HA TB 20 1 br:=⟨fun c=>(dq c 20 0 [] nY).has⟩
instance:HA TB 21 1 kJ:=⟨fun c=>(dq c 21 0 ["_law_dues_here","_law_k"] pJ).has⟩
instance:HA TB 22 2 jb:=⟨fun c=>(dq c 22 1 ["told","number","door"] lq).has⟩
instance:MA TB 23 2 bu:=⟨fun c=>(dq c 23 1 [] jH).met c⟩
instance:MA TB 24 2 fE:=⟨fun c=>(dq c 24 1 [] hU).met c⟩
instance:HA TB 25 2 iC:=⟨fun c=>(dq c 25 1 ["told","three"] km).has⟩
instance:HA TB 26 2 jK:=⟨fun c=>(dq c 26 1 ["boxes","told","three","number"] mF).has⟩
instance:HA TB 27 2 bK:=⟨fun c=>(dq c 27 1 ["_law_name_here","_law_k","_law_some"] kx).has⟩
instance:HA TB 28 2 gj:=⟨fun c=>(dq c 28 1 ["_law_which","_law_sign"] iz).has⟩
instance:HA TB 29 2 dE:=⟨fun c=>(dq c 29 1 ["_law_stays_here","_law_k","_law_watch","_law_strict"] eX).has⟩
instance:HA TB 30 2 gL:=⟨fun c=>(dq c 30 1 ["_law_deeds_here","_law_k","_law_which","_law_sign","_law_number"] jG).has⟩
instance:HA TB 31 2 dF:=⟨fun c=>(dq c 31 1 [] gH).has⟩
instance:HA TB 32 2 d8:=⟨fun c=>(dq c 32 1 ["_law_row"] gv).has⟩
instance:HA TB 33 2 d9:=⟨fun c=>(dq c 33 1 ["_law_row"] gw).has⟩
instance:HA TB 34 2 fj:=⟨fun c=>(dq c 34 1 ["_law_names","_law_name_here","_law_sign","_law_number"] kB).has⟩
instance:HA TB 35 2 fU:=⟨fun c=>(dq c 35 1 ["_law_names","_law_resets","_law_rest"] i5).has⟩
instance:HA TB 36 3 gK:=⟨fun c=>(dq c 36 2 [] nX).has⟩
instance:KA TB 37 3 a5 "Net" ig:=⟨fun c=>(dq c 37 2 [] kF).mak c⟩
instance:HA TB 38 3 i9:=⟨fun c=>(dq c 38 2 ["against"] lj).has⟩
instance:MA TB 39 3 bt:=⟨fun c=>(dq c 39 2 ["word"] eY).met c⟩
instance:MA TB 40 3 a7:=⟨fun c=>(dq c 40 2 ["number"] dJ).met c⟩
instance:MA TB 41 3 cC:=⟨fun c=>(dq c 41 2 ["told","more","three"] dI).met c⟩
instance:HA TB 42 3 ff:=⟨fun c=>(dq c 42 2 ["name"] jC).has⟩
instance:HA TB 43 3 fB:=⟨fun c=>(dq c 43 2 [] gJ).has⟩
instance:HA TB 44 3 iF:=⟨fun c=>(dq c 44 2 ["_law_name_here"] kr).has⟩
instance:HA TB 45 3 gi:=⟨fun c=>(dq c 45 2 ["_law_rows_here","_law_watches","_law_boxes","_law_machines","_law_name_here","_law_rooms","_law_doors"] pI).has⟩
instance:HA TB 46 3 dG:=⟨fun c=>(dq c 46 2 [] i6).has⟩
instance:HA TB 47 4 jI:=⟨fun c=>(dq c 47 3 [] nV).has⟩
instance:HA TB 48 4 jJ:=⟨fun c=>(dq c 48 3 ["conds"] nW).has⟩
instance:HA TB 49 4 dh:=⟨fun c=>(dq c 49 3 ["name"] mD).has⟩
instance:HA TB 50 4 bT:=⟨fun c=>(dq c 50 3 [] eW).has⟩
instance:HA TB 51 4 bU:=⟨fun c=>(dq c 51 3 [] f8).has⟩
instance:HA TB 52 4 cq:=⟨fun c=>(dq c 52 3 ["told"] iO).has⟩
instance:HA TB 53 4 iG:=⟨fun c=>(dq c 53 3 ["_law_start","_law_goal","_law_weather","_law_word","_law_conds_here"] kC).has⟩
instance:HA TB 54 4 gh:=⟨fun c=>(dq c 54 3 [] kq).has⟩
instance:HA TB 55 4 hX:=⟨fun c=>(dq c 55 3 [] ky).has⟩
instance:HA TB 56 4 ic:=⟨fun c=>(dq c 56 3 [] kz).has⟩
instance:MA TB 57 5 kK:=⟨fun c=>(dq c 57 4 [] pK).met c⟩
instance:MA TB 58 5 kL:=⟨fun c=>(dq c 58 4 [] pL).met c⟩
instance:HA TB 59 5 iE:=⟨fun c=>(dq c 59 4 [] ko).has⟩
instance:HA TB 60 5 lx:=⟨fun c=>(dq c 60 4 ["name","low","high"] oZ).has⟩
instance:HA TB 61 5 dW:=⟨fun c=>(dq c 61 4 [] f9).has⟩
instance:HA TB 62 5 jL:=⟨fun c=>(dq c 62 4 ["name","price","hurry","stays"] mG).has⟩
instance:HA TB 63 5 jM:=⟨fun c=>(dq c 63 4 ["start","goal","weather","word","price","conds","threes","resets","deeds","machine"] mH).has⟩
instance:HA TB 64 5 jN:=⟨fun c=>(dq c 64 4 ["_law_taken","_law_watches","_law_boxes","_law_k","_law_machines","_law_words","_law_low","_law_high","_law_name_here","_law_inside","_law_rooms","_law_many"] mI).has⟩
instance:HA TB 65 6 ja:=⟨fun c=>(dq c 65 5 ["kind"] oY).has⟩
instance:HA TB 66 6 fu:=⟨fun c=>(dq c 66 5 [] jF).has⟩
instance:HA TB 67 6 cM:=⟨fun c=>(dq c 67 5 ["_law_k","_law_some","_law_room_here","_law_due"] g9).has⟩
instance:HA TB 68 6 cN:=⟨fun c=>(dq c 68 5 ["_law_some","_law_dues_here","_law_door_here","_law_due"] hE).has⟩
instance:HA TB 69 7 hV:=⟨fun c=>(dq c 69 6 ["rows","draft","number","row"] sg).has⟩
def facts {l:W.OpenLaw} {w:World} {K:ZA} {h:Heap} {mg:Str->Ye Yb} {fa:Yd} (e:TB.F K=TB.E) (X:K.In h) (G:h.Ns mainGlobals mg) (f:mg "law" = some (.ref fa)) :
 ∃fd:FuncData,(∀(s:Yc) (v:Yb),BindsTo s fd ⟨[v],[]⟩ [("_law_script",v)])/\∀base:Heap,K.In base->base.Ns mainGlobals mg->jc l.prog w K mg base CX0 8 fa fd ["_law_script"] (spLaw K):=by
 have:=Hq.Tab.ctx e X G;exact Hq.root this 70 7 ["_law_nets","_law_told","_law_turn","_law_k"] Kj rfl f rfl ⟨rfl,rfl,rfl,by decide +kernel,rfl,by decide +kernel,by decide +kernel⟩ (fun _ _ _ _ _ _ s v=>.of_eq rfl) EV fun base=>by intros;repeat' trivial
end
end
end Mine
open PySem PySem.W PyProof.Rows
set_option maxRecDepth 100000 in
set_option maxHeartbeats 0 in
theorem PySem.Challenge.cw_watchyard_k32_rooms_and_doors_told_holds : PySem.Challenge.rw_watchyard_k32_rooms_and_doors_told.Holds := by
 w_on;refine holds_law Mine.said fun said=>?_
 refine holds_open (q:=Mine.VW) (loose:=Mine.LO) (Xt:=Mine.XT) (XP:=XL Mine.VW []) (Yf:=Hook.obs Mine.HK) (Ya:=Hook.val Mine.HK) (YP:=Hook.says Mine.HK) (N:=10208) Mine.left (Hook.of Mine.HK) (Hook.keeps Mine.HK) (fun s e=>xl_of s (Bool.and_eq_true_iff.mp e).1) XL.keeps (by rfl) (by rfl) (by rfl) (fun s e=>recFacts_of (Bool.and_eq_true_iff.mp e).2) (by rfl) (by first|assumption|decide +kernel) (by decide +kernel) ⟨rfl,rfl,rfl,rfl,rfl,by decide +kernel⟩ ?hw ?hc
 (case hw=>w_witness2)
 exact Hd.walkE (l:=PySem.Challenge.rw_watchyard_k32_rooms_and_doors_told) (n:=63) (k:=8) (x:="_law_script") (T:=fun K=>Mine.TB.F K=Mine.TB.E) (sp:=fun K=>Dl.spLaw K) rfl (by decide) rfl ⟨rfl,by decide,by decide⟩ (fun _ _ Y=>Y) (fun _ _ _ _ _ e X G h=>Mine.facts e X G h) fun _ _ a ns hl _ hS=>⟨a,ns,rfl,hS,hl,fun _=>rfl⟩
