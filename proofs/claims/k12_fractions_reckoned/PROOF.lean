import PyProof.Rows.All
import Wide.All
import OpenK.AllK
import Wide.FinOn
import Lean
import PyProof.EqAt
import PyProof.EqKinds
import PyProof.TupleCall
import PyProof.NeKinds
import KE.IntBitsLaws
import KE.LcSums
import PyProof.ConsumeWalk
import PyProof.DictWalks
import PyProof.Rows.DictUnroll
import PySem.Challenge.RW_watchyard_k12_fractions_reckoned
set_option Elab.async false
set_option linter.all false
set_option maxRecDepth 100000
namespace L2
open PySem PySem.Spec PyProof.Rows
abbrev Key := Sum Int Str
def keyIs : Key → Value → Bool
  | .inl k, v => Value.isInt k v
  | .inr x, v => Value.isStrOf x v
def keyH (w : World) : Key → Int
  | .inl k => hashInt k
  | .inr x => hashStr w x
theorem keyIs_shape : ∀ {k : Key} {v : Value}, keyIs k v = true → (∃ i t, k = Sum.inl i ∧ v = Value.int i t) ∨ (∃ x t, k = Sum.inr x ∧ v = Value.str x t)
  | .inl i, v, h => by
    obtain ⟨t, e⟩ := Value.isInt_shape (k := i) (v := v) h
    exact .inl ⟨i, t, rfl, e⟩
  | .inr x, v, h => by
    obtain ⟨t, e⟩ := Value.isStrOf_shape (x := x) (v := v) h
    exact .inr ⟨x, t, rfl, e⟩
theorem key_ll (a b : Int) : decide ((Sum.inl a : Key) = Sum.inl b) = (a == b) := by
  by_cases e : a = b
  · subst e; simp
  · have h : ¬ (Sum.inl a : Key) = Sum.inl b := fun q => e (Sum.inl.inj q)
    rw [decide_eq_false h]
    exact (beq_eq_false_iff_ne.mpr e).symm
theorem key_rr (a b : Str) : decide ((Sum.inr a : Key) = Sum.inr b) = decide (a = b) := by
  by_cases e : a = b
  · subst e; simp
  · have h : ¬ (Sum.inr a : Key) = Sum.inr b := fun q => e (Sum.inr.inj q)
    rw [decide_eq_false h, decide_eq_false e]
theorem key_lr (a : Int) (b : Str) : decide ((Sum.inl a : Key) = Sum.inr b) = false := decide_eq_false (fun q => nomatch q)
theorem key_rl (a : Str) (b : Int) : decide ((Sum.inr a : Key) = Sum.inl b) = false := decide_eq_false (fun q => nomatch q)
def mixKind (prog : Program) (w : World) : PySem.KeyKind prog w Key where
  is := keyIs
  hash := keyH w
  inj := fun v a b ha hb => by
    rcases keyIs_shape ha with ⟨i, t, rfl, rfl⟩ | ⟨x, t, rfl, rfl⟩
    · rcases keyIs_shape hb with ⟨j, u, rfl, e⟩ | ⟨y, u, rfl, e⟩
      · injection e with e1 _; rw [e1]
      · exact nomatch e
    · rcases keyIs_shape hb with ⟨j, u, rfl, e⟩ | ⟨y, u, rfl, e⟩
      · exact nomatch e
      · injection e with e1 _; rw [e1]
  byValue := fun k v h => by
    rcases keyIs_shape h with ⟨i, t, rfl, rfl⟩ | ⟨x, t, rfl, rfl⟩ <;> rfl
  pyHash := fun hv h => by
    rcases keyIs_shape hv with ⟨i, t, rfl, rfl⟩ | ⟨x, t, rfl, rfl⟩
    · exact wpAny_pyHash_int h
    · exact wpAny_pyHash_str h
  eqBool := fun hu hv h => by
    rcases keyIs_shape hu with ⟨i, t, rfl, rfl⟩ | ⟨x, t, rfl, rfl⟩
    · rcases keyIs_shape hv with ⟨j, u, rfl, rfl⟩ | ⟨y, u, rfl, rfl⟩
      · rw [key_ll] at h; exact wpAny_eqBool_int h
      · rw [key_lr] at h; exact SeqAt.EqAt.int_str i t y u _ _ _ _ h
    · rcases keyIs_shape hv with ⟨j, u, rfl, rfl⟩ | ⟨y, u, rfl, rfl⟩
      · rw [key_rl] at h; exact SeqAt.EqAt.str_int x t j u _ _ _ _ h
      · rw [key_rr] at h; exact wpAny_eqBool_str h
  «strs» := fun k x t v h => by
    rcases keyIs_shape h with ⟨i, u, rfl, e⟩ | ⟨y, u, rfl, e⟩
    · exact nomatch e
    · injection e with e1 _
      subst e1
      cases v <;> rfl
end L2
namespace L2
open PySem PySem.Spec PyProof.Rows
inductive V where
  | non | bl (b : Bool) | int (i : Int) | str (x : Str) | byt (b : Array UInt8) | flt (b : UInt64) | ref (a : Addr) | ty (n : String)
  deriving DecidableEq
def RelV : V → Value → Prop
  | .non, u => u = Value.none
  | .bl b, u => u = Value.bool b
  | .int i, u => ∃ t, u = Value.int i t
  | .str x, u => ∃ t, u = Value.str x t
  | .byt b, u => ∃ t, u = Value.bytes b t
  | .flt b, u => ∃ t, u = Value.float b t
  | .ref a, u => u = Value.ref a
  | .ty n, u => u = Value.type n
abbrev Vals : List V → List Value → Prop := Paired RelV
theorem Vals.length {xs : List V} {us : List Value} (r : Vals xs us) : xs.length = us.length := Paired.length r
theorem Vals.get : ∀ {xs : List V} {us : List Value} {i : Nat} {x : V}, Vals xs us → xs[i]? = some x → ∃ u, us[i]? = some u ∧ RelV x u
  | _, _, _, _, .nil, e => by simp at e
  | _, _, 0, _, .cons r _, e => by simp at e; subst e; exact ⟨_, rfl, r⟩
  | _, _, i + 1, x, .cons _ t, e => by
    obtain ⟨u, h1, h2⟩ := Vals.get (i := i) (x := x) t (by simpa using e)
    exact ⟨u, by simpa using h1, h2⟩
theorem Vals.set {x : V} {u : Value} (r : RelV x u) : ∀ {xs : List V} {us : List Value} (i : Nat), Vals xs us → Vals (xs.set i x) (us.set i u)
  | _, _, _, .nil => .nil
  | _, _, 0, .cons _ t => .cons r t
  | _, _, i + 1, .cons q t => .cons q (Vals.set r i t)
theorem Vals.append : ∀ {xs ys : List V} {us ws : List Value}, Vals xs us → Vals ys ws → Vals (xs ++ ys) (us ++ ws)
  | _, _, _, _, .nil, s => s
  | _, _, _, _, .cons r t, s => .cons r (Vals.append t s)
theorem Vals.take : ∀ {xs : List V} {us : List Value} (n : Nat), Vals xs us → Vals (xs.take n) (us.take n)
  | _, _, 0, _ => .nil
  | _, _, _ + 1, .nil => .nil
  | _, _, n + 1, .cons r t => .cons r (Vals.take n t)
theorem Vals.drop : ∀ {xs : List V} {us : List Value} (n : Nat), Vals xs us → Vals (xs.drop n) (us.drop n)
  | _, _, 0, r => r
  | _, _, _ + 1, .nil => .nil
  | _, _, n + 1, .cons _ t => Vals.drop n t
def RelO : Option V → Option Value → Prop
  | some v, some u => RelV v u
  | none, none => True
  | _, _ => False
def KV {κ : Type} : List (κ × V) → List (κ × Value) → Prop := Paired fun (p : κ × V) (q : κ × Value) => p.1 = q.1 ∧ RelV p.2 q.2
def kV : Key → V
  | .inl i => .int i
  | .inr x => .str x
inductive HO where
  | lst (xs : List V)
  | tup (xs : List V)
  | dK (kvs : List (Key × V)) | dT (kvs : List (List Key × V))
  | set (S : Int → Bool) (n : Nat)
  | ins (C dx : Addr) (fs : List (Str × V))
  | own (x : Addr)
  | xd (fs : List (Str × V))
  | met (f x : Addr)
  | rng (lo hi : Int)
  | frz (o : Obj) (u : HO)
  | tbl (ps : Array Value)
  | ext (φ : Heap → Prop)
abbrev Hp := Addr → Option HO
def upd (H : Hp) (a : Addr) (o : HO) : Hp := fun b => if b = a then some o else H b
theorem upd_same {H : Hp} {a : Addr} {o : HO} : upd H a o a = some o := by unfold upd; rw [if_pos rfl]
theorem upd_ne {H : Hp} {a b : Addr} {o : HO} (h : b ≠ a) : upd H a o b = H b := by unfold upd; rw [if_neg h]
theorem ne_of_none {H : Hp} {a b : Addr} {o : HO} (h : H a = some o) (h' : H b = none) : a ≠ b := by
  intro e; subst e; rw [h] at h'; cases h'
section
variable (P : Program) (w : World)
def ObjOk (H : Hp) (h : Heap) (a : Addr) : HO → Prop
  | .lst xs => xs.length ≤ sizeLine ∧ ∃ (its : List Value) (n : Nat), Vals xs its ∧ h.get? a = some { cls := .type "list", data := .seq its.toArray n }
  | .tup xs => xs.length ≤ sizeLine ∧ ∃ its : List Value, Vals xs its ∧ IsTup h a its.toArray
  | .dK kvs => kvs.length ≤ sizeLine ∧ (a == sysModules) = false ∧ ∃ vs, KV kvs vs ∧ h.DictOf (mixKind P w) a vs
  | .dT kvs => kvs.length ≤ sizeLine ∧ (a == sysModules) = false ∧ ∃ xs : List (List Key × Addr × Value),
      Paired (fun (p : List Key × V) (q : List Key × Addr × Value) => p.1 = q.1 ∧ H q.2.1 = some (.tup (p.1.map kV)) ∧ RelV p.2 q.2.2) kvs xs ∧
      ∃ o es ep, h.get? a = some o ∧ o.ExactDict ∧ o.data = .dict es ep ∧ es.toList = xs.map (entryOfKey (tupleKind (mixKind P w))) ∧ (xs.map (·.1)).Nodup
  | .set S n => h.SetOf (intKind P w) a S n
  | .ins C dx fs => H dx = some (.own a) ∧ fs.length ≤ 1000 ∧ dx ≠ a ∧ h.get? a = some (PySem.W.instObj C dx) ∧
      ∃ mA, h.Ns1 dx mA ∧ (∀ f, RelO (fs.lookup f) (mA f)) ∧ PySem.Within mA (fs.map (·.1))
  | .own _ => ∃ o, h.get? a = some o
  | .xd fs => ∃ mA, h.Ns1 a mA ∧ ∀ f, RelO (fs.lookup f) (mA f)
  | .rng lo hi => ∃ t u v, h.get? a = some { cls := .type "range", data := .fields #[.int lo t, .int hi u, .int 1 v] }
  | .frz o u => h.get? a = some o ∧ ObjOk H h a u
  | .tbl ps => h.get? a = some { cls := .none, data := .fields ps }
  | .met f x => h.get? a = some (PySem.W.methodObj (.ref f) (.ref x))
  | .ext φ => φ h ∧ (∃ o, h.get? a = some o) ∧ ∀ h1 h2 : Heap, φ h1 → (∀ o, h1.get? a = some o → h2.get? a = some o) → φ h2
def HOk (H : Hp) (h : Heap) : Prop := ∀ a o, H a = some o → ObjOk P w H h a o
end
section
variable {P : Program} {w : World} {H H' : Hp} {h h' : Heap} {a : Addr} {o : HO}
theorem ObjOk.lt (x : ObjOk P w H h a o) : a < h.objs.size := by
  cases o with
  | lst xs => obtain ⟨_, _, _, _, e⟩ := x; exact Heap.lt_size e
  | tup xs => obtain ⟨_, _, _, p⟩ := x; exact p.lt
  | dK kvs => obtain ⟨_, _, _, _, o, _, _, e, _⟩ := x; exact Heap.lt_size e
  | dT kvs => obtain ⟨_, _, _, _, o, _, _, e, _⟩ := x; exact Heap.lt_size e
  | set S n => obtain ⟨o, _, _, _, e, _⟩ := x; exact Heap.lt_size e
  | ins C dx fs => obtain ⟨_, _, _, e, _⟩ := x; exact Heap.lt_size e
  | own y => obtain ⟨_, e⟩ := x; exact Heap.lt_size e
  | xd fs => obtain ⟨_, ⟨_, _, _, e, _⟩, _⟩ := x; exact Heap.lt_size e
  | rng lo hi => obtain ⟨_, _, _, e⟩ := x; exact Heap.lt_size e
  | frz ob u => obtain ⟨e, _⟩ := x; exact Heap.lt_size e
  | tbl ps => exact Heap.lt_size (show h.get? a = some _ from x)
  | met f y => exact Heap.lt_size (show h.get? a = some _ from x)
  | ext φ => obtain ⟨_, ⟨_, e⟩, _⟩ := x; exact Heap.lt_size e
theorem Paired.mapP {α β : Type} {F G : α → β → Prop} : ∀ {l₁ : List α} {l₂ : List β}, Paired F l₁ l₂ → (∀ a b, F a b → G a b) → Paired G l₁ l₂
  | _, _, .nil, _ => .nil
  | _, _, .cons r t, f => .cons (f _ _ r) (Paired.mapP t f)
theorem ObjOk.stay (x : ObjOk P w H h a o) (k : ∀ b u, (b = a ∨ H b = some (.own a)) → h.get? b = some u → h'.get? b = some u)
    (ho : ∀ b, H b = some (.own a) → H' b = some (.own a)) (ht : ∀ b xs, H b = some (.tup xs) → H' b = some (.tup xs)) : ObjOk P w H' h' a o := by
  induction o with
  | lst xs => obtain ⟨z, its, n, r, e⟩ := x; exact ⟨z, its, n, r, k _ _ (.inl rfl) e⟩
  | tup xs => obtain ⟨z, its, r, ob, e, c⟩ := x; exact ⟨z, its, r, ob, k _ _ (.inl rfl) e, c⟩
  | dK kvs => obtain ⟨z, y, vs, r, ob, es, ep, e, c⟩ := x; exact ⟨z, y, vs, r, ob, es, ep, k _ _ (.inl rfl) e, c⟩
  | dT kvs =>
    obtain ⟨z, y, xs, r, ob, es, ep, e, c⟩ := x
    exact ⟨z, y, xs, Paired.mapP r fun p q z => ⟨z.1, ht _ _ z.2.1, z.2.2⟩, ob, es, ep, k _ _ (.inl rfl) e, c⟩
  | set S n => obtain ⟨ob, es, ep, t, e, c⟩ := x; exact ⟨ob, es, ep, t, k _ _ (.inl rfl) e, c⟩
  | ins C dx fs =>
    obtain ⟨d, z, ne, e, mA, ⟨od, es, ep, e2, c⟩, r⟩ := x
    exact ⟨ho _ d, z, ne, k _ _ (.inl rfl) e, mA, ⟨od, es, ep, k _ _ (.inr d) e2, c⟩, r⟩
  | own y => obtain ⟨ob, e⟩ := x; exact ⟨ob, k _ _ (.inl rfl) e⟩
  | xd fs => obtain ⟨mA, ⟨od, es, ep, e, c⟩, r⟩ := x; exact ⟨mA, ⟨od, es, ep, k _ _ (.inl rfl) e, c⟩, r⟩
  | rng lo hi => obtain ⟨t, u, v, e⟩ := x; exact ⟨t, u, v, k _ _ (.inl rfl) e⟩
  | frz ob u ih => obtain ⟨e, q⟩ := x; exact ⟨k _ _ (.inl rfl) e, ih q⟩
  | tbl ps =>
    have e : h.get? a = some { cls := .none, data := .fields ps } := x
    show h'.get? a = some { cls := .none, data := .fields ps }
    exact k a _ (.inl rfl) e
  | met f y =>
    have e : h.get? a = some (PySem.W.methodObj (.ref f) (.ref y)) := x
    show h'.get? a = some (PySem.W.methodObj (.ref f) (.ref y))
    exact k a _ (.inl rfl) e
  | ext φ => obtain ⟨p, ⟨o, e⟩, st⟩ := x; exact ⟨st _ _ p fun o q => k _ _ (.inl rfl) q, ⟨o, k _ _ (.inl rfl) e⟩, st⟩
theorem HOk.lt (x : HOk P w H h) (e : H a = some o) : a < h.objs.size := (x a o e).lt
theorem HOk.fresh (x : HOk P w H h) (e : h.objs.size ≤ a) : H a = none := by
  cases q : H a with
  | none => rfl
  | some u => exact absurd (Nat.lt_of_lt_of_le (x.lt q) e) (Nat.lt_irrefl _)
theorem HOk.kept (x : HOk P w H h) (k : ∀ b u, h.get? b = some u → h'.get? b = some u) : HOk P w H h' := fun a o e =>
  (x a o e).stay (fun b u _ q => k b u q) (fun _ q => q) fun _ _ q => q
theorem HOk.laid (x : HOk P w H h) (k : ∀ b u, h.get? b = some u → h'.get? b = some u) (hp : h.objs.size ≤ a) (new : ObjOk P w (upd H a o) h' a o) : HOk P w (upd H a o) h' := fun b u e => by
  have hn := x.fresh hp
  by_cases hb : b = a
  · subst hb; rw [upd_same] at e; cases e; exact new
  · rw [upd_ne hb] at e
    exact (x b u e).stay (fun c v _ q => k c v q) (fun c q => by rw [upd_ne (ne_of_none q hn)]; exact q) fun c xs q => by rw [upd_ne (ne_of_none q hn)]; exact q
end
def Rd (H : Hp) (a : Addr) (u : HO) : Prop := H a = some u ∨ ∃ o, H a = some (.frz o u)
theorem Rd.of {H : Hp} {a : Addr} {u : HO} (h : H a = some u) : Rd H a u := .inl h
theorem Rd.ok {P : Program} {w : World} {H : Hp} {h : Heap} {a : Addr} {u : HO} (r : Rd H a u) (x : HOk P w H h) : ObjOk P w H h a u := by
  rcases r with r | ⟨o, r⟩
  · exact x a u r
  · obtain ⟨_, q⟩ := x a _ r
    exact q
def Mut : Option HO → Prop
  | some (.lst _) => True
  | some (.dK _) => True
  | some (.dT _) => True
  | some (.set _ _) => True
  | some (.ins _ _ _) => True
  | some (.ext _) => True
  | _ => False
section
variable {P : Program} {w : World} {H : Hp} {h h' : Heap} {x e : Addr} {o' : HO}
theorem HOk.write (ok : HOk P w H h) (mu : Mut (H x)) (he : e = x ∨ H e = some (.own x)) (k : ∀ b u, b ≠ e → h.get? b = some u → h'.get? b = some u) (heo : ∃ u, h'.get? e = some u)
    (new : ObjOk P w (upd H x o') h' x o') : HOk P w (upd H x o') h' := fun b u q => by
  have nown : ∀ c y, H c = some (.own y) → c ≠ x := fun c y r z => by subst z; rw [r] at mu; exact mu
  have ntup : ∀ c xs, H c = some (.tup xs) → c ≠ x := fun c xs r z => by subst z; rw [r] at mu; exact mu
  by_cases hb : b = x
  · subst hb; rw [upd_same] at q; cases q; exact new
  · rw [upd_ne hb] at q
    by_cases hbe : b = e
    · have q' : H b = some (.own x) := by
        rcases he with z | z
        · exact absurd (hbe.trans z) hb
        · rw [hbe]; exact z
      rw [q] at q'; cases q'
      obtain ⟨v, hv⟩ := heo
      exact ⟨v, by rw [hbe]; exact hv⟩
    · refine (ok b u q).stay (fun c v hc r => k c v ?_ r) (fun c r => by rw [upd_ne (nown c b r)]; exact r) fun c xs r => by rw [upd_ne (ntup c xs r)]; exact r
      rcases hc with rfl | hc
      · exact hbe
      · rintro rfl
        rcases he with z | z
        · exact nown c b hc z
        · rw [hc] at z; cases z; exact hb rfl
end
structure Un (fs ex : List Addr) (H H' : Hp) (h h' : Heap) : Prop where
  keep : ∀ b o, h.get? b = some o → H b = none → b ∉ fs → b ∉ ex → h'.get? b = some o
  slot : ∀ b o, h.get? b = some o → H b = none → b ∈ fs → b ∉ ex → ∃ sl, h'.get? b = some { o with slots := sl }
  free : ∀ b o, h.get? b = some o → H b = none → b ∉ ex → H' b = none
  there : ∀ b o, h.get? b = some o → b ∉ ex → ∃ o', h'.get? b = some o'
  tups : ∀ b xs, H b = some (.tup xs) → H' b = some (.tup xs)
  frzs : ∀ b o u, H b = some (.frz o u) → H' b = some (.frz o u)
  tbls : ∀ b ps, H b = some (.tbl ps) → ∃ more, H' b = some (.tbl (ps ++ more))
section
variable {fs fs' ex ex' : List Addr} {H H1 H2 : Hp} {h h1 h2 h' : Heap} {a x e : Addr} {o : HO}
theorem Un.any (u : Un fs ex H H1 h h1) {b : Addr} {ob : Obj} (q : h.get? b = some ob) (n : H b = none) (hx : b ∉ ex) : ∃ sl, h1.get? b = some { ob with slots := sl } := by
  by_cases hb : b ∈ fs
  · exact u.slot b ob q n hb hx
  · exact ⟨ob.slots, u.keep b ob q n hb hx⟩
theorem Un.trans (a : Un fs ex H H1 h h1) (b : Un fs ex H1 H2 h1 h2) : Un fs ex H H2 h h2 where
  keep := fun c ob q n hc hx => b.keep c ob (a.keep c ob q n hc hx) (a.free c ob q n hx) hc hx
  slot := fun c ob q n hc hx => by
    obtain ⟨sl, e1⟩ := a.slot c ob q n hc hx
    obtain ⟨sl', e2⟩ := b.slot c _ e1 (a.free c ob q n hx) hc hx
    exact ⟨sl', e2⟩
  free := fun c ob q n hx => by
    obtain ⟨o', e1⟩ := a.there c ob q hx
    exact b.free c o' e1 (a.free c ob q n hx) hx
  there := fun c ob q hx => by
    obtain ⟨o', e1⟩ := a.there c ob q hx
    exact b.there c o' e1 hx
  tups := fun c xs q => b.tups c xs (a.tups c xs q)
  frzs := fun c ob xs q => b.frzs c ob xs (a.frzs c ob xs q)
  tbls := fun c ps q => by
    obtain ⟨m1, e1⟩ := a.tbls c ps q
    obtain ⟨m2, e2⟩ := b.tbls c _ e1
    exact ⟨m1 ++ m2, by rw [e2, Array.append_assoc]⟩
theorem Un.kept (k : ∀ b u, h.get? b = some u → h'.get? b = some u) : Un fs ex H H h h' :=
  ⟨fun b ob q _ _ _ => k b ob q, fun b ob q _ _ _ => ⟨ob.slots, k b ob q⟩, fun _ _ _ n _ => n, fun b ob q _ => ⟨ob, k b ob q⟩, fun _ _ q => q, fun _ _ _ q => q, fun _ ps q => ⟨#[], by rw [q]; simp⟩⟩
theorem Un.refl : Un fs ex H H h h := Un.kept fun _ _ q => q
theorem Un.laid (k : ∀ b u, h.get? b = some u → h'.get? b = some u) (hp : h.objs.size ≤ a) (hn : H a = none) : Un fs ex H (upd H a o) h h' where
  keep := fun b u q _ _ _ => k b u q
  slot := fun b u q _ _ _ => ⟨u.slots, k b u q⟩
  free := fun b u q n _ => by rw [upd_ne (Nat.ne_of_lt (Nat.lt_of_lt_of_le (Heap.lt_size q) hp))]; exact n
  there := fun b u q _ => ⟨u, k b u q⟩
  tups := fun b xs q => by rw [upd_ne (ne_of_none q hn)]; exact q
  frzs := fun b u xs q => by rw [upd_ne (ne_of_none q hn)]; exact q
  tbls := fun b ps q => ⟨#[], by rw [upd_ne (ne_of_none q hn), q]; simp⟩
theorem Un.write (mu : Mut (H x)) (he : e = x ∨ H e = some (.own x)) (k : ∀ b u, b ≠ e → h.get? b = some u → h'.get? b = some u) (heo : ∃ u, h'.get? e = some u) : Un fs ex H (upd H x o) h h' := by
  have hx : ∀ b, H b = none → b ≠ x := fun b n z => by subst z; rw [n] at mu; exact mu
  have hb : ∀ b, H b = none → b ≠ e := fun b n z => by
    subst z
    rcases he with r | r
    · exact hx b n r
    · rw [n] at r; cases r
  have hm : ∀ b u, H b = some u → ¬ Mut (some u) → b ≠ x := fun b u q nm z => by subst z; rw [q] at mu; exact nm mu
  refine ⟨fun b u q n _ _ => k b u (hb b n) q, fun b u q n _ _ => ⟨u.slots, k b u (hb b n) q⟩, fun b u q n _ => by rw [upd_ne (hx b n)]; exact n, fun b u q _ => ?_,
    fun b xs q => by rw [upd_ne (hm b _ q fun z => z)]; exact q, fun b u xs q => by rw [upd_ne (hm b _ q fun z => z)]; exact q, fun b ps q => ⟨#[], by rw [upd_ne (hm b _ q fun z => z), q]; simp⟩⟩
  by_cases hbe : b = e
  · subst hbe; exact heo
  · exact ⟨u, k b u hbe q⟩
theorem Un.mono (u : Un fs ex H H1 h h1) (hs : ∀ b ∈ fs, b ∈ fs') (hx : ∀ b ∈ ex, b ∈ ex') : Un fs' ex' H H1 h h1 :=
  ⟨fun b ob q n hb he => u.keep b ob q n (fun z => hb (hs b z)) fun z => he (hx b z), fun _ _ q n _ he => u.any q n fun z => he (hx _ z), fun b ob q n he => u.free b ob q n fun z => he (hx b z), fun b ob q he => u.there b ob q fun z => he (hx b z), u.tups, u.frzs, u.tbls⟩
end
def trk (h : Heap) (H : Hp) : List Addr := (List.range h.objs.size).filter fun a => (H a).isSome
def hidT (h : Heap) (H : Hp) : Heap := PySem.W.hideAll h (trk h H)
theorem hidT_size (h : Heap) (H : Hp) : (hidT h H).objs.size = h.objs.size := PySem.W.hideAll_size _ _
theorem hidT_get {h : Heap} {H : Hp} {b : Addr} {o : Obj} (e : h.get? b = some o) (n : H b = none) : (hidT h H).get? b = some o :=
  PySem.W.hideAll_get _ e fun hm => by
    have q : (H b).isSome = true := (List.mem_filter.mp hm).2
    rw [n] at q; simp at q
theorem of_hidT {h : Heap} {H : Hp} {b : Addr} {o : Obj} (e : (hidT h H).get? b = some o) : h.get? b = some o ∧ H b = none := by
  have e' : h.get? b = some o := PySem.W.of_hideAll (trk h H) e
  refine ⟨e', ?_⟩
  cases q : H b with
  | none => rfl
  | some x =>
    have hm : b ∈ trk h H := List.mem_filter.mpr ⟨List.mem_range.mpr (Heap.lt_size e'), by simp [q]⟩
    have z : (hidT h H).get? b = none := PySem.W.hideAll_none (trk h H) hm
    rw [z] at e; cases e
def allNews (g h : Heap) (L : Addr) : List (Addr × Obj) := (List.range h.objs.size).filterMap fun a => if a = L ∨ (g.get? a).isSome = true then none else (h.get? a).map fun o => (a, o)
def rest (g h : Heap) (L d : Addr) : List (Addr × Obj) := (allNews g h L).filter fun p => decide (p.1 ≠ d)
end L2
namespace L2
open PySem PySem.Spec PyProof.Rows
structure Mod (K : PySem.W.Frag) (mg : Str → Option Value) (base : Heap) : Prop where
  kin : K.In base
  glob : base.Ns mainGlobals mg
  blt : ∃ mb, base.Ns builtinsNs mb ∧ ∀ x : Str, x ≠ "__name__" → mb x = bootBuiltins x
  nolimit : base.NoLimit
structure Cx where
  prog : Program
  w : World
  K : PySem.W.Frag
  mg : Str → Option Value
  base : Heap
  A : Around
  N : List Str
  s₀ : Shared
  H₀ : Hp
  env : Env
  outer : List Env
  stack : List Env
  ex : List Addr
  fn : Str → Bool
  calm : Bool
  pn : List (Addr × Obj)
  xe : Value → Shared → Prop
def frs (l : List Env) : List Addr := l.filterMap (·.frame)
abbrev Cx.fs (X : Cx) : List Addr := frs X.outer
def Vis (sc : Scope) (x : Str) : Prop := sc.names.lookup x = some .local ∨ sc.names.lookup x = some .cell ∨ sc.names.lookup x = some .free
def Loc (sc : Scope) (x : Str) : Prop := sc.names.lookup x = some .local ∨ sc.names.lookup x = some .cell
def Look (env : Env) (h : Heap) (m : Str → Option Value) (x : Str) (u : Value) : Prop :=
  (env.kindOf x = some .local ∧ m x = some u) ∨ ((env.kindOf x = some .cell ∨ env.kindOf x = some .free) ∧ ∃ c, env.cells.lookup x = some c ∧ h.IsCell c (some u))
structure Cx.Ok (X : Cx) : Prop where
  mod : Mod X.K X.mg X.base
  kind : X.env.scope.kind = .function
  glob : X.env.globals = mainGlobals
  blt : X.env.builtins = builtinsNs
  above : X.s₀.heap.objs.size ≤ X.env.locals
  inj : ∀ x y c, X.env.cells.lookup x = some c → X.env.cells.lookup y = some c → x = y
  has : ∀ x, (X.env.kindOf x = some .cell ∨ X.env.kindOf x = some .free) → ∃ c, X.env.cells.lookup x = some c
  cab : ∀ x c, X.fn x = true → X.env.cells.lookup x = some c → X.s₀.heap.objs.size ≤ c
  hd : X.calm = true → X.A.handled = none
  frames : X.A.frames = some X.stack
  stk : X.stack = X.outer ∨ (X.stack = X.env :: X.outer ∧ X.env.frame = some X.env.locals)
  exf : ∀ b ∈ X.ex, b ≠ X.env.locals ∧ ∀ x c, X.env.cells.lookup x = some c → c ≠ b
  bs : ∀ b o, X.base.get? b = some o → X.s₀.heap.get? b = some o ∧ X.H₀ b = none
  bsz : X.base.objs.size ≤ X.s₀.heap.objs.size
  noex : ∀ b o, X.base.get? b = some o → b ∉ X.ex
  exfs : ∀ b ∈ X.ex, b ∉ X.fs
  funs : X.s₀.heap.FunFrames X.base X.outer
  frf : ∀ b ∈ X.fs, X.H₀ b = none
structure Inv (X : Cx) (pins : List (Addr × Obj)) (σ : List (Option V)) (H : Hp) (s : Shared) : Prop where
  ok : X.Ok
  os : s.os = X.s₀.os
  bare : AllBare s.gens
  base : Un X.fs X.ex X.H₀ H X.s₀.heap s.heap
  loc : ∃ m, s.heap.Ns X.env.locals m ∧ ∀ (i : Nat) (x : Str) (v : V), X.N[i]? = some x → σ[i]? = some (some v) → Vis X.env.scope x → ∃ u, RelV v u ∧ Look X.env s.heap m x u
  cell : ∀ x c, X.env.cells.lookup x = some c → ∃ v, s.heap.IsCell c v
  free : H X.env.locals = none
  freeC : ∀ x c, X.env.cells.lookup x = some c → H c = none
  pin : ∀ p ∈ X.pn ++ pins, s.heap.get? p.1 = some p.2 ∧ H p.1 = none ∧ p.1 ≠ X.env.locals ∧ p.1 ∉ X.fs ∧ ∀ v, p.2.data ≠ .cell v
  hok : HOk X.prog X.w H s.heap
  len : σ.length = X.N.length
section
variable {X : Cx} {pins : List (Addr × Obj)} {σ : List (Option V)} {H H' : Hp} {s : Shared} {h' : Heap}
theorem Cx.Ok.nofr (ok : X.Ok) {b : Addr} {o : Obj} (e : X.base.get? b = some o) : b ∉ X.fs := fun hb => by
  have := (ok.funs.mem hb).1
  rw [e] at this; cases this
theorem Inv.bs (I : Inv X pins σ H s) : ∀ b o, X.base.get? b = some o → s.heap.get? b = some o ∧ H b = none := fun b o e =>
  ⟨I.base.keep b o (I.ok.bs b o e).1 (I.ok.bs b o e).2 (I.ok.nofr e) (I.ok.noex b o e), I.base.free b o (I.ok.bs b o e).1 (I.ok.bs b o e).2 (I.ok.noex b o e)⟩
theorem Inv.bk (I : Inv X pins σ H s) : ∀ b o, X.base.get? b = some o → s.heap.get? b = some o := fun b o e => (I.bs b o e).1
theorem Inv.mod (I : Inv X pins σ H s) : Mod X.K X.mg X.base := I.ok.mod
theorem Inv.kIn (I : Inv X pins σ H s) : X.K.In s.heap := I.ok.mod.kin.keeps I.bk
theorem Inv.nolimit (I : Inv X pins σ H s) : s.heap.NoLimit := I.ok.mod.nolimit.keeps I.bk
theorem Inv.fr (I : Inv X pins σ H s) : ∃ m, Fr X.base X.env.locals s.heap m :=
  let ⟨m, hn, _⟩ := I.loc
  ⟨m, hn, I.bk, Nat.le_trans I.ok.bsz I.ok.above⟩
theorem Inv.lt (I : Inv X pins σ H s) : X.env.locals < s.heap.objs.size := let ⟨_, hn, _⟩ := I.loc; hn.lt
theorem Inv.sz (I : Inv X pins σ H s) : X.s₀.heap.objs.size ≤ s.heap.objs.size := Nat.le_trans I.ok.above (Nat.le_of_lt I.lt)
theorem Inv.nofs (I : Inv X pins σ H s) {a : Addr} (h : s.heap.objs.size ≤ a) : a ∉ X.fs := fun hb => by
  obtain ⟨_, o, ho, _⟩ := I.ok.funs.mem hb
  exact absurd (Nat.lt_of_lt_of_le (Heap.lt_size ho) (Nat.le_trans I.sz h)) (Nat.lt_irrefl _)
theorem Inv.cne (I : Inv X pins σ H s) : ∀ x c, X.env.cells.lookup x = some c → c ≠ X.env.locals := fun x c e z => by
  obtain ⟨v, o, ho, hd⟩ := I.cell x c e
  obtain ⟨m, ⟨o', es, ep, ho', hd', _⟩, _⟩ := I.loc
  rw [z, ho'] at ho; cases ho; rw [hd'] at hd; cases hd
theorem Inv.funs (I : Inv X pins σ H s) : s.heap.FunFrames X.base X.outer := by
  have all : ∀ (l : List Env), (∀ b ∈ frs l, b ∈ X.fs) → X.s₀.heap.FunFrames X.base l → s.heap.FunFrames X.base l := by
    intro l
    induction l with
    | nil => intro _ _; trivial
    | cons env r ih =>
      intro hs hl
      obtain ⟨hk, ⟨L, o, hf, hn, ho, hd⟩, hr⟩ := hl
      have hL : L ∈ X.fs := hs L (by unfold frs; rw [List.filterMap_cons, hf]; exact List.mem_cons_self)
      obtain ⟨sl, e⟩ := I.base.slot L o ho (I.ok.frf L hL) hL fun z => I.ok.exfs L z hL
      exact ⟨hk, ⟨L, _, hf, hn, e, hd⟩, ih (fun b hb => hs b (by unfold frs; rw [List.filterMap_cons, hf]; exact List.mem_cons_of_mem _ hb)) hr⟩
  exact all X.outer (fun _ hb => hb) I.ok.funs
theorem Inv.stack (I : Inv X pins σ H s) : s.heap.FunFrames X.base X.stack := by
  rcases I.ok.stk with e | ⟨e, hf⟩
  · rw [e]; exact I.funs
  · rw [e]
    obtain ⟨m, hn, _⟩ := I.loc
    refine .cons (by rw [I.ok.kind]; decide) hf hn ?_ I.funs
    exact Heap.get?_none_of_le (Nat.le_trans I.ok.bsz I.ok.above)
theorem Inv.stkSub (I : Inv X pins σ H s) : ∀ b ∈ frs X.stack, b ∈ X.env.locals :: X.fs := fun b hb => by
  rcases I.ok.stk with e | ⟨e, hf⟩
  · rw [e] at hb; exact List.mem_cons_of_mem _ hb
  · rw [e] at hb
    unfold frs at hb
    rw [List.filterMap_cons, hf] at hb
    exact hb
theorem Inv.stkFree (I : Inv X pins σ H s) : ∀ b ∈ frs X.stack, H b = none := fun b hb => by
  rcases List.mem_cons.mp (I.stkSub b hb) with e | hb
  · rw [e]; exact I.free
  · obtain ⟨_, o, ho, _⟩ := I.ok.funs.mem hb
    exact I.base.free b o ho (I.ok.frf b hb) fun z => I.ok.exfs b z hb
theorem Inv.step {g' : Array GenState} {t' : Nat} {d' : Drawn} {ch : List Addr} (I : Inv X pins σ H s)
    (hch : ∀ b ∈ ch, (b ∈ X.ex ∨ X.s₀.heap.objs.size ≤ b) ∧ b ≠ X.env.locals ∧ (∀ x c, X.env.cells.lookup x = some c → c ≠ b) ∧ ∀ p ∈ X.pn ++ pins, p.1 ≠ b)
    (keep : ∀ b o, b ≠ X.env.locals → b ∉ X.fs → b ∉ ch → s.heap.get? b = some o → H b = none → h'.get? b = some o)
    (slot : ∀ b o, b ≠ X.env.locals → b ∈ X.fs → b ∉ ch → s.heap.get? b = some o → H b = none → ∃ sl, h'.get? b = some { o with slots := sl }) (free : ∀ b o, b ∉ ch → s.heap.get? b = some o → H b = none → H' b = none)
    (there : ∀ b o, b ∉ ch → s.heap.get? b = some o → ∃ o', h'.get? b = some o')
    (tups : ∀ b xs, H b = some (.tup xs) → H' b = some (.tup xs)) (frzs : ∀ b o u, H b = some (.frz o u) → H' b = some (.frz o u)) (tbls : ∀ b ps, H b = some (.tbl ps) → ∃ more, H' b = some (.tbl (ps ++ more)))
    (ns : ∀ m, s.heap.Ns X.env.locals m → h'.Ns X.env.locals m) (hok : HOk X.prog X.w H' h') (hg : AllBare g') :
    Inv X pins σ H' { s with heap := h', gens := g', drawn := d', toks := t' } := by
  have neL : ∀ b o, X.s₀.heap.get? b = some o → b ≠ X.env.locals := fun b o e => Nat.ne_of_lt (Nat.lt_of_lt_of_le (Heap.lt_size e) I.ok.above)
  have neC : ∀ b o, X.s₀.heap.get? b = some o → b ∉ X.ex → b ∉ ch := fun b o e hx hb => by
    rcases (hch b hb).1 with z | z
    · exact hx z
    · exact absurd (Nat.lt_of_lt_of_le (Heap.lt_size e) z) (Nat.lt_irrefl _)
  have cellK : ∀ x c, X.env.cells.lookup x = some c → ∀ v, s.heap.IsCell c v → h'.IsCell c v := fun x c e v ⟨o, ho, hd⟩ => by
    have nch : c ∉ ch := fun z => (hch c z).2.2.1 x c e rfl
    by_cases hc : c ∈ X.fs
    · obtain ⟨sl, q⟩ := slot c o (I.cne x c e) hc nch ho (I.freeC x c e)
      exact ⟨_, q, hd⟩
    · exact ⟨o, keep c o (I.cne x c e) hc nch ho (I.freeC x c e), hd⟩
  refine ⟨I.ok, I.os, hg, ⟨fun b o e n hb hx => ?_, fun b o e n hb hx => ?_, fun b o e n hx => ?_, fun b o e hx => ?_, fun b xs e => tups b xs (I.base.tups b xs e), fun b o xs e => frzs b o xs (I.base.frzs b o xs e), fun b ps e => ?_⟩, ?_, fun x c e => ?_, ?_, fun x c e => ?_, fun p hp => ?_, hok, I.len⟩
  · exact keep b o (neL b o e) hb (neC b o e hx) (I.base.keep b o e n hb hx) (I.base.free b o e n hx)
  · obtain ⟨sl, e1⟩ := I.base.slot b o e n hb hx
    obtain ⟨sl', e2⟩ := slot b _ (neL b o e) hb (neC b o e hx) e1 (I.base.free b o e n hx)
    exact ⟨sl', e2⟩
  · obtain ⟨o', e1⟩ := I.base.there b o e hx
    exact free b o' (neC b o e hx) e1 (I.base.free b o e n hx)
  · obtain ⟨o', e1⟩ := I.base.there b o e hx
    exact there b o' (neC b o e hx) e1
  · obtain ⟨m1, e1⟩ := I.base.tbls b ps e
    obtain ⟨m2, e2⟩ := tbls b _ e1
    exact ⟨m1 ++ m2, by rw [e2, Array.append_assoc]⟩
  · obtain ⟨m, hn, hl⟩ := I.loc
    refine ⟨m, ns m hn, fun i x v e1 e2 e3 => ?_⟩
    obtain ⟨u, r, l⟩ := hl i x v e1 e2 e3
    refine ⟨u, r, ?_⟩
    rcases l with l | ⟨k, c, e, z⟩
    · exact .inl l
    · exact .inr ⟨k, c, e, cellK x c e _ z⟩
  · obtain ⟨v, z⟩ := I.cell x c e
    exact ⟨v, cellK x c e v z⟩
  · obtain ⟨m, ⟨o, _, _, ho, _⟩, _⟩ := I.loc
    exact free _ o (fun z => (hch _ z).2.1 rfl) ho I.free
  · obtain ⟨v, o, ho, hd⟩ := I.cell x c e
    exact free c o (fun z => (hch c z).2.2.1 x c e rfl) ho (I.freeC x c e)
  · obtain ⟨e, n, ne, nf, d⟩ := I.pin p hp
    have nch : p.1 ∉ ch := fun z => (hch p.1 z).2.2.2 p hp rfl
    exact ⟨keep p.1 p.2 ne nf nch e n, free p.1 p.2 nch e n, ne, nf, d⟩
theorem Inv.un {t' : Nat} (I : Inv X pins σ H s) (u : Un X.fs [] H H' s.heap h') (hok : HOk X.prog X.w H' h') : Inv X pins σ H' { s with heap := h', toks := t' } := by
  obtain ⟨m, ⟨o, es, ep, ho, r⟩, _⟩ := id I.loc
  obtain ⟨sl, hL⟩ := u.any ho I.free (by simp)
  exact I.step (g' := s.gens) (d' := s.drawn) (ch := []) (fun _ z => nomatch z) (fun b o _ hb _ e n => u.keep b o e n hb (by simp)) (fun b o _ hb _ e n => u.slot b o e n hb (by simp)) (fun b o _ e n => u.free b o e n (by simp)) (fun b o _ e => u.there b o e (by simp)) u.tups u.frzs u.tbls (fun m' hm => by
    obtain ⟨o', es', ep', ho', r'⟩ := hm
    rw [ho] at ho'; cases ho'
    exact ⟨_, es', ep', hL, r'⟩) hok I.bare
theorem Inv.call {g' : Array GenState} {t' : Nat} {d' : Drawn} {ch : List Addr} (I : Inv X pins σ H s) (u : Un (frs X.stack) ch H H' s.heap h') (hok : HOk X.prog X.w H' h') (hg : AllBare g')
    (hch : ∀ b ∈ ch, (b ∈ X.ex ∨ X.s₀.heap.objs.size ≤ b) ∧ b ≠ X.env.locals ∧ (∀ x c, X.env.cells.lookup x = some c → c ≠ b) ∧ ∀ p ∈ X.pn ++ pins, p.1 ≠ b) :
    Inv X pins σ H' { s with heap := h', gens := g', drawn := d', toks := t' } := by
  obtain ⟨m, ⟨o, es, ep, ho, r⟩, _⟩ := id I.loc
  obtain ⟨sl, hL⟩ := u.any ho I.free fun z => (hch _ z).2.1 rfl
  exact I.step (ch := ch) hch (fun b o hL hb hc e n => u.keep b o e n (fun z => (List.mem_cons.mp (I.stkSub b z)).elim hL hb) hc) (fun b o _ _ hc e n => u.any e n hc) (fun b o hc e n => u.free b o e n hc) (fun b o hc e => u.there b o e hc) u.tups u.frzs u.tbls (fun m' hm => by
    obtain ⟨o', es', ep', ho', r'⟩ := hm
    rw [ho] at ho'; cases ho'
    exact ⟨_, es', ep', hL, r'⟩) hok hg
theorem Inv.turned {t' : Nat} {it : Addr} (I : Inv X pins σ H s) (k : ∀ b o, b ≠ it → s.heap.get? b = some o → h'.get? b = some o) (hn : H it = none) (hL : it ≠ X.env.locals)
    (h1 : it ∈ X.ex ∨ X.s₀.heap.objs.size ≤ it) (h2 : ∀ x c, X.env.cells.lookup x = some c → c ≠ it) (h3 : ∀ p ∈ X.pn ++ pins, p.1 ≠ it) : Inv X pins σ H { s with heap := h', toks := t' } := by
  have nit : ∀ b u, H b = some u → b ≠ it := fun b u e z => by rw [z, hn] at e; cases e
  refine I.step (g' := s.gens) (d' := s.drawn) (ch := [it]) (fun b hb => ?_) (fun b o _ _ hc e _ => k b o (fun z => hc (by simp [z])) e) (fun b o _ _ hc e _ => ⟨o.slots, k b o (fun z => hc (by simp [z])) e⟩) (fun _ _ _ _ n => n)
    (fun b o hc e => ⟨o, k b o (fun z => hc (by simp [z])) e⟩) (fun _ _ e => e) (fun _ _ _ e => e) (fun b ps e => ⟨#[], by rw [e]; simp⟩) (fun m hm => ?_) (fun b u e => ?_) I.bare
  · have e : b = it := by simpa using hb
    subst e
    exact ⟨h1, hL, h2, h3⟩
  · obtain ⟨o, es, ep, ho, r⟩ := hm
    exact ⟨o, es, ep, k _ o (Ne.symm hL) ho, r⟩
  · refine (I.hok b u e).stay (fun c v hc q => k c v ?_ q) (fun _ q => q) fun _ _ q => q
    rcases hc with z | z
    · rw [z]; exact nit b u e
    · exact nit c _ z
theorem Inv.tok (I : Inv X pins σ H s) (t : Nat) : Inv X pins σ H { s with toks := t } := I.un (h' := s.heap) (t' := t) Un.refl I.hok
theorem Inv.kept {t' : Nat} (I : Inv X pins σ H s) (k : ∀ b u, s.heap.get? b = some u → h'.get? b = some u) : Inv X pins σ H { s with heap := h', toks := t' } := I.un (Un.kept k) (I.hok.kept k)
theorem Inv.laid {a : Addr} {o : HO} {t' : Nat} (I : Inv X pins σ H s) (k : ∀ b u, s.heap.get? b = some u → h'.get? b = some u) (hp : s.heap.objs.size ≤ a) (new : ObjOk X.prog X.w (upd H a o) h' a o) :
    Inv X pins σ (upd H a o) { s with heap := h', toks := t' } := I.un (Un.laid k hp (I.hok.fresh hp)) (I.hok.laid k hp new)
theorem Inv.write {x e : Addr} {o : HO} {t' : Nat} (I : Inv X pins σ H s) (mu : Mut (H x)) (he : e = x ∨ H e = some (.own x)) (k : ∀ b u, b ≠ e → s.heap.get? b = some u → h'.get? b = some u) (heo : ∃ u, h'.get? e = some u)
    (new : ObjOk X.prog X.w (upd H x o) h' x o) : Inv X pins σ (upd H x o) { s with heap := h', toks := t' } := I.un (Un.write mu he k heo) (I.hok.write mu he k heo new)
theorem Inv.pins_of {pins' : List (Addr × Obj)} (I : Inv X pins σ H s) (h : ∀ p ∈ pins', s.heap.get? p.1 = some p.2 ∧ H p.1 = none ∧ p.1 ≠ X.env.locals ∧ p.1 ∉ X.fs ∧ ∀ v, p.2.data ≠ .cell v) : Inv X pins' σ H s :=
  ⟨I.ok, I.os, I.bare, I.base, I.loc, I.cell, I.free, I.freeC, fun p hp => (List.mem_append.mp hp).elim (fun z => I.pin p (List.mem_append_left _ z)) (h p), I.hok, I.len⟩
theorem nodup_ix {N : List Str} (hN : N.Nodup) {i j : Nat} {x : Str} (a : N[i]? = some x) (b : N[j]? = some x) : i = j := by
  obtain ⟨h1, e1⟩ := List.getElem?_eq_some_iff.mp a
  obtain ⟨h2, e2⟩ := List.getElem?_eq_some_iff.mp b
  exact (List.getElem_inj hN).mp (e1.trans e2.symm)
theorem store_ok2 {M : Model} {A : Around} {E : Value → Shared → Prop} {i : Nat} {x : Str} {v : V} {u : Value} {Q : Unit → Shared → Prop} (I : Inv X pins σ H s) (hN : X.N.Nodup) (hi : X.N[i]? = some x) (hx : Loc X.env.scope x) (r : RelV v u)
    (h : ∀ s', Inv X pins (σ.set i (some v)) H s' → (∃ a, Heap.SameBut a s.heap s'.heap ∧ (a = X.env.locals ∨ X.env.cells.lookup x = some a)) → Q () s') (hf : X.fn x = true ∨ X.env.scope.names.lookup x = some .local := by first | exact .inl rfl | exact .inr rfl | assumption) : wpAny M A (storeName X.env x u) Q E s := by
  obtain ⟨m, hn, hl⟩ := id I.loc
  have hcls : (X.env.scope.kind == .class || (X.env.scope.kind == .module && X.env.locals != X.env.globals)) = false := by rw [I.ok.kind]; rfl
  have hiσ : i < σ.length := by rw [I.len]; exact (List.getElem?_eq_some_iff.mp hi).1
  have cne := I.cne
  have tracked : ∀ {a : Addr} {h' : Heap}, (∃ o, s.heap.get? a = some o ∧ H a = none) → Heap.SameBut a s.heap h' → HOk X.prog X.w H h' := fun {a h'} ha hs b ob e => by
    obtain ⟨_, _, hfree⟩ := ha
    refine (I.hok b ob e).stay (fun c w' hc q => (hs.2 c ?_).trans q) (fun _ q => q) fun _ _ q => q
    rintro rfl
    rcases hc with rfl | hc
    · rw [hfree] at e; cases e
    · rw [hfree] at hc; cases hc
  rcases hx with hk | hk
  · refine wpAny_storeName_local hk hn (fun h' hn' hs => ?_) hcls
    obtain ⟨oL, _, _, hoL, _⟩ := id hn
    refine h _ ⟨I.ok, I.os, I.bare, ⟨fun b o e n hb hx => ?_, fun b o e n hb hx => ?_, I.base.free, fun b o e hx => ?_, I.base.tups, I.base.frzs, I.base.tbls⟩, ⟨_, hn', fun j y v' e1 e2 e3 => ?_⟩, fun y c e => ?_, I.free, I.freeC, fun p hp => ?_, tracked ⟨oL, hoL, I.free⟩ hs, by simpa using I.len⟩ ⟨_, hs, .inl rfl⟩
    · exact (hs.2 b (Nat.ne_of_lt (Nat.lt_of_lt_of_le (Heap.lt_size e) I.ok.above))).trans (I.base.keep b o e n hb hx)
    · obtain ⟨sl, e1⟩ := I.base.slot b o e n hb hx
      exact ⟨sl, (hs.2 b (Nat.ne_of_lt (Nat.lt_of_lt_of_le (Heap.lt_size e) I.ok.above))).trans e1⟩
    · obtain ⟨o', e1⟩ := I.base.there b o e hx
      exact ⟨o', (hs.2 b (Nat.ne_of_lt (Nat.lt_of_lt_of_le (Heap.lt_size e) I.ok.above))).trans e1⟩
    · by_cases hj : j = i
      · subst hj
        rw [hi] at e1; cases e1
        rw [List.getElem?_set_self hiσ] at e2
        cases e2
        exact ⟨u, r, .inl ⟨hk, by simp⟩⟩
      · rw [List.getElem?_set_ne (Ne.symm hj)] at e2
        obtain ⟨u', r', q⟩ := hl j y v' e1 e2 e3
        refine ⟨u', r', ?_⟩
        rcases q with ⟨k, e⟩ | ⟨k, c, e, z⟩
        · refine .inl ⟨k, ?_⟩
          have : y ≠ x := fun e => hj (nodup_ix hN e1 (e ▸ hi))
          simp [this, e]
        · exact .inr ⟨k, c, e, z.sameBut hs (cne y c e)⟩
    · obtain ⟨w', z⟩ := I.cell y c e
      exact ⟨w', z.sameBut hs (cne y c e)⟩
    · obtain ⟨e, n, ne, nf, d⟩ := I.pin p hp
      exact ⟨(hs.2 p.1 ne).trans e, n, ne, nf, d⟩
  · have hfn : X.fn x = true := by
      rcases hf with z | z
      · exact z
      · rw [z] at hk; cases hk
    obtain ⟨c, hc⟩ := I.ok.has x (.inl hk)
    obtain ⟨w', z⟩ := I.cell x c hc
    refine wpAny_storeName_cell I.ok.kind hk hc z (fun h' hc' hs => ?_)
    obtain ⟨oc, hoc, hocd⟩ := id z
    refine h { s with heap := h' } ⟨I.ok, I.os, I.bare, ⟨fun b o e n hb hx => ?_, fun b o e n hb hx => ?_, I.base.free, fun b o e hx => ?_, I.base.tups, I.base.frzs, I.base.tbls⟩, ⟨m, hn.sameBut hs (Ne.symm (cne x c hc)), fun j y v' e1 e2 e3 => ?_⟩, fun y c' e => ?_, I.free, I.freeC, fun p hp => ?_, tracked ⟨oc, hoc, I.freeC x c hc⟩ hs, by simpa using I.len⟩ ⟨c, hs, .inr hc⟩
    · exact (hs.2 b (Nat.ne_of_lt (Nat.lt_of_lt_of_le (Heap.lt_size e) (I.ok.cab x c hfn hc)))).trans (I.base.keep b o e n hb hx)
    · obtain ⟨sl, e1⟩ := I.base.slot b o e n hb hx
      exact ⟨sl, (hs.2 b (Nat.ne_of_lt (Nat.lt_of_lt_of_le (Heap.lt_size e) (I.ok.cab x c hfn hc)))).trans e1⟩
    · obtain ⟨o', e1⟩ := I.base.there b o e hx
      exact ⟨o', (hs.2 b (Nat.ne_of_lt (Nat.lt_of_lt_of_le (Heap.lt_size e) (I.ok.cab x c hfn hc)))).trans e1⟩
    · by_cases hj : j = i
      · subst hj
        rw [hi] at e1; cases e1
        rw [List.getElem?_set_self hiσ] at e2
        cases e2
        exact ⟨u, r, .inr ⟨.inl hk, c, hc, hc'⟩⟩
      · rw [List.getElem?_set_ne (Ne.symm hj)] at e2
        obtain ⟨u', r', q⟩ := hl j y v' e1 e2 e3
        refine ⟨u', r', ?_⟩
        rcases q with q | ⟨k, c', e, z'⟩
        · exact .inl q
        · refine .inr ⟨k, c', e, z'.sameBut hs ?_⟩
          rintro rfl
          exact hj (nodup_ix hN e1 (I.ok.inj _ _ _ e hc ▸ hi))
    · by_cases hcc : c' = c
      · subst hcc; exact ⟨_, hc'⟩
      · obtain ⟨w2, z2⟩ := I.cell y c' e
        exact ⟨w2, z2.sameBut hs hcc⟩
    · obtain ⟨e, n, ne, nf, d⟩ := I.pin p hp
      refine ⟨(hs.2 p.1 ?_).trans e, n, ne, nf, d⟩
      intro q
      rw [q, hoc] at e
      have q' : oc = p.2 := Option.some.inj e
      exact d w' (by rw [← q']; exact hocd)
theorem store_ok {M : Model} {A : Around} {E : Value → Shared → Prop} {i : Nat} {x : Str} {v : V} {u : Value} {Q : Unit → Shared → Prop} (I : Inv X pins σ H s) (hN : X.N.Nodup) (hi : X.N[i]? = some x) (hx : Loc X.env.scope x) (r : RelV v u)
    (h : ∀ s', Inv X pins (σ.set i (some v)) H s' → Q () s') (hf : X.fn x = true ∨ X.env.scope.names.lookup x = some .local := by first | exact .inl rfl | exact .inr rfl | assumption) : wpAny M A (storeName X.env x u) Q E s :=
  store_ok2 I hN hi hx r (fun s' I' _ => h s' I') hf
end
abbrev XK := Value → Option Addr → Hp → Prop
abbrev St := List (Option V)
abbrev VK := V → Hp → Prop
abbrev TE := St → Hp → VK → Prop
abbrev TT := St → Hp → (Bool → Hp → Prop) → Prop
abbrev TA := St → Hp → (List V → Hp → Prop) → Prop
structure Ends where
  nx : St → Hp → Prop
  rt : VK
  bk : St → Hp → Prop := fun _ _ => False
  ct : St → Hp → Prop := fun _ _ => False
abbrev TS := Ends → St → Hp → Prop
def EP (X : Cx) (pins : List (Addr × Obj)) (σ : St) (Q : VK) (u : Value) (s' : Shared) : Prop := ∃ v H', Inv X pins σ H' s' ∧ RelV v u ∧ Q v H'
def TP (X : Cx) (pins : List (Addr × Obj)) (σ : St) (Q : Bool → Hp → Prop) (b : Bool) (s' : Shared) : Prop := ∃ H', Inv X pins σ H' s' ∧ Q b H'
def AP (X : Cx) (pins : List (Addr × Obj)) (σ : St) (Q : List V → Hp → Prop) (us : List Value) (s' : Shared) : Prop := ∃ vs H', Inv X pins σ H' s' ∧ Vals vs us ∧ Q vs H'
def SP (X : Cx) (pins : List (Addr × Obj)) (D : Ends) (f : Flow) (s' : Shared) : Prop :=
  match f with
  | .next => ∃ σ' H', Inv X pins σ' H' s' ∧ D.nx σ' H'
  | .brk => ∃ σ' H', Inv X pins σ' H' s' ∧ D.bk σ' H'
  | .cont => ∃ σ' H', Inv X pins σ' H' s' ∧ D.ct σ' H'
  | .ret u => ∃ v σ' H', Inv X pins σ' H' s' ∧ RelV v u ∧ D.rt v H'
def PE (X : Cx) (e : Expr) (t : TE) : Prop :=
  ∀ (pins : List (Addr × Obj)) (s : Shared) (σ : St) (H : Hp) (Q : VK), Inv X pins σ H s → t σ H Q → wpAny (model X.prog X.w) X.A (eval e X.env) (EP X pins σ Q) X.xe s
def PT (X : Cx) (e : Expr) (t : TT) : Prop :=
  ∀ (pins : List (Addr × Obj)) (s : Shared) (σ : St) (H : Hp) (Q : Bool → Hp → Prop), Inv X pins σ H s → t σ H Q → wpAny (model X.prog X.w) X.A (isTrue e X.env (eval e X.env)) (TP X pins σ Q) X.xe s
def PW (X : Cx) (e : Expr) (t : TT) : Prop :=
  ∀ (whole : Sem Value) (pins : List (Addr × Obj)) (s : Shared) (σ : St) (H : Hp) (Q : Bool → Hp → Prop), Inv X pins σ H s → t σ H Q → wpAny (model X.prog X.w) X.A (isTrue e X.env whole) (TP X pins σ Q) X.xe s
theorem PW.pt {X : Cx} {e : Expr} {t : TT} (h : PW X e t) : PT X e t := h _
def PA (X : Cx) (es : List Expr) (t : TA) : Prop :=
  ∀ (pos : Pos) (pins : List (Addr × Obj)) (s : Shared) (σ : St) (H : Hp) (Q : List V → Hp → Prop), Inv X pins σ H s → t σ H Q → wpAny (model X.prog X.w) X.A (spliced (backTo pos (starEach es X.env))) (AP X pins σ Q) X.xe s
def PS (X : Cx) (st : Stmt) (t : TS) : Prop :=
  ∀ (pins : List (Addr × Obj)) (s : Shared) (σ : St) (H : Hp) (D : Ends), Inv X pins σ H s → t D σ H → wpAny (model X.prog X.w) X.A (exec st X.env) (SP X pins D) X.xe s
def PSs (X : Cx) (st : List Stmt) (t : TS) : Prop :=
  ∀ (pins : List (Addr × Obj)) (s : Shared) (σ : St) (H : Hp) (D : Ends), Inv X pins σ H s → t D σ H → wpAny (model X.prog X.w) X.A (execs st X.env) (SP X pins D) X.xe s
theorem thn {α : Type} {t : Sem α} {Q Q' : α → Shared → Prop} {M : Model} {A : Around} {E : Value → Shared → Prop} {s : Shared} (h : wpAny M A t Q E s) (hQ : ∀ a s, Q a s → Q' a s) : wpAny M A t Q' E s := wpAny_mono h hQ fun _ _ x => x
end L2
namespace L2
open PySem PySem.Spec PyProof.Rows
section
variable {X : Cx}
def tVar (i : Nat) : TE := fun σ H Q => ∃ v, σ[i]? = some (some v) ∧ Q v H
def tC (v : V) : TE := fun _ H Q => Q v H
theorem pe_var {i : Nat} {x : Str} {pos : Pos} (hN : X.N[i]? = some x) (hv : Vis X.env.scope x) (hd : (x == ("__debug__" : Str)) = false := by decide) (hcd : (x == ("__classdict__" : Str)) = false := by decide) : PE X (.Name x pos) (tVar i) := by
  intro pins s σ H Q I h
  obtain ⟨v, e, h⟩ := h
  obtain ⟨m, hn, hl⟩ := I.loc
  obtain ⟨u, r, l⟩ := hl i x v hN e hv
  have fin : EP X pins σ Q u s := ⟨v, H, I, r, h⟩
  rcases l with ⟨hk, hm⟩ | ⟨hk, c, hc, hcell⟩
  · exact wpAny_Name (wpAny_loadName_local I.ok.kind hk hn hm fin) hd
  · rcases hk with hk | hk
    · exact wpAny_Name (wpAny_loadName_cell I.ok.kind hk hc hcell fin) hd
    · exact wpAny_Name (wpAny_loadName_free I.ok.kind hk hc hcell fin hcd) hd
theorem pe_int {i j pos} : PE X (.Constant (.int i) j pos) (tC (.int i)) := fun _ _ _ H _ I h => wpAny_Constant_int ⟨.int i, H, I.tok _, ⟨_, rfl⟩, h⟩
theorem pe_bl {b j pos} : PE X (.Constant (.bool b) j pos) (tC (.bl b)) := fun _ _ _ H _ I h => Constant_bool ⟨.bl b, H, I, rfl, h⟩
def Gl (X : Cx) (x : Str) : Prop := X.env.kindOf x = some .globalImplicit
theorem ld_glob {E : Value → Shared → Prop} {pins : List (Addr × Obj)} {s : Shared} {σ : St} {H : Hp} {x : Str} {u : Value} {pos : Pos} {Q : Value → Shared → Prop} (I : Inv X pins σ H s) (hg : Gl X x) (hm : X.mg x = some u) (h : Q u s)
    (hd : (x == ("__debug__" : Str)) = false := by decide) : wpAny (model X.prog X.w) X.A (eval (.Name x pos) X.env) Q E s :=
  Calls.Name_function_global I.ok.kind hg (Calls.loadGlobal_global (by rw [I.ok.glob]; exact I.mod.glob.keeps I.bk) hm h) hd
theorem ld_blt {E : Value → Shared → Prop} {pins : List (Addr × Obj)} {s : Shared} {σ : St} {H : Hp} {x : Str} {u : Value} {pos : Pos} {Q : Value → Shared → Prop} (I : Inv X pins σ H s) (hg : Gl X x) (hm : X.mg x = none) (hv : bootBuiltins x = some u) (h : Q u s)
    (hn : x ≠ "__name__" := by decide) (hd : (x == ("__debug__" : Str)) = false := by decide) : wpAny (model X.prog X.w) X.A (eval (.Name x pos) X.env) Q E s := by
  obtain ⟨mb, h1, h2⟩ := I.mod.blt
  exact Calls.Name_function_global I.ok.kind hg (Calls.loadGlobal_builtin (by rw [I.ok.glob]; exact I.mod.glob.keeps I.bk) hm (by rw [I.ok.blt]; exact h1.keeps I.bk) ((h2 x hn).trans hv) h) hd
theorem pe_bltn {x : Str} {v : V} {u : Value} {pos : Pos} (hg : Gl X x) (hm : X.mg x = none) (hv : bootBuiltins x = some u) (r : RelV v u) (hn : x ≠ "__name__" := by decide) (hd : (x == ("__debug__" : Str)) = false := by decide) : PE X (.Name x pos) (tC v) :=
  fun _ _ _ H _ I h => ld_blt I hg hm hv ⟨v, H, I, r, h⟩ hn hd
variable {a b : Expr} {ta tb : TE} {pos : Pos}
def tB (t : TE) : TT := fun σ H Q => t σ H fun x H1 => ∃ c, x = .bl c ∧ Q c H1
theorem pt_val {e : Expr} {t : TE} (h : PE X e t) (he : ∀ whole, isTrue e X.env whole = (do let v ← whole; standAt e.pos; holding [v] (truthy v)) := by intro _; rfl) : PT X e (tB t) := by
  intro pins s σ H Q I hw
  refine isTrue_plain (thn (h pins s σ H _ I hw) fun v s1 ⟨x, H1, I1, r1, q1⟩ => ?_) (he _)
  obtain ⟨d, rfl, q⟩ := q1
  cases r1
  exact wpAny_truthy_bool ⟨H1, I1, q⟩
variable {tA tB' : TT} {rest : List Expr}
def tOr (t u : TT) : TT := fun σ H Q => t σ H fun c H1 => if c = true then Q true H1 else u σ H1 Q
def tNot (t : TT) : TT := fun σ H Q => t σ H fun c H1 => Q (!c) H1
theorem pw_or1 (ha : PT X a tA) : PW X (.BoolOp .Or [a] pos) tA := by
  intro wh pins s σ H Q I h
  refine isTrue_or (thn (ha pins s σ H Q I h) fun c s1 e => ?_)
  cases c with
  | false => exact isTrue_or_nil e
  | true => exact e
theorem pw_or (ha : PT X a tA) (hb : PW X (.BoolOp .Or (b :: rest) pos) tB') : PW X (.BoolOp .Or (a :: b :: rest) pos) (tOr tA tB') := by
  intro wh pins s σ H Q I h
  refine isTrue_or (thn (ha pins s σ H _ I h) fun c s1 ⟨H1, I1, q1⟩ => ?_)
  cases c with
  | true => exact ⟨H1, I1, q1⟩
  | false => exact hb wh pins s1 σ H1 Q I1 q1
theorem pt_not (ha : PT X a tA) : PT X (.UnaryOp .Not a pos) (tNot tA) := by
  intro pins s σ H Q I h
  exact isTrue_not (ha pins s σ H (fun c H1 => Q (!c) H1) I h)
def tAndV (ta tb : TE) : TE := fun σ H Q => ta σ H fun x H1 => ∃ c, x = .bl c ∧ if c = true then tb σ H1 Q else Q (.bl false) H1
def tNotV (ta : TE) : TE := fun σ H Q => ta σ H fun x H1 => ∃ c, x = .bl c ∧ Q (.bl (!c)) H1
theorem pe_one {op} {t : TE} (h : PE X a t) : PE X (.BoolOp op [a] pos) t := fun pins s σ H Q I hw => BoolOp_one (h pins s σ H Q I hw)
theorem pe_and (ha : PE X a ta) (hb : PE X (.BoolOp .And (b :: rest) pos) tb) : PE X (.BoolOp .And (a :: b :: rest) pos) (tAndV ta tb) := by
  intro pins s σ H Q I h
  refine BoolOp_and (thn (ha pins s σ H _ I h) fun v s1 ⟨x, H1, I1, r1, q1⟩ => ?_)
  obtain ⟨c, rfl, q1⟩ := q1
  cases r1
  refine wpAny_truthy_bool ?_
  cases c with
  | true => exact hb pins s1 σ H1 Q I1 q1
  | false => exact ⟨.bl false, H1, I1, rfl, q1⟩
theorem pe_not (ha : PE X a ta) : PE X (.UnaryOp .Not a pos) (tNotV ta) := by
  intro pins s σ H Q I h
  refine UnaryOp_ (thn (ha pins s σ H _ I h) fun v s1 ⟨x, H1, I1, r1, q1⟩ => ?_)
  obtain ⟨c, rfl, q1⟩ := q1
  cases r1
  exact not_of (wpAny_truthy_bool ⟨.bl (!c), H1, I1, rfl, q1⟩)
end
end L2
namespace L2
open PySem PySem.Spec PyProof.Rows
def SqL (K : PySem.W.Frag) (H : Hp) (a : Addr) (xs : List V) : Prop :=
  Rd H a (.lst xs) ∨
    ∃ (o : Obj) (its : Array Value) (n : Nat), K.lookup a = some o ∧ o.cls = .type "list" ∧ o.dict = none ∧ o.data = .seq its n ∧ its.size ≤ sizeLine ∧ Vals xs its.toList
def SqT (K : PySem.W.Frag) (H : Hp) (a : Addr) (xs : List V) : Prop :=
  Rd H a (.tup xs) ∨
    ∃ (o : Obj) (its : Array Value) (n : Nat), K.lookup a = some o ∧ o.cls = .type "tuple" ∧ o.data = .seq its n ∧ its.size ≤ sizeLine ∧ Vals xs its.toList
def absV : Value → Option V
  | .none => some .non
  | .bool b => some (.bl b)
  | .int i _ => some (.int i)
  | .str x _ => some (.str x)
  | .bytes b _ => some (.byt b)
  | .float b _ => some (.flt b)
  | .ref a => some (.ref a)
  | .type n => some (.ty n)
  | _ => none
theorem RelV.abs {x : V} {u : Value} (r : RelV x u) : absV u = some x := by
  cases x with
  | non => cases r; rfl
  | bl _ => cases r; rfl
  | int _ => obtain ⟨t, rfl⟩ := r; rfl
  | str _ => obtain ⟨t, rfl⟩ := r; rfl
  | byt _ => obtain ⟨t, rfl⟩ := r; rfl
  | flt _ => obtain ⟨t, rfl⟩ := r; rfl
  | ref _ => cases r; rfl
  | ty _ => cases r; rfl
theorem RelV.inj {x y : V} {u : Value} (r : RelV x u) (q : RelV y u) : x = y := Option.some.inj (r.abs.symm.trans q.abs)
theorem Vals.inj : ∀ {xs ys : List V} {us : List Value}, Vals xs us → Vals ys us → xs = ys
  | _, _, _, .nil, .nil => rfl
  | _, _, _, .cons r t, .cons r' t' => by rw [r.inj r', Vals.inj t t']
section
variable {X : Cx} {pins : List (Addr × Obj)} {σ : St} {H : Hp} {s : Shared} {a : Addr} {xs ys : List V}
theorem SqL.of {K : PySem.W.Frag} (h : H a = some (.lst xs)) : SqL K H a xs := .inl (.inl h)
theorem SqT.of {K : PySem.W.Frag} (h : H a = some (.tup xs)) : SqT K H a xs := .inl (.inl h)
theorem Inv.list (I : Inv X pins σ H s) (h : SqL X.K H a xs) : ∃ its : List Value, Vals xs its ∧ PlainL s.heap a its.toArray ∧ xs.length ≤ sizeLine := by
  rcases h with h | ⟨o, its, n, hk, hc, hd, hs, hz, r⟩
  · obtain ⟨z, its, n, r, e⟩ := h.ok I.hok
    exact ⟨its, r, ⟨_, n, e, rfl, rfl, rfl⟩, z⟩
  · refine ⟨its.toList, r, ⟨o, n, I.kIn a o hk, hc, hd, by simpa using hs⟩, ?_⟩
    have e := r.length
    simp only [Array.length_toList] at e
    omega
theorem Inv.tuple (I : Inv X pins σ H s) (h : SqT X.K H a xs) : ∃ its : List Value, Vals xs its ∧ IsTup s.heap a its.toArray ∧ xs.length ≤ sizeLine := by
  rcases h with h | ⟨o, its, n, hk, hc, hs, hz, r⟩
  · obtain ⟨z, its, r, p⟩ := h.ok I.hok
    exact ⟨its, r, p, z⟩
  · refine ⟨its.toList, r, ⟨o, I.kIn a o hk, hc, n, by simpa using hs⟩, ?_⟩
    have e := r.length
    simp only [Array.length_toList] at e
    omega
theorem Inv.list_inj (I : Inv X pins σ H s) (h : SqL X.K H a xs) (h' : SqL X.K H a ys) : xs = ys := by
  obtain ⟨its, r, ⟨o, n, e, _, _, d⟩, _⟩ := I.list h
  obtain ⟨its', r', ⟨o', n', e', _, _, d'⟩, _⟩ := I.list h'
  rw [e] at e'; cases e'
  rw [d] at d'
  injection d' with d1 _
  have : its = its' := by simpa using congrArg Array.toList d1
  subst this
  exact r.inj r'
end
abbrev Cx.wish (X : Cx) (E : Value → Shared → Prop) : Cx := { X with xe := E }
abbrev Cx.nox (X : Cx) : Cx := X.wish fun _ _ => False
theorem Cx.Ok.wish {X : Cx} (ok : X.Ok) (E : Value → Shared → Prop) : (X.wish E).Ok :=
  ⟨ok.mod, ok.kind, ok.glob, ok.blt, ok.above, ok.inj, ok.has, ok.cab, ok.hd, ok.frames, ok.stk, ok.exf, ok.bs, ok.bsz, ok.noex, ok.exfs, ok.funs, ok.frf⟩
theorem Cx.Ok.unwish {X : Cx} {E : Value → Shared → Prop} (ok : (X.wish E).Ok) : X.Ok :=
  ⟨ok.mod, ok.kind, ok.glob, ok.blt, ok.above, ok.inj, ok.has, ok.cab, ok.hd, ok.frames, ok.stk, ok.exf, ok.bs, ok.bsz, ok.noex, ok.exfs, ok.funs, ok.frf⟩
section
variable {X : Cx} {pins : List (Addr × Obj)} {σ : St} {H : Hp} {s : Shared} {E : Value → Shared → Prop}
theorem Inv.wish (I : Inv X pins σ H s) (E : Value → Shared → Prop) : Inv (X.wish E) pins σ H s := ⟨I.ok.wish E, I.os, I.bare, I.base, I.loc, I.cell, I.free, I.freeC, I.pin, I.hok, I.len⟩
theorem Inv.unwish (I : Inv (X.wish E) pins σ H s) : Inv X pins σ H s := ⟨I.ok.unwish, I.os, I.bare, I.base, I.loc, I.cell, I.free, I.freeC, I.pin, I.hok, I.len⟩
theorem SP.unwish {D : Ends} {f : Flow} {s' : Shared} (h : SP (X.wish E) pins D f s') : SP X pins D f s' := by
  cases f with
  | next => obtain ⟨σ', H', I, q⟩ := h; exact ⟨σ', H', I.unwish, q⟩
  | brk => obtain ⟨σ', H', I, q⟩ := h; exact ⟨σ', H', I.unwish, q⟩
  | cont => obtain ⟨σ', H', I, q⟩ := h; exact ⟨σ', H', I.unwish, q⟩
  | ret u => obtain ⟨v, σ', H', I, r, q⟩ := h; exact ⟨v, σ', H', I.unwish, r, q⟩
theorem PE.nox {e : Expr} {t : TE} (h : PE X.nox e t) : PE X e t := fun pins s σ H Q I hw =>
  wpAny_mono (h pins s σ H Q (I.wish _) hw) (fun _ _ ⟨v, H', I', r, q⟩ => ⟨v, H', I'.unwish, r, q⟩) fun _ _ z => False.elim z
theorem PT.nox {e : Expr} {t : TT} (h : PT X.nox e t) : PT X e t := fun pins s σ H Q I hw =>
  wpAny_mono (h pins s σ H Q (I.wish _) hw) (fun _ _ ⟨H', I', q⟩ => ⟨H', I'.unwish, q⟩) fun _ _ z => False.elim z
theorem PSs.nox {st : List Stmt} {t : TS} (h : PSs X.nox st t) : PSs X st t := fun pins s σ H D I hw =>
  wpAny_mono (h pins s σ H D (I.wish _) hw) (fun _ _ q => q.unwish) fun _ _ z => False.elim z
end
section
variable {X : Cx} {st : Stmt} {rest : List Stmt} {t u : TS} {e : Expr} {te : TE} {pos : Pos}
def tNext : TS := fun D σ H => D.nx σ H
def tSeq (t u : TS) : TS := fun D σ H => t { D with nx := u D } σ H
theorem pss_nil : PSs X [] tNext := fun _ _ σ H _ I h => wpAny_execs_nil ⟨σ, H, I, h⟩
theorem pss_cons (h1 : PS X st t) (h2 : PSs X rest u) : PSs X (st :: rest) (tSeq t u) := by
  intro pins s σ H D I h
  refine wpAny_execs_cons (thn (h1 pins s σ H { D with nx := u D } I h) fun f s1 q => ?_)
  cases f with
  | next =>
    obtain ⟨σ', H', I', q⟩ := q
    exact h2 pins s1 σ' H' D I' q
  | ret v => exact q
  | brk => exact q
  | cont => exact q
theorem pss_one (h1 : PS X st t) : PSs X [st] t := by
  intro pins s σ H D I h
  refine wpAny_execs_cons (thn (h1 pins s σ H D I h) fun f s1 q => ?_)
  cases f with
  | next => exact wpAny_execs_nil q
  | ret v => exact q
  | brk => exact q
  | cont => exact q
def tRet (te : TE) : TS := fun D σ H => te σ H D.rt
theorem ps_ret (he : PE X e te) : PS X (.Return (some e) pos) (tRet te) := by
  intro pins s σ H D I h
  exact wpAny_Return_some (thn (he pins s σ H _ I h) fun v s1 ⟨x, H1, I1, r1, q1⟩ => ⟨x, σ, H1, I1, r1, q1⟩)
def tIfS (c : TT) (t u : TS) : TS := fun D σ H => c σ H fun b H1 => if b = true then t D σ H1 else u D σ H1
theorem ps_if {c : Expr} {a b : List Stmt} {tc : TT} (hc : PT X c tc) (ha : PSs X a t) (hb : PSs X b u) : PS X (.If c a b pos) (tIfS tc t u) := by
  intro pins s σ H D I h
  refine wpAny_If (thn (hc pins s σ H _ I h) fun d s1 ⟨H1, I1, q1⟩ => ?_)
  cases d with
  | true => exact ha pins s1 σ H1 D I1 q1
  | false => exact hb pins s1 σ H1 D I1 q1
end
abbrev TG := V → St → Hp → (St → Hp → Prop) → Prop
abbrev TGs := List V → St → Hp → (St → Hp → Prop) → Prop
def PG (X : Cx) (target : Expr) (t : TG) : Prop :=
  ∀ (pins : List (Addr × Obj)) (s : Shared) (σ : St) (H : Hp) (v : V) (u : Value) (Q : St → Hp → Prop), Inv X pins σ H s → RelV v u → t v σ H Q →
    wpAny (model X.prog X.w) X.A (assign target X.env u) (fun _ s' => ∃ σ' H', Inv X pins σ' H' s' ∧ Q σ' H') X.xe s
def PGs (X : Cx) (ts : List Expr) (t : TGs) : Prop :=
  ∀ (pins : List (Addr × Obj)) (s : Shared) (σ : St) (H : Hp) (vs : List V) (us : List Value) (Q : St → Hp → Prop), Inv X pins σ H s → Vals vs us → t vs σ H Q →
    wpAny (model X.prog X.w) X.A (assignInOrder ((assignEach ts X.env).map (·.2)) us) (fun _ s' => ∃ σ' H', Inv X pins σ' H' s' ∧ Q σ' H') X.xe s
section
variable {X : Cx} {pos : Pos}
def gName (i : Nat) : TG := fun v σ H Q => Q (σ.set i (some v)) H
theorem pg_name {i : Nat} {x : Str} (hN : X.N.Nodup) (hi : X.N[i]? = some x) (hx : Loc X.env.scope x) (hf : X.fn x = true ∨ X.env.scope.names.lookup x = some .local := by first | exact .inl rfl | exact .inr rfl | assumption) : PG X (.Name x pos) (gName i) := by
  intro pins s σ H v u Q I r h
  exact wpAny_assign_Name (store_ok I hN hi hx r (fun s' I' => ⟨_, H, I', h⟩) hf)
def gNil : TGs := fun vs σ H Q => vs = [] ∧ Q σ H
def gCons (t : TG) (u : TGs) : TGs := fun vs σ H Q => ∃ v r, vs = v :: r ∧ t v σ H fun σ' H' => u r σ' H' Q
theorem pgs_nil : PGs X [] gNil := by
  intro pins s σ H vs us Q I r h
  obtain ⟨e, h⟩ := h
  subst e
  cases r
  exact assignInOrder_nil ⟨σ, H, I, h⟩
theorem pgs_cons {e : Expr} {es : List Expr} {t : TG} {u : TGs} (h1 : PG X e t) (h2 : PGs X es u)
    (hs : (assignEach (e :: es) X.env).map (·.2) = assign e X.env :: (assignEach es X.env).map (·.2) := by rfl) : PGs X (e :: es) (gCons t u) := by
  intro pins s σ H vs us Q I r h
  obtain ⟨v, vr, e1, h⟩ := h
  subst e1
  cases r with
  | cons r rr =>
    rw [hs]
    refine assignInOrder_cons (thn (h1 pins s σ H _ _ _ I r h) fun _ s1 ⟨σ1, H1, I1, q1⟩ => ?_)
    exact h2 pins s1 σ1 H1 _ _ Q I1 rr q1
def gTup (K : PySem.W.Frag) (n : Nat) (t : TGs) : TG := fun v σ H Q => ∃ a xs, v = .ref a ∧ SqT K H a xs ∧ xs.length = n ∧ t xs σ H Q
theorem pg_tup {es : List Expr} {k : Nat} {t : TGs} {n : Nat} (hc : X.calm = true) (h : PGs X es t)
    (hn : (assignEach es X.env).length = n := by rfl) (hst : (assignEach es X.env).findIdx? (·.1) = none := by rfl) : PG X (.Tuple es k pos) (gTup X.K n t) := by
  intro pins s σ H v u Q I r hw
  obtain ⟨a, xs, e1, hq, hl, hw⟩ := hw
  subst e1
  cases r
  obtain ⟨its, rv, ht, hz⟩ := I.tuple hq
  refine assign_Tuple_tuple (I.ok.hd hc) ht (by simp [hn, ← hl, rv.length]) hst fun h' hx => ?_
  have I1 : Inv X pins σ H { s with heap := h' } := I.kept (t' := s.toks) fun b o e => hx b o (Nat.ne_of_lt (Heap.lt_size e)) e
  exact h pins _ σ H xs _ Q I1 (by simpa using rv) hw
def tAsg (te : TE) (g : TG) : TS := fun D σ H => te σ H fun x H1 => g x σ H1 D.nx
theorem ps_asg {tg e : Expr} {te : TE} {g : TG} (he : PE X e te) (hg : PG X tg g) (hs : swapsWithSole [tg] e pos.line X.env = pure false := by rfl) (hw : swappedStores [tg] e X.env = pure none := by rfl)
    (h1 : (assignEach [tg] X.env).map (·.2) = [assign tg X.env] := by rfl) : PS X (.Assign [tg] e pos) (tAsg te g) := by
  intro pins s σ H D I h
  refine wpAny_Assign_stores (thn (he pins s σ H _ I h) fun v s1 ⟨x, H1, I1, r1, q1⟩ => ?_) hs hw
  rw [h1]
  exact thn (hg pins s1 σ H1 x v _ I1 r1 q1) fun _ s2 q => q
theorem ps_set {i : Nat} {x : Str} {e : Expr} {te : TE} {pos' : Pos} (hN : X.N.Nodup) (hi : X.N[i]? = some x) (hx : Loc X.env.scope x) (he : PE X e te) (hs : swapsWith e (some (.Name x pos')) pos.line X.env = pure false := by rfl) (hf : X.fn x = true ∨ X.env.scope.names.lookup x = some .local := by first | exact .inl rfl | exact .inr rfl | assumption) :
    PS X (.Assign [.Name x pos'] e pos) (tAsg te (gName i)) := by
  intro pins s σ H D I h
  refine wpAny_Assign_Name (thn (he pins s σ H _ I h) fun v s1 ⟨y, H1, I1, r1, q1⟩ => ?_) hs
  exact store_ok I1 hN hi hx r1 (fun s2 I2 => ⟨_, H1, I2, q1⟩) hf
def tPar (i j : Nat) (ta : TA) : TS := fun D σ H => ta σ H fun vs H1 => ∃ v w, vs = [v, w] ∧ D.nx ((σ.set i (some v)).set j (some w)) H1
theorem ps_par {i j : Nat} {x y : Str} {a b : Expr} {ta : TA} {px py pt : Pos} {kt k2 pt2} (hc : X.calm = true) (hN : X.N.Nodup) (hi : X.N[i]? = some x) (hj : X.N[j]? = some y) (hij : i ≠ j)
    (hx : X.env.scope.names.lookup x = some .local) (hy : X.env.scope.names.lookup y = some .local) (ha : PA X [a, b] ta)
    (hw : swappedStores [.Tuple [.Name x px, .Name y py] kt pt] (.Tuple [a, b] k2 pt2) X.env = pure (some [x, y]))
    (hs : swapsWithSole [.Tuple [.Name x px, .Name y py] kt pt] (.Tuple [a, b] k2 pt2) pos.line X.env = pure false := by rfl) :
    PS X (.Assign [.Tuple [.Name x px, .Name y py] kt pt] (.Tuple [a, b] k2 pt2) pos) (tPar i j ta) := by
  intro pins s σ H D I h
  rw [exec_Assign_arm]
  refine wpAny_bind (wpAny_standAt ?_)
  rw [hs]
  refine wpAny_bind (wpAny_pure ?_)
  rw [if_neg (by decide)]
  refine wpAny_bind (Tuple_ (thn (ha _ pins s σ H _ I h) fun us s1 ⟨vs, H1, I1, r1, q1⟩ => ?_))
  obtain ⟨v, w, e1, q1⟩ := q1
  subst e1
  obtain ⟨u1, u2, rfl, rv, rw'⟩ : ∃ u1 u2, us = [u1, u2] ∧ RelV v u1 ∧ RelV w u2 := by
    cases r1 with
    | cons p q =>
      cases q with
      | cons p' q' =>
        cases q'
        exact ⟨_, _, rfl, p, p'⟩
  refine wpAny_newObj_type ?_ (by show 2 ≤ sizeLine; decide)
  have I2 : Inv X pins σ H1 { s1 with heap := s1.heap.push { cls := .type "tuple", data := .seq [u1, u2].toArray } } := I1.kept (t' := s1.toks) fun b o e => Heap.get?_push_of_some _ e
  rw [hw]
  refine wpAny_bind (wpAny_pure ?_)
  show wpAny (model X.prog X.w) X.A (do rule "assign.swapped-stores"; let items ← unpackItems (.ref s1.heap.objs.size) 2 none; assignInOrder [fun v => bindName X.env y v, fun v => bindName X.env x v] items.reverse; pure Flow.next) _ _ _
  refine wpAny_bind (wpAny_rule (wpAny_bind (unpackItems_tuple (items := #[u1, u2]) (I.ok.hd hc) (IsTup.new s1.heap _) fun h' hx' => ?_)))
  have I3 := I2.kept (h' := h') (t' := s1.toks) fun b o e => hx' b o (Nat.ne_of_lt (Heap.lt_size e)) e
  show wpAny _ _ (assignInOrder [fun v => bindName X.env y v, fun v => bindName X.env x v] [u2, u1] >>= fun _ => pure Flow.next) _ _ _
  refine wpAny_bind (assignInOrder_cons (wpAny_bindName (store_ok I3 hN hj (.inl hy) rw' (fun s2 I4 => ?_) (.inr hy))))
  refine assignInOrder_cons (wpAny_bindName (store_ok I4 hN hi (.inl hx) rv (fun s3 I5 => assignInOrder_nil (wpAny_pure ?_)) (.inr hx)))
  rw [List.set_comm _ _ (Ne.symm hij)] at I5
  exact ⟨_, H1, I5, q1⟩
end
section
variable {X : Cx} {pos : Pos}
def tWhile (c : TT) (tb : TS) : TS := fun D σ H => ∃ W : Nat → St → Hp → Prop, (∃ m, W m σ H) ∧ ∀ m σ H, W m σ H →
  c σ H fun b H1 => if b = true then ∃ N : St → Hp → Prop, (∀ σ' H', N σ' H' → ∃ m', m' < m ∧ W m' σ' H') ∧ tb { D with nx := N, ct := N, bk := D.nx } σ H1 else D.nx σ H1
theorem ps_while {c : Expr} {body : List Stmt} {tc : TT} {tb : TS} (hp : PassesOwn (model X.prog X.w) X.A X.env X.xe) (hc : PT X c tc) (hb : PSs X body tb) : PS X (.While c body [] pos) (tWhile tc tb) := by
  intro pins s σ H D I h
  obtain ⟨W, ⟨m0, w0⟩, turn⟩ := h
  refine wpAny_While (codeAny_whileLoop (fun n s' => ∃ σ' H', Inv X pins σ' H' s' ∧ W n σ' H') ?_ m0 ⟨σ, H, I, w0⟩)
  rintro n s1 ⟨σ1, H1, I1, w1⟩
  refine wpAny_passesOwn hp (thn (hc pins s1 σ1 H1 _ I1 (turn n σ1 H1 w1)) fun b s2 ⟨H2, I2, q2⟩ => ?_)
  cases b with
  | true =>
    obtain ⟨N, hN, q2⟩ := q2
    rw [if_pos rfl]
    refine wpAny_passesOwn hp (thn (hb pins s2 σ1 H2 _ I2 q2) fun f s3 q3 => ?_)
    cases f with
    | next =>
      obtain ⟨σ3, H3, I3, n3⟩ := q3
      obtain ⟨m', hm, w3⟩ := hN σ3 H3 n3
      exact ⟨m', hm, σ3, H3, I3, w3⟩
    | cont =>
      obtain ⟨σ3, H3, I3, n3⟩ := q3
      obtain ⟨m', hm, w3⟩ := hN σ3 H3 n3
      exact ⟨m', hm, σ3, H3, I3, w3⟩
    | brk => exact q3
    | ret v => exact q3
  | false =>
    rw [if_neg Bool.false_ne_true]
    exact wpAny_execs_nil ⟨σ1, H2, I2, q2⟩
end
structure It where
  go : Nat → Hp → Prop
  yld : Nat → Hp → V → Hp → Prop
  stop : Nat → Hp → Prop
def FpOk (X : Cx) (pins : List (Addr × Obj)) (H : Hp) (b : Addr) : Prop :=
  H b = none ∧ b ≠ X.env.locals ∧ b ∉ X.fs ∧ (b ∈ X.ex ∨ X.s₀.heap.objs.size ≤ b) ∧ (∀ x c, X.env.cells.lookup x = some c → c ≠ b) ∧ ∀ p ∈ X.pn ++ pins, p.1 ≠ b
theorem Inv.fpOk {X : Cx} {pins : List (Addr × Obj)} {σ : St} {H H' : Hp} {s : Shared} {b : Addr} (I : Inv X pins σ H s) (hb : s.heap.objs.size ≤ b) (hn : H' b = none) : FpOk X pins H' b := by
  refine ⟨hn, Nat.ne_of_gt (Nat.lt_of_lt_of_le I.lt hb), I.nofs hb, .inr (Nat.le_trans I.sz hb), fun x c e z => ?_, fun p hp z => ?_⟩
  · obtain ⟨v, q⟩ := I.cell x c e
    exact absurd (Nat.lt_of_lt_of_le q.lt (by rw [z]; exact hb)) (Nat.lt_irrefl _)
  · exact absurd (Nat.lt_of_lt_of_le (Heap.lt_size (I.pin p hp).1) (by rw [z]; exact hb)) (Nat.lt_irrefl _)
structure Turn (P : Program) (w : World) (K : PySem.W.Frag) (tg : Expr) (J : It) (fp : List Addr) (it : Addr) (tn : Nat → Heap → Prop) : Prop where
  mem : it ∈ fp
  obj : ∀ i h, tn i h → ∀ b ∈ fp, ∃ o, h.get? b = some o ∧ ∀ v, o.data ≠ .cell v
  keep : ∀ i h h', tn i h → (∀ b ∈ fp, ∀ o, h.get? b = some o → h'.get? b = some o) → tn i h'
  item : ∀ (X : Cx), X.prog = P → X.w = w → X.K = K → X.calm = true → ∀ (i : Nat) (pins : List (Addr × Obj)) (s : Shared) (σ : St) (H : Hp) (E : Value → Shared → Prop), Inv X pins σ H s → (∀ b ∈ fp, FpOk X pins H b) → tn i s.heap → J.go i H →
    wpAny (model P w) X.A (pyNext (.ref it)) (fun r s1 => ∃ u, r = some u ∧
      wpAny (model P w) X.A (letOwnedTupleGo tg (.ref it) u) (fun _ s2 => ∃ x H', Inv X pins σ H' s2 ∧ RelV x u ∧ J.yld i H x H' ∧ tn (i + 1) s2.heap ∧ ∀ b ∈ fp, H' b = none) E s1) E s
  done : ∀ (X : Cx), X.prog = P → X.w = w → X.K = K → X.calm = true → ∀ (i : Nat) (pins : List (Addr × Obj)) (s : Shared) (σ : St) (H : Hp) (E : Value → Shared → Prop), Inv X pins σ H s → (∀ b ∈ fp, FpOk X pins H b) → tn i s.heap → J.stop i H →
    wpAny (model P w) X.A (pyNext (.ref it)) (fun r s1 => r = none ∧ Inv X pins σ H s1) E s
  self : ∀ (A : Around) (i : Nat) (s : Shared) (Q : Value → Shared → Prop) (E : Value → Shared → Prop), tn i s.heap → Q (.ref it) s → wpAny (model P w) A (pyIter (.ref it)) Q E s
abbrev TI := St → Hp → (It → Hp → Prop) → Prop
def PIE (X : Cx) (pins : List (Addr × Obj)) (σ : St) (tg : Expr) (R : It → Hp → Prop) (itv : Value) (s2 : Shared) : Prop :=
  ∃ (it : Addr) (fp : List Addr) (tn : Nat → Heap → Prop) (J : It) (H' : Hp), itv = .ref it ∧ Inv X pins σ H' s2 ∧ Turn X.prog X.w X.K tg J fp it tn ∧ tn 0 s2.heap ∧ (∀ b ∈ fp, FpOk X pins H' b) ∧ R J H'
def PI (X : Cx) (tg iter : Expr) (wi : TI) : Prop :=
  ∀ (pins : List (Addr × Obj)) (s : Shared) (σ : St) (H : Hp) (R : It → Hp → Prop), Inv X pins σ H s → wi σ H R →
    wpAny (model X.prog X.w) X.A (eval iter X.env) (fun v s1 => wpAny (model X.prog X.w) X.A (pyIter v) (PIE X pins σ tg R) X.xe s1) X.xe s
theorem go_of {M : Model} {A : Around} {E : Value → Shared → Prop} {s : Shared} {tg : Expr} {it : Addr} {u : Value} {o : Obj} {n : String} {vs : Array Value} {Q : Unit → Shared → Prop} (ho : s.heap.get? it = some o) (hc : o.cls = .type n) (hd : o.data = .fields vs)
    (hn : ["enumerate", "zip", "dict_itemiterator", "dict_reverseitemiterator", "odict_iterator", "itertools.zip_longest", "itertools.pairwise"].contains n = false) (hQ : Q () s) : wpAny M A (letOwnedTupleGo tg (.ref it) u) Q E s := by
  unfold letOwnedTupleGo
  cases tg <;> first
    | exact wpAny_pure hQ
    | (cases u <;> first
        | exact wpAny_pure hQ
        | (refine wpAny_bind (wpAny_load ho ?_)
           rw [hc, hd]
           show wpAny M A (if (["enumerate", "zip", "dict_itemiterator", "dict_reverseitemiterator", "odict_iterator", "itertools.zip_longest", "itertools.pairwise"].contains n && vs[0]? == some (rawInt _)) = true then _ else _) Q E s
           rw [if_neg (by intro h; rw [hn, Bool.false_and] at h; cases h)]
           exact wpAny_pure hQ))
def Itl (K : PySem.W.Frag) (a : Addr) : It :=
  ⟨fun i H => ∃ xs x, SqL K H a xs ∧ xs[i]? = some x, fun i H x H' => H' = H ∧ ∀ xs, SqL K H a xs → xs[i]? = some x, fun i H => ∃ xs, SqL K H a xs ∧ xs.length ≤ i⟩
theorem turn_list {P : Program} {w : World} {K : PySem.W.Frag} {tg : Expr} (a it : Addr) : Turn P w K tg (Itl K a) [it] it (fun i h => h.IsListIter it a i) where
  mem := by simp
  obj := fun i h st b hb => by
    have e : b = it := by simpa using hb
    subst e
    obtain ⟨o, e, c, d⟩ := st
    exact ⟨o, e, fun v z => by rw [d] at z; cases z⟩
  keep := fun i h h' st k => st.at fun o e => k it (by simp) o e
  item := by
    intro X hP hw hK hc i pins s σ H E I hf st hg
    subst hP hw hK
    obtain ⟨xs, x, hq, hx⟩ := hg
    obtain ⟨its, rv, p, hz⟩ := I.list hq
    obtain ⟨u, hu, ru⟩ := rv.get hx
    obtain ⟨f0, f1, f2, f3, f4, f5⟩ := hf it (by simp)
    refine wpAny_pyNext_list_item st p.isList (x := u) (by simpa using hu) fun h' st' sb => ?_
    have I1 : Inv X pins σ H { s with heap := h' } := I.turned (t' := s.toks) (fun b o hb e => (sb.2 b hb).trans e) f0 f1 f3 f4 f5
    obtain ⟨o, e, c, d⟩ := id st'
    exact ⟨u, rfl, go_of (s := { s with heap := h' }) e c d (by decide) ⟨x, H, I1, ru, ⟨rfl, fun ys hy => by rw [I.list_inj hy hq]; exact hx⟩, st', fun b hb => (hf b hb).1⟩⟩
  done := by
    intro X hP hw hK hc i pins s σ H E I hf st hg
    subst hP hw hK
    obtain ⟨xs, hq, hx⟩ := hg
    obtain ⟨its, rv, p, hz⟩ := I.list hq
    obtain ⟨f0, f1, f2, f3, f4, f5⟩ := hf it (by simp)
    have hl := rv.length
    exact wpAny_pyNext_list_end (I.ok.hd hc) st p.isList (by simp; omega) fun h' eb => ⟨rfl, I.turned (t' := s.toks) (fun b o hb e => eb b o hb e) f0 f1 f3 f4 f5⟩
  self := fun _ _ _ _ _ st h => wpAny_pyIter_listiter st h
end L2
namespace L2
open PySem PySem.Spec PyProof.Rows
section
variable {X : Cx} {tg : Expr}
def iList (K : PySem.W.Frag) (tl : TE) : TI := fun σ H R => tl σ H fun x H1 => ∃ a, x = .ref a ∧ (∃ xs, SqL K H1 a xs) ∧ R (Itl K a) H1
theorem pi_list {l : Expr} {tl : TE} (hl : PE X l tl) : PI X tg l (iList X.K tl) := by
  intro pins s σ H R I h
  refine thn (hl pins s σ H _ I h) fun v s1 ⟨x, H1, I1, r1, q1⟩ => ?_
  obtain ⟨a, e, ⟨xs, hq⟩, q⟩ := q1
  subst e
  cases r1
  obtain ⟨its, rv, p, hz⟩ := I1.list hq
  refine wpAny_pyIter_list p.isList ?_
  refine ⟨s1.heap.objs.size, [s1.heap.objs.size], _, _, H1, rfl, I1.kept (t' := s1.toks) fun b o e => Heap.get?_push_of_some _ e, turn_list a _, ⟨_, Heap.get?_push_size _ rfl, rfl, rfl⟩, fun b hb => ?_, q⟩
  have e : b = s1.heap.objs.size := by simpa using hb
  subst e
  exact I1.fpOk (Nat.le_refl _) (I1.hok.fresh (Nat.le_refl _))
def tFor (wi : TI) (g : TG) (tb : TS) : TS := fun D σ H => wi σ H fun J H1 => ∃ W : Nat → Nat → St → Hp → Prop, (∃ m, W 0 m σ H1) ∧ ∀ i m σ H, W i m σ H →
  (J.stop i H ∧ D.nx σ H) ∨ (J.go i H ∧ ∃ N : St → Hp → Prop, (∀ σ' H', N σ' H' → ∃ m', m' < m ∧ W (i + 1) m' σ' H') ∧ ∀ x H', J.yld i H x H' → g x σ H' fun σ2 H2 => tb { D with nx := N, ct := N, bk := D.nx } σ2 H2)
def pinsAt (fp : List Addr) (h : Heap) : List (Addr × Obj) := fp.filterMap fun b => (h.get? b).map fun o => (b, o)
theorem mem_pinsAt {fp : List Addr} {h : Heap} {b : Addr} {o : Obj} (hb : b ∈ fp) (e : h.get? b = some o) : (b, o) ∈ pinsAt fp h := List.mem_filterMap.mpr ⟨b, hb, by rw [e]; rfl⟩
theorem of_pinsAt {fp : List Addr} {h : Heap} {p : Addr × Obj} (hp : p ∈ pinsAt fp h) : p.1 ∈ fp ∧ h.get? p.1 = some p.2 := by
  obtain ⟨b, hb, e⟩ := List.mem_filterMap.mp hp
  cases q : h.get? b with
  | none => rw [q] at e; cases e
  | some o =>
    rw [q] at e
    have e' : (b, o) = p := Option.some.inj e
    subst e'
    exact ⟨hb, q⟩
theorem Inv.pinned {pins : List (Addr × Obj)} {σ : St} {H : Hp} {s : Shared} {fp : List Addr} (I : Inv X pins σ H s) (hf : ∀ b ∈ fp, FpOk X pins H b) (ho : ∀ b ∈ fp, ∃ o, s.heap.get? b = some o ∧ ∀ v, o.data ≠ .cell v) : Inv X (pins ++ pinsAt fp s.heap) σ H s :=
  I.pins_of fun p hp => (List.mem_append.mp hp).elim (fun z => I.pin p (List.mem_append_right _ z)) fun z => by
    obtain ⟨hb, e⟩ := of_pinsAt z
    obtain ⟨f0, f1, f2, _⟩ := hf p.1 hb
    obtain ⟨o, e', d⟩ := ho p.1 hb
    rw [e] at e'; cases e'
    exact ⟨e, f0, f1, f2, d⟩
theorem Inv.unpinned {pins pl : List (Addr × Obj)} {σ : St} {H : Hp} {s : Shared} (I : Inv X (pins ++ pl) σ H s) : Inv X pins σ H s := I.pins_of fun p hp => I.pin p (List.mem_append_right _ (List.mem_append_left _ hp))
theorem ps_for {iter : Expr} {body : List Stmt} {wi : TI} {g : TG} {tb : TS} {pos : Pos} (hp : PassesOwn (model X.prog X.w) X.A X.env X.xe) (hc : X.calm = true) (hi : PI X tg iter wi) (hg : PG X tg g) (hb : PSs X body tb)
    (hs : ∀ x, foldedSetIterable iter X.env x = pure x := by intro _; rfl) : PS X (.For tg iter body [] pos) (tFor wi g tb) := by
  intro pins s σ H D I h
  refine wpAny_For (thn (hi pins s σ H _ I h) fun v s1 h1 => thn h1 fun itv s2 h2 => ?_) hs
  obtain ⟨it, fp, tn, J, H2, e, I2, T, st2, f2, W, ⟨m0, w0⟩, turn⟩ := h2
  subst e
  have stat : ∀ {H' : Hp}, (∀ b ∈ fp, H' b = none) → ∀ b ∈ fp, FpOk X pins H' b := fun hn b hb => ⟨hn b hb, (f2 b hb).2⟩
  refine codeAny_forLoop_any (fun n s' => ∃ i σ' H', Inv X pins σ' H' s' ∧ tn i s'.heap ∧ (∀ b ∈ fp, H' b = none) ∧ W i n σ' H') ?_ m0 ⟨0, σ, H2, I2, st2, fun b hb => (f2 b hb).1, w0⟩
  rintro n s3 ⟨i, σ3, H3, I3, st3, fr3, w3⟩
  rcases turn i n σ3 H3 w3 with ⟨stop, qn⟩ | ⟨go, N, hN, step⟩
  · refine wpAny_passesOwn hp (thn (T.done X rfl rfl rfl hc i pins s3 σ3 H3 X.xe I3 (stat fr3) st3 stop) fun r s4 ⟨hr, I4⟩ => ?_)
    subst hr
    exact wpAny_execs_nil ⟨σ3, H3, I4, qn⟩
  · refine wpAny_passesOwn hp (thn (T.item X rfl rfl rfl hc i pins s3 σ3 H3 X.xe I3 (stat fr3) st3 go) fun r s4 ⟨u, hr, h4⟩ => ?_)
    subst hr
    refine wpAny_passesOwn hp (thn h4 fun _ s5 ⟨x, H5, I5, r5, y5, st5, fr5⟩ => ?_)
    have I5' := I5.pinned (stat fr5) (T.obj _ _ st5)
    refine wpAny_passesOwn hp (thn (hg _ s5 σ3 H5 x u _ I5' r5 (step x H5 y5)) fun _ s6 ⟨σ6, H6, I6, q6⟩ => ?_)
    refine wpAny_passesOwn hp (thn (hb _ s6 σ6 H6 _ I6 q6) fun f s7 q7 => ?_)
    have again : ∀ {σ7 : St} {H7 : Hp}, Inv X (pins ++ pinsAt fp s5.heap) σ7 H7 s7 → N σ7 H7 → ∃ m, m < n ∧ ∃ i σ' H', Inv X pins σ' H' s7 ∧ tn i s7.heap ∧ (∀ b ∈ fp, H' b = none) ∧ W i m σ' H' := fun {σ7 H7} I7 n7 => by
      obtain ⟨m', hm, w7⟩ := hN σ7 H7 n7
      refine ⟨m', hm, i + 1, σ7, H7, I7.unpinned, T.keep _ _ _ st5 fun b hb o e => (I7.pin (b, o) (List.mem_append_right _ (List.mem_append_right _ (mem_pinsAt hb e)))).1, fun b hb => ?_, w7⟩
      obtain ⟨o, e, d⟩ := T.obj _ _ st5 b hb
      exact (I7.pin (b, o) (List.mem_append_right _ (List.mem_append_right _ (mem_pinsAt hb e)))).2.1
    cases f with
    | next => obtain ⟨σ7, H7, I7, n7⟩ := q7; exact again I7 n7
    | cont => obtain ⟨σ7, H7, I7, n7⟩ := q7; exact again I7 n7
    | brk => obtain ⟨σ7, H7, I7, q7⟩ := q7; exact ⟨σ7, H7, I7.unpinned, q7⟩
    | ret v => obtain ⟨x7, σ7, H7, I7, r7, q7⟩ := q7; exact ⟨x7, σ7, H7, I7.unpinned, r7, q7⟩
end
end L2
namespace L2
open PySem PySem.Spec PyProof.Rows
abbrev R2 := V → V → Hp → VK → Prop
def OpR (X : Cx) (f : Value → Value → Sem Value) (r : R2) : Prop :=
  ∀ (pins : List (Addr × Obj)) (s : Shared) (σ : St) (H : Hp) (x y : V) (v u : Value) (Q : VK), Inv X pins σ H s → RelV x v → RelV y u → r x y H Q →
    wpAny (model X.prog X.w) X.A (f v u) (EP X pins σ Q) X.xe s
def UnR (X : Cx) (f : Value → Sem Value) (r : V → Hp → VK → Prop) : Prop :=
  ∀ (pins : List (Addr × Obj)) (s : Shared) (σ : St) (H : Hp) (x : V) (v : Value) (Q : VK), Inv X pins σ H s → RelV x v → r x H Q →
    wpAny (model X.prog X.w) X.A (f v) (EP X pins σ Q) X.xe s
def CallR (X : Cx) (f : Value) (r : List V → Hp → VK → Prop) : Prop :=
  ∀ (pins : List (Addr × Obj)) (s : Shared) (σ : St) (H : Hp) (xs : List V) (us : List Value) (Q : VK), Inv X pins σ H s → Vals xs us → r xs H Q →
    wpAny (model X.prog X.w) X.A (call f us) (EP X pins σ Q) X.xe s
def tOp (r : R2) (ta tb : TE) : TE := fun σ H Q => ta σ H fun x H1 => tb σ H1 fun y H2 => r x y H2 Q
def tUn (r : V → Hp → VK → Prop) (ta : TE) : TE := fun σ H Q => ta σ H fun x H1 => r x H1 Q
def rI (C : Int → Int → Prop) (g : Int → Int → V) : R2 := fun x y H Q => ∃ i j, x = .int i ∧ y = .int j ∧ C i j ∧ Q (g i j) H
def rI0 (g : Int → Int → V) : R2 := fun x y H Q => ∃ i j, x = .int i ∧ y = .int j ∧ Q (g i j) H
def rU (g : Int → V) : V → Hp → VK → Prop := fun x H Q => ∃ i, x = .int i ∧ Q (g i) H
section
variable {X : Cx} {a b c : Expr} {ta tb tc : TE} {pos : Pos}
theorem binT (ha : PE X a ta) (hb : PE X b tb) {pins : List (Addr × Obj)} {s : Shared} {σ : St} {H : Hp} {R : V → V → Hp → Prop} (I : Inv X pins σ H s)
    (h : ta σ H fun x H1 => tb σ H1 fun y H2 => R x y H2) {Q : Value → Shared → Prop} {f : Value → Value → Sem Value}
    (hf : ∀ v u s2 x y H2, Inv X pins σ H2 s2 → RelV x v → RelV y u → R x y H2 → wpAny (model X.prog X.w) X.A (f v u) Q X.xe s2) :
    wpAny (model X.prog X.w) X.A (eval a X.env) (fun v s₁ => wpAny (model X.prog X.w) X.A (eval b X.env) (fun u s₂ => wpAny (model X.prog X.w) X.A (f v u) Q X.xe s₂) X.xe s₁) X.xe s := by
  refine thn (ha pins s σ H _ I h) fun v s1 ⟨x, H1, I1, r1, q1⟩ => ?_
  refine thn (hb pins s1 σ H1 _ I1 q1) fun u s2 ⟨y, H2, I2, r2, q2⟩ => ?_
  exact hf v u s2 x y H2 I2 r1 r2 q2
theorem pe_op {op : Operator} {r : R2} (ho : OpR X (binaryOp op) r) (ha : PE X a ta) (hb : PE X b tb) : PE X (.BinOp a op b pos) (tOp r ta tb) := by
  intro pins s σ H Q I h
  exact wpAny_BinOp (binT ha hb I h fun v u s2 x y H2 I2 rx ry q => ho pins s2 σ H2 x y v u Q I2 rx ry q)
theorem pe_un {op : UnaryOp} {r : V → Hp → VK → Prop} (ho : UnR X (unaryOp op) r) (ha : PE X a ta) : PE X (.UnaryOp op a pos) (tUn r ta) := by
  intro pins s σ H Q I h
  exact UnaryOp_ (thn (ha pins s σ H _ I h) fun v s1 ⟨x, H1, I1, r1, q1⟩ => ho pins s1 σ H1 x v Q I1 r1 q1)
theorem opI {f : Value → Value → Sem Value} {C : Int → Int → Prop} {g : Int → Int → Int}
    (rule : ∀ (i j : Int) (t u : Tok) (s : Shared) (Q : Value → Shared → Prop) (E : Value → Shared → Prop), C i j → Q (.int (g i j) s.toks) { s with toks := s.toks + 1 } → wpAny (model X.prog X.w) X.A (f (.int i t) (.int j u)) Q E s) :
    OpR X f (rI C fun i j => .int (g i j)) := by
  intro pins s σ H x y v u Q I rx ry h
  obtain ⟨i, j, rfl, rfl, hc, q⟩ := h
  obtain ⟨t, rfl⟩ := rx
  obtain ⟨t', rfl⟩ := ry
  exact rule i j t t' s _ _ hc ⟨.int (g i j), H, I.tok _, ⟨_, rfl⟩, q⟩
theorem opI0 {f : Value → Value → Sem Value} {g : Int → Int → Int}
    (rule : ∀ (i j : Int) (t u : Tok) (s : Shared) (Q : Value → Shared → Prop) (E : Value → Shared → Prop), Q (.int (g i j) s.toks) { s with toks := s.toks + 1 } → wpAny (model X.prog X.w) X.A (f (.int i t) (.int j u)) Q E s) :
    OpR X f (rI0 fun i j => .int (g i j)) := by
  intro pins s σ H x y v u Q I rx ry h
  obtain ⟨i, j, rfl, rfl, q⟩ := h
  obtain ⟨t, rfl⟩ := rx
  obtain ⟨t', rfl⟩ := ry
  exact rule i j t t' s _ _ ⟨.int (g i j), H, I.tok _, ⟨_, rfl⟩, q⟩
theorem opB0 {f : Value → Value → Sem Value} {g : Int → Int → Bool}
    (rule : ∀ (i j : Int) (t u : Tok) (s : Shared) (Q : Value → Shared → Prop) (E : Value → Shared → Prop), Q (.bool (g i j)) s → wpAny (model X.prog X.w) X.A (f (.int i t) (.int j u)) Q E s) :
    OpR X f (rI0 fun i j => .bl (g i j)) := by
  intro pins s σ H x y v u Q I rx ry h
  obtain ⟨i, j, rfl, rfl, q⟩ := h
  obtain ⟨t, rfl⟩ := rx
  obtain ⟨t', rfl⟩ := ry
  exact rule i j t t' s _ _ ⟨.bl (g i j), H, I, rfl, q⟩
def CPow (i j : Int) : Prop := 0 ≤ j ∧ j ≤ 1000000 ∧ i.natAbs < 2 ^ 64
def CMul (i j : Int) : Prop := (-(2 ^ 64) < i ∧ i < 2 ^ 64) ∨ (-(2 ^ 64) < j ∧ j < 2 ^ 64)
theorem CMul.ok {i j : Int} (h : CMul i j) : IntMulOk i j := by
  rcases h with ⟨h1, h2⟩ | ⟨h1, h2⟩
  · exact .of_left (intBits_le_64 h1 h2)
  · exact .of_right (intBits_le_64 h1 h2)
theorem op_add : OpR X (binaryOp .Add) (rI0 fun i j => .int (i + j)) := opI0 fun _ _ _ _ _ _ _ q => add_int q
theorem op_sub : OpR X (binaryOp .Sub) (rI0 fun i j => .int (i - j)) := opI0 fun _ _ _ _ _ _ _ q => sub_int q
theorem op_mod : OpR X (binaryOp .Mod) (rI (fun _ j => 0 < j) fun i j => .int (i % j)) := opI fun i j _ _ _ _ _ hc q => by
  have h1 : (0 : Int) < j := hc
  exact mod_int' (by omega) (by rw [Int.fmod_eq_emod_of_nonneg i (by omega)]; exact q)
theorem op_pow : OpR X (binaryOp .Pow) (rI CPow fun i j => .int (i ^ j.toNat)) := opI fun _ _ _ _ _ _ _ hc q => pow_int_small hc.1 hc.2.1 hc.2.2 q
theorem unI {f : Value → Sem Value} {g : Int → Int}
    (rule : ∀ (i : Int) (t : Tok) (s : Shared) (Q : Value → Shared → Prop) (E : Value → Shared → Prop), Q (.int (g i) s.toks) { s with toks := s.toks + 1 } → wpAny (model X.prog X.w) X.A (f (.int i t)) Q E s) :
    UnR X f (rU fun i => .int (g i)) := by
  intro pins s σ H x v Q I rx h
  obtain ⟨i, rfl, q⟩ := h
  obtain ⟨t, rfl⟩ := rx
  exact rule i t s _ _ ⟨.int (g i), H, I.tok _, ⟨_, rfl⟩, q⟩
theorem un_neg : UnR X (unaryOp .USub) (rU fun i => .int (-i)) := unI fun _ _ _ _ _ q => neg_int q
end
section
variable {X : Cx} {a b c : Expr} {ta tb tc : TE} {pos : Pos}
theorem op_lt : OpR X (compareOp .Lt) (rI0 fun i j => .bl (decide (i < j))) := opB0 fun _ _ _ _ _ _ _ q => lt_int q
theorem op_le : OpR X (compareOp .LtE) (rI0 fun i j => .bl (decide (i ≤ j))) := opB0 fun _ _ _ _ _ _ _ q => le_int q
theorem op_ge : OpR X (compareOp .GtE) (rI0 fun i j => .bl (decide (j ≤ i))) := opB0 fun _ _ _ _ _ _ _ q => ge_int q
theorem OpR.or {f : Value → Value → Sem Value} {r r' : R2} (h : OpR X f r) (h' : OpR X f r') : OpR X f (fun x y H Q => r x y H Q ∨ r' x y H Q) := by
  intro pins s σ H x y v u Q I rx ry q
  rcases q with q | q
  · exact h pins s σ H x y v u Q I rx ry q
  · exact h' pins s σ H x y v u Q I rx ry q
theorem nomark (b : Expr) {op : CmpOp} (h : op ≠ .In := by decide) (h2 : op ≠ .NotIn := by decide) : behindInMarks op b = false := by
  have e1 : (op == CmpOp.In) = false := by cases op <;> first | rfl | exact absurd rfl h
  have e2 : (op == CmpOp.NotIn) = false := by cases op <;> first | rfl | exact absurd rfl h2
  cases b <;> simp [behindInMarks, e1, e2]
theorem pe_cmpR {op : CmpOp} {r : R2} (ho : OpR X (compareOp op) r) (ha : PE X a ta) (hb : PE X b tb) (hm : behindInMarks op b = false) : PE X (.Compare a [op] [b] pos) (tOp r ta tb) := by
  intro pins s σ H Q I h
  exact wpAny_Compare1 (binT ha hb I h fun v u s2 x y H2 I2 rx ry q => ho pins s2 σ H2 x y v u Q I2 rx ry q) hm
def tTest (t : TE) : TT := fun σ H Q => t σ H fun x H' => ∃ k, x = .bl k ∧ Q k H'
theorem pt_cmpR {op : CmpOp} {r : R2} (ho : OpR X (compareOp op) r) (ha : PE X a ta) (hb : PE X b tb) (hm : behindInMarks op b = false) : PT X (.Compare a [op] [b] pos) (tTest (tOp r ta tb)) := by
  intro pins s σ H Q I h
  refine wpAny_isTrue_Compare1 (thn (ha pins s σ H _ I h) fun v s1 ⟨x, H1, I1, r1, q1⟩ => thn (hb pins s1 σ H1 _ I1 q1) fun u s2 ⟨y, H2, I2, r2, q2⟩ =>
    thn (ho pins s2 σ H2 x y v u _ I2 r1 r2 q2) fun c s3 ⟨z, H3, I3, r3, k, e, q3⟩ => ?_) hm
  subst e
  cases r3
  exact wpAny_truthy_bool ⟨H3, I3, q3⟩
theorem line63 : (sizeLine : Nat) < 2 ^ 63 := by rw [sizeLine_eq]; decide
theorem vals1 {x : V} {us : List Value} (r : Vals [x] us) : ∃ u, us = [u] ∧ RelV x u := by
  cases r with
  | cons r1 r2 => cases r2; exact ⟨_, rfl, r1⟩
theorem vals2 {x y : V} {us : List Value} (r : Vals [x, y] us) : ∃ u w', us = [u, w'] ∧ RelV x u ∧ RelV y w' := by
  cases r with
  | cons r1 r2 =>
    cases r2 with
    | cons r3 r4 => cases r4; exact ⟨_, _, rfl, r1, r3⟩
theorem call_abs : CallR X (.builtin "abs") (fun xs H Q => ∃ i, xs = [.int i] ∧ Q (.int (if i < 0 then -i else i)) H) := by
  intro pins s σ H xs us Q I r h
  obtain ⟨i, rfl, q⟩ := h
  obtain ⟨u, rfl, t, rfl⟩ := vals1 r
  exact call_abs_int fun u tk => ⟨.int (if i < 0 then -i else i), H, I.tok _, ⟨_, rfl⟩, q⟩
theorem call_int1 : CallR X (.type "int") (fun xs H Q => (∃ i, xs = [.int i] ∧ Q (.int i) H) ∨ ∃ k, xs = [.bl k] ∧ Q (.int (if k then 1 else 0)) H) := by
  intro pins s σ H xs us Q I r h
  rcases h with ⟨i, rfl, q⟩ | ⟨k, rfl, q⟩
  · obtain ⟨u, rfl, t, rfl⟩ := vals1 r
    exact call_int_int ⟨.int i, H, I, ⟨_, rfl⟩, q⟩
  · obtain ⟨u, rfl, r1⟩ := vals1 r
    cases r1
    exact call_int_bool ⟨.int (if k then 1 else 0), H, I.tok _, ⟨_, rfl⟩, q⟩
end
end L2
namespace L2
open PySem PySem.Spec PyProof.Rows
section
variable {prog : Program} {w : World} {A : Around} {E : Value → Shared → Prop} {s : Shared} {K : PySem.W.Frag} {x dx C f : Addr} {mA : Str → Option Value} {name : Str} {v : Value}
end
section
variable {P : Program} {w : World} {H H' : Hp} {h h' : Heap} {a C dx : Addr} {fs fs' : List (Str × V)}
end
structure Cls (K : PySem.W.Frag) (C : Addr) : Prop where
  pg : PySem.W.plainGet K C Str.empty = true
  hd : PySem.W.hasDictIn K C = true
  po : PySem.W.plainOver K C = true
  sa : PySem.W.findIn K (.ref C) "__setattr__" = some (some (.builtin "object.__setattr__"))
theorem Cls.get {K : PySem.W.Frag} {C : Addr} (c : Cls K C) (f : Str) : PySem.W.plainGet K C f = true := c.pg
section
variable {X : Cx} {pins : List (Addr × Obj)} {σ : St} {H : Hp} {s : Shared} {a C dx : Addr} {fs : List (Str × V)} {f : Str} {v : V} {A : Around} {E : Value → Shared → Prop}
theorem Inv.made (I : Inv X pins σ H s) : Inv X pins σ (upd (upd H s.heap.objs.size (.own (s.heap.objs.size + 1))) (s.heap.objs.size + 1) (.ins C s.heap.objs.size []))
    { s with heap := (s.heap.push PySem.W.emptyDict).push (PySem.W.instObj C s.heap.objs.size) } := by
  have e1 : (s.heap.push PySem.W.emptyDict).get? s.heap.objs.size = some PySem.W.emptyDict := Heap.get?_push_size s.heap rfl
  have e2 : ((s.heap.push PySem.W.emptyDict).push (PySem.W.instObj C s.heap.objs.size)).get? (s.heap.objs.size + 1) = some (PySem.W.instObj C s.heap.objs.size) := by
    have := Heap.get?_push_size (s.heap.push PySem.W.emptyDict) (o := PySem.W.instObj C s.heap.objs.size) rfl
    rwa [Heap.size_push] at this
  have e3 : (s.heap.push PySem.W.emptyDict).Ns s.heap.objs.size (fun _ => none) := ⟨PySem.W.emptyDict, #[], _, e1, rfl, (fun e he => absurd he (by simp)), fun _ => rfl⟩
  have I1 := I.laid (a := s.heap.objs.size) (o := .own (s.heap.objs.size + 1)) (h' := s.heap.push PySem.W.emptyDict) (t' := s.toks) (fun b u q => Heap.get?_push_of_some _ q) (Nat.le_refl _) ⟨_, e1⟩
  refine I1.laid (a := s.heap.objs.size + 1) (o := .ins C s.heap.objs.size []) (t' := s.toks) (fun b u q => Heap.get?_push_of_some _ q) (Nat.le_of_eq (Heap.size_push _ _)) ?_
  have ne : s.heap.objs.size ≠ s.heap.objs.size + 1 := Nat.ne_of_lt (Nat.lt_succ_self _)
  refine ⟨by rw [upd_ne ne, upd_same], Nat.zero_le _, ne, e2, fun _ => none, (Heap.Ns1.of_empty e3).at fun o q => Heap.get?_push_of_some _ q, fun _ => True.intro, fun y hy => absurd rfl hy⟩
end
section
variable {X : Cx} {o e value : Expr} {f : Str} {pos pos' tpos : Pos} {ta tv : TE}
end
section
variable {X : Cx} {pins : List (Addr × Obj)} {σ : St} {H : Hp} {s : Shared} {A : Around} {E : Value → Shared → Prop} {Q : Value → Shared → Prop} {c : Value} {b : Bool}
end
end L2
namespace L2
open PySem PySem.Spec PyProof.Rows
structure Room (k : Nat) (A : Around) : Prop where
  hd : A.handled = none
  dp : A.depth + 3 * k + 5 < recursionLimit
  un : A.units + 16 * k + 200 < cLine
theorem Room.mono {j k : Nat} {A : Around} (r : Room k A) (h : j ≤ k) : Room j A := ⟨r.hd, by have := r.dp; omega, by have := r.un; omega⟩
theorem Room.deeper {k : Nat} {A : Around} (r : Room (k + 1) A) (env : Env) : Room k (A.deeper env) :=
  ⟨r.hd, by have := r.dp; show A.depth + 1 + 3 * k + 5 < _; omega, by have := r.un; show A.units + 3 + 16 * k + 200 < _; omega⟩
theorem Room.depth {k : Nat} {A : Around} (r : Room k A) : A.depth < recursionLimit := by have := r.dp; omega
theorem Room.units {k : Nat} {A : Around} (r : Room k A) : A.units + 64 < cLine := by have := r.un; omega
theorem Room.units0 {k : Nat} {A : Around} (r : Room k A) : A.units < cLine := by have := r.un; omega
def tNil : TA := fun _ H Q => Q [] H
def tCons (ta : TE) (tr : TA) : TA := fun σ H Q => ta σ H fun x H1 => tr σ H1 fun xs H2 => Q (x :: xs) H2
section
variable {X : Cx} {e : Expr} {es : List Expr} {te : TE} {t : TA} {pos : Pos}
theorem pa_nil : PA X [] tNil := fun _ _ _ _ H Q I h => Calls.spliced_nil ⟨[], H, I, .nil, h⟩
theorem pa_cons (ha : PE X e te) (hr : PA X es t) (hs : starEach (e :: es) X.env = (false, eval e X.env) :: starEach es X.env := by rfl) : PA X (e :: es) (tCons te t) := by
  intro pos pins s σ H Q I h
  rw [hs]
  show wpAny _ _ (spliced ((false, eval e X.env) :: backTo pos (starEach es X.env))) _ _ s
  refine Calls.spliced_cons (thn (ha pins s σ H _ I h) fun u s1 ⟨x, H1, I1, r1, q1⟩ => ?_)
  exact thn (hr pos pins s1 σ H1 _ I1 q1) fun us s2 ⟨xs, H2, I2, r2, q2⟩ => ⟨x :: xs, H2, I2, .cons r1 r2, q2⟩
def tTup (t : TA) : TE := fun σ H Q => t σ H fun xs H1 => xs.length ≤ sizeLine ∧ ∀ p, H1 p = none → Q (.ref p) (upd H1 p (.tup xs))
def tLst (t : TA) : TE := fun σ H Q => t σ H fun xs H1 => xs.length ≤ sizeLine ∧ ∀ p, H1 p = none → Q (.ref p) (upd H1 p (.lst xs))
theorem pe_tup {x1} (h : PA X es t) : PE X (.Tuple es x1 pos) (tTup t) := by
  intro pins s σ H Q I hq
  refine wpAny_Tuple_spliced (thn (h pos pins s σ H _ I hq) fun us s1 ⟨xs, H1, I1, r, z, q⟩ => ⟨by rw [← r.length]; exact z, ?_⟩)
  have hf : H1 s1.heap.objs.size = none := I1.hok.fresh (Nat.le_refl _)
  refine ⟨.ref s1.heap.objs.size, upd H1 s1.heap.objs.size (.tup xs), I1.laid (t' := s1.toks) (fun b u e => Heap.get?_push_of_some _ e) (Nat.le_refl _) ?_, rfl, q _ hf⟩
  exact ⟨z, us, r, ⟨_, Heap.get?_push_size _ rfl, rfl, _, rfl⟩⟩
theorem pe_lst (h : PA X es t) : PE X (.List es pos) (tLst t) := by
  intro pins s σ H Q I hq
  refine wpAny_List_spliced (thn (h pos pins s σ H _ I hq) fun us s1 ⟨xs, H1, I1, r, z, q⟩ => ⟨by rw [← r.length]; exact z, ?_⟩)
  have hf : H1 s1.heap.objs.size = none := I1.hok.fresh (Nat.le_refl _)
  refine ⟨.ref s1.heap.objs.size, upd H1 s1.heap.objs.size (.lst xs), I1.laid (t' := s1.toks) (fun b u e => Heap.get?_push_of_some _ e) (Nat.le_refl _) ?_, rfl, q _ hf⟩
  exact ⟨z, us, 0, r, Heap.get?_push_size _ rfl⟩
end
abbrev Sp := List V → Hp → VK → XK → Prop
abbrev CXT := List Env → Hp → Shared → XK → Value → Shared → Prop
structure Env0 (P : Program) (w : World) (K : PySem.W.Frag) (mg : Str → Option Value) (base : Heap) (A : Around) (outer : List Env) (s : Shared) (H : Hp) : Prop where
  frames : A.frames = some outer
  mod : Mod K mg base
  bs : ∀ b o, base.get? b = some o → s.heap.get? b = some o ∧ H b = none
  bsz : base.objs.size ≤ s.heap.objs.size
  funs : s.heap.FunFrames base outer
  frf : ∀ b ∈ frs outer, H b = none
  hok : HOk P w H s.heap
  bare : AllBare s.gens
def CE (outer : List Env) (P : Program) (w : World) (H : Hp) (s : Shared) (Q : VK) (u : Value) (s' : Shared) : Prop :=
  ∃ v H', s'.os = s.os ∧ AllBare s'.gens ∧ Un (frs outer) [] H H' s.heap s'.heap ∧ HOk P w H' s'.heap ∧ RelV v u ∧ Q v H'
def CR (CX : CXT) (outer : List Env) (P : Program) (w : World) (H : Hp) (s : Shared) (Q : VK) (E : XK) (r : Result) (s' : Shared) : Prop :=
  match r with
  | .ok (.ret u) => CE outer P w H s Q u s'
  | .ok _ => False
  | .error e => CX outer H s E e s'
structure FnOk (P : Program) (w : World) (K : PySem.W.Frag) (mg : Str → Option Value) (base : Heap) (CX : CXT) (k : Nat) (f : Addr) (fd : FuncData) (ps : List Str) (sp : Sp) : Prop where
  len : ∀ vs H Q E, sp vs H Q E → vs.length = ps.length
  run : ∀ (A : Around) (outer : List Env) (s : Shared) (H : Hp) (args : Args) (us : List Value) (vs : List V) (Q : VK) (E : XK), Room k A → Env0 P w K mg base A outer s H → BindsTo s fd args (ps.zip us) → Vals vs us → sp vs H Q E →
    codeAny (model P w) A (.call (.ref f) args) (CR CX outer P w H s Q E) s
theorem FnOk.mono {P : Program} {w : World} {K : PySem.W.Frag} {mg : Str → Option Value} {base : Heap} {CX : CXT} {j k : Nat} {f : Addr} {fd : FuncData} {ps : List Str} {sp : Sp} (F : FnOk P w K mg base CX j f fd ps sp) (h : j ≤ k) :
    FnOk P w K mg base CX k f fd ps sp := ⟨F.len, fun A outer s H args us vs Q E hr => F.run A outer s H args us vs Q E (hr.mono h)⟩
theorem FnOk.imp {P : Program} {w : World} {K : PySem.W.Frag} {mg : Str → Option Value} {base : Heap} {CX : CXT} {k : Nat} {f : Addr} {fd : FuncData} {ps : List Str} {sp sp' : Sp} (F : FnOk P w K mg base CX k f fd ps sp)
    (h : ∀ vs H Q E, sp' vs H Q E → sp vs H Q E) : FnOk P w K mg base CX k f fd ps sp' :=
  ⟨fun vs H Q E q => F.len vs H Q E (h _ _ _ _ q), fun A outer s H args us vs Q E hr he hb hv hs => F.run A outer s H args us vs Q E hr he hb hv (h _ _ _ _ hs)⟩
section
variable {X : Cx} {pins : List (Addr × Obj)} {σ : St} {H : Hp} {s s' : Shared}
theorem Inv.env0 (I : Inv X pins σ H s) : Env0 X.prog X.w X.K X.mg X.base X.A X.stack s H :=
  ⟨I.ok.frames, I.ok.mod, I.bs, Nat.le_trans I.ok.bsz I.sz, I.stack, I.stkFree, I.hok, I.bare⟩
theorem Inv.after {Q : VK} {u : Value} (I : Inv X pins σ H s) (h : CE X.stack X.prog X.w H s Q u s') : EP X pins σ Q u s' := by
  obtain ⟨v, H', os, bare, un, hok, r, q⟩ := h
  obtain ⟨hh, g, d, t, os'⟩ := s'
  obtain rfl : os' = s.os := os
  exact ⟨v, H', I.call (h' := hh) (g' := g) (d' := d) (t' := t) (ch := []) un hok bare (fun b z => absurd z (by simp)), r, q⟩
end
def tCall (sp : Sp) (dvs : List V) (E : XK) (t : TA) : TE := fun σ H Q => t σ H fun vs H1 => sp (vs ++ dvs) H1 Q E
def Binds (K : PySem.W.Frag) (fd : FuncData) (ps : List Str) (ds : List Value) : Prop :=
  ∀ (s : Shared) (us : List Value), K.In s.heap → (us ++ ds).length = ps.length → BindsTo s fd ⟨us, []⟩ (ps.zip (us ++ ds))
theorem Binds.all {K : PySem.W.Frag} {fd : FuncData} {ps : List Str} (h : ∀ us : List Value, us.length = ps.length → bindArgs fd ⟨us, []⟩ = pure (ps.zip us)) : Binds K fd ps [] := fun s us _ hl => by
  rw [List.append_nil] at hl ⊢
  exact .of_eq (h us hl)
def Passes (CX : CXT) (X : Cx) (E : XK) : Prop := ∀ (pins : List (Addr × Obj)) (σ : St) (H : Hp) (s : Shared) (e : Value) (s' : Shared), Inv X pins σ H s → CX X.stack H s E e s' → X.xe e s'
section
variable {X : Cx} {CX : CXT} {k : Nat} {f C : Addr} {fd : FuncData} {ps : List Str} {sp : Sp} {dvs : List V} {ds : List Value} {E : XK} {x m : Str} {p pos apos : Pos} {e o : Expr} {es : List Expr} {ta : TE} {t : TA}
theorem run_fn {pins : List (Addr × Obj)} {σ : St} {H : Hp} {s : Shared} {Q : VK} {us : List Value} {vs : List V} (F : FnOk X.prog X.w X.K X.mg X.base CX k f fd ps sp) (hr : Room k X.A) (hb : Binds X.K fd ps ds) (hd : Vals dvs ds) (hx : Passes CX X E)
    (I : Inv X pins σ H s) (r : Vals vs us) (h : sp (vs ++ dvs) H Q E) : wpAny (model X.prog X.w) X.A (call (.ref f) us) (EP X pins σ Q) X.xe s := by
  have r2 : Vals (vs ++ dvs) (us ++ ds) := r.append hd
  have hl : (us ++ ds).length = ps.length := by rw [← r2.length]; exact F.len _ _ _ _ h
  refine wpAny_call (codeAny_mono (F.run X.A X.stack s H ⟨us, []⟩ (us ++ ds) (vs ++ dvs) Q E hr I.env0 (hb s us I.kIn hl) r2 h) fun r s' hq => ?_)
  cases r with
  | error e => exact hx pins σ H s e s' I hq
  | ok fl =>
    cases fl with
    | ret u => exact I.after hq
    | next => exact False.elim hq
    | brk => exact False.elim hq
    | cont => exact False.elim hq
theorem pe_call (F : FnOk X.prog X.w X.K X.mg X.base CX k f fd ps sp) (hr : Room k X.A) (hg : Gl X x) (hm : X.mg x = some (.ref f)) (hk : PySem.W.keepIn X.K (.ref f) = true) (hb : Binds X.K fd ps ds) (hd : Vals dvs ds) (hx : Passes CX X E)
    (ha : PA X (e :: es) t) (hdb : (x == ("__debug__" : Str)) = false := by decide) (he : starEach (e :: es) X.env = (false, eval e X.env) :: starEach es X.env := by rfl) (hpl : (backTo pos (starEach es X.env)).any (·.1) = false := by rfl) :
    PE X (.Call (.Name x p) (e :: es) [] pos) (tCall sp dvs E t) := by
  intro pins s σ H Q I h
  refine wpAny_Call_Name_kw (ld_glob I hg hm ?_ hdb)
  refine PySem.W.callWith_K (h₀ := X.base) I.ok.mod.kin hk (thn (ha pos pins s σ H _ I h) fun us s1 ⟨vs, H1, I1, r, q⟩ => ⟨I1.kIn, ?_⟩) he hpl
  exact run_fn F hr hb hd hx I1 r q
end
section
variable {X : Cx} {CX : CXT} {k : Nat} {f C : Addr} {fd : FuncData} {ps ks : List Str} {sp : Sp} {E : XK} {x m : Str} {p pos apos kpos : Pos} {e o : Expr} {es : List Expr} {kws : List Keyword} {te ta : TE} {t tk : TA} {nm : Option Str}
variable {g : List Value → List Value → List Value} {gV : List V → List V → List V}
end
structure FnScope (N P : List Str) (sc : Scope) : Prop where
  kind : sc.kind = .function
  co : sc.isCoroutine = false
  gen : sc.isGenerator = false
  nd : N.Nodup
  pre : N.take P.length = P
  par : ∀ x ∈ P, sc.names.lookup x = some .local ∨ sc.names.lookup x = some .cell
  nofree : ∀ y ∈ sc.names, y.2 ≠ .free
theorem bindL_out {kindOf : Str → Option NameKind} {x : Str} : ∀ {binds : List (Str × Value)} {m : Str → Option Value}, (∀ v, (x, v) ∉ binds) → bindL kindOf binds m x = m x
  | [], _, _ => rfl
  | (n, v) :: r, m, h => by
    unfold bindL
    rw [bindL_out fun w hw => h w (List.mem_cons_of_mem _ hw)]
    split
    · have : x ≠ n := by rintro rfl; exact h v List.mem_cons_self
      simp [this]
    · rfl
theorem bindC_out {kindOf : Str → Option NameKind} {x : Str} : ∀ {binds : List (Str × Value)} {m : Str → Option Value}, (∀ v, (x, v) ∉ binds) → bindC kindOf binds m x = m x
  | [], _, _ => rfl
  | (n, v) :: r, m, h => by
    unfold bindC
    rw [bindC_out fun w hw => h w (List.mem_cons_of_mem _ hw)]
    split
    · rfl
    · have : x ≠ n := by rintro rfl; exact h v List.mem_cons_self
      simp [this]
theorem bindL_get {kindOf : Str → Option NameKind} {x : Str} {v : Value} : ∀ {P : List Str} {vs : List Value} {i : Nat} {m : Str → Option Value}, P.Nodup → P[i]? = some x → vs[i]? = some v → kindOf x = some .local →
    bindL kindOf (P.zip vs) m x = some v
  | [], _, _, _, _, h, _, _ => by simp at h
  | _ :: _, [], _, _, _, _, h, _ => by simp at h
  | p :: P, w :: vs, 0, m, nd, h1, h2, hk => by
    simp at h1 h2; subst h1; subst h2
    show bindL kindOf ((p, w) :: P.zip vs) m p = _
    unfold bindL
    rw [bindL_out fun v hv => (List.nodup_cons.mp nd).1 (List.of_mem_zip hv).1, if_pos hk]
    simp
  | p :: P, w :: vs, i + 1, m, nd, h1, h2, hk => by
    show bindL kindOf ((p, w) :: P.zip vs) m x = _
    unfold bindL
    exact bindL_get (i := i) (List.nodup_cons.mp nd).2 (by simpa using h1) (by simpa using h2) hk
theorem bindC_get {kindOf : Str → Option NameKind} {x : Str} {v : Value} : ∀ {P : List Str} {vs : List Value} {i : Nat} {m : Str → Option Value}, P.Nodup → P[i]? = some x → vs[i]? = some v → kindOf x ≠ some .local →
    bindC kindOf (P.zip vs) m x = some v
  | [], _, _, _, _, h, _, _ => by simp at h
  | _ :: _, [], _, _, _, _, h, _ => by simp at h
  | p :: P, w :: vs, 0, m, nd, h1, h2, hk => by
    simp at h1 h2; subst h1; subst h2
    show bindC kindOf ((p, w) :: P.zip vs) m p = _
    unfold bindC
    rw [bindC_out fun v hv => (List.nodup_cons.mp nd).1 (List.of_mem_zip hv).1, if_neg hk]
    simp
  | p :: P, w :: vs, i + 1, m, nd, h1, h2, hk => by
    show bindC kindOf ((p, w) :: P.zip vs) m x = _
    unfold bindC
    exact bindC_get (i := i) (List.nodup_cons.mp nd).2 (by simpa using h1) (by simpa using h2) hk
def start (N : List Str) (vs : List V) : St := vs.map some ++ List.replicate (N.length - vs.length) none
def cxOf (CX : CXT) (P : Program) (w : World) (K : PySem.W.Frag) (mg : Str → Option Value) (base : Heap) (N : List Str) (qual : Str) (scope : Scope) (f : Addr) (cd : Value) (A : Around) (outer : List Env) (s : Shared) (H : Hp) (E : XK) : Cx where
  prog := P
  w := w
  K := K
  mg := mg
  base := base
  A := A.deeper (envOfC qual scope s.heap.objs.size f cd)
  N := N
  s₀ := s
  H₀ := H
  env := envOfC qual scope s.heap.objs.size f cd
  outer := outer
  stack := envOfC qual scope s.heap.objs.size f cd :: outer
  ex := []
  calm := true
  fn := fun _ => true
  pn := []
  xe := fun e s' => wpAny (model P w) (A.deeper (envOfC qual scope s.heap.objs.size f cd)) (leaving (envOfC qual scope s.heap.objs.size f cd) e) (fun _ s'' => CX outer H s E e s'') (fun e' s'' => CX outer H s E e' s'') s'
theorem cell_has {sc : Scope} {n : Nat} {x : Str} (h : sc.names.lookup x = some .cell) : ∃ c, (cellsFrom n sc.names []).lookup x = some c := by
  have q := PySem.W.cellsFrom_some sc.names n [] (.inl h)
  exact Option.isSome_iff_exists.mp q
theorem inv_start {CX : CXT} {P : Program} {w : World} {K : PySem.W.Frag} {mg : Str → Option Value} {base : Heap} {N ps : List Str} {qual : Str} {scope : Scope} {f : Addr} {cd : Value} {A : Around} {outer : List Env} {s s1 : Shared} {H : Hp} {E : XK} {us : List Value} {vs : List V}
    (S : FnScope N ps scope) (hd : A.handled = none) (e0 : Env0 P w K mg base A outer s H) (hl : vs.length = ps.length) (r : Vals vs us)
    (x : InCallC s s.heap.objs.size (bindL (envOfC qual scope s.heap.objs.size f cd).kindOf (ps.zip us) fun _ => none) (cellsFrom (s.heap.objs.size + 1) scope.names []) (bindC (envOfC qual scope s.heap.objs.size f cd).kindOf (ps.zip us) fun _ => none) s1) :
    Inv (cxOf CX P w K mg base N qual scope f cd A outer s H E) [] (start N vs) H s1 := by
  have hpl : ps.length ≤ N.length := by have := congrArg List.length S.pre; rw [List.length_take] at this; omega
  obtain ⟨h1, tk, rfl, hk⟩ := x.done
  have noA : ∀ b : Addr, b ∉ (cxOf CX P w K mg base N qual scope f cd A outer s H E).ex := fun b z => absurd (show b ∈ ([] : List Addr) from z) (by simp)
  refine ⟨⟨e0.mod, S.kind, rfl, rfl, Nat.le_refl _, fun y z c h1 h2 => ?_, fun y hy => ?_, fun y c _ h => ?_, fun _ => hd, Around.frames_deeper e0.frames, .inr ⟨rfl, rfl⟩, fun b z => absurd z (noA b), e0.bs, e0.bsz, fun b _ _ => noA b, fun b z => absurd z (noA b), e0.funs, e0.frf⟩,
    rfl, e0.bare, Un.kept hk, ⟨_, x.toInCall.ns, fun i y v h1 h2 h3 => ?_⟩, fun y c h => ⟨_, x.cell y c h⟩, e0.hok.fresh (Nat.le_refl _), fun y c h => ?_, fun p hp => absurd (show p ∈ ([] : List (Addr × Obj)) from hp) (by simp), e0.hok.kept hk, ?_⟩
  · exact name_of_addr x.apart (PySem.mem_of_lookup h1) (PySem.mem_of_lookup h2)
  · have hy : scope.names.lookup y = some .cell ∨ scope.names.lookup y = some .free := hy
    rcases hy with hy | hy
    · exact cell_has hy
    · exact absurd rfl (S.nofree _ (PySem.mem_of_lookup hy))
  · exact Nat.le_of_lt (x.above y c (PySem.mem_of_lookup h))
  · have hi : i < vs.length := by
      unfold start at h2
      by_cases hi : i < vs.length
      · exact hi
      · rw [List.getElem?_append_right (by simpa using hi)] at h2
        rw [List.getElem?_replicate] at h2
        split at h2 <;> cases h2
    have ha : vs[i]? = some v := by
      unfold start at h2
      rw [List.getElem?_append_left (by simpa using hi), List.getElem?_map] at h2
      cases e : vs[i]? with
      | none => rw [e] at h2; cases h2
      | some a => rw [e] at h2; cases h2; rfl
    obtain ⟨u, hu, rv⟩ := r.get ha
    have hp : ps[i]? = some y := by
      rw [← S.pre, List.getElem?_take_of_lt (by omega)]; exact h1
    have ndP : ps.Nodup := by rw [← S.pre]; exact S.nd.sublist (List.take_sublist _ _)
    refine ⟨u, rv, ?_⟩
    rcases S.par y (List.mem_of_getElem? hp) with k | k
    · exact .inl ⟨k, bindL_get ndP hp hu k⟩
    · obtain ⟨c, e⟩ := cell_has (n := s.heap.objs.size + 1) k
      refine .inr ⟨.inl k, c, e, ?_⟩
      have q := x.cell y c e
      rw [bindC_get ndP hp hu (by show scope.names.lookup y ≠ _; rw [k]; decide)] at q
      exact q
  · exact e0.hok.fresh (Nat.le_of_lt (x.above y c (PySem.mem_of_lookup h)))
  · unfold start
    show _ = N.length
    rw [List.length_append, List.length_map, List.length_replicate]
    omega
theorem fn_of {CX : CXT} {P : Program} {w : World} {K : PySem.W.Frag} {mg : Str → Option Value} {base : Heap} {k : Nat} {f : Addr} {name qual : Str} {params : Arguments} {body : List Stmt} {scope : Scope} {dV kV doc pm cdv ct oc : Value} {an od : Option Addr}
    {osl : Array (Option Value)} {N ps : List Str} {sp : Sp} (lk : K.lookup f = some ⟨oc, od, .func (PySem.W.fnOf name qual params body scope dV kV doc pm an cdv ct), osl⟩) (hcd : PySem.W.codeIn K cdv qual = true) (S : FnScope N ps scope)
    (len : ∀ vs H Q E, sp vs H Q E → vs.length = ps.length)
    (hbody : ∀ (A : Around) (outer : List Env) (s : Shared) (H : Hp) (vs : List V) (Q : VK) (E : XK), Room k (A.deeper (envOfC qual scope s.heap.objs.size f cdv)) → sp vs H Q E →
      ∃ t, PSs (cxOf CX P w K mg base N qual scope f cdv A outer s H E) body t ∧ t { nx := fun _ H' => Q .non H', rt := Q } (start N vs) H) :
    FnOk P w K mg base CX (k + 1) f (PySem.W.fnOf name qual params body scope dV kV doc pm an cdv ct) ps sp := by
  refine ⟨len, fun A outer s H args us vs Q E hr e0 hb r hsp => ?_⟩
  have hl := len _ _ _ _ hsp
  have KX : K.In s.heap := e0.mod.kin.keeps fun b o e => (e0.bs b o e).1
  have lim : s.heap.NoLimit := e0.mod.nolimit.keeps fun b o e => (e0.bs b o e).1
  have hkind : ∀ y ∈ ps.zip us, scope.names.lookup y.1 = some .local ∨ (scope.names.lookup y.1 = some .cell ∧ ((cellsFrom (s.heap.objs.size + 1) scope.names []).lookup y.1).isSome = true) := fun ⟨n, v⟩ hy => by
    rcases S.par n (List.of_mem_zip hy).1 with q | q
    · exact .inl q
    · exact .inr ⟨q, PySem.W.cellsFrom_some _ _ _ (.inl q)⟩
  refine codeAny_call_function hr.depth (KX _ _ lk) rfl S.co S.gen rfl (PySem.W.codeRec_of KX hcd) (hb _ _ _ _ ?_)
  refine wpAny_newFunctionEnv_cells S.kind hkind fun env he s1 x => ?_
  subst he
  refine ⟨lim.keeps x.toInCall.keep, codeAny_func ?_⟩
  obtain ⟨t, ht, hq⟩ := hbody A outer s H vs Q E (hr.deeper _) hsp
  have I : Inv (cxOf CX P w K mg base N qual scope f cdv A outer s H E) [] (start N vs) H s1 := inv_start S hr.hd e0 hl r x
  refine wpAny_mono (ht [] s1 (start N vs) H _ I hq) (fun fl s' hs => ?_) fun e s' hs => hs
  have fin : ∀ {σ' : St} {H' : Hp} {v : V} {u : Value}, Inv (cxOf CX P w K mg base N qual scope f cdv A outer s H E) [] σ' H' s' → RelV v u → Q v H' → CE outer P w H s Q u s' :=
    fun {σ' H' v u} J rv q => ⟨v, H', J.os, J.bare, J.base, J.hok, rv, q⟩
  cases fl with
  | ret u =>
    obtain ⟨v, σ', H', J, rv, q⟩ := hs
    exact fin J rv q
  | next =>
    obtain ⟨σ', H', J, q⟩ := hs
    exact fin (v := V.non) (u := Value.none) J rfl q
  | brk =>
    obtain ⟨_, _, _, q⟩ := hs
    exact False.elim q
  | cont =>
    obtain ⟨_, _, _, q⟩ := hs
    exact False.elim q
end L2
namespace L2
open PySem PySem.Spec PyProof.Rows
section
variable {X : Cx} {x : Str} {p pos : Pos} {e : Expr} {es : List Expr} {t : TA} {id T : String} {r : List V → Hp → VK → Prop}
def tCB (r : List V → Hp → VK → Prop) (t : TA) : TE := fun σ H Q => t σ H fun vs H1 => r vs H1 Q
theorem pe_callB (hc : CallR X (.builtin id) r) (hg : Gl X x) (hm : X.mg x = none) (hv : bootBuiltins x = some (.builtin id)) (ha : PA X (e :: es) t) (hn : x ≠ "__name__" := by decide) (hdb : (x == ("__debug__" : Str)) = false := by decide)
    (he : starEach (e :: es) X.env = (false, eval e X.env) :: starEach es X.env := by rfl) (hpl : (backTo pos (starEach es X.env)).any (·.1) = false := by rfl) : PE X (.Call (.Name x p) (e :: es) [] pos) (tCB r t) := by
  intro pins s σ H Q I h
  refine wpAny_Call_Name_kw (ld_blt I hg hm hv ?_ hn hdb)
  exact PyProof.Rows.callWith_builtin1 (thn (ha pos pins s σ H _ I h) fun us s1 ⟨vs, H1, I1, r1, q1⟩ => hc pins s1 σ H1 vs us Q I1 r1 q1) he hpl
theorem pe_callTy (hc : CallR X (.type T) r) (hg : Gl X x) (hm : X.mg x = none) (hv : bootBuiltins x = some (.type T)) (ha : PA X (e :: es) t) (hn : x ≠ "__name__" := by decide) (hdb : (x == ("__debug__" : Str)) = false := by decide)
    (he : starEach (e :: es) X.env = (false, eval e X.env) :: starEach es X.env := by rfl) (hpl : (backTo pos (starEach es X.env)).any (·.1) = false := by rfl) : PE X (.Call (.Name x p) (e :: es) [] pos) (tCB r t) := by
  intro pins s σ H Q I h
  refine wpAny_Call_Name_kw (ld_blt I hg hm hv ?_ hn hdb)
  exact PyProof.Rows.callWith_type1 (thn (ha pos pins s σ H _ I h) fun us s1 ⟨vs, H1, I1, r1, q1⟩ => hc pins s1 σ H1 vs us Q I1 r1 q1) he hpl
end
end L2
namespace HT
open PySem PyProof.Rows
section
open PySem.SeqAt
open PySem.AutoSeq1 (wpAny_loadPart')
open PySem.MeetsSeq PySem.MeetsSeq2 PySem.MeetsSeq3
end
section
variable {prog : Program} {w : World} {A : Around} {E : Value → Shared → Prop} {s : Shared}
end
end HT
namespace L2
open PySem PySem.Spec PyProof.Rows
abbrev TO := St → Hp → (Option Int → Hp → Prop) → Prop
section
variable {X : Cx} {e : Expr} {te : TE} {lo hi : Option Expr} {tl th : TO} {pos p2 : Pos}
def SlR (X : Cx) (r : V → Option Int → Option Int → Hp → VK → Prop) : Prop :=
  ∀ (pins : List (Addr × Obj)) (s : Shared) (σ : St) (H : Hp) (x : V) (v vl vu : Value) (lo hi : Option Int) (sl : Addr) (Q : VK), Inv X pins σ H s → RelV x v → s.heap.IsSliceOf sl vl vu .none → IsPart vl lo → IsPart vu hi → r x lo hi H Q →
    ∃ T id, typeLookup (.type T) "__getitem__" = pure (some (.builtin id)) ∧ s.TypeIs v T ∧ wpAny (model X.prog X.w) X.A (getItem v (.ref sl)) (EP X pins σ Q) X.xe s
theorem SlR.or {r r' : V → Option Int → Option Int → Hp → VK → Prop} (h : SlR X r) (h' : SlR X r') : SlR X (fun x lo hi H Q => r x lo hi H Q ∨ r' x lo hi H Q) := by
  intro pins s σ H x v vl vu lo hi sl Q I rx hs pl pu q
  rcases q with q | q
  · exact h pins s σ H x v vl vu lo hi sl Q I rx hs pl pu q
  · exact h' pins s σ H x v vl vu lo hi sl Q I rx hs pl pu q
end
end L2
namespace L2
open PySem PySem.Spec PyProof.Rows
def ixN (n : Nat) (i : Int) : Option Nat := if 0 ≤ i then (if i < n then some i.toNat else none) else if -(n : Int) ≤ i then some (i + n).toNat else none
def atI {α : Type} (xs : List α) (i : Int) : Option α := (ixN xs.length i).bind fun j => xs[j]?
theorem ixN_seq {n : Nat} {i : Int} {j : Nat} (h : ixN n i = some j) : seqIndex? i n = some j ∧ j < n ∧ -(n : Int) ≤ i ∧ i < n := by
  unfold ixN at h
  by_cases h0 : 0 ≤ i
  · rw [if_pos h0] at h
    by_cases h1 : i < n
    · rw [if_pos h1] at h
      have e : i.toNat = j := Option.some.inj h
      exact ⟨by rw [seqIndex_of h0 h1, e], by omega, by omega, h1⟩
    · rw [if_neg h1] at h; cases h
  · rw [if_neg h0] at h
    by_cases h1 : -(n : Int) ≤ i
    · rw [if_pos h1] at h
      have e : (i + n).toNat = j := Option.some.inj h
      exact ⟨by rw [seqIndex_neg (by omega) h1, e], by omega, h1, by omega⟩
    · rw [if_neg h1] at h; cases h
theorem atI_get {α : Type} {xs : List α} {i : Int} {v : α} (h : atI xs i = some v) : ∃ j, seqIndex? i xs.length = some j ∧ xs[j]? = some v ∧ j < xs.length ∧ -(xs.length : Int) ≤ i ∧ i < xs.length := by
  unfold atI at h
  cases e : ixN xs.length i with
  | none => rw [e] at h; cases h
  | some j =>
    rw [e] at h
    obtain ⟨h1, h2, h3, h4⟩ := ixN_seq e
    exact ⟨j, h1, h, h2, h3, h4⟩
theorem atI_nat {α : Type} {xs : List α} {j : Nat} {v : α} (h : xs[j]? = some v) : atI xs (j : Int) = some v := by
  have hj : j < xs.length := (List.getElem?_eq_some_iff.mp h).1
  have e : ixN xs.length (j : Int) = some j := by
    unfold ixN
    rw [if_pos (by omega), if_pos (by omega)]; simp
  unfold atI; rw [e]; exact h
def PlainIx (b : Expr) : Prop := ∀ o i, subscripted b false o i = operate [o, i] (getItem o i)
def IxR (X : Cx) (r : R2) : Prop :=
  ∀ (value slice : Expr) (pins : List (Addr × Obj)) (s : Shared) (σ : St) (H : Hp) (x y : V) (v u : Value) (Q : VK), Inv X pins σ H s → RelV x v → RelV y u → r x y H Q →
    subscripted slice false v u = operate [v, u] (getItem v u) → wpAny (model X.prog X.w) X.A (subscriptTail value slice v u) (EP X pins σ Q) X.xe s
def MtR (X : Cx) (id : String) (r : V → List V → Hp → VK → Prop) : Prop :=
  ∀ (pins : List (Addr × Obj)) (s : Shared) (σ : St) (H : Hp) (x : V) (xs : List V) (v : Value) (us : List Value) (Q : VK), Inv X pins σ H s → RelV x v → Vals xs us → r x xs H Q →
    wpAny (model X.prog X.w) X.A (call (.builtin id) (v :: us)) (EP X pins σ Q) X.xe s
section
variable {X : Cx} {a b : Expr} {ta tb : TE} {pos : Pos}
theorem IxR.or {r r' : R2} (h : IxR X r) (h' : IxR X r') : IxR X (fun x y H Q => r x y H Q ∨ r' x y H Q) := by
  intro value slice pins s σ H x y v u Q I rx ry q hs
  rcases q with q | q
  · exact h value slice pins s σ H x y v u Q I rx ry q hs
  · exact h' value slice pins s σ H x y v u Q I rx ry q hs
theorem MtR.or {id : String} {r r' : V → List V → Hp → VK → Prop} (h : MtR X id r) (h' : MtR X id r') : MtR X id (fun x xs H Q => r x xs H Q ∨ r' x xs H Q) := by
  intro pins s σ H x xs v us Q I rx rs q
  rcases q with q | q
  · exact h pins s σ H x xs v us Q I rx rs q
  · exact h' pins s σ H x xs v us Q I rx rs q
theorem pe_ix {r : R2} (hr : IxR X r) (ha : PE X a ta) (hb : PE X b tb) (hs : PlainIx b) : PE X (.Subscript a b pos) (tOp r ta tb) := by
  intro pins s σ H Q I h
  exact Subscript_ (binT ha hb I h fun v u s2 x y H2 I2 rx ry q => hr a b pins s2 σ H2 x y v u Q I2 rx ry q (hs _ _))
def rIxL (K : PySem.W.Frag) : R2 := fun x y H Q => ∃ p xs i v, x = .ref p ∧ y = .int i ∧ SqL K H p xs ∧ atI xs i = some v ∧ Q v H
def rIxT (K : PySem.W.Frag) : R2 := fun x y H Q => ∃ p xs i v, x = .ref p ∧ y = .int i ∧ SqT K H p xs ∧ atI xs i = some v ∧ Q v H
theorem ix_list : IxR X (rIxL X.K) := by
  intro value slice pins s σ H x y v u Q I rx ry h hs
  obtain ⟨p, xs, i, z, rfl, rfl, hq, he, q⟩ := h
  cases rx
  obtain ⟨t, rfl⟩ := ry
  obtain ⟨its, r, pl, hz⟩ := I.list hq
  obtain ⟨j, h1, h2, h3, h4, h5⟩ := atI_get he
  obtain ⟨w, ew, rw'⟩ := r.get h2
  have hl := r.length
  have hn := line63
  have fin : EP X pins σ Q w s := ⟨z, H, I, rw', q⟩
  by_cases h0 : 0 ≤ i
  · have hj : i.toNat = j := by
      rw [seqIndex_of h0 h5] at h1
      exact Option.some.inj h1
    exact item_listR pl.isList h0 (by omega) (by rw [hj]; simpa using ew) fin hs
  · have hj : (i + (its.toArray.size : Int)).toNat = j := by
      rw [seqIndex_neg (by omega) h4] at h1
      rw [List.size_toArray, ← hl]
      exact Option.some.inj h1
    exact subscriptTail_builtinR (x := w) pl.isList.typeIs slot_list_getitem.lookup
      (wpAny_getItem_list_neg (Q := fun r s' => r = w ∧ EP X pins σ Q r s') pl.isList (by omega) (by rw [List.size_toArray] <;> omega) (by omega) (by rw [hj]; simpa using ew) ⟨rfl, fin⟩) hs
theorem ix_tup : IxR X (rIxT X.K) := by
  intro value slice pins s σ H x y v u Q I rx ry h hs
  obtain ⟨p, xs, i, z, rfl, rfl, hq, he, q⟩ := h
  cases rx
  obtain ⟨t, rfl⟩ := ry
  obtain ⟨its, r, pl, hz⟩ := I.tuple hq
  obtain ⟨j, h1, h2, h3, h4, h5⟩ := atI_get he
  obtain ⟨w, ew, rw'⟩ := r.get h2
  have hl := r.length
  have hn := line63
  have fin : EP X pins σ Q w s := ⟨z, H, I, rw', q⟩
  exact subscriptTail_builtinR (x := w) pl.typeIs slot_tuple_getitem.lookup
    (getItem_tuple (j := j) (Q := fun r s' => r = w ∧ EP X pins σ Q r s') pl (by omega) (by omega) (by rw [List.size_toArray, ← hl]; exact h1) (by simpa using ew) ⟨rfl, fin⟩) hs
theorem Inv.lst {pins : List (Addr × Obj)} {σ : St} {H : Hp} {s : Shared} {p : Addr} {xs : List V} (I : Inv X pins σ H s) (h : H p = some (.lst xs)) :
    ∃ (its : List Value) (n : Nat), Vals xs its ∧ s.heap.get? p = some { cls := .type "list", data := .seq its.toArray n } ∧ xs.length ≤ sizeLine := by
  obtain ⟨z, its, n, r, e⟩ := I.hok p _ h
  exact ⟨its, n, r, e, z⟩
def flatV : V → Bool
  | .non => true
  | .bl _ => true
  | .int _ => true
  | .str _ => true
  | _ => false
def eqV : V → V → Bool
  | .non, .non => true
  | .bl a, .bl b => a == b
  | .bl a, .int b => (if a then 1 else 0) == b
  | .int a, .bl b => a == (if b then 1 else 0)
  | .int a, .int b => a == b
  | .str a, .str b => a == b
  | _, _ => false
theorem eqAt_V {A : Around} {s : Shared} {y x : V} {u v : Value} (ry : RelV y u) (rx : RelV x v) (fy : flatV y = true) (fx : flatV x = true) : SeqAt.EqAt A s u v (eqV y x) := by
  cases y with
  | non =>
    cases ry
    cases x with
    | non => cases rx; exact SeqAt.EqAt.same _
    | bl b => cases rx; exact SeqAt.EqAt.none_bool b
    | int b => obtain ⟨t, rfl⟩ := rx; exact SeqAt.EqAt.none_int b t
    | str b => obtain ⟨t, rfl⟩ := rx; exact SeqAt.EqAt.none_str b t
    | _ => exact absurd (show false = true from fx) Bool.false_ne_true
  | bl a =>
    cases ry
    cases x with
    | non => cases rx; exact SeqAt.EqAt.bool_none a
    | bl b => cases rx; exact SeqAt.EqAt.bool_bool a b
    | int b => obtain ⟨t, rfl⟩ := rx; exact SeqAt.EqAt.bool_int a b t
    | str b => obtain ⟨t, rfl⟩ := rx; exact SeqAt.EqAt.bool_str a b t
    | _ => exact absurd (show false = true from fx) Bool.false_ne_true
  | int a =>
    obtain ⟨t', rfl⟩ := ry
    cases x with
    | non => cases rx; exact SeqAt.EqAt.int_none a t'
    | bl b => cases rx; exact SeqAt.EqAt.int_bool a t' b
    | int b => obtain ⟨t, rfl⟩ := rx; exact SeqAt.EqAt.int_int a t' b t
    | str b => obtain ⟨t, rfl⟩ := rx; exact SeqAt.EqAt.int_str a t' b t
    | _ => exact absurd (show false = true from fx) Bool.false_ne_true
  | str a =>
    obtain ⟨t', rfl⟩ := ry
    cases x with
    | non => cases rx; exact SeqAt.EqAt.str_none a t'
    | bl b => cases rx; exact SeqAt.EqAt.str_bool a t' b
    | int b => obtain ⟨t, rfl⟩ := rx; exact SeqAt.EqAt.str_int a t' b t
    | str b => obtain ⟨t, rfl⟩ := rx; exact SeqAt.EqAt.str_str a t' b t
    | _ => exact absurd (show false = true from fx) Bool.false_ne_true
  | _ => exact absurd (show false = true from fy) Bool.false_ne_true
theorem call_len_seq : CallR X (.builtin "len") (fun xs H Q => ∃ p ys, xs = [.ref p] ∧ (SqL X.K H p ys ∨ SqT X.K H p ys) ∧ Q (.int ys.length) H) := by
  intro pins s σ H xs us Q I r h
  obtain ⟨p, ys, rfl, hq, q⟩ := h
  obtain ⟨u, rfl, rx⟩ := vals1 r
  cases rx
  have hn := line63
  rcases hq with hq | hq
  · obtain ⟨its, r', pl, hz⟩ := I.list hq
    have hlen := r'.length
    exact Calls.call_len_list pl.isList (by simp only [List.size_toArray] <;> omega) ⟨.int ys.length, H, I.tok _, ⟨s.toks + 1, by rw [List.size_toArray, hlen]⟩, q⟩
  · obtain ⟨its, r', pl, hz⟩ := I.tuple hq
    have hlen := r'.length
    exact len_tuple pl (by simp only [List.size_toArray] <;> omega) ⟨.int ys.length, H, I.tok _, ⟨s.toks + 1, by rw [List.size_toArray, hlen]⟩, q⟩
theorem CallR.or {f : Value} {r r' : List V → Hp → VK → Prop} (h : CallR X f r) (h' : CallR X f r') : CallR X f (fun xs H Q => r xs H Q ∨ r' xs H Q) := by
  intro pins s σ H xs us Q I rs q
  rcases q with q | q
  · exact h pins s σ H xs us Q I rs q
  · exact h' pins s σ H xs us Q I rs q
variable {o e : Expr} {es : List Expr} {to : TE} {t : TA} {name : Str} {apos cpos : Pos} {T id : String} {r : V → List V → Hp → VK → Prop}
end
end L2
namespace L2
open PySem PySem.Spec PyProof.Rows
theorem Vals.one : ∀ {x : V} {us : List Value}, Vals [x] us → ∃ u, us = [u] ∧ RelV x u
  | _, _, .cons r .nil => ⟨_, rfl, r⟩
theorem Vals.two : ∀ {x y : V} {us : List Value}, Vals [x, y] us → ∃ u v, us = [u, v] ∧ RelV x u ∧ RelV y v
  | _, _, _, .cons r (.cons q .nil) => ⟨_, _, rfl, r, q⟩
theorem Vals.zero : ∀ {us : List Value}, Vals [] us → us = []
  | _, .nil => rfl
theorem Vals.reverse {xs : List V} {us : List Value} (h : Vals xs us) : Vals xs.reverse us.reverse := by
  induction h with
  | nil => exact .nil
  | cons r t ih => rw [List.reverse_cons, List.reverse_cons]; exact Vals.append ih (.cons r .nil)
theorem Vals.rep {xs : List V} {us : List Value} (h : Vals xs us) : ∀ k : Nat, Vals (List.replicate k xs).flatten (List.replicate k us).flatten
  | 0 => .nil
  | k + 1 => by
    rw [List.replicate_succ, List.replicate_succ, List.flatten_cons, List.flatten_cons]
    exact Vals.append h (Vals.rep h k)
section
variable {X : Cx} {pins : List (Addr × Obj)} {σ : St} {H : Hp} {s : Shared} {l b : Addr} {xs ys zs : List V}
theorem Inv.lnew {its : List Value} {t' : Nat} (I : Inv X pins σ H s) (hv : Vals ys its) (hz : ys.length ≤ sizeLine) :
    Inv X pins σ (upd H s.heap.objs.size (.lst ys)) { s with heap := s.heap.push { cls := .type "list", data := .seq its.toArray }, toks := t' } :=
  I.laid (fun _ _ q => Heap.get?_push_of_some _ q) (Nat.le_refl _) ⟨hz, its, 0, hv, Heap.get?_push_size _ rfl⟩
theorem Inv.fresh (I : Inv X pins σ H s) : H s.heap.objs.size = none := I.hok.fresh (Nat.le_refl _)
theorem Inv.lstM (I : Inv X pins σ H s) (hH : H l = some (.lst xs)) : xs.length ≤ sizeLine ∧ ∃ (its : List Value) (n : Nat), Vals xs its ∧ xs.length = its.length ∧ s.heap.get? l = some { cls := .type "list", data := .seq its.toArray n } := by
  obtain ⟨z, its, n, r, e⟩ := I.hok l _ hH
  exact ⟨z, its, n, r, r.length, e⟩
end
section
variable {X : Cx}
def rCat : R2 := fun x y H Q => ∃ l b xs zs, x = .ref l ∧ y = .ref b ∧ H l = some (.lst xs) ∧ H b = some (.lst zs) ∧ xs.length + zs.length ≤ sizeLine ∧ ∀ p, H p = none → Q (.ref p) (upd H p (.lst (xs ++ zs)))
theorem op_cat : OpR X (binaryOp .Add) rCat := by
  intro pins s σ H x y v u Q I rx ry h
  obtain ⟨l, b, xs, zs, rfl, rfl, hH, hB, hz, q⟩ := h
  cases rx
  cases ry
  obtain ⟨z, its, n, r, hl, e⟩ := I.lstM hH
  obtain ⟨z2, its2, n2, r2, hl2, e2⟩ := I.lstM hB
  refine PySem.P.add_list e e2 ?_ (by rw [List.size_toArray, List.size_toArray]; omega)
  have ea : its.toArray ++ its2.toArray = (its ++ its2).toArray := by simp
  rw [ea]
  exact ⟨.ref _, _, I.lnew (t' := s.toks) (r.append r2) (by rw [List.length_append]; omega), rfl, q _ I.fresh⟩
end
section
variable {prog : Program} {w : World} {A : Around} {E : Value → Shared → Prop} {s : Shared}
end
section
variable {X : Cx}
end
end L2
namespace Att
open PySem PySem.W PySem.Calls PyProof.Rows
theorem ints_of_wellAll {P : Params} {h : Heap} : ∀ (ns : List Int) (vs : List Value), WellAll P h vs (ns.map WData.int) → IntsAre vs ns := by
  intro ns
  induction ns with
  | nil =>
    intro vs w
    rw [List.map_nil] at w
    cases w
    exact .nil
  | cons n ns ih =>
    intro vs w
    rw [List.map_cons] at w
    cases w with
    | cons a b =>
      cases a
      exact .cons _ _ (ih _ b)
theorem script_of {l : OpenLaw} {n : Nat} (hn : l.most = some n) {P : Params} {h : Heap} {args : List WData} {vals : List Value}
    (hpre : l.row.toRowW.claim.pre args = true) (hwl : WellAll P h vals args) :
    ∃ a vs ns, vals = [Value.ref a] ∧ args = [WData.list (ns.map WData.int)] ∧ h.get? a = some { cls := .type "list", data := .seq vs.toArray } ∧ IntsAre vs ns ∧ ns.length ≤ n := by
  have hsh : WShape.hasAll [] args [.list .int] = true := (pre_splitW hpre).1
  have hc : l.pre.holds [] { args := args } = true := (pre_splitW hpre).2
  obtain ⟨d, r, rfl, h1, h2⟩ := hasAllW_cons hsh
  obtain rfl := hasAllW_nil h2
  obtain ⟨xs, rfl, h3⟩ := hasW_list h1
  obtain ⟨ns, rfl⟩ := items_int h3
  have hlen : ns.length ≤ n := by
    unfold OpenLaw.pre at hc
    have h4 : (WTm.not (.lt (.lit (.int (n : Int))) (.len (.arg 0)))).holds [] { args := [.list (ns.map .int)] } = true := by
      have h4 := (holds_andW hc).1
      rw [hn] at h4
      exact h4
    have h5 := condW_of h4 (w_not (w_lt w_lit (w_len_list (w_arg rfl))))
    rw [List.length_map] at h5
    refine Nat.le_of_not_lt fun q => ?_
    have q' : (n : Int) < ((ns.length : Nat) : Int) := by omega
    first
      | (rw [decide_eq_true q'] at h5; exact absurd h5 (by decide))
      | (simp at h5; omega)
  cases hwl with
  | cons w1 w2 =>
    cases w2
    cases w1 with
    | list ho hall => exact ⟨_, _, ns, rfl, rfl, ho, ints_of_wellAll ns _ hall, hlen⟩
theorem post_true (l : OpenLaw) (args : List WData) : l.row.toRowW.claim.post args (.bool true) args = true :=
  postW_of (r := l.row.toRowW) (X := (true == true))
    (show WShape.has [] (.bool true) .bool = true by first | rfl | decide | simp [WShape.has, WShape.arms, WShape.armsAll])
    (show (WTm.eq .res (.lit (.bool true))).value [] { args := args, res := some (.bool true), after := args } = some (.bool (true == true)) from w_eq_bool (w_res rfl) w_lit) rfl
theorem attach_call {l : OpenLaw} {n : Nat} {q : Program} {loose : List Str} {XP : (Str → Option Value) → Heap → Prop} {YP : World → Heap → Prop} {d : DefRec}
    (hn : l.most = some n) (hdf : d.params.defaults = [])
    (call : ∀ (w : World) (s₀ s₁ : Shared) (mg mb : Str → Option Value) (fa : Addr) (o : Obj) (pm cd doc : Value) (a : Addr) (vs : List Value) (ns : List Int),
      Ground q loose [] XP w s₀ mg mb s₁.heap → YP w s₁.heap →
      s₁.heap.get? fa = some o → o.data = .func (docDef d.name d.params d.body d.scope pm cd doc) → s₁.heap.CodeRec cd d.name → mg d.name = some (.ref fa) →
      s₁.heap.get? a = some { cls := .type "list", data := .seq vs.toArray } → IntsAre vs ns → ns.length ≤ n → s₁.gens = #[] →
      codeAny (model l.prog w) callerA (.call (.ref fa) ⟨[.ref a], []⟩) (fun r s' => r = .ok (.ret (.bool true)) ∧ OldK s₁.heap s'.heap ∧ s'.os = s₁.os ∧ AllBare s'.gens) s₁) :
    WalkO q loose XP YP l.row.toRowW d [] (fun f vs => PySem.call f vs) := by
  intro w s₀ s₁ mg mb G Y fa o pm cd doc dV kV ho hd hcd hD hmg hg args vals as hpre hlay hrd hwl hlo
  obtain rfl : dV = .none := Dflts.none hD hdf
  obtain rfl : kV = .none := Dflts.noKw hD
  obtain ⟨a, vs, ns, rfl, rfl, hobj, hints, hlen⟩ := script_of hn hpre hwl
  refine enter_call (codeAny_mono (call w s₀ s₁ mg mb fa o pm cd doc a vs ns G Y ho (fd_plain hd) hcd hmg hobj hints hlen hg) fun r s' hq => ?_)
  obtain ⟨rfl, h2, h3, h4⟩ := hq
  exact ⟨.inl ⟨.bool true, .bool true, [], rfl, fun _ => rfl, .bool true, post_true l _, fun _ => ⟨List.Pairwise.nil, fun _ hm => (nomatch hm)⟩⟩, h2, h3, h4⟩
section
variable {prog : Program} {w : World} {A : Around} {E : Value → Shared → Prop} {s : Shared} {K : Frag}
def ledger (h : Heap) (L d : Addr) : List (Addr × Obj) := (List.range h.objs.size).filterMap fun a => if a = L ∨ a = d then none else (h.get? a).map fun o => (a, o)
end
end Att
namespace L2
open PySem PySem.Spec PyProof.Rows
theorem vals_ints : ∀ {vs : List Value} {ns : List Int}, IntsAre vs ns → Vals (ns.map V.int) vs
  | _, _, .nil => .nil
  | _, _, .cons n t h => .cons ⟨t, rfl⟩ (vals_ints h)
def Only (H : Hp) : Prop := ∀ b, H b = none ∨ ∃ o xs, H b = some (.frz o (.lst xs))
theorem law_call {P : Program} {w : World} {K : PySem.W.Frag} {mg mb : Str → Option Value} {CX : CXT} {k : Nat} {fa a : Addr} {fd : FuncData} {x : Str} {sp : Sp} {s₁ : Shared} {vs : List Value} {ns : List Int}
    (KX : K.In s₁.heap) (hns : s₁.heap.Ns mainGlobals mg) (hb : s₁.heap.Ns builtinsNs mb) (hbb : ∀ x : Str, x ≠ "__name__" → mb x = bootBuiltins x) (hlim : s₁.heap.NoLimit) (hg : s₁.gens = #[])
    (ha : s₁.heap.get? a = some { cls := .type "list", data := .seq vs.toArray }) (hi : IntsAre vs ns) (hl : ns.length ≤ sizeLine) (hr : Room k callerA)
    (F : ∀ base : Heap, K.In base → base.Ns mainGlobals mg → FnOk P w K mg base CX k fa fd [x] sp) (hbind : ∀ (s : Shared) (u : Value), BindsTo s fd ⟨[u], []⟩ [(x, u)])
    (hsp : ∀ H : Hp, Only H → SqL K H a (ns.map V.int) → sp [.ref a] H (fun v _ => v = .bl true) fun _ _ _ => False)
    (hCX : ∀ H e s', CX [] H s₁ (fun _ _ _ => False) e s' → False) :
    codeAny (model P w) callerA (.call (.ref fa) ⟨[.ref a], []⟩) (fun r s' => r = .ok (.ret (.bool true)) ∧ OldK s₁.heap s'.heap ∧ s'.os = s₁.os ∧ AllBare s'.gens) s₁ := by
  have rv := vals_ints hi
  have lenV := hi.length
  have core : ∀ H : Hp, Only H → SqL K H a (ns.map V.int) → HOk P w H s₁.heap → (∀ b, H b ≠ none → b = a) → (H a ≠ none → K.lookup a = none) →
      codeAny (model P w) callerA (.call (.ref fa) ⟨[.ref a], []⟩) (fun r s' => r = .ok (.ret (.bool true)) ∧ OldK s₁.heap s'.heap ∧ s'.os = s₁.os ∧ AllBare s'.gens) s₁ := by
    intro H hO hS hok hA hK
    have base_of : ∀ {b : Addr} {o : Obj}, s₁.heap.get? b = some o → H b = none → (hidT s₁.heap H).get? b = some o := fun e n => hidT_get e n
    have noA : ∀ {b : Addr} {o : Obj} {es : Array DictEntry} {ep : Nat}, s₁.heap.get? b = some o → o.data = .dict es ep → H b = none := fun {b o es ep} e d => by
      cases q : H b with
      | none => rfl
      | some u =>
        have e' : b = a := hA b (by rw [q]; simp)
        subst e'
        rw [ha] at e; cases e
        have d' : Data.seq vs.toArray _ = Data.dict es ep := d
        cases d'
    have nsK : ∀ {b : Addr} {m : Str → Option Value}, s₁.heap.Ns b m → (hidT s₁.heap H).Ns b m := fun {b m} ⟨o, es, ep, e, d, r⟩ => ⟨o, es, ep, base_of e (noA e d), d, r⟩
    have hKb : K.In (hidT s₁.heap H) := fun b o e => base_of (KX b o e) (by
      cases q : H b with
      | none => rfl
      | some u =>
        have e' : b = a := hA b (by rw [q]; simp)
        subst e'
        rw [hK (by rw [q]; simp)] at e; cases e)
    have hM : Mod K mg (hidT s₁.heap H) := ⟨hKb, nsK hns, ⟨mb, nsK hb, hbb⟩, let ⟨mc, h1, h2⟩ := hlim; ⟨mc, nsK h1, h2⟩⟩
    have e0 : Env0 P w K mg (hidT s₁.heap H) callerA [] s₁ H := ⟨rfl, hM, fun b o e => of_hidT e, Nat.le_of_eq (hidT_size _ _), trivial, fun b hb => absurd (show b ∈ ([] : List Addr) from hb) (by simp), hok, .of_eq hg⟩
    refine codeAny_mono ((F _ hKb (nsK hns)).run callerA [] s₁ H ⟨[.ref a], []⟩ [.ref a] [.ref a] _ _ hr e0 (hbind s₁ (.ref a)) (.cons rfl .nil) (hsp H hO hS)) fun r s' h => ?_
    cases r with
    | error e => exact (hCX H e s' h).elim
    | ok fl =>
      cases fl with
      | next => exact False.elim h
      | brk => exact False.elim h
      | cont => exact False.elim h
      | ret u =>
        obtain ⟨v, H', os, bare, un, hok', r', q⟩ := h
        have q' : v = .bl true := q
        subst q'
        obtain rfl : u = Value.bool true := r'
        refine ⟨rfl, OldK.of_keep fun b o e => ?_, os, bare⟩
        cases q : H b with
        | none => exact un.keep b o e q (by intro z; exact absurd (show b ∈ ([] : List Addr) from z) (by simp)) (by simp)
        | some u =>
          rcases hO b with z | ⟨ob, xs, z⟩
          · rw [q] at z; cases z
          · have z2 := un.frzs b ob _ z
            obtain ⟨e1, _⟩ := hok b _ z
            obtain ⟨e2, _⟩ := hok' b _ z2
            rw [e] at e1; cases e1
            exact e2
  cases hk : K.lookup a with
  | some o =>
    have e := KX a o hk
    rw [ha] at e
    cases e
    refine core (fun _ => none) (fun _ => .inl rfl) (.inr ⟨_, vs.toArray, _, hk, rfl, rfl, rfl, by rw [List.size_toArray, lenV]; exact hl, by simpa using rv⟩) (fun b u z => by have z' : (none : Option HO) = some u := z; cases z') (fun b z => absurd rfl z) fun z => absurd rfl z
  | none =>
    refine core (fun b => if b = a then some (.frz { cls := .type "list", data := .seq vs.toArray } (.lst (ns.map V.int))) else none) (fun b => ?_) (.inl (.inr ⟨{ cls := .type "list", data := .seq vs.toArray }, if_pos rfl⟩)) (fun b u z => ?_) (fun b z => ?_) fun _ => hk
    · by_cases hb : b = a
      · exact .inr ⟨_, _, if_pos hb⟩
      · exact .inl (if_neg hb)
    · by_cases hb : b = a
      · have z' := (if_pos hb).symm.trans z
        cases z'
        subst hb
        exact ⟨ha, by rw [List.length_map]; exact hl, vs, _, rv, ha⟩
      · have z' := (if_neg hb).symm.trans z
        cases z'
    · by_cases hb : b = a
      · exact hb
      · exact absurd (if_neg hb) z
end L2
namespace L2
open PySem PySem.Spec PyProof.Rows
theorem walk_of {l : PySem.W.OpenLaw} {n k : Nat} {q : Program} {loose : List Str} {XP : (Str → Option Value) → Heap → Prop} {YP : World → Heap → Prop} {d : DefRec} {K : Params → PySem.W.Frag} {CX : World → CXT} {sp : World → Sp} {x : Str}
    (hn : l.most = some n) (hn2 : n ≤ sizeLine) (hdf : d.params.defaults = []) (hr : Room k callerA)
    (hY : ∀ (w : World) (h : Heap), YP w h → (K w.params).In h)
    (F : ∀ (w : World) (mg : Str → Option Value) (fa : Addr) (h : Heap), (K w.params).In h → h.Ns mainGlobals mg → mg d.name = some (.ref fa) →
      ∃ fd : FuncData, (∀ (s : Shared) (u : Value), BindsTo s fd ⟨[u], []⟩ [(x, u)]) ∧
        ∀ base : Heap, (K w.params).In base → base.Ns mainGlobals mg → FnOk l.prog w (K w.params) mg base (CX w) k fa fd [x] (sp w))
    (hsp : ∀ (w : World) (H : Hp) (a : Addr) (ns : List Int), ns.length ≤ n → Only H → SqL (K w.params) H a (ns.map V.int) → sp w [.ref a] H (fun v _ => v = .bl true) fun _ _ _ => False)
    (hCX : ∀ (w : World) (H : Hp) (s : Shared) (e : Value) (s' : Shared), CX w [] H s (fun _ _ _ => False) e s' → False) :
    PySem.W.WalkO q loose XP YP l.row.toRowW d [] (fun f vs => PySem.call f vs) := by
  refine Att.attach_call hn hdf fun w s₀ s₁ mg mb fa o pm cd doc a vs ns G Y ho hd hcd hmg hobj hints hlen hg => ?_
  have KX := hY w _ Y
  obtain ⟨fd, hb, hF⟩ := F w mg fa _ KX G.T.g hmg
  exact law_call KX G.T.g G.T.b G.T.builtins G.T.nolimit hg hobj hints (Nat.le_trans hlen hn2) hr hF hb (fun H hO hS => hsp w H a ns hlen hO hS) fun H e s' => hCX w H s₁ e s'
end L2
namespace L2
open PySem PySem.Spec PyProof.Rows
def defArgs (s : Stmt) : Arguments := match s with
  | .FunctionDef _ a _ _ _ _ _ _ _ _ => a
  | _ => { posonlyargs := [], args := [], vararg := none, kwonlyargs := [], kw_defaults := [], kwarg := none, defaults := [] }
def defBody (s : Stmt) : List Stmt := match s with
  | .FunctionDef _ _ b _ _ _ _ _ _ _ => b
  | _ => []
def defScope (s : Stmt) : Scope := match s with
  | .FunctionDef _ _ _ _ _ _ sc _ _ _ => sc
  | _ => { kind := .function, names := [], isGenerator := false, isCoroutine := false }
abbrev CX0 : CXT := fun _ _ _ _ _ _ => False
abbrev E0 : XK := fun _ _ _ => False
theorem pass0 {X : Cx} : Passes CX0 X E0 := fun _ _ _ _ _ _ _ h => h.elim
structure Fun (K : PySem.W.Frag) (x qual : Str) (st : Stmt) (f : Addr) (fd : FuncData) : Prop where
  ex : ∃ (oc : Value) (od : Option Addr) (kV doc pm : Value) (an : Option Addr) (cdv ct : Value) (osl : Array (Option Value)),
    fd = PySem.W.fnOf x qual (defArgs st) (defBody st) (defScope st) .none kV doc pm an cdv ct ∧ K.lookup f = some ⟨oc, od, .func fd, osl⟩ ∧ PySem.W.codeIn K cdv qual = true
  kp : PySem.W.keepIn K (.ref f) = true
section
variable {P : Program} {w : World} {K : PySem.W.Frag} {mg : Str → Option Value} {base : Heap}
theorem Fun.ok {x qual : Str} {st : Stmt} {f : Addr} {fd : FuncData} {N ps : List Str} {k : Nat} {sp : Sp} (F : Fun K x qual st f fd) (S : FnScope N ps (defScope st)) (len : ∀ vs H Q E, sp vs H Q E → vs.length = ps.length)
    (hbody : ∀ (cdv : Value) (A : Around) (outer : List Env) (s : Shared) (H : Hp) (vs : List V) (Q : VK) (E : XK), Room k (A.deeper (envOfC qual (defScope st) s.heap.objs.size f cdv)) → sp vs H Q E →
      ∃ t, PSs (cxOf CX0 P w K mg base N qual (defScope st) f cdv A outer s H E).nox (defBody st) t ∧ t { nx := fun _ H' => Q .non H', rt := Q } (start N vs) H) : FnOk P w K mg base CX0 (k + 1) f fd ps sp := by
  obtain ⟨oc, od, kV, doc, pm, an, cdv, ct, osl, rfl, lk, hcd⟩ := F.ex
  refine fn_of lk hcd S len fun A outer s H vs Q E hr hsp => ?_
  obtain ⟨t, h, q⟩ := hbody cdv A outer s H vs Q E hr hsp
  exact ⟨t, h.nox, q⟩
theorem Fun.binds {x qual : Str} {st : Stmt} {f : Addr} {fd : FuncData} {ps : List Str} (F : Fun K x qual st f fd)
    (h : ∀ (kV doc pm : Value) (an : Option Addr) (cdv ct : Value) (us : List Value), us.length = ps.length → bindArgs (PySem.W.fnOf x qual (defArgs st) (defBody st) (defScope st) .none kV doc pm an cdv ct) ⟨us, []⟩ = pure (ps.zip us)) : Binds K fd ps [] := by
  obtain ⟨oc, od, kV, doc, pm, an, cdv, ct, osl, rfl, lk, hcd⟩ := F.ex
  exact .all (h kV doc pm an cdv ct)
theorem fun_mk {x qual : Str} {st : Stmt} {f : Addr} {oc : Value} {od an : Option Addr} {osl : Array (Option Value)} {kV doc pm cdv ct : Value} (l : K.lookup f = some ⟨oc, od, .func (PySem.W.fnOf x qual (defArgs st) (defBody st) (defScope st) .none kV doc pm an cdv ct), osl⟩)
    (c : PySem.W.codeIn K cdv qual = true) (k : PySem.W.keepIn K (.ref f) = true) : Fun K x qual st f (PySem.W.fnOf x qual (defArgs st) (defBody st) (defScope st) .none kV doc pm an cdv ct) := ⟨⟨oc, od, kV, doc, pm, an, cdv, ct, osl, rfl, l, c⟩, k⟩
end
theorem small1000 {n : Nat} (h : n ≤ 1000) : n < sizeLine := Nat.lt_of_le_of_lt h (by decide)
section
variable {X : Cx}
end
def Same (H H' : Hp) : Prop := ∀ b o, H b = some o → H' b = some o
theorem Same.refl (H : Hp) : Same H H := fun _ _ h => h
theorem Same.trans {H H1 H2 : Hp} (a : Same H H1) (b : Same H1 H2) : Same H H2 := fun c o h => b c o (a c o h)
theorem Same.free {H H' : Hp} (e : Same H H') {l : Addr} (h : H' l = Option.none) : H l = Option.none := by
  cases q : H l with
  | none => rfl
  | some o =>
    rw [e l o q] at h
    cases h
theorem Same.seq {K : PySem.W.Frag} {H H' : Hp} {a : Addr} {xs : List V} (e : Same H H') (h : SqL K H a xs) : SqL K H' a xs := by
  rcases h with (h | ⟨o, h⟩) | h
  · exact .inl (.inl (e _ _ h))
  · exact .inl (.inr ⟨o, e _ _ h⟩)
  · exact .inr h
end L2
namespace L2
open PySem PySem.Spec PyProof.Rows
end L2
namespace L2
open PySem PySem.Spec PyProof.Rows
section
variable (P : Program) (w : World)
end
section
variable {P : Program} {w : World} {H H' : Hp} {h h' : Heap} {a : Addr} {o : HO}
end
section
variable {P : Program} {w : World} {H : Hp} {h h' : Heap} {x e : Addr} {o' : HO}
end
section
variable {fs fs' ex ex' : List Addr} {H H1 H2 : Hp} {h h1 h2 h' : Heap} {a x e : Addr} {o : HO}
end
end L2
namespace L2
open PySem PySem.Spec PyProof.Rows
section
variable {X : Cx} {pins : List (Addr × Obj)} {σ : List (Option V)} {H H' : Hp} {s : Shared} {h' : Heap}
end
end L2
namespace L2
open PySem PySem.Spec PyProof.Rows
section
variable {X : Cx}
variable {a b : Expr} {ta tb : TE} {pos : Pos}
variable {tA tB' : TT} {rest : List Expr}
end
end L2
namespace L2
open PySem PySem.Spec PyProof.Rows
section
variable {X : Cx} {pins : List (Addr × Obj)} {σ : St} {H : Hp} {s : Shared} {a : Addr} {xs ys : List V}
end
section
variable {X : Cx} {pins : List (Addr × Obj)} {σ : St} {H : Hp} {s : Shared} {E : Value → Shared → Prop}
end
section
variable {X : Cx} {st : Stmt} {rest : List Stmt} {t u : TS} {e : Expr} {te : TE} {pos : Pos}
end
section
variable {X : Cx} {pos : Pos}
end
section
variable {X : Cx} {pos : Pos}
end
end L2
namespace L2
open PySem PySem.Spec PyProof.Rows
section
variable {X : Cx} {tg : Expr}
end
end L2
namespace L2
open PySem PySem.Spec PyProof.Rows
section
variable {X : Cx} {a b c : Expr} {ta tb tc : TE} {pos : Pos}
end
section
variable {X : Cx} {a b c : Expr} {ta tb tc : TE} {pos : Pos}
end
end L2
namespace L2
open PySem PySem.Spec PyProof.Rows
section
variable {prog : Program} {w : World} {A : Around} {E : Value → Shared → Prop} {s : Shared} {K : PySem.W.Frag} {x dx C f : Addr} {mA : Str → Option Value} {name : Str} {v : Value}
end
section
variable {P : Program} {w : World} {H H' : Hp} {h h' : Heap} {a C dx : Addr} {fs fs' : List (Str × V)}
end
section
variable {X : Cx} {pins : List (Addr × Obj)} {σ : St} {H : Hp} {s : Shared} {a C dx : Addr} {fs : List (Str × V)} {f : Str} {v : V} {A : Around} {E : Value → Shared → Prop}
end
section
variable {X : Cx} {o e value : Expr} {f : Str} {pos pos' tpos : Pos} {ta tv : TE}
end
section
variable {X : Cx} {pins : List (Addr × Obj)} {σ : St} {H : Hp} {s : Shared} {A : Around} {E : Value → Shared → Prop} {Q : Value → Shared → Prop} {c : Value} {b : Bool}
end
end L2
namespace L2
open PySem PySem.Spec PyProof.Rows
section
variable {X : Cx} {e : Expr} {es : List Expr} {te : TE} {t : TA} {pos : Pos}
end
section
variable {X : Cx} {pins : List (Addr × Obj)} {σ : St} {H : Hp} {s s' : Shared}
end
section
variable {X : Cx} {CX : CXT} {k : Nat} {f C : Addr} {fd : FuncData} {ps : List Str} {sp : Sp} {dvs : List V} {ds : List Value} {E : XK} {x m : Str} {p pos apos : Pos} {e o : Expr} {es : List Expr} {ta : TE} {t : TA}
end
section
variable {X : Cx} {CX : CXT} {k : Nat} {f C : Addr} {fd : FuncData} {ps ks : List Str} {sp : Sp} {E : XK} {x m : Str} {p pos apos kpos : Pos} {e o : Expr} {es : List Expr} {kws : List Keyword} {te ta : TE} {t tk : TA} {nm : Option Str}
variable {g : List Value → List Value → List Value} {gV : List V → List V → List V}
end
end L2
namespace L2
open PySem PySem.Spec PyProof.Rows
section
variable {X : Cx} {x : Str} {p pos : Pos} {e : Expr} {es : List Expr} {t : TA} {id T : String} {r : List V → Hp → VK → Prop}
end
end L2
namespace L2
open PySem PySem.Spec PyProof.Rows
section
variable {κ : Type} [DecidableEq κ]
def valV (kvs : List (κ × V)) (k : κ) : Option V := (kvs.find? fun kv => decide (kv.1 = k)).map (·.2)
def putK (kvs : List (κ × V)) (k : κ) (v : V) : List (κ × V) :=
  if (kvs.any fun kv => decide (kv.1 = k)) = true then kvs.map (fun kv => if kv.1 = k then (kv.1, v) else kv) else kvs ++ [(k, v)]
def dropK (kvs : List (κ × V)) (k : κ) : List (κ × V) := kvs.filter fun kv => decide (kv.1 ≠ k)
theorem valV_pos {p : κ × V} {r : List (κ × V)} {k : κ} (e : p.1 = k) : valV (p :: r) k = some p.2 := by simp [valV, List.find?_cons, e]
theorem valV_neg {p : κ × V} {r : List (κ × V)} {k : κ} (e : ¬ p.1 = k) : valV (p :: r) k = valV r k := by simp [valV, List.find?_cons, e]
theorem RelO.getD {o : Option V} {u : Option Value} {d : V} {d' : Value} (r : RelO o u) (rd : RelV d d') : RelV (o.getD d) (u.getD d') := by
  cases o with
  | none => cases u with
    | none => exact rd
    | some _ => exact (show False from r).elim
  | some _ => cases u with
    | none => exact (show False from r).elim
    | some _ => exact r
theorem KV.val {kvs : List (κ × V)} {vs : List (κ × Value)} (r : KV kvs vs) (k : κ) : RelO (valV kvs k) (valueAt vs k) := by
  unfold KV at r
  induction r with
  | nil => exact True.intro
  | @cons p q ps qs h t ih =>
    obtain ⟨h1, h2⟩ := h
    by_cases e : p.1 = k
    · have e' : q.1 = k := h1.symm.trans e
      have b : valueAt (q :: qs) k = some q.2 := by simp [valueAt, List.find?_cons, e']
      rw [valV_pos e, b]; exact h2
    · have e' : ¬ q.1 = k := fun z => e (h1.trans z)
      have b : valueAt (q :: qs) k = valueAt qs k := by simp [valueAt, List.find?_cons, e']
      rw [valV_neg e, b]; exact ih
theorem KV.any {kvs : List (κ × V)} {vs : List (κ × Value)} (r : KV kvs vs) (k : κ) : (kvs.any fun kv => decide (kv.1 = k)) = vs.any fun kv => decide (kv.1 = k) := by
  unfold KV at r
  induction r with
  | nil => rfl
  | cons h t ih => rw [List.any_cons, List.any_cons, ih, h.1]
theorem KV.drop {kvs : List (κ × V)} {vs : List (κ × Value)} (r : KV kvs vs) (k : κ) : KV (dropK kvs k) (without vs k) := by
  unfold KV at r ⊢
  unfold dropK without
  induction r with
  | nil => exact .nil
  | @cons p q ps qs h t ih =>
    obtain ⟨h1, h2⟩ := h
    rw [List.filter_cons, List.filter_cons]
    by_cases e : p.1 = k
    · have a : ¬ decide (p.1 ≠ k) = true := by simp [e]
      have b : ¬ decide (q.1 ≠ k) = true := by simp [h1.symm.trans e]
      rw [if_neg a, if_neg b]; exact ih
    · have e' : ¬ q.1 = k := fun z => e (h1.trans z)
      have a : decide (p.1 ≠ k) = true := by simp [e]
      have b : decide (q.1 ≠ k) = true := by simp [e']
      rw [if_pos a, if_pos b]; exact .cons ⟨h1, h2⟩ ih
theorem KV.keys {kvs : List (κ × V)} {vs : List (κ × Value)} (r : KV kvs vs) : kvs.map (·.1) = vs.map (·.1) := by
  unfold KV at r
  induction r with
  | nil => rfl
  | cons h t ih => rw [List.map_cons, List.map_cons, ih, h.1]
theorem KV.length {kvs : List (κ × V)} {vs : List (κ × Value)} (r : KV kvs vs) : kvs.length = vs.length := Paired.length r
end
abbrev KT (H : Hp) : List (List Key × V) → List (List Key × Addr × Value) → Prop := Paired fun p q => p.1 = q.1 ∧ H q.2.1 = some (.tup (p.1.map kV)) ∧ RelV p.2 q.2.2
theorem KT.val {H : Hp} {kvs : List (List Key × V)} {xs : List (List Key × Addr × Value)} (r : KT H kvs xs) (k : List Key) : RelO (valV kvs k) ((atKey xs k).map (·.2)) := by
  induction r with
  | nil => exact True.intro
  | @cons p q ps qs h t ih =>
    obtain ⟨h1, _, h2⟩ := h
    by_cases e : p.1 = k
    · have e' : q.1 = k := h1.symm.trans e
      have b : atKey (q :: qs) k = some q.2 := by simp [atKey, List.find?_cons, e']
      rw [valV_pos e, b]; exact h2
    · have e' : ¬ q.1 = k := fun z => e (h1.trans z)
      have b : atKey (q :: qs) k = atKey qs k := by simp [atKey, List.find?_cons, e']
      rw [valV_neg e, b]; exact ih
theorem KT.keeps {H H' : Hp} {kvs : List (List Key × V)} {xs : List (List Key × Addr × Value)} (r : KT H kvs xs) (ht : ∀ b ys, H b = some (.tup ys) → H' b = some (.tup ys)) : KT H' kvs xs :=
  Paired.mapP r fun _ _ z => ⟨z.1, ht _ _ z.2.1, z.2.2⟩
section
variable {P : Program} {w : World} {H : Hp} {h : Heap} {a : Addr}
end
def DGet (H : Hp) (a : Addr) (y : V) (r : Option V) : Prop :=
  (∃ kvs k, Rd H a (.dK kvs) ∧ y = kV k ∧ r = valV kvs k) ∨ ∃ kvs k b, Rd H a (.dT kvs) ∧ y = .ref b ∧ H b = some (.tup (k.map kV)) ∧ r = valV kvs k
def DPut (H : Hp) (a : Addr) (y v : V) (H' : Hp) : Prop :=
  (∃ kvs k, H a = some (.dK kvs) ∧ y = kV k ∧ kvs.length < sizeLine ∧ H' = upd H a (.dK (putK kvs k v))) ∨
  ∃ kvs k b, H a = some (.dT kvs) ∧ y = .ref b ∧ H b = some (.tup (k.map kV)) ∧ kvs.length < sizeLine ∧ H' = upd H a (.dT (putK kvs k v))
theorem DGet.k {H : Hp} {a : Addr} {kvs : List (Key × V)} {k : Key} (e : H a = some (.dK kvs)) : DGet H a (kV k) (valV kvs k) := .inl ⟨kvs, k, .inl e, rfl, rfl⟩
theorem DGet.t {H : Hp} {a b : Addr} {kvs : List (List Key × V)} {k : List Key} (e : H a = some (.dT kvs)) (eb : H b = some (.tup (k.map kV))) : DGet H a (.ref b) (valV kvs k) := .inr ⟨kvs, k, b, .inl e, rfl, eb, rfl⟩
theorem DPut.k {H : Hp} {a : Addr} {kvs : List (Key × V)} {k : Key} {v : V} (e : H a = some (.dK kvs)) (hl : kvs.length < sizeLine) : DPut H a (kV k) v (upd H a (.dK (putK kvs k v))) := .inl ⟨kvs, k, e, rfl, hl, rfl⟩
theorem DPut.t {H : Hp} {a b : Addr} {kvs : List (List Key × V)} {k : List Key} {v : V} (e : H a = some (.dT kvs)) (eb : H b = some (.tup (k.map kV))) (hl : kvs.length < sizeLine) :
    DPut H a (.ref b) v (upd H a (.dT (putK kvs k v))) := .inr ⟨kvs, k, b, e, rfl, eb, hl, rfl⟩
section
variable {X : Cx} {pins : List (Addr × Obj)} {σ : St} {H : Hp} {s : Shared} {a : Addr} {y v : V} {u r : Value} {o : Option V} {A : Around} {E : Value → Shared → Prop}
end
section
variable {X : Cx} {pins : List (Addr × Obj)} {σ : St} {H : Hp} {s : Shared} {a : Addr} {kvs : List (Key × V)} {k : Key} {u : Value} {A : Around} {E : Value → Shared → Prop}
end
section
variable {X : Cx} {o i e value : Expr} {pos pos' tpos : Pos} {td ty tv : TE}
end
section
variable {X : Cx} {pos : Pos}
end
section
variable {X : Cx} {pins : List (Addr × Obj)} {σ : St} {H : Hp} {s : Shared} {a : Addr} {y d : V} {u r : Value} {o : Option V} {A : Around} {E : Value → Shared → Prop}
end
section
variable {X : Cx} {o e f : Expr} {apos cpos : Pos} {td ty tx : TE}
end
section
variable {X : Cx} {pins : List (Addr × Obj)} {σ : St} {H : Hp} {s : Shared} {a : Addr} {kvs : List (Key × V)} {A : Around} {E : Value → Shared → Prop}
end
section
variable {X : Cx} {pins : List (Addr × Obj)} {σ : St} {H : Hp} {s : Shared} {a : Addr} {y : V} {u : Value} {A : Around} {E : Value → Shared → Prop}
end
end L2
set_option Elab.async false
set_option linter.all false
set_option maxRecDepth 100000
set_option maxHeartbeats 4000000
namespace Mth
def gc (t b : Int) : Int := (Int.gcd t b : Int)
theorem gc_pos {t b : Int} (h : 0 < b) : 0 < gc t b := by
  unfold gc
  have : 0 < Int.gcd t b := Int.gcd_pos_of_ne_zero_right t (by omega)
  omega
theorem gc_step {t b : Int} : gc b (t % b) = gc t b := by
  unfold gc
  have h : t % b = t + (-(t / b)) * b := by
    have := Int.emod_add_mul_ediv t b
    grind
  rw [h, Int.gcd_add_mul_right_right, Int.gcd_comm]
theorem gc_zero {t : Int} (h : 0 ≤ t) : gc t 0 = t := by
  unfold gc
  rw [Int.gcd_zero_right]; omega
theorem gc_dvd_l {t b : Int} : gc t b ∣ t := Int.gcd_dvd_left t b
theorem gc_dvd_r {t b : Int} : gc t b ∣ b := Int.gcd_dvd_right t b
theorem gc_le {t b : Int} (h : 0 < b) : gc t b ≤ b := Int.le_of_dvd h gc_dvd_r
theorem gc_abs {t b : Int} : gc (t.natAbs : Int) b = gc t b := by
  unfold gc; simp [Int.gcd]
def rd (t b : Int) : Int × Int := (t / gc t b, b / gc t b)
structure Lo (a b : Int) : Prop where
  pos : 0 < b
  one : gc a b = 1
theorem rd_l {t b : Int} : (rd t b).1 * gc t b = t := Int.ediv_mul_cancel gc_dvd_l
theorem rd_r {t b : Int} : (rd t b).2 * gc t b = b := Int.ediv_mul_cancel gc_dvd_r
theorem rd_lo {t b : Int} (h : 0 < b) : Lo (rd t b).1 (rd t b).2 := by
  have hg := gc_pos (t := t) h
  constructor
  · have e := rd_r (t := t) (b := b)
    have : 0 < (rd t b).2 * gc t b := by omega
    exact Int.pos_of_mul_pos_left this hg
  · unfold gc rd
    simp only
    have := Int.gcd_ediv_gcd_ediv_gcd (i := t) (j := b) (by unfold gc at hg; omega)
    unfold gc
    rw [this]; rfl
theorem rd_cross {t b : Int} : (rd t b).1 * b = t * (rd t b).2 := by
  have e1 := rd_l (t := t) (b := b)
  have e2 := rd_r (t := t) (b := b)
  generalize (rd t b).1 = x at *
  generalize (rd t b).2 = y at *
  generalize gc t b = g at *
  subst e1 e2
  grind
theorem Lo.ext {a b c d : Int} (h : Lo a b) (k : Lo c d) (e : a * d = c * b) : a = c ∧ b = d := by
  have hb := h.pos
  have hd := k.pos
  have h1 : b ∣ d := by
    have : b ∣ a * d := ⟨c, by rw [e, Int.mul_comm]⟩
    have hg : Int.gcd b a = 1 := by have := h.one; unfold gc at this; rw [Int.gcd_comm]; omega
    have h3 := Int.dvd_gcd_mul_iff_dvd_mul.mpr this
    rw [hg] at h3
    simpa using h3
  have h2 : d ∣ b := by
    have : d ∣ c * b := ⟨a, by rw [← e, Int.mul_comm]⟩
    have hg : Int.gcd d c = 1 := by have := k.one; unfold gc at this; rw [Int.gcd_comm]; omega
    have h3 := Int.dvd_gcd_mul_iff_dvd_mul.mpr this
    rw [hg] at h3
    simpa using h3
  have hbd : b = d := Int.le_antisymm (Int.le_of_dvd hd h1) (Int.le_of_dvd hb h2)
  subst hbd
  exact ⟨Int.eq_of_mul_eq_mul_right (by omega) e, rfl⟩
theorem rd_eq {t b a c : Int} (h : 0 < b) (k : Lo a c) (e : t * c = a * b) : rd t b = (a, c) := by
  have x := (rd_lo (t := t) h).ext k (by
    have e1 := rd_l (t := t) (b := b)
    have e2 := rd_r (t := t) (b := b)
    have hg := gc_pos (t := t) h
    generalize (rd t b).1 = x at *
    generalize (rd t b).2 = y at *
    generalize gc t b = g at *
    have : g * (x * c) = g * (a * y) := by grind
    exact Int.eq_of_mul_eq_mul_left (by omega) this)
  exact Prod.ext x.1 x.2
theorem rd_same {x y z w : Int} (h : 0 < y) (k : 0 < w) (e : x * w = z * y) : rd x y = rd z w := by
  have c := rd_cross (t := z) (b := w)
  refine rd_eq h (rd_lo k) ?_
  have : w * (x * (rd z w).2) = w * ((rd z w).1 * y) := by grind
  exact Int.eq_of_mul_eq_mul_left (by omega) this
def pl (p q : Int × Int) : Int × Int := rd (p.1 * q.2 + q.1 * p.2) (p.2 * q.2)
def mi (p q : Int × Int) : Int × Int := rd (p.1 * q.2 - q.1 * p.2) (p.2 * q.2)
def ti (p q : Int × Int) : Int × Int := rd (p.1 * q.1) (p.2 * q.2)
abbrev Lw (p : Int × Int) : Prop := Lo p.1 p.2
theorem rd_lw {t b : Int} (h : 0 < b) : Lw (rd t b) := rd_lo h
theorem pl_lw {p q : Int × Int} (h : 0 < p.2) (k : 0 < q.2) : Lw (pl p q) := rd_lo (Int.mul_pos h k)
theorem mi_lw {p q : Int × Int} (h : 0 < p.2) (k : 0 < q.2) : Lw (mi p q) := rd_lo (Int.mul_pos h k)
theorem ti_lw {p q : Int × Int} (h : 0 < p.2) (k : 0 < q.2) : Lw (ti p q) := rd_lo (Int.mul_pos h k)
theorem pl_comm (p q : Int × Int) : pl q p = pl p q := by
  unfold pl
  rw [Int.mul_comm q.2 p.2, Int.add_comm]
theorem mi_pl {p q : Int × Int} (h : Lw p) (k : 0 < q.2) : mi (pl p q) q = p := by
  have hp := pl_lw (p := p) (q := q) h.pos k
  have c : (pl p q).1 * (p.2 * q.2) = (p.1 * q.2 + q.1 * p.2) * (pl p q).2 := rd_cross
  unfold mi
  refine rd_eq (Int.mul_pos hp.pos k) h ?_
  generalize (pl p q).1 = x at *
  generalize (pl p q).2 = y at *
  grind
theorem pl_assoc {p q r : Int × Int} (h : 0 < p.2) (k : 0 < q.2) (l : 0 < r.2) : pl (pl p q) r = pl p (pl q r) := by
  have h1 := pl_lw (p := p) (q := q) h k
  have h2 := pl_lw (p := q) (q := r) k l
  have c1 : (pl p q).1 * (p.2 * q.2) = (p.1 * q.2 + q.1 * p.2) * (pl p q).2 := rd_cross
  have c2 : (pl q r).1 * (q.2 * r.2) = (q.1 * r.2 + r.1 * q.2) * (pl q r).2 := rd_cross
  have e1 : pl (pl p q) r = rd ((pl p q).1 * r.2 + r.1 * (pl p q).2) ((pl p q).2 * r.2) := rfl
  have e2 : pl p (pl q r) = rd (p.1 * (pl q r).2 + (pl q r).1 * p.2) (p.2 * (pl q r).2) := rfl
  rw [e1, e2]
  refine rd_same (Int.mul_pos h1.pos l) (Int.mul_pos h h2.pos) ?_
  generalize (pl p q).1 = x at *
  generalize (pl p q).2 = y at *
  generalize (pl q r).1 = z at *
  generalize (pl q r).2 = w at *
  have : q.2 * ((x * r.2 + r.1 * y) * (p.2 * w)) = q.2 * ((p.1 * w + z * p.2) * (y * r.2)) := by grind
  exact Int.eq_of_mul_eq_mul_left (by omega) this
theorem ti_pl {p q r : Int × Int} (h : 0 < p.2) (k : 0 < q.2) (l : 0 < r.2) : ti (pl p q) r = pl (ti p r) (ti q r) := by
  have h1 := pl_lw (p := p) (q := q) h k
  have h2 := ti_lw (p := p) (q := r) h l
  have h3 := ti_lw (p := q) (q := r) k l
  have c1 : (pl p q).1 * (p.2 * q.2) = (p.1 * q.2 + q.1 * p.2) * (pl p q).2 := rd_cross
  have c2 : (ti p r).1 * (p.2 * r.2) = (p.1 * r.1) * (ti p r).2 := rd_cross
  have c3 : (ti q r).1 * (q.2 * r.2) = (q.1 * r.1) * (ti q r).2 := rd_cross
  have e1 : ti (pl p q) r = rd ((pl p q).1 * r.1) ((pl p q).2 * r.2) := rfl
  have e2 : pl (ti p r) (ti q r) = rd ((ti p r).1 * (ti q r).2 + (ti q r).1 * (ti p r).2) ((ti p r).2 * (ti q r).2) := rfl
  rw [e1, e2]
  refine rd_same (Int.mul_pos h1.pos l) (Int.mul_pos h2.pos h3.pos) ?_
  generalize (pl p q).1 = x at *
  generalize (pl p q).2 = y at *
  generalize (ti p r).1 = z at *
  generalize (ti p r).2 = w at *
  generalize (ti q r).1 = u at *
  generalize (ti q r).2 = v at *
  have hpq : 0 < p.2 * q.2 := Int.mul_pos h k
  have a1 : p.2 * q.2 * (x * r.1 * (w * v)) = (p.1 * q.2 + q.1 * p.2) * y * r.1 * w * v := by grind
  have a2 : p.2 * q.2 * ((z * v + u * w) * (y * r.2)) = q.2 * v * y * (z * (p.2 * r.2)) + p.2 * w * y * (u * (q.2 * r.2)) := by grind
  have : p.2 * q.2 * (x * r.1 * (w * v)) = p.2 * q.2 * ((z * v + u * w) * (y * r.2)) := by
    rw [a1, a2, c2, c3]; grind
  exact Int.eq_of_mul_eq_mul_left (by omega) this
theorem Lo.neg {a b : Int} (h : Lo a b) : Lo (-a) b := ⟨h.pos, by have := h.one; unfold gc at *; rw [Int.neg_gcd]; exact this⟩
theorem lo01 : Lo 0 1 := ⟨by decide, by decide⟩
def Sm (k : Nat) (x : Int) : Prop := x.natAbs < 2 ^ k
theorem Sm.mono {k l : Nat} {x : Int} (h : Sm k x) (e : k ≤ l) : Sm l x := Nat.lt_of_lt_of_le h (Nat.pow_le_pow_right (by decide) e)
theorem Sm.mul {k l : Nat} {x y : Int} (h : Sm k x) (g : Sm l y) : Sm (k + l) (x * y) := by
  unfold Sm at *
  rw [Int.natAbs_mul, Nat.pow_add]
  exact Nat.mul_lt_mul'' h g
theorem Sm.add {k : Nat} {x y : Int} (h : Sm k x) (g : Sm k y) : Sm (k + 1) (x + y) := by
  unfold Sm at *
  rw [Nat.pow_succ]; omega
theorem Sm.sub {k : Nat} {x y : Int} (h : Sm k x) (g : Sm k y) : Sm (k + 1) (x - y) := by
  unfold Sm at *
  rw [Nat.pow_succ]; omega
theorem Sm.neg {k : Nat} {x : Int} (h : Sm k x) : Sm k (-x) := by unfold Sm at *; omega
theorem Sm.of {k : Nat} {x : Int} (h : -(2 ^ k : Nat) < x) (g : x < (2 ^ k : Nat)) : Sm k x := by unfold Sm; omega
theorem Sm.div {k : Nat} {x g : Int} (h : Sm k x) (hg : 0 < g) (d : g ∣ x) : Sm k (x / g) := by
  obtain ⟨c, rfl⟩ := d
  rw [Int.mul_ediv_cancel_left _ (by omega)]
  unfold Sm at *
  rw [Int.natAbs_mul] at h
  have : 1 * c.natAbs ≤ g.natAbs * c.natAbs := Nat.mul_le_mul_right _ (by omega)
  omega
theorem rd_sm {k : Nat} {t b : Int} (hb : 0 < b) (h : Sm k t) (g : Sm k b) : Sm k (rd t b).1 ∧ Sm k (rd t b).2 :=
  ⟨h.div (gc_pos hb) gc_dvd_l, g.div (gc_pos hb) gc_dvd_r⟩
structure Fr (k : Nat) (p : Int × Int) : Prop where
  lw : Lw p
  s1 : Sm k p.1
  s2 : Sm k p.2
theorem Fr.mono {k l : Nat} {p : Int × Int} (h : Fr k p) (e : k ≤ l) : Fr l p := ⟨h.lw, h.s1.mono e, h.s2.mono e⟩
theorem Fr.pos {k : Nat} {p : Int × Int} (h : Fr k p) : 0 < p.2 := h.lw.pos
theorem Fr.pl {k : Nat} {p q : Int × Int} (h : Fr k p) (g : Fr k q) : Fr (k + k + 1) (pl p q) :=
  have z := rd_sm (k := k + k + 1) (Int.mul_pos h.pos g.pos) ((h.s1.mul g.s2).add (g.s1.mul h.s2)) ((h.s2.mul g.s2).mono (by omega))
  ⟨pl_lw h.pos g.pos, z.1, z.2⟩
theorem Fr.mi {k : Nat} {p q : Int × Int} (h : Fr k p) (g : Fr k q) : Fr (k + k + 1) (mi p q) :=
  have z := rd_sm (k := k + k + 1) (Int.mul_pos h.pos g.pos) ((h.s1.mul g.s2).sub (g.s1.mul h.s2)) ((h.s2.mul g.s2).mono (by omega))
  ⟨mi_lw h.pos g.pos, z.1, z.2⟩
theorem Fr.ti {k : Nat} {p q : Int × Int} (h : Fr k p) (g : Fr k q) : Fr (k + k + 1) (ti p q) :=
  have z := rd_sm (k := k + k + 1) (Int.mul_pos h.pos g.pos) ((h.s1.mul g.s1).mono (by omega)) ((h.s2.mul g.s2).mono (by omega))
  ⟨ti_lw h.pos g.pos, z.1, z.2⟩
theorem Fr.rd {k : Nat} {t b : Int} (h : 0 < b) (s : Sm k t) (g : Sm k b) : Fr k (rd t b) := ⟨rd_lw h, (rd_sm h s g).1, (rd_sm h s g).2⟩
def low (t b : Int) : Int × Int := if b < 0 then rd (-t) (-b) else rd t b
theorem low_pos {t b : Int} (h : 0 < b) : low t b = rd t b := by unfold low; rw [if_neg (by omega)]
theorem low_fr {k : Nat} {t b : Int} (h : b ≠ 0) (s : Sm k t) (g : Sm k b) : Fr k (low t b) := by
  unfold low
  split
  · exact Fr.rd (by omega) s.neg g.neg
  · exact Fr.rd (by omega) s g
theorem floor_le {a b : Int} (h : 0 < b) : a / b * b ≤ a := Int.ediv_mul_le a (by omega)
theorem floor_lt {a b : Int} (h : 0 < b) : a < (a / b + 1) * b := Int.lt_ediv_add_one_mul_self a h
end Mth
namespace Mth
abbrev Bn := Option (Int × Bool)
def kp (p : Int × Int) : Bn → Bool
  | none => true
  | some (n, true) => decide (p.1 * 1 < n * p.2)
  | some (n, false) => !decide (n * p.2 < p.1 * 1)
def bs : Bn → Bn → Bn
  | some (n, s), some (m, t) => some (n + m, s || t)
  | _, _ => none
def Kp (p : Int × Int) : Bn → Prop
  | none => True
  | some (n, true) => p.1 < n * p.2
  | some (n, false) => p.1 ≤ n * p.2
theorem kp_iff {p : Int × Int} {b : Bn} : kp p b = true ↔ Kp p b := by
  rcases b with _ | ⟨n, _ | _⟩
  · simp [kp, Kp]
  · simp [kp, Kp]
  · simp [kp, Kp]
theorem Kp.rd {t b : Int} (h : 0 < b) {c : Bn} (k : Kp (t, b) c) : Kp (rd t b) c := by
  have e := rd_cross (t := t) (b := b)
  have l := (rd_lo (t := t) h).pos
  generalize Mth.rd t b = p at *
  rcases c with _ | ⟨n, _ | _⟩
  · trivial
  · show p.1 ≤ n * p.2
    have k' : t ≤ n * b := k
    have h1 : p.1 * b ≤ (n * p.2) * b := by
      have : t * p.2 ≤ (n * b) * p.2 := Int.mul_le_mul_of_nonneg_right k' (by omega)
      calc p.1 * b = t * p.2 := e
        _ ≤ (n * b) * p.2 := this
        _ = (n * p.2) * b := by grind
    exact Int.le_of_mul_le_mul_right h1 h
  · show p.1 < n * p.2
    have k' : t < n * b := k
    have h1 : p.1 * b < (n * p.2) * b := by
      have : t * p.2 < (n * b) * p.2 := Int.mul_lt_mul_of_pos_right k' l
      calc p.1 * b = t * p.2 := e
        _ < (n * b) * p.2 := this
        _ = (n * p.2) * b := by grind
    exact Int.lt_of_mul_lt_mul_right h1 (by omega)
theorem Kp.sum {p q : Int × Int} {a b : Bn} (hp : 0 < p.2) (hq : 0 < q.2) (h : Kp p a) (k : Kp q b) : Kp (p.1 * q.2 + q.1 * p.2, p.2 * q.2) (bs a b) := by
  rcases a with _ | ⟨n, s⟩
  · trivial
  rcases b with _ | ⟨m, t⟩
  · cases s <;> trivial
  have e1 : (n + m) * (p.2 * q.2) = (n * p.2) * q.2 + (m * q.2) * p.2 := by grind
  cases s <;> cases t
  · show p.1 * q.2 + q.1 * p.2 ≤ (n + m) * (p.2 * q.2)
    have h1 : p.1 ≤ n * p.2 := h
    have k1 : q.1 ≤ m * q.2 := k
    have a1 := Int.mul_le_mul_of_nonneg_right h1 (show 0 ≤ q.2 by omega)
    have a2 := Int.mul_le_mul_of_nonneg_right k1 (show 0 ≤ p.2 by omega)
    omega
  · show p.1 * q.2 + q.1 * p.2 < (n + m) * (p.2 * q.2)
    have h1 : p.1 ≤ n * p.2 := h
    have k1 : q.1 < m * q.2 := k
    have a1 := Int.mul_le_mul_of_nonneg_right h1 (show 0 ≤ q.2 by omega)
    have a2 := Int.mul_lt_mul_of_pos_right k1 hp
    omega
  · show p.1 * q.2 + q.1 * p.2 < (n + m) * (p.2 * q.2)
    have h1 : p.1 < n * p.2 := h
    have k1 : q.1 ≤ m * q.2 := k
    have a1 := Int.mul_lt_mul_of_pos_right h1 hq
    have a2 := Int.mul_le_mul_of_nonneg_right k1 (show 0 ≤ p.2 by omega)
    omega
  · show p.1 * q.2 + q.1 * p.2 < (n + m) * (p.2 * q.2)
    have h1 : p.1 < n * p.2 := h
    have k1 : q.1 < m * q.2 := k
    have a1 := Int.mul_lt_mul_of_pos_right h1 hq
    have a2 := Int.mul_lt_mul_of_pos_right k1 hp
    omega
def b2 (s : Bool) : Int := if s then 1 else 0
end Mth
namespace Mth
def tgt : Bn → Bn → Bool
  | none, _ => false
  | some _, none => true
  | some (n, s), some (m, t) => if n = m then s && !t else decide (n < m)
theorem tgt_ss (n m : Int) (s t : Bool) : tgt (some (n, s)) (some (m, t)) = if n = m then s && !t else decide (n < m) := rfl
theorem mul_lt_of {n m b : Int} (h : n < m) (hb : 0 < b) : n * b + b ≤ m * b := by
  have h1 : (n + 1) * b ≤ m * b := Int.mul_le_mul_of_nonneg_right (by omega) (by omega)
  have h2 : (n + 1) * b = n * b + b := by grind
  omega
theorem not_tgt_sub {a b : Bn} {p : Int × Int} (hp : 0 < p.2) (h : tgt a b = false) (k : Kp p b) : Kp p a := by
  rcases a with _ | ⟨n, s⟩
  · trivial
  rcases b with _ | ⟨m, t⟩
  · simp [tgt] at h
  rw [tgt_ss] at h
  by_cases e : n = m
  · rw [if_pos e] at h
    subst e
    cases s <;> cases t <;> simp at h
    · exact k
    · exact Int.le_of_lt k
    · exact k
  · rw [if_neg e] at h
    have hl : ¬ n < m := of_decide_eq_false h
    have hm := mul_lt_of (show m < n by omega) hp
    cases s <;> cases t
    · have k' : p.1 ≤ m * p.2 := k
      show p.1 ≤ n * p.2
      omega
    · have k' : p.1 < m * p.2 := k
      show p.1 ≤ n * p.2
      omega
    · have k' : p.1 ≤ m * p.2 := k
      show p.1 < n * p.2
      omega
    · have k' : p.1 < m * p.2 := k
      show p.1 < n * p.2
      omega
def sel (a b : Bn) (p : Int × Int) : Bool := !kp p a && kp p b
def cnt (a b : Bn) (ps : List (Int × Int)) : Int := ((ps.filter (sel a b)).length : Nat)
theorem cnt_zero {a b : Bn} {ps : List (Int × Int)} (hp : ∀ p ∈ ps, 0 < p.2) (h : tgt a b = false) : cnt a b ps = 0 := by
  unfold cnt
  rw [List.filter_eq_nil_iff.mpr]
  · rfl
  · intro p hm hs
    unfold sel at hs
    rw [Bool.and_eq_true, Bool.not_eq_true'] at hs
    have k := not_tgt_sub (hp p hm) h (kp_iff.mp hs.2)
    rw [kp_iff.mpr k] at hs
    cases hs.1
theorem cnt_pos {a b : Bn} {ps : List (Int × Int)} {p : Int × Int} (hm : p ∈ ps) (hs : sel a b p = true) : 0 < cnt a b ps := by
  unfold cnt
  have : p ∈ ps.filter (sel a b) := List.mem_filter.mpr ⟨hm, hs⟩
  have := List.length_pos_of_mem this
  omega
def numOf : Bn → List Int
  | none => []
  | some (n, _) => [n]
def nums (a b : Bn) : List Int := 0 :: (numOf a ++ numOf b)
def five (n : Int) : List (Int × Int) := [(n, 1), (2 * n - 1, 2), (2 * n + 1, 2), (n + 1, 1), (n - 1, 1)]
def half : Bn → Bn → Int
  | none, none => 0 + 0
  | none, some (m, _) => m + 0
  | some (n, _), none => n + 0
  | some (n, _), some (m, _) => m + n
def tr (a b : Bn) : List (Int × Int) := (nums a b).flatMap five ++ [low (half a b) 2]
structure Wit (a b : Bn) (ps : List (Int × Int)) : Prop where
  pos : ∀ p ∈ ps, 0 < p.2
  l : tgt a b = true → ∃ p ∈ ps, sel a b p = true
  r : tgt b a = true → ∃ p ∈ ps, sel b a p = true
theorem Wit.first {a b : Bn} {ps : List (Int × Int)} (w : Wit a b ps) : decide (0 < cnt a b ps) = tgt a b := by
  cases h : tgt a b
  · rw [cnt_zero w.pos h]; rfl
  · obtain ⟨p, h1, h2⟩ := w.l h
    exact decide_eq_true (cnt_pos h1 h2)
theorem Wit.symm {a b : Bn} {ps : List (Int × Int)} (w : Wit a b ps) : Wit b a ps := ⟨w.pos, w.r, w.l⟩
end Mth
namespace Mth
theorem gc1_iff {a b : Int} : gc a b = 1 ↔ Nat.Coprime a.natAbs b.natAbs := by
  unfold gc Nat.Coprime
  rw [Int.gcd]
  omega
theorem gc1_comm {a b : Int} (h : gc a b = 1) : gc b a = 1 := by
  rw [gc1_iff] at *; exact h.symm
theorem gc1_mul {t a b : Int} (h : gc t a = 1) (k : gc t b = 1) : gc t (a * b) = 1 := by
  rw [gc1_iff] at *
  rw [Int.natAbs_mul]
  exact h.mul_right k
theorem gc1_dvd {t s a b : Int} (h : gc t a = 1) (k : s ∣ t) (l : b ∣ a) : gc s b = 1 := by
  rw [gc1_iff] at *
  exact Nat.Coprime.coprime_dvd_left (Int.natAbs_dvd_natAbs.mpr k) (Nat.Coprime.coprime_dvd_right (Int.natAbs_dvd_natAbs.mpr l) h)
theorem gc1_add {a b m : Int} (h : gc a b = 1) : gc (a + m * b) b = 1 := by
  unfold gc at *
  rw [Int.gcd_comm, Int.gcd_add_mul_right_right, Int.gcd_comm]
  exact h
theorem gc1_div {a b : Int} (h : 0 < b) : gc (a / gc a b) (b / gc a b) = 1 := (rd_lo (t := a) h).one
theorem dvd_div {d a : Int} (h : d ∣ a) : a / d ∣ a := ⟨d, (Int.ediv_mul_cancel h).symm⟩
def sm (a b c e : Int) : Int × Int :=
  ((a * (e / gc b e) + c * (b / gc b e)) / gc (a * (e / gc b e) + c * (b / gc b e)) (gc b e),
   b / gc b e * (e / gc (a * (e / gc b e) + c * (b / gc b e)) (gc b e)))
theorem sm_eq {a b c e : Int} (h : Lo a b) (k : Lo c e) : sm a b c e = rd (a * e + c * b) (b * e) := by
  have hb := h.pos
  have he := k.pos
  have hg := gc_pos (t := b) he
  have d1 : gc b e ∣ b := gc_dvd_l
  have d2 : gc b e ∣ e := gc_dvd_r
  have e1 := Int.ediv_mul_cancel d1
  have e2 := Int.ediv_mul_cancel d2
  have q := gc1_div (a := b) he
  have p1 := dvd_div d1
  have p2 := dvd_div d2
  unfold sm
  generalize hg' : gc b e = g at *
  generalize hP : b / g = P at *
  generalize hE : e / g = E at *
  generalize hT : a * E + c * P = T at *
  have hl := gc_pos (t := T) hg
  have l1 : gc T g ∣ T := gc_dvd_l
  have l2 : gc T g ∣ g := gc_dvd_r
  have l3 : gc T g ∣ e := Int.dvd_trans l2 d2
  have f1 := Int.ediv_mul_cancel l1
  have f2 := Int.ediv_mul_cancel l2
  have f3 := Int.ediv_mul_cancel l3
  have u := gc1_div (a := T) hg
  have tP : gc T P = 1 := by
    rw [← hT]
    refine gc1_add ?_
    have x1 : gc P a = 1 := gc1_dvd (gc1_comm h.one) p1 (Int.dvd_refl a)
    exact gc1_comm (gc1_mul x1 q)
  have tE : gc T E = 1 := by
    rw [← hT, Int.add_comm]
    refine gc1_add ?_
    have x1 : gc E c = 1 := gc1_dvd (gc1_comm k.one) p2 (Int.dvd_refl c)
    exact gc1_comm (gc1_mul x1 (gc1_comm q))
  have p3 := dvd_div l1
  generalize hl' : gc T g = l at *
  generalize hT' : T / l = T' at *
  generalize hG' : g / l = G' at *
  have ee : e / l = E * G' := by
    rw [← e2, ← f2]
    have : E * (G' * l) = E * G' * l := by grind
    rw [this, Int.mul_ediv_cancel _ (by omega)]
  rw [ee]
  have hP0 : 0 < P := by
    have : 0 < P * g := by omega
    exact Int.pos_of_mul_pos_left this hg
  have hE0 : 0 < E := by
    have : 0 < E * g := by omega
    exact Int.pos_of_mul_pos_left this hg
  have hG0 : 0 < G' := by
    have : 0 < G' * l := by omega
    exact Int.pos_of_mul_pos_left this hl
  refine (rd_eq (Int.mul_pos hb he) ⟨Int.mul_pos hP0 (Int.mul_pos hE0 hG0), ?_⟩ ?_).symm
  · exact gc1_mul (gc1_dvd tP p3 (Int.dvd_refl P)) (gc1_mul (gc1_dvd tE p3 (Int.dvd_refl E)) u)
  · have : a * e + c * b = T * g := by rw [← hT, ← e1, ← e2]; grind
    rw [this, ← f1, ← e1, ← e2]
    rw [← f2]
    grind
def tm (a b c e : Int) : Int × Int := (a / gc a e * (c / gc c b), b / gc c b * (e / gc a e))
theorem tm_eq {a b c e : Int} (h : Lo a b) (k : Lo c e) : tm a b c e = rd (a * c) (b * e) := by
  have hb := h.pos
  have he := k.pos
  have hf := gc_pos (t := a) he
  have hs := gc_pos (t := c) hb
  have a1 : gc a e ∣ a := gc_dvd_l
  have a2 : gc a e ∣ e := gc_dvd_r
  have b1 : gc c b ∣ c := gc_dvd_l
  have b2 : gc c b ∣ b := gc_dvd_r
  have u := gc1_div (a := a) he
  have v := gc1_div (a := c) hb
  have p1 := dvd_div a1
  have p2 := dvd_div a2
  have p3 := dvd_div b1
  have p4 := dvd_div b2
  have e1 := Int.ediv_mul_cancel a1
  have e2 := Int.ediv_mul_cancel a2
  have e3 := Int.ediv_mul_cancel b1
  have e4 := Int.ediv_mul_cancel b2
  unfold tm
  generalize gc a e = f at *
  generalize gc c b = s at *
  generalize a / f = A at *
  generalize e / f = E at *
  generalize c / s = C at *
  generalize b / s = B at *
  have hE0 : 0 < E := by
    have : 0 < E * f := by omega
    exact Int.pos_of_mul_pos_left this hf
  have hB0 : 0 < B := by
    have : 0 < B * s := by omega
    exact Int.pos_of_mul_pos_left this hs
  refine (rd_eq (Int.mul_pos hb he) ⟨Int.mul_pos hB0 hE0, ?_⟩ ?_).symm
  · have x1 : gc A B = 1 := gc1_dvd h.one p1 p4
    have x2 : gc C E = 1 := gc1_dvd k.one p3 p2
    have y1 : gc A (B * E) = 1 := gc1_mul x1 u
    have y2 : gc C (B * E) = 1 := gc1_mul v x2
    exact gc1_comm (gc1_mul (gc1_comm y1) (gc1_comm y2))
  · rw [← e1, ← e2, ← e3, ← e4]; grind
theorem pl_sm {p q : Int × Int} (h : Lw p) (k : Lw q) : pl p q = sm p.1 p.2 q.1 q.2 := (sm_eq h k).symm
theorem mi_sm {p q : Int × Int} (h : Lw p) (k : Lw q) : mi p q = sm p.1 p.2 (-q.1) q.2 := by
  rw [sm_eq h (Lo.neg k)]
  unfold mi
  rw [Int.neg_mul, ← Int.sub_eq_add_neg]
theorem ti_tm {p q : Int × Int} (h : Lw p) (k : Lw q) : ti p q = tm p.1 p.2 q.1 q.2 := (tm_eq h k).symm
end Mth
namespace Dl
open PySem PySem.Spec PyProof.Rows L2
structure FlyB (P : Program) (w : World) (H H' : Hp) (s : Shared) (l : List Env) (B : Heap) (s' : Shared) : Prop where
  os : s'.os = s.os
  bare : AllBare s'.gens
  un : Un (frs l) [] H H' s.heap s'.heap
  hok : HOk P w H' B
  keepB : ∀ b o, s.heap.get? b = some o → H b = none → b ∉ frs l → B.get? b = some o
  thereB : ∀ b o, s.heap.get? b = some o → b ∉ frs l → ∃ o', B.get? b = some o'
def FlyX (P : Program) (w : World) (H H' : Hp) (s : Shared) (l : List Env) (x C : Addr) (s' : Shared) : Prop :=
  ∃ (B : Heap) (t : Addr), FlyB P w H H' s l B s' ∧ Heap.FlyingW B l x (.ref C) (.ref t) s'.heap
section
variable {P : Program} {w : World} {H H' : Hp} {s s' : Shared} {l : List Env} {B : Heap} {h' : Heap}
theorem FlyB.turn (F : FlyB P w H H' s l B s') (hf : s'.heap.FunFrames B l) (st : B.StaysIn h') (up : s'.heap.UpToSlots h') : FlyB P w H H' s l B { s' with heap := h' } where
  os := F.os
  bare := F.bare
  hok := F.hok
  keepB := F.keepB
  thereB := F.thereB
  un := by
    have sl : ∀ b o, s.heap.get? b = some o → H b = none → b ∈ frs l → ∃ sl, h'.get? b = some { o with slots := sl } := fun b o e n hb => by
      obtain ⟨sl, e1⟩ := F.un.slot b o e n hb (by simp)
      obtain ⟨_, o2, ho2, hd⟩ := hf.mem hb
      rw [e1] at ho2
      cases ho2
      obtain ⟨sl2, e2⟩ := up b _ e1 hd
      exact ⟨sl2, e2⟩
    refine ⟨fun b o e n hb _ => st b o (F.keepB b o e n hb), fun b o e n hb _ => sl b o e n hb, F.un.free, fun b o e _ => ?_, F.un.tups, F.un.frzs, F.un.tbls⟩
    by_cases hb : b ∈ frs l
    · obtain ⟨o1, e1⟩ := F.un.there b o e (by simp)
      obtain ⟨_, o2, ho2, hd⟩ := hf.mem hb
      obtain ⟨sl2, e2⟩ := up b _ ho2 hd
      exact ⟨_, e2⟩
    · obtain ⟨o1, e1⟩ := F.thereB b o e hb
      exact ⟨o1, st b o1 e1⟩
end
def XMade (X : Cx) (C : Addr) (σ : L2.St) (H : Hp) : Prop := ∀ (pins : List (Addr × Obj)) (s : Shared) (h' : Heap) (e : Addr) (vs : List Value), L2.Inv X pins σ H s → Heap.MadeExcOf s.heap h' e (.ref C) vs → X.xe (.ref e) { s with heap := h' }
def XFly (X : Cx) (C : Addr) (σ : L2.St) (H : Hp) : Prop := ∀ (pins : List (Addr × Obj)) (H₀ : Hp) (s : Shared) (x : Addr) (s' : Shared), L2.Inv X pins σ H₀ s → FlyX X.prog X.w H₀ H s X.stack x C s' → X.xe (.ref x) s'
section
variable {P : Program} {w : World} {K : PySem.W.Frag} {mg : Str → Option Value} {base : Heap} {N : List Str} {qual : Str} {scope : Scope} {f : Addr} {cd : Value} {A : Around} {outer : List Env} {s : Shared} {H : Hp} {E : XK}
end
end Dl
namespace Dl
open PySem PySem.Spec PyProof.Rows L2
inductive D where
  | non
  | bl (b : Bool)
  | int (i : Int)
  | str (x : Str)
  | tup (ds : List D)
  | lst (ds : List D)
  | seq (ds : List D)
  | ty (n : String)
  | dct
  | exc (C : Addr)
  | cls (C : Addr)
  | ms (ks : List Int) (ds : List D)
  | mf (ks : List Int) (ds : List D)
  | md (ks : List Int) (ds : List D)
def DctO (a : Addr) : HO := .ext fun h => ∃ o, h.get? a = some o ∧ o.cls = .type "dict"
def ExcO (a C : Addr) : HO := .ext fun h => ∃ o vs, h.get? a = some o ∧ o.cls = .ref C ∧ o.data = .fields vs
mutual
inductive Rep (K : PySem.W.Frag) (H : Hp) : V → D → Prop
  | non : Rep K H .non .non
  | bl (b : Bool) : Rep K H (.bl b) (.bl b)
  | int (i : Int) : Rep K H (.int i) (.int i)
  | str (x : Str) : Rep K H (.str x) (.str x)
  | ty (n : String) : Rep K H (.ty n) (.ty n)
  | tup {a : Addr} {vs : List V} {ds : List D} (h : SqT K H a vs) (r : Reps K H vs ds) : Rep K H (.ref a) (.tup ds)
  | lst {a : Addr} {vs : List V} {ds : List D} (h : H a = some (.lst vs)) (r : Reps K H vs ds) : Rep K H (.ref a) (.lst ds)
  | seq {a : Addr} {vs : List V} {ds : List D} (h : SqL K H a vs) (r : Reps K H vs ds) : Rep K H (.ref a) (.seq ds)
  | dct {a : Addr} (h : H a = some (DctO a)) : Rep K H (.ref a) .dct
  | exc {a C : Addr} (h : H a = some (ExcO a C)) : Rep K H (.ref a) (.exc C)
  | cls (C : Addr) : Rep K H (.ref C) (.cls C)
  | ms {a : Addr} {ks : List Int} {vs : List V} {ds : List D} (h : Rd H a (.dK ((ks.map Sum.inl).zip vs))) (l : ks.length = ds.length) (r : Reps K H vs ds) : Rep K H (.ref a) (.ms ks ds)
  | mf {a : Addr} {ks : List Int} {vs : List V} {ds : List D} (h : ∃ o, H a = some (.frz o (.dK ((ks.map Sum.inl).zip vs)))) (l : ks.length = ds.length) (r : Reps K H vs ds) : Rep K H (.ref a) (.mf ks ds)
  | md {a : Addr} {ks : List Int} {vs : List V} {ds : List D} (h : H a = some (.dK ((ks.map Sum.inl).zip vs))) (l : ks.length = ds.length) (r : Reps K H vs ds) : Rep K H (.ref a) (.md ks ds)
inductive Reps (K : PySem.W.Frag) (H : Hp) : List V → List D → Prop
  | nil : Reps K H [] []
  | cons {v : V} {d : D} {vs : List V} {ds : List D} (r : Rep K H v d) (t : Reps K H vs ds) : Reps K H (v :: vs) (d :: ds)
end
theorem sqT_same {K : PySem.W.Frag} {H H' : Hp} {a : Addr} {xs : List V} (e : Same H H') (h : SqT K H a xs) : SqT K H' a xs := by
  rcases h with (h | ⟨o, h⟩) | h
  · exact .inl (.inl (e _ _ h))
  · exact .inl (.inr ⟨o, e _ _ h⟩)
  · exact .inr h
mutual
theorem Rep.mono {K : PySem.W.Frag} {H H' : Hp} (e : Same H H') : ∀ {v : V} {d : D}, Rep K H v d → Rep K H' v d
  | _, _, .non => .non
  | _, _, .bl b => .bl b
  | _, _, .int i => .int i
  | _, _, .str x => .str x
  | _, _, .ty n => .ty n
  | _, _, .tup h r => .tup (sqT_same e h) (Reps.mono e r)
  | _, _, .lst h r => .lst (e _ _ h) (Reps.mono e r)
  | _, _, .seq h r => .seq (e.seq h) (Reps.mono e r)
  | _, _, .dct h => .dct (e _ _ h)
  | _, _, .exc h => .exc (e _ _ h)
  | _, _, .cls C => .cls C
  | _, _, .ms h l r => .ms (h.imp (e _ _) fun ⟨o, h⟩ => ⟨o, e _ _ h⟩) l (Reps.mono e r)
  | _, _, .mf ⟨o, h⟩ l r => .mf ⟨o, e _ _ h⟩ l (Reps.mono e r)
  | _, _, .md h l r => .md (e _ _ h) l (Reps.mono e r)
theorem Reps.mono {K : PySem.W.Frag} {H H' : Hp} (e : Same H H') : ∀ {vs : List V} {ds : List D}, Reps K H vs ds → Reps K H' vs ds
  | _, _, .nil => .nil
  | _, _, .cons r t => .cons (Rep.mono e r) (Reps.mono e t)
end
theorem Reps.length {K : PySem.W.Frag} {H : Hp} : ∀ {vs : List V} {ds : List D}, Reps K H vs ds → vs.length = ds.length
  | _, _, .nil => rfl
  | _, _, .cons _ t => congrArg (· + 1) (Reps.length t)
theorem Reps.get {K : PySem.W.Frag} {H : Hp} : ∀ {vs : List V} {ds : List D} {i : Nat} {d : D}, Reps K H vs ds → ds[i]? = some d → ∃ v, vs[i]? = some v ∧ Rep K H v d
  | _, _, _, _, .nil, e => by simp at e
  | _, _, 0, _, .cons r _, e => by simp at e; subst e; exact ⟨_, rfl, r⟩
  | _, _, i + 1, d, .cons _ t, e => by
    obtain ⟨v, h1, h2⟩ := Reps.get (i := i) (d := d) t (by simpa using e)
    exact ⟨v, by simpa using h1, h2⟩
theorem Reps.getV {K : PySem.W.Frag} {H : Hp} : ∀ {vs : List V} {ds : List D} {i : Nat} {v : V}, Reps K H vs ds → vs[i]? = some v → ∃ d, ds[i]? = some d ∧ Rep K H v d
  | _, _, _, _, .nil, e => by simp at e
  | _, _, 0, _, .cons r _, e => by simp at e; subst e; exact ⟨_, rfl, r⟩
  | _, _, i + 1, d, .cons _ t, e => by
    obtain ⟨v, h1, h2⟩ := Reps.getV (i := i) (v := d) t (by simpa using e)
    exact ⟨v, by simpa using h1, h2⟩
theorem Reps.append {K : PySem.W.Frag} {H : Hp} : ∀ {vs us : List V} {ds es : List D}, Reps K H vs ds → Reps K H us es → Reps K H (vs ++ us) (ds ++ es)
  | _, _, _, _, .nil, s => s
  | _, _, _, _, .cons r t, s => .cons r (Reps.append t s)
theorem Reps.take {K : PySem.W.Frag} {H : Hp} : ∀ {vs : List V} {ds : List D} (n : Nat), Reps K H vs ds → Reps K H (vs.take n) (ds.take n)
  | _, _, 0, _ => .nil
  | _, _, _ + 1, .nil => .nil
  | _, _, n + 1, .cons r t => .cons r (Reps.take n t)
theorem Reps.drop {K : PySem.W.Frag} {H : Hp} : ∀ {vs : List V} {ds : List D} (n : Nat), Reps K H vs ds → Reps K H (vs.drop n) (ds.drop n)
  | _, _, 0, r => r
  | _, _, _ + 1, .nil => .nil
  | _, _, n + 1, .cons _ t => Reps.drop n t
theorem Reps.ints {K : PySem.W.Frag} {H : Hp} : ∀ (ns : List Int), Reps K H (ns.map V.int) (ns.map D.int)
  | [] => .nil
  | n :: r => .cons (.int n) (Reps.ints r)
theorem Reps.atI {K : PySem.W.Frag} {H : Hp} {vs : List V} {ds : List D} {i : Int} {d : D} (r : Reps K H vs ds) (e : L2.atI ds i = some d) : ∃ v, L2.atI vs i = some v ∧ Rep K H v d := by
  unfold L2.atI at e ⊢
  rw [← r.length] at e
  obtain ⟨j, h1, h2⟩ := Option.bind_eq_some_iff.mp e
  obtain ⟨v, h3, h4⟩ := r.get h2
  exact ⟨v, by rw [h1]; exact h3, h4⟩
abbrev DS := List (Option D)
structure RepS (K : PySem.W.Frag) (H : Hp) (σ : L2.St) (δ : DS) : Prop where
  len : σ.length = δ.length
  val : ∀ (i : Nat) (d : D), δ[i]? = some (some d) → ∃ v, σ[i]? = some (some v) ∧ Rep K H v d
theorem RepS.mono {K : PySem.W.Frag} {H H' : Hp} {σ : L2.St} {δ : DS} (e : Same H H') (h : RepS K H σ δ) : RepS K H' σ δ :=
  ⟨h.len, fun i d q => let ⟨v, a, b⟩ := h.val i d q; ⟨v, a, b.mono e⟩⟩
theorem RepS.set {K : PySem.W.Frag} {H : Hp} {σ : L2.St} {δ : DS} {v : V} {d : D} (h : RepS K H σ δ) (i : Nat) (r : Rep K H v d) : RepS K H (σ.set i (some v)) (δ.set i (some d)) := by
  refine ⟨by rw [List.length_set, List.length_set]; exact h.len, fun j e q => ?_⟩
  have hl := h.len
  rw [List.getElem?_set] at q ⊢
  by_cases hj : i = j
  · subst hj
    rw [if_pos rfl] at q ⊢
    by_cases hi : i < δ.length
    · rw [if_pos hi] at q
      rw [if_pos (by omega)]
      have : d = e := by simpa using q
      subst this
      exact ⟨v, rfl, r⟩
    · rw [if_neg hi] at q; cases q
  · rw [if_neg hj] at q ⊢
    exact h.val j e q
theorem RepS.start {K : PySem.W.Frag} {H : Hp} {N : List Str} {vs : List V} {ds : List D} (r : Reps K H vs ds) : RepS K H (L2.start N vs) (ds.map some ++ List.replicate (N.length - ds.length) none) := by
  unfold L2.start
  refine ⟨by simp [r.length], fun i d q => ?_⟩
  have hi : i < ds.length := by
    by_cases hi : i < ds.length
    · exact hi
    · rw [List.getElem?_append_right (by simpa using hi), List.getElem?_replicate] at q
      split at q <;> cases q
  rw [List.getElem?_append_left (by simpa using hi), List.getElem?_map] at q
  obtain ⟨e, h1, h2⟩ := Option.map_eq_some_iff.mp q
  cases h2
  obtain ⟨v, h3, h4⟩ := r.get h1
  have hv : i < vs.length := by rw [r.length]; exact hi
  exact ⟨v, by rw [List.getElem?_append_left (by simpa using hv), List.getElem?_map, h3]; rfl, h4⟩
abbrev FD := DS → Option D
def up (K : PySem.W.Frag) (f : FD) : TE := fun σ H Q => ∃ δ d, RepS K H σ δ ∧ f δ = some d ∧ ∀ v H', Same H H' → Rep K H' v d → Q v H'
def PD (X : Cx) (e : Expr) (f : FD) : Prop := PE X e (up X.K f)
theorem imp {X : Cx} {e : Expr} {t t' : TE} (h : PE X e t) (w : ∀ σ H Q, t' σ H Q → t σ H Q) : PE X e t' := fun pins s σ H Q I q => h pins s σ H Q I (w σ H Q q)
theorem same_new {H : Hp} {p : Addr} (h : H p = none) (o : HO) : Same H (upd H p o) := fun b u q => by rw [upd_ne (ne_of_none q h)]; exact q
def fVar (i : Nat) : FD := fun δ => match δ[i]? with
  | some (some d) => some d
  | _ => none
def fC (d : D) : FD := fun _ => some d
def f2 (g : D → D → Option D) (fa fb : FD) : FD := fun δ => (fa δ).bind fun x => (fb δ).bind fun y => g x y
def f1 (g : D → Option D) (fa : FD) : FD := fun δ => (fa δ).bind g
section
variable {X : Cx} {a b e : Expr} {fa fb f : FD} {pos : Pos}
theorem pd_var (i : Nat) {x : Str} (hN : X.N[i]? = some x := by rfl) (hv : Vis X.env.scope x := by first | exact Or.inl rfl | exact Or.inr (Or.inl rfl) | exact Or.inr (Or.inr rfl)) (hd : (x == ("__debug__" : Str)) = false := by decide)
    (hcd : (x == ("__classdict__" : Str)) = false := by decide) : PD X (.Name x pos) (fVar i) :=
  imp (pe_var hN hv hd hcd) fun σ H Q ⟨δ, d, R, e, k⟩ => by
    unfold fVar at e
    split at e
    · rename_i d' h
      cases e
      obtain ⟨v, h1, h2⟩ := R.val i _ h
      exact ⟨v, h1, k v H (Same.refl H) h2⟩
    · cases e
theorem pd_int {i j} : PD X (.Constant (.int i) j pos) (fC (.int i)) := imp pe_int fun σ H Q ⟨δ, d, R, e, k⟩ => by cases e; exact k _ H (Same.refl H) (.int i)
theorem pd_bl {b j} : PD X (.Constant (.bool b) j pos) (fC (.bl b)) := imp pe_bl fun σ H Q ⟨δ, d, R, e, k⟩ => by cases e; exact k _ H (Same.refl H) (.bl b)
theorem pd_ty {x : Str} {n : String} (hg : Gl X x) (hm : X.mg x = none) (hv : bootBuiltins x = some (.type n)) (hn : x ≠ "__name__" := by decide) (hd : (x == ("__debug__" : Str)) = false := by decide) : PD X (.Name x pos) (fC (.ty n)) :=
  imp (pe_bltn (v := .ty n) hg hm hv rfl hn hd) fun σ H Q ⟨δ, d, R, e, k⟩ => by cases e; exact k _ H (Same.refl H) (.ty n)
def R2D (K : PySem.W.Frag) (r : R2) (g : D → D → Option D) : Prop :=
  ∀ (x y : V) (H : Hp) (Q : VK) (a b d : D), Rep K H x a → Rep K H y b → g a b = some d → (∀ w H', Same H H' → Rep K H' w d → Q w H') → r x y H Q
theorem imp2 {r : R2} {g : D → D → Option D} (hg : R2D X.K r g) {σ : L2.St} {H : Hp} {Q : VK} (h : up X.K (f2 g fa fb) σ H Q) : tOp r (up X.K fa) (up X.K fb) σ H Q := by
  obtain ⟨δ, d, R, e, k⟩ := h
  unfold f2 at e
  obtain ⟨x, ex, e⟩ := Option.bind_eq_some_iff.mp e
  obtain ⟨y, ey, e⟩ := Option.bind_eq_some_iff.mp e
  exact ⟨δ, x, R, ex, fun v H1 s1 r1 => ⟨δ, y, R.mono s1, ey, fun w H2 s2 r2 => hg v w H2 Q x y d (r1.mono s2) r2 e fun z H' s3 => k z H' ((s1.trans s2).trans s3)⟩⟩
theorem pd_op {op : Operator} {r : R2} {g : D → D → Option D} (ho : OpR X (binaryOp op) r) (hg : R2D X.K r g) (ha : PD X a fa) (hb : PD X b fb) : PD X (.BinOp a op b pos) (f2 g fa fb) :=
  imp (pe_op ho ha hb) fun _ _ _ => imp2 hg
theorem pd_cmp {op : CmpOp} {r : R2} {g : D → D → Option D} (ho : OpR X (compareOp op) r) (hg : R2D X.K r g) (ha : PD X a fa) (hb : PD X b fb) (hm : behindInMarks op b = false) : PD X (.Compare a [op] [b] pos) (f2 g fa fb) :=
  imp (pe_cmpR ho ha hb hm) fun _ _ _ => imp2 hg
theorem pd_ix0 {r : R2} {g : D → D → Option D} (hr : IxR X r) (hg : R2D X.K r g) (ha : PD X a fa) (hb : PD X b fb) (hs : PlainIx b) : PD X (.Subscript a b pos) (f2 g fa fb) :=
  imp (pe_ix hr ha hb hs) fun _ _ _ => imp2 hg
theorem R2D.or {K : PySem.W.Frag} {r r' : R2} {g g' : D → D → Option D} (h : R2D K r g) (h' : R2D K r' g') : R2D K (fun x y H Q => r x y H Q ∨ r' x y H Q) (fun a b => (g a b).or (g' a b)) := by
  intro x y H Q a b d ra rb e k
  cases q : g a b with
  | some z =>
    have e' : (g a b).or (g' a b) = some d := e
    rw [q] at e'
    cases e'
    exact .inl (h x y H Q a b _ ra rb q k)
  | none =>
    have e' : (g a b).or (g' a b) = some d := e
    rw [q] at e'
    exact .inr (h' x y H Q a b d ra rb e' k)
end
def Bd (x : Int) : Prop := x.natAbs < 2 ^ 9000
instance (x : Int) : Decidable (Bd x) := by unfold Bd; exact inferInstance
theorem Bd.bits {x : Int} (h : Bd x) : Builtin.Int.intBits x ≤ 2 ^ 20 := by
  have h' : x.natAbs < 2 ^ (2 ^ 20) := Nat.lt_of_lt_of_le h (Nat.pow_le_pow_right (by decide) (by decide))
  exact PySem.intBits_le_iff.mpr h'
theorem Bd.log {x : Int} (h : Bd x) (h0 : x ≠ 0) : x.natAbs.log2 < 9000 := (Nat.log2_lt (by omega)).mpr h
section
variable {X : Cx} {K : PySem.W.Frag}
def CMulB (i j : Int) : Prop := Bd i ∧ Bd j
theorem op_mulB : OpR X (binaryOp .Mult) (rI CMulB fun i j => .int (i * j)) := opI fun _ _ _ _ _ _ _ hc q => mul_int q (.of_bits hc.1.bits hc.2.bits)
def CDivB (_ j : Int) : Prop := 0 < j ∧ Bd j
theorem op_fdivB : OpR X (binaryOp .FloorDiv) (rI CDivB fun i j => .int (i / j)) := opI fun i j _ _ _ _ _ hc q => by
  have h1 : (0 : Int) < j := hc.1
  exact floordiv_int (by omega) (by rw [Int.fdiv_eq_ediv_of_nonneg i (by omega)]; exact q) (.inl (PyProof.noPylong_of_log2 (hc.2.log (by omega))))
def gI0 (g : Int → Int → D) : D → D → Option D
  | .int i, .int j => some (g i j)
  | _, _ => none
def gI (C : Int → Int → Prop) [∀ i j, Decidable (C i j)] (g : Int → Int → D) : D → D → Option D
  | .int i, .int j => if C i j then some (g i j) else none
  | _, _ => none
instance (i j : Int) : Decidable (CMulB i j) := by unfold CMulB; exact inferInstance
instance (i j : Int) : Decidable (CDivB i j) := by unfold CDivB; exact inferInstance
instance (i j : Int) : Decidable (CPow i j) := by unfold CPow; exact inferInstance
theorem r2_I0 {g : Int → Int → V} {g' : Int → Int → D} (h : ∀ H i j, Rep K H (g i j) (g' i j)) : R2D K (rI0 g) (gI0 g') := by
  intro x y H Q a b d ra rb e k
  cases ra with
  | int i =>
    cases rb with
    | int j => cases e; exact ⟨i, j, rfl, rfl, k _ H (Same.refl H) (h H i j)⟩
    | _ => cases e
  | _ => cases e
theorem r2_I {C : Int → Int → Prop} [∀ i j, Decidable (C i j)] {g : Int → Int → V} {g' : Int → Int → D} (h : ∀ H i j, Rep K H (g i j) (g' i j)) : R2D K (rI C g) (gI C g') := by
  intro x y H Q a b d ra rb e k
  cases ra with
  | int i =>
    cases rb with
    | int j =>
      have e' : (if C i j then some (g' i j) else none) = some d := e
      by_cases hc : C i j
      · rw [if_pos hc] at e'; cases e'; exact ⟨i, j, rfl, rfl, hc, k _ H (Same.refl H) (h H i j)⟩
      · rw [if_neg hc] at e'; cases e'
    | _ => cases e
  | _ => cases e
end
def gCat : D → D → Option D
  | .lst xs, .lst ys => if xs.length + ys.length ≤ 1000 then some (.lst (xs ++ ys)) else none
  | _, _ => none
theorem le_line {n : Nat} (h : n ≤ 1000) : n ≤ sizeLine := Nat.le_of_lt (small1000 h)
theorem r2_cat {K : PySem.W.Frag} : R2D K rCat gCat := by
  intro x y H Q a b d ra rb e k
  cases ra with
  | @lst p xs ds hp rp =>
    cases rb with
    | @lst q ys es hq rq =>
      have e' : (if ds.length + es.length ≤ 1000 then some (D.lst (ds ++ es)) else none) = some d := e
      by_cases hc : ds.length + es.length ≤ 1000
      · rw [if_pos hc] at e'; cases e'
        refine ⟨p, q, xs, ys, rfl, rfl, hp, hq, le_line (by rw [rp.length, rq.length]; exact hc), fun l hl => ?_⟩
        have s := same_new hl (.lst (xs ++ ys))
        exact k _ _ s (.lst upd_same ((rp.append rq).mono s))
      · rw [if_neg hc] at e'; cases e'
    | _ => cases e
  | _ => cases e
def gAdd : D → D → Option D := fun a b => (gI0 (fun i j => .int (i + j)) a b).or (gCat a b)
def gIx : D → D → Option D
  | .tup ds, .int i => L2.atI ds i
  | .lst ds, .int i => L2.atI ds i
  | .seq ds, .int i => L2.atI ds i
  | _, _ => none
theorem r2_ix {K : PySem.W.Frag} : R2D K (fun x y H Q => rIxL K x y H Q ∨ rIxT K x y H Q) gIx := by
  intro x y H Q a b d ra rb e k
  cases rb with
  | int i =>
    cases ra with
    | @tup p vs ds hp rp =>
      have e' : L2.atI ds i = some d := e
      obtain ⟨v, h1, h2⟩ := rp.atI e'
      exact .inr ⟨p, vs, i, v, rfl, rfl, hp, h1, k v H (Same.refl H) h2⟩
    | @lst p vs ds hp rp =>
      have e' : L2.atI ds i = some d := e
      obtain ⟨v, h1, h2⟩ := rp.atI e'
      exact .inl ⟨p, vs, i, v, rfl, rfl, SqL.of hp, h1, k v H (Same.refl H) h2⟩
    | @seq p vs ds hp rp =>
      have e' : L2.atI ds i = some d := e
      obtain ⟨v, h1, h2⟩ := rp.atI e'
      exact .inl ⟨p, vs, i, v, rfl, rfl, hp, h1, k v H (Same.refl H) h2⟩
    | _ => cases e
  | _ => cases ra <;> cases e
section
variable {X : Cx} {a b e : Expr} {fa fb f : FD} {pos : Pos}
theorem pd_add (ha : PD X a fa) (hb : PD X b fb) : PD X (.BinOp a .Add b pos) (f2 gAdd fa fb) := pd_op (op_add.or op_cat) ((r2_I0 fun _ _ _ => .int _).or r2_cat) ha hb
theorem pd_sub (ha : PD X a fa) (hb : PD X b fb) : PD X (.BinOp a .Sub b pos) (f2 (gI0 fun i j => .int (i - j)) fa fb) := pd_op op_sub (r2_I0 fun _ _ _ => .int _) ha hb
theorem pd_mul (ha : PD X a fa) (hb : PD X b fb) : PD X (.BinOp a .Mult b pos) (f2 (gI CMulB fun i j => .int (i * j)) fa fb) := pd_op op_mulB (r2_I fun _ _ _ => .int _) ha hb
theorem pd_fdiv (ha : PD X a fa) (hb : PD X b fb) : PD X (.BinOp a .FloorDiv b pos) (f2 (gI CDivB fun i j => .int (i / j)) fa fb) := pd_op op_fdivB (r2_I fun _ _ _ => .int _) ha hb
theorem pd_mod (ha : PD X a fa) (hb : PD X b fb) : PD X (.BinOp a .Mod b pos) (f2 (gI (fun _ j => 0 < j) fun i j => .int (i % j)) fa fb) := pd_op op_mod (r2_I fun _ _ _ => .int _) ha hb
theorem pd_pow (ha : PD X a fa) (hb : PD X b fb) : PD X (.BinOp a .Pow b pos) (f2 (gI CPow fun i j => .int (i ^ j.toNat)) fa fb) := pd_op op_pow (r2_I fun _ _ _ => .int _) ha hb
theorem pd_ix (ha : PD X a fa) (hb : PD X b fb) (hs : PlainIx b := by intro _ _; rfl) : PD X (.Subscript a b pos) (f2 gIx fa fb) := pd_ix0 (ix_list.or ix_tup) r2_ix ha hb hs
def gNeg : D → Option D
  | .int i => some (.int (-i))
  | _ => none
theorem pd_neg (ha : PD X a fa) : PD X (.UnaryOp .USub a pos) (f1 gNeg fa) := imp (pe_un un_neg ha) fun σ H Q ⟨δ, d, R, e, k⟩ => by
  unfold f1 at e
  obtain ⟨x, ex, e⟩ := Option.bind_eq_some_iff.mp e
  refine ⟨δ, x, R, ex, fun v H1 s1 r1 => ?_⟩
  cases r1 with
  | int i => cases e; exact ⟨i, rfl, k _ H1 s1 (.int _)⟩
  | _ => cases e
end
abbrev FT := DS → Option Bool
def upT (K : PySem.W.Frag) (f : FT) : TT := fun σ H Q => ∃ δ b, RepS K H σ δ ∧ f δ = some b ∧ ∀ H', Same H H' → Q b H'
def PTD (X : Cx) (e : Expr) (f : FT) : Prop := PT X e (upT X.K f)
def PWD (X : Cx) (e : Expr) (f : FT) : Prop := PW X e (upT X.K f)
theorem impT {X : Cx} {e : Expr} {t t' : TT} (h : PT X e t) (w : ∀ σ H Q, t' σ H Q → t σ H Q) : PT X e t' := fun pins s σ H Q I q => h pins s σ H Q I (w σ H Q q)
theorem impW {X : Cx} {e : Expr} {t t' : TT} (h : PW X e t) (w : ∀ σ H Q, t' σ H Q → t σ H Q) : PW X e t' := fun wh pins s σ H Q I q => h wh pins s σ H Q I (w σ H Q q)
def asB : D → Option Bool
  | .bl b => some b
  | _ => none
def fT (f : FD) : FT := fun δ => (f δ).bind asB
def fNotT (f : FT) : FT := fun δ => (f δ).map not
def fAndT (f g : FT) : FT := fun δ => (f δ).bind fun b => match b with
  | true => g δ
  | false => some false
def fOrT (f g : FT) : FT := fun δ => (f δ).bind fun b => match b with
  | true => some true
  | false => g δ
section
variable {X : Cx} {a b e : Expr} {fa fb f : FD} {ta tb : FT} {rest : List Expr} {pos : Pos}
theorem asB_of {K : PySem.W.Frag} {t : TE} (w : ∀ σ H Q, up K f σ H Q → t σ H Q) {σ : L2.St} {H : Hp} {Q : Bool → Hp → Prop} (h : upT K (fT f) σ H Q) : t σ H fun x H1 => ∃ c, x = .bl c ∧ Q c H1 := by
  obtain ⟨δ, b, R, e, k⟩ := h
  unfold fT at e
  obtain ⟨d, ed, e⟩ := Option.bind_eq_some_iff.mp e
  refine w σ H _ ⟨δ, d, R, ed, fun v H' s r => ?_⟩
  cases r with
  | bl c => cases e; exact ⟨_, rfl, k H' s⟩
  | _ => cases e
theorem ptd_val (h : PD X e f) (he : ∀ whole, isTrue e X.env whole = (do let v ← whole; standAt e.pos; holding [v] (truthy v)) := by intro _; rfl) : PTD X e (fT f) :=
  impT (pt_val h he) fun _ _ _ q => asB_of (fun _ _ _ z => z) q
theorem ptd_cmp {op : CmpOp} {r : R2} {g : D → D → Option D} (ho : OpR X (compareOp op) r) (hg : R2D X.K r g) (ha : PD X a fa) (hb : PD X b fb) (hm : behindInMarks op b = false) : PTD X (.Compare a [op] [b] pos) (fT (f2 g fa fb)) :=
  impT (pt_cmpR ho ha hb hm) fun _ _ _ q => asB_of (fun _ _ _ z => imp2 hg z) q
theorem ptd_not (ha : PTD X a ta) : PTD X (.UnaryOp .Not a pos) (fNotT ta) := impT (pt_not ha) fun σ H Q ⟨δ, b, R, e, k⟩ => by
  unfold fNotT at e
  obtain ⟨c, ec, e⟩ := Option.map_eq_some_iff.mp e
  exact ⟨δ, c, R, ec, fun H' s => by have := k H' s; rw [← e] at this; exact this⟩
theorem PWD.pt (h : PWD X e ta) : PTD X e ta := h _
theorem pwd_or1 (ha : PTD X a ta) : PWD X (.BoolOp .Or [a] pos) ta := pw_or1 ha
theorem pwd_or (ha : PTD X a ta) (hb : PWD X (.BoolOp .Or (b :: rest) pos) tb) : PWD X (.BoolOp .Or (a :: b :: rest) pos) (fOrT ta tb) := impW (pw_or ha hb) fun σ H Q ⟨δ, c, R, e, k⟩ => by
  unfold fOrT at e
  obtain ⟨d, ed, e⟩ := Option.bind_eq_some_iff.mp e
  refine ⟨δ, d, R, ed, fun H' s => ?_⟩
  cases d with
  | false => exact ⟨δ, c, R.mono s, e, fun H2 s2 => k H2 (s.trans s2)⟩
  | true => cases e; exact k H' s
def fAndV (f g : FD) : FD := fun δ => (f δ).bind fun x => match x with
  | .bl true => g δ
  | .bl false => some (.bl false)
  | _ => none
def fOrV (f g : FD) : FD := fun δ => (f δ).bind fun x => match x with
  | .bl true => some (.bl true)
  | .bl false => g δ
  | _ => none
def gNot : D → Option D
  | .bl b => some (.bl (!b))
  | _ => none
theorem pd_one {op} (h : PD X a f) : PD X (.BoolOp op [a] pos) f := pe_one h
theorem pd_and (ha : PD X a fa) (hb : PD X (.BoolOp .And (b :: rest) pos) fb) : PD X (.BoolOp .And (a :: b :: rest) pos) (fAndV fa fb) := imp (pe_and ha hb) fun σ H Q ⟨δ, d, R, e, k⟩ => by
  unfold fAndV at e
  obtain ⟨x, ex, e⟩ := Option.bind_eq_some_iff.mp e
  refine ⟨δ, x, R, ex, fun v H1 s1 r1 => ?_⟩
  cases r1 with
  | bl c =>
    refine ⟨c, rfl, ?_⟩
    cases c with
    | true => rw [if_pos rfl]; exact ⟨δ, d, R.mono s1, e, fun w H2 s2 => k w H2 (s1.trans s2)⟩
    | false => rw [if_neg Bool.false_ne_true]; cases e; exact k _ H1 s1 (.bl false)
  | _ => cases e
theorem pd_not (ha : PD X a fa) : PD X (.UnaryOp .Not a pos) (f1 gNot fa) := imp (pe_not ha) fun σ H Q ⟨δ, d, R, e, k⟩ => by
  unfold f1 at e
  obtain ⟨x, ex, e⟩ := Option.bind_eq_some_iff.mp e
  refine ⟨δ, x, R, ex, fun v H1 s1 r1 => ?_⟩
  cases r1 with
  | bl c => cases e; exact ⟨c, rfl, k _ H1 s1 (.bl _)⟩
  | _ => cases e
end
abbrev FA := DS → Option (List D)
def upA (K : PySem.W.Frag) (n : Nat) (f : FA) : TA := fun σ H Q => ∃ δ ds, RepS K H σ δ ∧ f δ = some ds ∧ ∀ vs H', Same H H' → Reps K H' vs ds → vs.length = n → Q vs H'
def PAD (X : Cx) (es : List Expr) (f : FA) : Prop := PA X es (upA X.K es.length f)
theorem impA {X : Cx} {es : List Expr} {t t' : TA} (h : PA X es t) (w : ∀ σ H Q, t' σ H Q → t σ H Q) : PA X es t' := fun pos pins s σ H Q I q => h pos pins s σ H Q I (w σ H Q q)
def faNil : FA := fun _ => some []
def faCons (f : FD) (g : FA) : FA := fun δ => (f δ).bind fun x => (g δ).bind fun xs => some (x :: xs)
def pureSp (K : PySem.W.Frag) (n : Nat) (G : List D → Option D) : Sp := fun vs H Q _ => vs.length = n ∧ ∃ ds d, Reps K H vs ds ∧ G ds = some d ∧ ∀ v H', Same H H' → Rep K H' v d → Q v H'
def fTup (g : FA) : FD := fun δ => (g δ).bind fun ds => some (.tup ds)
def fLst (g : FA) : FD := fun δ => (g δ).bind fun ds => some (.lst ds)
def fCall (G : List D → Option D) (g : FA) : FD := fun δ => (g δ).bind G
section
variable {X : Cx} {e : Expr} {es : List Expr} {f : FD} {g : FA} {pos p : Pos}
theorem pad_nil : PAD X [] faNil := impA pa_nil fun σ H Q ⟨δ, ds, R, e, k⟩ => by cases e; exact k [] H (Same.refl H) .nil rfl
theorem pad_cons (ha : PD X e f) (hr : PAD X es g) (hs : starEach (e :: es) X.env = (false, eval e X.env) :: starEach es X.env := by rfl) : PAD X (e :: es) (faCons f g) := impA (pa_cons ha hr hs) fun σ H Q ⟨δ, ds, R, q, k⟩ => by
  unfold faCons at q
  obtain ⟨x, ex, q⟩ := Option.bind_eq_some_iff.mp q
  obtain ⟨xs, exs, q⟩ := Option.bind_eq_some_iff.mp q
  cases q
  exact ⟨δ, x, R, ex, fun v H1 s1 r1 => ⟨δ, xs, R.mono s1, exs, fun vs H2 s2 r2 l => k (v :: vs) H2 (s1.trans s2) (.cons (r1.mono s2) r2) (congrArg (· + 1) l)⟩⟩
theorem pd_tup {x1} (h : PAD X es g) (hz : es.length ≤ 1000 := by decide) : PD X (.Tuple es x1 pos) (fTup g) := imp (pe_tup h) fun σ H Q ⟨δ, d, R, q, k⟩ => by
  unfold fTup at q
  obtain ⟨ds, eds, q⟩ := Option.bind_eq_some_iff.mp q
  cases q
  refine ⟨δ, ds, R, eds, fun vs H1 s1 r1 l => ⟨le_line (by rw [l]; exact hz), fun p hp => ?_⟩⟩
  have s := same_new hp (.tup vs)
  exact k _ _ (s1.trans s) (.tup (SqT.of upd_same) (r1.mono s))
theorem pd_lst (h : PAD X es g) (hz : es.length ≤ 1000 := by decide) : PD X (.List es pos) (fLst g) := imp (pe_lst h) fun σ H Q ⟨δ, d, R, q, k⟩ => by
  unfold fLst at q
  obtain ⟨ds, eds, q⟩ := Option.bind_eq_some_iff.mp q
  cases q
  refine ⟨δ, ds, R, eds, fun vs H1 s1 r1 l => ⟨le_line (by rw [l]; exact hz), fun p hp => ?_⟩⟩
  have s := same_new hp (.lst vs)
  exact k _ _ (s1.trans s) (.lst upd_same (r1.mono s))
theorem pd_call {k n : Nat} {x : Str} {f : Addr} {fd : FuncData} {ps : List Str} {G : List D → Option D} (F : FnOk X.prog X.w X.K X.mg X.base CX0 k f fd ps (pureSp X.K n G)) (hr : Room k X.A) (hg : Gl X x) (hm : X.mg x = some (.ref f)) (hk : PySem.W.keepIn X.K (.ref f) = true) (hb : Binds X.K fd ps [])
    (ha : PAD X (e :: es) g) (hn : (e :: es).length = n := by rfl) (hdb : (x == ("__debug__" : Str)) = false := by decide) (he : starEach (e :: es) X.env = (false, eval e X.env) :: starEach es X.env := by rfl) (hpl : (backTo pos (starEach es X.env)).any (·.1) = false := by rfl) :
    PD X (.Call (.Name x p) (e :: es) [] pos) (fCall G g) := imp (pe_call F hr hg hm hk hb .nil (pass0) ha hdb he hpl) fun σ H Q ⟨δ, d, R, q, k⟩ => by
  unfold fCall at q
  obtain ⟨ds, eds, q⟩ := Option.bind_eq_some_iff.mp q
  refine ⟨δ, ds, R, eds, fun vs H1 s1 r1 l => ?_⟩
  show pureSp X.K n G (vs ++ []) H1 Q E0
  rw [List.append_nil]
  exact ⟨l.trans hn, ds, d, r1, q, fun v H' s => k v H' (s1.trans s)⟩
def CallD (K : PySem.W.Frag) (r : List V → Hp → VK → Prop) (G : List D → Option D) : Prop :=
  ∀ (xs : List V) (H : Hp) (Q : VK) (ds : List D) (d : D), Reps K H xs ds → G ds = some d → (∀ w H', Same H H' → Rep K H' w d → Q w H') → r xs H Q
theorem imp_cb {r : List V → Hp → VK → Prop} {G : List D → Option D} {n : Nat} (hG : CallD X.K r G) {σ : L2.St} {H : Hp} {Q : VK} (h : up X.K (fCall G g) σ H Q) : tCB r (upA X.K n g) σ H Q := by
  obtain ⟨δ, d, R, q, k⟩ := h
  unfold fCall at q
  obtain ⟨ds, eds, q⟩ := Option.bind_eq_some_iff.mp q
  exact ⟨δ, ds, R, eds, fun vs H1 s1 r1 _ => hG vs H1 Q ds d r1 q fun w H' s => k w H' (s1.trans s)⟩
theorem pd_callB {id : String} {x : Str} {r : List V → Hp → VK → Prop} {G : List D → Option D} (hc : CallR X (.builtin id) r) (hG : CallD X.K r G) (hg : Gl X x) (hm : X.mg x = none) (hv : bootBuiltins x = some (.builtin id)) (ha : PAD X (e :: es) g) (hn : x ≠ "__name__" := by decide) (hdb : (x == ("__debug__" : Str)) = false := by decide)
    (he : starEach (e :: es) X.env = (false, eval e X.env) :: starEach es X.env := by rfl) (hpl : (backTo pos (starEach es X.env)).any (·.1) = false := by rfl) : PD X (.Call (.Name x p) (e :: es) [] pos) (fCall G g) :=
  imp (pe_callB hc hg hm hv ha hn hdb he hpl) fun _ _ _ h => imp_cb hG h
theorem pd_callTy {T : String} {x : Str} {r : List V → Hp → VK → Prop} {G : List D → Option D} (hc : CallR X (.type T) r) (hG : CallD X.K r G) (hg : Gl X x) (hm : X.mg x = none) (hv : bootBuiltins x = some (.type T)) (ha : PAD X (e :: es) g) (hn : x ≠ "__name__" := by decide) (hdb : (x == ("__debug__" : Str)) = false := by decide)
    (he : starEach (e :: es) X.env = (false, eval e X.env) :: starEach es X.env := by rfl) (hpl : (backTo pos (starEach es X.env)).any (·.1) = false := by rfl) : PD X (.Call (.Name x p) (e :: es) [] pos) (fCall G g) :=
  imp (pe_callTy hc hg hm hv ha hn hdb he hpl) fun _ _ _ h => imp_cb hG h
end
theorem reps1 {K : PySem.W.Frag} {H : Hp} {xs : List V} {d : D} (r : Reps K H xs [d]) : ∃ x, xs = [x] ∧ Rep K H x d := by
  cases r with
  | cons a t => cases t; exact ⟨_, rfl, a⟩
theorem reps2 {K : PySem.W.Frag} {H : Hp} {xs : List V} {d e : D} (r : Reps K H xs [d, e]) : ∃ x y, xs = [x, y] ∧ Rep K H x d ∧ Rep K H y e := by
  cases r with
  | cons a t =>
    obtain ⟨y, h1, h2⟩ := reps1 t
    subst h1
    exact ⟨_, y, rfl, a, h2⟩
def gAbs : List D → Option D
  | [.int i] => some (.int (i.natAbs : Int))
  | _ => none
theorem cd_abs {K : PySem.W.Frag} : CallD K (fun xs H Q => ∃ i, xs = [.int i] ∧ Q (.int (if i < 0 then -i else i)) H) gAbs := by
  intro xs H Q ds d r e k
  unfold gAbs at e
  split at e
  · rename_i i
    cases e
    obtain ⟨x, rfl, rx⟩ := reps1 r
    cases rx
    refine ⟨i, rfl, ?_⟩
    have e : (if i < 0 then -i else i) = (i.natAbs : Int) := by split <;> omega
    rw [e]
    exact k _ H (Same.refl H) (.int _)
  · cases e
def gInt : List D → Option D
  | [.int i] => some (.int i)
  | [.bl b] => some (.int (if b then 1 else 0))
  | _ => none
theorem cd_int {K : PySem.W.Frag} : CallD K (fun xs H Q => (∃ i, xs = [.int i] ∧ Q (.int i) H) ∨ ∃ k, xs = [.bl k] ∧ Q (.int (if k then 1 else 0)) H) gInt := by
  intro xs H Q ds d r e k
  unfold gInt at e
  split at e
  · rename_i i
    cases e
    obtain ⟨x, rfl, rx⟩ := reps1 r
    cases rx
    exact .inl ⟨i, rfl, k _ H (Same.refl H) (.int _)⟩
  · rename_i b
    cases e
    obtain ⟨x, rfl, rx⟩ := reps1 r
    cases rx
    exact .inr ⟨b, rfl, k _ H (Same.refl H) (.int _)⟩
  · cases e
def gLen : List D → Option D
  | [.tup ds] => some (.int ds.length)
  | [.lst ds] => some (.int ds.length)
  | [.seq ds] => some (.int ds.length)
  | _ => none
theorem cd_len {K : PySem.W.Frag} : CallD K (fun xs H Q => ∃ p ys, xs = [.ref p] ∧ (SqL K H p ys ∨ SqT K H p ys) ∧ Q (.int ys.length) H) gLen := by
  intro xs H Q ds d r e k
  unfold gLen at e
  split at e
  · cases e
    obtain ⟨x, rfl, rx⟩ := reps1 r
    cases rx with
    | @tup p vs _ hp rp => exact ⟨p, vs, rfl, .inr hp, by rw [rp.length]; exact k _ H (Same.refl H) (.int _)⟩
  · cases e
    obtain ⟨x, rfl, rx⟩ := reps1 r
    cases rx with
    | @lst p vs _ hp rp => exact ⟨p, vs, rfl, .inl (SqL.of hp), by rw [rp.length]; exact k _ H (Same.refl H) (.int _)⟩
  · cases e
    obtain ⟨x, rfl, rx⟩ := reps1 r
    cases rx with
    | @seq p vs _ hp rp => exact ⟨p, vs, rfl, .inl hp, by rw [rp.length]; exact k _ H (Same.refl H) (.int _)⟩
  · cases e
def tyOf : D → Option String
  | .non => some "NoneType"
  | .bl _ => some "bool"
  | .int _ => some "int"
  | .str _ => some "str"
  | .tup _ => some "tuple"
  | .lst _ => some "list"
  | .seq _ => some "list"
  | .dct => some "dict"
  | .ty _ => none
  | .exc _ => none
  | .cls _ => none
  | .ms _ _ => none
  | .mf _ _ => none
  | .md _ _ => none
def IsiOk (n : String) (d : D) (b : Bool) : Prop := ∃ t, tyOf d = some t ∧ ∀ K : PySem.W.Frag, PySem.W.kitOne K (.type t) (.type n) = some b
def rIsi (K : PySem.W.Frag) : List V → Hp → VK → Prop := fun xs H Q => ∃ x n d b, xs = [x, .ty n] ∧ Rep K H x d ∧ IsiOk n d b ∧ Q (.bl b) H
theorem call_isi {X : Cx} : CallR X (.builtin "isinstance") (rIsi X.K) := by
  intro pins s σ H xs us Q I r h
  obtain ⟨x, n, d, b, rfl, rx, ⟨t, ht, hk⟩, q⟩ := h
  obtain ⟨u, w', rfl, ru, rw'⟩ := vals2 r
  cases (show w' = Value.type n from rw')
  have e := hk X.K
  have fin : ∀ tk, EP X pins σ Q (.bool b) { s with toks := tk } := fun tk => ⟨.bl b, H, I.tok _, rfl, q⟩
  cases rx with
  | non => cases ht; cases (show u = Value.none from ru); exact PySem.W.kia_one PySem.W.kitx_none I.kIn True.intro e (fun z => nomatch z) fin
  | bl y => cases ht; cases (show u = Value.bool y from ru); exact PySem.W.kia_one PySem.W.kitx_bool I.kIn True.intro e (fun z => nomatch z) fin
  | int i => cases ht; obtain ⟨t, z⟩ := (show ∃ t, u = Value.int i t from ru); cases z; exact PySem.W.kia_one PySem.W.kitx_int I.kIn True.intro e (fun z => nomatch z) fin
  | str y => cases ht; obtain ⟨t, z⟩ := (show ∃ t, u = Value.str y t from ru); cases z; exact PySem.W.kia_one PySem.W.kitx_str I.kIn True.intro e (fun z => nomatch z) fin
  | ty n => cases ht
  | exc h => cases ht
  | cls C => cases ht
  | ms h l r => cases ht
  | mf h l r => cases ht
  | md h l r => cases ht
  | @dct a h =>
    cases ht
    cases (show u = Value.ref a from ru)
    exact PySem.W.kia_one PySem.W.kitx_dict I.kIn (I.hok a _ h).1 e (fun z => nomatch z) fin
  | @tup a vs ds hp rp =>
    cases ht
    cases (show u = Value.ref a from ru)
    obtain ⟨its, _, ⟨o, h1, h2, _⟩, _⟩ := I.tuple hp
    exact PySem.W.kia_one PySem.W.kitx_tuple I.kIn ⟨o, h1, h2⟩ e (fun z => nomatch z) fin
  | @lst a vs ds hp rp =>
    cases ht
    cases (show u = Value.ref a from ru)
    obtain ⟨its, _, ⟨o, n', h1, h2, _⟩, _⟩ := I.list (SqL.of (K := X.K) hp)
    exact PySem.W.kia_one PySem.W.kitx_list I.kIn ⟨o, h1, h2⟩ e (fun z => nomatch z) fin
  | @seq a vs ds hp rp =>
    cases ht
    cases (show u = Value.ref a from ru)
    obtain ⟨its, _, ⟨o, n', h1, h2, _⟩, _⟩ := I.list hp
    exact PySem.W.kia_one PySem.W.kitx_list I.kIn ⟨o, h1, h2⟩ e (fun z => nomatch z) fin
def isInt : D → Option Bool
  | .int _ => some true
  | .bl _ => some true
  | .ty _ => none
  | .exc _ => none
  | .cls _ => none
  | .ms _ _ => none
  | .mf _ _ => none
  | .md _ _ => none
  | _ => some false
def isBool : D → Option Bool
  | .bl _ => some true
  | .ty _ => none
  | .exc _ => none
  | .cls _ => none
  | .ms _ _ => none
  | .mf _ _ => none
  | .md _ _ => none
  | _ => some false
def isTup : D → Option Bool
  | .tup _ => some true
  | .ty _ => none
  | .exc _ => none
  | .cls _ => none
  | .ms _ _ => none
  | .mf _ _ => none
  | .md _ _ => none
  | _ => some false
def gIsi (n : String) (p : D → Option Bool) : List D → Option D
  | [d, .ty m] => if m = n then (p d).map D.bl else none
  | _ => none
theorem cd_isi {K : PySem.W.Frag} {n : String} {p : D → Option Bool} (hp : ∀ d b, p d = some b → IsiOk n d b) : CallD K (rIsi K) (gIsi n p) := by
  intro xs H Q ds d r e k
  unfold gIsi at e
  split at e
  · rename_i x m
    by_cases hm : m = n
    · subst hm
      rw [if_pos rfl] at e
      obtain ⟨b, hb, e⟩ := Option.map_eq_some_iff.mp e
      cases e
      obtain ⟨v, w, rfl, rv, rw'⟩ := reps2 r
      cases rw'
      exact ⟨v, m, x, b, rfl, rv, hp x b hb, k _ H (Same.refl H) (.bl b)⟩
    · rw [if_neg hm] at e; cases e
  · cases e
theorem kit_nn (n : String) (K : PySem.W.Frag) : PySem.W.kitOne K (.type n) (.type n) = some true := by
  unfold PySem.W.kitOne
  rw [if_pos (beq_self_eq_true _)]
theorem ok_isInt (d : D) (b : Bool) (h : isInt d = some b) : IsiOk "int" d b := by
  cases d <;> (first | cases h) <;> first
    | exact ⟨_, rfl, fun K => kit_nn _ K⟩
    | exact ⟨_, rfl, fun K => by kernel_rfl⟩
theorem ok_isBool (d : D) (b : Bool) (h : isBool d = some b) : IsiOk "bool" d b := by
  cases d <;> (first | cases h) <;> first
    | exact ⟨_, rfl, fun K => kit_nn _ K⟩
    | exact ⟨_, rfl, fun K => by kernel_rfl⟩
theorem ok_isTup (d : D) (b : Bool) (h : isTup d = some b) : IsiOk "tuple" d b := by
  cases d <;> (first | cases h) <;> first
    | exact ⟨_, rfl, fun K => kit_nn _ K⟩
    | exact ⟨_, rfl, fun K => by kernel_rfl⟩
def toV : D → Option V
  | .non => some .non
  | .bl b => some (.bl b)
  | .int i => some (.int i)
  | .str x => some (.str x)
  | _ => none
def flatD (d : D) : Bool := (toV d).isSome
def eqF : D → D → Bool
  | .non, .non => true
  | .bl a, .bl b => a == b
  | .bl a, .int b => (if a then 1 else 0) == b
  | .int a, .bl b => a == (if b then 1 else 0)
  | .int a, .int b => a == b
  | .str a, .str b => a == b
  | _, _ => false
def eqFs : List D → List D → Bool
  | [], [] => true
  | a :: as, b :: bs => eqF a b && eqFs as bs
  | _, _ => false
theorem Rep.flat {K : PySem.W.Frag} {H : Hp} {v : V} {d : D} (r : Rep K H v d) (f : flatD d = true) : flatV v = true ∧ toV d = some v := by
  cases r <;> first | exact ⟨rfl, rfl⟩ | (exact absurd f (by decide)) | (exact absurd f Bool.false_ne_true)
theorem eqV_eqF {a b : D} {x y : V} (ha : toV a = some x) (hb : toV b = some y) : eqV x y = eqF a b := by
  cases a <;> (first | cases ha) <;> cases b <;> (first | cases hb) <;> rfl
theorem eqFs_range : ∀ (as bs : List D) (e : Nat → Bool), (∀ j a b, as[j]? = some a → bs[j]? = some b → e j = eqF a b) → ((List.range (min as.length bs.length)).all e && as.length == bs.length) = eqFs as bs
  | [], [], e, _ => rfl
  | [], b :: bs, e, _ => by simp [eqFs]
  | a :: as, [], e, _ => by simp [eqFs]
  | a :: as, b :: bs, e, h => by
    have ih := eqFs_range as bs (fun j => e (j + 1)) (fun j x y h1 h2 => h (j + 1) x y (by simpa using h1) (by simpa using h2))
    have h0 : e 0 = eqF a b := h 0 a b rfl rfl
    show ((List.range (min (as.length + 1) (bs.length + 1))).all e && (as.length + 1) == (bs.length + 1)) = (eqF a b && eqFs as bs)
    rw [← ih, ← h0, show min (as.length + 1) (bs.length + 1) = min as.length bs.length + 1 by omega, List.range_succ_eq_map, List.all_cons, List.all_map, Bool.and_assoc]
    have : ((as.length + 1) == (bs.length + 1)) = (as.length == bs.length) := by rw [Bool.eq_iff_iff]; simp
    rw [this]
    rfl
def gEqB : D → D → Option Bool
  | .tup as, .tup bs => if as.all flatD && bs.all flatD then some (eqFs as bs) else none
  | .lst as, .lst bs => if as.all flatD && bs.all flatD then some (eqFs as bs) else none
  | .non, .tup _ => some false
  | .tup _, .non => some false
  | .non, .lst _ => some false
  | .lst _, .non => some false
  | a, b => if flatD a && flatD b then some (eqF a b) else none
def gEq (a b : D) : Option D := (gEqB a b).map D.bl
def gNe (a b : D) : Option D := (gEqB a b).map fun c => D.bl (!c)
section
variable {K : PySem.W.Frag} {H : Hp}
theorem items_eq {A : Around} {s : Shared} {vs ws : List V} {us zs : List Value} {as bs : List D} (r1 : Vals vs us) (r2 : Vals ws zs) (q1 : Reps K H vs as) (q2 : Reps K H ws bs) (g1 : as.all flatD = true) (g2 : bs.all flatD = true) :
    ∀ j (h1 : j < us.toArray.size) (h2 : j < zs.toArray.size), SeqAt.EqAt A s us.toArray[j] zs.toArray[j] (eqF (as.getD j .non) (bs.getD j .non)) := by
  intro j h1 h2
  have l1 := r1.length
  have l2 := r2.length
  rw [List.size_toArray] at h1 h2
  have k1 : j < vs.length := by omega
  have k2 : j < ws.length := by omega
  obtain ⟨u, e1, p1⟩ := r1.get (i := j) (x := vs[j]) (by simp [k1])
  obtain ⟨z, e2, p2⟩ := r2.get (i := j) (x := ws[j]) (by simp [k2])
  obtain ⟨a, e3, p3⟩ := q1.getV (i := j) (v := vs[j]) (by simp [k1])
  obtain ⟨b, e4, p4⟩ := q2.getV (i := j) (v := ws[j]) (by simp [k2])
  have f1 : flatD a = true := List.all_eq_true.mp g1 a (List.mem_of_getElem? e3)
  have f2 : flatD b = true := List.all_eq_true.mp g2 b (List.mem_of_getElem? e4)
  have w1 : us.toArray[j] = u := by
    have : us[j]? = some us[j] := by simp [h1]
    rw [this] at e1
    simpa using e1
  have w2 : zs.toArray[j] = z := by
    have : zs[j]? = some zs[j] := by simp [h2]
    rw [this] at e2
    simpa using e2
  rw [w1, w2, List.getD_eq_getElem?_getD, List.getD_eq_getElem?_getD, e3, e4]
  show SeqAt.EqAt A s u z (eqF a b)
  rw [← eqV_eqF (p3.flat f1).2 (p4.flat f2).2]
  exact eqAt_V p1 p2 (p3.flat f1).1 (p4.flat f2).1
theorem all_eqFs {as bs : List D} : ((List.range (min as.length bs.length)).all (fun j => eqF (as.getD j .non) (bs.getD j .non)) && as.length == bs.length) = eqFs as bs :=
  eqFs_range as bs _ fun j a b h1 h2 => by
    show eqF (as.getD j .non) (bs.getD j .non) = eqF a b
    rw [List.getD_eq_getElem?_getD, List.getD_eq_getElem?_getD, h1, h2] <;> rfl
theorem rc_flat {A : Around} {s : Shared} {x y : V} {u v : Value} {a b : D} (rx : RelV x u) (ry : RelV y v) (ra : Rep K H x a) (rb : Rep K H y b) (g1 : flatD a = true) (g2 : flatD b = true) : SeqAt.RcAt A s u v (eqF a b) ∧ SeqAt.RcNeAt A s u v (!eqF a b) := by
  cases ra with
  | non =>
    cases (show u = Value.none from rx)
    cases rb with
    | non => cases (show v = Value.none from ry); exact ⟨SeqAt.RcAt.none_none, SeqAt.RcNeAt.none_none⟩
    | bl c => cases (show v = Value.bool c from ry); exact ⟨SeqAt.RcAt.none_bool c, SeqAt.RcNeAt.none_bool c⟩
    | int j => obtain ⟨t, rfl⟩ := (show ∃ t, v = Value.int j t from ry); exact ⟨SeqAt.RcAt.none_int j t, SeqAt.RcNeAt.none_int j t⟩
    | str j => obtain ⟨t, rfl⟩ := (show ∃ t, v = Value.str j t from ry); exact ⟨SeqAt.RcAt.none_str j t, SeqAt.RcNeAt.none_str j t⟩
    | _ => exact absurd g2 Bool.false_ne_true
  | bl i =>
    cases (show u = Value.bool i from rx)
    cases rb with
    | non => cases (show v = Value.none from ry); exact ⟨SeqAt.RcAt.bool_none i, SeqAt.RcNeAt.bool_none i⟩
    | bl c => cases (show v = Value.bool c from ry); exact ⟨SeqAt.RcAt.bool_bool i c, SeqAt.RcNeAt.bool_bool i c⟩
    | int j => obtain ⟨t, rfl⟩ := (show ∃ t, v = Value.int j t from ry); exact ⟨SeqAt.RcAt.bool_int i j t, SeqAt.RcNeAt.bool_int i j t⟩
    | str j => obtain ⟨t, rfl⟩ := (show ∃ t, v = Value.str j t from ry); exact ⟨SeqAt.RcAt.bool_str i j t, SeqAt.RcNeAt.bool_str i j t⟩
    | _ => exact absurd g2 Bool.false_ne_true
  | int i =>
    obtain ⟨t', rfl⟩ := (show ∃ t, u = Value.int i t from rx)
    cases rb with
    | non => cases (show v = Value.none from ry); exact ⟨SeqAt.RcAt.int_none i t', SeqAt.RcNeAt.int_none i t'⟩
    | bl c => cases (show v = Value.bool c from ry); exact ⟨SeqAt.RcAt.int_bool i t' c, SeqAt.RcNeAt.int_bool i t' c⟩
    | int j => obtain ⟨t, rfl⟩ := (show ∃ t, v = Value.int j t from ry); exact ⟨SeqAt.RcAt.int_int i t' j t, SeqAt.RcNeAt.int_int i t' j t⟩
    | str j => obtain ⟨t, rfl⟩ := (show ∃ t, v = Value.str j t from ry); exact ⟨SeqAt.RcAt.int_str i t' j t, SeqAt.RcNeAt.int_str i t' j t⟩
    | _ => exact absurd g2 Bool.false_ne_true
  | str i =>
    obtain ⟨t', rfl⟩ := (show ∃ t, u = Value.str i t from rx)
    cases rb with
    | non => cases (show v = Value.none from ry); exact ⟨SeqAt.RcAt.str_none i t', SeqAt.RcNeAt.str_none i t'⟩
    | bl c => cases (show v = Value.bool c from ry); exact ⟨SeqAt.RcAt.str_bool i t' c, SeqAt.RcNeAt.str_bool i t' c⟩
    | int j => obtain ⟨t, rfl⟩ := (show ∃ t, v = Value.int j t from ry); exact ⟨SeqAt.RcAt.str_int i t' j t, SeqAt.RcNeAt.str_int i t' j t⟩
    | str j => obtain ⟨t, rfl⟩ := (show ∃ t, v = Value.str j t from ry); exact ⟨SeqAt.RcAt.str_str i t' j t, SeqAt.RcNeAt.str_str i t' j t⟩
    | _ => exact absurd g2 Bool.false_ne_true
  | _ => exact absurd g1 Bool.false_ne_true
end
theorem rc_D {X : Cx} {pins : List (Addr × Obj)} {σ : L2.St} {H : Hp} {s : Shared} (I : Inv X pins σ H s) (hu : X.A.units < cLine) {x y : V} {u v : Value} {a b : D} {c : Bool} (rx : RelV x u) (ry : RelV y v) (ra : Rep X.K H x a) (rb : Rep X.K H y b) (e : gEqB a b = some c) :
    SeqAt.RcAt X.A s u v c ∧ SeqAt.RcNeAt X.A s u v (!c) := by
  unfold gEqB at e
  split at e
  · -- two tuples
    rename_i as bs
    cases ra with
    | @tup p vs _ hp rp =>
      cases rb with
      | @tup q ws _ hq rq =>
        split at e
        · rename_i hf
          cases e
          rw [Bool.and_eq_true] at hf
          cases (show u = Value.ref p from rx)
          cases (show v = Value.ref q from ry)
          obtain ⟨its, r1, t1, _⟩ := I.tuple hp
          obtain ⟨jts, r2, t2, _⟩ := I.tuple hq
          have l1 : its.toArray.size = as.length := by rw [List.size_toArray, ← r1.length, rp.length]
          have l2 : jts.toArray.size = bs.length := by rw [List.size_toArray, ← r2.length, rq.length]
          have h1 := SeqAt.RcAt.tuples (A := X.A) (s := s) t1 t2 hu (items_eq r1 r2 rp rq hf.1 hf.2)
          have h2 := SeqAt.RcNeAt.tuples (A := X.A) (s := s) t1 t2 hu (items_eq r1 r2 rp rq hf.1 hf.2)
          rw [l1, l2, all_eqFs] at h1 h2
          exact ⟨h1, h2⟩
        · cases e
  · -- two lists
    rename_i as bs
    cases ra with
    | @lst p vs _ hp rp =>
      cases rb with
      | @lst q ws _ hq rq =>
        split at e
        · rename_i hf
          cases e
          rw [Bool.and_eq_true] at hf
          cases (show u = Value.ref p from rx)
          cases (show v = Value.ref q from ry)
          obtain ⟨its, r1, t1, _⟩ := I.list (SqL.of (K := X.K) hp)
          obtain ⟨jts, r2, t2, _⟩ := I.list (SqL.of (K := X.K) hq)
          have l1 : its.toArray.size = as.length := by rw [List.size_toArray, ← r1.length, rp.length]
          have l2 : jts.toArray.size = bs.length := by rw [List.size_toArray, ← r2.length, rq.length]
          by_cases hl : its.toArray.size = jts.toArray.size
          · have h1 := SeqAt.RcAt.lists (A := X.A) (s := s) t1.isList t2.isList hl hu (items_eq r1 r2 rp rq hf.1 hf.2)
            have h2 := SeqAt.RcNeAt.lists (A := X.A) (s := s) t1.isList t2.isList hl hu (items_eq r1 r2 rp rq hf.1 hf.2)
            have h3 : (List.range its.toArray.size).all (fun j => eqF (as.getD j .non) (bs.getD j .non)) = eqFs as bs := by
              rw [← all_eqFs, l1, show min as.length bs.length = as.length by omega, show (as.length == bs.length) = true by rw [beq_iff_eq]; omega, Bool.and_true]
            rw [h3] at h1 h2
            exact ⟨h1, h2⟩
          · have h1 := SeqAt.RcAt.lists_lengths (A := X.A) (s := s) t1.isList t2.isList (by simpa [bne_iff_ne] using hl) hu
            have h2 := SeqAt.RcNeAt.lists_lengths (A := X.A) (s := s) t1.isList t2.isList (by simpa [bne_iff_ne] using hl) hu
            have h3 : eqFs as bs = false := by
              rw [← all_eqFs, show (as.length == bs.length) = false by rw [beq_eq_false_iff_ne]; omega, Bool.and_false]
            rw [h3]
            exact ⟨h1, h2⟩
        · cases e
  · cases e
    cases ra
    cases rb with
    | @tup q ws bs hq rq =>
      cases (show u = Value.none from rx)
      cases (show v = Value.ref q from ry)
      obtain ⟨its, r1, t1, _⟩ := I.tuple hq
      exact ⟨SeqAt.RcAt.none_tuple t1 hu, SeqAt.RcNeAt.none_tuple t1 hu⟩
  · cases e
    cases rb
    cases ra with
    | @tup q ws bs hq rq =>
      cases (show v = Value.none from ry)
      cases (show u = Value.ref q from rx)
      obtain ⟨its, r1, t1, _⟩ := I.tuple hq
      exact ⟨SeqAt.RcAt.tuple_none t1 hu, SeqAt.RcNeAt.tuple_none t1 hu⟩
  · cases e
    cases ra
    cases rb with
    | @lst q ws bs hq rq =>
      cases (show u = Value.none from rx)
      cases (show v = Value.ref q from ry)
      obtain ⟨its, r1, t1, _⟩ := I.list (SqL.of (K := X.K) hq)
      exact ⟨SeqAt.RcAt.none_list t1.isList hu, SeqAt.RcNeAt.none_list t1.isList hu⟩
  · cases e
    cases rb
    cases ra with
    | @lst q ws bs hq rq =>
      cases (show v = Value.none from ry)
      cases (show u = Value.ref q from rx)
      obtain ⟨its, r1, t1, _⟩ := I.list (SqL.of (K := X.K) hq)
      exact ⟨SeqAt.RcAt.list_none t1.isList hu, SeqAt.RcNeAt.list_none t1.isList hu⟩
  · split at e
    · rename_i hf
      cases e
      rw [Bool.and_eq_true] at hf
      exact rc_flat rx ry ra rb hf.1 hf.2
    · cases e
def rEqD (K : PySem.W.Frag) : R2 := fun x y H Q => ∃ a b c, Rep K H x a ∧ Rep K H y b ∧ gEqB a b = some c ∧ Q (.bl c) H
def rNeD (K : PySem.W.Frag) : R2 := fun x y H Q => ∃ a b c, Rep K H x a ∧ Rep K H y b ∧ gEqB a b = some c ∧ Q (.bl (!c)) H
theorem op_eqD {X : Cx} (hu : X.A.units < cLine) : OpR X (compareOp .Eq) (rEqD X.K) := by
  intro pins s σ H x y v u Q I rx ry h
  obtain ⟨a, b, c, ra, rb, e, q⟩ := h
  exact (rc_D I hu rx ry ra rb e).1 X.prog X.w _ _ ⟨.bl c, H, I, rfl, q⟩
theorem op_neD {X : Cx} (hu : X.A.units < cLine) : OpR X (compareOp .NotEq) (rNeD X.K) := by
  intro pins s σ H x y v u Q I rx ry h
  obtain ⟨a, b, c, ra, rb, e, q⟩ := h
  exact (rc_D I hu rx ry ra rb e).2 X.prog X.w _ _ ⟨.bl (!c), H, I, rfl, q⟩
theorem r2_eq {K : PySem.W.Frag} : R2D K (rEqD K) gEq := by
  intro x y H Q a b d ra rb e k
  unfold gEq at e
  obtain ⟨c, hc, e⟩ := Option.map_eq_some_iff.mp e
  cases e
  exact ⟨a, b, c, ra, rb, hc, k _ H (Same.refl H) (.bl _)⟩
theorem r2_ne {K : PySem.W.Frag} : R2D K (rNeD K) gNe := by
  intro x y H Q a b d ra rb e k
  unfold gNe at e
  obtain ⟨c, hc, e⟩ := Option.map_eq_some_iff.mp e
  cases e
  exact ⟨a, b, c, ra, rb, hc, k _ H (Same.refl H) (.bl _)⟩
section
variable {X : Cx} {a b e : Expr} {fa fb f : FD} {pos : Pos}
theorem pd_eq (hu : X.A.units < cLine) (ha : PD X a fa) (hb : PD X b fb) : PD X (.Compare a [.Eq] [b] pos) (f2 gEq fa fb) := pd_cmp (op_eqD hu) r2_eq ha hb (nomark _)
theorem ptd_eq (hu : X.A.units < cLine) (ha : PD X a fa) (hb : PD X b fb) : PTD X (.Compare a [.Eq] [b] pos) (fT (f2 gEq fa fb)) := ptd_cmp (op_eqD hu) r2_eq ha hb (nomark _)
theorem ptd_ne (hu : X.A.units < cLine) (ha : PD X a fa) (hb : PD X b fb) : PTD X (.Compare a [.NotEq] [b] pos) (fT (f2 gNe fa fb)) := ptd_cmp (op_neD hu) r2_ne ha hb (nomark _)
abbrev gLt : D → D → Option D := gI0 fun i j => .bl (decide (i < j))
abbrev gLe : D → D → Option D := gI0 fun i j => .bl (decide (i ≤ j))
abbrev gGe : D → D → Option D := gI0 fun i j => .bl (decide (j ≤ i))
theorem pd_lt (ha : PD X a fa) (hb : PD X b fb) : PD X (.Compare a [.Lt] [b] pos) (f2 gLt fa fb) := pd_cmp op_lt (r2_I0 fun _ _ _ => .bl _) ha hb (nomark _)
theorem pd_le (ha : PD X a fa) (hb : PD X b fb) : PD X (.Compare a [.LtE] [b] pos) (f2 gLe fa fb) := pd_cmp op_le (r2_I0 fun _ _ _ => .bl _) ha hb (nomark _)
theorem pd_ge (ha : PD X a fa) (hb : PD X b fb) : PD X (.Compare a [.GtE] [b] pos) (f2 gGe fa fb) := pd_cmp op_ge (r2_I0 fun _ _ _ => .bl _) ha hb (nomark _)
theorem ptd_lt (ha : PD X a fa) (hb : PD X b fb) : PTD X (.Compare a [.Lt] [b] pos) (fT (f2 gLt fa fb)) := ptd_cmp op_lt (r2_I0 fun _ _ _ => .bl _) ha hb (nomark _)
end
inductive Res where
  | nx (δ : DS)
  | rt (d : D)
  | bk (δ : DS)
  | ct (δ : DS)
  | ex (C : Addr) (δ : DS)
  | mk (C : Addr) (δ : DS)
abbrev SD := DS → Option Res
def RP (X : Cx) (E : Ends) (H : Hp) : Res → Prop
  | .nx δ => ∀ σ' H', Same H H' → RepS X.K H' σ' δ → E.nx σ' H'
  | .rt d => ∀ v H', Same H H' → Rep X.K H' v d → E.rt v H'
  | .bk δ => ∀ σ' H', Same H H' → RepS X.K H' σ' δ → E.bk σ' H'
  | .ct δ => ∀ σ' H', Same H H' → RepS X.K H' σ' δ → E.ct σ' H'
  | .ex C δ => ∀ σ' H', Same H H' → RepS X.K H' σ' δ → XFly X C σ' H'
  | .mk C δ => ∀ σ' H', Same H H' → RepS X.K H' σ' δ → XMade X C σ' H'
theorem RP.mono {X : Cx} {E : Ends} {H H1 : Hp} {r : Res} (s : Same H H1) (h : RP X E H r) : RP X E H1 r := by
  cases r with
  | nx δ => exact fun σ' H' s2 R => h σ' H' (s.trans s2) R
  | rt d => exact fun v H' s2 R => h v H' (s.trans s2) R
  | bk δ => exact fun σ' H' s2 R => h σ' H' (s.trans s2) R
  | ct δ => exact fun σ' H' s2 R => h σ' H' (s.trans s2) R
  | ex C δ => exact fun σ' H' s2 R => h σ' H' (s.trans s2) R
  | mk C δ => exact fun σ' H' s2 R => h σ' H' (s.trans s2) R
def upS (X : Cx) (s : SD) : TS := fun E σ H => ∃ δ r, RepS X.K H σ δ ∧ s δ = some r ∧ RP X E H r
def PSD (X : Cx) (st : Stmt) (s : SD) : Prop := PS X st (upS X s)
def PSsD (X : Cx) (sts : List Stmt) (s : SD) : Prop := PSs X sts (upS X s)
theorem impS {X : Cx} {st : Stmt} {t t' : TS} (h : PS X st t) (w : ∀ E σ H, t' E σ H → t E σ H) : PS X st t' := fun pins s σ H E I q => h pins s σ H E I (w E σ H q)
theorem impSs {X : Cx} {st : List Stmt} {t t' : TS} (h : PSs X st t) (w : ∀ E σ H, t' E σ H → t E σ H) : PSs X st t' := fun pins s σ H E I q => h pins s σ H E I (w E σ H q)
def sNil : SD := fun δ => some (.nx δ)
def sThen (u : SD) : Res → Option Res
  | .nx δ => u δ
  | r => some r
def sSeq (s u : SD) : SD := fun δ => (s δ).bind (sThen u)
def sRet (f : FD) : SD := fun δ => (f δ).bind fun d => some (.rt d)
def sDrop (f : FD) : SD := fun δ => (f δ).bind fun _ => some (.nx δ)
def sSet (i : Nat) (f : FD) : SD := fun δ => (f δ).bind fun d => some (.nx (δ.set i (some d)))
def sIf (c : FT) (s u : SD) : SD := fun δ => (c δ).bind fun b => match b with
  | true => s δ
  | false => u δ
section
variable {X : Cx} {st : Stmt} {rest : List Stmt} {s u : SD} {e : Expr} {f : FD} {c : FT} {pos : Pos}
theorem psd_nil : PSsD X [] sNil := impSs pss_nil fun E σ H ⟨δ, r, R, e, k⟩ => by cases e; exact k σ H (Same.refl H) R
theorem psd_cons (h1 : PSD X st s) (h2 : PSsD X rest u) : PSsD X (st :: rest) (sSeq s u) := impSs (pss_cons h1 h2) fun E σ H ⟨δ, r, R, e, k⟩ => by
  unfold sSeq at e
  obtain ⟨r1, e1, e⟩ := Option.bind_eq_some_iff.mp e
  refine ⟨δ, r1, R, e1, ?_⟩
  cases r1 with
  | nx δ' => exact fun σ' H' s1 R1 => ⟨δ', r, R1, e, k.mono s1⟩
  | rt d => cases e; exact k
  | bk d => cases e; exact k
  | ct d => cases e; exact k
  | ex C d => cases e; exact k
  | mk C d => cases e; exact k
theorem psd_one (h : PSD X st s) : PSsD X [st] s := pss_one h
theorem psd_ret (he : PD X e f) : PSD X (.Return (some e) pos) (sRet f) := impS (ps_ret he) fun E σ H ⟨δ, r, R, q, k⟩ => by
  unfold sRet at q
  obtain ⟨d, ed, q⟩ := Option.bind_eq_some_iff.mp q
  cases q
  exact ⟨δ, d, R, ed, k⟩
theorem psd_set (i : Nat) {x : Str} {pos' : Pos} (hN : X.N.Nodup) (he : PD X e f) (hi : X.N[i]? = some x := by rfl) (hx : Loc X.env.scope x := by first | exact Or.inl rfl | exact Or.inr rfl) (hs : swapsWith e (some (.Name x pos')) pos.line X.env = pure false := by rfl) (hf : X.fn x = true ∨ X.env.scope.names.lookup x = some .local := by first | exact .inl rfl | exact .inr rfl | assumption) :
    PSD X (.Assign [.Name x pos'] e pos) (sSet i f) := impS (ps_set hN hi hx he hs hf) fun E σ H ⟨δ, r, R, q, k⟩ => by
  unfold sSet at q
  obtain ⟨d, ed, q⟩ := Option.bind_eq_some_iff.mp q
  cases q
  exact ⟨δ, d, R, ed, fun v H' s1 r1 => k (σ.set i (some v)) H' s1 ((R.mono s1).set i r1)⟩
theorem psd_if {cx : Expr} {a b : List Stmt} (hc : PTD X cx c) (ha : PSsD X a s) (hb : PSsD X b u) : PSD X (.If cx a b pos) (sIf c s u) := impS (ps_if hc ha hb) fun E σ H ⟨δ, r, R, q, k⟩ => by
  unfold sIf at q
  obtain ⟨d, ed, q⟩ := Option.bind_eq_some_iff.mp q
  refine ⟨δ, d, R, ed, fun H' s1 => ?_⟩
  cases d with
  | true => rw [if_pos rfl]; exact ⟨δ, r, R.mono s1, q, k.mono s1⟩
  | false => rw [if_neg Bool.false_ne_true]; exact ⟨δ, r, R.mono s1, q, k.mono s1⟩
def sPar (i j : Nat) (g : FA) : SD := fun δ => (g δ).bind fun ds => match ds with
  | [a, b] => some (.nx ((δ.set i (some a)).set j (some b)))
  | _ => none
theorem psd_par (i j : Nat) {x y : Str} {a b : Expr} {g : FA} {px py pt : Pos} {kt k2 pt2} (hc : X.calm = true) (hN : X.N.Nodup) (ha : PAD X [a, b] g) (hi : X.N[i]? = some x := by rfl) (hj : X.N[j]? = some y := by rfl) (hij : i ≠ j := by decide)
    (hx : X.env.scope.names.lookup x = some .local := by rfl) (hy : X.env.scope.names.lookup y = some .local := by rfl)
    (hw : swappedStores [.Tuple [.Name x px, .Name y py] kt pt] (.Tuple [a, b] k2 pt2) X.env = pure (some [x, y]) := by rfl)
    (hs : swapsWithSole [.Tuple [.Name x px, .Name y py] kt pt] (.Tuple [a, b] k2 pt2) pos.line X.env = pure false := by rfl) :
    PSD X (.Assign [.Tuple [.Name x px, .Name y py] kt pt] (.Tuple [a, b] k2 pt2) pos) (sPar i j g) := impS (ps_par hc hN hi hj hij hx hy ha hw hs) fun E σ H ⟨δ, r, R, q, k⟩ => by
  unfold sPar at q
  obtain ⟨ds, ed, q⟩ := Option.bind_eq_some_iff.mp q
  split at q
  · rename_i d1 d2
    cases q
    refine ⟨δ, _, R, ed, fun vs H' s1 r1 _ => ?_⟩
    obtain ⟨v, w, rfl, rv, rw'⟩ := reps2 r1
    exact ⟨v, w, rfl, k _ H' s1 (((R.mono s1).set i rv).set j rw')⟩
  · cases q
def sUn2 (i j : Nat) (f : FD) : SD := fun δ => (f δ).bind fun d => match d with
  | .tup [a, b] => some (.nx ((δ.set i (some a)).set j (some b)))
  | _ => none
theorem psd_un2 (i j : Nat) {x y : Str} {px py pt : Pos} {kt} (hc : X.calm = true) (hN : X.N.Nodup) (he : PD X e f) (hi : X.N[i]? = some x := by rfl) (hj : X.N[j]? = some y := by rfl) (hx : Loc X.env.scope x := by first | exact Or.inl rfl | exact Or.inr rfl) (hy : Loc X.env.scope y := by first | exact Or.inl rfl | exact Or.inr rfl)
    (hs : swapsWithSole [.Tuple [.Name x px, .Name y py] kt pt] e pos.line X.env = pure false := by rfl) (hw : swappedStores [.Tuple [.Name x px, .Name y py] kt pt] e X.env = pure none := by rfl)
    (h1 : (assignEach [.Tuple [.Name x px, .Name y py] kt pt] X.env).map (·.2) = [assign (.Tuple [.Name x px, .Name y py] kt pt) X.env] := by rfl)
    (hfx : X.fn x = true ∨ X.env.scope.names.lookup x = some .local := by first | exact .inl rfl | exact .inr rfl) (hfy : X.fn y = true ∨ X.env.scope.names.lookup y = some .local := by first | exact .inl rfl | exact .inr rfl)
    (hn : (assignEach [.Name x px, .Name y py] X.env).length = 2 := by rfl) (hst : (assignEach [.Name x px, .Name y py] X.env).findIdx? (·.1) = none := by rfl)
    (e1 : (assignEach [.Name x px, .Name y py] X.env).map (·.2) = assign (.Name x px) X.env :: (assignEach [.Name y py] X.env).map (·.2) := by rfl) (e2 : (assignEach [.Name y py] X.env).map (·.2) = assign (.Name y py) X.env :: (assignEach [] X.env).map (·.2) := by rfl) :
    PSD X (.Assign [.Tuple [.Name x px, .Name y py] kt pt] e pos) (sUn2 i j f) :=
  impS (ps_asg he (pg_tup hc (pgs_cons (pg_name hN hi hx hfx) (pgs_cons (pg_name hN hj hy hfy) pgs_nil e2) e1) hn hst) hs hw h1) fun E σ H ⟨δ, r, R, q, k⟩ => by
  unfold sUn2 at q
  obtain ⟨d, ed, q⟩ := Option.bind_eq_some_iff.mp q
  split at q
  · rename_i d1 d2
    cases q
    refine ⟨δ, _, R, ed, fun v H' s1 r1 => ?_⟩
    cases r1 with
    | @tup p vs ds hp rp =>
      obtain ⟨v, w, rfl, rv, rw'⟩ := reps2 rp
      exact ⟨p, _, rfl, hp, rfl, v, _, rfl, w, _, rfl, rfl, k _ H' s1 (((R.mono s1).set i rv).set j rw')⟩
  · cases q
end
def sWhile : Nat → FT → SD → SD
  | 0, _, _ => fun _ => none
  | n + 1, c, s => fun δ => (c δ).bind fun b => match b with
    | true => (s δ).bind fun r => match r with
      | .nx δ' => sWhile n c s δ'
      | .ct δ' => sWhile n c s δ'
      | .bk δ' => some (.nx δ')
      | .rt d => some (.rt d)
      | .ex C δ' => some (.ex C δ')
      | .mk C δ' => some (.mk C δ')
    | false => some (.nx δ)
theorem psd_while {X : Cx} {cx : Expr} {body : List Stmt} {c : FT} {s : SD} {pos : Pos} (n : Nat) (hp : PassesOwn (model X.prog X.w) X.A X.env X.xe) (hc : PTD X cx c) (hb : PSsD X body s) : PSD X (.While cx body [] pos) (sWhile n c s) := impS (ps_while hp hc hb) fun E σ H ⟨δ, r, R, e, k⟩ => by
  refine ⟨fun m σ H => ∃ δ r, RepS X.K H σ δ ∧ sWhile m c s δ = some r ∧ RP X E H r, ⟨n, δ, r, R, e, k⟩, ?_⟩
  rintro m σ H ⟨δ, r, R, e, k⟩
  cases m with
  | zero => exact absurd e (by intro z; cases z)
  | succ m =>
    obtain ⟨b, eb, e⟩ := Option.bind_eq_some_iff.mp (show ((c δ).bind _) = some r from e)
    refine ⟨δ, b, R, eb, fun H1 s1 => ?_⟩
    cases b with
    | true =>
      rw [if_pos rfl]
      obtain ⟨r1, e1, e⟩ := Option.bind_eq_some_iff.mp (show ((s δ).bind _) = some r from e)
      refine ⟨fun σ' H' => ∃ m', m' < m + 1 ∧ ∃ δ r, RepS X.K H' σ' δ ∧ sWhile m' c s δ = some r ∧ RP X E H' r, fun _ _ z => z, ⟨δ, r1, R.mono s1, e1, ?_⟩⟩
      cases r1 with
      | nx δ' => exact fun σ' H' s2 R2 => ⟨m, Nat.lt_succ_self m, δ', r, R2, e, k.mono (s1.trans s2)⟩
      | ct δ' => exact fun σ' H' s2 R2 => ⟨m, Nat.lt_succ_self m, δ', r, R2, e, k.mono (s1.trans s2)⟩
      | bk δ' => cases e; exact fun σ' H' s2 R2 => k σ' H' (s1.trans s2) R2
      | rt d => cases e; exact fun v H' s2 R2 => k v H' (s1.trans s2) R2
      | ex C δ' => cases e; exact fun σ' H' s2 R2 => k σ' H' (s1.trans s2) R2
      | mk C δ' => cases e; exact fun σ' H' s2 R2 => k σ' H' (s1.trans s2) R2
    | false =>
      rw [if_neg Bool.false_ne_true]
      cases e
      exact k σ H1 s1 (R.mono s1)
def ItD (K : PySem.W.Frag) (J : It) (H1 : Hp) (ds : List D) : Prop := ∀ i H2, Same H1 H2 →
  (i < ds.length → J.go i H2 ∧ ∀ x H', J.yld i H2 x H' → Same H2 H' ∧ ∃ d, ds[i]? = some d ∧ Rep K H' x d) ∧ (ds.length ≤ i → J.stop i H2)
def upI (K : PySem.W.Frag) (src : FA) : TI := fun σ H R => ∃ δ ds, RepS K H σ δ ∧ src δ = some ds ∧ ∀ J H1, Same H H1 → ItD K J H1 ds → R J H1
def PID (X : Cx) (tg iter : Expr) (src : FA) : Prop := PI X tg iter (upI X.K src)
theorem impI {X : Cx} {tg iter : Expr} {t t' : TI} (h : PI X tg iter t) (w : ∀ σ H R, t' σ H R → t σ H R) : PI X tg iter t' := fun pins s σ H R I q => h pins s σ H R I (w σ H R q)
def asL : D → Option (List D)
  | .lst ds => some ds
  | .seq ds => some ds
  | _ => none
theorem it_list {K : PySem.W.Frag} {H1 : Hp} {a : Addr} {vs : List V} {ds : List D} (hq : SqL K H1 a vs) (r : Reps K H1 vs ds) : ItD K (Itl K a) H1 ds := by
  intro i H2 s
  have hq2 := s.seq hq
  have r2 := r.mono s
  have hl := r2.length
  refine ⟨fun hi => ⟨⟨vs, vs[i], hq2, by simp [show i < vs.length by omega]⟩, fun x H' y => ?_⟩, fun hi => ⟨vs, hq2, by omega⟩⟩
  obtain ⟨e, y⟩ := y
  subst e
  obtain ⟨d, h1, h2⟩ := r2.getV (y vs hq2)
  exact ⟨Same.refl _, d, h1, h2⟩
theorem pid_list {X : Cx} {tg l : Expr} {f : FD} (hl : PD X l f) : PID X tg l (fun δ => (f δ).bind asL) := impI (pi_list hl) fun σ H R ⟨δ, ds, R0, e, k⟩ => by
  obtain ⟨d, ed, e⟩ := Option.bind_eq_some_iff.mp e
  refine ⟨δ, d, R0, ed, fun v H1 s1 r1 => ?_⟩
  cases r1 with
  | @lst p vs es hp rp => cases e; exact ⟨p, rfl, ⟨vs, SqL.of hp⟩, k _ H1 s1 (it_list (SqL.of hp) rp)⟩
  | @seq p vs es hp rp => cases e; exact ⟨p, rfl, ⟨vs, hp⟩, k _ H1 s1 (it_list hp rp)⟩
  | _ => cases e
def upG (K : PySem.W.Frag) (g : D → DS → Option DS) : TG := fun v σ H Q => ∃ d δ δ', Rep K H v d ∧ RepS K H σ δ ∧ g d δ = some δ' ∧ ∀ σ', RepS K H σ' δ' → Q σ' H
def PGD (X : Cx) (tg : Expr) (g : D → DS → Option DS) : Prop := PG X tg (upG X.K g)
def gSet (i : Nat) : D → DS → Option DS := fun d δ => some (δ.set i (some d))
theorem pgd_name {X : Cx} (i : Nat) {x : Str} {pos : Pos} (hN : X.N.Nodup) (hi : X.N[i]? = some x := by rfl) (hx : Loc X.env.scope x := by first | exact Or.inl rfl | exact Or.inr rfl) (hf : X.fn x = true ∨ X.env.scope.names.lookup x = some .local := by first | exact .inl rfl | exact .inr rfl | assumption) : PGD X (.Name x pos) (gSet i) :=
  fun pins s σ H v u Q I r ⟨d, δ, δ', rv, R, e, k⟩ => by
    cases e
    exact pg_name hN hi hx hf pins s σ H v u Q I r (k _ (R.set i rv))
def forD (g : D → DS → Option DS) (s : SD) : List D → SD
  | [] => fun δ => some (.nx δ)
  | d :: ds => fun δ => (g d δ).bind fun δ1 => (s δ1).bind fun r => match r with
    | .nx δ' => forD g s ds δ'
    | .ct δ' => forD g s ds δ'
    | .bk δ' => some (.nx δ')
    | .rt d => some (.rt d)
    | .ex C δ' => some (.ex C δ')
    | .mk C δ' => some (.mk C δ')
def sFor (src : FA) (g : D → DS → Option DS) (s : SD) : SD := fun δ => (src δ).bind fun ds => forD g s ds δ
theorem psd_for {X : Cx} {tg iter : Expr} {body : List Stmt} {src : FA} {g : D → DS → Option DS} {s : SD} {pos : Pos} (hp : PassesOwn (model X.prog X.w) X.A X.env X.xe) (hc : X.calm = true) (hi : PID X tg iter src) (hg : PGD X tg g) (hb : PSsD X body s)
    (hs : ∀ x, foldedSetIterable iter X.env x = pure x := by intro _; rfl) : PSD X (.For tg iter body [] pos) (sFor src g s) := impS (ps_for hp hc hi hg hb hs) fun E σ H ⟨δ, r, R, e, k⟩ => by
  unfold sFor at e
  obtain ⟨ds, eds, e⟩ := Option.bind_eq_some_iff.mp e
  refine ⟨δ, ds, R, eds, fun J H1 s1 it => ?_⟩
  refine ⟨fun i m σ H => m = ds.length - i ∧ i ≤ ds.length ∧ Same H1 H ∧ ∃ δ, RepS X.K H σ δ ∧ forD g s (ds.drop i) δ = some r ∧ RP X E H r, ⟨ds.length, rfl, Nat.zero_le _, Same.refl _, δ, R.mono s1, e, k.mono s1⟩, ?_⟩
  rintro i m σ H2 ⟨rfl, hil, s2, δ2, R2, e2, k2⟩
  by_cases hlt : i < ds.length
  · obtain ⟨go, yl⟩ := (it i H2 s2).1 hlt
    rw [List.drop_eq_getElem_cons hlt] at e2
    obtain ⟨δ3, e3, e2⟩ := Option.bind_eq_some_iff.mp (show ((g ds[i] δ2).bind _) = some r from e2)
    obtain ⟨r4, e4, e2⟩ := Option.bind_eq_some_iff.mp e2
    refine .inr ⟨go, fun σ' H' => Same H1 H' ∧ ∃ δ, RepS X.K H' σ' δ ∧ forD g s (ds.drop (i + 1)) δ = some r ∧ RP X E H' r, fun σ' H' z => ⟨ds.length - (i + 1), by omega, rfl, hlt, z⟩, fun x H' y => ?_⟩
    obtain ⟨s3, d, hd, rx⟩ := yl x H' y
    have hd' : d = ds[i] := by
      rw [List.getElem?_eq_getElem hlt] at hd
      exact (Option.some.inj hd).symm
    subst hd'
    refine ⟨ds[i], δ2, δ3, rx, R2.mono s3, e3, fun σ3 R3 => ⟨δ3, r4, R3, e4, ?_⟩⟩
    cases r4 with
    | nx δ' => exact fun σ' H'' s4 R4 => ⟨(s2.trans s3).trans s4, δ', R4, e2, (k2.mono s3).mono s4⟩
    | ct δ' => exact fun σ' H'' s4 R4 => ⟨(s2.trans s3).trans s4, δ', R4, e2, (k2.mono s3).mono s4⟩
    | bk δ' => cases e2; exact fun σ' H'' s4 R4 => k2 σ' H'' (s3.trans s4) R4
    | rt d => cases e2; exact fun v H'' s4 R4 => k2 v H'' (s3.trans s4) R4
    | ex C δ' => cases e2; exact fun σ' H'' s4 R4 => k2 σ' H'' (s3.trans s4) R4
    | mk C δ' => cases e2; exact fun σ' H'' s4 R4 => k2 σ' H'' (s3.trans s4) R4
  · have e : i = ds.length := by omega
    subst e
    rw [List.drop_length] at e2
    cases e2
    exact .inl ⟨(it _ H2 s2).2 (Nat.le_refl _), k2 σ H2 (Same.refl _) R2⟩
def retOf : Option Res → Option D
  | some (.rt d) => some d
  | some (.nx _) => some .non
  | _ => none
def start (n : Nat) (ds : List D) : DS := ds.map some ++ List.replicate (n - ds.length) none
section
variable {P : Program} {w : World} {K : PySem.W.Frag} {mg : Str → Option Value} {base : Heap}
theorem pure_ok {x qual : Str} {st : Stmt} {f : Addr} {fd : FuncData} {N ps : List Str} {k : Nat} {G : List D → Option D} (F : Fun K x qual st f fd) (S : FnScope N ps (defScope st))
    (hbody : ∀ (cdv : Value) (A : Around) (outer : List Env) (s : Shared) (H : Hp) (E : XK) (ds : List D) (d : D), Room k (A.deeper (envOfC qual (defScope st) s.heap.objs.size f cdv)) → G ds = some d → ds.length = ps.length →
      ∃ t, PSsD (cxOf CX0 P w K mg base N qual (defScope st) f cdv A outer s H E).nox (defBody st) t ∧ retOf (t (start N.length ds)) = some d) : FnOk P w K mg base CX0 (k + 1) f fd ps (pureSp K ps.length G) := by
  refine F.ok S (fun vs H Q E h => h.1) (fun cdv A outer s H vs Q E hr h => ?_)
  obtain ⟨hl, ds, d, r, e, q⟩ := h
  obtain ⟨t, ht, hq⟩ := hbody cdv A outer s H E ds d hr e (r.length.symm.trans hl)
  refine ⟨_, ht, start N.length ds, ?_⟩
  cases z : t (start N.length ds) with
  | none => rw [z] at hq; cases hq
  | some res =>
    rw [z] at hq
    refine ⟨res, RepS.start r, rfl, ?_⟩
    cases res with
    | rt d' => cases hq; exact q
    | nx δ => cases hq; exact fun σ' H' s1 _ => q _ H' s1 .non
    | bk δ => cases hq
    | ct δ => cases hq
    | ex C δ => cases hq
    | mk C δ => cases hq
structure Has (P : Program) (w : World) (K : PySem.W.Frag) (mg : Str → Option Value) (base : Heap) (k : Nat) (x : Str) (ps : List Str) (G : List D → Option D) : Prop where
  ex : ∃ f fd, FnOk P w K mg base CX0 k f fd ps (pureSp K ps.length G) ∧ mg x = some (.ref f) ∧ PySem.W.keepIn K (.ref f) = true ∧ Binds K fd ps []
end
theorem pd_callH {X : Cx} {e : Expr} {es : List Expr} {g : FA} {pos p : Pos} {k j : Nat} {x : Str} {ps : List Str} {G : List D → Option D} (F : Has X.prog X.w X.K X.mg X.base k x ps G) (hr : Room j X.A) (ha : PAD X (e :: es) g) (hk : k ≤ j := by decide) (hg : Gl X x := by rfl)
    (hn : (e :: es).length = ps.length := by rfl) (hdb : (x == ("__debug__" : Str)) = false := by decide) (he : starEach (e :: es) X.env = (false, eval e X.env) :: starEach es X.env := by rfl) (hpl : (backTo pos (starEach es X.env)).any (·.1) = false := by rfl) :
    PD X (.Call (.Name x p) (e :: es) [] pos) (fCall G g) := by
  obtain ⟨f, fd, F, hm, kp, hb⟩ := F.ex
  exact pd_call F (hr.mono hk) hg hm kp hb ha hn hdb he hpl
end Dl
namespace Dl
open PySem PySem.Spec PyProof.Rows L2
def spLaw (K : PySem.W.Frag) : Sp := fun vs H Q _ => ∃ (a : Addr) (ns : List Int), vs = [.ref a] ∧ SqL K H a (ns.map V.int) ∧ ns.length ≤ 63 ∧ ∀ H', Q (.bl true) H'
theorem law_ok {P : Program} {w : World} {K : PySem.W.Frag} {mg : Str → Option Value} {base : Heap} {x qual q : Str} {st : Stmt} {f : Addr} {fd : FuncData} {N : List Str} {k : Nat} (F : Fun K x qual st f fd) (S : FnScope N [q] (defScope st))
    (hbody : ∀ (cdv : Value) (A : Around) (outer : List Env) (s : Shared) (H : Hp) (E : XK) (ns : List Int), Room k (A.deeper (envOfC qual (defScope st) s.heap.objs.size f cdv)) → ns.length ≤ 63 →
      ∃ t, PSsD (cxOf CX0 P w K mg base N qual (defScope st) f cdv A outer s H E).nox (defBody st) t ∧ retOf (t (start N.length [.seq (ns.map D.int)])) = some (.bl true)) : FnOk P w K mg base CX0 (k + 1) f fd [q] (spLaw K) := by
  refine F.ok S (fun vs H Q E h => ?_) (fun cdv A outer s H vs Q E hr h => ?_)
  · obtain ⟨a, ns, rfl, _⟩ := h
    rfl
  obtain ⟨a, ns, rfl, hS, hl, q⟩ := h
  obtain ⟨t, ht, hq⟩ := hbody cdv A outer s H E ns hr hl
  refine ⟨_, ht, start N.length [.seq (ns.map D.int)], ?_⟩
  cases z : t (start N.length [.seq (ns.map D.int)]) with
  | none => rw [z] at hq; cases hq
  | some res =>
    rw [z] at hq
    refine ⟨res, RepS.start (.cons (.seq hS (Reps.ints ns)) .nil), rfl, ?_⟩
    cases res with
    | rt d' =>
      cases hq
      intro v H' s1 r1
      cases r1
      exact q H'
    | nx δ => cases hq
    | bk δ => cases hq
    | ct δ => cases hq
    | ex C δ => cases hq
    | mk C δ => cases hq
end Dl
namespace Dl
noncomputable def fn (S : List D → D → Prop) : List D → Option D := fun ds => by
  classical exact if h : ∃ d, S ds d then some h.choose else none
theorem fn_inv {S : List D → D → Prop} {ds : List D} {d : D} (h : fn S ds = some d) : S ds d := by
  unfold fn at h
  split at h
  · rename_i q
    have e := Option.some.inj h
    rw [← e]
    exact q.choose_spec
  · cases h
theorem fn_eq {S : List D → D → Prop} {ds : List D} {d : D} (u : ∀ d', S ds d' → d' = d) (h : S ds d) : fn S ds = some d := by
  unfold fn
  have q : ∃ d, S ds d := ⟨d, h⟩
  rw [dif_pos q]
  exact congrArg some (u _ q.choose_spec)
theorem gNe_int (a b : Int) : gNe (.int a) (.int b) = some (.bl (!(a == b))) := rfl
theorem gEq_int (a b : Int) : gEq (.int a) (.int b) = some (.bl (a == b)) := rfl
theorem gEq_bl (a b : Bool) : gEq (.bl a) (.bl b) = some (.bl (a == b)) := rfl
theorem gEq_tup2 (a b c d : Int) : gEq (.tup [.int a, .int b]) (.tup [.int c, .int d]) = some (.bl (a == c && b == d)) := by
  show some (D.bl (a == c && (b == d && true))) = _
  rw [Bool.and_true]
theorem gNe_tup2 (a b c d : Int) : gNe (.tup [.int a, .int b]) (.tup [.int c, .int d]) = some (.bl (!(a == c && b == d))) := by
  show some (D.bl (!(a == c && (b == d && true)))) = _
  rw [Bool.and_true]
theorem gAdd_int (a b : Int) : gAdd (.int a) (.int b) = some (.int (a + b)) := rfl
theorem gI_pos {C : Int → Int → Prop} [∀ i j, Decidable (C i j)] {g : Int → Int → D} {i j : Int} (h : C i j) : gI C g (.int i) (.int j) = some (g i j) := if_pos h
end Dl
namespace Dl
theorem gIsi_same (n : String) (p : D → Option Bool) (d : D) : gIsi n p [d, .ty n] = (p d).map D.bl := if_pos rfl
theorem gIx_t0 (a b : D) : gIx (.tup [a, b]) (.int 0) = some a := rfl
theorem gIx_t1 (a b : D) : gIx (.tup [a, b]) (.int 1) = some b := rfl
theorem gLen_t2 (a b : D) : gLen [.tup [a, b]] = some (.int 2) := rfl
theorem gLen_seq (ds : List D) : gLen [.seq ds] = some (.int ds.length) := rfl
theorem sWhile_t {n : Nat} {c : FT} {s : SD} {δ δ' : DS} (hc : c δ = some true) (hs : s δ = some (.nx δ')) : sWhile (n + 1) c s δ = sWhile n c s δ' := by
  simp only [sWhile, hc, hs, Option.bind_some]
theorem bd_le {x y : Int} (h0 : 0 ≤ x) (h : x ≤ y) (hy : Bd y) : Bd x := Nat.lt_of_le_of_lt (show x.natAbs ≤ y.natAbs by omega) hy
end Dl
namespace Dl
open PySem PySem.Spec PyProof.Rows L2
abbrev FO := DS → Option (Option Int)
end Dl
namespace Dl
end Dl
namespace Dl
open PySem PySem.Spec PyProof.Rows L2
structure FunD (K : PySem.W.Frag) (x qual : Str) (st : Stmt) (f : Addr) (fd : FuncData) (dV : Value) : Prop where
  ex : ∃ (oc : Value) (od : Option Addr) (kV doc pm : Value) (an : Option Addr) (cdv ct : Value) (osl : Array (Option Value)),
    fd = PySem.W.fnOf x qual (defArgs st) (defBody st) (defScope st) dV kV doc pm an cdv ct ∧ K.lookup f = some ⟨oc, od, .func fd, osl⟩ ∧ PySem.W.codeIn K cdv qual = true
  kp : PySem.W.keepIn K (.ref f) = true
section
variable {P : Program} {w : World} {K : PySem.W.Frag} {mg : Str → Option Value} {base : Heap}
theorem FunD.binds {x qual : Str} {st : Stmt} {f T : Addr} {fd : FuncData} {ps : List Str} {o : Obj} {items : Array Value} {n : Nat} {ds : List Value} (F : FunD K x qual st f fd (.ref T)) (ho : K.lookup T = some o) (hs : o.data = .seq items n)
    (h : ∀ (kV doc pm : Value) (an : Option Addr) (cdv ct : Value) (us : List Value), (us ++ ds).length = ps.length → ∃ k, bindArgs (PySem.W.fnOf x qual (defArgs st) (defBody st) (defScope st) (.ref T) kV doc pm an cdv ct) ⟨us, []⟩ = seqItems? (.ref T) >>= k ∧ k (some items) = pure (ps.zip (us ++ ds))) : Binds K fd ps ds := by
  obtain ⟨oc, od, kV, doc, pm, an, cdv, ct, osl, rfl, lk, hcd⟩ := F.ex
  intro s us KI hl
  obtain ⟨k, h1, h2⟩ := h kV doc pm an cdv ct us hl
  exact PySem.W.binds_K KI rfl ho hs h1 h2
end
section
variable {X : Cx} {e : Expr} {f : FD} {lo hi : Option Expr} {fl fh : FO} {pos p2 : Pos}
end
section
variable {prog : Program} {w : World} {A : Around} {E : Value → Shared → Prop}
end
end Dl
namespace Dl
open PySem PySem.Spec PyProof.Rows L2
structure CompOk (X : Cx) (scope : Scope) (cl : List (Str × Addr)) (x : Str) (N : List Str) (js : List Nat) : Prop where
  clos : closureFor scope X.env = pure cl
  nocell : ∀ y ∈ scope.names, y.2 ≠ .cell
  kind : scope.kind = .function
  names : ∀ y ∈ scope.names, y.2 = .local → scope.names.lookup y.1 = some .local
  hx : scope.names.lookup x = some .local
  nd : N.Nodup
  h0 : N[0]? = some x
  len : N.length = js.length + 1
  clx : cl.lookup x = none
  cls : ∀ y c, cl.lookup y = some c → X.env.cells.lookup y = some c
  has : ∀ y, ((relabel scope X.env).names.lookup y = some .cell ∨ (relabel scope X.env).names.lookup y = some .free) → ∃ c, cl.lookup y = some c
  fr : ∀ i y j, N[i + 1]? = some y → js[i]? = some j → X.N[j]? = some y ∧ X.env.scope.names.lookup y = some .cell ∧ (relabel scope X.env).names.lookup y = some .cell ∧ ∀ c, X.env.cells.lookup y = some c → cl.lookup y = some c
section
variable {X : Cx} {pins : List (Addr × Obj)} {σ : L2.St} {H₂ : Hp} {s₂ : Shared} {scope : Scope} {cl : List (Str × Addr)} {x : Str} {N : List Str} {js : List Nat} {C : Addr} {fp : List Addr}
end
section
variable {X : Cx} {pins : List (Addr × Obj)} {σ : L2.St} {H₂ : Hp} {s₂ : Shared} {scope : Scope} {cl : List (Str × Addr)} {x : Str} {N : List Str} {js : List Nat} {C : Addr} {fp : List Addr}
end
end Dl
namespace Dl
open PySem PySem.Spec PyProof.Rows L2
theorem CompOk.one {X : Cx} {scope : Scope} {c : Addr} {x z : Str} {j : Nat} (clos : closureFor scope X.env = pure [(z, c)] := by rfl) (nocell : ∀ y ∈ scope.names, y.2 ≠ .cell := by decide +kernel) (kind : scope.kind = .function := by rfl)
    (names : ∀ y ∈ scope.names, y.2 = .local → scope.names.lookup y.1 = some .local := by decide +kernel) (hx : scope.names.lookup x = some .local := by rfl) (hne : x ≠ z := by decide +kernel) (hcell : X.env.cells.lookup z = some c := by rfl)
    (hfr : ∀ p ∈ scope.names, p.2 = .free → p.1 = z := by decide +kernel) (hj : X.N[j]? = some z := by rfl) (hk : X.env.scope.names.lookup z = some .cell := by rfl) (hk' : (relabel scope X.env).names.lookup z = some .cell := by rfl) : CompOk X scope [(z, c)] x [x, z] [j] where
  clos := clos
  nocell := nocell
  kind := kind
  names := names
  hx := hx
  nd := by simp [hne]
  h0 := rfl
  len := rfl
  clx := by
    show List.lookup x [(z, c)] = none
    have q : (x == z) = false := beq_eq_false_iff_ne.mpr hne
    rw [List.lookup_cons, q]
    rfl
  cls := fun y a h => by
    have h' : List.lookup y [(z, c)] = some a := h
    by_cases hy : y = z
    · subst hy
      simp at h'
      subst h'
      exact hcell
    · have q : (y == z) = false := beq_eq_false_iff_ne.mpr hy
      rw [List.lookup_cons, q] at h'
      cases h'
  has := fun y h => by
    have key : ∀ k, (k = NameKind.cell ∨ k = NameKind.free) → (relabel scope X.env).names.lookup y = some k → y = z := fun k hk h => by
      have m := PySem.mem_of_lookup h
      unfold relabel at m
      obtain ⟨⟨n, k'⟩, m1, m2⟩ := List.mem_map.mp m
      dsimp only at m2
      have hk1 : k' = NameKind.free := by
        split at m2
        · rename_i hc
          rw [Bool.and_eq_true, Bool.and_eq_true] at hc
          exact beq_iff_eq.mp hc.1.1
        · have e : k' = k := congrArg Prod.snd m2
          rcases hk with z1 | z1
          · exact absurd (e.trans z1) (nocell _ m1)
          · exact e.trans z1
      have hn : n = y := by split at m2 <;> exact congrArg Prod.fst m2
      rw [← hn]
      exact hfr _ m1 hk1
    have e : y = z := by
      rcases h with h | h
      · exact key _ (.inl rfl) h
      · exact key _ (.inr rfl) h
    subst e
    exact ⟨c, by simp⟩
  fr := fun i y k h1 h2 => by
    cases i with
    | zero =>
      have e1 : z = y := Option.some.inj h1
      have e2 : j = k := Option.some.inj h2
      subst e1 e2
      refine ⟨hj, hk, hk', fun a ha => ?_⟩
      rw [hcell] at ha
      cases ha
      simp
    | succ i => cases h2
end Dl
namespace Dl
open PySem PySem.Spec PyProof.Rows L2
end Dl
namespace Dl
open PySem PySem.Spec PyProof.Rows L2
section
variable {P : Program} {w : World} {K : PySem.W.Frag} {mg : Str → Option Value} {base : Heap}
end
section
variable {X : Cx} {a b : Expr} {fa fb : FD} {pos : Pos}
end
end Dl
namespace Dl
open PySem PySem.Spec PyProof.Rows L2
section
variable {X : Cx} {pins : List (Addr × Obj)} {σ : L2.St} {H H₀ H' : Hp} {s s' : Shared} {B : Heap} {x C t : Addr}
end
section
variable {X : Cx} {pins : List (Addr × Obj)} {σ : L2.St} {H : Hp} {s : Shared} {h' : Heap}
end
abbrev Cx.within (X : Cx) (x : Addr) : Cx := { X with A := X.A.mark (some (.ref x)), calm := false, xe := fun _ _ => False }
abbrev Cx.tried (X : Cx) (W : Value → Shared → Prop) (pn : List (Addr × Obj)) : Cx := { X with xe := W, pn := pn }
end Dl
namespace Dl
open PySem PySem.Spec PyProof.Rows L2
mutual
def imm : D → Bool
  | .tup ds => imms ds
  | .lst _ => false
  | .seq _ => false
  | .ms _ _ => false
  | .mf _ _ => false
  | .md _ _ => false
  | _ => true
def imms : List D → Bool
  | [] => true
  | d :: ds => imm d && imms ds
end
mutual
def own : D → Bool
  | .tup ds => owns ds
  | .lst ds => owns ds
  | .seq _ => false
  | .ms _ _ => false
  | .mf _ _ => false
  | _ => true
def owns : List D → Bool
  | [] => true
  | d :: ds => own d && owns ds
end
def mtb : HO → Bool
  | .lst _ => true
  | .dK _ => true
  | .frz _ (.dK _) => true
  | _ => false
abbrev MO := {u : HO // mtb u = true}
def KeepI (H H' : Hp) : Prop := ∀ a u, H a = some u → mtb u = false → H' a = some u
theorem same_keepI {H H' : Hp} (s : Same H H') : KeepI H H' := fun a u e _ => s a u e
theorem keep_updM {H : Hp} {a : Addr} {u : HO} {o : HO} (h : H a = some u) (m : mtb u = true) : KeepI H (upd H a o) := fun b w e n => by
  by_cases hb : b = a
  · subst hb; rw [h] at e; cases e; rw [m] at n; cases n
  · rw [upd_ne hb]; exact e
theorem keep_upd {H : Hp} {a : Addr} {vs : List V} {o : HO} (h : H a = some (.lst vs)) : KeepI H (upd H a o) := keep_updM h rfl
theorem sqT_keep {K : PySem.W.Frag} {H H' : Hp} {a : Addr} {xs : List V} (k : KeepI H H') (h : SqT K H a xs) : SqT K H' a xs := by
  rcases h with (h | ⟨o, h⟩) | h
  · exact .inl (.inl (k _ _ h rfl))
  · exact .inl (.inr ⟨o, k _ _ h rfl⟩)
  · exact .inr h
mutual
theorem rep_keep {K : PySem.W.Frag} {H H' : Hp} (k : KeepI H H') : ∀ {v : V} {d : D}, Rep K H v d → imm d = true → Rep K H' v d
  | _, _, .non, _ => .non
  | _, _, .bl b, _ => .bl b
  | _, _, .int i, _ => .int i
  | _, _, .str x, _ => .str x
  | _, _, .ty n, _ => .ty n
  | _, _, .tup h r, i => .tup (sqT_keep k h) (reps_keep k r (by rw [imm] at i; exact i))
  | _, _, .lst h r, i => by rw [imm] at i; cases i
  | _, _, .seq h r, i => by rw [imm] at i; cases i
  | _, _, .dct h, _ => .dct (k _ _ h rfl)
  | _, _, .exc h, _ => .exc (k _ _ h rfl)
  | _, _, .cls C, _ => .cls C
  | _, _, .ms h l r, i => by rw [imm] at i; cases i
  | _, _, .mf h l r, i => by rw [imm] at i; cases i
  | _, _, .md h l r, i => by rw [imm] at i; cases i
theorem reps_keep {K : PySem.W.Frag} {H H' : Hp} (k : KeepI H H') : ∀ {vs : List V} {ds : List D}, Reps K H vs ds → imms ds = true → Reps K H' vs ds
  | _, _, .nil, _ => .nil
  | _, _, .cons r t, i => by
    rw [imms, Bool.and_eq_true] at i
    exact .cons (rep_keep k r i.1) (reps_keep k t i.2)
end
mutual
inductive RepO (K : PySem.W.Frag) (F H : Hp) : V → D → List Addr → Prop
  | imm {v : V} {d : D} (i : imm d = true) (h : Rep K H v d) : RepO K F H v d []
  | shr {v : V} {ds : List D} (h : Rep K F v (.seq ds)) : RepO K F H v (.seq ds) []
  | shm {v : V} {ks : List Int} {ds : List D} (h : Rep K F v (.ms ks ds)) : RepO K F H v (.ms ks ds) []
  | shf {v : V} {ks : List Int} {ds : List D} (h : Rep K F v (.mf ks ds)) : RepO K F H v (.mf ks ds) []
  | tup {a : Addr} {vs : List V} {ds : List D} {A : List Addr} (h : SqT K H a vs) (r : RepOs K F H vs ds A) : RepO K F H (.ref a) (.tup ds) A
  | lst {a : Addr} {vs : List V} {ds : List D} {A : List Addr} (h : H a = some (.lst vs)) (n : F a = none) (r : RepOs K F H vs ds A) : RepO K F H (.ref a) (.lst ds) (a :: A)
  | md {a : Addr} {ks : List Int} {vs : List V} {ds : List D} (h : H a = some (.dK ((ks.map Sum.inl).zip vs))) (n : F a = none) (l : ks.length = ds.length) (i : imms ds = true) (r : Reps K H vs ds) : RepO K F H (.ref a) (.md ks ds) [a]
inductive RepOs (K : PySem.W.Frag) (F H : Hp) : List V → List D → List Addr → Prop
  | nil : RepOs K F H [] [] []
  | cons {v : V} {d : D} {vs : List V} {ds : List D} {A B C : List Addr} (r : RepO K F H v d A) (t : RepOs K F H vs ds B) (e : C = A ++ B) : RepOs K F H (v :: vs) (d :: ds) C
end
section
variable {K : PySem.W.Frag} {F H F' H' : Hp}
mutual
theorem RepO.rep (s : Same F H) : ∀ {v : V} {d : D} {A : List Addr}, RepO K F H v d A → Rep K H v d
  | _, _, _, .imm _ h => h
  | _, _, _, .shr h => h.mono s
  | _, _, _, .shm h => h.mono s
  | _, _, _, .shf h => h.mono s
  | _, _, _, .tup h r => .tup h (RepOs.reps s r)
  | _, _, _, .lst h _ r => .lst h (RepOs.reps s r)
  | _, _, _, .md h _ l _ r => .md h l r
theorem RepOs.reps (s : Same F H) : ∀ {vs : List V} {ds : List D} {A : List Addr}, RepOs K F H vs ds A → Reps K H vs ds
  | _, _, _, .nil => .nil
  | _, _, _, .cons r t _ => .cons (RepO.rep s r) (RepOs.reps s t)
end
mutual
theorem RepO.dom : ∀ {v : V} {d : D} {A : List Addr}, RepO K F H v d A → ∀ a ∈ A, (∃ u : MO, H a = some u.1) ∧ F a = none
  | _, _, _, .imm _ _, _, m => nomatch m
  | _, _, _, .shr _, _, m => nomatch m
  | _, _, _, .shm _, _, m => nomatch m
  | _, _, _, .shf _, _, m => nomatch m
  | _, _, _, .tup _ r, a, m => RepOs.dom r a m
  | _, _, _, .lst h n r, a, m => by
    rcases List.mem_cons.mp m with e | e
    · subst e; exact ⟨⟨⟨_, rfl⟩, h⟩, n⟩
    · exact RepOs.dom r a e
  | _, _, _, .md h n _ _ _, a, m => by
    rcases List.mem_singleton.mp m with rfl
    exact ⟨⟨⟨_, rfl⟩, h⟩, n⟩
theorem RepOs.dom : ∀ {vs : List V} {ds : List D} {A : List Addr}, RepOs K F H vs ds A → ∀ a ∈ A, (∃ u : MO, H a = some u.1) ∧ F a = none
  | _, _, _, .nil, _, m => nomatch m
  | _, _, _, .cons r t e, a, m => by
    subst e
    rcases List.mem_append.mp m with z | z
    · exact RepO.dom r a z
    · exact RepOs.dom t a z
end
mutual
theorem RepO.frame (k : KeepI H H') : ∀ {v : V} {d : D} {A : List Addr}, RepO K F H v d A → (∀ a ∈ A, H' a = H a) → RepO K F H' v d A
  | _, _, _, .imm i h, _ => .imm i (rep_keep k h i)
  | _, _, _, .shr h, _ => .shr h
  | _, _, _, .shm h, _ => .shm h
  | _, _, _, .shf h, _ => .shf h
  | _, _, _, .tup h r, e => .tup (sqT_keep k h) (RepOs.frame k r e)
  | _, _, _, .lst h n r, e => .lst ((e _ List.mem_cons_self).trans h) n (RepOs.frame k r fun a m => e a (List.mem_cons_of_mem _ m))
  | _, _, _, .md h n l i r, e => .md ((e _ List.mem_cons_self).trans h) n l i (reps_keep k r i)
theorem RepOs.frame (k : KeepI H H') : ∀ {vs : List V} {ds : List D} {A : List Addr}, RepOs K F H vs ds A → (∀ a ∈ A, H' a = H a) → RepOs K F H' vs ds A
  | _, _, _, .nil, _ => .nil
  | _, _, _, .cons r t e, q => by
    subst e
    exact .cons (RepO.frame k r fun a m => q a (List.mem_append_left _ m)) (RepOs.frame k t fun a m => q a (List.mem_append_right _ m)) rfl
end
mutual
theorem RepO.froz (s : Same F F') : ∀ {v : V} {d : D} {A : List Addr}, RepO K F H v d A → (∀ a ∈ A, F' a = none) → RepO K F' H v d A
  | _, _, _, .imm i h, _ => .imm i h
  | _, _, _, .shr h, _ => .shr (h.mono s)
  | _, _, _, .shm h, _ => .shm (h.mono s)
  | _, _, _, .shf h, _ => .shf (h.mono s)
  | _, _, _, .tup h r, e => .tup h (RepOs.froz s r e)
  | _, _, _, .lst h n r, e => .lst h (e _ List.mem_cons_self) (RepOs.froz s r fun a m => e a (List.mem_cons_of_mem _ m))
  | _, _, _, .md h n l i r, e => .md h (e _ List.mem_cons_self) l i r
theorem RepOs.froz (s : Same F F') : ∀ {vs : List V} {ds : List D} {A : List Addr}, RepOs K F H vs ds A → (∀ a ∈ A, F' a = none) → RepOs K F' H vs ds A
  | _, _, _, .nil, _ => .nil
  | _, _, _, .cons r t e, q => by
    subst e
    exact .cons (RepO.froz s r fun a m => q a (List.mem_append_left _ m)) (RepOs.froz s t fun a m => q a (List.mem_append_right _ m)) rfl
end
noncomputable def frz (F H : Hp) (A : List Addr) : Hp := fun a => match H a with
  | some u => if mtb u = true then (if (F a).isSome = true ∨ a ∈ A then some u else none) else some u
  | none => none
theorem RepOs.length : ∀ {vs : List V} {ds : List D} {A : List Addr}, RepOs K F H vs ds A → vs.length = ds.length
  | _, _, _, .nil => rfl
  | _, _, _, .cons _ t _ => congrArg (· + 1) (RepOs.length t)
theorem RepOs.pick : ∀ {vs : List V} {ds : List D} {A : List Addr} {i : Nat} {d : D}, RepOs K F H vs ds A → ds[i]? = some d → ∃ v A1 B A2, vs[i]? = some v ∧ RepO K F H v d B ∧ A = A1 ++ (B ++ A2) ∧
    ∀ {H' : Hp} {v' : V} {d' : D} {B' : List Addr}, KeepI H H' → (∀ a, a ∈ A1 ∨ a ∈ A2 → H' a = H a) → RepO K F H' v' d' B' → RepOs K F H' (vs.set i v') (ds.set i d') (A1 ++ (B' ++ A2))
  | _, _, _, _, _, .nil, e => by simp at e
  | _, _, _, 0, _, .cons (A := A) (B := B) r t e, q => by
    simp at q
    subst q
    refine ⟨_, [], A, B, rfl, r, by simpa using e, fun k h r' => ?_⟩
    exact .cons r' (t.frame k fun a m => h a (.inr m)) (by simp)
  | _, _, _, i + 1, d, .cons (A := A0) (B := B0) r t e, q => by
    obtain ⟨v, A1, B, A2, h1, h2, h3, h4⟩ := RepOs.pick (i := i) (d := d) t (by simpa using q)
    refine ⟨v, A0 ++ A1, B, A2, by simpa using h1, h2, by rw [e, h3, List.append_assoc], fun k h r' => ?_⟩
    refine .cons (r.frame k fun a m => h a (.inl (List.mem_append_left _ m))) (h4 k (fun a m => h a ?_) r') (by rw [List.append_assoc])
    rcases m with m | m
    · exact .inl (List.mem_append_right _ m)
    · exact .inr m
end
end Dl
namespace Dl
open PySem PySem.Spec PyProof.Rows L2
structure RepA (K : PySem.W.Frag) (F H : Hp) (σ : L2.St) (δ : DS) (As : Nat → List Addr) : Prop where
  fz : Same F H
  len : σ.length = δ.length
  val : ∀ (i : Nat) (d : D), δ[i]? = some (some d) → ∃ v, σ[i]? = some (some v) ∧ RepO K F H v d (As i)
  non : ∀ (i : Nat), (∀ d, δ[i]? ≠ some (some d)) → As i = []
  nd : ∀ i, (As i).Nodup
  dj : ∀ i j a, i ≠ j → a ∈ As i → a ∉ As j
def RepM (K : PySem.W.Frag) (F H : Hp) (σ : L2.St) (δ : DS) : Prop := ∃ As, RepA K F H σ δ As
section
variable {K : PySem.W.Frag} {F H F' H' : Hp} {σ : L2.St} {δ : DS} {As : Nat → List Addr}
theorem RepA.dom (R : RepA K F H σ δ As) {i : Nat} {a : Addr} (m : a ∈ As i) : (∃ u : MO, H a = some u.1) ∧ F a = none := by
  by_cases h : ∃ d, δ[i]? = some (some d)
  · obtain ⟨d, h⟩ := h
    obtain ⟨v, _, h2⟩ := R.val i d h
    exact h2.dom a m
  · rw [R.non i fun d z => h ⟨d, z⟩] at m; cases m
theorem RepA.grow (R : RepA K F H σ δ As) (s : Same H H') : RepA K F H' σ δ As :=
  ⟨R.fz.trans s, R.len, fun i d q => by
    obtain ⟨v, h1, h2⟩ := R.val i d q
    refine ⟨v, h1, h2.frame (same_keepI s) fun a m => ?_⟩
    obtain ⟨⟨vs, e⟩, _⟩ := h2.dom a m
    rw [e]; exact s a _ e, R.non, R.nd, R.dj⟩
theorem RepA.froz (R : RepA K F H σ δ As) (s : Same F F') (s' : Same F' H) (n : ∀ i a, a ∈ As i → F' a = none) : RepA K F' H σ δ As :=
  ⟨s', R.len, fun i d q => let ⟨v, h1, h2⟩ := R.val i d q; ⟨v, h1, h2.froz s (n i)⟩, R.non, R.nd, R.dj⟩
def asSet (As : Nat → List Addr) (i : Nat) (A : List Addr) : Nat → List Addr := fun j => if j = i then A else As j
theorem asSet_same {i : Nat} {A : List Addr} : asSet As i A i = A := if_pos rfl
theorem asSet_ne {i j : Nat} {A : List Addr} (h : j ≠ i) : asSet As i A j = As j := if_neg h
theorem RepA.set {v : V} {d : D} {A : List Addr} (R : RepA K F H σ δ As) (i : Nat) (hi : i < δ.length) (r : RepO K F H v d A) (nd : A.Nodup) (dj : ∀ j a, j ≠ i → a ∈ As j → a ∉ A) : RepA K F H (σ.set i (some v)) (δ.set i (some d)) (asSet As i A) := by
  have hl := R.len
  refine ⟨R.fz, by rw [List.length_set, List.length_set]; exact hl, fun j e q => ?_, fun j h => ?_, fun j => ?_, fun j k a hjk m => ?_⟩
  · rw [List.getElem?_set] at q ⊢
    by_cases hj : i = j
    · subst hj
      rw [if_pos rfl, if_pos hi] at q
      rw [if_pos rfl, if_pos (by omega), asSet_same]
      have : d = e := by simpa using q
      subst this
      exact ⟨v, rfl, r⟩
    · rw [if_neg hj] at q ⊢
      rw [asSet_ne (Ne.symm hj)]
      exact R.val j e q
  · by_cases hj : j = i
    · subst hj
      exact absurd (by rw [List.getElem?_set, if_pos rfl, if_pos hi]) (h d)
    · rw [asSet_ne hj]
      refine R.non j fun e z => h e ?_
      rw [List.getElem?_set_ne (Ne.symm hj)]
      exact z
  · by_cases hj : j = i
    · subst hj; rw [asSet_same]; exact nd
    · rw [asSet_ne hj]; exact R.nd j
  · by_cases hj : j = i
    · subst hj
      rw [asSet_same] at m
      rw [asSet_ne (Ne.symm hjk)]
      exact fun z => dj k a (Ne.symm hjk) z m
    · rw [asSet_ne hj] at m
      by_cases hk : k = i
      · subst hk; rw [asSet_same]; exact dj j a hj m
      · rw [asSet_ne hk]; exact R.dj j k a hjk m
theorem RepA.drop (R : RepA K F H σ δ As) (i : Nat) : RepA K F H σ (δ.set i none) (asSet As i []) := by
  refine ⟨R.fz, by rw [List.length_set]; exact R.len, fun j e q => ?_, fun j h => ?_, fun j => ?_, fun j k a hjk m => ?_⟩
  · rw [List.getElem?_set] at q
    by_cases hj : i = j
    · subst hj; rw [if_pos rfl] at q; split at q <;> cases q
    · rw [if_neg hj] at q
      rw [asSet_ne (Ne.symm hj)]
      exact R.val j e q
  · by_cases hj : j = i
    · subst hj; rw [asSet_same]
    · rw [asSet_ne hj]
      refine R.non j fun e z => h e ?_
      rw [List.getElem?_set_ne (Ne.symm hj)]
      exact z
  · by_cases hj : j = i
    · subst hj; rw [asSet_same]; exact List.nodup_nil
    · rw [asSet_ne hj]; exact R.nd j
  · by_cases hj : j = i
    · subst hj; rw [asSet_same] at m; cases m
    · rw [asSet_ne hj] at m
      by_cases hk : k = i
      · subst hk; rw [asSet_same]; exact fun z => nomatch z
      · rw [asSet_ne hk]; exact R.dj j k a hjk m
theorem RepA.write {v : V} {d : D} {A : List Addr} {i : Nat} (R : RepA K F H σ δ As) (hi : i < δ.length) (hσ : σ[i]? = some (some v)) (k : KeepI H H') (fz : Same F H') (e : ∀ j a, j ≠ i → a ∈ As j → H' a = H a) (r : RepO K F H' v d A) (nd : A.Nodup) (dj : ∀ j a, j ≠ i → a ∈ As j → a ∉ A) :
    RepA K F H' σ (δ.set i (some d)) (asSet As i A) := by
  refine ⟨fz, by rw [List.length_set]; exact R.len, fun j e' q => ?_, fun j h => ?_, fun j => ?_, fun j k a hjk m => ?_⟩
  · rw [List.getElem?_set] at q
    by_cases hj : i = j
    · subst hj
      rw [if_pos rfl, if_pos hi] at q
      have : d = e' := by simpa using q
      subst this
      rw [asSet_same]
      exact ⟨v, hσ, r⟩
    · rw [if_neg hj] at q
      rw [asSet_ne (Ne.symm hj)]
      obtain ⟨w, h1, h2⟩ := R.val j e' q
      exact ⟨w, h1, h2.frame k (fun a m => e j a (Ne.symm hj) m)⟩
  · by_cases hj : j = i
    · subst hj
      exact absurd (by rw [List.getElem?_set, if_pos rfl, if_pos hi]) (h d)
    · rw [asSet_ne hj]
      refine R.non j fun e z => h e ?_
      rw [List.getElem?_set_ne (Ne.symm hj)]
      exact z
  · by_cases hj : j = i
    · subst hj; rw [asSet_same]; exact nd
    · rw [asSet_ne hj]; exact R.nd j
  · by_cases hj : j = i
    · subst hj
      rw [asSet_same] at m
      rw [asSet_ne (Ne.symm hjk)]
      exact fun z => dj k a (Ne.symm hjk) z m
    · rw [asSet_ne hj] at m
      by_cases hk : k = i
      · subst hk; rw [asSet_same]; exact dj j a hj m
      · rw [asSet_ne hk]; exact R.dj j k a hjk m
end
abbrev FM := DS → Option (D × DS)
abbrev FMA := DS → Option (List D × DS)
structure Ev (F H : Hp) (As : Nat → List Addr) (F' H' : Hp) (As' : Nat → List Addr) (A : List Addr) : Prop where
  fs : Same F F'
  hs : Same H H'
  nf : ∀ a (u : MO), H a = some u.1 → F a = none → (∀ i, a ∉ As i) → F' a = none
  fa : ∀ i a, a ∈ As' i → (∃ j, a ∈ As j) ∨ H a = none
  fA : ∀ a, a ∈ A → (∃ j, a ∈ As j) ∨ H a = none
  nd : A.Nodup
  dj : ∀ i a, a ∈ As' i → a ∉ A
theorem Ev.pure {F H H' : Hp} {As : Nat → List Addr} (s : Same H H') : Ev F H As F H' As [] :=
  ⟨Same.refl F, s, fun _ _ _ n _ => n, fun i _ m => .inl ⟨i, m⟩, fun _ m => (nomatch m), List.nodup_nil, fun _ _ _ z => (nomatch z)⟩
theorem Ev.fresh {F H H' : Hp} {As : Nat → List Addr} {A : List Addr} (s : Same H H') (h : ∀ a ∈ A, H a = none) (nd : A.Nodup) (dom : ∀ i a, a ∈ As i → ∃ u : MO, H a = some u.1) : Ev F H As F H' As A :=
  ⟨Same.refl F, s, fun _ _ _ n _ => n, fun i _ m => .inl ⟨i, m⟩, fun a m => .inr (h a m), nd, fun i a m z => by
    obtain ⟨vs, e⟩ := dom i a m
    rw [h a z] at e; cases e⟩
theorem Ev.seq {F H F1 H1 F2 H2 : Hp} {As As1 As2 : Nat → List Addr} {A B : List Addr} (a : Ev F H As F1 H1 As1 A) (b : Ev F1 H1 As1 F2 H2 As2 B) (dA : ∀ x ∈ A, ∃ u : MO, H1 x = some u.1) : Ev F H As F2 H2 As2 (A ++ B) where
  fs := a.fs.trans b.fs
  hs := a.hs.trans b.hs
  nf := fun x vs e n h => b.nf x vs (a.hs x _ e) (a.nf x vs e n h) fun i m => by
    rcases a.fa i x m with ⟨j, z⟩ | z
    · exact h j z
    · rw [e] at z; cases z
  fa := fun i x m => by
    rcases b.fa i x m with ⟨j, z⟩ | z
    · exact a.fa j x z
    · refine .inr ?_
      cases q : H x with
      | none => rfl
      | some u => rw [a.hs x u q] at z; cases z
  fA := fun x m => by
    rcases List.mem_append.mp m with z | z
    · exact a.fA x z
    · rcases b.fA x z with ⟨j, y⟩ | y
      · exact a.fa j x y
      · refine .inr ?_
        cases q : H x with
        | none => rfl
        | some u => rw [a.hs x u q] at y; cases y
  nd := by
    refine List.nodup_append.mpr ⟨a.nd, b.nd, fun x hx y hy e => ?_⟩
    subst e
    rcases b.fA x hy with ⟨j, z⟩ | z
    · exact a.dj j x z hx
    · obtain ⟨vs, e⟩ := dA x hx
      rw [z] at e; cases e
  dj := fun i x m z => by
    rcases List.mem_append.mp z with z | z
    · rcases b.fa i x m with ⟨j, y⟩ | y
      · exact a.dj j x y z
      · obtain ⟨vs, e⟩ := dA x z
        rw [y] at e; cases e
    · exact b.dj i x m z
theorem Ev.stays {K : PySem.W.Frag} {F1 H1 F2 H2 : Hp} {As1 As2 : Nat → List Addr} {A B : List Addr} {v : V} {d : D} (b : Ev F1 H1 As1 F2 H2 As2 B) (r : RepO K F1 H1 v d A) (dj : ∀ i a, a ∈ As1 i → a ∉ A) : RepO K F2 H2 v d A := by
  have h1 : RepO K F1 H2 v d A := r.frame (same_keepI b.hs) fun a m => by
    obtain ⟨⟨vs, e⟩, _⟩ := r.dom a m
    rw [e]; exact b.hs a _ e
  refine h1.froz b.fs fun a m => ?_
  obtain ⟨⟨vs, e⟩, n⟩ := r.dom a m
  exact b.nf a vs e n fun i z => dj i a z m
def freshSp (K : PySem.W.Frag) (n : Nat) (G : List D → Option D) : Sp := fun vs H Q _ => vs.length = n ∧ ∃ ds d, Reps K H vs ds ∧ G ds = some d ∧ ∀ v H' A, Same H H' → RepO K H H' v d A → A.Nodup → Q v H'
section
variable {X : Cx} {e : Expr} {es : List Expr} {f : FD} {fm : FM} {g : FMA} {ga : FA} {pos p : Pos}
end
end Dl
namespace Dl
open PySem PySem.Spec PyProof.Rows L2
def RPM (X : Cx) (E : Ends) (F : Hp) : Res → Prop
  | .nx δ => ∀ σ' F' H', Same F F' → RepM X.K F' H' σ' δ → E.nx σ' H'
  | .rt d => ∀ v F' H' A, Same F F' → Same F' H' → RepO X.K F' H' v d A → A.Nodup → E.rt v H'
  | .bk δ => ∀ σ' F' H', Same F F' → RepM X.K F' H' σ' δ → E.bk σ' H'
  | .ct δ => ∀ σ' F' H', Same F F' → RepM X.K F' H' σ' δ → E.ct σ' H'
  | .ex C δ => ∀ σ' F' H', Same F F' → RepM X.K F' H' σ' δ → XFly X C σ' H'
  | .mk C δ => ∀ σ' F' H', Same F F' → RepM X.K F' H' σ' δ → XMade X C σ' H'
theorem RPM.mono {X : Cx} {E : Ends} {F F1 : Hp} {r : Res} (s : Same F F1) (h : RPM X E F r) : RPM X E F1 r := by
  cases r with
  | nx δ => exact fun σ' F' H' s2 R => h σ' F' H' (s.trans s2) R
  | rt d => exact fun v F' H' A s2 => h v F' H' A (s.trans s2)
  | bk δ => exact fun σ' F' H' s2 R => h σ' F' H' (s.trans s2) R
  | ct δ => exact fun σ' F' H' s2 R => h σ' F' H' (s.trans s2) R
  | ex C δ => exact fun σ' F' H' s2 R => h σ' F' H' (s.trans s2) R
  | mk C δ => exact fun σ' F' H' s2 R => h σ' F' H' (s.trans s2) R
section
variable {K : PySem.W.Frag} {F H : Hp} {σ : L2.St} {δ : DS} {As : Nat → List Addr}
end
section
variable {X : Cx} {st : Stmt} {rest : List Stmt} {s u : SD} {e : Expr} {f : FD} {fm : FM} {c : FT} {pos : Pos}
end
section
variable {P : Program} {w : World} {K : PySem.W.Frag} {mg : Str → Option Value} {base : Heap}
structure HasF (P : Program) (w : World) (K : PySem.W.Frag) (mg : Str → Option Value) (base : Heap) (k : Nat) (x : Str) (ps : List Str) (G : List D → Option D) : Prop where
  ex : ∃ f fd, FnOk P w K mg base CX0 k f fd ps (freshSp K ps.length G) ∧ mg x = some (.ref f) ∧ PySem.W.keepIn K (.ref f) = true ∧ Binds K fd ps []
theorem HasF.has {k : Nat} {x : Str} {ps : List Str} {G : List D → Option D} (h : HasF P w K mg base k x ps G) : Has P w K mg base k x ps G := by
  obtain ⟨f, fd, F, h1, h2, h3⟩ := h.ex
  refine ⟨f, fd, F.imp fun vs H Q E ⟨l, ds, d, r, e, q⟩ => ⟨l, ds, d, r, e, fun v H' A s r1 _ => q v H' s (r1.rep s)⟩, h1, h2, h3⟩
end
end Dl
namespace Dl
open PySem PySem.Spec PyProof.Rows L2
section
variable {K : PySem.W.Frag} {F H : Hp} {σ : L2.St} {δ : DS} {As : Nat → List Addr}
theorem RepO.lst_inv {ds : List D} : ∀ {v : V} {d : D} {A : List Addr}, RepO K F H v d A → d = .lst ds → ∃ a vs A0, v = .ref a ∧ A = a :: A0 ∧ H a = some (.lst vs) ∧ F a = none ∧ RepOs K F H vs ds A0
  | _, _, _, .imm i _, e => by subst e; rw [Dl.imm] at i; cases i
  | _, _, _, .shr _, e => nomatch e
  | _, _, _, .tup _ _, e => nomatch e
  | _, _, _, .lst h n r, e => by cases e; exact ⟨_, _, _, rfl, rfl, h, n, r⟩
theorem RepA.lst {i : Nat} {ds : List D} (R : RepA K F H σ δ As) (h : δ[i]? = some (some (.lst ds))) : ∃ a vs A0, σ[i]? = some (some (.ref a)) ∧ As i = a :: A0 ∧ H a = some (.lst vs) ∧ F a = none ∧ RepOs K F H vs ds A0 := by
  obtain ⟨v, h1, h2⟩ := R.val i _ h
  obtain ⟨a, vs, A0, rfl, e, h3, h4, h5⟩ := h2.lst_inv rfl
  exact ⟨a, vs, A0, h1, e, h3, h4, h5⟩
theorem same_upd {a : Addr} {o : HO} (s : Same F H) (n : F a = none) : Same F (upd H a o) := fun b u e => by
  have : b ≠ a := fun z => by rw [z, n] at e; cases e
  rw [upd_ne this]; exact s b u e
theorem RepA.row {i j : Nat} {ds row : List D} (R : RepA K F H σ δ As) (h : δ[i]? = some (some (.lst ds))) (hj : ds[j]? = some (.lst row)) : ∃ (a : Addr) (vs : List V) (b : Addr) (ws : List V) (B0 O : List Addr), σ[i]? = some (some (.ref a)) ∧ H a = some (.lst vs) ∧ vs[j]? = some (.ref b) ∧ H b = some (.lst ws) ∧ RepOs K F H ws row B0 ∧ (b :: B0).Nodup ∧ (∀ x, x ∈ b :: B0 → x ∈ As i) ∧
    (∀ x, x ∈ O → x ∈ As i) ∧ a ∈ O ∧ (∀ x, x ∈ b :: B0 → x ∉ O) ∧
    ∀ {ws' : List V} {row' : List D} {B' : List Addr}, RepOs K F H ws' row' B' → b ∉ B' → B'.Nodup → (∀ x, x ∈ B' → x ∉ O) → (∀ k x, k ≠ i → x ∈ As k → x ∉ B') → RepM K F (upd H b (.lst ws')) σ (δ.set i (some (.lst (ds.set j (.lst row'))))) := by
  obtain ⟨a, vs, A0, s1, eA, g1, n1, ro⟩ := R.lst h
  obtain ⟨v0, A1, B, A3, hv, rB, e0, pk⟩ := ro.pick hj
  obtain ⟨b, ws, B0, rfl, eB, g2, n2, rr⟩ := rB.lst_inv rfl
  subst eB
  have nd0 := R.nd i
  rw [eA, e0] at nd0
  have nd1 := List.nodup_cons.mp nd0
  have nd2 := List.nodup_append.mp nd1.2
  have nd3 := List.nodup_append.mp nd2.2.1
  have inB : ∀ x, x ∈ b :: B0 → x ∈ As i := fun x m => by rw [eA, e0]; exact List.mem_cons_of_mem _ (List.mem_append_right _ (List.mem_append_left _ m))
  have inO : ∀ x, x ∈ a :: (A1 ++ A3) → x ∈ As i := fun x m => by
    rw [eA, e0]
    rcases List.mem_cons.mp m with z | z
    · rw [z]; exact List.mem_cons_self
    · refine List.mem_cons_of_mem _ ?_
      rcases List.mem_append.mp z with z | z
      · exact List.mem_append_left _ z
      · exact List.mem_append_right _ (List.mem_append_right _ z)
  have sep : ∀ x, x ∈ b :: B0 → x ∉ a :: (A1 ++ A3) := fun x m z => by
    rcases List.mem_cons.mp z with z | z
    · rw [z] at m; exact nd1.1 (List.mem_append_right _ (List.mem_append_left _ m))
    · rcases List.mem_append.mp z with z | z
      · exact nd2.2.2 x z x (List.mem_append_left _ m) rfl
      · exact nd3.2.2 x m x z rfl
  refine ⟨a, vs, b, ws, B0, a :: (A1 ++ A3), s1, g1, hv, g2, rr, nd3.1, inB, inO, List.mem_cons_self, sep, fun {ws' row' B'} r' nb nd' sO sK => ?_⟩
  have hi : i < δ.length := (List.getElem?_eq_some_iff.mp h).1
  have hab : a ≠ b := fun z => sep b List.mem_cons_self (by rw [z]; exact List.mem_cons_self)
  have nO : ∀ x, x ∈ a :: (A1 ++ A3) → x ≠ b := fun x m z => sep b List.mem_cons_self (z ▸ m)
  have rowN : RepO K F (upd H b (.lst ws')) (.ref b) (.lst row') (b :: B') := .lst upd_same n2 (r'.frame (keep_upd g2) fun x m => upd_ne fun z => nb (z ▸ m))
  have tree := pk (keep_upd (o := .lst ws') g2) (fun x m => upd_ne (nO x (List.mem_cons_of_mem _ (by
    rcases m with m | m
    · exact List.mem_append_left _ m
    · exact List.mem_append_right _ m)))) rowN
  have hset : vs.set j (.ref b) = vs := by
    refine List.ext_getElem? fun k => ?_
    rw [List.getElem?_set]
    split
    · rename_i hk; subst hk
      rw [hv, if_pos (List.getElem?_eq_some_iff.mp hv).1]
    · rfl
  rw [hset] at tree
  have nj : ∀ k x, k ≠ i → x ∈ As k → x ≠ b := fun k x hk m z => R.dj k i x hk m (z ▸ inB b List.mem_cons_self)
  refine ⟨_, R.write hi s1 (keep_upd g2) (same_upd R.fz n2) (fun k x hk m => upd_ne (nj k x hk m)) (.lst (by rw [upd_ne hab]; exact g1) n1 tree) ?_ fun k x hk m z => ?_⟩
  · refine List.nodup_cons.mpr ⟨fun z => ?_, List.nodup_append.mpr ⟨nd2.1, List.nodup_append.mpr ⟨List.nodup_cons.mpr ⟨nb, nd'⟩, nd3.2.1, fun x hx y hy e => ?_⟩, fun x hx y hy e => ?_⟩⟩
    · rcases List.mem_append.mp z with z | z
      · exact nd1.1 (List.mem_append_left _ z)
      · rcases List.mem_append.mp z with z | z
        · rcases List.mem_cons.mp z with z | z
          · exact hab z
          · exact sO a z List.mem_cons_self
        · exact nd1.1 (List.mem_append_right _ (List.mem_append_right _ z))
    · subst e
      rcases List.mem_cons.mp hx with z | z
      · exact nO x (List.mem_cons_of_mem _ (List.mem_append_right _ hy)) z
      · exact sO x z (List.mem_cons_of_mem _ (List.mem_append_right _ hy))
    · subst e
      rcases List.mem_append.mp hy with z | z
      · rcases List.mem_cons.mp z with z | z
        · exact nO x (List.mem_cons_of_mem _ (List.mem_append_left _ hx)) z
        · exact sO x z (List.mem_cons_of_mem _ (List.mem_append_left _ hx))
      · exact nd2.2.2 x hx x (List.mem_append_right _ z) rfl
  · rcases List.mem_cons.mp z with z | z
    · exact R.dj k i x hk m (inO x (by rw [z]; exact List.mem_cons_self))
    · rcases List.mem_append.mp z with z | z
      · exact R.dj k i x hk m (inO x (List.mem_cons_of_mem _ (List.mem_append_left _ z)))
      · rcases List.mem_append.mp z with z | z
        · rcases List.mem_cons.mp z with z | z
          · exact nj k x hk m z
          · exact sK k x hk m z
        · exact R.dj k i x hk m (inO x (List.mem_cons_of_mem _ (List.mem_append_right _ z)))
end
section
variable {X : Cx} {e ei : Expr} {fk : FD} {fm : FM} {pos p1 p2 p3 p4 : Pos}
end
end Dl
namespace Dl
open PySem PySem.Spec PyProof.Rows L2
section
variable {X : Cx} {pins : List (Addr × Obj)} {σ : L2.St} {H₂ : Hp} {s₂ : Shared} {scope : Scope} {cl : List (Str × Addr)} {x : Str} {N : List Str} {js : List Nat} {C : Addr} {fp : List Addr}
end
end Dl
namespace Dl
open PySem PySem.Spec PyProof.Rows L2
section
variable {K : PySem.W.Frag} {F H : Hp} {σ : L2.St} {δ : DS} {As : Nat → List Addr}
end
section
variable {X : Cx} {e a b : Expr} {f fa fb : FD} {lo hi : Option Expr} {fl fh : FO} {g : FA} {pos p2 p : Pos}
end
section
variable {K : PySem.W.Frag} {F H : Hp} {σ : L2.St} {δ : DS} {As : Nat → List Addr}
theorem Reps.reverse {vs : List V} {ds : List D} (r : Reps K H vs ds) : Reps K H vs.reverse ds.reverse := by
  induction vs generalizing ds with
  | nil => cases r; exact .nil
  | cons v vs ih =>
    cases r with
    | cons r t => rw [List.reverse_cons, List.reverse_cons]; exact (ih t).append (.cons r .nil)
end
section
variable {X : Cx} {pos : Pos}
end
end Dl
namespace Dl
open PySem PySem.Spec PyProof.Rows L2
end Dl
namespace Dl
open PySem PySem.Spec PyProof.Rows L2
section
variable {X : Cx} {pins : List (Addr × Obj)} {σ : L2.St} {H : Hp} {s : Shared}
end
section
variable {X : Cx} {a b : Expr} {fa fb : FD} {pos : Pos}
end
end Dl
namespace Dl
open PySem PySem.Spec PyProof.Rows L2
inductive Nm where
  | i (n : Int)
  | b (c : Bool)
def Nm.val : Nm → Int
  | .i n => n
  | .b c => if c then 1 else 0
def Nm.toV : Nm → V
  | .i n => .int n
  | .b c => .bl c
inductive NumsAre : List Value → List Nm → Prop
  | nil : NumsAre [] []
  | i (n : Int) (t : Tok) {vs : List Value} {ns : List Nm} (h : NumsAre vs ns) : NumsAre (.int n t :: vs) (.i n :: ns)
  | b (c : Bool) {vs : List Value} {ns : List Nm} (h : NumsAre vs ns) : NumsAre (.bool c :: vs) (.b c :: ns)
theorem NumsAre.length {vs : List Value} {ns : List Nm} (h : NumsAre vs ns) : vs.length = ns.length := by
  induction h with
  | nil => rfl
  | i _ _ _ ih => simp [ih]
  | b _ _ ih => simp [ih]
section
open PySem.SeqAt
open PySem.AutoSeq1 (wpAny_loadPart')
open PySem.MeetsSeq PySem.MeetsSeq2 PySem.MeetsSeq3
end
section
variable {X : Cx} {a b : Expr} {fa fb : FD} {pos : Pos}
end
end Dl
namespace Dl
open PySem PySem.Spec PyProof.Rows L2
section
variable {X : Cx} {pos : Pos} {r : Nat} {c e : Expr} {f : FD} {g : List D → Option (List D)} {rest : List Stmt}
end
theorem RepA.other {K : PySem.W.Frag} {F H : Hp} {σ : L2.St} {δ : DS} {As : Nat → List Addr} (R : RepA K F H σ δ As) {r : Nat} (v : Option V) (hr : ∀ d, δ[r]? ≠ some (some d)) : RepA K F H (σ.set r v) δ As := by
  refine ⟨R.fz, by rw [List.length_set]; exact R.len, fun i d q => ?_, R.non, R.nd, R.dj⟩
  obtain ⟨w, h1, h2⟩ := R.val i d q
  have : r ≠ i := fun z => hr d (z ▸ q)
  exact ⟨w, by rw [List.getElem?_set_ne this]; exact h1, h2⟩
end Dl
namespace Dl
open PySem PySem.Spec PyProof.Rows L2
theorem CompOk.nil {X : Cx} {scope : Scope} {x : Str} (clos : closureFor scope X.env = pure [] := by rfl) (nocell : ∀ y ∈ scope.names, y.2 ≠ .cell := by decide +kernel) (kind : scope.kind = .function := by rfl)
    (names : ∀ y ∈ scope.names, y.2 = .local → scope.names.lookup y.1 = some .local := by decide +kernel) (hx : scope.names.lookup x = some .local := by rfl) (hfr : ∀ p ∈ scope.names, p.2 ≠ .free := by decide +kernel) : CompOk X scope [] x [x] [] where
  clos := clos
  nocell := nocell
  kind := kind
  names := names
  hx := hx
  nd := by simp
  h0 := rfl
  len := rfl
  clx := rfl
  cls := fun y a h => by cases h
  has := fun y h => by
    have key : ∀ k, (k = NameKind.cell ∨ k = NameKind.free) → (relabel scope X.env).names.lookup y = some k → False := fun k hk h => by
      have m := PySem.mem_of_lookup h
      unfold relabel at m
      obtain ⟨⟨n, k'⟩, m1, m2⟩ := List.mem_map.mp m
      dsimp only at m2
      refine hfr _ m1 ?_
      show k' = NameKind.free
      split at m2
      · rename_i hc
        rw [Bool.and_eq_true, Bool.and_eq_true] at hc
        exact beq_iff_eq.mp hc.1.1
      · have e : k' = k := congrArg Prod.snd m2
        rcases hk with z1 | z1
        · exact absurd (e.trans z1) (nocell _ m1)
        · exact e.trans z1
    rcases h with h | h
    · exact (key _ (.inl rfl) h).elim
    · exact (key _ (.inr rfl) h).elim
  fr := fun i y k h1 h2 => by simp at h2
end Dl
namespace Dl
open PySem PySem.Spec PyProof.Rows L2
theorem reps_own {K : PySem.W.Frag} {F H : Hp} : ∀ {vs : List V} {ds : List D}, Reps K H vs ds → imms ds = true → RepOs K F H vs ds []
  | _, _, .nil, _ => .nil
  | _, _, .cons r t, i => by
    rw [imms, Bool.and_eq_true] at i
    exact .cons (.imm i.1 r) (reps_own t i.2) rfl
theorem RepO.parts {K : PySem.W.Frag} {F H : Hp} {v : V} {ds : List D} {A : List Addr} (r : RepO K F H v (.tup ds) A) : ∃ a vs, v = .ref a ∧ SqT K H a vs ∧ RepOs K F H vs ds A := by
  cases r with
  | imm i h =>
    cases h with
    | tup h r => exact ⟨_, _, rfl, h, reps_own r (by rw [Dl.imm] at i; exact i)⟩
  | tup h r => exact ⟨_, _, rfl, h, r⟩
theorem RepOs.len {K : PySem.W.Frag} {F H : Hp} : ∀ {vs : List V} {ds : List D} {A : List Addr}, RepOs K F H vs ds A → vs.length = ds.length
  | _, _, _, .nil => rfl
  | _, _, _, .cons _ t _ => by rw [List.length_cons, List.length_cons, RepOs.len t]
end Dl
namespace Dl
open PySem PySem.Spec PyProof.Rows L2
theorem look2 {y z u : Str} {c e a : Addr} (h : List.lookup y [(z, c), (u, e)] = some a) : (y = z ∧ c = a) ∨ (y = u ∧ e = a) := by
  by_cases hy : y = z
  · subst hy
    simp at h
    exact .inl ⟨rfl, h⟩
  · have q : (y == z) = false := beq_eq_false_iff_ne.mpr hy
    rw [List.lookup_cons, q] at h
    by_cases hu : y = u
    · subst hu
      simp at h
      exact .inr ⟨rfl, h⟩
    · have q2 : (y == u) = false := beq_eq_false_iff_ne.mpr hu
      rw [List.lookup_cons, q2] at h
      cases h
theorem look2_1 {z u : Str} {c e : Addr} : List.lookup z [(z, c), (u, e)] = some c := by simp
theorem look2_2 {z u : Str} {c e : Addr} (h : z ≠ u) : List.lookup u [(z, c), (u, e)] = some e := by
  have q : (u == z) = false := beq_eq_false_iff_ne.mpr h.symm
  rw [List.lookup_cons, q]
  simp
theorem free_of {X : Cx} {scope : Scope} {y : Str} (nocell : ∀ y ∈ scope.names, y.2 ≠ .cell) (h : (relabel scope X.env).names.lookup y = some .cell ∨ (relabel scope X.env).names.lookup y = some .free) : ∃ p ∈ scope.names, p.2 = .free ∧ p.1 = y := by
  have key : ∀ k, (k = NameKind.cell ∨ k = NameKind.free) → (relabel scope X.env).names.lookup y = some k → ∃ p ∈ scope.names, p.2 = .free ∧ p.1 = y := fun k hk h => by
    have m := PySem.mem_of_lookup h
    unfold relabel at m
    obtain ⟨⟨n, k'⟩, m1, m2⟩ := List.mem_map.mp m
    dsimp only at m2
    refine ⟨_, m1, ?_, ?_⟩
    · show k' = NameKind.free
      split at m2
      · rename_i hc
        rw [Bool.and_eq_true, Bool.and_eq_true] at hc
        exact beq_iff_eq.mp hc.1.1
      · have e : k' = k := congrArg Prod.snd m2
        rcases hk with z1 | z1
        · exact absurd (e.trans z1) (nocell _ m1)
        · exact e.trans z1
    · show n = y
      split at m2 <;> exact congrArg Prod.fst m2
  rcases h with h | h
  · exact key _ (.inl rfl) h
  · exact key _ (.inr rfl) h
theorem CompOk.two {X : Cx} {scope : Scope} {c e : Addr} {x z u : Str} {j k : Nat} (clos : closureFor scope X.env = pure [(z, c), (u, e)] := by rfl) (nocell : ∀ y ∈ scope.names, y.2 ≠ .cell := by decide +kernel) (kind : scope.kind = .function := by rfl)
    (names : ∀ y ∈ scope.names, y.2 = .local → scope.names.lookup y.1 = some .local := by decide +kernel) (hx : scope.names.lookup x = some .local := by rfl) (hne : x ≠ z := by decide +kernel) (hne' : x ≠ u := by decide +kernel) (hzu : z ≠ u := by decide +kernel) (hcell : X.env.cells.lookup z = some c := by rfl) (hcell' : X.env.cells.lookup u = some e := by rfl)
    (hfr : ∀ p ∈ scope.names, p.2 = .free → p.1 = z ∨ p.1 = u := by decide +kernel) (hj : X.N[j]? = some z := by rfl) (hJ : X.N[k]? = some u := by rfl) (hk : X.env.scope.names.lookup z = some .cell := by rfl) (hk' : (relabel scope X.env).names.lookup z = some .cell := by rfl) (hu : X.env.scope.names.lookup u = some .cell := by rfl) (hu' : (relabel scope X.env).names.lookup u = some .cell := by rfl) : CompOk X scope [(z, c), (u, e)] x [x, z, u] [j, k] where
  clos := clos
  nocell := nocell
  kind := kind
  names := names
  hx := hx
  nd := by simp [hne, hne', hzu]
  h0 := rfl
  len := rfl
  clx := by
    cases q : List.lookup x [(z, c), (u, e)] with
    | none => rfl
    | some a => rcases look2 q with ⟨h, _⟩ | ⟨h, _⟩ <;> exact absurd h (by assumption)
  cls := fun y a h => by
    rcases look2 h with ⟨rfl, rfl⟩ | ⟨rfl, rfl⟩
    · exact hcell
    · exact hcell'
  has := fun y h => by
    obtain ⟨p, m, f, rfl⟩ := free_of nocell h
    rcases hfr p m f with q | q
    · exact ⟨c, by rw [q]; exact look2_1⟩
    · exact ⟨e, by rw [q]; exact look2_2 hzu⟩
  fr := fun i y l h1 h2 => by
    match i with
    | 0 =>
      have e1 : z = y := Option.some.inj h1
      have e2 : j = l := Option.some.inj h2
      subst e1 e2
      refine ⟨hj, hk, hk', fun a ha => ?_⟩
      rw [hcell] at ha
      cases ha
      exact look2_1
    | 1 =>
      have e1 : u = y := Option.some.inj h1
      have e2 : k = l := Option.some.inj h2
      subst e1 e2
      refine ⟨hJ, hu, hu', fun a ha => ?_⟩
      rw [hcell'] at ha
      cases ha
      exact look2_2 hzu
    | i + 2 => cases h2
end Dl
namespace Dl
open PySem PySem.Spec PyProof.Rows L2
end Dl
namespace Dl
open PySem PySem.Spec PyProof.Rows L2
def CMulW (i j : Int) : Prop := (Bd i ∧ Bd j) ∨ L2.CMul i j
instance (i j : Int) : Decidable (CMulW i j) := by unfold CMulW L2.CMul; exact inferInstance
end Dl
namespace Dl
open PySem PySem.Spec PyProof.Rows L2
end Dl
namespace Dl
open PySem PySem.Spec PyProof.Rows L2
end Dl
namespace Dl
open PySem PySem.Spec PyProof.Rows L2
theorem RepA.side {K : PySem.W.Frag} {F H : Hp} {σ : L2.St} {δ : DS} {As : Nat → List Addr} (R : RepA K F H σ δ As) {a : Addr} {vs ws : List V} (h : H a = some (.lst vs)) (n : F a = none) (dj : ∀ i, a ∉ As i) : RepA K F (upd H a (.lst ws)) σ δ As := by
  have ne : ∀ x, x ≠ a → upd H a (.lst ws) x = H x := fun x hx => upd_ne hx
  refine ⟨fun x u e => ?_, R.len, fun i d q => ?_, R.non, R.nd, R.dj⟩
  · have hx : x ≠ a := fun z => by rw [z, n] at e; cases e
    rw [ne x hx]
    exact R.fz x u e
  · obtain ⟨v, h1, h2⟩ := R.val i d q
    refine ⟨v, h1, h2.frame (fun x u e k => ?_) fun x m => ne x fun z => dj i (z ▸ m)⟩
    have hx : x ≠ a := fun z => by rw [z, h] at e; cases e; exact nomatch (show true = false from k)
    rw [ne x hx]
    exact e
end Dl
namespace Dl
open PySem PySem.Spec PyProof.Rows L2
structure CompG (X : Cx) (scope : Scope) (cl : List (Str × Addr)) (T N : List Str) (js : List Nat) : Prop where
  clos : closureFor scope X.env = pure cl
  nocell : ∀ y ∈ scope.names, y.2 ≠ .cell
  kind : scope.kind = .function
  names : ∀ y ∈ scope.names, y.2 = .local → scope.names.lookup y.1 = some .local
  nd : N.Nodup
  len : N.length = T.length + js.length
  clx : ∀ y, T.contains y = true → cl.lookup y = none
  cls : ∀ y c, cl.lookup y = some c → X.env.cells.lookup y = some c
  has : ∀ y, ((relabel scope X.env).names.lookup y = some .cell ∨ (relabel scope X.env).names.lookup y = some .free) → ∃ c, cl.lookup y = some c
  fr : ∀ i y j, N[T.length + i]? = some y → js[i]? = some j → X.N[j]? = some y ∧ X.env.scope.names.lookup y = some .cell ∧ (relabel scope X.env).names.lookup y = some .cell ∧ ∀ c, X.env.cells.lookup y = some c → cl.lookup y = some c
theorem lookup_mem {y : Str} : ∀ {cl : List (Str × Addr)}, y ∈ cl.map (·.1) → ∃ c, cl.lookup y = some c
  | [], h => by cases h
  | (z, c) :: cl, h => by
    by_cases hy : y = z
    · subst hy
      exact ⟨c, by simp⟩
    · have q : (y == z) = false := beq_eq_false_iff_ne.mpr hy
      rw [List.lookup_cons, q]
      refine lookup_mem ?_
      rcases List.mem_cons.mp h with e | e
      · exact absurd e hy
      · exact e
theorem CompG.of {X : Cx} {scope : Scope} {cl : List (Str × Addr)} {T Z Y : List Str} {js : List Nat} (clos : closureFor scope X.env = pure cl := by rfl) (hY : cl.map (·.1) = Y := by rfl) (nocell : ∀ y ∈ scope.names, y.2 ≠ .cell := by decide +kernel) (kind : scope.kind = .function := by rfl)
    (names : ∀ y ∈ scope.names, y.2 = .local → scope.names.lookup y.1 = some .local := by decide +kernel) (nd : (T ++ Z).Nodup := by decide +kernel) (len : Z.length = js.length := by rfl) (dis : ∀ y ∈ T, y ∉ Y := by decide +kernel)
    (hcl : ∀ p ∈ cl, X.env.cells.lookup p.1 = some p.2) (hfr : ∀ p ∈ scope.names, p.2 = .free → p.1 ∈ Y := by decide +kernel) (hZ : ∀ y ∈ Z, y ∈ Y := by decide +kernel)
    (hN : ∀ (i : Nat) y j, Z[i]? = some y → js[i]? = some j → X.N[j]? = some y ∧ X.env.scope.names.lookup y = some .cell ∧ (relabel scope X.env).names.lookup y = some .cell) : CompG X scope cl T (T ++ Z) js where
  clos := clos
  nocell := nocell
  kind := kind
  names := names
  nd := nd
  len := by rw [List.length_append, len]
  clx := fun y hy => by
    cases q : cl.lookup y with
    | none => rfl
    | some c =>
      have m : y ∈ Y := by
        rw [← hY]
        exact List.mem_map.mpr ⟨_, PySem.mem_of_lookup q, rfl⟩
      exact absurd m (dis y (List.contains_iff_mem.mp hy))
  cls := fun y c h => hcl _ (PySem.mem_of_lookup h)
  has := fun y h => by
    obtain ⟨p, m, f, rfl⟩ := free_of nocell h
    exact lookup_mem (by rw [hY]; exact hfr p m f)
  fr := fun i y j h1 h2 => by
    rw [List.getElem?_append_right (Nat.le_add_right _ _), Nat.add_sub_cancel_left] at h1
    obtain ⟨a, b, c⟩ := hN i y j h1 h2
    refine ⟨a, b, c, fun e he => ?_⟩
    obtain ⟨e', he'⟩ := lookup_mem (cl := cl) (y := y) (by rw [hY]; exact hZ y (List.mem_of_getElem? h1))
    have := hcl _ (PySem.mem_of_lookup he')
    dsimp only at this
    rw [he] at this
    cases this
    exact he'
section
variable {X : Cx} {pins : List (Addr × Obj)} {σ : L2.St} {H₂ : Hp} {s₂ : Shared} {scope : Scope} {cl : List (Str × Addr)} {T N : List Str} {js : List Nat} {C : Addr} {fp : List Addr}
end
end Dl
namespace Dl
open PySem PySem.Spec PyProof.Rows L2
section
variable {X : Cx} {pins : List (Addr × Obj)} {σ : L2.St} {H : Hp} {s : Shared} {h' : Heap}
end
end Dl
namespace Dl
open PySem PySem.Spec PyProof.Rows L2
def RPZ (X : Cx) (Z : L2.St → Prop) (E : Ends) (F : Hp) : Res → Prop
  | .nx δ => ∀ σ' F' H', Same F F' → RepM X.K F' H' σ' δ → Z σ' → E.nx σ' H'
  | .rt d => ∀ v F' H' A, Same F F' → Same F' H' → RepO X.K F' H' v d A → A.Nodup → E.rt v H'
  | .bk δ => ∀ σ' F' H', Same F F' → RepM X.K F' H' σ' δ → Z σ' → E.bk σ' H'
  | .ct δ => ∀ σ' F' H', Same F F' → RepM X.K F' H' σ' δ → Z σ' → E.ct σ' H'
  | .ex _ _ => False
  | .mk _ _ => False
theorem RPZ.mono {X : Cx} {Z : L2.St → Prop} {E : Ends} {F F1 : Hp} {r : Res} (s : Same F F1) (h : RPZ X Z E F r) : RPZ X Z E F1 r := by
  cases r with
  | nx δ => exact fun σ' F' H' s2 R => h σ' F' H' (s.trans s2) R
  | rt d => exact fun v F' H' A s2 => h v F' H' A (s.trans s2)
  | bk δ => exact fun σ' F' H' s2 R => h σ' F' H' (s.trans s2) R
  | ct δ => exact fun σ' F' H' s2 R => h σ' F' H' (s.trans s2) R
  | ex C δ => exact h
  | mk C δ => exact h
section
variable {X : Cx} {Z : L2.St → Prop} {st : Stmt} {rest : List Stmt} {s u : SD} {e : Expr} {fk fl : FD} {fm : FM} {c : FT} {pos : Pos}
end
section
variable {P : Program} {w : World} {K : PySem.W.Frag} {mg : Str → Option Value} {base : Heap}
end
end Dl
namespace Dl
open PySem PySem.Spec PyProof.Rows L2
theorem Ev.sub {F H F' H' : Hp} {As As' : Nat → List Addr} {A B : List Addr} (ev : Ev F H As F' H' As' A) (h : ∀ a ∈ B, a ∈ A) (nd : B.Nodup) : Ev F H As F' H' As' B :=
  ⟨ev.fs, ev.hs, ev.nf, ev.fa, fun a m => ev.fA a (h a m), nd, fun i a m z => ev.dj i a m (h a z)⟩
theorem Ev.grow {F H F' H' H1 : Hp} {As As' : Nat → List Addr} {A : List Addr} (ev : Ev F H As F' H' As' A) (s : Same H' H1) : Ev F H As F' H1 As' A :=
  ⟨ev.fs, ev.hs.trans s, ev.nf, ev.fa, ev.fA, ev.nd, ev.dj⟩
theorem vals_ints : ∀ {ns : List Int} {us : List Value}, Vals (ns.map V.int) us → PyProof.Rows.IntsAre us ns
  | [], _, .nil => .nil
  | n :: ns, _, .cons r t => by
    obtain ⟨tk, rfl⟩ := r
    exact .cons n tk (vals_ints t)
section
variable {X : Cx}
end
section
variable {K : PySem.W.Frag} {F H : Hp} {σ : L2.St} {δ : DS} {As : Nat → List Addr} {i : Nat} {x : D} {ds : List D}
end
section
variable {X : Cx} {pos : Pos} {c : Expr} {f : FD}
end
end Dl
namespace Dl
open PySem PySem.Spec PyProof.Rows L2
end Dl
namespace Dl
open PySem PySem.Spec PyProof.Rows L2
def lk (ks : List Int) (ds : List D) (k : Int) : Option D := ((ks.zip ds).find? fun p => decide (p.1 = k)).map (·.2)
def kz (ks : List Int) (vs : List V) : List (Key × V) := (ks.map Sum.inl).zip vs
section
variable {X : Cx} {a b : Expr} {fa fb : FD} {pos : Pos}
end
section
variable {K : PySem.W.Frag} {F H : Hp} {σ : L2.St} {δ : DS} {As : Nat → List Addr}
theorem RepO.md_inv {ks : List Int} {ds : List D} : ∀ {v : V} {d : D} {A : List Addr}, RepO K F H v d A → d = .md ks ds → ∃ a vs, v = .ref a ∧ A = [a] ∧ H a = some (.dK (kz ks vs)) ∧ F a = none ∧ ks.length = ds.length ∧ imms ds = true ∧ Reps K H vs ds
  | _, _, _, .imm i _, e => by subst e; rw [Dl.imm] at i; cases i
  | _, _, _, .shr _, e => nomatch e
  | _, _, _, .shm _, e => nomatch e
  | _, _, _, .shf _, e => nomatch e
  | _, _, _, .tup _ _, e => nomatch e
  | _, _, _, .lst _ _ _, e => nomatch e
  | _, _, _, .md h n l i r, e => by cases e; exact ⟨_, _, rfl, rfl, h, n, l, i, r⟩
theorem RepA.md {i : Nat} {ks : List Int} {ds : List D} (R : RepA K F H σ δ As) (h : δ[i]? = some (some (.md ks ds))) : ∃ a vs, σ[i]? = some (some (.ref a)) ∧ As i = [a] ∧ H a = some (.dK (kz ks vs)) ∧ F a = none ∧ ks.length = ds.length ∧ imms ds = true ∧ Reps K H vs ds := by
  obtain ⟨v, h1, h2⟩ := R.val i _ h
  obtain ⟨a, vs, rfl, r⟩ := h2.md_inv rfl
  exact ⟨a, vs, h1, r⟩
end
section
variable {X : Cx} {e ei : Expr} {fk : FD} {fm : FM} {pos p1 p2 p3 p4 : Pos}
end
section
variable {K : PySem.W.Frag} {F H : Hp} {σ : L2.St} {δ : DS} {As : Nat → List Addr}
end
section
variable {X : Cx} {e ek ev : Expr} {g : FA} {fk fv : FD} {pos p : Pos}
end
end Dl
namespace Dl
open PySem PySem.Spec PyProof.Rows L2
end Dl
namespace Dl
open PySem PySem.Spec PyProof.Rows L2
section
variable {X : Cx} {pins : List (Addr × Obj)} {σ : L2.St} {H : Hp} {s : Shared} {a : Addr} {u u' : HO}
end
end Dl
namespace Dl
open PySem PySem.Spec PyProof.Rows L2
end Dl
namespace Dl
open PySem PySem.Spec PyProof.Rows L2
section
variable {P : Program} {w : World} {K : PySem.W.Frag} {mg : Str → Option Value} {base : Heap}
end
end Dl
namespace Dl
open PySem PySem.Spec PyProof.Rows L2
section
variable {P : Program} {w : World} {K : PySem.W.Frag} {mg : Str → Option Value} {base : Heap}
end
end Dl
namespace Mine
open PySem PySem.Spec PyProof.Rows L2 Dl
noncomputable section
def top (i : Nat) : Stmt := PySem.Challenge.pw_watchyard_k12_fractions_reckoned.main.body.getD i (.Pass ⟨0, 0, 0, 0⟩)
open Mth
abbrev fr (p : Int × Int) : D := .tup [.int p.1, .int p.2]
def gWhole : D → Option Bool
  | .int _ => some true
  | .ty _ => none
  | .exc _ => none
  | .cls _ => none
  | .ms _ _ => none
  | .mf _ _ => none
  | .md _ _ => none
  | _ => some false
abbrev Md (x : Int) : Prop := Sm 4000 x
theorem Md.bd {x : Int} (h : Md x) : Bd x := h.mono (l := 9000) (by decide)
theorem bd_of {k : Nat} {x : Int} (h : Sm k x) (e : k ≤ 9000 := by decide) : Bd x := h.mono (l := 9000) e
theorem bd_sm {x : Int} (h : x.natAbs < 2 ^ 64 := by decide) : Bd x := bd_of (k := 64) h
theorem bd_neg {x : Int} (h : Bd x) : Bd (-x) := by unfold Bd at *; rw [Int.natAbs_neg]; exact h
structure Fk (p : Int × Int) : Prop where
  pos : 0 < p.2
  s1 : Md p.1
  s2 : Md p.2
theorem Fk.of {k : Nat} {p : Int × Int} (h : Fr k p) (e : k ≤ 4000 := by decide) : Fk p := ⟨h.pos, h.s1.mono e, h.s2.mono e⟩
def S_is_whole (ds : List D) (d : D) : Prop := ∃ x b, gWhole x = some b ∧ ds = [x] ∧ d = .bl b
theorem e_is_whole {x : D} {b : Bool} (h : gWhole x = some b) : fn S_is_whole [x] = some (.bl b) := fn_eq (fun d' h' => by
  obtain ⟨x', b', h1, h2, rfl⟩ := h'
  cases h2; rw [h] at h1; cases h1; rfl) ⟨x, b, h, rfl, rfl⟩
abbrev S__law_whole := S_is_whole
def S_common_divisor (ds : List D) (d : D) : Prop := ∃ a b, 0 < b ∧ ds = [.int a, .int b] ∧ d = .int (gc a b)
theorem e_common_divisor {a b : Int} (h : 0 < b) : fn S_common_divisor [.int a, .int b] = some (.int (gc a b)) := fn_eq (fun d' h' => by
  obtain ⟨a', b', h1, h2, rfl⟩ := h'
  cases h2; rfl) ⟨a, b, h, rfl, rfl⟩
abbrev S__law_common := S_common_divisor
def S_is_fraction (ds : List D) (d : D) : Prop := ∃ p : Int × Int, 0 < p.2 ∧ ds = [fr p] ∧ d = .bl (gc p.1 p.2 == 1)
theorem e_is_fraction {p : Int × Int} (h : 0 < p.2) : fn S_is_fraction [fr p] = some (.bl (gc p.1 p.2 == 1)) := fn_eq (fun d' h' => by
  obtain ⟨⟨a, b⟩, h1, h2, rfl⟩ := h'
  obtain ⟨c, e⟩ := p
  cases h2; rfl) ⟨p, h, rfl, rfl⟩
def S2 (op : Int × Int → Int × Int → D) (ds : List D) (d : D) : Prop := ∃ p q : Int × Int, Fk p ∧ Fk q ∧ ds = [fr p, fr q] ∧ d = op p q
theorem e2 {op : Int × Int → Int × Int → D} {p q : Int × Int} (h : Fk p) (g : Fk q) : fn (S2 op) [fr p, fr q] = some (op p q) := fn_eq (fun d' h' => by
  obtain ⟨⟨a, b⟩, ⟨c, e⟩, _, _, h2, rfl⟩ := h'
  obtain ⟨a', b'⟩ := p
  obtain ⟨c', e'⟩ := q
  cases h2; rfl) ⟨p, q, h, g, rfl, rfl⟩
structure Flw (p : Int × Int) : Prop extends Fk p where
  lw : Lw p
theorem Flw.of {k : Nat} {p : Int × Int} (h : Fr k p) (e : k ≤ 4000 := by decide) : Flw p := ⟨Fk.of h e, h.lw⟩
def S2w (op : Int × Int → Int × Int → D) (ds : List D) (d : D) : Prop := ∃ p q : Int × Int, Flw p ∧ Flw q ∧ ds = [fr p, fr q] ∧ d = op p q
theorem e2w {op : Int × Int → Int × Int → D} {p q : Int × Int} (h : Flw p) (g : Flw q) : fn (S2w op) [fr p, fr q] = some (op p q) := fn_eq (fun d' h' => by
  obtain ⟨⟨a, b⟩, ⟨c, e⟩, _, _, h2, rfl⟩ := h'
  obtain ⟨a', b'⟩ := p
  obtain ⟨c', e'⟩ := q
  cases h2; rfl) ⟨p, q, h, g, rfl, rfl⟩
def S_summed (ds : List D) (d : D) : Prop := ∃ p q : Int × Int, Flw p ∧ Flw q ∧ ds = [fr p, .int q.1, .int q.2] ∧ d = fr (sm p.1 p.2 q.1 q.2)
theorem e_summed {p q : Int × Int} (h : Flw p) (g : Flw q) : fn S_summed [fr p, .int q.1, .int q.2] = some (fr (sm p.1 p.2 q.1 q.2)) := fn_eq (fun d' h' => by
  obtain ⟨⟨a, b⟩, ⟨c, e⟩, _, _, h2, rfl⟩ := h'
  obtain ⟨a', b'⟩ := p
  obtain ⟨c', e'⟩ := q
  cases h2; rfl) ⟨p, q, h, g, rfl, rfl⟩
theorem Flw.neg {p : Int × Int} (h : Flw p) : Flw (-p.1, p.2) := ⟨⟨h.pos, h.s1.neg, h.s2⟩, h.lw.neg⟩
theorem md_div {x g : Int} (h : Md x) (hg : 0 < g) (d : g ∣ x) : Bd (x / g) := (Sm.div h hg d).mono (l := 9000) (by decide)
abbrev S_plus := S2w fun p q => fr (pl p q)
abbrev S_minus := S2w fun p q => fr (mi p q)
abbrev S_times := S2w fun p q => fr (ti p q)
abbrev S_less := S2 fun p q => .bl (decide (p.1 * q.2 < q.1 * p.2))
def S_floor_of (ds : List D) (d : D) : Prop := ∃ p : Int × Int, Fk p ∧ ds = [fr p] ∧ d = .int (p.1 / p.2)
theorem e_floor_of {p : Int × Int} (h : Fk p) : fn S_floor_of [fr p] = some (.int (p.1 / p.2)) := fn_eq (fun d' h' => by
  obtain ⟨⟨a, b⟩, _, h2, rfl⟩ := h'
  obtain ⟨c, e⟩ := p
  cases h2; rfl) ⟨p, h, rfl, rfl⟩
theorem ints_inj : ∀ {ns ms : List Int}, ns.map D.int = ms.map D.int → ns = ms
  | [], [], _ => rfl
  | [], _ :: _, h => by cases h
  | _ :: _, [], h => by cases h
  | n :: ns, m :: ms, h => by
    have h' : D.int n :: ns.map D.int = D.int m :: ms.map D.int := h
    injection h' with h1 h2
    injection h1 with h1
    rw [h1, ints_inj h2]
def cell (ns : List Int) (k : Int) : Int := ns.getD k.toNat 0
def S__law_cell_at (ds : List D) (d : D) : Prop := ∃ (ns : List Int) (k : Int), 0 ≤ k ∧ ds = [.seq (ns.map D.int), .int k] ∧ d = .int (cell ns k)
theorem e__law_cell_at {ns : List Int} {k : Int} (h : 0 ≤ k) : fn S__law_cell_at [.seq (ns.map D.int), .int k] = some (.int (cell ns k)) := fn_eq (fun d' h' => by
  obtain ⟨ns', k', _, h2, rfl⟩ := h'
  injection h2 with h3 h4
  injection h3 with h3
  injection h4 with h4
  injection h4 with h4
  rw [ints_inj h3, h4]) ⟨ns, k, h, rfl, rfl⟩
def num (c : Int) : Int := if c % 2 = 0 then c / 2 % 25 - 12 else c / 2 % (2 * 10 ^ 60 - 1) - (10 ^ 60 - 1)
theorem num_sm (c : Int) : Sm 200 (num c) := by
  unfold num
  split
  · exact Sm.of (by omega) (by omega)
  · exact Sm.of (by omega) (by omega)
def S__law_number (ds : List D) (d : D) : Prop := ∃ c, ds = [.int c] ∧ d = .int (num c)
theorem e__law_number {c : Int} : fn S__law_number [.int c] = some (.int (num c)) := fn_eq (fun d' h' => by
  obtain ⟨c', h2, rfl⟩ := h'
  cases h2; rfl) ⟨c, rfl, rfl⟩
def S__law_lowest (ds : List D) (d : D) : Prop := ∃ t b, b ≠ 0 ∧ Bd b ∧ ds = [.int t, .int b] ∧ d = fr (low t b)
theorem e__law_lowest {t b : Int} (h : b ≠ 0) (g : Bd b) : fn S__law_lowest [.int t, .int b] = some (fr (low t b)) := fn_eq (fun d' h' => by
  obtain ⟨t', b', _, _, h2, rfl⟩ := h'
  cases h2; rfl) ⟨t, b, h, g, rfl, rfl⟩
def nz (b : Int) : Int := b + if b = 0 then 1 else 0
theorem nz_ne (b : Int) : nz b ≠ 0 := by unfold nz; split <;> omega
theorem nz_sm {k : Nat} {b : Int} (h : Sm k b) (hk : 1 ≤ k := by decide) : Sm k (nz b) := by
  unfold nz
  split
  · rename_i e
    subst e
    have : 2 ^ 1 ≤ 2 ^ k := Nat.pow_le_pow_right (by decide) hk
    exact Nat.lt_of_lt_of_le (by decide) this
  · simpa using h
def part (ns : List Int) (k : Int) : Int × Int := low (num (cell ns k)) (nz (num (cell ns (k + 1))))
theorem part_fr (ns : List Int) (k : Int) : Fr 200 (part ns k) := low_fr (nz_ne _) (num_sm _) (nz_sm (num_sm _))
def S__law_part (ds : List D) (d : D) : Prop := ∃ (ns : List Int) (k : Int), 0 ≤ k ∧ ds = [.seq (ns.map D.int), .int k] ∧ d = fr (part ns k)
theorem e__law_part {ns : List Int} {k : Int} (h : 0 ≤ k) : fn S__law_part [.seq (ns.map D.int), .int k] = some (fr (part ns k)) := fn_eq (fun d' h' => by
  obtain ⟨ns', k', _, h2, rfl⟩ := h'
  injection h2 with h3 h4
  injection h3 with h3
  injection h4 with h4
  injection h4 with h4
  rw [ints_inj h3, h4]) ⟨ns, k, h, rfl, rfl⟩
def S__law_right (ds : List D) (d : D) : Prop := ∃ t b, b ≠ 0 ∧ Bd b ∧ ds = [fr (low t b), .int t, .int b] ∧ d = .bl true
theorem e__law_right {t b : Int} (h : b ≠ 0) (g : Bd b) : fn S__law_right [fr (low t b), .int t, .int b] = some (.bl true) := fn_eq (fun d' h' => by
  obtain ⟨t', b', _, _, h2, rfl⟩ := h'
  rfl) ⟨t, b, h, g, rfl, rfl⟩
def S__law_says (ds : List D) (d : D) : Prop := ∃ a, ds = [.bl a, .bl a] ∧ d = .bl true
theorem e__law_says {a : Bool} : fn S__law_says [.bl a, .bl a] = some (.bl true) := fn_eq (fun d' h' => by
  obtain ⟨a', h2, rfl⟩ := h'
  rfl) ⟨a, rfl, rfl⟩
def S__law_two (ds : List D) (d : D) : Prop := ∃ p q : Int × Int, Fr 200 p ∧ Fr 200 q ∧ ds = [fr p, fr q] ∧ d = .bl true
theorem e__law_two {p q : Int × Int} (h : Fr 200 p) (g : Fr 200 q) : fn S__law_two [fr p, fr q] = some (.bl true) := fn_eq (fun d' h' => by
  obtain ⟨p', q', _, _, h2, rfl⟩ := h'
  rfl) ⟨p, q, h, g, rfl, rfl⟩
def S__law_floor (ds : List D) (d : D) : Prop := ∃ p : Int × Int, Fr 200 p ∧ ds = [fr p] ∧ d = .bl true
theorem e__law_floor {p : Int × Int} (h : Fr 200 p) : fn S__law_floor [fr p] = some (.bl true) := fn_eq (fun d' h' => by
  obtain ⟨p', _, h2, rfl⟩ := h'
  rfl) ⟨p, h, rfl, rfl⟩
section
variable {P : Program} {w : World} {K : PySem.W.Frag} {mg : Str → Option Value} {base : Heap} {f : Addr} {fd : FuncData}
abbrev s_is_whole : Stmt := top 1
theorem sc_is_whole : FnScope ["thing"] ["thing"] (defScope s_is_whole) := ⟨rfl, rfl, rfl, by decide +kernel, rfl, by decide +kernel, by decide +kernel⟩
theorem ok_is_whole (F : Fun K "is_whole" "is_whole" s_is_whole f fd)    (m_isinstance : mg "isinstance" = none) (m_int : mg "int" = none) (m_bool : mg "bool" = none) : FnOk P w K mg base CX0 1 f fd ["thing"] (pureSp K 1 (fn S_is_whole)) := by
  have sc := sc_is_whole
  refine pure_ok F sc_is_whole (fun cdv A outer s H E ds d hr hG hl => ?_)
  obtain ⟨x, b, h, rfl, rfl⟩ := fn_inv hG
  refine ⟨_, (psd_one (psd_ret (pd_and (pd_callB call_isi (cd_isi ok_isInt) rfl m_isinstance boot_isinstance (pad_cons (pd_var 0) (pad_cons (pd_ty rfl m_int boot_int) pad_nil))) (pd_one (pd_not (pd_callB call_isi (cd_isi ok_isBool) rfl m_isinstance boot_isinstance (pad_cons (pd_var 0) (pad_cons (pd_ty rfl m_bool boot_bool) pad_nil)))))))), ?_⟩
  · show retOf ((?f : SD) [some _]) = _
    cases x <;> simp [gWhole] at h <;> subst h <;> rfl
abbrev s_common_divisor : Stmt := top 2
theorem sc_common_divisor : FnScope ["number", "above_nought", "one", "other", "rest"] ["number", "above_nought"] (defScope s_common_divisor) := ⟨rfl, rfl, rfl, by decide +kernel, rfl, by decide +kernel, by decide +kernel⟩
def cdC : FT := fT (f2 gNe (fVar 3) (fC (.int 0)))
def cdS : SD := sSeq (sSet 4 (f2 (gI (fun _ j => 0 < j) fun i j => .int (i % j)) (fVar 2) (fVar 3))) (sSeq (sSet 2 (fVar 3)) (sSet 3 (fVar 4)))
theorem cd_loop : ∀ (n : Nat) (x y : Int) (u v o : Option D), 0 ≤ y → (y = 0 → 0 ≤ x) → y.toNat < n → ∃ o', sWhile n cdC cdS [u, v, some (.int x), some (.int y), o] = some (.nx [u, v, some (.int (gc x y)), some (.int 0), o'])
  | 0, x, y, u, v, o, h0, h1, h2 => by omega
  | n + 1, x, y, u, v, o, h0, h1, h2 => by
    by_cases h : y = 0
    · subst h
      refine ⟨o, ?_⟩
      rw [gc_zero (h1 rfl)]
      rfl
    · have hy : 0 < y := by omega
      have hc : cdC [u, v, some (.int x), some (.int y), o] = some true := by
        show some (!(y == 0)) = some true
        simp [h]
      have hs : cdS [u, v, some (.int x), some (.int y), o] = some (.nx [u, v, some (.int y), some (.int (x % y)), some (.int (x % y))]) := by
        unfold cdS
        simp only [retOf, sNil, sThen, sSeq, sRet, sDrop, sSet, sIf, sPar, sUn2, sFor, asL, gSet, forD, fVar, fC, f2, f1, fT, asB, fNotT, fAndT, fOrT, fAndV, fOrV, gNot, gNeg, faNil, faCons, fTup, fLst, fCall, gAbs, gInt, gLen_t2, gLen_seq, gIx_t0, gIx_t1, gI0, gAdd_int, gNe_int, gEq_int, gEq_bl, gEq_tup2, gNe_tup2, gIsi_same, Dl.isInt, Dl.isBool, Dl.isTup, Option.bind_some, Option.map_some, List.map_cons, List.map_nil, List.length_cons, List.length_nil, List.getElem?_cons_zero, List.getElem?_cons_succ, List.set_cons_zero, List.set_cons_succ, List.cons_append, List.nil_append, List.append_nil, Bool.not_true, Bool.not_false, beq_self_eq_true, gI_pos (C := fun _ j => 0 < j) (i := x) hy]
      obtain ⟨o', ih⟩ := cd_loop n y (x % y) u v (some (.int (x % y))) (Int.emod_nonneg x h) (fun _ => h0) (by have := Int.emod_lt_of_pos x hy; omega)
      refine ⟨o', ?_⟩
      rw [gc_step] at ih
      rw [sWhile_t hc hs]
      exact ih
theorem ok_common_divisor (F : Fun K "common_divisor" "common_divisor" s_common_divisor f fd)     : FnOk P w K mg base CX0 1 f fd ["number", "above_nought"] (pureSp K 2 (fn S_common_divisor)) := by
  have sc := sc_common_divisor
  refine pure_ok F sc_common_divisor (fun cdv A outer s H E ds d hr hG hl => ?_)
  obtain ⟨a, b, hb, rfl, rfl⟩ := fn_inv hG
  refine ⟨_, (psd_cons (psd_set 2 sc.nd (pd_var 0))
      (psd_cons (psd_set 3 sc.nd (pd_var 1))
      (psd_cons (psd_while (b.toNat + 1) PassesOwn.never (ptd_ne hr.units0 (pd_var 3) pd_int)
        (psd_cons (psd_set 4 sc.nd (pd_mod (pd_var 2) (pd_var 3)))
        (psd_cons (psd_set 2 sc.nd (pd_var 3))
        (psd_one (psd_set 3 sc.nd (pd_var 4))))))
      (psd_one (psd_ret (pd_var 2)))))), ?_⟩
  · show retOf ((?f : SD) [some _, some _, none, none, none]) = _
    obtain ⟨o, ho⟩ := cd_loop (b.toNat + 1) a b (some (.int a)) (some (.int b)) none (by omega) (by omega) (by omega)
    show retOf ((sWhile (b.toNat + 1) cdC cdS [some (.int a), some (.int b), some (.int a), some (.int b), none]).bind (sThen (sRet (fVar 2)))) = _
    rw [ho]
    rfl
abbrev s_less : Stmt := top 8
theorem sc_less : FnScope ["one", "other"] ["one", "other"] (defScope s_less) := ⟨rfl, rfl, rfl, by decide +kernel, rfl, by decide +kernel, by decide +kernel⟩
theorem ok_less (F : Fun K "less" "less" s_less f fd)     : FnOk P w K mg base CX0 1 f fd ["one", "other"] (pureSp K 2 (fn S_less)) := by
  have sc := sc_less
  refine pure_ok F sc_less (fun cdv A outer s H E ds d hr hG hl => ?_)
  obtain ⟨⟨a, b⟩, ⟨c, e⟩, hp, hq, rfl, rfl⟩ := fn_inv hG
  refine ⟨_, (psd_one (psd_ret (pd_lt (pd_mul (pd_ix (pd_var 0) pd_int) (pd_ix (pd_var 1) pd_int)) (pd_mul (pd_ix (pd_var 1) pd_int) (pd_ix (pd_var 0) pd_int))))), ?_⟩
  · show retOf ((?f : SD) [some _, some _]) = _
    simp only [retOf, sNil, sThen, sSeq, sRet, sDrop, sSet, sIf, sPar, sUn2, sFor, asL, gSet, forD, fVar, fC, f2, f1, fT, asB, fNotT, fAndT, fOrT, fAndV, fOrV, gNot, gNeg, faNil, faCons, fTup, fLst, fCall, gAbs, gInt, gLen_t2, gLen_seq, gIx_t0, gIx_t1, gI0, gAdd_int, gNe_int, gEq_int, gEq_bl, gEq_tup2, gNe_tup2, gIsi_same, Dl.isInt, Dl.isBool, Dl.isTup, Option.bind_some, Option.map_some, List.map_cons, List.map_nil, List.length_cons, List.length_nil, List.getElem?_cons_zero, List.getElem?_cons_succ, List.set_cons_zero, List.set_cons_succ, List.cons_append, List.nil_append, List.append_nil, Bool.not_true, Bool.not_false, beq_self_eq_true, gI_pos (C := CMulB) (i := a) (j := e) ⟨hp.s1.bd, hq.s2.bd⟩, gI_pos (C := CMulB) (i := c) (j := b) ⟨hq.s1.bd, hp.s2.bd⟩]
abbrev s_floor_of : Stmt := top 9
theorem sc_floor_of : FnScope ["one"] ["one"] (defScope s_floor_of) := ⟨rfl, rfl, rfl, by decide +kernel, rfl, by decide +kernel, by decide +kernel⟩
theorem ok_floor_of (F : Fun K "floor_of" "floor_of" s_floor_of f fd)     : FnOk P w K mg base CX0 1 f fd ["one"] (pureSp K 1 (fn S_floor_of)) := by
  have sc := sc_floor_of
  refine pure_ok F sc_floor_of (fun cdv A outer s H E ds d hr hG hl => ?_)
  obtain ⟨⟨a, b⟩, hp, rfl, rfl⟩ := fn_inv hG
  refine ⟨_, (psd_one (psd_ret (pd_fdiv (pd_ix (pd_var 0) pd_int) (pd_ix (pd_var 0) pd_int)))), ?_⟩
  · show retOf ((?f : SD) [some _]) = _
    simp only [retOf, sNil, sThen, sSeq, sRet, sDrop, sSet, sIf, sPar, sUn2, sFor, asL, gSet, forD, fVar, fC, f2, f1, fT, asB, fNotT, fAndT, fOrT, fAndV, fOrV, gNot, gNeg, faNil, faCons, fTup, fLst, fCall, gAbs, gInt, gLen_t2, gLen_seq, gIx_t0, gIx_t1, gI0, gAdd_int, gNe_int, gEq_int, gEq_bl, gEq_tup2, gNe_tup2, gIsi_same, Dl.isInt, Dl.isBool, Dl.isTup, Option.bind_some, Option.map_some, List.map_cons, List.map_nil, List.length_cons, List.length_nil, List.getElem?_cons_zero, List.getElem?_cons_succ, List.set_cons_zero, List.set_cons_succ, List.cons_append, List.nil_append, List.append_nil, Bool.not_true, Bool.not_false, beq_self_eq_true, gI_pos (C := CDivB) (i := a) (j := b) ⟨hp.pos, hp.s2.bd⟩]
abbrev s__law_cell_at : Stmt := top 11
theorem sc__law_cell_at : FnScope ["_law_script", "_law_k"] ["_law_script", "_law_k"] (defScope s__law_cell_at) := ⟨rfl, rfl, rfl, by decide +kernel, rfl, by decide +kernel, by decide +kernel⟩
theorem ok__law_cell_at (F : Fun K "_law_cell_at" "_law_cell_at" s__law_cell_at f fd)    (m_len : mg "len" = none) : FnOk P w K mg base CX0 1 f fd ["_law_script", "_law_k"] (pureSp K 2 (fn S__law_cell_at)) := by
  have sc := sc__law_cell_at
  refine pure_ok F sc__law_cell_at (fun cdv A outer s H E ds d hr hG hl => ?_)
  obtain ⟨ns, k, hk, rfl, rfl⟩ := fn_inv hG
  refine ⟨_, (psd_cons (psd_if (ptd_lt (pd_var 1) (pd_callB call_len_seq cd_len rfl m_len PySem.boot_len (pad_cons (pd_var 0) pad_nil))) (psd_one (psd_ret (pd_ix (pd_var 0) (pd_var 1)))) psd_nil)
      (psd_one (psd_ret pd_int))), ?_⟩
  · show retOf ((?f : SD) [some _, some _]) = _
    by_cases hlt : k < (ns.length : Int)
    · have h1 : decide (k < (((ns.map D.int).length : Nat) : Int)) = true := decide_eq_true (by rw [List.length_map]; exact hlt)
      have h2 : gIx (.seq (ns.map D.int)) (.int k) = some (.int (cell ns k)) := by
        show L2.atI (ns.map D.int) k = _
        have ek : k = ((k.toNat : Nat) : Int) := by omega
        have hk2 : k.toNat < ns.length := by omega
        have h3 := atI_nat (xs := ns.map D.int) (j := k.toNat) (v := D.int ns[k.toNat]) (by rw [List.getElem?_map, List.getElem?_eq_getElem hk2] <;> rfl)
        rw [← ek] at h3
        rw [h3]
        unfold cell
        simp [List.getD_eq_getElem?_getD, hk2]
      simp only [retOf, sNil, sThen, sSeq, sRet, sDrop, sSet, sIf, sPar, sUn2, sFor, asL, gSet, forD, fVar, fC, f2, f1, fT, asB, fNotT, fAndT, fOrT, fAndV, fOrV, gNot, gNeg, faNil, faCons, fTup, fLst, fCall, gAbs, gInt, gLen_t2, gLen_seq, gIx_t0, gIx_t1, gI0, gAdd_int, gNe_int, gEq_int, gEq_bl, gEq_tup2, gNe_tup2, gIsi_same, Dl.isInt, Dl.isBool, Dl.isTup, Option.bind_some, Option.map_some, List.map_cons, List.map_nil, List.length_cons, List.length_nil, List.getElem?_cons_zero, List.getElem?_cons_succ, List.set_cons_zero, List.set_cons_succ, List.cons_append, List.nil_append, List.append_nil, Bool.not_true, Bool.not_false, beq_self_eq_true, h1, h2]
    · have h1 : decide (k < (((ns.map D.int).length : Nat) : Int)) = false := decide_eq_false (by rw [List.length_map]; exact hlt)
      have h2 : cell ns k = 0 := by
        unfold cell
        rw [List.getD_eq_getElem?_getD, List.getElem?_eq_none (by omega)]
        rfl
      simp only [retOf, sNil, sThen, sSeq, sRet, sDrop, sSet, sIf, sPar, sUn2, sFor, asL, gSet, forD, fVar, fC, f2, f1, fT, asB, fNotT, fAndT, fOrT, fAndV, fOrV, gNot, gNeg, faNil, faCons, fTup, fLst, fCall, gAbs, gInt, gLen_t2, gLen_seq, gIx_t0, gIx_t1, gI0, gAdd_int, gNe_int, gEq_int, gEq_bl, gEq_tup2, gNe_tup2, gIsi_same, Dl.isInt, Dl.isBool, Dl.isTup, Option.bind_some, Option.map_some, List.map_cons, List.map_nil, List.length_cons, List.length_nil, List.getElem?_cons_zero, List.getElem?_cons_succ, List.set_cons_zero, List.set_cons_succ, List.cons_append, List.nil_append, List.append_nil, Bool.not_true, Bool.not_false, beq_self_eq_true, h1, h2]
abbrev s__law_number : Stmt := top 12
theorem sc__law_number : FnScope ["_law_cell"] ["_law_cell"] (defScope s__law_number) := ⟨rfl, rfl, rfl, by decide +kernel, rfl, by decide +kernel, by decide +kernel⟩
theorem ok__law_number (F : Fun K "_law_number" "_law_number" s__law_number f fd)     : FnOk P w K mg base CX0 1 f fd ["_law_cell"] (pureSp K 1 (fn S__law_number)) := by
  have sc := sc__law_number
  refine pure_ok F sc__law_number (fun cdv A outer s H E ds d hr hG hl => ?_)
  obtain ⟨c, rfl, rfl⟩ := fn_inv hG
  refine ⟨_, (psd_cons (psd_if (ptd_eq hr.units0 (pd_mod (pd_var 0) pd_int) pd_int) (psd_one (psd_ret (pd_sub (pd_mod (pd_fdiv (pd_var 0) pd_int) pd_int) pd_int))) psd_nil)
      (psd_one (psd_ret (pd_sub (pd_mod (pd_fdiv (pd_var 0) pd_int) (pd_sub (pd_mul pd_int (pd_pow pd_int pd_int)) pd_int)) (pd_sub (pd_pow pd_int pd_int) pd_int))))), ?_⟩
  · show retOf ((?f : SD) [some _]) = _
    have b2 : CDivB c 2 := ⟨by decide, bd_sm⟩
    have bp : CPow 10 60 := ⟨by decide, by decide, by decide⟩
    have bm : CMulB 2 (10 ^ (60 : Int).toNat) := ⟨bd_sm, bd_of (k := 200) (show (10 ^ (60 : Int).toNat : Int).natAbs < 2 ^ 200 by decide)⟩
    by_cases h : c % 2 = 0
    · have h1 : (c % 2 == 0) = true := by simp [h]
      simp only [retOf, sNil, sThen, sSeq, sRet, sDrop, sSet, sIf, sPar, sUn2, sFor, asL, gSet, forD, fVar, fC, f2, f1, fT, asB, fNotT, fAndT, fOrT, fAndV, fOrV, gNot, gNeg, faNil, faCons, fTup, fLst, fCall, gAbs, gInt, gLen_t2, gLen_seq, gIx_t0, gIx_t1, gI0, gAdd_int, gNe_int, gEq_int, gEq_bl, gEq_tup2, gNe_tup2, gIsi_same, Dl.isInt, Dl.isBool, Dl.isTup, Option.bind_some, Option.map_some, List.map_cons, List.map_nil, List.length_cons, List.length_nil, List.getElem?_cons_zero, List.getElem?_cons_succ, List.set_cons_zero, List.set_cons_succ, List.cons_append, List.nil_append, List.append_nil, Bool.not_true, Bool.not_false, beq_self_eq_true, gI_pos (C := fun _ j => 0 < j) (i := c) (j := 2) (by decide), h1, gI_pos (C := CDivB) b2, gI_pos (C := fun _ j => 0 < j) (i := c / 2) (j := 25) (by decide)]
      unfold num
      rw [if_pos h]
    · have h1 : (c % 2 == 0) = false := by simp [h]
      simp only [retOf, sNil, sThen, sSeq, sRet, sDrop, sSet, sIf, sPar, sUn2, sFor, asL, gSet, forD, fVar, fC, f2, f1, fT, asB, fNotT, fAndT, fOrT, fAndV, fOrV, gNot, gNeg, faNil, faCons, fTup, fLst, fCall, gAbs, gInt, gLen_t2, gLen_seq, gIx_t0, gIx_t1, gI0, gAdd_int, gNe_int, gEq_int, gEq_bl, gEq_tup2, gNe_tup2, gIsi_same, Dl.isInt, Dl.isBool, Dl.isTup, Option.bind_some, Option.map_some, List.map_cons, List.map_nil, List.length_cons, List.length_nil, List.getElem?_cons_zero, List.getElem?_cons_succ, List.set_cons_zero, List.set_cons_succ, List.cons_append, List.nil_append, List.append_nil, Bool.not_true, Bool.not_false, beq_self_eq_true, gI_pos (C := fun _ j => 0 < j) (i := c) (j := 2) (by decide), h1, gI_pos (C := CDivB) b2, gI_pos (C := CPow) bp, gI_pos (C := CMulB) bm, gI_pos (C := fun _ j => 0 < j) (i := c / 2) (j := 2 * 10 ^ (60 : Int).toNat - 1) (by decide)]
      unfold num
      rw [if_neg h]
      rfl
abbrev s__law_whole : Stmt := top 13
theorem sc__law_whole : FnScope ["_law_found"] ["_law_found"] (defScope s__law_whole) := ⟨rfl, rfl, rfl, by decide +kernel, rfl, by decide +kernel, by decide +kernel⟩
theorem ok__law_whole (F : Fun K "_law_whole" "_law_whole" s__law_whole f fd)    (m_isinstance : mg "isinstance" = none) (m_int : mg "int" = none) (m_bool : mg "bool" = none) : FnOk P w K mg base CX0 1 f fd ["_law_found"] (pureSp K 1 (fn S__law_whole)) := by
  have sc := sc__law_whole
  refine pure_ok F sc__law_whole (fun cdv A outer s H E ds d hr hG hl => ?_)
  obtain ⟨x, b, h, rfl, rfl⟩ := fn_inv hG
  refine ⟨_, (psd_one (psd_ret (pd_and (pd_callB call_isi (cd_isi ok_isInt) rfl m_isinstance boot_isinstance (pad_cons (pd_var 0) (pad_cons (pd_ty rfl m_int boot_int) pad_nil))) (pd_one (pd_not (pd_callB call_isi (cd_isi ok_isBool) rfl m_isinstance boot_isinstance (pad_cons (pd_var 0) (pad_cons (pd_ty rfl m_bool boot_bool) pad_nil)))))))), ?_⟩
  · show retOf ((?f : SD) [some _]) = _
    cases x <;> simp [gWhole] at h <;> subst h <;> rfl
abbrev s__law_common : Stmt := top 14
theorem sc__law_common : FnScope ["_law_one", "_law_other"] ["_law_one", "_law_other"] (defScope s__law_common) := ⟨rfl, rfl, rfl, by decide +kernel, rfl, by decide +kernel, by decide +kernel⟩
def lcC : FT := fT (f2 gNe (fVar 1) (fC (.int 0)))
def lcS : SD := sPar 0 1 (faCons (fVar 1) (faCons (f2 (gI (fun _ j => 0 < j) fun i j => .int (i % j)) (fVar 0) (fVar 1)) faNil))
theorem lc_loop : ∀ (n : Nat) (x y : Int), 0 ≤ y → (y = 0 → 0 ≤ x) → y.toNat < n → sWhile n lcC lcS [some (.int x), some (.int y)] = some (.nx [some (.int (gc x y)), some (.int 0)])
  | 0, x, y, h0, h1, h2 => by omega
  | n + 1, x, y, h0, h1, h2 => by
    by_cases h : y = 0
    · subst h
      rw [gc_zero (h1 rfl)]
      rfl
    · have hy : 0 < y := by omega
      have hc : lcC [some (.int x), some (.int y)] = some true := by
        show some (!(y == 0)) = some true
        simp [h]
      have hs : lcS [some (.int x), some (.int y)] = some (.nx [some (.int y), some (.int (x % y))]) := by
        unfold lcS
        simp only [retOf, sNil, sThen, sSeq, sRet, sDrop, sSet, sIf, sPar, sUn2, sFor, asL, gSet, forD, fVar, fC, f2, f1, fT, asB, fNotT, fAndT, fOrT, fAndV, fOrV, gNot, gNeg, faNil, faCons, fTup, fLst, fCall, gAbs, gInt, gLen_t2, gLen_seq, gIx_t0, gIx_t1, gI0, gAdd_int, gNe_int, gEq_int, gEq_bl, gEq_tup2, gNe_tup2, gIsi_same, Dl.isInt, Dl.isBool, Dl.isTup, Option.bind_some, Option.map_some, List.map_cons, List.map_nil, List.length_cons, List.length_nil, List.getElem?_cons_zero, List.getElem?_cons_succ, List.set_cons_zero, List.set_cons_succ, List.cons_append, List.nil_append, List.append_nil, Bool.not_true, Bool.not_false, beq_self_eq_true, gI_pos (C := fun _ j => 0 < j) (i := x) hy]
      have ih := lc_loop n y (x % y) (Int.emod_nonneg x h) (fun _ => h0) (by have := Int.emod_lt_of_pos x hy; omega)
      rw [gc_step] at ih
      rw [sWhile_t hc hs]
      exact ih
theorem ok__law_common (F : Fun K "_law_common" "_law_common" s__law_common f fd)     : FnOk P w K mg base CX0 1 f fd ["_law_one", "_law_other"] (pureSp K 2 (fn S__law_common)) := by
  have sc := sc__law_common
  refine pure_ok F sc__law_common (fun cdv A outer s H E ds d hr hG hl => ?_)
  obtain ⟨a, b, hb, rfl, rfl⟩ := fn_inv hG
  refine ⟨_, (psd_cons (psd_while (b.toNat + 1) PassesOwn.never (ptd_ne hr.units0 (pd_var 1) pd_int)
        (psd_one (psd_par 0 1 rfl sc.nd (pad_cons (pd_var 1) (pad_cons (pd_mod (pd_var 0) (pd_var 1)) pad_nil)))))
      (psd_one (psd_ret (pd_var 0)))), ?_⟩
  · show retOf ((?f : SD) [some _, some _]) = _
    have ho := lc_loop (b.toNat + 1) a b (by omega) (by omega) (by omega)
    show retOf ((sWhile (b.toNat + 1) lcC lcS [some (.int a), some (.int b)]).bind (sThen (sRet (fVar 0)))) = _
    rw [ho]
    rfl
abbrev s__law_says : Stmt := top 18
theorem sc__law_says : FnScope ["_law_found", "_law_due"] ["_law_found", "_law_due"] (defScope s__law_says) := ⟨rfl, rfl, rfl, by decide +kernel, rfl, by decide +kernel, by decide +kernel⟩
theorem ok__law_says (F : Fun K "_law_says" "_law_says" s__law_says f fd)    (m_isinstance : mg "isinstance" = none) (m_bool : mg "bool" = none) : FnOk P w K mg base CX0 1 f fd ["_law_found", "_law_due"] (pureSp K 2 (fn S__law_says)) := by
  have sc := sc__law_says
  refine pure_ok F sc__law_says (fun cdv A outer s H E ds d hr hG hl => ?_)
  obtain ⟨a, rfl, rfl⟩ := fn_inv hG
  refine ⟨_, (psd_one (psd_ret (pd_and (pd_callB call_isi (cd_isi ok_isBool) rfl m_isinstance boot_isinstance (pad_cons (pd_var 0) (pad_cons (pd_ty rfl m_bool boot_bool) pad_nil))) (pd_one (pd_eq hr.units0 (pd_var 0) (pd_var 1)))))), ?_⟩
  · show retOf ((?f : SD) [some _, some _]) = _
    cases a <;> rfl
abbrev s_is_fraction : Stmt := top 3
theorem sc_is_fraction : FnScope ["thing"] ["thing"] (defScope s_is_fraction) := ⟨rfl, rfl, rfl, by decide +kernel, rfl, by decide +kernel, by decide +kernel⟩
theorem ok_is_fraction (F : Fun K "is_fraction" "is_fraction" s_is_fraction f fd)  (his_whole : Has P w K mg base 1 "is_whole" ["thing"] (fn S_is_whole)) (hcommon_divisor : Has P w K mg base 1 "common_divisor" ["number", "above_nought"] (fn S_common_divisor))  (m_isinstance : mg "isinstance" = none) (m_tuple : mg "tuple" = none) (m_len : mg "len" = none) : FnOk P w K mg base CX0 2 f fd ["thing"] (pureSp K 1 (fn S_is_fraction)) := by
  have sc := sc_is_fraction
  refine pure_ok F sc_is_fraction (fun cdv A outer s H E ds d hr hG hl => ?_)
  obtain ⟨⟨a, b⟩, hb, rfl, rfl⟩ := fn_inv hG
  refine ⟨_, (psd_cons (psd_if (PWD.pt (pwd_or (ptd_not (ptd_val (pd_callB call_isi (cd_isi ok_isTup) rfl m_isinstance boot_isinstance (pad_cons (pd_var 0) (pad_cons (pd_ty rfl m_tuple boot_tuple) pad_nil))))) (pwd_or1 (ptd_ne hr.units0 (pd_callB call_len_seq cd_len rfl m_len PySem.boot_len (pad_cons (pd_var 0) pad_nil)) pd_int)))) (psd_one (psd_ret pd_bl)) psd_nil)
      (psd_cons (psd_if (PWD.pt (pwd_or (ptd_not (ptd_val (pd_callH his_whole hr (pad_cons (pd_ix (pd_var 0) pd_int) pad_nil)))) (pwd_or1 (ptd_not (ptd_val (pd_callH his_whole hr (pad_cons (pd_ix (pd_var 0) pd_int) pad_nil))))))) (psd_one (psd_ret pd_bl)) psd_nil)
      (psd_one (psd_ret (pd_and (pd_ge (pd_ix (pd_var 0) pd_int) pd_int) (pd_one (pd_eq hr.units0 (pd_callH hcommon_divisor hr (pad_cons (pd_ix (pd_var 0) pd_int) (pad_cons (pd_ix (pd_var 0) pd_int) pad_nil))) pd_int))))))), ?_⟩
  · show retOf ((?f : SD) [some _]) = _
    have hb' : 0 < b := hb
    have h1 : decide (1 ≤ b) = true := decide_eq_true (by omega)
    simp only [retOf, sNil, sThen, sSeq, sRet, sDrop, sSet, sIf, sPar, sUn2, sFor, asL, gSet, forD, fVar, fC, f2, f1, fT, asB, fNotT, fAndT, fOrT, fAndV, fOrV, gNot, gNeg, faNil, faCons, fTup, fLst, fCall, gAbs, gInt, gLen_t2, gLen_seq, gIx_t0, gIx_t1, gI0, gAdd_int, gNe_int, gEq_int, gEq_bl, gEq_tup2, gNe_tup2, gIsi_same, Dl.isInt, Dl.isBool, Dl.isTup, Option.bind_some, Option.map_some, List.map_cons, List.map_nil, List.length_cons, List.length_nil, List.getElem?_cons_zero, List.getElem?_cons_succ, List.set_cons_zero, List.set_cons_succ, List.cons_append, List.nil_append, List.append_nil, Bool.not_true, Bool.not_false, beq_self_eq_true, e_is_whole (x := .int a) rfl, e_is_whole (x := .int b) rfl, h1, e_common_divisor (a := a) hb']
abbrev s_summed : Stmt := top 6
theorem sc_summed : FnScope ["one", "top", "bottom", "shared", "part", "total", "left"] ["one", "top", "bottom"] (defScope s_summed) := ⟨rfl, rfl, rfl, by decide +kernel, rfl, by decide +kernel, by decide +kernel⟩
theorem ok_summed (F : Fun K "summed" "summed" s_summed f fd)  (hcommon_divisor : Has P w K mg base 1 "common_divisor" ["number", "above_nought"] (fn S_common_divisor))   : FnOk P w K mg base CX0 2 f fd ["one", "top", "bottom"] (pureSp K 3 (fn S_summed)) := by
  have sc := sc_summed
  refine pure_ok F sc_summed (fun cdv A outer s H E ds d hr hG hl => ?_)
  obtain ⟨⟨a, b⟩, ⟨c, e⟩, hp, hq, rfl, rfl⟩ := fn_inv hG
  refine ⟨_, (psd_cons (psd_set 3 sc.nd (pd_callH hcommon_divisor hr (pad_cons (pd_ix (pd_var 0) pd_int) (pad_cons (pd_var 2) pad_nil))))
      (psd_cons (psd_set 4 sc.nd (pd_fdiv (pd_ix (pd_var 0) pd_int) (pd_var 3)))
      (psd_cons (psd_set 5 sc.nd (pd_add (pd_mul (pd_ix (pd_var 0) pd_int) (pd_fdiv (pd_var 2) (pd_var 3))) (pd_mul (pd_var 1) (pd_var 4))))
      (psd_cons (psd_set 6 sc.nd (pd_callH hcommon_divisor hr (pad_cons (pd_var 5) (pad_cons (pd_var 3) pad_nil))))
      (psd_one (psd_ret (pd_tup (pad_cons (pd_fdiv (pd_var 5) (pd_var 6)) (pad_cons (pd_mul (pd_var 4) (pd_fdiv (pd_var 2) (pd_var 6))) pad_nil))))))))), ?_⟩
  · show retOf ((?f : SD) [some _, some _, some _, none, none, none, none]) = _
    have hb : 0 < b := hp.pos
    have he : 0 < e := hq.pos
    have hg := gc_pos (t := b) he
    have hgB : Bd (gc b e) := bd_le (by omega) (gc_le (t := b) he) hq.s2.bd
    have b1 : Bd (b / gc b e) := md_div hp.s2 hg gc_dvd_l
    have b2 : Bd (e / gc b e) := md_div hq.s2 hg gc_dvd_r
    have hl := gc_pos (t := a * (e / gc b e) + c * (b / gc b e)) hg
    have hlB : Bd (gc (a * (e / gc b e) + c * (b / gc b e)) (gc b e)) := bd_le (by omega) (gc_le (t := a * (e / gc b e) + c * (b / gc b e)) hg) hgB
    have b3 : Bd (e / gc (a * (e / gc b e) + c * (b / gc b e)) (gc b e)) := md_div hq.s2 hl (Int.dvd_trans gc_dvd_r gc_dvd_r)
    simp only [retOf, sNil, sThen, sSeq, sRet, sDrop, sSet, sIf, sPar, sUn2, sFor, asL, gSet, forD, fVar, fC, f2, f1, fT, asB, fNotT, fAndT, fOrT, fAndV, fOrV, gNot, gNeg, faNil, faCons, fTup, fLst, fCall, gAbs, gInt, gLen_t2, gLen_seq, gIx_t0, gIx_t1, gI0, gAdd_int, gNe_int, gEq_int, gEq_bl, gEq_tup2, gNe_tup2, gIsi_same, Dl.isInt, Dl.isBool, Dl.isTup, Option.bind_some, Option.map_some, List.map_cons, List.map_nil, List.length_cons, List.length_nil, List.getElem?_cons_zero, List.getElem?_cons_succ, List.set_cons_zero, List.set_cons_succ, List.cons_append, List.nil_append, List.append_nil, Bool.not_true, Bool.not_false, beq_self_eq_true, e_common_divisor (a := b) he, gI_pos (C := CDivB) (i := b) ⟨hg, hgB⟩, gI_pos (C := CDivB) (i := e) ⟨hg, hgB⟩, gI_pos (C := CMulB) (i := a) (j := e / gc b e) ⟨hp.s1.bd, b2⟩, gI_pos (C := CMulB) (i := c) (j := b / gc b e) ⟨hq.s1.bd, b1⟩,
      e_common_divisor (a := a * (e / gc b e) + c * (b / gc b e)) hg, gI_pos (C := CDivB) (i := a * (e / gc b e) + c * (b / gc b e)) ⟨hl, hlB⟩, gI_pos (C := CDivB) (i := e) ⟨hl, hlB⟩, gI_pos (C := CMulB) (i := b / gc b e) ⟨b1, b3⟩]
    rfl
abbrev s_times : Stmt := top 7
theorem sc_times : FnScope ["one", "other", "first", "second"] ["one", "other"] (defScope s_times) := ⟨rfl, rfl, rfl, by decide +kernel, rfl, by decide +kernel, by decide +kernel⟩
theorem ok_times (F : Fun K "times" "times" s_times f fd)  (hcommon_divisor : Has P w K mg base 1 "common_divisor" ["number", "above_nought"] (fn S_common_divisor))   : FnOk P w K mg base CX0 2 f fd ["one", "other"] (pureSp K 2 (fn S_times)) := by
  have sc := sc_times
  refine pure_ok F sc_times (fun cdv A outer s H E ds d hr hG hl => ?_)
  obtain ⟨⟨a, b⟩, ⟨c, e⟩, hp, hq, rfl, rfl⟩ := fn_inv hG
  refine ⟨_, (psd_cons (psd_set 2 sc.nd (pd_callH hcommon_divisor hr (pad_cons (pd_ix (pd_var 0) pd_int) (pad_cons (pd_ix (pd_var 1) pd_int) pad_nil))))
      (psd_cons (psd_set 3 sc.nd (pd_callH hcommon_divisor hr (pad_cons (pd_ix (pd_var 1) pd_int) (pad_cons (pd_ix (pd_var 0) pd_int) pad_nil))))
      (psd_one (psd_ret (pd_tup (pad_cons (pd_mul (pd_fdiv (pd_ix (pd_var 0) pd_int) (pd_var 2)) (pd_fdiv (pd_ix (pd_var 1) pd_int) (pd_var 3))) (pad_cons (pd_mul (pd_fdiv (pd_ix (pd_var 0) pd_int) (pd_var 3)) (pd_fdiv (pd_ix (pd_var 1) pd_int) (pd_var 2))) pad_nil))))))), ?_⟩
  · show retOf ((?f : SD) [some _, some _, none, none]) = _
    have hb : 0 < b := hp.pos
    have he : 0 < e := hq.pos
    have hf := gc_pos (t := a) he
    have hs := gc_pos (t := c) hb
    have fB : Bd (gc a e) := bd_le (by omega) (gc_le (t := a) he) hq.s2.bd
    have sB : Bd (gc c b) := bd_le (by omega) (gc_le (t := c) hb) hp.s2.bd
    have b1 : Bd (a / gc a e) := md_div hp.s1 hf gc_dvd_l
    have b2 : Bd (e / gc a e) := md_div hq.s2 hf gc_dvd_r
    have b3 : Bd (c / gc c b) := md_div hq.s1 hs gc_dvd_l
    have b4 : Bd (b / gc c b) := md_div hp.s2 hs gc_dvd_r
    have e0 : ti (a, b) (c, e) = tm a b c e := ti_tm hp.lw hq.lw
    simp only [retOf, sNil, sThen, sSeq, sRet, sDrop, sSet, sIf, sPar, sUn2, sFor, asL, gSet, forD, fVar, fC, f2, f1, fT, asB, fNotT, fAndT, fOrT, fAndV, fOrV, gNot, gNeg, faNil, faCons, fTup, fLst, fCall, gAbs, gInt, gLen_t2, gLen_seq, gIx_t0, gIx_t1, gI0, gAdd_int, gNe_int, gEq_int, gEq_bl, gEq_tup2, gNe_tup2, gIsi_same, Dl.isInt, Dl.isBool, Dl.isTup, Option.bind_some, Option.map_some, List.map_cons, List.map_nil, List.length_cons, List.length_nil, List.getElem?_cons_zero, List.getElem?_cons_succ, List.set_cons_zero, List.set_cons_succ, List.cons_append, List.nil_append, List.append_nil, Bool.not_true, Bool.not_false, beq_self_eq_true, e_common_divisor (a := a) he, e_common_divisor (a := c) hb, gI_pos (C := CDivB) (i := a) ⟨hf, fB⟩, gI_pos (C := CDivB) (i := e) ⟨hf, fB⟩, gI_pos (C := CDivB) (i := c) ⟨hs, sB⟩, gI_pos (C := CDivB) (i := b) ⟨hs, sB⟩,
      gI_pos (C := CMulB) (i := a / gc a e) (j := c / gc c b) ⟨b1, b3⟩, gI_pos (C := CMulB) (i := b / gc c b) (j := e / gc a e) ⟨b4, b2⟩, e0]
    rfl
abbrev s__law_lowest : Stmt := top 15
theorem sc__law_lowest : FnScope ["_law_top", "_law_bottom", "_law_shared"] ["_law_top", "_law_bottom"] (defScope s__law_lowest) := ⟨rfl, rfl, rfl, by decide +kernel, rfl, by decide +kernel, by decide +kernel⟩
theorem ok__law_lowest (F : Fun K "_law_lowest" "_law_lowest" s__law_lowest f fd)  (hLcommon : Has P w K mg base 1 "_law_common" ["_law_one", "_law_other"] (fn S__law_common))  (m_abs : mg "abs" = none) : FnOk P w K mg base CX0 2 f fd ["_law_top", "_law_bottom"] (pureSp K 2 (fn S__law_lowest)) := by
  have sc := sc__law_lowest
  refine pure_ok F sc__law_lowest (fun cdv A outer s H E ds d hr hG hl => ?_)
  obtain ⟨t, b, hb, hB, rfl, rfl⟩ := fn_inv hG
  refine ⟨_, (psd_cons (psd_if (ptd_lt (pd_var 1) pd_int) (psd_one (psd_par 0 1 rfl sc.nd (pad_cons (pd_neg (pd_var 0)) (pad_cons (pd_neg (pd_var 1)) pad_nil)))) psd_nil)
      (psd_cons (psd_set 2 sc.nd (pd_callH hLcommon hr (pad_cons (pd_callB call_abs cd_abs rfl m_abs PyProof.Rows.boot_abs (pad_cons (pd_var 0) pad_nil)) (pad_cons (pd_var 1) pad_nil))))
      (psd_one (psd_ret (pd_tup (pad_cons (pd_fdiv (pd_var 0) (pd_var 2)) (pad_cons (pd_fdiv (pd_var 1) (pd_var 2)) pad_nil))))))), ?_⟩
  · show retOf ((?f : SD) [some _, some _, none]) = _
    by_cases hn : b < 0
    · have hp : 0 < -b := by omega
      have hg := gc_pos (t := -t) hp
      have hgB : Bd (gc (-t) (-b)) := bd_le (by omega) (gc_le (t := -t) hp) (bd_neg hB)
      have h1 : decide (b < 0) = true := decide_eq_true hn
      simp only [retOf, sNil, sThen, sSeq, sRet, sDrop, sSet, sIf, sPar, sUn2, sFor, asL, gSet, forD, fVar, fC, f2, f1, fT, asB, fNotT, fAndT, fOrT, fAndV, fOrV, gNot, gNeg, faNil, faCons, fTup, fLst, fCall, gAbs, gInt, gLen_t2, gLen_seq, gIx_t0, gIx_t1, gI0, gAdd_int, gNe_int, gEq_int, gEq_bl, gEq_tup2, gNe_tup2, gIsi_same, Dl.isInt, Dl.isBool, Dl.isTup, Option.bind_some, Option.map_some, List.map_cons, List.map_nil, List.length_cons, List.length_nil, List.getElem?_cons_zero, List.getElem?_cons_succ, List.set_cons_zero, List.set_cons_succ, List.cons_append, List.nil_append, List.append_nil, Bool.not_true, Bool.not_false, beq_self_eq_true, h1, e_common_divisor (a := ((-t).natAbs : Int)) hp, gc_abs, gI_pos (C := CDivB) (i := -t) ⟨hg, hgB⟩, gI_pos (C := CDivB) (i := -b) ⟨hg, hgB⟩]
      unfold low
      rw [if_pos hn]
      rfl
    · have hp : 0 < b := by omega
      have hg := gc_pos (t := t) hp
      have hgB : Bd (gc t b) := bd_le (by omega) (gc_le (t := t) hp) hB
      have h1 : decide (b < 0) = false := decide_eq_false hn
      simp only [retOf, sNil, sThen, sSeq, sRet, sDrop, sSet, sIf, sPar, sUn2, sFor, asL, gSet, forD, fVar, fC, f2, f1, fT, asB, fNotT, fAndT, fOrT, fAndV, fOrV, gNot, gNeg, faNil, faCons, fTup, fLst, fCall, gAbs, gInt, gLen_t2, gLen_seq, gIx_t0, gIx_t1, gI0, gAdd_int, gNe_int, gEq_int, gEq_bl, gEq_tup2, gNe_tup2, gIsi_same, Dl.isInt, Dl.isBool, Dl.isTup, Option.bind_some, Option.map_some, List.map_cons, List.map_nil, List.length_cons, List.length_nil, List.getElem?_cons_zero, List.getElem?_cons_succ, List.set_cons_zero, List.set_cons_succ, List.cons_append, List.nil_append, List.append_nil, Bool.not_true, Bool.not_false, beq_self_eq_true, h1, e_common_divisor (a := (t.natAbs : Int)) hp, gc_abs, gI_pos (C := CDivB) (i := t) ⟨hg, hgB⟩, gI_pos (C := CDivB) (i := b) ⟨hg, hgB⟩]
      unfold low
      rw [if_neg hn]
      rfl
abbrev s__law_floor : Stmt := top 20
theorem sc__law_floor : FnScope ["_law_one", "_law_found"] ["_law_one"] (defScope s__law_floor) := ⟨rfl, rfl, rfl, by decide +kernel, rfl, by decide +kernel, by decide +kernel⟩
theorem ok__law_floor (F : Fun K "_law_floor" "_law_floor" s__law_floor f fd)  (hfloor_of : Has P w K mg base 1 "floor_of" ["one"] (fn S_floor_of)) (hLwhole : Has P w K mg base 1 "_law_whole" ["_law_found"] (fn S__law_whole))   : FnOk P w K mg base CX0 2 f fd ["_law_one"] (pureSp K 1 (fn S__law_floor)) := by
  have sc := sc__law_floor
  refine pure_ok F sc__law_floor (fun cdv A outer s H E ds d hr hG hl => ?_)
  obtain ⟨⟨a, b⟩, hp, rfl, rfl⟩ := fn_inv hG
  refine ⟨_, (psd_cons (psd_set 1 sc.nd (pd_callH hfloor_of hr (pad_cons (pd_var 0) pad_nil)))
      (psd_one (psd_ret (pd_and (pd_callH hLwhole hr (pad_cons (pd_var 1) pad_nil)) (pd_and (pd_le (pd_mul (pd_var 1) (pd_ix (pd_var 0) pd_int)) (pd_ix (pd_var 0) pd_int)) (pd_one (pd_lt (pd_ix (pd_var 0) pd_int) (pd_mul (pd_add (pd_var 1) pd_int) (pd_ix (pd_var 0) pd_int))))))))), ?_⟩
  · show retOf ((?f : SD) [some _, none]) = _
    have kp : Fk (a, b) := Fk.of hp
    have hb : 0 < b := hp.pos
    have s1 : Sm 200 (a / b) := by
      have h := hp.s1
      unfold Sm at *
      have h3 := Int.natAbs_ediv_le_natAbs a b
      exact Nat.lt_of_le_of_lt h3 h
    simp only [retOf, sNil, sThen, sSeq, sRet, sDrop, sSet, sIf, sPar, sUn2, sFor, asL, gSet, forD, fVar, fC, f2, f1, fT, asB, fNotT, fAndT, fOrT, fAndV, fOrV, gNot, gNeg, faNil, faCons, fTup, fLst, fCall, gAbs, gInt, gLen_t2, gLen_seq, gIx_t0, gIx_t1, gI0, gAdd_int, gNe_int, gEq_int, gEq_bl, gEq_tup2, gNe_tup2, gIsi_same, Dl.isInt, Dl.isBool, Dl.isTup, Option.bind_some, Option.map_some, List.map_cons, List.map_nil, List.length_cons, List.length_nil, List.getElem?_cons_zero, List.getElem?_cons_succ, List.set_cons_zero, List.set_cons_succ, List.cons_append, List.nil_append, List.append_nil, Bool.not_true, Bool.not_false, beq_self_eq_true, e_floor_of kp, e_is_whole (x := .int (a / b)) rfl, gI_pos (C := CMulB) (i := a / b) (j := b) ⟨bd_of s1, kp.s2.bd⟩, gI_pos (C := CMulB) (i := a / b + 1) (j := b) ⟨bd_of (s1.add (y := 1) (show (1 : Int).natAbs < 2 ^ 200 by decide)), kp.s2.bd⟩, decide_eq_true (floor_le (a := a) hb), decide_eq_true (floor_lt (a := a) hb)]
abbrev s_plus : Stmt := top 4
theorem sc_plus : FnScope ["one", "other"] ["one", "other"] (defScope s_plus) := ⟨rfl, rfl, rfl, by decide +kernel, rfl, by decide +kernel, by decide +kernel⟩
theorem ok_plus (F : Fun K "plus" "plus" s_plus f fd)  (hsummed : Has P w K mg base 2 "summed" ["one", "top", "bottom"] (fn S_summed))   : FnOk P w K mg base CX0 3 f fd ["one", "other"] (pureSp K 2 (fn S_plus)) := by
  have sc := sc_plus
  refine pure_ok F sc_plus (fun cdv A outer s H E ds d hr hG hl => ?_)
  obtain ⟨⟨a, b⟩, ⟨c, e⟩, hp, hq, rfl, rfl⟩ := fn_inv hG
  refine ⟨_, (psd_one (psd_ret (pd_callH hsummed hr (pad_cons (pd_var 0) (pad_cons (pd_ix (pd_var 1) pd_int) (pad_cons (pd_ix (pd_var 1) pd_int) pad_nil)))))), ?_⟩
  · show retOf ((?f : SD) [some _, some _]) = _
    have h := e_summed hp hq
    have h' : fn S_summed [.tup [.int a, .int b], .int c, .int e] = some (fr (pl (a, b) (c, e))) := by rw [pl_sm hp.lw hq.lw]; exact h
    simp only [retOf, sNil, sThen, sSeq, sRet, sDrop, sSet, sIf, sPar, sUn2, sFor, asL, gSet, forD, fVar, fC, f2, f1, fT, asB, fNotT, fAndT, fOrT, fAndV, fOrV, gNot, gNeg, faNil, faCons, fTup, fLst, fCall, gAbs, gInt, gLen_t2, gLen_seq, gIx_t0, gIx_t1, gI0, gAdd_int, gNe_int, gEq_int, gEq_bl, gEq_tup2, gNe_tup2, gIsi_same, Dl.isInt, Dl.isBool, Dl.isTup, Option.bind_some, Option.map_some, List.map_cons, List.map_nil, List.length_cons, List.length_nil, List.getElem?_cons_zero, List.getElem?_cons_succ, List.set_cons_zero, List.set_cons_succ, List.cons_append, List.nil_append, List.append_nil, Bool.not_true, Bool.not_false, beq_self_eq_true, h']
abbrev s_minus : Stmt := top 5
theorem sc_minus : FnScope ["one", "other"] ["one", "other"] (defScope s_minus) := ⟨rfl, rfl, rfl, by decide +kernel, rfl, by decide +kernel, by decide +kernel⟩
theorem ok_minus (F : Fun K "minus" "minus" s_minus f fd)  (hsummed : Has P w K mg base 2 "summed" ["one", "top", "bottom"] (fn S_summed))   : FnOk P w K mg base CX0 3 f fd ["one", "other"] (pureSp K 2 (fn S_minus)) := by
  have sc := sc_minus
  refine pure_ok F sc_minus (fun cdv A outer s H E ds d hr hG hl => ?_)
  obtain ⟨⟨a, b⟩, ⟨c, e⟩, hp, hq, rfl, rfl⟩ := fn_inv hG
  refine ⟨_, (psd_one (psd_ret (pd_callH hsummed hr (pad_cons (pd_var 0) (pad_cons (pd_neg (pd_ix (pd_var 1) pd_int)) (pad_cons (pd_ix (pd_var 1) pd_int) pad_nil)))))), ?_⟩
  · show retOf ((?f : SD) [some _, some _]) = _
    have h := e_summed hp hq.neg
    have h' : fn S_summed [.tup [.int a, .int b], .int (-c), .int e] = some (fr (mi (a, b) (c, e))) := by rw [mi_sm hp.lw hq.lw]; exact h
    simp only [retOf, sNil, sThen, sSeq, sRet, sDrop, sSet, sIf, sPar, sUn2, sFor, asL, gSet, forD, fVar, fC, f2, f1, fT, asB, fNotT, fAndT, fOrT, fAndV, fOrV, gNot, gNeg, faNil, faCons, fTup, fLst, fCall, gAbs, gInt, gLen_t2, gLen_seq, gIx_t0, gIx_t1, gI0, gAdd_int, gNe_int, gEq_int, gEq_bl, gEq_tup2, gNe_tup2, gIsi_same, Dl.isInt, Dl.isBool, Dl.isTup, Option.bind_some, Option.map_some, List.map_cons, List.map_nil, List.length_cons, List.length_nil, List.getElem?_cons_zero, List.getElem?_cons_succ, List.set_cons_zero, List.set_cons_succ, List.cons_append, List.nil_append, List.append_nil, Bool.not_true, Bool.not_false, beq_self_eq_true, h']
abbrev s__law_part : Stmt := top 16
theorem sc__law_part : FnScope ["_law_script", "_law_k", "_law_bottom"] ["_law_script", "_law_k"] (defScope s__law_part) := ⟨rfl, rfl, rfl, by decide +kernel, rfl, by decide +kernel, by decide +kernel⟩
theorem ok__law_part (F : Fun K "_law_part" "_law_part" s__law_part f fd)  (hLnumber : Has P w K mg base 1 "_law_number" ["_law_cell"] (fn S__law_number)) (hLlowest : Has P w K mg base 2 "_law_lowest" ["_law_top", "_law_bottom"] (fn S__law_lowest)) (hLcell_at : Has P w K mg base 1 "_law_cell_at" ["_law_script", "_law_k"] (fn S__law_cell_at))  (m_int : mg "int" = none) : FnOk P w K mg base CX0 3 f fd ["_law_script", "_law_k"] (pureSp K 2 (fn S__law_part)) := by
  have sc := sc__law_part
  refine pure_ok F sc__law_part (fun cdv A outer s H E ds d hr hG hl => ?_)
  obtain ⟨ns, k, hk, rfl, rfl⟩ := fn_inv hG
  refine ⟨_, (psd_cons (psd_set 2 sc.nd (pd_callH hLnumber hr (pad_cons (pd_callH hLcell_at hr (pad_cons (pd_var 0) (pad_cons (pd_add (pd_var 1) pd_int) pad_nil))) pad_nil)))
      (psd_one (psd_ret (pd_callH hLlowest hr (pad_cons (pd_callH hLnumber hr (pad_cons (pd_callH hLcell_at hr (pad_cons (pd_var 0) (pad_cons (pd_var 1) pad_nil))) pad_nil)) (pad_cons (pd_add (pd_var 2) (pd_callTy call_int1 cd_int rfl m_int boot_int (pad_cons (pd_eq hr.units0 (pd_var 2) pd_int) pad_nil))) pad_nil)))))), ?_⟩
  · show retOf ((?f : SD) [some _, some _, none]) = _
    have h0 : num (cell ns (k + 1)) + (if (num (cell ns (k + 1)) == 0) = true then 1 else 0) = nz (num (cell ns (k + 1))) := by
      unfold nz
      simp only [beq_iff_eq]
    simp only [retOf, sNil, sThen, sSeq, sRet, sDrop, sSet, sIf, sPar, sUn2, sFor, asL, gSet, forD, fVar, fC, f2, f1, fT, asB, fNotT, fAndT, fOrT, fAndV, fOrV, gNot, gNeg, faNil, faCons, fTup, fLst, fCall, gAbs, gInt, gLen_t2, gLen_seq, gIx_t0, gIx_t1, gI0, gAdd_int, gNe_int, gEq_int, gEq_bl, gEq_tup2, gNe_tup2, gIsi_same, Dl.isInt, Dl.isBool, Dl.isTup, Option.bind_some, Option.map_some, List.map_cons, List.map_nil, List.length_cons, List.length_nil, List.getElem?_cons_zero, List.getElem?_cons_succ, List.set_cons_zero, List.set_cons_succ, List.cons_append, List.nil_append, List.append_nil, Bool.not_true, Bool.not_false, beq_self_eq_true, e__law_cell_at (ns := ns) (k := k + 1) (by omega), e__law_cell_at (ns := ns) (k := k) hk, e__law_number, h0, e__law_lowest (t := num (cell ns k)) (nz_ne _) (bd_of (nz_sm (num_sm (cell ns (k + 1)))))]
    rfl
abbrev s__law_right : Stmt := top 17
theorem sc__law_right : FnScope ["_law_found", "_law_top", "_law_bottom"] ["_law_found", "_law_top", "_law_bottom"] (defScope s__law_right) := ⟨rfl, rfl, rfl, by decide +kernel, rfl, by decide +kernel, by decide +kernel⟩
theorem ok__law_right (F : Fun K "_law_right" "_law_right" s__law_right f fd)  (his_fraction : Has P w K mg base 2 "is_fraction" ["thing"] (fn S_is_fraction)) (hLwhole : Has P w K mg base 1 "_law_whole" ["_law_found"] (fn S__law_whole)) (hLlowest : Has P w K mg base 2 "_law_lowest" ["_law_top", "_law_bottom"] (fn S__law_lowest))  (m_isinstance : mg "isinstance" = none) (m_tuple : mg "tuple" = none) (m_len : mg "len" = none) : FnOk P w K mg base CX0 3 f fd ["_law_found", "_law_top", "_law_bottom"] (pureSp K 3 (fn S__law_right)) := by
  have sc := sc__law_right
  refine pure_ok F sc__law_right (fun cdv A outer s H E ds d hr hG hl => ?_)
  obtain ⟨t, b, hb, hB, rfl, rfl⟩ := fn_inv hG
  refine ⟨_, (psd_cons (psd_if (PWD.pt (pwd_or (ptd_not (ptd_val (pd_callB call_isi (cd_isi ok_isTup) rfl m_isinstance boot_isinstance (pad_cons (pd_var 0) (pad_cons (pd_ty rfl m_tuple boot_tuple) pad_nil))))) (pwd_or (ptd_ne hr.units0 (pd_callB call_len_seq cd_len rfl m_len PySem.boot_len (pad_cons (pd_var 0) pad_nil)) pd_int) (pwd_or (ptd_not (ptd_val (pd_callH hLwhole hr (pad_cons (pd_ix (pd_var 0) pd_int) pad_nil)))) (pwd_or1 (ptd_not (ptd_val (pd_callH hLwhole hr (pad_cons (pd_ix (pd_var 0) pd_int) pad_nil))))))))) (psd_one (psd_ret pd_bl)) psd_nil)
      (psd_one (psd_ret (pd_and (pd_eq hr.units0 (pd_var 0) (pd_callH hLlowest hr (pad_cons (pd_var 1) (pad_cons (pd_var 2) pad_nil)))) (pd_one (pd_callH his_fraction hr (pad_cons (pd_var 0) pad_nil))))))), ?_⟩
  · show retOf ((?f : SD) [some _, some _, some _]) = _
    have hl : Lw (low t b) := by
      unfold low
      split
      · exact rd_lw (by omega)
      · exact rd_lw (by omega)
    have h1 : (gc (low t b).1 (low t b).2 == 1) = true := by rw [beq_iff_eq]; exact hl.one
    simp only [retOf, sNil, sThen, sSeq, sRet, sDrop, sSet, sIf, sPar, sUn2, sFor, asL, gSet, forD, fVar, fC, f2, f1, fT, asB, fNotT, fAndT, fOrT, fAndV, fOrV, gNot, gNeg, faNil, faCons, fTup, fLst, fCall, gAbs, gInt, gLen_t2, gLen_seq, gIx_t0, gIx_t1, gI0, gAdd_int, gNe_int, gEq_int, gEq_bl, gEq_tup2, gNe_tup2, gIsi_same, Dl.isInt, Dl.isBool, Dl.isTup, Option.bind_some, Option.map_some, List.map_cons, List.map_nil, List.length_cons, List.length_nil, List.getElem?_cons_zero, List.getElem?_cons_succ, List.set_cons_zero, List.set_cons_succ, List.cons_append, List.nil_append, List.append_nil, Bool.not_true, Bool.not_false, beq_self_eq_true, e_is_whole (x := .int (low t b).1) rfl, e_is_whole (x := .int (low t b).2) rfl, e__law_lowest (t := t) hb hB, e_is_fraction hl.pos, h1, beq_self_eq_true, Bool.and_true]
abbrev s__law_two : Stmt := top 19
theorem sc__law_two : FnScope ["_law_one", "_law_other", "_law_a", "_law_b", "_law_c", "_law_d"] ["_law_one", "_law_other"] (defScope s__law_two) := ⟨rfl, rfl, rfl, by decide +kernel, rfl, by decide +kernel, by decide +kernel⟩
theorem ok__law_two (F : Fun K "_law_two" "_law_two" s__law_two f fd)  (hLright : Has P w K mg base 3 "_law_right" ["_law_found", "_law_top", "_law_bottom"] (fn S__law_right)) (hplus : Has P w K mg base 3 "plus" ["one", "other"] (fn S_plus)) (hminus : Has P w K mg base 3 "minus" ["one", "other"] (fn S_minus)) (hLsays : Has P w K mg base 1 "_law_says" ["_law_found", "_law_due"] (fn S__law_says)) (htimes : Has P w K mg base 2 "times" ["one", "other"] (fn S_times)) (hless : Has P w K mg base 1 "less" ["one", "other"] (fn S_less))   : FnOk P w K mg base CX0 4 f fd ["_law_one", "_law_other"] (pureSp K 2 (fn S__law_two)) := by
  have sc := sc__law_two
  refine pure_ok F sc__law_two (fun cdv A outer s H E ds d hr hG hl => ?_)
  obtain ⟨⟨a, b⟩, ⟨c, e⟩, hp, hq, rfl, rfl⟩ := fn_inv hG
  refine ⟨_, (psd_cons (psd_un2 2 3 rfl sc.nd (pd_var 0))
      (psd_cons (psd_un2 4 5 rfl sc.nd (pd_var 1))
      (psd_cons (psd_if (ptd_not (ptd_val (pd_callH hLright hr (pad_cons (pd_callH hplus hr (pad_cons (pd_var 0) (pad_cons (pd_var 1) pad_nil))) (pad_cons (pd_add (pd_mul (pd_var 2) (pd_var 5)) (pd_mul (pd_var 4) (pd_var 3))) (pad_cons (pd_mul (pd_var 3) (pd_var 5)) pad_nil)))))) (psd_one (psd_ret pd_bl)) psd_nil)
      (psd_cons (psd_if (ptd_not (ptd_val (pd_callH hLright hr (pad_cons (pd_callH hminus hr (pad_cons (pd_var 0) (pad_cons (pd_var 1) pad_nil))) (pad_cons (pd_sub (pd_mul (pd_var 2) (pd_var 5)) (pd_mul (pd_var 4) (pd_var 3))) (pad_cons (pd_mul (pd_var 3) (pd_var 5)) pad_nil)))))) (psd_one (psd_ret pd_bl)) psd_nil)
      (psd_cons (psd_if (PWD.pt (pwd_or (ptd_not (ptd_val (pd_callH hLright hr (pad_cons (pd_callH htimes hr (pad_cons (pd_var 0) (pad_cons (pd_var 1) pad_nil))) (pad_cons (pd_mul (pd_var 2) (pd_var 4)) (pad_cons (pd_mul (pd_var 3) (pd_var 5)) pad_nil)))))) (pwd_or1 (ptd_not (ptd_val (pd_callH hLsays hr (pad_cons (pd_callH hless hr (pad_cons (pd_var 0) (pad_cons (pd_var 1) pad_nil))) (pad_cons (pd_lt (pd_mul (pd_var 2) (pd_var 5)) (pd_mul (pd_var 4) (pd_var 3))) pad_nil)))))))) (psd_one (psd_ret pd_bl)) psd_nil)
      (psd_one (psd_ret (pd_and (pd_eq hr.units0 (pd_callH hminus hr (pad_cons (pd_callH hplus hr (pad_cons (pd_var 0) (pad_cons (pd_var 1) pad_nil))) (pad_cons (pd_var 1) pad_nil))) (pd_var 0)) (pd_one (pd_eq hr.units0 (pd_callH hplus hr (pad_cons (pd_var 1) (pad_cons (pd_var 0) pad_nil))) (pd_callH hplus hr (pad_cons (pd_var 0) (pad_cons (pd_var 1) pad_nil))))))))))))), ?_⟩
  · show retOf ((?f : SD) [some _, some _, none, none, none, none]) = _
    have kp : Flw (a, b) := Flw.of hp
    have kq : Flw (c, e) := Flw.of hq
    have hbe : 0 < b * e := Int.mul_pos hp.pos hq.pos
    have ne : b * e ≠ 0 := by omega
    have hB : Bd (b * e) := bd_of (hp.s2.mul hq.s2)
    have r1 : fr (pl (a, b) (c, e)) = fr (low (a * e + c * b) (b * e)) := by rw [low_pos hbe]; rfl
    have r2 : fr (mi (a, b) (c, e)) = fr (low (a * e - c * b) (b * e)) := by rw [low_pos hbe]; rfl
    have r3 : fr (ti (a, b) (c, e)) = fr (low (a * c) (b * e)) := by rw [low_pos hbe]; rfl
    have kpl : Flw (pl (a, b) (c, e)) := Flw.of (hp.pl hq)
    have back : mi (pl (a, b) (c, e)) (c, e) = (a, b) := mi_pl hp.lw hq.pos
    have comm : pl (c, e) (a, b) = pl (a, b) (c, e) := pl_comm _ _
    have R1 : fn S__law_right [fr (pl (a, b) (c, e)), .int (a * e + c * b), .int (b * e)] = some (.bl true) := by rw [r1]; exact e__law_right ne hB
    have R2 : fn S__law_right [fr (mi (a, b) (c, e)), .int (a * e - c * b), .int (b * e)] = some (.bl true) := by rw [r2]; exact e__law_right ne hB
    have R3 : fn S__law_right [fr (ti (a, b) (c, e)), .int (a * c), .int (b * e)] = some (.bl true) := by rw [r3]; exact e__law_right ne hB
    simp only [retOf, sNil, sThen, sSeq, sRet, sDrop, sSet, sIf, sPar, sUn2, sFor, asL, gSet, forD, fVar, fC, f2, f1, fT, asB, fNotT, fAndT, fOrT, fAndV, fOrV, gNot, gNeg, faNil, faCons, fTup, fLst, fCall, gAbs, gInt, gLen_t2, gLen_seq, gIx_t0, gIx_t1, gI0, gAdd_int, gNe_int, gEq_int, gEq_bl, gEq_tup2, gNe_tup2, gIsi_same, Dl.isInt, Dl.isBool, Dl.isTup, Option.bind_some, Option.map_some, List.map_cons, List.map_nil, List.length_cons, List.length_nil, List.getElem?_cons_zero, List.getElem?_cons_succ, List.set_cons_zero, List.set_cons_succ, List.cons_append, List.nil_append, List.append_nil, Bool.not_true, Bool.not_false, beq_self_eq_true, R1, R2, R3, e__law_says, back, comm, Bool.and_true, e2w (op := fun p q => fr (pl p q)) kp kq, e2w (op := fun p q => fr (mi p q)) kp kq, e2w (op := fun p q => fr (ti p q)) kp kq, e2 (op := fun p q => .bl (decide (p.1 * q.2 < q.1 * p.2))) kp.toFk kq.toFk, e2w (op := fun p q => fr (pl p q)) kq kp, e2w (op := fun p q => fr (mi p q)) kpl kq,
      gI_pos (C := CMulB) (i := a) (j := e) ⟨kp.s1.bd, kq.s2.bd⟩, gI_pos (C := CMulB) (i := c) (j := b) ⟨kq.s1.bd, kp.s2.bd⟩, gI_pos (C := CMulB) (i := b) (j := e) ⟨kp.s2.bd, kq.s2.bd⟩, gI_pos (C := CMulB) (i := a) (j := c) ⟨kp.s1.bd, kq.s1.bd⟩]
abbrev s_law : Stmt := top 21
theorem sc_law : FnScope ["_law_script", "_law_head", "_law_one", "_law_other", "_law_third", "_law_pair"] ["_law_script"] (defScope s_law) := ⟨rfl, rfl, rfl, by decide +kernel, rfl, by decide +kernel, by decide +kernel⟩
theorem ok_law (F : Fun K "law" "law" s_law f fd)  (hLcell_at : Has P w K mg base 1 "_law_cell_at" ["_law_script", "_law_k"] (fn S__law_cell_at)) (hLpart : Has P w K mg base 3 "_law_part" ["_law_script", "_law_k"] (fn S__law_part)) (hplus : Has P w K mg base 3 "plus" ["one", "other"] (fn S_plus)) (htimes : Has P w K mg base 2 "times" ["one", "other"] (fn S_times)) (hLtwo : Has P w K mg base 4 "_law_two" ["_law_one", "_law_other"] (fn S__law_two)) (hLfloor : Has P w K mg base 2 "_law_floor" ["_law_one"] (fn S__law_floor))   : FnOk P w K mg base CX0 5 f fd ["_law_script"] (spLaw K) := by
  have sc := sc_law
  refine law_ok F sc_law (fun cdv A outer s H E ns hr hl => ?_)
  refine ⟨_, (psd_cons (psd_set 1 sc.nd (pd_callH hLcell_at hr (pad_cons (pd_var 0) (pad_cons pd_int pad_nil))))
      (psd_cons (psd_set 2 sc.nd (pd_callH hLpart hr (pad_cons (pd_var 0) (pad_cons pd_int pad_nil))))
      (psd_cons (psd_set 3 sc.nd (pd_callH hLpart hr (pad_cons (pd_var 0) (pad_cons pd_int pad_nil))))
      (psd_cons (psd_if (ptd_eq hr.units0 (pd_mod (pd_var 1) pd_int) pd_int) (psd_one (psd_set 3 sc.nd (pd_tup (pad_cons (pd_mul (pd_ix (pd_var 2) pd_int) (pd_sub pd_int (pd_mul (pd_mod (pd_fdiv (pd_var 1) pd_int) pd_int) pd_int))) (pad_cons (pd_ix (pd_var 2) pd_int) pad_nil))))) psd_nil)
      (psd_cons (psd_set 4 sc.nd (pd_callH hLpart hr (pad_cons (pd_var 0) (pad_cons pd_int pad_nil))))
      (psd_cons (psd_for PassesOwn.never rfl (pid_list (pd_lst (pad_cons (pd_tup (pad_cons (pd_var 2) (pad_cons (pd_var 3) pad_nil))) (pad_cons (pd_tup (pad_cons (pd_var 3) (pad_cons (pd_var 2) pad_nil))) (pad_cons (pd_tup (pad_cons (pd_var 2) (pad_cons (pd_var 4) pad_nil))) (pad_cons (pd_tup (pad_cons (pd_var 4) (pad_cons (pd_var 4) pad_nil))) (pad_cons (pd_tup (pad_cons (pd_var 2) (pad_cons (pd_tup (pad_cons pd_int (pad_cons pd_int pad_nil))) pad_nil))) pad_nil))))))) (pgd_name 5 sc.nd)
        (psd_one (psd_if (PWD.pt (pwd_or (ptd_not (ptd_val (pd_callH hLtwo hr (pad_cons (pd_ix (pd_var 5) pd_int) (pad_cons (pd_ix (pd_var 5) pd_int) pad_nil))))) (pwd_or (ptd_not (ptd_val (pd_callH hLfloor hr (pad_cons (pd_ix (pd_var 5) pd_int) pad_nil)))) (pwd_or1 (ptd_not (ptd_val (pd_callH hLfloor hr (pad_cons (pd_ix (pd_var 5) pd_int) pad_nil)))))))) (psd_one (psd_ret pd_bl)) psd_nil)))
      (psd_cons (psd_if (ptd_ne hr.units0 (pd_callH hplus hr (pad_cons (pd_callH hplus hr (pad_cons (pd_var 2) (pad_cons (pd_var 3) pad_nil))) (pad_cons (pd_var 4) pad_nil))) (pd_callH hplus hr (pad_cons (pd_var 2) (pad_cons (pd_callH hplus hr (pad_cons (pd_var 3) (pad_cons (pd_var 4) pad_nil))) pad_nil)))) (psd_one (psd_ret pd_bl)) psd_nil)
      (psd_one (psd_ret (pd_eq hr.units0 (pd_callH htimes hr (pad_cons (pd_callH hplus hr (pad_cons (pd_var 2) (pad_cons (pd_var 3) pad_nil))) (pad_cons (pd_var 4) pad_nil))) (pd_callH hplus hr (pad_cons (pd_callH htimes hr (pad_cons (pd_var 2) (pad_cons (pd_var 4) pad_nil))) (pad_cons (pd_callH htimes hr (pad_cons (pd_var 3) (pad_cons (pd_var 4) pad_nil))) pad_nil))))))))))))), ?_⟩
  · show retOf ((?f : SD) [some _, none, none, none, none, none]) = _
    have h01 : Fr 200 (0, 1) := ⟨lo01, show (0 : Int).natAbs < 2 ^ 200 by decide, show (1 : Int).natAbs < 2 ^ 200 by decide⟩
    have hp := part_fr ns 1
    have ht := part_fr ns 5
    have c0 := e__law_cell_at (ns := ns) (k := 0) (by decide)
    have c1 := e__law_part (ns := ns) (k := 1) (by decide)
    have c3 := e__law_part (ns := ns) (k := 3) (by decide)
    have c5 := e__law_part (ns := ns) (k := 5) (by decide)
    have d3 : CDivB (cell ns 0) 3 := ⟨by decide, bd_sm⟩
    have go : ∀ o : Int × Int, Fr 200 o →
        fn S__law_two [fr (part ns 1), fr o] = some (.bl true) ∧ fn S__law_two [fr o, fr (part ns 1)] = some (.bl true) ∧ fn S__law_floor [fr o] = some (.bl true) ∧
        fn S_plus [fr (part ns 1), fr o] = some (fr (pl (part ns 1) o)) ∧ fn S_plus [fr (pl (part ns 1) o), fr (part ns 5)] = some (fr (pl (pl (part ns 1) o) (part ns 5))) ∧
        fn S_plus [fr o, fr (part ns 5)] = some (fr (pl o (part ns 5))) ∧ fn S_plus [fr (part ns 1), fr (pl o (part ns 5))] = some (fr (pl (pl (part ns 1) o) (part ns 5))) ∧
        fn S_times [fr (pl (part ns 1) o), fr (part ns 5)] = some (fr (ti (pl (part ns 1) o) (part ns 5))) ∧ fn S_times [fr o, fr (part ns 5)] = some (fr (ti o (part ns 5))) ∧
        fn S_plus [fr (ti (part ns 1) (part ns 5)), fr (ti o (part ns 5))] = some (fr (ti (pl (part ns 1) o) (part ns 5))) := fun o ho => by
      have a1 : Fr 401 (pl (part ns 1) o) := hp.pl ho
      have a2 : Fr 401 (pl o (part ns 5)) := ho.pl ht
      have a3 : Fr 401 (ti (part ns 1) (part ns 5)) := hp.ti ht
      have a4 : Fr 401 (ti o (part ns 5)) := ho.ti ht
      refine ⟨e__law_two hp ho, e__law_two ho hp, e__law_floor ho, e2w (op := fun p q => fr (pl p q)) (Flw.of hp) (Flw.of ho), e2w (op := fun p q => fr (pl p q)) (Flw.of a1) (Flw.of ht), e2w (op := fun p q => fr (pl p q)) (Flw.of ho) (Flw.of ht), ?_, e2w (op := fun p q => fr (ti p q)) (Flw.of a1) (Flw.of ht), e2w (op := fun p q => fr (ti p q)) (Flw.of ho) (Flw.of ht), ?_⟩
      · rw [pl_assoc hp.pos ho.pos ht.pos]
        exact e2w (op := fun p q => fr (pl p q)) (Flw.of hp) (Flw.of a2)
      · rw [ti_pl hp.pos ho.pos ht.pos]
        exact e2w (op := fun p q => fr (pl p q)) (Flw.of a3) (Flw.of a4)
    have g1 := e__law_two hp ht
    have g2 := e__law_two ht ht
    have g3 : fn S__law_two [fr (part ns 1), .tup [.int 0, .int 1]] = some (.bl true) := e__law_two hp h01
    have g4 : fn S__law_floor [.tup [.int 0, .int 1]] = some (.bl true) := e__law_floor h01
    have g5 := e__law_floor hp
    have g6 := e__law_floor ht
    have g7 : fn S_times [fr (part ns 1), fr (part ns 5)] = some (fr (ti (part ns 1) (part ns 5))) := e2w (op := fun p q => fr (ti p q)) (Flw.of hp) (Flw.of ht)
    by_cases h : cell ns 0 % 3 = 2
    · have h1 : (cell ns 0 % 3 == 2) = true := by simp [h]
      have ho : Fr 200 ((part ns 1).1 * (1 - cell ns 0 / 3 % 2 * 2), (part ns 1).2) := by
        rcases (show cell ns 0 / 3 % 2 = 0 ∨ cell ns 0 / 3 % 2 = 1 by omega) with z | z
        · rw [z]
          have : (part ns 1).1 * (1 - 0 * 2) = (part ns 1).1 := by omega
          rw [this]
          exact hp
        · rw [z]
          have : (part ns 1).1 * (1 - 1 * 2) = -(part ns 1).1 := by omega
          rw [this]
          exact ⟨hp.lw.neg, hp.s1.neg, hp.s2⟩
      have m1 : CMulB (cell ns 0 / 3 % 2) 2 := ⟨bd_of (k := 200) (Sm.of (by omega) (by omega)), bd_sm⟩
      have m2 : CMulB (part ns 1).1 (1 - cell ns 0 / 3 % 2 * 2) := ⟨bd_of hp.s1, bd_of (k := 200) (Sm.of (by omega) (by omega))⟩
      obtain ⟨q1, q2, q3, q4, q5, q6, q7, q8, q9, q10⟩ := go _ ho
      simp only [retOf, sNil, sThen, sSeq, sRet, sDrop, sSet, sIf, sPar, sUn2, sFor, asL, gSet, forD, fVar, fC, f2, f1, fT, asB, fNotT, fAndT, fOrT, fAndV, fOrV, gNot, gNeg, faNil, faCons, fTup, fLst, fCall, gAbs, gInt, gLen_t2, gLen_seq, gIx_t0, gIx_t1, gI0, gAdd_int, gNe_int, gEq_int, gEq_bl, gEq_tup2, gNe_tup2, gIsi_same, Dl.isInt, Dl.isBool, Dl.isTup, Option.bind_some, Option.map_some, List.map_cons, List.map_nil, List.length_cons, List.length_nil, List.getElem?_cons_zero, List.getElem?_cons_succ, List.set_cons_zero, List.set_cons_succ, List.cons_append, List.nil_append, List.append_nil, Bool.not_true, Bool.not_false, beq_self_eq_true, c0, c1, c3, c5, gI_pos (C := fun _ j => 0 < j) (i := cell ns 0) (j := 3) (by decide), h1, gI_pos (C := CDivB) d3, gI_pos (C := fun _ j => 0 < j) (i := cell ns 0 / 3) (j := 2) (by decide), gI_pos (C := CMulB) m1, gI_pos (C := CMulB) m2,
        q1, q2, q3, q4, q5, q6, q7, q8, q9, q10, g1, g2, g3, g4, g5, g6, g7, Bool.and_true]
    · have h1 : (cell ns 0 % 3 == 2) = false := by simp [h]
      obtain ⟨q1, q2, q3, q4, q5, q6, q7, q8, q9, q10⟩ := go _ (part_fr ns 3)
      simp only [retOf, sNil, sThen, sSeq, sRet, sDrop, sSet, sIf, sPar, sUn2, sFor, asL, gSet, forD, fVar, fC, f2, f1, fT, asB, fNotT, fAndT, fOrT, fAndV, fOrV, gNot, gNeg, faNil, faCons, fTup, fLst, fCall, gAbs, gInt, gLen_t2, gLen_seq, gIx_t0, gIx_t1, gI0, gAdd_int, gNe_int, gEq_int, gEq_bl, gEq_tup2, gNe_tup2, gIsi_same, Dl.isInt, Dl.isBool, Dl.isTup, Option.bind_some, Option.map_some, List.map_cons, List.map_nil, List.length_cons, List.length_nil, List.getElem?_cons_zero, List.getElem?_cons_succ, List.set_cons_zero, List.set_cons_succ, List.cons_append, List.nil_append, List.append_nil, Bool.not_true, Bool.not_false, beq_self_eq_true, c0, c1, c3, c5, gI_pos (C := fun _ j => 0 < j) (i := cell ns 0) (j := 3) (by decide), h1, q1, q2, q3, q4, q5, q6, q7, q8, q9, q10, g1, g2, g3, g4, g5, g6, g7, Bool.and_true]
end
theorem all_mk {l : PySem.W.OpenLaw} {w : World} {K : PySem.W.Frag} {h : Heap} {mg : Str → Option Value} {fa : Addr} (X : K.In h) (G : h.Ns mainGlobals mg) (hfa : mg "law" = some (.ref fa)) {f0 : Addr} {od0 an0 : Option Addr} {sl0 : Array (Option Value)} {oc0 kV0 dc0 pm0 cd0 ct0 : Value} {f1 : Addr} {od1 an1 : Option Addr} {sl1 : Array (Option Value)} {oc1 kV1 dc1 pm1 cd1 ct1 : Value} {f2 : Addr} {od2 an2 : Option Addr} {sl2 : Array (Option Value)} {oc2 kV2 dc2 pm2 cd2 ct2 : Value} {f3 : Addr} {od3 an3 : Option Addr} {sl3 : Array (Option Value)} {oc3 kV3 dc3 pm3 cd3 ct3 : Value} {f4 : Addr} {od4 an4 : Option Addr} {sl4 : Array (Option Value)} {oc4 kV4 dc4 pm4 cd4 ct4 : Value} {f5 : Addr} {od5 an5 : Option Addr} {sl5 : Array (Option Value)} {oc5 kV5 dc5 pm5 cd5 ct5 : Value} {f6 : Addr} {od6 an6 : Option Addr} {sl6 : Array (Option Value)} {oc6 kV6 dc6 pm6 cd6 ct6 : Value} {f7 : Addr} {od7 an7 : Option Addr} {sl7 : Array (Option Value)} {oc7 kV7 dc7 pm7 cd7 ct7 : Value} {f8 : Addr} {od8 an8 : Option Addr} {sl8 : Array (Option Value)} {oc8 kV8 dc8 pm8 cd8 ct8 : Value} {f9 : Addr} {od9 an9 : Option Addr} {sl9 : Array (Option Value)} {oc9 kV9 dc9 pm9 cd9 ct9 : Value} {f10 : Addr} {od10 an10 : Option Addr} {sl10 : Array (Option Value)} {oc10 kV10 dc10 pm10 cd10 ct10 : Value} {f11 : Addr} {od11 an11 : Option Addr} {sl11 : Array (Option Value)} {oc11 kV11 dc11 pm11 cd11 ct11 : Value} {f12 : Addr} {od12 an12 : Option Addr} {sl12 : Array (Option Value)} {oc12 kV12 dc12 pm12 cd12 ct12 : Value} {f13 : Addr} {od13 an13 : Option Addr} {sl13 : Array (Option Value)} {oc13 kV13 dc13 pm13 cd13 ct13 : Value} {f14 : Addr} {od14 an14 : Option Addr} {sl14 : Array (Option Value)} {oc14 kV14 dc14 pm14 cd14 ct14 : Value} {f15 : Addr} {od15 an15 : Option Addr} {sl15 : Array (Option Value)} {oc15 kV15 dc15 pm15 cd15 ct15 : Value} {f16 : Addr} {od16 an16 : Option Addr} {sl16 : Array (Option Value)} {oc16 kV16 dc16 pm16 cd16 ct16 : Value} {f17 : Addr} {od17 an17 : Option Addr} {sl17 : Array (Option Value)} {oc17 kV17 dc17 pm17 cd17 ct17 : Value} {f18 : Addr} {od18 an18 : Option Addr} {sl18 : Array (Option Value)} {oc18 kV18 dc18 pm18 cd18 ct18 : Value} {f19 : Addr} {od19 an19 : Option Addr} {sl19 : Array (Option Value)} {oc19 kV19 dc19 pm19 cd19 ct19 : Value}  
    (a0 : PySem.W.nsIn K mainGlobals "is_whole" = some (some (.ref f0))) (l0 : K.lookup f0 = some ⟨oc0, od0, .func (PySem.W.fnOf "is_whole" "is_whole" (defArgs s_is_whole) (defBody s_is_whole) (defScope s_is_whole) .none kV0 dc0 pm0 an0 cd0 ct0), sl0⟩) (c0 : PySem.W.codeIn K cd0 "is_whole" = true) (k0 : PySem.W.keepIn K (.ref f0) = true)
    (a1 : PySem.W.nsIn K mainGlobals "common_divisor" = some (some (.ref f1))) (l1 : K.lookup f1 = some ⟨oc1, od1, .func (PySem.W.fnOf "common_divisor" "common_divisor" (defArgs s_common_divisor) (defBody s_common_divisor) (defScope s_common_divisor) .none kV1 dc1 pm1 an1 cd1 ct1), sl1⟩) (c1 : PySem.W.codeIn K cd1 "common_divisor" = true) (k1 : PySem.W.keepIn K (.ref f1) = true)
    (a2 : PySem.W.nsIn K mainGlobals "is_fraction" = some (some (.ref f2))) (l2 : K.lookup f2 = some ⟨oc2, od2, .func (PySem.W.fnOf "is_fraction" "is_fraction" (defArgs s_is_fraction) (defBody s_is_fraction) (defScope s_is_fraction) .none kV2 dc2 pm2 an2 cd2 ct2), sl2⟩) (c2 : PySem.W.codeIn K cd2 "is_fraction" = true) (k2 : PySem.W.keepIn K (.ref f2) = true)
    (a3 : PySem.W.nsIn K mainGlobals "plus" = some (some (.ref f3))) (l3 : K.lookup f3 = some ⟨oc3, od3, .func (PySem.W.fnOf "plus" "plus" (defArgs s_plus) (defBody s_plus) (defScope s_plus) .none kV3 dc3 pm3 an3 cd3 ct3), sl3⟩) (c3 : PySem.W.codeIn K cd3 "plus" = true) (k3 : PySem.W.keepIn K (.ref f3) = true)
    (a4 : PySem.W.nsIn K mainGlobals "minus" = some (some (.ref f4))) (l4 : K.lookup f4 = some ⟨oc4, od4, .func (PySem.W.fnOf "minus" "minus" (defArgs s_minus) (defBody s_minus) (defScope s_minus) .none kV4 dc4 pm4 an4 cd4 ct4), sl4⟩) (c4 : PySem.W.codeIn K cd4 "minus" = true) (k4 : PySem.W.keepIn K (.ref f4) = true)
    (a5 : PySem.W.nsIn K mainGlobals "summed" = some (some (.ref f5))) (l5 : K.lookup f5 = some ⟨oc5, od5, .func (PySem.W.fnOf "summed" "summed" (defArgs s_summed) (defBody s_summed) (defScope s_summed) .none kV5 dc5 pm5 an5 cd5 ct5), sl5⟩) (c5 : PySem.W.codeIn K cd5 "summed" = true) (k5 : PySem.W.keepIn K (.ref f5) = true)
    (a6 : PySem.W.nsIn K mainGlobals "times" = some (some (.ref f6))) (l6 : K.lookup f6 = some ⟨oc6, od6, .func (PySem.W.fnOf "times" "times" (defArgs s_times) (defBody s_times) (defScope s_times) .none kV6 dc6 pm6 an6 cd6 ct6), sl6⟩) (c6 : PySem.W.codeIn K cd6 "times" = true) (k6 : PySem.W.keepIn K (.ref f6) = true)
    (a7 : PySem.W.nsIn K mainGlobals "less" = some (some (.ref f7))) (l7 : K.lookup f7 = some ⟨oc7, od7, .func (PySem.W.fnOf "less" "less" (defArgs s_less) (defBody s_less) (defScope s_less) .none kV7 dc7 pm7 an7 cd7 ct7), sl7⟩) (c7 : PySem.W.codeIn K cd7 "less" = true) (k7 : PySem.W.keepIn K (.ref f7) = true)
    (a8 : PySem.W.nsIn K mainGlobals "floor_of" = some (some (.ref f8))) (l8 : K.lookup f8 = some ⟨oc8, od8, .func (PySem.W.fnOf "floor_of" "floor_of" (defArgs s_floor_of) (defBody s_floor_of) (defScope s_floor_of) .none kV8 dc8 pm8 an8 cd8 ct8), sl8⟩) (c8 : PySem.W.codeIn K cd8 "floor_of" = true) (k8 : PySem.W.keepIn K (.ref f8) = true)
    (a9 : PySem.W.nsIn K mainGlobals "_law_cell_at" = some (some (.ref f9))) (l9 : K.lookup f9 = some ⟨oc9, od9, .func (PySem.W.fnOf "_law_cell_at" "_law_cell_at" (defArgs s__law_cell_at) (defBody s__law_cell_at) (defScope s__law_cell_at) .none kV9 dc9 pm9 an9 cd9 ct9), sl9⟩) (c9 : PySem.W.codeIn K cd9 "_law_cell_at" = true) (k9 : PySem.W.keepIn K (.ref f9) = true)
    (a10 : PySem.W.nsIn K mainGlobals "_law_number" = some (some (.ref f10))) (l10 : K.lookup f10 = some ⟨oc10, od10, .func (PySem.W.fnOf "_law_number" "_law_number" (defArgs s__law_number) (defBody s__law_number) (defScope s__law_number) .none kV10 dc10 pm10 an10 cd10 ct10), sl10⟩) (c10 : PySem.W.codeIn K cd10 "_law_number" = true) (k10 : PySem.W.keepIn K (.ref f10) = true)
    (a11 : PySem.W.nsIn K mainGlobals "_law_whole" = some (some (.ref f11))) (l11 : K.lookup f11 = some ⟨oc11, od11, .func (PySem.W.fnOf "_law_whole" "_law_whole" (defArgs s__law_whole) (defBody s__law_whole) (defScope s__law_whole) .none kV11 dc11 pm11 an11 cd11 ct11), sl11⟩) (c11 : PySem.W.codeIn K cd11 "_law_whole" = true) (k11 : PySem.W.keepIn K (.ref f11) = true)
    (a12 : PySem.W.nsIn K mainGlobals "_law_common" = some (some (.ref f12))) (l12 : K.lookup f12 = some ⟨oc12, od12, .func (PySem.W.fnOf "_law_common" "_law_common" (defArgs s__law_common) (defBody s__law_common) (defScope s__law_common) .none kV12 dc12 pm12 an12 cd12 ct12), sl12⟩) (c12 : PySem.W.codeIn K cd12 "_law_common" = true) (k12 : PySem.W.keepIn K (.ref f12) = true)
    (a13 : PySem.W.nsIn K mainGlobals "_law_lowest" = some (some (.ref f13))) (l13 : K.lookup f13 = some ⟨oc13, od13, .func (PySem.W.fnOf "_law_lowest" "_law_lowest" (defArgs s__law_lowest) (defBody s__law_lowest) (defScope s__law_lowest) .none kV13 dc13 pm13 an13 cd13 ct13), sl13⟩) (c13 : PySem.W.codeIn K cd13 "_law_lowest" = true) (k13 : PySem.W.keepIn K (.ref f13) = true)
    (a14 : PySem.W.nsIn K mainGlobals "_law_part" = some (some (.ref f14))) (l14 : K.lookup f14 = some ⟨oc14, od14, .func (PySem.W.fnOf "_law_part" "_law_part" (defArgs s__law_part) (defBody s__law_part) (defScope s__law_part) .none kV14 dc14 pm14 an14 cd14 ct14), sl14⟩) (c14 : PySem.W.codeIn K cd14 "_law_part" = true) (k14 : PySem.W.keepIn K (.ref f14) = true)
    (a15 : PySem.W.nsIn K mainGlobals "_law_right" = some (some (.ref f15))) (l15 : K.lookup f15 = some ⟨oc15, od15, .func (PySem.W.fnOf "_law_right" "_law_right" (defArgs s__law_right) (defBody s__law_right) (defScope s__law_right) .none kV15 dc15 pm15 an15 cd15 ct15), sl15⟩) (c15 : PySem.W.codeIn K cd15 "_law_right" = true) (k15 : PySem.W.keepIn K (.ref f15) = true)
    (a16 : PySem.W.nsIn K mainGlobals "_law_says" = some (some (.ref f16))) (l16 : K.lookup f16 = some ⟨oc16, od16, .func (PySem.W.fnOf "_law_says" "_law_says" (defArgs s__law_says) (defBody s__law_says) (defScope s__law_says) .none kV16 dc16 pm16 an16 cd16 ct16), sl16⟩) (c16 : PySem.W.codeIn K cd16 "_law_says" = true) (k16 : PySem.W.keepIn K (.ref f16) = true)
    (a17 : PySem.W.nsIn K mainGlobals "_law_two" = some (some (.ref f17))) (l17 : K.lookup f17 = some ⟨oc17, od17, .func (PySem.W.fnOf "_law_two" "_law_two" (defArgs s__law_two) (defBody s__law_two) (defScope s__law_two) .none kV17 dc17 pm17 an17 cd17 ct17), sl17⟩) (c17 : PySem.W.codeIn K cd17 "_law_two" = true) (k17 : PySem.W.keepIn K (.ref f17) = true)
    (a18 : PySem.W.nsIn K mainGlobals "_law_floor" = some (some (.ref f18))) (l18 : K.lookup f18 = some ⟨oc18, od18, .func (PySem.W.fnOf "_law_floor" "_law_floor" (defArgs s__law_floor) (defBody s__law_floor) (defScope s__law_floor) .none kV18 dc18 pm18 an18 cd18 ct18), sl18⟩) (c18 : PySem.W.codeIn K cd18 "_law_floor" = true) (k18 : PySem.W.keepIn K (.ref f18) = true)
    (a19 : PySem.W.nsIn K mainGlobals "law" = some (some (.ref f19))) (l19 : K.lookup f19 = some ⟨oc19, od19, .func (PySem.W.fnOf "law" "law" (defArgs s_law) (defBody s_law) (defScope s_law) .none kV19 dc19 pm19 an19 cd19 ct19), sl19⟩) (c19 : PySem.W.codeIn K cd19 "law" = true) (k19 : PySem.W.keepIn K (.ref f19) = true)
    (z_isinstance : PySem.W.nsIn K mainGlobals "isinstance" = some none) (z_int : PySem.W.nsIn K mainGlobals "int" = some none) (z_bool : PySem.W.nsIn K mainGlobals "bool" = some none) (z_tuple : PySem.W.nsIn K mainGlobals "tuple" = some none) (z_len : PySem.W.nsIn K mainGlobals "len" = some none) (z_abs : PySem.W.nsIn K mainGlobals "abs" = some none) :
    ∃ fd : FuncData, (∀ (s : Shared) (v : Value), BindsTo s fd ⟨[v], []⟩ [("_law_script", v)]) ∧ ∀ base : Heap, K.In base → base.Ns mainGlobals mg → FnOk l.prog w K mg base CX0 5 fa fd ["_law_script"] (spLaw K) := by
  have e := hfa.symm.trans (PySem.W.mg_of X G a19)
  cases e
  have m_isinstance := PySem.W.mg_none_of X G z_isinstance
  have m_int := PySem.W.mg_none_of X G z_int
  have m_bool := PySem.W.mg_none_of X G z_bool
  have m_tuple := PySem.W.mg_none_of X G z_tuple
  have m_len := PySem.W.mg_none_of X G z_len
  have m_abs := PySem.W.mg_none_of X G z_abs
  have F0 := fun_mk (st := s_is_whole) l0 c0 k0
  have b0 := F0.binds (ps := ["thing"]) fun _ _ _ _ _ _ us hl => match us, hl with | [_], _ => rfl
  have F1 := fun_mk (st := s_common_divisor) l1 c1 k1
  have b1 := F1.binds (ps := ["number", "above_nought"]) fun _ _ _ _ _ _ us hl => match us, hl with | [_, _], _ => rfl
  have F2 := fun_mk (st := s_is_fraction) l2 c2 k2
  have b2 := F2.binds (ps := ["thing"]) fun _ _ _ _ _ _ us hl => match us, hl with | [_], _ => rfl
  have F3 := fun_mk (st := s_plus) l3 c3 k3
  have b3 := F3.binds (ps := ["one", "other"]) fun _ _ _ _ _ _ us hl => match us, hl with | [_, _], _ => rfl
  have F4 := fun_mk (st := s_minus) l4 c4 k4
  have b4 := F4.binds (ps := ["one", "other"]) fun _ _ _ _ _ _ us hl => match us, hl with | [_, _], _ => rfl
  have F5 := fun_mk (st := s_summed) l5 c5 k5
  have b5 := F5.binds (ps := ["one", "top", "bottom"]) fun _ _ _ _ _ _ us hl => match us, hl with | [_, _, _], _ => rfl
  have F6 := fun_mk (st := s_times) l6 c6 k6
  have b6 := F6.binds (ps := ["one", "other"]) fun _ _ _ _ _ _ us hl => match us, hl with | [_, _], _ => rfl
  have F7 := fun_mk (st := s_less) l7 c7 k7
  have b7 := F7.binds (ps := ["one", "other"]) fun _ _ _ _ _ _ us hl => match us, hl with | [_, _], _ => rfl
  have F8 := fun_mk (st := s_floor_of) l8 c8 k8
  have b8 := F8.binds (ps := ["one"]) fun _ _ _ _ _ _ us hl => match us, hl with | [_], _ => rfl
  have F9 := fun_mk (st := s__law_cell_at) l9 c9 k9
  have b9 := F9.binds (ps := ["_law_script", "_law_k"]) fun _ _ _ _ _ _ us hl => match us, hl with | [_, _], _ => rfl
  have F10 := fun_mk (st := s__law_number) l10 c10 k10
  have b10 := F10.binds (ps := ["_law_cell"]) fun _ _ _ _ _ _ us hl => match us, hl with | [_], _ => rfl
  have F11 := fun_mk (st := s__law_whole) l11 c11 k11
  have b11 := F11.binds (ps := ["_law_found"]) fun _ _ _ _ _ _ us hl => match us, hl with | [_], _ => rfl
  have F12 := fun_mk (st := s__law_common) l12 c12 k12
  have b12 := F12.binds (ps := ["_law_one", "_law_other"]) fun _ _ _ _ _ _ us hl => match us, hl with | [_, _], _ => rfl
  have F13 := fun_mk (st := s__law_lowest) l13 c13 k13
  have b13 := F13.binds (ps := ["_law_top", "_law_bottom"]) fun _ _ _ _ _ _ us hl => match us, hl with | [_, _], _ => rfl
  have F14 := fun_mk (st := s__law_part) l14 c14 k14
  have b14 := F14.binds (ps := ["_law_script", "_law_k"]) fun _ _ _ _ _ _ us hl => match us, hl with | [_, _], _ => rfl
  have F15 := fun_mk (st := s__law_right) l15 c15 k15
  have b15 := F15.binds (ps := ["_law_found", "_law_top", "_law_bottom"]) fun _ _ _ _ _ _ us hl => match us, hl with | [_, _, _], _ => rfl
  have F16 := fun_mk (st := s__law_says) l16 c16 k16
  have b16 := F16.binds (ps := ["_law_found", "_law_due"]) fun _ _ _ _ _ _ us hl => match us, hl with | [_, _], _ => rfl
  have F17 := fun_mk (st := s__law_two) l17 c17 k17
  have b17 := F17.binds (ps := ["_law_one", "_law_other"]) fun _ _ _ _ _ _ us hl => match us, hl with | [_, _], _ => rfl
  have F18 := fun_mk (st := s__law_floor) l18 c18 k18
  have b18 := F18.binds (ps := ["_law_one"]) fun _ _ _ _ _ _ us hl => match us, hl with | [_], _ => rfl
  have F19 := fun_mk (st := s_law) l19 c19 k19
  refine ⟨PySem.W.fnOf "law" "law" (defArgs s_law) (defBody s_law) (defScope s_law) .none kV19 dc19 pm19 an19 cd19 ct19, fun s v => .of_eq rfl, fun base _ _ => ?_⟩
  have his_whole : Has l.prog w K mg base 1 "is_whole" ["thing"] (fn S_is_whole) := ⟨⟨_, _, ok_is_whole F0   m_isinstance m_int m_bool, PySem.W.mg_of X G a0, k0, b0⟩⟩
  have hcommon_divisor : Has l.prog w K mg base 1 "common_divisor" ["number", "above_nought"] (fn S_common_divisor) := ⟨⟨_, _, ok_common_divisor F1   , PySem.W.mg_of X G a1, k1, b1⟩⟩
  have hless : Has l.prog w K mg base 1 "less" ["one", "other"] (fn S_less) := ⟨⟨_, _, ok_less F7   , PySem.W.mg_of X G a7, k7, b7⟩⟩
  have hfloor_of : Has l.prog w K mg base 1 "floor_of" ["one"] (fn S_floor_of) := ⟨⟨_, _, ok_floor_of F8   , PySem.W.mg_of X G a8, k8, b8⟩⟩
  have hLcell_at : Has l.prog w K mg base 1 "_law_cell_at" ["_law_script", "_law_k"] (fn S__law_cell_at) := ⟨⟨_, _, ok__law_cell_at F9   m_len, PySem.W.mg_of X G a9, k9, b9⟩⟩
  have hLnumber : Has l.prog w K mg base 1 "_law_number" ["_law_cell"] (fn S__law_number) := ⟨⟨_, _, ok__law_number F10   , PySem.W.mg_of X G a10, k10, b10⟩⟩
  have hLwhole : Has l.prog w K mg base 1 "_law_whole" ["_law_found"] (fn S__law_whole) := ⟨⟨_, _, ok__law_whole F11   m_isinstance m_int m_bool, PySem.W.mg_of X G a11, k11, b11⟩⟩
  have hLcommon : Has l.prog w K mg base 1 "_law_common" ["_law_one", "_law_other"] (fn S__law_common) := ⟨⟨_, _, ok__law_common F12   , PySem.W.mg_of X G a12, k12, b12⟩⟩
  have hLsays : Has l.prog w K mg base 1 "_law_says" ["_law_found", "_law_due"] (fn S__law_says) := ⟨⟨_, _, ok__law_says F16   m_isinstance m_bool, PySem.W.mg_of X G a16, k16, b16⟩⟩
  have his_fraction : Has l.prog w K mg base 2 "is_fraction" ["thing"] (fn S_is_fraction) := ⟨⟨_, _, ok_is_fraction F2 his_whole hcommon_divisor  m_isinstance m_tuple m_len, PySem.W.mg_of X G a2, k2, b2⟩⟩
  have hsummed : Has l.prog w K mg base 2 "summed" ["one", "top", "bottom"] (fn S_summed) := ⟨⟨_, _, ok_summed F5 hcommon_divisor  , PySem.W.mg_of X G a5, k5, b5⟩⟩
  have htimes : Has l.prog w K mg base 2 "times" ["one", "other"] (fn S_times) := ⟨⟨_, _, ok_times F6 hcommon_divisor  , PySem.W.mg_of X G a6, k6, b6⟩⟩
  have hLlowest : Has l.prog w K mg base 2 "_law_lowest" ["_law_top", "_law_bottom"] (fn S__law_lowest) := ⟨⟨_, _, ok__law_lowest F13 hLcommon  m_abs, PySem.W.mg_of X G a13, k13, b13⟩⟩
  have hLfloor : Has l.prog w K mg base 2 "_law_floor" ["_law_one"] (fn S__law_floor) := ⟨⟨_, _, ok__law_floor F18 hfloor_of hLwhole  , PySem.W.mg_of X G a18, k18, b18⟩⟩
  have hplus : Has l.prog w K mg base 3 "plus" ["one", "other"] (fn S_plus) := ⟨⟨_, _, ok_plus F3 hsummed  , PySem.W.mg_of X G a3, k3, b3⟩⟩
  have hminus : Has l.prog w K mg base 3 "minus" ["one", "other"] (fn S_minus) := ⟨⟨_, _, ok_minus F4 hsummed  , PySem.W.mg_of X G a4, k4, b4⟩⟩
  have hLpart : Has l.prog w K mg base 3 "_law_part" ["_law_script", "_law_k"] (fn S__law_part) := ⟨⟨_, _, ok__law_part F14 hLnumber hLlowest hLcell_at  m_int, PySem.W.mg_of X G a14, k14, b14⟩⟩
  have hLright : Has l.prog w K mg base 3 "_law_right" ["_law_found", "_law_top", "_law_bottom"] (fn S__law_right) := ⟨⟨_, _, ok__law_right F15 his_fraction hLwhole hLlowest  m_isinstance m_tuple m_len, PySem.W.mg_of X G a15, k15, b15⟩⟩
  have hLtwo : Has l.prog w K mg base 4 "_law_two" ["_law_one", "_law_other"] (fn S__law_two) := ⟨⟨_, _, ok__law_two F17 hLright hplus hminus hLsays htimes hless  , PySem.W.mg_of X G a17, k17, b17⟩⟩
  exact ok_law F19 hLcell_at hLpart hplus htimes hLtwo hLfloor  
theorem walk {l : PySem.W.OpenLaw} {q : Program} {loose : List Str} {XP : (Str → Option Value) → Heap → Prop} {YP : World → Heap → Prop} {d : DefRec} {K : Params → PySem.W.Frag} (hn : l.most = some 63) (hdf : d.params.defaults = [])
    (hY : ∀ (w : World) (h : Heap), YP w h → (K w.params).In h)
    (F : ∀ (w : World) (mg : Str → Option Value) (fa : Addr) (h : Heap), (K w.params).In h → h.Ns mainGlobals mg → mg d.name = some (.ref fa) →
      ∃ fd : FuncData, (∀ (s : Shared) (u : Value), BindsTo s fd ⟨[u], []⟩ [("_law_script", u)]) ∧ ∀ base : Heap, (K w.params).In base → base.Ns mainGlobals mg → FnOk l.prog w (K w.params) mg base CX0 5 fa fd ["_law_script"] (spLaw (K w.params))) :
    PySem.W.WalkO q loose XP YP l.row.toRowW d [] (fun f vs => PySem.call f vs) :=
  L2.walk_of (n := 63) (k := 5) (x := "_law_script") (CX := fun _ => CX0) (sp := fun w => spLaw (K w.params)) hn (by decide) hdf ⟨rfl, by decide, by decide⟩ hY F (fun _ _ a ns hl _ hS => ⟨a, ns, rfl, hS, hl, fun _ => rfl⟩) fun _ _ _ _ _ z => z
end
end Mine
open PySem PySem.W PyProof.Rows
set_option maxRecDepth 100000 in
set_option maxHeartbeats 0 in
theorem PySem.Challenge.cw_watchyard_k12_fractions_reckoned_holds : PySem.Challenge.rw_watchyard_k12_fractions_reckoned.Holds := by
  w_on; o_law; k_head; (case hw => w_witness2)
  k_fill
  refine Mine.walk (l := PySem.Challenge.rw_watchyard_k12_fractions_reckoned) rfl rfl (fun w h Y => PySem.W.kIn_of Y) ?F
  case F =>
    intro w mg fa h KX G hmg
    refine' Mine.all_mk KX G hmg ?a0 ?l0 ?c0 ?k0 ?a1 ?l1 ?c1 ?k1 ?a2 ?l2 ?c2 ?k2 ?a3 ?l3 ?c3 ?k3 ?a4 ?l4 ?c4 ?k4 ?a5 ?l5 ?c5 ?k5 ?a6 ?l6 ?c6 ?k6 ?a7 ?l7 ?c7 ?k7 ?a8 ?l8 ?c8 ?k8 ?a9 ?l9 ?c9 ?k9 ?a10 ?l10 ?c10 ?k10 ?a11 ?l11 ?c11 ?k11 ?a12 ?l12 ?c12 ?k12 ?a13 ?l13 ?c13 ?k13 ?a14 ?l14 ?c14 ?k14 ?a15 ?l15 ?c15 ?k15 ?a16 ?l16 ?c16 ?k16 ?a17 ?l17 ?c17 ?k17 ?a18 ?l18 ?c18 ?k18 ?a19 ?l19 ?c19 ?k19 ?z_isinstance ?z_int ?z_bool ?z_tuple ?z_len ?z_abs
    (case a0 => k_is)
    (case l0 => k_is)
    (case c0 => k_is)
    (case k0 => k_is)
    (case a1 => k_is)
    (case l1 => k_is)
    (case c1 => k_is)
    (case k1 => k_is)
    (case a2 => k_is)
    (case l2 => k_is)
    (case c2 => k_is)
    (case k2 => k_is)
    (case a3 => k_is)
    (case l3 => k_is)
    (case c3 => k_is)
    (case k3 => k_is)
    (case a4 => k_is)
    (case l4 => k_is)
    (case c4 => k_is)
    (case k4 => k_is)
    (case a5 => k_is)
    (case l5 => k_is)
    (case c5 => k_is)
    (case k5 => k_is)
    (case a6 => k_is)
    (case l6 => k_is)
    (case c6 => k_is)
    (case k6 => k_is)
    (case a7 => k_is)
    (case l7 => k_is)
    (case c7 => k_is)
    (case k7 => k_is)
    (case a8 => k_is)
    (case l8 => k_is)
    (case c8 => k_is)
    (case k8 => k_is)
    (case a9 => k_is)
    (case l9 => k_is)
    (case c9 => k_is)
    (case k9 => k_is)
    (case a10 => k_is)
    (case l10 => k_is)
    (case c10 => k_is)
    (case k10 => k_is)
    (case a11 => k_is)
    (case l11 => k_is)
    (case c11 => k_is)
    (case k11 => k_is)
    (case a12 => k_is)
    (case l12 => k_is)
    (case c12 => k_is)
    (case k12 => k_is)
    (case a13 => k_is)
    (case l13 => k_is)
    (case c13 => k_is)
    (case k13 => k_is)
    (case a14 => k_is)
    (case l14 => k_is)
    (case c14 => k_is)
    (case k14 => k_is)
    (case a15 => k_is)
    (case l15 => k_is)
    (case c15 => k_is)
    (case k15 => k_is)
    (case a16 => k_is)
    (case l16 => k_is)
    (case c16 => k_is)
    (case k16 => k_is)
    (case a17 => k_is)
    (case l17 => k_is)
    (case c17 => k_is)
    (case k17 => k_is)
    (case a18 => k_is)
    (case l18 => k_is)
    (case c18 => k_is)
    (case k18 => k_is)
    (case a19 => k_is)
    (case l19 => k_is)
    (case c19 => k_is)
    (case k19 => k_is)
    (case z_isinstance => k_is)
    (case z_int => k_is)
    (case z_bool => k_is)
    (case z_tuple => k_is)
    (case z_len => k_is)
    (case z_abs => k_is)
