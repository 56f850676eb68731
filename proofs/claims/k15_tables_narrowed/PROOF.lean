import PyProof.Rows.All
import Wide.All
import OpenK.AllK
import Wide.FinOn
import Lean
import PyProof.EqAt
import PyProof.EqKinds
import PyProof.TupleCall
import PyProof.NeKinds
import KE.IntBitsLaws
import KE.LcSums
import PyProof.ConsumeWalk
import PySem.Challenge.RW_watchyard_k15_tables_narrowed

set_option Elab.async false
set_option linter.all false
set_option maxRecDepth 100000
/-! THE HAND LAYER, for ints, bools, texts, own classes, LISTS and tuples (index, slices, in, append, pop ..), calls, loops. Paste it whole ahead of your own text; what your proof does not reach may be deleted. -/
namespace L2
open PySem PySem.Spec PyProof.Rows

/-- a key: an int or a str -/
abbrev Key := Sum Int Str
def keyIs : Key → Value → Bool
  | .inl k, v => Value.isInt k v
  | .inr x, v => Value.isStrOf x v
def keyH (w : World) : Key → Int
  | .inl k => hashInt k
  | .inr x => hashStr w x
theorem keyIs_shape : ∀ {k : Key} {v : Value}, keyIs k v = true → (∃ i t, k = Sum.inl i ∧ v = Value.int i t) ∨ (∃ x t, k = Sum.inr x ∧ v = Value.str x t)
  | .inl i, v, h => by
    obtain ⟨t, e⟩ := Value.isInt_shape (k := i) (v := v) h
    exact .inl ⟨i, t, rfl, e⟩
  | .inr x, v, h => by
    obtain ⟨t, e⟩ := Value.isStrOf_shape (x := x) (v := v) h
    exact .inr ⟨x, t, rfl, e⟩
theorem key_ll (a b : Int) : decide ((Sum.inl a : Key) = Sum.inl b) = (a == b) := by
  by_cases e : a = b
  · subst e; simp
  · have h : ¬ (Sum.inl a : Key) = Sum.inl b := fun q => e (Sum.inl.inj q)
    rw [decide_eq_false h]
    exact (beq_eq_false_iff_ne.mpr e).symm
theorem key_rr (a b : Str) : decide ((Sum.inr a : Key) = Sum.inr b) = decide (a = b) := by
  by_cases e : a = b
  · subst e; simp
  · have h : ¬ (Sum.inr a : Key) = Sum.inr b := fun q => e (Sum.inr.inj q)
    rw [decide_eq_false h, decide_eq_false e]
theorem key_lr (a : Int) (b : Str) : decide ((Sum.inl a : Key) = Sum.inr b) = false := decide_eq_false (fun q => nomatch q)
theorem key_rl (a : Str) (b : Int) : decide ((Sum.inr a : Key) = Sum.inl b) = false := decide_eq_false (fun q => nomatch q)

def mixKind (prog : Program) (w : World) : PySem.KeyKind prog w Key where
  is := keyIs
  hash := keyH w
  inj := fun v a b ha hb => by
    rcases keyIs_shape ha with ⟨i, t, rfl, rfl⟩ | ⟨x, t, rfl, rfl⟩
    · rcases keyIs_shape hb with ⟨j, u, rfl, e⟩ | ⟨y, u, rfl, e⟩
      · injection e with e1 _; rw [e1]
      · exact nomatch e
    · rcases keyIs_shape hb with ⟨j, u, rfl, e⟩ | ⟨y, u, rfl, e⟩
      · exact nomatch e
      · injection e with e1 _; rw [e1]
  byValue := fun k v h => by
    rcases keyIs_shape h with ⟨i, t, rfl, rfl⟩ | ⟨x, t, rfl, rfl⟩ <;> rfl
  pyHash := fun hv h => by
    rcases keyIs_shape hv with ⟨i, t, rfl, rfl⟩ | ⟨x, t, rfl, rfl⟩
    · exact wpAny_pyHash_int h
    · exact wpAny_pyHash_str h
  eqBool := fun hu hv h => by
    rcases keyIs_shape hu with ⟨i, t, rfl, rfl⟩ | ⟨x, t, rfl, rfl⟩
    · rcases keyIs_shape hv with ⟨j, u, rfl, rfl⟩ | ⟨y, u, rfl, rfl⟩
      · rw [key_ll] at h; exact wpAny_eqBool_int h
      · rw [key_lr] at h; exact SeqAt.EqAt.int_str i t y u _ _ _ _ h
    · rcases keyIs_shape hv with ⟨j, u, rfl, rfl⟩ | ⟨y, u, rfl, rfl⟩
      · rw [key_rl] at h; exact SeqAt.EqAt.str_int x t j u _ _ _ _ h
      · rw [key_rr] at h; exact wpAny_eqBool_str h
  «strs» := fun k x t v h => by
    rcases keyIs_shape h with ⟨i, u, rfl, e⟩ | ⟨y, u, rfl, e⟩
    · exact nomatch e
    · injection e with e1 _
      subst e1
      cases v <;> rfl

end L2

namespace L2
open PySem PySem.Spec PyProof.Rows

/-- a value, without the heap -/
inductive V where
  | non | bl (b : Bool) | int (i : Int) | str (x : Str) | byt (b : Array UInt8) | flt (b : UInt64) | ref (a : Addr) | ty (n : String)
  deriving DecidableEq

def RelV : V → Value → Prop
  | .non, u => u = Value.none
  | .bl b, u => u = Value.bool b
  | .int i, u => ∃ t, u = Value.int i t
  | .str x, u => ∃ t, u = Value.str x t
  | .byt b, u => ∃ t, u = Value.bytes b t
  | .flt b, u => ∃ t, u = Value.float b t
  | .ref a, u => u = Value.ref a
  | .ty n, u => u = Value.type n

abbrev Vals : List V → List Value → Prop := Paired RelV
theorem Vals.length {xs : List V} {us : List Value} (r : Vals xs us) : xs.length = us.length := Paired.length r
theorem Vals.get : ∀ {xs : List V} {us : List Value} {i : Nat} {x : V}, Vals xs us → xs[i]? = some x → ∃ u, us[i]? = some u ∧ RelV x u
  | _, _, _, _, .nil, e => by simp at e
  | _, _, 0, _, .cons r _, e => by simp at e; subst e; exact ⟨_, rfl, r⟩
  | _, _, i + 1, x, .cons _ t, e => by
    obtain ⟨u, h1, h2⟩ := Vals.get (i := i) (x := x) t (by simpa using e)
    exact ⟨u, by simpa using h1, h2⟩
theorem Vals.set {x : V} {u : Value} (r : RelV x u) : ∀ {xs : List V} {us : List Value} (i : Nat), Vals xs us → Vals (xs.set i x) (us.set i u)
  | _, _, _, .nil => .nil
  | _, _, 0, .cons _ t => .cons r t
  | _, _, i + 1, .cons q t => .cons q (Vals.set r i t)
theorem Vals.append : ∀ {xs ys : List V} {us ws : List Value}, Vals xs us → Vals ys ws → Vals (xs ++ ys) (us ++ ws)
  | _, _, _, _, .nil, s => s
  | _, _, _, _, .cons r t, s => .cons r (Vals.append t s)
theorem Vals.take : ∀ {xs : List V} {us : List Value} (n : Nat), Vals xs us → Vals (xs.take n) (us.take n)
  | _, _, 0, _ => .nil
  | _, _, _ + 1, .nil => .nil
  | _, _, n + 1, .cons r t => .cons r (Vals.take n t)
theorem Vals.drop : ∀ {xs : List V} {us : List Value} (n : Nat), Vals xs us → Vals (xs.drop n) (us.drop n)
  | _, _, 0, r => r
  | _, _, _ + 1, .nil => .nil
  | _, _, n + 1, .cons _ t => Vals.drop n t
theorem Vals.none_of : ∀ {xs : List V} {us : List Value} {i : Nat}, Vals xs us → xs[i]? = none → us[i]? = none := fun {xs us i} r e => by
  have h1 := r.length
  have h2 : xs.length ≤ i := List.getElem?_eq_none_iff.mp e
  exact List.getElem?_eq_none_iff.mpr (by omega)

def RelO : Option V → Option Value → Prop
  | some v, some u => RelV v u
  | none, none => True
  | _, _ => False
def KV {κ : Type} : List (κ × V) → List (κ × Value) → Prop := Paired fun (p : κ × V) (q : κ × Value) => p.1 = q.1 ∧ RelV p.2 q.2

/-- a key of a dict (00_mix): an int or a text -/
def kV : Key → V
  | .inl i => .int i
  | .inr x => .str x

/-- what stands at a tracked address -/
inductive HO where
  /-- a list -/
  | lst (xs : List V)
  /-- a tuple (never changes) -/
  | tup (xs : List V)
  /-- a dict whose keys are ints and texts; one whose keys are tuples of ints and texts (the empty one is both) -/
  | dK (kvs : List (Key × V)) | dT (kvs : List (List Key × V))
  /-- a set of ints: its members, its size -/
  | set (S : Int → Bool) (n : Nat)
  /-- an instance of the class at C, its dict at dx, its attributes -/
  | ins (C dx : Addr) (fs : List (Str × V))
  /-- the dict of the instance at x -/
  | own (x : Addr)
  /-- the dict of an exception -/
  | xd (fs : List (Str × V))
  /-- a bound method, f of x -/
  | met (f x : Addr)
  /-- a range object lo, lo + 1, .. below hi -/
  | rng (lo hi : Int)
  /-- a thing that is known to the object (the script; a dict while a loop walks it): read, never written while it is so -/
  | frz (o : Obj) (u : HO)
  /-- a code object's table -/
  | tbl (ps : Array Value)
  /-- any other thing, by what is true of its one object (a def of one's own: SetO a S n := HO.ext fun h => ..) -/
  | ext (φ : Heap → Prop)

abbrev Hp := Addr → Option HO
def upd (H : Hp) (a : Addr) (o : HO) : Hp := fun b => if b = a then some o else H b
theorem upd_same {H : Hp} {a : Addr} {o : HO} : upd H a o a = some o := by unfold upd; rw [if_pos rfl]
theorem upd_ne {H : Hp} {a b : Addr} {o : HO} (h : b ≠ a) : upd H a o b = H b := by unfold upd; rw [if_neg h]
theorem upd_upd {H : Hp} {a : Addr} {o u : HO} : upd (upd H a o) a u = upd H a u := by
  funext b; unfold upd; split <;> rfl
theorem ne_of_none {H : Hp} {a b : Addr} {o : HO} (h : H a = some o) (h' : H b = none) : a ≠ b := by
  intro e; subst e; rw [h] at h'; cases h'

section
variable (P : Program) (w : World)
def ObjOk (H : Hp) (h : Heap) (a : Addr) : HO → Prop
  | .lst xs => xs.length ≤ sizeLine ∧ ∃ (its : List Value) (n : Nat), Vals xs its ∧ h.get? a = some { cls := .type "list", data := .seq its.toArray n }
  | .tup xs => xs.length ≤ sizeLine ∧ ∃ its : List Value, Vals xs its ∧ IsTup h a its.toArray
  | .dK kvs => kvs.length ≤ sizeLine ∧ (a == sysModules) = false ∧ ∃ vs, KV kvs vs ∧ h.DictOf (mixKind P w) a vs
  | .dT kvs => kvs.length ≤ sizeLine ∧ (a == sysModules) = false ∧ ∃ xs : List (List Key × Addr × Value),
      Paired (fun (p : List Key × V) (q : List Key × Addr × Value) => p.1 = q.1 ∧ H q.2.1 = some (.tup (p.1.map kV)) ∧ RelV p.2 q.2.2) kvs xs ∧
      ∃ o es ep, h.get? a = some o ∧ o.ExactDict ∧ o.data = .dict es ep ∧ es.toList = xs.map (entryOfKey (tupleKind (mixKind P w))) ∧ (xs.map (·.1)).Nodup
  | .set S n => h.SetOf (intKind P w) a S n
  | .ins C dx fs => H dx = some (.own a) ∧ fs.length ≤ 1000 ∧ dx ≠ a ∧ h.get? a = some (PySem.W.instObj C dx) ∧
      ∃ mA, h.Ns1 dx mA ∧ (∀ f, RelO (fs.lookup f) (mA f)) ∧ PySem.Within mA (fs.map (·.1))
  | .own _ => ∃ o, h.get? a = some o
  | .xd fs => ∃ mA, h.Ns1 a mA ∧ ∀ f, RelO (fs.lookup f) (mA f)
  | .rng lo hi => ∃ t u v, h.get? a = some { cls := .type "range", data := .fields #[.int lo t, .int hi u, .int 1 v] }
  | .frz o u => h.get? a = some o ∧ ObjOk H h a u
  | .tbl ps => h.get? a = some { cls := .none, data := .fields ps }
  | .met f x => h.get? a = some (PySem.W.methodObj (.ref f) (.ref x))
  | .ext φ => φ h ∧ (∃ o, h.get? a = some o) ∧ ∀ h1 h2 : Heap, φ h1 → (∀ o, h1.get? a = some o → h2.get? a = some o) → φ h2
/-- the abstract heap is held -/
def HOk (H : Hp) (h : Heap) : Prop := ∀ a o, H a = some o → ObjOk P w H h a o
end

section
variable {P : Program} {w : World} {H H' : Hp} {h h' : Heap} {a : Addr} {o : HO}
theorem ObjOk.lt (x : ObjOk P w H h a o) : a < h.objs.size := by
  cases o with
  | lst xs => obtain ⟨_, _, _, _, e⟩ := x; exact Heap.lt_size e
  | tup xs => obtain ⟨_, _, _, p⟩ := x; exact p.lt
  | dK kvs => obtain ⟨_, _, _, _, o, _, _, e, _⟩ := x; exact Heap.lt_size e
  | dT kvs => obtain ⟨_, _, _, _, o, _, _, e, _⟩ := x; exact Heap.lt_size e
  | set S n => obtain ⟨o, _, _, _, e, _⟩ := x; exact Heap.lt_size e
  | ins C dx fs => obtain ⟨_, _, _, e, _⟩ := x; exact Heap.lt_size e
  | own y => obtain ⟨_, e⟩ := x; exact Heap.lt_size e
  | xd fs => obtain ⟨_, ⟨_, _, _, e, _⟩, _⟩ := x; exact Heap.lt_size e
  | rng lo hi => obtain ⟨_, _, _, e⟩ := x; exact Heap.lt_size e
  | frz ob u => obtain ⟨e, _⟩ := x; exact Heap.lt_size e
  | tbl ps => exact Heap.lt_size (show h.get? a = some _ from x)
  | met f y => exact Heap.lt_size (show h.get? a = some _ from x)
  | ext φ => obtain ⟨_, ⟨_, e⟩, _⟩ := x; exact Heap.lt_size e
theorem Paired.mapP {α β : Type} {F G : α → β → Prop} : ∀ {l₁ : List α} {l₂ : List β}, Paired F l₁ l₂ → (∀ a b, F a b → G a b) → Paired G l₁ l₂
  | _, _, .nil, _ => .nil
  | _, _, .cons r t, f => .cons (f _ _ r) (Paired.mapP t f)
/-- what an object's description leans on: its own object, its own dict, the tuples -/
theorem ObjOk.stay (x : ObjOk P w H h a o) (k : ∀ b u, (b = a ∨ H b = some (.own a)) → h.get? b = some u → h'.get? b = some u)
    (ho : ∀ b, H b = some (.own a) → H' b = some (.own a)) (ht : ∀ b xs, H b = some (.tup xs) → H' b = some (.tup xs)) : ObjOk P w H' h' a o := by
  induction o with
  | lst xs => obtain ⟨z, its, n, r, e⟩ := x; exact ⟨z, its, n, r, k _ _ (.inl rfl) e⟩
  | tup xs => obtain ⟨z, its, r, ob, e, c⟩ := x; exact ⟨z, its, r, ob, k _ _ (.inl rfl) e, c⟩
  | dK kvs => obtain ⟨z, y, vs, r, ob, es, ep, e, c⟩ := x; exact ⟨z, y, vs, r, ob, es, ep, k _ _ (.inl rfl) e, c⟩
  | dT kvs =>
    obtain ⟨z, y, xs, r, ob, es, ep, e, c⟩ := x
    exact ⟨z, y, xs, Paired.mapP r fun p q z => ⟨z.1, ht _ _ z.2.1, z.2.2⟩, ob, es, ep, k _ _ (.inl rfl) e, c⟩
  | set S n => obtain ⟨ob, es, ep, t, e, c⟩ := x; exact ⟨ob, es, ep, t, k _ _ (.inl rfl) e, c⟩
  | ins C dx fs =>
    obtain ⟨d, z, ne, e, mA, ⟨od, es, ep, e2, c⟩, r⟩ := x
    exact ⟨ho _ d, z, ne, k _ _ (.inl rfl) e, mA, ⟨od, es, ep, k _ _ (.inr d) e2, c⟩, r⟩
  | own y => obtain ⟨ob, e⟩ := x; exact ⟨ob, k _ _ (.inl rfl) e⟩
  | xd fs => obtain ⟨mA, ⟨od, es, ep, e, c⟩, r⟩ := x; exact ⟨mA, ⟨od, es, ep, k _ _ (.inl rfl) e, c⟩, r⟩
  | rng lo hi => obtain ⟨t, u, v, e⟩ := x; exact ⟨t, u, v, k _ _ (.inl rfl) e⟩
  | frz ob u ih => obtain ⟨e, q⟩ := x; exact ⟨k _ _ (.inl rfl) e, ih q⟩
  | tbl ps =>
    have e : h.get? a = some { cls := .none, data := .fields ps } := x
    show h'.get? a = some { cls := .none, data := .fields ps }
    exact k a _ (.inl rfl) e
  | met f y =>
    have e : h.get? a = some (PySem.W.methodObj (.ref f) (.ref y)) := x
    show h'.get? a = some (PySem.W.methodObj (.ref f) (.ref y))
    exact k a _ (.inl rfl) e
  | ext φ => obtain ⟨p, ⟨o, e⟩, st⟩ := x; exact ⟨st _ _ p fun o q => k _ _ (.inl rfl) q, ⟨o, k _ _ (.inl rfl) e⟩, st⟩
theorem HOk.lt (x : HOk P w H h) (e : H a = some o) : a < h.objs.size := (x a o e).lt
theorem HOk.fresh (x : HOk P w H h) (e : h.objs.size ≤ a) : H a = none := by
  cases q : H a with
  | none => rfl
  | some u => exact absurd (Nat.lt_of_lt_of_le (x.lt q) e) (Nat.lt_irrefl _)
/-- every object of the heap is kept -/
theorem HOk.kept (x : HOk P w H h) (k : ∀ b u, h.get? b = some u → h'.get? b = some u) : HOk P w H h' := fun a o e =>
  (x a o e).stay (fun b u _ q => k b u q) (fun _ q => q) fun _ _ q => q
/-- a new object is laid and tracked -/
theorem HOk.laid (x : HOk P w H h) (k : ∀ b u, h.get? b = some u → h'.get? b = some u) (hp : h.objs.size ≤ a) (new : ObjOk P w (upd H a o) h' a o) : HOk P w (upd H a o) h' := fun b u e => by
  have hn := x.fresh hp
  by_cases hb : b = a
  · subst hb; rw [upd_same] at e; cases e; exact new
  · rw [upd_ne hb] at e
    exact (x b u e).stay (fun c v _ q => k c v q) (fun c q => by rw [upd_ne (ne_of_none q hn)]; exact q) fun c xs q => by rw [upd_ne (ne_of_none q hn)]; exact q
end

/-- what may be read as u: it is u, or a known u -/
def Rd (H : Hp) (a : Addr) (u : HO) : Prop := H a = some u ∨ ∃ o, H a = some (.frz o u)
theorem Rd.of {H : Hp} {a : Addr} {u : HO} (h : H a = some u) : Rd H a u := .inl h
theorem Rd.ok {P : Program} {w : World} {H : Hp} {h : Heap} {a : Addr} {u : HO} (r : Rd H a u) (x : HOk P w H h) : ObjOk P w H h a u := by
  rcases r with r | ⟨o, r⟩
  · exact x a u r
  · obtain ⟨_, q⟩ := x a _ r
    exact q
/-- what may be written -/
def Mut : Option HO → Prop
  | some (.lst _) => True
  | some (.dK _) => True
  | some (.dT _) => True
  | some (.set _ _) => True
  | some (.ins _ _ _) => True
  | some (.ext _) => True
  | _ => False
section
variable {P : Program} {w : World} {H : Hp} {h h' : Heap} {x e : Addr} {o' : HO}
/-- the object at e is changed: x itself, or the dict of the instance x -/
theorem HOk.write (ok : HOk P w H h) (mu : Mut (H x)) (he : e = x ∨ H e = some (.own x)) (k : ∀ b u, b ≠ e → h.get? b = some u → h'.get? b = some u) (heo : ∃ u, h'.get? e = some u)
    (new : ObjOk P w (upd H x o') h' x o') : HOk P w (upd H x o') h' := fun b u q => by
  have nown : ∀ c y, H c = some (.own y) → c ≠ x := fun c y r z => by subst z; rw [r] at mu; exact mu
  have ntup : ∀ c xs, H c = some (.tup xs) → c ≠ x := fun c xs r z => by subst z; rw [r] at mu; exact mu
  by_cases hb : b = x
  · subst hb; rw [upd_same] at q; cases q; exact new
  · rw [upd_ne hb] at q
    by_cases hbe : b = e
    · have q' : H b = some (.own x) := by
        rcases he with z | z
        · exact absurd (hbe.trans z) hb
        · rw [hbe]; exact z
      rw [q] at q'; cases q'
      obtain ⟨v, hv⟩ := heo
      exact ⟨v, by rw [hbe]; exact hv⟩
    · refine (ok b u q).stay (fun c v hc r => k c v ?_ r) (fun c r => by rw [upd_ne (nown c b r)]; exact r) fun c xs r => by rw [upd_ne (ntup c xs r)]; exact r
      rcases hc with rfl | hc
      · exact hbe
      · rintro rfl
        rcases he with z | z
        · exact nown c b hc z
        · rw [hc] at z; cases z; exact hb rfl
end

/-! ### kept unless tracked; of the frames at fs (the callers') the slots may change (an exception that passes writes there); of the records at ex (iterators) nothing is said -/
structure Un (fs ex : List Addr) (H H' : Hp) (h h' : Heap) : Prop where
  keep : ∀ b o, h.get? b = some o → H b = none → b ∉ fs → b ∉ ex → h'.get? b = some o
  slot : ∀ b o, h.get? b = some o → H b = none → b ∈ fs → b ∉ ex → ∃ sl, h'.get? b = some { o with slots := sl }
  free : ∀ b o, h.get? b = some o → H b = none → b ∉ ex → H' b = none
  there : ∀ b o, h.get? b = some o → b ∉ ex → ∃ o', h'.get? b = some o'
  tups : ∀ b xs, H b = some (.tup xs) → H' b = some (.tup xs)
  frzs : ∀ b o u, H b = some (.frz o u) → H' b = some (.frz o u)
  tbls : ∀ b ps, H b = some (.tbl ps) → ∃ more, H' b = some (.tbl (ps ++ more))
section
variable {fs fs' ex ex' : List Addr} {H H1 H2 : Hp} {h h1 h2 h' : Heap} {a x e : Addr} {o : HO}
theorem Un.any (u : Un fs ex H H1 h h1) {b : Addr} {ob : Obj} (q : h.get? b = some ob) (n : H b = none) (hx : b ∉ ex) : ∃ sl, h1.get? b = some { ob with slots := sl } := by
  by_cases hb : b ∈ fs
  · exact u.slot b ob q n hb hx
  · exact ⟨ob.slots, u.keep b ob q n hb hx⟩
theorem Un.trans (a : Un fs ex H H1 h h1) (b : Un fs ex H1 H2 h1 h2) : Un fs ex H H2 h h2 where
  keep := fun c ob q n hc hx => b.keep c ob (a.keep c ob q n hc hx) (a.free c ob q n hx) hc hx
  slot := fun c ob q n hc hx => by
    obtain ⟨sl, e1⟩ := a.slot c ob q n hc hx
    obtain ⟨sl', e2⟩ := b.slot c _ e1 (a.free c ob q n hx) hc hx
    exact ⟨sl', e2⟩
  free := fun c ob q n hx => by
    obtain ⟨o', e1⟩ := a.there c ob q hx
    exact b.free c o' e1 (a.free c ob q n hx) hx
  there := fun c ob q hx => by
    obtain ⟨o', e1⟩ := a.there c ob q hx
    exact b.there c o' e1 hx
  tups := fun c xs q => b.tups c xs (a.tups c xs q)
  frzs := fun c ob xs q => b.frzs c ob xs (a.frzs c ob xs q)
  tbls := fun c ps q => by
    obtain ⟨m1, e1⟩ := a.tbls c ps q
    obtain ⟨m2, e2⟩ := b.tbls c _ e1
    exact ⟨m1 ++ m2, by rw [e2, Array.append_assoc]⟩
theorem Un.kept (k : ∀ b u, h.get? b = some u → h'.get? b = some u) : Un fs ex H H h h' :=
  ⟨fun b ob q _ _ _ => k b ob q, fun b ob q _ _ _ => ⟨ob.slots, k b ob q⟩, fun _ _ _ n _ => n, fun b ob q _ => ⟨ob, k b ob q⟩, fun _ _ q => q, fun _ _ _ q => q, fun _ ps q => ⟨#[], by rw [q]; simp⟩⟩
theorem Un.refl : Un fs ex H H h h := Un.kept fun _ _ q => q
theorem Un.laid (k : ∀ b u, h.get? b = some u → h'.get? b = some u) (hp : h.objs.size ≤ a) (hn : H a = none) : Un fs ex H (upd H a o) h h' where
  keep := fun b u q _ _ _ => k b u q
  slot := fun b u q _ _ _ => ⟨u.slots, k b u q⟩
  free := fun b u q n _ => by rw [upd_ne (Nat.ne_of_lt (Nat.lt_of_lt_of_le (Heap.lt_size q) hp))]; exact n
  there := fun b u q _ => ⟨u, k b u q⟩
  tups := fun b xs q => by rw [upd_ne (ne_of_none q hn)]; exact q
  frzs := fun b u xs q => by rw [upd_ne (ne_of_none q hn)]; exact q
  tbls := fun b ps q => ⟨#[], by rw [upd_ne (ne_of_none q hn), q]; simp⟩
theorem Un.write (mu : Mut (H x)) (he : e = x ∨ H e = some (.own x)) (k : ∀ b u, b ≠ e → h.get? b = some u → h'.get? b = some u) (heo : ∃ u, h'.get? e = some u) : Un fs ex H (upd H x o) h h' := by
  have hx : ∀ b, H b = none → b ≠ x := fun b n z => by subst z; rw [n] at mu; exact mu
  have hb : ∀ b, H b = none → b ≠ e := fun b n z => by
    subst z
    rcases he with r | r
    · exact hx b n r
    · rw [n] at r; cases r
  have hm : ∀ b u, H b = some u → ¬ Mut (some u) → b ≠ x := fun b u q nm z => by subst z; rw [q] at mu; exact nm mu
  refine ⟨fun b u q n _ _ => k b u (hb b n) q, fun b u q n _ _ => ⟨u.slots, k b u (hb b n) q⟩, fun b u q n _ => by rw [upd_ne (hx b n)]; exact n, fun b u q _ => ?_,
    fun b xs q => by rw [upd_ne (hm b _ q fun z => z)]; exact q, fun b u xs q => by rw [upd_ne (hm b _ q fun z => z)]; exact q, fun b ps q => ⟨#[], by rw [upd_ne (hm b _ q fun z => z), q]; simp⟩⟩
  by_cases hbe : b = e
  · subst hbe; exact heo
  · exact ⟨u, k b u hbe q⟩
theorem Un.mono (u : Un fs ex H H1 h h1) (hs : ∀ b ∈ fs, b ∈ fs') (hx : ∀ b ∈ ex, b ∈ ex') : Un fs' ex' H H1 h h1 :=
  ⟨fun b ob q n hb he => u.keep b ob q n (fun z => hb (hs b z)) fun z => he (hx b z), fun _ _ q n _ he => u.any q n fun z => he (hx _ z), fun b ob q n he => u.free b ob q n fun z => he (hx b z), fun b ob q he => u.there b ob q fun z => he (hx b z), u.tups, u.frzs, u.tbls⟩
end

/-! ### the heap without what is tracked -/
def trk (h : Heap) (H : Hp) : List Addr := (List.range h.objs.size).filter fun a => (H a).isSome
def hidT (h : Heap) (H : Hp) : Heap := PySem.W.hideAll h (trk h H)
theorem hidT_size (h : Heap) (H : Hp) : (hidT h H).objs.size = h.objs.size := PySem.W.hideAll_size _ _
theorem hidT_get {h : Heap} {H : Hp} {b : Addr} {o : Obj} (e : h.get? b = some o) (n : H b = none) : (hidT h H).get? b = some o :=
  PySem.W.hideAll_get _ e fun hm => by
    have q : (H b).isSome = true := (List.mem_filter.mp hm).2
    rw [n] at q; simp at q
theorem of_hidT {h : Heap} {H : Hp} {b : Addr} {o : Obj} (e : (hidT h H).get? b = some o) : h.get? b = some o ∧ H b = none := by
  have e' : h.get? b = some o := PySem.W.of_hideAll (trk h H) e
  refine ⟨e', ?_⟩
  cases q : H b with
  | none => rfl
  | some x =>
    have hm : b ∈ trk h H := List.mem_filter.mpr ⟨List.mem_range.mpr (Heap.lt_size e'), by simp [q]⟩
    have z : (hidT h H).get? b = none := PySem.W.hideAll_none (trk h H) hm
    rw [z] at e; cases e

/-! ### OpenK's ledger, filled with every new object but one -/
def allNews (g h : Heap) (L : Addr) : List (Addr × Obj) := (List.range h.objs.size).filterMap fun a => if a = L ∨ (g.get? a).isSome = true then none else (h.get? a).map fun o => (a, o)
def rest (g h : Heap) (L d : Addr) : List (Addr × Obj) := (allNews g h L).filter fun p => decide (p.1 ≠ d)
end L2

namespace L2
open PySem PySem.Spec PyProof.Rows

/-- the module's facts, over the base: the heap at the law's entry without what is tracked there -/
structure Mod (K : PySem.W.Frag) (mg : Str → Option Value) (base : Heap) : Prop where
  kin : K.In base
  glob : base.Ns mainGlobals mg
  blt : ∃ mb, base.Ns builtinsNs mb ∧ ∀ x : Str, x ≠ "__name__" → mb x = bootBuiltins x
  nolimit : base.NoLimit

/-- the context: a def's body (or a comprehension's block) running. base: fixed through the whole law; s₀, H₀: the entry; outer: the frames whose slots others may change (a def's callers); stack: all frames that run;
   ex: iterators that were made ahead of the entry and are walked here (a comprehension's); fn: the names whose cells were made at the entry (a def: all; a comprehension's block: its own); calm: not within an except suite; pn: pins that every state bears; xe: what is wanted of an exception that leaves the code -/
structure Cx where
  prog : Program
  w : World
  K : PySem.W.Frag
  mg : Str → Option Value
  base : Heap
  A : Around
  N : List Str
  s₀ : Shared
  H₀ : Hp
  env : Env
  outer : List Env
  stack : List Env
  ex : List Addr
  fn : Str → Bool
  calm : Bool
  pn : List (Addr × Obj)
  xe : Value → Shared → Prop
/-- the callers' frames -/
def frs (l : List Env) : List Addr := l.filterMap (·.frame)
abbrev Cx.fs (X : Cx) : List Addr := frs X.outer

def Vis (sc : Scope) (x : Str) : Prop := sc.names.lookup x = some .local ∨ sc.names.lookup x = some .cell ∨ sc.names.lookup x = some .free
def Loc (sc : Scope) (x : Str) : Prop := sc.names.lookup x = some .local ∨ sc.names.lookup x = some .cell
def Look (env : Env) (h : Heap) (m : Str → Option Value) (x : Str) (u : Value) : Prop :=
  (env.kindOf x = some .local ∧ m x = some u) ∨ ((env.kindOf x = some .cell ∨ env.kindOf x = some .free) ∧ ∃ c, env.cells.lookup x = some c ∧ h.IsCell c (some u))

structure Cx.Ok (X : Cx) : Prop where
  mod : Mod X.K X.mg X.base
  kind : X.env.scope.kind = .function
  glob : X.env.globals = mainGlobals
  blt : X.env.builtins = builtinsNs
  above : X.s₀.heap.objs.size ≤ X.env.locals
  inj : ∀ x y c, X.env.cells.lookup x = some c → X.env.cells.lookup y = some c → x = y
  has : ∀ x, (X.env.kindOf x = some .cell ∨ X.env.kindOf x = some .free) → ∃ c, X.env.cells.lookup x = some c
  cab : ∀ x c, X.fn x = true → X.env.cells.lookup x = some c → X.s₀.heap.objs.size ≤ c
  hd : X.calm = true → X.A.handled = none
  frames : X.A.frames = some X.stack
  stk : X.stack = X.outer ∨ (X.stack = X.env :: X.outer ∧ X.env.frame = some X.env.locals)
  exf : ∀ b ∈ X.ex, b ≠ X.env.locals ∧ ∀ x c, X.env.cells.lookup x = some c → c ≠ b
  bs : ∀ b o, X.base.get? b = some o → X.s₀.heap.get? b = some o ∧ X.H₀ b = none
  bsz : X.base.objs.size ≤ X.s₀.heap.objs.size
  noex : ∀ b o, X.base.get? b = some o → b ∉ X.ex
  exfs : ∀ b ∈ X.ex, b ∉ X.fs
  funs : X.s₀.heap.FunFrames X.base X.outer
  frf : ∀ b ∈ X.fs, X.H₀ b = none

structure Inv (X : Cx) (pins : List (Addr × Obj)) (σ : List (Option V)) (H : Hp) (s : Shared) : Prop where
  ok : X.Ok
  os : s.os = X.s₀.os
  bare : AllBare s.gens
  base : Un X.fs X.ex X.H₀ H X.s₀.heap s.heap
  loc : ∃ m, s.heap.Ns X.env.locals m ∧ ∀ (i : Nat) (x : Str) (v : V), X.N[i]? = some x → σ[i]? = some (some v) → Vis X.env.scope x → ∃ u, RelV v u ∧ Look X.env s.heap m x u
  cell : ∀ x c, X.env.cells.lookup x = some c → ∃ v, s.heap.IsCell c v
  free : H X.env.locals = none
  freeC : ∀ x c, X.env.cells.lookup x = some c → H c = none
  pin : ∀ p ∈ X.pn ++ pins, s.heap.get? p.1 = some p.2 ∧ H p.1 = none ∧ p.1 ≠ X.env.locals ∧ p.1 ∉ X.fs ∧ ∀ v, p.2.data ≠ .cell v
  hok : HOk X.prog X.w H s.heap
  len : σ.length = X.N.length

section
variable {X : Cx} {pins : List (Addr × Obj)} {σ : List (Option V)} {H H' : Hp} {s : Shared} {h' : Heap}

theorem Cx.Ok.nofr (ok : X.Ok) {b : Addr} {o : Obj} (e : X.base.get? b = some o) : b ∉ X.fs := fun hb => by
  have := (ok.funs.mem hb).1
  rw [e] at this; cases this
theorem Inv.bs (I : Inv X pins σ H s) : ∀ b o, X.base.get? b = some o → s.heap.get? b = some o ∧ H b = none := fun b o e =>
  ⟨I.base.keep b o (I.ok.bs b o e).1 (I.ok.bs b o e).2 (I.ok.nofr e) (I.ok.noex b o e), I.base.free b o (I.ok.bs b o e).1 (I.ok.bs b o e).2 (I.ok.noex b o e)⟩
theorem Inv.bk (I : Inv X pins σ H s) : ∀ b o, X.base.get? b = some o → s.heap.get? b = some o := fun b o e => (I.bs b o e).1
theorem Inv.mod (I : Inv X pins σ H s) : Mod X.K X.mg X.base := I.ok.mod
theorem Inv.kIn (I : Inv X pins σ H s) : X.K.In s.heap := I.ok.mod.kin.keeps I.bk
theorem Inv.nolimit (I : Inv X pins σ H s) : s.heap.NoLimit := I.ok.mod.nolimit.keeps I.bk
/-- the frame over the base: for OpenK's rules (K.In X.base is I.mod.kin) -/
theorem Inv.fr (I : Inv X pins σ H s) : ∃ m, Fr X.base X.env.locals s.heap m :=
  let ⟨m, hn, _⟩ := I.loc
  ⟨m, hn, I.bk, Nat.le_trans I.ok.bsz I.ok.above⟩
theorem Inv.lt (I : Inv X pins σ H s) : X.env.locals < s.heap.objs.size := let ⟨_, hn, _⟩ := I.loc; hn.lt
theorem Inv.sz (I : Inv X pins σ H s) : X.s₀.heap.objs.size ≤ s.heap.objs.size := Nat.le_trans I.ok.above (Nat.le_of_lt I.lt)
theorem Inv.nofs (I : Inv X pins σ H s) {a : Addr} (h : s.heap.objs.size ≤ a) : a ∉ X.fs := fun hb => by
  obtain ⟨_, o, ho, _⟩ := I.ok.funs.mem hb
  exact absurd (Nat.lt_of_lt_of_le (Heap.lt_size ho) (Nat.le_trans I.sz h)) (Nat.lt_irrefl _)
theorem Inv.cne (I : Inv X pins σ H s) : ∀ x c, X.env.cells.lookup x = some c → c ≠ X.env.locals := fun x c e z => by
  obtain ⟨v, o, ho, hd⟩ := I.cell x c e
  obtain ⟨m, ⟨o', es, ep, ho', hd', _⟩, _⟩ := I.loc
  rw [z, ho'] at ho; cases ho; rw [hd'] at hd; cases hd
theorem Inv.funs (I : Inv X pins σ H s) : s.heap.FunFrames X.base X.outer := by
  have all : ∀ (l : List Env), (∀ b ∈ frs l, b ∈ X.fs) → X.s₀.heap.FunFrames X.base l → s.heap.FunFrames X.base l := by
    intro l
    induction l with
    | nil => intro _ _; trivial
    | cons env r ih =>
      intro hs hl
      obtain ⟨hk, ⟨L, o, hf, hn, ho, hd⟩, hr⟩ := hl
      have hL : L ∈ X.fs := hs L (by unfold frs; rw [List.filterMap_cons, hf]; exact List.mem_cons_self)
      obtain ⟨sl, e⟩ := I.base.slot L o ho (I.ok.frf L hL) hL fun z => I.ok.exfs L z hL
      exact ⟨hk, ⟨L, _, hf, hn, e, hd⟩, ih (fun b hb => hs b (by unfold frs; rw [List.filterMap_cons, hf]; exact List.mem_cons_of_mem _ hb)) hr⟩
  exact all X.outer (fun _ hb => hb) I.ok.funs

/-- the frames that run, for a call -/
theorem Inv.stack (I : Inv X pins σ H s) : s.heap.FunFrames X.base X.stack := by
  rcases I.ok.stk with e | ⟨e, hf⟩
  · rw [e]; exact I.funs
  · rw [e]
    obtain ⟨m, hn, _⟩ := I.loc
    refine .cons (by rw [I.ok.kind]; decide) hf hn ?_ I.funs
    exact Heap.get?_none_of_le (Nat.le_trans I.ok.bsz I.ok.above)
theorem Inv.stkSub (I : Inv X pins σ H s) : ∀ b ∈ frs X.stack, b ∈ X.env.locals :: X.fs := fun b hb => by
  rcases I.ok.stk with e | ⟨e, hf⟩
  · rw [e] at hb; exact List.mem_cons_of_mem _ hb
  · rw [e] at hb
    unfold frs at hb
    rw [List.filterMap_cons, hf] at hb
    exact hb
theorem Inv.stkFree (I : Inv X pins σ H s) : ∀ b ∈ frs X.stack, H b = none := fun b hb => by
  rcases List.mem_cons.mp (I.stkSub b hb) with e | hb
  · rw [e]; exact I.free
  · obtain ⟨_, o, ho, _⟩ := I.ok.funs.mem hb
    exact I.base.free b o ho (I.ok.frf b hb) fun z => I.ok.exfs b z hb

/-- THE STEP: the untracked objects but the frame and the records at ch are kept (the callers' frames up to slots), the frame's map is kept, the new abstract heap is held -/
theorem Inv.step {g' : Array GenState} {t' : Nat} {d' : Drawn} {ch : List Addr} (I : Inv X pins σ H s)
    (hch : ∀ b ∈ ch, (b ∈ X.ex ∨ X.s₀.heap.objs.size ≤ b) ∧ b ≠ X.env.locals ∧ (∀ x c, X.env.cells.lookup x = some c → c ≠ b) ∧ ∀ p ∈ X.pn ++ pins, p.1 ≠ b)
    (keep : ∀ b o, b ≠ X.env.locals → b ∉ X.fs → b ∉ ch → s.heap.get? b = some o → H b = none → h'.get? b = some o)
    (slot : ∀ b o, b ≠ X.env.locals → b ∈ X.fs → b ∉ ch → s.heap.get? b = some o → H b = none → ∃ sl, h'.get? b = some { o with slots := sl }) (free : ∀ b o, b ∉ ch → s.heap.get? b = some o → H b = none → H' b = none)
    (there : ∀ b o, b ∉ ch → s.heap.get? b = some o → ∃ o', h'.get? b = some o')
    (tups : ∀ b xs, H b = some (.tup xs) → H' b = some (.tup xs)) (frzs : ∀ b o u, H b = some (.frz o u) → H' b = some (.frz o u)) (tbls : ∀ b ps, H b = some (.tbl ps) → ∃ more, H' b = some (.tbl (ps ++ more)))
    (ns : ∀ m, s.heap.Ns X.env.locals m → h'.Ns X.env.locals m) (hok : HOk X.prog X.w H' h') (hg : AllBare g') :
    Inv X pins σ H' { s with heap := h', gens := g', drawn := d', toks := t' } := by
  have neL : ∀ b o, X.s₀.heap.get? b = some o → b ≠ X.env.locals := fun b o e => Nat.ne_of_lt (Nat.lt_of_lt_of_le (Heap.lt_size e) I.ok.above)
  have neC : ∀ b o, X.s₀.heap.get? b = some o → b ∉ X.ex → b ∉ ch := fun b o e hx hb => by
    rcases (hch b hb).1 with z | z
    · exact hx z
    · exact absurd (Nat.lt_of_lt_of_le (Heap.lt_size e) z) (Nat.lt_irrefl _)
  have cellK : ∀ x c, X.env.cells.lookup x = some c → ∀ v, s.heap.IsCell c v → h'.IsCell c v := fun x c e v ⟨o, ho, hd⟩ => by
    have nch : c ∉ ch := fun z => (hch c z).2.2.1 x c e rfl
    by_cases hc : c ∈ X.fs
    · obtain ⟨sl, q⟩ := slot c o (I.cne x c e) hc nch ho (I.freeC x c e)
      exact ⟨_, q, hd⟩
    · exact ⟨o, keep c o (I.cne x c e) hc nch ho (I.freeC x c e), hd⟩
  refine ⟨I.ok, I.os, hg, ⟨fun b o e n hb hx => ?_, fun b o e n hb hx => ?_, fun b o e n hx => ?_, fun b o e hx => ?_, fun b xs e => tups b xs (I.base.tups b xs e), fun b o xs e => frzs b o xs (I.base.frzs b o xs e), fun b ps e => ?_⟩, ?_, fun x c e => ?_, ?_, fun x c e => ?_, fun p hp => ?_, hok, I.len⟩
  · exact keep b o (neL b o e) hb (neC b o e hx) (I.base.keep b o e n hb hx) (I.base.free b o e n hx)
  · obtain ⟨sl, e1⟩ := I.base.slot b o e n hb hx
    obtain ⟨sl', e2⟩ := slot b _ (neL b o e) hb (neC b o e hx) e1 (I.base.free b o e n hx)
    exact ⟨sl', e2⟩
  · obtain ⟨o', e1⟩ := I.base.there b o e hx
    exact free b o' (neC b o e hx) e1 (I.base.free b o e n hx)
  · obtain ⟨o', e1⟩ := I.base.there b o e hx
    exact there b o' (neC b o e hx) e1
  · obtain ⟨m1, e1⟩ := I.base.tbls b ps e
    obtain ⟨m2, e2⟩ := tbls b _ e1
    exact ⟨m1 ++ m2, by rw [e2, Array.append_assoc]⟩
  · obtain ⟨m, hn, hl⟩ := I.loc
    refine ⟨m, ns m hn, fun i x v e1 e2 e3 => ?_⟩
    obtain ⟨u, r, l⟩ := hl i x v e1 e2 e3
    refine ⟨u, r, ?_⟩
    rcases l with l | ⟨k, c, e, z⟩
    · exact .inl l
    · exact .inr ⟨k, c, e, cellK x c e _ z⟩
  · obtain ⟨v, z⟩ := I.cell x c e
    exact ⟨v, cellK x c e v z⟩
  · obtain ⟨m, ⟨o, _, _, ho, _⟩, _⟩ := I.loc
    exact free _ o (fun z => (hch _ z).2.1 rfl) ho I.free
  · obtain ⟨v, o, ho, hd⟩ := I.cell x c e
    exact free c o (fun z => (hch c z).2.2.1 x c e rfl) ho (I.freeC x c e)
  · obtain ⟨e, n, ne, nf, d⟩ := I.pin p hp
    have nch : p.1 ∉ ch := fun z => (hch p.1 z).2.2.2 p hp rfl
    exact ⟨keep p.1 p.2 ne nf nch e n, free p.1 p.2 nch e n, ne, nf, d⟩
/-- .. where the frame's own object is kept too -/
theorem Inv.un {t' : Nat} (I : Inv X pins σ H s) (u : Un X.fs [] H H' s.heap h') (hok : HOk X.prog X.w H' h') : Inv X pins σ H' { s with heap := h', toks := t' } := by
  obtain ⟨m, ⟨o, es, ep, ho, r⟩, _⟩ := id I.loc
  obtain ⟨sl, hL⟩ := u.any ho I.free (by simp)
  exact I.step (g' := s.gens) (d' := s.drawn) (ch := []) (fun _ z => nomatch z) (fun b o _ hb _ e n => u.keep b o e n hb (by simp)) (fun b o _ hb _ e n => u.slot b o e n hb (by simp)) (fun b o _ e n => u.free b o e n (by simp)) (fun b o _ e => u.there b o e (by simp)) u.tups u.frzs u.tbls (fun m' hm => by
    obtain ⟨o', es', ep', ho', r'⟩ := hm
    rw [ho] at ho'; cases ho'
    exact ⟨_, es', ep', hL, r'⟩) hok I.bare
/-- behind a call (or a comprehension's block): the slots of this frame may have changed too, the records at ch may have turned -/
theorem Inv.call {g' : Array GenState} {t' : Nat} {d' : Drawn} {ch : List Addr} (I : Inv X pins σ H s) (u : Un (frs X.stack) ch H H' s.heap h') (hok : HOk X.prog X.w H' h') (hg : AllBare g')
    (hch : ∀ b ∈ ch, (b ∈ X.ex ∨ X.s₀.heap.objs.size ≤ b) ∧ b ≠ X.env.locals ∧ (∀ x c, X.env.cells.lookup x = some c → c ≠ b) ∧ ∀ p ∈ X.pn ++ pins, p.1 ≠ b) :
    Inv X pins σ H' { s with heap := h', gens := g', drawn := d', toks := t' } := by
  obtain ⟨m, ⟨o, es, ep, ho, r⟩, _⟩ := id I.loc
  obtain ⟨sl, hL⟩ := u.any ho I.free fun z => (hch _ z).2.1 rfl
  exact I.step (ch := ch) hch (fun b o hL hb hc e n => u.keep b o e n (fun z => (List.mem_cons.mp (I.stkSub b z)).elim hL hb) hc) (fun b o _ _ hc e n => u.any e n hc) (fun b o hc e n => u.free b o e n hc) (fun b o hc e => u.there b o e hc) u.tups u.frzs u.tbls (fun m' hm => by
    obtain ⟨o', es', ep', ho', r'⟩ := hm
    rw [ho] at ho'; cases ho'
    exact ⟨_, es', ep', hL, r'⟩) hok hg
/-- an untracked record of ours (an iterator) has turned -/
theorem Inv.turned {t' : Nat} {it : Addr} (I : Inv X pins σ H s) (k : ∀ b o, b ≠ it → s.heap.get? b = some o → h'.get? b = some o) (hn : H it = none) (hL : it ≠ X.env.locals)
    (h1 : it ∈ X.ex ∨ X.s₀.heap.objs.size ≤ it) (h2 : ∀ x c, X.env.cells.lookup x = some c → c ≠ it) (h3 : ∀ p ∈ X.pn ++ pins, p.1 ≠ it) : Inv X pins σ H { s with heap := h', toks := t' } := by
  have nit : ∀ b u, H b = some u → b ≠ it := fun b u e z => by rw [z, hn] at e; cases e
  refine I.step (g' := s.gens) (d' := s.drawn) (ch := [it]) (fun b hb => ?_) (fun b o _ _ hc e _ => k b o (fun z => hc (by simp [z])) e) (fun b o _ _ hc e _ => ⟨o.slots, k b o (fun z => hc (by simp [z])) e⟩) (fun _ _ _ _ n => n)
    (fun b o hc e => ⟨o, k b o (fun z => hc (by simp [z])) e⟩) (fun _ _ e => e) (fun _ _ _ e => e) (fun b ps e => ⟨#[], by rw [e]; simp⟩) (fun m hm => ?_) (fun b u e => ?_) I.bare
  · have e : b = it := by simpa using hb
    subst e
    exact ⟨h1, hL, h2, h3⟩
  · obtain ⟨o, es, ep, ho, r⟩ := hm
    exact ⟨o, es, ep, k _ o (Ne.symm hL) ho, r⟩
  · refine (I.hok b u e).stay (fun c v hc q => k c v ?_ q) (fun _ q => q) fun _ _ q => q
    rcases hc with z | z
    · rw [z]; exact nit b u e
    · exact nit c _ z
theorem Inv.tok (I : Inv X pins σ H s) (t : Nat) : Inv X pins σ H { s with toks := t } := I.un (h' := s.heap) (t' := t) Un.refl I.hok
/-- all objects kept -/
theorem Inv.kept {t' : Nat} (I : Inv X pins σ H s) (k : ∀ b u, s.heap.get? b = some u → h'.get? b = some u) : Inv X pins σ H { s with heap := h', toks := t' } := I.un (Un.kept k) (I.hok.kept k)
/-- a new object laid and tracked -/
theorem Inv.laid {a : Addr} {o : HO} {t' : Nat} (I : Inv X pins σ H s) (k : ∀ b u, s.heap.get? b = some u → h'.get? b = some u) (hp : s.heap.objs.size ≤ a) (new : ObjOk X.prog X.w (upd H a o) h' a o) :
    Inv X pins σ (upd H a o) { s with heap := h', toks := t' } := I.un (Un.laid k hp (I.hok.fresh hp)) (I.hok.laid k hp new)
/-- an object written -/
theorem Inv.write {x e : Addr} {o : HO} {t' : Nat} (I : Inv X pins σ H s) (mu : Mut (H x)) (he : e = x ∨ H e = some (.own x)) (k : ∀ b u, b ≠ e → s.heap.get? b = some u → h'.get? b = some u) (heo : ∃ u, h'.get? e = some u)
    (new : ObjOk X.prog X.w (upd H x o) h' x o) : Inv X pins σ (upd H x o) { s with heap := h', toks := t' } := I.un (Un.write mu he k heo) (I.hok.write mu he k heo new)
theorem Inv.pins_of {pins' : List (Addr × Obj)} (I : Inv X pins σ H s) (h : ∀ p ∈ pins', s.heap.get? p.1 = some p.2 ∧ H p.1 = none ∧ p.1 ≠ X.env.locals ∧ p.1 ∉ X.fs ∧ ∀ v, p.2.data ≠ .cell v) : Inv X pins' σ H s :=
  ⟨I.ok, I.os, I.bare, I.base, I.loc, I.cell, I.free, I.freeC, fun p hp => (List.mem_append.mp hp).elim (fun z => I.pin p (List.mem_append_left _ z)) (h p), I.hok, I.len⟩

theorem nodup_ix {N : List Str} (hN : N.Nodup) {i j : Nat} {x : Str} (a : N[i]? = some x) (b : N[j]? = some x) : i = j := by
  obtain ⟨h1, e1⟩ := List.getElem?_eq_some_iff.mp a
  obtain ⟨h2, e2⟩ := List.getElem?_eq_some_iff.mp b
  exact (List.getElem_inj hN).mp (e1.trans e2.symm)

/-- a name is stored; what changed -/
theorem store_ok2 {M : Model} {A : Around} {E : Value → Shared → Prop} {i : Nat} {x : Str} {v : V} {u : Value} {Q : Unit → Shared → Prop} (I : Inv X pins σ H s) (hN : X.N.Nodup) (hi : X.N[i]? = some x) (hx : Loc X.env.scope x) (r : RelV v u)
    (h : ∀ s', Inv X pins (σ.set i (some v)) H s' → (∃ a, Heap.SameBut a s.heap s'.heap ∧ (a = X.env.locals ∨ X.env.cells.lookup x = some a)) → Q () s') (hf : X.fn x = true ∨ X.env.scope.names.lookup x = some .local := by first | exact .inl rfl | exact .inr rfl | assumption) : wpAny M A (storeName X.env x u) Q E s := by
  obtain ⟨m, hn, hl⟩ := id I.loc
  have hcls : (X.env.scope.kind == .class || (X.env.scope.kind == .module && X.env.locals != X.env.globals)) = false := by rw [I.ok.kind]; rfl
  have hiσ : i < σ.length := by rw [I.len]; exact (List.getElem?_eq_some_iff.mp hi).1
  have cne := I.cne
  have tracked : ∀ {a : Addr} {h' : Heap}, (∃ o, s.heap.get? a = some o ∧ H a = none) → Heap.SameBut a s.heap h' → HOk X.prog X.w H h' := fun {a h'} ha hs b ob e => by
    obtain ⟨_, _, hfree⟩ := ha
    refine (I.hok b ob e).stay (fun c w' hc q => (hs.2 c ?_).trans q) (fun _ q => q) fun _ _ q => q
    rintro rfl
    rcases hc with rfl | hc
    · rw [hfree] at e; cases e
    · rw [hfree] at hc; cases hc
  rcases hx with hk | hk
  · refine wpAny_storeName_local hk hn (fun h' hn' hs => ?_) hcls
    obtain ⟨oL, _, _, hoL, _⟩ := id hn
    refine h _ ⟨I.ok, I.os, I.bare, ⟨fun b o e n hb hx => ?_, fun b o e n hb hx => ?_, I.base.free, fun b o e hx => ?_, I.base.tups, I.base.frzs, I.base.tbls⟩, ⟨_, hn', fun j y v' e1 e2 e3 => ?_⟩, fun y c e => ?_, I.free, I.freeC, fun p hp => ?_, tracked ⟨oL, hoL, I.free⟩ hs, by simpa using I.len⟩ ⟨_, hs, .inl rfl⟩
    · exact (hs.2 b (Nat.ne_of_lt (Nat.lt_of_lt_of_le (Heap.lt_size e) I.ok.above))).trans (I.base.keep b o e n hb hx)
    · obtain ⟨sl, e1⟩ := I.base.slot b o e n hb hx
      exact ⟨sl, (hs.2 b (Nat.ne_of_lt (Nat.lt_of_lt_of_le (Heap.lt_size e) I.ok.above))).trans e1⟩
    · obtain ⟨o', e1⟩ := I.base.there b o e hx
      exact ⟨o', (hs.2 b (Nat.ne_of_lt (Nat.lt_of_lt_of_le (Heap.lt_size e) I.ok.above))).trans e1⟩
    · by_cases hj : j = i
      · subst hj
        rw [hi] at e1; cases e1
        rw [List.getElem?_set_self hiσ] at e2
        cases e2
        exact ⟨u, r, .inl ⟨hk, by simp⟩⟩
      · rw [List.getElem?_set_ne (Ne.symm hj)] at e2
        obtain ⟨u', r', q⟩ := hl j y v' e1 e2 e3
        refine ⟨u', r', ?_⟩
        rcases q with ⟨k, e⟩ | ⟨k, c, e, z⟩
        · refine .inl ⟨k, ?_⟩
          have : y ≠ x := fun e => hj (nodup_ix hN e1 (e ▸ hi))
          simp [this, e]
        · exact .inr ⟨k, c, e, z.sameBut hs (cne y c e)⟩
    · obtain ⟨w', z⟩ := I.cell y c e
      exact ⟨w', z.sameBut hs (cne y c e)⟩
    · obtain ⟨e, n, ne, nf, d⟩ := I.pin p hp
      exact ⟨(hs.2 p.1 ne).trans e, n, ne, nf, d⟩
  · have hfn : X.fn x = true := by
      rcases hf with z | z
      · exact z
      · rw [z] at hk; cases hk
    obtain ⟨c, hc⟩ := I.ok.has x (.inl hk)
    obtain ⟨w', z⟩ := I.cell x c hc
    refine wpAny_storeName_cell I.ok.kind hk hc z (fun h' hc' hs => ?_)
    obtain ⟨oc, hoc, hocd⟩ := id z
    refine h { s with heap := h' } ⟨I.ok, I.os, I.bare, ⟨fun b o e n hb hx => ?_, fun b o e n hb hx => ?_, I.base.free, fun b o e hx => ?_, I.base.tups, I.base.frzs, I.base.tbls⟩, ⟨m, hn.sameBut hs (Ne.symm (cne x c hc)), fun j y v' e1 e2 e3 => ?_⟩, fun y c' e => ?_, I.free, I.freeC, fun p hp => ?_, tracked ⟨oc, hoc, I.freeC x c hc⟩ hs, by simpa using I.len⟩ ⟨c, hs, .inr hc⟩
    · exact (hs.2 b (Nat.ne_of_lt (Nat.lt_of_lt_of_le (Heap.lt_size e) (I.ok.cab x c hfn hc)))).trans (I.base.keep b o e n hb hx)
    · obtain ⟨sl, e1⟩ := I.base.slot b o e n hb hx
      exact ⟨sl, (hs.2 b (Nat.ne_of_lt (Nat.lt_of_lt_of_le (Heap.lt_size e) (I.ok.cab x c hfn hc)))).trans e1⟩
    · obtain ⟨o', e1⟩ := I.base.there b o e hx
      exact ⟨o', (hs.2 b (Nat.ne_of_lt (Nat.lt_of_lt_of_le (Heap.lt_size e) (I.ok.cab x c hfn hc)))).trans e1⟩
    · by_cases hj : j = i
      · subst hj
        rw [hi] at e1; cases e1
        rw [List.getElem?_set_self hiσ] at e2
        cases e2
        exact ⟨u, r, .inr ⟨.inl hk, c, hc, hc'⟩⟩
      · rw [List.getElem?_set_ne (Ne.symm hj)] at e2
        obtain ⟨u', r', q⟩ := hl j y v' e1 e2 e3
        refine ⟨u', r', ?_⟩
        rcases q with q | ⟨k, c', e, z'⟩
        · exact .inl q
        · refine .inr ⟨k, c', e, z'.sameBut hs ?_⟩
          rintro rfl
          exact hj (nodup_ix hN e1 (I.ok.inj _ _ _ e hc ▸ hi))
    · by_cases hcc : c' = c
      · subst hcc; exact ⟨_, hc'⟩
      · obtain ⟨w2, z2⟩ := I.cell y c' e
        exact ⟨w2, z2.sameBut hs hcc⟩
    · obtain ⟨e, n, ne, nf, d⟩ := I.pin p hp
      refine ⟨(hs.2 p.1 ?_).trans e, n, ne, nf, d⟩
      intro q
      rw [q, hoc] at e
      have q' : oc = p.2 := Option.some.inj e
      exact d w' (by rw [← q']; exact hocd)
theorem store_ok {M : Model} {A : Around} {E : Value → Shared → Prop} {i : Nat} {x : Str} {v : V} {u : Value} {Q : Unit → Shared → Prop} (I : Inv X pins σ H s) (hN : X.N.Nodup) (hi : X.N[i]? = some x) (hx : Loc X.env.scope x) (r : RelV v u)
    (h : ∀ s', Inv X pins (σ.set i (some v)) H s' → Q () s') (hf : X.fn x = true ∨ X.env.scope.names.lookup x = some .local := by first | exact .inl rfl | exact .inr rfl | assumption) : wpAny M A (storeName X.env x u) Q E s :=
  store_ok2 I hN hi hx r (fun s' I' _ => h s' I') hf
/-- behind a call or a block, the state as it is -/
theorem Inv.call' {s' : Shared} {ch : List Addr} (I : Inv X pins σ H s) (ho : s'.os = s.os) (u : Un (frs X.stack) ch H H' s.heap s'.heap) (hok : HOk X.prog X.w H' s'.heap) (hg : AllBare s'.gens)
    (hch : ∀ b ∈ ch, (b ∈ X.ex ∨ X.s₀.heap.objs.size ≤ b) ∧ b ≠ X.env.locals ∧ (∀ x c, X.env.cells.lookup x = some c → c ≠ b) ∧ ∀ p ∈ X.pn ++ pins, p.1 ≠ b) : Inv X pins σ H' s' := by
  obtain ⟨h', g', d', t', o'⟩ := s'
  have e : o' = s.os := ho
  subst e
  exact I.call (g' := g') (t' := t') (d' := d') u hok hg hch
end

/-! ### the judgements -/
/-- an exception: its class, its own dict's address (where it has one), the abstract heap behind it -/
abbrev XK := Value → Option Addr → Hp → Prop
abbrev St := List (Option V)
abbrev VK := V → Hp → Prop
/-- an expression's reading; a test's; an argument list's -/
abbrev TE := St → Hp → VK → Prop
abbrev TT := St → Hp → (Bool → Hp → Prop) → Prop
abbrev TA := St → Hp → (List V → Hp → Prop) → Prop
/-- what is wanted behind a statement -/
structure Ends where
  nx : St → Hp → Prop
  rt : VK
  bk : St → Hp → Prop := fun _ _ => False
  ct : St → Hp → Prop := fun _ _ => False
abbrev TS := Ends → St → Hp → Prop

def EP (X : Cx) (pins : List (Addr × Obj)) (σ : St) (Q : VK) (u : Value) (s' : Shared) : Prop := ∃ v H', Inv X pins σ H' s' ∧ RelV v u ∧ Q v H'
def TP (X : Cx) (pins : List (Addr × Obj)) (σ : St) (Q : Bool → Hp → Prop) (b : Bool) (s' : Shared) : Prop := ∃ H', Inv X pins σ H' s' ∧ Q b H'
def AP (X : Cx) (pins : List (Addr × Obj)) (σ : St) (Q : List V → Hp → Prop) (us : List Value) (s' : Shared) : Prop := ∃ vs H', Inv X pins σ H' s' ∧ Vals vs us ∧ Q vs H'
def SP (X : Cx) (pins : List (Addr × Obj)) (D : Ends) (f : Flow) (s' : Shared) : Prop :=
  match f with
  | .next => ∃ σ' H', Inv X pins σ' H' s' ∧ D.nx σ' H'
  | .brk => ∃ σ' H', Inv X pins σ' H' s' ∧ D.bk σ' H'
  | .cont => ∃ σ' H', Inv X pins σ' H' s' ∧ D.ct σ' H'
  | .ret u => ∃ v σ' H', Inv X pins σ' H' s' ∧ RelV v u ∧ D.rt v H'

def PE (X : Cx) (e : Expr) (t : TE) : Prop :=
  ∀ (pins : List (Addr × Obj)) (s : Shared) (σ : St) (H : Hp) (Q : VK), Inv X pins σ H s → t σ H Q → wpAny (model X.prog X.w) X.A (eval e X.env) (EP X pins σ Q) X.xe s
def PT (X : Cx) (e : Expr) (t : TT) : Prop :=
  ∀ (pins : List (Addr × Obj)) (s : Shared) (σ : St) (H : Hp) (Q : Bool → Hp → Prop), Inv X pins σ H s → t σ H Q → wpAny (model X.prog X.w) X.A (isTrue e X.env (eval e X.env)) (TP X pins σ Q) X.xe s
/-- a test whatever its 'whole' is (and, or) -/
def PW (X : Cx) (e : Expr) (t : TT) : Prop :=
  ∀ (whole : Sem Value) (pins : List (Addr × Obj)) (s : Shared) (σ : St) (H : Hp) (Q : Bool → Hp → Prop), Inv X pins σ H s → t σ H Q → wpAny (model X.prog X.w) X.A (isTrue e X.env whole) (TP X pins σ Q) X.xe s
theorem PW.pt {X : Cx} {e : Expr} {t : TT} (h : PW X e t) : PT X e t := h _
/-- an argument list (no star), from the left -/
def PA (X : Cx) (es : List Expr) (t : TA) : Prop :=
  ∀ (pos : Pos) (pins : List (Addr × Obj)) (s : Shared) (σ : St) (H : Hp) (Q : List V → Hp → Prop), Inv X pins σ H s → t σ H Q → wpAny (model X.prog X.w) X.A (spliced (backTo pos (starEach es X.env))) (AP X pins σ Q) X.xe s
def PS (X : Cx) (st : Stmt) (t : TS) : Prop :=
  ∀ (pins : List (Addr × Obj)) (s : Shared) (σ : St) (H : Hp) (D : Ends), Inv X pins σ H s → t D σ H → wpAny (model X.prog X.w) X.A (exec st X.env) (SP X pins D) X.xe s
def PSs (X : Cx) (st : List Stmt) (t : TS) : Prop :=
  ∀ (pins : List (Addr × Obj)) (s : Shared) (σ : St) (H : Hp) (D : Ends), Inv X pins σ H s → t D σ H → wpAny (model X.prog X.w) X.A (execs st X.env) (SP X pins D) X.xe s
/-- weaken the end -/
theorem thn {α : Type} {t : Sem α} {Q Q' : α → Shared → Prop} {M : Model} {A : Around} {E : Value → Shared → Prop} {s : Shared} (h : wpAny M A t Q E s) (hQ : ∀ a s, Q a s → Q' a s) : wpAny M A t Q' E s := wpAny_mono h hQ fun _ _ x => x
end L2

namespace L2
open PySem PySem.Spec PyProof.Rows
section
variable {X : Cx}

/-! ### names and constants -/
def tVar (i : Nat) : TE := fun σ H Q => ∃ v, σ[i]? = some (some v) ∧ Q v H
def tC (v : V) : TE := fun _ H Q => Q v H
theorem pe_var {i : Nat} {x : Str} {pos : Pos} (hN : X.N[i]? = some x) (hv : Vis X.env.scope x) (hd : (x == ("__debug__" : Str)) = false := by decide) (hcd : (x == ("__classdict__" : Str)) = false := by decide) : PE X (.Name x pos) (tVar i) := by
  intro pins s σ H Q I h
  obtain ⟨v, e, h⟩ := h
  obtain ⟨m, hn, hl⟩ := I.loc
  obtain ⟨u, r, l⟩ := hl i x v hN e hv
  have fin : EP X pins σ Q u s := ⟨v, H, I, r, h⟩
  rcases l with ⟨hk, hm⟩ | ⟨hk, c, hc, hcell⟩
  · exact wpAny_Name (wpAny_loadName_local I.ok.kind hk hn hm fin) hd
  · rcases hk with hk | hk
    · exact wpAny_Name (wpAny_loadName_cell I.ok.kind hk hc hcell fin) hd
    · exact wpAny_Name (wpAny_loadName_free I.ok.kind hk hc hcell fin hcd) hd
theorem pe_int {i j pos} : PE X (.Constant (.int i) j pos) (tC (.int i)) := fun _ _ _ H _ I h => wpAny_Constant_int ⟨.int i, H, I.tok _, ⟨_, rfl⟩, h⟩
theorem pe_bl {b j pos} : PE X (.Constant (.bool b) j pos) (tC (.bl b)) := fun _ _ _ H _ I h => Constant_bool ⟨.bl b, H, I, rfl, h⟩
theorem pe_non {j pos} : PE X (.Constant .none j pos) (tC .non) := fun _ _ _ H _ I h => Constant_none ⟨.non, H, I, rfl, h⟩
/-- a global name of the def -/
def Gl (X : Cx) (x : Str) : Prop := X.env.kindOf x = some .globalImplicit
theorem ld_glob {E : Value → Shared → Prop} {pins : List (Addr × Obj)} {s : Shared} {σ : St} {H : Hp} {x : Str} {u : Value} {pos : Pos} {Q : Value → Shared → Prop} (I : Inv X pins σ H s) (hg : Gl X x) (hm : X.mg x = some u) (h : Q u s)
    (hd : (x == ("__debug__" : Str)) = false := by decide) : wpAny (model X.prog X.w) X.A (eval (.Name x pos) X.env) Q E s :=
  Calls.Name_function_global I.ok.kind hg (Calls.loadGlobal_global (by rw [I.ok.glob]; exact I.mod.glob.keeps I.bk) hm h) hd
theorem ld_blt {E : Value → Shared → Prop} {pins : List (Addr × Obj)} {s : Shared} {σ : St} {H : Hp} {x : Str} {u : Value} {pos : Pos} {Q : Value → Shared → Prop} (I : Inv X pins σ H s) (hg : Gl X x) (hm : X.mg x = none) (hv : bootBuiltins x = some u) (h : Q u s)
    (hn : x ≠ "__name__" := by decide) (hd : (x == ("__debug__" : Str)) = false := by decide) : wpAny (model X.prog X.w) X.A (eval (.Name x pos) X.env) Q E s := by
  obtain ⟨mb, h1, h2⟩ := I.mod.blt
  exact Calls.Name_function_global I.ok.kind hg (Calls.loadGlobal_builtin (by rw [I.ok.glob]; exact I.mod.glob.keeps I.bk) hm (by rw [I.ok.blt]; exact h1.keeps I.bk) ((h2 x hn).trans hv) h) hd
theorem pe_bltn {x : Str} {v : V} {u : Value} {pos : Pos} (hg : Gl X x) (hm : X.mg x = none) (hv : bootBuiltins x = some u) (r : RelV v u) (hn : x ≠ "__name__" := by decide) (hd : (x == ("__debug__" : Str)) = false := by decide) : PE X (.Name x pos) (tC v) :=
  fun _ _ _ H _ I h => ld_blt I hg hm hv ⟨v, H, I, r, h⟩ hn hd

/-! ### arithmetic -/
variable {a b : Expr} {ta tb : TE} {pos : Pos}
/-! ### comparisons -/
/-- a comparison as a value, as a test -/
def tB (t : TE) : TT := fun σ H Q => t σ H fun x H1 => ∃ c, x = .bl c ∧ Q c H1
/-- an expression whose value is a bool, as a test -/
theorem pt_val {e : Expr} {t : TE} (h : PE X e t) (he : ∀ whole, isTrue e X.env whole = (do let v ← whole; standAt e.pos; holding [v] (truthy v)) := by intro _; rfl) : PT X e (tB t) := by
  intro pins s σ H Q I hw
  refine isTrue_plain (thn (h pins s σ H _ I hw) fun v s1 ⟨x, H1, I1, r1, q1⟩ => ?_) (he _)
  obtain ⟨d, rfl, q⟩ := q1
  cases r1
  exact wpAny_truthy_bool ⟨H1, I1, q⟩

/-! ### and, or, not -/
variable {tA tB' : TT} {rest : List Expr}
def tAnd (t u : TT) : TT := fun σ H Q => t σ H fun c H1 => if c = true then u σ H1 Q else Q false H1
def tOr (t u : TT) : TT := fun σ H Q => t σ H fun c H1 => if c = true then Q true H1 else u σ H1 Q
def tNot (t : TT) : TT := fun σ H Q => t σ H fun c H1 => Q (!c) H1
theorem pw_and1 (ha : PT X a tA) : PW X (.BoolOp .And [a] pos) tA := by
  intro wh pins s σ H Q I h
  refine isTrue_and (thn (ha pins s σ H Q I h) fun c s1 e => ?_)
  cases c with
  | true => exact isTrue_and_nil e
  | false => exact e
theorem pw_or1 (ha : PT X a tA) : PW X (.BoolOp .Or [a] pos) tA := by
  intro wh pins s σ H Q I h
  refine isTrue_or (thn (ha pins s σ H Q I h) fun c s1 e => ?_)
  cases c with
  | false => exact isTrue_or_nil e
  | true => exact e
theorem pw_and (ha : PT X a tA) (hb : PW X (.BoolOp .And (b :: rest) pos) tB') : PW X (.BoolOp .And (a :: b :: rest) pos) (tAnd tA tB') := by
  intro wh pins s σ H Q I h
  refine isTrue_and (thn (ha pins s σ H _ I h) fun c s1 ⟨H1, I1, q1⟩ => ?_)
  cases c with
  | true => exact hb wh pins s1 σ H1 Q I1 q1
  | false => exact ⟨H1, I1, q1⟩
theorem pw_or (ha : PT X a tA) (hb : PW X (.BoolOp .Or (b :: rest) pos) tB') : PW X (.BoolOp .Or (a :: b :: rest) pos) (tOr tA tB') := by
  intro wh pins s σ H Q I h
  refine isTrue_or (thn (ha pins s σ H _ I h) fun c s1 ⟨H1, I1, q1⟩ => ?_)
  cases c with
  | true => exact ⟨H1, I1, q1⟩
  | false => exact hb wh pins s1 σ H1 Q I1 q1
theorem pt_not (ha : PT X a tA) : PT X (.UnaryOp .Not a pos) (tNot tA) := by
  intro pins s σ H Q I h
  exact isTrue_not (ha pins s σ H (fun c H1 => Q (!c) H1) I h)
/-- .. as values (bools) -/
def tAndV (ta tb : TE) : TE := fun σ H Q => ta σ H fun x H1 => ∃ c, x = .bl c ∧ if c = true then tb σ H1 Q else Q (.bl false) H1
def tNotV (ta : TE) : TE := fun σ H Q => ta σ H fun x H1 => ∃ c, x = .bl c ∧ Q (.bl (!c)) H1
theorem pe_one {op} {t : TE} (h : PE X a t) : PE X (.BoolOp op [a] pos) t := fun pins s σ H Q I hw => BoolOp_one (h pins s σ H Q I hw)
theorem pe_and (ha : PE X a ta) (hb : PE X (.BoolOp .And (b :: rest) pos) tb) : PE X (.BoolOp .And (a :: b :: rest) pos) (tAndV ta tb) := by
  intro pins s σ H Q I h
  refine BoolOp_and (thn (ha pins s σ H _ I h) fun v s1 ⟨x, H1, I1, r1, q1⟩ => ?_)
  obtain ⟨c, rfl, q1⟩ := q1
  cases r1
  refine wpAny_truthy_bool ?_
  cases c with
  | true => exact hb pins s1 σ H1 Q I1 q1
  | false => exact ⟨.bl false, H1, I1, rfl, q1⟩
theorem pe_not (ha : PE X a ta) : PE X (.UnaryOp .Not a pos) (tNotV ta) := by
  intro pins s σ H Q I h
  refine UnaryOp_ (thn (ha pins s σ H _ I h) fun v s1 ⟨x, H1, I1, r1, q1⟩ => ?_)
  obtain ⟨c, rfl, q1⟩ := q1
  cases r1
  exact not_of (wpAny_truthy_bool ⟨.bl (!c), H1, I1, rfl, q1⟩)
end
end L2

namespace L2
open PySem PySem.Spec PyProof.Rows

/-! ### a list, a tuple that is read: tracked, frozen, or an object of the module -/
def SqL (K : PySem.W.Frag) (H : Hp) (a : Addr) (xs : List V) : Prop :=
  Rd H a (.lst xs) ∨
    ∃ (o : Obj) (its : Array Value) (n : Nat), K.lookup a = some o ∧ o.cls = .type "list" ∧ o.dict = none ∧ o.data = .seq its n ∧ its.size ≤ sizeLine ∧ Vals xs its.toList
def SqT (K : PySem.W.Frag) (H : Hp) (a : Addr) (xs : List V) : Prop :=
  Rd H a (.tup xs) ∨
    ∃ (o : Obj) (its : Array Value) (n : Nat), K.lookup a = some o ∧ o.cls = .type "tuple" ∧ o.data = .seq its n ∧ its.size ≤ sizeLine ∧ Vals xs its.toList
def absV : Value → Option V
  | .none => some .non
  | .bool b => some (.bl b)
  | .int i _ => some (.int i)
  | .str x _ => some (.str x)
  | .bytes b _ => some (.byt b)
  | .float b _ => some (.flt b)
  | .ref a => some (.ref a)
  | .type n => some (.ty n)
  | _ => none
theorem RelV.abs {x : V} {u : Value} (r : RelV x u) : absV u = some x := by
  cases x with
  | non => cases r; rfl
  | bl _ => cases r; rfl
  | int _ => obtain ⟨t, rfl⟩ := r; rfl
  | str _ => obtain ⟨t, rfl⟩ := r; rfl
  | byt _ => obtain ⟨t, rfl⟩ := r; rfl
  | flt _ => obtain ⟨t, rfl⟩ := r; rfl
  | ref _ => cases r; rfl
  | ty _ => cases r; rfl
theorem RelV.inj {x y : V} {u : Value} (r : RelV x u) (q : RelV y u) : x = y := Option.some.inj (r.abs.symm.trans q.abs)
theorem Vals.inj : ∀ {xs ys : List V} {us : List Value}, Vals xs us → Vals ys us → xs = ys
  | _, _, _, .nil, .nil => rfl
  | _, _, _, .cons r t, .cons r' t' => by rw [r.inj r', Vals.inj t t']
section
variable {X : Cx} {pins : List (Addr × Obj)} {σ : St} {H : Hp} {s : Shared} {a : Addr} {xs ys : List V}
theorem SqL.of {K : PySem.W.Frag} (h : H a = some (.lst xs)) : SqL K H a xs := .inl (.inl h)
theorem SqT.of {K : PySem.W.Frag} (h : H a = some (.tup xs)) : SqT K H a xs := .inl (.inl h)
theorem Inv.list (I : Inv X pins σ H s) (h : SqL X.K H a xs) : ∃ its : List Value, Vals xs its ∧ PlainL s.heap a its.toArray ∧ xs.length ≤ sizeLine := by
  rcases h with h | ⟨o, its, n, hk, hc, hd, hs, hz, r⟩
  · obtain ⟨z, its, n, r, e⟩ := h.ok I.hok
    exact ⟨its, r, ⟨_, n, e, rfl, rfl, rfl⟩, z⟩
  · refine ⟨its.toList, r, ⟨o, n, I.kIn a o hk, hc, hd, by simpa using hs⟩, ?_⟩
    have e := r.length
    simp only [Array.length_toList] at e
    omega
theorem Inv.tuple (I : Inv X pins σ H s) (h : SqT X.K H a xs) : ∃ its : List Value, Vals xs its ∧ IsTup s.heap a its.toArray ∧ xs.length ≤ sizeLine := by
  rcases h with h | ⟨o, its, n, hk, hc, hs, hz, r⟩
  · obtain ⟨z, its, r, p⟩ := h.ok I.hok
    exact ⟨its, r, p, z⟩
  · refine ⟨its.toList, r, ⟨o, I.kIn a o hk, hc, n, by simpa using hs⟩, ?_⟩
    have e := r.length
    simp only [Array.length_toList] at e
    omega
theorem Inv.list_inj (I : Inv X pins σ H s) (h : SqL X.K H a xs) (h' : SqL X.K H a ys) : xs = ys := by
  obtain ⟨its, r, ⟨o, n, e, _, _, d⟩, _⟩ := I.list h
  obtain ⟨its', r', ⟨o', n', e', _, _, d'⟩, _⟩ := I.list h'
  rw [e] at e'; cases e'
  rw [d] at d'
  injection d' with d1 _
  have : its = its' := by simpa using congrArg Array.toList d1
  subst this
  exact r.inj r'
theorem Inv.tuple_inj (I : Inv X pins σ H s) (h : SqT X.K H a xs) (h' : SqT X.K H a ys) : xs = ys := by
  obtain ⟨its, r, ⟨o, e, _, n, d⟩, _⟩ := I.tuple h
  obtain ⟨its', r', ⟨o', e', _, n', d'⟩, _⟩ := I.tuple h'
  rw [e] at e'; cases e'
  rw [d] at d'
  injection d' with d1 _
  have : its = its' := by simpa using congrArg Array.toList d1
  subst this
  exact r.inj r'
end

/-! ### another wish about exceptions -/
abbrev Cx.wish (X : Cx) (E : Value → Shared → Prop) : Cx := { X with xe := E }
/-- no exception leaves -/
abbrev Cx.nox (X : Cx) : Cx := X.wish fun _ _ => False
theorem Cx.Ok.wish {X : Cx} (ok : X.Ok) (E : Value → Shared → Prop) : (X.wish E).Ok :=
  ⟨ok.mod, ok.kind, ok.glob, ok.blt, ok.above, ok.inj, ok.has, ok.cab, ok.hd, ok.frames, ok.stk, ok.exf, ok.bs, ok.bsz, ok.noex, ok.exfs, ok.funs, ok.frf⟩
theorem Cx.Ok.unwish {X : Cx} {E : Value → Shared → Prop} (ok : (X.wish E).Ok) : X.Ok :=
  ⟨ok.mod, ok.kind, ok.glob, ok.blt, ok.above, ok.inj, ok.has, ok.cab, ok.hd, ok.frames, ok.stk, ok.exf, ok.bs, ok.bsz, ok.noex, ok.exfs, ok.funs, ok.frf⟩
section
variable {X : Cx} {pins : List (Addr × Obj)} {σ : St} {H : Hp} {s : Shared} {E : Value → Shared → Prop}
theorem Inv.wish (I : Inv X pins σ H s) (E : Value → Shared → Prop) : Inv (X.wish E) pins σ H s := ⟨I.ok.wish E, I.os, I.bare, I.base, I.loc, I.cell, I.free, I.freeC, I.pin, I.hok, I.len⟩
theorem Inv.unwish (I : Inv (X.wish E) pins σ H s) : Inv X pins σ H s := ⟨I.ok.unwish, I.os, I.bare, I.base, I.loc, I.cell, I.free, I.freeC, I.pin, I.hok, I.len⟩
theorem SP.unwish {D : Ends} {f : Flow} {s' : Shared} (h : SP (X.wish E) pins D f s') : SP X pins D f s' := by
  cases f with
  | next => obtain ⟨σ', H', I, q⟩ := h; exact ⟨σ', H', I.unwish, q⟩
  | brk => obtain ⟨σ', H', I, q⟩ := h; exact ⟨σ', H', I.unwish, q⟩
  | cont => obtain ⟨σ', H', I, q⟩ := h; exact ⟨σ', H', I.unwish, q⟩
  | ret u => obtain ⟨v, σ', H', I, r, q⟩ := h; exact ⟨v, σ', H', I.unwish, r, q⟩
theorem PE.nox {e : Expr} {t : TE} (h : PE X.nox e t) : PE X e t := fun pins s σ H Q I hw =>
  wpAny_mono (h pins s σ H Q (I.wish _) hw) (fun _ _ ⟨v, H', I', r, q⟩ => ⟨v, H', I'.unwish, r, q⟩) fun _ _ z => False.elim z
theorem PT.nox {e : Expr} {t : TT} (h : PT X.nox e t) : PT X e t := fun pins s σ H Q I hw =>
  wpAny_mono (h pins s σ H Q (I.wish _) hw) (fun _ _ ⟨H', I', q⟩ => ⟨H', I'.unwish, q⟩) fun _ _ z => False.elim z
theorem PSs.nox {st : List Stmt} {t : TS} (h : PSs X.nox st t) : PSs X st t := fun pins s σ H D I hw =>
  wpAny_mono (h pins s σ H D (I.wish _) hw) (fun _ _ q => q.unwish) fun _ _ z => False.elim z
end

/-! ### blocks and small statements -/
section
variable {X : Cx} {st : Stmt} {rest : List Stmt} {t u : TS} {e : Expr} {te : TE} {pos : Pos}
def tNext : TS := fun D σ H => D.nx σ H
def tSeq (t u : TS) : TS := fun D σ H => t { D with nx := u D } σ H
theorem pss_nil : PSs X [] tNext := fun _ _ σ H _ I h => wpAny_execs_nil ⟨σ, H, I, h⟩
theorem pss_cons (h1 : PS X st t) (h2 : PSs X rest u) : PSs X (st :: rest) (tSeq t u) := by
  intro pins s σ H D I h
  refine wpAny_execs_cons (thn (h1 pins s σ H { D with nx := u D } I h) fun f s1 q => ?_)
  cases f with
  | next =>
    obtain ⟨σ', H', I', q⟩ := q
    exact h2 pins s1 σ' H' D I' q
  | ret v => exact q
  | brk => exact q
  | cont => exact q
theorem pss_one (h1 : PS X st t) : PSs X [st] t := by
  intro pins s σ H D I h
  refine wpAny_execs_cons (thn (h1 pins s σ H D I h) fun f s1 q => ?_)
  cases f with
  | next => exact wpAny_execs_nil q
  | ret v => exact q
  | brk => exact q
  | cont => exact q
/-- in a def's body nothing is shown -/
theorem Inv.quiet {pins : List (Addr × Obj)} {σ : St} {H : Hp} {s : Shared} (I : Inv X pins σ H s) : interactive X.env = false := by simp [interactive, I.ok.kind]
/-- an expression whose value is dropped -/
def tDrop (te : TE) : TS := fun D σ H => te σ H fun _ H1 => D.nx σ H1
theorem ps_expr (he : PE X e te) (hs : swapsWith e none pos.line X.env = pure false := by rfl) : PS X (.Expr e pos) (tDrop te) := by
  intro pins s σ H D I h
  exact wpAny_Expr_any (thn (he pins s σ H _ I h) fun v s1 ⟨x, H1, I1, r1, q1⟩ => ⟨σ, H1, I1, q1⟩) I.quiet hs
def tRet (te : TE) : TS := fun D σ H => te σ H D.rt
theorem ps_ret (he : PE X e te) : PS X (.Return (some e) pos) (tRet te) := by
  intro pins s σ H D I h
  exact wpAny_Return_some (thn (he pins s σ H _ I h) fun v s1 ⟨x, H1, I1, r1, q1⟩ => ⟨x, σ, H1, I1, r1, q1⟩)
def tIfS (c : TT) (t u : TS) : TS := fun D σ H => c σ H fun b H1 => if b = true then t D σ H1 else u D σ H1
theorem ps_if {c : Expr} {a b : List Stmt} {tc : TT} (hc : PT X c tc) (ha : PSs X a t) (hb : PSs X b u) : PS X (.If c a b pos) (tIfS tc t u) := by
  intro pins s σ H D I h
  refine wpAny_If (thn (hc pins s σ H _ I h) fun d s1 ⟨H1, I1, q1⟩ => ?_)
  cases d with
  | true => exact ha pins s1 σ H1 D I1 q1
  | false => exact hb pins s1 σ H1 D I1 q1
end

/-! ### targets -/
abbrev TG := V → St → Hp → (St → Hp → Prop) → Prop
def PG (X : Cx) (target : Expr) (t : TG) : Prop :=
  ∀ (pins : List (Addr × Obj)) (s : Shared) (σ : St) (H : Hp) (v : V) (u : Value) (Q : St → Hp → Prop), Inv X pins σ H s → RelV v u → t v σ H Q →
    wpAny (model X.prog X.w) X.A (assign target X.env u) (fun _ s' => ∃ σ' H', Inv X pins σ' H' s' ∧ Q σ' H') X.xe s
/-- o[i] = v, by values -/
abbrev TSet := V → V → V → Hp → (Hp → Prop) → Prop
def PSet (X : Cx) (t : TSet) : Prop :=
  ∀ (pins : List (Addr × Obj)) (s : Shared) (σ : St) (H : Hp) (o i v : V) (ov iv u : Value) (Q : Hp → Prop), Inv X pins σ H s → RelV o ov → RelV i iv → RelV v u → t o i v H Q →
    wpAny (model X.prog X.w) X.A (setItem ov iv u) (fun _ s' => ∃ H', Inv X pins σ H' s' ∧ Q H') X.xe s
section
variable {X : Cx} {pos : Pos}
def gName (i : Nat) : TG := fun v σ H Q => Q (σ.set i (some v)) H
theorem pg_name {i : Nat} {x : Str} (hN : X.N.Nodup) (hi : X.N[i]? = some x) (hx : Loc X.env.scope x) (hf : X.fn x = true ∨ X.env.scope.names.lookup x = some .local := by first | exact .inl rfl | exact .inr rfl | assumption) : PG X (.Name x pos) (gName i) := by
  intro pins s σ H v u Q I r h
  exact wpAny_assign_Name (store_ok I hN hi hx r (fun s' I' => ⟨_, H, I', h⟩) hf)
/-- o[i] = .. -/
def gSub (to ti : TE) (t : TSet) : TG := fun v σ H Q => to σ H fun o H1 => ti σ H1 fun i H2 => t o i v H2 fun H3 => Q σ H3
theorem pg_sub {o i : Expr} {to ti : TE} {t : TSet} (ho : PE X o to) (hi : PE X i ti) (hs : PSet X t)
    (ha : ∀ v, assign (.Subscript o i pos) X.env v = (do
      let ov ← holding [v] (eval o X.env)
      let iv ← holding [v, ov] (eval i X.env)
      standAt pos
      holding [v, ov, iv] (setItem ov iv v)
      release [v, ov, iv] []) := by intro _; rfl) : PG X (.Subscript o i pos) (gSub to ti t) := by
  intro pins s σ H v u Q I r h
  rw [ha]
  refine wpAny_bind (wpAny_holding (thn (ho pins s σ H _ I h) fun ov s1 ⟨x, H1, I1, r1, q1⟩ => ?_))
  refine wpAny_bind (wpAny_holding (thn (hi pins s1 σ H1 _ I1 q1) fun iv s2 ⟨y, H2, I2, r2, q2⟩ => ?_))
  refine wpAny_bind (wpAny_standAt (wpAny_bind (wpAny_holding (thn (hs pins s2 σ H2 x y v ov iv u _ I2 r1 r2 r q2) fun _ s3 ⟨H3, I3, q3⟩ => ?_))))
  exact wpAny_release ⟨σ, H3, I3, q3⟩
/-- target = value -/
def tAsg (te : TE) (g : TG) : TS := fun D σ H => te σ H fun x H1 => g x σ H1 D.nx
theorem ps_asg {tg e : Expr} {te : TE} {g : TG} (he : PE X e te) (hg : PG X tg g) (hs : swapsWithSole [tg] e pos.line X.env = pure false := by rfl) (hw : swappedStores [tg] e X.env = pure none := by rfl)
    (h1 : (assignEach [tg] X.env).map (·.2) = [assign tg X.env] := by rfl) : PS X (.Assign [tg] e pos) (tAsg te g) := by
  intro pins s σ H D I h
  refine wpAny_Assign_stores (thn (he pins s σ H _ I h) fun v s1 ⟨x, H1, I1, r1, q1⟩ => ?_) hs hw
  rw [h1]
  exact thn (hg pins s1 σ H1 x v _ I1 r1 q1) fun _ s2 q => q
/-- name = value -/
theorem ps_set {i : Nat} {x : Str} {e : Expr} {te : TE} {pos' : Pos} (hN : X.N.Nodup) (hi : X.N[i]? = some x) (hx : Loc X.env.scope x) (he : PE X e te) (hs : swapsWith e (some (.Name x pos')) pos.line X.env = pure false := by rfl) (hf : X.fn x = true ∨ X.env.scope.names.lookup x = some .local := by first | exact .inl rfl | exact .inr rfl | assumption) :
    PS X (.Assign [.Name x pos'] e pos) (tAsg te (gName i)) := by
  intro pins s σ H D I h
  refine wpAny_Assign_Name (thn (he pins s σ H _ I h) fun v s1 ⟨y, H1, I1, r1, q1⟩ => ?_) hs
  exact store_ok I1 hN hi hx r1 (fun s2 I2 => ⟨_, H1, I2, q1⟩) hf
end

/-! ### while -/
section
variable {X : Cx} {pos : Pos}
end

/-! ### what a loop or a comprehension walks -/
/-- at turn i: it yields x (the heap may grow), or it stops -/
structure It where
  go : Nat → Hp → Prop
  yld : Nat → Hp → V → Hp → Prop
  stop : Nat → Hp → Prop
/-- the iterator's own objects may turn: they are not the frame's, not pinned, younger than the entry (or a comprehension's own) -/
def FpOk (X : Cx) (pins : List (Addr × Obj)) (H : Hp) (b : Addr) : Prop :=
  H b = none ∧ b ≠ X.env.locals ∧ b ∉ X.fs ∧ (b ∈ X.ex ∨ X.s₀.heap.objs.size ≤ b) ∧ (∀ x c, X.env.cells.lookup x = some c → c ≠ b) ∧ ∀ p ∈ X.pn ++ pins, p.1 ≠ b
theorem Inv.fpOk {X : Cx} {pins : List (Addr × Obj)} {σ : St} {H H' : Hp} {s : Shared} {b : Addr} (I : Inv X pins σ H s) (hb : s.heap.objs.size ≤ b) (hn : H' b = none) : FpOk X pins H' b := by
  refine ⟨hn, Nat.ne_of_gt (Nat.lt_of_lt_of_le I.lt hb), I.nofs hb, .inr (Nat.le_trans I.sz hb), fun x c e z => ?_, fun p hp z => ?_⟩
  · obtain ⟨v, q⟩ := I.cell x c e
    exact absurd (Nat.lt_of_lt_of_le q.lt (by rw [z]; exact hb)) (Nat.lt_irrefl _)
  · exact absurd (Nat.lt_of_lt_of_le (Heap.lt_size (I.pin p hp).1) (by rw [z]; exact hb)) (Nat.lt_irrefl _)
structure Turn (P : Program) (w : World) (K : PySem.W.Frag) (tg : Expr) (J : It) (fp : List Addr) (it : Addr) (tn : Nat → Heap → Prop) : Prop where
  mem : it ∈ fp
  obj : ∀ i h, tn i h → ∀ b ∈ fp, ∃ o, h.get? b = some o ∧ ∀ v, o.data ≠ .cell v
  keep : ∀ i h h', tn i h → (∀ b ∈ fp, ∀ o, h.get? b = some o → h'.get? b = some o) → tn i h'
  item : ∀ (X : Cx), X.prog = P → X.w = w → X.K = K → X.calm = true → ∀ (i : Nat) (pins : List (Addr × Obj)) (s : Shared) (σ : St) (H : Hp) (E : Value → Shared → Prop), Inv X pins σ H s → (∀ b ∈ fp, FpOk X pins H b) → tn i s.heap → J.go i H →
    wpAny (model P w) X.A (pyNext (.ref it)) (fun r s1 => ∃ u, r = some u ∧
      wpAny (model P w) X.A (letOwnedTupleGo tg (.ref it) u) (fun _ s2 => ∃ x H', Inv X pins σ H' s2 ∧ RelV x u ∧ J.yld i H x H' ∧ tn (i + 1) s2.heap ∧ ∀ b ∈ fp, H' b = none) E s1) E s
  done : ∀ (X : Cx), X.prog = P → X.w = w → X.K = K → X.calm = true → ∀ (i : Nat) (pins : List (Addr × Obj)) (s : Shared) (σ : St) (H : Hp) (E : Value → Shared → Prop), Inv X pins σ H s → (∀ b ∈ fp, FpOk X pins H b) → tn i s.heap → J.stop i H →
    wpAny (model P w) X.A (pyNext (.ref it)) (fun r s1 => r = none ∧ Inv X pins σ H s1) E s
  self : ∀ (A : Around) (i : Nat) (s : Shared) (Q : Value → Shared → Prop) (E : Value → Shared → Prop), tn i s.heap → Q (.ref it) s → wpAny (model P w) A (pyIter (.ref it)) Q E s
abbrev TI := St → Hp → (It → Hp → Prop) → Prop
/-- an iterator has come -/
def PIE (X : Cx) (pins : List (Addr × Obj)) (σ : St) (tg : Expr) (R : It → Hp → Prop) (itv : Value) (s2 : Shared) : Prop :=
  ∃ (it : Addr) (fp : List Addr) (tn : Nat → Heap → Prop) (J : It) (H' : Hp), itv = .ref it ∧ Inv X pins σ H' s2 ∧ Turn X.prog X.w X.K tg J fp it tn ∧ tn 0 s2.heap ∧ (∀ b ∈ fp, FpOk X pins H' b) ∧ R J H'
def PI (X : Cx) (tg iter : Expr) (wi : TI) : Prop :=
  ∀ (pins : List (Addr × Obj)) (s : Shared) (σ : St) (H : Hp) (R : It → Hp → Prop), Inv X pins σ H s → wi σ H R →
    wpAny (model X.prog X.w) X.A (eval iter X.env) (fun v s1 => wpAny (model X.prog X.w) X.A (pyIter v) (PIE X pins σ tg R) X.xe s1) X.xe s

/-- the step ahead of the store is nothing for an iterator that keeps no tuple -/
theorem go_of {M : Model} {A : Around} {E : Value → Shared → Prop} {s : Shared} {tg : Expr} {it : Addr} {u : Value} {o : Obj} {n : String} {vs : Array Value} {Q : Unit → Shared → Prop} (ho : s.heap.get? it = some o) (hc : o.cls = .type n) (hd : o.data = .fields vs)
    (hn : ["enumerate", "zip", "dict_itemiterator", "dict_reverseitemiterator", "odict_iterator", "itertools.zip_longest", "itertools.pairwise"].contains n = false) (hQ : Q () s) : wpAny M A (letOwnedTupleGo tg (.ref it) u) Q E s := by
  unfold letOwnedTupleGo
  cases tg <;> first
    | exact wpAny_pure hQ
    | (cases u <;> first
        | exact wpAny_pure hQ
        | (refine wpAny_bind (wpAny_load ho ?_)
           rw [hc, hd]
           show wpAny M A (if (["enumerate", "zip", "dict_itemiterator", "dict_reverseitemiterator", "odict_iterator", "itertools.zip_longest", "itertools.pairwise"].contains n && vs[0]? == some (rawInt _)) = true then _ else _) Q E s
           rw [if_neg (by intro h; rw [hn, Bool.false_and] at h; cases h)]
           exact wpAny_pure hQ))

/-- the list at a, as it stands at each turn (a loop may append to it) -/
def Itl (K : PySem.W.Frag) (a : Addr) : It :=
  ⟨fun i H => ∃ xs x, SqL K H a xs ∧ xs[i]? = some x, fun i H x H' => H' = H ∧ ∀ xs, SqL K H a xs → xs[i]? = some x, fun i H => ∃ xs, SqL K H a xs ∧ xs.length ≤ i⟩
/-- lo, lo + 1, .. (n of them) -/
def Itr (lo : Int) (n : Nat) : It := ⟨fun i _ => i < n, fun i H x H' => H' = H ∧ x = .int (lo + i), fun i _ => n ≤ i⟩
theorem turn_list {P : Program} {w : World} {K : PySem.W.Frag} {tg : Expr} (a it : Addr) : Turn P w K tg (Itl K a) [it] it (fun i h => h.IsListIter it a i) where
  mem := by simp
  obj := fun i h st b hb => by
    have e : b = it := by simpa using hb
    subst e
    obtain ⟨o, e, c, d⟩ := st
    exact ⟨o, e, fun v z => by rw [d] at z; cases z⟩
  keep := fun i h h' st k => st.at fun o e => k it (by simp) o e
  item := by
    intro X hP hw hK hc i pins s σ H E I hf st hg
    subst hP hw hK
    obtain ⟨xs, x, hq, hx⟩ := hg
    obtain ⟨its, rv, p, hz⟩ := I.list hq
    obtain ⟨u, hu, ru⟩ := rv.get hx
    obtain ⟨f0, f1, f2, f3, f4, f5⟩ := hf it (by simp)
    refine wpAny_pyNext_list_item st p.isList (x := u) (by simpa using hu) fun h' st' sb => ?_
    have I1 : Inv X pins σ H { s with heap := h' } := I.turned (t' := s.toks) (fun b o hb e => (sb.2 b hb).trans e) f0 f1 f3 f4 f5
    obtain ⟨o, e, c, d⟩ := id st'
    exact ⟨u, rfl, go_of (s := { s with heap := h' }) e c d (by decide) ⟨x, H, I1, ru, ⟨rfl, fun ys hy => by rw [I.list_inj hy hq]; exact hx⟩, st', fun b hb => (hf b hb).1⟩⟩
  done := by
    intro X hP hw hK hc i pins s σ H E I hf st hg
    subst hP hw hK
    obtain ⟨xs, hq, hx⟩ := hg
    obtain ⟨its, rv, p, hz⟩ := I.list hq
    obtain ⟨f0, f1, f2, f3, f4, f5⟩ := hf it (by simp)
    have hl := rv.length
    exact wpAny_pyNext_list_end (I.ok.hd hc) st p.isList (by simp; omega) fun h' eb => ⟨rfl, I.turned (t' := s.toks) (fun b o hb e => eb b o hb e) f0 f1 f3 f4 f5⟩
  self := fun _ _ _ _ _ st h => wpAny_pyIter_listiter st h
theorem turn_range {P : Program} {w : World} {K : PySem.W.Frag} {tg : Expr} (it : Addr) (lo : Int) (n : Nat) : Turn P w K tg (Itr lo n) [it] it (fun i h => IsRangeIter h it (lo + (i : Nat) * 1) ((n : Int) - (i : Nat)) 1) where
  mem := by simp
  obj := fun i h st b hb => by
    have e : b = it := by simpa using hb
    subst e
    exact ⟨_, st, fun v z => by
      have z' : Data.fields _ = Data.cell v := z
      cases z'⟩
  keep := fun i h h' st k => k it (by simp) _ st
  item := by
    intro X hP hw hK hc i pins s σ H E I hf st hg
    subst hP hw hK
    obtain ⟨f0, f1, f2, f3, f4, f5⟩ := hf it (by simp)
    have W := Walks.range (prog := X.prog) (w := X.w) (I.ok.hd hc) it lo 1 n
    refine W.item i s _ _ hg st fun v h' tk hv st' kk => ?_
    obtain ⟨t, rfl⟩ := hv
    have I1 : Inv X pins σ H { s with heap := h', toks := tk } := I.turned (fun b o hb e => kk b o (by simpa using hb) e) f0 f1 f3 f4 f5
    refine ⟨_, rfl, go_of (s := { s with heap := h', toks := tk }) (n := "range_iterator") st' rfl rfl (by decide) ⟨.int (lo + i), H, I1, ⟨t, ?_⟩, ⟨rfl, rfl⟩, st', fun b hb => (hf b hb).1⟩⟩
    rw [Int.mul_one]
  done := by
    intro X hP hw hK hc i pins s σ H E I hf st hg
    subst hP hw hK
    obtain ⟨f0, f1, f2, f3, f4, f5⟩ := hf it (by simp)
    exact wpAny_pyNext_range_end (I.ok.hd hc) st (by have : n ≤ i := hg; omega) fun h' eb => ⟨rfl, I.turned (t' := s.toks) (fun b o hb e => eb b o hb e) f0 f1 f3 f4 f5⟩
  self := fun _ _ _ _ _ st h => wpAny_pyIter_rangeiter st h
end L2

namespace L2
open PySem PySem.Spec PyProof.Rows
section
variable {X : Cx} {tg : Expr}
def iList (K : PySem.W.Frag) (tl : TE) : TI := fun σ H R => tl σ H fun x H1 => ∃ a, x = .ref a ∧ (∃ xs, SqL K H1 a xs) ∧ R (Itl K a) H1
theorem pi_list {l : Expr} {tl : TE} (hl : PE X l tl) : PI X tg l (iList X.K tl) := by
  intro pins s σ H R I h
  refine thn (hl pins s σ H _ I h) fun v s1 ⟨x, H1, I1, r1, q1⟩ => ?_
  obtain ⟨a, e, ⟨xs, hq⟩, q⟩ := q1
  subst e
  cases r1
  obtain ⟨its, rv, p, hz⟩ := I1.list hq
  refine wpAny_pyIter_list p.isList ?_
  refine ⟨s1.heap.objs.size, [s1.heap.objs.size], _, _, H1, rfl, I1.kept (t' := s1.toks) fun b o e => Heap.get?_push_of_some _ e, turn_list a _, ⟨_, Heap.get?_push_size _ rfl, rfl, rfl⟩, fun b hb => ?_, q⟩
  have e : b = s1.heap.objs.size := by simpa using hb
  subst e
  exact I1.fpOk (Nat.le_refl _) (I1.hok.fresh (Nat.le_refl _))
/-- a range object just made, walked -/
theorem range_it {pins : List (Addr × Obj)} {σ : St} {H : Hp} {s : Shared} {R : It → Hp → Prop} {E : Value → Shared → Prop} {lo hi : Int} {t u v : Tok} {tk : Nat} (I : Inv X pins σ H s) (h1 : -(2 ^ 62) ≤ lo) (h2 : lo < 2 ^ 62) (h3 : -(2 ^ 62) ≤ hi) (h4 : hi < 2 ^ 62)
    (q : R (Itr lo (hi - lo).toNat) H) : wpAny (model X.prog X.w) X.A (pyIter (.ref s.heap.objs.size)) (PIE X pins σ tg R) E { s with heap := s.heap.push { cls := .type "range", data := .fields #[.int lo t, .int hi u, .int 1 v] }, toks := tk } := by
  refine wpAny_pyIter_range (IsRange.new ..) (small_one h1 h2 h3 h4) ?_
  have I1 : Inv X pins σ H { s with heap := s.heap.push { cls := .type "range", data := .fields #[.int lo t, .int hi u, .int 1 v] }, toks := tk } := I.kept fun b o e => Heap.get?_push_of_some _ e
  refine ⟨(s.heap.push { cls := .type "range", data := .fields #[.int lo t, .int hi u, .int 1 v] }).objs.size, [(s.heap.push { cls := .type "range", data := .fields #[.int lo t, .int hi u, .int 1 v] }).objs.size], _, _, H, rfl,
    I1.kept (t' := tk) fun b o e => Heap.get?_push_of_some _ e, turn_range _ lo (hi - lo).toNat, ?_, fun b hb => ?_, q⟩
  · have e1 : lo + ((0 : Nat) : Int) * 1 = lo := by simp
    have e2 : (((hi - lo).toNat : Nat) : Int) - ((0 : Nat) : Int) = Builtin.Range.rangeSize lo hi 1 := by rw [rangeSize_one]; split <;> omega
    show IsRangeIter _ _ (lo + ((0 : Nat) : Int) * 1) ((((hi - lo).toNat : Nat) : Int) - ((0 : Nat) : Int)) 1
    rw [e1, e2]
    exact Heap.get?_push_size _ rfl
  · have e : b = (s.heap.push { cls := .type "range", data := .fields #[.int lo t, .int hi u, .int 1 v] }).objs.size := by simpa using hb
    subst e
    exact I1.fpOk (Nat.le_refl _) (I1.hok.fresh (Nat.le_refl _))
def iRng1 (ta : TA) : TI := fun σ H R => ta σ H fun vs H1 => ∃ j : Int, vs = [.int j] ∧ -(2 ^ 62) ≤ j ∧ j < 2 ^ 62 ∧ R (Itr 0 j.toNat) H1
theorem pi_range1 {a : Expr} {ta : TA} {p pos : Pos} (hg : Gl X "range") (hm : X.mg "range" = none) (ha : PA X [a] ta) (hs : starEach [a] X.env = [(false, eval a X.env)] := by rfl) : PI X tg (.Call (.Name "range" p) [a] [] pos) (iRng1 ta) := by
  intro pins s σ H R I h
  refine Call_ (ld_blt I hg hm boot_range (PyProof.Rows.callWith_type1 (thn (ha pos pins s σ H _ I h) fun us s1 ⟨vs, H1, I1, r1, q1⟩ => ?_) hs rfl))
  obtain ⟨j, e, q1, q2, q⟩ := q1
  subst e
  cases r1 with
  | cons r rr =>
    cases rr
    obtain ⟨t, rfl⟩ := r
    exact call_range_1 (range_it I1 (by omega) (by omega) q1 q2 (by simpa using q))
/-! ### for -/
/-- W: the invariant by the turn and a measure; N: what the body is to reach -/
def tFor (wi : TI) (g : TG) (tb : TS) : TS := fun D σ H => wi σ H fun J H1 => ∃ W : Nat → Nat → St → Hp → Prop, (∃ m, W 0 m σ H1) ∧ ∀ i m σ H, W i m σ H →
  (J.stop i H ∧ D.nx σ H) ∨ (J.go i H ∧ ∃ N : St → Hp → Prop, (∀ σ' H', N σ' H' → ∃ m', m' < m ∧ W (i + 1) m' σ' H') ∧ ∀ x H', J.yld i H x H' → g x σ H' fun σ2 H2 => tb { D with nx := N, ct := N, bk := D.nx } σ2 H2)
/-- the records at fp as they stand -/
def pinsAt (fp : List Addr) (h : Heap) : List (Addr × Obj) := fp.filterMap fun b => (h.get? b).map fun o => (b, o)
theorem mem_pinsAt {fp : List Addr} {h : Heap} {b : Addr} {o : Obj} (hb : b ∈ fp) (e : h.get? b = some o) : (b, o) ∈ pinsAt fp h := List.mem_filterMap.mpr ⟨b, hb, by rw [e]; rfl⟩
theorem of_pinsAt {fp : List Addr} {h : Heap} {p : Addr × Obj} (hp : p ∈ pinsAt fp h) : p.1 ∈ fp ∧ h.get? p.1 = some p.2 := by
  obtain ⟨b, hb, e⟩ := List.mem_filterMap.mp hp
  cases q : h.get? b with
  | none => rw [q] at e; cases e
  | some o =>
    rw [q] at e
    have e' : (b, o) = p := Option.some.inj e
    subst e'
    exact ⟨hb, q⟩
theorem Inv.pinned {pins : List (Addr × Obj)} {σ : St} {H : Hp} {s : Shared} {fp : List Addr} (I : Inv X pins σ H s) (hf : ∀ b ∈ fp, FpOk X pins H b) (ho : ∀ b ∈ fp, ∃ o, s.heap.get? b = some o ∧ ∀ v, o.data ≠ .cell v) : Inv X (pins ++ pinsAt fp s.heap) σ H s :=
  I.pins_of fun p hp => (List.mem_append.mp hp).elim (fun z => I.pin p (List.mem_append_right _ z)) fun z => by
    obtain ⟨hb, e⟩ := of_pinsAt z
    obtain ⟨f0, f1, f2, _⟩ := hf p.1 hb
    obtain ⟨o, e', d⟩ := ho p.1 hb
    rw [e] at e'; cases e'
    exact ⟨e, f0, f1, f2, d⟩
theorem Inv.unpinned {pins pl : List (Addr × Obj)} {σ : St} {H : Hp} {s : Shared} (I : Inv X (pins ++ pl) σ H s) : Inv X pins σ H s := I.pins_of fun p hp => I.pin p (List.mem_append_right _ (List.mem_append_left _ hp))
theorem ps_for {iter : Expr} {body : List Stmt} {wi : TI} {g : TG} {tb : TS} {pos : Pos} (hp : PassesOwn (model X.prog X.w) X.A X.env X.xe) (hc : X.calm = true) (hi : PI X tg iter wi) (hg : PG X tg g) (hb : PSs X body tb)
    (hs : ∀ x, foldedSetIterable iter X.env x = pure x := by intro _; rfl) : PS X (.For tg iter body [] pos) (tFor wi g tb) := by
  intro pins s σ H D I h
  refine wpAny_For (thn (hi pins s σ H _ I h) fun v s1 h1 => thn h1 fun itv s2 h2 => ?_) hs
  obtain ⟨it, fp, tn, J, H2, e, I2, T, st2, f2, W, ⟨m0, w0⟩, turn⟩ := h2
  subst e
  -- what stays true of the iterator's objects through the loop
  have stat : ∀ {H' : Hp}, (∀ b ∈ fp, H' b = none) → ∀ b ∈ fp, FpOk X pins H' b := fun hn b hb => ⟨hn b hb, (f2 b hb).2⟩
  refine codeAny_forLoop_any (fun n s' => ∃ i σ' H', Inv X pins σ' H' s' ∧ tn i s'.heap ∧ (∀ b ∈ fp, H' b = none) ∧ W i n σ' H') ?_ m0 ⟨0, σ, H2, I2, st2, fun b hb => (f2 b hb).1, w0⟩
  rintro n s3 ⟨i, σ3, H3, I3, st3, fr3, w3⟩
  rcases turn i n σ3 H3 w3 with ⟨stop, qn⟩ | ⟨go, N, hN, step⟩
  · refine wpAny_passesOwn hp (thn (T.done X rfl rfl rfl hc i pins s3 σ3 H3 X.xe I3 (stat fr3) st3 stop) fun r s4 ⟨hr, I4⟩ => ?_)
    subst hr
    exact wpAny_execs_nil ⟨σ3, H3, I4, qn⟩
  · refine wpAny_passesOwn hp (thn (T.item X rfl rfl rfl hc i pins s3 σ3 H3 X.xe I3 (stat fr3) st3 go) fun r s4 ⟨u, hr, h4⟩ => ?_)
    subst hr
    refine wpAny_passesOwn hp (thn h4 fun _ s5 ⟨x, H5, I5, r5, y5, st5, fr5⟩ => ?_)
    have I5' := I5.pinned (stat fr5) (T.obj _ _ st5)
    refine wpAny_passesOwn hp (thn (hg _ s5 σ3 H5 x u _ I5' r5 (step x H5 y5)) fun _ s6 ⟨σ6, H6, I6, q6⟩ => ?_)
    refine wpAny_passesOwn hp (thn (hb _ s6 σ6 H6 _ I6 q6) fun f s7 q7 => ?_)
    have again : ∀ {σ7 : St} {H7 : Hp}, Inv X (pins ++ pinsAt fp s5.heap) σ7 H7 s7 → N σ7 H7 → ∃ m, m < n ∧ ∃ i σ' H', Inv X pins σ' H' s7 ∧ tn i s7.heap ∧ (∀ b ∈ fp, H' b = none) ∧ W i m σ' H' := fun {σ7 H7} I7 n7 => by
      obtain ⟨m', hm, w7⟩ := hN σ7 H7 n7
      refine ⟨m', hm, i + 1, σ7, H7, I7.unpinned, T.keep _ _ _ st5 fun b hb o e => (I7.pin (b, o) (List.mem_append_right _ (List.mem_append_right _ (mem_pinsAt hb e)))).1, fun b hb => ?_, w7⟩
      obtain ⟨o, e, d⟩ := T.obj _ _ st5 b hb
      exact (I7.pin (b, o) (List.mem_append_right _ (List.mem_append_right _ (mem_pinsAt hb e)))).2.1
    cases f with
    | next => obtain ⟨σ7, H7, I7, n7⟩ := q7; exact again I7 n7
    | cont => obtain ⟨σ7, H7, I7, n7⟩ := q7; exact again I7 n7
    | brk => obtain ⟨σ7, H7, I7, q7⟩ := q7; exact ⟨σ7, H7, I7.unpinned, q7⟩
    | ret v => obtain ⟨x7, σ7, H7, I7, r7, q7⟩ := q7; exact ⟨x7, σ7, H7, I7.unpinned, r7, q7⟩
end

/-! ### the forms one uses -/
end L2

namespace L2
open PySem PySem.Spec PyProof.Rows

abbrev R2 := V → V → Hp → VK → Prop
/-- a two-place operation on values: f is binaryOp op, inplaceOp op or compareOp op -/
def OpR (X : Cx) (f : Value → Value → Sem Value) (r : R2) : Prop :=
  ∀ (pins : List (Addr × Obj)) (s : Shared) (σ : St) (H : Hp) (x y : V) (v u : Value) (Q : VK), Inv X pins σ H s → RelV x v → RelV y u → r x y H Q →
    wpAny (model X.prog X.w) X.A (f v u) (EP X pins σ Q) X.xe s
/-- a call of a value that is known (a builtin, a type) with values -/
def CallR (X : Cx) (f : Value) (r : List V → Hp → VK → Prop) : Prop :=
  ∀ (pins : List (Addr × Obj)) (s : Shared) (σ : St) (H : Hp) (xs : List V) (us : List Value) (Q : VK), Inv X pins σ H s → Vals xs us → r xs H Q →
    wpAny (model X.prog X.w) X.A (call f us) (EP X pins σ Q) X.xe s
def tOp (r : R2) (ta tb : TE) : TE := fun σ H Q => ta σ H fun x H1 => tb σ H1 fun y H2 => r x y H2 Q
/-- ints in, under C, and a value out -/
def rI (C : Int → Int → Prop) (g : Int → Int → V) : R2 := fun x y H Q => ∃ i j, x = .int i ∧ y = .int j ∧ C i j ∧ Q (g i j) H
def rI0 (g : Int → Int → V) : R2 := fun x y H Q => ∃ i j, x = .int i ∧ y = .int j ∧ Q (g i j) H
section
variable {X : Cx} {a b c : Expr} {ta tb tc : TE} {pos : Pos}

theorem binT (ha : PE X a ta) (hb : PE X b tb) {pins : List (Addr × Obj)} {s : Shared} {σ : St} {H : Hp} {R : V → V → Hp → Prop} (I : Inv X pins σ H s)
    (h : ta σ H fun x H1 => tb σ H1 fun y H2 => R x y H2) {Q : Value → Shared → Prop} {f : Value → Value → Sem Value}
    (hf : ∀ v u s2 x y H2, Inv X pins σ H2 s2 → RelV x v → RelV y u → R x y H2 → wpAny (model X.prog X.w) X.A (f v u) Q X.xe s2) :
    wpAny (model X.prog X.w) X.A (eval a X.env) (fun v s₁ => wpAny (model X.prog X.w) X.A (eval b X.env) (fun u s₂ => wpAny (model X.prog X.w) X.A (f v u) Q X.xe s₂) X.xe s₁) X.xe s := by
  refine thn (ha pins s σ H _ I h) fun v s1 ⟨x, H1, I1, r1, q1⟩ => ?_
  refine thn (hb pins s1 σ H1 _ I1 q1) fun u s2 ⟨y, H2, I2, r2, q2⟩ => ?_
  exact hf v u s2 x y H2 I2 r1 r2 q2

theorem pe_op {op : Operator} {r : R2} (ho : OpR X (binaryOp op) r) (ha : PE X a ta) (hb : PE X b tb) : PE X (.BinOp a op b pos) (tOp r ta tb) := by
  intro pins s σ H Q I h
  exact wpAny_BinOp (binT ha hb I h fun v u s2 x y H2 I2 rx ry q => ho pins s2 σ H2 x y v u Q I2 rx ry q)
/-! ### ints -/
theorem opI {f : Value → Value → Sem Value} {C : Int → Int → Prop} {g : Int → Int → Int}
    (rule : ∀ (i j : Int) (t u : Tok) (s : Shared) (Q : Value → Shared → Prop) (E : Value → Shared → Prop), C i j → Q (.int (g i j) s.toks) { s with toks := s.toks + 1 } → wpAny (model X.prog X.w) X.A (f (.int i t) (.int j u)) Q E s) :
    OpR X f (rI C fun i j => .int (g i j)) := by
  intro pins s σ H x y v u Q I rx ry h
  obtain ⟨i, j, rfl, rfl, hc, q⟩ := h
  obtain ⟨t, rfl⟩ := rx
  obtain ⟨t', rfl⟩ := ry
  exact rule i j t t' s _ _ hc ⟨.int (g i j), H, I.tok _, ⟨_, rfl⟩, q⟩
theorem opI0 {f : Value → Value → Sem Value} {g : Int → Int → Int}
    (rule : ∀ (i j : Int) (t u : Tok) (s : Shared) (Q : Value → Shared → Prop) (E : Value → Shared → Prop), Q (.int (g i j) s.toks) { s with toks := s.toks + 1 } → wpAny (model X.prog X.w) X.A (f (.int i t) (.int j u)) Q E s) :
    OpR X f (rI0 fun i j => .int (g i j)) := by
  intro pins s σ H x y v u Q I rx ry h
  obtain ⟨i, j, rfl, rfl, q⟩ := h
  obtain ⟨t, rfl⟩ := rx
  obtain ⟨t', rfl⟩ := ry
  exact rule i j t t' s _ _ ⟨.int (g i j), H, I.tok _, ⟨_, rfl⟩, q⟩
theorem opB0 {f : Value → Value → Sem Value} {g : Int → Int → Bool}
    (rule : ∀ (i j : Int) (t u : Tok) (s : Shared) (Q : Value → Shared → Prop) (E : Value → Shared → Prop), Q (.bool (g i j)) s → wpAny (model X.prog X.w) X.A (f (.int i t) (.int j u)) Q E s) :
    OpR X f (rI0 fun i j => .bl (g i j)) := by
  intro pins s σ H x y v u Q I rx ry h
  obtain ⟨i, j, rfl, rfl, q⟩ := h
  obtain ⟨t, rfl⟩ := rx
  obtain ⟨t', rfl⟩ := ry
  exact rule i j t t' s _ _ ⟨.bl (g i j), H, I, rfl, q⟩

def CPow (i j : Int) : Prop := 0 ≤ j ∧ j ≤ 1000000 ∧ i.natAbs < 2 ^ 64
def CMul (i j : Int) : Prop := (-(2 ^ 64) < i ∧ i < 2 ^ 64) ∨ (-(2 ^ 64) < j ∧ j < 2 ^ 64)
theorem CMul.ok {i j : Int} (h : CMul i j) : IntMulOk i j := by
  rcases h with ⟨h1, h2⟩ | ⟨h1, h2⟩
  · exact .of_left (intBits_le_64 h1 h2)
  · exact .of_right (intBits_le_64 h1 h2)
theorem op_add : OpR X (binaryOp .Add) (rI0 fun i j => .int (i + j)) := opI0 fun _ _ _ _ _ _ _ q => add_int q
theorem op_sub : OpR X (binaryOp .Sub) (rI0 fun i j => .int (i - j)) := opI0 fun _ _ _ _ _ _ _ q => sub_int q
/-- % by a positive divisor of any size -/
theorem op_mod : OpR X (binaryOp .Mod) (rI (fun _ j => 0 < j) fun i j => .int (i % j)) := opI fun i j _ _ _ _ _ hc q => by
  have h1 : (0 : Int) < j := hc
  exact mod_int' (by omega) (by rw [Int.fmod_eq_emod_of_nonneg i (by omega)]; exact q)
theorem op_pow : OpR X (binaryOp .Pow) (rI CPow fun i j => .int (i ^ j.toNat)) := opI fun _ _ _ _ _ _ _ hc q => pow_int_small hc.1 hc.2.1 hc.2.2 q
/-! ### bools among ints: n += (a < b) -/
end

/-! ### comparisons -/
section
variable {X : Cx} {a b c : Expr} {ta tb tc : TE} {pos : Pos}
theorem fin_bl {pins : List (Addr × Obj)} {σ : St} {H : Hp} {s : Shared} {Q : VK} {k k' : Bool} (I : Inv X pins σ H s) (q : Q (.bl k) H) (e : k = k') : EP X pins σ Q (.bool k') s := by
  subst e
  exact ⟨.bl k, H, I, rfl, q⟩
theorem op_lt : OpR X (compareOp .Lt) (rI0 fun i j => .bl (decide (i < j))) := opB0 fun _ _ _ _ _ _ _ q => lt_int q
theorem op_gt : OpR X (compareOp .Gt) (rI0 fun i j => .bl (decide (j < i))) := opB0 fun _ _ _ _ _ _ _ q => gt_int q
theorem op_ge : OpR X (compareOp .GtE) (rI0 fun i j => .bl (decide (j ≤ i))) := opB0 fun _ _ _ _ _ _ _ q => ge_int q
/-- is None, is not None: the right side a value none -/
theorem op_isN : OpR X (compareOp .Is) (fun x y H Q => y = .non ∧ Q (.bl (decide (x = .non))) H) := by
  intro pins s σ H x y v u Q I rx ry h
  obtain ⟨rfl, q⟩ := h
  cases ry
  refine is_none_gen (fin_bl I q ?_)
  cases x <;> first
    | (cases rx; rfl)
    | (obtain ⟨t, rfl⟩ := rx; rfl)
theorem op_notN : OpR X (compareOp .IsNot) (fun x y H Q => y = .non ∧ Q (.bl (!decide (x = .non))) H) := by
  intro pins s σ H x y v u Q I rx ry h
  obtain ⟨rfl, q⟩ := h
  cases ry
  refine isnot_none_gen (fin_bl I q ?_)
  cases x <;> first
    | (cases rx; rfl)
    | (obtain ⟨t, rfl⟩ := rx; rfl)

/-- two rules for one operation: by cases -/
theorem OpR.or {f : Value → Value → Sem Value} {r r' : R2} (h : OpR X f r) (h' : OpR X f r') : OpR X f (fun x y H Q => r x y H Q ∨ r' x y H Q) := by
  intro pins s σ H x y v u Q I rx ry q
  rcases q with q | q
  · exact h pins s σ H x y v u Q I rx ry q
  · exact h' pins s σ H x y v u Q I rx ry q

theorem nomark (b : Expr) {op : CmpOp} (h : op ≠ .In := by decide) (h2 : op ≠ .NotIn := by decide) : behindInMarks op b = false := by
  have e1 : (op == CmpOp.In) = false := by cases op <;> first | rfl | exact absurd rfl h
  have e2 : (op == CmpOp.NotIn) = false := by cases op <;> first | rfl | exact absurd rfl h2
  cases b <;> simp [behindInMarks, e1, e2]
/-- a comparison as a value; hm: nomark b, or (for in, not in) by with_unfolding_all rfl -/
theorem pe_cmpR {op : CmpOp} {r : R2} (ho : OpR X (compareOp op) r) (ha : PE X a ta) (hb : PE X b tb) (hm : behindInMarks op b = false) : PE X (.Compare a [op] [b] pos) (tOp r ta tb) := by
  intro pins s σ H Q I h
  exact wpAny_Compare1 (binT ha hb I h fun v u s2 x y H2 I2 rx ry q => ho pins s2 σ H2 x y v u Q I2 rx ry q) hm
/-- a reading of a value as a test -/
def tTest (t : TE) : TT := fun σ H Q => t σ H fun x H' => ∃ k, x = .bl k ∧ Q k H'
theorem pt_cmpR {op : CmpOp} {r : R2} (ho : OpR X (compareOp op) r) (ha : PE X a ta) (hb : PE X b tb) (hm : behindInMarks op b = false) : PT X (.Compare a [op] [b] pos) (tTest (tOp r ta tb)) := by
  intro pins s σ H Q I h
  refine wpAny_isTrue_Compare1 (thn (ha pins s σ H _ I h) fun v s1 ⟨x, H1, I1, r1, q1⟩ => thn (hb pins s1 σ H1 _ I1 q1) fun u s2 ⟨y, H2, I2, r2, q2⟩ =>
    thn (ho pins s2 σ H2 x y v u _ I2 r1 r2 q2) fun c s3 ⟨z, H3, I3, r3, k, e, q3⟩ => ?_) hm
  subst e
  cases r3
  exact wpAny_truthy_bool ⟨H3, I3, q3⟩
/-! ### truth -/
theorem line63 : (sizeLine : Nat) < 2 ^ 63 := by rw [sizeLine_eq]; decide
/-! ### strs and bytes -/
/-! ### scalar builtins, by CallR -/
theorem vals1 {x : V} {us : List Value} (r : Vals [x] us) : ∃ u, us = [u] ∧ RelV x u := by
  cases r with
  | cons r1 r2 => cases r2; exact ⟨_, rfl, r1⟩
theorem vals2 {x y : V} {us : List Value} (r : Vals [x, y] us) : ∃ u w', us = [u, w'] ∧ RelV x u ∧ RelV y w' := by
  cases r with
  | cons r1 r2 =>
    cases r2 with
    | cons r3 r4 => cases r4; exact ⟨_, _, rfl, r1, r3⟩
theorem call_abs : CallR X (.builtin "abs") (fun xs H Q => ∃ i, xs = [.int i] ∧ Q (.int (if i < 0 then -i else i)) H) := by
  intro pins s σ H xs us Q I r h
  obtain ⟨i, rfl, q⟩ := h
  obtain ⟨u, rfl, t, rfl⟩ := vals1 r
  exact call_abs_int fun u tk => ⟨.int (if i < 0 then -i else i), H, I.tok _, ⟨_, rfl⟩, q⟩
end
end L2

namespace L2
open PySem PySem.Spec PyProof.Rows

/-! ### an instance, its attributes a map -/
structure ObjM (h : Heap) (x dx C : Addr) (mA : Str → Option Value) : Prop where
  obj : h.get? x = some (PySem.W.instObj C dx)
  ns : h.Ns1 dx mA
  ne : dx ≠ x

theorem lookIn_ns {h : Heap} {dx : Addr} {mA : Str → Option Value} (n : h.Ns1 dx mA) : ∃ od, h.get? dx = some od ∧ ∀ name, PySem.W.lookIn name od = some (mA name) := by
  obtain ⟨o, es, ep, ho, hd, hk, _, hm⟩ := n
  refine ⟨o, ho, fun name => ?_⟩
  have e := hm name
  unfold nsFind findBy at e
  rw [← Array.find?_toList] at e
  unfold PySem.W.lookIn
  rw [hd]
  dsimp only
  split
  · rename_i y q
    rw [q] at e
    exact congrArg some e
  · rename_i q
    rw [q] at e
    have a : es.toList.any (·.refKey) = false := by
      rw [List.any_eq_false]
      intro y hy
      obtain ⟨z, t, hkey⟩ := hk y (Array.mem_toList_iff.mp hy)
      simp [DictEntry.refKey, hkey]
    have a' : ¬ es.toList.any (·.refKey) = true := by rw [a]; exact Bool.false_ne_true
    rw [if_neg a']
    exact congrArg some e

theorem ObjM.look {h : Heap} {x dx C : Addr} {mA : Str → Option Value} (I : ObjM h x dx C mA) : ∃ od, PySem.W.InstAt h x (PySem.W.instObj C dx) C (some od) ∧ ∀ name, PySem.W.lookIn name od = some (mA name) :=
  let ⟨od, ho, hl⟩ := lookIn_ns I.ns
  ⟨od, ⟨I.obj, rfl, rfl, ho⟩, hl⟩

section
variable {prog : Program} {w : World} {A : Around} {E : Value → Shared → Prop} {s : Shared} {K : PySem.W.Frag} {x dx C f : Addr} {mA : Str → Option Value} {name : Str} {v : Value}

end

/-! ### the attributes as a list of pairs -/
theorem RelO.none_of {o : Option Value} (r : RelO none o) : o = none := by
  cases o with
  | none => rfl
  | some u => exact (show False from r).elim
section
variable {P : Program} {w : World} {H H' : Hp} {h h' : Heap} {a C dx : Addr} {fs fs' : List (Str × V)}
end

/-! ### what of the text a class must have -/
structure Cls (K : PySem.W.Frag) (C : Addr) : Prop where
  pg : PySem.W.plainGet K C Str.empty = true
  hd : PySem.W.hasDictIn K C = true
  po : PySem.W.plainOver K C = true
  sa : PySem.W.findIn K (.ref C) "__setattr__" = some (some (.builtin "object.__setattr__"))
theorem Cls.get {K : PySem.W.Frag} {C : Addr} (c : Cls K C) (f : Str) : PySem.W.plainGet K C f = true := c.pg
section
variable {X : Cx} {pins : List (Addr × Obj)} {σ : St} {H : Hp} {s : Shared} {a C dx : Addr} {fs : List (Str × V)} {f : Str} {v : V} {A : Around} {E : Value → Shared → Prop}

/-- a new instance, tracked, without attributes -/
theorem Inv.made (I : Inv X pins σ H s) : Inv X pins σ (upd (upd H s.heap.objs.size (.own (s.heap.objs.size + 1))) (s.heap.objs.size + 1) (.ins C s.heap.objs.size []))
    { s with heap := (s.heap.push PySem.W.emptyDict).push (PySem.W.instObj C s.heap.objs.size) } := by
  have e1 : (s.heap.push PySem.W.emptyDict).get? s.heap.objs.size = some PySem.W.emptyDict := Heap.get?_push_size s.heap rfl
  have e2 : ((s.heap.push PySem.W.emptyDict).push (PySem.W.instObj C s.heap.objs.size)).get? (s.heap.objs.size + 1) = some (PySem.W.instObj C s.heap.objs.size) := by
    have := Heap.get?_push_size (s.heap.push PySem.W.emptyDict) (o := PySem.W.instObj C s.heap.objs.size) rfl
    rwa [Heap.size_push] at this
  have e3 : (s.heap.push PySem.W.emptyDict).Ns s.heap.objs.size (fun _ => none) := ⟨PySem.W.emptyDict, #[], _, e1, rfl, (fun e he => absurd he (by simp)), fun _ => rfl⟩
  have I1 := I.laid (a := s.heap.objs.size) (o := .own (s.heap.objs.size + 1)) (h' := s.heap.push PySem.W.emptyDict) (t' := s.toks) (fun b u q => Heap.get?_push_of_some _ q) (Nat.le_refl _) ⟨_, e1⟩
  refine I1.laid (a := s.heap.objs.size + 1) (o := .ins C s.heap.objs.size []) (t' := s.toks) (fun b u q => Heap.get?_push_of_some _ q) (Nat.le_of_eq (Heap.size_push _ _)) ?_
  have ne : s.heap.objs.size ≠ s.heap.objs.size + 1 := Nat.ne_of_lt (Nat.lt_succ_self _)
  refine ⟨by rw [upd_ne ne, upd_same], Nat.zero_le _, ne, e2, fun _ => none, (Heap.Ns1.of_empty e3).at fun o q => Heap.get?_push_of_some _ q, fun _ => True.intro, fun y hy => absurd rfl hy⟩

end

/-! ### readings and rules -/
section
variable {X : Cx} {o e value : Expr} {f : Str} {pos pos' tpos : Pos} {ta tv : TE}
end

/-! ### isinstance -/
section
variable {X : Cx} {pins : List (Addr × Obj)} {σ : St} {H : Hp} {s : Shared} {A : Around} {E : Value → Shared → Prop} {Q : Value → Shared → Prop} {c : Value} {b : Bool}
end
end L2

namespace L2
open PySem PySem.Spec PyProof.Rows

/-! ### room -/
structure Room (k : Nat) (A : Around) : Prop where
  hd : A.handled = none
  dp : A.depth + 3 * k + 5 < recursionLimit
  un : A.units + 16 * k + 200 < cLine
theorem Room.mono {j k : Nat} {A : Around} (r : Room k A) (h : j ≤ k) : Room j A := ⟨r.hd, by have := r.dp; omega, by have := r.un; omega⟩
theorem Room.deeper {k : Nat} {A : Around} (r : Room (k + 1) A) (env : Env) : Room k (A.deeper env) :=
  ⟨r.hd, by have := r.dp; show A.depth + 1 + 3 * k + 5 < _; omega, by have := r.un; show A.units + 3 + 16 * k + 200 < _; omega⟩
theorem Room.in1 {k : Nat} {A : Around} (r : Room (k + 1) A) : Room k A.in1 :=
  ⟨r.hd, by have := r.dp; show A.depth + 3 * k + 5 < _; omega, by have := r.un; show A.units + 1 + 16 * k + 200 < _; omega⟩
theorem Room.depth {k : Nat} {A : Around} (r : Room k A) : A.depth < recursionLimit := by have := r.dp; omega
theorem Room.units {k : Nat} {A : Around} (r : Room k A) : A.units + 64 < cLine := by have := r.un; omega
theorem Room.units0 {k : Nat} {A : Around} (r : Room k A) : A.units < cLine := by have := r.un; omega

/-! ### argument lists and displays -/
def tNil : TA := fun _ H Q => Q [] H
def tCons (ta : TE) (tr : TA) : TA := fun σ H Q => ta σ H fun x H1 => tr σ H1 fun xs H2 => Q (x :: xs) H2
section
variable {X : Cx} {e : Expr} {es : List Expr} {te : TE} {t : TA} {pos : Pos}
theorem pa_nil : PA X [] tNil := fun _ _ _ _ H Q I h => Calls.spliced_nil ⟨[], H, I, .nil, h⟩
theorem pa_cons (ha : PE X e te) (hr : PA X es t) (hs : starEach (e :: es) X.env = (false, eval e X.env) :: starEach es X.env := by rfl) : PA X (e :: es) (tCons te t) := by
  intro pos pins s σ H Q I h
  rw [hs]
  show wpAny _ _ (spliced ((false, eval e X.env) :: backTo pos (starEach es X.env))) _ _ s
  refine Calls.spliced_cons (thn (ha pins s σ H _ I h) fun u s1 ⟨x, H1, I1, r1, q1⟩ => ?_)
  exact thn (hr pos pins s1 σ H1 _ I1 q1) fun us s2 ⟨xs, H2, I2, r2, q2⟩ => ⟨x :: xs, H2, I2, .cons r1 r2, q2⟩

/-- a tuple, a list of written items -/
def tTup (t : TA) : TE := fun σ H Q => t σ H fun xs H1 => xs.length ≤ sizeLine ∧ ∀ p, H1 p = none → Q (.ref p) (upd H1 p (.tup xs))
def tLst (t : TA) : TE := fun σ H Q => t σ H fun xs H1 => xs.length ≤ sizeLine ∧ ∀ p, H1 p = none → Q (.ref p) (upd H1 p (.lst xs))
theorem pe_tup {x1} (h : PA X es t) : PE X (.Tuple es x1 pos) (tTup t) := by
  intro pins s σ H Q I hq
  refine wpAny_Tuple_spliced (thn (h pos pins s σ H _ I hq) fun us s1 ⟨xs, H1, I1, r, z, q⟩ => ⟨by rw [← r.length]; exact z, ?_⟩)
  have hf : H1 s1.heap.objs.size = none := I1.hok.fresh (Nat.le_refl _)
  refine ⟨.ref s1.heap.objs.size, upd H1 s1.heap.objs.size (.tup xs), I1.laid (t' := s1.toks) (fun b u e => Heap.get?_push_of_some _ e) (Nat.le_refl _) ?_, rfl, q _ hf⟩
  exact ⟨z, us, r, ⟨_, Heap.get?_push_size _ rfl, rfl, _, rfl⟩⟩
theorem pe_lst (h : PA X es t) : PE X (.List es pos) (tLst t) := by
  intro pins s σ H Q I hq
  refine wpAny_List_spliced (thn (h pos pins s σ H _ I hq) fun us s1 ⟨xs, H1, I1, r, z, q⟩ => ⟨by rw [← r.length]; exact z, ?_⟩)
  have hf : H1 s1.heap.objs.size = none := I1.hok.fresh (Nat.le_refl _)
  refine ⟨.ref s1.heap.objs.size, upd H1 s1.heap.objs.size (.lst xs), I1.laid (t' := s1.toks) (fun b u e => Heap.get?_push_of_some _ e) (Nat.le_refl _) ?_, rfl, q _ hf⟩
  exact ⟨z, us, 0, r, Heap.get?_push_size _ rfl⟩
end

/-! ### what a def promises -/
/-- a def's promise: the bound arguments in the parameters' order, the heap, the wanted end, the wanted exception -/
abbrev Sp := List V → Hp → VK → XK → Prop
/-- how an exception lies behind a call (file 08 gives it): the callers' frames, abstract heap and state ahead of the call, the wish, the exception, the state -/
abbrev CXT := List Env → Hp → Shared → XK → Value → Shared → Prop

/-- the state at a call -/
structure Env0 (P : Program) (w : World) (K : PySem.W.Frag) (mg : Str → Option Value) (base : Heap) (A : Around) (outer : List Env) (s : Shared) (H : Hp) : Prop where
  frames : A.frames = some outer
  mod : Mod K mg base
  bs : ∀ b o, base.get? b = some o → s.heap.get? b = some o ∧ H b = none
  bsz : base.objs.size ≤ s.heap.objs.size
  funs : s.heap.FunFrames base outer
  frf : ∀ b ∈ frs outer, H b = none
  hok : HOk P w H s.heap
  bare : AllBare s.gens
/-- a call's end -/
def CE (outer : List Env) (P : Program) (w : World) (H : Hp) (s : Shared) (Q : VK) (u : Value) (s' : Shared) : Prop :=
  ∃ v H', s'.os = s.os ∧ AllBare s'.gens ∧ Un (frs outer) [] H H' s.heap s'.heap ∧ HOk P w H' s'.heap ∧ RelV v u ∧ Q v H'
def CR (CX : CXT) (outer : List Env) (P : Program) (w : World) (H : Hp) (s : Shared) (Q : VK) (E : XK) (r : Result) (s' : Shared) : Prop :=
  match r with
  | .ok (.ret u) => CE outer P w H s Q u s'
  | .ok _ => False
  | .error e => CX outer H s E e s'
structure FnOk (P : Program) (w : World) (K : PySem.W.Frag) (mg : Str → Option Value) (base : Heap) (CX : CXT) (k : Nat) (f : Addr) (fd : FuncData) (ps : List Str) (sp : Sp) : Prop where
  len : ∀ vs H Q E, sp vs H Q E → vs.length = ps.length
  run : ∀ (A : Around) (outer : List Env) (s : Shared) (H : Hp) (args : Args) (us : List Value) (vs : List V) (Q : VK) (E : XK), Room k A → Env0 P w K mg base A outer s H → BindsTo s fd args (ps.zip us) → Vals vs us → sp vs H Q E →
    codeAny (model P w) A (.call (.ref f) args) (CR CX outer P w H s Q E) s
theorem FnOk.mono {P : Program} {w : World} {K : PySem.W.Frag} {mg : Str → Option Value} {base : Heap} {CX : CXT} {j k : Nat} {f : Addr} {fd : FuncData} {ps : List Str} {sp : Sp} (F : FnOk P w K mg base CX j f fd ps sp) (h : j ≤ k) :
    FnOk P w K mg base CX k f fd ps sp := ⟨F.len, fun A outer s H args us vs Q E hr => F.run A outer s H args us vs Q E (hr.mono h)⟩
/-- a weaker promise -/
theorem FnOk.imp {P : Program} {w : World} {K : PySem.W.Frag} {mg : Str → Option Value} {base : Heap} {CX : CXT} {k : Nat} {f : Addr} {fd : FuncData} {ps : List Str} {sp sp' : Sp} (F : FnOk P w K mg base CX k f fd ps sp)
    (h : ∀ vs H Q E, sp' vs H Q E → sp vs H Q E) : FnOk P w K mg base CX k f fd ps sp' :=
  ⟨fun vs H Q E q => F.len vs H Q E (h _ _ _ _ q), fun A outer s H args us vs Q E hr he hb hv hs => F.run A outer s H args us vs Q E hr he hb hv (h _ _ _ _ hs)⟩

theorem Env0.in1 {P : Program} {w : World} {K : PySem.W.Frag} {mg : Str → Option Value} {base : Heap} {A : Around} {outer : List Env} {s : Shared} {H : Hp} (e : Env0 P w K mg base A outer s H) :
    Env0 P w K mg base A.in1 outer s H := ⟨e.frames, e.mod, e.bs, e.bsz, e.funs, e.frf, e.hok, e.bare⟩

section
variable {X : Cx} {pins : List (Addr × Obj)} {σ : St} {H : Hp} {s s' : Shared}
/-- from a body: what a callee wants -/
theorem Inv.env0 (I : Inv X pins σ H s) : Env0 X.prog X.w X.K X.mg X.base X.A X.stack s H :=
  ⟨I.ok.frames, I.ok.mod, I.bs, Nat.le_trans I.ok.bsz I.sz, I.stack, I.stkFree, I.hok, I.bare⟩
/-- behind a call -/
theorem Inv.after {Q : VK} {u : Value} (I : Inv X pins σ H s) (h : CE X.stack X.prog X.w H s Q u s') : EP X pins σ Q u s' := by
  obtain ⟨v, H', os, bare, un, hok, r, q⟩ := h
  obtain ⟨hh, g, d, t, os'⟩ := s'
  obtain rfl : os' = s.os := os
  exact ⟨v, H', I.call (h' := hh) (g' := g) (d' := d) (t' := t) (ch := []) un hok bare (fun b z => absurd z (by simp)), r, q⟩
end

/-! ### calls -/
/-- f(..): the written arguments, then the defaults dvs; E: what is wanted of an exception -/
def tCall (sp : Sp) (dvs : List V) (E : XK) (t : TA) : TE := fun σ H Q => t σ H fun vs H1 => sp (vs ++ dvs) H1 Q E
/-- how the parameters are bound: us the positional arguments, kw the keywords' values by name, ds the defaults that fill up -/
def Binds (K : PySem.W.Frag) (fd : FuncData) (ps : List Str) (ds : List Value) : Prop :=
  ∀ (s : Shared) (us : List Value), K.In s.heap → (us ++ ds).length = ps.length → BindsTo s fd ⟨us, []⟩ (ps.zip (us ++ ds))
/-- every parameter is given -/
theorem Binds.all {K : PySem.W.Frag} {fd : FuncData} {ps : List Str} (h : ∀ us : List Value, us.length = ps.length → bindArgs fd ⟨us, []⟩ = pure (ps.zip us)) : Binds K fd ps [] := fun s us _ hl => by
  rw [List.append_nil] at hl ⊢
  exact .of_eq (h us hl)

/-- an exception of a callee reaches what this body wants of exceptions -/
def Passes (CX : CXT) (X : Cx) (E : XK) : Prop := ∀ (pins : List (Addr × Obj)) (σ : St) (H : Hp) (s : Shared) (e : Value) (s' : Shared), Inv X pins σ H s → CX X.stack H s E e s' → X.xe e s'

section
variable {X : Cx} {CX : CXT} {k : Nat} {f C : Addr} {fd : FuncData} {ps : List Str} {sp : Sp} {dvs : List V} {ds : List Value} {E : XK} {x m : Str} {p pos apos : Pos} {e o : Expr} {es : List Expr} {ta : TE} {t : TA}

/-- the callee runs -/
theorem run_fn {pins : List (Addr × Obj)} {σ : St} {H : Hp} {s : Shared} {Q : VK} {us : List Value} {vs : List V} (F : FnOk X.prog X.w X.K X.mg X.base CX k f fd ps sp) (hr : Room k X.A) (hb : Binds X.K fd ps ds) (hd : Vals dvs ds) (hx : Passes CX X E)
    (I : Inv X pins σ H s) (r : Vals vs us) (h : sp (vs ++ dvs) H Q E) : wpAny (model X.prog X.w) X.A (call (.ref f) us) (EP X pins σ Q) X.xe s := by
  have r2 : Vals (vs ++ dvs) (us ++ ds) := r.append hd
  have hl : (us ++ ds).length = ps.length := by rw [← r2.length]; exact F.len _ _ _ _ h
  refine wpAny_call (codeAny_mono (F.run X.A X.stack s H ⟨us, []⟩ (us ++ ds) (vs ++ dvs) Q E hr I.env0 (hb s us I.kIn hl) r2 h) fun r s' hq => ?_)
  cases r with
  | error e => exact hx pins σ H s e s' I hq
  | ok fl =>
    cases fl with
    | ret u => exact I.after hq
    | next => exact False.elim hq
    | brk => exact False.elim hq
    | cont => exact False.elim hq

theorem pe_call (F : FnOk X.prog X.w X.K X.mg X.base CX k f fd ps sp) (hr : Room k X.A) (hg : Gl X x) (hm : X.mg x = some (.ref f)) (hk : PySem.W.keepIn X.K (.ref f) = true) (hb : Binds X.K fd ps ds) (hd : Vals dvs ds) (hx : Passes CX X E)
    (ha : PA X (e :: es) t) (hdb : (x == ("__debug__" : Str)) = false := by decide) (he : starEach (e :: es) X.env = (false, eval e X.env) :: starEach es X.env := by rfl) (hpl : (backTo pos (starEach es X.env)).any (·.1) = false := by rfl) :
    PE X (.Call (.Name x p) (e :: es) [] pos) (tCall sp dvs E t) := by
  intro pins s σ H Q I h
  refine wpAny_Call_Name_kw (ld_glob I hg hm ?_ hdb)
  refine PySem.W.callWith_K (h₀ := X.base) I.ok.mod.kin hk (thn (ha pos pins s σ H _ I h) fun us s1 ⟨vs, H1, I1, r, q⟩ => ⟨I1.kIn, ?_⟩) he hpl
  exact run_fn F hr hb hd hx I1 r q
end

/-! ### keywords -/
section
variable {X : Cx} {CX : CXT} {k : Nat} {f C : Addr} {fd : FuncData} {ps ks : List Str} {sp : Sp} {E : XK} {x m : Str} {p pos apos kpos : Pos} {e o : Expr} {es : List Expr} {kws : List Keyword} {te ta : TE} {t tk : TA} {nm : Option Str}
variable {g : List Value → List Value → List Value} {gV : List V → List V → List V}
end

/-! ### a def's body keeps its promise -/
/-- names: the parameters first -/
structure FnScope (N P : List Str) (sc : Scope) : Prop where
  kind : sc.kind = .function
  co : sc.isCoroutine = false
  gen : sc.isGenerator = false
  nd : N.Nodup
  pre : N.take P.length = P
  par : ∀ x ∈ P, sc.names.lookup x = some .local ∨ sc.names.lookup x = some .cell
  nofree : ∀ y ∈ sc.names, y.2 ≠ .free

theorem bindL_out {kindOf : Str → Option NameKind} {x : Str} : ∀ {binds : List (Str × Value)} {m : Str → Option Value}, (∀ v, (x, v) ∉ binds) → bindL kindOf binds m x = m x
  | [], _, _ => rfl
  | (n, v) :: r, m, h => by
    unfold bindL
    rw [bindL_out fun w hw => h w (List.mem_cons_of_mem _ hw)]
    split
    · have : x ≠ n := by rintro rfl; exact h v List.mem_cons_self
      simp [this]
    · rfl
theorem bindC_out {kindOf : Str → Option NameKind} {x : Str} : ∀ {binds : List (Str × Value)} {m : Str → Option Value}, (∀ v, (x, v) ∉ binds) → bindC kindOf binds m x = m x
  | [], _, _ => rfl
  | (n, v) :: r, m, h => by
    unfold bindC
    rw [bindC_out fun w hw => h w (List.mem_cons_of_mem _ hw)]
    split
    · rfl
    · have : x ≠ n := by rintro rfl; exact h v List.mem_cons_self
      simp [this]
theorem bindL_get {kindOf : Str → Option NameKind} {x : Str} {v : Value} : ∀ {P : List Str} {vs : List Value} {i : Nat} {m : Str → Option Value}, P.Nodup → P[i]? = some x → vs[i]? = some v → kindOf x = some .local →
    bindL kindOf (P.zip vs) m x = some v
  | [], _, _, _, _, h, _, _ => by simp at h
  | _ :: _, [], _, _, _, _, h, _ => by simp at h
  | p :: P, w :: vs, 0, m, nd, h1, h2, hk => by
    simp at h1 h2; subst h1; subst h2
    show bindL kindOf ((p, w) :: P.zip vs) m p = _
    unfold bindL
    rw [bindL_out fun v hv => (List.nodup_cons.mp nd).1 (List.of_mem_zip hv).1, if_pos hk]
    simp
  | p :: P, w :: vs, i + 1, m, nd, h1, h2, hk => by
    show bindL kindOf ((p, w) :: P.zip vs) m x = _
    unfold bindL
    exact bindL_get (i := i) (List.nodup_cons.mp nd).2 (by simpa using h1) (by simpa using h2) hk
theorem bindC_get {kindOf : Str → Option NameKind} {x : Str} {v : Value} : ∀ {P : List Str} {vs : List Value} {i : Nat} {m : Str → Option Value}, P.Nodup → P[i]? = some x → vs[i]? = some v → kindOf x ≠ some .local →
    bindC kindOf (P.zip vs) m x = some v
  | [], _, _, _, _, h, _, _ => by simp at h
  | _ :: _, [], _, _, _, _, h, _ => by simp at h
  | p :: P, w :: vs, 0, m, nd, h1, h2, hk => by
    simp at h1 h2; subst h1; subst h2
    show bindC kindOf ((p, w) :: P.zip vs) m p = _
    unfold bindC
    rw [bindC_out fun v hv => (List.nodup_cons.mp nd).1 (List.of_mem_zip hv).1, if_neg hk]
    simp
  | p :: P, w :: vs, i + 1, m, nd, h1, h2, hk => by
    show bindC kindOf ((p, w) :: P.zip vs) m x = _
    unfold bindC
    exact bindC_get (i := i) (List.nodup_cons.mp nd).2 (by simpa using h1) (by simpa using h2) hk

/-- the names' values at the entry -/
def start (N : List Str) (vs : List V) : St := vs.map some ++ List.replicate (N.length - vs.length) none

/-- the context of a def's body, at its entry; an exception leaves the frame, then lies as CX says -/
def cxOf (CX : CXT) (P : Program) (w : World) (K : PySem.W.Frag) (mg : Str → Option Value) (base : Heap) (N : List Str) (qual : Str) (scope : Scope) (f : Addr) (cd : Value) (A : Around) (outer : List Env) (s : Shared) (H : Hp) (E : XK) : Cx where
  prog := P
  w := w
  K := K
  mg := mg
  base := base
  A := A.deeper (envOfC qual scope s.heap.objs.size f cd)
  N := N
  s₀ := s
  H₀ := H
  env := envOfC qual scope s.heap.objs.size f cd
  outer := outer
  stack := envOfC qual scope s.heap.objs.size f cd :: outer
  ex := []
  calm := true
  fn := fun _ => true
  pn := []
  xe := fun e s' => wpAny (model P w) (A.deeper (envOfC qual scope s.heap.objs.size f cd)) (leaving (envOfC qual scope s.heap.objs.size f cd) e) (fun _ s'' => CX outer H s E e s'') (fun e' s'' => CX outer H s E e' s'') s'

theorem cell_has {sc : Scope} {n : Nat} {x : Str} (h : sc.names.lookup x = some .cell) : ∃ c, (cellsFrom n sc.names []).lookup x = some c := by
  have q := PySem.W.cellsFrom_some sc.names n [] (.inl h)
  exact Option.isSome_iff_exists.mp q

theorem inv_start {CX : CXT} {P : Program} {w : World} {K : PySem.W.Frag} {mg : Str → Option Value} {base : Heap} {N ps : List Str} {qual : Str} {scope : Scope} {f : Addr} {cd : Value} {A : Around} {outer : List Env} {s s1 : Shared} {H : Hp} {E : XK} {us : List Value} {vs : List V}
    (S : FnScope N ps scope) (hd : A.handled = none) (e0 : Env0 P w K mg base A outer s H) (hl : vs.length = ps.length) (r : Vals vs us)
    (x : InCallC s s.heap.objs.size (bindL (envOfC qual scope s.heap.objs.size f cd).kindOf (ps.zip us) fun _ => none) (cellsFrom (s.heap.objs.size + 1) scope.names []) (bindC (envOfC qual scope s.heap.objs.size f cd).kindOf (ps.zip us) fun _ => none) s1) :
    Inv (cxOf CX P w K mg base N qual scope f cd A outer s H E) [] (start N vs) H s1 := by
  have hpl : ps.length ≤ N.length := by have := congrArg List.length S.pre; rw [List.length_take] at this; omega
  obtain ⟨h1, tk, rfl, hk⟩ := x.done
  have noA : ∀ b : Addr, b ∉ (cxOf CX P w K mg base N qual scope f cd A outer s H E).ex := fun b z => absurd (show b ∈ ([] : List Addr) from z) (by simp)
  refine ⟨⟨e0.mod, S.kind, rfl, rfl, Nat.le_refl _, fun y z c h1 h2 => ?_, fun y hy => ?_, fun y c _ h => ?_, fun _ => hd, Around.frames_deeper e0.frames, .inr ⟨rfl, rfl⟩, fun b z => absurd z (noA b), e0.bs, e0.bsz, fun b _ _ => noA b, fun b z => absurd z (noA b), e0.funs, e0.frf⟩,
    rfl, e0.bare, Un.kept hk, ⟨_, x.toInCall.ns, fun i y v h1 h2 h3 => ?_⟩, fun y c h => ⟨_, x.cell y c h⟩, e0.hok.fresh (Nat.le_refl _), fun y c h => ?_, fun p hp => absurd (show p ∈ ([] : List (Addr × Obj)) from hp) (by simp), e0.hok.kept hk, ?_⟩
  · exact name_of_addr x.apart (PySem.mem_of_lookup h1) (PySem.mem_of_lookup h2)
  · have hy : scope.names.lookup y = some .cell ∨ scope.names.lookup y = some .free := hy
    rcases hy with hy | hy
    · exact cell_has hy
    · exact absurd rfl (S.nofree _ (PySem.mem_of_lookup hy))
  · exact Nat.le_of_lt (x.above y c (PySem.mem_of_lookup h))
  · have hi : i < vs.length := by
      unfold start at h2
      by_cases hi : i < vs.length
      · exact hi
      · rw [List.getElem?_append_right (by simpa using hi)] at h2
        rw [List.getElem?_replicate] at h2
        split at h2 <;> cases h2
    have ha : vs[i]? = some v := by
      unfold start at h2
      rw [List.getElem?_append_left (by simpa using hi), List.getElem?_map] at h2
      cases e : vs[i]? with
      | none => rw [e] at h2; cases h2
      | some a => rw [e] at h2; cases h2; rfl
    obtain ⟨u, hu, rv⟩ := r.get ha
    have hp : ps[i]? = some y := by
      rw [← S.pre, List.getElem?_take_of_lt (by omega)]; exact h1
    have ndP : ps.Nodup := by rw [← S.pre]; exact S.nd.sublist (List.take_sublist _ _)
    refine ⟨u, rv, ?_⟩
    rcases S.par y (List.mem_of_getElem? hp) with k | k
    · exact .inl ⟨k, bindL_get ndP hp hu k⟩
    · obtain ⟨c, e⟩ := cell_has (n := s.heap.objs.size + 1) k
      refine .inr ⟨.inl k, c, e, ?_⟩
      have q := x.cell y c e
      rw [bindC_get ndP hp hu (by show scope.names.lookup y ≠ _; rw [k]; decide)] at q
      exact q
  · exact e0.hok.fresh (Nat.le_of_lt (x.above y c (PySem.mem_of_lookup h)))
  · unfold start
    show _ = N.length
    rw [List.length_append, List.length_map, List.length_replicate]
    omega

/-- THE RULE: a def (or a method) of the text, by its body. The body's reading t is chosen for each entry; it is run at the parameters' values -/
theorem fn_of {CX : CXT} {P : Program} {w : World} {K : PySem.W.Frag} {mg : Str → Option Value} {base : Heap} {k : Nat} {f : Addr} {name qual : Str} {params : Arguments} {body : List Stmt} {scope : Scope} {dV kV doc pm cdv ct oc : Value} {an od : Option Addr}
    {osl : Array (Option Value)} {N ps : List Str} {sp : Sp} (lk : K.lookup f = some ⟨oc, od, .func (PySem.W.fnOf name qual params body scope dV kV doc pm an cdv ct), osl⟩) (hcd : PySem.W.codeIn K cdv qual = true) (S : FnScope N ps scope)
    (len : ∀ vs H Q E, sp vs H Q E → vs.length = ps.length)
    (hbody : ∀ (A : Around) (outer : List Env) (s : Shared) (H : Hp) (vs : List V) (Q : VK) (E : XK), Room k (A.deeper (envOfC qual scope s.heap.objs.size f cdv)) → sp vs H Q E →
      ∃ t, PSs (cxOf CX P w K mg base N qual scope f cdv A outer s H E) body t ∧ t { nx := fun _ H' => Q .non H', rt := Q } (start N vs) H) :
    FnOk P w K mg base CX (k + 1) f (PySem.W.fnOf name qual params body scope dV kV doc pm an cdv ct) ps sp := by
  refine ⟨len, fun A outer s H args us vs Q E hr e0 hb r hsp => ?_⟩
  have hl := len _ _ _ _ hsp
  have KX : K.In s.heap := e0.mod.kin.keeps fun b o e => (e0.bs b o e).1
  have lim : s.heap.NoLimit := e0.mod.nolimit.keeps fun b o e => (e0.bs b o e).1
  have hkind : ∀ y ∈ ps.zip us, scope.names.lookup y.1 = some .local ∨ (scope.names.lookup y.1 = some .cell ∧ ((cellsFrom (s.heap.objs.size + 1) scope.names []).lookup y.1).isSome = true) := fun ⟨n, v⟩ hy => by
    rcases S.par n (List.of_mem_zip hy).1 with q | q
    · exact .inl q
    · exact .inr ⟨q, PySem.W.cellsFrom_some _ _ _ (.inl q)⟩
  refine codeAny_call_function hr.depth (KX _ _ lk) rfl S.co S.gen rfl (PySem.W.codeRec_of KX hcd) (hb _ _ _ _ ?_)
  refine wpAny_newFunctionEnv_cells S.kind hkind fun env he s1 x => ?_
  subst he
  refine ⟨lim.keeps x.toInCall.keep, codeAny_func ?_⟩
  obtain ⟨t, ht, hq⟩ := hbody A outer s H vs Q E (hr.deeper _) hsp
  have I : Inv (cxOf CX P w K mg base N qual scope f cdv A outer s H E) [] (start N vs) H s1 := inv_start S hr.hd e0 hl r x
  refine wpAny_mono (ht [] s1 (start N vs) H _ I hq) (fun fl s' hs => ?_) fun e s' hs => hs
  have fin : ∀ {σ' : St} {H' : Hp} {v : V} {u : Value}, Inv (cxOf CX P w K mg base N qual scope f cdv A outer s H E) [] σ' H' s' → RelV v u → Q v H' → CE outer P w H s Q u s' :=
    fun {σ' H' v u} J rv q => ⟨v, H', J.os, J.bare, J.base, J.hok, rv, q⟩
  cases fl with
  | ret u =>
    obtain ⟨v, σ', H', J, rv, q⟩ := hs
    exact fin J rv q
  | next =>
    obtain ⟨σ', H', J, q⟩ := hs
    exact fin (v := V.non) (u := Value.none) J rfl q
  | brk =>
    obtain ⟨_, _, _, q⟩ := hs
    exact False.elim q
  | cont =>
    obtain ⟨_, _, _, q⟩ := hs
    exact False.elim q
end L2

namespace L2
open PySem PySem.Spec PyProof.Rows
section
variable {X : Cx} {x : Str} {p pos : Pos} {e : Expr} {es : List Expr} {t : TA} {id T : String} {r : List V → Hp → VK → Prop}

def tCB (r : List V → Hp → VK → Prop) (t : TA) : TE := fun σ H Q => t σ H fun vs H1 => r vs H1 Q
/-- f(e, ..), f a built-in function -/
theorem pe_callB (hc : CallR X (.builtin id) r) (hg : Gl X x) (hm : X.mg x = none) (hv : bootBuiltins x = some (.builtin id)) (ha : PA X (e :: es) t) (hn : x ≠ "__name__" := by decide) (hdb : (x == ("__debug__" : Str)) = false := by decide)
    (he : starEach (e :: es) X.env = (false, eval e X.env) :: starEach es X.env := by rfl) (hpl : (backTo pos (starEach es X.env)).any (·.1) = false := by rfl) : PE X (.Call (.Name x p) (e :: es) [] pos) (tCB r t) := by
  intro pins s σ H Q I h
  refine wpAny_Call_Name_kw (ld_blt I hg hm hv ?_ hn hdb)
  exact PyProof.Rows.callWith_builtin1 (thn (ha pos pins s σ H _ I h) fun us s1 ⟨vs, H1, I1, r1, q1⟩ => hc pins s1 σ H1 vs us Q I1 r1 q1) he hpl
/-- T(e, ..), T a built-in type -/
theorem pe_callTy (hc : CallR X (.type T) r) (hg : Gl X x) (hm : X.mg x = none) (hv : bootBuiltins x = some (.type T)) (ha : PA X (e :: es) t) (hn : x ≠ "__name__" := by decide) (hdb : (x == ("__debug__" : Str)) = false := by decide)
    (he : starEach (e :: es) X.env = (false, eval e X.env) :: starEach es X.env := by rfl) (hpl : (backTo pos (starEach es X.env)).any (·.1) = false := by rfl) : PE X (.Call (.Name x p) (e :: es) [] pos) (tCB r t) := by
  intro pins s σ H Q I h
  refine wpAny_Call_Name_kw (ld_blt I hg hm hv ?_ hn hdb)
  exact PyProof.Rows.callWith_type1 (thn (ha pos pins s σ H _ I h) fun us s1 ⟨vs, H1, I1, r1, q1⟩ => hc pins s1 σ H1 vs us Q I1 r1 q1) he hpl
end
end L2

namespace HT
open PySem PyProof.Rows

theorem rcLt_int (A : Around) (s : Shared) (a : Int) (t : Tok) (c : Int) (u : Tok) (prog : Program) (w : World) (E : Value → Shared → Prop) (Q : Value → Shared → Prop) (h : Q (.bool (decide (a < c))) s) :
    wpAny (model prog w) A (richCompare .Lt (.int a t) (.int c u)) Q E s :=
  (PyProof.Rows.lt_int h : wpAny (model prog w) A (compareOp .Lt (.int a t) (.int c u)) Q E s)

section
open PySem.SeqAt
open PySem.AutoSeq1 (wpAny_loadPart')
open PySem.MeetsSeq PySem.MeetsSeq2 PySem.MeetsSeq3

end

section
variable {prog : Program} {w : World} {A : Around} {E : Value → Shared → Prop} {s : Shared}

/-! ### t[a:b], not the whole -/
/-- a slice's bound as a place among n (d where it is left out) -/
def sIx (n d : Nat) : Option Int → Nat
  | none => d
  | some v => if v < 0 then (v + (n : Int)).toNat else min v.toNat n
end
end HT

namespace L2
open PySem PySem.Spec PyProof.Rows

/-! ### the parts of a slice -/
abbrev TO := St → Hp → (Option Int → Hp → Prop) → Prop
/-- a slice's part (left out, or an int) -/
def PO (X : Cx) (e : Option Expr) (t : TO) : Prop :=
  ∀ (pins : List (Addr × Obj)) (s : Shared) (σ : St) (H : Hp) (Q : Option Int → Hp → Prop), Inv X pins σ H s → t σ H Q →
    wpAny (model X.prog X.w) X.A (evalPart e X.env) (fun u s' => ∃ o H', Inv X pins σ H' s' ∧ IsPart u o ∧ Q o H') X.xe s
def tNoPart : TO := fun _ H Q => Q none H
def tPart (t : TE) : TO := fun σ H Q => t σ H fun x H1 => ∃ i, x = .int i ∧ Q (some i) H1

section
variable {X : Cx} {e : Expr} {te : TE} {lo hi : Option Expr} {tl th : TO} {pos p2 : Pos}

theorem po_none : PO X none tNoPart := by
  intro pins s σ H Q I h
  rw [evalPart_none]
  exact wpAny_pure ⟨none, H, I, .none, h⟩
theorem po_some (h : PE X e te) : PO X (some e) (tPart te) := by
  intro pins s σ H Q I hw
  rw [evalPart_some]
  refine thn (h pins s σ H _ I hw) fun u s1 ⟨x, H1, I1, r1, q1⟩ => ?_
  obtain ⟨i, rfl, q⟩ := q1
  obtain ⟨t, rfl⟩ := r1
  exact ⟨some i, H1, I1, .int i t, q⟩

/-- what a slice of a value is, by values: the slice object stands at sl -/
def SlR (X : Cx) (r : V → Option Int → Option Int → Hp → VK → Prop) : Prop :=
  ∀ (pins : List (Addr × Obj)) (s : Shared) (σ : St) (H : Hp) (x : V) (v vl vu : Value) (lo hi : Option Int) (sl : Addr) (Q : VK), Inv X pins σ H s → RelV x v → s.heap.IsSliceOf sl vl vu .none → IsPart vl lo → IsPart vu hi → r x lo hi H Q →
    ∃ T id, typeLookup (.type T) "__getitem__" = pure (some (.builtin id)) ∧ s.TypeIs v T ∧ wpAny (model X.prog X.w) X.A (getItem v (.ref sl)) (EP X pins σ Q) X.xe s
theorem SlR.or {r r' : V → Option Int → Option Int → Hp → VK → Prop} (h : SlR X r) (h' : SlR X r') : SlR X (fun x lo hi H Q => r x lo hi H Q ∨ r' x lo hi H Q) := by
  intro pins s σ H x v vl vu lo hi sl Q I rx hs pl pu q
  rcases q with q | q
  · exact h pins s σ H x v vl vu lo hi sl Q I rx hs pl pu q
  · exact h' pins s σ H x v vl vu lo hi sl Q I rx hs pl pu q
def tSl (r : V → Option Int → Option Int → Hp → VK → Prop) (te : TE) (tl th : TO) : TE := fun σ H Q => te σ H fun x H1 => tl σ H1 fun l H2 => th σ H2 fun u H3 => r x l u H3 Q
/-- a[lo:hi], any a -/
theorem pe_slice {r : V → Option Int → Option Int → Hp → VK → Prop} (hr : SlR X r) (he : PE X e te) (hl : PO X lo tl) (hu : PO X hi th) : PE X (.Subscript e (.Slice lo hi none p2) pos) (tSl r te tl th) := by
  intro pins s σ H Q I h
  refine Subscript_ (thn (he pins s σ H _ I h) fun v s1 ⟨x, H1, I1, r1, q1⟩ => ?_)
  refine wpAny_Slice (thn (hl pins s1 σ H1 _ I1 q1) fun vl s2 ⟨l, H2, I2, pl, q2⟩ => thn (hu pins s2 σ H2 _ I2 q2) fun vu s3 ⟨u, H3, I3, pu, q3⟩ => ?_)
  rw [evalPart_none]
  refine wpAny_pure ?_
  have I4 : Inv X pins σ H3 { s3 with heap := s3.heap.push { cls := .type "slice", data := .fields #[vl, vu, .none] } } := I3.kept (t' := s3.toks) fun b ob q => Heap.get?_push_of_some _ q
  obtain ⟨T, id, hT, ht, hg⟩ := hr pins { s3 with heap := s3.heap.push { cls := .type "slice", data := .fields #[vl, vu, .none] } } σ H3 x v vl vu l u s3.heap.objs.size Q I4 r1 (Heap.IsSliceOf.new ..) pl pu q3
  show wpAny (model X.prog X.w) X.A (subscriptTail e (.Slice lo hi none p2) v (.ref s3.heap.objs.size)) (EP X pins σ Q) X.xe { s3 with heap := s3.heap.push { cls := .type "slice", data := .fields #[vl, vu, .none] } }
  exact tail_any (ops := [.ref s3.heap.objs.size, v]) ht hT hg (by with_unfolding_all rfl)

/-- the items of xs[lo:hi] -/
def cutV (xs : List V) (lo hi : Option Int) : List V := (xs.drop (HT.sIx xs.length 0 lo)).take (HT.sIx xs.length xs.length hi - HT.sIx xs.length 0 lo)
theorem cutV_length (xs : List V) (lo hi : Option Int) : (cutV xs lo hi).length ≤ xs.length := by
  unfold cutV
  rw [List.length_take, List.length_drop]
  omega
/-! ### t < u, t + u -/
end
end L2

namespace L2
open PySem PySem.Spec PyProof.Rows

/-! ### places -/
/-- the place that an index of any sign means -/
def ixN (n : Nat) (i : Int) : Option Nat := if 0 ≤ i then (if i < n then some i.toNat else none) else if -(n : Int) ≤ i then some (i + n).toNat else none
def atI {α : Type} (xs : List α) (i : Int) : Option α := (ixN xs.length i).bind fun j => xs[j]?
theorem ixN_seq {n : Nat} {i : Int} {j : Nat} (h : ixN n i = some j) : seqIndex? i n = some j ∧ j < n ∧ -(n : Int) ≤ i ∧ i < n := by
  unfold ixN at h
  by_cases h0 : 0 ≤ i
  · rw [if_pos h0] at h
    by_cases h1 : i < n
    · rw [if_pos h1] at h
      have e : i.toNat = j := Option.some.inj h
      exact ⟨by rw [seqIndex_of h0 h1, e], by omega, by omega, h1⟩
    · rw [if_neg h1] at h; cases h
  · rw [if_neg h0] at h
    by_cases h1 : -(n : Int) ≤ i
    · rw [if_pos h1] at h
      have e : (i + n).toNat = j := Option.some.inj h
      exact ⟨by rw [seqIndex_neg (by omega) h1, e], by omega, h1, by omega⟩
    · rw [if_neg h1] at h; cases h
theorem atI_get {α : Type} {xs : List α} {i : Int} {v : α} (h : atI xs i = some v) : ∃ j, seqIndex? i xs.length = some j ∧ xs[j]? = some v ∧ j < xs.length ∧ -(xs.length : Int) ≤ i ∧ i < xs.length := by
  unfold atI at h
  cases e : ixN xs.length i with
  | none => rw [e] at h; cases h
  | some j =>
    rw [e] at h
    obtain ⟨h1, h2, h3, h4⟩ := ixN_seq e
    exact ⟨j, h1, h, h2, h3, h4⟩
theorem atI_nat {α : Type} {xs : List α} {j : Nat} {v : α} (h : xs[j]? = some v) : atI xs (j : Int) = some v := by
  have hj : j < xs.length := (List.getElem?_eq_some_iff.mp h).1
  have e : ixN xs.length (j : Int) = some j := by
    unfold ixN
    rw [if_pos (by omega), if_pos (by omega)]; simp
  unfold atI; rw [e]; exact h
/-! ### what may be subscripted -/
/-- what stands as an index of a plain subscript -/
def PlainIx (b : Expr) : Prop := ∀ o i, subscripted b false o i = operate [o, i] (getItem o i)
/-- a subscript by values -/
def IxR (X : Cx) (r : R2) : Prop :=
  ∀ (value slice : Expr) (pins : List (Addr × Obj)) (s : Shared) (σ : St) (H : Hp) (x y : V) (v u : Value) (Q : VK), Inv X pins σ H s → RelV x v → RelV y u → r x y H Q →
    subscripted slice false v u = operate [v, u] (getItem v u) → wpAny (model X.prog X.w) X.A (subscriptTail value slice v u) (EP X pins σ Q) X.xe s
/-- a call of a builtin's method by values: the receiver, the arguments -/
def MtR (X : Cx) (id : String) (r : V → List V → Hp → VK → Prop) : Prop :=
  ∀ (pins : List (Addr × Obj)) (s : Shared) (σ : St) (H : Hp) (x : V) (xs : List V) (v : Value) (us : List Value) (Q : VK), Inv X pins σ H s → RelV x v → Vals xs us → r x xs H Q →
    wpAny (model X.prog X.w) X.A (call (.builtin id) (v :: us)) (EP X pins σ Q) X.xe s
section
variable {X : Cx} {a b : Expr} {ta tb : TE} {pos : Pos}
theorem IxR.or {r r' : R2} (h : IxR X r) (h' : IxR X r') : IxR X (fun x y H Q => r x y H Q ∨ r' x y H Q) := by
  intro value slice pins s σ H x y v u Q I rx ry q hs
  rcases q with q | q
  · exact h value slice pins s σ H x y v u Q I rx ry q hs
  · exact h' value slice pins s σ H x y v u Q I rx ry q hs
theorem MtR.or {id : String} {r r' : V → List V → Hp → VK → Prop} (h : MtR X id r) (h' : MtR X id r') : MtR X id (fun x xs H Q => r x xs H Q ∨ r' x xs H Q) := by
  intro pins s σ H x xs v us Q I rx rs q
  rcases q with q | q
  · exact h pins s σ H x xs v us Q I rx rs q
  · exact h' pins s σ H x xs v us Q I rx rs q
/-- a[b] -/
theorem pe_ix {r : R2} (hr : IxR X r) (ha : PE X a ta) (hb : PE X b tb) (hs : PlainIx b) : PE X (.Subscript a b pos) (tOp r ta tb) := by
  intro pins s σ H Q I h
  exact Subscript_ (binT ha hb I h fun v u s2 x y H2 I2 rx ry q => hr a b pins s2 σ H2 x y v u Q I2 rx ry q (hs _ _))

def rIxL (K : PySem.W.Frag) : R2 := fun x y H Q => ∃ p xs i v, x = .ref p ∧ y = .int i ∧ SqL K H p xs ∧ atI xs i = some v ∧ Q v H
def rIxT (K : PySem.W.Frag) : R2 := fun x y H Q => ∃ p xs i v, x = .ref p ∧ y = .int i ∧ SqT K H p xs ∧ atI xs i = some v ∧ Q v H
theorem ix_list : IxR X (rIxL X.K) := by
  intro value slice pins s σ H x y v u Q I rx ry h hs
  obtain ⟨p, xs, i, z, rfl, rfl, hq, he, q⟩ := h
  cases rx
  obtain ⟨t, rfl⟩ := ry
  obtain ⟨its, r, pl, hz⟩ := I.list hq
  obtain ⟨j, h1, h2, h3, h4, h5⟩ := atI_get he
  obtain ⟨w, ew, rw'⟩ := r.get h2
  have hl := r.length
  have hn := line63
  have fin : EP X pins σ Q w s := ⟨z, H, I, rw', q⟩
  by_cases h0 : 0 ≤ i
  · have hj : i.toNat = j := by
      rw [seqIndex_of h0 h5] at h1
      exact Option.some.inj h1
    exact item_listR pl.isList h0 (by omega) (by rw [hj]; simpa using ew) fin hs
  · have hj : (i + (its.toArray.size : Int)).toNat = j := by
      rw [seqIndex_neg (by omega) h4] at h1
      rw [List.size_toArray, ← hl]
      exact Option.some.inj h1
    exact subscriptTail_builtinR (x := w) pl.isList.typeIs slot_list_getitem.lookup
      (wpAny_getItem_list_neg (Q := fun r s' => r = w ∧ EP X pins σ Q r s') pl.isList (by omega) (by rw [List.size_toArray] <;> omega) (by omega) (by rw [hj]; simpa using ew) ⟨rfl, fin⟩) hs
theorem ix_tup : IxR X (rIxT X.K) := by
  intro value slice pins s σ H x y v u Q I rx ry h hs
  obtain ⟨p, xs, i, z, rfl, rfl, hq, he, q⟩ := h
  cases rx
  obtain ⟨t, rfl⟩ := ry
  obtain ⟨its, r, pl, hz⟩ := I.tuple hq
  obtain ⟨j, h1, h2, h3, h4, h5⟩ := atI_get he
  obtain ⟨w, ew, rw'⟩ := r.get h2
  have hl := r.length
  have hn := line63
  have fin : EP X pins σ Q w s := ⟨z, H, I, rw', q⟩
  exact subscriptTail_builtinR (x := w) pl.typeIs slot_tuple_getitem.lookup
    (getItem_tuple (j := j) (Q := fun r s' => r = w ∧ EP X pins σ Q r s') pl (by omega) (by omega) (by rw [List.size_toArray, ← hl]; exact h1) (by simpa using ew) ⟨rfl, fin⟩) hs
/-! ### xs[i] = v, any sign -/
/-- the list's object behind a store -/
theorem mapSeq_set (its : List Value) (n j : Nat) (u : Value) : Obj.mapSeq (·.setIfInBounds j u) { cls := .type "list", data := .seq its.toArray n } = { cls := .type "list", data := .seq (its.set j u).toArray n } := by
  simp [Obj.mapSeq]
theorem Inv.lst {pins : List (Addr × Obj)} {σ : St} {H : Hp} {s : Shared} {p : Addr} {xs : List V} (I : Inv X pins σ H s) (h : H p = some (.lst xs)) :
    ∃ (its : List Value) (n : Nat), Vals xs its ∧ s.heap.get? p = some { cls := .type "list", data := .seq its.toArray n } ∧ xs.length ≤ sizeLine := by
  obtain ⟨z, its, n, r, e⟩ := I.hok p _ h
  exact ⟨its, n, r, e, z⟩
/-- the list at p is written by an update of its object -/
theorem Inv.lstUpd {pins : List (Addr × Obj)} {σ : St} {H : Hp} {s : Shared} {p : Addr} {xs ys : List V} {its its' : List Value} {n n' : Nat} {f : Obj → Obj} (I : Inv X pins σ H s) (h : H p = some (.lst xs))
    (ho : s.heap.get? p = some { cls := .type "list", data := .seq its.toArray n }) (hf : f { cls := .type "list", data := .seq its.toArray n } = { cls := .type "list", data := .seq its'.toArray n' }) (r : Vals ys its') (hz : ys.length ≤ sizeLine) (t : Nat) :
    Inv X pins σ (upd H p (.lst ys)) { s with heap := s.heap.update p f, toks := t } := by
  have e : (s.heap.update p f).get? p = some { cls := .type "list", data := .seq its'.toArray n' } := by
    rw [Heap.get?_update_self f ho (by rw [hf] <;> rfl), hf]
  refine I.write (x := p) (e := p) (by rw [h]; trivial) (.inl rfl) (fun b u hb q => (Heap.get?_update_other _ _ (Ne.symm hb)).trans q) ⟨_, e⟩ ?_
  exact ⟨hz, its', n', r, e⟩
def rSetL : V → V → V → Hp → (Hp → Prop) → Prop := fun o i v H Q => ∃ p xs k j, o = .ref p ∧ i = .int k ∧ H p = some (.lst xs) ∧ ixN xs.length k = some j ∧ Q (upd H p (.lst (xs.set j v)))
theorem set_list : PSet X rSetL := by
  intro pins s σ H o i v ov iv u Q I ro ri rv h
  obtain ⟨p, xs, k, j, rfl, rfl, hp, hj, q⟩ := h
  cases ro
  obtain ⟨t, rfl⟩ := ri
  obtain ⟨its, n, r, ho, hz⟩ := I.lst hp
  obtain ⟨h1, h2, h3, h4⟩ := ixN_seq hj
  have hl := r.length
  have hn := line63
  have I' : Inv X pins σ (upd H p (.lst (xs.set j v))) { s with heap := s.heap.update p (Obj.mapSeq (·.setIfInBounds j u)) } :=
    I.lstUpd hp ho (mapSeq_set its n j u) (r.set rv j) (by rw [List.length_set]; exact hz) s.toks
  by_cases h0 : 0 ≤ k
  · have hk : k.toNat = j := by
      rw [seqIndex_of h0 h4] at h1
      exact Option.some.inj h1
    exact PySem.W.ki_setAt ho h0 (by omega) (by rw [List.size_toArray, ← hl]; exact h4) (by rw [hk]; exact ⟨_, I', q⟩)
  · have hk : (k + (its.toArray.size : Int)).toNat = j := by
      rw [seqIndex_neg (by omega) h3] at h1
      rw [List.size_toArray, ← hl]
      exact Option.some.inj h1
    exact PySem.W.ki_setBack ho (by omega) (by rw [List.size_toArray, ← hl]; exact h3) (by omega) (by rw [hk]; exact ⟨_, I', q⟩)

/-! ### slices -/
theorem slice_bounds (lo hi : Option Int) (n : Nat) : (sliceBounds lo hi none n).1 = ((HT.sIx n 0 lo : Nat) : Int) ∧ (sliceBounds lo hi none n).2.1 = ((HT.sIx n n hi : Nat) : Int) ∧ (sliceBounds lo hi none n).2.2 = 1 := by
  refine ⟨?_, ?_, rfl⟩
  · cases lo with
    | none => simp [sliceBounds, HT.sIx]
    | some i =>
      simp only [sliceBounds, HT.sIx, Option.getD_none, show (1 : Int) > 0 by decide, if_true]
      by_cases h : i < 0
      · simp only [h, if_true] <;> omega
      · simp only [h, if_false] <;> omega
  · cases hi with
    | none => simp [sliceBounds, HT.sIx]
    | some i =>
      simp only [sliceBounds, HT.sIx, Option.getD_none, show (1 : Int) > 0 by decide, if_true]
      by_cases h : i < 0
      · simp only [h, if_true] <;> omega
      · simp only [h, if_false] <;> omega
theorem slicePick_cut (its : List Value) (lo hi : Option Int) : slicePick its.toArray lo hi none = ((its.drop (HT.sIx its.length 0 lo)).take (HT.sIx its.length its.length hi - HT.sIx its.length 0 lo)).toArray := by
  obtain ⟨h1, h2, h3⟩ := slice_bounds lo hi its.toArray.size
  unfold slicePick
  rw [h1, h2, h3]
  simp only [sliceRange_one, pick_run, List.size_toArray] <;> rfl
/-- xs[lo:hi] of a list: a new list -/
def rSlL (K : PySem.W.Frag) : V → Option Int → Option Int → Hp → VK → Prop := fun x lo hi H Q => ∃ a xs, x = .ref a ∧ SqL K H a xs ∧ ∀ p, H p = none → Q (.ref p) (upd H p (.lst (cutV xs lo hi)))
theorem sl_list : SlR X (rSlL X.K) := by
  intro pins s σ H x v vl vu lo hi sl Q I rx hs pl pu h
  obtain ⟨a, xs, rfl, hx, q⟩ := h
  cases rx
  obtain ⟨its, r, ht, hz⟩ := I.list hx
  have hlen := r.length
  refine ⟨"list", _, slot_list_getitem.lookup, ht.isList.typeIs, ?_⟩
  refine wpAny_getItem_list_slice ht.isList hs pl pu .none (by simp) ?_ (by rw [List.size_toArray] <;> omega)
  rw [slicePick_cut, ← hlen]
  refine ⟨.ref s.heap.objs.size, _, I.laid (t' := s.toks) (o := .lst (cutV xs lo hi)) (fun b ob q => Heap.get?_push_of_some _ q) (Nat.le_refl _) ?_, rfl, q _ (I.hok.fresh (Nat.le_refl _))⟩
  exact ⟨Nat.le_trans (cutV_length xs lo hi) hz, _, 0, (r.drop (HT.sIx xs.length 0 lo)).take (HT.sIx xs.length xs.length hi - HT.sIx xs.length 0 lo), Heap.get?_push_size _ rfl⟩

/-! ### in, not in: flat items -/
def flatV : V → Bool
  | .non => true
  | .bl _ => true
  | .int _ => true
  | .str _ => true
  | _ => false
/-- == of flat values -/
def eqV : V → V → Bool
  | .non, .non => true
  | .bl a, .bl b => a == b
  | .bl a, .int b => (if a then 1 else 0) == b
  | .int a, .bl b => a == (if b then 1 else 0)
  | .int a, .int b => a == b
  | .str a, .str b => a == b
  | _, _ => false
theorem eqAt_V {A : Around} {s : Shared} {y x : V} {u v : Value} (ry : RelV y u) (rx : RelV x v) (fy : flatV y = true) (fx : flatV x = true) : SeqAt.EqAt A s u v (eqV y x) := by
  cases y with
  | non =>
    cases ry
    cases x with
    | non => cases rx; exact SeqAt.EqAt.same _
    | bl b => cases rx; exact SeqAt.EqAt.none_bool b
    | int b => obtain ⟨t, rfl⟩ := rx; exact SeqAt.EqAt.none_int b t
    | str b => obtain ⟨t, rfl⟩ := rx; exact SeqAt.EqAt.none_str b t
    | _ => exact absurd (show false = true from fx) Bool.false_ne_true
  | bl a =>
    cases ry
    cases x with
    | non => cases rx; exact SeqAt.EqAt.bool_none a
    | bl b => cases rx; exact SeqAt.EqAt.bool_bool a b
    | int b => obtain ⟨t, rfl⟩ := rx; exact SeqAt.EqAt.bool_int a b t
    | str b => obtain ⟨t, rfl⟩ := rx; exact SeqAt.EqAt.bool_str a b t
    | _ => exact absurd (show false = true from fx) Bool.false_ne_true
  | int a =>
    obtain ⟨t', rfl⟩ := ry
    cases x with
    | non => cases rx; exact SeqAt.EqAt.int_none a t'
    | bl b => cases rx; exact SeqAt.EqAt.int_bool a t' b
    | int b => obtain ⟨t, rfl⟩ := rx; exact SeqAt.EqAt.int_int a t' b t
    | str b => obtain ⟨t, rfl⟩ := rx; exact SeqAt.EqAt.int_str a t' b t
    | _ => exact absurd (show false = true from fx) Bool.false_ne_true
  | str a =>
    obtain ⟨t', rfl⟩ := ry
    cases x with
    | non => cases rx; exact SeqAt.EqAt.str_none a t'
    | bl b => cases rx; exact SeqAt.EqAt.str_bool a t' b
    | int b => obtain ⟨t, rfl⟩ := rx; exact SeqAt.EqAt.str_int a t' b t
    | str b => obtain ⟨t, rfl⟩ := rx; exact SeqAt.EqAt.str_str a t' b t
    | _ => exact absurd (show false = true from fx) Bool.false_ne_true
  | _ => exact absurd (show false = true from fy) Bool.false_ne_true
/-! ### len, list(x), tuple(x) of any list or tuple that is read -/
theorem call_len_seq : CallR X (.builtin "len") (fun xs H Q => ∃ p ys, xs = [.ref p] ∧ (SqL X.K H p ys ∨ SqT X.K H p ys) ∧ Q (.int ys.length) H) := by
  intro pins s σ H xs us Q I r h
  obtain ⟨p, ys, rfl, hq, q⟩ := h
  obtain ⟨u, rfl, rx⟩ := vals1 r
  cases rx
  have hn := line63
  rcases hq with hq | hq
  · obtain ⟨its, r', pl, hz⟩ := I.list hq
    have hlen := r'.length
    exact Calls.call_len_list pl.isList (by simp only [List.size_toArray] <;> omega) ⟨.int ys.length, H, I.tok _, ⟨s.toks + 1, by rw [List.size_toArray, hlen]⟩, q⟩
  · obtain ⟨its, r', pl, hz⟩ := I.tuple hq
    have hlen := r'.length
    exact len_tuple pl (by simp only [List.size_toArray] <;> omega) ⟨.int ys.length, H, I.tok _, ⟨s.toks + 1, by rw [List.size_toArray, hlen]⟩, q⟩
theorem CallR.or {f : Value} {r r' : List V → Hp → VK → Prop} (h : CallR X f r) (h' : CallR X f r') : CallR X f (fun xs H Q => r xs H Q ∨ r' xs H Q) := by
  intro pins s σ H xs us Q I rs q
  rcases q with q | q
  · exact h pins s σ H xs us Q I rs q
  · exact h' pins s σ H xs us Q I rs q
theorem call_list_of : CallR X (.type "list") (fun xs H Q => ∃ p ys, xs = [.ref p] ∧ (SqL X.K H p ys ∨ SqT X.K H p ys) ∧ ∀ l, H l = none → Q (.ref l) (upd H l (.lst ys))) := by
  intro pins s σ H xs us Q I r h
  obtain ⟨p, ys, rfl, hq, q⟩ := h
  obtain ⟨u, rfl, rx⟩ := vals1 r
  cases rx
  have fin : ∀ (its : List Value), Vals ys its → ys.length ≤ sizeLine → ∀ (h' : Heap) (c' : Nat), (∀ b o', s.heap.get? b = some o' → h'.get? b = some o') →
      h'.get? s.heap.objs.size = some { cls := .type "list", dict := none, data := .seq its.toArray c', slots := #[] } → EP X pins σ Q (.ref s.heap.objs.size) { s with heap := h' } := fun its r' hz h' c' kp e =>
    ⟨.ref s.heap.objs.size, _, I.laid (t' := s.toks) kp (Nat.le_refl _) (show ObjOk X.prog X.w _ h' _ (.lst ys) from ⟨hz, its, c', r', e⟩), rfl, q _ (I.hok.fresh (Nat.le_refl _))⟩
  rcases hq with hq | hq
  · obtain ⟨its, r', pl, hz⟩ := I.list hq
    have hlen := r'.length
    obtain ⟨o, ho, hc, n, hd⟩ := pl.isList
    exact call_list_seq p (.inl rfl) ho hc hd (fun h' c' kp e => fin its r' hz h' c' kp e) (by simp only [List.size_toArray] <;> omega)
  · obtain ⟨its, r', pl, hz⟩ := I.tuple hq
    have hlen := r'.length
    obtain ⟨o, ho, hc, n, hd⟩ := pl
    exact call_list_seq p (.inr rfl) ho hc hd (fun h' c' kp e => fin its r' hz h' c' kp e) (by simp only [List.size_toArray] <;> omega)
/-! ### the call of a builtin's method: o.m(..) -/
/-- the value is of that builtin type -/
def tyV (K : PySem.W.Frag) (T : String) (x : V) (H : Hp) : Prop := match x with
  | .str _ => T = "str"
  | .int _ => T = "int"
  | .ref p => (T = "list" ∧ ∃ xs, SqL K H p xs) ∨ (T = "tuple" ∧ ∃ o, K.lookup p = some o ∧ o.cls = .type "tuple" ∧ o.dict = none) ∨
      (T = "dict" ∧ ((∃ kvs, H p = some (.dK kvs)) ∨ ∃ kvs, H p = some (.dT kvs))) ∨ (T = "set" ∧ ∃ S n, H p = some (.set S n))
  | _ => False
theorem tyV_is {pins : List (Addr × Obj)} {σ : St} {H : Hp} {s : Shared} {T : String} {x : V} {v : Value} (I : Inv X pins σ H s) (r : RelV x v) (ty : tyV X.K T x H) :
    s.TypeIs v T ∧ ∀ a, v = .ref a → ∃ ob, s.heap.get? a = some ob ∧ ob.dict = none := by
  cases x with
  | str z =>
    obtain ⟨t, rfl⟩ := r
    cases (show T = "str" from ty)
    exact ⟨typeIs_str s z t, fun _ e => nomatch e⟩
  | int i =>
    obtain ⟨t, rfl⟩ := r
    cases (show T = "int" from ty)
    exact ⟨typeIs_int s i t, fun _ e => nomatch e⟩
  | ref p =>
    cases r
    rcases ty with ⟨rfl, xs, hq⟩ | ⟨rfl, o, hk, hc, hd⟩ | ⟨rfl, hk⟩ | ⟨rfl, S, n, hk⟩
    · obtain ⟨its, _, pl, _⟩ := I.list hq
      refine ⟨pl.isList.typeIs, fun a e => ?_⟩
      cases e
      obtain ⟨o, n, e, c, hd, _⟩ := pl
      exact ⟨o, e, hd⟩
    · refine ⟨⟨o, I.kIn p o hk, hc⟩, fun a e => ?_⟩
      cases e
      exact ⟨o, I.kIn _ o hk, hd⟩
    · have z : ∃ o, s.heap.get? p = some o ∧ o.ExactDict := by
        rcases hk with ⟨kvs, hk⟩ | ⟨kvs, hk⟩
        · obtain ⟨_, _, _, _, o, _, _, e, ex, _⟩ := I.hok p _ hk
          exact ⟨o, e, ex⟩
        · obtain ⟨_, _, _, _, o, _, _, e, ex, _⟩ := I.hok p _ hk
          exact ⟨o, e, ex⟩
      obtain ⟨o, e, ex⟩ := z
      refine ⟨⟨o, e, ex.1⟩, fun a e2 => ?_⟩
      cases e2
      exact ⟨o, e, ex.2.1⟩
    · obtain ⟨o, _, _, _, e, ex, _⟩ := I.hok p _ hk
      refine ⟨⟨o, e, ex.1⟩, fun a e2 => ?_⟩
      cases e2
      exact ⟨o, e, ex.2.1⟩
  | _ => exact False.elim ty
def tBM0 (K : PySem.W.Frag) (T : String) (r : V → List V → Hp → VK → Prop) (to : TE) : TE := fun σ H Q => to σ H fun x H1 => tyV K T x H1 ∧ r x [] H1 Q
def tBM (K : PySem.W.Frag) (T : String) (r : V → List V → Hp → VK → Prop) (to : TE) (t : TA) : TE := fun σ H Q => to σ H fun x H1 => tyV K T x H1 ∧ t σ H1 fun xs H2 => r x xs H2 Q
variable {o e : Expr} {es : List Expr} {to : TE} {t : TA} {name : Str} {apos cpos : Pos} {T id : String} {r : V → List V → Hp → VK → Prop}
theorem pe_bm0 (pa : PlainAttrs T) (slot : Slot T name id) (hty : typeOf (.builtin id) = pure (.type "method_descriptor")) (hm : MtR X id r) (ho : PE X o to)
    (hbase : attributeBase o name X.env (eval o X.env) = eval o X.env := by rfl) (hline : (apos.endLine == cpos.line) = true := by rfl) : PE X (.Call (.Attribute o name apos) [] [] cpos) (tBM0 X.K T r to) := by
  intro pins s σ H Q I h
  refine wpAny_Call_method0_late hbase hline (thn (ho pins s σ H _ I h) fun v s1 ⟨x, H1, I1, r1, ty, q1⟩ => ?_)
  obtain ⟨h1, h2⟩ := tyV_is I1 r1 ty
  exact ⟨T, id, pa, slot, hty, h1, h2, Calls.callWith_builtin rfl (PySem.evalArgs_none (hm pins s1 σ H1 x [] v [] Q I1 r1 .nil q1))⟩
theorem pe_bm (pa : PlainAttrs T) (slot : Slot T name id) (hty : typeOf (.builtin id) = pure (.type "method_descriptor")) (hm : MtR X id r) (ho : PE X o to) (ha : PA X (e :: es) t)
    (hbase : attributeBase o name X.env (eval o X.env) = eval o X.env := by rfl)
    (hfew : ((backTo cpos (starEach (e :: es) X.env)).all (fun x => !x.1) && (backToKw cpos (keywordEach [] X.env)).all (fun x => x.1.isSome)
      && decide ((e :: es).length + ([] : List Keyword).length + (if ([] : List Keyword).isEmpty then 0 else 1) < 30)) = true := by rfl)
    (hline : (apos.endLine == cpos.line) = true := by rfl) (hs : starEach (e :: es) X.env = (false, eval e X.env) :: starEach es X.env := by rfl) (hplain : (backTo cpos (starEach es X.env)).any (·.1) = false := by rfl) :
    PE X (.Call (.Attribute o name apos) (e :: es) [] cpos) (tBM X.K T r to t) := by
  intro pins s σ H Q I h
  refine wpAny_Call_method_late hbase hfew hline rfl (thn (ho pins s σ H _ I h) fun v s1 ⟨x, H1, I1, r1, ty, q1⟩ => ?_)
  obtain ⟨h1, h2⟩ := tyV_is I1 r1 ty
  refine ⟨T, id, pa, slot, hty, h1, h2, ?_⟩
  have hA := ha cpos pins s1 σ H1 _ I1 q1
  rw [hs] at hA ⊢
  refine Calls.callWith_builtin (by show (false || (backTo cpos (starEach es X.env)).any (·.1)) = false; rw [hplain] <;> rfl) (Calls.evalArgs_plain ?_)
  exact thn hA fun us s2 ⟨vs, H2, I2, r2, q2⟩ => hm pins s2 σ H2 x vs v us Q I2 r1 r2 q2
/- xs.append(e), list.index on a module's tuple .. are MtR facts of 06m -/
end
end L2

namespace L2
open PySem PySem.Spec PyProof.Rows

def MtM (X : Cx) (id : String) (r : V → List V → Hp → VK → Prop) : Prop :=
  ∀ (pins : List (Addr × Obj)) (s : Shared) (σ : St) (H : Hp) (x : V) (xs : List V) (v : Value) (us : List Value) (Q : VK), Inv X pins σ H s → RelV x v → Vals xs us → r x xs H Q →
    wpAny (model X.prog X.w) X.A (call (.builtin id) (v :: us)) (EP X pins σ Q) X.xe s

/-! ### lists of values -/
theorem Vals.one : ∀ {x : V} {us : List Value}, Vals [x] us → ∃ u, us = [u] ∧ RelV x u
  | _, _, .cons r .nil => ⟨_, rfl, r⟩
theorem Vals.two : ∀ {x y : V} {us : List Value}, Vals [x, y] us → ∃ u v, us = [u, v] ∧ RelV x u ∧ RelV y v
  | _, _, _, .cons r (.cons q .nil) => ⟨_, _, rfl, r, q⟩
theorem Vals.zero : ∀ {us : List Value}, Vals [] us → us = []
  | _, .nil => rfl
theorem Vals.reverse {xs : List V} {us : List Value} (h : Vals xs us) : Vals xs.reverse us.reverse := by
  induction h with
  | nil => exact .nil
  | cons r t ih => rw [List.reverse_cons, List.reverse_cons]; exact Vals.append ih (.cons r .nil)
theorem Vals.rep {xs : List V} {us : List Value} (h : Vals xs us) : ∀ k : Nat, Vals (List.replicate k xs).flatten (List.replicate k us).flatten
  | 0 => .nil
  | k + 1 => by
    rw [List.replicate_succ, List.replicate_succ, List.flatten_cons, List.flatten_cons]
    exact Vals.append h (Vals.rep h k)
theorem foldl_rep (its : List Value) : ∀ (k : Nat) (acc : List Value),
    List.foldl (fun x1 x2 => x1 ++ x2) acc.toArray (List.replicate k its.toArray) = (acc ++ (List.replicate k its).flatten).toArray
  | 0, acc => by simp
  | k + 1, acc => by
    have e : acc.toArray ++ its.toArray = (acc ++ its).toArray := by simp
    have e2 : (acc ++ its) ++ (List.replicate k its).flatten = acc ++ (List.replicate (k + 1) its).flatten := by
      rw [List.replicate_succ, List.flatten_cons, List.append_assoc]
    rw [← e2, ← foldl_rep its k (acc ++ its), ← e, List.replicate_succ, List.foldl_cons]

section
variable {X : Cx} {pins : List (Addr × Obj)} {σ : St} {H : Hp} {s : Shared} {l b : Addr} {xs ys zs : List V}

/-! ### the two steps: a tracked list is rewritten, a new list is laid -/
theorem Inv.lset {its its' : List Value} {n : Nat} {f : Array Value → Array Value} {t' : Nat} (I : Inv X pins σ H s) (hH : H l = some (.lst xs))
    (e : s.heap.get? l = some { cls := .type "list", data := .seq its.toArray n }) (hf : f its.toArray = its'.toArray) (hv : Vals ys its') (hz : ys.length ≤ sizeLine) :
    Inv X pins σ (upd H l (.lst ys)) { s with heap := s.heap.update l (Obj.mapSeq f), toks := t' } := by
  have q := PySem.IsL.update e f
  rw [hf] at q
  refine I.write (x := l) (e := l) (by rw [hH]; exact trivial) (.inl rfl) (fun b' u hb hu => (Heap.get?_update_other s.heap (Obj.mapSeq f) (Ne.symm hb)).trans hu) ⟨_, q⟩ ?_
  exact ⟨hz, its', _, hv, q⟩
theorem Inv.lnew {its : List Value} {t' : Nat} (I : Inv X pins σ H s) (hv : Vals ys its) (hz : ys.length ≤ sizeLine) :
    Inv X pins σ (upd H s.heap.objs.size (.lst ys)) { s with heap := s.heap.push { cls := .type "list", data := .seq its.toArray }, toks := t' } :=
  I.laid (fun _ _ q => Heap.get?_push_of_some _ q) (Nat.le_refl _) ⟨hz, its, 0, hv, Heap.get?_push_size _ rfl⟩
theorem Inv.fresh (I : Inv X pins σ H s) : H s.heap.objs.size = none := I.hok.fresh (Nat.le_refl _)
theorem Inv.lstM (I : Inv X pins σ H s) (hH : H l = some (.lst xs)) : xs.length ≤ sizeLine ∧ ∃ (its : List Value) (n : Nat), Vals xs its ∧ xs.length = its.length ∧ s.heap.get? l = some { cls := .type "list", data := .seq its.toArray n } := by
  obtain ⟨z, its, n, r, e⟩ := I.hok l _ hH
  exact ⟨z, its, n, r, r.length, e⟩

theorem notLongL {n : Nat} (h : n ≤ sizeLine) : Builtin.List.listTooLong n = false := by
  unfold Builtin.List.listTooLong
  exact decide_eq_false (by omega)
end

section
variable {X : Cx}

/-! ### methods -/
def rAppend : V → List V → Hp → VK → Prop := fun x vs H Q => ∃ l xs y, x = .ref l ∧ vs = [y] ∧ H l = some (.lst xs) ∧ xs.length < sizeLine ∧ Q .non (upd H l (.lst (xs ++ [y])))
theorem mt_append : MtM X "list.append" rAppend := by
  intro pins s σ H x vs v us Q I rx rv h
  obtain ⟨l, xs, y, rfl, rfl, hH, hz, q⟩ := h
  cases rx
  obtain ⟨u, rfl, ru⟩ := rv.one
  obtain ⟨z, its, n, r, hl, e⟩ := I.lstM hH
  refine call_meets F.slot_list_append ⟨_, e, rfl⟩ F.entry_list_append (F.args_list_append_2 _ _) (PySem.list_append l its.toArray n u (by rw [List.size_toArray]; omega)) ⟨e, ?_⟩
  refine ⟨.non, _, I.lset (its' := its ++ [u]) hH e (by simp) (r.append (.cons ru .nil)) ?_, rfl, q⟩
  rw [List.length_append, List.length_singleton]
  omega

def rReverse : V → List V → Hp → VK → Prop := fun x vs H Q => ∃ l xs, x = .ref l ∧ vs = [] ∧ H l = some (.lst xs) ∧ Q .non (upd H l (.lst xs.reverse))
theorem mt_reverse : MtM X "list.reverse" rReverse := by
  intro pins s σ H x vs v us Q I rx rv h
  obtain ⟨l, xs, rfl, rfl, hH, q⟩ := h
  cases rx
  have hus := rv.zero
  subst hus
  obtain ⟨z, its, n, r, hl, e⟩ := I.lstM hH
  refine call_meets F.slot_list_reverse ⟨_, e, rfl⟩ F.entry_list_reverse (F.args_list_reverse_1 _) (AutoSeq1.list_reverse_list_0 l its.toArray n (by rw [List.size_toArray]; omega)) ⟨e, ?_⟩
  refine ⟨.non, _, I.lset (its' := its.reverse) hH e (by simp) r.reverse ?_, rfl, q⟩
  rw [List.length_reverse]
  omega

def rClear : V → List V → Hp → VK → Prop := fun x vs H Q => ∃ l xs, x = .ref l ∧ vs = [] ∧ H l = some (.lst xs) ∧ Q .non (upd H l (.lst []))
theorem mt_clear : MtM X "list.clear" rClear := by
  intro pins s σ H x vs v us Q I rx rv h
  obtain ⟨l, xs, rfl, rfl, hH, q⟩ := h
  cases rx
  have hus := rv.zero
  subst hus
  obtain ⟨z, its, n, r, hl, e⟩ := I.lstM hH
  refine call_meets F.slot_list_clear ⟨_, e, rfl⟩ F.entry_list_clear (F.args_list_clear_1 _) (AutoSeq1.list_clear_list_0 l its.toArray n (by rw [List.size_toArray]; omega)) ⟨e, ?_⟩
  exact ⟨.non, _, I.lset (its' := []) (ys := []) hH e rfl .nil (Nat.zero_le _), rfl, q⟩

/-! ### list + list, list += list, list * int -/
def rCat : R2 := fun x y H Q => ∃ l b xs zs, x = .ref l ∧ y = .ref b ∧ H l = some (.lst xs) ∧ H b = some (.lst zs) ∧ xs.length + zs.length ≤ sizeLine ∧ ∀ p, H p = none → Q (.ref p) (upd H p (.lst (xs ++ zs)))
theorem op_cat : OpR X (binaryOp .Add) rCat := by
  intro pins s σ H x y v u Q I rx ry h
  obtain ⟨l, b, xs, zs, rfl, rfl, hH, hB, hz, q⟩ := h
  cases rx
  cases ry
  obtain ⟨z, its, n, r, hl, e⟩ := I.lstM hH
  obtain ⟨z2, its2, n2, r2, hl2, e2⟩ := I.lstM hB
  refine PySem.P.add_list e e2 ?_ (by rw [List.size_toArray, List.size_toArray]; omega)
  have ea : its.toArray ++ its2.toArray = (its ++ its2).toArray := by simp
  rw [ea]
  exact ⟨.ref _, _, I.lnew (t' := s.toks) (r.append r2) (by rw [List.length_append]; omega), rfl, q _ I.fresh⟩
/-- a list times an int (a negative one is nothing) -/
def rRep : R2 := fun x y H Q => ∃ l k xs, x = .ref l ∧ y = .int k ∧ H l = some (.lst xs) ∧ -(2 ^ 63) ≤ k ∧ k < 2 ^ 63 ∧ xs.length * k.toNat ≤ sizeLine ∧
  ∀ p, H p = none → Q (.ref p) (upd H p (.lst (List.replicate k.toNat xs).flatten))
theorem len_rep {α : Type} (xs : List α) (k : Nat) : (List.replicate k xs).flatten.length = k * xs.length := by
  induction k with
  | zero => simp
  | succ k ih => rw [List.replicate_succ, List.flatten_cons, List.length_append, ih, Nat.succ_mul, Nat.add_comm]
theorem op_rep : OpR X (binaryOp .Mult) rRep := by
  intro pins s σ H x y v u Q I rx ry h
  obtain ⟨l, k, xs, rfl, rfl, hH, h1, h2, hz, q⟩ := h
  cases rx
  obtain ⟨t, rfl⟩ := ry
  obtain ⟨z, its, n, r, hl, e⟩ := I.lstM hH
  have hlen : its.toArray.size * k.toNat ≤ sizeLine := by rw [List.size_toArray, ← hl]; exact hz
  have hcap : ¬ its.toArray.size * k.toNat > (2 ^ 63 - 1) / 8 := by
    have : (sizeLine : Nat) ≤ (2 ^ 63 - 1) / 8 := by decide
    omega
  have hfit : ¬ (!Builtin.List.listFitsIndex k) = true := by
    rw [fitsIndex_both h1 h2]
    exact Bool.false_ne_true
  have hlong : ¬ Builtin.List.listTooLong (its.toArray.size * k.toNat) = true := by
    rw [notLongL hlen]
    exact Bool.false_ne_true
  have hnew : List.foldl (fun x1 x2 => x1 ++ x2) #[] (List.replicate (if its.toArray.isEmpty = true then 0 else k.toNat) its.toArray) = (List.replicate k.toNat its).flatten.toArray := by
    have f0 : ∀ m : Nat, List.foldl (fun x1 x2 => x1 ++ x2) #[] (List.replicate m its.toArray) = (List.replicate m its).flatten.toArray := fun m => by
      have := foldl_rep its m []
      rw [List.nil_append] at this
      exact this
    rw [f0]
    cases its with
    | nil => simp
    | cons a r' => rw [if_neg (by simp)]
  refine wpAny_binaryOp_repeat_ref (T := "list") (U := "int") (by decide) ⟨_, e, rfl⟩ (fun s' => typeIs_int s' k t) noFill_list_mul F.fills_int_mul F.slot_int_rmul repeat_list F.slot_int_index.lookup
    (call_meets F.slot_int_rmul (typeIs_int s k t) F.entry_int_rmul (F.args_int_rmul_2 _ _) (int___rmul___int_list k t l its.toArray n)
      ⟨e, rfl, ⟨_, e, rfl⟩, call_meets F.slot_list_mul ⟨_, e, rfl⟩ F.entry_list_mul (F.args_list_mul_2 _ _) (AutoListH.list___mul___list_int_3 l its.toArray n k t hfit hcap hlong) ⟨e, ?_⟩⟩)
  rw [hnew]
  exact ⟨.ref _, _, I.lnew (t' := s.toks) (r.rep k.toNat) (by rw [len_rep, Nat.mul_comm]; exact hz), rfl, q _ I.fresh⟩

/-! ### del xs[i] -/
end

/-! ### xs[a:b] = ys -/
section
variable {prog : Program} {w : World} {A : Around} {E : Value → Shared → Prop} {s : Shared}
end

section
variable {X : Cx}
end
end L2

namespace Att
open PySem PySem.W PySem.Calls PyProof.Rows

/-! ### the script -/
theorem ints_of_wellAll {P : Params} {h : Heap} : ∀ (ns : List Int) (vs : List Value), WellAll P h vs (ns.map WData.int) → IntsAre vs ns := by
  intro ns
  induction ns with
  | nil =>
    intro vs w
    rw [List.map_nil] at w
    cases w
    exact .nil
  | cons n ns ih =>
    intro vs w
    rw [List.map_cons] at w
    cases w with
    | cons a b =>
      cases a
      exact .cons _ _ (ih _ b)

theorem script_of {l : OpenLaw} {n : Nat} (hn : l.most = some n) {P : Params} {h : Heap} {args : List WData} {vals : List Value}
    (hpre : l.row.toRowW.claim.pre args = true) (hwl : WellAll P h vals args) :
    ∃ a vs ns, vals = [Value.ref a] ∧ args = [WData.list (ns.map WData.int)] ∧ h.get? a = some { cls := .type "list", data := .seq vs.toArray } ∧ IntsAre vs ns ∧ ns.length ≤ n := by
  have hsh : WShape.hasAll [] args [.list .int] = true := (pre_splitW hpre).1
  have hc : l.pre.holds [] { args := args } = true := (pre_splitW hpre).2
  obtain ⟨d, r, rfl, h1, h2⟩ := hasAllW_cons hsh
  obtain rfl := hasAllW_nil h2
  obtain ⟨xs, rfl, h3⟩ := hasW_list h1
  obtain ⟨ns, rfl⟩ := items_int h3
  have hlen : ns.length ≤ n := by
    unfold OpenLaw.pre at hc
    have h4 : (WTm.not (.lt (.lit (.int (n : Int))) (.len (.arg 0)))).holds [] { args := [.list (ns.map .int)] } = true := by
      have h4 := (holds_andW hc).1
      rw [hn] at h4
      exact h4
    have h5 := condW_of h4 (w_not (w_lt w_lit (w_len_list (w_arg rfl))))
    rw [List.length_map] at h5
    refine Nat.le_of_not_lt fun q => ?_
    have q' : (n : Int) < ((ns.length : Nat) : Int) := by omega
    first
      | (rw [decide_eq_true q'] at h5; exact absurd h5 (by decide))
      | (simp at h5; omega)
  cases hwl with
  | cons w1 w2 =>
    cases w2
    cases w1 with
    | list ho hall => exact ⟨_, _, ns, rfl, rfl, ho, ints_of_wellAll ns _ hall, hlen⟩

theorem post_true (l : OpenLaw) (args : List WData) : l.row.toRowW.claim.post args (.bool true) args = true :=
  postW_of (r := l.row.toRowW) (X := (true == true))
    (show WShape.has [] (.bool true) .bool = true by first | rfl | decide | simp [WShape.has, WShape.arms, WShape.armsAll])
    (show (WTm.eq .res (.lit (.bool true))).value [] { args := args, res := some (.bool true), after := args } = some (.bool (true == true)) from w_eq_bool (w_res rfl) w_lit) rfl

/-! ### the attachment: holds_open's last premise (the goal 'hc' behind k_head) from a wpAny of the law's body -/
/-- the same from a codeAny of the CALL (for a layer whose function contracts speak of calls) -/
theorem attach_call {l : OpenLaw} {n : Nat} {q : Program} {loose : List Str} {XP : (Str → Option Value) → Heap → Prop} {YP : World → Heap → Prop} {d : DefRec}
    (hn : l.most = some n) (hdf : d.params.defaults = [])
    (call : ∀ (w : World) (s₀ s₁ : Shared) (mg mb : Str → Option Value) (fa : Addr) (o : Obj) (pm cd doc : Value) (a : Addr) (vs : List Value) (ns : List Int),
      Ground q loose [] XP w s₀ mg mb s₁.heap → YP w s₁.heap →
      s₁.heap.get? fa = some o → o.data = .func (docDef d.name d.params d.body d.scope pm cd doc) → s₁.heap.CodeRec cd d.name → mg d.name = some (.ref fa) →
      s₁.heap.get? a = some { cls := .type "list", data := .seq vs.toArray } → IntsAre vs ns → ns.length ≤ n → s₁.gens = #[] →
      codeAny (model l.prog w) callerA (.call (.ref fa) ⟨[.ref a], []⟩) (fun r s' => r = .ok (.ret (.bool true)) ∧ OldK s₁.heap s'.heap ∧ s'.os = s₁.os ∧ AllBare s'.gens) s₁) :
    WalkO q loose XP YP l.row.toRowW d [] (fun f vs => PySem.call f vs) := by
  intro w s₀ s₁ mg mb G Y fa o pm cd doc dV kV ho hd hcd hD hmg hg args vals as hpre hlay hrd hwl hlo
  obtain rfl : dV = .none := Dflts.none hD hdf
  obtain rfl : kV = .none := Dflts.noKw hD
  obtain ⟨a, vs, ns, rfl, rfl, hobj, hints, hlen⟩ := script_of hn hpre hwl
  refine enter_call (codeAny_mono (call w s₀ s₁ mg mb fa o pm cd doc a vs ns G Y ho (fd_plain hd) hcd hmg hobj hints hlen hg) fun r s' hq => ?_)
  obtain ⟨rfl, h2, h3, h4⟩ := hq
  exact ⟨.inl ⟨.bool true, .bool true, [], rfl, fun _ => rfl, .bool true, post_true l _, fun _ => ⟨List.Pairwise.nil, fun _ hm => (nomatch hm)⟩⟩, h2, h3, h4⟩

/-! ### rules over ANY heap (no ledger) from facts about the written part K: the library's own take a ledger (News) for what they write -/
section
variable {prog : Program} {w : World} {A : Around} {E : Value → Shared → Prop} {s : Shared} {K : Frag}

/-! the whole heap as the ledger: makes every rule that writes through a ledger a rule over any heap -/
def ledger (h : Heap) (L d : Addr) : List (Addr × Obj) := (List.range h.objs.size).filterMap fun a => if a = L ∨ a = d then none else (h.get? a).map fun o => (a, o)
end
end Att

namespace L2
open PySem PySem.Spec PyProof.Rows

theorem vals_ints : ∀ {vs : List Value} {ns : List Int}, IntsAre vs ns → Vals (ns.map V.int) vs
  | _, _, .nil => .nil
  | _, _, .cons n t h => .cons ⟨t, rfl⟩ (vals_ints h)

/-- nothing is tracked but the script, known to the object (or it is an object of the module) -/
def Only (H : Hp) : Prop := ∀ b, H b = none ∨ ∃ o xs, H b = some (.frz o (.lst xs))

/-- THE HEAD: the law's promise, at the heap behind the top. F, the promise of the law's def, may use that base is part of the heap (so K.In base, base.Ns mainGlobals mg stand in Mod) -/
theorem law_call {P : Program} {w : World} {K : PySem.W.Frag} {mg mb : Str → Option Value} {CX : CXT} {k : Nat} {fa a : Addr} {fd : FuncData} {x : Str} {sp : Sp} {s₁ : Shared} {vs : List Value} {ns : List Int}
    (KX : K.In s₁.heap) (hns : s₁.heap.Ns mainGlobals mg) (hb : s₁.heap.Ns builtinsNs mb) (hbb : ∀ x : Str, x ≠ "__name__" → mb x = bootBuiltins x) (hlim : s₁.heap.NoLimit) (hg : s₁.gens = #[])
    (ha : s₁.heap.get? a = some { cls := .type "list", data := .seq vs.toArray }) (hi : IntsAre vs ns) (hl : ns.length ≤ sizeLine) (hr : Room k callerA)
    (F : ∀ base : Heap, K.In base → base.Ns mainGlobals mg → FnOk P w K mg base CX k fa fd [x] sp) (hbind : ∀ (s : Shared) (u : Value), BindsTo s fd ⟨[u], []⟩ [(x, u)])
    (hsp : ∀ H : Hp, Only H → SqL K H a (ns.map V.int) → sp [.ref a] H (fun v _ => v = .bl true) fun _ _ _ => False)
    (hCX : ∀ H e s', CX [] H s₁ (fun _ _ _ => False) e s' → False) :
    codeAny (model P w) callerA (.call (.ref fa) ⟨[.ref a], []⟩) (fun r s' => r = .ok (.ret (.bool true)) ∧ OldK s₁.heap s'.heap ∧ s'.os = s₁.os ∧ AllBare s'.gens) s₁ := by
  have rv := vals_ints hi
  have lenV := hi.length
  -- from an abstract heap in which nothing but the script may be tracked
  have core : ∀ H : Hp, Only H → SqL K H a (ns.map V.int) → HOk P w H s₁.heap → (∀ b, H b ≠ none → b = a) → (H a ≠ none → K.lookup a = none) →
      codeAny (model P w) callerA (.call (.ref fa) ⟨[.ref a], []⟩) (fun r s' => r = .ok (.ret (.bool true)) ∧ OldK s₁.heap s'.heap ∧ s'.os = s₁.os ∧ AllBare s'.gens) s₁ := by
    intro H hO hS hok hA hK
    have base_of : ∀ {b : Addr} {o : Obj}, s₁.heap.get? b = some o → H b = none → (hidT s₁.heap H).get? b = some o := fun e n => hidT_get e n
    have noA : ∀ {b : Addr} {o : Obj} {es : Array DictEntry} {ep : Nat}, s₁.heap.get? b = some o → o.data = .dict es ep → H b = none := fun {b o es ep} e d => by
      cases q : H b with
      | none => rfl
      | some u =>
        have e' : b = a := hA b (by rw [q]; simp)
        subst e'
        rw [ha] at e; cases e
        have d' : Data.seq vs.toArray _ = Data.dict es ep := d
        cases d'
    have nsK : ∀ {b : Addr} {m : Str → Option Value}, s₁.heap.Ns b m → (hidT s₁.heap H).Ns b m := fun {b m} ⟨o, es, ep, e, d, r⟩ => ⟨o, es, ep, base_of e (noA e d), d, r⟩
    have hKb : K.In (hidT s₁.heap H) := fun b o e => base_of (KX b o e) (by
      cases q : H b with
      | none => rfl
      | some u =>
        have e' : b = a := hA b (by rw [q]; simp)
        subst e'
        rw [hK (by rw [q]; simp)] at e; cases e)
    have hM : Mod K mg (hidT s₁.heap H) := ⟨hKb, nsK hns, ⟨mb, nsK hb, hbb⟩, let ⟨mc, h1, h2⟩ := hlim; ⟨mc, nsK h1, h2⟩⟩
    have e0 : Env0 P w K mg (hidT s₁.heap H) callerA [] s₁ H := ⟨rfl, hM, fun b o e => of_hidT e, Nat.le_of_eq (hidT_size _ _), trivial, fun b hb => absurd (show b ∈ ([] : List Addr) from hb) (by simp), hok, .of_eq hg⟩
    refine codeAny_mono ((F _ hKb (nsK hns)).run callerA [] s₁ H ⟨[.ref a], []⟩ [.ref a] [.ref a] _ _ hr e0 (hbind s₁ (.ref a)) (.cons rfl .nil) (hsp H hO hS)) fun r s' h => ?_
    cases r with
    | error e => exact (hCX H e s' h).elim
    | ok fl =>
      cases fl with
      | next => exact False.elim h
      | brk => exact False.elim h
      | cont => exact False.elim h
      | ret u =>
        obtain ⟨v, H', os, bare, un, hok', r', q⟩ := h
        have q' : v = .bl true := q
        subst q'
        obtain rfl : u = Value.bool true := r'
        refine ⟨rfl, OldK.of_keep fun b o e => ?_, os, bare⟩
        cases q : H b with
        | none => exact un.keep b o e q (by intro z; exact absurd (show b ∈ ([] : List Addr) from z) (by simp)) (by simp)
        | some u =>
          rcases hO b with z | ⟨ob, xs, z⟩
          · rw [q] at z; cases z
          · have z2 := un.frzs b ob _ z
            obtain ⟨e1, _⟩ := hok b _ z
            obtain ⟨e2, _⟩ := hok' b _ z2
            rw [e] at e1; cases e1
            exact e2
  cases hk : K.lookup a with
  | some o =>
    -- the script is one of the module's own objects
    have e := KX a o hk
    rw [ha] at e
    cases e
    refine core (fun _ => none) (fun _ => .inl rfl) (.inr ⟨_, vs.toArray, _, hk, rfl, rfl, rfl, by rw [List.size_toArray, lenV]; exact hl, by simpa using rv⟩) (fun b u z => by have z' : (none : Option HO) = some u := z; cases z') (fun b z => absurd rfl z) fun z => absurd rfl z
  | none =>
    refine core (fun b => if b = a then some (.frz { cls := .type "list", data := .seq vs.toArray } (.lst (ns.map V.int))) else none) (fun b => ?_) (.inl (.inr ⟨{ cls := .type "list", data := .seq vs.toArray }, if_pos rfl⟩)) (fun b u z => ?_) (fun b z => ?_) fun _ => hk
    · by_cases hb : b = a
      · exact .inr ⟨_, _, if_pos hb⟩
      · exact .inl (if_neg hb)
    · by_cases hb : b = a
      · have z' := (if_pos hb).symm.trans z
        cases z'
        subst hb
        exact ⟨ha, by rw [List.length_map]; exact hl, vs, _, rv, ha⟩
      · have z' := (if_neg hb).symm.trans z
        cases z'
    · by_cases hb : b = a
      · exact hb
      · exact absurd (if_neg hb) z
end L2

namespace L2
open PySem PySem.Spec PyProof.Rows

/-- the goal that k_head leaves (case hc), from the law's promise. F gives the function object fd (K's own) once, then the promise over every base -/
theorem walk_of {l : PySem.W.OpenLaw} {n k : Nat} {q : Program} {loose : List Str} {XP : (Str → Option Value) → Heap → Prop} {YP : World → Heap → Prop} {d : DefRec} {K : Params → PySem.W.Frag} {CX : World → CXT} {sp : World → Sp} {x : Str}
    (hn : l.most = some n) (hn2 : n ≤ sizeLine) (hdf : d.params.defaults = []) (hr : Room k callerA)
    (hY : ∀ (w : World) (h : Heap), YP w h → (K w.params).In h)
    (F : ∀ (w : World) (mg : Str → Option Value) (fa : Addr) (h : Heap), (K w.params).In h → h.Ns mainGlobals mg → mg d.name = some (.ref fa) →
      ∃ fd : FuncData, (∀ (s : Shared) (u : Value), BindsTo s fd ⟨[u], []⟩ [(x, u)]) ∧
        ∀ base : Heap, (K w.params).In base → base.Ns mainGlobals mg → FnOk l.prog w (K w.params) mg base (CX w) k fa fd [x] (sp w))
    (hsp : ∀ (w : World) (H : Hp) (a : Addr) (ns : List Int), ns.length ≤ n → Only H → SqL (K w.params) H a (ns.map V.int) → sp w [.ref a] H (fun v _ => v = .bl true) fun _ _ _ => False)
    (hCX : ∀ (w : World) (H : Hp) (s : Shared) (e : Value) (s' : Shared), CX w [] H s (fun _ _ _ => False) e s' → False) :
    PySem.W.WalkO q loose XP YP l.row.toRowW d [] (fun f vs => PySem.call f vs) := by
  refine Att.attach_call hn hdf fun w s₀ s₁ mg mb fa o pm cd doc a vs ns G Y ho hd hcd hmg hobj hints hlen hg => ?_
  have KX := hY w _ Y
  obtain ⟨fd, hb, hF⟩ := F w mg fa _ KX G.T.g hmg
  exact law_call KX G.T.g G.T.b G.T.builtins G.T.nolimit hg hobj hints (Nat.le_trans hlen hn2) hr hF hb (fun H hO hS => hsp w H a ns hlen hO hS) fun H e s' => hCX w H s₁ e s'
end L2

/-! SHORT WORDS over the layer: a def of the text, its body, what a loop and a test want. -/
namespace L2
open PySem PySem.Spec PyProof.Rows

/-! ### the text by places -/
def defArgs (s : Stmt) : Arguments := match s with
  | .FunctionDef _ a _ _ _ _ _ _ _ _ => a
  | _ => { posonlyargs := [], args := [], vararg := none, kwonlyargs := [], kw_defaults := [], kwarg := none, defaults := [] }
def defBody (s : Stmt) : List Stmt := match s with
  | .FunctionDef _ _ b _ _ _ _ _ _ _ => b
  | _ => []
def defScope (s : Stmt) : Scope := match s with
  | .FunctionDef _ _ _ _ _ _ sc _ _ _ => sc
  | _ => { kind := .function, names := [], isGenerator := false, isCoroutine := false }

/-! ### no exception leaves a def -/
abbrev CX0 : CXT := fun _ _ _ _ _ _ => False
abbrev E0 : XK := fun _ _ _ => False
theorem pass0 {X : Cx} : Passes CX0 X E0 := fun _ _ _ _ _ _ _ h => h.elim

/-! ### a def (or method) of the text as it stands behind the top -/
structure Fun (K : PySem.W.Frag) (x qual : Str) (st : Stmt) (f : Addr) (fd : FuncData) : Prop where
  ex : ∃ (oc : Value) (od : Option Addr) (kV doc pm : Value) (an : Option Addr) (cdv ct : Value) (osl : Array (Option Value)),
    fd = PySem.W.fnOf x qual (defArgs st) (defBody st) (defScope st) .none kV doc pm an cdv ct ∧ K.lookup f = some ⟨oc, od, .func fd, osl⟩ ∧ PySem.W.codeIn K cdv qual = true
  kp : PySem.W.keepIn K (.ref f) = true
section
variable {P : Program} {w : World} {K : PySem.W.Frag} {mg : Str → Option Value} {base : Heap}
/-- THE RULE for a def: its body as a term of rules, and the reading of that term -/
theorem Fun.ok {x qual : Str} {st : Stmt} {f : Addr} {fd : FuncData} {N ps : List Str} {k : Nat} {sp : Sp} (F : Fun K x qual st f fd) (S : FnScope N ps (defScope st)) (len : ∀ vs H Q E, sp vs H Q E → vs.length = ps.length)
    (hbody : ∀ (cdv : Value) (A : Around) (outer : List Env) (s : Shared) (H : Hp) (vs : List V) (Q : VK) (E : XK), Room k (A.deeper (envOfC qual (defScope st) s.heap.objs.size f cdv)) → sp vs H Q E →
      ∃ t, PSs (cxOf CX0 P w K mg base N qual (defScope st) f cdv A outer s H E).nox (defBody st) t ∧ t { nx := fun _ H' => Q .non H', rt := Q } (start N vs) H) : FnOk P w K mg base CX0 (k + 1) f fd ps sp := by
  obtain ⟨oc, od, kV, doc, pm, an, cdv, ct, osl, rfl, lk, hcd⟩ := F.ex
  refine fn_of lk hcd S len fun A outer s H vs Q E hr hsp => ?_
  obtain ⟨t, h, q⟩ := hbody cdv A outer s H vs Q E hr hsp
  exact ⟨t, h.nox, q⟩
/-- how its arguments bind (no defaults): h is «fun _ _ _ _ _ _ us hl => match us, hl with | [_, _], _ => rfl», one _ a parameter -/
theorem Fun.binds {x qual : Str} {st : Stmt} {f : Addr} {fd : FuncData} {ps : List Str} (F : Fun K x qual st f fd)
    (h : ∀ (kV doc pm : Value) (an : Option Addr) (cdv ct : Value) (us : List Value), us.length = ps.length → bindArgs (PySem.W.fnOf x qual (defArgs st) (defBody st) (defScope st) .none kV doc pm an cdv ct) ⟨us, []⟩ = pure (ps.zip us)) : Binds K fd ps [] := by
  obtain ⟨oc, od, kV, doc, pm, an, cdv, ct, osl, rfl, lk, hcd⟩ := F.ex
  exact .all (h kV doc pm an cdv ct)
theorem fun_mk {x qual : Str} {st : Stmt} {f : Addr} {oc : Value} {od an : Option Addr} {osl : Array (Option Value)} {kV doc pm cdv ct : Value} (l : K.lookup f = some ⟨oc, od, .func (PySem.W.fnOf x qual (defArgs st) (defBody st) (defScope st) .none kV doc pm an cdv ct), osl⟩)
    (c : PySem.W.codeIn K cdv qual = true) (k : PySem.W.keepIn K (.ref f) = true) : Fun K x qual st f (PySem.W.fnOf x qual (defArgs st) (defBody st) (defScope st) .none kV doc pm an cdv ct) := ⟨⟨oc, od, kV, doc, pm, an, cdv, ct, osl, rfl, l, c⟩, k⟩
end
theorem small1000 {n : Nat} (h : n ≤ 1000) : n < sizeLine := Nat.lt_of_le_of_lt h (by decide)

/-! ### expressions in short: the name that stands in the i-th slot -/
section
variable {X : Cx}
end

/-! ### tests -/
/-! ### heaps -/
/-- all that was tracked is as it was -/
def Same (H H' : Hp) : Prop := ∀ b o, H b = some o → H' b = some o
theorem Same.refl (H : Hp) : Same H H := fun _ _ h => h
theorem Same.trans {H H1 H2 : Hp} (a : Same H H1) (b : Same H1 H2) : Same H H2 := fun c o h => b c o (a c o h)
theorem Same.free {H H' : Hp} (e : Same H H') {l : Addr} (h : H' l = Option.none) : H l = Option.none := by
  cases q : H l with
  | none => rfl
  | some o =>
    rw [e l o q] at h
    cases h
theorem Same.seq {K : PySem.W.Frag} {H H' : Hp} {a : Addr} {xs : List V} (e : Same H H') (h : SqL K H a xs) : SqL K H' a xs := by
  rcases h with (h | ⟨o, h⟩) | h
  · exact .inl (.inl (e _ _ h))
  · exact .inl (.inr ⟨o, e _ _ h⟩)
  · exact .inr h

end L2


set_option Elab.async false
set_option linter.all false
set_option maxRecDepth 100000
set_option maxHeartbeats 4000000
namespace Mth
/-! ### fractions as pairs of ints -/
def gc (t b : Int) : Int := (Int.gcd t b : Int)
theorem gc_pos {t b : Int} (h : 0 < b) : 0 < gc t b := by
  unfold gc
  have : 0 < Int.gcd t b := Int.gcd_pos_of_ne_zero_right t (by omega)
  omega
theorem gc_step {t b : Int} : gc b (t % b) = gc t b := by
  unfold gc
  have h : t % b = t + (-(t / b)) * b := by
    have := Int.emod_add_mul_ediv t b
    grind
  rw [h, Int.gcd_add_mul_right_right, Int.gcd_comm]
theorem gc_zero {t : Int} (h : 0 ≤ t) : gc t 0 = t := by
  unfold gc
  rw [Int.gcd_zero_right]; omega
theorem gc_dvd_l {t b : Int} : gc t b ∣ t := Int.gcd_dvd_left t b
theorem gc_dvd_r {t b : Int} : gc t b ∣ b := Int.gcd_dvd_right t b
theorem gc_le {t b : Int} (h : 0 < b) : gc t b ≤ b := Int.le_of_dvd h gc_dvd_r
theorem gc_abs {t b : Int} : gc (t.natAbs : Int) b = gc t b := by
  unfold gc; simp [Int.gcd]
def rd (t b : Int) : Int × Int := (t / gc t b, b / gc t b)
structure Lo (a b : Int) : Prop where
  pos : 0 < b
  one : gc a b = 1
theorem rd_l {t b : Int} : (rd t b).1 * gc t b = t := Int.ediv_mul_cancel gc_dvd_l
theorem rd_r {t b : Int} : (rd t b).2 * gc t b = b := Int.ediv_mul_cancel gc_dvd_r
theorem rd_lo {t b : Int} (h : 0 < b) : Lo (rd t b).1 (rd t b).2 := by
  have hg := gc_pos (t := t) h
  constructor
  · have e := rd_r (t := t) (b := b)
    have : 0 < (rd t b).2 * gc t b := by omega
    exact Int.pos_of_mul_pos_left this hg
  · unfold gc rd
    simp only
    have := Int.gcd_ediv_gcd_ediv_gcd (i := t) (j := b) (by unfold gc at hg; omega)
    unfold gc
    rw [this]; rfl
theorem rd_cross {t b : Int} : (rd t b).1 * b = t * (rd t b).2 := by
  have e1 := rd_l (t := t) (b := b)
  have e2 := rd_r (t := t) (b := b)
  generalize (rd t b).1 = x at *
  generalize (rd t b).2 = y at *
  generalize gc t b = g at *
  subst e1 e2
  grind
/-- lowest terms are one -/
theorem Lo.ext {a b c d : Int} (h : Lo a b) (k : Lo c d) (e : a * d = c * b) : a = c ∧ b = d := by
  have hb := h.pos
  have hd := k.pos
  have h1 : b ∣ d := by
    have : b ∣ a * d := ⟨c, by rw [e, Int.mul_comm]⟩
    have hg : Int.gcd b a = 1 := by have := h.one; unfold gc at this; rw [Int.gcd_comm]; omega
    have h3 := Int.dvd_gcd_mul_iff_dvd_mul.mpr this
    rw [hg] at h3
    simpa using h3
  have h2 : d ∣ b := by
    have : d ∣ c * b := ⟨a, by rw [← e, Int.mul_comm]⟩
    have hg : Int.gcd d c = 1 := by have := k.one; unfold gc at this; rw [Int.gcd_comm]; omega
    have h3 := Int.dvd_gcd_mul_iff_dvd_mul.mpr this
    rw [hg] at h3
    simpa using h3
  have hbd : b = d := Int.le_antisymm (Int.le_of_dvd hd h1) (Int.le_of_dvd hb h2)
  subst hbd
  exact ⟨Int.eq_of_mul_eq_mul_right (by omega) e, rfl⟩
theorem rd_eq {t b a c : Int} (h : 0 < b) (k : Lo a c) (e : t * c = a * b) : rd t b = (a, c) := by
  have x := (rd_lo (t := t) h).ext k (by
    have e1 := rd_l (t := t) (b := b)
    have e2 := rd_r (t := t) (b := b)
    have hg := gc_pos (t := t) h
    generalize (rd t b).1 = x at *
    generalize (rd t b).2 = y at *
    generalize gc t b = g at *
    have : g * (x * c) = g * (a * y) := by grind
    exact Int.eq_of_mul_eq_mul_left (by omega) this)
  exact Prod.ext x.1 x.2
theorem rd_of_lo {a b : Int} (h : Lo a b) : rd a b = (a, b) := rd_eq h.pos h rfl
theorem rd_id {a b : Int} (h : Lo a b) : rd a b = (a, b) := rd_of_lo h
theorem rd_same {x y z w : Int} (h : 0 < y) (k : 0 < w) (e : x * w = z * y) : rd x y = rd z w := by
  have c := rd_cross (t := z) (b := w)
  refine rd_eq h (rd_lo k) ?_
  have : w * (x * (rd z w).2) = w * ((rd z w).1 * y) := by grind
  exact Int.eq_of_mul_eq_mul_left (by omega) this
/-- sums, differences, products -/
def pl (p q : Int × Int) : Int × Int := rd (p.1 * q.2 + q.1 * p.2) (p.2 * q.2)
def mi (p q : Int × Int) : Int × Int := rd (p.1 * q.2 - q.1 * p.2) (p.2 * q.2)
def ti (p q : Int × Int) : Int × Int := rd (p.1 * q.1) (p.2 * q.2)
abbrev Lw (p : Int × Int) : Prop := Lo p.1 p.2
theorem rd_lw {t b : Int} (h : 0 < b) : Lw (rd t b) := rd_lo h
theorem pl_lw {p q : Int × Int} (h : 0 < p.2) (k : 0 < q.2) : Lw (pl p q) := rd_lo (Int.mul_pos h k)
theorem mi_lw {p q : Int × Int} (h : 0 < p.2) (k : 0 < q.2) : Lw (mi p q) := rd_lo (Int.mul_pos h k)
theorem ti_lw {p q : Int × Int} (h : 0 < p.2) (k : 0 < q.2) : Lw (ti p q) := rd_lo (Int.mul_pos h k)
theorem pl_comm (p q : Int × Int) : pl q p = pl p q := by
  unfold pl
  rw [Int.mul_comm q.2 p.2, Int.add_comm]
theorem mi_pl {p q : Int × Int} (h : Lw p) (k : 0 < q.2) : mi (pl p q) q = p := by
  have hp := pl_lw (p := p) (q := q) h.pos k
  have c : (pl p q).1 * (p.2 * q.2) = (p.1 * q.2 + q.1 * p.2) * (pl p q).2 := rd_cross
  unfold mi
  refine rd_eq (Int.mul_pos hp.pos k) h ?_
  generalize (pl p q).1 = x at *
  generalize (pl p q).2 = y at *
  grind
theorem pl_assoc {p q r : Int × Int} (h : 0 < p.2) (k : 0 < q.2) (l : 0 < r.2) : pl (pl p q) r = pl p (pl q r) := by
  have h1 := pl_lw (p := p) (q := q) h k
  have h2 := pl_lw (p := q) (q := r) k l
  have c1 : (pl p q).1 * (p.2 * q.2) = (p.1 * q.2 + q.1 * p.2) * (pl p q).2 := rd_cross
  have c2 : (pl q r).1 * (q.2 * r.2) = (q.1 * r.2 + r.1 * q.2) * (pl q r).2 := rd_cross
  have e1 : pl (pl p q) r = rd ((pl p q).1 * r.2 + r.1 * (pl p q).2) ((pl p q).2 * r.2) := rfl
  have e2 : pl p (pl q r) = rd (p.1 * (pl q r).2 + (pl q r).1 * p.2) (p.2 * (pl q r).2) := rfl
  rw [e1, e2]
  refine rd_same (Int.mul_pos h1.pos l) (Int.mul_pos h h2.pos) ?_
  generalize (pl p q).1 = x at *
  generalize (pl p q).2 = y at *
  generalize (pl q r).1 = z at *
  generalize (pl q r).2 = w at *
  have : q.2 * ((x * r.2 + r.1 * y) * (p.2 * w)) = q.2 * ((p.1 * w + z * p.2) * (y * r.2)) := by grind
  exact Int.eq_of_mul_eq_mul_left (by omega) this
theorem ti_pl {p q r : Int × Int} (h : 0 < p.2) (k : 0 < q.2) (l : 0 < r.2) : ti (pl p q) r = pl (ti p r) (ti q r) := by
  have h1 := pl_lw (p := p) (q := q) h k
  have h2 := ti_lw (p := p) (q := r) h l
  have h3 := ti_lw (p := q) (q := r) k l
  have c1 : (pl p q).1 * (p.2 * q.2) = (p.1 * q.2 + q.1 * p.2) * (pl p q).2 := rd_cross
  have c2 : (ti p r).1 * (p.2 * r.2) = (p.1 * r.1) * (ti p r).2 := rd_cross
  have c3 : (ti q r).1 * (q.2 * r.2) = (q.1 * r.1) * (ti q r).2 := rd_cross
  have e1 : ti (pl p q) r = rd ((pl p q).1 * r.1) ((pl p q).2 * r.2) := rfl
  have e2 : pl (ti p r) (ti q r) = rd ((ti p r).1 * (ti q r).2 + (ti q r).1 * (ti p r).2) ((ti p r).2 * (ti q r).2) := rfl
  rw [e1, e2]
  refine rd_same (Int.mul_pos h1.pos l) (Int.mul_pos h2.pos h3.pos) ?_
  generalize (pl p q).1 = x at *
  generalize (pl p q).2 = y at *
  generalize (ti p r).1 = z at *
  generalize (ti p r).2 = w at *
  generalize (ti q r).1 = u at *
  generalize (ti q r).2 = v at *
  have hpq : 0 < p.2 * q.2 := Int.mul_pos h k
  have a1 : p.2 * q.2 * (x * r.1 * (w * v)) = (p.1 * q.2 + q.1 * p.2) * y * r.1 * w * v := by grind
  have a2 : p.2 * q.2 * ((z * v + u * w) * (y * r.2)) = q.2 * v * y * (z * (p.2 * r.2)) + p.2 * w * y * (u * (q.2 * r.2)) := by grind
  have : p.2 * q.2 * (x * r.1 * (w * v)) = p.2 * q.2 * ((z * v + u * w) * (y * r.2)) := by
    rw [a1, a2, c2, c3]; grind
  exact Int.eq_of_mul_eq_mul_left (by omega) this
theorem Lo.neg {a b : Int} (h : Lo a b) : Lo (-a) b := ⟨h.pos, by have := h.one; unfold gc at *; rw [Int.neg_gcd]; exact this⟩
theorem lo01 : Lo 0 1 := ⟨by decide, by decide⟩
/-- sizes -/
def Sm (k : Nat) (x : Int) : Prop := x.natAbs < 2 ^ k
theorem Sm.mono {k l : Nat} {x : Int} (h : Sm k x) (e : k ≤ l) : Sm l x := Nat.lt_of_lt_of_le h (Nat.pow_le_pow_right (by decide) e)
theorem Sm.mul {k l : Nat} {x y : Int} (h : Sm k x) (g : Sm l y) : Sm (k + l) (x * y) := by
  unfold Sm at *
  rw [Int.natAbs_mul, Nat.pow_add]
  exact Nat.mul_lt_mul'' h g
theorem Sm.add {k : Nat} {x y : Int} (h : Sm k x) (g : Sm k y) : Sm (k + 1) (x + y) := by
  unfold Sm at *
  rw [Nat.pow_succ]; omega
theorem Sm.sub {k : Nat} {x y : Int} (h : Sm k x) (g : Sm k y) : Sm (k + 1) (x - y) := by
  unfold Sm at *
  rw [Nat.pow_succ]; omega
theorem Sm.neg {k : Nat} {x : Int} (h : Sm k x) : Sm k (-x) := by unfold Sm at *; omega
theorem Sm.of {k : Nat} {x : Int} (h : -(2 ^ k : Nat) < x) (g : x < (2 ^ k : Nat)) : Sm k x := by unfold Sm; omega
theorem Sm.div {k : Nat} {x g : Int} (h : Sm k x) (hg : 0 < g) (d : g ∣ x) : Sm k (x / g) := by
  obtain ⟨c, rfl⟩ := d
  rw [Int.mul_ediv_cancel_left _ (by omega)]
  unfold Sm at *
  rw [Int.natAbs_mul] at h
  have : 1 * c.natAbs ≤ g.natAbs * c.natAbs := Nat.mul_le_mul_right _ (by omega)
  omega
theorem rd_sm {k : Nat} {t b : Int} (hb : 0 < b) (h : Sm k t) (g : Sm k b) : Sm k (rd t b).1 ∧ Sm k (rd t b).2 :=
  ⟨h.div (gc_pos hb) gc_dvd_l, g.div (gc_pos hb) gc_dvd_r⟩
/-- a fraction in lowest terms, of k bits -/
structure Fr (k : Nat) (p : Int × Int) : Prop where
  lw : Lw p
  s1 : Sm k p.1
  s2 : Sm k p.2
theorem Fr.mono {k l : Nat} {p : Int × Int} (h : Fr k p) (e : k ≤ l) : Fr l p := ⟨h.lw, h.s1.mono e, h.s2.mono e⟩
theorem Fr.pos {k : Nat} {p : Int × Int} (h : Fr k p) : 0 < p.2 := h.lw.pos
theorem Fr.pl {k : Nat} {p q : Int × Int} (h : Fr k p) (g : Fr k q) : Fr (k + k + 1) (pl p q) :=
  have z := rd_sm (k := k + k + 1) (Int.mul_pos h.pos g.pos) ((h.s1.mul g.s2).add (g.s1.mul h.s2)) ((h.s2.mul g.s2).mono (by omega))
  ⟨pl_lw h.pos g.pos, z.1, z.2⟩
theorem Fr.mi {k : Nat} {p q : Int × Int} (h : Fr k p) (g : Fr k q) : Fr (k + k + 1) (mi p q) :=
  have z := rd_sm (k := k + k + 1) (Int.mul_pos h.pos g.pos) ((h.s1.mul g.s2).sub (g.s1.mul h.s2)) ((h.s2.mul g.s2).mono (by omega))
  ⟨mi_lw h.pos g.pos, z.1, z.2⟩
theorem Fr.ti {k : Nat} {p q : Int × Int} (h : Fr k p) (g : Fr k q) : Fr (k + k + 1) (ti p q) :=
  have z := rd_sm (k := k + k + 1) (Int.mul_pos h.pos g.pos) ((h.s1.mul g.s1).mono (by omega)) ((h.s2.mul g.s2).mono (by omega))
  ⟨ti_lw h.pos g.pos, z.1, z.2⟩
theorem Fr.rd {k : Nat} {t b : Int} (h : 0 < b) (s : Sm k t) (g : Sm k b) : Fr k (rd t b) := ⟨rd_lw h, (rd_sm h s g).1, (rd_sm h s g).2⟩
/-- a fraction of any two, the second not nought -/
def low (t b : Int) : Int × Int := if b < 0 then rd (-t) (-b) else rd t b
theorem low_pos {t b : Int} (h : 0 < b) : low t b = rd t b := by unfold low; rw [if_neg (by omega)]
theorem low_fr {k : Nat} {t b : Int} (h : b ≠ 0) (s : Sm k t) (g : Sm k b) : Fr k (low t b) := by
  unfold low
  split
  · exact Fr.rd (by omega) s.neg g.neg
  · exact Fr.rd (by omega) s g
theorem floor_le {a b : Int} (h : 0 < b) : a / b * b ≤ a := Int.ediv_mul_le a (by omega)
theorem floor_lt {a b : Int} (h : 0 < b) : a < (a / b + 1) * b := Int.lt_ediv_add_one_mul_self a h
end Mth

namespace Mth
/-! ### bounds -/
abbrev Bn := Option (Int × Bool)
def kp (p : Int × Int) : Bn → Bool
  | none => true
  | some (n, true) => decide (p.1 * 1 < n * p.2)
  | some (n, false) => !decide (n * p.2 < p.1 * 1)
def bs : Bn → Bn → Bn
  | some (n, s), some (m, t) => some (n + m, s || t)
  | _, _ => none
theorem bs_comm (a b : Bn) : bs b a = bs a b := by
  rcases a with _ | ⟨n, s⟩ <;> rcases b with _ | ⟨m, t⟩ <;> simp [bs, Int.add_comm, Bool.or_comm]
theorem bs_assoc (a b c : Bn) : bs (bs a b) c = bs a (bs b c) := by
  rcases a with _ | ⟨n, s⟩ <;> rcases b with _ | ⟨m, t⟩ <;> rcases c with _ | ⟨l, u⟩ <;> simp [bs, Int.add_assoc, Bool.or_assoc]
theorem bs_zero (a : Bn) : bs a (some (0, false)) = a := by
  rcases a with _ | ⟨n, s⟩ <;> simp [bs]
/-- as a proposition -/
def Kp (p : Int × Int) : Bn → Prop
  | none => True
  | some (n, true) => p.1 < n * p.2
  | some (n, false) => p.1 ≤ n * p.2
theorem kp_iff {p : Int × Int} {b : Bn} : kp p b = true ↔ Kp p b := by
  rcases b with _ | ⟨n, _ | _⟩
  · simp [kp, Kp]
  · simp [kp, Kp]
  · simp [kp, Kp]
/-- of a pair that is not in lowest terms -/
theorem Kp.rd {t b : Int} (h : 0 < b) {c : Bn} (k : Kp (t, b) c) : Kp (rd t b) c := by
  have e := rd_cross (t := t) (b := b)
  have l := (rd_lo (t := t) h).pos
  generalize Mth.rd t b = p at *
  rcases c with _ | ⟨n, _ | _⟩
  · trivial
  · show p.1 ≤ n * p.2
    have k' : t ≤ n * b := k
    have h1 : p.1 * b ≤ (n * p.2) * b := by
      have : t * p.2 ≤ (n * b) * p.2 := Int.mul_le_mul_of_nonneg_right k' (by omega)
      calc p.1 * b = t * p.2 := e
        _ ≤ (n * b) * p.2 := this
        _ = (n * p.2) * b := by grind
    exact Int.le_of_mul_le_mul_right h1 h
  · show p.1 < n * p.2
    have k' : t < n * b := k
    have h1 : p.1 * b < (n * p.2) * b := by
      have : t * p.2 < (n * b) * p.2 := Int.mul_lt_mul_of_pos_right k' l
      calc p.1 * b = t * p.2 := e
        _ < (n * b) * p.2 := this
        _ = (n * p.2) * b := by grind
    exact Int.lt_of_mul_lt_mul_right h1 (by omega)
theorem Kp.sum {p q : Int × Int} {a b : Bn} (hp : 0 < p.2) (hq : 0 < q.2) (h : Kp p a) (k : Kp q b) : Kp (p.1 * q.2 + q.1 * p.2, p.2 * q.2) (bs a b) := by
  rcases a with _ | ⟨n, s⟩
  · trivial
  rcases b with _ | ⟨m, t⟩
  · cases s <;> trivial
  have e1 : (n + m) * (p.2 * q.2) = (n * p.2) * q.2 + (m * q.2) * p.2 := by grind
  cases s <;> cases t
  · show p.1 * q.2 + q.1 * p.2 ≤ (n + m) * (p.2 * q.2)
    have h1 : p.1 ≤ n * p.2 := h
    have k1 : q.1 ≤ m * q.2 := k
    have a1 := Int.mul_le_mul_of_nonneg_right h1 (show 0 ≤ q.2 by omega)
    have a2 := Int.mul_le_mul_of_nonneg_right k1 (show 0 ≤ p.2 by omega)
    omega
  · show p.1 * q.2 + q.1 * p.2 < (n + m) * (p.2 * q.2)
    have h1 : p.1 ≤ n * p.2 := h
    have k1 : q.1 < m * q.2 := k
    have a1 := Int.mul_le_mul_of_nonneg_right h1 (show 0 ≤ q.2 by omega)
    have a2 := Int.mul_lt_mul_of_pos_right k1 hp
    omega
  · show p.1 * q.2 + q.1 * p.2 < (n + m) * (p.2 * q.2)
    have h1 : p.1 < n * p.2 := h
    have k1 : q.1 ≤ m * q.2 := k
    have a1 := Int.mul_lt_mul_of_pos_right h1 hq
    have a2 := Int.mul_le_mul_of_nonneg_right k1 (show 0 ≤ p.2 by omega)
    omega
  · show p.1 * q.2 + q.1 * p.2 < (n + m) * (p.2 * q.2)
    have h1 : p.1 < n * p.2 := h
    have k1 : q.1 < m * q.2 := k
    have a1 := Int.mul_lt_mul_of_pos_right h1 hq
    have a2 := Int.mul_lt_mul_of_pos_right k1 hp
    omega
theorem kp_pl {p q : Int × Int} {a b : Bn} (hp : 0 < p.2) (hq : 0 < q.2) (h : kp p a = true) (k : kp q b = true) : kp (pl p q) (bs a b) = true :=
  kp_iff.mpr (Kp.rd (Int.mul_pos hp hq) (Kp.sum hp hq (kp_iff.mp h) (kp_iff.mp k)))
theorem pl_rd {t b u c : Int} (h : 0 < b) (k : 0 < c) : pl (rd t b) (rd u c) = rd (t * c + u * b) (b * c) := by
  have e := rd_cross (t := t) (b := b)
  have f := rd_cross (t := u) (b := c)
  have l := (rd_lo (t := t) h).pos
  have m := (rd_lo (t := u) k).pos
  show rd ((rd t b).1 * (rd u c).2 + (rd u c).1 * (rd t b).2) ((rd t b).2 * (rd u c).2) = _
  refine rd_same (Int.mul_pos l m) (Int.mul_pos h k) ?_
  generalize rd t b = p at *
  generalize rd u c = q at *
  grind
theorem near_eq {n m s t b : Int} (h : 0 < b) : pl (rd (n * b - s) b) (rd (m * b - t) b) = rd ((n + m) * b - (s + t)) b := by
  rw [pl_rd h h]
  refine rd_same (Int.mul_pos h h) h ?_
  grind
def b2 (s : Bool) : Int := if s then 1 else 0
theorem Kp.near {n b f : Int} {s : Bool} (h : b2 s ≤ f) : Kp (n * b - f, b) (some (n, s)) := by
  cases s
  · show n * b - f ≤ n * b
    have : (0 : Int) ≤ f := h
    omega
  · show n * b - f < n * b
    have : (1 : Int) ≤ f := h
    omega
def far (f : Int) (s : Bool) : Int := if f = 0 ∧ s = true then 1 else f
def kpr (b : Bn) (f c : Int) : Int × Int := match b with
  | none => rd f c
  | some (n, s) => rd (n * c - far f s) c
theorem kpr_kp {b : Bn} {f c : Int} (h : 0 < c) (hf : 0 ≤ f) : kp (kpr b f c) b = true := by
  rcases b with _ | ⟨n, s⟩
  · rfl
  · refine kp_iff.mpr (Kp.rd h (Kp.near ?_))
    unfold far b2
    cases s
    · simpa using hf
    · simp; split <;> omega
end Mth

namespace Mth
/-! ### which bound is tighter, and the fractions that are tried -/
def tgt : Bn → Bn → Bool
  | none, _ => false
  | some _, none => true
  | some (n, s), some (m, t) => if n = m then s && !t else decide (n < m)
theorem tgt_ss (n m : Int) (s t : Bool) : tgt (some (n, s)) (some (m, t)) = if n = m then s && !t else decide (n < m) := rfl
theorem tgt_self (a : Bn) : tgt a a = false := by
  rcases a with _ | ⟨n, s⟩
  · rfl
  · simp [tgt]
theorem mul_lt_of {n m b : Int} (h : n < m) (hb : 0 < b) : n * b + b ≤ m * b := by
  have h1 : (n + 1) * b ≤ m * b := Int.mul_le_mul_of_nonneg_right (by omega) (by omega)
  have h2 : (n + 1) * b = n * b + b := by grind
  omega
/-- what keeps the tighter one keeps the other -/
theorem tgt_sub {a b : Bn} {p : Int × Int} (hp : 0 < p.2) (h : tgt a b = true) (k : Kp p a) : Kp p b := by
  rcases a with _ | ⟨n, s⟩
  · simp [tgt] at h
  rcases b with _ | ⟨m, t⟩
  · trivial
  rw [tgt_ss] at h
  by_cases e : n = m
  · rw [if_pos e] at h
    subst e
    cases s <;> cases t <;> simp at h
    exact Int.le_of_lt k
  · rw [if_neg e] at h
    have hl : n < m := of_decide_eq_true h
    have hm := mul_lt_of hl hp
    cases s <;> cases t
    · have k' : p.1 ≤ n * p.2 := k
      show p.1 ≤ m * p.2
      omega
    · have k' : p.1 ≤ n * p.2 := k
      show p.1 < m * p.2
      omega
    · have k' : p.1 < n * p.2 := k
      show p.1 ≤ m * p.2
      omega
    · have k' : p.1 < n * p.2 := k
      show p.1 < m * p.2
      omega
theorem not_tgt_sub {a b : Bn} {p : Int × Int} (hp : 0 < p.2) (h : tgt a b = false) (k : Kp p b) : Kp p a := by
  rcases a with _ | ⟨n, s⟩
  · trivial
  rcases b with _ | ⟨m, t⟩
  · simp [tgt] at h
  rw [tgt_ss] at h
  by_cases e : n = m
  · rw [if_pos e] at h
    subst e
    cases s <;> cases t <;> simp at h
    · exact k
    · exact Int.le_of_lt k
    · exact k
  · rw [if_neg e] at h
    have hl : ¬ n < m := of_decide_eq_false h
    have hm := mul_lt_of (show m < n by omega) hp
    cases s <;> cases t
    · have k' : p.1 ≤ m * p.2 := k
      show p.1 ≤ n * p.2
      omega
    · have k' : p.1 < m * p.2 := k
      show p.1 ≤ n * p.2
      omega
    · have k' : p.1 ≤ m * p.2 := k
      show p.1 < n * p.2
      omega
    · have k' : p.1 < m * p.2 := k
      show p.1 < n * p.2
      omega
def sel (a b : Bn) (p : Int × Int) : Bool := !kp p a && kp p b
def cnt (a b : Bn) (ps : List (Int × Int)) : Int := ((ps.filter (sel a b)).length : Nat)
theorem cnt_nn (a b : Bn) (ps : List (Int × Int)) : 0 ≤ cnt a b ps := by unfold cnt; omega
theorem cnt_le (a b : Bn) (ps : List (Int × Int)) : cnt a b ps ≤ ps.length := by
  unfold cnt
  have := List.length_filter_le (sel a b) ps
  omega
theorem cnt_cons (a b : Bn) (p : Int × Int) (ps : List (Int × Int)) : cnt a b (p :: ps) = (if sel a b p = true then 1 else 0) + cnt a b ps := by
  unfold cnt
  rw [List.filter_cons]
  split
  · simp; omega
  · simp
theorem cnt_zero {a b : Bn} {ps : List (Int × Int)} (hp : ∀ p ∈ ps, 0 < p.2) (h : tgt a b = false) : cnt a b ps = 0 := by
  unfold cnt
  rw [List.filter_eq_nil_iff.mpr]
  · rfl
  · intro p hm hs
    unfold sel at hs
    rw [Bool.and_eq_true, Bool.not_eq_true'] at hs
    have k := not_tgt_sub (hp p hm) h (kp_iff.mp hs.2)
    rw [kp_iff.mpr k] at hs
    cases hs.1
theorem cnt_pos {a b : Bn} {ps : List (Int × Int)} {p : Int × Int} (hm : p ∈ ps) (hs : sel a b p = true) : 0 < cnt a b ps := by
  unfold cnt
  have : p ∈ ps.filter (sel a b) := List.mem_filter.mpr ⟨hm, hs⟩
  have := List.length_pos_of_mem this
  omega
theorem cnt_swap {a b : Bn} {ps : List (Int × Int)} (hp : ∀ p ∈ ps, 0 < p.2) (h : tgt a b = true) : cnt b a ps = 0 := by
  unfold cnt
  rw [List.filter_eq_nil_iff.mpr]
  · rfl
  · intro p hm hs
    unfold sel at hs
    rw [Bool.and_eq_true, Bool.not_eq_true'] at hs
    have k := tgt_sub (hp p hm) h (kp_iff.mp hs.2)
    rw [kp_iff.mpr k] at hs
    cases hs.1
/-- the numbers, the fractions about each -/
def numOf : Bn → List Int
  | none => []
  | some (n, _) => [n]
def nums (a b : Bn) : List Int := 0 :: (numOf a ++ numOf b)
def five (n : Int) : List (Int × Int) := [(n, 1), (2 * n - 1, 2), (2 * n + 1, 2), (n + 1, 1), (n - 1, 1)]
def half : Bn → Bn → Int
  | none, none => 0 + 0
  | none, some (m, _) => m + 0
  | some (n, _), none => n + 0
  | some (n, _), some (m, _) => m + n
def tr (a b : Bn) : List (Int × Int) := (nums a b).flatMap five ++ [low (half a b) 2]
theorem tr_len (a b : Bn) : (tr a b).length ≤ 16 := by
  rcases a with _ | ⟨n, s⟩ <;> rcases b with _ | ⟨m, t⟩ <;> simp [tr, nums, numOf, five]
theorem five_in {a b : Bn} {n : Int} (h : n ∈ nums a b) {p : Int × Int} (hp : p ∈ five n) : p ∈ tr a b :=
  List.mem_append_left _ (List.mem_flatMap.mpr ⟨n, h, hp⟩)
/-- the fraction that shows it -/
theorem tgt_wit {a b : Bn} (h : tgt a b = true) : ∃ n, (∃ s, a = some (n, s)) ∧ ∃ p ∈ five n, sel a b p = true := by
  rcases a with _ | ⟨n, s⟩
  · simp [tgt] at h
  refine ⟨n, ⟨s, rfl⟩, ?_⟩
  have done : ∀ p, ¬ Kp p (some (n, s)) → Kp p b → sel (some (n, s)) b p = true := fun p h1 h2 => by
    unfold sel
    rw [kp_iff.mpr h2, Bool.and_true, Bool.not_eq_true']
    cases q : kp p (some (n, s))
    · rfl
    · exact absurd (kp_iff.mp q) h1
  rcases b with _ | ⟨m, t⟩
  · refine ⟨(n + 1, 1), by simp [five], done _ ?_ trivial⟩
    cases s
    · show ¬ n + 1 ≤ n * 1
      omega
    · show ¬ n + 1 < n * 1
      omega
  rw [tgt_ss] at h
  by_cases e : n = m
  · rw [if_pos e] at h
    subst e
    cases s <;> cases t <;> simp at h
    refine ⟨(n, 1), by simp [five], done _ ?_ ?_⟩
    · show ¬ n < n * 1
      omega
    · show n ≤ n * 1
      omega
  · rw [if_neg e] at h
    have hl : n < m := of_decide_eq_true h
    refine ⟨(2 * n + 1, 2), by simp [five], done _ ?_ ?_⟩
    · cases s
      · show ¬ 2 * n + 1 ≤ n * 2
        omega
      · show ¬ 2 * n + 1 < n * 2
        omega
    · cases t
      · show 2 * n + 1 ≤ m * 2
        omega
      · show 2 * n + 1 < m * 2
        omega
/-- all that right asks -/
structure Wit (a b : Bn) (ps : List (Int × Int)) : Prop where
  pos : ∀ p ∈ ps, 0 < p.2
  l : tgt a b = true → ∃ p ∈ ps, sel a b p = true
  r : tgt b a = true → ∃ p ∈ ps, sel b a p = true
theorem Wit.first {a b : Bn} {ps : List (Int × Int)} (w : Wit a b ps) : decide (0 < cnt a b ps) = tgt a b := by
  cases h : tgt a b
  · rw [cnt_zero w.pos h]; rfl
  · obtain ⟨p, h1, h2⟩ := w.l h
    exact decide_eq_true (cnt_pos h1 h2)
theorem Wit.symm {a b : Bn} {ps : List (Int × Int)} (w : Wit a b ps) : Wit b a ps := ⟨w.pos, w.r, w.l⟩
theorem Wit.prod {a b : Bn} {ps : List (Int × Int)} (w : Wit a b ps) : cnt a b ps * cnt b a ps = 0 := by
  cases h : tgt a b
  · rw [cnt_zero w.pos h, Int.zero_mul]
  · rw [cnt_swap w.pos h, Int.mul_zero]
theorem in_nums_l {a b : Bn} {n : Int} {s : Bool} (h : a = some (n, s)) : n ∈ nums a b := by subst h; simp [nums, numOf]
theorem in_nums_r {a b : Bn} {n : Int} {s : Bool} (h : b = some (n, s)) : n ∈ nums a b := by subst h; simp [nums, numOf]
theorem wit_of {a b : Bn} {ps : List (Int × Int)} (hp : ∀ p ∈ ps, 0 < p.2) (hs : ∀ p ∈ tr a b, p ∈ ps) : Wit a b ps := by
  refine ⟨hp, fun h => ?_, fun h => ?_⟩
  · obtain ⟨n, ⟨s, e⟩, p, h1, h2⟩ := tgt_wit h
    exact ⟨p, hs p (five_in (in_nums_l e) h1), h2⟩
  · obtain ⟨n, ⟨s, e⟩, p, h1, h2⟩ := tgt_wit h
    exact ⟨p, hs p (five_in (in_nums_r e) h1), h2⟩
/-- the law's own look -/
theorem kp_law (p : Int × Int) (n : Int) (s : Bool) : (decide (p.1 - n * p.2 < 0) || (p.1 - n * p.2 == 0 && !s)) = kp p (some (n, s)) := by
  rw [Bool.eq_iff_iff, kp_iff]
  cases s
  · show _ ↔ p.1 ≤ n * p.2
    simp
    omega
  · show _ ↔ p.1 < n * p.2
    simp
    omega
end Mth

namespace Dl
open PySem PySem.Spec PyProof.Rows L2
/-! ### exceptions of the text's own classes: raised, flying, caught -/
structure FlyB (P : Program) (w : World) (H H' : Hp) (s : Shared) (l : List Env) (B : Heap) (s' : Shared) : Prop where
  os : s'.os = s.os
  bare : AllBare s'.gens
  un : Un (frs l) [] H H' s.heap s'.heap
  hok : HOk P w H' B
  keepB : ∀ b o, s.heap.get? b = some o → H b = none → b ∉ frs l → B.get? b = some o
  thereB : ∀ b o, s.heap.get? b = some o → b ∉ frs l → ∃ o', B.get? b = some o'
/-- the exception at x, of the class at C, flies over the frames l; s, H: ahead of the call -/
def FlyX (P : Program) (w : World) (H H' : Hp) (s : Shared) (l : List Env) (x C : Addr) (s' : Shared) : Prop :=
  ∃ (B : Heap) (t : Addr), FlyB P w H H' s l B s' ∧ Heap.FlyingW B l x (.ref C) (.ref t) s'.heap
section
variable {P : Program} {w : World} {H H' : Hp} {s s' : Shared} {l : List Env} {B : Heap} {h' : Heap}
theorem FlyB.turn (F : FlyB P w H H' s l B s') (hf : s'.heap.FunFrames B l) (st : B.StaysIn h') (up : s'.heap.UpToSlots h') : FlyB P w H H' s l B { s' with heap := h' } where
  os := F.os
  bare := F.bare
  hok := F.hok
  keepB := F.keepB
  thereB := F.thereB
  un := by
    have sl : ∀ b o, s.heap.get? b = some o → H b = none → b ∈ frs l → ∃ sl, h'.get? b = some { o with slots := sl } := fun b o e n hb => by
      obtain ⟨sl, e1⟩ := F.un.slot b o e n hb (by simp)
      obtain ⟨_, o2, ho2, hd⟩ := hf.mem hb
      rw [e1] at ho2
      cases ho2
      obtain ⟨sl2, e2⟩ := up b _ e1 hd
      exact ⟨sl2, e2⟩
    refine ⟨fun b o e n hb _ => st b o (F.keepB b o e n hb), fun b o e n hb _ => sl b o e n hb, F.un.free, fun b o e _ => ?_, F.un.tups, F.un.frzs, F.un.tbls⟩
    by_cases hb : b ∈ frs l
    · obtain ⟨o1, e1⟩ := F.un.there b o e (by simp)
      obtain ⟨_, o2, ho2, hd⟩ := hf.mem hb
      obtain ⟨sl2, e2⟩ := up b _ ho2 hd
      exact ⟨_, e2⟩
    · obtain ⟨o1, e1⟩ := F.thereB b o e hb
      exact ⟨o1, st b o1 e1⟩
end
/-- what is wanted of an exception of the class at C that leaves the code of X, the names being σ: one that was made here, one that comes out of a call -/
def XMade (X : Cx) (C : Addr) (σ : L2.St) (H : Hp) : Prop := ∀ (pins : List (Addr × Obj)) (s : Shared) (h' : Heap) (e : Addr) (vs : List Value), L2.Inv X pins σ H s → Heap.MadeExcOf s.heap h' e (.ref C) vs → X.xe (.ref e) { s with heap := h' }
def XFly (X : Cx) (C : Addr) (σ : L2.St) (H : Hp) : Prop := ∀ (pins : List (Addr × Obj)) (H₀ : Hp) (s : Shared) (x : Addr) (s' : Shared), L2.Inv X pins σ H₀ s → FlyX X.prog X.w H₀ H s X.stack x C s' → X.xe (.ref x) s'
section
variable {P : Program} {w : World} {K : PySem.W.Frag} {mg : Str → Option Value} {base : Heap} {N : List Str} {qual : Str} {scope : Scope} {f : Addr} {cd : Value} {A : Around} {outer : List Env} {s : Shared} {H : Hp} {E : XK}
end
end Dl
namespace Dl
open PySem PySem.Spec PyProof.Rows L2

/-! ### data: values without the heap -/
inductive D where
  | non
  | bl (b : Bool)
  | int (i : Int)
  | str (x : Str)
  | tup (ds : List D)
  | lst (ds : List D)
  | seq (ds : List D)
  | ty (n : String)
  | dct
  | exc (C : Addr)
  | cls (C : Addr)

/-- a dict, an exception of the class at C, known by their classes alone -/
def DctO (a : Addr) : HO := .ext fun h => ∃ o, h.get? a = some o ∧ o.cls = .type "dict"
def ExcO (a C : Addr) : HO := .ext fun h => ∃ o vs, h.get? a = some o ∧ o.cls = .ref C ∧ o.data = .fields vs
mutual
/-- v stands for d in the heap H -/
inductive Rep (K : PySem.W.Frag) (H : Hp) : V → D → Prop
  | non : Rep K H .non .non
  | bl (b : Bool) : Rep K H (.bl b) (.bl b)
  | int (i : Int) : Rep K H (.int i) (.int i)
  | str (x : Str) : Rep K H (.str x) (.str x)
  | ty (n : String) : Rep K H (.ty n) (.ty n)
  | tup {a : Addr} {vs : List V} {ds : List D} (h : SqT K H a vs) (r : Reps K H vs ds) : Rep K H (.ref a) (.tup ds)
  | lst {a : Addr} {vs : List V} {ds : List D} (h : H a = some (.lst vs)) (r : Reps K H vs ds) : Rep K H (.ref a) (.lst ds)
  | seq {a : Addr} {vs : List V} {ds : List D} (h : SqL K H a vs) (r : Reps K H vs ds) : Rep K H (.ref a) (.seq ds)
  | dct {a : Addr} (h : H a = some (DctO a)) : Rep K H (.ref a) .dct
  | exc {a C : Addr} (h : H a = some (ExcO a C)) : Rep K H (.ref a) (.exc C)
  | cls (C : Addr) : Rep K H (.ref C) (.cls C)
inductive Reps (K : PySem.W.Frag) (H : Hp) : List V → List D → Prop
  | nil : Reps K H [] []
  | cons {v : V} {d : D} {vs : List V} {ds : List D} (r : Rep K H v d) (t : Reps K H vs ds) : Reps K H (v :: vs) (d :: ds)
end

theorem sqT_same {K : PySem.W.Frag} {H H' : Hp} {a : Addr} {xs : List V} (e : Same H H') (h : SqT K H a xs) : SqT K H' a xs := by
  rcases h with (h | ⟨o, h⟩) | h
  · exact .inl (.inl (e _ _ h))
  · exact .inl (.inr ⟨o, e _ _ h⟩)
  · exact .inr h
mutual
theorem Rep.mono {K : PySem.W.Frag} {H H' : Hp} (e : Same H H') : ∀ {v : V} {d : D}, Rep K H v d → Rep K H' v d
  | _, _, .non => .non
  | _, _, .bl b => .bl b
  | _, _, .int i => .int i
  | _, _, .str x => .str x
  | _, _, .ty n => .ty n
  | _, _, .tup h r => .tup (sqT_same e h) (Reps.mono e r)
  | _, _, .lst h r => .lst (e _ _ h) (Reps.mono e r)
  | _, _, .seq h r => .seq (e.seq h) (Reps.mono e r)
  | _, _, .dct h => .dct (e _ _ h)
  | _, _, .exc h => .exc (e _ _ h)
  | _, _, .cls C => .cls C
theorem Reps.mono {K : PySem.W.Frag} {H H' : Hp} (e : Same H H') : ∀ {vs : List V} {ds : List D}, Reps K H vs ds → Reps K H' vs ds
  | _, _, .nil => .nil
  | _, _, .cons r t => .cons (Rep.mono e r) (Reps.mono e t)
end
theorem Reps.length {K : PySem.W.Frag} {H : Hp} : ∀ {vs : List V} {ds : List D}, Reps K H vs ds → vs.length = ds.length
  | _, _, .nil => rfl
  | _, _, .cons _ t => congrArg (· + 1) (Reps.length t)
theorem Reps.get {K : PySem.W.Frag} {H : Hp} : ∀ {vs : List V} {ds : List D} {i : Nat} {d : D}, Reps K H vs ds → ds[i]? = some d → ∃ v, vs[i]? = some v ∧ Rep K H v d
  | _, _, _, _, .nil, e => by simp at e
  | _, _, 0, _, .cons r _, e => by simp at e; subst e; exact ⟨_, rfl, r⟩
  | _, _, i + 1, d, .cons _ t, e => by
    obtain ⟨v, h1, h2⟩ := Reps.get (i := i) (d := d) t (by simpa using e)
    exact ⟨v, by simpa using h1, h2⟩
theorem Reps.getV {K : PySem.W.Frag} {H : Hp} : ∀ {vs : List V} {ds : List D} {i : Nat} {v : V}, Reps K H vs ds → vs[i]? = some v → ∃ d, ds[i]? = some d ∧ Rep K H v d
  | _, _, _, _, .nil, e => by simp at e
  | _, _, 0, _, .cons r _, e => by simp at e; subst e; exact ⟨_, rfl, r⟩
  | _, _, i + 1, d, .cons _ t, e => by
    obtain ⟨v, h1, h2⟩ := Reps.getV (i := i) (v := d) t (by simpa using e)
    exact ⟨v, by simpa using h1, h2⟩
theorem Reps.append {K : PySem.W.Frag} {H : Hp} : ∀ {vs us : List V} {ds es : List D}, Reps K H vs ds → Reps K H us es → Reps K H (vs ++ us) (ds ++ es)
  | _, _, _, _, .nil, s => s
  | _, _, _, _, .cons r t, s => .cons r (Reps.append t s)
theorem Reps.take {K : PySem.W.Frag} {H : Hp} : ∀ {vs : List V} {ds : List D} (n : Nat), Reps K H vs ds → Reps K H (vs.take n) (ds.take n)
  | _, _, 0, _ => .nil
  | _, _, _ + 1, .nil => .nil
  | _, _, n + 1, .cons r t => .cons r (Reps.take n t)
theorem Reps.drop {K : PySem.W.Frag} {H : Hp} : ∀ {vs : List V} {ds : List D} (n : Nat), Reps K H vs ds → Reps K H (vs.drop n) (ds.drop n)
  | _, _, 0, r => r
  | _, _, _ + 1, .nil => .nil
  | _, _, n + 1, .cons _ t => Reps.drop n t
theorem Reps.ints {K : PySem.W.Frag} {H : Hp} : ∀ (ns : List Int), Reps K H (ns.map V.int) (ns.map D.int)
  | [] => .nil
  | n :: r => .cons (.int n) (Reps.ints r)
theorem Reps.atI {K : PySem.W.Frag} {H : Hp} {vs : List V} {ds : List D} {i : Int} {d : D} (r : Reps K H vs ds) (e : L2.atI ds i = some d) : ∃ v, L2.atI vs i = some v ∧ Rep K H v d := by
  unfold L2.atI at e ⊢
  rw [← r.length] at e
  obtain ⟨j, h1, h2⟩ := Option.bind_eq_some_iff.mp e
  obtain ⟨v, h3, h4⟩ := r.get h2
  exact ⟨v, by rw [h1]; exact h3, h4⟩

/-! ### states -/
abbrev DS := List (Option D)
structure RepS (K : PySem.W.Frag) (H : Hp) (σ : L2.St) (δ : DS) : Prop where
  len : σ.length = δ.length
  val : ∀ (i : Nat) (d : D), δ[i]? = some (some d) → ∃ v, σ[i]? = some (some v) ∧ Rep K H v d
theorem RepS.mono {K : PySem.W.Frag} {H H' : Hp} {σ : L2.St} {δ : DS} (e : Same H H') (h : RepS K H σ δ) : RepS K H' σ δ :=
  ⟨h.len, fun i d q => let ⟨v, a, b⟩ := h.val i d q; ⟨v, a, b.mono e⟩⟩
theorem RepS.set {K : PySem.W.Frag} {H : Hp} {σ : L2.St} {δ : DS} {v : V} {d : D} (h : RepS K H σ δ) (i : Nat) (r : Rep K H v d) : RepS K H (σ.set i (some v)) (δ.set i (some d)) := by
  refine ⟨by rw [List.length_set, List.length_set]; exact h.len, fun j e q => ?_⟩
  have hl := h.len
  rw [List.getElem?_set] at q ⊢
  by_cases hj : i = j
  · subst hj
    rw [if_pos rfl] at q ⊢
    by_cases hi : i < δ.length
    · rw [if_pos hi] at q
      rw [if_pos (by omega)]
      have : d = e := by simpa using q
      subst this
      exact ⟨v, rfl, r⟩
    · rw [if_neg hi] at q; cases q
  · rw [if_neg hj] at q ⊢
    exact h.val j e q
theorem RepS.start {K : PySem.W.Frag} {H : Hp} {N : List Str} {vs : List V} {ds : List D} (r : Reps K H vs ds) : RepS K H (L2.start N vs) (ds.map some ++ List.replicate (N.length - ds.length) none) := by
  unfold L2.start
  refine ⟨by simp [r.length], fun i d q => ?_⟩
  have hi : i < ds.length := by
    by_cases hi : i < ds.length
    · exact hi
    · rw [List.getElem?_append_right (by simpa using hi), List.getElem?_replicate] at q
      split at q <;> cases q
  rw [List.getElem?_append_left (by simpa using hi), List.getElem?_map] at q
  obtain ⟨e, h1, h2⟩ := Option.map_eq_some_iff.mp q
  cases h2
  obtain ⟨v, h3, h4⟩ := r.get h1
  have hv : i < vs.length := by rw [r.length]; exact hi
  exact ⟨v, by rw [List.getElem?_append_left (by simpa using hv), List.getElem?_map, h3]; rfl, h4⟩

/-! ### expressions -/
abbrev FD := DS → Option D
def up (K : PySem.W.Frag) (f : FD) : TE := fun σ H Q => ∃ δ d, RepS K H σ δ ∧ f δ = some d ∧ ∀ v H', Same H H' → Rep K H' v d → Q v H'
def PD (X : Cx) (e : Expr) (f : FD) : Prop := PE X e (up X.K f)
theorem imp {X : Cx} {e : Expr} {t t' : TE} (h : PE X e t) (w : ∀ σ H Q, t' σ H Q → t σ H Q) : PE X e t' := fun pins s σ H Q I q => h pins s σ H Q I (w σ H Q q)
theorem same_new {H : Hp} {p : Addr} (h : H p = none) (o : HO) : Same H (upd H p o) := fun b u q => by rw [upd_ne (ne_of_none q h)]; exact q

def fVar (i : Nat) : FD := fun δ => match δ[i]? with
  | some (some d) => some d
  | _ => none
def fC (d : D) : FD := fun _ => some d
def f2 (g : D → D → Option D) (fa fb : FD) : FD := fun δ => (fa δ).bind fun x => (fb δ).bind fun y => g x y
def f1 (g : D → Option D) (fa : FD) : FD := fun δ => (fa δ).bind g
section
variable {X : Cx} {a b e : Expr} {fa fb f : FD} {pos : Pos}
theorem pd_var (i : Nat) {x : Str} (hN : X.N[i]? = some x := by rfl) (hv : Vis X.env.scope x := by first | exact Or.inl rfl | exact Or.inr (Or.inl rfl) | exact Or.inr (Or.inr rfl)) (hd : (x == ("__debug__" : Str)) = false := by decide)
    (hcd : (x == ("__classdict__" : Str)) = false := by decide) : PD X (.Name x pos) (fVar i) :=
  imp (pe_var hN hv hd hcd) fun σ H Q ⟨δ, d, R, e, k⟩ => by
    unfold fVar at e
    split at e
    · rename_i d' h
      cases e
      obtain ⟨v, h1, h2⟩ := R.val i _ h
      exact ⟨v, h1, k v H (Same.refl H) h2⟩
    · cases e
theorem pd_int {i j} : PD X (.Constant (.int i) j pos) (fC (.int i)) := imp pe_int fun σ H Q ⟨δ, d, R, e, k⟩ => by cases e; exact k _ H (Same.refl H) (.int i)
theorem pd_bl {b j} : PD X (.Constant (.bool b) j pos) (fC (.bl b)) := imp pe_bl fun σ H Q ⟨δ, d, R, e, k⟩ => by cases e; exact k _ H (Same.refl H) (.bl b)
theorem pd_non {j} : PD X (.Constant .none j pos) (fC .non) := imp pe_non fun σ H Q ⟨δ, d, R, e, k⟩ => by cases e; exact k _ H (Same.refl H) .non
/-- the name of a built-in type -/
theorem pd_ty {x : Str} {n : String} (hg : Gl X x) (hm : X.mg x = none) (hv : bootBuiltins x = some (.type n)) (hn : x ≠ "__name__" := by decide) (hd : (x == ("__debug__" : Str)) = false := by decide) : PD X (.Name x pos) (fC (.ty n)) :=
  imp (pe_bltn (v := .ty n) hg hm hv rfl hn hd) fun σ H Q ⟨δ, d, R, e, k⟩ => by cases e; exact k _ H (Same.refl H) (.ty n)

/-- an operation of two, by data -/
def R2D (K : PySem.W.Frag) (r : R2) (g : D → D → Option D) : Prop :=
  ∀ (x y : V) (H : Hp) (Q : VK) (a b d : D), Rep K H x a → Rep K H y b → g a b = some d → (∀ w H', Same H H' → Rep K H' w d → Q w H') → r x y H Q
theorem imp2 {r : R2} {g : D → D → Option D} (hg : R2D X.K r g) {σ : L2.St} {H : Hp} {Q : VK} (h : up X.K (f2 g fa fb) σ H Q) : tOp r (up X.K fa) (up X.K fb) σ H Q := by
  obtain ⟨δ, d, R, e, k⟩ := h
  unfold f2 at e
  obtain ⟨x, ex, e⟩ := Option.bind_eq_some_iff.mp e
  obtain ⟨y, ey, e⟩ := Option.bind_eq_some_iff.mp e
  exact ⟨δ, x, R, ex, fun v H1 s1 r1 => ⟨δ, y, R.mono s1, ey, fun w H2 s2 r2 => hg v w H2 Q x y d (r1.mono s2) r2 e fun z H' s3 => k z H' ((s1.trans s2).trans s3)⟩⟩
theorem pd_op {op : Operator} {r : R2} {g : D → D → Option D} (ho : OpR X (binaryOp op) r) (hg : R2D X.K r g) (ha : PD X a fa) (hb : PD X b fb) : PD X (.BinOp a op b pos) (f2 g fa fb) :=
  imp (pe_op ho ha hb) fun _ _ _ => imp2 hg
theorem pd_cmp {op : CmpOp} {r : R2} {g : D → D → Option D} (ho : OpR X (compareOp op) r) (hg : R2D X.K r g) (ha : PD X a fa) (hb : PD X b fb) (hm : behindInMarks op b = false) : PD X (.Compare a [op] [b] pos) (f2 g fa fb) :=
  imp (pe_cmpR ho ha hb hm) fun _ _ _ => imp2 hg
theorem pd_ix0 {r : R2} {g : D → D → Option D} (hr : IxR X r) (hg : R2D X.K r g) (ha : PD X a fa) (hb : PD X b fb) (hs : PlainIx b) : PD X (.Subscript a b pos) (f2 g fa fb) :=
  imp (pe_ix hr ha hb hs) fun _ _ _ => imp2 hg
theorem R2D.or {K : PySem.W.Frag} {r r' : R2} {g g' : D → D → Option D} (h : R2D K r g) (h' : R2D K r' g') : R2D K (fun x y H Q => r x y H Q ∨ r' x y H Q) (fun a b => (g a b).or (g' a b)) := by
  intro x y H Q a b d ra rb e k
  cases q : g a b with
  | some z =>
    have e' : (g a b).or (g' a b) = some d := e
    rw [q] at e'
    cases e'
    exact .inl (h x y H Q a b _ ra rb q k)
  | none =>
    have e' : (g a b).or (g' a b) = some d := e
    rw [q] at e'
    exact .inr (h' x y H Q a b d ra rb e' k)
end

/-! ### ints -/
/-- small enough for every product and quotient -/
def Bd (x : Int) : Prop := x.natAbs < 2 ^ 9000
instance (x : Int) : Decidable (Bd x) := by unfold Bd; exact inferInstance
theorem Bd.bits {x : Int} (h : Bd x) : Builtin.Int.intBits x ≤ 2 ^ 20 := by
  have h' : x.natAbs < 2 ^ (2 ^ 20) := Nat.lt_of_lt_of_le h (Nat.pow_le_pow_right (by decide) (by decide))
  exact PySem.intBits_le_iff.mpr h'
theorem Bd.log {x : Int} (h : Bd x) (h0 : x ≠ 0) : x.natAbs.log2 < 9000 := (Nat.log2_lt (by omega)).mpr h
section
variable {X : Cx} {K : PySem.W.Frag}
def CMulB (i j : Int) : Prop := Bd i ∧ Bd j
theorem op_mulB : OpR X (binaryOp .Mult) (rI CMulB fun i j => .int (i * j)) := opI fun _ _ _ _ _ _ _ hc q => mul_int q (.of_bits hc.1.bits hc.2.bits)
def CDivB (_ j : Int) : Prop := 0 < j ∧ Bd j
theorem op_fdivB : OpR X (binaryOp .FloorDiv) (rI CDivB fun i j => .int (i / j)) := opI fun i j _ _ _ _ _ hc q => by
  have h1 : (0 : Int) < j := hc.1
  exact floordiv_int (by omega) (by rw [Int.fdiv_eq_ediv_of_nonneg i (by omega)]; exact q) (.inl (PyProof.noPylong_of_log2 (hc.2.log (by omega))))
def gI0 (g : Int → Int → D) : D → D → Option D
  | .int i, .int j => some (g i j)
  | _, _ => none
def gI (C : Int → Int → Prop) [∀ i j, Decidable (C i j)] (g : Int → Int → D) : D → D → Option D
  | .int i, .int j => if C i j then some (g i j) else none
  | _, _ => none
instance (i j : Int) : Decidable (CMulB i j) := by unfold CMulB; exact inferInstance
instance (i j : Int) : Decidable (CDivB i j) := by unfold CDivB; exact inferInstance
instance (i j : Int) : Decidable (CPow i j) := by unfold CPow; exact inferInstance
theorem r2_I0 {g : Int → Int → V} {g' : Int → Int → D} (h : ∀ H i j, Rep K H (g i j) (g' i j)) : R2D K (rI0 g) (gI0 g') := by
  intro x y H Q a b d ra rb e k
  cases ra with
  | int i =>
    cases rb with
    | int j => cases e; exact ⟨i, j, rfl, rfl, k _ H (Same.refl H) (h H i j)⟩
    | _ => cases e
  | _ => cases e
theorem r2_I {C : Int → Int → Prop} [∀ i j, Decidable (C i j)] {g : Int → Int → V} {g' : Int → Int → D} (h : ∀ H i j, Rep K H (g i j) (g' i j)) : R2D K (rI C g) (gI C g') := by
  intro x y H Q a b d ra rb e k
  cases ra with
  | int i =>
    cases rb with
    | int j =>
      have e' : (if C i j then some (g' i j) else none) = some d := e
      by_cases hc : C i j
      · rw [if_pos hc] at e'; cases e'; exact ⟨i, j, rfl, rfl, hc, k _ H (Same.refl H) (h H i j)⟩
      · rw [if_neg hc] at e'; cases e'
    | _ => cases e
  | _ => cases e
end
/-- list + list -/
def gCat : D → D → Option D
  | .lst xs, .lst ys => if xs.length + ys.length ≤ 1000 then some (.lst (xs ++ ys)) else none
  | _, _ => none
theorem le_line {n : Nat} (h : n ≤ 1000) : n ≤ sizeLine := Nat.le_of_lt (small1000 h)
theorem r2_cat {K : PySem.W.Frag} : R2D K rCat gCat := by
  intro x y H Q a b d ra rb e k
  cases ra with
  | @lst p xs ds hp rp =>
    cases rb with
    | @lst q ys es hq rq =>
      have e' : (if ds.length + es.length ≤ 1000 then some (D.lst (ds ++ es)) else none) = some d := e
      by_cases hc : ds.length + es.length ≤ 1000
      · rw [if_pos hc] at e'; cases e'
        refine ⟨p, q, xs, ys, rfl, rfl, hp, hq, le_line (by rw [rp.length, rq.length]; exact hc), fun l hl => ?_⟩
        have s := same_new hl (.lst (xs ++ ys))
        exact k _ _ s (.lst upd_same ((rp.append rq).mono s))
      · rw [if_neg hc] at e'; cases e'
    | _ => cases e
  | _ => cases e
def gAdd : D → D → Option D := fun a b => (gI0 (fun i j => .int (i + j)) a b).or (gCat a b)
/-- an item by its place -/
def gIx : D → D → Option D
  | .tup ds, .int i => L2.atI ds i
  | .lst ds, .int i => L2.atI ds i
  | .seq ds, .int i => L2.atI ds i
  | _, _ => none
theorem r2_ix {K : PySem.W.Frag} : R2D K (fun x y H Q => rIxL K x y H Q ∨ rIxT K x y H Q) gIx := by
  intro x y H Q a b d ra rb e k
  cases rb with
  | int i =>
    cases ra with
    | @tup p vs ds hp rp =>
      have e' : L2.atI ds i = some d := e
      obtain ⟨v, h1, h2⟩ := rp.atI e'
      exact .inr ⟨p, vs, i, v, rfl, rfl, hp, h1, k v H (Same.refl H) h2⟩
    | @lst p vs ds hp rp =>
      have e' : L2.atI ds i = some d := e
      obtain ⟨v, h1, h2⟩ := rp.atI e'
      exact .inl ⟨p, vs, i, v, rfl, rfl, SqL.of hp, h1, k v H (Same.refl H) h2⟩
    | @seq p vs ds hp rp =>
      have e' : L2.atI ds i = some d := e
      obtain ⟨v, h1, h2⟩ := rp.atI e'
      exact .inl ⟨p, vs, i, v, rfl, rfl, hp, h1, k v H (Same.refl H) h2⟩
    | _ => cases e
  | _ => cases ra <;> cases e
section
variable {X : Cx} {a b e : Expr} {fa fb f : FD} {pos : Pos}
theorem pd_add (ha : PD X a fa) (hb : PD X b fb) : PD X (.BinOp a .Add b pos) (f2 gAdd fa fb) := pd_op (op_add.or op_cat) ((r2_I0 fun _ _ _ => .int _).or r2_cat) ha hb
theorem pd_sub (ha : PD X a fa) (hb : PD X b fb) : PD X (.BinOp a .Sub b pos) (f2 (gI0 fun i j => .int (i - j)) fa fb) := pd_op op_sub (r2_I0 fun _ _ _ => .int _) ha hb
theorem pd_mul (ha : PD X a fa) (hb : PD X b fb) : PD X (.BinOp a .Mult b pos) (f2 (gI CMulB fun i j => .int (i * j)) fa fb) := pd_op op_mulB (r2_I fun _ _ _ => .int _) ha hb
theorem pd_fdiv (ha : PD X a fa) (hb : PD X b fb) : PD X (.BinOp a .FloorDiv b pos) (f2 (gI CDivB fun i j => .int (i / j)) fa fb) := pd_op op_fdivB (r2_I fun _ _ _ => .int _) ha hb
theorem pd_mod (ha : PD X a fa) (hb : PD X b fb) : PD X (.BinOp a .Mod b pos) (f2 (gI (fun _ j => 0 < j) fun i j => .int (i % j)) fa fb) := pd_op op_mod (r2_I fun _ _ _ => .int _) ha hb
theorem pd_pow (ha : PD X a fa) (hb : PD X b fb) : PD X (.BinOp a .Pow b pos) (f2 (gI CPow fun i j => .int (i ^ j.toNat)) fa fb) := pd_op op_pow (r2_I fun _ _ _ => .int _) ha hb
theorem pd_ix (ha : PD X a fa) (hb : PD X b fb) (hs : PlainIx b := by intro _ _; rfl) : PD X (.Subscript a b pos) (f2 gIx fa fb) := pd_ix0 (ix_list.or ix_tup) r2_ix ha hb hs
def gNeg : D → Option D
  | .int i => some (.int (-i))
  | _ => none
end
/-! ### tests -/
abbrev FT := DS → Option Bool
def upT (K : PySem.W.Frag) (f : FT) : TT := fun σ H Q => ∃ δ b, RepS K H σ δ ∧ f δ = some b ∧ ∀ H', Same H H' → Q b H'
def PTD (X : Cx) (e : Expr) (f : FT) : Prop := PT X e (upT X.K f)
def PWD (X : Cx) (e : Expr) (f : FT) : Prop := PW X e (upT X.K f)
theorem impT {X : Cx} {e : Expr} {t t' : TT} (h : PT X e t) (w : ∀ σ H Q, t' σ H Q → t σ H Q) : PT X e t' := fun pins s σ H Q I q => h pins s σ H Q I (w σ H Q q)
theorem impW {X : Cx} {e : Expr} {t t' : TT} (h : PW X e t) (w : ∀ σ H Q, t' σ H Q → t σ H Q) : PW X e t' := fun wh pins s σ H Q I q => h wh pins s σ H Q I (w σ H Q q)
def asB : D → Option Bool
  | .bl b => some b
  | _ => none
def fT (f : FD) : FT := fun δ => (f δ).bind asB
def fNotT (f : FT) : FT := fun δ => (f δ).map not
def fAndT (f g : FT) : FT := fun δ => (f δ).bind fun b => match b with
  | true => g δ
  | false => some false
def fOrT (f g : FT) : FT := fun δ => (f δ).bind fun b => match b with
  | true => some true
  | false => g δ
section
variable {X : Cx} {a b e : Expr} {fa fb f : FD} {ta tb : FT} {rest : List Expr} {pos : Pos}
theorem asB_of {K : PySem.W.Frag} {t : TE} (w : ∀ σ H Q, up K f σ H Q → t σ H Q) {σ : L2.St} {H : Hp} {Q : Bool → Hp → Prop} (h : upT K (fT f) σ H Q) : t σ H fun x H1 => ∃ c, x = .bl c ∧ Q c H1 := by
  obtain ⟨δ, b, R, e, k⟩ := h
  unfold fT at e
  obtain ⟨d, ed, e⟩ := Option.bind_eq_some_iff.mp e
  refine w σ H _ ⟨δ, d, R, ed, fun v H' s r => ?_⟩
  cases r with
  | bl c => cases e; exact ⟨_, rfl, k H' s⟩
  | _ => cases e
theorem ptd_val (h : PD X e f) (he : ∀ whole, isTrue e X.env whole = (do let v ← whole; standAt e.pos; holding [v] (truthy v)) := by intro _; rfl) : PTD X e (fT f) :=
  impT (pt_val h he) fun _ _ _ q => asB_of (fun _ _ _ z => z) q
theorem ptd_cmp {op : CmpOp} {r : R2} {g : D → D → Option D} (ho : OpR X (compareOp op) r) (hg : R2D X.K r g) (ha : PD X a fa) (hb : PD X b fb) (hm : behindInMarks op b = false) : PTD X (.Compare a [op] [b] pos) (fT (f2 g fa fb)) :=
  impT (pt_cmpR ho ha hb hm) fun _ _ _ q => asB_of (fun _ _ _ z => imp2 hg z) q
theorem ptd_not (ha : PTD X a ta) : PTD X (.UnaryOp .Not a pos) (fNotT ta) := impT (pt_not ha) fun σ H Q ⟨δ, b, R, e, k⟩ => by
  unfold fNotT at e
  obtain ⟨c, ec, e⟩ := Option.map_eq_some_iff.mp e
  exact ⟨δ, c, R, ec, fun H' s => by have := k H' s; rw [← e] at this; exact this⟩
theorem PWD.pt (h : PWD X e ta) : PTD X e ta := h _
theorem pwd_and1 (ha : PTD X a ta) : PWD X (.BoolOp .And [a] pos) ta := pw_and1 ha
theorem pwd_or1 (ha : PTD X a ta) : PWD X (.BoolOp .Or [a] pos) ta := pw_or1 ha
theorem pwd_and (ha : PTD X a ta) (hb : PWD X (.BoolOp .And (b :: rest) pos) tb) : PWD X (.BoolOp .And (a :: b :: rest) pos) (fAndT ta tb) := impW (pw_and ha hb) fun σ H Q ⟨δ, c, R, e, k⟩ => by
  unfold fAndT at e
  obtain ⟨d, ed, e⟩ := Option.bind_eq_some_iff.mp e
  refine ⟨δ, d, R, ed, fun H' s => ?_⟩
  cases d with
  | true => exact ⟨δ, c, R.mono s, e, fun H2 s2 => k H2 (s.trans s2)⟩
  | false => cases e; exact k H' s
theorem pwd_or (ha : PTD X a ta) (hb : PWD X (.BoolOp .Or (b :: rest) pos) tb) : PWD X (.BoolOp .Or (a :: b :: rest) pos) (fOrT ta tb) := impW (pw_or ha hb) fun σ H Q ⟨δ, c, R, e, k⟩ => by
  unfold fOrT at e
  obtain ⟨d, ed, e⟩ := Option.bind_eq_some_iff.mp e
  refine ⟨δ, d, R, ed, fun H' s => ?_⟩
  cases d with
  | false => exact ⟨δ, c, R.mono s, e, fun H2 s2 => k H2 (s.trans s2)⟩
  | true => cases e; exact k H' s
/-- and, or, not as values -/
def fAndV (f g : FD) : FD := fun δ => (f δ).bind fun x => match x with
  | .bl true => g δ
  | .bl false => some (.bl false)
  | _ => none
def fOrV (f g : FD) : FD := fun δ => (f δ).bind fun x => match x with
  | .bl true => some (.bl true)
  | .bl false => g δ
  | _ => none
def gNot : D → Option D
  | .bl b => some (.bl (!b))
  | _ => none
theorem pd_one {op} (h : PD X a f) : PD X (.BoolOp op [a] pos) f := pe_one h
theorem pd_and (ha : PD X a fa) (hb : PD X (.BoolOp .And (b :: rest) pos) fb) : PD X (.BoolOp .And (a :: b :: rest) pos) (fAndV fa fb) := imp (pe_and ha hb) fun σ H Q ⟨δ, d, R, e, k⟩ => by
  unfold fAndV at e
  obtain ⟨x, ex, e⟩ := Option.bind_eq_some_iff.mp e
  refine ⟨δ, x, R, ex, fun v H1 s1 r1 => ?_⟩
  cases r1 with
  | bl c =>
    refine ⟨c, rfl, ?_⟩
    cases c with
    | true => rw [if_pos rfl]; exact ⟨δ, d, R.mono s1, e, fun w H2 s2 => k w H2 (s1.trans s2)⟩
    | false => rw [if_neg Bool.false_ne_true]; cases e; exact k _ H1 s1 (.bl false)
  | _ => cases e
theorem pd_not (ha : PD X a fa) : PD X (.UnaryOp .Not a pos) (f1 gNot fa) := imp (pe_not ha) fun σ H Q ⟨δ, d, R, e, k⟩ => by
  unfold f1 at e
  obtain ⟨x, ex, e⟩ := Option.bind_eq_some_iff.mp e
  refine ⟨δ, x, R, ex, fun v H1 s1 r1 => ?_⟩
  cases r1 with
  | bl c => cases e; exact ⟨c, rfl, k _ H1 s1 (.bl _)⟩
  | _ => cases e
end

/-! ### argument lists, displays, calls -/
abbrev FA := DS → Option (List D)
def upA (K : PySem.W.Frag) (n : Nat) (f : FA) : TA := fun σ H Q => ∃ δ ds, RepS K H σ δ ∧ f δ = some ds ∧ ∀ vs H', Same H H' → Reps K H' vs ds → vs.length = n → Q vs H'
def PAD (X : Cx) (es : List Expr) (f : FA) : Prop := PA X es (upA X.K es.length f)
theorem impA {X : Cx} {es : List Expr} {t t' : TA} (h : PA X es t) (w : ∀ σ H Q, t' σ H Q → t σ H Q) : PA X es t' := fun pos pins s σ H Q I q => h pos pins s σ H Q I (w σ H Q q)
def faNil : FA := fun _ => some []
def faCons (f : FD) (g : FA) : FA := fun δ => (f δ).bind fun x => (g δ).bind fun xs => some (x :: xs)
/-- a pure def's promise: its answer by data; all that was there stays -/
def pureSp (K : PySem.W.Frag) (n : Nat) (G : List D → Option D) : Sp := fun vs H Q _ => vs.length = n ∧ ∃ ds d, Reps K H vs ds ∧ G ds = some d ∧ ∀ v H', Same H H' → Rep K H' v d → Q v H'
def fTup (g : FA) : FD := fun δ => (g δ).bind fun ds => some (.tup ds)
def fLst (g : FA) : FD := fun δ => (g δ).bind fun ds => some (.lst ds)
def fCall (G : List D → Option D) (g : FA) : FD := fun δ => (g δ).bind G
section
variable {X : Cx} {e : Expr} {es : List Expr} {f : FD} {g : FA} {pos p : Pos}
theorem pad_nil : PAD X [] faNil := impA pa_nil fun σ H Q ⟨δ, ds, R, e, k⟩ => by cases e; exact k [] H (Same.refl H) .nil rfl
theorem pad_cons (ha : PD X e f) (hr : PAD X es g) (hs : starEach (e :: es) X.env = (false, eval e X.env) :: starEach es X.env := by rfl) : PAD X (e :: es) (faCons f g) := impA (pa_cons ha hr hs) fun σ H Q ⟨δ, ds, R, q, k⟩ => by
  unfold faCons at q
  obtain ⟨x, ex, q⟩ := Option.bind_eq_some_iff.mp q
  obtain ⟨xs, exs, q⟩ := Option.bind_eq_some_iff.mp q
  cases q
  exact ⟨δ, x, R, ex, fun v H1 s1 r1 => ⟨δ, xs, R.mono s1, exs, fun vs H2 s2 r2 l => k (v :: vs) H2 (s1.trans s2) (.cons (r1.mono s2) r2) (congrArg (· + 1) l)⟩⟩
theorem pd_tup {x1} (h : PAD X es g) (hz : es.length ≤ 1000 := by decide) : PD X (.Tuple es x1 pos) (fTup g) := imp (pe_tup h) fun σ H Q ⟨δ, d, R, q, k⟩ => by
  unfold fTup at q
  obtain ⟨ds, eds, q⟩ := Option.bind_eq_some_iff.mp q
  cases q
  refine ⟨δ, ds, R, eds, fun vs H1 s1 r1 l => ⟨le_line (by rw [l]; exact hz), fun p hp => ?_⟩⟩
  have s := same_new hp (.tup vs)
  exact k _ _ (s1.trans s) (.tup (SqT.of upd_same) (r1.mono s))
theorem pd_lst (h : PAD X es g) (hz : es.length ≤ 1000 := by decide) : PD X (.List es pos) (fLst g) := imp (pe_lst h) fun σ H Q ⟨δ, d, R, q, k⟩ => by
  unfold fLst at q
  obtain ⟨ds, eds, q⟩ := Option.bind_eq_some_iff.mp q
  cases q
  refine ⟨δ, ds, R, eds, fun vs H1 s1 r1 l => ⟨le_line (by rw [l]; exact hz), fun p hp => ?_⟩⟩
  have s := same_new hp (.lst vs)
  exact k _ _ (s1.trans s) (.lst upd_same (r1.mono s))
/-- f(e, ..), f a pure def of the text -/
theorem pd_call {k n : Nat} {x : Str} {f : Addr} {fd : FuncData} {ps : List Str} {G : List D → Option D} (F : FnOk X.prog X.w X.K X.mg X.base CX0 k f fd ps (pureSp X.K n G)) (hr : Room k X.A) (hg : Gl X x) (hm : X.mg x = some (.ref f)) (hk : PySem.W.keepIn X.K (.ref f) = true) (hb : Binds X.K fd ps [])
    (ha : PAD X (e :: es) g) (hn : (e :: es).length = n := by rfl) (hdb : (x == ("__debug__" : Str)) = false := by decide) (he : starEach (e :: es) X.env = (false, eval e X.env) :: starEach es X.env := by rfl) (hpl : (backTo pos (starEach es X.env)).any (·.1) = false := by rfl) :
    PD X (.Call (.Name x p) (e :: es) [] pos) (fCall G g) := imp (pe_call F hr hg hm hk hb .nil (pass0) ha hdb he hpl) fun σ H Q ⟨δ, d, R, q, k⟩ => by
  unfold fCall at q
  obtain ⟨ds, eds, q⟩ := Option.bind_eq_some_iff.mp q
  refine ⟨δ, ds, R, eds, fun vs H1 s1 r1 l => ?_⟩
  show pureSp X.K n G (vs ++ []) H1 Q E0
  rw [List.append_nil]
  exact ⟨l.trans hn, ds, d, r1, q, fun v H' s => k v H' (s1.trans s)⟩
/-- f(e, ..), f a built-in function, by data -/
def CallD (K : PySem.W.Frag) (r : List V → Hp → VK → Prop) (G : List D → Option D) : Prop :=
  ∀ (xs : List V) (H : Hp) (Q : VK) (ds : List D) (d : D), Reps K H xs ds → G ds = some d → (∀ w H', Same H H' → Rep K H' w d → Q w H') → r xs H Q
theorem imp_cb {r : List V → Hp → VK → Prop} {G : List D → Option D} {n : Nat} (hG : CallD X.K r G) {σ : L2.St} {H : Hp} {Q : VK} (h : up X.K (fCall G g) σ H Q) : tCB r (upA X.K n g) σ H Q := by
  obtain ⟨δ, d, R, q, k⟩ := h
  unfold fCall at q
  obtain ⟨ds, eds, q⟩ := Option.bind_eq_some_iff.mp q
  exact ⟨δ, ds, R, eds, fun vs H1 s1 r1 _ => hG vs H1 Q ds d r1 q fun w H' s => k w H' (s1.trans s)⟩
theorem pd_callB {id : String} {x : Str} {r : List V → Hp → VK → Prop} {G : List D → Option D} (hc : CallR X (.builtin id) r) (hG : CallD X.K r G) (hg : Gl X x) (hm : X.mg x = none) (hv : bootBuiltins x = some (.builtin id)) (ha : PAD X (e :: es) g) (hn : x ≠ "__name__" := by decide) (hdb : (x == ("__debug__" : Str)) = false := by decide)
    (he : starEach (e :: es) X.env = (false, eval e X.env) :: starEach es X.env := by rfl) (hpl : (backTo pos (starEach es X.env)).any (·.1) = false := by rfl) : PD X (.Call (.Name x p) (e :: es) [] pos) (fCall G g) :=
  imp (pe_callB hc hg hm hv ha hn hdb he hpl) fun _ _ _ h => imp_cb hG h
end
/-! ### some built-ins -/
theorem reps1 {K : PySem.W.Frag} {H : Hp} {xs : List V} {d : D} (r : Reps K H xs [d]) : ∃ x, xs = [x] ∧ Rep K H x d := by
  cases r with
  | cons a t => cases t; exact ⟨_, rfl, a⟩
theorem reps2 {K : PySem.W.Frag} {H : Hp} {xs : List V} {d e : D} (r : Reps K H xs [d, e]) : ∃ x y, xs = [x, y] ∧ Rep K H x d ∧ Rep K H y e := by
  cases r with
  | cons a t =>
    obtain ⟨y, h1, h2⟩ := reps1 t
    subst h1
    exact ⟨_, y, rfl, a, h2⟩
def gAbs : List D → Option D
  | [.int i] => some (.int (i.natAbs : Int))
  | _ => none
theorem cd_abs {K : PySem.W.Frag} : CallD K (fun xs H Q => ∃ i, xs = [.int i] ∧ Q (.int (if i < 0 then -i else i)) H) gAbs := by
  intro xs H Q ds d r e k
  unfold gAbs at e
  split at e
  · rename_i i
    cases e
    obtain ⟨x, rfl, rx⟩ := reps1 r
    cases rx
    refine ⟨i, rfl, ?_⟩
    have e : (if i < 0 then -i else i) = (i.natAbs : Int) := by split <;> omega
    rw [e]
    exact k _ H (Same.refl H) (.int _)
  · cases e
def gInt : List D → Option D
  | [.int i] => some (.int i)
  | [.bl b] => some (.int (if b then 1 else 0))
  | _ => none
def gLen : List D → Option D
  | [.tup ds] => some (.int ds.length)
  | [.lst ds] => some (.int ds.length)
  | [.seq ds] => some (.int ds.length)
  | _ => none
theorem cd_len {K : PySem.W.Frag} : CallD K (fun xs H Q => ∃ p ys, xs = [.ref p] ∧ (SqL K H p ys ∨ SqT K H p ys) ∧ Q (.int ys.length) H) gLen := by
  intro xs H Q ds d r e k
  unfold gLen at e
  split at e
  · cases e
    obtain ⟨x, rfl, rx⟩ := reps1 r
    cases rx with
    | @tup p vs _ hp rp => exact ⟨p, vs, rfl, .inr hp, by rw [rp.length]; exact k _ H (Same.refl H) (.int _)⟩
  · cases e
    obtain ⟨x, rfl, rx⟩ := reps1 r
    cases rx with
    | @lst p vs _ hp rp => exact ⟨p, vs, rfl, .inl (SqL.of hp), by rw [rp.length]; exact k _ H (Same.refl H) (.int _)⟩
  · cases e
    obtain ⟨x, rfl, rx⟩ := reps1 r
    cases rx with
    | @seq p vs _ hp rp => exact ⟨p, vs, rfl, .inl hp, by rw [rp.length]; exact k _ H (Same.refl H) (.int _)⟩
  · cases e
/-- isinstance(x, a built-in type) -/
def tyOf : D → Option String
  | .non => some "NoneType"
  | .bl _ => some "bool"
  | .int _ => some "int"
  | .str _ => some "str"
  | .tup _ => some "tuple"
  | .lst _ => some "list"
  | .seq _ => some "list"
  | .dct => some "dict"
  | .ty _ => none
  | .exc _ => none
  | .cls _ => none
def IsiOk (n : String) (d : D) (b : Bool) : Prop := ∃ t, tyOf d = some t ∧ ∀ K : PySem.W.Frag, PySem.W.kitOne K (.type t) (.type n) = some b
def rIsi (K : PySem.W.Frag) : List V → Hp → VK → Prop := fun xs H Q => ∃ x n d b, xs = [x, .ty n] ∧ Rep K H x d ∧ IsiOk n d b ∧ Q (.bl b) H
theorem call_isi {X : Cx} : CallR X (.builtin "isinstance") (rIsi X.K) := by
  intro pins s σ H xs us Q I r h
  obtain ⟨x, n, d, b, rfl, rx, ⟨t, ht, hk⟩, q⟩ := h
  obtain ⟨u, w', rfl, ru, rw'⟩ := vals2 r
  cases (show w' = Value.type n from rw')
  have e := hk X.K
  have fin : ∀ tk, EP X pins σ Q (.bool b) { s with toks := tk } := fun tk => ⟨.bl b, H, I.tok _, rfl, q⟩
  cases rx with
  | non => cases ht; cases (show u = Value.none from ru); exact PySem.W.kia_one PySem.W.kitx_none I.kIn True.intro e (fun z => nomatch z) fin
  | bl y => cases ht; cases (show u = Value.bool y from ru); exact PySem.W.kia_one PySem.W.kitx_bool I.kIn True.intro e (fun z => nomatch z) fin
  | int i => cases ht; obtain ⟨t, z⟩ := (show ∃ t, u = Value.int i t from ru); cases z; exact PySem.W.kia_one PySem.W.kitx_int I.kIn True.intro e (fun z => nomatch z) fin
  | str y => cases ht; obtain ⟨t, z⟩ := (show ∃ t, u = Value.str y t from ru); cases z; exact PySem.W.kia_one PySem.W.kitx_str I.kIn True.intro e (fun z => nomatch z) fin
  | ty n => cases ht
  | exc h => cases ht
  | cls C => cases ht
  | @dct a h =>
    cases ht
    cases (show u = Value.ref a from ru)
    exact PySem.W.kia_one PySem.W.kitx_dict I.kIn (I.hok a _ h).1 e (fun z => nomatch z) fin
  | @tup a vs ds hp rp =>
    cases ht
    cases (show u = Value.ref a from ru)
    obtain ⟨its, _, ⟨o, h1, h2, _⟩, _⟩ := I.tuple hp
    exact PySem.W.kia_one PySem.W.kitx_tuple I.kIn ⟨o, h1, h2⟩ e (fun z => nomatch z) fin
  | @lst a vs ds hp rp =>
    cases ht
    cases (show u = Value.ref a from ru)
    obtain ⟨its, _, ⟨o, n', h1, h2, _⟩, _⟩ := I.list (SqL.of (K := X.K) hp)
    exact PySem.W.kia_one PySem.W.kitx_list I.kIn ⟨o, h1, h2⟩ e (fun z => nomatch z) fin
  | @seq a vs ds hp rp =>
    cases ht
    cases (show u = Value.ref a from ru)
    obtain ⟨its, _, ⟨o, n', h1, h2, _⟩, _⟩ := I.list hp
    exact PySem.W.kia_one PySem.W.kitx_list I.kIn ⟨o, h1, h2⟩ e (fun z => nomatch z) fin
def isInt : D → Option Bool
  | .int _ => some true
  | .bl _ => some true
  | .ty _ => none
  | .exc _ => none
  | .cls _ => none
  | _ => some false
def isBool : D → Option Bool
  | .bl _ => some true
  | .ty _ => none
  | .exc _ => none
  | .cls _ => none
  | _ => some false
def isTup : D → Option Bool
  | .tup _ => some true
  | .ty _ => none
  | .exc _ => none
  | .cls _ => none
  | _ => some false
def gIsi (n : String) (p : D → Option Bool) : List D → Option D
  | [d, .ty m] => if m = n then (p d).map D.bl else none
  | _ => none
theorem cd_isi {K : PySem.W.Frag} {n : String} {p : D → Option Bool} (hp : ∀ d b, p d = some b → IsiOk n d b) : CallD K (rIsi K) (gIsi n p) := by
  intro xs H Q ds d r e k
  unfold gIsi at e
  split at e
  · rename_i x m
    by_cases hm : m = n
    · subst hm
      rw [if_pos rfl] at e
      obtain ⟨b, hb, e⟩ := Option.map_eq_some_iff.mp e
      cases e
      obtain ⟨v, w, rfl, rv, rw'⟩ := reps2 r
      cases rw'
      exact ⟨v, m, x, b, rfl, rv, hp x b hb, k _ H (Same.refl H) (.bl b)⟩
    · rw [if_neg hm] at e; cases e
  · cases e
theorem kit_nn (n : String) (K : PySem.W.Frag) : PySem.W.kitOne K (.type n) (.type n) = some true := by
  unfold PySem.W.kitOne
  rw [if_pos (beq_self_eq_true _)]
theorem ok_isInt (d : D) (b : Bool) (h : isInt d = some b) : IsiOk "int" d b := by
  cases d <;> (first | cases h) <;> first
    | exact ⟨_, rfl, fun K => kit_nn _ K⟩
    | exact ⟨_, rfl, fun K => by kernel_rfl⟩
theorem ok_isBool (d : D) (b : Bool) (h : isBool d = some b) : IsiOk "bool" d b := by
  cases d <;> (first | cases h) <;> first
    | exact ⟨_, rfl, fun K => kit_nn _ K⟩
    | exact ⟨_, rfl, fun K => by kernel_rfl⟩
theorem ok_isTup (d : D) (b : Bool) (h : isTup d = some b) : IsiOk "tuple" d b := by
  cases d <;> (first | cases h) <;> first
    | exact ⟨_, rfl, fun K => kit_nn _ K⟩
    | exact ⟨_, rfl, fun K => by kernel_rfl⟩

/-! ### == and != of flat things and of rows of flat things -/
def toV : D → Option V
  | .non => some .non
  | .bl b => some (.bl b)
  | .int i => some (.int i)
  | .str x => some (.str x)
  | _ => none
def flatD (d : D) : Bool := (toV d).isSome
def eqF : D → D → Bool
  | .non, .non => true
  | .bl a, .bl b => a == b
  | .bl a, .int b => (if a then 1 else 0) == b
  | .int a, .bl b => a == (if b then 1 else 0)
  | .int a, .int b => a == b
  | .str a, .str b => a == b
  | _, _ => false
def eqFs : List D → List D → Bool
  | [], [] => true
  | a :: as, b :: bs => eqF a b && eqFs as bs
  | _, _ => false
theorem Rep.flat {K : PySem.W.Frag} {H : Hp} {v : V} {d : D} (r : Rep K H v d) (f : flatD d = true) : flatV v = true ∧ toV d = some v := by
  cases r <;> first | exact ⟨rfl, rfl⟩ | (exact absurd f (by decide)) | (exact absurd f Bool.false_ne_true)
theorem eqV_eqF {a b : D} {x y : V} (ha : toV a = some x) (hb : toV b = some y) : eqV x y = eqF a b := by
  cases a <;> (first | cases ha) <;> cases b <;> (first | cases hb) <;> rfl
theorem eqFs_range : ∀ (as bs : List D) (e : Nat → Bool), (∀ j a b, as[j]? = some a → bs[j]? = some b → e j = eqF a b) → ((List.range (min as.length bs.length)).all e && as.length == bs.length) = eqFs as bs
  | [], [], e, _ => rfl
  | [], b :: bs, e, _ => by simp [eqFs]
  | a :: as, [], e, _ => by simp [eqFs]
  | a :: as, b :: bs, e, h => by
    have ih := eqFs_range as bs (fun j => e (j + 1)) (fun j x y h1 h2 => h (j + 1) x y (by simpa using h1) (by simpa using h2))
    have h0 : e 0 = eqF a b := h 0 a b rfl rfl
    show ((List.range (min (as.length + 1) (bs.length + 1))).all e && (as.length + 1) == (bs.length + 1)) = (eqF a b && eqFs as bs)
    rw [← ih, ← h0, show min (as.length + 1) (bs.length + 1) = min as.length bs.length + 1 by omega, List.range_succ_eq_map, List.all_cons, List.all_map, Bool.and_assoc]
    have : ((as.length + 1) == (bs.length + 1)) = (as.length == bs.length) := by rw [Bool.eq_iff_iff]; simp
    rw [this]
    rfl
/-- == by data: two flat things, two tuples or two lists of flat things, None beside a tuple or a list -/
def gEqB : D → D → Option Bool
  | .tup as, .tup bs => if as.all flatD && bs.all flatD then some (eqFs as bs) else none
  | .lst as, .lst bs => if as.all flatD && bs.all flatD then some (eqFs as bs) else none
  | .non, .tup _ => some false
  | .tup _, .non => some false
  | .non, .lst _ => some false
  | .lst _, .non => some false
  | a, b => if flatD a && flatD b then some (eqF a b) else none
def gEq (a b : D) : Option D := (gEqB a b).map D.bl
def gNe (a b : D) : Option D := (gEqB a b).map fun c => D.bl (!c)
section
variable {K : PySem.W.Frag} {H : Hp}
theorem items_eq {A : Around} {s : Shared} {vs ws : List V} {us zs : List Value} {as bs : List D} (r1 : Vals vs us) (r2 : Vals ws zs) (q1 : Reps K H vs as) (q2 : Reps K H ws bs) (g1 : as.all flatD = true) (g2 : bs.all flatD = true) :
    ∀ j (h1 : j < us.toArray.size) (h2 : j < zs.toArray.size), SeqAt.EqAt A s us.toArray[j] zs.toArray[j] (eqF (as.getD j .non) (bs.getD j .non)) := by
  intro j h1 h2
  have l1 := r1.length
  have l2 := r2.length
  rw [List.size_toArray] at h1 h2
  have k1 : j < vs.length := by omega
  have k2 : j < ws.length := by omega
  obtain ⟨u, e1, p1⟩ := r1.get (i := j) (x := vs[j]) (by simp [k1])
  obtain ⟨z, e2, p2⟩ := r2.get (i := j) (x := ws[j]) (by simp [k2])
  obtain ⟨a, e3, p3⟩ := q1.getV (i := j) (v := vs[j]) (by simp [k1])
  obtain ⟨b, e4, p4⟩ := q2.getV (i := j) (v := ws[j]) (by simp [k2])
  have f1 : flatD a = true := List.all_eq_true.mp g1 a (List.mem_of_getElem? e3)
  have f2 : flatD b = true := List.all_eq_true.mp g2 b (List.mem_of_getElem? e4)
  have w1 : us.toArray[j] = u := by
    have : us[j]? = some us[j] := by simp [h1]
    rw [this] at e1
    simpa using e1
  have w2 : zs.toArray[j] = z := by
    have : zs[j]? = some zs[j] := by simp [h2]
    rw [this] at e2
    simpa using e2
  rw [w1, w2, List.getD_eq_getElem?_getD, List.getD_eq_getElem?_getD, e3, e4]
  show SeqAt.EqAt A s u z (eqF a b)
  rw [← eqV_eqF (p3.flat f1).2 (p4.flat f2).2]
  exact eqAt_V p1 p2 (p3.flat f1).1 (p4.flat f2).1
theorem all_eqFs {as bs : List D} : ((List.range (min as.length bs.length)).all (fun j => eqF (as.getD j .non) (bs.getD j .non)) && as.length == bs.length) = eqFs as bs :=
  eqFs_range as bs _ fun j a b h1 h2 => by
    show eqF (as.getD j .non) (bs.getD j .non) = eqF a b
    rw [List.getD_eq_getElem?_getD, List.getD_eq_getElem?_getD, h1, h2] <;> rfl
theorem rc_flat {A : Around} {s : Shared} {x y : V} {u v : Value} {a b : D} (rx : RelV x u) (ry : RelV y v) (ra : Rep K H x a) (rb : Rep K H y b) (g1 : flatD a = true) (g2 : flatD b = true) : SeqAt.RcAt A s u v (eqF a b) ∧ SeqAt.RcNeAt A s u v (!eqF a b) := by
  cases ra with
  | non =>
    cases (show u = Value.none from rx)
    cases rb with
    | non => cases (show v = Value.none from ry); exact ⟨SeqAt.RcAt.none_none, SeqAt.RcNeAt.none_none⟩
    | bl c => cases (show v = Value.bool c from ry); exact ⟨SeqAt.RcAt.none_bool c, SeqAt.RcNeAt.none_bool c⟩
    | int j => obtain ⟨t, rfl⟩ := (show ∃ t, v = Value.int j t from ry); exact ⟨SeqAt.RcAt.none_int j t, SeqAt.RcNeAt.none_int j t⟩
    | str j => obtain ⟨t, rfl⟩ := (show ∃ t, v = Value.str j t from ry); exact ⟨SeqAt.RcAt.none_str j t, SeqAt.RcNeAt.none_str j t⟩
    | _ => exact absurd g2 Bool.false_ne_true
  | bl i =>
    cases (show u = Value.bool i from rx)
    cases rb with
    | non => cases (show v = Value.none from ry); exact ⟨SeqAt.RcAt.bool_none i, SeqAt.RcNeAt.bool_none i⟩
    | bl c => cases (show v = Value.bool c from ry); exact ⟨SeqAt.RcAt.bool_bool i c, SeqAt.RcNeAt.bool_bool i c⟩
    | int j => obtain ⟨t, rfl⟩ := (show ∃ t, v = Value.int j t from ry); exact ⟨SeqAt.RcAt.bool_int i j t, SeqAt.RcNeAt.bool_int i j t⟩
    | str j => obtain ⟨t, rfl⟩ := (show ∃ t, v = Value.str j t from ry); exact ⟨SeqAt.RcAt.bool_str i j t, SeqAt.RcNeAt.bool_str i j t⟩
    | _ => exact absurd g2 Bool.false_ne_true
  | int i =>
    obtain ⟨t', rfl⟩ := (show ∃ t, u = Value.int i t from rx)
    cases rb with
    | non => cases (show v = Value.none from ry); exact ⟨SeqAt.RcAt.int_none i t', SeqAt.RcNeAt.int_none i t'⟩
    | bl c => cases (show v = Value.bool c from ry); exact ⟨SeqAt.RcAt.int_bool i t' c, SeqAt.RcNeAt.int_bool i t' c⟩
    | int j => obtain ⟨t, rfl⟩ := (show ∃ t, v = Value.int j t from ry); exact ⟨SeqAt.RcAt.int_int i t' j t, SeqAt.RcNeAt.int_int i t' j t⟩
    | str j => obtain ⟨t, rfl⟩ := (show ∃ t, v = Value.str j t from ry); exact ⟨SeqAt.RcAt.int_str i t' j t, SeqAt.RcNeAt.int_str i t' j t⟩
    | _ => exact absurd g2 Bool.false_ne_true
  | str i =>
    obtain ⟨t', rfl⟩ := (show ∃ t, u = Value.str i t from rx)
    cases rb with
    | non => cases (show v = Value.none from ry); exact ⟨SeqAt.RcAt.str_none i t', SeqAt.RcNeAt.str_none i t'⟩
    | bl c => cases (show v = Value.bool c from ry); exact ⟨SeqAt.RcAt.str_bool i t' c, SeqAt.RcNeAt.str_bool i t' c⟩
    | int j => obtain ⟨t, rfl⟩ := (show ∃ t, v = Value.int j t from ry); exact ⟨SeqAt.RcAt.str_int i t' j t, SeqAt.RcNeAt.str_int i t' j t⟩
    | str j => obtain ⟨t, rfl⟩ := (show ∃ t, v = Value.str j t from ry); exact ⟨SeqAt.RcAt.str_str i t' j t, SeqAt.RcNeAt.str_str i t' j t⟩
    | _ => exact absurd g2 Bool.false_ne_true
  | _ => exact absurd g1 Bool.false_ne_true
end
theorem rc_D {X : Cx} {pins : List (Addr × Obj)} {σ : L2.St} {H : Hp} {s : Shared} (I : Inv X pins σ H s) (hu : X.A.units < cLine) {x y : V} {u v : Value} {a b : D} {c : Bool} (rx : RelV x u) (ry : RelV y v) (ra : Rep X.K H x a) (rb : Rep X.K H y b) (e : gEqB a b = some c) :
    SeqAt.RcAt X.A s u v c ∧ SeqAt.RcNeAt X.A s u v (!c) := by
  unfold gEqB at e
  split at e
  · -- two tuples
    rename_i as bs
    cases ra with
    | @tup p vs _ hp rp =>
      cases rb with
      | @tup q ws _ hq rq =>
        split at e
        · rename_i hf
          cases e
          rw [Bool.and_eq_true] at hf
          cases (show u = Value.ref p from rx)
          cases (show v = Value.ref q from ry)
          obtain ⟨its, r1, t1, _⟩ := I.tuple hp
          obtain ⟨jts, r2, t2, _⟩ := I.tuple hq
          have l1 : its.toArray.size = as.length := by rw [List.size_toArray, ← r1.length, rp.length]
          have l2 : jts.toArray.size = bs.length := by rw [List.size_toArray, ← r2.length, rq.length]
          have h1 := SeqAt.RcAt.tuples (A := X.A) (s := s) t1 t2 hu (items_eq r1 r2 rp rq hf.1 hf.2)
          have h2 := SeqAt.RcNeAt.tuples (A := X.A) (s := s) t1 t2 hu (items_eq r1 r2 rp rq hf.1 hf.2)
          rw [l1, l2, all_eqFs] at h1 h2
          exact ⟨h1, h2⟩
        · cases e
  · -- two lists
    rename_i as bs
    cases ra with
    | @lst p vs _ hp rp =>
      cases rb with
      | @lst q ws _ hq rq =>
        split at e
        · rename_i hf
          cases e
          rw [Bool.and_eq_true] at hf
          cases (show u = Value.ref p from rx)
          cases (show v = Value.ref q from ry)
          obtain ⟨its, r1, t1, _⟩ := I.list (SqL.of (K := X.K) hp)
          obtain ⟨jts, r2, t2, _⟩ := I.list (SqL.of (K := X.K) hq)
          have l1 : its.toArray.size = as.length := by rw [List.size_toArray, ← r1.length, rp.length]
          have l2 : jts.toArray.size = bs.length := by rw [List.size_toArray, ← r2.length, rq.length]
          by_cases hl : its.toArray.size = jts.toArray.size
          · have h1 := SeqAt.RcAt.lists (A := X.A) (s := s) t1.isList t2.isList hl hu (items_eq r1 r2 rp rq hf.1 hf.2)
            have h2 := SeqAt.RcNeAt.lists (A := X.A) (s := s) t1.isList t2.isList hl hu (items_eq r1 r2 rp rq hf.1 hf.2)
            have h3 : (List.range its.toArray.size).all (fun j => eqF (as.getD j .non) (bs.getD j .non)) = eqFs as bs := by
              rw [← all_eqFs, l1, show min as.length bs.length = as.length by omega, show (as.length == bs.length) = true by rw [beq_iff_eq]; omega, Bool.and_true]
            rw [h3] at h1 h2
            exact ⟨h1, h2⟩
          · have h1 := SeqAt.RcAt.lists_lengths (A := X.A) (s := s) t1.isList t2.isList (by simpa [bne_iff_ne] using hl) hu
            have h2 := SeqAt.RcNeAt.lists_lengths (A := X.A) (s := s) t1.isList t2.isList (by simpa [bne_iff_ne] using hl) hu
            have h3 : eqFs as bs = false := by
              rw [← all_eqFs, show (as.length == bs.length) = false by rw [beq_eq_false_iff_ne]; omega, Bool.and_false]
            rw [h3]
            exact ⟨h1, h2⟩
        · cases e
  · cases e
    cases ra
    cases rb with
    | @tup q ws bs hq rq =>
      cases (show u = Value.none from rx)
      cases (show v = Value.ref q from ry)
      obtain ⟨its, r1, t1, _⟩ := I.tuple hq
      exact ⟨SeqAt.RcAt.none_tuple t1 hu, SeqAt.RcNeAt.none_tuple t1 hu⟩
  · cases e
    cases rb
    cases ra with
    | @tup q ws bs hq rq =>
      cases (show v = Value.none from ry)
      cases (show u = Value.ref q from rx)
      obtain ⟨its, r1, t1, _⟩ := I.tuple hq
      exact ⟨SeqAt.RcAt.tuple_none t1 hu, SeqAt.RcNeAt.tuple_none t1 hu⟩
  · cases e
    cases ra
    cases rb with
    | @lst q ws bs hq rq =>
      cases (show u = Value.none from rx)
      cases (show v = Value.ref q from ry)
      obtain ⟨its, r1, t1, _⟩ := I.list (SqL.of (K := X.K) hq)
      exact ⟨SeqAt.RcAt.none_list t1.isList hu, SeqAt.RcNeAt.none_list t1.isList hu⟩
  · cases e
    cases rb
    cases ra with
    | @lst q ws bs hq rq =>
      cases (show v = Value.none from ry)
      cases (show u = Value.ref q from rx)
      obtain ⟨its, r1, t1, _⟩ := I.list (SqL.of (K := X.K) hq)
      exact ⟨SeqAt.RcAt.list_none t1.isList hu, SeqAt.RcNeAt.list_none t1.isList hu⟩
  · split at e
    · rename_i hf
      cases e
      rw [Bool.and_eq_true] at hf
      exact rc_flat rx ry ra rb hf.1 hf.2
    · cases e
def rEqD (K : PySem.W.Frag) : R2 := fun x y H Q => ∃ a b c, Rep K H x a ∧ Rep K H y b ∧ gEqB a b = some c ∧ Q (.bl c) H
def rNeD (K : PySem.W.Frag) : R2 := fun x y H Q => ∃ a b c, Rep K H x a ∧ Rep K H y b ∧ gEqB a b = some c ∧ Q (.bl (!c)) H
theorem op_eqD {X : Cx} (hu : X.A.units < cLine) : OpR X (compareOp .Eq) (rEqD X.K) := by
  intro pins s σ H x y v u Q I rx ry h
  obtain ⟨a, b, c, ra, rb, e, q⟩ := h
  exact (rc_D I hu rx ry ra rb e).1 X.prog X.w _ _ ⟨.bl c, H, I, rfl, q⟩
theorem op_neD {X : Cx} (hu : X.A.units < cLine) : OpR X (compareOp .NotEq) (rNeD X.K) := by
  intro pins s σ H x y v u Q I rx ry h
  obtain ⟨a, b, c, ra, rb, e, q⟩ := h
  exact (rc_D I hu rx ry ra rb e).2 X.prog X.w _ _ ⟨.bl (!c), H, I, rfl, q⟩
theorem r2_eq {K : PySem.W.Frag} : R2D K (rEqD K) gEq := by
  intro x y H Q a b d ra rb e k
  unfold gEq at e
  obtain ⟨c, hc, e⟩ := Option.map_eq_some_iff.mp e
  cases e
  exact ⟨a, b, c, ra, rb, hc, k _ H (Same.refl H) (.bl _)⟩
theorem r2_ne {K : PySem.W.Frag} : R2D K (rNeD K) gNe := by
  intro x y H Q a b d ra rb e k
  unfold gNe at e
  obtain ⟨c, hc, e⟩ := Option.map_eq_some_iff.mp e
  cases e
  exact ⟨a, b, c, ra, rb, hc, k _ H (Same.refl H) (.bl _)⟩
section
variable {X : Cx} {a b e : Expr} {fa fb f : FD} {pos : Pos}
theorem pd_eq (hu : X.A.units < cLine) (ha : PD X a fa) (hb : PD X b fb) : PD X (.Compare a [.Eq] [b] pos) (f2 gEq fa fb) := pd_cmp (op_eqD hu) r2_eq ha hb (nomark _)
theorem ptd_eq (hu : X.A.units < cLine) (ha : PD X a fa) (hb : PD X b fb) : PTD X (.Compare a [.Eq] [b] pos) (fT (f2 gEq fa fb)) := ptd_cmp (op_eqD hu) r2_eq ha hb (nomark _)
theorem ptd_ne (hu : X.A.units < cLine) (ha : PD X a fa) (hb : PD X b fb) : PTD X (.Compare a [.NotEq] [b] pos) (fT (f2 gNe fa fb)) := ptd_cmp (op_neD hu) r2_ne ha hb (nomark _)
abbrev gLt : D → D → Option D := gI0 fun i j => .bl (decide (i < j))
abbrev gLe : D → D → Option D := gI0 fun i j => .bl (decide (i ≤ j))
abbrev gGt : D → D → Option D := gI0 fun i j => .bl (decide (j < i))
abbrev gGe : D → D → Option D := gI0 fun i j => .bl (decide (j ≤ i))
theorem pd_lt (ha : PD X a fa) (hb : PD X b fb) : PD X (.Compare a [.Lt] [b] pos) (f2 gLt fa fb) := pd_cmp op_lt (r2_I0 fun _ _ _ => .bl _) ha hb (nomark _)
theorem ptd_lt (ha : PD X a fa) (hb : PD X b fb) : PTD X (.Compare a [.Lt] [b] pos) (fT (f2 gLt fa fb)) := ptd_cmp op_lt (r2_I0 fun _ _ _ => .bl _) ha hb (nomark _)
theorem ptd_gt (ha : PD X a fa) (hb : PD X b fb) : PTD X (.Compare a [.Gt] [b] pos) (fT (f2 gGt fa fb)) := ptd_cmp op_gt (r2_I0 fun _ _ _ => .bl _) ha hb (nomark _)
theorem ptd_ge (ha : PD X a fa) (hb : PD X b fb) : PTD X (.Compare a [.GtE] [b] pos) (fT (f2 gGe fa fb)) := ptd_cmp op_ge (r2_I0 fun _ _ _ => .bl _) ha hb (nomark _)
/-- x is None, x is not None -/
def isNon : D → Bool
  | .non => true
  | _ => false
def gIsN (a b : D) : Option D := match b with
  | .non => some (.bl (isNon a))
  | _ => none
def gNotN (a b : D) : Option D := match b with
  | .non => some (.bl (!isNon a))
  | _ => none
theorem isNon_of {K : PySem.W.Frag} {H : Hp} {x : V} {a : D} (r : Rep K H x a) : decide (x = .non) = isNon a := by
  cases r <;> rfl
theorem r2_isN {K : PySem.W.Frag} : R2D K (fun x y H Q => y = .non ∧ Q (.bl (decide (x = .non))) H) gIsN := by
  intro x y H Q a b d ra rb e k
  cases rb with
  | non => cases e; exact ⟨rfl, by rw [isNon_of ra]; exact k _ H (Same.refl H) (.bl _)⟩
  | _ => cases e
theorem r2_notN {K : PySem.W.Frag} : R2D K (fun x y H Q => y = .non ∧ Q (.bl (!decide (x = .non))) H) gNotN := by
  intro x y H Q a b d ra rb e k
  cases rb with
  | non => cases e; exact ⟨rfl, by rw [isNon_of ra]; exact k _ H (Same.refl H) (.bl _)⟩
  | _ => cases e
theorem ptd_isN (ha : PD X a fa) (hb : PD X b fb) : PTD X (.Compare a [.Is] [b] pos) (fT (f2 gIsN fa fb)) := ptd_cmp op_isN r2_isN ha hb (nomark _)
theorem ptd_notN (ha : PD X a fa) (hb : PD X b fb) : PTD X (.Compare a [.IsNot] [b] pos) (fT (f2 gNotN fa fb)) := ptd_cmp op_notN r2_notN ha hb (nomark _)
end

/-! ### statements -/
inductive Res where
  | nx (δ : DS)
  | rt (d : D)
  | bk (δ : DS)
  | ct (δ : DS)
  | ex (C : Addr) (δ : DS)
  | mk (C : Addr) (δ : DS)
abbrev SD := DS → Option Res
def RP (X : Cx) (E : Ends) (H : Hp) : Res → Prop
  | .nx δ => ∀ σ' H', Same H H' → RepS X.K H' σ' δ → E.nx σ' H'
  | .rt d => ∀ v H', Same H H' → Rep X.K H' v d → E.rt v H'
  | .bk δ => ∀ σ' H', Same H H' → RepS X.K H' σ' δ → E.bk σ' H'
  | .ct δ => ∀ σ' H', Same H H' → RepS X.K H' σ' δ → E.ct σ' H'
  | .ex C δ => ∀ σ' H', Same H H' → RepS X.K H' σ' δ → XFly X C σ' H'
  | .mk C δ => ∀ σ' H', Same H H' → RepS X.K H' σ' δ → XMade X C σ' H'
theorem RP.mono {X : Cx} {E : Ends} {H H1 : Hp} {r : Res} (s : Same H H1) (h : RP X E H r) : RP X E H1 r := by
  cases r with
  | nx δ => exact fun σ' H' s2 R => h σ' H' (s.trans s2) R
  | rt d => exact fun v H' s2 R => h v H' (s.trans s2) R
  | bk δ => exact fun σ' H' s2 R => h σ' H' (s.trans s2) R
  | ct δ => exact fun σ' H' s2 R => h σ' H' (s.trans s2) R
  | ex C δ => exact fun σ' H' s2 R => h σ' H' (s.trans s2) R
  | mk C δ => exact fun σ' H' s2 R => h σ' H' (s.trans s2) R
def upS (X : Cx) (s : SD) : TS := fun E σ H => ∃ δ r, RepS X.K H σ δ ∧ s δ = some r ∧ RP X E H r
def PSD (X : Cx) (st : Stmt) (s : SD) : Prop := PS X st (upS X s)
def PSsD (X : Cx) (sts : List Stmt) (s : SD) : Prop := PSs X sts (upS X s)
theorem impS {X : Cx} {st : Stmt} {t t' : TS} (h : PS X st t) (w : ∀ E σ H, t' E σ H → t E σ H) : PS X st t' := fun pins s σ H E I q => h pins s σ H E I (w E σ H q)
theorem impSs {X : Cx} {st : List Stmt} {t t' : TS} (h : PSs X st t) (w : ∀ E σ H, t' E σ H → t E σ H) : PSs X st t' := fun pins s σ H E I q => h pins s σ H E I (w E σ H q)
def sNil : SD := fun δ => some (.nx δ)
def sThen (u : SD) : Res → Option Res
  | .nx δ => u δ
  | r => some r
def sSeq (s u : SD) : SD := fun δ => (s δ).bind (sThen u)
def sRet (f : FD) : SD := fun δ => (f δ).bind fun d => some (.rt d)
def sDrop (f : FD) : SD := fun δ => (f δ).bind fun _ => some (.nx δ)
def sSet (i : Nat) (f : FD) : SD := fun δ => (f δ).bind fun d => some (.nx (δ.set i (some d)))
def sIf (c : FT) (s u : SD) : SD := fun δ => (c δ).bind fun b => match b with
  | true => s δ
  | false => u δ
section
variable {X : Cx} {st : Stmt} {rest : List Stmt} {s u : SD} {e : Expr} {f : FD} {c : FT} {pos : Pos}
theorem psd_nil : PSsD X [] sNil := impSs pss_nil fun E σ H ⟨δ, r, R, e, k⟩ => by cases e; exact k σ H (Same.refl H) R
theorem psd_cons (h1 : PSD X st s) (h2 : PSsD X rest u) : PSsD X (st :: rest) (sSeq s u) := impSs (pss_cons h1 h2) fun E σ H ⟨δ, r, R, e, k⟩ => by
  unfold sSeq at e
  obtain ⟨r1, e1, e⟩ := Option.bind_eq_some_iff.mp e
  refine ⟨δ, r1, R, e1, ?_⟩
  cases r1 with
  | nx δ' => exact fun σ' H' s1 R1 => ⟨δ', r, R1, e, k.mono s1⟩
  | rt d => cases e; exact k
  | bk d => cases e; exact k
  | ct d => cases e; exact k
  | ex C d => cases e; exact k
  | mk C d => cases e; exact k
theorem psd_one (h : PSD X st s) : PSsD X [st] s := pss_one h
theorem psd_ret (he : PD X e f) : PSD X (.Return (some e) pos) (sRet f) := impS (ps_ret he) fun E σ H ⟨δ, r, R, q, k⟩ => by
  unfold sRet at q
  obtain ⟨d, ed, q⟩ := Option.bind_eq_some_iff.mp q
  cases q
  exact ⟨δ, d, R, ed, k⟩
theorem psd_set (i : Nat) {x : Str} {pos' : Pos} (hN : X.N.Nodup) (he : PD X e f) (hi : X.N[i]? = some x := by rfl) (hx : Loc X.env.scope x := by first | exact Or.inl rfl | exact Or.inr rfl) (hs : swapsWith e (some (.Name x pos')) pos.line X.env = pure false := by rfl) (hf : X.fn x = true ∨ X.env.scope.names.lookup x = some .local := by first | exact .inl rfl | exact .inr rfl | assumption) :
    PSD X (.Assign [.Name x pos'] e pos) (sSet i f) := impS (ps_set hN hi hx he hs hf) fun E σ H ⟨δ, r, R, q, k⟩ => by
  unfold sSet at q
  obtain ⟨d, ed, q⟩ := Option.bind_eq_some_iff.mp q
  cases q
  exact ⟨δ, d, R, ed, fun v H' s1 r1 => k (σ.set i (some v)) H' s1 ((R.mono s1).set i r1)⟩
theorem psd_if {cx : Expr} {a b : List Stmt} (hc : PTD X cx c) (ha : PSsD X a s) (hb : PSsD X b u) : PSD X (.If cx a b pos) (sIf c s u) := impS (ps_if hc ha hb) fun E σ H ⟨δ, r, R, q, k⟩ => by
  unfold sIf at q
  obtain ⟨d, ed, q⟩ := Option.bind_eq_some_iff.mp q
  refine ⟨δ, d, R, ed, fun H' s1 => ?_⟩
  cases d with
  | true => rw [if_pos rfl]; exact ⟨δ, r, R.mono s1, q, k.mono s1⟩
  | false => rw [if_neg Bool.false_ne_true]; exact ⟨δ, r, R.mono s1, q, k.mono s1⟩
/-- a, b = x, y -/
def sPar (i j : Nat) (g : FA) : SD := fun δ => (g δ).bind fun ds => match ds with
  | [a, b] => some (.nx ((δ.set i (some a)).set j (some b)))
  | _ => none
/-- a, b = t (a tuple of two) -/
def sUn2 (i j : Nat) (f : FD) : SD := fun δ => (f δ).bind fun d => match d with
  | .tup [a, b] => some (.nx ((δ.set i (some a)).set j (some b)))
  | _ => none
end
/-! ### loops -/
/-- what a for walks: the items are known ahead -/
def ItD (K : PySem.W.Frag) (J : It) (H1 : Hp) (ds : List D) : Prop := ∀ i H2, Same H1 H2 →
  (i < ds.length → J.go i H2 ∧ ∀ x H', J.yld i H2 x H' → Same H2 H' ∧ ∃ d, ds[i]? = some d ∧ Rep K H' x d) ∧ (ds.length ≤ i → J.stop i H2)
def upI (K : PySem.W.Frag) (src : FA) : TI := fun σ H R => ∃ δ ds, RepS K H σ δ ∧ src δ = some ds ∧ ∀ J H1, Same H H1 → ItD K J H1 ds → R J H1
def PID (X : Cx) (tg iter : Expr) (src : FA) : Prop := PI X tg iter (upI X.K src)
theorem impI {X : Cx} {tg iter : Expr} {t t' : TI} (h : PI X tg iter t) (w : ∀ σ H R, t' σ H R → t σ H R) : PI X tg iter t' := fun pins s σ H R I q => h pins s σ H R I (w σ H R q)
def asL : D → Option (List D)
  | .lst ds => some ds
  | .seq ds => some ds
  | _ => none
theorem it_list {K : PySem.W.Frag} {H1 : Hp} {a : Addr} {vs : List V} {ds : List D} (hq : SqL K H1 a vs) (r : Reps K H1 vs ds) : ItD K (Itl K a) H1 ds := by
  intro i H2 s
  have hq2 := s.seq hq
  have r2 := r.mono s
  have hl := r2.length
  refine ⟨fun hi => ⟨⟨vs, vs[i], hq2, by simp [show i < vs.length by omega]⟩, fun x H' y => ?_⟩, fun hi => ⟨vs, hq2, by omega⟩⟩
  obtain ⟨e, y⟩ := y
  subst e
  obtain ⟨d, h1, h2⟩ := r2.getV (y vs hq2)
  exact ⟨Same.refl _, d, h1, h2⟩
theorem pid_list {X : Cx} {tg l : Expr} {f : FD} (hl : PD X l f) : PID X tg l (fun δ => (f δ).bind asL) := impI (pi_list hl) fun σ H R ⟨δ, ds, R0, e, k⟩ => by
  obtain ⟨d, ed, e⟩ := Option.bind_eq_some_iff.mp e
  refine ⟨δ, d, R0, ed, fun v H1 s1 r1 => ?_⟩
  cases r1 with
  | @lst p vs es hp rp => cases e; exact ⟨p, rfl, ⟨vs, SqL.of hp⟩, k _ H1 s1 (it_list (SqL.of hp) rp)⟩
  | @seq p vs es hp rp => cases e; exact ⟨p, rfl, ⟨vs, hp⟩, k _ H1 s1 (it_list hp rp)⟩
  | _ => cases e
def upG (K : PySem.W.Frag) (g : D → DS → Option DS) : TG := fun v σ H Q => ∃ d δ δ', Rep K H v d ∧ RepS K H σ δ ∧ g d δ = some δ' ∧ ∀ σ', RepS K H σ' δ' → Q σ' H
def PGD (X : Cx) (tg : Expr) (g : D → DS → Option DS) : Prop := PG X tg (upG X.K g)
def gSet (i : Nat) : D → DS → Option DS := fun d δ => some (δ.set i (some d))
theorem pgd_name {X : Cx} (i : Nat) {x : Str} {pos : Pos} (hN : X.N.Nodup) (hi : X.N[i]? = some x := by rfl) (hx : Loc X.env.scope x := by first | exact Or.inl rfl | exact Or.inr rfl) (hf : X.fn x = true ∨ X.env.scope.names.lookup x = some .local := by first | exact .inl rfl | exact .inr rfl | assumption) : PGD X (.Name x pos) (gSet i) :=
  fun pins s σ H v u Q I r ⟨d, δ, δ', rv, R, e, k⟩ => by
    cases e
    exact pg_name hN hi hx hf pins s σ H v u Q I r (k _ (R.set i rv))
def forD (g : D → DS → Option DS) (s : SD) : List D → SD
  | [] => fun δ => some (.nx δ)
  | d :: ds => fun δ => (g d δ).bind fun δ1 => (s δ1).bind fun r => match r with
    | .nx δ' => forD g s ds δ'
    | .ct δ' => forD g s ds δ'
    | .bk δ' => some (.nx δ')
    | .rt d => some (.rt d)
    | .ex C δ' => some (.ex C δ')
    | .mk C δ' => some (.mk C δ')
def sFor (src : FA) (g : D → DS → Option DS) (s : SD) : SD := fun δ => (src δ).bind fun ds => forD g s ds δ
theorem psd_for {X : Cx} {tg iter : Expr} {body : List Stmt} {src : FA} {g : D → DS → Option DS} {s : SD} {pos : Pos} (hp : PassesOwn (model X.prog X.w) X.A X.env X.xe) (hc : X.calm = true) (hi : PID X tg iter src) (hg : PGD X tg g) (hb : PSsD X body s)
    (hs : ∀ x, foldedSetIterable iter X.env x = pure x := by intro _; rfl) : PSD X (.For tg iter body [] pos) (sFor src g s) := impS (ps_for hp hc hi hg hb hs) fun E σ H ⟨δ, r, R, e, k⟩ => by
  unfold sFor at e
  obtain ⟨ds, eds, e⟩ := Option.bind_eq_some_iff.mp e
  refine ⟨δ, ds, R, eds, fun J H1 s1 it => ?_⟩
  refine ⟨fun i m σ H => m = ds.length - i ∧ i ≤ ds.length ∧ Same H1 H ∧ ∃ δ, RepS X.K H σ δ ∧ forD g s (ds.drop i) δ = some r ∧ RP X E H r, ⟨ds.length, rfl, Nat.zero_le _, Same.refl _, δ, R.mono s1, e, k.mono s1⟩, ?_⟩
  rintro i m σ H2 ⟨rfl, hil, s2, δ2, R2, e2, k2⟩
  by_cases hlt : i < ds.length
  · obtain ⟨go, yl⟩ := (it i H2 s2).1 hlt
    rw [List.drop_eq_getElem_cons hlt] at e2
    obtain ⟨δ3, e3, e2⟩ := Option.bind_eq_some_iff.mp (show ((g ds[i] δ2).bind _) = some r from e2)
    obtain ⟨r4, e4, e2⟩ := Option.bind_eq_some_iff.mp e2
    refine .inr ⟨go, fun σ' H' => Same H1 H' ∧ ∃ δ, RepS X.K H' σ' δ ∧ forD g s (ds.drop (i + 1)) δ = some r ∧ RP X E H' r, fun σ' H' z => ⟨ds.length - (i + 1), by omega, rfl, hlt, z⟩, fun x H' y => ?_⟩
    obtain ⟨s3, d, hd, rx⟩ := yl x H' y
    have hd' : d = ds[i] := by
      rw [List.getElem?_eq_getElem hlt] at hd
      exact (Option.some.inj hd).symm
    subst hd'
    refine ⟨ds[i], δ2, δ3, rx, R2.mono s3, e3, fun σ3 R3 => ⟨δ3, r4, R3, e4, ?_⟩⟩
    cases r4 with
    | nx δ' => exact fun σ' H'' s4 R4 => ⟨(s2.trans s3).trans s4, δ', R4, e2, (k2.mono s3).mono s4⟩
    | ct δ' => exact fun σ' H'' s4 R4 => ⟨(s2.trans s3).trans s4, δ', R4, e2, (k2.mono s3).mono s4⟩
    | bk δ' => cases e2; exact fun σ' H'' s4 R4 => k2 σ' H'' (s3.trans s4) R4
    | rt d => cases e2; exact fun v H'' s4 R4 => k2 v H'' (s3.trans s4) R4
    | ex C δ' => cases e2; exact fun σ' H'' s4 R4 => k2 σ' H'' (s3.trans s4) R4
    | mk C δ' => cases e2; exact fun σ' H'' s4 R4 => k2 σ' H'' (s3.trans s4) R4
  · have e : i = ds.length := by omega
    subst e
    rw [List.drop_length] at e2
    cases e2
    exact .inl ⟨(it _ H2 s2).2 (Nat.le_refl _), k2 σ H2 (Same.refl _) R2⟩

/-! ### a pure def -/
def retOf : Option Res → Option D
  | some (.rt d) => some d
  | some (.nx _) => some .non
  | _ => none
def start (n : Nat) (ds : List D) : DS := ds.map some ++ List.replicate (n - ds.length) none
section
variable {P : Program} {w : World} {K : PySem.W.Frag} {mg : Str → Option Value} {base : Heap}
theorem pure_ok {x qual : Str} {st : Stmt} {f : Addr} {fd : FuncData} {N ps : List Str} {k : Nat} {G : List D → Option D} (F : Fun K x qual st f fd) (S : FnScope N ps (defScope st))
    (hbody : ∀ (cdv : Value) (A : Around) (outer : List Env) (s : Shared) (H : Hp) (E : XK) (ds : List D) (d : D), Room k (A.deeper (envOfC qual (defScope st) s.heap.objs.size f cdv)) → G ds = some d → ds.length = ps.length →
      ∃ t, PSsD (cxOf CX0 P w K mg base N qual (defScope st) f cdv A outer s H E).nox (defBody st) t ∧ retOf (t (start N.length ds)) = some d) : FnOk P w K mg base CX0 (k + 1) f fd ps (pureSp K ps.length G) := by
  refine F.ok S (fun vs H Q E h => h.1) (fun cdv A outer s H vs Q E hr h => ?_)
  obtain ⟨hl, ds, d, r, e, q⟩ := h
  obtain ⟨t, ht, hq⟩ := hbody cdv A outer s H E ds d hr e (r.length.symm.trans hl)
  refine ⟨_, ht, start N.length ds, ?_⟩
  cases z : t (start N.length ds) with
  | none => rw [z] at hq; cases hq
  | some res =>
    rw [z] at hq
    refine ⟨res, RepS.start r, rfl, ?_⟩
    cases res with
    | rt d' => cases hq; exact q
    | nx δ => cases hq; exact fun σ' H' s1 _ => q _ H' s1 .non
    | bk δ => cases hq
    | ct δ => cases hq
    | ex C δ => cases hq
    | mk C δ => cases hq
/-- a pure def as its callers have it -/
structure Has (P : Program) (w : World) (K : PySem.W.Frag) (mg : Str → Option Value) (base : Heap) (k : Nat) (x : Str) (ps : List Str) (G : List D → Option D) : Prop where
  ex : ∃ f fd, FnOk P w K mg base CX0 k f fd ps (pureSp K ps.length G) ∧ mg x = some (.ref f) ∧ PySem.W.keepIn K (.ref f) = true ∧ Binds K fd ps []
end
theorem pd_callH {X : Cx} {e : Expr} {es : List Expr} {g : FA} {pos p : Pos} {k j : Nat} {x : Str} {ps : List Str} {G : List D → Option D} (F : Has X.prog X.w X.K X.mg X.base k x ps G) (hr : Room j X.A) (ha : PAD X (e :: es) g) (hk : k ≤ j := by decide) (hg : Gl X x := by rfl)
    (hn : (e :: es).length = ps.length := by rfl) (hdb : (x == ("__debug__" : Str)) = false := by decide) (he : starEach (e :: es) X.env = (false, eval e X.env) :: starEach es X.env := by rfl) (hpl : (backTo pos (starEach es X.env)).any (·.1) = false := by rfl) :
    PD X (.Call (.Name x p) (e :: es) [] pos) (fCall G g) := by
  obtain ⟨f, fd, F, hm, kp, hb⟩ := F.ex
  exact pd_call F (hr.mono hk) hg hm kp hb ha hn hdb he hpl
end Dl
namespace Dl
open PySem PySem.Spec PyProof.Rows L2
/-- the law's promise: a list of at most 63 ints is handed in, True comes out -/
def spLaw (K : PySem.W.Frag) : Sp := fun vs H Q _ => ∃ (a : Addr) (ns : List Int), vs = [.ref a] ∧ SqL K H a (ns.map V.int) ∧ ns.length ≤ 63 ∧ ∀ H', Q (.bl true) H'
end Dl
namespace Dl
/-- a function of a relation -/
noncomputable def fn (S : List D → D → Prop) : List D → Option D := fun ds => by
  classical exact if h : ∃ d, S ds d then some h.choose else none
theorem fn_inv {S : List D → D → Prop} {ds : List D} {d : D} (h : fn S ds = some d) : S ds d := by
  unfold fn at h
  split at h
  · rename_i q
    have e := Option.some.inj h
    rw [← e]
    exact q.choose_spec
  · cases h
theorem fn_eq {S : List D → D → Prop} {ds : List D} {d : D} (u : ∀ d', S ds d' → d' = d) (h : S ds d) : fn S ds = some d := by
  unfold fn
  have q : ∃ d, S ds d := ⟨d, h⟩
  rw [dif_pos q]
  exact congrArg some (u _ q.choose_spec)
theorem gNe_int (a b : Int) : gNe (.int a) (.int b) = some (.bl (!(a == b))) := rfl
theorem gEq_int (a b : Int) : gEq (.int a) (.int b) = some (.bl (a == b)) := rfl
theorem gEq_bl (a b : Bool) : gEq (.bl a) (.bl b) = some (.bl (a == b)) := rfl
theorem gEq_tup2 (a b c d : Int) : gEq (.tup [.int a, .int b]) (.tup [.int c, .int d]) = some (.bl (a == c && b == d)) := by
  show some (D.bl (a == c && (b == d && true))) = _
  rw [Bool.and_true]
theorem gNe_tup2 (a b c d : Int) : gNe (.tup [.int a, .int b]) (.tup [.int c, .int d]) = some (.bl (!(a == c && b == d))) := by
  show some (D.bl (!(a == c && (b == d && true)))) = _
  rw [Bool.and_true]
theorem gAdd_int (a b : Int) : gAdd (.int a) (.int b) = some (.int (a + b)) := rfl
theorem gI_pos {C : Int → Int → Prop} [∀ i j, Decidable (C i j)] {g : Int → Int → D} {i j : Int} (h : C i j) : gI C g (.int i) (.int j) = some (g i j) := if_pos h
end Dl
namespace Dl
theorem gIsi_same (n : String) (p : D → Option Bool) (d : D) : gIsi n p [d, .ty n] = (p d).map D.bl := if_pos rfl
theorem gIx_t0 (a b : D) : gIx (.tup [a, b]) (.int 0) = some a := rfl
theorem gIx_t1 (a b : D) : gIx (.tup [a, b]) (.int 1) = some b := rfl
theorem gLen_t2 (a b : D) : gLen [.tup [a, b]] = some (.int 2) := rfl
theorem gLen_seq (ds : List D) : gLen [.seq ds] = some (.int ds.length) := rfl
end Dl
namespace Dl
open PySem PySem.Spec PyProof.Rows L2
/-! ### slices of lists, calls with written defaults, three targets, comprehensions, ranges: what they read -/
abbrev FO := DS → Option (Option Int)
def faN : FO := fun _ => some none
def asI : D → Option (Option Int)
  | .int i => some (some i)
  | _ => none
def faS (f : FD) : FO := fun δ => (f δ).bind asI
def sIxD (n d : Nat) : Option Int → Nat
  | none => d
  | some v => if v < 0 then (v + (n : Int)).toNat else min v.toNat n
def cutD (ds : List D) (lo hi : Option Int) : List D := (ds.drop (sIxD ds.length 0 lo)).take (sIxD ds.length ds.length hi - sIxD ds.length 0 lo)
def fSl (f : FD) (lo hi : FO) : FD := fun δ => (f δ).bind fun d => (asL d).bind fun ds => (lo δ).bind fun l => (hi δ).bind fun h => some (.lst (cutD ds l h))
def dfl (G : List D → Option D) (dv : List Int) : List D → Option D := fun ds => G (ds ++ dv.map D.int)
def mapO (g : D → Option D) : List D → Option (List D)
  | [] => some []
  | d :: ds => (g d).bind fun x => (mapO g ds).bind fun xs => some (x :: xs)
def slotsOf (js : List Nat) (δ : DS) : DS := js.map fun j => match δ[j]? with
  | some o => o
  | none => none
def fComp (src : FA) (js : List Nat) (elt : FD) : FD := fun δ => (src δ).bind fun ds => (mapO (fun d => elt (some d :: slotsOf js δ)) ds).bind fun xs => if xs.length ≤ 1000 then some (.lst xs) else none
/-- range(n), range(a, b), range(a, b, c) with c 2 -/
def rangeD (a b c : Int) : List D := (List.range ((b - a + c - 1) / c).toNat).map fun i => .int (a + (i : Nat) * c)
def asR : List D → Option (List D)
  | [.int b] => if -(2 ^ 62) ≤ b ∧ b < 2 ^ 62 then some (rangeD 0 b 1) else none
  | [.int a, .int b] => if -(2 ^ 62) ≤ a ∧ a < 2 ^ 62 ∧ -(2 ^ 62) ≤ b ∧ b < 2 ^ 62 then some (rangeD a b 1) else none
  | [.int a, .int b, .int c] => if -(2 ^ 62) ≤ a ∧ a < 2 ^ 62 ∧ -(2 ^ 62) ≤ b ∧ b < 2 ^ 62 ∧ c = 2 then some (rangeD a b c) else none
  | _ => none
def srcR (g : FA) : FA := fun δ => (g δ).bind asR
end Dl
namespace Dl
theorem cutD_ints (ns : List Int) (lo hi : Option Int) : ∃ ms : List Int, cutD (ns.map D.int) lo hi = ms.map D.int := by
  unfold cutD
  exact ⟨_, by rw [← List.map_drop, ← List.map_take]⟩
end Dl
namespace Dl
open PySem PySem.Spec PyProof.Rows L2
/-! ### a def with written defaults -/
structure FunD (K : PySem.W.Frag) (x qual : Str) (st : Stmt) (f : Addr) (fd : FuncData) (dV : Value) : Prop where
  ex : ∃ (oc : Value) (od : Option Addr) (kV doc pm : Value) (an : Option Addr) (cdv ct : Value) (osl : Array (Option Value)),
    fd = PySem.W.fnOf x qual (defArgs st) (defBody st) (defScope st) dV kV doc pm an cdv ct ∧ K.lookup f = some ⟨oc, od, .func fd, osl⟩ ∧ PySem.W.codeIn K cdv qual = true
  kp : PySem.W.keepIn K (.ref f) = true
section
variable {P : Program} {w : World} {K : PySem.W.Frag} {mg : Str → Option Value} {base : Heap}
theorem FunD.binds {x qual : Str} {st : Stmt} {f T : Addr} {fd : FuncData} {ps : List Str} {o : Obj} {items : Array Value} {n : Nat} {ds : List Value} (F : FunD K x qual st f fd (.ref T)) (ho : K.lookup T = some o) (hs : o.data = .seq items n)
    (h : ∀ (kV doc pm : Value) (an : Option Addr) (cdv ct : Value) (us : List Value), (us ++ ds).length = ps.length → ∃ k, bindArgs (PySem.W.fnOf x qual (defArgs st) (defBody st) (defScope st) (.ref T) kV doc pm an cdv ct) ⟨us, []⟩ = seqItems? (.ref T) >>= k ∧ k (some items) = pure (ps.zip (us ++ ds))) : Binds K fd ps ds := by
  obtain ⟨oc, od, kV, doc, pm, an, cdv, ct, osl, rfl, lk, hcd⟩ := F.ex
  intro s us KI hl
  obtain ⟨k, h1, h2⟩ := h kV doc pm an cdv ct us hl
  exact PySem.W.binds_K KI rfl ho hs h1 h2
end
/-! ### slices -/
def upO (K : PySem.W.Frag) (f : FO) : TO := fun σ H Q => ∃ δ o, RepS K H σ δ ∧ f δ = some o ∧ ∀ H', Same H H' → Q o H'
def POD (X : Cx) (e : Option Expr) (f : FO) : Prop := PO X e (upO X.K f)
theorem sIxD_eq (n d : Nat) (o : Option Int) : sIxD n d o = HT.sIx n d o := by cases o <;> rfl
theorem cut_reps {K : PySem.W.Frag} {H : Hp} {vs : List V} {ds : List D} (r : Reps K H vs ds) (lo hi : Option Int) : Reps K H (cutV vs lo hi) (cutD ds lo hi) := by
  unfold cutV cutD
  rw [r.length, sIxD_eq, sIxD_eq]
  exact (r.drop _).take _
section
variable {X : Cx} {e : Expr} {f : FD} {lo hi : Option Expr} {fl fh : FO} {pos p2 : Pos}
theorem pod_none : POD X none faN := fun pins s σ H Q I ⟨δ, o, R, q, k⟩ => po_none pins s σ H Q I (by cases q; exact k H (Same.refl H))
theorem pod_some (h : PD X e f) : POD X (some e) (faS f) := fun pins s σ H Q I ⟨δ, o, R, q, k⟩ => po_some h pins s σ H Q I (by
  unfold faS at q
  obtain ⟨d, ed, q⟩ := Option.bind_eq_some_iff.mp q
  refine ⟨δ, d, R, ed, fun v H1 s1 r1 => ?_⟩
  cases r1 with
  | int i => cases q; exact ⟨i, rfl, k H1 s1⟩
  | _ => cases q)
theorem pd_slice (he : PD X e f) (hl : POD X lo fl) (hu : POD X hi fh) : PD X (.Subscript e (.Slice lo hi none p2) pos) (fSl f fl fh) := imp (pe_slice sl_list he hl hu) fun σ H Q ⟨δ, d, R, q, k⟩ => by
  unfold fSl at q
  obtain ⟨x, ex, q⟩ := Option.bind_eq_some_iff.mp q
  obtain ⟨ds, eds, q⟩ := Option.bind_eq_some_iff.mp q
  obtain ⟨l, el, q⟩ := Option.bind_eq_some_iff.mp q
  obtain ⟨h, eh, q⟩ := Option.bind_eq_some_iff.mp q
  cases q
  refine ⟨δ, x, R, ex, fun v H1 s1 r1 => ⟨δ, l, R.mono s1, el, fun H2 s2 => ⟨δ, h, (R.mono s1).mono s2, eh, fun H3 s3 => ?_⟩⟩⟩
  have r3 := (r1.mono s2).mono s3
  have fin : ∀ (a : Addr) (vs : List V), SqL X.K H3 a vs → Reps X.K H3 vs ds → rSlL X.K (.ref a) l h H3 Q := fun a vs hq rp => by
    refine ⟨a, vs, rfl, hq, fun p hp => ?_⟩
    have s := same_new hp (.lst (cutV vs l h))
    exact k _ _ (((s1.trans s2).trans s3).trans s) (.lst upd_same ((cut_reps rp l h).mono s))
  cases r3 with
  | @lst p vs es hp rp => cases eds; exact fin p vs (SqL.of hp) rp
  | @seq p vs es hp rp => cases eds; exact fin p vs hp rp
  | _ => cases eds
end

/-! ### a, b, c = a list -/
section
variable {prog : Program} {w : World} {A : Around} {E : Value → Shared → Prop}
end
/-! ### ranges -/
theorem range_ints {K : PySem.W.Frag} {H : Hp} {lo : Int} {n : Nat} : ItD K (Itr lo n) H ((List.range n).map fun (i : Nat) => D.int (lo + (i : Int) * 1)) := by
  intro i H2 s
  refine ⟨fun hi => ?_, fun hi => (show n ≤ i by simpa using hi)⟩
  have hi' : i < n := by simpa using hi
  refine ⟨hi', fun x H' y => ?_⟩
  obtain ⟨e, y⟩ := y
  subst e y
  refine ⟨Same.refl _, .int (lo + (i : Int) * 1), ?_, by rw [Int.mul_one]; exact .int _⟩
  rw [List.getElem?_map, List.getElem?_range hi']
  rfl
theorem pid_range1 {X : Cx} {tg a : Expr} {g : FA} {p pos : Pos} (hg : Gl X "range") (hm : X.mg "range" = none) (ha : PAD X [a] g) (hs : starEach [a] X.env = [(false, eval a X.env)] := by rfl) : PID X tg (.Call (.Name "range" p) [a] [] pos) (srcR g) :=
  impI (pi_range1 hg hm ha hs) fun σ H R ⟨δ, ds, R0, e, k⟩ => by
  unfold srcR at e
  obtain ⟨xs, exs, e⟩ := Option.bind_eq_some_iff.mp e
  refine ⟨δ, xs, R0, exs, fun vs H1 s1 r1 l => ?_⟩
  match xs, r1, e with
  | [.int b], r1, e =>
    obtain ⟨v, rfl, rv⟩ := reps1 r1
    cases rv
    have e' : (if -(2 ^ 62) ≤ b ∧ b < 2 ^ 62 then some (rangeD 0 b 1) else none) = some ds := e
    by_cases hb : -(2 ^ 62) ≤ b ∧ b < 2 ^ 62
    · rw [if_pos hb] at e'
      have e2 : rangeD 0 b 1 = ds := Option.some.inj e'
      refine ⟨b, rfl, hb.1, hb.2, k _ H1 s1 ?_⟩
      have h := range_ints (K := X.K) (H := H1) (lo := 0) (n := b.toNat)
      have e3 : ((b - 0 + 1 - 1) / 1).toNat = b.toNat := by congr 1; omega
      unfold rangeD at e2
      rw [e3] at e2
      rw [← e2]
      exact h
    · rw [if_neg hb] at e'; cases e'
  | [], r1, e => cases r1; cases l
  | _ :: _ :: _, r1, e => 
    have := r1.length
    rw [l] at this
    cases this
  | [.non], r1, e => cases e
  | [.bl _], r1, e => cases e
  | [.str _], r1, e => cases e
  | [.tup _], r1, e => cases e
  | [.lst _], r1, e => cases e
  | [.seq _], r1, e => cases e
  | [.ty _], r1, e => cases e
  | [.dct], r1, e => cases e
  | [.exc _], r1, e => cases e
  | [.cls _], r1, e => cases e
end Dl
namespace Dl
open PySem PySem.Spec PyProof.Rows L2
/-! ### comprehensions: [elt for x in iter] -/
/-- what a block's names are -/
structure CompOk (X : Cx) (scope : Scope) (cl : List (Str × Addr)) (x : Str) (N : List Str) (js : List Nat) : Prop where
  clos : closureFor scope X.env = pure cl
  nocell : ∀ y ∈ scope.names, y.2 ≠ .cell
  kind : scope.kind = .function
  names : ∀ y ∈ scope.names, y.2 = .local → scope.names.lookup y.1 = some .local
  hx : scope.names.lookup x = some .local
  nd : N.Nodup
  h0 : N[0]? = some x
  len : N.length = js.length + 1
  clx : cl.lookup x = none
  cls : ∀ y c, cl.lookup y = some c → X.env.cells.lookup y = some c
  has : ∀ y, ((relabel scope X.env).names.lookup y = some .cell ∨ (relabel scope X.env).names.lookup y = some .free) → ∃ c, cl.lookup y = some c
  fr : ∀ i y j, N[i + 1]? = some y → js[i]? = some j → X.N[j]? = some y ∧ X.env.scope.names.lookup y = some .cell ∧ (relabel scope X.env).names.lookup y = some .cell ∧ ∀ c, X.env.cells.lookup y = some c → cl.lookup y = some c
/-- the block's context -/
abbrev cxComp (X : Cx) (scope : Scope) (cl : List (Str × Addr)) (x : Str) (N : List Str) (C : Addr) (s₂ : Shared) (H₂ : Hp) (fp : List Addr) (pn : List (Addr × Obj)) : Cx :=
  { X with env := compEnvC scope cl C X.env, N := N, s₀ := s₂, H₀ := H₂, outer := X.stack, stack := X.stack, ex := fp, fn := fun y => y == x, calm := true, pn := pn, xe := fun _ _ => False }
section
variable {X : Cx} {pins : List (Addr × Obj)} {σ : L2.St} {H₂ : Hp} {s₂ : Shared} {scope : Scope} {cl : List (Str × Addr)} {x : Str} {N : List Str} {js : List Nat} {C : Addr} {fp : List Addr}
theorem compOk_cx (I : L2.Inv X pins σ H₂ s₂) (hcm : X.calm = true) (O : CompOk X scope cl x N js) (hC : s₂.heap.objs.size ≤ C) (hf : ∀ b ∈ fp, FpOk X pins H₂ b) (ho : ∀ b ∈ fp, ∃ o, s₂.heap.get? b = some o) : (cxComp X scope cl x N C s₂ H₂ fp (X.pn ++ pins)).Ok where
  mod := I.ok.mod
  kind := O.kind
  glob := I.ok.glob
  blt := I.ok.blt
  above := hC
  inj := fun y z c h1 h2 => I.ok.inj y z c (O.cls y c h1) (O.cls z c h2)
  has := fun y h => O.has y h
  cab := fun y c h1 h2 => by
    have e : y = x := by simpa using h1
    subst e
    have : cl.lookup y = some c := h2
    rw [O.clx] at this
    cases this
  hd := fun _ => I.ok.hd hcm
  frames := I.ok.frames
  stk := .inl rfl
  exf := fun b hb => by
    obtain ⟨o, e⟩ := ho b hb
    refine ⟨Nat.ne_of_lt (Nat.lt_of_lt_of_le (Heap.lt_size e) hC), fun y c h z => ?_⟩
    exact (hf b hb).2.2.2.2.1 y c (O.cls y c h) z
  bs := I.bs
  bsz := Nat.le_trans I.ok.bsz I.sz
  noex := fun b o e hb => by
    rcases (hf b hb).2.2.2.1 with z | z
    · exact I.ok.noex b o e z
    · exact absurd (Nat.lt_of_lt_of_le (Heap.lt_size e) (Nat.le_trans I.ok.bsz z)) (Nat.lt_irrefl _)
  exfs := fun b hb z => by
    rcases List.mem_cons.mp (I.stkSub b z) with e | e
    · exact (hf b hb).2.1 e
    · exact (hf b hb).2.2.1 e
  funs := I.stack
  frf := I.stkFree
end

theorem mapO_get {g : D → Option D} : ∀ {ds xs : List D}, mapO g ds = some xs → xs.length = ds.length ∧ ∀ (i : Nat) d, ds[i]? = some d → ∃ e, g d = some e ∧ xs[i]? = some e
  | [], xs, h => by
    cases h
    exact ⟨rfl, fun i d e => by simp at e⟩
  | d :: ds, xs, h => by
    obtain ⟨x, ex, h⟩ := Option.bind_eq_some_iff.mp (show ((g d).bind _) = some xs from h)
    obtain ⟨ys, ey, h⟩ := Option.bind_eq_some_iff.mp h
    cases h
    obtain ⟨h1, h2⟩ := mapO_get ey
    refine ⟨by simp [h1], fun i e he => ?_⟩
    cases i with
    | zero => simp at he; subst he; exact ⟨x, ex, rfl⟩
    | succ i =>
      obtain ⟨z, hz1, hz2⟩ := h2 i e (by simpa using he)
      exact ⟨z, hz1, by simpa using hz2⟩
def slotsV (js : List Nat) (σ : L2.St) : L2.St := js.map fun j => match σ[j]? with
  | some o => o
  | none => none
theorem slots_rep {K : PySem.W.Frag} {H : Hp} {σ : L2.St} {δ : DS} (R : RepS K H σ δ) (js : List Nat) : RepS K H (none :: slotsV js σ) (none :: slotsOf js δ) := by
  refine ⟨by simp [slotsV, slotsOf], fun i d q => ?_⟩
  cases i with
  | zero => simp at q
  | succ i =>
    have q' : (slotsOf js δ)[i]? = some (some d) := by simpa using q
    unfold slotsOf at q'
    rw [List.getElem?_map] at q'
    obtain ⟨j, h1, h2⟩ := Option.map_eq_some_iff.mp q'
    cases h3 : δ[j]? with
    | none => rw [h3] at h2; cases h2
    | some o =>
      rw [h3] at h2
      have h2' : o = some d := h2
      subst h2'
      obtain ⟨v, h4, h5⟩ := R.val j d h3
      refine ⟨v, ?_, h5⟩
      show (slotsV js σ)[i]? = some (some v)
      unfold slotsV
      rw [List.getElem?_map, h1]
      show some (match σ[j]? with | some o => o | none => none) = some (some v)
      rw [h4]
/-- the loop, its items let go first -/
theorem bindF {α β:Type} {M:Model} {A:Around} {m:Sem α} {f:α->Sem β} {Q:α->Shared->Prop} {R:β->Shared->Prop} {E:Value->Shared->Prop} {s:Shared} (h:wpAny M A m Q (fun _ _=>False) s) (k:∀ a s',Q a s'->wpAny M A (f a) R E s'):wpAny M A (m>>=f) R E s:=wpAny_bind (wpAny_mono h k fun _ _=>False.elim)
theorem compLoop_own {prog : Program} {w : World} {A : Around} {R : Result → Shared → Prop} {s : Shared} {elt target iter : Expr} {scope : Scope} {pos : Pos} {it acc : Value} {env : Env} (J : Nat → Shared → Prop)
    (turn : ∀ n s, J n s → wpAny (model prog w) A (pyNext it) (fun r s₁ => match r with
      | none => R (.ok .next) s₁
      | some v => wpAny (model prog w) A (letOwnedTupleGo target it v) (fun _ s₂ => wpAny (model prog w) A (assign target env v) (fun _ s₃ => wpAny (model prog w) A (eval elt env) (fun y s₄ =>
          wpAny (model prog w) A (call (.builtin "list.append") [acc, y]) (fun _ s₅ => ∃ m, m < n ∧ J m s₅) (fun _ _ => False) s₄) (fun _ _ => False) s₃) (fun _ _ => False) s₂) (fun _ _ => False) s₁) (fun _ _ => False) s)
    (n : Nat) (h : J n s) : codeAny (model prog w) A (.compLoop (.ListComp elt [⟨target, iter, [], 0⟩] scope pos) 0 it acc env) R s := by
 refine codeAny_loop rfl J (fun n s j=>wpAny_noted (m:=compTurn (.ListComp elt [⟨target,iter,[],0⟩] scope pos) 0 it acc env) (compTurn_list1 elt target iter scope pos it acc env▸wpAny_bind (wpAny_standAt (bindF (turn n s j) fun r _ q=>?_)))) n h
 cases r with
 | none=>exact wpAny_pure q
 | some v=>
  exact bindF q fun _ _ q=>bindF q fun _ _ q=>wpAny_bind (bindF q fun _ _ q=>bindF q fun _ _ q=>wpAny_pure (wpAny_pure ⟨rfl,q⟩))
section
variable {X : Cx} {pins : List (Addr × Obj)} {σ : L2.St} {H₂ : Hp} {s₂ : Shared} {scope : Scope} {cl : List (Str × Addr)} {x : Str} {N : List Str} {js : List Nat} {C : Addr} {fp : List Addr}
theorem notIn_stack (I : L2.Inv X pins σ H₂ s₂) {a : Addr} (h : s₂.heap.objs.size ≤ a) : a ∉ frs X.stack := fun z => by
  rcases List.mem_cons.mp (I.stkSub a z) with e | e
  · exact absurd (Nat.lt_of_lt_of_le I.lt (by rw [← e]; exact h)) (Nat.lt_irrefl _)
  · exact I.nofs h e
/-- the block at its start -/
theorem comp_start {h₁ : Heap} {m : Str → Option Value} {tk : Nat} (I : L2.Inv X pins σ H₂ s₂) (hcm : X.calm = true) (O : CompOk X scope cl x N js) (hC : s₂.heap.objs.size ≤ C) (hf : ∀ b ∈ fp, FpOk X pins H₂ b) (ho : ∀ b ∈ fp, ∃ o, s₂.heap.get? b = some o)
    (old : ∀ b o, s₂.heap.get? b = some o → h₁.get? b = some o) (hns : h₁.Ns C m) (hl : σ.length = X.N.length) : L2.Inv (cxComp X scope cl x N C s₂ H₂ fp (X.pn ++ pins)) [] (none :: slotsV js σ) H₂ { s₂ with heap := h₁, toks := tk } where
  ok := compOk_cx I hcm O hC hf ho
  os := rfl
  bare := I.bare
  base := Un.kept old
  loc := by
    refine ⟨m, hns, fun i y v h1 h2 h3 => ?_⟩
    cases i with
    | zero => simp at h2
    | succ i =>
      have h2' : (slotsV js σ)[i]? = some (some v) := by simpa using h2
      unfold slotsV at h2'
      rw [List.getElem?_map] at h2'
      obtain ⟨j, hj, h4⟩ := Option.map_eq_some_iff.mp h2'
      have h5 : σ[j]? = some (some v) := by
        cases q : σ[j]? with
        | none => rw [q] at h4; cases h4
        | some o => rw [q] at h4; exact congrArg some h4
      obtain ⟨f1, f2, f3, f4⟩ := O.fr i y j h1 hj
      obtain ⟨m', hn', hl'⟩ := I.loc
      obtain ⟨u, ru, lk⟩ := hl' j y v f1 h5 (.inr (.inl f2))
      refine ⟨u, ru, ?_⟩
      rcases lk with ⟨k1, _⟩ | ⟨_, c, hc, o, hco, hcd⟩
      · have : X.env.scope.names.lookup y = some .local := k1
        rw [f2] at this
        cases this
      · exact .inr ⟨.inl f3, c, f4 c hc, o, old c o hco, hcd⟩
  cell := fun y c e => by
    obtain ⟨v, o, h1, h2⟩ := I.cell y c (O.cls y c e)
    exact ⟨v, o, old c o h1, h2⟩
  free := I.hok.fresh hC
  freeC := fun y c e => I.freeC y c (O.cls y c e)
  pin := fun p hp => by
    have hp' : p ∈ X.pn ++ pins := by simpa using hp
    obtain ⟨h1, h2, h3, h4, h5⟩ := I.pin p hp'
    refine ⟨old _ _ h1, h2, Nat.ne_of_lt (Nat.lt_of_lt_of_le (Heap.lt_size h1) hC), fun z => ?_, h5⟩
    rcases List.mem_cons.mp (I.stkSub p.1 z) with e | e
    · exact h3 e
    · exact h4 e
  hok := I.hok.kept old
  len := by
    show (none :: slotsV js σ).length = N.length
    rw [O.len]
    simp [slotsV]
/-- the whole block: a new list of what the items become -/
theorem comp_block {elt iter : Expr} {px pos : Pos} {it : Addr} {tn : Nat → Heap → Prop} {J : It} {ds xs : List D} {δ : DS} {felt : FD} {RR : Value → Addr → Result → Shared → Prop} {E : Value → Shared → Prop} (I : L2.Inv X pins σ H₂ s₂) (hcm : X.calm = true) (O : CompOk X scope cl x N js)
    (T : Turn X.prog X.w X.K (.Name x px) J fp it tn) (st : tn 0 s₂.heap) (hf : ∀ b ∈ fp, FpOk X pins H₂ b) (itd : ItD X.K J H₂ ds) (R : RepS X.K H₂ σ δ) (he : ∀ C s₂ H₂ fp pn, PD (cxComp X scope cl x N C s₂ H₂ fp pn) elt felt)
    (hm : mapO (fun d => felt (some d :: slotsOf js δ)) ds = some xs) (hz : xs.length ≤ 1000)
    (hRR : ∀ (D C : Addr) (s' : Shared) (Hend : Hp) (vs : List V), s₂.heap.objs.size ≤ C → L2.Inv X pins σ Hend s' → Same H₂ Hend → Hend D = some (.lst vs) → Reps X.K Hend vs xs → (∃ m, s'.heap.Ns C m) → Hend C = none → RR (.ref D) C (.ok .next) s') :
    wpAny (model X.prog X.w) X.A (newList []) (fun acc s₃ => wpAny (model X.prog X.w) X.A (newFunctionEnv scope X.env.globals cl [] X.env.qual none .none (some X.env)) (fun cenv s₄ =>
      codeAny (model X.prog X.w) X.A (.compStart (.ListComp elt [⟨.Name x px, iter, [], 0⟩] scope pos) 0 (.ref it) acc { cenv with scope := relabel scope X.env }) (RR acc cenv.locals) s₄) E s₃) E s₂ := by
  obtain ⟨ml, mg'⟩ := mapO_get hm
  have objs := T.obj 0 s₂.heap st
  have objs' : ∀ b ∈ fp, ∃ o, s₂.heap.get? b = some o := fun b hb => let ⟨o, h, _⟩ := objs b hb; ⟨o, h⟩
  refine wpAny_newObj_type (wpAny_newFunctionEnv O.nocell (by intro y hy; simp at hy) (fun h₁ hns₁ hsb₁ => ?_) O.kind)
  dsimp only at hns₁ hsb₁ ⊢
  generalize hP : s₂.heap.push { cls := .type "list", dict := none, data := .seq ([] : List Value).toArray } = P2 at hns₁ hsb₁ ⊢
  have hC : P2.objs.size = s₂.heap.objs.size + 1 := by rw [← hP, Heap.size_push]
  generalize hCC : P2.objs.size = C at *
  have hCle : s₂.heap.objs.size ≤ C := by omega
  have hDle : s₂.heap.objs.size ≤ s₂.heap.objs.size := by omega
  have hDC : s₂.heap.objs.size ≠ C := by omega
  have old : ∀ b o, s₂.heap.get? b = some o → h₁.get? b = some o := fun b o e => by
    refine hsb₁.extBut b o (Nat.ne_of_lt (Nat.lt_of_lt_of_le (Heap.lt_size e) hCle)) (Heap.get?_push_of_some _ ?_)
    rw [← hP]
    exact Heap.get?_push_of_some _ e
  have hacc : h₁.get? s₂.heap.objs.size = some { cls := .type "list", data := .seq ([] : List Value).toArray } := by
    refine hsb₁.extBut s₂.heap.objs.size _ hDC (Heap.get?_push_of_some _ ?_)
    rw [← hP]
    exact Heap.get?_push_size _ rfl
  have I0 := fun tk => comp_start (C := C) (tk := tk) I hcm O hCle hf objs' old hns₁ I.len
  have dstk : s₂.heap.objs.size ∉ frs X.stack := notIn_stack I hDle
  have fne : ∀ b ∈ fp, b ≠ s₂.heap.objs.size := fun b hb e => by
    obtain ⟨o, h⟩ := objs' b hb
    exact absurd (Heap.lt_size h) (by rw [e]; exact Nat.lt_irrefl _)
  have cne : ∀ y c, cl.lookup y = some c → c ≠ s₂.heap.objs.size := fun y c e z => by
    obtain ⟨v, o, h1, _⟩ := I.cell y c (O.cls y c e)
    exact absurd (Heap.lt_size h1) (by rw [z]; exact Nat.lt_irrefl _)
  have pne : ∀ p ∈ X.pn ++ pins, p.1 ≠ s₂.heap.objs.size := fun p hp e => by
    exact absurd (Heap.lt_size (I.pin p hp).1) (by rw [e]; exact Nat.lt_irrefl _)
  -- what the iterator's records keep
  have stat : ∀ {H' : Hp} {pl : List (Addr × Obj)}, (∀ b ∈ fp, H' b = none) → (∀ p ∈ pl, ∀ b ∈ fp, p.1 ≠ b) → ∀ b ∈ fp, FpOk (cxComp X scope cl x N C s₂ H₂ fp (X.pn ++ pins)) pl H' b := fun {H' pl} hn hpl b hb => by
    obtain ⟨o, h⟩ := objs' b hb
    refine ⟨hn b hb, Nat.ne_of_lt (Nat.lt_of_lt_of_le (Heap.lt_size h) hCle), fun z => ?_, .inl hb, fun y c e => (hf b hb).2.2.2.2.1 y c (O.cls y c e), fun p hp => ?_⟩
    · rcases List.mem_cons.mp (I.stkSub b z) with e | e
      · exact (hf b hb).2.1 e
      · exact (hf b hb).2.2.1 e
    · rcases List.mem_append.mp hp with q | q
      · exact (hf b hb).2.2.2.2.2 p q
      · exact hpl p q b hb
  have loop : ∀ s₃ : Shared, s₃ = { s₂ with heap := h₁, toks := s₂.toks + ([] : List (Str × Value)).length } →
      codeAny (model X.prog X.w) X.A (.compLoop (.ListComp elt [⟨.Name x px, iter, [], 0⟩] scope pos) 0 (.ref it) (.ref s₂.heap.objs.size) (compEnvC scope cl C X.env)) (RR (.ref s₂.heap.objs.size) C) s₃ := by
    rintro s₃ rfl
    refine compLoop_own (fun n s => ∃ (i : Nat) (σ' : L2.St) (H' : Hp) (vs : List V) (o : Option D), n = ds.length - i ∧ i ≤ ds.length ∧ L2.Inv (cxComp X scope cl x N C s₂ H₂ fp (X.pn ++ pins)) [] σ' H' s ∧ Same H₂ H' ∧ RepS X.K H' σ' (o :: slotsOf js δ) ∧ tn i s.heap ∧ (∀ b ∈ fp, H' b = none) ∧
      (∃ (its : List Value) (k : Nat), Vals vs its ∧ s.heap.get? s₂.heap.objs.size = some { cls := .type "list", data := .seq its.toArray k }) ∧ H' s₂.heap.objs.size = none ∧ Reps X.K H' vs (xs.take i) ∧ vs.length = i) ?_ ds.length
      ⟨0, _, H₂, [], none, rfl, Nat.zero_le _, I0 _, Same.refl _, slots_rep R js, T.keep 0 _ _ st (fun b hb o e => old b o e), fun b hb => (hf b hb).1, ⟨[], 0, .nil, hacc⟩, I.hok.fresh hDle, .nil, rfl⟩
    rintro n s ⟨i, σ', H', vs, o, rfl, hi, I', sm, R', st', fr', ⟨its, k, rv, hD⟩, fD, rr, hl⟩
    by_cases hlt : i < ds.length
    · -- one more
      obtain ⟨go, yl⟩ := (itd i H' sm).1 hlt
      have hd0 : ds[i]? = some ds[i] := by simp [hlt]
      obtain ⟨e, ge, xe⟩ := mg' i _ hd0
      have I1 : L2.Inv (cxComp X scope cl x N C s₂ H₂ fp (X.pn ++ pins)) [(s₂.heap.objs.size, { cls := .type "list", data := .seq its.toArray k })] σ' H' s := I'.pins_of fun p hp => by
        have : p = (s₂.heap.objs.size, { cls := .type "list", data := .seq its.toArray k }) := by simpa using hp
        subst this
        exact ⟨hD, fD, hDC, dstk, fun v z => by cases z⟩
      refine thn (T.item (cxComp X scope cl x N C s₂ H₂ fp (X.pn ++ pins)) rfl rfl rfl rfl i _ s σ' H' (fun _ _ => False) I1 (stat fr' fun p hp b hb => by
        have : p = (s₂.heap.objs.size, { cls := .type "list", data := .seq its.toArray k }) := by simpa using hp
        subst this
        exact (fne b hb).symm) st' go) fun r s1 ⟨u, hr, h4⟩ => ?_
      subst hr
      refine thn h4 fun _ s2 ⟨y, H'', I2, ru, yy, st2, fr2⟩ => ?_
      obtain ⟨s3, d, hd, rd⟩ := yl y H'' yy
      have hd' : d = ds[i] := by rw [hd0] at hd; exact (Option.some.inj hd).symm
      subst hd'
      have I3 := I2.pinned (stat fr2 fun p hp b hb => by
        have : p = (s₂.heap.objs.size, { cls := .type "list", data := .seq its.toArray k }) := by simpa using hp
        subst this
        exact (fne b hb).symm) (T.obj _ _ st2)
      refine thn (pg_name (X := cxComp X scope cl x N C s₂ H₂ fp (X.pn ++ pins)) (i := 0) O.nd O.h0 (.inl (lookup_relabel_local O.hx)) (.inl (by simp)) _ s2 σ' H'' y u (fun σ4 H4 => σ4 = σ'.set 0 (some y) ∧ H4 = H'') I3 ru ⟨rfl, rfl⟩) fun _ s4 ⟨σ4, H4, I4, e1, e2⟩ => ?_
      subst e1 e2
      have R4 : RepS X.K H4 (σ'.set 0 (some y)) (some ds[i] :: slotsOf js δ) := (R'.mono s3).set 0 rd
      refine thn (he C s₂ H₂ fp (X.pn ++ pins) _ s4 (σ'.set 0 (some y)) H4 (fun v H5 => Same H4 H5 ∧ Rep X.K H5 v e) I4 ⟨_, e, R4, ge, fun v H5 s5 r5 => ⟨s5, r5⟩⟩) fun wv s5 ⟨v, H5, I5, rw5, s45, r5⟩ => ?_
      have hD5 : s5.heap.get? s₂.heap.objs.size = some { cls := .type "list", data := .seq its.toArray k } := (I5.pin (s₂.heap.objs.size, { cls := .type "list", data := .seq its.toArray k }) (by simp)).1
      have fD5 : H5 s₂.heap.objs.size = none := (I5.pin (s₂.heap.objs.size, { cls := .type "list", data := .seq its.toArray k }) (by simp)).2.1
      have pf : ∀ b ∈ fp, ∀ ob, s2.heap.get? b = some ob → s5.heap.get? b = some ob ∧ H5 b = none := fun b hb ob hob => by
        have := I5.pin (b, ob) (List.mem_append_right _ (List.mem_append_right _ (mem_pinsAt hb hob)))
        exact ⟨this.1, this.2.1⟩
      have lz : its.length ≤ 1000 := by
        have := rv.length
        omega
      refine call_meets F.slot_list_append ⟨_, hD5, rfl⟩ F.entry_list_append (F.args_list_append_2 _ _) (PySem.list_append s₂.heap.objs.size its.toArray k wv (by rw [List.size_toArray]; exact le_line lz)) ⟨hD5, ?_⟩
      have q := PySem.IsL.update hD5 (fun a => a.push wv)
      have I6 : L2.Inv (cxComp X scope cl x N C s₂ H₂ fp (X.pn ++ pins)) [] (σ'.set 0 (some y)) H5 { s5 with heap := s5.heap.update s₂.heap.objs.size (Obj.mapSeq fun a => a.push wv), toks := s5.toks } :=
        (I5.pins_of (pins' := []) fun p hp => by simp at hp).turned (it := s₂.heap.objs.size) (t' := s5.toks) (fun b ob hb hu => (Heap.get?_update_other s5.heap _ (Ne.symm hb)).trans hu) fD5 hDC (.inr hDle) cne (fun p hp => by
          rcases List.mem_append.mp hp with z | z
          · exact pne p z
          · simp at z)
      refine ⟨ds.length - (i + 1), by omega, i + 1, σ'.set 0 (some y), H5, vs ++ [v], some ds[i], rfl, hlt, I6, (sm.trans s3).trans s45, R4.mono s45, ?_, ?_, ?_, fD5, ?_, by simp [hl]⟩
      · refine T.keep _ _ _ st2 fun b hb ob hob => ?_
        exact (Heap.get?_update_other s5.heap _ (Ne.symm (fne b hb))).trans (pf b hb ob hob).1
      · intro b hb
        obtain ⟨ob, hob, _⟩ := T.obj _ _ st2 b hb
        exact (pf b hb ob hob).2
      · have hf7 : its.toArray.push wv = (its ++ [wv]).toArray := by simp
        rw [hf7] at q
        exact ⟨its ++ [wv], _, rv.append (.cons rw5 .nil), q⟩
      · have e8 : xs.take (i + 1) = xs.take i ++ [e] := by
          rw [List.take_add_one, xe]; rfl
        rw [e8]
        exact ((rr.mono s3).mono s45).append (.cons r5 .nil)
    · -- the end
      have hie : i = ds.length := by omega
      refine thn (T.done (cxComp X scope cl x N C s₂ H₂ fp (X.pn ++ pins)) rfl rfl rfl rfl i [(s₂.heap.objs.size, { cls := .type "list", data := .seq its.toArray k })] s σ' H' (fun _ _ => False) (I'.pins_of fun p hp => by
        have : p = (s₂.heap.objs.size, { cls := .type "list", data := .seq its.toArray k }) := by simpa using hp
        subst this
        exact ⟨hD, fD, hDC, dstk, fun v z => by cases z⟩) (stat fr' fun p hp b hb => by
        have : p = (s₂.heap.objs.size, { cls := .type "list", data := .seq its.toArray k }) := by simpa using hp
        subst this
        exact (fne b hb).symm) st' ((itd i H' sm).2 (by omega))) fun r s1 ⟨hr, I8⟩ => ?_
      subst hr
      have hD8 : s1.heap.get? s₂.heap.objs.size = some { cls := .type "list", data := .seq its.toArray k } := (I8.pin (s₂.heap.objs.size, { cls := .type "list", data := .seq its.toArray k }) (by simp)).1
      have hxs : xs.take i = xs := List.take_of_length_le (by omega)
      rw [hxs] at rr
      have sn := same_new fD (.lst vs)
      have dn : ∀ b, ∀ u, H' b = some u → b ≠ s₂.heap.objs.size := fun b u z => ne_of_none z fD
      have un : Un (frs X.stack) fp H₂ (upd H' s₂.heap.objs.size (.lst vs)) s₂.heap s1.heap := by
        have b0 := I8.base
        refine ⟨fun b ob e n1 n2 n3 => b0.keep b ob e n1 n2 n3, fun b ob e n1 n2 n3 => b0.slot b ob e n1 n2 n3, fun b ob e n1 n3 => ?_, fun b ob e n3 => b0.there b ob e n3, fun b zs e => ?_, fun b ob u e => ?_, fun b ps e => ?_⟩
        · rw [upd_ne (Nat.ne_of_lt (Heap.lt_size e))]
          exact b0.free b ob e n1 n3
        · have z := b0.tups b zs e
          rw [upd_ne (dn _ _ z)]
          exact z
        · have z := b0.frzs b ob u e
          rw [upd_ne (dn _ _ z)]
          exact z
        · obtain ⟨more, z⟩ := b0.tbls b ps e
          exact ⟨more, by rw [upd_ne (dn _ _ z)]; exact z⟩
      have hok : HOk X.prog X.w (upd H' s₂.heap.objs.size (.lst vs)) s1.heap := fun b u z => by
        by_cases hb : b = s₂.heap.objs.size
        · rw [hb] at z ⊢
          rw [upd_same] at z
          cases z
          exact ⟨le_line (by omega), its, k, rv, hD8⟩
        · rw [upd_ne hb] at z
          exact (I8.hok b u z).stay (fun _ _ _ q => q) (fun c q => by rw [upd_ne (dn _ _ q)]; exact q) fun c ys q => by rw [upd_ne (dn _ _ q)]; exact q
      have IX : L2.Inv X pins σ (upd H' s₂.heap.objs.size (.lst vs)) s1 := I.call' I8.os un hok I8.bare fun b hb => ⟨(hf b hb).2.2.2.1, (hf b hb).2.1, (hf b hb).2.2.2.2.1, (hf b hb).2.2.2.2.2⟩
      obtain ⟨m8, hn8, _⟩ := I8.loc
      refine hRR s₂.heap.objs.size C s1 _ vs hCle IX (sm.trans sn) upd_same (rr.mono sn) ⟨m8, hn8⟩ ?_
      rw [upd_ne (Ne.symm hDC)]
      exact I8.free
  exact codeAny_compStart_list (loop _ rfl) (T.self X.A 0 _ _ _ (T.keep 0 _ _ st (fun b hb o e => old b o e)) (loop _ rfl))
theorem inv_letgo {C : Addr} {h' : Heap} {s' : Shared} {Hend : Hp} (I : L2.Inv X pins σ Hend s') (I0 : L2.Inv X pins σ H₂ s₂) (hC : s₂.heap.objs.size ≤ C) (fC : Hend C = none) (hs : Heap.SameBut C s'.heap h') : L2.Inv X pins σ Hend { s' with heap := h' } :=
  I.turned (it := C) (t' := s'.toks) (fun b o hb e => (hs.2 b hb).trans e) fC (Nat.ne_of_gt (Nat.lt_of_lt_of_le I0.lt hC)) (.inr (Nat.le_trans I0.sz hC))
    (fun y c e z => by
      obtain ⟨v, o, h1, _⟩ := I0.cell y c e
      exact absurd (Nat.lt_of_lt_of_le (Heap.lt_size h1) (by rw [z]; exact hC)) (Nat.lt_irrefl _))
    (fun p hp z => absurd (Nat.lt_of_lt_of_le (Heap.lt_size (I0.pin p hp).1) (by rw [z]; exact hC)) (Nat.lt_irrefl _))
/-- [elt for x in iter], as a value -/
theorem pd_comp {elt iter : Expr} {px pos : Pos} {src : FA} {felt : FD} (hi : PID X (.Name x px) iter src) {N : List Str} {js : List Nat} (he : ∀ C s₂ H₂ fp pn, PD (cxComp X scope cl x N C s₂ H₂ fp pn) elt felt) (O : CompOk X scope cl x N js) (hcm : X.calm = true := by rfl)
    (hs : ∀ v, foldedSetIterable iter X.env v = pure v := by intro _; rfl) : PD X (.ListComp elt [⟨.Name x px, iter, [], 0⟩] scope pos) (fComp src js felt) := by
  intro pins s σ H Q I ⟨δ, d, R, q, k⟩
  unfold fComp at q
  obtain ⟨ds, eds, q⟩ := Option.bind_eq_some_iff.mp q
  obtain ⟨xs, exs, q⟩ := Option.bind_eq_some_iff.mp q
  by_cases hz : xs.length ≤ 1000
  · rw [if_pos hz] at q
    cases q
    rw [eval_ListComp]
    refine wpAny_comprehension_free (use := none) rfl hs O.clos O.kind O.names ?_
    refine wpAny_mono (hi pins s σ H (fun J H1 => Same H H1 ∧ ItD X.K J H1 ds) I ⟨δ, ds, R, eds, fun J H1 s1 itd => ⟨s1, itd⟩⟩) (fun v s1 h1 => wpAny_mono h1 (fun itv s2 h2 => ?_) fun _ _ z => z) fun _ _ z => z
    obtain ⟨it, fp, tn, J, H2, rfl, I2, T, st, hf, s1, itd⟩ := h2
    refine comp_block (RR := fun acc C => compPost (model X.prog X.w) X.A X.xe none (EP X pins σ Q) acc C) I2 hcm O T st hf itd (R.mono s1) he exs hz ?_
    intro D C s' Hend vs hC IX sm hD rr ⟨m, hn⟩ fC
    exact ⟨m, hn, fun h' hs' => ⟨.ref D, Hend, inv_letgo IX I2 hC fC hs', rfl, k _ _ (s1.trans sm) (.lst hD rr)⟩⟩
  · rw [if_neg hz] at q; cases q
end
end Dl
namespace Dl
open PySem PySem.Spec PyProof.Rows L2
/-- a block that takes one name from around it -/
theorem CompOk.one {X : Cx} {scope : Scope} {c : Addr} {x z : Str} {j : Nat} (clos : closureFor scope X.env = pure [(z, c)] := by rfl) (nocell : ∀ y ∈ scope.names, y.2 ≠ .cell := by decide +kernel) (kind : scope.kind = .function := by rfl)
    (names : ∀ y ∈ scope.names, y.2 = .local → scope.names.lookup y.1 = some .local := by decide +kernel) (hx : scope.names.lookup x = some .local := by rfl) (hne : x ≠ z := by decide +kernel) (hcell : X.env.cells.lookup z = some c := by rfl)
    (hfr : ∀ p ∈ scope.names, p.2 = .free → p.1 = z := by decide +kernel) (hj : X.N[j]? = some z := by rfl) (hk : X.env.scope.names.lookup z = some .cell := by rfl) (hk' : (relabel scope X.env).names.lookup z = some .cell := by rfl) : CompOk X scope [(z, c)] x [x, z] [j] where
  clos := clos
  nocell := nocell
  kind := kind
  names := names
  hx := hx
  nd := by simp [hne]
  h0 := rfl
  len := rfl
  clx := by
    show List.lookup x [(z, c)] = none
    have q : (x == z) = false := beq_eq_false_iff_ne.mpr hne
    rw [List.lookup_cons, q]
    rfl
  cls := fun y a h => by
    have h' : List.lookup y [(z, c)] = some a := h
    by_cases hy : y = z
    · subst hy
      simp at h'
      subst h'
      exact hcell
    · have q : (y == z) = false := beq_eq_false_iff_ne.mpr hy
      rw [List.lookup_cons, q] at h'
      cases h'
  has := fun y h => by
    have key : ∀ k, (k = NameKind.cell ∨ k = NameKind.free) → (relabel scope X.env).names.lookup y = some k → y = z := fun k hk h => by
      have m := PySem.mem_of_lookup h
      unfold relabel at m
      obtain ⟨⟨n, k'⟩, m1, m2⟩ := List.mem_map.mp m
      dsimp only at m2
      have hk1 : k' = NameKind.free := by
        split at m2
        · rename_i hc
          rw [Bool.and_eq_true, Bool.and_eq_true] at hc
          exact beq_iff_eq.mp hc.1.1
        · have e : k' = k := congrArg Prod.snd m2
          rcases hk with z1 | z1
          · exact absurd (e.trans z1) (nocell _ m1)
          · exact e.trans z1
      have hn : n = y := by split at m2 <;> exact congrArg Prod.fst m2
      rw [← hn]
      exact hfr _ m1 hk1
    have e : y = z := by
      rcases h with h | h
      · exact key _ (.inl rfl) h
      · exact key _ (.inr rfl) h
    subst e
    exact ⟨c, by simp⟩
  fr := fun i y k h1 h2 => by
    cases i with
    | zero =>
      have e1 : z = y := Option.some.inj h1
      have e2 : j = k := Option.some.inj h2
      subst e1 e2
      refine ⟨hj, hk, hk', fun a ha => ?_⟩
      rw [hcell] at ha
      cases ha
      simp
    | succ i => cases h2
end Dl
namespace Dl
open PySem PySem.Spec PyProof.Rows L2
/-! ### range(a, b, 2) -/
/-! ### min, is of truths -/
end Dl
namespace Dl
open PySem PySem.Spec PyProof.Rows L2
/-! ### raising: a class of the text's own, its object -/
/-! ### defs that may raise -/
section
variable {P : Program} {w : World} {K : PySem.W.Frag} {mg : Str → Option Value} {base : Heap}
end
/-! ### classes as values, {} , is not of truths -/
section
variable {X : Cx} {a b : Expr} {fa fb : FD} {pos : Pos}
end
end Dl
namespace Dl
open PySem PySem.Spec PyProof.Rows L2
/-! ### isinstance of an exception -/
/-! ### try .. except C as e -/
section
variable {X : Cx} {pins : List (Addr × Obj)} {σ : L2.St} {H H₀ H' : Hp} {s s' : Shared} {B : Heap} {x C t : Addr}
end
section
variable {X : Cx} {pins : List (Addr × Obj)} {σ : L2.St} {H : Hp} {s : Shared} {h' : Heap}
end
abbrev Cx.within (X : Cx) (x : Addr) : Cx := { X with A := X.A.mark (some (.ref x)), calm := false, xe := fun _ _ => False }
abbrev Cx.tried (X : Cx) (W : Value → Shared → Prop) (pn : List (Addr × Obj)) : Cx := { X with xe := W, pn := pn }
end Dl

namespace Dl
open PySem PySem.Spec PyProof.Rows L2
/-! ### lists that are changed: lst is an owned list, seq a shared one that stays -/
mutual
def imm : D → Bool
  | .tup ds => imms ds
  | .lst _ => false
  | .seq _ => false
  | _ => true
def imms : List D → Bool
  | [] => true
  | d :: ds => imm d && imms ds
end
mutual
/-- no shared list within -/
def own : D → Bool
  | .tup ds => owns ds
  | .lst ds => owns ds
  | .seq _ => false
  | _ => true
def owns : List D → Bool
  | [] => true
  | d :: ds => own d && owns ds
end
mutual
/-- as it is seen by others: shared -/
def sh : D → D
  | .tup ds => .tup (shs ds)
  | .lst ds => .seq (shs ds)
  | .seq ds => .seq (shs ds)
  | d => d
def shs : List D → List D
  | [] => []
  | d :: ds => sh d :: shs ds
end
theorem shs_map : ∀ (ds : List D), shs ds = ds.map sh
  | [] => rfl
  | d :: ds => by rw [shs, shs_map ds]; rfl
mutual
theorem sh_sh : ∀ (d : D), sh (sh d) = sh d
  | .non => rfl
  | .bl _ => rfl
  | .int _ => rfl
  | .str _ => rfl
  | .ty _ => rfl
  | .dct => rfl
  | .exc _ => rfl
  | .cls _ => rfl
  | .tup ds => by rw [sh, sh, shs_shs ds]
  | .lst ds => by rw [sh, sh, shs_shs ds]
  | .seq ds => by rw [sh, sh, shs_shs ds]
theorem shs_shs : ∀ (ds : List D), shs (shs ds) = shs ds
  | [] => rfl
  | d :: ds => by rw [shs, shs, sh_sh d, shs_shs ds]
end
/-- all but lists stays -/
def KeepI (H H' : Hp) : Prop := ∀ a u, H a = some u → (∀ vs, u ≠ .lst vs) → H' a = some u
theorem same_keepI {H H' : Hp} (s : Same H H') : KeepI H H' := fun a u e _ => s a u e
theorem keep_upd {H : Hp} {a : Addr} {vs : List V} {o : HO} (h : H a = some (.lst vs)) : KeepI H (upd H a o) := fun b u e n => by
  by_cases hb : b = a
  · subst hb; rw [h] at e; cases e; exact absurd rfl (n vs)
  · rw [upd_ne hb]; exact e
theorem sqT_keep {K : PySem.W.Frag} {H H' : Hp} {a : Addr} {xs : List V} (k : KeepI H H') (h : SqT K H a xs) : SqT K H' a xs := by
  rcases h with (h | ⟨o, h⟩) | h
  · exact .inl (.inl (k _ _ h (fun _ z => nomatch z)))
  · exact .inl (.inr ⟨o, k _ _ h (fun _ z => nomatch z)⟩)
  · exact .inr h
mutual
theorem rep_keep {K : PySem.W.Frag} {H H' : Hp} (k : KeepI H H') : ∀ {v : V} {d : D}, Rep K H v d → imm d = true → Rep K H' v d
  | _, _, .non, _ => .non
  | _, _, .bl b, _ => .bl b
  | _, _, .int i, _ => .int i
  | _, _, .str x, _ => .str x
  | _, _, .ty n, _ => .ty n
  | _, _, .tup h r, i => .tup (sqT_keep k h) (reps_keep k r (by rw [imm] at i; exact i))
  | _, _, .lst h r, i => by rw [imm] at i; cases i
  | _, _, .seq h r, i => by rw [imm] at i; cases i
  | _, _, .dct h, _ => .dct (k _ _ h (fun _ z => nomatch z))
  | _, _, .exc h, _ => .exc (k _ _ h (fun _ z => nomatch z))
  | _, _, .cls C, _ => .cls C
theorem reps_keep {K : PySem.W.Frag} {H H' : Hp} (k : KeepI H H') : ∀ {vs : List V} {ds : List D}, Reps K H vs ds → imms ds = true → Reps K H' vs ds
  | _, _, .nil, _ => .nil
  | _, _, .cons r t, i => by
    rw [imms, Bool.and_eq_true] at i
    exact .cons (rep_keep k r i.1) (reps_keep k t i.2)
end
mutual
/-- shared, as it stands -/
theorem rep_sh {K : PySem.W.Frag} {H : Hp} : ∀ {v : V} {d : D}, Rep K H v d → Rep K H v (sh d)
  | _, _, .non => .non
  | _, _, .bl b => .bl b
  | _, _, .int i => .int i
  | _, _, .str x => .str x
  | _, _, .ty n => .ty n
  | _, _, .tup h r => by rw [sh]; exact .tup h (reps_sh r)
  | _, _, .lst h r => by rw [sh]; exact .seq (SqL.of h) (reps_sh r)
  | _, _, .seq h r => by rw [sh]; exact .seq h (reps_sh r)
  | _, _, .dct h => .dct h
  | _, _, .exc h => .exc h
  | _, _, .cls C => .cls C
theorem reps_sh {K : PySem.W.Frag} {H : Hp} : ∀ {vs : List V} {ds : List D}, Reps K H vs ds → Reps K H vs (shs ds)
  | _, _, .nil => .nil
  | _, _, .cons r t => by rw [shs]; exact .cons (rep_sh r) (reps_sh t)
end
mutual
/-- v stands for d; F: the part of the heap that stays; A: the owned lists within -/
inductive RepO (K : PySem.W.Frag) (F H : Hp) : V → D → List Addr → Prop
  | imm {v : V} {d : D} (i : imm d = true) (h : Rep K H v d) : RepO K F H v d []
  | shr {v : V} {ds : List D} (h : Rep K F v (.seq ds)) : RepO K F H v (.seq ds) []
  | tup {a : Addr} {vs : List V} {ds : List D} {A : List Addr} (h : SqT K H a vs) (r : RepOs K F H vs ds A) : RepO K F H (.ref a) (.tup ds) A
  | lst {a : Addr} {vs : List V} {ds : List D} {A : List Addr} (h : H a = some (.lst vs)) (n : F a = none) (r : RepOs K F H vs ds A) : RepO K F H (.ref a) (.lst ds) (a :: A)
inductive RepOs (K : PySem.W.Frag) (F H : Hp) : List V → List D → List Addr → Prop
  | nil : RepOs K F H [] [] []
  | cons {v : V} {d : D} {vs : List V} {ds : List D} {A B C : List Addr} (r : RepO K F H v d A) (t : RepOs K F H vs ds B) (e : C = A ++ B) : RepOs K F H (v :: vs) (d :: ds) C
end
section
variable {K : PySem.W.Frag} {F H F' H' : Hp}
mutual
theorem RepO.rep (s : Same F H) : ∀ {v : V} {d : D} {A : List Addr}, RepO K F H v d A → Rep K H v d
  | _, _, _, .imm _ h => h
  | _, _, _, .shr h => h.mono s
  | _, _, _, .tup h r => .tup h (RepOs.reps s r)
  | _, _, _, .lst h _ r => .lst h (RepOs.reps s r)
theorem RepOs.reps (s : Same F H) : ∀ {vs : List V} {ds : List D} {A : List Addr}, RepOs K F H vs ds A → Reps K H vs ds
  | _, _, _, .nil => .nil
  | _, _, _, .cons r t _ => .cons (RepO.rep s r) (RepOs.reps s t)
end
mutual
theorem RepO.dom : ∀ {v : V} {d : D} {A : List Addr}, RepO K F H v d A → ∀ a ∈ A, (∃ vs, H a = some (.lst vs)) ∧ F a = none
  | _, _, _, .imm _ _, _, m => nomatch m
  | _, _, _, .shr _, _, m => nomatch m
  | _, _, _, .tup _ r, a, m => RepOs.dom r a m
  | _, _, _, .lst h n r, a, m => by
    rcases List.mem_cons.mp m with e | e
    · subst e; exact ⟨⟨_, h⟩, n⟩
    · exact RepOs.dom r a e
theorem RepOs.dom : ∀ {vs : List V} {ds : List D} {A : List Addr}, RepOs K F H vs ds A → ∀ a ∈ A, (∃ vs, H a = some (.lst vs)) ∧ F a = none
  | _, _, _, .nil, _, m => nomatch m
  | _, _, _, .cons r t e, a, m => by
    subst e
    rcases List.mem_append.mp m with z | z
    · exact RepO.dom r a z
    · exact RepOs.dom t a z
end
mutual
/-- what is not touched stays -/
theorem RepO.frame (k : KeepI H H') : ∀ {v : V} {d : D} {A : List Addr}, RepO K F H v d A → (∀ a ∈ A, H' a = H a) → RepO K F H' v d A
  | _, _, _, .imm i h, _ => .imm i (rep_keep k h i)
  | _, _, _, .shr h, _ => .shr h
  | _, _, _, .tup h r, e => .tup (sqT_keep k h) (RepOs.frame k r e)
  | _, _, _, .lst h n r, e => .lst ((e _ List.mem_cons_self).trans h) n (RepOs.frame k r fun a m => e a (List.mem_cons_of_mem _ m))
theorem RepOs.frame (k : KeepI H H') : ∀ {vs : List V} {ds : List D} {A : List Addr}, RepOs K F H vs ds A → (∀ a ∈ A, H' a = H a) → RepOs K F H' vs ds A
  | _, _, _, .nil, _ => .nil
  | _, _, _, .cons r t e, q => by
    subst e
    exact .cons (RepO.frame k r fun a m => q a (List.mem_append_left _ m)) (RepOs.frame k t fun a m => q a (List.mem_append_right _ m)) rfl
end
mutual
/-- more is frozen -/
theorem RepO.froz (s : Same F F') : ∀ {v : V} {d : D} {A : List Addr}, RepO K F H v d A → (∀ a ∈ A, F' a = none) → RepO K F' H v d A
  | _, _, _, .imm i h, _ => .imm i h
  | _, _, _, .shr h, _ => .shr (h.mono s)
  | _, _, _, .tup h r, e => .tup h (RepOs.froz s r e)
  | _, _, _, .lst h n r, e => .lst h (e _ List.mem_cons_self) (RepOs.froz s r fun a m => e a (List.mem_cons_of_mem _ m))
theorem RepOs.froz (s : Same F F') : ∀ {vs : List V} {ds : List D} {A : List Addr}, RepOs K F H vs ds A → (∀ a ∈ A, F' a = none) → RepOs K F' H vs ds A
  | _, _, _, .nil, _ => .nil
  | _, _, _, .cons r t e, q => by
    subst e
    exact .cons (RepO.froz s r fun a m => q a (List.mem_append_left _ m)) (RepOs.froz s t fun a m => q a (List.mem_append_right _ m)) rfl
end
mutual
/-- less is frozen, where nothing shared is within -/
theorem RepO.thaw (s : Same F' F) : ∀ {v : V} {d : D} {A : List Addr}, RepO K F H v d A → own d = true → RepO K F' H v d A
  | _, _, _, .imm i h, _ => .imm i h
  | _, _, _, .shr h, o => by rw [own] at o; cases o
  | _, _, _, .tup h r, o => .tup h (RepOs.thaw s r (by rw [own] at o; exact o))
  | _, _, _, .lst (a := a) h n r, o => .lst h (by
      cases q : F' a with
      | none => rfl
      | some u => rw [s a u q] at n; cases n) (RepOs.thaw s r (by rw [own] at o; exact o))
theorem RepOs.thaw (s : Same F' F) : ∀ {vs : List V} {ds : List D} {A : List Addr}, RepOs K F H vs ds A → owns ds = true → RepOs K F' H vs ds A
  | _, _, _, .nil, _ => .nil
  | _, _, _, .cons r t e, o => by
    rw [owns, Bool.and_eq_true] at o
    exact .cons (RepO.thaw s r o.1) (RepOs.thaw s t o.2) e
end
mutual
theorem RepO.none_of : ∀ {v : V} {d : D} {A : List Addr}, RepO K F H v d A → imm d = true → A = []
  | _, _, _, .imm _ _, _ => rfl
  | _, _, _, .shr _, _ => rfl
  | _, _, _, .tup _ r, i => RepOs.none_of r (by rw [imm] at i; exact i)
  | _, _, _, .lst _ _ _, i => by rw [imm] at i; cases i
theorem RepOs.none_of : ∀ {vs : List V} {ds : List D} {A : List Addr}, RepOs K F H vs ds A → imms ds = true → A = []
  | _, _, _, .nil, _ => rfl
  | _, _, _, .cons r t e, i => by
    rw [imms, Bool.and_eq_true] at i
    rw [e, RepO.none_of r i.1, RepOs.none_of t i.2]
    rfl
end
theorem RepO.seq_nil {v : V} {ds : List D} : ∀ {d : D} {A : List Addr}, RepO K F H v d A → d = .seq ds → A = []
  | _, _, .imm i _, e => rfl
  | _, _, .shr _, _ => rfl
  | _, _, .tup _ _, e => nomatch e
  | _, _, .lst _ _ _, e => nomatch e
/-- everything but the owned lists that are not in A is frozen -/
noncomputable def frz (F H : Hp) (A : List Addr) : Hp := fun a => match H a with
  | some (.lst vs) => if (F a).isSome = true ∨ a ∈ A then some (.lst vs) else none
  | o => o
theorem frz_lst {A : List Addr} {a : Addr} {vs : List V} (h : H a = some (.lst vs)) (m : a ∈ A) : frz F H A a = some (.lst vs) := by
  unfold frz; rw [h]; exact if_pos (.inr m)
theorem frz_keep {A : List Addr} : KeepI H (frz F H A) := fun a u e n => by
  unfold frz
  rw [e]
  cases u with
  | lst vs => exact absurd rfl (n vs)
  | _ => rfl
theorem frz_same {A : List Addr} (s : Same F H) : Same F (frz F H A) := fun a u e => by
  have h := s a u e
  cases u with
  | lst vs => unfold frz; rw [h]; exact if_pos (.inl (by rw [e]; rfl))
  | _ => unfold frz; rw [h]
theorem frz_in {A : List Addr} : Same (frz F H A) H := fun a u e => by
  unfold frz at e
  split at e
  · rename_i vs h
    split at e
    · rw [h]; exact e
    · cases e
  · exact e
theorem frz_out {A : List Addr} {a : Addr} {vs : List V} (h : H a = some (.lst vs)) (n : F a = none) (m : a ∉ A) : frz F H A a = none := by
  unfold frz; rw [h]
  refine if_neg fun z => ?_
  rcases z with z | z
  · rw [n] at z; cases z
  · exact m z
mutual
theorem RepO.freeze (s : Same F F') (k : KeepI H F') : ∀ {v : V} {d : D} {A : List Addr}, RepO K F H v d A → (∀ a vs, a ∈ A → H a = some (.lst vs) → F' a = some (.lst vs)) → Rep K F' v (sh d)
  | _, _, _, .imm i h, _ => rep_sh (rep_keep k h i)
  | _, _, _, .shr h, _ => rep_sh (h.mono s)
  | _, _, _, .tup h r, e => by rw [sh]; exact .tup (sqT_keep k h) (RepOs.freeze s k r e)
  | _, _, _, .lst h _ r, e => by rw [sh]; exact .seq (SqL.of (e _ _ List.mem_cons_self h)) (RepOs.freeze s k r fun a vs m => e a vs (List.mem_cons_of_mem _ m))
theorem RepOs.freeze (s : Same F F') (k : KeepI H F') : ∀ {vs : List V} {ds : List D} {A : List Addr}, RepOs K F H vs ds A → (∀ a ws, a ∈ A → H a = some (.lst ws) → F' a = some (.lst ws)) → Reps K F' vs (shs ds)
  | _, _, _, .nil, _ => .nil
  | _, _, _, .cons r t e, q => by
    subst e
    rw [shs]
    exact .cons (RepO.freeze s k r fun a vs m => q a vs (List.mem_append_left _ m)) (RepOs.freeze s k t fun a vs m => q a vs (List.mem_append_right _ m))
end
mutual
/-- what lies in the frozen part, shared -/
theorem RepO.of_sh (s : Same F H) : ∀ {v : V} {d : D}, Rep K F v d → RepO K F H v (sh d) []
  | _, _, .non => .imm rfl .non
  | _, _, .bl b => .imm rfl (.bl b)
  | _, _, .int i => .imm rfl (.int i)
  | _, _, .str x => .imm rfl (.str x)
  | _, _, .ty n => .imm rfl (.ty n)
  | _, _, .tup h r => by rw [sh]; exact .tup (sqT_same s h) (RepOs.of_sh s r)
  | _, _, .lst h r => by rw [sh]; exact .shr (.seq (SqL.of h) (reps_sh r))
  | _, _, .seq h r => by rw [sh]; exact .shr (.seq h (reps_sh r))
  | _, _, .dct h => .imm rfl (.dct (s _ _ h))
  | _, _, .exc h => .imm rfl (.exc (s _ _ h))
  | _, _, .cls C => .imm rfl (.cls C)
theorem RepOs.of_sh (s : Same F H) : ∀ {vs : List V} {ds : List D}, Reps K F vs ds → RepOs K F H vs (shs ds) []
  | _, _, .nil => .nil
  | _, _, .cons r t => by rw [shs]; exact .cons (RepO.of_sh s r) (RepOs.of_sh s t) rfl
end
theorem RepOs.length : ∀ {vs : List V} {ds : List D} {A : List Addr}, RepOs K F H vs ds A → vs.length = ds.length
  | _, _, _, .nil => rfl
  | _, _, _, .cons _ t _ => congrArg (· + 1) (RepOs.length t)
theorem RepOs.snoc : ∀ {vs : List V} {ds : List D} {A B : List Addr} {v : V} {d : D}, RepOs K F H vs ds A → RepO K F H v d B → RepOs K F H (vs ++ [v]) (ds ++ [d]) (A ++ B)
  | _, _, _, _, _, _, .nil, r => .cons r .nil (by simp)
  | _, _, _, _, _, _, .cons q t e, r => .cons q (RepOs.snoc t r) (by rw [e, List.append_assoc])
/-- one of several, and what is left when it is another one -/
theorem RepOs.pick : ∀ {vs : List V} {ds : List D} {A : List Addr} {i : Nat} {d : D}, RepOs K F H vs ds A → ds[i]? = some d → ∃ v A1 B A2, vs[i]? = some v ∧ RepO K F H v d B ∧ A = A1 ++ (B ++ A2) ∧
    ∀ {H' : Hp} {v' : V} {d' : D} {B' : List Addr}, KeepI H H' → (∀ a, a ∈ A1 ∨ a ∈ A2 → H' a = H a) → RepO K F H' v' d' B' → RepOs K F H' (vs.set i v') (ds.set i d') (A1 ++ (B' ++ A2))
  | _, _, _, _, _, .nil, e => by simp at e
  | _, _, _, 0, _, .cons (A := A) (B := B) r t e, q => by
    simp at q
    subst q
    refine ⟨_, [], A, B, rfl, r, by simpa using e, fun k h r' => ?_⟩
    exact .cons r' (t.frame k fun a m => h a (.inr m)) (by simp)
  | _, _, _, i + 1, d, .cons (A := A0) (B := B0) r t e, q => by
    obtain ⟨v, A1, B, A2, h1, h2, h3, h4⟩ := RepOs.pick (i := i) (d := d) t (by simpa using q)
    refine ⟨v, A0 ++ A1, B, A2, by simpa using h1, h2, by rw [e, h3, List.append_assoc], fun k h r' => ?_⟩
    refine .cons (r.frame k fun a m => h a (.inl (List.mem_append_left _ m))) (h4 k (fun a m => h a ?_) r') (by rw [List.append_assoc])
    rcases m with m | m
    · exact .inl (List.mem_append_right _ m)
    · exact .inr m
end
end Dl
namespace Dl
open PySem PySem.Spec PyProof.Rows L2
/-! ### states with owned lists -/
structure RepA (K : PySem.W.Frag) (F H : Hp) (σ : L2.St) (δ : DS) (As : Nat → List Addr) : Prop where
  fz : Same F H
  len : σ.length = δ.length
  val : ∀ (i : Nat) (d : D), δ[i]? = some (some d) → ∃ v, σ[i]? = some (some v) ∧ RepO K F H v d (As i)
  non : ∀ (i : Nat), (∀ d, δ[i]? ≠ some (some d)) → As i = []
  nd : ∀ i, (As i).Nodup
  dj : ∀ i j a, i ≠ j → a ∈ As i → a ∉ As j
def RepM (K : PySem.W.Frag) (F H : Hp) (σ : L2.St) (δ : DS) : Prop := ∃ As, RepA K F H σ δ As
section
variable {K : PySem.W.Frag} {F H F' H' : Hp} {σ : L2.St} {δ : DS} {As : Nat → List Addr}
theorem RepA.toS (R : RepA K F H σ δ As) : RepS K H σ δ := ⟨R.len, fun i d q => let ⟨v, h1, h2⟩ := R.val i d q; ⟨v, h1, h2.rep R.fz⟩⟩
theorem RepA.dom (R : RepA K F H σ δ As) {i : Nat} {a : Addr} (m : a ∈ As i) : (∃ vs, H a = some (.lst vs)) ∧ F a = none := by
  by_cases h : ∃ d, δ[i]? = some (some d)
  · obtain ⟨d, h⟩ := h
    obtain ⟨v, _, h2⟩ := R.val i d h
    exact h2.dom a m
  · rw [R.non i fun d z => h ⟨d, z⟩] at m; cases m
/-- the heap grew -/
theorem RepA.grow (R : RepA K F H σ δ As) (s : Same H H') : RepA K F H' σ δ As :=
  ⟨R.fz.trans s, R.len, fun i d q => by
    obtain ⟨v, h1, h2⟩ := R.val i d q
    refine ⟨v, h1, h2.frame (same_keepI s) fun a m => ?_⟩
    obtain ⟨⟨vs, e⟩, _⟩ := h2.dom a m
    rw [e]; exact s a _ e, R.non, R.nd, R.dj⟩
/-- more is frozen -/
theorem RepA.froz (R : RepA K F H σ δ As) (s : Same F F') (s' : Same F' H) (n : ∀ i a, a ∈ As i → F' a = none) : RepA K F' H σ δ As :=
  ⟨s', R.len, fun i d q => let ⟨v, h1, h2⟩ := R.val i d q; ⟨v, h1, h2.froz s (n i)⟩, R.non, R.nd, R.dj⟩
def asSet (As : Nat → List Addr) (i : Nat) (A : List Addr) : Nat → List Addr := fun j => if j = i then A else As j
theorem asSet_same {i : Nat} {A : List Addr} : asSet As i A i = A := if_pos rfl
theorem asSet_ne {i j : Nat} {A : List Addr} (h : j ≠ i) : asSet As i A j = As j := if_neg h
/-- a slot gets a value of its own -/
theorem RepA.set {v : V} {d : D} {A : List Addr} (R : RepA K F H σ δ As) (i : Nat) (hi : i < δ.length) (r : RepO K F H v d A) (nd : A.Nodup) (dj : ∀ j a, j ≠ i → a ∈ As j → a ∉ A) : RepA K F H (σ.set i (some v)) (δ.set i (some d)) (asSet As i A) := by
  have hl := R.len
  refine ⟨R.fz, by rw [List.length_set, List.length_set]; exact hl, fun j e q => ?_, fun j h => ?_, fun j => ?_, fun j k a hjk m => ?_⟩
  · rw [List.getElem?_set] at q ⊢
    by_cases hj : i = j
    · subst hj
      rw [if_pos rfl, if_pos hi] at q
      rw [if_pos rfl, if_pos (by omega), asSet_same]
      have : d = e := by simpa using q
      subst this
      exact ⟨v, rfl, r⟩
    · rw [if_neg hj] at q ⊢
      rw [asSet_ne (Ne.symm hj)]
      exact R.val j e q
  · by_cases hj : j = i
    · subst hj
      exact absurd (by rw [List.getElem?_set, if_pos rfl, if_pos hi]) (h d)
    · rw [asSet_ne hj]
      refine R.non j fun e z => h e ?_
      rw [List.getElem?_set_ne (Ne.symm hj)]
      exact z
  · by_cases hj : j = i
    · subst hj; rw [asSet_same]; exact nd
    · rw [asSet_ne hj]; exact R.nd j
  · by_cases hj : j = i
    · subst hj
      rw [asSet_same] at m
      rw [asSet_ne (Ne.symm hjk)]
      exact fun z => dj k a (Ne.symm hjk) z m
    · rw [asSet_ne hj] at m
      by_cases hk : k = i
      · subst hk; rw [asSet_same]; exact dj j a hj m
      · rw [asSet_ne hk]; exact R.dj j k a hjk m
/-- a slot is given away -/
theorem RepA.drop (R : RepA K F H σ δ As) (i : Nat) : RepA K F H σ (δ.set i none) (asSet As i []) := by
  refine ⟨R.fz, by rw [List.length_set]; exact R.len, fun j e q => ?_, fun j h => ?_, fun j => ?_, fun j k a hjk m => ?_⟩
  · rw [List.getElem?_set] at q
    by_cases hj : i = j
    · subst hj; rw [if_pos rfl] at q; split at q <;> cases q
    · rw [if_neg hj] at q
      rw [asSet_ne (Ne.symm hj)]
      exact R.val j e q
  · by_cases hj : j = i
    · subst hj; rw [asSet_same]
    · rw [asSet_ne hj]
      refine R.non j fun e z => h e ?_
      rw [List.getElem?_set_ne (Ne.symm hj)]
      exact z
  · by_cases hj : j = i
    · subst hj; rw [asSet_same]; exact List.nodup_nil
    · rw [asSet_ne hj]; exact R.nd j
  · by_cases hj : j = i
    · subst hj; rw [asSet_same] at m; cases m
    · rw [asSet_ne hj] at m
      by_cases hk : k = i
      · subst hk; rw [asSet_same]; exact fun z => nomatch z
      · rw [asSet_ne hk]; exact R.dj j k a hjk m
/-- an owned list of a slot is written: the slot's tree is another one then, all else stays -/
theorem RepA.write {v : V} {d : D} {A : List Addr} {i : Nat} (R : RepA K F H σ δ As) (hi : i < δ.length) (hσ : σ[i]? = some (some v)) (k : KeepI H H') (fz : Same F H') (e : ∀ j a, j ≠ i → a ∈ As j → H' a = H a) (r : RepO K F H' v d A) (nd : A.Nodup) (dj : ∀ j a, j ≠ i → a ∈ As j → a ∉ A) :
    RepA K F H' σ (δ.set i (some d)) (asSet As i A) := by
  refine ⟨fz, by rw [List.length_set]; exact R.len, fun j e' q => ?_, fun j h => ?_, fun j => ?_, fun j k a hjk m => ?_⟩
  · rw [List.getElem?_set] at q
    by_cases hj : i = j
    · subst hj
      rw [if_pos rfl, if_pos hi] at q
      have : d = e' := by simpa using q
      subst this
      rw [asSet_same]
      exact ⟨v, hσ, r⟩
    · rw [if_neg hj] at q
      rw [asSet_ne (Ne.symm hj)]
      obtain ⟨w, h1, h2⟩ := R.val j e' q
      exact ⟨w, h1, h2.frame k (fun a m => e j a (Ne.symm hj) m)⟩
  · by_cases hj : j = i
    · subst hj
      exact absurd (by rw [List.getElem?_set, if_pos rfl, if_pos hi]) (h d)
    · rw [asSet_ne hj]
      refine R.non j fun e z => h e ?_
      rw [List.getElem?_set_ne (Ne.symm hj)]
      exact z
  · by_cases hj : j = i
    · subst hj; rw [asSet_same]; exact nd
    · rw [asSet_ne hj]; exact R.nd j
  · by_cases hj : j = i
    · subst hj
      rw [asSet_same] at m
      rw [asSet_ne (Ne.symm hjk)]
      exact fun z => dj k a (Ne.symm hjk) z m
    · rw [asSet_ne hj] at m
      by_cases hk : k = i
      · subst hk; rw [asSet_same]; exact dj j a hj m
      · rw [asSet_ne hk]; exact R.dj j k a hjk m
end
/-! ### expressions that tell a value of one's own -/
abbrev FM := DS → Option (D × DS)
abbrev FMA := DS → Option (List D × DS)
/-- ahead of and behind an expression; A: the lists of its value -/
structure Ev (F H : Hp) (As : Nat → List Addr) (F' H' : Hp) (As' : Nat → List Addr) (A : List Addr) : Prop where
  fs : Same F F'
  hs : Same H H'
  nf : ∀ a vs, H a = some (.lst vs) → F a = none → (∀ i, a ∉ As i) → F' a = none
  fa : ∀ i a, a ∈ As' i → (∃ j, a ∈ As j) ∨ H a = none
  fA : ∀ a, a ∈ A → (∃ j, a ∈ As j) ∨ H a = none
  nd : A.Nodup
  dj : ∀ i a, a ∈ As' i → a ∉ A
/-- nothing of one's own came out, nothing was given away -/
theorem Ev.pure {F H H' : Hp} {As : Nat → List Addr} (s : Same H H') : Ev F H As F H' As [] :=
  ⟨Same.refl F, s, fun _ _ _ n _ => n, fun i _ m => .inl ⟨i, m⟩, fun _ m => (nomatch m), List.nodup_nil, fun _ _ _ z => (nomatch z)⟩
/-- new lists came out -/
theorem Ev.fresh {F H H' : Hp} {As : Nat → List Addr} {A : List Addr} (s : Same H H') (h : ∀ a ∈ A, H a = none) (nd : A.Nodup) (dom : ∀ i a, a ∈ As i → ∃ vs, H a = some (.lst vs)) : Ev F H As F H' As A :=
  ⟨Same.refl F, s, fun _ _ _ n _ => n, fun i _ m => .inl ⟨i, m⟩, fun a m => .inr (h a m), nd, fun i a m z => by
    obtain ⟨vs, e⟩ := dom i a m
    rw [h a z] at e; cases e⟩
theorem Ev.seq {F H F1 H1 F2 H2 : Hp} {As As1 As2 : Nat → List Addr} {A B : List Addr} (a : Ev F H As F1 H1 As1 A) (b : Ev F1 H1 As1 F2 H2 As2 B) (dA : ∀ x ∈ A, ∃ vs, H1 x = some (.lst vs)) : Ev F H As F2 H2 As2 (A ++ B) where
  fs := a.fs.trans b.fs
  hs := a.hs.trans b.hs
  nf := fun x vs e n h => b.nf x vs (a.hs x _ e) (a.nf x vs e n h) fun i m => by
    rcases a.fa i x m with ⟨j, z⟩ | z
    · exact h j z
    · rw [e] at z; cases z
  fa := fun i x m => by
    rcases b.fa i x m with ⟨j, z⟩ | z
    · exact a.fa j x z
    · refine .inr ?_
      cases q : H x with
      | none => rfl
      | some u => rw [a.hs x u q] at z; cases z
  fA := fun x m => by
    rcases List.mem_append.mp m with z | z
    · exact a.fA x z
    · rcases b.fA x z with ⟨j, y⟩ | y
      · exact a.fa j x y
      · refine .inr ?_
        cases q : H x with
        | none => rfl
        | some u => rw [a.hs x u q] at y; cases y
  nd := by
    refine List.nodup_append.mpr ⟨a.nd, b.nd, fun x hx y hy e => ?_⟩
    subst e
    rcases b.fA x hy with ⟨j, z⟩ | z
    · exact a.dj j x z hx
    · obtain ⟨vs, e⟩ := dA x hx
      rw [z] at e; cases e
  dj := fun i x m z => by
    rcases List.mem_append.mp z with z | z
    · rcases b.fa i x m with ⟨j, y⟩ | y
      · exact a.dj j x y z
      · obtain ⟨vs, e⟩ := dA x z
        rw [y] at e; cases e
    · exact b.dj i x m z
/-- a value that stands by stays -/
theorem Ev.stays {K : PySem.W.Frag} {F1 H1 F2 H2 : Hp} {As1 As2 : Nat → List Addr} {A B : List Addr} {v : V} {d : D} (b : Ev F1 H1 As1 F2 H2 As2 B) (r : RepO K F1 H1 v d A) (dj : ∀ i a, a ∈ As1 i → a ∉ A) : RepO K F2 H2 v d A := by
  have h1 : RepO K F1 H2 v d A := r.frame (same_keepI b.hs) fun a m => by
    obtain ⟨⟨vs, e⟩, _⟩ := r.dom a m
    rw [e]; exact b.hs a _ e
  refine h1.froz b.fs fun a m => ?_
  obtain ⟨⟨vs, e⟩, n⟩ := r.dom a m
  exact b.nf a vs e n fun i z => dj i a z m
def upV (K : PySem.W.Frag) (f : FM) : TE := fun σ H Q => ∃ F δ As d δ', RepA K F H σ δ As ∧ f δ = some (d, δ') ∧ ∀ v F' H' A As', Ev F H As F' H' As' A → RepA K F' H' σ δ' As' → RepO K F' H' v d A → Q v H'
def PV (X : Cx) (e : Expr) (f : FM) : Prop := PE X e (upV X.K f)
def vI (f : FD) : FM := fun δ => (f δ).bind fun d => if imm d then some (d, δ) else none
/-- a name: a list of one's own is given away -/
def vName (i : Nat) : FM := fun δ => match δ[i]? with
  | some (some (.seq ds)) => some (.seq ds, δ)
  | some (some d) => if imm d then some (d, δ) else some (d, δ.set i none)
  | _ => none
/-- a name, shared from now on -/
def vShare (i : Nat) : FM := fun δ => match δ[i]? with
  | some (some d) => some (sh d, δ.set i (some (sh d)))
  | _ => none
def vNil : FMA := fun δ => some ([], δ)
def vCons (f : FM) (g : FMA) : FMA := fun δ => (f δ).bind fun p => (g p.2).bind fun q => some (p.1 :: q.1, q.2)
def vLst (g : FMA) : FM := fun δ => (g δ).bind fun p => some (.lst p.1, p.2)
def vTup (g : FMA) : FM := fun δ => (g δ).bind fun p => some (.tup p.1, p.2)
def vCall (G : List D → Option D) (g : FA) : FM := fun δ => (g δ).bind fun ds => (G ds).bind fun d => if own d then some (d, δ) else none
/-- a def's promise: its answer's lists are new -/
def freshSp (K : PySem.W.Frag) (n : Nat) (G : List D → Option D) : Sp := fun vs H Q _ => vs.length = n ∧ ∃ ds d, Reps K H vs ds ∧ G ds = some d ∧ ∀ v H' A, Same H H' → RepO K H H' v d A → A.Nodup → Q v H'
section
variable {X : Cx} {e : Expr} {es : List Expr} {f : FD} {fm : FM} {g : FMA} {ga : FA} {pos p : Pos}
theorem pv_imm (h : PD X e f) : PV X e (vI f) := imp h fun σ H Q ⟨F, δ, As, d, δ', R, q, k⟩ => by
  unfold vI at q
  obtain ⟨d0, ed, q⟩ := Option.bind_eq_some_iff.mp q
  split at q
  · rename_i hi
    cases q
    exact ⟨δ, d, R.toS, ed, fun v H' s r => k v F H' [] As (.pure s) (R.grow s) (.imm hi r)⟩
  · cases q
theorem pv_name (i : Nat) {x : Str} (hN : X.N[i]? = some x := by rfl) (hv : Vis X.env.scope x := by first | exact Or.inl rfl | exact Or.inr (Or.inl rfl) | exact Or.inr (Or.inr rfl)) (hd : (x == ("__debug__" : Str)) = false := by decide)
    (hcd : (x == ("__classdict__" : Str)) = false := by decide) : PV X (.Name x pos) (vName i) :=
  imp (pe_var hN hv hd hcd) fun σ H Q ⟨F, δ, As, d, δ', R, q, k⟩ => by
    unfold vName at q
    split at q
    · rename_i ds h
      cases q
      obtain ⟨v, h1, h2⟩ := R.val i _ h
      rw [h2.seq_nil rfl] at h2
      exact ⟨v, h1, k v F H [] As (.pure (Same.refl H)) R h2⟩
    · rename_i d0 _ h
      obtain ⟨v, h1, h2⟩ := R.val i _ h
      split at q
      · rename_i hi
        cases q
        have z := h2.none_of hi
        rw [z] at h2
        exact ⟨v, h1, k v F H [] As (.pure (Same.refl H)) R h2⟩
      · cases q
        refine ⟨v, h1, k v F H (As i) (asSet As i []) ⟨Same.refl F, Same.refl H, fun _ _ _ n _ => n, fun j a m => ?_, fun a m => .inl ⟨i, m⟩, R.nd i, fun j a m => ?_⟩ (R.drop i) h2⟩
        · by_cases hj : j = i
          · subst hj; rw [asSet_same] at m; cases m
          · rw [asSet_ne hj] at m; exact .inl ⟨j, m⟩
        · by_cases hj : j = i
          · subst hj; rw [asSet_same] at m; cases m
          · rw [asSet_ne hj] at m; exact R.dj j i a hj m
    · cases q
theorem pv_share (i : Nat) {x : Str} (hN : X.N[i]? = some x := by rfl) (hv : Vis X.env.scope x := by first | exact Or.inl rfl | exact Or.inr (Or.inl rfl) | exact Or.inr (Or.inr rfl)) (hd : (x == ("__debug__" : Str)) = false := by decide)
    (hcd : (x == ("__classdict__" : Str)) = false := by decide) : PV X (.Name x pos) (vShare i) :=
  imp (pe_var hN hv hd hcd) fun σ H Q ⟨F, δ, As, d, δ', R, q, k⟩ => by
    unfold vShare at q
    split at q
    · rename_i d0 h
      cases q
      obtain ⟨v, h1, h2⟩ := R.val i _ h
      have hi : i < δ.length := (List.getElem?_eq_some_iff.mp h).1
      have s1 := frz_same (A := As i) R.fz
      have s2 : Same (frz F H (As i)) H := frz_in
      have z : Rep X.K (frz F H (As i)) v (sh d0) := h2.freeze s1 frz_keep fun a vs m e => frz_lst e m
      have z2 : RepO X.K (frz F H (As i)) H v (sh (sh d0)) [] := RepO.of_sh s2 z
      rw [sh_sh d0] at z2
      have R1 := (R.drop i).froz s1 s2 (fun j a m => by
        by_cases hj : j = i
        · subst hj; rw [asSet_same] at m; cases m
        · rw [asSet_ne hj] at m
          obtain ⟨⟨vs, e⟩, n⟩ := R.dom m
          exact frz_out e n (R.dj j i a hj m))
      have R2 := R1.set i (by rw [List.length_set]; exact hi) z2 List.nodup_nil fun _ _ _ _ z => nomatch z
      have hσ : σ.set i (some v) = σ := by
        refine List.ext_getElem? fun j => ?_
        rw [List.getElem?_set]
        split
        · rename_i hj; subst hj
          rw [h1, if_pos (by rw [R.len]; exact hi)]
        · rfl
      rw [hσ, List.set_set] at R2
      refine ⟨v, h1, k v _ H [] _ ⟨s1, Same.refl H, fun a vs e n h => frz_out e n (h i), fun j a m => ?_, fun _ m => (nomatch m), List.nodup_nil, fun _ _ _ z => (nomatch z)⟩ R2 z2⟩
      by_cases hj : j = i
      · subst hj; rw [asSet_same] at m; cases m
      · rw [asSet_ne hj, asSet_ne hj] at m; exact .inl ⟨j, m⟩
    · cases q
end
end Dl
namespace Dl
open PySem PySem.Spec PyProof.Rows L2
/-! ### statements over states with owned lists -/
def RPM (X : Cx) (E : Ends) (F : Hp) : Res → Prop
  | .nx δ => ∀ σ' F' H', Same F F' → RepM X.K F' H' σ' δ → E.nx σ' H'
  | .rt d => ∀ v F' H' A, Same F F' → Same F' H' → RepO X.K F' H' v d A → A.Nodup → E.rt v H'
  | .bk δ => ∀ σ' F' H', Same F F' → RepM X.K F' H' σ' δ → E.bk σ' H'
  | .ct δ => ∀ σ' F' H', Same F F' → RepM X.K F' H' σ' δ → E.ct σ' H'
  | .ex C δ => ∀ σ' F' H', Same F F' → RepM X.K F' H' σ' δ → XFly X C σ' H'
  | .mk C δ => ∀ σ' F' H', Same F F' → RepM X.K F' H' σ' δ → XMade X C σ' H'
theorem RPM.mono {X : Cx} {E : Ends} {F F1 : Hp} {r : Res} (s : Same F F1) (h : RPM X E F r) : RPM X E F1 r := by
  cases r with
  | nx δ => exact fun σ' F' H' s2 R => h σ' F' H' (s.trans s2) R
  | rt d => exact fun v F' H' A s2 => h v F' H' A (s.trans s2)
  | bk δ => exact fun σ' F' H' s2 R => h σ' F' H' (s.trans s2) R
  | ct δ => exact fun σ' F' H' s2 R => h σ' F' H' (s.trans s2) R
  | ex C δ => exact fun σ' F' H' s2 R => h σ' F' H' (s.trans s2) R
  | mk C δ => exact fun σ' F' H' s2 R => h σ' F' H' (s.trans s2) R
def upM (X : Cx) (s : SD) : TS := fun E σ H => ∃ F δ r, RepM X.K F H σ δ ∧ s δ = some r ∧ RPM X E F r
def PMD (X : Cx) (st : Stmt) (s : SD) : Prop := PS X st (upM X s)
def PMs (X : Cx) (sts : List Stmt) (s : SD) : Prop := PSs X sts (upM X s)
section
variable {K : PySem.W.Frag} {F H : Hp} {σ : L2.St} {δ : DS} {As : Nat → List Addr}
theorem RepA.setM {v : V} {d : D} {A : List Addr} (R : RepA K F H σ δ As) (i : Nat) (r : RepO K F H v d A) (nd : A.Nodup) (dj : ∀ j a, a ∈ As j → a ∉ A) : RepM K F H (σ.set i (some v)) (δ.set i (some d)) := by
  by_cases hi : i < δ.length
  · exact ⟨_, R.set i hi r nd fun j a _ m => dj j a m⟩
  · have hl := R.len
    rw [List.set_eq_of_length_le (by omega), List.set_eq_of_length_le (by omega)]
    exact ⟨As, R⟩
end
section
variable {X : Cx} {st : Stmt} {rest : List Stmt} {s u : SD} {e : Expr} {f : FD} {fm : FM} {c : FT} {pos : Pos}
theorem pm_nil : PMs X [] sNil := impSs pss_nil fun E σ H ⟨F, δ, r, R, e, k⟩ => by cases e; exact k σ F H (Same.refl F) R
theorem pm_cons (h1 : PMD X st s) (h2 : PMs X rest u) : PMs X (st :: rest) (sSeq s u) := impSs (pss_cons h1 h2) fun E σ H ⟨F, δ, r, R, e, k⟩ => by
  unfold sSeq at e
  obtain ⟨r1, e1, e⟩ := Option.bind_eq_some_iff.mp e
  refine ⟨F, δ, r1, R, e1, ?_⟩
  cases r1 with
  | nx δ' => exact fun σ' F' H' s1 R1 => ⟨F', δ', r, R1, e, k.mono s1⟩
  | rt d => cases e; exact k
  | bk d => cases e; exact k
  | ct d => cases e; exact k
  | ex C d => cases e; exact k
  | mk C d => cases e; exact k
theorem pm_one (h : PMD X st s) : PMs X [st] s := pss_one h
theorem pm_if {cx : Expr} {a b : List Stmt} (hc : PTD X cx c) (ha : PMs X a s) (hb : PMs X b u) : PMD X (.If cx a b pos) (sIf c s u) := impS (ps_if hc ha hb) fun E σ H ⟨F, δ, r, ⟨As, R⟩, q, k⟩ => by
  unfold sIf at q
  obtain ⟨d, ed, q⟩ := Option.bind_eq_some_iff.mp q
  refine ⟨δ, d, R.toS, ed, fun H' s1 => ?_⟩
  cases d with
  | true => rw [if_pos rfl]; exact ⟨F, δ, r, ⟨As, R.grow s1⟩, q, k⟩
  | false => rw [if_neg Bool.false_ne_true]; exact ⟨F, δ, r, ⟨As, R.grow s1⟩, q, k⟩
def sSetM (i : Nat) (f : FM) : SD := fun δ => (f δ).bind fun p => some (.nx (p.2.set i (some p.1)))
def sRetM (f : FM) : SD := fun δ => (f δ).bind fun p => some (.rt p.1)
def sDropM (f : FM) : SD := fun δ => (f δ).bind fun p => some (.nx p.2)
theorem pm_set (i : Nat) {x : Str} {pos' : Pos} (hN : X.N.Nodup) (he : PV X e fm) (hi : X.N[i]? = some x := by rfl) (hx : Loc X.env.scope x := by first | exact Or.inl rfl | exact Or.inr rfl) (hs : swapsWith e (some (.Name x pos')) pos.line X.env = pure false := by rfl) (hf : X.fn x = true ∨ X.env.scope.names.lookup x = some .local := by first | exact .inl rfl | exact .inr rfl | assumption) :
    PMD X (.Assign [.Name x pos'] e pos) (sSetM i fm) := impS (ps_set hN hi hx he hs hf) fun E σ H ⟨F, δ, r, ⟨As, R⟩, q, k⟩ => by
  unfold sSetM at q
  obtain ⟨⟨d, δ'⟩, ed, q⟩ := Option.bind_eq_some_iff.mp q
  cases q
  exact ⟨F, δ, As, d, δ', R, ed, fun v F' H' A As' ev R' r' => k (σ.set i (some v)) F' H' ev.fs (R'.setM i r' ev.nd ev.dj)⟩
theorem pm_ret (he : PV X e fm) : PMD X (.Return (some e) pos) (sRetM fm) := impS (ps_ret he) fun E σ H ⟨F, δ, r, ⟨As, R⟩, q, k⟩ => by
  unfold sRetM at q
  obtain ⟨⟨d, δ'⟩, ed, q⟩ := Option.bind_eq_some_iff.mp q
  cases q
  exact ⟨F, δ, As, d, δ', R, ed, fun v F' H' A As' ev R' r' => k v F' H' A ev.fs R'.fz r' ev.nd⟩
end
/-! ### for -/
def ItF (K : PySem.W.Frag) (J : It) (F : Hp) (ds : List D) : Prop := ∀ i H2, Same F H2 →
  (i < ds.length → J.go i H2 ∧ ∀ x H', J.yld i H2 x H' → H' = H2 ∧ ∃ d, ds[i]? = some d ∧ Rep K F x d) ∧ (ds.length ≤ i → J.stop i H2)
def upIM (K : PySem.W.Frag) (src : FMA) : TI := fun σ H R => ∃ F δ As ds δ', RepA K F H σ δ As ∧ src δ = some (ds, δ') ∧ ∀ J F' H1 As', Same F F' → RepA K F' H1 σ δ' As' → ItF K J F' ds → R J H1
def PIM (X : Cx) (tg iter : Expr) (src : FMA) : Prop := PI X tg iter (upIM X.K src)
theorem itf_list {K : PySem.W.Frag} {F : Hp} {a : Addr} {vs : List V} {ds : List D} (hq : SqL K F a vs) (r : Reps K F vs ds) : ItF K (Itl K a) F ds := by
  intro i H2 s
  have hq2 := s.seq hq
  have hl := r.length
  refine ⟨fun hi => ⟨⟨vs, vs[i], hq2, by simp [show i < vs.length by omega]⟩, fun x H' y => ?_⟩, fun hi => ⟨vs, hq2, by omega⟩⟩
  obtain ⟨e, y⟩ := y
  subst e
  obtain ⟨d, h1, h2⟩ := r.getV (y vs hq2)
  exact ⟨rfl, d, h1, h2⟩
/-- a list that is walked is shared from then on -/
def vWalk (f : FM) : FMA := fun δ => (f δ).bind fun p => match sh p.1 with
  | .seq ds => some (ds, p.2)
  | _ => none
theorem pim_list {X : Cx} {tg l : Expr} {fm : FM} (hl : PV X l fm) : PIM X tg l (vWalk fm) := impI (pi_list hl) fun σ H R ⟨F, δ, As, ds, δ', R0, e, k⟩ => by
  unfold vWalk at e
  obtain ⟨⟨d, δ1⟩, ed, e⟩ := Option.bind_eq_some_iff.mp e
  dsimp only at e
  split at e
  · rename_i es hs
    cases e
    refine ⟨F, δ, As, d, _, R0, ed, fun v F1 H1 A As1 ev R1 r1 => ?_⟩
    have s1 := frz_same (A := A) R1.fz
    have s2 : Same (frz F1 H1 A) H1 := frz_in
    have z : Rep X.K (frz F1 H1 A) v (sh d) := r1.freeze s1 frz_keep fun a vs m e => frz_lst e m
    rw [hs] at z
    have R2 := R1.froz s1 s2 (fun j a m => by
      obtain ⟨⟨vs, e⟩, n⟩ := R1.dom m
      exact frz_out e n (ev.dj j a m))
    cases z with
    | @seq p vs _ hp rp => exact ⟨p, rfl, ⟨vs, s2.seq hp⟩, k _ _ H1 As1 (ev.fs.trans s1) R2 (itf_list hp rp)⟩
  · cases e
def forM (i : Nat) (s : SD) : List D → SD
  | [] => fun δ => some (.nx δ)
  | d :: ds => fun δ => (s (δ.set i (some (sh d)))).bind fun r => match r with
    | .nx δ' => forM i s ds δ'
    | .ct δ' => forM i s ds δ'
    | .bk δ' => some (.nx δ')
    | .rt d => some (.rt d)
    | .ex C δ' => some (.ex C δ')
    | .mk C δ' => some (.mk C δ')
def sForM (src : FMA) (i : Nat) (s : SD) : SD := fun δ => (src δ).bind fun p => forM i s p.1 p.2
theorem pm_for {X : Cx} {iter : Expr} {body : List Stmt} {src : FMA} {s : SD} {x : Str} {px pos : Pos} (i : Nat) (hN : X.N.Nodup) (hp : PassesOwn (model X.prog X.w) X.A X.env X.xe) (hc : X.calm = true) (hi : PIM X (.Name x px) iter src) (hb : PMs X body s)
    (hx : X.N[i]? = some x := by rfl) (hl : Loc X.env.scope x := by first | exact Or.inl rfl | exact Or.inr rfl) (hf : X.fn x = true ∨ X.env.scope.names.lookup x = some .local := by first | exact .inl rfl | exact .inr rfl | assumption)
    (hs : ∀ x, foldedSetIterable iter X.env x = pure x := by intro _; rfl) : PMD X (.For (.Name x px) iter body [] pos) (sForM src i s) := impS (ps_for hp hc hi (pg_name hN hx hl hf) hb hs) fun E σ H ⟨F, δ, r, ⟨As, R⟩, e, k⟩ => by
  unfold sForM at e
  obtain ⟨⟨ds, δ1⟩, eds, e⟩ := Option.bind_eq_some_iff.mp e
  refine ⟨F, δ, As, ds, δ1, R, eds, fun J F1 H1 As1 s1 R1 it => ?_⟩
  refine ⟨fun j m σ H => m = ds.length - j ∧ j ≤ ds.length ∧ ∃ F2 δ, Same F1 F2 ∧ RepM X.K F2 H σ δ ∧ forM i s (ds.drop j) δ = some r ∧ RPM X E F2 r, ⟨ds.length, rfl, Nat.zero_le _, F1, δ1, Same.refl _, ⟨As1, R1⟩, e, k.mono s1⟩, ?_⟩
  rintro j m σ H2 ⟨rfl, hjl, F2, δ2, s2, ⟨As2, R2⟩, e2, k2⟩
  by_cases hlt : j < ds.length
  · obtain ⟨go, yl⟩ := (it j H2 (s2.trans R2.fz)).1 hlt
    rw [List.drop_eq_getElem_cons hlt] at e2
    obtain ⟨r4, e4, e2⟩ := Option.bind_eq_some_iff.mp (show ((s (δ2.set i (some (sh ds[j])))).bind _) = some r from e2)
    refine .inr ⟨go, fun σ' H' => ∃ F3 δ, Same F1 F3 ∧ RepM X.K F3 H' σ' δ ∧ forM i s (ds.drop (j + 1)) δ = some r ∧ RPM X E F3 r, fun σ' H' z => ⟨ds.length - (j + 1), by omega, rfl, hlt, z⟩, fun y H' yy => ?_⟩
    obtain ⟨eH, d, hd, rx⟩ := yl y H' yy
    subst eH
    have hd' : d = ds[j] := by
      rw [List.getElem?_eq_getElem hlt] at hd
      exact (Option.some.inj hd).symm
    subst hd'
    have R3 := R2.setM i (RepO.of_sh R2.fz (rx.mono s2)) List.nodup_nil fun _ _ _ z => nomatch z
    refine ⟨F2, δ2.set i (some (sh ds[j])), r4, R3, e4, ?_⟩
    cases r4 with
    | nx δ' => exact fun σ' F' H'' s4 R4 => ⟨F', δ', s2.trans s4, R4, e2, k2.mono s4⟩
    | ct δ' => exact fun σ' F' H'' s4 R4 => ⟨F', δ', s2.trans s4, R4, e2, k2.mono s4⟩
    | bk δ' => cases e2; exact k2
    | rt d => cases e2; exact k2
    | ex C δ' => cases e2; exact k2
    | mk C δ' => cases e2; exact k2
  · have e : j = ds.length := by omega
    subst e
    rw [List.drop_length] at e2
    cases e2
    exact .inl ⟨(it _ H2 (s2.trans R2.fz)).2 (Nat.le_refl _), k2 σ F2 H2 (Same.refl _) ⟨As2, R2⟩⟩
/-! ### defs that tell new lists -/
def startM (n : Nat) (ds : List D) : DS := (shs ds).map some ++ List.replicate (n - ds.length) none
theorem repM_start {K : PySem.W.Frag} {H : Hp} {N : List Str} {vs : List V} {ds : List D} (r : Reps K H vs ds) : RepM K H H (L2.start N vs) (startM N.length ds) := by
  have l2 : (shs ds).length = ds.length := by rw [shs_map, List.length_map]
  refine ⟨fun _ => [], Same.refl H, by unfold L2.start startM; simp [r.length, l2], fun i d q => ?_, fun _ _ => rfl, fun _ => List.nodup_nil, fun _ _ _ _ m => nomatch m⟩
  unfold startM at q
  unfold L2.start
  have hi : i < ds.length := by
    by_cases hi : i < ds.length
    · exact hi
    · rw [List.getElem?_append_right (by simpa [l2] using hi), List.getElem?_replicate] at q
      split at q <;> cases q
  rw [List.getElem?_append_left (by simpa [l2] using hi), List.getElem?_map] at q
  obtain ⟨e, h1, h2⟩ := Option.map_eq_some_iff.mp q
  cases h2
  rw [shs_map, List.getElem?_map] at h1
  obtain ⟨d0, h3, h4⟩ := Option.map_eq_some_iff.mp h1
  subst h4
  obtain ⟨v, h5, h6⟩ := r.get h3
  have hv : i < vs.length := by rw [r.length]; exact hi
  exact ⟨v, by rw [List.getElem?_append_left (by simpa using hv), List.getElem?_map, h5]; rfl, RepO.of_sh (Same.refl H) h6⟩
section
variable {P : Program} {w : World} {K : PySem.W.Frag} {mg : Str → Option Value} {base : Heap}
theorem fresh_ok {x qual : Str} {st : Stmt} {f : Addr} {fd : FuncData} {N ps : List Str} {k : Nat} {G : List D → Option D} (F : Fun K x qual st f fd) (S : FnScope N ps (defScope st))
    (hbody : ∀ (cdv : Value) (A : Around) (outer : List Env) (s : Shared) (H : Hp) (E : XK) (ds : List D) (d : D), Room k (A.deeper (envOfC qual (defScope st) s.heap.objs.size f cdv)) → G ds = some d → ds.length = ps.length →
      ∃ t, PMs (cxOf CX0 P w K mg base N qual (defScope st) f cdv A outer s H E).nox (defBody st) t ∧ retOf (t (startM N.length ds)) = some d ∧ own d = true) : FnOk P w K mg base CX0 (k + 1) f fd ps (freshSp K ps.length G) := by
  refine F.ok S (fun vs H Q E h => h.1) (fun cdv A outer s H vs Q E hr h => ?_)
  obtain ⟨hl, ds, d, r, e, q⟩ := h
  obtain ⟨t, ht, hq, ho⟩ := hbody cdv A outer s H E ds d hr e (r.length.symm.trans hl)
  refine ⟨_, ht, H, startM N.length ds, ?_⟩
  cases z : t (startM N.length ds) with
  | none => rw [z] at hq; cases hq
  | some res =>
    rw [z] at hq
    refine ⟨res, repM_start r, rfl, ?_⟩
    cases res with
    | rt d' => cases hq; exact fun v F' H' A s1 s2 r1 nd => q v H' A (s1.trans s2) (r1.thaw s1 ho) nd
    | nx δ => cases hq; exact fun σ' F' H' s1 ⟨As, R⟩ => q _ H' [] (s1.trans R.fz) (.imm rfl .non) List.nodup_nil
    | bk δ => cases hq
    | ct δ => cases hq
    | ex C δ => cases hq
    | mk C δ => cases hq
structure HasF (P : Program) (w : World) (K : PySem.W.Frag) (mg : Str → Option Value) (base : Heap) (k : Nat) (x : Str) (ps : List Str) (G : List D → Option D) : Prop where
  ex : ∃ f fd, FnOk P w K mg base CX0 k f fd ps (freshSp K ps.length G) ∧ mg x = some (.ref f) ∧ PySem.W.keepIn K (.ref f) = true ∧ Binds K fd ps []
theorem HasF.has {k : Nat} {x : Str} {ps : List Str} {G : List D → Option D} (h : HasF P w K mg base k x ps G) : Has P w K mg base k x ps G := by
  obtain ⟨f, fd, F, h1, h2, h3⟩ := h.ex
  refine ⟨f, fd, F.imp fun vs H Q E ⟨l, ds, d, r, e, q⟩ => ⟨l, ds, d, r, e, fun v H' A s r1 _ => q v H' s (r1.rep s)⟩, h1, h2, h3⟩
theorem law_okM {x qual q : Str} {st : Stmt} {f : Addr} {fd : FuncData} {N : List Str} {k : Nat} (F : Fun K x qual st f fd) (S : FnScope N [q] (defScope st))
    (hbody : ∀ (cdv : Value) (A : Around) (outer : List Env) (s : Shared) (H : Hp) (E : XK) (ns : List Int), Room k (A.deeper (envOfC qual (defScope st) s.heap.objs.size f cdv)) → ns.length ≤ 63 →
      ∃ t, PMs (cxOf CX0 P w K mg base N qual (defScope st) f cdv A outer s H E).nox (defBody st) t ∧ retOf (t (startM N.length [.seq (ns.map D.int)])) = some (.bl true)) : FnOk P w K mg base CX0 (k + 1) f fd [q] (spLaw K) := by
  refine F.ok S (fun vs H Q E h => ?_) (fun cdv A outer s H vs Q E hr h => ?_)
  · obtain ⟨a, ns, rfl, _⟩ := h
    rfl
  obtain ⟨a, ns, rfl, hS, hl, q⟩ := h
  obtain ⟨t, ht, hq⟩ := hbody cdv A outer s H E ns hr hl
  refine ⟨_, ht, H, startM N.length [.seq (ns.map D.int)], ?_⟩
  cases z : t (startM N.length [.seq (ns.map D.int)]) with
  | none => rw [z] at hq; cases hq
  | some res =>
    rw [z] at hq
    refine ⟨res, repM_start (.cons (.seq hS (Reps.ints ns)) .nil), rfl, ?_⟩
    cases res with
    | rt d' =>
      cases hq
      intro v F' H' A s1 s2 r1 nd
      cases r1.rep s2
      exact q H'
    | nx δ => cases hq
    | bk δ => cases hq
    | ct δ => cases hq
    | ex C δ => cases hq
    | mk C δ => cases hq
end
theorem pv_call {X : Cx} {e : Expr} {es : List Expr} {g : FA} {pos p : Pos} {k j : Nat} {x : Str} {ps : List Str} {G : List D → Option D} (F : HasF X.prog X.w X.K X.mg X.base k x ps G) (hr : Room j X.A) (ha : PAD X (e :: es) g) (hk : k ≤ j := by decide) (hg : Gl X x := by rfl)
    (hn : (e :: es).length = ps.length := by rfl) (hdb : (x == ("__debug__" : Str)) = false := by decide) (he : starEach (e :: es) X.env = (false, eval e X.env) :: starEach es X.env := by rfl) (hpl : (backTo pos (starEach es X.env)).any (·.1) = false := by rfl) :
    PV X (.Call (.Name x p) (e :: es) [] pos) (vCall G g) := by
  obtain ⟨f, fd, F, hm, kp, hb⟩ := F.ex
  refine imp (pe_call F (hr.mono hk) hg hm kp hb .nil pass0 ha hdb he hpl) fun σ H Q ⟨F0, δ, As, d, δ', R, q, k⟩ => ?_
  unfold vCall at q
  obtain ⟨ds, eds, q⟩ := Option.bind_eq_some_iff.mp q
  obtain ⟨d0, ed, q⟩ := Option.bind_eq_some_iff.mp q
  split at q
  · rename_i ho
    cases q
    refine ⟨δ, ds, R.toS, eds, fun vs H1 s1 r1 l => ?_⟩
    show freshSp X.K ps.length G (vs ++ []) H1 Q E0
    rw [List.append_nil]
    refine ⟨l.trans hn, ds, d, r1, ed, fun v H' A s2 r2 nd => ?_⟩
    have nA : ∀ a ∈ A, H a = none := fun a m => by
      cases z : H a with
      | none => rfl
      | some u => have := (r2.dom a m).2; rw [s1 a u z] at this; cases this
    exact k v F0 H' A As (.fresh (s1.trans s2) nA nd fun i a m => (R.dom m).1) (R.grow (s1.trans s2)) (r2.thaw (R.fz.trans s1) ho)
  · cases q
end Dl
namespace Dl
open PySem PySem.Spec PyProof.Rows L2
/-! ### changing an owned list -/
section
variable {K : PySem.W.Frag} {F H : Hp} {σ : L2.St} {δ : DS} {As : Nat → List Addr}
theorem RepO.lst_inv {ds : List D} : ∀ {v : V} {d : D} {A : List Addr}, RepO K F H v d A → d = .lst ds → ∃ a vs A0, v = .ref a ∧ A = a :: A0 ∧ H a = some (.lst vs) ∧ F a = none ∧ RepOs K F H vs ds A0
  | _, _, _, .imm i _, e => by subst e; rw [Dl.imm] at i; cases i
  | _, _, _, .shr _, e => nomatch e
  | _, _, _, .tup _ _, e => nomatch e
  | _, _, _, .lst h n r, e => by cases e; exact ⟨_, _, _, rfl, rfl, h, n, r⟩
theorem RepA.lst {i : Nat} {ds : List D} (R : RepA K F H σ δ As) (h : δ[i]? = some (some (.lst ds))) : ∃ a vs A0, σ[i]? = some (some (.ref a)) ∧ As i = a :: A0 ∧ H a = some (.lst vs) ∧ F a = none ∧ RepOs K F H vs ds A0 := by
  obtain ⟨v, h1, h2⟩ := R.val i _ h
  obtain ⟨a, vs, A0, rfl, e, h3, h4, h5⟩ := h2.lst_inv rfl
  exact ⟨a, vs, A0, h1, e, h3, h4, h5⟩
theorem same_upd {a : Addr} {o : HO} (s : Same F H) (n : F a = none) : Same F (upd H a o) := fun b u e => by
  have : b ≠ a := fun z => by rw [z, n] at e; cases e
  rw [upd_ne this]; exact s b u e
/-- the list of slot i is another one -/
theorem RepA.wr {i : Nat} {a : Addr} {vs vs' : List V} {ds ds' : List D} {A0 A' : List Addr} (R : RepA K F H σ δ As) (h : δ[i]? = some (some (.lst ds))) (hσ : σ[i]? = some (some (.ref a))) (hA : As i = a :: A0) (ha : H a = some (.lst vs)) (hF : F a = none)
    (r : RepOs K F H vs' ds' A') (na : a ∉ A') (nd : A'.Nodup) (dj : ∀ j x, j ≠ i → x ∈ As j → x ∉ A') : RepM K F (upd H a (.lst vs')) σ (δ.set i (some (.lst ds'))) := by
  have hi : i < δ.length := (List.getElem?_eq_some_iff.mp h).1
  have nj : ∀ j x, j ≠ i → x ∈ As j → x ≠ a := fun j x hj m z => R.dj j i x hj m (by rw [hA, z]; exact List.mem_cons_self)
  refine ⟨_, R.write hi hσ (keep_upd ha) (same_upd R.fz hF) (fun j x hj m => upd_ne (nj j x hj m)) (.lst upd_same hF (r.frame (keep_upd ha) fun x m => upd_ne fun z => na (z ▸ m))) (List.nodup_cons.mpr ⟨na, nd⟩) fun j x hj m z => ?_⟩
  rcases List.mem_cons.mp z with z | z
  · exact nj j x hj m z
  · exact dj j x hj m z
/-- a row of the list of slot i is another one -/
theorem RepA.row {i j : Nat} {ds row : List D} (R : RepA K F H σ δ As) (h : δ[i]? = some (some (.lst ds))) (hj : ds[j]? = some (.lst row)) : ∃ (a : Addr) (vs : List V) (b : Addr) (ws : List V) (B0 O : List Addr), σ[i]? = some (some (.ref a)) ∧ H a = some (.lst vs) ∧ vs[j]? = some (.ref b) ∧ H b = some (.lst ws) ∧ RepOs K F H ws row B0 ∧ (b :: B0).Nodup ∧ (∀ x, x ∈ b :: B0 → x ∈ As i) ∧
    (∀ x, x ∈ O → x ∈ As i) ∧ a ∈ O ∧ (∀ x, x ∈ b :: B0 → x ∉ O) ∧
    ∀ {ws' : List V} {row' : List D} {B' : List Addr}, RepOs K F H ws' row' B' → b ∉ B' → B'.Nodup → (∀ x, x ∈ B' → x ∉ O) → (∀ k x, k ≠ i → x ∈ As k → x ∉ B') → RepM K F (upd H b (.lst ws')) σ (δ.set i (some (.lst (ds.set j (.lst row'))))) := by
  obtain ⟨a, vs, A0, s1, eA, g1, n1, ro⟩ := R.lst h
  obtain ⟨v0, A1, B, A3, hv, rB, e0, pk⟩ := ro.pick hj
  obtain ⟨b, ws, B0, rfl, eB, g2, n2, rr⟩ := rB.lst_inv rfl
  subst eB
  have nd0 := R.nd i
  rw [eA, e0] at nd0
  have nd1 := List.nodup_cons.mp nd0
  have nd2 := List.nodup_append.mp nd1.2
  have nd3 := List.nodup_append.mp nd2.2.1
  have inB : ∀ x, x ∈ b :: B0 → x ∈ As i := fun x m => by rw [eA, e0]; exact List.mem_cons_of_mem _ (List.mem_append_right _ (List.mem_append_left _ m))
  have inO : ∀ x, x ∈ a :: (A1 ++ A3) → x ∈ As i := fun x m => by
    rw [eA, e0]
    rcases List.mem_cons.mp m with z | z
    · rw [z]; exact List.mem_cons_self
    · refine List.mem_cons_of_mem _ ?_
      rcases List.mem_append.mp z with z | z
      · exact List.mem_append_left _ z
      · exact List.mem_append_right _ (List.mem_append_right _ z)
  have sep : ∀ x, x ∈ b :: B0 → x ∉ a :: (A1 ++ A3) := fun x m z => by
    rcases List.mem_cons.mp z with z | z
    · rw [z] at m; exact nd1.1 (List.mem_append_right _ (List.mem_append_left _ m))
    · rcases List.mem_append.mp z with z | z
      · exact nd2.2.2 x z x (List.mem_append_left _ m) rfl
      · exact nd3.2.2 x m x z rfl
  refine ⟨a, vs, b, ws, B0, a :: (A1 ++ A3), s1, g1, hv, g2, rr, nd3.1, inB, inO, List.mem_cons_self, sep, fun {ws' row' B'} r' nb nd' sO sK => ?_⟩
  have hi : i < δ.length := (List.getElem?_eq_some_iff.mp h).1
  have hab : a ≠ b := fun z => sep b List.mem_cons_self (by rw [z]; exact List.mem_cons_self)
  have nO : ∀ x, x ∈ a :: (A1 ++ A3) → x ≠ b := fun x m z => sep b List.mem_cons_self (z ▸ m)
  have rowN : RepO K F (upd H b (.lst ws')) (.ref b) (.lst row') (b :: B') := .lst upd_same n2 (r'.frame (keep_upd g2) fun x m => upd_ne fun z => nb (z ▸ m))
  have tree := pk (keep_upd (o := .lst ws') g2) (fun x m => upd_ne (nO x (List.mem_cons_of_mem _ (by
    rcases m with m | m
    · exact List.mem_append_left _ m
    · exact List.mem_append_right _ m)))) rowN
  have hset : vs.set j (.ref b) = vs := by
    refine List.ext_getElem? fun k => ?_
    rw [List.getElem?_set]
    split
    · rename_i hk; subst hk
      rw [hv, if_pos (List.getElem?_eq_some_iff.mp hv).1]
    · rfl
  rw [hset] at tree
  have nj : ∀ k x, k ≠ i → x ∈ As k → x ≠ b := fun k x hk m z => R.dj k i x hk m (z ▸ inB b List.mem_cons_self)
  refine ⟨_, R.write hi s1 (keep_upd g2) (same_upd R.fz n2) (fun k x hk m => upd_ne (nj k x hk m)) (.lst (by rw [upd_ne hab]; exact g1) n1 tree) ?_ fun k x hk m z => ?_⟩
  · refine List.nodup_cons.mpr ⟨fun z => ?_, List.nodup_append.mpr ⟨nd2.1, List.nodup_append.mpr ⟨List.nodup_cons.mpr ⟨nb, nd'⟩, nd3.2.1, fun x hx y hy e => ?_⟩, fun x hx y hy e => ?_⟩⟩
    · rcases List.mem_append.mp z with z | z
      · exact nd1.1 (List.mem_append_left _ z)
      · rcases List.mem_append.mp z with z | z
        · rcases List.mem_cons.mp z with z | z
          · exact hab z
          · exact sO a z List.mem_cons_self
        · exact nd1.1 (List.mem_append_right _ (List.mem_append_right _ z))
    · subst e
      rcases List.mem_cons.mp hx with z | z
      · exact nO x (List.mem_cons_of_mem _ (List.mem_append_right _ hy)) z
      · exact sO x z (List.mem_cons_of_mem _ (List.mem_append_right _ hy))
    · subst e
      rcases List.mem_append.mp hy with z | z
      · rcases List.mem_cons.mp z with z | z
        · exact nO x (List.mem_cons_of_mem _ (List.mem_append_left _ hx)) z
        · exact sO x z (List.mem_cons_of_mem _ (List.mem_append_left _ hx))
      · exact nd2.2.2 x hx x (List.mem_append_right _ z) rfl
  · rcases List.mem_cons.mp z with z | z
    · exact R.dj k i x hk m (inO x (by rw [z]; exact List.mem_cons_self))
    · rcases List.mem_append.mp z with z | z
      · exact R.dj k i x hk m (inO x (List.mem_cons_of_mem _ (List.mem_append_left _ z)))
      · rcases List.mem_append.mp z with z | z
        · rcases List.mem_cons.mp z with z | z
          · exact nj k x hk m z
          · exact sK k x hk m z
        · exact R.dj k i x hk m (inO x (List.mem_cons_of_mem _ (List.mem_append_right _ z)))
end
section
variable {X : Cx} {e ei : Expr} {fk : FD} {fm : FM} {pos p1 p2 p3 p4 : Pos}
/-- x[k].append(e) -/
def sApp2 (i : Nat) (fk : FD) (fm : FM) : SD := fun δ => match δ[i]? with
  | some (some (.lst ds)) => (fk δ).bind fun kd => match kd with
    | .int k => (ixN ds.length k).bind fun j => match ds[j]? with
      | some (.lst _) => (fm δ).bind fun p => match p.2[i]? with
        | some (some (.lst es)) => match es[j]? with
          | some (.lst row) => if row.length ≤ 999 ∧ es.length = ds.length then some (.nx (p.2.set i (some (.lst (es.set j (.lst (row ++ [p.1]))))))) else none
          | _ => none
        | _ => none
      | _ => none
    | _ => none
  | _ => none
theorem pm_app2 (i : Nat) {c : Expr} (hc : PE X c (tBM X.K "list" rAppend (tOp (rIxL X.K) (tVar i) (up X.K fk)) (tCons (upV X.K fm) tNil))) (hs : swapsWith c none pos.line X.env = pure false := by rfl) : PMD X (.Expr c pos) (sApp2 i fk fm) := impS (ps_expr hc hs) fun E σ H ⟨F, δ, r, ⟨As, R⟩, q, k⟩ => by
  unfold sApp2 at q
  split at q
  · rename_i ds h0
    obtain ⟨kd, ek, q⟩ := Option.bind_eq_some_iff.mp q
    split at q
    · rename_i kk
      obtain ⟨j, hj, q⟩ := Option.bind_eq_some_iff.mp q
      split at q
      · rename_i row0 hrow0
        obtain ⟨⟨d, δ'⟩, ed, q⟩ := Option.bind_eq_some_iff.mp q
        dsimp only at q
        split at q
        · rename_i es h1
          split at q
          · rename_i row hrow
            split at q
            · rename_i hz
              cases q
              obtain ⟨a, vs, b, ws, B0, O, s0, g0, hv0, gb, rr0, _, _, _, _, _⟩ := R.row h0 hrow0
              have ro0 := (R.lst h0)
              obtain ⟨a', vs', A0', s0', _, g0', _, rl⟩ := ro0
              have ea : a' = a := by rw [s0] at s0'; cases s0'; rfl
              subst ea
              have ev' : vs' = vs := by rw [g0] at g0'; cases g0'; rfl
              subst ev'
              refine ⟨.ref a', s0, δ, .int kk, R.toS, ek, fun iv H1 s1 ri => ?_⟩
              cases ri
              refine ⟨a', vs', kk, .ref b, rfl, rfl, SqL.of (s1 _ _ g0), ?_, .inl ⟨rfl, ws, SqL.of (s1 _ _ gb)⟩, ?_⟩
              · unfold L2.atI; rw [rl.length, hj]; exact hv0
              refine ⟨F, δ, As, d, δ', R.grow s1, ed, fun v F' H' A As' ev R' r' => ?_⟩
              obtain ⟨a1, vs1, b1, ws1, B1, O1, t0, u0, hv1, ub, rr1, ndB, inB, inO, aO, sep, fin⟩ := R'.row h1 hrow
              have ea : a1 = a' := by rw [s0] at t0; cases t0; rfl
              subst ea
              have es1 : vs1 = vs' := by
                have := (ev.hs _ _ (s1 _ _ g0))
                rw [u0] at this; cases this; rfl
              subst es1
              have eb : b1 = b := by rw [hv0] at hv1; cases hv1; rfl
              subst eb
              have nB := List.nodup_cons.mp ndB
              refine ⟨b1, ws1, v, rfl, rfl, ub, Nat.lt_of_le_of_lt (by rw [rr1.length]; exact hz.1) (small1000 (show 999 ≤ 1000 by decide)), ?_⟩
              refine k σ F' _ ev.fs (fin (rr1.snoc r') (fun z => ?_) (List.nodup_append.mpr ⟨nB.2, ev.nd, fun x hx y hy e => ?_⟩) (fun x m z => ?_) fun kx x hk m z => ?_)
              · rcases List.mem_append.mp z with z | z
                · exact nB.1 z
                · exact ev.dj i b1 (inB b1 List.mem_cons_self) z
              · subst e; exact ev.dj i x (inB x (List.mem_cons_of_mem _ hx)) hy
              · rcases List.mem_append.mp m with m | m
                · exact sep x (List.mem_cons_of_mem _ m) z
                · exact ev.dj i x (inO x z) m
              · rcases List.mem_append.mp z with z | z
                · exact R'.dj kx i x hk m (inB x (List.mem_cons_of_mem _ z))
                · exact ev.dj kx x m z
            · cases q
          · cases q
        · cases q
      · cases q
    · cases q
  · cases q
/-- x[k][l] = e, e without lists -/
def sPut2 (i : Nat) (fk fl : FD) (fm : FM) : SD := fun δ => (fm δ).bind fun p => if imm p.1 then match p.2[i]? with
  | some (some (.lst ds)) => (fk p.2).bind fun kd => match kd with
    | .int k => (ixN ds.length k).bind fun j => match ds[j]? with
      | some (.lst row) => (fl p.2).bind fun ld => match ld with
        | .int l => (ixN row.length l).bind fun m => some (.nx (p.2.set i (some (.lst (ds.set j (.lst (row.set m p.1)))))))
        | _ => none
      | _ => none
    | _ => none
  | _ => none else none
theorem pm_put2 (i : Nat) {tg : Expr} {fl : FD} (he : PV X e fm) (hg : PG X tg (gSub (tOp (rIxL X.K) (tVar i) (up X.K fk)) (up X.K fl) rSetL)) (hs : swapsWithSole [tg] e pos.line X.env = pure false := by rfl) (hw : swappedStores [tg] e X.env = pure none := by rfl)
    (h1 : (assignEach [tg] X.env).map (·.2) = [assign tg X.env] := by rfl) : PMD X (.Assign [tg] e pos) (sPut2 i fk fl fm) := impS (ps_asg he hg hs hw h1) fun E σ H ⟨F, δ, r, ⟨As, R⟩, q, k⟩ => by
  unfold sPut2 at q
  obtain ⟨⟨d, δ'⟩, ed, q⟩ := Option.bind_eq_some_iff.mp q
  dsimp only at q
  split at q
  · rename_i hi
    split at q
    · rename_i ds h1
      obtain ⟨kd, ek, q⟩ := Option.bind_eq_some_iff.mp q
      split at q
      · rename_i kk
        obtain ⟨j, hj, q⟩ := Option.bind_eq_some_iff.mp q
        split at q
        · rename_i row hrow
          obtain ⟨ld, el, q⟩ := Option.bind_eq_some_iff.mp q
          split at q
          · rename_i ll
            obtain ⟨m, hm, q⟩ := Option.bind_eq_some_iff.mp q
            cases q
            refine ⟨F, δ, As, d, δ', R, ed, fun v F' H' A As' ev R' r' => ?_⟩
            have eA : A = [] := r'.none_of hi
            subst eA
            obtain ⟨a, vs, A0, s0, _, g0, _, rl⟩ := R'.lst h1
            refine ⟨.ref a, s0, δ', .int kk, R'.toS, ek, fun iv H1 s1 ri => ?_⟩
            cases ri
            have R1 := R'.grow s1
            obtain ⟨a1, vs1, b, ws, B0, O, t0, u0, hv1, ub, rr1, ndB, inB, inO, aO, sep, _⟩ := R1.row h1 hrow
            have ea : a1 = a := by rw [s0] at t0; cases t0; rfl
            subst ea
            have es1 : vs1 = vs := by
              have := s1 _ _ g0
              rw [u0] at this; cases this; rfl
            subst es1
            refine ⟨a1, vs1, kk, .ref b, rfl, rfl, SqL.of u0, by unfold L2.atI; rw [rl.length, hj]; exact hv1, ?_⟩
            refine ⟨δ', .int ll, R1.toS, el, fun iv2 H2 s2 ri2 => ?_⟩
            cases ri2
            have R2 := R1.grow s2
            obtain ⟨a2, vs2, b2, ws2, B2, O2, t2, u2, hv2, ub2, rr2, ndB2, inB2, inO2, aO2, sep2, fin⟩ := R2.row h1 hrow
            have ea : a2 = a1 := by rw [s0] at t2; cases t2; rfl
            subst ea
            have es2 : vs2 = vs1 := by
              have := s2 _ _ u0
              rw [u2] at this; cases this; rfl
            subst es2
            have eb : b2 = b := by rw [hv1] at hv2; cases hv2; rfl
            subst eb
            refine ⟨b2, ws2, ll, m, rfl, rfl, ub2, by rw [rr2.length]; exact hm, ?_⟩
            have ml : m < row.length := (ixN_seq hm).2.1
            obtain ⟨v0, C1, C, C3, _, _, eC, pk⟩ := rr2.pick (i := m) (d := row[m]) (List.getElem?_eq_getElem ml)
            have rv : RepO X.K F' H2 v d [] := r'.frame (same_keepI (s1.trans s2)) fun x mm => nomatch mm
            have rn := pk (H' := H2) (fun _ _ e _ => e) (fun _ _ => rfl) rv
            have nB := List.nodup_cons.mp ndB2
            have nB2 := nB.2
            rw [eC] at nB2
            have n1 := List.nodup_append.mp nB2
            have n2 := List.nodup_append.mp n1.2.1
            have inC : ∀ x, x ∈ C1 ++ ([] ++ C3) → x ∈ B2 := fun x mm => by
              rw [eC]
              rcases List.mem_append.mp mm with z | z
              · exact List.mem_append_left _ z
              · exact List.mem_append_right _ (List.mem_append_right _ (by simpa using z))
            refine k σ F' _ ev.fs (fin rn (fun z => nB.1 (inC _ z)) (List.nodup_append.mpr ⟨n1.1, by simpa using n2.2.1, fun x hx y hy e => ?_⟩) (fun x mm => sep2 x (List.mem_cons_of_mem _ (inC x mm))) fun kx x hk mm z => R2.dj kx i x hk mm (inB2 x (List.mem_cons_of_mem _ (inC x z))))
            subst e
            exact n1.2.2 x hx x (List.mem_append_right _ (by simpa using hy)) rfl
          · cases q
        · cases q
      · cases q
    · cases q
  · cases q
end
end Dl
namespace Dl
open PySem PySem.Spec PyProof.Rows L2
/-! ### comprehensions whose items are of one's own -/
def shO (δ : DS) : DS := δ.map (Option.map sh)
def ownOf (f : FM) (δ : DS) : Option D := (f δ).bind fun p => if own p.1 then some p.1 else none
theorem RepS.toA {K : PySem.W.Frag} {H : Hp} {σ : L2.St} {δ : DS} (R : RepS K H σ δ) : RepA K H H σ (shO δ) (fun _ => []) := by
  refine ⟨Same.refl H, by unfold shO; rw [List.length_map]; exact R.len, fun i d q => ?_, fun _ _ => rfl, fun _ => List.nodup_nil, fun _ _ _ _ m => nomatch m⟩
  unfold shO at q
  rw [List.getElem?_map] at q
  obtain ⟨o, h1, h2⟩ := Option.map_eq_some_iff.mp q
  cases o with
  | none => cases h2
  | some d0 =>
    cases h2
    obtain ⟨v, h3, h4⟩ := R.val i d0 h1
    exact ⟨v, h3, RepO.of_sh (Same.refl H) h4⟩
theorem ownUp {K : PySem.W.Frag} {H₂ H4 : Hp} {σ : L2.St} {δ : DS} {f : FM} {e : D} (h : ownOf f (shO δ) = some e) (R : RepS K H4 σ δ) (s : Same H₂ H4) : upV K f σ H4 fun v H5 => Same H4 H5 ∧ ∃ A, RepO K H₂ H5 v e A ∧ A.Nodup ∧ ∀ a ∈ A, H4 a = none := by
  unfold ownOf at h
  obtain ⟨⟨d, δ'⟩, e1, h⟩ := Option.bind_eq_some_iff.mp h
  split at h
  · rename_i ho
    cases h
    refine ⟨H4, shO δ, fun _ => [], d, δ', R.toA, e1, fun v F' H' A As' ev R' r' => ⟨ev.hs, A, (r'.thaw ev.fs ho).thaw s ho, ev.nd, fun a m => ?_⟩⟩
    rcases ev.fA a m with ⟨j, z⟩ | z
    · cases z
    · exact z
  · cases h
theorem none_before {H H' : Hp} {a : Addr} (s : Same H H') (h : H' a = none) : H a = none := by
  cases q : H a with
  | none => rfl
  | some u => rw [s a u q] at h; cases h
theorem accStep {K : PySem.W.Frag} {F H H' : Hp} {vs : List V} {ds : List D} {Acc A : List Addr} {v : V} {e : D} (r : RepOs K F H vs ds Acc) (nd : Acc.Nodup) (s : Same H H') (r' : RepO K F H' v e A) (nd' : A.Nodup) (fr : ∀ a ∈ A, H a = none) : ∃ Acc', RepOs K F H' (vs ++ [v]) (ds ++ [e]) Acc' ∧ Acc'.Nodup := by
  refine ⟨Acc ++ A, (r.frame (same_keepI s) fun a m => ?_).snoc r', List.nodup_append.mpr ⟨nd, nd', fun x hx y hy q => ?_⟩⟩
  · obtain ⟨⟨ws, e⟩, _⟩ := r.dom a m
    rw [e]; exact s a _ e
  · subst q
    obtain ⟨⟨ws, e⟩, _⟩ := r.dom x hx
    rw [fr x hy] at e; cases e
section
variable {X : Cx} {pins : List (Addr × Obj)} {σ : L2.St} {H₂ : Hp} {s₂ : Shared} {scope : Scope} {cl : List (Str × Addr)} {x : Str} {N : List Str} {js : List Nat} {C : Addr} {fp : List Addr}
theorem comp_blockF {elt iter : Expr} {px pos : Pos} {it : Addr} {tn : Nat → Heap → Prop} {J : It} {ds xs : List D} {δ : DS} {felt : FM} {RR : Value → Addr → Result → Shared → Prop} {E : Value → Shared → Prop} (I : L2.Inv X pins σ H₂ s₂) (hcm : X.calm = true) (O : CompOk X scope cl x N js)
    (T : Turn X.prog X.w X.K (.Name x px) J fp it tn) (st : tn 0 s₂.heap) (hf : ∀ b ∈ fp, FpOk X pins H₂ b) (itd : ItD X.K J H₂ ds) (R : RepS X.K H₂ σ δ) (he : ∀ C s₂ H₂ fp pn, PV (cxComp X scope cl x N C s₂ H₂ fp pn) elt felt)
    (hm : mapO (fun d => ownOf felt (shO (some d :: slotsOf js δ))) ds = some xs) (hz : xs.length ≤ 1000)
    (hRR : ∀ (D C : Addr) (s' : Shared) (Hend : Hp) (vs : List V), s₂.heap.objs.size ≤ C → L2.Inv X pins σ Hend s' → Same H₂ Hend → Hend D = some (.lst vs) → (∃ Acc, RepOs X.K H₂ Hend vs xs Acc ∧ Acc.Nodup ∧ D ∉ Acc ∧ H₂ D = none) → (∃ m, s'.heap.Ns C m) → Hend C = none → RR (.ref D) C (.ok .next) s') :
    wpAny (model X.prog X.w) X.A (newList []) (fun acc s₃ => wpAny (model X.prog X.w) X.A (newFunctionEnv scope X.env.globals cl [] X.env.qual none .none (some X.env)) (fun cenv s₄ =>
      codeAny (model X.prog X.w) X.A (.compStart (.ListComp elt [⟨.Name x px, iter, [], 0⟩] scope pos) 0 (.ref it) acc { cenv with scope := relabel scope X.env }) (RR acc cenv.locals) s₄) E s₃) E s₂ := by
  obtain ⟨ml, mg'⟩ := mapO_get hm
  have objs := T.obj 0 s₂.heap st
  have objs' : ∀ b ∈ fp, ∃ o, s₂.heap.get? b = some o := fun b hb => let ⟨o, h, _⟩ := objs b hb; ⟨o, h⟩
  refine wpAny_newObj_type (wpAny_newFunctionEnv O.nocell (by intro y hy; simp at hy) (fun h₁ hns₁ hsb₁ => ?_) O.kind)
  dsimp only at hns₁ hsb₁ ⊢
  generalize hP : s₂.heap.push { cls := .type "list", dict := none, data := .seq ([] : List Value).toArray } = P2 at hns₁ hsb₁ ⊢
  have hC : P2.objs.size = s₂.heap.objs.size + 1 := by rw [← hP, Heap.size_push]
  generalize hCC : P2.objs.size = C at *
  have hCle : s₂.heap.objs.size ≤ C := by omega
  have hDle : s₂.heap.objs.size ≤ s₂.heap.objs.size := by omega
  have hDC : s₂.heap.objs.size ≠ C := by omega
  have old : ∀ b o, s₂.heap.get? b = some o → h₁.get? b = some o := fun b o e => by
    refine hsb₁.extBut b o (Nat.ne_of_lt (Nat.lt_of_lt_of_le (Heap.lt_size e) hCle)) (Heap.get?_push_of_some _ ?_)
    rw [← hP]
    exact Heap.get?_push_of_some _ e
  have hacc : h₁.get? s₂.heap.objs.size = some { cls := .type "list", data := .seq ([] : List Value).toArray } := by
    refine hsb₁.extBut s₂.heap.objs.size _ hDC (Heap.get?_push_of_some _ ?_)
    rw [← hP]
    exact Heap.get?_push_size _ rfl
  have I0 := fun tk => comp_start (C := C) (tk := tk) I hcm O hCle hf objs' old hns₁ I.len
  have dstk : s₂.heap.objs.size ∉ frs X.stack := notIn_stack I hDle
  have fne : ∀ b ∈ fp, b ≠ s₂.heap.objs.size := fun b hb e => by
    obtain ⟨o, h⟩ := objs' b hb
    exact absurd (Heap.lt_size h) (by rw [e]; exact Nat.lt_irrefl _)
  have cne : ∀ y c, cl.lookup y = some c → c ≠ s₂.heap.objs.size := fun y c e z => by
    obtain ⟨v, o, h1, _⟩ := I.cell y c (O.cls y c e)
    exact absurd (Heap.lt_size h1) (by rw [z]; exact Nat.lt_irrefl _)
  have pne : ∀ p ∈ X.pn ++ pins, p.1 ≠ s₂.heap.objs.size := fun p hp e => by
    exact absurd (Heap.lt_size (I.pin p hp).1) (by rw [e]; exact Nat.lt_irrefl _)
  -- what the iterator's records keep
  have stat : ∀ {H' : Hp} {pl : List (Addr × Obj)}, (∀ b ∈ fp, H' b = none) → (∀ p ∈ pl, ∀ b ∈ fp, p.1 ≠ b) → ∀ b ∈ fp, FpOk (cxComp X scope cl x N C s₂ H₂ fp (X.pn ++ pins)) pl H' b := fun {H' pl} hn hpl b hb => by
    obtain ⟨o, h⟩ := objs' b hb
    refine ⟨hn b hb, Nat.ne_of_lt (Nat.lt_of_lt_of_le (Heap.lt_size h) hCle), fun z => ?_, .inl hb, fun y c e => (hf b hb).2.2.2.2.1 y c (O.cls y c e), fun p hp => ?_⟩
    · rcases List.mem_cons.mp (I.stkSub b z) with e | e
      · exact (hf b hb).2.1 e
      · exact (hf b hb).2.2.1 e
    · rcases List.mem_append.mp hp with q | q
      · exact (hf b hb).2.2.2.2.2 p q
      · exact hpl p q b hb
  have loop : ∀ s₃ : Shared, s₃ = { s₂ with heap := h₁, toks := s₂.toks + ([] : List (Str × Value)).length } →
      codeAny (model X.prog X.w) X.A (.compLoop (.ListComp elt [⟨.Name x px, iter, [], 0⟩] scope pos) 0 (.ref it) (.ref s₂.heap.objs.size) (compEnvC scope cl C X.env)) (RR (.ref s₂.heap.objs.size) C) s₃ := by
    rintro s₃ rfl
    refine compLoop_own (fun n s => ∃ (i : Nat) (σ' : L2.St) (H' : Hp) (vs : List V) (o : Option D), n = ds.length - i ∧ i ≤ ds.length ∧ L2.Inv (cxComp X scope cl x N C s₂ H₂ fp (X.pn ++ pins)) [] σ' H' s ∧ Same H₂ H' ∧ RepS X.K H' σ' (o :: slotsOf js δ) ∧ tn i s.heap ∧ (∀ b ∈ fp, H' b = none) ∧
      (∃ (its : List Value) (k : Nat), Vals vs its ∧ s.heap.get? s₂.heap.objs.size = some { cls := .type "list", data := .seq its.toArray k }) ∧ H' s₂.heap.objs.size = none ∧ (∃ Acc, RepOs X.K H₂ H' vs (xs.take i) Acc ∧ Acc.Nodup) ∧ vs.length = i) ?_ ds.length
      ⟨0, _, H₂, [], none, rfl, Nat.zero_le _, I0 _, Same.refl _, slots_rep R js, T.keep 0 _ _ st (fun b hb o e => old b o e), fun b hb => (hf b hb).1, ⟨[], 0, .nil, hacc⟩, I.hok.fresh hDle, ⟨[], .nil, List.nodup_nil⟩, rfl⟩
    rintro n s ⟨i, σ', H', vs, o, rfl, hi, I', sm, R', st', fr', ⟨its, k, rv, hD⟩, fD, ⟨Acc, rr, nda⟩, hl⟩
    by_cases hlt : i < ds.length
    · -- one more
      obtain ⟨go, yl⟩ := (itd i H' sm).1 hlt
      have hd0 : ds[i]? = some ds[i] := by simp [hlt]
      obtain ⟨e, ge, xe⟩ := mg' i _ hd0
      have I1 : L2.Inv (cxComp X scope cl x N C s₂ H₂ fp (X.pn ++ pins)) [(s₂.heap.objs.size, { cls := .type "list", data := .seq its.toArray k })] σ' H' s := I'.pins_of fun p hp => by
        have : p = (s₂.heap.objs.size, { cls := .type "list", data := .seq its.toArray k }) := by simpa using hp
        subst this
        exact ⟨hD, fD, hDC, dstk, fun v z => by cases z⟩
      refine thn (T.item (cxComp X scope cl x N C s₂ H₂ fp (X.pn ++ pins)) rfl rfl rfl rfl i _ s σ' H' (fun _ _ => False) I1 (stat fr' fun p hp b hb => by
        have : p = (s₂.heap.objs.size, { cls := .type "list", data := .seq its.toArray k }) := by simpa using hp
        subst this
        exact (fne b hb).symm) st' go) fun r s1 ⟨u, hr, h4⟩ => ?_
      subst hr
      refine thn h4 fun _ s2 ⟨y, H'', I2, ru, yy, st2, fr2⟩ => ?_
      obtain ⟨s3, d, hd, rd⟩ := yl y H'' yy
      have hd' : d = ds[i] := by rw [hd0] at hd; exact (Option.some.inj hd).symm
      subst hd'
      have I3 := I2.pinned (stat fr2 fun p hp b hb => by
        have : p = (s₂.heap.objs.size, { cls := .type "list", data := .seq its.toArray k }) := by simpa using hp
        subst this
        exact (fne b hb).symm) (T.obj _ _ st2)
      refine thn (pg_name (X := cxComp X scope cl x N C s₂ H₂ fp (X.pn ++ pins)) (i := 0) O.nd O.h0 (.inl (lookup_relabel_local O.hx)) (.inl (by simp)) _ s2 σ' H'' y u (fun σ4 H4 => σ4 = σ'.set 0 (some y) ∧ H4 = H'') I3 ru ⟨rfl, rfl⟩) fun _ s4 ⟨σ4, H4, I4, e1, e2⟩ => ?_
      subst e1 e2
      have R4 : RepS X.K H4 (σ'.set 0 (some y)) (some ds[i] :: slotsOf js δ) := (R'.mono s3).set 0 rd
      refine thn (he C s₂ H₂ fp (X.pn ++ pins) _ s4 (σ'.set 0 (some y)) H4 (fun v H5 => Same H4 H5 ∧ ∃ A, RepO X.K H₂ H5 v e A ∧ A.Nodup ∧ ∀ a ∈ A, H4 a = none) I4 (ownUp ge R4 (sm.trans s3))) fun wv s5 ⟨v, H5, I5, rw5, s45, A5, r5, nd5, fr5⟩ => ?_
      have hD5 : s5.heap.get? s₂.heap.objs.size = some { cls := .type "list", data := .seq its.toArray k } := (I5.pin (s₂.heap.objs.size, { cls := .type "list", data := .seq its.toArray k }) (by simp)).1
      have fD5 : H5 s₂.heap.objs.size = none := (I5.pin (s₂.heap.objs.size, { cls := .type "list", data := .seq its.toArray k }) (by simp)).2.1
      have pf : ∀ b ∈ fp, ∀ ob, s2.heap.get? b = some ob → s5.heap.get? b = some ob ∧ H5 b = none := fun b hb ob hob => by
        have := I5.pin (b, ob) (List.mem_append_right _ (List.mem_append_right _ (mem_pinsAt hb hob)))
        exact ⟨this.1, this.2.1⟩
      have lz : its.length ≤ 1000 := by
        have := rv.length
        omega
      refine call_meets F.slot_list_append ⟨_, hD5, rfl⟩ F.entry_list_append (F.args_list_append_2 _ _) (PySem.list_append s₂.heap.objs.size its.toArray k wv (by rw [List.size_toArray]; exact le_line lz)) ⟨hD5, ?_⟩
      have q := PySem.IsL.update hD5 (fun a => a.push wv)
      have I6 : L2.Inv (cxComp X scope cl x N C s₂ H₂ fp (X.pn ++ pins)) [] (σ'.set 0 (some y)) H5 { s5 with heap := s5.heap.update s₂.heap.objs.size (Obj.mapSeq fun a => a.push wv), toks := s5.toks } :=
        (I5.pins_of (pins' := []) fun p hp => by simp at hp).turned (it := s₂.heap.objs.size) (t' := s5.toks) (fun b ob hb hu => (Heap.get?_update_other s5.heap _ (Ne.symm hb)).trans hu) fD5 hDC (.inr hDle) cne (fun p hp => by
          rcases List.mem_append.mp hp with z | z
          · exact pne p z
          · simp at z)
      refine ⟨ds.length - (i + 1), by omega, i + 1, σ'.set 0 (some y), H5, vs ++ [v], some ds[i], rfl, hlt, I6, (sm.trans s3).trans s45, R4.mono s45, ?_, ?_, ?_, fD5, ?_, by simp [hl]⟩
      · refine T.keep _ _ _ st2 fun b hb ob hob => ?_
        exact (Heap.get?_update_other s5.heap _ (Ne.symm (fne b hb))).trans (pf b hb ob hob).1
      · intro b hb
        obtain ⟨ob, hob, _⟩ := T.obj _ _ st2 b hb
        exact (pf b hb ob hob).2
      · have hf7 : its.toArray.push wv = (its ++ [wv]).toArray := by simp
        rw [hf7] at q
        exact ⟨its ++ [wv], _, rv.append (.cons rw5 .nil), q⟩
      · have e8 : xs.take (i + 1) = xs.take i ++ [e] := by
          rw [List.take_add_one, xe]; rfl
        rw [e8]
        exact accStep rr nda (s3.trans s45) r5 nd5 fun a m => (none_before s3 (fr5 a m))
    · -- the end
      have hie : i = ds.length := by omega
      refine thn (T.done (cxComp X scope cl x N C s₂ H₂ fp (X.pn ++ pins)) rfl rfl rfl rfl i [(s₂.heap.objs.size, { cls := .type "list", data := .seq its.toArray k })] s σ' H' (fun _ _ => False) (I'.pins_of fun p hp => by
        have : p = (s₂.heap.objs.size, { cls := .type "list", data := .seq its.toArray k }) := by simpa using hp
        subst this
        exact ⟨hD, fD, hDC, dstk, fun v z => by cases z⟩) (stat fr' fun p hp b hb => by
        have : p = (s₂.heap.objs.size, { cls := .type "list", data := .seq its.toArray k }) := by simpa using hp
        subst this
        exact (fne b hb).symm) st' ((itd i H' sm).2 (by omega))) fun r s1 ⟨hr, I8⟩ => ?_
      subst hr
      have hD8 : s1.heap.get? s₂.heap.objs.size = some { cls := .type "list", data := .seq its.toArray k } := (I8.pin (s₂.heap.objs.size, { cls := .type "list", data := .seq its.toArray k }) (by simp)).1
      have hxs : xs.take i = xs := List.take_of_length_le (by omega)
      rw [hxs] at rr
      have sn := same_new fD (.lst vs)
      have dn : ∀ b, ∀ u, H' b = some u → b ≠ s₂.heap.objs.size := fun b u z => ne_of_none z fD
      have un : Un (frs X.stack) fp H₂ (upd H' s₂.heap.objs.size (.lst vs)) s₂.heap s1.heap := by
        have b0 := I8.base
        refine ⟨fun b ob e n1 n2 n3 => b0.keep b ob e n1 n2 n3, fun b ob e n1 n2 n3 => b0.slot b ob e n1 n2 n3, fun b ob e n1 n3 => ?_, fun b ob e n3 => b0.there b ob e n3, fun b zs e => ?_, fun b ob u e => ?_, fun b ps e => ?_⟩
        · rw [upd_ne (Nat.ne_of_lt (Heap.lt_size e))]
          exact b0.free b ob e n1 n3
        · have z := b0.tups b zs e
          rw [upd_ne (dn _ _ z)]
          exact z
        · have z := b0.frzs b ob u e
          rw [upd_ne (dn _ _ z)]
          exact z
        · obtain ⟨more, z⟩ := b0.tbls b ps e
          exact ⟨more, by rw [upd_ne (dn _ _ z)]; exact z⟩
      have hok : HOk X.prog X.w (upd H' s₂.heap.objs.size (.lst vs)) s1.heap := fun b u z => by
        by_cases hb : b = s₂.heap.objs.size
        · rw [hb] at z ⊢
          rw [upd_same] at z
          cases z
          exact ⟨le_line (by omega), its, k, rv, hD8⟩
        · rw [upd_ne hb] at z
          exact (I8.hok b u z).stay (fun _ _ _ q => q) (fun c q => by rw [upd_ne (dn _ _ q)]; exact q) fun c ys q => by rw [upd_ne (dn _ _ q)]; exact q
      have IX : L2.Inv X pins σ (upd H' s₂.heap.objs.size (.lst vs)) s1 := I.call' I8.os un hok I8.bare fun b hb => ⟨(hf b hb).2.2.2.1, (hf b hb).2.1, (hf b hb).2.2.2.2.1, (hf b hb).2.2.2.2.2⟩
      obtain ⟨m8, hn8, _⟩ := I8.loc
      refine hRR s₂.heap.objs.size C s1 _ vs hCle IX (sm.trans sn) upd_same ⟨Acc, rr.frame (same_keepI sn) (fun a m => by
        obtain ⟨⟨ws, e⟩, _⟩ := rr.dom a m
        rw [e]; exact sn a _ e), nda, fun m => (by
        obtain ⟨⟨ws, e⟩, _⟩ := rr.dom _ m
        rw [fD] at e; cases e), I.hok.fresh hDle⟩ ⟨m8, hn8⟩ ?_
      rw [upd_ne (Ne.symm hDC)]
      exact I8.free
  exact codeAny_compStart_list (loop _ rfl) (T.self X.A 0 _ _ _ (T.keep 0 _ _ st (fun b hb o e => old b o e)) (loop _ rfl))
def vComp (src : FA) (js : List Nat) (felt : FM) : FM := fun δ => (src δ).bind fun ds => (mapO (fun d => ownOf felt (shO (some d :: slotsOf js δ))) ds).bind fun xs => if xs.length ≤ 1000 then some (.lst xs, δ) else none
theorem mapO_owns {f : FM} {g : D → DS} : ∀ {ds xs : List D}, mapO (fun d => ownOf f (g d)) ds = some xs → owns xs = true
  | [], xs, h => by cases h; rfl
  | d :: ds, xs, h => by
    obtain ⟨x, ex, h⟩ := Option.bind_eq_some_iff.mp (show ((ownOf f (g d)).bind _) = some xs from h)
    obtain ⟨ys, ey, h⟩ := Option.bind_eq_some_iff.mp h
    cases h
    rw [owns, mapO_owns ey, Bool.and_true]
    unfold ownOf at ex
    obtain ⟨p, _, ex⟩ := Option.bind_eq_some_iff.mp ex
    split at ex
    · rename_i ho; cases ex; exact ho
    · cases ex
theorem compRep {K : PySem.W.Frag} {F H H1 Hend : Hp} {σ : L2.St} {δ : DS} {As : Nat → List Addr} {xs : List D} {vs : List V} {D : Addr} (RA : RepA K F H σ δ As) (ho : owns xs = true) (s : Same H Hend) (s1 : Same H H1) (hD : Hend D = some (.lst vs)) (h : ∃ Acc, RepOs K H1 Hend vs xs Acc ∧ Acc.Nodup ∧ D ∉ Acc ∧ H1 D = none) :
    ∃ A, Ev F H As F Hend As A ∧ RepA K F Hend σ δ As ∧ RepO K F Hend (.ref D) (.lst xs) A := by
  obtain ⟨Acc, r, nd, nD, hn⟩ := h
  refine ⟨D :: Acc, .fresh s (fun a m => ?_) (List.nodup_cons.mpr ⟨nD, nd⟩) (fun i a m => (RA.dom m).1), RA.grow s, .lst hD ?_ (r.thaw (RA.fz.trans s1) ho)⟩
  · rcases List.mem_cons.mp m with z | z
    · rw [z]; exact none_before s1 hn
    · exact none_before s1 (r.dom a z).2
  · exact none_before (RA.fz.trans s1) hn
theorem compEnd {K : PySem.W.Frag} {F H H1 Hend : Hp} {σ : L2.St} {δ : DS} {As : Nat → List Addr} {xs : List D} {vs : List V} {D : Addr} {Q : VK} (RA : RepA K F H σ δ As) (k : ∀ v F' H' A As', Ev F H As F' H' As' A → RepA K F' H' σ δ As' → RepO K F' H' v (.lst xs) A → Q v H') (ho : owns xs = true) (s : Same H Hend) (s1 : Same H H1) (hD : Hend D = some (.lst vs)) (h : ∃ Acc, RepOs K H1 Hend vs xs Acc ∧ Acc.Nodup ∧ D ∉ Acc ∧ H1 D = none) : Q (.ref D) Hend := by
  obtain ⟨A, ev, R', r'⟩ := compRep RA ho s s1 hD h
  exact k _ F Hend A As ev R' r'
theorem compEndS {K : PySem.W.Frag} {F H H1 Hend : Hp} {σ : L2.St} {δ : DS} {As : Nat → List Addr} {xs : List D} {vs : List V} {D : Addr} {Q : L2.St → Hp → Prop} (i : Nat) (RA : RepA K F H σ δ As) (k : ∀ σ' F' H', Same F F' → RepM K F' H' σ' (δ.set i (some (.lst xs))) → Q σ' H') (ho : owns xs = true) (s : Same H Hend) (s1 : Same H H1) (hD : Hend D = some (.lst vs)) (h : ∃ Acc, RepOs K H1 Hend vs xs Acc ∧ Acc.Nodup ∧ D ∉ Acc ∧ H1 D = none) : Q (σ.set i (some (.ref D))) Hend := by
  obtain ⟨A, ev, R', r'⟩ := compRep RA ho s s1 hD h
  exact k _ F Hend (Same.refl F) (R'.setM i r' ev.nd ev.dj)
/-- [elt for x in iter], as a value -/
theorem pv_comp {elt iter : Expr} {px pos : Pos} {src : FA} {felt : FM} (hi : PID X (.Name x px) iter src) {N : List Str} {js : List Nat} (he : ∀ C s₂ H₂ fp pn, PV (cxComp X scope cl x N C s₂ H₂ fp pn) elt felt) (O : CompOk X scope cl x N js) (hcm : X.calm = true := by rfl)
    (hs : ∀ v, foldedSetIterable iter X.env v = pure v := by intro _; rfl) : PV X (.ListComp elt [⟨.Name x px, iter, [], 0⟩] scope pos) (vComp src js felt) := by
  intro pins s σ H Q I ⟨F, δ, As, d, δ', RA, q, k⟩
  have R := RA.toS
  unfold vComp at q
  obtain ⟨ds, eds, q⟩ := Option.bind_eq_some_iff.mp q
  obtain ⟨xs, exs, q⟩ := Option.bind_eq_some_iff.mp q
  by_cases hz : xs.length ≤ 1000
  · rw [if_pos hz] at q
    cases q
    rw [eval_ListComp]
    refine wpAny_comprehension_free (use := none) rfl hs O.clos O.kind O.names ?_
    refine wpAny_mono (hi pins s σ H (fun J H1 => Same H H1 ∧ ItD X.K J H1 ds) I ⟨δ, ds, R, eds, fun J H1 s1 itd => ⟨s1, itd⟩⟩) (fun v s1 h1 => wpAny_mono h1 (fun itv s2 h2 => ?_) fun _ _ z => z) fun _ _ z => z
    obtain ⟨it, fp, tn, J, H2, rfl, I2, T, st, hf, s1, itd⟩ := h2
    refine comp_blockF (RR := fun acc C => compPost (model X.prog X.w) X.A X.xe none (EP X pins σ Q) acc C) I2 hcm O T st hf itd (R.mono s1) he exs hz ?_
    intro D C s' Hend vs hC IX sm hD rr ⟨m, hn⟩ fC
    exact ⟨m, hn, fun h' hs' => ⟨.ref D, Hend, inv_letgo IX I2 hC fC hs', rfl, compEnd RA k (mapO_owns exs) (s1.trans sm) s1 hD rr⟩⟩
  · rw [if_neg hz] at q; cases q
/-- y = [elt for x in iter] -/
theorem pm_comp (i : Nat) {y : Str} {elt iter : Expr} {px py pos spos : Pos} {src : FA} {felt : FM} (hN : X.N.Nodup) (hi : PID X (.Name x px) iter src) {N : List Str} {js : List Nat} (he : ∀ C s₂ H₂ fp pn, PV (cxComp X scope cl x N C s₂ H₂ fp pn) elt felt) (O : CompOk X scope cl x N js)
    (hsw : swapsWith (.ListComp elt [⟨.Name x px, iter, [], 0⟩] scope pos) (some (.Name y py)) spos.line X.env = pure true := by rfl) (hy : X.N[i]? = some y := by rfl) (hl : Loc X.env.scope y := by first | exact Or.inl rfl | exact Or.inr rfl) (hcm : X.calm = true := by rfl)
    (hs : ∀ v, foldedSetIterable iter X.env v = pure v := by intro _; rfl) (hfn : X.fn y = true ∨ X.env.scope.names.lookup y = some .local := by first | exact .inl rfl | exact .inr rfl | assumption) :
    PMD X (.Assign [.Name y py] (.ListComp elt [⟨.Name x px, iter, [], 0⟩] scope pos) spos) (sSetM i (vComp src js felt)) := by
  intro pins s σ H D I ⟨F, δ, r, ⟨As, RA⟩, q, k⟩
  have R := RA.toS
  unfold sSetM at q
  obtain ⟨⟨d, δ'⟩, ed, q⟩ := Option.bind_eq_some_iff.mp q
  cases q
  unfold vComp at ed
  obtain ⟨ds, eds, q⟩ := Option.bind_eq_some_iff.mp ed
  obtain ⟨xs, exs, q⟩ := Option.bind_eq_some_iff.mp q
  by_cases hz : xs.length ≤ 1000
  · rw [if_pos hz] at q
    cases q
    rw [exec_Assign_Name_used _ _ _ _ hsw]
    refine wpAny_bind (wpAny_standAt (wpAny_bind ?_))
    show wpAny _ X.A (do let _ ← comprehension (.ListComp elt [⟨.Name x px, iter, [], 0⟩] scope pos) scope X.env _ (newList []) false (eval iter X.env) (some (assign (.Name y py) X.env))) _ _ s
    refine wpAny_bind (wpAny_mono (wpAny_comprehension_free (use := some (assign (.Name y py) X.env)) (Q := fun _ s' => SP X pins D .next s') rfl hs O.clos O.kind O.names ?_) (fun _ s' hq => wpAny_pure (wpAny_pure hq)) fun _ _ z => z)
    refine wpAny_mono (hi pins s σ H (fun J H1 => Same H H1 ∧ ItD X.K J H1 ds) I ⟨δ, ds, R, eds, fun J H1 s1 itd => ⟨s1, itd⟩⟩) (fun v s1 h1 => wpAny_mono h1 (fun itv s2 h2 => ?_) fun _ _ z => z) fun _ _ z => z
    obtain ⟨it, fp, tn, J, H2, rfl, I2, T, st, hf, s1, itd⟩ := h2
    refine comp_blockF (RR := fun acc C => compPost (model X.prog X.w) X.A X.xe (some (assign (.Name y py) X.env)) (fun _ s' => SP X pins D .next s') acc C) I2 hcm O T st hf itd (R.mono s1) he exs hz ?_
    intro DA C s' Hend vs hC IX sm hD rr ⟨m, hn⟩ fC
    show wpAny _ X.A (assign (.Name y py) X.env (.ref DA)) _ _ s'
    refine wpAny_assign_Name (store_ok2 (v := .ref DA) IX hN hy hl rfl (fun s9 I9 ⟨a, hsb, ha⟩ => ?_) hfn)
    have hCa : C ≠ a := by
      rintro rfl
      rcases ha with z | z
      · exact absurd (Nat.lt_of_lt_of_le I2.lt (by rw [← z]; exact hC)) (Nat.lt_irrefl _)
      · obtain ⟨v, o, h1, _⟩ := I2.cell y _ z
        exact absurd (Nat.lt_of_lt_of_le (Heap.lt_size h1) hC) (Nat.lt_irrefl _)
    refine ⟨m, hn.at' fun o e => (hsb.2 C hCa).trans e, fun h' hs' => ⟨_, Hend, ?_, compEndS i RA k (mapO_owns exs) (s1.trans sm) s1 hD rr⟩⟩
    exact I9.turned (it := C) (t' := s9.toks) (fun b o hb e => (hs'.2 b hb).trans e) fC (Nat.ne_of_gt (Nat.lt_of_lt_of_le I2.lt hC)) (.inr (Nat.le_trans I2.sz hC))
      (fun y c e z => by
        obtain ⟨v, o, h1, _⟩ := I2.cell y c e
        exact absurd (Nat.lt_of_lt_of_le (Heap.lt_size h1) (by rw [z]; exact hC)) (Nat.lt_irrefl _))
      (fun p hp z => absurd (Nat.lt_of_lt_of_le (Heap.lt_size (I2.pin p hp).1) (by rw [z]; exact hC)) (Nat.lt_irrefl _))
  · rw [if_neg hz] at q; cases q
end
end Dl
namespace Dl
open PySem PySem.Spec PyProof.Rows L2
/-! ### new lists of things without lists: cuts, copies, repeats -/
section
variable {K : PySem.W.Frag} {F H : Hp} {σ : L2.St} {δ : DS} {As : Nat → List Addr}
theorem RepOs.of_imm : ∀ {vs : List V} {ds : List D}, Reps K H vs ds → imms ds = true → RepOs K F H vs ds []
  | _, _, .nil, _ => .nil
  | _, _, .cons r t, i => by
    rw [imms, Bool.and_eq_true] at i
    exact .cons (.imm i.1 r) (RepOs.of_imm t i.2) rfl
/-- a new list of such -/
theorem newImm {H1 : Hp} {vs : List V} {ds : List D} {p : Addr} {Q : VK} (R : RepA K F H σ δ As) (s : Same H H1) (r : Reps K H1 vs ds) (i : imms ds = true) (hp : H1 p = none)
    (k : ∀ v F' H' A As', Ev F H As F' H' As' A → RepA K F' H' σ δ As' → RepO K F' H' v (.lst ds) A → Q v H') : Q (.ref p) (upd H1 p (.lst vs)) := by
  have sn := same_new hp (.lst vs)
  have np := none_before s hp
  refine k _ F _ [p] As (.fresh (s.trans sn) (fun a m => ?_) (List.nodup_cons.mpr ⟨fun z => (nomatch z), List.nodup_nil⟩) (fun i a m => (R.dom m).1)) (R.grow (s.trans sn)) (.lst upd_same (none_before R.fz np) (RepOs.of_imm (r.mono sn) i))
  rw [List.mem_singleton.mp m]
  exact np
end
def lstImm (d : D) (δ : DS) : Option (D × DS) := match d with
  | .lst ds => if imms ds then some (.lst ds, δ) else none
  | _ => none
theorem lstImm_inv {d d' : D} {δ δ' : DS} (h : lstImm d δ = some (d', δ')) : ∃ ds, d = .lst ds ∧ d' = .lst ds ∧ δ' = δ ∧ imms ds = true := by
  unfold lstImm at h
  split at h
  · rename_i ds
    split at h
    · rename_i hi
      cases h
      exact ⟨ds, rfl, rfl, rfl, hi⟩
    · cases h
  · cases h
def vSl (f : FD) (lo hi : FO) : FM := fun δ => (fSl f lo hi δ).bind fun d => lstImm d δ
def gListOf : List D → Option D
  | [.lst ds] => some (.lst ds)
  | [.seq ds] => some (.lst ds)
  | [.tup ds] => some (.lst ds)
  | _ => none
def vListOf (g : FA) : FM := fun δ => (g δ).bind fun ds => (gListOf ds).bind fun d => lstImm d δ
def gRep : D → D → Option D
  | .lst ds, .int k => if ds.length * k.toNat ≤ 1000 ∧ k ≤ 1000 ∧ -1000 ≤ k then some (.lst (List.replicate k.toNat ds).flatten) else none
  | _, _ => none
def vRep (fa fb : FD) : FM := fun δ => (f2 gRep fa fb δ).bind fun d => lstImm d δ
section
variable {X : Cx} {e a b : Expr} {f fa fb : FD} {lo hi : Option Expr} {fl fh : FO} {g : FA} {pos p2 p : Pos}
theorem pv_slice (he : PD X e f) (hl : POD X lo fl) (hu : POD X hi fh) : PV X (.Subscript e (.Slice lo hi none p2) pos) (vSl f fl fh) := imp (pe_slice sl_list he hl hu) fun σ H Q ⟨F, δ, As, d, δ', RA, q, k⟩ => by
  unfold vSl at q
  obtain ⟨d0, e0, q⟩ := Option.bind_eq_some_iff.mp q
  obtain ⟨ds, rfl, rfl, rfl, hi⟩ := lstImm_inv q
  unfold fSl at e0
  obtain ⟨x, ex, e0⟩ := Option.bind_eq_some_iff.mp e0
  obtain ⟨es, eds, e0⟩ := Option.bind_eq_some_iff.mp e0
  obtain ⟨l, el, e0⟩ := Option.bind_eq_some_iff.mp e0
  obtain ⟨h, eh, e0⟩ := Option.bind_eq_some_iff.mp e0
  cases e0
  have R := RA.toS
  refine ⟨_, x, R, ex, fun v H1 s1 r1 => ⟨_, l, R.mono s1, el, fun H2 s2 => ⟨_, h, (R.mono s1).mono s2, eh, fun H3 s3 => ?_⟩⟩⟩
  have r3 := (r1.mono s2).mono s3
  have fin : ∀ (a : Addr) (vs : List V), SqL X.K H3 a vs → Reps X.K H3 vs es → rSlL X.K (.ref a) l h H3 Q := fun a vs hq rp =>
    ⟨a, vs, rfl, hq, fun p hp => newImm RA ((s1.trans s2).trans s3) (cut_reps rp l h) hi hp k⟩
  cases r3 with
  | @lst p vs es hp rp => cases eds; exact fin p vs (SqL.of hp) rp
  | @seq p vs es hp rp => cases eds; exact fin p vs hp rp
  | _ => cases eds
theorem pv_listof (hg : Gl X "list") (hm : X.mg "list" = none) (hv : bootBuiltins "list" = some (.type "list")) (ha : PAD X [e] g) (he : starEach [e] X.env = (false, eval e X.env) :: starEach [] X.env := by rfl) (hpl : (backTo pos (starEach [] X.env)).any (·.1) = false := by rfl) :
    PV X (.Call (.Name "list" p) [e] [] pos) (vListOf g) := imp (pe_callTy call_list_of hg hm hv ha (by decide) (by decide) he hpl) fun σ H Q ⟨F, δ, As, d, δ', RA, q, k⟩ => by
  unfold vListOf at q
  obtain ⟨xs, exs, q⟩ := Option.bind_eq_some_iff.mp q
  obtain ⟨d0, e0, q⟩ := Option.bind_eq_some_iff.mp q
  obtain ⟨ds, rfl, rfl, rfl, hi⟩ := lstImm_inv q
  refine ⟨_, xs, RA.toS, exs, fun vs H1 s1 r1 l => ?_⟩
  unfold gListOf at e0
  split at e0
  · cases e0
    obtain ⟨v, rfl, rv⟩ := reps1 r1
    cases rv with
    | @lst p vs _ hp rp => exact ⟨p, vs, rfl, .inl (SqL.of hp), fun l hl => newImm RA s1 rp hi hl k⟩
  · cases e0
    obtain ⟨v, rfl, rv⟩ := reps1 r1
    cases rv with
    | @seq p vs _ hp rp => exact ⟨p, vs, rfl, .inl hp, fun l hl => newImm RA s1 rp hi hl k⟩
  · cases e0
    obtain ⟨v, rfl, rv⟩ := reps1 r1
    cases rv with
    | @tup p vs _ hp rp => exact ⟨p, vs, rfl, .inr hp, fun l hl => newImm RA s1 rp hi hl k⟩
  · cases e0
theorem Reps.repl {K : PySem.W.Frag} {H : Hp} {vs : List V} {ds : List D} (r : Reps K H vs ds) : ∀ n : Nat, Reps K H (List.replicate n vs).flatten (List.replicate n ds).flatten
  | 0 => .nil
  | n + 1 => by
    rw [List.replicate_succ, List.replicate_succ, List.flatten_cons, List.flatten_cons]
    exact r.append (Reps.repl r n)
theorem pv_rep (ha : PD X a fa) (hb : PD X b fb) : PV X (.BinOp a .Mult b pos) (vRep fa fb) := imp (pe_op op_rep ha hb) fun σ H Q ⟨F, δ, As, d, δ', RA, q, k⟩ => by
  unfold vRep at q
  obtain ⟨d0, e0, q⟩ := Option.bind_eq_some_iff.mp q
  obtain ⟨ds, rfl, rfl, rfl, hi⟩ := lstImm_inv q
  unfold f2 at e0
  obtain ⟨x, ex, e0⟩ := Option.bind_eq_some_iff.mp e0
  obtain ⟨y, ey, e0⟩ := Option.bind_eq_some_iff.mp e0
  refine ⟨_, x, RA.toS, ex, fun v H1 s1 r1 => ⟨_, y, RA.toS.mono s1, ey, fun w H2 s2 r2 => ?_⟩⟩
  match x, y, r1, r2, e0 with
  | .lst es, .int n, r1, r2, e0 =>
    have e1 : (if es.length * n.toNat ≤ 1000 ∧ n ≤ 1000 ∧ -1000 ≤ n then some (D.lst (List.replicate n.toNat es).flatten) else none) = some (.lst ds) := e0
    split at e1
    · rename_i hz
      cases e1
      have r1' := r1.mono s2
      cases r2
      cases r1' with
      | @lst p vs _ hp rp => exact ⟨p, n, vs, rfl, rfl, hp, by omega, by omega, by rw [rp.length]; exact le_line hz.1, fun l hl => newImm RA (s1.trans s2) (rp.repl n.toNat) hi hl k⟩
    · cases e1
end
/-! ### methods of an owned list of things without lists -/
def sClear (i : Nat) : SD := fun δ => match δ[i]? with
  | some (some (.lst _)) => some (.nx (δ.set i (some (.lst []))))
  | _ => none
theorem imms_mem : ∀ {ds : List D}, imms ds = true ↔ ∀ d ∈ ds, imm d = true
  | [] => ⟨fun _ _ m => (nomatch m), fun _ => rfl⟩
  | d :: ds => by
    rw [imms, Bool.and_eq_true, imms_mem (ds := ds)]
    exact ⟨fun h e m => (List.mem_cons.mp m).elim (fun z => z ▸ h.1) (h.2 e), fun h => ⟨h d List.mem_cons_self, fun e m => h e (List.mem_cons_of_mem _ m)⟩⟩
section
variable {K : PySem.W.Frag} {F H : Hp} {σ : L2.St} {δ : DS} {As : Nat → List Addr}
theorem RepA.wrI {i : Nat} {ds es : List D} {a : Addr} {vs ws : List V} {A0 : List Addr} (R : RepA K F H σ δ As) (h : δ[i]? = some (some (.lst ds))) (hσ : σ[i]? = some (some (.ref a))) (hA : As i = a :: A0) (ha : H a = some (.lst vs)) (hF : F a = none) (r : Reps K H ws es) (hi : imms es = true) :
    RepM K F (upd H a (.lst ws)) σ (δ.set i (some (.lst es))) := R.wr h hσ hA ha hF (RepOs.of_imm r hi) (fun z => nomatch z) List.nodup_nil fun _ _ _ _ z => nomatch z
theorem Reps.reverse {vs : List V} {ds : List D} (r : Reps K H vs ds) : Reps K H vs.reverse ds.reverse := by
  induction vs generalizing ds with
  | nil => cases r; exact .nil
  | cons v vs ih =>
    cases r with
    | cons r t => rw [List.reverse_cons, List.reverse_cons]; exact (ih t).append (.cons r .nil)
end
section
variable {X : Cx} {pos : Pos}
theorem pm_clear (i : Nat) {c : Expr} (hc : PE X c (tBM0 X.K "list" rClear (tVar i))) (hs : swapsWith c none pos.line X.env = pure false := by rfl) : PMD X (.Expr c pos) (sClear i) := impS (ps_expr hc hs) fun E σ H ⟨F, δ, r, ⟨As, R⟩, q, k⟩ => by
  unfold sClear at q
  split at q
  · rename_i ds h
    cases q
    obtain ⟨a, vs, A0, s0, eA, g0, n0, ro⟩ := R.lst h
    exact ⟨.ref a, s0, .inl ⟨rfl, _, SqL.of g0⟩, a, vs, rfl, rfl, g0, k σ F _ (Same.refl F) (R.wrI h s0 eA g0 n0 .nil rfl)⟩
  · cases q
end
end Dl
namespace Dl
open PySem PySem.Spec PyProof.Rows L2
theorem r2_rep {K : PySem.W.Frag} : R2D K rRep gRep := by
  intro x y H Q a b d ra rb e k
  match a, b, ra, rb, e with
  | .lst es, .int n, ra, rb, e =>
    have e1 : (if es.length * n.toNat ≤ 1000 ∧ n ≤ 1000 ∧ -1000 ≤ n then some (D.lst (List.replicate n.toNat es).flatten) else none) = some d := e
    split at e1
    · rename_i hz
      cases e1
      cases rb
      cases ra with
      | @lst p vs _ hp rp =>
        refine ⟨p, n, vs, rfl, rfl, hp, by omega, by omega, by rw [rp.length]; exact le_line hz.1, fun l hl => ?_⟩
        have sn := same_new hl (.lst (List.replicate n.toNat vs).flatten)
        exact k _ _ sn (.lst upd_same ((rp.repl n.toNat).mono sn))
    · cases e1
theorem pd_rep {X : Cx} {a b : Expr} {fa fb : FD} {pos : Pos} (ha : PD X a fa) (hb : PD X b fb) : PD X (.BinOp a .Mult b pos) (f2 gRep fa fb) := pd_op op_rep r2_rep ha hb
end Dl
namespace Dl
open PySem PySem.Spec PyProof.Rows L2
/-! ### == and != of lists and tuples within one another -/
def eqL (f : D → D → Option Bool) : List D → List D → Option Bool
  | [], [] => some true
  | [], _ :: _ => some false
  | _ :: _, [] => some false
  | a :: as, b :: bs => (f a b).bind fun x => (eqL f as bs).bind fun y => some (x && y)
def eqN : Nat → D → D → Option Bool
  | 0, a, b => if flatD a && flatD b then some (eqF a b) else none
  | n + 1, a, b => match a, b with
    | .tup as, .tup bs => eqL (eqN n) as bs
    | .lst as, .lst bs => eqL (eqN n) as bs
    | .lst as, .seq bs => eqL (eqN n) as bs
    | .seq as, .lst bs => eqL (eqN n) as bs
    | .seq as, .seq bs => eqL (eqN n) as bs
    | .non, .tup _ => some false
    | .tup _, .non => some false
    | .non, .lst _ => some false
    | .lst _, .non => some false
    | .non, .seq _ => some false
    | .seq _, .non => some false
    | a, b => if flatD a && flatD b then some (eqF a b) else none
theorem eqL_get {f : D → D → Option Bool} : ∀ {as bs : List D} {c : Bool}, eqL f as bs = some c → ∀ (j : Nat) (a b : D), as[j]? = some a → bs[j]? = some b → ∃ x, f a b = some x
  | [], _, _, _, _, _, _, h, _ => by simp at h
  | _ :: _, [], _, _, _, _, _, _, h => by simp at h
  | a :: as, b :: bs, c, h, j, x, y, h1, h2 => by
    obtain ⟨u, e1, h⟩ := Option.bind_eq_some_iff.mp (show ((f a b).bind _) = some c from h)
    obtain ⟨v, e2, h⟩ := Option.bind_eq_some_iff.mp h
    cases j with
    | zero => simp at h1 h2; subst h1 h2; exact ⟨u, e1⟩
    | succ j => exact eqL_get e2 j x y (by simpa using h1) (by simpa using h2)
/-- what the comparison comes to, item by item -/
theorem eqL_all {f : D → D → Option Bool} : ∀ {as bs : List D} {c : Bool} {e : Nat → Bool}, eqL f as bs = some c → (∀ (j : Nat) (a b : D) (x : Bool), as[j]? = some a → bs[j]? = some b → f a b = some x → e j = x) → ((List.range (min as.length bs.length)).all e && as.length == bs.length) = c
  | [], [], c, e, h, _ => by cases h; rfl
  | [], _ :: _, c, e, h, _ => by cases h; simp
  | _ :: _, [], c, e, h, _ => by cases h; simp
  | a :: as, b :: bs, c, e, h, he => by
    obtain ⟨u, e1, h⟩ := Option.bind_eq_some_iff.mp (show ((f a b).bind _) = some c from h)
    obtain ⟨v, e2, h⟩ := Option.bind_eq_some_iff.mp h
    cases h
    have ih := eqL_all (e := fun j => e (j + 1)) e2 fun j x y z h1 h2 h3 => he (j + 1) x y z (by simpa using h1) (by simpa using h2) h3
    have h0 : e 0 = u := he 0 a b u rfl rfl e1
    show ((List.range (min (as.length + 1) (bs.length + 1))).all e && (as.length + 1) == (bs.length + 1)) = (u && v)
    have hm : min (as.length + 1) (bs.length + 1) = min as.length bs.length + 1 := by omega
    have hq : ((as.length + 1) == (bs.length + 1)) = (as.length == bs.length) := by rw [Bool.eq_iff_iff]; simp
    rw [← ih, ← h0, hm, List.range_succ_eq_map, List.all_cons, List.all_map, Bool.and_assoc, hq]
    rfl
theorem eqL_len {f : D → D → Option Bool} : ∀ {as bs : List D} {c : Bool}, eqL f as bs = some c → as.length ≠ bs.length → c = false
  | [], [], _, _, n => absurd rfl n
  | [], _ :: _, c, h, _ => by cases h; rfl
  | _ :: _, [], c, h, _ => by cases h; rfl
  | a :: as, b :: bs, c, h, n => by
    obtain ⟨u, e1, h⟩ := Option.bind_eq_some_iff.mp (show ((f a b).bind _) = some c from h)
    obtain ⟨v, e2, h⟩ := Option.bind_eq_some_iff.mp h
    cases h
    rw [eqL_len e2 (fun z => n (congrArg (· + 1) z)), Bool.and_false]
theorem eqAt_nr {A : Around} {s : Shared} {b : Addr} {k : Bool} (h : SeqAt.RcAt A s .none (.ref b) k) : SeqAt.EqAt A s .none (.ref b) k := fun prog w E Q hq => by
  unfold eqBool
  refine wpAny_holding (wpAny_ite_split (fun z => nomatch (eq_of_beq z : Value.none = Value.ref b)) fun _ => ?_)
  have z := h prog w E (fun a s' => wpAny (model prog w) A (truthOfDropped a) Q E s') (wpAny_truthy_bool hq)
  exact wpAny_bind z
theorem eqAt_rn {A : Around} {s : Shared} {b : Addr} {k : Bool} (h : SeqAt.RcAt A s (.ref b) .none k) : SeqAt.EqAt A s (.ref b) .none k := fun prog w E Q hq => by
  unfold eqBool
  refine wpAny_holding (wpAny_ite_split (fun z => nomatch (eq_of_beq z : Value.ref b = Value.none)) fun _ => ?_)
  have z := h prog w E (fun a s' => wpAny (model prog w) A (truthOfDropped a) Q E s') (wpAny_truthy_bool hq)
  exact wpAny_bind z
section
variable {X : Cx} {pins : List (Addr × Obj)} {σ : L2.St} {H : Hp} {s : Shared}
/-- a thing beside itself -/
theorem same_true (I : L2.Inv X pins σ H s) : ∀ (n : Nat) {v : V} {a b : D} {c : Bool}, Rep X.K H v a → Rep X.K H v b → eqN n a b = some c → c = true
  | 0, v, a, b, c, ra, rb, h => by
    unfold eqN at h
    split at h
    · rename_i hf
      cases h
      rw [Bool.and_eq_true] at hf
      have e1 := (ra.flat hf.1).2
      have e2 := (rb.flat hf.2).2
      rw [← eqV_eqF e1 e2]
      cases ra <;> first | rfl | (simp [eqV]; done) | exact absurd hf.1 Bool.false_ne_true
    · cases h
  | n + 1, v, a, b, c, ra, rb, h => by
    have many : ∀ {vs : List V} {as bs : List D}, Reps X.K H vs as → Reps X.K H vs bs → ∀ {c : Bool}, eqL (eqN n) as bs = some c → c = true := by
      intro vs
      induction vs with
      | nil => intro as bs r1 r2 c h; cases r1; cases r2; cases h; rfl
      | cons v vs ih =>
        intro as bs r1 r2 c h
        cases r1 with
        | cons p1 t1 =>
          cases r2 with
          | cons p2 t2 =>
            obtain ⟨u, e1, h⟩ := Option.bind_eq_some_iff.mp (show ((eqN n _ _).bind _) = some c from h)
            obtain ⟨w, e2, h⟩ := Option.bind_eq_some_iff.mp h
            cases h
            rw [same_true I n p1 p2 e1, ih t1 t2 e2]
            rfl
    have flatC : ∀ {a b : D}, Rep X.K H v a → Rep X.K H v b → (if flatD a && flatD b then some (eqF a b) else none) = some c → c = true := fun {a b} ra rb h => by
      refine same_true I 0 ra rb ?_
      unfold eqN
      exact h
    cases ra with
    | non => cases rb; exact flatC .non .non h
    | bl x => cases rb; exact flatC (.bl x) (.bl x) h
    | int x => cases rb; exact flatC (.int x) (.int x) h
    | str x => cases rb; exact flatC (.str x) (.str x) h
    | ty x => cases rb; exact flatC (.ty x) (.ty x) h
    | @tup p vs as hp rp =>
      cases rb with
      | @tup _ ws bs hq rq =>
        have e := I.tuple_inj hp hq
        subst e
        exact many rp rq h
      | lst _ _ => cases h
      | seq _ _ => cases h
      | dct _ => cases h
      | exc _ => cases h
      | cls _ => cases h
    | @lst p vs as hp rp =>
      cases rb with
      | @lst _ ws bs hq rq =>
        have e := I.list_inj (SqL.of (K := X.K) hp) (SqL.of hq)
        subst e
        exact many rp rq h
      | @seq _ ws bs hq rq =>
        have e := I.list_inj (SqL.of hp) hq
        subst e
        exact many rp rq h
      | tup _ _ => cases h
      | dct _ => cases h
      | exc _ => cases h
      | cls _ => cases h
    | @seq p vs as hp rp =>
      cases rb with
      | @lst _ ws bs hq rq =>
        have e := I.list_inj hp (SqL.of hq)
        subst e
        exact many rp rq h
      | @seq _ ws bs hq rq =>
        have e := I.list_inj hp hq
        subst e
        exact many rp rq h
      | tup _ _ => cases h
      | dct _ => cases h
      | exc _ => cases h
      | cls _ => cases h
    | dct h1 => cases rb <;> cases h
    | exc h1 => cases rb <;> cases h
    | cls C => cases rb <;> cases h
/-- the two comparisons, and that of an item -/
theorem eq_at (I : L2.Inv X pins σ H s) : ∀ (n : Nat) (A : Around), A.units + n < cLine → ∀ {x y : V} {u v : Value} {a b : D} {c : Bool}, RelV x u → RelV y v → Rep X.K H x a → Rep X.K H y b → eqN n a b = some c → SeqAt.RcAt A s u v c ∧ SeqAt.RcNeAt A s u v (!c) ∧ SeqAt.EqAt A s u v c
  | 0, A, hu, x, y, u, v, a, b, c, rx, ry, ra, rb, h => by
    unfold eqN at h
    split at h
    · rename_i hf
      cases h
      rw [Bool.and_eq_true] at hf
      have z := rc_flat (A := A) (s := s) rx ry ra rb hf.1 hf.2
      refine ⟨z.1, z.2, ?_⟩
      rw [← eqV_eqF (ra.flat hf.1).2 (rb.flat hf.2).2]
      exact eqAt_V rx ry (ra.flat hf.1).1 (rb.flat hf.2).1
    · cases h
  | n + 1, A, hu, x, y, u, v, a, b, c, rx, ry, ra, rb, h => by
    have hu0 : A.units < cLine := by omega
    have hu1 : A.in1.units + n < cLine := by show A.units + 1 + n < cLine; omega
    have items : ∀ {vs ws : List V} {us zs : List Value} {as bs : List D} {c : Bool}, Vals vs us → Vals ws zs → Reps X.K H vs as → Reps X.K H ws bs → eqL (eqN n) as bs = some c →
        ∃ e : Nat → Bool, (∀ j (h1 : j < us.toArray.size) (h2 : j < zs.toArray.size), SeqAt.EqAt A.in1 s us.toArray[j] zs.toArray[j] (e j)) ∧ ∀ (j : Nat) (a b : D) (x : Bool), as[j]? = some a → bs[j]? = some b → eqN n a b = some x → e j = x := by
      intro vs ws us zs as bs c r1 r2 q1 q2 h
      refine ⟨fun j => ((as[j]?).bind fun a => (bs[j]?).bind fun b => eqN n a b).getD true, fun j h1 h2 => ?_, fun j a b x e1 e2 e3 => by dsimp only; rw [e1, e2, Option.bind_some, Option.bind_some, e3]; rfl⟩
      have l1 := r1.length
      have l2 := r2.length
      rw [List.size_toArray] at h1 h2
      have k1 : j < vs.length := by omega
      have k2 : j < ws.length := by omega
      obtain ⟨u', e1, p1⟩ := r1.get (i := j) (x := vs[j]) (by simp [k1])
      obtain ⟨z', e2, p2⟩ := r2.get (i := j) (x := ws[j]) (by simp [k2])
      obtain ⟨a', e3, p3⟩ := q1.getV (i := j) (v := vs[j]) (by simp [k1])
      obtain ⟨b', e4, p4⟩ := q2.getV (i := j) (v := ws[j]) (by simp [k2])
      have w1 : us.toArray[j] = u' := by
        have z : us[j]? = some us[j] := by simp [h1]
        rw [z] at e1; simpa using e1
      have w2 : zs.toArray[j] = z' := by
        have z : zs[j]? = some zs[j] := by simp [h2]
        rw [z] at e2; simpa using e2
      obtain ⟨x', ex⟩ := eqL_get h j a' b' e3 e4
      dsimp only
      rw [w1, w2, e3, e4, Option.bind_some, Option.bind_some, ex]
      exact (eq_at I n A.in1 hu1 p1 p2 p3 p4 ex).2.2
    have refs : ∀ {p q : Addr}, u = .ref p → v = .ref q → SeqAt.RcAt A s (.ref p) (.ref q) c → SeqAt.RcNeAt A s (.ref p) (.ref q) (!c) → SeqAt.RcAt A s u v c ∧ SeqAt.RcNeAt A s u v (!c) ∧ SeqAt.EqAt A s u v c := fun {p q} e1 e2 z1 z2 => by
      subst e1 e2
      refine ⟨z1, z2, ?_⟩
      by_cases hpq : p = q
      · subst hpq
        have exy : x = y := rx.inj ry
        subst exy
        rw [same_true I (n + 1) ra rb h]
        exact SeqAt.EqAt.same _
      · exact SeqAt.EqAt.of_refs hpq z1
    have lists : ∀ {p q : Addr} {vs ws : List V} {as bs : List D}, u = .ref p → v = .ref q → SqL X.K H p vs → SqL X.K H q ws → Reps X.K H vs as → Reps X.K H ws bs → eqL (eqN n) as bs = some c → SeqAt.RcAt A s u v c ∧ SeqAt.RcNeAt A s u v (!c) ∧ SeqAt.EqAt A s u v c := fun {p q vs ws as bs} e1 e2 hp hq rp rq hc => by
      obtain ⟨its, r1, t1, _⟩ := I.list hp
      obtain ⟨jts, r2, t2, _⟩ := I.list hq
      have l1 : its.toArray.size = as.length := by rw [List.size_toArray, ← r1.length, rp.length]
      have l2 : jts.toArray.size = bs.length := by rw [List.size_toArray, ← r2.length, rq.length]
      obtain ⟨e, he, hx⟩ := items r1 r2 rp rq hc
      by_cases hl : its.toArray.size = jts.toArray.size
      · have z := eqL_all hc hx
        have hb : (as.length == bs.length) = true := by rw [beq_iff_eq]; omega
        have hm : min as.length bs.length = its.toArray.size := by omega
        rw [hb, hm, Bool.and_true] at z
        have z1 := SeqAt.RcAt.lists (A := A) (s := s) t1.isList t2.isList hl hu0 he
        have z2 := SeqAt.RcNeAt.lists (A := A) (s := s) t1.isList t2.isList hl hu0 he
        rw [z] at z1 z2
        exact refs e1 e2 z1 z2
      · have z1 := SeqAt.RcAt.lists_lengths (A := A) (s := s) t1.isList t2.isList (by simpa [bne_iff_ne] using hl) hu0
        have z2 := SeqAt.RcNeAt.lists_lengths (A := A) (s := s) t1.isList t2.isList (by simpa [bne_iff_ne] using hl) hu0
        have z := eqL_len hc (by omega)
        subst z
        exact refs e1 e2 z1 z2
    have flatC : (if flatD a && flatD b then some (eqF a b) else none) = some c → SeqAt.RcAt A s u v c ∧ SeqAt.RcNeAt A s u v (!c) ∧ SeqAt.EqAt A s u v c := fun h => eq_at I 0 A (by omega) rx ry ra rb (by unfold eqN; exact h)
    cases ra with
    | non =>
      cases (show u = Value.none from rx)
      cases rb with
      | @tup q ws bs hq rq =>
        cases h
        cases (show v = Value.ref q from ry)
        obtain ⟨its, r1, t1, _⟩ := I.tuple hq
        exact ⟨SeqAt.RcAt.none_tuple t1 hu0, SeqAt.RcNeAt.none_tuple t1 hu0, eqAt_nr (SeqAt.RcAt.none_tuple t1 hu0)⟩
      | @lst q ws bs hq rq =>
        cases h
        cases (show v = Value.ref q from ry)
        obtain ⟨its, r1, t1, _⟩ := I.list (SqL.of (K := X.K) hq)
        exact ⟨SeqAt.RcAt.none_list t1.isList hu0, SeqAt.RcNeAt.none_list t1.isList hu0, eqAt_nr (SeqAt.RcAt.none_list t1.isList hu0)⟩
      | @seq q ws bs hq rq =>
        cases h
        cases (show v = Value.ref q from ry)
        obtain ⟨its, r1, t1, _⟩ := I.list hq
        exact ⟨SeqAt.RcAt.none_list t1.isList hu0, SeqAt.RcNeAt.none_list t1.isList hu0, eqAt_nr (SeqAt.RcAt.none_list t1.isList hu0)⟩
      | _ => exact flatC h
    | @tup p vs as hp rp =>
      cases rb with
      | @tup q ws bs hq rq =>
        obtain ⟨its, r1, t1, _⟩ := I.tuple hp
        obtain ⟨jts, r2, t2, _⟩ := I.tuple hq
        have l1 : its.toArray.size = as.length := by rw [List.size_toArray, ← r1.length, rp.length]
        have l2 : jts.toArray.size = bs.length := by rw [List.size_toArray, ← r2.length, rq.length]
        have hc : eqL (eqN n) as bs = some c := h
        obtain ⟨e, he, hx⟩ := items r1 r2 rp rq hc
        have z := eqL_all hc hx
        have z1 := SeqAt.RcAt.tuples (A := A) (s := s) t1 t2 hu0 he
        have z2 := SeqAt.RcNeAt.tuples (A := A) (s := s) t1 t2 hu0 he
        rw [l1, l2, z] at z1 z2
        exact refs (show u = Value.ref p from rx) (show v = Value.ref q from ry) z1 z2
      | non =>
        cases h
        cases (show u = Value.ref p from rx)
        cases (show v = Value.none from ry)
        obtain ⟨its, r1, t1, _⟩ := I.tuple hp
        exact ⟨SeqAt.RcAt.tuple_none t1 hu0, SeqAt.RcNeAt.tuple_none t1 hu0, eqAt_rn (SeqAt.RcAt.tuple_none t1 hu0)⟩
      | _ => cases h
    | @lst p vs as hp rp =>
      cases rb with
      | @lst q ws bs hq rq => exact lists (show u = Value.ref p from rx) (show v = Value.ref q from ry) (SqL.of hp) (SqL.of hq) rp rq h
      | @seq q ws bs hq rq => exact lists (show u = Value.ref p from rx) (show v = Value.ref q from ry) (SqL.of hp) hq rp rq h
      | non =>
        cases h
        cases (show u = Value.ref p from rx)
        cases (show v = Value.none from ry)
        obtain ⟨its, r1, t1, _⟩ := I.list (SqL.of (K := X.K) hp)
        exact ⟨SeqAt.RcAt.list_none t1.isList hu0, SeqAt.RcNeAt.list_none t1.isList hu0, eqAt_rn (SeqAt.RcAt.list_none t1.isList hu0)⟩
      | _ => cases h
    | @seq p vs as hp rp =>
      cases rb with
      | @lst q ws bs hq rq => exact lists (show u = Value.ref p from rx) (show v = Value.ref q from ry) hp (SqL.of hq) rp rq h
      | @seq q ws bs hq rq => exact lists (show u = Value.ref p from rx) (show v = Value.ref q from ry) hp hq rp rq h
      | non =>
        cases h
        cases (show u = Value.ref p from rx)
        cases (show v = Value.none from ry)
        obtain ⟨its, r1, t1, _⟩ := I.list hp
        exact ⟨SeqAt.RcAt.list_none t1.isList hu0, SeqAt.RcNeAt.list_none t1.isList hu0, eqAt_rn (SeqAt.RcAt.list_none t1.isList hu0)⟩
      | _ => cases h
    | bl x => cases rb <;> first | exact flatC h | cases h
    | int x => cases rb <;> first | exact flatC h | cases h
    | str x => cases rb <;> first | exact flatC h | cases h
    | ty x => cases rb <;> first | exact flatC h | cases h
    | dct h1 => cases rb <;> first | exact flatC h | cases h
    | exc h1 => cases rb <;> first | exact flatC h | cases h
    | cls C => cases rb <;> first | exact flatC h | cases h
end
def gEqN (a b : D) : Option D := (eqN 6 a b).map D.bl
def gNeN (a b : D) : Option D := (eqN 6 a b).map fun c => D.bl (!c)
def rEqN (K : PySem.W.Frag) : R2 := fun x y H Q => ∃ a b c, Rep K H x a ∧ Rep K H y b ∧ eqN 6 a b = some c ∧ Q (.bl c) H
def rNeN (K : PySem.W.Frag) : R2 := fun x y H Q => ∃ a b c, Rep K H x a ∧ Rep K H y b ∧ eqN 6 a b = some c ∧ Q (.bl (!c)) H
section
variable {X : Cx} {a b : Expr} {fa fb : FD} {pos : Pos}
theorem op_eqN (hu : X.A.units + 64 < cLine) : OpR X (compareOp .Eq) (rEqN X.K) := by
  intro pins s σ H x y v u Q I rx ry ⟨a, b, c, ra, rb, e, q⟩
  exact (eq_at I 6 X.A (by omega) rx ry ra rb e).1 X.prog X.w _ _ ⟨.bl c, H, I, rfl, q⟩
theorem op_neN (hu : X.A.units + 64 < cLine) : OpR X (compareOp .NotEq) (rNeN X.K) := by
  intro pins s σ H x y v u Q I rx ry ⟨a, b, c, ra, rb, e, q⟩
  exact (eq_at I 6 X.A (by omega) rx ry ra rb e).2.1 X.prog X.w _ _ ⟨.bl (!c), H, I, rfl, q⟩
theorem r2_eqN {K : PySem.W.Frag} : R2D K (rEqN K) gEqN := by
  intro x y H Q a b d ra rb e k
  unfold gEqN at e
  obtain ⟨c, hc, e⟩ := Option.map_eq_some_iff.mp e
  cases e
  exact ⟨a, b, c, ra, rb, hc, k _ H (Same.refl H) (.bl _)⟩
theorem r2_neN {K : PySem.W.Frag} : R2D K (rNeN K) gNeN := by
  intro x y H Q a b d ra rb e k
  unfold gNeN at e
  obtain ⟨c, hc, e⟩ := Option.map_eq_some_iff.mp e
  cases e
  exact ⟨a, b, c, ra, rb, hc, k _ H (Same.refl H) (.bl _)⟩
theorem ptd_eqN (hu : X.A.units + 64 < cLine) (ha : PD X a fa) (hb : PD X b fb) : PTD X (.Compare a [.Eq] [b] pos) (fT (f2 gEqN fa fb)) := ptd_cmp (op_eqN hu) r2_eqN ha hb (nomark _)
theorem ptd_neN (hu : X.A.units + 64 < cLine) (ha : PD X a fa) (hb : PD X b fb) : PTD X (.Compare a [.NotEq] [b] pos) (fT (f2 gNeN fa fb)) := ptd_cmp (op_neN hu) r2_neN ha hb (nomark _)
end
end Dl
namespace Dl
open PySem PySem.Spec PyProof.Rows L2
/-! ### (int, truth, ..) < (int, truth, ..), kinds alike at each place -/
inductive Nm where
  | i (n : Int)
  | b (c : Bool)
def Nm.val : Nm → Int
  | .i n => n
  | .b c => if c then 1 else 0
def Nm.toV : Nm → V
  | .i n => .int n
  | .b c => .bl c
def nmOf : D → Option Nm
  | .int n => some (.i n)
  | .bl c => some (.b c)
  | _ => none
def nmsOf : List D → Option (List Nm)
  | [] => some []
  | d :: ds => (nmOf d).bind fun x => (nmsOf ds).bind fun xs => some (x :: xs)
def likeN : List Nm → List Nm → Bool
  | .i _ :: xs, .i _ :: ys => likeN xs ys
  | .b _ :: xs, .b _ :: ys => likeN xs ys
  | [], [] => true
  | _, _ => false
def lexN : List Nm → List Nm → Bool
  | x :: xs, y :: ys => if x.val = y.val then lexN xs ys else decide (x.val < y.val)
  | _, _ => false
inductive NumsAre : List Value → List Nm → Prop
  | nil : NumsAre [] []
  | i (n : Int) (t : Tok) {vs : List Value} {ns : List Nm} (h : NumsAre vs ns) : NumsAre (.int n t :: vs) (.i n :: ns)
  | b (c : Bool) {vs : List Value} {ns : List Nm} (h : NumsAre vs ns) : NumsAre (.bool c :: vs) (.b c :: ns)
theorem NumsAre.length {vs : List Value} {ns : List Nm} (h : NumsAre vs ns) : vs.length = ns.length := by
  induction h with
  | nil => rfl
  | i _ _ _ ih => simp [ih]
  | b _ _ ih => simp [ih]
section
open PySem.SeqAt
open PySem.AutoSeq1 (wpAny_loadPart')
open PySem.MeetsSeq PySem.MeetsSeq2 PySem.MeetsSeq3
theorem tuple_lt_nums (l b : Addr) (items items2 : Array Value) (n n2 : Nat) (dd dd2 : Option Addr) (sl sl2 : Array (Option Value)) (ns ms : List Nm) (hi : NumsAre items.toList ns) (hj : NumsAre items2.toList ms) (hk : likeN ns ms = true) :
    Meets (Builtin.«tuple.__lt__» ⟨[.ref l, .ref b], []⟩)
      (fun _ R s => s.heap.get? l = some { cls := .type "tuple", dict := dd, data := .seq items n, slots := sl } ∧ s.heap.get? b = some { cls := .type "tuple", dict := dd2, data := .seq items2 n2, slots := sl2 } ∧
        R (.ok (.ret (.bool (lexN ns ms)))) s) :=
  .of_wp fun prog w A R s h => by
    obtain ⟨hp, g, d, tk, os⟩ := s; obtain ⟨hl, hb, h⟩ := h
    have f2 := AutoSeq1.sub_tuple_tuple
    have lk : ∀ {xs ys : List Nm}, likeN xs ys = true → xs.length = ys.length := by
      intro xs
      induction xs with
      | nil => intro ys h; cases ys with
        | nil => rfl
        | cons y ys => cases y <;> cases h
      | cons x xs ih =>
        intro ys h
        cases ys with
        | nil => cases x <;> cases h
        | cons y ys =>
          cases x <;> cases y <;> first | exact congrArg (· + 1) (ih h) | cases h
    have z1 : items.size = ns.length := by rw [← hi.length]; simp
    have z2 : items2.size = ms.length := by rw [← hj.length]; simp
    have zz := lk hk
    wp_walk using wpAny_loadPart' hl, wpAny_loadPart' hb, wpAny_forIn_list _ (fun rest b s' => b.1 = none ∧ s' = ⟨hp, g, d, tk, os⟩ ∧ ∃ (vs ws : List Value) (ns' ms' : List Nm), rest = vs.zip ws ∧
      NumsAre vs ns' ∧ NumsAre ws ms' ∧ likeN ns' ms' = true ∧ R (.ok (.ret (.bool (lexN ns' ms')))) ⟨hp, g, d, tk, os⟩) _
    case turn =>
      rintro ⟨y, x⟩ rest b s' ⟨hb', rfl, vs, ws, ns', ms', hz, hvi, hwi, hlike, hR⟩
      cases hvi with
      | nil => rw [List.zip_nil_left] at hz; cases hz
      | i a t hvi' =>
        cases hwi with
        | nil => rw [List.zip_nil_right] at hz; cases hz
        | b c hwi' => cases hlike
        | i c u hwi' =>
          rw [List.zip_cons_cons] at hz
          injection hz with hyx hrest
          injection hyx with hy hx
          subst hy hx
          have hR' : R (.ok (.ret (.bool (if a = c then lexN _ _ else decide (a < c))))) ⟨hp, g, d, tk, os⟩ := hR
          refine wpAny_bind (SeqAt.EqAt.int_int (A := A.in1) (s := ⟨hp, g, d, tk, os⟩) a t c u prog w _ _ ?_)
          by_cases q : a = c
          · rw [if_pos q] at hR'
            have e : (a == c) = true := beq_iff_eq.mpr q
            rw [e]
            wp_walk
            exact ⟨rfl, rfl, _, _, _, _, hrest, hvi', hwi', hlike, hR'⟩
          · rw [if_neg q] at hR'
            have e : (a == c) = false := beq_eq_false_iff_ne.mpr q
            rw [e]
            have hri := HT.rcLt_int A.in1 ⟨hp, g, d, tk, os⟩ a t c u prog w
            wp_walk using hri
            exact ⟨_, rfl, by simpa using hR'⟩
      | b a hvi' =>
        cases hwi with
        | nil => rw [List.zip_nil_right] at hz; cases hz
        | i c u hwi' => cases hlike
        | b c hwi' =>
          rw [List.zip_cons_cons] at hz
          injection hz with hyx hrest
          injection hyx with hy hx
          subst hy hx
          have hR' : R (.ok (.ret (.bool (if (Nm.b a).val = (Nm.b c).val then lexN _ _ else decide ((Nm.b a).val < (Nm.b c).val))))) ⟨hp, g, d, tk, os⟩ := hR
          refine wpAny_bind (SeqAt.EqAt.bool_bool (A := A.in1) (s := ⟨hp, g, d, tk, os⟩) a c prog w _ _ ?_)
          by_cases q : a = c
          · subst q
            rw [if_pos rfl] at hR'
            rw [beq_self_eq_true]
            wp_walk
            exact ⟨rfl, rfl, _, _, _, _, hrest, hvi', hwi', hlike, hR'⟩
          · have q' : ¬ (Nm.b a).val = (Nm.b c).val := by cases a <;> cases c <;> first | exact absurd rfl q | decide
            rw [if_neg q'] at hR'
            have e : (a == c) = false := beq_eq_false_iff_ne.mpr q
            rw [e]
            have hri : ∀ (E : Value → Shared → Prop) (Q : Value → Shared → Prop), Q (.bool (decide ((Nm.b a).val < (Nm.b c).val))) ⟨hp, g, d, tk, os⟩ → wpAny (model prog w) A.in1 (richCompare .Lt (.bool a) (.bool c)) Q E ⟨hp, g, d, tk, os⟩ := fun E Q hq =>
              (PyProof.Rows.lt_bool (by cases a <;> cases c <;> exact hq) : wpAny (model prog w) A.in1 (compareOp .Lt (.bool a) (.bool c)) Q E ⟨hp, g, d, tk, os⟩)
            wp_walk using hri
            exact ⟨_, rfl, by simpa using hR'⟩
    case fin =>
      rintro ⟨b1, b2⟩ s' ⟨hb', rfl, vs, ws, ns', ms', hz, hvi, hwi, hlike, hR⟩
      simp only at hb'
      subst hb'
      have hv : lexN ns' ms' = false := by
        cases hvi with
        | nil => rfl
        | i a t hv =>
          cases hwi with
          | nil => rfl
          | i c u hw => rw [List.zip_cons_cons] at hz; cases hz
          | b c hw => rw [List.zip_cons_cons] at hz; cases hz
        | b a hv =>
          cases hwi with
          | nil => rfl
          | i c u hw => rw [List.zip_cons_cons] at hz; cases hz
          | b c hw => rw [List.zip_cons_cons] at hz; cases hz
      have hs : decide (items.size < items2.size) = false := decide_eq_false (by omega)
      rw [hv, ← hs] at hR
      wp_walk
      exact ⟨_, rfl, by simpa [Builtin.Tuple.tupleCompareSizes] using hR⟩
    case h =>
      exact ⟨rfl, rfl, items.toList, items2.toList, ns, ms, rfl, hi, hj, hk, h⟩
end
theorem nums_of {K : PySem.W.Frag} {H : Hp} : ∀ {ds : List D} {vs : List V} {us : List Value} {ns : List Nm}, nmsOf ds = some ns → Reps K H vs ds → Vals vs us → NumsAre us ns
  | [], _, _, _, h, r, v => by cases h; cases r; cases v; exact .nil
  | d :: ds, _, _, ns, h, r, v => by
    obtain ⟨x, ex, h⟩ := Option.bind_eq_some_iff.mp (show ((nmOf d).bind _) = some ns from h)
    obtain ⟨xs, exs, h⟩ := Option.bind_eq_some_iff.mp h
    cases h
    cases r with
    | cons r1 r2 =>
      cases v with
      | cons v1 v2 =>
        have ih := nums_of exs r2 v2
        cases r1 with
        | int n => cases ex; obtain ⟨t, rfl⟩ := v1; exact .i n t ih
        | bl c => cases ex; cases v1; exact .b c ih
        | _ => cases ex
def gLtT : D → D → Option D
  | .tup as, .tup bs => (nmsOf as).bind fun ns => (nmsOf bs).bind fun ms => if likeN ns ms then some (.bl (lexN ns ms)) else none
  | .int i, .int j => some (.bl (decide (i < j)))
  | _, _ => none
def rLtD (K : PySem.W.Frag) : R2 := fun x y H Q => ∃ a b d, Rep K H x a ∧ Rep K H y b ∧ gLtT a b = some (.bl d) ∧ Q (.bl d) H
section
variable {X : Cx} {a b : Expr} {fa fb : FD} {pos : Pos}
theorem op_ltD (hu : X.A.units < cLine) : OpR X (compareOp .Lt) (rLtD X.K) := by
  intro pins s σ H x y v u Q I rx ry ⟨a, b, d, ra, rb, e, q⟩
  cases ra with
  | int i =>
    cases rb with
    | int j =>
      cases e
      obtain ⟨t, rfl⟩ := rx
      obtain ⟨t', rfl⟩ := ry
      exact PyProof.Rows.lt_int ⟨.bl _, H, I, rfl, q⟩
    | _ => cases e
  | @tup p vs as hp rp =>
    cases rb with
    | @tup p2 ws bs hq rq =>
      obtain ⟨ns, e1, e⟩ := Option.bind_eq_some_iff.mp (show ((nmsOf as).bind _) = some (D.bl d) from e)
      obtain ⟨ms, e2, e⟩ := Option.bind_eq_some_iff.mp e
      split at e
      · rename_i hk
        cases e
        cases (show v = Value.ref p from rx)
        cases (show u = Value.ref p2 from ry)
        obtain ⟨its, r1, t1, _⟩ := I.tuple hp
        obtain ⟨jts, r2, t2, _⟩ := I.tuple hq
        obtain ⟨⟨cls, dd, data, sl⟩, ho, hc, n, hd⟩ := t1
        obtain ⟨⟨cls2, dd2, data2, sl2⟩, ho2, hc2, n2, hd2⟩ := t2
        dsimp only at hc hd hc2 hd2
        subst hc hd hc2 hd2
        exact richCompare_meets_room (op := .Lt) ⟨_, ho, rfl⟩ ⟨_, ho2, rfl⟩ PySem.F.slot_tuple_lt PySem.F.entry_tuple_lt (PySem.F.args_tuple_lt_2 _ _) (tuple_lt_nums p p2 its.toArray jts.toArray n n2 dd dd2 sl sl2 ns ms (by simpa using nums_of e1 rp r1) (by simpa using nums_of e2 rq r2) hk)
          ⟨ho, ho2, show Value.bool (lexN ns ms) ≠ Value.notImplemented ∧ EP X pins σ Q (.bool (lexN ns ms)) s from ⟨(fun x => nomatch x), ⟨.bl _, H, I, rfl, q⟩⟩⟩ hu
      · cases e
    | _ => cases e
  | _ => cases rb <;> cases e
theorem r2_ltD {K : PySem.W.Frag} : R2D K (rLtD K) gLtT := by
  intro x y H Q a b d ra rb e k
  have : ∃ c, d = .bl c := by
    unfold gLtT at e
    split at e
    · obtain ⟨ns, _, e⟩ := Option.bind_eq_some_iff.mp e
      obtain ⟨ms, _, e⟩ := Option.bind_eq_some_iff.mp e
      split at e
      · cases e; exact ⟨_, rfl⟩
      · cases e
    · cases e; exact ⟨_, rfl⟩
    · cases e
  obtain ⟨c, rfl⟩ := this
  exact ⟨a, b, c, ra, rb, e, k _ H (Same.refl H) (.bl _)⟩
theorem pd_ltT (hu : X.A.units < cLine) (ha : PD X a fa) (hb : PD X b fb) : PD X (.Compare a [.Lt] [b] pos) (f2 gLtT fa fb) := pd_cmp (op_ltD hu) r2_ltD ha hb (nomark _)
end
/-! ### isinstance(x, list) -/
def isLst : D → Option Bool
  | .lst _ => some true
  | .seq _ => some true
  | .ty _ => none
  | .exc _ => none
  | .cls _ => none
  | _ => some false
theorem ok_isLst (d : D) (b : Bool) (h : isLst d = some b) : IsiOk "list" d b := by
  cases d <;> (first | cases h) <;> first
    | exact ⟨_, rfl, fun K => kit_nn _ K⟩
    | exact ⟨_, rfl, fun K => by kernel_rfl⟩
theorem pvi {X : Cx} (i : Nat) {x : Str} {pos : Pos} (hN : X.N[i]? = some x := by rfl) (hv : Vis X.env.scope x := by first | exact Or.inl rfl | exact Or.inr (Or.inl rfl) | exact Or.inr (Or.inr rfl)) (hd : (x == ("__debug__" : Str)) = false := by decide)
    (hcd : (x == ("__classdict__" : Str)) = false := by decide) : PE X (.Name x pos) (tVar i) := pe_var hN hv hd hcd
end Dl
namespace Dl
open PySem PySem.Spec PyProof.Rows L2
/-! ### for row in x: the rows of an owned list are changed one by one -/
def rowUp (X : Cx) (r : Nat) (g : List D → Option (List D)) : TS := fun E σ H => ∃ b ws ds es, σ[r]? = some (some (.ref b)) ∧ H b = some (.lst ws) ∧ Reps X.K H ws ds ∧ imms ds = true ∧ g ds = some es ∧ imms es = true ∧
  ∀ ws' H1, Same H H1 → Reps X.K H1 ws' es → E.nx σ (upd H1 b (.lst ws'))
def PRow (X : Cx) (r : Nat) (sts : List Stmt) (g : List D → Option (List D)) : Prop := PSs X sts (rowUp X r g)
theorem repS_none {K : PySem.W.Frag} {H : Hp} (σ : L2.St) : RepS K H σ (List.replicate σ.length none) := ⟨by simp, fun i d q => by
  rw [List.getElem?_replicate] at q
  split at q <;> cases q⟩
section
variable {X : Cx} {pos : Pos} {r : Nat} {c e : Expr} {f : FD} {g : List D → Option (List D)} {rest : List Stmt}
theorem row_nil : PRow X r [] some := impSs pss_nil fun E σ H ⟨b, ws, ds, es, h1, h2, rp, i1, h3, i2, k⟩ => by
  cases h3
  have z := k ws H (Same.refl H) rp
  have e : upd H b (.lst ws) = H := by
    funext x; unfold upd; split
    · rename_i q; rw [q, h2]
    · rfl
  rw [e] at z
  exact z
/-- behind one change, the next -/
theorem row_next {E : Ends} {σ : L2.St} {H H1 : Hp} {b : Addr} {ws ws1 : List V} {es fs : List D} {r : Nat} {X : Cx} {u : TS} (hu : ∀ E σ H, rowUp X r g E σ H → u E σ H) (h1 : σ[r]? = some (some (.ref b))) (h2 : H b = some (.lst ws)) (s1 : Same H H1) (rp : Reps X.K H1 ws1 es) (i1 : imms es = true) (h3 : g es = some fs) (i2 : imms fs = true)
    (k : ∀ ws' H1, Same H H1 → Reps X.K H1 ws' fs → E.nx σ (upd H1 b (.lst ws'))) : u E σ (upd H1 b (.lst ws1)) := by
  have hb1 : H1 b = some (.lst ws) := s1 _ _ h2
  refine hu E σ _ ⟨b, ws1, es, fs, h1, upd_same, reps_keep (keep_upd hb1) rp i1, i1, h3, i2, fun ws2 H2 s2 r2 => ?_⟩
  have hb2 : H2 b = some (.lst ws1) := s2 _ _ upd_same
  have z := k ws2 (upd H2 b (.lst ws)) (fun a u e => by
    by_cases q : a = b
    · subst q; rw [upd_same, ← h2]; exact e
    · rw [upd_ne q]
      refine s2 a u ?_
      rw [upd_ne q]
      exact s1 a u e) (reps_keep (keep_upd hb2) r2 i2)
  rw [upd_upd] at z
  exact z
theorem row_rev (hc : PE X c (tBM0 X.K "list" rReverse (tVar r))) (hr : PRow X r rest g) (hs : swapsWith c none pos.line X.env = pure false := by rfl) : PRow X r (.Expr c pos :: rest) (fun ds => g ds.reverse) := impSs (pss_cons (ps_expr hc hs) hr) fun E σ H ⟨b, ws, ds, es, h1, h2, rp, i1, h3, i2, k⟩ => by
  refine ⟨.ref b, h1, .inl ⟨rfl, _, SqL.of h2⟩, b, ws, rfl, rfl, h2, ?_⟩
  exact row_next (u := rowUp X r g) (fun _ _ _ z => z) h1 h2 (Same.refl H) rp.reverse (imms_mem.mpr fun d m => imms_mem.mp i1 d (List.mem_reverse.mp m)) h3 i2 k
theorem row_app {d : D} (he : PD X e f) (hd : ∀ n, f (List.replicate n none) = some d) (id : imm d = true) (hc : PE X e (up X.K f) → PE X c (tBM X.K "list" rAppend (tVar r) (tCons (up X.K f) tNil))) (hr : PRow X r rest g) (hs : swapsWith c none pos.line X.env = pure false := by rfl) :
    PRow X r (.Expr c pos :: rest) (fun ds => if ds.length ≤ 999 then g (ds ++ [d]) else none) := impSs (pss_cons (ps_expr (hc he) hs) hr) fun E σ H ⟨b, ws, ds, es, h1, h2, rp, i1, h3, i2, k⟩ => by
  dsimp only at h3
  split at h3
  · rename_i hz
    refine ⟨.ref b, h1, .inl ⟨rfl, _, SqL.of h2⟩, List.replicate σ.length none, d, repS_none σ, hd _, fun v H1 s1 r1 => ?_⟩
    refine ⟨b, ws, v, rfl, rfl, s1 _ _ h2, Nat.lt_of_le_of_lt (by rw [rp.length]; exact hz) (small1000 (show 999 ≤ 1000 by decide)), ?_⟩
    refine row_next (u := rowUp X r g) (fun _ _ _ z => z) h1 h2 s1 ((rp.mono s1).append (.cons r1 .nil)) (imms_mem.mpr fun x m => ?_) h3 i2 k
    rcases List.mem_append.mp m with z | z
    · exact imms_mem.mp i1 x z
    · rw [List.mem_singleton.mp z]; exact id
  · cases h3
end
def rowF (g : List D → Option (List D)) : D → Option D
  | .lst ds => if imms ds then (g ds).bind fun es => if imms es then some (.lst es) else none else none
  | _ => none
theorem rowF_inv {g : List D → Option (List D)} {d e : D} (h : rowF g d = some e) : ∃ ds es, d = .lst ds ∧ e = .lst es ∧ imms ds = true ∧ g ds = some es ∧ imms es = true := by
  unfold rowF at h
  split at h
  · rename_i ds
    split at h
    · rename_i hi
      obtain ⟨es, h1, h⟩ := Option.bind_eq_some_iff.mp h
      split at h
      · rename_i hj
        cases h
        exact ⟨ds, es, rfl, rfl, hi, h1, hj⟩
      · cases h
    · cases h
  · cases h
def sRows (i r : Nat) (g : List D → Option (List D)) : SD := fun δ => match δ[i]? with
  | some (some (.lst ds)) => if r < δ.length then (mapO (rowF g) ds).bind fun es => some (.nx ((δ.set r none).set i (some (.lst es)))) else none
  | _ => none
theorem RepA.other {K : PySem.W.Frag} {F H : Hp} {σ : L2.St} {δ : DS} {As : Nat → List Addr} (R : RepA K F H σ δ As) {r : Nat} (v : Option V) (hr : ∀ d, δ[r]? ≠ some (some d)) : RepA K F H (σ.set r v) δ As := by
  refine ⟨R.fz, by rw [List.length_set]; exact R.len, fun i d q => ?_, R.non, R.nd, R.dj⟩
  obtain ⟨w, h1, h2⟩ := R.val i d q
  have : r ≠ i := fun z => hr d (z ▸ q)
  exact ⟨w, by rw [List.getElem?_set_ne this]; exact h1, h2⟩
theorem mid_set {α : Type} {as bs : List α} {j : Nat} (hl : as.length = bs.length) (h : j < as.length) : (as.take j ++ bs.drop j).set j as[j] = as.take (j + 1) ++ bs.drop (j + 1) := by
  have hj : (as.take j).length = j := by rw [List.length_take]; omega
  rw [List.set_append_right _ _ (by omega), hj, Nat.sub_self, List.drop_eq_getElem_cons (by omega), List.set_cons_zero]
  have e : as.take (j + 1) = as.take j ++ [as[j]] := by rw [List.take_add_one, List.getElem?_eq_getElem h]; rfl
  rw [e, List.append_assoc]
  rfl
theorem mid_get {α : Type} {as bs : List α} {j : Nat} (hl : as.length = bs.length) (h : j < as.length) : (as.take j ++ bs.drop j)[j]? = some (bs[j]'(by omega)) := by
  have hj : (as.take j).length = j := by rw [List.length_take]; omega
  rw [List.getElem?_append_right (by omega), hj, Nat.sub_self, List.getElem?_drop]
  simp [show j < bs.length by omega]
theorem pm_rows {X : Cx} {x y : Str} {px py pos : Pos} {body : List Stmt} {g : List D → Option (List D)} (i r : Nat) (hN : X.N.Nodup) (hp : PassesOwn (model X.prog X.w) X.A X.env X.xe) (hc : X.calm = true) (hv : PE X (.Name y py) (tVar i)) (hb : PRow X r body g) (hir : i ≠ r := by decide)
    (hx : X.N[r]? = some x := by rfl) (hl : Loc X.env.scope x := by first | exact Or.inl rfl | exact Or.inr rfl) (hf : X.fn x = true ∨ X.env.scope.names.lookup x = some .local := by first | exact .inl rfl | exact .inr rfl | assumption)
    (hs : ∀ x, foldedSetIterable (.Name y py) X.env x = pure x := by intro _; rfl) : PMD X (.For (.Name x px) (.Name y py) body [] pos) (sRows i r g) := impS (ps_for hp hc (pi_list hv) (pg_name hN hx hl hf) hb hs) fun E σ H ⟨F, δ, res, ⟨As, R⟩, q, k⟩ => by
  unfold sRows at q
  split at q
  · rename_i ds h
    by_cases hrl : r < δ.length
    case neg => rw [if_neg hrl] at q; cases q
    rw [if_pos hrl] at q
    obtain ⟨es, em, q⟩ := Option.bind_eq_some_iff.mp q
    cases q
    obtain ⟨hlen, hget⟩ := mapO_get em
    obtain ⟨a, vs, A0, s0, eA, g0, n0, ro⟩ := R.lst h
    have hiδ : i < δ.length := (List.getElem?_eq_some_iff.mp h).1
    have vl : vs.length = ds.length := ro.length
    refine ⟨.ref a, s0, a, rfl, ⟨vs, SqL.of g0⟩, ?_⟩
    have dget : ∀ (z : List D), ((δ.set r none).set i (some (.lst z)))[i]? = some (some (.lst z)) := fun z => by
      rw [List.getElem?_set, if_pos rfl, if_pos (by rw [List.length_set]; exact hiδ)]
    have dr : ∀ (z : List D) d, ((δ.set r none).set i (some (.lst z)))[r]? ≠ some (some d) := fun z d e => by
      rw [List.getElem?_set_ne hir, List.getElem?_set, if_pos rfl] at e
      split at e <;> cases e
    have hset0 : (δ.set r none).set i (some (.lst ds)) = δ.set r none := by
      refine List.ext_getElem? fun j => ?_
      rw [List.getElem?_set]
      split
      · rename_i hj; subst hj
        rw [if_pos (by rw [List.length_set]; exact hiδ), List.getElem?_set_ne (Ne.symm hir), h]
      · rfl
    refine ⟨fun j m σ' H' => m = ds.length - j ∧ j ≤ ds.length ∧ σ'[i]? = some (some (.ref a)) ∧ H' a = some (.lst vs) ∧ RepM X.K F H' σ' ((δ.set r none).set i (some (.lst (es.take j ++ ds.drop j)))), ⟨ds.length, rfl, Nat.zero_le _, s0, g0, _, by
      rw [List.take_zero, List.drop_zero, List.nil_append, hset0]; exact R.drop r⟩, ?_⟩
    rintro j m σ' H' ⟨rfl, hjl, s1, g1, As', R'⟩
    by_cases hlt : j < ds.length
    · have hle : es.length = ds.length := hlen
      obtain ⟨e1, ge, xe⟩ := hget j ds[j] (List.getElem?_eq_getElem hlt)
      obtain ⟨row, row', ed, rfl, i1, gr, i2⟩ := rowF_inv ge
      have hrow : (es.take j ++ ds.drop j)[j]? = some (.lst row) := by
        rw [mid_get hle (by omega)]; rw [ed]
      refine .inr ⟨⟨vs, vs[j], SqL.of g1, List.getElem?_eq_getElem (by omega)⟩, fun σ2 H2 => σ2[i]? = some (some (.ref a)) ∧ H2 a = some (.lst vs) ∧ RepM X.K F H2 σ2 ((δ.set r none).set i (some (.lst (es.take (j + 1) ++ ds.drop (j + 1))))), fun σ2 H2 z => ⟨ds.length - (j + 1), by omega, rfl, hlt, z⟩, fun y H2 yy => ?_⟩
      obtain ⟨eH, hy⟩ := yy
      subst eH
      have hyv := hy vs (SqL.of g1)
      obtain ⟨a1, vs1, b, ws, B0, O, t0, u0, hv1, ub, rr, ndB, inB, inO, aO, sep, _⟩ := R'.row (dget _) hrow
      have ea : a1 = a := by rw [s1] at t0; cases t0; rfl
      subst ea
      have ev : vs1 = vs := by rw [g1] at u0; cases u0; rfl
      subst ev
      have eyb : y = .ref b := by rw [hv1] at hyv; cases hyv; rfl
      subst eyb
      show rowUp X r g _ (σ'.set r (some (.ref b))) H2
      have hrσ : r < σ'.length := by rw [R'.len]; simpa using hrl
      refine ⟨b, ws, row, row', by rw [List.getElem?_set, if_pos rfl, if_pos hrσ], ub, rr.reps R'.fz, i1, gr, i2, fun ws' H3 s3 r3 => ?_⟩
      have R3 := R'.grow s3
      obtain ⟨a2, vs2, b2, ws2, B2, O2, t2, u2, hv2, ub2, rr2, ndB2, inB2, inO2, aO2, sep2, fin⟩ := R3.row (dget _) hrow
      have ea : a2 = a1 := by rw [s1] at t2; cases t2; rfl
      subst ea
      have ev : vs2 = vs1 := by rw [s3 _ _ g1] at u2; cases u2; rfl
      subst ev
      have eb : b2 = b := by rw [hv1] at hv2; cases hv2; rfl
      subst eb
      have hab : a2 ≠ b2 := fun z => sep2 b2 List.mem_cons_self (z ▸ aO2)
      have Rn := fin (RepOs.of_imm (F := F) r3 i2) (fun z => nomatch z) List.nodup_nil (fun x m => nomatch m) fun _ _ _ _ z => nomatch z
      obtain ⟨An, Rn⟩ := Rn
      have hes : es[j]'(by omega) = .lst row' := by
        rw [List.getElem?_eq_getElem (by omega)] at xe
        exact Option.some.inj xe
      rw [List.set_set, ← hes, mid_set hle (by omega)] at Rn
      refine ⟨by rw [List.getElem?_set_ne (Ne.symm hir)]; exact s1, by rw [upd_ne hab]; exact s3 _ _ g1, An, Rn.other _ (dr _)⟩
    · have e : j = ds.length := by omega
      subst e
      have z : es.take ds.length ++ ds.drop ds.length = es := by rw [List.take_of_length_le (by omega), List.drop_length, List.append_nil]
      rw [z] at R'
      exact .inl ⟨⟨vs, SqL.of g1, by omega⟩, k σ' F H' (Same.refl F) ⟨As', R'⟩⟩
  · cases q
end Dl
namespace Dl
open PySem PySem.Spec PyProof.Rows L2
/-- a block that takes no name from around it -/
theorem CompOk.nil {X : Cx} {scope : Scope} {x : Str} (clos : closureFor scope X.env = pure [] := by rfl) (nocell : ∀ y ∈ scope.names, y.2 ≠ .cell := by decide +kernel) (kind : scope.kind = .function := by rfl)
    (names : ∀ y ∈ scope.names, y.2 = .local → scope.names.lookup y.1 = some .local := by decide +kernel) (hx : scope.names.lookup x = some .local := by rfl) (hfr : ∀ p ∈ scope.names, p.2 ≠ .free := by decide +kernel) : CompOk X scope [] x [x] [] where
  clos := clos
  nocell := nocell
  kind := kind
  names := names
  hx := hx
  nd := by simp
  h0 := rfl
  len := rfl
  clx := rfl
  cls := fun y a h => by cases h
  has := fun y h => by
    have key : ∀ k, (k = NameKind.cell ∨ k = NameKind.free) → (relabel scope X.env).names.lookup y = some k → False := fun k hk h => by
      have m := PySem.mem_of_lookup h
      unfold relabel at m
      obtain ⟨⟨n, k'⟩, m1, m2⟩ := List.mem_map.mp m
      dsimp only at m2
      refine hfr _ m1 ?_
      show k' = NameKind.free
      split at m2
      · rename_i hc
        rw [Bool.and_eq_true, Bool.and_eq_true] at hc
        exact beq_iff_eq.mp hc.1.1
      · have e : k' = k := congrArg Prod.snd m2
        rcases hk with z1 | z1
        · exact absurd (e.trans z1) (nocell _ m1)
        · exact e.trans z1
    rcases h with h | h
    · exact (key _ (.inl rfl) h).elim
    · exact (key _ (.inr rfl) h).elim
  fr := fun i y k h1 h2 => by simp at h2
theorem flat_int (i : Int) : flatD (.int i) = true := rfl
theorem flat_bl (b : Bool) : flatD (.bl b) = true := rfl
end Dl
namespace Dl
open PySem PySem.Spec PyProof.Rows L2
/-! ### several names at once -/
theorem reps_own {K : PySem.W.Frag} {F H : Hp} : ∀ {vs : List V} {ds : List D}, Reps K H vs ds → imms ds = true → RepOs K F H vs ds []
  | _, _, .nil, _ => .nil
  | _, _, .cons r t, i => by
    rw [imms, Bool.and_eq_true] at i
    exact .cons (.imm i.1 r) (reps_own t i.2) rfl
theorem RepO.parts {K : PySem.W.Frag} {F H : Hp} {v : V} {ds : List D} {A : List Addr} (r : RepO K F H v (.tup ds) A) : ∃ a vs, v = .ref a ∧ SqT K H a vs ∧ RepOs K F H vs ds A := by
  cases r with
  | imm i h =>
    cases h with
    | tup h r => exact ⟨_, _, rfl, h, reps_own r (by rw [Dl.imm] at i; exact i)⟩
  | tup h r => exact ⟨_, _, rfl, h, r⟩
theorem RepOs.len {K : PySem.W.Frag} {F H : Hp} : ∀ {vs : List V} {ds : List D} {A : List Addr}, RepOs K F H vs ds A → vs.length = ds.length
  | _, _, _, .nil => rfl
  | _, _, _, .cons _ t _ => by rw [List.length_cons, List.length_cons, RepOs.len t]
/-! ### walks with several names -/
end Dl
namespace Dl
open PySem PySem.Spec PyProof.Rows L2
theorem look2 {y z u : Str} {c e a : Addr} (h : List.lookup y [(z, c), (u, e)] = some a) : (y = z ∧ c = a) ∨ (y = u ∧ e = a) := by
  by_cases hy : y = z
  · subst hy
    simp at h
    exact .inl ⟨rfl, h⟩
  · have q : (y == z) = false := beq_eq_false_iff_ne.mpr hy
    rw [List.lookup_cons, q] at h
    by_cases hu : y = u
    · subst hu
      simp at h
      exact .inr ⟨rfl, h⟩
    · have q2 : (y == u) = false := beq_eq_false_iff_ne.mpr hu
      rw [List.lookup_cons, q2] at h
      cases h
theorem look2_1 {z u : Str} {c e : Addr} : List.lookup z [(z, c), (u, e)] = some c := by simp
theorem look2_2 {z u : Str} {c e : Addr} (h : z ≠ u) : List.lookup u [(z, c), (u, e)] = some e := by
  have q : (u == z) = false := beq_eq_false_iff_ne.mpr h.symm
  rw [List.lookup_cons, q]
  simp
theorem free_of {X : Cx} {scope : Scope} {y : Str} (nocell : ∀ y ∈ scope.names, y.2 ≠ .cell) (h : (relabel scope X.env).names.lookup y = some .cell ∨ (relabel scope X.env).names.lookup y = some .free) : ∃ p ∈ scope.names, p.2 = .free ∧ p.1 = y := by
  have key : ∀ k, (k = NameKind.cell ∨ k = NameKind.free) → (relabel scope X.env).names.lookup y = some k → ∃ p ∈ scope.names, p.2 = .free ∧ p.1 = y := fun k hk h => by
    have m := PySem.mem_of_lookup h
    unfold relabel at m
    obtain ⟨⟨n, k'⟩, m1, m2⟩ := List.mem_map.mp m
    dsimp only at m2
    refine ⟨_, m1, ?_, ?_⟩
    · show k' = NameKind.free
      split at m2
      · rename_i hc
        rw [Bool.and_eq_true, Bool.and_eq_true] at hc
        exact beq_iff_eq.mp hc.1.1
      · have e : k' = k := congrArg Prod.snd m2
        rcases hk with z1 | z1
        · exact absurd (e.trans z1) (nocell _ m1)
        · exact e.trans z1
    · show n = y
      split at m2 <;> exact congrArg Prod.fst m2
  rcases h with h | h
  · exact key _ (.inl rfl) h
  · exact key _ (.inr rfl) h
/-- a block that takes two names from around it -/
theorem CompOk.two {X : Cx} {scope : Scope} {c e : Addr} {x z u : Str} {j k : Nat} (clos : closureFor scope X.env = pure [(z, c), (u, e)] := by rfl) (nocell : ∀ y ∈ scope.names, y.2 ≠ .cell := by decide +kernel) (kind : scope.kind = .function := by rfl)
    (names : ∀ y ∈ scope.names, y.2 = .local → scope.names.lookup y.1 = some .local := by decide +kernel) (hx : scope.names.lookup x = some .local := by rfl) (hne : x ≠ z := by decide +kernel) (hne' : x ≠ u := by decide +kernel) (hzu : z ≠ u := by decide +kernel) (hcell : X.env.cells.lookup z = some c := by rfl) (hcell' : X.env.cells.lookup u = some e := by rfl)
    (hfr : ∀ p ∈ scope.names, p.2 = .free → p.1 = z ∨ p.1 = u := by decide +kernel) (hj : X.N[j]? = some z := by rfl) (hJ : X.N[k]? = some u := by rfl) (hk : X.env.scope.names.lookup z = some .cell := by rfl) (hk' : (relabel scope X.env).names.lookup z = some .cell := by rfl) (hu : X.env.scope.names.lookup u = some .cell := by rfl) (hu' : (relabel scope X.env).names.lookup u = some .cell := by rfl) : CompOk X scope [(z, c), (u, e)] x [x, z, u] [j, k] where
  clos := clos
  nocell := nocell
  kind := kind
  names := names
  hx := hx
  nd := by simp [hne, hne', hzu]
  h0 := rfl
  len := rfl
  clx := by
    cases q : List.lookup x [(z, c), (u, e)] with
    | none => rfl
    | some a => rcases look2 q with ⟨h, _⟩ | ⟨h, _⟩ <;> exact absurd h (by assumption)
  cls := fun y a h => by
    rcases look2 h with ⟨rfl, rfl⟩ | ⟨rfl, rfl⟩
    · exact hcell
    · exact hcell'
  has := fun y h => by
    obtain ⟨p, m, f, rfl⟩ := free_of nocell h
    rcases hfr p m f with q | q
    · exact ⟨c, by rw [q]; exact look2_1⟩
    · exact ⟨e, by rw [q]; exact look2_2 hzu⟩
  fr := fun i y l h1 h2 => by
    match i with
    | 0 =>
      have e1 : z = y := Option.some.inj h1
      have e2 : j = l := Option.some.inj h2
      subst e1 e2
      refine ⟨hj, hk, hk', fun a ha => ?_⟩
      rw [hcell] at ha
      cases ha
      exact look2_1
    | 1 =>
      have e1 : u = y := Option.some.inj h1
      have e2 : k = l := Option.some.inj h2
      subst e1 e2
      refine ⟨hJ, hu, hu', fun a ha => ?_⟩
      rw [hcell'] at ha
      cases ha
      exact look2_2 hzu
    | i + 2 => cases h2
end Dl
namespace Dl
open PySem PySem.Spec PyProof.Rows L2
end Dl
namespace Dl
open PySem PySem.Spec PyProof.Rows L2
/-! ### products with a short factor -/
def CMulW (i j : Int) : Prop := (Bd i ∧ Bd j) ∨ L2.CMul i j
instance (i j : Int) : Decidable (CMulW i j) := by unfold CMulW L2.CMul; exact inferInstance
/-! ### x in a list or tuple of flat things -/
/-! ### all and any of a list of truths -/
end Dl
namespace Dl
open PySem PySem.Spec PyProof.Rows L2
/-! ### walking a tuple -/
end Dl
namespace Dl
open PySem PySem.Spec PyProof.Rows L2
/-! ### one list behind another, each one's own or shared -/
end Dl
namespace Dl
open PySem PySem.Spec PyProof.Rows L2
/-! ### a method of a list that was just told -/
theorem RepA.side {K : PySem.W.Frag} {F H : Hp} {σ : L2.St} {δ : DS} {As : Nat → List Addr} (R : RepA K F H σ δ As) {a : Addr} {vs ws : List V} (h : H a = some (.lst vs)) (n : F a = none) (dj : ∀ i, a ∉ As i) : RepA K F (upd H a (.lst ws)) σ δ As := by
  have ne : ∀ x, x ≠ a → upd H a (.lst ws) x = H x := fun x hx => upd_ne hx
  refine ⟨fun x u e => ?_, R.len, fun i d q => ?_, R.non, R.nd, R.dj⟩
  · have hx : x ≠ a := fun z => by rw [z, n] at e; cases e
    rw [ne x hx]
    exact R.fz x u e
  · obtain ⟨v, h1, h2⟩ := R.val i d q
    refine ⟨v, h1, h2.frame (fun x u e k => ?_) fun x m => ne x fun z => dj i (z ▸ m)⟩
    have hx : x ≠ a := fun z => by rw [z, h] at e; cases e; exact k _ rfl
    rw [ne x hx]
    exact e
end Dl
namespace Dl
open PySem PySem.Spec PyProof.Rows L2
/-! ### blocks with several targets, a test, and any names from around -/
structure CompG (X : Cx) (scope : Scope) (cl : List (Str × Addr)) (T N : List Str) (js : List Nat) : Prop where
  clos : closureFor scope X.env = pure cl
  nocell : ∀ y ∈ scope.names, y.2 ≠ .cell
  kind : scope.kind = .function
  names : ∀ y ∈ scope.names, y.2 = .local → scope.names.lookup y.1 = some .local
  nd : N.Nodup
  len : N.length = T.length + js.length
  clx : ∀ y, T.contains y = true → cl.lookup y = none
  cls : ∀ y c, cl.lookup y = some c → X.env.cells.lookup y = some c
  has : ∀ y, ((relabel scope X.env).names.lookup y = some .cell ∨ (relabel scope X.env).names.lookup y = some .free) → ∃ c, cl.lookup y = some c
  fr : ∀ i y j, N[T.length + i]? = some y → js[i]? = some j → X.N[j]? = some y ∧ X.env.scope.names.lookup y = some .cell ∧ (relabel scope X.env).names.lookup y = some .cell ∧ ∀ c, X.env.cells.lookup y = some c → cl.lookup y = some c
theorem lookup_mem {y : Str} : ∀ {cl : List (Str × Addr)}, y ∈ cl.map (·.1) → ∃ c, cl.lookup y = some c
  | [], h => by cases h
  | (z, c) :: cl, h => by
    by_cases hy : y = z
    · subst hy
      exact ⟨c, by simp⟩
    · have q : (y == z) = false := beq_eq_false_iff_ne.mpr hy
      rw [List.lookup_cons, q]
      refine lookup_mem ?_
      rcases List.mem_cons.mp h with e | e
      · exact absurd e hy
      · exact e
/-- from what can be looked at, name by name -/
theorem CompG.of {X : Cx} {scope : Scope} {cl : List (Str × Addr)} {T Z Y : List Str} {js : List Nat} (clos : closureFor scope X.env = pure cl := by rfl) (hY : cl.map (·.1) = Y := by rfl) (nocell : ∀ y ∈ scope.names, y.2 ≠ .cell := by decide +kernel) (kind : scope.kind = .function := by rfl)
    (names : ∀ y ∈ scope.names, y.2 = .local → scope.names.lookup y.1 = some .local := by decide +kernel) (nd : (T ++ Z).Nodup := by decide +kernel) (len : Z.length = js.length := by rfl) (dis : ∀ y ∈ T, y ∉ Y := by decide +kernel)
    (hcl : ∀ p ∈ cl, X.env.cells.lookup p.1 = some p.2) (hfr : ∀ p ∈ scope.names, p.2 = .free → p.1 ∈ Y := by decide +kernel) (hZ : ∀ y ∈ Z, y ∈ Y := by decide +kernel)
    (hN : ∀ (i : Nat) y j, Z[i]? = some y → js[i]? = some j → X.N[j]? = some y ∧ X.env.scope.names.lookup y = some .cell ∧ (relabel scope X.env).names.lookup y = some .cell) : CompG X scope cl T (T ++ Z) js where
  clos := clos
  nocell := nocell
  kind := kind
  names := names
  nd := nd
  len := by rw [List.length_append, len]
  clx := fun y hy => by
    cases q : cl.lookup y with
    | none => rfl
    | some c =>
      have m : y ∈ Y := by
        rw [← hY]
        exact List.mem_map.mpr ⟨_, PySem.mem_of_lookup q, rfl⟩
      exact absurd m (dis y (List.contains_iff_mem.mp hy))
  cls := fun y c h => hcl _ (PySem.mem_of_lookup h)
  has := fun y h => by
    obtain ⟨p, m, f, rfl⟩ := free_of nocell h
    exact lookup_mem (by rw [hY]; exact hfr p m f)
  fr := fun i y j h1 h2 => by
    rw [List.getElem?_append_right (Nat.le_add_right _ _), Nat.add_sub_cancel_left] at h1
    obtain ⟨a, b, c⟩ := hN i y j h1 h2
    refine ⟨a, b, c, fun e he => ?_⟩
    obtain ⟨e', he'⟩ := lookup_mem (cl := cl) (y := y) (by rw [hY]; exact hZ y (List.mem_of_getElem? h1))
    have := hcl _ (PySem.mem_of_lookup he')
    dsimp only at this
    rw [he] at this
    cases this
    exact he'
section
variable {X : Cx} {pins : List (Addr × Obj)} {σ : L2.St} {H₂ : Hp} {s₂ : Shared} {scope : Scope} {cl : List (Str × Addr)} {T N : List Str} {js : List Nat} {C : Addr} {fp : List Addr}
end
end Dl
namespace Dl
open PySem PySem.Spec PyProof.Rows L2
/-! ### two lists side by side -/
section
variable {X : Cx} {pins : List (Addr × Obj)} {σ : L2.St} {H : Hp} {s : Shared} {h' : Heap}
end
end Dl
namespace Dl
open PySem PySem.Spec PyProof.Rows L2
/-! ### defs that change the lists they are handed -/
def RPZ (X : Cx) (Z : L2.St → Prop) (E : Ends) (F : Hp) : Res → Prop
  | .nx δ => ∀ σ' F' H', Same F F' → RepM X.K F' H' σ' δ → Z σ' → E.nx σ' H'
  | .rt d => ∀ v F' H' A, Same F F' → Same F' H' → RepO X.K F' H' v d A → A.Nodup → E.rt v H'
  | .bk δ => ∀ σ' F' H', Same F F' → RepM X.K F' H' σ' δ → Z σ' → E.bk σ' H'
  | .ct δ => ∀ σ' F' H', Same F F' → RepM X.K F' H' σ' δ → Z σ' → E.ct σ' H'
  | .ex _ _ => False
  | .mk _ _ => False
theorem RPZ.mono {X : Cx} {Z : L2.St → Prop} {E : Ends} {F F1 : Hp} {r : Res} (s : Same F F1) (h : RPZ X Z E F r) : RPZ X Z E F1 r := by
  cases r with
  | nx δ => exact fun σ' F' H' s2 R => h σ' F' H' (s.trans s2) R
  | rt d => exact fun v F' H' A s2 => h v F' H' A (s.trans s2)
  | bk δ => exact fun σ' F' H' s2 R => h σ' F' H' (s.trans s2) R
  | ct δ => exact fun σ' F' H' s2 R => h σ' F' H' (s.trans s2) R
  | ex C δ => exact h
  | mk C δ => exact h
section
variable {X : Cx} {Z : L2.St → Prop} {st : Stmt} {rest : List Stmt} {s u : SD} {e : Expr} {fk fl : FD} {fm : FM} {c : FT} {pos : Pos}
end
section
variable {P : Program} {w : World} {K : PySem.W.Frag} {mg : Str → Option Value} {base : Heap}
end
end Dl
namespace Dl
open PySem PySem.Spec PyProof.Rows L2
/-! ### a part of a tuple that was told -/
theorem Ev.sub {F H F' H' : Hp} {As As' : Nat → List Addr} {A B : List Addr} (ev : Ev F H As F' H' As' A) (h : ∀ a ∈ B, a ∈ A) (nd : B.Nodup) : Ev F H As F' H' As' B :=
  ⟨ev.fs, ev.hs, ev.nf, ev.fa, fun a m => ev.fA a (h a m), nd, fun i a m z => ev.dj i a m (h a z)⟩
theorem Ev.grow {F H F' H' H1 : Hp} {As As' : Nat → List Addr} {A : List Addr} (ev : Ev F H As F' H' As' A) (s : Same H' H1) : Ev F H As F' H1 As' A :=
  ⟨ev.fs, ev.hs.trans s, ev.nf, ev.fa, ev.fA, ev.nd, ev.dj⟩
/-! ### 0 <= x < n -/
/-! ### len(set(x)), x whole numbers -/
theorem vals_ints : ∀ {ns : List Int} {us : List Value}, Vals (ns.map V.int) us → PyProof.Rows.IntsAre us ns
  | [], _, .nil => .nil
  | n :: ns, _, .cons r t => by
    obtain ⟨tk, rfl⟩ := r
    exact .cons n tk (vals_ints t)
section
variable {X : Cx}
end
/-! ### a list of one's own within a tuple: x[1].reverse(), x[1].append(e), for row in x[1] -/
section
variable {K : PySem.W.Frag} {F H : Hp} {σ : L2.St} {δ : DS} {As : Nat → List Addr} {i : Nat} {x : D} {ds : List D}
end
section
variable {X : Cx} {pos : Pos} {c : Expr} {f : FD}
end
end Dl
namespace Dl
open PySem PySem.Spec PyProof.Rows L2
end Dl

namespace Mine
open PySem PySem.Spec PyProof.Rows L2 Dl
noncomputable section
def top (i : Nat) : Stmt := PySem.Challenge.pw_watchyard_k15_tables_narrowed.main.body.getD i (.Pass ⟨0, 0, 0, 0⟩)

open Mth
abbrev fr (p : Int × Int) : D := .tup [.int p.1, .int p.2]
def gWhole : D → Option Bool
  | .int _ => some true
  | .ty _ => none
  | .exc _ => none
  | .cls _ => none
  | _ => some false
/-- sizes for the guards -/
abbrev Md (x : Int) : Prop := Sm 4000 x
theorem Md.bd {x : Int} (h : Md x) : Bd x := h.mono (l := 9000) (by decide)
theorem bd_of {k : Nat} {x : Int} (h : Sm k x) (e : k ≤ 9000 := by decide) : Bd x := h.mono (l := 9000) e
theorem bd_sm {x : Int} (h : x.natAbs < 2 ^ 64 := by decide) : Bd x := bd_of (k := 64) h
theorem bd_neg {x : Int} (h : Bd x) : Bd (-x) := by unfold Bd at *; rw [Int.natAbs_neg]; exact h
structure Fk (p : Int × Int) : Prop where
  pos : 0 < p.2
  s1 : Md p.1
  s2 : Md p.2
theorem Fk.of {k : Nat} {p : Int × Int} (h : Fr k p) (e : k ≤ 4000 := by decide) : Fk p := ⟨h.pos, h.s1.mono e, h.s2.mono e⟩
def S_is_whole (ds : List D) (d : D) : Prop := ∃ x b, gWhole x = some b ∧ ds = [x] ∧ d = .bl b
theorem e_is_whole {x : D} {b : Bool} (h : gWhole x = some b) : fn S_is_whole [x] = some (.bl b) := fn_eq (fun d' h' => by
  obtain ⟨x', b', h1, h2, rfl⟩ := h'
  cases h2; rw [h] at h1; cases h1; rfl) ⟨x, b, h, rfl, rfl⟩
abbrev S__law_whole := S_is_whole
def S_common_divisor (ds : List D) (d : D) : Prop := ∃ a b, 0 < b ∧ ds = [.int a, .int b] ∧ d = .int (gc a b)
theorem e_common_divisor {a b : Int} (h : 0 < b) : fn S_common_divisor [.int a, .int b] = some (.int (gc a b)) := fn_eq (fun d' h' => by
  obtain ⟨a', b', h1, h2, rfl⟩ := h'
  cases h2; rfl) ⟨a, b, h, rfl, rfl⟩
abbrev S__law_common := S_common_divisor
def S_lowest (ds : List D) (d : D) : Prop := ∃ t b, 0 < b ∧ Bd b ∧ ds = [.int t, .int b] ∧ d = fr (rd t b)
theorem e_lowest {t b : Int} (h : 0 < b) (g : Bd b) : fn S_lowest [.int t, .int b] = some (fr (rd t b)) := fn_eq (fun d' h' => by
  obtain ⟨t', b', _, _, h2, rfl⟩ := h'
  cases h2; rfl) ⟨t, b, h, g, rfl, rfl⟩
def S2 (op : Int × Int → Int × Int → D) (ds : List D) (d : D) : Prop := ∃ p q : Int × Int, Fk p ∧ Fk q ∧ ds = [fr p, fr q] ∧ d = op p q
theorem e2 {op : Int × Int → Int × Int → D} {p q : Int × Int} (h : Fk p) (g : Fk q) : fn (S2 op) [fr p, fr q] = some (op p q) := fn_eq (fun d' h' => by
  obtain ⟨⟨a, b⟩, ⟨c, e⟩, _, _, h2, rfl⟩ := h'
  obtain ⟨a', b'⟩ := p
  obtain ⟨c', e'⟩ := q
  cases h2; rfl) ⟨p, q, h, g, rfl, rfl⟩
abbrev S_less := S2 fun p q => .bl (decide (p.1 * q.2 < q.1 * p.2))
theorem ints_inj : ∀ {ns ms : List Int}, ns.map D.int = ms.map D.int → ns = ms
  | [], [], _ => rfl
  | [], _ :: _, h => by cases h
  | _ :: _, [], h => by cases h
  | n :: ns, m :: ms, h => by
    have h' : D.int n :: ns.map D.int = D.int m :: ms.map D.int := h
    injection h' with h1 h2
    injection h1 with h1
    rw [h1, ints_inj h2]
/-- the k-th cell of the script -/
def cell (ns : List Int) (k : Int) : Int := ns.getD k.toNat 0
def S__law_cell_at (ds : List D) (d : D) : Prop := ∃ (ns : List Int) (k : Int), 0 ≤ k ∧ ds = [.seq (ns.map D.int), .int k] ∧ d = .int (cell ns k)
theorem e__law_cell_at {ns : List Int} {k : Int} (h : 0 ≤ k) : fn S__law_cell_at [.seq (ns.map D.int), .int k] = some (.int (cell ns k)) := fn_eq (fun d' h' => by
  obtain ⟨ns', k', _, h2, rfl⟩ := h'
  injection h2 with h3 h4
  injection h3 with h3
  injection h4 with h4
  injection h4 with h4
  rw [ints_inj h3, h4]) ⟨ns, k, h, rfl, rfl⟩
def bdD : Bn → D
  | none => .non
  | some (n, s) => .tup [.int n, .bl s]
theorem bdD_none : bdD none = .non := rfl
theorem bdD_some (n : Int) (s : Bool) : bdD (some (n, s)) = .tup [.int n, .bl s] := rfl
theorem bdD_inj {a b : Bn} (h : bdD a = bdD b) : a = b := by
  rcases a with _ | ⟨n, s⟩ <;> rcases b with _ | ⟨m, t⟩
  · rfl
  · cases h
  · cases h
  · cases h; rfl
/-- a bound whose number is of k bits -/
def Bk (k : Nat) : Bn → Prop
  | none => True
  | some (n, _) => Sm k n
theorem Bk.mono {k l : Nat} {b : Bn} (h : Bk k b) (e : k ≤ l) : Bk l b := by
  rcases b with _ | ⟨n, s⟩
  · trivial
  · exact Sm.mono (show Sm k n from h) e
theorem Bk.sum {k : Nat} {a b : Bn} (h : Bk k a) (g : Bk k b) : Bk (k + 1) (bs a b) := by
  rcases a with _ | ⟨n, s⟩
  · trivial
  rcases b with _ | ⟨m, t⟩
  · trivial
  · exact Sm.add (show Sm k n from h) (show Sm k m from g)
theorem low_one (n : Int) : low n 1 = (n, 1) := by
  rw [low_pos (by decide)]
  exact rd_of_lo ⟨by decide, by unfold gc; simp⟩
def S_fraction (ds : List D) (d : D) : Prop := ∃ t b, b ≠ 0 ∧ Bd b ∧ ds = [.int t, .int b] ∧ d = fr (low t b)
theorem e_fraction {t b : Int} (h : b ≠ 0) (g : Bd b) : fn S_fraction [.int t, .int b] = some (fr (low t b)) := fn_eq (fun d' h' => by
  obtain ⟨t', b', _, _, h2, rfl⟩ := h'
  cases h2; rfl) ⟨t, b, h, g, rfl, rfl⟩
theorem e_fraction1 {n : Int} : dfl (fn S_fraction) [1] [.int n] = some (.tup [.int n, .int 1]) := by
  have h := e_fraction (t := n) (b := 1) (by decide) bd_sm
  rw [low_one] at h
  exact h
def S_keeps (ds : List D) (d : D) : Prop := ∃ (p : Int × Int) (b : Bn), Fk p ∧ Bk 4000 b ∧ ds = [fr p, bdD b] ∧ d = .bl (kp p b)
theorem e_keeps {p : Int × Int} {b : Bn} (h : Fk p) (g : Bk 4000 b) : fn S_keeps [fr p, bdD b] = some (.bl (kp p b)) := fn_eq (fun d' h' => by
  obtain ⟨⟨a, b'⟩, c, _, _, h2, rfl⟩ := h'
  obtain ⟨x, y⟩ := p
  injection h2 with h3 h4
  injection h4 with h4 _
  cases h3
  rw [bdD_inj h4]) ⟨p, b, h, g, rfl, rfl⟩
theorem isN_bd (a : Bn) : gIsN (bdD a) .non = some (.bl a.isNone) := by
  rcases a with _ | ⟨n, s⟩ <;> rfl

def S_tighter (ds : List D) (d : D) : Prop := ∃ a b : Bn, ds = [bdD a, bdD b] ∧ d = .bl (tgt a b)
theorem e_tighter {a b : Bn} : fn S_tighter [bdD a, bdD b] = some (.bl (tgt a b)) := fn_eq (fun d' h' => by
  obtain ⟨a', b', h2, rfl⟩ := h'
  injection h2 with h3 h4
  injection h4 with h4 _
  rw [bdD_inj h3, bdD_inj h4]) ⟨a, b, rfl, rfl⟩
abbrev S__law_tighter := S_tighter

/-! tables of bounds -/
theorem sh_bd (b : Bn) : sh (bdD b) = bdD b := by rcases b with _ | ⟨n, s⟩ <;> rfl
theorem imm_bd (b : Bn) : imm (bdD b) = true := by rcases b with _ | ⟨n, s⟩ <;> rfl
theorem own_bd (b : Bn) : own (bdD b) = true := by rcases b with _ | ⟨n, s⟩ <;> rfl
def rowD (r : List Bn) : List D := r.map bdD
theorem shs_row : ∀ (r : List Bn), shs (rowD r) = rowD r
  | [] => rfl
  | b :: r => by show sh (bdD b) :: shs (rowD r) = _; rw [sh_bd, shs_row r]; rfl
theorem imms_row : ∀ (r : List Bn), imms (rowD r) = true
  | [] => rfl
  | b :: r => by show (imm (bdD b) && imms (rowD r)) = true; rw [imm_bd, imms_row r]; rfl
theorem owns_row : ∀ (r : List Bn), owns (rowD r) = true
  | [] => rfl
  | b :: r => by show (own (bdD b) && owns (rowD r)) = true; rw [own_bd, owns_row r]; rfl
def rowsS (T : List (List Bn)) : List D := T.map fun r => .seq (rowD r)
def rowsO (T : List (List Bn)) : List D := T.map fun r => .lst (rowD r)
def tabD (T : List (List Bn)) : D := .seq (rowsS T)
def ownD (T : List (List Bn)) : D := .lst (rowsO T)
theorem shs_rowsO : ∀ (T : List (List Bn)), shs (rowsO T) = rowsS T
  | [] => rfl
  | r :: T => by show sh (.lst (rowD r)) :: shs (rowsO T) = _; rw [shs_rowsO T, sh, shs_row]; rfl
theorem shs_rowsS : ∀ (T : List (List Bn)), shs (rowsS T) = rowsS T
  | [] => rfl
  | r :: T => by show sh (.seq (rowD r)) :: shs (rowsS T) = _; rw [shs_rowsS T, sh, shs_row]; rfl
theorem sh_ownD (T : List (List Bn)) : sh (ownD T) = tabD T := by unfold ownD tabD; rw [sh, shs_rowsO]
theorem sh_tabD (T : List (List Bn)) : sh (tabD T) = tabD T := by unfold tabD; rw [sh, shs_rowsS]
theorem owns_rowsO : ∀ (T : List (List Bn)), owns (rowsO T) = true
  | [] => rfl
  | r :: T => by show (own (.lst (rowD r)) && owns (rowsO T)) = true; rw [own, owns_row, owns_rowsO T]; rfl
theorem own_ownD (T : List (List Bn)) : own (ownD T) = true := by unfold ownD; rw [own]; exact owns_rowsO T
theorem rowD_inj : ∀ {r s : List Bn}, rowD r = rowD s → r = s
  | [], [], _ => rfl
  | [], _ :: _, h => by cases h
  | _ :: _, [], h => by cases h
  | a :: r, b :: s, h => by
    have h' : bdD a :: rowD r = bdD b :: rowD s := h
    injection h' with h1 h2
    rw [bdD_inj h1, rowD_inj h2]
theorem rowsS_inj : ∀ {T U : List (List Bn)}, rowsS T = rowsS U → T = U
  | [], [], _ => rfl
  | [], _ :: _, h => by cases h
  | _ :: _, [], h => by cases h
  | a :: r, b :: s, h => by
    have h' : D.seq (rowD a) :: rowsS r = D.seq (rowD b) :: rowsS s := h
    injection h' with h1 h2
    injection h1 with h1
    rw [rowD_inj h1, rowsS_inj h2]
theorem tabD_inj {T U : List (List Bn)} (h : tabD T = tabD U) : T = U := by
  unfold tabD at h
  injection h with h
  exact rowsS_inj h
structure Sq (T : List (List Bn)) (m : Nat) : Prop where
  len : T.length = m
  row : ∀ r ∈ T, r.length = m
theorem mapO_map {α : Type} {f g : α → D} {F : D → Option D} : ∀ {xs : List α}, (∀ x ∈ xs, F (f x) = some (g x)) → mapO F (xs.map f) = some (xs.map g)
  | [], _ => rfl
  | x :: xs, h => by
    show ((F (f x)).bind fun y => (mapO F (xs.map f)).bind fun ys => some (y :: ys)) = _
    rw [h x List.mem_cons_self, mapO_map fun y m => h y (List.mem_cons_of_mem _ m)]
    rfl
theorem eq_bd (n : Nat) (b : Bn) : eqN (n + 1) (bdD b) (bdD b) = some true := by
  rcases b with _ | ⟨k, s⟩
  · rfl
  · cases n with
    | zero => show eqL (eqN 0) [D.int k, D.bl s] [D.int k, D.bl s] = _; simp [eqL, eqN, flat_int, flat_bl, eqF]
    | succ n => show eqL (eqN (n + 1)) [D.int k, D.bl s] [D.int k, D.bl s] = _; simp [eqL, eqN, flat_int, flat_bl, eqF]
theorem eqL_self {f : D → D → Option Bool} : ∀ {ds : List D}, (∀ d ∈ ds, f d d = some true) → eqL f ds ds = some true
  | [], _ => rfl
  | d :: ds, h => by
    show ((f d d).bind fun x => (eqL f ds ds).bind fun y => some (x && y)) = _
    rw [h d List.mem_cons_self, eqL_self fun e m => h e (List.mem_cons_of_mem _ m)]
    rfl
theorem eq_row (n : Nat) (r : List Bn) : eqL (eqN (n + 1)) (rowD r) (rowD r) = some true := eqL_self fun d m => by
  obtain ⟨b, _, rfl⟩ := List.mem_map.mp m
  exact eq_bd n b
theorem eq_rowsS (n : Nat) (T : List (List Bn)) : eqL (eqN (n + 2)) (rowsS T) (rowsS T) = some true := eqL_self fun d m => by
  obtain ⟨r, _, rfl⟩ := List.mem_map.mp m
  exact eq_row n r
theorem eq_rowsO (n : Nat) (T : List (List Bn)) : eqL (eqN (n + 2)) (rowsO T) (rowsO T) = some true := eqL_self fun d m => by
  obtain ⟨r, _, rfl⟩ := List.mem_map.mp m
  exact eq_row n r
theorem ne_tab (T : List (List Bn)) : gNeN (tabD T) (tabD T) = some (.bl false) := by
  unfold gNeN
  have z : eqN 6 (tabD T) (tabD T) = some true := eq_rowsS 3 T
  rw [z]; rfl
theorem ne_own (T : List (List Bn)) : gNeN (ownD T) (ownD T) = some (.bl false) := by
  unfold gNeN
  have z : eqN 6 (ownD T) (ownD T) = some true := eq_rowsO 3 T
  rw [z]; rfl
def opn (m : Nat) : List (List Bn) := List.replicate m (List.replicate m none)
theorem opn_sq (m : Nat) : Sq (opn m) m := ⟨by simp [opn], fun r h => by rw [(List.mem_replicate.mp h).2]; simp⟩
def cellT (T : List (List Bn)) (i j : Nat) : Bn := (T.getD i []).getD j none
def set2 (T : List (List Bn)) (i j : Nat) (b : Bn) : List (List Bn) := T.set i ((T.getD i []).set j b)
def nar (T : List (List Bn)) (i j : Nat) (b : Bn) : List (List Bn) := if tgt b (cellT T i j) then set2 T i j b else T
theorem set2_sq {T : List (List Bn)} {m i j : Nat} {b : Bn} (h : Sq T m) (hi : i < m) : Sq (set2 T i j b) m := by
  refine ⟨by unfold set2; rw [List.length_set]; exact h.len, fun r hr => ?_⟩
  rcases List.mem_or_eq_of_mem_set hr with z | z
  · exact h.row r z
  · rw [z, List.length_set, List.getD_eq_getElem?_getD, List.getElem?_eq_getElem (by rw [h.len]; exact hi)]
    exact h.row _ (List.getElem_mem _)
theorem nar_sq {T : List (List Bn)} {m i j : Nat} {b : Bn} (h : Sq T m) (hi : i < m) : Sq (nar T i j b) m := by
  unfold nar
  split
  · exact set2_sq h hi
  · exact h
theorem atI_of {α : Type} {xs : List α} {j : Nat} {v : α} (h : xs[j]? = some v) : L2.atI xs (j : Int) = some v := L2.atI_nat h
theorem ixN_of {n j : Nat} (h : j < n) : L2.ixN n (j : Int) = some j := by
  unfold L2.ixN
  rw [if_pos (by omega), if_pos (by omega)]
  simp
theorem getD_row {T : List (List Bn)} {m i : Nat} (h : Sq T m) (hi : i < m) : ∃ r, T[i]? = some r ∧ T.getD i [] = r ∧ r.length = m := by
  have hl : i < T.length := by rw [h.len]; exact hi
  refine ⟨T[i], List.getElem?_eq_getElem hl, ?_, h.row _ (List.getElem_mem _)⟩
  rw [List.getD_eq_getElem?_getD, List.getElem?_eq_getElem hl]; rfl
/-- an item of a table, owned or shared -/
theorem ix_own {T : List (List Bn)} {m i j : Nat} (h : Sq T m) (hi : i < m) (hj : j < m) : ∃ r, gIx (ownD T) (.int (i : Int)) = some (.lst (rowD r)) ∧ gIx (.lst (rowD r)) (.int (j : Int)) = some (bdD (cellT T i j)) ∧ (rowsO T)[i]? = some (.lst (rowD r)) ∧ r.length = m ∧ T.getD i [] = r := by
  obtain ⟨r, h1, h2, h3⟩ := getD_row h hi
  have hx : (rowsO T)[i]? = some (.lst (rowD r)) := by unfold rowsO; rw [List.getElem?_map, h1]; rfl
  refine ⟨r, atI_of hx, ?_, hx, h3, h2⟩
  show L2.atI (rowD r) (j : Int) = _
  refine atI_of ?_
  unfold rowD cellT
  rw [List.getElem?_map, h2, List.getD_eq_getElem?_getD, List.getElem?_eq_getElem (by omega)]
  rfl
theorem ix_tab {T : List (List Bn)} {m i j : Nat} (h : Sq T m) (hi : i < m) (hj : j < m) : ∃ r, gIx (tabD T) (.int (i : Int)) = some (.seq (rowD r)) ∧ gIx (.seq (rowD r)) (.int (j : Int)) = some (bdD (cellT T i j)) := by
  obtain ⟨r, h1, h2, h3⟩ := getD_row h hi
  have hx : (rowsS T)[i]? = some (.seq (rowD r)) := by unfold rowsS; rw [List.getElem?_map, h1]; rfl
  refine ⟨r, atI_of hx, ?_⟩
  show L2.atI (rowD r) (j : Int) = _
  refine atI_of ?_
  unfold rowD cellT
  rw [List.getElem?_map, h2, List.getD_eq_getElem?_getD, List.getElem?_eq_getElem (by omega)]
  rfl
theorem set_rowsO {T : List (List Bn)} {i j : Nat} {b : Bn} {r : List Bn} (h : T.getD i [] = r) : (rowsO T).set i (.lst ((rowD r).set j (bdD b))) = rowsO (set2 T i j b) := by
  unfold rowsO set2 rowD
  rw [h, List.map_set, List.map_set]
theorem len_rowsO (T : List (List Bn)) : (rowsO T).length = T.length := by simp [rowsO]
theorem len_rowD (r : List Bn) : (rowD r).length = r.length := by simp [rowD]
/-- d is seen as the table T -/
def IsT (d : D) (T : List (List Bn)) : Prop := sh d = tabD T
theorem isT_own (T : List (List Bn)) : IsT (ownD T) T := sh_ownD T
theorem isT_tab (T : List (List Bn)) : IsT (tabD T) T := sh_tabD T
theorem IsT.inj {d : D} {T U : List (List Bn)} (h : IsT d T) (g : IsT d U) : T = U := tabD_inj (h.symm.trans g)
def S_open_table (ds : List D) (d : D) : Prop := ∃ k : Int, 0 ≤ k ∧ k ≤ 40 ∧ ds = [.int k] ∧ d = ownD (opn (k.toNat + 1))
theorem e_open_table {k : Int} (h0 : 0 ≤ k) (h1 : k ≤ 40) : fn S_open_table [.int k] = some (ownD (opn (k.toNat + 1))) := fn_eq (fun d' h' => by
  obtain ⟨k', _, _, h2, rfl⟩ := h'
  cases h2; rfl) ⟨k, h0, h1, rfl, rfl⟩
def S_narrowed (ds : List D) (d : D) : Prop := ∃ (d0 : D) (T : List (List Bn)) (m i j : Nat) (b : Bn), IsT d0 T ∧ Sq T m ∧ m ≤ 41 ∧ i < m ∧ j < m ∧ ds = [d0, .int (i : Int), .int (j : Int), bdD b] ∧ d = ownD (nar T i j b)
theorem e_narrowed {d0 : D} {T : List (List Bn)} {m i j : Nat} {b : Bn} (h : IsT d0 T) (hs : Sq T m) (hm : m ≤ 41) (hi : i < m) (hj : j < m) : fn S_narrowed [d0, .int (i : Int), .int (j : Int), bdD b] = some (ownD (nar T i j b)) := fn_eq (fun d' h' => by
  obtain ⟨d1, U, m', i', j', b', g, _, _, _, _, h2, rfl⟩ := h'
  injection h2 with e1 h2
  injection h2 with e2 h2
  injection h2 with e3 h2
  injection h2 with e4 _
  injection e2 with e2
  injection e3 with e3
  subst e1
  have := h.inj g
  subst this
  have : i' = i := by omega
  subst this
  have : j' = j := by omega
  subst this
  rw [bdD_inj e4]) ⟨d0, T, m, i, j, b, h, hs, hm, hi, hj, rfl, rfl⟩

def S__law_copied (ds : List D) (d : D) : Prop := ∃ (d0 : D) (T : List (List Bn)) (m : Nat), IsT d0 T ∧ Sq T m ∧ m ≤ 41 ∧ ds = [d0] ∧ d = ownD T
theorem e__law_copied {d0 : D} {T : List (List Bn)} {m : Nat} (h : IsT d0 T) (hs : Sq T m) (hm : m ≤ 41) : fn S__law_copied [d0] = some (ownD T) := fn_eq (fun d' h' => by
  obtain ⟨d1, U, m', g, _, _, h2, rfl⟩ := h'
  cases h2
  rw [h.inj g]) ⟨d0, T, m, h, hs, hm, rfl, rfl⟩
def S__law_is_table (ds : List D) (d : D) : Prop := ∃ (d0 d1 : D) (T : List (List Bn)), IsT d0 T ∧ IsT d1 T ∧ ds = [d0, d1] ∧ d = .bl true
theorem e__law_is_table {d0 d1 : D} {T : List (List Bn)} (h : IsT d0 T) (g : IsT d1 T) : fn S__law_is_table [d0, d1] = some (.bl true) := fn_eq (fun d' h' => by
  obtain ⟨_, _, _, _, _, _, rfl⟩ := h'
  rfl) ⟨d0, d1, T, h, g, rfl, rfl⟩
def bnd (c : Int) : Bn := if c % 8 = 7 then none else some (if 4 < c % 8 then c / 8 / 2 % (2 * 10 ^ 60 - 1) - (10 ^ 60 - 1) else c / 8 / 2 % 25 - 12, c / 8 % 2 == 1)
def S__law_bound (ds : List D) (d : D) : Prop := ∃ c, ds = [.int c] ∧ d = bdD (bnd c)
theorem e__law_bound {c : Int} : fn S__law_bound [.int c] = some (bdD (bnd c)) := fn_eq (fun d' h' => by
  obtain ⟨c', h2, rfl⟩ := h'
  cases h2; rfl) ⟨c, rfl, rfl⟩

abbrev GMod : D → D → Option D := gI (fun _ j => 0 < j) fun i j => .int (i % j)
abbrev GMul : D → D → Option D := gI CMulB fun i j => .int (i * j)
def ldS (s : Int × Int) : Int × Int := ((s.1 * 48271 + 9973) % 2147483629, s.2 * 2147483587 + (s.1 * 48271 + 9973) % 2147483629 * ((s.1 * 48271 + 9973) % 2147483629) % 2147483587)
def ldN : Nat → Int × Int → Int × Int
  | 0, s => s
  | n + 1, s => ldN n (ldS s)
def ld (c : Int) : Int := if (10 : Int) ^ 12 ≤ (c.natAbs : Int) then c else (ldN 9 ((c * 48271 + 11) % 2147483647, 0)).2
def S__law_load (ds : List D) (d : D) : Prop := ∃ c, ds = [.int c] ∧ d = .int (ld c)
theorem e__law_load {c : Int} : fn S__law_load [.int c] = some (.int (ld c)) := fn_eq (fun d' h' => by
  obtain ⟨c', h2, rfl⟩ := h'
  cases h2; rfl) ⟨c, rfl, rfl⟩

theorem lstImm_row (r : List Bn) (δ : DS) : lstImm (.lst (rowD r)) δ = some (.lst (rowD r), δ) := if_pos (imms_row r)
theorem rep_row : ∀ (n : Nat), (List.replicate n [D.non]).flatten = rowD (List.replicate n none)
  | 0 => rfl
  | n + 1 => by rw [List.replicate_succ, List.replicate_succ, List.flatten_cons, rep_row n]; rfl
theorem gRep_non {k : Int} (h0 : 0 ≤ k) (h1 : k ≤ 40) : gRep (.lst [.non]) (.int (k + 1)) = some (.lst (rowD (List.replicate (k.toNat + 1) none))) := by
  have e : (k + 1).toNat = k.toNat + 1 := by omega
  unfold gRep
  dsimp only
  rw [if_pos ⟨by rw [e]; simp only [List.length_cons, List.length_nil]; omega, by omega, by omega⟩, e, rep_row]
theorem mapO_opn {k : Int} (h0 : 0 ≤ k) {F : D → Option D} (hF : ∀ i, F (.int i) = some (.lst (rowD (List.replicate (k.toNat + 1) none)))) : mapO F (rangeD 0 (k + 1) 1) = some (rowsO (opn (k.toNat + 1))) := by
  have e : ((k + 1 - 0 + 1 - 1) / 1).toNat = k.toNat + 1 := by omega
  unfold rangeD
  rw [e, mapO_map (g := fun _ => .lst (rowD (List.replicate (k.toNat + 1) none))) fun i _ => hF _]
  unfold rowsO opn
  rw [List.map_const', List.length_range, List.map_replicate]
theorem asR_k {k : Int} (h0 : 0 ≤ k) (h1 : k ≤ 40) : asR [.int (k + 1)] = some (rangeD 0 (k + 1) 1) := by
  show (if -(2 ^ 62) ≤ k + 1 ∧ k + 1 < 2 ^ 62 then some (rangeD 0 (k + 1) 1) else none) = _
  rw [if_pos (by omega)]
theorem opn_elt {k : Int} (h0 : 0 ≤ k) (h1 : k ≤ 40) (i : Int) : Dl.ownOf (vRep (fLst (faCons (fC .non) faNil)) (f2 gAdd (fVar 1) (fC (.int 1)))) (shO [some (.int i), some (.int k)]) = some (.lst (rowD (List.replicate (k.toNat + 1) none))) := by
  unfold Dl.ownOf vRep
  have e : f2 gRep (fLst (faCons (fC .non) faNil)) (f2 gAdd (fVar 1) (fC (.int 1))) (shO [some (.int i), some (.int k)]) = gRep (.lst [.non]) (.int (k + 1)) := rfl
  rw [e, gRep_non h0 h1]
  show ((lstImm (.lst _) _).bind _) = _
  rw [lstImm_row]
  show (if own (.lst _) = true then _ else _) = _
  rw [if_pos (by rw [own]; exact owns_row _)]
theorem len_opn (k : Int) : (rowsO (opn (k.toNat + 1))).length = k.toNat + 1 := by rw [len_rowsO]; unfold opn; rw [List.length_replicate]
theorem vComp_opn {k : Int} (h0 : 0 ≤ k) (h1 : k ≤ 40) {δ : DS} {js : List Nat} (hj : slotsOf js δ = [some (.int k)]) {src : FA} (hs : src δ = asR [.int (k + 1)] := by rfl) :
    vComp src js (vRep (fLst (faCons (fC .non) faNil)) (f2 gAdd (fVar 1) (fC (.int 1)))) δ = some (ownD (opn (k.toNat + 1)), δ) := by
  unfold vComp
  rw [hs, asR_k h0 h1]
  show ((mapO _ (rangeD 0 (k + 1) 1)).bind _) = _
  rw [mapO_opn h0 (fun i => by rw [hj]; exact opn_elt h0 h1 i)]
  show (if (rowsO (opn (k.toNat + 1))).length ≤ 1000 then _ else _) = _
  rw [if_pos (by rw [len_opn]; omega)]
  rfl
theorem fComp_opn {k : Int} (h0 : 0 ≤ k) (h1 : k ≤ 40) {δ : DS} {js : List Nat} (hj : slotsOf js δ = [some (.int k)]) {src : FA} (hs : src δ = asR [.int (k + 1)] := by rfl) :
    fComp src js (f2 gRep (fLst (faCons (fC .non) faNil)) (f2 gAdd (fVar 1) (fC (.int 1)))) δ = some (ownD (opn (k.toNat + 1))) := by
  unfold fComp
  rw [hs, asR_k h0 h1]
  show ((mapO _ (rangeD 0 (k + 1) 1)).bind _) = _
  rw [mapO_opn h0 (fun i => by rw [hj]; exact gRep_non h0 h1)]
  show (if (rowsO (opn (k.toNat + 1))).length ≤ 1000 then _ else _) = _
  rw [if_pos (by rw [len_opn]; omega)]
  rfl
theorem copy_elt (r : List Bn) (tl : DS) : Dl.ownOf (vListOf (faCons (fVar 0) faNil)) (shO (some (.seq (rowD r)) :: tl)) = some (.lst (rowD r)) := by
  have e : shO (some (.seq (rowD r)) :: tl) = some (.seq (rowD r)) :: shO tl := by
    show some (sh (.seq (rowD r))) :: _ = _
    rw [sh, shs_row]
    rfl
  rw [e]
  show (((lstImm (.lst (rowD r)) _)).bind _) = _
  rw [lstImm_row]
  show (if own (.lst _) = true then _ else _) = _
  rw [if_pos (by rw [own]; exact owns_row _)]
theorem vComp_copy {T : List (List Bn)} {m : Nat} (hs : Sq T m) (hm : m ≤ 41) {δ : DS} {i : Nat} {js : List Nat} (hj : δ[i]? = some (some (tabD T))) :
    vComp (fun δ => ((fVar i) δ).bind asL) js (vListOf (faCons (fVar 0) faNil)) δ = some (ownD T, δ) := by
  unfold vComp
  have e : ((fVar i) δ).bind asL = some (rowsS T) := by unfold fVar; rw [hj]; rfl
  dsimp only
  rw [e]
  show ((mapO _ (rowsS T)).bind _) = _
  unfold rowsS
  rw [mapO_map (g := fun r => .lst (rowD r)) fun r _ => copy_elt r _]
  show (if (rowsO T).length ≤ 1000 then _ else _) = _
  rw [if_pos (by rw [len_rowsO, hs.len]; omega)]
  rfl
theorem nar_no {T : List (List Bn)} {i j : Nat} {b : Bn} (h : tgt b (cellT T i j) = false) : nar T i j b = T := by unfold nar; rw [h]; rfl
theorem nar_yes {T : List (List Bn)} {i j : Nat} {b : Bn} (h : tgt b (cellT T i j) = true) : nar T i j b = set2 T i j b := by unfold nar; rw [h]; rfl
theorem vName_bd {δ : DS} {i : Nat} {b : Bn} (h : δ[i]? = some (some (bdD b))) : vName i δ = some (bdD b, δ) := by
  unfold vName
  rw [h]
  rcases b with _ | ⟨n, s⟩ <;> rfl
theorem sPut2_v {T : List (List Bn)} {m i j : Nat} {b : Bn} (hs : Sq T m) (hi : i < m) (hj : j < m) {δ δ' : DS} {p : Nat} {fk fl : FD} {fm : FM} (h0 : fm δ = some (bdD b, δ')) (h1 : δ'[p]? = some (some (ownD T))) (h2 : fk δ' = some (.int (i : Int))) (h3 : fl δ' = some (.int (j : Int))) :
    sPut2 p fk fl fm δ = some (.nx (δ'.set p (some (ownD (set2 T i j b))))) := by
  obtain ⟨w, q1, q2, q3, q4, q5⟩ := ix_own hs hi hj
  unfold sPut2
  rw [h0]
  show (if imm (bdD b) = true then _ else _) = _
  rw [if_pos (imm_bd b)]
  dsimp only
  rw [h1]
  unfold ownD
  dsimp only
  rw [h2, h3]
  dsimp only [Option.bind_some]
  rw [ixN_of (show i < (rowsO T).length by rw [len_rowsO, hs.len]; exact hi)]
  dsimp only [Option.bind_some]
  rw [q3]
  dsimp only [Option.bind_some]
  rw [ixN_of (show j < (rowD w).length by rw [len_rowD, q4]; exact hj)]
  dsimp only [Option.bind_some]
  rw [set_rowsO q5]
theorem fVar_of {δ : DS} {q : Nat} {d : D} (h : δ[q]? = some (some d)) : fVar q δ = some d := by unfold fVar; rw [h]
theorem sPut2_bd {T : List (List Bn)} {m i j : Nat} {b : Bn} (hs : Sq T m) (hi : i < m) (hj : j < m) {δ : DS} {p q r s : Nat} (h1 : δ[p]? = some (some (ownD T))) (h2 : δ[q]? = some (some (.int (i : Int)))) (h3 : δ[r]? = some (some (.int (j : Int)))) (h4 : δ[s]? = some (some (bdD b))) :
    sPut2 p (fVar q) (fVar r) (vName s) δ = some (.nx (δ.set p (some (ownD (set2 T i j b))))) := sPut2_v hs hi hj (vName_bd h4) h1 (fVar_of h2) (fVar_of h3)
/-- the tighter of both -/
def tgo (a b : Bn) : Bn := if tgt b a then b else a
def S_tighter_of (ds : List D) (d : D) : Prop := ∃ a b : Bn, ds = [bdD a, bdD b] ∧ d = bdD (tgo a b)
theorem e_tighter_of {a b : Bn} : fn S_tighter_of [bdD a, bdD b] = some (bdD (tgo a b)) := fn_eq (fun d' h' => by
  obtain ⟨a', b', h2, rfl⟩ := h'
  injection h2 with h3 h4
  injection h4 with h4 _
  rw [bdD_inj h3, bdD_inj h4]) ⟨a, b, rfl, rfl⟩
theorem getD_set_self {α : Type} {xs : List α} {i : Nat} {d : α} : xs.set i (xs.getD i d) = xs := by
  refine List.ext_getElem? fun k => ?_
  rw [List.getElem?_set]
  split
  · subst_vars
    split
    · rename_i h
      rw [List.getD_eq_getElem?_getD, List.getElem?_eq_getElem h]
      rfl
    · rename_i h
      rw [List.getElem?_eq_none (by omega)]
  · rfl
theorem set2_self (T : List (List Bn)) (i j : Nat) : set2 T i j (cellT T i j) = T := by
  unfold set2 cellT
  rw [getD_set_self, getD_set_self]
theorem nar_set (T : List (List Bn)) (i j : Nat) (b : Bn) : nar T i j b = set2 T i j (tgo (cellT T i j) b) := by
  unfold nar tgo
  split
  · rfl
  · rw [set2_self]
abbrev CopiedRel (ds : List D) (d : D) : Prop := ∃ (d0 : D) (T : List (List Bn)) (m : Nat), IsT d0 T ∧ Sq T m ∧ m ≤ 41 ∧ ds = [d0] ∧ d = ownD T
def S_copied (ds : List D) (d : D) : Prop := CopiedRel ds d
theorem e_copied {d0 : D} {T : List (List Bn)} {m : Nat} (h : IsT d0 T) (hs : Sq T m) (hm : m ≤ 41) : fn S_copied [d0] = some (ownD T) := fn_eq (fun d' h' => by
  obtain ⟨d1, U, m', g, _, _, h2, rfl⟩ := h'
  cases h2
  rw [h.inj g]) ⟨d0, T, m, h, hs, hm, rfl, rfl⟩
theorem ltT_bd (n m : Int) (s t : Bool) : gLtT (.tup [.int n, .bl (!s)]) (.tup [.int m, .bl (!t)]) = some (.bl (if n = m then s && !t else decide (n < m))) := by
  show some (D.bl (if n = m then lexN [.b (!s)] [.b (!t)] else decide (n < m))) = _
  by_cases h : n = m
  · subst h
    rw [if_pos rfl, if_pos rfl]
    cases s <;> cases t <;> rfl
  · rw [if_neg h, if_neg h]
/-! step by step -/
theorem rt_of {s : SD} {δ : DS} {d : D} (h : s δ = some (.rt d)) : retOf (s δ) = some d := by rw [h]; rfl
theorem st_seq {s u : SD} {δ δ' : DS} {r : Res} (h : s δ = some (.nx δ')) (g : u δ' = some r) : sSeq s u δ = some r := by unfold sSeq; rw [h]; exact g
theorem st_set {i : Nat} {f : FM} {δ δ' : DS} {d : D} (h : f δ = some (d, δ')) : sSetM i f δ = some (.nx (δ'.set i (some d))) := by unfold sSetM; rw [h]; rfl
theorem st_ret {f : FM} {δ δ' : DS} {d : D} (h : f δ = some (d, δ')) : sRetM f δ = some (.rt d) := by unfold sRetM; rw [h]; rfl
theorem st_if {c : FT} {s u : SD} {δ : DS} {r : Res} {b : Bool} (h : c δ = some b) (g : (if b then s δ else u δ) = some r) : sIf c s u δ = some r := by unfold sIf; rw [h]; cases b <;> exact g
theorem st_setD {i : Nat} {f : FD} {δ : DS} {d : D} (h : f δ = some d) : sSet i f δ = some (.nx (δ.set i (some d))) := by unfold sSet; rw [h]; rfl
theorem st_retD {f : FD} {δ : DS} {d : D} (h : f δ = some d) : sRet f δ = some (.rt d) := by unfold sRet; rw [h]; rfl
theorem st_forD {src : FA} {g : D → DS → Option DS} {s : SD} {δ : DS} {ds : List D} {r : Res} (h : src δ = some ds) (k : forD g s ds δ = some r) : sFor src g s δ = some r := by unfold sFor; rw [h]; exact k
theorem st_for {src : FMA} {i : Nat} {s : SD} {δ δ' : DS} {ds : List D} {r : Res} (h : src δ = some (ds, δ')) (g : Dl.forM i s ds δ' = some r) : sForM src i s δ = some r := by unfold sForM; rw [h]; exact g
theorem st_walk {i : Nat} {δ : DS} {d : D} {ds : List D} (h : δ[i]? = some (some d)) (g : sh d = .seq ds) (k : sh (.seq ds) = .seq ds) : vWalk (vShare i) δ = some (ds, δ.set i (some (.seq ds))) := by
  unfold vWalk vShare
  rw [h]
  simp only [Option.bind_some, g, k]
theorem v_imm {f : FD} {δ : DS} {d : D} (h : f δ = some d) (g : imm d = true := by rfl) : vI f δ = some (d, δ) := by unfold vI; rw [h]; exact if_pos g
theorem v_call {G : List D → Option D} {g : FA} {δ : DS} {ds : List D} {d : D} (h : g δ = some ds) (k : G ds = some d) (o : own d = true) : vCall G g δ = some (d, δ) := by unfold vCall; rw [h]; show ((G ds).bind _) = _; rw [k]; exact if_pos o
theorem v_move {i : Nat} {δ : DS} {ds : List D} (h : δ[i]? = some (some (.lst ds))) : vName i δ = some (.lst ds, δ.set i none) := by unfold vName; rw [h]; rfl
theorem shs_ints : ∀ (ns : List Int), shs (ns.map D.int) = ns.map D.int
  | [] => rfl
  | n :: ns => by show sh (.int n) :: shs (ns.map D.int) = _; rw [shs_ints ns]; rfl
theorem imms_ints : ∀ (ns : List Int), imms (ns.map D.int) = true
  | [] => rfl
  | n :: ns => by show (imm (.int n) && imms (ns.map D.int)) = true; rw [imms_ints ns]; rfl
theorem vSl_ints {ns : List Int} {δ : DS} {i : Nat} {lo hi : FO} {a b : Option Int} (h : δ[i]? = some (some (.seq (ns.map D.int)))) (h1 : lo δ = some a) (h2 : hi δ = some b) : ∃ ms : List Int, vSl (fVar i) lo hi δ = some (.lst (ms.map D.int), δ) := by
  obtain ⟨ms, e⟩ := cutD_ints ns a b
  refine ⟨ms, ?_⟩
  unfold vSl fSl fVar
  rw [h]
  dsimp only [Option.bind_some, asL]
  rw [h1, h2]
  dsimp only [Option.bind_some]
  rw [e]
  exact if_pos (imms_ints ms)
theorem gEqN_int (i j : Int) : gEqN (.int i) (.int j) = some (.bl (i == j)) := rfl
theorem cut1 (x : D) (xs : List D) : Dl.cutD (x :: xs) (some 1) none = xs := by
  unfold Dl.cutD sIxD
  simp
theorem opn_rows (n : Nat) : rowsO (opn (n + 1)) = .lst (rowD (List.replicate (n + 1) none)) :: rowsO (List.replicate n (List.replicate (n + 1) none)) := rfl
theorem rows_spoil {f : List D → Option (List D)} {T : List (List Bn)} {m : Nat} (hs : Sq T m) (h : ∀ r : List Bn, r.length = m → ∃ es, f (rowD r) = some es ∧ imms es = true) : ∃ es, mapO (rowF f) (rowsO T) = some es := by
  have key : ∀ U : List (List Bn), (∀ r ∈ U, r.length = m) → ∃ es, mapO (rowF f) (rowsO U) = some es := by
    intro U
    induction U with
    | nil => exact fun _ => ⟨[], rfl⟩
    | cons r U ih =>
      intro hU
      obtain ⟨es, e1⟩ := ih fun x hx => hU x (List.mem_cons_of_mem _ hx)
      obtain ⟨xs, f1, f2⟩ := h r (hU r List.mem_cons_self)
      refine ⟨.lst xs :: es, ?_⟩
      have g : rowF f (.lst (rowD r)) = some (.lst xs) := by
        unfold rowF
        dsimp only
        rw [if_pos (imms_row r), f1]
        exact if_pos f2
      show ((rowF f (.lst (rowD r))).bind fun y => (mapO (rowF f) (rowsO U)).bind fun ys => some (y :: ys)) = _
      rw [g, e1]
      rfl
  exact key T hs.row
theorem imms_app {as bs : List D} (h : imms as = true) (g : imms bs = true) : imms (as ++ bs) = true := imms_mem.mpr fun d m => (List.mem_append.mp m).elim (imms_mem.mp h d) (imms_mem.mp g d)
theorem app2_0 {δ : DS} {i : Nat} {fm : FM} {d : D} {row Rs : List D} (h : δ[i]? = some (some (.lst (.lst row :: Rs)))) (hf : fm δ = some (d, δ)) (hl : row.length ≤ 999) : sApp2 i (fC (.int 0)) fm δ = some (.nx (δ.set i (some (.lst (.lst (row ++ [d]) :: Rs))))) := by
  have z : L2.ixN (D.lst row :: Rs).length 0 = some 0 := ixN_of (j := 0) (by simp)
  unfold sApp2
  rw [h]
  dsimp only [fC, Option.bind_some]
  rw [z]
  dsimp only [Option.bind_some, List.getElem?_cons_zero]
  rw [hf]
  dsimp only [Option.bind_some]
  rw [h]
  dsimp only [List.getElem?_cons_zero]
  rw [if_pos ⟨hl, rfl⟩]
  rfl
theorem st_rows {δ : DS} {i r : Nat} {f : List D → Option (List D)} {ds es : List D} (h : δ[i]? = some (some (.lst ds))) (hr : r < δ.length) (g : mapO (rowF f) ds = some es) : sRows i r f δ = some (.nx ((δ.set r none).set i (some (.lst es)))) := by
  unfold sRows
  rw [h]
  dsimp only
  rw [if_pos hr, g]
  rfl
theorem st_clear {δ : DS} {i : Nat} {ds : List D} (h : δ[i]? = some (some (.lst ds))) : sClear i δ = some (.nx (δ.set i (some (.lst [])))) := by unfold sClear; rw [h]
theorem fa2 {f g : FD} {δ : DS} {a b : D} (h : f δ = some a) (k : g δ = some b) : faCons f (faCons g faNil) δ = some [a, b] := by
  unfold faCons faNil
  rw [h, k]
  rfl
theorem forM_keep {i : Nat} {s : SD} (P : DS → Prop) : ∀ (ds : List D) (δ : DS), P δ → (∀ d ∈ ds, ∀ δ, P δ → ∃ δ2, s (δ.set i (some (sh d))) = some (.nx δ2) ∧ P δ2) → ∃ δ', Dl.forM i s ds δ = some (.nx δ') ∧ P δ'
  | [], δ, p, _ => ⟨δ, rfl, p⟩
  | d :: ds, δ, p, h => by
    obtain ⟨δ2, h2, h3⟩ := h d List.mem_cons_self δ p
    obtain ⟨δ', h4, h5⟩ := forM_keep P ds δ2 h3 fun e he => h e (List.mem_cons_of_mem _ he)
    refine ⟨δ', ?_, h5⟩
    simp only [Dl.forM, h2, Option.bind_some, h4]


section
variable {P : Program} {w : World} {K : PySem.W.Frag} {mg : Str → Option Value} {base : Heap} {f : Addr} {fd : FuncData}
/-! ### tighter -/
abbrev s_tighter : Stmt := top 1
theorem sc_tighter : FnScope ["one", "other"] ["one", "other"] (defScope s_tighter) := ⟨rfl, rfl, rfl, by decide +kernel, rfl, by decide +kernel, by decide +kernel⟩
theorem ok_tighter (F : Fun K "tighter" "tighter" s_tighter f fd)    : FnOk P w K mg base CX0 1 f fd ["one", "other"] (pureSp K 2 (fn S_tighter)) := by
  have sc := sc_tighter
  refine pure_ok F sc_tighter (fun cdv A outer s H E ds d hr hG hl => ?_)
  obtain ⟨a, b, rfl, rfl⟩ := fn_inv hG
  refine ⟨_, (psd_cons (psd_if (ptd_isN (pd_var 0) pd_non) (psd_one (psd_ret pd_bl)) psd_nil)
      (psd_cons (psd_if (ptd_isN (pd_var 1) pd_non) (psd_one (psd_ret pd_bl)) psd_nil)
      (psd_cons (psd_if (ptd_ne hr.units0 (pd_ix (pd_var 0) pd_int) (pd_ix (pd_var 1) pd_int)) (psd_one (psd_ret (pd_lt (pd_ix (pd_var 0) pd_int) (pd_ix (pd_var 1) pd_int)))) psd_nil)
      (psd_one (psd_ret (pd_and (pd_ix (pd_var 0) pd_int) (pd_one (pd_not (pd_ix (pd_var 1) pd_int))))))))), ?_⟩
  · show retOf ((?f : SD) [some _, some _]) = _
    rcases a with _ | ⟨n, s⟩
    · rfl
    rcases b with _ | ⟨m, t⟩
    · rfl
    rw [tgt_ss]
    by_cases e : n = m
    · subst e
      rw [if_pos rfl]
      cases s <;> cases t <;> (simp only [retOf, sNil, sThen, sSeq, sRet, sDrop, sSet, sIf, sPar, sUn2, sFor, asL, gSet, forD, fVar, fC, f2, f1, fT, asB, fNotT, fAndT, fOrT, fAndV, fOrV, gNot, gNeg, faNil, faCons, fTup, fLst, fCall, gAbs, gInt, gLen_t2, gLen_seq, gIx_t0, gIx_t1, gI0, gAdd_int, gNe_int, gEq_int, gEq_bl, gEq_tup2, gNe_tup2, gIsi_same, Dl.isInt, Dl.isBool, Dl.isTup, Option.bind_some, Option.map_some, List.map_cons, List.map_nil, List.length_cons, List.length_nil, List.getElem?_cons_zero, List.getElem?_cons_succ, List.set_cons_zero, List.set_cons_succ, List.cons_append, List.nil_append, List.append_nil, Bool.not_true, Bool.not_false, beq_self_eq_true, bdD_none, bdD_some, gIsN, isNon, sSetM, sRetM, sDropM, vI, vName, vShare, vWalk, vNil, vCons, vLst, vTup, vCall, sh_bd] ; rfl)
    · have h1 : (n == m) = false := beq_eq_false_iff_ne.mpr e
      rw [if_neg e]
      simp only [retOf, sNil, sThen, sSeq, sRet, sDrop, sSet, sIf, sPar, sUn2, sFor, asL, gSet, forD, fVar, fC, f2, f1, fT, asB, fNotT, fAndT, fOrT, fAndV, fOrV, gNot, gNeg, faNil, faCons, fTup, fLst, fCall, gAbs, gInt, gLen_t2, gLen_seq, gIx_t0, gIx_t1, gI0, gAdd_int, gNe_int, gEq_int, gEq_bl, gEq_tup2, gNe_tup2, gIsi_same, Dl.isInt, Dl.isBool, Dl.isTup, Option.bind_some, Option.map_some, List.map_cons, List.map_nil, List.length_cons, List.length_nil, List.getElem?_cons_zero, List.getElem?_cons_succ, List.set_cons_zero, List.set_cons_succ, List.cons_append, List.nil_append, List.append_nil, Bool.not_true, Bool.not_false, beq_self_eq_true, bdD_none, bdD_some, gIsN, isNon, sSetM, sRetM, sDropM, vI, vName, vShare, vWalk, vNil, vCons, vLst, vTup, vCall, sh_bd, h1]
/-! ### open_table -/
abbrev s_open_table : Stmt := top 4
theorem sc_open_table : FnScope ["k"] ["k"] (defScope s_open_table) := ⟨rfl, rfl, rfl, by decide +kernel, rfl, by decide +kernel, by decide +kernel⟩
theorem ok_open_table (F : Fun K "open_table" "open_table" s_open_table f fd)   (m_range : mg "range" = none) : FnOk P w K mg base CX0 1 f fd ["k"] (freshSp K 1 (fn S_open_table)) := by
  have sc := sc_open_table
  refine fresh_ok F sc_open_table (fun cdv A outer s H E ds d hr hG hl => ?_)
  obtain ⟨k, hk0, hk1, rfl, rfl⟩ := fn_inv hG
  have hown := own_ownD (opn (k.toNat + 1))
  refine ⟨_, (pm_one (pm_ret (pv_comp (by exact (pid_range1 rfl m_range (pad_cons (pd_add (pd_var 0) pd_int) pad_nil))) (N := ["thing", "k"]) (js := [0]) (cl := [("k", _)]) (fun _ _ _ _ _ => by exact (pv_rep (pd_lst (pad_cons pd_non pad_nil)) (pd_add (pd_var 1) pd_int))) (by exact CompOk.one)))), ?_, ?own⟩
  case own => first | rfl | exact hown
  · show retOf ((?f : SD) (startM 1 _)) = _
    exact rt_of (δ := [some (.int k)]) (st_ret (vComp_opn hk0 hk1 rfl))
/-! ### copied -/
abbrev s_copied : Stmt := top 5
theorem sc_copied : FnScope ["table"] ["table"] (defScope s_copied) := ⟨rfl, rfl, rfl, by decide +kernel, rfl, by decide +kernel, by decide +kernel⟩
theorem ok_copied (F : Fun K "copied" "copied" s_copied f fd)   (m_list : mg "list" = none) : FnOk P w K mg base CX0 1 f fd ["table"] (freshSp K 1 (fn S_copied)) := by
  have sc := sc_copied
  refine fresh_ok F sc_copied (fun cdv A outer s H E ds d hr hG hl => ?_)
  obtain ⟨d0, T, m, hT, hs, hm, rfl, rfl⟩ := fn_inv hG
  have hown := own_ownD T
  refine ⟨_, (pm_one (pm_ret (pv_comp (by exact (pid_list (pd_var 0))) (N := ["bounds"]) (js := []) (cl := []) (fun _ _ _ _ _ => by exact (pv_listof rfl m_list boot_list (pad_cons (pd_var 0) pad_nil))) (by exact CompOk.nil)))), ?_, ?own⟩
  case own => first | rfl | exact hown
  · show retOf ((?f : SD) (startM 1 _)) = _
    have e0 : startM 1 [d0] = [some (tabD T)] := by
      show [some (sh d0)] = _
      rw [show sh d0 = tabD T from hT]
    rw [e0]
    exact rt_of (st_ret (vComp_copy hs hm rfl))
/-! ### _law_cell_at -/
abbrev s__law_cell_at : Stmt := top 8
theorem sc__law_cell_at : FnScope ["_law_script", "_law_k"] ["_law_script", "_law_k"] (defScope s__law_cell_at) := ⟨rfl, rfl, rfl, by decide +kernel, rfl, by decide +kernel, by decide +kernel⟩
theorem ok__law_cell_at (F : Fun K "_law_cell_at" "_law_cell_at" s__law_cell_at f fd)   (m_len : mg "len" = none) : FnOk P w K mg base CX0 1 f fd ["_law_script", "_law_k"] (pureSp K 2 (fn S__law_cell_at)) := by
  have sc := sc__law_cell_at
  refine pure_ok F sc__law_cell_at (fun cdv A outer s H E ds d hr hG hl => ?_)
  obtain ⟨ns, k, hk, rfl, rfl⟩ := fn_inv hG
  refine ⟨_, (psd_cons (psd_if (ptd_lt (pd_var 1) (pd_callB call_len_seq cd_len rfl m_len PySem.boot_len (pad_cons (pd_var 0) pad_nil))) (psd_one (psd_ret (pd_ix (pd_var 0) (pd_var 1)))) psd_nil)
      (psd_one (psd_ret pd_int))), ?_⟩
  · show retOf ((?f : SD) [some _, some _]) = _
    by_cases hlt : k < (ns.length : Int)
    · have h1 : decide (k < (((ns.map D.int).length : Nat) : Int)) = true := decide_eq_true (by rw [List.length_map]; exact hlt)
      have h2 : gIx (.seq (ns.map D.int)) (.int k) = some (.int (cell ns k)) := by
        show L2.atI (ns.map D.int) k = _
        have ek : k = ((k.toNat : Nat) : Int) := by omega
        have hk2 : k.toNat < ns.length := by omega
        have h3 := atI_nat (xs := ns.map D.int) (j := k.toNat) (v := D.int ns[k.toNat]) (by rw [List.getElem?_map, List.getElem?_eq_getElem hk2] <;> rfl)
        rw [← ek] at h3
        rw [h3]
        unfold cell
        simp [List.getD_eq_getElem?_getD, hk2]
      simp only [retOf, sNil, sThen, sSeq, sRet, sDrop, sSet, sIf, sPar, sUn2, sFor, asL, gSet, forD, fVar, fC, f2, f1, fT, asB, fNotT, fAndT, fOrT, fAndV, fOrV, gNot, gNeg, faNil, faCons, fTup, fLst, fCall, gAbs, gInt, gLen_t2, gLen_seq, gIx_t0, gIx_t1, gI0, gAdd_int, gNe_int, gEq_int, gEq_bl, gEq_tup2, gNe_tup2, gIsi_same, Dl.isInt, Dl.isBool, Dl.isTup, Option.bind_some, Option.map_some, List.map_cons, List.map_nil, List.length_cons, List.length_nil, List.getElem?_cons_zero, List.getElem?_cons_succ, List.set_cons_zero, List.set_cons_succ, List.cons_append, List.nil_append, List.append_nil, Bool.not_true, Bool.not_false, beq_self_eq_true, bdD_none, bdD_some, gIsN, isNon, sSetM, sRetM, sDropM, vI, vName, vShare, vWalk, vNil, vCons, vLst, vTup, vCall, sh_bd, h1, h2]
    · have h1 : decide (k < (((ns.map D.int).length : Nat) : Int)) = false := decide_eq_false (by rw [List.length_map]; exact hlt)
      have h2 : cell ns k = 0 := by
        unfold cell
        rw [List.getD_eq_getElem?_getD, List.getElem?_eq_none (by omega)]
        rfl
      simp only [retOf, sNil, sThen, sSeq, sRet, sDrop, sSet, sIf, sPar, sUn2, sFor, asL, gSet, forD, fVar, fC, f2, f1, fT, asB, fNotT, fAndT, fOrT, fAndV, fOrV, gNot, gNeg, faNil, faCons, fTup, fLst, fCall, gAbs, gInt, gLen_t2, gLen_seq, gIx_t0, gIx_t1, gI0, gAdd_int, gNe_int, gEq_int, gEq_bl, gEq_tup2, gNe_tup2, gIsi_same, Dl.isInt, Dl.isBool, Dl.isTup, Option.bind_some, Option.map_some, List.map_cons, List.map_nil, List.length_cons, List.length_nil, List.getElem?_cons_zero, List.getElem?_cons_succ, List.set_cons_zero, List.set_cons_succ, List.cons_append, List.nil_append, List.append_nil, Bool.not_true, Bool.not_false, beq_self_eq_true, bdD_none, bdD_some, gIsN, isNon, sSetM, sRetM, sDropM, vI, vName, vShare, vWalk, vNil, vCons, vLst, vTup, vCall, sh_bd, h1, h2]
/-! ### _law_whole -/
abbrev s__law_whole : Stmt := top 9
theorem sc__law_whole : FnScope ["_law_found"] ["_law_found"] (defScope s__law_whole) := ⟨rfl, rfl, rfl, by decide +kernel, rfl, by decide +kernel, by decide +kernel⟩
theorem ok__law_whole (F : Fun K "_law_whole" "_law_whole" s__law_whole f fd)   (m_isinstance : mg "isinstance" = none) (m_int : mg "int" = none) (m_bool : mg "bool" = none) : FnOk P w K mg base CX0 1 f fd ["_law_found"] (pureSp K 1 (fn S__law_whole)) := by
  have sc := sc__law_whole
  refine pure_ok F sc__law_whole (fun cdv A outer s H E ds d hr hG hl => ?_)
  obtain ⟨x, b, h, rfl, rfl⟩ := fn_inv hG
  refine ⟨_, (psd_one (psd_ret (pd_and (pd_callB call_isi (cd_isi ok_isInt) rfl m_isinstance boot_isinstance (pad_cons (pd_var 0) (pad_cons (pd_ty rfl m_int boot_int) pad_nil))) (pd_one (pd_not (pd_callB call_isi (cd_isi ok_isBool) rfl m_isinstance boot_isinstance (pad_cons (pd_var 0) (pad_cons (pd_ty rfl m_bool boot_bool) pad_nil)))))))), ?_⟩
  · show retOf ((?f : SD) [some _]) = _
    cases x <;> simp [gWhole] at h <;> subst h <;> rfl
/-! ### _law_load -/
abbrev s__law_load : Stmt := top 10
theorem sc__law_load : FnScope ["_law_cell", "_law_spun", "_law_found", "_law_turn"] ["_law_cell"] (defScope s__law_load) := ⟨rfl, rfl, rfl, by decide +kernel, rfl, by decide +kernel, by decide +kernel⟩

def ldB : SD := ((sSeq (sSet 1 (f2 (gI (fun _ j => 0 < j) fun i j => .int (i % j)) (f2 gAdd (f2 (gI CMulB fun i j => .int (i * j)) (fVar 1) (fC (.int 48271))) (fC (.int 9973))) (fC (.int 2147483629)))) (sSet 2 (f2 gAdd (f2 (gI CMulB fun i j => .int (i * j)) (fVar 2) (fC (.int 2147483587))) (f2 (gI (fun _ j => 0 < j) fun i j => .int (i % j)) (f2 (gI CMulB fun i j => .int (i * j)) (fVar 1) (fVar 1)) (fC (.int 2147483587)))))))
theorem ld_loop : ∀ (ds : List D) (x y : Int) (k : Nat) (u o : Option D), 0 ≤ x → x < 2 ^ 32 → Sm (k + 70) y → k + 40 * ds.length ≤ 400 → ∃ z o', forD (gSet 3) ldB ds [u, some (.int x), some (.int y), o] = some (.nx [u, some (.int z), some (.int (ldN ds.length (x, y)).2), o'])
  | [], x, y, k, u, o, _, _, _, _ => ⟨x, o, rfl⟩
  | d :: ds, x, y, k, u, o, h0, h1, h2, h3 => by
    rw [List.length_cons] at h3
    have m1 : CMulB x 48271 := ⟨bd_sm (by omega), bd_sm⟩
    have z0 : 0 ≤ (x * 48271 + 9973) % 2147483629 := Int.emod_nonneg _ (by decide)
    have z1 : (x * 48271 + 9973) % 2147483629 < 2147483629 := Int.emod_lt_of_pos _ (by decide)
    have m2 : CMulB y 2147483587 := ⟨bd_of (k := k + 70) h2 (by omega), bd_sm⟩
    have m3 : CMulB ((x * 48271 + 9973) % 2147483629) ((x * 48271 + 9973) % 2147483629) := ⟨bd_sm (by omega), bd_sm (by omega)⟩
    have s1 : Sm (k + 40 + 70) (y * 2147483587 + (x * 48271 + 9973) % 2147483629 * ((x * 48271 + 9973) % 2147483629) % 2147483587) := by
      have a1 : Sm (k + 70 + 32) (y * 2147483587) := Sm.mul h2 (show (2147483587 : Int).natAbs < 2 ^ 32 by decide)
      have w0 : 0 ≤ (x * 48271 + 9973) % 2147483629 * ((x * 48271 + 9973) % 2147483629) % 2147483587 := Int.emod_nonneg _ (by decide)
      have w1 : (x * 48271 + 9973) % 2147483629 * ((x * 48271 + 9973) % 2147483629) % 2147483587 < 2147483587 := Int.emod_lt_of_pos _ (by decide)
      have a2 : Sm 32 ((x * 48271 + 9973) % 2147483629 * ((x * 48271 + 9973) % 2147483629) % 2147483587) := by
        show Int.natAbs _ < 2 ^ 32
        omega
      exact (a1.add (a2.mono (by omega))).mono (by omega)
    obtain ⟨z, o', ih⟩ := ld_loop ds ((x * 48271 + 9973) % 2147483629) (y * 2147483587 + (x * 48271 + 9973) % 2147483629 * ((x * 48271 + 9973) % 2147483629) % 2147483587) (k + 40) u (some d) z0 (by omega) s1 (by omega)
    refine ⟨z, o', ?_⟩
    have hb : ldB [u, some (.int x), some (.int y), some d] = some (.nx [u, some (.int ((x * 48271 + 9973) % 2147483629)), some (.int (y * 2147483587 + (x * 48271 + 9973) % 2147483629 * ((x * 48271 + 9973) % 2147483629) % 2147483587)), some d]) := by
      unfold ldB
      simp only [retOf, sNil, sThen, sSeq, sRet, sDrop, sSet, sIf, sPar, sUn2, sFor, asL, gSet, forD, fVar, fC, f2, f1, fT, asB, fNotT, fAndT, fOrT, fAndV, fOrV, gNot, gNeg, faNil, faCons, fTup, fLst, fCall, gAbs, gInt, gLen_t2, gLen_seq, gIx_t0, gIx_t1, gI0, gAdd_int, gNe_int, gEq_int, gEq_bl, gEq_tup2, gNe_tup2, gIsi_same, Dl.isInt, Dl.isBool, Dl.isTup, Option.bind_some, Option.map_some, List.map_cons, List.map_nil, List.length_cons, List.length_nil, List.getElem?_cons_zero, List.getElem?_cons_succ, List.set_cons_zero, List.set_cons_succ, List.cons_append, List.nil_append, List.append_nil, Bool.not_true, Bool.not_false, beq_self_eq_true, bdD_none, bdD_some, gIsN, isNon, sSetM, sRetM, sDropM, vI, vName, vShare, vWalk, vNil, vCons, vLst, vTup, vCall, sh_bd, gI_pos (C := CMulB) m1, gI_pos (C := fun _ j => 0 < j) (i := x * 48271 + 9973) (j := 2147483629) (by decide), gI_pos (C := CMulB) m2, gI_pos (C := CMulB) m3, gI_pos (C := fun _ j => 0 < j) (i := (x * 48271 + 9973) % 2147483629 * ((x * 48271 + 9973) % 2147483629)) (j := 2147483587) (by decide)]
    show ((ldB [u, some (.int x), some (.int y), some d]).bind _) = _
    rw [hb]
    exact ih

theorem ok__law_load (F : Fun K "_law_load" "_law_load" s__law_load f fd)   (m_range : mg "range" = none) (m_abs : mg "abs" = none) : FnOk P w K mg base CX0 1 f fd ["_law_cell"] (pureSp K 1 (fn S__law_load)) := by
  have sc := sc__law_load
  refine pure_ok F sc__law_load (fun cdv A outer s H E ds d hr hG hl => ?_)
  obtain ⟨c, rfl, rfl⟩ := fn_inv hG
  refine ⟨_, (psd_cons (psd_if (ptd_ge (pd_callB call_abs cd_abs rfl m_abs PyProof.Rows.boot_abs (pad_cons (pd_var 0) pad_nil)) (pd_pow pd_int pd_int)) (psd_one (psd_ret (pd_var 0))) psd_nil)
      (psd_cons (psd_set 1 sc.nd (pd_mod (pd_add (pd_mul (pd_var 0) pd_int) pd_int) pd_int))
      (psd_cons (psd_set 2 sc.nd pd_int)
      (psd_cons (psd_for PassesOwn.never rfl (pid_range1 rfl m_range (pad_cons pd_int pad_nil)) (pgd_name 3 sc.nd)
        (psd_cons (psd_set 1 sc.nd (pd_mod (pd_add (pd_mul (pd_var 1) pd_int) pd_int) pd_int))
        (psd_one (psd_set 2 sc.nd (pd_add (pd_mul (pd_var 2) pd_int) (pd_mod (pd_mul (pd_var 1) (pd_var 1)) pd_int))))))
      (psd_one (psd_ret (pd_var 2))))))), ?_⟩
  · show retOf ((?f : SD) [some _, none, none, none]) = _
    have bp : CPow 10 12 := ⟨by decide, by decide, by decide⟩
    by_cases h : (10 : Int) ^ 12 ≤ (c.natAbs : Int)
    · have h1 : decide ((10 : Int) ^ (12 : Int).toNat ≤ (c.natAbs : Int)) = true := decide_eq_true h
      simp only [retOf, sNil, sThen, sSeq, sRet, sDrop, sSet, sIf, sPar, sUn2, sFor, asL, gSet, forD, fVar, fC, f2, f1, fT, asB, fNotT, fAndT, fOrT, fAndV, fOrV, gNot, gNeg, faNil, faCons, fTup, fLst, fCall, gAbs, gInt, gLen_t2, gLen_seq, gIx_t0, gIx_t1, gI0, gAdd_int, gNe_int, gEq_int, gEq_bl, gEq_tup2, gNe_tup2, gIsi_same, Dl.isInt, Dl.isBool, Dl.isTup, Option.bind_some, Option.map_some, List.map_cons, List.map_nil, List.length_cons, List.length_nil, List.getElem?_cons_zero, List.getElem?_cons_succ, List.set_cons_zero, List.set_cons_succ, List.cons_append, List.nil_append, List.append_nil, Bool.not_true, Bool.not_false, beq_self_eq_true, bdD_none, bdD_some, gIsN, isNon, sSetM, sRetM, sDropM, vI, vName, vShare, vWalk, vNil, vCons, vLst, vTup, vCall, sh_bd, gGe, gLe, gI_pos (C := CPow) bp, h1]
      unfold ld
      rw [if_pos h]
    · have h1 : decide ((10 : Int) ^ (12 : Int).toNat ≤ (c.natAbs : Int)) = false := decide_eq_false h
      have m1 : CMulB c 48271 := ⟨bd_sm (by omega), bd_sm⟩
      have z0 : 0 ≤ (c * 48271 + 11) % 2147483647 := Int.emod_nonneg _ (by decide)
      have z1 : (c * 48271 + 11) % 2147483647 < 2147483647 := Int.emod_lt_of_pos _ (by decide)
      obtain ⟨z, o', lp⟩ := ld_loop (rangeD 0 9 1) ((c * 48271 + 11) % 2147483647) 0 0 (some (.int c)) none z0 (by omega) (show (0 : Int).natAbs < 2 ^ 70 by decide) (by decide)
      have rg : asR [.int 9] = some (rangeD 0 9 1) := rfl
      have lp' : forD (gSet 3) ((sSeq (sSet 1 (f2 (gI (fun _ j => 0 < j) fun i j => .int (i % j)) (f2 gAdd (f2 (gI CMulB fun i j => .int (i * j)) (fVar 1) (fC (.int 48271))) (fC (.int 9973))) (fC (.int 2147483629)))) (sSet 2 (f2 gAdd (f2 (gI CMulB fun i j => .int (i * j)) (fVar 2) (fC (.int 2147483587))) (f2 (gI (fun _ j => 0 < j) fun i j => .int (i % j)) (f2 (gI CMulB fun i j => .int (i * j)) (fVar 1) (fVar 1)) (fC (.int 2147483587))))))) (rangeD 0 9 1) [some (.int c), some (.int ((c * 48271 + 11) % 2147483647)), some (.int 0), none] = some (.nx [some (.int c), some (.int z), some (.int (ldN 9 ((c * 48271 + 11) % 2147483647, 0)).2), o']) := lp
      have en : ld c = (ldN 9 ((c * 48271 + 11) % 2147483647, 0)).2 := by unfold ld; rw [if_neg h]
      rw [en]
      generalize (ldN 9 ((c * 48271 + 11) % 2147483647, 0)).2 = w at lp' ⊢
      refine rt_of (st_seq (st_if (b := false) (by simp only [retOf, sNil, sThen, sSeq, sRet, sDrop, sSet, sIf, sPar, sUn2, sFor, asL, gSet, forD, fVar, fC, f2, f1, fT, asB, fNotT, fAndT, fOrT, fAndV, fOrV, gNot, gNeg, faNil, faCons, fTup, fLst, fCall, gAbs, gInt, gLen_t2, gLen_seq, gIx_t0, gIx_t1, gI0, gAdd_int, gNe_int, gEq_int, gEq_bl, gEq_tup2, gNe_tup2, gIsi_same, Dl.isInt, Dl.isBool, Dl.isTup, Option.bind_some, Option.map_some, List.map_cons, List.map_nil, List.length_cons, List.length_nil, List.getElem?_cons_zero, List.getElem?_cons_succ, List.set_cons_zero, List.set_cons_succ, List.cons_append, List.nil_append, List.append_nil, Bool.not_true, Bool.not_false, beq_self_eq_true, bdD_none, bdD_some, gIsN, isNon, sSetM, sRetM, sDropM, vI, vName, vShare, vWalk, vNil, vCons, vLst, vTup, vCall, sh_bd, gGe, gLe, gI_pos (C := CPow) bp, h1]) rfl) (st_seq (st_setD (d := .int ((c * 48271 + 11) % 2147483647)) (by simp only [retOf, sNil, sThen, sSeq, sRet, sDrop, sSet, sIf, sPar, sUn2, sFor, asL, gSet, forD, fVar, fC, f2, f1, fT, asB, fNotT, fAndT, fOrT, fAndV, fOrV, gNot, gNeg, faNil, faCons, fTup, fLst, fCall, gAbs, gInt, gLen_t2, gLen_seq, gIx_t0, gIx_t1, gI0, gAdd_int, gNe_int, gEq_int, gEq_bl, gEq_tup2, gNe_tup2, gIsi_same, Dl.isInt, Dl.isBool, Dl.isTup, Option.bind_some, Option.map_some, List.map_cons, List.map_nil, List.length_cons, List.length_nil, List.getElem?_cons_zero, List.getElem?_cons_succ, List.set_cons_zero, List.set_cons_succ, List.cons_append, List.nil_append, List.append_nil, Bool.not_true, Bool.not_false, beq_self_eq_true, bdD_none, bdD_some, gIsN, isNon, sSetM, sRetM, sDropM, vI, vName, vShare, vWalk, vNil, vCons, vLst, vTup, vCall, sh_bd, gI_pos (C := CMulB) m1, gI_pos (C := fun _ j => 0 < j) (i := c * 48271 + 11) (j := 2147483647) (by decide)])) (st_seq (st_setD (d := .int 0) rfl) (st_seq (st_forD (ds := rangeD 0 9 1) rfl lp') (st_retD rfl)))))
/-! ### _law_bound -/
abbrev s__law_bound : Stmt := top 11
theorem sc__law_bound : FnScope ["_law_number", "_law_way", "_law_far"] ["_law_number"] (defScope s__law_bound) := ⟨rfl, rfl, rfl, by decide +kernel, rfl, by decide +kernel, by decide +kernel⟩
theorem ok__law_bound (F : Fun K "_law_bound" "_law_bound" s__law_bound f fd)    : FnOk P w K mg base CX0 1 f fd ["_law_number"] (pureSp K 1 (fn S__law_bound)) := by
  have sc := sc__law_bound
  refine pure_ok F sc__law_bound (fun cdv A outer s H E ds d hr hG hl => ?_)
  obtain ⟨c, rfl, rfl⟩ := fn_inv hG
  refine ⟨_, (psd_cons (psd_set 1 sc.nd (pd_mod (pd_var 0) pd_int))
      (psd_cons (psd_set 0 sc.nd (pd_fdiv (pd_var 0) pd_int))
      (psd_cons (psd_if (ptd_eq hr.units0 (pd_var 1) pd_int) (psd_one (psd_ret pd_non)) psd_nil)
      (psd_cons (psd_set 2 sc.nd (pd_sub (pd_mod (pd_fdiv (pd_var 0) pd_int) pd_int) pd_int))
      (psd_cons (psd_if (ptd_gt (pd_var 1) pd_int) (psd_one (psd_set 2 sc.nd (pd_sub (pd_mod (pd_fdiv (pd_var 0) pd_int) (pd_sub (pd_mul pd_int (pd_pow pd_int pd_int)) pd_int)) (pd_sub (pd_pow pd_int pd_int) pd_int)))) psd_nil)
      (psd_one (psd_ret (pd_tup (pad_cons (pd_var 2) (pad_cons (pd_eq hr.units0 (pd_mod (pd_var 0) pd_int) pd_int) pad_nil)))))))))), ?_⟩
  · show retOf ((?f : SD) [some _, none, none]) = _
    have b8 : CDivB c 8 := ⟨by decide, bd_sm⟩
    have b2 : CDivB (c / 8) 2 := ⟨by decide, bd_sm⟩
    have bp : CPow 10 60 := ⟨by decide, by decide, by decide⟩
    have bm : CMulB 2 (10 ^ (60 : Int).toNat) := ⟨bd_sm, bd_of (k := 200) (show (10 ^ (60 : Int).toNat : Int).natAbs < 2 ^ 200 by decide)⟩
    by_cases h : c % 8 = 7
    · have h1 : (c % 8 == 7) = true := by simp [h]
      simp only [retOf, sNil, sThen, sSeq, sRet, sDrop, sSet, sIf, sPar, sUn2, sFor, asL, gSet, forD, fVar, fC, f2, f1, fT, asB, fNotT, fAndT, fOrT, fAndV, fOrV, gNot, gNeg, faNil, faCons, fTup, fLst, fCall, gAbs, gInt, gLen_t2, gLen_seq, gIx_t0, gIx_t1, gI0, gAdd_int, gNe_int, gEq_int, gEq_bl, gEq_tup2, gNe_tup2, gIsi_same, Dl.isInt, Dl.isBool, Dl.isTup, Option.bind_some, Option.map_some, List.map_cons, List.map_nil, List.length_cons, List.length_nil, List.getElem?_cons_zero, List.getElem?_cons_succ, List.set_cons_zero, List.set_cons_succ, List.cons_append, List.nil_append, List.append_nil, Bool.not_true, Bool.not_false, beq_self_eq_true, bdD_none, bdD_some, gIsN, isNon, sSetM, sRetM, sDropM, vI, vName, vShare, vWalk, vNil, vCons, vLst, vTup, vCall, sh_bd, gI_pos (C := fun _ j => 0 < j) (i := c) (j := 8) (by decide), h1, gI_pos (C := CDivB) b8]
      unfold bnd
      rw [if_pos h]
      rfl
    · have h1 : (c % 8 == 7) = false := by simp [h]
      by_cases g : 4 < c % 8
      · have g1 : decide (4 < c % 8) = true := decide_eq_true g
        simp only [retOf, sNil, sThen, sSeq, sRet, sDrop, sSet, sIf, sPar, sUn2, sFor, asL, gSet, forD, fVar, fC, f2, f1, fT, asB, fNotT, fAndT, fOrT, fAndV, fOrV, gNot, gNeg, faNil, faCons, fTup, fLst, fCall, gAbs, gInt, gLen_t2, gLen_seq, gIx_t0, gIx_t1, gI0, gAdd_int, gNe_int, gEq_int, gEq_bl, gEq_tup2, gNe_tup2, gIsi_same, Dl.isInt, Dl.isBool, Dl.isTup, Option.bind_some, Option.map_some, List.map_cons, List.map_nil, List.length_cons, List.length_nil, List.getElem?_cons_zero, List.getElem?_cons_succ, List.set_cons_zero, List.set_cons_succ, List.cons_append, List.nil_append, List.append_nil, Bool.not_true, Bool.not_false, beq_self_eq_true, bdD_none, bdD_some, gIsN, isNon, sSetM, sRetM, sDropM, vI, vName, vShare, vWalk, vNil, vCons, vLst, vTup, vCall, sh_bd, gGt, gLt, gI_pos (C := fun _ j => 0 < j) (i := c) (j := 8) (by decide), h1, gI_pos (C := CDivB) b8, gI_pos (C := CDivB) b2, gI_pos (C := fun _ j => 0 < j) (i := c / 8 / 2) (j := 25) (by decide), g1, gI_pos (C := CPow) bp, gI_pos (C := CMulB) bm, gI_pos (C := fun _ j => 0 < j) (i := c / 8 / 2) (j := 2 * 10 ^ (60 : Int).toNat - 1) (by decide), gI_pos (C := fun _ j => 0 < j) (i := c / 8) (j := 2) (by decide)]
        unfold bnd
        rw [if_neg h, if_pos g]
        rfl
      · have g1 : decide (4 < c % 8) = false := decide_eq_false g
        simp only [retOf, sNil, sThen, sSeq, sRet, sDrop, sSet, sIf, sPar, sUn2, sFor, asL, gSet, forD, fVar, fC, f2, f1, fT, asB, fNotT, fAndT, fOrT, fAndV, fOrV, gNot, gNeg, faNil, faCons, fTup, fLst, fCall, gAbs, gInt, gLen_t2, gLen_seq, gIx_t0, gIx_t1, gI0, gAdd_int, gNe_int, gEq_int, gEq_bl, gEq_tup2, gNe_tup2, gIsi_same, Dl.isInt, Dl.isBool, Dl.isTup, Option.bind_some, Option.map_some, List.map_cons, List.map_nil, List.length_cons, List.length_nil, List.getElem?_cons_zero, List.getElem?_cons_succ, List.set_cons_zero, List.set_cons_succ, List.cons_append, List.nil_append, List.append_nil, Bool.not_true, Bool.not_false, beq_self_eq_true, bdD_none, bdD_some, gIsN, isNon, sSetM, sRetM, sDropM, vI, vName, vShare, vWalk, vNil, vCons, vLst, vTup, vCall, sh_bd, gGt, gLt, gI_pos (C := fun _ j => 0 < j) (i := c) (j := 8) (by decide), h1, gI_pos (C := CDivB) b8, gI_pos (C := CDivB) b2, gI_pos (C := fun _ j => 0 < j) (i := c / 8 / 2) (j := 25) (by decide), g1, gI_pos (C := fun _ j => 0 < j) (i := c / 8) (j := 2) (by decide)]
        unfold bnd
        rw [if_neg h, if_neg g]
        rfl
/-! ### _law_tighter -/
abbrev s__law_tighter : Stmt := top 12
theorem sc__law_tighter : FnScope ["_law_one", "_law_other"] ["_law_one", "_law_other"] (defScope s__law_tighter) := ⟨rfl, rfl, rfl, by decide +kernel, rfl, by decide +kernel, by decide +kernel⟩
theorem ok__law_tighter (F : Fun K "_law_tighter" "_law_tighter" s__law_tighter f fd)    : FnOk P w K mg base CX0 1 f fd ["_law_one", "_law_other"] (freshSp K 2 (fn S__law_tighter)) := by
  have sc := sc__law_tighter
  refine fresh_ok F sc__law_tighter (fun cdv A outer s H E ds d hr hG hl => ?_)
  obtain ⟨a, b, rfl, rfl⟩ := fn_inv hG
  have hown : own (.bl (tgt a b)) = true := rfl
  refine ⟨_, (pm_cons (pm_if (ptd_isN (pd_var 0) pd_non) (pm_one (pm_ret (pv_imm pd_bl))) pm_nil)
      (pm_cons (pm_if (ptd_isN (pd_var 1) pd_non) (pm_one (pm_ret (pv_imm pd_bl))) pm_nil)
      (pm_one (pm_ret (pv_imm (pd_ltT hr.units0 (pd_tup (pad_cons (pd_ix (pd_var 0) pd_int) (pad_cons (pd_not (pd_ix (pd_var 0) pd_int)) pad_nil))) (pd_tup (pad_cons (pd_ix (pd_var 1) pd_int) (pad_cons (pd_not (pd_ix (pd_var 1) pd_int)) pad_nil))))))))), ?_, ?own⟩
  case own => first | rfl | exact hown
  · show retOf ((?f : SD) (startM 2 _)) = _
    have e0 : startM 2 [bdD a, bdD b] = [some (bdD a), some (bdD b)] := by
      show [some (sh (bdD a)), some (sh (bdD b))] = _
      rw [sh_bd, sh_bd]
    rw [e0]
    rcases a with _ | ⟨n, s⟩
    · rfl
    rcases b with _ | ⟨m, t⟩
    · rfl
    rw [tgt_ss]
    simp only [retOf, sNil, sThen, sSeq, sRet, sDrop, sSet, sIf, sPar, sUn2, sFor, asL, gSet, forD, fVar, fC, f2, f1, fT, asB, fNotT, fAndT, fOrT, fAndV, fOrV, gNot, gNeg, faNil, faCons, fTup, fLst, fCall, gAbs, gInt, gLen_t2, gLen_seq, gIx_t0, gIx_t1, gI0, gAdd_int, gNe_int, gEq_int, gEq_bl, gEq_tup2, gNe_tup2, gIsi_same, Dl.isInt, Dl.isBool, Dl.isTup, Option.bind_some, Option.map_some, List.map_cons, List.map_nil, List.length_cons, List.length_nil, List.getElem?_cons_zero, List.getElem?_cons_succ, List.set_cons_zero, List.set_cons_succ, List.cons_append, List.nil_append, List.append_nil, Bool.not_true, Bool.not_false, beq_self_eq_true, bdD_none, bdD_some, gIsN, isNon, sSetM, sRetM, sDropM, vI, vName, vShare, vWalk, vNil, vCons, vLst, vTup, vCall, sh_bd, ltT_bd]
    rfl
/-! ### _law_copied -/
abbrev s__law_copied : Stmt := top 13
theorem sc__law_copied : FnScope ["_law_table"] ["_law_table"] (defScope s__law_copied) := ⟨rfl, rfl, rfl, by decide +kernel, rfl, by decide +kernel, by decide +kernel⟩
theorem ok__law_copied (F : Fun K "_law_copied" "_law_copied" s__law_copied f fd)   (m_list : mg "list" = none) : FnOk P w K mg base CX0 1 f fd ["_law_table"] (freshSp K 1 (fn S__law_copied)) := by
  have sc := sc__law_copied
  refine fresh_ok F sc__law_copied (fun cdv A outer s H E ds d hr hG hl => ?_)
  obtain ⟨d0, T, m, hT, hs, hm, rfl, rfl⟩ := fn_inv hG
  have hown := own_ownD T
  refine ⟨_, (pm_one (pm_ret (pv_comp (by exact (pid_list (pd_var 0))) (N := ["_law_row"]) (js := []) (cl := []) (fun _ _ _ _ _ => by exact (pv_listof rfl m_list boot_list (pad_cons (pd_var 0) pad_nil))) (by exact CompOk.nil)))), ?_, ?own⟩
  case own => first | rfl | exact hown
  · show retOf ((?f : SD) (startM 1 _)) = _
    have e0 : startM 1 [d0] = [some (tabD T)] := by
      show [some (sh d0)] = _
      rw [show sh d0 = tabD T from hT]
    rw [e0]
    exact rt_of (st_ret (vComp_copy hs hm rfl))
/-! ### tighter_of -/
abbrev s_tighter_of : Stmt := top 2
theorem sc_tighter_of : FnScope ["one", "other"] ["one", "other"] (defScope s_tighter_of) := ⟨rfl, rfl, rfl, by decide +kernel, rfl, by decide +kernel, by decide +kernel⟩
theorem ok_tighter_of (F : Fun K "tighter_of" "tighter_of" s_tighter_of f fd) (htighter : Has P w K mg base 1 "tighter" ["one", "other"] (fn S_tighter))   : FnOk P w K mg base CX0 2 f fd ["one", "other"] (pureSp K 2 (fn S_tighter_of)) := by
  have sc := sc_tighter_of
  refine pure_ok F sc_tighter_of (fun cdv A outer s H E ds d hr hG hl => ?_)
  obtain ⟨a, b, rfl, rfl⟩ := fn_inv hG
  refine ⟨_, (psd_cons (psd_if (ptd_val (pd_callH htighter hr (pad_cons (pd_var 1) (pad_cons (pd_var 0) pad_nil)))) (psd_one (psd_ret (pd_var 1))) psd_nil)
      (psd_one (psd_ret (pd_var 0)))), ?_⟩
  · show retOf ((?f : SD) [some _, some _]) = _
    cases ht : tgt b a with
    | false => simp only [retOf, sNil, sThen, sSeq, sRet, sDrop, sSet, sIf, sPar, sUn2, sFor, asL, gSet, forD, fVar, fC, f2, f1, fT, asB, fNotT, fAndT, fOrT, fAndV, fOrV, gNot, gNeg, faNil, faCons, fTup, fLst, fCall, gAbs, gInt, gLen_t2, gLen_seq, gIx_t0, gIx_t1, gI0, gAdd_int, gNe_int, gEq_int, gEq_bl, gEq_tup2, gNe_tup2, gIsi_same, Dl.isInt, Dl.isBool, Dl.isTup, Option.bind_some, Option.map_some, List.map_cons, List.map_nil, List.length_cons, List.length_nil, List.getElem?_cons_zero, List.getElem?_cons_succ, List.set_cons_zero, List.set_cons_succ, List.cons_append, List.nil_append, List.append_nil, Bool.not_true, Bool.not_false, beq_self_eq_true, bdD_none, bdD_some, gIsN, isNon, sSetM, sRetM, sDropM, vI, vName, vShare, vWalk, vNil, vCons, vLst, vTup, vCall, sh_bd, e_tighter, ht, tgo]; rfl
    | true => simp only [retOf, sNil, sThen, sSeq, sRet, sDrop, sSet, sIf, sPar, sUn2, sFor, asL, gSet, forD, fVar, fC, f2, f1, fT, asB, fNotT, fAndT, fOrT, fAndV, fOrV, gNot, gNeg, faNil, faCons, fTup, fLst, fCall, gAbs, gInt, gLen_t2, gLen_seq, gIx_t0, gIx_t1, gI0, gAdd_int, gNe_int, gEq_int, gEq_bl, gEq_tup2, gNe_tup2, gIsi_same, Dl.isInt, Dl.isBool, Dl.isTup, Option.bind_some, Option.map_some, List.map_cons, List.map_nil, List.length_cons, List.length_nil, List.getElem?_cons_zero, List.getElem?_cons_succ, List.set_cons_zero, List.set_cons_succ, List.cons_append, List.nil_append, List.append_nil, Bool.not_true, Bool.not_false, beq_self_eq_true, bdD_none, bdD_some, gIsN, isNon, sSetM, sRetM, sDropM, vI, vName, vShare, vWalk, vNil, vCons, vLst, vTup, vCall, sh_bd, e_tighter, ht, tgo]; rfl
/-! ### _law_is_table -/
abbrev s__law_is_table : Stmt := top 14
theorem sc__law_is_table : FnScope ["_law_found", "_law_due", "_law_row", "_law_bound_here"] ["_law_found", "_law_due"] (defScope s__law_is_table) := ⟨rfl, rfl, rfl, by decide +kernel, rfl, by decide +kernel, by decide +kernel⟩
theorem ok__law_is_table (F : Fun K "_law_is_table" "_law_is_table" s__law_is_table f fd) (hLwhole : Has P w K mg base 1 "_law_whole" ["_law_found"] (fn S__law_whole))  (m_isinstance : mg "isinstance" = none) (m_list : mg "list" = none) (m_bool : mg "bool" = none) (m_tuple : mg "tuple" = none) : FnOk P w K mg base CX0 2 f fd ["_law_found", "_law_due"] (freshSp K 2 (fn S__law_is_table)) := by
  have sc := sc__law_is_table
  refine fresh_ok F sc__law_is_table (fun cdv A outer s H E ds d hr hG hl => ?_)
  obtain ⟨d0, d1, T, h0, h1, rfl, rfl⟩ := fn_inv hG
  have hown : own (.bl true) = true := rfl
  refine ⟨_, (pm_cons (pm_if (PWD.pt (pwd_or (ptd_not (ptd_val (pd_callB call_isi (cd_isi ok_isLst) rfl m_isinstance boot_isinstance (pad_cons (pd_var 0) (pad_cons (pd_ty rfl m_list boot_list) pad_nil))))) (pwd_or1 (ptd_neN hr.units (pd_var 0) (pd_var 1))))) (pm_one (pm_ret (pv_imm pd_bl))) pm_nil)
      (pm_cons (pm_for 2 sc.nd PassesOwn.never rfl (pim_list (pv_share 0))
        (pm_cons (pm_if (ptd_not (ptd_val (pd_callB call_isi (cd_isi ok_isLst) rfl m_isinstance boot_isinstance (pad_cons (pd_var 2) (pad_cons (pd_ty rfl m_list boot_list) pad_nil))))) (pm_one (pm_ret (pv_imm pd_bl))) pm_nil)
        (pm_one (pm_for 3 sc.nd PassesOwn.never rfl (pim_list (pv_share 2))
          (pm_cons (pm_if (PWD.pt (pwd_and (ptd_notN (pd_var 3) pd_non) (pwd_and1 (PWD.pt (pwd_or (ptd_not (ptd_val (pd_callB call_isi (cd_isi ok_isTup) rfl m_isinstance boot_isinstance (pad_cons (pd_var 3) (pad_cons (pd_ty rfl m_tuple boot_tuple) pad_nil))))) (pwd_or1 (ptd_not (ptd_val (pd_callH hLwhole hr (pad_cons (pd_ix (pd_var 3) pd_int) pad_nil)))))))))) (pm_one (pm_ret (pv_imm pd_bl))) pm_nil)
          (pm_one (pm_if (PWD.pt (pwd_and (ptd_notN (pd_var 3) pd_non) (pwd_and1 (ptd_not (ptd_val (pd_callB call_isi (cd_isi ok_isBool) rfl m_isinstance boot_isinstance (pad_cons (pd_ix (pd_var 3) pd_int) (pad_cons (pd_ty rfl m_bool boot_bool) pad_nil)))))))) (pm_one (pm_ret (pv_imm pd_bl))) pm_nil)))))))
      (pm_one (pm_ret (pv_imm pd_bl))))), ?_, ?own⟩
  case own => first | rfl | exact hown
  · show retOf ((?f : SD) (startM 4 _)) = _
    have e0 : startM 4 [d0, d1] = [some (tabD T), some (tabD T), none, none] := by
      show [some (sh d0), some (sh d1), none, none] = _
      rw [show sh d0 = tabD T from h0, show sh d1 = tabD T from h1]
    rw [e0]
    have in1 : ∀ (r : List Bn) (o : Option D), ∃ δ', Dl.forM 3 ((sSeq (sIf (fAndT (fT (f2 gNotN (fVar 3) (fC .non))) (fOrT (fNotT (fT (fCall (gIsi "tuple" isTup) (faCons (fVar 3) (faCons (fC (.ty "tuple")) faNil))))) (fNotT (fT (fCall (fn S__law_whole) (faCons (f2 gIx (fVar 3) (fC (.int 0))) faNil)))))) (sRetM (vI (fC (.bl false)))) sNil) (sIf (fAndT (fT (f2 gNotN (fVar 3) (fC .non))) (fNotT (fT (fCall (gIsi "bool" isBool) (faCons (f2 gIx (fVar 3) (fC (.int 1))) (faCons (fC (.ty "bool")) faNil)))))) (sRetM (vI (fC (.bl false)))) sNil))) (rowD r) [some (tabD T), some (tabD T), some (.seq (rowD r)), o] = some (.nx δ') ∧ ∃ o, δ' = [some (tabD T), some (tabD T), some (.seq (rowD r)), o] := fun r o => by
      refine forM_keep (fun δ => ∃ o, δ = [some (tabD T), some (tabD T), some (.seq (rowD r)), o]) (rowD r) _ ⟨o, rfl⟩ ?_
      rintro d hd _ ⟨o, rfl⟩
      obtain ⟨b, _, rfl⟩ := List.mem_map.mp hd
      rw [sh_bd]
      refine ⟨_, ?_, some (bdD b), rfl⟩
      rcases b with _ | ⟨n, s⟩
      · rfl
      · simp only [retOf, sNil, sThen, sSeq, sRet, sDrop, sSet, sIf, sPar, sUn2, sFor, asL, gSet, forD, fVar, fC, f2, f1, fT, asB, fNotT, fAndT, fOrT, fAndV, fOrV, gNot, gNeg, faNil, faCons, fTup, fLst, fCall, gAbs, gInt, gLen_t2, gLen_seq, gIx_t0, gIx_t1, gI0, gAdd_int, gNe_int, gEq_int, gEq_bl, gEq_tup2, gNe_tup2, gIsi_same, Dl.isInt, Dl.isBool, Dl.isTup, Option.bind_some, Option.map_some, List.map_cons, List.map_nil, List.length_cons, List.length_nil, List.getElem?_cons_zero, List.getElem?_cons_succ, List.set_cons_zero, List.set_cons_succ, List.cons_append, List.nil_append, List.append_nil, Bool.not_true, Bool.not_false, beq_self_eq_true, bdD_none, bdD_some, gIsN, isNon, sSetM, sRetM, sDropM, vI, vName, vShare, vWalk, vNil, vCons, vLst, vTup, vCall, sh_bd, gNotN, e_is_whole (x := .int n) (b := true) rfl]
    have out1 : ∃ δ', Dl.forM 2 ((sSeq (sIf (fNotT (fT (fCall (gIsi "list" isLst) (faCons (fVar 2) (faCons (fC (.ty "list")) faNil))))) (sRetM (vI (fC (.bl false)))) sNil) (sForM (vWalk (vShare 2)) 3 (sSeq (sIf (fAndT (fT (f2 gNotN (fVar 3) (fC .non))) (fOrT (fNotT (fT (fCall (gIsi "tuple" isTup) (faCons (fVar 3) (faCons (fC (.ty "tuple")) faNil))))) (fNotT (fT (fCall (fn S__law_whole) (faCons (f2 gIx (fVar 3) (fC (.int 0))) faNil)))))) (sRetM (vI (fC (.bl false)))) sNil) (sIf (fAndT (fT (f2 gNotN (fVar 3) (fC .non))) (fNotT (fT (fCall (gIsi "bool" isBool) (faCons (f2 gIx (fVar 3) (fC (.int 1))) (faCons (fC (.ty "bool")) faNil)))))) (sRetM (vI (fC (.bl false)))) sNil))))) (rowsS T) [some (tabD T), some (tabD T), none, none] = some (.nx δ') ∧ ∃ o p, δ' = [some (tabD T), some (tabD T), o, p] := by
      refine forM_keep (fun δ => ∃ o p, δ = [some (tabD T), some (tabD T), o, p]) (rowsS T) _ ⟨none, none, rfl⟩ ?_
      rintro d hd _ ⟨o, p, rfl⟩
      obtain ⟨r, _, rfl⟩ := List.mem_map.mp hd
      have es : sh (.seq (rowD r)) = .seq (rowD r) := by rw [sh, shs_row]
      rw [es]
      obtain ⟨_, f1, o', rfl⟩ := in1 r p
      exact ⟨_, st_seq (st_if (b := false) rfl rfl) (st_for (st_walk rfl es es) f1), _, _, rfl⟩
    obtain ⟨_, k2, o, p, rfl⟩ := out1
    have il : isLst (tabD T) = some true := rfl
    exact rt_of (st_seq (st_if (b := false) (by simp only [retOf, sNil, sThen, sSeq, sRet, sDrop, sSet, sIf, sPar, sUn2, sFor, asL, gSet, forD, fVar, fC, f2, f1, fT, asB, fNotT, fAndT, fOrT, fAndV, fOrV, gNot, gNeg, faNil, faCons, fTup, fLst, fCall, gAbs, gInt, gLen_t2, gLen_seq, gIx_t0, gIx_t1, gI0, gAdd_int, gNe_int, gEq_int, gEq_bl, gEq_tup2, gNe_tup2, gIsi_same, Dl.isInt, Dl.isBool, Dl.isTup, Option.bind_some, Option.map_some, List.map_cons, List.map_nil, List.length_cons, List.length_nil, List.getElem?_cons_zero, List.getElem?_cons_succ, List.set_cons_zero, List.set_cons_succ, List.cons_append, List.nil_append, List.append_nil, Bool.not_true, Bool.not_false, beq_self_eq_true, bdD_none, bdD_some, gIsN, isNon, sSetM, sRetM, sDropM, vI, vName, vShare, vWalk, vNil, vCons, vLst, vTup, vCall, sh_bd, ne_tab, il]) rfl) (st_seq (st_for (st_walk rfl (sh_tabD T) (sh_tabD T)) k2) (st_ret (v_imm rfl))))
/-! ### narrowed -/
abbrev s_narrowed : Stmt := top 6
theorem sc_narrowed : FnScope ["table", "i", "j", "bound", "told"] ["table", "i", "j", "bound"] (defScope s_narrowed) := ⟨rfl, rfl, rfl, by decide +kernel, rfl, by decide +kernel, by decide +kernel⟩
theorem ok_narrowed (F : Fun K "narrowed" "narrowed" s_narrowed f fd) (hcopied : HasF P w K mg base 1 "copied" ["table"] (fn S_copied)) (htighter_of : Has P w K mg base 2 "tighter_of" ["one", "other"] (fn S_tighter_of))   : FnOk P w K mg base CX0 3 f fd ["table", "i", "j", "bound"] (freshSp K 4 (fn S_narrowed)) := by
  have sc := sc_narrowed
  refine fresh_ok F sc_narrowed (fun cdv A outer s H E ds d hr hG hl => ?_)
  obtain ⟨d0, T, m, i, j, b, hT, hs, hm, hi, hj, rfl, rfl⟩ := fn_inv hG
  have hown := own_ownD (nar T i j b)
  refine ⟨_, (pm_cons (pm_set 4 sc.nd (pv_call hcopied hr (pad_cons (pd_var 0) pad_nil)))
      (pm_cons (pm_put2 4 (pv_imm (pd_callH htighter_of hr (pad_cons (pd_ix (pd_ix (pd_var 0) (pd_var 1)) (pd_var 2)) (pad_cons (pd_var 3) pad_nil)))) (pg_sub (pe_ix ix_list (pvi 4) (pd_var 1) (fun _ _ => rfl)) (pd_var 2) set_list))
      (pm_one (pm_ret (pv_name 4))))), ?_, ?own⟩
  case own => first | rfl | exact hown
  · show retOf ((?f : SD) (startM 5 _)) = _
    have e0 : startM 5 [d0, .int (i : Int), .int (j : Int), bdD b] = [some (tabD T), some (.int (i : Int)), some (.int (j : Int)), some (bdD b), none] := by
      show [some (sh d0), some (sh (.int (i : Int))), some (sh (.int (j : Int))), some (sh (bdD b)), none] = _
      rw [show sh d0 = tabD T from hT, sh_bd]
      rfl
    rw [e0]
    obtain ⟨r, q1, q2⟩ := ix_tab hs hi hj
    rw [nar_set]
    refine rt_of (st_seq (st_set (v_call (ds := [tabD T]) rfl (e_copied (isT_tab T) hs hm) (own_ownD T))) (st_seq (sPut2_v hs hi hj (v_imm (d := bdD (tgo (cellT T i j) b)) ?_ (imm_bd _)) rfl rfl rfl) (st_ret (v_move rfl))))
    simp only [retOf, sNil, sThen, sSeq, sRet, sDrop, sSet, sIf, sPar, sUn2, sFor, asL, gSet, forD, fVar, fC, f2, f1, fT, asB, fNotT, fAndT, fOrT, fAndV, fOrV, gNot, gNeg, faNil, faCons, fTup, fLst, fCall, gAbs, gInt, gLen_t2, gLen_seq, gIx_t0, gIx_t1, gI0, gAdd_int, gNe_int, gEq_int, gEq_bl, gEq_tup2, gNe_tup2, gIsi_same, Dl.isInt, Dl.isBool, Dl.isTup, Option.bind_some, Option.map_some, List.map_cons, List.map_nil, List.length_cons, List.length_nil, List.getElem?_cons_zero, List.getElem?_cons_succ, List.set_cons_zero, List.set_cons_succ, List.cons_append, List.nil_append, List.append_nil, Bool.not_true, Bool.not_false, beq_self_eq_true, bdD_none, bdD_some, gIsN, isNon, sSetM, sRetM, sDropM, vI, vName, vShare, vWalk, vNil, vCons, vLst, vTup, vCall, sh_bd, q1, q2, e_tighter_of]
/-! ### law -/
abbrev s_law : Stmt := top 15
theorem sc_law : FnScope ["_law_script", "_law_head", "_law_k", "_law_cells", "_law_due", "_law_table", "_law_other", "_law_cell", "_law_number", "_law_i", "_law_j", "_law_bound_here", "_law_kept", "_law_found", "_law_spoiled", "_law_row"] ["_law_script"] (defScope s_law) := ⟨rfl, rfl, rfl, by decide +kernel, rfl, by decide +kernel, by decide +kernel⟩
theorem ok_law (F : Fun K "law" "law" s_law f fd) (hLcell_at : Has P w K mg base 1 "_law_cell_at" ["_law_script", "_law_k"] (fn S__law_cell_at)) (hopen_table : HasF P w K mg base 1 "open_table" ["k"] (fn S_open_table)) (hLis_table : HasF P w K mg base 2 "_law_is_table" ["_law_found", "_law_due"] (fn S__law_is_table)) (hLload : Has P w K mg base 1 "_law_load" ["_law_cell"] (fn S__law_load)) (hLbound : Has P w K mg base 1 "_law_bound" ["_law_number"] (fn S__law_bound)) (hLcopied : HasF P w K mg base 1 "_law_copied" ["_law_table"] (fn S__law_copied)) (hnarrowed : HasF P w K mg base 3 "narrowed" ["table", "i", "j", "bound"] (fn S_narrowed)) (hLtighter : HasF P w K mg base 1 "_law_tighter" ["_law_one", "_law_other"] (fn S__law_tighter))  (m_range : mg "range" = none) : FnOk P w K mg base CX0 4 f fd ["_law_script"] (spLaw K) := by
  have sc := sc_law
  refine law_okM F sc_law (fun cdv A outer s H E ns hr hl => ?_)
  refine ⟨_, (pm_cons (pm_set 1 sc.nd (pv_imm (pd_callH hLcell_at hr (pad_cons (pd_var 0) (pad_cons pd_int pad_nil)))))
      (pm_cons (pm_set 2 sc.nd (pv_imm (pd_mod (pd_var 1) pd_int)))
      (pm_cons (pm_set 3 sc.nd (pv_slice (pd_var 0) (pod_some pd_int) (pod_some pd_int)))
      (pm_cons (pm_if (ptd_eqN hr.units (pd_mod (pd_fdiv (pd_var 1) pd_int) pd_int) pd_int) (pm_cons (pm_set 2 sc.nd (pv_imm (pd_add pd_int (pd_mod (pd_fdiv (pd_var 1) pd_int) pd_int))))
        (pm_one (pm_set 3 sc.nd (pv_slice (pd_var 0) (pod_some pd_int) (pod_some pd_int))))) pm_nil)
      (pm_cons (pm_comp 4 sc.nd (by exact (pid_range1 rfl m_range (pad_cons (pd_add (pd_var 2) pd_int) pad_nil))) (N := ["_law_row", "_law_k"]) (js := [2]) (cl := [("_law_k", _)]) (fun _ _ _ _ _ => by exact (pv_rep (pd_lst (pad_cons pd_non pad_nil)) (pd_add (pd_var 1) pd_int))) (by exact CompOk.one))
      (pm_cons (pm_set 5 sc.nd (pv_call hopen_table hr (pad_cons (pd_var 2) pad_nil)))
      (pm_cons (pm_if (ptd_not (ptd_val (pd_callH hLis_table.has hr (pad_cons (pd_var 5) (pad_cons (pd_var 4) pad_nil))))) (pm_one (pm_ret (pv_imm pd_bl))) pm_nil)
      (pm_cons (pm_set 6 sc.nd (pv_call hopen_table hr (pad_cons (pd_var 2) pad_nil)))
      (pm_cons (pm_app2 6 (pe_bm PySem.F.plainAttrs_list PySem.F.slot_list_append PySem.F.type_list_append mt_append (pe_ix ix_list (pvi 6) pd_int (fun _ _ => rfl)) (pa_cons (pv_imm (pd_tup (pad_cons pd_int (pad_cons pd_bl pad_nil)))) pa_nil)))
      (pm_cons (pm_if (PWD.pt (pwd_or (ptd_neN hr.units (pd_slice (pd_var 6) (pod_some pd_int) pod_none) (pd_slice (pd_var 4) (pod_some pd_int) pod_none)) (pwd_or1 (ptd_neN hr.units (pd_var 5) (pd_var 4))))) (pm_one (pm_ret (pv_imm pd_bl))) pm_nil)
      (pm_cons (pm_for 7 sc.nd PassesOwn.never rfl (pim_list (pv_share 3))
        (pm_cons (pm_set 8 sc.nd (pv_imm (pd_callH hLload hr (pad_cons (pd_var 7) pad_nil))))
        (pm_cons (pm_set 9 sc.nd (pv_imm (pd_mod (pd_var 8) (pd_add (pd_var 2) pd_int))))
        (pm_cons (pm_set 10 sc.nd (pv_imm (pd_mod (pd_fdiv (pd_var 8) (pd_add (pd_var 2) pd_int)) (pd_add (pd_var 2) pd_int))))
        (pm_cons (pm_set 11 sc.nd (pv_imm (pd_callH hLbound hr (pad_cons (pd_fdiv (pd_fdiv (pd_var 8) (pd_add (pd_var 2) pd_int)) (pd_add (pd_var 2) pd_int)) pad_nil))))
        (pm_cons (pm_set 12 sc.nd (pv_call hLcopied hr (pad_cons (pd_var 4) pad_nil)))
        (pm_cons (pm_set 13 sc.nd (pv_call hnarrowed hr (pad_cons (pd_var 5) (pad_cons (pd_var 9) (pad_cons (pd_var 10) (pad_cons (pd_var 11) pad_nil))))))
        (pm_cons (pm_if (ptd_val (pd_callH hLtighter.has hr (pad_cons (pd_var 11) (pad_cons (pd_ix (pd_ix (pd_var 4) (pd_var 9)) (pd_var 10)) pad_nil)))) (pm_one (pm_put2 4 (pv_name 11) (pg_sub (pe_ix ix_list (pvi 4) (pd_var 9) (fun _ _ => rfl)) (pd_var 10) set_list))) pm_nil)
        (pm_cons (pm_if (PWD.pt (pwd_or (ptd_not (ptd_val (pd_callH hLis_table.has hr (pad_cons (pd_var 13) (pad_cons (pd_var 4) pad_nil))))) (pwd_or1 (ptd_not (ptd_val (pd_callH hLis_table.has hr (pad_cons (pd_var 5) (pad_cons (pd_var 12) pad_nil)))))))) (pm_one (pm_ret (pv_imm pd_bl))) pm_nil)
        (pm_cons (pm_set 14 sc.nd (pv_call hnarrowed hr (pad_cons (pd_var 5) (pad_cons (pd_var 9) (pad_cons (pd_var 10) (pad_cons (pd_var 11) pad_nil))))))
        (pm_cons (pm_rows 14 15 sc.nd PassesOwn.never rfl (pvi 14) (row_rev (pe_bm0 PySem.F.plainAttrs_list PySem.F.slot_list_reverse PySem.F.type_list_reverse mt_reverse (pvi 15)) (row_app (pd_tup (pad_cons pd_int (pad_cons pd_bl pad_nil))) (fun _ => rfl) rfl (fun he => (pe_bm PySem.F.plainAttrs_list PySem.F.slot_list_append PySem.F.type_list_append mt_append (pvi 15) (pa_cons he pa_nil))) row_nil)))
        (pm_cons (pm_clear 14 (pe_bm0 PySem.F.plainAttrs_list PySem.F.slot_list_clear PySem.F.type_list_clear mt_clear (pvi 14)))
        (pm_cons (pm_if (PWD.pt (pwd_or (ptd_not (ptd_val (pd_callH hLis_table.has hr (pad_cons (pd_var 5) (pad_cons (pd_var 12) pad_nil))))) (pwd_or1 (ptd_not (ptd_val (pd_callH hLis_table.has hr (pad_cons (pd_var 13) (pad_cons (pd_var 4) pad_nil)))))))) (pm_one (pm_ret (pv_imm pd_bl))) pm_nil)
        (pm_one (pm_set 5 sc.nd (pv_name 13))))))))))))))))
      (pm_one (pm_ret (pv_call hLis_table hr (pad_cons (pd_callH hopen_table.has hr (pad_cons (pd_var 2) pad_nil)) (pad_cons (pd_comp (by exact (pid_range1 rfl m_range (pad_cons (pd_add (pd_var 2) pd_int) pad_nil))) (N := ["_law_row", "_law_k"]) (js := [2]) (cl := [("_law_k", _)]) (fun _ _ _ _ _ => by exact (pd_rep (pd_lst (pad_cons pd_non pad_nil)) (pd_add (pd_var 1) pd_int))) (by exact CompOk.one)) pad_nil)))))))))))))))), ?_⟩
  · show retOf ((?f : SD) (startM 16 _)) = _
    have e0 : startM 16 [.seq (ns.map D.int)] = [some (.seq (ns.map D.int)), none, none, none, none, none, none, none, none, none, none, none, none, none, none, none] := by
      show [some (sh (.seq (ns.map D.int))), none, none, none, none, none, none, none, none, none, none, none, none, none, none, none] = _
      rw [sh, shs_ints]
    rw [e0]
    generalize hS : D.seq (ns.map D.int) = S
    have c0 : fn S__law_cell_at [S, .int 0] = some (.int (cell ns 0)) := hS ▸ e__law_cell_at (ns := ns) (k := 0) (by decide)
    obtain ⟨h, hh⟩ : ∃ h, h = cell ns 0 := ⟨_, rfl⟩
    rw [← hh] at c0
    have d1 : CDivB h 7 := ⟨by decide, bd_sm⟩
    have d2 : CDivB h 112 := ⟨by decide, bd_sm⟩
    have z : ∀ (o : List (Option D)) (a b : Int), ∃ ms : List Int, vSl (fVar 0) (faS (fC (.int a))) (faS (fC (.int b))) (some S :: o) = some (.lst (ms.map D.int), some S :: o) := fun o a b => vSl_ints (ns := ns) (a := some a) (b := some b) (by rw [hS]; rfl) rfl rfl
    obtain ⟨m0, hm0⟩ := z [some (.int h), some (.int (h % 7)), none, none, none, none, none, none, none, none, none, none, none, none, none] 1 61
    obtain ⟨k, ms, hk0, hk1, hd⟩ : ∃ (k : Int) (ms : List Int), 0 ≤ k ∧ k ≤ 40 ∧ ((sIf (fT (f2 gEqN (f2 (gI (fun _ j => 0 < j) fun i j => .int (i % j)) (f2 (gI CDivB fun i j => .int (i / j)) (fVar 1) (fC (.int 7))) (fC (.int 16))) (fC (.int 5)))) (sSeq (sSetM 2 (vI (f2 gAdd (fC (.int 7)) (f2 (gI (fun _ j => 0 < j) fun i j => .int (i % j)) (f2 (gI CDivB fun i j => .int (i / j)) (fVar 1) (fC (.int 112))) (fC (.int 34)))))) (sSetM 3 (vSl (fVar 0) (faS (fC (.int 1))) (faS (fC (.int 7)))))) sNil)) [some S, some (.int h), some (.int (h % 7)), some (.lst (m0.map D.int)), none, none, none, none, none, none, none, none, none, none, none, none] = some (.nx [some S, some (.int h), some (.int k), some (.lst (ms.map D.int)), none, none, none, none, none, none, none, none, none, none, none, none]) := by
      by_cases q : h / 7 % 16 = 5
      · obtain ⟨m1, hm1⟩ := z [some (.int h), some (.int (7 + h / 112 % 34)), some (.lst (m0.map D.int)), none, none, none, none, none, none, none, none, none, none, none, none] 1 7
        have q1 : (h / 7 % 16 == 5) = true := by simp [q]
        refine ⟨7 + h / 112 % 34, m1, by omega, by omega, st_if (b := true) (by simp only [retOf, sNil, sThen, sSeq, sRet, sDrop, sSet, sIf, sPar, sUn2, sFor, asL, gSet, forD, fVar, fC, f2, f1, fT, asB, fNotT, fAndT, fOrT, fAndV, fOrV, gNot, gNeg, faNil, faCons, fTup, fLst, fCall, gAbs, gInt, gLen_t2, gLen_seq, gIx_t0, gIx_t1, gI0, gAdd_int, gNe_int, gEq_int, gEq_bl, gEq_tup2, gNe_tup2, gIsi_same, Dl.isInt, Dl.isBool, Dl.isTup, Option.bind_some, Option.map_some, List.map_cons, List.map_nil, List.length_cons, List.length_nil, List.getElem?_cons_zero, List.getElem?_cons_succ, List.set_cons_zero, List.set_cons_succ, List.cons_append, List.nil_append, List.append_nil, Bool.not_true, Bool.not_false, beq_self_eq_true, bdD_none, bdD_some, gIsN, isNon, sSetM, sRetM, sDropM, vI, vName, vShare, vWalk, vNil, vCons, vLst, vTup, vCall, sh_bd, gEqN_int, gI_pos (C := CDivB) d1, gI_pos (C := fun _ j => 0 < j) (i := h / 7) (j := 16) (by decide), q1]) ?_⟩
        exact st_seq (st_set (v_imm (d := .int (7 + h / 112 % 34)) (by simp only [retOf, sNil, sThen, sSeq, sRet, sDrop, sSet, sIf, sPar, sUn2, sFor, asL, gSet, forD, fVar, fC, f2, f1, fT, asB, fNotT, fAndT, fOrT, fAndV, fOrV, gNot, gNeg, faNil, faCons, fTup, fLst, fCall, gAbs, gInt, gLen_t2, gLen_seq, gIx_t0, gIx_t1, gI0, gAdd_int, gNe_int, gEq_int, gEq_bl, gEq_tup2, gNe_tup2, gIsi_same, Dl.isInt, Dl.isBool, Dl.isTup, Option.bind_some, Option.map_some, List.map_cons, List.map_nil, List.length_cons, List.length_nil, List.getElem?_cons_zero, List.getElem?_cons_succ, List.set_cons_zero, List.set_cons_succ, List.cons_append, List.nil_append, List.append_nil, Bool.not_true, Bool.not_false, beq_self_eq_true, bdD_none, bdD_some, gIsN, isNon, sSetM, sRetM, sDropM, vI, vName, vShare, vWalk, vNil, vCons, vLst, vTup, vCall, sh_bd, gI_pos (C := CDivB) d2, gI_pos (C := fun _ j => 0 < j) (i := h / 112) (j := 34) (by decide)]))) (st_set hm1)
      · have q1 : (h / 7 % 16 == 5) = false := by simp [q]
        exact ⟨h % 7, m0, by omega, by omega, st_if (b := false) (by simp only [retOf, sNil, sThen, sSeq, sRet, sDrop, sSet, sIf, sPar, sUn2, sFor, asL, gSet, forD, fVar, fC, f2, f1, fT, asB, fNotT, fAndT, fOrT, fAndV, fOrV, gNot, gNeg, faNil, faCons, fTup, fLst, fCall, gAbs, gInt, gLen_t2, gLen_seq, gIx_t0, gIx_t1, gI0, gAdd_int, gNe_int, gEq_int, gEq_bl, gEq_tup2, gNe_tup2, gIsi_same, Dl.isInt, Dl.isBool, Dl.isTup, Option.bind_some, Option.map_some, List.map_cons, List.map_nil, List.length_cons, List.length_nil, List.getElem?_cons_zero, List.getElem?_cons_succ, List.set_cons_zero, List.set_cons_succ, List.cons_append, List.nil_append, List.append_nil, Bool.not_true, Bool.not_false, beq_self_eq_true, bdD_none, bdD_some, gIsN, isNon, sSetM, sRetM, sDropM, vI, vName, vShare, vWalk, vNil, vCons, vLst, vTup, vCall, sh_bd, gEqN_int, gI_pos (C := CDivB) d1, gI_pos (C := fun _ j => 0 < j) (i := h / 7) (j := 16) (by decide), q1]) rfl⟩
    refine rt_of (st_seq (st_set (v_imm (d := .int h) (by simp only [retOf, sNil, sThen, sSeq, sRet, sDrop, sSet, sIf, sPar, sUn2, sFor, asL, gSet, forD, fVar, fC, f2, f1, fT, asB, fNotT, fAndT, fOrT, fAndV, fOrV, gNot, gNeg, faNil, faCons, fTup, fLst, fCall, gAbs, gInt, gLen_t2, gLen_seq, gIx_t0, gIx_t1, gI0, gAdd_int, gNe_int, gEq_int, gEq_bl, gEq_tup2, gNe_tup2, gIsi_same, Dl.isInt, Dl.isBool, Dl.isTup, Option.bind_some, Option.map_some, List.map_cons, List.map_nil, List.length_cons, List.length_nil, List.getElem?_cons_zero, List.getElem?_cons_succ, List.set_cons_zero, List.set_cons_succ, List.cons_append, List.nil_append, List.append_nil, Bool.not_true, Bool.not_false, beq_self_eq_true, bdD_none, bdD_some, gIsN, isNon, sSetM, sRetM, sDropM, vI, vName, vShare, vWalk, vNil, vCons, vLst, vTup, vCall, sh_bd, c0]))) (st_seq (st_set (v_imm (d := .int (h % 7)) (by simp only [retOf, sNil, sThen, sSeq, sRet, sDrop, sSet, sIf, sPar, sUn2, sFor, asL, gSet, forD, fVar, fC, f2, f1, fT, asB, fNotT, fAndT, fOrT, fAndV, fOrV, gNot, gNeg, faNil, faCons, fTup, fLst, fCall, gAbs, gInt, gLen_t2, gLen_seq, gIx_t0, gIx_t1, gI0, gAdd_int, gNe_int, gEq_int, gEq_bl, gEq_tup2, gNe_tup2, gIsi_same, Dl.isInt, Dl.isBool, Dl.isTup, Option.bind_some, Option.map_some, List.map_cons, List.map_nil, List.length_cons, List.length_nil, List.getElem?_cons_zero, List.getElem?_cons_succ, List.set_cons_zero, List.set_cons_succ, List.cons_append, List.nil_append, List.append_nil, Bool.not_true, Bool.not_false, beq_self_eq_true, bdD_none, bdD_some, gIsN, isNon, sSetM, sRetM, sDropM, vI, vName, vShare, vWalk, vNil, vCons, vLst, vTup, vCall, sh_bd, gI_pos (C := fun _ j => 0 < j) (i := h) (j := 7) (by decide)]))) (st_seq (st_set hm0) (st_seq hd ?_))))
    have hO := own_ownD (opn (k.toNat + 1))
    refine st_seq (st_set (vComp_opn hk0 hk1 rfl)) (st_seq (st_set (v_call (ds := [.int k]) rfl (e_open_table hk0 hk1) hO)) (st_seq (st_if (b := false) (by simp only [retOf, sNil, sThen, sSeq, sRet, sDrop, sSet, sIf, sPar, sUn2, sFor, asL, gSet, forD, fVar, fC, f2, f1, fT, asB, fNotT, fAndT, fOrT, fAndV, fOrV, gNot, gNeg, faNil, faCons, fTup, fLst, fCall, gAbs, gInt, gLen_t2, gLen_seq, gIx_t0, gIx_t1, gI0, gAdd_int, gNe_int, gEq_int, gEq_bl, gEq_tup2, gNe_tup2, gIsi_same, Dl.isInt, Dl.isBool, Dl.isTup, Option.bind_some, Option.map_some, List.map_cons, List.map_nil, List.length_cons, List.length_nil, List.getElem?_cons_zero, List.getElem?_cons_succ, List.set_cons_zero, List.set_cons_succ, List.cons_append, List.nil_append, List.append_nil, Bool.not_true, Bool.not_false, beq_self_eq_true, bdD_none, bdD_some, gIsN, isNon, sSetM, sRetM, sDropM, vI, vName, vShare, vWalk, vNil, vCons, vLst, vTup, vCall, sh_bd, e__law_is_table (isT_own _) (isT_own _)]) rfl) (st_seq (st_set (v_call (ds := [.int k]) rfl (e_open_table hk0 hk1) hO)) ?_)))
    dsimp only [List.set_cons_zero, List.set_cons_succ]
    have hdn : ∀ (c : Int) (T : List (List Bn)) (o6 o8 o9 o10 o11 o12 o13 o14 o15 : Option D), Sq T (k.toNat + 1) → ∃ δ', ((sSeq (sSetM 8 (vI (fCall (fn S__law_load) (faCons (fVar 7) faNil)))) (sSeq (sSetM 9 (vI (f2 (gI (fun _ j => 0 < j) fun i j => .int (i % j)) (fVar 8) (f2 gAdd (fVar 2) (fC (.int 1)))))) (sSeq (sSetM 10 (vI (f2 (gI (fun _ j => 0 < j) fun i j => .int (i % j)) (f2 (gI CDivB fun i j => .int (i / j)) (fVar 8) (f2 gAdd (fVar 2) (fC (.int 1)))) (f2 gAdd (fVar 2) (fC (.int 1)))))) (sSeq (sSetM 11 (vI (fCall (fn S__law_bound) (faCons (f2 (gI CDivB fun i j => .int (i / j)) (f2 (gI CDivB fun i j => .int (i / j)) (fVar 8) (f2 gAdd (fVar 2) (fC (.int 1)))) (f2 gAdd (fVar 2) (fC (.int 1)))) faNil)))) (sSeq (sSetM 12 (vCall (fn S__law_copied) (faCons (fVar 4) faNil))) (sSeq (sSetM 13 (vCall (fn S_narrowed) (faCons (fVar 5) (faCons (fVar 9) (faCons (fVar 10) (faCons (fVar 11) faNil)))))) (sSeq (sIf (fT (fCall (fn S__law_tighter) (faCons (fVar 11) (faCons (f2 gIx (f2 gIx (fVar 4) (fVar 9)) (fVar 10)) faNil)))) (sPut2 4 (fVar 9) (fVar 10) (vName 11)) sNil) (sSeq (sIf (fOrT (fNotT (fT (fCall (fn S__law_is_table) (faCons (fVar 13) (faCons (fVar 4) faNil))))) (fNotT (fT (fCall (fn S__law_is_table) (faCons (fVar 5) (faCons (fVar 12) faNil)))))) (sRetM (vI (fC (.bl false)))) sNil) (sSeq (sSetM 14 (vCall (fn S_narrowed) (faCons (fVar 5) (faCons (fVar 9) (faCons (fVar 10) (faCons (fVar 11) faNil)))))) (sSeq (sRows 14 15 (fun ds => (fun ds => if ds.length ≤ 999 then some (ds ++ [D.tup [D.int 0, D.bl true]]) else none) ds.reverse)) (sSeq (sClear 14) (sSeq (sIf (fOrT (fNotT (fT (fCall (fn S__law_is_table) (faCons (fVar 5) (faCons (fVar 12) faNil))))) (fNotT (fT (fCall (fn S__law_is_table) (faCons (fVar 13) (faCons (fVar 4) faNil)))))) (sRetM (vI (fC (.bl false)))) sNil) (sSetM 5 (vName 13))))))))))))))) [some S, some (.int h), some (.int k), some (.seq (ms.map D.int)), some (ownD T), some (ownD T), o6, some (.int c), o8, o9, o10, o11, o12, o13, o14, o15] = some (.nx δ') ∧ ∃ (T : List (List Bn)) (o6 o7 o8 o9 o10 o11 o12 o13 o14 o15 : Option D), Sq T (k.toNat + 1) ∧ δ' = [some S, some (.int h), some (.int k), some (.seq (ms.map D.int)), some (ownD T), some (ownD T), o6, o7, o8, o9, o10, o11, o12, o13, o14, o15] := by
      intro c T o6 o8 o9 o10 o11 o12 o13 o14 o15 hs
      obtain ⟨n, hn⟩ : ∃ n, n = ld c := ⟨_, rfl⟩
      have hkp : 0 < k + 1 := by omega
      have dk : CDivB n (k + 1) := ⟨hkp, bd_sm (by omega)⟩
      have dk' : CDivB (n / (k + 1)) (k + 1) := ⟨hkp, bd_sm (by omega)⟩
      have r0 := Int.emod_nonneg n (show k + 1 ≠ 0 by omega)
      have r1 := Int.emod_lt_of_pos n hkp
      have r2 := Int.emod_nonneg (n / (k + 1)) (show k + 1 ≠ 0 by omega)
      have r3 := Int.emod_lt_of_pos (n / (k + 1)) hkp
      obtain ⟨I, hI, hI'⟩ : ∃ I : Nat, n % (k + 1) = (I : Int) ∧ I < k.toNat + 1 := ⟨(n % (k + 1)).toNat, by omega, by omega⟩
      obtain ⟨J, hJ, hJ'⟩ : ∃ J : Nat, n / (k + 1) % (k + 1) = (J : Int) ∧ J < k.toNat + 1 := ⟨(n / (k + 1) % (k + 1)).toNat, by omega, by omega⟩
      obtain ⟨b, hb⟩ : ∃ b, b = bnd (n / (k + 1) / (k + 1)) := ⟨_, rfl⟩
      have hm : k.toNat + 1 ≤ 41 := by omega
      have hU : Sq (nar T I J b) (k.toNat + 1) := nar_sq hs hI'
      obtain ⟨rw', q1, q2, q3, q4, q5⟩ := ix_own hs hI' hJ'
      obtain ⟨es, hes⟩ := rows_spoil (f := fun ds => (fun ds => if ds.length ≤ 999 then some (ds ++ [D.tup [D.int 0, D.bl true]]) else none) ds.reverse) hU (fun r hr => ⟨(rowD r).reverse ++ [D.tup [D.int 0, D.bl true]], by
        dsimp only
        rw [if_pos (by rw [List.length_reverse, len_rowD, hr]; omega)], imms_app (imms_mem.mpr fun d hd => imms_mem.mp (imms_row r) d (List.mem_reverse.mp hd)) rfl⟩)
      refine ⟨_, st_seq (st_set (v_imm (d := .int n) (by simp only [retOf, sNil, sThen, sSeq, sRet, sDrop, sSet, sIf, sPar, sUn2, sFor, asL, gSet, forD, fVar, fC, f2, f1, fT, asB, fNotT, fAndT, fOrT, fAndV, fOrV, gNot, gNeg, faNil, faCons, fTup, fLst, fCall, gAbs, gInt, gLen_t2, gLen_seq, gIx_t0, gIx_t1, gI0, gAdd_int, gNe_int, gEq_int, gEq_bl, gEq_tup2, gNe_tup2, gIsi_same, Dl.isInt, Dl.isBool, Dl.isTup, Option.bind_some, Option.map_some, List.map_cons, List.map_nil, List.length_cons, List.length_nil, List.getElem?_cons_zero, List.getElem?_cons_succ, List.set_cons_zero, List.set_cons_succ, List.cons_append, List.nil_append, List.append_nil, Bool.not_true, Bool.not_false, beq_self_eq_true, bdD_none, bdD_some, gIsN, isNon, sSetM, sRetM, sDropM, vI, vName, vShare, vWalk, vNil, vCons, vLst, vTup, vCall, sh_bd, e__law_load, ← hn])))
        (st_seq (st_set (v_imm (d := .int (I : Int)) (by simp only [retOf, sNil, sThen, sSeq, sRet, sDrop, sSet, sIf, sPar, sUn2, sFor, asL, gSet, forD, fVar, fC, f2, f1, fT, asB, fNotT, fAndT, fOrT, fAndV, fOrV, gNot, gNeg, faNil, faCons, fTup, fLst, fCall, gAbs, gInt, gLen_t2, gLen_seq, gIx_t0, gIx_t1, gI0, gAdd_int, gNe_int, gEq_int, gEq_bl, gEq_tup2, gNe_tup2, gIsi_same, Dl.isInt, Dl.isBool, Dl.isTup, Option.bind_some, Option.map_some, List.map_cons, List.map_nil, List.length_cons, List.length_nil, List.getElem?_cons_zero, List.getElem?_cons_succ, List.set_cons_zero, List.set_cons_succ, List.cons_append, List.nil_append, List.append_nil, Bool.not_true, Bool.not_false, beq_self_eq_true, bdD_none, bdD_some, gIsN, isNon, sSetM, sRetM, sDropM, vI, vName, vShare, vWalk, vNil, vCons, vLst, vTup, vCall, sh_bd, gI_pos (C := fun _ j => 0 < j) (i := n) hkp, hI])))
        (st_seq (st_set (v_imm (d := .int (J : Int)) (by simp only [retOf, sNil, sThen, sSeq, sRet, sDrop, sSet, sIf, sPar, sUn2, sFor, asL, gSet, forD, fVar, fC, f2, f1, fT, asB, fNotT, fAndT, fOrT, fAndV, fOrV, gNot, gNeg, faNil, faCons, fTup, fLst, fCall, gAbs, gInt, gLen_t2, gLen_seq, gIx_t0, gIx_t1, gI0, gAdd_int, gNe_int, gEq_int, gEq_bl, gEq_tup2, gNe_tup2, gIsi_same, Dl.isInt, Dl.isBool, Dl.isTup, Option.bind_some, Option.map_some, List.map_cons, List.map_nil, List.length_cons, List.length_nil, List.getElem?_cons_zero, List.getElem?_cons_succ, List.set_cons_zero, List.set_cons_succ, List.cons_append, List.nil_append, List.append_nil, Bool.not_true, Bool.not_false, beq_self_eq_true, bdD_none, bdD_some, gIsN, isNon, sSetM, sRetM, sDropM, vI, vName, vShare, vWalk, vNil, vCons, vLst, vTup, vCall, sh_bd, gI_pos (C := CDivB) dk, gI_pos (C := fun _ j => 0 < j) (i := n / (k + 1)) hkp, hJ])))
        (st_seq (st_set (v_imm (d := bdD b) (by simp only [retOf, sNil, sThen, sSeq, sRet, sDrop, sSet, sIf, sPar, sUn2, sFor, asL, gSet, forD, fVar, fC, f2, f1, fT, asB, fNotT, fAndT, fOrT, fAndV, fOrV, gNot, gNeg, faNil, faCons, fTup, fLst, fCall, gAbs, gInt, gLen_t2, gLen_seq, gIx_t0, gIx_t1, gI0, gAdd_int, gNe_int, gEq_int, gEq_bl, gEq_tup2, gNe_tup2, gIsi_same, Dl.isInt, Dl.isBool, Dl.isTup, Option.bind_some, Option.map_some, List.map_cons, List.map_nil, List.length_cons, List.length_nil, List.getElem?_cons_zero, List.getElem?_cons_succ, List.set_cons_zero, List.set_cons_succ, List.cons_append, List.nil_append, List.append_nil, Bool.not_true, Bool.not_false, beq_self_eq_true, bdD_none, bdD_some, gIsN, isNon, sSetM, sRetM, sDropM, vI, vName, vShare, vWalk, vNil, vCons, vLst, vTup, vCall, sh_bd, gI_pos (C := CDivB) dk, gI_pos (C := CDivB) dk', e__law_bound, ← hb]) (imm_bd b)))
        (st_seq (st_set (v_call (ds := [ownD T]) rfl (e__law_copied (isT_own T) hs hm) (own_ownD T)))
        (st_seq (st_set (v_call (ds := [ownD T, .int (I : Int), .int (J : Int), bdD b]) rfl (e_narrowed (isT_own T) hs hm hI' hJ') (own_ownD _)))
        (st_seq (δ' := [some S, some (.int h), some (.int k), some (.seq (ms.map D.int)), some (ownD (nar T I J b)), some (ownD T), o6, some (.int c), some (.int n), some (.int (I : Int)), some (.int (J : Int)), some (bdD b), some (ownD T), some (ownD (nar T I J b)), o14, o15]) ?put
        (st_seq (st_if (b := false) (by simp only [retOf, sNil, sThen, sSeq, sRet, sDrop, sSet, sIf, sPar, sUn2, sFor, asL, gSet, forD, fVar, fC, f2, f1, fT, asB, fNotT, fAndT, fOrT, fAndV, fOrV, gNot, gNeg, faNil, faCons, fTup, fLst, fCall, gAbs, gInt, gLen_t2, gLen_seq, gIx_t0, gIx_t1, gI0, gAdd_int, gNe_int, gEq_int, gEq_bl, gEq_tup2, gNe_tup2, gIsi_same, Dl.isInt, Dl.isBool, Dl.isTup, Option.bind_some, Option.map_some, List.map_cons, List.map_nil, List.length_cons, List.length_nil, List.getElem?_cons_zero, List.getElem?_cons_succ, List.set_cons_zero, List.set_cons_succ, List.cons_append, List.nil_append, List.append_nil, Bool.not_true, Bool.not_false, beq_self_eq_true, bdD_none, bdD_some, gIsN, isNon, sSetM, sRetM, sDropM, vI, vName, vShare, vWalk, vNil, vCons, vLst, vTup, vCall, sh_bd, e__law_is_table (isT_own _) (isT_own _)]) rfl)
        (st_seq (st_set (v_call (ds := [ownD T, .int (I : Int), .int (J : Int), bdD b]) rfl (e_narrowed (isT_own T) hs hm hI' hJ') (own_ownD _)))
        (st_seq (st_rows rfl (by simp only [List.length_set, List.length_cons, List.length_nil]; omega) hes)
        (st_seq (st_clear rfl)
        (st_seq (st_if (b := false) (by simp only [retOf, sNil, sThen, sSeq, sRet, sDrop, sSet, sIf, sPar, sUn2, sFor, asL, gSet, forD, fVar, fC, f2, f1, fT, asB, fNotT, fAndT, fOrT, fAndV, fOrV, gNot, gNeg, faNil, faCons, fTup, fLst, fCall, gAbs, gInt, gLen_t2, gLen_seq, gIx_t0, gIx_t1, gI0, gAdd_int, gNe_int, gEq_int, gEq_bl, gEq_tup2, gNe_tup2, gIsi_same, Dl.isInt, Dl.isBool, Dl.isTup, Option.bind_some, Option.map_some, List.map_cons, List.map_nil, List.length_cons, List.length_nil, List.getElem?_cons_zero, List.getElem?_cons_succ, List.set_cons_zero, List.set_cons_succ, List.cons_append, List.nil_append, List.append_nil, Bool.not_true, Bool.not_false, beq_self_eq_true, bdD_none, bdD_some, gIsN, isNon, sSetM, sRetM, sDropM, vI, vName, vShare, vWalk, vNil, vCons, vLst, vTup, vCall, sh_bd, e__law_is_table (isT_own _) (isT_own _)]) rfl)
        (st_set (v_move rfl))))))))))))), nar T I J b, _, _, _, _, _, _, _, _, _, _, hU, rfl⟩
      case put =>
        dsimp only [List.set_cons_zero, List.set_cons_succ]
        cases ht : tgt b (cellT T I J) with
        | false =>
          rw [nar_no ht]
          exact st_if (b := false) (by simp only [retOf, sNil, sThen, sSeq, sRet, sDrop, sSet, sIf, sPar, sUn2, sFor, asL, gSet, forD, fVar, fC, f2, f1, fT, asB, fNotT, fAndT, fOrT, fAndV, fOrV, gNot, gNeg, faNil, faCons, fTup, fLst, fCall, gAbs, gInt, gLen_t2, gLen_seq, gIx_t0, gIx_t1, gI0, gAdd_int, gNe_int, gEq_int, gEq_bl, gEq_tup2, gNe_tup2, gIsi_same, Dl.isInt, Dl.isBool, Dl.isTup, Option.bind_some, Option.map_some, List.map_cons, List.map_nil, List.length_cons, List.length_nil, List.getElem?_cons_zero, List.getElem?_cons_succ, List.set_cons_zero, List.set_cons_succ, List.cons_append, List.nil_append, List.append_nil, Bool.not_true, Bool.not_false, beq_self_eq_true, bdD_none, bdD_some, gIsN, isNon, sSetM, sRetM, sDropM, vI, vName, vShare, vWalk, vNil, vCons, vLst, vTup, vCall, sh_bd, q1, q2, e_tighter, ht]) rfl
        | true =>
          rw [nar_yes ht]
          exact st_if (b := true) (by simp only [retOf, sNil, sThen, sSeq, sRet, sDrop, sSet, sIf, sPar, sUn2, sFor, asL, gSet, forD, fVar, fC, f2, f1, fT, asB, fNotT, fAndT, fOrT, fAndV, fOrV, gNot, gNeg, faNil, faCons, fTup, fLst, fCall, gAbs, gInt, gLen_t2, gLen_seq, gIx_t0, gIx_t1, gI0, gAdd_int, gNe_int, gEq_int, gEq_bl, gEq_tup2, gNe_tup2, gIsi_same, Dl.isInt, Dl.isBool, Dl.isTup, Option.bind_some, Option.map_some, List.map_cons, List.map_nil, List.length_cons, List.length_nil, List.getElem?_cons_zero, List.getElem?_cons_succ, List.set_cons_zero, List.set_cons_succ, List.cons_append, List.nil_append, List.append_nil, Bool.not_true, Bool.not_false, beq_self_eq_true, bdD_none, bdD_some, gIsN, isNon, sSetM, sRetM, sDropM, vI, vName, vShare, vWalk, vNil, vCons, vLst, vTup, vCall, sh_bd, q1, q2, e_tighter, ht]) (sPut2_bd hs hI' hJ' rfl rfl rfl rfl)
    have walk := fun δ (hδ : ∃ (T : List (List Bn)) (o6 o7 o8 o9 o10 o11 o12 o13 o14 o15 : Option D), Sq T (k.toNat + 1) ∧ δ = [some S, some (.int h), some (.int k), some (.seq (ms.map D.int)), some (ownD T), some (ownD T), o6, o7, o8, o9, o10, o11, o12, o13, o14, o15]) => forM_keep (i := 7) (s := ((sSeq (sSetM 8 (vI (fCall (fn S__law_load) (faCons (fVar 7) faNil)))) (sSeq (sSetM 9 (vI (f2 (gI (fun _ j => 0 < j) fun i j => .int (i % j)) (fVar 8) (f2 gAdd (fVar 2) (fC (.int 1)))))) (sSeq (sSetM 10 (vI (f2 (gI (fun _ j => 0 < j) fun i j => .int (i % j)) (f2 (gI CDivB fun i j => .int (i / j)) (fVar 8) (f2 gAdd (fVar 2) (fC (.int 1)))) (f2 gAdd (fVar 2) (fC (.int 1)))))) (sSeq (sSetM 11 (vI (fCall (fn S__law_bound) (faCons (f2 (gI CDivB fun i j => .int (i / j)) (f2 (gI CDivB fun i j => .int (i / j)) (fVar 8) (f2 gAdd (fVar 2) (fC (.int 1)))) (f2 gAdd (fVar 2) (fC (.int 1)))) faNil)))) (sSeq (sSetM 12 (vCall (fn S__law_copied) (faCons (fVar 4) faNil))) (sSeq (sSetM 13 (vCall (fn S_narrowed) (faCons (fVar 5) (faCons (fVar 9) (faCons (fVar 10) (faCons (fVar 11) faNil)))))) (sSeq (sIf (fT (fCall (fn S__law_tighter) (faCons (fVar 11) (faCons (f2 gIx (f2 gIx (fVar 4) (fVar 9)) (fVar 10)) faNil)))) (sPut2 4 (fVar 9) (fVar 10) (vName 11)) sNil) (sSeq (sIf (fOrT (fNotT (fT (fCall (fn S__law_is_table) (faCons (fVar 13) (faCons (fVar 4) faNil))))) (fNotT (fT (fCall (fn S__law_is_table) (faCons (fVar 5) (faCons (fVar 12) faNil)))))) (sRetM (vI (fC (.bl false)))) sNil) (sSeq (sSetM 14 (vCall (fn S_narrowed) (faCons (fVar 5) (faCons (fVar 9) (faCons (fVar 10) (faCons (fVar 11) faNil)))))) (sSeq (sRows 14 15 (fun ds => (fun ds => if ds.length ≤ 999 then some (ds ++ [D.tup [D.int 0, D.bl true]]) else none) ds.reverse)) (sSeq (sClear 14) (sSeq (sIf (fOrT (fNotT (fT (fCall (fn S__law_is_table) (faCons (fVar 5) (faCons (fVar 12) faNil))))) (fNotT (fT (fCall (fn S__law_is_table) (faCons (fVar 13) (faCons (fVar 4) faNil)))))) (sRetM (vI (fC (.bl false)))) sNil) (sSetM 5 (vName 13)))))))))))))))) (fun δ => ∃ (T : List (List Bn)) (o6 o7 o8 o9 o10 o11 o12 o13 o14 o15 : Option D), Sq T (k.toNat + 1) ∧ δ = [some S, some (.int h), some (.int k), some (.seq (ms.map D.int)), some (ownD T), some (ownD T), o6, o7, o8, o9, o10, o11, o12, o13, o14, o15]) (ms.map D.int) δ hδ (by
      rintro d hd _ ⟨T, o6, o7, o8, o9, o10, o11, o12, o13, o14, o15, hs, rfl⟩
      obtain ⟨c, _, rfl⟩ := List.mem_map.mp hd
      exact hdn c T o6 o8 o9 o10 o11 o12 o13 o14 o15 hs)
    have shL : sh (.lst (ms.map D.int)) = .seq (ms.map D.int) := by rw [sh, shs_ints]
    have shS : sh (.seq (ms.map D.int)) = .seq (ms.map D.int) := by rw [sh, shs_ints]
    obtain ⟨_, w1, T, o6, o7, o8, o9, o10, o11, o12, o13, o14, o15, hs, rfl⟩ := walk _ ⟨opn (k.toNat + 1), some (.lst (.lst (rowD (List.replicate (k.toNat + 1) none) ++ [.tup [.int 0, .bl true]]) :: rowsO (List.replicate k.toNat (List.replicate (k.toNat + 1) none)))), none, none, none, none, none, none, none, none, none, opn_sq _, rfl⟩
    refine st_seq (app2_0 (d := .tup [.int 0, .bl true]) (row := rowD (List.replicate (k.toNat + 1) none)) (Rs := rowsO (List.replicate k.toNat (List.replicate (k.toNat + 1) none))) rfl (v_imm rfl) (by rw [len_rowD, List.length_replicate]; omega)) (st_seq (st_if (b := false) ?ne rfl) (st_seq (st_for (st_walk rfl shL shS) w1) (st_ret (v_call (fa2 (by simp only [retOf, sNil, sThen, sSeq, sRet, sDrop, sSet, sIf, sPar, sUn2, sFor, asL, gSet, forD, fVar, fC, f2, f1, fT, asB, fNotT, fAndT, fOrT, fAndV, fOrV, gNot, gNeg, faNil, faCons, fTup, fLst, fCall, gAbs, gInt, gLen_t2, gLen_seq, gIx_t0, gIx_t1, gI0, gAdd_int, gNe_int, gEq_int, gEq_bl, gEq_tup2, gNe_tup2, gIsi_same, Dl.isInt, Dl.isBool, Dl.isTup, Option.bind_some, Option.map_some, List.map_cons, List.map_nil, List.length_cons, List.length_nil, List.getElem?_cons_zero, List.getElem?_cons_succ, List.set_cons_zero, List.set_cons_succ, List.cons_append, List.nil_append, List.append_nil, Bool.not_true, Bool.not_false, beq_self_eq_true, bdD_none, bdD_some, gIsN, isNon, sSetM, sRetM, sDropM, vI, vName, vShare, vWalk, vNil, vCons, vLst, vTup, vCall, sh_bd, e_open_table hk0 hk1]) (fComp_opn hk0 hk1 rfl)) (e__law_is_table (isT_own _) (isT_own _)) rfl))))
    case ne =>
      have n1 : gNeN (.lst (rowsO (List.replicate k.toNat (List.replicate (k.toNat + 1) none)))) (.lst (rowsO (List.replicate k.toNat (List.replicate (k.toNat + 1) none)))) = some (.bl false) := ne_own _
      have n2 := ne_own (opn (k.toNat + 1))
      have eO : ownD (opn (k.toNat + 1)) = .lst (.lst (rowD (List.replicate (k.toNat + 1) none)) :: rowsO (List.replicate k.toNat (List.replicate (k.toNat + 1) none))) := rfl
      rw [eO] at n2
      simp only [retOf, sNil, sThen, sSeq, sRet, sDrop, sSet, sIf, sPar, sUn2, sFor, asL, gSet, forD, fVar, fC, f2, f1, fT, asB, fNotT, fAndT, fOrT, fAndV, fOrV, gNot, gNeg, faNil, faCons, fTup, fLst, fCall, gAbs, gInt, gLen_t2, gLen_seq, gIx_t0, gIx_t1, gI0, gAdd_int, gNe_int, gEq_int, gEq_bl, gEq_tup2, gNe_tup2, gIsi_same, Dl.isInt, Dl.isBool, Dl.isTup, Option.bind_some, Option.map_some, List.map_cons, List.map_nil, List.length_cons, List.length_nil, List.getElem?_cons_zero, List.getElem?_cons_succ, List.set_cons_zero, List.set_cons_succ, List.cons_append, List.nil_append, List.append_nil, Bool.not_true, Bool.not_false, beq_self_eq_true, bdD_none, bdD_some, gIsN, isNon, sSetM, sRetM, sDropM, vI, vName, vShare, vWalk, vNil, vCons, vLst, vTup, vCall, sh_bd, fSl, faS, faN, asI, eO, cut1, n1, n2]
end
theorem all_mk {l : PySem.W.OpenLaw} {w : World} {K : PySem.W.Frag} {h : Heap} {mg : Str → Option Value} {fa : Addr} (X : K.In h) (G : h.Ns mainGlobals mg) (hfa : mg "law" = some (.ref fa)) {f0 : Addr} {od0 an0 : Option Addr} {sl0 : Array (Option Value)} {oc0 kV0 dc0 pm0 cd0 ct0 : Value} {f1 : Addr} {od1 an1 : Option Addr} {sl1 : Array (Option Value)} {oc1 kV1 dc1 pm1 cd1 ct1 : Value} {f2 : Addr} {od2 an2 : Option Addr} {sl2 : Array (Option Value)} {oc2 kV2 dc2 pm2 cd2 ct2 : Value} {f3 : Addr} {od3 an3 : Option Addr} {sl3 : Array (Option Value)} {oc3 kV3 dc3 pm3 cd3 ct3 : Value} {f4 : Addr} {od4 an4 : Option Addr} {sl4 : Array (Option Value)} {oc4 kV4 dc4 pm4 cd4 ct4 : Value} {f5 : Addr} {od5 an5 : Option Addr} {sl5 : Array (Option Value)} {oc5 kV5 dc5 pm5 cd5 ct5 : Value} {f6 : Addr} {od6 an6 : Option Addr} {sl6 : Array (Option Value)} {oc6 kV6 dc6 pm6 cd6 ct6 : Value} {f7 : Addr} {od7 an7 : Option Addr} {sl7 : Array (Option Value)} {oc7 kV7 dc7 pm7 cd7 ct7 : Value} {f8 : Addr} {od8 an8 : Option Addr} {sl8 : Array (Option Value)} {oc8 kV8 dc8 pm8 cd8 ct8 : Value} {f9 : Addr} {od9 an9 : Option Addr} {sl9 : Array (Option Value)} {oc9 kV9 dc9 pm9 cd9 ct9 : Value} {f10 : Addr} {od10 an10 : Option Addr} {sl10 : Array (Option Value)} {oc10 kV10 dc10 pm10 cd10 ct10 : Value} {f11 : Addr} {od11 an11 : Option Addr} {sl11 : Array (Option Value)} {oc11 kV11 dc11 pm11 cd11 ct11 : Value} {f12 : Addr} {od12 an12 : Option Addr} {sl12 : Array (Option Value)} {oc12 kV12 dc12 pm12 cd12 ct12 : Value}  
    (a0 : PySem.W.nsIn K mainGlobals "tighter" = some (some (.ref f0))) (l0 : K.lookup f0 = some ⟨oc0, od0, .func (PySem.W.fnOf "tighter" "tighter" (defArgs s_tighter) (defBody s_tighter) (defScope s_tighter) .none kV0 dc0 pm0 an0 cd0 ct0), sl0⟩) (c0 : PySem.W.codeIn K cd0 "tighter" = true) (k0 : PySem.W.keepIn K (.ref f0) = true)
    (a1 : PySem.W.nsIn K mainGlobals "tighter_of" = some (some (.ref f1))) (l1 : K.lookup f1 = some ⟨oc1, od1, .func (PySem.W.fnOf "tighter_of" "tighter_of" (defArgs s_tighter_of) (defBody s_tighter_of) (defScope s_tighter_of) .none kV1 dc1 pm1 an1 cd1 ct1), sl1⟩) (c1 : PySem.W.codeIn K cd1 "tighter_of" = true) (k1 : PySem.W.keepIn K (.ref f1) = true)
    (a2 : PySem.W.nsIn K mainGlobals "open_table" = some (some (.ref f2))) (l2 : K.lookup f2 = some ⟨oc2, od2, .func (PySem.W.fnOf "open_table" "open_table" (defArgs s_open_table) (defBody s_open_table) (defScope s_open_table) .none kV2 dc2 pm2 an2 cd2 ct2), sl2⟩) (c2 : PySem.W.codeIn K cd2 "open_table" = true) (k2 : PySem.W.keepIn K (.ref f2) = true)
    (a3 : PySem.W.nsIn K mainGlobals "copied" = some (some (.ref f3))) (l3 : K.lookup f3 = some ⟨oc3, od3, .func (PySem.W.fnOf "copied" "copied" (defArgs s_copied) (defBody s_copied) (defScope s_copied) .none kV3 dc3 pm3 an3 cd3 ct3), sl3⟩) (c3 : PySem.W.codeIn K cd3 "copied" = true) (k3 : PySem.W.keepIn K (.ref f3) = true)
    (a4 : PySem.W.nsIn K mainGlobals "narrowed" = some (some (.ref f4))) (l4 : K.lookup f4 = some ⟨oc4, od4, .func (PySem.W.fnOf "narrowed" "narrowed" (defArgs s_narrowed) (defBody s_narrowed) (defScope s_narrowed) .none kV4 dc4 pm4 an4 cd4 ct4), sl4⟩) (c4 : PySem.W.codeIn K cd4 "narrowed" = true) (k4 : PySem.W.keepIn K (.ref f4) = true)
    (a5 : PySem.W.nsIn K mainGlobals "_law_cell_at" = some (some (.ref f5))) (l5 : K.lookup f5 = some ⟨oc5, od5, .func (PySem.W.fnOf "_law_cell_at" "_law_cell_at" (defArgs s__law_cell_at) (defBody s__law_cell_at) (defScope s__law_cell_at) .none kV5 dc5 pm5 an5 cd5 ct5), sl5⟩) (c5 : PySem.W.codeIn K cd5 "_law_cell_at" = true) (k5 : PySem.W.keepIn K (.ref f5) = true)
    (a6 : PySem.W.nsIn K mainGlobals "_law_whole" = some (some (.ref f6))) (l6 : K.lookup f6 = some ⟨oc6, od6, .func (PySem.W.fnOf "_law_whole" "_law_whole" (defArgs s__law_whole) (defBody s__law_whole) (defScope s__law_whole) .none kV6 dc6 pm6 an6 cd6 ct6), sl6⟩) (c6 : PySem.W.codeIn K cd6 "_law_whole" = true) (k6 : PySem.W.keepIn K (.ref f6) = true)
    (a7 : PySem.W.nsIn K mainGlobals "_law_load" = some (some (.ref f7))) (l7 : K.lookup f7 = some ⟨oc7, od7, .func (PySem.W.fnOf "_law_load" "_law_load" (defArgs s__law_load) (defBody s__law_load) (defScope s__law_load) .none kV7 dc7 pm7 an7 cd7 ct7), sl7⟩) (c7 : PySem.W.codeIn K cd7 "_law_load" = true) (k7 : PySem.W.keepIn K (.ref f7) = true)
    (a8 : PySem.W.nsIn K mainGlobals "_law_bound" = some (some (.ref f8))) (l8 : K.lookup f8 = some ⟨oc8, od8, .func (PySem.W.fnOf "_law_bound" "_law_bound" (defArgs s__law_bound) (defBody s__law_bound) (defScope s__law_bound) .none kV8 dc8 pm8 an8 cd8 ct8), sl8⟩) (c8 : PySem.W.codeIn K cd8 "_law_bound" = true) (k8 : PySem.W.keepIn K (.ref f8) = true)
    (a9 : PySem.W.nsIn K mainGlobals "_law_tighter" = some (some (.ref f9))) (l9 : K.lookup f9 = some ⟨oc9, od9, .func (PySem.W.fnOf "_law_tighter" "_law_tighter" (defArgs s__law_tighter) (defBody s__law_tighter) (defScope s__law_tighter) .none kV9 dc9 pm9 an9 cd9 ct9), sl9⟩) (c9 : PySem.W.codeIn K cd9 "_law_tighter" = true) (k9 : PySem.W.keepIn K (.ref f9) = true)
    (a10 : PySem.W.nsIn K mainGlobals "_law_copied" = some (some (.ref f10))) (l10 : K.lookup f10 = some ⟨oc10, od10, .func (PySem.W.fnOf "_law_copied" "_law_copied" (defArgs s__law_copied) (defBody s__law_copied) (defScope s__law_copied) .none kV10 dc10 pm10 an10 cd10 ct10), sl10⟩) (c10 : PySem.W.codeIn K cd10 "_law_copied" = true) (k10 : PySem.W.keepIn K (.ref f10) = true)
    (a11 : PySem.W.nsIn K mainGlobals "_law_is_table" = some (some (.ref f11))) (l11 : K.lookup f11 = some ⟨oc11, od11, .func (PySem.W.fnOf "_law_is_table" "_law_is_table" (defArgs s__law_is_table) (defBody s__law_is_table) (defScope s__law_is_table) .none kV11 dc11 pm11 an11 cd11 ct11), sl11⟩) (c11 : PySem.W.codeIn K cd11 "_law_is_table" = true) (k11 : PySem.W.keepIn K (.ref f11) = true)
    (a12 : PySem.W.nsIn K mainGlobals "law" = some (some (.ref f12))) (l12 : K.lookup f12 = some ⟨oc12, od12, .func (PySem.W.fnOf "law" "law" (defArgs s_law) (defBody s_law) (defScope s_law) .none kV12 dc12 pm12 an12 cd12 ct12), sl12⟩) (c12 : PySem.W.codeIn K cd12 "law" = true) (k12 : PySem.W.keepIn K (.ref f12) = true)
    
    (z_range : PySem.W.nsIn K mainGlobals "range" = some none) (z_list : PySem.W.nsIn K mainGlobals "list" = some none) (z_len : PySem.W.nsIn K mainGlobals "len" = some none) (z_isinstance : PySem.W.nsIn K mainGlobals "isinstance" = some none) (z_int : PySem.W.nsIn K mainGlobals "int" = some none) (z_bool : PySem.W.nsIn K mainGlobals "bool" = some none) (z_abs : PySem.W.nsIn K mainGlobals "abs" = some none) (z_tuple : PySem.W.nsIn K mainGlobals "tuple" = some none) :
    ∃ fd : FuncData, (∀ (s : Shared) (v : Value), BindsTo s fd ⟨[v], []⟩ [("_law_script", v)]) ∧ ∀ base : Heap, K.In base → base.Ns mainGlobals mg → FnOk l.prog w K mg base CX0 4 fa fd ["_law_script"] (spLaw K) := by
  have e := hfa.symm.trans (PySem.W.mg_of X G a12)
  cases e
  have m_range := PySem.W.mg_none_of X G z_range
  have m_list := PySem.W.mg_none_of X G z_list
  have m_len := PySem.W.mg_none_of X G z_len
  have m_isinstance := PySem.W.mg_none_of X G z_isinstance
  have m_int := PySem.W.mg_none_of X G z_int
  have m_bool := PySem.W.mg_none_of X G z_bool
  have m_abs := PySem.W.mg_none_of X G z_abs
  have m_tuple := PySem.W.mg_none_of X G z_tuple
  have F0 := fun_mk (st := s_tighter) l0 c0 k0
  have b0 := F0.binds (ps := ["one", "other"]) fun _ _ _ _ _ _ us hl => match us, hl with | [_, _], _ => rfl
  have F1 := fun_mk (st := s_tighter_of) l1 c1 k1
  have b1 := F1.binds (ps := ["one", "other"]) fun _ _ _ _ _ _ us hl => match us, hl with | [_, _], _ => rfl
  have F2 := fun_mk (st := s_open_table) l2 c2 k2
  have b2 := F2.binds (ps := ["k"]) fun _ _ _ _ _ _ us hl => match us, hl with | [_], _ => rfl
  have F3 := fun_mk (st := s_copied) l3 c3 k3
  have b3 := F3.binds (ps := ["table"]) fun _ _ _ _ _ _ us hl => match us, hl with | [_], _ => rfl
  have F4 := fun_mk (st := s_narrowed) l4 c4 k4
  have b4 := F4.binds (ps := ["table", "i", "j", "bound"]) fun _ _ _ _ _ _ us hl => match us, hl with | [_, _, _, _], _ => rfl
  have F5 := fun_mk (st := s__law_cell_at) l5 c5 k5
  have b5 := F5.binds (ps := ["_law_script", "_law_k"]) fun _ _ _ _ _ _ us hl => match us, hl with | [_, _], _ => rfl
  have F6 := fun_mk (st := s__law_whole) l6 c6 k6
  have b6 := F6.binds (ps := ["_law_found"]) fun _ _ _ _ _ _ us hl => match us, hl with | [_], _ => rfl
  have F7 := fun_mk (st := s__law_load) l7 c7 k7
  have b7 := F7.binds (ps := ["_law_cell"]) fun _ _ _ _ _ _ us hl => match us, hl with | [_], _ => rfl
  have F8 := fun_mk (st := s__law_bound) l8 c8 k8
  have b8 := F8.binds (ps := ["_law_number"]) fun _ _ _ _ _ _ us hl => match us, hl with | [_], _ => rfl
  have F9 := fun_mk (st := s__law_tighter) l9 c9 k9
  have b9 := F9.binds (ps := ["_law_one", "_law_other"]) fun _ _ _ _ _ _ us hl => match us, hl with | [_, _], _ => rfl
  have F10 := fun_mk (st := s__law_copied) l10 c10 k10
  have b10 := F10.binds (ps := ["_law_table"]) fun _ _ _ _ _ _ us hl => match us, hl with | [_], _ => rfl
  have F11 := fun_mk (st := s__law_is_table) l11 c11 k11
  have b11 := F11.binds (ps := ["_law_found", "_law_due"]) fun _ _ _ _ _ _ us hl => match us, hl with | [_, _], _ => rfl
  have F12 := fun_mk (st := s_law) l12 c12 k12
  refine ⟨PySem.W.fnOf "law" "law" (defArgs s_law) (defBody s_law) (defScope s_law) .none kV12 dc12 pm12 an12 cd12 ct12, fun s v => .of_eq rfl, fun base _ _ => ?_⟩
  have htighter : Has l.prog w K mg base 1 "tighter" ["one", "other"] (fn S_tighter) := ⟨⟨_, _, ok_tighter F0   , PySem.W.mg_of X G a0, k0, b0⟩⟩
  have hopen_table : HasF l.prog w K mg base 1 "open_table" ["k"] (fn S_open_table) := ⟨⟨_, _, ok_open_table F2   m_range, PySem.W.mg_of X G a2, k2, b2⟩⟩
  have hcopied : HasF l.prog w K mg base 1 "copied" ["table"] (fn S_copied) := ⟨⟨_, _, ok_copied F3   m_list, PySem.W.mg_of X G a3, k3, b3⟩⟩
  have hLcell_at : Has l.prog w K mg base 1 "_law_cell_at" ["_law_script", "_law_k"] (fn S__law_cell_at) := ⟨⟨_, _, ok__law_cell_at F5   m_len, PySem.W.mg_of X G a5, k5, b5⟩⟩
  have hLwhole : Has l.prog w K mg base 1 "_law_whole" ["_law_found"] (fn S__law_whole) := ⟨⟨_, _, ok__law_whole F6   m_isinstance m_int m_bool, PySem.W.mg_of X G a6, k6, b6⟩⟩
  have hLload : Has l.prog w K mg base 1 "_law_load" ["_law_cell"] (fn S__law_load) := ⟨⟨_, _, ok__law_load F7   m_range m_abs, PySem.W.mg_of X G a7, k7, b7⟩⟩
  have hLbound : Has l.prog w K mg base 1 "_law_bound" ["_law_number"] (fn S__law_bound) := ⟨⟨_, _, ok__law_bound F8   , PySem.W.mg_of X G a8, k8, b8⟩⟩
  have hLtighter : HasF l.prog w K mg base 1 "_law_tighter" ["_law_one", "_law_other"] (fn S__law_tighter) := ⟨⟨_, _, ok__law_tighter F9   , PySem.W.mg_of X G a9, k9, b9⟩⟩
  have hLcopied : HasF l.prog w K mg base 1 "_law_copied" ["_law_table"] (fn S__law_copied) := ⟨⟨_, _, ok__law_copied F10   m_list, PySem.W.mg_of X G a10, k10, b10⟩⟩
  have htighter_of : Has l.prog w K mg base 2 "tighter_of" ["one", "other"] (fn S_tighter_of) := ⟨⟨_, _, ok_tighter_of F1 htighter  , PySem.W.mg_of X G a1, k1, b1⟩⟩
  have hLis_table : HasF l.prog w K mg base 2 "_law_is_table" ["_law_found", "_law_due"] (fn S__law_is_table) := ⟨⟨_, _, ok__law_is_table F11 hLwhole  m_isinstance m_list m_bool m_tuple, PySem.W.mg_of X G a11, k11, b11⟩⟩
  have hnarrowed : HasF l.prog w K mg base 3 "narrowed" ["table", "i", "j", "bound"] (fn S_narrowed) := ⟨⟨_, _, ok_narrowed F4 hcopied htighter_of  , PySem.W.mg_of X G a4, k4, b4⟩⟩
  exact ok_law F12 hLcell_at hopen_table hLis_table hLload hLbound hLcopied hnarrowed hLtighter  m_range
theorem walk {l : PySem.W.OpenLaw} {q : Program} {loose : List Str} {XP : (Str → Option Value) → Heap → Prop} {YP : World → Heap → Prop} {d : DefRec} {K : Params → PySem.W.Frag} (hn : l.most = some 63) (hdf : d.params.defaults = [])
    (hY : ∀ (w : World) (h : Heap), YP w h → (K w.params).In h)
    (F : ∀ (w : World) (mg : Str → Option Value) (fa : Addr) (h : Heap), (K w.params).In h → h.Ns mainGlobals mg → mg d.name = some (.ref fa) →
      ∃ fd : FuncData, (∀ (s : Shared) (u : Value), BindsTo s fd ⟨[u], []⟩ [("_law_script", u)]) ∧ ∀ base : Heap, (K w.params).In base → base.Ns mainGlobals mg → FnOk l.prog w (K w.params) mg base CX0 4 fa fd ["_law_script"] (spLaw (K w.params))) :
    PySem.W.WalkO q loose XP YP l.row.toRowW d [] (fun f vs => PySem.call f vs) :=
  L2.walk_of (n := 63) (k := 4) (x := "_law_script") (CX := fun _ => CX0) (sp := fun w => spLaw (K w.params)) hn (by decide) hdf ⟨rfl, by decide, by decide⟩ hY F (fun _ _ a ns hl _ hS => ⟨a, ns, rfl, hS, hl, fun _ => rfl⟩) fun _ _ _ _ _ z => z
end
end Mine

open PySem PySem.W PyProof.Rows
set_option maxRecDepth 100000 in
set_option maxHeartbeats 0 in
theorem PySem.Challenge.cw_watchyard_k15_tables_narrowed_holds : PySem.Challenge.rw_watchyard_k15_tables_narrowed.Holds := by
  w_on; o_law; k_head; (case hw => w_witness2)
  k_fill
  refine Mine.walk (l := PySem.Challenge.rw_watchyard_k15_tables_narrowed) rfl rfl (fun w h Y => PySem.W.kIn_of Y) ?F
  case F =>
    intro w mg fa h KX G hmg
    refine' Mine.all_mk KX G hmg ?a0 ?l0 ?c0 ?k0 ?a1 ?l1 ?c1 ?k1 ?a2 ?l2 ?c2 ?k2 ?a3 ?l3 ?c3 ?k3 ?a4 ?l4 ?c4 ?k4 ?a5 ?l5 ?c5 ?k5 ?a6 ?l6 ?c6 ?k6 ?a7 ?l7 ?c7 ?k7 ?a8 ?l8 ?c8 ?k8 ?a9 ?l9 ?c9 ?k9 ?a10 ?l10 ?c10 ?k10 ?a11 ?l11 ?c11 ?k11 ?a12 ?l12 ?c12 ?k12 ?z_range ?z_list ?z_len ?z_isinstance ?z_int ?z_bool ?z_abs ?z_tuple
    (case a0 => k_is)
    (case l0 => k_is)
    (case c0 => k_is)
    (case k0 => k_is)
    (case a1 => k_is)
    (case l1 => k_is)
    (case c1 => k_is)
    (case k1 => k_is)
    (case a2 => k_is)
    (case l2 => k_is)
    (case c2 => k_is)
    (case k2 => k_is)
    (case a3 => k_is)
    (case l3 => k_is)
    (case c3 => k_is)
    (case k3 => k_is)
    (case a4 => k_is)
    (case l4 => k_is)
    (case c4 => k_is)
    (case k4 => k_is)
    (case a5 => k_is)
    (case l5 => k_is)
    (case c5 => k_is)
    (case k5 => k_is)
    (case a6 => k_is)
    (case l6 => k_is)
    (case c6 => k_is)
    (case k6 => k_is)
    (case a7 => k_is)
    (case l7 => k_is)
    (case c7 => k_is)
    (case k7 => k_is)
    (case a8 => k_is)
    (case l8 => k_is)
    (case c8 => k_is)
    (case k8 => k_is)
    (case a9 => k_is)
    (case l9 => k_is)
    (case c9 => k_is)
    (case k9 => k_is)
    (case a10 => k_is)
    (case l10 => k_is)
    (case c10 => k_is)
    (case k10 => k_is)
    (case a11 => k_is)
    (case l11 => k_is)
    (case c11 => k_is)
    (case k11 => k_is)
    (case a12 => k_is)
    (case l12 => k_is)
    (case c12 => k_is)
    (case k12 => k_is)
    (case z_range => k_is)
    (case z_list => k_is)
    (case z_len => k_is)
    (case z_isinstance => k_is)
    (case z_int => k_is)
    (case z_bool => k_is)
    (case z_abs => k_is)
    (case z_tuple => k_is)
