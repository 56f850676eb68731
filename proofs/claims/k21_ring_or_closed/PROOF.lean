import PyProof.Rows.All
import Wide.All
import OpenK.AllK
import Wide.FinOn
import Lean
import PyProof.EqAt
import PyProof.EqKinds
import PyProof.TupleCall
import PyProof.NeKinds
import KE.IntBitsLaws
import KE.LcSums
import PyProof.ConsumeWalk
import PySem.Challenge.RW_watchyard_k21_ring_or_closed
set_option Elab.async false
set_option linter.all false
set_option maxRecDepth 100000
namespace L2
open PySem PySem.Spec PyProof.Rows
abbrev Key := Sum Int Str
def keyIs : Key → Value → Bool
  | .inl k, v => Value.isInt k v
  | .inr x, v => Value.isStrOf x v
def keyH (w : World) : Key → Int
  | .inl k => hashInt k
  | .inr x => hashStr w x
theorem keyIs_shape : ∀ {k : Key} {v : Value}, keyIs k v = true → (∃ i t, k = Sum.inl i ∧ v = Value.int i t) ∨ (∃ x t, k = Sum.inr x ∧ v = Value.str x t)
  | .inl i, v, h => by
    obtain ⟨t, e⟩ := Value.isInt_shape (k := i) (v := v) h
    exact .inl ⟨i, t, rfl, e⟩
  | .inr x, v, h => by
    obtain ⟨t, e⟩ := Value.isStrOf_shape (x := x) (v := v) h
    exact .inr ⟨x, t, rfl, e⟩
theorem key_ll (a b : Int) : decide ((Sum.inl a : Key) = Sum.inl b) = (a == b) := by
  by_cases e : a = b
  · subst e; simp
  · have h : ¬ (Sum.inl a : Key) = Sum.inl b := fun q => e (Sum.inl.inj q)
    rw [decide_eq_false h]
    exact (beq_eq_false_iff_ne.mpr e).symm
theorem key_rr (a b : Str) : decide ((Sum.inr a : Key) = Sum.inr b) = decide (a = b) := by
  by_cases e : a = b
  · subst e; simp
  · have h : ¬ (Sum.inr a : Key) = Sum.inr b := fun q => e (Sum.inr.inj q)
    rw [decide_eq_false h, decide_eq_false e]
theorem key_lr (a : Int) (b : Str) : decide ((Sum.inl a : Key) = Sum.inr b) = false := decide_eq_false (fun q => nomatch q)
theorem key_rl (a : Str) (b : Int) : decide ((Sum.inr a : Key) = Sum.inl b) = false := decide_eq_false (fun q => nomatch q)
def mixKind (prog : Program) (w : World) : PySem.KeyKind prog w Key where
  is := keyIs
  hash := keyH w
  inj := fun v a b ha hb => by
    rcases keyIs_shape ha with ⟨i, t, rfl, rfl⟩ | ⟨x, t, rfl, rfl⟩
    · rcases keyIs_shape hb with ⟨j, u, rfl, e⟩ | ⟨y, u, rfl, e⟩
      · injection e with e1 _; rw [e1]
      · exact nomatch e
    · rcases keyIs_shape hb with ⟨j, u, rfl, e⟩ | ⟨y, u, rfl, e⟩
      · exact nomatch e
      · injection e with e1 _; rw [e1]
  byValue := fun k v h => by
    rcases keyIs_shape h with ⟨i, t, rfl, rfl⟩ | ⟨x, t, rfl, rfl⟩ <;> rfl
  pyHash := fun hv h => by
    rcases keyIs_shape hv with ⟨i, t, rfl, rfl⟩ | ⟨x, t, rfl, rfl⟩
    · exact wpAny_pyHash_int h
    · exact wpAny_pyHash_str h
  eqBool := fun hu hv h => by
    rcases keyIs_shape hu with ⟨i, t, rfl, rfl⟩ | ⟨x, t, rfl, rfl⟩
    · rcases keyIs_shape hv with ⟨j, u, rfl, rfl⟩ | ⟨y, u, rfl, rfl⟩
      · rw [key_ll] at h; exact wpAny_eqBool_int h
      · rw [key_lr] at h; exact SeqAt.EqAt.int_str i t y u _ _ _ _ h
    · rcases keyIs_shape hv with ⟨j, u, rfl, rfl⟩ | ⟨y, u, rfl, rfl⟩
      · rw [key_rl] at h; exact SeqAt.EqAt.str_int x t j u _ _ _ _ h
      · rw [key_rr] at h; exact wpAny_eqBool_str h
  «strs» := fun k x t v h => by
    rcases keyIs_shape h with ⟨i, u, rfl, e⟩ | ⟨y, u, rfl, e⟩
    · exact nomatch e
    · injection e with e1 _
      subst e1
      cases v <;> rfl
end L2
namespace L2
open PySem PySem.Spec PyProof.Rows
inductive V where
  | non | bl (b : Bool) | int (i : Int) | str (x : Str) | byt (b : Array UInt8) | flt (b : UInt64) | ref (a : Addr) | ty (n : String)
  deriving DecidableEq
def RelV : V → Value → Prop
  | .non, u => u = Value.none
  | .bl b, u => u = Value.bool b
  | .int i, u => ∃ t, u = Value.int i t
  | .str x, u => ∃ t, u = Value.str x t
  | .byt b, u => ∃ t, u = Value.bytes b t
  | .flt b, u => ∃ t, u = Value.float b t
  | .ref a, u => u = Value.ref a
  | .ty n, u => u = Value.type n
abbrev Vals : List V → List Value → Prop := Paired RelV
theorem Vals.length {xs : List V} {us : List Value} (r : Vals xs us) : xs.length = us.length := Paired.length r
theorem Vals.get : ∀ {xs : List V} {us : List Value} {i : Nat} {x : V}, Vals xs us → xs[i]? = some x → ∃ u, us[i]? = some u ∧ RelV x u
  | _, _, _, _, .nil, e => by simp at e
  | _, _, 0, _, .cons r _, e => by simp at e; subst e; exact ⟨_, rfl, r⟩
  | _, _, i + 1, x, .cons _ t, e => by
    obtain ⟨u, h1, h2⟩ := Vals.get (i := i) (x := x) t (by simpa using e)
    exact ⟨u, by simpa using h1, h2⟩
theorem Vals.set {x : V} {u : Value} (r : RelV x u) : ∀ {xs : List V} {us : List Value} (i : Nat), Vals xs us → Vals (xs.set i x) (us.set i u)
  | _, _, _, .nil => .nil
  | _, _, 0, .cons _ t => .cons r t
  | _, _, i + 1, .cons q t => .cons q (Vals.set r i t)
theorem Vals.append : ∀ {xs ys : List V} {us ws : List Value}, Vals xs us → Vals ys ws → Vals (xs ++ ys) (us ++ ws)
  | _, _, _, _, .nil, s => s
  | _, _, _, _, .cons r t, s => .cons r (Vals.append t s)
theorem Vals.take : ∀ {xs : List V} {us : List Value} (n : Nat), Vals xs us → Vals (xs.take n) (us.take n)
  | _, _, 0, _ => .nil
  | _, _, _ + 1, .nil => .nil
  | _, _, n + 1, .cons r t => .cons r (Vals.take n t)
theorem Vals.drop : ∀ {xs : List V} {us : List Value} (n : Nat), Vals xs us → Vals (xs.drop n) (us.drop n)
  | _, _, 0, r => r
  | _, _, _ + 1, .nil => .nil
  | _, _, n + 1, .cons _ t => Vals.drop n t
theorem Vals.none_of : ∀ {xs : List V} {us : List Value} {i : Nat}, Vals xs us → xs[i]? = none → us[i]? = none := fun {xs us i} r e => by
  have h1 := r.length
  have h2 : xs.length ≤ i := List.getElem?_eq_none_iff.mp e
  exact List.getElem?_eq_none_iff.mpr (by omega)
def RelO : Option V → Option Value → Prop
  | some v, some u => RelV v u
  | none, none => True
  | _, _ => False
def KV {κ : Type} : List (κ × V) → List (κ × Value) → Prop := Paired fun (p : κ × V) (q : κ × Value) => p.1 = q.1 ∧ RelV p.2 q.2
def kV : Key → V
  | .inl i => .int i
  | .inr x => .str x
inductive HO where
  | lst (xs : List V)
  | tup (xs : List V)
  | dK (kvs : List (Key × V)) | dT (kvs : List (List Key × V))
  | set (S : Int → Bool) (n : Nat)
  | ins (C dx : Addr) (fs : List (Str × V))
  | own (x : Addr)
  | xd (fs : List (Str × V))
  | met (f x : Addr)
  | rng (lo hi : Int)
  | frz (o : Obj) (u : HO)
  | tbl (ps : Array Value)
  | ext (φ : Heap → Prop)
abbrev Hp := Addr → Option HO
def upd (H : Hp) (a : Addr) (o : HO) : Hp := fun b => if b = a then some o else H b
theorem upd_same {H : Hp} {a : Addr} {o : HO} : upd H a o a = some o := by unfold upd; rw [if_pos rfl]
theorem upd_ne {H : Hp} {a b : Addr} {o : HO} (h : b ≠ a) : upd H a o b = H b := by unfold upd; rw [if_neg h]
theorem upd_upd {H : Hp} {a : Addr} {o u : HO} : upd (upd H a o) a u = upd H a u := by
  funext b; unfold upd; split <;> rfl
theorem ne_of_none {H : Hp} {a b : Addr} {o : HO} (h : H a = some o) (h' : H b = none) : a ≠ b := by
  intro e; subst e; rw [h] at h'; cases h'
section
variable (P : Program) (w : World)
def ObjOk (H : Hp) (h : Heap) (a : Addr) : HO → Prop
  | .lst xs => xs.length ≤ sizeLine ∧ ∃ (its : List Value) (n : Nat), Vals xs its ∧ h.get? a = some { cls := .type "list", data := .seq its.toArray n }
  | .tup xs => xs.length ≤ sizeLine ∧ ∃ its : List Value, Vals xs its ∧ IsTup h a its.toArray
  | .dK kvs => kvs.length ≤ sizeLine ∧ (a == sysModules) = false ∧ ∃ vs, KV kvs vs ∧ h.DictOf (mixKind P w) a vs
  | .dT kvs => kvs.length ≤ sizeLine ∧ (a == sysModules) = false ∧ ∃ xs : List (List Key × Addr × Value),
      Paired (fun (p : List Key × V) (q : List Key × Addr × Value) => p.1 = q.1 ∧ H q.2.1 = some (.tup (p.1.map kV)) ∧ RelV p.2 q.2.2) kvs xs ∧
      ∃ o es ep, h.get? a = some o ∧ o.ExactDict ∧ o.data = .dict es ep ∧ es.toList = xs.map (entryOfKey (tupleKind (mixKind P w))) ∧ (xs.map (·.1)).Nodup
  | .set S n => h.SetOf (intKind P w) a S n
  | .ins C dx fs => H dx = some (.own a) ∧ fs.length ≤ 1000 ∧ dx ≠ a ∧ h.get? a = some (PySem.W.instObj C dx) ∧
      ∃ mA, h.Ns1 dx mA ∧ (∀ f, RelO (fs.lookup f) (mA f)) ∧ PySem.Within mA (fs.map (·.1))
  | .own _ => ∃ o, h.get? a = some o
  | .xd fs => ∃ mA, h.Ns1 a mA ∧ ∀ f, RelO (fs.lookup f) (mA f)
  | .rng lo hi => ∃ t u v, h.get? a = some { cls := .type "range", data := .fields #[.int lo t, .int hi u, .int 1 v] }
  | .frz o u => h.get? a = some o ∧ ObjOk H h a u
  | .tbl ps => h.get? a = some { cls := .none, data := .fields ps }
  | .met f x => h.get? a = some (PySem.W.methodObj (.ref f) (.ref x))
  | .ext φ => φ h ∧ (∃ o, h.get? a = some o) ∧ ∀ h1 h2 : Heap, φ h1 → (∀ o, h1.get? a = some o → h2.get? a = some o) → φ h2
def HOk (H : Hp) (h : Heap) : Prop := ∀ a o, H a = some o → ObjOk P w H h a o
end
section
variable {P : Program} {w : World} {H H' : Hp} {h h' : Heap} {a : Addr} {o : HO}
theorem ObjOk.lt (x : ObjOk P w H h a o) : a < h.objs.size := by
  cases o with
  | lst xs => obtain ⟨_, _, _, _, e⟩ := x; exact Heap.lt_size e
  | tup xs => obtain ⟨_, _, _, p⟩ := x; exact p.lt
  | dK kvs => obtain ⟨_, _, _, _, o, _, _, e, _⟩ := x; exact Heap.lt_size e
  | dT kvs => obtain ⟨_, _, _, _, o, _, _, e, _⟩ := x; exact Heap.lt_size e
  | set S n => obtain ⟨o, _, _, _, e, _⟩ := x; exact Heap.lt_size e
  | ins C dx fs => obtain ⟨_, _, _, e, _⟩ := x; exact Heap.lt_size e
  | own y => obtain ⟨_, e⟩ := x; exact Heap.lt_size e
  | xd fs => obtain ⟨_, ⟨_, _, _, e, _⟩, _⟩ := x; exact Heap.lt_size e
  | rng lo hi => obtain ⟨_, _, _, e⟩ := x; exact Heap.lt_size e
  | frz ob u => obtain ⟨e, _⟩ := x; exact Heap.lt_size e
  | tbl ps => exact Heap.lt_size (show h.get? a = some _ from x)
  | met f y => exact Heap.lt_size (show h.get? a = some _ from x)
  | ext φ => obtain ⟨_, ⟨_, e⟩, _⟩ := x; exact Heap.lt_size e
theorem Paired.mapP {α β : Type} {F G : α → β → Prop} : ∀ {l₁ : List α} {l₂ : List β}, Paired F l₁ l₂ → (∀ a b, F a b → G a b) → Paired G l₁ l₂
  | _, _, .nil, _ => .nil
  | _, _, .cons r t, f => .cons (f _ _ r) (Paired.mapP t f)
theorem ObjOk.stay (x : ObjOk P w H h a o) (k : ∀ b u, (b = a ∨ H b = some (.own a)) → h.get? b = some u → h'.get? b = some u)
    (ho : ∀ b, H b = some (.own a) → H' b = some (.own a)) (ht : ∀ b xs, H b = some (.tup xs) → H' b = some (.tup xs)) : ObjOk P w H' h' a o := by
  induction o with
  | lst xs => obtain ⟨z, its, n, r, e⟩ := x; exact ⟨z, its, n, r, k _ _ (.inl rfl) e⟩
  | tup xs => obtain ⟨z, its, r, ob, e, c⟩ := x; exact ⟨z, its, r, ob, k _ _ (.inl rfl) e, c⟩
  | dK kvs => obtain ⟨z, y, vs, r, ob, es, ep, e, c⟩ := x; exact ⟨z, y, vs, r, ob, es, ep, k _ _ (.inl rfl) e, c⟩
  | dT kvs =>
    obtain ⟨z, y, xs, r, ob, es, ep, e, c⟩ := x
    exact ⟨z, y, xs, Paired.mapP r fun p q z => ⟨z.1, ht _ _ z.2.1, z.2.2⟩, ob, es, ep, k _ _ (.inl rfl) e, c⟩
  | set S n => obtain ⟨ob, es, ep, t, e, c⟩ := x; exact ⟨ob, es, ep, t, k _ _ (.inl rfl) e, c⟩
  | ins C dx fs =>
    obtain ⟨d, z, ne, e, mA, ⟨od, es, ep, e2, c⟩, r⟩ := x
    exact ⟨ho _ d, z, ne, k _ _ (.inl rfl) e, mA, ⟨od, es, ep, k _ _ (.inr d) e2, c⟩, r⟩
  | own y => obtain ⟨ob, e⟩ := x; exact ⟨ob, k _ _ (.inl rfl) e⟩
  | xd fs => obtain ⟨mA, ⟨od, es, ep, e, c⟩, r⟩ := x; exact ⟨mA, ⟨od, es, ep, k _ _ (.inl rfl) e, c⟩, r⟩
  | rng lo hi => obtain ⟨t, u, v, e⟩ := x; exact ⟨t, u, v, k _ _ (.inl rfl) e⟩
  | frz ob u ih => obtain ⟨e, q⟩ := x; exact ⟨k _ _ (.inl rfl) e, ih q⟩
  | tbl ps =>
    have e : h.get? a = some { cls := .none, data := .fields ps } := x
    show h'.get? a = some { cls := .none, data := .fields ps }
    exact k a _ (.inl rfl) e
  | met f y =>
    have e : h.get? a = some (PySem.W.methodObj (.ref f) (.ref y)) := x
    show h'.get? a = some (PySem.W.methodObj (.ref f) (.ref y))
    exact k a _ (.inl rfl) e
  | ext φ => obtain ⟨p, ⟨o, e⟩, st⟩ := x; exact ⟨st _ _ p fun o q => k _ _ (.inl rfl) q, ⟨o, k _ _ (.inl rfl) e⟩, st⟩
theorem HOk.lt (x : HOk P w H h) (e : H a = some o) : a < h.objs.size := (x a o e).lt
theorem HOk.fresh (x : HOk P w H h) (e : h.objs.size ≤ a) : H a = none := by
  cases q : H a with
  | none => rfl
  | some u => exact absurd (Nat.lt_of_lt_of_le (x.lt q) e) (Nat.lt_irrefl _)
theorem HOk.kept (x : HOk P w H h) (k : ∀ b u, h.get? b = some u → h'.get? b = some u) : HOk P w H h' := fun a o e =>
  (x a o e).stay (fun b u _ q => k b u q) (fun _ q => q) fun _ _ q => q
theorem HOk.laid (x : HOk P w H h) (k : ∀ b u, h.get? b = some u → h'.get? b = some u) (hp : h.objs.size ≤ a) (new : ObjOk P w (upd H a o) h' a o) : HOk P w (upd H a o) h' := fun b u e => by
  have hn := x.fresh hp
  by_cases hb : b = a
  · subst hb; rw [upd_same] at e; cases e; exact new
  · rw [upd_ne hb] at e
    exact (x b u e).stay (fun c v _ q => k c v q) (fun c q => by rw [upd_ne (ne_of_none q hn)]; exact q) fun c xs q => by rw [upd_ne (ne_of_none q hn)]; exact q
end
def Rd (H : Hp) (a : Addr) (u : HO) : Prop := H a = some u ∨ ∃ o, H a = some (.frz o u)
theorem Rd.of {H : Hp} {a : Addr} {u : HO} (h : H a = some u) : Rd H a u := .inl h
theorem Rd.ok {P : Program} {w : World} {H : Hp} {h : Heap} {a : Addr} {u : HO} (r : Rd H a u) (x : HOk P w H h) : ObjOk P w H h a u := by
  rcases r with r | ⟨o, r⟩
  · exact x a u r
  · obtain ⟨_, q⟩ := x a _ r
    exact q
def Mut : Option HO → Prop
  | some (.lst _) => True
  | some (.dK _) => True
  | some (.dT _) => True
  | some (.set _ _) => True
  | some (.ins _ _ _) => True
  | some (.ext _) => True
  | _ => False
section
variable {P : Program} {w : World} {H : Hp} {h h' : Heap} {x e : Addr} {o' : HO}
theorem HOk.write (ok : HOk P w H h) (mu : Mut (H x)) (he : e = x ∨ H e = some (.own x)) (k : ∀ b u, b ≠ e → h.get? b = some u → h'.get? b = some u) (heo : ∃ u, h'.get? e = some u)
    (new : ObjOk P w (upd H x o') h' x o') : HOk P w (upd H x o') h' := fun b u q => by
  have nown : ∀ c y, H c = some (.own y) → c ≠ x := fun c y r z => by subst z; rw [r] at mu; exact mu
  have ntup : ∀ c xs, H c = some (.tup xs) → c ≠ x := fun c xs r z => by subst z; rw [r] at mu; exact mu
  by_cases hb : b = x
  · subst hb; rw [upd_same] at q; cases q; exact new
  · rw [upd_ne hb] at q
    by_cases hbe : b = e
    · have q' : H b = some (.own x) := by
        rcases he with z | z
        · exact absurd (hbe.trans z) hb
        · rw [hbe]; exact z
      rw [q] at q'; cases q'
      obtain ⟨v, hv⟩ := heo
      exact ⟨v, by rw [hbe]; exact hv⟩
    · refine (ok b u q).stay (fun c v hc r => k c v ?_ r) (fun c r => by rw [upd_ne (nown c b r)]; exact r) fun c xs r => by rw [upd_ne (ntup c xs r)]; exact r
      rcases hc with rfl | hc
      · exact hbe
      · rintro rfl
        rcases he with z | z
        · exact nown c b hc z
        · rw [hc] at z; cases z; exact hb rfl
end
structure Un (fs ex : List Addr) (H H' : Hp) (h h' : Heap) : Prop where
  keep : ∀ b o, h.get? b = some o → H b = none → b ∉ fs → b ∉ ex → h'.get? b = some o
  slot : ∀ b o, h.get? b = some o → H b = none → b ∈ fs → b ∉ ex → ∃ sl, h'.get? b = some { o with slots := sl }
  free : ∀ b o, h.get? b = some o → H b = none → b ∉ ex → H' b = none
  there : ∀ b o, h.get? b = some o → b ∉ ex → ∃ o', h'.get? b = some o'
  tups : ∀ b xs, H b = some (.tup xs) → H' b = some (.tup xs)
  frzs : ∀ b o u, H b = some (.frz o u) → H' b = some (.frz o u)
  tbls : ∀ b ps, H b = some (.tbl ps) → ∃ more, H' b = some (.tbl (ps ++ more))
section
variable {fs fs' ex ex' : List Addr} {H H1 H2 : Hp} {h h1 h2 h' : Heap} {a x e : Addr} {o : HO}
theorem Un.any (u : Un fs ex H H1 h h1) {b : Addr} {ob : Obj} (q : h.get? b = some ob) (n : H b = none) (hx : b ∉ ex) : ∃ sl, h1.get? b = some { ob with slots := sl } := by
  by_cases hb : b ∈ fs
  · exact u.slot b ob q n hb hx
  · exact ⟨ob.slots, u.keep b ob q n hb hx⟩
theorem Un.trans (a : Un fs ex H H1 h h1) (b : Un fs ex H1 H2 h1 h2) : Un fs ex H H2 h h2 where
  keep := fun c ob q n hc hx => b.keep c ob (a.keep c ob q n hc hx) (a.free c ob q n hx) hc hx
  slot := fun c ob q n hc hx => by
    obtain ⟨sl, e1⟩ := a.slot c ob q n hc hx
    obtain ⟨sl', e2⟩ := b.slot c _ e1 (a.free c ob q n hx) hc hx
    exact ⟨sl', e2⟩
  free := fun c ob q n hx => by
    obtain ⟨o', e1⟩ := a.there c ob q hx
    exact b.free c o' e1 (a.free c ob q n hx) hx
  there := fun c ob q hx => by
    obtain ⟨o', e1⟩ := a.there c ob q hx
    exact b.there c o' e1 hx
  tups := fun c xs q => b.tups c xs (a.tups c xs q)
  frzs := fun c ob xs q => b.frzs c ob xs (a.frzs c ob xs q)
  tbls := fun c ps q => by
    obtain ⟨m1, e1⟩ := a.tbls c ps q
    obtain ⟨m2, e2⟩ := b.tbls c _ e1
    exact ⟨m1 ++ m2, by rw [e2, Array.append_assoc]⟩
theorem Un.kept (k : ∀ b u, h.get? b = some u → h'.get? b = some u) : Un fs ex H H h h' :=
  ⟨fun b ob q _ _ _ => k b ob q, fun b ob q _ _ _ => ⟨ob.slots, k b ob q⟩, fun _ _ _ n _ => n, fun b ob q _ => ⟨ob, k b ob q⟩, fun _ _ q => q, fun _ _ _ q => q, fun _ ps q => ⟨#[], by rw [q]; simp⟩⟩
theorem Un.refl : Un fs ex H H h h := Un.kept fun _ _ q => q
theorem Un.laid (k : ∀ b u, h.get? b = some u → h'.get? b = some u) (hp : h.objs.size ≤ a) (hn : H a = none) : Un fs ex H (upd H a o) h h' where
  keep := fun b u q _ _ _ => k b u q
  slot := fun b u q _ _ _ => ⟨u.slots, k b u q⟩
  free := fun b u q n _ => by rw [upd_ne (Nat.ne_of_lt (Nat.lt_of_lt_of_le (Heap.lt_size q) hp))]; exact n
  there := fun b u q _ => ⟨u, k b u q⟩
  tups := fun b xs q => by rw [upd_ne (ne_of_none q hn)]; exact q
  frzs := fun b u xs q => by rw [upd_ne (ne_of_none q hn)]; exact q
  tbls := fun b ps q => ⟨#[], by rw [upd_ne (ne_of_none q hn), q]; simp⟩
theorem Un.write (mu : Mut (H x)) (he : e = x ∨ H e = some (.own x)) (k : ∀ b u, b ≠ e → h.get? b = some u → h'.get? b = some u) (heo : ∃ u, h'.get? e = some u) : Un fs ex H (upd H x o) h h' := by
  have hx : ∀ b, H b = none → b ≠ x := fun b n z => by subst z; rw [n] at mu; exact mu
  have hb : ∀ b, H b = none → b ≠ e := fun b n z => by
    subst z
    rcases he with r | r
    · exact hx b n r
    · rw [n] at r; cases r
  have hm : ∀ b u, H b = some u → ¬ Mut (some u) → b ≠ x := fun b u q nm z => by subst z; rw [q] at mu; exact nm mu
  refine ⟨fun b u q n _ _ => k b u (hb b n) q, fun b u q n _ _ => ⟨u.slots, k b u (hb b n) q⟩, fun b u q n _ => by rw [upd_ne (hx b n)]; exact n, fun b u q _ => ?_,
    fun b xs q => by rw [upd_ne (hm b _ q fun z => z)]; exact q, fun b u xs q => by rw [upd_ne (hm b _ q fun z => z)]; exact q, fun b ps q => ⟨#[], by rw [upd_ne (hm b _ q fun z => z), q]; simp⟩⟩
  by_cases hbe : b = e
  · subst hbe; exact heo
  · exact ⟨u, k b u hbe q⟩
theorem Un.mono (u : Un fs ex H H1 h h1) (hs : ∀ b ∈ fs, b ∈ fs') (hx : ∀ b ∈ ex, b ∈ ex') : Un fs' ex' H H1 h h1 :=
  ⟨fun b ob q n hb he => u.keep b ob q n (fun z => hb (hs b z)) fun z => he (hx b z), fun _ _ q n _ he => u.any q n fun z => he (hx _ z), fun b ob q n he => u.free b ob q n fun z => he (hx b z), fun b ob q he => u.there b ob q fun z => he (hx b z), u.tups, u.frzs, u.tbls⟩
end
def trk (h : Heap) (H : Hp) : List Addr := (List.range h.objs.size).filter fun a => (H a).isSome
def hidT (h : Heap) (H : Hp) : Heap := PySem.W.hideAll h (trk h H)
theorem hidT_size (h : Heap) (H : Hp) : (hidT h H).objs.size = h.objs.size := PySem.W.hideAll_size _ _
theorem hidT_get {h : Heap} {H : Hp} {b : Addr} {o : Obj} (e : h.get? b = some o) (n : H b = none) : (hidT h H).get? b = some o :=
  PySem.W.hideAll_get _ e fun hm => by
    have q : (H b).isSome = true := (List.mem_filter.mp hm).2
    rw [n] at q; simp at q
theorem of_hidT {h : Heap} {H : Hp} {b : Addr} {o : Obj} (e : (hidT h H).get? b = some o) : h.get? b = some o ∧ H b = none := by
  have e' : h.get? b = some o := PySem.W.of_hideAll (trk h H) e
  refine ⟨e', ?_⟩
  cases q : H b with
  | none => rfl
  | some x =>
    have hm : b ∈ trk h H := List.mem_filter.mpr ⟨List.mem_range.mpr (Heap.lt_size e'), by simp [q]⟩
    have z : (hidT h H).get? b = none := PySem.W.hideAll_none (trk h H) hm
    rw [z] at e; cases e
def allNews (g h : Heap) (L : Addr) : List (Addr × Obj) := (List.range h.objs.size).filterMap fun a => if a = L ∨ (g.get? a).isSome = true then none else (h.get? a).map fun o => (a, o)
def rest (g h : Heap) (L d : Addr) : List (Addr × Obj) := (allNews g h L).filter fun p => decide (p.1 ≠ d)
end L2
namespace L2
open PySem PySem.Spec PyProof.Rows
structure Mod (K : PySem.W.Frag) (mg : Str → Option Value) (base : Heap) : Prop where
  kin : K.In base
  glob : base.Ns mainGlobals mg
  blt : ∃ mb, base.Ns builtinsNs mb ∧ ∀ x : Str, x ≠ "__name__" → mb x = bootBuiltins x
  nolimit : base.NoLimit
structure Cx where
  prog : Program
  w : World
  K : PySem.W.Frag
  mg : Str → Option Value
  base : Heap
  A : Around
  N : List Str
  s₀ : Shared
  H₀ : Hp
  env : Env
  outer : List Env
  stack : List Env
  ex : List Addr
  fn : Str → Bool
  calm : Bool
  pn : List (Addr × Obj)
  xe : Value → Shared → Prop
def frs (l : List Env) : List Addr := l.filterMap (·.frame)
abbrev Cx.fs (X : Cx) : List Addr := frs X.outer
def Vis (sc : Scope) (x : Str) : Prop := sc.names.lookup x = some .local ∨ sc.names.lookup x = some .cell ∨ sc.names.lookup x = some .free
def Loc (sc : Scope) (x : Str) : Prop := sc.names.lookup x = some .local ∨ sc.names.lookup x = some .cell
def Look (env : Env) (h : Heap) (m : Str → Option Value) (x : Str) (u : Value) : Prop :=
  (env.kindOf x = some .local ∧ m x = some u) ∨ ((env.kindOf x = some .cell ∨ env.kindOf x = some .free) ∧ ∃ c, env.cells.lookup x = some c ∧ h.IsCell c (some u))
structure Cx.Ok (X : Cx) : Prop where
  mod : Mod X.K X.mg X.base
  kind : X.env.scope.kind = .function
  glob : X.env.globals = mainGlobals
  blt : X.env.builtins = builtinsNs
  above : X.s₀.heap.objs.size ≤ X.env.locals
  inj : ∀ x y c, X.env.cells.lookup x = some c → X.env.cells.lookup y = some c → x = y
  has : ∀ x, (X.env.kindOf x = some .cell ∨ X.env.kindOf x = some .free) → ∃ c, X.env.cells.lookup x = some c
  cab : ∀ x c, X.fn x = true → X.env.cells.lookup x = some c → X.s₀.heap.objs.size ≤ c
  hd : X.calm = true → X.A.handled = none
  frames : X.A.frames = some X.stack
  stk : X.stack = X.outer ∨ (X.stack = X.env :: X.outer ∧ X.env.frame = some X.env.locals)
  exf : ∀ b ∈ X.ex, b ≠ X.env.locals ∧ ∀ x c, X.env.cells.lookup x = some c → c ≠ b
  bs : ∀ b o, X.base.get? b = some o → X.s₀.heap.get? b = some o ∧ X.H₀ b = none
  bsz : X.base.objs.size ≤ X.s₀.heap.objs.size
  noex : ∀ b o, X.base.get? b = some o → b ∉ X.ex
  exfs : ∀ b ∈ X.ex, b ∉ X.fs
  funs : X.s₀.heap.FunFrames X.base X.outer
  frf : ∀ b ∈ X.fs, X.H₀ b = none
structure Inv (X : Cx) (pins : List (Addr × Obj)) (σ : List (Option V)) (H : Hp) (s : Shared) : Prop where
  ok : X.Ok
  os : s.os = X.s₀.os
  bare : AllBare s.gens
  base : Un X.fs X.ex X.H₀ H X.s₀.heap s.heap
  loc : ∃ m, s.heap.Ns X.env.locals m ∧ ∀ (i : Nat) (x : Str) (v : V), X.N[i]? = some x → σ[i]? = some (some v) → Vis X.env.scope x → ∃ u, RelV v u ∧ Look X.env s.heap m x u
  cell : ∀ x c, X.env.cells.lookup x = some c → ∃ v, s.heap.IsCell c v
  free : H X.env.locals = none
  freeC : ∀ x c, X.env.cells.lookup x = some c → H c = none
  pin : ∀ p ∈ X.pn ++ pins, s.heap.get? p.1 = some p.2 ∧ H p.1 = none ∧ p.1 ≠ X.env.locals ∧ p.1 ∉ X.fs ∧ ∀ v, p.2.data ≠ .cell v
  hok : HOk X.prog X.w H s.heap
  len : σ.length = X.N.length
section
variable {X : Cx} {pins : List (Addr × Obj)} {σ : List (Option V)} {H H' : Hp} {s : Shared} {h' : Heap}
theorem Cx.Ok.nofr (ok : X.Ok) {b : Addr} {o : Obj} (e : X.base.get? b = some o) : b ∉ X.fs := fun hb => by
  have := (ok.funs.mem hb).1
  rw [e] at this; cases this
theorem Inv.bs (I : Inv X pins σ H s) : ∀ b o, X.base.get? b = some o → s.heap.get? b = some o ∧ H b = none := fun b o e =>
  ⟨I.base.keep b o (I.ok.bs b o e).1 (I.ok.bs b o e).2 (I.ok.nofr e) (I.ok.noex b o e), I.base.free b o (I.ok.bs b o e).1 (I.ok.bs b o e).2 (I.ok.noex b o e)⟩
theorem Inv.bk (I : Inv X pins σ H s) : ∀ b o, X.base.get? b = some o → s.heap.get? b = some o := fun b o e => (I.bs b o e).1
theorem Inv.mod (I : Inv X pins σ H s) : Mod X.K X.mg X.base := I.ok.mod
theorem Inv.kIn (I : Inv X pins σ H s) : X.K.In s.heap := I.ok.mod.kin.keeps I.bk
theorem Inv.nolimit (I : Inv X pins σ H s) : s.heap.NoLimit := I.ok.mod.nolimit.keeps I.bk
theorem Inv.fr (I : Inv X pins σ H s) : ∃ m, Fr X.base X.env.locals s.heap m :=
  let ⟨m, hn, _⟩ := I.loc
  ⟨m, hn, I.bk, Nat.le_trans I.ok.bsz I.ok.above⟩
theorem Inv.lt (I : Inv X pins σ H s) : X.env.locals < s.heap.objs.size := let ⟨_, hn, _⟩ := I.loc; hn.lt
theorem Inv.sz (I : Inv X pins σ H s) : X.s₀.heap.objs.size ≤ s.heap.objs.size := Nat.le_trans I.ok.above (Nat.le_of_lt I.lt)
theorem Inv.nofs (I : Inv X pins σ H s) {a : Addr} (h : s.heap.objs.size ≤ a) : a ∉ X.fs := fun hb => by
  obtain ⟨_, o, ho, _⟩ := I.ok.funs.mem hb
  exact absurd (Nat.lt_of_lt_of_le (Heap.lt_size ho) (Nat.le_trans I.sz h)) (Nat.lt_irrefl _)
theorem Inv.cne (I : Inv X pins σ H s) : ∀ x c, X.env.cells.lookup x = some c → c ≠ X.env.locals := fun x c e z => by
  obtain ⟨v, o, ho, hd⟩ := I.cell x c e
  obtain ⟨m, ⟨o', es, ep, ho', hd', _⟩, _⟩ := I.loc
  rw [z, ho'] at ho; cases ho; rw [hd'] at hd; cases hd
theorem Inv.funs (I : Inv X pins σ H s) : s.heap.FunFrames X.base X.outer := by
  have all : ∀ (l : List Env), (∀ b ∈ frs l, b ∈ X.fs) → X.s₀.heap.FunFrames X.base l → s.heap.FunFrames X.base l := by
    intro l
    induction l with
    | nil => intro _ _; trivial
    | cons env r ih =>
      intro hs hl
      obtain ⟨hk, ⟨L, o, hf, hn, ho, hd⟩, hr⟩ := hl
      have hL : L ∈ X.fs := hs L (by unfold frs; rw [List.filterMap_cons, hf]; exact List.mem_cons_self)
      obtain ⟨sl, e⟩ := I.base.slot L o ho (I.ok.frf L hL) hL fun z => I.ok.exfs L z hL
      exact ⟨hk, ⟨L, _, hf, hn, e, hd⟩, ih (fun b hb => hs b (by unfold frs; rw [List.filterMap_cons, hf]; exact List.mem_cons_of_mem _ hb)) hr⟩
  exact all X.outer (fun _ hb => hb) I.ok.funs
theorem Inv.stack (I : Inv X pins σ H s) : s.heap.FunFrames X.base X.stack := by
  rcases I.ok.stk with e | ⟨e, hf⟩
  · rw [e]; exact I.funs
  · rw [e]
    obtain ⟨m, hn, _⟩ := I.loc
    refine .cons (by rw [I.ok.kind]; decide) hf hn ?_ I.funs
    exact Heap.get?_none_of_le (Nat.le_trans I.ok.bsz I.ok.above)
theorem Inv.stkSub (I : Inv X pins σ H s) : ∀ b ∈ frs X.stack, b ∈ X.env.locals :: X.fs := fun b hb => by
  rcases I.ok.stk with e | ⟨e, hf⟩
  · rw [e] at hb; exact List.mem_cons_of_mem _ hb
  · rw [e] at hb
    unfold frs at hb
    rw [List.filterMap_cons, hf] at hb
    exact hb
theorem Inv.stkFree (I : Inv X pins σ H s) : ∀ b ∈ frs X.stack, H b = none := fun b hb => by
  rcases List.mem_cons.mp (I.stkSub b hb) with e | hb
  · rw [e]; exact I.free
  · obtain ⟨_, o, ho, _⟩ := I.ok.funs.mem hb
    exact I.base.free b o ho (I.ok.frf b hb) fun z => I.ok.exfs b z hb
theorem Inv.step {g' : Array GenState} {t' : Nat} {d' : Drawn} {ch : List Addr} (I : Inv X pins σ H s)
    (hch : ∀ b ∈ ch, (b ∈ X.ex ∨ X.s₀.heap.objs.size ≤ b) ∧ b ≠ X.env.locals ∧ (∀ x c, X.env.cells.lookup x = some c → c ≠ b) ∧ ∀ p ∈ X.pn ++ pins, p.1 ≠ b)
    (keep : ∀ b o, b ≠ X.env.locals → b ∉ X.fs → b ∉ ch → s.heap.get? b = some o → H b = none → h'.get? b = some o)
    (slot : ∀ b o, b ≠ X.env.locals → b ∈ X.fs → b ∉ ch → s.heap.get? b = some o → H b = none → ∃ sl, h'.get? b = some { o with slots := sl }) (free : ∀ b o, b ∉ ch → s.heap.get? b = some o → H b = none → H' b = none)
    (there : ∀ b o, b ∉ ch → s.heap.get? b = some o → ∃ o', h'.get? b = some o')
    (tups : ∀ b xs, H b = some (.tup xs) → H' b = some (.tup xs)) (frzs : ∀ b o u, H b = some (.frz o u) → H' b = some (.frz o u)) (tbls : ∀ b ps, H b = some (.tbl ps) → ∃ more, H' b = some (.tbl (ps ++ more)))
    (ns : ∀ m, s.heap.Ns X.env.locals m → h'.Ns X.env.locals m) (hok : HOk X.prog X.w H' h') (hg : AllBare g') :
    Inv X pins σ H' { s with heap := h', gens := g', drawn := d', toks := t' } := by
  have neL : ∀ b o, X.s₀.heap.get? b = some o → b ≠ X.env.locals := fun b o e => Nat.ne_of_lt (Nat.lt_of_lt_of_le (Heap.lt_size e) I.ok.above)
  have neC : ∀ b o, X.s₀.heap.get? b = some o → b ∉ X.ex → b ∉ ch := fun b o e hx hb => by
    rcases (hch b hb).1 with z | z
    · exact hx z
    · exact absurd (Nat.lt_of_lt_of_le (Heap.lt_size e) z) (Nat.lt_irrefl _)
  have cellK : ∀ x c, X.env.cells.lookup x = some c → ∀ v, s.heap.IsCell c v → h'.IsCell c v := fun x c e v ⟨o, ho, hd⟩ => by
    have nch : c ∉ ch := fun z => (hch c z).2.2.1 x c e rfl
    by_cases hc : c ∈ X.fs
    · obtain ⟨sl, q⟩ := slot c o (I.cne x c e) hc nch ho (I.freeC x c e)
      exact ⟨_, q, hd⟩
    · exact ⟨o, keep c o (I.cne x c e) hc nch ho (I.freeC x c e), hd⟩
  refine ⟨I.ok, I.os, hg, ⟨fun b o e n hb hx => ?_, fun b o e n hb hx => ?_, fun b o e n hx => ?_, fun b o e hx => ?_, fun b xs e => tups b xs (I.base.tups b xs e), fun b o xs e => frzs b o xs (I.base.frzs b o xs e), fun b ps e => ?_⟩, ?_, fun x c e => ?_, ?_, fun x c e => ?_, fun p hp => ?_, hok, I.len⟩
  · exact keep b o (neL b o e) hb (neC b o e hx) (I.base.keep b o e n hb hx) (I.base.free b o e n hx)
  · obtain ⟨sl, e1⟩ := I.base.slot b o e n hb hx
    obtain ⟨sl', e2⟩ := slot b _ (neL b o e) hb (neC b o e hx) e1 (I.base.free b o e n hx)
    exact ⟨sl', e2⟩
  · obtain ⟨o', e1⟩ := I.base.there b o e hx
    exact free b o' (neC b o e hx) e1 (I.base.free b o e n hx)
  · obtain ⟨o', e1⟩ := I.base.there b o e hx
    exact there b o' (neC b o e hx) e1
  · obtain ⟨m1, e1⟩ := I.base.tbls b ps e
    obtain ⟨m2, e2⟩ := tbls b _ e1
    exact ⟨m1 ++ m2, by rw [e2, Array.append_assoc]⟩
  · obtain ⟨m, hn, hl⟩ := I.loc
    refine ⟨m, ns m hn, fun i x v e1 e2 e3 => ?_⟩
    obtain ⟨u, r, l⟩ := hl i x v e1 e2 e3
    refine ⟨u, r, ?_⟩
    rcases l with l | ⟨k, c, e, z⟩
    · exact .inl l
    · exact .inr ⟨k, c, e, cellK x c e _ z⟩
  · obtain ⟨v, z⟩ := I.cell x c e
    exact ⟨v, cellK x c e v z⟩
  · obtain ⟨m, ⟨o, _, _, ho, _⟩, _⟩ := I.loc
    exact free _ o (fun z => (hch _ z).2.1 rfl) ho I.free
  · obtain ⟨v, o, ho, hd⟩ := I.cell x c e
    exact free c o (fun z => (hch c z).2.2.1 x c e rfl) ho (I.freeC x c e)
  · obtain ⟨e, n, ne, nf, d⟩ := I.pin p hp
    have nch : p.1 ∉ ch := fun z => (hch p.1 z).2.2.2 p hp rfl
    exact ⟨keep p.1 p.2 ne nf nch e n, free p.1 p.2 nch e n, ne, nf, d⟩
theorem Inv.un {t' : Nat} (I : Inv X pins σ H s) (u : Un X.fs [] H H' s.heap h') (hok : HOk X.prog X.w H' h') : Inv X pins σ H' { s with heap := h', toks := t' } := by
  obtain ⟨m, ⟨o, es, ep, ho, r⟩, _⟩ := id I.loc
  obtain ⟨sl, hL⟩ := u.any ho I.free (by simp)
  exact I.step (g' := s.gens) (d' := s.drawn) (ch := []) (fun _ z => nomatch z) (fun b o _ hb _ e n => u.keep b o e n hb (by simp)) (fun b o _ hb _ e n => u.slot b o e n hb (by simp)) (fun b o _ e n => u.free b o e n (by simp)) (fun b o _ e => u.there b o e (by simp)) u.tups u.frzs u.tbls (fun m' hm => by
    obtain ⟨o', es', ep', ho', r'⟩ := hm
    rw [ho] at ho'; cases ho'
    exact ⟨_, es', ep', hL, r'⟩) hok I.bare
theorem Inv.call {g' : Array GenState} {t' : Nat} {d' : Drawn} {ch : List Addr} (I : Inv X pins σ H s) (u : Un (frs X.stack) ch H H' s.heap h') (hok : HOk X.prog X.w H' h') (hg : AllBare g')
    (hch : ∀ b ∈ ch, (b ∈ X.ex ∨ X.s₀.heap.objs.size ≤ b) ∧ b ≠ X.env.locals ∧ (∀ x c, X.env.cells.lookup x = some c → c ≠ b) ∧ ∀ p ∈ X.pn ++ pins, p.1 ≠ b) :
    Inv X pins σ H' { s with heap := h', gens := g', drawn := d', toks := t' } := by
  obtain ⟨m, ⟨o, es, ep, ho, r⟩, _⟩ := id I.loc
  obtain ⟨sl, hL⟩ := u.any ho I.free fun z => (hch _ z).2.1 rfl
  exact I.step (ch := ch) hch (fun b o hL hb hc e n => u.keep b o e n (fun z => (List.mem_cons.mp (I.stkSub b z)).elim hL hb) hc) (fun b o _ _ hc e n => u.any e n hc) (fun b o hc e n => u.free b o e n hc) (fun b o hc e => u.there b o e hc) u.tups u.frzs u.tbls (fun m' hm => by
    obtain ⟨o', es', ep', ho', r'⟩ := hm
    rw [ho] at ho'; cases ho'
    exact ⟨_, es', ep', hL, r'⟩) hok hg
theorem Inv.turned {t' : Nat} {it : Addr} (I : Inv X pins σ H s) (k : ∀ b o, b ≠ it → s.heap.get? b = some o → h'.get? b = some o) (hn : H it = none) (hL : it ≠ X.env.locals)
    (h1 : it ∈ X.ex ∨ X.s₀.heap.objs.size ≤ it) (h2 : ∀ x c, X.env.cells.lookup x = some c → c ≠ it) (h3 : ∀ p ∈ X.pn ++ pins, p.1 ≠ it) : Inv X pins σ H { s with heap := h', toks := t' } := by
  have nit : ∀ b u, H b = some u → b ≠ it := fun b u e z => by rw [z, hn] at e; cases e
  refine I.step (g' := s.gens) (d' := s.drawn) (ch := [it]) (fun b hb => ?_) (fun b o _ _ hc e _ => k b o (fun z => hc (by simp [z])) e) (fun b o _ _ hc e _ => ⟨o.slots, k b o (fun z => hc (by simp [z])) e⟩) (fun _ _ _ _ n => n)
    (fun b o hc e => ⟨o, k b o (fun z => hc (by simp [z])) e⟩) (fun _ _ e => e) (fun _ _ _ e => e) (fun b ps e => ⟨#[], by rw [e]; simp⟩) (fun m hm => ?_) (fun b u e => ?_) I.bare
  · have e : b = it := by simpa using hb
    subst e
    exact ⟨h1, hL, h2, h3⟩
  · obtain ⟨o, es, ep, ho, r⟩ := hm
    exact ⟨o, es, ep, k _ o (Ne.symm hL) ho, r⟩
  · refine (I.hok b u e).stay (fun c v hc q => k c v ?_ q) (fun _ q => q) fun _ _ q => q
    rcases hc with z | z
    · rw [z]; exact nit b u e
    · exact nit c _ z
theorem Inv.tok (I : Inv X pins σ H s) (t : Nat) : Inv X pins σ H { s with toks := t } := I.un (h' := s.heap) (t' := t) Un.refl I.hok
theorem Inv.kept {t' : Nat} (I : Inv X pins σ H s) (k : ∀ b u, s.heap.get? b = some u → h'.get? b = some u) : Inv X pins σ H { s with heap := h', toks := t' } := I.un (Un.kept k) (I.hok.kept k)
theorem Inv.laid {a : Addr} {o : HO} {t' : Nat} (I : Inv X pins σ H s) (k : ∀ b u, s.heap.get? b = some u → h'.get? b = some u) (hp : s.heap.objs.size ≤ a) (new : ObjOk X.prog X.w (upd H a o) h' a o) :
    Inv X pins σ (upd H a o) { s with heap := h', toks := t' } := I.un (Un.laid k hp (I.hok.fresh hp)) (I.hok.laid k hp new)
theorem Inv.write {x e : Addr} {o : HO} {t' : Nat} (I : Inv X pins σ H s) (mu : Mut (H x)) (he : e = x ∨ H e = some (.own x)) (k : ∀ b u, b ≠ e → s.heap.get? b = some u → h'.get? b = some u) (heo : ∃ u, h'.get? e = some u)
    (new : ObjOk X.prog X.w (upd H x o) h' x o) : Inv X pins σ (upd H x o) { s with heap := h', toks := t' } := I.un (Un.write mu he k heo) (I.hok.write mu he k heo new)
theorem Inv.pins_of {pins' : List (Addr × Obj)} (I : Inv X pins σ H s) (h : ∀ p ∈ pins', s.heap.get? p.1 = some p.2 ∧ H p.1 = none ∧ p.1 ≠ X.env.locals ∧ p.1 ∉ X.fs ∧ ∀ v, p.2.data ≠ .cell v) : Inv X pins' σ H s :=
  ⟨I.ok, I.os, I.bare, I.base, I.loc, I.cell, I.free, I.freeC, fun p hp => (List.mem_append.mp hp).elim (fun z => I.pin p (List.mem_append_left _ z)) (h p), I.hok, I.len⟩
theorem nodup_ix {N : List Str} (hN : N.Nodup) {i j : Nat} {x : Str} (a : N[i]? = some x) (b : N[j]? = some x) : i = j := by
  obtain ⟨h1, e1⟩ := List.getElem?_eq_some_iff.mp a
  obtain ⟨h2, e2⟩ := List.getElem?_eq_some_iff.mp b
  exact (List.getElem_inj hN).mp (e1.trans e2.symm)
theorem store_ok2 {M : Model} {A : Around} {E : Value → Shared → Prop} {i : Nat} {x : Str} {v : V} {u : Value} {Q : Unit → Shared → Prop} (I : Inv X pins σ H s) (hN : X.N.Nodup) (hi : X.N[i]? = some x) (hx : Loc X.env.scope x) (r : RelV v u)
    (h : ∀ s', Inv X pins (σ.set i (some v)) H s' → (∃ a, Heap.SameBut a s.heap s'.heap ∧ (a = X.env.locals ∨ X.env.cells.lookup x = some a)) → Q () s') (hf : X.fn x = true ∨ X.env.scope.names.lookup x = some .local := by first | exact .inl rfl | exact .inr rfl | assumption) : wpAny M A (storeName X.env x u) Q E s := by
  obtain ⟨m, hn, hl⟩ := id I.loc
  have hcls : (X.env.scope.kind == .class || (X.env.scope.kind == .module && X.env.locals != X.env.globals)) = false := by rw [I.ok.kind]; rfl
  have hiσ : i < σ.length := by rw [I.len]; exact (List.getElem?_eq_some_iff.mp hi).1
  have cne := I.cne
  have tracked : ∀ {a : Addr} {h' : Heap}, (∃ o, s.heap.get? a = some o ∧ H a = none) → Heap.SameBut a s.heap h' → HOk X.prog X.w H h' := fun {a h'} ha hs b ob e => by
    obtain ⟨_, _, hfree⟩ := ha
    refine (I.hok b ob e).stay (fun c w' hc q => (hs.2 c ?_).trans q) (fun _ q => q) fun _ _ q => q
    rintro rfl
    rcases hc with rfl | hc
    · rw [hfree] at e; cases e
    · rw [hfree] at hc; cases hc
  rcases hx with hk | hk
  · refine wpAny_storeName_local hk hn (fun h' hn' hs => ?_) hcls
    obtain ⟨oL, _, _, hoL, _⟩ := id hn
    refine h _ ⟨I.ok, I.os, I.bare, ⟨fun b o e n hb hx => ?_, fun b o e n hb hx => ?_, I.base.free, fun b o e hx => ?_, I.base.tups, I.base.frzs, I.base.tbls⟩, ⟨_, hn', fun j y v' e1 e2 e3 => ?_⟩, fun y c e => ?_, I.free, I.freeC, fun p hp => ?_, tracked ⟨oL, hoL, I.free⟩ hs, by simpa using I.len⟩ ⟨_, hs, .inl rfl⟩
    · exact (hs.2 b (Nat.ne_of_lt (Nat.lt_of_lt_of_le (Heap.lt_size e) I.ok.above))).trans (I.base.keep b o e n hb hx)
    · obtain ⟨sl, e1⟩ := I.base.slot b o e n hb hx
      exact ⟨sl, (hs.2 b (Nat.ne_of_lt (Nat.lt_of_lt_of_le (Heap.lt_size e) I.ok.above))).trans e1⟩
    · obtain ⟨o', e1⟩ := I.base.there b o e hx
      exact ⟨o', (hs.2 b (Nat.ne_of_lt (Nat.lt_of_lt_of_le (Heap.lt_size e) I.ok.above))).trans e1⟩
    · by_cases hj : j = i
      · subst hj
        rw [hi] at e1; cases e1
        rw [List.getElem?_set_self hiσ] at e2
        cases e2
        exact ⟨u, r, .inl ⟨hk, by simp⟩⟩
      · rw [List.getElem?_set_ne (Ne.symm hj)] at e2
        obtain ⟨u', r', q⟩ := hl j y v' e1 e2 e3
        refine ⟨u', r', ?_⟩
        rcases q with ⟨k, e⟩ | ⟨k, c, e, z⟩
        · refine .inl ⟨k, ?_⟩
          have : y ≠ x := fun e => hj (nodup_ix hN e1 (e ▸ hi))
          simp [this, e]
        · exact .inr ⟨k, c, e, z.sameBut hs (cne y c e)⟩
    · obtain ⟨w', z⟩ := I.cell y c e
      exact ⟨w', z.sameBut hs (cne y c e)⟩
    · obtain ⟨e, n, ne, nf, d⟩ := I.pin p hp
      exact ⟨(hs.2 p.1 ne).trans e, n, ne, nf, d⟩
  · have hfn : X.fn x = true := by
      rcases hf with z | z
      · exact z
      · rw [z] at hk; cases hk
    obtain ⟨c, hc⟩ := I.ok.has x (.inl hk)
    obtain ⟨w', z⟩ := I.cell x c hc
    refine wpAny_storeName_cell I.ok.kind hk hc z (fun h' hc' hs => ?_)
    obtain ⟨oc, hoc, hocd⟩ := id z
    refine h { s with heap := h' } ⟨I.ok, I.os, I.bare, ⟨fun b o e n hb hx => ?_, fun b o e n hb hx => ?_, I.base.free, fun b o e hx => ?_, I.base.tups, I.base.frzs, I.base.tbls⟩, ⟨m, hn.sameBut hs (Ne.symm (cne x c hc)), fun j y v' e1 e2 e3 => ?_⟩, fun y c' e => ?_, I.free, I.freeC, fun p hp => ?_, tracked ⟨oc, hoc, I.freeC x c hc⟩ hs, by simpa using I.len⟩ ⟨c, hs, .inr hc⟩
    · exact (hs.2 b (Nat.ne_of_lt (Nat.lt_of_lt_of_le (Heap.lt_size e) (I.ok.cab x c hfn hc)))).trans (I.base.keep b o e n hb hx)
    · obtain ⟨sl, e1⟩ := I.base.slot b o e n hb hx
      exact ⟨sl, (hs.2 b (Nat.ne_of_lt (Nat.lt_of_lt_of_le (Heap.lt_size e) (I.ok.cab x c hfn hc)))).trans e1⟩
    · obtain ⟨o', e1⟩ := I.base.there b o e hx
      exact ⟨o', (hs.2 b (Nat.ne_of_lt (Nat.lt_of_lt_of_le (Heap.lt_size e) (I.ok.cab x c hfn hc)))).trans e1⟩
    · by_cases hj : j = i
      · subst hj
        rw [hi] at e1; cases e1
        rw [List.getElem?_set_self hiσ] at e2
        cases e2
        exact ⟨u, r, .inr ⟨.inl hk, c, hc, hc'⟩⟩
      · rw [List.getElem?_set_ne (Ne.symm hj)] at e2
        obtain ⟨u', r', q⟩ := hl j y v' e1 e2 e3
        refine ⟨u', r', ?_⟩
        rcases q with q | ⟨k, c', e, z'⟩
        · exact .inl q
        · refine .inr ⟨k, c', e, z'.sameBut hs ?_⟩
          rintro rfl
          exact hj (nodup_ix hN e1 (I.ok.inj _ _ _ e hc ▸ hi))
    · by_cases hcc : c' = c
      · subst hcc; exact ⟨_, hc'⟩
      · obtain ⟨w2, z2⟩ := I.cell y c' e
        exact ⟨w2, z2.sameBut hs hcc⟩
    · obtain ⟨e, n, ne, nf, d⟩ := I.pin p hp
      refine ⟨(hs.2 p.1 ?_).trans e, n, ne, nf, d⟩
      intro q
      rw [q, hoc] at e
      have q' : oc = p.2 := Option.some.inj e
      exact d w' (by rw [← q']; exact hocd)
theorem store_ok {M : Model} {A : Around} {E : Value → Shared → Prop} {i : Nat} {x : Str} {v : V} {u : Value} {Q : Unit → Shared → Prop} (I : Inv X pins σ H s) (hN : X.N.Nodup) (hi : X.N[i]? = some x) (hx : Loc X.env.scope x) (r : RelV v u)
    (h : ∀ s', Inv X pins (σ.set i (some v)) H s' → Q () s') (hf : X.fn x = true ∨ X.env.scope.names.lookup x = some .local := by first | exact .inl rfl | exact .inr rfl | assumption) : wpAny M A (storeName X.env x u) Q E s :=
  store_ok2 I hN hi hx r (fun s' I' _ => h s' I') hf
theorem Inv.call' {s' : Shared} {ch : List Addr} (I : Inv X pins σ H s) (ho : s'.os = s.os) (u : Un (frs X.stack) ch H H' s.heap s'.heap) (hok : HOk X.prog X.w H' s'.heap) (hg : AllBare s'.gens)
    (hch : ∀ b ∈ ch, (b ∈ X.ex ∨ X.s₀.heap.objs.size ≤ b) ∧ b ≠ X.env.locals ∧ (∀ x c, X.env.cells.lookup x = some c → c ≠ b) ∧ ∀ p ∈ X.pn ++ pins, p.1 ≠ b) : Inv X pins σ H' s' := by
  obtain ⟨h', g', d', t', o'⟩ := s'
  have e : o' = s.os := ho
  subst e
  exact I.call (g' := g') (t' := t') (d' := d') u hok hg hch
end
abbrev XK := Value → Option Addr → Hp → Prop
abbrev St := List (Option V)
abbrev VK := V → Hp → Prop
abbrev TE := St → Hp → VK → Prop
abbrev TT := St → Hp → (Bool → Hp → Prop) → Prop
abbrev TA := St → Hp → (List V → Hp → Prop) → Prop
structure Ends where
  nx : St → Hp → Prop
  rt : VK
  bk : St → Hp → Prop := fun _ _ => False
  ct : St → Hp → Prop := fun _ _ => False
abbrev TS := Ends → St → Hp → Prop
def EP (X : Cx) (pins : List (Addr × Obj)) (σ : St) (Q : VK) (u : Value) (s' : Shared) : Prop := ∃ v H', Inv X pins σ H' s' ∧ RelV v u ∧ Q v H'
def TP (X : Cx) (pins : List (Addr × Obj)) (σ : St) (Q : Bool → Hp → Prop) (b : Bool) (s' : Shared) : Prop := ∃ H', Inv X pins σ H' s' ∧ Q b H'
def AP (X : Cx) (pins : List (Addr × Obj)) (σ : St) (Q : List V → Hp → Prop) (us : List Value) (s' : Shared) : Prop := ∃ vs H', Inv X pins σ H' s' ∧ Vals vs us ∧ Q vs H'
def SP (X : Cx) (pins : List (Addr × Obj)) (D : Ends) (f : Flow) (s' : Shared) : Prop :=
  match f with
  | .next => ∃ σ' H', Inv X pins σ' H' s' ∧ D.nx σ' H'
  | .brk => ∃ σ' H', Inv X pins σ' H' s' ∧ D.bk σ' H'
  | .cont => ∃ σ' H', Inv X pins σ' H' s' ∧ D.ct σ' H'
  | .ret u => ∃ v σ' H', Inv X pins σ' H' s' ∧ RelV v u ∧ D.rt v H'
def PE (X : Cx) (e : Expr) (t : TE) : Prop :=
  ∀ (pins : List (Addr × Obj)) (s : Shared) (σ : St) (H : Hp) (Q : VK), Inv X pins σ H s → t σ H Q → wpAny (model X.prog X.w) X.A (eval e X.env) (EP X pins σ Q) X.xe s
def PT (X : Cx) (e : Expr) (t : TT) : Prop :=
  ∀ (pins : List (Addr × Obj)) (s : Shared) (σ : St) (H : Hp) (Q : Bool → Hp → Prop), Inv X pins σ H s → t σ H Q → wpAny (model X.prog X.w) X.A (isTrue e X.env (eval e X.env)) (TP X pins σ Q) X.xe s
def PW (X : Cx) (e : Expr) (t : TT) : Prop :=
  ∀ (whole : Sem Value) (pins : List (Addr × Obj)) (s : Shared) (σ : St) (H : Hp) (Q : Bool → Hp → Prop), Inv X pins σ H s → t σ H Q → wpAny (model X.prog X.w) X.A (isTrue e X.env whole) (TP X pins σ Q) X.xe s
theorem PW.pt {X : Cx} {e : Expr} {t : TT} (h : PW X e t) : PT X e t := h _
def PA (X : Cx) (es : List Expr) (t : TA) : Prop :=
  ∀ (pos : Pos) (pins : List (Addr × Obj)) (s : Shared) (σ : St) (H : Hp) (Q : List V → Hp → Prop), Inv X pins σ H s → t σ H Q → wpAny (model X.prog X.w) X.A (spliced (backTo pos (starEach es X.env))) (AP X pins σ Q) X.xe s
def PS (X : Cx) (st : Stmt) (t : TS) : Prop :=
  ∀ (pins : List (Addr × Obj)) (s : Shared) (σ : St) (H : Hp) (D : Ends), Inv X pins σ H s → t D σ H → wpAny (model X.prog X.w) X.A (exec st X.env) (SP X pins D) X.xe s
def PSs (X : Cx) (st : List Stmt) (t : TS) : Prop :=
  ∀ (pins : List (Addr × Obj)) (s : Shared) (σ : St) (H : Hp) (D : Ends), Inv X pins σ H s → t D σ H → wpAny (model X.prog X.w) X.A (execs st X.env) (SP X pins D) X.xe s
theorem thn {α : Type} {t : Sem α} {Q Q' : α → Shared → Prop} {M : Model} {A : Around} {E : Value → Shared → Prop} {s : Shared} (h : wpAny M A t Q E s) (hQ : ∀ a s, Q a s → Q' a s) : wpAny M A t Q' E s := wpAny_mono h hQ fun _ _ x => x
end L2
namespace L2
open PySem PySem.Spec PyProof.Rows
section
variable {X : Cx}
def tVar (i : Nat) : TE := fun σ H Q => ∃ v, σ[i]? = some (some v) ∧ Q v H
def tC (v : V) : TE := fun _ H Q => Q v H
theorem pe_var {i : Nat} {x : Str} {pos : Pos} (hN : X.N[i]? = some x) (hv : Vis X.env.scope x) (hd : (x == ("__debug__" : Str)) = false := by decide) (hcd : (x == ("__classdict__" : Str)) = false := by decide) : PE X (.Name x pos) (tVar i) := by
  intro pins s σ H Q I h
  obtain ⟨v, e, h⟩ := h
  obtain ⟨m, hn, hl⟩ := I.loc
  obtain ⟨u, r, l⟩ := hl i x v hN e hv
  have fin : EP X pins σ Q u s := ⟨v, H, I, r, h⟩
  rcases l with ⟨hk, hm⟩ | ⟨hk, c, hc, hcell⟩
  · exact wpAny_Name (wpAny_loadName_local I.ok.kind hk hn hm fin) hd
  · rcases hk with hk | hk
    · exact wpAny_Name (wpAny_loadName_cell I.ok.kind hk hc hcell fin) hd
    · exact wpAny_Name (wpAny_loadName_free I.ok.kind hk hc hcell fin hcd) hd
theorem pe_int {i j pos} : PE X (.Constant (.int i) j pos) (tC (.int i)) := fun _ _ _ H _ I h => wpAny_Constant_int ⟨.int i, H, I.tok _, ⟨_, rfl⟩, h⟩
theorem pe_bl {b j pos} : PE X (.Constant (.bool b) j pos) (tC (.bl b)) := fun _ _ _ H _ I h => Constant_bool ⟨.bl b, H, I, rfl, h⟩
theorem pe_non {j pos} : PE X (.Constant .none j pos) (tC .non) := fun _ _ _ H _ I h => Constant_none ⟨.non, H, I, rfl, h⟩
theorem pe_str {x j pos} : PE X (.Constant (.str x) j pos) (tC (.str x)) := fun _ _ _ H _ I h => Calls.Constant_str ⟨.str x, H, I.tok _, ⟨_, rfl⟩, h⟩
def Gl (X : Cx) (x : Str) : Prop := X.env.kindOf x = some .globalImplicit
theorem ld_glob {E : Value → Shared → Prop} {pins : List (Addr × Obj)} {s : Shared} {σ : St} {H : Hp} {x : Str} {u : Value} {pos : Pos} {Q : Value → Shared → Prop} (I : Inv X pins σ H s) (hg : Gl X x) (hm : X.mg x = some u) (h : Q u s)
    (hd : (x == ("__debug__" : Str)) = false := by decide) : wpAny (model X.prog X.w) X.A (eval (.Name x pos) X.env) Q E s :=
  Calls.Name_function_global I.ok.kind hg (Calls.loadGlobal_global (by rw [I.ok.glob]; exact I.mod.glob.keeps I.bk) hm h) hd
theorem ld_blt {E : Value → Shared → Prop} {pins : List (Addr × Obj)} {s : Shared} {σ : St} {H : Hp} {x : Str} {u : Value} {pos : Pos} {Q : Value → Shared → Prop} (I : Inv X pins σ H s) (hg : Gl X x) (hm : X.mg x = none) (hv : bootBuiltins x = some u) (h : Q u s)
    (hn : x ≠ "__name__" := by decide) (hd : (x == ("__debug__" : Str)) = false := by decide) : wpAny (model X.prog X.w) X.A (eval (.Name x pos) X.env) Q E s := by
  obtain ⟨mb, h1, h2⟩ := I.mod.blt
  exact Calls.Name_function_global I.ok.kind hg (Calls.loadGlobal_builtin (by rw [I.ok.glob]; exact I.mod.glob.keeps I.bk) hm (by rw [I.ok.blt]; exact h1.keeps I.bk) ((h2 x hn).trans hv) h) hd
theorem pe_bltn {x : Str} {v : V} {u : Value} {pos : Pos} (hg : Gl X x) (hm : X.mg x = none) (hv : bootBuiltins x = some u) (r : RelV v u) (hn : x ≠ "__name__" := by decide) (hd : (x == ("__debug__" : Str)) = false := by decide) : PE X (.Name x pos) (tC v) :=
  fun _ _ _ H _ I h => ld_blt I hg hm hv ⟨v, H, I, r, h⟩ hn hd
variable {a b : Expr} {ta tb : TE} {pos : Pos}
def tB (t : TE) : TT := fun σ H Q => t σ H fun x H1 => ∃ c, x = .bl c ∧ Q c H1
theorem pt_val {e : Expr} {t : TE} (h : PE X e t) (he : ∀ whole, isTrue e X.env whole = (do let v ← whole; standAt e.pos; holding [v] (truthy v)) := by intro _; rfl) : PT X e (tB t) := by
  intro pins s σ H Q I hw
  refine isTrue_plain (thn (h pins s σ H _ I hw) fun v s1 ⟨x, H1, I1, r1, q1⟩ => ?_) (he _)
  obtain ⟨d, rfl, q⟩ := q1
  cases r1
  exact wpAny_truthy_bool ⟨H1, I1, q⟩
variable {tA tB' : TT} {rest : List Expr}
def tAnd (t u : TT) : TT := fun σ H Q => t σ H fun c H1 => if c = true then u σ H1 Q else Q false H1
def tOr (t u : TT) : TT := fun σ H Q => t σ H fun c H1 => if c = true then Q true H1 else u σ H1 Q
def tNot (t : TT) : TT := fun σ H Q => t σ H fun c H1 => Q (!c) H1
theorem pw_and1 (ha : PT X a tA) : PW X (.BoolOp .And [a] pos) tA := by
  intro wh pins s σ H Q I h
  refine isTrue_and (thn (ha pins s σ H Q I h) fun c s1 e => ?_)
  cases c with
  | true => exact isTrue_and_nil e
  | false => exact e
theorem pw_or1 (ha : PT X a tA) : PW X (.BoolOp .Or [a] pos) tA := by
  intro wh pins s σ H Q I h
  refine isTrue_or (thn (ha pins s σ H Q I h) fun c s1 e => ?_)
  cases c with
  | false => exact isTrue_or_nil e
  | true => exact e
theorem pw_and (ha : PT X a tA) (hb : PW X (.BoolOp .And (b :: rest) pos) tB') : PW X (.BoolOp .And (a :: b :: rest) pos) (tAnd tA tB') := by
  intro wh pins s σ H Q I h
  refine isTrue_and (thn (ha pins s σ H _ I h) fun c s1 ⟨H1, I1, q1⟩ => ?_)
  cases c with
  | true => exact hb wh pins s1 σ H1 Q I1 q1
  | false => exact ⟨H1, I1, q1⟩
theorem pw_or (ha : PT X a tA) (hb : PW X (.BoolOp .Or (b :: rest) pos) tB') : PW X (.BoolOp .Or (a :: b :: rest) pos) (tOr tA tB') := by
  intro wh pins s σ H Q I h
  refine isTrue_or (thn (ha pins s σ H _ I h) fun c s1 ⟨H1, I1, q1⟩ => ?_)
  cases c with
  | true => exact ⟨H1, I1, q1⟩
  | false => exact hb wh pins s1 σ H1 Q I1 q1
theorem pt_not (ha : PT X a tA) : PT X (.UnaryOp .Not a pos) (tNot tA) := by
  intro pins s σ H Q I h
  exact isTrue_not (ha pins s σ H (fun c H1 => Q (!c) H1) I h)
def tAndV (ta tb : TE) : TE := fun σ H Q => ta σ H fun x H1 => ∃ c, x = .bl c ∧ if c = true then tb σ H1 Q else Q (.bl false) H1
def tOrV (ta tb : TE) : TE := fun σ H Q => ta σ H fun x H1 => ∃ c, x = .bl c ∧ if c = true then Q (.bl true) H1 else tb σ H1 Q
def tNotV (ta : TE) : TE := fun σ H Q => ta σ H fun x H1 => ∃ c, x = .bl c ∧ Q (.bl (!c)) H1
theorem pe_one {op} {t : TE} (h : PE X a t) : PE X (.BoolOp op [a] pos) t := fun pins s σ H Q I hw => BoolOp_one (h pins s σ H Q I hw)
theorem pe_and (ha : PE X a ta) (hb : PE X (.BoolOp .And (b :: rest) pos) tb) : PE X (.BoolOp .And (a :: b :: rest) pos) (tAndV ta tb) := by
  intro pins s σ H Q I h
  refine BoolOp_and (thn (ha pins s σ H _ I h) fun v s1 ⟨x, H1, I1, r1, q1⟩ => ?_)
  obtain ⟨c, rfl, q1⟩ := q1
  cases r1
  refine wpAny_truthy_bool ?_
  cases c with
  | true => exact hb pins s1 σ H1 Q I1 q1
  | false => exact ⟨.bl false, H1, I1, rfl, q1⟩
theorem pe_or (ha : PE X a ta) (hb : PE X (.BoolOp .Or (b :: rest) pos) tb) : PE X (.BoolOp .Or (a :: b :: rest) pos) (tOrV ta tb) := by
  intro pins s σ H Q I h
  refine BoolOp_or (thn (ha pins s σ H _ I h) fun v s1 ⟨x, H1, I1, r1, q1⟩ => ?_)
  obtain ⟨c, rfl, q1⟩ := q1
  cases r1
  refine wpAny_truthy_bool ?_
  cases c with
  | false => exact hb pins s1 σ H1 Q I1 q1
  | true => exact ⟨.bl true, H1, I1, rfl, q1⟩
theorem pe_not (ha : PE X a ta) : PE X (.UnaryOp .Not a pos) (tNotV ta) := by
  intro pins s σ H Q I h
  refine UnaryOp_ (thn (ha pins s σ H _ I h) fun v s1 ⟨x, H1, I1, r1, q1⟩ => ?_)
  obtain ⟨c, rfl, q1⟩ := q1
  cases r1
  exact not_of (wpAny_truthy_bool ⟨.bl (!c), H1, I1, rfl, q1⟩)
end
end L2
namespace L2
open PySem PySem.Spec PyProof.Rows
def SqL (K : PySem.W.Frag) (H : Hp) (a : Addr) (xs : List V) : Prop :=
  Rd H a (.lst xs) ∨
    ∃ (o : Obj) (its : Array Value) (n : Nat), K.lookup a = some o ∧ o.cls = .type "list" ∧ o.dict = none ∧ o.data = .seq its n ∧ its.size ≤ sizeLine ∧ Vals xs its.toList
def SqT (K : PySem.W.Frag) (H : Hp) (a : Addr) (xs : List V) : Prop :=
  Rd H a (.tup xs) ∨
    ∃ (o : Obj) (its : Array Value) (n : Nat), K.lookup a = some o ∧ o.cls = .type "tuple" ∧ o.data = .seq its n ∧ its.size ≤ sizeLine ∧ Vals xs its.toList
def absV : Value → Option V
  | .none => some .non
  | .bool b => some (.bl b)
  | .int i _ => some (.int i)
  | .str x _ => some (.str x)
  | .bytes b _ => some (.byt b)
  | .float b _ => some (.flt b)
  | .ref a => some (.ref a)
  | .type n => some (.ty n)
  | _ => none
theorem RelV.abs {x : V} {u : Value} (r : RelV x u) : absV u = some x := by
  cases x with
  | non => cases r; rfl
  | bl _ => cases r; rfl
  | int _ => obtain ⟨t, rfl⟩ := r; rfl
  | str _ => obtain ⟨t, rfl⟩ := r; rfl
  | byt _ => obtain ⟨t, rfl⟩ := r; rfl
  | flt _ => obtain ⟨t, rfl⟩ := r; rfl
  | ref _ => cases r; rfl
  | ty _ => cases r; rfl
theorem RelV.inj {x y : V} {u : Value} (r : RelV x u) (q : RelV y u) : x = y := Option.some.inj (r.abs.symm.trans q.abs)
theorem Vals.inj : ∀ {xs ys : List V} {us : List Value}, Vals xs us → Vals ys us → xs = ys
  | _, _, _, .nil, .nil => rfl
  | _, _, _, .cons r t, .cons r' t' => by rw [r.inj r', Vals.inj t t']
section
variable {X : Cx} {pins : List (Addr × Obj)} {σ : St} {H : Hp} {s : Shared} {a : Addr} {xs ys : List V}
theorem SqL.of {K : PySem.W.Frag} (h : H a = some (.lst xs)) : SqL K H a xs := .inl (.inl h)
theorem SqT.of {K : PySem.W.Frag} (h : H a = some (.tup xs)) : SqT K H a xs := .inl (.inl h)
theorem Inv.list (I : Inv X pins σ H s) (h : SqL X.K H a xs) : ∃ its : List Value, Vals xs its ∧ PlainL s.heap a its.toArray ∧ xs.length ≤ sizeLine := by
  rcases h with h | ⟨o, its, n, hk, hc, hd, hs, hz, r⟩
  · obtain ⟨z, its, n, r, e⟩ := h.ok I.hok
    exact ⟨its, r, ⟨_, n, e, rfl, rfl, rfl⟩, z⟩
  · refine ⟨its.toList, r, ⟨o, n, I.kIn a o hk, hc, hd, by simpa using hs⟩, ?_⟩
    have e := r.length
    simp only [Array.length_toList] at e
    omega
theorem Inv.tuple (I : Inv X pins σ H s) (h : SqT X.K H a xs) : ∃ its : List Value, Vals xs its ∧ IsTup s.heap a its.toArray ∧ xs.length ≤ sizeLine := by
  rcases h with h | ⟨o, its, n, hk, hc, hs, hz, r⟩
  · obtain ⟨z, its, r, p⟩ := h.ok I.hok
    exact ⟨its, r, p, z⟩
  · refine ⟨its.toList, r, ⟨o, I.kIn a o hk, hc, n, by simpa using hs⟩, ?_⟩
    have e := r.length
    simp only [Array.length_toList] at e
    omega
theorem Inv.list_inj (I : Inv X pins σ H s) (h : SqL X.K H a xs) (h' : SqL X.K H a ys) : xs = ys := by
  obtain ⟨its, r, ⟨o, n, e, _, _, d⟩, _⟩ := I.list h
  obtain ⟨its', r', ⟨o', n', e', _, _, d'⟩, _⟩ := I.list h'
  rw [e] at e'; cases e'
  rw [d] at d'
  injection d' with d1 _
  have : its = its' := by simpa using congrArg Array.toList d1
  subst this
  exact r.inj r'
theorem Inv.tuple_inj (I : Inv X pins σ H s) (h : SqT X.K H a xs) (h' : SqT X.K H a ys) : xs = ys := by
  obtain ⟨its, r, ⟨o, e, _, n, d⟩, _⟩ := I.tuple h
  obtain ⟨its', r', ⟨o', e', _, n', d'⟩, _⟩ := I.tuple h'
  rw [e] at e'; cases e'
  rw [d] at d'
  injection d' with d1 _
  have : its = its' := by simpa using congrArg Array.toList d1
  subst this
  exact r.inj r'
end
abbrev Cx.wish (X : Cx) (E : Value → Shared → Prop) : Cx := { X with xe := E }
abbrev Cx.nox (X : Cx) : Cx := X.wish fun _ _ => False
theorem Cx.Ok.wish {X : Cx} (ok : X.Ok) (E : Value → Shared → Prop) : (X.wish E).Ok :=
  ⟨ok.mod, ok.kind, ok.glob, ok.blt, ok.above, ok.inj, ok.has, ok.cab, ok.hd, ok.frames, ok.stk, ok.exf, ok.bs, ok.bsz, ok.noex, ok.exfs, ok.funs, ok.frf⟩
theorem Cx.Ok.unwish {X : Cx} {E : Value → Shared → Prop} (ok : (X.wish E).Ok) : X.Ok :=
  ⟨ok.mod, ok.kind, ok.glob, ok.blt, ok.above, ok.inj, ok.has, ok.cab, ok.hd, ok.frames, ok.stk, ok.exf, ok.bs, ok.bsz, ok.noex, ok.exfs, ok.funs, ok.frf⟩
section
variable {X : Cx} {pins : List (Addr × Obj)} {σ : St} {H : Hp} {s : Shared} {E : Value → Shared → Prop}
theorem Inv.wish (I : Inv X pins σ H s) (E : Value → Shared → Prop) : Inv (X.wish E) pins σ H s := ⟨I.ok.wish E, I.os, I.bare, I.base, I.loc, I.cell, I.free, I.freeC, I.pin, I.hok, I.len⟩
theorem Inv.unwish (I : Inv (X.wish E) pins σ H s) : Inv X pins σ H s := ⟨I.ok.unwish, I.os, I.bare, I.base, I.loc, I.cell, I.free, I.freeC, I.pin, I.hok, I.len⟩
theorem SP.unwish {D : Ends} {f : Flow} {s' : Shared} (h : SP (X.wish E) pins D f s') : SP X pins D f s' := by
  cases f with
  | next => obtain ⟨σ', H', I, q⟩ := h; exact ⟨σ', H', I.unwish, q⟩
  | brk => obtain ⟨σ', H', I, q⟩ := h; exact ⟨σ', H', I.unwish, q⟩
  | cont => obtain ⟨σ', H', I, q⟩ := h; exact ⟨σ', H', I.unwish, q⟩
  | ret u => obtain ⟨v, σ', H', I, r, q⟩ := h; exact ⟨v, σ', H', I.unwish, r, q⟩
theorem PE.nox {e : Expr} {t : TE} (h : PE X.nox e t) : PE X e t := fun pins s σ H Q I hw =>
  wpAny_mono (h pins s σ H Q (I.wish _) hw) (fun _ _ ⟨v, H', I', r, q⟩ => ⟨v, H', I'.unwish, r, q⟩) fun _ _ z => False.elim z
theorem PT.nox {e : Expr} {t : TT} (h : PT X.nox e t) : PT X e t := fun pins s σ H Q I hw =>
  wpAny_mono (h pins s σ H Q (I.wish _) hw) (fun _ _ ⟨H', I', q⟩ => ⟨H', I'.unwish, q⟩) fun _ _ z => False.elim z
theorem PSs.nox {st : List Stmt} {t : TS} (h : PSs X.nox st t) : PSs X st t := fun pins s σ H D I hw =>
  wpAny_mono (h pins s σ H D (I.wish _) hw) (fun _ _ q => q.unwish) fun _ _ z => False.elim z
end
section
variable {X : Cx} {st : Stmt} {rest : List Stmt} {t u : TS} {e : Expr} {te : TE} {pos : Pos}
def tNext : TS := fun D σ H => D.nx σ H
def tSeq (t u : TS) : TS := fun D σ H => t { D with nx := u D } σ H
theorem pss_nil : PSs X [] tNext := fun _ _ σ H _ I h => wpAny_execs_nil ⟨σ, H, I, h⟩
theorem pss_cons (h1 : PS X st t) (h2 : PSs X rest u) : PSs X (st :: rest) (tSeq t u) := by
  intro pins s σ H D I h
  refine wpAny_execs_cons (thn (h1 pins s σ H { D with nx := u D } I h) fun f s1 q => ?_)
  cases f with
  | next =>
    obtain ⟨σ', H', I', q⟩ := q
    exact h2 pins s1 σ' H' D I' q
  | ret v => exact q
  | brk => exact q
  | cont => exact q
theorem pss_one (h1 : PS X st t) : PSs X [st] t := by
  intro pins s σ H D I h
  refine wpAny_execs_cons (thn (h1 pins s σ H D I h) fun f s1 q => ?_)
  cases f with
  | next => exact wpAny_execs_nil q
  | ret v => exact q
  | brk => exact q
  | cont => exact q
theorem Inv.quiet {pins : List (Addr × Obj)} {σ : St} {H : Hp} {s : Shared} (I : Inv X pins σ H s) : interactive X.env = false := by simp [interactive, I.ok.kind]
def tDrop (te : TE) : TS := fun D σ H => te σ H fun _ H1 => D.nx σ H1
theorem ps_expr (he : PE X e te) (hs : swapsWith e none pos.line X.env = pure false := by rfl) : PS X (.Expr e pos) (tDrop te) := by
  intro pins s σ H D I h
  exact wpAny_Expr_any (thn (he pins s σ H _ I h) fun v s1 ⟨x, H1, I1, r1, q1⟩ => ⟨σ, H1, I1, q1⟩) I.quiet hs
def tRet (te : TE) : TS := fun D σ H => te σ H D.rt
theorem ps_ret (he : PE X e te) : PS X (.Return (some e) pos) (tRet te) := by
  intro pins s σ H D I h
  exact wpAny_Return_some (thn (he pins s σ H _ I h) fun v s1 ⟨x, H1, I1, r1, q1⟩ => ⟨x, σ, H1, I1, r1, q1⟩)
def tIfS (c : TT) (t u : TS) : TS := fun D σ H => c σ H fun b H1 => if b = true then t D σ H1 else u D σ H1
theorem ps_if {c : Expr} {a b : List Stmt} {tc : TT} (hc : PT X c tc) (ha : PSs X a t) (hb : PSs X b u) : PS X (.If c a b pos) (tIfS tc t u) := by
  intro pins s σ H D I h
  refine wpAny_If (thn (hc pins s σ H _ I h) fun d s1 ⟨H1, I1, q1⟩ => ?_)
  cases d with
  | true => exact ha pins s1 σ H1 D I1 q1
  | false => exact hb pins s1 σ H1 D I1 q1
def tNever : TS := fun _ _ _ => False
theorem ps_never : PS X st tNever := fun _ _ _ _ _ _ h => h.elim
end
abbrev TG := V → St → Hp → (St → Hp → Prop) → Prop
abbrev TGs := List V → St → Hp → (St → Hp → Prop) → Prop
def PG (X : Cx) (target : Expr) (t : TG) : Prop :=
  ∀ (pins : List (Addr × Obj)) (s : Shared) (σ : St) (H : Hp) (v : V) (u : Value) (Q : St → Hp → Prop), Inv X pins σ H s → RelV v u → t v σ H Q →
    wpAny (model X.prog X.w) X.A (assign target X.env u) (fun _ s' => ∃ σ' H', Inv X pins σ' H' s' ∧ Q σ' H') X.xe s
def PGs (X : Cx) (ts : List Expr) (t : TGs) : Prop :=
  ∀ (pins : List (Addr × Obj)) (s : Shared) (σ : St) (H : Hp) (vs : List V) (us : List Value) (Q : St → Hp → Prop), Inv X pins σ H s → Vals vs us → t vs σ H Q →
    wpAny (model X.prog X.w) X.A (assignInOrder ((assignEach ts X.env).map (·.2)) us) (fun _ s' => ∃ σ' H', Inv X pins σ' H' s' ∧ Q σ' H') X.xe s
abbrev TSet := V → V → V → Hp → (Hp → Prop) → Prop
def PSet (X : Cx) (t : TSet) : Prop :=
  ∀ (pins : List (Addr × Obj)) (s : Shared) (σ : St) (H : Hp) (o i v : V) (ov iv u : Value) (Q : Hp → Prop), Inv X pins σ H s → RelV o ov → RelV i iv → RelV v u → t o i v H Q →
    wpAny (model X.prog X.w) X.A (setItem ov iv u) (fun _ s' => ∃ H', Inv X pins σ H' s' ∧ Q H') X.xe s
section
variable {X : Cx} {pos : Pos}
def gName (i : Nat) : TG := fun v σ H Q => Q (σ.set i (some v)) H
theorem pg_name {i : Nat} {x : Str} (hN : X.N.Nodup) (hi : X.N[i]? = some x) (hx : Loc X.env.scope x) (hf : X.fn x = true ∨ X.env.scope.names.lookup x = some .local := by first | exact .inl rfl | exact .inr rfl | assumption) : PG X (.Name x pos) (gName i) := by
  intro pins s σ H v u Q I r h
  exact wpAny_assign_Name (store_ok I hN hi hx r (fun s' I' => ⟨_, H, I', h⟩) hf)
def gNil : TGs := fun vs σ H Q => vs = [] ∧ Q σ H
def gCons (t : TG) (u : TGs) : TGs := fun vs σ H Q => ∃ v r, vs = v :: r ∧ t v σ H fun σ' H' => u r σ' H' Q
theorem pgs_nil : PGs X [] gNil := by
  intro pins s σ H vs us Q I r h
  obtain ⟨e, h⟩ := h
  subst e
  cases r
  exact assignInOrder_nil ⟨σ, H, I, h⟩
theorem pgs_cons {e : Expr} {es : List Expr} {t : TG} {u : TGs} (h1 : PG X e t) (h2 : PGs X es u)
    (hs : (assignEach (e :: es) X.env).map (·.2) = assign e X.env :: (assignEach es X.env).map (·.2) := by rfl) : PGs X (e :: es) (gCons t u) := by
  intro pins s σ H vs us Q I r h
  obtain ⟨v, vr, e1, h⟩ := h
  subst e1
  cases r with
  | cons r rr =>
    rw [hs]
    refine assignInOrder_cons (thn (h1 pins s σ H _ _ _ I r h) fun _ s1 ⟨σ1, H1, I1, q1⟩ => ?_)
    exact h2 pins s1 σ1 H1 _ _ Q I1 rr q1
def gTup (K : PySem.W.Frag) (n : Nat) (t : TGs) : TG := fun v σ H Q => ∃ a xs, v = .ref a ∧ SqT K H a xs ∧ xs.length = n ∧ t xs σ H Q
theorem pg_tup {es : List Expr} {k : Nat} {t : TGs} {n : Nat} (hc : X.calm = true) (h : PGs X es t)
    (hn : (assignEach es X.env).length = n := by rfl) (hst : (assignEach es X.env).findIdx? (·.1) = none := by rfl) : PG X (.Tuple es k pos) (gTup X.K n t) := by
  intro pins s σ H v u Q I r hw
  obtain ⟨a, xs, e1, hq, hl, hw⟩ := hw
  subst e1
  cases r
  obtain ⟨its, rv, ht, hz⟩ := I.tuple hq
  refine assign_Tuple_tuple (I.ok.hd hc) ht (by simp [hn, ← hl, rv.length]) hst fun h' hx => ?_
  have I1 : Inv X pins σ H { s with heap := h' } := I.kept (t' := s.toks) fun b o e => hx b o (Nat.ne_of_lt (Heap.lt_size e)) e
  exact h pins _ σ H xs _ Q I1 (by simpa using rv) hw
def gSub (to ti : TE) (t : TSet) : TG := fun v σ H Q => to σ H fun o H1 => ti σ H1 fun i H2 => t o i v H2 fun H3 => Q σ H3
theorem pg_sub {o i : Expr} {to ti : TE} {t : TSet} (ho : PE X o to) (hi : PE X i ti) (hs : PSet X t)
    (ha : ∀ v, assign (.Subscript o i pos) X.env v = (do
      let ov ← holding [v] (eval o X.env)
      let iv ← holding [v, ov] (eval i X.env)
      standAt pos
      holding [v, ov, iv] (setItem ov iv v)
      release [v, ov, iv] []) := by intro _; rfl) : PG X (.Subscript o i pos) (gSub to ti t) := by
  intro pins s σ H v u Q I r h
  rw [ha]
  refine wpAny_bind (wpAny_holding (thn (ho pins s σ H _ I h) fun ov s1 ⟨x, H1, I1, r1, q1⟩ => ?_))
  refine wpAny_bind (wpAny_holding (thn (hi pins s1 σ H1 _ I1 q1) fun iv s2 ⟨y, H2, I2, r2, q2⟩ => ?_))
  refine wpAny_bind (wpAny_standAt (wpAny_bind (wpAny_holding (thn (hs pins s2 σ H2 x y v ov iv u _ I2 r1 r2 r q2) fun _ s3 ⟨H3, I3, q3⟩ => ?_))))
  exact wpAny_release ⟨σ, H3, I3, q3⟩
def tAsg (te : TE) (g : TG) : TS := fun D σ H => te σ H fun x H1 => g x σ H1 D.nx
theorem ps_asg {tg e : Expr} {te : TE} {g : TG} (he : PE X e te) (hg : PG X tg g) (hs : swapsWithSole [tg] e pos.line X.env = pure false := by rfl) (hw : swappedStores [tg] e X.env = pure none := by rfl)
    (h1 : (assignEach [tg] X.env).map (·.2) = [assign tg X.env] := by rfl) : PS X (.Assign [tg] e pos) (tAsg te g) := by
  intro pins s σ H D I h
  refine wpAny_Assign_stores (thn (he pins s σ H _ I h) fun v s1 ⟨x, H1, I1, r1, q1⟩ => ?_) hs hw
  rw [h1]
  exact thn (hg pins s1 σ H1 x v _ I1 r1 q1) fun _ s2 q => q
theorem ps_set {i : Nat} {x : Str} {e : Expr} {te : TE} {pos' : Pos} (hN : X.N.Nodup) (hi : X.N[i]? = some x) (hx : Loc X.env.scope x) (he : PE X e te) (hs : swapsWith e (some (.Name x pos')) pos.line X.env = pure false := by rfl) (hf : X.fn x = true ∨ X.env.scope.names.lookup x = some .local := by first | exact .inl rfl | exact .inr rfl | assumption) :
    PS X (.Assign [.Name x pos'] e pos) (tAsg te (gName i)) := by
  intro pins s σ H D I h
  refine wpAny_Assign_Name (thn (he pins s σ H _ I h) fun v s1 ⟨y, H1, I1, r1, q1⟩ => ?_) hs
  exact store_ok I1 hN hi hx r1 (fun s2 I2 => ⟨_, H1, I2, q1⟩) hf
def tPar (i j : Nat) (ta : TA) : TS := fun D σ H => ta σ H fun vs H1 => ∃ v w, vs = [v, w] ∧ D.nx ((σ.set i (some v)).set j (some w)) H1
theorem ps_par {i j : Nat} {x y : Str} {a b : Expr} {ta : TA} {px py pt : Pos} {kt k2 pt2} (hc : X.calm = true) (hN : X.N.Nodup) (hi : X.N[i]? = some x) (hj : X.N[j]? = some y) (hij : i ≠ j)
    (hx : X.env.scope.names.lookup x = some .local) (hy : X.env.scope.names.lookup y = some .local) (ha : PA X [a, b] ta)
    (hw : swappedStores [.Tuple [.Name x px, .Name y py] kt pt] (.Tuple [a, b] k2 pt2) X.env = pure (some [x, y]))
    (hs : swapsWithSole [.Tuple [.Name x px, .Name y py] kt pt] (.Tuple [a, b] k2 pt2) pos.line X.env = pure false := by rfl) :
    PS X (.Assign [.Tuple [.Name x px, .Name y py] kt pt] (.Tuple [a, b] k2 pt2) pos) (tPar i j ta) := by
  intro pins s σ H D I h
  rw [exec_Assign_arm]
  refine wpAny_bind (wpAny_standAt ?_)
  rw [hs]
  refine wpAny_bind (wpAny_pure ?_)
  rw [if_neg (by decide)]
  refine wpAny_bind (Tuple_ (thn (ha _ pins s σ H _ I h) fun us s1 ⟨vs, H1, I1, r1, q1⟩ => ?_))
  obtain ⟨v, w, e1, q1⟩ := q1
  subst e1
  obtain ⟨u1, u2, rfl, rv, rw'⟩ : ∃ u1 u2, us = [u1, u2] ∧ RelV v u1 ∧ RelV w u2 := by
    cases r1 with
    | cons p q =>
      cases q with
      | cons p' q' =>
        cases q'
        exact ⟨_, _, rfl, p, p'⟩
  refine wpAny_newObj_type ?_ (by show 2 ≤ sizeLine; decide)
  have I2 : Inv X pins σ H1 { s1 with heap := s1.heap.push { cls := .type "tuple", data := .seq [u1, u2].toArray } } := I1.kept (t' := s1.toks) fun b o e => Heap.get?_push_of_some _ e
  rw [hw]
  refine wpAny_bind (wpAny_pure ?_)
  show wpAny (model X.prog X.w) X.A (do rule "assign.swapped-stores"; let items ← unpackItems (.ref s1.heap.objs.size) 2 none; assignInOrder [fun v => bindName X.env y v, fun v => bindName X.env x v] items.reverse; pure Flow.next) _ _ _
  refine wpAny_bind (wpAny_rule (wpAny_bind (unpackItems_tuple (items := #[u1, u2]) (I.ok.hd hc) (IsTup.new s1.heap _) fun h' hx' => ?_)))
  have I3 := I2.kept (h' := h') (t' := s1.toks) fun b o e => hx' b o (Nat.ne_of_lt (Heap.lt_size e)) e
  show wpAny _ _ (assignInOrder [fun v => bindName X.env y v, fun v => bindName X.env x v] [u2, u1] >>= fun _ => pure Flow.next) _ _ _
  refine wpAny_bind (assignInOrder_cons (wpAny_bindName (store_ok I3 hN hj (.inl hy) rw' (fun s2 I4 => ?_) (.inr hy))))
  refine assignInOrder_cons (wpAny_bindName (store_ok I4 hN hi (.inl hx) rv (fun s3 I5 => assignInOrder_nil (wpAny_pure ?_)) (.inr hx)))
  rw [List.set_comm _ _ (Ne.symm hij)] at I5
  exact ⟨_, H1, I5, q1⟩
end
section
variable {X : Cx} {pos : Pos}
def tWhile (c : TT) (tb : TS) : TS := fun D σ H => ∃ W : Nat → St → Hp → Prop, (∃ m, W m σ H) ∧ ∀ m σ H, W m σ H →
  c σ H fun b H1 => if b = true then ∃ N : St → Hp → Prop, (∀ σ' H', N σ' H' → ∃ m', m' < m ∧ W m' σ' H') ∧ tb { D with nx := N, ct := N, bk := D.nx } σ H1 else D.nx σ H1
theorem ps_while {c : Expr} {body : List Stmt} {tc : TT} {tb : TS} (hp : PassesOwn (model X.prog X.w) X.A X.env X.xe) (hc : PT X c tc) (hb : PSs X body tb) : PS X (.While c body [] pos) (tWhile tc tb) := by
  intro pins s σ H D I h
  obtain ⟨W, ⟨m0, w0⟩, turn⟩ := h
  refine wpAny_While (codeAny_whileLoop (fun n s' => ∃ σ' H', Inv X pins σ' H' s' ∧ W n σ' H') ?_ m0 ⟨σ, H, I, w0⟩)
  rintro n s1 ⟨σ1, H1, I1, w1⟩
  refine wpAny_passesOwn hp (thn (hc pins s1 σ1 H1 _ I1 (turn n σ1 H1 w1)) fun b s2 ⟨H2, I2, q2⟩ => ?_)
  cases b with
  | true =>
    obtain ⟨N, hN, q2⟩ := q2
    rw [if_pos rfl]
    refine wpAny_passesOwn hp (thn (hb pins s2 σ1 H2 _ I2 q2) fun f s3 q3 => ?_)
    cases f with
    | next =>
      obtain ⟨σ3, H3, I3, n3⟩ := q3
      obtain ⟨m', hm, w3⟩ := hN σ3 H3 n3
      exact ⟨m', hm, σ3, H3, I3, w3⟩
    | cont =>
      obtain ⟨σ3, H3, I3, n3⟩ := q3
      obtain ⟨m', hm, w3⟩ := hN σ3 H3 n3
      exact ⟨m', hm, σ3, H3, I3, w3⟩
    | brk => exact q3
    | ret v => exact q3
  | false =>
    rw [if_neg Bool.false_ne_true]
    exact wpAny_execs_nil ⟨σ1, H2, I2, q2⟩
end
structure It where
  go : Nat → Hp → Prop
  yld : Nat → Hp → V → Hp → Prop
  stop : Nat → Hp → Prop
def FpOk (X : Cx) (pins : List (Addr × Obj)) (H : Hp) (b : Addr) : Prop :=
  H b = none ∧ b ≠ X.env.locals ∧ b ∉ X.fs ∧ (b ∈ X.ex ∨ X.s₀.heap.objs.size ≤ b) ∧ (∀ x c, X.env.cells.lookup x = some c → c ≠ b) ∧ ∀ p ∈ X.pn ++ pins, p.1 ≠ b
theorem Inv.fpOk {X : Cx} {pins : List (Addr × Obj)} {σ : St} {H H' : Hp} {s : Shared} {b : Addr} (I : Inv X pins σ H s) (hb : s.heap.objs.size ≤ b) (hn : H' b = none) : FpOk X pins H' b := by
  refine ⟨hn, Nat.ne_of_gt (Nat.lt_of_lt_of_le I.lt hb), I.nofs hb, .inr (Nat.le_trans I.sz hb), fun x c e z => ?_, fun p hp z => ?_⟩
  · obtain ⟨v, q⟩ := I.cell x c e
    exact absurd (Nat.lt_of_lt_of_le q.lt (by rw [z]; exact hb)) (Nat.lt_irrefl _)
  · exact absurd (Nat.lt_of_lt_of_le (Heap.lt_size (I.pin p hp).1) (by rw [z]; exact hb)) (Nat.lt_irrefl _)
structure Turn (P : Program) (w : World) (K : PySem.W.Frag) (tg : Expr) (J : It) (fp : List Addr) (it : Addr) (tn : Nat → Heap → Prop) : Prop where
  mem : it ∈ fp
  obj : ∀ i h, tn i h → ∀ b ∈ fp, ∃ o, h.get? b = some o ∧ ∀ v, o.data ≠ .cell v
  keep : ∀ i h h', tn i h → (∀ b ∈ fp, ∀ o, h.get? b = some o → h'.get? b = some o) → tn i h'
  item : ∀ (X : Cx), X.prog = P → X.w = w → X.K = K → X.calm = true → ∀ (i : Nat) (pins : List (Addr × Obj)) (s : Shared) (σ : St) (H : Hp) (E : Value → Shared → Prop), Inv X pins σ H s → (∀ b ∈ fp, FpOk X pins H b) → tn i s.heap → J.go i H →
    wpAny (model P w) X.A (pyNext (.ref it)) (fun r s1 => ∃ u, r = some u ∧
      wpAny (model P w) X.A (letOwnedTupleGo tg (.ref it) u) (fun _ s2 => ∃ x H', Inv X pins σ H' s2 ∧ RelV x u ∧ J.yld i H x H' ∧ tn (i + 1) s2.heap ∧ ∀ b ∈ fp, H' b = none) E s1) E s
  done : ∀ (X : Cx), X.prog = P → X.w = w → X.K = K → X.calm = true → ∀ (i : Nat) (pins : List (Addr × Obj)) (s : Shared) (σ : St) (H : Hp) (E : Value → Shared → Prop), Inv X pins σ H s → (∀ b ∈ fp, FpOk X pins H b) → tn i s.heap → J.stop i H →
    wpAny (model P w) X.A (pyNext (.ref it)) (fun r s1 => r = none ∧ Inv X pins σ H s1) E s
  self : ∀ (A : Around) (i : Nat) (s : Shared) (Q : Value → Shared → Prop) (E : Value → Shared → Prop), tn i s.heap → Q (.ref it) s → wpAny (model P w) A (pyIter (.ref it)) Q E s
abbrev TI := St → Hp → (It → Hp → Prop) → Prop
def PIE (X : Cx) (pins : List (Addr × Obj)) (σ : St) (tg : Expr) (R : It → Hp → Prop) (itv : Value) (s2 : Shared) : Prop :=
  ∃ (it : Addr) (fp : List Addr) (tn : Nat → Heap → Prop) (J : It) (H' : Hp), itv = .ref it ∧ Inv X pins σ H' s2 ∧ Turn X.prog X.w X.K tg J fp it tn ∧ tn 0 s2.heap ∧ (∀ b ∈ fp, FpOk X pins H' b) ∧ R J H'
def PI (X : Cx) (tg iter : Expr) (wi : TI) : Prop :=
  ∀ (pins : List (Addr × Obj)) (s : Shared) (σ : St) (H : Hp) (R : It → Hp → Prop), Inv X pins σ H s → wi σ H R →
    wpAny (model X.prog X.w) X.A (eval iter X.env) (fun v s1 => wpAny (model X.prog X.w) X.A (pyIter v) (PIE X pins σ tg R) X.xe s1) X.xe s
theorem go_of {M : Model} {A : Around} {E : Value → Shared → Prop} {s : Shared} {tg : Expr} {it : Addr} {u : Value} {o : Obj} {n : String} {vs : Array Value} {Q : Unit → Shared → Prop} (ho : s.heap.get? it = some o) (hc : o.cls = .type n) (hd : o.data = .fields vs)
    (hn : ["enumerate", "zip", "dict_itemiterator", "dict_reverseitemiterator", "odict_iterator", "itertools.zip_longest", "itertools.pairwise"].contains n = false) (hQ : Q () s) : wpAny M A (letOwnedTupleGo tg (.ref it) u) Q E s := by
  unfold letOwnedTupleGo
  cases tg <;> first
    | exact wpAny_pure hQ
    | (cases u <;> first
        | exact wpAny_pure hQ
        | (refine wpAny_bind (wpAny_load ho ?_)
           rw [hc, hd]
           show wpAny M A (if (["enumerate", "zip", "dict_itemiterator", "dict_reverseitemiterator", "odict_iterator", "itertools.zip_longest", "itertools.pairwise"].contains n && vs[0]? == some (rawInt _)) = true then _ else _) Q E s
           rw [if_neg (by intro h; rw [hn, Bool.false_and] at h; cases h)]
           exact wpAny_pure hQ))
def Itl (K : PySem.W.Frag) (a : Addr) : It :=
  ⟨fun i H => ∃ xs x, SqL K H a xs ∧ xs[i]? = some x, fun i H x H' => H' = H ∧ ∀ xs, SqL K H a xs → xs[i]? = some x, fun i H => ∃ xs, SqL K H a xs ∧ xs.length ≤ i⟩
def Itr (lo : Int) (n : Nat) : It := ⟨fun i _ => i < n, fun i H x H' => H' = H ∧ x = .int (lo + i), fun i _ => n ≤ i⟩
theorem turn_list {P : Program} {w : World} {K : PySem.W.Frag} {tg : Expr} (a it : Addr) : Turn P w K tg (Itl K a) [it] it (fun i h => h.IsListIter it a i) where
  mem := by simp
  obj := fun i h st b hb => by
    have e : b = it := by simpa using hb
    subst e
    obtain ⟨o, e, c, d⟩ := st
    exact ⟨o, e, fun v z => by rw [d] at z; cases z⟩
  keep := fun i h h' st k => st.at fun o e => k it (by simp) o e
  item := by
    intro X hP hw hK hc i pins s σ H E I hf st hg
    subst hP hw hK
    obtain ⟨xs, x, hq, hx⟩ := hg
    obtain ⟨its, rv, p, hz⟩ := I.list hq
    obtain ⟨u, hu, ru⟩ := rv.get hx
    obtain ⟨f0, f1, f2, f3, f4, f5⟩ := hf it (by simp)
    refine wpAny_pyNext_list_item st p.isList (x := u) (by simpa using hu) fun h' st' sb => ?_
    have I1 : Inv X pins σ H { s with heap := h' } := I.turned (t' := s.toks) (fun b o hb e => (sb.2 b hb).trans e) f0 f1 f3 f4 f5
    obtain ⟨o, e, c, d⟩ := id st'
    exact ⟨u, rfl, go_of (s := { s with heap := h' }) e c d (by decide) ⟨x, H, I1, ru, ⟨rfl, fun ys hy => by rw [I.list_inj hy hq]; exact hx⟩, st', fun b hb => (hf b hb).1⟩⟩
  done := by
    intro X hP hw hK hc i pins s σ H E I hf st hg
    subst hP hw hK
    obtain ⟨xs, hq, hx⟩ := hg
    obtain ⟨its, rv, p, hz⟩ := I.list hq
    obtain ⟨f0, f1, f2, f3, f4, f5⟩ := hf it (by simp)
    have hl := rv.length
    exact wpAny_pyNext_list_end (I.ok.hd hc) st p.isList (by simp; omega) fun h' eb => ⟨rfl, I.turned (t' := s.toks) (fun b o hb e => eb b o hb e) f0 f1 f3 f4 f5⟩
  self := fun _ _ _ _ _ st h => wpAny_pyIter_listiter st h
theorem turn_range {P : Program} {w : World} {K : PySem.W.Frag} {tg : Expr} (it : Addr) (lo : Int) (n : Nat) : Turn P w K tg (Itr lo n) [it] it (fun i h => IsRangeIter h it (lo + (i : Nat) * 1) ((n : Int) - (i : Nat)) 1) where
  mem := by simp
  obj := fun i h st b hb => by
    have e : b = it := by simpa using hb
    subst e
    exact ⟨_, st, fun v z => by
      have z' : Data.fields _ = Data.cell v := z
      cases z'⟩
  keep := fun i h h' st k => k it (by simp) _ st
  item := by
    intro X hP hw hK hc i pins s σ H E I hf st hg
    subst hP hw hK
    obtain ⟨f0, f1, f2, f3, f4, f5⟩ := hf it (by simp)
    have W := Walks.range (prog := X.prog) (w := X.w) (I.ok.hd hc) it lo 1 n
    refine W.item i s _ _ hg st fun v h' tk hv st' kk => ?_
    obtain ⟨t, rfl⟩ := hv
    have I1 : Inv X pins σ H { s with heap := h', toks := tk } := I.turned (fun b o hb e => kk b o (by simpa using hb) e) f0 f1 f3 f4 f5
    refine ⟨_, rfl, go_of (s := { s with heap := h', toks := tk }) (n := "range_iterator") st' rfl rfl (by decide) ⟨.int (lo + i), H, I1, ⟨t, ?_⟩, ⟨rfl, rfl⟩, st', fun b hb => (hf b hb).1⟩⟩
    rw [Int.mul_one]
  done := by
    intro X hP hw hK hc i pins s σ H E I hf st hg
    subst hP hw hK
    obtain ⟨f0, f1, f2, f3, f4, f5⟩ := hf it (by simp)
    exact wpAny_pyNext_range_end (I.ok.hd hc) st (by have : n ≤ i := hg; omega) fun h' eb => ⟨rfl, I.turned (t' := s.toks) (fun b o hb e => eb b o hb e) f0 f1 f3 f4 f5⟩
  self := fun _ _ _ _ _ st h => wpAny_pyIter_rangeiter st h
end L2
namespace L2
open PySem PySem.Spec PyProof.Rows
section
variable {X : Cx} {tg : Expr}
def iList (K : PySem.W.Frag) (tl : TE) : TI := fun σ H R => tl σ H fun x H1 => ∃ a, x = .ref a ∧ (∃ xs, SqL K H1 a xs) ∧ R (Itl K a) H1
theorem pi_list {l : Expr} {tl : TE} (hl : PE X l tl) : PI X tg l (iList X.K tl) := by
  intro pins s σ H R I h
  refine thn (hl pins s σ H _ I h) fun v s1 ⟨x, H1, I1, r1, q1⟩ => ?_
  obtain ⟨a, e, ⟨xs, hq⟩, q⟩ := q1
  subst e
  cases r1
  obtain ⟨its, rv, p, hz⟩ := I1.list hq
  refine wpAny_pyIter_list p.isList ?_
  refine ⟨s1.heap.objs.size, [s1.heap.objs.size], _, _, H1, rfl, I1.kept (t' := s1.toks) fun b o e => Heap.get?_push_of_some _ e, turn_list a _, ⟨_, Heap.get?_push_size _ rfl, rfl, rfl⟩, fun b hb => ?_, q⟩
  have e : b = s1.heap.objs.size := by simpa using hb
  subst e
  exact I1.fpOk (Nat.le_refl _) (I1.hok.fresh (Nat.le_refl _))
theorem range_it {pins : List (Addr × Obj)} {σ : St} {H : Hp} {s : Shared} {R : It → Hp → Prop} {E : Value → Shared → Prop} {lo hi : Int} {t u v : Tok} {tk : Nat} (I : Inv X pins σ H s) (h1 : -(2 ^ 62) ≤ lo) (h2 : lo < 2 ^ 62) (h3 : -(2 ^ 62) ≤ hi) (h4 : hi < 2 ^ 62)
    (q : R (Itr lo (hi - lo).toNat) H) : wpAny (model X.prog X.w) X.A (pyIter (.ref s.heap.objs.size)) (PIE X pins σ tg R) E { s with heap := s.heap.push { cls := .type "range", data := .fields #[.int lo t, .int hi u, .int 1 v] }, toks := tk } := by
  refine wpAny_pyIter_range (IsRange.new ..) (small_one h1 h2 h3 h4) ?_
  have I1 : Inv X pins σ H { s with heap := s.heap.push { cls := .type "range", data := .fields #[.int lo t, .int hi u, .int 1 v] }, toks := tk } := I.kept fun b o e => Heap.get?_push_of_some _ e
  refine ⟨(s.heap.push { cls := .type "range", data := .fields #[.int lo t, .int hi u, .int 1 v] }).objs.size, [(s.heap.push { cls := .type "range", data := .fields #[.int lo t, .int hi u, .int 1 v] }).objs.size], _, _, H, rfl,
    I1.kept (t' := tk) fun b o e => Heap.get?_push_of_some _ e, turn_range _ lo (hi - lo).toNat, ?_, fun b hb => ?_, q⟩
  · have e1 : lo + ((0 : Nat) : Int) * 1 = lo := by simp
    have e2 : (((hi - lo).toNat : Nat) : Int) - ((0 : Nat) : Int) = Builtin.Range.rangeSize lo hi 1 := by rw [rangeSize_one]; split <;> omega
    show IsRangeIter _ _ (lo + ((0 : Nat) : Int) * 1) ((((hi - lo).toNat : Nat) : Int) - ((0 : Nat) : Int)) 1
    rw [e1, e2]
    exact Heap.get?_push_size _ rfl
  · have e : b = (s.heap.push { cls := .type "range", data := .fields #[.int lo t, .int hi u, .int 1 v] }).objs.size := by simpa using hb
    subst e
    exact I1.fpOk (Nat.le_refl _) (I1.hok.fresh (Nat.le_refl _))
def iRng1 (ta : TA) : TI := fun σ H R => ta σ H fun vs H1 => ∃ j : Int, vs = [.int j] ∧ -(2 ^ 62) ≤ j ∧ j < 2 ^ 62 ∧ R (Itr 0 j.toNat) H1
theorem pi_range1 {a : Expr} {ta : TA} {p pos : Pos} (hg : Gl X "range") (hm : X.mg "range" = none) (ha : PA X [a] ta) (hs : starEach [a] X.env = [(false, eval a X.env)] := by rfl) : PI X tg (.Call (.Name "range" p) [a] [] pos) (iRng1 ta) := by
  intro pins s σ H R I h
  refine Call_ (ld_blt I hg hm boot_range (PyProof.Rows.callWith_type1 (thn (ha pos pins s σ H _ I h) fun us s1 ⟨vs, H1, I1, r1, q1⟩ => ?_) hs rfl))
  obtain ⟨j, e, q1, q2, q⟩ := q1
  subst e
  cases r1 with
  | cons r rr =>
    cases rr
    obtain ⟨t, rfl⟩ := r
    exact call_range_1 (range_it I1 (by omega) (by omega) q1 q2 (by simpa using q))
def tFor (wi : TI) (g : TG) (tb : TS) : TS := fun D σ H => wi σ H fun J H1 => ∃ W : Nat → Nat → St → Hp → Prop, (∃ m, W 0 m σ H1) ∧ ∀ i m σ H, W i m σ H →
  (J.stop i H ∧ D.nx σ H) ∨ (J.go i H ∧ ∃ N : St → Hp → Prop, (∀ σ' H', N σ' H' → ∃ m', m' < m ∧ W (i + 1) m' σ' H') ∧ ∀ x H', J.yld i H x H' → g x σ H' fun σ2 H2 => tb { D with nx := N, ct := N, bk := D.nx } σ2 H2)
def pinsAt (fp : List Addr) (h : Heap) : List (Addr × Obj) := fp.filterMap fun b => (h.get? b).map fun o => (b, o)
theorem mem_pinsAt {fp : List Addr} {h : Heap} {b : Addr} {o : Obj} (hb : b ∈ fp) (e : h.get? b = some o) : (b, o) ∈ pinsAt fp h := List.mem_filterMap.mpr ⟨b, hb, by rw [e]; rfl⟩
theorem of_pinsAt {fp : List Addr} {h : Heap} {p : Addr × Obj} (hp : p ∈ pinsAt fp h) : p.1 ∈ fp ∧ h.get? p.1 = some p.2 := by
  obtain ⟨b, hb, e⟩ := List.mem_filterMap.mp hp
  cases q : h.get? b with
  | none => rw [q] at e; cases e
  | some o =>
    rw [q] at e
    have e' : (b, o) = p := Option.some.inj e
    subst e'
    exact ⟨hb, q⟩
theorem Inv.pinned {pins : List (Addr × Obj)} {σ : St} {H : Hp} {s : Shared} {fp : List Addr} (I : Inv X pins σ H s) (hf : ∀ b ∈ fp, FpOk X pins H b) (ho : ∀ b ∈ fp, ∃ o, s.heap.get? b = some o ∧ ∀ v, o.data ≠ .cell v) : Inv X (pins ++ pinsAt fp s.heap) σ H s :=
  I.pins_of fun p hp => (List.mem_append.mp hp).elim (fun z => I.pin p (List.mem_append_right _ z)) fun z => by
    obtain ⟨hb, e⟩ := of_pinsAt z
    obtain ⟨f0, f1, f2, _⟩ := hf p.1 hb
    obtain ⟨o, e', d⟩ := ho p.1 hb
    rw [e] at e'; cases e'
    exact ⟨e, f0, f1, f2, d⟩
theorem Inv.unpinned {pins pl : List (Addr × Obj)} {σ : St} {H : Hp} {s : Shared} (I : Inv X (pins ++ pl) σ H s) : Inv X pins σ H s := I.pins_of fun p hp => I.pin p (List.mem_append_right _ (List.mem_append_left _ hp))
theorem ps_for {iter : Expr} {body : List Stmt} {wi : TI} {g : TG} {tb : TS} {pos : Pos} (hp : PassesOwn (model X.prog X.w) X.A X.env X.xe) (hc : X.calm = true) (hi : PI X tg iter wi) (hg : PG X tg g) (hb : PSs X body tb)
    (hs : ∀ x, foldedSetIterable iter X.env x = pure x := by intro _; rfl) : PS X (.For tg iter body [] pos) (tFor wi g tb) := by
  intro pins s σ H D I h
  refine wpAny_For (thn (hi pins s σ H _ I h) fun v s1 h1 => thn h1 fun itv s2 h2 => ?_) hs
  obtain ⟨it, fp, tn, J, H2, e, I2, T, st2, f2, W, ⟨m0, w0⟩, turn⟩ := h2
  subst e
  have stat : ∀ {H' : Hp}, (∀ b ∈ fp, H' b = none) → ∀ b ∈ fp, FpOk X pins H' b := fun hn b hb => ⟨hn b hb, (f2 b hb).2⟩
  refine codeAny_forLoop_any (fun n s' => ∃ i σ' H', Inv X pins σ' H' s' ∧ tn i s'.heap ∧ (∀ b ∈ fp, H' b = none) ∧ W i n σ' H') ?_ m0 ⟨0, σ, H2, I2, st2, fun b hb => (f2 b hb).1, w0⟩
  rintro n s3 ⟨i, σ3, H3, I3, st3, fr3, w3⟩
  rcases turn i n σ3 H3 w3 with ⟨stop, qn⟩ | ⟨go, N, hN, step⟩
  · refine wpAny_passesOwn hp (thn (T.done X rfl rfl rfl hc i pins s3 σ3 H3 X.xe I3 (stat fr3) st3 stop) fun r s4 ⟨hr, I4⟩ => ?_)
    subst hr
    exact wpAny_execs_nil ⟨σ3, H3, I4, qn⟩
  · refine wpAny_passesOwn hp (thn (T.item X rfl rfl rfl hc i pins s3 σ3 H3 X.xe I3 (stat fr3) st3 go) fun r s4 ⟨u, hr, h4⟩ => ?_)
    subst hr
    refine wpAny_passesOwn hp (thn h4 fun _ s5 ⟨x, H5, I5, r5, y5, st5, fr5⟩ => ?_)
    have I5' := I5.pinned (stat fr5) (T.obj _ _ st5)
    refine wpAny_passesOwn hp (thn (hg _ s5 σ3 H5 x u _ I5' r5 (step x H5 y5)) fun _ s6 ⟨σ6, H6, I6, q6⟩ => ?_)
    refine wpAny_passesOwn hp (thn (hb _ s6 σ6 H6 _ I6 q6) fun f s7 q7 => ?_)
    have again : ∀ {σ7 : St} {H7 : Hp}, Inv X (pins ++ pinsAt fp s5.heap) σ7 H7 s7 → N σ7 H7 → ∃ m, m < n ∧ ∃ i σ' H', Inv X pins σ' H' s7 ∧ tn i s7.heap ∧ (∀ b ∈ fp, H' b = none) ∧ W i m σ' H' := fun {σ7 H7} I7 n7 => by
      obtain ⟨m', hm, w7⟩ := hN σ7 H7 n7
      refine ⟨m', hm, i + 1, σ7, H7, I7.unpinned, T.keep _ _ _ st5 fun b hb o e => (I7.pin (b, o) (List.mem_append_right _ (List.mem_append_right _ (mem_pinsAt hb e)))).1, fun b hb => ?_, w7⟩
      obtain ⟨o, e, d⟩ := T.obj _ _ st5 b hb
      exact (I7.pin (b, o) (List.mem_append_right _ (List.mem_append_right _ (mem_pinsAt hb e)))).2.1
    cases f with
    | next => obtain ⟨σ7, H7, I7, n7⟩ := q7; exact again I7 n7
    | cont => obtain ⟨σ7, H7, I7, n7⟩ := q7; exact again I7 n7
    | brk => obtain ⟨σ7, H7, I7, q7⟩ := q7; exact ⟨σ7, H7, I7.unpinned, q7⟩
    | ret v => obtain ⟨x7, σ7, H7, I7, r7, q7⟩ := q7; exact ⟨x7, σ7, H7, I7.unpinned, r7, q7⟩
end
end L2
namespace L2
open PySem PySem.Spec PyProof.Rows
abbrev R2 := V → V → Hp → VK → Prop
def OpR (X : Cx) (f : Value → Value → Sem Value) (r : R2) : Prop :=
  ∀ (pins : List (Addr × Obj)) (s : Shared) (σ : St) (H : Hp) (x y : V) (v u : Value) (Q : VK), Inv X pins σ H s → RelV x v → RelV y u → r x y H Q →
    wpAny (model X.prog X.w) X.A (f v u) (EP X pins σ Q) X.xe s
def UnR (X : Cx) (f : Value → Sem Value) (r : V → Hp → VK → Prop) : Prop :=
  ∀ (pins : List (Addr × Obj)) (s : Shared) (σ : St) (H : Hp) (x : V) (v : Value) (Q : VK), Inv X pins σ H s → RelV x v → r x H Q →
    wpAny (model X.prog X.w) X.A (f v) (EP X pins σ Q) X.xe s
def CallR (X : Cx) (f : Value) (r : List V → Hp → VK → Prop) : Prop :=
  ∀ (pins : List (Addr × Obj)) (s : Shared) (σ : St) (H : Hp) (xs : List V) (us : List Value) (Q : VK), Inv X pins σ H s → Vals xs us → r xs H Q →
    wpAny (model X.prog X.w) X.A (call f us) (EP X pins σ Q) X.xe s
def tOp (r : R2) (ta tb : TE) : TE := fun σ H Q => ta σ H fun x H1 => tb σ H1 fun y H2 => r x y H2 Q
def tUn (r : V → Hp → VK → Prop) (ta : TE) : TE := fun σ H Q => ta σ H fun x H1 => r x H1 Q
def rI (C : Int → Int → Prop) (g : Int → Int → V) : R2 := fun x y H Q => ∃ i j, x = .int i ∧ y = .int j ∧ C i j ∧ Q (g i j) H
def rI0 (g : Int → Int → V) : R2 := fun x y H Q => ∃ i j, x = .int i ∧ y = .int j ∧ Q (g i j) H
def rU (g : Int → V) : V → Hp → VK → Prop := fun x H Q => ∃ i, x = .int i ∧ Q (g i) H
section
variable {X : Cx} {a b c : Expr} {ta tb tc : TE} {pos : Pos}
theorem binT (ha : PE X a ta) (hb : PE X b tb) {pins : List (Addr × Obj)} {s : Shared} {σ : St} {H : Hp} {R : V → V → Hp → Prop} (I : Inv X pins σ H s)
    (h : ta σ H fun x H1 => tb σ H1 fun y H2 => R x y H2) {Q : Value → Shared → Prop} {f : Value → Value → Sem Value}
    (hf : ∀ v u s2 x y H2, Inv X pins σ H2 s2 → RelV x v → RelV y u → R x y H2 → wpAny (model X.prog X.w) X.A (f v u) Q X.xe s2) :
    wpAny (model X.prog X.w) X.A (eval a X.env) (fun v s₁ => wpAny (model X.prog X.w) X.A (eval b X.env) (fun u s₂ => wpAny (model X.prog X.w) X.A (f v u) Q X.xe s₂) X.xe s₁) X.xe s := by
  refine thn (ha pins s σ H _ I h) fun v s1 ⟨x, H1, I1, r1, q1⟩ => ?_
  refine thn (hb pins s1 σ H1 _ I1 q1) fun u s2 ⟨y, H2, I2, r2, q2⟩ => ?_
  exact hf v u s2 x y H2 I2 r1 r2 q2
theorem pe_op {op : Operator} {r : R2} (ho : OpR X (binaryOp op) r) (ha : PE X a ta) (hb : PE X b tb) : PE X (.BinOp a op b pos) (tOp r ta tb) := by
  intro pins s σ H Q I h
  exact wpAny_BinOp (binT ha hb I h fun v u s2 x y H2 I2 rx ry q => ho pins s2 σ H2 x y v u Q I2 rx ry q)
theorem pe_un {op : UnaryOp} {r : V → Hp → VK → Prop} (ho : UnR X (unaryOp op) r) (ha : PE X a ta) : PE X (.UnaryOp op a pos) (tUn r ta) := by
  intro pins s σ H Q I h
  exact UnaryOp_ (thn (ha pins s σ H _ I h) fun v s1 ⟨x, H1, I1, r1, q1⟩ => ho pins s1 σ H1 x v Q I1 r1 q1)
theorem opI {f : Value → Value → Sem Value} {C : Int → Int → Prop} {g : Int → Int → Int}
    (rule : ∀ (i j : Int) (t u : Tok) (s : Shared) (Q : Value → Shared → Prop) (E : Value → Shared → Prop), C i j → Q (.int (g i j) s.toks) { s with toks := s.toks + 1 } → wpAny (model X.prog X.w) X.A (f (.int i t) (.int j u)) Q E s) :
    OpR X f (rI C fun i j => .int (g i j)) := by
  intro pins s σ H x y v u Q I rx ry h
  obtain ⟨i, j, rfl, rfl, hc, q⟩ := h
  obtain ⟨t, rfl⟩ := rx
  obtain ⟨t', rfl⟩ := ry
  exact rule i j t t' s _ _ hc ⟨.int (g i j), H, I.tok _, ⟨_, rfl⟩, q⟩
theorem opI0 {f : Value → Value → Sem Value} {g : Int → Int → Int}
    (rule : ∀ (i j : Int) (t u : Tok) (s : Shared) (Q : Value → Shared → Prop) (E : Value → Shared → Prop), Q (.int (g i j) s.toks) { s with toks := s.toks + 1 } → wpAny (model X.prog X.w) X.A (f (.int i t) (.int j u)) Q E s) :
    OpR X f (rI0 fun i j => .int (g i j)) := by
  intro pins s σ H x y v u Q I rx ry h
  obtain ⟨i, j, rfl, rfl, q⟩ := h
  obtain ⟨t, rfl⟩ := rx
  obtain ⟨t', rfl⟩ := ry
  exact rule i j t t' s _ _ ⟨.int (g i j), H, I.tok _, ⟨_, rfl⟩, q⟩
theorem opB0 {f : Value → Value → Sem Value} {g : Int → Int → Bool}
    (rule : ∀ (i j : Int) (t u : Tok) (s : Shared) (Q : Value → Shared → Prop) (E : Value → Shared → Prop), Q (.bool (g i j)) s → wpAny (model X.prog X.w) X.A (f (.int i t) (.int j u)) Q E s) :
    OpR X f (rI0 fun i j => .bl (g i j)) := by
  intro pins s σ H x y v u Q I rx ry h
  obtain ⟨i, j, rfl, rfl, q⟩ := h
  obtain ⟨t, rfl⟩ := rx
  obtain ⟨t', rfl⟩ := ry
  exact rule i j t t' s _ _ ⟨.bl (g i j), H, I, rfl, q⟩
def CPow (i j : Int) : Prop := 0 ≤ j ∧ j ≤ 1000000 ∧ i.natAbs < 2 ^ 64
def CMul (i j : Int) : Prop := (-(2 ^ 64) < i ∧ i < 2 ^ 64) ∨ (-(2 ^ 64) < j ∧ j < 2 ^ 64)
theorem CMul.ok {i j : Int} (h : CMul i j) : IntMulOk i j := by
  rcases h with ⟨h1, h2⟩ | ⟨h1, h2⟩
  · exact .of_left (intBits_le_64 h1 h2)
  · exact .of_right (intBits_le_64 h1 h2)
theorem op_add : OpR X (binaryOp .Add) (rI0 fun i j => .int (i + j)) := opI0 fun _ _ _ _ _ _ _ q => add_int q
theorem op_sub : OpR X (binaryOp .Sub) (rI0 fun i j => .int (i - j)) := opI0 fun _ _ _ _ _ _ _ q => sub_int q
theorem op_mod : OpR X (binaryOp .Mod) (rI (fun _ j => 0 < j) fun i j => .int (i % j)) := opI fun i j _ _ _ _ _ hc q => by
  have h1 : (0 : Int) < j := hc
  exact mod_int' (by omega) (by rw [Int.fmod_eq_emod_of_nonneg i (by omega)]; exact q)
theorem op_pow : OpR X (binaryOp .Pow) (rI CPow fun i j => .int (i ^ j.toNat)) := opI fun _ _ _ _ _ _ _ hc q => pow_int_small hc.1 hc.2.1 hc.2.2 q
theorem unI {f : Value → Sem Value} {g : Int → Int}
    (rule : ∀ (i : Int) (t : Tok) (s : Shared) (Q : Value → Shared → Prop) (E : Value → Shared → Prop), Q (.int (g i) s.toks) { s with toks := s.toks + 1 } → wpAny (model X.prog X.w) X.A (f (.int i t)) Q E s) :
    UnR X f (rU fun i => .int (g i)) := by
  intro pins s σ H x v Q I rx h
  obtain ⟨i, rfl, q⟩ := h
  obtain ⟨t, rfl⟩ := rx
  exact rule i t s _ _ ⟨.int (g i), H, I.tok _, ⟨_, rfl⟩, q⟩
theorem un_neg : UnR X (unaryOp .USub) (rU fun i => .int (-i)) := unI fun _ _ _ _ _ q => neg_int q
end
section
variable {X : Cx} {a b c : Expr} {ta tb tc : TE} {pos : Pos}
theorem fin_bl {pins : List (Addr × Obj)} {σ : St} {H : Hp} {s : Shared} {Q : VK} {k k' : Bool} (I : Inv X pins σ H s) (q : Q (.bl k) H) (e : k = k') : EP X pins σ Q (.bool k') s := by
  subst e
  exact ⟨.bl k, H, I, rfl, q⟩
theorem op_lt : OpR X (compareOp .Lt) (rI0 fun i j => .bl (decide (i < j))) := opB0 fun _ _ _ _ _ _ _ q => lt_int q
theorem op_le : OpR X (compareOp .LtE) (rI0 fun i j => .bl (decide (i ≤ j))) := opB0 fun _ _ _ _ _ _ _ q => le_int q
theorem op_gt : OpR X (compareOp .Gt) (rI0 fun i j => .bl (decide (j < i))) := opB0 fun _ _ _ _ _ _ _ q => gt_int q
theorem op_isN : OpR X (compareOp .Is) (fun x y H Q => y = .non ∧ Q (.bl (decide (x = .non))) H) := by
  intro pins s σ H x y v u Q I rx ry h
  obtain ⟨rfl, q⟩ := h
  cases ry
  refine is_none_gen (fin_bl I q ?_)
  cases x <;> first
    | (cases rx; rfl)
    | (obtain ⟨t, rfl⟩ := rx; rfl)
theorem op_notN : OpR X (compareOp .IsNot) (fun x y H Q => y = .non ∧ Q (.bl (!decide (x = .non))) H) := by
  intro pins s σ H x y v u Q I rx ry h
  obtain ⟨rfl, q⟩ := h
  cases ry
  refine isnot_none_gen (fin_bl I q ?_)
  cases x <;> first
    | (cases rx; rfl)
    | (obtain ⟨t, rfl⟩ := rx; rfl)
theorem OpR.or {f : Value → Value → Sem Value} {r r' : R2} (h : OpR X f r) (h' : OpR X f r') : OpR X f (fun x y H Q => r x y H Q ∨ r' x y H Q) := by
  intro pins s σ H x y v u Q I rx ry q
  rcases q with q | q
  · exact h pins s σ H x y v u Q I rx ry q
  · exact h' pins s σ H x y v u Q I rx ry q
theorem nomark (b : Expr) {op : CmpOp} (h : op ≠ .In := by decide) (h2 : op ≠ .NotIn := by decide) : behindInMarks op b = false := by
  have e1 : (op == CmpOp.In) = false := by cases op <;> first | rfl | exact absurd rfl h
  have e2 : (op == CmpOp.NotIn) = false := by cases op <;> first | rfl | exact absurd rfl h2
  cases b <;> simp [behindInMarks, e1, e2]
theorem pe_cmpR {op : CmpOp} {r : R2} (ho : OpR X (compareOp op) r) (ha : PE X a ta) (hb : PE X b tb) (hm : behindInMarks op b = false) : PE X (.Compare a [op] [b] pos) (tOp r ta tb) := by
  intro pins s σ H Q I h
  exact wpAny_Compare1 (binT ha hb I h fun v u s2 x y H2 I2 rx ry q => ho pins s2 σ H2 x y v u Q I2 rx ry q) hm
def tTest (t : TE) : TT := fun σ H Q => t σ H fun x H' => ∃ k, x = .bl k ∧ Q k H'
theorem pt_cmpR {op : CmpOp} {r : R2} (ho : OpR X (compareOp op) r) (ha : PE X a ta) (hb : PE X b tb) (hm : behindInMarks op b = false) : PT X (.Compare a [op] [b] pos) (tTest (tOp r ta tb)) := by
  intro pins s σ H Q I h
  refine wpAny_isTrue_Compare1 (thn (ha pins s σ H _ I h) fun v s1 ⟨x, H1, I1, r1, q1⟩ => thn (hb pins s1 σ H1 _ I1 q1) fun u s2 ⟨y, H2, I2, r2, q2⟩ =>
    thn (ho pins s2 σ H2 x y v u _ I2 r1 r2 q2) fun c s3 ⟨z, H3, I3, r3, k, e, q3⟩ => ?_) hm
  subst e
  cases r3
  exact wpAny_truthy_bool ⟨H3, I3, q3⟩
def tChain (r r' : R2) (ta tb tc : TE) : TE := fun σ H Q => ta σ H fun x H1 => tb σ H1 fun y H2 => r x y H2 fun z H3 => ∃ k, z = .bl k ∧
  (if k = true then tc σ H3 fun w' H4 => r' y w' H4 Q else Q (.bl false) H3)
theorem pe_chain {op op' : CmpOp} {r r' : R2} (ho : OpR X (compareOp op) r) (ho' : OpR X (compareOp op') r') (ha : PE X a ta) (hb : PE X b tb) (hc : PE X c tc)
    (hm : lastMarks [op, op'] [b, c] = false := by with_unfolding_all rfl) : PE X (.Compare a [op, op'] [b, c] pos) (tChain r r' ta tb tc) := by
  intro pins s σ H Q I h
  refine Compare_chain (thn (ha pins s σ H _ I h) fun v s1 ⟨x, H1, I1, r1, q1⟩ => chain_link (thn (hb pins s1 σ H1 _ I1 q1) fun u s2 ⟨y, H2, I2, r2, q2⟩ =>
    thn (ho pins s2 σ H2 x y v u _ I2 r1 r2 q2) fun d s3 ⟨z, H3, I3, r3, k, e, q3⟩ => ?_)) hm
  subst e
  cases r3
  refine wpAny_truthy_bool ?_
  cases k with
  | false => exact ite_ff ⟨.bl false, H3, I3, rfl, q3⟩
  | true => exact ite_tt (chain_last (thn (hc pins s3 σ H3 _ I3 q3) fun w' s4 ⟨z', H4, I4, r4, q4⟩ => ho' pins s4 σ H4 y z' u w' Q I4 r2 r4 q4))
theorem line63 : (sizeLine : Nat) < 2 ^ 63 := by rw [sizeLine_eq]; decide
theorem vals1 {x : V} {us : List Value} (r : Vals [x] us) : ∃ u, us = [u] ∧ RelV x u := by
  cases r with
  | cons r1 r2 => cases r2; exact ⟨_, rfl, r1⟩
theorem vals2 {x y : V} {us : List Value} (r : Vals [x, y] us) : ∃ u w', us = [u, w'] ∧ RelV x u ∧ RelV y w' := by
  cases r with
  | cons r1 r2 =>
    cases r2 with
    | cons r3 r4 => cases r4; exact ⟨_, _, rfl, r1, r3⟩
theorem call_abs : CallR X (.builtin "abs") (fun xs H Q => ∃ i, xs = [.int i] ∧ Q (.int (if i < 0 then -i else i)) H) := by
  intro pins s σ H xs us Q I r h
  obtain ⟨i, rfl, q⟩ := h
  obtain ⟨u, rfl, t, rfl⟩ := vals1 r
  exact call_abs_int fun u tk => ⟨.int (if i < 0 then -i else i), H, I.tok _, ⟨_, rfl⟩, q⟩
theorem call_int1 : CallR X (.type "int") (fun xs H Q => (∃ i, xs = [.int i] ∧ Q (.int i) H) ∨ ∃ k, xs = [.bl k] ∧ Q (.int (if k then 1 else 0)) H) := by
  intro pins s σ H xs us Q I r h
  rcases h with ⟨i, rfl, q⟩ | ⟨k, rfl, q⟩
  · obtain ⟨u, rfl, t, rfl⟩ := vals1 r
    exact call_int_int ⟨.int i, H, I, ⟨_, rfl⟩, q⟩
  · obtain ⟨u, rfl, r1⟩ := vals1 r
    cases r1
    exact call_int_bool ⟨.int (if k then 1 else 0), H, I.tok _, ⟨_, rfl⟩, q⟩
end
end L2
namespace L2
open PySem PySem.Spec PyProof.Rows
section
variable {prog : Program} {w : World} {A : Around} {E : Value → Shared → Prop} {s : Shared} {K : PySem.W.Frag} {x dx C f : Addr} {mA : Str → Option Value} {name : Str} {v : Value}
end
theorem RelO.none_of {o : Option Value} (r : RelO none o) : o = none := by
  cases o with
  | none => rfl
  | some u => exact (show False from r).elim
section
variable {P : Program} {w : World} {H H' : Hp} {h h' : Heap} {a C dx : Addr} {fs fs' : List (Str × V)}
end
structure Cls (K : PySem.W.Frag) (C : Addr) : Prop where
  pg : PySem.W.plainGet K C Str.empty = true
  hd : PySem.W.hasDictIn K C = true
  po : PySem.W.plainOver K C = true
  sa : PySem.W.findIn K (.ref C) "__setattr__" = some (some (.builtin "object.__setattr__"))
theorem Cls.get {K : PySem.W.Frag} {C : Addr} (c : Cls K C) (f : Str) : PySem.W.plainGet K C f = true := c.pg
section
variable {X : Cx} {pins : List (Addr × Obj)} {σ : St} {H : Hp} {s : Shared} {a C dx : Addr} {fs : List (Str × V)} {f : Str} {v : V} {A : Around} {E : Value → Shared → Prop}
theorem Inv.made (I : Inv X pins σ H s) : Inv X pins σ (upd (upd H s.heap.objs.size (.own (s.heap.objs.size + 1))) (s.heap.objs.size + 1) (.ins C s.heap.objs.size []))
    { s with heap := (s.heap.push PySem.W.emptyDict).push (PySem.W.instObj C s.heap.objs.size) } := by
  have e1 : (s.heap.push PySem.W.emptyDict).get? s.heap.objs.size = some PySem.W.emptyDict := Heap.get?_push_size s.heap rfl
  have e2 : ((s.heap.push PySem.W.emptyDict).push (PySem.W.instObj C s.heap.objs.size)).get? (s.heap.objs.size + 1) = some (PySem.W.instObj C s.heap.objs.size) := by
    have := Heap.get?_push_size (s.heap.push PySem.W.emptyDict) (o := PySem.W.instObj C s.heap.objs.size) rfl
    rwa [Heap.size_push] at this
  have e3 : (s.heap.push PySem.W.emptyDict).Ns s.heap.objs.size (fun _ => none) := ⟨PySem.W.emptyDict, #[], _, e1, rfl, (fun e he => absurd he (by simp)), fun _ => rfl⟩
  have I1 := I.laid (a := s.heap.objs.size) (o := .own (s.heap.objs.size + 1)) (h' := s.heap.push PySem.W.emptyDict) (t' := s.toks) (fun b u q => Heap.get?_push_of_some _ q) (Nat.le_refl _) ⟨_, e1⟩
  refine I1.laid (a := s.heap.objs.size + 1) (o := .ins C s.heap.objs.size []) (t' := s.toks) (fun b u q => Heap.get?_push_of_some _ q) (Nat.le_of_eq (Heap.size_push _ _)) ?_
  have ne : s.heap.objs.size ≠ s.heap.objs.size + 1 := Nat.ne_of_lt (Nat.lt_succ_self _)
  refine ⟨by rw [upd_ne ne, upd_same], Nat.zero_le _, ne, e2, fun _ => none, (Heap.Ns1.of_empty e3).at fun o q => Heap.get?_push_of_some _ q, fun _ => True.intro, fun y hy => absurd rfl hy⟩
end
section
variable {X : Cx} {o e value : Expr} {f : Str} {pos pos' tpos : Pos} {ta tv : TE}
end
section
variable {X : Cx} {pins : List (Addr × Obj)} {σ : St} {H : Hp} {s : Shared} {A : Around} {E : Value → Shared → Prop} {Q : Value → Shared → Prop} {c : Value} {b : Bool}
end
end L2
namespace L2
open PySem PySem.Spec PyProof.Rows
structure Room (k : Nat) (A : Around) : Prop where
  hd : A.handled = none
  dp : A.depth + 3 * k + 5 < recursionLimit
  un : A.units + 16 * k + 200 < cLine
theorem Room.mono {j k : Nat} {A : Around} (r : Room k A) (h : j ≤ k) : Room j A := ⟨r.hd, by have := r.dp; omega, by have := r.un; omega⟩
theorem Room.deeper {k : Nat} {A : Around} (r : Room (k + 1) A) (env : Env) : Room k (A.deeper env) :=
  ⟨r.hd, by have := r.dp; show A.depth + 1 + 3 * k + 5 < _; omega, by have := r.un; show A.units + 3 + 16 * k + 200 < _; omega⟩
theorem Room.in1 {k : Nat} {A : Around} (r : Room (k + 1) A) : Room k A.in1 :=
  ⟨r.hd, by have := r.dp; show A.depth + 3 * k + 5 < _; omega, by have := r.un; show A.units + 1 + 16 * k + 200 < _; omega⟩
theorem Room.depth {k : Nat} {A : Around} (r : Room k A) : A.depth < recursionLimit := by have := r.dp; omega
theorem Room.units {k : Nat} {A : Around} (r : Room k A) : A.units + 64 < cLine := by have := r.un; omega
theorem Room.units0 {k : Nat} {A : Around} (r : Room k A) : A.units < cLine := by have := r.un; omega
def tNil : TA := fun _ H Q => Q [] H
def tCons (ta : TE) (tr : TA) : TA := fun σ H Q => ta σ H fun x H1 => tr σ H1 fun xs H2 => Q (x :: xs) H2
section
variable {X : Cx} {e : Expr} {es : List Expr} {te : TE} {t : TA} {pos : Pos}
theorem pa_nil : PA X [] tNil := fun _ _ _ _ H Q I h => Calls.spliced_nil ⟨[], H, I, .nil, h⟩
theorem pa_cons (ha : PE X e te) (hr : PA X es t) (hs : starEach (e :: es) X.env = (false, eval e X.env) :: starEach es X.env := by rfl) : PA X (e :: es) (tCons te t) := by
  intro pos pins s σ H Q I h
  rw [hs]
  show wpAny _ _ (spliced ((false, eval e X.env) :: backTo pos (starEach es X.env))) _ _ s
  refine Calls.spliced_cons (thn (ha pins s σ H _ I h) fun u s1 ⟨x, H1, I1, r1, q1⟩ => ?_)
  exact thn (hr pos pins s1 σ H1 _ I1 q1) fun us s2 ⟨xs, H2, I2, r2, q2⟩ => ⟨x :: xs, H2, I2, .cons r1 r2, q2⟩
def tTup (t : TA) : TE := fun σ H Q => t σ H fun xs H1 => xs.length ≤ sizeLine ∧ ∀ p, H1 p = none → Q (.ref p) (upd H1 p (.tup xs))
def tLst (t : TA) : TE := fun σ H Q => t σ H fun xs H1 => xs.length ≤ sizeLine ∧ ∀ p, H1 p = none → Q (.ref p) (upd H1 p (.lst xs))
theorem pe_tup {x1} (h : PA X es t) : PE X (.Tuple es x1 pos) (tTup t) := by
  intro pins s σ H Q I hq
  refine wpAny_Tuple_spliced (thn (h pos pins s σ H _ I hq) fun us s1 ⟨xs, H1, I1, r, z, q⟩ => ⟨by rw [← r.length]; exact z, ?_⟩)
  have hf : H1 s1.heap.objs.size = none := I1.hok.fresh (Nat.le_refl _)
  refine ⟨.ref s1.heap.objs.size, upd H1 s1.heap.objs.size (.tup xs), I1.laid (t' := s1.toks) (fun b u e => Heap.get?_push_of_some _ e) (Nat.le_refl _) ?_, rfl, q _ hf⟩
  exact ⟨z, us, r, ⟨_, Heap.get?_push_size _ rfl, rfl, _, rfl⟩⟩
theorem pe_lst (h : PA X es t) : PE X (.List es pos) (tLst t) := by
  intro pins s σ H Q I hq
  refine wpAny_List_spliced (thn (h pos pins s σ H _ I hq) fun us s1 ⟨xs, H1, I1, r, z, q⟩ => ⟨by rw [← r.length]; exact z, ?_⟩)
  have hf : H1 s1.heap.objs.size = none := I1.hok.fresh (Nat.le_refl _)
  refine ⟨.ref s1.heap.objs.size, upd H1 s1.heap.objs.size (.lst xs), I1.laid (t' := s1.toks) (fun b u e => Heap.get?_push_of_some _ e) (Nat.le_refl _) ?_, rfl, q _ hf⟩
  exact ⟨z, us, 0, r, Heap.get?_push_size _ rfl⟩
end
abbrev Sp := List V → Hp → VK → XK → Prop
abbrev CXT := List Env → Hp → Shared → XK → Value → Shared → Prop
structure Env0 (P : Program) (w : World) (K : PySem.W.Frag) (mg : Str → Option Value) (base : Heap) (A : Around) (outer : List Env) (s : Shared) (H : Hp) : Prop where
  frames : A.frames = some outer
  mod : Mod K mg base
  bs : ∀ b o, base.get? b = some o → s.heap.get? b = some o ∧ H b = none
  bsz : base.objs.size ≤ s.heap.objs.size
  funs : s.heap.FunFrames base outer
  frf : ∀ b ∈ frs outer, H b = none
  hok : HOk P w H s.heap
  bare : AllBare s.gens
def CE (outer : List Env) (P : Program) (w : World) (H : Hp) (s : Shared) (Q : VK) (u : Value) (s' : Shared) : Prop :=
  ∃ v H', s'.os = s.os ∧ AllBare s'.gens ∧ Un (frs outer) [] H H' s.heap s'.heap ∧ HOk P w H' s'.heap ∧ RelV v u ∧ Q v H'
def CR (CX : CXT) (outer : List Env) (P : Program) (w : World) (H : Hp) (s : Shared) (Q : VK) (E : XK) (r : Result) (s' : Shared) : Prop :=
  match r with
  | .ok (.ret u) => CE outer P w H s Q u s'
  | .ok _ => False
  | .error e => CX outer H s E e s'
structure FnOk (P : Program) (w : World) (K : PySem.W.Frag) (mg : Str → Option Value) (base : Heap) (CX : CXT) (k : Nat) (f : Addr) (fd : FuncData) (ps : List Str) (sp : Sp) : Prop where
  len : ∀ vs H Q E, sp vs H Q E → vs.length = ps.length
  run : ∀ (A : Around) (outer : List Env) (s : Shared) (H : Hp) (args : Args) (us : List Value) (vs : List V) (Q : VK) (E : XK), Room k A → Env0 P w K mg base A outer s H → BindsTo s fd args (ps.zip us) → Vals vs us → sp vs H Q E →
    codeAny (model P w) A (.call (.ref f) args) (CR CX outer P w H s Q E) s
theorem FnOk.mono {P : Program} {w : World} {K : PySem.W.Frag} {mg : Str → Option Value} {base : Heap} {CX : CXT} {j k : Nat} {f : Addr} {fd : FuncData} {ps : List Str} {sp : Sp} (F : FnOk P w K mg base CX j f fd ps sp) (h : j ≤ k) :
    FnOk P w K mg base CX k f fd ps sp := ⟨F.len, fun A outer s H args us vs Q E hr => F.run A outer s H args us vs Q E (hr.mono h)⟩
theorem FnOk.imp {P : Program} {w : World} {K : PySem.W.Frag} {mg : Str → Option Value} {base : Heap} {CX : CXT} {k : Nat} {f : Addr} {fd : FuncData} {ps : List Str} {sp sp' : Sp} (F : FnOk P w K mg base CX k f fd ps sp)
    (h : ∀ vs H Q E, sp' vs H Q E → sp vs H Q E) : FnOk P w K mg base CX k f fd ps sp' :=
  ⟨fun vs H Q E q => F.len vs H Q E (h _ _ _ _ q), fun A outer s H args us vs Q E hr he hb hv hs => F.run A outer s H args us vs Q E hr he hb hv (h _ _ _ _ hs)⟩
theorem Env0.in1 {P : Program} {w : World} {K : PySem.W.Frag} {mg : Str → Option Value} {base : Heap} {A : Around} {outer : List Env} {s : Shared} {H : Hp} (e : Env0 P w K mg base A outer s H) :
    Env0 P w K mg base A.in1 outer s H := ⟨e.frames, e.mod, e.bs, e.bsz, e.funs, e.frf, e.hok, e.bare⟩
section
variable {X : Cx} {pins : List (Addr × Obj)} {σ : St} {H : Hp} {s s' : Shared}
theorem Inv.env0 (I : Inv X pins σ H s) : Env0 X.prog X.w X.K X.mg X.base X.A X.stack s H :=
  ⟨I.ok.frames, I.ok.mod, I.bs, Nat.le_trans I.ok.bsz I.sz, I.stack, I.stkFree, I.hok, I.bare⟩
theorem Inv.after {Q : VK} {u : Value} (I : Inv X pins σ H s) (h : CE X.stack X.prog X.w H s Q u s') : EP X pins σ Q u s' := by
  obtain ⟨v, H', os, bare, un, hok, r, q⟩ := h
  obtain ⟨hh, g, d, t, os'⟩ := s'
  obtain rfl : os' = s.os := os
  exact ⟨v, H', I.call (h' := hh) (g' := g) (d' := d) (t' := t) (ch := []) un hok bare (fun b z => absurd z (by simp)), r, q⟩
end
def tCall (sp : Sp) (dvs : List V) (E : XK) (t : TA) : TE := fun σ H Q => t σ H fun vs H1 => sp (vs ++ dvs) H1 Q E
def Binds (K : PySem.W.Frag) (fd : FuncData) (ps : List Str) (ds : List Value) : Prop :=
  ∀ (s : Shared) (us : List Value), K.In s.heap → (us ++ ds).length = ps.length → BindsTo s fd ⟨us, []⟩ (ps.zip (us ++ ds))
theorem Binds.all {K : PySem.W.Frag} {fd : FuncData} {ps : List Str} (h : ∀ us : List Value, us.length = ps.length → bindArgs fd ⟨us, []⟩ = pure (ps.zip us)) : Binds K fd ps [] := fun s us _ hl => by
  rw [List.append_nil] at hl ⊢
  exact .of_eq (h us hl)
def Passes (CX : CXT) (X : Cx) (E : XK) : Prop := ∀ (pins : List (Addr × Obj)) (σ : St) (H : Hp) (s : Shared) (e : Value) (s' : Shared), Inv X pins σ H s → CX X.stack H s E e s' → X.xe e s'
section
variable {X : Cx} {CX : CXT} {k : Nat} {f C : Addr} {fd : FuncData} {ps : List Str} {sp : Sp} {dvs : List V} {ds : List Value} {E : XK} {x m : Str} {p pos apos : Pos} {e o : Expr} {es : List Expr} {ta : TE} {t : TA}
theorem run_fn {pins : List (Addr × Obj)} {σ : St} {H : Hp} {s : Shared} {Q : VK} {us : List Value} {vs : List V} (F : FnOk X.prog X.w X.K X.mg X.base CX k f fd ps sp) (hr : Room k X.A) (hb : Binds X.K fd ps ds) (hd : Vals dvs ds) (hx : Passes CX X E)
    (I : Inv X pins σ H s) (r : Vals vs us) (h : sp (vs ++ dvs) H Q E) : wpAny (model X.prog X.w) X.A (call (.ref f) us) (EP X pins σ Q) X.xe s := by
  have r2 : Vals (vs ++ dvs) (us ++ ds) := r.append hd
  have hl : (us ++ ds).length = ps.length := by rw [← r2.length]; exact F.len _ _ _ _ h
  refine wpAny_call (codeAny_mono (F.run X.A X.stack s H ⟨us, []⟩ (us ++ ds) (vs ++ dvs) Q E hr I.env0 (hb s us I.kIn hl) r2 h) fun r s' hq => ?_)
  cases r with
  | error e => exact hx pins σ H s e s' I hq
  | ok fl =>
    cases fl with
    | ret u => exact I.after hq
    | next => exact False.elim hq
    | brk => exact False.elim hq
    | cont => exact False.elim hq
theorem pe_call (F : FnOk X.prog X.w X.K X.mg X.base CX k f fd ps sp) (hr : Room k X.A) (hg : Gl X x) (hm : X.mg x = some (.ref f)) (hk : PySem.W.keepIn X.K (.ref f) = true) (hb : Binds X.K fd ps ds) (hd : Vals dvs ds) (hx : Passes CX X E)
    (ha : PA X (e :: es) t) (hdb : (x == ("__debug__" : Str)) = false := by decide) (he : starEach (e :: es) X.env = (false, eval e X.env) :: starEach es X.env := by rfl) (hpl : (backTo pos (starEach es X.env)).any (·.1) = false := by rfl) :
    PE X (.Call (.Name x p) (e :: es) [] pos) (tCall sp dvs E t) := by
  intro pins s σ H Q I h
  refine wpAny_Call_Name_kw (ld_glob I hg hm ?_ hdb)
  refine PySem.W.callWith_K (h₀ := X.base) I.ok.mod.kin hk (thn (ha pos pins s σ H _ I h) fun us s1 ⟨vs, H1, I1, r, q⟩ => ⟨I1.kIn, ?_⟩) he hpl
  exact run_fn F hr hb hd hx I1 r q
end
section
variable {X : Cx} {CX : CXT} {k : Nat} {f C : Addr} {fd : FuncData} {ps ks : List Str} {sp : Sp} {E : XK} {x m : Str} {p pos apos kpos : Pos} {e o : Expr} {es : List Expr} {kws : List Keyword} {te ta : TE} {t tk : TA} {nm : Option Str}
variable {g : List Value → List Value → List Value} {gV : List V → List V → List V}
end
structure FnScope (N P : List Str) (sc : Scope) : Prop where
  kind : sc.kind = .function
  co : sc.isCoroutine = false
  gen : sc.isGenerator = false
  nd : N.Nodup
  pre : N.take P.length = P
  par : ∀ x ∈ P, sc.names.lookup x = some .local ∨ sc.names.lookup x = some .cell
  nofree : ∀ y ∈ sc.names, y.2 ≠ .free
theorem bindL_out {kindOf : Str → Option NameKind} {x : Str} : ∀ {binds : List (Str × Value)} {m : Str → Option Value}, (∀ v, (x, v) ∉ binds) → bindL kindOf binds m x = m x
  | [], _, _ => rfl
  | (n, v) :: r, m, h => by
    unfold bindL
    rw [bindL_out fun w hw => h w (List.mem_cons_of_mem _ hw)]
    split
    · have : x ≠ n := by rintro rfl; exact h v List.mem_cons_self
      simp [this]
    · rfl
theorem bindC_out {kindOf : Str → Option NameKind} {x : Str} : ∀ {binds : List (Str × Value)} {m : Str → Option Value}, (∀ v, (x, v) ∉ binds) → bindC kindOf binds m x = m x
  | [], _, _ => rfl
  | (n, v) :: r, m, h => by
    unfold bindC
    rw [bindC_out fun w hw => h w (List.mem_cons_of_mem _ hw)]
    split
    · rfl
    · have : x ≠ n := by rintro rfl; exact h v List.mem_cons_self
      simp [this]
theorem bindL_get {kindOf : Str → Option NameKind} {x : Str} {v : Value} : ∀ {P : List Str} {vs : List Value} {i : Nat} {m : Str → Option Value}, P.Nodup → P[i]? = some x → vs[i]? = some v → kindOf x = some .local →
    bindL kindOf (P.zip vs) m x = some v
  | [], _, _, _, _, h, _, _ => by simp at h
  | _ :: _, [], _, _, _, _, h, _ => by simp at h
  | p :: P, w :: vs, 0, m, nd, h1, h2, hk => by
    simp at h1 h2; subst h1; subst h2
    show bindL kindOf ((p, w) :: P.zip vs) m p = _
    unfold bindL
    rw [bindL_out fun v hv => (List.nodup_cons.mp nd).1 (List.of_mem_zip hv).1, if_pos hk]
    simp
  | p :: P, w :: vs, i + 1, m, nd, h1, h2, hk => by
    show bindL kindOf ((p, w) :: P.zip vs) m x = _
    unfold bindL
    exact bindL_get (i := i) (List.nodup_cons.mp nd).2 (by simpa using h1) (by simpa using h2) hk
theorem bindC_get {kindOf : Str → Option NameKind} {x : Str} {v : Value} : ∀ {P : List Str} {vs : List Value} {i : Nat} {m : Str → Option Value}, P.Nodup → P[i]? = some x → vs[i]? = some v → kindOf x ≠ some .local →
    bindC kindOf (P.zip vs) m x = some v
  | [], _, _, _, _, h, _, _ => by simp at h
  | _ :: _, [], _, _, _, _, h, _ => by simp at h
  | p :: P, w :: vs, 0, m, nd, h1, h2, hk => by
    simp at h1 h2; subst h1; subst h2
    show bindC kindOf ((p, w) :: P.zip vs) m p = _
    unfold bindC
    rw [bindC_out fun v hv => (List.nodup_cons.mp nd).1 (List.of_mem_zip hv).1, if_neg hk]
    simp
  | p :: P, w :: vs, i + 1, m, nd, h1, h2, hk => by
    show bindC kindOf ((p, w) :: P.zip vs) m x = _
    unfold bindC
    exact bindC_get (i := i) (List.nodup_cons.mp nd).2 (by simpa using h1) (by simpa using h2) hk
def start (N : List Str) (vs : List V) : St := vs.map some ++ List.replicate (N.length - vs.length) none
def cxOf (CX : CXT) (P : Program) (w : World) (K : PySem.W.Frag) (mg : Str → Option Value) (base : Heap) (N : List Str) (qual : Str) (scope : Scope) (f : Addr) (cd : Value) (A : Around) (outer : List Env) (s : Shared) (H : Hp) (E : XK) : Cx where
  prog := P
  w := w
  K := K
  mg := mg
  base := base
  A := A.deeper (envOfC qual scope s.heap.objs.size f cd)
  N := N
  s₀ := s
  H₀ := H
  env := envOfC qual scope s.heap.objs.size f cd
  outer := outer
  stack := envOfC qual scope s.heap.objs.size f cd :: outer
  ex := []
  calm := true
  fn := fun _ => true
  pn := []
  xe := fun e s' => wpAny (model P w) (A.deeper (envOfC qual scope s.heap.objs.size f cd)) (leaving (envOfC qual scope s.heap.objs.size f cd) e) (fun _ s'' => CX outer H s E e s'') (fun e' s'' => CX outer H s E e' s'') s'
theorem cell_has {sc : Scope} {n : Nat} {x : Str} (h : sc.names.lookup x = some .cell) : ∃ c, (cellsFrom n sc.names []).lookup x = some c := by
  have q := PySem.W.cellsFrom_some sc.names n [] (.inl h)
  exact Option.isSome_iff_exists.mp q
theorem inv_start {CX : CXT} {P : Program} {w : World} {K : PySem.W.Frag} {mg : Str → Option Value} {base : Heap} {N ps : List Str} {qual : Str} {scope : Scope} {f : Addr} {cd : Value} {A : Around} {outer : List Env} {s s1 : Shared} {H : Hp} {E : XK} {us : List Value} {vs : List V}
    (S : FnScope N ps scope) (hd : A.handled = none) (e0 : Env0 P w K mg base A outer s H) (hl : vs.length = ps.length) (r : Vals vs us)
    (x : InCallC s s.heap.objs.size (bindL (envOfC qual scope s.heap.objs.size f cd).kindOf (ps.zip us) fun _ => none) (cellsFrom (s.heap.objs.size + 1) scope.names []) (bindC (envOfC qual scope s.heap.objs.size f cd).kindOf (ps.zip us) fun _ => none) s1) :
    Inv (cxOf CX P w K mg base N qual scope f cd A outer s H E) [] (start N vs) H s1 := by
  have hpl : ps.length ≤ N.length := by have := congrArg List.length S.pre; rw [List.length_take] at this; omega
  obtain ⟨h1, tk, rfl, hk⟩ := x.done
  have noA : ∀ b : Addr, b ∉ (cxOf CX P w K mg base N qual scope f cd A outer s H E).ex := fun b z => absurd (show b ∈ ([] : List Addr) from z) (by simp)
  refine ⟨⟨e0.mod, S.kind, rfl, rfl, Nat.le_refl _, fun y z c h1 h2 => ?_, fun y hy => ?_, fun y c _ h => ?_, fun _ => hd, Around.frames_deeper e0.frames, .inr ⟨rfl, rfl⟩, fun b z => absurd z (noA b), e0.bs, e0.bsz, fun b _ _ => noA b, fun b z => absurd z (noA b), e0.funs, e0.frf⟩,
    rfl, e0.bare, Un.kept hk, ⟨_, x.toInCall.ns, fun i y v h1 h2 h3 => ?_⟩, fun y c h => ⟨_, x.cell y c h⟩, e0.hok.fresh (Nat.le_refl _), fun y c h => ?_, fun p hp => absurd (show p ∈ ([] : List (Addr × Obj)) from hp) (by simp), e0.hok.kept hk, ?_⟩
  · exact name_of_addr x.apart (PySem.mem_of_lookup h1) (PySem.mem_of_lookup h2)
  · have hy : scope.names.lookup y = some .cell ∨ scope.names.lookup y = some .free := hy
    rcases hy with hy | hy
    · exact cell_has hy
    · exact absurd rfl (S.nofree _ (PySem.mem_of_lookup hy))
  · exact Nat.le_of_lt (x.above y c (PySem.mem_of_lookup h))
  · have hi : i < vs.length := by
      unfold start at h2
      by_cases hi : i < vs.length
      · exact hi
      · rw [List.getElem?_append_right (by simpa using hi)] at h2
        rw [List.getElem?_replicate] at h2
        split at h2 <;> cases h2
    have ha : vs[i]? = some v := by
      unfold start at h2
      rw [List.getElem?_append_left (by simpa using hi), List.getElem?_map] at h2
      cases e : vs[i]? with
      | none => rw [e] at h2; cases h2
      | some a => rw [e] at h2; cases h2; rfl
    obtain ⟨u, hu, rv⟩ := r.get ha
    have hp : ps[i]? = some y := by
      rw [← S.pre, List.getElem?_take_of_lt (by omega)]; exact h1
    have ndP : ps.Nodup := by rw [← S.pre]; exact S.nd.sublist (List.take_sublist _ _)
    refine ⟨u, rv, ?_⟩
    rcases S.par y (List.mem_of_getElem? hp) with k | k
    · exact .inl ⟨k, bindL_get ndP hp hu k⟩
    · obtain ⟨c, e⟩ := cell_has (n := s.heap.objs.size + 1) k
      refine .inr ⟨.inl k, c, e, ?_⟩
      have q := x.cell y c e
      rw [bindC_get ndP hp hu (by show scope.names.lookup y ≠ _; rw [k]; decide)] at q
      exact q
  · exact e0.hok.fresh (Nat.le_of_lt (x.above y c (PySem.mem_of_lookup h)))
  · unfold start
    show _ = N.length
    rw [List.length_append, List.length_map, List.length_replicate]
    omega
theorem fn_of {CX : CXT} {P : Program} {w : World} {K : PySem.W.Frag} {mg : Str → Option Value} {base : Heap} {k : Nat} {f : Addr} {name qual : Str} {params : Arguments} {body : List Stmt} {scope : Scope} {dV kV doc pm cdv ct oc : Value} {an od : Option Addr}
    {osl : Array (Option Value)} {N ps : List Str} {sp : Sp} (lk : K.lookup f = some ⟨oc, od, .func (PySem.W.fnOf name qual params body scope dV kV doc pm an cdv ct), osl⟩) (hcd : PySem.W.codeIn K cdv qual = true) (S : FnScope N ps scope)
    (len : ∀ vs H Q E, sp vs H Q E → vs.length = ps.length)
    (hbody : ∀ (A : Around) (outer : List Env) (s : Shared) (H : Hp) (vs : List V) (Q : VK) (E : XK), Room k (A.deeper (envOfC qual scope s.heap.objs.size f cdv)) → sp vs H Q E →
      ∃ t, PSs (cxOf CX P w K mg base N qual scope f cdv A outer s H E) body t ∧ t { nx := fun _ H' => Q .non H', rt := Q } (start N vs) H) :
    FnOk P w K mg base CX (k + 1) f (PySem.W.fnOf name qual params body scope dV kV doc pm an cdv ct) ps sp := by
  refine ⟨len, fun A outer s H args us vs Q E hr e0 hb r hsp => ?_⟩
  have hl := len _ _ _ _ hsp
  have KX : K.In s.heap := e0.mod.kin.keeps fun b o e => (e0.bs b o e).1
  have lim : s.heap.NoLimit := e0.mod.nolimit.keeps fun b o e => (e0.bs b o e).1
  have hkind : ∀ y ∈ ps.zip us, scope.names.lookup y.1 = some .local ∨ (scope.names.lookup y.1 = some .cell ∧ ((cellsFrom (s.heap.objs.size + 1) scope.names []).lookup y.1).isSome = true) := fun ⟨n, v⟩ hy => by
    rcases S.par n (List.of_mem_zip hy).1 with q | q
    · exact .inl q
    · exact .inr ⟨q, PySem.W.cellsFrom_some _ _ _ (.inl q)⟩
  refine codeAny_call_function hr.depth (KX _ _ lk) rfl S.co S.gen rfl (PySem.W.codeRec_of KX hcd) (hb _ _ _ _ ?_)
  refine wpAny_newFunctionEnv_cells S.kind hkind fun env he s1 x => ?_
  subst he
  refine ⟨lim.keeps x.toInCall.keep, codeAny_func ?_⟩
  obtain ⟨t, ht, hq⟩ := hbody A outer s H vs Q E (hr.deeper _) hsp
  have I : Inv (cxOf CX P w K mg base N qual scope f cdv A outer s H E) [] (start N vs) H s1 := inv_start S hr.hd e0 hl r x
  refine wpAny_mono (ht [] s1 (start N vs) H _ I hq) (fun fl s' hs => ?_) fun e s' hs => hs
  have fin : ∀ {σ' : St} {H' : Hp} {v : V} {u : Value}, Inv (cxOf CX P w K mg base N qual scope f cdv A outer s H E) [] σ' H' s' → RelV v u → Q v H' → CE outer P w H s Q u s' :=
    fun {σ' H' v u} J rv q => ⟨v, H', J.os, J.bare, J.base, J.hok, rv, q⟩
  cases fl with
  | ret u =>
    obtain ⟨v, σ', H', J, rv, q⟩ := hs
    exact fin J rv q
  | next =>
    obtain ⟨σ', H', J, q⟩ := hs
    exact fin (v := V.non) (u := Value.none) J rfl q
  | brk =>
    obtain ⟨_, _, _, q⟩ := hs
    exact False.elim q
  | cont =>
    obtain ⟨_, _, _, q⟩ := hs
    exact False.elim q
end L2
namespace L2
open PySem PySem.Spec PyProof.Rows
section
variable {X : Cx} {x : Str} {p pos : Pos} {e : Expr} {es : List Expr} {t : TA} {id T : String} {r : List V → Hp → VK → Prop}
def tCB (r : List V → Hp → VK → Prop) (t : TA) : TE := fun σ H Q => t σ H fun vs H1 => r vs H1 Q
theorem pe_callB (hc : CallR X (.builtin id) r) (hg : Gl X x) (hm : X.mg x = none) (hv : bootBuiltins x = some (.builtin id)) (ha : PA X (e :: es) t) (hn : x ≠ "__name__" := by decide) (hdb : (x == ("__debug__" : Str)) = false := by decide)
    (he : starEach (e :: es) X.env = (false, eval e X.env) :: starEach es X.env := by rfl) (hpl : (backTo pos (starEach es X.env)).any (·.1) = false := by rfl) : PE X (.Call (.Name x p) (e :: es) [] pos) (tCB r t) := by
  intro pins s σ H Q I h
  refine wpAny_Call_Name_kw (ld_blt I hg hm hv ?_ hn hdb)
  exact PyProof.Rows.callWith_builtin1 (thn (ha pos pins s σ H _ I h) fun us s1 ⟨vs, H1, I1, r1, q1⟩ => hc pins s1 σ H1 vs us Q I1 r1 q1) he hpl
theorem pe_callTy (hc : CallR X (.type T) r) (hg : Gl X x) (hm : X.mg x = none) (hv : bootBuiltins x = some (.type T)) (ha : PA X (e :: es) t) (hn : x ≠ "__name__" := by decide) (hdb : (x == ("__debug__" : Str)) = false := by decide)
    (he : starEach (e :: es) X.env = (false, eval e X.env) :: starEach es X.env := by rfl) (hpl : (backTo pos (starEach es X.env)).any (·.1) = false := by rfl) : PE X (.Call (.Name x p) (e :: es) [] pos) (tCB r t) := by
  intro pins s σ H Q I h
  refine wpAny_Call_Name_kw (ld_blt I hg hm hv ?_ hn hdb)
  exact PyProof.Rows.callWith_type1 (thn (ha pos pins s σ H _ I h) fun us s1 ⟨vs, H1, I1, r1, q1⟩ => hc pins s1 σ H1 vs us Q I1 r1 q1) he hpl
end
end L2
namespace HT
open PySem PyProof.Rows
section
open PySem.SeqAt
open PySem.AutoSeq1 (wpAny_loadPart')
open PySem.MeetsSeq PySem.MeetsSeq2 PySem.MeetsSeq3
end
section
variable {prog : Program} {w : World} {A : Around} {E : Value → Shared → Prop} {s : Shared}
end
end HT
namespace L2
open PySem PySem.Spec PyProof.Rows
abbrev TO := St → Hp → (Option Int → Hp → Prop) → Prop
section
variable {X : Cx} {e : Expr} {te : TE} {lo hi : Option Expr} {tl th : TO} {pos p2 : Pos}
def SlR (X : Cx) (r : V → Option Int → Option Int → Hp → VK → Prop) : Prop :=
  ∀ (pins : List (Addr × Obj)) (s : Shared) (σ : St) (H : Hp) (x : V) (v vl vu : Value) (lo hi : Option Int) (sl : Addr) (Q : VK), Inv X pins σ H s → RelV x v → s.heap.IsSliceOf sl vl vu .none → IsPart vl lo → IsPart vu hi → r x lo hi H Q →
    ∃ T id, typeLookup (.type T) "__getitem__" = pure (some (.builtin id)) ∧ s.TypeIs v T ∧ wpAny (model X.prog X.w) X.A (getItem v (.ref sl)) (EP X pins σ Q) X.xe s
theorem SlR.or {r r' : V → Option Int → Option Int → Hp → VK → Prop} (h : SlR X r) (h' : SlR X r') : SlR X (fun x lo hi H Q => r x lo hi H Q ∨ r' x lo hi H Q) := by
  intro pins s σ H x v vl vu lo hi sl Q I rx hs pl pu q
  rcases q with q | q
  · exact h pins s σ H x v vl vu lo hi sl Q I rx hs pl pu q
  · exact h' pins s σ H x v vl vu lo hi sl Q I rx hs pl pu q
end
end L2
namespace L2
open PySem PySem.Spec PyProof.Rows
def ixN (n : Nat) (i : Int) : Option Nat := if 0 ≤ i then (if i < n then some i.toNat else none) else if -(n : Int) ≤ i then some (i + n).toNat else none
def atI {α : Type} (xs : List α) (i : Int) : Option α := (ixN xs.length i).bind fun j => xs[j]?
theorem ixN_seq {n : Nat} {i : Int} {j : Nat} (h : ixN n i = some j) : seqIndex? i n = some j ∧ j < n ∧ -(n : Int) ≤ i ∧ i < n := by
  unfold ixN at h
  by_cases h0 : 0 ≤ i
  · rw [if_pos h0] at h
    by_cases h1 : i < n
    · rw [if_pos h1] at h
      have e : i.toNat = j := Option.some.inj h
      exact ⟨by rw [seqIndex_of h0 h1, e], by omega, by omega, h1⟩
    · rw [if_neg h1] at h; cases h
  · rw [if_neg h0] at h
    by_cases h1 : -(n : Int) ≤ i
    · rw [if_pos h1] at h
      have e : (i + n).toNat = j := Option.some.inj h
      exact ⟨by rw [seqIndex_neg (by omega) h1, e], by omega, h1, by omega⟩
    · rw [if_neg h1] at h; cases h
theorem atI_get {α : Type} {xs : List α} {i : Int} {v : α} (h : atI xs i = some v) : ∃ j, seqIndex? i xs.length = some j ∧ xs[j]? = some v ∧ j < xs.length ∧ -(xs.length : Int) ≤ i ∧ i < xs.length := by
  unfold atI at h
  cases e : ixN xs.length i with
  | none => rw [e] at h; cases h
  | some j =>
    rw [e] at h
    obtain ⟨h1, h2, h3, h4⟩ := ixN_seq e
    exact ⟨j, h1, h, h2, h3, h4⟩
theorem atI_nat {α : Type} {xs : List α} {j : Nat} {v : α} (h : xs[j]? = some v) : atI xs (j : Int) = some v := by
  have hj : j < xs.length := (List.getElem?_eq_some_iff.mp h).1
  have e : ixN xs.length (j : Int) = some j := by
    unfold ixN
    rw [if_pos (by omega), if_pos (by omega)]; simp
  unfold atI; rw [e]; exact h
def PlainIx (b : Expr) : Prop := ∀ o i, subscripted b false o i = operate [o, i] (getItem o i)
def IxR (X : Cx) (r : R2) : Prop :=
  ∀ (value slice : Expr) (pins : List (Addr × Obj)) (s : Shared) (σ : St) (H : Hp) (x y : V) (v u : Value) (Q : VK), Inv X pins σ H s → RelV x v → RelV y u → r x y H Q →
    subscripted slice false v u = operate [v, u] (getItem v u) → wpAny (model X.prog X.w) X.A (subscriptTail value slice v u) (EP X pins σ Q) X.xe s
def MtR (X : Cx) (id : String) (r : V → List V → Hp → VK → Prop) : Prop :=
  ∀ (pins : List (Addr × Obj)) (s : Shared) (σ : St) (H : Hp) (x : V) (xs : List V) (v : Value) (us : List Value) (Q : VK), Inv X pins σ H s → RelV x v → Vals xs us → r x xs H Q →
    wpAny (model X.prog X.w) X.A (call (.builtin id) (v :: us)) (EP X pins σ Q) X.xe s
section
variable {X : Cx} {a b : Expr} {ta tb : TE} {pos : Pos}
theorem IxR.or {r r' : R2} (h : IxR X r) (h' : IxR X r') : IxR X (fun x y H Q => r x y H Q ∨ r' x y H Q) := by
  intro value slice pins s σ H x y v u Q I rx ry q hs
  rcases q with q | q
  · exact h value slice pins s σ H x y v u Q I rx ry q hs
  · exact h' value slice pins s σ H x y v u Q I rx ry q hs
theorem MtR.or {id : String} {r r' : V → List V → Hp → VK → Prop} (h : MtR X id r) (h' : MtR X id r') : MtR X id (fun x xs H Q => r x xs H Q ∨ r' x xs H Q) := by
  intro pins s σ H x xs v us Q I rx rs q
  rcases q with q | q
  · exact h pins s σ H x xs v us Q I rx rs q
  · exact h' pins s σ H x xs v us Q I rx rs q
theorem pe_ix {r : R2} (hr : IxR X r) (ha : PE X a ta) (hb : PE X b tb) (hs : PlainIx b) : PE X (.Subscript a b pos) (tOp r ta tb) := by
  intro pins s σ H Q I h
  exact Subscript_ (binT ha hb I h fun v u s2 x y H2 I2 rx ry q => hr a b pins s2 σ H2 x y v u Q I2 rx ry q (hs _ _))
def rIxL (K : PySem.W.Frag) : R2 := fun x y H Q => ∃ p xs i v, x = .ref p ∧ y = .int i ∧ SqL K H p xs ∧ atI xs i = some v ∧ Q v H
def rIxT (K : PySem.W.Frag) : R2 := fun x y H Q => ∃ p xs i v, x = .ref p ∧ y = .int i ∧ SqT K H p xs ∧ atI xs i = some v ∧ Q v H
theorem ix_list : IxR X (rIxL X.K) := by
  intro value slice pins s σ H x y v u Q I rx ry h hs
  obtain ⟨p, xs, i, z, rfl, rfl, hq, he, q⟩ := h
  cases rx
  obtain ⟨t, rfl⟩ := ry
  obtain ⟨its, r, pl, hz⟩ := I.list hq
  obtain ⟨j, h1, h2, h3, h4, h5⟩ := atI_get he
  obtain ⟨w, ew, rw'⟩ := r.get h2
  have hl := r.length
  have hn := line63
  have fin : EP X pins σ Q w s := ⟨z, H, I, rw', q⟩
  by_cases h0 : 0 ≤ i
  · have hj : i.toNat = j := by
      rw [seqIndex_of h0 h5] at h1
      exact Option.some.inj h1
    exact item_listR pl.isList h0 (by omega) (by rw [hj]; simpa using ew) fin hs
  · have hj : (i + (its.toArray.size : Int)).toNat = j := by
      rw [seqIndex_neg (by omega) h4] at h1
      rw [List.size_toArray, ← hl]
      exact Option.some.inj h1
    exact subscriptTail_builtinR (x := w) pl.isList.typeIs slot_list_getitem.lookup
      (wpAny_getItem_list_neg (Q := fun r s' => r = w ∧ EP X pins σ Q r s') pl.isList (by omega) (by rw [List.size_toArray] <;> omega) (by omega) (by rw [hj]; simpa using ew) ⟨rfl, fin⟩) hs
theorem ix_tup : IxR X (rIxT X.K) := by
  intro value slice pins s σ H x y v u Q I rx ry h hs
  obtain ⟨p, xs, i, z, rfl, rfl, hq, he, q⟩ := h
  cases rx
  obtain ⟨t, rfl⟩ := ry
  obtain ⟨its, r, pl, hz⟩ := I.tuple hq
  obtain ⟨j, h1, h2, h3, h4, h5⟩ := atI_get he
  obtain ⟨w, ew, rw'⟩ := r.get h2
  have hl := r.length
  have hn := line63
  have fin : EP X pins σ Q w s := ⟨z, H, I, rw', q⟩
  exact subscriptTail_builtinR (x := w) pl.typeIs slot_tuple_getitem.lookup
    (getItem_tuple (j := j) (Q := fun r s' => r = w ∧ EP X pins σ Q r s') pl (by omega) (by omega) (by rw [List.size_toArray, ← hl]; exact h1) (by simpa using ew) ⟨rfl, fin⟩) hs
theorem mapSeq_set (its : List Value) (n j : Nat) (u : Value) : Obj.mapSeq (·.setIfInBounds j u) { cls := .type "list", data := .seq its.toArray n } = { cls := .type "list", data := .seq (its.set j u).toArray n } := by
  simp [Obj.mapSeq]
theorem Inv.lst {pins : List (Addr × Obj)} {σ : St} {H : Hp} {s : Shared} {p : Addr} {xs : List V} (I : Inv X pins σ H s) (h : H p = some (.lst xs)) :
    ∃ (its : List Value) (n : Nat), Vals xs its ∧ s.heap.get? p = some { cls := .type "list", data := .seq its.toArray n } ∧ xs.length ≤ sizeLine := by
  obtain ⟨z, its, n, r, e⟩ := I.hok p _ h
  exact ⟨its, n, r, e, z⟩
theorem Inv.lstUpd {pins : List (Addr × Obj)} {σ : St} {H : Hp} {s : Shared} {p : Addr} {xs ys : List V} {its its' : List Value} {n n' : Nat} {f : Obj → Obj} (I : Inv X pins σ H s) (h : H p = some (.lst xs))
    (ho : s.heap.get? p = some { cls := .type "list", data := .seq its.toArray n }) (hf : f { cls := .type "list", data := .seq its.toArray n } = { cls := .type "list", data := .seq its'.toArray n' }) (r : Vals ys its') (hz : ys.length ≤ sizeLine) (t : Nat) :
    Inv X pins σ (upd H p (.lst ys)) { s with heap := s.heap.update p f, toks := t } := by
  have e : (s.heap.update p f).get? p = some { cls := .type "list", data := .seq its'.toArray n' } := by
    rw [Heap.get?_update_self f ho (by rw [hf] <;> rfl), hf]
  refine I.write (x := p) (e := p) (by rw [h]; trivial) (.inl rfl) (fun b u hb q => (Heap.get?_update_other _ _ (Ne.symm hb)).trans q) ⟨_, e⟩ ?_
  exact ⟨hz, its', n', r, e⟩
def rSetL : V → V → V → Hp → (Hp → Prop) → Prop := fun o i v H Q => ∃ p xs k j, o = .ref p ∧ i = .int k ∧ H p = some (.lst xs) ∧ ixN xs.length k = some j ∧ Q (upd H p (.lst (xs.set j v)))
theorem set_list : PSet X rSetL := by
  intro pins s σ H o i v ov iv u Q I ro ri rv h
  obtain ⟨p, xs, k, j, rfl, rfl, hp, hj, q⟩ := h
  cases ro
  obtain ⟨t, rfl⟩ := ri
  obtain ⟨its, n, r, ho, hz⟩ := I.lst hp
  obtain ⟨h1, h2, h3, h4⟩ := ixN_seq hj
  have hl := r.length
  have hn := line63
  have I' : Inv X pins σ (upd H p (.lst (xs.set j v))) { s with heap := s.heap.update p (Obj.mapSeq (·.setIfInBounds j u)) } :=
    I.lstUpd hp ho (mapSeq_set its n j u) (r.set rv j) (by rw [List.length_set]; exact hz) s.toks
  by_cases h0 : 0 ≤ k
  · have hk : k.toNat = j := by
      rw [seqIndex_of h0 h4] at h1
      exact Option.some.inj h1
    exact PySem.W.ki_setAt ho h0 (by omega) (by rw [List.size_toArray, ← hl]; exact h4) (by rw [hk]; exact ⟨_, I', q⟩)
  · have hk : (k + (its.toArray.size : Int)).toNat = j := by
      rw [seqIndex_neg (by omega) h3] at h1
      rw [List.size_toArray, ← hl]
      exact Option.some.inj h1
    exact PySem.W.ki_setBack ho (by omega) (by rw [List.size_toArray, ← hl]; exact h3) (by omega) (by rw [hk]; exact ⟨_, I', q⟩)
def flatV : V → Bool
  | .non => true
  | .bl _ => true
  | .int _ => true
  | .str _ => true
  | _ => false
def eqV : V → V → Bool
  | .non, .non => true
  | .bl a, .bl b => a == b
  | .bl a, .int b => (if a then 1 else 0) == b
  | .int a, .bl b => a == (if b then 1 else 0)
  | .int a, .int b => a == b
  | .str a, .str b => a == b
  | _, _ => false
theorem eqAt_V {A : Around} {s : Shared} {y x : V} {u v : Value} (ry : RelV y u) (rx : RelV x v) (fy : flatV y = true) (fx : flatV x = true) : SeqAt.EqAt A s u v (eqV y x) := by
  cases y with
  | non =>
    cases ry
    cases x with
    | non => cases rx; exact SeqAt.EqAt.same _
    | bl b => cases rx; exact SeqAt.EqAt.none_bool b
    | int b => obtain ⟨t, rfl⟩ := rx; exact SeqAt.EqAt.none_int b t
    | str b => obtain ⟨t, rfl⟩ := rx; exact SeqAt.EqAt.none_str b t
    | _ => exact absurd (show false = true from fx) Bool.false_ne_true
  | bl a =>
    cases ry
    cases x with
    | non => cases rx; exact SeqAt.EqAt.bool_none a
    | bl b => cases rx; exact SeqAt.EqAt.bool_bool a b
    | int b => obtain ⟨t, rfl⟩ := rx; exact SeqAt.EqAt.bool_int a b t
    | str b => obtain ⟨t, rfl⟩ := rx; exact SeqAt.EqAt.bool_str a b t
    | _ => exact absurd (show false = true from fx) Bool.false_ne_true
  | int a =>
    obtain ⟨t', rfl⟩ := ry
    cases x with
    | non => cases rx; exact SeqAt.EqAt.int_none a t'
    | bl b => cases rx; exact SeqAt.EqAt.int_bool a t' b
    | int b => obtain ⟨t, rfl⟩ := rx; exact SeqAt.EqAt.int_int a t' b t
    | str b => obtain ⟨t, rfl⟩ := rx; exact SeqAt.EqAt.int_str a t' b t
    | _ => exact absurd (show false = true from fx) Bool.false_ne_true
  | str a =>
    obtain ⟨t', rfl⟩ := ry
    cases x with
    | non => cases rx; exact SeqAt.EqAt.str_none a t'
    | bl b => cases rx; exact SeqAt.EqAt.str_bool a t' b
    | int b => obtain ⟨t, rfl⟩ := rx; exact SeqAt.EqAt.str_int a t' b t
    | str b => obtain ⟨t, rfl⟩ := rx; exact SeqAt.EqAt.str_str a t' b t
    | _ => exact absurd (show false = true from fx) Bool.false_ne_true
  | _ => exact absurd (show false = true from fy) Bool.false_ne_true
def eqU (x : V) (u : Value) : Bool := match u with
  | .none => eqV .non x
  | .bool b => eqV (.bl b) x
  | .int i _ => eqV (.int i) x
  | .str z _ => eqV (.str z) x
  | _ => false
theorem eqU_of {x y : V} {u : Value} (r : RelV y u) (f : flatV y = true) : eqU x u = eqV y x := by
  cases y with
  | non => cases r; rfl
  | bl b => cases r; rfl
  | int i => obtain ⟨t, rfl⟩ := r; rfl
  | str z => obtain ⟨t, rfl⟩ := r; rfl
  | _ => exact absurd (show false = true from f) Bool.false_ne_true
theorem any_eqU {x : V} : ∀ {xs : List V} {us : List Value}, Vals xs us → xs.all flatV = true → us.any (eqU x) = xs.any fun y => eqV y x
  | _, _, .nil, _ => rfl
  | y :: xs, u :: us, .cons r t, f => by
    rw [List.all_cons, Bool.and_eq_true] at f
    rw [List.any_cons, List.any_cons, eqU_of r f.1, any_eqU t f.2]
theorem mem_eqAt {A : Around} {s : Shared} {x : V} {v : Value} (rx : RelV x v) (fx : flatV x = true) : ∀ {xs : List V} {us : List Value}, Vals xs us → xs.all flatV = true → ∀ u ∈ us, SeqAt.EqAt A s u v (eqU x u)
  | _, _, .nil, _ => fun u hu => by cases hu
  | y :: xs, u :: us, .cons r t, f => fun u' hu => by
    rw [List.all_cons, Bool.and_eq_true] at f
    rcases List.mem_cons.mp hu with rfl | hu
    · rw [eqU_of r f.1]; exact eqAt_V r rx f.1 fx
    · exact mem_eqAt rx fx t f.2 u' hu
def inV (x : V) (xs : List V) : Bool := xs.any fun y => eqV y x
def rIn (K : PySem.W.Frag) (neg : Bool) : R2 := fun x y H Q => ∃ p xs, y = .ref p ∧ (SqL K H p xs ∨ SqT K H p xs) ∧ flatV x = true ∧ xs.all flatV = true ∧ Q (.bl (if neg then !inV x xs else inV x xs)) H
theorem op_in_seq : OpR X (compareOp .In) (rIn X.K false) := by
  intro pins s σ H x y v u Q I rx ry h
  obtain ⟨p, xs, rfl, hq, fx, fs, q⟩ := h
  cases ry
  rcases hq with hq | hq
  · obtain ⟨its, r, pl, hz⟩ := I.list hq
    refine SeqAt.in_listAt (eqU x) pl.isList (fun w hw => mem_eqAt rx fx r fs w (by simpa using hw)) ⟨.bl _, H, I, rfl, ?_⟩
    rw [show its.toArray.any (eqU x) = its.any (eqU x) by simp, any_eqU r fs]
    exact q
  · obtain ⟨its, r, pl, hz⟩ := I.tuple hq
    refine SeqAt.in_tupleAt (eqU x) pl (fun w hw => mem_eqAt rx fx r fs w (by simpa using hw)) ⟨.bl _, H, I, rfl, ?_⟩
    rw [show its.toArray.any (eqU x) = its.any (eqU x) by simp, any_eqU r fs]
    exact q
theorem call_len_seq : CallR X (.builtin "len") (fun xs H Q => ∃ p ys, xs = [.ref p] ∧ (SqL X.K H p ys ∨ SqT X.K H p ys) ∧ Q (.int ys.length) H) := by
  intro pins s σ H xs us Q I r h
  obtain ⟨p, ys, rfl, hq, q⟩ := h
  obtain ⟨u, rfl, rx⟩ := vals1 r
  cases rx
  have hn := line63
  rcases hq with hq | hq
  · obtain ⟨its, r', pl, hz⟩ := I.list hq
    have hlen := r'.length
    exact Calls.call_len_list pl.isList (by simp only [List.size_toArray] <;> omega) ⟨.int ys.length, H, I.tok _, ⟨s.toks + 1, by rw [List.size_toArray, hlen]⟩, q⟩
  · obtain ⟨its, r', pl, hz⟩ := I.tuple hq
    have hlen := r'.length
    exact len_tuple pl (by simp only [List.size_toArray] <;> omega) ⟨.int ys.length, H, I.tok _, ⟨s.toks + 1, by rw [List.size_toArray, hlen]⟩, q⟩
theorem CallR.or {f : Value} {r r' : List V → Hp → VK → Prop} (h : CallR X f r) (h' : CallR X f r') : CallR X f (fun xs H Q => r xs H Q ∨ r' xs H Q) := by
  intro pins s σ H xs us Q I rs q
  rcases q with q | q
  · exact h pins s σ H xs us Q I rs q
  · exact h' pins s σ H xs us Q I rs q
theorem call_list_of : CallR X (.type "list") (fun xs H Q => ∃ p ys, xs = [.ref p] ∧ (SqL X.K H p ys ∨ SqT X.K H p ys) ∧ ∀ l, H l = none → Q (.ref l) (upd H l (.lst ys))) := by
  intro pins s σ H xs us Q I r h
  obtain ⟨p, ys, rfl, hq, q⟩ := h
  obtain ⟨u, rfl, rx⟩ := vals1 r
  cases rx
  have fin : ∀ (its : List Value), Vals ys its → ys.length ≤ sizeLine → ∀ (h' : Heap) (c' : Nat), (∀ b o', s.heap.get? b = some o' → h'.get? b = some o') →
      h'.get? s.heap.objs.size = some { cls := .type "list", dict := none, data := .seq its.toArray c', slots := #[] } → EP X pins σ Q (.ref s.heap.objs.size) { s with heap := h' } := fun its r' hz h' c' kp e =>
    ⟨.ref s.heap.objs.size, _, I.laid (t' := s.toks) kp (Nat.le_refl _) (show ObjOk X.prog X.w _ h' _ (.lst ys) from ⟨hz, its, c', r', e⟩), rfl, q _ (I.hok.fresh (Nat.le_refl _))⟩
  rcases hq with hq | hq
  · obtain ⟨its, r', pl, hz⟩ := I.list hq
    have hlen := r'.length
    obtain ⟨o, ho, hc, n, hd⟩ := pl.isList
    exact call_list_seq p (.inl rfl) ho hc hd (fun h' c' kp e => fin its r' hz h' c' kp e) (by simp only [List.size_toArray] <;> omega)
  · obtain ⟨its, r', pl, hz⟩ := I.tuple hq
    have hlen := r'.length
    obtain ⟨o, ho, hc, n, hd⟩ := pl
    exact call_list_seq p (.inr rfl) ho hc hd (fun h' c' kp e => fin its r' hz h' c' kp e) (by simp only [List.size_toArray] <;> omega)
def tyV (K : PySem.W.Frag) (T : String) (x : V) (H : Hp) : Prop := match x with
  | .str _ => T = "str"
  | .int _ => T = "int"
  | .ref p => (T = "list" ∧ ∃ xs, SqL K H p xs) ∨ (T = "tuple" ∧ ∃ o, K.lookup p = some o ∧ o.cls = .type "tuple" ∧ o.dict = none) ∨
      (T = "dict" ∧ ((∃ kvs, H p = some (.dK kvs)) ∨ ∃ kvs, H p = some (.dT kvs))) ∨ (T = "set" ∧ ∃ S n, H p = some (.set S n))
  | _ => False
theorem tyV_is {pins : List (Addr × Obj)} {σ : St} {H : Hp} {s : Shared} {T : String} {x : V} {v : Value} (I : Inv X pins σ H s) (r : RelV x v) (ty : tyV X.K T x H) :
    s.TypeIs v T ∧ ∀ a, v = .ref a → ∃ ob, s.heap.get? a = some ob ∧ ob.dict = none := by
  cases x with
  | str z =>
    obtain ⟨t, rfl⟩ := r
    cases (show T = "str" from ty)
    exact ⟨typeIs_str s z t, fun _ e => nomatch e⟩
  | int i =>
    obtain ⟨t, rfl⟩ := r
    cases (show T = "int" from ty)
    exact ⟨typeIs_int s i t, fun _ e => nomatch e⟩
  | ref p =>
    cases r
    rcases ty with ⟨rfl, xs, hq⟩ | ⟨rfl, o, hk, hc, hd⟩ | ⟨rfl, hk⟩ | ⟨rfl, S, n, hk⟩
    · obtain ⟨its, _, pl, _⟩ := I.list hq
      refine ⟨pl.isList.typeIs, fun a e => ?_⟩
      cases e
      obtain ⟨o, n, e, c, hd, _⟩ := pl
      exact ⟨o, e, hd⟩
    · refine ⟨⟨o, I.kIn p o hk, hc⟩, fun a e => ?_⟩
      cases e
      exact ⟨o, I.kIn _ o hk, hd⟩
    · have z : ∃ o, s.heap.get? p = some o ∧ o.ExactDict := by
        rcases hk with ⟨kvs, hk⟩ | ⟨kvs, hk⟩
        · obtain ⟨_, _, _, _, o, _, _, e, ex, _⟩ := I.hok p _ hk
          exact ⟨o, e, ex⟩
        · obtain ⟨_, _, _, _, o, _, _, e, ex, _⟩ := I.hok p _ hk
          exact ⟨o, e, ex⟩
      obtain ⟨o, e, ex⟩ := z
      refine ⟨⟨o, e, ex.1⟩, fun a e2 => ?_⟩
      cases e2
      exact ⟨o, e, ex.2.1⟩
    · obtain ⟨o, _, _, _, e, ex, _⟩ := I.hok p _ hk
      refine ⟨⟨o, e, ex.1⟩, fun a e2 => ?_⟩
      cases e2
      exact ⟨o, e, ex.2.1⟩
  | _ => exact False.elim ty
def tBM0 (K : PySem.W.Frag) (T : String) (r : V → List V → Hp → VK → Prop) (to : TE) : TE := fun σ H Q => to σ H fun x H1 => tyV K T x H1 ∧ r x [] H1 Q
def tBM (K : PySem.W.Frag) (T : String) (r : V → List V → Hp → VK → Prop) (to : TE) (t : TA) : TE := fun σ H Q => to σ H fun x H1 => tyV K T x H1 ∧ t σ H1 fun xs H2 => r x xs H2 Q
variable {o e : Expr} {es : List Expr} {to : TE} {t : TA} {name : Str} {apos cpos : Pos} {T id : String} {r : V → List V → Hp → VK → Prop}
theorem pe_bm0 (pa : PlainAttrs T) (slot : Slot T name id) (hty : typeOf (.builtin id) = pure (.type "method_descriptor")) (hm : MtR X id r) (ho : PE X o to)
    (hbase : attributeBase o name X.env (eval o X.env) = eval o X.env := by rfl) (hline : (apos.endLine == cpos.line) = true := by rfl) : PE X (.Call (.Attribute o name apos) [] [] cpos) (tBM0 X.K T r to) := by
  intro pins s σ H Q I h
  refine wpAny_Call_method0_late hbase hline (thn (ho pins s σ H _ I h) fun v s1 ⟨x, H1, I1, r1, ty, q1⟩ => ?_)
  obtain ⟨h1, h2⟩ := tyV_is I1 r1 ty
  exact ⟨T, id, pa, slot, hty, h1, h2, Calls.callWith_builtin rfl (PySem.evalArgs_none (hm pins s1 σ H1 x [] v [] Q I1 r1 .nil q1))⟩
theorem pe_bm (pa : PlainAttrs T) (slot : Slot T name id) (hty : typeOf (.builtin id) = pure (.type "method_descriptor")) (hm : MtR X id r) (ho : PE X o to) (ha : PA X (e :: es) t)
    (hbase : attributeBase o name X.env (eval o X.env) = eval o X.env := by rfl)
    (hfew : ((backTo cpos (starEach (e :: es) X.env)).all (fun x => !x.1) && (backToKw cpos (keywordEach [] X.env)).all (fun x => x.1.isSome)
      && decide ((e :: es).length + ([] : List Keyword).length + (if ([] : List Keyword).isEmpty then 0 else 1) < 30)) = true := by rfl)
    (hline : (apos.endLine == cpos.line) = true := by rfl) (hs : starEach (e :: es) X.env = (false, eval e X.env) :: starEach es X.env := by rfl) (hplain : (backTo cpos (starEach es X.env)).any (·.1) = false := by rfl) :
    PE X (.Call (.Attribute o name apos) (e :: es) [] cpos) (tBM X.K T r to t) := by
  intro pins s σ H Q I h
  refine wpAny_Call_method_late hbase hfew hline rfl (thn (ho pins s σ H _ I h) fun v s1 ⟨x, H1, I1, r1, ty, q1⟩ => ?_)
  obtain ⟨h1, h2⟩ := tyV_is I1 r1 ty
  refine ⟨T, id, pa, slot, hty, h1, h2, ?_⟩
  have hA := ha cpos pins s1 σ H1 _ I1 q1
  rw [hs] at hA ⊢
  refine Calls.callWith_builtin (by show (false || (backTo cpos (starEach es X.env)).any (·.1)) = false; rw [hplain] <;> rfl) (Calls.evalArgs_plain ?_)
  exact thn hA fun us s2 ⟨vs, H2, I2, r2, q2⟩ => hm pins s2 σ H2 x vs v us Q I2 r1 r2 q2
end
end L2
namespace L2
open PySem PySem.Spec PyProof.Rows
def MtM (X : Cx) (id : String) (r : V → List V → Hp → VK → Prop) : Prop :=
  ∀ (pins : List (Addr × Obj)) (s : Shared) (σ : St) (H : Hp) (x : V) (xs : List V) (v : Value) (us : List Value) (Q : VK), Inv X pins σ H s → RelV x v → Vals xs us → r x xs H Q →
    wpAny (model X.prog X.w) X.A (call (.builtin id) (v :: us)) (EP X pins σ Q) X.xe s
theorem Vals.one : ∀ {x : V} {us : List Value}, Vals [x] us → ∃ u, us = [u] ∧ RelV x u
  | _, _, .cons r .nil => ⟨_, rfl, r⟩
theorem Vals.two : ∀ {x y : V} {us : List Value}, Vals [x, y] us → ∃ u v, us = [u, v] ∧ RelV x u ∧ RelV y v
  | _, _, _, .cons r (.cons q .nil) => ⟨_, _, rfl, r, q⟩
theorem Vals.zero : ∀ {us : List Value}, Vals [] us → us = []
  | _, .nil => rfl
theorem Vals.dropLast {xs : List V} {us : List Value} (h : Vals xs us) : Vals xs.dropLast us.dropLast := by
  induction h with
  | nil => exact .nil
  | cons r t ih =>
    cases t with
    | nil => exact .nil
    | cons q t' => exact .cons r ih
theorem Vals.reverse {xs : List V} {us : List Value} (h : Vals xs us) : Vals xs.reverse us.reverse := by
  induction h with
  | nil => exact .nil
  | cons r t ih => rw [List.reverse_cons, List.reverse_cons]; exact Vals.append ih (.cons r .nil)
theorem Vals.rep {xs : List V} {us : List Value} (h : Vals xs us) : ∀ k : Nat, Vals (List.replicate k xs).flatten (List.replicate k us).flatten
  | 0 => .nil
  | k + 1 => by
    rw [List.replicate_succ, List.replicate_succ, List.flatten_cons, List.flatten_cons]
    exact Vals.append h (Vals.rep h k)
theorem foldl_rep (its : List Value) : ∀ (k : Nat) (acc : List Value),
    List.foldl (fun x1 x2 => x1 ++ x2) acc.toArray (List.replicate k its.toArray) = (acc ++ (List.replicate k its).flatten).toArray
  | 0, acc => by simp
  | k + 1, acc => by
    have e : acc.toArray ++ its.toArray = (acc ++ its).toArray := by simp
    have e2 : (acc ++ its) ++ (List.replicate k its).flatten = acc ++ (List.replicate (k + 1) its).flatten := by
      rw [List.replicate_succ, List.flatten_cons, List.append_assoc]
    rw [← e2, ← foldl_rep its k (acc ++ its), ← e, List.replicate_succ, List.foldl_cons]
section
variable {X : Cx} {pins : List (Addr × Obj)} {σ : St} {H : Hp} {s : Shared} {l b : Addr} {xs ys zs : List V}
theorem Inv.lset {its its' : List Value} {n : Nat} {f : Array Value → Array Value} {t' : Nat} (I : Inv X pins σ H s) (hH : H l = some (.lst xs))
    (e : s.heap.get? l = some { cls := .type "list", data := .seq its.toArray n }) (hf : f its.toArray = its'.toArray) (hv : Vals ys its') (hz : ys.length ≤ sizeLine) :
    Inv X pins σ (upd H l (.lst ys)) { s with heap := s.heap.update l (Obj.mapSeq f), toks := t' } := by
  have q := PySem.IsL.update e f
  rw [hf] at q
  refine I.write (x := l) (e := l) (by rw [hH]; exact trivial) (.inl rfl) (fun b' u hb hu => (Heap.get?_update_other s.heap (Obj.mapSeq f) (Ne.symm hb)).trans hu) ⟨_, q⟩ ?_
  exact ⟨hz, its', _, hv, q⟩
theorem Inv.lnew {its : List Value} {t' : Nat} (I : Inv X pins σ H s) (hv : Vals ys its) (hz : ys.length ≤ sizeLine) :
    Inv X pins σ (upd H s.heap.objs.size (.lst ys)) { s with heap := s.heap.push { cls := .type "list", data := .seq its.toArray }, toks := t' } :=
  I.laid (fun _ _ q => Heap.get?_push_of_some _ q) (Nat.le_refl _) ⟨hz, its, 0, hv, Heap.get?_push_size _ rfl⟩
theorem Inv.fresh (I : Inv X pins σ H s) : H s.heap.objs.size = none := I.hok.fresh (Nat.le_refl _)
theorem Inv.lstM (I : Inv X pins σ H s) (hH : H l = some (.lst xs)) : xs.length ≤ sizeLine ∧ ∃ (its : List Value) (n : Nat), Vals xs its ∧ xs.length = its.length ∧ s.heap.get? l = some { cls := .type "list", data := .seq its.toArray n } := by
  obtain ⟨z, its, n, r, e⟩ := I.hok l _ hH
  exact ⟨z, its, n, r, r.length, e⟩
theorem notLongL {n : Nat} (h : n ≤ sizeLine) : Builtin.List.listTooLong n = false := by
  unfold Builtin.List.listTooLong
  exact decide_eq_false (by omega)
end
section
variable {X : Cx}
def rAppend : V → List V → Hp → VK → Prop := fun x vs H Q => ∃ l xs y, x = .ref l ∧ vs = [y] ∧ H l = some (.lst xs) ∧ xs.length < sizeLine ∧ Q .non (upd H l (.lst (xs ++ [y])))
theorem mt_append : MtM X "list.append" rAppend := by
  intro pins s σ H x vs v us Q I rx rv h
  obtain ⟨l, xs, y, rfl, rfl, hH, hz, q⟩ := h
  cases rx
  obtain ⟨u, rfl, ru⟩ := rv.one
  obtain ⟨z, its, n, r, hl, e⟩ := I.lstM hH
  refine call_meets F.slot_list_append ⟨_, e, rfl⟩ F.entry_list_append (F.args_list_append_2 _ _) (PySem.list_append l its.toArray n u (by rw [List.size_toArray]; omega)) ⟨e, ?_⟩
  refine ⟨.non, _, I.lset (its' := its ++ [u]) hH e (by simp) (r.append (.cons ru .nil)) ?_, rfl, q⟩
  rw [List.length_append, List.length_singleton]
  omega
def rReverse : V → List V → Hp → VK → Prop := fun x vs H Q => ∃ l xs, x = .ref l ∧ vs = [] ∧ H l = some (.lst xs) ∧ Q .non (upd H l (.lst xs.reverse))
theorem mt_reverse : MtM X "list.reverse" rReverse := by
  intro pins s σ H x vs v us Q I rx rv h
  obtain ⟨l, xs, rfl, rfl, hH, q⟩ := h
  cases rx
  have hus := rv.zero
  subst hus
  obtain ⟨z, its, n, r, hl, e⟩ := I.lstM hH
  refine call_meets F.slot_list_reverse ⟨_, e, rfl⟩ F.entry_list_reverse (F.args_list_reverse_1 _) (AutoSeq1.list_reverse_list_0 l its.toArray n (by rw [List.size_toArray]; omega)) ⟨e, ?_⟩
  refine ⟨.non, _, I.lset (its' := its.reverse) hH e (by simp) r.reverse ?_, rfl, q⟩
  rw [List.length_reverse]
  omega
def rCat : R2 := fun x y H Q => ∃ l b xs zs, x = .ref l ∧ y = .ref b ∧ H l = some (.lst xs) ∧ H b = some (.lst zs) ∧ xs.length + zs.length ≤ sizeLine ∧ ∀ p, H p = none → Q (.ref p) (upd H p (.lst (xs ++ zs)))
theorem op_cat : OpR X (binaryOp .Add) rCat := by
  intro pins s σ H x y v u Q I rx ry h
  obtain ⟨l, b, xs, zs, rfl, rfl, hH, hB, hz, q⟩ := h
  cases rx
  cases ry
  obtain ⟨z, its, n, r, hl, e⟩ := I.lstM hH
  obtain ⟨z2, its2, n2, r2, hl2, e2⟩ := I.lstM hB
  refine PySem.P.add_list e e2 ?_ (by rw [List.size_toArray, List.size_toArray]; omega)
  have ea : its.toArray ++ its2.toArray = (its ++ its2).toArray := by simp
  rw [ea]
  exact ⟨.ref _, _, I.lnew (t' := s.toks) (r.append r2) (by rw [List.length_append]; omega), rfl, q _ I.fresh⟩
def rRep : R2 := fun x y H Q => ∃ l k xs, x = .ref l ∧ y = .int k ∧ H l = some (.lst xs) ∧ -(2 ^ 63) ≤ k ∧ k < 2 ^ 63 ∧ xs.length * k.toNat ≤ sizeLine ∧
  ∀ p, H p = none → Q (.ref p) (upd H p (.lst (List.replicate k.toNat xs).flatten))
theorem len_rep {α : Type} (xs : List α) (k : Nat) : (List.replicate k xs).flatten.length = k * xs.length := by
  induction k with
  | zero => simp
  | succ k ih => rw [List.replicate_succ, List.flatten_cons, List.length_append, ih, Nat.succ_mul, Nat.add_comm]
theorem op_rep : OpR X (binaryOp .Mult) rRep := by
  intro pins s σ H x y v u Q I rx ry h
  obtain ⟨l, k, xs, rfl, rfl, hH, h1, h2, hz, q⟩ := h
  cases rx
  obtain ⟨t, rfl⟩ := ry
  obtain ⟨z, its, n, r, hl, e⟩ := I.lstM hH
  have hlen : its.toArray.size * k.toNat ≤ sizeLine := by rw [List.size_toArray, ← hl]; exact hz
  have hcap : ¬ its.toArray.size * k.toNat > (2 ^ 63 - 1) / 8 := by
    have : (sizeLine : Nat) ≤ (2 ^ 63 - 1) / 8 := by decide
    omega
  have hfit : ¬ (!Builtin.List.listFitsIndex k) = true := by
    rw [fitsIndex_both h1 h2]
    exact Bool.false_ne_true
  have hlong : ¬ Builtin.List.listTooLong (its.toArray.size * k.toNat) = true := by
    rw [notLongL hlen]
    exact Bool.false_ne_true
  have hnew : List.foldl (fun x1 x2 => x1 ++ x2) #[] (List.replicate (if its.toArray.isEmpty = true then 0 else k.toNat) its.toArray) = (List.replicate k.toNat its).flatten.toArray := by
    have f0 : ∀ m : Nat, List.foldl (fun x1 x2 => x1 ++ x2) #[] (List.replicate m its.toArray) = (List.replicate m its).flatten.toArray := fun m => by
      have := foldl_rep its m []
      rw [List.nil_append] at this
      exact this
    rw [f0]
    cases its with
    | nil => simp
    | cons a r' => rw [if_neg (by simp)]
  refine wpAny_binaryOp_repeat_ref (T := "list") (U := "int") (by decide) ⟨_, e, rfl⟩ (fun s' => typeIs_int s' k t) noFill_list_mul F.fills_int_mul F.slot_int_rmul repeat_list F.slot_int_index.lookup
    (call_meets F.slot_int_rmul (typeIs_int s k t) F.entry_int_rmul (F.args_int_rmul_2 _ _) (int___rmul___int_list k t l its.toArray n)
      ⟨e, rfl, ⟨_, e, rfl⟩, call_meets F.slot_list_mul ⟨_, e, rfl⟩ F.entry_list_mul (F.args_list_mul_2 _ _) (AutoListH.list___mul___list_int_3 l its.toArray n k t hfit hcap hlong) ⟨e, ?_⟩⟩)
  rw [hnew]
  exact ⟨.ref _, _, I.lnew (t' := s.toks) (r.rep k.toNat) (by rw [len_rep, Nat.mul_comm]; exact hz), rfl, q _ I.fresh⟩
end
section
variable {prog : Program} {w : World} {A : Around} {E : Value → Shared → Prop} {s : Shared}
end
section
variable {X : Cx}
end
end L2
namespace Att
open PySem PySem.W PySem.Calls PyProof.Rows
theorem ints_of_wellAll {P : Params} {h : Heap} : ∀ (ns : List Int) (vs : List Value), WellAll P h vs (ns.map WData.int) → IntsAre vs ns := by
  intro ns
  induction ns with
  | nil =>
    intro vs w
    rw [List.map_nil] at w
    cases w
    exact .nil
  | cons n ns ih =>
    intro vs w
    rw [List.map_cons] at w
    cases w with
    | cons a b =>
      cases a
      exact .cons _ _ (ih _ b)
theorem script_of {l : OpenLaw} {n : Nat} (hn : l.most = some n) {P : Params} {h : Heap} {args : List WData} {vals : List Value}
    (hpre : l.row.toRowW.claim.pre args = true) (hwl : WellAll P h vals args) :
    ∃ a vs ns, vals = [Value.ref a] ∧ args = [WData.list (ns.map WData.int)] ∧ h.get? a = some { cls := .type "list", data := .seq vs.toArray } ∧ IntsAre vs ns ∧ ns.length ≤ n := by
  have hsh : WShape.hasAll [] args [.list .int] = true := (pre_splitW hpre).1
  have hc : l.pre.holds [] { args := args } = true := (pre_splitW hpre).2
  obtain ⟨d, r, rfl, h1, h2⟩ := hasAllW_cons hsh
  obtain rfl := hasAllW_nil h2
  obtain ⟨xs, rfl, h3⟩ := hasW_list h1
  obtain ⟨ns, rfl⟩ := items_int h3
  have hlen : ns.length ≤ n := by
    unfold OpenLaw.pre at hc
    have h4 : (WTm.not (.lt (.lit (.int (n : Int))) (.len (.arg 0)))).holds [] { args := [.list (ns.map .int)] } = true := by
      have h4 := (holds_andW hc).1
      rw [hn] at h4
      exact h4
    have h5 := condW_of h4 (w_not (w_lt w_lit (w_len_list (w_arg rfl))))
    rw [List.length_map] at h5
    refine Nat.le_of_not_lt fun q => ?_
    have q' : (n : Int) < ((ns.length : Nat) : Int) := by omega
    first
      | (rw [decide_eq_true q'] at h5; exact absurd h5 (by decide))
      | (simp at h5; omega)
  cases hwl with
  | cons w1 w2 =>
    cases w2
    cases w1 with
    | list ho hall => exact ⟨_, _, ns, rfl, rfl, ho, ints_of_wellAll ns _ hall, hlen⟩
theorem post_true (l : OpenLaw) (args : List WData) : l.row.toRowW.claim.post args (.bool true) args = true :=
  postW_of (r := l.row.toRowW) (X := (true == true))
    (show WShape.has [] (.bool true) .bool = true by first | rfl | decide | simp [WShape.has, WShape.arms, WShape.armsAll])
    (show (WTm.eq .res (.lit (.bool true))).value [] { args := args, res := some (.bool true), after := args } = some (.bool (true == true)) from w_eq_bool (w_res rfl) w_lit) rfl
theorem attach_call {l : OpenLaw} {n : Nat} {q : Program} {loose : List Str} {XP : (Str → Option Value) → Heap → Prop} {YP : World → Heap → Prop} {d : DefRec}
    (hn : l.most = some n) (hdf : d.params.defaults = [])
    (call : ∀ (w : World) (s₀ s₁ : Shared) (mg mb : Str → Option Value) (fa : Addr) (o : Obj) (pm cd doc : Value) (a : Addr) (vs : List Value) (ns : List Int),
      Ground q loose [] XP w s₀ mg mb s₁.heap → YP w s₁.heap →
      s₁.heap.get? fa = some o → o.data = .func (docDef d.name d.params d.body d.scope pm cd doc) → s₁.heap.CodeRec cd d.name → mg d.name = some (.ref fa) →
      s₁.heap.get? a = some { cls := .type "list", data := .seq vs.toArray } → IntsAre vs ns → ns.length ≤ n → s₁.gens = #[] →
      codeAny (model l.prog w) callerA (.call (.ref fa) ⟨[.ref a], []⟩) (fun r s' => r = .ok (.ret (.bool true)) ∧ OldK s₁.heap s'.heap ∧ s'.os = s₁.os ∧ AllBare s'.gens) s₁) :
    WalkO q loose XP YP l.row.toRowW d [] (fun f vs => PySem.call f vs) := by
  intro w s₀ s₁ mg mb G Y fa o pm cd doc dV kV ho hd hcd hD hmg hg args vals as hpre hlay hrd hwl hlo
  obtain rfl : dV = .none := Dflts.none hD hdf
  obtain rfl : kV = .none := Dflts.noKw hD
  obtain ⟨a, vs, ns, rfl, rfl, hobj, hints, hlen⟩ := script_of hn hpre hwl
  refine enter_call (codeAny_mono (call w s₀ s₁ mg mb fa o pm cd doc a vs ns G Y ho (fd_plain hd) hcd hmg hobj hints hlen hg) fun r s' hq => ?_)
  obtain ⟨rfl, h2, h3, h4⟩ := hq
  exact ⟨.inl ⟨.bool true, .bool true, [], rfl, fun _ => rfl, .bool true, post_true l _, fun _ => ⟨List.Pairwise.nil, fun _ hm => (nomatch hm)⟩⟩, h2, h3, h4⟩
section
variable {prog : Program} {w : World} {A : Around} {E : Value → Shared → Prop} {s : Shared} {K : Frag}
def ledger (h : Heap) (L d : Addr) : List (Addr × Obj) := (List.range h.objs.size).filterMap fun a => if a = L ∨ a = d then none else (h.get? a).map fun o => (a, o)
end
end Att
namespace L2
open PySem PySem.Spec PyProof.Rows
theorem vals_ints : ∀ {vs : List Value} {ns : List Int}, IntsAre vs ns → Vals (ns.map V.int) vs
  | _, _, .nil => .nil
  | _, _, .cons n t h => .cons ⟨t, rfl⟩ (vals_ints h)
def Only (H : Hp) : Prop := ∀ b, H b = none ∨ ∃ o xs, H b = some (.frz o (.lst xs))
theorem law_call {P : Program} {w : World} {K : PySem.W.Frag} {mg mb : Str → Option Value} {CX : CXT} {k : Nat} {fa a : Addr} {fd : FuncData} {x : Str} {sp : Sp} {s₁ : Shared} {vs : List Value} {ns : List Int}
    (KX : K.In s₁.heap) (hns : s₁.heap.Ns mainGlobals mg) (hb : s₁.heap.Ns builtinsNs mb) (hbb : ∀ x : Str, x ≠ "__name__" → mb x = bootBuiltins x) (hlim : s₁.heap.NoLimit) (hg : s₁.gens = #[])
    (ha : s₁.heap.get? a = some { cls := .type "list", data := .seq vs.toArray }) (hi : IntsAre vs ns) (hl : ns.length ≤ sizeLine) (hr : Room k callerA)
    (F : ∀ base : Heap, K.In base → base.Ns mainGlobals mg → FnOk P w K mg base CX k fa fd [x] sp) (hbind : ∀ (s : Shared) (u : Value), BindsTo s fd ⟨[u], []⟩ [(x, u)])
    (hsp : ∀ H : Hp, Only H → SqL K H a (ns.map V.int) → sp [.ref a] H (fun v _ => v = .bl true) fun _ _ _ => False)
    (hCX : ∀ H e s', CX [] H s₁ (fun _ _ _ => False) e s' → False) :
    codeAny (model P w) callerA (.call (.ref fa) ⟨[.ref a], []⟩) (fun r s' => r = .ok (.ret (.bool true)) ∧ OldK s₁.heap s'.heap ∧ s'.os = s₁.os ∧ AllBare s'.gens) s₁ := by
  have rv := vals_ints hi
  have lenV := hi.length
  have core : ∀ H : Hp, Only H → SqL K H a (ns.map V.int) → HOk P w H s₁.heap → (∀ b, H b ≠ none → b = a) → (H a ≠ none → K.lookup a = none) →
      codeAny (model P w) callerA (.call (.ref fa) ⟨[.ref a], []⟩) (fun r s' => r = .ok (.ret (.bool true)) ∧ OldK s₁.heap s'.heap ∧ s'.os = s₁.os ∧ AllBare s'.gens) s₁ := by
    intro H hO hS hok hA hK
    have base_of : ∀ {b : Addr} {o : Obj}, s₁.heap.get? b = some o → H b = none → (hidT s₁.heap H).get? b = some o := fun e n => hidT_get e n
    have noA : ∀ {b : Addr} {o : Obj} {es : Array DictEntry} {ep : Nat}, s₁.heap.get? b = some o → o.data = .dict es ep → H b = none := fun {b o es ep} e d => by
      cases q : H b with
      | none => rfl
      | some u =>
        have e' : b = a := hA b (by rw [q]; simp)
        subst e'
        rw [ha] at e; cases e
        have d' : Data.seq vs.toArray _ = Data.dict es ep := d
        cases d'
    have nsK : ∀ {b : Addr} {m : Str → Option Value}, s₁.heap.Ns b m → (hidT s₁.heap H).Ns b m := fun {b m} ⟨o, es, ep, e, d, r⟩ => ⟨o, es, ep, base_of e (noA e d), d, r⟩
    have hKb : K.In (hidT s₁.heap H) := fun b o e => base_of (KX b o e) (by
      cases q : H b with
      | none => rfl
      | some u =>
        have e' : b = a := hA b (by rw [q]; simp)
        subst e'
        rw [hK (by rw [q]; simp)] at e; cases e)
    have hM : Mod K mg (hidT s₁.heap H) := ⟨hKb, nsK hns, ⟨mb, nsK hb, hbb⟩, let ⟨mc, h1, h2⟩ := hlim; ⟨mc, nsK h1, h2⟩⟩
    have e0 : Env0 P w K mg (hidT s₁.heap H) callerA [] s₁ H := ⟨rfl, hM, fun b o e => of_hidT e, Nat.le_of_eq (hidT_size _ _), trivial, fun b hb => absurd (show b ∈ ([] : List Addr) from hb) (by simp), hok, .of_eq hg⟩
    refine codeAny_mono ((F _ hKb (nsK hns)).run callerA [] s₁ H ⟨[.ref a], []⟩ [.ref a] [.ref a] _ _ hr e0 (hbind s₁ (.ref a)) (.cons rfl .nil) (hsp H hO hS)) fun r s' h => ?_
    cases r with
    | error e => exact (hCX H e s' h).elim
    | ok fl =>
      cases fl with
      | next => exact False.elim h
      | brk => exact False.elim h
      | cont => exact False.elim h
      | ret u =>
        obtain ⟨v, H', os, bare, un, hok', r', q⟩ := h
        have q' : v = .bl true := q
        subst q'
        obtain rfl : u = Value.bool true := r'
        refine ⟨rfl, OldK.of_keep fun b o e => ?_, os, bare⟩
        cases q : H b with
        | none => exact un.keep b o e q (by intro z; exact absurd (show b ∈ ([] : List Addr) from z) (by simp)) (by simp)
        | some u =>
          rcases hO b with z | ⟨ob, xs, z⟩
          · rw [q] at z; cases z
          · have z2 := un.frzs b ob _ z
            obtain ⟨e1, _⟩ := hok b _ z
            obtain ⟨e2, _⟩ := hok' b _ z2
            rw [e] at e1; cases e1
            exact e2
  cases hk : K.lookup a with
  | some o =>
    have e := KX a o hk
    rw [ha] at e
    cases e
    refine core (fun _ => none) (fun _ => .inl rfl) (.inr ⟨_, vs.toArray, _, hk, rfl, rfl, rfl, by rw [List.size_toArray, lenV]; exact hl, by simpa using rv⟩) (fun b u z => by have z' : (none : Option HO) = some u := z; cases z') (fun b z => absurd rfl z) fun z => absurd rfl z
  | none =>
    refine core (fun b => if b = a then some (.frz { cls := .type "list", data := .seq vs.toArray } (.lst (ns.map V.int))) else none) (fun b => ?_) (.inl (.inr ⟨{ cls := .type "list", data := .seq vs.toArray }, if_pos rfl⟩)) (fun b u z => ?_) (fun b z => ?_) fun _ => hk
    · by_cases hb : b = a
      · exact .inr ⟨_, _, if_pos hb⟩
      · exact .inl (if_neg hb)
    · by_cases hb : b = a
      · have z' := (if_pos hb).symm.trans z
        cases z'
        subst hb
        exact ⟨ha, by rw [List.length_map]; exact hl, vs, _, rv, ha⟩
      · have z' := (if_neg hb).symm.trans z
        cases z'
    · by_cases hb : b = a
      · exact hb
      · exact absurd (if_neg hb) z
end L2
namespace L2
open PySem PySem.Spec PyProof.Rows
theorem walk_of {l : PySem.W.OpenLaw} {n k : Nat} {q : Program} {loose : List Str} {XP : (Str → Option Value) → Heap → Prop} {YP : World → Heap → Prop} {d : DefRec} {K : Params → PySem.W.Frag} {CX : World → CXT} {sp : World → Sp} {x : Str}
    (hn : l.most = some n) (hn2 : n ≤ sizeLine) (hdf : d.params.defaults = []) (hr : Room k callerA)
    (hY : ∀ (w : World) (h : Heap), YP w h → (K w.params).In h)
    (F : ∀ (w : World) (mg : Str → Option Value) (fa : Addr) (h : Heap), (K w.params).In h → h.Ns mainGlobals mg → mg d.name = some (.ref fa) →
      ∃ fd : FuncData, (∀ (s : Shared) (u : Value), BindsTo s fd ⟨[u], []⟩ [(x, u)]) ∧
        ∀ base : Heap, (K w.params).In base → base.Ns mainGlobals mg → FnOk l.prog w (K w.params) mg base (CX w) k fa fd [x] (sp w))
    (hsp : ∀ (w : World) (H : Hp) (a : Addr) (ns : List Int), ns.length ≤ n → Only H → SqL (K w.params) H a (ns.map V.int) → sp w [.ref a] H (fun v _ => v = .bl true) fun _ _ _ => False)
    (hCX : ∀ (w : World) (H : Hp) (s : Shared) (e : Value) (s' : Shared), CX w [] H s (fun _ _ _ => False) e s' → False) :
    PySem.W.WalkO q loose XP YP l.row.toRowW d [] (fun f vs => PySem.call f vs) := by
  refine Att.attach_call hn hdf fun w s₀ s₁ mg mb fa o pm cd doc a vs ns G Y ho hd hcd hmg hobj hints hlen hg => ?_
  have KX := hY w _ Y
  obtain ⟨fd, hb, hF⟩ := F w mg fa _ KX G.T.g hmg
  exact law_call KX G.T.g G.T.b G.T.builtins G.T.nolimit hg hobj hints (Nat.le_trans hlen hn2) hr hF hb (fun H hO hS => hsp w H a ns hlen hO hS) fun H e s' => hCX w H s₁ e s'
end L2
namespace L2
open PySem PySem.Spec PyProof.Rows
def defArgs (s : Stmt) : Arguments := match s with
  | .FunctionDef _ a _ _ _ _ _ _ _ _ => a
  | _ => { posonlyargs := [], args := [], vararg := none, kwonlyargs := [], kw_defaults := [], kwarg := none, defaults := [] }
def defBody (s : Stmt) : List Stmt := match s with
  | .FunctionDef _ _ b _ _ _ _ _ _ _ => b
  | _ => []
def defScope (s : Stmt) : Scope := match s with
  | .FunctionDef _ _ _ _ _ _ sc _ _ _ => sc
  | _ => { kind := .function, names := [], isGenerator := false, isCoroutine := false }
abbrev CX0 : CXT := fun _ _ _ _ _ _ => False
abbrev E0 : XK := fun _ _ _ => False
theorem pass0 {X : Cx} : Passes CX0 X E0 := fun _ _ _ _ _ _ _ h => h.elim
structure Fun (K : PySem.W.Frag) (x qual : Str) (st : Stmt) (f : Addr) (fd : FuncData) : Prop where
  ex : ∃ (oc : Value) (od : Option Addr) (kV doc pm : Value) (an : Option Addr) (cdv ct : Value) (osl : Array (Option Value)),
    fd = PySem.W.fnOf x qual (defArgs st) (defBody st) (defScope st) .none kV doc pm an cdv ct ∧ K.lookup f = some ⟨oc, od, .func fd, osl⟩ ∧ PySem.W.codeIn K cdv qual = true
  kp : PySem.W.keepIn K (.ref f) = true
section
variable {P : Program} {w : World} {K : PySem.W.Frag} {mg : Str → Option Value} {base : Heap}
theorem Fun.ok {x qual : Str} {st : Stmt} {f : Addr} {fd : FuncData} {N ps : List Str} {k : Nat} {sp : Sp} (F : Fun K x qual st f fd) (S : FnScope N ps (defScope st)) (len : ∀ vs H Q E, sp vs H Q E → vs.length = ps.length)
    (hbody : ∀ (cdv : Value) (A : Around) (outer : List Env) (s : Shared) (H : Hp) (vs : List V) (Q : VK) (E : XK), Room k (A.deeper (envOfC qual (defScope st) s.heap.objs.size f cdv)) → sp vs H Q E →
      ∃ t, PSs (cxOf CX0 P w K mg base N qual (defScope st) f cdv A outer s H E).nox (defBody st) t ∧ t { nx := fun _ H' => Q .non H', rt := Q } (start N vs) H) : FnOk P w K mg base CX0 (k + 1) f fd ps sp := by
  obtain ⟨oc, od, kV, doc, pm, an, cdv, ct, osl, rfl, lk, hcd⟩ := F.ex
  refine fn_of lk hcd S len fun A outer s H vs Q E hr hsp => ?_
  obtain ⟨t, h, q⟩ := hbody cdv A outer s H vs Q E hr hsp
  exact ⟨t, h.nox, q⟩
theorem Fun.binds {x qual : Str} {st : Stmt} {f : Addr} {fd : FuncData} {ps : List Str} (F : Fun K x qual st f fd)
    (h : ∀ (kV doc pm : Value) (an : Option Addr) (cdv ct : Value) (us : List Value), us.length = ps.length → bindArgs (PySem.W.fnOf x qual (defArgs st) (defBody st) (defScope st) .none kV doc pm an cdv ct) ⟨us, []⟩ = pure (ps.zip us)) : Binds K fd ps [] := by
  obtain ⟨oc, od, kV, doc, pm, an, cdv, ct, osl, rfl, lk, hcd⟩ := F.ex
  exact .all (h kV doc pm an cdv ct)
theorem fun_mk {x qual : Str} {st : Stmt} {f : Addr} {oc : Value} {od an : Option Addr} {osl : Array (Option Value)} {kV doc pm cdv ct : Value} (l : K.lookup f = some ⟨oc, od, .func (PySem.W.fnOf x qual (defArgs st) (defBody st) (defScope st) .none kV doc pm an cdv ct), osl⟩)
    (c : PySem.W.codeIn K cdv qual = true) (k : PySem.W.keepIn K (.ref f) = true) : Fun K x qual st f (PySem.W.fnOf x qual (defArgs st) (defBody st) (defScope st) .none kV doc pm an cdv ct) := ⟨⟨oc, od, kV, doc, pm, an, cdv, ct, osl, rfl, l, c⟩, k⟩
end
theorem small1000 {n : Nat} (h : n ≤ 1000) : n < sizeLine := Nat.lt_of_le_of_lt h (by decide)
section
variable {X : Cx}
end
def Same (H H' : Hp) : Prop := ∀ b o, H b = some o → H' b = some o
theorem Same.refl (H : Hp) : Same H H := fun _ _ h => h
theorem Same.trans {H H1 H2 : Hp} (a : Same H H1) (b : Same H1 H2) : Same H H2 := fun c o h => b c o (a c o h)
theorem Same.free {H H' : Hp} (e : Same H H') {l : Addr} (h : H' l = Option.none) : H l = Option.none := by
  cases q : H l with
  | none => rfl
  | some o =>
    rw [e l o q] at h
    cases h
theorem Same.seq {K : PySem.W.Frag} {H H' : Hp} {a : Addr} {xs : List V} (e : Same H H') (h : SqL K H a xs) : SqL K H' a xs := by
  rcases h with (h | ⟨o, h⟩) | h
  · exact .inl (.inl (e _ _ h))
  · exact .inl (.inr ⟨o, e _ _ h⟩)
  · exact .inr h
end L2
set_option Elab.async false
set_option linter.all false
set_option maxRecDepth 100000
set_option maxHeartbeats 4000000
namespace Mth
def gc (t b : Int) : Int := (Int.gcd t b : Int)
theorem gc_pos {t b : Int} (h : 0 < b) : 0 < gc t b := by
  unfold gc
  have : 0 < Int.gcd t b := Int.gcd_pos_of_ne_zero_right t (by omega)
  omega
theorem gc_step {t b : Int} : gc b (t % b) = gc t b := by
  unfold gc
  have h : t % b = t + (-(t / b)) * b := by
    have := Int.emod_add_mul_ediv t b
    grind
  rw [h, Int.gcd_add_mul_right_right, Int.gcd_comm]
theorem gc_zero {t : Int} (h : 0 ≤ t) : gc t 0 = t := by
  unfold gc
  rw [Int.gcd_zero_right]; omega
theorem gc_dvd_l {t b : Int} : gc t b ∣ t := Int.gcd_dvd_left t b
theorem gc_dvd_r {t b : Int} : gc t b ∣ b := Int.gcd_dvd_right t b
theorem gc_le {t b : Int} (h : 0 < b) : gc t b ≤ b := Int.le_of_dvd h gc_dvd_r
theorem gc_abs {t b : Int} : gc (t.natAbs : Int) b = gc t b := by
  unfold gc; simp [Int.gcd]
def rd (t b : Int) : Int × Int := (t / gc t b, b / gc t b)
structure Lo (a b : Int) : Prop where
  pos : 0 < b
  one : gc a b = 1
theorem rd_l {t b : Int} : (rd t b).1 * gc t b = t := Int.ediv_mul_cancel gc_dvd_l
theorem rd_r {t b : Int} : (rd t b).2 * gc t b = b := Int.ediv_mul_cancel gc_dvd_r
theorem rd_lo {t b : Int} (h : 0 < b) : Lo (rd t b).1 (rd t b).2 := by
  have hg := gc_pos (t := t) h
  constructor
  · have e := rd_r (t := t) (b := b)
    have : 0 < (rd t b).2 * gc t b := by omega
    exact Int.pos_of_mul_pos_left this hg
  · unfold gc rd
    simp only
    have := Int.gcd_ediv_gcd_ediv_gcd (i := t) (j := b) (by unfold gc at hg; omega)
    unfold gc
    rw [this]; rfl
theorem rd_cross {t b : Int} : (rd t b).1 * b = t * (rd t b).2 := by
  have e1 := rd_l (t := t) (b := b)
  have e2 := rd_r (t := t) (b := b)
  generalize (rd t b).1 = x at *
  generalize (rd t b).2 = y at *
  generalize gc t b = g at *
  subst e1 e2
  grind
theorem Lo.ext {a b c d : Int} (h : Lo a b) (k : Lo c d) (e : a * d = c * b) : a = c ∧ b = d := by
  have hb := h.pos
  have hd := k.pos
  have h1 : b ∣ d := by
    have : b ∣ a * d := ⟨c, by rw [e, Int.mul_comm]⟩
    have hg : Int.gcd b a = 1 := by have := h.one; unfold gc at this; rw [Int.gcd_comm]; omega
    have h3 := Int.dvd_gcd_mul_iff_dvd_mul.mpr this
    rw [hg] at h3
    simpa using h3
  have h2 : d ∣ b := by
    have : d ∣ c * b := ⟨a, by rw [← e, Int.mul_comm]⟩
    have hg : Int.gcd d c = 1 := by have := k.one; unfold gc at this; rw [Int.gcd_comm]; omega
    have h3 := Int.dvd_gcd_mul_iff_dvd_mul.mpr this
    rw [hg] at h3
    simpa using h3
  have hbd : b = d := Int.le_antisymm (Int.le_of_dvd hd h1) (Int.le_of_dvd hb h2)
  subst hbd
  exact ⟨Int.eq_of_mul_eq_mul_right (by omega) e, rfl⟩
theorem rd_eq {t b a c : Int} (h : 0 < b) (k : Lo a c) (e : t * c = a * b) : rd t b = (a, c) := by
  have x := (rd_lo (t := t) h).ext k (by
    have e1 := rd_l (t := t) (b := b)
    have e2 := rd_r (t := t) (b := b)
    have hg := gc_pos (t := t) h
    generalize (rd t b).1 = x at *
    generalize (rd t b).2 = y at *
    generalize gc t b = g at *
    have : g * (x * c) = g * (a * y) := by grind
    exact Int.eq_of_mul_eq_mul_left (by omega) this)
  exact Prod.ext x.1 x.2
theorem rd_of_lo {a b : Int} (h : Lo a b) : rd a b = (a, b) := rd_eq h.pos h rfl
def pl (p q : Int × Int) : Int × Int := rd (p.1 * q.2 + q.1 * p.2) (p.2 * q.2)
def mi (p q : Int × Int) : Int × Int := rd (p.1 * q.2 - q.1 * p.2) (p.2 * q.2)
def ti (p q : Int × Int) : Int × Int := rd (p.1 * q.1) (p.2 * q.2)
abbrev Lw (p : Int × Int) : Prop := Lo p.1 p.2
theorem rd_lw {t b : Int} (h : 0 < b) : Lw (rd t b) := rd_lo h
theorem pl_lw {p q : Int × Int} (h : 0 < p.2) (k : 0 < q.2) : Lw (pl p q) := rd_lo (Int.mul_pos h k)
theorem mi_lw {p q : Int × Int} (h : 0 < p.2) (k : 0 < q.2) : Lw (mi p q) := rd_lo (Int.mul_pos h k)
theorem ti_lw {p q : Int × Int} (h : 0 < p.2) (k : 0 < q.2) : Lw (ti p q) := rd_lo (Int.mul_pos h k)
theorem Lo.neg {a b : Int} (h : Lo a b) : Lo (-a) b := ⟨h.pos, by have := h.one; unfold gc at *; rw [Int.neg_gcd]; exact this⟩
def Sm (k : Nat) (x : Int) : Prop := x.natAbs < 2 ^ k
theorem Sm.mono {k l : Nat} {x : Int} (h : Sm k x) (e : k ≤ l) : Sm l x := Nat.lt_of_lt_of_le h (Nat.pow_le_pow_right (by decide) e)
theorem Sm.mul {k l : Nat} {x y : Int} (h : Sm k x) (g : Sm l y) : Sm (k + l) (x * y) := by
  unfold Sm at *
  rw [Int.natAbs_mul, Nat.pow_add]
  exact Nat.mul_lt_mul'' h g
theorem Sm.add {k : Nat} {x y : Int} (h : Sm k x) (g : Sm k y) : Sm (k + 1) (x + y) := by
  unfold Sm at *
  rw [Nat.pow_succ]; omega
theorem Sm.sub {k : Nat} {x y : Int} (h : Sm k x) (g : Sm k y) : Sm (k + 1) (x - y) := by
  unfold Sm at *
  rw [Nat.pow_succ]; omega
theorem Sm.neg {k : Nat} {x : Int} (h : Sm k x) : Sm k (-x) := by unfold Sm at *; omega
theorem Sm.of {k : Nat} {x : Int} (h : -(2 ^ k : Nat) < x) (g : x < (2 ^ k : Nat)) : Sm k x := by unfold Sm; omega
theorem Sm.div {k : Nat} {x g : Int} (h : Sm k x) (hg : 0 < g) (d : g ∣ x) : Sm k (x / g) := by
  obtain ⟨c, rfl⟩ := d
  rw [Int.mul_ediv_cancel_left _ (by omega)]
  unfold Sm at *
  rw [Int.natAbs_mul] at h
  have : 1 * c.natAbs ≤ g.natAbs * c.natAbs := Nat.mul_le_mul_right _ (by omega)
  omega
theorem rd_sm {k : Nat} {t b : Int} (hb : 0 < b) (h : Sm k t) (g : Sm k b) : Sm k (rd t b).1 ∧ Sm k (rd t b).2 :=
  ⟨h.div (gc_pos hb) gc_dvd_l, g.div (gc_pos hb) gc_dvd_r⟩
structure Fr (k : Nat) (p : Int × Int) : Prop where
  lw : Lw p
  s1 : Sm k p.1
  s2 : Sm k p.2
theorem Fr.mono {k l : Nat} {p : Int × Int} (h : Fr k p) (e : k ≤ l) : Fr l p := ⟨h.lw, h.s1.mono e, h.s2.mono e⟩
theorem Fr.pos {k : Nat} {p : Int × Int} (h : Fr k p) : 0 < p.2 := h.lw.pos
theorem Fr.pl {k : Nat} {p q : Int × Int} (h : Fr k p) (g : Fr k q) : Fr (k + k + 1) (pl p q) :=
  have z := rd_sm (k := k + k + 1) (Int.mul_pos h.pos g.pos) ((h.s1.mul g.s2).add (g.s1.mul h.s2)) ((h.s2.mul g.s2).mono (by omega))
  ⟨pl_lw h.pos g.pos, z.1, z.2⟩
theorem Fr.mi {k : Nat} {p q : Int × Int} (h : Fr k p) (g : Fr k q) : Fr (k + k + 1) (mi p q) :=
  have z := rd_sm (k := k + k + 1) (Int.mul_pos h.pos g.pos) ((h.s1.mul g.s2).sub (g.s1.mul h.s2)) ((h.s2.mul g.s2).mono (by omega))
  ⟨mi_lw h.pos g.pos, z.1, z.2⟩
theorem Fr.ti {k : Nat} {p q : Int × Int} (h : Fr k p) (g : Fr k q) : Fr (k + k + 1) (ti p q) :=
  have z := rd_sm (k := k + k + 1) (Int.mul_pos h.pos g.pos) ((h.s1.mul g.s1).mono (by omega)) ((h.s2.mul g.s2).mono (by omega))
  ⟨ti_lw h.pos g.pos, z.1, z.2⟩
theorem Fr.rd {k : Nat} {t b : Int} (h : 0 < b) (s : Sm k t) (g : Sm k b) : Fr k (rd t b) := ⟨rd_lw h, (rd_sm h s g).1, (rd_sm h s g).2⟩
def low (t b : Int) : Int × Int := if b < 0 then rd (-t) (-b) else rd t b
theorem low_pos {t b : Int} (h : 0 < b) : low t b = rd t b := by unfold low; rw [if_neg (by omega)]
end Mth
namespace Mth
abbrev Bn := Option (Int × Bool)
def kp (p : Int × Int) : Bn → Bool
  | none => true
  | some (n, true) => decide (p.1 * 1 < n * p.2)
  | some (n, false) => !decide (n * p.2 < p.1 * 1)
def bs : Bn → Bn → Bn
  | some (n, s), some (m, t) => some (n + m, s || t)
  | _, _ => none
theorem bs_comm (a b : Bn) : bs b a = bs a b := by
  rcases a with _ | ⟨n, s⟩ <;> rcases b with _ | ⟨m, t⟩ <;> simp [bs, Int.add_comm, Bool.or_comm]
theorem bs_assoc (a b c : Bn) : bs (bs a b) c = bs a (bs b c) := by
  rcases a with _ | ⟨n, s⟩ <;> rcases b with _ | ⟨m, t⟩ <;> rcases c with _ | ⟨l, u⟩ <;> simp [bs, Int.add_assoc, Bool.or_assoc]
theorem bs_zero (a : Bn) : bs a (some (0, false)) = a := by
  rcases a with _ | ⟨n, s⟩ <;> simp [bs]
def Kp (p : Int × Int) : Bn → Prop
  | none => True
  | some (n, true) => p.1 < n * p.2
  | some (n, false) => p.1 ≤ n * p.2
theorem kp_iff {p : Int × Int} {b : Bn} : kp p b = true ↔ Kp p b := by
  rcases b with _ | ⟨n, _ | _⟩
  · simp [kp, Kp]
  · simp [kp, Kp]
  · simp [kp, Kp]
theorem Kp.rd {t b : Int} (h : 0 < b) {c : Bn} (k : Kp (t, b) c) : Kp (rd t b) c := by
  have e := rd_cross (t := t) (b := b)
  have l := (rd_lo (t := t) h).pos
  generalize Mth.rd t b = p at *
  rcases c with _ | ⟨n, _ | _⟩
  · trivial
  · show p.1 ≤ n * p.2
    have k' : t ≤ n * b := k
    have h1 : p.1 * b ≤ (n * p.2) * b := by
      have : t * p.2 ≤ (n * b) * p.2 := Int.mul_le_mul_of_nonneg_right k' (by omega)
      calc p.1 * b = t * p.2 := e
        _ ≤ (n * b) * p.2 := this
        _ = (n * p.2) * b := by grind
    exact Int.le_of_mul_le_mul_right h1 h
  · show p.1 < n * p.2
    have k' : t < n * b := k
    have h1 : p.1 * b < (n * p.2) * b := by
      have : t * p.2 < (n * b) * p.2 := Int.mul_lt_mul_of_pos_right k' l
      calc p.1 * b = t * p.2 := e
        _ < (n * b) * p.2 := this
        _ = (n * p.2) * b := by grind
    exact Int.lt_of_mul_lt_mul_right h1 (by omega)
theorem Kp.sum {p q : Int × Int} {a b : Bn} (hp : 0 < p.2) (hq : 0 < q.2) (h : Kp p a) (k : Kp q b) : Kp (p.1 * q.2 + q.1 * p.2, p.2 * q.2) (bs a b) := by
  rcases a with _ | ⟨n, s⟩
  · trivial
  rcases b with _ | ⟨m, t⟩
  · cases s <;> trivial
  have e1 : (n + m) * (p.2 * q.2) = (n * p.2) * q.2 + (m * q.2) * p.2 := by grind
  cases s <;> cases t
  · show p.1 * q.2 + q.1 * p.2 ≤ (n + m) * (p.2 * q.2)
    have h1 : p.1 ≤ n * p.2 := h
    have k1 : q.1 ≤ m * q.2 := k
    have a1 := Int.mul_le_mul_of_nonneg_right h1 (show 0 ≤ q.2 by omega)
    have a2 := Int.mul_le_mul_of_nonneg_right k1 (show 0 ≤ p.2 by omega)
    omega
  · show p.1 * q.2 + q.1 * p.2 < (n + m) * (p.2 * q.2)
    have h1 : p.1 ≤ n * p.2 := h
    have k1 : q.1 < m * q.2 := k
    have a1 := Int.mul_le_mul_of_nonneg_right h1 (show 0 ≤ q.2 by omega)
    have a2 := Int.mul_lt_mul_of_pos_right k1 hp
    omega
  · show p.1 * q.2 + q.1 * p.2 < (n + m) * (p.2 * q.2)
    have h1 : p.1 < n * p.2 := h
    have k1 : q.1 ≤ m * q.2 := k
    have a1 := Int.mul_lt_mul_of_pos_right h1 hq
    have a2 := Int.mul_le_mul_of_nonneg_right k1 (show 0 ≤ p.2 by omega)
    omega
  · show p.1 * q.2 + q.1 * p.2 < (n + m) * (p.2 * q.2)
    have h1 : p.1 < n * p.2 := h
    have k1 : q.1 < m * q.2 := k
    have a1 := Int.mul_lt_mul_of_pos_right h1 hq
    have a2 := Int.mul_lt_mul_of_pos_right k1 hp
    omega
def b2 (s : Bool) : Int := if s then 1 else 0
def far (f : Int) (s : Bool) : Int := if f = 0 ∧ s = true then 1 else f
end Mth
namespace Mth
def tgt : Bn → Bn → Bool
  | none, _ => false
  | some _, none => true
  | some (n, s), some (m, t) => if n = m then s && !t else decide (n < m)
theorem tgt_ss (n m : Int) (s t : Bool) : tgt (some (n, s)) (some (m, t)) = if n = m then s && !t else decide (n < m) := rfl
theorem tgt_self (a : Bn) : tgt a a = false := by
  rcases a with _ | ⟨n, s⟩
  · rfl
  · simp [tgt]
theorem mul_lt_of {n m b : Int} (h : n < m) (hb : 0 < b) : n * b + b ≤ m * b := by
  have h1 : (n + 1) * b ≤ m * b := Int.mul_le_mul_of_nonneg_right (by omega) (by omega)
  have h2 : (n + 1) * b = n * b + b := by grind
  omega
theorem not_tgt_sub {a b : Bn} {p : Int × Int} (hp : 0 < p.2) (h : tgt a b = false) (k : Kp p b) : Kp p a := by
  rcases a with _ | ⟨n, s⟩
  · trivial
  rcases b with _ | ⟨m, t⟩
  · simp [tgt] at h
  rw [tgt_ss] at h
  by_cases e : n = m
  · rw [if_pos e] at h
    subst e
    cases s <;> cases t <;> simp at h
    · exact k
    · exact Int.le_of_lt k
    · exact k
  · rw [if_neg e] at h
    have hl : ¬ n < m := of_decide_eq_false h
    have hm := mul_lt_of (show m < n by omega) hp
    cases s <;> cases t
    · have k' : p.1 ≤ m * p.2 := k
      show p.1 ≤ n * p.2
      omega
    · have k' : p.1 < m * p.2 := k
      show p.1 ≤ n * p.2
      omega
    · have k' : p.1 ≤ m * p.2 := k
      show p.1 < n * p.2
      omega
    · have k' : p.1 < m * p.2 := k
      show p.1 < n * p.2
      omega
def sel (a b : Bn) (p : Int × Int) : Bool := !kp p a && kp p b
def cnt (a b : Bn) (ps : List (Int × Int)) : Int := ((ps.filter (sel a b)).length : Nat)
theorem cnt_zero {a b : Bn} {ps : List (Int × Int)} (hp : ∀ p ∈ ps, 0 < p.2) (h : tgt a b = false) : cnt a b ps = 0 := by
  unfold cnt
  rw [List.filter_eq_nil_iff.mpr]
  · rfl
  · intro p hm hs
    unfold sel at hs
    rw [Bool.and_eq_true, Bool.not_eq_true'] at hs
    have k := not_tgt_sub (hp p hm) h (kp_iff.mp hs.2)
    rw [kp_iff.mpr k] at hs
    cases hs.1
theorem cnt_pos {a b : Bn} {ps : List (Int × Int)} {p : Int × Int} (hm : p ∈ ps) (hs : sel a b p = true) : 0 < cnt a b ps := by
  unfold cnt
  have : p ∈ ps.filter (sel a b) := List.mem_filter.mpr ⟨hm, hs⟩
  have := List.length_pos_of_mem this
  omega
def numOf : Bn → List Int
  | none => []
  | some (n, _) => [n]
def nums (a b : Bn) : List Int := 0 :: (numOf a ++ numOf b)
def five (n : Int) : List (Int × Int) := [(n, 1), (2 * n - 1, 2), (2 * n + 1, 2), (n + 1, 1), (n - 1, 1)]
def half : Bn → Bn → Int
  | none, none => 0 + 0
  | none, some (m, _) => m + 0
  | some (n, _), none => n + 0
  | some (n, _), some (m, _) => m + n
def tr (a b : Bn) : List (Int × Int) := (nums a b).flatMap five ++ [low (half a b) 2]
structure Wit (a b : Bn) (ps : List (Int × Int)) : Prop where
  pos : ∀ p ∈ ps, 0 < p.2
  l : tgt a b = true → ∃ p ∈ ps, sel a b p = true
  r : tgt b a = true → ∃ p ∈ ps, sel b a p = true
theorem Wit.first {a b : Bn} {ps : List (Int × Int)} (w : Wit a b ps) : decide (0 < cnt a b ps) = tgt a b := by
  cases h : tgt a b
  · rw [cnt_zero w.pos h]; rfl
  · obtain ⟨p, h1, h2⟩ := w.l h
    exact decide_eq_true (cnt_pos h1 h2)
theorem Wit.symm {a b : Bn} {ps : List (Int × Int)} (w : Wit a b ps) : Wit b a ps := ⟨w.pos, w.r, w.l⟩
end Mth
namespace Mth
def Le (a b : Bn) : Prop := tgt b a = false
theorem Le.refl (a : Bn) : Le a a := tgt_self a
theorem le_none (a : Bn) : Le a none := rfl
theorem le_ss {n m : Int} {s t : Bool} : Le (some (n, s)) (some (m, t)) ↔ n < m ∨ (n = m ∧ (t = true → s = true)) := by
  unfold Le
  rw [tgt_ss]
  by_cases h : m = n
  · subst h
    rw [if_pos rfl]
    cases s <;> cases t <;> simp
  · rw [if_neg h, decide_eq_false_iff_not]
    constructor
    · intro g
      exact .inl (by omega)
    · rintro (g | ⟨g, _⟩)
      · omega
      · exact absurd g.symm h
theorem not_le_none {n : Int} {s : Bool} : ¬ Le none (some (n, s)) := fun h => by cases h
theorem Le.trans {a b c : Bn} (h : Le a b) (g : Le b c) : Le a c := by
  rcases c with _ | ⟨p, u⟩
  · exact le_none a
  rcases b with _ | ⟨m, t⟩
  · exact absurd g not_le_none
  rcases a with _ | ⟨n, s⟩
  · exact absurd h not_le_none
  rw [le_ss] at *
  rcases h with h | ⟨h, h'⟩ <;> rcases g with g | ⟨g, g'⟩
  · exact .inl (by omega)
  · exact .inl (by omega)
  · exact .inl (by omega)
  · exact .inr ⟨by omega, fun z => h' (g' z)⟩
theorem Le.total (a b : Bn) : Le a b ∨ Le b a := by
  rcases a with _ | ⟨n, s⟩
  · exact .inr (le_none b)
  rcases b with _ | ⟨m, t⟩
  · exact .inl (le_none _)
  rw [le_ss, le_ss]
  by_cases h : n = m
  · subst h
    cases s <;> cases t <;> simp
  · by_cases g : n < m
    · exact .inl (.inl g)
    · exact .inr (.inl (by omega))
theorem Le.antisymm {a b : Bn} (h : Le a b) (g : Le b a) : a = b := by
  rcases a with _ | ⟨n, s⟩
  · rcases b with _ | ⟨m, t⟩
    · rfl
    · exact absurd h not_le_none
  rcases b with _ | ⟨m, t⟩
  · exact absurd g not_le_none
  rw [le_ss] at *
  have e : n = m := by omega
  subst e
  have h' : t = true → s = true := by rcases h with h | h; omega; exact h.2
  have g' : s = true → t = true := by rcases g with g | g; omega; exact g.2
  cases s <;> cases t <;> simp_all
theorem le_of_tgt {a b : Bn} (h : tgt a b = true) : Le a b := by
  rcases Le.total a b with z | z
  · exact z
  · unfold Le at z
    rw [h] at z; cases z
theorem Le.sum {a b c d : Bn} (h : Le a b) (g : Le c d) : Le (bs a c) (bs b d) := by
  rcases b with _ | ⟨m, t⟩
  · exact le_none _
  rcases d with _ | ⟨q, v⟩
  · exact le_none _
  rcases a with _ | ⟨n, s⟩
  · exact absurd h not_le_none
  rcases c with _ | ⟨p, u⟩
  · exact absurd g not_le_none
  show Le (some (n + p, s || u)) (some (m + q, t || v))
  rw [le_ss] at *
  rcases h with h | ⟨h, h'⟩ <;> rcases g with g | ⟨g, g'⟩
  · exact .inl (by omega)
  · exact .inl (by omega)
  · exact .inl (by omega)
  · refine .inr ⟨by omega, fun z => ?_⟩
    rw [Bool.or_eq_true] at *
    rcases z with z | z
    · exact .inl (h' z)
    · exact .inr (g' z)
abbrev b0 : Bn := some (0, false)
theorem b0_bs (a : Bn) : bs b0 a = a := by rw [bs_comm, bs_zero]
def Nn (a : Bn) : Prop := Le b0 a
theorem Nn.sum {a b : Bn} (h : Nn a) (g : Nn b) : Nn (bs a b) := by
  have := Le.sum h g
  rw [bs_zero] at this
  exact this
theorem nn_kp {a : Bn} : kp (0, 1) a = true ↔ Nn a := by
  rw [kp_iff]
  rcases a with _ | ⟨n, s⟩
  · exact ⟨fun _ => le_none _, fun _ => trivial⟩
  unfold Nn
  rw [le_ss]
  cases s with
  | false =>
    show 0 ≤ n * 1 ↔ _
    constructor
    · intro h
      by_cases z : 0 = n
      · exact .inr ⟨z, by simp⟩
      · exact .inl (by omega)
    · rintro (h | ⟨h, _⟩) <;> omega
  | true =>
    show 0 < n * 1 ↔ _
    constructor
    · intro h
      exact .inl (by omega)
    · rintro (h | ⟨h, g⟩)
      · omega
      · exact absurd (g rfl) (by decide)
section
variable (c : Nat → Nat → Bn)
def dm : Nat → Nat → Nat → Bn
  | 0 => c
  | m + 1 => fun i j => if tgt (bs (dm m i m) (dm m m j)) (dm m i j) then bs (dm m i m) (dm m m j) else dm m i j
def Ok (n m : Nat) : Prop := ∀ k, k < m → ∀ i, i < n → Nn (bs (dm c k i k) (dm c k k i))
variable {c} {n : Nat}
theorem dm_le (m i j : Nat) : Le (dm c (m + 1) i j) (dm c m i j) := by
  show Le (if _ then _ else _) _
  split
  · rename_i h; exact le_of_tgt h
  · exact Le.refl _
theorem dm_via (m i j : Nat) : Le (dm c (m + 1) i j) (bs (dm c m i m) (dm c m m j)) := by
  show Le (if _ then _ else _) _
  split
  · exact Le.refl _
  · rename_i h
    cases q : tgt (bs (dm c m i m) (dm c m m j)) (dm c m i j) with
    | true => exact absurd q h
    | false => exact q
theorem dm_or (m i j : Nat) : dm c (m + 1) i j = dm c m i j ∨ dm c (m + 1) i j = bs (dm c m i m) (dm c m m j) := by
  show (if _ then _ else _) = _ ∨ (if _ then _ else _) = _
  split
  · exact .inr rfl
  · exact .inl rfl
structure Fw (c : Nat → Nat → Bn) (n m : Nat) : Prop where
  dia : ∀ i, i < n → dm c m i i = b0
  clo : ∀ k, k < m → ∀ i j, i < n → j < n → Le (dm c m i j) (bs (dm c m i k) (dm c m k j))
theorem fw_zero (h : ∀ i, i < n → c i i = b0) : Fw c n 0 := ⟨h, fun k hk => by omega⟩
theorem fw_row {m : Nat} (w : Fw c n m) (hm : m < n) (j : Nat) : dm c (m + 1) m j = dm c m m j := by
  rcases dm_or (c := c) m m j with h | h
  · exact h
  · rw [h, w.dia m hm, b0_bs]
theorem fw_col {m : Nat} (w : Fw c n m) (hm : m < n) (i : Nat) : dm c (m + 1) i m = dm c m i m := by
  rcases dm_or (c := c) m i m with h | h
  · exact h
  · rw [h, w.dia m hm, bs_zero]
theorem fw_step {m : Nat} (w : Fw c n m) (hm : m < n) (ok : ∀ i, i < n → Nn (bs (dm c m i m) (dm c m m i))) : Fw c n (m + 1) := by
  refine ⟨fun i hi => ?_, fun k hk i j hi hj => ?_⟩
  · refine Le.antisymm ((dm_le m i i).trans (by rw [w.dia i hi]; exact Le.refl _)) ?_
    rcases dm_or (c := c) m i i with h | h
    · rw [h, w.dia i hi]; exact Le.refl _
    · rw [h]; exact ok i hi
  · by_cases hkm : k = m
    · subst hkm
      rw [fw_col w hm, fw_row w hm]
      exact dm_via k i j
    · have hkm : k < m := by omega
      have hkn : k < n := by omega
      have mid : Le (bs (dm c m i m) (dm c m m j)) (bs (bs (dm c m i m) (dm c m m k)) (dm c m k j)) := by
        rw [bs_assoc]
        exact Le.sum (Le.refl _) (w.clo k hkm m j hm hj)
      have mid2 : Le (bs (dm c m i m) (dm c m m j)) (bs (dm c m i k) (bs (dm c m k m) (dm c m m j))) := by
        rw [← bs_assoc]
        exact Le.sum (w.clo k hkm i m hi hm) (Le.refl _)
      rcases dm_or (c := c) m i k with h1 | h1 <;> rcases dm_or (c := c) m k j with h2 | h2 <;> rw [h1, h2]
      · exact (dm_le m i j).trans (w.clo k hkm i j hi hj)
      · exact (dm_via m i j).trans mid2
      · exact (dm_via m i j).trans mid
      · refine (dm_via m i j).trans ?_
        have z : Nn (bs (dm c m m k) (dm c m k m)) := by
          have := w.clo k hkm m m hm hm
          rw [w.dia m hm] at this
          exact this
        have e : bs (bs (dm c m i m) (dm c m m k)) (bs (dm c m k m) (dm c m m j)) = bs (dm c m i m) (bs (bs (dm c m m k) (dm c m k m)) (dm c m m j)) := by
          rw [bs_assoc, bs_assoc]
        rw [e]
        refine Le.sum (Le.refl _) ?_
        have := Le.sum z (Le.refl (dm c m m j))
        rw [b0_bs] at this
        exact this
theorem fw_all (h : ∀ i, i < n → c i i = b0) : ∀ m, m ≤ n → Ok c n m → Fw c n m
  | 0, _, _ => fw_zero h
  | m + 1, hm, ok => fw_step (fw_all h m (by omega) fun k hk => ok k (by omega)) (by omega) (ok m (by omega))
variable (c) in
def wt : List Nat → Bn
  | [] => b0
  | [_] => b0
  | a :: b :: r => bs (c a b) (wt (b :: r))
theorem wt_app : ∀ (xs : List Nat) (v : Nat) (ys : List Nat), wt c (xs ++ v :: ys) = bs (wt c (xs ++ [v])) (wt c (v :: ys))
  | [], v, ys => by
    show wt c (v :: ys) = bs b0 (wt c (v :: ys))
    rw [b0_bs]
  | [a], v, ys => by
    show bs (c a v) (wt c (v :: ys)) = bs (bs (c a v) b0) (wt c (v :: ys))
    rw [bs_zero]
  | a :: b :: xs, v, ys => by
    show bs (c a b) (wt c ((b :: xs) ++ v :: ys)) = bs (bs (c a b) (wt c ((b :: xs) ++ [v]))) (wt c (v :: ys))
    rw [wt_app (b :: xs) v ys, bs_assoc]
theorem dm_c (a z : Nat) : ∀ k, Le (dm c k a z) (c a z)
  | 0 => Le.refl _
  | k + 1 => (dm_le k a z).trans (dm_c a z k)
theorem wt_le {m : Nat} (w : Fw c n m) (hm : m ≤ n) : ∀ (xs : List Nat) (a z : Nat), a < n → z < n → (∀ x ∈ xs, x < m) → Le (dm c m a z) (wt c (a :: (xs ++ [z])))
  | [], a, z, ha, hz, _ => by
    show Le _ (bs (c a z) b0)
    rw [bs_zero]
    exact dm_c a z m
  | x :: xs, a, z, ha, hz, h => by
    have hx := h x List.mem_cons_self
    have ih := wt_le w hm xs x z (by omega) hz fun y my => h y (List.mem_cons_of_mem _ my)
    show Le _ (bs (c a x) (wt c (x :: (xs ++ [z]))))
    exact (w.clo x hx a z ha hz).trans (Le.sum (dm_c a x m) ih)
structure Way (c : Nat → Nat → Bn) (n m i j : Nat) (p : List Nat) : Prop where
  hd : ∃ xs, p = i :: xs ∧ ∀ x ∈ xs, x < m
  nd : i ≠ j → (p ++ [j]).Nodup
  sm : wt c (p ++ [j]) = dm c m i j
theorem Way.lt {m i j : Nat} {p : List Nat} (w : Way c n m i j p) (hi : i < n) (hm : m ≤ n) : ∀ x ∈ p, x < n := fun x mx => by
  obtain ⟨xs, rfl, h⟩ := w.hd
  rcases List.mem_cons.mp mx with e | e
  · omega
  · have := h x e; omega
theorem meet {m i j v : Nat} {p q : List Nat} (w : Fw c n m) (hm : m < n) (hi : i < n) (hj : j < n) (wp : Way c n m i m p) (wq : Way c n m m j q) (hv : v < m) (vp : v ∈ p) (vq : v ∈ q ++ [j]) :
    Le (bs (dm c m i v) (dm c m v j)) (bs (dm c m i m) (dm c m m j)) := by
  have hvn : v < n := by omega
  obtain ⟨xs, rfl, hx⟩ := wp.hd
  obtain ⟨ys, rfl, hy⟩ := wq.hd
  have c1 : Le (bs (dm c m i v) (dm c m v m)) (dm c m i m) := by
    rcases List.mem_cons.mp vp with e | e
    · subst e
      rw [w.dia v hvn, b0_bs]
      exact Le.refl _
    · obtain ⟨s, t, rfl⟩ := List.append_of_mem e
      rw [← wp.sm]
      have e1 : i :: (s ++ v :: t) ++ [m] = (i :: s) ++ v :: (t ++ [m]) := by simp
      rw [e1, wt_app]
      exact Le.sum (wt_le w (by omega) s i v hi hvn fun x mx => hx x (List.mem_append_left _ mx)) (wt_le w (by omega) t v m hvn hm fun x mx => hx x (List.mem_append_right _ (List.mem_cons_of_mem _ mx)))
  have c2 : Le (bs (dm c m m v) (dm c m v j)) (dm c m m j) := by
    rcases List.mem_append.mp vq with e | e
    · rcases List.mem_cons.mp e with e | e
      · omega
      · obtain ⟨s, t, rfl⟩ := List.append_of_mem e
        rw [← wq.sm]
        have e1 : m :: (s ++ v :: t) ++ [j] = (m :: s) ++ v :: (t ++ [j]) := by simp
        rw [e1, wt_app]
        exact Le.sum (wt_le w (by omega) s m v hm hvn fun x mx => hy x (List.mem_append_left _ mx)) (wt_le w (by omega) t v j hvn hj fun x mx => hy x (List.mem_append_right _ (List.mem_cons_of_mem _ mx)))
    · have : v = j := by simpa using e
      subst this
      rw [w.dia v hvn, bs_zero]
      exact Le.refl _
  refine Le.trans ?_ (Le.sum c1 c2)
  have z : Nn (bs (dm c m v m) (dm c m m v)) := by
    have := w.clo v hv m m hm hm
    rw [w.dia m hm, bs_comm] at this
    exact this
  have e : bs (bs (dm c m i v) (dm c m v m)) (bs (dm c m m v) (dm c m v j)) = bs (dm c m i v) (bs (bs (dm c m v m) (dm c m m v)) (dm c m v j)) := by
    rw [bs_assoc, bs_assoc]
  rw [e]
  refine Le.sum (Le.refl _) ?_
  have := Le.sum z (Le.refl (dm c m v j))
  rw [b0_bs] at this
  exact this
theorem nodup_join {p q : List Nat} (h : p.Nodup) (g : q.Nodup) (d : ∀ x, x ∈ p → x ∉ q) : (p ++ q).Nodup := List.nodup_append.mpr ⟨h, g, fun x hx y hy e => by subst e; exact d x hx hy⟩
theorem way_mono {m i j : Nat} {p : List Nat} (w : Way c n m i j p) (e : dm c (m + 1) i j = dm c m i j) : Way c n (m + 1) i j p := by
  obtain ⟨xs, h, hx⟩ := w.hd
  exact ⟨⟨xs, h, fun x mx => Nat.lt_succ_of_lt (hx x mx)⟩, w.nd, w.sm.trans e.symm⟩
theorem way_via {m i j : Nat} {p q : List Nat} (w : Fw c n m) (hm : m < n) (hi : i < n) (hj : j < n) (wp : Way c n m i m p) (wq : Way c n m m j q) (ok : Nn (bs (dm c m i m) (dm c m m i))) (t : tgt (bs (dm c m i m) (dm c m m j)) (dm c m i j) = true) : Way c n (m + 1) i j (p ++ q) := by
  have him : i ≠ m := fun e => by
    subst e
    rw [w.dia i hi, b0_bs, tgt_self] at t
    cases t
  have hmj : m ≠ j := fun e => by
    subst e
    rw [w.dia m hm, bs_zero, tgt_self] at t
    cases t
  have e1 : dm c (m + 1) i j = bs (dm c m i m) (dm c m m j) := if_pos t
  have ndp := List.nodup_append.mp (wp.nd him)
  have ndq := wq.nd hmj
  obtain ⟨xs, ep, hx⟩ := wp.hd
  obtain ⟨ys, eq, hy⟩ := wq.hd
  refine ⟨⟨xs ++ q, by rw [ep]; rfl, fun x mx => ?_⟩, fun hij => ?_, ?_⟩
  · rcases List.mem_append.mp mx with z | z
    · have := hx x z; omega
    · rw [eq] at z
      rcases List.mem_cons.mp z with z | z
      · omega
      · have := hy x z; omega
  · rw [List.append_assoc]
    refine nodup_join ndp.1 ndq fun v vp vq => ?_
    have no : ∀ v, v < m → v ∈ p → v ∈ q ++ [j] → False := fun v hv vp vq => by
      have h1 := meet w hm hi hj wp wq hv vp vq
      have h2 := (w.clo v hv i j hi hj).trans h1
      unfold Le at h2
      rw [t] at h2
      cases h2
    have vm : v ≠ m := fun e => ndp.2.2 v vp m (by simp) e
    have vp' := vp
    rw [ep] at vp'
    rcases List.mem_cons.mp vp' with e | e
    · -- v is i
      subst e
      rcases List.mem_append.mp vq with z | z
      · rw [eq] at z
        rcases List.mem_cons.mp z with z | z
        · exact vm z
        · exact no v (hy v z) vp vq
      · exact hij (by simpa using z)
    · exact no v (hx v e) vp vq
  · rw [List.append_assoc]
    rw [eq]
    rw [List.cons_append, wt_app, ← List.cons_append, ← eq, wp.sm, wq.sm, e1]
theorem ring_nd {m i : Nat} {p q : List Nat} (w : Fw c n m) (hm : m < n) (hi : i < n) (wp : Way c n m i m p) (wq : Way c n m m i q) (bad : ¬ Nn (bs (dm c m i m) (dm c m m i))) : (p ++ q).Nodup ∧ i ≠ m ∧ wt c (p ++ q ++ [i]) = bs (dm c m i m) (dm c m m i) := by
  have him : i ≠ m := fun e => bad (by subst e; rw [w.dia i hi, b0_bs]; exact Le.refl _)
  have ndp := List.nodup_append.mp (wp.nd him)
  have ndq := List.nodup_append.mp (wq.nd (Ne.symm him))
  obtain ⟨xs, ep, hx⟩ := wp.hd
  obtain ⟨ys, eq, hy⟩ := wq.hd
  refine ⟨nodup_join ndp.1 ndq.1 fun v vp vq => ?_, him, ?_⟩
  · have vm : v ≠ m := fun e => ndp.2.2 v vp m (by simp) e
    have hv : v < m := by
      rw [eq] at vq
      rcases List.mem_cons.mp vq with z | z
      · exact absurd z vm
      · exact hy v z
    have h1 := meet w hm hi hi wp wq hv vp (List.mem_append_left _ vq)
    have h2 := w.clo v hv i i hi hi
    rw [w.dia i hi] at h2
    exact bad (h2.trans h1)
  · rw [List.append_assoc, eq, List.cons_append, wt_app, ← List.cons_append, ← eq, wp.sm, wq.sm]
theorem way_zero (i j : Nat) : Way c n 0 i j [i] := ⟨⟨[], rfl, fun _ m => nomatch m⟩, fun h => by simp [h], by show bs (c i j) b0 = c i j; rw [bs_zero]⟩
end
def tg2 (a b : Bn) : Bn := if tgt b a then b else a
theorem tg2_l (a b : Bn) : Le (tg2 a b) a := by
  unfold tg2
  split
  · rename_i h; exact le_of_tgt h
  · exact Le.refl _
theorem tg2_r (a b : Bn) : Le (tg2 a b) b := by
  unfold tg2
  split
  · exact Le.refl _
  · rename_i h
    cases q : tgt b a with
    | true => exact absurd q h
    | false => exact q
theorem tg2_inf {x a b : Bn} (h : Le x a) (g : Le x b) : Le x (tg2 a b) := by
  unfold tg2
  split
  · exact g
  · exact h
def sqf (f : Nat → Nat → Bn) (i j : Nat) (ms : List Nat) (x : Bn) : Bn := ms.foldl (fun x m => tg2 x (bs (f i m) (f m j))) x
theorem sqf_le (f : Nat → Nat → Bn) (i j : Nat) : ∀ (ms : List Nat) (x : Bn), Le (sqf f i j ms x) x
  | [], x => Le.refl _
  | m :: ms, x => (sqf_le f i j ms _).trans (tg2_l _ _)
theorem sqf_via (f : Nat → Nat → Bn) (i j : Nat) : ∀ (ms : List Nat) (x : Bn) (m : Nat), m ∈ ms → Le (sqf f i j ms x) (bs (f i m) (f m j))
  | [], x, m, h => nomatch h
  | k :: ms, x, m, h => by
    rcases List.mem_cons.mp h with e | e
    · subst e
      exact (sqf_le f i j ms _).trans (tg2_r _ _)
    · exact sqf_via f i j ms _ m e
theorem sqf_inf (f : Nat → Nat → Bn) (i j : Nat) {y : Bn} : ∀ (ms : List Nat) (x : Bn), Le y x → (∀ m ∈ ms, Le y (bs (f i m) (f m j))) → Le y (sqf f i j ms x)
  | [], x, h, _ => h
  | k :: ms, x, h, g => sqf_inf f i j ms _ (tg2_inf h (g k List.mem_cons_self)) fun m hm => g m (List.mem_cons_of_mem _ hm)
def sq (n : Nat) (f : Nat → Nat → Bn) (i j : Nat) : Bn := sqf f i j (List.range n) (f i j)
def sqs (n : Nat) (f : Nat → Nat → Bn) : Nat → Nat → Nat → Bn
  | 0 => f
  | k + 1 => sq n (sqs n f k)
section
variable {c : Nat → Nat → Bn} {n : Nat}
theorem sqs_self (k i j : Nat) : Le (sqs n c k i j) (c i j) := by
  induction k with
  | zero => exact Le.refl _
  | succ k ih => exact (sqf_le _ i j _ _).trans ih
theorem sqs_ge (w : Fw c n n) : ∀ (k i j : Nat), i < n → j < n → Le (dm c n i j) (sqs n c k i j)
  | 0, i, j, _, _ => dm_c i j n
  | k + 1, i, j, hi, hj => sqf_inf _ i j _ _ (sqs_ge w k i j hi hj) fun m hm => by
    have hm := List.mem_range.mp hm
    exact (w.clo m hm i j hi hj).trans (Le.sum (sqs_ge w k i m hi hm) (sqs_ge w k m j hm hj))
theorem sqs_le (d : ∀ i, i < n → c i i = b0) : ∀ (k : Nat) (xs : List Nat) (a z : Nat), a < n → z < n → (∀ x ∈ xs, x < n) → xs.length + 1 ≤ 2 ^ k → Le (sqs n c k a z) (wt c (a :: (xs ++ [z])))
  | 0, [], a, z, _, _, _, _ => by
    show Le (c a z) (bs (c a z) b0)
    rw [bs_zero]
    exact Le.refl _
  | 0, x :: xs, a, z, _, _, _, h => by simp at h
  | k + 1, xs, a, z, ha, hz, hx, h => by
    by_cases hl : xs.length + 1 ≤ 2 ^ k
    · exact (sqf_le _ a z _ _).trans (sqs_le d k xs a z ha hz hx hl)
    · have hp : 0 < 2 ^ k := Nat.pos_of_ne_zero (by simp)
      have h2 : 2 ^ (k + 1) = 2 ^ k + 2 ^ k := by omega
      have hlt : 2 ^ k - 1 < xs.length := by omega
      have e : xs = xs.take (2 ^ k - 1) ++ xs[2 ^ k - 1] :: xs.drop (2 ^ k - 1 + 1) := by
        rw [← List.drop_eq_getElem_cons hlt, List.take_append_drop]
      generalize hv : xs[2 ^ k - 1] = v at e
      have hvn : v < n := by rw [← hv]; exact hx _ (List.getElem_mem _)
      have l1 : (xs.take (2 ^ k - 1)).length = 2 ^ k - 1 := by rw [List.length_take]; omega
      have l2 : (xs.drop (2 ^ k - 1 + 1)).length = xs.length - (2 ^ k - 1 + 1) := List.length_drop
      have m1 : ∀ x ∈ xs.take (2 ^ k - 1), x < n := fun x m => hx x (List.mem_of_mem_take m)
      have m2 : ∀ x ∈ xs.drop (2 ^ k - 1 + 1), x < n := fun x m => hx x (List.mem_of_mem_drop m)
      generalize xs.take (2 ^ k - 1) = p at *
      generalize xs.drop (2 ^ k - 1 + 1) = q at *
      have e1 : a :: (xs ++ [z]) = (a :: p) ++ v :: (q ++ [z]) := by rw [e]; simp
      rw [e1, wt_app]
      exact (sqf_via _ a z _ _ v (List.mem_range.mpr hvn)).trans (Le.sum (sqs_le d k p a v ha hvn m1 (by omega)) (sqs_le d k q v z hvn hz m2 (by omega)))
theorem nodup_len : ∀ (n : Nat) (p : List Nat), p.Nodup → (∀ x ∈ p, x < n) → p.length ≤ n
  | 0, [], _, _ => Nat.le_refl _
  | 0, x :: p, _, h => absurd (h x List.mem_cons_self) (by omega)
  | n + 1, p, nd, h => by
    have ih := nodup_len n (p.erase n) (nd.erase n) fun x m => by
      have m' := (List.Nodup.mem_erase_iff nd).mp m
      have := h x m'.2
      omega
    have := List.length_erase (a := n) (l := p)
    split at this <;> omega
theorem closed_same (d : ∀ i, i < n → c i i = b0) (ok : Ok c n n) (hn : n ≤ 16) (ways : ∀ i j, i < n → j < n → ∃ p, Way c n n i j p) {i j : Nat} (hi : i < n) (hj : j < n) : sqs n c 4 i j = dm c n i j := by
  have w := fw_all d n (Nat.le_refl n) ok
  refine Le.antisymm ?_ (sqs_ge w 4 i j hi hj)
  by_cases hij : i = j
  · subst hij
    rw [w.dia i hi]
    have := sqs_self (n := n) (c := c) 4 i i
    rw [d i hi] at this
    exact this
  · obtain ⟨p, wp⟩ := ways i j hi hj
    have nd := List.nodup_append.mp (wp.nd hij)
    have lt := wp.lt hi (Nat.le_refl n)
    have ln := nodup_len n p nd.1 lt
    obtain ⟨xs, ep, hx⟩ := wp.hd
    rw [← wp.sm, ep, List.cons_append]
    rw [ep] at ln
    exact sqs_le d 4 xs i j hi hj hx (by rw [List.length_cons] at ln; omega)
theorem ring_found (d : ∀ i, i < n → c i i = b0) (hn : n ≤ 16) {r : List Nat} {i : Nat} (h : ∃ xs, r = i :: xs) (nd : r.Nodup) (lt : ∀ x ∈ r, x < n) (bad : ¬ Nn (wt c (r ++ [i]))) : sqs n c 4 i i ≠ b0 := fun e => by
  obtain ⟨xs, rfl⟩ := h
  have ln := nodup_len n _ nd lt
  have hi := lt i List.mem_cons_self
  have := sqs_le d 4 xs i i hi hi (fun x m => lt x (List.mem_cons_of_mem _ m)) (by rw [List.length_cons] at ln; omega)
  rw [e] at this
  exact bad this
theorem wt_snoc (xs : List Nat) (a b : Nat) : wt c (xs ++ [a, b]) = bs (wt c (xs ++ [a])) (c a b) := by
  rw [wt_app xs a [b]]
  show bs _ (bs (c a b) b0) = _
  rw [bs_zero]
theorem wt_congr {c c' : Nat → Nat → Bn} : ∀ (l : List Nat), l.Nodup → (∀ a b, a ∈ l → b ∈ l → a ≠ b → c a b = c' a b) → wt c l = wt c' l
  | [], _, _ => rfl
  | [_], _, _ => rfl
  | a :: b :: r, nd, h => by
    have n1 := List.nodup_cons.mp nd
    show bs (c a b) (wt c (b :: r)) = bs (c' a b) (wt c' (b :: r))
    rw [h a b List.mem_cons_self (List.mem_cons_of_mem _ List.mem_cons_self) fun e => n1.1 (e ▸ List.mem_cons_self), wt_congr (b :: r) n1.2 fun x y hx hy => h x y (List.mem_cons_of_mem _ hx) (List.mem_cons_of_mem _ hy)]
end
end Mth
namespace Dl
open PySem PySem.Spec PyProof.Rows L2
structure FlyB (P : Program) (w : World) (H H' : Hp) (s : Shared) (l : List Env) (B : Heap) (s' : Shared) : Prop where
  os : s'.os = s.os
  bare : AllBare s'.gens
  un : Un (frs l) [] H H' s.heap s'.heap
  hok : HOk P w H' B
  keepB : ∀ b o, s.heap.get? b = some o → H b = none → b ∉ frs l → B.get? b = some o
  thereB : ∀ b o, s.heap.get? b = some o → b ∉ frs l → ∃ o', B.get? b = some o'
def FlyX (P : Program) (w : World) (H H' : Hp) (s : Shared) (l : List Env) (x C : Addr) (s' : Shared) : Prop :=
  ∃ (B : Heap) (t : Addr), FlyB P w H H' s l B s' ∧ Heap.FlyingW B l x (.ref C) (.ref t) s'.heap
section
variable {P : Program} {w : World} {H H' : Hp} {s s' : Shared} {l : List Env} {B : Heap} {h' : Heap}
theorem FlyB.turn (F : FlyB P w H H' s l B s') (hf : s'.heap.FunFrames B l) (st : B.StaysIn h') (up : s'.heap.UpToSlots h') : FlyB P w H H' s l B { s' with heap := h' } where
  os := F.os
  bare := F.bare
  hok := F.hok
  keepB := F.keepB
  thereB := F.thereB
  un := by
    have sl : ∀ b o, s.heap.get? b = some o → H b = none → b ∈ frs l → ∃ sl, h'.get? b = some { o with slots := sl } := fun b o e n hb => by
      obtain ⟨sl, e1⟩ := F.un.slot b o e n hb (by simp)
      obtain ⟨_, o2, ho2, hd⟩ := hf.mem hb
      rw [e1] at ho2
      cases ho2
      obtain ⟨sl2, e2⟩ := up b _ e1 hd
      exact ⟨sl2, e2⟩
    refine ⟨fun b o e n hb _ => st b o (F.keepB b o e n hb), fun b o e n hb _ => sl b o e n hb, F.un.free, fun b o e _ => ?_, F.un.tups, F.un.frzs, F.un.tbls⟩
    by_cases hb : b ∈ frs l
    · obtain ⟨o1, e1⟩ := F.un.there b o e (by simp)
      obtain ⟨_, o2, ho2, hd⟩ := hf.mem hb
      obtain ⟨sl2, e2⟩ := up b _ ho2 hd
      exact ⟨_, e2⟩
    · obtain ⟨o1, e1⟩ := F.thereB b o e hb
      exact ⟨o1, st b o1 e1⟩
end
def XMade (X : Cx) (C : Addr) (σ : L2.St) (H : Hp) : Prop := ∀ (pins : List (Addr × Obj)) (s : Shared) (h' : Heap) (e : Addr) (vs : List Value), L2.Inv X pins σ H s → Heap.MadeExcOf s.heap h' e (.ref C) vs → X.xe (.ref e) { s with heap := h' }
def XFly (X : Cx) (C : Addr) (σ : L2.St) (H : Hp) : Prop := ∀ (pins : List (Addr × Obj)) (H₀ : Hp) (s : Shared) (x : Addr) (s' : Shared), L2.Inv X pins σ H₀ s → FlyX X.prog X.w H₀ H s X.stack x C s' → X.xe (.ref x) s'
section
variable {P : Program} {w : World} {K : PySem.W.Frag} {mg : Str → Option Value} {base : Heap} {N : List Str} {qual : Str} {scope : Scope} {f : Addr} {cd : Value} {A : Around} {outer : List Env} {s : Shared} {H : Hp} {E : XK}
end
end Dl
namespace Dl
open PySem PySem.Spec PyProof.Rows L2
inductive D where
  | non
  | bl (b : Bool)
  | int (i : Int)
  | str (x : Str)
  | tup (ds : List D)
  | lst (ds : List D)
  | seq (ds : List D)
  | ty (n : String)
  | dct
  | exc (C : Addr)
  | cls (C : Addr)
def DctO (a : Addr) : HO := .ext fun h => ∃ o, h.get? a = some o ∧ o.cls = .type "dict"
def ExcO (a C : Addr) : HO := .ext fun h => ∃ o vs, h.get? a = some o ∧ o.cls = .ref C ∧ o.data = .fields vs
mutual
inductive Rep (K : PySem.W.Frag) (H : Hp) : V → D → Prop
  | non : Rep K H .non .non
  | bl (b : Bool) : Rep K H (.bl b) (.bl b)
  | int (i : Int) : Rep K H (.int i) (.int i)
  | str (x : Str) : Rep K H (.str x) (.str x)
  | ty (n : String) : Rep K H (.ty n) (.ty n)
  | tup {a : Addr} {vs : List V} {ds : List D} (h : SqT K H a vs) (r : Reps K H vs ds) : Rep K H (.ref a) (.tup ds)
  | lst {a : Addr} {vs : List V} {ds : List D} (h : H a = some (.lst vs)) (r : Reps K H vs ds) : Rep K H (.ref a) (.lst ds)
  | seq {a : Addr} {vs : List V} {ds : List D} (h : SqL K H a vs) (r : Reps K H vs ds) : Rep K H (.ref a) (.seq ds)
  | dct {a : Addr} (h : H a = some (DctO a)) : Rep K H (.ref a) .dct
  | exc {a C : Addr} (h : H a = some (ExcO a C)) : Rep K H (.ref a) (.exc C)
  | cls (C : Addr) : Rep K H (.ref C) (.cls C)
inductive Reps (K : PySem.W.Frag) (H : Hp) : List V → List D → Prop
  | nil : Reps K H [] []
  | cons {v : V} {d : D} {vs : List V} {ds : List D} (r : Rep K H v d) (t : Reps K H vs ds) : Reps K H (v :: vs) (d :: ds)
end
theorem sqT_same {K : PySem.W.Frag} {H H' : Hp} {a : Addr} {xs : List V} (e : Same H H') (h : SqT K H a xs) : SqT K H' a xs := by
  rcases h with (h | ⟨o, h⟩) | h
  · exact .inl (.inl (e _ _ h))
  · exact .inl (.inr ⟨o, e _ _ h⟩)
  · exact .inr h
mutual
theorem Rep.mono {K : PySem.W.Frag} {H H' : Hp} (e : Same H H') : ∀ {v : V} {d : D}, Rep K H v d → Rep K H' v d
  | _, _, .non => .non
  | _, _, .bl b => .bl b
  | _, _, .int i => .int i
  | _, _, .str x => .str x
  | _, _, .ty n => .ty n
  | _, _, .tup h r => .tup (sqT_same e h) (Reps.mono e r)
  | _, _, .lst h r => .lst (e _ _ h) (Reps.mono e r)
  | _, _, .seq h r => .seq (e.seq h) (Reps.mono e r)
  | _, _, .dct h => .dct (e _ _ h)
  | _, _, .exc h => .exc (e _ _ h)
  | _, _, .cls C => .cls C
theorem Reps.mono {K : PySem.W.Frag} {H H' : Hp} (e : Same H H') : ∀ {vs : List V} {ds : List D}, Reps K H vs ds → Reps K H' vs ds
  | _, _, .nil => .nil
  | _, _, .cons r t => .cons (Rep.mono e r) (Reps.mono e t)
end
theorem Reps.length {K : PySem.W.Frag} {H : Hp} : ∀ {vs : List V} {ds : List D}, Reps K H vs ds → vs.length = ds.length
  | _, _, .nil => rfl
  | _, _, .cons _ t => congrArg (· + 1) (Reps.length t)
theorem Reps.get {K : PySem.W.Frag} {H : Hp} : ∀ {vs : List V} {ds : List D} {i : Nat} {d : D}, Reps K H vs ds → ds[i]? = some d → ∃ v, vs[i]? = some v ∧ Rep K H v d
  | _, _, _, _, .nil, e => by simp at e
  | _, _, 0, _, .cons r _, e => by simp at e; subst e; exact ⟨_, rfl, r⟩
  | _, _, i + 1, d, .cons _ t, e => by
    obtain ⟨v, h1, h2⟩ := Reps.get (i := i) (d := d) t (by simpa using e)
    exact ⟨v, by simpa using h1, h2⟩
theorem Reps.getV {K : PySem.W.Frag} {H : Hp} : ∀ {vs : List V} {ds : List D} {i : Nat} {v : V}, Reps K H vs ds → vs[i]? = some v → ∃ d, ds[i]? = some d ∧ Rep K H v d
  | _, _, _, _, .nil, e => by simp at e
  | _, _, 0, _, .cons r _, e => by simp at e; subst e; exact ⟨_, rfl, r⟩
  | _, _, i + 1, d, .cons _ t, e => by
    obtain ⟨v, h1, h2⟩ := Reps.getV (i := i) (v := d) t (by simpa using e)
    exact ⟨v, by simpa using h1, h2⟩
theorem Reps.append {K : PySem.W.Frag} {H : Hp} : ∀ {vs us : List V} {ds es : List D}, Reps K H vs ds → Reps K H us es → Reps K H (vs ++ us) (ds ++ es)
  | _, _, _, _, .nil, s => s
  | _, _, _, _, .cons r t, s => .cons r (Reps.append t s)
theorem Reps.take {K : PySem.W.Frag} {H : Hp} : ∀ {vs : List V} {ds : List D} (n : Nat), Reps K H vs ds → Reps K H (vs.take n) (ds.take n)
  | _, _, 0, _ => .nil
  | _, _, _ + 1, .nil => .nil
  | _, _, n + 1, .cons r t => .cons r (Reps.take n t)
theorem Reps.drop {K : PySem.W.Frag} {H : Hp} : ∀ {vs : List V} {ds : List D} (n : Nat), Reps K H vs ds → Reps K H (vs.drop n) (ds.drop n)
  | _, _, 0, r => r
  | _, _, _ + 1, .nil => .nil
  | _, _, n + 1, .cons _ t => Reps.drop n t
theorem Reps.ints {K : PySem.W.Frag} {H : Hp} : ∀ (ns : List Int), Reps K H (ns.map V.int) (ns.map D.int)
  | [] => .nil
  | n :: r => .cons (.int n) (Reps.ints r)
theorem Reps.atI {K : PySem.W.Frag} {H : Hp} {vs : List V} {ds : List D} {i : Int} {d : D} (r : Reps K H vs ds) (e : L2.atI ds i = some d) : ∃ v, L2.atI vs i = some v ∧ Rep K H v d := by
  unfold L2.atI at e ⊢
  rw [← r.length] at e
  obtain ⟨j, h1, h2⟩ := Option.bind_eq_some_iff.mp e
  obtain ⟨v, h3, h4⟩ := r.get h2
  exact ⟨v, by rw [h1]; exact h3, h4⟩
abbrev DS := List (Option D)
structure RepS (K : PySem.W.Frag) (H : Hp) (σ : L2.St) (δ : DS) : Prop where
  len : σ.length = δ.length
  val : ∀ (i : Nat) (d : D), δ[i]? = some (some d) → ∃ v, σ[i]? = some (some v) ∧ Rep K H v d
theorem RepS.mono {K : PySem.W.Frag} {H H' : Hp} {σ : L2.St} {δ : DS} (e : Same H H') (h : RepS K H σ δ) : RepS K H' σ δ :=
  ⟨h.len, fun i d q => let ⟨v, a, b⟩ := h.val i d q; ⟨v, a, b.mono e⟩⟩
theorem RepS.set {K : PySem.W.Frag} {H : Hp} {σ : L2.St} {δ : DS} {v : V} {d : D} (h : RepS K H σ δ) (i : Nat) (r : Rep K H v d) : RepS K H (σ.set i (some v)) (δ.set i (some d)) := by
  refine ⟨by rw [List.length_set, List.length_set]; exact h.len, fun j e q => ?_⟩
  have hl := h.len
  rw [List.getElem?_set] at q ⊢
  by_cases hj : i = j
  · subst hj
    rw [if_pos rfl] at q ⊢
    by_cases hi : i < δ.length
    · rw [if_pos hi] at q
      rw [if_pos (by omega)]
      have : d = e := by simpa using q
      subst this
      exact ⟨v, rfl, r⟩
    · rw [if_neg hi] at q; cases q
  · rw [if_neg hj] at q ⊢
    exact h.val j e q
theorem RepS.start {K : PySem.W.Frag} {H : Hp} {N : List Str} {vs : List V} {ds : List D} (r : Reps K H vs ds) : RepS K H (L2.start N vs) (ds.map some ++ List.replicate (N.length - ds.length) none) := by
  unfold L2.start
  refine ⟨by simp [r.length], fun i d q => ?_⟩
  have hi : i < ds.length := by
    by_cases hi : i < ds.length
    · exact hi
    · rw [List.getElem?_append_right (by simpa using hi), List.getElem?_replicate] at q
      split at q <;> cases q
  rw [List.getElem?_append_left (by simpa using hi), List.getElem?_map] at q
  obtain ⟨e, h1, h2⟩ := Option.map_eq_some_iff.mp q
  cases h2
  obtain ⟨v, h3, h4⟩ := r.get h1
  have hv : i < vs.length := by rw [r.length]; exact hi
  exact ⟨v, by rw [List.getElem?_append_left (by simpa using hv), List.getElem?_map, h3]; rfl, h4⟩
abbrev FD := DS → Option D
def up (K : PySem.W.Frag) (f : FD) : TE := fun σ H Q => ∃ δ d, RepS K H σ δ ∧ f δ = some d ∧ ∀ v H', Same H H' → Rep K H' v d → Q v H'
def PD (X : Cx) (e : Expr) (f : FD) : Prop := PE X e (up X.K f)
theorem imp {X : Cx} {e : Expr} {t t' : TE} (h : PE X e t) (w : ∀ σ H Q, t' σ H Q → t σ H Q) : PE X e t' := fun pins s σ H Q I q => h pins s σ H Q I (w σ H Q q)
theorem same_new {H : Hp} {p : Addr} (h : H p = none) (o : HO) : Same H (upd H p o) := fun b u q => by rw [upd_ne (ne_of_none q h)]; exact q
def fVar (i : Nat) : FD := fun δ => match δ[i]? with
  | some (some d) => some d
  | _ => none
def fC (d : D) : FD := fun _ => some d
def f2 (g : D → D → Option D) (fa fb : FD) : FD := fun δ => (fa δ).bind fun x => (fb δ).bind fun y => g x y
def f1 (g : D → Option D) (fa : FD) : FD := fun δ => (fa δ).bind g
section
variable {X : Cx} {a b e : Expr} {fa fb f : FD} {pos : Pos}
theorem pd_var (i : Nat) {x : Str} (hN : X.N[i]? = some x := by rfl) (hv : Vis X.env.scope x := by first | exact Or.inl rfl | exact Or.inr (Or.inl rfl) | exact Or.inr (Or.inr rfl)) (hd : (x == ("__debug__" : Str)) = false := by decide)
    (hcd : (x == ("__classdict__" : Str)) = false := by decide) : PD X (.Name x pos) (fVar i) :=
  imp (pe_var hN hv hd hcd) fun σ H Q ⟨δ, d, R, e, k⟩ => by
    unfold fVar at e
    split at e
    · rename_i d' h
      cases e
      obtain ⟨v, h1, h2⟩ := R.val i _ h
      exact ⟨v, h1, k v H (Same.refl H) h2⟩
    · cases e
theorem pd_int {i j} : PD X (.Constant (.int i) j pos) (fC (.int i)) := imp pe_int fun σ H Q ⟨δ, d, R, e, k⟩ => by cases e; exact k _ H (Same.refl H) (.int i)
theorem pd_bl {b j} : PD X (.Constant (.bool b) j pos) (fC (.bl b)) := imp pe_bl fun σ H Q ⟨δ, d, R, e, k⟩ => by cases e; exact k _ H (Same.refl H) (.bl b)
theorem pd_non {j} : PD X (.Constant .none j pos) (fC .non) := imp pe_non fun σ H Q ⟨δ, d, R, e, k⟩ => by cases e; exact k _ H (Same.refl H) .non
theorem pd_str {x j} : PD X (.Constant (.str x) j pos) (fC (.str x)) := imp pe_str fun σ H Q ⟨δ, d, R, e, k⟩ => by cases e; exact k _ H (Same.refl H) (.str x)
theorem pd_ty {x : Str} {n : String} (hg : Gl X x) (hm : X.mg x = none) (hv : bootBuiltins x = some (.type n)) (hn : x ≠ "__name__" := by decide) (hd : (x == ("__debug__" : Str)) = false := by decide) : PD X (.Name x pos) (fC (.ty n)) :=
  imp (pe_bltn (v := .ty n) hg hm hv rfl hn hd) fun σ H Q ⟨δ, d, R, e, k⟩ => by cases e; exact k _ H (Same.refl H) (.ty n)
def R2D (K : PySem.W.Frag) (r : R2) (g : D → D → Option D) : Prop :=
  ∀ (x y : V) (H : Hp) (Q : VK) (a b d : D), Rep K H x a → Rep K H y b → g a b = some d → (∀ w H', Same H H' → Rep K H' w d → Q w H') → r x y H Q
theorem imp2 {r : R2} {g : D → D → Option D} (hg : R2D X.K r g) {σ : L2.St} {H : Hp} {Q : VK} (h : up X.K (f2 g fa fb) σ H Q) : tOp r (up X.K fa) (up X.K fb) σ H Q := by
  obtain ⟨δ, d, R, e, k⟩ := h
  unfold f2 at e
  obtain ⟨x, ex, e⟩ := Option.bind_eq_some_iff.mp e
  obtain ⟨y, ey, e⟩ := Option.bind_eq_some_iff.mp e
  exact ⟨δ, x, R, ex, fun v H1 s1 r1 => ⟨δ, y, R.mono s1, ey, fun w H2 s2 r2 => hg v w H2 Q x y d (r1.mono s2) r2 e fun z H' s3 => k z H' ((s1.trans s2).trans s3)⟩⟩
theorem pd_op {op : Operator} {r : R2} {g : D → D → Option D} (ho : OpR X (binaryOp op) r) (hg : R2D X.K r g) (ha : PD X a fa) (hb : PD X b fb) : PD X (.BinOp a op b pos) (f2 g fa fb) :=
  imp (pe_op ho ha hb) fun _ _ _ => imp2 hg
theorem pd_cmp {op : CmpOp} {r : R2} {g : D → D → Option D} (ho : OpR X (compareOp op) r) (hg : R2D X.K r g) (ha : PD X a fa) (hb : PD X b fb) (hm : behindInMarks op b = false) : PD X (.Compare a [op] [b] pos) (f2 g fa fb) :=
  imp (pe_cmpR ho ha hb hm) fun _ _ _ => imp2 hg
theorem pd_ix0 {r : R2} {g : D → D → Option D} (hr : IxR X r) (hg : R2D X.K r g) (ha : PD X a fa) (hb : PD X b fb) (hs : PlainIx b) : PD X (.Subscript a b pos) (f2 g fa fb) :=
  imp (pe_ix hr ha hb hs) fun _ _ _ => imp2 hg
theorem R2D.or {K : PySem.W.Frag} {r r' : R2} {g g' : D → D → Option D} (h : R2D K r g) (h' : R2D K r' g') : R2D K (fun x y H Q => r x y H Q ∨ r' x y H Q) (fun a b => (g a b).or (g' a b)) := by
  intro x y H Q a b d ra rb e k
  cases q : g a b with
  | some z =>
    have e' : (g a b).or (g' a b) = some d := e
    rw [q] at e'
    cases e'
    exact .inl (h x y H Q a b _ ra rb q k)
  | none =>
    have e' : (g a b).or (g' a b) = some d := e
    rw [q] at e'
    exact .inr (h' x y H Q a b d ra rb e' k)
end
def Bd (x : Int) : Prop := x.natAbs < 2 ^ 9000
instance (x : Int) : Decidable (Bd x) := by unfold Bd; exact inferInstance
theorem Bd.bits {x : Int} (h : Bd x) : Builtin.Int.intBits x ≤ 2 ^ 20 := by
  have h' : x.natAbs < 2 ^ (2 ^ 20) := Nat.lt_of_lt_of_le h (Nat.pow_le_pow_right (by decide) (by decide))
  exact PySem.intBits_le_iff.mpr h'
theorem Bd.log {x : Int} (h : Bd x) (h0 : x ≠ 0) : x.natAbs.log2 < 9000 := (Nat.log2_lt (by omega)).mpr h
section
variable {X : Cx} {K : PySem.W.Frag}
def CMulB (i j : Int) : Prop := Bd i ∧ Bd j
theorem op_mulB : OpR X (binaryOp .Mult) (rI CMulB fun i j => .int (i * j)) := opI fun _ _ _ _ _ _ _ hc q => mul_int q (.of_bits hc.1.bits hc.2.bits)
def CDivB (_ j : Int) : Prop := 0 < j ∧ Bd j
theorem op_fdivB : OpR X (binaryOp .FloorDiv) (rI CDivB fun i j => .int (i / j)) := opI fun i j _ _ _ _ _ hc q => by
  have h1 : (0 : Int) < j := hc.1
  exact floordiv_int (by omega) (by rw [Int.fdiv_eq_ediv_of_nonneg i (by omega)]; exact q) (.inl (PyProof.noPylong_of_log2 (hc.2.log (by omega))))
def gI0 (g : Int → Int → D) : D → D → Option D
  | .int i, .int j => some (g i j)
  | _, _ => none
def gI (C : Int → Int → Prop) [∀ i j, Decidable (C i j)] (g : Int → Int → D) : D → D → Option D
  | .int i, .int j => if C i j then some (g i j) else none
  | _, _ => none
instance (i j : Int) : Decidable (CMulB i j) := by unfold CMulB; exact inferInstance
instance (i j : Int) : Decidable (CDivB i j) := by unfold CDivB; exact inferInstance
instance (i j : Int) : Decidable (CPow i j) := by unfold CPow; exact inferInstance
theorem r2_I0 {g : Int → Int → V} {g' : Int → Int → D} (h : ∀ H i j, Rep K H (g i j) (g' i j)) : R2D K (rI0 g) (gI0 g') := by
  intro x y H Q a b d ra rb e k
  cases ra with
  | int i =>
    cases rb with
    | int j => cases e; exact ⟨i, j, rfl, rfl, k _ H (Same.refl H) (h H i j)⟩
    | _ => cases e
  | _ => cases e
theorem r2_I {C : Int → Int → Prop} [∀ i j, Decidable (C i j)] {g : Int → Int → V} {g' : Int → Int → D} (h : ∀ H i j, Rep K H (g i j) (g' i j)) : R2D K (rI C g) (gI C g') := by
  intro x y H Q a b d ra rb e k
  cases ra with
  | int i =>
    cases rb with
    | int j =>
      have e' : (if C i j then some (g' i j) else none) = some d := e
      by_cases hc : C i j
      · rw [if_pos hc] at e'; cases e'; exact ⟨i, j, rfl, rfl, hc, k _ H (Same.refl H) (h H i j)⟩
      · rw [if_neg hc] at e'; cases e'
    | _ => cases e
  | _ => cases e
end
def gCat : D → D → Option D
  | .lst xs, .lst ys => if xs.length + ys.length ≤ 1000 then some (.lst (xs ++ ys)) else none
  | _, _ => none
theorem le_line {n : Nat} (h : n ≤ 1000) : n ≤ sizeLine := Nat.le_of_lt (small1000 h)
theorem r2_cat {K : PySem.W.Frag} : R2D K rCat gCat := by
  intro x y H Q a b d ra rb e k
  cases ra with
  | @lst p xs ds hp rp =>
    cases rb with
    | @lst q ys es hq rq =>
      have e' : (if ds.length + es.length ≤ 1000 then some (D.lst (ds ++ es)) else none) = some d := e
      by_cases hc : ds.length + es.length ≤ 1000
      · rw [if_pos hc] at e'; cases e'
        refine ⟨p, q, xs, ys, rfl, rfl, hp, hq, le_line (by rw [rp.length, rq.length]; exact hc), fun l hl => ?_⟩
        have s := same_new hl (.lst (xs ++ ys))
        exact k _ _ s (.lst upd_same ((rp.append rq).mono s))
      · rw [if_neg hc] at e'; cases e'
    | _ => cases e
  | _ => cases e
def gAdd : D → D → Option D := fun a b => (gI0 (fun i j => .int (i + j)) a b).or (gCat a b)
def gIx : D → D → Option D
  | .tup ds, .int i => L2.atI ds i
  | .lst ds, .int i => L2.atI ds i
  | .seq ds, .int i => L2.atI ds i
  | _, _ => none
theorem r2_ix {K : PySem.W.Frag} : R2D K (fun x y H Q => rIxL K x y H Q ∨ rIxT K x y H Q) gIx := by
  intro x y H Q a b d ra rb e k
  cases rb with
  | int i =>
    cases ra with
    | @tup p vs ds hp rp =>
      have e' : L2.atI ds i = some d := e
      obtain ⟨v, h1, h2⟩ := rp.atI e'
      exact .inr ⟨p, vs, i, v, rfl, rfl, hp, h1, k v H (Same.refl H) h2⟩
    | @lst p vs ds hp rp =>
      have e' : L2.atI ds i = some d := e
      obtain ⟨v, h1, h2⟩ := rp.atI e'
      exact .inl ⟨p, vs, i, v, rfl, rfl, SqL.of hp, h1, k v H (Same.refl H) h2⟩
    | @seq p vs ds hp rp =>
      have e' : L2.atI ds i = some d := e
      obtain ⟨v, h1, h2⟩ := rp.atI e'
      exact .inl ⟨p, vs, i, v, rfl, rfl, hp, h1, k v H (Same.refl H) h2⟩
    | _ => cases e
  | _ => cases ra <;> cases e
section
variable {X : Cx} {a b e : Expr} {fa fb f : FD} {pos : Pos}
theorem pd_add (ha : PD X a fa) (hb : PD X b fb) : PD X (.BinOp a .Add b pos) (f2 gAdd fa fb) := pd_op (op_add.or op_cat) ((r2_I0 fun _ _ _ => .int _).or r2_cat) ha hb
theorem pd_sub (ha : PD X a fa) (hb : PD X b fb) : PD X (.BinOp a .Sub b pos) (f2 (gI0 fun i j => .int (i - j)) fa fb) := pd_op op_sub (r2_I0 fun _ _ _ => .int _) ha hb
theorem pd_mul (ha : PD X a fa) (hb : PD X b fb) : PD X (.BinOp a .Mult b pos) (f2 (gI CMulB fun i j => .int (i * j)) fa fb) := pd_op op_mulB (r2_I fun _ _ _ => .int _) ha hb
theorem pd_fdiv (ha : PD X a fa) (hb : PD X b fb) : PD X (.BinOp a .FloorDiv b pos) (f2 (gI CDivB fun i j => .int (i / j)) fa fb) := pd_op op_fdivB (r2_I fun _ _ _ => .int _) ha hb
theorem pd_mod (ha : PD X a fa) (hb : PD X b fb) : PD X (.BinOp a .Mod b pos) (f2 (gI (fun _ j => 0 < j) fun i j => .int (i % j)) fa fb) := pd_op op_mod (r2_I fun _ _ _ => .int _) ha hb
theorem pd_pow (ha : PD X a fa) (hb : PD X b fb) : PD X (.BinOp a .Pow b pos) (f2 (gI CPow fun i j => .int (i ^ j.toNat)) fa fb) := pd_op op_pow (r2_I fun _ _ _ => .int _) ha hb
theorem pd_ix (ha : PD X a fa) (hb : PD X b fb) (hs : PlainIx b := by intro _ _; rfl) : PD X (.Subscript a b pos) (f2 gIx fa fb) := pd_ix0 (ix_list.or ix_tup) r2_ix ha hb hs
def gNeg : D → Option D
  | .int i => some (.int (-i))
  | _ => none
theorem pd_neg (ha : PD X a fa) : PD X (.UnaryOp .USub a pos) (f1 gNeg fa) := imp (pe_un un_neg ha) fun σ H Q ⟨δ, d, R, e, k⟩ => by
  unfold f1 at e
  obtain ⟨x, ex, e⟩ := Option.bind_eq_some_iff.mp e
  refine ⟨δ, x, R, ex, fun v H1 s1 r1 => ?_⟩
  cases r1 with
  | int i => cases e; exact ⟨i, rfl, k _ H1 s1 (.int _)⟩
  | _ => cases e
end
abbrev FT := DS → Option Bool
def upT (K : PySem.W.Frag) (f : FT) : TT := fun σ H Q => ∃ δ b, RepS K H σ δ ∧ f δ = some b ∧ ∀ H', Same H H' → Q b H'
def PTD (X : Cx) (e : Expr) (f : FT) : Prop := PT X e (upT X.K f)
def PWD (X : Cx) (e : Expr) (f : FT) : Prop := PW X e (upT X.K f)
theorem impT {X : Cx} {e : Expr} {t t' : TT} (h : PT X e t) (w : ∀ σ H Q, t' σ H Q → t σ H Q) : PT X e t' := fun pins s σ H Q I q => h pins s σ H Q I (w σ H Q q)
theorem impW {X : Cx} {e : Expr} {t t' : TT} (h : PW X e t) (w : ∀ σ H Q, t' σ H Q → t σ H Q) : PW X e t' := fun wh pins s σ H Q I q => h wh pins s σ H Q I (w σ H Q q)
def asB : D → Option Bool
  | .bl b => some b
  | _ => none
def fT (f : FD) : FT := fun δ => (f δ).bind asB
def fNotT (f : FT) : FT := fun δ => (f δ).map not
def fAndT (f g : FT) : FT := fun δ => (f δ).bind fun b => match b with
  | true => g δ
  | false => some false
def fOrT (f g : FT) : FT := fun δ => (f δ).bind fun b => match b with
  | true => some true
  | false => g δ
section
variable {X : Cx} {a b e : Expr} {fa fb f : FD} {ta tb : FT} {rest : List Expr} {pos : Pos}
theorem asB_of {K : PySem.W.Frag} {t : TE} (w : ∀ σ H Q, up K f σ H Q → t σ H Q) {σ : L2.St} {H : Hp} {Q : Bool → Hp → Prop} (h : upT K (fT f) σ H Q) : t σ H fun x H1 => ∃ c, x = .bl c ∧ Q c H1 := by
  obtain ⟨δ, b, R, e, k⟩ := h
  unfold fT at e
  obtain ⟨d, ed, e⟩ := Option.bind_eq_some_iff.mp e
  refine w σ H _ ⟨δ, d, R, ed, fun v H' s r => ?_⟩
  cases r with
  | bl c => cases e; exact ⟨_, rfl, k H' s⟩
  | _ => cases e
theorem ptd_val (h : PD X e f) (he : ∀ whole, isTrue e X.env whole = (do let v ← whole; standAt e.pos; holding [v] (truthy v)) := by intro _; rfl) : PTD X e (fT f) :=
  impT (pt_val h he) fun _ _ _ q => asB_of (fun _ _ _ z => z) q
theorem ptd_cmp {op : CmpOp} {r : R2} {g : D → D → Option D} (ho : OpR X (compareOp op) r) (hg : R2D X.K r g) (ha : PD X a fa) (hb : PD X b fb) (hm : behindInMarks op b = false) : PTD X (.Compare a [op] [b] pos) (fT (f2 g fa fb)) :=
  impT (pt_cmpR ho ha hb hm) fun _ _ _ q => asB_of (fun _ _ _ z => imp2 hg z) q
theorem ptd_not (ha : PTD X a ta) : PTD X (.UnaryOp .Not a pos) (fNotT ta) := impT (pt_not ha) fun σ H Q ⟨δ, b, R, e, k⟩ => by
  unfold fNotT at e
  obtain ⟨c, ec, e⟩ := Option.map_eq_some_iff.mp e
  exact ⟨δ, c, R, ec, fun H' s => by have := k H' s; rw [← e] at this; exact this⟩
theorem PWD.pt (h : PWD X e ta) : PTD X e ta := h _
theorem pwd_and1 (ha : PTD X a ta) : PWD X (.BoolOp .And [a] pos) ta := pw_and1 ha
theorem pwd_or1 (ha : PTD X a ta) : PWD X (.BoolOp .Or [a] pos) ta := pw_or1 ha
theorem pwd_and (ha : PTD X a ta) (hb : PWD X (.BoolOp .And (b :: rest) pos) tb) : PWD X (.BoolOp .And (a :: b :: rest) pos) (fAndT ta tb) := impW (pw_and ha hb) fun σ H Q ⟨δ, c, R, e, k⟩ => by
  unfold fAndT at e
  obtain ⟨d, ed, e⟩ := Option.bind_eq_some_iff.mp e
  refine ⟨δ, d, R, ed, fun H' s => ?_⟩
  cases d with
  | true => exact ⟨δ, c, R.mono s, e, fun H2 s2 => k H2 (s.trans s2)⟩
  | false => cases e; exact k H' s
theorem pwd_or (ha : PTD X a ta) (hb : PWD X (.BoolOp .Or (b :: rest) pos) tb) : PWD X (.BoolOp .Or (a :: b :: rest) pos) (fOrT ta tb) := impW (pw_or ha hb) fun σ H Q ⟨δ, c, R, e, k⟩ => by
  unfold fOrT at e
  obtain ⟨d, ed, e⟩ := Option.bind_eq_some_iff.mp e
  refine ⟨δ, d, R, ed, fun H' s => ?_⟩
  cases d with
  | false => exact ⟨δ, c, R.mono s, e, fun H2 s2 => k H2 (s.trans s2)⟩
  | true => cases e; exact k H' s
def fAndV (f g : FD) : FD := fun δ => (f δ).bind fun x => match x with
  | .bl true => g δ
  | .bl false => some (.bl false)
  | _ => none
def fOrV (f g : FD) : FD := fun δ => (f δ).bind fun x => match x with
  | .bl true => some (.bl true)
  | .bl false => g δ
  | _ => none
def gNot : D → Option D
  | .bl b => some (.bl (!b))
  | _ => none
theorem pd_one {op} (h : PD X a f) : PD X (.BoolOp op [a] pos) f := pe_one h
theorem pd_and (ha : PD X a fa) (hb : PD X (.BoolOp .And (b :: rest) pos) fb) : PD X (.BoolOp .And (a :: b :: rest) pos) (fAndV fa fb) := imp (pe_and ha hb) fun σ H Q ⟨δ, d, R, e, k⟩ => by
  unfold fAndV at e
  obtain ⟨x, ex, e⟩ := Option.bind_eq_some_iff.mp e
  refine ⟨δ, x, R, ex, fun v H1 s1 r1 => ?_⟩
  cases r1 with
  | bl c =>
    refine ⟨c, rfl, ?_⟩
    cases c with
    | true => rw [if_pos rfl]; exact ⟨δ, d, R.mono s1, e, fun w H2 s2 => k w H2 (s1.trans s2)⟩
    | false => rw [if_neg Bool.false_ne_true]; cases e; exact k _ H1 s1 (.bl false)
  | _ => cases e
theorem pd_or (ha : PD X a fa) (hb : PD X (.BoolOp .Or (b :: rest) pos) fb) : PD X (.BoolOp .Or (a :: b :: rest) pos) (fOrV fa fb) := imp (pe_or ha hb) fun σ H Q ⟨δ, d, R, e, k⟩ => by
  unfold fOrV at e
  obtain ⟨x, ex, e⟩ := Option.bind_eq_some_iff.mp e
  refine ⟨δ, x, R, ex, fun v H1 s1 r1 => ?_⟩
  cases r1 with
  | bl c =>
    refine ⟨c, rfl, ?_⟩
    cases c with
    | true => rw [if_pos rfl]; cases e; exact k _ H1 s1 (.bl true)
    | false => rw [if_neg Bool.false_ne_true]; exact ⟨δ, d, R.mono s1, e, fun w H2 s2 => k w H2 (s1.trans s2)⟩
  | _ => cases e
theorem pd_not (ha : PD X a fa) : PD X (.UnaryOp .Not a pos) (f1 gNot fa) := imp (pe_not ha) fun σ H Q ⟨δ, d, R, e, k⟩ => by
  unfold f1 at e
  obtain ⟨x, ex, e⟩ := Option.bind_eq_some_iff.mp e
  refine ⟨δ, x, R, ex, fun v H1 s1 r1 => ?_⟩
  cases r1 with
  | bl c => cases e; exact ⟨c, rfl, k _ H1 s1 (.bl _)⟩
  | _ => cases e
end
abbrev FA := DS → Option (List D)
def upA (K : PySem.W.Frag) (n : Nat) (f : FA) : TA := fun σ H Q => ∃ δ ds, RepS K H σ δ ∧ f δ = some ds ∧ ∀ vs H', Same H H' → Reps K H' vs ds → vs.length = n → Q vs H'
def PAD (X : Cx) (es : List Expr) (f : FA) : Prop := PA X es (upA X.K es.length f)
theorem impA {X : Cx} {es : List Expr} {t t' : TA} (h : PA X es t) (w : ∀ σ H Q, t' σ H Q → t σ H Q) : PA X es t' := fun pos pins s σ H Q I q => h pos pins s σ H Q I (w σ H Q q)
def faNil : FA := fun _ => some []
def faCons (f : FD) (g : FA) : FA := fun δ => (f δ).bind fun x => (g δ).bind fun xs => some (x :: xs)
def pureSp (K : PySem.W.Frag) (n : Nat) (G : List D → Option D) : Sp := fun vs H Q _ => vs.length = n ∧ ∃ ds d, Reps K H vs ds ∧ G ds = some d ∧ ∀ v H', Same H H' → Rep K H' v d → Q v H'
def fTup (g : FA) : FD := fun δ => (g δ).bind fun ds => some (.tup ds)
def fLst (g : FA) : FD := fun δ => (g δ).bind fun ds => some (.lst ds)
def fCall (G : List D → Option D) (g : FA) : FD := fun δ => (g δ).bind G
section
variable {X : Cx} {e : Expr} {es : List Expr} {f : FD} {g : FA} {pos p : Pos}
theorem pad_nil : PAD X [] faNil := impA pa_nil fun σ H Q ⟨δ, ds, R, e, k⟩ => by cases e; exact k [] H (Same.refl H) .nil rfl
theorem pad_cons (ha : PD X e f) (hr : PAD X es g) (hs : starEach (e :: es) X.env = (false, eval e X.env) :: starEach es X.env := by rfl) : PAD X (e :: es) (faCons f g) := impA (pa_cons ha hr hs) fun σ H Q ⟨δ, ds, R, q, k⟩ => by
  unfold faCons at q
  obtain ⟨x, ex, q⟩ := Option.bind_eq_some_iff.mp q
  obtain ⟨xs, exs, q⟩ := Option.bind_eq_some_iff.mp q
  cases q
  exact ⟨δ, x, R, ex, fun v H1 s1 r1 => ⟨δ, xs, R.mono s1, exs, fun vs H2 s2 r2 l => k (v :: vs) H2 (s1.trans s2) (.cons (r1.mono s2) r2) (congrArg (· + 1) l)⟩⟩
theorem pd_tup {x1} (h : PAD X es g) (hz : es.length ≤ 1000 := by decide) : PD X (.Tuple es x1 pos) (fTup g) := imp (pe_tup h) fun σ H Q ⟨δ, d, R, q, k⟩ => by
  unfold fTup at q
  obtain ⟨ds, eds, q⟩ := Option.bind_eq_some_iff.mp q
  cases q
  refine ⟨δ, ds, R, eds, fun vs H1 s1 r1 l => ⟨le_line (by rw [l]; exact hz), fun p hp => ?_⟩⟩
  have s := same_new hp (.tup vs)
  exact k _ _ (s1.trans s) (.tup (SqT.of upd_same) (r1.mono s))
theorem pd_lst (h : PAD X es g) (hz : es.length ≤ 1000 := by decide) : PD X (.List es pos) (fLst g) := imp (pe_lst h) fun σ H Q ⟨δ, d, R, q, k⟩ => by
  unfold fLst at q
  obtain ⟨ds, eds, q⟩ := Option.bind_eq_some_iff.mp q
  cases q
  refine ⟨δ, ds, R, eds, fun vs H1 s1 r1 l => ⟨le_line (by rw [l]; exact hz), fun p hp => ?_⟩⟩
  have s := same_new hp (.lst vs)
  exact k _ _ (s1.trans s) (.lst upd_same (r1.mono s))
theorem pd_call {k n : Nat} {x : Str} {f : Addr} {fd : FuncData} {ps : List Str} {G : List D → Option D} (F : FnOk X.prog X.w X.K X.mg X.base CX0 k f fd ps (pureSp X.K n G)) (hr : Room k X.A) (hg : Gl X x) (hm : X.mg x = some (.ref f)) (hk : PySem.W.keepIn X.K (.ref f) = true) (hb : Binds X.K fd ps [])
    (ha : PAD X (e :: es) g) (hn : (e :: es).length = n := by rfl) (hdb : (x == ("__debug__" : Str)) = false := by decide) (he : starEach (e :: es) X.env = (false, eval e X.env) :: starEach es X.env := by rfl) (hpl : (backTo pos (starEach es X.env)).any (·.1) = false := by rfl) :
    PD X (.Call (.Name x p) (e :: es) [] pos) (fCall G g) := imp (pe_call F hr hg hm hk hb .nil (pass0) ha hdb he hpl) fun σ H Q ⟨δ, d, R, q, k⟩ => by
  unfold fCall at q
  obtain ⟨ds, eds, q⟩ := Option.bind_eq_some_iff.mp q
  refine ⟨δ, ds, R, eds, fun vs H1 s1 r1 l => ?_⟩
  show pureSp X.K n G (vs ++ []) H1 Q E0
  rw [List.append_nil]
  exact ⟨l.trans hn, ds, d, r1, q, fun v H' s => k v H' (s1.trans s)⟩
def CallD (K : PySem.W.Frag) (r : List V → Hp → VK → Prop) (G : List D → Option D) : Prop :=
  ∀ (xs : List V) (H : Hp) (Q : VK) (ds : List D) (d : D), Reps K H xs ds → G ds = some d → (∀ w H', Same H H' → Rep K H' w d → Q w H') → r xs H Q
theorem imp_cb {r : List V → Hp → VK → Prop} {G : List D → Option D} {n : Nat} (hG : CallD X.K r G) {σ : L2.St} {H : Hp} {Q : VK} (h : up X.K (fCall G g) σ H Q) : tCB r (upA X.K n g) σ H Q := by
  obtain ⟨δ, d, R, q, k⟩ := h
  unfold fCall at q
  obtain ⟨ds, eds, q⟩ := Option.bind_eq_some_iff.mp q
  exact ⟨δ, ds, R, eds, fun vs H1 s1 r1 _ => hG vs H1 Q ds d r1 q fun w H' s => k w H' (s1.trans s)⟩
theorem pd_callB {id : String} {x : Str} {r : List V → Hp → VK → Prop} {G : List D → Option D} (hc : CallR X (.builtin id) r) (hG : CallD X.K r G) (hg : Gl X x) (hm : X.mg x = none) (hv : bootBuiltins x = some (.builtin id)) (ha : PAD X (e :: es) g) (hn : x ≠ "__name__" := by decide) (hdb : (x == ("__debug__" : Str)) = false := by decide)
    (he : starEach (e :: es) X.env = (false, eval e X.env) :: starEach es X.env := by rfl) (hpl : (backTo pos (starEach es X.env)).any (·.1) = false := by rfl) : PD X (.Call (.Name x p) (e :: es) [] pos) (fCall G g) :=
  imp (pe_callB hc hg hm hv ha hn hdb he hpl) fun _ _ _ h => imp_cb hG h
theorem pd_callTy {T : String} {x : Str} {r : List V → Hp → VK → Prop} {G : List D → Option D} (hc : CallR X (.type T) r) (hG : CallD X.K r G) (hg : Gl X x) (hm : X.mg x = none) (hv : bootBuiltins x = some (.type T)) (ha : PAD X (e :: es) g) (hn : x ≠ "__name__" := by decide) (hdb : (x == ("__debug__" : Str)) = false := by decide)
    (he : starEach (e :: es) X.env = (false, eval e X.env) :: starEach es X.env := by rfl) (hpl : (backTo pos (starEach es X.env)).any (·.1) = false := by rfl) : PD X (.Call (.Name x p) (e :: es) [] pos) (fCall G g) :=
  imp (pe_callTy hc hg hm hv ha hn hdb he hpl) fun _ _ _ h => imp_cb hG h
end
theorem reps1 {K : PySem.W.Frag} {H : Hp} {xs : List V} {d : D} (r : Reps K H xs [d]) : ∃ x, xs = [x] ∧ Rep K H x d := by
  cases r with
  | cons a t => cases t; exact ⟨_, rfl, a⟩
theorem reps2 {K : PySem.W.Frag} {H : Hp} {xs : List V} {d e : D} (r : Reps K H xs [d, e]) : ∃ x y, xs = [x, y] ∧ Rep K H x d ∧ Rep K H y e := by
  cases r with
  | cons a t =>
    obtain ⟨y, h1, h2⟩ := reps1 t
    subst h1
    exact ⟨_, y, rfl, a, h2⟩
def gAbs : List D → Option D
  | [.int i] => some (.int (i.natAbs : Int))
  | _ => none
theorem cd_abs {K : PySem.W.Frag} : CallD K (fun xs H Q => ∃ i, xs = [.int i] ∧ Q (.int (if i < 0 then -i else i)) H) gAbs := by
  intro xs H Q ds d r e k
  unfold gAbs at e
  split at e
  · rename_i i
    cases e
    obtain ⟨x, rfl, rx⟩ := reps1 r
    cases rx
    refine ⟨i, rfl, ?_⟩
    have e : (if i < 0 then -i else i) = (i.natAbs : Int) := by split <;> omega
    rw [e]
    exact k _ H (Same.refl H) (.int _)
  · cases e
def gInt : List D → Option D
  | [.int i] => some (.int i)
  | [.bl b] => some (.int (if b then 1 else 0))
  | _ => none
theorem cd_int {K : PySem.W.Frag} : CallD K (fun xs H Q => (∃ i, xs = [.int i] ∧ Q (.int i) H) ∨ ∃ k, xs = [.bl k] ∧ Q (.int (if k then 1 else 0)) H) gInt := by
  intro xs H Q ds d r e k
  unfold gInt at e
  split at e
  · rename_i i
    cases e
    obtain ⟨x, rfl, rx⟩ := reps1 r
    cases rx
    exact .inl ⟨i, rfl, k _ H (Same.refl H) (.int _)⟩
  · rename_i b
    cases e
    obtain ⟨x, rfl, rx⟩ := reps1 r
    cases rx
    exact .inr ⟨b, rfl, k _ H (Same.refl H) (.int _)⟩
  · cases e
def gLen : List D → Option D
  | [.tup ds] => some (.int ds.length)
  | [.lst ds] => some (.int ds.length)
  | [.seq ds] => some (.int ds.length)
  | _ => none
theorem cd_len {K : PySem.W.Frag} : CallD K (fun xs H Q => ∃ p ys, xs = [.ref p] ∧ (SqL K H p ys ∨ SqT K H p ys) ∧ Q (.int ys.length) H) gLen := by
  intro xs H Q ds d r e k
  unfold gLen at e
  split at e
  · cases e
    obtain ⟨x, rfl, rx⟩ := reps1 r
    cases rx with
    | @tup p vs _ hp rp => exact ⟨p, vs, rfl, .inr hp, by rw [rp.length]; exact k _ H (Same.refl H) (.int _)⟩
  · cases e
    obtain ⟨x, rfl, rx⟩ := reps1 r
    cases rx with
    | @lst p vs _ hp rp => exact ⟨p, vs, rfl, .inl (SqL.of hp), by rw [rp.length]; exact k _ H (Same.refl H) (.int _)⟩
  · cases e
    obtain ⟨x, rfl, rx⟩ := reps1 r
    cases rx with
    | @seq p vs _ hp rp => exact ⟨p, vs, rfl, .inl hp, by rw [rp.length]; exact k _ H (Same.refl H) (.int _)⟩
  · cases e
def tyOf : D → Option String
  | .non => some "NoneType"
  | .bl _ => some "bool"
  | .int _ => some "int"
  | .str _ => some "str"
  | .tup _ => some "tuple"
  | .lst _ => some "list"
  | .seq _ => some "list"
  | .dct => some "dict"
  | .ty _ => none
  | .exc _ => none
  | .cls _ => none
def IsiOk (n : String) (d : D) (b : Bool) : Prop := ∃ t, tyOf d = some t ∧ ∀ K : PySem.W.Frag, PySem.W.kitOne K (.type t) (.type n) = some b
def rIsi (K : PySem.W.Frag) : List V → Hp → VK → Prop := fun xs H Q => ∃ x n d b, xs = [x, .ty n] ∧ Rep K H x d ∧ IsiOk n d b ∧ Q (.bl b) H
theorem call_isi {X : Cx} : CallR X (.builtin "isinstance") (rIsi X.K) := by
  intro pins s σ H xs us Q I r h
  obtain ⟨x, n, d, b, rfl, rx, ⟨t, ht, hk⟩, q⟩ := h
  obtain ⟨u, w', rfl, ru, rw'⟩ := vals2 r
  cases (show w' = Value.type n from rw')
  have e := hk X.K
  have fin : ∀ tk, EP X pins σ Q (.bool b) { s with toks := tk } := fun tk => ⟨.bl b, H, I.tok _, rfl, q⟩
  cases rx with
  | non => cases ht; cases (show u = Value.none from ru); exact PySem.W.kia_one PySem.W.kitx_none I.kIn True.intro e (fun z => nomatch z) fin
  | bl y => cases ht; cases (show u = Value.bool y from ru); exact PySem.W.kia_one PySem.W.kitx_bool I.kIn True.intro e (fun z => nomatch z) fin
  | int i => cases ht; obtain ⟨t, z⟩ := (show ∃ t, u = Value.int i t from ru); cases z; exact PySem.W.kia_one PySem.W.kitx_int I.kIn True.intro e (fun z => nomatch z) fin
  | str y => cases ht; obtain ⟨t, z⟩ := (show ∃ t, u = Value.str y t from ru); cases z; exact PySem.W.kia_one PySem.W.kitx_str I.kIn True.intro e (fun z => nomatch z) fin
  | ty n => cases ht
  | exc h => cases ht
  | cls C => cases ht
  | @dct a h =>
    cases ht
    cases (show u = Value.ref a from ru)
    exact PySem.W.kia_one PySem.W.kitx_dict I.kIn (I.hok a _ h).1 e (fun z => nomatch z) fin
  | @tup a vs ds hp rp =>
    cases ht
    cases (show u = Value.ref a from ru)
    obtain ⟨its, _, ⟨o, h1, h2, _⟩, _⟩ := I.tuple hp
    exact PySem.W.kia_one PySem.W.kitx_tuple I.kIn ⟨o, h1, h2⟩ e (fun z => nomatch z) fin
  | @lst a vs ds hp rp =>
    cases ht
    cases (show u = Value.ref a from ru)
    obtain ⟨its, _, ⟨o, n', h1, h2, _⟩, _⟩ := I.list (SqL.of (K := X.K) hp)
    exact PySem.W.kia_one PySem.W.kitx_list I.kIn ⟨o, h1, h2⟩ e (fun z => nomatch z) fin
  | @seq a vs ds hp rp =>
    cases ht
    cases (show u = Value.ref a from ru)
    obtain ⟨its, _, ⟨o, n', h1, h2, _⟩, _⟩ := I.list hp
    exact PySem.W.kia_one PySem.W.kitx_list I.kIn ⟨o, h1, h2⟩ e (fun z => nomatch z) fin
def isInt : D → Option Bool
  | .int _ => some true
  | .bl _ => some true
  | .ty _ => none
  | .exc _ => none
  | .cls _ => none
  | _ => some false
def isBool : D → Option Bool
  | .bl _ => some true
  | .ty _ => none
  | .exc _ => none
  | .cls _ => none
  | _ => some false
def isTup : D → Option Bool
  | .tup _ => some true
  | .ty _ => none
  | .exc _ => none
  | .cls _ => none
  | _ => some false
def gIsi (n : String) (p : D → Option Bool) : List D → Option D
  | [d, .ty m] => if m = n then (p d).map D.bl else none
  | _ => none
theorem cd_isi {K : PySem.W.Frag} {n : String} {p : D → Option Bool} (hp : ∀ d b, p d = some b → IsiOk n d b) : CallD K (rIsi K) (gIsi n p) := by
  intro xs H Q ds d r e k
  unfold gIsi at e
  split at e
  · rename_i x m
    by_cases hm : m = n
    · subst hm
      rw [if_pos rfl] at e
      obtain ⟨b, hb, e⟩ := Option.map_eq_some_iff.mp e
      cases e
      obtain ⟨v, w, rfl, rv, rw'⟩ := reps2 r
      cases rw'
      exact ⟨v, m, x, b, rfl, rv, hp x b hb, k _ H (Same.refl H) (.bl b)⟩
    · rw [if_neg hm] at e; cases e
  · cases e
theorem kit_nn (n : String) (K : PySem.W.Frag) : PySem.W.kitOne K (.type n) (.type n) = some true := by
  unfold PySem.W.kitOne
  rw [if_pos (beq_self_eq_true _)]
theorem ok_isInt (d : D) (b : Bool) (h : isInt d = some b) : IsiOk "int" d b := by
  cases d <;> (first | cases h) <;> first
    | exact ⟨_, rfl, fun K => kit_nn _ K⟩
    | exact ⟨_, rfl, fun K => by kernel_rfl⟩
theorem ok_isBool (d : D) (b : Bool) (h : isBool d = some b) : IsiOk "bool" d b := by
  cases d <;> (first | cases h) <;> first
    | exact ⟨_, rfl, fun K => kit_nn _ K⟩
    | exact ⟨_, rfl, fun K => by kernel_rfl⟩
theorem ok_isTup (d : D) (b : Bool) (h : isTup d = some b) : IsiOk "tuple" d b := by
  cases d <;> (first | cases h) <;> first
    | exact ⟨_, rfl, fun K => kit_nn _ K⟩
    | exact ⟨_, rfl, fun K => by kernel_rfl⟩
def toV : D → Option V
  | .non => some .non
  | .bl b => some (.bl b)
  | .int i => some (.int i)
  | .str x => some (.str x)
  | _ => none
def flatD (d : D) : Bool := (toV d).isSome
def eqF : D → D → Bool
  | .non, .non => true
  | .bl a, .bl b => a == b
  | .bl a, .int b => (if a then 1 else 0) == b
  | .int a, .bl b => a == (if b then 1 else 0)
  | .int a, .int b => a == b
  | .str a, .str b => a == b
  | _, _ => false
def eqFs : List D → List D → Bool
  | [], [] => true
  | a :: as, b :: bs => eqF a b && eqFs as bs
  | _, _ => false
theorem Rep.flat {K : PySem.W.Frag} {H : Hp} {v : V} {d : D} (r : Rep K H v d) (f : flatD d = true) : flatV v = true ∧ toV d = some v := by
  cases r <;> first | exact ⟨rfl, rfl⟩ | (exact absurd f (by decide)) | (exact absurd f Bool.false_ne_true)
theorem eqV_eqF {a b : D} {x y : V} (ha : toV a = some x) (hb : toV b = some y) : eqV x y = eqF a b := by
  cases a <;> (first | cases ha) <;> cases b <;> (first | cases hb) <;> rfl
theorem eqFs_range : ∀ (as bs : List D) (e : Nat → Bool), (∀ j a b, as[j]? = some a → bs[j]? = some b → e j = eqF a b) → ((List.range (min as.length bs.length)).all e && as.length == bs.length) = eqFs as bs
  | [], [], e, _ => rfl
  | [], b :: bs, e, _ => by simp [eqFs]
  | a :: as, [], e, _ => by simp [eqFs]
  | a :: as, b :: bs, e, h => by
    have ih := eqFs_range as bs (fun j => e (j + 1)) (fun j x y h1 h2 => h (j + 1) x y (by simpa using h1) (by simpa using h2))
    have h0 : e 0 = eqF a b := h 0 a b rfl rfl
    show ((List.range (min (as.length + 1) (bs.length + 1))).all e && (as.length + 1) == (bs.length + 1)) = (eqF a b && eqFs as bs)
    rw [← ih, ← h0, show min (as.length + 1) (bs.length + 1) = min as.length bs.length + 1 by omega, List.range_succ_eq_map, List.all_cons, List.all_map, Bool.and_assoc]
    have : ((as.length + 1) == (bs.length + 1)) = (as.length == bs.length) := by rw [Bool.eq_iff_iff]; simp
    rw [this]
    rfl
def gEqB : D → D → Option Bool
  | .tup as, .tup bs => if as.all flatD && bs.all flatD then some (eqFs as bs) else none
  | .lst as, .lst bs => if as.all flatD && bs.all flatD then some (eqFs as bs) else none
  | .non, .tup _ => some false
  | .tup _, .non => some false
  | .non, .lst _ => some false
  | .lst _, .non => some false
  | a, b => if flatD a && flatD b then some (eqF a b) else none
def gEq (a b : D) : Option D := (gEqB a b).map D.bl
def gNe (a b : D) : Option D := (gEqB a b).map fun c => D.bl (!c)
section
variable {K : PySem.W.Frag} {H : Hp}
theorem items_eq {A : Around} {s : Shared} {vs ws : List V} {us zs : List Value} {as bs : List D} (r1 : Vals vs us) (r2 : Vals ws zs) (q1 : Reps K H vs as) (q2 : Reps K H ws bs) (g1 : as.all flatD = true) (g2 : bs.all flatD = true) :
    ∀ j (h1 : j < us.toArray.size) (h2 : j < zs.toArray.size), SeqAt.EqAt A s us.toArray[j] zs.toArray[j] (eqF (as.getD j .non) (bs.getD j .non)) := by
  intro j h1 h2
  have l1 := r1.length
  have l2 := r2.length
  rw [List.size_toArray] at h1 h2
  have k1 : j < vs.length := by omega
  have k2 : j < ws.length := by omega
  obtain ⟨u, e1, p1⟩ := r1.get (i := j) (x := vs[j]) (by simp [k1])
  obtain ⟨z, e2, p2⟩ := r2.get (i := j) (x := ws[j]) (by simp [k2])
  obtain ⟨a, e3, p3⟩ := q1.getV (i := j) (v := vs[j]) (by simp [k1])
  obtain ⟨b, e4, p4⟩ := q2.getV (i := j) (v := ws[j]) (by simp [k2])
  have f1 : flatD a = true := List.all_eq_true.mp g1 a (List.mem_of_getElem? e3)
  have f2 : flatD b = true := List.all_eq_true.mp g2 b (List.mem_of_getElem? e4)
  have w1 : us.toArray[j] = u := by
    have : us[j]? = some us[j] := by simp [h1]
    rw [this] at e1
    simpa using e1
  have w2 : zs.toArray[j] = z := by
    have : zs[j]? = some zs[j] := by simp [h2]
    rw [this] at e2
    simpa using e2
  rw [w1, w2, List.getD_eq_getElem?_getD, List.getD_eq_getElem?_getD, e3, e4]
  show SeqAt.EqAt A s u z (eqF a b)
  rw [← eqV_eqF (p3.flat f1).2 (p4.flat f2).2]
  exact eqAt_V p1 p2 (p3.flat f1).1 (p4.flat f2).1
theorem all_eqFs {as bs : List D} : ((List.range (min as.length bs.length)).all (fun j => eqF (as.getD j .non) (bs.getD j .non)) && as.length == bs.length) = eqFs as bs :=
  eqFs_range as bs _ fun j a b h1 h2 => by
    show eqF (as.getD j .non) (bs.getD j .non) = eqF a b
    rw [List.getD_eq_getElem?_getD, List.getD_eq_getElem?_getD, h1, h2] <;> rfl
theorem rc_flat {A : Around} {s : Shared} {x y : V} {u v : Value} {a b : D} (rx : RelV x u) (ry : RelV y v) (ra : Rep K H x a) (rb : Rep K H y b) (g1 : flatD a = true) (g2 : flatD b = true) : SeqAt.RcAt A s u v (eqF a b) ∧ SeqAt.RcNeAt A s u v (!eqF a b) := by
  cases ra with
  | non =>
    cases (show u = Value.none from rx)
    cases rb with
    | non => cases (show v = Value.none from ry); exact ⟨SeqAt.RcAt.none_none, SeqAt.RcNeAt.none_none⟩
    | bl c => cases (show v = Value.bool c from ry); exact ⟨SeqAt.RcAt.none_bool c, SeqAt.RcNeAt.none_bool c⟩
    | int j => obtain ⟨t, rfl⟩ := (show ∃ t, v = Value.int j t from ry); exact ⟨SeqAt.RcAt.none_int j t, SeqAt.RcNeAt.none_int j t⟩
    | str j => obtain ⟨t, rfl⟩ := (show ∃ t, v = Value.str j t from ry); exact ⟨SeqAt.RcAt.none_str j t, SeqAt.RcNeAt.none_str j t⟩
    | _ => exact absurd g2 Bool.false_ne_true
  | bl i =>
    cases (show u = Value.bool i from rx)
    cases rb with
    | non => cases (show v = Value.none from ry); exact ⟨SeqAt.RcAt.bool_none i, SeqAt.RcNeAt.bool_none i⟩
    | bl c => cases (show v = Value.bool c from ry); exact ⟨SeqAt.RcAt.bool_bool i c, SeqAt.RcNeAt.bool_bool i c⟩
    | int j => obtain ⟨t, rfl⟩ := (show ∃ t, v = Value.int j t from ry); exact ⟨SeqAt.RcAt.bool_int i j t, SeqAt.RcNeAt.bool_int i j t⟩
    | str j => obtain ⟨t, rfl⟩ := (show ∃ t, v = Value.str j t from ry); exact ⟨SeqAt.RcAt.bool_str i j t, SeqAt.RcNeAt.bool_str i j t⟩
    | _ => exact absurd g2 Bool.false_ne_true
  | int i =>
    obtain ⟨t', rfl⟩ := (show ∃ t, u = Value.int i t from rx)
    cases rb with
    | non => cases (show v = Value.none from ry); exact ⟨SeqAt.RcAt.int_none i t', SeqAt.RcNeAt.int_none i t'⟩
    | bl c => cases (show v = Value.bool c from ry); exact ⟨SeqAt.RcAt.int_bool i t' c, SeqAt.RcNeAt.int_bool i t' c⟩
    | int j => obtain ⟨t, rfl⟩ := (show ∃ t, v = Value.int j t from ry); exact ⟨SeqAt.RcAt.int_int i t' j t, SeqAt.RcNeAt.int_int i t' j t⟩
    | str j => obtain ⟨t, rfl⟩ := (show ∃ t, v = Value.str j t from ry); exact ⟨SeqAt.RcAt.int_str i t' j t, SeqAt.RcNeAt.int_str i t' j t⟩
    | _ => exact absurd g2 Bool.false_ne_true
  | str i =>
    obtain ⟨t', rfl⟩ := (show ∃ t, u = Value.str i t from rx)
    cases rb with
    | non => cases (show v = Value.none from ry); exact ⟨SeqAt.RcAt.str_none i t', SeqAt.RcNeAt.str_none i t'⟩
    | bl c => cases (show v = Value.bool c from ry); exact ⟨SeqAt.RcAt.str_bool i t' c, SeqAt.RcNeAt.str_bool i t' c⟩
    | int j => obtain ⟨t, rfl⟩ := (show ∃ t, v = Value.int j t from ry); exact ⟨SeqAt.RcAt.str_int i t' j t, SeqAt.RcNeAt.str_int i t' j t⟩
    | str j => obtain ⟨t, rfl⟩ := (show ∃ t, v = Value.str j t from ry); exact ⟨SeqAt.RcAt.str_str i t' j t, SeqAt.RcNeAt.str_str i t' j t⟩
    | _ => exact absurd g2 Bool.false_ne_true
  | _ => exact absurd g1 Bool.false_ne_true
end
theorem rc_D {X : Cx} {pins : List (Addr × Obj)} {σ : L2.St} {H : Hp} {s : Shared} (I : Inv X pins σ H s) (hu : X.A.units < cLine) {x y : V} {u v : Value} {a b : D} {c : Bool} (rx : RelV x u) (ry : RelV y v) (ra : Rep X.K H x a) (rb : Rep X.K H y b) (e : gEqB a b = some c) :
    SeqAt.RcAt X.A s u v c ∧ SeqAt.RcNeAt X.A s u v (!c) := by
  unfold gEqB at e
  split at e
  · -- two tuples
    rename_i as bs
    cases ra with
    | @tup p vs _ hp rp =>
      cases rb with
      | @tup q ws _ hq rq =>
        split at e
        · rename_i hf
          cases e
          rw [Bool.and_eq_true] at hf
          cases (show u = Value.ref p from rx)
          cases (show v = Value.ref q from ry)
          obtain ⟨its, r1, t1, _⟩ := I.tuple hp
          obtain ⟨jts, r2, t2, _⟩ := I.tuple hq
          have l1 : its.toArray.size = as.length := by rw [List.size_toArray, ← r1.length, rp.length]
          have l2 : jts.toArray.size = bs.length := by rw [List.size_toArray, ← r2.length, rq.length]
          have h1 := SeqAt.RcAt.tuples (A := X.A) (s := s) t1 t2 hu (items_eq r1 r2 rp rq hf.1 hf.2)
          have h2 := SeqAt.RcNeAt.tuples (A := X.A) (s := s) t1 t2 hu (items_eq r1 r2 rp rq hf.1 hf.2)
          rw [l1, l2, all_eqFs] at h1 h2
          exact ⟨h1, h2⟩
        · cases e
  · -- two lists
    rename_i as bs
    cases ra with
    | @lst p vs _ hp rp =>
      cases rb with
      | @lst q ws _ hq rq =>
        split at e
        · rename_i hf
          cases e
          rw [Bool.and_eq_true] at hf
          cases (show u = Value.ref p from rx)
          cases (show v = Value.ref q from ry)
          obtain ⟨its, r1, t1, _⟩ := I.list (SqL.of (K := X.K) hp)
          obtain ⟨jts, r2, t2, _⟩ := I.list (SqL.of (K := X.K) hq)
          have l1 : its.toArray.size = as.length := by rw [List.size_toArray, ← r1.length, rp.length]
          have l2 : jts.toArray.size = bs.length := by rw [List.size_toArray, ← r2.length, rq.length]
          by_cases hl : its.toArray.size = jts.toArray.size
          · have h1 := SeqAt.RcAt.lists (A := X.A) (s := s) t1.isList t2.isList hl hu (items_eq r1 r2 rp rq hf.1 hf.2)
            have h2 := SeqAt.RcNeAt.lists (A := X.A) (s := s) t1.isList t2.isList hl hu (items_eq r1 r2 rp rq hf.1 hf.2)
            have h3 : (List.range its.toArray.size).all (fun j => eqF (as.getD j .non) (bs.getD j .non)) = eqFs as bs := by
              rw [← all_eqFs, l1, show min as.length bs.length = as.length by omega, show (as.length == bs.length) = true by rw [beq_iff_eq]; omega, Bool.and_true]
            rw [h3] at h1 h2
            exact ⟨h1, h2⟩
          · have h1 := SeqAt.RcAt.lists_lengths (A := X.A) (s := s) t1.isList t2.isList (by simpa [bne_iff_ne] using hl) hu
            have h2 := SeqAt.RcNeAt.lists_lengths (A := X.A) (s := s) t1.isList t2.isList (by simpa [bne_iff_ne] using hl) hu
            have h3 : eqFs as bs = false := by
              rw [← all_eqFs, show (as.length == bs.length) = false by rw [beq_eq_false_iff_ne]; omega, Bool.and_false]
            rw [h3]
            exact ⟨h1, h2⟩
        · cases e
  · cases e
    cases ra
    cases rb with
    | @tup q ws bs hq rq =>
      cases (show u = Value.none from rx)
      cases (show v = Value.ref q from ry)
      obtain ⟨its, r1, t1, _⟩ := I.tuple hq
      exact ⟨SeqAt.RcAt.none_tuple t1 hu, SeqAt.RcNeAt.none_tuple t1 hu⟩
  · cases e
    cases rb
    cases ra with
    | @tup q ws bs hq rq =>
      cases (show v = Value.none from ry)
      cases (show u = Value.ref q from rx)
      obtain ⟨its, r1, t1, _⟩ := I.tuple hq
      exact ⟨SeqAt.RcAt.tuple_none t1 hu, SeqAt.RcNeAt.tuple_none t1 hu⟩
  · cases e
    cases ra
    cases rb with
    | @lst q ws bs hq rq =>
      cases (show u = Value.none from rx)
      cases (show v = Value.ref q from ry)
      obtain ⟨its, r1, t1, _⟩ := I.list (SqL.of (K := X.K) hq)
      exact ⟨SeqAt.RcAt.none_list t1.isList hu, SeqAt.RcNeAt.none_list t1.isList hu⟩
  · cases e
    cases rb
    cases ra with
    | @lst q ws bs hq rq =>
      cases (show v = Value.none from ry)
      cases (show u = Value.ref q from rx)
      obtain ⟨its, r1, t1, _⟩ := I.list (SqL.of (K := X.K) hq)
      exact ⟨SeqAt.RcAt.list_none t1.isList hu, SeqAt.RcNeAt.list_none t1.isList hu⟩
  · split at e
    · rename_i hf
      cases e
      rw [Bool.and_eq_true] at hf
      exact rc_flat rx ry ra rb hf.1 hf.2
    · cases e
def rEqD (K : PySem.W.Frag) : R2 := fun x y H Q => ∃ a b c, Rep K H x a ∧ Rep K H y b ∧ gEqB a b = some c ∧ Q (.bl c) H
def rNeD (K : PySem.W.Frag) : R2 := fun x y H Q => ∃ a b c, Rep K H x a ∧ Rep K H y b ∧ gEqB a b = some c ∧ Q (.bl (!c)) H
theorem op_eqD {X : Cx} (hu : X.A.units < cLine) : OpR X (compareOp .Eq) (rEqD X.K) := by
  intro pins s σ H x y v u Q I rx ry h
  obtain ⟨a, b, c, ra, rb, e, q⟩ := h
  exact (rc_D I hu rx ry ra rb e).1 X.prog X.w _ _ ⟨.bl c, H, I, rfl, q⟩
theorem op_neD {X : Cx} (hu : X.A.units < cLine) : OpR X (compareOp .NotEq) (rNeD X.K) := by
  intro pins s σ H x y v u Q I rx ry h
  obtain ⟨a, b, c, ra, rb, e, q⟩ := h
  exact (rc_D I hu rx ry ra rb e).2 X.prog X.w _ _ ⟨.bl (!c), H, I, rfl, q⟩
theorem r2_eq {K : PySem.W.Frag} : R2D K (rEqD K) gEq := by
  intro x y H Q a b d ra rb e k
  unfold gEq at e
  obtain ⟨c, hc, e⟩ := Option.map_eq_some_iff.mp e
  cases e
  exact ⟨a, b, c, ra, rb, hc, k _ H (Same.refl H) (.bl _)⟩
theorem r2_ne {K : PySem.W.Frag} : R2D K (rNeD K) gNe := by
  intro x y H Q a b d ra rb e k
  unfold gNe at e
  obtain ⟨c, hc, e⟩ := Option.map_eq_some_iff.mp e
  cases e
  exact ⟨a, b, c, ra, rb, hc, k _ H (Same.refl H) (.bl _)⟩
section
variable {X : Cx} {a b e : Expr} {fa fb f : FD} {pos : Pos}
theorem pd_eq (hu : X.A.units < cLine) (ha : PD X a fa) (hb : PD X b fb) : PD X (.Compare a [.Eq] [b] pos) (f2 gEq fa fb) := pd_cmp (op_eqD hu) r2_eq ha hb (nomark _)
theorem ptd_eq (hu : X.A.units < cLine) (ha : PD X a fa) (hb : PD X b fb) : PTD X (.Compare a [.Eq] [b] pos) (fT (f2 gEq fa fb)) := ptd_cmp (op_eqD hu) r2_eq ha hb (nomark _)
theorem ptd_ne (hu : X.A.units < cLine) (ha : PD X a fa) (hb : PD X b fb) : PTD X (.Compare a [.NotEq] [b] pos) (fT (f2 gNe fa fb)) := ptd_cmp (op_neD hu) r2_ne ha hb (nomark _)
abbrev gLt : D → D → Option D := gI0 fun i j => .bl (decide (i < j))
abbrev gGt : D → D → Option D := gI0 fun i j => .bl (decide (j < i))
theorem pd_lt (ha : PD X a fa) (hb : PD X b fb) : PD X (.Compare a [.Lt] [b] pos) (f2 gLt fa fb) := pd_cmp op_lt (r2_I0 fun _ _ _ => .bl _) ha hb (nomark _)
theorem pd_gt (ha : PD X a fa) (hb : PD X b fb) : PD X (.Compare a [.Gt] [b] pos) (f2 gGt fa fb) := pd_cmp op_gt (r2_I0 fun _ _ _ => .bl _) ha hb (nomark _)
theorem ptd_lt (ha : PD X a fa) (hb : PD X b fb) : PTD X (.Compare a [.Lt] [b] pos) (fT (f2 gLt fa fb)) := ptd_cmp op_lt (r2_I0 fun _ _ _ => .bl _) ha hb (nomark _)
theorem ptd_gt (ha : PD X a fa) (hb : PD X b fb) : PTD X (.Compare a [.Gt] [b] pos) (fT (f2 gGt fa fb)) := ptd_cmp op_gt (r2_I0 fun _ _ _ => .bl _) ha hb (nomark _)
def isNon : D → Bool
  | .non => true
  | _ => false
def gIsN (a b : D) : Option D := match b with
  | .non => some (.bl (isNon a))
  | _ => none
def gNotN (a b : D) : Option D := match b with
  | .non => some (.bl (!isNon a))
  | _ => none
theorem isNon_of {K : PySem.W.Frag} {H : Hp} {x : V} {a : D} (r : Rep K H x a) : decide (x = .non) = isNon a := by
  cases r <;> rfl
theorem r2_isN {K : PySem.W.Frag} : R2D K (fun x y H Q => y = .non ∧ Q (.bl (decide (x = .non))) H) gIsN := by
  intro x y H Q a b d ra rb e k
  cases rb with
  | non => cases e; exact ⟨rfl, by rw [isNon_of ra]; exact k _ H (Same.refl H) (.bl _)⟩
  | _ => cases e
theorem r2_notN {K : PySem.W.Frag} : R2D K (fun x y H Q => y = .non ∧ Q (.bl (!decide (x = .non))) H) gNotN := by
  intro x y H Q a b d ra rb e k
  cases rb with
  | non => cases e; exact ⟨rfl, by rw [isNon_of ra]; exact k _ H (Same.refl H) (.bl _)⟩
  | _ => cases e
theorem pd_isN (ha : PD X a fa) (hb : PD X b fb) : PD X (.Compare a [.Is] [b] pos) (f2 gIsN fa fb) := pd_cmp op_isN r2_isN ha hb (nomark _)
theorem pd_notN (ha : PD X a fa) (hb : PD X b fb) : PD X (.Compare a [.IsNot] [b] pos) (f2 gNotN fa fb) := pd_cmp op_notN r2_notN ha hb (nomark _)
theorem ptd_isN (ha : PD X a fa) (hb : PD X b fb) : PTD X (.Compare a [.Is] [b] pos) (fT (f2 gIsN fa fb)) := ptd_cmp op_isN r2_isN ha hb (nomark _)
theorem ptd_notN (ha : PD X a fa) (hb : PD X b fb) : PTD X (.Compare a [.IsNot] [b] pos) (fT (f2 gNotN fa fb)) := ptd_cmp op_notN r2_notN ha hb (nomark _)
end
inductive Res where
  | nx (δ : DS)
  | rt (d : D)
  | bk (δ : DS)
  | ct (δ : DS)
  | ex (C : Addr) (δ : DS)
  | mk (C : Addr) (δ : DS)
abbrev SD := DS → Option Res
def RP (X : Cx) (E : Ends) (H : Hp) : Res → Prop
  | .nx δ => ∀ σ' H', Same H H' → RepS X.K H' σ' δ → E.nx σ' H'
  | .rt d => ∀ v H', Same H H' → Rep X.K H' v d → E.rt v H'
  | .bk δ => ∀ σ' H', Same H H' → RepS X.K H' σ' δ → E.bk σ' H'
  | .ct δ => ∀ σ' H', Same H H' → RepS X.K H' σ' δ → E.ct σ' H'
  | .ex C δ => ∀ σ' H', Same H H' → RepS X.K H' σ' δ → XFly X C σ' H'
  | .mk C δ => ∀ σ' H', Same H H' → RepS X.K H' σ' δ → XMade X C σ' H'
theorem RP.mono {X : Cx} {E : Ends} {H H1 : Hp} {r : Res} (s : Same H H1) (h : RP X E H r) : RP X E H1 r := by
  cases r with
  | nx δ => exact fun σ' H' s2 R => h σ' H' (s.trans s2) R
  | rt d => exact fun v H' s2 R => h v H' (s.trans s2) R
  | bk δ => exact fun σ' H' s2 R => h σ' H' (s.trans s2) R
  | ct δ => exact fun σ' H' s2 R => h σ' H' (s.trans s2) R
  | ex C δ => exact fun σ' H' s2 R => h σ' H' (s.trans s2) R
  | mk C δ => exact fun σ' H' s2 R => h σ' H' (s.trans s2) R
def upS (X : Cx) (s : SD) : TS := fun E σ H => ∃ δ r, RepS X.K H σ δ ∧ s δ = some r ∧ RP X E H r
def PSD (X : Cx) (st : Stmt) (s : SD) : Prop := PS X st (upS X s)
def PSsD (X : Cx) (sts : List Stmt) (s : SD) : Prop := PSs X sts (upS X s)
theorem impS {X : Cx} {st : Stmt} {t t' : TS} (h : PS X st t) (w : ∀ E σ H, t' E σ H → t E σ H) : PS X st t' := fun pins s σ H E I q => h pins s σ H E I (w E σ H q)
theorem impSs {X : Cx} {st : List Stmt} {t t' : TS} (h : PSs X st t) (w : ∀ E σ H, t' E σ H → t E σ H) : PSs X st t' := fun pins s σ H E I q => h pins s σ H E I (w E σ H q)
def sNil : SD := fun δ => some (.nx δ)
def sThen (u : SD) : Res → Option Res
  | .nx δ => u δ
  | r => some r
def sSeq (s u : SD) : SD := fun δ => (s δ).bind (sThen u)
def sRet (f : FD) : SD := fun δ => (f δ).bind fun d => some (.rt d)
def sDrop (f : FD) : SD := fun δ => (f δ).bind fun _ => some (.nx δ)
def sSet (i : Nat) (f : FD) : SD := fun δ => (f δ).bind fun d => some (.nx (δ.set i (some d)))
def sIf (c : FT) (s u : SD) : SD := fun δ => (c δ).bind fun b => match b with
  | true => s δ
  | false => u δ
def sNever : SD := fun _ => none
section
variable {X : Cx} {st : Stmt} {rest : List Stmt} {s u : SD} {e : Expr} {f : FD} {c : FT} {pos : Pos}
theorem psd_nil : PSsD X [] sNil := impSs pss_nil fun E σ H ⟨δ, r, R, e, k⟩ => by cases e; exact k σ H (Same.refl H) R
theorem psd_cons (h1 : PSD X st s) (h2 : PSsD X rest u) : PSsD X (st :: rest) (sSeq s u) := impSs (pss_cons h1 h2) fun E σ H ⟨δ, r, R, e, k⟩ => by
  unfold sSeq at e
  obtain ⟨r1, e1, e⟩ := Option.bind_eq_some_iff.mp e
  refine ⟨δ, r1, R, e1, ?_⟩
  cases r1 with
  | nx δ' => exact fun σ' H' s1 R1 => ⟨δ', r, R1, e, k.mono s1⟩
  | rt d => cases e; exact k
  | bk d => cases e; exact k
  | ct d => cases e; exact k
  | ex C d => cases e; exact k
  | mk C d => cases e; exact k
theorem psd_one (h : PSD X st s) : PSsD X [st] s := pss_one h
theorem psd_ret (he : PD X e f) : PSD X (.Return (some e) pos) (sRet f) := impS (ps_ret he) fun E σ H ⟨δ, r, R, q, k⟩ => by
  unfold sRet at q
  obtain ⟨d, ed, q⟩ := Option.bind_eq_some_iff.mp q
  cases q
  exact ⟨δ, d, R, ed, k⟩
theorem psd_set (i : Nat) {x : Str} {pos' : Pos} (hN : X.N.Nodup) (he : PD X e f) (hi : X.N[i]? = some x := by rfl) (hx : Loc X.env.scope x := by first | exact Or.inl rfl | exact Or.inr rfl) (hs : swapsWith e (some (.Name x pos')) pos.line X.env = pure false := by rfl) (hf : X.fn x = true ∨ X.env.scope.names.lookup x = some .local := by first | exact .inl rfl | exact .inr rfl | assumption) :
    PSD X (.Assign [.Name x pos'] e pos) (sSet i f) := impS (ps_set hN hi hx he hs hf) fun E σ H ⟨δ, r, R, q, k⟩ => by
  unfold sSet at q
  obtain ⟨d, ed, q⟩ := Option.bind_eq_some_iff.mp q
  cases q
  exact ⟨δ, d, R, ed, fun v H' s1 r1 => k (σ.set i (some v)) H' s1 ((R.mono s1).set i r1)⟩
theorem psd_if {cx : Expr} {a b : List Stmt} (hc : PTD X cx c) (ha : PSsD X a s) (hb : PSsD X b u) : PSD X (.If cx a b pos) (sIf c s u) := impS (ps_if hc ha hb) fun E σ H ⟨δ, r, R, q, k⟩ => by
  unfold sIf at q
  obtain ⟨d, ed, q⟩ := Option.bind_eq_some_iff.mp q
  refine ⟨δ, d, R, ed, fun H' s1 => ?_⟩
  cases d with
  | true => rw [if_pos rfl]; exact ⟨δ, r, R.mono s1, q, k.mono s1⟩
  | false => rw [if_neg Bool.false_ne_true]; exact ⟨δ, r, R.mono s1, q, k.mono s1⟩
theorem psd_never : PSD X st sNever := impS ps_never fun E σ H ⟨δ, r, R, e, k⟩ => by cases e
def sPar (i j : Nat) (g : FA) : SD := fun δ => (g δ).bind fun ds => match ds with
  | [a, b] => some (.nx ((δ.set i (some a)).set j (some b)))
  | _ => none
theorem psd_par (i j : Nat) {x y : Str} {a b : Expr} {g : FA} {px py pt : Pos} {kt k2 pt2} (hc : X.calm = true) (hN : X.N.Nodup) (ha : PAD X [a, b] g) (hi : X.N[i]? = some x := by rfl) (hj : X.N[j]? = some y := by rfl) (hij : i ≠ j := by decide)
    (hx : X.env.scope.names.lookup x = some .local := by rfl) (hy : X.env.scope.names.lookup y = some .local := by rfl)
    (hw : swappedStores [.Tuple [.Name x px, .Name y py] kt pt] (.Tuple [a, b] k2 pt2) X.env = pure (some [x, y]) := by rfl)
    (hs : swapsWithSole [.Tuple [.Name x px, .Name y py] kt pt] (.Tuple [a, b] k2 pt2) pos.line X.env = pure false := by rfl) :
    PSD X (.Assign [.Tuple [.Name x px, .Name y py] kt pt] (.Tuple [a, b] k2 pt2) pos) (sPar i j g) := impS (ps_par hc hN hi hj hij hx hy ha hw hs) fun E σ H ⟨δ, r, R, q, k⟩ => by
  unfold sPar at q
  obtain ⟨ds, ed, q⟩ := Option.bind_eq_some_iff.mp q
  split at q
  · rename_i d1 d2
    cases q
    refine ⟨δ, _, R, ed, fun vs H' s1 r1 _ => ?_⟩
    obtain ⟨v, w, rfl, rv, rw'⟩ := reps2 r1
    exact ⟨v, w, rfl, k _ H' s1 (((R.mono s1).set i rv).set j rw')⟩
  · cases q
def sUn2 (i j : Nat) (f : FD) : SD := fun δ => (f δ).bind fun d => match d with
  | .tup [a, b] => some (.nx ((δ.set i (some a)).set j (some b)))
  | _ => none
end
def sWhile : Nat → FT → SD → SD
  | 0, _, _ => fun _ => none
  | n + 1, c, s => fun δ => (c δ).bind fun b => match b with
    | true => (s δ).bind fun r => match r with
      | .nx δ' => sWhile n c s δ'
      | .ct δ' => sWhile n c s δ'
      | .bk δ' => some (.nx δ')
      | .rt d => some (.rt d)
      | .ex C δ' => some (.ex C δ')
      | .mk C δ' => some (.mk C δ')
    | false => some (.nx δ)
theorem psd_while {X : Cx} {cx : Expr} {body : List Stmt} {c : FT} {s : SD} {pos : Pos} (n : Nat) (hp : PassesOwn (model X.prog X.w) X.A X.env X.xe) (hc : PTD X cx c) (hb : PSsD X body s) : PSD X (.While cx body [] pos) (sWhile n c s) := impS (ps_while hp hc hb) fun E σ H ⟨δ, r, R, e, k⟩ => by
  refine ⟨fun m σ H => ∃ δ r, RepS X.K H σ δ ∧ sWhile m c s δ = some r ∧ RP X E H r, ⟨n, δ, r, R, e, k⟩, ?_⟩
  rintro m σ H ⟨δ, r, R, e, k⟩
  cases m with
  | zero => exact absurd e (by intro z; cases z)
  | succ m =>
    obtain ⟨b, eb, e⟩ := Option.bind_eq_some_iff.mp (show ((c δ).bind _) = some r from e)
    refine ⟨δ, b, R, eb, fun H1 s1 => ?_⟩
    cases b with
    | true =>
      rw [if_pos rfl]
      obtain ⟨r1, e1, e⟩ := Option.bind_eq_some_iff.mp (show ((s δ).bind _) = some r from e)
      refine ⟨fun σ' H' => ∃ m', m' < m + 1 ∧ ∃ δ r, RepS X.K H' σ' δ ∧ sWhile m' c s δ = some r ∧ RP X E H' r, fun _ _ z => z, ⟨δ, r1, R.mono s1, e1, ?_⟩⟩
      cases r1 with
      | nx δ' => exact fun σ' H' s2 R2 => ⟨m, Nat.lt_succ_self m, δ', r, R2, e, k.mono (s1.trans s2)⟩
      | ct δ' => exact fun σ' H' s2 R2 => ⟨m, Nat.lt_succ_self m, δ', r, R2, e, k.mono (s1.trans s2)⟩
      | bk δ' => cases e; exact fun σ' H' s2 R2 => k σ' H' (s1.trans s2) R2
      | rt d => cases e; exact fun v H' s2 R2 => k v H' (s1.trans s2) R2
      | ex C δ' => cases e; exact fun σ' H' s2 R2 => k σ' H' (s1.trans s2) R2
      | mk C δ' => cases e; exact fun σ' H' s2 R2 => k σ' H' (s1.trans s2) R2
    | false =>
      rw [if_neg Bool.false_ne_true]
      cases e
      exact k σ H1 s1 (R.mono s1)
def ItD (K : PySem.W.Frag) (J : It) (H1 : Hp) (ds : List D) : Prop := ∀ i H2, Same H1 H2 →
  (i < ds.length → J.go i H2 ∧ ∀ x H', J.yld i H2 x H' → Same H2 H' ∧ ∃ d, ds[i]? = some d ∧ Rep K H' x d) ∧ (ds.length ≤ i → J.stop i H2)
def upI (K : PySem.W.Frag) (src : FA) : TI := fun σ H R => ∃ δ ds, RepS K H σ δ ∧ src δ = some ds ∧ ∀ J H1, Same H H1 → ItD K J H1 ds → R J H1
def PID (X : Cx) (tg iter : Expr) (src : FA) : Prop := PI X tg iter (upI X.K src)
theorem impI {X : Cx} {tg iter : Expr} {t t' : TI} (h : PI X tg iter t) (w : ∀ σ H R, t' σ H R → t σ H R) : PI X tg iter t' := fun pins s σ H R I q => h pins s σ H R I (w σ H R q)
def asL : D → Option (List D)
  | .lst ds => some ds
  | .seq ds => some ds
  | _ => none
theorem it_list {K : PySem.W.Frag} {H1 : Hp} {a : Addr} {vs : List V} {ds : List D} (hq : SqL K H1 a vs) (r : Reps K H1 vs ds) : ItD K (Itl K a) H1 ds := by
  intro i H2 s
  have hq2 := s.seq hq
  have r2 := r.mono s
  have hl := r2.length
  refine ⟨fun hi => ⟨⟨vs, vs[i], hq2, by simp [show i < vs.length by omega]⟩, fun x H' y => ?_⟩, fun hi => ⟨vs, hq2, by omega⟩⟩
  obtain ⟨e, y⟩ := y
  subst e
  obtain ⟨d, h1, h2⟩ := r2.getV (y vs hq2)
  exact ⟨Same.refl _, d, h1, h2⟩
theorem pid_list {X : Cx} {tg l : Expr} {f : FD} (hl : PD X l f) : PID X tg l (fun δ => (f δ).bind asL) := impI (pi_list hl) fun σ H R ⟨δ, ds, R0, e, k⟩ => by
  obtain ⟨d, ed, e⟩ := Option.bind_eq_some_iff.mp e
  refine ⟨δ, d, R0, ed, fun v H1 s1 r1 => ?_⟩
  cases r1 with
  | @lst p vs es hp rp => cases e; exact ⟨p, rfl, ⟨vs, SqL.of hp⟩, k _ H1 s1 (it_list (SqL.of hp) rp)⟩
  | @seq p vs es hp rp => cases e; exact ⟨p, rfl, ⟨vs, hp⟩, k _ H1 s1 (it_list hp rp)⟩
  | _ => cases e
def gSet (i : Nat) : D → DS → Option DS := fun d δ => some (δ.set i (some d))
def forD (g : D → DS → Option DS) (s : SD) : List D → SD
  | [] => fun δ => some (.nx δ)
  | d :: ds => fun δ => (g d δ).bind fun δ1 => (s δ1).bind fun r => match r with
    | .nx δ' => forD g s ds δ'
    | .ct δ' => forD g s ds δ'
    | .bk δ' => some (.nx δ')
    | .rt d => some (.rt d)
    | .ex C δ' => some (.ex C δ')
    | .mk C δ' => some (.mk C δ')
def sFor (src : FA) (g : D → DS → Option DS) (s : SD) : SD := fun δ => (src δ).bind fun ds => forD g s ds δ
def retOf : Option Res → Option D
  | some (.rt d) => some d
  | some (.nx _) => some .non
  | _ => none
def start (n : Nat) (ds : List D) : DS := ds.map some ++ List.replicate (n - ds.length) none
section
variable {P : Program} {w : World} {K : PySem.W.Frag} {mg : Str → Option Value} {base : Heap}
theorem pure_ok {x qual : Str} {st : Stmt} {f : Addr} {fd : FuncData} {N ps : List Str} {k : Nat} {G : List D → Option D} (F : Fun K x qual st f fd) (S : FnScope N ps (defScope st))
    (hbody : ∀ (cdv : Value) (A : Around) (outer : List Env) (s : Shared) (H : Hp) (E : XK) (ds : List D) (d : D), Room k (A.deeper (envOfC qual (defScope st) s.heap.objs.size f cdv)) → G ds = some d → ds.length = ps.length →
      ∃ t, PSsD (cxOf CX0 P w K mg base N qual (defScope st) f cdv A outer s H E).nox (defBody st) t ∧ retOf (t (start N.length ds)) = some d) : FnOk P w K mg base CX0 (k + 1) f fd ps (pureSp K ps.length G) := by
  refine F.ok S (fun vs H Q E h => h.1) (fun cdv A outer s H vs Q E hr h => ?_)
  obtain ⟨hl, ds, d, r, e, q⟩ := h
  obtain ⟨t, ht, hq⟩ := hbody cdv A outer s H E ds d hr e (r.length.symm.trans hl)
  refine ⟨_, ht, start N.length ds, ?_⟩
  cases z : t (start N.length ds) with
  | none => rw [z] at hq; cases hq
  | some res =>
    rw [z] at hq
    refine ⟨res, RepS.start r, rfl, ?_⟩
    cases res with
    | rt d' => cases hq; exact q
    | nx δ => cases hq; exact fun σ' H' s1 _ => q _ H' s1 .non
    | bk δ => cases hq
    | ct δ => cases hq
    | ex C δ => cases hq
    | mk C δ => cases hq
structure Has (P : Program) (w : World) (K : PySem.W.Frag) (mg : Str → Option Value) (base : Heap) (k : Nat) (x : Str) (ps : List Str) (G : List D → Option D) : Prop where
  ex : ∃ f fd, FnOk P w K mg base CX0 k f fd ps (pureSp K ps.length G) ∧ mg x = some (.ref f) ∧ PySem.W.keepIn K (.ref f) = true ∧ Binds K fd ps []
end
theorem pd_callH {X : Cx} {e : Expr} {es : List Expr} {g : FA} {pos p : Pos} {k j : Nat} {x : Str} {ps : List Str} {G : List D → Option D} (F : Has X.prog X.w X.K X.mg X.base k x ps G) (hr : Room j X.A) (ha : PAD X (e :: es) g) (hk : k ≤ j := by decide) (hg : Gl X x := by rfl)
    (hn : (e :: es).length = ps.length := by rfl) (hdb : (x == ("__debug__" : Str)) = false := by decide) (he : starEach (e :: es) X.env = (false, eval e X.env) :: starEach es X.env := by rfl) (hpl : (backTo pos (starEach es X.env)).any (·.1) = false := by rfl) :
    PD X (.Call (.Name x p) (e :: es) [] pos) (fCall G g) := by
  obtain ⟨f, fd, F, hm, kp, hb⟩ := F.ex
  exact pd_call F (hr.mono hk) hg hm kp hb ha hn hdb he hpl
end Dl
namespace Dl
open PySem PySem.Spec PyProof.Rows L2
def spLaw (K : PySem.W.Frag) : Sp := fun vs H Q _ => ∃ (a : Addr) (ns : List Int), vs = [.ref a] ∧ SqL K H a (ns.map V.int) ∧ ns.length ≤ 63 ∧ ∀ H', Q (.bl true) H'
end Dl
namespace Dl
noncomputable def fn (S : List D → D → Prop) : List D → Option D := fun ds => by
  classical exact if h : ∃ d, S ds d then some h.choose else none
theorem fn_inv {S : List D → D → Prop} {ds : List D} {d : D} (h : fn S ds = some d) : S ds d := by
  unfold fn at h
  split at h
  · rename_i q
    have e := Option.some.inj h
    rw [← e]
    exact q.choose_spec
  · cases h
theorem fn_eq {S : List D → D → Prop} {ds : List D} {d : D} (u : ∀ d', S ds d' → d' = d) (h : S ds d) : fn S ds = some d := by
  unfold fn
  have q : ∃ d, S ds d := ⟨d, h⟩
  rw [dif_pos q]
  exact congrArg some (u _ q.choose_spec)
theorem gNe_int (a b : Int) : gNe (.int a) (.int b) = some (.bl (!(a == b))) := rfl
theorem gEq_int (a b : Int) : gEq (.int a) (.int b) = some (.bl (a == b)) := rfl
theorem gEq_bl (a b : Bool) : gEq (.bl a) (.bl b) = some (.bl (a == b)) := rfl
theorem gEq_tup2 (a b c d : Int) : gEq (.tup [.int a, .int b]) (.tup [.int c, .int d]) = some (.bl (a == c && b == d)) := by
  show some (D.bl (a == c && (b == d && true))) = _
  rw [Bool.and_true]
theorem gNe_tup2 (a b c d : Int) : gNe (.tup [.int a, .int b]) (.tup [.int c, .int d]) = some (.bl (!(a == c && b == d))) := by
  show some (D.bl (!(a == c && (b == d && true)))) = _
  rw [Bool.and_true]
theorem gAdd_int (a b : Int) : gAdd (.int a) (.int b) = some (.int (a + b)) := rfl
theorem gI_pos {C : Int → Int → Prop} [∀ i j, Decidable (C i j)] {g : Int → Int → D} {i j : Int} (h : C i j) : gI C g (.int i) (.int j) = some (g i j) := if_pos h
end Dl
namespace Dl
theorem gIsi_same (n : String) (p : D → Option Bool) (d : D) : gIsi n p [d, .ty n] = (p d).map D.bl := if_pos rfl
theorem gIx_t0 (a b : D) : gIx (.tup [a, b]) (.int 0) = some a := rfl
theorem gIx_t1 (a b : D) : gIx (.tup [a, b]) (.int 1) = some b := rfl
theorem gLen_t2 (a b : D) : gLen [.tup [a, b]] = some (.int 2) := rfl
theorem gLen_seq (ds : List D) : gLen [.seq ds] = some (.int ds.length) := rfl
theorem sWhile_t {n : Nat} {c : FT} {s : SD} {δ δ' : DS} (hc : c δ = some true) (hs : s δ = some (.nx δ')) : sWhile (n + 1) c s δ = sWhile n c s δ' := by
  simp only [sWhile, hc, hs, Option.bind_some]
theorem bd_le {x y : Int} (h0 : 0 ≤ x) (h : x ≤ y) (hy : Bd y) : Bd x := Nat.lt_of_le_of_lt (show x.natAbs ≤ y.natAbs by omega) hy
end Dl
namespace Dl
open PySem PySem.Spec PyProof.Rows L2
abbrev FO := DS → Option (Option Int)
def dfl (G : List D → Option D) (dv : List Int) : List D → Option D := fun ds => G (ds ++ dv.map D.int)
def mapO (g : D → Option D) : List D → Option (List D)
  | [] => some []
  | d :: ds => (g d).bind fun x => (mapO g ds).bind fun xs => some (x :: xs)
def slotsOf (js : List Nat) (δ : DS) : DS := js.map fun j => match δ[j]? with
  | some o => o
  | none => none
def fComp (src : FA) (js : List Nat) (elt : FD) : FD := fun δ => (src δ).bind fun ds => (mapO (fun d => elt (some d :: slotsOf js δ)) ds).bind fun xs => if xs.length ≤ 1000 then some (.lst xs) else none
def rangeD (a b c : Int) : List D := (List.range ((b - a + c - 1) / c).toNat).map fun i => .int (a + (i : Nat) * c)
def asR : List D → Option (List D)
  | [.int b] => if -(2 ^ 62) ≤ b ∧ b < 2 ^ 62 then some (rangeD 0 b 1) else none
  | [.int a, .int b] => if -(2 ^ 62) ≤ a ∧ a < 2 ^ 62 ∧ -(2 ^ 62) ≤ b ∧ b < 2 ^ 62 then some (rangeD a b 1) else none
  | [.int a, .int b, .int c] => if -(2 ^ 62) ≤ a ∧ a < 2 ^ 62 ∧ -(2 ^ 62) ≤ b ∧ b < 2 ^ 62 ∧ c = 2 then some (rangeD a b c) else none
  | _ => none
def srcR (g : FA) : FA := fun δ => (g δ).bind asR
end Dl
namespace Dl
end Dl
namespace Dl
open PySem PySem.Spec PyProof.Rows L2
structure FunD (K : PySem.W.Frag) (x qual : Str) (st : Stmt) (f : Addr) (fd : FuncData) (dV : Value) : Prop where
  ex : ∃ (oc : Value) (od : Option Addr) (kV doc pm : Value) (an : Option Addr) (cdv ct : Value) (osl : Array (Option Value)),
    fd = PySem.W.fnOf x qual (defArgs st) (defBody st) (defScope st) dV kV doc pm an cdv ct ∧ K.lookup f = some ⟨oc, od, .func fd, osl⟩ ∧ PySem.W.codeIn K cdv qual = true
  kp : PySem.W.keepIn K (.ref f) = true
section
variable {P : Program} {w : World} {K : PySem.W.Frag} {mg : Str → Option Value} {base : Heap}
theorem pure_okD {x qual : Str} {st : Stmt} {f : Addr} {fd : FuncData} {dV : Value} {N ps : List Str} {k : Nat} {G : List D → Option D} (F : FunD K x qual st f fd dV) (S : FnScope N ps (defScope st))
    (hbody : ∀ (cdv : Value) (A : Around) (outer : List Env) (s : Shared) (H : Hp) (E : XK) (ds : List D) (d : D), Room k (A.deeper (envOfC qual (defScope st) s.heap.objs.size f cdv)) → G ds = some d → ds.length = ps.length →
      ∃ t, PSsD (cxOf CX0 P w K mg base N qual (defScope st) f cdv A outer s H E).nox (defBody st) t ∧ retOf (t (start N.length ds)) = some d) : FnOk P w K mg base CX0 (k + 1) f fd ps (pureSp K ps.length G) := by
  obtain ⟨oc, od, kV, doc, pm, an, cdv, ct, osl, rfl, lk, hcd⟩ := F.ex
  refine fn_of lk hcd S (fun vs H Q E h => h.1) fun A outer s H vs Q E hr hsp => ?_
  obtain ⟨hl, ds, d, r, e, q⟩ := hsp
  obtain ⟨t, ht, hq⟩ := hbody cdv A outer s H E ds d hr e (r.length.symm.trans hl)
  refine ⟨_, ht.nox, start N.length ds, ?_⟩
  cases z : t (start N.length ds) with
  | none => rw [z] at hq; cases hq
  | some res =>
    rw [z] at hq
    refine ⟨res, RepS.start r, rfl, ?_⟩
    cases res with
    | rt d' => cases hq; exact q
    | nx δ => cases hq; exact fun σ' H' s1 _ => q _ H' s1 .non
    | bk δ => cases hq
    | ct δ => cases hq
    | ex C δ => cases hq
    | mk C δ => cases hq
theorem FunD.binds {x qual : Str} {st : Stmt} {f T : Addr} {fd : FuncData} {ps : List Str} {o : Obj} {items : Array Value} {n : Nat} {ds : List Value} (F : FunD K x qual st f fd (.ref T)) (ho : K.lookup T = some o) (hs : o.data = .seq items n)
    (h : ∀ (kV doc pm : Value) (an : Option Addr) (cdv ct : Value) (us : List Value), (us ++ ds).length = ps.length → ∃ k, bindArgs (PySem.W.fnOf x qual (defArgs st) (defBody st) (defScope st) (.ref T) kV doc pm an cdv ct) ⟨us, []⟩ = seqItems? (.ref T) >>= k ∧ k (some items) = pure (ps.zip (us ++ ds))) : Binds K fd ps ds := by
  obtain ⟨oc, od, kV, doc, pm, an, cdv, ct, osl, rfl, lk, hcd⟩ := F.ex
  intro s us KI hl
  obtain ⟨k, h1, h2⟩ := h kV doc pm an cdv ct us hl
  exact PySem.W.binds_K KI rfl ho hs h1 h2
theorem fun_mkD {x qual : Str} {st : Stmt} {f : Addr} {oc dV : Value} {od an : Option Addr} {osl : Array (Option Value)} {kV doc pm cdv ct : Value} (l : K.lookup f = some ⟨oc, od, .func (PySem.W.fnOf x qual (defArgs st) (defBody st) (defScope st) dV kV doc pm an cdv ct), osl⟩)
    (c : PySem.W.codeIn K cdv qual = true) (k : PySem.W.keepIn K (.ref f) = true) : FunD K x qual st f (PySem.W.fnOf x qual (defArgs st) (defBody st) (defScope st) dV kV doc pm an cdv ct) dV := ⟨⟨oc, od, kV, doc, pm, an, cdv, ct, osl, rfl, l, c⟩, k⟩
structure HasD (P : Program) (w : World) (K : PySem.W.Frag) (mg : Str → Option Value) (base : Heap) (k : Nat) (x : Str) (ps : List Str) (dv : List Int) (G : List D → Option D) : Prop where
  ex : ∃ f fd ds, FnOk P w K mg base CX0 k f fd ps (pureSp K ps.length G) ∧ mg x = some (.ref f) ∧ PySem.W.keepIn K (.ref f) = true ∧ Vals (dv.map V.int) ds ∧ Binds K fd ps ds
end
theorem pd_callD {X : Cx} {e : Expr} {es : List Expr} {g : FA} {pos p : Pos} {k j : Nat} {x : Str} {ps : List Str} {dv : List Int} {G : List D → Option D} (F : HasD X.prog X.w X.K X.mg X.base k x ps dv G) (hr : Room j X.A) (ha : PAD X (e :: es) g) (hk : k ≤ j := by decide) (hg : Gl X x := by rfl)
    (hn : (e :: es).length + dv.length = ps.length := by rfl) (hdb : (x == ("__debug__" : Str)) = false := by decide) (he : starEach (e :: es) X.env = (false, eval e X.env) :: starEach es X.env := by rfl) (hpl : (backTo pos (starEach es X.env)).any (·.1) = false := by rfl) :
    PD X (.Call (.Name x p) (e :: es) [] pos) (fCall (dfl G dv) g) := by
  obtain ⟨f, fd, ds, F, hm, kp, hv, hb⟩ := F.ex
  refine imp (pe_call F (hr.mono hk) hg hm kp hb hv pass0 ha hdb he hpl) fun σ H Q ⟨δ, d, R, q, k⟩ => ?_
  unfold fCall at q
  obtain ⟨ds, eds, q⟩ := Option.bind_eq_some_iff.mp q
  refine ⟨δ, ds, R, eds, fun vs H1 s1 r1 l => ?_⟩
  exact ⟨by rw [List.length_append, l, List.length_map]; exact hn, ds ++ dv.map D.int, d, r1.append (Reps.ints dv), q, fun v H' s => k v H' (s1.trans s)⟩
section
variable {X : Cx} {e : Expr} {f : FD} {lo hi : Option Expr} {fl fh : FO} {pos p2 : Pos}
end
section
variable {prog : Program} {w : World} {A : Around} {E : Value → Shared → Prop}
end
theorem range_ints {K : PySem.W.Frag} {H : Hp} {lo : Int} {n : Nat} : ItD K (Itr lo n) H ((List.range n).map fun (i : Nat) => D.int (lo + (i : Int) * 1)) := by
  intro i H2 s
  refine ⟨fun hi => ?_, fun hi => (show n ≤ i by simpa using hi)⟩
  have hi' : i < n := by simpa using hi
  refine ⟨hi', fun x H' y => ?_⟩
  obtain ⟨e, y⟩ := y
  subst e y
  refine ⟨Same.refl _, .int (lo + (i : Int) * 1), ?_, by rw [Int.mul_one]; exact .int _⟩
  rw [List.getElem?_map, List.getElem?_range hi']
  rfl
theorem pid_range1 {X : Cx} {tg a : Expr} {g : FA} {p pos : Pos} (hg : Gl X "range") (hm : X.mg "range" = none) (ha : PAD X [a] g) (hs : starEach [a] X.env = [(false, eval a X.env)] := by rfl) : PID X tg (.Call (.Name "range" p) [a] [] pos) (srcR g) :=
  impI (pi_range1 hg hm ha hs) fun σ H R ⟨δ, ds, R0, e, k⟩ => by
  unfold srcR at e
  obtain ⟨xs, exs, e⟩ := Option.bind_eq_some_iff.mp e
  refine ⟨δ, xs, R0, exs, fun vs H1 s1 r1 l => ?_⟩
  match xs, r1, e with
  | [.int b], r1, e =>
    obtain ⟨v, rfl, rv⟩ := reps1 r1
    cases rv
    have e' : (if -(2 ^ 62) ≤ b ∧ b < 2 ^ 62 then some (rangeD 0 b 1) else none) = some ds := e
    by_cases hb : -(2 ^ 62) ≤ b ∧ b < 2 ^ 62
    · rw [if_pos hb] at e'
      have e2 : rangeD 0 b 1 = ds := Option.some.inj e'
      refine ⟨b, rfl, hb.1, hb.2, k _ H1 s1 ?_⟩
      have h := range_ints (K := X.K) (H := H1) (lo := 0) (n := b.toNat)
      have e3 : ((b - 0 + 1 - 1) / 1).toNat = b.toNat := by congr 1; omega
      unfold rangeD at e2
      rw [e3] at e2
      rw [← e2]
      exact h
    · rw [if_neg hb] at e'; cases e'
  | [], r1, e => cases r1; cases l
  | _ :: _ :: _, r1, e => 
    have := r1.length
    rw [l] at this
    cases this
  | [.non], r1, e => cases e
  | [.bl _], r1, e => cases e
  | [.str _], r1, e => cases e
  | [.tup _], r1, e => cases e
  | [.lst _], r1, e => cases e
  | [.seq _], r1, e => cases e
  | [.ty _], r1, e => cases e
  | [.dct], r1, e => cases e
  | [.exc _], r1, e => cases e
  | [.cls _], r1, e => cases e
end Dl
namespace Dl
open PySem PySem.Spec PyProof.Rows L2
structure CompOk (X : Cx) (scope : Scope) (cl : List (Str × Addr)) (x : Str) (N : List Str) (js : List Nat) : Prop where
  clos : closureFor scope X.env = pure cl
  nocell : ∀ y ∈ scope.names, y.2 ≠ .cell
  kind : scope.kind = .function
  names : ∀ y ∈ scope.names, y.2 = .local → scope.names.lookup y.1 = some .local
  hx : scope.names.lookup x = some .local
  nd : N.Nodup
  h0 : N[0]? = some x
  len : N.length = js.length + 1
  clx : cl.lookup x = none
  cls : ∀ y c, cl.lookup y = some c → X.env.cells.lookup y = some c
  has : ∀ y, ((relabel scope X.env).names.lookup y = some .cell ∨ (relabel scope X.env).names.lookup y = some .free) → ∃ c, cl.lookup y = some c
  fr : ∀ i y j, N[i + 1]? = some y → js[i]? = some j → X.N[j]? = some y ∧ X.env.scope.names.lookup y = some .cell ∧ (relabel scope X.env).names.lookup y = some .cell ∧ ∀ c, X.env.cells.lookup y = some c → cl.lookup y = some c
abbrev cxComp (X : Cx) (scope : Scope) (cl : List (Str × Addr)) (x : Str) (N : List Str) (C : Addr) (s₂ : Shared) (H₂ : Hp) (fp : List Addr) (pn : List (Addr × Obj)) : Cx :=
  { X with env := compEnvC scope cl C X.env, N := N, s₀ := s₂, H₀ := H₂, outer := X.stack, stack := X.stack, ex := fp, fn := fun y => y == x, calm := true, pn := pn, xe := fun _ _ => False }
section
variable {X : Cx} {pins : List (Addr × Obj)} {σ : L2.St} {H₂ : Hp} {s₂ : Shared} {scope : Scope} {cl : List (Str × Addr)} {x : Str} {N : List Str} {js : List Nat} {C : Addr} {fp : List Addr}
theorem compOk_cx (I : L2.Inv X pins σ H₂ s₂) (hcm : X.calm = true) (O : CompOk X scope cl x N js) (hC : s₂.heap.objs.size ≤ C) (hf : ∀ b ∈ fp, FpOk X pins H₂ b) (ho : ∀ b ∈ fp, ∃ o, s₂.heap.get? b = some o) : (cxComp X scope cl x N C s₂ H₂ fp (X.pn ++ pins)).Ok where
  mod := I.ok.mod
  kind := O.kind
  glob := I.ok.glob
  blt := I.ok.blt
  above := hC
  inj := fun y z c h1 h2 => I.ok.inj y z c (O.cls y c h1) (O.cls z c h2)
  has := fun y h => O.has y h
  cab := fun y c h1 h2 => by
    have e : y = x := by simpa using h1
    subst e
    have : cl.lookup y = some c := h2
    rw [O.clx] at this
    cases this
  hd := fun _ => I.ok.hd hcm
  frames := I.ok.frames
  stk := .inl rfl
  exf := fun b hb => by
    obtain ⟨o, e⟩ := ho b hb
    refine ⟨Nat.ne_of_lt (Nat.lt_of_lt_of_le (Heap.lt_size e) hC), fun y c h z => ?_⟩
    exact (hf b hb).2.2.2.2.1 y c (O.cls y c h) z
  bs := I.bs
  bsz := Nat.le_trans I.ok.bsz I.sz
  noex := fun b o e hb => by
    rcases (hf b hb).2.2.2.1 with z | z
    · exact I.ok.noex b o e z
    · exact absurd (Nat.lt_of_lt_of_le (Heap.lt_size e) (Nat.le_trans I.ok.bsz z)) (Nat.lt_irrefl _)
  exfs := fun b hb z => by
    rcases List.mem_cons.mp (I.stkSub b z) with e | e
    · exact (hf b hb).2.1 e
    · exact (hf b hb).2.2.1 e
  funs := I.stack
  frf := I.stkFree
end
theorem mapO_get {g : D → Option D} : ∀ {ds xs : List D}, mapO g ds = some xs → xs.length = ds.length ∧ ∀ (i : Nat) d, ds[i]? = some d → ∃ e, g d = some e ∧ xs[i]? = some e
  | [], xs, h => by
    cases h
    exact ⟨rfl, fun i d e => by simp at e⟩
  | d :: ds, xs, h => by
    obtain ⟨x, ex, h⟩ := Option.bind_eq_some_iff.mp (show ((g d).bind _) = some xs from h)
    obtain ⟨ys, ey, h⟩ := Option.bind_eq_some_iff.mp h
    cases h
    obtain ⟨h1, h2⟩ := mapO_get ey
    refine ⟨by simp [h1], fun i e he => ?_⟩
    cases i with
    | zero => simp at he; subst he; exact ⟨x, ex, rfl⟩
    | succ i =>
      obtain ⟨z, hz1, hz2⟩ := h2 i e (by simpa using he)
      exact ⟨z, hz1, by simpa using hz2⟩
def slotsV (js : List Nat) (σ : L2.St) : L2.St := js.map fun j => match σ[j]? with
  | some o => o
  | none => none
theorem slots_rep {K : PySem.W.Frag} {H : Hp} {σ : L2.St} {δ : DS} (R : RepS K H σ δ) (js : List Nat) : RepS K H (none :: slotsV js σ) (none :: slotsOf js δ) := by
  refine ⟨by simp [slotsV, slotsOf], fun i d q => ?_⟩
  cases i with
  | zero => simp at q
  | succ i =>
    have q' : (slotsOf js δ)[i]? = some (some d) := by simpa using q
    unfold slotsOf at q'
    rw [List.getElem?_map] at q'
    obtain ⟨j, h1, h2⟩ := Option.map_eq_some_iff.mp q'
    cases h3 : δ[j]? with
    | none => rw [h3] at h2; cases h2
    | some o =>
      rw [h3] at h2
      have h2' : o = some d := h2
      subst h2'
      obtain ⟨v, h4, h5⟩ := R.val j d h3
      refine ⟨v, ?_, h5⟩
      show (slotsV js σ)[i]? = some (some v)
      unfold slotsV
      rw [List.getElem?_map, h1]
      show some (match σ[j]? with | some o => o | none => none) = some (some v)
      rw [h4]
theorem bindF {α β:Type} {M:Model} {A:Around} {m:Sem α} {f:α->Sem β} {Q:α->Shared->Prop} {R:β->Shared->Prop} {E:Value->Shared->Prop} {s:Shared} (h:wpAny M A m Q (fun _ _=>False) s) (k:∀ a s',Q a s'->wpAny M A (f a) R E s'):wpAny M A (m>>=f) R E s:=wpAny_bind (wpAny_mono h k fun _ _=>False.elim)
theorem compLoop_own {prog : Program} {w : World} {A : Around} {R : Result → Shared → Prop} {s : Shared} {elt target iter : Expr} {scope : Scope} {pos : Pos} {it acc : Value} {env : Env} (J : Nat → Shared → Prop)
    (turn : ∀ n s, J n s → wpAny (model prog w) A (pyNext it) (fun r s₁ => match r with
      | none => R (.ok .next) s₁
      | some v => wpAny (model prog w) A (letOwnedTupleGo target it v) (fun _ s₂ => wpAny (model prog w) A (assign target env v) (fun _ s₃ => wpAny (model prog w) A (eval elt env) (fun y s₄ =>
          wpAny (model prog w) A (call (.builtin "list.append") [acc, y]) (fun _ s₅ => ∃ m, m < n ∧ J m s₅) (fun _ _ => False) s₄) (fun _ _ => False) s₃) (fun _ _ => False) s₂) (fun _ _ => False) s₁) (fun _ _ => False) s)
    (n : Nat) (h : J n s) : codeAny (model prog w) A (.compLoop (.ListComp elt [⟨target, iter, [], 0⟩] scope pos) 0 it acc env) R s := by
 refine codeAny_loop rfl J (fun n s j=>wpAny_noted (m:=compTurn (.ListComp elt [⟨target,iter,[],0⟩] scope pos) 0 it acc env) (compTurn_list1 elt target iter scope pos it acc env▸wpAny_bind (wpAny_standAt (bindF (turn n s j) fun r _ q=>?_)))) n h
 cases r with
 | none=>exact wpAny_pure q
 | some v=>
  exact bindF q fun _ _ q=>bindF q fun _ _ q=>wpAny_bind (bindF q fun _ _ q=>bindF q fun _ _ q=>wpAny_pure (wpAny_pure ⟨rfl,q⟩))
section
variable {X : Cx} {pins : List (Addr × Obj)} {σ : L2.St} {H₂ : Hp} {s₂ : Shared} {scope : Scope} {cl : List (Str × Addr)} {x : Str} {N : List Str} {js : List Nat} {C : Addr} {fp : List Addr}
theorem notIn_stack (I : L2.Inv X pins σ H₂ s₂) {a : Addr} (h : s₂.heap.objs.size ≤ a) : a ∉ frs X.stack := fun z => by
  rcases List.mem_cons.mp (I.stkSub a z) with e | e
  · exact absurd (Nat.lt_of_lt_of_le I.lt (by rw [← e]; exact h)) (Nat.lt_irrefl _)
  · exact I.nofs h e
theorem comp_start {h₁ : Heap} {m : Str → Option Value} {tk : Nat} (I : L2.Inv X pins σ H₂ s₂) (hcm : X.calm = true) (O : CompOk X scope cl x N js) (hC : s₂.heap.objs.size ≤ C) (hf : ∀ b ∈ fp, FpOk X pins H₂ b) (ho : ∀ b ∈ fp, ∃ o, s₂.heap.get? b = some o)
    (old : ∀ b o, s₂.heap.get? b = some o → h₁.get? b = some o) (hns : h₁.Ns C m) (hl : σ.length = X.N.length) : L2.Inv (cxComp X scope cl x N C s₂ H₂ fp (X.pn ++ pins)) [] (none :: slotsV js σ) H₂ { s₂ with heap := h₁, toks := tk } where
  ok := compOk_cx I hcm O hC hf ho
  os := rfl
  bare := I.bare
  base := Un.kept old
  loc := by
    refine ⟨m, hns, fun i y v h1 h2 h3 => ?_⟩
    cases i with
    | zero => simp at h2
    | succ i =>
      have h2' : (slotsV js σ)[i]? = some (some v) := by simpa using h2
      unfold slotsV at h2'
      rw [List.getElem?_map] at h2'
      obtain ⟨j, hj, h4⟩ := Option.map_eq_some_iff.mp h2'
      have h5 : σ[j]? = some (some v) := by
        cases q : σ[j]? with
        | none => rw [q] at h4; cases h4
        | some o => rw [q] at h4; exact congrArg some h4
      obtain ⟨f1, f2, f3, f4⟩ := O.fr i y j h1 hj
      obtain ⟨m', hn', hl'⟩ := I.loc
      obtain ⟨u, ru, lk⟩ := hl' j y v f1 h5 (.inr (.inl f2))
      refine ⟨u, ru, ?_⟩
      rcases lk with ⟨k1, _⟩ | ⟨_, c, hc, o, hco, hcd⟩
      · have : X.env.scope.names.lookup y = some .local := k1
        rw [f2] at this
        cases this
      · exact .inr ⟨.inl f3, c, f4 c hc, o, old c o hco, hcd⟩
  cell := fun y c e => by
    obtain ⟨v, o, h1, h2⟩ := I.cell y c (O.cls y c e)
    exact ⟨v, o, old c o h1, h2⟩
  free := I.hok.fresh hC
  freeC := fun y c e => I.freeC y c (O.cls y c e)
  pin := fun p hp => by
    have hp' : p ∈ X.pn ++ pins := by simpa using hp
    obtain ⟨h1, h2, h3, h4, h5⟩ := I.pin p hp'
    refine ⟨old _ _ h1, h2, Nat.ne_of_lt (Nat.lt_of_lt_of_le (Heap.lt_size h1) hC), fun z => ?_, h5⟩
    rcases List.mem_cons.mp (I.stkSub p.1 z) with e | e
    · exact h3 e
    · exact h4 e
  hok := I.hok.kept old
  len := by
    show (none :: slotsV js σ).length = N.length
    rw [O.len]
    simp [slotsV]
theorem comp_block {elt iter : Expr} {px pos : Pos} {it : Addr} {tn : Nat → Heap → Prop} {J : It} {ds xs : List D} {δ : DS} {felt : FD} {RR : Value → Addr → Result → Shared → Prop} {E : Value → Shared → Prop} (I : L2.Inv X pins σ H₂ s₂) (hcm : X.calm = true) (O : CompOk X scope cl x N js)
    (T : Turn X.prog X.w X.K (.Name x px) J fp it tn) (st : tn 0 s₂.heap) (hf : ∀ b ∈ fp, FpOk X pins H₂ b) (itd : ItD X.K J H₂ ds) (R : RepS X.K H₂ σ δ) (he : ∀ C s₂ H₂ fp pn, PD (cxComp X scope cl x N C s₂ H₂ fp pn) elt felt)
    (hm : mapO (fun d => felt (some d :: slotsOf js δ)) ds = some xs) (hz : xs.length ≤ 1000)
    (hRR : ∀ (D C : Addr) (s' : Shared) (Hend : Hp) (vs : List V), s₂.heap.objs.size ≤ C → L2.Inv X pins σ Hend s' → Same H₂ Hend → Hend D = some (.lst vs) → Reps X.K Hend vs xs → (∃ m, s'.heap.Ns C m) → Hend C = none → RR (.ref D) C (.ok .next) s') :
    wpAny (model X.prog X.w) X.A (newList []) (fun acc s₃ => wpAny (model X.prog X.w) X.A (newFunctionEnv scope X.env.globals cl [] X.env.qual none .none (some X.env)) (fun cenv s₄ =>
      codeAny (model X.prog X.w) X.A (.compStart (.ListComp elt [⟨.Name x px, iter, [], 0⟩] scope pos) 0 (.ref it) acc { cenv with scope := relabel scope X.env }) (RR acc cenv.locals) s₄) E s₃) E s₂ := by
  obtain ⟨ml, mg'⟩ := mapO_get hm
  have objs := T.obj 0 s₂.heap st
  have objs' : ∀ b ∈ fp, ∃ o, s₂.heap.get? b = some o := fun b hb => let ⟨o, h, _⟩ := objs b hb; ⟨o, h⟩
  refine wpAny_newObj_type (wpAny_newFunctionEnv O.nocell (by intro y hy; simp at hy) (fun h₁ hns₁ hsb₁ => ?_) O.kind)
  dsimp only at hns₁ hsb₁ ⊢
  generalize hP : s₂.heap.push { cls := .type "list", dict := none, data := .seq ([] : List Value).toArray } = P2 at hns₁ hsb₁ ⊢
  have hC : P2.objs.size = s₂.heap.objs.size + 1 := by rw [← hP, Heap.size_push]
  generalize hCC : P2.objs.size = C at *
  have hCle : s₂.heap.objs.size ≤ C := by omega
  have hDle : s₂.heap.objs.size ≤ s₂.heap.objs.size := by omega
  have hDC : s₂.heap.objs.size ≠ C := by omega
  have old : ∀ b o, s₂.heap.get? b = some o → h₁.get? b = some o := fun b o e => by
    refine hsb₁.extBut b o (Nat.ne_of_lt (Nat.lt_of_lt_of_le (Heap.lt_size e) hCle)) (Heap.get?_push_of_some _ ?_)
    rw [← hP]
    exact Heap.get?_push_of_some _ e
  have hacc : h₁.get? s₂.heap.objs.size = some { cls := .type "list", data := .seq ([] : List Value).toArray } := by
    refine hsb₁.extBut s₂.heap.objs.size _ hDC (Heap.get?_push_of_some _ ?_)
    rw [← hP]
    exact Heap.get?_push_size _ rfl
  have I0 := fun tk => comp_start (C := C) (tk := tk) I hcm O hCle hf objs' old hns₁ I.len
  have dstk : s₂.heap.objs.size ∉ frs X.stack := notIn_stack I hDle
  have fne : ∀ b ∈ fp, b ≠ s₂.heap.objs.size := fun b hb e => by
    obtain ⟨o, h⟩ := objs' b hb
    exact absurd (Heap.lt_size h) (by rw [e]; exact Nat.lt_irrefl _)
  have cne : ∀ y c, cl.lookup y = some c → c ≠ s₂.heap.objs.size := fun y c e z => by
    obtain ⟨v, o, h1, _⟩ := I.cell y c (O.cls y c e)
    exact absurd (Heap.lt_size h1) (by rw [z]; exact Nat.lt_irrefl _)
  have pne : ∀ p ∈ X.pn ++ pins, p.1 ≠ s₂.heap.objs.size := fun p hp e => by
    exact absurd (Heap.lt_size (I.pin p hp).1) (by rw [e]; exact Nat.lt_irrefl _)
  have stat : ∀ {H' : Hp} {pl : List (Addr × Obj)}, (∀ b ∈ fp, H' b = none) → (∀ p ∈ pl, ∀ b ∈ fp, p.1 ≠ b) → ∀ b ∈ fp, FpOk (cxComp X scope cl x N C s₂ H₂ fp (X.pn ++ pins)) pl H' b := fun {H' pl} hn hpl b hb => by
    obtain ⟨o, h⟩ := objs' b hb
    refine ⟨hn b hb, Nat.ne_of_lt (Nat.lt_of_lt_of_le (Heap.lt_size h) hCle), fun z => ?_, .inl hb, fun y c e => (hf b hb).2.2.2.2.1 y c (O.cls y c e), fun p hp => ?_⟩
    · rcases List.mem_cons.mp (I.stkSub b z) with e | e
      · exact (hf b hb).2.1 e
      · exact (hf b hb).2.2.1 e
    · rcases List.mem_append.mp hp with q | q
      · exact (hf b hb).2.2.2.2.2 p q
      · exact hpl p q b hb
  have loop : ∀ s₃ : Shared, s₃ = { s₂ with heap := h₁, toks := s₂.toks + ([] : List (Str × Value)).length } →
      codeAny (model X.prog X.w) X.A (.compLoop (.ListComp elt [⟨.Name x px, iter, [], 0⟩] scope pos) 0 (.ref it) (.ref s₂.heap.objs.size) (compEnvC scope cl C X.env)) (RR (.ref s₂.heap.objs.size) C) s₃ := by
    rintro s₃ rfl
    refine compLoop_own (fun n s => ∃ (i : Nat) (σ' : L2.St) (H' : Hp) (vs : List V) (o : Option D), n = ds.length - i ∧ i ≤ ds.length ∧ L2.Inv (cxComp X scope cl x N C s₂ H₂ fp (X.pn ++ pins)) [] σ' H' s ∧ Same H₂ H' ∧ RepS X.K H' σ' (o :: slotsOf js δ) ∧ tn i s.heap ∧ (∀ b ∈ fp, H' b = none) ∧
      (∃ (its : List Value) (k : Nat), Vals vs its ∧ s.heap.get? s₂.heap.objs.size = some { cls := .type "list", data := .seq its.toArray k }) ∧ H' s₂.heap.objs.size = none ∧ Reps X.K H' vs (xs.take i) ∧ vs.length = i) ?_ ds.length
      ⟨0, _, H₂, [], none, rfl, Nat.zero_le _, I0 _, Same.refl _, slots_rep R js, T.keep 0 _ _ st (fun b hb o e => old b o e), fun b hb => (hf b hb).1, ⟨[], 0, .nil, hacc⟩, I.hok.fresh hDle, .nil, rfl⟩
    rintro n s ⟨i, σ', H', vs, o, rfl, hi, I', sm, R', st', fr', ⟨its, k, rv, hD⟩, fD, rr, hl⟩
    by_cases hlt : i < ds.length
    · -- one more
      obtain ⟨go, yl⟩ := (itd i H' sm).1 hlt
      have hd0 : ds[i]? = some ds[i] := by simp [hlt]
      obtain ⟨e, ge, xe⟩ := mg' i _ hd0
      have I1 : L2.Inv (cxComp X scope cl x N C s₂ H₂ fp (X.pn ++ pins)) [(s₂.heap.objs.size, { cls := .type "list", data := .seq its.toArray k })] σ' H' s := I'.pins_of fun p hp => by
        have : p = (s₂.heap.objs.size, { cls := .type "list", data := .seq its.toArray k }) := by simpa using hp
        subst this
        exact ⟨hD, fD, hDC, dstk, fun v z => by cases z⟩
      refine thn (T.item (cxComp X scope cl x N C s₂ H₂ fp (X.pn ++ pins)) rfl rfl rfl rfl i _ s σ' H' (fun _ _ => False) I1 (stat fr' fun p hp b hb => by
        have : p = (s₂.heap.objs.size, { cls := .type "list", data := .seq its.toArray k }) := by simpa using hp
        subst this
        exact (fne b hb).symm) st' go) fun r s1 ⟨u, hr, h4⟩ => ?_
      subst hr
      refine thn h4 fun _ s2 ⟨y, H'', I2, ru, yy, st2, fr2⟩ => ?_
      obtain ⟨s3, d, hd, rd⟩ := yl y H'' yy
      have hd' : d = ds[i] := by rw [hd0] at hd; exact (Option.some.inj hd).symm
      subst hd'
      have I3 := I2.pinned (stat fr2 fun p hp b hb => by
        have : p = (s₂.heap.objs.size, { cls := .type "list", data := .seq its.toArray k }) := by simpa using hp
        subst this
        exact (fne b hb).symm) (T.obj _ _ st2)
      refine thn (pg_name (X := cxComp X scope cl x N C s₂ H₂ fp (X.pn ++ pins)) (i := 0) O.nd O.h0 (.inl (lookup_relabel_local O.hx)) (.inl (by simp)) _ s2 σ' H'' y u (fun σ4 H4 => σ4 = σ'.set 0 (some y) ∧ H4 = H'') I3 ru ⟨rfl, rfl⟩) fun _ s4 ⟨σ4, H4, I4, e1, e2⟩ => ?_
      subst e1 e2
      have R4 : RepS X.K H4 (σ'.set 0 (some y)) (some ds[i] :: slotsOf js δ) := (R'.mono s3).set 0 rd
      refine thn (he C s₂ H₂ fp (X.pn ++ pins) _ s4 (σ'.set 0 (some y)) H4 (fun v H5 => Same H4 H5 ∧ Rep X.K H5 v e) I4 ⟨_, e, R4, ge, fun v H5 s5 r5 => ⟨s5, r5⟩⟩) fun wv s5 ⟨v, H5, I5, rw5, s45, r5⟩ => ?_
      have hD5 : s5.heap.get? s₂.heap.objs.size = some { cls := .type "list", data := .seq its.toArray k } := (I5.pin (s₂.heap.objs.size, { cls := .type "list", data := .seq its.toArray k }) (by simp)).1
      have fD5 : H5 s₂.heap.objs.size = none := (I5.pin (s₂.heap.objs.size, { cls := .type "list", data := .seq its.toArray k }) (by simp)).2.1
      have pf : ∀ b ∈ fp, ∀ ob, s2.heap.get? b = some ob → s5.heap.get? b = some ob ∧ H5 b = none := fun b hb ob hob => by
        have := I5.pin (b, ob) (List.mem_append_right _ (List.mem_append_right _ (mem_pinsAt hb hob)))
        exact ⟨this.1, this.2.1⟩
      have lz : its.length ≤ 1000 := by
        have := rv.length
        omega
      refine call_meets F.slot_list_append ⟨_, hD5, rfl⟩ F.entry_list_append (F.args_list_append_2 _ _) (PySem.list_append s₂.heap.objs.size its.toArray k wv (by rw [List.size_toArray]; exact le_line lz)) ⟨hD5, ?_⟩
      have q := PySem.IsL.update hD5 (fun a => a.push wv)
      have I6 : L2.Inv (cxComp X scope cl x N C s₂ H₂ fp (X.pn ++ pins)) [] (σ'.set 0 (some y)) H5 { s5 with heap := s5.heap.update s₂.heap.objs.size (Obj.mapSeq fun a => a.push wv), toks := s5.toks } :=
        (I5.pins_of (pins' := []) fun p hp => by simp at hp).turned (it := s₂.heap.objs.size) (t' := s5.toks) (fun b ob hb hu => (Heap.get?_update_other s5.heap _ (Ne.symm hb)).trans hu) fD5 hDC (.inr hDle) cne (fun p hp => by
          rcases List.mem_append.mp hp with z | z
          · exact pne p z
          · simp at z)
      refine ⟨ds.length - (i + 1), by omega, i + 1, σ'.set 0 (some y), H5, vs ++ [v], some ds[i], rfl, hlt, I6, (sm.trans s3).trans s45, R4.mono s45, ?_, ?_, ?_, fD5, ?_, by simp [hl]⟩
      · refine T.keep _ _ _ st2 fun b hb ob hob => ?_
        exact (Heap.get?_update_other s5.heap _ (Ne.symm (fne b hb))).trans (pf b hb ob hob).1
      · intro b hb
        obtain ⟨ob, hob, _⟩ := T.obj _ _ st2 b hb
        exact (pf b hb ob hob).2
      · have hf7 : its.toArray.push wv = (its ++ [wv]).toArray := by simp
        rw [hf7] at q
        exact ⟨its ++ [wv], _, rv.append (.cons rw5 .nil), q⟩
      · have e8 : xs.take (i + 1) = xs.take i ++ [e] := by
          rw [List.take_add_one, xe]; rfl
        rw [e8]
        exact ((rr.mono s3).mono s45).append (.cons r5 .nil)
    · -- the end
      have hie : i = ds.length := by omega
      refine thn (T.done (cxComp X scope cl x N C s₂ H₂ fp (X.pn ++ pins)) rfl rfl rfl rfl i [(s₂.heap.objs.size, { cls := .type "list", data := .seq its.toArray k })] s σ' H' (fun _ _ => False) (I'.pins_of fun p hp => by
        have : p = (s₂.heap.objs.size, { cls := .type "list", data := .seq its.toArray k }) := by simpa using hp
        subst this
        exact ⟨hD, fD, hDC, dstk, fun v z => by cases z⟩) (stat fr' fun p hp b hb => by
        have : p = (s₂.heap.objs.size, { cls := .type "list", data := .seq its.toArray k }) := by simpa using hp
        subst this
        exact (fne b hb).symm) st' ((itd i H' sm).2 (by omega))) fun r s1 ⟨hr, I8⟩ => ?_
      subst hr
      have hD8 : s1.heap.get? s₂.heap.objs.size = some { cls := .type "list", data := .seq its.toArray k } := (I8.pin (s₂.heap.objs.size, { cls := .type "list", data := .seq its.toArray k }) (by simp)).1
      have hxs : xs.take i = xs := List.take_of_length_le (by omega)
      rw [hxs] at rr
      have sn := same_new fD (.lst vs)
      have dn : ∀ b, ∀ u, H' b = some u → b ≠ s₂.heap.objs.size := fun b u z => ne_of_none z fD
      have un : Un (frs X.stack) fp H₂ (upd H' s₂.heap.objs.size (.lst vs)) s₂.heap s1.heap := by
        have b0 := I8.base
        refine ⟨fun b ob e n1 n2 n3 => b0.keep b ob e n1 n2 n3, fun b ob e n1 n2 n3 => b0.slot b ob e n1 n2 n3, fun b ob e n1 n3 => ?_, fun b ob e n3 => b0.there b ob e n3, fun b zs e => ?_, fun b ob u e => ?_, fun b ps e => ?_⟩
        · rw [upd_ne (Nat.ne_of_lt (Heap.lt_size e))]
          exact b0.free b ob e n1 n3
        · have z := b0.tups b zs e
          rw [upd_ne (dn _ _ z)]
          exact z
        · have z := b0.frzs b ob u e
          rw [upd_ne (dn _ _ z)]
          exact z
        · obtain ⟨more, z⟩ := b0.tbls b ps e
          exact ⟨more, by rw [upd_ne (dn _ _ z)]; exact z⟩
      have hok : HOk X.prog X.w (upd H' s₂.heap.objs.size (.lst vs)) s1.heap := fun b u z => by
        by_cases hb : b = s₂.heap.objs.size
        · rw [hb] at z ⊢
          rw [upd_same] at z
          cases z
          exact ⟨le_line (by omega), its, k, rv, hD8⟩
        · rw [upd_ne hb] at z
          exact (I8.hok b u z).stay (fun _ _ _ q => q) (fun c q => by rw [upd_ne (dn _ _ q)]; exact q) fun c ys q => by rw [upd_ne (dn _ _ q)]; exact q
      have IX : L2.Inv X pins σ (upd H' s₂.heap.objs.size (.lst vs)) s1 := I.call' I8.os un hok I8.bare fun b hb => ⟨(hf b hb).2.2.2.1, (hf b hb).2.1, (hf b hb).2.2.2.2.1, (hf b hb).2.2.2.2.2⟩
      obtain ⟨m8, hn8, _⟩ := I8.loc
      refine hRR s₂.heap.objs.size C s1 _ vs hCle IX (sm.trans sn) upd_same (rr.mono sn) ⟨m8, hn8⟩ ?_
      rw [upd_ne (Ne.symm hDC)]
      exact I8.free
  exact codeAny_compStart_list (loop _ rfl) (T.self X.A 0 _ _ _ (T.keep 0 _ _ st (fun b hb o e => old b o e)) (loop _ rfl))
theorem inv_letgo {C : Addr} {h' : Heap} {s' : Shared} {Hend : Hp} (I : L2.Inv X pins σ Hend s') (I0 : L2.Inv X pins σ H₂ s₂) (hC : s₂.heap.objs.size ≤ C) (fC : Hend C = none) (hs : Heap.SameBut C s'.heap h') : L2.Inv X pins σ Hend { s' with heap := h' } :=
  I.turned (it := C) (t' := s'.toks) (fun b o hb e => (hs.2 b hb).trans e) fC (Nat.ne_of_gt (Nat.lt_of_lt_of_le I0.lt hC)) (.inr (Nat.le_trans I0.sz hC))
    (fun y c e z => by
      obtain ⟨v, o, h1, _⟩ := I0.cell y c e
      exact absurd (Nat.lt_of_lt_of_le (Heap.lt_size h1) (by rw [z]; exact hC)) (Nat.lt_irrefl _))
    (fun p hp z => absurd (Nat.lt_of_lt_of_le (Heap.lt_size (I0.pin p hp).1) (by rw [z]; exact hC)) (Nat.lt_irrefl _))
theorem pd_comp {elt iter : Expr} {px pos : Pos} {src : FA} {felt : FD} (hi : PID X (.Name x px) iter src) {N : List Str} {js : List Nat} (he : ∀ C s₂ H₂ fp pn, PD (cxComp X scope cl x N C s₂ H₂ fp pn) elt felt) (O : CompOk X scope cl x N js) (hcm : X.calm = true := by rfl)
    (hs : ∀ v, foldedSetIterable iter X.env v = pure v := by intro _; rfl) : PD X (.ListComp elt [⟨.Name x px, iter, [], 0⟩] scope pos) (fComp src js felt) := by
  intro pins s σ H Q I ⟨δ, d, R, q, k⟩
  unfold fComp at q
  obtain ⟨ds, eds, q⟩ := Option.bind_eq_some_iff.mp q
  obtain ⟨xs, exs, q⟩ := Option.bind_eq_some_iff.mp q
  by_cases hz : xs.length ≤ 1000
  · rw [if_pos hz] at q
    cases q
    rw [eval_ListComp]
    refine wpAny_comprehension_free (use := none) rfl hs O.clos O.kind O.names ?_
    refine wpAny_mono (hi pins s σ H (fun J H1 => Same H H1 ∧ ItD X.K J H1 ds) I ⟨δ, ds, R, eds, fun J H1 s1 itd => ⟨s1, itd⟩⟩) (fun v s1 h1 => wpAny_mono h1 (fun itv s2 h2 => ?_) fun _ _ z => z) fun _ _ z => z
    obtain ⟨it, fp, tn, J, H2, rfl, I2, T, st, hf, s1, itd⟩ := h2
    refine comp_block (RR := fun acc C => compPost (model X.prog X.w) X.A X.xe none (EP X pins σ Q) acc C) I2 hcm O T st hf itd (R.mono s1) he exs hz ?_
    intro D C s' Hend vs hC IX sm hD rr ⟨m, hn⟩ fC
    exact ⟨m, hn, fun h' hs' => ⟨.ref D, Hend, inv_letgo IX I2 hC fC hs', rfl, k _ _ (s1.trans sm) (.lst hD rr)⟩⟩
  · rw [if_neg hz] at q; cases q
end
end Dl
namespace Dl
open PySem PySem.Spec PyProof.Rows L2
theorem CompOk.one {X : Cx} {scope : Scope} {c : Addr} {x z : Str} {j : Nat} (clos : closureFor scope X.env = pure [(z, c)] := by rfl) (nocell : ∀ y ∈ scope.names, y.2 ≠ .cell := by decide +kernel) (kind : scope.kind = .function := by rfl)
    (names : ∀ y ∈ scope.names, y.2 = .local → scope.names.lookup y.1 = some .local := by decide +kernel) (hx : scope.names.lookup x = some .local := by rfl) (hne : x ≠ z := by decide +kernel) (hcell : X.env.cells.lookup z = some c := by rfl)
    (hfr : ∀ p ∈ scope.names, p.2 = .free → p.1 = z := by decide +kernel) (hj : X.N[j]? = some z := by rfl) (hk : X.env.scope.names.lookup z = some .cell := by rfl) (hk' : (relabel scope X.env).names.lookup z = some .cell := by rfl) : CompOk X scope [(z, c)] x [x, z] [j] where
  clos := clos
  nocell := nocell
  kind := kind
  names := names
  hx := hx
  nd := by simp [hne]
  h0 := rfl
  len := rfl
  clx := by
    show List.lookup x [(z, c)] = none
    have q : (x == z) = false := beq_eq_false_iff_ne.mpr hne
    rw [List.lookup_cons, q]
    rfl
  cls := fun y a h => by
    have h' : List.lookup y [(z, c)] = some a := h
    by_cases hy : y = z
    · subst hy
      simp at h'
      subst h'
      exact hcell
    · have q : (y == z) = false := beq_eq_false_iff_ne.mpr hy
      rw [List.lookup_cons, q] at h'
      cases h'
  has := fun y h => by
    have key : ∀ k, (k = NameKind.cell ∨ k = NameKind.free) → (relabel scope X.env).names.lookup y = some k → y = z := fun k hk h => by
      have m := PySem.mem_of_lookup h
      unfold relabel at m
      obtain ⟨⟨n, k'⟩, m1, m2⟩ := List.mem_map.mp m
      dsimp only at m2
      have hk1 : k' = NameKind.free := by
        split at m2
        · rename_i hc
          rw [Bool.and_eq_true, Bool.and_eq_true] at hc
          exact beq_iff_eq.mp hc.1.1
        · have e : k' = k := congrArg Prod.snd m2
          rcases hk with z1 | z1
          · exact absurd (e.trans z1) (nocell _ m1)
          · exact e.trans z1
      have hn : n = y := by split at m2 <;> exact congrArg Prod.fst m2
      rw [← hn]
      exact hfr _ m1 hk1
    have e : y = z := by
      rcases h with h | h
      · exact key _ (.inl rfl) h
      · exact key _ (.inr rfl) h
    subst e
    exact ⟨c, by simp⟩
  fr := fun i y k h1 h2 => by
    cases i with
    | zero =>
      have e1 : z = y := Option.some.inj h1
      have e2 : j = k := Option.some.inj h2
      subst e1 e2
      refine ⟨hj, hk, hk', fun a ha => ?_⟩
      rw [hcell] at ha
      cases ha
      simp
    | succ i => cases h2
end Dl
namespace Dl
open PySem PySem.Spec PyProof.Rows L2
end Dl
namespace Dl
open PySem PySem.Spec PyProof.Rows L2
section
variable {P : Program} {w : World} {K : PySem.W.Frag} {mg : Str → Option Value} {base : Heap}
end
section
variable {X : Cx} {a b : Expr} {fa fb : FD} {pos : Pos}
end
end Dl
namespace Dl
open PySem PySem.Spec PyProof.Rows L2
section
variable {X : Cx} {pins : List (Addr × Obj)} {σ : L2.St} {H H₀ H' : Hp} {s s' : Shared} {B : Heap} {x C t : Addr}
end
section
variable {X : Cx} {pins : List (Addr × Obj)} {σ : L2.St} {H : Hp} {s : Shared} {h' : Heap}
end
abbrev Cx.within (X : Cx) (x : Addr) : Cx := { X with A := X.A.mark (some (.ref x)), calm := false, xe := fun _ _ => False }
abbrev Cx.tried (X : Cx) (W : Value → Shared → Prop) (pn : List (Addr × Obj)) : Cx := { X with xe := W, pn := pn }
end Dl
namespace Dl
open PySem PySem.Spec PyProof.Rows L2
mutual
def imm : D → Bool
  | .tup ds => imms ds
  | .lst _ => false
  | .seq _ => false
  | _ => true
def imms : List D → Bool
  | [] => true
  | d :: ds => imm d && imms ds
end
mutual
def own : D → Bool
  | .tup ds => owns ds
  | .lst ds => owns ds
  | .seq _ => false
  | _ => true
def owns : List D → Bool
  | [] => true
  | d :: ds => own d && owns ds
end
mutual
def sh : D → D
  | .tup ds => .tup (shs ds)
  | .lst ds => .seq (shs ds)
  | .seq ds => .seq (shs ds)
  | d => d
def shs : List D → List D
  | [] => []
  | d :: ds => sh d :: shs ds
end
theorem shs_map : ∀ (ds : List D), shs ds = ds.map sh
  | [] => rfl
  | d :: ds => by rw [shs, shs_map ds]; rfl
mutual
theorem sh_imm : ∀ {d : D}, imm d = true → sh d = d
  | .non, _ => rfl
  | .bl _, _ => rfl
  | .int _, _ => rfl
  | .str _, _ => rfl
  | .ty _, _ => rfl
  | .dct, _ => rfl
  | .exc _, _ => rfl
  | .cls _, _ => rfl
  | .tup ds, h => by rw [sh, shs_imm (by rw [imm] at h; exact h)]
  | .lst _, h => by rw [imm] at h; cases h
  | .seq _, h => by rw [imm] at h; cases h
theorem shs_imm : ∀ {ds : List D}, imms ds = true → shs ds = ds
  | [], _ => rfl
  | d :: ds, h => by
    rw [imms, Bool.and_eq_true] at h
    rw [shs, sh_imm h.1, shs_imm h.2]
end
def KeepI (H H' : Hp) : Prop := ∀ a u, H a = some u → (∀ vs, u ≠ .lst vs) → H' a = some u
theorem same_keepI {H H' : Hp} (s : Same H H') : KeepI H H' := fun a u e _ => s a u e
theorem keep_upd {H : Hp} {a : Addr} {vs : List V} {o : HO} (h : H a = some (.lst vs)) : KeepI H (upd H a o) := fun b u e n => by
  by_cases hb : b = a
  · subst hb; rw [h] at e; cases e; exact absurd rfl (n vs)
  · rw [upd_ne hb]; exact e
theorem sqT_keep {K : PySem.W.Frag} {H H' : Hp} {a : Addr} {xs : List V} (k : KeepI H H') (h : SqT K H a xs) : SqT K H' a xs := by
  rcases h with (h | ⟨o, h⟩) | h
  · exact .inl (.inl (k _ _ h (fun _ z => nomatch z)))
  · exact .inl (.inr ⟨o, k _ _ h (fun _ z => nomatch z)⟩)
  · exact .inr h
mutual
theorem rep_keep {K : PySem.W.Frag} {H H' : Hp} (k : KeepI H H') : ∀ {v : V} {d : D}, Rep K H v d → imm d = true → Rep K H' v d
  | _, _, .non, _ => .non
  | _, _, .bl b, _ => .bl b
  | _, _, .int i, _ => .int i
  | _, _, .str x, _ => .str x
  | _, _, .ty n, _ => .ty n
  | _, _, .tup h r, i => .tup (sqT_keep k h) (reps_keep k r (by rw [imm] at i; exact i))
  | _, _, .lst h r, i => by rw [imm] at i; cases i
  | _, _, .seq h r, i => by rw [imm] at i; cases i
  | _, _, .dct h, _ => .dct (k _ _ h (fun _ z => nomatch z))
  | _, _, .exc h, _ => .exc (k _ _ h (fun _ z => nomatch z))
  | _, _, .cls C, _ => .cls C
theorem reps_keep {K : PySem.W.Frag} {H H' : Hp} (k : KeepI H H') : ∀ {vs : List V} {ds : List D}, Reps K H vs ds → imms ds = true → Reps K H' vs ds
  | _, _, .nil, _ => .nil
  | _, _, .cons r t, i => by
    rw [imms, Bool.and_eq_true] at i
    exact .cons (rep_keep k r i.1) (reps_keep k t i.2)
end
mutual
theorem rep_sh {K : PySem.W.Frag} {H : Hp} : ∀ {v : V} {d : D}, Rep K H v d → Rep K H v (sh d)
  | _, _, .non => .non
  | _, _, .bl b => .bl b
  | _, _, .int i => .int i
  | _, _, .str x => .str x
  | _, _, .ty n => .ty n
  | _, _, .tup h r => by rw [sh]; exact .tup h (reps_sh r)
  | _, _, .lst h r => by rw [sh]; exact .seq (SqL.of h) (reps_sh r)
  | _, _, .seq h r => by rw [sh]; exact .seq h (reps_sh r)
  | _, _, .dct h => .dct h
  | _, _, .exc h => .exc h
  | _, _, .cls C => .cls C
theorem reps_sh {K : PySem.W.Frag} {H : Hp} : ∀ {vs : List V} {ds : List D}, Reps K H vs ds → Reps K H vs (shs ds)
  | _, _, .nil => .nil
  | _, _, .cons r t => by rw [shs]; exact .cons (rep_sh r) (reps_sh t)
end
mutual
inductive RepO (K : PySem.W.Frag) (F H : Hp) : V → D → List Addr → Prop
  | imm {v : V} {d : D} (i : imm d = true) (h : Rep K H v d) : RepO K F H v d []
  | shr {v : V} {ds : List D} (h : Rep K F v (.seq ds)) : RepO K F H v (.seq ds) []
  | tup {a : Addr} {vs : List V} {ds : List D} {A : List Addr} (h : SqT K H a vs) (r : RepOs K F H vs ds A) : RepO K F H (.ref a) (.tup ds) A
  | lst {a : Addr} {vs : List V} {ds : List D} {A : List Addr} (h : H a = some (.lst vs)) (n : F a = none) (r : RepOs K F H vs ds A) : RepO K F H (.ref a) (.lst ds) (a :: A)
inductive RepOs (K : PySem.W.Frag) (F H : Hp) : List V → List D → List Addr → Prop
  | nil : RepOs K F H [] [] []
  | cons {v : V} {d : D} {vs : List V} {ds : List D} {A B C : List Addr} (r : RepO K F H v d A) (t : RepOs K F H vs ds B) (e : C = A ++ B) : RepOs K F H (v :: vs) (d :: ds) C
end
section
variable {K : PySem.W.Frag} {F H F' H' : Hp}
mutual
theorem RepO.rep (s : Same F H) : ∀ {v : V} {d : D} {A : List Addr}, RepO K F H v d A → Rep K H v d
  | _, _, _, .imm _ h => h
  | _, _, _, .shr h => h.mono s
  | _, _, _, .tup h r => .tup h (RepOs.reps s r)
  | _, _, _, .lst h _ r => .lst h (RepOs.reps s r)
theorem RepOs.reps (s : Same F H) : ∀ {vs : List V} {ds : List D} {A : List Addr}, RepOs K F H vs ds A → Reps K H vs ds
  | _, _, _, .nil => .nil
  | _, _, _, .cons r t _ => .cons (RepO.rep s r) (RepOs.reps s t)
end
mutual
theorem RepO.dom : ∀ {v : V} {d : D} {A : List Addr}, RepO K F H v d A → ∀ a ∈ A, (∃ vs, H a = some (.lst vs)) ∧ F a = none
  | _, _, _, .imm _ _, _, m => nomatch m
  | _, _, _, .shr _, _, m => nomatch m
  | _, _, _, .tup _ r, a, m => RepOs.dom r a m
  | _, _, _, .lst h n r, a, m => by
    rcases List.mem_cons.mp m with e | e
    · subst e; exact ⟨⟨_, h⟩, n⟩
    · exact RepOs.dom r a e
theorem RepOs.dom : ∀ {vs : List V} {ds : List D} {A : List Addr}, RepOs K F H vs ds A → ∀ a ∈ A, (∃ vs, H a = some (.lst vs)) ∧ F a = none
  | _, _, _, .nil, _, m => nomatch m
  | _, _, _, .cons r t e, a, m => by
    subst e
    rcases List.mem_append.mp m with z | z
    · exact RepO.dom r a z
    · exact RepOs.dom t a z
end
mutual
theorem RepO.frame (k : KeepI H H') : ∀ {v : V} {d : D} {A : List Addr}, RepO K F H v d A → (∀ a ∈ A, H' a = H a) → RepO K F H' v d A
  | _, _, _, .imm i h, _ => .imm i (rep_keep k h i)
  | _, _, _, .shr h, _ => .shr h
  | _, _, _, .tup h r, e => .tup (sqT_keep k h) (RepOs.frame k r e)
  | _, _, _, .lst h n r, e => .lst ((e _ List.mem_cons_self).trans h) n (RepOs.frame k r fun a m => e a (List.mem_cons_of_mem _ m))
theorem RepOs.frame (k : KeepI H H') : ∀ {vs : List V} {ds : List D} {A : List Addr}, RepOs K F H vs ds A → (∀ a ∈ A, H' a = H a) → RepOs K F H' vs ds A
  | _, _, _, .nil, _ => .nil
  | _, _, _, .cons r t e, q => by
    subst e
    exact .cons (RepO.frame k r fun a m => q a (List.mem_append_left _ m)) (RepOs.frame k t fun a m => q a (List.mem_append_right _ m)) rfl
end
mutual
theorem RepO.froz (s : Same F F') : ∀ {v : V} {d : D} {A : List Addr}, RepO K F H v d A → (∀ a ∈ A, F' a = none) → RepO K F' H v d A
  | _, _, _, .imm i h, _ => .imm i h
  | _, _, _, .shr h, _ => .shr (h.mono s)
  | _, _, _, .tup h r, e => .tup h (RepOs.froz s r e)
  | _, _, _, .lst h n r, e => .lst h (e _ List.mem_cons_self) (RepOs.froz s r fun a m => e a (List.mem_cons_of_mem _ m))
theorem RepOs.froz (s : Same F F') : ∀ {vs : List V} {ds : List D} {A : List Addr}, RepOs K F H vs ds A → (∀ a ∈ A, F' a = none) → RepOs K F' H vs ds A
  | _, _, _, .nil, _ => .nil
  | _, _, _, .cons r t e, q => by
    subst e
    exact .cons (RepO.froz s r fun a m => q a (List.mem_append_left _ m)) (RepOs.froz s t fun a m => q a (List.mem_append_right _ m)) rfl
end
mutual
theorem RepO.thaw (s : Same F' F) : ∀ {v : V} {d : D} {A : List Addr}, RepO K F H v d A → own d = true → RepO K F' H v d A
  | _, _, _, .imm i h, _ => .imm i h
  | _, _, _, .shr h, o => by rw [own] at o; cases o
  | _, _, _, .tup h r, o => .tup h (RepOs.thaw s r (by rw [own] at o; exact o))
  | _, _, _, .lst (a := a) h n r, o => .lst h (by
      cases q : F' a with
      | none => rfl
      | some u => rw [s a u q] at n; cases n) (RepOs.thaw s r (by rw [own] at o; exact o))
theorem RepOs.thaw (s : Same F' F) : ∀ {vs : List V} {ds : List D} {A : List Addr}, RepOs K F H vs ds A → owns ds = true → RepOs K F' H vs ds A
  | _, _, _, .nil, _ => .nil
  | _, _, _, .cons r t e, o => by
    rw [owns, Bool.and_eq_true] at o
    exact .cons (RepO.thaw s r o.1) (RepOs.thaw s t o.2) e
end
mutual
theorem RepO.none_of : ∀ {v : V} {d : D} {A : List Addr}, RepO K F H v d A → imm d = true → A = []
  | _, _, _, .imm _ _, _ => rfl
  | _, _, _, .shr _, _ => rfl
  | _, _, _, .tup _ r, i => RepOs.none_of r (by rw [imm] at i; exact i)
  | _, _, _, .lst _ _ _, i => by rw [imm] at i; cases i
theorem RepOs.none_of : ∀ {vs : List V} {ds : List D} {A : List Addr}, RepOs K F H vs ds A → imms ds = true → A = []
  | _, _, _, .nil, _ => rfl
  | _, _, _, .cons r t e, i => by
    rw [imms, Bool.and_eq_true] at i
    rw [e, RepO.none_of r i.1, RepOs.none_of t i.2]
    rfl
end
theorem RepO.seq_nil {v : V} {ds : List D} : ∀ {d : D} {A : List Addr}, RepO K F H v d A → d = .seq ds → A = []
  | _, _, .imm i _, e => rfl
  | _, _, .shr _, _ => rfl
  | _, _, .tup _ _, e => nomatch e
  | _, _, .lst _ _ _, e => nomatch e
noncomputable def frz (F H : Hp) (A : List Addr) : Hp := fun a => match H a with
  | some (.lst vs) => if (F a).isSome = true ∨ a ∈ A then some (.lst vs) else none
  | o => o
mutual
theorem RepO.of_sh (s : Same F H) : ∀ {v : V} {d : D}, Rep K F v d → RepO K F H v (sh d) []
  | _, _, .non => .imm rfl .non
  | _, _, .bl b => .imm rfl (.bl b)
  | _, _, .int i => .imm rfl (.int i)
  | _, _, .str x => .imm rfl (.str x)
  | _, _, .ty n => .imm rfl (.ty n)
  | _, _, .tup h r => by rw [sh]; exact .tup (sqT_same s h) (RepOs.of_sh s r)
  | _, _, .lst h r => by rw [sh]; exact .shr (.seq (SqL.of h) (reps_sh r))
  | _, _, .seq h r => by rw [sh]; exact .shr (.seq h (reps_sh r))
  | _, _, .dct h => .imm rfl (.dct (s _ _ h))
  | _, _, .exc h => .imm rfl (.exc (s _ _ h))
  | _, _, .cls C => .imm rfl (.cls C)
theorem RepOs.of_sh (s : Same F H) : ∀ {vs : List V} {ds : List D}, Reps K F vs ds → RepOs K F H vs (shs ds) []
  | _, _, .nil => .nil
  | _, _, .cons r t => by rw [shs]; exact .cons (RepO.of_sh s r) (RepOs.of_sh s t) rfl
end
theorem RepOs.length : ∀ {vs : List V} {ds : List D} {A : List Addr}, RepOs K F H vs ds A → vs.length = ds.length
  | _, _, _, .nil => rfl
  | _, _, _, .cons _ t _ => congrArg (· + 1) (RepOs.length t)
theorem RepOs.snoc : ∀ {vs : List V} {ds : List D} {A B : List Addr} {v : V} {d : D}, RepOs K F H vs ds A → RepO K F H v d B → RepOs K F H (vs ++ [v]) (ds ++ [d]) (A ++ B)
  | _, _, _, _, _, _, .nil, r => .cons r .nil (by simp)
  | _, _, _, _, _, _, .cons q t e, r => .cons q (RepOs.snoc t r) (by rw [e, List.append_assoc])
theorem RepOs.pick : ∀ {vs : List V} {ds : List D} {A : List Addr} {i : Nat} {d : D}, RepOs K F H vs ds A → ds[i]? = some d → ∃ v A1 B A2, vs[i]? = some v ∧ RepO K F H v d B ∧ A = A1 ++ (B ++ A2) ∧
    ∀ {H' : Hp} {v' : V} {d' : D} {B' : List Addr}, KeepI H H' → (∀ a, a ∈ A1 ∨ a ∈ A2 → H' a = H a) → RepO K F H' v' d' B' → RepOs K F H' (vs.set i v') (ds.set i d') (A1 ++ (B' ++ A2))
  | _, _, _, _, _, .nil, e => by simp at e
  | _, _, _, 0, _, .cons (A := A) (B := B) r t e, q => by
    simp at q
    subst q
    refine ⟨_, [], A, B, rfl, r, by simpa using e, fun k h r' => ?_⟩
    exact .cons r' (t.frame k fun a m => h a (.inr m)) (by simp)
  | _, _, _, i + 1, d, .cons (A := A0) (B := B0) r t e, q => by
    obtain ⟨v, A1, B, A2, h1, h2, h3, h4⟩ := RepOs.pick (i := i) (d := d) t (by simpa using q)
    refine ⟨v, A0 ++ A1, B, A2, by simpa using h1, h2, by rw [e, h3, List.append_assoc], fun k h r' => ?_⟩
    refine .cons (r.frame k fun a m => h a (.inl (List.mem_append_left _ m))) (h4 k (fun a m => h a ?_) r') (by rw [List.append_assoc])
    rcases m with m | m
    · exact .inl (List.mem_append_right _ m)
    · exact .inr m
end
end Dl
namespace Dl
open PySem PySem.Spec PyProof.Rows L2
structure RepA (K : PySem.W.Frag) (F H : Hp) (σ : L2.St) (δ : DS) (As : Nat → List Addr) : Prop where
  fz : Same F H
  len : σ.length = δ.length
  val : ∀ (i : Nat) (d : D), δ[i]? = some (some d) → ∃ v, σ[i]? = some (some v) ∧ RepO K F H v d (As i)
  non : ∀ (i : Nat), (∀ d, δ[i]? ≠ some (some d)) → As i = []
  nd : ∀ i, (As i).Nodup
  dj : ∀ i j a, i ≠ j → a ∈ As i → a ∉ As j
def RepM (K : PySem.W.Frag) (F H : Hp) (σ : L2.St) (δ : DS) : Prop := ∃ As, RepA K F H σ δ As
section
variable {K : PySem.W.Frag} {F H F' H' : Hp} {σ : L2.St} {δ : DS} {As : Nat → List Addr}
theorem RepA.toS (R : RepA K F H σ δ As) : RepS K H σ δ := ⟨R.len, fun i d q => let ⟨v, h1, h2⟩ := R.val i d q; ⟨v, h1, h2.rep R.fz⟩⟩
theorem RepA.dom (R : RepA K F H σ δ As) {i : Nat} {a : Addr} (m : a ∈ As i) : (∃ vs, H a = some (.lst vs)) ∧ F a = none := by
  by_cases h : ∃ d, δ[i]? = some (some d)
  · obtain ⟨d, h⟩ := h
    obtain ⟨v, _, h2⟩ := R.val i d h
    exact h2.dom a m
  · rw [R.non i fun d z => h ⟨d, z⟩] at m; cases m
theorem RepA.grow (R : RepA K F H σ δ As) (s : Same H H') : RepA K F H' σ δ As :=
  ⟨R.fz.trans s, R.len, fun i d q => by
    obtain ⟨v, h1, h2⟩ := R.val i d q
    refine ⟨v, h1, h2.frame (same_keepI s) fun a m => ?_⟩
    obtain ⟨⟨vs, e⟩, _⟩ := h2.dom a m
    rw [e]; exact s a _ e, R.non, R.nd, R.dj⟩
theorem RepA.froz (R : RepA K F H σ δ As) (s : Same F F') (s' : Same F' H) (n : ∀ i a, a ∈ As i → F' a = none) : RepA K F' H σ δ As :=
  ⟨s', R.len, fun i d q => let ⟨v, h1, h2⟩ := R.val i d q; ⟨v, h1, h2.froz s (n i)⟩, R.non, R.nd, R.dj⟩
def asSet (As : Nat → List Addr) (i : Nat) (A : List Addr) : Nat → List Addr := fun j => if j = i then A else As j
theorem asSet_same {i : Nat} {A : List Addr} : asSet As i A i = A := if_pos rfl
theorem asSet_ne {i j : Nat} {A : List Addr} (h : j ≠ i) : asSet As i A j = As j := if_neg h
theorem RepA.set {v : V} {d : D} {A : List Addr} (R : RepA K F H σ δ As) (i : Nat) (hi : i < δ.length) (r : RepO K F H v d A) (nd : A.Nodup) (dj : ∀ j a, j ≠ i → a ∈ As j → a ∉ A) : RepA K F H (σ.set i (some v)) (δ.set i (some d)) (asSet As i A) := by
  have hl := R.len
  refine ⟨R.fz, by rw [List.length_set, List.length_set]; exact hl, fun j e q => ?_, fun j h => ?_, fun j => ?_, fun j k a hjk m => ?_⟩
  · rw [List.getElem?_set] at q ⊢
    by_cases hj : i = j
    · subst hj
      rw [if_pos rfl, if_pos hi] at q
      rw [if_pos rfl, if_pos (by omega), asSet_same]
      have : d = e := by simpa using q
      subst this
      exact ⟨v, rfl, r⟩
    · rw [if_neg hj] at q ⊢
      rw [asSet_ne (Ne.symm hj)]
      exact R.val j e q
  · by_cases hj : j = i
    · subst hj
      exact absurd (by rw [List.getElem?_set, if_pos rfl, if_pos hi]) (h d)
    · rw [asSet_ne hj]
      refine R.non j fun e z => h e ?_
      rw [List.getElem?_set_ne (Ne.symm hj)]
      exact z
  · by_cases hj : j = i
    · subst hj; rw [asSet_same]; exact nd
    · rw [asSet_ne hj]; exact R.nd j
  · by_cases hj : j = i
    · subst hj
      rw [asSet_same] at m
      rw [asSet_ne (Ne.symm hjk)]
      exact fun z => dj k a (Ne.symm hjk) z m
    · rw [asSet_ne hj] at m
      by_cases hk : k = i
      · subst hk; rw [asSet_same]; exact dj j a hj m
      · rw [asSet_ne hk]; exact R.dj j k a hjk m
theorem RepA.drop (R : RepA K F H σ δ As) (i : Nat) : RepA K F H σ (δ.set i none) (asSet As i []) := by
  refine ⟨R.fz, by rw [List.length_set]; exact R.len, fun j e q => ?_, fun j h => ?_, fun j => ?_, fun j k a hjk m => ?_⟩
  · rw [List.getElem?_set] at q
    by_cases hj : i = j
    · subst hj; rw [if_pos rfl] at q; split at q <;> cases q
    · rw [if_neg hj] at q
      rw [asSet_ne (Ne.symm hj)]
      exact R.val j e q
  · by_cases hj : j = i
    · subst hj; rw [asSet_same]
    · rw [asSet_ne hj]
      refine R.non j fun e z => h e ?_
      rw [List.getElem?_set_ne (Ne.symm hj)]
      exact z
  · by_cases hj : j = i
    · subst hj; rw [asSet_same]; exact List.nodup_nil
    · rw [asSet_ne hj]; exact R.nd j
  · by_cases hj : j = i
    · subst hj; rw [asSet_same] at m; cases m
    · rw [asSet_ne hj] at m
      by_cases hk : k = i
      · subst hk; rw [asSet_same]; exact fun z => nomatch z
      · rw [asSet_ne hk]; exact R.dj j k a hjk m
theorem RepA.write {v : V} {d : D} {A : List Addr} {i : Nat} (R : RepA K F H σ δ As) (hi : i < δ.length) (hσ : σ[i]? = some (some v)) (k : KeepI H H') (fz : Same F H') (e : ∀ j a, j ≠ i → a ∈ As j → H' a = H a) (r : RepO K F H' v d A) (nd : A.Nodup) (dj : ∀ j a, j ≠ i → a ∈ As j → a ∉ A) :
    RepA K F H' σ (δ.set i (some d)) (asSet As i A) := by
  refine ⟨fz, by rw [List.length_set]; exact R.len, fun j e' q => ?_, fun j h => ?_, fun j => ?_, fun j k a hjk m => ?_⟩
  · rw [List.getElem?_set] at q
    by_cases hj : i = j
    · subst hj
      rw [if_pos rfl, if_pos hi] at q
      have : d = e' := by simpa using q
      subst this
      rw [asSet_same]
      exact ⟨v, hσ, r⟩
    · rw [if_neg hj] at q
      rw [asSet_ne (Ne.symm hj)]
      obtain ⟨w, h1, h2⟩ := R.val j e' q
      exact ⟨w, h1, h2.frame k (fun a m => e j a (Ne.symm hj) m)⟩
  · by_cases hj : j = i
    · subst hj
      exact absurd (by rw [List.getElem?_set, if_pos rfl, if_pos hi]) (h d)
    · rw [asSet_ne hj]
      refine R.non j fun e z => h e ?_
      rw [List.getElem?_set_ne (Ne.symm hj)]
      exact z
  · by_cases hj : j = i
    · subst hj; rw [asSet_same]; exact nd
    · rw [asSet_ne hj]; exact R.nd j
  · by_cases hj : j = i
    · subst hj
      rw [asSet_same] at m
      rw [asSet_ne (Ne.symm hjk)]
      exact fun z => dj k a (Ne.symm hjk) z m
    · rw [asSet_ne hj] at m
      by_cases hk : k = i
      · subst hk; rw [asSet_same]; exact dj j a hj m
      · rw [asSet_ne hk]; exact R.dj j k a hjk m
end
abbrev FM := DS → Option (D × DS)
abbrev FMA := DS → Option (List D × DS)
structure Ev (F H : Hp) (As : Nat → List Addr) (F' H' : Hp) (As' : Nat → List Addr) (A : List Addr) : Prop where
  fs : Same F F'
  hs : Same H H'
  nf : ∀ a vs, H a = some (.lst vs) → F a = none → (∀ i, a ∉ As i) → F' a = none
  fa : ∀ i a, a ∈ As' i → (∃ j, a ∈ As j) ∨ H a = none
  fA : ∀ a, a ∈ A → (∃ j, a ∈ As j) ∨ H a = none
  nd : A.Nodup
  dj : ∀ i a, a ∈ As' i → a ∉ A
theorem Ev.pure {F H H' : Hp} {As : Nat → List Addr} (s : Same H H') : Ev F H As F H' As [] :=
  ⟨Same.refl F, s, fun _ _ _ n _ => n, fun i _ m => .inl ⟨i, m⟩, fun _ m => (nomatch m), List.nodup_nil, fun _ _ _ z => (nomatch z)⟩
theorem Ev.fresh {F H H' : Hp} {As : Nat → List Addr} {A : List Addr} (s : Same H H') (h : ∀ a ∈ A, H a = none) (nd : A.Nodup) (dom : ∀ i a, a ∈ As i → ∃ vs, H a = some (.lst vs)) : Ev F H As F H' As A :=
  ⟨Same.refl F, s, fun _ _ _ n _ => n, fun i _ m => .inl ⟨i, m⟩, fun a m => .inr (h a m), nd, fun i a m z => by
    obtain ⟨vs, e⟩ := dom i a m
    rw [h a z] at e; cases e⟩
theorem Ev.seq {F H F1 H1 F2 H2 : Hp} {As As1 As2 : Nat → List Addr} {A B : List Addr} (a : Ev F H As F1 H1 As1 A) (b : Ev F1 H1 As1 F2 H2 As2 B) (dA : ∀ x ∈ A, ∃ vs, H1 x = some (.lst vs)) : Ev F H As F2 H2 As2 (A ++ B) where
  fs := a.fs.trans b.fs
  hs := a.hs.trans b.hs
  nf := fun x vs e n h => b.nf x vs (a.hs x _ e) (a.nf x vs e n h) fun i m => by
    rcases a.fa i x m with ⟨j, z⟩ | z
    · exact h j z
    · rw [e] at z; cases z
  fa := fun i x m => by
    rcases b.fa i x m with ⟨j, z⟩ | z
    · exact a.fa j x z
    · refine .inr ?_
      cases q : H x with
      | none => rfl
      | some u => rw [a.hs x u q] at z; cases z
  fA := fun x m => by
    rcases List.mem_append.mp m with z | z
    · exact a.fA x z
    · rcases b.fA x z with ⟨j, y⟩ | y
      · exact a.fa j x y
      · refine .inr ?_
        cases q : H x with
        | none => rfl
        | some u => rw [a.hs x u q] at y; cases y
  nd := by
    refine List.nodup_append.mpr ⟨a.nd, b.nd, fun x hx y hy e => ?_⟩
    subst e
    rcases b.fA x hy with ⟨j, z⟩ | z
    · exact a.dj j x z hx
    · obtain ⟨vs, e⟩ := dA x hx
      rw [z] at e; cases e
  dj := fun i x m z => by
    rcases List.mem_append.mp z with z | z
    · rcases b.fa i x m with ⟨j, y⟩ | y
      · exact a.dj j x y z
      · obtain ⟨vs, e⟩ := dA x z
        rw [y] at e; cases e
    · exact b.dj i x m z
theorem Ev.stays {K : PySem.W.Frag} {F1 H1 F2 H2 : Hp} {As1 As2 : Nat → List Addr} {A B : List Addr} {v : V} {d : D} (b : Ev F1 H1 As1 F2 H2 As2 B) (r : RepO K F1 H1 v d A) (dj : ∀ i a, a ∈ As1 i → a ∉ A) : RepO K F2 H2 v d A := by
  have h1 : RepO K F1 H2 v d A := r.frame (same_keepI b.hs) fun a m => by
    obtain ⟨⟨vs, e⟩, _⟩ := r.dom a m
    rw [e]; exact b.hs a _ e
  refine h1.froz b.fs fun a m => ?_
  obtain ⟨⟨vs, e⟩, n⟩ := r.dom a m
  exact b.nf a vs e n fun i z => dj i a z m
def upV (K : PySem.W.Frag) (f : FM) : TE := fun σ H Q => ∃ F δ As d δ', RepA K F H σ δ As ∧ f δ = some (d, δ') ∧ ∀ v F' H' A As', Ev F H As F' H' As' A → RepA K F' H' σ δ' As' → RepO K F' H' v d A → Q v H'
def upVA (K : PySem.W.Frag) (n : Nat) (f : FMA) : TA := fun σ H Q => ∃ F δ As ds δ', RepA K F H σ δ As ∧ f δ = some (ds, δ') ∧ ∀ vs F' H' A As', Ev F H As F' H' As' A → RepA K F' H' σ δ' As' → RepOs K F' H' vs ds A → vs.length = n → Q vs H'
def PV (X : Cx) (e : Expr) (f : FM) : Prop := PE X e (upV X.K f)
def PVA (X : Cx) (es : List Expr) (f : FMA) : Prop := PA X es (upVA X.K es.length f)
def vI (f : FD) : FM := fun δ => (f δ).bind fun d => if imm d then some (d, δ) else none
def vName (i : Nat) : FM := fun δ => match δ[i]? with
  | some (some (.seq ds)) => some (.seq ds, δ)
  | some (some d) => if imm d then some (d, δ) else some (d, δ.set i none)
  | _ => none
def vShare (i : Nat) : FM := fun δ => match δ[i]? with
  | some (some d) => some (sh d, δ.set i (some (sh d)))
  | _ => none
def vNil : FMA := fun δ => some ([], δ)
def vCons (f : FM) (g : FMA) : FMA := fun δ => (f δ).bind fun p => (g p.2).bind fun q => some (p.1 :: q.1, q.2)
def vLst (g : FMA) : FM := fun δ => (g δ).bind fun p => some (.lst p.1, p.2)
def vTup (g : FMA) : FM := fun δ => (g δ).bind fun p => some (.tup p.1, p.2)
def vCall (G : List D → Option D) (g : FA) : FM := fun δ => (g δ).bind fun ds => (G ds).bind fun d => if own d then some (d, δ) else none
def freshSp (K : PySem.W.Frag) (n : Nat) (G : List D → Option D) : Sp := fun vs H Q _ => vs.length = n ∧ ∃ ds d, Reps K H vs ds ∧ G ds = some d ∧ ∀ v H' A, Same H H' → RepO K H H' v d A → A.Nodup → Q v H'
section
variable {X : Cx} {e : Expr} {es : List Expr} {f : FD} {fm : FM} {g : FMA} {ga : FA} {pos p : Pos}
theorem pv_imm (h : PD X e f) : PV X e (vI f) := imp h fun σ H Q ⟨F, δ, As, d, δ', R, q, k⟩ => by
  unfold vI at q
  obtain ⟨d0, ed, q⟩ := Option.bind_eq_some_iff.mp q
  split at q
  · rename_i hi
    cases q
    exact ⟨δ, d, R.toS, ed, fun v H' s r => k v F H' [] As (.pure s) (R.grow s) (.imm hi r)⟩
  · cases q
theorem pv_name (i : Nat) {x : Str} (hN : X.N[i]? = some x := by rfl) (hv : Vis X.env.scope x := by first | exact Or.inl rfl | exact Or.inr (Or.inl rfl) | exact Or.inr (Or.inr rfl)) (hd : (x == ("__debug__" : Str)) = false := by decide)
    (hcd : (x == ("__classdict__" : Str)) = false := by decide) : PV X (.Name x pos) (vName i) :=
  imp (pe_var hN hv hd hcd) fun σ H Q ⟨F, δ, As, d, δ', R, q, k⟩ => by
    unfold vName at q
    split at q
    · rename_i ds h
      cases q
      obtain ⟨v, h1, h2⟩ := R.val i _ h
      rw [h2.seq_nil rfl] at h2
      exact ⟨v, h1, k v F H [] As (.pure (Same.refl H)) R h2⟩
    · rename_i d0 _ h
      obtain ⟨v, h1, h2⟩ := R.val i _ h
      split at q
      · rename_i hi
        cases q
        have z := h2.none_of hi
        rw [z] at h2
        exact ⟨v, h1, k v F H [] As (.pure (Same.refl H)) R h2⟩
      · cases q
        refine ⟨v, h1, k v F H (As i) (asSet As i []) ⟨Same.refl F, Same.refl H, fun _ _ _ n _ => n, fun j a m => ?_, fun a m => .inl ⟨i, m⟩, R.nd i, fun j a m => ?_⟩ (R.drop i) h2⟩
        · by_cases hj : j = i
          · subst hj; rw [asSet_same] at m; cases m
          · rw [asSet_ne hj] at m; exact .inl ⟨j, m⟩
        · by_cases hj : j = i
          · subst hj; rw [asSet_same] at m; cases m
          · rw [asSet_ne hj] at m; exact R.dj j i a hj m
    · cases q
theorem pva_nil : PVA X [] vNil := impA pa_nil fun σ H Q ⟨F, δ, As, ds, δ', R, q, k⟩ => by
  cases q
  exact k [] F H [] As (.pure (Same.refl H)) R .nil rfl
theorem pva_cons (ha : PV X e fm) (hr : PVA X es g) (hs : starEach (e :: es) X.env = (false, eval e X.env) :: starEach es X.env := by rfl) : PVA X (e :: es) (vCons fm g) := impA (pa_cons ha hr hs) fun σ H Q ⟨F, δ, As, ds, δ', R, q, k⟩ => by
  unfold vCons at q
  obtain ⟨⟨d1, δ1⟩, e1, q⟩ := Option.bind_eq_some_iff.mp q
  obtain ⟨⟨ds2, δ2⟩, e2, q⟩ := Option.bind_eq_some_iff.mp q
  cases q
  refine ⟨F, δ, As, d1, δ1, R, e1, fun v F1 H1 A As1 ev1 R1 r1 => ⟨F1, δ1, As1, ds2, δ2, R1, e2, fun vs F2 H2 B As2 ev2 R2 r2 l => ?_⟩⟩
  exact k (v :: vs) F2 H2 (A ++ B) As2 (ev1.seq ev2 fun x m => (r1.dom x m).1) R2 (.cons (ev2.stays r1 ev1.dj) r2 rfl) (congrArg (· + 1) l)
theorem pv_tup {x1} (h : PVA X es g) (hz : es.length ≤ 1000 := by decide) : PV X (.Tuple es x1 pos) (vTup g) := imp (pe_tup h) fun σ H Q ⟨F, δ, As, d, δ', R, q, k⟩ => by
  unfold vTup at q
  obtain ⟨⟨ds, δ1⟩, e1, q⟩ := Option.bind_eq_some_iff.mp q
  cases q
  refine ⟨F, δ, As, ds, _, R, e1, fun vs F1 H1 A As1 ev R1 r1 l => ⟨le_line (by rw [l]; exact hz), fun p hp => ?_⟩⟩
  have s := same_new hp (.tup vs)
  have ev' : Ev F H As F1 (upd H1 p (.tup vs)) As1 A := ⟨ev.fs, ev.hs.trans s, ev.nf, ev.fa, ev.fA, ev.nd, ev.dj⟩
  refine k _ F1 _ A As1 ev' (R1.grow s) (.tup (SqT.of upd_same) (r1.frame (same_keepI s) fun a m => ?_))
  obtain ⟨⟨ws, e⟩, _⟩ := r1.dom a m
  rw [e]; exact s a _ e
theorem pv_lst (h : PVA X es g) (hz : es.length ≤ 1000 := by decide) : PV X (.List es pos) (vLst g) := imp (pe_lst h) fun σ H Q ⟨F, δ, As, d, δ', R, q, k⟩ => by
  unfold vLst at q
  obtain ⟨⟨ds, δ1⟩, e1, q⟩ := Option.bind_eq_some_iff.mp q
  cases q
  refine ⟨F, δ, As, ds, _, R, e1, fun vs F1 H1 A As1 ev R1 r1 l => ⟨le_line (by rw [l]; exact hz), fun p hp => ?_⟩⟩
  have s := same_new hp (.lst vs)
  have np : ∀ {u : Hp}, Same u H1 → u p = none := fun {u} su => by
    cases q : u p with
    | none => rfl
    | some o => rw [su p o q] at hp; cases hp
  have ev' : Ev F H As F1 (upd H1 p (.lst vs)) As1 (p :: A) := ⟨ev.fs, ev.hs.trans s, ev.nf, ev.fa, fun a m => by
    rcases List.mem_cons.mp m with z | z
    · subst z; exact .inr (np ev.hs)
    · exact ev.fA a z, List.nodup_cons.mpr ⟨fun m => (by
      obtain ⟨⟨ws, e⟩, _⟩ := r1.dom p m
      rw [hp] at e; cases e), ev.nd⟩, fun i a m z => by
    rcases List.mem_cons.mp z with z | z
    · subst z
      obtain ⟨⟨ws, e⟩, _⟩ := R1.dom m
      rw [hp] at e; cases e
    · exact ev.dj i a m z⟩
  refine k _ F1 _ (p :: A) As1 ev' (R1.grow s) (.lst upd_same (np R1.fz) (r1.frame (same_keepI s) fun a m => ?_))
  obtain ⟨⟨ws, e⟩, _⟩ := r1.dom a m
  rw [e]; exact s a _ e
end
end Dl
namespace Dl
open PySem PySem.Spec PyProof.Rows L2
def RPM (X : Cx) (E : Ends) (F : Hp) : Res → Prop
  | .nx δ => ∀ σ' F' H', Same F F' → RepM X.K F' H' σ' δ → E.nx σ' H'
  | .rt d => ∀ v F' H' A, Same F F' → Same F' H' → RepO X.K F' H' v d A → A.Nodup → E.rt v H'
  | .bk δ => ∀ σ' F' H', Same F F' → RepM X.K F' H' σ' δ → E.bk σ' H'
  | .ct δ => ∀ σ' F' H', Same F F' → RepM X.K F' H' σ' δ → E.ct σ' H'
  | .ex C δ => ∀ σ' F' H', Same F F' → RepM X.K F' H' σ' δ → XFly X C σ' H'
  | .mk C δ => ∀ σ' F' H', Same F F' → RepM X.K F' H' σ' δ → XMade X C σ' H'
theorem RPM.mono {X : Cx} {E : Ends} {F F1 : Hp} {r : Res} (s : Same F F1) (h : RPM X E F r) : RPM X E F1 r := by
  cases r with
  | nx δ => exact fun σ' F' H' s2 R => h σ' F' H' (s.trans s2) R
  | rt d => exact fun v F' H' A s2 => h v F' H' A (s.trans s2)
  | bk δ => exact fun σ' F' H' s2 R => h σ' F' H' (s.trans s2) R
  | ct δ => exact fun σ' F' H' s2 R => h σ' F' H' (s.trans s2) R
  | ex C δ => exact fun σ' F' H' s2 R => h σ' F' H' (s.trans s2) R
  | mk C δ => exact fun σ' F' H' s2 R => h σ' F' H' (s.trans s2) R
def upM (X : Cx) (s : SD) : TS := fun E σ H => ∃ F δ r, RepM X.K F H σ δ ∧ s δ = some r ∧ RPM X E F r
def PMD (X : Cx) (st : Stmt) (s : SD) : Prop := PS X st (upM X s)
def PMs (X : Cx) (sts : List Stmt) (s : SD) : Prop := PSs X sts (upM X s)
section
variable {K : PySem.W.Frag} {F H : Hp} {σ : L2.St} {δ : DS} {As : Nat → List Addr}
theorem RepA.setM {v : V} {d : D} {A : List Addr} (R : RepA K F H σ δ As) (i : Nat) (r : RepO K F H v d A) (nd : A.Nodup) (dj : ∀ j a, a ∈ As j → a ∉ A) : RepM K F H (σ.set i (some v)) (δ.set i (some d)) := by
  by_cases hi : i < δ.length
  · exact ⟨_, R.set i hi r nd fun j a _ m => dj j a m⟩
  · have hl := R.len
    rw [List.set_eq_of_length_le (by omega), List.set_eq_of_length_le (by omega)]
    exact ⟨As, R⟩
end
section
variable {X : Cx} {st : Stmt} {rest : List Stmt} {s u : SD} {e : Expr} {f : FD} {fm : FM} {c : FT} {pos : Pos}
theorem pm_nil : PMs X [] sNil := impSs pss_nil fun E σ H ⟨F, δ, r, R, e, k⟩ => by cases e; exact k σ F H (Same.refl F) R
theorem pm_cons (h1 : PMD X st s) (h2 : PMs X rest u) : PMs X (st :: rest) (sSeq s u) := impSs (pss_cons h1 h2) fun E σ H ⟨F, δ, r, R, e, k⟩ => by
  unfold sSeq at e
  obtain ⟨r1, e1, e⟩ := Option.bind_eq_some_iff.mp e
  refine ⟨F, δ, r1, R, e1, ?_⟩
  cases r1 with
  | nx δ' => exact fun σ' F' H' s1 R1 => ⟨F', δ', r, R1, e, k.mono s1⟩
  | rt d => cases e; exact k
  | bk d => cases e; exact k
  | ct d => cases e; exact k
  | ex C d => cases e; exact k
  | mk C d => cases e; exact k
theorem pm_one (h : PMD X st s) : PMs X [st] s := pss_one h
theorem pm_if {cx : Expr} {a b : List Stmt} (hc : PTD X cx c) (ha : PMs X a s) (hb : PMs X b u) : PMD X (.If cx a b pos) (sIf c s u) := impS (ps_if hc ha hb) fun E σ H ⟨F, δ, r, ⟨As, R⟩, q, k⟩ => by
  unfold sIf at q
  obtain ⟨d, ed, q⟩ := Option.bind_eq_some_iff.mp q
  refine ⟨δ, d, R.toS, ed, fun H' s1 => ?_⟩
  cases d with
  | true => rw [if_pos rfl]; exact ⟨F, δ, r, ⟨As, R.grow s1⟩, q, k⟩
  | false => rw [if_neg Bool.false_ne_true]; exact ⟨F, δ, r, ⟨As, R.grow s1⟩, q, k⟩
def sSetM (i : Nat) (f : FM) : SD := fun δ => (f δ).bind fun p => some (.nx (p.2.set i (some p.1)))
def sRetM (f : FM) : SD := fun δ => (f δ).bind fun p => some (.rt p.1)
def sDropM (f : FM) : SD := fun δ => (f δ).bind fun p => some (.nx p.2)
theorem pm_set (i : Nat) {x : Str} {pos' : Pos} (hN : X.N.Nodup) (he : PV X e fm) (hi : X.N[i]? = some x := by rfl) (hx : Loc X.env.scope x := by first | exact Or.inl rfl | exact Or.inr rfl) (hs : swapsWith e (some (.Name x pos')) pos.line X.env = pure false := by rfl) (hf : X.fn x = true ∨ X.env.scope.names.lookup x = some .local := by first | exact .inl rfl | exact .inr rfl | assumption) :
    PMD X (.Assign [.Name x pos'] e pos) (sSetM i fm) := impS (ps_set hN hi hx he hs hf) fun E σ H ⟨F, δ, r, ⟨As, R⟩, q, k⟩ => by
  unfold sSetM at q
  obtain ⟨⟨d, δ'⟩, ed, q⟩ := Option.bind_eq_some_iff.mp q
  cases q
  exact ⟨F, δ, As, d, δ', R, ed, fun v F' H' A As' ev R' r' => k (σ.set i (some v)) F' H' ev.fs (R'.setM i r' ev.nd ev.dj)⟩
theorem pm_ret (he : PV X e fm) : PMD X (.Return (some e) pos) (sRetM fm) := impS (ps_ret he) fun E σ H ⟨F, δ, r, ⟨As, R⟩, q, k⟩ => by
  unfold sRetM at q
  obtain ⟨⟨d, δ'⟩, ed, q⟩ := Option.bind_eq_some_iff.mp q
  cases q
  exact ⟨F, δ, As, d, δ', R, ed, fun v F' H' A As' ev R' r' => k v F' H' A ev.fs R'.fz r' ev.nd⟩
end
def ItF (K : PySem.W.Frag) (J : It) (F : Hp) (ds : List D) : Prop := ∀ i H2, Same F H2 →
  (i < ds.length → J.go i H2 ∧ ∀ x H', J.yld i H2 x H' → H' = H2 ∧ ∃ d, ds[i]? = some d ∧ Rep K F x d) ∧ (ds.length ≤ i → J.stop i H2)
def upIM (K : PySem.W.Frag) (src : FMA) : TI := fun σ H R => ∃ F δ As ds δ', RepA K F H σ δ As ∧ src δ = some (ds, δ') ∧ ∀ J F' H1 As', Same F F' → RepA K F' H1 σ δ' As' → ItF K J F' ds → R J H1
def PIM (X : Cx) (tg iter : Expr) (src : FMA) : Prop := PI X tg iter (upIM X.K src)
theorem itf_list {K : PySem.W.Frag} {F : Hp} {a : Addr} {vs : List V} {ds : List D} (hq : SqL K F a vs) (r : Reps K F vs ds) : ItF K (Itl K a) F ds := by
  intro i H2 s
  have hq2 := s.seq hq
  have hl := r.length
  refine ⟨fun hi => ⟨⟨vs, vs[i], hq2, by simp [show i < vs.length by omega]⟩, fun x H' y => ?_⟩, fun hi => ⟨vs, hq2, by omega⟩⟩
  obtain ⟨e, y⟩ := y
  subst e
  obtain ⟨d, h1, h2⟩ := r.getV (y vs hq2)
  exact ⟨rfl, d, h1, h2⟩
def vWalk (f : FM) : FMA := fun δ => (f δ).bind fun p => match sh p.1 with
  | .seq ds => some (ds, p.2)
  | _ => none
theorem itf_range {K : PySem.W.Frag} {F : Hp} {lo : Int} {n : Nat} : ItF K (Itr lo n) F ((List.range n).map fun (i : Nat) => D.int (lo + (i : Int) * 1)) := by
  intro i H2 s
  refine ⟨fun hi => ?_, fun hi => (show n ≤ i by simpa using hi)⟩
  have hi' : i < n := by simpa using hi
  refine ⟨hi', fun x H' y => ?_⟩
  obtain ⟨e, y⟩ := y
  subst e y
  refine ⟨rfl, .int (lo + (i : Int) * 1), ?_, by rw [Int.mul_one]; exact .int _⟩
  rw [List.getElem?_map, List.getElem?_range hi']
  rfl
def vRange (g : FA) : FMA := fun δ => (g δ).bind fun ds => (asR ds).bind fun rs => if ds.length ≤ 2 then some (rs, δ) else none
theorem pim_range1 {X : Cx} {tg a : Expr} {g : FA} {p pos : Pos} (hg : Gl X "range") (hm : X.mg "range" = none) (ha : PAD X [a] g) (hs : starEach [a] X.env = [(false, eval a X.env)] := by rfl) : PIM X tg (.Call (.Name "range" p) [a] [] pos) (vRange g) :=
  impI (pi_range1 hg hm ha hs) fun σ H R ⟨F, δ, As, ds, δ', R0, e, k⟩ => by
  unfold vRange at e
  obtain ⟨xs, exs, e⟩ := Option.bind_eq_some_iff.mp e
  obtain ⟨rs, ers, e⟩ := Option.bind_eq_some_iff.mp e
  split at e
  · cases e
    refine ⟨δ, xs, R0.toS, exs, fun vs H1 s1 r1 l => ?_⟩
    match xs, r1, ers with
    | [.int b], r1, e =>
      obtain ⟨v, rfl, rv⟩ := reps1 r1
      cases rv
      have e' : (if -(2 ^ 62) ≤ b ∧ b < 2 ^ 62 then some (rangeD 0 b 1) else none) = some ds := e
      by_cases hb : -(2 ^ 62) ≤ b ∧ b < 2 ^ 62
      · rw [if_pos hb] at e'
        have e2 : rangeD 0 b 1 = ds := Option.some.inj e'
        refine ⟨b, rfl, hb.1, hb.2, k _ F H1 As (Same.refl F) (R0.grow s1) ?_⟩
        have h := itf_range (K := X.K) (F := F) (lo := 0) (n := b.toNat)
        have e3 : ((b - 0 + 1 - 1) / 1).toNat = b.toNat := by congr 1; omega
        unfold rangeD at e2
        rw [e3] at e2
        rw [← e2]
        exact h
      · rw [if_neg hb] at e'; cases e'
    | [], r1, e => cases r1; cases l
    | _ :: _ :: _, r1, e =>
      have := r1.length
      rw [l] at this
      cases this
    | [.non], r1, e => cases e
    | [.bl _], r1, e => cases e
    | [.str _], r1, e => cases e
    | [.tup _], r1, e => cases e
    | [.lst _], r1, e => cases e
    | [.seq _], r1, e => cases e
    | [.ty _], r1, e => cases e
    | [.dct], r1, e => cases e
    | [.exc _], r1, e => cases e
    | [.cls _], r1, e => cases e
  · cases e
def forM (i : Nat) (s : SD) : List D → SD
  | [] => fun δ => some (.nx δ)
  | d :: ds => fun δ => (s (δ.set i (some (sh d)))).bind fun r => match r with
    | .nx δ' => forM i s ds δ'
    | .ct δ' => forM i s ds δ'
    | .bk δ' => some (.nx δ')
    | .rt d => some (.rt d)
    | .ex C δ' => some (.ex C δ')
    | .mk C δ' => some (.mk C δ')
def sForM (src : FMA) (i : Nat) (s : SD) : SD := fun δ => (src δ).bind fun p => forM i s p.1 p.2
theorem pm_for {X : Cx} {iter : Expr} {body : List Stmt} {src : FMA} {s : SD} {x : Str} {px pos : Pos} (i : Nat) (hN : X.N.Nodup) (hp : PassesOwn (model X.prog X.w) X.A X.env X.xe) (hc : X.calm = true) (hi : PIM X (.Name x px) iter src) (hb : PMs X body s)
    (hx : X.N[i]? = some x := by rfl) (hl : Loc X.env.scope x := by first | exact Or.inl rfl | exact Or.inr rfl) (hf : X.fn x = true ∨ X.env.scope.names.lookup x = some .local := by first | exact .inl rfl | exact .inr rfl | assumption)
    (hs : ∀ x, foldedSetIterable iter X.env x = pure x := by intro _; rfl) : PMD X (.For (.Name x px) iter body [] pos) (sForM src i s) := impS (ps_for hp hc hi (pg_name hN hx hl hf) hb hs) fun E σ H ⟨F, δ, r, ⟨As, R⟩, e, k⟩ => by
  unfold sForM at e
  obtain ⟨⟨ds, δ1⟩, eds, e⟩ := Option.bind_eq_some_iff.mp e
  refine ⟨F, δ, As, ds, δ1, R, eds, fun J F1 H1 As1 s1 R1 it => ?_⟩
  refine ⟨fun j m σ H => m = ds.length - j ∧ j ≤ ds.length ∧ ∃ F2 δ, Same F1 F2 ∧ RepM X.K F2 H σ δ ∧ forM i s (ds.drop j) δ = some r ∧ RPM X E F2 r, ⟨ds.length, rfl, Nat.zero_le _, F1, δ1, Same.refl _, ⟨As1, R1⟩, e, k.mono s1⟩, ?_⟩
  rintro j m σ H2 ⟨rfl, hjl, F2, δ2, s2, ⟨As2, R2⟩, e2, k2⟩
  by_cases hlt : j < ds.length
  · obtain ⟨go, yl⟩ := (it j H2 (s2.trans R2.fz)).1 hlt
    rw [List.drop_eq_getElem_cons hlt] at e2
    obtain ⟨r4, e4, e2⟩ := Option.bind_eq_some_iff.mp (show ((s (δ2.set i (some (sh ds[j])))).bind _) = some r from e2)
    refine .inr ⟨go, fun σ' H' => ∃ F3 δ, Same F1 F3 ∧ RepM X.K F3 H' σ' δ ∧ forM i s (ds.drop (j + 1)) δ = some r ∧ RPM X E F3 r, fun σ' H' z => ⟨ds.length - (j + 1), by omega, rfl, hlt, z⟩, fun y H' yy => ?_⟩
    obtain ⟨eH, d, hd, rx⟩ := yl y H' yy
    subst eH
    have hd' : d = ds[j] := by
      rw [List.getElem?_eq_getElem hlt] at hd
      exact (Option.some.inj hd).symm
    subst hd'
    have R3 := R2.setM i (RepO.of_sh R2.fz (rx.mono s2)) List.nodup_nil fun _ _ _ z => nomatch z
    refine ⟨F2, δ2.set i (some (sh ds[j])), r4, R3, e4, ?_⟩
    cases r4 with
    | nx δ' => exact fun σ' F' H'' s4 R4 => ⟨F', δ', s2.trans s4, R4, e2, k2.mono s4⟩
    | ct δ' => exact fun σ' F' H'' s4 R4 => ⟨F', δ', s2.trans s4, R4, e2, k2.mono s4⟩
    | bk δ' => cases e2; exact k2
    | rt d => cases e2; exact k2
    | ex C δ' => cases e2; exact k2
    | mk C δ' => cases e2; exact k2
  · have e : j = ds.length := by omega
    subst e
    rw [List.drop_length] at e2
    cases e2
    exact .inl ⟨(it _ H2 (s2.trans R2.fz)).2 (Nat.le_refl _), k2 σ F2 H2 (Same.refl _) ⟨As2, R2⟩⟩
def startM (n : Nat) (ds : List D) : DS := (shs ds).map some ++ List.replicate (n - ds.length) none
theorem repM_start {K : PySem.W.Frag} {H : Hp} {N : List Str} {vs : List V} {ds : List D} (r : Reps K H vs ds) : RepM K H H (L2.start N vs) (startM N.length ds) := by
  have l2 : (shs ds).length = ds.length := by rw [shs_map, List.length_map]
  refine ⟨fun _ => [], Same.refl H, by unfold L2.start startM; simp [r.length, l2], fun i d q => ?_, fun _ _ => rfl, fun _ => List.nodup_nil, fun _ _ _ _ m => nomatch m⟩
  unfold startM at q
  unfold L2.start
  have hi : i < ds.length := by
    by_cases hi : i < ds.length
    · exact hi
    · rw [List.getElem?_append_right (by simpa [l2] using hi), List.getElem?_replicate] at q
      split at q <;> cases q
  rw [List.getElem?_append_left (by simpa [l2] using hi), List.getElem?_map] at q
  obtain ⟨e, h1, h2⟩ := Option.map_eq_some_iff.mp q
  cases h2
  rw [shs_map, List.getElem?_map] at h1
  obtain ⟨d0, h3, h4⟩ := Option.map_eq_some_iff.mp h1
  subst h4
  obtain ⟨v, h5, h6⟩ := r.get h3
  have hv : i < vs.length := by rw [r.length]; exact hi
  exact ⟨v, by rw [List.getElem?_append_left (by simpa using hv), List.getElem?_map, h5]; rfl, RepO.of_sh (Same.refl H) h6⟩
section
variable {P : Program} {w : World} {K : PySem.W.Frag} {mg : Str → Option Value} {base : Heap}
theorem fresh_ok {x qual : Str} {st : Stmt} {f : Addr} {fd : FuncData} {N ps : List Str} {k : Nat} {G : List D → Option D} (F : Fun K x qual st f fd) (S : FnScope N ps (defScope st))
    (hbody : ∀ (cdv : Value) (A : Around) (outer : List Env) (s : Shared) (H : Hp) (E : XK) (ds : List D) (d : D), Room k (A.deeper (envOfC qual (defScope st) s.heap.objs.size f cdv)) → G ds = some d → ds.length = ps.length →
      ∃ t, PMs (cxOf CX0 P w K mg base N qual (defScope st) f cdv A outer s H E).nox (defBody st) t ∧ retOf (t (startM N.length ds)) = some d ∧ own d = true) : FnOk P w K mg base CX0 (k + 1) f fd ps (freshSp K ps.length G) := by
  refine F.ok S (fun vs H Q E h => h.1) (fun cdv A outer s H vs Q E hr h => ?_)
  obtain ⟨hl, ds, d, r, e, q⟩ := h
  obtain ⟨t, ht, hq, ho⟩ := hbody cdv A outer s H E ds d hr e (r.length.symm.trans hl)
  refine ⟨_, ht, H, startM N.length ds, ?_⟩
  cases z : t (startM N.length ds) with
  | none => rw [z] at hq; cases hq
  | some res =>
    rw [z] at hq
    refine ⟨res, repM_start r, rfl, ?_⟩
    cases res with
    | rt d' => cases hq; exact fun v F' H' A s1 s2 r1 nd => q v H' A (s1.trans s2) (r1.thaw s1 ho) nd
    | nx δ => cases hq; exact fun σ' F' H' s1 ⟨As, R⟩ => q _ H' [] (s1.trans R.fz) (.imm rfl .non) List.nodup_nil
    | bk δ => cases hq
    | ct δ => cases hq
    | ex C δ => cases hq
    | mk C δ => cases hq
structure HasF (P : Program) (w : World) (K : PySem.W.Frag) (mg : Str → Option Value) (base : Heap) (k : Nat) (x : Str) (ps : List Str) (G : List D → Option D) : Prop where
  ex : ∃ f fd, FnOk P w K mg base CX0 k f fd ps (freshSp K ps.length G) ∧ mg x = some (.ref f) ∧ PySem.W.keepIn K (.ref f) = true ∧ Binds K fd ps []
theorem HasF.has {k : Nat} {x : Str} {ps : List Str} {G : List D → Option D} (h : HasF P w K mg base k x ps G) : Has P w K mg base k x ps G := by
  obtain ⟨f, fd, F, h1, h2, h3⟩ := h.ex
  refine ⟨f, fd, F.imp fun vs H Q E ⟨l, ds, d, r, e, q⟩ => ⟨l, ds, d, r, e, fun v H' A s r1 _ => q v H' s (r1.rep s)⟩, h1, h2, h3⟩
theorem law_okM {x qual q : Str} {st : Stmt} {f : Addr} {fd : FuncData} {N : List Str} {k : Nat} (F : Fun K x qual st f fd) (S : FnScope N [q] (defScope st))
    (hbody : ∀ (cdv : Value) (A : Around) (outer : List Env) (s : Shared) (H : Hp) (E : XK) (ns : List Int), Room k (A.deeper (envOfC qual (defScope st) s.heap.objs.size f cdv)) → ns.length ≤ 63 →
      ∃ t, PMs (cxOf CX0 P w K mg base N qual (defScope st) f cdv A outer s H E).nox (defBody st) t ∧ retOf (t (startM N.length [.seq (ns.map D.int)])) = some (.bl true)) : FnOk P w K mg base CX0 (k + 1) f fd [q] (spLaw K) := by
  refine F.ok S (fun vs H Q E h => ?_) (fun cdv A outer s H vs Q E hr h => ?_)
  · obtain ⟨a, ns, rfl, _⟩ := h
    rfl
  obtain ⟨a, ns, rfl, hS, hl, q⟩ := h
  obtain ⟨t, ht, hq⟩ := hbody cdv A outer s H E ns hr hl
  refine ⟨_, ht, H, startM N.length [.seq (ns.map D.int)], ?_⟩
  cases z : t (startM N.length [.seq (ns.map D.int)]) with
  | none => rw [z] at hq; cases hq
  | some res =>
    rw [z] at hq
    refine ⟨res, repM_start (.cons (.seq hS (Reps.ints ns)) .nil), rfl, ?_⟩
    cases res with
    | rt d' =>
      cases hq
      intro v F' H' A s1 s2 r1 nd
      cases r1.rep s2
      exact q H'
    | nx δ => cases hq
    | bk δ => cases hq
    | ct δ => cases hq
    | ex C δ => cases hq
    | mk C δ => cases hq
end
theorem pv_call {X : Cx} {e : Expr} {es : List Expr} {g : FA} {pos p : Pos} {k j : Nat} {x : Str} {ps : List Str} {G : List D → Option D} (F : HasF X.prog X.w X.K X.mg X.base k x ps G) (hr : Room j X.A) (ha : PAD X (e :: es) g) (hk : k ≤ j := by decide) (hg : Gl X x := by rfl)
    (hn : (e :: es).length = ps.length := by rfl) (hdb : (x == ("__debug__" : Str)) = false := by decide) (he : starEach (e :: es) X.env = (false, eval e X.env) :: starEach es X.env := by rfl) (hpl : (backTo pos (starEach es X.env)).any (·.1) = false := by rfl) :
    PV X (.Call (.Name x p) (e :: es) [] pos) (vCall G g) := by
  obtain ⟨f, fd, F, hm, kp, hb⟩ := F.ex
  refine imp (pe_call F (hr.mono hk) hg hm kp hb .nil pass0 ha hdb he hpl) fun σ H Q ⟨F0, δ, As, d, δ', R, q, k⟩ => ?_
  unfold vCall at q
  obtain ⟨ds, eds, q⟩ := Option.bind_eq_some_iff.mp q
  obtain ⟨d0, ed, q⟩ := Option.bind_eq_some_iff.mp q
  split at q
  · rename_i ho
    cases q
    refine ⟨δ, ds, R.toS, eds, fun vs H1 s1 r1 l => ?_⟩
    show freshSp X.K ps.length G (vs ++ []) H1 Q E0
    rw [List.append_nil]
    refine ⟨l.trans hn, ds, d, r1, ed, fun v H' A s2 r2 nd => ?_⟩
    have nA : ∀ a ∈ A, H a = none := fun a m => by
      cases z : H a with
      | none => rfl
      | some u => have := (r2.dom a m).2; rw [s1 a u z] at this; cases this
    exact k v F0 H' A As (.fresh (s1.trans s2) nA nd fun i a m => (R.dom m).1) (R.grow (s1.trans s2)) (r2.thaw (R.fz.trans s1) ho)
  · cases q
end Dl
namespace Dl
open PySem PySem.Spec PyProof.Rows L2
section
variable {K : PySem.W.Frag} {F H : Hp} {σ : L2.St} {δ : DS} {As : Nat → List Addr}
theorem RepO.lst_inv {ds : List D} : ∀ {v : V} {d : D} {A : List Addr}, RepO K F H v d A → d = .lst ds → ∃ a vs A0, v = .ref a ∧ A = a :: A0 ∧ H a = some (.lst vs) ∧ F a = none ∧ RepOs K F H vs ds A0
  | _, _, _, .imm i _, e => by subst e; rw [Dl.imm] at i; cases i
  | _, _, _, .shr _, e => nomatch e
  | _, _, _, .tup _ _, e => nomatch e
  | _, _, _, .lst h n r, e => by cases e; exact ⟨_, _, _, rfl, rfl, h, n, r⟩
theorem RepA.lst {i : Nat} {ds : List D} (R : RepA K F H σ δ As) (h : δ[i]? = some (some (.lst ds))) : ∃ a vs A0, σ[i]? = some (some (.ref a)) ∧ As i = a :: A0 ∧ H a = some (.lst vs) ∧ F a = none ∧ RepOs K F H vs ds A0 := by
  obtain ⟨v, h1, h2⟩ := R.val i _ h
  obtain ⟨a, vs, A0, rfl, e, h3, h4, h5⟩ := h2.lst_inv rfl
  exact ⟨a, vs, A0, h1, e, h3, h4, h5⟩
theorem same_upd {a : Addr} {o : HO} (s : Same F H) (n : F a = none) : Same F (upd H a o) := fun b u e => by
  have : b ≠ a := fun z => by rw [z, n] at e; cases e
  rw [upd_ne this]; exact s b u e
theorem RepA.wr {i : Nat} {a : Addr} {vs vs' : List V} {ds ds' : List D} {A0 A' : List Addr} (R : RepA K F H σ δ As) (h : δ[i]? = some (some (.lst ds))) (hσ : σ[i]? = some (some (.ref a))) (hA : As i = a :: A0) (ha : H a = some (.lst vs)) (hF : F a = none)
    (r : RepOs K F H vs' ds' A') (na : a ∉ A') (nd : A'.Nodup) (dj : ∀ j x, j ≠ i → x ∈ As j → x ∉ A') : RepM K F (upd H a (.lst vs')) σ (δ.set i (some (.lst ds'))) := by
  have hi : i < δ.length := (List.getElem?_eq_some_iff.mp h).1
  have nj : ∀ j x, j ≠ i → x ∈ As j → x ≠ a := fun j x hj m z => R.dj j i x hj m (by rw [hA, z]; exact List.mem_cons_self)
  refine ⟨_, R.write hi hσ (keep_upd ha) (same_upd R.fz hF) (fun j x hj m => upd_ne (nj j x hj m)) (.lst upd_same hF (r.frame (keep_upd ha) fun x m => upd_ne fun z => na (z ▸ m))) (List.nodup_cons.mpr ⟨na, nd⟩) fun j x hj m z => ?_⟩
  rcases List.mem_cons.mp z with z | z
  · exact nj j x hj m z
  · exact dj j x hj m z
theorem RepA.row {i j : Nat} {ds row : List D} (R : RepA K F H σ δ As) (h : δ[i]? = some (some (.lst ds))) (hj : ds[j]? = some (.lst row)) : ∃ (a : Addr) (vs : List V) (b : Addr) (ws : List V) (B0 O : List Addr), σ[i]? = some (some (.ref a)) ∧ H a = some (.lst vs) ∧ vs[j]? = some (.ref b) ∧ H b = some (.lst ws) ∧ RepOs K F H ws row B0 ∧ (b :: B0).Nodup ∧ (∀ x, x ∈ b :: B0 → x ∈ As i) ∧
    (∀ x, x ∈ O → x ∈ As i) ∧ a ∈ O ∧ (∀ x, x ∈ b :: B0 → x ∉ O) ∧
    ∀ {ws' : List V} {row' : List D} {B' : List Addr}, RepOs K F H ws' row' B' → b ∉ B' → B'.Nodup → (∀ x, x ∈ B' → x ∉ O) → (∀ k x, k ≠ i → x ∈ As k → x ∉ B') → RepM K F (upd H b (.lst ws')) σ (δ.set i (some (.lst (ds.set j (.lst row'))))) := by
  obtain ⟨a, vs, A0, s1, eA, g1, n1, ro⟩ := R.lst h
  obtain ⟨v0, A1, B, A3, hv, rB, e0, pk⟩ := ro.pick hj
  obtain ⟨b, ws, B0, rfl, eB, g2, n2, rr⟩ := rB.lst_inv rfl
  subst eB
  have nd0 := R.nd i
  rw [eA, e0] at nd0
  have nd1 := List.nodup_cons.mp nd0
  have nd2 := List.nodup_append.mp nd1.2
  have nd3 := List.nodup_append.mp nd2.2.1
  have inB : ∀ x, x ∈ b :: B0 → x ∈ As i := fun x m => by rw [eA, e0]; exact List.mem_cons_of_mem _ (List.mem_append_right _ (List.mem_append_left _ m))
  have inO : ∀ x, x ∈ a :: (A1 ++ A3) → x ∈ As i := fun x m => by
    rw [eA, e0]
    rcases List.mem_cons.mp m with z | z
    · rw [z]; exact List.mem_cons_self
    · refine List.mem_cons_of_mem _ ?_
      rcases List.mem_append.mp z with z | z
      · exact List.mem_append_left _ z
      · exact List.mem_append_right _ (List.mem_append_right _ z)
  have sep : ∀ x, x ∈ b :: B0 → x ∉ a :: (A1 ++ A3) := fun x m z => by
    rcases List.mem_cons.mp z with z | z
    · rw [z] at m; exact nd1.1 (List.mem_append_right _ (List.mem_append_left _ m))
    · rcases List.mem_append.mp z with z | z
      · exact nd2.2.2 x z x (List.mem_append_left _ m) rfl
      · exact nd3.2.2 x m x z rfl
  refine ⟨a, vs, b, ws, B0, a :: (A1 ++ A3), s1, g1, hv, g2, rr, nd3.1, inB, inO, List.mem_cons_self, sep, fun {ws' row' B'} r' nb nd' sO sK => ?_⟩
  have hi : i < δ.length := (List.getElem?_eq_some_iff.mp h).1
  have hab : a ≠ b := fun z => sep b List.mem_cons_self (by rw [z]; exact List.mem_cons_self)
  have nO : ∀ x, x ∈ a :: (A1 ++ A3) → x ≠ b := fun x m z => sep b List.mem_cons_self (z ▸ m)
  have rowN : RepO K F (upd H b (.lst ws')) (.ref b) (.lst row') (b :: B') := .lst upd_same n2 (r'.frame (keep_upd g2) fun x m => upd_ne fun z => nb (z ▸ m))
  have tree := pk (keep_upd (o := .lst ws') g2) (fun x m => upd_ne (nO x (List.mem_cons_of_mem _ (by
    rcases m with m | m
    · exact List.mem_append_left _ m
    · exact List.mem_append_right _ m)))) rowN
  have hset : vs.set j (.ref b) = vs := by
    refine List.ext_getElem? fun k => ?_
    rw [List.getElem?_set]
    split
    · rename_i hk; subst hk
      rw [hv, if_pos (List.getElem?_eq_some_iff.mp hv).1]
    · rfl
  rw [hset] at tree
  have nj : ∀ k x, k ≠ i → x ∈ As k → x ≠ b := fun k x hk m z => R.dj k i x hk m (z ▸ inB b List.mem_cons_self)
  refine ⟨_, R.write hi s1 (keep_upd g2) (same_upd R.fz n2) (fun k x hk m => upd_ne (nj k x hk m)) (.lst (by rw [upd_ne hab]; exact g1) n1 tree) ?_ fun k x hk m z => ?_⟩
  · refine List.nodup_cons.mpr ⟨fun z => ?_, List.nodup_append.mpr ⟨nd2.1, List.nodup_append.mpr ⟨List.nodup_cons.mpr ⟨nb, nd'⟩, nd3.2.1, fun x hx y hy e => ?_⟩, fun x hx y hy e => ?_⟩⟩
    · rcases List.mem_append.mp z with z | z
      · exact nd1.1 (List.mem_append_left _ z)
      · rcases List.mem_append.mp z with z | z
        · rcases List.mem_cons.mp z with z | z
          · exact hab z
          · exact sO a z List.mem_cons_self
        · exact nd1.1 (List.mem_append_right _ (List.mem_append_right _ z))
    · subst e
      rcases List.mem_cons.mp hx with z | z
      · exact nO x (List.mem_cons_of_mem _ (List.mem_append_right _ hy)) z
      · exact sO x z (List.mem_cons_of_mem _ (List.mem_append_right _ hy))
    · subst e
      rcases List.mem_append.mp hy with z | z
      · rcases List.mem_cons.mp z with z | z
        · exact nO x (List.mem_cons_of_mem _ (List.mem_append_left _ hx)) z
        · exact sO x z (List.mem_cons_of_mem _ (List.mem_append_left _ hx))
      · exact nd2.2.2 x hx x (List.mem_append_right _ z) rfl
  · rcases List.mem_cons.mp z with z | z
    · exact R.dj k i x hk m (inO x (by rw [z]; exact List.mem_cons_self))
    · rcases List.mem_append.mp z with z | z
      · exact R.dj k i x hk m (inO x (List.mem_cons_of_mem _ (List.mem_append_left _ z)))
      · rcases List.mem_append.mp z with z | z
        · rcases List.mem_cons.mp z with z | z
          · exact nj k x hk m z
          · exact sK k x hk m z
        · exact R.dj k i x hk m (inO x (List.mem_cons_of_mem _ (List.mem_append_right _ z)))
end
def sApp (i : Nat) (fm : FM) : SD := fun δ => match δ[i]? with
  | some (some (.lst _)) => (fm δ).bind fun p => match p.2[i]? with
    | some (some (.lst ds)) => if ds.length ≤ 999 then some (.nx (p.2.set i (some (.lst (ds ++ [p.1]))))) else none
    | _ => none
  | _ => none
section
variable {X : Cx} {e ei : Expr} {fk : FD} {fm : FM} {pos p1 p2 p3 p4 : Pos}
theorem pm_app (i : Nat) {c : Expr} (hc : PE X c (tBM X.K "list" rAppend (tVar i) (tCons (upV X.K fm) tNil))) (hs : swapsWith c none pos.line X.env = pure false := by rfl) : PMD X (.Expr c pos) (sApp i fm) := impS (ps_expr hc hs) fun E σ H ⟨F, δ, r, ⟨As, R⟩, q, k⟩ => by
  unfold sApp at q
  split at q
  · rename_i ds0 h0
    obtain ⟨⟨d, δ'⟩, ed, q⟩ := Option.bind_eq_some_iff.mp q
    dsimp only at q
    split at q
    · rename_i ds h1
      split at q
      · rename_i hz
        cases q
        obtain ⟨a, vs0, A00, s0, _, g0, _, _⟩ := R.lst h0
        refine ⟨.ref a, s0, .inl ⟨rfl, _, SqL.of g0⟩, F, δ, As, d, δ', R, ed, fun v F' H' A As' ev R' r' => ?_⟩
        obtain ⟨a1, vs, A0, s1, eA, g1, n1, ro⟩ := R'.lst h1
        have ea : a1 = a := by rw [s0] at s1; cases s1; rfl
        subst ea
        refine ⟨a1, vs, v, rfl, rfl, g1, Nat.lt_of_le_of_lt (by rw [ro.length]; exact hz) (small1000 (show 999 ≤ 1000 by decide)), ?_⟩
        have nd0 := R'.nd i
        rw [eA] at nd0
        have nd1 := List.nodup_cons.mp nd0
        have ai : a1 ∈ As' i := by rw [eA]; exact List.mem_cons_self
        refine k σ F' _ ev.fs (R'.wr h1 s1 eA g1 n1 (ro.snoc r') (fun z => ?_) (List.nodup_append.mpr ⟨nd1.2, ev.nd, fun x hx y hy e => ?_⟩) fun j x hj m z => ?_)
        · rcases List.mem_append.mp z with z | z
          · exact nd1.1 z
          · exact ev.dj i a1 ai z
        · subst e
          exact ev.dj i x (by rw [eA]; exact List.mem_cons_of_mem _ hx) hy
        · rcases List.mem_append.mp z with z | z
          · exact R'.dj j i x hj m (by rw [eA]; exact List.mem_cons_of_mem _ z)
          · exact ev.dj j x m z
      · cases q
    · cases q
  · cases q
def sApp2 (i : Nat) (fk : FD) (fm : FM) : SD := fun δ => match δ[i]? with
  | some (some (.lst ds)) => (fk δ).bind fun kd => match kd with
    | .int k => (ixN ds.length k).bind fun j => match ds[j]? with
      | some (.lst _) => (fm δ).bind fun p => match p.2[i]? with
        | some (some (.lst es)) => match es[j]? with
          | some (.lst row) => if row.length ≤ 999 ∧ es.length = ds.length then some (.nx (p.2.set i (some (.lst (es.set j (.lst (row ++ [p.1]))))))) else none
          | _ => none
        | _ => none
      | _ => none
    | _ => none
  | _ => none
theorem pm_app2 (i : Nat) {c : Expr} (hc : PE X c (tBM X.K "list" rAppend (tOp (rIxL X.K) (tVar i) (up X.K fk)) (tCons (upV X.K fm) tNil))) (hs : swapsWith c none pos.line X.env = pure false := by rfl) : PMD X (.Expr c pos) (sApp2 i fk fm) := impS (ps_expr hc hs) fun E σ H ⟨F, δ, r, ⟨As, R⟩, q, k⟩ => by
  unfold sApp2 at q
  split at q
  · rename_i ds h0
    obtain ⟨kd, ek, q⟩ := Option.bind_eq_some_iff.mp q
    split at q
    · rename_i kk
      obtain ⟨j, hj, q⟩ := Option.bind_eq_some_iff.mp q
      split at q
      · rename_i row0 hrow0
        obtain ⟨⟨d, δ'⟩, ed, q⟩ := Option.bind_eq_some_iff.mp q
        dsimp only at q
        split at q
        · rename_i es h1
          split at q
          · rename_i row hrow
            split at q
            · rename_i hz
              cases q
              obtain ⟨a, vs, b, ws, B0, O, s0, g0, hv0, gb, rr0, _, _, _, _, _⟩ := R.row h0 hrow0
              have ro0 := (R.lst h0)
              obtain ⟨a', vs', A0', s0', _, g0', _, rl⟩ := ro0
              have ea : a' = a := by rw [s0] at s0'; cases s0'; rfl
              subst ea
              have ev' : vs' = vs := by rw [g0] at g0'; cases g0'; rfl
              subst ev'
              refine ⟨.ref a', s0, δ, .int kk, R.toS, ek, fun iv H1 s1 ri => ?_⟩
              cases ri
              refine ⟨a', vs', kk, .ref b, rfl, rfl, SqL.of (s1 _ _ g0), ?_, .inl ⟨rfl, ws, SqL.of (s1 _ _ gb)⟩, ?_⟩
              · unfold L2.atI; rw [rl.length, hj]; exact hv0
              refine ⟨F, δ, As, d, δ', R.grow s1, ed, fun v F' H' A As' ev R' r' => ?_⟩
              obtain ⟨a1, vs1, b1, ws1, B1, O1, t0, u0, hv1, ub, rr1, ndB, inB, inO, aO, sep, fin⟩ := R'.row h1 hrow
              have ea : a1 = a' := by rw [s0] at t0; cases t0; rfl
              subst ea
              have es1 : vs1 = vs' := by
                have := (ev.hs _ _ (s1 _ _ g0))
                rw [u0] at this; cases this; rfl
              subst es1
              have eb : b1 = b := by rw [hv0] at hv1; cases hv1; rfl
              subst eb
              have nB := List.nodup_cons.mp ndB
              refine ⟨b1, ws1, v, rfl, rfl, ub, Nat.lt_of_le_of_lt (by rw [rr1.length]; exact hz.1) (small1000 (show 999 ≤ 1000 by decide)), ?_⟩
              refine k σ F' _ ev.fs (fin (rr1.snoc r') (fun z => ?_) (List.nodup_append.mpr ⟨nB.2, ev.nd, fun x hx y hy e => ?_⟩) (fun x m z => ?_) fun kx x hk m z => ?_)
              · rcases List.mem_append.mp z with z | z
                · exact nB.1 z
                · exact ev.dj i b1 (inB b1 List.mem_cons_self) z
              · subst e; exact ev.dj i x (inB x (List.mem_cons_of_mem _ hx)) hy
              · rcases List.mem_append.mp m with m | m
                · exact sep x (List.mem_cons_of_mem _ m) z
                · exact ev.dj i x (inO x z) m
              · rcases List.mem_append.mp z with z | z
                · exact R'.dj kx i x hk m (inB x (List.mem_cons_of_mem _ z))
                · exact ev.dj kx x m z
            · cases q
          · cases q
        · cases q
      · cases q
    · cases q
  · cases q
def sPut2 (i : Nat) (fk fl : FD) (fm : FM) : SD := fun δ => (fm δ).bind fun p => if imm p.1 then match p.2[i]? with
  | some (some (.lst ds)) => (fk p.2).bind fun kd => match kd with
    | .int k => (ixN ds.length k).bind fun j => match ds[j]? with
      | some (.lst row) => (fl p.2).bind fun ld => match ld with
        | .int l => (ixN row.length l).bind fun m => some (.nx (p.2.set i (some (.lst (ds.set j (.lst (row.set m p.1)))))))
        | _ => none
      | _ => none
    | _ => none
  | _ => none else none
theorem pm_put2 (i : Nat) {tg : Expr} {fl : FD} (he : PV X e fm) (hg : PG X tg (gSub (tOp (rIxL X.K) (tVar i) (up X.K fk)) (up X.K fl) rSetL)) (hs : swapsWithSole [tg] e pos.line X.env = pure false := by rfl) (hw : swappedStores [tg] e X.env = pure none := by rfl)
    (h1 : (assignEach [tg] X.env).map (·.2) = [assign tg X.env] := by rfl) : PMD X (.Assign [tg] e pos) (sPut2 i fk fl fm) := impS (ps_asg he hg hs hw h1) fun E σ H ⟨F, δ, r, ⟨As, R⟩, q, k⟩ => by
  unfold sPut2 at q
  obtain ⟨⟨d, δ'⟩, ed, q⟩ := Option.bind_eq_some_iff.mp q
  dsimp only at q
  split at q
  · rename_i hi
    split at q
    · rename_i ds h1
      obtain ⟨kd, ek, q⟩ := Option.bind_eq_some_iff.mp q
      split at q
      · rename_i kk
        obtain ⟨j, hj, q⟩ := Option.bind_eq_some_iff.mp q
        split at q
        · rename_i row hrow
          obtain ⟨ld, el, q⟩ := Option.bind_eq_some_iff.mp q
          split at q
          · rename_i ll
            obtain ⟨m, hm, q⟩ := Option.bind_eq_some_iff.mp q
            cases q
            refine ⟨F, δ, As, d, δ', R, ed, fun v F' H' A As' ev R' r' => ?_⟩
            have eA : A = [] := r'.none_of hi
            subst eA
            obtain ⟨a, vs, A0, s0, _, g0, _, rl⟩ := R'.lst h1
            refine ⟨.ref a, s0, δ', .int kk, R'.toS, ek, fun iv H1 s1 ri => ?_⟩
            cases ri
            have R1 := R'.grow s1
            obtain ⟨a1, vs1, b, ws, B0, O, t0, u0, hv1, ub, rr1, ndB, inB, inO, aO, sep, _⟩ := R1.row h1 hrow
            have ea : a1 = a := by rw [s0] at t0; cases t0; rfl
            subst ea
            have es1 : vs1 = vs := by
              have := s1 _ _ g0
              rw [u0] at this; cases this; rfl
            subst es1
            refine ⟨a1, vs1, kk, .ref b, rfl, rfl, SqL.of u0, by unfold L2.atI; rw [rl.length, hj]; exact hv1, ?_⟩
            refine ⟨δ', .int ll, R1.toS, el, fun iv2 H2 s2 ri2 => ?_⟩
            cases ri2
            have R2 := R1.grow s2
            obtain ⟨a2, vs2, b2, ws2, B2, O2, t2, u2, hv2, ub2, rr2, ndB2, inB2, inO2, aO2, sep2, fin⟩ := R2.row h1 hrow
            have ea : a2 = a1 := by rw [s0] at t2; cases t2; rfl
            subst ea
            have es2 : vs2 = vs1 := by
              have := s2 _ _ u0
              rw [u2] at this; cases this; rfl
            subst es2
            have eb : b2 = b := by rw [hv1] at hv2; cases hv2; rfl
            subst eb
            refine ⟨b2, ws2, ll, m, rfl, rfl, ub2, by rw [rr2.length]; exact hm, ?_⟩
            have ml : m < row.length := (ixN_seq hm).2.1
            obtain ⟨v0, C1, C, C3, _, _, eC, pk⟩ := rr2.pick (i := m) (d := row[m]) (List.getElem?_eq_getElem ml)
            have rv : RepO X.K F' H2 v d [] := r'.frame (same_keepI (s1.trans s2)) fun x mm => nomatch mm
            have rn := pk (H' := H2) (fun _ _ e _ => e) (fun _ _ => rfl) rv
            have nB := List.nodup_cons.mp ndB2
            have nB2 := nB.2
            rw [eC] at nB2
            have n1 := List.nodup_append.mp nB2
            have n2 := List.nodup_append.mp n1.2.1
            have inC : ∀ x, x ∈ C1 ++ ([] ++ C3) → x ∈ B2 := fun x mm => by
              rw [eC]
              rcases List.mem_append.mp mm with z | z
              · exact List.mem_append_left _ z
              · exact List.mem_append_right _ (List.mem_append_right _ (by simpa using z))
            refine k σ F' _ ev.fs (fin rn (fun z => nB.1 (inC _ z)) (List.nodup_append.mpr ⟨n1.1, by simpa using n2.2.1, fun x hx y hy e => ?_⟩) (fun x mm => sep2 x (List.mem_cons_of_mem _ (inC x mm))) fun kx x hk mm z => R2.dj kx i x hk mm (inB2 x (List.mem_cons_of_mem _ (inC x z))))
            subst e
            exact n1.2.2 x hx x (List.mem_append_right _ (by simpa using hy)) rfl
          · cases q
        · cases q
      · cases q
    · cases q
  · cases q
end
end Dl
namespace Dl
open PySem PySem.Spec PyProof.Rows L2
def shO (δ : DS) : DS := δ.map (Option.map sh)
def ownOf (f : FM) (δ : DS) : Option D := (f δ).bind fun p => if own p.1 then some p.1 else none
theorem RepS.toA {K : PySem.W.Frag} {H : Hp} {σ : L2.St} {δ : DS} (R : RepS K H σ δ) : RepA K H H σ (shO δ) (fun _ => []) := by
  refine ⟨Same.refl H, by unfold shO; rw [List.length_map]; exact R.len, fun i d q => ?_, fun _ _ => rfl, fun _ => List.nodup_nil, fun _ _ _ _ m => nomatch m⟩
  unfold shO at q
  rw [List.getElem?_map] at q
  obtain ⟨o, h1, h2⟩ := Option.map_eq_some_iff.mp q
  cases o with
  | none => cases h2
  | some d0 =>
    cases h2
    obtain ⟨v, h3, h4⟩ := R.val i d0 h1
    exact ⟨v, h3, RepO.of_sh (Same.refl H) h4⟩
theorem ownUp {K : PySem.W.Frag} {H₂ H4 : Hp} {σ : L2.St} {δ : DS} {f : FM} {e : D} (h : ownOf f (shO δ) = some e) (R : RepS K H4 σ δ) (s : Same H₂ H4) : upV K f σ H4 fun v H5 => Same H4 H5 ∧ ∃ A, RepO K H₂ H5 v e A ∧ A.Nodup ∧ ∀ a ∈ A, H4 a = none := by
  unfold ownOf at h
  obtain ⟨⟨d, δ'⟩, e1, h⟩ := Option.bind_eq_some_iff.mp h
  split at h
  · rename_i ho
    cases h
    refine ⟨H4, shO δ, fun _ => [], d, δ', R.toA, e1, fun v F' H' A As' ev R' r' => ⟨ev.hs, A, (r'.thaw ev.fs ho).thaw s ho, ev.nd, fun a m => ?_⟩⟩
    rcases ev.fA a m with ⟨j, z⟩ | z
    · cases z
    · exact z
  · cases h
theorem none_before {H H' : Hp} {a : Addr} (s : Same H H') (h : H' a = none) : H a = none := by
  cases q : H a with
  | none => rfl
  | some u => rw [s a u q] at h; cases h
theorem accStep {K : PySem.W.Frag} {F H H' : Hp} {vs : List V} {ds : List D} {Acc A : List Addr} {v : V} {e : D} (r : RepOs K F H vs ds Acc) (nd : Acc.Nodup) (s : Same H H') (r' : RepO K F H' v e A) (nd' : A.Nodup) (fr : ∀ a ∈ A, H a = none) : ∃ Acc', RepOs K F H' (vs ++ [v]) (ds ++ [e]) Acc' ∧ Acc'.Nodup := by
  refine ⟨Acc ++ A, (r.frame (same_keepI s) fun a m => ?_).snoc r', List.nodup_append.mpr ⟨nd, nd', fun x hx y hy q => ?_⟩⟩
  · obtain ⟨⟨ws, e⟩, _⟩ := r.dom a m
    rw [e]; exact s a _ e
  · subst q
    obtain ⟨⟨ws, e⟩, _⟩ := r.dom x hx
    rw [fr x hy] at e; cases e
section
variable {X : Cx} {pins : List (Addr × Obj)} {σ : L2.St} {H₂ : Hp} {s₂ : Shared} {scope : Scope} {cl : List (Str × Addr)} {x : Str} {N : List Str} {js : List Nat} {C : Addr} {fp : List Addr}
theorem comp_blockF {elt iter : Expr} {px pos : Pos} {it : Addr} {tn : Nat → Heap → Prop} {J : It} {ds xs : List D} {δ : DS} {felt : FM} {RR : Value → Addr → Result → Shared → Prop} {E : Value → Shared → Prop} (I : L2.Inv X pins σ H₂ s₂) (hcm : X.calm = true) (O : CompOk X scope cl x N js)
    (T : Turn X.prog X.w X.K (.Name x px) J fp it tn) (st : tn 0 s₂.heap) (hf : ∀ b ∈ fp, FpOk X pins H₂ b) (itd : ItD X.K J H₂ ds) (R : RepS X.K H₂ σ δ) (he : ∀ C s₂ H₂ fp pn, PV (cxComp X scope cl x N C s₂ H₂ fp pn) elt felt)
    (hm : mapO (fun d => ownOf felt (shO (some d :: slotsOf js δ))) ds = some xs) (hz : xs.length ≤ 1000)
    (hRR : ∀ (D C : Addr) (s' : Shared) (Hend : Hp) (vs : List V), s₂.heap.objs.size ≤ C → L2.Inv X pins σ Hend s' → Same H₂ Hend → Hend D = some (.lst vs) → (∃ Acc, RepOs X.K H₂ Hend vs xs Acc ∧ Acc.Nodup ∧ D ∉ Acc ∧ H₂ D = none) → (∃ m, s'.heap.Ns C m) → Hend C = none → RR (.ref D) C (.ok .next) s') :
    wpAny (model X.prog X.w) X.A (newList []) (fun acc s₃ => wpAny (model X.prog X.w) X.A (newFunctionEnv scope X.env.globals cl [] X.env.qual none .none (some X.env)) (fun cenv s₄ =>
      codeAny (model X.prog X.w) X.A (.compStart (.ListComp elt [⟨.Name x px, iter, [], 0⟩] scope pos) 0 (.ref it) acc { cenv with scope := relabel scope X.env }) (RR acc cenv.locals) s₄) E s₃) E s₂ := by
  obtain ⟨ml, mg'⟩ := mapO_get hm
  have objs := T.obj 0 s₂.heap st
  have objs' : ∀ b ∈ fp, ∃ o, s₂.heap.get? b = some o := fun b hb => let ⟨o, h, _⟩ := objs b hb; ⟨o, h⟩
  refine wpAny_newObj_type (wpAny_newFunctionEnv O.nocell (by intro y hy; simp at hy) (fun h₁ hns₁ hsb₁ => ?_) O.kind)
  dsimp only at hns₁ hsb₁ ⊢
  generalize hP : s₂.heap.push { cls := .type "list", dict := none, data := .seq ([] : List Value).toArray } = P2 at hns₁ hsb₁ ⊢
  have hC : P2.objs.size = s₂.heap.objs.size + 1 := by rw [← hP, Heap.size_push]
  generalize hCC : P2.objs.size = C at *
  have hCle : s₂.heap.objs.size ≤ C := by omega
  have hDle : s₂.heap.objs.size ≤ s₂.heap.objs.size := by omega
  have hDC : s₂.heap.objs.size ≠ C := by omega
  have old : ∀ b o, s₂.heap.get? b = some o → h₁.get? b = some o := fun b o e => by
    refine hsb₁.extBut b o (Nat.ne_of_lt (Nat.lt_of_lt_of_le (Heap.lt_size e) hCle)) (Heap.get?_push_of_some _ ?_)
    rw [← hP]
    exact Heap.get?_push_of_some _ e
  have hacc : h₁.get? s₂.heap.objs.size = some { cls := .type "list", data := .seq ([] : List Value).toArray } := by
    refine hsb₁.extBut s₂.heap.objs.size _ hDC (Heap.get?_push_of_some _ ?_)
    rw [← hP]
    exact Heap.get?_push_size _ rfl
  have I0 := fun tk => comp_start (C := C) (tk := tk) I hcm O hCle hf objs' old hns₁ I.len
  have dstk : s₂.heap.objs.size ∉ frs X.stack := notIn_stack I hDle
  have fne : ∀ b ∈ fp, b ≠ s₂.heap.objs.size := fun b hb e => by
    obtain ⟨o, h⟩ := objs' b hb
    exact absurd (Heap.lt_size h) (by rw [e]; exact Nat.lt_irrefl _)
  have cne : ∀ y c, cl.lookup y = some c → c ≠ s₂.heap.objs.size := fun y c e z => by
    obtain ⟨v, o, h1, _⟩ := I.cell y c (O.cls y c e)
    exact absurd (Heap.lt_size h1) (by rw [z]; exact Nat.lt_irrefl _)
  have pne : ∀ p ∈ X.pn ++ pins, p.1 ≠ s₂.heap.objs.size := fun p hp e => by
    exact absurd (Heap.lt_size (I.pin p hp).1) (by rw [e]; exact Nat.lt_irrefl _)
  have stat : ∀ {H' : Hp} {pl : List (Addr × Obj)}, (∀ b ∈ fp, H' b = none) → (∀ p ∈ pl, ∀ b ∈ fp, p.1 ≠ b) → ∀ b ∈ fp, FpOk (cxComp X scope cl x N C s₂ H₂ fp (X.pn ++ pins)) pl H' b := fun {H' pl} hn hpl b hb => by
    obtain ⟨o, h⟩ := objs' b hb
    refine ⟨hn b hb, Nat.ne_of_lt (Nat.lt_of_lt_of_le (Heap.lt_size h) hCle), fun z => ?_, .inl hb, fun y c e => (hf b hb).2.2.2.2.1 y c (O.cls y c e), fun p hp => ?_⟩
    · rcases List.mem_cons.mp (I.stkSub b z) with e | e
      · exact (hf b hb).2.1 e
      · exact (hf b hb).2.2.1 e
    · rcases List.mem_append.mp hp with q | q
      · exact (hf b hb).2.2.2.2.2 p q
      · exact hpl p q b hb
  have loop : ∀ s₃ : Shared, s₃ = { s₂ with heap := h₁, toks := s₂.toks + ([] : List (Str × Value)).length } →
      codeAny (model X.prog X.w) X.A (.compLoop (.ListComp elt [⟨.Name x px, iter, [], 0⟩] scope pos) 0 (.ref it) (.ref s₂.heap.objs.size) (compEnvC scope cl C X.env)) (RR (.ref s₂.heap.objs.size) C) s₃ := by
    rintro s₃ rfl
    refine compLoop_own (fun n s => ∃ (i : Nat) (σ' : L2.St) (H' : Hp) (vs : List V) (o : Option D), n = ds.length - i ∧ i ≤ ds.length ∧ L2.Inv (cxComp X scope cl x N C s₂ H₂ fp (X.pn ++ pins)) [] σ' H' s ∧ Same H₂ H' ∧ RepS X.K H' σ' (o :: slotsOf js δ) ∧ tn i s.heap ∧ (∀ b ∈ fp, H' b = none) ∧
      (∃ (its : List Value) (k : Nat), Vals vs its ∧ s.heap.get? s₂.heap.objs.size = some { cls := .type "list", data := .seq its.toArray k }) ∧ H' s₂.heap.objs.size = none ∧ (∃ Acc, RepOs X.K H₂ H' vs (xs.take i) Acc ∧ Acc.Nodup) ∧ vs.length = i) ?_ ds.length
      ⟨0, _, H₂, [], none, rfl, Nat.zero_le _, I0 _, Same.refl _, slots_rep R js, T.keep 0 _ _ st (fun b hb o e => old b o e), fun b hb => (hf b hb).1, ⟨[], 0, .nil, hacc⟩, I.hok.fresh hDle, ⟨[], .nil, List.nodup_nil⟩, rfl⟩
    rintro n s ⟨i, σ', H', vs, o, rfl, hi, I', sm, R', st', fr', ⟨its, k, rv, hD⟩, fD, ⟨Acc, rr, nda⟩, hl⟩
    by_cases hlt : i < ds.length
    · -- one more
      obtain ⟨go, yl⟩ := (itd i H' sm).1 hlt
      have hd0 : ds[i]? = some ds[i] := by simp [hlt]
      obtain ⟨e, ge, xe⟩ := mg' i _ hd0
      have I1 : L2.Inv (cxComp X scope cl x N C s₂ H₂ fp (X.pn ++ pins)) [(s₂.heap.objs.size, { cls := .type "list", data := .seq its.toArray k })] σ' H' s := I'.pins_of fun p hp => by
        have : p = (s₂.heap.objs.size, { cls := .type "list", data := .seq its.toArray k }) := by simpa using hp
        subst this
        exact ⟨hD, fD, hDC, dstk, fun v z => by cases z⟩
      refine thn (T.item (cxComp X scope cl x N C s₂ H₂ fp (X.pn ++ pins)) rfl rfl rfl rfl i _ s σ' H' (fun _ _ => False) I1 (stat fr' fun p hp b hb => by
        have : p = (s₂.heap.objs.size, { cls := .type "list", data := .seq its.toArray k }) := by simpa using hp
        subst this
        exact (fne b hb).symm) st' go) fun r s1 ⟨u, hr, h4⟩ => ?_
      subst hr
      refine thn h4 fun _ s2 ⟨y, H'', I2, ru, yy, st2, fr2⟩ => ?_
      obtain ⟨s3, d, hd, rd⟩ := yl y H'' yy
      have hd' : d = ds[i] := by rw [hd0] at hd; exact (Option.some.inj hd).symm
      subst hd'
      have I3 := I2.pinned (stat fr2 fun p hp b hb => by
        have : p = (s₂.heap.objs.size, { cls := .type "list", data := .seq its.toArray k }) := by simpa using hp
        subst this
        exact (fne b hb).symm) (T.obj _ _ st2)
      refine thn (pg_name (X := cxComp X scope cl x N C s₂ H₂ fp (X.pn ++ pins)) (i := 0) O.nd O.h0 (.inl (lookup_relabel_local O.hx)) (.inl (by simp)) _ s2 σ' H'' y u (fun σ4 H4 => σ4 = σ'.set 0 (some y) ∧ H4 = H'') I3 ru ⟨rfl, rfl⟩) fun _ s4 ⟨σ4, H4, I4, e1, e2⟩ => ?_
      subst e1 e2
      have R4 : RepS X.K H4 (σ'.set 0 (some y)) (some ds[i] :: slotsOf js δ) := (R'.mono s3).set 0 rd
      refine thn (he C s₂ H₂ fp (X.pn ++ pins) _ s4 (σ'.set 0 (some y)) H4 (fun v H5 => Same H4 H5 ∧ ∃ A, RepO X.K H₂ H5 v e A ∧ A.Nodup ∧ ∀ a ∈ A, H4 a = none) I4 (ownUp ge R4 (sm.trans s3))) fun wv s5 ⟨v, H5, I5, rw5, s45, A5, r5, nd5, fr5⟩ => ?_
      have hD5 : s5.heap.get? s₂.heap.objs.size = some { cls := .type "list", data := .seq its.toArray k } := (I5.pin (s₂.heap.objs.size, { cls := .type "list", data := .seq its.toArray k }) (by simp)).1
      have fD5 : H5 s₂.heap.objs.size = none := (I5.pin (s₂.heap.objs.size, { cls := .type "list", data := .seq its.toArray k }) (by simp)).2.1
      have pf : ∀ b ∈ fp, ∀ ob, s2.heap.get? b = some ob → s5.heap.get? b = some ob ∧ H5 b = none := fun b hb ob hob => by
        have := I5.pin (b, ob) (List.mem_append_right _ (List.mem_append_right _ (mem_pinsAt hb hob)))
        exact ⟨this.1, this.2.1⟩
      have lz : its.length ≤ 1000 := by
        have := rv.length
        omega
      refine call_meets F.slot_list_append ⟨_, hD5, rfl⟩ F.entry_list_append (F.args_list_append_2 _ _) (PySem.list_append s₂.heap.objs.size its.toArray k wv (by rw [List.size_toArray]; exact le_line lz)) ⟨hD5, ?_⟩
      have q := PySem.IsL.update hD5 (fun a => a.push wv)
      have I6 : L2.Inv (cxComp X scope cl x N C s₂ H₂ fp (X.pn ++ pins)) [] (σ'.set 0 (some y)) H5 { s5 with heap := s5.heap.update s₂.heap.objs.size (Obj.mapSeq fun a => a.push wv), toks := s5.toks } :=
        (I5.pins_of (pins' := []) fun p hp => by simp at hp).turned (it := s₂.heap.objs.size) (t' := s5.toks) (fun b ob hb hu => (Heap.get?_update_other s5.heap _ (Ne.symm hb)).trans hu) fD5 hDC (.inr hDle) cne (fun p hp => by
          rcases List.mem_append.mp hp with z | z
          · exact pne p z
          · simp at z)
      refine ⟨ds.length - (i + 1), by omega, i + 1, σ'.set 0 (some y), H5, vs ++ [v], some ds[i], rfl, hlt, I6, (sm.trans s3).trans s45, R4.mono s45, ?_, ?_, ?_, fD5, ?_, by simp [hl]⟩
      · refine T.keep _ _ _ st2 fun b hb ob hob => ?_
        exact (Heap.get?_update_other s5.heap _ (Ne.symm (fne b hb))).trans (pf b hb ob hob).1
      · intro b hb
        obtain ⟨ob, hob, _⟩ := T.obj _ _ st2 b hb
        exact (pf b hb ob hob).2
      · have hf7 : its.toArray.push wv = (its ++ [wv]).toArray := by simp
        rw [hf7] at q
        exact ⟨its ++ [wv], _, rv.append (.cons rw5 .nil), q⟩
      · have e8 : xs.take (i + 1) = xs.take i ++ [e] := by
          rw [List.take_add_one, xe]; rfl
        rw [e8]
        exact accStep rr nda (s3.trans s45) r5 nd5 fun a m => (none_before s3 (fr5 a m))
    · -- the end
      have hie : i = ds.length := by omega
      refine thn (T.done (cxComp X scope cl x N C s₂ H₂ fp (X.pn ++ pins)) rfl rfl rfl rfl i [(s₂.heap.objs.size, { cls := .type "list", data := .seq its.toArray k })] s σ' H' (fun _ _ => False) (I'.pins_of fun p hp => by
        have : p = (s₂.heap.objs.size, { cls := .type "list", data := .seq its.toArray k }) := by simpa using hp
        subst this
        exact ⟨hD, fD, hDC, dstk, fun v z => by cases z⟩) (stat fr' fun p hp b hb => by
        have : p = (s₂.heap.objs.size, { cls := .type "list", data := .seq its.toArray k }) := by simpa using hp
        subst this
        exact (fne b hb).symm) st' ((itd i H' sm).2 (by omega))) fun r s1 ⟨hr, I8⟩ => ?_
      subst hr
      have hD8 : s1.heap.get? s₂.heap.objs.size = some { cls := .type "list", data := .seq its.toArray k } := (I8.pin (s₂.heap.objs.size, { cls := .type "list", data := .seq its.toArray k }) (by simp)).1
      have hxs : xs.take i = xs := List.take_of_length_le (by omega)
      rw [hxs] at rr
      have sn := same_new fD (.lst vs)
      have dn : ∀ b, ∀ u, H' b = some u → b ≠ s₂.heap.objs.size := fun b u z => ne_of_none z fD
      have un : Un (frs X.stack) fp H₂ (upd H' s₂.heap.objs.size (.lst vs)) s₂.heap s1.heap := by
        have b0 := I8.base
        refine ⟨fun b ob e n1 n2 n3 => b0.keep b ob e n1 n2 n3, fun b ob e n1 n2 n3 => b0.slot b ob e n1 n2 n3, fun b ob e n1 n3 => ?_, fun b ob e n3 => b0.there b ob e n3, fun b zs e => ?_, fun b ob u e => ?_, fun b ps e => ?_⟩
        · rw [upd_ne (Nat.ne_of_lt (Heap.lt_size e))]
          exact b0.free b ob e n1 n3
        · have z := b0.tups b zs e
          rw [upd_ne (dn _ _ z)]
          exact z
        · have z := b0.frzs b ob u e
          rw [upd_ne (dn _ _ z)]
          exact z
        · obtain ⟨more, z⟩ := b0.tbls b ps e
          exact ⟨more, by rw [upd_ne (dn _ _ z)]; exact z⟩
      have hok : HOk X.prog X.w (upd H' s₂.heap.objs.size (.lst vs)) s1.heap := fun b u z => by
        by_cases hb : b = s₂.heap.objs.size
        · rw [hb] at z ⊢
          rw [upd_same] at z
          cases z
          exact ⟨le_line (by omega), its, k, rv, hD8⟩
        · rw [upd_ne hb] at z
          exact (I8.hok b u z).stay (fun _ _ _ q => q) (fun c q => by rw [upd_ne (dn _ _ q)]; exact q) fun c ys q => by rw [upd_ne (dn _ _ q)]; exact q
      have IX : L2.Inv X pins σ (upd H' s₂.heap.objs.size (.lst vs)) s1 := I.call' I8.os un hok I8.bare fun b hb => ⟨(hf b hb).2.2.2.1, (hf b hb).2.1, (hf b hb).2.2.2.2.1, (hf b hb).2.2.2.2.2⟩
      obtain ⟨m8, hn8, _⟩ := I8.loc
      refine hRR s₂.heap.objs.size C s1 _ vs hCle IX (sm.trans sn) upd_same ⟨Acc, rr.frame (same_keepI sn) (fun a m => by
        obtain ⟨⟨ws, e⟩, _⟩ := rr.dom a m
        rw [e]; exact sn a _ e), nda, fun m => (by
        obtain ⟨⟨ws, e⟩, _⟩ := rr.dom _ m
        rw [fD] at e; cases e), I.hok.fresh hDle⟩ ⟨m8, hn8⟩ ?_
      rw [upd_ne (Ne.symm hDC)]
      exact I8.free
  exact codeAny_compStart_list (loop _ rfl) (T.self X.A 0 _ _ _ (T.keep 0 _ _ st (fun b hb o e => old b o e)) (loop _ rfl))
def vComp (src : FA) (js : List Nat) (felt : FM) : FM := fun δ => (src δ).bind fun ds => (mapO (fun d => ownOf felt (shO (some d :: slotsOf js δ))) ds).bind fun xs => if xs.length ≤ 1000 then some (.lst xs, δ) else none
theorem mapO_owns {f : FM} {g : D → DS} : ∀ {ds xs : List D}, mapO (fun d => ownOf f (g d)) ds = some xs → owns xs = true
  | [], xs, h => by cases h; rfl
  | d :: ds, xs, h => by
    obtain ⟨x, ex, h⟩ := Option.bind_eq_some_iff.mp (show ((ownOf f (g d)).bind _) = some xs from h)
    obtain ⟨ys, ey, h⟩ := Option.bind_eq_some_iff.mp h
    cases h
    rw [owns, mapO_owns ey, Bool.and_true]
    unfold ownOf at ex
    obtain ⟨p, _, ex⟩ := Option.bind_eq_some_iff.mp ex
    split at ex
    · rename_i ho; cases ex; exact ho
    · cases ex
theorem compRep {K : PySem.W.Frag} {F H H1 Hend : Hp} {σ : L2.St} {δ : DS} {As : Nat → List Addr} {xs : List D} {vs : List V} {D : Addr} (RA : RepA K F H σ δ As) (ho : owns xs = true) (s : Same H Hend) (s1 : Same H H1) (hD : Hend D = some (.lst vs)) (h : ∃ Acc, RepOs K H1 Hend vs xs Acc ∧ Acc.Nodup ∧ D ∉ Acc ∧ H1 D = none) :
    ∃ A, Ev F H As F Hend As A ∧ RepA K F Hend σ δ As ∧ RepO K F Hend (.ref D) (.lst xs) A := by
  obtain ⟨Acc, r, nd, nD, hn⟩ := h
  refine ⟨D :: Acc, .fresh s (fun a m => ?_) (List.nodup_cons.mpr ⟨nD, nd⟩) (fun i a m => (RA.dom m).1), RA.grow s, .lst hD ?_ (r.thaw (RA.fz.trans s1) ho)⟩
  · rcases List.mem_cons.mp m with z | z
    · rw [z]; exact none_before s1 hn
    · exact none_before s1 (r.dom a z).2
  · exact none_before (RA.fz.trans s1) hn
theorem compEnd {K : PySem.W.Frag} {F H H1 Hend : Hp} {σ : L2.St} {δ : DS} {As : Nat → List Addr} {xs : List D} {vs : List V} {D : Addr} {Q : VK} (RA : RepA K F H σ δ As) (k : ∀ v F' H' A As', Ev F H As F' H' As' A → RepA K F' H' σ δ As' → RepO K F' H' v (.lst xs) A → Q v H') (ho : owns xs = true) (s : Same H Hend) (s1 : Same H H1) (hD : Hend D = some (.lst vs)) (h : ∃ Acc, RepOs K H1 Hend vs xs Acc ∧ Acc.Nodup ∧ D ∉ Acc ∧ H1 D = none) : Q (.ref D) Hend := by
  obtain ⟨A, ev, R', r'⟩ := compRep RA ho s s1 hD h
  exact k _ F Hend A As ev R' r'
theorem compEndS {K : PySem.W.Frag} {F H H1 Hend : Hp} {σ : L2.St} {δ : DS} {As : Nat → List Addr} {xs : List D} {vs : List V} {D : Addr} {Q : L2.St → Hp → Prop} (i : Nat) (RA : RepA K F H σ δ As) (k : ∀ σ' F' H', Same F F' → RepM K F' H' σ' (δ.set i (some (.lst xs))) → Q σ' H') (ho : owns xs = true) (s : Same H Hend) (s1 : Same H H1) (hD : Hend D = some (.lst vs)) (h : ∃ Acc, RepOs K H1 Hend vs xs Acc ∧ Acc.Nodup ∧ D ∉ Acc ∧ H1 D = none) : Q (σ.set i (some (.ref D))) Hend := by
  obtain ⟨A, ev, R', r'⟩ := compRep RA ho s s1 hD h
  exact k _ F Hend (Same.refl F) (R'.setM i r' ev.nd ev.dj)
theorem pv_comp {elt iter : Expr} {px pos : Pos} {src : FA} {felt : FM} (hi : PID X (.Name x px) iter src) {N : List Str} {js : List Nat} (he : ∀ C s₂ H₂ fp pn, PV (cxComp X scope cl x N C s₂ H₂ fp pn) elt felt) (O : CompOk X scope cl x N js) (hcm : X.calm = true := by rfl)
    (hs : ∀ v, foldedSetIterable iter X.env v = pure v := by intro _; rfl) : PV X (.ListComp elt [⟨.Name x px, iter, [], 0⟩] scope pos) (vComp src js felt) := by
  intro pins s σ H Q I ⟨F, δ, As, d, δ', RA, q, k⟩
  have R := RA.toS
  unfold vComp at q
  obtain ⟨ds, eds, q⟩ := Option.bind_eq_some_iff.mp q
  obtain ⟨xs, exs, q⟩ := Option.bind_eq_some_iff.mp q
  by_cases hz : xs.length ≤ 1000
  · rw [if_pos hz] at q
    cases q
    rw [eval_ListComp]
    refine wpAny_comprehension_free (use := none) rfl hs O.clos O.kind O.names ?_
    refine wpAny_mono (hi pins s σ H (fun J H1 => Same H H1 ∧ ItD X.K J H1 ds) I ⟨δ, ds, R, eds, fun J H1 s1 itd => ⟨s1, itd⟩⟩) (fun v s1 h1 => wpAny_mono h1 (fun itv s2 h2 => ?_) fun _ _ z => z) fun _ _ z => z
    obtain ⟨it, fp, tn, J, H2, rfl, I2, T, st, hf, s1, itd⟩ := h2
    refine comp_blockF (RR := fun acc C => compPost (model X.prog X.w) X.A X.xe none (EP X pins σ Q) acc C) I2 hcm O T st hf itd (R.mono s1) he exs hz ?_
    intro D C s' Hend vs hC IX sm hD rr ⟨m, hn⟩ fC
    exact ⟨m, hn, fun h' hs' => ⟨.ref D, Hend, inv_letgo IX I2 hC fC hs', rfl, compEnd RA k (mapO_owns exs) (s1.trans sm) s1 hD rr⟩⟩
  · rw [if_neg hz] at q; cases q
theorem pm_comp (i : Nat) {y : Str} {elt iter : Expr} {px py pos spos : Pos} {src : FA} {felt : FM} (hN : X.N.Nodup) (hi : PID X (.Name x px) iter src) {N : List Str} {js : List Nat} (he : ∀ C s₂ H₂ fp pn, PV (cxComp X scope cl x N C s₂ H₂ fp pn) elt felt) (O : CompOk X scope cl x N js)
    (hsw : swapsWith (.ListComp elt [⟨.Name x px, iter, [], 0⟩] scope pos) (some (.Name y py)) spos.line X.env = pure true := by rfl) (hy : X.N[i]? = some y := by rfl) (hl : Loc X.env.scope y := by first | exact Or.inl rfl | exact Or.inr rfl) (hcm : X.calm = true := by rfl)
    (hs : ∀ v, foldedSetIterable iter X.env v = pure v := by intro _; rfl) (hfn : X.fn y = true ∨ X.env.scope.names.lookup y = some .local := by first | exact .inl rfl | exact .inr rfl | assumption) :
    PMD X (.Assign [.Name y py] (.ListComp elt [⟨.Name x px, iter, [], 0⟩] scope pos) spos) (sSetM i (vComp src js felt)) := by
  intro pins s σ H D I ⟨F, δ, r, ⟨As, RA⟩, q, k⟩
  have R := RA.toS
  unfold sSetM at q
  obtain ⟨⟨d, δ'⟩, ed, q⟩ := Option.bind_eq_some_iff.mp q
  cases q
  unfold vComp at ed
  obtain ⟨ds, eds, q⟩ := Option.bind_eq_some_iff.mp ed
  obtain ⟨xs, exs, q⟩ := Option.bind_eq_some_iff.mp q
  by_cases hz : xs.length ≤ 1000
  · rw [if_pos hz] at q
    cases q
    rw [exec_Assign_Name_used _ _ _ _ hsw]
    refine wpAny_bind (wpAny_standAt (wpAny_bind ?_))
    show wpAny _ X.A (do let _ ← comprehension (.ListComp elt [⟨.Name x px, iter, [], 0⟩] scope pos) scope X.env _ (newList []) false (eval iter X.env) (some (assign (.Name y py) X.env))) _ _ s
    refine wpAny_bind (wpAny_mono (wpAny_comprehension_free (use := some (assign (.Name y py) X.env)) (Q := fun _ s' => SP X pins D .next s') rfl hs O.clos O.kind O.names ?_) (fun _ s' hq => wpAny_pure (wpAny_pure hq)) fun _ _ z => z)
    refine wpAny_mono (hi pins s σ H (fun J H1 => Same H H1 ∧ ItD X.K J H1 ds) I ⟨δ, ds, R, eds, fun J H1 s1 itd => ⟨s1, itd⟩⟩) (fun v s1 h1 => wpAny_mono h1 (fun itv s2 h2 => ?_) fun _ _ z => z) fun _ _ z => z
    obtain ⟨it, fp, tn, J, H2, rfl, I2, T, st, hf, s1, itd⟩ := h2
    refine comp_blockF (RR := fun acc C => compPost (model X.prog X.w) X.A X.xe (some (assign (.Name y py) X.env)) (fun _ s' => SP X pins D .next s') acc C) I2 hcm O T st hf itd (R.mono s1) he exs hz ?_
    intro DA C s' Hend vs hC IX sm hD rr ⟨m, hn⟩ fC
    show wpAny _ X.A (assign (.Name y py) X.env (.ref DA)) _ _ s'
    refine wpAny_assign_Name (store_ok2 (v := .ref DA) IX hN hy hl rfl (fun s9 I9 ⟨a, hsb, ha⟩ => ?_) hfn)
    have hCa : C ≠ a := by
      rintro rfl
      rcases ha with z | z
      · exact absurd (Nat.lt_of_lt_of_le I2.lt (by rw [← z]; exact hC)) (Nat.lt_irrefl _)
      · obtain ⟨v, o, h1, _⟩ := I2.cell y _ z
        exact absurd (Nat.lt_of_lt_of_le (Heap.lt_size h1) hC) (Nat.lt_irrefl _)
    refine ⟨m, hn.at' fun o e => (hsb.2 C hCa).trans e, fun h' hs' => ⟨_, Hend, ?_, compEndS i RA k (mapO_owns exs) (s1.trans sm) s1 hD rr⟩⟩
    exact I9.turned (it := C) (t' := s9.toks) (fun b o hb e => (hs'.2 b hb).trans e) fC (Nat.ne_of_gt (Nat.lt_of_lt_of_le I2.lt hC)) (.inr (Nat.le_trans I2.sz hC))
      (fun y c e z => by
        obtain ⟨v, o, h1, _⟩ := I2.cell y c e
        exact absurd (Nat.lt_of_lt_of_le (Heap.lt_size h1) (by rw [z]; exact hC)) (Nat.lt_irrefl _))
      (fun p hp z => absurd (Nat.lt_of_lt_of_le (Heap.lt_size (I2.pin p hp).1) (by rw [z]; exact hC)) (Nat.lt_irrefl _))
  · rw [if_neg hz] at q; cases q
end
end Dl
namespace Dl
open PySem PySem.Spec PyProof.Rows L2
section
variable {K : PySem.W.Frag} {F H : Hp} {σ : L2.St} {δ : DS} {As : Nat → List Addr}
theorem RepOs.of_imm : ∀ {vs : List V} {ds : List D}, Reps K H vs ds → imms ds = true → RepOs K F H vs ds []
  | _, _, .nil, _ => .nil
  | _, _, .cons r t, i => by
    rw [imms, Bool.and_eq_true] at i
    exact .cons (.imm i.1 r) (RepOs.of_imm t i.2) rfl
theorem newImm {H1 : Hp} {vs : List V} {ds : List D} {p : Addr} {Q : VK} (R : RepA K F H σ δ As) (s : Same H H1) (r : Reps K H1 vs ds) (i : imms ds = true) (hp : H1 p = none)
    (k : ∀ v F' H' A As', Ev F H As F' H' As' A → RepA K F' H' σ δ As' → RepO K F' H' v (.lst ds) A → Q v H') : Q (.ref p) (upd H1 p (.lst vs)) := by
  have sn := same_new hp (.lst vs)
  have np := none_before s hp
  refine k _ F _ [p] As (.fresh (s.trans sn) (fun a m => ?_) (List.nodup_cons.mpr ⟨fun z => (nomatch z), List.nodup_nil⟩) (fun i a m => (R.dom m).1)) (R.grow (s.trans sn)) (.lst upd_same (none_before R.fz np) (RepOs.of_imm (r.mono sn) i))
  rw [List.mem_singleton.mp m]
  exact np
end
def lstImm (d : D) (δ : DS) : Option (D × DS) := match d with
  | .lst ds => if imms ds then some (.lst ds, δ) else none
  | _ => none
theorem lstImm_inv {d d' : D} {δ δ' : DS} (h : lstImm d δ = some (d', δ')) : ∃ ds, d = .lst ds ∧ d' = .lst ds ∧ δ' = δ ∧ imms ds = true := by
  unfold lstImm at h
  split at h
  · rename_i ds
    split at h
    · rename_i hi
      cases h
      exact ⟨ds, rfl, rfl, rfl, hi⟩
    · cases h
  · cases h
def gListOf : List D → Option D
  | [.lst ds] => some (.lst ds)
  | [.seq ds] => some (.lst ds)
  | [.tup ds] => some (.lst ds)
  | _ => none
def vListOf (g : FA) : FM := fun δ => (g δ).bind fun ds => (gListOf ds).bind fun d => lstImm d δ
def gRep : D → D → Option D
  | .lst ds, .int k => if ds.length * k.toNat ≤ 1000 ∧ k ≤ 1000 ∧ -1000 ≤ k then some (.lst (List.replicate k.toNat ds).flatten) else none
  | _, _ => none
def vRep (fa fb : FD) : FM := fun δ => (f2 gRep fa fb δ).bind fun d => lstImm d δ
section
variable {X : Cx} {e a b : Expr} {f fa fb : FD} {lo hi : Option Expr} {fl fh : FO} {g : FA} {pos p2 p : Pos}
theorem pv_listof (hg : Gl X "list") (hm : X.mg "list" = none) (hv : bootBuiltins "list" = some (.type "list")) (ha : PAD X [e] g) (he : starEach [e] X.env = (false, eval e X.env) :: starEach [] X.env := by rfl) (hpl : (backTo pos (starEach [] X.env)).any (·.1) = false := by rfl) :
    PV X (.Call (.Name "list" p) [e] [] pos) (vListOf g) := imp (pe_callTy call_list_of hg hm hv ha (by decide) (by decide) he hpl) fun σ H Q ⟨F, δ, As, d, δ', RA, q, k⟩ => by
  unfold vListOf at q
  obtain ⟨xs, exs, q⟩ := Option.bind_eq_some_iff.mp q
  obtain ⟨d0, e0, q⟩ := Option.bind_eq_some_iff.mp q
  obtain ⟨ds, rfl, rfl, rfl, hi⟩ := lstImm_inv q
  refine ⟨_, xs, RA.toS, exs, fun vs H1 s1 r1 l => ?_⟩
  unfold gListOf at e0
  split at e0
  · cases e0
    obtain ⟨v, rfl, rv⟩ := reps1 r1
    cases rv with
    | @lst p vs _ hp rp => exact ⟨p, vs, rfl, .inl (SqL.of hp), fun l hl => newImm RA s1 rp hi hl k⟩
  · cases e0
    obtain ⟨v, rfl, rv⟩ := reps1 r1
    cases rv with
    | @seq p vs _ hp rp => exact ⟨p, vs, rfl, .inl hp, fun l hl => newImm RA s1 rp hi hl k⟩
  · cases e0
    obtain ⟨v, rfl, rv⟩ := reps1 r1
    cases rv with
    | @tup p vs _ hp rp => exact ⟨p, vs, rfl, .inr hp, fun l hl => newImm RA s1 rp hi hl k⟩
  · cases e0
theorem Reps.repl {K : PySem.W.Frag} {H : Hp} {vs : List V} {ds : List D} (r : Reps K H vs ds) : ∀ n : Nat, Reps K H (List.replicate n vs).flatten (List.replicate n ds).flatten
  | 0 => .nil
  | n + 1 => by
    rw [List.replicate_succ, List.replicate_succ, List.flatten_cons, List.flatten_cons]
    exact r.append (Reps.repl r n)
theorem pv_rep (ha : PD X a fa) (hb : PD X b fb) : PV X (.BinOp a .Mult b pos) (vRep fa fb) := imp (pe_op op_rep ha hb) fun σ H Q ⟨F, δ, As, d, δ', RA, q, k⟩ => by
  unfold vRep at q
  obtain ⟨d0, e0, q⟩ := Option.bind_eq_some_iff.mp q
  obtain ⟨ds, rfl, rfl, rfl, hi⟩ := lstImm_inv q
  unfold f2 at e0
  obtain ⟨x, ex, e0⟩ := Option.bind_eq_some_iff.mp e0
  obtain ⟨y, ey, e0⟩ := Option.bind_eq_some_iff.mp e0
  refine ⟨_, x, RA.toS, ex, fun v H1 s1 r1 => ⟨_, y, RA.toS.mono s1, ey, fun w H2 s2 r2 => ?_⟩⟩
  match x, y, r1, r2, e0 with
  | .lst es, .int n, r1, r2, e0 =>
    have e1 : (if es.length * n.toNat ≤ 1000 ∧ n ≤ 1000 ∧ -1000 ≤ n then some (D.lst (List.replicate n.toNat es).flatten) else none) = some (.lst ds) := e0
    split at e1
    · rename_i hz
      cases e1
      have r1' := r1.mono s2
      cases r2
      cases r1' with
      | @lst p vs _ hp rp => exact ⟨p, n, vs, rfl, rfl, hp, by omega, by omega, by rw [rp.length]; exact le_line hz.1, fun l hl => newImm RA (s1.trans s2) (rp.repl n.toNat) hi hl k⟩
    · cases e1
end
theorem imms_mem : ∀ {ds : List D}, imms ds = true ↔ ∀ d ∈ ds, imm d = true
  | [] => ⟨fun _ _ m => (nomatch m), fun _ => rfl⟩
  | d :: ds => by
    rw [imms, Bool.and_eq_true, imms_mem (ds := ds)]
    exact ⟨fun h e m => (List.mem_cons.mp m).elim (fun z => z ▸ h.1) (h.2 e), fun h => ⟨h d List.mem_cons_self, fun e m => h e (List.mem_cons_of_mem _ m)⟩⟩
section
variable {K : PySem.W.Frag} {F H : Hp} {σ : L2.St} {δ : DS} {As : Nat → List Addr}
theorem Reps.reverse {vs : List V} {ds : List D} (r : Reps K H vs ds) : Reps K H vs.reverse ds.reverse := by
  induction vs generalizing ds with
  | nil => cases r; exact .nil
  | cons v vs ih =>
    cases r with
    | cons r t => rw [List.reverse_cons, List.reverse_cons]; exact (ih t).append (.cons r .nil)
theorem Reps.dropLast {vs : List V} {ds : List D} (r : Reps K H vs ds) : Reps K H vs.dropLast ds.dropLast := by
  rw [List.dropLast_eq_take, List.dropLast_eq_take, r.length]
  exact r.take _
end
section
variable {X : Cx} {pos : Pos}
end
end Dl
namespace Dl
open PySem PySem.Spec PyProof.Rows L2
end Dl
namespace Dl
open PySem PySem.Spec PyProof.Rows L2
def eqL (f : D → D → Option Bool) : List D → List D → Option Bool
  | [], [] => some true
  | [], _ :: _ => some false
  | _ :: _, [] => some false
  | a :: as, b :: bs => (f a b).bind fun x => (eqL f as bs).bind fun y => some (x && y)
def eqN : Nat → D → D → Option Bool
  | 0, a, b => if flatD a && flatD b then some (eqF a b) else none
  | n + 1, a, b => match a, b with
    | .tup as, .tup bs => eqL (eqN n) as bs
    | .lst as, .lst bs => eqL (eqN n) as bs
    | .lst as, .seq bs => eqL (eqN n) as bs
    | .seq as, .lst bs => eqL (eqN n) as bs
    | .seq as, .seq bs => eqL (eqN n) as bs
    | .non, .tup _ => some false
    | .tup _, .non => some false
    | .non, .lst _ => some false
    | .lst _, .non => some false
    | .non, .seq _ => some false
    | .seq _, .non => some false
    | a, b => if flatD a && flatD b then some (eqF a b) else none
theorem eqL_get {f : D → D → Option Bool} : ∀ {as bs : List D} {c : Bool}, eqL f as bs = some c → ∀ (j : Nat) (a b : D), as[j]? = some a → bs[j]? = some b → ∃ x, f a b = some x
  | [], _, _, _, _, _, _, h, _ => by simp at h
  | _ :: _, [], _, _, _, _, _, _, h => by simp at h
  | a :: as, b :: bs, c, h, j, x, y, h1, h2 => by
    obtain ⟨u, e1, h⟩ := Option.bind_eq_some_iff.mp (show ((f a b).bind _) = some c from h)
    obtain ⟨v, e2, h⟩ := Option.bind_eq_some_iff.mp h
    cases j with
    | zero => simp at h1 h2; subst h1 h2; exact ⟨u, e1⟩
    | succ j => exact eqL_get e2 j x y (by simpa using h1) (by simpa using h2)
theorem eqL_all {f : D → D → Option Bool} : ∀ {as bs : List D} {c : Bool} {e : Nat → Bool}, eqL f as bs = some c → (∀ (j : Nat) (a b : D) (x : Bool), as[j]? = some a → bs[j]? = some b → f a b = some x → e j = x) → ((List.range (min as.length bs.length)).all e && as.length == bs.length) = c
  | [], [], c, e, h, _ => by cases h; rfl
  | [], _ :: _, c, e, h, _ => by cases h; simp
  | _ :: _, [], c, e, h, _ => by cases h; simp
  | a :: as, b :: bs, c, e, h, he => by
    obtain ⟨u, e1, h⟩ := Option.bind_eq_some_iff.mp (show ((f a b).bind _) = some c from h)
    obtain ⟨v, e2, h⟩ := Option.bind_eq_some_iff.mp h
    cases h
    have ih := eqL_all (e := fun j => e (j + 1)) e2 fun j x y z h1 h2 h3 => he (j + 1) x y z (by simpa using h1) (by simpa using h2) h3
    have h0 : e 0 = u := he 0 a b u rfl rfl e1
    show ((List.range (min (as.length + 1) (bs.length + 1))).all e && (as.length + 1) == (bs.length + 1)) = (u && v)
    have hm : min (as.length + 1) (bs.length + 1) = min as.length bs.length + 1 := by omega
    have hq : ((as.length + 1) == (bs.length + 1)) = (as.length == bs.length) := by rw [Bool.eq_iff_iff]; simp
    rw [← ih, ← h0, hm, List.range_succ_eq_map, List.all_cons, List.all_map, Bool.and_assoc, hq]
    rfl
theorem eqL_len {f : D → D → Option Bool} : ∀ {as bs : List D} {c : Bool}, eqL f as bs = some c → as.length ≠ bs.length → c = false
  | [], [], _, _, n => absurd rfl n
  | [], _ :: _, c, h, _ => by cases h; rfl
  | _ :: _, [], c, h, _ => by cases h; rfl
  | a :: as, b :: bs, c, h, n => by
    obtain ⟨u, e1, h⟩ := Option.bind_eq_some_iff.mp (show ((f a b).bind _) = some c from h)
    obtain ⟨v, e2, h⟩ := Option.bind_eq_some_iff.mp h
    cases h
    rw [eqL_len e2 (fun z => n (congrArg (· + 1) z)), Bool.and_false]
theorem eqAt_nr {A : Around} {s : Shared} {b : Addr} {k : Bool} (h : SeqAt.RcAt A s .none (.ref b) k) : SeqAt.EqAt A s .none (.ref b) k := fun prog w E Q hq => by
  unfold eqBool
  refine wpAny_holding (wpAny_ite_split (fun z => nomatch (eq_of_beq z : Value.none = Value.ref b)) fun _ => ?_)
  have z := h prog w E (fun a s' => wpAny (model prog w) A (truthOfDropped a) Q E s') (wpAny_truthy_bool hq)
  exact wpAny_bind z
theorem eqAt_rn {A : Around} {s : Shared} {b : Addr} {k : Bool} (h : SeqAt.RcAt A s (.ref b) .none k) : SeqAt.EqAt A s (.ref b) .none k := fun prog w E Q hq => by
  unfold eqBool
  refine wpAny_holding (wpAny_ite_split (fun z => nomatch (eq_of_beq z : Value.ref b = Value.none)) fun _ => ?_)
  have z := h prog w E (fun a s' => wpAny (model prog w) A (truthOfDropped a) Q E s') (wpAny_truthy_bool hq)
  exact wpAny_bind z
section
variable {X : Cx} {pins : List (Addr × Obj)} {σ : L2.St} {H : Hp} {s : Shared}
theorem same_true (I : L2.Inv X pins σ H s) : ∀ (n : Nat) {v : V} {a b : D} {c : Bool}, Rep X.K H v a → Rep X.K H v b → eqN n a b = some c → c = true
  | 0, v, a, b, c, ra, rb, h => by
    unfold eqN at h
    split at h
    · rename_i hf
      cases h
      rw [Bool.and_eq_true] at hf
      have e1 := (ra.flat hf.1).2
      have e2 := (rb.flat hf.2).2
      rw [← eqV_eqF e1 e2]
      cases ra <;> first | rfl | (simp [eqV]; done) | exact absurd hf.1 Bool.false_ne_true
    · cases h
  | n + 1, v, a, b, c, ra, rb, h => by
    have many : ∀ {vs : List V} {as bs : List D}, Reps X.K H vs as → Reps X.K H vs bs → ∀ {c : Bool}, eqL (eqN n) as bs = some c → c = true := by
      intro vs
      induction vs with
      | nil => intro as bs r1 r2 c h; cases r1; cases r2; cases h; rfl
      | cons v vs ih =>
        intro as bs r1 r2 c h
        cases r1 with
        | cons p1 t1 =>
          cases r2 with
          | cons p2 t2 =>
            obtain ⟨u, e1, h⟩ := Option.bind_eq_some_iff.mp (show ((eqN n _ _).bind _) = some c from h)
            obtain ⟨w, e2, h⟩ := Option.bind_eq_some_iff.mp h
            cases h
            rw [same_true I n p1 p2 e1, ih t1 t2 e2]
            rfl
    have flatC : ∀ {a b : D}, Rep X.K H v a → Rep X.K H v b → (if flatD a && flatD b then some (eqF a b) else none) = some c → c = true := fun {a b} ra rb h => by
      refine same_true I 0 ra rb ?_
      unfold eqN
      exact h
    cases ra with
    | non => cases rb; exact flatC .non .non h
    | bl x => cases rb; exact flatC (.bl x) (.bl x) h
    | int x => cases rb; exact flatC (.int x) (.int x) h
    | str x => cases rb; exact flatC (.str x) (.str x) h
    | ty x => cases rb; exact flatC (.ty x) (.ty x) h
    | @tup p vs as hp rp =>
      cases rb with
      | @tup _ ws bs hq rq =>
        have e := I.tuple_inj hp hq
        subst e
        exact many rp rq h
      | lst _ _ => cases h
      | seq _ _ => cases h
      | dct _ => cases h
      | exc _ => cases h
      | cls _ => cases h
    | @lst p vs as hp rp =>
      cases rb with
      | @lst _ ws bs hq rq =>
        have e := I.list_inj (SqL.of (K := X.K) hp) (SqL.of hq)
        subst e
        exact many rp rq h
      | @seq _ ws bs hq rq =>
        have e := I.list_inj (SqL.of hp) hq
        subst e
        exact many rp rq h
      | tup _ _ => cases h
      | dct _ => cases h
      | exc _ => cases h
      | cls _ => cases h
    | @seq p vs as hp rp =>
      cases rb with
      | @lst _ ws bs hq rq =>
        have e := I.list_inj hp (SqL.of hq)
        subst e
        exact many rp rq h
      | @seq _ ws bs hq rq =>
        have e := I.list_inj hp hq
        subst e
        exact many rp rq h
      | tup _ _ => cases h
      | dct _ => cases h
      | exc _ => cases h
      | cls _ => cases h
    | dct h1 => cases rb <;> cases h
    | exc h1 => cases rb <;> cases h
    | cls C => cases rb <;> cases h
theorem eq_at (I : L2.Inv X pins σ H s) : ∀ (n : Nat) (A : Around), A.units + n < cLine → ∀ {x y : V} {u v : Value} {a b : D} {c : Bool}, RelV x u → RelV y v → Rep X.K H x a → Rep X.K H y b → eqN n a b = some c → SeqAt.RcAt A s u v c ∧ SeqAt.RcNeAt A s u v (!c) ∧ SeqAt.EqAt A s u v c
  | 0, A, hu, x, y, u, v, a, b, c, rx, ry, ra, rb, h => by
    unfold eqN at h
    split at h
    · rename_i hf
      cases h
      rw [Bool.and_eq_true] at hf
      have z := rc_flat (A := A) (s := s) rx ry ra rb hf.1 hf.2
      refine ⟨z.1, z.2, ?_⟩
      rw [← eqV_eqF (ra.flat hf.1).2 (rb.flat hf.2).2]
      exact eqAt_V rx ry (ra.flat hf.1).1 (rb.flat hf.2).1
    · cases h
  | n + 1, A, hu, x, y, u, v, a, b, c, rx, ry, ra, rb, h => by
    have hu0 : A.units < cLine := by omega
    have hu1 : A.in1.units + n < cLine := by show A.units + 1 + n < cLine; omega
    have items : ∀ {vs ws : List V} {us zs : List Value} {as bs : List D} {c : Bool}, Vals vs us → Vals ws zs → Reps X.K H vs as → Reps X.K H ws bs → eqL (eqN n) as bs = some c →
        ∃ e : Nat → Bool, (∀ j (h1 : j < us.toArray.size) (h2 : j < zs.toArray.size), SeqAt.EqAt A.in1 s us.toArray[j] zs.toArray[j] (e j)) ∧ ∀ (j : Nat) (a b : D) (x : Bool), as[j]? = some a → bs[j]? = some b → eqN n a b = some x → e j = x := by
      intro vs ws us zs as bs c r1 r2 q1 q2 h
      refine ⟨fun j => ((as[j]?).bind fun a => (bs[j]?).bind fun b => eqN n a b).getD true, fun j h1 h2 => ?_, fun j a b x e1 e2 e3 => by dsimp only; rw [e1, e2, Option.bind_some, Option.bind_some, e3]; rfl⟩
      have l1 := r1.length
      have l2 := r2.length
      rw [List.size_toArray] at h1 h2
      have k1 : j < vs.length := by omega
      have k2 : j < ws.length := by omega
      obtain ⟨u', e1, p1⟩ := r1.get (i := j) (x := vs[j]) (by simp [k1])
      obtain ⟨z', e2, p2⟩ := r2.get (i := j) (x := ws[j]) (by simp [k2])
      obtain ⟨a', e3, p3⟩ := q1.getV (i := j) (v := vs[j]) (by simp [k1])
      obtain ⟨b', e4, p4⟩ := q2.getV (i := j) (v := ws[j]) (by simp [k2])
      have w1 : us.toArray[j] = u' := by
        have z : us[j]? = some us[j] := by simp [h1]
        rw [z] at e1; simpa using e1
      have w2 : zs.toArray[j] = z' := by
        have z : zs[j]? = some zs[j] := by simp [h2]
        rw [z] at e2; simpa using e2
      obtain ⟨x', ex⟩ := eqL_get h j a' b' e3 e4
      dsimp only
      rw [w1, w2, e3, e4, Option.bind_some, Option.bind_some, ex]
      exact (eq_at I n A.in1 hu1 p1 p2 p3 p4 ex).2.2
    have refs : ∀ {p q : Addr}, u = .ref p → v = .ref q → SeqAt.RcAt A s (.ref p) (.ref q) c → SeqAt.RcNeAt A s (.ref p) (.ref q) (!c) → SeqAt.RcAt A s u v c ∧ SeqAt.RcNeAt A s u v (!c) ∧ SeqAt.EqAt A s u v c := fun {p q} e1 e2 z1 z2 => by
      subst e1 e2
      refine ⟨z1, z2, ?_⟩
      by_cases hpq : p = q
      · subst hpq
        have exy : x = y := rx.inj ry
        subst exy
        rw [same_true I (n + 1) ra rb h]
        exact SeqAt.EqAt.same _
      · exact SeqAt.EqAt.of_refs hpq z1
    have lists : ∀ {p q : Addr} {vs ws : List V} {as bs : List D}, u = .ref p → v = .ref q → SqL X.K H p vs → SqL X.K H q ws → Reps X.K H vs as → Reps X.K H ws bs → eqL (eqN n) as bs = some c → SeqAt.RcAt A s u v c ∧ SeqAt.RcNeAt A s u v (!c) ∧ SeqAt.EqAt A s u v c := fun {p q vs ws as bs} e1 e2 hp hq rp rq hc => by
      obtain ⟨its, r1, t1, _⟩ := I.list hp
      obtain ⟨jts, r2, t2, _⟩ := I.list hq
      have l1 : its.toArray.size = as.length := by rw [List.size_toArray, ← r1.length, rp.length]
      have l2 : jts.toArray.size = bs.length := by rw [List.size_toArray, ← r2.length, rq.length]
      obtain ⟨e, he, hx⟩ := items r1 r2 rp rq hc
      by_cases hl : its.toArray.size = jts.toArray.size
      · have z := eqL_all hc hx
        have hb : (as.length == bs.length) = true := by rw [beq_iff_eq]; omega
        have hm : min as.length bs.length = its.toArray.size := by omega
        rw [hb, hm, Bool.and_true] at z
        have z1 := SeqAt.RcAt.lists (A := A) (s := s) t1.isList t2.isList hl hu0 he
        have z2 := SeqAt.RcNeAt.lists (A := A) (s := s) t1.isList t2.isList hl hu0 he
        rw [z] at z1 z2
        exact refs e1 e2 z1 z2
      · have z1 := SeqAt.RcAt.lists_lengths (A := A) (s := s) t1.isList t2.isList (by simpa [bne_iff_ne] using hl) hu0
        have z2 := SeqAt.RcNeAt.lists_lengths (A := A) (s := s) t1.isList t2.isList (by simpa [bne_iff_ne] using hl) hu0
        have z := eqL_len hc (by omega)
        subst z
        exact refs e1 e2 z1 z2
    have flatC : (if flatD a && flatD b then some (eqF a b) else none) = some c → SeqAt.RcAt A s u v c ∧ SeqAt.RcNeAt A s u v (!c) ∧ SeqAt.EqAt A s u v c := fun h => eq_at I 0 A (by omega) rx ry ra rb (by unfold eqN; exact h)
    cases ra with
    | non =>
      cases (show u = Value.none from rx)
      cases rb with
      | @tup q ws bs hq rq =>
        cases h
        cases (show v = Value.ref q from ry)
        obtain ⟨its, r1, t1, _⟩ := I.tuple hq
        exact ⟨SeqAt.RcAt.none_tuple t1 hu0, SeqAt.RcNeAt.none_tuple t1 hu0, eqAt_nr (SeqAt.RcAt.none_tuple t1 hu0)⟩
      | @lst q ws bs hq rq =>
        cases h
        cases (show v = Value.ref q from ry)
        obtain ⟨its, r1, t1, _⟩ := I.list (SqL.of (K := X.K) hq)
        exact ⟨SeqAt.RcAt.none_list t1.isList hu0, SeqAt.RcNeAt.none_list t1.isList hu0, eqAt_nr (SeqAt.RcAt.none_list t1.isList hu0)⟩
      | @seq q ws bs hq rq =>
        cases h
        cases (show v = Value.ref q from ry)
        obtain ⟨its, r1, t1, _⟩ := I.list hq
        exact ⟨SeqAt.RcAt.none_list t1.isList hu0, SeqAt.RcNeAt.none_list t1.isList hu0, eqAt_nr (SeqAt.RcAt.none_list t1.isList hu0)⟩
      | _ => exact flatC h
    | @tup p vs as hp rp =>
      cases rb with
      | @tup q ws bs hq rq =>
        obtain ⟨its, r1, t1, _⟩ := I.tuple hp
        obtain ⟨jts, r2, t2, _⟩ := I.tuple hq
        have l1 : its.toArray.size = as.length := by rw [List.size_toArray, ← r1.length, rp.length]
        have l2 : jts.toArray.size = bs.length := by rw [List.size_toArray, ← r2.length, rq.length]
        have hc : eqL (eqN n) as bs = some c := h
        obtain ⟨e, he, hx⟩ := items r1 r2 rp rq hc
        have z := eqL_all hc hx
        have z1 := SeqAt.RcAt.tuples (A := A) (s := s) t1 t2 hu0 he
        have z2 := SeqAt.RcNeAt.tuples (A := A) (s := s) t1 t2 hu0 he
        rw [l1, l2, z] at z1 z2
        exact refs (show u = Value.ref p from rx) (show v = Value.ref q from ry) z1 z2
      | non =>
        cases h
        cases (show u = Value.ref p from rx)
        cases (show v = Value.none from ry)
        obtain ⟨its, r1, t1, _⟩ := I.tuple hp
        exact ⟨SeqAt.RcAt.tuple_none t1 hu0, SeqAt.RcNeAt.tuple_none t1 hu0, eqAt_rn (SeqAt.RcAt.tuple_none t1 hu0)⟩
      | _ => cases h
    | @lst p vs as hp rp =>
      cases rb with
      | @lst q ws bs hq rq => exact lists (show u = Value.ref p from rx) (show v = Value.ref q from ry) (SqL.of hp) (SqL.of hq) rp rq h
      | @seq q ws bs hq rq => exact lists (show u = Value.ref p from rx) (show v = Value.ref q from ry) (SqL.of hp) hq rp rq h
      | non =>
        cases h
        cases (show u = Value.ref p from rx)
        cases (show v = Value.none from ry)
        obtain ⟨its, r1, t1, _⟩ := I.list (SqL.of (K := X.K) hp)
        exact ⟨SeqAt.RcAt.list_none t1.isList hu0, SeqAt.RcNeAt.list_none t1.isList hu0, eqAt_rn (SeqAt.RcAt.list_none t1.isList hu0)⟩
      | _ => cases h
    | @seq p vs as hp rp =>
      cases rb with
      | @lst q ws bs hq rq => exact lists (show u = Value.ref p from rx) (show v = Value.ref q from ry) hp (SqL.of hq) rp rq h
      | @seq q ws bs hq rq => exact lists (show u = Value.ref p from rx) (show v = Value.ref q from ry) hp hq rp rq h
      | non =>
        cases h
        cases (show u = Value.ref p from rx)
        cases (show v = Value.none from ry)
        obtain ⟨its, r1, t1, _⟩ := I.list hp
        exact ⟨SeqAt.RcAt.list_none t1.isList hu0, SeqAt.RcNeAt.list_none t1.isList hu0, eqAt_rn (SeqAt.RcAt.list_none t1.isList hu0)⟩
      | _ => cases h
    | bl x => cases rb <;> first | exact flatC h | cases h
    | int x => cases rb <;> first | exact flatC h | cases h
    | str x => cases rb <;> first | exact flatC h | cases h
    | ty x => cases rb <;> first | exact flatC h | cases h
    | dct h1 => cases rb <;> first | exact flatC h | cases h
    | exc h1 => cases rb <;> first | exact flatC h | cases h
    | cls C => cases rb <;> first | exact flatC h | cases h
end
def gEqN (a b : D) : Option D := (eqN 6 a b).map D.bl
def gNeN (a b : D) : Option D := (eqN 6 a b).map fun c => D.bl (!c)
def rEqN (K : PySem.W.Frag) : R2 := fun x y H Q => ∃ a b c, Rep K H x a ∧ Rep K H y b ∧ eqN 6 a b = some c ∧ Q (.bl c) H
def rNeN (K : PySem.W.Frag) : R2 := fun x y H Q => ∃ a b c, Rep K H x a ∧ Rep K H y b ∧ eqN 6 a b = some c ∧ Q (.bl (!c)) H
section
variable {X : Cx} {a b : Expr} {fa fb : FD} {pos : Pos}
theorem op_eqN (hu : X.A.units + 64 < cLine) : OpR X (compareOp .Eq) (rEqN X.K) := by
  intro pins s σ H x y v u Q I rx ry ⟨a, b, c, ra, rb, e, q⟩
  exact (eq_at I 6 X.A (by omega) rx ry ra rb e).1 X.prog X.w _ _ ⟨.bl c, H, I, rfl, q⟩
theorem op_neN (hu : X.A.units + 64 < cLine) : OpR X (compareOp .NotEq) (rNeN X.K) := by
  intro pins s σ H x y v u Q I rx ry ⟨a, b, c, ra, rb, e, q⟩
  exact (eq_at I 6 X.A (by omega) rx ry ra rb e).2.1 X.prog X.w _ _ ⟨.bl (!c), H, I, rfl, q⟩
theorem r2_eqN {K : PySem.W.Frag} : R2D K (rEqN K) gEqN := by
  intro x y H Q a b d ra rb e k
  unfold gEqN at e
  obtain ⟨c, hc, e⟩ := Option.map_eq_some_iff.mp e
  cases e
  exact ⟨a, b, c, ra, rb, hc, k _ H (Same.refl H) (.bl _)⟩
theorem r2_neN {K : PySem.W.Frag} : R2D K (rNeN K) gNeN := by
  intro x y H Q a b d ra rb e k
  unfold gNeN at e
  obtain ⟨c, hc, e⟩ := Option.map_eq_some_iff.mp e
  cases e
  exact ⟨a, b, c, ra, rb, hc, k _ H (Same.refl H) (.bl _)⟩
theorem pd_eqN (hu : X.A.units + 64 < cLine) (ha : PD X a fa) (hb : PD X b fb) : PD X (.Compare a [.Eq] [b] pos) (f2 gEqN fa fb) := pd_cmp (op_eqN hu) r2_eqN ha hb (nomark _)
theorem pd_neN (hu : X.A.units + 64 < cLine) (ha : PD X a fa) (hb : PD X b fb) : PD X (.Compare a [.NotEq] [b] pos) (f2 gNeN fa fb) := pd_cmp (op_neN hu) r2_neN ha hb (nomark _)
theorem ptd_eqN (hu : X.A.units + 64 < cLine) (ha : PD X a fa) (hb : PD X b fb) : PTD X (.Compare a [.Eq] [b] pos) (fT (f2 gEqN fa fb)) := ptd_cmp (op_eqN hu) r2_eqN ha hb (nomark _)
theorem ptd_neN (hu : X.A.units + 64 < cLine) (ha : PD X a fa) (hb : PD X b fb) : PTD X (.Compare a [.NotEq] [b] pos) (fT (f2 gNeN fa fb)) := ptd_cmp (op_neN hu) r2_neN ha hb (nomark _)
end
end Dl
namespace Dl
open PySem PySem.Spec PyProof.Rows L2
inductive Nm where
  | i (n : Int)
  | b (c : Bool)
def Nm.val : Nm → Int
  | .i n => n
  | .b c => if c then 1 else 0
def Nm.toV : Nm → V
  | .i n => .int n
  | .b c => .bl c
inductive NumsAre : List Value → List Nm → Prop
  | nil : NumsAre [] []
  | i (n : Int) (t : Tok) {vs : List Value} {ns : List Nm} (h : NumsAre vs ns) : NumsAre (.int n t :: vs) (.i n :: ns)
  | b (c : Bool) {vs : List Value} {ns : List Nm} (h : NumsAre vs ns) : NumsAre (.bool c :: vs) (.b c :: ns)
theorem NumsAre.length {vs : List Value} {ns : List Nm} (h : NumsAre vs ns) : vs.length = ns.length := by
  induction h with
  | nil => rfl
  | i _ _ _ ih => simp [ih]
  | b _ _ ih => simp [ih]
section
open PySem.SeqAt
open PySem.AutoSeq1 (wpAny_loadPart')
open PySem.MeetsSeq PySem.MeetsSeq2 PySem.MeetsSeq3
end
section
variable {X : Cx} {a b : Expr} {fa fb : FD} {pos : Pos}
end
def isLst : D → Option Bool
  | .lst _ => some true
  | .seq _ => some true
  | .ty _ => none
  | .exc _ => none
  | .cls _ => none
  | _ => some false
theorem ok_isLst (d : D) (b : Bool) (h : isLst d = some b) : IsiOk "list" d b := by
  cases d <;> (first | cases h) <;> first
    | exact ⟨_, rfl, fun K => kit_nn _ K⟩
    | exact ⟨_, rfl, fun K => by kernel_rfl⟩
theorem pvi {X : Cx} (i : Nat) {x : Str} {pos : Pos} (hN : X.N[i]? = some x := by rfl) (hv : Vis X.env.scope x := by first | exact Or.inl rfl | exact Or.inr (Or.inl rfl) | exact Or.inr (Or.inr rfl)) (hd : (x == ("__debug__" : Str)) = false := by decide)
    (hcd : (x == ("__classdict__" : Str)) = false := by decide) : PE X (.Name x pos) (tVar i) := pe_var hN hv hd hcd
end Dl
namespace Dl
open PySem PySem.Spec PyProof.Rows L2
def rowUp (X : Cx) (r : Nat) (g : List D → Option (List D)) : TS := fun E σ H => ∃ b ws ds es, σ[r]? = some (some (.ref b)) ∧ H b = some (.lst ws) ∧ Reps X.K H ws ds ∧ imms ds = true ∧ g ds = some es ∧ imms es = true ∧
  ∀ ws' H1, Same H H1 → Reps X.K H1 ws' es → E.nx σ (upd H1 b (.lst ws'))
def PRow (X : Cx) (r : Nat) (sts : List Stmt) (g : List D → Option (List D)) : Prop := PSs X sts (rowUp X r g)
theorem repS_none {K : PySem.W.Frag} {H : Hp} (σ : L2.St) : RepS K H σ (List.replicate σ.length none) := ⟨by simp, fun i d q => by
  rw [List.getElem?_replicate] at q
  split at q <;> cases q⟩
section
variable {X : Cx} {pos : Pos} {r : Nat} {c e : Expr} {f : FD} {g : List D → Option (List D)} {rest : List Stmt}
theorem row_nil : PRow X r [] some := impSs pss_nil fun E σ H ⟨b, ws, ds, es, h1, h2, rp, i1, h3, i2, k⟩ => by
  cases h3
  have z := k ws H (Same.refl H) rp
  have e : upd H b (.lst ws) = H := by
    funext x; unfold upd; split
    · rename_i q; rw [q, h2]
    · rfl
  rw [e] at z
  exact z
theorem row_next {E : Ends} {σ : L2.St} {H H1 : Hp} {b : Addr} {ws ws1 : List V} {es fs : List D} {r : Nat} {X : Cx} {u : TS} (hu : ∀ E σ H, rowUp X r g E σ H → u E σ H) (h1 : σ[r]? = some (some (.ref b))) (h2 : H b = some (.lst ws)) (s1 : Same H H1) (rp : Reps X.K H1 ws1 es) (i1 : imms es = true) (h3 : g es = some fs) (i2 : imms fs = true)
    (k : ∀ ws' H1, Same H H1 → Reps X.K H1 ws' fs → E.nx σ (upd H1 b (.lst ws'))) : u E σ (upd H1 b (.lst ws1)) := by
  have hb1 : H1 b = some (.lst ws) := s1 _ _ h2
  refine hu E σ _ ⟨b, ws1, es, fs, h1, upd_same, reps_keep (keep_upd hb1) rp i1, i1, h3, i2, fun ws2 H2 s2 r2 => ?_⟩
  have hb2 : H2 b = some (.lst ws1) := s2 _ _ upd_same
  have z := k ws2 (upd H2 b (.lst ws)) (fun a u e => by
    by_cases q : a = b
    · subst q; rw [upd_same, ← h2]; exact e
    · rw [upd_ne q]
      refine s2 a u ?_
      rw [upd_ne q]
      exact s1 a u e) (reps_keep (keep_upd hb2) r2 i2)
  rw [upd_upd] at z
  exact z
theorem row_rev (hc : PE X c (tBM0 X.K "list" rReverse (tVar r))) (hr : PRow X r rest g) (hs : swapsWith c none pos.line X.env = pure false := by rfl) : PRow X r (.Expr c pos :: rest) (fun ds => g ds.reverse) := impSs (pss_cons (ps_expr hc hs) hr) fun E σ H ⟨b, ws, ds, es, h1, h2, rp, i1, h3, i2, k⟩ => by
  refine ⟨.ref b, h1, .inl ⟨rfl, _, SqL.of h2⟩, b, ws, rfl, rfl, h2, ?_⟩
  exact row_next (u := rowUp X r g) (fun _ _ _ z => z) h1 h2 (Same.refl H) rp.reverse (imms_mem.mpr fun d m => imms_mem.mp i1 d (List.mem_reverse.mp m)) h3 i2 k
theorem row_app {d : D} (he : PD X e f) (hd : ∀ n, f (List.replicate n none) = some d) (id : imm d = true) (hc : PE X e (up X.K f) → PE X c (tBM X.K "list" rAppend (tVar r) (tCons (up X.K f) tNil))) (hr : PRow X r rest g) (hs : swapsWith c none pos.line X.env = pure false := by rfl) :
    PRow X r (.Expr c pos :: rest) (fun ds => if ds.length ≤ 999 then g (ds ++ [d]) else none) := impSs (pss_cons (ps_expr (hc he) hs) hr) fun E σ H ⟨b, ws, ds, es, h1, h2, rp, i1, h3, i2, k⟩ => by
  dsimp only at h3
  split at h3
  · rename_i hz
    refine ⟨.ref b, h1, .inl ⟨rfl, _, SqL.of h2⟩, List.replicate σ.length none, d, repS_none σ, hd _, fun v H1 s1 r1 => ?_⟩
    refine ⟨b, ws, v, rfl, rfl, s1 _ _ h2, Nat.lt_of_le_of_lt (by rw [rp.length]; exact hz) (small1000 (show 999 ≤ 1000 by decide)), ?_⟩
    refine row_next (u := rowUp X r g) (fun _ _ _ z => z) h1 h2 s1 ((rp.mono s1).append (.cons r1 .nil)) (imms_mem.mpr fun x m => ?_) h3 i2 k
    rcases List.mem_append.mp m with z | z
    · exact imms_mem.mp i1 x z
    · rw [List.mem_singleton.mp z]; exact id
  · cases h3
end
def rowF (g : List D → Option (List D)) : D → Option D
  | .lst ds => if imms ds then (g ds).bind fun es => if imms es then some (.lst es) else none else none
  | _ => none
theorem rowF_inv {g : List D → Option (List D)} {d e : D} (h : rowF g d = some e) : ∃ ds es, d = .lst ds ∧ e = .lst es ∧ imms ds = true ∧ g ds = some es ∧ imms es = true := by
  unfold rowF at h
  split at h
  · rename_i ds
    split at h
    · rename_i hi
      obtain ⟨es, h1, h⟩ := Option.bind_eq_some_iff.mp h
      split at h
      · rename_i hj
        cases h
        exact ⟨ds, es, rfl, rfl, hi, h1, hj⟩
      · cases h
    · cases h
  · cases h
theorem RepA.other {K : PySem.W.Frag} {F H : Hp} {σ : L2.St} {δ : DS} {As : Nat → List Addr} (R : RepA K F H σ δ As) {r : Nat} (v : Option V) (hr : ∀ d, δ[r]? ≠ some (some d)) : RepA K F H (σ.set r v) δ As := by
  refine ⟨R.fz, by rw [List.length_set]; exact R.len, fun i d q => ?_, R.non, R.nd, R.dj⟩
  obtain ⟨w, h1, h2⟩ := R.val i d q
  have : r ≠ i := fun z => hr d (z ▸ q)
  exact ⟨w, by rw [List.getElem?_set_ne this]; exact h1, h2⟩
theorem mid_set {α : Type} {as bs : List α} {j : Nat} (hl : as.length = bs.length) (h : j < as.length) : (as.take j ++ bs.drop j).set j as[j] = as.take (j + 1) ++ bs.drop (j + 1) := by
  have hj : (as.take j).length = j := by rw [List.length_take]; omega
  rw [List.set_append_right _ _ (by omega), hj, Nat.sub_self, List.drop_eq_getElem_cons (by omega), List.set_cons_zero]
  have e : as.take (j + 1) = as.take j ++ [as[j]] := by rw [List.take_add_one, List.getElem?_eq_getElem h]; rfl
  rw [e, List.append_assoc]
  rfl
theorem mid_get {α : Type} {as bs : List α} {j : Nat} (hl : as.length = bs.length) (h : j < as.length) : (as.take j ++ bs.drop j)[j]? = some (bs[j]'(by omega)) := by
  have hj : (as.take j).length = j := by rw [List.length_take]; omega
  rw [List.getElem?_append_right (by omega), hj, Nat.sub_self, List.getElem?_drop]
  simp [show j < bs.length by omega]
end Dl
namespace Dl
open PySem PySem.Spec PyProof.Rows L2
theorem CompOk.nil {X : Cx} {scope : Scope} {x : Str} (clos : closureFor scope X.env = pure [] := by rfl) (nocell : ∀ y ∈ scope.names, y.2 ≠ .cell := by decide +kernel) (kind : scope.kind = .function := by rfl)
    (names : ∀ y ∈ scope.names, y.2 = .local → scope.names.lookup y.1 = some .local := by decide +kernel) (hx : scope.names.lookup x = some .local := by rfl) (hfr : ∀ p ∈ scope.names, p.2 ≠ .free := by decide +kernel) : CompOk X scope [] x [x] [] where
  clos := clos
  nocell := nocell
  kind := kind
  names := names
  hx := hx
  nd := by simp
  h0 := rfl
  len := rfl
  clx := rfl
  cls := fun y a h => by cases h
  has := fun y h => by
    have key : ∀ k, (k = NameKind.cell ∨ k = NameKind.free) → (relabel scope X.env).names.lookup y = some k → False := fun k hk h => by
      have m := PySem.mem_of_lookup h
      unfold relabel at m
      obtain ⟨⟨n, k'⟩, m1, m2⟩ := List.mem_map.mp m
      dsimp only at m2
      refine hfr _ m1 ?_
      show k' = NameKind.free
      split at m2
      · rename_i hc
        rw [Bool.and_eq_true, Bool.and_eq_true] at hc
        exact beq_iff_eq.mp hc.1.1
      · have e : k' = k := congrArg Prod.snd m2
        rcases hk with z1 | z1
        · exact absurd (e.trans z1) (nocell _ m1)
        · exact e.trans z1
    rcases h with h | h
    · exact (key _ (.inl rfl) h).elim
    · exact (key _ (.inr rfl) h).elim
  fr := fun i y k h1 h2 => by simp at h2
theorem flat_int (i : Int) : flatD (.int i) = true := rfl
theorem flat_bl (b : Bool) : flatD (.bl b) = true := rfl
end Dl
namespace Dl
open PySem PySem.Spec PyProof.Rows L2
def tNames : List Nat → TGs
  | [] => gNil
  | i :: is => gCons (gName i) (tNames is)
def setO : List Nat → List D → DS → DS
  | i :: is, d :: ds, δ => setO is ds (δ.set i (some d))
  | _, _, δ => δ
def inAll (is : List Nat) (n : Nat) : Bool := is.all fun i => decide (i < n)
theorem reps_own {K : PySem.W.Frag} {F H : Hp} : ∀ {vs : List V} {ds : List D}, Reps K H vs ds → imms ds = true → RepOs K F H vs ds []
  | _, _, .nil, _ => .nil
  | _, _, .cons r t, i => by
    rw [imms, Bool.and_eq_true] at i
    exact .cons (.imm i.1 r) (reps_own t i.2) rfl
theorem RepO.parts {K : PySem.W.Frag} {F H : Hp} {v : V} {ds : List D} {A : List Addr} (r : RepO K F H v (.tup ds) A) : ∃ a vs, v = .ref a ∧ SqT K H a vs ∧ RepOs K F H vs ds A := by
  cases r with
  | imm i h =>
    cases h with
    | tup h r => exact ⟨_, _, rfl, h, reps_own r (by rw [Dl.imm] at i; exact i)⟩
  | tup h r => exact ⟨_, _, rfl, h, r⟩
theorem RepOs.len {K : PySem.W.Frag} {F H : Hp} : ∀ {vs : List V} {ds : List D} {A : List Addr}, RepOs K F H vs ds A → vs.length = ds.length
  | _, _, _, .nil => rfl
  | _, _, _, .cons _ t _ => by rw [List.length_cons, List.length_cons, RepOs.len t]
theorem names_ok {K : PySem.W.Frag} {F H : Hp} : ∀ (is : List Nat) {vs : List V} {ds : List D} {A : List Addr} {σ : L2.St} {δ : DS} {As : Nat → List Addr} {Q : L2.St → Hp → Prop}, RepOs K F H vs ds A → A.Nodup → (∀ j a, a ∈ As j → a ∉ A) → RepA K F H σ δ As → ds.length = is.length → inAll is δ.length = true → (∀ σ', RepM K F H σ' (setO is ds δ) → Q σ' H) → tNames is vs σ H Q
  | [], _, _, _, σ, δ, As, Q, .nil, _, _, R, _, _, k => ⟨rfl, k σ ⟨As, R⟩⟩
  | [], _, _, _, _, _, _, _, .cons _ _ _, _, _, _, l, _, _ => by cases l
  | _ :: _, _, _, _, _, _, _, _, .nil, _, _, _, l, _, _ => by cases l
  | i :: is, _, _, _, σ, δ, As, Q, .cons (v := v) (d := d) (vs := vs) (ds := ds) (A := A) (B := B) r t e, nd, dj, R, l, hi, k => by
    subst e
    have hi' : (decide (i < δ.length) && inAll is δ.length) = true := hi
    rw [Bool.and_eq_true] at hi'
    have h1 : i < δ.length := of_decide_eq_true hi'.1
    rw [List.nodup_append] at nd
    have R1 := R.set i h1 r nd.1 fun j a _ m z => dj j a m (List.mem_append_left _ z)
    refine ⟨v, vs, rfl, ?_⟩
    show tNames is vs (σ.set i (some v)) H Q
    refine names_ok is t nd.2.1 (fun j a m z => ?_) R1 (by simpa using l) (by rw [List.length_set]; exact hi'.2) k
    unfold asSet at m
    by_cases hj : j = i
    · rw [if_pos hj] at m
      exact nd.2.2 a m a z rfl
    · rw [if_neg hj] at m
      exact dj j a m (List.mem_append_right _ z)
def sUnM (is : List Nat) (fm : FM) : SD := fun δ => (fm δ).bind fun p => match p.1 with
  | .tup ds => if ds.length = is.length ∧ inAll is p.2.length = true then some (.nx (setO is ds p.2)) else none
  | _ => none
theorem pgN {X : Cx} (i : Nat) {x : Str} {pos : Pos} (hN : X.N.Nodup) (hi : X.N[i]? = some x := by rfl) (hx : Loc X.env.scope x := by first | exact Or.inl rfl | exact Or.inr rfl) (hf : X.fn x = true ∨ X.env.scope.names.lookup x = some .local := by first | exact .inl rfl | exact .inr rfl | assumption) : PG X (.Name x pos) (gName i) := pg_name hN hi hx hf
theorem pm_un {X : Cx} {e : Expr} {es : List Expr} {kt : Nat} {pt pos : Pos} {fm : FM} (is : List Nat) (he : PV X e fm) (hg : PG X (.Tuple es kt pt) (gTup X.K is.length (tNames is)))
    (hs : swapsWithSole [.Tuple es kt pt] e pos.line X.env = pure false := by rfl) (hw : swappedStores [.Tuple es kt pt] e X.env = pure none := by rfl)
    (h1 : (assignEach [.Tuple es kt pt] X.env).map (·.2) = [assign (.Tuple es kt pt) X.env] := by rfl) : PMD X (.Assign [.Tuple es kt pt] e pos) (sUnM is fm) := impS (ps_asg he hg hs hw h1) fun E σ H ⟨F, δ, r, ⟨As, R⟩, q, k⟩ => by
  unfold sUnM at q
  obtain ⟨⟨d, δ'⟩, ed, q⟩ := Option.bind_eq_some_iff.mp q
  dsimp only at q
  split at q
  · rename_i ds
    split at q
    · rename_i hl
      cases q
      refine ⟨F, δ, As, _, δ', R, ed, fun v F' H' A As' ev R' r' => ?_⟩
      obtain ⟨a, vs, rfl, sq, ro⟩ := r'.parts
      exact ⟨a, vs, rfl, sq, ro.len.trans hl.1, names_ok is ro ev.nd ev.dj R' hl.1 hl.2 fun σ' R2 => k σ' F' H' ev.fs R2⟩
    · cases q
  · cases q
end Dl
namespace Dl
open PySem PySem.Spec PyProof.Rows L2
theorem look2 {y z u : Str} {c e a : Addr} (h : List.lookup y [(z, c), (u, e)] = some a) : (y = z ∧ c = a) ∨ (y = u ∧ e = a) := by
  by_cases hy : y = z
  · subst hy
    simp at h
    exact .inl ⟨rfl, h⟩
  · have q : (y == z) = false := beq_eq_false_iff_ne.mpr hy
    rw [List.lookup_cons, q] at h
    by_cases hu : y = u
    · subst hu
      simp at h
      exact .inr ⟨rfl, h⟩
    · have q2 : (y == u) = false := beq_eq_false_iff_ne.mpr hu
      rw [List.lookup_cons, q2] at h
      cases h
theorem look2_1 {z u : Str} {c e : Addr} : List.lookup z [(z, c), (u, e)] = some c := by simp
theorem look2_2 {z u : Str} {c e : Addr} (h : z ≠ u) : List.lookup u [(z, c), (u, e)] = some e := by
  have q : (u == z) = false := beq_eq_false_iff_ne.mpr h.symm
  rw [List.lookup_cons, q]
  simp
theorem free_of {X : Cx} {scope : Scope} {y : Str} (nocell : ∀ y ∈ scope.names, y.2 ≠ .cell) (h : (relabel scope X.env).names.lookup y = some .cell ∨ (relabel scope X.env).names.lookup y = some .free) : ∃ p ∈ scope.names, p.2 = .free ∧ p.1 = y := by
  have key : ∀ k, (k = NameKind.cell ∨ k = NameKind.free) → (relabel scope X.env).names.lookup y = some k → ∃ p ∈ scope.names, p.2 = .free ∧ p.1 = y := fun k hk h => by
    have m := PySem.mem_of_lookup h
    unfold relabel at m
    obtain ⟨⟨n, k'⟩, m1, m2⟩ := List.mem_map.mp m
    dsimp only at m2
    refine ⟨_, m1, ?_, ?_⟩
    · show k' = NameKind.free
      split at m2
      · rename_i hc
        rw [Bool.and_eq_true, Bool.and_eq_true] at hc
        exact beq_iff_eq.mp hc.1.1
      · have e : k' = k := congrArg Prod.snd m2
        rcases hk with z1 | z1
        · exact absurd (e.trans z1) (nocell _ m1)
        · exact e.trans z1
    · show n = y
      split at m2 <;> exact congrArg Prod.fst m2
  rcases h with h | h
  · exact key _ (.inl rfl) h
  · exact key _ (.inr rfl) h
theorem CompOk.two {X : Cx} {scope : Scope} {c e : Addr} {x z u : Str} {j k : Nat} (clos : closureFor scope X.env = pure [(z, c), (u, e)] := by rfl) (nocell : ∀ y ∈ scope.names, y.2 ≠ .cell := by decide +kernel) (kind : scope.kind = .function := by rfl)
    (names : ∀ y ∈ scope.names, y.2 = .local → scope.names.lookup y.1 = some .local := by decide +kernel) (hx : scope.names.lookup x = some .local := by rfl) (hne : x ≠ z := by decide +kernel) (hne' : x ≠ u := by decide +kernel) (hzu : z ≠ u := by decide +kernel) (hcell : X.env.cells.lookup z = some c := by rfl) (hcell' : X.env.cells.lookup u = some e := by rfl)
    (hfr : ∀ p ∈ scope.names, p.2 = .free → p.1 = z ∨ p.1 = u := by decide +kernel) (hj : X.N[j]? = some z := by rfl) (hJ : X.N[k]? = some u := by rfl) (hk : X.env.scope.names.lookup z = some .cell := by rfl) (hk' : (relabel scope X.env).names.lookup z = some .cell := by rfl) (hu : X.env.scope.names.lookup u = some .cell := by rfl) (hu' : (relabel scope X.env).names.lookup u = some .cell := by rfl) : CompOk X scope [(z, c), (u, e)] x [x, z, u] [j, k] where
  clos := clos
  nocell := nocell
  kind := kind
  names := names
  hx := hx
  nd := by simp [hne, hne', hzu]
  h0 := rfl
  len := rfl
  clx := by
    cases q : List.lookup x [(z, c), (u, e)] with
    | none => rfl
    | some a => rcases look2 q with ⟨h, _⟩ | ⟨h, _⟩ <;> exact absurd h (by assumption)
  cls := fun y a h => by
    rcases look2 h with ⟨rfl, rfl⟩ | ⟨rfl, rfl⟩
    · exact hcell
    · exact hcell'
  has := fun y h => by
    obtain ⟨p, m, f, rfl⟩ := free_of nocell h
    rcases hfr p m f with q | q
    · exact ⟨c, by rw [q]; exact look2_1⟩
    · exact ⟨e, by rw [q]; exact look2_2 hzu⟩
  fr := fun i y l h1 h2 => by
    match i with
    | 0 =>
      have e1 : z = y := Option.some.inj h1
      have e2 : j = l := Option.some.inj h2
      subst e1 e2
      refine ⟨hj, hk, hk', fun a ha => ?_⟩
      rw [hcell] at ha
      cases ha
      exact look2_1
    | 1 =>
      have e1 : u = y := Option.some.inj h1
      have e2 : k = l := Option.some.inj h2
      subst e1 e2
      refine ⟨hJ, hu, hu', fun a ha => ?_⟩
      rw [hcell'] at ha
      cases ha
      exact look2_2 hzu
    | i + 2 => cases h2
end Dl
namespace Dl
open PySem PySem.Spec PyProof.Rows L2
end Dl
namespace Dl
open PySem PySem.Spec PyProof.Rows L2
def CMulW (i j : Int) : Prop := (Bd i ∧ Bd j) ∨ L2.CMul i j
instance (i j : Int) : Decidable (CMulW i j) := by unfold CMulW L2.CMul; exact inferInstance
theorem op_mulW {X : Cx} : OpR X (binaryOp .Mult) (rI CMulW fun i j => .int (i * j)) := opI fun _ _ _ _ _ _ _ hc q => by
  rcases hc with hc | hc
  · exact mul_int q (.of_bits hc.1.bits hc.2.bits)
  · exact mul_int q hc.ok
theorem pd_mulW {X : Cx} {a b : Expr} {fa fb : FD} {pos : Pos} (ha : PD X a fa) (hb : PD X b fb) : PD X (.BinOp a .Mult b pos) (f2 (gI CMulW fun i j => .int (i * j)) fa fb) := pd_op op_mulW (r2_I fun _ _ _ => .int _) ha hb
def itemsOf : D → Option (List D)
  | .tup ds => some ds
  | .lst ds => some ds
  | .seq ds => some ds
  | _ => none
def gIn (a b : D) : Option D := (itemsOf b).bind fun ds => if flatD a && ds.all flatD then some (.bl (ds.any fun y => eqF y a)) else none
theorem reps_flat {K : PySem.W.Frag} {H : Hp} {a : D} {x : V} (ha : toV a = some x) : ∀ {vs : List V} {ds : List D}, Reps K H vs ds → ds.all flatD = true → vs.all flatV = true ∧ inV x vs = ds.any fun y => eqF y a
  | _, _, .nil, _ => ⟨rfl, rfl⟩
  | v :: vs, d :: ds, .cons r t, f => by
    rw [List.all_cons, Bool.and_eq_true] at f
    obtain ⟨h1, h2⟩ := r.flat f.1
    obtain ⟨h3, h4⟩ := reps_flat ha t f.2
    refine ⟨by rw [List.all_cons, h1, h3]; rfl, ?_⟩
    unfold inV at h4 ⊢
    rw [List.any_cons, List.any_cons, h4, eqV_eqF h2 ha]
theorem r2_in {K : PySem.W.Frag} : R2D K (rIn K false) gIn := by
  intro x y H Q a b d ra rb e k
  unfold gIn at e
  obtain ⟨ds, ed, e⟩ := Option.bind_eq_some_iff.mp e
  split at e
  · rename_i hf
    rw [Bool.and_eq_true] at hf
    cases e
    obtain ⟨fx, tx⟩ := ra.flat hf.1
    cases rb with
    | @tup p vs _ hp rp =>
      cases ed
      obtain ⟨h1, h2⟩ := reps_flat tx rp hf.2
      refine ⟨p, vs, rfl, .inr hp, fx, h1, ?_⟩
      show Q (.bl (inV x vs)) H
      rw [h2]
      exact k _ H (Same.refl H) (.bl _)
    | @lst p vs _ hp rp =>
      cases ed
      obtain ⟨h1, h2⟩ := reps_flat tx rp hf.2
      refine ⟨p, vs, rfl, .inl (SqL.of hp), fx, h1, ?_⟩
      show Q (.bl (inV x vs)) H
      rw [h2]
      exact k _ H (Same.refl H) (.bl _)
    | @seq p vs _ hp rp =>
      cases ed
      obtain ⟨h1, h2⟩ := reps_flat tx rp hf.2
      refine ⟨p, vs, rfl, .inl hp, fx, h1, ?_⟩
      show Q (.bl (inV x vs)) H
      rw [h2]
      exact k _ H (Same.refl H) (.bl _)
    | _ => cases ed
  · cases e
theorem ptd_in {X : Cx} {a b : Expr} {fa fb : FD} {pos : Pos} (ha : PD X a fa) (hb : PD X b fb) (hm : behindInMarks .In b = false := by with_unfolding_all rfl) : PTD X (.Compare a [.In] [b] pos) (fT (f2 gIn fa fb)) := ptd_cmp op_in_seq r2_in ha hb hm
def boolsOf : List D → Option (List Bool)
  | [] => some []
  | .bl b :: ds => (boolsOf ds).bind fun bs => some (b :: bs)
  | _ :: _ => none
def asLs : List D → Option (List D)
  | [.lst ds] => some ds
  | [.seq ds] => some ds
  | _ => none
def gAll (as : List D) : Option D := (asLs as).bind fun ds => (boolsOf ds).bind fun bs => some (.bl (bs.all id))
def gAny (as : List D) : Option D := (asLs as).bind fun ds => (boolsOf ds).bind fun bs => some (.bl (bs.any id))
theorem reps_bools {K : PySem.W.Frag} {H : Hp} : ∀ {vs : List V} {ds : List D} {bs : List Bool}, Reps K H vs ds → boolsOf ds = some bs → vs = bs.map V.bl
  | _, _, _, .nil, h => by cases h; rfl
  | v :: vs, d :: ds, bs, .cons r t, h => by
    cases d with
    | bl b =>
      obtain ⟨cs, h1, h2⟩ := Option.bind_eq_some_iff.mp (show ((boolsOf ds).bind fun bs => some (b :: bs)) = some bs from h)
      cases h2
      cases r
      rw [reps_bools t h1]
      rfl
    | _ => cases h
theorem vals_bools : ∀ {bs : List Bool} {us : List Value}, Vals (bs.map V.bl) us → LSm.BoolsAre us bs
  | [], _, .nil => .nil
  | b :: bs, u :: us, .cons r t => by
    have e : u = .bool b := r
    subst e
    exact .cons b (vals_bools t)
theorem call_all {X : Cx} (hc : X.calm = true) : CallR X (.builtin "all") (fun xs H Q => ∃ p ys, ∃ bs : List Bool, xs = [.ref p] ∧ SqL X.K H p ys ∧ ys = bs.map V.bl ∧ Q (.bl (bs.all id)) H) := by
  intro pins s σ H xs us Q I r h
  obtain ⟨p, ys, bs, rfl, hq, rfl, q⟩ := h
  obtain ⟨u, rfl, rx⟩ := vals1 r
  cases rx
  obtain ⟨its, r', pl, hz⟩ := I.list hq
  have hb := vals_bools r'
  have hlt : p < s.heap.objs.size := by obtain ⟨_, e, _⟩ := pl.isList; exact Heap.lt_size e
  refine call_all_walk (wpAny_pyIter_list pl.isList ?_)
  refine ⟨s.heap.objs.size, [s.heap.objs.size, p], [s.heap.objs.size], its.toArray.size, _, _, fun i => (bs[i]?).getD true, rfl, Walks.list (A := X.A.in1) (I.ok.hd hc) _ p (Nat.ne_of_lt hlt) its.toArray,
    ⟨⟨_, Heap.get?_push_size _ rfl, rfl, rfl⟩, pl.isList.push _⟩, fun i v s' Q' E' hP hQ => ?_, fun h' tk hk => ?_⟩
  · obtain ⟨b, e, rfl⟩ := hb.get i v (by simpa using hP)
    simp only [e, Option.getD_some] at hQ
    exact wpAny_truthy_bool hQ
  · have e : ((List.range its.toArray.size).all fun i => (bs[i]?).getD true) = bs.all id := by
      rw [List.size_toArray, hb.length]; exact LSm.range_all bs
    rw [e]
    exact ⟨.bl _, H, I.kept (t' := tk) (LSm.kept_iter hk), rfl, q⟩
theorem call_any {X : Cx} (hc : X.calm = true) : CallR X (.builtin "any") (fun xs H Q => ∃ p ys, ∃ bs : List Bool, xs = [.ref p] ∧ SqL X.K H p ys ∧ ys = bs.map V.bl ∧ Q (.bl (bs.any id)) H) := by
  intro pins s σ H xs us Q I r h
  obtain ⟨p, ys, bs, rfl, hq, rfl, q⟩ := h
  obtain ⟨u, rfl, rx⟩ := vals1 r
  cases rx
  obtain ⟨its, r', pl, hz⟩ := I.list hq
  have hb := vals_bools r'
  have hlt : p < s.heap.objs.size := by obtain ⟨_, e, _⟩ := pl.isList; exact Heap.lt_size e
  refine call_any_walk (wpAny_pyIter_list pl.isList ?_)
  refine ⟨s.heap.objs.size, [s.heap.objs.size, p], [s.heap.objs.size], its.toArray.size, _, _, fun i => (bs[i]?).getD false, rfl, Walks.list (A := X.A.in1) (I.ok.hd hc) _ p (Nat.ne_of_lt hlt) its.toArray,
    ⟨⟨_, Heap.get?_push_size _ rfl, rfl, rfl⟩, pl.isList.push _⟩, fun i v s' Q' E' hP hQ => ?_, fun h' tk hk => ?_⟩
  · obtain ⟨b, e, rfl⟩ := hb.get i v (by simpa using hP)
    simp only [e, Option.getD_some] at hQ
    exact wpAny_truthy_bool hQ
  · have e : ((List.range its.toArray.size).any fun i => (bs[i]?).getD false) = bs.any id := by
      rw [List.size_toArray, hb.length]; exact LSm.range_any bs
    rw [e]
    exact ⟨.bl _, H, I.kept (t' := tk) (LSm.kept_iter hk), rfl, q⟩
theorem asLs_inv {K : PySem.W.Frag} {H : Hp} {xs : List V} {as ds : List D} (r : Reps K H xs as) (e : asLs as = some ds) : ∃ p ys, xs = [.ref p] ∧ SqL K H p ys ∧ Reps K H ys ds := by
  unfold asLs at e
  split at e
  · cases e
    obtain ⟨x, rfl, rx⟩ := reps1 r
    cases rx with
    | @lst p vs _ hp rp => exact ⟨p, vs, rfl, SqL.of hp, rp⟩
  · cases e
    obtain ⟨x, rfl, rx⟩ := reps1 r
    cases rx with
    | @seq p vs _ hp rp => exact ⟨p, vs, rfl, hp, rp⟩
  · cases e
theorem cd_all {K : PySem.W.Frag} : CallD K (fun xs H Q => ∃ p ys, ∃ bs : List Bool, xs = [.ref p] ∧ SqL K H p ys ∧ ys = bs.map V.bl ∧ Q (.bl (bs.all id)) H) gAll := by
  intro xs H Q as d r e k
  unfold gAll at e
  obtain ⟨ds, e1, e⟩ := Option.bind_eq_some_iff.mp e
  obtain ⟨bs, e2, e⟩ := Option.bind_eq_some_iff.mp e
  cases e
  obtain ⟨p, ys, h1, h2, h3⟩ := asLs_inv r e1
  exact ⟨p, ys, bs, h1, h2, reps_bools h3 e2, k _ H (Same.refl H) (.bl _)⟩
theorem cd_any {K : PySem.W.Frag} : CallD K (fun xs H Q => ∃ p ys, ∃ bs : List Bool, xs = [.ref p] ∧ SqL K H p ys ∧ ys = bs.map V.bl ∧ Q (.bl (bs.any id)) H) gAny := by
  intro xs H Q as d r e k
  unfold gAny at e
  obtain ⟨ds, e1, e⟩ := Option.bind_eq_some_iff.mp e
  obtain ⟨bs, e2, e⟩ := Option.bind_eq_some_iff.mp e
  cases e
  obtain ⟨p, ys, h1, h2, h3⟩ := asLs_inv r e1
  exact ⟨p, ys, bs, h1, h2, reps_bools h3 e2, k _ H (Same.refl H) (.bl _)⟩
theorem boot_allB : bootBuiltins "all" = some (.builtin "all") := by decide +kernel
theorem boot_anyB : bootBuiltins "any" = some (.builtin "any") := by decide +kernel
end Dl
namespace Dl
open PySem PySem.Spec PyProof.Rows L2
end Dl
namespace Dl
open PySem PySem.Spec PyProof.Rows L2
def rCatS (K : PySem.W.Frag) : R2 := fun x y H Q => ∃ l b xs zs, x = .ref l ∧ y = .ref b ∧ SqL K H l xs ∧ SqL K H b zs ∧ xs.length + zs.length ≤ sizeLine ∧ ∀ p, H p = none → Q (.ref p) (upd H p (.lst (xs ++ zs)))
theorem op_catS {X : Cx} : OpR X (binaryOp .Add) (rCatS X.K) := by
  intro pins s σ H x y v u Q I rx ry h
  obtain ⟨l, b, xs, zs, rfl, rfl, h1, h2, hz, q⟩ := h
  cases rx
  cases ry
  obtain ⟨vs, r1, p1, _⟩ := I.list h1
  obtain ⟨ws, r2, p2, _⟩ := I.list h2
  obtain ⟨⟨k1, g1, a1, t1⟩, n1, o1, c1, _, i1⟩ := p1
  obtain ⟨⟨k2, g2, a2, t2⟩, n2, o2, c2, _, i2⟩ := p2
  simp only at c1 i1 c2 i2
  subst c1 i1 c2 i2
  have hl := r1.length
  have hl2 := r2.length
  have ea : vs.toArray ++ ws.toArray = (vs ++ ws).toArray := by simp
  refine concat_meets ⟨_, o1, rfl⟩ ⟨_, o2, rfl⟩ noFill_list_add seq_list_add PySem.F.slot_list_add
    PySem.F.entry_list_add (PySem.F.args_list_add_2 _ _)
    (list_addW l b vs.toArray ws.toArray n1 n2 g1 g2 t1 t2 (by rw [List.size_toArray, List.size_toArray]; omega)) ⟨o1, o2, ?_⟩
  rw [ea]
  exact ⟨.ref _, _, I.lnew (t' := s.toks) (r1.append r2) (by rw [List.length_append]; omega), rfl, q _ I.fresh⟩
def gCatS (a b : D) : Option D := (asL a).bind fun xs => (asL b).bind fun ys => if xs.length + ys.length ≤ 1000 then some (.lst (xs ++ ys)) else none
def vCatS (fa fb : FD) : FM := fun δ => (f2 gCatS fa fb δ).bind fun d => lstImm d δ
theorem asL_rep {K : PySem.W.Frag} {H : Hp} {v : V} {d : D} {xs : List D} (r : Rep K H v d) (e : asL d = some xs) : ∃ p vs, v = .ref p ∧ SqL K H p vs ∧ Reps K H vs xs := by
  cases r with
  | @lst p vs es hp rp => cases e; exact ⟨p, vs, rfl, SqL.of hp, rp⟩
  | @seq p vs es hp rp => cases e; exact ⟨p, vs, rfl, hp, rp⟩
  | _ => cases e
theorem pv_catS {X : Cx} {a b : Expr} {fa fb : FD} {pos : Pos} (ha : PD X a fa) (hb : PD X b fb) : PV X (.BinOp a .Add b pos) (vCatS fa fb) := imp (pe_op op_catS ha hb) fun σ H Q ⟨F, δ, As, d, δ', RA, q, k⟩ => by
  unfold vCatS at q
  obtain ⟨d0, e0, q⟩ := Option.bind_eq_some_iff.mp q
  obtain ⟨ds, rfl, rfl, rfl, hi⟩ := lstImm_inv q
  unfold f2 at e0
  obtain ⟨x, ex, e0⟩ := Option.bind_eq_some_iff.mp e0
  obtain ⟨y, ey, e0⟩ := Option.bind_eq_some_iff.mp e0
  refine ⟨_, x, RA.toS, ex, fun v H1 s1 r1 => ⟨_, y, RA.toS.mono s1, ey, fun w H2 s2 r2 => ?_⟩⟩
  unfold gCatS at e0
  obtain ⟨xs, e1, e0⟩ := Option.bind_eq_some_iff.mp e0
  obtain ⟨ys, e2, e0⟩ := Option.bind_eq_some_iff.mp e0
  split at e0
  · rename_i hz
    cases e0
    obtain ⟨p, vs, rfl, h1, h2⟩ := asL_rep (r1.mono s2) e1
    obtain ⟨q, ws, rfl, h3, h4⟩ := asL_rep r2 e2
    exact ⟨p, q, vs, ws, rfl, rfl, h1, h3, by rw [h2.length, h4.length]; exact le_line hz, fun l hl => newImm RA (s1.trans s2) (h2.append h4) hi hl k⟩
  · cases e0
end Dl
namespace Dl
open PySem PySem.Spec PyProof.Rows L2
theorem RepA.side {K : PySem.W.Frag} {F H : Hp} {σ : L2.St} {δ : DS} {As : Nat → List Addr} (R : RepA K F H σ δ As) {a : Addr} {vs ws : List V} (h : H a = some (.lst vs)) (n : F a = none) (dj : ∀ i, a ∉ As i) : RepA K F (upd H a (.lst ws)) σ δ As := by
  have ne : ∀ x, x ≠ a → upd H a (.lst ws) x = H x := fun x hx => upd_ne hx
  refine ⟨fun x u e => ?_, R.len, fun i d q => ?_, R.non, R.nd, R.dj⟩
  · have hx : x ≠ a := fun z => by rw [z, n] at e; cases e
    rw [ne x hx]
    exact R.fz x u e
  · obtain ⟨v, h1, h2⟩ := R.val i d q
    refine ⟨v, h1, h2.frame (fun x u e k => ?_) fun x m => ne x fun z => dj i (z ▸ m)⟩
    have hx : x ≠ a := fun z => by rw [z, h] at e; cases e; exact k _ rfl
    rw [ne x hx]
    exact e
end Dl
namespace Dl
open PySem PySem.Spec PyProof.Rows L2
structure CompG (X : Cx) (scope : Scope) (cl : List (Str × Addr)) (T N : List Str) (js : List Nat) : Prop where
  clos : closureFor scope X.env = pure cl
  nocell : ∀ y ∈ scope.names, y.2 ≠ .cell
  kind : scope.kind = .function
  names : ∀ y ∈ scope.names, y.2 = .local → scope.names.lookup y.1 = some .local
  nd : N.Nodup
  len : N.length = T.length + js.length
  clx : ∀ y, T.contains y = true → cl.lookup y = none
  cls : ∀ y c, cl.lookup y = some c → X.env.cells.lookup y = some c
  has : ∀ y, ((relabel scope X.env).names.lookup y = some .cell ∨ (relabel scope X.env).names.lookup y = some .free) → ∃ c, cl.lookup y = some c
  fr : ∀ i y j, N[T.length + i]? = some y → js[i]? = some j → X.N[j]? = some y ∧ X.env.scope.names.lookup y = some .cell ∧ (relabel scope X.env).names.lookup y = some .cell ∧ ∀ c, X.env.cells.lookup y = some c → cl.lookup y = some c
theorem lookup_mem {y : Str} : ∀ {cl : List (Str × Addr)}, y ∈ cl.map (·.1) → ∃ c, cl.lookup y = some c
  | [], h => by cases h
  | (z, c) :: cl, h => by
    by_cases hy : y = z
    · subst hy
      exact ⟨c, by simp⟩
    · have q : (y == z) = false := beq_eq_false_iff_ne.mpr hy
      rw [List.lookup_cons, q]
      refine lookup_mem ?_
      rcases List.mem_cons.mp h with e | e
      · exact absurd e hy
      · exact e
theorem CompG.of {X : Cx} {scope : Scope} {cl : List (Str × Addr)} {T Z Y : List Str} {js : List Nat} (clos : closureFor scope X.env = pure cl := by rfl) (hY : cl.map (·.1) = Y := by rfl) (nocell : ∀ y ∈ scope.names, y.2 ≠ .cell := by decide +kernel) (kind : scope.kind = .function := by rfl)
    (names : ∀ y ∈ scope.names, y.2 = .local → scope.names.lookup y.1 = some .local := by decide +kernel) (nd : (T ++ Z).Nodup := by decide +kernel) (len : Z.length = js.length := by rfl) (dis : ∀ y ∈ T, y ∉ Y := by decide +kernel)
    (hcl : ∀ p ∈ cl, X.env.cells.lookup p.1 = some p.2) (hfr : ∀ p ∈ scope.names, p.2 = .free → p.1 ∈ Y := by decide +kernel) (hZ : ∀ y ∈ Z, y ∈ Y := by decide +kernel)
    (hN : ∀ (i : Nat) y j, Z[i]? = some y → js[i]? = some j → X.N[j]? = some y ∧ X.env.scope.names.lookup y = some .cell ∧ (relabel scope X.env).names.lookup y = some .cell) : CompG X scope cl T (T ++ Z) js where
  clos := clos
  nocell := nocell
  kind := kind
  names := names
  nd := nd
  len := by rw [List.length_append, len]
  clx := fun y hy => by
    cases q : cl.lookup y with
    | none => rfl
    | some c =>
      have m : y ∈ Y := by
        rw [← hY]
        exact List.mem_map.mpr ⟨_, PySem.mem_of_lookup q, rfl⟩
      exact absurd m (dis y (List.contains_iff_mem.mp hy))
  cls := fun y c h => hcl _ (PySem.mem_of_lookup h)
  has := fun y h => by
    obtain ⟨p, m, f, rfl⟩ := free_of nocell h
    exact lookup_mem (by rw [hY]; exact hfr p m f)
  fr := fun i y j h1 h2 => by
    rw [List.getElem?_append_right (Nat.le_add_right _ _), Nat.add_sub_cancel_left] at h1
    obtain ⟨a, b, c⟩ := hN i y j h1 h2
    refine ⟨a, b, c, fun e he => ?_⟩
    obtain ⟨e', he'⟩ := lookup_mem (cl := cl) (y := y) (by rw [hY]; exact hZ y (List.mem_of_getElem? h1))
    have := hcl _ (PySem.mem_of_lookup he')
    dsimp only at this
    rw [he] at this
    cases this
    exact he'
section
variable {X : Cx} {pins : List (Addr × Obj)} {σ : L2.St} {H₂ : Hp} {s₂ : Shared} {scope : Scope} {cl : List (Str × Addr)} {T N : List Str} {js : List Nat} {C : Addr} {fp : List Addr}
end
end Dl
namespace Dl
open PySem PySem.Spec PyProof.Rows L2
section
variable {X : Cx} {pins : List (Addr × Obj)} {σ : L2.St} {H : Hp} {s : Shared} {h' : Heap}
end
end Dl
namespace Dl
open PySem PySem.Spec PyProof.Rows L2
def RPZ (X : Cx) (Z : L2.St → Prop) (E : Ends) (F : Hp) : Res → Prop
  | .nx δ => ∀ σ' F' H', Same F F' → RepM X.K F' H' σ' δ → Z σ' → E.nx σ' H'
  | .rt d => ∀ v F' H' A, Same F F' → Same F' H' → RepO X.K F' H' v d A → A.Nodup → E.rt v H'
  | .bk δ => ∀ σ' F' H', Same F F' → RepM X.K F' H' σ' δ → Z σ' → E.bk σ' H'
  | .ct δ => ∀ σ' F' H', Same F F' → RepM X.K F' H' σ' δ → Z σ' → E.ct σ' H'
  | .ex _ _ => False
  | .mk _ _ => False
theorem RPZ.mono {X : Cx} {Z : L2.St → Prop} {E : Ends} {F F1 : Hp} {r : Res} (s : Same F F1) (h : RPZ X Z E F r) : RPZ X Z E F1 r := by
  cases r with
  | nx δ => exact fun σ' F' H' s2 R => h σ' F' H' (s.trans s2) R
  | rt d => exact fun v F' H' A s2 => h v F' H' A (s.trans s2)
  | bk δ => exact fun σ' F' H' s2 R => h σ' F' H' (s.trans s2) R
  | ct δ => exact fun σ' F' H' s2 R => h σ' F' H' (s.trans s2) R
  | ex C δ => exact h
  | mk C δ => exact h
def upZ (X : Cx) (Z : L2.St → Prop) (s : SD) : TS := fun E σ H => ∃ F δ r, RepM X.K F H σ δ ∧ Z σ ∧ s δ = some r ∧ RPZ X Z E F r
def PZD (X : Cx) (Z : L2.St → Prop) (st : Stmt) (s : SD) : Prop := PS X st (upZ X Z s)
def PZs (X : Cx) (Z : L2.St → Prop) (sts : List Stmt) (s : SD) : Prop := PSs X sts (upZ X Z s)
def ZOk (Z : L2.St → Prop) : Prop := ∀ i, 2 ≤ i → ∀ σ v, Z σ → Z (σ.set i (some v))
section
variable {X : Cx} {Z : L2.St → Prop} {st : Stmt} {rest : List Stmt} {s u : SD} {e : Expr} {fk fl : FD} {fm : FM} {c : FT} {pos : Pos}
theorem pz_nil : PZs X Z [] sNil := impSs pss_nil fun E σ H ⟨F, δ, r, R, hz, e, k⟩ => by cases e; exact k σ F H (Same.refl F) R hz
theorem pz_cons (h1 : PZD X Z st s) (h2 : PZs X Z rest u) : PZs X Z (st :: rest) (sSeq s u) := impSs (pss_cons h1 h2) fun E σ H ⟨F, δ, r, R, hz, e, k⟩ => by
  unfold sSeq at e
  obtain ⟨r1, e1, e⟩ := Option.bind_eq_some_iff.mp e
  refine ⟨F, δ, r1, R, hz, e1, ?_⟩
  cases r1 with
  | nx δ' => exact fun σ' F' H' s1 R1 z1 => ⟨F', δ', r, R1, z1, e, k.mono s1⟩
  | rt d => cases e; exact k
  | bk d => cases e; exact k
  | ct d => cases e; exact k
  | ex C d => cases e; exact k
  | mk C d => cases e; exact k
theorem pz_one (h : PZD X Z st s) : PZs X Z [st] s := pss_one h
theorem pz_if {cx : Expr} {a b : List Stmt} (hc : PTD X cx c) (ha : PZs X Z a s) (hb : PZs X Z b u) : PZD X Z (.If cx a b pos) (sIf c s u) := impS (ps_if hc ha hb) fun E σ H ⟨F, δ, r, ⟨As, R⟩, hz, q, k⟩ => by
  unfold sIf at q
  obtain ⟨d, ed, q⟩ := Option.bind_eq_some_iff.mp q
  refine ⟨δ, d, R.toS, ed, fun H' s1 => ?_⟩
  cases d with
  | true => rw [if_pos rfl]; exact ⟨F, δ, r, ⟨As, R.grow s1⟩, hz, q, k⟩
  | false => rw [if_neg Bool.false_ne_true]; exact ⟨F, δ, r, ⟨As, R.grow s1⟩, hz, q, k⟩
theorem pz_set (i : Nat) {x : Str} {pos' : Pos} (zk : ZOk Z) (hN : X.N.Nodup) (he : PV X e fm) (h2 : 2 ≤ i := by decide) (hi : X.N[i]? = some x := by rfl) (hx : Loc X.env.scope x := by first | exact Or.inl rfl | exact Or.inr rfl) (hs : swapsWith e (some (.Name x pos')) pos.line X.env = pure false := by rfl) (hf : X.fn x = true ∨ X.env.scope.names.lookup x = some .local := by first | exact .inl rfl | exact .inr rfl | assumption) :
    PZD X Z (.Assign [.Name x pos'] e pos) (sSetM i fm) := impS (ps_set hN hi hx he hs hf) fun E σ H ⟨F, δ, r, ⟨As, R⟩, hz, q, k⟩ => by
  unfold sSetM at q
  obtain ⟨⟨d, δ'⟩, ed, q⟩ := Option.bind_eq_some_iff.mp q
  cases q
  exact ⟨F, δ, As, d, δ', R, ed, fun v F' H' A As' ev R' r' => k (σ.set i (some v)) F' H' ev.fs (R'.setM i r' ev.nd ev.dj) (zk i h2 σ v hz)⟩
theorem pz_for {iter : Expr} {body : List Stmt} {src : FMA} {x : Str} {px : Pos} (i : Nat) (zk : ZOk Z) (hN : X.N.Nodup) (hp : PassesOwn (model X.prog X.w) X.A X.env X.xe) (hc : X.calm = true) (hi : PIM X (.Name x px) iter src) (hb : PZs X Z body s) (h2 : 2 ≤ i := by decide)
    (hx : X.N[i]? = some x := by rfl) (hl : Loc X.env.scope x := by first | exact Or.inl rfl | exact Or.inr rfl) (hf : X.fn x = true ∨ X.env.scope.names.lookup x = some .local := by first | exact .inl rfl | exact .inr rfl | assumption)
    (hs : ∀ x, foldedSetIterable iter X.env x = pure x := by intro _; rfl) : PZD X Z (.For (.Name x px) iter body [] pos) (sForM src i s) := impS (ps_for hp hc hi (pg_name hN hx hl hf) hb hs) fun E σ H ⟨F, δ, r, ⟨As, R⟩, hz, e, k⟩ => by
  unfold sForM at e
  obtain ⟨⟨ds, δ1⟩, eds, e⟩ := Option.bind_eq_some_iff.mp e
  refine ⟨F, δ, As, ds, δ1, R, eds, fun J F1 H1 As1 s1 R1 it => ?_⟩
  refine ⟨fun j m σ H => m = ds.length - j ∧ j ≤ ds.length ∧ ∃ F2 δ, Same F1 F2 ∧ RepM X.K F2 H σ δ ∧ Z σ ∧ forM i s (ds.drop j) δ = some r ∧ RPZ X Z E F2 r, ⟨ds.length, rfl, Nat.zero_le _, F1, δ1, Same.refl _, ⟨As1, R1⟩, hz, e, k.mono s1⟩, ?_⟩
  rintro j m σ H2 ⟨rfl, hjl, F2, δ2, s2, ⟨As2, R2⟩, z2, e2, k2⟩
  by_cases hlt : j < ds.length
  · obtain ⟨go, yl⟩ := (it j H2 (s2.trans R2.fz)).1 hlt
    rw [List.drop_eq_getElem_cons hlt] at e2
    obtain ⟨r4, e4, e2⟩ := Option.bind_eq_some_iff.mp (show ((s (δ2.set i (some (sh ds[j])))).bind _) = some r from e2)
    refine .inr ⟨go, fun σ' H' => ∃ F3 δ, Same F1 F3 ∧ RepM X.K F3 H' σ' δ ∧ Z σ' ∧ forM i s (ds.drop (j + 1)) δ = some r ∧ RPZ X Z E F3 r, fun σ' H' z => ⟨ds.length - (j + 1), by omega, rfl, hlt, z⟩, fun y H' yy => ?_⟩
    obtain ⟨eH, d, hd, rx⟩ := yl y H' yy
    subst eH
    have hd' : d = ds[j] := by
      rw [List.getElem?_eq_getElem hlt] at hd
      exact (Option.some.inj hd).symm
    subst hd'
    have R3 := R2.setM i (RepO.of_sh R2.fz (rx.mono s2)) List.nodup_nil fun _ _ _ z => nomatch z
    refine ⟨F2, δ2.set i (some (sh ds[j])), r4, R3, zk i h2 σ y z2, e4, ?_⟩
    cases r4 with
    | nx δ' => exact fun σ' F' H'' s4 R4 z4 => ⟨F', δ', s2.trans s4, R4, z4, e2, k2.mono s4⟩
    | ct δ' => exact fun σ' F' H'' s4 R4 z4 => ⟨F', δ', s2.trans s4, R4, z4, e2, k2.mono s4⟩
    | bk δ' => cases e2; exact k2
    | rt d => cases e2; exact k2
    | ex C δ' => cases e2; exact k2
    | mk C δ' => cases e2; exact k2
  · have e : j = ds.length := by omega
    subst e
    rw [List.drop_length] at e2
    cases e2
    exact .inl ⟨(it _ H2 (s2.trans R2.fz)).2 (Nat.le_refl _), k2 σ F2 H2 (Same.refl _) ⟨As2, R2⟩ z2⟩
def sPutG (i : Nat) (fk fl : FD) (fm : FM) : SD := fun δ => (fm δ).bind fun p => match p.2[i]? with
  | some (some (.lst ds)) => (fk p.2).bind fun kd => match kd with
    | .int k => (ixN ds.length k).bind fun j => match ds[j]? with
      | some (.lst row) => (fl p.2).bind fun ld => match ld with
        | .int l => (ixN row.length l).bind fun m => some (.nx (p.2.set i (some (.lst (ds.set j (.lst (row.set m p.1)))))))
        | _ => none
      | _ => none
    | _ => none
  | _ => none
theorem putG {i : Nat} {K : PySem.W.Frag} {F H : Hp} {σ : L2.St} {δ : DS} {As : Nat → List Addr} {Q : L2.St → Hp → Prop} {r : Res} (R : RepA K F H σ δ As) (q : sPutG i fk fl fm δ = some r) (k : ∀ F' H' δ', r = .nx δ' → Same F F' → RepM K F' H' σ δ' → Q σ H') :
    tAsg (upV K fm) (gSub (tOp (rIxL K) (tVar i) (up K fk)) (up K fl) rSetL) { nx := Q, rt := fun _ _ => True } σ H := by
  unfold sPutG at q
  obtain ⟨⟨d, δ'⟩, ed, q⟩ := Option.bind_eq_some_iff.mp q
  dsimp only at q
  split at q
  · rename_i ds h1
    obtain ⟨kd, ek, q⟩ := Option.bind_eq_some_iff.mp q
    split at q
    · rename_i kk
      obtain ⟨j, hj, q⟩ := Option.bind_eq_some_iff.mp q
      split at q
      · rename_i row hrow
        obtain ⟨ld, el, q⟩ := Option.bind_eq_some_iff.mp q
        split at q
        · rename_i ll
          obtain ⟨m, hm, q⟩ := Option.bind_eq_some_iff.mp q
          cases q
          refine ⟨F, δ, As, d, δ', R, ed, fun v F' H' A As' ev R' r' => ?_⟩
          obtain ⟨a, vs, A0, s0, _, g0, _, rl⟩ := R'.lst h1
          refine ⟨.ref a, s0, δ', .int kk, R'.toS, ek, fun iv H1 s1 ri => ?_⟩
          cases ri
          have R1 := R'.grow s1
          obtain ⟨a1, vs1, b, ws, B0, O, t0, u0, hv1, ub, rr1, ndB, inB, inO, aO, sep, _⟩ := R1.row h1 hrow
          have ea : a1 = a := by rw [s0] at t0; cases t0; rfl
          subst ea
          have es1 : vs1 = vs := by
            have := s1 _ _ g0
            rw [u0] at this; cases this; rfl
          subst es1
          refine ⟨a1, vs1, kk, .ref b, rfl, rfl, SqL.of u0, by unfold L2.atI; rw [rl.length, hj]; exact hv1, ?_⟩
          refine ⟨δ', .int ll, R1.toS, el, fun iv2 H2 s2 ri2 => ?_⟩
          cases ri2
          have R2 := R1.grow s2
          obtain ⟨a2, vs2, b2, ws2, B2, O2, t2, u2, hv2, ub2, rr2, ndB2, inB2, inO2, aO2, sep2, fin⟩ := R2.row h1 hrow
          have ea : a2 = a1 := by rw [s0] at t2; cases t2; rfl
          subst ea
          have es2 : vs2 = vs1 := by
            have := s2 _ _ u0
            rw [u2] at this; cases this; rfl
          subst es2
          have eb : b2 = b := by rw [hv1] at hv2; cases hv2; rfl
          subst eb
          refine ⟨b2, ws2, ll, m, rfl, rfl, ub2, by rw [rr2.length]; exact hm, ?_⟩
          have ml : m < row.length := (ixN_seq hm).2.1
          obtain ⟨v0, C1, C, C3, _, _, eC, pk⟩ := rr2.pick (i := m) (d := row[m]) (List.getElem?_eq_getElem ml)
          have rv : RepO K F' H2 v d A := r'.frame (same_keepI (s1.trans s2)) fun x mm => by
            obtain ⟨⟨ws, e⟩, _⟩ := r'.dom x mm
            rw [e]; exact (s1.trans s2) x _ e
          have rn := pk (H' := H2) (fun _ _ e _ => e) (fun _ _ => rfl) rv
          have nB := List.nodup_cons.mp ndB2
          have nB2 := nB.2
          rw [eC] at nB2
          have n1 := List.nodup_append.mp nB2
          have n2 := List.nodup_append.mp n1.2.1
          have inC : ∀ x, x ∈ C1 ∨ x ∈ C3 → x ∈ B2 := fun x mm => by
            rw [eC]
            rcases mm with z | z
            · exact List.mem_append_left _ z
            · exact List.mem_append_right _ (List.mem_append_right _ z)
          have inI : ∀ x, x ∈ C1 ∨ x ∈ C3 → x ∈ As' i := fun x mm => inB2 x (List.mem_cons_of_mem _ (inC x mm))
          refine k F' _ _ rfl ev.fs (fin rn (fun z => ?_) ?_ (fun x mm z => ?_) fun kx x hk mm z => ?_)
          · rcases List.mem_append.mp z with z | z
            · exact nB.1 (inC _ (.inl z))
            · rcases List.mem_append.mp z with z | z
              · exact ev.dj i b2 (inB2 b2 List.mem_cons_self) z
              · exact nB.1 (inC _ (.inr z))
          · refine List.nodup_append.mpr ⟨n1.1, List.nodup_append.mpr ⟨ev.nd, n2.2.1, fun y hy w hw e => ?_⟩, fun y hy w hw e => ?_⟩
            · subst e; exact ev.dj i y (inI y (.inr hw)) hy
            · subst e
              rcases List.mem_append.mp hw with z | z
              · exact ev.dj i y (inI y (.inl hy)) z
              · exact n1.2.2 y hy y (List.mem_append_right _ z) rfl
          · rcases List.mem_append.mp mm with mm | mm
            · exact sep2 x (List.mem_cons_of_mem _ (inC x (.inl mm))) z
            · rcases List.mem_append.mp mm with mm | mm
              · exact ev.dj i x (inO2 x z) mm
              · exact sep2 x (List.mem_cons_of_mem _ (inC x (.inr mm))) z
          · rcases List.mem_append.mp z with z | z
            · exact R2.dj kx i x hk mm (inI x (.inl z))
            · rcases List.mem_append.mp z with z | z
              · exact ev.dj kx x mm z
              · exact R2.dj kx i x hk mm (inI x (.inr z))
        · cases q
      · cases q
    · cases q
  · cases q
theorem nx_of_putG {i : Nat} {δ : DS} {r : Res} (q : sPutG i fk fl fm δ = some r) : ∃ δ', r = .nx δ' := by
  unfold sPutG at q
  obtain ⟨⟨d, δ'⟩, ed, q⟩ := Option.bind_eq_some_iff.mp q
  dsimp only at q
  split at q
  · obtain ⟨kd, ek, q⟩ := Option.bind_eq_some_iff.mp q
    split at q
    · obtain ⟨j, hj, q⟩ := Option.bind_eq_some_iff.mp q
      split at q
      · obtain ⟨ld, el, q⟩ := Option.bind_eq_some_iff.mp q
        split at q
        · obtain ⟨m, hm, q⟩ := Option.bind_eq_some_iff.mp q
          cases q
          exact ⟨_, rfl⟩
        · cases q
      · cases q
    · cases q
  · cases q
theorem pz_put2 (i : Nat) {tg : Expr} (he : PV X e fm) (hg : PG X tg (gSub (tOp (rIxL X.K) (tVar i) (up X.K fk)) (up X.K fl) rSetL)) (hs : swapsWithSole [tg] e pos.line X.env = pure false := by rfl) (hw : swappedStores [tg] e X.env = pure none := by rfl)
    (h1 : (assignEach [tg] X.env).map (·.2) = [assign tg X.env] := by rfl) : PZD X Z (.Assign [tg] e pos) (sPutG i fk fl fm) := impS (ps_asg he hg hs hw h1) fun E σ H ⟨F, δ, r, ⟨As, R⟩, hz, q, k⟩ => by
  obtain ⟨δ', rfl⟩ := nx_of_putG q
  exact putG (Q := E.nx) R q fun F' H' δ2 e s1 R1 => by cases e; exact k σ F' H' s1 R1 hz
end
def mutSp (K : PySem.W.Frag) (n : Nat) (G : List D → Option (D × D)) : Sp := fun vs H Q _ => vs.length = n ∧ ∃ v0 v1 ws F d0 d1 A0 A1 es d0' d1', vs = v0 :: v1 :: ws ∧ Same F H ∧ RepO K F H v0 d0 A0 ∧ RepO K F H v1 d1 A1 ∧ (A0 ++ A1).Nodup ∧ Reps K F ws es ∧ imms es = true ∧
  G (d0 :: d1 :: es) = some (d0', d1') ∧ ∀ F' H' A0' A1', Same F F' → Same F' H' → RepO K F' H' v0 d0' A0' → RepO K F' H' v1 d1' A1' → (A0' ++ A1').Nodup → Q .non H'
def startZ (n : Nat) (d0 d1 : D) (es : List D) : DS := some d0 :: some d1 :: (es.map some ++ List.replicate (n - (es.length + 2)) none)
def asZ (A0 A1 : List Addr) : Nat → List Addr
  | 0 => A0
  | 1 => A1
  | _ => []
theorem repM_startZ {K : PySem.W.Frag} {F H : Hp} {N : List Str} {v0 v1 : V} {ws : List V} {d0 d1 : D} {es : List D} {A0 A1 : List Addr} (s : Same F H) (r0 : RepO K F H v0 d0 A0) (r1 : RepO K F H v1 d1 A1) (nd : (A0 ++ A1).Nodup) (r : Reps K F ws es) (im : imms es = true) : RepM K F H (L2.start N (v0 :: v1 :: ws)) (startZ N.length d0 d1 es) := by
  have l := r.length
  have nd' := List.nodup_append.mp nd
  refine ⟨asZ A0 A1, s, by unfold L2.start startZ; simp [l], fun i d q => ?_, fun i h => ?_, fun i => ?_, fun i j a hij m => ?_⟩
  · match i, q with
    | 0, q => cases q; exact ⟨v0, rfl, r0⟩
    | 1, q => cases q; exact ⟨v1, rfl, r1⟩
    | i + 2, q =>
      have q' : (es.map some ++ List.replicate (N.length - (es.length + 2)) none)[i]? = some (some d) := q
      have hi : i < es.length := by
        by_cases hi : i < es.length
        · exact hi
        · rw [List.getElem?_append_right (by simpa using hi), List.getElem?_replicate] at q'
          split at q' <;> cases q'
      rw [List.getElem?_append_left (by simpa using hi), List.getElem?_map] at q'
      obtain ⟨e, h1, h2⟩ := Option.map_eq_some_iff.mp q'
      cases h2
      obtain ⟨v, h5, h6⟩ := r.get h1
      refine ⟨v, ?_, .imm (imms_mem.mp im d (List.mem_of_getElem? h1)) (h6.mono s)⟩
      unfold L2.start
      show (ws.map some ++ _)[i]? = _
      rw [List.getElem?_append_left (by rw [List.length_map, l]; exact hi), List.getElem?_map, h5]
      rfl
  · match i, h with
    | 0, h => exact absurd rfl (h d0)
    | 1, h => exact absurd rfl (h d1)
    | i + 2, _ => rfl
  · match i with
    | 0 => exact nd'.1
    | 1 => exact nd'.2.1
    | i + 2 => exact List.nodup_nil
  · match i, j, hij, m with
    | 0, 0, hij, _ => exact absurd rfl hij
    | 0, 1, _, m => exact fun z => nd'.2.2 a m a z rfl
    | 0, j + 2, _, _ => exact fun z => nomatch z
    | 1, 0, _, m => exact fun z => nd'.2.2 a z a m rfl
    | 1, 1, hij, _ => exact absurd rfl hij
    | 1, j + 2, _, _ => exact fun z => nomatch z
    | i + 2, _, _, m => cases m
section
variable {P : Program} {w : World} {K : PySem.W.Frag} {mg : Str → Option Value} {base : Heap}
theorem mut_ok {x qual : Str} {st : Stmt} {f : Addr} {fd : FuncData} {N ps : List Str} {k : Nat} {G : List D → Option (D × D)} (F : Fun K x qual st f fd) (S : FnScope N ps (defScope st))
    (hbody : ∀ (cdv : Value) (A : Around) (outer : List Env) (s : Shared) (H : Hp) (E : XK) (Z : L2.St → Prop) (d0 d1 : D) (es : List D) (d0' d1' : D), Room k (A.deeper (envOfC qual (defScope st) s.heap.objs.size f cdv)) → ZOk Z → G (d0 :: d1 :: es) = some (d0', d1') →
      ∃ t, PZs (cxOf CX0 P w K mg base N qual (defScope st) f cdv A outer s H E).nox Z (defBody st) t ∧ ∃ δ', t (startZ N.length d0 d1 es) = some (.nx δ') ∧ δ'[0]? = some (some d0') ∧ δ'[1]? = some (some d1')) : FnOk P w K mg base CX0 (k + 1) f fd ps (mutSp K ps.length G) := by
  refine F.ok S (fun vs H Q E h => h.1) (fun cdv A outer s H vs Q E hr h => ?_)
  obtain ⟨hl, v0, v1, ws, F0, d0, d1, A0, A1, es, d0', d1', rfl, s0, r0, r1, nd, r, im, e, q⟩ := h
  obtain ⟨t, ht, δ', hq, g0, g1⟩ := hbody cdv A outer s H E (fun σ => σ[0]? = some (some v0) ∧ σ[1]? = some (some v1)) d0 d1 es d0' d1' hr (fun i hi σ v ⟨a, b⟩ => ⟨by rw [List.getElem?_set_ne (by omega)]; exact a, by rw [List.getElem?_set_ne (by omega)]; exact b⟩) e
  refine ⟨_, ht, F0, _, _, repM_startZ s0 r0 r1 nd r im, ⟨rfl, rfl⟩, hq, fun σ' F' H' s1 ⟨As, R⟩ ⟨z0, z1⟩ => ?_⟩
  obtain ⟨u0, h0, w0⟩ := R.val 0 _ g0
  obtain ⟨u1, h1, w1⟩ := R.val 1 _ g1
  rw [z0] at h0
  rw [z1] at h1
  cases h0
  cases h1
  exact q F' H' _ _ s1 R.fz w0 w1 (List.nodup_append.mpr ⟨R.nd 0, R.nd 1, fun a m b m' e => by subst e; exact R.dj 0 1 a (by decide) m m'⟩)
structure HasM (P : Program) (w : World) (K : PySem.W.Frag) (mg : Str → Option Value) (base : Heap) (k : Nat) (x : Str) (ps : List Str) (G : List D → Option (D × D)) : Prop where
  ex : ∃ f fd, FnOk P w K mg base CX0 k f fd ps (mutSp K ps.length G) ∧ mg x = some (.ref f) ∧ PySem.W.keepIn K (.ref f) = true ∧ Binds K fd ps []
end
def sCallM (i j : Nat) (G : List D → Option (D × D)) (g : FA) : SD := fun δ => match δ[i]?, δ[j]? with
  | some (some (.lst xs)), some (some (.lst ys)) => (g δ).bind fun es => (G (.lst xs :: .lst ys :: es)).bind fun p => if imms es = true ∧ own p.1 = true ∧ own p.2 = true ∧ i ≠ j then some (.nx ((δ.set i (some p.1)).set j (some p.2))) else none
  | _, _ => none
noncomputable def butA (H : Hp) (A : List Addr) : Hp := fun a => if a ∈ A then none else H a
theorem butA_in {H : Hp} {A : List Addr} : Same (butA H A) H := fun a u e => by
  unfold butA at e
  split at e
  · cases e
  · exact e
theorem butA_out {H : Hp} {A : List Addr} {a : Addr} (m : a ∈ A) : butA H A a = none := if_pos m
theorem butA_of {H : Hp} {A : List Addr} {a : Addr} (m : a ∉ A) : butA H A a = H a := if_neg m
theorem pm_callM {X : Cx} {e : Expr} {es : List Expr} {g : FA} {pos p spos : Pos} {k l n : Nat} {x : Str} {ps : List Str} {G : List D → Option (D × D)} (i j : Nat) (F : HasM X.prog X.w X.K X.mg X.base k x ps G) (hr : Room l X.A) (ha : PA X (e :: es) (tCons (tVar i) (tCons (tVar j) (upA X.K n g)))) (hk : k ≤ l := by decide) (hg : Gl X x := by rfl)
    (hn : n + 2 = ps.length := by rfl) (hdb : (x == ("__debug__" : Str)) = false := by decide) (he : starEach (e :: es) X.env = (false, eval e X.env) :: starEach es X.env := by rfl) (hpl : (backTo pos (starEach es X.env)).any (·.1) = false := by rfl) (hs : swapsWith (.Call (.Name x p) (e :: es) [] pos) none spos.line X.env = pure false := by rfl) :
    PMD X (.Expr (.Call (.Name x p) (e :: es) [] pos) spos) (sCallM i j G g) := by
  obtain ⟨f, fd, F, hm, kp, hb⟩ := F.ex
  refine impS (ps_expr (pe_call F (hr.mono hk) hg hm kp hb .nil pass0 ha hdb he hpl) hs) fun E σ H ⟨F0, δ, r, ⟨As, R⟩, q, k⟩ => ?_
  unfold sCallM at q
  split at q
  · rename_i xs ys hi hj
    obtain ⟨ds, eds, q⟩ := Option.bind_eq_some_iff.mp q
    obtain ⟨⟨d0', d1'⟩, eG, q⟩ := Option.bind_eq_some_iff.mp q
    dsimp only at q
    split at q
    · rename_i hc
      obtain ⟨im, o0, o1, hij⟩ := hc
      cases q
      obtain ⟨v0, s0, r0⟩ := R.val i _ hi
      obtain ⟨v1, s1, r1⟩ := R.val j _ hj
      refine ⟨v0, s0, v1, s1, δ, ds, R.toS, eds, fun vs H1 t1 rr lv => ?_⟩
      show mutSp X.K ps.length G ((v0 :: v1 :: vs) ++ []) H1 _ E0
      rw [List.append_nil]
      have R1 := R.grow t1
      obtain ⟨v0', s0', r0⟩ := R1.val i _ hi
      rw [s0] at s0'
      cases s0'
      obtain ⟨v1', s1', r1⟩ := R1.val j _ hj
      rw [s1] at s1'
      cases s1'
      have sF : Same F0 (butA H1 (As i ++ As j)) := fun a u e => by
        rw [butA_of fun m => ?_]
        · exact R1.fz a u e
        · rcases List.mem_append.mp m with z | z
          · rw [(R1.dom z).2] at e; cases e
          · rw [(R1.dom z).2] at e; cases e
      have nd : (As i ++ As j).Nodup := List.nodup_append.mpr ⟨R1.nd i, R1.nd j, fun a m b m' e => by subst e; exact R1.dj i j a hij m m'⟩
      refine ⟨by simp [lv, hn], v0, v1, vs, butA H1 (As i ++ As j), .lst xs, .lst ys, As i, As j, ds, d0', d1', rfl, butA_in, r0.froz sF fun a m => butA_out (List.mem_append_left _ m), r1.froz sF fun a m => butA_out (List.mem_append_right _ m), nd, ?_, im, eG, fun F' H' A0' A1' sf sh w0 w1 nd' => ?_⟩
      · refine reps_keep (fun a u e nl => ?_) rr im
        rw [butA_of fun m => ?_]
        · exact e
        · rcases List.mem_append.mp m with z | z
          · obtain ⟨⟨ws, h⟩, _⟩ := R1.dom z
            rw [e] at h; cases h; exact nl _ rfl
          · obtain ⟨⟨ws, h⟩, _⟩ := R1.dom z
            rw [e] at h; cases h; exact nl _ rfl
      · have nd2 := List.nodup_append.mp nd'
        have hF : Same F0 H' := (sF.trans sf).trans sh
        have kI : KeepI H1 H' := fun a u e nl => by
          refine sh a u (sf a u ?_)
          rw [butA_of fun m => ?_]
          · exact e
          · rcases List.mem_append.mp m with z | z
            · obtain ⟨⟨ws, h⟩, _⟩ := R1.dom z
              rw [e] at h; cases h; exact nl _ rfl
            · obtain ⟨⟨ws, h⟩, _⟩ := R1.dom z
              rw [e] at h; cases h; exact nl _ rfl
        have oth : ∀ kx a, kx ≠ i → kx ≠ j → a ∈ As kx → H' a = H1 a ∧ F' a ≠ none := fun kx a h1 h2 m => by
          obtain ⟨⟨ws, h⟩, _⟩ := R1.dom m
          have b : butA H1 (As i ++ As j) a = some (.lst ws) := by
            rw [butA_of fun z => ?_]
            · exact h
            · rcases List.mem_append.mp z with z | z
              · exact R1.dj kx i a h1 m z
              · exact R1.dj kx j a h2 m z
          have f := sf a _ b
          exact ⟨by rw [h]; exact sh a _ f, by rw [f]; exact fun z => nomatch z⟩
        have t0 := w0.thaw (sF.trans sf) o0
        have t1' := w1.thaw (sF.trans sf) o1
        have il : i < δ.length := (List.getElem?_eq_some_iff.mp hi).1
        have jl : j < δ.length := (List.getElem?_eq_some_iff.mp hj).1
        refine k σ F0 H' (Same.refl F0) ⟨asSet (asSet As i A0') j A1', hF, by rw [List.length_set, List.length_set]; exact R.len, fun kx d q => ?_, fun kx h => ?_, fun kx => ?_, fun kx ky a hxy m => ?_⟩
        · by_cases hkj : kx = j
          · subst hkj
            rw [List.getElem?_set_self (by rw [List.length_set]; exact jl)] at q
            cases q
            rw [asSet_same]
            exact ⟨v1, s1, t1'⟩
          · rw [List.getElem?_set_ne (Ne.symm hkj)] at q
            rw [asSet_ne hkj]
            by_cases hki : kx = i
            · subst hki
              rw [List.getElem?_set_self il] at q
              cases q
              rw [asSet_same]
              exact ⟨v0, s0, t0⟩
            · rw [List.getElem?_set_ne (Ne.symm hki)] at q
              rw [asSet_ne hki]
              obtain ⟨v, h1, h2⟩ := R1.val kx d q
              exact ⟨v, h1, h2.frame kI fun a m => (oth kx a hki hkj m).1⟩
        · by_cases hkj : kx = j
          · subst hkj
            exact absurd (List.getElem?_set_self (by rw [List.length_set]; exact jl)) (h d1')
          · rw [asSet_ne hkj]
            by_cases hki : kx = i
            · subst hki
              refine absurd ?_ (h d0')
              rw [List.getElem?_set_ne (Ne.symm hkj), List.getElem?_set_self il]
            · rw [asSet_ne hki]
              refine R1.non kx fun d z => h d ?_
              rw [List.getElem?_set_ne (Ne.symm hkj), List.getElem?_set_ne (Ne.symm hki)]
              exact z
        · by_cases hkj : kx = j
          · subst hkj; rw [asSet_same]; exact nd2.2.1
          · rw [asSet_ne hkj]
            by_cases hki : kx = i
            · subst hki; rw [asSet_same]; exact nd2.1
            · rw [asSet_ne hki]; exact R1.nd kx
        · have out0 : ∀ kz, kz ≠ i → kz ≠ j → a ∈ As kz → a ∉ A0' := fun kz h1 h2 mz z => (oth kz a h1 h2 mz).2 (w0.dom a z).2
          have out1 : ∀ kz, kz ≠ i → kz ≠ j → a ∈ As kz → a ∉ A1' := fun kz h1 h2 mz z => (oth kz a h1 h2 mz).2 (w1.dom a z).2
          by_cases hkj : kx = j
          · subst hkj
            rw [asSet_same] at m
            rw [asSet_ne (Ne.symm hxy)]
            by_cases hki : ky = i
            · subst hki; rw [asSet_same]; exact fun z => nd2.2.2 a z a m rfl
            · rw [asSet_ne hki]; exact fun z => out1 ky hki (Ne.symm hxy) z m
          · rw [asSet_ne hkj] at m
            by_cases hki : kx = i
            · subst hki
              rw [asSet_same] at m
              by_cases hyj : ky = j
              · subst hyj; rw [asSet_same]; exact fun z => nd2.2.2 a m a z rfl
              · rw [asSet_ne hyj, asSet_ne (Ne.symm hxy)]; exact fun z => out0 ky (Ne.symm hxy) hyj z m
            · rw [asSet_ne hki] at m
              by_cases hyj : ky = j
              · subst hyj; rw [asSet_same]; exact out1 kx hki hkj m
              · rw [asSet_ne hyj]
                by_cases hyi : ky = i
                · subst hyi; rw [asSet_same]; exact out0 kx hki hkj m
                · rw [asSet_ne hyi]; exact R1.dj kx ky a hxy m
    · cases q
  · cases q
end Dl
namespace Dl
open PySem PySem.Spec PyProof.Rows L2
theorem Ev.sub {F H F' H' : Hp} {As As' : Nat → List Addr} {A B : List Addr} (ev : Ev F H As F' H' As' A) (h : ∀ a ∈ B, a ∈ A) (nd : B.Nodup) : Ev F H As F' H' As' B :=
  ⟨ev.fs, ev.hs, ev.nf, ev.fa, fun a m => ev.fA a (h a m), nd, fun i a m z => ev.dj i a m (h a z)⟩
theorem Ev.grow {F H F' H' H1 : Hp} {As As' : Nat → List Addr} {A : List Addr} (ev : Ev F H As F' H' As' A) (s : Same H' H1) : Ev F H As F' H1 As' A :=
  ⟨ev.fs, ev.hs.trans s, ev.nf, ev.fa, ev.fA, ev.nd, ev.dj⟩
def vTix (k : Nat) (fm : FM) : FM := fun δ => (fm δ).bind fun p => match p.1 with
  | .tup ds => (ds[k]?).map fun d => (d, p.2)
  | _ => none
theorem pv_tix {X : Cx} {e b : Expr} {fm : FM} {pos : Pos} (k : Nat) (he : PV X e fm) (hb : PD X b (fC (.int (k : Int)))) (hs : PlainIx b := by intro _ _; rfl) : PV X (.Subscript e b pos) (vTix k fm) := imp (pe_ix ix_tup he hb hs) fun σ H Q ⟨F, δ, As, d, δ', R, q, kk⟩ => by
  unfold vTix at q
  obtain ⟨⟨t, δ1⟩, et, q⟩ := Option.bind_eq_some_iff.mp q
  dsimp only at q
  split at q
  · rename_i ds
    obtain ⟨d1, hd, q⟩ := Option.map_eq_some_iff.mp q
    cases q
    refine ⟨F, δ, As, .tup ds, δ', R, et, fun v F' H' A As' ev R' r' => ?_⟩
    obtain ⟨a, vs, rfl, sq, ro⟩ := r'.parts
    refine ⟨δ', .int (k : Int), R'.toS, rfl, fun iv H1 s1 ri => ?_⟩
    cases ri
    obtain ⟨w, A1, B, A2, hw, rB, eA, _⟩ := ro.pick hd
    have nd := ev.nd
    rw [eA] at nd
    have n1 := List.nodup_append.mp nd
    have n2 := List.nodup_append.mp n1.2.1
    refine ⟨a, vs, (k : Int), w, rfl, rfl, sqT_same s1 sq, atI_nat hw, ?_⟩
    refine kk w F' H1 B As' ((ev.sub (fun x m => ?_) n2.1).grow s1) (R'.grow s1) (rB.frame (same_keepI s1) fun x m => ?_)
    · rw [eA]; exact List.mem_append_right _ (List.mem_append_left _ m)
    · obtain ⟨⟨ws, e⟩, _⟩ := rB.dom x m
      rw [e]; exact s1 x _ e
  · cases q
def asN : D → Option Int
  | .int i => some i
  | _ => none
theorem asN_inv {d : D} {i : Int} (h : asN d = some i) : d = .int i := by
  cases d <;> first | (cases h; rfl) | cases h
def fChain (fa fb fc : FD) : FD := fun δ => ((fa δ).bind asN).bind fun i => ((fb δ).bind asN).bind fun j => ((fc δ).bind asN).bind fun k => some (.bl (decide (i ≤ j) && decide (j < k)))
theorem pd_chain {X : Cx} {a b c : Expr} {fa fb fc : FD} {pos : Pos} (ha : PD X a fa) (hb : PD X b fb) (hc : PD X c fc) (hm : lastMarks [.LtE, .Lt] [b, c] = false := by with_unfolding_all rfl) : PD X (.Compare a [.LtE, .Lt] [b, c] pos) (fChain fa fb fc) := imp (pe_chain op_le op_lt ha hb hc hm) fun σ H Q ⟨δ, d, R, q, k⟩ => by
  unfold fChain at q
  obtain ⟨i, ei, q⟩ := Option.bind_eq_some_iff.mp q
  obtain ⟨j, ej, q⟩ := Option.bind_eq_some_iff.mp q
  obtain ⟨l, el, q⟩ := Option.bind_eq_some_iff.mp q
  obtain ⟨x, ex, hx⟩ := Option.bind_eq_some_iff.mp ei
  obtain ⟨y, ey, hy⟩ := Option.bind_eq_some_iff.mp ej
  obtain ⟨z, ez, hz⟩ := Option.bind_eq_some_iff.mp el
  rw [asN_inv hx] at ex
  rw [asN_inv hy] at ey
  rw [asN_inv hz] at ez
  cases q
  refine ⟨δ, .int i, R, ex, fun v H1 s1 r1 => ?_⟩
  cases r1
  refine ⟨δ, .int j, R.mono s1, ey, fun u H2 s2 r2 => ?_⟩
  cases r2
  refine ⟨i, j, rfl, rfl, decide (i ≤ j), rfl, ?_⟩
  by_cases h : i ≤ j
  · rw [decide_eq_true h, if_pos rfl]
    refine ⟨δ, .int l, (R.mono s1).mono s2, ez, fun w H3 s3 r3 => ?_⟩
    cases r3
    refine ⟨j, l, rfl, rfl, ?_⟩
    rw [decide_eq_true h, Bool.true_and] at k
    exact k _ H3 ((s1.trans s2).trans s3) (.bl _)
  · rw [decide_eq_false h, if_neg (by decide)]
    rw [decide_eq_false h, Bool.false_and] at k
    exact k _ H2 (s1.trans s2) (.bl _)
def stepDD (acc : List Int) (k : Int) : List Int := if acc.any (· == k) then acc else acc ++ [k]
def ddOf (ns : List Int) : List Int := ns.foldl stepDD []
def intsOf : List D → Option (List Int)
  | [] => some []
  | .int i :: ds => (intsOf ds).map (i :: ·)
  | _ :: _ => none
def fLenSet (f : FD) : FD := fun δ => (f δ).bind fun d => (asL d).bind fun ds => (intsOf ds).bind fun ns => if ns.length ≤ 1000 then some (.int ((ddOf ns).length : Int)) else none
theorem intsOf_reps {K : PySem.W.Frag} {H : Hp} : ∀ {vs : List V} {ds : List D} {ns : List Int}, Reps K H vs ds → intsOf ds = some ns → vs = ns.map V.int
  | _, _, _, .nil, e => by cases e; rfl
  | _, _, ns, .cons (d := .int i) r t, e => by
    obtain ⟨ms, em, e⟩ := Option.map_eq_some_iff.mp (show (intsOf _).map (i :: ·) = some ns from e)
    subst e
    cases r
    rw [intsOf_reps t em]
    rfl
  | _, _, _, .cons (d := .non) _ _, e => by cases e
  | _, _, _, .cons (d := .bl _) _ _, e => by cases e
  | _, _, _, .cons (d := .str _) _ _, e => by cases e
  | _, _, _, .cons (d := .tup _) _ _, e => by cases e
  | _, _, _, .cons (d := .lst _) _ _, e => by cases e
  | _, _, _, .cons (d := .seq _) _ _, e => by cases e
  | _, _, _, .cons (d := .ty _) _ _, e => by cases e
  | _, _, _, .cons (d := .dct) _ _, e => by cases e
  | _, _, _, .cons (d := .exc _) _ _, e => by cases e
  | _, _, _, .cons (d := .cls _) _ _, e => by cases e
theorem vals_ints : ∀ {ns : List Int} {us : List Value}, Vals (ns.map V.int) us → PyProof.Rows.IntsAre us ns
  | [], _, .nil => .nil
  | n :: ns, _, .cons r t => by
    obtain ⟨tk, rfl⟩ := r
    exact .cons n tk (vals_ints t)
theorem range_getD (ns : List Int) : (List.range ns.length).map (fun i => ns.getD i 0) = ns := by
  refine List.ext_getElem? fun i => ?_
  by_cases h : i < ns.length
  · rw [List.getElem?_map, List.getElem?_range h, List.getElem?_eq_getElem h]
    simp [List.getD_eq_getElem?_getD, h]
  · rw [List.getElem?_eq_none (by rw [List.length_map, List.length_range]; omega), List.getElem?_eq_none (by omega)]
theorem firstMet_dd (ns : List Int) : PyProof.Rows.firstMet (fun i => ns.getD i 0) ns.length = ddOf ns := by
  unfold PyProof.Rows.firstMet
  rw [range_getD]
  rfl
theorem ddOf_le (ns : List Int) : (ddOf ns).length ≤ ns.length := by
  rw [← firstMet_dd]
  exact PyProof.Rows.firstMet_length_le _ _
section
variable {X : Cx}
theorem call_setL (hcm : X.calm = true) : CallR X (.type "set") (fun xs H Q => ∃ p ns, xs = [.ref p] ∧ SqL X.K H p (ns.map V.int) ∧ ns.length ≤ 1000 ∧ ∀ l, H l = none → Q (.ref l) (upd H l (.set (fun k => (ddOf ns).any (· == k)) (ddOf ns).length))) := by
  intro pins s σ H xs us Q I r h
  obtain ⟨p, ns, rfl, hq, hl, q⟩ := h
  obtain ⟨u, rfl, rx⟩ := vals1 r
  cases rx
  obtain ⟨its, rv, pl, hz⟩ := I.list hq
  have hi := vals_ints rv
  have hsz : its.toArray.size = ns.length := by rw [List.size_toArray, ← rv.length, List.length_map]
  refine PySem.call_set_list (ns := ns) (I.ok.hd hcm) pl.isList (by simpa using hi) (by rw [hsz]; show ns.length + 1 < 4096; omega) fun h' tk hS hk => ?_
  rw [hsz, firstMet_dd] at hS
  exact ⟨.ref s.heap.objs.size, _, I.laid (t' := tk) (fun b o e => hk b o (Heap.lt_size e) e) (Nat.le_refl _) (show ObjOk X.prog X.w _ h' _ (.set (fun k => (ddOf ns).any (· == k)) (ddOf ns).length) from hS), rfl, q _ (I.hok.fresh (Nat.le_refl _))⟩
theorem call_lenS : CallR X (.builtin "len") (fun xs H Q => ∃ p S n, xs = [.ref p] ∧ H p = some (.set S n) ∧ n ≤ 1000 ∧ Q (.int n) H) := by
  intro pins s σ H xs us Q I r h
  obtain ⟨p, S, n, rfl, hp, hn, q⟩ := h
  obtain ⟨u, rfl, rx⟩ := vals1 r
  cases rx
  obtain ⟨o, es, ep, t, e, ex, hd, _, _, _, hf, hsz⟩ := I.hok p _ hp
  refine PySem.call_len_set e ex hd hf (by rw [hsz]; omega) ?_
  exact ⟨.int n, H, I.tok _, ⟨_, by rw [hsz]⟩, q⟩
theorem pd_lenset {l : Expr} {f : FD} {p1 p2 p3 p4 : Pos} (hl : PD X l f) (hg : Gl X "len") (hm : X.mg "len" = none) (hg2 : Gl X "set") (hm2 : X.mg "set" = none) (hcm : X.calm = true := by rfl)
    (he : starEach [.Call (.Name "set" p1) [l] [] p2] X.env = [(false, eval (.Call (.Name "set" p1) [l] [] p2) X.env)] := by rfl) (hpl : (backTo p4 (starEach [] X.env)).any (·.1) = false := by rfl) (he2 : starEach [l] X.env = [(false, eval l X.env)] := by rfl) (hpl2 : (backTo p2 (starEach [] X.env)).any (·.1) = false := by rfl) :
    PD X (.Call (.Name "len" p3) [.Call (.Name "set" p1) [l] [] p2] [] p4) (fLenSet f) :=
  imp (pe_callB call_lenS hg hm PySem.boot_len (pa_cons (pe_callTy (call_setL hcm) hg2 hm2 PyProof.Rows.boot_set (pa_cons hl pa_nil he2) (by decide) (by decide) he2 hpl2) pa_nil he) (by decide) (by decide) he hpl) fun σ H Q ⟨δ, d, R, q, k⟩ => by
    unfold fLenSet at q
    obtain ⟨x, ex, q⟩ := Option.bind_eq_some_iff.mp q
    obtain ⟨ds, ed, q⟩ := Option.bind_eq_some_iff.mp q
    obtain ⟨ns, en, q⟩ := Option.bind_eq_some_iff.mp q
    split at q
    · rename_i hn
      cases q
      refine ⟨δ, x, R, ex, fun v H1 s1 r1 => ?_⟩
      obtain ⟨a, vs, rfl, sq, rs⟩ := asL_rep r1 ed
      have ev := intsOf_reps rs en
      subst ev
      refine ⟨a, ns, rfl, sq, hn, fun l hl => ?_⟩
      exact ⟨l, _, _, rfl, upd_same, Nat.le_trans (ddOf_le ns) hn, k _ _ (s1.trans (same_new hl _)) (.int _)⟩
    · cases q
end
section
variable {K : PySem.W.Frag} {F H : Hp} {σ : L2.St} {δ : DS} {As : Nat → List Addr} {i : Nat} {x : D} {ds : List D}
theorem set_get {α : Type} {xs : List α} {i j : Nat} {v : α} (hi : i < xs.length) : (xs.set i v)[j]? = if j = i then some v else xs[j]? := by
  by_cases h : j = i
  · subst h; rw [if_pos rfl, List.getElem?_set_self hi]
  · rw [if_neg h, List.getElem?_set_ne (Ne.symm h)]
theorem RepA.unwrap (R : RepA K F H σ δ As) (h : δ[i]? = some (some (.tup [x, .lst ds]))) (ix : imm x = true) : ∃ t w0 a, σ[i]? = some (some (.ref t)) ∧ SqT K H t [w0, .ref a] ∧ Rep K H w0 x ∧ RepA K F H (σ.set i (some (.ref a))) (δ.set i (some (.lst ds))) As := by
  have hi : i < δ.length := (List.getElem?_eq_some_iff.mp h).1
  have hl := R.len
  obtain ⟨v, h1, h2⟩ := R.val i _ h
  obtain ⟨t, vs, rfl, sq, ro⟩ := h2.parts
  obtain ⟨w0, w1, A1, A2, rfl, eA, r0, r1⟩ : ∃ w0 w1 A1 A2, vs = [w0, w1] ∧ As i = A1 ++ A2 ∧ RepO K F H w0 x A1 ∧ RepO K F H w1 (.lst ds) A2 := by
    generalize hq : As i = Q at ro
    cases ro with
    | cons r0 t0 e0 =>
      cases t0 with
      | cons r1 t1 e1 =>
        cases t1
        exact ⟨_, _, _, _, rfl, by rw [e0, e1, List.append_nil], r0, r1⟩
  rw [r0.none_of ix, List.nil_append] at eA
  subst eA
  obtain ⟨a, us, A0, rfl, _, _, _, _⟩ := r1.lst_inv rfl
  refine ⟨t, w0, a, h1, sq, r0.rep R.fz, R.fz, by rw [List.length_set, List.length_set]; exact hl, fun j d q => ?_, fun j z => ?_, R.nd, R.dj⟩
  · rw [set_get hi] at q
    rw [set_get (by omega)]
    by_cases hj : j = i
    · subst hj
      rw [if_pos rfl] at q ⊢
      cases q
      exact ⟨_, rfl, r1⟩
    · rw [if_neg hj] at q ⊢
      exact R.val j d q
  · by_cases hj : j = i
    · subst hj
      exact absurd (by rw [set_get hi, if_pos rfl]) (z (.lst ds))
    · refine R.non j fun d q => z d ?_
      rw [set_get hi, if_neg hj]
      exact q
theorem RepA.wrap {t a : Addr} {w0 : V} (R : RepA K F H (σ.set i (some (.ref a))) (δ.set i (some (.lst ds))) As) (hσ : σ[i]? = some (some (.ref t))) (sq : SqT K H t [w0, .ref a]) (r0 : Rep K H w0 x) (ix : imm x = true) (hi : i < δ.length) : RepA K F H σ (δ.set i (some (.tup [x, .lst ds]))) As := by
  have hl := R.len
  rw [List.length_set, List.length_set] at hl
  refine ⟨R.fz, by rw [List.length_set]; exact hl, fun j d q => ?_, fun j z => ?_, R.nd, R.dj⟩
  · rw [set_get hi] at q
    by_cases hj : j = i
    · subst hj
      rw [if_pos rfl] at q
      cases q
      obtain ⟨v, h1, h2⟩ := R.val j (.lst ds) (by rw [set_get hi, if_pos rfl])
      rw [set_get (by omega), if_pos rfl] at h1
      cases h1
      exact ⟨_, hσ, .tup sq (.cons (.imm ix r0) (.cons h2 .nil rfl) (by simp))⟩
    · rw [if_neg hj] at q
      obtain ⟨v, h1, h2⟩ := R.val j d (by rw [set_get hi, if_neg hj]; exact q)
      rw [set_get (by omega), if_neg hj] at h1
      exact ⟨v, h1, h2⟩
  · by_cases hj : j = i
    · subst hj
      exact absurd (by rw [set_get hi, if_pos rfl]) (z (.tup [x, .lst ds]))
    · refine R.non j fun d q => z d ?_
      rw [set_get hi, if_neg hj]
      rw [set_get hi, if_neg hj] at q
      exact q
end
theorem RepOs.rev {K : PySem.W.Frag} {F H : Hp} : ∀ {vs : List V} {ds : List D} {A : List Addr}, RepOs K F H vs ds A → A.Nodup → ∃ B, RepOs K F H vs.reverse ds.reverse B ∧ B.Nodup ∧ ∀ y ∈ B, y ∈ A
  | _, _, _, .nil, _ => ⟨[], .nil, List.nodup_nil, fun _ m => nomatch m⟩
  | _, _, _, .cons (A := A) (B := B) r t e, nd => by
    subst e
    have n := List.nodup_append.mp nd
    obtain ⟨C, h1, h2, h3⟩ := RepOs.rev t n.2.1
    refine ⟨C ++ A, by rw [List.reverse_cons, List.reverse_cons]; exact h1.snoc r, List.nodup_append.mpr ⟨h2, n.1, fun a m b m' z => ?_⟩, fun y m => ?_⟩
    · subst z; exact n.2.2 a m' a (h3 a m) rfl
    · rcases List.mem_append.mp m with z | z
      · exact List.mem_append_right _ (h3 y z)
      · exact List.mem_append_left _ z
def sTRev (i : Nat) : SD := fun δ => match δ[i]? with
  | some (some (.tup [x, .lst ds])) => if imm x then some (.nx (δ.set i (some (.tup [x, .lst ds.reverse])))) else none
  | _ => none
def sTApp (i : Nat) (f : FD) : SD := fun δ => match δ[i]? with
  | some (some (.tup [x, .lst ds])) => (f δ).bind fun d => if imm x = true ∧ imm d = true ∧ ds.length ≤ 999 then some (.nx (δ.set i (some (.tup [x, .lst (ds ++ [d])])))) else none
  | _ => none
section
variable {X : Cx} {pos : Pos} {c : Expr} {f : FD}
theorem pm_trev (i : Nat) (hc : PE X c (tBM0 X.K "list" rReverse (tOp (rIxT X.K) (tVar i) (up X.K (fC (.int 1)))))) (hs : swapsWith c none pos.line X.env = pure false := by rfl) : PMD X (.Expr c pos) (sTRev i) := impS (ps_expr hc hs) fun E σ H ⟨F, δ, r, ⟨As, R⟩, q, k⟩ => by
  unfold sTRev at q
  split at q
  · rename_i x ds h
    split at q
    · rename_i ix
      cases q
      have hi : i < δ.length := (List.getElem?_eq_some_iff.mp h).1
      obtain ⟨t, w0, a, hσ, sq0, r00, U0⟩ := R.unwrap h ix
      refine ⟨.ref t, hσ, δ, .int 1, R.toS, rfl, fun iv H1 s1 ri => ?_⟩
      cases ri
      have U := U0.grow s1
      have sq := sqT_same s1 sq0
      have r0 := r00.mono s1
      have hg : (δ.set i (some (D.lst ds)))[i]? = some (some (.lst ds)) := by rw [set_get hi, if_pos rfl]
      have hv : (σ.set i (some (V.ref a)))[i]? = some (some (.ref a)) := by rw [set_get (by rw [R.len]; exact hi), if_pos rfl]
      obtain ⟨b, vs, A0, u1, eA, g, n, ro⟩ := U.lst hg
      rw [hv] at u1
      cases u1
      refine ⟨t, [w0, .ref a], 1, .ref a, rfl, rfl, sq, rfl, .inl ⟨rfl, _, SqL.of g⟩, a, vs, rfl, rfl, g, ?_⟩
      have nd := U.nd i
      rw [eA] at nd
      have n1 := List.nodup_cons.mp nd
      obtain ⟨B, rB, nB, iB⟩ := ro.rev n1.2
      obtain ⟨Bs, W⟩ := U.wr hg hv eA g n rB (fun z => n1.1 (iB _ z)) nB fun j y hj m z => U.dj j i y hj m (by rw [eA]; exact List.mem_cons_of_mem _ (iB y z))
      rw [List.set_set] at W
      exact k σ F _ (Same.refl F) ⟨Bs, W.wrap hσ (sqT_keep (keep_upd g) sq) (rep_keep (keep_upd g) r0 ix) ix hi⟩
    · cases q
  · cases q
theorem pm_tapp (i : Nat) (hc : PE X c (tBM X.K "list" rAppend (tOp (rIxT X.K) (tVar i) (up X.K (fC (.int 1)))) (tCons (up X.K f) tNil))) (hs : swapsWith c none pos.line X.env = pure false := by rfl) : PMD X (.Expr c pos) (sTApp i f) := impS (ps_expr hc hs) fun E σ H ⟨F, δ, r, ⟨As, R⟩, q, k⟩ => by
  unfold sTApp at q
  split at q
  · rename_i x ds h
    obtain ⟨d, ed, q⟩ := Option.bind_eq_some_iff.mp q
    split at q
    · rename_i hh
      obtain ⟨ix, id, hl⟩ := hh
      cases q
      have hi : i < δ.length := (List.getElem?_eq_some_iff.mp h).1
      obtain ⟨t, w0, a, hσ, sq0, r00, U0⟩ := R.unwrap h ix
      have hg : (δ.set i (some (D.lst ds)))[i]? = some (some (.lst ds)) := by rw [set_get hi, if_pos rfl]
      have hv : (σ.set i (some (V.ref a)))[i]? = some (some (.ref a)) := by rw [set_get (by rw [R.len]; exact hi), if_pos rfl]
      refine ⟨.ref t, hσ, δ, .int 1, R.toS, rfl, fun iv H1 s1 ri => ?_⟩
      cases ri
      obtain ⟨b0, vs0, A00, v1, _, g0, _, _⟩ := U0.lst hg
      rw [hv] at v1
      cases v1
      refine ⟨t, [w0, .ref a], 1, .ref a, rfl, rfl, sqT_same s1 sq0, rfl, .inl ⟨rfl, _, SqL.of (s1 _ _ g0)⟩, ?_⟩
      refine ⟨δ, d, R.toS.mono s1, ed, fun v H2 s2 rv => ?_⟩
      have U := U0.grow (s1.trans s2)
      have sq := sqT_same (s1.trans s2) sq0
      have r0 := r00.mono (s1.trans s2)
      obtain ⟨b, vs, A0, u1, eA, g, n, ro⟩ := U.lst hg
      rw [hv] at u1
      cases u1
      refine ⟨a, vs, v, rfl, rfl, g, Nat.lt_of_le_of_lt (by rw [ro.length]; exact hl) (small1000 (show 999 ≤ 1000 by decide)), ?_⟩
      have nd := U.nd i
      rw [eA] at nd
      have n1 := List.nodup_cons.mp nd
      obtain ⟨Bs, W⟩ := U.wr hg hv eA g n (ro.snoc (.imm id rv)) (by rw [List.append_nil]; exact n1.1) (by rw [List.append_nil]; exact n1.2) fun j y hj m z => U.dj j i y hj m (by rw [eA]; rw [List.append_nil] at z; exact List.mem_cons_of_mem _ z)
      rw [List.set_set] at W
      exact k σ F _ (Same.refl F) ⟨Bs, W.wrap hσ (sqT_keep (keep_upd g) sq) (rep_keep (keep_upd g) r0 ix) ix hi⟩
    · cases q
  · cases q
end
def rowsC (δ : DS) (i r : Nat) (x : D) (fc : FT) (g : List D → Option (List D)) : List D → List D → Option (List D)
  | done, [] => some done
  | done, d :: ds => match d with
    | .lst row => (fc ((δ.set i (some (.tup [x, .lst (done ++ .lst row :: ds)]))).set r (some (.lst row)))).bind fun b => if b then none else (rowF g (.lst row)).bind fun e => rowsC δ i r x fc g (done ++ [e]) ds
    | _ => none
def sRowsT (i r : Nat) (fc : FT) (g : List D → Option (List D)) : SD := fun δ => match δ[i]? with
  | some (some (.tup [x, .lst ds])) => if r < δ.length ∧ imm x = true then (rowsC δ i r x fc g [] ds).bind fun es => some (.nx ((δ.set r none).set i (some (.tup [x, .lst es])))) else none
  | _ => none
theorem rowsC_get {δ : DS} {i r : Nat} {x : D} {fc : FT} {g : List D → Option (List D)} : ∀ {ds done es : List D}, rowsC δ i r x fc g done ds = some es → ∃ new, es = done ++ new ∧ new.length = ds.length ∧ ∀ j, j < ds.length → ∃ row e, ds[j]? = some (.lst row) ∧ new[j]? = some e ∧ rowF g (.lst row) = some e ∧ fc ((δ.set i (some (.tup [x, .lst (done ++ (new.take j ++ ds.drop j))]))).set r (some (.lst row))) = some false
  | [], done, es, h => by cases h; exact ⟨[], by simp, rfl, fun j hj => by simp at hj⟩
  | d :: ds, done, es, h => by
    match d, h with
    | .lst row, h =>
      obtain ⟨b, eb, h⟩ := Option.bind_eq_some_iff.mp (show ((fc _).bind _) = some es from h)
      cases b with
      | true => cases h
      | false =>
        obtain ⟨e, ee, h⟩ := Option.bind_eq_some_iff.mp (show ((rowF g (.lst row)).bind _) = some es from h)
        obtain ⟨new, e1, l1, h1⟩ := rowsC_get h
        refine ⟨e :: new, by rw [e1]; simp, by simp [l1], fun j hj => ?_⟩
        cases j with
        | zero => exact ⟨row, e, rfl, rfl, ee, by simpa using eb⟩
        | succ j =>
          obtain ⟨row', e', a1, a2, a3, a4⟩ := h1 j (by simpa using hj)
          refine ⟨row', e', by simpa using a1, by simpa using a2, a3, ?_⟩
          have z : done ++ ((e :: new).take (j + 1) ++ (D.lst row :: ds).drop (j + 1)) = (done ++ [e]) ++ (new.take j ++ ds.drop j) := by simp
          rw [z]
          exact a4
    | .non, h => cases h
    | .bl _, h => cases h
    | .int _, h => cases h
    | .str _, h => cases h
    | .tup _, h => cases h
    | .seq _, h => cases h
    | .ty _, h => cases h
    | .dct, h => cases h
    | .exc _, h => cases h
    | .cls _, h => cases h
theorem pm_rowsT {X : Cx} {x y : Str} {px py pb pif pos : Pos} {ix cx : Expr} {th body : List Stmt} {fc : FT} {u : SD} {g : List D → Option (List D)} (i r : Nat) (hN : X.N.Nodup) (hp : PassesOwn (model X.prog X.w) X.A X.env X.xe) (hc : X.calm = true) (hv : PE X (.Subscript (.Name y py) ix pb) (tOp (rIxT X.K) (tVar i) (up X.K (fC (.int 1))))) (hcx : PTD X cx fc) (hth : PMs X th u) (hb : PRow X r body g) (hir : i ≠ r := by decide)
    (hx : X.N[r]? = some x := by rfl) (hl : Loc X.env.scope x := by first | exact Or.inl rfl | exact Or.inr rfl) (hf : X.fn x = true ∨ X.env.scope.names.lookup x = some .local := by first | exact .inl rfl | exact .inr rfl | assumption)
    (hs : ∀ v, foldedSetIterable (.Subscript (.Name y py) ix pb) X.env v = pure v := by intro _; rfl) : PMD X (.For (.Name x px) (.Subscript (.Name y py) ix pb) (.If cx th [] pif :: body) [] pos) (sRowsT i r fc g) :=
  impS (ps_for hp hc (pi_list hv) (pg_name hN hx hl hf) (pss_cons (ps_if hcx hth pss_nil) hb) hs) fun E σ H ⟨F, δ, res, ⟨As, R⟩, q, k⟩ => by
  unfold sRowsT at q
  split at q
  · rename_i x0 ds h
    split at q
    case isFalse => cases q
    rename_i hh
    obtain ⟨hrl, ix0⟩ := hh
    obtain ⟨es, em, q⟩ := Option.bind_eq_some_iff.mp q
    cases q
    obtain ⟨new, en, hle, hget⟩ := rowsC_get em
    rw [List.nil_append] at en
    subst en
    have hiδ : i < δ.length := (List.getElem?_eq_some_iff.mp h).1
    have hiσ : i < σ.length := by rw [R.len]; exact hiδ
    obtain ⟨t, w0, a, hσ, sq0, r00, U0⟩ := R.unwrap h ix0
    have hg0 : (δ.set i (some (D.lst ds)))[i]? = some (some (.lst ds)) := by rw [set_get hiδ, if_pos rfl]
    have hv0 : (σ.set i (some (V.ref a)))[i]? = some (some (.ref a)) := by rw [set_get hiσ, if_pos rfl]
    obtain ⟨a0, vs, A0, u1, eA, g0, n0, ro⟩ := U0.lst hg0
    rw [hv0] at u1
    cases u1
    have vl : vs.length = ds.length := ro.length
    refine ⟨.ref t, hσ, δ, .int 1, R.toS, rfl, fun iv H1 s1 ri => ?_⟩
    cases ri
    refine ⟨t, [w0, .ref a], 1, .ref a, rfl, rfl, sqT_same s1 sq0, rfl, a, rfl, ⟨vs, SqL.of (s1 _ _ g0)⟩, ?_⟩
    have dl : ∀ z : D, i < ((δ.set r none).set i (some z)).length := fun z => by rw [List.length_set, List.length_set]; exact hiδ
    have dl0 : i < (δ.set r none).length := by rw [List.length_set]; exact hiδ
    have dget : ∀ (z : List D), ((δ.set r none).set i (some (.lst z)))[i]? = some (some (.lst z)) := fun z => by rw [set_get dl0, if_pos rfl]
    have dr : ∀ (z : D) d, ((δ.set r none).set i (some z))[r]? ≠ some (some d) := fun z d e => by
      rw [List.getElem?_set_ne hir, List.getElem?_set, if_pos rfl] at e
      split at e <;> cases e
    have U1 : RepA X.K F H1 (σ.set i (some (.ref a))) ((δ.set r none).set i (some (.lst ds))) (asSet As r []) := by
      have := (U0.grow s1).drop r
      rw [List.set_comm _ _ hir] at this
      exact this
    refine ⟨fun j m σ' H' => m = ds.length - j ∧ j ≤ ds.length ∧ σ'.length = σ.length ∧ σ'[i]? = some (some (.ref t)) ∧ SqT X.K H' t [w0, .ref a] ∧ Rep X.K H' w0 x0 ∧ H' a = some (.lst vs) ∧ RepM X.K F H' (σ'.set i (some (.ref a))) ((δ.set r none).set i (some (.lst (es.take j ++ ds.drop j)))), ⟨ds.length, rfl, Nat.zero_le _, rfl, hσ, sqT_same s1 sq0, r00.mono s1, s1 _ _ g0, _, by
      rw [List.take_zero, List.drop_zero, List.nil_append]; exact U1⟩, ?_⟩
    rintro j m σ' H' ⟨rfl, hjl, lσ, s1', sq', r0', g1, As', R'⟩
    have hiσ' : i < σ'.length := by omega
    have hw : (σ'.set i (some (V.ref a)))[i]? = some (some (.ref a)) := by rw [set_get hiσ', if_pos rfl]
    by_cases hlt : j < ds.length
    · obtain ⟨row, e1, hd, he, hrf, hfc⟩ := hget j hlt
      obtain ⟨row0, row', ed, rfl, i1, gr, i2⟩ := rowF_inv hrf
      cases ed
      have hdj : ds[j] = .lst row := by rw [List.getElem?_eq_getElem hlt] at hd; exact Option.some.inj hd
      have hrow : (es.take j ++ ds.drop j)[j]? = some (.lst row) := by
        rw [mid_get hle (by omega), hdj]
      refine .inr ⟨⟨vs, vs[j], SqL.of g1, List.getElem?_eq_getElem (by omega)⟩, fun σ2 H2 => σ2.length = σ.length ∧ σ2[i]? = some (some (.ref t)) ∧ SqT X.K H2 t [w0, .ref a] ∧ Rep X.K H2 w0 x0 ∧ H2 a = some (.lst vs) ∧ RepM X.K F H2 (σ2.set i (some (.ref a))) ((δ.set r none).set i (some (.lst (es.take (j + 1) ++ ds.drop (j + 1))))), fun σ2 H2 z => ⟨ds.length - (j + 1), by omega, rfl, hlt, z⟩, fun y H2 yy => ?_⟩
      obtain ⟨eH, hy⟩ := yy
      subst eH
      have hyv := hy vs (SqL.of g1)
      obtain ⟨a1, vs1, b, ws, B0, O, t0, u0, hv1, ub, rr, ndB, inB, inO, aO, sep, _⟩ := R'.row (dget _) hrow
      rw [hw] at t0
      cases t0
      have ev : vs1 = vs := by rw [g1] at u0; cases u0; rfl
      subst ev
      have eyb : y = .ref b := by rw [hv1] at hyv; cases hyv; rfl
      subst eyb
      have hrσ : r < σ'.length := by
        have := R'.len
        rw [List.length_set, List.length_set, List.length_set] at this
        omega
      have W : RepA X.K F H2 σ' ((δ.set r none).set i (some (.tup [x0, .lst (es.take j ++ ds.drop j)]))) As' := R'.wrap s1' sq' r0' ix0 dl0
      have RT : RepS X.K H2 (σ'.set r (some (.ref b))) ((δ.set i (some (.tup [x0, .lst (es.take j ++ ds.drop j)]))).set r (some (.lst row))) := by
        have z := W.toS.set r (v := .ref b) (d := .lst row) (.lst ub (rr.reps R'.fz))
        rw [List.set_comm _ _ (Ne.symm hir), List.set_set] at z
        exact z
      rw [List.nil_append] at hfc
      refine ⟨_, false, RT, hfc, fun H3 s3 => ?_⟩
      show (if false = true then _ else _)
      rw [if_neg Bool.false_ne_true]
      show rowUp X r g _ (σ'.set r (some (.ref b))) H3
      refine ⟨b, ws, row, row', by rw [set_get hrσ, if_pos rfl], s3 _ _ ub, (rr.reps R'.fz).mono s3, i1, gr, i2, fun ws' H5 s5 r5 => ?_⟩
      have R3 := (R'.grow s3).grow s5
      obtain ⟨a2, vs2, b2, ws2, B2, O2, t2, u2, hv2, ub2, rr2, ndB2, inB2, inO2, aO2, sep2, fin⟩ := R3.row (dget _) hrow
      rw [hw] at t2
      cases t2
      have ev : vs2 = vs1 := by rw [s5 _ _ (s3 _ _ g1)] at u2; cases u2; rfl
      subst ev
      have eb : b2 = b := by rw [hv1] at hv2; cases hv2; rfl
      subst eb
      have Rn := fin (RepOs.of_imm (F := F) r5 i2) (fun z => nomatch z) List.nodup_nil (fun x m => nomatch m) fun _ _ _ _ z => nomatch z
      obtain ⟨An, Rn⟩ := Rn
      have hes : es[j]'(by omega) = .lst row' := by
        rw [List.getElem?_eq_getElem (by omega)] at he
        exact Option.some.inj he
      rw [List.set_set, ← hes, mid_set hle (by omega)] at Rn
      have kb := keep_upd (o := HO.lst ws') ub2
      refine ⟨by rw [List.length_set]; exact lσ, by rw [List.getElem?_set_ne (Ne.symm hir)]; exact s1', sqT_keep kb (sqT_same (s3.trans s5) sq'), rep_keep kb (r0'.mono (s3.trans s5)) ix0, ?_, An, ?_⟩
      · have hab : a ≠ b2 := fun z => sep2 b2 List.mem_cons_self (by rw [← z]; exact aO2)
        rw [upd_ne hab]
        exact s5 _ _ (s3 _ _ g1)
      · rw [List.set_comm _ _ (Ne.symm hir)]
        exact Rn.other _ (dr _)
    · have e : j = ds.length := by omega
      subst e
      have z : es.take ds.length ++ ds.drop ds.length = es := by rw [List.take_of_length_le (by omega), List.drop_length, List.append_nil]
      rw [z] at R'
      exact .inl ⟨⟨vs, SqL.of g1, by omega⟩, k σ' F H' (Same.refl F) ⟨As', R'.wrap s1' sq' r0' ix0 dl0⟩⟩
  · cases q
end Dl
namespace Dl
open PySem PySem.Spec PyProof.Rows L2
noncomputable def fnM (S : List D → D × D → Prop) (ds : List D) : Option (D × D) := by
  classical exact if h : (∃ d, S ds d) ∧ ∀ d e, S ds d → S ds e → d = e then some h.1.choose else none
theorem fnM_eq {S : List D → D × D → Prop} {ds : List D} {p : D × D} (u : ∀ q, S ds q → q = p) (h : S ds p) : fnM S ds = some p := by
  unfold fnM
  rw [dif_pos ⟨⟨p, h⟩, fun d e a b => (u d a).trans (u e b).symm⟩]
  exact congrArg some (u _ (Exists.choose_spec (⟨p, h⟩ : ∃ d, S ds d)))
theorem fnM_inv {S : List D → D × D → Prop} {ds : List D} {p : D × D} (h : fnM S ds = some p) : S ds p := by
  unfold fnM at h
  split at h
  · rename_i g
    cases h
    exact g.1.choose_spec
  · cases h
def vTWalk (i k : Nat) : FMA := fun δ => match δ[i]? with
  | some (some (.tup ds)) => match ds[k]? with
    | some (.seq es) => some (es, δ)
    | _ => none
  | _ => none
theorem pim_tix {X : Cx} {tg a b : Expr} {pos : Pos} (i k : Nat) (ha : PE X a (tVar i)) (hb : PD X b (fC (.int (k : Int)))) (hs : PlainIx b := by intro _ _; rfl) : PIM X tg (.Subscript a b pos) (vTWalk i k) := impI (pi_list (pe_ix ix_tup ha hb hs)) fun σ H R ⟨F, δ, As, ds, δ', R0, e, kk⟩ => by
  unfold vTWalk at e
  split at e
  · rename_i ts h
    split at e
    · rename_i es h2
      cases e
      obtain ⟨v, h3, h4⟩ := R0.val i _ h
      obtain ⟨t, vs, rfl, sq, ro⟩ := h4.parts
      refine ⟨.ref t, h3, δ, .int (k : Int), R0.toS, rfl, fun iv H1 s1 ri => ?_⟩
      cases ri
      obtain ⟨w, A1, B, A2, hw, rB, eA, _⟩ := ro.pick h2
      have rF : Rep X.K F w (.seq ds) := by
        cases rB with
        | imm i _ => rw [Dl.imm] at i; cases i
        | shr h => exact h
      cases rF with
      | @seq p us _ hp rp =>
        refine ⟨t, vs, (k : Int), .ref p, rfl, rfl, sqT_same s1 sq, atI_nat hw, p, rfl, ⟨us, (R0.fz.trans s1).seq hp⟩, kk _ F H1 As (Same.refl F) (R0.grow s1) (itf_list hp rp)⟩
    · cases e
  · cases e
end Dl
namespace Mine
open PySem PySem.Spec PyProof.Rows L2 Dl
noncomputable section
def top (i : Nat) : Stmt := PySem.Challenge.pw_watchyard_k21_ring_or_closed.main.body.getD i (.Pass ⟨0, 0, 0, 0⟩)
open Mth
abbrev fr (p : Int × Int) : D := .tup [.int p.1, .int p.2]
def gWhole : D → Option Bool
  | .int _ => some true
  | .ty _ => none
  | .exc _ => none
  | .cls _ => none
  | _ => some false
abbrev Md (x : Int) : Prop := Sm 4000 x
theorem Md.bd {x : Int} (h : Md x) : Bd x := h.mono (l := 9000) (by decide)
theorem bd_of {k : Nat} {x : Int} (h : Sm k x) (e : k ≤ 9000 := by decide) : Bd x := h.mono (l := 9000) e
theorem bd_sm {x : Int} (h : x.natAbs < 2 ^ 64 := by decide) : Bd x := bd_of (k := 64) h
theorem bd_neg {x : Int} (h : Bd x) : Bd (-x) := by unfold Bd at *; rw [Int.natAbs_neg]; exact h
structure Fk (p : Int × Int) : Prop where
  pos : 0 < p.2
  s1 : Md p.1
  s2 : Md p.2
theorem Fk.of {k : Nat} {p : Int × Int} (h : Fr k p) (e : k ≤ 4000 := by decide) : Fk p := ⟨h.pos, h.s1.mono e, h.s2.mono e⟩
def S_is_whole (ds : List D) (d : D) : Prop := ∃ x b, gWhole x = some b ∧ ds = [x] ∧ d = .bl b
theorem e_is_whole {x : D} {b : Bool} (h : gWhole x = some b) : fn S_is_whole [x] = some (.bl b) := fn_eq (fun d' h' => by
  obtain ⟨x', b', h1, h2, rfl⟩ := h'
  cases h2; rw [h] at h1; cases h1; rfl) ⟨x, b, h, rfl, rfl⟩
abbrev S__law_whole := S_is_whole
def S_common_divisor (ds : List D) (d : D) : Prop := ∃ a b, 0 < b ∧ ds = [.int a, .int b] ∧ d = .int (gc a b)
theorem e_common_divisor {a b : Int} (h : 0 < b) : fn S_common_divisor [.int a, .int b] = some (.int (gc a b)) := fn_eq (fun d' h' => by
  obtain ⟨a', b', h1, h2, rfl⟩ := h'
  cases h2; rfl) ⟨a, b, h, rfl, rfl⟩
def S_lowest (ds : List D) (d : D) : Prop := ∃ t b, 0 < b ∧ Bd b ∧ ds = [.int t, .int b] ∧ d = fr (rd t b)
theorem e_lowest {t b : Int} (h : 0 < b) (g : Bd b) : fn S_lowest [.int t, .int b] = some (fr (rd t b)) := fn_eq (fun d' h' => by
  obtain ⟨t', b', _, _, h2, rfl⟩ := h'
  cases h2; rfl) ⟨t, b, h, g, rfl, rfl⟩
def S2 (op : Int × Int → Int × Int → D) (ds : List D) (d : D) : Prop := ∃ p q : Int × Int, Fk p ∧ Fk q ∧ ds = [fr p, fr q] ∧ d = op p q
theorem e2 {op : Int × Int → Int × Int → D} {p q : Int × Int} (h : Fk p) (g : Fk q) : fn (S2 op) [fr p, fr q] = some (op p q) := fn_eq (fun d' h' => by
  obtain ⟨⟨a, b⟩, ⟨c, e⟩, _, _, h2, rfl⟩ := h'
  obtain ⟨a', b'⟩ := p
  obtain ⟨c', e'⟩ := q
  cases h2; rfl) ⟨p, q, h, g, rfl, rfl⟩
abbrev S_less := S2 fun p q => .bl (decide (p.1 * q.2 < q.1 * p.2))
theorem ints_inj : ∀ {ns ms : List Int}, ns.map D.int = ms.map D.int → ns = ms
  | [], [], _ => rfl
  | [], _ :: _, h => by cases h
  | _ :: _, [], h => by cases h
  | n :: ns, m :: ms, h => by
    have h' : D.int n :: ns.map D.int = D.int m :: ms.map D.int := h
    injection h' with h1 h2
    injection h1 with h1
    rw [h1, ints_inj h2]
def cell (ns : List Int) (k : Int) : Int := ns.getD k.toNat 0
def S__law_cell_at (ds : List D) (d : D) : Prop := ∃ (ns : List Int) (k : Int), 0 ≤ k ∧ ds = [.seq (ns.map D.int), .int k] ∧ d = .int (cell ns k)
theorem e__law_cell_at {ns : List Int} {k : Int} (h : 0 ≤ k) : fn S__law_cell_at [.seq (ns.map D.int), .int k] = some (.int (cell ns k)) := fn_eq (fun d' h' => by
  obtain ⟨ns', k', _, h2, rfl⟩ := h'
  injection h2 with h3 h4
  injection h3 with h3
  injection h4 with h4
  injection h4 with h4
  rw [ints_inj h3, h4]) ⟨ns, k, h, rfl, rfl⟩
def bdD : Bn → D
  | none => .non
  | some (n, s) => .tup [.int n, .bl s]
theorem bdD_none : bdD none = .non := rfl
theorem bdD_some (n : Int) (s : Bool) : bdD (some (n, s)) = .tup [.int n, .bl s] := rfl
theorem bdD_inj {a b : Bn} (h : bdD a = bdD b) : a = b := by
  rcases a with _ | ⟨n, s⟩ <;> rcases b with _ | ⟨m, t⟩
  · rfl
  · cases h
  · cases h
  · cases h; rfl
def Bk (k : Nat) : Bn → Prop
  | none => True
  | some (n, _) => Sm k n
theorem Bk.mono {k l : Nat} {b : Bn} (h : Bk k b) (e : k ≤ l) : Bk l b := by
  rcases b with _ | ⟨n, s⟩
  · trivial
  · exact Sm.mono (show Sm k n from h) e
theorem Bk.sum {k : Nat} {a b : Bn} (h : Bk k a) (g : Bk k b) : Bk (k + 1) (bs a b) := by
  rcases a with _ | ⟨n, s⟩
  · trivial
  rcases b with _ | ⟨m, t⟩
  · trivial
  · exact Sm.add (show Sm k n from h) (show Sm k m from g)
theorem low_one (n : Int) : low n 1 = (n, 1) := by
  rw [low_pos (by decide)]
  exact rd_of_lo ⟨by decide, by unfold gc; simp⟩
def S_fraction (ds : List D) (d : D) : Prop := ∃ t b, b ≠ 0 ∧ Bd b ∧ ds = [.int t, .int b] ∧ d = fr (low t b)
theorem e_fraction {t b : Int} (h : b ≠ 0) (g : Bd b) : fn S_fraction [.int t, .int b] = some (fr (low t b)) := fn_eq (fun d' h' => by
  obtain ⟨t', b', _, _, h2, rfl⟩ := h'
  cases h2; rfl) ⟨t, b, h, g, rfl, rfl⟩
theorem e_fraction1 {n : Int} : dfl (fn S_fraction) [1] [.int n] = some (.tup [.int n, .int 1]) := by
  have h := e_fraction (t := n) (b := 1) (by decide) bd_sm
  rw [low_one] at h
  exact h
def S_keeps (ds : List D) (d : D) : Prop := ∃ (p : Int × Int) (b : Bn), Fk p ∧ Bk 4000 b ∧ ds = [fr p, bdD b] ∧ d = .bl (kp p b)
theorem e_keeps {p : Int × Int} {b : Bn} (h : Fk p) (g : Bk 4000 b) : fn S_keeps [fr p, bdD b] = some (.bl (kp p b)) := fn_eq (fun d' h' => by
  obtain ⟨⟨a, b'⟩, c, _, _, h2, rfl⟩ := h'
  obtain ⟨x, y⟩ := p
  injection h2 with h3 h4
  injection h4 with h4 _
  cases h3
  rw [bdD_inj h4]) ⟨p, b, h, g, rfl, rfl⟩
def S_tighter (ds : List D) (d : D) : Prop := ∃ a b : Bn, ds = [bdD a, bdD b] ∧ d = .bl (tgt a b)
theorem e_tighter {a b : Bn} : fn S_tighter [bdD a, bdD b] = some (.bl (tgt a b)) := fn_eq (fun d' h' => by
  obtain ⟨a', b', h2, rfl⟩ := h'
  injection h2 with h3 h4
  injection h4 with h4 _
  rw [bdD_inj h3, bdD_inj h4]) ⟨a, b, rfl, rfl⟩
abbrev S__law_tighter := S_tighter
theorem sh_bd (b : Bn) : sh (bdD b) = bdD b := by rcases b with _ | ⟨n, s⟩ <;> rfl
theorem imm_bd (b : Bn) : imm (bdD b) = true := by rcases b with _ | ⟨n, s⟩ <;> rfl
theorem own_bd (b : Bn) : own (bdD b) = true := by rcases b with _ | ⟨n, s⟩ <;> rfl
def rowD (r : List Bn) : List D := r.map bdD
theorem shs_row : ∀ (r : List Bn), shs (rowD r) = rowD r
  | [] => rfl
  | b :: r => by show sh (bdD b) :: shs (rowD r) = _; rw [sh_bd, shs_row r]; rfl
theorem imms_row : ∀ (r : List Bn), imms (rowD r) = true
  | [] => rfl
  | b :: r => by show (imm (bdD b) && imms (rowD r)) = true; rw [imm_bd, imms_row r]; rfl
theorem owns_row : ∀ (r : List Bn), owns (rowD r) = true
  | [] => rfl
  | b :: r => by show (own (bdD b) && owns (rowD r)) = true; rw [own_bd, owns_row r]; rfl
def rowsS (T : List (List Bn)) : List D := T.map fun r => .seq (rowD r)
def rowsO (T : List (List Bn)) : List D := T.map fun r => .lst (rowD r)
def tabD (T : List (List Bn)) : D := .seq (rowsS T)
def ownD (T : List (List Bn)) : D := .lst (rowsO T)
theorem shs_rowsO : ∀ (T : List (List Bn)), shs (rowsO T) = rowsS T
  | [] => rfl
  | r :: T => by show sh (.lst (rowD r)) :: shs (rowsO T) = _; rw [shs_rowsO T, sh, shs_row]; rfl
theorem shs_rowsS : ∀ (T : List (List Bn)), shs (rowsS T) = rowsS T
  | [] => rfl
  | r :: T => by show sh (.seq (rowD r)) :: shs (rowsS T) = _; rw [shs_rowsS T, sh, shs_row]; rfl
theorem sh_ownD (T : List (List Bn)) : sh (ownD T) = tabD T := by unfold ownD tabD; rw [sh, shs_rowsO]
theorem sh_tabD (T : List (List Bn)) : sh (tabD T) = tabD T := by unfold tabD; rw [sh, shs_rowsS]
theorem owns_rowsO : ∀ (T : List (List Bn)), owns (rowsO T) = true
  | [] => rfl
  | r :: T => by show (own (.lst (rowD r)) && owns (rowsO T)) = true; rw [own, owns_row, owns_rowsO T]; rfl
theorem own_ownD (T : List (List Bn)) : own (ownD T) = true := by unfold ownD; rw [own]; exact owns_rowsO T
theorem rowD_inj : ∀ {r s : List Bn}, rowD r = rowD s → r = s
  | [], [], _ => rfl
  | [], _ :: _, h => by cases h
  | _ :: _, [], h => by cases h
  | a :: r, b :: s, h => by
    have h' : bdD a :: rowD r = bdD b :: rowD s := h
    injection h' with h1 h2
    rw [bdD_inj h1, rowD_inj h2]
theorem rowsS_inj : ∀ {T U : List (List Bn)}, rowsS T = rowsS U → T = U
  | [], [], _ => rfl
  | [], _ :: _, h => by cases h
  | _ :: _, [], h => by cases h
  | a :: r, b :: s, h => by
    have h' : D.seq (rowD a) :: rowsS r = D.seq (rowD b) :: rowsS s := h
    injection h' with h1 h2
    injection h1 with h1
    rw [rowD_inj h1, rowsS_inj h2]
theorem tabD_inj {T U : List (List Bn)} (h : tabD T = tabD U) : T = U := by
  unfold tabD at h
  injection h with h
  exact rowsS_inj h
structure Sq (T : List (List Bn)) (m : Nat) : Prop where
  len : T.length = m
  row : ∀ r ∈ T, r.length = m
theorem mapO_map {α : Type} {f g : α → D} {F : D → Option D} : ∀ {xs : List α}, (∀ x ∈ xs, F (f x) = some (g x)) → mapO F (xs.map f) = some (xs.map g)
  | [], _ => rfl
  | x :: xs, h => by
    show ((F (f x)).bind fun y => (mapO F (xs.map f)).bind fun ys => some (y :: ys)) = _
    rw [h x List.mem_cons_self, mapO_map fun y m => h y (List.mem_cons_of_mem _ m)]
    rfl
theorem eq_bd (n : Nat) (b : Bn) : eqN (n + 1) (bdD b) (bdD b) = some true := by
  rcases b with _ | ⟨k, s⟩
  · rfl
  · cases n with
    | zero => show eqL (eqN 0) [D.int k, D.bl s] [D.int k, D.bl s] = _; simp [eqL, eqN, flat_int, flat_bl, eqF]
    | succ n => show eqL (eqN (n + 1)) [D.int k, D.bl s] [D.int k, D.bl s] = _; simp [eqL, eqN, flat_int, flat_bl, eqF]
theorem eqL_self {f : D → D → Option Bool} : ∀ {ds : List D}, (∀ d ∈ ds, f d d = some true) → eqL f ds ds = some true
  | [], _ => rfl
  | d :: ds, h => by
    show ((f d d).bind fun x => (eqL f ds ds).bind fun y => some (x && y)) = _
    rw [h d List.mem_cons_self, eqL_self fun e m => h e (List.mem_cons_of_mem _ m)]
    rfl
theorem eq_row (n : Nat) (r : List Bn) : eqL (eqN (n + 1)) (rowD r) (rowD r) = some true := eqL_self fun d m => by
  obtain ⟨b, _, rfl⟩ := List.mem_map.mp m
  exact eq_bd n b
theorem eq_rowsO (n : Nat) (T : List (List Bn)) : eqL (eqN (n + 2)) (rowsO T) (rowsO T) = some true := eqL_self fun d m => by
  obtain ⟨r, _, rfl⟩ := List.mem_map.mp m
  exact eq_row n r
theorem ne_own (T : List (List Bn)) : gNeN (ownD T) (ownD T) = some (.bl false) := by
  unfold gNeN
  have z : eqN 6 (ownD T) (ownD T) = some true := eq_rowsO 3 T
  rw [z]; rfl
def opn (m : Nat) : List (List Bn) := List.replicate m (List.replicate m none)
theorem opn_sq (m : Nat) : Sq (opn m) m := ⟨by simp [opn], fun r h => by rw [(List.mem_replicate.mp h).2]; simp⟩
def cellT (T : List (List Bn)) (i j : Nat) : Bn := (T.getD i []).getD j none
def set2 (T : List (List Bn)) (i j : Nat) (b : Bn) : List (List Bn) := T.set i ((T.getD i []).set j b)
theorem set2_sq {T : List (List Bn)} {m i j : Nat} {b : Bn} (h : Sq T m) (hi : i < m) : Sq (set2 T i j b) m := by
  refine ⟨by unfold set2; rw [List.length_set]; exact h.len, fun r hr => ?_⟩
  rcases List.mem_or_eq_of_mem_set hr with z | z
  · exact h.row r z
  · rw [z, List.length_set, List.getD_eq_getElem?_getD, List.getElem?_eq_getElem (by rw [h.len]; exact hi)]
    exact h.row _ (List.getElem_mem _)
theorem atI_of {α : Type} {xs : List α} {j : Nat} {v : α} (h : xs[j]? = some v) : L2.atI xs (j : Int) = some v := L2.atI_nat h
theorem ixN_of {n j : Nat} (h : j < n) : L2.ixN n (j : Int) = some j := by
  unfold L2.ixN
  rw [if_pos (by omega), if_pos (by omega)]
  simp
theorem getD_row {T : List (List Bn)} {m i : Nat} (h : Sq T m) (hi : i < m) : ∃ r, T[i]? = some r ∧ T.getD i [] = r ∧ r.length = m := by
  have hl : i < T.length := by rw [h.len]; exact hi
  refine ⟨T[i], List.getElem?_eq_getElem hl, ?_, h.row _ (List.getElem_mem _)⟩
  rw [List.getD_eq_getElem?_getD, List.getElem?_eq_getElem hl]; rfl
theorem ix_own {T : List (List Bn)} {m i j : Nat} (h : Sq T m) (hi : i < m) (hj : j < m) : ∃ r, gIx (ownD T) (.int (i : Int)) = some (.lst (rowD r)) ∧ gIx (.lst (rowD r)) (.int (j : Int)) = some (bdD (cellT T i j)) ∧ (rowsO T)[i]? = some (.lst (rowD r)) ∧ r.length = m ∧ T.getD i [] = r := by
  obtain ⟨r, h1, h2, h3⟩ := getD_row h hi
  have hx : (rowsO T)[i]? = some (.lst (rowD r)) := by unfold rowsO; rw [List.getElem?_map, h1]; rfl
  refine ⟨r, atI_of hx, ?_, hx, h3, h2⟩
  show L2.atI (rowD r) (j : Int) = _
  refine atI_of ?_
  unfold rowD cellT
  rw [List.getElem?_map, h2, List.getD_eq_getElem?_getD, List.getElem?_eq_getElem (by omega)]
  rfl
theorem ix_tab {T : List (List Bn)} {m i j : Nat} (h : Sq T m) (hi : i < m) (hj : j < m) : ∃ r, gIx (tabD T) (.int (i : Int)) = some (.seq (rowD r)) ∧ gIx (.seq (rowD r)) (.int (j : Int)) = some (bdD (cellT T i j)) := by
  obtain ⟨r, h1, h2, h3⟩ := getD_row h hi
  have hx : (rowsS T)[i]? = some (.seq (rowD r)) := by unfold rowsS; rw [List.getElem?_map, h1]; rfl
  refine ⟨r, atI_of hx, ?_⟩
  show L2.atI (rowD r) (j : Int) = _
  refine atI_of ?_
  unfold rowD cellT
  rw [List.getElem?_map, h2, List.getD_eq_getElem?_getD, List.getElem?_eq_getElem (by omega)]
  rfl
theorem set_rowsO {T : List (List Bn)} {i j : Nat} {b : Bn} {r : List Bn} (h : T.getD i [] = r) : (rowsO T).set i (.lst ((rowD r).set j (bdD b))) = rowsO (set2 T i j b) := by
  unfold rowsO set2 rowD
  rw [h, List.map_set, List.map_set]
theorem len_rowsO (T : List (List Bn)) : (rowsO T).length = T.length := by simp [rowsO]
theorem len_rowD (r : List Bn) : (rowD r).length = r.length := by simp [rowD]
def IsT (d : D) (T : List (List Bn)) : Prop := sh d = tabD T
theorem isT_own (T : List (List Bn)) : IsT (ownD T) T := sh_ownD T
theorem isT_tab (T : List (List Bn)) : IsT (tabD T) T := sh_tabD T
theorem IsT.inj {d : D} {T U : List (List Bn)} (h : IsT d T) (g : IsT d U) : T = U := tabD_inj (h.symm.trans g)
def S_open_table (ds : List D) (d : D) : Prop := ∃ k : Int, 0 ≤ k ∧ k ≤ 40 ∧ ds = [.int k] ∧ d = ownD (opn (k.toNat + 1))
theorem e_open_table {k : Int} (h0 : 0 ≤ k) (h1 : k ≤ 40) : fn S_open_table [.int k] = some (ownD (opn (k.toNat + 1))) := fn_eq (fun d' h' => by
  obtain ⟨k', _, _, h2, rfl⟩ := h'
  cases h2; rfl) ⟨k, h0, h1, rfl, rfl⟩
theorem lstImm_row (r : List Bn) (δ : DS) : lstImm (.lst (rowD r)) δ = some (.lst (rowD r), δ) := if_pos (imms_row r)
theorem rep_row : ∀ (n : Nat), (List.replicate n [D.non]).flatten = rowD (List.replicate n none)
  | 0 => rfl
  | n + 1 => by rw [List.replicate_succ, List.replicate_succ, List.flatten_cons, rep_row n]; rfl
theorem gRep_non {k : Int} (h0 : 0 ≤ k) (h1 : k ≤ 40) : gRep (.lst [.non]) (.int (k + 1)) = some (.lst (rowD (List.replicate (k.toNat + 1) none))) := by
  have e : (k + 1).toNat = k.toNat + 1 := by omega
  unfold gRep
  dsimp only
  rw [if_pos ⟨by rw [e]; simp only [List.length_cons, List.length_nil]; omega, by omega, by omega⟩, e, rep_row]
theorem mapO_opn {k : Int} (h0 : 0 ≤ k) {F : D → Option D} (hF : ∀ i, F (.int i) = some (.lst (rowD (List.replicate (k.toNat + 1) none)))) : mapO F (rangeD 0 (k + 1) 1) = some (rowsO (opn (k.toNat + 1))) := by
  have e : ((k + 1 - 0 + 1 - 1) / 1).toNat = k.toNat + 1 := by omega
  unfold rangeD
  rw [e, mapO_map (g := fun _ => .lst (rowD (List.replicate (k.toNat + 1) none))) fun i _ => hF _]
  unfold rowsO opn
  rw [List.map_const', List.length_range, List.map_replicate]
theorem asR_k {k : Int} (h0 : 0 ≤ k) (h1 : k ≤ 40) : asR [.int (k + 1)] = some (rangeD 0 (k + 1) 1) := by
  show (if -(2 ^ 62) ≤ k + 1 ∧ k + 1 < 2 ^ 62 then some (rangeD 0 (k + 1) 1) else none) = _
  rw [if_pos (by omega)]
theorem opn_elt {k : Int} (h0 : 0 ≤ k) (h1 : k ≤ 40) (i : Int) : Dl.ownOf (vRep (fLst (faCons (fC .non) faNil)) (f2 gAdd (fVar 1) (fC (.int 1)))) (shO [some (.int i), some (.int k)]) = some (.lst (rowD (List.replicate (k.toNat + 1) none))) := by
  unfold Dl.ownOf vRep
  have e : f2 gRep (fLst (faCons (fC .non) faNil)) (f2 gAdd (fVar 1) (fC (.int 1))) (shO [some (.int i), some (.int k)]) = gRep (.lst [.non]) (.int (k + 1)) := rfl
  rw [e, gRep_non h0 h1]
  show ((lstImm (.lst _) _).bind _) = _
  rw [lstImm_row]
  show (if own (.lst _) = true then _ else _) = _
  rw [if_pos (by rw [own]; exact owns_row _)]
theorem len_opn (k : Int) : (rowsO (opn (k.toNat + 1))).length = k.toNat + 1 := by rw [len_rowsO]; unfold opn; rw [List.length_replicate]
theorem vComp_opn {k : Int} (h0 : 0 ≤ k) (h1 : k ≤ 40) {δ : DS} {js : List Nat} (hj : slotsOf js δ = [some (.int k)]) {src : FA} (hs : src δ = asR [.int (k + 1)] := by rfl) :
    vComp src js (vRep (fLst (faCons (fC .non) faNil)) (f2 gAdd (fVar 1) (fC (.int 1)))) δ = some (ownD (opn (k.toNat + 1)), δ) := by
  unfold vComp
  rw [hs, asR_k h0 h1]
  show ((mapO _ (rangeD 0 (k + 1) 1)).bind _) = _
  rw [mapO_opn h0 (fun i => by rw [hj]; exact opn_elt h0 h1 i)]
  show (if (rowsO (opn (k.toNat + 1))).length ≤ 1000 then _ else _) = _
  rw [if_pos (by rw [len_opn]; omega)]
  rfl
theorem copy_elt (r : List Bn) (tl : DS) : Dl.ownOf (vListOf (faCons (fVar 0) faNil)) (shO (some (.seq (rowD r)) :: tl)) = some (.lst (rowD r)) := by
  have e : shO (some (.seq (rowD r)) :: tl) = some (.seq (rowD r)) :: shO tl := by
    show some (sh (.seq (rowD r))) :: _ = _
    rw [sh, shs_row]
    rfl
  rw [e]
  show (((lstImm (.lst (rowD r)) _)).bind _) = _
  rw [lstImm_row]
  show (if own (.lst _) = true then _ else _) = _
  rw [if_pos (by rw [own]; exact owns_row _)]
theorem vComp_copy {T : List (List Bn)} {m : Nat} (hs : Sq T m) (hm : m ≤ 41) {δ : DS} {i : Nat} {js : List Nat} (hj : δ[i]? = some (some (tabD T))) :
    vComp (fun δ => ((fVar i) δ).bind asL) js (vListOf (faCons (fVar 0) faNil)) δ = some (ownD T, δ) := by
  unfold vComp
  have e : ((fVar i) δ).bind asL = some (rowsS T) := by unfold fVar; rw [hj]; rfl
  dsimp only
  rw [e]
  show ((mapO _ (rowsS T)).bind _) = _
  unfold rowsS
  rw [mapO_map (g := fun r => .lst (rowD r)) fun r _ => copy_elt r _]
  show (if (rowsO T).length ≤ 1000 then _ else _) = _
  rw [if_pos (by rw [len_rowsO, hs.len]; omega)]
  rfl
theorem vName_bd {δ : DS} {i : Nat} {b : Bn} (h : δ[i]? = some (some (bdD b))) : vName i δ = some (bdD b, δ) := by
  unfold vName
  rw [h]
  rcases b with _ | ⟨n, s⟩ <;> rfl
theorem sPut2_v {T : List (List Bn)} {m i j : Nat} {b : Bn} (hs : Sq T m) (hi : i < m) (hj : j < m) {δ δ' : DS} {p : Nat} {fk fl : FD} {fm : FM} (h0 : fm δ = some (bdD b, δ')) (h1 : δ'[p]? = some (some (ownD T))) (h2 : fk δ' = some (.int (i : Int))) (h3 : fl δ' = some (.int (j : Int))) :
    sPut2 p fk fl fm δ = some (.nx (δ'.set p (some (ownD (set2 T i j b))))) := by
  obtain ⟨w, q1, q2, q3, q4, q5⟩ := ix_own hs hi hj
  unfold sPut2
  rw [h0]
  show (if imm (bdD b) = true then _ else _) = _
  rw [if_pos (imm_bd b)]
  dsimp only
  rw [h1]
  unfold ownD
  dsimp only
  rw [h2, h3]
  dsimp only [Option.bind_some]
  rw [ixN_of (show i < (rowsO T).length by rw [len_rowsO, hs.len]; exact hi)]
  dsimp only [Option.bind_some]
  rw [q3]
  dsimp only [Option.bind_some]
  rw [ixN_of (show j < (rowD w).length by rw [len_rowD, q4]; exact hj)]
  dsimp only [Option.bind_some]
  rw [set_rowsO q5]
abbrev CopiedRel (ds : List D) (d : D) : Prop := ∃ (d0 : D) (T : List (List Bn)) (m : Nat), IsT d0 T ∧ Sq T m ∧ m ≤ 41 ∧ ds = [d0] ∧ d = ownD T
def S_copied (ds : List D) (d : D) : Prop := CopiedRel ds d
theorem e_copied {d0 : D} {T : List (List Bn)} {m : Nat} (h : IsT d0 T) (hs : Sq T m) (hm : m ≤ 41) : fn S_copied [d0] = some (ownD T) := fn_eq (fun d' h' => by
  obtain ⟨d1, U, m', g, _, _, h2, rfl⟩ := h'
  cases h2
  rw [h.inj g]) ⟨d0, T, m, h, hs, hm, rfl, rfl⟩
theorem rt_of {s : SD} {δ : DS} {d : D} (h : s δ = some (.rt d)) : retOf (s δ) = some d := by rw [h]; rfl
theorem st_seq {s u : SD} {δ δ' : DS} {r : Res} (h : s δ = some (.nx δ')) (g : u δ' = some r) : sSeq s u δ = some r := by unfold sSeq; rw [h]; exact g
theorem st_set {i : Nat} {f : FM} {δ δ' : DS} {d : D} (h : f δ = some (d, δ')) : sSetM i f δ = some (.nx (δ'.set i (some d))) := by unfold sSetM; rw [h]; rfl
theorem st_ret {f : FM} {δ δ' : DS} {d : D} (h : f δ = some (d, δ')) : sRetM f δ = some (.rt d) := by unfold sRetM; rw [h]; rfl
theorem st_setD {i : Nat} {f : FD} {δ : DS} {d : D} (h : f δ = some d) : sSet i f δ = some (.nx (δ.set i (some d))) := by unfold sSet; rw [h]; rfl
theorem st_retD {f : FD} {δ : DS} {d : D} (h : f δ = some d) : sRet f δ = some (.rt d) := by unfold sRet; rw [h]; rfl
theorem st_for {src : FMA} {i : Nat} {s : SD} {δ δ' : DS} {ds : List D} {r : Res} (h : src δ = some (ds, δ')) (g : Dl.forM i s ds δ' = some r) : sForM src i s δ = some r := by unfold sForM; rw [h]; exact g
theorem v_imm {f : FD} {δ : DS} {d : D} (h : f δ = some d) (g : imm d = true := by rfl) : vI f δ = some (d, δ) := by unfold vI; rw [h]; exact if_pos g
theorem v_call {G : List D → Option D} {g : FA} {δ : DS} {ds : List D} {d : D} (h : g δ = some ds) (k : G ds = some d) (o : own d = true) : vCall G g δ = some (d, δ) := by unfold vCall; rw [h]; show ((G ds).bind _) = _; rw [k]; exact if_pos o
theorem v_move {i : Nat} {δ : DS} {ds : List D} (h : δ[i]? = some (some (.lst ds))) : vName i δ = some (.lst ds, δ.set i none) := by unfold vName; rw [h]; rfl
theorem shs_ints : ∀ (ns : List Int), shs (ns.map D.int) = ns.map D.int
  | [] => rfl
  | n :: ns => by show sh (.int n) :: shs (ns.map D.int) = _; rw [shs_ints ns]; rfl
theorem gEqN_int (i j : Int) : gEqN (.int i) (.int j) = some (.bl (i == j)) := rfl
theorem fa2 {f g : FD} {δ : DS} {a b : D} (h : f δ = some a) (k : g δ = some b) : faCons f (faCons g faNil) δ = some [a, b] := by
  unfold faCons faNil
  rw [h, k]
  rfl
theorem forM_keep {i : Nat} {s : SD} (P : DS → Prop) : ∀ (ds : List D) (δ : DS), P δ → (∀ d ∈ ds, ∀ δ, P δ → ∃ δ2, s (δ.set i (some (sh d))) = some (.nx δ2) ∧ P δ2) → ∃ δ', Dl.forM i s ds δ = some (.nx δ') ∧ P δ'
  | [], δ, p, _ => ⟨δ, rfl, p⟩
  | d :: ds, δ, p, h => by
    obtain ⟨δ2, h2, h3⟩ := h d List.mem_cons_self δ p
    obtain ⟨δ', h4, h5⟩ := forM_keep P ds δ2 h3 fun e he => h e (List.mem_cons_of_mem _ he)
    refine ⟨δ', ?_, h5⟩
    simp only [Dl.forM, h2, Option.bind_some, h4]
theorem st_ifF {c : FT} {s u : SD} {δ : DS} {r : Res} (h : c δ = some false) (g : u δ = some r) : sIf c s u δ = some r := by unfold sIf; rw [h]; exact g
theorem st_ifT {c : FT} {s u : SD} {δ : DS} {r : Res} (h : c δ = some true) (g : s δ = some r) : sIf c s u δ = some r := by unfold sIf; rw [h]; exact g
theorem st_seq' {s u : SD} {δ : DS} {d : D} (h : s δ = some (.rt d)) : sSeq s u δ = some (.rt d) := by unfold sSeq; rw [h]; rfl
theorem sh_int (i : Int) : sh (.int i) = .int i := rfl
theorem forM_pre {α : Type} {i : Nat} {s : SD} {f : α → D} (P : List α → DS → Prop) (all : List α) (step : ∀ (pre : List α) (x : α) (post : List α) (δ : DS), all = pre ++ x :: post → P pre δ → ∃ δ2, s (δ.set i (some (sh (f x)))) = some (.nx δ2) ∧ P (pre ++ [x]) δ2) :
    ∀ (xs pre : List α) (δ : DS), all = pre ++ xs → P pre δ → ∃ δ', Dl.forM i s (xs.map f) δ = some (.nx δ') ∧ P all δ'
  | [], pre, δ, e, p => ⟨δ, rfl, by rw [e, List.append_nil]; exact p⟩
  | x :: xs, pre, δ, e, p => by
    obtain ⟨δ2, h2, h3⟩ := step pre x xs δ e p
    obtain ⟨δ', h4, h5⟩ := forM_pre P all step xs (pre ++ [x]) δ2 (by rw [e, List.append_assoc]; rfl) h3
    refine ⟨δ', ?_, h5⟩
    simp only [List.map_cons, Dl.forM, h2, Option.bind_some, h4]
theorem vComp_map {α : Type} {src : FA} {js : List Nat} {felt : FM} {δ : DS} {xs : List α} {f g : α → D} (hs : src δ = some (xs.map f)) (h : ∀ x ∈ xs, Dl.ownOf felt (shO (some (f x) :: slotsOf js δ)) = some (g x)) (hl : xs.length ≤ 1000) : vComp src js felt δ = some (.lst (xs.map g), δ) := by
  unfold vComp
  rw [hs]
  show ((mapO _ (xs.map f)).bind _) = _
  rw [mapO_map h]
  exact if_pos (by rw [List.length_map]; exact hl)
theorem own_of {felt : FM} {δ δ' : DS} {d : D} (h : felt δ = some (d, δ')) (o : own d = true) : Dl.ownOf felt δ = some d := by unfold Dl.ownOf; rw [h]; exact if_pos o
theorem rangeD_0 (n : Nat) : rangeD 0 (n : Int) 1 = (List.range n).map fun (i : Nat) => D.int (i : Int) := by
  have e : (((n : Int) - 0 + 1 - 1) / 1).toNat = n := by omega
  unfold rangeD
  rw [e]
  congr 1
  funext i
  congr 1
  omega
theorem asR_b {b : Int} (h : 0 ≤ b) (g : b ≤ 1000) : asR [.int b] = some (rangeD 0 b 1) := by
  show (if -(2 ^ 62) ≤ b ∧ b < 2 ^ 62 then some (rangeD 0 b 1) else none) = _
  rw [if_pos (by omega)]
theorem asR_0 {n : Nat} (h : n ≤ 1000) : asR [.int (n : Int)] = some ((List.range n).map fun (i : Nat) => D.int (i : Int)) := by
  rw [asR_b (by omega) (by omega), rangeD_0]
theorem v_rangeB {g : FA} {δ : DS} {b : Int} (h : g δ = some [.int b]) (l : 0 ≤ b) (k : b ≤ 1000) : vRange g δ = some (rangeD 0 b 1, δ) := by
  unfold vRange
  rw [h]
  show ((asR [.int b]).bind _) = _
  rw [asR_b l k]
  rfl
theorem v_range {g : FA} {δ : DS} {n : Nat} (h : g δ = some [.int (n : Int)]) (l : n ≤ 1000) : vRange g δ = some ((List.range n).map fun (i : Nat) => D.int (i : Int), δ) := by
  rw [v_rangeB h (by omega) (by omega), rangeD_0]
theorem src_r {g : FA} {δ : DS} {ds xs : List D} (h : g δ = some ds) (k : asR ds = some xs) : srcR g δ = some xs := by unfold srcR; rw [h]; exact k
theorem range_at {n : Nat} {pre post : List Nat} {x : Nat} (h : List.range n = pre ++ x :: post) : x = pre.length ∧ pre.length < n := by
  have hl : pre.length < n := by
    have := congrArg List.length h
    rw [List.length_range, List.length_append, List.length_cons] at this
    omega
  have h1 : (List.range n)[pre.length]? = some x := by rw [h, List.getElem?_append_right (Nat.le_refl _), Nat.sub_self]; rfl
  rw [List.getElem?_range hl] at h1
  exact ⟨(Option.some.inj h1).symm, hl⟩
theorem st_app {δ : DS} {i : Nat} {fm : FM} {ds : List D} {d : D} (h : δ[i]? = some (some (.lst ds))) (g : fm δ = some (d, δ)) (l : ds.length ≤ 999) : sApp i fm δ = some (.nx (δ.set i (some (.lst (ds ++ [d]))))) := by
  unfold sApp
  rw [h]
  dsimp only
  rw [g]
  dsimp only [Option.bind_some]
  rw [h]
  exact if_pos l
theorem v_catS {fa fb : FD} {δ : DS} {a b : D} {xs ys : List D} (h : fa δ = some a) (g : fb δ = some b) (h' : asL a = some xs) (g' : asL b = some ys) (l : xs.length + ys.length ≤ 1000) (m : imms (xs ++ ys) = true) : vCatS fa fb δ = some (.lst (xs ++ ys), δ) := by
  have e : gCatS a b = some (.lst (xs ++ ys)) := by
    unfold gCatS
    rw [h', g']
    exact if_pos l
  unfold vCatS f2
  rw [h]
  dsimp only [Option.bind_some]
  rw [g]
  dsimp only [Option.bind_some]
  rw [e]
  exact if_pos m
theorem st_un {is : List Nat} {fm : FM} {δ δ' : DS} {ds : List D} (h : fm δ = some (.tup ds, δ')) (l : ds.length = is.length) (i : inAll is δ'.length = true) : sUnM is fm δ = some (.nx (setO is ds δ')) := by
  unfold sUnM
  rw [h]
  dsimp only [Option.bind_some]
  rw [if_pos ⟨l, i⟩]
theorem f_tup2 {f g : FD} {δ : DS} {a b : D} (h : f δ = some a) (k : g δ = some b) : fTup (faCons f (faCons g faNil)) δ = some (.tup [a, b]) := by
  unfold fTup
  rw [fa2 h k]
  rfl
theorem v_tup2 {f g : FM} {δ δ1 δ2 : DS} {a b : D} (h : f δ = some (a, δ1)) (k : g δ1 = some (b, δ2)) : vTup (vCons f (vCons g vNil)) δ = some (.tup [a, b], δ2) := by
  unfold vTup vCons
  rw [h]
  dsimp only [Option.bind_some]
  rw [k]
  rfl
theorem fa3 {f g e : FD} {δ : DS} {a b c : D} (h : f δ = some a) (k : g δ = some b) (l : e δ = some c) : faCons f (faCons g (faCons e faNil)) δ = some [a, b, c] := by
  unfold faCons faNil
  rw [h, k, l]
  rfl
theorem imms_frs (ps : List (Int × Int)) : imms (ps.map fr) = true := imms_mem.mpr fun d m => by obtain ⟨p, _, rfl⟩ := List.mem_map.mp m; rfl
theorem owns_frs : ∀ (ps : List (Int × Int)), owns (ps.map fr) = true
  | [] => rfl
  | p :: ps => by show (own (fr p) && owns (ps.map fr)) = true; rw [owns_frs ps]; rfl
theorem shs_frs : ∀ (ps : List (Int × Int)), shs (ps.map fr) = ps.map fr
  | [] => rfl
  | p :: ps => by show sh (fr p) :: shs (ps.map fr) = _; rw [shs_frs ps]; rfl
theorem frs_inj : ∀ {ps qs : List (Int × Int)}, ps.map fr = qs.map fr → ps = qs
  | [], [], _ => rfl
  | [], _ :: _, h => by cases h
  | _ :: _, [], h => by cases h
  | (a, b) :: ps, (c, e) :: qs, h => by
    have h' : fr (a, b) :: ps.map fr = fr (c, e) :: qs.map fr := h
    injection h' with h1 h2
    cases h1
    rw [frs_inj h2]
def IsP (d : D) (ps : List (Int × Int)) : Prop := sh d = .seq (ps.map fr)
theorem isP_lst (ps : List (Int × Int)) : IsP (.lst (ps.map fr)) ps := by unfold IsP; rw [sh, shs_frs]
theorem IsP.inj {d : D} {ps qs : List (Int × Int)} (h : IsP d ps) (g : IsP d qs) : ps = qs := by
  have := h.symm.trans g
  injection this with this
  exact frs_inj this
def vals (ps : List (Int × Int)) : List (Int × Int) := (0, 1) :: ps
def valAt (ps : List (Int × Int)) (i : Nat) : Int × Int := (vals ps).getD i (0, 1)
def dif (ps : List (Int × Int)) (i j : Nat) : Int × Int := mi (valAt ps i) (valAt ps j)
def lies (T : List (List Bn)) (ps : List (Int × Int)) : Bool := (List.range (ps.length + 1)).all fun i => (List.range (ps.length + 1)).all fun j => kp (dif ps i j) (cellT T i j)
theorem zero_fr {k : Nat} (h : 1 ≤ k) : Fr k ((0, 1) : Int × Int) := ⟨⟨by decide, by unfold gc; simp⟩, Sm.mono (k := 1) (show (0 : Int).natAbs < 2 ^ 1 by decide) h, Sm.mono (k := 1) (show (1 : Int).natAbs < 2 ^ 1 by decide) h⟩
theorem valAt_fr {ps : List (Int × Int)} {k : Nat} (hk : 1 ≤ k) (h : ∀ p ∈ ps, Fr k p) (i : Nat) : Fr k (valAt ps i) := by
  unfold valAt
  rw [List.getD_eq_getElem?_getD]
  cases q : (vals ps)[i]? with
  | none => exact zero_fr hk
  | some p =>
    have m := List.mem_of_getElem? q
    rcases List.mem_cons.mp m with rfl | m
    · exact zero_fr hk
    · exact h p m
theorem ix_vals {ps : List (Int × Int)} {i : Nat} (h : i < ps.length + 1) : gIx (.lst ((vals ps).map fr)) (.int (i : Int)) = some (fr (valAt ps i)) ∧ gIx (.seq ((vals ps).map fr)) (.int (i : Int)) = some (fr (valAt ps i)) := by
  have e : ((vals ps).map fr)[i]? = some (fr (valAt ps i)) := by
    unfold valAt
    have hl : i < (vals ps).length := by unfold vals; rw [List.length_cons]; exact h
    rw [List.getElem?_map, List.getD_eq_getElem?_getD, List.getElem?_eq_getElem hl]
    rfl
  exact ⟨atI_of e, atI_of e⟩
theorem cell_set2 {T : List (List Bn)} {m i j : Nat} {b : Bn} (hs : Sq T m) (hi : i < m) (hj : j < m) (x y : Nat) : cellT (set2 T i j b) x y = if x = i ∧ y = j then b else cellT T x y := by
  obtain ⟨r, h1, h2, h3⟩ := getD_row hs hi
  have hl : i < T.length := by rw [hs.len]; exact hi
  unfold cellT set2
  by_cases hx : x = i
  · subst hx
    have e : (T.set x ((T.getD x []).set j b)).getD x [] = (T.getD x []).set j b := by
      rw [List.getD_eq_getElem?_getD, List.getElem?_set_self hl]
      rfl
    rw [e, h2]
    by_cases hy : y = j
    · subst hy
      rw [if_pos ⟨rfl, rfl⟩, List.getD_eq_getElem?_getD, List.getElem?_set_self (by omega)]
      rfl
    · rw [if_neg fun z => hy z.2, List.getD_eq_getElem?_getD, List.getElem?_set_ne (Ne.symm hy), ← List.getD_eq_getElem?_getD]
  · rw [if_neg fun z => hx z.1]
    have e : (T.set i ((T.getD i []).set j b)).getD x [] = T.getD x [] := by
      rw [List.getD_eq_getElem?_getD, List.getElem?_set_ne (Ne.symm hx), ← List.getD_eq_getElem?_getD]
    rw [e]
theorem cell_opn (m i j : Nat) : cellT (opn m) i j = none := by
  by_cases hi : i < m
  · by_cases hj : j < m
    · simp [cellT, opn, List.getD_eq_getElem?_getD, List.getElem?_replicate, hi, hj]
    · simp [cellT, opn, List.getD_eq_getElem?_getD, List.getElem?_replicate, hi, hj]
  · simp [cellT, opn, List.getD_eq_getElem?_getD, List.getElem?_replicate, hi]
theorem vComp_copyO {T : List (List Bn)} {m : Nat} (hs : Sq T m) (hm : m ≤ 41) {δ : DS} {i : Nat} {js : List Nat} (hj : δ[i]? = some (some (ownD T))) :
    vComp (fun δ => ((fVar i) δ).bind asL) js (vListOf (faCons (fVar 0) faNil)) δ = some (ownD T, δ) := by
  refine vComp_map (f := fun r => .lst (rowD r)) (g := fun r => .lst (rowD r)) ?_ (fun r _ => ?_) (by rw [hs.len]; omega)
  · unfold fVar; rw [hj]; rfl
  · have e : shO (some (.lst (rowD r)) :: slotsOf js δ) = shO (some (.seq (rowD r)) :: slotsOf js δ) := by
      show some (sh (.lst (rowD r))) :: _ = some (sh (.seq (rowD r))) :: _
      rw [sh, sh]
    rw [e]
    exact copy_elt r _
def mxd (c k : Int) : Int := (c * 48271 + k * k * 69621 + 7 * k + 11) % 2147483647 * ((c * 48271 + k * k * 69621 + 7 * k + 11) % 2147483647) % 2147483629
def S__law_mixed (ds : List D) (d : D) : Prop := ∃ c k, 0 ≤ k ∧ k < 100000 ∧ ds = [.int c, .int k] ∧ d = .int (mxd c k)
theorem e__law_mixed {c k : Int} (h : 0 ≤ k) (g : k < 100000) : fn S__law_mixed [.int c, .int k] = some (.int (mxd c k)) := fn_eq (fun d' h' => by
  obtain ⟨c', k', _, _, h2, rfl⟩ := h'
  cases h2; rfl) ⟨c, k, h, g, rfl, rfl⟩
def S__law_lowest (ds : List D) (d : D) : Prop := ∃ t b, 0 < b ∧ Bd b ∧ ds = [.int t, .int b] ∧ d = fr (rd t b)
theorem e__law_lowest {t b : Int} (h : 0 < b) (g : Bd b) : fn S__law_lowest [.int t, .int b] = some (fr (rd t b)) := fn_eq (fun d' h' => by
  obtain ⟨t', b', _, _, h2, rfl⟩ := h'
  cases h2; rfl) ⟨t, b, h, g, rfl, rfl⟩
def dl (p q : Int × Int) : Int × Int := (p.1 * q.2 - q.1 * p.2, p.2 * q.2)
abbrev S__law_less := S2 fun p q => fr (dl p q)
def prt (c : Int) : Int × Int := if c % 8 = 5 then rd (c / 8 % (2 * 10 ^ 45 + 1) - 10 ^ 45) (1 + c % 9973) else rd (c / 48 % 41 - 20) (1 + c / 8 % 6)
theorem prt_fr (c : Int) : Fr 200 (prt c) := by
  unfold prt
  split
  · have hb : 0 < 1 + c % 9973 := by omega
    have h := rd_sm (k := 200) hb (Sm.of (x := c / 8 % (2 * 10 ^ 45 + 1) - 10 ^ 45) (by omega) (by omega)) (Sm.of (by omega) (by omega))
    exact ⟨rd_lo hb, h.1, h.2⟩
  · have hb : 0 < 1 + c / 8 % 6 := by omega
    have h := rd_sm (k := 200) hb (Sm.of (x := c / 48 % 41 - 20) (by omega) (by omega)) (Sm.of (by omega) (by omega))
    exact ⟨rd_lo hb, h.1, h.2⟩
def S__law_part (ds : List D) (d : D) : Prop := ∃ c, ds = [.int c] ∧ d = fr (prt c)
theorem e__law_part {c : Int} : fn S__law_part [.int c] = some (fr (prt c)) := fn_eq (fun d' h' => by
  obtain ⟨c', h2, rfl⟩ := h'
  cases h2; rfl) ⟨c, rfl, rfl⟩
theorem app2_last {δ : DS} {t : Nat} {fk : FD} {fm : FM} {d : D} {Rs row : List D} (h : δ[t]? = some (some (.lst (Rs ++ [.lst row])))) (hk : fk δ = some (.int (Rs.length : Int))) (hf : fm δ = some (d, δ)) (hl : row.length ≤ 999) : sApp2 t fk fm δ = some (.nx (δ.set t (some (.lst (Rs ++ [.lst (row ++ [d])]))))) := by
  have z : L2.ixN (Rs ++ [D.lst row]).length (Rs.length : Int) = some Rs.length := ixN_of (by simp)
  have g : (Rs ++ [D.lst row])[Rs.length]? = some (D.lst row) := by simp
  have e : (Rs ++ [D.lst row]).set Rs.length (.lst (row ++ [d])) = Rs ++ [.lst (row ++ [d])] := by simp
  unfold sApp2
  rw [h]
  dsimp only
  rw [hk]
  dsimp only [Option.bind_some]
  rw [z]
  dsimp only [Option.bind_some]
  rw [g]
  dsimp only
  rw [hf]
  dsimp only [Option.bind_some]
  rw [h]
  dsimp only
  rw [g]
  dsimp only
  rw [if_pos ⟨hl, rfl⟩, e]
theorem sPut2_g {T : List (List Bn)} {m i j : Nat} {b : Bn} (hs : Sq T m) (hi : i < m) (hj : j < m) {δ : DS} {p q r : Nat} {fm : FM} (h1 : δ[p]? = some (some (ownD T))) (h2 : δ[q]? = some (some (.int (i : Int)))) (h3 : δ[r]? = some (some (.int (j : Int)))) (h4 : fm δ = some (bdD b, δ)) :
    sPut2 p (fVar q) (fVar r) fm δ = some (.nx (δ.set p (some (ownD (set2 T i j b))))) := by
  obtain ⟨w, q1, q2, q3, q4, q5⟩ := ix_own hs hi hj
  unfold sPut2
  rw [h4]
  show (if imm (bdD b) = true then _ else _) = _
  rw [if_pos (imm_bd b)]
  dsimp only
  rw [h1]
  unfold ownD fVar
  dsimp only
  rw [h2, h3]
  dsimp only [Option.bind_some]
  rw [ixN_of (show i < (rowsO T).length by rw [len_rowsO, hs.len]; exact hi)]
  dsimp only [Option.bind_some]
  rw [q3]
  dsimp only [Option.bind_some]
  rw [ixN_of (show j < (rowD w).length by rw [len_rowD, q4]; exact hj)]
  dsimp only [Option.bind_some]
  rw [set_rowsO q5]
structure Grown (T : List (List Bn)) (n m : Nat) : Prop where
  len : T.length = n
  row : ∀ r ∈ T, r.length = m
  bk : ∀ r ∈ T, ∀ b ∈ r, Bk 1000 b
theorem Grown.sq {T : List (List Bn)} {m : Nat} (h : Grown T m m) : Sq T m := ⟨h.len, h.row⟩
theorem Grown.cell {T : List (List Bn)} {n m : Nat} (h : Grown T n m) (i j : Nat) : Bk 1000 (cellT T i j) := by
  unfold cellT
  rw [List.getD_eq_getElem?_getD, List.getD_eq_getElem?_getD]
  cases q : T[i]? with
  | none => trivial
  | some r =>
    rw [Option.getD_some]
    cases p : r[j]? with
    | none => trivial
    | some b => exact h.bk r (List.mem_of_getElem? q) b (List.mem_of_getElem? p)
theorem Grown.snoc {T : List (List Bn)} {n m : Nat} {r : List Bn} (h : Grown T n m) (g : r.length = m) (k : ∀ b ∈ r, Bk 1000 b) : Grown (T ++ [r]) (n + 1) m := by
  refine ⟨by rw [List.length_append, h.len]; rfl, fun x hx => ?_, fun x hx => ?_⟩
  · rcases List.mem_append.mp hx with hx | hx
    · exact h.row x hx
    · rw [List.mem_singleton.mp hx]; exact g
  · rcases List.mem_append.mp hx with hx | hx
    · exact h.bk x hx
    · rw [List.mem_singleton.mp hx]; exact k
theorem rowsO_snoc (T : List (List Bn)) (r : List Bn) : rowsO (T ++ [r]) = rowsO T ++ [.lst (rowD r)] := by unfold rowsO; rw [List.map_append]; rfl
theorem rowD_snoc (r : List Bn) (b : Bn) : rowD (r ++ [b]) = rowD r ++ [bdD b] := by unfold rowD; rw [List.map_append]; rfl
theorem st_retS {f : FM} {δ : DS} {d : D} (h : f δ = some (d, δ)) : sRetM f δ = some (.rt d) := st_ret h
theorem st_setS {i : Nat} {f : FM} {δ : DS} {d : D} (h : f δ = some (d, δ)) : sSetM i f δ = some (.nx (δ.set i (some d))) := st_set h
def S_bound_sum (ds : List D) (d : D) : Prop := ∃ a b : Bn, ds = [bdD a, bdD b] ∧ d = bdD (bs a b)
theorem e_bound_sum {a b : Bn} : fn S_bound_sum [bdD a, bdD b] = some (bdD (bs a b)) := fn_eq (fun d' h' => by
  obtain ⟨a', b', h2, rfl⟩ := h'
  injection h2 with h3 h4
  injection h4 with h4 _
  rw [bdD_inj h3, bdD_inj h4]) ⟨a, b, rfl, rfl⟩
abbrev S__law_sum := S_bound_sum
def rowF' (n : Nat) (f : Nat → Bn) : List Bn := (List.range n).map f
def tabF (n : Nat) (f : Nat → Nat → Bn) : List (List Bn) := (List.range n).map fun i => rowF' n (f i)
theorem tabF_sq (n : Nat) (f : Nat → Nat → Bn) : Sq (tabF n f) n := ⟨by unfold tabF; rw [List.length_map, List.length_range], fun r m => by
  unfold tabF at m
  obtain ⟨i, _, rfl⟩ := List.mem_map.mp m
  unfold rowF'
  rw [List.length_map, List.length_range]⟩
theorem range_map_get {α : Type} {n i : Nat} (g : Nat → α) (h : i < n) : ((List.range n).map g)[i]? = some (g i) := by rw [List.getElem?_map, List.getElem?_range h]; rfl
theorem cellT_of {T : List (List Bn)} {i j : Nat} {r : List Bn} (h : T[i]? = some r) : cellT T i j = r.getD j none := by
  unfold cellT
  have e : T.getD i [] = r := by rw [List.getD_eq_getElem?_getD, h]; rfl
  rw [e]
theorem getD_of {α : Type} {xs : List α} {i : Nat} {d v : α} (h : xs[i]? = some v) : xs.getD i d = v := by rw [List.getD_eq_getElem?_getD, h]; rfl
theorem cell_tabF {n i j : Nat} (f : Nat → Nat → Bn) (hi : i < n) (hj : j < n) : cellT (tabF n f) i j = f i j := by
  rw [cellT_of (show (tabF n f)[i]? = some (rowF' n (f i)) from range_map_get _ hi)]
  exact getD_of (range_map_get (f i) hj)
theorem tab_ext {n : Nat} {T U : List (List Bn)} (h : Sq T n) (g : Sq U n) (e : ∀ i j, i < n → j < n → cellT T i j = cellT U i j) : T = U := by
  refine List.ext_getElem? fun i => ?_
  by_cases hi : i < n
  · obtain ⟨r, a1, a2, a3⟩ := getD_row h hi
    obtain ⟨s, b1, b2, b3⟩ := getD_row g hi
    rw [a1, b1]
    congr 1
    refine List.ext_getElem? fun j => ?_
    by_cases hj : j < n
    · have := e i j hi hj
      unfold cellT at this
      rw [a2, b2, List.getD_eq_getElem?_getD, List.getD_eq_getElem?_getD, List.getElem?_eq_getElem (by omega), List.getElem?_eq_getElem (by omega)] at this
      rw [List.getElem?_eq_getElem (by omega), List.getElem?_eq_getElem (by omega)]
      exact congrArg some this
    · rw [List.getElem?_eq_none (by omega), List.getElem?_eq_none (by omega)]
  · rw [List.getElem?_eq_none (by rw [h.len]; omega), List.getElem?_eq_none (by rw [g.len]; omega)]
theorem tabF_of {n : Nat} {T : List (List Bn)} (h : Sq T n) : tabF n (cellT T) = T := tab_ext (tabF_sq _ _) h fun i j hi hj => cell_tabF _ hi hj
theorem tabF_congr {n : Nat} {f g : Nat → Nat → Bn} (e : ∀ i j, i < n → j < n → f i j = g i j) : tabF n f = tabF n g := tab_ext (tabF_sq _ _) (tabF_sq _ _) fun i j hi hj => by rw [cell_tabF _ hi hj, cell_tabF _ hi hj, e i j hi hj]
def up2 {α : Type} (f : Nat → Nat → α) (i j : Nat) (b : α) : Nat → Nat → α := fun x y => if x = i ∧ y = j then b else f x y
theorem set2_cell {T : List (List Bn)} {n i j x y : Nat} {b : Bn} (h : Sq T n) (hi : i < n) (hj : j < n) (hx : x < n) (hy : y < n) : cellT (set2 T i j b) x y = if x = i ∧ y = j then b else cellT T x y := by
  obtain ⟨r, a1, a2, a3⟩ := getD_row h hi
  obtain ⟨s, b1, b2, b3⟩ := getD_row h hx
  unfold set2
  rw [a2]
  by_cases e : x = i
  · subst e
    rw [cellT_of (r := r.set j b) (List.getElem?_set_self (by rw [h.len]; exact hi)), cellT_of a1]
    by_cases e2 : y = j
    · subst e2
      rw [if_pos ⟨rfl, rfl⟩]
      exact getD_of (List.getElem?_set_self (by omega))
    · rw [if_neg (fun z => e2 z.2), List.getD_eq_getElem?_getD, List.getElem?_set_ne (Ne.symm e2), ← List.getD_eq_getElem?_getD]
  · rw [if_neg (fun z => e z.1), cellT_of b1, cellT_of (r := s) (by rw [List.getElem?_set_ne (Ne.symm e)]; exact b1)]
theorem set2_tabF {n i j : Nat} (f : Nat → Nat → Bn) (b : Bn) (hi : i < n) (hj : j < n) : set2 (tabF n f) i j b = tabF n (up2 f i j b) := tab_ext (set2_sq (tabF_sq n f) hi) (tabF_sq _ _) fun x y hx hy => by
  rw [set2_cell (tabF_sq n f) hi hj hx hy, cell_tabF _ hx hy, cell_tabF _ hx hy]
  rfl
def firstBad {α : Type} (bad : List α → α → Option D) : List α → List α → Option D
  | _, [] => none
  | pre, x :: post => match bad pre x with
    | some d => some d
    | none => firstBad bad (pre ++ [x]) post
theorem forM_pf {α : Type} {i : Nat} {s : SD} {f : α → D} (P : List α → DS → Prop) (bad : List α → α → Option D) (all : List α)
    (step : ∀ (pre : List α) (x : α) (post : List α) (δ : DS), all = pre ++ x :: post → P pre δ → (bad pre x = none → ∃ δ2, s (δ.set i (some (sh (f x)))) = some (.nx δ2) ∧ P (pre ++ [x]) δ2) ∧ ∀ d, bad pre x = some d → s (δ.set i (some (sh (f x)))) = some (.rt d)) :
    ∀ (xs pre : List α) (δ : DS), all = pre ++ xs → P pre δ → (firstBad bad pre xs = none → ∃ δ', Dl.forM i s (xs.map f) δ = some (.nx δ') ∧ P all δ') ∧ ∀ d, firstBad bad pre xs = some d → Dl.forM i s (xs.map f) δ = some (.rt d)
  | [], pre, δ, e, p => ⟨fun _ => ⟨δ, rfl, by rw [e, List.append_nil]; exact p⟩, fun d h => by cases h⟩
  | x :: xs, pre, δ, e, p => by
    obtain ⟨h1, h2⟩ := step pre x xs δ e p
    cases q : bad pre x with
    | some d0 =>
      have ef : firstBad bad pre (x :: xs) = some d0 := by show (match bad pre x with | some d => some d | none => _) = _; rw [q]
      rw [ef]
      refine ⟨(fun z => by cases z), fun d z => ?_⟩
      cases z
      simp only [List.map_cons, Dl.forM, h2 d0 q, Option.bind_some]
    | none =>
      have ef : firstBad bad pre (x :: xs) = firstBad bad (pre ++ [x]) xs := by show (match bad pre x with | some d => some d | none => _) = _; rw [q]
      rw [ef]
      obtain ⟨δ2, h3, h4⟩ := h1 q
      obtain ⟨g1, g2⟩ := forM_pf P bad all step xs (pre ++ [x]) δ2 (by rw [e, List.append_assoc]; rfl) h4
      refine ⟨fun z => ?_, fun d z => ?_⟩
      · obtain ⟨δ', a, b⟩ := g1 z
        refine ⟨δ', ?_, b⟩
        simp only [List.map_cons, Dl.forM, h3, Option.bind_some, a]
      · simp only [List.map_cons, Dl.forM, h3, Option.bind_some, g2 d z]
theorem firstBad_none {α : Type} {bad : List α → α → Option D} : ∀ {xs pre : List α}, firstBad bad pre xs = none → ∀ a x b, xs = a ++ x :: b → bad (pre ++ a) x = none
  | [], pre, _, a, x, b, e => by simp at e
  | y :: xs, pre, h, a, x, b, e => by
    have h' : (match bad pre y with | some d => some d | none => firstBad bad (pre ++ [y]) xs) = none := h
    cases q : bad pre y with
    | some d => rw [q] at h'; cases h'
    | none =>
      rw [q] at h'
      cases a with
      | nil => cases e; rw [List.append_nil]; exact q
      | cons z a =>
        cases e
        have := firstBad_none h' a x b rfl
        rw [List.append_assoc] at this
        exact this
theorem firstBad_some {α : Type} {bad : List α → α → Option D} : ∀ {xs pre : List α} {d : D}, firstBad bad pre xs = some d → ∃ a x b, xs = a ++ x :: b ∧ bad (pre ++ a) x = some d ∧ ∀ a' y b', a = a' ++ y :: b' → bad (pre ++ a') y = none
  | [], pre, d, h => by cases h
  | y :: xs, pre, d, h => by
    have h' : (match bad pre y with | some d => some d | none => firstBad bad (pre ++ [y]) xs) = some d := h
    cases q : bad pre y with
    | some d0 =>
      rw [q] at h'
      cases h'
      exact ⟨[], y, xs, rfl, by rw [List.append_nil]; exact q, fun a' z b' e => by simp at e⟩
    | none =>
      rw [q] at h'
      obtain ⟨a, x, b, e1, e2, e3⟩ := firstBad_some h'
      refine ⟨y :: a, x, b, by rw [e1]; rfl, by rw [List.append_assoc] at e2; exact e2, fun a' z b' e => ?_⟩
      cases a' with
      | nil => cases e; rw [List.append_nil]; exact q
      | cons w a' =>
        cases e
        have := e3 a' z b' rfl
        rw [List.append_assoc] at this
        exact this
def intsD (l : List Nat) : List D := l.map fun (k : Nat) => D.int (k : Int)
theorem shs_intsD (l : List Nat) : shs (intsD l) = intsD l := shs_imm (imms_mem.mpr fun d m => by obtain ⟨k, _, rfl⟩ := List.mem_map.mp m; rfl)
theorem imms_intsD (l : List Nat) : imms (intsD l) = true := imms_mem.mpr fun d m => by obtain ⟨k, _, rfl⟩ := List.mem_map.mp m; rfl
theorem owns_of_imms : ∀ {ds : List D}, (∀ d ∈ ds, own d = true) → owns ds = true
  | [], _ => rfl
  | d :: ds, h => by rw [owns, h d List.mem_cons_self, owns_of_imms fun e m => h e (List.mem_cons_of_mem _ m)]; rfl
theorem owns_intsD (l : List Nat) : owns (intsD l) = true := owns_of_imms fun d m => by obtain ⟨k, _, rfl⟩ := List.mem_map.mp m; rfl
def wrowO (n : Nat) (p : Nat → List Nat) : List D := (List.range n).map fun j => D.lst (intsD (p j))
def wrowS (n : Nat) (p : Nat → List Nat) : List D := (List.range n).map fun j => D.seq (intsD (p j))
def waysO (n : Nat) (p : Nat → Nat → List Nat) : List D := (List.range n).map fun i => D.lst (wrowO n (p i))
def waysS (n : Nat) (p : Nat → Nat → List Nat) : List D := (List.range n).map fun i => D.seq (wrowS n (p i))
theorem shs_wrow (n : Nat) (p : Nat → List Nat) : shs (wrowO n p) = wrowS n p := by
  rw [shs_map]
  unfold wrowO wrowS
  rw [List.map_map]
  refine List.map_congr_left fun j _ => ?_
  show sh (.lst (intsD (p j))) = _
  rw [sh, shs_intsD]
theorem shs_ways (n : Nat) (p : Nat → Nat → List Nat) : shs (waysO n p) = waysS n p := by
  rw [shs_map]
  unfold waysO waysS
  rw [List.map_map]
  refine List.map_congr_left fun i _ => ?_
  show sh (.lst (wrowO n (p i))) = _
  rw [sh, shs_wrow]
theorem own_ways (n : Nat) (p : Nat → Nat → List Nat) : own (.lst (waysO n p)) = true := by
  rw [own]
  refine owns_of_imms fun d m => ?_
  obtain ⟨i, _, rfl⟩ := List.mem_map.mp m
  show own (.lst (wrowO n (p i))) = true
  rw [own]
  refine owns_of_imms fun d m => ?_
  obtain ⟨j, _, rfl⟩ := List.mem_map.mp m
  show own (.lst (intsD (p i j))) = true
  rw [own]
  exact owns_intsD _
theorem ix_waysO {n i j : Nat} (p : Nat → Nat → List Nat) (hi : i < n) (hj : j < n) : gIx (.lst (waysO n p)) (.int (i : Int)) = some (.lst (wrowO n (p i))) ∧ gIx (.lst (wrowO n (p i))) (.int (j : Int)) = some (.lst (intsD (p i j))) := ⟨atI_of (range_map_get _ hi), atI_of (range_map_get _ hj)⟩
theorem ix_waysS {n i j : Nat} (p : Nat → Nat → List Nat) (hi : i < n) (hj : j < n) : gIx (.seq (waysS n p)) (.int (i : Int)) = some (.seq (wrowS n (p i))) ∧ gIx (.seq (wrowS n (p i))) (.int (j : Int)) = some (.seq (intsD (p i j))) := ⟨atI_of (range_map_get _ hi), atI_of (range_map_get _ hj)⟩
theorem map_congr_set {α : Type} {n i : Nat} (g : Nat → α) (v : α) (hi : i < n) : ((List.range n).map g).set i v = (List.range n).map fun x => if x = i then v else g x := by
  refine List.ext_getElem? fun k => ?_
  by_cases hk : k < n
  · rw [range_map_get _ hk]
    by_cases e : k = i
    · subst e
      rw [List.getElem?_set_self (by rw [List.length_map, List.length_range]; exact hk), if_pos rfl]
    · rw [List.getElem?_set_ne (Ne.symm e), range_map_get _ hk, if_neg e]
  · rw [List.getElem?_eq_none (by rw [List.length_set, List.length_map, List.length_range]; omega), List.getElem?_eq_none (by rw [List.length_map, List.length_range]; omega)]
theorem set_ways {n i j : Nat} (p : Nat → Nat → List Nat) (l : List Nat) (hi : i < n) (hj : j < n) : (waysO n p).set i (.lst ((wrowO n (p i)).set j (.lst (intsD l)))) = waysO n (up2 p i j l) := by
  unfold waysO
  rw [map_congr_set _ _ hi]
  refine List.map_congr_left fun x _ => ?_
  by_cases e : x = i
  · subst e
    rw [if_pos rfl]
    unfold wrowO
    rw [map_congr_set _ _ hj]
    congr 1
    refine List.map_congr_left fun y _ => ?_
    unfold up2
    by_cases e2 : y = j
    · rw [if_pos e2, if_pos ⟨rfl, e2⟩]
    · rw [if_neg e2, if_neg fun z => e2 z.2]
  · rw [if_neg e]
    congr 1
    unfold wrowO
    refine List.map_congr_left fun y _ => ?_
    unfold up2
    rw [if_neg fun z => e z.1]
theorem ways_congr {n : Nat} {p q : Nat → Nat → List Nat} (e : ∀ i j, i < n → j < n → p i j = q i j) : waysO n p = waysO n q := by
  unfold waysO wrowO
  refine List.map_congr_left fun i hi => ?_
  congr 1
  refine List.map_congr_left fun j hj => ?_
  rw [e i j (List.mem_range.mp hi) (List.mem_range.mp hj)]
theorem sPutG_v {δ δ' : DS} {p : Nat} {fk fl : FD} {fm : FM} {v : D} {Rs row : List D} {i j : Nat} (h0 : fm δ = some (v, δ')) (h1 : δ'[p]? = some (some (.lst Rs))) (h2 : fk δ' = some (.int (i : Int))) (h3 : Rs[i]? = some (.lst row)) (h4 : fl δ' = some (.int (j : Int))) (h5 : j < row.length) :
    sPutG p fk fl fm δ = some (.nx (δ'.set p (some (.lst (Rs.set i (.lst (row.set j v))))))) := by
  unfold sPutG
  simp only [h0, Option.bind_some, h1, h2, ixN_of (List.getElem?_eq_some_iff.mp h3).1, h3, h4, ixN_of h5]
def cz (T : List (List Bn)) : Nat → Nat → Bn := fun i j => if i = j then b0 else cellT T i j
def S_with_noughts (ds : List D) (d : D) : Prop := ∃ (d0 : D) (T : List (List Bn)) (n : Nat), IsT d0 T ∧ Sq T n ∧ n ≤ 41 ∧ ds = [d0] ∧ d = ownD (tabF n (cz T))
theorem e_with_noughts {d0 : D} {T : List (List Bn)} {n : Nat} (h : IsT d0 T) (hs : Sq T n) (hn : n ≤ 41) : fn S_with_noughts [d0] = some (ownD (tabF n (cz T))) := fn_eq (fun d' h' => by
  obtain ⟨d1, U, m, g, gs, _, h2, rfl⟩ := h'
  cases h2
  have := h.inj g
  subst this
  rw [← hs.len, ← gs.len]) ⟨d0, T, n, h, hs, hn, rfl, rfl⟩
def S_straight_ways (ds : List D) (d : D) : Prop := ∃ n : Nat, n ≤ 41 ∧ ds = [.int (n : Int)] ∧ d = .lst (waysO n fun i _ => [i])
theorem e_straight_ways {n : Nat} (hn : n ≤ 41) : fn S_straight_ways [.int (n : Int)] = some (.lst (waysO n fun i _ => [i])) := fn_eq (fun d' h' => by
  obtain ⟨m, _, h2, rfl⟩ := h'
  injection h2 with h2 _
  injection h2 with h2
  have : m = n := by omega
  subst this
  rfl) ⟨n, hn, rfl, rfl⟩
def badR (f : Nat → Nat → Bn) (p : Nat → Nat → List Nat) (m : Nat) : List Nat → Nat → Option D := fun _ t => if kp (0, 1) (bs (f t m) (f m t)) = true then none else some (.lst (intsD (p t m ++ p m t)))
def rgt (n : Nat) (f : Nat → Nat → Bn) (p : Nat → Nat → List Nat) (m : Nat) : D := (firstBad (badR f p m) [] (List.range n)).getD .non
theorem waysS_inj {n : Nat} {p q : Nat → Nat → List Nat} (h : waysS n p = waysS n q) : ∀ i j, i < n → j < n → p i j = q i j := fun i j hi hj => by
  have h1 : (waysS n p)[i]? = (waysS n q)[i]? := by rw [h]
  unfold waysS at h1
  rw [range_map_get _ hi, range_map_get _ hi] at h1
  injection h1 with h1
  injection h1 with h1
  have h2 : (wrowS n (p i))[j]? = (wrowS n (q i))[j]? := by rw [h1]
  unfold wrowS at h2
  rw [range_map_get _ hj, range_map_get _ hj] at h2
  injection h2 with h2
  injection h2 with h2
  have key : ∀ (a b : List Nat), intsD a = intsD b → a = b := by
    intro a
    induction a with
    | nil => intro b e; cases b with | nil => rfl | cons y b => cases e
    | cons x a ih =>
      intro b e
      cases b with
      | nil => cases e
      | cons y b =>
        have e' : D.int (x : Int) :: intsD a = D.int (y : Int) :: intsD b := e
        injection e' with e1 e2
        injection e1 with e1
        rw [ih b e2]
        congr 1
        omega
  exact key _ _ h2
structure RtOk (n : Nat) (f : Nat → Nat → Bn) (p : Nat → Nat → List Nat) (m : Nat) : Prop where
  n41 : n ≤ 41
  mn : m < n
  bk : ∀ i j, i < n → j < n → Bk 3000 (f i j)
  ln : ∀ i j, i < n → j < n → (p i j).length ≤ 400
def S_ring_through (ds : List D) (d : D) : Prop := ∃ (d0 d1 : D) (n m : Nat) (f : Nat → Nat → Bn) (p : Nat → Nat → List Nat), RtOk n f p m ∧ IsT d0 (tabF n f) ∧ sh d1 = .seq (waysS n p) ∧ ds = [d0, d1, .int (m : Int)] ∧ d = rgt n f p m
theorem firstBad_congr {α : Type} {bad bad' : List α → α → Option D} : ∀ {xs pre : List α}, (∀ a x b, xs = a ++ x :: b → bad (pre ++ a) x = bad' (pre ++ a) x) → firstBad bad pre xs = firstBad bad' pre xs
  | [], _, _ => rfl
  | x :: xs, pre, h => by
    have h0 := h [] x xs rfl
    rw [List.append_nil] at h0
    show (match bad pre x with | some d => some d | none => firstBad bad (pre ++ [x]) xs) = (match bad' pre x with | some d => some d | none => firstBad bad' (pre ++ [x]) xs)
    rw [h0]
    cases bad' pre x with
    | some d => rfl
    | none =>
      refine firstBad_congr fun a y b e => ?_
      have := h (x :: a) y b (by rw [e]; rfl)
      rw [List.append_assoc]
      exact this
theorem rgt_congr {n m : Nat} {f g : Nat → Nat → Bn} {p q : Nat → Nat → List Nat} (hm : m < n) (e : ∀ i j, i < n → j < n → f i j = g i j) (e2 : ∀ i j, i < n → j < n → p i j = q i j) : rgt n f p m = rgt n g q m := by
  unfold rgt
  congr 1
  refine firstBad_congr fun a x b h => ?_
  have hx : x < n := by
    have := (range_at h)
    omega
  unfold badR
  rw [e x m hx hm, e m x hm hx, e2 x m hx hm, e2 m x hm hx]
theorem tabF_inj {n : Nat} {f g : Nat → Nat → Bn} (h : tabF n f = tabF n g) : ∀ i j, i < n → j < n → f i j = g i j := fun i j hi hj => by rw [← cell_tabF f hi hj, h, cell_tabF g hi hj]
theorem e_ring_through {d0 d1 : D} {n m : Nat} {f : Nat → Nat → Bn} {p : Nat → Nat → List Nat} (ok : RtOk n f p m) (h0 : IsT d0 (tabF n f)) (h1 : sh d1 = .seq (waysS n p)) : fn S_ring_through [d0, d1, .int (m : Int)] = some (rgt n f p m) := fn_eq (fun d' h' => by
  obtain ⟨e0, e1, n', m', g, q, ok', g0, g1, h2, rfl⟩ := h'
  injection h2 with a b
  injection b with b c
  injection c with c _
  injection c with c
  subst a b
  have em : m' = m := by omega
  subst em
  have et := h0.inj g0
  have en : n' = n := by rw [← (tabF_sq n f).len, et, (tabF_sq n' g).len]
  subst en
  rw [h1] at g1
  injection g1 with g1
  exact (rgt_congr ok.mn (tabF_inj et) (waysS_inj g1)).symm) ⟨d0, d1, n, m, f, p, ok, h0, h1, rfl, rfl⟩
def ldF (f : Nat → Nat → Bn) (m : Nat) : Nat → Nat → Bn := fun i j => if tgt (bs (f i m) (f m j)) (f i j) = true then bs (f i m) (f m j) else f i j
def ldP (f : Nat → Nat → Bn) (p : Nat → Nat → List Nat) (m : Nat) : Nat → Nat → List Nat := fun i j => if tgt (bs (f i m) (f m j)) (f i j) = true then p i m ++ p m j else p i j
theorem own_rgt (n : Nat) (f : Nat → Nat → Bn) (p : Nat → Nat → List Nat) (m : Nat) : own (rgt n f p m) = true := by
  unfold rgt
  cases hb : firstBad (badR f p m) [] (List.range n) with
  | none => rfl
  | some d =>
    obtain ⟨a, x, b, _, h, _⟩ := firstBad_some hb
    unfold badR at h
    split at h
    · cases h
    · cases h
      show own (.lst _) = true
      rw [own]
      exact owns_intsD _
theorem len_tab {T : List (List Bn)} {n : Nat} (hs : Sq T n) : gLen [tabD T] = some (.int (n : Int)) := by
  show some (D.int ((rowsS T).length : Int)) = _
  unfold rowsS
  rw [List.length_map, hs.len]
theorem len_own {T : List (List Bn)} {n : Nat} (hs : Sq T n) : gLen [ownD T] = some (.int (n : Int)) := by
  show some (D.int ((rowsO T).length : Int)) = _
  rw [len_rowsO, hs.len]
def S_lead_through (ds : List D) (d : D × D) : Prop := ∃ (n m : Nat) (f : Nat → Nat → Bn) (p : Nat → Nat → List Nat), RtOk n f p m ∧ f m m = b0 ∧ ds = [ownD (tabF n f), .lst (waysO n p), .int (m : Int)] ∧ d = (ownD (tabF n (ldF f m)), .lst (waysO n (ldP f p m)))
theorem ownD_inj {T U : List (List Bn)} (h : ownD T = ownD U) : T = U := tabD_inj (by rw [← sh_ownD, ← sh_ownD, h])
theorem waysO_inj {n : Nat} {p q : Nat → Nat → List Nat} (h : waysO n p = waysO n q) : ∀ i j, i < n → j < n → p i j = q i j := waysS_inj (by rw [← shs_ways, ← shs_ways, h])
theorem e_lead_through {n m : Nat} {f : Nat → Nat → Bn} {p : Nat → Nat → List Nat} (ok : RtOk n f p m) (h0 : f m m = b0) : fnM S_lead_through [ownD (tabF n f), .lst (waysO n p), .int (m : Int)] = some (ownD (tabF n (ldF f m)), .lst (waysO n (ldP f p m))) := fnM_eq (fun d' h' => by
  obtain ⟨n', m', g, q, ok', g0, h2, rfl⟩ := h'
  injection h2 with a b
  injection b with b c
  injection c with c _
  injection c with c
  have em : m' = m := by omega
  subst em
  have et := ownD_inj a
  have en : n' = n := by rw [← (tabF_sq n f).len, et, (tabF_sq n' g).len]
  subst en
  injection b with b
  have e1 := tabF_inj et
  have e2 := waysO_inj b
  have hm := ok.mn
  have t1 : tabF n' (ldF g m') = tabF n' (ldF f m') := tabF_congr fun i j hi hj => by unfold ldF; rw [e1 i m' hi hm, e1 m' j hm hj, e1 i j hi hj]
  have t2 : waysO n' (ldP g q m') = waysO n' (ldP f p m') := ways_congr fun i j hi hj => by unfold ldP; rw [e1 i m' hi hm, e1 m' j hm hj, e1 i j hi hj, e2 i m' hi hm, e2 m' j hm hj, e2 i j hi hj]
  rw [t1, t2]) ⟨n, m, f, p, ok, h0, rfl, rfl⟩
def pw (c : Nat → Nat → Bn) : Nat → Nat → Nat → List Nat
  | 0 => fun i _ => [i]
  | m + 1 => ldP (dm c m) (pw c m) m
def badC (n : Nat) (c : Nat → Nat → Bn) : List Nat → Nat → Option D := fun _ m => match rgt n (dm c m) (pw c m) m with
  | .non => none
  | d => some (.tup [.str "ring", d])
def badD (T : List (List Bn)) : List Nat → Nat → Option D := fun _ t => if kp (0, 1) (cellT T t t) = true then none else some (.tup [.str "ring", .lst [.int (t : Int)]])
def closedF (n : Nat) (T : List (List Bn)) : D := match firstBad (badD T) [] (List.range n) with
  | some d => d
  | none => match firstBad (badC n (cz T)) [] (List.range n) with
    | some d => d
    | none => .tup [.str "table", ownD (tabF n (dm (cz T) n))]
theorem rgt_non {n m : Nat} {f : Nat → Nat → Bn} {p : Nat → Nat → List Nat} (h : rgt n f p m = .non) : ∀ t, t < n → Nn (bs (f t m) (f m t)) := fun t ht => by
  unfold rgt at h
  cases hb : firstBad (badR f p m) [] (List.range n) with
  | none =>
    obtain ⟨a, b, e⟩ := List.append_of_mem (List.mem_range.mpr ht)
    have := firstBad_none hb a t b e
    unfold badR at this
    split at this
    · rename_i q; exact nn_kp.mp q
    · cases this
  | some d =>
    rw [hb] at h
    obtain ⟨a, x, b, _, h2, _⟩ := firstBad_some hb
    unfold badR at h2
    split at h2
    · cases h2
    · cases h2
      cases h
theorem rgt_or {n m : Nat} (f : Nat → Nat → Bn) (p : Nat → Nat → List Nat) : rgt n f p m = .non ∨ ∃ t, t < n ∧ rgt n f p m = .lst (intsD (p t m ++ p m t)) ∧ ¬ Nn (bs (f t m) (f m t)) := by
  unfold rgt
  cases hb : firstBad (badR f p m) [] (List.range n) with
  | none => exact .inl rfl
  | some d =>
    obtain ⟨a, x, b, e, h2, _⟩ := firstBad_some hb
    have hx : x < n := by have := range_at e; omega
    unfold badR at h2
    split at h2
    · cases h2
    · rename_i q
      cases h2
      exact .inr ⟨x, hx, rfl, fun z => q (nn_kp.mpr z)⟩
theorem dm_bk {c : Nat → Nat → Bn} (h : ∀ i j, Bk 2000 (c i j)) : ∀ (m i j : Nat), Bk (2000 + m) (dm c m i j)
  | 0, i, j => h i j
  | m + 1, i, j => by
    rcases dm_or (c := c) m i j with e | e
    · rw [e]; exact (dm_bk h m i j).mono (by omega)
    · rw [e]; exact (dm_bk h m i m).sum (dm_bk h m m j)
structure St (n : Nat) (c : Nat → Nat → Bn) (m : Nat) : Prop where
  fw : Fw c n m
  wy : ∀ i j, i < n → j < n → Way c n m i j (pw c m i j)
  dg : ∀ i, i < n → pw c m i i = [i]
theorem st_zero {n : Nat} {c : Nat → Nat → Bn} (h : ∀ i, i < n → c i i = b0) : St n c 0 := ⟨fw_zero h, fun i j _ _ => way_zero i j, fun _ _ => rfl⟩
theorem st_succ {n m : Nat} {c : Nat → Nat → Bn} (s : St n c m) (hm : m < n) (ok : ∀ i, i < n → Nn (bs (dm c m i m) (dm c m m i))) : St n c (m + 1) := by
  refine ⟨fw_step s.fw hm ok, fun i j hi hj => ?_, fun i hi => ?_⟩
  · show Way c n (m + 1) i j (ldP (dm c m) (pw c m) m i j)
    unfold ldP
    cases q : tgt (bs (dm c m i m) (dm c m m j)) (dm c m i j) with
    | true => rw [if_pos rfl]; exact way_via s.fw hm hi hj (s.wy i m hi hm) (s.wy m j hm hj) (ok i hi) q
    | false =>
      rw [if_neg (by decide)]
      exact way_mono (s.wy i j hi hj) (if_neg (by rw [q]; decide))
  · show ldP (dm c m) (pw c m) m i i = _
    unfold ldP
    have := ok i hi
    unfold Nn Le at this
    rw [s.fw.dia i hi, this, if_neg (by decide)]
    exact s.dg i hi
theorem St.len {n m : Nat} {c : Nat → Nat → Bn} (s : St n c m) (hm : m ≤ n) (i j : Nat) (hi : i < n) (hj : j < n) : (pw c m i j).length ≤ n := by
  by_cases h : i = j
  · subst h
    rw [s.dg i hi]
    show 1 ≤ n
    omega
  · have nd := List.nodup_append.mp ((s.wy i j hi hj).nd h)
    exact nodup_len n _ nd.1 ((s.wy i j hi hj).lt hi hm)
theorem St.rt {n m : Nat} {c : Nat → Nat → Bn} (s : St n c m) (hb : ∀ i j, Bk 2000 (c i j)) (hn : n ≤ 41) (hm : m < n) : RtOk n (dm c m) (pw c m) m :=
  ⟨hn, hm, fun i j _ _ => (dm_bk hb m i j).mono (by omega), fun i j hi hj => Nat.le_trans (s.len (by omega) i j hi hj) (by omega)⟩
theorem cz_bk {T : List (List Bn)} (h : ∀ i j, Bk 2000 (cellT T i j)) (i j : Nat) : Bk 2000 (cz T i j) := by
  unfold cz
  split
  · show Sm 2000 0
    exact Sm.mono (k := 1) (show (0 : Int).natAbs < 2 ^ 1 by decide) (by decide)
  · exact h i j
theorem own_closedF (n : Nat) (T : List (List Bn)) : own (closedF n T) = true := by
  unfold closedF
  cases h1 : firstBad (badD T) [] (List.range n) with
  | some d =>
    obtain ⟨a, x, b, _, h2, _⟩ := firstBad_some h1
    unfold badD at h2
    split at h2
    · cases h2
    · cases h2; rfl
  | none =>
    dsimp only
    cases h3 : firstBad (badC n (cz T)) [] (List.range n) with
    | some d =>
      obtain ⟨a, x, b, _, h2, _⟩ := firstBad_some h3
      unfold badC at h2
      rcases rgt_or (n := n) (m := x) (dm (cz T) x) (pw (cz T) x) with e | ⟨t, _, e, _⟩
      · rw [e] at h2; cases h2
      · rw [e] at h2
        cases h2
        show (true && (own (.lst _) && true)) = true
        rw [own, owns_intsD]
        rfl
    | none =>
      show (true && (own (ownD _) && true)) = true
      rw [own_ownD]
      rfl
theorem st_callM {δ : DS} {i j : Nat} {G : List D → Option (D × D)} {g : FA} {xs ys es : List D} {d0 d1 : D} (h1 : δ[i]? = some (some (.lst xs))) (h2 : δ[j]? = some (some (.lst ys))) (h3 : g δ = some es) (h4 : G (.lst xs :: .lst ys :: es) = some (d0, d1)) (h5 : imms es = true) (h6 : own d0 = true) (h7 : own d1 = true) (h8 : i ≠ j) : sCallM i j G g δ = some (.nx ((δ.set i (some d0)).set j (some d1))) := by
  unfold sCallM
  simp only [h1, h2, h3, h4, Option.bind_some, h5, h6, h7, ne_eq, h8, not_false_eq_true, and_self, if_true]
def S_closed (ds : List D) (d : D) : Prop := ∃ (d0 : D) (T : List (List Bn)) (n : Nat), IsT d0 T ∧ Sq T n ∧ n ≤ 41 ∧ (∀ i j, Bk 2000 (cellT T i j)) ∧ ds = [d0] ∧ d = closedF n T
theorem e_closed {d0 : D} {T : List (List Bn)} {n : Nat} (h : IsT d0 T) (hs : Sq T n) (hn : n ≤ 41) (hb : ∀ i j, Bk 2000 (cellT T i j)) : fn S_closed [d0] = some (closedF n T) := fn_eq (fun d' h' => by
  obtain ⟨d1, U, m, g, gs, _, _, h2, rfl⟩ := h'
  cases h2
  have := h.inj g
  subst this
  rw [← hs.len, ← gs.len]) ⟨d0, T, n, h, hs, hn, hb, rfl, rfl⟩
def Bk2 (T : List (List Bn)) : Prop := ∀ i j, Bk 2000 (cellT T i j)
theorem boolsOf_map : ∀ (bs : List Bool), boolsOf (bs.map D.bl) = some bs
  | [] => rfl
  | b :: bs => by show ((boolsOf (bs.map D.bl)).bind fun bs => some (b :: bs)) = _; rw [boolsOf_map bs]; rfl
theorem gAny_map (bs : List Bool) : gAny [.lst (bs.map D.bl)] = some (.bl (bs.any id)) := by
  show ((boolsOf (bs.map D.bl)).bind fun bs => some (D.bl (bs.any id))) = _
  rw [boolsOf_map]
  rfl
theorem gAll_map (bs : List Bool) : gAll [.lst (bs.map D.bl)] = some (.bl (bs.all id)) := by
  show ((boolsOf (bs.map D.bl)).bind fun bs => some (D.bl (bs.all id))) = _
  rw [boolsOf_map]
  rfl
theorem fComp_map {α : Type} {src : FA} {js : List Nat} {elt : FD} {δ : DS} {xs : List α} {f g : α → D} (hs : src δ = some (xs.map f)) (h : ∀ x ∈ xs, elt (some (f x) :: slotsOf js δ) = some (g x)) (hl : xs.length ≤ 1000) : fComp src js elt δ = some (.lst (xs.map g)) := by
  unfold fComp
  rw [hs]
  show ((mapO _ (xs.map f)).bind _) = _
  rw [mapO_map h]
  exact if_pos (by rw [List.length_map]; exact hl)
theorem all_not {f : FD} {δ : DS} {d : D} {b : Bool} (h : f δ = some d) (k : gAll [d] = some (.bl b)) : fNotT (fT (fCall gAll (faCons f faNil))) δ = some (!b) := by
  unfold fNotT fT fCall faCons
  rw [h]
  show (((gAll [d]).bind asB).map not) = _
  rw [k]
  rfl
theorem ne_b0 (x : Bn) : gNeN (bdD x) (.tup [.int 0, .bl false]) = some (.bl (decide (x ≠ b0))) := by
  rcases x with _ | ⟨k, s⟩
  · rfl
  · show some (D.bl (!((k == 0) && ((s == false) && true)))) = _
    congr 2
    by_cases h : k = 0
    · subst h
      cases s <;> rfl
    · have h1 : (k == 0) = false := by simp [h]
      rw [h1]
      symm
      simp [h]
def cl0 (T : List (List Bn)) : Nat → Nat → Bn := fun i j => if i = j ∧ tgt (cellT T i i) b0 = false then b0 else cellT T i j
def lawC (n : Nat) (T : List (List Bn)) : D := if ((List.range n).any fun i => decide (sqs n (cl0 T) 4 i i ≠ b0)) = true then .non else ownD (tabF n (sqs n (cl0 T) 4))
theorem own_lawC (n : Nat) (T : List (List Bn)) : own (lawC n T) = true := by
  unfold lawC
  split
  · rfl
  · exact own_ownD _
def S__law_closed (ds : List D) (d : D) : Prop := ∃ (d0 : D) (T : List (List Bn)) (n : Nat), IsT d0 T ∧ Sq T n ∧ n ≤ 41 ∧ ds = [d0] ∧ d = lawC n T
theorem e__law_closed {d0 : D} {T : List (List Bn)} {n : Nat} (h : IsT d0 T) (hs : Sq T n) (hn : n ≤ 41) : fn S__law_closed [d0] = some (lawC n T) := fn_eq (fun d' h' => by
  obtain ⟨d1, U, m, g, gs, _, h2, rfl⟩ := h'
  cases h2
  have := h.inj g
  subst this
  rw [← hs.len, ← gs.len]) ⟨d0, T, n, h, hs, hn, rfl, rfl⟩
def lgr (n : Nat) (f : Nat → Nat → Bn) (i j m : Nat) : Nat → Nat → Bn := fun x y => if x < i ∨ (x = i ∧ y < j) then sq n f x y else if x = i ∧ y = j then sqf f i j (List.range m) (f i j) else f x y
theorem lgr_at (n : Nat) (f : Nat → Nat → Bn) (i j m : Nat) : lgr n f i j m i j = sqf f i j (List.range m) (f i j) := by
  unfold lgr
  rw [if_neg (by omega), if_pos ⟨rfl, rfl⟩]
theorem sqf_succ (f : Nat → Nat → Bn) (i j m : Nat) (x : Bn) : sqf f i j (List.range (m + 1)) x = tg2 (sqf f i j (List.range m) x) (bs (f i m) (f m j)) := by
  unfold sqf
  rw [List.range_succ, List.foldl_append]
  rfl
theorem lgr_m {n : Nat} (f : Nat → Nat → Bn) {i j m : Nat} (hi : i < n) (hj : j < n) : tabF n (up2 (lgr n f i j m) i j (tg2 (sqf f i j (List.range m) (f i j)) (bs (f i m) (f m j)))) = tabF n (lgr n f i j (m + 1)) := tabF_congr fun x y _ _ => by
  unfold up2 lgr
  by_cases h : x = i ∧ y = j
  · rw [if_pos h, if_neg (by omega), if_pos h, sqf_succ]
  · rw [if_neg h]
    by_cases z : x < i ∨ (x = i ∧ y < j)
    · rw [if_pos z, if_pos z]
    · rw [if_neg z, if_neg h, if_neg z, if_neg h]
theorem lgr_same {n : Nat} (f : Nat → Nat → Bn) {i j m : Nat} (h : tgt (bs (f i m) (f m j)) (sqf f i j (List.range m) (f i j)) = false) : tabF n (lgr n f i j m) = tabF n (lgr n f i j (m + 1)) := tabF_congr fun x y _ _ => by
  unfold lgr
  by_cases z : x < i ∨ (x = i ∧ y < j)
  · rw [if_pos z, if_pos z]
  · rw [if_neg z, if_neg z]
    by_cases h2 : x = i ∧ y = j
    · rw [if_pos h2, if_pos h2, sqf_succ]
      unfold tg2
      rw [h, if_neg (by decide)]
    · rw [if_neg h2, if_neg h2]
theorem lgr_j {n : Nat} (f : Nat → Nat → Bn) (i j : Nat) : tabF n (lgr n f i j n) = tabF n (lgr n f i (j + 1) 0) := tabF_congr fun x y _ _ => by
  unfold lgr
  by_cases z : x < i ∨ (x = i ∧ y < j)
  · rw [if_pos z, if_pos (by omega)]
  · rw [if_neg z]
    by_cases h2 : x = i ∧ y = j
    · rw [if_pos h2, if_pos (by omega)]
      obtain ⟨rfl, rfl⟩ := h2
      rfl
    · rw [if_neg h2, if_neg (by omega)]
      by_cases h3 : x = i ∧ y = j + 1
      · rw [if_pos h3]
        obtain ⟨rfl, rfl⟩ := h3
        rfl
      · rw [if_neg h3]
theorem lgr_i {n : Nat} (f : Nat → Nat → Bn) (i : Nat) : tabF n (lgr n f i n 0) = tabF n (lgr n f (i + 1) 0 0) := tabF_congr fun x y _ hy => by
  unfold lgr
  by_cases z : x < i ∨ (x = i ∧ y < n)
  · rw [if_pos z, if_pos (by omega)]
  · rw [if_neg z, if_neg (by omega), if_neg (by omega)]
    by_cases h3 : x = i + 1 ∧ y = 0
    · rw [if_pos h3]
      obtain ⟨rfl, rfl⟩ := h3
      rfl
    · rw [if_neg h3]
theorem lgr_0 {n : Nat} (f : Nat → Nat → Bn) : tabF n (lgr n f 0 0 0) = tabF n f := tabF_congr fun x y _ _ => by
  unfold lgr
  rw [if_neg (by omega)]
  by_cases h3 : x = 0 ∧ y = 0
  · rw [if_pos h3]
    obtain ⟨rfl, rfl⟩ := h3
    rfl
  · rw [if_neg h3]
theorem lgr_n {n : Nat} (f : Nat → Nat → Bn) : tabF n (lgr n f n 0 0) = tabF n (sq n f) := tabF_congr fun x y hx _ => by
  unfold lgr
  rw [if_pos (by omega)]
def prv (r : List Nat) (k : Nat) : Nat := if k = 0 then r.length - 1 else k - 1
def tot (T : List (List Bn)) (r : List Nat) : Nat → Bn
  | 0 => b0
  | k + 1 => bs (tot T r k) (cellT T (r.getD (prv r k) 0) (r.getD k 0))
theorem take_snoc {r : List Nat} {k : Nat} (h : k < r.length) : r.take (k + 1) = r.take k ++ [r.getD k 0] := by
  rw [List.take_add_one, List.getElem?_eq_getElem h, List.getD_eq_getElem?_getD, List.getElem?_eq_getElem h]
  rfl
theorem tot_wt (T : List (List Bn)) (r : List Nat) : ∀ k, k + 1 ≤ r.length → tot T r (k + 1) = bs (cellT T (r.getD (r.length - 1) 0) (r.getD 0 0)) (wt (cellT T) (r.take (k + 1)))
  | 0, h => by
    have e : r.take 1 = [r.getD 0 0] := by rw [take_snoc (by omega), List.take_zero, List.nil_append]
    rw [e]
    show bs b0 (cellT T (r.getD (prv r 0) 0) (r.getD 0 0)) = bs _ b0
    rw [b0_bs, bs_zero]
    rfl
  | k + 1, h => by
    show bs (tot T r (k + 1)) (cellT T (r.getD (prv r (k + 1)) 0) (r.getD (k + 1) 0)) = _
    rw [tot_wt T r k (by omega), take_snoc (show k + 1 < r.length by omega), take_snoc (show k < r.length by omega), List.append_assoc]
    have e : r.take k ++ ([r.getD k 0] ++ [r.getD (k + 1) 0]) = r.take k ++ [r.getD k 0, r.getD (k + 1) 0] := rfl
    have p : prv r (k + 1) = k := by unfold prv; rw [if_neg (by omega)]; omega
    rw [e, wt_snoc, bs_assoc, p]
theorem tot_ring {T : List (List Bn)} {r : List Nat} {i : Nat} (h : ∃ xs, r = i :: xs) (nd : r.Nodup) (l2 : 2 ≤ r.length) : tot T r r.length = wt (cz T) (r ++ [i]) := by
  obtain ⟨xs, rfl⟩ := h
  have l1 : (i :: xs).length = xs.length + 1 := rfl
  rw [l1, tot_wt T (i :: xs) xs.length (by rw [l1]; omega)]
  have ht : (i :: xs).take (xs.length + 1) = i :: xs := List.take_of_length_le (by rw [l1]; omega)
  rw [ht]
  obtain ⟨s, z, e⟩ : ∃ s z, i :: xs = s ++ [z] := by
    refine ⟨(i :: xs).dropLast, (i :: xs).getLast (by simp), ?_⟩
    rw [List.dropLast_concat_getLast]
  have hz : (i :: xs).getD ((i :: xs).length - 1) 0 = z := by
    rw [List.getD_eq_getElem?_getD, e, List.length_append, List.length_singleton, Nat.add_sub_cancel, List.getElem?_append_right (Nat.le_refl _), Nat.sub_self]
    rfl
  have h0 : (i :: xs).getD 0 0 = i := rfl
  rw [hz, h0]
  have zi : z ≠ i := fun q => by
    subst q
    have sl : 1 ≤ s.length := by
      have := congrArg List.length e
      rw [List.length_append, List.length_singleton] at this
      omega
    cases s with
    | nil => simp at sl
    | cons a s =>
      have e' : z :: xs = a :: (s ++ [z]) := e
      injection e' with e1 e2
      have n1 := (List.nodup_cons.mp nd).1
      rw [e2] at n1
      exact n1 (by simp)
  have e2 : (i :: xs) ++ [i] = s ++ [z, i] := by rw [e, List.append_assoc]; rfl
  rw [e2, wt_snoc, ← e, bs_comm]
  have c1 : cz T z i = cellT T z i := if_neg zi
  rw [c1]
  congr 1
  refine (wt_congr (i :: xs) nd fun a b _ _ hab => ?_).symm
  exact if_neg hab
theorem ddOf_nodup : ∀ (ns acc : List Int), (acc ++ ns).Nodup → ns.foldl stepDD acc = acc ++ ns
  | [], acc, _ => by rw [List.append_nil]; rfl
  | k :: ns, acc, h => by
    have na : k ∉ acc := fun m => (List.nodup_append.mp h).2.2 k m k List.mem_cons_self rfl
    have e : stepDD acc k = acc ++ [k] := by
      unfold stepDD
      rw [if_neg]
      intro z
      obtain ⟨x, hx, q⟩ := List.any_eq_true.mp z
      have : x = k := by simpa using q
      exact na (this ▸ hx)
    show ns.foldl stepDD (stepDD acc k) = _
    rw [e, ddOf_nodup ns (acc ++ [k]) (by rw [List.append_assoc]; exact h), List.append_assoc]
    rfl
theorem intsOf_intsD : ∀ (r : List Nat), intsOf (intsD r) = some (r.map fun (k : Nat) => (k : Int))
  | [] => rfl
  | k :: r => by
    show (intsOf (intsD r)).map ((k : Int) :: ·) = _
    rw [intsOf_intsD r]
    rfl
theorem dd_len {r : List Nat} (h : r.Nodup) : (ddOf (r.map fun (k : Nat) => (k : Int))).length = r.length := by
  unfold ddOf
  rw [ddOf_nodup _ [] (by
    rw [List.nil_append]
    exact List.Pairwise.map _ (fun a b hab e => hab (by omega)) h), List.nil_append, List.length_map]
theorem ix_neg {xs : List D} {d : D} (h : xs[xs.length - 1]? = some d) : L2.atI xs (-1) = some d := by
  have hl := (List.getElem?_eq_some_iff.mp h).1
  unfold L2.atI L2.ixN
  rw [if_neg (by decide), if_pos (by omega)]
  have e : ((-1 : Int) + (xs.length : Int)).toNat = xs.length - 1 := by omega
  show xs[((-1 : Int) + (xs.length : Int)).toNat]? = _
  rw [e]
  exact h
theorem intsD_get {r : List Nat} {k : Nat} (h : k < r.length) : (intsD r)[k]? = some (.int ((r.getD k 0 : Nat) : Int)) := by
  unfold intsD
  rw [List.getElem?_map, List.getElem?_eq_getElem h, List.getD_eq_getElem?_getD, List.getElem?_eq_getElem h]
  rfl
theorem ix_prv {r : List Nat} {k : Nat} (h : k < r.length) : gIx (.seq (intsD r)) (.int ((k : Int) - 1)) = some (.int ((r.getD (prv r k) 0 : Nat) : Int)) := by
  unfold prv
  by_cases z : k = 0
  · subst z
    rw [if_pos rfl]
    show L2.atI (intsD r) (-1) = _
    refine ix_neg ?_
    have el : (intsD r).length = r.length := List.length_map _
    rw [el]
    exact intsD_get (by omega)
  · rw [if_neg z]
    have e : (k : Int) - 1 = ((k - 1 : Nat) : Int) := by omega
    rw [e]
    exact atI_of (intsD_get (by omega))
def S__law_is_ring (ds : List D) (d : D) : Prop := ∃ (d0 d1 : D) (T : List (List Bn)) (n : Nat) (r : List Nat), sh d0 = .seq (intsD r) ∧ IsT d1 T ∧ Sq T n ∧ n ≤ 41 ∧ 1 ≤ r.length ∧ r.Nodup ∧ (∀ x ∈ r, x < n) ∧ ¬ Nn (tot T r r.length) ∧ ds = [d0, d1] ∧ d = .bl true
theorem e__law_is_ring {d0 d1 : D} {T : List (List Bn)} {n : Nat} {r : List Nat} (h0 : sh d0 = .seq (intsD r)) (h1 : IsT d1 T) (hs : Sq T n) (hn : n ≤ 41) (hl : 1 ≤ r.length) (nd : r.Nodup) (lt : ∀ x ∈ r, x < n) (bad : ¬ Nn (tot T r r.length)) : fn S__law_is_ring [d0, d1] = some (.bl true) := fn_eq (fun d' h' => by
  obtain ⟨_, _, _, _, _, _, _, _, _, _, _, _, _, _, rfl⟩ := h'
  rfl) ⟨d0, d1, T, n, r, h0, h1, hs, hn, hl, nd, lt, bad, rfl, rfl⟩
def S__law_is_bound (ds : List D) (d : D) : Prop := ∃ b : Bn, ds = [bdD b] ∧ d = .bl true
theorem e__law_is_bound {b : Bn} : fn S__law_is_bound [bdD b] = some (.bl true) := fn_eq (fun d' h' => by
  obtain ⟨_, _, rfl⟩ := h'
  rfl) ⟨b, rfl, rfl⟩
theorem sqf_congr {n : Nat} {f g : Nat → Nat → Bn} (h : ∀ i j, i < n → j < n → f i j = g i j) {i j : Nat} (hi : i < n) (hj : j < n) : ∀ (ms : List Nat) (x : Bn), (∀ m ∈ ms, m < n) → sqf f i j ms x = sqf g i j ms x
  | [], _, _ => rfl
  | m :: ms, x, hm => by
    have m1 := hm m List.mem_cons_self
    show sqf f i j ms (tg2 x (bs (f i m) (f m j))) = sqf g i j ms (tg2 x (bs (g i m) (g m j)))
    rw [h i m hi m1, h m j m1 hj]
    exact sqf_congr h hi hj ms _ fun k mk => hm k (List.mem_cons_of_mem _ mk)
theorem sqs_congr {n : Nat} {f g : Nat → Nat → Bn} (h : ∀ i j, i < n → j < n → f i j = g i j) : ∀ (k i j : Nat), i < n → j < n → sqs n f k i j = sqs n g k i j
  | 0, i, j, hi, hj => h i j hi hj
  | k + 1, i, j, hi, hj => by
    show sqf (sqs n f k) i j (List.range n) (sqs n f k i j) = sqf (sqs n g k) i j (List.range n) (sqs n g k i j)
    rw [sqs_congr h k i j hi hj]
    exact sqf_congr (sqs_congr h k) hi hj _ _ fun m hm => List.mem_range.mp hm
theorem st_all {n : Nat} {c : Nat → Nat → Bn} (hd : ∀ i, i < n → c i i = b0) : ∀ m, m ≤ n → (∀ k, k < m → rgt n (dm c k) (pw c k) k = .non) → St n c m
  | 0, _, _ => st_zero hd
  | m + 1, hm, h => st_succ (st_all hd m (by omega) fun k hk => h k (by omega)) (by omega) (rgt_non (h m (by omega)))
theorem any_non {n : Nat} {T : List (List Bn)} {i : Nat} (hi : i < n) (h : sqs n (cl0 T) 4 i i ≠ b0) : lawC n T = .non := by
  unfold lawC
  rw [if_pos]
  exact List.any_eq_true.mpr ⟨i, List.mem_range.mpr hi, decide_eq_true h⟩
theorem closed_cases {T : List (List Bn)} {n : Nat} (hn : n ≤ 16) :
    (∃ r, closedF n T = .tup [.str "ring", .lst (intsD r)] ∧ 1 ≤ r.length ∧ r.Nodup ∧ (∀ x ∈ r, x < n) ∧ ¬ Nn (tot T r r.length) ∧ lawC n T = .non) ∨ ∃ U, Sq U n ∧ closedF n T = .tup [.str "table", ownD U] ∧ lawC n T = ownD U := by
  unfold closedF
  cases h1 : firstBad (badD T) [] (List.range n) with
  | some d =>
    obtain ⟨a, t, b, e, h2, _⟩ := firstBad_some h1
    have ht : t < n := by have := range_at e; omega
    unfold badD at h2
    split at h2
    · cases h2
    · rename_i q
      cases h2
      have bad : ¬ Nn (cellT T t t) := fun z => q (nn_kp.mpr z)
      refine .inl ⟨[t], rfl, Nat.le_refl _, by simp, fun x m => by simp at m; omega, ?_, any_non ht fun z => ?_⟩
      · show ¬ Nn (bs b0 (cellT T t t))
        rw [b0_bs]
        exact bad
      · have := sqs_self (n := n) (c := cl0 T) 4 t t
        rw [z] at this
        have e2 : cl0 T t t = cellT T t t := by
          unfold cl0
          rw [if_neg]
          intro w
          exact bad w.2
        rw [e2] at this
        exact bad this
  | none =>
    dsimp only
    have dg : ∀ i, i < n → tgt (cellT T i i) b0 = false := fun i hi => by
      obtain ⟨a, b, e⟩ := List.append_of_mem (List.mem_range.mpr hi)
      have := firstBad_none h1 a i b e
      unfold badD at this
      split at this
      · rename_i q; exact nn_kp.mp q
      · cases this
    have cc : ∀ i j, i < n → j < n → cl0 T i j = cz T i j := fun i j hi _ => by
      unfold cl0 cz
      by_cases h : i = j
      · rw [if_pos h, if_pos ⟨h, dg i hi⟩]
      · rw [if_neg h, if_neg fun z => h z.1]
    have hd : ∀ i, i < n → cz T i i = b0 := fun i _ => if_pos rfl
    cases h3 : firstBad (badC n (cz T)) [] (List.range n) with
    | some d =>
      obtain ⟨a, m, b, e, h2, h4⟩ := firstBad_some h3
      obtain ⟨rfl, hm⟩ := range_at e
      have st : St n (cz T) a.length := st_all hd _ (by omega) fun k hk => by
        have hk2 : (List.range n)[k]? = some k := List.getElem?_range (by omega)
        rw [e, List.getElem?_append_left hk] at hk2
        obtain ⟨a', b', ea⟩ := List.append_of_mem (List.mem_of_getElem? hk2)
        have := h4 a' k b' ea
        unfold badC at this
        rcases rgt_or (n := n) (m := k) (dm (cz T) k) (pw (cz T) k) with z | ⟨t, _, z, _⟩
        · exact z
        · rw [z] at this; cases this
      generalize a.length = m at *
      unfold badC at h2
      rcases rgt_or (n := n) (m := m) (dm (cz T) m) (pw (cz T) m) with z | ⟨t, ht, z, bad⟩
      · rw [z] at h2; cases h2
      · rw [z] at h2
        cases h2
        have wp := st.wy t m ht hm
        have wq := st.wy m t hm ht
        obtain ⟨nd, htm, sm⟩ := ring_nd st.fw hm ht wp wq bad
        obtain ⟨xs, ep, hx⟩ := wp.hd
        obtain ⟨ys, eq, hy⟩ := wq.hd
        have lt : ∀ x ∈ pw (cz T) m t m ++ pw (cz T) m m t, x < n := fun x mx => by
          rcases List.mem_append.mp mx with z | z
          · exact wp.lt ht (by omega) x z
          · exact wq.lt hm (by omega) x z
        have hdr : ∃ zs, pw (cz T) m t m ++ pw (cz T) m m t = t :: zs := ⟨xs ++ pw (cz T) m m t, by rw [ep]; rfl⟩
        have l2 : 2 ≤ (pw (cz T) m t m ++ pw (cz T) m m t).length := by
          rw [List.length_append, ep, eq, List.length_cons, List.length_cons]
          omega
        have bad2 : ¬ Nn (wt (cz T) (pw (cz T) m t m ++ pw (cz T) m m t ++ [t])) := by rw [sm]; exact bad
        refine .inl ⟨_, rfl, by omega, nd, lt, ?_, any_non ht ?_⟩
        · rw [tot_ring hdr nd l2]
          exact bad2
        · rw [sqs_congr cc 4 t t ht ht]
          exact ring_found hd hn hdr nd lt bad2
    | none =>
      have ok : ∀ k, k < n → rgt n (dm (cz T) k) (pw (cz T) k) k = .non := fun k hk => by
        obtain ⟨a, b, e⟩ := List.append_of_mem (List.mem_range.mpr hk)
        have := firstBad_none h3 a k b e
        unfold badC at this
        rcases rgt_or (n := n) (m := k) (dm (cz T) k) (pw (cz T) k) with z | ⟨t, _, z, _⟩
        · exact z
        · rw [z] at this; cases this
      have st := st_all hd n (Nat.le_refl n) ok
      have okk : Ok (cz T) n n := fun k hk i hi => rgt_non (ok k hk) i hi
      have same : ∀ i j, i < n → j < n → sqs n (cl0 T) 4 i j = dm (cz T) n i j := fun i j hi hj => by
        rw [sqs_congr cc 4 i j hi hj]
        exact closed_same hd okk hn (fun i j hi hj => ⟨_, st.wy i j hi hj⟩) hi hj
      refine .inr ⟨_, tabF_sq n _, rfl, ?_⟩
      unfold lawC
      rw [if_neg, tabF_congr same]
      intro z
      obtain ⟨i, mi, q⟩ := List.any_eq_true.mp z
      have hi := List.mem_range.mp mi
      have := of_decide_eq_true q
      rw [same i i hi hi, st.fw.dia i hi] at this
      exact this rfl
def S__law_right (ds : List D) (d : D) : Prop := ∃ (d0 d1 : D) (T : List (List Bn)) (n : Nat), sh d0 = sh (closedF n T) ∧ IsT d1 T ∧ Sq T n ∧ n ≤ 16 ∧ ds = [d0, d1] ∧ d = .bl true
theorem e__law_right {d0 d1 : D} {T : List (List Bn)} {n : Nat} (h0 : sh d0 = sh (closedF n T)) (h1 : IsT d1 T) (hs : Sq T n) (hn : n ≤ 16) : fn S__law_right [d0, d1] = some (.bl true) := fn_eq (fun d' h' => by
  obtain ⟨_, _, _, _, _, _, _, _, _, rfl⟩ := h'
  rfl) ⟨d0, d1, T, n, h0, h1, hs, hn, rfl, rfl⟩
theorem eqL_two {α : Type} {f : D → D → Option Bool} {a b : α → D} : ∀ (xs : List α), (∀ x ∈ xs, f (a x) (b x) = some true) → eqL f (xs.map a) (xs.map b) = some true
  | [], _ => rfl
  | x :: xs, h => by
    show ((f (a x) (b x)).bind fun p => (eqL f (xs.map a) (xs.map b)).bind fun q => some (p && q)) = _
    rw [h x List.mem_cons_self, eqL_two xs fun y m => h y (List.mem_cons_of_mem _ m)]
    rfl
theorem eq_tab_own (U : List (List Bn)) : gEqN (tabD U) (ownD U) = some (.bl true) := by
  unfold gEqN
  have z : eqN 6 (tabD U) (ownD U) = some true := eqL_two (f := eqN 5) U fun r _ => eq_row 3 r
  rw [z]; rfl
theorem eq_own (U : List (List Bn)) : gEqN (ownD U) (ownD U) = some (.bl true) := by
  unfold gEqN
  have z : eqN 6 (ownD U) (ownD U) = some true := eqL_two (f := eqN 5) U fun r _ => eq_row 3 r
  rw [z]; rfl
theorem sRing (r : List Nat) : sh (.tup [.str "ring", .lst (intsD r)]) = .tup [.str "ring", .seq (intsD r)] := by
  show D.tup [.str "ring", sh (.lst (intsD r))] = _
  rw [sh, shs_intsD]
theorem sTab (U : List (List Bn)) : sh (.tup [.str "table", ownD U]) = .tup [.str "table", tabD U] := by
  show D.tup [.str "table", sh (ownD U)] = _
  rw [sh_ownD]
theorem gEq_str (x : Str) : gEqN (.str x) (.str x) = some (.bl true) := by
  show some (D.bl (x == x)) = _
  rw [beq_self_eq_true]
theorem gNe_str (x : Str) : gNeN (.str x) (.str x) = some (.bl false) := by
  show some (D.bl (!(x == x))) = _
  rw [beq_self_eq_true]
  rfl
theorem gEq_rt : gEqN (.str "ring") (.str "table") = some (.bl false) := by
  have e : (("ring" : Str) == ("table" : Str)) = false := by decide +kernel
  show some (D.bl (("ring" : Str) == ("table" : Str))) = _
  rw [e]
theorem v_tix {k : Nat} {fm : FM} {δ δ' : DS} {ds : List D} {d : D} (h : fm δ = some (.tup ds, δ')) (g : ds[k]? = some d) : vTix k fm δ = some (d, δ') := by
  unfold vTix
  rw [h]
  show (ds[k]?).map _ = _
  rw [g]
  rfl
theorem st_trev {δ : DS} {i : Nat} {x : D} {ds : List D} (h : δ[i]? = some (some (.tup [x, .lst ds]))) (ix : imm x = true) : sTRev i δ = some (.nx (δ.set i (some (.tup [x, .lst ds.reverse])))) := by
  unfold sTRev
  rw [h]
  exact if_pos ix
theorem st_tapp {δ : DS} {i : Nat} {x d : D} {f : FD} {ds : List D} (h : δ[i]? = some (some (.tup [x, .lst ds]))) (hf : f δ = some d) (ix : imm x = true) (id : imm d = true) (hl : ds.length ≤ 999) : sTApp i f δ = some (.nx (δ.set i (some (.tup [x, .lst (ds ++ [d])])))) := by
  unfold sTApp
  rw [h]
  show ((f δ).bind _) = _
  rw [hf]
  exact if_pos ⟨ix, id, hl⟩
def flipR (r : List Bn) : D := .lst ((rowD r).reverse ++ [.non])
theorem rowsC_tab {δ : DS} {i k : Nat} {x : D} {fc : FT} {n : Nat} (hn : n ≤ 999) : ∀ (U : List (List Bn)) (done : List D), (∀ r ∈ U, r.length = n) → (∀ (z : D) (r : List Bn), r.length = n → fc ((δ.set i (some z)).set k (some (.lst (rowD r)))) = some false) → rowsC δ i k x fc (fun ds => (fun ds => if ds.length ≤ 999 then some (ds ++ [D.non]) else none) ds.reverse) done (rowsO U) = some (done ++ U.map flipR)
  | [], done, _, _ => by
    show some done = some (done ++ [])
    rw [List.append_nil]
  | r :: U, done, h, hf => by
    have hr := h r List.mem_cons_self
    show ((fc _).bind _) = _
    rw [hf _ r hr]
    show ((rowF _ (.lst (rowD r))).bind _) = _
    have e : rowF (fun ds => (fun ds => if ds.length ≤ 999 then some (ds ++ [D.non]) else none) ds.reverse) (.lst (rowD r)) = some (flipR r) := by
      unfold rowF
      dsimp only
      rw [if_pos (imms_row r), if_pos (by rw [List.length_reverse, len_rowD, hr]; exact hn)]
      show (if _ then _ else _) = _
      rw [if_pos]
      · rfl
      · refine imms_mem.mpr fun d m => ?_
        rcases List.mem_append.mp m with m | m
        · exact imms_mem.mp (imms_row r) d (List.mem_reverse.mp m)
        · have : d = .non := by simpa using m
          rw [this]
          rfl
    rw [e]
    show rowsC δ i k x fc _ (done ++ [flipR r]) (rowsO U) = _
    rw [rowsC_tab hn U (done ++ [flipR r]) (fun r m => h r (List.mem_cons_of_mem _ m)) hf, List.append_assoc]
    rfl
theorem st_rowsT {δ : DS} {i k : Nat} {x : D} {ds es : List D} {fc : FT} {g : List D → Option (List D)} (h : δ[i]? = some (some (.tup [x, .lst ds]))) (hk : k < δ.length) (ix : imm x = true) (e : rowsC δ i k x fc g [] ds = some es) : sRowsT i k fc g δ = some (.nx ((δ.set k none).set i (some (.tup [x, .lst es])))) := by
  unfold sRowsT
  rw [h]
  show (if _ then _ else _) = _
  rw [if_pos ⟨hk, ix⟩, e]
  rfl
theorem opn_tabF (n : Nat) : opn n = tabF n fun _ _ => none := tab_ext (opn_sq n) (tabF_sq _ _) fun i j hi hj => by rw [cell_opn, cell_tabF _ hi hj]
section
variable {P : Program} {w : World} {K : PySem.W.Frag} {mg : Str → Option Value} {base : Heap} {f : Addr} {fd : FuncData}
abbrev s_is_whole : Stmt := top 4
theorem sc_is_whole : FnScope ["thing"] ["thing"] (defScope s_is_whole) := ⟨rfl, rfl, rfl, by decide +kernel, rfl, by decide +kernel, by decide +kernel⟩
theorem ok_is_whole (F : Fun K "is_whole" "is_whole" s_is_whole f fd)   (m_isinstance : mg "isinstance" = none) (m_int : mg "int" = none) (m_bool : mg "bool" = none) : FnOk P w K mg base CX0 1 f fd ["thing"] (pureSp K 1 (fn S_is_whole)) := by
  have sc := sc_is_whole
  refine pure_ok F sc_is_whole (fun cdv A outer s H E ds d hr hG hl => ?_)
  obtain ⟨x, b, h, rfl, rfl⟩ := fn_inv hG
  refine ⟨_, (psd_one (psd_ret (pd_and (pd_callB call_isi (cd_isi ok_isInt) rfl m_isinstance boot_isinstance (pad_cons (pd_var 0) (pad_cons (pd_ty rfl m_int boot_int) pad_nil))) (pd_one (pd_not (pd_callB call_isi (cd_isi ok_isBool) rfl m_isinstance boot_isinstance (pad_cons (pd_var 0) (pad_cons (pd_ty rfl m_bool boot_bool) pad_nil)))))))), ?_⟩
  · show retOf ((?f : SD) [some _]) = _
    cases x <;> simp [gWhole] at h <;> subst h <;> rfl
abbrev s_common_divisor : Stmt := top 5
theorem sc_common_divisor : FnScope ["number", "above_nought", "one", "other", "rest"] ["number", "above_nought"] (defScope s_common_divisor) := ⟨rfl, rfl, rfl, by decide +kernel, rfl, by decide +kernel, by decide +kernel⟩
def cdC : FT := fT (f2 gNe (fVar 3) (fC (.int 0)))
def cdS : SD := sSeq (sSet 4 (f2 (gI (fun _ j => 0 < j) fun i j => .int (i % j)) (fVar 2) (fVar 3))) (sSeq (sSet 2 (fVar 3)) (sSet 3 (fVar 4)))
theorem cd_loop : ∀ (n : Nat) (x y : Int) (u v o : Option D), 0 ≤ y → (y = 0 → 0 ≤ x) → y.toNat < n → ∃ o', sWhile n cdC cdS [u, v, some (.int x), some (.int y), o] = some (.nx [u, v, some (.int (gc x y)), some (.int 0), o'])
  | 0, x, y, u, v, o, h0, h1, h2 => by omega
  | n + 1, x, y, u, v, o, h0, h1, h2 => by
    by_cases h : y = 0
    · subst h
      refine ⟨o, ?_⟩
      rw [gc_zero (h1 rfl)]
      rfl
    · have hy : 0 < y := by omega
      have hc : cdC [u, v, some (.int x), some (.int y), o] = some true := by
        show some (!(y == 0)) = some true
        simp [h]
      have hs : cdS [u, v, some (.int x), some (.int y), o] = some (.nx [u, v, some (.int y), some (.int (x % y)), some (.int (x % y))]) := by
        unfold cdS
        simp only [retOf, sNil, sThen, sSeq, sRet, sDrop, sSet, sIf, sPar, sUn2, sFor, asL, gSet, forD, fVar, fC, f2, f1, fT, asB, fNotT, fAndT, fOrT, fAndV, fOrV, gNot, gNeg, faNil, faCons, fTup, fLst, fCall, gAbs, gInt, gLen_t2, gLen_seq, gIx_t0, gIx_t1, gI0, gAdd_int, gNe_int, gEq_int, gEq_bl, gEq_tup2, gNe_tup2, gIsi_same, Dl.isInt, Dl.isBool, Dl.isTup, Option.bind_some, Option.map_some, List.map_cons, List.map_nil, List.length_cons, List.length_nil, List.getElem?_cons_zero, List.getElem?_cons_succ, List.set_cons_zero, List.set_cons_succ, List.cons_append, List.nil_append, List.append_nil, Bool.not_true, Bool.not_false, beq_self_eq_true, bdD_none, bdD_some, gIsN, isNon, sSetM, sRetM, sDropM, vI, vName, vShare, vWalk, vNil, vCons, vLst, vTup, vCall, sh_bd, gI_pos (C := fun _ j => 0 < j) (i := x) hy]
      obtain ⟨o', ih⟩ := cd_loop n y (x % y) u v (some (.int (x % y))) (Int.emod_nonneg x h) (fun _ => h0) (by have := Int.emod_lt_of_pos x hy; omega)
      refine ⟨o', ?_⟩
      rw [gc_step] at ih
      rw [sWhile_t hc hs]
      exact ih
theorem ok_common_divisor (F : Fun K "common_divisor" "common_divisor" s_common_divisor f fd)    : FnOk P w K mg base CX0 1 f fd ["number", "above_nought"] (pureSp K 2 (fn S_common_divisor)) := by
  have sc := sc_common_divisor
  refine pure_ok F sc_common_divisor (fun cdv A outer s H E ds d hr hG hl => ?_)
  obtain ⟨a, b, hb, rfl, rfl⟩ := fn_inv hG
  refine ⟨_, (psd_cons (psd_set 2 sc.nd (pd_var 0))
      (psd_cons (psd_set 3 sc.nd (pd_var 1))
      (psd_cons (psd_while (b.toNat + 1) PassesOwn.never (ptd_ne hr.units0 (pd_var 3) pd_int)
        (psd_cons (psd_set 4 sc.nd (pd_mod (pd_var 2) (pd_var 3)))
        (psd_cons (psd_set 2 sc.nd (pd_var 3))
        (psd_one (psd_set 3 sc.nd (pd_var 4))))))
      (psd_one (psd_ret (pd_var 2)))))), ?_⟩
  · show retOf ((?f : SD) [some _, some _, none, none, none]) = _
    obtain ⟨o, ho⟩ := cd_loop (b.toNat + 1) a b (some (.int a)) (some (.int b)) none (by omega) (by omega) (by omega)
    show retOf ((sWhile (b.toNat + 1) cdC cdS [some (.int a), some (.int b), some (.int a), some (.int b), none]).bind (sThen (sRet (fVar 2)))) = _
    rw [ho]
    rfl
abbrev s_less : Stmt := top 8
theorem sc_less : FnScope ["one", "other"] ["one", "other"] (defScope s_less) := ⟨rfl, rfl, rfl, by decide +kernel, rfl, by decide +kernel, by decide +kernel⟩
theorem ok_less (F : Fun K "less" "less" s_less f fd)    : FnOk P w K mg base CX0 1 f fd ["one", "other"] (pureSp K 2 (fn S_less)) := by
  have sc := sc_less
  refine pure_ok F sc_less (fun cdv A outer s H E ds d hr hG hl => ?_)
  obtain ⟨⟨a, b⟩, ⟨c, e⟩, hp, hq, rfl, rfl⟩ := fn_inv hG
  refine ⟨_, (psd_one (psd_ret (pd_lt (pd_mul (pd_ix (pd_var 0) pd_int) (pd_ix (pd_var 1) pd_int)) (pd_mul (pd_ix (pd_var 1) pd_int) (pd_ix (pd_var 0) pd_int))))), ?_⟩
  · show retOf ((?f : SD) [some _, some _]) = _
    simp only [retOf, sNil, sThen, sSeq, sRet, sDrop, sSet, sIf, sPar, sUn2, sFor, asL, gSet, forD, fVar, fC, f2, f1, fT, asB, fNotT, fAndT, fOrT, fAndV, fOrV, gNot, gNeg, faNil, faCons, fTup, fLst, fCall, gAbs, gInt, gLen_t2, gLen_seq, gIx_t0, gIx_t1, gI0, gAdd_int, gNe_int, gEq_int, gEq_bl, gEq_tup2, gNe_tup2, gIsi_same, Dl.isInt, Dl.isBool, Dl.isTup, Option.bind_some, Option.map_some, List.map_cons, List.map_nil, List.length_cons, List.length_nil, List.getElem?_cons_zero, List.getElem?_cons_succ, List.set_cons_zero, List.set_cons_succ, List.cons_append, List.nil_append, List.append_nil, Bool.not_true, Bool.not_false, beq_self_eq_true, bdD_none, bdD_some, gIsN, isNon, sSetM, sRetM, sDropM, vI, vName, vShare, vWalk, vNil, vCons, vLst, vTup, vCall, sh_bd, gI_pos (C := CMulB) (i := a) (j := e) ⟨hp.s1.bd, hq.s2.bd⟩, gI_pos (C := CMulB) (i := c) (j := b) ⟨hq.s1.bd, hp.s2.bd⟩]
abbrev s_tighter : Stmt := top 11
theorem sc_tighter : FnScope ["one", "other"] ["one", "other"] (defScope s_tighter) := ⟨rfl, rfl, rfl, by decide +kernel, rfl, by decide +kernel, by decide +kernel⟩
theorem ok_tighter (F : Fun K "tighter" "tighter" s_tighter f fd)    : FnOk P w K mg base CX0 1 f fd ["one", "other"] (pureSp K 2 (fn S_tighter)) := by
  have sc := sc_tighter
  refine pure_ok F sc_tighter (fun cdv A outer s H E ds d hr hG hl => ?_)
  obtain ⟨a, b, rfl, rfl⟩ := fn_inv hG
  refine ⟨_, (psd_cons (psd_if (ptd_isN (pd_var 0) pd_non) (psd_one (psd_ret pd_bl)) psd_nil)
      (psd_cons (psd_if (ptd_isN (pd_var 1) pd_non) (psd_one (psd_ret pd_bl)) psd_nil)
      (psd_cons (psd_if (ptd_ne hr.units0 (pd_ix (pd_var 0) pd_int) (pd_ix (pd_var 1) pd_int)) (psd_one (psd_ret (pd_lt (pd_ix (pd_var 0) pd_int) (pd_ix (pd_var 1) pd_int)))) psd_nil)
      (psd_one (psd_ret (pd_and (pd_ix (pd_var 0) pd_int) (pd_one (pd_not (pd_ix (pd_var 1) pd_int))))))))), ?_⟩
  · show retOf ((?f : SD) [some _, some _]) = _
    rcases a with _ | ⟨n, s⟩
    · rfl
    rcases b with _ | ⟨m, t⟩
    · rfl
    rw [tgt_ss]
    by_cases e : n = m
    · subst e
      rw [if_pos rfl]
      cases s <;> cases t <;> (simp only [retOf, sNil, sThen, sSeq, sRet, sDrop, sSet, sIf, sPar, sUn2, sFor, asL, gSet, forD, fVar, fC, f2, f1, fT, asB, fNotT, fAndT, fOrT, fAndV, fOrV, gNot, gNeg, faNil, faCons, fTup, fLst, fCall, gAbs, gInt, gLen_t2, gLen_seq, gIx_t0, gIx_t1, gI0, gAdd_int, gNe_int, gEq_int, gEq_bl, gEq_tup2, gNe_tup2, gIsi_same, Dl.isInt, Dl.isBool, Dl.isTup, Option.bind_some, Option.map_some, List.map_cons, List.map_nil, List.length_cons, List.length_nil, List.getElem?_cons_zero, List.getElem?_cons_succ, List.set_cons_zero, List.set_cons_succ, List.cons_append, List.nil_append, List.append_nil, Bool.not_true, Bool.not_false, beq_self_eq_true, bdD_none, bdD_some, gIsN, isNon, sSetM, sRetM, sDropM, vI, vName, vShare, vWalk, vNil, vCons, vLst, vTup, vCall, sh_bd] ; rfl)
    · have h1 : (n == m) = false := beq_eq_false_iff_ne.mpr e
      rw [if_neg e]
      simp only [retOf, sNil, sThen, sSeq, sRet, sDrop, sSet, sIf, sPar, sUn2, sFor, asL, gSet, forD, fVar, fC, f2, f1, fT, asB, fNotT, fAndT, fOrT, fAndV, fOrV, gNot, gNeg, faNil, faCons, fTup, fLst, fCall, gAbs, gInt, gLen_t2, gLen_seq, gIx_t0, gIx_t1, gI0, gAdd_int, gNe_int, gEq_int, gEq_bl, gEq_tup2, gNe_tup2, gIsi_same, Dl.isInt, Dl.isBool, Dl.isTup, Option.bind_some, Option.map_some, List.map_cons, List.map_nil, List.length_cons, List.length_nil, List.getElem?_cons_zero, List.getElem?_cons_succ, List.set_cons_zero, List.set_cons_succ, List.cons_append, List.nil_append, List.append_nil, Bool.not_true, Bool.not_false, beq_self_eq_true, bdD_none, bdD_some, gIsN, isNon, sSetM, sRetM, sDropM, vI, vName, vShare, vWalk, vNil, vCons, vLst, vTup, vCall, sh_bd, h1]
abbrev s_bound_sum : Stmt := top 12
theorem sc_bound_sum : FnScope ["one", "other"] ["one", "other"] (defScope s_bound_sum) := ⟨rfl, rfl, rfl, by decide +kernel, rfl, by decide +kernel, by decide +kernel⟩
theorem ok_bound_sum (F : Fun K "bound_sum" "bound_sum" s_bound_sum f fd)    : FnOk P w K mg base CX0 1 f fd ["one", "other"] (pureSp K 2 (fn S_bound_sum)) := by
  have sc := sc_bound_sum
  refine pure_ok F sc_bound_sum (fun cdv A outer s H E ds d hr hG hl => ?_)
  obtain ⟨a, b, rfl, rfl⟩ := fn_inv hG
  refine ⟨_, (psd_cons (psd_if (PWD.pt (pwd_or (ptd_isN (pd_var 0) pd_non) (pwd_or1 (ptd_isN (pd_var 1) pd_non)))) (psd_one (psd_ret pd_non)) psd_nil)
      (psd_one (psd_ret (pd_tup (pad_cons (pd_add (pd_ix (pd_var 0) pd_int) (pd_ix (pd_var 1) pd_int)) (pad_cons (pd_or (pd_ix (pd_var 0) pd_int) (pd_one (pd_ix (pd_var 1) pd_int))) pad_nil)))))), ?_⟩
  · show retOf ((?f : SD) [some _, some _]) = _
    rcases a with _ | ⟨n, s⟩ <;> rcases b with _ | ⟨m, t⟩
    · rfl
    · rfl
    · rfl
    · cases s <;> cases t <;> rfl
abbrev s_open_table : Stmt := top 14
theorem sc_open_table : FnScope ["k"] ["k"] (defScope s_open_table) := ⟨rfl, rfl, rfl, by decide +kernel, rfl, by decide +kernel, by decide +kernel⟩
theorem ok_open_table (F : Fun K "open_table" "open_table" s_open_table f fd)   (m_range : mg "range" = none) : FnOk P w K mg base CX0 1 f fd ["k"] (freshSp K 1 (fn S_open_table)) := by
  have sc := sc_open_table
  refine fresh_ok F sc_open_table (fun cdv A outer s H E ds d hr hG hl => ?_)
  obtain ⟨k, hk0, hk1, rfl, rfl⟩ := fn_inv hG
  have hown := own_ownD (opn (k.toNat + 1))
  refine ⟨_, (pm_one (pm_ret (pv_comp (by exact (pid_range1 rfl m_range (pad_cons (pd_add (pd_var 0) pd_int) pad_nil))) (N := ["thing", "k"]) (js := [0]) (cl := [("k", _)]) (fun _ _ _ _ _ => by exact (pv_rep (pd_lst (pad_cons pd_non pad_nil)) (pd_add (pd_var 1) pd_int))) (by exact CompOk.one)))), ?_, ?own⟩
  case own => first | rfl | exact hown
  · show retOf ((?f : SD) (startM 1 _)) = _
    exact rt_of (δ := [some (.int k)]) (st_ret (vComp_opn hk0 hk1 rfl))
abbrev s_copied : Stmt := top 15
theorem sc_copied : FnScope ["table"] ["table"] (defScope s_copied) := ⟨rfl, rfl, rfl, by decide +kernel, rfl, by decide +kernel, by decide +kernel⟩
theorem ok_copied (F : Fun K "copied" "copied" s_copied f fd)   (m_list : mg "list" = none) : FnOk P w K mg base CX0 1 f fd ["table"] (freshSp K 1 (fn S_copied)) := by
  have sc := sc_copied
  refine fresh_ok F sc_copied (fun cdv A outer s H E ds d hr hG hl => ?_)
  obtain ⟨d0, T, m, hT, hs, hm, rfl, rfl⟩ := fn_inv hG
  have hown := own_ownD T
  refine ⟨_, (pm_one (pm_ret (pv_comp (by exact (pid_list (pd_var 0))) (N := ["bounds"]) (js := []) (cl := []) (fun _ _ _ _ _ => by exact (pv_listof rfl m_list boot_list (pad_cons (pd_var 0) pad_nil))) (by exact CompOk.nil)))), ?_, ?own⟩
  case own => first | rfl | exact hown
  · show retOf ((?f : SD) (startM 1 _)) = _
    have e0 : startM 1 [d0] = [some (tabD T)] := by
      show [some (sh d0)] = _
      rw [show sh d0 = tabD T from hT]
    rw [e0]
    exact rt_of (st_ret (vComp_copy hs hm rfl))
abbrev s_straight_ways : Stmt := top 19
theorem sc_straight_ways : FnScope ["size", "ways", "thing"] ["size"] (defScope s_straight_ways) := ⟨rfl, rfl, rfl, by decide +kernel, rfl, by decide +kernel, by decide +kernel⟩
theorem ok_straight_ways (F : Fun K "straight_ways" "straight_ways" s_straight_ways f fd)   (m_range : mg "range" = none) : FnOk P w K mg base CX0 1 f fd ["size"] (freshSp K 1 (fn S_straight_ways)) := by
  have sc := sc_straight_ways
  refine fresh_ok F sc_straight_ways (fun cdv A outer s H E ds d hr hG hl => ?_)
  obtain ⟨n, hn, rfl, rfl⟩ := fn_inv hG
  have hown := own_ways n fun i _ => [i]
  refine ⟨_, (pm_cons (pm_set 1 sc.nd (pv_lst pva_nil))
      (pm_cons (pm_for 2 sc.nd PassesOwn.never rfl (pim_range1 rfl m_range (pad_cons (pd_var 0) pad_nil))
        (pm_one (pm_app 1 (pe_bm PySem.F.plainAttrs_list PySem.F.slot_list_append PySem.F.type_list_append mt_append (pvi 1) (pa_cons (pv_comp (by exact (pid_range1 rfl m_range (pad_cons (pd_var 0) pad_nil))) (N := ["goal", "thing"]) (js := [2]) (cl := [("thing", _)]) (fun _ _ _ _ _ => by exact (pv_lst (pva_cons (pv_name 1) pva_nil))) (by exact CompOk.one)) pa_nil)))))
      (pm_one (pm_ret (pv_name 1))))), ?_, ?own⟩
  case own => first | rfl | exact hown
  · rw [show (["size", "ways", "thing"] : List Str).length = 3 from rfl]
    have e0 : startM 3 [.int (n : Int)] = [some (.int (n : Int)), none, none] := rfl
    rw [e0]
    have hv := fun o1 o2 : Option D => v_range (g := faCons (fVar 0) faNil) (δ := [some (.int (n : Int)), o1, o2]) (n := n) rfl (by omega)
    obtain ⟨_, w, o, rfl⟩ := forM_pre (i := 2) (s := ((sApp 1 (vComp (srcR (faCons (fVar 0) faNil)) [2] (vLst (vCons (vName 1) vNil)))))) (f := fun (i : Nat) => D.int (i : Int)) (fun pre δ => ∃ o, δ = [some (.int (n : Int)), some (.lst ((List.range pre.length).map fun i => D.lst (wrowO n fun _ => [i]))), o]) (List.range n) (by
      rintro pre x post _ hx ⟨o, rfl⟩
      obtain ⟨rfl, hl⟩ := range_at hx
      refine ⟨_, st_app (ds := (List.range pre.length).map fun i => D.lst (wrowO n fun _ => [i])) (d := .lst (wrowO n fun _ => [pre.length])) rfl ?_ (by rw [List.length_map, List.length_range]; omega), some (.int (pre.length : Int)), ?_⟩
      · refine vComp_map (f := fun (i : Nat) => D.int (i : Int)) (g := fun _ => D.lst (intsD [pre.length])) (xs := List.range n) ?_ (fun i _ => rfl) (by rw [List.length_range]; omega)
        refine src_r (ds := [.int (n : Int)]) rfl ?_
        rw [asR_b (by omega) (by omega), rangeD_0]
      · rw [List.length_append, List.length_singleton, List.range_succ, List.map_append]
        rfl) (List.range n) [] [some (.int (n : Int)), some (.lst []), none] rfl ⟨none, rfl⟩
    rw [List.length_range] at w
    exact rt_of (st_seq (st_setS (d := .lst []) rfl) (st_seq (st_for (hv _ _) w) (st_ret (v_move rfl))))
abbrev s__law_cell_at : Stmt := top 23
theorem sc__law_cell_at : FnScope ["_law_script", "_law_k"] ["_law_script", "_law_k"] (defScope s__law_cell_at) := ⟨rfl, rfl, rfl, by decide +kernel, rfl, by decide +kernel, by decide +kernel⟩
theorem ok__law_cell_at (F : Fun K "_law_cell_at" "_law_cell_at" s__law_cell_at f fd)   (m_len : mg "len" = none) : FnOk P w K mg base CX0 1 f fd ["_law_script", "_law_k"] (pureSp K 2 (fn S__law_cell_at)) := by
  have sc := sc__law_cell_at
  refine pure_ok F sc__law_cell_at (fun cdv A outer s H E ds d hr hG hl => ?_)
  obtain ⟨ns, k, hk, rfl, rfl⟩ := fn_inv hG
  refine ⟨_, (psd_cons (psd_if (ptd_lt (pd_var 1) (pd_callB call_len_seq cd_len rfl m_len PySem.boot_len (pad_cons (pd_var 0) pad_nil))) (psd_one (psd_ret (pd_ix (pd_var 0) (pd_var 1)))) psd_nil)
      (psd_one (psd_ret pd_int))), ?_⟩
  · show retOf ((?f : SD) [some _, some _]) = _
    by_cases hlt : k < (ns.length : Int)
    · have h1 : decide (k < (((ns.map D.int).length : Nat) : Int)) = true := decide_eq_true (by rw [List.length_map]; exact hlt)
      have h2 : gIx (.seq (ns.map D.int)) (.int k) = some (.int (cell ns k)) := by
        show L2.atI (ns.map D.int) k = _
        have ek : k = ((k.toNat : Nat) : Int) := by omega
        have hk2 : k.toNat < ns.length := by omega
        have h3 := atI_nat (xs := ns.map D.int) (j := k.toNat) (v := D.int ns[k.toNat]) (by rw [List.getElem?_map, List.getElem?_eq_getElem hk2] <;> rfl)
        rw [← ek] at h3
        rw [h3]
        unfold cell
        simp [List.getD_eq_getElem?_getD, hk2]
      simp only [retOf, sNil, sThen, sSeq, sRet, sDrop, sSet, sIf, sPar, sUn2, sFor, asL, gSet, forD, fVar, fC, f2, f1, fT, asB, fNotT, fAndT, fOrT, fAndV, fOrV, gNot, gNeg, faNil, faCons, fTup, fLst, fCall, gAbs, gInt, gLen_t2, gLen_seq, gIx_t0, gIx_t1, gI0, gAdd_int, gNe_int, gEq_int, gEq_bl, gEq_tup2, gNe_tup2, gIsi_same, Dl.isInt, Dl.isBool, Dl.isTup, Option.bind_some, Option.map_some, List.map_cons, List.map_nil, List.length_cons, List.length_nil, List.getElem?_cons_zero, List.getElem?_cons_succ, List.set_cons_zero, List.set_cons_succ, List.cons_append, List.nil_append, List.append_nil, Bool.not_true, Bool.not_false, beq_self_eq_true, bdD_none, bdD_some, gIsN, isNon, sSetM, sRetM, sDropM, vI, vName, vShare, vWalk, vNil, vCons, vLst, vTup, vCall, sh_bd, h1, h2]
    · have h1 : decide (k < (((ns.map D.int).length : Nat) : Int)) = false := decide_eq_false (by rw [List.length_map]; exact hlt)
      have h2 : cell ns k = 0 := by
        unfold cell
        rw [List.getD_eq_getElem?_getD, List.getElem?_eq_none (by omega)]
        rfl
      simp only [retOf, sNil, sThen, sSeq, sRet, sDrop, sSet, sIf, sPar, sUn2, sFor, asL, gSet, forD, fVar, fC, f2, f1, fT, asB, fNotT, fAndT, fOrT, fAndV, fOrV, gNot, gNeg, faNil, faCons, fTup, fLst, fCall, gAbs, gInt, gLen_t2, gLen_seq, gIx_t0, gIx_t1, gI0, gAdd_int, gNe_int, gEq_int, gEq_bl, gEq_tup2, gNe_tup2, gIsi_same, Dl.isInt, Dl.isBool, Dl.isTup, Option.bind_some, Option.map_some, List.map_cons, List.map_nil, List.length_cons, List.length_nil, List.getElem?_cons_zero, List.getElem?_cons_succ, List.set_cons_zero, List.set_cons_succ, List.cons_append, List.nil_append, List.append_nil, Bool.not_true, Bool.not_false, beq_self_eq_true, bdD_none, bdD_some, gIsN, isNon, sSetM, sRetM, sDropM, vI, vName, vShare, vWalk, vNil, vCons, vLst, vTup, vCall, sh_bd, h1, h2]
abbrev s__law_mixed : Stmt := top 24
theorem sc__law_mixed : FnScope ["_law_cell", "_law_k", "_law_number"] ["_law_cell", "_law_k"] (defScope s__law_mixed) := ⟨rfl, rfl, rfl, by decide +kernel, rfl, by decide +kernel, by decide +kernel⟩
theorem ok__law_mixed (F : Fun K "_law_mixed" "_law_mixed" s__law_mixed f fd)    : FnOk P w K mg base CX0 1 f fd ["_law_cell", "_law_k"] (freshSp K 2 (fn S__law_mixed)) := by
  have sc := sc__law_mixed
  refine fresh_ok F sc__law_mixed (fun cdv A outer s H E ds d hr hG hl => ?_)
  obtain ⟨c, k, hk0, hk1, rfl, rfl⟩ := fn_inv hG
  have hown : own (.int (mxd c k)) = true := rfl
  refine ⟨_, (pm_cons (pm_set 2 sc.nd (pv_imm (pd_mod (pd_add (pd_add (pd_add (pd_mulW (pd_var 0) pd_int) (pd_mulW (pd_mulW (pd_var 1) (pd_var 1)) pd_int)) (pd_mulW pd_int (pd_var 1))) pd_int) pd_int)))
      (pm_one (pm_ret (pv_imm (pd_mod (pd_mulW (pd_var 2) (pd_var 2)) pd_int))))), ?_, ?own⟩
  case own => first | rfl | exact hown
  · show retOf ((?f : SD) (startM 3 _)) = _
    have e0 : startM 3 [.int c, .int k] = [some (.int c), some (.int k), none] := rfl
    rw [e0]
    have w1 : CMulW c 48271 := .inr (.inr (by decide))
    have w2 : CMulW k k := .inr (.inl (by omega))
    have w3 : CMulW (k * k) 69621 := .inr (.inr (by decide))
    have w4 : CMulW 7 k := .inr (.inl (by decide))
    obtain ⟨n, hn⟩ : ∃ n, n = (c * 48271 + k * k * 69621 + 7 * k + 11) % 2147483647 := ⟨_, rfl⟩
    have n0 : 0 ≤ n := by rw [hn]; exact Int.emod_nonneg _ (by decide)
    have n1 : n < 2147483647 := by rw [hn]; exact Int.emod_lt_of_pos _ (by decide)
    have w5 : CMulW n n := .inr (.inl (by omega))
    have em : mxd c k = n * n % 2147483629 := by rw [hn]; rfl
    rw [em]
    exact rt_of (st_seq (st_set (v_imm (d := .int n) (by simp only [retOf, sNil, sThen, sSeq, sRet, sDrop, sSet, sIf, sPar, sUn2, sFor, asL, gSet, forD, fVar, fC, f2, f1, fT, asB, fNotT, fAndT, fOrT, fAndV, fOrV, gNot, gNeg, faNil, faCons, fTup, fLst, fCall, gAbs, gInt, gLen_t2, gLen_seq, gIx_t0, gIx_t1, gI0, gAdd_int, gNe_int, gEq_int, gEq_bl, gEq_tup2, gNe_tup2, gIsi_same, Dl.isInt, Dl.isBool, Dl.isTup, Option.bind_some, Option.map_some, List.map_cons, List.map_nil, List.length_cons, List.length_nil, List.getElem?_cons_zero, List.getElem?_cons_succ, List.set_cons_zero, List.set_cons_succ, List.cons_append, List.nil_append, List.append_nil, Bool.not_true, Bool.not_false, beq_self_eq_true, bdD_none, bdD_some, gIsN, isNon, sSetM, sRetM, sDropM, vI, vName, vShare, vWalk, vNil, vCons, vLst, vTup, vCall, sh_bd, gI_pos (C := CMulW) w1, gI_pos (C := CMulW) w2, gI_pos (C := CMulW) w3, gI_pos (C := CMulW) w4, gI_pos (C := fun _ j => 0 < j) (i := c * 48271 + k * k * 69621 + 7 * k + 11) (j := 2147483647) (by decide), hn]))) (st_ret (v_imm (by simp only [retOf, sNil, sThen, sSeq, sRet, sDrop, sSet, sIf, sPar, sUn2, sFor, asL, gSet, forD, fVar, fC, f2, f1, fT, asB, fNotT, fAndT, fOrT, fAndV, fOrV, gNot, gNeg, faNil, faCons, fTup, fLst, fCall, gAbs, gInt, gLen_t2, gLen_seq, gIx_t0, gIx_t1, gI0, gAdd_int, gNe_int, gEq_int, gEq_bl, gEq_tup2, gNe_tup2, gIsi_same, Dl.isInt, Dl.isBool, Dl.isTup, Option.bind_some, Option.map_some, List.map_cons, List.map_nil, List.length_cons, List.length_nil, List.getElem?_cons_zero, List.getElem?_cons_succ, List.set_cons_zero, List.set_cons_succ, List.cons_append, List.nil_append, List.append_nil, Bool.not_true, Bool.not_false, beq_self_eq_true, bdD_none, bdD_some, gIsN, isNon, sSetM, sRetM, sDropM, vI, vName, vShare, vWalk, vNil, vCons, vLst, vTup, vCall, sh_bd, gI_pos (C := CMulW) w5, gI_pos (C := fun _ j => 0 < j) (i := n * n) (j := 2147483629) (by decide)]))))
abbrev s__law_lowest : Stmt := top 25
theorem sc__law_lowest : FnScope ["_law_top", "_law_bottom", "_law_one", "_law_other"] ["_law_top", "_law_bottom"] (defScope s__law_lowest) := ⟨rfl, rfl, rfl, by decide +kernel, rfl, by decide +kernel, by decide +kernel⟩
def llC : FT := fT (f2 gGt (fVar 3) (fC (.int 0)))
def llS : SD := sPar 2 3 (faCons (fVar 3) (faCons (f2 (gI (fun _ j => 0 < j) fun i j => .int (i % j)) (fVar 2) (fVar 3)) faNil))
theorem ll_loop : ∀ (n : Nat) (x y : Int) (u v : Option D), 0 ≤ y → (y = 0 → 0 ≤ x) → y.toNat < n → sWhile n llC llS [u, v, some (.int x), some (.int y)] = some (.nx [u, v, some (.int (gc x y)), some (.int 0)])
  | 0, x, y, u, v, h0, h1, h2 => by omega
  | n + 1, x, y, u, v, h0, h1, h2 => by
    by_cases h : y = 0
    · subst h
      rw [gc_zero (h1 rfl)]
      rfl
    · have hy : 0 < y := by omega
      have hc : llC [u, v, some (.int x), some (.int y)] = some true := by
        show some (decide (y > 0)) = some true
        rw [decide_eq_true hy]
      have hs : llS [u, v, some (.int x), some (.int y)] = some (.nx [u, v, some (.int y), some (.int (x % y))]) := by
        unfold llS
        simp only [retOf, sNil, sThen, sSeq, sRet, sDrop, sSet, sIf, sPar, sUn2, sFor, asL, gSet, forD, fVar, fC, f2, f1, fT, asB, fNotT, fAndT, fOrT, fAndV, fOrV, gNot, gNeg, faNil, faCons, fTup, fLst, fCall, gAbs, gInt, gLen_t2, gLen_seq, gIx_t0, gIx_t1, gI0, gAdd_int, gNe_int, gEq_int, gEq_bl, gEq_tup2, gNe_tup2, gIsi_same, Dl.isInt, Dl.isBool, Dl.isTup, Option.bind_some, Option.map_some, List.map_cons, List.map_nil, List.length_cons, List.length_nil, List.getElem?_cons_zero, List.getElem?_cons_succ, List.set_cons_zero, List.set_cons_succ, List.cons_append, List.nil_append, List.append_nil, Bool.not_true, Bool.not_false, beq_self_eq_true, bdD_none, bdD_some, gIsN, isNon, sSetM, sRetM, sDropM, vI, vName, vShare, vWalk, vNil, vCons, vLst, vTup, vCall, sh_bd, gI_pos (C := fun _ j => 0 < j) (i := x) hy]
      have ih := ll_loop n y (x % y) u v (Int.emod_nonneg x h) (fun _ => h0) (by have := Int.emod_lt_of_pos x hy; omega)
      rw [gc_step] at ih
      rw [sWhile_t hc hs]
      exact ih
theorem ok__law_lowest (F : Fun K "_law_lowest" "_law_lowest" s__law_lowest f fd)   (m_abs : mg "abs" = none) : FnOk P w K mg base CX0 1 f fd ["_law_top", "_law_bottom"] (pureSp K 2 (fn S__law_lowest)) := by
  have sc := sc__law_lowest
  refine pure_ok F sc__law_lowest (fun cdv A outer s H E ds d hr hG hl => ?_)
  obtain ⟨t, b, hb, hB, rfl, rfl⟩ := fn_inv hG
  refine ⟨_, (psd_cons (psd_set 2 sc.nd (pd_callB call_abs cd_abs rfl m_abs PyProof.Rows.boot_abs (pad_cons (pd_var 0) pad_nil)))
      (psd_cons (psd_set 3 sc.nd (pd_var 1))
      (psd_cons (psd_while (b.toNat + 1) PassesOwn.never (ptd_gt (pd_var 3) pd_int)
        (psd_one (psd_par 2 3 rfl sc.nd (pad_cons (pd_var 3) (pad_cons (pd_mod (pd_var 2) (pd_var 3)) pad_nil)))))
      (psd_one (psd_ret (pd_tup (pad_cons (pd_fdiv (pd_var 0) (pd_var 2)) (pad_cons (pd_fdiv (pd_var 1) (pd_var 2)) pad_nil)))))))), ?_⟩
  · show retOf ((?f : SD) [some _, some _, none, none]) = _
    have hg := gc_pos (t := t) hb
    have hgB : Bd (gc t b) := bd_le (by omega) (gc_le (t := t) hb) hB
    have ho := ll_loop (b.toNat + 1) (t.natAbs : Int) b (some (.int t)) (some (.int b)) (by omega) (by omega) (by omega)
    rw [gc_abs] at ho
    refine rt_of (st_seq (st_setD (d := .int (t.natAbs : Int)) rfl) (st_seq (st_setD (d := .int b) rfl) (st_seq ho (st_retD (d := fr (rd t b)) ?_))))
    simp only [retOf, sNil, sThen, sSeq, sRet, sDrop, sSet, sIf, sPar, sUn2, sFor, asL, gSet, forD, fVar, fC, f2, f1, fT, asB, fNotT, fAndT, fOrT, fAndV, fOrV, gNot, gNeg, faNil, faCons, fTup, fLst, fCall, gAbs, gInt, gLen_t2, gLen_seq, gIx_t0, gIx_t1, gI0, gAdd_int, gNe_int, gEq_int, gEq_bl, gEq_tup2, gNe_tup2, gIsi_same, Dl.isInt, Dl.isBool, Dl.isTup, Option.bind_some, Option.map_some, List.map_cons, List.map_nil, List.length_cons, List.length_nil, List.getElem?_cons_zero, List.getElem?_cons_succ, List.set_cons_zero, List.set_cons_succ, List.cons_append, List.nil_append, List.append_nil, Bool.not_true, Bool.not_false, beq_self_eq_true, bdD_none, bdD_some, gIsN, isNon, sSetM, sRetM, sDropM, vI, vName, vShare, vWalk, vNil, vCons, vLst, vTup, vCall, sh_bd, gI_pos (C := CDivB) (i := t) ⟨hg, hgB⟩, gI_pos (C := CDivB) (i := b) ⟨hg, hgB⟩]
    rfl
abbrev s__law_less : Stmt := top 26
theorem sc__law_less : FnScope ["_law_one", "_law_other"] ["_law_one", "_law_other"] (defScope s__law_less) := ⟨rfl, rfl, rfl, by decide +kernel, rfl, by decide +kernel, by decide +kernel⟩
theorem ok__law_less (F : Fun K "_law_less" "_law_less" s__law_less f fd)    : FnOk P w K mg base CX0 1 f fd ["_law_one", "_law_other"] (pureSp K 2 (fn S__law_less)) := by
  have sc := sc__law_less
  refine pure_ok F sc__law_less (fun cdv A outer s H E ds d hr hG hl => ?_)
  obtain ⟨⟨a, b⟩, ⟨c, e⟩, hp, hq, rfl, rfl⟩ := fn_inv hG
  refine ⟨_, (psd_one (psd_ret (pd_tup (pad_cons (pd_sub (pd_mul (pd_ix (pd_var 0) pd_int) (pd_ix (pd_var 1) pd_int)) (pd_mul (pd_ix (pd_var 1) pd_int) (pd_ix (pd_var 0) pd_int))) (pad_cons (pd_mul (pd_ix (pd_var 0) pd_int) (pd_ix (pd_var 1) pd_int)) pad_nil))))), ?_⟩
  · show retOf ((?f : SD) [some _, some _]) = _
    simp only [retOf, sNil, sThen, sSeq, sRet, sDrop, sSet, sIf, sPar, sUn2, sFor, asL, gSet, forD, fVar, fC, f2, f1, fT, asB, fNotT, fAndT, fOrT, fAndV, fOrV, gNot, gNeg, faNil, faCons, fTup, fLst, fCall, gAbs, gInt, gLen_t2, gLen_seq, gIx_t0, gIx_t1, gI0, gAdd_int, gNe_int, gEq_int, gEq_bl, gEq_tup2, gNe_tup2, gIsi_same, Dl.isInt, Dl.isBool, Dl.isTup, Option.bind_some, Option.map_some, List.map_cons, List.map_nil, List.length_cons, List.length_nil, List.getElem?_cons_zero, List.getElem?_cons_succ, List.set_cons_zero, List.set_cons_succ, List.cons_append, List.nil_append, List.append_nil, Bool.not_true, Bool.not_false, beq_self_eq_true, bdD_none, bdD_some, gIsN, isNon, sSetM, sRetM, sDropM, vI, vName, vShare, vWalk, vNil, vCons, vLst, vTup, vCall, sh_bd, gI_pos (C := CMulB) (i := a) (j := e) ⟨hp.s1.bd, hq.s2.bd⟩, gI_pos (C := CMulB) (i := c) (j := b) ⟨hq.s1.bd, hp.s2.bd⟩, gI_pos (C := CMulB) (i := b) (j := e) ⟨hp.s2.bd, hq.s2.bd⟩]
    rfl
abbrev s__law_whole : Stmt := top 31
theorem sc__law_whole : FnScope ["_law_found"] ["_law_found"] (defScope s__law_whole) := ⟨rfl, rfl, rfl, by decide +kernel, rfl, by decide +kernel, by decide +kernel⟩
theorem ok__law_whole (F : Fun K "_law_whole" "_law_whole" s__law_whole f fd)   (m_isinstance : mg "isinstance" = none) (m_int : mg "int" = none) (m_bool : mg "bool" = none) : FnOk P w K mg base CX0 1 f fd ["_law_found"] (pureSp K 1 (fn S__law_whole)) := by
  have sc := sc__law_whole
  refine pure_ok F sc__law_whole (fun cdv A outer s H E ds d hr hG hl => ?_)
  obtain ⟨x, b, h, rfl, rfl⟩ := fn_inv hG
  refine ⟨_, (psd_one (psd_ret (pd_and (pd_callB call_isi (cd_isi ok_isInt) rfl m_isinstance boot_isinstance (pad_cons (pd_var 0) (pad_cons (pd_ty rfl m_int boot_int) pad_nil))) (pd_one (pd_not (pd_callB call_isi (cd_isi ok_isBool) rfl m_isinstance boot_isinstance (pad_cons (pd_var 0) (pad_cons (pd_ty rfl m_bool boot_bool) pad_nil)))))))), ?_⟩
  · show retOf ((?f : SD) [some _]) = _
    cases x <;> simp [gWhole] at h <;> subst h <;> rfl
abbrev s__law_sum : Stmt := top 32
theorem sc__law_sum : FnScope ["_law_one", "_law_other"] ["_law_one", "_law_other"] (defScope s__law_sum) := ⟨rfl, rfl, rfl, by decide +kernel, rfl, by decide +kernel, by decide +kernel⟩
theorem ok__law_sum (F : Fun K "_law_sum" "_law_sum" s__law_sum f fd)    : FnOk P w K mg base CX0 1 f fd ["_law_one", "_law_other"] (pureSp K 2 (fn S__law_sum)) := by
  have sc := sc__law_sum
  refine pure_ok F sc__law_sum (fun cdv A outer s H E ds d hr hG hl => ?_)
  obtain ⟨a, b, rfl, rfl⟩ := fn_inv hG
  refine ⟨_, (psd_cons (psd_if (PWD.pt (pwd_or (ptd_isN (pd_var 0) pd_non) (pwd_or1 (ptd_isN (pd_var 1) pd_non)))) (psd_one (psd_ret pd_non)) psd_nil)
      (psd_one (psd_ret (pd_tup (pad_cons (pd_add (pd_ix (pd_var 0) pd_int) (pd_ix (pd_var 1) pd_int)) (pad_cons (pd_or (pd_ix (pd_var 0) pd_int) (pd_one (pd_ix (pd_var 1) pd_int))) pad_nil)))))), ?_⟩
  · show retOf ((?f : SD) [some _, some _]) = _
    rcases a with _ | ⟨n, s⟩
    · rfl
    rcases b with _ | ⟨m, t⟩
    · rfl
    show retOf _ = some (.tup [.int (n + m), .bl (s || t)])
    cases s <;> rfl
abbrev s__law_tighter : Stmt := top 33
theorem sc__law_tighter : FnScope ["_law_one", "_law_other"] ["_law_one", "_law_other"] (defScope s__law_tighter) := ⟨rfl, rfl, rfl, by decide +kernel, rfl, by decide +kernel, by decide +kernel⟩
theorem ok__law_tighter (F : Fun K "_law_tighter" "_law_tighter" s__law_tighter f fd)    : FnOk P w K mg base CX0 1 f fd ["_law_one", "_law_other"] (pureSp K 2 (fn S__law_tighter)) := by
  have sc := sc__law_tighter
  refine pure_ok F sc__law_tighter (fun cdv A outer s H E ds d hr hG hl => ?_)
  obtain ⟨a, b, rfl, rfl⟩ := fn_inv hG
  refine ⟨_, (psd_cons (psd_if (ptd_isN (pd_var 0) pd_non) (psd_one (psd_ret pd_bl)) psd_nil)
      (psd_one (psd_ret (pd_or (pd_isN (pd_var 1) pd_non) (pd_or (pd_lt (pd_ix (pd_var 0) pd_int) (pd_ix (pd_var 1) pd_int)) (pd_one (pd_and (pd_eq hr.units0 (pd_ix (pd_var 0) pd_int) (pd_ix (pd_var 1) pd_int)) (pd_and (pd_ix (pd_var 0) pd_int) (pd_one (pd_not (pd_ix (pd_var 1) pd_int))))))))))), ?_⟩
  · show retOf ((?f : SD) [some _, some _]) = _
    rcases a with _ | ⟨n, s⟩
    · rfl
    rcases b with _ | ⟨m, t⟩
    · rfl
    rw [tgt_ss]
    by_cases h : n = m
    · subst h
      have h1 : decide (n < n) = false := by simp
      rw [if_pos rfl]
      cases s <;> simp only [retOf, sNil, sThen, sSeq, sRet, sDrop, sSet, sIf, sPar, sUn2, sFor, asL, gSet, forD, fVar, fC, f2, f1, fT, asB, fNotT, fAndT, fOrT, fAndV, fOrV, gNot, gNeg, faNil, faCons, fTup, fLst, fCall, gAbs, gInt, gLen_t2, gLen_seq, gIx_t0, gIx_t1, gI0, gAdd_int, gNe_int, gEq_int, gEq_bl, gEq_tup2, gNe_tup2, gIsi_same, Dl.isInt, Dl.isBool, Dl.isTup, Option.bind_some, Option.map_some, List.map_cons, List.map_nil, List.length_cons, List.length_nil, List.getElem?_cons_zero, List.getElem?_cons_succ, List.set_cons_zero, List.set_cons_succ, List.cons_append, List.nil_append, List.append_nil, Bool.not_true, Bool.not_false, beq_self_eq_true, bdD_none, bdD_some, gIsN, isNon, sSetM, sRetM, sDropM, vI, vName, vShare, vWalk, vNil, vCons, vLst, vTup, vCall, sh_bd, gLt, h1] <;> rfl
    · rw [if_neg h]
      have h0 : (n == m) = false := by simp [h]
      cases q : decide (n < m) with
      | true => simp only [retOf, sNil, sThen, sSeq, sRet, sDrop, sSet, sIf, sPar, sUn2, sFor, asL, gSet, forD, fVar, fC, f2, f1, fT, asB, fNotT, fAndT, fOrT, fAndV, fOrV, gNot, gNeg, faNil, faCons, fTup, fLst, fCall, gAbs, gInt, gLen_t2, gLen_seq, gIx_t0, gIx_t1, gI0, gAdd_int, gNe_int, gEq_int, gEq_bl, gEq_tup2, gNe_tup2, gIsi_same, Dl.isInt, Dl.isBool, Dl.isTup, Option.bind_some, Option.map_some, List.map_cons, List.map_nil, List.length_cons, List.length_nil, List.getElem?_cons_zero, List.getElem?_cons_succ, List.set_cons_zero, List.set_cons_succ, List.cons_append, List.nil_append, List.append_nil, Bool.not_true, Bool.not_false, beq_self_eq_true, bdD_none, bdD_some, gIsN, isNon, sSetM, sRetM, sDropM, vI, vName, vShare, vWalk, vNil, vCons, vLst, vTup, vCall, sh_bd, gLt, q]
      | false => simp only [retOf, sNil, sThen, sSeq, sRet, sDrop, sSet, sIf, sPar, sUn2, sFor, asL, gSet, forD, fVar, fC, f2, f1, fT, asB, fNotT, fAndT, fOrT, fAndV, fOrV, gNot, gNeg, faNil, faCons, fTup, fLst, fCall, gAbs, gInt, gLen_t2, gLen_seq, gIx_t0, gIx_t1, gI0, gAdd_int, gNe_int, gEq_int, gEq_bl, gEq_tup2, gNe_tup2, gIsi_same, Dl.isInt, Dl.isBool, Dl.isTup, Option.bind_some, Option.map_some, List.map_cons, List.map_nil, List.length_cons, List.length_nil, List.getElem?_cons_zero, List.getElem?_cons_succ, List.set_cons_zero, List.set_cons_succ, List.cons_append, List.nil_append, List.append_nil, Bool.not_true, Bool.not_false, beq_self_eq_true, bdD_none, bdD_some, gIsN, isNon, sSetM, sRetM, sDropM, vI, vName, vShare, vWalk, vNil, vCons, vLst, vTup, vCall, sh_bd, gLt, q, h0]
abbrev s_lowest : Stmt := top 7
theorem sc_lowest : FnScope ["top", "bottom", "divisor"] ["top", "bottom"] (defScope s_lowest) := ⟨rfl, rfl, rfl, by decide +kernel, rfl, by decide +kernel, by decide +kernel⟩
theorem ok_lowest (F : Fun K "lowest" "lowest" s_lowest f fd) (hcommon_divisor : Has P w K mg base 1 "common_divisor" ["number", "above_nought"] (fn S_common_divisor))   : FnOk P w K mg base CX0 2 f fd ["top", "bottom"] (pureSp K 2 (fn S_lowest)) := by
  have sc := sc_lowest
  refine pure_ok F sc_lowest (fun cdv A outer s H E ds d hr hG hl => ?_)
  obtain ⟨t, b, hb, hB, rfl, rfl⟩ := fn_inv hG
  refine ⟨_, (psd_cons (psd_set 2 sc.nd (pd_callH hcommon_divisor hr (pad_cons (pd_var 0) (pad_cons (pd_var 1) pad_nil))))
      (psd_one (psd_ret (pd_tup (pad_cons (pd_fdiv (pd_var 0) (pd_var 2)) (pad_cons (pd_fdiv (pd_var 1) (pd_var 2)) pad_nil)))))), ?_⟩
  · show retOf ((?f : SD) [some _, some _, none]) = _
    have hg := gc_pos (t := t) hb
    have hgB : Bd (gc t b) := bd_le (by omega) (gc_le (t := t) hb) hB
    simp only [retOf, sNil, sThen, sSeq, sRet, sDrop, sSet, sIf, sPar, sUn2, sFor, asL, gSet, forD, fVar, fC, f2, f1, fT, asB, fNotT, fAndT, fOrT, fAndV, fOrV, gNot, gNeg, faNil, faCons, fTup, fLst, fCall, gAbs, gInt, gLen_t2, gLen_seq, gIx_t0, gIx_t1, gI0, gAdd_int, gNe_int, gEq_int, gEq_bl, gEq_tup2, gNe_tup2, gIsi_same, Dl.isInt, Dl.isBool, Dl.isTup, Option.bind_some, Option.map_some, List.map_cons, List.map_nil, List.length_cons, List.length_nil, List.getElem?_cons_zero, List.getElem?_cons_succ, List.set_cons_zero, List.set_cons_succ, List.cons_append, List.nil_append, List.append_nil, Bool.not_true, Bool.not_false, beq_self_eq_true, bdD_none, bdD_some, gIsN, isNon, sSetM, sRetM, sDropM, vI, vName, vShare, vWalk, vNil, vCons, vLst, vTup, vCall, sh_bd, e_common_divisor (a := t) hb, gI_pos (C := CDivB) (i := t) ⟨hg, hgB⟩, gI_pos (C := CDivB) (i := b) ⟨hg, hgB⟩]
    rfl
abbrev s_with_noughts : Stmt := top 18
theorem sc_with_noughts : FnScope ["table", "bounds", "thing"] ["table"] (defScope s_with_noughts) := ⟨rfl, rfl, rfl, by decide +kernel, rfl, by decide +kernel, by decide +kernel⟩
theorem ok_with_noughts (F : Fun K "with_noughts" "with_noughts" s_with_noughts f fd) (hcopied : HasF P w K mg base 1 "copied" ["table"] (fn S_copied))  (m_range : mg "range" = none) (m_len : mg "len" = none) : FnOk P w K mg base CX0 2 f fd ["table"] (freshSp K 1 (fn S_with_noughts)) := by
  have sc := sc_with_noughts
  refine fresh_ok F sc_with_noughts (fun cdv A outer s H E ds d hr hG hl => ?_)
  obtain ⟨d0, T, n, hT, hs, hn, rfl, rfl⟩ := fn_inv hG
  have hown := own_ownD (tabF n (cz T))
  refine ⟨_, (pm_cons (pm_set 1 sc.nd (pv_call hcopied hr (pad_cons (pd_var 0) pad_nil)))
      (pm_cons (pm_for 2 sc.nd PassesOwn.never rfl (pim_range1 rfl m_range (pad_cons (pd_callB call_len_seq cd_len rfl m_len PySem.boot_len (pad_cons (pd_var 0) pad_nil)) pad_nil))
        (pm_one (pm_put2 1 (pv_imm (pd_tup (pad_cons pd_int (pad_cons pd_bl pad_nil)))) (pg_sub (pe_ix ix_list (pvi 1) (pd_var 2) (fun _ _ => rfl)) (pd_var 2) set_list))))
      (pm_one (pm_ret (pv_name 1))))), ?_, ?own⟩
  case own => first | rfl | exact hown
  · show retOf ((?f : SD) (startM 3 _)) = _
    have e0 : startM 3 [d0] = [some (tabD T), none, none] := by
      show [some (sh d0), none, none] = _
      rw [show sh d0 = tabD T from hT]
    rw [e0]
    have len : gLen [tabD T] = some (.int (n : Int)) := len_tab hs
    have hv := fun o1 o2 : Option D => v_range (g := faCons (fCall gLen (faCons (fVar 0) faNil)) faNil) (δ := [some (tabD T), o1, o2]) (n := n) (by simp only [retOf, sNil, sThen, sSeq, sRet, sDrop, sSet, sIf, sPar, sUn2, sFor, asL, gSet, forD, fVar, fC, f2, f1, fT, asB, fNotT, fAndT, fOrT, fAndV, fOrV, gNot, gNeg, faNil, faCons, fTup, fLst, fCall, gAbs, gInt, gLen_t2, gLen_seq, gIx_t0, gIx_t1, gI0, gAdd_int, gNe_int, gEq_int, gEq_bl, gEq_tup2, gNe_tup2, gIsi_same, Dl.isInt, Dl.isBool, Dl.isTup, Option.bind_some, Option.map_some, List.map_cons, List.map_nil, List.length_cons, List.length_nil, List.getElem?_cons_zero, List.getElem?_cons_succ, List.set_cons_zero, List.set_cons_succ, List.cons_append, List.nil_append, List.append_nil, Bool.not_true, Bool.not_false, beq_self_eq_true, bdD_none, bdD_some, gIsN, isNon, sSetM, sRetM, sDropM, vI, vName, vShare, vWalk, vNil, vCons, vLst, vTup, vCall, sh_bd, len]) (by omega)
    obtain ⟨_, w, o, rfl⟩ := forM_pre (i := 2) (s := ((sPut2 1 (fVar 2) (fVar 2) (vI (fTup (faCons (fC (.int 0)) (faCons (fC (.bl false)) faNil))))))) (f := fun (i : Nat) => D.int (i : Int)) (fun pre δ => ∃ o, δ = [some (tabD T), some (ownD (tabF n fun i j => if i = j ∧ i < pre.length then b0 else cellT T i j)), o]) (List.range n) (by
      rintro pre x post _ hx ⟨o, rfl⟩
      obtain ⟨rfl, hl⟩ := range_at hx
      refine ⟨_, sPut2_v (b := b0) (tabF_sq n _) hl hl (v_imm (d := bdD b0) rfl (imm_bd b0)) rfl rfl rfl, some (.int (pre.length : Int)), ?_⟩
      rw [set2_tabF _ _ hl hl]
      have e : tabF n (up2 (fun i j => if i = j ∧ i < pre.length then b0 else cellT T i j) pre.length pre.length b0) = tabF n fun i j => if i = j ∧ i < (pre ++ [pre.length]).length then b0 else cellT T i j := tabF_congr fun i j hi hj => by
        unfold up2
        rw [List.length_append, List.length_singleton]
        by_cases a : i = pre.length ∧ j = pre.length
        · rw [if_pos a, if_pos ⟨by omega, by omega⟩]
        · rw [if_neg a]
          dsimp only
          by_cases b : i = j ∧ i < pre.length
          · rw [if_pos b, if_pos ⟨b.1, by omega⟩]
          · rw [if_neg b, if_neg fun z => ?_]
            by_cases q : i < pre.length
            · exact b ⟨z.1, q⟩
            · exact a ⟨by omega, by omega⟩
      rw [e]
      rfl) (List.range n) [] [some (tabD T), some (ownD T), none] rfl ⟨none, by
        have e : tabF n (fun i j => if i = j ∧ i < ([] : List Nat).length then b0 else cellT T i j) = T := (tabF_congr fun i j _ _ => if_neg fun z => by have := z.2; simp at this).trans (tabF_of hs)
        rw [e]⟩
    have e : tabF n (fun i j => if i = j ∧ i < (List.range n).length then b0 else cellT T i j) = tabF n (cz T) := tabF_congr fun i j hi hj => by
      unfold cz
      rw [List.length_range]
      by_cases a : i = j
      · rw [if_pos a, if_pos ⟨a, hi⟩]
      · rw [if_neg a, if_neg fun z => a z.1]
    rw [e] at w
    exact rt_of (st_seq (st_set (v_call (ds := [tabD T]) rfl (e_copied (isT_tab T) hs hn) (own_ownD T))) (st_seq (st_for (hv _ _) w) (st_ret (v_move rfl))))
abbrev s_lead_through : Stmt := top 21
theorem sc_lead_through : FnScope ["bounds", "ways", "middle", "i", "j", "total"] ["bounds", "ways", "middle"] (defScope s_lead_through) := ⟨rfl, rfl, rfl, by decide +kernel, rfl, by decide +kernel, by decide +kernel⟩
theorem ok_lead_through (F : Fun K "lead_through" "lead_through" s_lead_through f fd) (hbound_sum : Has P w K mg base 1 "bound_sum" ["one", "other"] (fn S_bound_sum)) (htighter : Has P w K mg base 1 "tighter" ["one", "other"] (fn S_tighter))  (m_range : mg "range" = none) (m_len : mg "len" = none) : FnOk P w K mg base CX0 2 f fd ["bounds", "ways", "middle"] (mutSp K 3 (fnM S_lead_through)) := by
  have sc := sc_lead_through
  refine mut_ok F sc_lead_through (fun cdv A outer s H E Z d0 d1 es d0' d1' hr zk hG => ?_)
  obtain ⟨n, m, f, p, ok, h0, hds, hp⟩ := fnM_inv hG
  injection hds with a1 hds
  injection hds with a2 hds
  subst a1 a2 hds
  cases hp
  refine ⟨_, (pz_one (pz_for 3 zk sc.nd PassesOwn.never rfl (pim_range1 rfl m_range (pad_cons (pd_callB call_len_seq cd_len rfl m_len PySem.boot_len (pad_cons (pd_var 0) pad_nil)) pad_nil))
        (pz_one (pz_for 4 zk sc.nd PassesOwn.never rfl (pim_range1 rfl m_range (pad_cons (pd_callB call_len_seq cd_len rfl m_len PySem.boot_len (pad_cons (pd_var 0) pad_nil)) pad_nil))
          (pz_cons (pz_set 5 zk sc.nd (pv_imm (pd_callH hbound_sum hr (pad_cons (pd_ix (pd_ix (pd_var 0) (pd_var 3)) (pd_var 2)) (pad_cons (pd_ix (pd_ix (pd_var 0) (pd_var 2)) (pd_var 4)) pad_nil)))))
          (pz_one (pz_if (ptd_val (pd_callH htighter hr (pad_cons (pd_var 5) (pad_cons (pd_ix (pd_ix (pd_var 0) (pd_var 3)) (pd_var 4)) pad_nil)))) (pz_cons (pz_put2 0 (pv_name 5) (pg_sub (pe_ix ix_list (pvi 0) (pd_var 3) (fun _ _ => rfl)) (pd_var 4) set_list))
            (pz_one (pz_put2 1 (pv_catS (pd_ix (pd_ix (pd_var 1) (pd_var 3)) (pd_var 2)) (pd_ix (pd_ix (pd_var 1) (pd_var 2)) (pd_var 4))) (pg_sub (pe_ix ix_list (pvi 1) (pd_var 3) (fun _ _ => rfl)) (pd_var 4) set_list)))) pz_nil))))))), ?_⟩
  · show ∃ δ', (?f : SD) (startZ 6 _ _ _) = some (.nx δ') ∧ _
    have hm := ok.mn
    have hn := ok.n41
    have e0 : startZ 6 (ownD (tabF n f)) (.lst (waysO n p)) [.int (m : Int)] = [some (ownD (tabF n f)), some (.lst (waysO n p)), some (.int (m : Int)), none, none, none] := rfl
    rw [e0]
    have row : ∀ j, ldF f m m j = f m j ∧ ldP f p m m j = p m j := fun j => by
      unfold ldF ldP
      rw [h0, b0_bs, tgt_self]
      exact ⟨rfl, rfl⟩
    have col : ∀ i, ldF f m i m = f i m ∧ ldP f p m i m = p i m := fun i => by
      unfold ldF ldP
      rw [h0, bs_zero, tgt_self]
      exact ⟨rfl, rfl⟩
    obtain ⟨g, hg⟩ : ∃ g : Nat → Nat → Nat → Nat → Bn, g = fun i j x y => if x < i ∨ (x = i ∧ y < j) then ldF f m x y else f x y := ⟨_, rfl⟩
    obtain ⟨r, hr'⟩ : ∃ r : Nat → Nat → Nat → Nat → List Nat, r = fun i j x y => if x < i ∨ (x = i ∧ y < j) then ldP f p m x y else p x y := ⟨_, rfl⟩
    have g1 : ∀ i j x, g i j x m = f x m ∧ r i j x m = p x m := fun i j x => by
      rw [hg, hr']
      dsimp only
      split
      · exact col x
      · exact ⟨rfl, rfl⟩
    have g2 : ∀ i j y, g i j m y = f m y ∧ r i j m y = p m y := fun i j y => by
      rw [hg, hr']
      dsimp only
      split
      · exact row y
      · exact ⟨rfl, rfl⟩
    have g3 : ∀ i j, g i j i j = f i j ∧ r i j i j = p i j := fun i j => by
      rw [hg, hr']
      dsimp only
      rw [if_neg (by omega), if_neg (by omega)]
      exact ⟨rfl, rfl⟩
    have lenO := fun i j => len_own (tabF_sq n (g i j))
    have hv := fun i j (o3 o4 o5 : Option D) => v_range (g := faCons (fCall gLen (faCons (fVar 0) faNil)) faNil) (δ := [some (ownD (tabF n (g i j))), some (.lst (waysO n (r i j))), some (.int (m : Int)), o3, o4, o5]) (n := n) (by simp only [retOf, sNil, sThen, sSeq, sRet, sDrop, sSet, sIf, sPar, sUn2, sFor, asL, gSet, forD, fVar, fC, f2, f1, fT, asB, fNotT, fAndT, fOrT, fAndV, fOrV, gNot, gNeg, faNil, faCons, fTup, fLst, fCall, gAbs, gInt, gLen_t2, gLen_seq, gIx_t0, gIx_t1, gI0, gAdd_int, gNe_int, gEq_int, gEq_bl, gEq_tup2, gNe_tup2, gIsi_same, Dl.isInt, Dl.isBool, Dl.isTup, Option.bind_some, Option.map_some, List.map_cons, List.map_nil, List.length_cons, List.length_nil, List.getElem?_cons_zero, List.getElem?_cons_succ, List.set_cons_zero, List.set_cons_succ, List.cons_append, List.nil_append, List.append_nil, Bool.not_true, Bool.not_false, beq_self_eq_true, bdD_none, bdD_some, gIsN, isNon, sSetM, sRetM, sDropM, vI, vName, vShare, vWalk, vNil, vCons, vLst, vTup, vCall, sh_bd, lenO]) (by omega)
    have inn : ∀ (i : Nat), i < n → ∀ o4 o5 : Option D, ∃ δ', Dl.forM 4 ((sSeq (sSetM 5 (vI (fCall (fn S_bound_sum) (faCons (f2 gIx (f2 gIx (fVar 0) (fVar 3)) (fVar 2)) (faCons (f2 gIx (f2 gIx (fVar 0) (fVar 2)) (fVar 4)) faNil))))) (sIf (fT (fCall (fn S_tighter) (faCons (fVar 5) (faCons (f2 gIx (f2 gIx (fVar 0) (fVar 3)) (fVar 4)) faNil)))) (sSeq (sPutG 0 (fVar 3) (fVar 4) (vName 5)) (sPutG 1 (fVar 3) (fVar 4) (vCatS (f2 gIx (f2 gIx (fVar 1) (fVar 3)) (fVar 2)) (f2 gIx (f2 gIx (fVar 1) (fVar 2)) (fVar 4))))) sNil))) ((List.range n).map fun (i : Nat) => D.int (i : Int)) [some (ownD (tabF n (g i 0))), some (.lst (waysO n (r i 0))), some (.int (m : Int)), some (.int (i : Int)), o4, o5] = some (.nx δ') ∧ ∃ o4 o5, δ' = [some (ownD (tabF n (g i n))), some (.lst (waysO n (r i n))), some (.int (m : Int)), some (.int (i : Int)), o4, o5] := fun i hi o4 o5 => by
      have := forM_pre (i := 4) (s := ((sSeq (sSetM 5 (vI (fCall (fn S_bound_sum) (faCons (f2 gIx (f2 gIx (fVar 0) (fVar 3)) (fVar 2)) (faCons (f2 gIx (f2 gIx (fVar 0) (fVar 2)) (fVar 4)) faNil))))) (sIf (fT (fCall (fn S_tighter) (faCons (fVar 5) (faCons (f2 gIx (f2 gIx (fVar 0) (fVar 3)) (fVar 4)) faNil)))) (sSeq (sPutG 0 (fVar 3) (fVar 4) (vName 5)) (sPutG 1 (fVar 3) (fVar 4) (vCatS (f2 gIx (f2 gIx (fVar 1) (fVar 3)) (fVar 2)) (f2 gIx (f2 gIx (fVar 1) (fVar 2)) (fVar 4))))) sNil)))) (f := fun (i : Nat) => D.int (i : Int)) (fun pre δ => ∃ o4 o5, δ = [some (ownD (tabF n (g i pre.length))), some (.lst (waysO n (r i pre.length))), some (.int (m : Int)), some (.int (i : Int)), o4, o5]) (List.range n) (by
        rintro pre x post _ hx ⟨o4, o5, rfl⟩
        obtain ⟨rfl, hj⟩ := range_at hx
        rw [List.length_append, List.length_singleton]
        generalize pre.length = j at *
        obtain ⟨r1, q1, q2, q3, q4, q5⟩ := ix_own (tabF_sq n (g i j)) hi hm
        obtain ⟨r2, u1, u2, u3, u4, u5⟩ := ix_own (tabF_sq n (g i j)) hm hj
        obtain ⟨r3, v1, v2, v3, v4, v5⟩ := ix_own (tabF_sq n (g i j)) hi hj
        rw [cell_tabF _ hi hm, (g1 i j i).1] at q2
        rw [cell_tabF _ hm hj, (g2 i j j).1] at u2
        rw [cell_tabF _ hi hj, (g3 i j).1] at v2
        have s1 : ((sSetM 5 (vI (fCall (fn S_bound_sum) (faCons (f2 gIx (f2 gIx (fVar 0) (fVar 3)) (fVar 2)) (faCons (f2 gIx (f2 gIx (fVar 0) (fVar 2)) (fVar 4)) faNil)))))) [some (ownD (tabF n (g i j))), some (.lst (waysO n (r i j))), some (.int (m : Int)), some (.int (i : Int)), some (.int (j : Int)), o5] = some (.nx [some (ownD (tabF n (g i j))), some (.lst (waysO n (r i j))), some (.int (m : Int)), some (.int (i : Int)), some (.int (j : Int)), some (bdD (bs (f i m) (f m j)))]) := st_setS (v_imm (d := bdD (bs (f i m) (f m j))) (by simp only [retOf, sNil, sThen, sSeq, sRet, sDrop, sSet, sIf, sPar, sUn2, sFor, asL, gSet, forD, fVar, fC, f2, f1, fT, asB, fNotT, fAndT, fOrT, fAndV, fOrV, gNot, gNeg, faNil, faCons, fTup, fLst, fCall, gAbs, gInt, gLen_t2, gLen_seq, gIx_t0, gIx_t1, gI0, gAdd_int, gNe_int, gEq_int, gEq_bl, gEq_tup2, gNe_tup2, gIsi_same, Dl.isInt, Dl.isBool, Dl.isTup, Option.bind_some, Option.map_some, List.map_cons, List.map_nil, List.length_cons, List.length_nil, List.getElem?_cons_zero, List.getElem?_cons_succ, List.set_cons_zero, List.set_cons_succ, List.cons_append, List.nil_append, List.append_nil, Bool.not_true, Bool.not_false, beq_self_eq_true, bdD_none, bdD_some, gIsN, isNon, sSetM, sRetM, sDropM, vI, vName, vShare, vWalk, vNil, vCons, vLst, vTup, vCall, sh_bd, q1, q2, u1, u2, e_bound_sum]) (imm_bd _))
        cases ht : tgt (bs (f i m) (f m j)) (f i j) with
        | false =>
          refine ⟨_, st_seq s1 (st_ifF (by simp only [retOf, sNil, sThen, sSeq, sRet, sDrop, sSet, sIf, sPar, sUn2, sFor, asL, gSet, forD, fVar, fC, f2, f1, fT, asB, fNotT, fAndT, fOrT, fAndV, fOrV, gNot, gNeg, faNil, faCons, fTup, fLst, fCall, gAbs, gInt, gLen_t2, gLen_seq, gIx_t0, gIx_t1, gI0, gAdd_int, gNe_int, gEq_int, gEq_bl, gEq_tup2, gNe_tup2, gIsi_same, Dl.isInt, Dl.isBool, Dl.isTup, Option.bind_some, Option.map_some, List.map_cons, List.map_nil, List.length_cons, List.length_nil, List.getElem?_cons_zero, List.getElem?_cons_succ, List.set_cons_zero, List.set_cons_succ, List.cons_append, List.nil_append, List.append_nil, Bool.not_true, Bool.not_false, beq_self_eq_true, bdD_none, bdD_some, gIsN, isNon, sSetM, sRetM, sDropM, vI, vName, vShare, vWalk, vNil, vCons, vLst, vTup, vCall, sh_bd, v1, v2, e_tighter, ht]) rfl), some (.int (j : Int)), some (bdD (bs (f i m) (f m j))), ?_⟩
          have t1 : tabF n (g i j) = tabF n (g i (j + 1)) := tabF_congr fun x y hx hy => by
            rw [hg]
            dsimp only
            by_cases z : x < i ∨ (x = i ∧ y < j)
            · rw [if_pos z, if_pos (by omega)]
            · rw [if_neg z]
              by_cases z2 : x = i ∧ y = j
              · rw [if_pos (by omega)]
                obtain ⟨rfl, rfl⟩ := z2
                unfold ldF
                rw [ht]
                rfl
              · rw [if_neg (by omega)]
          have t2 : waysO n (r i j) = waysO n (r i (j + 1)) := ways_congr fun x y hx hy => by
            rw [hr']
            dsimp only
            by_cases z : x < i ∨ (x = i ∧ y < j)
            · rw [if_pos z, if_pos (by omega)]
            · rw [if_neg z]
              by_cases z2 : x = i ∧ y = j
              · rw [if_pos (by omega)]
                obtain ⟨rfl, rfl⟩ := z2
                unfold ldP
                rw [ht]
                rfl
              · rw [if_neg (by omega)]
          rw [t1, t2]
        | true =>
          obtain ⟨w1, w2⟩ := ix_waysO (r i j) hi hm
          obtain ⟨w3, w4⟩ := ix_waysO (r i j) hm hj
          rw [(g1 i j i).2] at w2
          rw [(g2 i j j).2] at w4
          have l1 := ok.ln i m hi hm
          have l2 := ok.ln m j hm hj
          have ei : intsD (p i m ++ p m j) = intsD (p i m) ++ intsD (p m j) := List.map_append
          have t1 : set2 (tabF n (g i j)) i j (bs (f i m) (f m j)) = tabF n (g i (j + 1)) := by
            rw [set2_tabF _ _ hi hj]
            refine tabF_congr fun x y hx hy => ?_
            rw [hg]
            unfold up2
            dsimp only
            by_cases z2 : x = i ∧ y = j
            · rw [if_pos z2, if_pos (by omega)]
              obtain ⟨rfl, rfl⟩ := z2
              unfold ldF
              rw [ht]
              rfl
            · rw [if_neg z2]
              by_cases z : x < i ∨ (x = i ∧ y < j)
              · rw [if_pos z, if_pos (by omega)]
              · rw [if_neg z, if_neg (by omega)]
          have t2 : (waysO n (r i j)).set i (.lst ((wrowO n (r i j i)).set j (.lst (intsD (p i m ++ p m j))))) = waysO n (r i (j + 1)) := by
            rw [set_ways _ _ hi hj]
            refine ways_congr fun x y hx hy => ?_
            rw [hr']
            unfold up2
            dsimp only
            by_cases z2 : x = i ∧ y = j
            · rw [if_pos z2, if_pos (by omega)]
              obtain ⟨rfl, rfl⟩ := z2
              unfold ldP
              rw [ht]
              rfl
            · rw [if_neg z2]
              by_cases z : x < i ∨ (x = i ∧ y < j)
              · rw [if_pos z, if_pos (by omega)]
              · rw [if_neg z, if_neg (by omega)]
          have p1 := sPutG_v (δ := [some (ownD (tabF n (g i j))), some (.lst (waysO n (r i j))), some (.int (m : Int)), some (.int (i : Int)), some (.int (j : Int)), some (bdD (bs (f i m) (f m j)))]) (p := 0) (fk := fVar 3) (fl := fVar 4) (fm := vName 5) (v := bdD (bs (f i m) (f m j))) (i := i) (j := j) (vName_bd rfl) rfl rfl v3 rfl (by rw [len_rowD, v4]; exact hj)
          rw [set_rowsO v5, t1] at p1
          have p1' : sPutG 0 (fVar 3) (fVar 4) (vName 5) [some (ownD (tabF n (g i j))), some (.lst (waysO n (r i j))), some (.int (m : Int)), some (.int (i : Int)), some (.int (j : Int)), some (bdD (bs (f i m) (f m j)))] = some (.nx [some (ownD (tabF n (g i (j + 1)))), some (.lst (waysO n (r i j))), some (.int (m : Int)), some (.int (i : Int)), some (.int (j : Int)), some (bdD (bs (f i m) (f m j)))]) := by
            rw [p1]
            unfold ownD
            rfl
          have p2 := sPutG_v (δ := [some (ownD (tabF n (g i (j + 1)))), some (.lst (waysO n (r i j))), some (.int (m : Int)), some (.int (i : Int)), some (.int (j : Int)), some (bdD (bs (f i m) (f m j)))]) (p := 1) (fk := fVar 3) (fl := fVar 4) (fm := vCatS (f2 gIx (f2 gIx (fVar 1) (fVar 3)) (fVar 2)) (f2 gIx (f2 gIx (fVar 1) (fVar 2)) (fVar 4))) (v := .lst (intsD (p i m ++ p m j))) (i := i) (j := j) (by
            rw [ei]
            exact v_catS (a := .lst (intsD (p i m))) (b := .lst (intsD (p m j))) (by simp only [retOf, sNil, sThen, sSeq, sRet, sDrop, sSet, sIf, sPar, sUn2, sFor, asL, gSet, forD, fVar, fC, f2, f1, fT, asB, fNotT, fAndT, fOrT, fAndV, fOrV, gNot, gNeg, faNil, faCons, fTup, fLst, fCall, gAbs, gInt, gLen_t2, gLen_seq, gIx_t0, gIx_t1, gI0, gAdd_int, gNe_int, gEq_int, gEq_bl, gEq_tup2, gNe_tup2, gIsi_same, Dl.isInt, Dl.isBool, Dl.isTup, Option.bind_some, Option.map_some, List.map_cons, List.map_nil, List.length_cons, List.length_nil, List.getElem?_cons_zero, List.getElem?_cons_succ, List.set_cons_zero, List.set_cons_succ, List.cons_append, List.nil_append, List.append_nil, Bool.not_true, Bool.not_false, beq_self_eq_true, bdD_none, bdD_some, gIsN, isNon, sSetM, sRetM, sDropM, vI, vName, vShare, vWalk, vNil, vCons, vLst, vTup, vCall, sh_bd, w1, w2]) (by simp only [retOf, sNil, sThen, sSeq, sRet, sDrop, sSet, sIf, sPar, sUn2, sFor, asL, gSet, forD, fVar, fC, f2, f1, fT, asB, fNotT, fAndT, fOrT, fAndV, fOrV, gNot, gNeg, faNil, faCons, fTup, fLst, fCall, gAbs, gInt, gLen_t2, gLen_seq, gIx_t0, gIx_t1, gI0, gAdd_int, gNe_int, gEq_int, gEq_bl, gEq_tup2, gNe_tup2, gIsi_same, Dl.isInt, Dl.isBool, Dl.isTup, Option.bind_some, Option.map_some, List.map_cons, List.map_nil, List.length_cons, List.length_nil, List.getElem?_cons_zero, List.getElem?_cons_succ, List.set_cons_zero, List.set_cons_succ, List.cons_append, List.nil_append, List.append_nil, Bool.not_true, Bool.not_false, beq_self_eq_true, bdD_none, bdD_some, gIsN, isNon, sSetM, sRetM, sDropM, vI, vName, vShare, vWalk, vNil, vCons, vLst, vTup, vCall, sh_bd, w3, w4]) rfl rfl (by unfold intsD; rw [List.length_map, List.length_map]; omega) (by rw [← ei]; exact imms_intsD _)) rfl rfl (range_map_get _ hi) rfl (by unfold wrowO; rw [List.length_map, List.length_range]; exact hj)
          rw [t2] at p2
          have p2' : sPutG 1 (fVar 3) (fVar 4) (vCatS (f2 gIx (f2 gIx (fVar 1) (fVar 3)) (fVar 2)) (f2 gIx (f2 gIx (fVar 1) (fVar 2)) (fVar 4))) [some (ownD (tabF n (g i (j + 1)))), some (.lst (waysO n (r i j))), some (.int (m : Int)), some (.int (i : Int)), some (.int (j : Int)), some (bdD (bs (f i m) (f m j)))] = some (.nx [some (ownD (tabF n (g i (j + 1)))), some (.lst (waysO n (r i (j + 1)))), some (.int (m : Int)), some (.int (i : Int)), some (.int (j : Int)), some (bdD (bs (f i m) (f m j)))]) := by
            rw [p2]
            rfl
          have cnd : (fT (fCall (fn S_tighter) (faCons (fVar 5) (faCons (f2 gIx (f2 gIx (fVar 0) (fVar 3)) (fVar 4)) faNil)))) [some (ownD (tabF n (g i j))), some (.lst (waysO n (r i j))), some (.int (m : Int)), some (.int (i : Int)), some (.int (j : Int)), some (bdD (bs (f i m) (f m j)))] = some true := by simp only [retOf, sNil, sThen, sSeq, sRet, sDrop, sSet, sIf, sPar, sUn2, sFor, asL, gSet, forD, fVar, fC, f2, f1, fT, asB, fNotT, fAndT, fOrT, fAndV, fOrV, gNot, gNeg, faNil, faCons, fTup, fLst, fCall, gAbs, gInt, gLen_t2, gLen_seq, gIx_t0, gIx_t1, gI0, gAdd_int, gNe_int, gEq_int, gEq_bl, gEq_tup2, gNe_tup2, gIsi_same, Dl.isInt, Dl.isBool, Dl.isTup, Option.bind_some, Option.map_some, List.map_cons, List.map_nil, List.length_cons, List.length_nil, List.getElem?_cons_zero, List.getElem?_cons_succ, List.set_cons_zero, List.set_cons_succ, List.cons_append, List.nil_append, List.append_nil, Bool.not_true, Bool.not_false, beq_self_eq_true, bdD_none, bdD_some, gIsN, isNon, sSetM, sRetM, sDropM, vI, vName, vShare, vWalk, vNil, vCons, vLst, vTup, vCall, sh_bd, v1, v2, e_tighter, ht]
          exact ⟨_, st_seq s1 (st_ifT cnd (st_seq p1' p2')), some (.int (j : Int)), some (bdD (bs (f i m) (f m j))), rfl⟩) (List.range n) [] [some (ownD (tabF n (g i 0))), some (.lst (waysO n (r i 0))), some (.int (m : Int)), some (.int (i : Int)), o4, o5] rfl ⟨_, _, rfl⟩
      rw [List.length_range] at this
      exact this
    have nxt : ∀ i, tabF n (g i n) = tabF n (g (i + 1) 0) ∧ waysO n (r i n) = waysO n (r (i + 1) 0) := fun i => by
      refine ⟨tabF_congr fun x y hx hy => ?_, ways_congr fun x y hx hy => ?_⟩
      · rw [hg]
        dsimp only
        by_cases z : x < i ∨ (x = i ∧ y < n)
        · rw [if_pos z, if_pos (by omega)]
        · rw [if_neg z, if_neg (by omega)]
      · rw [hr']
        dsimp only
        by_cases z : x < i ∨ (x = i ∧ y < n)
        · rw [if_pos z, if_pos (by omega)]
        · rw [if_neg z, if_neg (by omega)]
    obtain ⟨_, w, o3, o4, o5, rfl⟩ := forM_pre (i := 3) (s := ((sForM (vRange (faCons (fCall gLen (faCons (fVar 0) faNil)) faNil)) 4 (sSeq (sSetM 5 (vI (fCall (fn S_bound_sum) (faCons (f2 gIx (f2 gIx (fVar 0) (fVar 3)) (fVar 2)) (faCons (f2 gIx (f2 gIx (fVar 0) (fVar 2)) (fVar 4)) faNil))))) (sIf (fT (fCall (fn S_tighter) (faCons (fVar 5) (faCons (f2 gIx (f2 gIx (fVar 0) (fVar 3)) (fVar 4)) faNil)))) (sSeq (sPutG 0 (fVar 3) (fVar 4) (vName 5)) (sPutG 1 (fVar 3) (fVar 4) (vCatS (f2 gIx (f2 gIx (fVar 1) (fVar 3)) (fVar 2)) (f2 gIx (f2 gIx (fVar 1) (fVar 2)) (fVar 4))))) sNil))))) (f := fun (i : Nat) => D.int (i : Int)) (fun pre δ => ∃ o3 o4 o5, δ = [some (ownD (tabF n (g pre.length 0))), some (.lst (waysO n (r pre.length 0))), some (.int (m : Int)), o3, o4, o5]) (List.range n) (by
      rintro pre x post _ hx ⟨o3, o4, o5, rfl⟩
      obtain ⟨rfl, hi⟩ := range_at hx
      rw [List.length_append, List.length_singleton]
      generalize pre.length = i at *
      obtain ⟨_, f1, o4', o5', rfl⟩ := inn i hi o4 o5
      rw [(nxt i).1, (nxt i).2] at f1
      exact ⟨_, st_for (hv i 0 _ _ _) f1, _, _, _, rfl⟩) (List.range n) [] [some (ownD (tabF n (g 0 0))), some (.lst (waysO n (r 0 0))), some (.int (m : Int)), none, none, none] rfl ⟨_, _, _, rfl⟩
    rw [List.length_range] at w
    have z1 : tabF n (g 0 0) = tabF n f := tabF_congr fun x y hx hy => by rw [hg]; exact if_neg (by omega)
    have z2 : waysO n (r 0 0) = waysO n p := ways_congr fun x y hx hy => by rw [hr']; exact if_neg (by omega)
    have z3 : tabF n (g n 0) = tabF n (ldF f m) := tabF_congr fun x y hx hy => by rw [hg]; exact if_pos (by omega)
    have z4 : waysO n (r n 0) = waysO n (ldP f p m) := ways_congr fun x y hx hy => by rw [hr']; exact if_pos (by omega)
    have hv0 := hv 0 0 none none none
    rw [z1, z2] at w hv0
    rw [z3, z4] at w
    exact ⟨_, st_for hv0 w, rfl, rfl⟩
abbrev s__law_any_table : Stmt := top 27
theorem sc__law_any_table : FnScope ["_law_seed", "_law_k", "_law_most", "_law_cell", "_law_table", "_law_i", "_law_j", "_law_digit", "_law_bound", "_law_drawn"] ["_law_seed", "_law_k", "_law_most"] (defScope s__law_any_table) := ⟨rfl, rfl, rfl, by decide +kernel, rfl, by decide +kernel, by decide +kernel⟩
def S__law_any_table (ds : List D) (d : D) : Prop := retOf (((sSeq (sSetM 3 (vName 0)) (sSeq (sSetM 4 (vLst vNil)) (sSeq (sForM (vRange (faCons (f2 gAdd (fVar 1) (fC (.int 1))) faNil)) 5 (sSeq (sApp 4 (vLst vNil)) (sForM (vRange (faCons (f2 gAdd (fVar 1) (fC (.int 1))) faNil)) 6 (sSeq (sSetM 7 (vI (f2 (gI (fun _ j => 0 < j) fun i j => .int (i % j)) (fVar 3) (f2 gAdd (f2 (gI CMulB fun i j => .int (i * j)) (fC (.int 4)) (fVar 2)) (fC (.int 3)))))) (sSeq (sIf (fT (f2 gIn (fVar 3) (fTup (faCons (fC (.int 0)) (faCons (f1 gNeg (fC (.int 1))) faNil))))) (sSeq (sSetM 9 (vCall (fn S__law_mixed) (faCons (fVar 0) (faCons (f2 gAdd (f2 (gI CMulB fun i j => .int (i * j)) (fC (.int 9)) (fVar 5)) (fVar 6)) faNil)))) (sSetM 7 (vI (f2 gIx (fLst (faCons (fC (.int 0)) (faCons (fC (.int 0)) (faCons (f2 gAdd (fC (.int 1)) (f2 (gI (fun _ j => 0 < j) fun i j => .int (i % j)) (f2 (gI CDivB fun i j => .int (i / j)) (fVar 9) (fC (.int 3))) (f2 gAdd (f2 (gI CMulB fun i j => .int (i * j)) (fC (.int 4)) (fVar 2)) (fC (.int 2))))) faNil)))) (f2 (gI (fun _ j => 0 < j) fun i j => .int (i % j)) (fVar 9) (fC (.int 3))))))) sNil) (sSeq (sSetM 3 (vI (f2 (gI CDivB fun i j => .int (i / j)) (fVar 3) (f2 gAdd (f2 (gI CMulB fun i j => .int (i * j)) (fC (.int 4)) (fVar 2)) (fC (.int 3)))))) (sSeq (sSetM 8 (vI (fC .non))) (sSeq (sIf (fT (f2 gGt (fVar 7) (fC (.int 0)))) (sSetM 8 (vI (fTup (faCons (f2 (gI0 fun i j => .int (i - j)) (f2 (gI CDivB fun i j => .int (i / j)) (f2 (gI0 fun i j => .int (i - j)) (fVar 7) (fC (.int 1))) (fC (.int 2))) (fVar 2)) (faCons (f2 gEqN (f2 (gI (fun _ j => 0 < j) fun i j => .int (i % j)) (fVar 7) (fC (.int 2))) (fC (.int 0))) faNil))))) sNil) (sApp2 4 (fVar 5) (vName 8)))))))))) (sRetM (vName 4)))))) (startM 10 ds)) = some d ∧ own d = true
theorem at_in (seed k most c : Int) (T : List (List Bn)) (r : List Bn) (i j : Nat) (o7 o8 o9 : Option D) (hm0 : 0 ≤ most) (hm1 : most ≤ 10 ^ 55) (hT : T.length = i) (hr : r.length = j) (hi : i ≤ 40) (hj : j ≤ 40) : ∃ (c' : Int) (b : Bn) (p7 p9 : Option D), Bk 1000 b ∧
    ((sSeq (sSetM 7 (vI (f2 (gI (fun _ j => 0 < j) fun i j => .int (i % j)) (fVar 3) (f2 gAdd (f2 (gI CMulB fun i j => .int (i * j)) (fC (.int 4)) (fVar 2)) (fC (.int 3)))))) (sSeq (sIf (fT (f2 gIn (fVar 3) (fTup (faCons (fC (.int 0)) (faCons (f1 gNeg (fC (.int 1))) faNil))))) (sSeq (sSetM 9 (vCall (fn S__law_mixed) (faCons (fVar 0) (faCons (f2 gAdd (f2 (gI CMulB fun i j => .int (i * j)) (fC (.int 9)) (fVar 5)) (fVar 6)) faNil)))) (sSetM 7 (vI (f2 gIx (fLst (faCons (fC (.int 0)) (faCons (fC (.int 0)) (faCons (f2 gAdd (fC (.int 1)) (f2 (gI (fun _ j => 0 < j) fun i j => .int (i % j)) (f2 (gI CDivB fun i j => .int (i / j)) (fVar 9) (fC (.int 3))) (f2 gAdd (f2 (gI CMulB fun i j => .int (i * j)) (fC (.int 4)) (fVar 2)) (fC (.int 2))))) faNil)))) (f2 (gI (fun _ j => 0 < j) fun i j => .int (i % j)) (fVar 9) (fC (.int 3))))))) sNil) (sSeq (sSetM 3 (vI (f2 (gI CDivB fun i j => .int (i / j)) (fVar 3) (f2 gAdd (f2 (gI CMulB fun i j => .int (i * j)) (fC (.int 4)) (fVar 2)) (fC (.int 3)))))) (sSeq (sSetM 8 (vI (fC .non))) (sSeq (sIf (fT (f2 gGt (fVar 7) (fC (.int 0)))) (sSetM 8 (vI (fTup (faCons (f2 (gI0 fun i j => .int (i - j)) (f2 (gI CDivB fun i j => .int (i / j)) (f2 (gI0 fun i j => .int (i - j)) (fVar 7) (fC (.int 1))) (fC (.int 2))) (fVar 2)) (faCons (f2 gEqN (f2 (gI (fun _ j => 0 < j) fun i j => .int (i % j)) (fVar 7) (fC (.int 2))) (fC (.int 0))) faNil))))) sNil) (sApp2 4 (fVar 5) (vName 8)))))))) [some (.int seed), some (.int k), some (.int most), some (.int c), some (.lst (rowsO T ++ [.lst (rowD r)])), some (.int (i : Int)), some (.int (j : Int)), o7, o8, o9] = some (.nx [some (.int seed), some (.int k), some (.int most), some (.int c'), some (.lst (rowsO T ++ [.lst (rowD (r ++ [b]))])), some (.int (i : Int)), some (.int (j : Int)), p7, some (bdD b), p9]) := by
  have m1 : CMulB 4 most := ⟨bd_sm, bd_of (k := 200) (Sm.of (by omega) (by omega))⟩
  have hd : 0 < 4 * most + 3 := by omega
  have hd2 : 0 < 4 * most + 2 := by omega
  have dv : CDivB c (4 * most + 3) := ⟨hd, bd_of (k := 200) (Sm.of (by omega) (by omega))⟩
  have mi9 : CMulB 9 (i : Int) := ⟨bd_sm, bd_sm (by omega)⟩
  have mx := e__law_mixed (c := seed) (k := 9 * (i : Int) + (j : Int)) (by omega) (by omega)
  obtain ⟨w, hw⟩ : ∃ w, w = mxd seed (9 * (i : Int) + (j : Int)) := ⟨_, rfl⟩
  rw [← hw] at mx
  have d3 : CDivB w 3 := ⟨by decide, bd_sm⟩
  have hin : gIn (.int c) (.tup [.int 0, .int (-1)]) = some (.bl (c == 0 || c == -1)) := by
    show some (D.bl ([D.int 0, D.int (-1)].any fun y => eqF y (.int c))) = _
    have e1 : ((0 : Int) == c) = (c == 0) := by rw [Bool.eq_iff_iff, beq_iff_eq, beq_iff_eq]; exact eq_comm
    have e2 : ((-1 : Int) == c) = (c == -1) := by rw [Bool.eq_iff_iff, beq_iff_eq, beq_iff_eq]; exact eq_comm
    show some (D.bl (((0 : Int) == c) || (((-1 : Int) == c) || false))) = _
    rw [e1, e2, Bool.or_false]
  obtain ⟨g, p9, hg0, hg1, hst⟩ : ∃ (g : Int) (p9 : Option D), 0 ≤ g ∧ g ≤ 4 * most + 3 ∧ ((sIf (fT (f2 gIn (fVar 3) (fTup (faCons (fC (.int 0)) (faCons (f1 gNeg (fC (.int 1))) faNil))))) (sSeq (sSetM 9 (vCall (fn S__law_mixed) (faCons (fVar 0) (faCons (f2 gAdd (f2 (gI CMulB fun i j => .int (i * j)) (fC (.int 9)) (fVar 5)) (fVar 6)) faNil)))) (sSetM 7 (vI (f2 gIx (fLst (faCons (fC (.int 0)) (faCons (fC (.int 0)) (faCons (f2 gAdd (fC (.int 1)) (f2 (gI (fun _ j => 0 < j) fun i j => .int (i % j)) (f2 (gI CDivB fun i j => .int (i / j)) (fVar 9) (fC (.int 3))) (f2 gAdd (f2 (gI CMulB fun i j => .int (i * j)) (fC (.int 4)) (fVar 2)) (fC (.int 2))))) faNil)))) (f2 (gI (fun _ j => 0 < j) fun i j => .int (i % j)) (fVar 9) (fC (.int 3))))))) sNil)) [some (.int seed), some (.int k), some (.int most), some (.int c), some (.lst (rowsO T ++ [.lst (rowD r)])), some (.int (i : Int)), some (.int (j : Int)), some (.int (c % (4 * most + 3))), o8, o9] = some (.nx [some (.int seed), some (.int k), some (.int most), some (.int c), some (.lst (rowsO T ++ [.lst (rowD r)])), some (.int (i : Int)), some (.int (j : Int)), some (.int g), o8, p9]) := by
    cases hc : (c == 0 || c == -1) with
    | false =>
      have q0 := Int.emod_nonneg c (show 4 * most + 3 ≠ 0 by omega)
      have q1 := Int.emod_lt_of_pos c hd
      exact ⟨c % (4 * most + 3), o9, q0, by omega, st_ifF (by simp only [retOf, sNil, sThen, sSeq, sRet, sDrop, sSet, sIf, sPar, sUn2, sFor, asL, gSet, forD, fVar, fC, f2, f1, fT, asB, fNotT, fAndT, fOrT, fAndV, fOrV, gNot, gNeg, faNil, faCons, fTup, fLst, fCall, gAbs, gInt, gLen_t2, gLen_seq, gIx_t0, gIx_t1, gI0, gAdd_int, gNe_int, gEq_int, gEq_bl, gEq_tup2, gNe_tup2, gIsi_same, Dl.isInt, Dl.isBool, Dl.isTup, Option.bind_some, Option.map_some, List.map_cons, List.map_nil, List.length_cons, List.length_nil, List.getElem?_cons_zero, List.getElem?_cons_succ, List.set_cons_zero, List.set_cons_succ, List.cons_append, List.nil_append, List.append_nil, Bool.not_true, Bool.not_false, beq_self_eq_true, bdD_none, bdD_some, gIsN, isNon, sSetM, sRetM, sDropM, vI, vName, vShare, vWalk, vNil, vCons, vLst, vTup, vCall, sh_bd, hin, hc]) rfl⟩
    | true =>
      have r0 := Int.emod_nonneg (w / 3) (show 4 * most + 2 ≠ 0 by omega)
      have r1 := Int.emod_lt_of_pos (w / 3) hd2
      have w3 : w % 3 = 0 ∨ w % 3 = 1 ∨ w % 3 = 2 := by omega
      obtain ⟨g, hg0, hg1, hg⟩ : ∃ g : Int, 0 ≤ g ∧ g ≤ 4 * most + 3 ∧ gIx (.lst [.int 0, .int 0, .int (1 + w / 3 % (4 * most + 2))]) (.int (w % 3)) = some (.int g) := by
        rcases w3 with q | q | q
        · exact ⟨0, by omega, by omega, by rw [q]; rfl⟩
        · exact ⟨0, by omega, by omega, by rw [q]; rfl⟩
        · exact ⟨1 + w / 3 % (4 * most + 2), by omega, by omega, by rw [q]; rfl⟩
      exact ⟨g, some (.int w), hg0, hg1, st_ifT (by simp only [retOf, sNil, sThen, sSeq, sRet, sDrop, sSet, sIf, sPar, sUn2, sFor, asL, gSet, forD, fVar, fC, f2, f1, fT, asB, fNotT, fAndT, fOrT, fAndV, fOrV, gNot, gNeg, faNil, faCons, fTup, fLst, fCall, gAbs, gInt, gLen_t2, gLen_seq, gIx_t0, gIx_t1, gI0, gAdd_int, gNe_int, gEq_int, gEq_bl, gEq_tup2, gNe_tup2, gIsi_same, Dl.isInt, Dl.isBool, Dl.isTup, Option.bind_some, Option.map_some, List.map_cons, List.map_nil, List.length_cons, List.length_nil, List.getElem?_cons_zero, List.getElem?_cons_succ, List.set_cons_zero, List.set_cons_succ, List.cons_append, List.nil_append, List.append_nil, Bool.not_true, Bool.not_false, beq_self_eq_true, bdD_none, bdD_some, gIsN, isNon, sSetM, sRetM, sDropM, vI, vName, vShare, vWalk, vNil, vCons, vLst, vTup, vCall, sh_bd, hin, hc]) (st_seq (st_set (v_call (ds := [.int seed, .int (9 * (i : Int) + (j : Int))]) (by simp only [retOf, sNil, sThen, sSeq, sRet, sDrop, sSet, sIf, sPar, sUn2, sFor, asL, gSet, forD, fVar, fC, f2, f1, fT, asB, fNotT, fAndT, fOrT, fAndV, fOrV, gNot, gNeg, faNil, faCons, fTup, fLst, fCall, gAbs, gInt, gLen_t2, gLen_seq, gIx_t0, gIx_t1, gI0, gAdd_int, gNe_int, gEq_int, gEq_bl, gEq_tup2, gNe_tup2, gIsi_same, Dl.isInt, Dl.isBool, Dl.isTup, Option.bind_some, Option.map_some, List.map_cons, List.map_nil, List.length_cons, List.length_nil, List.getElem?_cons_zero, List.getElem?_cons_succ, List.set_cons_zero, List.set_cons_succ, List.cons_append, List.nil_append, List.append_nil, Bool.not_true, Bool.not_false, beq_self_eq_true, bdD_none, bdD_some, gIsN, isNon, sSetM, sRetM, sDropM, vI, vName, vShare, vWalk, vNil, vCons, vLst, vTup, vCall, sh_bd, gI_pos (C := CMulB) mi9]) mx rfl)) (st_set (v_imm (d := .int g) (by simp only [retOf, sNil, sThen, sSeq, sRet, sDrop, sSet, sIf, sPar, sUn2, sFor, asL, gSet, forD, fVar, fC, f2, f1, fT, asB, fNotT, fAndT, fOrT, fAndV, fOrV, gNot, gNeg, faNil, faCons, fTup, fLst, fCall, gAbs, gInt, gLen_t2, gLen_seq, gIx_t0, gIx_t1, gI0, gAdd_int, gNe_int, gEq_int, gEq_bl, gEq_tup2, gNe_tup2, gIsi_same, Dl.isInt, Dl.isBool, Dl.isTup, Option.bind_some, Option.map_some, List.map_cons, List.map_nil, List.length_cons, List.length_nil, List.getElem?_cons_zero, List.getElem?_cons_succ, List.set_cons_zero, List.set_cons_succ, List.cons_append, List.nil_append, List.append_nil, Bool.not_true, Bool.not_false, beq_self_eq_true, bdD_none, bdD_some, gIsN, isNon, sSetM, sRetM, sDropM, vI, vName, vShare, vWalk, vNil, vCons, vLst, vTup, vCall, sh_bd, gI_pos (C := CDivB) d3, gI_pos (C := CMulB) m1, gI_pos (C := fun _ j => 0 < j) (i := w / 3) hd2, gI_pos (C := fun _ j => 0 < j) (i := w) (j := 3) (by decide), hg]))))⟩
  have dg : CDivB (g - 1) 2 := ⟨by decide, bd_sm⟩
  obtain ⟨b, hb, hst2⟩ : ∃ b : Bn, Bk 1000 b ∧ ((sIf (fT (f2 gGt (fVar 7) (fC (.int 0)))) (sSetM 8 (vI (fTup (faCons (f2 (gI0 fun i j => .int (i - j)) (f2 (gI CDivB fun i j => .int (i / j)) (f2 (gI0 fun i j => .int (i - j)) (fVar 7) (fC (.int 1))) (fC (.int 2))) (fVar 2)) (faCons (f2 gEqN (f2 (gI (fun _ j => 0 < j) fun i j => .int (i % j)) (fVar 7) (fC (.int 2))) (fC (.int 0))) faNil))))) sNil)) [some (.int seed), some (.int k), some (.int most), some (.int (c / (4 * most + 3))), some (.lst (rowsO T ++ [.lst (rowD r)])), some (.int (i : Int)), some (.int (j : Int)), some (.int g), some .non, p9] = some (.nx [some (.int seed), some (.int k), some (.int most), some (.int (c / (4 * most + 3))), some (.lst (rowsO T ++ [.lst (rowD r)])), some (.int (i : Int)), some (.int (j : Int)), some (.int g), some (bdD b), p9]) := by
    by_cases h : 0 < g
    · have h1 : decide (0 < g) = true := decide_eq_true h
      refine ⟨some ((g - 1) / 2 - most, g % 2 == 0), Sm.mono (k := 200) (Sm.of (by omega) (by omega)) (by decide), st_ifT (by simp only [retOf, sNil, sThen, sSeq, sRet, sDrop, sSet, sIf, sPar, sUn2, sFor, asL, gSet, forD, fVar, fC, f2, f1, fT, asB, fNotT, fAndT, fOrT, fAndV, fOrV, gNot, gNeg, faNil, faCons, fTup, fLst, fCall, gAbs, gInt, gLen_t2, gLen_seq, gIx_t0, gIx_t1, gI0, gAdd_int, gNe_int, gEq_int, gEq_bl, gEq_tup2, gNe_tup2, gIsi_same, Dl.isInt, Dl.isBool, Dl.isTup, Option.bind_some, Option.map_some, List.map_cons, List.map_nil, List.length_cons, List.length_nil, List.getElem?_cons_zero, List.getElem?_cons_succ, List.set_cons_zero, List.set_cons_succ, List.cons_append, List.nil_append, List.append_nil, Bool.not_true, Bool.not_false, beq_self_eq_true, bdD_none, bdD_some, gIsN, isNon, sSetM, sRetM, sDropM, vI, vName, vShare, vWalk, vNil, vCons, vLst, vTup, vCall, sh_bd, gGt, gLt, h1]) (st_set (v_imm (by simp only [retOf, sNil, sThen, sSeq, sRet, sDrop, sSet, sIf, sPar, sUn2, sFor, asL, gSet, forD, fVar, fC, f2, f1, fT, asB, fNotT, fAndT, fOrT, fAndV, fOrV, gNot, gNeg, faNil, faCons, fTup, fLst, fCall, gAbs, gInt, gLen_t2, gLen_seq, gIx_t0, gIx_t1, gI0, gAdd_int, gNe_int, gEq_int, gEq_bl, gEq_tup2, gNe_tup2, gIsi_same, Dl.isInt, Dl.isBool, Dl.isTup, Option.bind_some, Option.map_some, List.map_cons, List.map_nil, List.length_cons, List.length_nil, List.getElem?_cons_zero, List.getElem?_cons_succ, List.set_cons_zero, List.set_cons_succ, List.cons_append, List.nil_append, List.append_nil, Bool.not_true, Bool.not_false, beq_self_eq_true, bdD_none, bdD_some, gIsN, isNon, sSetM, sRetM, sDropM, vI, vName, vShare, vWalk, vNil, vCons, vLst, vTup, vCall, sh_bd, gEqN_int, gI_pos (C := CDivB) dg, gI_pos (C := fun _ j => 0 < j) (i := g) (j := 2) (by decide)])))⟩
    · have h1 : decide (0 < g) = false := decide_eq_false h
      exact ⟨none, trivial, st_ifF (by simp only [retOf, sNil, sThen, sSeq, sRet, sDrop, sSet, sIf, sPar, sUn2, sFor, asL, gSet, forD, fVar, fC, f2, f1, fT, asB, fNotT, fAndT, fOrT, fAndV, fOrV, gNot, gNeg, faNil, faCons, fTup, fLst, fCall, gAbs, gInt, gLen_t2, gLen_seq, gIx_t0, gIx_t1, gI0, gAdd_int, gNe_int, gEq_int, gEq_bl, gEq_tup2, gNe_tup2, gIsi_same, Dl.isInt, Dl.isBool, Dl.isTup, Option.bind_some, Option.map_some, List.map_cons, List.map_nil, List.length_cons, List.length_nil, List.getElem?_cons_zero, List.getElem?_cons_succ, List.set_cons_zero, List.set_cons_succ, List.cons_append, List.nil_append, List.append_nil, Bool.not_true, Bool.not_false, beq_self_eq_true, bdD_none, bdD_some, gIsN, isNon, sSetM, sRetM, sDropM, vI, vName, vShare, vWalk, vNil, vCons, vLst, vTup, vCall, sh_bd, gGt, gLt, h1]) rfl⟩
  refine ⟨c / (4 * most + 3), b, some (.int g), p9, hb, ?_⟩
  refine st_seq (st_set (v_imm (d := .int (c % (4 * most + 3))) (by simp only [retOf, sNil, sThen, sSeq, sRet, sDrop, sSet, sIf, sPar, sUn2, sFor, asL, gSet, forD, fVar, fC, f2, f1, fT, asB, fNotT, fAndT, fOrT, fAndV, fOrV, gNot, gNeg, faNil, faCons, fTup, fLst, fCall, gAbs, gInt, gLen_t2, gLen_seq, gIx_t0, gIx_t1, gI0, gAdd_int, gNe_int, gEq_int, gEq_bl, gEq_tup2, gNe_tup2, gIsi_same, Dl.isInt, Dl.isBool, Dl.isTup, Option.bind_some, Option.map_some, List.map_cons, List.map_nil, List.length_cons, List.length_nil, List.getElem?_cons_zero, List.getElem?_cons_succ, List.set_cons_zero, List.set_cons_succ, List.cons_append, List.nil_append, List.append_nil, Bool.not_true, Bool.not_false, beq_self_eq_true, bdD_none, bdD_some, gIsN, isNon, sSetM, sRetM, sDropM, vI, vName, vShare, vWalk, vNil, vCons, vLst, vTup, vCall, sh_bd, gI_pos (C := CMulB) m1, gI_pos (C := fun _ j => 0 < j) (i := c) hd]))) (st_seq hst (st_seq (st_set (v_imm (d := .int (c / (4 * most + 3))) (by simp only [retOf, sNil, sThen, sSeq, sRet, sDrop, sSet, sIf, sPar, sUn2, sFor, asL, gSet, forD, fVar, fC, f2, f1, fT, asB, fNotT, fAndT, fOrT, fAndV, fOrV, gNot, gNeg, faNil, faCons, fTup, fLst, fCall, gAbs, gInt, gLen_t2, gLen_seq, gIx_t0, gIx_t1, gI0, gAdd_int, gNe_int, gEq_int, gEq_bl, gEq_tup2, gNe_tup2, gIsi_same, Dl.isInt, Dl.isBool, Dl.isTup, Option.bind_some, Option.map_some, List.map_cons, List.map_nil, List.length_cons, List.length_nil, List.getElem?_cons_zero, List.getElem?_cons_succ, List.set_cons_zero, List.set_cons_succ, List.cons_append, List.nil_append, List.append_nil, Bool.not_true, Bool.not_false, beq_self_eq_true, bdD_none, bdD_some, gIsN, isNon, sSetM, sRetM, sDropM, vI, vName, vShare, vWalk, vNil, vCons, vLst, vTup, vCall, sh_bd, gI_pos (C := CMulB) m1, gI_pos (C := CDivB) dv]))) (st_seq (st_set (v_imm (d := .non) rfl)) (st_seq hst2 ?_))))
  rw [rowD_snoc]
  exact app2_last rfl (by rw [len_rowsO, hT]; rfl) (vName_bd rfl) (by rw [len_rowD]; omega)
theorem t__law_any_table {seed k most : Int} (hk0 : 0 ≤ k) (hk1 : k ≤ 40) (hm0 : 0 ≤ most) (hm1 : most ≤ 10 ^ 55) : ∃ T, Grown T (k.toNat + 1) (k.toNat + 1) ∧ fn S__law_any_table [.int seed, .int k, .int most] = some (ownD T) := by
  obtain ⟨n, rfl⟩ : ∃ n : Nat, k = (n : Int) := ⟨k.toNat, by omega⟩
  have en : ((n : Int)).toNat = n := by omega
  rw [en]
  have hr := fun o5 o6 o7 o8 o9 c t => v_range (g := faCons (f2 gAdd (fVar 1) (fC (.int 1))) faNil) (δ := [some (.int seed), some (.int (n : Int)), some (.int most), c, t, o5, o6, o7, o8, o9]) (n := n + 1) rfl (by omega)
  have inner : ∀ (c : Int) (T : List (List Bn)) (i : Nat) (o6 o7 o8 o9 : Option D), T.length = i → i ≤ 40 → ∃ δ', Dl.forM 6 ((sSeq (sSetM 7 (vI (f2 (gI (fun _ j => 0 < j) fun i j => .int (i % j)) (fVar 3) (f2 gAdd (f2 (gI CMulB fun i j => .int (i * j)) (fC (.int 4)) (fVar 2)) (fC (.int 3)))))) (sSeq (sIf (fT (f2 gIn (fVar 3) (fTup (faCons (fC (.int 0)) (faCons (f1 gNeg (fC (.int 1))) faNil))))) (sSeq (sSetM 9 (vCall (fn S__law_mixed) (faCons (fVar 0) (faCons (f2 gAdd (f2 (gI CMulB fun i j => .int (i * j)) (fC (.int 9)) (fVar 5)) (fVar 6)) faNil)))) (sSetM 7 (vI (f2 gIx (fLst (faCons (fC (.int 0)) (faCons (fC (.int 0)) (faCons (f2 gAdd (fC (.int 1)) (f2 (gI (fun _ j => 0 < j) fun i j => .int (i % j)) (f2 (gI CDivB fun i j => .int (i / j)) (fVar 9) (fC (.int 3))) (f2 gAdd (f2 (gI CMulB fun i j => .int (i * j)) (fC (.int 4)) (fVar 2)) (fC (.int 2))))) faNil)))) (f2 (gI (fun _ j => 0 < j) fun i j => .int (i % j)) (fVar 9) (fC (.int 3))))))) sNil) (sSeq (sSetM 3 (vI (f2 (gI CDivB fun i j => .int (i / j)) (fVar 3) (f2 gAdd (f2 (gI CMulB fun i j => .int (i * j)) (fC (.int 4)) (fVar 2)) (fC (.int 3)))))) (sSeq (sSetM 8 (vI (fC .non))) (sSeq (sIf (fT (f2 gGt (fVar 7) (fC (.int 0)))) (sSetM 8 (vI (fTup (faCons (f2 (gI0 fun i j => .int (i - j)) (f2 (gI CDivB fun i j => .int (i / j)) (f2 (gI0 fun i j => .int (i - j)) (fVar 7) (fC (.int 1))) (fC (.int 2))) (fVar 2)) (faCons (f2 gEqN (f2 (gI (fun _ j => 0 < j) fun i j => .int (i % j)) (fVar 7) (fC (.int 2))) (fC (.int 0))) faNil))))) sNil) (sApp2 4 (fVar 5) (vName 8)))))))) ((List.range (n + 1)).map fun (i : Nat) => D.int (i : Int)) [some (.int seed), some (.int (n : Int)), some (.int most), some (.int c), some (.lst (rowsO T ++ [.lst (rowD [])])), some (.int (i : Int)), o6, o7, o8, o9] = some (.nx δ') ∧ ∃ (c : Int) (r : List Bn) (o6 o7 o8 o9 : Option D), r.length = (List.range (n + 1)).length ∧ (∀ b ∈ r, Bk 1000 b) ∧ δ' = [some (.int seed), some (.int (n : Int)), some (.int most), some (.int c), some (.lst (rowsO T ++ [.lst (rowD r)])), some (.int (i : Int)), o6, o7, o8, o9] := by
    intro c T i o6 o7 o8 o9 hT hi
    refine forM_pre (f := fun (i : Nat) => D.int (i : Int)) (fun pre δ => ∃ (c : Int) (r : List Bn) (o6 o7 o8 o9 : Option D), r.length = pre.length ∧ (∀ b ∈ r, Bk 1000 b) ∧ δ = [some (.int seed), some (.int (n : Int)), some (.int most), some (.int c), some (.lst (rowsO T ++ [.lst (rowD r)])), some (.int (i : Int)), o6, o7, o8, o9]) (List.range (n + 1)) ?_ (List.range (n + 1)) [] _ rfl ⟨c, [], o6, o7, o8, o9, rfl, (fun _ m => nomatch m), rfl⟩
    rintro pre x post _ hx ⟨c, r, o6, o7, o8, o9, hr, hb, rfl⟩
    obtain ⟨rfl, hl⟩ := range_at hx
    obtain ⟨c', b, p7, p9, hbb, st⟩ := at_in seed (n : Int) most c T r i pre.length o7 o8 o9 hm0 hm1 hT hr hi (by omega)
    refine ⟨_, st, c', r ++ [b], _, _, _, _, by rw [List.length_append, List.length_append, hr]; rfl, fun z hz => ?_, rfl⟩
    rcases List.mem_append.mp hz with hz | hz
    · exact hb z hz
    · rw [List.mem_singleton.mp hz]; exact hbb
  obtain ⟨_, w, c, T, o5, o6, o7, o8, o9, hG, rfl⟩ := forM_pre (i := 5) (s := ((sSeq (sApp 4 (vLst vNil)) (sForM (vRange (faCons (f2 gAdd (fVar 1) (fC (.int 1))) faNil)) 6 (sSeq (sSetM 7 (vI (f2 (gI (fun _ j => 0 < j) fun i j => .int (i % j)) (fVar 3) (f2 gAdd (f2 (gI CMulB fun i j => .int (i * j)) (fC (.int 4)) (fVar 2)) (fC (.int 3)))))) (sSeq (sIf (fT (f2 gIn (fVar 3) (fTup (faCons (fC (.int 0)) (faCons (f1 gNeg (fC (.int 1))) faNil))))) (sSeq (sSetM 9 (vCall (fn S__law_mixed) (faCons (fVar 0) (faCons (f2 gAdd (f2 (gI CMulB fun i j => .int (i * j)) (fC (.int 9)) (fVar 5)) (fVar 6)) faNil)))) (sSetM 7 (vI (f2 gIx (fLst (faCons (fC (.int 0)) (faCons (fC (.int 0)) (faCons (f2 gAdd (fC (.int 1)) (f2 (gI (fun _ j => 0 < j) fun i j => .int (i % j)) (f2 (gI CDivB fun i j => .int (i / j)) (fVar 9) (fC (.int 3))) (f2 gAdd (f2 (gI CMulB fun i j => .int (i * j)) (fC (.int 4)) (fVar 2)) (fC (.int 2))))) faNil)))) (f2 (gI (fun _ j => 0 < j) fun i j => .int (i % j)) (fVar 9) (fC (.int 3))))))) sNil) (sSeq (sSetM 3 (vI (f2 (gI CDivB fun i j => .int (i / j)) (fVar 3) (f2 gAdd (f2 (gI CMulB fun i j => .int (i * j)) (fC (.int 4)) (fVar 2)) (fC (.int 3)))))) (sSeq (sSetM 8 (vI (fC .non))) (sSeq (sIf (fT (f2 gGt (fVar 7) (fC (.int 0)))) (sSetM 8 (vI (fTup (faCons (f2 (gI0 fun i j => .int (i - j)) (f2 (gI CDivB fun i j => .int (i / j)) (f2 (gI0 fun i j => .int (i - j)) (fVar 7) (fC (.int 1))) (fC (.int 2))) (fVar 2)) (faCons (f2 gEqN (f2 (gI (fun _ j => 0 < j) fun i j => .int (i % j)) (fVar 7) (fC (.int 2))) (fC (.int 0))) faNil))))) sNil) (sApp2 4 (fVar 5) (vName 8))))))))))) (f := fun (i : Nat) => D.int (i : Int)) (fun pre δ => ∃ (c : Int) (T : List (List Bn)) (o5 o6 o7 o8 o9 : Option D), Grown T pre.length (n + 1) ∧ δ = [some (.int seed), some (.int (n : Int)), some (.int most), some (.int c), some (ownD T), o5, o6, o7, o8, o9]) (List.range (n + 1)) (by
    rintro pre x post _ hx ⟨c, T, o5, o6, o7, o8, o9, hG, rfl⟩
    obtain ⟨rfl, hl⟩ := range_at hx
    obtain ⟨_, w, c', r, p6, p7, p8, p9, h1, h2, rfl⟩ := inner c T pre.length o6 o7 o8 o9 hG.len (by omega)
    refine ⟨_, st_seq (st_app (ds := rowsO T) (d := .lst []) rfl rfl (by rw [len_rowsO, hG.len]; omega)) (st_for (hr _ _ _ _ _ _ _) w), c', T ++ [r], some (.int (pre.length : Int)), p6, p7, p8, p9, ?_, ?_⟩
    · rw [List.length_append]
      exact hG.snoc (by rw [h1, List.length_range]) h2
    · unfold ownD
      rw [rowsO_snoc]) (List.range (n + 1)) [] [some (.int seed), some (.int (n : Int)), some (.int most), some (.int seed), some (.lst []), none, none, none, none, none] rfl ⟨seed, [], none, none, none, none, none, ⟨rfl, (fun _ m => nomatch m), (fun _ m => nomatch m)⟩, rfl⟩
  have key : S__law_any_table [.int seed, .int (n : Int), .int most] (ownD T) := ⟨rt_of (δ := [some (.int seed), some (.int (n : Int)), some (.int most), none, none, none, none, none, none, none]) (st_seq (st_set (d := .int seed) rfl) (st_seq (st_set (d := .lst []) rfl) (st_seq (st_for (hr _ _ _ _ _ _ _) w) (st_ret (v_move rfl))))), own_ownD T⟩
  exact ⟨T, by rw [List.length_range] at hG; exact hG, fn_eq (fun d' h' => Option.some.inj (h'.1.symm.trans key.1)) key⟩
theorem ok__law_any_table (F : Fun K "_law_any_table" "_law_any_table" s__law_any_table f fd) (hLmixed : HasF P w K mg base 1 "_law_mixed" ["_law_cell", "_law_k"] (fn S__law_mixed))  (m_range : mg "range" = none) : FnOk P w K mg base CX0 2 f fd ["_law_seed", "_law_k", "_law_most"] (freshSp K 3 (fn S__law_any_table)) := by
  have sc := sc__law_any_table
  refine fresh_ok F sc__law_any_table (fun cdv A outer s H E ds d hr hG hl => ?_)
  have hb := fn_inv hG
  have hown := hb.2
  refine ⟨_, (pm_cons (pm_set 3 sc.nd (pv_name 0))
      (pm_cons (pm_set 4 sc.nd (pv_lst pva_nil))
      (pm_cons (pm_for 5 sc.nd PassesOwn.never rfl (pim_range1 rfl m_range (pad_cons (pd_add (pd_var 1) pd_int) pad_nil))
        (pm_cons (pm_app 4 (pe_bm PySem.F.plainAttrs_list PySem.F.slot_list_append PySem.F.type_list_append mt_append (pvi 4) (pa_cons (pv_lst pva_nil) pa_nil)))
        (pm_one (pm_for 6 sc.nd PassesOwn.never rfl (pim_range1 rfl m_range (pad_cons (pd_add (pd_var 1) pd_int) pad_nil))
          (pm_cons (pm_set 7 sc.nd (pv_imm (pd_mod (pd_var 3) (pd_add (pd_mul pd_int (pd_var 2)) pd_int))))
          (pm_cons (pm_if (ptd_in (pd_var 3) (pd_tup (pad_cons pd_int (pad_cons (pd_neg pd_int) pad_nil)))) (pm_cons (pm_set 9 sc.nd (pv_call hLmixed hr (pad_cons (pd_var 0) (pad_cons (pd_add (pd_mul pd_int (pd_var 5)) (pd_var 6)) pad_nil))))
            (pm_one (pm_set 7 sc.nd (pv_imm (pd_ix (pd_lst (pad_cons pd_int (pad_cons pd_int (pad_cons (pd_add pd_int (pd_mod (pd_fdiv (pd_var 9) pd_int) (pd_add (pd_mul pd_int (pd_var 2)) pd_int))) pad_nil)))) (pd_mod (pd_var 9) pd_int)))))) pm_nil)
          (pm_cons (pm_set 3 sc.nd (pv_imm (pd_fdiv (pd_var 3) (pd_add (pd_mul pd_int (pd_var 2)) pd_int))))
          (pm_cons (pm_set 8 sc.nd (pv_imm pd_non))
          (pm_cons (pm_if (ptd_gt (pd_var 7) pd_int) (pm_one (pm_set 8 sc.nd (pv_imm (pd_tup (pad_cons (pd_sub (pd_fdiv (pd_sub (pd_var 7) pd_int) pd_int) (pd_var 2)) (pad_cons (pd_eqN hr.units (pd_mod (pd_var 7) pd_int) pd_int) pad_nil)))))) pm_nil)
          (pm_one (pm_app2 4 (pe_bm PySem.F.plainAttrs_list PySem.F.slot_list_append PySem.F.type_list_append mt_append (pe_ix ix_list (pvi 4) (pd_var 5) (fun _ _ => rfl)) (pa_cons (pv_name 8) pa_nil)))))))))))))
      (pm_one (pm_ret (pv_name 4)))))), ?_, ?own⟩
  case own => first | rfl | exact hown
  · show retOf ((?f : SD) (startM 10 _)) = _
    exact hb.1
abbrev s__law_part : Stmt := top 28
theorem sc__law_part : FnScope ["_law_cell"] ["_law_cell"] (defScope s__law_part) := ⟨rfl, rfl, rfl, by decide +kernel, rfl, by decide +kernel, by decide +kernel⟩
theorem ok__law_part (F : Fun K "_law_part" "_law_part" s__law_part f fd) (hLlowest : Has P w K mg base 1 "_law_lowest" ["_law_top", "_law_bottom"] (fn S__law_lowest))   : FnOk P w K mg base CX0 2 f fd ["_law_cell"] (pureSp K 1 (fn S__law_part)) := by
  have sc := sc__law_part
  refine pure_ok F sc__law_part (fun cdv A outer s H E ds d hr hG hl => ?_)
  obtain ⟨c, rfl, rfl⟩ := fn_inv hG
  refine ⟨_, (psd_cons (psd_if (ptd_eq hr.units0 (pd_mod (pd_var 0) pd_int) pd_int) (psd_one (psd_ret (pd_callH hLlowest hr (pad_cons (pd_sub (pd_mod (pd_fdiv (pd_var 0) pd_int) (pd_add (pd_mul pd_int (pd_pow pd_int pd_int)) pd_int)) (pd_pow pd_int pd_int)) (pad_cons (pd_add pd_int (pd_mod (pd_var 0) pd_int)) pad_nil))))) psd_nil)
      (psd_one (psd_ret (pd_callH hLlowest hr (pad_cons (pd_sub (pd_mod (pd_fdiv (pd_var 0) pd_int) pd_int) pd_int) (pad_cons (pd_add pd_int (pd_mod (pd_fdiv (pd_var 0) pd_int) pd_int)) pad_nil)))))), ?_⟩
  · show retOf ((?f : SD) [some _]) = _
    have b8 : CDivB c 8 := ⟨by decide, bd_sm⟩
    have b48 : CDivB c 48 := ⟨by decide, bd_sm⟩
    have bp : CPow 10 45 := ⟨by decide, by decide, by decide⟩
    have e45 : (45 : Int).toNat = 45 := rfl
    have bm : CMulB 2 (10 ^ 45) := ⟨bd_sm, bd_of (k := 200) (show (10 ^ 45 : Int).natAbs < 2 ^ 200 by decide)⟩
    by_cases h : c % 8 = 5
    · have h1 : (c % 8 == 5) = true := by simp [h]
      simp only [retOf, sNil, sThen, sSeq, sRet, sDrop, sSet, sIf, sPar, sUn2, sFor, asL, gSet, forD, fVar, fC, f2, f1, fT, asB, fNotT, fAndT, fOrT, fAndV, fOrV, gNot, gNeg, faNil, faCons, fTup, fLst, fCall, gAbs, gInt, gLen_t2, gLen_seq, gIx_t0, gIx_t1, gI0, gAdd_int, gNe_int, gEq_int, gEq_bl, gEq_tup2, gNe_tup2, gIsi_same, Dl.isInt, Dl.isBool, Dl.isTup, Option.bind_some, Option.map_some, List.map_cons, List.map_nil, List.length_cons, List.length_nil, List.getElem?_cons_zero, List.getElem?_cons_succ, List.set_cons_zero, List.set_cons_succ, List.cons_append, List.nil_append, List.append_nil, Bool.not_true, Bool.not_false, beq_self_eq_true, bdD_none, bdD_some, gIsN, isNon, sSetM, sRetM, sDropM, vI, vName, vShare, vWalk, vNil, vCons, vLst, vTup, vCall, sh_bd, gI_pos (C := fun _ j => 0 < j) (i := c) (j := 8) (by decide), h1, gI_pos (C := CDivB) b8, gI_pos (C := CPow) bp, e45, gI_pos (C := CMulB) bm, gI_pos (C := fun _ j => 0 < j) (i := c / 8) (j := 2 * 10 ^ 45 + 1) (by decide), gI_pos (C := fun _ j => 0 < j) (i := c) (j := 9973) (by decide), e__law_lowest (t := c / 8 % (2 * 10 ^ 45 + 1) - 10 ^ 45) (b := 1 + c % 9973) (by omega) (bd_sm (by omega))]
      unfold prt
      rw [if_pos h]
    · have h1 : (c % 8 == 5) = false := by simp [h]
      simp only [retOf, sNil, sThen, sSeq, sRet, sDrop, sSet, sIf, sPar, sUn2, sFor, asL, gSet, forD, fVar, fC, f2, f1, fT, asB, fNotT, fAndT, fOrT, fAndV, fOrV, gNot, gNeg, faNil, faCons, fTup, fLst, fCall, gAbs, gInt, gLen_t2, gLen_seq, gIx_t0, gIx_t1, gI0, gAdd_int, gNe_int, gEq_int, gEq_bl, gEq_tup2, gNe_tup2, gIsi_same, Dl.isInt, Dl.isBool, Dl.isTup, Option.bind_some, Option.map_some, List.map_cons, List.map_nil, List.length_cons, List.length_nil, List.getElem?_cons_zero, List.getElem?_cons_succ, List.set_cons_zero, List.set_cons_succ, List.cons_append, List.nil_append, List.append_nil, Bool.not_true, Bool.not_false, beq_self_eq_true, bdD_none, bdD_some, gIsN, isNon, sSetM, sRetM, sDropM, vI, vName, vShare, vWalk, vNil, vCons, vLst, vTup, vCall, sh_bd, gI_pos (C := fun _ j => 0 < j) (i := c) (j := 8) (by decide), h1, gI_pos (C := CDivB) b8, gI_pos (C := CDivB) b48, gI_pos (C := fun _ j => 0 < j) (i := c / 48) (j := 41) (by decide), gI_pos (C := fun _ j => 0 < j) (i := c / 8) (j := 6) (by decide), e__law_lowest (t := c / 48 % 41 - 20) (b := 1 + c / 8 % 6) (by omega) (bd_sm (by omega))]
      unfold prt
      rw [if_neg h]
abbrev s__law_planted : Stmt := top 29
theorem sc__law_planted : FnScope ["_law_script", "_law_point", "_law_parts", "_law_table", "_law_i", "_law_j", "_law_drawn", "_law_number", "_law_bound", "_law_top", "_law_bottom"] ["_law_script", "_law_point"] (defScope s__law_planted) := ⟨rfl, rfl, rfl, by decide +kernel, rfl, by decide +kernel, by decide +kernel⟩
def S__law_planted (ds : List D) (d : D) : Prop := retOf (((sSeq (sSetM 2 (vCatS (fLst (faCons (fTup (faCons (fC (.int 0)) (faCons (fC (.int 1)) faNil))) faNil)) (fVar 1))) (sSeq (sSetM 3 (vLst vNil)) (sSeq (sForM (vRange (faCons (fCall gLen (faCons (fVar 2) faNil)) faNil)) 4 (sSeq (sApp 3 (vLst vNil)) (sForM (vRange (faCons (fCall gLen (faCons (fVar 2) faNil)) faNil)) 5 (sSeq (sUnM [9, 10] (vI (fCall (fn S__law_less) (faCons (f2 gIx (fVar 2) (fVar 4)) (faCons (f2 gIx (fVar 2) (fVar 5)) faNil))))) (sSeq (sSetM 6 (vCall (fn S__law_mixed) (faCons (fCall (fn S__law_cell_at) (faCons (fVar 0) (faCons (f2 gAdd (f2 gAdd (fC (.int 8)) (f2 (gI CMulB fun i j => .int (i * j)) (fCall gLen (faCons (fVar 2) faNil)) (fVar 4))) (fVar 5)) faNil))) (faCons (f2 gAdd (f2 (gI CMulB fun i j => .int (i * j)) (fC (.int 9)) (fVar 4)) (fVar 5)) faNil)))) (sSeq (sSetM 7 (vI (f2 gAdd (f1 gNeg (f2 (gI CDivB fun i j => .int (i / j)) (f1 gNeg (fVar 9)) (fVar 10))) (f2 (gI (fun _ j => 0 < j) fun i j => .int (i % j)) (f2 (gI CDivB fun i j => .int (i / j)) (fVar 6) (fC (.int 8))) (fC (.int 3)))))) (sSeq (sSetM 8 (vI (fTup (faCons (fVar 7) (faCons (fAndV (f2 gGt (f2 (gI CMulB fun i j => .int (i * j)) (fVar 7) (fVar 10)) (fVar 9)) (f2 gEqN (f2 (gI (fun _ j => 0 < j) fun i j => .int (i % j)) (f2 (gI CDivB fun i j => .int (i / j)) (fVar 6) (fC (.int 24))) (fC (.int 2))) (fC (.int 1)))) faNil))))) (sSeq (sIf (fOrT (fT (f2 gLt (f2 (gI (fun _ j => 0 < j) fun i j => .int (i % j)) (fVar 6) (fC (.int 8))) (fC (.int 3)))) (fAndT (fT (f2 gEqN (fVar 4) (fVar 5))) (fT (f2 gLt (f2 (gI (fun _ j => 0 < j) fun i j => .int (i % j)) (fVar 6) (fC (.int 8))) (fC (.int 6)))))) (sSetM 8 (vI (fC .non))) sNil) (sApp2 3 (fVar 4) (vName 8)))))))))) (sRetM (vName 3)))))) (startM 11 ds)) = some d ∧ own d = true
theorem pl_in (ns : List Int) (P : D) (ps : List (Int × Int)) (T : List (List Bn)) (r : List Bn) (i j : Nat) (o6 o7 o8 o9 o10 : Option D) (hp : ∀ p ∈ ps, Fr 200 p) (hT : T.length = i) (hr : r.length = j) (hl : ps.length ≤ 40) (hi : i < ps.length + 1) (hj : j < ps.length + 1) : ∃ (b : Bn) (p6 p7 p9 p10 : Option D), Bk 1000 b ∧
    ((sSeq (sUnM [9, 10] (vI (fCall (fn S__law_less) (faCons (f2 gIx (fVar 2) (fVar 4)) (faCons (f2 gIx (fVar 2) (fVar 5)) faNil))))) (sSeq (sSetM 6 (vCall (fn S__law_mixed) (faCons (fCall (fn S__law_cell_at) (faCons (fVar 0) (faCons (f2 gAdd (f2 gAdd (fC (.int 8)) (f2 (gI CMulB fun i j => .int (i * j)) (fCall gLen (faCons (fVar 2) faNil)) (fVar 4))) (fVar 5)) faNil))) (faCons (f2 gAdd (f2 (gI CMulB fun i j => .int (i * j)) (fC (.int 9)) (fVar 4)) (fVar 5)) faNil)))) (sSeq (sSetM 7 (vI (f2 gAdd (f1 gNeg (f2 (gI CDivB fun i j => .int (i / j)) (f1 gNeg (fVar 9)) (fVar 10))) (f2 (gI (fun _ j => 0 < j) fun i j => .int (i % j)) (f2 (gI CDivB fun i j => .int (i / j)) (fVar 6) (fC (.int 8))) (fC (.int 3)))))) (sSeq (sSetM 8 (vI (fTup (faCons (fVar 7) (faCons (fAndV (f2 gGt (f2 (gI CMulB fun i j => .int (i * j)) (fVar 7) (fVar 10)) (fVar 9)) (f2 gEqN (f2 (gI (fun _ j => 0 < j) fun i j => .int (i % j)) (f2 (gI CDivB fun i j => .int (i / j)) (fVar 6) (fC (.int 24))) (fC (.int 2))) (fC (.int 1)))) faNil))))) (sSeq (sIf (fOrT (fT (f2 gLt (f2 (gI (fun _ j => 0 < j) fun i j => .int (i % j)) (fVar 6) (fC (.int 8))) (fC (.int 3)))) (fAndT (fT (f2 gEqN (fVar 4) (fVar 5))) (fT (f2 gLt (f2 (gI (fun _ j => 0 < j) fun i j => .int (i % j)) (fVar 6) (fC (.int 8))) (fC (.int 6)))))) (sSetM 8 (vI (fC .non))) sNil) (sApp2 3 (fVar 4) (vName 8)))))))) [some (.seq (ns.map D.int)), some P, some (.lst ((vals ps).map fr)), some (.lst (rowsO T ++ [.lst (rowD r)])), some (.int (i : Int)), some (.int (j : Int)), o6, o7, o8, o9, o10] = some (.nx [some (.seq (ns.map D.int)), some P, some (.lst ((vals ps).map fr)), some (.lst (rowsO T ++ [.lst (rowD (r ++ [b]))])), some (.int (i : Int)), some (.int (j : Int)), p6, p7, some (bdD b), p9, p10]) := by
  have a := valAt_fr (by decide) hp i
  have b := valAt_fr (by decide) hp j
  obtain ⟨top, htop⟩ : ∃ t, t = (valAt ps i).1 * (valAt ps j).2 - (valAt ps j).1 * (valAt ps i).2 := ⟨_, rfl⟩
  obtain ⟨bot, hbot⟩ : ∃ t, t = (valAt ps i).2 * (valAt ps j).2 := ⟨_, rfl⟩
  have hb : 0 < bot := by rw [hbot]; exact Int.mul_pos a.pos b.pos
  have s1 : Sm 401 top := by rw [htop]; exact (a.s1.mul b.s2).sub (b.s1.mul a.s2)
  have s2 : Sm 401 bot := by rw [hbot]; exact (a.s2.mul b.s2).mono (by decide)
  have le : fn S__law_less [fr (valAt ps i), fr (valAt ps j)] = some (.tup [.int top, .int bot]) := by
    rw [htop, hbot]
    exact e2 (op := fun p q => fr (dl p q)) (Fk.of a) (Fk.of b)
  have len : gLen [.lst ((vals ps).map fr)] = some (.int ((ps.length : Int) + 1)) := by
    show some (D.int (((vals ps).map fr).length : Int)) = _
    rw [List.length_map]
    rfl
  have ml : CMulB ((ps.length : Int) + 1) (i : Int) := ⟨bd_sm (by omega), bd_sm (by omega)⟩
  have mi9 : CMulB 9 (i : Int) := ⟨bd_sm, bd_sm (by omega)⟩
  have hli : (0 : Int) ≤ ((ps.length : Int) + 1) * (i : Int) := Int.mul_nonneg (by omega) (by omega)
  have ca := e__law_cell_at (ns := ns) (k := 8 + ((ps.length : Int) + 1) * (i : Int) + (j : Int)) (by omega)
  have mx := e__law_mixed (c := cell ns (8 + ((ps.length : Int) + 1) * (i : Int) + (j : Int))) (k := 9 * (i : Int) + (j : Int)) (by omega) (by omega)
  obtain ⟨w, hw⟩ : ∃ w, w = mxd (cell ns (8 + ((ps.length : Int) + 1) * (i : Int) + (j : Int))) (9 * (i : Int) + (j : Int)) := ⟨_, rfl⟩
  rw [← hw] at mx
  have dn : CDivB (-top) bot := ⟨hb, bd_of (k := 401) s2⟩
  have d8 : CDivB w 8 := ⟨by decide, bd_sm⟩
  have d24 : CDivB w 24 := ⟨by decide, bd_sm⟩
  obtain ⟨nb, hnb⟩ : ∃ nb, nb = -(-top / bot) + w / 8 % 3 := ⟨_, rfl⟩
  have s3 : Sm 402 nb := by
    rw [hnb]
    have h1 : Sm 401 (-(-top / bot)) := by
      show (-(-top / bot)).natAbs < 2 ^ 401
      rw [Int.natAbs_neg]
      refine Nat.lt_of_le_of_lt (Int.natAbs_ediv_le_natAbs _ _) ?_
      rw [Int.natAbs_neg]
      exact s1
    exact h1.add (y := w / 8 % 3) (Sm.mono (k := 10) (Sm.of (by omega) (by omega)) (by decide))
  have mb : CMulB nb bot := ⟨bd_of (k := 402) s3, bd_of (k := 401) s2⟩
  obtain ⟨t, ht⟩ : ∃ t : Bool, fAndV (f2 gGt (f2 (gI CMulB fun i j => .int (i * j)) (fVar 7) (fVar 10)) (fVar 9)) (f2 gEqN (f2 (gI (fun _ j => 0 < j) fun i j => .int (i % j)) (f2 (gI CDivB fun i j => .int (i / j)) (fVar 6) (fC (.int 24))) (fC (.int 2))) (fC (.int 1))) [some (.seq (ns.map D.int)), some P, some (.lst ((vals ps).map fr)), some (.lst (rowsO T ++ [.lst (rowD r)])), some (.int (i : Int)), some (.int (j : Int)), some (.int w), some (.int nb), o8, some (.int top), some (.int bot)] = some (.bl t) := by
    by_cases h : top < nb * bot
    · have h1 : decide (top < nb * bot) = true := decide_eq_true h
      exact ⟨w / 24 % 2 == 1, by simp only [retOf, sNil, sThen, sSeq, sRet, sDrop, sSet, sIf, sPar, sUn2, sFor, asL, gSet, forD, fVar, fC, f2, f1, fT, asB, fNotT, fAndT, fOrT, fAndV, fOrV, gNot, gNeg, faNil, faCons, fTup, fLst, fCall, gAbs, gInt, gLen_t2, gLen_seq, gIx_t0, gIx_t1, gI0, gAdd_int, gNe_int, gEq_int, gEq_bl, gEq_tup2, gNe_tup2, gIsi_same, Dl.isInt, Dl.isBool, Dl.isTup, Option.bind_some, Option.map_some, List.map_cons, List.map_nil, List.length_cons, List.length_nil, List.getElem?_cons_zero, List.getElem?_cons_succ, List.set_cons_zero, List.set_cons_succ, List.cons_append, List.nil_append, List.append_nil, Bool.not_true, Bool.not_false, beq_self_eq_true, bdD_none, bdD_some, gIsN, isNon, sSetM, sRetM, sDropM, vI, vName, vShare, vWalk, vNil, vCons, vLst, vTup, vCall, sh_bd, gGt, gLt, gEqN_int, gI_pos (C := CMulB) mb, h1, gI_pos (C := CDivB) d24, gI_pos (C := fun _ j => 0 < j) (i := w / 24) (j := 2) (by decide)]⟩
    · have h1 : decide (top < nb * bot) = false := decide_eq_false h
      exact ⟨false, by simp only [retOf, sNil, sThen, sSeq, sRet, sDrop, sSet, sIf, sPar, sUn2, sFor, asL, gSet, forD, fVar, fC, f2, f1, fT, asB, fNotT, fAndT, fOrT, fAndV, fOrV, gNot, gNeg, faNil, faCons, fTup, fLst, fCall, gAbs, gInt, gLen_t2, gLen_seq, gIx_t0, gIx_t1, gI0, gAdd_int, gNe_int, gEq_int, gEq_bl, gEq_tup2, gNe_tup2, gIsi_same, Dl.isInt, Dl.isBool, Dl.isTup, Option.bind_some, Option.map_some, List.map_cons, List.map_nil, List.length_cons, List.length_nil, List.getElem?_cons_zero, List.getElem?_cons_succ, List.set_cons_zero, List.set_cons_succ, List.cons_append, List.nil_append, List.append_nil, Bool.not_true, Bool.not_false, beq_self_eq_true, bdD_none, bdD_some, gIsN, isNon, sSetM, sRetM, sDropM, vI, vName, vShare, vWalk, vNil, vCons, vLst, vTup, vCall, sh_bd, gGt, gLt, gI_pos (C := CMulB) mb, h1]⟩
  obtain ⟨bb, hbb, hst⟩ : ∃ b : Bn, Bk 1000 b ∧ ((sIf (fOrT (fT (f2 gLt (f2 (gI (fun _ j => 0 < j) fun i j => .int (i % j)) (fVar 6) (fC (.int 8))) (fC (.int 3)))) (fAndT (fT (f2 gEqN (fVar 4) (fVar 5))) (fT (f2 gLt (f2 (gI (fun _ j => 0 < j) fun i j => .int (i % j)) (fVar 6) (fC (.int 8))) (fC (.int 6)))))) (sSetM 8 (vI (fC .non))) sNil)) [some (.seq (ns.map D.int)), some P, some (.lst ((vals ps).map fr)), some (.lst (rowsO T ++ [.lst (rowD r)])), some (.int (i : Int)), some (.int (j : Int)), some (.int w), some (.int nb), some (.tup [.int nb, .bl t]), some (.int top), some (.int bot)] = some (.nx [some (.seq (ns.map D.int)), some P, some (.lst ((vals ps).map fr)), some (.lst (rowsO T ++ [.lst (rowD r)])), some (.int (i : Int)), some (.int (j : Int)), some (.int w), some (.int nb), some (bdD b), some (.int top), some (.int bot)]) := by
    have yes : Bk 1000 (some (nb, t)) := Sm.mono (k := 402) s3 (by decide)
    by_cases h3 : w % 8 < 3
    · have q3 : decide (w % 8 < 3) = true := decide_eq_true h3
      exact ⟨none, trivial, st_ifT (by simp only [retOf, sNil, sThen, sSeq, sRet, sDrop, sSet, sIf, sPar, sUn2, sFor, asL, gSet, forD, fVar, fC, f2, f1, fT, asB, fNotT, fAndT, fOrT, fAndV, fOrV, gNot, gNeg, faNil, faCons, fTup, fLst, fCall, gAbs, gInt, gLen_t2, gLen_seq, gIx_t0, gIx_t1, gI0, gAdd_int, gNe_int, gEq_int, gEq_bl, gEq_tup2, gNe_tup2, gIsi_same, Dl.isInt, Dl.isBool, Dl.isTup, Option.bind_some, Option.map_some, List.map_cons, List.map_nil, List.length_cons, List.length_nil, List.getElem?_cons_zero, List.getElem?_cons_succ, List.set_cons_zero, List.set_cons_succ, List.cons_append, List.nil_append, List.append_nil, Bool.not_true, Bool.not_false, beq_self_eq_true, bdD_none, bdD_some, gIsN, isNon, sSetM, sRetM, sDropM, vI, vName, vShare, vWalk, vNil, vCons, vLst, vTup, vCall, sh_bd, gLt, gI_pos (C := fun _ j => 0 < j) (i := w) (j := 8) (by decide), q3]) rfl⟩
    · have q3 : decide (w % 8 < 3) = false := decide_eq_false h3
      cases hij : ((i : Int) == (j : Int)) with
      | false => exact ⟨some (nb, t), yes, st_ifF (by simp only [retOf, sNil, sThen, sSeq, sRet, sDrop, sSet, sIf, sPar, sUn2, sFor, asL, gSet, forD, fVar, fC, f2, f1, fT, asB, fNotT, fAndT, fOrT, fAndV, fOrV, gNot, gNeg, faNil, faCons, fTup, fLst, fCall, gAbs, gInt, gLen_t2, gLen_seq, gIx_t0, gIx_t1, gI0, gAdd_int, gNe_int, gEq_int, gEq_bl, gEq_tup2, gNe_tup2, gIsi_same, Dl.isInt, Dl.isBool, Dl.isTup, Option.bind_some, Option.map_some, List.map_cons, List.map_nil, List.length_cons, List.length_nil, List.getElem?_cons_zero, List.getElem?_cons_succ, List.set_cons_zero, List.set_cons_succ, List.cons_append, List.nil_append, List.append_nil, Bool.not_true, Bool.not_false, beq_self_eq_true, bdD_none, bdD_some, gIsN, isNon, sSetM, sRetM, sDropM, vI, vName, vShare, vWalk, vNil, vCons, vLst, vTup, vCall, sh_bd, gLt, gEqN_int, gI_pos (C := fun _ j => 0 < j) (i := w) (j := 8) (by decide), q3, hij]) rfl⟩
      | true =>
        by_cases h6 : w % 8 < 6
        · have q6 : decide (w % 8 < 6) = true := decide_eq_true h6
          exact ⟨none, trivial, st_ifT (by simp only [retOf, sNil, sThen, sSeq, sRet, sDrop, sSet, sIf, sPar, sUn2, sFor, asL, gSet, forD, fVar, fC, f2, f1, fT, asB, fNotT, fAndT, fOrT, fAndV, fOrV, gNot, gNeg, faNil, faCons, fTup, fLst, fCall, gAbs, gInt, gLen_t2, gLen_seq, gIx_t0, gIx_t1, gI0, gAdd_int, gNe_int, gEq_int, gEq_bl, gEq_tup2, gNe_tup2, gIsi_same, Dl.isInt, Dl.isBool, Dl.isTup, Option.bind_some, Option.map_some, List.map_cons, List.map_nil, List.length_cons, List.length_nil, List.getElem?_cons_zero, List.getElem?_cons_succ, List.set_cons_zero, List.set_cons_succ, List.cons_append, List.nil_append, List.append_nil, Bool.not_true, Bool.not_false, beq_self_eq_true, bdD_none, bdD_some, gIsN, isNon, sSetM, sRetM, sDropM, vI, vName, vShare, vWalk, vNil, vCons, vLst, vTup, vCall, sh_bd, gLt, gEqN_int, gI_pos (C := fun _ j => 0 < j) (i := w) (j := 8) (by decide), q3, hij, q6]) rfl⟩
        · have q6 : decide (w % 8 < 6) = false := decide_eq_false h6
          exact ⟨some (nb, t), yes, st_ifF (by simp only [retOf, sNil, sThen, sSeq, sRet, sDrop, sSet, sIf, sPar, sUn2, sFor, asL, gSet, forD, fVar, fC, f2, f1, fT, asB, fNotT, fAndT, fOrT, fAndV, fOrV, gNot, gNeg, faNil, faCons, fTup, fLst, fCall, gAbs, gInt, gLen_t2, gLen_seq, gIx_t0, gIx_t1, gI0, gAdd_int, gNe_int, gEq_int, gEq_bl, gEq_tup2, gNe_tup2, gIsi_same, Dl.isInt, Dl.isBool, Dl.isTup, Option.bind_some, Option.map_some, List.map_cons, List.map_nil, List.length_cons, List.length_nil, List.getElem?_cons_zero, List.getElem?_cons_succ, List.set_cons_zero, List.set_cons_succ, List.cons_append, List.nil_append, List.append_nil, Bool.not_true, Bool.not_false, beq_self_eq_true, bdD_none, bdD_some, gIsN, isNon, sSetM, sRetM, sDropM, vI, vName, vShare, vWalk, vNil, vCons, vLst, vTup, vCall, sh_bd, gLt, gEqN_int, gI_pos (C := fun _ j => 0 < j) (i := w) (j := 8) (by decide), q3, hij, q6]) rfl⟩
  refine ⟨bb, some (.int w), some (.int nb), some (.int top), some (.int bot), hbb, ?_⟩
  refine st_seq (st_un (ds := [.int top, .int bot]) (v_imm (by simp only [retOf, sNil, sThen, sSeq, sRet, sDrop, sSet, sIf, sPar, sUn2, sFor, asL, gSet, forD, fVar, fC, f2, f1, fT, asB, fNotT, fAndT, fOrT, fAndV, fOrV, gNot, gNeg, faNil, faCons, fTup, fLst, fCall, gAbs, gInt, gLen_t2, gLen_seq, gIx_t0, gIx_t1, gI0, gAdd_int, gNe_int, gEq_int, gEq_bl, gEq_tup2, gNe_tup2, gIsi_same, Dl.isInt, Dl.isBool, Dl.isTup, Option.bind_some, Option.map_some, List.map_cons, List.map_nil, List.length_cons, List.length_nil, List.getElem?_cons_zero, List.getElem?_cons_succ, List.set_cons_zero, List.set_cons_succ, List.cons_append, List.nil_append, List.append_nil, Bool.not_true, Bool.not_false, beq_self_eq_true, bdD_none, bdD_some, gIsN, isNon, sSetM, sRetM, sDropM, vI, vName, vShare, vWalk, vNil, vCons, vLst, vTup, vCall, sh_bd, (ix_vals hi).1, (ix_vals hj).1, le])) rfl rfl) (st_seq (st_set (v_call (ds := [.int (cell ns (8 + ((ps.length : Int) + 1) * (i : Int) + (j : Int))), .int (9 * (i : Int) + (j : Int))]) ?ar mx rfl)) (st_seq (st_set (v_imm (d := .int nb) ?nb)) (st_seq (st_set (v_imm (d := .tup [.int nb, .bl t]) ?tp)) (st_seq hst ?_))))
  case ar => simp only [setO, retOf, sNil, sThen, sSeq, sRet, sDrop, sSet, sIf, sPar, sUn2, sFor, asL, gSet, forD, fVar, fC, f2, f1, fT, asB, fNotT, fAndT, fOrT, fAndV, fOrV, gNot, gNeg, faNil, faCons, fTup, fLst, fCall, gAbs, gInt, gLen_t2, gLen_seq, gIx_t0, gIx_t1, gI0, gAdd_int, gNe_int, gEq_int, gEq_bl, gEq_tup2, gNe_tup2, gIsi_same, Dl.isInt, Dl.isBool, Dl.isTup, Option.bind_some, Option.map_some, List.map_cons, List.map_nil, List.length_cons, List.length_nil, List.getElem?_cons_zero, List.getElem?_cons_succ, List.set_cons_zero, List.set_cons_succ, List.cons_append, List.nil_append, List.append_nil, Bool.not_true, Bool.not_false, beq_self_eq_true, bdD_none, bdD_some, gIsN, isNon, sSetM, sRetM, sDropM, vI, vName, vShare, vWalk, vNil, vCons, vLst, vTup, vCall, sh_bd, len, gI_pos (C := CMulB) ml, ca, gI_pos (C := CMulB) mi9]
  case nb => simp only [setO, retOf, sNil, sThen, sSeq, sRet, sDrop, sSet, sIf, sPar, sUn2, sFor, asL, gSet, forD, fVar, fC, f2, f1, fT, asB, fNotT, fAndT, fOrT, fAndV, fOrV, gNot, gNeg, faNil, faCons, fTup, fLst, fCall, gAbs, gInt, gLen_t2, gLen_seq, gIx_t0, gIx_t1, gI0, gAdd_int, gNe_int, gEq_int, gEq_bl, gEq_tup2, gNe_tup2, gIsi_same, Dl.isInt, Dl.isBool, Dl.isTup, Option.bind_some, Option.map_some, List.map_cons, List.map_nil, List.length_cons, List.length_nil, List.getElem?_cons_zero, List.getElem?_cons_succ, List.set_cons_zero, List.set_cons_succ, List.cons_append, List.nil_append, List.append_nil, Bool.not_true, Bool.not_false, beq_self_eq_true, bdD_none, bdD_some, gIsN, isNon, sSetM, sRetM, sDropM, vI, vName, vShare, vWalk, vNil, vCons, vLst, vTup, vCall, sh_bd, gI_pos (C := CDivB) dn, gI_pos (C := CDivB) d8, gI_pos (C := fun _ j => 0 < j) (i := w / 8) (j := 3) (by decide), hnb]
  case tp => exact f_tup2 (a := .int nb) (b := .bl t) rfl ht
  rw [rowD_snoc]
  exact app2_last rfl (by rw [len_rowsO, hT]; rfl) (vName_bd rfl) (by rw [len_rowD]; omega)
theorem t__law_planted {ns : List Int} {d1 : D} {ps : List (Int × Int)} (h1 : IsP d1 ps) (hp : ∀ p ∈ ps, Fr 200 p) (hl : ps.length ≤ 40) : ∃ T, Grown T (ps.length + 1) (ps.length + 1) ∧ fn S__law_planted [.seq (ns.map D.int), d1] = some (ownD T) := by
  have e0 : startM 11 [.seq (ns.map D.int), d1] = [some (.seq (ns.map D.int)), some (.seq (ps.map fr)), none, none, none, none, none, none, none, none, none] := by
    show [some (sh (.seq (ns.map D.int))), some (sh d1), none, none, none, none, none, none, none, none, none] = _
    rw [sh, shs_ints, show sh d1 = _ from h1]
  have len : gLen [.lst ((vals ps).map fr)] = some (.int ((ps.length + 1 : Nat) : Int)) := by
    show some (D.int (((vals ps).map fr).length : Int)) = _
    rw [List.length_map]
    rfl
  have hr := fun t o4 o5 o6 o7 o8 o9 o10 => v_range (g := faCons (fCall gLen (faCons (fVar 2) faNil)) faNil) (δ := [some (.seq (ns.map D.int)), some (.seq (ps.map fr)), some (.lst ((vals ps).map fr)), t, o4, o5, o6, o7, o8, o9, o10]) (n := ps.length + 1) (by simp only [retOf, sNil, sThen, sSeq, sRet, sDrop, sSet, sIf, sPar, sUn2, sFor, asL, gSet, forD, fVar, fC, f2, f1, fT, asB, fNotT, fAndT, fOrT, fAndV, fOrV, gNot, gNeg, faNil, faCons, fTup, fLst, fCall, gAbs, gInt, gLen_t2, gLen_seq, gIx_t0, gIx_t1, gI0, gAdd_int, gNe_int, gEq_int, gEq_bl, gEq_tup2, gNe_tup2, gIsi_same, Dl.isInt, Dl.isBool, Dl.isTup, Option.bind_some, Option.map_some, List.map_cons, List.map_nil, List.length_cons, List.length_nil, List.getElem?_cons_zero, List.getElem?_cons_succ, List.set_cons_zero, List.set_cons_succ, List.cons_append, List.nil_append, List.append_nil, Bool.not_true, Bool.not_false, beq_self_eq_true, bdD_none, bdD_some, gIsN, isNon, sSetM, sRetM, sDropM, vI, vName, vShare, vWalk, vNil, vCons, vLst, vTup, vCall, sh_bd, len]) (by omega)
  have inner : ∀ (T : List (List Bn)) (i : Nat) (o5 o6 o7 o8 o9 o10 : Option D), T.length = i → i < ps.length + 1 → ∃ δ', Dl.forM 5 ((sSeq (sUnM [9, 10] (vI (fCall (fn S__law_less) (faCons (f2 gIx (fVar 2) (fVar 4)) (faCons (f2 gIx (fVar 2) (fVar 5)) faNil))))) (sSeq (sSetM 6 (vCall (fn S__law_mixed) (faCons (fCall (fn S__law_cell_at) (faCons (fVar 0) (faCons (f2 gAdd (f2 gAdd (fC (.int 8)) (f2 (gI CMulB fun i j => .int (i * j)) (fCall gLen (faCons (fVar 2) faNil)) (fVar 4))) (fVar 5)) faNil))) (faCons (f2 gAdd (f2 (gI CMulB fun i j => .int (i * j)) (fC (.int 9)) (fVar 4)) (fVar 5)) faNil)))) (sSeq (sSetM 7 (vI (f2 gAdd (f1 gNeg (f2 (gI CDivB fun i j => .int (i / j)) (f1 gNeg (fVar 9)) (fVar 10))) (f2 (gI (fun _ j => 0 < j) fun i j => .int (i % j)) (f2 (gI CDivB fun i j => .int (i / j)) (fVar 6) (fC (.int 8))) (fC (.int 3)))))) (sSeq (sSetM 8 (vI (fTup (faCons (fVar 7) (faCons (fAndV (f2 gGt (f2 (gI CMulB fun i j => .int (i * j)) (fVar 7) (fVar 10)) (fVar 9)) (f2 gEqN (f2 (gI (fun _ j => 0 < j) fun i j => .int (i % j)) (f2 (gI CDivB fun i j => .int (i / j)) (fVar 6) (fC (.int 24))) (fC (.int 2))) (fC (.int 1)))) faNil))))) (sSeq (sIf (fOrT (fT (f2 gLt (f2 (gI (fun _ j => 0 < j) fun i j => .int (i % j)) (fVar 6) (fC (.int 8))) (fC (.int 3)))) (fAndT (fT (f2 gEqN (fVar 4) (fVar 5))) (fT (f2 gLt (f2 (gI (fun _ j => 0 < j) fun i j => .int (i % j)) (fVar 6) (fC (.int 8))) (fC (.int 6)))))) (sSetM 8 (vI (fC .non))) sNil) (sApp2 3 (fVar 4) (vName 8)))))))) ((List.range (ps.length + 1)).map fun (i : Nat) => D.int (i : Int)) [some (.seq (ns.map D.int)), some (.seq (ps.map fr)), some (.lst ((vals ps).map fr)), some (.lst (rowsO T ++ [.lst (rowD [])])), some (.int (i : Int)), o5, o6, o7, o8, o9, o10] = some (.nx δ') ∧ ∃ (r : List Bn) (o5 o6 o7 o8 o9 o10 : Option D), r.length = (List.range (ps.length + 1)).length ∧ (∀ b ∈ r, Bk 1000 b) ∧ δ' = [some (.seq (ns.map D.int)), some (.seq (ps.map fr)), some (.lst ((vals ps).map fr)), some (.lst (rowsO T ++ [.lst (rowD r)])), some (.int (i : Int)), o5, o6, o7, o8, o9, o10] := by
    intro T i o5 o6 o7 o8 o9 o10 hT hi
    refine forM_pre (f := fun (i : Nat) => D.int (i : Int)) (fun pre δ => ∃ (r : List Bn) (o5 o6 o7 o8 o9 o10 : Option D), r.length = pre.length ∧ (∀ b ∈ r, Bk 1000 b) ∧ δ = [some (.seq (ns.map D.int)), some (.seq (ps.map fr)), some (.lst ((vals ps).map fr)), some (.lst (rowsO T ++ [.lst (rowD r)])), some (.int (i : Int)), o5, o6, o7, o8, o9, o10]) (List.range (ps.length + 1)) ?_ (List.range (ps.length + 1)) [] _ rfl ⟨[], o5, o6, o7, o8, o9, o10, rfl, (fun _ m => nomatch m), rfl⟩
    rintro pre x post _ hx ⟨r, o5, o6, o7, o8, o9, o10, hr, hb, rfl⟩
    obtain ⟨rfl, hl'⟩ := range_at hx
    obtain ⟨b, p6, p7, p9, p10, hbb, st⟩ := pl_in ns (.seq (ps.map fr)) ps T r i pre.length o6 o7 o8 o9 o10 hp hT hr hl hi hl'
    refine ⟨_, st, r ++ [b], _, _, _, _, _, _, by rw [List.length_append, List.length_append, hr]; rfl, fun z hz => ?_, rfl⟩
    rcases List.mem_append.mp hz with hz | hz
    · exact hb z hz
    · rw [List.mem_singleton.mp hz]; exact hbb
  obtain ⟨_, w, T, o4, o5, o6, o7, o8, o9, o10, hG, rfl⟩ := forM_pre (i := 4) (s := ((sSeq (sApp 3 (vLst vNil)) (sForM (vRange (faCons (fCall gLen (faCons (fVar 2) faNil)) faNil)) 5 (sSeq (sUnM [9, 10] (vI (fCall (fn S__law_less) (faCons (f2 gIx (fVar 2) (fVar 4)) (faCons (f2 gIx (fVar 2) (fVar 5)) faNil))))) (sSeq (sSetM 6 (vCall (fn S__law_mixed) (faCons (fCall (fn S__law_cell_at) (faCons (fVar 0) (faCons (f2 gAdd (f2 gAdd (fC (.int 8)) (f2 (gI CMulB fun i j => .int (i * j)) (fCall gLen (faCons (fVar 2) faNil)) (fVar 4))) (fVar 5)) faNil))) (faCons (f2 gAdd (f2 (gI CMulB fun i j => .int (i * j)) (fC (.int 9)) (fVar 4)) (fVar 5)) faNil)))) (sSeq (sSetM 7 (vI (f2 gAdd (f1 gNeg (f2 (gI CDivB fun i j => .int (i / j)) (f1 gNeg (fVar 9)) (fVar 10))) (f2 (gI (fun _ j => 0 < j) fun i j => .int (i % j)) (f2 (gI CDivB fun i j => .int (i / j)) (fVar 6) (fC (.int 8))) (fC (.int 3)))))) (sSeq (sSetM 8 (vI (fTup (faCons (fVar 7) (faCons (fAndV (f2 gGt (f2 (gI CMulB fun i j => .int (i * j)) (fVar 7) (fVar 10)) (fVar 9)) (f2 gEqN (f2 (gI (fun _ j => 0 < j) fun i j => .int (i % j)) (f2 (gI CDivB fun i j => .int (i / j)) (fVar 6) (fC (.int 24))) (fC (.int 2))) (fC (.int 1)))) faNil))))) (sSeq (sIf (fOrT (fT (f2 gLt (f2 (gI (fun _ j => 0 < j) fun i j => .int (i % j)) (fVar 6) (fC (.int 8))) (fC (.int 3)))) (fAndT (fT (f2 gEqN (fVar 4) (fVar 5))) (fT (f2 gLt (f2 (gI (fun _ j => 0 < j) fun i j => .int (i % j)) (fVar 6) (fC (.int 8))) (fC (.int 6)))))) (sSetM 8 (vI (fC .non))) sNil) (sApp2 3 (fVar 4) (vName 8))))))))))) (f := fun (i : Nat) => D.int (i : Int)) (fun pre δ => ∃ (T : List (List Bn)) (o4 o5 o6 o7 o8 o9 o10 : Option D), Grown T pre.length (ps.length + 1) ∧ δ = [some (.seq (ns.map D.int)), some (.seq (ps.map fr)), some (.lst ((vals ps).map fr)), some (ownD T), o4, o5, o6, o7, o8, o9, o10]) (List.range (ps.length + 1)) (by
    rintro pre x post _ hx ⟨T, o4, o5, o6, o7, o8, o9, o10, hG, rfl⟩
    obtain ⟨rfl, hl'⟩ := range_at hx
    obtain ⟨_, w, r, p5, p6, p7, p8, p9, p10, h1, h2, rfl⟩ := inner T pre.length o5 o6 o7 o8 o9 o10 hG.len hl'
    refine ⟨_, st_seq (st_app (ds := rowsO T) (d := .lst []) rfl rfl (by rw [len_rowsO, hG.len]; omega)) (st_for (hr _ _ _ _ _ _ _ _) w), T ++ [r], some (.int (pre.length : Int)), p5, p6, p7, p8, p9, p10, ?_, ?_⟩
    · rw [List.length_append]
      exact hG.snoc (by rw [h1, List.length_range]) h2
    · unfold ownD
      rw [rowsO_snoc]) (List.range (ps.length + 1)) [] [some (.seq (ns.map D.int)), some (.seq (ps.map fr)), some (.lst ((vals ps).map fr)), some (.lst []), none, none, none, none, none, none, none] rfl ⟨[], none, none, none, none, none, none, none, ⟨rfl, (fun _ m => nomatch m), (fun _ m => nomatch m)⟩, rfl⟩
  have cat : vCatS (fLst (faCons (fTup (faCons (fC (.int 0)) (faCons (fC (.int 1)) faNil))) faNil)) (fVar 1) [some (.seq (ns.map D.int)), some (.seq (ps.map fr)), none, none, none, none, none, none, none, none, none] = some (.lst ((vals ps).map fr), [some (.seq (ns.map D.int)), some (.seq (ps.map fr)), none, none, none, none, none, none, none, none, none]) := v_catS (a := .lst [fr (0, 1)]) (xs := [fr (0, 1)]) (ys := ps.map fr) rfl rfl rfl rfl (by rw [List.length_map]; simp only [List.length_cons, List.length_nil]; omega) (imms_frs (vals ps))
  have key : S__law_planted [.seq (ns.map D.int), d1] (ownD T) := by
    refine ⟨?_, own_ownD T⟩
    rw [e0]
    exact rt_of (st_seq (st_set cat) (st_seq (st_set (d := .lst []) rfl) (st_seq (st_for (hr _ _ _ _ _ _ _ _) w) (st_ret (v_move rfl)))))
  exact ⟨T, by rw [List.length_range] at hG; exact hG, fn_eq (fun d' h' => Option.some.inj (h'.1.symm.trans key.1)) key⟩
theorem ok__law_planted (F : Fun K "_law_planted" "_law_planted" s__law_planted f fd) (hLless : Has P w K mg base 1 "_law_less" ["_law_one", "_law_other"] (fn S__law_less)) (hLmixed : HasF P w K mg base 1 "_law_mixed" ["_law_cell", "_law_k"] (fn S__law_mixed)) (hLcell_at : Has P w K mg base 1 "_law_cell_at" ["_law_script", "_law_k"] (fn S__law_cell_at))  (m_range : mg "range" = none) (m_len : mg "len" = none) : FnOk P w K mg base CX0 2 f fd ["_law_script", "_law_point"] (freshSp K 2 (fn S__law_planted)) := by
  have sc := sc__law_planted
  refine fresh_ok F sc__law_planted (fun cdv A outer s H E ds d hr hG hl => ?_)
  have hb := fn_inv hG
  have hown := hb.2
  refine ⟨_, (pm_cons (pm_set 2 sc.nd (pv_catS (pd_lst (pad_cons (pd_tup (pad_cons pd_int (pad_cons pd_int pad_nil))) pad_nil)) (pd_var 1)))
      (pm_cons (pm_set 3 sc.nd (pv_lst pva_nil))
      (pm_cons (pm_for 4 sc.nd PassesOwn.never rfl (pim_range1 rfl m_range (pad_cons (pd_callB call_len_seq cd_len rfl m_len PySem.boot_len (pad_cons (pd_var 2) pad_nil)) pad_nil))
        (pm_cons (pm_app 3 (pe_bm PySem.F.plainAttrs_list PySem.F.slot_list_append PySem.F.type_list_append mt_append (pvi 3) (pa_cons (pv_lst pva_nil) pa_nil)))
        (pm_one (pm_for 5 sc.nd PassesOwn.never rfl (pim_range1 rfl m_range (pad_cons (pd_callB call_len_seq cd_len rfl m_len PySem.boot_len (pad_cons (pd_var 2) pad_nil)) pad_nil))
          (pm_cons (pm_un [9, 10] (pv_imm (pd_callH hLless hr (pad_cons (pd_ix (pd_var 2) (pd_var 4)) (pad_cons (pd_ix (pd_var 2) (pd_var 5)) pad_nil)))) (pg_tup rfl (pgs_cons (pgN 9 sc.nd) (pgs_cons (pgN 10 sc.nd) pgs_nil))))
          (pm_cons (pm_set 6 sc.nd (pv_call hLmixed hr (pad_cons (pd_callH hLcell_at hr (pad_cons (pd_var 0) (pad_cons (pd_add (pd_add pd_int (pd_mul (pd_callB call_len_seq cd_len rfl m_len PySem.boot_len (pad_cons (pd_var 2) pad_nil)) (pd_var 4))) (pd_var 5)) pad_nil))) (pad_cons (pd_add (pd_mul pd_int (pd_var 4)) (pd_var 5)) pad_nil))))
          (pm_cons (pm_set 7 sc.nd (pv_imm (pd_add (pd_neg (pd_fdiv (pd_neg (pd_var 9)) (pd_var 10))) (pd_mod (pd_fdiv (pd_var 6) pd_int) pd_int))))
          (pm_cons (pm_set 8 sc.nd (pv_imm (pd_tup (pad_cons (pd_var 7) (pad_cons (pd_and (pd_gt (pd_mul (pd_var 7) (pd_var 10)) (pd_var 9)) (pd_one (pd_eqN hr.units (pd_mod (pd_fdiv (pd_var 6) pd_int) pd_int) pd_int))) pad_nil)))))
          (pm_cons (pm_if (PWD.pt (pwd_or (ptd_lt (pd_mod (pd_var 6) pd_int) pd_int) (pwd_or1 (PWD.pt (pwd_and (ptd_eqN hr.units (pd_var 4) (pd_var 5)) (pwd_and1 (ptd_lt (pd_mod (pd_var 6) pd_int) pd_int))))))) (pm_one (pm_set 8 sc.nd (pv_imm pd_non))) pm_nil)
          (pm_one (pm_app2 3 (pe_bm PySem.F.plainAttrs_list PySem.F.slot_list_append PySem.F.type_list_append mt_append (pe_ix ix_list (pvi 3) (pd_var 4) (fun _ _ => rfl)) (pa_cons (pv_name 8) pa_nil)))))))))))))
      (pm_one (pm_ret (pv_name 3)))))), ?_, ?own⟩
  case own => first | rfl | exact hown
  · show retOf ((?f : SD) (startM 11 _)) = _
    exact hb.1
abbrev s__law_closed : Stmt := top 34
theorem sc__law_closed : FnScope ["_law_table", "_law_made", "_law_i", "_law_turn", "_law_longer", "_law_j", "_law_m", "_law_beyond"] ["_law_table"] (defScope s__law_closed) := ⟨rfl, rfl, rfl, by decide +kernel, rfl, by decide +kernel, by decide +kernel⟩
theorem ok__law_closed (F : Fun K "_law_closed" "_law_closed" s__law_closed f fd) (hLtighter : Has P w K mg base 1 "_law_tighter" ["_law_one", "_law_other"] (fn S__law_tighter)) (hLsum : Has P w K mg base 1 "_law_sum" ["_law_one", "_law_other"] (fn S__law_sum))  (m_range : mg "range" = none) (m_any : mg "any" = none) (m_list : mg "list" = none) (m_len : mg "len" = none) : FnOk P w K mg base CX0 2 f fd ["_law_table"] (freshSp K 1 (fn S__law_closed)) := by
  have sc := sc__law_closed
  refine fresh_ok F sc__law_closed (fun cdv A outer s H E ds d hr hG hl => ?_)
  obtain ⟨d0, T, n, hT, hs, hn, rfl, rfl⟩ := fn_inv hG
  have hown := own_lawC n T
  refine ⟨_, (pm_cons (pm_set 1 sc.nd (pv_comp (by exact (pid_list (pd_var 0))) (N := ["_law_row"]) (js := []) (cl := []) (fun _ _ _ _ _ => by exact (pv_listof rfl m_list boot_list (pad_cons (pd_var 0) pad_nil))) (by exact CompOk.nil)))
      (pm_cons (pm_for 2 sc.nd PassesOwn.never rfl (pim_range1 rfl m_range (pad_cons (pd_callB call_len_seq cd_len rfl m_len PySem.boot_len (pad_cons (pd_var 1) pad_nil)) pad_nil))
        (pm_one (pm_if (ptd_not (ptd_val (pd_callH hLtighter hr (pad_cons (pd_ix (pd_ix (pd_var 1) (pd_var 2)) (pd_var 2)) (pad_cons (pd_tup (pad_cons pd_int (pad_cons pd_bl pad_nil))) pad_nil))))) (pm_one (pm_put2 1 (pv_imm (pd_tup (pad_cons pd_int (pad_cons pd_bl pad_nil)))) (pg_sub (pe_ix ix_list (pvi 1) (pd_var 2) (fun _ _ => rfl)) (pd_var 2) set_list))) pm_nil)))
      (pm_cons (pm_for 3 sc.nd PassesOwn.never rfl (pim_range1 rfl m_range (pad_cons pd_int pad_nil))
        (pm_cons (pm_comp 4 sc.nd (by exact (pid_list (pd_var 1))) (N := ["_law_row"]) (js := []) (cl := []) (fun _ _ _ _ _ => by exact (pv_listof rfl m_list boot_list (pad_cons (pd_var 0) pad_nil))) (by exact CompOk.nil))
        (pm_cons (pm_for 2 sc.nd PassesOwn.never rfl (pim_range1 rfl m_range (pad_cons (pd_callB call_len_seq cd_len rfl m_len PySem.boot_len (pad_cons (pd_var 1) pad_nil)) pad_nil))
          (pm_one (pm_for 5 sc.nd PassesOwn.never rfl (pim_range1 rfl m_range (pad_cons (pd_callB call_len_seq cd_len rfl m_len PySem.boot_len (pad_cons (pd_var 1) pad_nil)) pad_nil))
            (pm_one (pm_for 6 sc.nd PassesOwn.never rfl (pim_range1 rfl m_range (pad_cons (pd_callB call_len_seq cd_len rfl m_len PySem.boot_len (pad_cons (pd_var 1) pad_nil)) pad_nil))
              (pm_cons (pm_set 7 sc.nd (pv_imm (pd_callH hLsum hr (pad_cons (pd_ix (pd_ix (pd_var 1) (pd_var 2)) (pd_var 6)) (pad_cons (pd_ix (pd_ix (pd_var 1) (pd_var 6)) (pd_var 5)) pad_nil)))))
              (pm_one (pm_if (ptd_val (pd_callH hLtighter hr (pad_cons (pd_var 7) (pad_cons (pd_ix (pd_ix (pd_var 4) (pd_var 2)) (pd_var 5)) pad_nil)))) (pm_one (pm_put2 4 (pv_name 7) (pg_sub (pe_ix ix_list (pvi 4) (pd_var 2) (fun _ _ => rfl)) (pd_var 5) set_list))) pm_nil))))))))
        (pm_one (pm_set 1 sc.nd (pv_name 4))))))
      (pm_cons (pm_if (ptd_val (pd_callB (call_any rfl) cd_any rfl m_any boot_anyB (pad_cons (pd_comp (by exact (pid_range1 rfl m_range (pad_cons (pd_callB call_len_seq cd_len rfl m_len PySem.boot_len (pad_cons (pd_var 1) pad_nil)) pad_nil))) (N := ["_law_i", "_law_made"]) (js := [1]) (cl := [("_law_made", _)]) (fun _ _ _ _ _ => by exact (pd_neN hr.units (pd_ix (pd_ix (pd_var 1) (pd_var 0)) (pd_var 0)) (pd_tup (pad_cons pd_int (pad_cons pd_bl pad_nil))))) (by exact CompOk.one)) pad_nil))) (pm_one (pm_ret (pv_imm pd_non))) pm_nil)
      (pm_one (pm_ret (pv_name 1))))))), ?_, ?own⟩
  case own => first | rfl | exact hown
  · show retOf ((?f : SD) (startM 8 _)) = _
    have e0 : startM 8 [d0] = [some (tabD T), none, none, none, none, none, none, none] := by
      show [some (sh d0), none, none, none, none, none, none, none] = _
      rw [show sh d0 = tabD T from hT]
    rw [e0]
    have hv := fun (f : Nat → Nat → Bn) (o2 o3 o4 o5 o6 o7 : Option D) => v_range (g := faCons (fCall gLen (faCons (fVar 1) faNil)) faNil) (δ := [some (tabD T), some (ownD (tabF n f)), o2, o3, o4, o5, o6, o7]) (n := n) (by simp only [retOf, sNil, sThen, sSeq, sRet, sDrop, sSet, sIf, sPar, sUn2, sFor, asL, gSet, forD, fVar, fC, f2, f1, fT, asB, fNotT, fAndT, fOrT, fAndV, fOrV, gNot, gNeg, faNil, faCons, fTup, fLst, fCall, gAbs, gInt, gLen_t2, gLen_seq, gIx_t0, gIx_t1, gI0, gAdd_int, gNe_int, gEq_int, gEq_bl, gEq_tup2, gNe_tup2, gIsi_same, Dl.isInt, Dl.isBool, Dl.isTup, Option.bind_some, Option.map_some, List.map_cons, List.map_nil, List.length_cons, List.length_nil, List.getElem?_cons_zero, List.getElem?_cons_succ, List.set_cons_zero, List.set_cons_succ, List.cons_append, List.nil_append, List.append_nil, Bool.not_true, Bool.not_false, beq_self_eq_true, bdD_none, bdD_some, gIsN, isNon, sSetM, sRetM, sDropM, vI, vName, vShare, vWalk, vNil, vCons, vLst, vTup, vCall, sh_bd, len_own (tabF_sq n f)]) (by omega)
    obtain ⟨_, w0, o2, rfl⟩ := forM_pre (i := 2) (s := ((sIf (fNotT (fT (fCall (fn S__law_tighter) (faCons (f2 gIx (f2 gIx (fVar 1) (fVar 2)) (fVar 2)) (faCons (fTup (faCons (fC (.int 0)) (faCons (fC (.bl false)) faNil))) faNil))))) (sPut2 1 (fVar 2) (fVar 2) (vI (fTup (faCons (fC (.int 0)) (faCons (fC (.bl false)) faNil))))) sNil))) (f := fun (i : Nat) => D.int (i : Int)) (fun pre δ => ∃ o2, δ = [some (tabD T), some (ownD (tabF n fun i j => if i = j ∧ i < pre.length ∧ tgt (cellT T i i) b0 = false then b0 else cellT T i j)), o2, none, none, none, none, none]) (List.range n) (by
      rintro pre x post _ hx ⟨o2, rfl⟩
      obtain ⟨rfl, hl⟩ := range_at hx
      rw [List.length_append, List.length_singleton]
      generalize pre.length = k at *
      obtain ⟨r1, q1, q2, q3, q4, q5⟩ := ix_own (tabF_sq n fun i j => if i = j ∧ i < k ∧ tgt (cellT T i i) b0 = false then b0 else cellT T i j) hl hl
      rw [cell_tabF _ hl hl, if_neg (by omega)] at q2
      have et := e_tighter (a := cellT T k k) (b := b0)
      have eb : bdD b0 = .tup [.int 0, .bl false] := rfl
      rw [eb] at et
      cases ht : tgt (cellT T k k) b0 with
      | false =>
        refine ⟨_, st_ifT (by simp only [retOf, sNil, sThen, sSeq, sRet, sDrop, sSet, sIf, sPar, sUn2, sFor, asL, gSet, forD, fVar, fC, f2, f1, fT, asB, fNotT, fAndT, fOrT, fAndV, fOrV, gNot, gNeg, faNil, faCons, fTup, fLst, fCall, gAbs, gInt, gLen_t2, gLen_seq, gIx_t0, gIx_t1, gI0, gAdd_int, gNe_int, gEq_int, gEq_bl, gEq_tup2, gNe_tup2, gIsi_same, Dl.isInt, Dl.isBool, Dl.isTup, Option.bind_some, Option.map_some, List.map_cons, List.map_nil, List.length_cons, List.length_nil, List.getElem?_cons_zero, List.getElem?_cons_succ, List.set_cons_zero, List.set_cons_succ, List.cons_append, List.nil_append, List.append_nil, Bool.not_true, Bool.not_false, beq_self_eq_true, bdD_none, bdD_some, gIsN, isNon, sSetM, sRetM, sDropM, vI, vName, vShare, vWalk, vNil, vCons, vLst, vTup, vCall, sh_bd, sh_int, q1, q2, et, ht]) (sPut2_v (b := b0) (tabF_sq n _) hl hl (v_imm (d := bdD b0) rfl (imm_bd b0)) rfl rfl rfl), some (.int (k : Int)), ?_⟩
        rw [set2_tabF _ _ hl hl]
        have e : tabF n (up2 (fun i j => if i = j ∧ i < k ∧ tgt (cellT T i i) b0 = false then b0 else cellT T i j) k k b0) = tabF n fun i j => if i = j ∧ i < k + 1 ∧ tgt (cellT T i i) b0 = false then b0 else cellT T i j := tabF_congr fun i j hi hj => by
          unfold up2
          by_cases a : i = k ∧ j = k
          · rw [if_pos a, if_pos ⟨by omega, by omega, by rw [a.1]; exact ht⟩]
          · rw [if_neg a]
            dsimp only
            by_cases b : i = j ∧ i < k ∧ tgt (cellT T i i) b0 = false
            · rw [if_pos b, if_pos ⟨b.1, by omega, b.2.2⟩]
            · rw [if_neg b, if_neg fun z => ?_]
              by_cases q : i < k
              · exact b ⟨z.1, q, z.2.2⟩
              · exact a ⟨by omega, by omega⟩
        rw [e]
        rfl
      | true =>
        refine ⟨_, st_ifF (by simp only [retOf, sNil, sThen, sSeq, sRet, sDrop, sSet, sIf, sPar, sUn2, sFor, asL, gSet, forD, fVar, fC, f2, f1, fT, asB, fNotT, fAndT, fOrT, fAndV, fOrV, gNot, gNeg, faNil, faCons, fTup, fLst, fCall, gAbs, gInt, gLen_t2, gLen_seq, gIx_t0, gIx_t1, gI0, gAdd_int, gNe_int, gEq_int, gEq_bl, gEq_tup2, gNe_tup2, gIsi_same, Dl.isInt, Dl.isBool, Dl.isTup, Option.bind_some, Option.map_some, List.map_cons, List.map_nil, List.length_cons, List.length_nil, List.getElem?_cons_zero, List.getElem?_cons_succ, List.set_cons_zero, List.set_cons_succ, List.cons_append, List.nil_append, List.append_nil, Bool.not_true, Bool.not_false, beq_self_eq_true, bdD_none, bdD_some, gIsN, isNon, sSetM, sRetM, sDropM, vI, vName, vShare, vWalk, vNil, vCons, vLst, vTup, vCall, sh_bd, sh_int, q1, q2, et, ht]) rfl, some (.int (k : Int)), ?_⟩
        have e : tabF n (fun i j => if i = j ∧ i < k ∧ tgt (cellT T i i) b0 = false then b0 else cellT T i j) = tabF n fun i j => if i = j ∧ i < k + 1 ∧ tgt (cellT T i i) b0 = false then b0 else cellT T i j := tabF_congr fun i j hi hj => by
          by_cases b : i = j ∧ i < k ∧ tgt (cellT T i i) b0 = false
          · rw [if_pos b, if_pos ⟨b.1, by omega, b.2.2⟩]
          · rw [if_neg b, if_neg fun z => ?_]
            by_cases q : i < k
            · exact b ⟨z.1, q, z.2.2⟩
            · have : i = k := by omega
              subst this
              have := z.2.2
              rw [ht] at this
              cases this
        rw [e]
        rfl) (List.range n) [] [some (tabD T), some (ownD T), none, none, none, none, none, none] rfl ⟨none, by
        have e : tabF n (fun i j => if i = j ∧ i < ([] : List Nat).length ∧ tgt (cellT T i i) b0 = false then b0 else cellT T i j) = T := (tabF_congr fun i j _ _ => if_neg fun z => by have := z.2.1; simp at this).trans (tabF_of hs)
        rw [e]⟩
    have e0' : tabF n (fun i j => if i = j ∧ i < (List.range n).length ∧ tgt (cellT T i i) b0 = false then b0 else cellT T i j) = tabF n (sqs n (cl0 T) 0) := tabF_congr fun i j hi hj => by
      show _ = cl0 T i j
      unfold cl0
      rw [List.length_range]
      by_cases a : i = j ∧ tgt (cellT T i i) b0 = false
      · rw [if_pos a, if_pos ⟨a.1, hi, a.2⟩]
      · rw [if_neg a, if_neg fun z => a ⟨z.1, z.2.2⟩]
    rw [e0'] at w0
    have turn : ∀ (f : Nat → Nat → Bn) (o2 o3 o4 o5 o6 o7 : Option D), ∃ δ', ((sSeq (sSetM 4 (vComp (fun δ => ((fVar 1) δ).bind asL) [] (vListOf (faCons (fVar 0) faNil)))) (sSeq (sForM (vRange (faCons (fCall gLen (faCons (fVar 1) faNil)) faNil)) 2 (sForM (vRange (faCons (fCall gLen (faCons (fVar 1) faNil)) faNil)) 5 (sForM (vRange (faCons (fCall gLen (faCons (fVar 1) faNil)) faNil)) 6 (sSeq (sSetM 7 (vI (fCall (fn S__law_sum) (faCons (f2 gIx (f2 gIx (fVar 1) (fVar 2)) (fVar 6)) (faCons (f2 gIx (f2 gIx (fVar 1) (fVar 6)) (fVar 5)) faNil))))) (sIf (fT (fCall (fn S__law_tighter) (faCons (fVar 7) (faCons (f2 gIx (f2 gIx (fVar 4) (fVar 2)) (fVar 5)) faNil)))) (sPut2 4 (fVar 2) (fVar 5) (vName 7)) sNil))))) (sSetM 1 (vName 4))))) [some (tabD T), some (ownD (tabF n f)), o2, o3, o4, o5, o6, o7] = some (.nx δ') ∧ ∃ o2 o3 o4 o5 o6 o7, δ' = [some (tabD T), some (ownD (tabF n (sq n f))), o2, o3, o4, o5, o6, o7] := by
      intro f o2 o3 o4 o5 o6 o7
      have fm : ∀ (i j : Nat), i < n → j < n → ∀ (o6 o7 : Option D), ∃ δ', Dl.forM 6 ((sSeq (sSetM 7 (vI (fCall (fn S__law_sum) (faCons (f2 gIx (f2 gIx (fVar 1) (fVar 2)) (fVar 6)) (faCons (f2 gIx (f2 gIx (fVar 1) (fVar 6)) (fVar 5)) faNil))))) (sIf (fT (fCall (fn S__law_tighter) (faCons (fVar 7) (faCons (f2 gIx (f2 gIx (fVar 4) (fVar 2)) (fVar 5)) faNil)))) (sPut2 4 (fVar 2) (fVar 5) (vName 7)) sNil))) ((List.range n).map fun (i : Nat) => D.int (i : Int)) [some (tabD T), some (ownD (tabF n f)), some (.int (i : Int)), o3, some (ownD (tabF n (lgr n f i j 0))), some (.int (j : Int)), o6, o7] = some (.nx δ') ∧ ∃ o6 o7, δ' = [some (tabD T), some (ownD (tabF n f)), some (.int (i : Int)), o3, some (ownD (tabF n (lgr n f i j n))), some (.int (j : Int)), o6, o7] := fun i j hi hj o6 o7 => by
        have := forM_pre (i := 6) (s := ((sSeq (sSetM 7 (vI (fCall (fn S__law_sum) (faCons (f2 gIx (f2 gIx (fVar 1) (fVar 2)) (fVar 6)) (faCons (f2 gIx (f2 gIx (fVar 1) (fVar 6)) (fVar 5)) faNil))))) (sIf (fT (fCall (fn S__law_tighter) (faCons (fVar 7) (faCons (f2 gIx (f2 gIx (fVar 4) (fVar 2)) (fVar 5)) faNil)))) (sPut2 4 (fVar 2) (fVar 5) (vName 7)) sNil)))) (f := fun (i : Nat) => D.int (i : Int)) (fun pre δ => ∃ o6 o7, δ = [some (tabD T), some (ownD (tabF n f)), some (.int (i : Int)), o3, some (ownD (tabF n (lgr n f i j pre.length))), some (.int (j : Int)), o6, o7]) (List.range n) (by
          rintro pre x post _ hx ⟨o6, o7, rfl⟩
          obtain ⟨rfl, hm⟩ := range_at hx
          rw [List.length_append, List.length_singleton]
          generalize pre.length = m at *
          obtain ⟨r1, q1, q2, q3, q4, q5⟩ := ix_own (tabF_sq n f) hi hm
          obtain ⟨r2, u1, u2, u3, u4, u5⟩ := ix_own (tabF_sq n f) hm hj
          obtain ⟨r3, v1, v2, v3, v4, v5⟩ := ix_own (tabF_sq n (lgr n f i j m)) hi hj
          rw [cell_tabF _ hi hm] at q2
          rw [cell_tabF _ hm hj] at u2
          rw [cell_tabF _ hi hj, lgr_at] at v2
          have s1 : ((sSetM 7 (vI (fCall (fn S__law_sum) (faCons (f2 gIx (f2 gIx (fVar 1) (fVar 2)) (fVar 6)) (faCons (f2 gIx (f2 gIx (fVar 1) (fVar 6)) (fVar 5)) faNil)))))) [some (tabD T), some (ownD (tabF n f)), some (.int (i : Int)), o3, some (ownD (tabF n (lgr n f i j m))), some (.int (j : Int)), some (.int (m : Int)), o7] = some (.nx [some (tabD T), some (ownD (tabF n f)), some (.int (i : Int)), o3, some (ownD (tabF n (lgr n f i j m))), some (.int (j : Int)), some (.int (m : Int)), some (bdD (bs (f i m) (f m j)))]) := st_setS (v_imm (d := bdD (bs (f i m) (f m j))) (by simp only [retOf, sNil, sThen, sSeq, sRet, sDrop, sSet, sIf, sPar, sUn2, sFor, asL, gSet, forD, fVar, fC, f2, f1, fT, asB, fNotT, fAndT, fOrT, fAndV, fOrV, gNot, gNeg, faNil, faCons, fTup, fLst, fCall, gAbs, gInt, gLen_t2, gLen_seq, gIx_t0, gIx_t1, gI0, gAdd_int, gNe_int, gEq_int, gEq_bl, gEq_tup2, gNe_tup2, gIsi_same, Dl.isInt, Dl.isBool, Dl.isTup, Option.bind_some, Option.map_some, List.map_cons, List.map_nil, List.length_cons, List.length_nil, List.getElem?_cons_zero, List.getElem?_cons_succ, List.set_cons_zero, List.set_cons_succ, List.cons_append, List.nil_append, List.append_nil, Bool.not_true, Bool.not_false, beq_self_eq_true, bdD_none, bdD_some, gIsN, isNon, sSetM, sRetM, sDropM, vI, vName, vShare, vWalk, vNil, vCons, vLst, vTup, vCall, sh_bd, q1, q2, u1, u2, e_bound_sum]) (imm_bd _))
          have et := e_tighter (a := bs (f i m) (f m j)) (b := sqf f i j (List.range m) (f i j))
          cases ht : tgt (bs (f i m) (f m j)) (sqf f i j (List.range m) (f i j)) with
          | false =>
            refine ⟨_, st_seq s1 (st_ifF (by simp only [retOf, sNil, sThen, sSeq, sRet, sDrop, sSet, sIf, sPar, sUn2, sFor, asL, gSet, forD, fVar, fC, f2, f1, fT, asB, fNotT, fAndT, fOrT, fAndV, fOrV, gNot, gNeg, faNil, faCons, fTup, fLst, fCall, gAbs, gInt, gLen_t2, gLen_seq, gIx_t0, gIx_t1, gI0, gAdd_int, gNe_int, gEq_int, gEq_bl, gEq_tup2, gNe_tup2, gIsi_same, Dl.isInt, Dl.isBool, Dl.isTup, Option.bind_some, Option.map_some, List.map_cons, List.map_nil, List.length_cons, List.length_nil, List.getElem?_cons_zero, List.getElem?_cons_succ, List.set_cons_zero, List.set_cons_succ, List.cons_append, List.nil_append, List.append_nil, Bool.not_true, Bool.not_false, beq_self_eq_true, bdD_none, bdD_some, gIsN, isNon, sSetM, sRetM, sDropM, vI, vName, vShare, vWalk, vNil, vCons, vLst, vTup, vCall, sh_bd, v1, v2, et, ht]) rfl), some (.int (m : Int)), some (bdD (bs (f i m) (f m j))), ?_⟩
            rw [← lgr_same f ht]
          | true =>
            have p1 := sPut2_v (T := tabF n (lgr n f i j m)) (b := bs (f i m) (f m j)) (δ := [some (tabD T), some (ownD (tabF n f)), some (.int (i : Int)), o3, some (ownD (tabF n (lgr n f i j m))), some (.int (j : Int)), some (.int (m : Int)), some (bdD (bs (f i m) (f m j)))]) (p := 4) (fk := fVar 2) (fl := fVar 5) (fm := vName 7) (tabF_sq n _) hi hj (vName_bd rfl) rfl rfl rfl
            have te : bs (f i m) (f m j) = tg2 (sqf f i j (List.range m) (f i j)) (bs (f i m) (f m j)) := by
              unfold tg2
              rw [ht]
              rfl
            have t2 : set2 (tabF n (lgr n f i j m)) i j (bs (f i m) (f m j)) = tabF n (lgr n f i j (m + 1)) := by
              rw [set2_tabF _ _ hi hj]
              conv => lhs; rw [te]
              exact lgr_m f hi hj
            rw [t2] at p1
            have cnd : (fT (fCall (fn S__law_tighter) (faCons (fVar 7) (faCons (f2 gIx (f2 gIx (fVar 4) (fVar 2)) (fVar 5)) faNil)))) [some (tabD T), some (ownD (tabF n f)), some (.int (i : Int)), o3, some (ownD (tabF n (lgr n f i j m))), some (.int (j : Int)), some (.int (m : Int)), some (bdD (bs (f i m) (f m j)))] = some true := by simp only [retOf, sNil, sThen, sSeq, sRet, sDrop, sSet, sIf, sPar, sUn2, sFor, asL, gSet, forD, fVar, fC, f2, f1, fT, asB, fNotT, fAndT, fOrT, fAndV, fOrV, gNot, gNeg, faNil, faCons, fTup, fLst, fCall, gAbs, gInt, gLen_t2, gLen_seq, gIx_t0, gIx_t1, gI0, gAdd_int, gNe_int, gEq_int, gEq_bl, gEq_tup2, gNe_tup2, gIsi_same, Dl.isInt, Dl.isBool, Dl.isTup, Option.bind_some, Option.map_some, List.map_cons, List.map_nil, List.length_cons, List.length_nil, List.getElem?_cons_zero, List.getElem?_cons_succ, List.set_cons_zero, List.set_cons_succ, List.cons_append, List.nil_append, List.append_nil, Bool.not_true, Bool.not_false, beq_self_eq_true, bdD_none, bdD_some, gIsN, isNon, sSetM, sRetM, sDropM, vI, vName, vShare, vWalk, vNil, vCons, vLst, vTup, vCall, sh_bd, v1, v2, et, ht]
            exact ⟨_, st_seq s1 (st_ifT cnd p1), some (.int (m : Int)), some (bdD (bs (f i m) (f m j))), rfl⟩) (List.range n) [] [some (tabD T), some (ownD (tabF n f)), some (.int (i : Int)), o3, some (ownD (tabF n (lgr n f i j 0))), some (.int (j : Int)), o6, o7] rfl ⟨_, _, rfl⟩
        rw [List.length_range] at this
        exact this
      have fj : ∀ (i : Nat), i < n → ∀ (o5 o6 o7 : Option D), ∃ δ', Dl.forM 5 ((sForM (vRange (faCons (fCall gLen (faCons (fVar 1) faNil)) faNil)) 6 (sSeq (sSetM 7 (vI (fCall (fn S__law_sum) (faCons (f2 gIx (f2 gIx (fVar 1) (fVar 2)) (fVar 6)) (faCons (f2 gIx (f2 gIx (fVar 1) (fVar 6)) (fVar 5)) faNil))))) (sIf (fT (fCall (fn S__law_tighter) (faCons (fVar 7) (faCons (f2 gIx (f2 gIx (fVar 4) (fVar 2)) (fVar 5)) faNil)))) (sPut2 4 (fVar 2) (fVar 5) (vName 7)) sNil)))) ((List.range n).map fun (i : Nat) => D.int (i : Int)) [some (tabD T), some (ownD (tabF n f)), some (.int (i : Int)), o3, some (ownD (tabF n (lgr n f i 0 0))), o5, o6, o7] = some (.nx δ') ∧ ∃ o5 o6 o7, δ' = [some (tabD T), some (ownD (tabF n f)), some (.int (i : Int)), o3, some (ownD (tabF n (lgr n f i n 0))), o5, o6, o7] := fun i hi o5 o6 o7 => by
        have := forM_pre (i := 5) (s := ((sForM (vRange (faCons (fCall gLen (faCons (fVar 1) faNil)) faNil)) 6 (sSeq (sSetM 7 (vI (fCall (fn S__law_sum) (faCons (f2 gIx (f2 gIx (fVar 1) (fVar 2)) (fVar 6)) (faCons (f2 gIx (f2 gIx (fVar 1) (fVar 6)) (fVar 5)) faNil))))) (sIf (fT (fCall (fn S__law_tighter) (faCons (fVar 7) (faCons (f2 gIx (f2 gIx (fVar 4) (fVar 2)) (fVar 5)) faNil)))) (sPut2 4 (fVar 2) (fVar 5) (vName 7)) sNil))))) (f := fun (i : Nat) => D.int (i : Int)) (fun pre δ => ∃ o5 o6 o7, δ = [some (tabD T), some (ownD (tabF n f)), some (.int (i : Int)), o3, some (ownD (tabF n (lgr n f i pre.length 0))), o5, o6, o7]) (List.range n) (by
          rintro pre x post _ hx ⟨o5, o6, o7, rfl⟩
          obtain ⟨rfl, hj⟩ := range_at hx
          rw [List.length_append, List.length_singleton]
          generalize pre.length = j at *
          obtain ⟨_, f1, o6', o7', rfl⟩ := fm i j hi hj o6 o7
          rw [lgr_j] at f1
          exact ⟨_, st_for (hv f _ _ _ _ _ _) f1, _, _, _, rfl⟩) (List.range n) [] [some (tabD T), some (ownD (tabF n f)), some (.int (i : Int)), o3, some (ownD (tabF n (lgr n f i 0 0))), o5, o6, o7] rfl ⟨_, _, _, rfl⟩
        rw [List.length_range] at this
        exact this
      obtain ⟨_, fi, o2', o5', o6', o7', rfl⟩ := forM_pre (i := 2) (s := ((sForM (vRange (faCons (fCall gLen (faCons (fVar 1) faNil)) faNil)) 5 (sForM (vRange (faCons (fCall gLen (faCons (fVar 1) faNil)) faNil)) 6 (sSeq (sSetM 7 (vI (fCall (fn S__law_sum) (faCons (f2 gIx (f2 gIx (fVar 1) (fVar 2)) (fVar 6)) (faCons (f2 gIx (f2 gIx (fVar 1) (fVar 6)) (fVar 5)) faNil))))) (sIf (fT (fCall (fn S__law_tighter) (faCons (fVar 7) (faCons (f2 gIx (f2 gIx (fVar 4) (fVar 2)) (fVar 5)) faNil)))) (sPut2 4 (fVar 2) (fVar 5) (vName 7)) sNil)))))) (f := fun (i : Nat) => D.int (i : Int)) (fun pre δ => ∃ o2 o5 o6 o7, δ = [some (tabD T), some (ownD (tabF n f)), o2, o3, some (ownD (tabF n (lgr n f pre.length 0 0))), o5, o6, o7]) (List.range n) (by
        rintro pre x post _ hx ⟨o2, o5, o6, o7, rfl⟩
        obtain ⟨rfl, hi⟩ := range_at hx
        rw [List.length_append, List.length_singleton]
        generalize pre.length = i at *
        obtain ⟨_, f1, o5', o6', o7', rfl⟩ := fj i hi o5 o6 o7
        rw [lgr_i] at f1
        exact ⟨_, st_for (hv f _ _ _ _ _ _) f1, _, _, _, _, rfl⟩) (List.range n) [] [some (tabD T), some (ownD (tabF n f)), o2, o3, some (ownD (tabF n (lgr n f 0 0 0))), o5, o6, o7] rfl ⟨_, _, _, _, rfl⟩
      rw [List.length_range, lgr_n] at fi
      rw [lgr_0] at fi
      exact ⟨_, st_seq (st_set (vComp_copyO (tabF_sq n f) hn rfl)) (st_seq (st_for (hv f _ _ _ _ _ _) fi) (st_set (v_move rfl))), _, _, _, _, _, _, rfl⟩
    obtain ⟨_, w1, o2', o3', o4', o5', o6', o7', rfl⟩ := forM_pre (i := 3) (s := ((sSeq (sSetM 4 (vComp (fun δ => ((fVar 1) δ).bind asL) [] (vListOf (faCons (fVar 0) faNil)))) (sSeq (sForM (vRange (faCons (fCall gLen (faCons (fVar 1) faNil)) faNil)) 2 (sForM (vRange (faCons (fCall gLen (faCons (fVar 1) faNil)) faNil)) 5 (sForM (vRange (faCons (fCall gLen (faCons (fVar 1) faNil)) faNil)) 6 (sSeq (sSetM 7 (vI (fCall (fn S__law_sum) (faCons (f2 gIx (f2 gIx (fVar 1) (fVar 2)) (fVar 6)) (faCons (f2 gIx (f2 gIx (fVar 1) (fVar 6)) (fVar 5)) faNil))))) (sIf (fT (fCall (fn S__law_tighter) (faCons (fVar 7) (faCons (f2 gIx (f2 gIx (fVar 4) (fVar 2)) (fVar 5)) faNil)))) (sPut2 4 (fVar 2) (fVar 5) (vName 7)) sNil))))) (sSetM 1 (vName 4)))))) (f := fun (i : Nat) => D.int (i : Int)) (fun pre δ => ∃ o2 o3 o4 o5 o6 o7, δ = [some (tabD T), some (ownD (tabF n (sqs n (cl0 T) pre.length))), o2, o3, o4, o5, o6, o7]) (List.range 4) (by
      rintro pre x post _ hx ⟨o2, o3, o4, o5, o6, o7, rfl⟩
      rw [List.length_append, List.length_singleton]
      exact turn (sqs n (cl0 T) pre.length) o2 (some (sh (.int (x : Int)))) o4 o5 o6 o7) (List.range 4) [] [some (tabD T), some (ownD (tabF n (sqs n (cl0 T) 0))), o2, none, none, none, none, none] rfl ⟨_, _, _, _, _, _, rfl⟩
    rw [List.length_range] at w1
    have hv4 := fun (f : Nat → Nat → Bn) (o2 o3 o4 o5 o6 o7 : Option D) => v_range (g := faCons (fC (.int 4)) faNil) (δ := [some (tabD T), some (ownD (tabF n f)), o2, o3, o4, o5, o6, o7]) (n := 4) rfl (by decide)
    have hvT := hv (cellT T) none none none none none none
    rw [tabF_of hs] at hvT
    refine rt_of (st_seq (st_set (vComp_copy hs hn rfl)) (st_seq (st_for hvT w0) (st_seq (st_for (hv4 _ _ _ _ _ _ _) w1) ?_)))
    have cmp : fComp (srcR (faCons (fCall gLen (faCons (fVar 1) faNil)) faNil)) [1] (f2 gNeN (f2 gIx (f2 gIx (fVar 1) (fVar 0)) (fVar 0)) (fTup (faCons (fC (.int 0)) (faCons (fC (.bl false)) faNil)))) [some (tabD T), some (ownD (tabF n (sqs n (cl0 T) 4))), o2', o3', o4', o5', o6', o7'] = some (.lst (((List.range n).map fun i => decide (sqs n (cl0 T) 4 i i ≠ b0)).map D.bl)) := by
      rw [List.map_map]
      refine fComp_map (f := fun (i : Nat) => D.int (i : Int)) (g := fun i => D.bl (decide (sqs n (cl0 T) 4 i i ≠ b0))) (src_r (ds := [.int (n : Int)]) (by simp only [retOf, sNil, sThen, sSeq, sRet, sDrop, sSet, sIf, sPar, sUn2, sFor, asL, gSet, forD, fVar, fC, f2, f1, fT, asB, fNotT, fAndT, fOrT, fAndV, fOrV, gNot, gNeg, faNil, faCons, fTup, fLst, fCall, gAbs, gInt, gLen_t2, gLen_seq, gIx_t0, gIx_t1, gI0, gAdd_int, gNe_int, gEq_int, gEq_bl, gEq_tup2, gNe_tup2, gIsi_same, Dl.isInt, Dl.isBool, Dl.isTup, Option.bind_some, Option.map_some, List.map_cons, List.map_nil, List.length_cons, List.length_nil, List.getElem?_cons_zero, List.getElem?_cons_succ, List.set_cons_zero, List.set_cons_succ, List.cons_append, List.nil_append, List.append_nil, Bool.not_true, Bool.not_false, beq_self_eq_true, bdD_none, bdD_some, gIsN, isNon, sSetM, sRetM, sDropM, vI, vName, vShare, vWalk, vNil, vCons, vLst, vTup, vCall, sh_bd, len_own (tabF_sq n _)]) (by rw [asR_b (by omega) (by omega), rangeD_0])) (fun i hi => ?_) (by rw [List.length_range]; omega)
      have hi := List.mem_range.mp hi
      obtain ⟨r1, q1, q2, _⟩ := ix_own (tabF_sq n (sqs n (cl0 T) 4)) hi hi
      rw [cell_tabF _ hi hi] at q2
      show f2 gNeN _ _ [some (D.int (i : Int)), some (ownD (tabF n (sqs n (cl0 T) 4)))] = _
      have nb := ne_b0 (sqs n (cl0 T) 4 i i)
      simp only [retOf, sNil, sThen, sSeq, sRet, sDrop, sSet, sIf, sPar, sUn2, sFor, asL, gSet, forD, fVar, fC, f2, f1, fT, asB, fNotT, fAndT, fOrT, fAndV, fOrV, gNot, gNeg, faNil, faCons, fTup, fLst, fCall, gAbs, gInt, gLen_t2, gLen_seq, gIx_t0, gIx_t1, gI0, gAdd_int, gNe_int, gEq_int, gEq_bl, gEq_tup2, gNe_tup2, gIsi_same, Dl.isInt, Dl.isBool, Dl.isTup, Option.bind_some, Option.map_some, List.map_cons, List.map_nil, List.length_cons, List.length_nil, List.getElem?_cons_zero, List.getElem?_cons_succ, List.set_cons_zero, List.set_cons_succ, List.cons_append, List.nil_append, List.append_nil, Bool.not_true, Bool.not_false, beq_self_eq_true, bdD_none, bdD_some, gIsN, isNon, sSetM, sRetM, sDropM, vI, vName, vShare, vWalk, vNil, vCons, vLst, vTup, vCall, sh_bd, q1, q2, nb]
    have an := gAny_map ((List.range n).map fun i => decide (sqs n (cl0 T) 4 i i ≠ b0))
    rw [List.any_map] at an
    unfold lawC
    have ec : (id ∘ fun i => decide (sqs n (cl0 T) 4 i i ≠ b0)) = fun i => decide (sqs n (cl0 T) 4 i i ≠ b0) := rfl
    rw [ec] at an
    cases hz : (List.range n).any fun i => decide (sqs n (cl0 T) 4 i i ≠ b0) with
    | true =>
      rw [hz] at an
      rw [if_pos rfl]
      exact st_seq' (st_ifT (by simp only [retOf, sNil, sThen, sSeq, sRet, sDrop, sSet, sIf, sPar, sUn2, sFor, asL, gSet, forD, fVar, fC, f2, f1, fT, asB, fNotT, fAndT, fOrT, fAndV, fOrV, gNot, gNeg, faNil, faCons, fTup, fLst, fCall, gAbs, gInt, gLen_t2, gLen_seq, gIx_t0, gIx_t1, gI0, gAdd_int, gNe_int, gEq_int, gEq_bl, gEq_tup2, gNe_tup2, gIsi_same, Dl.isInt, Dl.isBool, Dl.isTup, Option.bind_some, Option.map_some, List.map_cons, List.map_nil, List.length_cons, List.length_nil, List.getElem?_cons_zero, List.getElem?_cons_succ, List.set_cons_zero, List.set_cons_succ, List.cons_append, List.nil_append, List.append_nil, Bool.not_true, Bool.not_false, beq_self_eq_true, bdD_none, bdD_some, gIsN, isNon, sSetM, sRetM, sDropM, vI, vName, vShare, vWalk, vNil, vCons, vLst, vTup, vCall, sh_bd, cmp, an]) (st_ret (v_imm rfl)))
    | false =>
      rw [hz] at an
      rw [if_neg (by decide)]
      exact st_seq (st_ifF (by simp only [retOf, sNil, sThen, sSeq, sRet, sDrop, sSet, sIf, sPar, sUn2, sFor, asL, gSet, forD, fVar, fC, f2, f1, fT, asB, fNotT, fAndT, fOrT, fAndV, fOrV, gNot, gNeg, faNil, faCons, fTup, fLst, fCall, gAbs, gInt, gLen_t2, gLen_seq, gIx_t0, gIx_t1, gI0, gAdd_int, gNe_int, gEq_int, gEq_bl, gEq_tup2, gNe_tup2, gIsi_same, Dl.isInt, Dl.isBool, Dl.isTup, Option.bind_some, Option.map_some, List.map_cons, List.map_nil, List.length_cons, List.length_nil, List.getElem?_cons_zero, List.getElem?_cons_succ, List.set_cons_zero, List.set_cons_succ, List.cons_append, List.nil_append, List.append_nil, Bool.not_true, Bool.not_false, beq_self_eq_true, bdD_none, bdD_some, gIsN, isNon, sSetM, sRetM, sDropM, vI, vName, vShare, vWalk, vNil, vCons, vLst, vTup, vCall, sh_bd, cmp, an]) rfl) (st_ret (v_move rfl))
abbrev s__law_is_ring : Stmt := top 35
theorem sc__law_is_ring : FnScope ["_law_found", "_law_table", "_law_total", "_law_k"] ["_law_found", "_law_table"] (defScope s__law_is_ring) := ⟨rfl, rfl, rfl, by decide +kernel, rfl, by decide +kernel, by decide +kernel⟩
theorem ok__law_is_ring (F : Fun K "_law_is_ring" "_law_is_ring" s__law_is_ring f fd) (hLsum : Has P w K mg base 1 "_law_sum" ["_law_one", "_law_other"] (fn S__law_sum)) (hLwhole : Has P w K mg base 1 "_law_whole" ["_law_found"] (fn S__law_whole))  (m_range : mg "range" = none) (m_all : mg "all" = none) (m_len : mg "len" = none) (m_isinstance : mg "isinstance" = none) (m_list : mg "list" = none) (m_set : mg "set" = none) : FnOk P w K mg base CX0 2 f fd ["_law_found", "_law_table"] (freshSp K 2 (fn S__law_is_ring)) := by
  have sc := sc__law_is_ring
  refine fresh_ok F sc__law_is_ring (fun cdv A outer s H E ds d hr hG hl => ?_)
  obtain ⟨d0, d1, T, n, r, h0, h1, hs, hn, hl, nd, lt, bad, rfl, rfl⟩ := fn_inv hG
  have hown : own (.bl true) = true := rfl
  refine ⟨_, (pm_cons (pm_if (PWD.pt (pwd_or (ptd_not (ptd_val (pd_callB call_isi (cd_isi ok_isLst) rfl m_isinstance boot_isinstance (pad_cons (pd_var 0) (pad_cons (pd_ty rfl m_list boot_list) pad_nil))))) (pwd_or (ptd_eqN hr.units (pd_callB call_len_seq cd_len rfl m_len PySem.boot_len (pad_cons (pd_var 0) pad_nil)) pd_int) (pwd_or1 (ptd_lt (pd_lenset (pd_var 0) rfl m_len rfl m_set) (pd_callB call_len_seq cd_len rfl m_len PySem.boot_len (pad_cons (pd_var 0) pad_nil))))))) (pm_one (pm_ret (pv_imm pd_bl))) pm_nil)
      (pm_cons (pm_if (ptd_not (ptd_val (pd_callB (call_all rfl) cd_all rfl m_all boot_allB (pad_cons (pd_comp (by exact (pid_list (pd_var 0))) (N := ["_law_thing", "_law_table"]) (js := [1]) (cl := [("_law_table", _)]) (fun _ _ _ _ _ => by exact (pd_and (pd_callH hLwhole hr (pad_cons (pd_var 0) pad_nil)) (pd_one (pd_chain pd_int (pd_var 0) (pd_callB call_len_seq cd_len rfl m_len PySem.boot_len (pad_cons (pd_var 1) pad_nil)))))) (by exact CompOk.one)) pad_nil)))) (pm_one (pm_ret (pv_imm pd_bl))) pm_nil)
      (pm_cons (pm_set 2 sc.nd (pv_imm (pd_tup (pad_cons pd_int (pad_cons pd_bl pad_nil)))))
      (pm_cons (pm_for 3 sc.nd PassesOwn.never rfl (pim_range1 rfl m_range (pad_cons (pd_callB call_len_seq cd_len rfl m_len PySem.boot_len (pad_cons (pd_var 0) pad_nil)) pad_nil))
        (pm_one (pm_set 2 sc.nd (pv_imm (pd_callH hLsum hr (pad_cons (pd_var 2) (pad_cons (pd_ix (pd_ix (pd_var 1) (pd_ix (pd_var 0) (pd_sub (pd_var 3) pd_int))) (pd_ix (pd_var 0) (pd_var 3))) pad_nil)))))))
      (pm_one (pm_ret (pv_imm (pd_and (pd_notN (pd_var 2) pd_non) (pd_one (pd_or (pd_lt (pd_ix (pd_var 2) pd_int) pd_int) (pd_one (pd_and (pd_eqN hr.units (pd_ix (pd_var 2) pd_int) pd_int) (pd_one (pd_ix (pd_var 2) pd_int)))))))))))))), ?_, ?own⟩
  case own => first | rfl | exact hown
  · show retOf ((?f : SD) (startM 4 _)) = _
    have e0 : startM 4 [d0, d1] = [some (.seq (intsD r)), some (tabD T), none, none] := by
      show [some (sh d0), some (sh d1), none, none] = _
      rw [h0, show sh d1 = _ from h1]
    rw [e0]
    have rl : r.length ≤ 41 := Nat.le_trans (nodup_len n r nd lt) hn
    have el : (intsD r).length = r.length := List.length_map _
    have len : gLen [.seq (intsD r)] = some (.int (r.length : Int)) := by
      show some (D.int ((intsD r).length : Int)) = _
      rw [el]
    have lenT : gLen [tabD T] = some (.int (n : Int)) := len_tab hs
    have ls : fLenSet (fVar 0) [some (.seq (intsD r)), some (tabD T), none, none] = some (.int (r.length : Int)) := by
      unfold fLenSet
      show ((intsOf (intsD r)).bind fun ns => if ns.length ≤ 1000 then some (D.int ((ddOf ns).length : Int)) else none) = _
      rw [intsOf_intsD]
      show (if _ then _ else _) = _
      rw [if_pos (by rw [List.length_map]; omega), dd_len nd]
    have e1 : ((r.length : Int) == 0) = false := by rw [beq_eq_false_iff_ne]; omega
    have e2 : decide ((r.length : Int) < (r.length : Int)) = false := by simp
    have il : isLst (.seq (intsD r)) = some true := rfl
    have cmp : fComp (fun δ => ((fVar 0) δ).bind asL) [1] (fAndV (fCall (fn S__law_whole) (faCons (fVar 0) faNil)) (fChain (fC (.int 0)) (fVar 0) (fCall gLen (faCons (fVar 1) faNil)))) [some (.seq (intsD r)), some (tabD T), none, none] = some (.lst ((r.map fun _ => true).map D.bl)) := by
      rw [List.map_map]
      refine fComp_map (f := fun (k : Nat) => D.int (k : Int)) (g := fun _ => D.bl true) rfl (fun k hk => ?_) (by omega)
      have hk := lt k hk
      have c1 : decide ((0 : Int) ≤ (k : Int)) = true := decide_eq_true (by omega)
      have c2 : decide ((k : Int) < (n : Int)) = true := decide_eq_true (by omega)
      show fAndV _ _ [some (D.int (k : Int)), some (tabD T)] = _
      have ch : fChain (fC (.int 0)) (fVar 0) (fCall gLen (faCons (fVar 1) faNil)) [some (D.int (k : Int)), some (tabD T)] = some (.bl true) := by
        unfold fChain
        simp only [retOf, sNil, sThen, sSeq, sRet, sDrop, sSet, sIf, sPar, sUn2, sFor, asL, gSet, forD, fVar, fC, f2, f1, fT, asB, fNotT, fAndT, fOrT, fAndV, fOrV, gNot, gNeg, faNil, faCons, fTup, fLst, fCall, gAbs, gInt, gLen_t2, gLen_seq, gIx_t0, gIx_t1, gI0, gAdd_int, gNe_int, gEq_int, gEq_bl, gEq_tup2, gNe_tup2, gIsi_same, Dl.isInt, Dl.isBool, Dl.isTup, Option.bind_some, Option.map_some, List.map_cons, List.map_nil, List.length_cons, List.length_nil, List.getElem?_cons_zero, List.getElem?_cons_succ, List.set_cons_zero, List.set_cons_succ, List.cons_append, List.nil_append, List.append_nil, Bool.not_true, Bool.not_false, beq_self_eq_true, bdD_none, bdD_some, gIsN, isNon, sSetM, sRetM, sDropM, vI, vName, vShare, vWalk, vNil, vCons, vLst, vTup, vCall, sh_bd, lenT, asN, c1, c2, Bool.and_self]
      simp only [retOf, sNil, sThen, sSeq, sRet, sDrop, sSet, sIf, sPar, sUn2, sFor, asL, gSet, forD, fVar, fC, f2, f1, fT, asB, fNotT, fAndT, fOrT, fAndV, fOrV, gNot, gNeg, faNil, faCons, fTup, fLst, fCall, gAbs, gInt, gLen_t2, gLen_seq, gIx_t0, gIx_t1, gI0, gAdd_int, gNe_int, gEq_int, gEq_bl, gEq_tup2, gNe_tup2, gIsi_same, Dl.isInt, Dl.isBool, Dl.isTup, Option.bind_some, Option.map_some, List.map_cons, List.map_nil, List.length_cons, List.length_nil, List.getElem?_cons_zero, List.getElem?_cons_succ, List.set_cons_zero, List.set_cons_succ, List.cons_append, List.nil_append, List.append_nil, Bool.not_true, Bool.not_false, beq_self_eq_true, bdD_none, bdD_some, gIsN, isNon, sSetM, sRetM, sDropM, vI, vName, vShare, vWalk, vNil, vCons, vLst, vTup, vCall, sh_bd, e_is_whole (x := .int (k : Int)) (b := true) rfl, ch]
    have al : gAll [.lst ((r.map fun _ => true).map D.bl)] = some (.bl true) := by
      rw [gAll_map]
      congr 2
      rw [List.all_map, List.all_eq_true]
      intro x _
      rfl
    have hv := v_range (g := faCons (fCall gLen (faCons (fVar 0) faNil)) faNil) (δ := [some (.seq (intsD r)), some (tabD T), some (.tup [.int 0, .bl false]), none]) (n := r.length) (by simp only [retOf, sNil, sThen, sSeq, sRet, sDrop, sSet, sIf, sPar, sUn2, sFor, asL, gSet, forD, fVar, fC, f2, f1, fT, asB, fNotT, fAndT, fOrT, fAndV, fOrV, gNot, gNeg, faNil, faCons, fTup, fLst, fCall, gAbs, gInt, gLen_t2, gLen_seq, gIx_t0, gIx_t1, gI0, gAdd_int, gNe_int, gEq_int, gEq_bl, gEq_tup2, gNe_tup2, gIsi_same, Dl.isInt, Dl.isBool, Dl.isTup, Option.bind_some, Option.map_some, List.map_cons, List.map_nil, List.length_cons, List.length_nil, List.getElem?_cons_zero, List.getElem?_cons_succ, List.set_cons_zero, List.set_cons_succ, List.cons_append, List.nil_append, List.append_nil, Bool.not_true, Bool.not_false, beq_self_eq_true, bdD_none, bdD_some, gIsN, isNon, sSetM, sRetM, sDropM, vI, vName, vShare, vWalk, vNil, vCons, vLst, vTup, vCall, sh_bd, len]) (by omega)
    obtain ⟨_, w, o, rfl⟩ := forM_pre (i := 3) (s := ((sSetM 2 (vI (fCall (fn S__law_sum) (faCons (fVar 2) (faCons (f2 gIx (f2 gIx (fVar 1) (f2 gIx (fVar 0) (f2 (gI0 fun i j => .int (i - j)) (fVar 3) (fC (.int 1))))) (f2 gIx (fVar 0) (fVar 3))) faNil))))))) (f := fun (i : Nat) => D.int (i : Int)) (fun pre δ => ∃ o, δ = [some (.seq (intsD r)), some (tabD T), some (bdD (tot T r pre.length)), o]) (List.range r.length) (by
      rintro pre x post _ hx ⟨o, rfl⟩
      obtain ⟨rfl, hk⟩ := range_at hx
      rw [List.length_append, List.length_singleton]
      generalize pre.length = k at *
      have g1 : ∀ y, y < r.length → r.getD y 0 < n := fun y hy => lt _ (by rw [List.getD_eq_getElem?_getD, List.getElem?_eq_getElem hy]; exact List.getElem_mem _)
      have pk : prv r k < r.length := by unfold prv; split <;> omega
      obtain ⟨r1, q1, q2⟩ := ix_tab hs (g1 _ pk) (g1 k hk)
      have i1 := ix_prv hk
      have i2 : gIx (.seq (intsD r)) (.int (k : Int)) = some (.int ((r.getD k 0 : Nat) : Int)) := atI_of (intsD_get hk)
      refine ⟨_, st_setS (v_imm (d := bdD (tot T r (k + 1))) ?_ (imm_bd _)), _, rfl⟩
      simp only [retOf, sNil, sThen, sSeq, sRet, sDrop, sSet, sIf, sPar, sUn2, sFor, asL, gSet, forD, fVar, fC, f2, f1, fT, asB, fNotT, fAndT, fOrT, fAndV, fOrV, gNot, gNeg, faNil, faCons, fTup, fLst, fCall, gAbs, gInt, gLen_t2, gLen_seq, gIx_t0, gIx_t1, gI0, gAdd_int, gNe_int, gEq_int, gEq_bl, gEq_tup2, gNe_tup2, gIsi_same, Dl.isInt, Dl.isBool, Dl.isTup, Option.bind_some, Option.map_some, List.map_cons, List.map_nil, List.length_cons, List.length_nil, List.getElem?_cons_zero, List.getElem?_cons_succ, List.set_cons_zero, List.set_cons_succ, List.cons_append, List.nil_append, List.append_nil, Bool.not_true, Bool.not_false, beq_self_eq_true, bdD_none, bdD_some, gIsN, isNon, sSetM, sRetM, sDropM, vI, vName, vShare, vWalk, vNil, vCons, vLst, vTup, vCall, sh_bd, sh_int, i1, i2, q1, q2, e_bound_sum]
      rfl) (List.range r.length) [] [some (.seq (intsD r)), some (tabD T), some (.tup [.int 0, .bl false]), none] rfl ⟨_, rfl⟩
    rw [List.length_range] at w
    refine rt_of (st_seq (st_ifF (by simp only [retOf, sNil, sThen, sSeq, sRet, sDrop, sSet, sIf, sPar, sUn2, sFor, asL, gSet, forD, fVar, fC, f2, f1, fT, asB, fNotT, fAndT, fOrT, fAndV, fOrV, gNot, gNeg, faNil, faCons, fTup, fLst, fCall, gAbs, gInt, gLen_t2, gLen_seq, gIx_t0, gIx_t1, gI0, gAdd_int, gNe_int, gEq_int, gEq_bl, gEq_tup2, gNe_tup2, gIsi_same, Dl.isInt, Dl.isBool, Dl.isTup, Option.bind_some, Option.map_some, List.map_cons, List.map_nil, List.length_cons, List.length_nil, List.getElem?_cons_zero, List.getElem?_cons_succ, List.set_cons_zero, List.set_cons_succ, List.cons_append, List.nil_append, List.append_nil, Bool.not_true, Bool.not_false, beq_self_eq_true, bdD_none, bdD_some, gIsN, isNon, sSetM, sRetM, sDropM, vI, vName, vShare, vWalk, vNil, vCons, vLst, vTup, vCall, sh_bd, il, len, ls, gEqN_int, gLt, e1, e2]) rfl) (st_seq (st_ifF (all_not cmp al) rfl) (st_seq (st_setS (v_imm (d := .tup [.int 0, .bl false]) rfl)) (st_seq (st_for hv w) (st_retS (v_imm ?_))))))
    rcases ht : tot T r r.length with _ | ⟨k, s⟩
    · exact absurd (by rw [ht]; exact le_none _) bad
    · rw [ht] at bad
      unfold Nn at bad
      rw [le_ss] at bad
      by_cases hk : k < 0
      · have k1 : decide (k < 0) = true := decide_eq_true hk
        simp only [retOf, sNil, sThen, sSeq, sRet, sDrop, sSet, sIf, sPar, sUn2, sFor, asL, gSet, forD, fVar, fC, f2, f1, fT, asB, fNotT, fAndT, fOrT, fAndV, fOrV, gNot, gNeg, faNil, faCons, fTup, fLst, fCall, gAbs, gInt, gLen_t2, gLen_seq, gIx_t0, gIx_t1, gI0, gAdd_int, gNe_int, gEq_int, gEq_bl, gEq_tup2, gNe_tup2, gIsi_same, Dl.isInt, Dl.isBool, Dl.isTup, Option.bind_some, Option.map_some, List.map_cons, List.map_nil, List.length_cons, List.length_nil, List.getElem?_cons_zero, List.getElem?_cons_succ, List.set_cons_zero, List.set_cons_succ, List.cons_append, List.nil_append, List.append_nil, Bool.not_true, Bool.not_false, beq_self_eq_true, bdD_none, bdD_some, gIsN, isNon, sSetM, sRetM, sDropM, vI, vName, vShare, vWalk, vNil, vCons, vLst, vTup, vCall, sh_bd, gNotN, gLt, k1]
      · have k1 : decide (k < 0) = false := decide_eq_false hk
        have k0 : k = 0 := by
          by_cases z : 0 < k
          · exact absurd (.inl z) bad
          · omega
        subst k0
        have s1 : s = true := by
          cases s with
          | true => rfl
          | false => exact absurd (.inr ⟨rfl, fun z => z⟩) bad
        subst s1
        simp only [retOf, sNil, sThen, sSeq, sRet, sDrop, sSet, sIf, sPar, sUn2, sFor, asL, gSet, forD, fVar, fC, f2, f1, fT, asB, fNotT, fAndT, fOrT, fAndV, fOrV, gNot, gNeg, faNil, faCons, fTup, fLst, fCall, gAbs, gInt, gLen_t2, gLen_seq, gIx_t0, gIx_t1, gI0, gAdd_int, gNe_int, gEq_int, gEq_bl, gEq_tup2, gNe_tup2, gIsi_same, Dl.isInt, Dl.isBool, Dl.isTup, Option.bind_some, Option.map_some, List.map_cons, List.map_nil, List.length_cons, List.length_nil, List.getElem?_cons_zero, List.getElem?_cons_succ, List.set_cons_zero, List.set_cons_succ, List.cons_append, List.nil_append, List.append_nil, Bool.not_true, Bool.not_false, beq_self_eq_true, bdD_none, bdD_some, gIsN, isNon, sSetM, sRetM, sDropM, vI, vName, vShare, vWalk, vNil, vCons, vLst, vTup, vCall, sh_bd, gNotN, gLt, k1, gEqN_int]
abbrev s__law_is_bound : Stmt := top 36
theorem sc__law_is_bound : FnScope ["_law_found"] ["_law_found"] (defScope s__law_is_bound) := ⟨rfl, rfl, rfl, by decide +kernel, rfl, by decide +kernel, by decide +kernel⟩
theorem ok__law_is_bound (F : Fun K "_law_is_bound" "_law_is_bound" s__law_is_bound f fd) (hLwhole : Has P w K mg base 1 "_law_whole" ["_law_found"] (fn S__law_whole))  (m_isinstance : mg "isinstance" = none) (m_bool : mg "bool" = none) (m_tuple : mg "tuple" = none) (m_len : mg "len" = none) : FnOk P w K mg base CX0 2 f fd ["_law_found"] (pureSp K 1 (fn S__law_is_bound)) := by
  have sc := sc__law_is_bound
  refine pure_ok F sc__law_is_bound (fun cdv A outer s H E ds d hr hG hl => ?_)
  obtain ⟨b, rfl, rfl⟩ := fn_inv hG
  refine ⟨_, (psd_cons (psd_if (ptd_isN (pd_var 0) pd_non) (psd_one (psd_ret pd_bl)) psd_nil)
      (psd_cons (psd_if (PWD.pt (pwd_or (ptd_not (ptd_val (pd_callB call_isi (cd_isi ok_isTup) rfl m_isinstance boot_isinstance (pad_cons (pd_var 0) (pad_cons (pd_ty rfl m_tuple boot_tuple) pad_nil))))) (pwd_or (ptd_ne hr.units0 (pd_callB call_len_seq cd_len rfl m_len PySem.boot_len (pad_cons (pd_var 0) pad_nil)) pd_int) (pwd_or1 (ptd_not (ptd_val (pd_callH hLwhole hr (pad_cons (pd_ix (pd_var 0) pd_int) pad_nil)))))))) (psd_one (psd_ret pd_bl)) psd_nil)
      (psd_one (psd_ret (pd_callB call_isi (cd_isi ok_isBool) rfl m_isinstance boot_isinstance (pad_cons (pd_ix (pd_var 0) pd_int) (pad_cons (pd_ty rfl m_bool boot_bool) pad_nil))))))), ?_⟩
  · show retOf ((?f : SD) [some _]) = _
    rcases b with _ | ⟨n, s⟩
    · rfl
    · simp only [retOf, sNil, sThen, sSeq, sRet, sDrop, sSet, sIf, sPar, sUn2, sFor, asL, gSet, forD, fVar, fC, f2, f1, fT, asB, fNotT, fAndT, fOrT, fAndV, fOrV, gNot, gNeg, faNil, faCons, fTup, fLst, fCall, gAbs, gInt, gLen_t2, gLen_seq, gIx_t0, gIx_t1, gI0, gAdd_int, gNe_int, gEq_int, gEq_bl, gEq_tup2, gNe_tup2, gIsi_same, Dl.isInt, Dl.isBool, Dl.isTup, Option.bind_some, Option.map_some, List.map_cons, List.map_nil, List.length_cons, List.length_nil, List.getElem?_cons_zero, List.getElem?_cons_succ, List.set_cons_zero, List.set_cons_succ, List.cons_append, List.nil_append, List.append_nil, Bool.not_true, Bool.not_false, beq_self_eq_true, bdD_none, bdD_some, gIsN, isNon, sSetM, sRetM, sDropM, vI, vName, vShare, vWalk, vNil, vCons, vLst, vTup, vCall, sh_bd, e_is_whole (x := .int n) (b := true) rfl]
abbrev s_fraction : Stmt := top 6
theorem sc_fraction : FnScope ["top", "bottom"] ["top", "bottom"] (defScope s_fraction) := ⟨rfl, rfl, rfl, by decide +kernel, rfl, by decide +kernel, by decide +kernel⟩
theorem ok_fraction {dV : Value} (F : FunD K "fraction" "fraction" s_fraction f fd dV) (hlowest : Has P w K mg base 2 "lowest" ["top", "bottom"] (fn S_lowest)) (his_whole : Has P w K mg base 1 "is_whole" ["thing"] (fn S_is_whole))   : FnOk P w K mg base CX0 3 f fd ["top", "bottom"] (pureSp K 2 (fn S_fraction)) := by
  have sc := sc_fraction
  refine pure_okD F sc_fraction (fun cdv A outer s H E ds d hr hG hl => ?_)
  obtain ⟨t, b, hb, hB, rfl, rfl⟩ := fn_inv hG
  refine ⟨_, (psd_cons (psd_if (PWD.pt (pwd_or (ptd_not (ptd_val (pd_callH his_whole hr (pad_cons (pd_var 0) pad_nil)))) (pwd_or1 (ptd_not (ptd_val (pd_callH his_whole hr (pad_cons (pd_var 1) pad_nil))))))) (psd_one psd_never) psd_nil)
      (psd_cons (psd_if (ptd_eq hr.units0 (pd_var 1) pd_int) (psd_one psd_never) psd_nil)
      (psd_cons (psd_if (ptd_lt (pd_var 1) pd_int) (psd_one (psd_ret (pd_callH hlowest hr (pad_cons (pd_neg (pd_var 0)) (pad_cons (pd_neg (pd_var 1)) pad_nil))))) psd_nil)
      (psd_one (psd_ret (pd_callH hlowest hr (pad_cons (pd_var 0) (pad_cons (pd_var 1) pad_nil)))))))), ?_⟩
  · show retOf ((?f : SD) [some _, some _]) = _
    have h0 : (b == 0) = false := by simp [hb]
    by_cases hn : b < 0
    · have h1 : decide (b < 0) = true := decide_eq_true hn
      simp only [retOf, sNil, sThen, sSeq, sRet, sDrop, sSet, sIf, sPar, sUn2, sFor, asL, gSet, forD, fVar, fC, f2, f1, fT, asB, fNotT, fAndT, fOrT, fAndV, fOrV, gNot, gNeg, faNil, faCons, fTup, fLst, fCall, gAbs, gInt, gLen_t2, gLen_seq, gIx_t0, gIx_t1, gI0, gAdd_int, gNe_int, gEq_int, gEq_bl, gEq_tup2, gNe_tup2, gIsi_same, Dl.isInt, Dl.isBool, Dl.isTup, Option.bind_some, Option.map_some, List.map_cons, List.map_nil, List.length_cons, List.length_nil, List.getElem?_cons_zero, List.getElem?_cons_succ, List.set_cons_zero, List.set_cons_succ, List.cons_append, List.nil_append, List.append_nil, Bool.not_true, Bool.not_false, beq_self_eq_true, bdD_none, bdD_some, gIsN, isNon, sSetM, sRetM, sDropM, vI, vName, vShare, vWalk, vNil, vCons, vLst, vTup, vCall, sh_bd, e_is_whole (x := .int t) rfl, e_is_whole (x := .int b) rfl, h0, h1, e_lowest (t := -t) (b := -b) (by omega) (bd_neg hB)]
      unfold low
      rw [if_pos hn]
    · have h1 : decide (b < 0) = false := decide_eq_false hn
      simp only [retOf, sNil, sThen, sSeq, sRet, sDrop, sSet, sIf, sPar, sUn2, sFor, asL, gSet, forD, fVar, fC, f2, f1, fT, asB, fNotT, fAndT, fOrT, fAndV, fOrV, gNot, gNeg, faNil, faCons, fTup, fLst, fCall, gAbs, gInt, gLen_t2, gLen_seq, gIx_t0, gIx_t1, gI0, gAdd_int, gNe_int, gEq_int, gEq_bl, gEq_tup2, gNe_tup2, gIsi_same, Dl.isInt, Dl.isBool, Dl.isTup, Option.bind_some, Option.map_some, List.map_cons, List.map_nil, List.length_cons, List.length_nil, List.getElem?_cons_zero, List.getElem?_cons_succ, List.set_cons_zero, List.set_cons_succ, List.cons_append, List.nil_append, List.append_nil, Bool.not_true, Bool.not_false, beq_self_eq_true, bdD_none, bdD_some, gIsN, isNon, sSetM, sRetM, sDropM, vI, vName, vShare, vWalk, vNil, vCons, vLst, vTup, vCall, sh_bd, e_is_whole (x := .int t) rfl, e_is_whole (x := .int b) rfl, h0, h1, e_lowest (t := t) (b := b) (by omega) hB]
      unfold low
      rw [if_neg hn]
abbrev s__law_table_by : Stmt := top 30
theorem sc__law_table_by : FnScope ["_law_script", "_law_head", "_law_k", "_law_point", "_law_table", "_law_cell", "_law_i", "_law_j"] ["_law_script"] (defScope s__law_table_by) := ⟨rfl, rfl, rfl, by decide +kernel, rfl, by decide +kernel, by decide +kernel⟩
def S__law_table_by (ds : List D) (d : D) : Prop := retOf (((sSeq (sSetM 1 (vI (fCall (fn S__law_cell_at) (faCons (fVar 0) (faCons (fC (.int 0)) faNil))))) (sSeq (sSetM 2 (vI (f2 (gI (fun _ j => 0 < j) fun i j => .int (i % j)) (f2 (gI CDivB fun i j => .int (i / j)) (fVar 1) (fC (.int 4))) (f2 gIx (fLst (faCons (fC (.int 5)) (faCons (fC (.int 7)) faNil))) (fCall gInt (faCons (f2 gGt (f2 (gI (fun _ j => 0 < j) fun i j => .int (i % j)) (fVar 1) (fC (.int 4))) (fC (.int 1))) faNil)))))) (sSeq (sSetM 3 (vComp (srcR (faCons (fVar 2) faNil)) [0] (vI (fCall (fn S__law_part) (faCons (fCall (fn S__law_cell_at) (faCons (fVar 1) (faCons (f2 gAdd (fC (.int 1)) (fVar 0)) faNil))) faNil))))) (sSeq (sIf (fT (f2 gLt (f2 (gI (fun _ j => 0 < j) fun i j => .int (i % j)) (fVar 1) (fC (.int 4))) (fC (.int 2)))) (sRetM (vTup (vCons (vCall (fn S__law_any_table) (faCons (fCall (fn S__law_cell_at) (faCons (fVar 0) (faCons (fC (.int 1)) faNil))) (faCons (fVar 2) (faCons (f2 gIx (fLst (faCons (fC (.int 3)) (faCons (fC (.int 9)) (faCons (f2 (gI CPow fun i j => .int (i ^ j.toNat)) (fC (.int 10)) (fC (.int 55))) faNil)))) (f2 (gI (fun _ j => 0 < j) fun i j => .int (i % j)) (f2 (gI CDivB fun i j => .int (i / j)) (fVar 1) (fC (.int 20))) (fC (.int 3)))) faNil)))) (vCons (vName 3) vNil)))) sNil) (sSeq (sSetM 4 (vCall (fn S__law_planted) (faCons (fVar 0) (faCons (fVar 3) faNil)))) (sSeq (sIf (fT (f2 gEqN (f2 (gI (fun _ j => 0 < j) fun i j => .int (i % j)) (fVar 1) (fC (.int 4))) (fC (.int 3)))) (sSeq (sSetM 5 (vI (fCall (fn S__law_cell_at) (faCons (fVar 0) (faCons (fC (.int 7)) faNil))))) (sSeq (sSetM 6 (vI (f2 (gI (fun _ j => 0 < j) fun i j => .int (i % j)) (fVar 5) (f2 gAdd (fVar 2) (fC (.int 1)))))) (sSeq (sSetM 7 (vI (f2 (gI (fun _ j => 0 < j) fun i j => .int (i % j)) (f2 (gI CDivB fun i j => .int (i / j)) (fVar 5) (f2 gAdd (fVar 2) (fC (.int 1)))) (f2 gAdd (fVar 2) (fC (.int 1)))))) (sIf (fT (f2 gNotN (f2 gIx (f2 gIx (fVar 4) (fVar 6)) (fVar 7)) (fC .non))) (sPut2 4 (fVar 6) (fVar 7) (vI (fTup (faCons (f2 (gI0 fun i j => .int (i - j)) (f2 (gI0 fun i j => .int (i - j)) (f2 gIx (f2 gIx (f2 gIx (fVar 4) (fVar 6)) (fVar 7)) (fC (.int 0))) (fC (.int 1))) (f2 (gI (fun _ j => 0 < j) fun i j => .int (i % j)) (f2 (gI CDivB fun i j => .int (i / j)) (fVar 5) (fC (.int 50))) (fC (.int 4)))) (faCons (f2 gEqN (f2 (gI (fun _ j => 0 < j) fun i j => .int (i % j)) (f2 (gI CDivB fun i j => .int (i / j)) (fVar 5) (fC (.int 200))) (fC (.int 2))) (fC (.int 1))) faNil))))) sNil)))) sNil) (sRetM (vTup (vCons (vName 4) (vCons (vName 3) vNil))))))))))) (startM 8 ds)) = some d ∧ own d = true
theorem t__law_table_by (ns : List Int) : ∃ (T : List (List Bn)) (ps : List (Int × Int)), Sq T (ps.length + 1) ∧ Bk2 T ∧ ps.length ≤ 6 ∧ (∀ p ∈ ps, Fr 200 p) ∧ fn S__law_table_by [.seq (ns.map D.int)] = some (.tup [ownD T, .lst (ps.map fr)]) := by
  have e0 : startM 8 [.seq (ns.map D.int)] = [some (.seq (ns.map D.int)), none, none, none, none, none, none, none] := by
    show [some (sh (.seq (ns.map D.int))), none, none, none, none, none, none, none] = _
    rw [sh, shs_ints]
  have ca := fun (k : Int) (h : 0 ≤ k) => e__law_cell_at (ns := ns) (k := k) h
  have c0 := ca 0 (by decide)
  obtain ⟨h, hh⟩ : ∃ h, h = cell ns 0 := ⟨_, rfl⟩
  rw [← hh] at c0
  have d4 : CDivB h 4 := ⟨by decide, bd_sm⟩
  have d20 : CDivB h 20 := ⟨by decide, bd_sm⟩
  obtain ⟨n, hn6, hk⟩ : ∃ n : Nat, n ≤ 6 ∧ f2 (gI (fun _ j => 0 < j) fun i j => .int (i % j)) (f2 (gI CDivB fun i j => .int (i / j)) (fVar 1) (fC (.int 4))) (f2 gIx (fLst (faCons (fC (.int 5)) (faCons (fC (.int 7)) faNil))) (fCall gInt (faCons (f2 gGt (f2 (gI (fun _ j => 0 < j) fun i j => .int (i % j)) (fVar 1) (fC (.int 4))) (fC (.int 1))) faNil))) [some (.seq (ns.map D.int)), some (.int h), none, none, none, none, none, none] = some (.int (n : Int)) := by
    by_cases q : 1 < h % 4
    · have q1 : decide (1 < h % 4) = true := decide_eq_true q
      have ix : gIx (.lst [.int 5, .int 7]) (.int 1) = some (.int 7) := rfl
      refine ⟨(h / 4 % 7).toNat, by omega, ?_⟩
      rw [show (((h / 4 % 7).toNat : Nat) : Int) = h / 4 % 7 by omega]
      simp only [retOf, sNil, sThen, sSeq, sRet, sDrop, sSet, sIf, sPar, sUn2, sFor, asL, gSet, forD, fVar, fC, f2, f1, fT, asB, fNotT, fAndT, fOrT, fAndV, fOrV, gNot, gNeg, faNil, faCons, fTup, fLst, fCall, gAbs, gInt, gLen_t2, gLen_seq, gIx_t0, gIx_t1, gI0, gAdd_int, gNe_int, gEq_int, gEq_bl, gEq_tup2, gNe_tup2, gIsi_same, Dl.isInt, Dl.isBool, Dl.isTup, Option.bind_some, Option.map_some, List.map_cons, List.map_nil, List.length_cons, List.length_nil, List.getElem?_cons_zero, List.getElem?_cons_succ, List.set_cons_zero, List.set_cons_succ, List.cons_append, List.nil_append, List.append_nil, Bool.not_true, Bool.not_false, beq_self_eq_true, bdD_none, bdD_some, gIsN, isNon, sSetM, sRetM, sDropM, vI, vName, vShare, vWalk, vNil, vCons, vLst, vTup, vCall, sh_bd, gGt, gLt, gI_pos (C := fun _ j => 0 < j) (i := h) (j := 4) (by decide), q1, if_true, Bool.false_eq_true, if_false, gI_pos (C := CDivB) d4, ix, gI_pos (C := fun _ j => 0 < j) (i := h / 4) (j := 7) (by decide)]
    · have q1 : decide (1 < h % 4) = false := decide_eq_false q
      have ix : gIx (.lst [.int 5, .int 7]) (.int 0) = some (.int 5) := rfl
      refine ⟨(h / 4 % 5).toNat, by omega, ?_⟩
      rw [show (((h / 4 % 5).toNat : Nat) : Int) = h / 4 % 5 by omega]
      simp only [retOf, sNil, sThen, sSeq, sRet, sDrop, sSet, sIf, sPar, sUn2, sFor, asL, gSet, forD, fVar, fC, f2, f1, fT, asB, fNotT, fAndT, fOrT, fAndV, fOrV, gNot, gNeg, faNil, faCons, fTup, fLst, fCall, gAbs, gInt, gLen_t2, gLen_seq, gIx_t0, gIx_t1, gI0, gAdd_int, gNe_int, gEq_int, gEq_bl, gEq_tup2, gNe_tup2, gIsi_same, Dl.isInt, Dl.isBool, Dl.isTup, Option.bind_some, Option.map_some, List.map_cons, List.map_nil, List.length_cons, List.length_nil, List.getElem?_cons_zero, List.getElem?_cons_succ, List.set_cons_zero, List.set_cons_succ, List.cons_append, List.nil_append, List.append_nil, Bool.not_true, Bool.not_false, beq_self_eq_true, bdD_none, bdD_some, gIsN, isNon, sSetM, sRetM, sDropM, vI, vName, vShare, vWalk, vNil, vCons, vLst, vTup, vCall, sh_bd, gGt, gLt, gI_pos (C := fun _ j => 0 < j) (i := h) (j := 4) (by decide), q1, if_true, Bool.false_eq_true, if_false, gI_pos (C := CDivB) d4, ix, gI_pos (C := fun _ j => 0 < j) (i := h / 4) (j := 5) (by decide)]
  obtain ⟨ps, hps⟩ : ∃ ps, ps = (List.range n).map fun (i : Nat) => prt (cell ns (1 + (i : Int))) := ⟨_, rfl⟩
  have hpl : ps.length = n := by rw [hps, List.length_map, List.length_range]
  have hpf : ∀ p ∈ ps, Fr 200 p := by
    rw [hps]
    intro p m
    obtain ⟨i, _, rfl⟩ := List.mem_map.mp m
    exact prt_fr _
  have hP : own (.lst (ps.map fr)) = true := by rw [own]; exact owns_frs _
  have hcomp : vComp (srcR (faCons (fVar 2) faNil)) [0] (vI (fCall (fn S__law_part) (faCons (fCall (fn S__law_cell_at) (faCons (fVar 1) (faCons (f2 gAdd (fC (.int 1)) (fVar 0)) faNil))) faNil))) [some (.seq (ns.map D.int)), some (.int h), some (.int (n : Int)), none, none, none, none, none] = some (.lst (ps.map fr), [some (.seq (ns.map D.int)), some (.int h), some (.int (n : Int)), none, none, none, none, none]) := by
    rw [hps, List.map_map]
    refine vComp_map (f := fun (i : Nat) => D.int (i : Int)) (src_r rfl (asR_0 (by omega))) (fun i hi => ?_) (by rw [List.length_range]; omega)
    have es : shO (some (.int (i : Int)) :: slotsOf [0] [some (.seq (ns.map D.int)), some (.int h), some (.int (n : Int)), none, none, none, none, none]) = [some (.int (i : Int)), some (.seq (ns.map D.int))] := by
      have z : sh (.seq (ns.map D.int)) = .seq (ns.map D.int) := by rw [sh, shs_ints]
      show [some (.int (i : Int)), some (sh (.seq (ns.map D.int)))] = _
      rw [z]
    rw [es]
    exact own_of (v_imm (by simp only [retOf, sNil, sThen, sSeq, sRet, sDrop, sSet, sIf, sPar, sUn2, sFor, asL, gSet, forD, fVar, fC, f2, f1, fT, asB, fNotT, fAndT, fOrT, fAndV, fOrV, gNot, gNeg, faNil, faCons, fTup, fLst, fCall, gAbs, gInt, gLen_t2, gLen_seq, gIx_t0, gIx_t1, gI0, gAdd_int, gNe_int, gEq_int, gEq_bl, gEq_tup2, gNe_tup2, gIsi_same, Dl.isInt, Dl.isBool, Dl.isTup, Option.bind_some, Option.map_some, List.map_cons, List.map_nil, List.length_cons, List.length_nil, List.getElem?_cons_zero, List.getElem?_cons_succ, List.set_cons_zero, List.set_cons_succ, List.cons_append, List.nil_append, List.append_nil, Bool.not_true, Bool.not_false, beq_self_eq_true, bdD_none, bdD_some, gIsN, isNon, sSetM, sRetM, sDropM, vI, vName, vShare, vWalk, vNil, vCons, vLst, vTup, vCall, sh_bd, ca (1 + (i : Int)) (by omega), e__law_part]; rfl)) rfl
  have oT : ∀ T, own (.tup [ownD T, .lst (ps.map fr)]) = true := fun T => by
    rw [own]
    show (own (ownD T) && (own (.lst (ps.map fr)) && true)) = true
    rw [own_ownD, hP]
    rfl
  have fin : ∀ T, Sq T (ps.length + 1) → Bk2 T → (((sSeq (sSetM 1 (vI (fCall (fn S__law_cell_at) (faCons (fVar 0) (faCons (fC (.int 0)) faNil))))) (sSeq (sSetM 2 (vI (f2 (gI (fun _ j => 0 < j) fun i j => .int (i % j)) (f2 (gI CDivB fun i j => .int (i / j)) (fVar 1) (fC (.int 4))) (f2 gIx (fLst (faCons (fC (.int 5)) (faCons (fC (.int 7)) faNil))) (fCall gInt (faCons (f2 gGt (f2 (gI (fun _ j => 0 < j) fun i j => .int (i % j)) (fVar 1) (fC (.int 4))) (fC (.int 1))) faNil)))))) (sSeq (sSetM 3 (vComp (srcR (faCons (fVar 2) faNil)) [0] (vI (fCall (fn S__law_part) (faCons (fCall (fn S__law_cell_at) (faCons (fVar 1) (faCons (f2 gAdd (fC (.int 1)) (fVar 0)) faNil))) faNil))))) (sSeq (sIf (fT (f2 gLt (f2 (gI (fun _ j => 0 < j) fun i j => .int (i % j)) (fVar 1) (fC (.int 4))) (fC (.int 2)))) (sRetM (vTup (vCons (vCall (fn S__law_any_table) (faCons (fCall (fn S__law_cell_at) (faCons (fVar 0) (faCons (fC (.int 1)) faNil))) (faCons (fVar 2) (faCons (f2 gIx (fLst (faCons (fC (.int 3)) (faCons (fC (.int 9)) (faCons (f2 (gI CPow fun i j => .int (i ^ j.toNat)) (fC (.int 10)) (fC (.int 55))) faNil)))) (f2 (gI (fun _ j => 0 < j) fun i j => .int (i % j)) (f2 (gI CDivB fun i j => .int (i / j)) (fVar 1) (fC (.int 20))) (fC (.int 3)))) faNil)))) (vCons (vName 3) vNil)))) sNil) (sSeq (sSetM 4 (vCall (fn S__law_planted) (faCons (fVar 0) (faCons (fVar 3) faNil)))) (sSeq (sIf (fT (f2 gEqN (f2 (gI (fun _ j => 0 < j) fun i j => .int (i % j)) (fVar 1) (fC (.int 4))) (fC (.int 3)))) (sSeq (sSetM 5 (vI (fCall (fn S__law_cell_at) (faCons (fVar 0) (faCons (fC (.int 7)) faNil))))) (sSeq (sSetM 6 (vI (f2 (gI (fun _ j => 0 < j) fun i j => .int (i % j)) (fVar 5) (f2 gAdd (fVar 2) (fC (.int 1)))))) (sSeq (sSetM 7 (vI (f2 (gI (fun _ j => 0 < j) fun i j => .int (i % j)) (f2 (gI CDivB fun i j => .int (i / j)) (fVar 5) (f2 gAdd (fVar 2) (fC (.int 1)))) (f2 gAdd (fVar 2) (fC (.int 1)))))) (sIf (fT (f2 gNotN (f2 gIx (f2 gIx (fVar 4) (fVar 6)) (fVar 7)) (fC .non))) (sPut2 4 (fVar 6) (fVar 7) (vI (fTup (faCons (f2 (gI0 fun i j => .int (i - j)) (f2 (gI0 fun i j => .int (i - j)) (f2 gIx (f2 gIx (f2 gIx (fVar 4) (fVar 6)) (fVar 7)) (fC (.int 0))) (fC (.int 1))) (f2 (gI (fun _ j => 0 < j) fun i j => .int (i % j)) (f2 (gI CDivB fun i j => .int (i / j)) (fVar 5) (fC (.int 50))) (fC (.int 4)))) (faCons (f2 gEqN (f2 (gI (fun _ j => 0 < j) fun i j => .int (i % j)) (f2 (gI CDivB fun i j => .int (i / j)) (fVar 5) (fC (.int 200))) (fC (.int 2))) (fC (.int 1))) faNil))))) sNil)))) sNil) (sRetM (vTup (vCons (vName 4) (vCons (vName 3) vNil)))))))))))) [some (.seq (ns.map D.int)), none, none, none, none, none, none, none] = some (.rt (.tup [ownD T, .lst (ps.map fr)])) → ∃ (T : List (List Bn)) (ps : List (Int × Int)), Sq T (ps.length + 1) ∧ Bk2 T ∧ ps.length ≤ 6 ∧ (∀ p ∈ ps, Fr 200 p) ∧ fn S__law_table_by [.seq (ns.map D.int)] = some (.tup [ownD T, .lst (ps.map fr)]) := fun T hs hB e => by
    have key : S__law_table_by [.seq (ns.map D.int)] (.tup [ownD T, .lst (ps.map fr)]) := ⟨by rw [e0]; exact rt_of e, oT T⟩
    exact ⟨T, ps, hs, hB, by omega, hpf, fn_eq (fun d' h' => Option.some.inj (h'.1.symm.trans key.1)) key⟩
  by_cases q2 : h % 4 < 2
  · have q1 : decide (h % 4 < 2) = true := decide_eq_true q2
    obtain ⟨most, hm0, hm1, hmo⟩ : ∃ most : Int, 0 ≤ most ∧ most ≤ 10 ^ 55 ∧ f2 gIx (fLst (faCons (fC (.int 3)) (faCons (fC (.int 9)) (faCons (f2 (gI CPow fun i j => .int (i ^ j.toNat)) (fC (.int 10)) (fC (.int 55))) faNil)))) (f2 (gI (fun _ j => 0 < j) fun i j => .int (i % j)) (f2 (gI CDivB fun i j => .int (i / j)) (fVar 1) (fC (.int 20))) (fC (.int 3))) [some (.seq (ns.map D.int)), some (.int h), some (.int (n : Int)), some (.lst (ps.map fr)), none, none, none, none] = some (.int most) := by
      have bp : CPow 10 55 := ⟨by decide, by decide, by decide⟩
      have e55 : (55 : Int).toNat = 55 := rfl
      have w3 : h / 20 % 3 = 0 ∨ h / 20 % 3 = 1 ∨ h / 20 % 3 = 2 := by omega
      obtain ⟨most, hm0, hm1, hmo⟩ : ∃ most : Int, 0 ≤ most ∧ most ≤ 10 ^ 55 ∧ gIx (.lst [.int 3, .int 9, .int (10 ^ 55)]) (.int (h / 20 % 3)) = some (.int most) := by
        rcases w3 with q | q | q
        · exact ⟨3, by decide, by decide, by rw [q]; rfl⟩
        · exact ⟨9, by decide, by decide, by rw [q]; rfl⟩
        · exact ⟨10 ^ 55, by decide, by decide, by rw [q]; rfl⟩
      exact ⟨most, hm0, hm1, by simp only [retOf, sNil, sThen, sSeq, sRet, sDrop, sSet, sIf, sPar, sUn2, sFor, asL, gSet, forD, fVar, fC, f2, f1, fT, asB, fNotT, fAndT, fOrT, fAndV, fOrV, gNot, gNeg, faNil, faCons, fTup, fLst, fCall, gAbs, gInt, gLen_t2, gLen_seq, gIx_t0, gIx_t1, gI0, gAdd_int, gNe_int, gEq_int, gEq_bl, gEq_tup2, gNe_tup2, gIsi_same, Dl.isInt, Dl.isBool, Dl.isTup, Option.bind_some, Option.map_some, List.map_cons, List.map_nil, List.length_cons, List.length_nil, List.getElem?_cons_zero, List.getElem?_cons_succ, List.set_cons_zero, List.set_cons_succ, List.cons_append, List.nil_append, List.append_nil, Bool.not_true, Bool.not_false, beq_self_eq_true, bdD_none, bdD_some, gIsN, isNon, sSetM, sRetM, sDropM, vI, vName, vShare, vWalk, vNil, vCons, vLst, vTup, vCall, sh_bd, gI_pos (C := CPow) bp, e55, gI_pos (C := CDivB) d20, gI_pos (C := fun _ j => 0 < j) (i := h / 20) (j := 3) (by decide), hmo]⟩
    obtain ⟨T, hG, hT⟩ := t__law_any_table (seed := cell ns 1) (k := (n : Int)) (most := most) (by omega) (by omega) hm0 hm1
    have en : ((n : Int)).toNat + 1 = ps.length + 1 := by omega
    rw [en] at hG
    refine fin T hG.sq (fun i j => (hG.cell i j).mono (by decide)) ?_
    refine st_seq (st_set (v_imm (d := .int h) (by simp only [retOf, sNil, sThen, sSeq, sRet, sDrop, sSet, sIf, sPar, sUn2, sFor, asL, gSet, forD, fVar, fC, f2, f1, fT, asB, fNotT, fAndT, fOrT, fAndV, fOrV, gNot, gNeg, faNil, faCons, fTup, fLst, fCall, gAbs, gInt, gLen_t2, gLen_seq, gIx_t0, gIx_t1, gI0, gAdd_int, gNe_int, gEq_int, gEq_bl, gEq_tup2, gNe_tup2, gIsi_same, Dl.isInt, Dl.isBool, Dl.isTup, Option.bind_some, Option.map_some, List.map_cons, List.map_nil, List.length_cons, List.length_nil, List.getElem?_cons_zero, List.getElem?_cons_succ, List.set_cons_zero, List.set_cons_succ, List.cons_append, List.nil_append, List.append_nil, Bool.not_true, Bool.not_false, beq_self_eq_true, bdD_none, bdD_some, gIsN, isNon, sSetM, sRetM, sDropM, vI, vName, vShare, vWalk, vNil, vCons, vLst, vTup, vCall, sh_bd, c0]))) (st_seq (st_set (v_imm hk)) (st_seq (st_set hcomp) (st_seq' (st_ifT ?_ (st_ret (δ' := [some (.seq (ns.map D.int)), some (.int h), some (.int (n : Int)), none, none, none, none, none]) ?_)))))
    · simp only [List.set_cons_zero, List.set_cons_succ, retOf, sNil, sThen, sSeq, sRet, sDrop, sSet, sIf, sPar, sUn2, sFor, asL, gSet, forD, fVar, fC, f2, f1, fT, asB, fNotT, fAndT, fOrT, fAndV, fOrV, gNot, gNeg, faNil, faCons, fTup, fLst, fCall, gAbs, gInt, gLen_t2, gLen_seq, gIx_t0, gIx_t1, gI0, gAdd_int, gNe_int, gEq_int, gEq_bl, gEq_tup2, gNe_tup2, gIsi_same, Dl.isInt, Dl.isBool, Dl.isTup, Option.bind_some, Option.map_some, List.map_cons, List.map_nil, List.length_cons, List.length_nil, List.getElem?_cons_zero, List.getElem?_cons_succ, List.set_cons_zero, List.set_cons_succ, List.cons_append, List.nil_append, List.append_nil, Bool.not_true, Bool.not_false, beq_self_eq_true, bdD_none, bdD_some, gIsN, isNon, sSetM, sRetM, sDropM, vI, vName, vShare, vWalk, vNil, vCons, vLst, vTup, vCall, sh_bd, gLt, gI_pos (C := fun _ j => 0 < j) (i := h) (j := 4) (by decide), q1]
    · have v1 : vCall (fn S__law_any_table) (faCons (fCall (fn S__law_cell_at) (faCons (fVar 0) (faCons (fC (.int 1)) faNil))) (faCons (fVar 2) (faCons (f2 gIx (fLst (faCons (fC (.int 3)) (faCons (fC (.int 9)) (faCons (f2 (gI CPow fun i j => .int (i ^ j.toNat)) (fC (.int 10)) (fC (.int 55))) faNil)))) (f2 (gI (fun _ j => 0 < j) fun i j => .int (i % j)) (f2 (gI CDivB fun i j => .int (i / j)) (fVar 1) (fC (.int 20))) (fC (.int 3)))) faNil))) [some (.seq (ns.map D.int)), some (.int h), some (.int (n : Int)), some (.lst (ps.map fr)), none, none, none, none] = some (ownD T, [some (.seq (ns.map D.int)), some (.int h), some (.int (n : Int)), some (.lst (ps.map fr)), none, none, none, none]) := v_call (ds := [.int (cell ns 1), .int (n : Int), .int most]) (fa3 (by simp only [retOf, sNil, sThen, sSeq, sRet, sDrop, sSet, sIf, sPar, sUn2, sFor, asL, gSet, forD, fVar, fC, f2, f1, fT, asB, fNotT, fAndT, fOrT, fAndV, fOrV, gNot, gNeg, faNil, faCons, fTup, fLst, fCall, gAbs, gInt, gLen_t2, gLen_seq, gIx_t0, gIx_t1, gI0, gAdd_int, gNe_int, gEq_int, gEq_bl, gEq_tup2, gNe_tup2, gIsi_same, Dl.isInt, Dl.isBool, Dl.isTup, Option.bind_some, Option.map_some, List.map_cons, List.map_nil, List.length_cons, List.length_nil, List.getElem?_cons_zero, List.getElem?_cons_succ, List.set_cons_zero, List.set_cons_succ, List.cons_append, List.nil_append, List.append_nil, Bool.not_true, Bool.not_false, beq_self_eq_true, bdD_none, bdD_some, gIsN, isNon, sSetM, sRetM, sDropM, vI, vName, vShare, vWalk, vNil, vCons, vLst, vTup, vCall, sh_bd, ca 1 (by decide)]) rfl hmo) hT (own_ownD T)
      exact v_tup2 v1 (v_move rfl)
  · have q1 : decide (h % 4 < 2) = false := decide_eq_false q2
    obtain ⟨T, hG, hT⟩ := t__law_planted (ns := ns) (isP_lst ps) hpf (by omega)
    obtain ⟨T', o5, o6, o7, hs', hB', hst⟩ : ∃ (T' : List (List Bn)) (o5 o6 o7 : Option D), Sq T' (ps.length + 1) ∧ Bk2 T' ∧ ((sIf (fT (f2 gEqN (f2 (gI (fun _ j => 0 < j) fun i j => .int (i % j)) (fVar 1) (fC (.int 4))) (fC (.int 3)))) (sSeq (sSetM 5 (vI (fCall (fn S__law_cell_at) (faCons (fVar 0) (faCons (fC (.int 7)) faNil))))) (sSeq (sSetM 6 (vI (f2 (gI (fun _ j => 0 < j) fun i j => .int (i % j)) (fVar 5) (f2 gAdd (fVar 2) (fC (.int 1)))))) (sSeq (sSetM 7 (vI (f2 (gI (fun _ j => 0 < j) fun i j => .int (i % j)) (f2 (gI CDivB fun i j => .int (i / j)) (fVar 5) (f2 gAdd (fVar 2) (fC (.int 1)))) (f2 gAdd (fVar 2) (fC (.int 1)))))) (sIf (fT (f2 gNotN (f2 gIx (f2 gIx (fVar 4) (fVar 6)) (fVar 7)) (fC .non))) (sPut2 4 (fVar 6) (fVar 7) (vI (fTup (faCons (f2 (gI0 fun i j => .int (i - j)) (f2 (gI0 fun i j => .int (i - j)) (f2 gIx (f2 gIx (f2 gIx (fVar 4) (fVar 6)) (fVar 7)) (fC (.int 0))) (fC (.int 1))) (f2 (gI (fun _ j => 0 < j) fun i j => .int (i % j)) (f2 (gI CDivB fun i j => .int (i / j)) (fVar 5) (fC (.int 50))) (fC (.int 4)))) (faCons (f2 gEqN (f2 (gI (fun _ j => 0 < j) fun i j => .int (i % j)) (f2 (gI CDivB fun i j => .int (i / j)) (fVar 5) (fC (.int 200))) (fC (.int 2))) (fC (.int 1))) faNil))))) sNil)))) sNil)) [some (.seq (ns.map D.int)), some (.int h), some (.int (n : Int)), some (.lst (ps.map fr)), some (ownD T), none, none, none] = some (.nx [some (.seq (ns.map D.int)), some (.int h), some (.int (n : Int)), some (.lst (ps.map fr)), some (ownD T'), o5, o6, o7]) := by
      by_cases q3 : h % 4 = 3
      · have q4 : (h % 4 == 3) = true := by simp [q3]
        obtain ⟨c, hc⟩ : ∃ c, c = cell ns 7 := ⟨_, rfl⟩
        have c7 := ca 7 (by decide)
        rw [← hc] at c7
        have hkp : 0 < (n : Int) + 1 := by omega
        have dk : CDivB c ((n : Int) + 1) := ⟨hkp, bd_sm (by omega)⟩
        have d50 : CDivB c 50 := ⟨by decide, bd_sm⟩
        have d200 : CDivB c 200 := ⟨by decide, bd_sm⟩
        have r0 := Int.emod_nonneg c (show (n : Int) + 1 ≠ 0 by omega)
        have r1 := Int.emod_lt_of_pos c hkp
        have r2 := Int.emod_nonneg (c / ((n : Int) + 1)) (show (n : Int) + 1 ≠ 0 by omega)
        have r3 := Int.emod_lt_of_pos (c / ((n : Int) + 1)) hkp
        obtain ⟨I, hI, hI'⟩ : ∃ I : Nat, c % ((n : Int) + 1) = (I : Int) ∧ I < ps.length + 1 := ⟨(c % ((n : Int) + 1)).toNat, by omega, by omega⟩
        obtain ⟨J, hJ, hJ'⟩ : ∃ J : Nat, c / ((n : Int) + 1) % ((n : Int) + 1) = (J : Int) ∧ J < ps.length + 1 := ⟨(c / ((n : Int) + 1) % ((n : Int) + 1)).toNat, by omega, by omega⟩
        obtain ⟨rw', x1, x2, _, _, _⟩ := ix_own hG.sq hI' hJ'
        have hcell := hG.cell I J
        rcases hcx : cellT T I J with _ | ⟨m, s⟩
        · rw [hcx] at x2
          refine ⟨T, some (.int c), some (.int (I : Int)), some (.int (J : Int)), hG.sq, fun i j => (hG.cell i j).mono (by decide), ?_⟩
          exact st_ifT (by simp only [retOf, sNil, sThen, sSeq, sRet, sDrop, sSet, sIf, sPar, sUn2, sFor, asL, gSet, forD, fVar, fC, f2, f1, fT, asB, fNotT, fAndT, fOrT, fAndV, fOrV, gNot, gNeg, faNil, faCons, fTup, fLst, fCall, gAbs, gInt, gLen_t2, gLen_seq, gIx_t0, gIx_t1, gI0, gAdd_int, gNe_int, gEq_int, gEq_bl, gEq_tup2, gNe_tup2, gIsi_same, Dl.isInt, Dl.isBool, Dl.isTup, Option.bind_some, Option.map_some, List.map_cons, List.map_nil, List.length_cons, List.length_nil, List.getElem?_cons_zero, List.getElem?_cons_succ, List.set_cons_zero, List.set_cons_succ, List.cons_append, List.nil_append, List.append_nil, Bool.not_true, Bool.not_false, beq_self_eq_true, bdD_none, bdD_some, gIsN, isNon, sSetM, sRetM, sDropM, vI, vName, vShare, vWalk, vNil, vCons, vLst, vTup, vCall, sh_bd, gEqN_int, gI_pos (C := fun _ j => 0 < j) (i := h) (j := 4) (by decide), q4]) (st_seq (st_set (v_imm (d := .int c) (by simp only [retOf, sNil, sThen, sSeq, sRet, sDrop, sSet, sIf, sPar, sUn2, sFor, asL, gSet, forD, fVar, fC, f2, f1, fT, asB, fNotT, fAndT, fOrT, fAndV, fOrV, gNot, gNeg, faNil, faCons, fTup, fLst, fCall, gAbs, gInt, gLen_t2, gLen_seq, gIx_t0, gIx_t1, gI0, gAdd_int, gNe_int, gEq_int, gEq_bl, gEq_tup2, gNe_tup2, gIsi_same, Dl.isInt, Dl.isBool, Dl.isTup, Option.bind_some, Option.map_some, List.map_cons, List.map_nil, List.length_cons, List.length_nil, List.getElem?_cons_zero, List.getElem?_cons_succ, List.set_cons_zero, List.set_cons_succ, List.cons_append, List.nil_append, List.append_nil, Bool.not_true, Bool.not_false, beq_self_eq_true, bdD_none, bdD_some, gIsN, isNon, sSetM, sRetM, sDropM, vI, vName, vShare, vWalk, vNil, vCons, vLst, vTup, vCall, sh_bd, c7]))) (st_seq (st_set (v_imm (d := .int (I : Int)) (by simp only [retOf, sNil, sThen, sSeq, sRet, sDrop, sSet, sIf, sPar, sUn2, sFor, asL, gSet, forD, fVar, fC, f2, f1, fT, asB, fNotT, fAndT, fOrT, fAndV, fOrV, gNot, gNeg, faNil, faCons, fTup, fLst, fCall, gAbs, gInt, gLen_t2, gLen_seq, gIx_t0, gIx_t1, gI0, gAdd_int, gNe_int, gEq_int, gEq_bl, gEq_tup2, gNe_tup2, gIsi_same, Dl.isInt, Dl.isBool, Dl.isTup, Option.bind_some, Option.map_some, List.map_cons, List.map_nil, List.length_cons, List.length_nil, List.getElem?_cons_zero, List.getElem?_cons_succ, List.set_cons_zero, List.set_cons_succ, List.cons_append, List.nil_append, List.append_nil, Bool.not_true, Bool.not_false, beq_self_eq_true, bdD_none, bdD_some, gIsN, isNon, sSetM, sRetM, sDropM, vI, vName, vShare, vWalk, vNil, vCons, vLst, vTup, vCall, sh_bd, gI_pos (C := fun _ j => 0 < j) (i := c) hkp, hI]))) (st_seq (st_set (v_imm (d := .int (J : Int)) (by simp only [retOf, sNil, sThen, sSeq, sRet, sDrop, sSet, sIf, sPar, sUn2, sFor, asL, gSet, forD, fVar, fC, f2, f1, fT, asB, fNotT, fAndT, fOrT, fAndV, fOrV, gNot, gNeg, faNil, faCons, fTup, fLst, fCall, gAbs, gInt, gLen_t2, gLen_seq, gIx_t0, gIx_t1, gI0, gAdd_int, gNe_int, gEq_int, gEq_bl, gEq_tup2, gNe_tup2, gIsi_same, Dl.isInt, Dl.isBool, Dl.isTup, Option.bind_some, Option.map_some, List.map_cons, List.map_nil, List.length_cons, List.length_nil, List.getElem?_cons_zero, List.getElem?_cons_succ, List.set_cons_zero, List.set_cons_succ, List.cons_append, List.nil_append, List.append_nil, Bool.not_true, Bool.not_false, beq_self_eq_true, bdD_none, bdD_some, gIsN, isNon, sSetM, sRetM, sDropM, vI, vName, vShare, vWalk, vNil, vCons, vLst, vTup, vCall, sh_bd, gI_pos (C := CDivB) dk, gI_pos (C := fun _ j => 0 < j) (i := c / ((n : Int) + 1)) hkp, hJ]))) (st_ifF (by simp only [retOf, sNil, sThen, sSeq, sRet, sDrop, sSet, sIf, sPar, sUn2, sFor, asL, gSet, forD, fVar, fC, f2, f1, fT, asB, fNotT, fAndT, fOrT, fAndV, fOrV, gNot, gNeg, faNil, faCons, fTup, fLst, fCall, gAbs, gInt, gLen_t2, gLen_seq, gIx_t0, gIx_t1, gI0, gAdd_int, gNe_int, gEq_int, gEq_bl, gEq_tup2, gNe_tup2, gIsi_same, Dl.isInt, Dl.isBool, Dl.isTup, Option.bind_some, Option.map_some, List.map_cons, List.map_nil, List.length_cons, List.length_nil, List.getElem?_cons_zero, List.getElem?_cons_succ, List.set_cons_zero, List.set_cons_succ, List.cons_append, List.nil_append, List.append_nil, Bool.not_true, Bool.not_false, beq_self_eq_true, bdD_none, bdD_some, gIsN, isNon, sSetM, sRetM, sDropM, vI, vName, vShare, vWalk, vNil, vCons, vLst, vTup, vCall, sh_bd, gNotN, x1, x2]) rfl))))
        · rw [hcx] at x2 hcell
          refine ⟨set2 T I J (some (m - 1 - c / 50 % 4, c / 200 % 2 == 1)), some (.int c), some (.int (I : Int)), some (.int (J : Int)), set2_sq hG.sq hI', fun i j => ?_, ?_⟩
          · rw [cell_set2 hG.sq hI' hJ']
            split
            · exact Sm.mono (k := 1002) (((show Sm 1000 m from hcell).sub (y := 1) (Sm.mono (k := 10) (Sm.of (by omega) (by omega)) (by decide))).sub (y := c / 50 % 4) (Sm.mono (k := 10) (Sm.of (by omega) (by omega)) (by decide))) (by decide)
            · exact (hG.cell i j).mono (by decide)
          · exact st_ifT (by simp only [retOf, sNil, sThen, sSeq, sRet, sDrop, sSet, sIf, sPar, sUn2, sFor, asL, gSet, forD, fVar, fC, f2, f1, fT, asB, fNotT, fAndT, fOrT, fAndV, fOrV, gNot, gNeg, faNil, faCons, fTup, fLst, fCall, gAbs, gInt, gLen_t2, gLen_seq, gIx_t0, gIx_t1, gI0, gAdd_int, gNe_int, gEq_int, gEq_bl, gEq_tup2, gNe_tup2, gIsi_same, Dl.isInt, Dl.isBool, Dl.isTup, Option.bind_some, Option.map_some, List.map_cons, List.map_nil, List.length_cons, List.length_nil, List.getElem?_cons_zero, List.getElem?_cons_succ, List.set_cons_zero, List.set_cons_succ, List.cons_append, List.nil_append, List.append_nil, Bool.not_true, Bool.not_false, beq_self_eq_true, bdD_none, bdD_some, gIsN, isNon, sSetM, sRetM, sDropM, vI, vName, vShare, vWalk, vNil, vCons, vLst, vTup, vCall, sh_bd, gEqN_int, gI_pos (C := fun _ j => 0 < j) (i := h) (j := 4) (by decide), q4]) (st_seq (st_set (v_imm (d := .int c) (by simp only [retOf, sNil, sThen, sSeq, sRet, sDrop, sSet, sIf, sPar, sUn2, sFor, asL, gSet, forD, fVar, fC, f2, f1, fT, asB, fNotT, fAndT, fOrT, fAndV, fOrV, gNot, gNeg, faNil, faCons, fTup, fLst, fCall, gAbs, gInt, gLen_t2, gLen_seq, gIx_t0, gIx_t1, gI0, gAdd_int, gNe_int, gEq_int, gEq_bl, gEq_tup2, gNe_tup2, gIsi_same, Dl.isInt, Dl.isBool, Dl.isTup, Option.bind_some, Option.map_some, List.map_cons, List.map_nil, List.length_cons, List.length_nil, List.getElem?_cons_zero, List.getElem?_cons_succ, List.set_cons_zero, List.set_cons_succ, List.cons_append, List.nil_append, List.append_nil, Bool.not_true, Bool.not_false, beq_self_eq_true, bdD_none, bdD_some, gIsN, isNon, sSetM, sRetM, sDropM, vI, vName, vShare, vWalk, vNil, vCons, vLst, vTup, vCall, sh_bd, c7]))) (st_seq (st_set (v_imm (d := .int (I : Int)) (by simp only [retOf, sNil, sThen, sSeq, sRet, sDrop, sSet, sIf, sPar, sUn2, sFor, asL, gSet, forD, fVar, fC, f2, f1, fT, asB, fNotT, fAndT, fOrT, fAndV, fOrV, gNot, gNeg, faNil, faCons, fTup, fLst, fCall, gAbs, gInt, gLen_t2, gLen_seq, gIx_t0, gIx_t1, gI0, gAdd_int, gNe_int, gEq_int, gEq_bl, gEq_tup2, gNe_tup2, gIsi_same, Dl.isInt, Dl.isBool, Dl.isTup, Option.bind_some, Option.map_some, List.map_cons, List.map_nil, List.length_cons, List.length_nil, List.getElem?_cons_zero, List.getElem?_cons_succ, List.set_cons_zero, List.set_cons_succ, List.cons_append, List.nil_append, List.append_nil, Bool.not_true, Bool.not_false, beq_self_eq_true, bdD_none, bdD_some, gIsN, isNon, sSetM, sRetM, sDropM, vI, vName, vShare, vWalk, vNil, vCons, vLst, vTup, vCall, sh_bd, gI_pos (C := fun _ j => 0 < j) (i := c) hkp, hI]))) (st_seq (st_set (v_imm (d := .int (J : Int)) (by simp only [retOf, sNil, sThen, sSeq, sRet, sDrop, sSet, sIf, sPar, sUn2, sFor, asL, gSet, forD, fVar, fC, f2, f1, fT, asB, fNotT, fAndT, fOrT, fAndV, fOrV, gNot, gNeg, faNil, faCons, fTup, fLst, fCall, gAbs, gInt, gLen_t2, gLen_seq, gIx_t0, gIx_t1, gI0, gAdd_int, gNe_int, gEq_int, gEq_bl, gEq_tup2, gNe_tup2, gIsi_same, Dl.isInt, Dl.isBool, Dl.isTup, Option.bind_some, Option.map_some, List.map_cons, List.map_nil, List.length_cons, List.length_nil, List.getElem?_cons_zero, List.getElem?_cons_succ, List.set_cons_zero, List.set_cons_succ, List.cons_append, List.nil_append, List.append_nil, Bool.not_true, Bool.not_false, beq_self_eq_true, bdD_none, bdD_some, gIsN, isNon, sSetM, sRetM, sDropM, vI, vName, vShare, vWalk, vNil, vCons, vLst, vTup, vCall, sh_bd, gI_pos (C := CDivB) dk, gI_pos (C := fun _ j => 0 < j) (i := c / ((n : Int) + 1)) hkp, hJ]))) (st_ifT (by simp only [retOf, sNil, sThen, sSeq, sRet, sDrop, sSet, sIf, sPar, sUn2, sFor, asL, gSet, forD, fVar, fC, f2, f1, fT, asB, fNotT, fAndT, fOrT, fAndV, fOrV, gNot, gNeg, faNil, faCons, fTup, fLst, fCall, gAbs, gInt, gLen_t2, gLen_seq, gIx_t0, gIx_t1, gI0, gAdd_int, gNe_int, gEq_int, gEq_bl, gEq_tup2, gNe_tup2, gIsi_same, Dl.isInt, Dl.isBool, Dl.isTup, Option.bind_some, Option.map_some, List.map_cons, List.map_nil, List.length_cons, List.length_nil, List.getElem?_cons_zero, List.getElem?_cons_succ, List.set_cons_zero, List.set_cons_succ, List.cons_append, List.nil_append, List.append_nil, Bool.not_true, Bool.not_false, beq_self_eq_true, bdD_none, bdD_some, gIsN, isNon, sSetM, sRetM, sDropM, vI, vName, vShare, vWalk, vNil, vCons, vLst, vTup, vCall, sh_bd, gNotN, x1, x2]) (sPut2_g hG.sq hI' hJ' rfl rfl rfl (v_imm (by simp only [retOf, sNil, sThen, sSeq, sRet, sDrop, sSet, sIf, sPar, sUn2, sFor, asL, gSet, forD, fVar, fC, f2, f1, fT, asB, fNotT, fAndT, fOrT, fAndV, fOrV, gNot, gNeg, faNil, faCons, fTup, fLst, fCall, gAbs, gInt, gLen_t2, gLen_seq, gIx_t0, gIx_t1, gI0, gAdd_int, gNe_int, gEq_int, gEq_bl, gEq_tup2, gNe_tup2, gIsi_same, Dl.isInt, Dl.isBool, Dl.isTup, Option.bind_some, Option.map_some, List.map_cons, List.map_nil, List.length_cons, List.length_nil, List.getElem?_cons_zero, List.getElem?_cons_succ, List.set_cons_zero, List.set_cons_succ, List.cons_append, List.nil_append, List.append_nil, Bool.not_true, Bool.not_false, beq_self_eq_true, bdD_none, bdD_some, gIsN, isNon, sSetM, sRetM, sDropM, vI, vName, vShare, vWalk, vNil, vCons, vLst, vTup, vCall, sh_bd, gEqN_int, x1, x2, gI_pos (C := CDivB) d50, gI_pos (C := fun _ j => 0 < j) (i := c / 50) (j := 4) (by decide), gI_pos (C := CDivB) d200, gI_pos (C := fun _ j => 0 < j) (i := c / 200) (j := 2) (by decide)]) (imm_bd _)))))))
      · have q4 : (h % 4 == 3) = false := by simp [q3]
        exact ⟨T, none, none, none, hG.sq, fun i j => (hG.cell i j).mono (by decide), st_ifF (by simp only [retOf, sNil, sThen, sSeq, sRet, sDrop, sSet, sIf, sPar, sUn2, sFor, asL, gSet, forD, fVar, fC, f2, f1, fT, asB, fNotT, fAndT, fOrT, fAndV, fOrV, gNot, gNeg, faNil, faCons, fTup, fLst, fCall, gAbs, gInt, gLen_t2, gLen_seq, gIx_t0, gIx_t1, gI0, gAdd_int, gNe_int, gEq_int, gEq_bl, gEq_tup2, gNe_tup2, gIsi_same, Dl.isInt, Dl.isBool, Dl.isTup, Option.bind_some, Option.map_some, List.map_cons, List.map_nil, List.length_cons, List.length_nil, List.getElem?_cons_zero, List.getElem?_cons_succ, List.set_cons_zero, List.set_cons_succ, List.cons_append, List.nil_append, List.append_nil, Bool.not_true, Bool.not_false, beq_self_eq_true, bdD_none, bdD_some, gIsN, isNon, sSetM, sRetM, sDropM, vI, vName, vShare, vWalk, vNil, vCons, vLst, vTup, vCall, sh_bd, gEqN_int, gI_pos (C := fun _ j => 0 < j) (i := h) (j := 4) (by decide), q4]) rfl⟩
    refine fin T' hs' hB' ?_
    exact st_seq (st_set (v_imm (d := .int h) (by simp only [retOf, sNil, sThen, sSeq, sRet, sDrop, sSet, sIf, sPar, sUn2, sFor, asL, gSet, forD, fVar, fC, f2, f1, fT, asB, fNotT, fAndT, fOrT, fAndV, fOrV, gNot, gNeg, faNil, faCons, fTup, fLst, fCall, gAbs, gInt, gLen_t2, gLen_seq, gIx_t0, gIx_t1, gI0, gAdd_int, gNe_int, gEq_int, gEq_bl, gEq_tup2, gNe_tup2, gIsi_same, Dl.isInt, Dl.isBool, Dl.isTup, Option.bind_some, Option.map_some, List.map_cons, List.map_nil, List.length_cons, List.length_nil, List.getElem?_cons_zero, List.getElem?_cons_succ, List.set_cons_zero, List.set_cons_succ, List.cons_append, List.nil_append, List.append_nil, Bool.not_true, Bool.not_false, beq_self_eq_true, bdD_none, bdD_some, gIsN, isNon, sSetM, sRetM, sDropM, vI, vName, vShare, vWalk, vNil, vCons, vLst, vTup, vCall, sh_bd, c0]))) (st_seq (st_set (v_imm hk)) (st_seq (st_set hcomp) (st_seq (st_ifF (by simp only [List.set_cons_zero, List.set_cons_succ, retOf, sNil, sThen, sSeq, sRet, sDrop, sSet, sIf, sPar, sUn2, sFor, asL, gSet, forD, fVar, fC, f2, f1, fT, asB, fNotT, fAndT, fOrT, fAndV, fOrV, gNot, gNeg, faNil, faCons, fTup, fLst, fCall, gAbs, gInt, gLen_t2, gLen_seq, gIx_t0, gIx_t1, gI0, gAdd_int, gNe_int, gEq_int, gEq_bl, gEq_tup2, gNe_tup2, gIsi_same, Dl.isInt, Dl.isBool, Dl.isTup, Option.bind_some, Option.map_some, List.map_cons, List.map_nil, List.length_cons, List.length_nil, List.getElem?_cons_zero, List.getElem?_cons_succ, List.set_cons_zero, List.set_cons_succ, List.cons_append, List.nil_append, List.append_nil, Bool.not_true, Bool.not_false, beq_self_eq_true, bdD_none, bdD_some, gIsN, isNon, sSetM, sRetM, sDropM, vI, vName, vShare, vWalk, vNil, vCons, vLst, vTup, vCall, sh_bd, gLt, gI_pos (C := fun _ j => 0 < j) (i := h) (j := 4) (by decide), q1]) rfl) (st_seq (st_set (v_call (ds := [.seq (ns.map D.int), .lst (ps.map fr)]) rfl hT (own_ownD T))) (st_seq hst (st_ret (v_tup2 (v_move rfl) (v_move rfl))))))))
theorem ok__law_table_by (F : Fun K "_law_table_by" "_law_table_by" s__law_table_by f fd) (hLcell_at : Has P w K mg base 1 "_law_cell_at" ["_law_script", "_law_k"] (fn S__law_cell_at)) (hLplanted : HasF P w K mg base 2 "_law_planted" ["_law_script", "_law_point"] (fn S__law_planted)) (hLpart : Has P w K mg base 2 "_law_part" ["_law_cell"] (fn S__law_part)) (hLany_table : HasF P w K mg base 2 "_law_any_table" ["_law_seed", "_law_k", "_law_most"] (fn S__law_any_table))  (m_int : mg "int" = none) (m_range : mg "range" = none) : FnOk P w K mg base CX0 3 f fd ["_law_script"] (freshSp K 1 (fn S__law_table_by)) := by
  have sc := sc__law_table_by
  refine fresh_ok F sc__law_table_by (fun cdv A outer s H E ds d hr hG hl => ?_)
  have hb := fn_inv hG
  have hown := hb.2
  refine ⟨_, (pm_cons (pm_set 1 sc.nd (pv_imm (pd_callH hLcell_at hr (pad_cons (pd_var 0) (pad_cons pd_int pad_nil)))))
      (pm_cons (pm_set 2 sc.nd (pv_imm (pd_mod (pd_fdiv (pd_var 1) pd_int) (pd_ix (pd_lst (pad_cons pd_int (pad_cons pd_int pad_nil))) (pd_callTy call_int1 cd_int rfl m_int boot_int (pad_cons (pd_gt (pd_mod (pd_var 1) pd_int) pd_int) pad_nil))))))
      (pm_cons (pm_comp 3 sc.nd (by exact (pid_range1 rfl m_range (pad_cons (pd_var 2) pad_nil))) (N := ["_law_t", "_law_script"]) (js := [0]) (cl := [("_law_script", _)]) (fun _ _ _ _ _ => by exact (pv_imm (pd_callH hLpart hr (pad_cons (pd_callH hLcell_at hr (pad_cons (pd_var 1) (pad_cons (pd_add pd_int (pd_var 0)) pad_nil))) pad_nil)))) (by exact CompOk.one))
      (pm_cons (pm_if (ptd_lt (pd_mod (pd_var 1) pd_int) pd_int) (pm_one (pm_ret (pv_tup (pva_cons (pv_call hLany_table hr (pad_cons (pd_callH hLcell_at hr (pad_cons (pd_var 0) (pad_cons pd_int pad_nil))) (pad_cons (pd_var 2) (pad_cons (pd_ix (pd_lst (pad_cons pd_int (pad_cons pd_int (pad_cons (pd_pow pd_int pd_int) pad_nil)))) (pd_mod (pd_fdiv (pd_var 1) pd_int) pd_int)) pad_nil)))) (pva_cons (pv_name 3) pva_nil))))) pm_nil)
      (pm_cons (pm_set 4 sc.nd (pv_call hLplanted hr (pad_cons (pd_var 0) (pad_cons (pd_var 3) pad_nil))))
      (pm_cons (pm_if (ptd_eqN hr.units (pd_mod (pd_var 1) pd_int) pd_int) (pm_cons (pm_set 5 sc.nd (pv_imm (pd_callH hLcell_at hr (pad_cons (pd_var 0) (pad_cons pd_int pad_nil)))))
        (pm_cons (pm_set 6 sc.nd (pv_imm (pd_mod (pd_var 5) (pd_add (pd_var 2) pd_int))))
        (pm_cons (pm_set 7 sc.nd (pv_imm (pd_mod (pd_fdiv (pd_var 5) (pd_add (pd_var 2) pd_int)) (pd_add (pd_var 2) pd_int))))
        (pm_one (pm_if (ptd_notN (pd_ix (pd_ix (pd_var 4) (pd_var 6)) (pd_var 7)) pd_non) (pm_one (pm_put2 4 (pv_imm (pd_tup (pad_cons (pd_sub (pd_sub (pd_ix (pd_ix (pd_ix (pd_var 4) (pd_var 6)) (pd_var 7)) pd_int) pd_int) (pd_mod (pd_fdiv (pd_var 5) pd_int) pd_int)) (pad_cons (pd_eqN hr.units (pd_mod (pd_fdiv (pd_var 5) pd_int) pd_int) pd_int) pad_nil)))) (pg_sub (pe_ix ix_list (pvi 4) (pd_var 6) (fun _ _ => rfl)) (pd_var 7) set_list))) pm_nil))))) pm_nil)
      (pm_one (pm_ret (pv_tup (pva_cons (pv_name 4) (pva_cons (pv_name 3) pva_nil))))))))))), ?_, ?own⟩
  case own => first | rfl | exact hown
  · show retOf ((?f : SD) (startM 8 _)) = _
    exact hb.1
abbrev s__law_right : Stmt := top 37
theorem sc__law_right : FnScope ["_law_found", "_law_table", "_law_due", "_law_row"] ["_law_found", "_law_table"] (defScope s__law_right) := ⟨rfl, rfl, rfl, by decide +kernel, rfl, by decide +kernel, by decide +kernel⟩
theorem ok__law_right (F : Fun K "_law_right" "_law_right" s__law_right f fd) (hLclosed : HasF P w K mg base 2 "_law_closed" ["_law_table"] (fn S__law_closed)) (hLis_ring : HasF P w K mg base 2 "_law_is_ring" ["_law_found", "_law_table"] (fn S__law_is_ring)) (hLis_bound : Has P w K mg base 2 "_law_is_bound" ["_law_found"] (fn S__law_is_bound))  (m_isinstance : mg "isinstance" = none) (m_tuple : mg "tuple" = none) (m_len : mg "len" = none) (m_list : mg "list" = none) (m_all : mg "all" = none) : FnOk P w K mg base CX0 3 f fd ["_law_found", "_law_table"] (freshSp K 2 (fn S__law_right)) := by
  have sc := sc__law_right
  refine fresh_ok F sc__law_right (fun cdv A outer s H E ds d hr hG hl => ?_)
  obtain ⟨d0, d1, T, n, h0, h1, hs, hn, rfl, rfl⟩ := fn_inv hG
  have hown : own (.bl true) = true := rfl
  refine ⟨_, (pm_cons (pm_if (PWD.pt (pwd_or (ptd_not (ptd_val (pd_callB call_isi (cd_isi ok_isTup) rfl m_isinstance boot_isinstance (pad_cons (pd_var 0) (pad_cons (pd_ty rfl m_tuple boot_tuple) pad_nil))))) (pwd_or1 (ptd_neN hr.units (pd_callB call_len_seq cd_len rfl m_len PySem.boot_len (pad_cons (pd_var 0) pad_nil)) pd_int)))) (pm_one (pm_ret (pv_imm pd_bl))) pm_nil)
      (pm_cons (pm_set 2 sc.nd (pv_call hLclosed hr (pad_cons (pd_var 1) pad_nil)))
      (pm_cons (pm_if (ptd_isN (pd_var 2) pd_non) (pm_one (pm_ret (pv_imm (pd_and (pd_eqN hr.units (pd_ix (pd_var 0) pd_int) pd_str) (pd_one (pd_callH hLis_ring.has hr (pad_cons (pd_ix (pd_var 0) pd_int) (pad_cons (pd_var 1) pad_nil)))))))) pm_nil)
      (pm_cons (pm_if (PWD.pt (pwd_or (ptd_neN hr.units (pd_ix (pd_var 0) pd_int) pd_str) (pwd_or1 (ptd_not (ptd_val (pd_callB call_isi (cd_isi ok_isLst) rfl m_isinstance boot_isinstance (pad_cons (pd_ix (pd_var 0) pd_int) (pad_cons (pd_ty rfl m_list boot_list) pad_nil)))))))) (pm_one (pm_ret (pv_imm pd_bl))) pm_nil)
      (pm_cons (pm_for 3 sc.nd PassesOwn.never rfl (pim_tix 0 1 (pvi 0) pd_int)
        (pm_one (pm_if (PWD.pt (pwd_or (ptd_not (ptd_val (pd_callB call_isi (cd_isi ok_isLst) rfl m_isinstance boot_isinstance (pad_cons (pd_var 3) (pad_cons (pd_ty rfl m_list boot_list) pad_nil))))) (pwd_or1 (ptd_not (ptd_val (pd_callB (call_all rfl) cd_all rfl m_all boot_allB (pad_cons (pd_comp (by exact (pid_list (pd_var 3))) (N := ["_law_bound"]) (js := []) (cl := []) (fun _ _ _ _ _ => by exact (pd_callH hLis_bound hr (pad_cons (pd_var 0) pad_nil))) (by exact CompOk.nil)) pad_nil))))))) (pm_one (pm_ret (pv_imm pd_bl))) pm_nil)))
      (pm_one (pm_ret (pv_imm (pd_eqN hr.units (pd_ix (pd_var 0) pd_int) (pd_var 2)))))))))), ?_, ?own⟩
  case own => first | rfl | exact hown
  · show retOf ((?f : SD) (startM 4 _)) = _
    have ec := e__law_closed (isT_tab T) hs (show n ≤ 41 by omega)
    have n2 : gNeN (.int 2) (.int 2) = some (.bl false) := rfl
    rcases closed_cases (T := T) hn with ⟨r, e1, hl, nd, lt, bad, e2⟩ | ⟨U, hU, e1, e2⟩
    · rw [e1, sRing] at h0
      have e0 : startM 4 [d0, d1] = [some (.tup [.str "ring", .seq (intsD r)]), some (tabD T), none, none] := by
        show [some (sh d0), some (sh d1), none, none] = _
        rw [h0, show sh d1 = _ from h1]
      rw [e0]
      rw [e2] at ec
      have sr : sh (.seq (intsD r)) = .seq (intsD r) := by rw [sh, shs_intsD]
      have er := e__law_is_ring (d0 := .seq (intsD r)) (d1 := tabD T) sr (isT_tab T) hs (by omega) hl nd lt bad
      have it : isTup (.tup [.str "ring", .seq (intsD r)]) = some true := rfl
      have ln : gLen [.tup [.str "ring", .seq (intsD r)]] = some (.int 2) := rfl
      have i0 : gIx (.tup [.str "ring", .seq (intsD r)]) (.int 0) = some (.str "ring") := rfl
      have i1 : gIx (.tup [.str "ring", .seq (intsD r)]) (.int 1) = some (.seq (intsD r)) := rfl
      refine rt_of (st_seq (st_ifF (by simp only [retOf, sNil, sThen, sSeq, sRet, sDrop, sSet, sIf, sPar, sUn2, sFor, asL, gSet, forD, fVar, fC, f2, f1, fT, asB, fNotT, fAndT, fOrT, fAndV, fOrV, gNot, gNeg, faNil, faCons, fTup, fLst, fCall, gAbs, gInt, gLen_t2, gLen_seq, gIx_t0, gIx_t1, gI0, gAdd_int, gNe_int, gEq_int, gEq_bl, gEq_tup2, gNe_tup2, gIsi_same, Dl.isInt, Dl.isBool, Dl.isTup, Option.bind_some, Option.map_some, List.map_cons, List.map_nil, List.length_cons, List.length_nil, List.getElem?_cons_zero, List.getElem?_cons_succ, List.set_cons_zero, List.set_cons_succ, List.cons_append, List.nil_append, List.append_nil, Bool.not_true, Bool.not_false, beq_self_eq_true, bdD_none, bdD_some, gIsN, isNon, sSetM, sRetM, sDropM, vI, vName, vShare, vWalk, vNil, vCons, vLst, vTup, vCall, sh_bd, it, ln, n2]) rfl) (st_seq (st_setS (v_call (ds := [tabD T]) rfl ec rfl)) (st_seq' (st_ifT rfl (st_retS (v_imm ?_))))))
      simp only [retOf, sNil, sThen, sSeq, sRet, sDrop, sSet, sIf, sPar, sUn2, sFor, asL, gSet, forD, fVar, fC, f2, f1, fT, asB, fNotT, fAndT, fOrT, fAndV, fOrV, gNot, gNeg, faNil, faCons, fTup, fLst, fCall, gAbs, gInt, gLen_t2, gLen_seq, gIx_t0, gIx_t1, gI0, gAdd_int, gNe_int, gEq_int, gEq_bl, gEq_tup2, gNe_tup2, gIsi_same, Dl.isInt, Dl.isBool, Dl.isTup, Option.bind_some, Option.map_some, List.map_cons, List.map_nil, List.length_cons, List.length_nil, List.getElem?_cons_zero, List.getElem?_cons_succ, List.set_cons_zero, List.set_cons_succ, List.cons_append, List.nil_append, List.append_nil, Bool.not_true, Bool.not_false, beq_self_eq_true, bdD_none, bdD_some, gIsN, isNon, sSetM, sRetM, sDropM, vI, vName, vShare, vWalk, vNil, vCons, vLst, vTup, vCall, sh_bd, i0, i1, gEq_str, er]
    · rw [e1, sTab] at h0
      have e0 : startM 4 [d0, d1] = [some (.tup [.str "table", tabD U]), some (tabD T), none, none] := by
        show [some (sh d0), some (sh d1), none, none] = _
        rw [h0, show sh d1 = _ from h1]
      rw [e0]
      rw [e2] at ec
      have it : isTup (.tup [.str "table", tabD U]) = some true := rfl
      have ln : gLen [.tup [.str "table", tabD U]] = some (.int 2) := rfl
      have i0 : gIx (.tup [.str "table", tabD U]) (.int 0) = some (.str "table") := rfl
      have i1 : gIx (.tup [.str "table", tabD U]) (.int 1) = some (tabD U) := rfl
      have il : isLst (tabD U) = some true := rfl
      have tw : vTWalk 0 1 [some (.tup [.str "table", tabD U]), some (tabD T), some (ownD U), none] = some (rowsS U, [some (.tup [.str "table", tabD U]), some (tabD T), some (ownD U), none]) := rfl
      obtain ⟨_, w, o, rfl⟩ := forM_keep (i := 3) (s := ((sIf (fOrT (fNotT (fT (fCall (gIsi "list" isLst) (faCons (fVar 3) (faCons (fC (.ty "list")) faNil))))) (fNotT (fT (fCall gAll (faCons (fComp (fun δ => ((fVar 3) δ).bind asL) [] (fCall (fn S__law_is_bound) (faCons (fVar 0) faNil))) faNil))))) (sRetM (vI (fC (.bl false)))) sNil))) (fun δ => ∃ o, δ = [some (.tup [.str "table", tabD U]), some (tabD T), some (ownD U), o]) (rowsS U) [some (.tup [.str "table", tabD U]), some (tabD T), some (ownD U), none] ⟨_, rfl⟩ (by
        rintro d hd _ ⟨o, rfl⟩
        obtain ⟨row, hr, rfl⟩ := List.mem_map.mp hd
        have es : sh (.seq (rowD row)) = .seq (rowD row) := by rw [sh, shs_row]
        rw [es]
        have lr := hU.row row hr
        have cmp : fComp (fun δ => ((fVar 3) δ).bind asL) [] (fCall (fn S__law_is_bound) (faCons (fVar 0) faNil)) [some (.tup [.str "table", tabD U]), some (tabD T), some (ownD U), some (.seq (rowD row))] = some (.lst ((row.map fun _ => true).map D.bl)) := by
          rw [List.map_map]
          refine fComp_map (f := bdD) (g := fun _ => D.bl true) rfl (fun b _ => ?_) (by omega)
          show fCall _ _ [some (bdD b)] = _
          simp only [retOf, sNil, sThen, sSeq, sRet, sDrop, sSet, sIf, sPar, sUn2, sFor, asL, gSet, forD, fVar, fC, f2, f1, fT, asB, fNotT, fAndT, fOrT, fAndV, fOrV, gNot, gNeg, faNil, faCons, fTup, fLst, fCall, gAbs, gInt, gLen_t2, gLen_seq, gIx_t0, gIx_t1, gI0, gAdd_int, gNe_int, gEq_int, gEq_bl, gEq_tup2, gNe_tup2, gIsi_same, Dl.isInt, Dl.isBool, Dl.isTup, Option.bind_some, Option.map_some, List.map_cons, List.map_nil, List.length_cons, List.length_nil, List.getElem?_cons_zero, List.getElem?_cons_succ, List.set_cons_zero, List.set_cons_succ, List.cons_append, List.nil_append, List.append_nil, Bool.not_true, Bool.not_false, beq_self_eq_true, bdD_none, bdD_some, gIsN, isNon, sSetM, sRetM, sDropM, vI, vName, vShare, vWalk, vNil, vCons, vLst, vTup, vCall, sh_bd, e__law_is_bound]
        have al : gAll [.lst ((row.map fun _ => true).map D.bl)] = some (.bl true) := by
          rw [gAll_map]
          congr 2
          rw [List.all_map, List.all_eq_true]
          intro x _
          rfl
        have ir : isLst (.seq (rowD row)) = some true := rfl
        have an := all_not cmp al
        refine ⟨_, st_ifF ?_ rfl, some (.seq (rowD row)), rfl⟩
        unfold fOrT
        have t1 : (fNotT (fT (fCall (gIsi "list" isLst) (faCons (fVar 3) (faCons (fC (.ty "list")) faNil))))) [some (.tup [.str "table", tabD U]), some (tabD T), some (ownD U), some (.seq (rowD row))] = some false := by simp only [retOf, sNil, sThen, sSeq, sRet, sDrop, sSet, sIf, sPar, sUn2, sFor, asL, gSet, forD, fVar, fC, f2, f1, fT, asB, fNotT, fAndT, fOrT, fAndV, fOrV, gNot, gNeg, faNil, faCons, fTup, fLst, fCall, gAbs, gInt, gLen_t2, gLen_seq, gIx_t0, gIx_t1, gI0, gAdd_int, gNe_int, gEq_int, gEq_bl, gEq_tup2, gNe_tup2, gIsi_same, Dl.isInt, Dl.isBool, Dl.isTup, Option.bind_some, Option.map_some, List.map_cons, List.map_nil, List.length_cons, List.length_nil, List.getElem?_cons_zero, List.getElem?_cons_succ, List.set_cons_zero, List.set_cons_succ, List.cons_append, List.nil_append, List.append_nil, Bool.not_true, Bool.not_false, beq_self_eq_true, bdD_none, bdD_some, gIsN, isNon, sSetM, sRetM, sDropM, vI, vName, vShare, vWalk, vNil, vCons, vLst, vTup, vCall, sh_bd, ir]
        show ((fNotT (fT (fCall (gIsi "list" isLst) (faCons (fVar 3) (faCons (fC (.ty "list")) faNil))))) [some (.tup [.str "table", tabD U]), some (tabD T), some (ownD U), some (.seq (rowD row))]).bind _ = _
        rw [t1]
        exact an)
      refine rt_of (st_seq (st_ifF (by simp only [retOf, sNil, sThen, sSeq, sRet, sDrop, sSet, sIf, sPar, sUn2, sFor, asL, gSet, forD, fVar, fC, f2, f1, fT, asB, fNotT, fAndT, fOrT, fAndV, fOrV, gNot, gNeg, faNil, faCons, fTup, fLst, fCall, gAbs, gInt, gLen_t2, gLen_seq, gIx_t0, gIx_t1, gI0, gAdd_int, gNe_int, gEq_int, gEq_bl, gEq_tup2, gNe_tup2, gIsi_same, Dl.isInt, Dl.isBool, Dl.isTup, Option.bind_some, Option.map_some, List.map_cons, List.map_nil, List.length_cons, List.length_nil, List.getElem?_cons_zero, List.getElem?_cons_succ, List.set_cons_zero, List.set_cons_succ, List.cons_append, List.nil_append, List.append_nil, Bool.not_true, Bool.not_false, beq_self_eq_true, bdD_none, bdD_some, gIsN, isNon, sSetM, sRetM, sDropM, vI, vName, vShare, vWalk, vNil, vCons, vLst, vTup, vCall, sh_bd, it, ln, n2]) rfl) (st_seq (st_setS (v_call (ds := [tabD T]) rfl ec (own_ownD U))) (st_seq (st_ifF rfl rfl) (st_seq (st_ifF (by simp only [retOf, sNil, sThen, sSeq, sRet, sDrop, sSet, sIf, sPar, sUn2, sFor, asL, gSet, forD, fVar, fC, f2, f1, fT, asB, fNotT, fAndT, fOrT, fAndV, fOrV, gNot, gNeg, faNil, faCons, fTup, fLst, fCall, gAbs, gInt, gLen_t2, gLen_seq, gIx_t0, gIx_t1, gI0, gAdd_int, gNe_int, gEq_int, gEq_bl, gEq_tup2, gNe_tup2, gIsi_same, Dl.isInt, Dl.isBool, Dl.isTup, Option.bind_some, Option.map_some, List.map_cons, List.map_nil, List.length_cons, List.length_nil, List.getElem?_cons_zero, List.getElem?_cons_succ, List.set_cons_zero, List.set_cons_succ, List.cons_append, List.nil_append, List.append_nil, Bool.not_true, Bool.not_false, beq_self_eq_true, bdD_none, bdD_some, gIsN, isNon, sSetM, sRetM, sDropM, vI, vName, vShare, vWalk, vNil, vCons, vLst, vTup, vCall, sh_bd, i0, i1, gNe_str, il]) rfl) (st_seq (st_for tw w) (st_retS (v_imm ?_)))))))
      simp only [retOf, sNil, sThen, sSeq, sRet, sDrop, sSet, sIf, sPar, sUn2, sFor, asL, gSet, forD, fVar, fC, f2, f1, fT, asB, fNotT, fAndT, fOrT, fAndV, fOrV, gNot, gNeg, faNil, faCons, fTup, fLst, fCall, gAbs, gInt, gLen_t2, gLen_seq, gIx_t0, gIx_t1, gI0, gAdd_int, gNe_int, gEq_int, gEq_bl, gEq_tup2, gNe_tup2, gIsi_same, Dl.isInt, Dl.isBool, Dl.isTup, Option.bind_some, Option.map_some, List.map_cons, List.map_nil, List.length_cons, List.length_nil, List.getElem?_cons_zero, List.getElem?_cons_succ, List.set_cons_zero, List.set_cons_succ, List.cons_append, List.nil_append, List.append_nil, Bool.not_true, Bool.not_false, beq_self_eq_true, bdD_none, bdD_some, gIsN, isNon, sSetM, sRetM, sDropM, vI, vName, vShare, vWalk, vNil, vCons, vLst, vTup, vCall, sh_bd, i1, eq_tab_own]
abbrev s_keeps : Stmt := top 10
theorem sc_keeps : FnScope ["part", "bound", "limit"] ["part", "bound"] (defScope s_keeps) := ⟨rfl, rfl, rfl, by decide +kernel, rfl, by decide +kernel, by decide +kernel⟩
theorem ok_keeps (F : Fun K "keeps" "keeps" s_keeps f fd) (hfractionD : HasD P w K mg base 3 "fraction" ["top", "bottom"] [1] (fn S_fraction)) (hless : Has P w K mg base 1 "less" ["one", "other"] (fn S_less))   : FnOk P w K mg base CX0 4 f fd ["part", "bound"] (pureSp K 2 (fn S_keeps)) := by
  have sc := sc_keeps
  refine pure_ok F sc_keeps (fun cdv A outer s H E ds d hr hG hl => ?_)
  obtain ⟨⟨a, b⟩, c, hp, hc, rfl, rfl⟩ := fn_inv hG
  refine ⟨_, (psd_cons (psd_if (ptd_isN (pd_var 1) pd_non) (psd_one (psd_ret pd_bl)) psd_nil)
      (psd_cons (psd_set 2 sc.nd (pd_callD hfractionD hr (pad_cons (pd_ix (pd_var 1) pd_int) pad_nil)))
      (psd_cons (psd_if (ptd_val (pd_ix (pd_var 1) pd_int)) (psd_one (psd_ret (pd_callH hless hr (pad_cons (pd_var 0) (pad_cons (pd_var 2) pad_nil))))) psd_nil)
      (psd_one (psd_ret (pd_not (pd_callH hless hr (pad_cons (pd_var 2) (pad_cons (pd_var 0) pad_nil))))))))), ?_⟩
  · show retOf ((?f : SD) [some _, some _, none]) = _
    rcases c with _ | ⟨n, s⟩
    · rfl
    · have hk : Fk (n, 1) := ⟨show (0 : Int) < 1 by decide, hc, show (1 : Int).natAbs < 2 ^ 4000 from Nat.lt_of_lt_of_le (show 1 < 2 ^ 1 by decide) (Nat.pow_le_pow_right (by decide) (by decide))⟩
      have l1 : fn S_less [fr (a, b), .tup [.int n, .int 1]] = some (.bl (decide (a * 1 < n * b))) := e2 (op := fun p q => .bl (decide (p.1 * q.2 < q.1 * p.2))) hp hk
      have l2 : fn S_less [.tup [.int n, .int 1], fr (a, b)] = some (.bl (decide (n * b < a * 1))) := e2 (op := fun p q => .bl (decide (p.1 * q.2 < q.1 * p.2))) hk hp
      cases s
      · simp only [retOf, sNil, sThen, sSeq, sRet, sDrop, sSet, sIf, sPar, sUn2, sFor, asL, gSet, forD, fVar, fC, f2, f1, fT, asB, fNotT, fAndT, fOrT, fAndV, fOrV, gNot, gNeg, faNil, faCons, fTup, fLst, fCall, gAbs, gInt, gLen_t2, gLen_seq, gIx_t0, gIx_t1, gI0, gAdd_int, gNe_int, gEq_int, gEq_bl, gEq_tup2, gNe_tup2, gIsi_same, Dl.isInt, Dl.isBool, Dl.isTup, Option.bind_some, Option.map_some, List.map_cons, List.map_nil, List.length_cons, List.length_nil, List.getElem?_cons_zero, List.getElem?_cons_succ, List.set_cons_zero, List.set_cons_succ, List.cons_append, List.nil_append, List.append_nil, Bool.not_true, Bool.not_false, beq_self_eq_true, bdD_none, bdD_some, gIsN, isNon, sSetM, sRetM, sDropM, vI, vName, vShare, vWalk, vNil, vCons, vLst, vTup, vCall, sh_bd, e_fraction1, l1, l2]
        rfl
      · simp only [retOf, sNil, sThen, sSeq, sRet, sDrop, sSet, sIf, sPar, sUn2, sFor, asL, gSet, forD, fVar, fC, f2, f1, fT, asB, fNotT, fAndT, fOrT, fAndV, fOrV, gNot, gNeg, faNil, faCons, fTup, fLst, fCall, gAbs, gInt, gLen_t2, gLen_seq, gIx_t0, gIx_t1, gI0, gAdd_int, gNe_int, gEq_int, gEq_bl, gEq_tup2, gNe_tup2, gIsi_same, Dl.isInt, Dl.isBool, Dl.isTup, Option.bind_some, Option.map_some, List.map_cons, List.map_nil, List.length_cons, List.length_nil, List.getElem?_cons_zero, List.getElem?_cons_succ, List.set_cons_zero, List.set_cons_succ, List.cons_append, List.nil_append, List.append_nil, Bool.not_true, Bool.not_false, beq_self_eq_true, bdD_none, bdD_some, gIsN, isNon, sSetM, sRetM, sDropM, vI, vName, vShare, vWalk, vNil, vCons, vLst, vTup, vCall, sh_bd, e_fraction1, l1, l2]
        rfl
abbrev s_ring_through : Stmt := top 20
theorem sc_ring_through : FnScope ["bounds", "ways", "middle", "thing", "total"] ["bounds", "ways", "middle"] (defScope s_ring_through) := ⟨rfl, rfl, rfl, by decide +kernel, rfl, by decide +kernel, by decide +kernel⟩
theorem ok_ring_through (F : Fun K "ring_through" "ring_through" s_ring_through f fd) (hbound_sum : Has P w K mg base 1 "bound_sum" ["one", "other"] (fn S_bound_sum)) (hkeeps : Has P w K mg base 4 "keeps" ["part", "bound"] (fn S_keeps)) (hfractionD : HasD P w K mg base 3 "fraction" ["top", "bottom"] [1] (fn S_fraction))  (m_range : mg "range" = none) (m_len : mg "len" = none) : FnOk P w K mg base CX0 5 f fd ["bounds", "ways", "middle"] (freshSp K 3 (fn S_ring_through)) := by
  have sc := sc_ring_through
  refine fresh_ok F sc_ring_through (fun cdv A outer s H E ds d hr hG hl => ?_)
  obtain ⟨d0, d1, n, m, f, p, ok, h0, h1, rfl, rfl⟩ := fn_inv hG
  have hown := own_rgt n f p m
  refine ⟨_, (pm_cons (pm_for 3 sc.nd PassesOwn.never rfl (pim_range1 rfl m_range (pad_cons (pd_callB call_len_seq cd_len rfl m_len PySem.boot_len (pad_cons (pd_var 0) pad_nil)) pad_nil))
        (pm_cons (pm_set 4 sc.nd (pv_imm (pd_callH hbound_sum hr (pad_cons (pd_ix (pd_ix (pd_var 0) (pd_var 3)) (pd_var 2)) (pad_cons (pd_ix (pd_ix (pd_var 0) (pd_var 2)) (pd_var 3)) pad_nil)))))
        (pm_one (pm_if (ptd_not (ptd_val (pd_callH hkeeps hr (pad_cons (pd_callD hfractionD hr (pad_cons pd_int pad_nil)) (pad_cons (pd_var 4) pad_nil))))) (pm_one (pm_ret (pv_catS (pd_ix (pd_ix (pd_var 1) (pd_var 3)) (pd_var 2)) (pd_ix (pd_ix (pd_var 1) (pd_var 2)) (pd_var 3))))) pm_nil))))
      (pm_one (pm_ret (pv_imm pd_non)))), ?_, ?own⟩
  case own => first | rfl | exact hown
  · show retOf ((?f : SD) (startM 5 _)) = _
    have e0 : startM 5 [d0, d1, .int (m : Int)] = [some (tabD (tabF n f)), some (.seq (waysS n p)), some (.int (m : Int)), none, none] := by
      show [some (sh d0), some (sh d1), some (sh (.int (m : Int))), none, none] = _
      rw [show sh d0 = _ from h0, h1]
      rfl
    rw [e0]
    have hm := ok.mn
    have hn := ok.n41
    have len : gLen [tabD (tabF n f)] = some (.int (n : Int)) := len_tab (tabF_sq n f)
    have hv := fun o1 o2 : Option D => v_range (g := faCons (fCall gLen (faCons (fVar 0) faNil)) faNil) (δ := [some (tabD (tabF n f)), some (.seq (waysS n p)), some (.int (m : Int)), o1, o2]) (n := n) (by simp only [retOf, sNil, sThen, sSeq, sRet, sDrop, sSet, sIf, sPar, sUn2, sFor, asL, gSet, forD, fVar, fC, f2, f1, fT, asB, fNotT, fAndT, fOrT, fAndV, fOrV, gNot, gNeg, faNil, faCons, fTup, fLst, fCall, gAbs, gInt, gLen_t2, gLen_seq, gIx_t0, gIx_t1, gI0, gAdd_int, gNe_int, gEq_int, gEq_bl, gEq_tup2, gNe_tup2, gIsi_same, Dl.isInt, Dl.isBool, Dl.isTup, Option.bind_some, Option.map_some, List.map_cons, List.map_nil, List.length_cons, List.length_nil, List.getElem?_cons_zero, List.getElem?_cons_succ, List.set_cons_zero, List.set_cons_succ, List.cons_append, List.nil_append, List.append_nil, Bool.not_true, Bool.not_false, beq_self_eq_true, bdD_none, bdD_some, gIsN, isNon, sSetM, sRetM, sDropM, vI, vName, vShare, vWalk, vNil, vCons, vLst, vTup, vCall, sh_bd, len]) (by omega)
    have fo : Fk (0, 1) := Fk.of (zero_fr (k := 200) (by decide))
    obtain ⟨k1, k2⟩ := forM_pf (i := 3) (s := ((sSeq (sSetM 4 (vI (fCall (fn S_bound_sum) (faCons (f2 gIx (f2 gIx (fVar 0) (fVar 3)) (fVar 2)) (faCons (f2 gIx (f2 gIx (fVar 0) (fVar 2)) (fVar 3)) faNil))))) (sIf (fNotT (fT (fCall (fn S_keeps) (faCons (fCall (dfl (fn S_fraction) [1]) (faCons (fC (.int 0)) faNil)) (faCons (fVar 4) faNil))))) (sRetM (vCatS (f2 gIx (f2 gIx (fVar 1) (fVar 3)) (fVar 2)) (f2 gIx (f2 gIx (fVar 1) (fVar 2)) (fVar 3)))) sNil)))) (f := fun (i : Nat) => D.int (i : Int)) (fun _ δ => ∃ o1 o2, δ = [some (tabD (tabF n f)), some (.seq (waysS n p)), some (.int (m : Int)), o1, o2]) (badR f p m) (List.range n) (by
      rintro pre t post _ hx ⟨o1, o2, rfl⟩
      obtain ⟨rfl, ht⟩ := range_at hx
      generalize pre.length = t at *
      obtain ⟨r1, q1, q2⟩ := ix_tab (tabF_sq n f) ht hm
      obtain ⟨r2, q3, q4⟩ := ix_tab (tabF_sq n f) hm ht
      rw [cell_tabF f ht hm] at q2
      rw [cell_tabF f hm ht] at q4
      obtain ⟨w1, w2⟩ := ix_waysS p ht hm
      obtain ⟨w3, w4⟩ := ix_waysS p hm ht
      have kk := e_keeps (p := (0, 1)) (b := bs (f t m) (f m t)) fo (((ok.bk t m ht hm).sum (ok.bk m t hm ht)).mono (by decide))
      have s1 : ((sSetM 4 (vI (fCall (fn S_bound_sum) (faCons (f2 gIx (f2 gIx (fVar 0) (fVar 3)) (fVar 2)) (faCons (f2 gIx (f2 gIx (fVar 0) (fVar 2)) (fVar 3)) faNil)))))) [some (tabD (tabF n f)), some (.seq (waysS n p)), some (.int (m : Int)), some (.int (t : Int)), o2] = some (.nx [some (tabD (tabF n f)), some (.seq (waysS n p)), some (.int (m : Int)), some (.int (t : Int)), some (bdD (bs (f t m) (f m t)))]) := st_setS (v_imm (d := bdD (bs (f t m) (f m t))) (by simp only [retOf, sNil, sThen, sSeq, sRet, sDrop, sSet, sIf, sPar, sUn2, sFor, asL, gSet, forD, fVar, fC, f2, f1, fT, asB, fNotT, fAndT, fOrT, fAndV, fOrV, gNot, gNeg, faNil, faCons, fTup, fLst, fCall, gAbs, gInt, gLen_t2, gLen_seq, gIx_t0, gIx_t1, gI0, gAdd_int, gNe_int, gEq_int, gEq_bl, gEq_tup2, gNe_tup2, gIsi_same, Dl.isInt, Dl.isBool, Dl.isTup, Option.bind_some, Option.map_some, List.map_cons, List.map_nil, List.length_cons, List.length_nil, List.getElem?_cons_zero, List.getElem?_cons_succ, List.set_cons_zero, List.set_cons_succ, List.cons_append, List.nil_append, List.append_nil, Bool.not_true, Bool.not_false, beq_self_eq_true, bdD_none, bdD_some, gIsN, isNon, sSetM, sRetM, sDropM, vI, vName, vShare, vWalk, vNil, vCons, vLst, vTup, vCall, sh_bd, q1, q2, q3, q4, e_bound_sum]) (imm_bd _))
      unfold badR
      cases hk : kp (0, 1) (bs (f t m) (f m t)) with
      | true =>
        refine ⟨fun _ => ⟨_, st_seq s1 (st_ifF (by simp only [retOf, sNil, sThen, sSeq, sRet, sDrop, sSet, sIf, sPar, sUn2, sFor, asL, gSet, forD, fVar, fC, f2, f1, fT, asB, fNotT, fAndT, fOrT, fAndV, fOrV, gNot, gNeg, faNil, faCons, fTup, fLst, fCall, gAbs, gInt, gLen_t2, gLen_seq, gIx_t0, gIx_t1, gI0, gAdd_int, gNe_int, gEq_int, gEq_bl, gEq_tup2, gNe_tup2, gIsi_same, Dl.isInt, Dl.isBool, Dl.isTup, Option.bind_some, Option.map_some, List.map_cons, List.map_nil, List.length_cons, List.length_nil, List.getElem?_cons_zero, List.getElem?_cons_succ, List.set_cons_zero, List.set_cons_succ, List.cons_append, List.nil_append, List.append_nil, Bool.not_true, Bool.not_false, beq_self_eq_true, bdD_none, bdD_some, gIsN, isNon, sSetM, sRetM, sDropM, vI, vName, vShare, vWalk, vNil, vCons, vLst, vTup, vCall, sh_bd, e_fraction1, kk, hk]) rfl), _, _, rfl⟩, fun d z => ?_⟩
        rw [if_pos rfl] at z
        cases z
      | false =>
        refine ⟨fun z => ?_, fun d z => ?_⟩
        · rw [if_neg (by decide)] at z
          cases z
        · rw [if_neg (by decide)] at z
          cases z
          refine st_seq s1 (st_ifT (by simp only [retOf, sNil, sThen, sSeq, sRet, sDrop, sSet, sIf, sPar, sUn2, sFor, asL, gSet, forD, fVar, fC, f2, f1, fT, asB, fNotT, fAndT, fOrT, fAndV, fOrV, gNot, gNeg, faNil, faCons, fTup, fLst, fCall, gAbs, gInt, gLen_t2, gLen_seq, gIx_t0, gIx_t1, gI0, gAdd_int, gNe_int, gEq_int, gEq_bl, gEq_tup2, gNe_tup2, gIsi_same, Dl.isInt, Dl.isBool, Dl.isTup, Option.bind_some, Option.map_some, List.map_cons, List.map_nil, List.length_cons, List.length_nil, List.getElem?_cons_zero, List.getElem?_cons_succ, List.set_cons_zero, List.set_cons_succ, List.cons_append, List.nil_append, List.append_nil, Bool.not_true, Bool.not_false, beq_self_eq_true, bdD_none, bdD_some, gIsN, isNon, sSetM, sRetM, sDropM, vI, vName, vShare, vWalk, vNil, vCons, vLst, vTup, vCall, sh_bd, e_fraction1, kk, hk]) (st_retS (d := .lst (intsD (p t m ++ p m t))) ?_))
          have l1 := ok.ln t m ht hm
          have l2 := ok.ln m t hm ht
          have ei : intsD (p t m ++ p m t) = intsD (p t m) ++ intsD (p m t) := List.map_append
          rw [ei]
          exact v_catS (a := .seq (intsD (p t m))) (b := .seq (intsD (p m t))) (by simp only [retOf, sNil, sThen, sSeq, sRet, sDrop, sSet, sIf, sPar, sUn2, sFor, asL, gSet, forD, fVar, fC, f2, f1, fT, asB, fNotT, fAndT, fOrT, fAndV, fOrV, gNot, gNeg, faNil, faCons, fTup, fLst, fCall, gAbs, gInt, gLen_t2, gLen_seq, gIx_t0, gIx_t1, gI0, gAdd_int, gNe_int, gEq_int, gEq_bl, gEq_tup2, gNe_tup2, gIsi_same, Dl.isInt, Dl.isBool, Dl.isTup, Option.bind_some, Option.map_some, List.map_cons, List.map_nil, List.length_cons, List.length_nil, List.getElem?_cons_zero, List.getElem?_cons_succ, List.set_cons_zero, List.set_cons_succ, List.cons_append, List.nil_append, List.append_nil, Bool.not_true, Bool.not_false, beq_self_eq_true, bdD_none, bdD_some, gIsN, isNon, sSetM, sRetM, sDropM, vI, vName, vShare, vWalk, vNil, vCons, vLst, vTup, vCall, sh_bd, w1, w2]) (by simp only [retOf, sNil, sThen, sSeq, sRet, sDrop, sSet, sIf, sPar, sUn2, sFor, asL, gSet, forD, fVar, fC, f2, f1, fT, asB, fNotT, fAndT, fOrT, fAndV, fOrV, gNot, gNeg, faNil, faCons, fTup, fLst, fCall, gAbs, gInt, gLen_t2, gLen_seq, gIx_t0, gIx_t1, gI0, gAdd_int, gNe_int, gEq_int, gEq_bl, gEq_tup2, gNe_tup2, gIsi_same, Dl.isInt, Dl.isBool, Dl.isTup, Option.bind_some, Option.map_some, List.map_cons, List.map_nil, List.length_cons, List.length_nil, List.getElem?_cons_zero, List.getElem?_cons_succ, List.set_cons_zero, List.set_cons_succ, List.cons_append, List.nil_append, List.append_nil, Bool.not_true, Bool.not_false, beq_self_eq_true, bdD_none, bdD_some, gIsN, isNon, sSetM, sRetM, sDropM, vI, vName, vShare, vWalk, vNil, vCons, vLst, vTup, vCall, sh_bd, w3, w4]) rfl rfl (by unfold intsD; rw [List.length_map, List.length_map]; omega) (by rw [← ei]; exact imms_intsD _)) (List.range n) [] [some (tabD (tabF n f)), some (.seq (waysS n p)), some (.int (m : Int)), none, none] rfl ⟨_, _, rfl⟩
    unfold rgt
    cases hb : firstBad (badR f p m) [] (List.range n) with
    | none =>
      obtain ⟨_, w, o1, o2, rfl⟩ := k1 hb
      exact rt_of (st_seq (st_for (hv _ _) w) (st_ret (v_imm rfl)))
    | some d => exact rt_of (st_seq' (st_for (hv _ _) (k2 d hb)))
abbrev s_closed : Stmt := top 17
theorem sc_closed : FnScope ["table", "thing", "bounds", "ways", "middle", "ring"] ["table"] (defScope s_closed) := ⟨rfl, rfl, rfl, by decide +kernel, rfl, by decide +kernel, by decide +kernel⟩
theorem ok_closed (F : Fun K "closed" "closed" s_closed f fd) (hwith_noughts : HasF P w K mg base 2 "with_noughts" ["table"] (fn S_with_noughts)) (hstraight_ways : HasF P w K mg base 1 "straight_ways" ["size"] (fn S_straight_ways)) (hring_through : HasF P w K mg base 5 "ring_through" ["bounds", "ways", "middle"] (fn S_ring_through)) (hlead_through : HasM P w K mg base 2 "lead_through" ["bounds", "ways", "middle"] (fnM S_lead_through)) (hkeeps : Has P w K mg base 4 "keeps" ["part", "bound"] (fn S_keeps)) (hfractionD : HasD P w K mg base 3 "fraction" ["top", "bottom"] [1] (fn S_fraction))  (m_range : mg "range" = none) (m_len : mg "len" = none) : FnOk P w K mg base CX0 6 f fd ["table"] (freshSp K 1 (fn S_closed)) := by
  have sc := sc_closed
  refine fresh_ok F sc_closed (fun cdv A outer s H E ds d hr hG hl => ?_)
  obtain ⟨d0, T, n, hT, hs, hn, hB, rfl, rfl⟩ := fn_inv hG
  have hown := own_closedF n T
  refine ⟨_, (pm_cons (pm_for 1 sc.nd PassesOwn.never rfl (pim_range1 rfl m_range (pad_cons (pd_callB call_len_seq cd_len rfl m_len PySem.boot_len (pad_cons (pd_var 0) pad_nil)) pad_nil))
        (pm_one (pm_if (ptd_not (ptd_val (pd_callH hkeeps hr (pad_cons (pd_callD hfractionD hr (pad_cons pd_int pad_nil)) (pad_cons (pd_ix (pd_ix (pd_var 0) (pd_var 1)) (pd_var 1)) pad_nil))))) (pm_one (pm_ret (pv_tup (pva_cons (pv_imm pd_str) (pva_cons (pv_lst (pva_cons (pv_name 1) pva_nil)) pva_nil))))) pm_nil)))
      (pm_cons (pm_set 2 sc.nd (pv_call hwith_noughts hr (pad_cons (pd_var 0) pad_nil)))
      (pm_cons (pm_set 3 sc.nd (pv_call hstraight_ways hr (pad_cons (pd_callB call_len_seq cd_len rfl m_len PySem.boot_len (pad_cons (pd_var 0) pad_nil)) pad_nil)))
      (pm_cons (pm_for 4 sc.nd PassesOwn.never rfl (pim_range1 rfl m_range (pad_cons (pd_callB call_len_seq cd_len rfl m_len PySem.boot_len (pad_cons (pd_var 0) pad_nil)) pad_nil))
        (pm_cons (pm_set 5 sc.nd (pv_call hring_through hr (pad_cons (pd_var 2) (pad_cons (pd_var 3) (pad_cons (pd_var 4) pad_nil)))))
        (pm_cons (pm_if (ptd_notN (pd_var 5) pd_non) (pm_one (pm_ret (pv_tup (pva_cons (pv_imm pd_str) (pva_cons (pv_name 5) pva_nil))))) pm_nil)
        (pm_one (pm_callM 2 3 hlead_through hr (pa_cons (pvi 2) (pa_cons (pvi 3) (pad_cons (pd_var 4) pad_nil))))))))
      (pm_one (pm_ret (pv_tup (pva_cons (pv_imm pd_str) (pva_cons (pv_name 2) pva_nil))))))))), ?_, ?own⟩
  case own => first | rfl | exact hown
  · show retOf ((?f : SD) (startM 6 _)) = _
    have e0 : startM 6 [d0] = [some (tabD T), none, none, none, none, none] := by
      show [some (sh d0), none, none, none, none, none] = _
      rw [show sh d0 = tabD T from hT]
    rw [e0]
    have len : gLen [tabD T] = some (.int (n : Int)) := len_tab hs
    have hv := fun o1 o2 o3 o4 o5 : Option D => v_range (g := faCons (fCall gLen (faCons (fVar 0) faNil)) faNil) (δ := [some (tabD T), o1, o2, o3, o4, o5]) (n := n) (by simp only [retOf, sNil, sThen, sSeq, sRet, sDrop, sSet, sIf, sPar, sUn2, sFor, asL, gSet, forD, fVar, fC, f2, f1, fT, asB, fNotT, fAndT, fOrT, fAndV, fOrV, gNot, gNeg, faNil, faCons, fTup, fLst, fCall, gAbs, gInt, gLen_t2, gLen_seq, gIx_t0, gIx_t1, gI0, gAdd_int, gNe_int, gEq_int, gEq_bl, gEq_tup2, gNe_tup2, gIsi_same, Dl.isInt, Dl.isBool, Dl.isTup, Option.bind_some, Option.map_some, List.map_cons, List.map_nil, List.length_cons, List.length_nil, List.getElem?_cons_zero, List.getElem?_cons_succ, List.set_cons_zero, List.set_cons_succ, List.cons_append, List.nil_append, List.append_nil, Bool.not_true, Bool.not_false, beq_self_eq_true, bdD_none, bdD_some, gIsN, isNon, sSetM, sRetM, sDropM, vI, vName, vShare, vWalk, vNil, vCons, vLst, vTup, vCall, sh_bd, len]) (by omega)
    have fo : Fk (0, 1) := Fk.of (zero_fr (k := 200) (by decide))
    obtain ⟨k1, k2⟩ := forM_pf (i := 1) (s := ((sIf (fNotT (fT (fCall (fn S_keeps) (faCons (fCall (dfl (fn S_fraction) [1]) (faCons (fC (.int 0)) faNil)) (faCons (f2 gIx (f2 gIx (fVar 0) (fVar 1)) (fVar 1)) faNil))))) (sRetM (vTup (vCons (vI (fC (.str "ring"))) (vCons (vLst (vCons (vName 1) vNil)) vNil)))) sNil))) (f := fun (i : Nat) => D.int (i : Int)) (fun _ δ => ∃ o1, δ = [some (tabD T), o1, none, none, none, none]) (badD T) (List.range n) (by
      rintro pre t post _ hx ⟨o1, rfl⟩
      obtain ⟨rfl, ht⟩ := range_at hx
      generalize pre.length = t at *
      obtain ⟨r1, q1, q2⟩ := ix_tab hs ht ht
      have kk := e_keeps (p := (0, 1)) (b := cellT T t t) fo ((hB t t).mono (by decide))
      unfold badD
      cases hk : kp (0, 1) (cellT T t t) with
      | true =>
        refine ⟨fun _ => ⟨_, st_ifF (by simp only [retOf, sNil, sThen, sSeq, sRet, sDrop, sSet, sIf, sPar, sUn2, sFor, asL, gSet, forD, fVar, fC, f2, f1, fT, asB, fNotT, fAndT, fOrT, fAndV, fOrV, gNot, gNeg, faNil, faCons, fTup, fLst, fCall, gAbs, gInt, gLen_t2, gLen_seq, gIx_t0, gIx_t1, gI0, gAdd_int, gNe_int, gEq_int, gEq_bl, gEq_tup2, gNe_tup2, gIsi_same, Dl.isInt, Dl.isBool, Dl.isTup, Option.bind_some, Option.map_some, List.map_cons, List.map_nil, List.length_cons, List.length_nil, List.getElem?_cons_zero, List.getElem?_cons_succ, List.set_cons_zero, List.set_cons_succ, List.cons_append, List.nil_append, List.append_nil, Bool.not_true, Bool.not_false, beq_self_eq_true, bdD_none, bdD_some, gIsN, isNon, sSetM, sRetM, sDropM, vI, vName, vShare, vWalk, vNil, vCons, vLst, vTup, vCall, sh_bd, e_fraction1, q1, q2, sh_int, kk, hk]) rfl, some (.int (t : Int)), rfl⟩, fun d z => ?_⟩
        rw [if_pos rfl] at z
        cases z
      | false =>
        refine ⟨fun z => ?_, fun d z => ?_⟩
        · rw [if_neg (by decide)] at z
          cases z
        · rw [if_neg (by decide)] at z
          cases z
          exact st_ifT (by simp only [retOf, sNil, sThen, sSeq, sRet, sDrop, sSet, sIf, sPar, sUn2, sFor, asL, gSet, forD, fVar, fC, f2, f1, fT, asB, fNotT, fAndT, fOrT, fAndV, fOrV, gNot, gNeg, faNil, faCons, fTup, fLst, fCall, gAbs, gInt, gLen_t2, gLen_seq, gIx_t0, gIx_t1, gI0, gAdd_int, gNe_int, gEq_int, gEq_bl, gEq_tup2, gNe_tup2, gIsi_same, Dl.isInt, Dl.isBool, Dl.isTup, Option.bind_some, Option.map_some, List.map_cons, List.map_nil, List.length_cons, List.length_nil, List.getElem?_cons_zero, List.getElem?_cons_succ, List.set_cons_zero, List.set_cons_succ, List.cons_append, List.nil_append, List.append_nil, Bool.not_true, Bool.not_false, beq_self_eq_true, bdD_none, bdD_some, gIsN, isNon, sSetM, sRetM, sDropM, vI, vName, vShare, vWalk, vNil, vCons, vLst, vTup, vCall, sh_bd, e_fraction1, q1, q2, sh_int, kk, hk]) (st_retS rfl)) (List.range n) [] [some (tabD T), none, none, none, none, none] rfl ⟨_, rfl⟩
    obtain ⟨c, hc⟩ : ∃ c, c = cz T := ⟨_, rfl⟩
    have hcd : ∀ i, i < n → c i i = b0 := fun i _ => by rw [hc]; exact if_pos rfl
    have hcb : ∀ i j, Bk 2000 (c i j) := by rw [hc]; exact cz_bk hB
    have lp := fun o1 : Option D => forM_pf (i := 4) (s := ((sSeq (sSetM 5 (vCall (fn S_ring_through) (faCons (fVar 2) (faCons (fVar 3) (faCons (fVar 4) faNil))))) (sSeq (sIf (fT (f2 gNotN (fVar 5) (fC .non))) (sRetM (vTup (vCons (vI (fC (.str "ring"))) (vCons (vName 5) vNil)))) sNil) (sCallM 2 3 (fnM S_lead_through) (faCons (fVar 4) faNil)))))) (f := fun (i : Nat) => D.int (i : Int)) (fun pre δ => ∃ o1 o4 o5, St n c pre.length ∧ δ = [some (tabD T), o1, some (ownD (tabF n (dm c pre.length))), some (.lst (waysO n (pw c pre.length))), o4, o5]) (badC n c) (List.range n) (by
      rintro pre m post _ hx ⟨o1, o4, o5, st, rfl⟩
      obtain ⟨rfl, hm⟩ := range_at hx
      rw [List.length_append, List.length_singleton]
      generalize pre.length = m at *
      have rt := st.rt hcb hn hm
      have er := e_ring_through rt (isT_own (tabF n (dm c m))) (by rw [sh, shs_ways] : sh (.lst (waysO n (pw c m))) = .seq (waysS n (pw c m)))
      have ow := own_rgt n (dm c m) (pw c m) m
      unfold badC
      rcases rgt_or (n := n) (m := m) (dm c m) (pw c m) with e | ⟨t, ht, e, bad⟩
      · have ok := rgt_non e
        have st' := st_succ st hm ok
        have el := e_lead_through rt (st.fw.dia m hm)
        rw [e] at er ow ⊢
        refine ⟨fun _ => ⟨[some (tabD T), o1, some (ownD (tabF n (dm c (m + 1)))), some (.lst (waysO n (pw c (m + 1)))), some (.int (m : Int)), some .non], st_seq (st_setS (v_call (ds := [ownD (tabF n (dm c m)), .lst (waysO n (pw c m)), .int (m : Int)]) rfl er ow)) (st_seq (st_ifF rfl rfl) ?_), _, _, _, st', rfl⟩, fun d z => by cases z⟩
        exact st_callM (i := 2) (j := 3) (xs := rowsO (tabF n (dm c m))) (ys := waysO n (pw c m)) (es := [.int (m : Int)]) (d0 := ownD (tabF n (dm c (m + 1)))) (d1 := .lst (waysO n (pw c (m + 1)))) rfl rfl rfl el rfl (own_ownD _) (own_ways _ _) (by decide)
      · rw [e] at er ow ⊢
        refine ⟨(fun z => by cases z), fun d z => ?_⟩
        cases z
        exact st_seq (st_setS (v_call (ds := [ownD (tabF n (dm c m)), .lst (waysO n (pw c m)), .int (m : Int)]) rfl er ow)) (st_seq' (st_ifT rfl (st_ret rfl)))) (List.range n) [] [some (tabD T), o1, some (ownD (tabF n (dm c 0))), some (.lst (waysO n (pw c 0))), none, none] rfl ⟨_, _, _, st_zero hcd, rfl⟩
    unfold closedF
    rw [← hc]
    cases hb : firstBad (badD T) [] (List.range n) with
    | some d => exact rt_of (st_seq' (st_for (hv _ _ _ _ _) (k2 d hb)))
    | none =>
      obtain ⟨_, w, o1, rfl⟩ := k1 hb
      obtain ⟨l1, l2⟩ := lp o1
      have ew := e_with_noughts (isT_tab T) hs hn
      rw [← hc] at ew
      refine rt_of (st_seq (st_for (hv _ _ _ _ _) w) (st_seq (st_set (v_call (ds := [tabD T]) rfl ew (own_ownD _))) (st_seq (st_set (v_call (ds := [.int (n : Int)]) (by simp only [retOf, sNil, sThen, sSeq, sRet, sDrop, sSet, sIf, sPar, sUn2, sFor, asL, gSet, forD, fVar, fC, f2, f1, fT, asB, fNotT, fAndT, fOrT, fAndV, fOrV, gNot, gNeg, faNil, faCons, fTup, fLst, fCall, gAbs, gInt, gLen_t2, gLen_seq, gIx_t0, gIx_t1, gI0, gAdd_int, gNe_int, gEq_int, gEq_bl, gEq_tup2, gNe_tup2, gIsi_same, Dl.isInt, Dl.isBool, Dl.isTup, Option.bind_some, Option.map_some, List.map_cons, List.map_nil, List.length_cons, List.length_nil, List.getElem?_cons_zero, List.getElem?_cons_succ, List.set_cons_zero, List.set_cons_succ, List.cons_append, List.nil_append, List.append_nil, Bool.not_true, Bool.not_false, beq_self_eq_true, bdD_none, bdD_some, gIsN, isNon, sSetM, sRetM, sDropM, vI, vName, vShare, vWalk, vNil, vCons, vLst, vTup, vCall, sh_bd, len]) (e_straight_ways hn) (own_ways _ _))) ?_)))
      dsimp only [List.set_cons_zero, List.set_cons_succ]
      cases hr2 : firstBad (badC n c) [] (List.range n) with
      | some d => exact st_seq' (st_for (hv _ _ _ _ _) (l2 d hr2))
      | none =>
        obtain ⟨_, w2, o1', o4, o5, st, rfl⟩ := l1 hr2
        rw [List.length_range] at w2
        exact st_seq (st_for (hv _ _ _ _ _) w2) (st_ret (by rfl))
abbrev s_law : Stmt := top 38
theorem sc_law : FnScope ["_law_script", "_law_table", "_law_handed", "_law_found", "_law_opened", "_law_i", "_law_row", "_law_j"] ["_law_script"] (defScope s_law) := ⟨rfl, rfl, rfl, by decide +kernel, rfl, by decide +kernel, by decide +kernel⟩
theorem ok_law (F : Fun K "law" "law" s_law f fd) (hclosed : HasF P w K mg base 6 "closed" ["table"] (fn S_closed)) (hopen_table : HasF P w K mg base 1 "open_table" ["k"] (fn S_open_table)) (hLtable_by : HasF P w K mg base 3 "_law_table_by" ["_law_script"] (fn S__law_table_by)) (hLright : HasF P w K mg base 3 "_law_right" ["_law_found", "_law_table"] (fn S__law_right))  (m_range : mg "range" = none) (m_list : mg "list" = none) (m_len : mg "len" = none) : FnOk P w K mg base CX0 7 f fd ["_law_script"] (spLaw K) := by
  have sc := sc_law
  refine law_okM F sc_law (fun cdv A outer s H E ns hr hl => ?_)
  refine ⟨_, (pm_cons (pm_set 1 sc.nd (pv_tix 0 (pv_call hLtable_by hr (pad_cons (pd_var 0) pad_nil)) pd_int))
      (pm_cons (pm_comp 2 sc.nd (by exact (pid_list (pd_var 1))) (N := ["_law_row"]) (js := []) (cl := []) (fun _ _ _ _ _ => by exact (pv_listof rfl m_list boot_list (pad_cons (pd_var 0) pad_nil))) (by exact CompOk.nil))
      (pm_cons (pm_set 3 sc.nd (pv_call hclosed hr (pad_cons (pd_var 2) pad_nil)))
      (pm_cons (pm_if (PWD.pt (pwd_or (ptd_not (ptd_val (pd_callH hLright.has hr (pad_cons (pd_var 3) (pad_cons (pd_var 1) pad_nil))))) (pwd_or1 (ptd_neN hr.units (pd_var 2) (pd_var 1))))) (pm_one (pm_ret (pv_imm pd_bl))) pm_nil)
      (pm_cons (pm_if (ptd_eqN hr.units (pd_ix (pd_var 3) pd_int) pd_str) (pm_one (pm_rowsT 3 6 sc.nd PassesOwn.never rfl (pe_ix ix_tup (pvi 3) pd_int (fun _ _ => rfl)) (ptd_neN hr.units (pd_callB call_len_seq cd_len rfl m_len PySem.boot_len (pad_cons (pd_var 6) pad_nil)) (pd_callB call_len_seq cd_len rfl m_len PySem.boot_len (pad_cons (pd_var 1) pad_nil))) (pm_one (pm_ret (pv_imm pd_bl))) (row_rev (pe_bm0 PySem.F.plainAttrs_list PySem.F.slot_list_reverse PySem.F.type_list_reverse mt_reverse (pvi 6)) (row_app pd_non (fun _ => rfl) rfl (fun he => (pe_bm PySem.F.plainAttrs_list PySem.F.slot_list_append PySem.F.type_list_append mt_append (pvi 6) (pa_cons he pa_nil))) row_nil)))) pm_nil)
      (pm_cons (pm_trev 3 (pe_bm0 PySem.F.plainAttrs_list PySem.F.slot_list_reverse PySem.F.type_list_reverse mt_reverse (pe_ix ix_tup (pvi 3) pd_int (fun _ _ => rfl))))
      (pm_cons (pm_tapp 3 (pe_bm PySem.F.plainAttrs_list PySem.F.slot_list_append PySem.F.type_list_append mt_append (pe_ix ix_tup (pvi 3) pd_int (fun _ _ => rfl)) (pa_cons pd_int pa_nil)))
      (pm_cons (pm_set 4 sc.nd (pv_call hopen_table hr (pad_cons (pd_sub (pd_callB call_len_seq cd_len rfl m_len PySem.boot_len (pad_cons (pd_var 1) pad_nil)) pd_int) pad_nil)))
      (pm_cons (pm_for 5 sc.nd PassesOwn.never rfl (pim_range1 rfl m_range (pad_cons (pd_callB call_len_seq cd_len rfl m_len PySem.boot_len (pad_cons (pd_var 1) pad_nil)) pad_nil))
        (pm_one (pm_for 7 sc.nd PassesOwn.never rfl (pim_range1 rfl m_range (pad_cons (pd_callB call_len_seq cd_len rfl m_len PySem.boot_len (pad_cons (pd_var 1) pad_nil)) pad_nil))
          (pm_one (pm_put2 4 (pv_imm (pd_ix (pd_ix (pd_var 1) (pd_var 5)) (pd_var 7))) (pg_sub (pe_ix ix_list (pvi 4) (pd_var 5) (fun _ _ => rfl)) (pd_var 7) set_list))))))
      (pm_one (pm_ret (pv_imm (pd_and (pd_callH hLright.has hr (pad_cons (pd_callH hclosed.has hr (pad_cons (pd_var 4) pad_nil)) (pad_cons (pd_var 1) pad_nil))) (pd_and (pd_callH hLright.has hr (pad_cons (pd_callH hclosed.has hr (pad_cons (pd_var 2) pad_nil)) (pad_cons (pd_var 1) pad_nil))) (pd_one (pd_eqN hr.units (pd_var 2) (pd_var 1))))))))))))))))), ?_⟩
  · show retOf ((?f : SD) (startM 8 _)) = _
    have e0 : startM 8 [.seq (ns.map D.int)] = [some (.seq (ns.map D.int)), none, none, none, none, none, none, none] := by
      show [some (sh (.seq (ns.map D.int))), none, none, none, none, none, none, none] = _
      rw [sh, shs_ints]
    rw [e0]
    obtain ⟨T, ps, hs, hb, hl6, hpf, htb⟩ := t__law_table_by ns
    have ho : own (.tup [ownD T, .lst (ps.map fr)]) = true := by
      show (own (ownD T) && (own (.lst (ps.map fr)) && true)) = true
      rw [own_ownD, own, owns_frs]
      rfl
    generalize D.seq (ns.map D.int) = S at *
    obtain ⟨n, hn, hn7, hn1⟩ : ∃ n, n = ps.length + 1 ∧ n ≤ 7 ∧ 1 ≤ n := ⟨_, rfl, by omega, by omega⟩
    rw [← hn] at hs
    have ec := e_closed (isT_own T) hs (by omega) hb
    have er := e__law_right (d0 := closedF n T) (d1 := ownD T) rfl (isT_own T) hs (by omega)
    have len : gLen [ownD T] = some (.int (n : Int)) := len_own hs
    have part : ∃ F : D, ∀ u : SD, ∀ rs : Res, u [some S, some (ownD T), some (ownD T), some F, none, none, none, none] = some rs → sSeq ((sIf (fT (f2 gEqN (f2 gIx (fVar 3) (fC (.int 0))) (fC (.str "table")))) (sRowsT 3 6 (fT (f2 gNeN (fCall gLen (faCons (fVar 6) faNil)) (fCall gLen (faCons (fVar 1) faNil)))) (fun ds => (fun ds => if ds.length ≤ 999 then some (ds ++ [D.non]) else none) ds.reverse)) sNil)) (sSeq ((sTRev 3)) (sSeq ((sTApp 3 (fC (.int 0)))) u)) [some S, some (ownD T), some (ownD T), some (closedF n T), none, none, none, none] = some rs := by
      rcases closed_cases (T := T) (show n ≤ 16 by omega) with ⟨r, e1, hl, nd, lt, bad, e2⟩ | ⟨U, hU, e1, e2⟩
      · rw [e1]
        have i0 : gIx (.tup [.str "ring", .lst (intsD r)]) (.int 0) = some (.str "ring") := rfl
        have rl : r.length ≤ 7 := Nat.le_trans (nodup_len n r nd lt) hn7
        refine ⟨.tup [.str "ring", .lst ((intsD r).reverse ++ [.int 0])], fun u rs hu => ?_⟩
        refine st_seq (st_ifF (by simp only [retOf, sNil, sThen, sSeq, sRet, sDrop, sSet, sIf, sPar, sUn2, sFor, asL, gSet, forD, fVar, fC, f2, f1, fT, asB, fNotT, fAndT, fOrT, fAndV, fOrV, gNot, gNeg, faNil, faCons, fTup, fLst, fCall, gAbs, gInt, gLen_t2, gLen_seq, gIx_t0, gIx_t1, gI0, gAdd_int, gNe_int, gEq_int, gEq_bl, gEq_tup2, gNe_tup2, gIsi_same, Dl.isInt, Dl.isBool, Dl.isTup, Option.bind_some, Option.map_some, List.map_cons, List.map_nil, List.length_cons, List.length_nil, List.getElem?_cons_zero, List.getElem?_cons_succ, List.set_cons_zero, List.set_cons_succ, List.cons_append, List.nil_append, List.append_nil, Bool.not_true, Bool.not_false, beq_self_eq_true, bdD_none, bdD_some, gIsN, isNon, sSetM, sRetM, sDropM, vI, vName, vShare, vWalk, vNil, vCons, vLst, vTup, vCall, sh_bd, i0, gEq_rt]) rfl) (st_seq (st_trev (x := .str "ring") (ds := intsD r) rfl rfl) (st_seq (st_tapp (x := .str "ring") (d := .int 0) (ds := (intsD r).reverse) rfl rfl rfl rfl ?_) hu))
        unfold intsD
        rw [List.length_reverse, List.length_map]
        omega
      · rw [e1]
        have i0 : gIx (.tup [.str "table", ownD U]) (.int 0) = some (.str "table") := rfl
        refine ⟨.tup [.str "table", .lst ((U.map flipR).reverse ++ [.int 0])], fun u rs hu => ?_⟩
        have rc := rowsC_tab (δ := [some S, some (ownD T), some (ownD T), some (.tup [.str "table", ownD U]), none, none, none, none]) (i := 3) (k := 6) (x := .str "table") (fc := fT (f2 gNeN (fCall gLen (faCons (fVar 6) faNil)) (fCall gLen (faCons (fVar 1) faNil)))) (n := n) (by omega) U [] hU.row (fun z r hr => by
          have l1 : gLen [.lst (rowD r)] = some (.int (n : Int)) := by
            show some (D.int ((rowD r).length : Int)) = _
            rw [len_rowD, hr]
          have nn : gNeN (.int (n : Int)) (.int (n : Int)) = some (.bl false) := by
            show some (D.bl (!((n : Int) == (n : Int)))) = _
            rw [beq_self_eq_true]
            rfl
          simp only [retOf, sNil, sThen, sSeq, sRet, sDrop, sSet, sIf, sPar, sUn2, sFor, asL, gSet, forD, fVar, fC, f2, f1, fT, asB, fNotT, fAndT, fOrT, fAndV, fOrV, gNot, gNeg, faNil, faCons, fTup, fLst, fCall, gAbs, gInt, gLen_t2, gLen_seq, gIx_t0, gIx_t1, gI0, gAdd_int, gNe_int, gEq_int, gEq_bl, gEq_tup2, gNe_tup2, gIsi_same, Dl.isInt, Dl.isBool, Dl.isTup, Option.bind_some, Option.map_some, List.map_cons, List.map_nil, List.length_cons, List.length_nil, List.getElem?_cons_zero, List.getElem?_cons_succ, List.set_cons_zero, List.set_cons_succ, List.cons_append, List.nil_append, List.append_nil, Bool.not_true, Bool.not_false, beq_self_eq_true, bdD_none, bdD_some, gIsN, isNon, sSetM, sRetM, sDropM, vI, vName, vShare, vWalk, vNil, vCons, vLst, vTup, vCall, sh_bd, l1, len, nn])
        refine st_seq (st_ifT (by simp only [retOf, sNil, sThen, sSeq, sRet, sDrop, sSet, sIf, sPar, sUn2, sFor, asL, gSet, forD, fVar, fC, f2, f1, fT, asB, fNotT, fAndT, fOrT, fAndV, fOrV, gNot, gNeg, faNil, faCons, fTup, fLst, fCall, gAbs, gInt, gLen_t2, gLen_seq, gIx_t0, gIx_t1, gI0, gAdd_int, gNe_int, gEq_int, gEq_bl, gEq_tup2, gNe_tup2, gIsi_same, Dl.isInt, Dl.isBool, Dl.isTup, Option.bind_some, Option.map_some, List.map_cons, List.map_nil, List.length_cons, List.length_nil, List.getElem?_cons_zero, List.getElem?_cons_succ, List.set_cons_zero, List.set_cons_succ, List.cons_append, List.nil_append, List.append_nil, Bool.not_true, Bool.not_false, beq_self_eq_true, bdD_none, bdD_some, gIsN, isNon, sSetM, sRetM, sDropM, vI, vName, vShare, vWalk, vNil, vCons, vLst, vTup, vCall, sh_bd, i0, gEq_str]) (st_rowsT (x := .str "table") (ds := rowsO U) rfl (by simp only [List.length_cons, List.length_nil]; omega) rfl rc)) (st_seq (st_trev (x := .str "table") (ds := U.map flipR) rfl rfl) (st_seq (st_tapp (x := .str "table") (d := .int 0) (ds := (U.map flipR).reverse) rfl rfl rfl rfl ?_) hu))
        rw [List.length_reverse, List.length_map, hU.len]
        omega
    obtain ⟨F, hF⟩ := part
    have hv := fun (o4 o5 o6 o7 : Option D) => v_range (g := faCons (fCall gLen (faCons (fVar 1) faNil)) faNil) (δ := [some S, some (ownD T), some (ownD T), some F, o4, o5, o6, o7]) (n := n) (by simp only [retOf, sNil, sThen, sSeq, sRet, sDrop, sSet, sIf, sPar, sUn2, sFor, asL, gSet, forD, fVar, fC, f2, f1, fT, asB, fNotT, fAndT, fOrT, fAndV, fOrV, gNot, gNeg, faNil, faCons, fTup, fLst, fCall, gAbs, gInt, gLen_t2, gLen_seq, gIx_t0, gIx_t1, gI0, gAdd_int, gNe_int, gEq_int, gEq_bl, gEq_tup2, gNe_tup2, gIsi_same, Dl.isInt, Dl.isBool, Dl.isTup, Option.bind_some, Option.map_some, List.map_cons, List.map_nil, List.length_cons, List.length_nil, List.getElem?_cons_zero, List.getElem?_cons_succ, List.set_cons_zero, List.set_cons_succ, List.cons_append, List.nil_append, List.append_nil, Bool.not_true, Bool.not_false, beq_self_eq_true, bdD_none, bdD_some, gIsN, isNon, sSetM, sRetM, sDropM, vI, vName, vShare, vWalk, vNil, vCons, vLst, vTup, vCall, sh_bd, len]) (by omega)
    obtain ⟨g, hg⟩ : ∃ g : Nat → Nat → Nat → Nat → Bn, g = fun i j x y => if x < i ∨ (x = i ∧ y < j) then cellT T x y else none := ⟨_, rfl⟩
    have inn : ∀ (i : Nat), i < n → ∀ o7 : Option D, ∃ δ', Dl.forM 7 ((sPut2 4 (fVar 5) (fVar 7) (vI (f2 gIx (f2 gIx (fVar 1) (fVar 5)) (fVar 7))))) ((List.range n).map fun (i : Nat) => D.int (i : Int)) [some S, some (ownD T), some (ownD T), some F, some (ownD (tabF n (g i 0))), some (.int (i : Int)), none, o7] = some (.nx δ') ∧ ∃ o7, δ' = [some S, some (ownD T), some (ownD T), some F, some (ownD (tabF n (g i n))), some (.int (i : Int)), none, o7] := fun i hi o7 => by
      have := forM_pre (i := 7) (s := ((sPut2 4 (fVar 5) (fVar 7) (vI (f2 gIx (f2 gIx (fVar 1) (fVar 5)) (fVar 7)))))) (f := fun (i : Nat) => D.int (i : Int)) (fun pre δ => ∃ o7, δ = [some S, some (ownD T), some (ownD T), some F, some (ownD (tabF n (g i pre.length))), some (.int (i : Int)), none, o7]) (List.range n) (by
        rintro pre x post _ hx ⟨o7, rfl⟩
        obtain ⟨rfl, hj⟩ := range_at hx
        rw [List.length_append, List.length_singleton]
        generalize pre.length = j at *
        obtain ⟨r1, q1, q2, _⟩ := ix_own hs hi hj
        refine ⟨_, sPut2_v (b := cellT T i j) (tabF_sq n _) hi hj (v_imm (d := bdD (cellT T i j)) (by simp only [retOf, sNil, sThen, sSeq, sRet, sDrop, sSet, sIf, sPar, sUn2, sFor, asL, gSet, forD, fVar, fC, f2, f1, fT, asB, fNotT, fAndT, fOrT, fAndV, fOrV, gNot, gNeg, faNil, faCons, fTup, fLst, fCall, gAbs, gInt, gLen_t2, gLen_seq, gIx_t0, gIx_t1, gI0, gAdd_int, gNe_int, gEq_int, gEq_bl, gEq_tup2, gNe_tup2, gIsi_same, Dl.isInt, Dl.isBool, Dl.isTup, Option.bind_some, Option.map_some, List.map_cons, List.map_nil, List.length_cons, List.length_nil, List.getElem?_cons_zero, List.getElem?_cons_succ, List.set_cons_zero, List.set_cons_succ, List.cons_append, List.nil_append, List.append_nil, Bool.not_true, Bool.not_false, beq_self_eq_true, bdD_none, bdD_some, gIsN, isNon, sSetM, sRetM, sDropM, vI, vName, vShare, vWalk, vNil, vCons, vLst, vTup, vCall, sh_bd, sh_int, q1, q2]) (imm_bd _)) rfl rfl rfl, some (.int (j : Int)), ?_⟩
        rw [set2_tabF _ _ hi hj]
        have e : tabF n (up2 (g i j) i j (cellT T i j)) = tabF n (g i (j + 1)) := tabF_congr fun x y hx hy => by
          rw [hg]
          unfold up2
          dsimp only
          by_cases z2 : x = i ∧ y = j
          · rw [if_pos z2, if_pos (by omega)]
            obtain ⟨rfl, rfl⟩ := z2
            rfl
          · rw [if_neg z2]
            by_cases z : x < i ∨ (x = i ∧ y < j)
            · rw [if_pos z, if_pos (by omega)]
            · rw [if_neg z, if_neg (by omega)]
        rw [e]
        rfl) (List.range n) [] [some S, some (ownD T), some (ownD T), some F, some (ownD (tabF n (g i 0))), some (.int (i : Int)), none, o7] rfl ⟨_, rfl⟩
      rw [List.length_range] at this
      exact this
    have nxt : ∀ i, tabF n (g i n) = tabF n (g (i + 1) 0) := fun i => tabF_congr fun x y hx hy => by
      rw [hg]
      dsimp only
      by_cases z : x < i ∨ (x = i ∧ y < n)
      · rw [if_pos z, if_pos (by omega)]
      · rw [if_neg z, if_neg (by omega)]
    obtain ⟨_, w, o5, o7, rfl⟩ := forM_pre (i := 5) (s := ((sForM (vRange (faCons (fCall gLen (faCons (fVar 1) faNil)) faNil)) 7 (sPut2 4 (fVar 5) (fVar 7) (vI (f2 gIx (f2 gIx (fVar 1) (fVar 5)) (fVar 7))))))) (f := fun (i : Nat) => D.int (i : Int)) (fun pre δ => ∃ o5 o7, δ = [some S, some (ownD T), some (ownD T), some F, some (ownD (tabF n (g pre.length 0))), o5, none, o7]) (List.range n) (by
      rintro pre x post _ hx ⟨o5, o7, rfl⟩
      obtain ⟨rfl, hi⟩ := range_at hx
      rw [List.length_append, List.length_singleton]
      generalize pre.length = i at *
      obtain ⟨_, f1, o7', rfl⟩ := inn i hi o7
      rw [nxt i] at f1
      exact ⟨_, st_for (hv _ _ _ _) f1, _, _, rfl⟩) (List.range n) [] [some S, some (ownD T), some (ownD T), some F, some (ownD (tabF n (g 0 0))), none, none, none] rfl ⟨_, _, rfl⟩
    rw [List.length_range] at w
    have z1 : tabF n (g 0 0) = opn n := by
      rw [opn_tabF]
      exact tabF_congr fun x y hx hy => by rw [hg]; exact if_neg (by omega)
    have z2 : tabF n (g n 0) = T := (tabF_congr fun x y hx hy => by rw [hg]; exact if_pos (by omega)).trans (tabF_of hs)
    rw [z1, z2] at w
    have eo := e_open_table (k := (n : Int) - 1) (by omega) (by omega)
    have en : ((n : Int) - 1).toNat + 1 = n := by omega
    rw [en] at eo
    refine rt_of (st_seq (st_setS (v_tix (k := 0) (v_call (ds := [S]) rfl htb ho) rfl)) (st_seq (st_setS (vComp_copyO hs (by omega) rfl)) (st_seq (st_setS (v_call (ds := [ownD T]) rfl ec (own_closedF n T))) (st_seq (st_ifF (by simp only [retOf, sNil, sThen, sSeq, sRet, sDrop, sSet, sIf, sPar, sUn2, sFor, asL, gSet, forD, fVar, fC, f2, f1, fT, asB, fNotT, fAndT, fOrT, fAndV, fOrV, gNot, gNeg, faNil, faCons, fTup, fLst, fCall, gAbs, gInt, gLen_t2, gLen_seq, gIx_t0, gIx_t1, gI0, gAdd_int, gNe_int, gEq_int, gEq_bl, gEq_tup2, gNe_tup2, gIsi_same, Dl.isInt, Dl.isBool, Dl.isTup, Option.bind_some, Option.map_some, List.map_cons, List.map_nil, List.length_cons, List.length_nil, List.getElem?_cons_zero, List.getElem?_cons_succ, List.set_cons_zero, List.set_cons_succ, List.cons_append, List.nil_append, List.append_nil, Bool.not_true, Bool.not_false, beq_self_eq_true, bdD_none, bdD_some, gIsN, isNon, sSetM, sRetM, sDropM, vI, vName, vShare, vWalk, vNil, vCons, vLst, vTup, vCall, sh_bd, er, ne_own]) rfl) (hF _ _ ?_)))))
    refine st_seq (st_setS (v_call (ds := [.int ((n : Int) - 1)]) (by simp only [retOf, sNil, sThen, sSeq, sRet, sDrop, sSet, sIf, sPar, sUn2, sFor, asL, gSet, forD, fVar, fC, f2, f1, fT, asB, fNotT, fAndT, fOrT, fAndV, fOrV, gNot, gNeg, faNil, faCons, fTup, fLst, fCall, gAbs, gInt, gLen_t2, gLen_seq, gIx_t0, gIx_t1, gI0, gAdd_int, gNe_int, gEq_int, gEq_bl, gEq_tup2, gNe_tup2, gIsi_same, Dl.isInt, Dl.isBool, Dl.isTup, Option.bind_some, Option.map_some, List.map_cons, List.map_nil, List.length_cons, List.length_nil, List.getElem?_cons_zero, List.getElem?_cons_succ, List.set_cons_zero, List.set_cons_succ, List.cons_append, List.nil_append, List.append_nil, Bool.not_true, Bool.not_false, beq_self_eq_true, bdD_none, bdD_some, gIsN, isNon, sSetM, sRetM, sDropM, vI, vName, vShare, vWalk, vNil, vCons, vLst, vTup, vCall, sh_bd, len]) eo (own_ownD _))) (st_seq (st_for (hv _ _ _ _) w) (st_retS (v_imm ?_)))
    simp only [retOf, sNil, sThen, sSeq, sRet, sDrop, sSet, sIf, sPar, sUn2, sFor, asL, gSet, forD, fVar, fC, f2, f1, fT, asB, fNotT, fAndT, fOrT, fAndV, fOrV, gNot, gNeg, faNil, faCons, fTup, fLst, fCall, gAbs, gInt, gLen_t2, gLen_seq, gIx_t0, gIx_t1, gI0, gAdd_int, gNe_int, gEq_int, gEq_bl, gEq_tup2, gNe_tup2, gIsi_same, Dl.isInt, Dl.isBool, Dl.isTup, Option.bind_some, Option.map_some, List.map_cons, List.map_nil, List.length_cons, List.length_nil, List.getElem?_cons_zero, List.getElem?_cons_succ, List.set_cons_zero, List.set_cons_succ, List.cons_append, List.nil_append, List.append_nil, Bool.not_true, Bool.not_false, beq_self_eq_true, bdD_none, bdD_some, gIsN, isNon, sSetM, sRetM, sDropM, vI, vName, vShare, vWalk, vNil, vCons, vLst, vTup, vCall, sh_bd, ec, er, eq_own]
end
theorem all_mk {l : PySem.W.OpenLaw} {w : World} {K : PySem.W.Frag} {h : Heap} {mg : Str → Option Value} {fa : Addr} (X : K.In h) (G : h.Ns mainGlobals mg) (hfa : mg "law" = some (.ref fa)) {f0 : Addr} {od0 an0 : Option Addr} {sl0 : Array (Option Value)} {oc0 kV0 dc0 pm0 cd0 ct0 : Value} {f1 : Addr} {od1 an1 : Option Addr} {sl1 : Array (Option Value)} {oc1 kV1 dc1 pm1 cd1 ct1 : Value} {f2 : Addr} {od2 an2 : Option Addr} {sl2 : Array (Option Value)} {oc2 kV2 dc2 pm2 cd2 ct2 : Value} {f3 : Addr} {od3 an3 : Option Addr} {sl3 : Array (Option Value)} {oc3 kV3 dc3 pm3 cd3 ct3 : Value} {f4 : Addr} {od4 an4 : Option Addr} {sl4 : Array (Option Value)} {oc4 kV4 dc4 pm4 cd4 ct4 : Value} {f5 : Addr} {od5 an5 : Option Addr} {sl5 : Array (Option Value)} {oc5 kV5 dc5 pm5 cd5 ct5 : Value} {f6 : Addr} {od6 an6 : Option Addr} {sl6 : Array (Option Value)} {oc6 kV6 dc6 pm6 cd6 ct6 : Value} {f7 : Addr} {od7 an7 : Option Addr} {sl7 : Array (Option Value)} {oc7 kV7 dc7 pm7 cd7 ct7 : Value} {f8 : Addr} {od8 an8 : Option Addr} {sl8 : Array (Option Value)} {oc8 kV8 dc8 pm8 cd8 ct8 : Value} {f9 : Addr} {od9 an9 : Option Addr} {sl9 : Array (Option Value)} {oc9 kV9 dc9 pm9 cd9 ct9 : Value} {f10 : Addr} {od10 an10 : Option Addr} {sl10 : Array (Option Value)} {oc10 kV10 dc10 pm10 cd10 ct10 : Value} {f11 : Addr} {od11 an11 : Option Addr} {sl11 : Array (Option Value)} {oc11 kV11 dc11 pm11 cd11 ct11 : Value} {f12 : Addr} {od12 an12 : Option Addr} {sl12 : Array (Option Value)} {oc12 kV12 dc12 pm12 cd12 ct12 : Value} {f13 : Addr} {od13 an13 : Option Addr} {sl13 : Array (Option Value)} {oc13 kV13 dc13 pm13 cd13 ct13 : Value} {f14 : Addr} {od14 an14 : Option Addr} {sl14 : Array (Option Value)} {oc14 kV14 dc14 pm14 cd14 ct14 : Value} {f15 : Addr} {od15 an15 : Option Addr} {sl15 : Array (Option Value)} {oc15 kV15 dc15 pm15 cd15 ct15 : Value} {f16 : Addr} {od16 an16 : Option Addr} {sl16 : Array (Option Value)} {oc16 kV16 dc16 pm16 cd16 ct16 : Value} {f17 : Addr} {od17 an17 : Option Addr} {sl17 : Array (Option Value)} {oc17 kV17 dc17 pm17 cd17 ct17 : Value} {f18 : Addr} {od18 an18 : Option Addr} {sl18 : Array (Option Value)} {oc18 kV18 dc18 pm18 cd18 ct18 : Value} {f19 : Addr} {od19 an19 : Option Addr} {sl19 : Array (Option Value)} {oc19 kV19 dc19 pm19 cd19 ct19 : Value} {f20 : Addr} {od20 an20 : Option Addr} {sl20 : Array (Option Value)} {oc20 kV20 dc20 pm20 cd20 ct20 : Value} {f21 : Addr} {od21 an21 : Option Addr} {sl21 : Array (Option Value)} {oc21 kV21 dc21 pm21 cd21 ct21 : Value} {f22 : Addr} {od22 an22 : Option Addr} {sl22 : Array (Option Value)} {oc22 kV22 dc22 pm22 cd22 ct22 : Value} {f23 : Addr} {od23 an23 : Option Addr} {sl23 : Array (Option Value)} {oc23 kV23 dc23 pm23 cd23 ct23 : Value} {f24 : Addr} {od24 an24 : Option Addr} {sl24 : Array (Option Value)} {oc24 kV24 dc24 pm24 cd24 ct24 : Value} {f25 : Addr} {od25 an25 : Option Addr} {sl25 : Array (Option Value)} {oc25 kV25 dc25 pm25 cd25 ct25 : Value} {f26 : Addr} {od26 an26 : Option Addr} {sl26 : Array (Option Value)} {oc26 kV26 dc26 pm26 cd26 ct26 : Value} {f27 : Addr} {od27 an27 : Option Addr} {sl27 : Array (Option Value)} {oc27 kV27 dc27 pm27 cd27 ct27 : Value} {f28 : Addr} {od28 an28 : Option Addr} {sl28 : Array (Option Value)} {oc28 kV28 dc28 pm28 cd28 ct28 : Value} {f29 : Addr} {od29 an29 : Option Addr} {sl29 : Array (Option Value)} {oc29 kV29 dc29 pm29 cd29 ct29 : Value} {f30 : Addr} {od30 an30 : Option Addr} {sl30 : Array (Option Value)} {oc30 kV30 dc30 pm30 cd30 ct30 : Value} {T2 nT2 : Nat} {oT2 : Value} {dT2 : Option Addr} {sT2 : Array (Option Value)} {tk2 : Tok} 
    (a0 : PySem.W.nsIn K mainGlobals "is_whole" = some (some (.ref f0))) (l0 : K.lookup f0 = some ⟨oc0, od0, .func (PySem.W.fnOf "is_whole" "is_whole" (defArgs s_is_whole) (defBody s_is_whole) (defScope s_is_whole) .none kV0 dc0 pm0 an0 cd0 ct0), sl0⟩) (c0 : PySem.W.codeIn K cd0 "is_whole" = true) (k0 : PySem.W.keepIn K (.ref f0) = true)
    (a1 : PySem.W.nsIn K mainGlobals "common_divisor" = some (some (.ref f1))) (l1 : K.lookup f1 = some ⟨oc1, od1, .func (PySem.W.fnOf "common_divisor" "common_divisor" (defArgs s_common_divisor) (defBody s_common_divisor) (defScope s_common_divisor) .none kV1 dc1 pm1 an1 cd1 ct1), sl1⟩) (c1 : PySem.W.codeIn K cd1 "common_divisor" = true) (k1 : PySem.W.keepIn K (.ref f1) = true)
    (a2 : PySem.W.nsIn K mainGlobals "fraction" = some (some (.ref f2))) (l2 : K.lookup f2 = some ⟨oc2, od2, .func (PySem.W.fnOf "fraction" "fraction" (defArgs s_fraction) (defBody s_fraction) (defScope s_fraction) (.ref T2) kV2 dc2 pm2 an2 cd2 ct2), sl2⟩) (t2 : K.lookup T2 = some ⟨oT2, dT2, .seq #[.int 1 tk2] nT2, sT2⟩) (c2 : PySem.W.codeIn K cd2 "fraction" = true) (k2 : PySem.W.keepIn K (.ref f2) = true)
    (a3 : PySem.W.nsIn K mainGlobals "lowest" = some (some (.ref f3))) (l3 : K.lookup f3 = some ⟨oc3, od3, .func (PySem.W.fnOf "lowest" "lowest" (defArgs s_lowest) (defBody s_lowest) (defScope s_lowest) .none kV3 dc3 pm3 an3 cd3 ct3), sl3⟩) (c3 : PySem.W.codeIn K cd3 "lowest" = true) (k3 : PySem.W.keepIn K (.ref f3) = true)
    (a4 : PySem.W.nsIn K mainGlobals "less" = some (some (.ref f4))) (l4 : K.lookup f4 = some ⟨oc4, od4, .func (PySem.W.fnOf "less" "less" (defArgs s_less) (defBody s_less) (defScope s_less) .none kV4 dc4 pm4 an4 cd4 ct4), sl4⟩) (c4 : PySem.W.codeIn K cd4 "less" = true) (k4 : PySem.W.keepIn K (.ref f4) = true)
    (a5 : PySem.W.nsIn K mainGlobals "keeps" = some (some (.ref f5))) (l5 : K.lookup f5 = some ⟨oc5, od5, .func (PySem.W.fnOf "keeps" "keeps" (defArgs s_keeps) (defBody s_keeps) (defScope s_keeps) .none kV5 dc5 pm5 an5 cd5 ct5), sl5⟩) (c5 : PySem.W.codeIn K cd5 "keeps" = true) (k5 : PySem.W.keepIn K (.ref f5) = true)
    (a6 : PySem.W.nsIn K mainGlobals "tighter" = some (some (.ref f6))) (l6 : K.lookup f6 = some ⟨oc6, od6, .func (PySem.W.fnOf "tighter" "tighter" (defArgs s_tighter) (defBody s_tighter) (defScope s_tighter) .none kV6 dc6 pm6 an6 cd6 ct6), sl6⟩) (c6 : PySem.W.codeIn K cd6 "tighter" = true) (k6 : PySem.W.keepIn K (.ref f6) = true)
    (a7 : PySem.W.nsIn K mainGlobals "bound_sum" = some (some (.ref f7))) (l7 : K.lookup f7 = some ⟨oc7, od7, .func (PySem.W.fnOf "bound_sum" "bound_sum" (defArgs s_bound_sum) (defBody s_bound_sum) (defScope s_bound_sum) .none kV7 dc7 pm7 an7 cd7 ct7), sl7⟩) (c7 : PySem.W.codeIn K cd7 "bound_sum" = true) (k7 : PySem.W.keepIn K (.ref f7) = true)
    (a8 : PySem.W.nsIn K mainGlobals "open_table" = some (some (.ref f8))) (l8 : K.lookup f8 = some ⟨oc8, od8, .func (PySem.W.fnOf "open_table" "open_table" (defArgs s_open_table) (defBody s_open_table) (defScope s_open_table) .none kV8 dc8 pm8 an8 cd8 ct8), sl8⟩) (c8 : PySem.W.codeIn K cd8 "open_table" = true) (k8 : PySem.W.keepIn K (.ref f8) = true)
    (a9 : PySem.W.nsIn K mainGlobals "copied" = some (some (.ref f9))) (l9 : K.lookup f9 = some ⟨oc9, od9, .func (PySem.W.fnOf "copied" "copied" (defArgs s_copied) (defBody s_copied) (defScope s_copied) .none kV9 dc9 pm9 an9 cd9 ct9), sl9⟩) (c9 : PySem.W.codeIn K cd9 "copied" = true) (k9 : PySem.W.keepIn K (.ref f9) = true)
    (a10 : PySem.W.nsIn K mainGlobals "closed" = some (some (.ref f10))) (l10 : K.lookup f10 = some ⟨oc10, od10, .func (PySem.W.fnOf "closed" "closed" (defArgs s_closed) (defBody s_closed) (defScope s_closed) .none kV10 dc10 pm10 an10 cd10 ct10), sl10⟩) (c10 : PySem.W.codeIn K cd10 "closed" = true) (k10 : PySem.W.keepIn K (.ref f10) = true)
    (a11 : PySem.W.nsIn K mainGlobals "with_noughts" = some (some (.ref f11))) (l11 : K.lookup f11 = some ⟨oc11, od11, .func (PySem.W.fnOf "with_noughts" "with_noughts" (defArgs s_with_noughts) (defBody s_with_noughts) (defScope s_with_noughts) .none kV11 dc11 pm11 an11 cd11 ct11), sl11⟩) (c11 : PySem.W.codeIn K cd11 "with_noughts" = true) (k11 : PySem.W.keepIn K (.ref f11) = true)
    (a12 : PySem.W.nsIn K mainGlobals "straight_ways" = some (some (.ref f12))) (l12 : K.lookup f12 = some ⟨oc12, od12, .func (PySem.W.fnOf "straight_ways" "straight_ways" (defArgs s_straight_ways) (defBody s_straight_ways) (defScope s_straight_ways) .none kV12 dc12 pm12 an12 cd12 ct12), sl12⟩) (c12 : PySem.W.codeIn K cd12 "straight_ways" = true) (k12 : PySem.W.keepIn K (.ref f12) = true)
    (a13 : PySem.W.nsIn K mainGlobals "ring_through" = some (some (.ref f13))) (l13 : K.lookup f13 = some ⟨oc13, od13, .func (PySem.W.fnOf "ring_through" "ring_through" (defArgs s_ring_through) (defBody s_ring_through) (defScope s_ring_through) .none kV13 dc13 pm13 an13 cd13 ct13), sl13⟩) (c13 : PySem.W.codeIn K cd13 "ring_through" = true) (k13 : PySem.W.keepIn K (.ref f13) = true)
    (a14 : PySem.W.nsIn K mainGlobals "lead_through" = some (some (.ref f14))) (l14 : K.lookup f14 = some ⟨oc14, od14, .func (PySem.W.fnOf "lead_through" "lead_through" (defArgs s_lead_through) (defBody s_lead_through) (defScope s_lead_through) .none kV14 dc14 pm14 an14 cd14 ct14), sl14⟩) (c14 : PySem.W.codeIn K cd14 "lead_through" = true) (k14 : PySem.W.keepIn K (.ref f14) = true)
    (a15 : PySem.W.nsIn K mainGlobals "_law_cell_at" = some (some (.ref f15))) (l15 : K.lookup f15 = some ⟨oc15, od15, .func (PySem.W.fnOf "_law_cell_at" "_law_cell_at" (defArgs s__law_cell_at) (defBody s__law_cell_at) (defScope s__law_cell_at) .none kV15 dc15 pm15 an15 cd15 ct15), sl15⟩) (c15 : PySem.W.codeIn K cd15 "_law_cell_at" = true) (k15 : PySem.W.keepIn K (.ref f15) = true)
    (a16 : PySem.W.nsIn K mainGlobals "_law_mixed" = some (some (.ref f16))) (l16 : K.lookup f16 = some ⟨oc16, od16, .func (PySem.W.fnOf "_law_mixed" "_law_mixed" (defArgs s__law_mixed) (defBody s__law_mixed) (defScope s__law_mixed) .none kV16 dc16 pm16 an16 cd16 ct16), sl16⟩) (c16 : PySem.W.codeIn K cd16 "_law_mixed" = true) (k16 : PySem.W.keepIn K (.ref f16) = true)
    (a17 : PySem.W.nsIn K mainGlobals "_law_lowest" = some (some (.ref f17))) (l17 : K.lookup f17 = some ⟨oc17, od17, .func (PySem.W.fnOf "_law_lowest" "_law_lowest" (defArgs s__law_lowest) (defBody s__law_lowest) (defScope s__law_lowest) .none kV17 dc17 pm17 an17 cd17 ct17), sl17⟩) (c17 : PySem.W.codeIn K cd17 "_law_lowest" = true) (k17 : PySem.W.keepIn K (.ref f17) = true)
    (a18 : PySem.W.nsIn K mainGlobals "_law_less" = some (some (.ref f18))) (l18 : K.lookup f18 = some ⟨oc18, od18, .func (PySem.W.fnOf "_law_less" "_law_less" (defArgs s__law_less) (defBody s__law_less) (defScope s__law_less) .none kV18 dc18 pm18 an18 cd18 ct18), sl18⟩) (c18 : PySem.W.codeIn K cd18 "_law_less" = true) (k18 : PySem.W.keepIn K (.ref f18) = true)
    (a19 : PySem.W.nsIn K mainGlobals "_law_any_table" = some (some (.ref f19))) (l19 : K.lookup f19 = some ⟨oc19, od19, .func (PySem.W.fnOf "_law_any_table" "_law_any_table" (defArgs s__law_any_table) (defBody s__law_any_table) (defScope s__law_any_table) .none kV19 dc19 pm19 an19 cd19 ct19), sl19⟩) (c19 : PySem.W.codeIn K cd19 "_law_any_table" = true) (k19 : PySem.W.keepIn K (.ref f19) = true)
    (a20 : PySem.W.nsIn K mainGlobals "_law_part" = some (some (.ref f20))) (l20 : K.lookup f20 = some ⟨oc20, od20, .func (PySem.W.fnOf "_law_part" "_law_part" (defArgs s__law_part) (defBody s__law_part) (defScope s__law_part) .none kV20 dc20 pm20 an20 cd20 ct20), sl20⟩) (c20 : PySem.W.codeIn K cd20 "_law_part" = true) (k20 : PySem.W.keepIn K (.ref f20) = true)
    (a21 : PySem.W.nsIn K mainGlobals "_law_planted" = some (some (.ref f21))) (l21 : K.lookup f21 = some ⟨oc21, od21, .func (PySem.W.fnOf "_law_planted" "_law_planted" (defArgs s__law_planted) (defBody s__law_planted) (defScope s__law_planted) .none kV21 dc21 pm21 an21 cd21 ct21), sl21⟩) (c21 : PySem.W.codeIn K cd21 "_law_planted" = true) (k21 : PySem.W.keepIn K (.ref f21) = true)
    (a22 : PySem.W.nsIn K mainGlobals "_law_table_by" = some (some (.ref f22))) (l22 : K.lookup f22 = some ⟨oc22, od22, .func (PySem.W.fnOf "_law_table_by" "_law_table_by" (defArgs s__law_table_by) (defBody s__law_table_by) (defScope s__law_table_by) .none kV22 dc22 pm22 an22 cd22 ct22), sl22⟩) (c22 : PySem.W.codeIn K cd22 "_law_table_by" = true) (k22 : PySem.W.keepIn K (.ref f22) = true)
    (a23 : PySem.W.nsIn K mainGlobals "_law_whole" = some (some (.ref f23))) (l23 : K.lookup f23 = some ⟨oc23, od23, .func (PySem.W.fnOf "_law_whole" "_law_whole" (defArgs s__law_whole) (defBody s__law_whole) (defScope s__law_whole) .none kV23 dc23 pm23 an23 cd23 ct23), sl23⟩) (c23 : PySem.W.codeIn K cd23 "_law_whole" = true) (k23 : PySem.W.keepIn K (.ref f23) = true)
    (a24 : PySem.W.nsIn K mainGlobals "_law_sum" = some (some (.ref f24))) (l24 : K.lookup f24 = some ⟨oc24, od24, .func (PySem.W.fnOf "_law_sum" "_law_sum" (defArgs s__law_sum) (defBody s__law_sum) (defScope s__law_sum) .none kV24 dc24 pm24 an24 cd24 ct24), sl24⟩) (c24 : PySem.W.codeIn K cd24 "_law_sum" = true) (k24 : PySem.W.keepIn K (.ref f24) = true)
    (a25 : PySem.W.nsIn K mainGlobals "_law_tighter" = some (some (.ref f25))) (l25 : K.lookup f25 = some ⟨oc25, od25, .func (PySem.W.fnOf "_law_tighter" "_law_tighter" (defArgs s__law_tighter) (defBody s__law_tighter) (defScope s__law_tighter) .none kV25 dc25 pm25 an25 cd25 ct25), sl25⟩) (c25 : PySem.W.codeIn K cd25 "_law_tighter" = true) (k25 : PySem.W.keepIn K (.ref f25) = true)
    (a26 : PySem.W.nsIn K mainGlobals "_law_closed" = some (some (.ref f26))) (l26 : K.lookup f26 = some ⟨oc26, od26, .func (PySem.W.fnOf "_law_closed" "_law_closed" (defArgs s__law_closed) (defBody s__law_closed) (defScope s__law_closed) .none kV26 dc26 pm26 an26 cd26 ct26), sl26⟩) (c26 : PySem.W.codeIn K cd26 "_law_closed" = true) (k26 : PySem.W.keepIn K (.ref f26) = true)
    (a27 : PySem.W.nsIn K mainGlobals "_law_is_ring" = some (some (.ref f27))) (l27 : K.lookup f27 = some ⟨oc27, od27, .func (PySem.W.fnOf "_law_is_ring" "_law_is_ring" (defArgs s__law_is_ring) (defBody s__law_is_ring) (defScope s__law_is_ring) .none kV27 dc27 pm27 an27 cd27 ct27), sl27⟩) (c27 : PySem.W.codeIn K cd27 "_law_is_ring" = true) (k27 : PySem.W.keepIn K (.ref f27) = true)
    (a28 : PySem.W.nsIn K mainGlobals "_law_is_bound" = some (some (.ref f28))) (l28 : K.lookup f28 = some ⟨oc28, od28, .func (PySem.W.fnOf "_law_is_bound" "_law_is_bound" (defArgs s__law_is_bound) (defBody s__law_is_bound) (defScope s__law_is_bound) .none kV28 dc28 pm28 an28 cd28 ct28), sl28⟩) (c28 : PySem.W.codeIn K cd28 "_law_is_bound" = true) (k28 : PySem.W.keepIn K (.ref f28) = true)
    (a29 : PySem.W.nsIn K mainGlobals "_law_right" = some (some (.ref f29))) (l29 : K.lookup f29 = some ⟨oc29, od29, .func (PySem.W.fnOf "_law_right" "_law_right" (defArgs s__law_right) (defBody s__law_right) (defScope s__law_right) .none kV29 dc29 pm29 an29 cd29 ct29), sl29⟩) (c29 : PySem.W.codeIn K cd29 "_law_right" = true) (k29 : PySem.W.keepIn K (.ref f29) = true)
    (a30 : PySem.W.nsIn K mainGlobals "law" = some (some (.ref f30))) (l30 : K.lookup f30 = some ⟨oc30, od30, .func (PySem.W.fnOf "law" "law" (defArgs s_law) (defBody s_law) (defScope s_law) .none kV30 dc30 pm30 an30 cd30 ct30), sl30⟩) (c30 : PySem.W.codeIn K cd30 "law" = true) (k30 : PySem.W.keepIn K (.ref f30) = true)
    (z_isinstance : PySem.W.nsIn K mainGlobals "isinstance" = some none) (z_int : PySem.W.nsIn K mainGlobals "int" = some none) (z_bool : PySem.W.nsIn K mainGlobals "bool" = some none) (z_range : PySem.W.nsIn K mainGlobals "range" = some none) (z_list : PySem.W.nsIn K mainGlobals "list" = some none) (z_len : PySem.W.nsIn K mainGlobals "len" = some none) (z_abs : PySem.W.nsIn K mainGlobals "abs" = some none) (z_any : PySem.W.nsIn K mainGlobals "any" = some none) (z_all : PySem.W.nsIn K mainGlobals "all" = some none) (z_set : PySem.W.nsIn K mainGlobals "set" = some none) (z_tuple : PySem.W.nsIn K mainGlobals "tuple" = some none) :
    ∃ fd : FuncData, (∀ (s : Shared) (v : Value), BindsTo s fd ⟨[v], []⟩ [("_law_script", v)]) ∧ ∀ base : Heap, K.In base → base.Ns mainGlobals mg → FnOk l.prog w K mg base CX0 7 fa fd ["_law_script"] (spLaw K) := by
  have e := hfa.symm.trans (PySem.W.mg_of X G a30)
  cases e
  have m_isinstance := PySem.W.mg_none_of X G z_isinstance
  have m_int := PySem.W.mg_none_of X G z_int
  have m_bool := PySem.W.mg_none_of X G z_bool
  have m_range := PySem.W.mg_none_of X G z_range
  have m_list := PySem.W.mg_none_of X G z_list
  have m_len := PySem.W.mg_none_of X G z_len
  have m_abs := PySem.W.mg_none_of X G z_abs
  have m_any := PySem.W.mg_none_of X G z_any
  have m_all := PySem.W.mg_none_of X G z_all
  have m_set := PySem.W.mg_none_of X G z_set
  have m_tuple := PySem.W.mg_none_of X G z_tuple
  have F0 := fun_mk (st := s_is_whole) l0 c0 k0
  have b0 := F0.binds (ps := ["thing"]) fun _ _ _ _ _ _ us hl => match us, hl with | [_], _ => rfl
  have F1 := fun_mk (st := s_common_divisor) l1 c1 k1
  have b1 := F1.binds (ps := ["number", "above_nought"]) fun _ _ _ _ _ _ us hl => match us, hl with | [_, _], _ => rfl
  have F2 := fun_mkD (st := s_fraction) l2 c2 k2
  have b2 := F2.binds (ps := ["top", "bottom"]) (ds := []) t2 rfl fun _ _ _ _ _ _ us hl => match us, hl with | [_, _], _ => ⟨_, rfl, rfl⟩
  have e2 := F2.binds (ps := ["top", "bottom"]) (ds := [.int 1 tk2]) t2 rfl fun _ _ _ _ _ _ us hl => by
    have h1 : us.length = 1 := by simpa using hl
    match us, h1 with
    | [_], _ => exact ⟨_, rfl, rfl⟩
  have F3 := fun_mk (st := s_lowest) l3 c3 k3
  have b3 := F3.binds (ps := ["top", "bottom"]) fun _ _ _ _ _ _ us hl => match us, hl with | [_, _], _ => rfl
  have F4 := fun_mk (st := s_less) l4 c4 k4
  have b4 := F4.binds (ps := ["one", "other"]) fun _ _ _ _ _ _ us hl => match us, hl with | [_, _], _ => rfl
  have F5 := fun_mk (st := s_keeps) l5 c5 k5
  have b5 := F5.binds (ps := ["part", "bound"]) fun _ _ _ _ _ _ us hl => match us, hl with | [_, _], _ => rfl
  have F6 := fun_mk (st := s_tighter) l6 c6 k6
  have b6 := F6.binds (ps := ["one", "other"]) fun _ _ _ _ _ _ us hl => match us, hl with | [_, _], _ => rfl
  have F7 := fun_mk (st := s_bound_sum) l7 c7 k7
  have b7 := F7.binds (ps := ["one", "other"]) fun _ _ _ _ _ _ us hl => match us, hl with | [_, _], _ => rfl
  have F8 := fun_mk (st := s_open_table) l8 c8 k8
  have b8 := F8.binds (ps := ["k"]) fun _ _ _ _ _ _ us hl => match us, hl with | [_], _ => rfl
  have F9 := fun_mk (st := s_copied) l9 c9 k9
  have b9 := F9.binds (ps := ["table"]) fun _ _ _ _ _ _ us hl => match us, hl with | [_], _ => rfl
  have F10 := fun_mk (st := s_closed) l10 c10 k10
  have b10 := F10.binds (ps := ["table"]) fun _ _ _ _ _ _ us hl => match us, hl with | [_], _ => rfl
  have F11 := fun_mk (st := s_with_noughts) l11 c11 k11
  have b11 := F11.binds (ps := ["table"]) fun _ _ _ _ _ _ us hl => match us, hl with | [_], _ => rfl
  have F12 := fun_mk (st := s_straight_ways) l12 c12 k12
  have b12 := F12.binds (ps := ["size"]) fun _ _ _ _ _ _ us hl => match us, hl with | [_], _ => rfl
  have F13 := fun_mk (st := s_ring_through) l13 c13 k13
  have b13 := F13.binds (ps := ["bounds", "ways", "middle"]) fun _ _ _ _ _ _ us hl => match us, hl with | [_, _, _], _ => rfl
  have F14 := fun_mk (st := s_lead_through) l14 c14 k14
  have b14 := F14.binds (ps := ["bounds", "ways", "middle"]) fun _ _ _ _ _ _ us hl => match us, hl with | [_, _, _], _ => rfl
  have F15 := fun_mk (st := s__law_cell_at) l15 c15 k15
  have b15 := F15.binds (ps := ["_law_script", "_law_k"]) fun _ _ _ _ _ _ us hl => match us, hl with | [_, _], _ => rfl
  have F16 := fun_mk (st := s__law_mixed) l16 c16 k16
  have b16 := F16.binds (ps := ["_law_cell", "_law_k"]) fun _ _ _ _ _ _ us hl => match us, hl with | [_, _], _ => rfl
  have F17 := fun_mk (st := s__law_lowest) l17 c17 k17
  have b17 := F17.binds (ps := ["_law_top", "_law_bottom"]) fun _ _ _ _ _ _ us hl => match us, hl with | [_, _], _ => rfl
  have F18 := fun_mk (st := s__law_less) l18 c18 k18
  have b18 := F18.binds (ps := ["_law_one", "_law_other"]) fun _ _ _ _ _ _ us hl => match us, hl with | [_, _], _ => rfl
  have F19 := fun_mk (st := s__law_any_table) l19 c19 k19
  have b19 := F19.binds (ps := ["_law_seed", "_law_k", "_law_most"]) fun _ _ _ _ _ _ us hl => match us, hl with | [_, _, _], _ => rfl
  have F20 := fun_mk (st := s__law_part) l20 c20 k20
  have b20 := F20.binds (ps := ["_law_cell"]) fun _ _ _ _ _ _ us hl => match us, hl with | [_], _ => rfl
  have F21 := fun_mk (st := s__law_planted) l21 c21 k21
  have b21 := F21.binds (ps := ["_law_script", "_law_point"]) fun _ _ _ _ _ _ us hl => match us, hl with | [_, _], _ => rfl
  have F22 := fun_mk (st := s__law_table_by) l22 c22 k22
  have b22 := F22.binds (ps := ["_law_script"]) fun _ _ _ _ _ _ us hl => match us, hl with | [_], _ => rfl
  have F23 := fun_mk (st := s__law_whole) l23 c23 k23
  have b23 := F23.binds (ps := ["_law_found"]) fun _ _ _ _ _ _ us hl => match us, hl with | [_], _ => rfl
  have F24 := fun_mk (st := s__law_sum) l24 c24 k24
  have b24 := F24.binds (ps := ["_law_one", "_law_other"]) fun _ _ _ _ _ _ us hl => match us, hl with | [_, _], _ => rfl
  have F25 := fun_mk (st := s__law_tighter) l25 c25 k25
  have b25 := F25.binds (ps := ["_law_one", "_law_other"]) fun _ _ _ _ _ _ us hl => match us, hl with | [_, _], _ => rfl
  have F26 := fun_mk (st := s__law_closed) l26 c26 k26
  have b26 := F26.binds (ps := ["_law_table"]) fun _ _ _ _ _ _ us hl => match us, hl with | [_], _ => rfl
  have F27 := fun_mk (st := s__law_is_ring) l27 c27 k27
  have b27 := F27.binds (ps := ["_law_found", "_law_table"]) fun _ _ _ _ _ _ us hl => match us, hl with | [_, _], _ => rfl
  have F28 := fun_mk (st := s__law_is_bound) l28 c28 k28
  have b28 := F28.binds (ps := ["_law_found"]) fun _ _ _ _ _ _ us hl => match us, hl with | [_], _ => rfl
  have F29 := fun_mk (st := s__law_right) l29 c29 k29
  have b29 := F29.binds (ps := ["_law_found", "_law_table"]) fun _ _ _ _ _ _ us hl => match us, hl with | [_, _], _ => rfl
  have F30 := fun_mk (st := s_law) l30 c30 k30
  refine ⟨PySem.W.fnOf "law" "law" (defArgs s_law) (defBody s_law) (defScope s_law) .none kV30 dc30 pm30 an30 cd30 ct30, fun s v => .of_eq rfl, fun base _ _ => ?_⟩
  have his_whole : Has l.prog w K mg base 1 "is_whole" ["thing"] (fn S_is_whole) := ⟨⟨_, _, ok_is_whole F0   m_isinstance m_int m_bool, PySem.W.mg_of X G a0, k0, b0⟩⟩
  have hcommon_divisor : Has l.prog w K mg base 1 "common_divisor" ["number", "above_nought"] (fn S_common_divisor) := ⟨⟨_, _, ok_common_divisor F1   , PySem.W.mg_of X G a1, k1, b1⟩⟩
  have hless : Has l.prog w K mg base 1 "less" ["one", "other"] (fn S_less) := ⟨⟨_, _, ok_less F4   , PySem.W.mg_of X G a4, k4, b4⟩⟩
  have htighter : Has l.prog w K mg base 1 "tighter" ["one", "other"] (fn S_tighter) := ⟨⟨_, _, ok_tighter F6   , PySem.W.mg_of X G a6, k6, b6⟩⟩
  have hbound_sum : Has l.prog w K mg base 1 "bound_sum" ["one", "other"] (fn S_bound_sum) := ⟨⟨_, _, ok_bound_sum F7   , PySem.W.mg_of X G a7, k7, b7⟩⟩
  have hopen_table : HasF l.prog w K mg base 1 "open_table" ["k"] (fn S_open_table) := ⟨⟨_, _, ok_open_table F8   m_range, PySem.W.mg_of X G a8, k8, b8⟩⟩
  have hcopied : HasF l.prog w K mg base 1 "copied" ["table"] (fn S_copied) := ⟨⟨_, _, ok_copied F9   m_list, PySem.W.mg_of X G a9, k9, b9⟩⟩
  have hstraight_ways : HasF l.prog w K mg base 1 "straight_ways" ["size"] (fn S_straight_ways) := ⟨⟨_, _, ok_straight_ways F12   m_range, PySem.W.mg_of X G a12, k12, b12⟩⟩
  have hLcell_at : Has l.prog w K mg base 1 "_law_cell_at" ["_law_script", "_law_k"] (fn S__law_cell_at) := ⟨⟨_, _, ok__law_cell_at F15   m_len, PySem.W.mg_of X G a15, k15, b15⟩⟩
  have hLmixed : HasF l.prog w K mg base 1 "_law_mixed" ["_law_cell", "_law_k"] (fn S__law_mixed) := ⟨⟨_, _, ok__law_mixed F16   , PySem.W.mg_of X G a16, k16, b16⟩⟩
  have hLlowest : Has l.prog w K mg base 1 "_law_lowest" ["_law_top", "_law_bottom"] (fn S__law_lowest) := ⟨⟨_, _, ok__law_lowest F17   m_abs, PySem.W.mg_of X G a17, k17, b17⟩⟩
  have hLless : Has l.prog w K mg base 1 "_law_less" ["_law_one", "_law_other"] (fn S__law_less) := ⟨⟨_, _, ok__law_less F18   , PySem.W.mg_of X G a18, k18, b18⟩⟩
  have hLwhole : Has l.prog w K mg base 1 "_law_whole" ["_law_found"] (fn S__law_whole) := ⟨⟨_, _, ok__law_whole F23   m_isinstance m_int m_bool, PySem.W.mg_of X G a23, k23, b23⟩⟩
  have hLsum : Has l.prog w K mg base 1 "_law_sum" ["_law_one", "_law_other"] (fn S__law_sum) := ⟨⟨_, _, ok__law_sum F24   , PySem.W.mg_of X G a24, k24, b24⟩⟩
  have hLtighter : Has l.prog w K mg base 1 "_law_tighter" ["_law_one", "_law_other"] (fn S__law_tighter) := ⟨⟨_, _, ok__law_tighter F25   , PySem.W.mg_of X G a25, k25, b25⟩⟩
  have hlowest : Has l.prog w K mg base 2 "lowest" ["top", "bottom"] (fn S_lowest) := ⟨⟨_, _, ok_lowest F3 hcommon_divisor  , PySem.W.mg_of X G a3, k3, b3⟩⟩
  have hwith_noughts : HasF l.prog w K mg base 2 "with_noughts" ["table"] (fn S_with_noughts) := ⟨⟨_, _, ok_with_noughts F11 hcopied  m_range m_len, PySem.W.mg_of X G a11, k11, b11⟩⟩
  have hlead_through : HasM l.prog w K mg base 2 "lead_through" ["bounds", "ways", "middle"] (fnM S_lead_through) := ⟨⟨_, _, ok_lead_through F14 hbound_sum htighter  m_range m_len, PySem.W.mg_of X G a14, k14, b14⟩⟩
  have hLany_table : HasF l.prog w K mg base 2 "_law_any_table" ["_law_seed", "_law_k", "_law_most"] (fn S__law_any_table) := ⟨⟨_, _, ok__law_any_table F19 hLmixed  m_range, PySem.W.mg_of X G a19, k19, b19⟩⟩
  have hLpart : Has l.prog w K mg base 2 "_law_part" ["_law_cell"] (fn S__law_part) := ⟨⟨_, _, ok__law_part F20 hLlowest  , PySem.W.mg_of X G a20, k20, b20⟩⟩
  have hLplanted : HasF l.prog w K mg base 2 "_law_planted" ["_law_script", "_law_point"] (fn S__law_planted) := ⟨⟨_, _, ok__law_planted F21 hLless hLmixed hLcell_at  m_range m_len, PySem.W.mg_of X G a21, k21, b21⟩⟩
  have hLclosed : HasF l.prog w K mg base 2 "_law_closed" ["_law_table"] (fn S__law_closed) := ⟨⟨_, _, ok__law_closed F26 hLtighter hLsum  m_range m_any m_list m_len, PySem.W.mg_of X G a26, k26, b26⟩⟩
  have hLis_ring : HasF l.prog w K mg base 2 "_law_is_ring" ["_law_found", "_law_table"] (fn S__law_is_ring) := ⟨⟨_, _, ok__law_is_ring F27 hLsum hLwhole  m_range m_all m_len m_isinstance m_list m_set, PySem.W.mg_of X G a27, k27, b27⟩⟩
  have hLis_bound : Has l.prog w K mg base 2 "_law_is_bound" ["_law_found"] (fn S__law_is_bound) := ⟨⟨_, _, ok__law_is_bound F28 hLwhole  m_isinstance m_bool m_tuple m_len, PySem.W.mg_of X G a28, k28, b28⟩⟩
  have hfraction : Has l.prog w K mg base 3 "fraction" ["top", "bottom"] (fn S_fraction) := ⟨⟨_, _, ok_fraction F2 hlowest his_whole  , PySem.W.mg_of X G a2, k2, b2⟩⟩
  have hfractionD : HasD l.prog w K mg base 3 "fraction" ["top", "bottom"] [1] (fn S_fraction) := ⟨⟨_, _, _, ok_fraction F2 hlowest his_whole  , PySem.W.mg_of X G a2, k2, .cons ⟨_, rfl⟩ .nil, e2⟩⟩
  have hLtable_by : HasF l.prog w K mg base 3 "_law_table_by" ["_law_script"] (fn S__law_table_by) := ⟨⟨_, _, ok__law_table_by F22 hLcell_at hLplanted hLpart hLany_table  m_int m_range, PySem.W.mg_of X G a22, k22, b22⟩⟩
  have hLright : HasF l.prog w K mg base 3 "_law_right" ["_law_found", "_law_table"] (fn S__law_right) := ⟨⟨_, _, ok__law_right F29 hLclosed hLis_ring hLis_bound  m_isinstance m_tuple m_len m_list m_all, PySem.W.mg_of X G a29, k29, b29⟩⟩
  have hkeeps : Has l.prog w K mg base 4 "keeps" ["part", "bound"] (fn S_keeps) := ⟨⟨_, _, ok_keeps F5 hfractionD hless  , PySem.W.mg_of X G a5, k5, b5⟩⟩
  have hring_through : HasF l.prog w K mg base 5 "ring_through" ["bounds", "ways", "middle"] (fn S_ring_through) := ⟨⟨_, _, ok_ring_through F13 hbound_sum hkeeps hfractionD  m_range m_len, PySem.W.mg_of X G a13, k13, b13⟩⟩
  have hclosed : HasF l.prog w K mg base 6 "closed" ["table"] (fn S_closed) := ⟨⟨_, _, ok_closed F10 hwith_noughts hstraight_ways hring_through hlead_through hkeeps hfractionD  m_range m_len, PySem.W.mg_of X G a10, k10, b10⟩⟩
  exact ok_law F30 hclosed hopen_table hLtable_by hLright  m_range m_list m_len
theorem walk {l : PySem.W.OpenLaw} {q : Program} {loose : List Str} {XP : (Str → Option Value) → Heap → Prop} {YP : World → Heap → Prop} {d : DefRec} {K : Params → PySem.W.Frag} (hn : l.most = some 63) (hdf : d.params.defaults = [])
    (hY : ∀ (w : World) (h : Heap), YP w h → (K w.params).In h)
    (F : ∀ (w : World) (mg : Str → Option Value) (fa : Addr) (h : Heap), (K w.params).In h → h.Ns mainGlobals mg → mg d.name = some (.ref fa) →
      ∃ fd : FuncData, (∀ (s : Shared) (u : Value), BindsTo s fd ⟨[u], []⟩ [("_law_script", u)]) ∧ ∀ base : Heap, (K w.params).In base → base.Ns mainGlobals mg → FnOk l.prog w (K w.params) mg base CX0 7 fa fd ["_law_script"] (spLaw (K w.params))) :
    PySem.W.WalkO q loose XP YP l.row.toRowW d [] (fun f vs => PySem.call f vs) :=
  L2.walk_of (n := 63) (k := 7) (x := "_law_script") (CX := fun _ => CX0) (sp := fun w => spLaw (K w.params)) hn (by decide) hdf ⟨rfl, by decide, by decide⟩ hY F (fun _ _ a ns hl _ hS => ⟨a, ns, rfl, hS, hl, fun _ => rfl⟩) fun _ _ _ _ _ z => z
end
end Mine
open PySem PySem.W PyProof.Rows
set_option maxRecDepth 100000 in
set_option maxHeartbeats 0 in
theorem PySem.Challenge.cw_watchyard_k21_ring_or_closed_holds : PySem.Challenge.rw_watchyard_k21_ring_or_closed.Holds := by
  w_on; o_law; k_head; (case hw => w_witness2)
  k_fill
  refine Mine.walk (l := PySem.Challenge.rw_watchyard_k21_ring_or_closed) rfl rfl (fun w h Y => PySem.W.kIn_of Y) ?F
  case F =>
    intro w mg fa h KX G hmg
    refine' Mine.all_mk KX G hmg ?a0 ?l0 ?c0 ?k0 ?a1 ?l1 ?c1 ?k1 ?a2 ?l2 ?t2 ?c2 ?k2 ?a3 ?l3 ?c3 ?k3 ?a4 ?l4 ?c4 ?k4 ?a5 ?l5 ?c5 ?k5 ?a6 ?l6 ?c6 ?k6 ?a7 ?l7 ?c7 ?k7 ?a8 ?l8 ?c8 ?k8 ?a9 ?l9 ?c9 ?k9 ?a10 ?l10 ?c10 ?k10 ?a11 ?l11 ?c11 ?k11 ?a12 ?l12 ?c12 ?k12 ?a13 ?l13 ?c13 ?k13 ?a14 ?l14 ?c14 ?k14 ?a15 ?l15 ?c15 ?k15 ?a16 ?l16 ?c16 ?k16 ?a17 ?l17 ?c17 ?k17 ?a18 ?l18 ?c18 ?k18 ?a19 ?l19 ?c19 ?k19 ?a20 ?l20 ?c20 ?k20 ?a21 ?l21 ?c21 ?k21 ?a22 ?l22 ?c22 ?k22 ?a23 ?l23 ?c23 ?k23 ?a24 ?l24 ?c24 ?k24 ?a25 ?l25 ?c25 ?k25 ?a26 ?l26 ?c26 ?k26 ?a27 ?l27 ?c27 ?k27 ?a28 ?l28 ?c28 ?k28 ?a29 ?l29 ?c29 ?k29 ?a30 ?l30 ?c30 ?k30 ?z_isinstance ?z_int ?z_bool ?z_range ?z_list ?z_len ?z_abs ?z_any ?z_all ?z_set ?z_tuple
    (case a0 => k_is)
    (case l0 => k_is)
    (case c0 => k_is)
    (case k0 => k_is)
    (case a1 => k_is)
    (case l1 => k_is)
    (case c1 => k_is)
    (case k1 => k_is)
    (case a2 => k_is)
    (case l2 => k_is)
    (case t2 => k_is)
    (case c2 => k_is)
    (case k2 => k_is)
    (case a3 => k_is)
    (case l3 => k_is)
    (case c3 => k_is)
    (case k3 => k_is)
    (case a4 => k_is)
    (case l4 => k_is)
    (case c4 => k_is)
    (case k4 => k_is)
    (case a5 => k_is)
    (case l5 => k_is)
    (case c5 => k_is)
    (case k5 => k_is)
    (case a6 => k_is)
    (case l6 => k_is)
    (case c6 => k_is)
    (case k6 => k_is)
    (case a7 => k_is)
    (case l7 => k_is)
    (case c7 => k_is)
    (case k7 => k_is)
    (case a8 => k_is)
    (case l8 => k_is)
    (case c8 => k_is)
    (case k8 => k_is)
    (case a9 => k_is)
    (case l9 => k_is)
    (case c9 => k_is)
    (case k9 => k_is)
    (case a10 => k_is)
    (case l10 => k_is)
    (case c10 => k_is)
    (case k10 => k_is)
    (case a11 => k_is)
    (case l11 => k_is)
    (case c11 => k_is)
    (case k11 => k_is)
    (case a12 => k_is)
    (case l12 => k_is)
    (case c12 => k_is)
    (case k12 => k_is)
    (case a13 => k_is)
    (case l13 => k_is)
    (case c13 => k_is)
    (case k13 => k_is)
    (case a14 => k_is)
    (case l14 => k_is)
    (case c14 => k_is)
    (case k14 => k_is)
    (case a15 => k_is)
    (case l15 => k_is)
    (case c15 => k_is)
    (case k15 => k_is)
    (case a16 => k_is)
    (case l16 => k_is)
    (case c16 => k_is)
    (case k16 => k_is)
    (case a17 => k_is)
    (case l17 => k_is)
    (case c17 => k_is)
    (case k17 => k_is)
    (case a18 => k_is)
    (case l18 => k_is)
    (case c18 => k_is)
    (case k18 => k_is)
    (case a19 => k_is)
    (case l19 => k_is)
    (case c19 => k_is)
    (case k19 => k_is)
    (case a20 => k_is)
    (case l20 => k_is)
    (case c20 => k_is)
    (case k20 => k_is)
    (case a21 => k_is)
    (case l21 => k_is)
    (case c21 => k_is)
    (case k21 => k_is)
    (case a22 => k_is)
    (case l22 => k_is)
    (case c22 => k_is)
    (case k22 => k_is)
    (case a23 => k_is)
    (case l23 => k_is)
    (case c23 => k_is)
    (case k23 => k_is)
    (case a24 => k_is)
    (case l24 => k_is)
    (case c24 => k_is)
    (case k24 => k_is)
    (case a25 => k_is)
    (case l25 => k_is)
    (case c25 => k_is)
    (case k25 => k_is)
    (case a26 => k_is)
    (case l26 => k_is)
    (case c26 => k_is)
    (case k26 => k_is)
    (case a27 => k_is)
    (case l27 => k_is)
    (case c27 => k_is)
    (case k27 => k_is)
    (case a28 => k_is)
    (case l28 => k_is)
    (case c28 => k_is)
    (case k28 => k_is)
    (case a29 => k_is)
    (case l29 => k_is)
    (case c29 => k_is)
    (case k29 => k_is)
    (case a30 => k_is)
    (case l30 => k_is)
    (case c30 => k_is)
    (case k30 => k_is)
    (case z_isinstance => k_is)
    (case z_int => k_is)
    (case z_bool => k_is)
    (case z_range => k_is)
    (case z_list => k_is)
    (case z_len => k_is)
    (case z_abs => k_is)
    (case z_any => k_is)
    (case z_all => k_is)
    (case z_set => k_is)
    (case z_tuple => k_is)
